import PyProof.Rows.All
import Wide.All
import OpenK.AllK
import Wide.FinOn
import Lean
import PyProof.EqAt
import PyProof.EqKinds
import PyProof.TupleCall
import PyProof.NeKinds
import PyProof.CompFree
import PyProof.ListRange
import PyProof.Rows.FStr
import PyProof.ConsumeWalk
import PyProof.ZipIter
import PyProof.TableCode
import PySem.Challenge.RW_fieldgate_k42_cells_and_fields
set_option maxRecDepth 100000
set_option linter.all false
set_option Elab.async false
section
namespace L2
open PySem
noncomputable def inClass (s:Stmt) (j:Nat):Stmt:=match s with
 | .ClassDef _ _ _ body _ _ _ _ _ _ _=>body.getD j (.Pass ⟨0,0,0,0⟩)
 | _=>.Pass ⟨0,0,0,0⟩
noncomputable def i0 (s:Stmt):Arguments:=match s with
 | .FunctionDef _ a _ _ _ _ _ _ _ _=>a
 | _=>{ posonlyargs:=[],args:=[],vararg:=none,kwonlyargs:=[],kw_defaults:=[],kwarg:=none,defaults:=[] }
noncomputable def cK (s:Stmt):List Stmt:=match s with
 | .FunctionDef _ _ b _ _ _ _ _ _ _=>b
 | _=>[]
noncomputable def aH (s:Stmt):Scope:=match s with
 | .FunctionDef _ _ _ _ _ _ sc _ _ _=>sc
 | _=>{ kind:=.function,names:=[],isGenerator:=false,isCoroutine:=false }
end L2
end
section
namespace Fg
open PySem
abbrev Ky:=Sum Int Str
inductive D where
 | ai
 | bl (b:Bool)
 | int (i:Int)
 | str (x:Str)
 | tup (ds:List D)
 | lst (ds:List D)
 | dct (ks:List Ky) (ds:List D)
 | ref (n:Nat)
mutual
def same (a b:D):Bool:=match a with
 | .ai=>match b with | .ai=>true | _=>false
 | .bl x=>match b with | .bl y=>decide (x=y) | _=>false
 | .int x=>match b with | .int y=>decide (x=y) | _=>false
 | .str x=>match b with | .str y=>decide (x=y) | _=>false
 | .tup x=>match b with | .tup y=>gf x y | _=>false
 | .lst x=>match b with | .lst y=>gf x y | _=>false
 | .dct k x=>match b with | .dct l y=>decide (k=l)&&gf x y | _=>false
 | .ref x=>match b with | .ref y=>decide (x=y) | _=>false
def gf (a b:List D):Bool:=match a with
 | []=>match b with | []=>true | _=>false
 | x::xs=>match b with | y::ys=>same x y&&gf xs ys | _=>false
end
mutual
theorem uq:∀ (a b:D),same a b=true->a=b
 | .ai,b,h=>by cases b <;> simp [same] at h ⊢
 | .bl x,b,h=>by cases b <;> simp [same] at h ⊢;exact h
 | .int x,b,h=>by cases b <;> simp [same] at h ⊢;exact h
 | .str x,b,h=>by cases b <;> simp [same] at h ⊢;exact h
 | .tup x,b,h=>by cases b <;> simp [same] at h ⊢;exact iI _ _ h
 | .lst x,b,h=>by cases b <;> simp [same] at h ⊢;exact iI _ _ h
 | .dct k x,b,h=>by cases b <;> simp [same] at h ⊢;exact ⟨h.1,iI _ _ h.2⟩
 | .ref x,b,h=>by cases b <;> simp [same] at h ⊢;exact h
theorem iI:∀ (a b:List D),gf a b=true->a=b
 | [],b,h=>by cases b <;> simp [gf] at h ⊢
 | x::xs,b,h=>by
  cases b with
  | nil=>simp [gf] at h
  | cons y ys=>simp only [gf,Bool.and_eq_true] at h;rw [uq x y h.1,iI xs ys h.2]
end
mutual
theorem same_refl:∀ (a:D),same a a=true
 | .ai=>by simp [same]
 | .bl x=>by simp [same]
 | .int x=>by simp [same]
 | .str x=>by simp [same]
 | .tup x=>by simp only [same];exact fj x
 | .lst x=>by simp only [same];exact fj x
 | .dct k x=>by simp only [same,fj x];simp
 | .ref x=>by simp [same]
theorem fj:∀ (a:List D),gf a a=true
 | []=>by simp [gf]
 | x::xs=>by simp only [gf,same_refl x,fj xs,Bool.and_self]
end
instance:DecidableEq D:=fun a b=>decidable_of_iff (same a b=true) ⟨uq a b,fun h=>h ▸ same_refl a⟩
inductive MO where
 | lst (ds:List D)
 | dct (kvs:List (Ky×D))
 | pD (kvs:List (Ky×D))
 | ins (c:Nat) (fs:List (Str×D))
 deriving DecidableEq
noncomputable abbrev MH:=List MO
noncomputable abbrev Sg:=List (Option D)
inductive R (α:Type) where
 | ok (a:α) (M:MH)
 | exc (c:Nat) (M:MH)
 | bad
noncomputable def R.bind {α β:Type} (x:R α) (f:α->MH->R β):R β :=
 match x with
 | .ok a M=>f a M
 | .exc c M=>.exc c M
 | .bad=>.bad
@[simp] theorem R.af {α β:Type} (a:α) (M:MH) (f:α->MH->R β):(R.ok a M).bind f=f a M:=rfl
@[simp] theorem R.lV {α β:Type} (c:Nat) (M:MH) (f:α->MH->R β):(R.exc c M:R α).bind f=.exc c M:=rfl
@[simp] theorem R.i7 {α β:Type} (f:α->MH->R β):(R.bad:R α).bind f=.bad:=rfl
inductive DF where
 | add | sub | mul | fdiv | mod | pow
inductive AG where
 | eq | ne | lt | le | gt | ge | isin | iJ | qq | iK
inductive Ty where
 | int | str | bool | list | tuple | dict
inductive Bl where
 | len | sum | tuple | list | dict | str | int | abs | max | min | sorted | all | any | repr
inductive Mt where
 | append | extend | pop | reverse | clear | get | join | startswith | replace | split | index | count
inductive F1 where
 | abs | int
mutual
inductive E where
 | v (i:Nat)
 | k (d:D)
 | g (i:Nat)
 | tup (es:Es)
 | lst (fz:Bool) (es:Es)
 | Dg
 | op (o:DF) (fz:Bool) (a b:E)
 | neg (a:E)
 | cmp (o:AG) (a b:E)
 | chain (o o':AG) (a b c:E)
 | and (a b:E)
 | or (a b:E)
 | not (a:E)
 | tru (a:E)
 | AL (c a b:E)
 | idx (a b:E)
 | sl (fz:Bool) (a:E) (lo hi:O)
 | call (f:Nat) (es:Es)
 | fV (a:E) (t:Ty)
 | blt (b:Bl) (fz:Bool) (es:Es)
 | aG (m:Mt) (fz:Bool) (a:E) (es:Es)
 | comp (fz:Bool) (caps:List Nat) (tg:List Nat) (elt:E) (it:Src) (cond:O)
 | fld (a:E) (f:Str)
 | dS (c m:Nat) (nm:Str) (a:E) (es:Es)
 | new (c i:Nat) (es:Es)
 | mx (hi:Bool) (a b:E)
 | M6 (fz:Bool) (a b:E)
 | Ct (fz:Bool) (a:E)
 | rv (fz:Bool) (a:E)
 | all1 (a:E)
 | ou (f:F1) (a:E)
 | gW (f:Nat) (es:Es) (d:Int)
 | bad
inductive Es where
 | nil
 | cons (e:E) (es:Es)
inductive O where
 | none
 | some (e:E)
inductive Src where
 | e (a:E)
 | eF (a:E)
 | FI (a b:E)
 | enum (a:E)
 | items (a:E)
 | rev (a:E)
 | zip (a b:E)
end
mutual
inductive S where
 | set (i:Nat) (e:E)
 | mh (a b e:E)
 | bZ (a:E) (f:Str) (e:E)
 | nJ (tg:List Nat) (e:E)
 | ex (e:E)
 | ret (e:E)
 | FJ
 | ifs (c:E) (a b:Ss)
 | for (tg:List Nat) (it:Src) (b:Ss)
 | while (c:E) (b:Ss)
 | brk
 | cont
 | pass
 | raise (c:Nat) (es:Es)
 | try (b:Ss) (hs:Hs) (els:Ss)
 | bad
inductive Ss where
 | nil
 | cons (s:S) (ss:Ss)
inductive Hs where
 | nil
 | cons (cs:List Nat) (b:Ss) (hs:Hs)
end
inductive Out where
 | nx (σ:Sg)
 | rt (d:D)
 | bk (σ:Sg)
 | ct (σ:Sg)
 | xc (c:Nat) (σ:Sg)
noncomputable def R.use {α:Type} (x:R α) (σ:Sg) (f:α->MH->R Out):R Out :=
 match x with
 | .ok a M=>f a M
 | .exc c M=>.ok (.xc c σ) M
 | .bad=>.bad
@[simp] theorem R.d8 {α:Type} (a:α) (M:MH) (σ:Sg) (f:α->MH->R Out):(R.ok a M).use σ f=f a M:=rfl
@[simp] theorem R.tU {α:Type} (c:Nat) (M:MH) (σ:Sg) (f:α->MH->R Out):(R.exc c M:R α).use σ f=.ok (.xc c σ) M:=rfl
@[simp] theorem R.MJ {α:Type} (σ:Sg) (f:α->MH->R Out):(R.bad:R α).use σ f=.bad:=rfl
inductive Vw where
 | tup (ds:List D)
 | lst (ds:List D)
 | dct (kvs:List (Ky×D))
 | none
noncomputable def vw (M:MH):D->Vw
 | .tup ds=>.tup ds
 | .lst ds=>.lst ds
 | .dct ks ds=>.dct (ks.zip ds)
 | .ref n=>match M[n]? with
  | some (.lst ds)=>.lst ds
  | some (.dct kvs)=>.dct kvs
  | some (.pD kvs)=>.dct kvs
  | _=>.none
 | _=>.none
noncomputable def line:Nat:=1000000
noncomputable def small (i:Int):Bool:=decide (i.natAbs<18446744073709551616)
noncomputable def mid (i:Int):Bool:=decide (i.natAbs<10 ^ 200)
noncomputable def gF:DF->Int->Int->Option Int
 | .add,i,j=>some (i+j)
 | .sub,i,j=>some (i-j)
 | .mul,i,j=>if small i||small j then some (i*j) else if mid i&&mid j then some (i*j) else none
 | .fdiv,i,j=>if decide (0<j)&&decide (j.natAbs<1073741824) then some (i / j) else none
 | .mod,i,j=>if decide (0<j) then some (i % j) else none
 | .pow,i,j=>if decide (0<=j)&&(decide (j<=1000000)&&decide (i.natAbs<18446744073709551616)) then some (i ^ j.toNat) else none
noncomputable def cF (fz:Bool) (ds:List D) (M:MH):R D:=if fz then .ok (.lst ds) M else .ok (.ref M.length) (M++[.lst ds])
noncomputable def rq (o:DF) (fz:Bool) (M:MH):D->D->R D
 | .int i,.int j=>match gF o i j with
  | some k=>.ok (.int k) M
  | none=>.bad
 | .str x,.str y=>match o with
  | .add=>if decide (x.length+y.length<=line) then .ok (.str (x++y)) M else .bad
  | _=>.bad
 | a, b=>match o with
  | .add=>match vw M a,vw M b with
   | .lst xs,.lst ys=>if decide (xs.length+ys.length<=line) then cF fz (xs++ys) M else .bad
   | .tup xs,.tup ys=>if !xs.isEmpty&&decide (xs.length+ys.length<=line) then .ok (.tup (xs++ys)) M else .bad
   | _,_=>.bad
  | .mul=>match vw M a,b with
   | .lst xs,.int k=>if decide (xs.length*k.toNat<=line)&&decide (k.natAbs<=1000000) then cF fz (List.replicate k.toNat xs).flatten M else .bad
   | _,_=>.bad
  | _=>.bad
mutual
noncomputable def plain:D->Bool
 | .ai=>true
 | .bl _=>false
 | .int _=>true
 | .str _=>true
 | .tup ds=>av ds
 | .lst ds=>av ds
 | .dct _ _=>false
 | .ref _=>false
noncomputable def av:List D->Bool
 | []=>true
 | d::ds=>plain d&&av ds
end
mutual
noncomputable def dep:D->Nat
 | .tup ds=>deps ds+1
 | .lst ds=>deps ds+1
 | .dct _ ds=>deps ds+1
 | .ai=>0
 | .bl _=>0
 | .int _=>0
 | .str _=>0
 | .ref _=>0
noncomputable def deps:List D->Nat
 | []=>0
 | d::ds=>max (dep d) (deps ds)
end
mutual
noncomputable def aN:D->D->Bool
 | .ai,.ai=>true
 | .bl a,.bl b=>a == b
 | .int a,.int b=>decide (a=b)
 | .str a,.str b=>decide (a=b)
 | .tup a,.tup b=>dN a b
 | .lst a,.lst b=>dN a b
 | _,_=>false
noncomputable def dN:List D->List D->Bool
 | [],[]=>true
 | a::as,b::bs=>aN a b&&dN as bs
 | _,_=>false
end
noncomputable def keyOf:D->Option Ky
 | .int i=>some (.inl i)
 | .str x=>some (.inr x)
 | _=>none
noncomputable def Na:Ky->D
 | .inl i=>.int i
 | .inr x=>.str x
noncomputable def look (kvs:List (Ky×D)) (k:Ky):Option D:=(kvs.find? fun kv=>decide (kv.1=k)).map (·.2)
noncomputable def put (kvs:List (Ky×D)) (k:Ky) (v:D):List (Ky×D) :=
 if kvs.any (fun kv=>decide (kv.1=k)) then kvs.map fun kv=>if kv.1=k then (kv.1,v) else kv else kvs++[(k,v)]
noncomputable def top (M:MH):D->D
 | .ref n=>match M[n]? with
  | some (.lst ds)=>.lst ds
  | _=>.ref n
 | d=>d
noncomputable def flat:D->Bool
 | .ai=>true
 | .int _=>true
 | .str _=>true
 | _=>false
noncomputable def bw (a b:D):Bool:=(plain a&&plain b)&&(decide (dep a<=100)||decide (dep b<=100))
noncomputable def kU (M:MH) (a b:D):Option Bool:=match vw M a,vw M b with
 | .lst xs,.lst ys=>if ys.isEmpty then some xs.isEmpty else none
 | _,_=>none
noncomputable def deep:Nat->MH->D->D
 | 0,_,d=>d
 | n+1,M,d=>match d with
  | .ref r=>(match M[r]? with
   | some (.lst ds)=>.lst (ds.map (deep n M))
   | _=>.ref r)
  | .tup ds=>.tup (ds.map (deep n M))
  | .lst ds=>.lst (ds.map (deep n M))
  | d=>d
noncomputable def C6 (M:MH) (neg:Bool) (a b:D):R D:=if bw (deep 120 M a) (deep 120 M b) then .ok (.bl (if neg then !aN (deep 120 M a) (deep 120 M b) else aN (deep 120 M a) (deep 120 M b))) M else .bad
noncomputable def tD (M:MH) (f:Int->Int->Bool) (a b:D):R D:=match a with
 | .int i=>(match b with | .int j=>.ok (.bl (f i j)) M | _=>.bad)
 | _=>.bad
noncomputable def Js (M:MH) (a b:D):R D:=if bw (top M a) (top M b) then .ok (.bl (aN (top M a) (top M b))) M else (match kU M a b with | some t=>.ok (.bl t) M | none=>C6 M false a b)
noncomputable def wj (M:MH) (a b:D):R D:=if bw (top M a) (top M b) then .ok (.bl (!aN (top M a) (top M b))) M else (match kU M a b with | some t=>.ok (.bl (!t)) M | none=>C6 M true a b)
noncomputable def dY:D->Bool
 | .ai=>true
 | _=>false
noncomputable def w9 (a b:D):Option (Bool×Bool):=match a with
 | .bl x=>(match b with | .bl y=>some (x,y) | _=>none)
 | _=>none
noncomputable def AK (M:MH) (a b:D):Option Bool:=match vw M b with
 | .dct kvs=>(match keyOf a with | some k=>some (look kvs k).isSome | none=>none)
 | .lst ds=>if flat a&&ds.all flat then some (ds.any fun d=>aN d a) else none
 | .tup ds=>if flat a&&ds.all flat then some (ds.any fun d=>aN d a) else none
 | .none=>none
noncomputable def bu (o:AG) (M:MH) (a b:D):R D :=
 match o with
 | .lt=>tD M (fun i j=>decide (i<j)) a b
 | .le=>tD M (fun i j=>decide (i<=j)) a b
 | .gt=>tD M (fun i j=>decide (j<i)) a b
 | .ge=>tD M (fun i j=>decide (j<=i)) a b
 | .eq=>(match w9 a b with | some p=>.ok (.bl (p.1 == p.2)) M | none=>Js M a b)
 | .ne=>(match w9 a b with | some p=>.ok (.bl (!(p.1 == p.2))) M | none=>wj M a b)
 | .qq=>if dY b then .ok (.bl (dY a)) M else .bad
 | .iK=>if dY b then .ok (.bl (!dY a)) M else .bad
 | .isin=>(match AK M a b with | some t=>.ok (.bl t) M | none=>.bad)
 | .iJ=>(match AK M a b with | some t=>.ok (.bl (!t)) M | none=>.bad)
noncomputable def sH (n:Nat) (i:Int):Option Nat:=if 0<=i then (if i<n then some i.toNat else none) else if -(n:Int)<=i then some (i+n).toNat else none
noncomputable def dc {α:Type} (xs:List α) (i:Int):Option α:=(sH xs.length i).bind fun j=>xs[j]?
noncomputable def six (n d:Nat):Option Int->Nat
 | none=>d
 | some v=>if v<0 then (v+(n:Int)).toNat else min v.toNat n
noncomputable def eV {α:Type} (xs:List α) (lo hi:Option Int):List α:=(xs.drop (six xs.length 0 lo)).take (six xs.length xs.length hi-six xs.length 0 lo)
noncomputable def cuts (x:Str) (lo hi:Option Int):Str:=⟨(eV x.cps.toList lo hi).toArray⟩
noncomputable def n9 (M:MH) (a b:D):R D :=
 match a,b with
 | .str x,.int i=>if decide (x.length<=line) then (match dc x.cps.toList i with
  | some c=>.ok (.str ⟨#[c]⟩) M
  | none=>.bad) else .bad
 | a, b=>match vw M a, b with
  | .tup ds,.int i=>match dc ds i with
   | some d=>.ok d M
   | none=>.bad
  | .lst ds,.int i=>match dc ds i with
   | some d=>.ok d M
   | none=>.bad
  | .dct kvs,b=>match keyOf b with
   | some k=>match look kvs k with
    | some d=>.ok d M
    | none=>.bad
   | none=>.bad
  | _,_=>.bad
noncomputable def Ew (n:Nat) (lo hi:Option Int):Bool:=decide (six n 0 lo=0)&&decide (six n n hi=n)
noncomputable def sl2 (fz:Bool) (M:MH) (a:D) (lo hi:Option Int):R D :=
 match a with
 | .str x=>if decide (x.length<=line) then .ok (.str (cuts x lo hi)) M else .bad
 | a=>match vw M a with
  | .tup ds=>if Ew ds.length lo hi then .bad else .ok (.tup (eV ds lo hi)) M
  | .lst ds=>cF fz (eV ds lo hi) M
  | _=>.bad
noncomputable def HM (M:MH) (t:Ty):D->Bool
 | .int _=>match t with | .int=>true | _=>false
 | .bl _=>match t with | .int=>true | .bool=>true | _=>false
 | .str _=>match t with | .str=>true | _=>false
 | .tup _=>match t with | .tuple=>true | _=>false
 | .lst _=>match t with | .list=>true | _=>false
 | .dct _ _=>match t with | .dict=>true | _=>false
 | .ai=>false
 | .ref n=>match M[n]? with
  | some (.lst _)=>(match t with | .list=>true | _=>false)
  | some (.dct _)=>(match t with | .dict=>true | _=>false)
  | some (.pD _)=>(match t with | .dict=>true | _=>false)
  | _=>false
noncomputable def yH (M:MH):D->Bool
 | .ref n=>match M[n]? with
  | some (.lst _)=>true
  | some (.dct _)=>true
  | some (.pD _)=>true
  | _=>false
 | _=>true
noncomputable def intsOf:List D->Option (List Int)
 | []=>some []
 | .int i::ds=>(intsOf ds).map (i::·)
 | _=>none
noncomputable def boolsOf:List D->Option (List Bool)
 | []=>some []
 | .bl b::ds=>(boolsOf ds).map (b::·)
 | _=>none
noncomputable def wM:F1->D->Option D
 | .abs,.int i=>some (.int (if i<0 then -i else i))
 | .int,.bl b=>some (.int (if b then 1 else 0))
 | .int,.int i=>some (.int i)
 | _,_=>none
noncomputable def itemsOf (M:MH) (d:D):Option (List D) :=
 match d with
 | .str _=>none
 | .dct _ _=>none
 | d=>match vw M d with
  | .tup ds=>some ds
  | .lst ds=>some ds
  | .dct kvs=>some (kvs.map fun kv=>Na kv.1)
  | .none=>none
noncomputable def wk (M:MH):D->Bool
 | .ref n=>match M[n]? with
  | some (.dct _)=>true
  | _=>false
 | _=>false
noncomputable def walk (M:MH):D->MH
 | .ref n=>match M[n]? with
  | some (.dct kvs)=>M.set n (.pD kvs)
  | _=>M
 | _=>M
noncomputable def fU (b:Bool) (d:D) (M:MH):MH:=match b,d with
 | true,.ref n=>match M[n]? with
  | some (.pD kvs)=>M.set n (.dct kvs)
  | _=>M
 | _,_=>M
noncomputable def R.fin {α:Type} (x:R α) (f:MH->MH):R α:=match x with
 | .ok a M=>.ok a (f M)
 | .exc c M=>.exc c (f M)
 | .bad=>.bad
noncomputable def tK (b:Bl) (fz:Bool) (M:MH):List D->R D
 | [.str x]=>match b with
  | .len=>if decide (x.length<=line) then .ok (.int x.length) M else .bad
  | _=>.bad
 | [d]=>match b,vw M d with
  | .len,.tup ds=>.ok (.int ds.length) M
  | .len,.lst ds=>.ok (.int ds.length) M
  | .len,.dct kvs=>.ok (.int kvs.length) M
  | .sum,.lst ds=>match intsOf ds with
   | some ns=>.ok (.int ns.sum) M
   | none=>.bad
  | .tuple,.lst ds=>.ok (.tup ds) M
  | .tuple,.tup ds=>.ok (.tup ds) M
  | .list,.lst ds=>cF fz ds M
  | .list,.tup ds=>cF fz ds M
  | .dict,.dct kvs=>.ok (.ref M.length) (M++[.dct kvs])
  | _,_=>.bad
 | _=>.bad
noncomputable def CO:D->Option (List D)
 | .tup ds=>some ds
 | .lst ds=>some ds
 | _=>none
noncomputable def xE:D->Option (List D)
 | .tup ds=>some ds
 | _=>none
noncomputable def uL:D->Option (List D)
 | .lst ds=>some ds
 | _=>none
theorem Cq {d:D} {ds:List D} (h:uL d=some ds):d=.lst ds:=by
 cases d <;> first | (cases h;rfl) | cases h
theorem AW {d:D} {ds:List D} (h:xE d=some ds):d=.tup ds:=by
 cases d <;> first | (cases h;rfl) | cases h
noncomputable def gQ (M:MH) (a:D):Option (Nat×List D):=match a with
 | .ref n=>(match M[n]? with | some (.lst xs)=>some (n,xs) | _=>none)
 | _=>none
theorem dG {M:MH} {n:Nat} {xs:List D} (h:M[n]? = some (.lst xs)):gQ M (.ref n)=some (n,xs):=by simp only [gQ,h]
theorem j9 {M:MH} {a:D} {p:Nat×List D} (h:gQ M a=some p):a=.ref p.1/\M[p.1]? = some (.lst p.2):=by
 cases a with
 | ref n =>
  simp only [gQ] at h
  split at h
  ·rename_i xs hx;cases h;exact ⟨rfl,hx⟩
  ·cases h
 | _=>cases h
noncomputable def we (ds:List D) (k:D->R D):R D:=match ds with
 | d::r=>(match r with | []=>k d | _::_=>.bad)
 | []=>.bad
noncomputable def qg (m:Mt) (M:MH) (n:Nat) (xs ds:List D):R D:=match m with
 | .append=>we ds fun d=>if decide (xs.length<line) then .ok .ai (M.set n (.lst (xs++[d]))) else .bad
 | .extend=>we ds fun d=>(match xE d with
  | some ys=>if decide (xs.length+ys.length<=line) then .ok .ai (M.set n (.lst (xs++ys))) else .bad
  | none=>.bad)
 | .pop=>if ds.isEmpty then (match xs[xs.length-1]? with
  | some d=>.ok d (M.set n (.lst xs.dropLast))
  | none=>.bad) else .bad
 | .reverse=>if ds.isEmpty then .ok .ai (M.set n (.lst xs.reverse)) else .bad
 | .clear=>if ds.isEmpty then .ok .ai (M.set n (.lst [])) else .bad
 | _=>.bad
noncomputable def gZ (m:Mt) (fz:Bool) (M:MH) (a:D) (ds:List D):R D:=match gQ M a with
 | some p=>qg m M p.1 p.2 ds
 | none=>.bad
noncomputable def qh (m:Mt) (M:MH) (a:D):Bool:=(gQ M a).isSome&&(match m with | .append=>true | .extend=>true | .pop=>true | .reverse=>true | .clear=>true | _=>false)
noncomputable def kI (M:MH) (a b d:D):R Unit :=
 match a with
 | .ref n=>match M[n]?,b with
  | some (.lst xs),.int i=>match sH xs.length i with
   | some j=>.ok () (M.set n (.lst (xs.set j d)))
   | none=>.bad
  | some (.dct kvs),b=>match keyOf b with
   | some k=>if decide (kvs.length<line) then .ok () (M.set n (.dct (put kvs k d))) else .bad
   | none=>.bad
  | _,_=>.bad
 | _=>.bad
noncomputable def jd {α:Type}:List Nat->List α->List (Option α)->List (Option α)
 | i::tg,x::xs,σ=>jd tg xs (σ.set i (some x))
 | _,_,σ=>σ
noncomputable def sets (tg:List Nat) (M:MH) (d:D) (σ:Sg):Option Sg :=
 match tg with
 | [i]=>some (σ.set i (some d))
 | [i,j]=>match d with
  | .tup [x,y]=>some ((σ.set i (some x)).set j (some y))
  | _=>none
 | []=>none
 | tg=>match d with
  | .tup xs=>if xs.length=tg.length then some (jd tg xs σ) else none
  | _=>none
noncomputable def bq (M:MH) (d:D) (M':MH):Bool:=match d with
 | .ref n=>decide (M'[n]? = M[n]?)
 | _=>true
noncomputable def bK (body:Sg->MH->R Out) (tg:List Nat) (iy:MH->Bool):List D->Sg->MH->R Out
 | [],σ,M=>.ok (.nx σ) M
 | d::ds,σ,M=>match sets tg M d σ with
  | none=>.bad
  | some σ1=>(body σ1 M).bind fun o M1=>match o with
   | .nx σ2=>if iy M1 then bK body tg iy ds σ2 M1 else .bad
   | .ct σ2=>if iy M1 then bK body tg iy ds σ2 M1 else .bad
   | .bk σ2=>.ok (.nx σ2) M1
   | .rt r=>.ok (.rt r) M1
   | .xc c σ2=>.ok (.xc c σ2) M1
noncomputable def aA (c:Sg->MH->R D) (body:Sg->MH->R Out):Nat->Sg->MH->R Out
 | 0,_,_=>.bad
 | n+1,σ,M=>(c σ M).use σ fun t M0=>match t with
  | .bl false=>.ok (.nx σ) M0
  | .bl true=>(body σ M0).bind fun o M1=>match o with
   | .nx σ2=>aA c body n σ2 M1
   | .ct σ2=>aA c body n σ2 M1
   | .bk σ2=>.ok (.nx σ2) M1
   | .rt r=>.ok (.rt r) M1
   | .xc c σ2=>.ok (.xc c σ2) M1
  | _=>.bad
noncomputable def bL (cond:Sg->MH->R D) (elt:Sg->MH->R D) (tg:List Nat) (iy:MH->Bool):List D->Sg->MH->List D->R (List D)
 | [],_,M,acc=>.ok acc M
 | d::ds,σ,M,acc=>match sets tg M d σ with
  | none=>.bad
  | some σ1=>(cond σ1 M).bind fun t M1=>match t with
   | .bl true=>(elt σ1 M1).bind fun x M2=>if iy M2 then (if decide (acc.length<line) then bL cond elt tg iy ds σ1 M2 (acc++[x]) else .bad) else .bad
   | .bl false=>if iy M1 then bL cond elt tg iy ds σ1 M1 acc else .bad
   | _=>.bad
noncomputable def bV (f:Str) (v:D):List (Str×D)->List (Str×D)
 | []=>[(f,v)]
 | (g,x)::r=>if g=f then (g,v)::r else (g,x)::bV f v r
structure aY where
 call:Nat->List D->MH->R D
 ini:Nat->List D->MH->R D
 glob:Nat->Option D
 turns:Nat
 sub:Nat->Nat->Bool
noncomputable def iz (σ:Sg) (caps:List Nat):Sg:=caps.map fun i=>(σ[i]?).join
noncomputable def vB:D->Option Int
 | .int i=>some i
 | _=>none
noncomputable def mZ (j:Int):Bool:=decide (j.natAbs<=1000000)
noncomputable def eK (a b:Int):List D:=(List.range (b-a).toNat).map fun (i:Nat)=>D.int (a+(i:Int))
noncomputable def Jy (ds es:List D):List D:=(ds.zip es).map fun p=>.tup [p.1,p.2]
mutual
noncomputable def ev (Φ:aY):E->Sg->MH->R D
 | .v i,σ,M=>match σ[i]? with
  | some (some d)=>.ok d M
  | _=>.bad
 | .k d,_,M=>.ok d M
 | .g i,_,M=>match Φ.glob i with
  | some d=>.ok d M
  | none=>.bad
 | .tup es,σ,M=>(cV Φ es σ M).bind fun ds M1=>.ok (.tup ds) M1
 | .lst fz es,σ,M=>(cV Φ es σ M).bind fun ds M1=>cF fz ds M1
 | .Dg,_,M=>.ok (.ref M.length) (M++[.dct []])
 | .op o fz a b,σ,M=>(ev Φ a σ M).bind fun x M1=>(ev Φ b σ M1).bind fun y M2=>rq o fz M2 x y
 | .neg a,σ,M=>(ev Φ a σ M).bind fun x M1=>match x with
  | .int i=>.ok (.int (-i)) M1
  | _=>.bad
 | .cmp o a b,σ,M=>(ev Φ a σ M).bind fun x M1=>(ev Φ b σ M1).bind fun y M2=>bu o M2 x y
 | .chain o o' a b c,σ,M=>(ev Φ a σ M).bind fun x M1=>(ev Φ b σ M1).bind fun y M2=>(bu o M2 x y).bind fun t M3=>match t with
  | .bl true=>(ev Φ c σ M3).bind fun z M4=>bu o' M4 y z
  | .bl false=>.ok (.bl false) M3
  | _=>.bad
 | .and a b,σ,M=>(ev Φ a σ M).bind fun x M1=>match x with
  | .bl true=>(ev Φ b σ M1)
  | .bl false=>.ok (.bl false) M1
  | _=>.bad
 | .or a b,σ,M=>(ev Φ a σ M).bind fun x M1=>match x with
  | .bl true=>.ok (.bl true) M1
  | .bl false=>(ev Φ b σ M1)
  | _=>.bad
 | .not a,σ,M=>(ev Φ a σ M).bind fun x M1=>match x with
  | .bl b=>.ok (.bl (!b)) M1
  | _=>.bad
 | .tru a,σ,M=>.bad
 | .AL c a b,σ,M=>(ev Φ c σ M).bind fun x M1=>match x with
  | .bl true=>ev Φ a σ M1
  | .bl false=>ev Φ b σ M1
  | _=>.bad
 | .idx a b,σ,M=>(ev Φ a σ M).bind fun x M1=>(ev Φ b σ M1).bind fun y M2=>n9 M2 x y
 | .sl fz a lo hi,σ,M=>(ev Φ a σ M).bind fun x M1=>(CY Φ lo σ M1).bind fun l M2=>(CY Φ hi σ M2).bind fun h M3=>sl2 fz M3 x l h
 | .call f es,σ,M=>(cV Φ es σ M).bind fun ds M1=>Φ.call f ds M1
 | .fV a t,σ,M=>(ev Φ a σ M).bind fun x M1=>if yH M1 x then .ok (.bl (HM M1 t x)) M1 else .bad
 | .blt b fz es,σ,M=>(cV Φ es σ M).bind fun ds M1=>tK b fz M1 ds
 | .aG m fz a es,σ,M=>(ev Φ a σ M).bind fun x M1=>if qh m M1 x then (cV Φ es σ M1).bind fun ds M2=>gZ m fz M2 x ds else .bad
 | .comp fz caps tg elt it cond,σ,M=>(bO Φ it σ M).bind fun p M1 =>
   ((bL (nj Φ cond) (ev Φ elt) tg (bq M1 p.1) p.2.1 (iz σ caps++List.replicate tg.length none) M1 []).fin (fU p.2.2 p.1)).bind fun ds M2=>cF fz ds M2
 | .fld a f,σ,M=>(ev Φ a σ M).bind fun x M1=>match x with
  | .ref n=>match M1[n]? with
   | some (.ins _ fs)=>match fs.lookup f with
    | some d=>.ok d M1
    | none=>.bad
   | _=>.bad
  | _=>.bad
 | .dS c m nm a es,σ,M=>(ev Φ a σ M).bind fun x M1=>match x with
  | .ref n=>match M1[n]? with
   | some (.ins c' fs)=>if decide (c'=c)&&(fs.lookup nm).isNone then (cV Φ es σ M1).bind fun ds M2=>Φ.call m (.ref n::ds) M2 else .bad
   | _=>.bad
  | _=>.bad
 | .new c i es,σ,M=>(cV Φ es σ M).bind fun ds M1=>(Φ.ini i (.ref M1.length::ds) (M1++[.ins c []])).bind fun r M2=>match r with
  | .ai=>.ok (.ref M1.length) M2
  | _=>.bad
 | .mx hi a b,σ,M=>(ev Φ a σ M).bind fun x M1=>(ev Φ b σ M1).bind fun y M2=>match x,y with
  | .int i,.int j=>.ok (.int (if hi then (if j > i then j else i) else (if j<i then j else i))) M2
  | _,_=>.bad
 | .M6 fz a b,σ,M=>(ev Φ a σ M).bind fun x M1=>(ev Φ b σ M1).bind fun y M2=>match x,y with
  | .int i,.int j=>if mZ i&&(mZ j&&decide ((j-i).toNat<=line)) then cF fz (eK i j) M2 else .bad
  | _,_=>.bad
 | .Ct fz a,σ,M=>(ev Φ a σ M).bind fun x M1=>match x with
  | .int j=>if mZ j then cF fz (eK 0 j) M1 else .bad
  | _=>.bad
 | .rv fz a,σ,M=>(ev Φ a σ M).bind fun x M1=>match vw M1 x with
  | .lst ds=>cF fz ds.reverse M1
  | _=>.bad
 | .all1 a,σ,M=>(ev Φ a σ M).bind fun x M1=>match vw M1 x with
  | .lst ds=>match boolsOf ds with
   | some bs=>.ok (.bl (bs.all id)) M1
   | none=>.bad
  | _=>.bad
 | .ou f a,σ,M=>(ev Φ a σ M).bind fun x M1=>match wM f x with
  | some d=>.ok d M1
  | none=>.bad
 | .gW f es d,σ,M=>(cV Φ es σ M).bind fun ds M1=>Φ.call f (ds++[.int d]) M1
 | .bad,_,_=>.bad
noncomputable def cV (Φ:aY):Es->Sg->MH->R (List D)
 | .nil,_,M=>.ok [] M
 | .cons e es,σ,M=>(ev Φ e σ M).bind fun x M1=>(cV Φ es σ M1).bind fun xs M2=>.ok (x::xs) M2
noncomputable def CY (Φ:aY):O->Sg->MH->R (Option Int)
 | .none,_,M=>.ok none M
 | .some e,σ,M=>(ev Φ e σ M).bind fun x M1=>match x with
  | .int i=>.ok (some i) M1
  | _=>.bad
noncomputable def nj (Φ:aY):O->Sg->MH->R D
 | .none,_,M=>.ok (.bl true) M
 | .some e,σ,M=>ev Φ e σ M
noncomputable def bO (Φ:aY):Src->Sg->MH->R (D×List D×Bool)
 | .e a,σ,M=>(ev Φ a σ M).bind fun x M1=>match itemsOf M1 x with
  | some ds=>.ok (x,ds,wk M1 x) (walk M1 x)
  | none=>.bad
 | .eF a,σ,M=>(ev Φ a σ M).bind fun x M1=>match x with
  | .int j=>if mZ j then .ok (.ai,eK 0 j,false) M1 else .bad
  | _=>.bad
 | .FI a b,σ,M=>(ev Φ a σ M).bind fun x M1=>(ev Φ b σ M1).bind fun y M2=>match vB x,vB y with
  | some i,some j=>if mZ i&&mZ j then .ok (.ai,eK i j,false) M2 else .bad
  | _,_=>.bad
 | .enum a,σ,M=>.bad
 | .items a,σ,M=>.bad
 | .rev a,σ,M=>(ev Φ a σ M).bind fun x M1=>match uL x with
  | some ds=>.ok (.ai,ds.reverse,false) M1
  | none=>.bad
 | .zip a b,σ,M=>(ev Φ a σ M).bind fun x M1=>(ev Φ b σ M1).bind fun y M2=>match CO x,CO y with
  | some ds,some es=>.ok (.ai,Jy ds es,false) M2
  | _,_=>.bad
end
noncomputable def bY:D->Bool
 | .str x=>decide (x.length<=100000)
 | .int i=>decide (i.natAbs<18446744073709551616)
 | _=>false
noncomputable def C0 (Φ:aY):Es->Sg->MH->R Unit
 | .nil,_,M=>.ok () M
 | .cons e es,σ,M=>(ev Φ e σ M).bind fun x M1=>if bY x then C0 Φ es σ M1 else .bad
mutual
noncomputable def ex (Φ:aY):S->Sg->MH->R Out
 | .set i e,σ,M=>(ev Φ e σ M).use σ fun x M1=>.ok (.nx (σ.set i (some x))) M1
 | .mh a b e,σ,M=>(ev Φ e σ M).use σ fun x M1=>(ev Φ a σ M1).use σ fun y M2=>(ev Φ b σ M2).use σ fun z M3=>(kI M3 y z x).use σ fun _ M4=>.ok (.nx σ) M4
 | .bZ a f e,σ,M=>(ev Φ e σ M).use σ fun x M1=>(ev Φ a σ M1).use σ fun y M2=>match y with
  | .ref n=>match M2[n]? with
   | some (.ins c fs)=>if decide (fs.length<1000) then .ok (.nx σ) (M2.set n (.ins c (bV f x fs))) else .bad
   | _=>.bad
  | _=>.bad
 | .nJ tg e,σ,M=>(ev Φ e σ M).use σ fun x M1=>match sets tg M1 x σ with
  | some σ1=>.ok (.nx σ1) M1
  | none=>.bad
 | .ex e,σ,M=>(ev Φ e σ M).use σ fun _ M1=>.ok (.nx σ) M1
 | .ret e,σ,M=>(ev Φ e σ M).use σ fun x M1=>.ok (.rt x) M1
 | .FJ,_,M=>.ok (.rt .ai) M
 | .ifs c a b,σ,M=>(ev Φ c σ M).use σ fun t M1=>match t with
  | .bl true=>exs Φ a σ M1
  | .bl false=>exs Φ b σ M1
  | _=>.bad
 | .for tg it b,σ,M=>(bO Φ it σ M).use σ fun p M1=>(bK (exs Φ b) tg (bq M1 p.1) p.2.1 σ M1).fin (fU p.2.2 p.1)
 | .while c b,σ,M=>aA (ev Φ c) (exs Φ b) Φ.turns σ M
 | .brk,σ,M=>.ok (.bk σ) M
 | .cont,σ,M=>.ok (.ct σ) M
 | .pass,σ,M=>.ok (.nx σ) M
 | .raise c es,σ,M=>(C0 Φ es σ M).use σ fun _ M1=>.ok (.xc c σ) M1
 | .try b hs els,σ,M=>(exs Φ b σ M).bind fun o M1=>match o with
  | .nx σ1=>exs Φ els σ1 M1
  | .xc c σ1=>AN Φ hs c σ1 M1
  | o=>.ok o M1
 | .bad,_,_=>.bad
noncomputable def exs (Φ:aY):Ss->Sg->MH->R Out
 | .nil,σ,M=>.ok (.nx σ) M
 | .cons s ss,σ,M=>(ex Φ s σ M).bind fun o M1=>match o with
  | .nx σ1=>exs Φ ss σ1 M1
  | o=>.ok o M1
noncomputable def AN (Φ:aY):Hs->Nat->Sg->MH->R Out
 | .nil,_,_,_=>.bad
 | .cons cs b hs,c,σ,M=>if cs.any (fun d=>Φ.sub c d) then exs Φ b σ M else AN Φ hs c σ M
end
mutual
noncomputable def nr (m:Nat):D->Bool
 | .ref n=>decide (n<m)
 | .tup ds=>mz m ds
 | .lst ds=>mz m ds
 | .dct _ ds=>mz m ds
 | .ai=>true
 | .bl _=>true
 | .int _=>true
 | .str _=>true
noncomputable def mz (m:Nat):List D->Bool
 | []=>true
 | d::ds=>nr m d&&mz m ds
end
structure Fn where
 np:Nat
 ns:Nat
 lR:List D
 keep:Bool
 body:Ss
noncomputable def eL (keep:Bool) (M:MH) (d:D) (M':MH):R D :=
 if keep=false/\M'.take M.length=M then
  (if nr M.length d then .ok d M else match d with
   | .ref k=>match M'[k]? with
    | some (.lst ds)=>if mz M.length ds then .ok (.lst ds) M else .ok d M'
    | _=>.ok d M'
   | _=>.ok d M')
 else .ok d M'
noncomputable def pY (M:MH) (c:Nat) (M':MH):R D:=if M'.take M.length=M then .exc c M else .exc c M'
structure mD where
 fn:Nat->Option Fn
 glob:Nat->Option D
 turns:Nat
 sub:Nat->Nat->Bool
noncomputable def mj (Φ:aY) (f:Fn) (ds:List D) (M:MH):R D :=
 if decide (ds.length<=f.np)&&decide (f.np<=ds.length+f.lR.length) then
  match exs Φ f.body ((ds++f.lR.drop (ds.length+f.lR.length-f.np)).map some++List.replicate (f.ns-f.np) none) M with
  | .ok (.rt d) M'=>eL f.keep M d M'
  | .ok (.nx _) M'=>eL f.keep M .ai M'
  | .ok (.xc c _) M'=>pY M c M'
  | _=>.bad
 else .bad
noncomputable def aa (P:mD):Nat->aY
 | 0=>⟨fun _ _ _=>.bad,fun _ _ _=>.bad,P.glob,P.turns,P.sub⟩
 | k+1=>⟨fun f ds M=>match P.fn f with
  | some fn=>mj (aa P k) fn ds M
  | none=>.bad,(aa P k).call,P.glob,P.turns,P.sub⟩
end Fg
end
section
set_option autoImplicit false
namespace Fg
open PySem PySem.Spec L2
noncomputable def GO:Nat->List Obj->W.Frag
 | _,[]=>[]
 | n,o::os=>bif o.alive then (n,o)::GO (n+1) os else GO (n+1) os
theorem yI:∀ {os:List Obj} {n a:Nat} {o:Obj},(GO n os).lookup a=some o->n<=a/\os[a-n]? = some o/\o.alive=true
 | [],_,_,_,h=>by cases h
 | x::os,n,a,o,h=>by
  have up:(GO (n+1) os).lookup a=some o->n<=a/\(x::os)[a-n]? = some o/\o.alive=true:=fun h=>by
   obtain ⟨h1,h2,h3⟩:=yI h
   refine ⟨by omega,?_,h3⟩
   rw [show a-n=(a-(n+1))+1 by omega,List.getElem?_cons_succ]
   exact h2
  unfold GO at h
  cases hx:x.alive with
  | false=>rw [hx] at h;exact up h
  | true =>
   rw [hx] at h
   replace h:((n,x)::GO (n+1) os).lookup a=some o:=h
   rw [List.lookup_cons] at h
   cases e:a == n with
   | true =>
    rw [e] at h
    cases h
    have:=beq_iff_eq.mp e
    subst this
    exact ⟨Nat.le_refl _,by simp,hx⟩
   | false =>
    rw [e] at h
    exact up h
noncomputable def allOf (h:Heap):W.Frag:=GO 0 h.objs.toList
theorem AD (h:Heap):(allOf h).In h:=fun a o e=>by
 obtain ⟨_,h1,h2⟩:=yI e
 rw [Nat.sub_zero,Array.getElem?_toList] at h1
 exact (Heap.get?_eq_some h a o).mpr ⟨h1,h2⟩
structure Row where
 x:Str
 ql:Str
 st:Stmt
 ps:List Str
 N:List Str
 i:Nat
 lR:Option Int:=none
structure Tb where
 fn:List Row
 cl:List Str
 mt:List (Nat×Row)
 xc:List Str
 cs:List (Str×Nat×Int)
 bl:List Str
 fl:List Str
 ct:List (Str×Nat×List Str):=[]
 cd:List (Str×Nat×List (Str×Int)):=[]
noncomputable def adr (K:W.Frag) (x:Str):Option Addr:=match W.nsIn K mainGlobals x with
 | some (some (.ref a))=>some a
 | _=>none
noncomputable def jB (K:W.Frag):Value->Option (Option Int)
 | .none=>some none
 | .ref T=>(match K.lookup T with
  | some ⟨_,_,.seq its _,_⟩=>(match its.toList with
   | [.int d _]=>some (some d)
   | _=>none)
  | _=>none)
 | _=>none
noncomputable abbrev AF:=Str×Str×Arguments×FuncBody×Scope×Addr×List (Str×Addr)×Addr×Option (Option Int)×Bool
noncomputable def qz (K:W.Frag) (f:Addr):Option AF:=match K.lookup f with
 | some ⟨_,_,.func fd,_⟩=>some (fd.name,fd.qualname,fd.params,fd.body,fd.scope,fd.globals,fd.closure,fd.builtins,jB K fd.defaults,W.codeIn K fd.code fd.qualname)
 | _=>none
noncomputable def Row.good (r:Row):AF:=(r.x,r.ql,i0 r.st,.stmts (cK r.st),aH r.st,mainGlobals,[],builtinsNs,some r.lR,true)
noncomputable abbrev Jg:=Bool×Bool×Bool×Option (Option Value)×Bool×Bool×List (Option (Option Value))
noncomputable def oY (t:Tb) (K:W.Frag) (C:Addr):Jg:=(W.plainGet K C Str.empty, W.hasDictIn K C, W.plainOver K C, W.findIn K (.ref C) "__setattr__", W.makesIn K C, W.keepIn K (.ref C), t.fl.map (W.findIn K (.ref C)))
noncomputable def kq (t:Tb):Jg:=(true, true, true, some (some (.builtin "object.__setattr__")), true, true, t.fl.map fun _=>some none)
noncomputable def yU (t:Tb) (K:W.Frag) (r:Nat×Row):Option (AF×Bool):=((t.cl[r.1]?).bind (adr K)).bind fun C=>match W.findIn K (.ref C) r.2.x with
 | some (some (.ref f))=>(qz K f).map fun z=>(z,W.isFn K (.ref f))
 | _=>none
noncomputable abbrev Mr:=Bool×Option Bool×List (Option Bool)
noncomputable def BMV:List Value:=[.type "ValueError", .type "Exception", .type "BaseException", .type "object"]
noncomputable def zR (t:Tb) (K:W.Frag) (X:Addr):Mr:=(W.excIn K X BMV "ValueError.__new__", W.mroIn K X (.type "BaseException"), t.xc.map fun y=>(adr K y).bind fun Y=>W.mroIn K X (.ref Y))
noncomputable def Aj (K:W.Frag) (x:Str):Option Int:=match W.nsIn K mainGlobals x with
 | some (some (.int n _))=>some n
 | _=>none
noncomputable def strOf:Value->Option Str
 | .str x _=>some x
 | _=>none
noncomputable def intOf:Value->Option Int
 | .int n _=>some n
 | _=>none
noncomputable abbrev Mu:=Value×List (Option Str)
noncomputable def xD (K:W.Frag) (a:Addr):Option Mu:=match K.lookup a with
 | some ⟨c,_,.seq its _,_⟩=>some (c,its.toList.map strOf)
 | _=>none
noncomputable abbrev Jf:=Value×Option Addr×Array (Option Value)×Bool×List (Int×Option Str×Option Int)
noncomputable def Ag (K:W.Frag) (a:Addr):Option Jf:=match K.lookup a with
 | some ⟨c,d,.dict es _,sl⟩=>some (c,d,sl,a == sysModules,es.toList.map fun e=>(e.hash,strOf e.key,intOf e.val))
 | _=>none
noncomputable def vo (w:World) (kvs:List (Str×Int)):Jf:=(.type "dict", none, #[], false, kvs.map fun z=>(PyData.keyHash w.params z.1, some z.1, some z.2))
noncomputable abbrev IZ:=List (Option AF)×List (Option Jg)×List (Option (AF×Bool))×List (Option Mr)×List (Option Int)×List (Option (Option Value))×List (Option Mu)×List (Option Jf)
noncomputable def Tb.uo (t:Tb) (K:W.Frag):IZ:=(t.fn.map fun r=>(adr K r.x).bind (qz K),t.cl.map fun x=>(adr K x).map (oY t K),t.mt.map (yU t K),t.xc.zipIdx.map fun x=>(adr K x.1).map (zR t K),t.cs.map fun c=>Aj K c.1,t.bl.map (W.nsIn K mainGlobals),t.ct.map fun c=>(adr K c.1).bind (xD K),t.cd.map fun c=>(adr K c.1).bind (Ag K))
noncomputable def Tb.good (t:Tb) (P:mD) (w:World):IZ:=(t.fn.map fun r=>some r.good, t.cl.map fun _=>some (kq t), t.mt.map fun r=>some (r.2.good, true), t.xc.zipIdx.map fun x=>some (true, some true, t.xc.zipIdx.map fun y=>some (P.sub x.2 y.2)), t.cs.map fun c=>some c.2.2, t.bl.map fun _=>some none, t.ct.map fun c=>some (.type "tuple", c.2.2.map some), t.cd.map fun c=>some (vo w c.2.2))
noncomputable def Tb.hook (t:Tb) (P:mD):W.Hook:=⟨IZ,fun s=>t.uo (allOf s.heap),fun w=>t.good P w,fun w h=>∃ K:W.Frag,K.In h/\t.uo K=t.good P w,fun _ s e=>⟨_,AD s.heap,e⟩,fun _ _ _ ⟨K,X,e⟩ k=>⟨K,X.keeps k,e⟩⟩
end Fg
end
section
namespace bI
open Fg
noncomputable def jZ:List PySem.Str:=["value"]
noncomputable def jl:Fn:=⟨1,1,[],false,
 (.cons (.ifs (.fV (.v 0) .tuple) (.cons (.ret (.idx (.v 0) (.k (.int 1))))
 .nil) .nil)
 (.cons (.ret (.k (.int 1)))
 .nil))⟩
noncomputable def j3:List PySem.Str:=["word", "first", "second", "size"]
noncomputable def gC:Fn:=⟨3,4,[],false,
 (.cons (.set 3 (.op .add true (.op .add true (.k (.int 1)) (.call 0 (.cons (.v 1) .nil))) (.call 0 (.cons (.v 2) .nil))))
 (.cons (.ifs (.cmp .gt (.v 3) (.g 0)) (.cons (.raise 1 (.cons (.v 0) (.cons (.v 3) .nil)))
 .nil) .nil)
 (.cons (.ret (.tup (.cons (.v 0) (.cons (.v 3) (.cons (.v 1) (.cons (.v 2) .nil))))))
 .nil)))⟩
noncomputable def ek:List PySem.Str:=["number"]
noncomputable def ie:Fn:=⟨1,1,[],false,
 (.cons (.ifs (.cmp .ge (.ou .abs (.v 0)) (.op .pow true (.k (.int 10)) (.k (.int 60)))) (.cons (.raise 1 .nil)
 .nil) .nil)
 .nil)⟩
noncomputable def jm:List PySem.Str:=["word", "first", "second", "number"]
noncomputable def sR:Fn:=⟨3,4,[],false,
 (.cons (.ifs (.cmp .eq (.v 0) (.k (.str "less"))) (.cons (.ret (.AL (.cmp .lt (.v 1) (.v 2)) (.k (.int 1)) (.k (.int 0))))
 .nil) .nil)
 (.cons (.ifs (.cmp .eq (.v 0) (.k (.str "plus"))) (.cons (.set 3 (.op .add true (.v 1) (.v 2)))
 .nil) (.cons (.ifs (.cmp .eq (.v 0) (.k (.str "minus"))) (.cons (.set 3 (.op .sub true (.v 1) (.v 2)))
 .nil) (.cons (.set 3 (.op .mul true (.v 1) (.v 2)))
 .nil))
 .nil))
 (.cons (.ex (.call 2 (.cons (.v 3) .nil)))
 (.cons (.ret (.v 3))
 .nil))))⟩
noncomputable def iO:List PySem.Str:=["word", "value"]
noncomputable def jM:Fn:=⟨2,2,[],false,
 (.cons (.ifs (.cmp .qq (.v 1) (.k .ai)) (.cons (.raise 2 (.cons (.v 0) .nil))
 .nil) .nil)
 (.cons (.ifs (.cmp .isin (.v 0) (.tup (.cons (.k (.str "first")) (.cons (.k (.str "head")) .nil)))) (.cons (.ret (.idx (.v 1) (.k (.int 2))))
 .nil) .nil)
 (.cons (.ret (.idx (.v 1) (.k (.int 3))))
 .nil)))⟩
noncomputable def oF:List PySem.Str:=["value", "members"]
noncomputable def zP:Fn:=⟨1,2,[],true,
 (.cons (.ifs (.fV (.v 0) .int) (.cons (.ret (.v 0))
 .nil) .nil)
 (.cons (.ifs (.and (.cmp .iK (.v 0) (.k .ai)) (.cmp .eq (.idx (.v 0) (.k (.int 0))) (.k (.str "pair")))) (.cons (.ret (.tup (.cons (.call 5 (.cons (.idx (.v 0) (.k (.int 2))) .nil)) (.cons (.call 5 (.cons (.idx (.v 0) (.k (.int 3))) .nil)) .nil))))
 .nil) .nil)
 (.cons (.set 1 (.lst false .nil))
 (.cons (.while (.cmp .iK (.v 0) (.k .ai)) (.cons (.ex (.aG .append true (.v 1) (.cons (.call 5 (.cons (.idx (.v 0) (.k (.int 2))) .nil)) .nil)))
 (.cons (.set 0 (.idx (.v 0) (.k (.int 3))))
 .nil)))
 (.cons (.ret (.v 1))
 .nil)))))⟩
noncomputable def fE:List PySem.Str:=["begun", "under_way", "most"]
noncomputable def jk:Fn:=⟨3,3,[],false,
 (.cons (.ifs (.cmp .gt (.op .add true (.v 0) (.k (.int 1))) (.v 2)) (.cons (.raise 3 .nil)
 .nil) .nil)
 (.cons (.ifs (.cmp .gt (.op .add true (.v 1) (.k (.int 1))) (.g 1)) (.cons (.raise 4 (.cons (.g 1) .nil))
 .nil) .nil)
 .nil))⟩
noncomputable def qD:List PySem.Str:=["code", "numbers", "most", "machine", "outer", "value", "field"]
noncomputable def ng:Fn:=⟨3,7,[],false,
 (.cons (.set 3 (.new 1 9 (.cons (.idx (.v 0) (.k (.int 0))) (.cons (.v 2) .nil))))
 (.cons (.set 4 (.comp true [3] [1] (.dS 1 10 "open_field" (.v 0) .nil) (.eF (.idx (.v 0) (.k (.int 2)))) .none))
 (.cons (.ex (.aG .append true (.fld (.v 3) "frames") (.cons (.new 0 8 (.cons (.blt .list false (.cons (.v 1) .nil)) (.cons (.blt .list false (.cons (.v 4) .nil)) (.cons (.k .ai) .nil)))) .nil)))
 (.cons (.bZ (.v 3) "place" (.idx (.v 0) (.k (.int 1))))
 (.cons (.while (.cmp .ne (.fld (.v 3) "frames") (.lst true .nil)) (.cons (.ex (.dS 1 19 "step" (.v 3) .nil))
 .nil))
 (.cons (.set 5 (.dS 1 21 "answer" (.v 3) .nil))
 (.cons (.for [6] (.rev (.v 4)) (.cons (.ex (.dS 1 11 "shut_field" (.v 3) (.cons (.v 6) .nil)))
 .nil))
 (.cons (.ret (.tup (.cons (.v 5) (.cons (.fld (.v 3) "log") .nil))))
 .nil))))))))⟩
noncomputable def fH:List PySem.Str:=["self", "known", "fields", "behind_call"]
noncomputable def eT:Fn:=⟨4,4,[],false,
 (.cons (.bZ (.v 0) "known" (.v 1))
 (.cons (.bZ (.v 0) "fields" (.v 2))
 (.cons (.bZ (.v 0) "behind_call" (.v 3))
 .nil)))⟩
noncomputable def ez:List PySem.Str:=["self", "rows", "most"]
noncomputable def dM:Fn:=⟨3,3,[],false,
 (.cons (.bZ (.v 0) "rows" (.v 1))
 (.cons (.bZ (.v 0) "most" (.v 2))
 (.cons (.bZ (.v 0) "begun" (.k (.int 0)))
 (.cons (.bZ (.v 0) "place" (.k (.int 0)))
 (.cons (.bZ (.v 0) "pile" (.lst false .nil))
 (.cons (.bZ (.v 0) "frames" (.lst false .nil))
 (.cons (.bZ (.v 0) "lies_open" (.lst false .nil))
 (.cons (.bZ (.v 0) "log" (.lst false .nil))
 .nil))))))))⟩
noncomputable def dJ:List PySem.Str:=["self", "field"]
noncomputable def cQ:Fn:=⟨1,2,[],false,
 (.cons (.set 1 (.blt .len true (.cons (.fld (.v 0) "lies_open") .nil)))
 (.cons (.ex (.aG .append true (.fld (.v 0) "lies_open") (.cons (.k (.bl true)) .nil)))
 (.cons (.ex (.aG .append true (.fld (.v 0) "log") (.cons (.tup (.cons (.k (.str "open")) (.cons (.v 1) .nil))) .nil)))
 (.cons (.ret (.v 1))
 .nil))))⟩
noncomputable def dI:List PySem.Str:=["self", "field"]
noncomputable def cP:Fn:=⟨2,2,[],false,
 (.cons (.mh (.fld (.v 0) "lies_open") (.v 1) (.k (.bl false)))
 (.cons (.ex (.aG .append true (.fld (.v 0) "log") (.cons (.tup (.cons (.k (.str "shut")) (.cons (.v 1) .nil))) .nil)))
 .nil))⟩
noncomputable def dW:List PySem.Str:=["self", "field"]
noncomputable def cZ:Fn:=⟨2,2,[],false,
 (.cons (.ifs (.not (.idx (.fld (.v 0) "lies_open") (.v 1))) (.cons (.raise 5 (.cons (.v 1) .nil))
 .nil) .nil)
 .nil)⟩
noncomputable def gJ:List PySem.Str:=["self", "word", "field", "second", "first", "cell"]
noncomputable def gU:Fn:=⟨3,6,[],false,
 (.cons (.set 3 (.aG .pop true (.fld (.v 0) "pile") .nil))
 (.cons (.set 4 (.aG .pop true (.fld (.v 0) "pile") .nil))
 (.cons (.set 5 (.call 1 (.cons (.v 1) (.cons (.v 4) (.cons (.v 3) .nil)))))
 (.cons (.ex (.dS 1 12 "want_open" (.v 0) (.cons (.v 2) .nil)))
 (.cons (.ex (.aG .append true (.fld (.v 0) "log") (.cons (.tup (.cons (.k (.str "lay")) (.cons (.v 2) .nil))) .nil)))
 (.cons (.ex (.aG .append true (.fld (.v 0) "pile") (.cons (.op .add true (.v 5) (.tup (.cons (.v 2) .nil))) .nil)))
 .nil))))))⟩
noncomputable def gq:List PySem.Str:=["self", "word", "cell", "found"]
noncomputable def gr:Fn:=⟨2,4,[],false,
 (.cons (.set 2 (.aG .pop true (.fld (.v 0) "pile") .nil))
 (.cons (.set 3 (.call 4 (.cons (.v 1) (.cons (.v 2) .nil))))
 (.cons (.ex (.dS 1 12 "want_open" (.v 0) (.cons (.idx (.v 2) (.k (.int 4))) .nil)))
 (.cons (.ex (.aG .append true (.fld (.v 0) "log") (.cons (.tup (.cons (.k (.str "look")) (.cons (.idx (.v 2) (.k (.int 4))) .nil))) .nil)))
 (.cons (.ex (.aG .append true (.fld (.v 0) "pile") (.cons (.v 3) .nil)))
 .nil)))))⟩
noncomputable def fF:List PySem.Str:=["self", "word", "second", "first"]
noncomputable def jv:Fn:=⟨2,4,[],false,
 (.cons (.set 2 (.aG .pop true (.fld (.v 0) "pile") .nil))
 (.cons (.set 3 (.aG .pop true (.fld (.v 0) "pile") .nil))
 (.cons (.ex (.aG .append true (.fld (.v 0) "pile") (.cons (.call 3 (.cons (.v 1) (.cons (.v 3) (.cons (.v 2) .nil)))) .nil)))
 .nil)))⟩
noncomputable def fX:List PySem.Str:=["self", "row", "frame"]
noncomputable def fR:Fn:=⟨2,3,[],false,
 (.cons (.set 2 (.idx (.fld (.v 0) "frames") (.neg (.k (.int 1)))))
 (.cons (.ifs (.cmp .eq (.idx (.v 1) (.k (.int 0))) (.k (.str "number"))) (.cons (.ex (.aG .append true (.fld (.v 0) "pile") (.cons (.idx (.v 1) (.k (.int 1))) .nil)))
 .nil) (.cons (.ifs (.cmp .eq (.idx (.v 1) (.k (.int 0))) (.k (.str "local"))) (.cons (.ex (.aG .append true (.fld (.v 0) "pile") (.cons (.idx (.fld (.v 2) "known") (.idx (.v 1) (.k (.int 1)))) .nil)))
 .nil) (.cons (.ifs (.cmp .eq (.idx (.v 1) (.k (.int 0))) (.k (.str "keep"))) (.cons (.ex (.aG .append true (.fld (.v 2) "known") (.cons (.aG .pop true (.fld (.v 0) "pile") .nil) .nil)))
 .nil) (.cons (.ex (.aG .pop true (.fld (.v 2) "known") .nil))
 .nil))
 .nil))
 .nil))
 .nil))⟩
noncomputable def iu:List PySem.Str:=["self", "row"]
noncomputable def iV:Fn:=⟨2,2,[],false,
 (.cons (.ifs (.cmp .eq (.idx (.v 1) (.k (.int 0))) (.k (.str "jump"))) (.cons (.bZ (.v 0) "place" (.idx (.v 1) (.k (.int 1))))
 .nil) (.cons (.ifs (.cmp .eq (.idx (.v 1) (.k (.int 0))) (.k (.str "call"))) (.cons (.ex (.dS 1 18 "enter" (.v 0) (.cons (.idx (.v 1) (.k (.int 1))) (.cons (.idx (.v 1) (.k (.int 2))) (.cons (.idx (.v 1) (.k (.int 3))) .nil)))))
 .nil) (.cons (.ifs (.cmp .eq (.idx (.v 1) (.k (.int 0))) (.k (.str "back"))) (.cons (.bZ (.v 0) "place" (.fld (.aG .pop true (.fld (.v 0) "frames") .nil) "behind_call"))
 .nil) (.cons (.ifs (.cmp .eq (.aG .pop true (.fld (.v 0) "pile") .nil) (.k (.int 0))) (.cons (.bZ (.v 0) "place" (.idx (.v 1) (.k (.int 1))))
 .nil) .nil)
 .nil))
 .nil))
 .nil))
 .nil)⟩
noncomputable def fW:List PySem.Str:=["self", "begin", "many", "numbers", "given", "fields"]
noncomputable def j4:Fn:=⟨4,6,[],false,
 (.cons (.ex (.call 6 (.cons (.fld (.v 0) "begun") (.cons (.op .sub true (.blt .len true (.cons (.fld (.v 0) "frames") .nil)) (.k (.int 1))) (.cons (.fld (.v 0) "most") .nil)))))
 (.cons (.bZ (.v 0) "begun" (.op .add false (.fld (.v 0) "begun") (.k (.int 1))))
 (.cons (.set 4 (.comp false [0] [1] (.aG .pop true (.fld (.v 0) "pile") .nil) (.eF (.v 2)) .none))
 (.cons (.ex (.aG .reverse true (.v 4) .nil))
 (.cons (.set 5 (.fld (.idx (.fld (.v 0) "frames") (.neg (.k (.int 1)))) "fields"))
 (.cons (.ex (.aG .append true (.fld (.v 0) "frames") (.cons (.new 0 8 (.cons (.v 4) (.cons (.comp false [5] [1] (.idx (.v 0) (.v 1)) (.e (.v 3)) .none) (.cons (.fld (.v 0) "place") .nil)))) .nil)))
 (.cons (.bZ (.v 0) "place" (.v 1))
 .nil)))))))⟩
noncomputable def gp:List PySem.Str:=["self", "row", "word"]
noncomputable def ck:Fn:=⟨1,3,[],false,
 (.cons (.set 1 (.idx (.fld (.v 0) "rows") (.fld (.v 0) "place")))
 (.cons (.bZ (.v 0) "place" (.op .add false (.fld (.v 0) "place") (.k (.int 1))))
 (.cons (.set 2 (.idx (.v 1) (.k (.int 0))))
 (.cons (.ifs (.cmp .isin (.v 2) (.tup (.cons (.k (.str "number")) (.cons (.k (.str "local")) (.cons (.k (.str "keep")) (.cons (.k (.str "drop")) .nil)))))) (.cons (.ex (.dS 1 16 "carry" (.v 0) (.cons (.v 1) .nil)))
 .nil) (.cons (.ifs (.cmp .isin (.v 2) (.tup (.cons (.k (.str "jump")) (.cons (.k (.str "unless")) (.cons (.k (.str "call")) (.cons (.k (.str "back")) .nil)))))) (.cons (.ex (.dS 1 17 "go" (.v 0) (.cons (.v 1) .nil)))
 .nil) (.cons (.ifs (.cmp .isin (.v 2) (.tup (.cons (.k (.str "pair")) (.cons (.k (.str "cons")) .nil)))) (.cons (.ex (.dS 1 13 "lay" (.v 0) (.cons (.v 2) (.cons (.idx (.fld (.idx (.fld (.v 0) "frames") (.neg (.k (.int 1)))) "fields") (.idx (.v 1) (.k (.int 1)))) .nil))))
 .nil) (.cons (.ifs (.cmp .isin (.v 2) (.tup (.cons (.k (.str "first")) (.cons (.k (.str "second")) (.cons (.k (.str "head")) (.cons (.k (.str "tail")) .nil)))))) (.cons (.ex (.dS 1 14 "look" (.v 0) (.cons (.v 2) .nil)))
 .nil) (.cons (.ifs (.cmp .eq (.v 2) (.k (.str "nil"))) (.cons (.ex (.aG .append true (.fld (.v 0) "pile") (.cons (.k .ai) .nil)))
 .nil) (.cons (.ifs (.cmp .eq (.v 2) (.k (.str "none"))) (.cons (.ex (.aG .append true (.fld (.v 0) "pile") (.cons (.AL (.cmp .qq (.aG .pop true (.fld (.v 0) "pile") .nil) (.k .ai)) (.k (.int 1)) (.k (.int 0))) .nil)))
 .nil) (.cons (.ifs (.cmp .eq (.v 2) (.k (.str "open"))) (.cons (.ex (.aG .append true (.fld (.idx (.fld (.v 0) "frames") (.neg (.k (.int 1)))) "fields") (.cons (.dS 1 10 "open_field" (.v 0) .nil) .nil)))
 .nil) (.cons (.ifs (.cmp .eq (.v 2) (.k (.str "shut"))) (.cons (.ex (.dS 1 11 "shut_field" (.v 0) (.cons (.aG .pop true (.fld (.idx (.fld (.v 0) "frames") (.neg (.k (.int 1)))) "fields") .nil) .nil)))
 .nil) (.cons (.ex (.dS 1 15 "reckon" (.v 0) (.cons (.v 2) .nil)))
 .nil))
 .nil))
 .nil))
 .nil))
 .nil))
 .nil))
 .nil))
 .nil))
 .nil))))⟩
noncomputable def cO:List PySem.Str:=["self", "value", "todo", "cell"]
noncomputable def bT:Fn:=⟨2,4,[],false,
 (.cons (.set 2 (.lst false (.cons (.v 1) .nil)))
 (.cons (.while (.cmp .ne (.v 2) (.lst true .nil)) (.cons (.set 3 (.aG .pop true (.v 2) .nil))
 (.cons (.ifs (.fV (.v 3) .tuple) (.cons (.ex (.dS 1 12 "want_open" (.v 0) (.cons (.idx (.v 3) (.k (.int 4))) .nil)))
 (.cons (.ex (.aG .extend true (.v 2) (.cons (.sl true (.v 3) (.some (.k (.int 2))) (.some (.k (.int 4)))) .nil)))
 .nil)) .nil)
 .nil)))
 .nil))⟩
noncomputable def fG:List PySem.Str:=["self", "value"]
noncomputable def eS:Fn:=⟨1,2,[],true,
 (.cons (.set 1 (.aG .pop true (.fld (.v 0) "pile") .nil))
 (.cons (.ex (.dS 1 20 "want_all_open" (.v 0) (.cons (.v 1) .nil)))
 (.cons (.ret (.call 5 (.cons (.v 1) .nil)))
 .nil)))⟩
noncomputable def iR:List PySem.Str:=["_law_cell"]
noncomputable def jP:Fn:=⟨1,1,[],false,
 (.cons (.ret (.op .mod true (.op .mul true (.op .mul true (.op .add true (.op .mod true (.v 0) (.k (.int 2147483647))) (.k (.int 11))) (.k (.int 48271))) (.k (.int 69621))) (.k (.int 2147483629))))
 .nil)⟩
noncomputable def gI:List PySem.Str:=["_law_script", "_law_k"]
noncomputable def gS:Fn:=⟨2,2,[],false,
 (.cons (.ifs (.cmp .lt (.v 1) (.blt .len true (.cons (.v 0) .nil))) (.cons (.ret (.call 22 (.cons (.idx (.v 0) (.v 1)) .nil)))
 .nil) .nil)
 (.cons (.ret (.call 22 (.cons (.v 1) .nil)))
 .nil))⟩
noncomputable def jq:List PySem.Str:=["_law_cells", "_law_value"]
noncomputable def lH:Fn:=⟨2,2,[],false,
 (.cons (.ifs (.fV (.v 1) .tuple) (.cons (.ret (.idx (.idx (.v 0) (.idx (.v 1) (.k (.int 0)))) (.k (.int 4))))
 .nil) .nil)
 (.cons (.ret (.k (.int 1)))
 .nil))⟩
noncomputable def jo:List PySem.Str:=["_law_cells", "_law_value"]
noncomputable def lG:Fn:=⟨2,2,[],false,
 (.cons (.ifs (.fV (.v 1) .tuple) (.cons (.ret (.idx (.idx (.v 0) (.idx (.v 1) (.k (.int 0)))) (.k (.int 0))))
 .nil) .nil)
 (.cons (.ret (.idx (.lst true (.cons (.k (.str "number")) (.cons (.k (.str "cons")) .nil))) (.ou .int (.cmp .qq (.v 1) (.k .ai)))))
 .nil))⟩
noncomputable def gk:List PySem.Str:=["_law_cells", "_law_pile", "_law_value", "_law_waiting", "_law_count", "_law_here", "_law_cell"]
noncomputable def gn:Fn:=⟨3,7,[],false,
 (.cons (.set 3 (.lst false (.cons (.v 2) .nil)))
 (.cons (.set 4 (.k (.int 0)))
 (.cons (.while (.cmp .gt (.blt .len true (.cons (.v 3) .nil)) (.k (.int 0))) (.cons (.set 5 (.aG .pop true (.v 3) .nil))
 (.cons (.set 4 (.op .add true (.v 4) (.k (.int 1))))
 (.cons (.ifs (.fV (.v 5) .tuple) (.cons (.set 6 (.idx (.v 0) (.idx (.v 5) (.k (.int 0)))))
 (.cons (.ifs (.cmp .iJ (.idx (.v 6) (.k (.int 3))) (.v 1)) (.cons (.ret (.k (.bl false)))
 .nil) .nil)
 (.cons (.ex (.aG .append true (.v 3) (.cons (.idx (.v 6) (.k (.int 1))) .nil)))
 (.cons (.ex (.aG .append true (.v 3) (.cons (.idx (.v 6) (.k (.int 2))) .nil)))
 .nil)))) .nil)
 .nil))))
 (.cons (.ret (.k (.bl true)))
 .nil))))⟩
noncomputable def jn:List PySem.Str:=["_law_cells", "_law_value", "_law_found"]
noncomputable def lF:Fn:=⟨2,3,[],false,
 (.cons (.ifs (.cmp .qq (.v 1) (.k .ai)) (.cons (.ret (.lst true .nil))
 .nil) .nil)
 (.cons (.ifs (.not (.fV (.v 1) .tuple)) (.cons (.ret (.v 1))
 .nil) .nil)
 (.cons (.ifs (.cmp .eq (.idx (.idx (.v 0) (.idx (.v 1) (.k (.int 0)))) (.k (.int 0))) (.k (.str "pair"))) (.cons (.ret (.tup (.cons (.call 27 (.cons (.v 0) (.cons (.idx (.idx (.v 0) (.idx (.v 1) (.k (.int 0)))) (.k (.int 1))) .nil))) (.cons (.call 27 (.cons (.v 0) (.cons (.idx (.idx (.v 0) (.idx (.v 1) (.k (.int 0)))) (.k (.int 2))) .nil))) .nil))))
 .nil) .nil)
 (.cons (.set 2 (.lst false .nil))
 (.cons (.while (.cmp .iK (.v 1) (.k .ai)) (.cons (.ex (.aG .append true (.v 2) (.cons (.call 27 (.cons (.v 0) (.cons (.idx (.idx (.v 0) (.idx (.v 1) (.k (.int 0)))) (.k (.int 1))) .nil))) .nil)))
 (.cons (.set 1 (.idx (.idx (.v 0) (.idx (.v 1) (.k (.int 0)))) (.k (.int 2))))
 .nil)))
 (.cons (.ret (.v 2))
 .nil))))))⟩
noncomputable def jr:List PySem.Str:=["_law_rows", "_law_values", "_law_state", "_law_number", "_law_cells", "_law_pile", "_law_log", "_law_other", "_law_one", "_law_word", "_law_at", "_law_size_here"]
noncomputable def lI:Fn:=⟨4,12,[],false,
 (.cons (.nJ [4,5,6] (.v 2))
 (.cons (.set 7 (.idx (.v 1) (.neg (.k (.int 1)))))
 (.cons (.set 8 (.idx (.v 1) (.neg (.k (.int 2)))))
 (.cons (.set 9 (.idx (.lst true (.cons (.k (.str "pair")) (.cons (.k (.str "cons")) .nil))) (.ou .int (.and (.cmp .eq (.call 25 (.cons (.v 4) (.cons (.v 7) .nil))) (.k (.str "cons"))) (.cmp .gt (.op .mod true (.v 3) (.k (.int 3))) (.k (.int 0)))))))
 (.cons (.set 10 (.op .mod true (.op .fdiv true (.v 3) (.k (.int 3))) (.blt .len true (.cons (.v 5) .nil))))
 (.cons (.ex (.aG .append true (.v 0) (.cons (.tup (.cons (.v 9) (.cons (.v 10) .nil))) .nil)))
 (.cons (.set 11 (.op .add true (.op .add true (.k (.int 1)) (.call 24 (.cons (.v 4) (.cons (.v 8) .nil)))) (.call 24 (.cons (.v 4) (.cons (.v 7) .nil)))))
 (.cons (.ex (.aG .pop true (.v 1) .nil))
 (.cons (.ex (.aG .pop true (.v 1) .nil))
 (.cons (.ex (.aG .append true (.v 1) (.cons (.tup (.cons (.blt .len true (.cons (.v 4) .nil)) .nil)) .nil)))
 (.cons (.ex (.aG .append true (.v 4) (.cons (.tup (.cons (.v 9) (.cons (.v 8) (.cons (.v 7) (.cons (.idx (.v 5) (.v 10)) (.cons (.v 11) .nil)))))) .nil)))
 (.cons (.ex (.aG .append true (.v 6) (.cons (.tup (.cons (.k (.str "lay")) (.cons (.idx (.v 5) (.v 10)) .nil))) .nil)))
 (.cons (.ret (.v 11))
 .nil)))))))))))))⟩
noncomputable def ig:List PySem.Str:=["_law_rows", "_law_values", "_law_state", "_law_number", "_law_cells", "_law_pile", "_law_log", "_law_cell", "_law_side", "_law_words"]
noncomputable def iS:Fn:=⟨4,10,[],false,
 (.cons (.nJ [4,5,6] (.v 2))
 (.cons (.set 7 (.idx (.v 4) (.idx (.aG .pop true (.v 1) .nil) (.k (.int 0)))))
 (.cons (.set 8 (.op .mod true (.v 3) (.k (.int 2))))
 (.cons (.set 9 (.lst true (.cons (.k (.str "head")) (.cons (.k (.str "tail")) .nil))))
 (.cons (.ifs (.cmp .eq (.idx (.v 7) (.k (.int 0))) (.k (.str "pair"))) (.cons (.set 9 (.lst true (.cons (.k (.str "first")) (.cons (.k (.str "second")) .nil))))
 .nil) .nil)
 (.cons (.ex (.aG .append true (.v 0) (.cons (.tup (.cons (.idx (.v 9) (.v 8)) .nil)) .nil)))
 (.cons (.ex (.aG .append true (.v 1) (.cons (.idx (.v 7) (.op .add true (.k (.int 1)) (.v 8))) .nil)))
 (.cons (.ex (.aG .append true (.v 6) (.cons (.tup (.cons (.k (.str "look")) (.cons (.idx (.v 7) (.k (.int 3))) .nil))) .nil)))
 .nil))))))))⟩
noncomputable def jt:List PySem.Str:=["_law_rows", "_law_state", "_law_outer", "_law_opened", "_law_number", "_law_cells", "_law_pile", "_law_log"]
noncomputable def lJ:Fn:=⟨5,8,[],false,
 (.cons (.nJ [5,6,7] (.v 1))
 (.cons (.ifs (.or (.cmp .eq (.op .mod true (.v 4) (.k (.int 2))) (.k (.int 0))) (.cmp .eq (.blt .len true (.cons (.v 6) .nil)) (.v 2))) (.cons (.ex (.aG .append true (.v 0) (.cons (.tup (.cons (.k (.str "open")) .nil)) .nil)))
 (.cons (.ex (.aG .append true (.v 6) (.cons (.v 3) .nil)))
 (.cons (.ex (.aG .append true (.v 7) (.cons (.tup (.cons (.k (.str "open")) (.cons (.v 3) .nil))) .nil)))
 (.cons (.ret (.op .add true (.v 3) (.k (.int 1))))
 .nil)))) .nil)
 (.cons (.ex (.aG .append true (.v 0) (.cons (.tup (.cons (.k (.str "shut")) .nil)) .nil)))
 (.cons (.ex (.aG .append true (.v 7) (.cons (.tup (.cons (.k (.str "shut")) (.cons (.aG .pop true (.v 6) .nil) .nil))) .nil)))
 (.cons (.ret (.v 3))
 .nil)))))⟩
noncomputable def iQ:List PySem.Str:=["_law_rows", "_law_values", "_law_held", "_law_number", "_law_deed", "_law_value", "_law_at"]
noncomputable def jO:Fn:=⟨4,7,[],false,
 (.cons (.set 4 (.op .mod true (.v 3) (.k (.int 5))))
 (.cons (.ifs (.or (.cmp .lt (.v 4) (.k (.int 2))) (.or (.and (.cmp .eq (.v 4) (.k (.int 4))) (.cmp .eq (.blt .len true (.cons (.v 1) .nil)) (.k (.int 0)))) (.and (.cmp .eq (.v 4) (.k (.int 3))) (.cmp .eq (.blt .len true (.cons (.v 2) .nil)) (.k (.int 0)))))) (.cons (.set 5 (.idx (.lst true (.cons (.op .mod true (.op .fdiv true (.v 3) (.k (.int 5))) (.k (.int 1000))) (.cons (.k .ai) .nil))) (.ou .int (.cmp .eq (.v 4) (.k (.int 1))))))
 (.cons (.ex (.aG .append true (.v 0) (.cons (.idx (.lst true (.cons (.tup (.cons (.k (.str "number")) (.cons (.v 5) .nil))) (.cons (.tup (.cons (.k (.str "nil")) .nil)) .nil))) (.ou .int (.cmp .eq (.v 4) (.k (.int 1))))) .nil)))
 (.cons (.ex (.aG .append true (.v 1) (.cons (.v 5) .nil)))
 .nil))) (.cons (.ifs (.cmp .eq (.v 4) (.k (.int 4))) (.cons (.ex (.aG .append true (.v 0) (.cons (.tup (.cons (.k (.str "keep")) .nil)) .nil)))
 (.cons (.ex (.aG .append true (.v 2) (.cons (.aG .pop true (.v 1) .nil) .nil)))
 .nil)) (.cons (.set 6 (.op .mod true (.op .fdiv true (.v 3) (.k (.int 5))) (.mx true (.k (.int 1)) (.blt .len true (.cons (.v 2) .nil)))))
 (.cons (.ifs (.cmp .gt (.blt .len true (.cons (.v 2) .nil)) (.k (.int 0))) (.cons (.ex (.aG .append true (.v 0) (.cons (.tup (.cons (.k (.str "local")) (.cons (.v 6) .nil))) .nil)))
 (.cons (.ex (.aG .append true (.v 1) (.cons (.idx (.v 2) (.v 6)) .nil)))
 .nil)) .nil)
 .nil)))
 .nil))
 .nil))⟩
noncomputable def j0:List PySem.Str:=["_law_code", "_law_numbers", "_law_word", "_law_found"]
noncomputable def nh:Fn:=⟨2,4,[],false,
 (.cons (.set 2 (.k (.str "")))
 (.cons (.set 3 (.k .ai))
 (.cons (.try (.cons (.set 3 (.gW 7 (.cons (.v 0) (.cons (.v 1) .nil)) 200))
 .nil) (.cons [1] (.cons (.set 2 (.k (.str "great")))
 .nil) (.cons [5] (.cons (.set 2 (.k (.str "gone")))
 .nil) (.cons [0] (.cons (.set 2 (.k (.str "other")))
 .nil) .nil))) .nil)
 (.cons (.ret (.tup (.cons (.v 2) (.cons (.v 3) .nil))))
 .nil))))⟩
noncomputable def ju:List PySem.Str:=["_law_rows", "_law_values", "_law_held", "_law_state", "_law_outer", "_law_cells", "_law_opened", "_law_cell", "_law_number", "_law_deed", "_law_known"]
noncomputable def ir:Fn:=⟨6,11,[],false,
 (.cons (.set 6 (.v 4))
 (.cons (.for [7] (.e (.v 5)) (.cons (.set 8 (.call 22 (.cons (.v 7) .nil)))
 (.cons (.set 9 (.op .mod true (.v 8) (.k (.int 10))))
 (.cons (.set 10 (.comp true [3] [1] (.v 1) (.e (.sl true (.v 1) (.some (.neg (.k (.int 1)))) .none)) (.some (.and (.fV (.v 1) .tuple) (.cmp .isin (.idx (.idx (.idx (.v 0) (.k (.int 0))) (.idx (.v 1) (.k (.int 0)))) (.k (.int 3))) (.idx (.v 0) (.k (.int 1))))))))
 (.cons (.ifs (.and (.cmp .lt (.v 9) (.k (.int 3))) (.and (.cmp .gt (.blt .len true (.cons (.v 1) .nil)) (.k (.int 1))) (.cmp .gt (.blt .len true (.cons (.idx (.v 3) (.k (.int 1))) .nil)) (.k (.int 0))))) (.cons (.ifs (.cmp .gt (.call 28 (.cons (.v 0) (.cons (.v 1) (.cons (.v 3) (.cons (.op .fdiv true (.v 8) (.k (.int 10))) .nil))))) (.k (.int 1000))) (.cons (.ret (.k (.bl true)))
 .nil) .nil)
 .nil) (.cons (.ifs (.and (.cmp .lt (.v 9) (.k (.int 5))) (.cmp .ne (.v 10) (.lst true .nil))) (.cons (.ex (.call 29 (.cons (.v 0) (.cons (.v 1) (.cons (.v 3) (.cons (.op .fdiv true (.v 8) (.k (.int 10))) .nil))))))
 .nil) (.cons (.ifs (.cmp .lt (.v 9) (.k (.int 7))) (.cons (.set 6 (.call 30 (.cons (.v 0) (.cons (.v 3) (.cons (.v 4) (.cons (.v 6) (.cons (.op .fdiv true (.v 8) (.k (.int 10))) .nil)))))))
 .nil) (.cons (.ifs (.and (.cmp .eq (.v 9) (.k (.int 7))) (.cmp .eq (.sl true (.v 1) (.some (.neg (.k (.int 1)))) .none) (.lst true (.cons (.k .ai) .nil)))) (.cons (.ex (.aG .append true (.v 0) (.cons (.tup (.cons (.k (.str "none")) .nil)) .nil)))
 (.cons (.mh (.v 1) (.neg (.k (.int 1))) (.k (.int 1)))
 .nil)) (.cons (.ex (.call 31 (.cons (.v 0) (.cons (.v 1) (.cons (.v 2) (.cons (.op .fdiv true (.v 8) (.k (.int 10))) .nil))))))
 .nil))
 .nil))
 .nil))
 .nil))
 .nil)))))
 (.cons (.ret (.k (.bl false)))
 .nil)))⟩
noncomputable def iP:List PySem.Str:=["_law_number", "_law_rows", "_law_word", "_law_found"]
noncomputable def jN:Fn:=⟨1,4,[],false,
 (.cons (.set 1 (.lst true (.cons (.tup (.cons (.k (.str "number")) (.cons (.v 0) .nil))) (.cons (.tup (.cons (.k (.str "nil")) .nil)) (.cons (.tup (.cons (.k (.str "cons")) (.cons (.k (.int 0)) .nil))) (.cons (.tup (.cons (.k (.str "keep")) .nil)) (.cons (.tup (.cons (.k (.str "local")) (.cons (.k (.int 0)) .nil))) (.cons (.tup (.cons (.k (.str "local")) (.cons (.k (.int 0)) .nil))) (.cons (.tup (.cons (.k (.str "pair")) (.cons (.k (.int 0)) .nil))) (.cons (.tup (.cons (.k (.str "back")) .nil)) .nil))))))))))
 (.cons (.nJ [2,3] (.call 32 (.cons (.tup (.cons (.v 1) (.cons (.k (.int 0)) (.cons (.k (.int 1)) .nil)))) (.cons (.lst true .nil) .nil))))
 (.cons (.ifs (.or (.cmp .ne (.v 2) (.k (.str ""))) (.cmp .ne (.idx (.v 3) (.k (.int 0))) (.tup (.cons (.lst true (.cons (.v 0) .nil)) (.cons (.lst true (.cons (.v 0) .nil)) .nil))))) (.cons (.ret (.k (.bl false)))
 .nil) .nil)
 (.cons (.ex (.aG .append true (.idx (.idx (.v 3) (.k (.int 0))) (.k (.int 0))) (.cons (.k (.int 7)) .nil)))
 (.cons (.ret (.cmp .eq (.idx (.idx (.v 3) (.k (.int 0))) (.k (.int 1))) (.lst true (.cons (.v 0) .nil))))
 .nil)))))⟩
noncomputable def iT:List PySem.Str:=["_law_number", "_law_times", "_law_rows", "_law_size_here", "_law_k", "_law_word", "_law_found"]
noncomputable def jQ:Fn:=⟨1,7,[],false,
 (.cons (.set 1 (.op .add true (.k (.int 1)) (.op .mod true (.v 0) (.k (.int 12)))))
 (.cons (.set 2 (.lst true (.cons (.tup (.cons (.k (.str "number")) (.cons (.k (.int 5)) .nil))) (.cons (.tup (.cons (.k (.str "keep")) .nil)) .nil))))
 (.cons (.set 3 (.k (.int 1)))
 (.cons (.for [4] (.eF (.v 1)) (.cons (.set 2 (.op .add true (.v 2) (.lst true (.cons (.tup (.cons (.k (.str "local")) (.cons (.v 4) .nil))) (.cons (.tup (.cons (.k (.str "local")) (.cons (.v 4) .nil))) (.cons (.tup (.cons (.k (.str "pair")) (.cons (.k (.int 0)) .nil))) (.cons (.tup (.cons (.k (.str "keep")) .nil)) .nil)))))))
 (.cons (.set 3 (.op .add true (.op .mul true (.k (.int 2)) (.v 3)) (.k (.int 1))))
 .nil)))
 (.cons (.nJ [5, 6] (.call 32 (.cons (.tup (.cons (.op .add true (.v 2) (.lst true (.cons (.tup (.cons (.k (.str "number")) (.cons (.k (.int 7)) .nil))) (.cons (.tup (.cons (.k (.str "back")) .nil)) .nil)))) (.cons (.k (.int 0)) (.cons (.k (.int 1)) .nil)))) (.cons (.lst true .nil) .nil))))
 (.cons (.ifs (.cmp .gt (.v 3) (.k (.int 1000))) (.cons (.ret (.cmp .eq (.v 5) (.k (.str "great"))))
 .nil) .nil)
 (.cons (.ret (.and (.cmp .eq (.v 5) (.k (.str ""))) (.cmp .eq (.v 6) (.tup (.cons (.k (.int 7)) (.cons (.op .add true (.op .add true (.lst true (.cons (.tup (.cons (.k (.str "open")) (.cons (.k (.int 0)) .nil))) .nil)) (.op .mul true (.lst true (.cons (.tup (.cons (.k (.str "lay")) (.cons (.k (.int 0)) .nil))) .nil)) (.v 1))) (.lst true (.cons (.tup (.cons (.k (.str "shut")) (.cons (.k (.int 0)) .nil))) .nil))) .nil))))))
 .nil)))))))⟩
noncomputable def qE:List PySem.Str:=["_law_script", "_law_more", "_law_outer", "_law_numbers", "_law_state", "_law_rows", "_law_values", "_law_held", "_law_great", "_law_cells", "_law_pile", "_law_log", "_law_code", "_law_word", "_law_found"]
noncomputable def EA:Fn:=⟨1,15,[],false,
 (.cons (.set 1 (.op .mul true (.k (.int 6)) (.ou .int (.cmp .eq (.op .mod true (.op .fdiv true (.call 23 (.cons (.v 0) (.cons (.k (.int 0)) .nil))) (.k (.int 3))) (.k (.int 8))) (.k (.int 3))))))
 (.cons (.set 2 (.op .add true (.v 1) (.op .mod true (.call 23 (.cons (.v 0) (.cons (.k (.int 0)) .nil))) (.k (.int 3)))))
 (.cons (.set 3 (.comp true [0] [1] (.op .mod true (.call 23 (.cons (.v 0) (.cons (.v 1) .nil))) (.op .pow true (.k (.int 10)) (.k (.int 6)))) (.eF (.op .add true (.v 1) (.op .mod true (.call 23 (.cons (.v 0) (.cons (.k (.int 1)) .nil))) (.k (.int 3))))) .none))
 (.cons (.set 4 (.tup (.cons (.lst false .nil) (.cons (.Ct false (.v 2)) (.cons (.comp false [] [0] (.tup (.cons (.k (.str "open")) (.cons (.v 0) .nil))) (.eF (.v 2)) .none) .nil)))))
 (.cons (.set 5 (.lst false .nil))
 (.cons (.set 6 (.lst false .nil))
 (.cons (.set 7 (.blt .list false (.cons (.v 3) .nil)))
 (.cons (.set 8 (.call 33 (.cons (.v 5) (.cons (.v 6) (.cons (.v 7) (.cons (.v 4) (.cons (.v 2) (.cons (.sl true (.v 0) (.some (.k (.int 3))) (.some (.k (.int 43)))) .nil))))))))
 (.cons (.nJ [9,10,11] (.v 4))
 (.cons (.while (.and (.cmp .gt (.blt .len true (.cons (.v 10) .nil)) (.v 2)) (.not (.v 8))) (.cons (.ex (.aG .append true (.v 5) (.cons (.tup (.cons (.k (.str "shut")) .nil)) .nil)))
 (.cons (.ex (.aG .append true (.v 11) (.cons (.tup (.cons (.k (.str "shut")) (.cons (.aG .pop true (.v 10) .nil) .nil))) .nil)))
 .nil)))
 (.cons (.ifs (.cmp .eq (.blt .len true (.cons (.v 6) .nil)) (.k (.int 0))) (.cons (.ex (.aG .append true (.v 5) (.cons (.tup (.cons (.k (.str "nil")) .nil)) .nil)))
 (.cons (.ex (.aG .append true (.v 6) (.cons (.k .ai) .nil)))
 .nil)) .nil)
 (.cons (.while (.and (.cmp .gt (.blt .len true (.cons (.v 6) .nil)) (.k (.int 1))) (.not (.v 8))) (.cons (.ex (.aG .append true (.v 5) (.cons (.tup (.cons (.k (.str "keep")) .nil)) .nil)))
 (.cons (.ex (.aG .pop true (.v 6) .nil))
 .nil)))
 (.cons (.ex (.aG .append true (.v 5) (.cons (.tup (.cons (.k (.str "back")) .nil)) .nil)))
 (.cons (.set 12 (.tup (.cons (.blt .list true (.cons (.v 5) .nil)) (.cons (.k (.int 0)) (.cons (.v 2) .nil)))))
 (.cons (.nJ [13,14] (.call 32 (.cons (.v 12) (.cons (.blt .list true (.cons (.v 3) .nil)) .nil))))
 (.cons (.ifs (.cmp .ne (.v 12) (.tup (.cons (.v 5) (.cons (.k (.int 0)) (.cons (.v 2) .nil))))) (.cons (.ret (.k (.bl false)))
 .nil) .nil)
 (.cons (.ifs (.or (.not (.call 34 (.cons (.call 23 (.cons (.v 0) (.cons (.k (.int 2)) .nil))) .nil))) (.not (.call 35 (.cons (.call 23 (.cons (.v 0) (.cons (.k (.int 2)) .nil))) .nil)))) (.cons (.ret (.k (.bl false)))
 .nil) .nil)
 (.cons (.ifs (.v 8) (.cons (.ret (.cmp .eq (.v 13) (.k (.str "great"))))
 .nil) .nil)
 (.cons (.ifs (.not (.call 26 (.cons (.v 9) (.cons (.v 10) (.cons (.idx (.v 6) (.neg (.k (.int 1)))) .nil))))) (.cons (.ret (.cmp .eq (.v 13) (.k (.str "gone"))))
 .nil) .nil)
 (.cons (.set 11 (.op .add false (.v 11) (.comp true [2] [1] (.tup (.cons (.k (.str "shut")) (.cons (.op .sub true (.op .sub true (.v 0) (.k (.int 1))) (.v 1)) .nil))) (.eF (.v 2)) .none)))
 (.cons (.ret (.and (.cmp .eq (.v 13) (.k (.str ""))) (.cmp .eq (.v 14) (.tup (.cons (.call 27 (.cons (.v 9) (.cons (.idx (.v 6) (.neg (.k (.int 1)))) .nil))) (.cons (.v 11) .nil))))))
 .nil)))))))))))))))))))))⟩
noncomputable def fns:List Fn:=[jl,gC,ie,sR,jM,zP,jk,ng,eT,dM,cQ,cP,cZ,gU,gr,jv,fR,iV,j4,ck,bT,eS,jP,gS,lH,lG,gn,lF,lI,iS,lJ,jO,nh,ir,jN,jQ,EA]
noncomputable def cst:List D:=[(.int 1000),(.int 12)]
noncomputable def subs:List (Nat×Nat):=[(0,0),(1,0),(1,1),(2,0),(2,2),(3,0),(3,3),(4,0),(4,4),(5,0),(5,5)]
noncomputable def ah:mD:=⟨fun i=>fns[i]?,fun i=>cst[i]?,100000,fun a b=>subs.contains (a,b)⟩
end bI
end
section
set_option maxHeartbeats 0
namespace bI
open Fg PySem PySem.Spec L2
noncomputable abbrev hdP:Program:=PySem.Challenge.pw_fieldgate_k42_cells_and_fields
noncomputable def bG (i:Nat):Stmt:=hdP.main.body.getD i (.Pass ⟨0,0,0,0⟩)
noncomputable def tb:Tb:=⟨[
 ⟨"size_of", "size_of", bG 10, ["value"], jZ, 0, none⟩,
 ⟨"cell_of", "cell_of", bG 11, ["word", "first", "second"], j3, 1, none⟩,
 ⟨"want_few_figures", "want_few_figures", bG 12, ["number"], ek, 2, none⟩,
 ⟨"reckoned", "reckoned", bG 13, ["word", "first", "second"], jm, 3, none⟩,
 ⟨"looked_up", "looked_up", bG 14, ["word", "value"], iO, 4, none⟩,
 ⟨"told", "told", bG 15, ["value"], oF, 5, none⟩,
 ⟨"want_few_calls", "want_few_calls", bG 16, ["begun", "under_way", "most"], fE, 6, none⟩,
 ⟨"run", "run", bG 20, ["code", "numbers", "most"], qD, 7, some 200⟩,
 ⟨"_law_mixed", "_law_mixed", bG 22, ["_law_cell"], iR, 22, none⟩,
 ⟨"_law_cell_at", "_law_cell_at", bG 23, ["_law_script", "_law_k"], gI, 23, none⟩,
 ⟨"_law_size", "_law_size", bG 24, ["_law_cells", "_law_value"], jq, 24, none⟩,
 ⟨"_law_sort", "_law_sort", bG 25, ["_law_cells", "_law_value"], jo, 25, none⟩,
 ⟨"_law_all_open", "_law_all_open", bG 26, ["_law_cells", "_law_pile", "_law_value"], gk, 26, none⟩,
 ⟨"_law_told", "_law_told", bG 27, ["_law_cells", "_law_value"], jn, 27, none⟩,
 ⟨"_law_laid", "_law_laid", bG 28, ["_law_rows", "_law_values", "_law_state", "_law_number"], jr, 28, none⟩,
 ⟨"_law_looked", "_law_looked", bG 29, ["_law_rows", "_law_values", "_law_state", "_law_number"], ig, 29, none⟩,
 ⟨"_law_gate", "_law_gate", bG 30, ["_law_rows", "_law_state", "_law_outer", "_law_opened", "_law_number"], jt, 30, none⟩,
 ⟨"_law_plain", "_law_plain", bG 31, ["_law_rows", "_law_values", "_law_held", "_law_number"], iQ, 31, none⟩,
 ⟨"_law_ran", "_law_ran", bG 32, ["_law_code", "_law_numbers"], j0, 32, none⟩,
 ⟨"_law_done", "_law_done", bG 33, ["_law_rows", "_law_values", "_law_held", "_law_state", "_law_outer", "_law_cells"], ju, 33, none⟩,
 ⟨"_law_twice", "_law_twice", bG 34, ["_law_number"], iP, 34, none⟩,
 ⟨"_law_grown", "_law_grown", bG 35, ["_law_number"], iT, 35, none⟩,
 ⟨"law", "law", bG 36, ["_law_script"], qE, 36, none⟩],
 ["Frame", "Machine"],
 [(0, ⟨"__init__", "Frame.__init__", inClass (bG 18) 0, ["self", "known", "fields", "behind_call"], fH, 8, none⟩),
 (1, ⟨"__init__", "Machine.__init__", inClass (bG 19) 0, ["self", "rows", "most"], ez, 9, none⟩),
 (1, ⟨"open_field", "Machine.open_field", inClass (bG 19) 1, ["self"], dJ, 10, none⟩),
 (1, ⟨"shut_field", "Machine.shut_field", inClass (bG 19) 2, ["self", "field"], dI, 11, none⟩),
 (1, ⟨"want_open", "Machine.want_open", inClass (bG 19) 3, ["self", "field"], dW, 12, none⟩),
 (1, ⟨"lay", "Machine.lay", inClass (bG 19) 4, ["self", "word", "field"], gJ, 13, none⟩),
 (1, ⟨"look", "Machine.look", inClass (bG 19) 5, ["self", "word"], gq, 14, none⟩),
 (1, ⟨"reckon", "Machine.reckon", inClass (bG 19) 6, ["self", "word"], fF, 15, none⟩),
 (1, ⟨"carry", "Machine.carry", inClass (bG 19) 7, ["self", "row"], fX, 16, none⟩),
 (1, ⟨"go", "Machine.go", inClass (bG 19) 8, ["self", "row"], iu, 17, none⟩),
 (1, ⟨"enter", "Machine.enter", inClass (bG 19) 9, ["self", "begin", "many", "numbers"], fW, 18, none⟩),
 (1, ⟨"step", "Machine.step", inClass (bG 19) 10, ["self"], gp, 19, none⟩),
 (1, ⟨"want_all_open", "Machine.want_all_open", inClass (bG 19) 11, ["self", "value"], cO, 20, none⟩),
 (1, ⟨"answer", "Machine.answer", inClass (bG 19) 12, ["self"], fG, 21, none⟩)],
 ["GateError", "TooGreat", "Empty", "TooLong", "TooDeep", "Gone"],
 [("MOST_SIZE", 0, 1000), ("MOST_UNDER_WAY", 1, 12)],
 ["len", "tuple", "list", "int", "abs", "max", "range", "isinstance", "reversed"],
 ["place", "known", "fields", "behind_call", "rows", "most", "begun", "pile", "frames", "lies_open", "log"],
 [],
 []⟩
noncomputable def Nn:Program:=W.view hdP [36]
noncomputable def hdL:List Str:=["GateError", "TooGreat", "Empty", "TooLong", "TooDeep", "Gone", "MOST_SIZE", "MOST_UNDER_WAY", "size_of", "cell_of", "want_few_figures", "reckoned", "looked_up", "told", "want_few_calls", "Frame", "Machine", "run", "_law_mixed", "_law_cell_at", "_law_size", "_law_sort", "_law_all_open", "_law_told", "_law_laid", "_law_looked", "_law_gate", "_law_plain", "_law_ran", "_law_done", "_law_twice", "_law_grown"]
noncomputable def hdX (s:Shared):Bool:=W.xlAt Nn [] s&&W.recOk (W.RowW.records PySem.Challenge.rw_fieldgate_k42_cells_and_fields.row.toRowW) s
theorem lft:W.LeftO hdP Nn hdL hdX (tb.hook ah).obs (tb.hook ah).val 20000:=fun w=>by kernel_rfl
end bI
end
section
namespace L2
open PySem PySem.Spec PyProof.Rows
noncomputable abbrev Key:=Sum Int Str
noncomputable def lq:Key->Value->Bool
 | .inl k,v=>Value.isInt k v
 | .inr x,v=>Value.isStrOf x v
noncomputable def keyH (w:World):Key->Int
 | .inl k=>hashInt k
 | .inr x=>hashStr w x
theorem aV:∀ {k:Key} {v:Value},lq k v=true->(∃ i t,k=Sum.inl i/\v=Value.int i t)\/(∃ x t,k=Sum.inr x/\v=Value.str x t)
 | .inl i,v,h=>by
  obtain ⟨t,e⟩:=Value.isInt_shape (k:=i) (v:=v) h
  exact .inl ⟨i,t,rfl,e⟩
 | .inr x,v,h=>by
  obtain ⟨t,e⟩:=Value.isStrOf_shape (x:=x) (v:=v) h
  exact .inr ⟨x,t,rfl,e⟩
theorem wC (i:Int) (t:Tok):lq (.inl i) (.int i t)=true:=by simp [lq,Value.isInt]
theorem jh (x:Str) (t:Tok):lq (.inr x) (.str x t)=true:=by simp [lq,Value.isStrOf]
theorem G7 (a b:Int):decide ((Sum.inl a:Key)=Sum.inl b)=(a == b):=by
 by_cases e:a=b
 ·subst e;simp
 ·have h:¬ (Sum.inl a:Key)=Sum.inl b:=fun q=>e (Sum.inl.inj q)
  rw [decide_eq_false h]
  exact (beq_eq_false_iff_ne.mpr e).symm
theorem G4 (a b:Str):decide ((Sum.inr a:Key)=Sum.inr b)=decide (a=b):=by
 by_cases e:a=b
 ·subst e;simp
 ·have h:¬ (Sum.inr a:Key)=Sum.inr b:=fun q=>e (Sum.inr.inj q)
  rw [decide_eq_false h,decide_eq_false e]
theorem G6 (a:Int) (b:Str):decide ((Sum.inl a:Key)=Sum.inr b)=false:=decide_eq_false (fun q=>nomatch q)
theorem G5 (a:Str) (b:Int):decide ((Sum.inr a:Key)=Sum.inl b)=false:=decide_eq_false (fun q=>nomatch q)
noncomputable def aT (prog:Program) (w:World):PySem.KeyKind prog w Key where
 is:=lq
 hash:=keyH w
 inj:=fun v a b ha hb=>by
  rcases aV ha with ⟨i,t,rfl,rfl⟩ | ⟨x,t,rfl,rfl⟩
  ·rcases aV hb with ⟨j,u,rfl,e⟩ | ⟨y,u,rfl,e⟩
   ·injection e with e1 _;rw [e1]
   ·exact nomatch e
  ·rcases aV hb with ⟨j,u,rfl,e⟩ | ⟨y,u,rfl,e⟩
   ·exact nomatch e
   ·injection e with e1 _;rw [e1]
 byValue:=fun k v h=>by
  rcases aV h with ⟨i,t,rfl,rfl⟩ | ⟨x,t,rfl,rfl⟩ <;> rfl
 pyHash:=fun hv h=>by
  rcases aV hv with ⟨i,t,rfl,rfl⟩ | ⟨x,t,rfl,rfl⟩
  ·exact wpAny_pyHash_int h
  ·exact wpAny_pyHash_str h
 eqBool:=fun hu hv h=>by
  rcases aV hu with ⟨i,t,rfl,rfl⟩ | ⟨x,t,rfl,rfl⟩
  ·rcases aV hv with ⟨j,u,rfl,rfl⟩ | ⟨y,u,rfl,rfl⟩
   ·rw [G7] at h;exact wpAny_eqBool_int h
   ·rw [G6] at h;exact SeqAt.EqAt.int_str i t y u _ _ _ _ h
  ·rcases aV hv with ⟨j,u,rfl,rfl⟩ | ⟨y,u,rfl,rfl⟩
   ·rw [G5] at h;exact SeqAt.EqAt.str_int x t j u _ _ _ _ h
   ·rw [G4] at h;exact wpAny_eqBool_str h
 «strs»:=fun k x t v h=>by
  rcases aV h with ⟨i,u,rfl,e⟩ | ⟨y,u,rfl,e⟩
  ·exact nomatch e
  ·injection e with e1 _
   subst e1
   cases v <;> rfl
theorem qj (prog:Program) (w:World) (i:Int) (t:Tok):(aT prog w).is (.inl i) (.int i t)=true:=wC i t
theorem qi (prog:Program) (w:World) (x:Str) (t:Tok):(aT prog w).is (.inr x) (.str x t)=true:=jh x t
inductive V where
 | ai | bl (b:Bool) | int (i:Int) | str (x:Str) | xw (b:Array UInt8) | Nt (b:UInt64) | ref (a:Addr) | ty (n:String)
 deriving DecidableEq
noncomputable def RelV:V->Value->Prop
 | .ai,u=>u=Value.none
 | .bl b,u=>u=Value.bool b
 | .int i,u=>∃ t,u=Value.int i t
 | .str x,u=>∃ t,u=Value.str x t
 | .xw b,u=>∃ t,u=Value.bytes b t
 | .Nt b,u=>∃ t,u=Value.float b t
 | .ref a,u=>u=Value.ref a
 | .ty n,u=>u=Value.type n
noncomputable abbrev Vals:List V->List Value->Prop:=Paired RelV
theorem Vals.length {xs:List V} {us:List Value} (r:Vals xs us):xs.length=us.length:=Paired.length r
theorem Vals.get:∀ {xs:List V} {us:List Value} {i:Nat} {x:V},Vals xs us->xs[i]? = some x->∃ u,us[i]? = some u/\RelV x u
 | _,_,_,_,.nil,e=>by simp at e
 | _,_,0,_,.cons r _,e=>by simp at e;subst e;exact ⟨_,rfl,r⟩
 | _,_,i+1,x,.cons _ t,e=>by
  obtain ⟨u,h1,h2⟩:=Vals.get (i:=i) (x:=x) t (by simpa using e)
  exact ⟨u,by simpa using h1,h2⟩
theorem Vals.set {x:V} {u:Value} (r:RelV x u):∀ {xs:List V} {us:List Value} (i:Nat),Vals xs us->Vals (xs.set i x) (us.set i u)
 | _,_,_,.nil=>.nil
 | _,_,0,.cons _ t=>.cons r t
 | _,_,i+1,.cons q t=>.cons q (Vals.set r i t)
theorem Vals.append:∀ {xs ys:List V} {us ws:List Value},Vals xs us->Vals ys ws->Vals (xs++ys) (us++ws)
 | _,_,_,_,.nil,s=>s
 | _,_,_,_,.cons r t,s=>.cons r (Vals.append t s)
theorem Vals.take:∀ {xs:List V} {us:List Value} (n:Nat),Vals xs us->Vals (xs.take n) (us.take n)
 | _,_,0,_=>.nil
 | _,_,_+1,.nil=>.nil
 | _,_,n+1,.cons r t=>.cons r (Vals.take n t)
theorem Vals.drop:∀ {xs:List V} {us:List Value} (n:Nat),Vals xs us->Vals (xs.drop n) (us.drop n)
 | _,_,0,r=>r
 | _,_,_+1,.nil=>.nil
 | _,_,n+1,.cons _ t=>Vals.drop n t
noncomputable def iA:Option V->Option Value->Prop
 | some v,some u=>RelV v u
 | none,none=>True
 | _,_=>False
noncomputable def KV {κ:Type}:List (κ×V)->List (κ×Value)->Prop:=Paired fun (p:κ×V) (q:κ×Value)=>p.1=q.1/\RelV p.2 q.2
noncomputable def kV:Key->V
 | .inl i=>.int i
 | .inr x=>.str x
inductive HO where
 | lst (xs:List V)
 | tup (xs:List V)
 | dK (kvs:List (Key×V)) | dT (kvs:List (List Key×V))
 | set (S:Int->Bool) (n:Nat)
 | ins (C dx:Addr) (fs:List (Str×V))
 | own (x:Addr)
 | xd (fs:List (Str×V))
 | met (f x:Addr)
 | eF (lo hi:Int)
 | gA (o:Obj) (u:HO)
 | DP (ps:Array Value)
 | ext (φ:Heap->Prop)
noncomputable abbrev Hp:=Addr->Option HO
noncomputable def upd (H:Hp) (a:Addr) (o:HO):Hp:=fun b=>if b=a then some o else H b
theorem aD {H:Hp} {a:Addr} {o:HO}:upd H a o a=some o:=by unfold upd;rw [if_pos rfl]
theorem au {H:Hp} {a b:Addr} {o:HO} (h:b≠a):upd H a o b=H b:=by unfold upd;rw [if_neg h]
theorem K0 {H:Hp} {a b:Addr} {o u:HO} (h:H a=some o) (h':H b=some u) (d:o≠u):a≠b:=by
 intro e;subst e;rw [h] at h';exact d (Option.some.inj h')
theorem dF {H:Hp} {a b:Addr} {o:HO} (h:H a=some o) (h':H b=none):a≠b:=by
 intro e;subst e;rw [h] at h';cases h'
section
variable (P:Program) (w:World)
noncomputable def bD (H:Hp) (h:Heap) (a:Addr):HO->Prop
 | .lst xs=>xs.length<=sizeLine/\∃ (its:List Value) (n:Nat), Vals xs its/\h.get? a=some { cls:=.type "list", data:=.seq its.toArray n }
 | .tup xs=>xs.length<=sizeLine/\∃ its:List Value,Vals xs its/\IsTup h a its.toArray
 | .dK kvs=>kvs.length<=sizeLine/\(a == sysModules)=false/\∃ vs,KV kvs vs/\h.DictOf (aT P w) a vs
 | .dT kvs=>kvs.length<=sizeLine/\(a == sysModules)=false/\∃ xs:List (List Key×Addr×Value),
   Paired (fun (p:List Key×V) (q:List Key×Addr×Value)=>p.1=q.1/\H q.2.1=some (.tup (p.1.map kV))/\RelV p.2 q.2.2) kvs xs /\
   ∃ o es ep,h.get? a=some o/\o.ExactDict/\o.data=.dict es ep/\es.toList=xs.map (entryOfKey (tupleKind (aT P w)))/\(xs.map (·.1)).Nodup
 | .set S n=>h.SetOf (intKind P w) a S n
 | .ins C dx fs=>H dx=some (.own a)/\fs.length<=1000/\dx≠a/\h.get? a=some (PySem.W.instObj C dx) /\
   ∃ mA,h.Ns1 dx mA/\(∀ f,iA (fs.lookup f) (mA f))/\PySem.Within mA (fs.map (·.1))
 | .own _=>∃ o,h.get? a=some o
 | .xd fs=>∃ mA,h.Ns1 a mA/\∀ f,iA (fs.lookup f) (mA f)
 | .eF lo hi=>∃ t u v, h.get? a=some { cls:=.type "range", data:=.fields #[.int lo t, .int hi u, .int 1 v] }
 | .gA o u=>h.get? a=some o/\bD H h a u
 | .DP ps=>h.get? a=some { cls:=.none,data:=.fields ps }
 | .met f x=>h.get? a=some (PySem.W.methodObj (.ref f) (.ref x))
 | .ext φ=>φ h/\(∃ o,h.get? a=some o)/\∀ h1 h2:Heap,φ h1->(∀ o,h1.get? a=some o->h2.get? a=some o)->φ h2
noncomputable def gO (H:Hp) (h:Heap):Prop:=∀ a o,H a=some o->bD P w H h a o
end
section
variable {P:Program} {w:World} {H H':Hp} {h h':Heap} {a:Addr} {o:HO}
theorem bD.lt (x:bD P w H h a o):a<h.objs.size:=by
 cases o with
 | lst xs=>obtain ⟨_,_,_,_,e⟩:=x;exact Heap.lt_size e
 | tup xs=>obtain ⟨_,_,_,p⟩:=x;exact p.lt
 | dK kvs=>obtain ⟨_,_,_,_,o,_,_,e,_⟩:=x;exact Heap.lt_size e
 | dT kvs=>obtain ⟨_,_,_,_,o,_,_,e,_⟩:=x;exact Heap.lt_size e
 | set S n=>obtain ⟨o,_,_,_,e,_⟩:=x;exact Heap.lt_size e
 | ins C dx fs=>obtain ⟨_,_,_,e,_⟩:=x;exact Heap.lt_size e
 | own y=>obtain ⟨_,e⟩:=x;exact Heap.lt_size e
 | xd fs=>obtain ⟨_,⟨_,_,_,e,_⟩,_⟩:=x;exact Heap.lt_size e
 | eF lo hi=>obtain ⟨_,_,_,e⟩:=x;exact Heap.lt_size e
 | gA ob u=>obtain ⟨e,_⟩:=x;exact Heap.lt_size e
 | DP ps=>exact Heap.lt_size (show h.get? a=some _ from x)
 | met f y=>exact Heap.lt_size (show h.get? a=some _ from x)
 | ext φ=>obtain ⟨_,⟨_,e⟩,_⟩:=x;exact Heap.lt_size e
theorem Paired.GS {α β:Type} {F G:α->β->Prop}:∀ {l₁:List α} {l₂:List β},Paired F l₁ l₂->(∀ a b,F a b->G a b)->Paired G l₁ l₂
 | _,_,.nil,_=>.nil
 | _,_,.cons r t,f=>.cons (f _ _ r) (Paired.GS t f)
theorem bD.stay (x:bD P w H h a o) (k:∀ b u,(b=a\/H b=some (.own a))->h.get? b=some u->h'.get? b=some u)
  (ho:∀ b,H b=some (.own a)->H' b=some (.own a)) (ht:∀ b xs,H b=some (.tup xs)->H' b=some (.tup xs)):bD P w H' h' a o:=by
 induction o with
 | lst xs=>obtain ⟨z,its,n,r,e⟩:=x;exact ⟨z,its,n,r,k _ _ (.inl rfl) e⟩
 | tup xs=>obtain ⟨z,its,r,ob,e,c⟩:=x;exact ⟨z,its,r,ob,k _ _ (.inl rfl) e,c⟩
 | dK kvs=>obtain ⟨z,y,vs,r,ob,es,ep,e,c⟩:=x;exact ⟨z,y,vs,r,ob,es,ep,k _ _ (.inl rfl) e,c⟩
 | dT kvs =>
  obtain ⟨z,y,xs,r,ob,es,ep,e,c⟩:=x
  exact ⟨z,y,xs,Paired.GS r fun p q z=>⟨z.1,ht _ _ z.2.1,z.2.2⟩,ob,es,ep,k _ _ (.inl rfl) e,c⟩
 | set S n=>obtain ⟨ob,es,ep,t,e,c⟩:=x;exact ⟨ob,es,ep,t,k _ _ (.inl rfl) e,c⟩
 | ins C dx fs =>
  obtain ⟨d,z,ne,e,mA,⟨od,es,ep,e2,c⟩,r⟩:=x
  exact ⟨ho _ d,z,ne,k _ _ (.inl rfl) e,mA,⟨od,es,ep,k _ _ (.inr d) e2,c⟩,r⟩
 | own y=>obtain ⟨ob,e⟩:=x;exact ⟨ob,k _ _ (.inl rfl) e⟩
 | xd fs=>obtain ⟨mA,⟨od,es,ep,e,c⟩,r⟩:=x;exact ⟨mA,⟨od,es,ep,k _ _ (.inl rfl) e,c⟩,r⟩
 | eF lo hi=>obtain ⟨t,u,v,e⟩:=x;exact ⟨t,u,v,k _ _ (.inl rfl) e⟩
 | gA ob u ih=>obtain ⟨e,q⟩:=x;exact ⟨k _ _ (.inl rfl) e,ih q⟩
 | DP ps =>
  have e:h.get? a=some { cls:=.none,data:=.fields ps }:=x
  show h'.get? a=some { cls:=.none,data:=.fields ps }
  exact k a _ (.inl rfl) e
 | met f y =>
  have e:h.get? a=some (PySem.W.methodObj (.ref f) (.ref y)):=x
  show h'.get? a=some (PySem.W.methodObj (.ref f) (.ref y))
  exact k a _ (.inl rfl) e
 | ext φ=>obtain ⟨p,⟨o,e⟩,st⟩:=x;exact ⟨st _ _ p fun o q=>k _ _ (.inl rfl) q,⟨o,k _ _ (.inl rfl) e⟩,st⟩
theorem gO.lt (x:gO P w H h) (e:H a=some o):a<h.objs.size:=(x a o e).lt
theorem gO.fresh (x:gO P w H h) (e:h.objs.size<=a):H a=none:=by
 cases q:H a with
 | none=>rfl
 | some u=>exact absurd (Nat.lt_of_lt_of_le (x.lt q) e) (Nat.lt_irrefl _)
theorem gO.kept (x:gO P w H h) (k:∀ b u,h.get? b=some u->h'.get? b=some u):gO P w H h':=fun a o e =>
 (x a o e).stay (fun b u _ q=>k b u q) (fun _ q=>q) fun _ _ q=>q
theorem gO.laid (x:gO P w H h) (k:∀ b u,h.get? b=some u->h'.get? b=some u) (hp:h.objs.size<=a) (new:bD P w (upd H a o) h' a o):gO P w (upd H a o) h':=fun b u e=>by
 have hn:=x.fresh hp
 by_cases hb:b=a
 ·subst hb;rw [aD] at e;cases e;exact new
 ·rw [au hb] at e
  exact (x b u e).stay (fun c v _ q=>k c v q) (fun c q=>by rw [au (dF q hn)];exact q) fun c xs q=>by rw [au (dF q hn)];exact q
end
noncomputable def Rd (H:Hp) (a:Addr) (u:HO):Prop:=H a=some u\/∃ o,H a=some (.gA o u)
theorem Rd.ok {P:Program} {w:World} {H:Hp} {h:Heap} {a:Addr} {u:HO} (r:Rd H a u) (x:gO P w H h):bD P w H h a u:=by
 rcases r with r | ⟨o,r⟩
 ·exact x a u r
 ·obtain ⟨_,q⟩:=x a _ r
  exact q
noncomputable def MB:Option HO->Prop
 | some (.lst _)=>True
 | some (.dK _)=>True
 | some (.dT _)=>True
 | some (.set _ _)=>True
 | some (.ins _ _ _)=>True
 | some (.ext _)=>True
 | _=>False
section
variable {P:Program} {w:World} {H:Hp} {h h':Heap} {x e:Addr} {o':HO}
theorem gO.write (ok:gO P w H h) (mu:MB (H x)) (he:e=x\/H e=some (.own x)) (k:∀ b u,b≠e->h.get? b=some u->h'.get? b=some u) (Er:∃ u,h'.get? e=some u)
  (new:bD P w (upd H x o') h' x o'):gO P w (upd H x o') h':=fun b u q=>by
 have KR:∀ c y,H c=some (.own y)->c≠x:=fun c y r z=>by subst z;rw [r] at mu;exact mu
 have ntup:∀ c xs,H c=some (.tup xs)->c≠x:=fun c xs r z=>by subst z;rw [r] at mu;exact mu
 by_cases hb:b=x
 ·subst hb;rw [aD] at q;cases q;exact new
 ·rw [au hb] at q
  by_cases HS:b=e
  ·have q':H b=some (.own x):=by
    rcases he with z | z
    ·exact absurd (HS.trans z) hb
    ·rw [HS];exact z
   rw [q] at q';cases q'
   obtain ⟨v,hv⟩:=Er
   exact ⟨v,by rw [HS];exact hv⟩
  ·refine (ok b u q).stay (fun c v hc r=>k c v ?_ r) (fun c r=>by rw [au (KR c b r)];exact r) fun c xs r=>by rw [au (ntup c xs r)];exact r
   rcases hc with rfl | hc
   ·exact HS
   ·rintro rfl
    rcases he with z | z
    ·exact KR c b hc z
    ·rw [hc] at z;cases z;exact hb rfl
end
structure Un (fs ex:List Addr) (H H':Hp) (h h':Heap):Prop where
 keep:∀ b o,h.get? b=some o->H b=none->b∉fs->b∉ex->h'.get? b=some o
 slot:∀ b o,h.get? b=some o->H b=none->b∈fs->b∉ex->∃ sl,h'.get? b=some { o with slots:=sl }
 free:∀ b o,h.get? b=some o->H b=none->b∉ex->H' b=none
 there:∀ b o,h.get? b=some o->b∉ex->∃ o',h'.get? b=some o'
 tups:∀ b xs,H b=some (.tup xs)->H' b=some (.tup xs)
 gH:∀ b o u,H b=some (.gA o u)->H' b=some (.gA o u)
 iF:∀ b ps,H b=some (.DP ps)->∃ more,H' b=some (.DP (ps++more))
section
variable {fs fs' ex ex':List Addr} {H H1 H2:Hp} {h h1 h2 h':Heap} {a x e:Addr} {o:HO}
theorem Un.any (u:Un fs ex H H1 h h1) {b:Addr} {ob:Obj} (q:h.get? b=some ob) (n:H b=none) (hx:b∉ex):∃ sl,h1.get? b=some { ob with slots:=sl }:=by
 by_cases hb:b∈fs
 ·exact u.slot b ob q n hb hx
 ·exact ⟨ob.slots,u.keep b ob q n hb hx⟩
theorem Un.trans (a:Un fs ex H H1 h h1) (b:Un fs ex H1 H2 h1 h2):Un fs ex H H2 h h2 where
 keep:=fun c ob q n hc hx=>b.keep c ob (a.keep c ob q n hc hx) (a.free c ob q n hx) hc hx
 slot:=fun c ob q n hc hx=>by
  obtain ⟨sl,e1⟩:=a.slot c ob q n hc hx
  obtain ⟨DX,e2⟩:=b.slot c _ e1 (a.free c ob q n hx) hc hx
  exact ⟨DX,e2⟩
 free:=fun c ob q n hx=>by
  obtain ⟨o',e1⟩:=a.there c ob q hx
  exact b.free c o' e1 (a.free c ob q n hx) hx
 there:=fun c ob q hx=>by
  obtain ⟨o',e1⟩:=a.there c ob q hx
  exact b.there c o' e1 hx
 tups:=fun c xs q=>b.tups c xs (a.tups c xs q)
 gH:=fun c ob xs q=>b.gH c ob xs (a.gH c ob xs q)
 iF:=fun c ps q=>by
  obtain ⟨m1,e1⟩:=a.iF c ps q
  obtain ⟨m2,e2⟩:=b.iF c _ e1
  exact ⟨m1++m2,by rw [e2,Array.append_assoc]⟩
theorem Un.kept (k:∀ b u,h.get? b=some u->h'.get? b=some u):Un fs ex H H h h' :=
 ⟨fun b ob q _ _ _=>k b ob q,fun b ob q _ _ _=>⟨ob.slots,k b ob q⟩,fun _ _ _ n _=>n,fun b ob q _=>⟨ob,k b ob q⟩,fun _ _ q=>q,fun _ _ _ q=>q,fun _ ps q=>⟨#[],by rw [q];simp⟩⟩
theorem Un.refl:Un fs ex H H h h:=Un.kept fun _ _ q=>q
theorem Un.laid (k:∀ b u,h.get? b=some u->h'.get? b=some u) (hp:h.objs.size<=a) (hn:H a=none):Un fs ex H (upd H a o) h h' where
 keep:=fun b u q _ _ _=>k b u q
 slot:=fun b u q _ _ _=>⟨u.slots,k b u q⟩
 free:=fun b u q n _=>by rw [au (Nat.ne_of_lt (Nat.lt_of_lt_of_le (Heap.lt_size q) hp))];exact n
 there:=fun b u q _=>⟨u,k b u q⟩
 tups:=fun b xs q=>by rw [au (dF q hn)];exact q
 gH:=fun b u xs q=>by rw [au (dF q hn)];exact q
 iF:=fun b ps q=>⟨#[],by rw [au (dF q hn),q];simp⟩
theorem Un.write (mu:MB (H x)) (he:e=x\/H e=some (.own x)) (k:∀ b u,b≠e->h.get? b=some u->h'.get? b=some u) (Er:∃ u,h'.get? e=some u):Un fs ex H (upd H x o) h h':=by
 have hx:∀ b,H b=none->b≠x:=fun b n z=>by subst z;rw [n] at mu;exact mu
 have hb:∀ b,H b=none->b≠e:=fun b n z=>by
  subst z
  rcases he with r | r
  ·exact hx b n r
  ·rw [n] at r;cases r
 have hm:∀ b u,H b=some u->¬ MB (some u)->b≠x:=fun b u q nm z=>by subst z;rw [q] at mu;exact nm mu
 refine ⟨fun b u q n _ _=>k b u (hb b n) q,fun b u q n _ _=>⟨u.slots,k b u (hb b n) q⟩,fun b u q n _=>by rw [au (hx b n)];exact n,fun b u q _=>?_,
  fun b xs q=>by rw [au (hm b _ q fun z=>z)];exact q,fun b u xs q=>by rw [au (hm b _ q fun z=>z)];exact q,fun b ps q=>⟨#[],by rw [au (hm b _ q fun z=>z),q];simp⟩⟩
 by_cases HS:b=e
 ·subst HS;exact Er
 ·exact ⟨u,k b u HS q⟩
end
noncomputable def ML (h:Heap) (H:Hp):List Addr:=(List.range h.objs.size).filter fun a=>(H a).isSome
noncomputable def oj (h:Heap) (H:Hp):Heap:=PySem.W.hideAll h (ML h H)
theorem wH (h:Heap) (H:Hp):(oj h H).objs.size=h.objs.size:=PySem.W.hideAll_size _ _
theorem zJ {h:Heap} {H:Hp} {b:Addr} {o:Obj} (e:h.get? b=some o) (n:H b=none):(oj h H).get? b=some o :=
 PySem.W.hideAll_get _ e fun hm=>by
  have q:(H b).isSome=true:=(List.mem_filter.mp hm).2
  rw [n] at q;simp at q
theorem Cf {h:Heap} {H:Hp} {b:Addr} {o:Obj} (e:(oj h H).get? b=some o):h.get? b=some o/\H b=none:=by
 have e':h.get? b=some o:=PySem.W.of_hideAll (ML h H) e
 refine ⟨e',?_⟩
 cases q:H b with
 | none=>rfl
 | some x =>
  have hm:b∈ML h H:=List.mem_filter.mpr ⟨List.mem_range.mpr (Heap.lt_size e'),by simp [q]⟩
  have z:(oj h H).get? b=none:=PySem.W.hideAll_none (ML h H) hm
  rw [z] at e;cases e
noncomputable def DB (g h:Heap) (L:Addr):List (Addr×Obj):=(List.range h.objs.size).filterMap fun a=>if a=L\/(g.get? a).isSome=true then none else (h.get? a).map fun o=>(a,o)
noncomputable def rest (g h:Heap) (L d:Addr):List (Addr×Obj):=(DB g h L).filter fun p=>decide (p.1≠d)
structure Mod (K:PySem.W.Frag) (mg:Str->Option Value) (base:Heap):Prop where
 CB:K.In base
 glob:base.Ns mainGlobals mg
 blt:∃ mb, base.Ns builtinsNs mb/\∀ x:Str, x≠"__name__"->mb x=bootBuiltins x
 nolimit:base.NoLimit
structure Cx where
 prog:Program
 w:World
 K:PySem.W.Frag
 mg:Str->Option Value
 base:Heap
 A:Around
 N:List Str
 s₀:Shared
 H₀:Hp
 env:Env
 outer:List Env
 stack:List Env
 ex:List Addr
 fn:Str->Bool
 calm:Bool
 pn:List (Addr×Obj)
 xe:Value->Shared->Prop
noncomputable def frs (l:List Env):List Addr:=l.filterMap (·.frame)
noncomputable abbrev Cx.fs (X:Cx):List Addr:=frs X.outer
noncomputable def NO (sc:Scope) (x:Str):Prop:=sc.names.lookup x=some .local\/sc.names.lookup x=some .cell\/sc.names.lookup x=some .free
noncomputable def Loc (sc:Scope) (x:Str):Prop:=sc.names.lookup x=some .local\/sc.names.lookup x=some .cell
noncomputable def Look (env:Env) (h:Heap) (m:Str->Option Value) (x:Str) (u:Value):Prop :=
 (env.kindOf x=some .local/\m x=some u)\/((env.kindOf x=some .cell\/env.kindOf x=some .free)/\∃ c,env.cells.lookup x=some c/\h.IsCell c (some u))
structure Cx.Ok (X:Cx):Prop where
 mod:Mod X.K X.mg X.base
 kind:X.env.scope.kind=.function
 glob:X.env.globals=mainGlobals
 blt:X.env.builtins=builtinsNs
 above:X.s₀.heap.objs.size<=X.env.locals
 inj:∀ x y c,X.env.cells.lookup x=some c->X.env.cells.lookup y=some c->x=y
 has:∀ x,(X.env.kindOf x=some .cell\/X.env.kindOf x=some .free)->∃ c,X.env.cells.lookup x=some c
 EN:∀ x c,X.fn x=true->X.env.cells.lookup x=some c->X.s₀.heap.objs.size<=c
 hd:X.calm=true->X.A.handled=none
 frames:X.A.frames=some X.stack
 stk:X.stack=X.outer\/(X.stack=X.env::X.outer/\X.env.frame=some X.env.locals)
 LM:∀ b∈X.ex,b≠X.env.locals/\∀ x c,X.env.cells.lookup x=some c->c≠b
 bs:∀ b o,X.base.get? b=some o->X.s₀.heap.get? b=some o/\X.H₀ b=none
 xx:X.base.objs.size<=X.s₀.heap.objs.size
 qe:∀ b o,X.base.get? b=some o->b∉X.ex
 sU:∀ b∈X.ex,b∉X.fs
 ic:X.s₀.heap.FunFrames X.base X.outer
 AM:∀ b∈X.fs,X.H₀ b=none
structure Inv (X:Cx) (pins:List (Addr×Obj)) (σ:List (Option V)) (H:Hp) (s:Shared):Prop where
 ok:X.Ok
 os:s.os=X.s₀.os
 bare:AllBare s.gens
 base:Un X.fs X.ex X.H₀ H X.s₀.heap s.heap
 loc:∃ m,s.heap.Ns X.env.locals m/\∀ (i:Nat) (x:Str) (v:V),X.N[i]? = some x->σ[i]? = some (some v)->NO X.env.scope x->∃ u,RelV v u/\Look X.env s.heap m x u
 cell:∀ x c,X.env.cells.lookup x=some c->∃ v,s.heap.IsCell c v
 free:H X.env.locals=none
 cN:∀ x c,X.env.cells.lookup x=some c->H c=none
 pin:∀ p∈X.pn++pins,s.heap.get? p.1=some p.2/\H p.1=none/\p.1≠X.env.locals/\p.1∉X.fs/\∀ v,p.2.data≠.cell v
 hok:gO X.prog X.w H s.heap
 len:σ.length=X.N.length
section
variable {X:Cx} {pins:List (Addr×Obj)} {σ:List (Option V)} {H H':Hp} {s:Shared} {h':Heap}
theorem Cx.Ok.nofr (ok:X.Ok) {b:Addr} {o:Obj} (e:X.base.get? b=some o):b∉X.fs:=fun hb=>by
 have:=(ok.ic.mem hb).1
 rw [e] at this;cases this
theorem Inv.bs (I:Inv X pins σ H s):∀ b o,X.base.get? b=some o->s.heap.get? b=some o/\H b=none:=fun b o e =>
 ⟨I.base.keep b o (I.ok.bs b o e).1 (I.ok.bs b o e).2 (I.ok.nofr e) (I.ok.qe b o e),I.base.free b o (I.ok.bs b o e).1 (I.ok.bs b o e).2 (I.ok.qe b o e)⟩
theorem Inv.bk (I:Inv X pins σ H s):∀ b o,X.base.get? b=some o->s.heap.get? b=some o:=fun b o e=>(I.bs b o e).1
theorem Inv.mod (I:Inv X pins σ H s):Mod X.K X.mg X.base:=I.ok.mod
theorem Inv.ia (I:Inv X pins σ H s):X.K.In s.heap:=I.ok.mod.CB.keeps I.bk
theorem Inv.lt (I:Inv X pins σ H s):X.env.locals<s.heap.objs.size:=let ⟨_,hn,_⟩:=I.loc;hn.lt
theorem Inv.sz (I:Inv X pins σ H s):X.s₀.heap.objs.size<=s.heap.objs.size:=Nat.le_trans I.ok.above (Nat.le_of_lt I.lt)
theorem Inv.KS (I:Inv X pins σ H s) {a:Addr} (h:s.heap.objs.size<=a):a∉X.fs:=fun hb=>by
 obtain ⟨_,o,ho,_⟩:=I.ok.ic.mem hb
 exact absurd (Nat.lt_of_lt_of_le (Heap.lt_size ho) (Nat.le_trans I.sz h)) (Nat.lt_irrefl _)
theorem Inv.IB (I:Inv X pins σ H s):∀ x c,X.env.cells.lookup x=some c->c≠X.env.locals:=fun x c e z=>by
 obtain ⟨v,o,ho,hd⟩:=I.cell x c e
 obtain ⟨m,⟨o',es,ep,ho',hd',_⟩,_⟩:=I.loc
 rw [z,ho'] at ho;cases ho;rw [hd'] at hd;cases hd
theorem Inv.ic (I:Inv X pins σ H s):s.heap.FunFrames X.base X.outer:=by
 have all:∀ (l:List Env),(∀ b∈frs l,b∈X.fs)->X.s₀.heap.FunFrames X.base l->s.heap.FunFrames X.base l:=by
  intro l
  induction l with
  | nil=>intro _ _;trivial
  | cons env r ih =>
   intro hs hl
   obtain ⟨hk,⟨L,o,hf,hn,ho,hd⟩,hr⟩:=hl
   have hL:L∈X.fs:=hs L (by unfold frs;rw [List.filterMap_cons,hf];exact List.mem_cons_self)
   obtain ⟨sl,e⟩:=I.base.slot L o ho (I.ok.AM L hL) hL fun z=>I.ok.sU L z hL
   exact ⟨hk,⟨L,_,hf,hn,e,hd⟩,ih (fun b hb=>hs b (by unfold frs;rw [List.filterMap_cons,hf];exact List.mem_cons_of_mem _ hb)) hr⟩
 exact all X.outer (fun _ hb=>hb) I.ok.ic
theorem Inv.stack (I:Inv X pins σ H s):s.heap.FunFrames X.base X.stack:=by
 rcases I.ok.stk with e | ⟨e,hf⟩
 ·rw [e];exact I.ic
 ·rw [e]
  obtain ⟨m,hn,_⟩:=I.loc
  refine .cons (by rw [I.ok.kind];decide) hf hn ?_ I.ic
  exact Heap.get?_none_of_le (Nat.le_trans I.ok.xx I.ok.above)
theorem Inv.fh (I:Inv X pins σ H s):∀ b∈frs X.stack,b∈X.env.locals::X.fs:=fun b hb=>by
 rcases I.ok.stk with e | ⟨e,hf⟩
 ·rw [e] at hb;exact List.mem_cons_of_mem _ hb
 ·rw [e] at hb
  unfold frs at hb
  rw [List.filterMap_cons,hf] at hb
  exact hb
theorem Inv.gx (I:Inv X pins σ H s):∀ b∈frs X.stack,H b=none:=fun b hb=>by
 rcases List.mem_cons.mp (I.fh b hb) with e | hb
 ·rw [e];exact I.free
 ·obtain ⟨_,o,ho,_⟩:=I.ok.ic.mem hb
  exact I.base.free b o ho (I.ok.AM b hb) fun z=>I.ok.sU b z hb
theorem Inv.step {g':Array GenState} {t':Nat} {d':Drawn} {ch:List Addr} (I:Inv X pins σ H s)
  (hch:∀ b∈ch,(b∈X.ex\/X.s₀.heap.objs.size<=b)/\b≠X.env.locals/\(∀ x c,X.env.cells.lookup x=some c->c≠b)/\∀ p∈X.pn++pins,p.1≠b)
  (keep:∀ b o,b≠X.env.locals->b∉X.fs->b∉ch->s.heap.get? b=some o->H b=none->h'.get? b=some o)
  (slot:∀ b o,b≠X.env.locals->b∈X.fs->b∉ch->s.heap.get? b=some o->H b=none->∃ sl,h'.get? b=some { o with slots:=sl }) (free:∀ b o,b∉ch->s.heap.get? b=some o->H b=none->H' b=none)
  (there:∀ b o,b∉ch->s.heap.get? b=some o->∃ o',h'.get? b=some o')
  (tups:∀ b xs,H b=some (.tup xs)->H' b=some (.tup xs)) (gH:∀ b o u,H b=some (.gA o u)->H' b=some (.gA o u)) (iF:∀ b ps,H b=some (.DP ps)->∃ more,H' b=some (.DP (ps++more)))
  (ns:∀ m,s.heap.Ns X.env.locals m->h'.Ns X.env.locals m) (hok:gO X.prog X.w H' h') (hg:AllBare g') :
  Inv X pins σ H' { s with heap:=h',gens:=g',drawn:=d',toks:=t' }:=by
 have neL:∀ b o,X.s₀.heap.get? b=some o->b≠X.env.locals:=fun b o e=>Nat.ne_of_lt (Nat.lt_of_lt_of_le (Heap.lt_size e) I.ok.above)
 have wj:∀ b o,X.s₀.heap.get? b=some o->b∉X.ex->b∉ch:=fun b o e hx hb=>by
  rcases (hch b hb).1 with z | z
  ·exact hx z
  ·exact absurd (Nat.lt_of_lt_of_le (Heap.lt_size e) z) (Nat.lt_irrefl _)
 have cellK:∀ x c,X.env.cells.lookup x=some c->∀ v,s.heap.IsCell c v->h'.IsCell c v:=fun x c e v ⟨o,ho,hd⟩=>by
  have K1:c∉ch:=fun z=>(hch c z).2.2.1 x c e rfl
  by_cases hc:c∈X.fs
  ·obtain ⟨sl,q⟩:=slot c o (I.IB x c e) hc K1 ho (I.cN x c e)
   exact ⟨_,q,hd⟩
  ·exact ⟨o,keep c o (I.IB x c e) hc K1 ho (I.cN x c e),hd⟩
 refine ⟨I.ok,I.os,hg,⟨fun b o e n hb hx=>?_,fun b o e n hb hx=>?_,fun b o e n hx=>?_,fun b o e hx=>?_,fun b xs e=>tups b xs (I.base.tups b xs e),fun b o xs e=>gH b o xs (I.base.gH b o xs e),fun b ps e=>?_⟩,?_,fun x c e=>?_,?_,fun x c e=>?_,fun p hp=>?_,hok,I.len⟩
 ·exact keep b o (neL b o e) hb (wj b o e hx) (I.base.keep b o e n hb hx) (I.base.free b o e n hx)
 ·obtain ⟨sl,e1⟩:=I.base.slot b o e n hb hx
  obtain ⟨DX,e2⟩:=slot b _ (neL b o e) hb (wj b o e hx) e1 (I.base.free b o e n hx)
  exact ⟨DX,e2⟩
 ·obtain ⟨o',e1⟩:=I.base.there b o e hx
  exact free b o' (wj b o e hx) e1 (I.base.free b o e n hx)
 ·obtain ⟨o',e1⟩:=I.base.there b o e hx
  exact there b o' (wj b o e hx) e1
 ·obtain ⟨m1,e1⟩:=I.base.iF b ps e
  obtain ⟨m2,e2⟩:=iF b _ e1
  exact ⟨m1++m2,by rw [e2,Array.append_assoc]⟩
 ·obtain ⟨m,hn,hl⟩:=I.loc
  refine ⟨m,ns m hn,fun i x v e1 e2 e3=>?_⟩
  obtain ⟨u,r,l⟩:=hl i x v e1 e2 e3
  refine ⟨u,r,?_⟩
  rcases l with l | ⟨k,c,e,z⟩
  ·exact .inl l
  ·exact .inr ⟨k,c,e,cellK x c e _ z⟩
 ·obtain ⟨v,z⟩:=I.cell x c e
  exact ⟨v,cellK x c e v z⟩
 ·obtain ⟨m,⟨o,_,_,ho,_⟩,_⟩:=I.loc
  exact free _ o (fun z=>(hch _ z).2.1 rfl) ho I.free
 ·obtain ⟨v,o,ho,hd⟩:=I.cell x c e
  exact free c o (fun z=>(hch c z).2.2.1 x c e rfl) ho (I.cN x c e)
 ·obtain ⟨e,n,ne,nf,d⟩:=I.pin p hp
  have K1:p.1∉ch:=fun z=>(hch p.1 z).2.2.2 p hp rfl
  exact ⟨keep p.1 p.2 ne nf K1 e n,free p.1 p.2 K1 e n,ne,nf,d⟩
theorem Inv.un {t':Nat} (I:Inv X pins σ H s) (u:Un X.fs [] H H' s.heap h') (hok:gO X.prog X.w H' h'):Inv X pins σ H' { s with heap:=h',toks:=t' }:=by
 obtain ⟨m,⟨o,es,ep,ho,r⟩,_⟩:=id I.loc
 obtain ⟨sl,hL⟩:=u.any ho I.free (by simp)
 exact I.step (g':=s.gens) (d':=s.drawn) (ch:=[]) (fun _ z=>nomatch z) (fun b o _ hb _ e n=>u.keep b o e n hb (by simp)) (fun b o _ hb _ e n=>u.slot b o e n hb (by simp)) (fun b o _ e n=>u.free b o e n (by simp)) (fun b o _ e=>u.there b o e (by simp)) u.tups u.gH u.iF (fun m' hm=>by
  obtain ⟨o',es',LY,ho',r'⟩:=hm
  rw [ho] at ho';cases ho'
  exact ⟨_,es',LY,hL,r'⟩) hok I.bare
theorem Inv.call {g':Array GenState} {t':Nat} {d':Drawn} {ch:List Addr} (I:Inv X pins σ H s) (u:Un (frs X.stack) ch H H' s.heap h') (hok:gO X.prog X.w H' h') (hg:AllBare g')
  (hch:∀ b∈ch,(b∈X.ex\/X.s₀.heap.objs.size<=b)/\b≠X.env.locals/\(∀ x c,X.env.cells.lookup x=some c->c≠b)/\∀ p∈X.pn++pins,p.1≠b) :
  Inv X pins σ H' { s with heap:=h',gens:=g',drawn:=d',toks:=t' }:=by
 obtain ⟨m,⟨o,es,ep,ho,r⟩,_⟩:=id I.loc
 obtain ⟨sl,hL⟩:=u.any ho I.free fun z=>(hch _ z).2.1 rfl
 exact I.step (ch:=ch) hch (fun b o hL hb hc e n=>u.keep b o e n (fun z=>(List.mem_cons.mp (I.fh b z)).elim hL hb) hc) (fun b o _ _ hc e n=>u.any e n hc) (fun b o hc e n=>u.free b o e n hc) (fun b o hc e=>u.there b o e hc) u.tups u.gH u.iF (fun m' hm=>by
  obtain ⟨o',es',LY,ho',r'⟩:=hm
  rw [ho] at ho';cases ho'
  exact ⟨_,es',LY,hL,r'⟩) hok hg
theorem Inv.turned {t':Nat} {it:Addr} (I:Inv X pins σ H s) (k:∀ b o,b≠it->s.heap.get? b=some o->h'.get? b=some o) (hn:H it=none) (hL:it≠X.env.locals)
  (h1:it∈X.ex\/X.s₀.heap.objs.size<=it) (h2:∀ x c,X.env.cells.lookup x=some c->c≠it) (h3:∀ p∈X.pn++pins,p.1≠it):Inv X pins σ H { s with heap:=h',toks:=t' }:=by
 have nit:∀ b u,H b=some u->b≠it:=fun b u e z=>by rw [z,hn] at e;cases e
 refine I.step (g':=s.gens) (d':=s.drawn) (ch:=[it]) (fun b hb=>?_) (fun b o _ _ hc e _=>k b o (fun z=>hc (by simp [z])) e) (fun b o _ _ hc e _=>⟨o.slots,k b o (fun z=>hc (by simp [z])) e⟩) (fun _ _ _ _ n=>n)
  (fun b o hc e=>⟨o,k b o (fun z=>hc (by simp [z])) e⟩) (fun _ _ e=>e) (fun _ _ _ e=>e) (fun b ps e=>⟨#[],by rw [e];simp⟩) (fun m hm=>?_) (fun b u e=>?_) I.bare
 ·have e:b=it:=by simpa using hb
  subst e
  exact ⟨h1,hL,h2,h3⟩
 ·obtain ⟨o,es,ep,ho,r⟩:=hm
  exact ⟨o,es,ep,k _ o (Ne.symm hL) ho,r⟩
 ·refine (I.hok b u e).stay (fun c v hc q=>k c v ?_ q) (fun _ q=>q) fun _ _ q=>q
  rcases hc with z | z
  ·rw [z];exact nit b u e
  ·exact nit c _ z
theorem Inv.tok (I:Inv X pins σ H s) (t:Nat):Inv X pins σ H { s with toks:=t }:=I.un (h':=s.heap) (t':=t) Un.refl I.hok
theorem Inv.kept {t':Nat} (I:Inv X pins σ H s) (k:∀ b u,s.heap.get? b=some u->h'.get? b=some u):Inv X pins σ H { s with heap:=h',toks:=t' }:=I.un (Un.kept k) (I.hok.kept k)
theorem Inv.laid {a:Addr} {o:HO} {t':Nat} (I:Inv X pins σ H s) (k:∀ b u,s.heap.get? b=some u->h'.get? b=some u) (hp:s.heap.objs.size<=a) (new:bD X.prog X.w (upd H a o) h' a o) :
  Inv X pins σ (upd H a o) { s with heap:=h',toks:=t' }:=I.un (Un.laid k hp (I.hok.fresh hp)) (I.hok.laid k hp new)
theorem Inv.write {x e:Addr} {o:HO} {t':Nat} (I:Inv X pins σ H s) (mu:MB (H x)) (he:e=x\/H e=some (.own x)) (k:∀ b u,b≠e->s.heap.get? b=some u->h'.get? b=some u) (Er:∃ u,h'.get? e=some u)
  (new:bD X.prog X.w (upd H x o) h' x o):Inv X pins σ (upd H x o) { s with heap:=h',toks:=t' }:=I.un (Un.write mu he k Er) (I.hok.write mu he k Er new)
theorem Inv.uC {kQ:List (Addr×Obj)} (I:Inv X pins σ H s) (h:∀ p∈kQ,s.heap.get? p.1=some p.2/\H p.1=none/\p.1≠X.env.locals/\p.1∉X.fs/\∀ v,p.2.data≠.cell v):Inv X kQ σ H s :=
 ⟨I.ok,I.os,I.bare,I.base,I.loc,I.cell,I.free,I.cN,fun p hp=>(List.mem_append.mp hp).elim (fun z=>I.pin p (List.mem_append_left _ z)) (h p),I.hok,I.len⟩
theorem qf {N:List Str} (hN:N.Nodup) {i j:Nat} {x:Str} (a:N[i]? = some x) (b:N[j]? = some x):i=j:=by
 obtain ⟨h1,e1⟩:=List.getElem?_eq_some_iff.mp a
 obtain ⟨h2,e2⟩:=List.getElem?_eq_some_iff.mp b
 exact (List.getElem_inj hN).mp (e1.trans e2.symm)
theorem mP {M:Model} {A:Around} {E:Value->Shared->Prop} {i:Nat} {x:Str} {v:V} {u:Value} {Q:Unit->Shared->Prop} (I:Inv X pins σ H s) (hN:X.N.Nodup) (hi:X.N[i]? = some x) (hx:Loc X.env.scope x) (r:RelV v u)
  (h:∀ s',Inv X pins (σ.set i (some v)) H s'->(∃ a,Heap.SameBut a s.heap s'.heap/\(a=X.env.locals\/X.env.cells.lookup x=some a))->Q () s') (hf:X.fn x=true\/X.env.scope.names.lookup x=some .local:=by first | exact .inl rfl | exact .inr rfl | assumption):wpAny M A (storeName X.env x u) Q E s:=by
 obtain ⟨m,hn,hl⟩:=id I.loc
 have hcls:(X.env.scope.kind == .class||(X.env.scope.kind == .module&&X.env.locals != X.env.globals))=false:=by rw [I.ok.kind];rfl
 have Lr:i<σ.length:=by rw [I.len];exact (List.getElem?_eq_some_iff.mp hi).1
 have IB:=I.IB
 have tracked:∀ {a:Addr} {h':Heap},(∃ o,s.heap.get? a=some o/\H a=none)->Heap.SameBut a s.heap h'->gO X.prog X.w H h':=fun {a h'} ha hs b ob e=>by
  obtain ⟨_,_,hfree⟩:=ha
  refine (I.hok b ob e).stay (fun c w' hc q=>(hs.2 c ?_).trans q) (fun _ q=>q) fun _ _ q=>q
  rintro rfl
  rcases hc with rfl | hc
  ·rw [hfree] at e;cases e
  ·rw [hfree] at hc;cases hc
 rcases hx with hk | hk
 ·refine wpAny_storeName_local hk hn (fun h' hn' hs=>?_) hcls
  obtain ⟨oL,_,_,hoL,_⟩:=id hn
  refine h _ ⟨I.ok,I.os,I.bare,⟨fun b o e n hb hx=>?_,fun b o e n hb hx=>?_,I.base.free,fun b o e hx=>?_,I.base.tups,I.base.gH,I.base.iF⟩,⟨_,hn',fun j y v' e1 e2 e3=>?_⟩,fun y c e=>?_,I.free,I.cN,fun p hp=>?_,tracked ⟨oL,hoL,I.free⟩ hs,by simpa using I.len⟩ ⟨_,hs,.inl rfl⟩
  ·exact (hs.2 b (Nat.ne_of_lt (Nat.lt_of_lt_of_le (Heap.lt_size e) I.ok.above))).trans (I.base.keep b o e n hb hx)
  ·obtain ⟨sl,e1⟩:=I.base.slot b o e n hb hx
   exact ⟨sl,(hs.2 b (Nat.ne_of_lt (Nat.lt_of_lt_of_le (Heap.lt_size e) I.ok.above))).trans e1⟩
  ·obtain ⟨o',e1⟩:=I.base.there b o e hx
   exact ⟨o',(hs.2 b (Nat.ne_of_lt (Nat.lt_of_lt_of_le (Heap.lt_size e) I.ok.above))).trans e1⟩
  ·by_cases hj:j=i
   ·subst hj
    rw [hi] at e1;cases e1
    rw [List.getElem?_set_self Lr] at e2
    cases e2
    exact ⟨u,r,.inl ⟨hk,by simp⟩⟩
   ·rw [List.getElem?_set_ne (Ne.symm hj)] at e2
    obtain ⟨u',r',q⟩:=hl j y v' e1 e2 e3
    refine ⟨u',r',?_⟩
    rcases q with ⟨k,e⟩ | ⟨k,c,e,z⟩
    ·refine .inl ⟨k,?_⟩
     have:y≠x:=fun e=>hj (qf hN e1 (e ▸ hi))
     simp [this,e]
    ·exact .inr ⟨k,c,e,z.sameBut hs (IB y c e)⟩
  ·obtain ⟨w',z⟩:=I.cell y c e
   exact ⟨w',z.sameBut hs (IB y c e)⟩
  ·obtain ⟨e,n,ne,nf,d⟩:=I.pin p hp
   exact ⟨(hs.2 p.1 ne).trans e,n,ne,nf,d⟩
 ·have hfn:X.fn x=true:=by
   rcases hf with z | z
   ·exact z
   ·rw [z] at hk;cases hk
  obtain ⟨c,hc⟩:=I.ok.has x (.inl hk)
  obtain ⟨w',z⟩:=I.cell x c hc
  refine wpAny_storeName_cell I.ok.kind hk hc z (fun h' hc' hs=>?_)
  obtain ⟨oc,hoc,hocd⟩:=id z
  refine h { s with heap:=h' } ⟨I.ok,I.os,I.bare,⟨fun b o e n hb hx=>?_,fun b o e n hb hx=>?_,I.base.free,fun b o e hx=>?_,I.base.tups,I.base.gH,I.base.iF⟩,⟨m,hn.sameBut hs (Ne.symm (IB x c hc)),fun j y v' e1 e2 e3=>?_⟩,fun y c' e=>?_,I.free,I.cN,fun p hp=>?_,tracked ⟨oc,hoc,I.cN x c hc⟩ hs,by simpa using I.len⟩ ⟨c,hs,.inr hc⟩
  ·exact (hs.2 b (Nat.ne_of_lt (Nat.lt_of_lt_of_le (Heap.lt_size e) (I.ok.EN x c hfn hc)))).trans (I.base.keep b o e n hb hx)
  ·obtain ⟨sl,e1⟩:=I.base.slot b o e n hb hx
   exact ⟨sl,(hs.2 b (Nat.ne_of_lt (Nat.lt_of_lt_of_le (Heap.lt_size e) (I.ok.EN x c hfn hc)))).trans e1⟩
  ·obtain ⟨o',e1⟩:=I.base.there b o e hx
   exact ⟨o',(hs.2 b (Nat.ne_of_lt (Nat.lt_of_lt_of_le (Heap.lt_size e) (I.ok.EN x c hfn hc)))).trans e1⟩
  ·by_cases hj:j=i
   ·subst hj
    rw [hi] at e1;cases e1
    rw [List.getElem?_set_self Lr] at e2
    cases e2
    exact ⟨u,r,.inr ⟨.inl hk,c,hc,hc'⟩⟩
   ·rw [List.getElem?_set_ne (Ne.symm hj)] at e2
    obtain ⟨u',r',q⟩:=hl j y v' e1 e2 e3
    refine ⟨u',r',?_⟩
    rcases q with q | ⟨k,c',e,z'⟩
    ·exact .inl q
    ·refine .inr ⟨k,c',e,z'.sameBut hs ?_⟩
     rintro rfl
     exact hj (qf hN e1 (I.ok.inj _ _ _ e hc ▸ hi))
  ·by_cases hcc:c'=c
   ·subst hcc;exact ⟨_,hc'⟩
   ·obtain ⟨w2,z2⟩:=I.cell y c' e
    exact ⟨w2,z2.sameBut hs hcc⟩
  ·obtain ⟨e,n,ne,nf,d⟩:=I.pin p hp
   refine ⟨(hs.2 p.1 ?_).trans e,n,ne,nf,d⟩
   intro q
   rw [q,hoc] at e
   have q':oc=p.2:=Option.some.inj e
   exact d w' (by rw [<- q'];exact hocd)
theorem pJ {M:Model} {A:Around} {E:Value->Shared->Prop} {i:Nat} {x:Str} {v:V} {u:Value} {Q:Unit->Shared->Prop} (I:Inv X pins σ H s) (hN:X.N.Nodup) (hi:X.N[i]? = some x) (hx:Loc X.env.scope x) (r:RelV v u)
  (h:∀ s',Inv X pins (σ.set i (some v)) H s'->Q () s') (hf:X.fn x=true\/X.env.scope.names.lookup x=some .local:=by first | exact .inl rfl | exact .inr rfl | assumption):wpAny M A (storeName X.env x u) Q E s :=
 mP I hN hi hx r (fun s' I' _=>h s' I') hf
theorem Inv.As {s':Shared} {ch:List Addr} (I:Inv X pins σ H s) (ho:s'.os=s.os) (u:Un (frs X.stack) ch H H' s.heap s'.heap) (hok:gO X.prog X.w H' s'.heap) (hg:AllBare s'.gens)
  (hch:∀ b∈ch,(b∈X.ex\/X.s₀.heap.objs.size<=b)/\b≠X.env.locals/\(∀ x c,X.env.cells.lookup x=some c->c≠b)/\∀ p∈X.pn++pins,p.1≠b):Inv X pins σ H' s':=by
 obtain ⟨h',g',d',t',o'⟩:=s'
 have e:o'=s.os:=ho
 subst e
 exact I.call (g':=g') (t':=t') (d':=d') u hok hg hch
end
noncomputable abbrev XK:=Value->Option Addr->Hp->Prop
noncomputable abbrev St:=List (Option V)
noncomputable abbrev VK:=V->Hp->Prop
noncomputable abbrev TE:=St->Hp->VK->Prop
noncomputable abbrev TT:=St->Hp->(Bool->Hp->Prop)->Prop
noncomputable abbrev TA:=St->Hp->(List V->Hp->Prop)->Prop
structure Ends where
 nx:St->Hp->Prop
 rt:VK
 bk:St->Hp->Prop:=fun _ _=>False
 ct:St->Hp->Prop:=fun _ _=>False
noncomputable abbrev TS:=Ends->St->Hp->Prop
noncomputable def EP (X:Cx) (pins:List (Addr×Obj)) (σ:St) (Q:VK) (u:Value) (s':Shared):Prop:=∃ v H',Inv X pins σ H' s'/\RelV v u/\Q v H'
noncomputable def TP (X:Cx) (pins:List (Addr×Obj)) (σ:St) (Q:Bool->Hp->Prop) (b:Bool) (s':Shared):Prop:=∃ H',Inv X pins σ H' s'/\Q b H'
noncomputable def AP (X:Cx) (pins:List (Addr×Obj)) (σ:St) (Q:List V->Hp->Prop) (us:List Value) (s':Shared):Prop:=∃ vs H',Inv X pins σ H' s'/\Vals vs us/\Q vs H'
noncomputable def SP (X:Cx) (pins:List (Addr×Obj)) (D:Ends) (f:Flow) (s':Shared):Prop :=
 match f with
 | .next=>∃ σ' H',Inv X pins σ' H' s'/\D.nx σ' H'
 | .brk=>∃ σ' H',Inv X pins σ' H' s'/\D.bk σ' H'
 | .cont=>∃ σ' H',Inv X pins σ' H' s'/\D.ct σ' H'
 | .ret u=>∃ v σ' H',Inv X pins σ' H' s'/\RelV v u/\D.rt v H'
noncomputable def PE (X:Cx) (e:Expr) (t:TE):Prop :=
 ∀ (pins:List (Addr×Obj)) (s:Shared) (σ:St) (H:Hp) (Q:VK),Inv X pins σ H s->t σ H Q->wpAny (model X.prog X.w) X.A (eval e X.env) (EP X pins σ Q) X.xe s
noncomputable def PT (X:Cx) (e:Expr) (t:TT):Prop :=
 ∀ (pins:List (Addr×Obj)) (s:Shared) (σ:St) (H:Hp) (Q:Bool->Hp->Prop),Inv X pins σ H s->t σ H Q->wpAny (model X.prog X.w) X.A (isTrue e X.env (eval e X.env)) (TP X pins σ Q) X.xe s
noncomputable def PW (X:Cx) (e:Expr) (t:TT):Prop :=
 ∀ (whole:Sem Value) (pins:List (Addr×Obj)) (s:Shared) (σ:St) (H:Hp) (Q:Bool->Hp->Prop),Inv X pins σ H s->t σ H Q->wpAny (model X.prog X.w) X.A (isTrue e X.env whole) (TP X pins σ Q) X.xe s
theorem PW.pt {X:Cx} {e:Expr} {t:TT} (h:PW X e t):PT X e t:=h _
noncomputable def PA (X:Cx) (es:List Expr) (t:TA):Prop :=
 ∀ (pos:Pos) (pins:List (Addr×Obj)) (s:Shared) (σ:St) (H:Hp) (Q:List V->Hp->Prop),Inv X pins σ H s->t σ H Q->wpAny (model X.prog X.w) X.A (spliced (backTo pos (starEach es X.env))) (AP X pins σ Q) X.xe s
noncomputable def PS (X:Cx) (st:Stmt) (t:TS):Prop :=
 ∀ (pins:List (Addr×Obj)) (s:Shared) (σ:St) (H:Hp) (D:Ends),Inv X pins σ H s->t D σ H->wpAny (model X.prog X.w) X.A (exec st X.env) (SP X pins D) X.xe s
noncomputable def ku (X:Cx) (st:List Stmt) (t:TS):Prop :=
 ∀ (pins:List (Addr×Obj)) (s:Shared) (σ:St) (H:Hp) (D:Ends),Inv X pins σ H s->t D σ H->wpAny (model X.prog X.w) X.A (execs st X.env) (SP X pins D) X.xe s
theorem bz {α:Type} {t:Sem α} {Q Q':α->Shared->Prop} {M:Model} {A:Around} {E:Value->Shared->Prop} {s:Shared} (h:wpAny M A t Q E s) (hQ:∀ a s,Q a s->Q' a s):wpAny M A t Q' E s:=wpAny_mono h hQ fun _ _ x=>x
section
variable {X:Cx}
noncomputable def JH (i:Nat):TE:=fun σ H Q=>∃ v,σ[i]? = some (some v)/\Q v H
noncomputable def tC (v:V):TE:=fun _ H Q=>Q v H
theorem Gd {i:Nat} {x:Str} {pos:Pos} (hN:X.N[i]? = some x) (hv:NO X.env.scope x) (hd:(x == ("__debug__" : Str))=false:=by decide) (hcd:(x == ("__classdict__" : Str))=false:=by decide):PE X (.Name x pos) (JH i):=by
 intro pins s σ H Q I h
 obtain ⟨v,e,h⟩:=h
 obtain ⟨m,hn,hl⟩:=I.loc
 obtain ⟨u,r,l⟩:=hl i x v hN e hv
 have fin:EP X pins σ Q u s:=⟨v,H,I,r,h⟩
 rcases l with ⟨hk,hm⟩ | ⟨hk,c,hc,hcell⟩
 ·exact wpAny_Name (wpAny_loadName_local I.ok.kind hk hn hm fin) hd
 ·rcases hk with hk | hk
  ·exact wpAny_Name (wpAny_loadName_cell I.ok.kind hk hc hcell fin) hd
  ·exact wpAny_Name (wpAny_loadName_free I.ok.kind hk hc hcell fin hcd) hd
theorem Gn {i j pos}:PE X (.Constant (.int i) j pos) (tC (.int i)):=fun _ _ _ H _ I h=>wpAny_Constant_int ⟨.int i,H,I.tok _,⟨_,rfl⟩,h⟩
theorem KC {b j pos}:PE X (.Constant (.bool b) j pos) (tC (.bl b)):=fun _ _ _ H _ I h=>Constant_bool ⟨.bl b,H,I,rfl,h⟩
theorem Gh {j pos}:PE X (.Constant .none j pos) (tC .ai):=fun _ _ _ H _ I h=>Constant_none ⟨.ai,H,I,rfl,h⟩
theorem rV {x j pos}:PE X (.Constant (.str x) j pos) (tC (.str x)):=fun _ _ _ H _ I h=>Calls.Constant_str ⟨.str x,H,I.tok _,⟨_,rfl⟩,h⟩
noncomputable def Gl (X:Cx) (x:Str):Prop:=X.env.kindOf x=some .globalImplicit
theorem fu {E:Value->Shared->Prop} {pins:List (Addr×Obj)} {s:Shared} {σ:St} {H:Hp} {x:Str} {u:Value} {pos:Pos} {Q:Value->Shared->Prop} (I:Inv X pins σ H s) (hg:Gl X x) (hm:X.mg x=some u) (h:Q u s)
  (hd:(x == ("__debug__" : Str))=false:=by decide):wpAny (model X.prog X.w) X.A (eval (.Name x pos) X.env) Q E s :=
 Calls.Name_function_global I.ok.kind hg (Calls.loadGlobal_global (by rw [I.ok.glob];exact I.mod.glob.keeps I.bk) hm h) hd
theorem g9 {E:Value->Shared->Prop} {pins:List (Addr×Obj)} {s:Shared} {σ:St} {H:Hp} {x:Str} {u:Value} {pos:Pos} {Q:Value->Shared->Prop} (I:Inv X pins σ H s) (hg:Gl X x) (hm:X.mg x=none) (hv:bootBuiltins x=some u) (h:Q u s)
  (hn:x≠"__name__":=by decide) (hd:(x == ("__debug__" : Str))=false:=by decide):wpAny (model X.prog X.w) X.A (eval (.Name x pos) X.env) Q E s:=by
 obtain ⟨mb,h1,h2⟩:=I.mod.blt
 exact Calls.Name_function_global I.ok.kind hg (Calls.loadGlobal_builtin (by rw [I.ok.glob];exact I.mod.glob.keeps I.bk) hm (by rw [I.ok.blt];exact h1.keeps I.bk) ((h2 x hn).trans hv) h) hd
theorem BY {x:Str} {v:V} {u:Value} {pos:Pos} (hg:Gl X x) (hm:X.mg x=some u) (r:RelV v u) (hd:(x == ("__debug__" : Str))=false:=by decide):PE X (.Name x pos) (tC v) :=
 fun _ _ _ H _ I h=>fu I hg hm ⟨v,H,I,r,h⟩ hd
theorem B3 {x:Str} {v:V} {u:Value} {pos:Pos} (hg:Gl X x) (hm:X.mg x=none) (hv:bootBuiltins x=some u) (r:RelV v u) (hn:x≠"__name__":=by decide) (hd:(x == ("__debug__" : Str))=false:=by decide):PE X (.Name x pos) (tC v) :=
 fun _ _ _ H _ I h=>g9 I hg hm hv ⟨v,H,I,r,h⟩ hn hd
variable {a b:Expr} {ta tb:TE} {pos:Pos}
noncomputable def tB (t:TE):TT:=fun σ H Q=>t σ H fun x H1=>∃ c,x=.bl c/\Q c H1
theorem FU {e:Expr} {t:TE} (h:PE X e t) (he:∀ whole,isTrue e X.env whole=(do let v <- whole;standAt e.pos;holding [v] (truthy v)):=by intro _;rfl):PT X e (tB t):=by
 intro pins s σ H Q I hw
 refine isTrue_plain (bz (h pins s σ H _ I hw) fun v s1 ⟨x,H1,I1,r1,q1⟩=>?_) (he _)
 obtain ⟨d,rfl,q⟩:=q1
 cases r1
 exact wpAny_truthy_bool ⟨H1,I1,q⟩
variable {tA MN:TT} {rest:List Expr}
noncomputable def JT (t u:TT):TT:=fun σ H Q=>t σ H fun c H1=>if c=true then u σ H1 Q else Q false H1
noncomputable def tOr (t u:TT):TT:=fun σ H Q=>t σ H fun c H1=>if c=true then Q true H1 else u σ H1 Q
noncomputable def JN (t:TT):TT:=fun σ H Q=>t σ H fun c H1=>Q (!c) H1
theorem pw_and1 (ha:PT X a tA):PW X (.BoolOp .And [a] pos) tA:=by
 intro wh pins s σ H Q I h
 refine isTrue_and (bz (ha pins s σ H Q I h) fun c s1 e=>?_)
 cases c with
 | true=>exact isTrue_and_nil e
 | false=>exact e
theorem pw_or1 (ha:PT X a tA):PW X (.BoolOp .Or [a] pos) tA:=by
 intro wh pins s σ H Q I h
 refine isTrue_or (bz (ha pins s σ H Q I h) fun c s1 e=>?_)
 cases c with
 | false=>exact isTrue_or_nil e
 | true=>exact e
theorem pw_and (ha:PT X a tA) (hb:PW X (.BoolOp .And (b::rest) pos) MN):PW X (.BoolOp .And (a::b::rest) pos) (JT tA MN):=by
 intro wh pins s σ H Q I h
 refine isTrue_and (bz (ha pins s σ H _ I h) fun c s1 ⟨H1,I1,q1⟩=>?_)
 cases c with
 | true=>exact hb wh pins s1 σ H1 Q I1 q1
 | false=>exact ⟨H1,I1,q1⟩
theorem pw_or (ha:PT X a tA) (hb:PW X (.BoolOp .Or (b::rest) pos) MN):PW X (.BoolOp .Or (a::b::rest) pos) (tOr tA MN):=by
 intro wh pins s σ H Q I h
 refine isTrue_or (bz (ha pins s σ H _ I h) fun c s1 ⟨H1,I1,q1⟩=>?_)
 cases c with
 | true=>exact ⟨H1,I1,q1⟩
 | false=>exact hb wh pins s1 σ H1 Q I1 q1
theorem FW (ha:PT X a tA):PT X (.UnaryOp .Not a pos) (JN tA):=by
 intro pins s σ H Q I h
 exact isTrue_not (ha pins s σ H (fun c H1=>Q (!c) H1) I h)
noncomputable def DU (ta tb:TE):TE:=fun σ H Q=>ta σ H fun x H1=>∃ c,x=.bl c/\if c=true then tb σ H1 Q else Q (.bl false) H1
noncomputable def JM (ta tb:TE):TE:=fun σ H Q=>ta σ H fun x H1=>∃ c,x=.bl c/\if c=true then Q (.bl true) H1 else tb σ H1 Q
noncomputable def DR (ta:TE):TE:=fun σ H Q=>ta σ H fun x H1=>∃ c,x=.bl c/\Q (.bl (!c)) H1
theorem Gf {op} {t:TE} (h:PE X a t):PE X (.BoolOp op [a] pos) t:=fun pins s σ H Q I hw=>BoolOp_one (h pins s σ H Q I hw)
theorem Gq (ha:PE X a ta) (hb:PE X (.BoolOp .And (b::rest) pos) tb):PE X (.BoolOp .And (a::b::rest) pos) (DU ta tb):=by
 intro pins s σ H Q I h
 refine BoolOp_and (bz (ha pins s σ H _ I h) fun v s1 ⟨x,H1,I1,r1,q1⟩=>?_)
 obtain ⟨c,rfl,q1⟩:=q1
 cases r1
 refine wpAny_truthy_bool ?_
 cases c with
 | true=>exact hb pins s1 σ H1 Q I1 q1
 | false=>exact ⟨.bl false,H1,I1,rfl,q1⟩
theorem Kw (ha:PE X a ta) (hb:PE X (.BoolOp .Or (b::rest) pos) tb):PE X (.BoolOp .Or (a::b::rest) pos) (JM ta tb):=by
 intro pins s σ H Q I h
 refine BoolOp_or (bz (ha pins s σ H _ I h) fun v s1 ⟨x,H1,I1,r1,q1⟩=>?_)
 obtain ⟨c,rfl,q1⟩:=q1
 cases r1
 refine wpAny_truthy_bool ?_
 cases c with
 | false=>exact hb pins s1 σ H1 Q I1 q1
 | true=>exact ⟨.bl true,H1,I1,rfl,q1⟩
theorem Gg (ha:PE X a ta):PE X (.UnaryOp .Not a pos) (DR ta):=by
 intro pins s σ H Q I h
 refine UnaryOp_ (bz (ha pins s σ H _ I h) fun v s1 ⟨x,H1,I1,r1,q1⟩=>?_)
 obtain ⟨c,rfl,q1⟩:=q1
 cases r1
 exact not_of (wpAny_truthy_bool ⟨.bl (!c),H1,I1,rfl,q1⟩)
noncomputable def tIf (t:TT) (ta tb:TE):TE:=fun σ H Q=>t σ H fun c H1=>if c=true then ta σ H1 Q else tb σ H1 Q
theorem yz {c:Expr} (hc:PT X c tA) (ha:PE X a ta) (hb:PE X b tb):PE X (.IfExp c a b pos) (tIf tA ta tb):=by
 intro pins s σ H Q I h
 refine wpAny_IfExp (bz (hc pins s σ H _ I h) fun d s1 ⟨H1,I1,q1⟩=>?_)
 cases d with
 | true=>exact ha pins s1 σ H1 Q I1 q1
 | false=>exact hb pins s1 σ H1 Q I1 q1
end
noncomputable def gb (K:PySem.W.Frag) (H:Hp) (a:Addr) (xs:List V):Prop :=
 Rd H a (.lst xs) \/
  ∃ (o:Obj) (its:Array Value) (n:Nat), K.lookup a=some o/\o.cls=.type "list"/\o.dict=none/\o.data=.seq its n/\its.size<=sizeLine/\Vals xs its.toList
noncomputable def jD (K:PySem.W.Frag) (H:Hp) (a:Addr) (xs:List V):Prop :=
 Rd H a (.tup xs) \/
  ∃ (o:Obj) (its:Array Value) (n:Nat), K.lookup a=some o/\o.cls=.type "tuple"/\o.data=.seq its n/\its.size<=sizeLine/\Vals xs its.toList
noncomputable def absV:Value->Option V
 | .none=>some .ai
 | .bool b=>some (.bl b)
 | .int i _=>some (.int i)
 | .str x _=>some (.str x)
 | .bytes b _=>some (.xw b)
 | .float b _=>some (.Nt b)
 | .ref a=>some (.ref a)
 | .type n=>some (.ty n)
 | _=>none
theorem RelV.abs {x:V} {u:Value} (r:RelV x u):absV u=some x:=by
 cases x with
 | ai=>cases r;rfl
 | bl _=>cases r;rfl
 | int _=>obtain ⟨t,rfl⟩:=r;rfl
 | str _=>obtain ⟨t,rfl⟩:=r;rfl
 | xw _=>obtain ⟨t,rfl⟩:=r;rfl
 | Nt _=>obtain ⟨t,rfl⟩:=r;rfl
 | ref _=>cases r;rfl
 | ty _=>cases r;rfl
theorem RelV.inj {x y:V} {u:Value} (r:RelV x u) (q:RelV y u):x=y:=Option.some.inj (r.abs.symm.trans q.abs)
theorem Vals.inj:∀ {xs ys:List V} {us:List Value},Vals xs us->Vals ys us->xs=ys
 | _,_,_,.nil,.nil=>rfl
 | _,_,_,.cons r t,.cons r' t'=>by rw [r.inj r',Vals.inj t t']
section
variable {X:Cx} {pins:List (Addr×Obj)} {σ:St} {H:Hp} {s:Shared} {a:Addr} {xs ys:List V}
theorem Inv.list (I:Inv X pins σ H s) (h:gb X.K H a xs):∃ its:List Value,Vals xs its/\PlainL s.heap a its.toArray/\xs.length<=sizeLine:=by
 rcases h with h | ⟨o,its,n,hk,hc,hd,hs,hz,r⟩
 ·obtain ⟨z,its,n,r,e⟩:=h.ok I.hok
  exact ⟨its,r,⟨_,n,e,rfl,rfl,rfl⟩,z⟩
 ·refine ⟨its.toList,r,⟨o,n,I.ia a o hk,hc,hd,by simpa using hs⟩,?_⟩
  have e:=r.length
  simp only [Array.length_toList] at e
  omega
theorem Inv.tuple (I:Inv X pins σ H s) (h:jD X.K H a xs):∃ its:List Value,Vals xs its/\IsTup s.heap a its.toArray/\xs.length<=sizeLine:=by
 rcases h with h | ⟨o,its,n,hk,hc,hs,hz,r⟩
 ·obtain ⟨z,its,r,p⟩:=h.ok I.hok
  exact ⟨its,r,p,z⟩
 ·refine ⟨its.toList,r,⟨o,I.ia a o hk,hc,n,by simpa using hs⟩,?_⟩
  have e:=r.length
  simp only [Array.length_toList] at e
  omega
theorem Inv.k8 (I:Inv X pins σ H s) (h:gb X.K H a xs) (h':gb X.K H a ys):xs=ys:=by
 obtain ⟨its,r,⟨o,n,e,_,_,d⟩,_⟩:=I.list h
 obtain ⟨its',r',⟨o',n',e',_,_,d'⟩,_⟩:=I.list h'
 rw [e] at e';cases e'
 rw [d] at d'
 injection d' with d1 _
 have:its=its':=by simpa using congrArg Array.toList d1
 subst this
 exact r.inj r'
theorem Inv.mK (I:Inv X pins σ H s) (h:jD X.K H a xs) (h':jD X.K H a ys):xs=ys:=by
 obtain ⟨its,r,⟨o,e,_,n,d⟩,_⟩:=I.tuple h
 obtain ⟨its',r',⟨o',e',_,n',d'⟩,_⟩:=I.tuple h'
 rw [e] at e';cases e'
 rw [d] at d'
 injection d' with d1 _
 have:its=its':=by simpa using congrArg Array.toList d1
 subst this
 exact r.inj r'
end
noncomputable abbrev Cx.bU (X:Cx) (E:Value->Shared->Prop):Cx:={ X with xe:=E }
noncomputable abbrev Cx.Eg (X:Cx):Cx:=X.bU fun _ _=>False
theorem Cx.Ok.bU {X:Cx} (ok:X.Ok) (E:Value->Shared->Prop):(X.bU E).Ok :=
 ⟨ok.mod,ok.kind,ok.glob,ok.blt,ok.above,ok.inj,ok.has,ok.EN,ok.hd,ok.frames,ok.stk,ok.LM,ok.bs,ok.xx,ok.qe,ok.sU,ok.ic,ok.AM⟩
theorem Cx.Ok.bF {X:Cx} {E:Value->Shared->Prop} (ok:(X.bU E).Ok):X.Ok :=
 ⟨ok.mod,ok.kind,ok.glob,ok.blt,ok.above,ok.inj,ok.has,ok.EN,ok.hd,ok.frames,ok.stk,ok.LM,ok.bs,ok.xx,ok.qe,ok.sU,ok.ic,ok.AM⟩
section
variable {X:Cx} {pins:List (Addr×Obj)} {σ:St} {H:Hp} {s:Shared} {E:Value->Shared->Prop}
theorem Inv.bU (I:Inv X pins σ H s) (E:Value->Shared->Prop):Inv (X.bU E) pins σ H s:=⟨I.ok.bU E,I.os,I.bare,I.base,I.loc,I.cell,I.free,I.cN,I.pin,I.hok,I.len⟩
theorem Inv.bF (I:Inv (X.bU E) pins σ H s):Inv X pins σ H s:=⟨I.ok.bF,I.os,I.bare,I.base,I.loc,I.cell,I.free,I.cN,I.pin,I.hok,I.len⟩
theorem SP.bF {D:Ends} {f:Flow} {s':Shared} (h:SP (X.bU E) pins D f s'):SP X pins D f s':=by
 cases f with
 | next=>obtain ⟨σ',H',I,q⟩:=h;exact ⟨σ',H',I.bF,q⟩
 | brk=>obtain ⟨σ',H',I,q⟩:=h;exact ⟨σ',H',I.bF,q⟩
 | cont=>obtain ⟨σ',H',I,q⟩:=h;exact ⟨σ',H',I.bF,q⟩
 | ret u=>obtain ⟨v,σ',H',I,r,q⟩:=h;exact ⟨v,σ',H',I.bF,r,q⟩
theorem PE.Eg {e:Expr} {t:TE} (h:PE X.Eg e t):PE X e t:=fun pins s σ H Q I hw =>
 wpAny_mono (h pins s σ H Q (I.bU _) hw) (fun _ _ ⟨v,H',I',r,q⟩=>⟨v,H',I'.bF,r,q⟩) fun _ _ z=>False.elim z
theorem PT.Eg {e:Expr} {t:TT} (h:PT X.Eg e t):PT X e t:=fun pins s σ H Q I hw =>
 wpAny_mono (h pins s σ H Q (I.bU _) hw) (fun _ _ ⟨H',I',q⟩=>⟨H',I'.bF,q⟩) fun _ _ z=>False.elim z
theorem ku.Eg {st:List Stmt} {t:TS} (h:ku X.Eg st t):ku X st t:=fun pins s σ H D I hw =>
 wpAny_mono (h pins s σ H D (I.bU _) hw) (fun _ _ q=>q.bF) fun _ _ z=>False.elim z
end
section
variable {X:Cx} {st:Stmt} {rest:List Stmt} {t u:TS} {e:Expr} {te:TE} {pos:Pos}
noncomputable def DS:TS:=fun D σ H=>D.nx σ H
noncomputable def JK (t u:TS):TS:=fun D σ H=>t { D with nx:=u D } σ H
theorem uA:ku X [] DS:=fun _ _ σ H _ I h=>wpAny_execs_nil ⟨σ,H,I,h⟩
theorem qc (h1:PS X st t) (h2:ku X rest u):ku X (st::rest) (JK t u):=by
 intro pins s σ H D I h
 refine wpAny_execs_cons (bz (h1 pins s σ H { D with nx:=u D } I h) fun f s1 q=>?_)
 cases f with
 | next =>
  obtain ⟨σ',H',I',q⟩:=q
  exact h2 pins s1 σ' H' D I' q
 | ret v=>exact q
 | brk=>exact q
 | cont=>exact q
theorem Inv.quiet {pins:List (Addr×Obj)} {σ:St} {H:Hp} {s:Shared} (I:Inv X pins σ H s):interactive X.env=false:=by simp [interactive,I.ok.kind]
noncomputable def DT (te:TE):TS:=fun D σ H=>te σ H fun _ H1=>D.nx σ H1
theorem BR (he:PE X e te) (hs:swapsWith e none pos.line X.env=pure false:=by rfl):PS X (.Expr e pos) (DT te):=by
 intro pins s σ H D I h
 exact wpAny_Expr_any (bz (he pins s σ H _ I h) fun v s1 ⟨x,H1,I1,r1,q1⟩=>⟨σ,H1,I1,q1⟩) I.quiet hs
noncomputable def JL (te:TE):TS:=fun D σ H=>te σ H D.rt
theorem FZ (he:PE X e te):PS X (.Return (some e) pos) (JL te):=by
 intro pins s σ H D I h
 exact wpAny_Return_some (bz (he pins s σ H _ I h) fun v s1 ⟨x,H1,I1,r1,q1⟩=>⟨x,σ,H1,I1,r1,q1⟩)
noncomputable def JQ (c:TT) (t u:TS):TS:=fun D σ H=>c σ H fun b H1=>if b=true then t D σ H1 else u D σ H1
theorem Kp {c:Expr} {a b:List Stmt} {tc:TT} (hc:PT X c tc) (ha:ku X a t) (hb:ku X b u):PS X (.If c a b pos) (JQ tc t u):=by
 intro pins s σ H D I h
 refine wpAny_If (bz (hc pins s σ H _ I h) fun d s1 ⟨H1,I1,q1⟩=>?_)
 cases d with
 | true=>exact ha pins s1 σ H1 D I1 q1
 | false=>exact hb pins s1 σ H1 D I1 q1
end
noncomputable abbrev TG:=V->St->Hp->(St->Hp->Prop)->Prop
noncomputable abbrev EV:=List V->St->Hp->(St->Hp->Prop)->Prop
noncomputable def PG (X:Cx) (target:Expr) (t:TG):Prop :=
 ∀ (pins:List (Addr×Obj)) (s:Shared) (σ:St) (H:Hp) (v:V) (u:Value) (Q:St->Hp->Prop),Inv X pins σ H s->RelV v u->t v σ H Q ->
  wpAny (model X.prog X.w) X.A (assign target X.env u) (fun _ s'=>∃ σ' H',Inv X pins σ' H' s'/\Q σ' H') X.xe s
noncomputable def My (X:Cx) (ts:List Expr) (t:EV):Prop :=
 ∀ (pins:List (Addr×Obj)) (s:Shared) (σ:St) (H:Hp) (vs:List V) (us:List Value) (Q:St->Hp->Prop),Inv X pins σ H s->Vals vs us->t vs σ H Q ->
  wpAny (model X.prog X.w) X.A (assignInOrder ((assignEach ts X.env).map (·.2)) us) (fun _ s'=>∃ σ' H',Inv X pins σ' H' s'/\Q σ' H') X.xe s
noncomputable abbrev TSet:=V->V->V->Hp->(Hp->Prop)->Prop
noncomputable def PSet (X:Cx) (t:TSet):Prop :=
 ∀ (pins:List (Addr×Obj)) (s:Shared) (σ:St) (H:Hp) (o i v:V) (ov iv u:Value) (Q:Hp->Prop),Inv X pins σ H s->RelV o ov->RelV i iv->RelV v u->t o i v H Q ->
  wpAny (model X.prog X.w) X.A (setItem ov iv u) (fun _ s'=>∃ H',Inv X pins σ H' s'/\Q H') X.xe s
section
variable {X:Cx} {pos:Pos}
noncomputable def lD (i:Nat):TG:=fun v σ H Q=>Q (σ.set i (some v)) H
theorem BW {i:Nat} {x:Str} (hN:X.N.Nodup) (hi:X.N[i]? = some x) (hx:Loc X.env.scope x) (hf:X.fn x=true\/X.env.scope.names.lookup x=some .local:=by first | exact .inl rfl | exact .inr rfl | assumption):PG X (.Name x pos) (lD i):=by
 intro pins s σ H v u Q I r h
 exact wpAny_assign_Name (pJ I hN hi hx r (fun s' I'=>⟨_,H,I',h⟩) hf)
noncomputable def Lx:EV:=fun vs σ H Q=>vs=[]/\Q σ H
noncomputable def Eu (t:TG) (u:EV):EV:=fun vs σ H Q=>∃ v r,vs=v::r/\t v σ H fun σ' H'=>u r σ' H' Q
theorem uD:My X [] Lx:=by
 intro pins s σ H vs us Q I r h
 obtain ⟨e,h⟩:=h
 subst e
 cases r
 exact assignInOrder_nil ⟨σ,H,I,h⟩
theorem kT {e:Expr} {es:List Expr} {t:TG} {u:EV} (h1:PG X e t) (h2:My X es u)
  (hs:(assignEach (e::es) X.env).map (·.2)=assign e X.env::(assignEach es X.env).map (·.2):=by rfl):My X (e::es) (Eu t u):=by
 intro pins s σ H vs us Q I r h
 obtain ⟨v,vr,e1,h⟩:=h
 subst e1
 cases r with
 | cons r rr =>
  rw [hs]
  refine assignInOrder_cons (bz (h1 pins s σ H _ _ _ I r h) fun _ s1 ⟨σ1,H1,I1,q1⟩=>?_)
  exact h2 pins s1 σ1 H1 _ _ Q I1 rr q1
noncomputable def gTup (K:PySem.W.Frag) (n:Nat) (t:EV):TG:=fun v σ H Q=>∃ a xs,v=.ref a/\jD K H a xs/\xs.length=n/\t xs σ H Q
theorem yu {es:List Expr} {k:Nat} {t:EV} {n:Nat} (hc:X.calm=true) (h:My X es t)
  (hn:(assignEach es X.env).length=n:=by rfl) (hst:(assignEach es X.env).findIdx? (·.1)=none:=by rfl):PG X (.Tuple es k pos) (gTup X.K n t):=by
 intro pins s σ H v u Q I r hw
 obtain ⟨a,xs,e1,hq,hl,hw⟩:=hw
 subst e1
 cases r
 obtain ⟨its,rv,ht,hz⟩:=I.tuple hq
 refine assign_Tuple_tuple (I.ok.hd hc) ht (by simp [hn,<- hl,rv.length]) hst fun h' hx=>?_
 have I1:Inv X pins σ H { s with heap:=h' }:=I.kept (t':=s.toks) fun b o e=>hx b o (Nat.ne_of_lt (Heap.lt_size e)) e
 exact h pins _ σ H xs _ Q I1 (by simpa using rv) hw
noncomputable def xK (te:TE) (g:TG):TS:=fun D σ H=>te σ H fun x H1=>g x σ H1 D.nx
theorem F7 {tg e:Expr} {te:TE} {g:TG} (he:PE X e te) (hg:PG X tg g) (hs:swapsWithSole [tg] e pos.line X.env=pure false:=by rfl) (hw:swappedStores [tg] e X.env=pure none:=by rfl)
  (h1:(assignEach [tg] X.env).map (·.2)=[assign tg X.env]:=by rfl):PS X (.Assign [tg] e pos) (xK te g):=by
 intro pins s σ H D I h
 refine wpAny_Assign_stores (bz (he pins s σ H _ I h) fun v s1 ⟨x,H1,I1,r1,q1⟩=>?_) hs hw
 rw [h1]
 exact bz (hg pins s1 σ H1 x v _ I1 r1 q1) fun _ s2 q=>q
theorem yr {i:Nat} {x:Str} {e:Expr} {te:TE} {pos':Pos} (hN:X.N.Nodup) (hi:X.N[i]? = some x) (hx:Loc X.env.scope x) (he:PE X e te) (hs:swapsWith e (some (.Name x pos')) pos.line X.env=pure false:=by rfl) (hf:X.fn x=true\/X.env.scope.names.lookup x=some .local:=by first | exact .inl rfl | exact .inr rfl | assumption) :
  PS X (.Assign [.Name x pos'] e pos) (xK te (lD i)):=by
 intro pins s σ H D I h
 refine wpAny_Assign_Name (bz (he pins s σ H _ I h) fun v s1 ⟨y,H1,I1,r1,q1⟩=>?_) hs
 exact pJ I1 hN hi hx r1 (fun s2 I2=>⟨_,H1,I2,q1⟩) hf
end
section
variable {X:Cx} {pos:Pos}
noncomputable def xH (c:TT) (tb:TS):TS:=fun D σ H=>∃ W:Nat->St->Hp->Prop,(∃ m,W m σ H)/\∀ m σ H,W m σ H ->
 c σ H fun b H1=>if b=true then ∃ N:St->Hp->Prop,(∀ σ' H',N σ' H'->∃ m',m'<m/\W m' σ' H')/\tb { D with nx:=N,ct:=N,bk:=D.nx } σ H1 else D.nx σ H1
theorem yq {c:Expr} {body:List Stmt} {tc:TT} {tb:TS} (hp:PassesOwn (model X.prog X.w) X.A X.env X.xe) (hc:PT X c tc) (hb:ku X body tb):PS X (.While c body [] pos) (xH tc tb):=by
 intro pins s σ H D I h
 obtain ⟨W,⟨m0,w0⟩,turn⟩:=h
 refine wpAny_While (codeAny_whileLoop (fun n s'=>∃ σ' H',Inv X pins σ' H' s'/\W n σ' H') ?_ m0 ⟨σ,H,I,w0⟩)
 rintro n s1 ⟨σ1,H1,I1,w1⟩
 refine wpAny_passesOwn hp (bz (hc pins s1 σ1 H1 _ I1 (turn n σ1 H1 w1)) fun b s2 ⟨H2,I2,q2⟩=>?_)
 cases b with
 | true =>
  obtain ⟨N,hN,q2⟩:=q2
  rw [if_pos rfl]
  refine wpAny_passesOwn hp (bz (hb pins s2 σ1 H2 _ I2 q2) fun f s3 q3=>?_)
  cases f with
  | next =>
   obtain ⟨σ3,H3,I3,n3⟩:=q3
   obtain ⟨m',hm,w3⟩:=hN σ3 H3 n3
   exact ⟨m',hm,σ3,H3,I3,w3⟩
  | cont =>
   obtain ⟨σ3,H3,I3,n3⟩:=q3
   obtain ⟨m',hm,w3⟩:=hN σ3 H3 n3
   exact ⟨m',hm,σ3,H3,I3,w3⟩
  | brk=>exact q3
  | ret v=>exact q3
 | false =>
  rw [if_neg Bool.false_ne_true]
  exact wpAny_execs_nil ⟨σ1,H2,I2,q2⟩
end
structure It where
 go:Nat->Hp->Prop
 MG:Nat->Hp->V->Hp->Prop
 stop:Nat->Hp->Prop
noncomputable def lZ (X:Cx) (pins:List (Addr×Obj)) (H:Hp) (b:Addr):Prop :=
 H b=none/\b≠X.env.locals/\b∉X.fs/\(b∈X.ex\/X.s₀.heap.objs.size<=b)/\(∀ x c,X.env.cells.lookup x=some c->c≠b)/\∀ p∈X.pn++pins,p.1≠b
theorem Inv.wL {X:Cx} {pins:List (Addr×Obj)} {σ:St} {H H':Hp} {s:Shared} {b:Addr} (I:Inv X pins σ H s) (hb:s.heap.objs.size<=b) (hn:H' b=none):lZ X pins H' b:=by
 refine ⟨hn,Nat.ne_of_gt (Nat.lt_of_lt_of_le I.lt hb),I.KS hb,.inr (Nat.le_trans I.sz hb),fun x c e z=>?_,fun p hp z=>?_⟩
 ·obtain ⟨v,q⟩:=I.cell x c e
  exact absurd (Nat.lt_of_lt_of_le q.lt (by rw [z];exact hb)) (Nat.lt_irrefl _)
 ·exact absurd (Nat.lt_of_lt_of_le (Heap.lt_size (I.pin p hp).1) (by rw [z];exact hb)) (Nat.lt_irrefl _)
structure Turn (P:Program) (w:World) (K:PySem.W.Frag) (tg:Expr) (J:It) (fp:List Addr) (it:Addr) (tn:Nat->Heap->Prop):Prop where
 mem:it∈fp
 obj:∀ i h,tn i h->∀ b∈fp,∃ o,h.get? b=some o/\∀ v,o.data≠.cell v
 keep:∀ i h h',tn i h->(∀ b∈fp,∀ o,h.get? b=some o->h'.get? b=some o)->tn i h'
 item:∀ (X:Cx),X.prog=P->X.w=w->X.K=K->X.calm=true->∀ (i:Nat) (pins:List (Addr×Obj)) (s:Shared) (σ:St) (H:Hp) (E:Value->Shared->Prop),Inv X pins σ H s->(∀ b∈fp,lZ X pins H b)->tn i s.heap->J.go i H ->
  wpAny (model P w) X.A (pyNext (.ref it)) (fun r s1=>∃ u,r=some u /\
   wpAny (model P w) X.A (letOwnedTupleGo tg (.ref it) u) (fun _ s2=>∃ x H',Inv X pins σ H' s2/\RelV x u/\J.MG i H x H'/\tn (i+1) s2.heap/\∀ b∈fp,H' b=none) E s1) E s
 done:∀ (X:Cx),X.prog=P->X.w=w->X.K=K->X.calm=true->∀ (i:Nat) (pins:List (Addr×Obj)) (s:Shared) (σ:St) (H:Hp) (E:Value->Shared->Prop),Inv X pins σ H s->(∀ b∈fp,lZ X pins H b)->tn i s.heap->J.stop i H ->
  wpAny (model P w) X.A (pyNext (.ref it)) (fun r s1=>r=none/\Inv X pins σ H s1) E s
 self:∀ (A:Around) (i:Nat) (s:Shared) (Q:Value->Shared->Prop) (E:Value->Shared->Prop),tn i s.heap->Q (.ref it) s->wpAny (model P w) A (pyIter (.ref it)) Q E s
noncomputable abbrev TI:=St->Hp->(It->Hp->Prop)->Prop
noncomputable def PIE (X:Cx) (pins:List (Addr×Obj)) (σ:St) (tg:Expr) (R:It->Hp->Prop) (itv:Value) (s2:Shared):Prop :=
 ∃ (it:Addr) (fp:List Addr) (tn:Nat->Heap->Prop) (J:It) (H':Hp),itv=.ref it/\Inv X pins σ H' s2/\Turn X.prog X.w X.K tg J fp it tn/\tn 0 s2.heap/\(∀ b∈fp,lZ X pins H' b)/\R J H'
noncomputable def PI (X:Cx) (tg iter:Expr) (wi:TI):Prop :=
 ∀ (pins:List (Addr×Obj)) (s:Shared) (σ:St) (H:Hp) (R:It->Hp->Prop),Inv X pins σ H s->wi σ H R ->
  wpAny (model X.prog X.w) X.A (eval iter X.env) (fun v s1=>wpAny (model X.prog X.w) X.A (pyIter v) (PIE X pins σ tg R) X.xe s1) X.xe s
theorem qw {M:Model} {A:Around} {E:Value->Shared->Prop} {s:Shared} {tg:Expr} {it:Addr} {u:Value} {o:Obj} {n:String} {vs:Array Value} {Q:Unit->Shared->Prop} (ho:s.heap.get? it=some o) (hc:o.cls=.type n) (hd:o.data=.fields vs)
    (hn:["enumerate", "zip", "dict_itemiterator", "dict_reverseitemiterator", "odict_iterator", "itertools.zip_longest", "itertools.pairwise"].contains n=false) (hQ:Q () s):wpAny M A (letOwnedTupleGo tg (.ref it) u) Q E s:=by
  unfold letOwnedTupleGo
  cases tg <;> first
    | exact wpAny_pure hQ
    | (cases u <;> first
        | exact wpAny_pure hQ
        | (refine wpAny_bind (wpAny_load ho ?_)
           rw [hc,hd]
           show wpAny M A (if (["enumerate", "zip", "dict_itemiterator", "dict_reverseitemiterator", "odict_iterator", "itertools.zip_longest", "itertools.pairwise"].contains n&&vs[0]? == some (rawInt _))=true then _ else _) Q E s
           rw [if_neg (by intro h;rw [hn,Bool.false_and] at h;cases h)]
           exact wpAny_pure hQ))
noncomputable def Itl (K:PySem.W.Frag) (a:Addr):It :=
 ⟨fun i H=>∃ xs x,gb K H a xs/\xs[i]? = some x,fun i H x H'=>H'=H/\∀ xs,gb K H a xs->xs[i]? = some x,fun i H=>∃ xs,gb K H a xs/\xs.length<=i⟩
noncomputable def Itt (K:PySem.W.Frag) (a:Addr):It :=
 ⟨fun i H=>∃ xs x,jD K H a xs/\xs[i]? = some x,fun i H x H'=>H'=H/\∀ xs,jD K H a xs->xs[i]? = some x,fun i H=>∃ xs,jD K H a xs/\xs.length<=i⟩
noncomputable def NR (lo:Int) (n:Nat):It:=⟨fun i _=>i<n,fun i H x H'=>H'=H/\x=.int (lo+i),fun i _=>n<=i⟩
theorem vK {P:Program} {w:World} {K:PySem.W.Frag} {tg:Expr} (a it:Addr):Turn P w K tg (Itl K a) [it] it (fun i h=>h.IsListIter it a i) where
 mem:=by simp
 obj:=fun i h st b hb=>by
  have e:b=it:=by simpa using hb
  subst e
  obtain ⟨o,e,c,d⟩:=st
  exact ⟨o,e,fun v z=>by rw [d] at z;cases z⟩
 keep:=fun i h h' st k=>st.at fun o e=>k it (by simp) o e
 item:=by
  intro X hP hw hK hc i pins s σ H E I hf st hg
  subst hP hw hK
  obtain ⟨xs,x,hq,hx⟩:=hg
  obtain ⟨its,rv,p,hz⟩:=I.list hq
  obtain ⟨u,hu,ru⟩:=rv.get hx
  obtain ⟨f0,f1,f2,f3,f4,f5⟩:=hf it (by simp)
  refine wpAny_pyNext_list_item st p.isList (x:=u) (by simpa using hu) fun h' st' sb=>?_
  have I1:Inv X pins σ H { s with heap:=h' }:=I.turned (t':=s.toks) (fun b o hb e=>(sb.2 b hb).trans e) f0 f1 f3 f4 f5
  obtain ⟨o,e,c,d⟩:=id st'
  exact ⟨u,rfl,qw (s:={ s with heap:=h' }) e c d (by decide) ⟨x,H,I1,ru,⟨rfl,fun ys hy=>by rw [I.k8 hy hq];exact hx⟩,st',fun b hb=>(hf b hb).1⟩⟩
 done:=by
  intro X hP hw hK hc i pins s σ H E I hf st hg
  subst hP hw hK
  obtain ⟨xs,hq,hx⟩:=hg
  obtain ⟨its,rv,p,hz⟩:=I.list hq
  obtain ⟨f0,f1,f2,f3,f4,f5⟩:=hf it (by simp)
  have hl:=rv.length
  exact wpAny_pyNext_list_end (I.ok.hd hc) st p.isList (by simp;omega) fun h' eb=>⟨rfl,I.turned (t':=s.toks) (fun b o hb e=>eb b o hb e) f0 f1 f3 f4 f5⟩
 self:=fun _ _ _ _ _ st h=>wpAny_pyIter_listiter st h
theorem rC {P:Program} {w:World} {K:PySem.W.Frag} {tg:Expr} (a it:Addr):Turn P w K tg (Itt K a) [it] it (fun i h=>h.IsTupleIter it a i) where
 mem:=by simp
 obj:=fun i h st b hb=>by
  have e:b=it:=by simpa using hb
  subst e
  obtain ⟨o,e,c,d⟩:=st
  exact ⟨o,e,fun v z=>by rw [d] at z;cases z⟩
 keep:=fun i h h' st k=>st.at fun o e=>k it (by simp) o e
 item:=by
  intro X hP hw hK hc i pins s σ H E I hf st hg
  subst hP hw hK
  obtain ⟨xs,x,hq,hx⟩:=hg
  obtain ⟨its,rv,p,hz⟩:=I.tuple hq
  obtain ⟨u,hu,ru⟩:=rv.get hx
  obtain ⟨f0,f1,f2,f3,f4,f5⟩:=hf it (by simp)
  refine wpAny_pyNext_tuple_item st (show s.heap.IsTuple a its.toArray from p) (x:=u) (by simpa using hu) fun h' st' sb=>?_
  have I1:Inv X pins σ H { s with heap:=h' }:=I.turned (t':=s.toks) (fun b o hb e=>(sb.2 b hb).trans e) f0 f1 f3 f4 f5
  obtain ⟨o,e,c,d⟩:=id st'
  exact ⟨u,rfl,qw (s:={ s with heap:=h' }) e c d (by decide) ⟨x,H,I1,ru,⟨rfl,fun ys hy=>by rw [I.mK hy hq];exact hx⟩,st',fun b hb=>(hf b hb).1⟩⟩
 done:=by
  intro X hP hw hK hc i pins s σ H E I hf st hg
  subst hP hw hK
  obtain ⟨xs,hq,hx⟩:=hg
  obtain ⟨its,rv,p,hz⟩:=I.tuple hq
  obtain ⟨f0,f1,f2,f3,f4,f5⟩:=hf it (by simp)
  have hl:=rv.length
  exact wpAny_pyNext_tuple_end (I.ok.hd hc) st (show s.heap.IsTuple a its.toArray from p) (by simp;omega) fun h' eb=>⟨rfl,I.turned (t':=s.toks) (fun b o hb e=>eb b o hb e) f0 f1 f3 f4 f5⟩
 self:=fun _ _ _ _ _ st h=>wpAny_pyIter_tupleiter st h
theorem rD {P:Program} {w:World} {K:PySem.W.Frag} {tg:Expr} (it:Addr) (lo:Int) (n:Nat):Turn P w K tg (NR lo n) [it] it (fun i h=>IsRangeIter h it (lo+(i:Nat)*1) ((n:Int)-(i:Nat)) 1) where
 mem:=by simp
 obj:=fun i h st b hb=>by
  have e:b=it:=by simpa using hb
  subst e
  exact ⟨_,st,fun v z=>by
   have z':Data.fields _=Data.cell v:=z
   cases z'⟩
 keep:=fun i h h' st k=>k it (by simp) _ st
 item:=by
  intro X hP hw hK hc i pins s σ H E I hf st hg
  subst hP hw hK
  obtain ⟨f0,f1,f2,f3,f4,f5⟩:=hf it (by simp)
  have W:=Walks.range (prog:=X.prog) (w:=X.w) (I.ok.hd hc) it lo 1 n
  refine W.item i s _ _ hg st fun v h' tk hv st' kk=>?_
  obtain ⟨t,rfl⟩:=hv
  have I1:Inv X pins σ H { s with heap:=h',toks:=tk }:=I.turned (fun b o hb e=>kk b o (by simpa using hb) e) f0 f1 f3 f4 f5
  refine ⟨_, rfl, qw (s:={ s with heap:=h', toks:=tk }) (n:="range_iterator") st' rfl rfl (by decide) ⟨.int (lo+i), H, I1, ⟨t, ?_⟩, ⟨rfl, rfl⟩, st', fun b hb=>(hf b hb).1⟩⟩
  rw [Int.mul_one]
 done:=by
  intro X hP hw hK hc i pins s σ H E I hf st hg
  subst hP hw hK
  obtain ⟨f0,f1,f2,f3,f4,f5⟩:=hf it (by simp)
  exact wpAny_pyNext_range_end (I.ok.hd hc) st (by have:n<=i:=hg;omega) fun h' eb=>⟨rfl,I.turned (t':=s.toks) (fun b o hb e=>eb b o hb e) f0 f1 f3 f4 f5⟩
 self:=fun _ _ _ _ _ st h=>wpAny_pyIter_rangeiter st h
section
variable {X:Cx} {tg:Expr}
theorem yj {pins:List (Addr×Obj)} {σ:St} {H:Hp} {s:Shared} {R:It->Hp->Prop} {E:Value->Shared->Prop} {lo hi:Int} {t u v:Tok} {tk:Nat} (I:Inv X pins σ H s) (h1:-(2 ^ 62)<=lo) (h2:lo<2 ^ 62) (h3:-(2 ^ 62)<=hi) (h4:hi<2 ^ 62)
  (q:R (NR lo (hi-lo).toNat) H):wpAny (model X.prog X.w) X.A (pyIter (.ref s.heap.objs.size)) (PIE X pins σ tg R) E { s with heap:=s.heap.push { cls:=.type "range", data:=.fields #[.int lo t, .int hi u, .int 1 v] }, toks:=tk }:=by
 refine wpAny_pyIter_range (IsRange.new ..) (small_one h1 h2 h3 h4) ?_
 have I1:Inv X pins σ H { s with heap:=s.heap.push { cls:=.type "range", data:=.fields #[.int lo t, .int hi u, .int 1 v] }, toks:=tk }:=I.kept fun b o e=>Heap.get?_push_of_some _ e
 refine ⟨(s.heap.push { cls:=.type "range", data:=.fields #[.int lo t, .int hi u, .int 1 v] }).objs.size, [(s.heap.push { cls:=.type "range", data:=.fields #[.int lo t, .int hi u, .int 1 v] }).objs.size], _, _, H, rfl,
  I1.kept (t':=tk) fun b o e=>Heap.get?_push_of_some _ e,rD _ lo (hi-lo).toNat,?_,fun b hb=>?_,q⟩
 ·have e1:lo+((0:Nat):Int)*1=lo:=by simp
  have e2:(((hi-lo).toNat:Nat):Int)-((0:Nat):Int)=Builtin.Range.rangeSize lo hi 1:=by rw [rangeSize_one];split <;> omega
  show IsRangeIter _ _ (lo+((0:Nat):Int)*1) ((((hi-lo).toNat:Nat):Int)-((0:Nat):Int)) 1
  rw [e1,e2]
  exact Heap.get?_push_size _ rfl
 ·have e:b=(s.heap.push { cls:=.type "range", data:=.fields #[.int lo t, .int hi u, .int 1 v] }).objs.size:=by simpa using hb
  subst e
  exact I1.wL (Nat.le_refl _) (I1.hok.fresh (Nat.le_refl _))
noncomputable def Ep (ta:TA):TI:=fun σ H R=>ta σ H fun vs H1=>∃ j:Int,vs=[.int j]/\-(2 ^ 62)<=j/\j<2 ^ 62/\R (NR 0 j.toNat) H1
theorem vZ {a:Expr} {ta:TA} {p pos:Pos} (hg:Gl X "range") (hm:X.mg "range" = none) (ha:PA X [a] ta) (hs:starEach [a] X.env=[(false, eval a X.env)]:=by rfl):PI X tg (.Call (.Name "range" p) [a] [] pos) (Ep ta):=by
 intro pins s σ H R I h
 refine Call_ (g9 I hg hm boot_range (PyProof.Rows.callWith_type1 (bz (ha pos pins s σ H _ I h) fun us s1 ⟨vs,H1,I1,r1,q1⟩=>?_) hs rfl))
 obtain ⟨j,e,q1,q2,q⟩:=q1
 subst e
 cases r1 with
 | cons r rr =>
  cases rr
  obtain ⟨t,rfl⟩:=r
  exact call_range_1 (yj I1 (by omega) (by omega) q1 q2 (by simpa using q))
noncomputable def JR (wi:TI) (g:TG) (tb:TS):TS:=fun D σ H=>wi σ H fun J H1=>∃ W:Nat->Nat->St->Hp->Prop,(∃ m,W 0 m σ H1)/\∀ i m σ H,W i m σ H ->
 (J.stop i H/\D.nx σ H)\/(J.go i H/\∃ N:St->Hp->Prop,(∀ σ' H',N σ' H'->∃ m',m'<m/\W (i+1) m' σ' H')/\∀ x H',J.MG i H x H'->g x σ H' fun σ2 H2=>tb { D with nx:=N,ct:=N,bk:=D.nx } σ2 H2)
noncomputable def kP (fp:List Addr) (h:Heap):List (Addr×Obj):=fp.filterMap fun b=>(h.get? b).map fun o=>(b,o)
theorem fq {fp:List Addr} {h:Heap} {b:Addr} {o:Obj} (hb:b∈fp) (e:h.get? b=some o):(b,o)∈kP fp h:=List.mem_filterMap.mpr ⟨b,hb,by rw [e];rfl⟩
theorem wg {fp:List Addr} {h:Heap} {p:Addr×Obj} (hp:p∈kP fp h):p.1∈fp/\h.get? p.1=some p.2:=by
 obtain ⟨b,hb,e⟩:=List.mem_filterMap.mp hp
 cases q:h.get? b with
 | none=>rw [q] at e;cases e
 | some o =>
  rw [q] at e
  have e':(b,o)=p:=Option.some.inj e
  subst e'
  exact ⟨hb,q⟩
theorem Inv.pinned {pins:List (Addr×Obj)} {σ:St} {H:Hp} {s:Shared} {fp:List Addr} (I:Inv X pins σ H s) (hf:∀ b∈fp,lZ X pins H b) (ho:∀ b∈fp,∃ o,s.heap.get? b=some o/\∀ v,o.data≠.cell v):Inv X (pins++kP fp s.heap) σ H s :=
 I.uC fun p hp=>(List.mem_append.mp hp).elim (fun z=>I.pin p (List.mem_append_right _ z)) fun z=>by
  obtain ⟨hb,e⟩:=wg z
  obtain ⟨f0,f1,f2,_⟩:=hf p.1 hb
  obtain ⟨o,e',d⟩:=ho p.1 hb
  rw [e] at e';cases e'
  exact ⟨e,f0,f1,f2,d⟩
theorem Inv.iE {pins pl:List (Addr×Obj)} {σ:St} {H:Hp} {s:Shared} (I:Inv X (pins++pl) σ H s):Inv X pins σ H s:=I.uC fun p hp=>I.pin p (List.mem_append_right _ (List.mem_append_left _ hp))
theorem F5 {iter:Expr} {body:List Stmt} {wi:TI} {g:TG} {tb:TS} {pos:Pos} (hp:PassesOwn (model X.prog X.w) X.A X.env X.xe) (hc:X.calm=true) (hi:PI X tg iter wi) (hg:PG X tg g) (hb:ku X body tb)
  (hs:∀ x,foldedSetIterable iter X.env x=pure x:=by intro _;rfl):PS X (.For tg iter body [] pos) (JR wi g tb):=by
 intro pins s σ H D I h
 refine wpAny_For (bz (hi pins s σ H _ I h) fun v s1 h1=>bz h1 fun itv s2 h2=>?_) hs
 obtain ⟨it,fp,tn,J,H2,e,I2,T,st2,f2,W,⟨m0,w0⟩,turn⟩:=h2
 subst e
 have stat:∀ {H':Hp},(∀ b∈fp,H' b=none)->∀ b∈fp,lZ X pins H' b:=fun hn b hb=>⟨hn b hb,(f2 b hb).2⟩
 refine codeAny_forLoop_any (fun n s'=>∃ i σ' H',Inv X pins σ' H' s'/\tn i s'.heap/\(∀ b∈fp,H' b=none)/\W i n σ' H') ?_ m0 ⟨0,σ,H2,I2,st2,fun b hb=>(f2 b hb).1,w0⟩
 rintro n s3 ⟨i,σ3,H3,I3,st3,Ly,w3⟩
 rcases turn i n σ3 H3 w3 with ⟨stop,qn⟩ | ⟨go,N,hN,step⟩
 ·refine wpAny_passesOwn hp (bz (T.done X rfl rfl rfl hc i pins s3 σ3 H3 X.xe I3 (stat Ly) st3 stop) fun r s4 ⟨hr,I4⟩=>?_)
  subst hr
  exact wpAny_execs_nil ⟨σ3,H3,I4,qn⟩
 ·refine wpAny_passesOwn hp (bz (T.item X rfl rfl rfl hc i pins s3 σ3 H3 X.xe I3 (stat Ly) st3 go) fun r s4 ⟨u,hr,h4⟩=>?_)
  subst hr
  refine wpAny_passesOwn hp (bz h4 fun _ s5 ⟨x,H5,I5,r5,y5,Fd,fr5⟩=>?_)
  have I5':=I5.pinned (stat fr5) (T.obj _ _ Fd)
  refine wpAny_passesOwn hp (bz (hg _ s5 σ3 H5 x u _ I5' r5 (step x H5 y5)) fun _ s6 ⟨σ6,H6,I6,q6⟩=>?_)
  refine wpAny_passesOwn hp (bz (hb _ s6 σ6 H6 _ I6 q6) fun f s7 q7=>?_)
  have again:∀ {σ7:St} {H7:Hp},Inv X (pins++kP fp s5.heap) σ7 H7 s7->N σ7 H7->∃ m,m<n/\∃ i σ' H',Inv X pins σ' H' s7/\tn i s7.heap/\(∀ b∈fp,H' b=none)/\W i m σ' H':=fun {σ7 H7} I7 n7=>by
   obtain ⟨m',hm,w7⟩:=hN σ7 H7 n7
   refine ⟨m',hm,i+1,σ7,H7,I7.iE,T.keep _ _ _ Fd fun b hb o e=>(I7.pin (b,o) (List.mem_append_right _ (List.mem_append_right _ (fq hb e)))).1,fun b hb=>?_,w7⟩
   obtain ⟨o,e,d⟩:=T.obj _ _ Fd b hb
   exact (I7.pin (b,o) (List.mem_append_right _ (List.mem_append_right _ (fq hb e)))).2.1
  cases f with
  | next=>obtain ⟨σ7,H7,I7,n7⟩:=q7;exact again I7 n7
  | cont=>obtain ⟨σ7,H7,I7,n7⟩:=q7;exact again I7 n7
  | brk=>obtain ⟨σ7,H7,I7,q7⟩:=q7;exact ⟨σ7,H7,I7.iE,q7⟩
  | ret v=>obtain ⟨x7,σ7,H7,I7,r7,q7⟩:=q7;exact ⟨x7,σ7,H7,I7.iE,r7,q7⟩
end
noncomputable abbrev R2:=V->V->Hp->VK->Prop
noncomputable def fc (X:Cx) (f:Value->Value->Sem Value) (r:R2):Prop :=
 ∀ (pins:List (Addr×Obj)) (s:Shared) (σ:St) (H:Hp) (x y:V) (v u:Value) (Q:VK),Inv X pins σ H s->RelV x v->RelV y u->r x y H Q ->
  wpAny (model X.prog X.w) X.A (f v u) (EP X pins σ Q) X.xe s
noncomputable def UnR (X:Cx) (f:Value->Sem Value) (r:V->Hp->VK->Prop):Prop :=
 ∀ (pins:List (Addr×Obj)) (s:Shared) (σ:St) (H:Hp) (x:V) (v:Value) (Q:VK),Inv X pins σ H s->RelV x v->r x H Q ->
  wpAny (model X.prog X.w) X.A (f v) (EP X pins σ Q) X.xe s
noncomputable def dg (X:Cx) (f:Value) (r:List V->Hp->VK->Prop):Prop :=
 ∀ (pins:List (Addr×Obj)) (s:Shared) (σ:St) (H:Hp) (xs:List V) (us:List Value) (Q:VK),Inv X pins σ H s->Vals xs us->r xs H Q ->
  wpAny (model X.prog X.w) X.A (call f us) (EP X pins σ Q) X.xe s
noncomputable def E6 (r:R2) (ta tb:TE):TE:=fun σ H Q=>ta σ H fun x H1=>tb σ H1 fun y H2=>r x y H2 Q
noncomputable def tUn (r:V->Hp->VK->Prop) (ta:TE):TE:=fun σ H Q=>ta σ H fun x H1=>r x H1 Q
noncomputable def rI (C:Int->Int->Prop) (g:Int->Int->V):R2:=fun x y H Q=>∃ i j,x=.int i/\y=.int j/\C i j/\Q (g i j) H
noncomputable def rR (g:Int->Int->V):R2:=fun x y H Q=>∃ i j,x=.int i/\y=.int j/\Q (g i j) H
noncomputable def rU (g:Int->V):V->Hp->VK->Prop:=fun x H Q=>∃ i,x=.int i/\Q (g i) H
section
variable {X:Cx} {a b c:Expr} {ta tb tc:TE} {pos:Pos}
theorem IS (ha:PE X a ta) (hb:PE X b tb) {pins:List (Addr×Obj)} {s:Shared} {σ:St} {H:Hp} {R:V->V->Hp->Prop} (I:Inv X pins σ H s)
  (h:ta σ H fun x H1=>tb σ H1 fun y H2=>R x y H2) {Q:Value->Shared->Prop} {f:Value->Value->Sem Value}
  (hf:∀ v u s2 x y H2,Inv X pins σ H2 s2->RelV x v->RelV y u->R x y H2->wpAny (model X.prog X.w) X.A (f v u) Q X.xe s2) :
  wpAny (model X.prog X.w) X.A (eval a X.env) (fun v s₁=>wpAny (model X.prog X.w) X.A (eval b X.env) (fun u s₂=>wpAny (model X.prog X.w) X.A (f v u) Q X.xe s₂) X.xe s₁) X.xe s:=by
 refine bz (ha pins s σ H _ I h) fun v s1 ⟨x,H1,I1,r1,q1⟩=>?_
 refine bz (hb pins s1 σ H1 _ I1 q1) fun u s2 ⟨y,H2,I2,r2,q2⟩=>?_
 exact hf v u s2 x y H2 I2 r1 r2 q2
theorem Kz {op:Operator} {r:R2} (ho:fc X (binaryOp op) r) (ha:PE X a ta) (hb:PE X b tb):PE X (.BinOp a op b pos) (E6 r ta tb):=by
 intro pins s σ H Q I h
 exact wpAny_BinOp (IS ha hb I h fun v u s2 x y H2 I2 rx ry q=>ho pins s2 σ H2 x y v u Q I2 rx ry q)
theorem Kv {op:UnaryOp} {r:V->Hp->VK->Prop} (ho:UnR X (unaryOp op) r) (ha:PE X a ta):PE X (.UnaryOp op a pos) (tUn r ta):=by
 intro pins s σ H Q I h
 exact UnaryOp_ (bz (ha pins s σ H _ I h) fun v s1 ⟨x,H1,I1,r1,q1⟩=>ho pins s1 σ H1 x v Q I1 r1 q1)
theorem KO {f:Value->Value->Sem Value} {C:Int->Int->Prop} {g:Int->Int->Int}
  (rule:∀ (i j:Int) (t u:Tok) (s:Shared) (Q:Value->Shared->Prop) (E:Value->Shared->Prop),C i j->Q (.int (g i j) s.toks) { s with toks:=s.toks+1 }->wpAny (model X.prog X.w) X.A (f (.int i t) (.int j u)) Q E s) :
  fc X f (rI C fun i j=>.int (g i j)):=by
 intro pins s σ H x y v u Q I rx ry h
 obtain ⟨i,j,rfl,rfl,hc,q⟩:=h
 obtain ⟨t,rfl⟩:=rx
 obtain ⟨t',rfl⟩:=ry
 exact rule i j t t' s _ _ hc ⟨.int (g i j),H,I.tok _,⟨_,rfl⟩,q⟩
theorem KN {f:Value->Value->Sem Value} {g:Int->Int->Int}
  (rule:∀ (i j:Int) (t u:Tok) (s:Shared) (Q:Value->Shared->Prop) (E:Value->Shared->Prop),Q (.int (g i j) s.toks) { s with toks:=s.toks+1 }->wpAny (model X.prog X.w) X.A (f (.int i t) (.int j u)) Q E s) :
  fc X f (rR fun i j=>.int (g i j)):=by
 intro pins s σ H x y v u Q I rx ry h
 obtain ⟨i,j,rfl,rfl,q⟩:=h
 obtain ⟨t,rfl⟩:=rx
 obtain ⟨t',rfl⟩:=ry
 exact rule i j t t' s _ _ ⟨.int (g i j),H,I.tok _,⟨_,rfl⟩,q⟩
theorem Cc {f:Value->Value->Sem Value} {g:Int->Int->Bool}
  (rule:∀ (i j:Int) (t u:Tok) (s:Shared) (Q:Value->Shared->Prop) (E:Value->Shared->Prop),Q (.bool (g i j)) s->wpAny (model X.prog X.w) X.A (f (.int i t) (.int j u)) Q E s) :
  fc X f (rR fun i j=>.bl (g i j)):=by
 intro pins s σ H x y v u Q I rx ry h
 obtain ⟨i,j,rfl,rfl,q⟩:=h
 obtain ⟨t,rfl⟩:=rx
 obtain ⟨t',rfl⟩:=ry
 exact rule i j t t' s _ _ ⟨.bl (g i j),H,I,rfl,q⟩
noncomputable def MF (i j:Int):Prop:=0<j/\j<1073741824
noncomputable def MD (i j:Int):Prop:=0<=j/\j<=1000000/\i.natAbs<2 ^ 64
noncomputable def DK (i j:Int):Prop:=(-(2 ^ 64)<i/\i<2 ^ 64)\/(-(2 ^ 64)<j/\j<2 ^ 64)
theorem DK.ok {i j:Int} (h:DK i j):IntMulOk i j:=by
 rcases h with ⟨h1,h2⟩ | ⟨h1,h2⟩
 ·exact .of_left (intBits_le_64 h1 h2)
 ·exact .of_right (intBits_le_64 h1 h2)
theorem GK:fc X (binaryOp .Add) (rR fun i j=>.int (i+j)):=KN fun _ _ _ _ _ _ _ q=>add_int q
theorem Gv:fc X (binaryOp .Sub) (rR fun i j=>.int (i-j)):=KN fun _ _ _ _ _ _ _ q=>sub_int q
theorem GB:fc X (binaryOp .Mult) (rI DK fun i j=>.int (i*j)):=KO fun _ _ _ _ _ _ _ hc q=>mul_int q hc.ok
theorem B9:fc X (binaryOp .FloorDiv) (rI MF fun i j=>.int (i / j)):=KO fun i j _ _ _ _ _ hc q=>by
 have h1:(0:Int)<j:=hc.1
 have h2:j<1073741824:=hc.2
 exact floordiv_int (by omega) (by rw [Int.fdiv_eq_ediv_of_nonneg i (by omega)];exact q) (.inl (PyProof.noPylong_small (by omega)))
theorem GC:fc X (binaryOp .Mod) (rI (fun _ j=>0<j) fun i j=>.int (i % j)):=KO fun i j _ _ _ _ _ hc q=>by
 have h1:(0:Int)<j:=hc
 exact mod_int' (by omega) (by rw [Int.fmod_eq_emod_of_nonneg i (by omega)];exact q)
theorem Gw:fc X (binaryOp .Pow) (rI MD fun i j=>.int (i ^ j.toNat)):=KO fun _ _ _ _ _ _ _ hc q=>pow_int_small hc.1 hc.2.1 hc.2.2 q
theorem unI {f:Value->Sem Value} {g:Int->Int}
  (rule:∀ (i:Int) (t:Tok) (s:Shared) (Q:Value->Shared->Prop) (E:Value->Shared->Prop),Q (.int (g i) s.toks) { s with toks:=s.toks+1 }->wpAny (model X.prog X.w) X.A (f (.int i t)) Q E s) :
  UnR X f (rU fun i=>.int (g i)):=by
 intro pins s σ H x v Q I rx h
 obtain ⟨i,rfl,q⟩:=h
 obtain ⟨t,rfl⟩:=rx
 exact rule i t s _ _ ⟨.int (g i),H,I.tok _,⟨_,rfl⟩,q⟩
theorem E0:UnR X (unaryOp .USub) (rU fun i=>.int (-i)):=unI fun _ _ _ _ _ q=>neg_int q
end
noncomputable def J3:V->V->Bool
 | .ai,.ai=>true | .ai,.int _=>true | .int _,.ai=>true | .ai,.bl _=>true | .bl _,.ai=>true | .ai,.str _=>true | .str _,.ai=>true
 | .int _,.int _=>true | .bl _,.bl _=>true | .str _,.str _=>true | .xw _,.xw _=>true
 | .int _,.str _=>true | .str _,.int _=>true | .bl _,.str _=>true | .str _,.bl _=>true
 | _,_=>false
noncomputable def rEq:R2:=fun x y H Q=>J3 x y=true/\Q (.bl (decide (x=y))) H
noncomputable def rNe:R2:=fun x y H Q=>J3 x y=true/\Q (.bl (!decide (x=y))) H
theorem vj {i j:Int}:decide (V.int i=V.int j)=(i == j):=by
 rw [Bool.eq_iff_iff]
 simp
theorem oX {i j:Bool}:decide (V.bl i=V.bl j)=(i == j):=by
 rw [Bool.eq_iff_iff]
 simp
theorem vh {i j:Str}:decide (V.str i=V.str j)=(i == j):=by
 rw [Bool.eq_iff_iff]
 simp
theorem vm {i j:Array UInt8}:decide (V.xw i=V.xw j)=(i.toList == j.toList):=by
 rw [Bool.eq_iff_iff]
 cases i
 cases j
 simp
section
variable {X:Cx} {a b c:Expr} {ta tb tc:TE} {pos:Pos}
theorem aF {pins:List (Addr×Obj)} {σ:St} {H:Hp} {s:Shared} {Q:VK} {k k':Bool} (I:Inv X pins σ H s) (q:Q (.bl k) H) (e:k=k'):EP X pins σ Q (.bool k') s:=by
 subst e
 exact ⟨.bl k,H,I,rfl,q⟩
theorem KL:fc X (compareOp .Eq) rEq:=by
 intro pins s σ H x y v u Q I rx ry h
 obtain ⟨hs,q⟩:=h
 cases x with
 | ai =>
  cases rx
  cases y with
  | ai=>cases ry;exact PySem.EqNone.eq_none_none (aF I q (by simp))
  | bl j=>cases ry;exact PySem.EqNone.eq_none_bool (aF I q (by simp))
  | int j=>obtain ⟨t',rfl⟩:=ry;exact PySem.EqNone.eq_none_int (aF I q (by simp))
  | str j=>obtain ⟨t',rfl⟩:=ry;exact PySem.EqNone.eq_none_str (aF I q (by simp))
  | _=>exact absurd (show false=true from hs) Bool.false_ne_true
 | bl i =>
  cases rx
  cases y with
  | ai=>cases ry;exact PySem.EqNone.eq_bool_none (aF I q (by simp))
  | bl j=>cases ry;exact eq_bool (aF I q oX)
  | str j=>obtain ⟨t',rfl⟩:=ry;exact PySem.EqMixed.eq_bool_str (aF I q (by simp))
  | _=>exact absurd (show false=true from hs) Bool.false_ne_true
 | int i =>
  obtain ⟨t,rfl⟩:=rx
  cases y with
  | ai=>cases ry;exact PySem.EqNone.eq_int_none (aF I q (by simp))
  | int j=>obtain ⟨t',rfl⟩:=ry;exact eq_int (aF I q vj)
  | str j=>obtain ⟨t',rfl⟩:=ry;exact PySem.EqMixed.eq_int_str (aF I q (by simp))
  | _=>exact absurd (show false=true from hs) Bool.false_ne_true
 | str i =>
  obtain ⟨t,rfl⟩:=rx
  cases y with
  | ai=>cases ry;exact PySem.EqNone.eq_str_none (aF I q (by simp))
  | bl j=>cases ry;exact PySem.EqMixed.eq_str_bool (aF I q (by simp))
  | int j=>obtain ⟨t',rfl⟩:=ry;exact PySem.EqMixed.eq_str_int (aF I q (by simp))
  | str j=>obtain ⟨t',rfl⟩:=ry;exact eq_str (aF I q vh)
  | _=>exact absurd (show false=true from hs) Bool.false_ne_true
 | xw i =>
  obtain ⟨t,rfl⟩:=rx
  cases y with
  | xw j=>obtain ⟨t',rfl⟩:=ry;exact PySem.W.eq_bytes (aF I q vm)
  | _=>exact absurd (show false=true from hs) Bool.false_ne_true
 | _=>cases y <;> exact absurd (show false=true from hs) Bool.false_ne_true
theorem KD:fc X (compareOp .NotEq) rNe:=by
 intro pins s σ H x y v u Q I rx ry h
 obtain ⟨hs,q⟩:=h
 cases x with
 | ai =>
  cases rx
  cases y with
  | ai=>cases ry;exact PySem.EqNone.ne_none_none (aF I q (by simp))
  | bl j=>cases ry;exact PySem.EqNone.ne_none_bool (aF I q (by simp))
  | int j=>obtain ⟨t',rfl⟩:=ry;exact PySem.EqNone.ne_none_int (aF I q (by simp))
  | str j=>obtain ⟨t',rfl⟩:=ry;exact PySem.EqNone.ne_none_str (aF I q (by simp))
  | _=>exact absurd (show false=true from hs) Bool.false_ne_true
 | bl i =>
  cases rx
  cases y with
  | ai=>cases ry;exact PySem.EqNone.ne_bool_none (aF I q (by simp))
  | bl j=>cases ry;exact ne_bool (aF I q (congrArg not oX))
  | str j=>obtain ⟨t',rfl⟩:=ry;exact PySem.EqMixed.ne_bool_str (aF I q (by simp))
  | _=>exact absurd (show false=true from hs) Bool.false_ne_true
 | int i =>
  obtain ⟨t,rfl⟩:=rx
  cases y with
  | ai=>cases ry;exact PySem.EqNone.ne_int_none (aF I q (by simp))
  | int j=>obtain ⟨t',rfl⟩:=ry;exact ne_int (aF I q (congrArg not vj))
  | str j=>obtain ⟨t',rfl⟩:=ry;exact PySem.EqMixed.ne_int_str (aF I q (by simp))
  | _=>exact absurd (show false=true from hs) Bool.false_ne_true
 | str i =>
  obtain ⟨t,rfl⟩:=rx
  cases y with
  | ai=>cases ry;exact PySem.EqNone.ne_str_none (aF I q (by simp))
  | bl j=>cases ry;exact PySem.EqMixed.ne_str_bool (aF I q (by simp))
  | int j=>obtain ⟨t',rfl⟩:=ry;exact PySem.EqMixed.ne_str_int (aF I q (by simp))
  | str j=>obtain ⟨t',rfl⟩:=ry;exact ne_str (aF I q (congrArg not vh))
  | _=>exact absurd (show false=true from hs) Bool.false_ne_true
 | xw i =>
  obtain ⟨t,rfl⟩:=rx
  cases y with
  | xw j=>obtain ⟨t',rfl⟩:=ry;exact PySem.W.ne_bytes (aF I q (congrArg not vm))
  | _=>exact absurd (show false=true from hs) Bool.false_ne_true
 | _=>cases y <;> exact absurd (show false=true from hs) Bool.false_ne_true
theorem KG:fc X (compareOp .Lt) (rR fun i j=>.bl (decide (i<j))):=Cc fun _ _ _ _ _ _ _ q=>lt_int q
theorem KH:fc X (compareOp .LtE) (rR fun i j=>.bl (decide (i<=j))):=Cc fun _ _ _ _ _ _ _ q=>le_int q
theorem KI:fc X (compareOp .Gt) (rR fun i j=>.bl (decide (j<i))):=Cc fun _ _ _ _ _ _ _ q=>gt_int q
theorem KJ:fc X (compareOp .GtE) (rR fun i j=>.bl (decide (j<=i))):=Cc fun _ _ _ _ _ _ _ q=>ge_int q
theorem GD:fc X (compareOp .Is) (fun x y H Q=>y=.ai/\Q (.bl (decide (x=.ai))) H):=by
 intro pins s σ H x y v u Q I rx ry h
 obtain ⟨rfl,q⟩:=h
 cases ry
 refine is_none_gen (aF I q ?_)
 cases x <;> first
  | (cases rx;rfl)
  | (obtain ⟨t,rfl⟩:=rx;rfl)
theorem B6:fc X (compareOp .IsNot) (fun x y H Q=>y=.ai/\Q (.bl (!decide (x=.ai))) H):=by
 intro pins s σ H x y v u Q I rx ry h
 obtain ⟨rfl,q⟩:=h
 cases ry
 refine isnot_none_gen (aF I q ?_)
 cases x <;> first
  | (cases rx;rfl)
  | (obtain ⟨t,rfl⟩:=rx;rfl)
theorem fc.or {f:Value->Value->Sem Value} {r r':R2} (h:fc X f r) (h':fc X f r'):fc X f (fun x y H Q=>r x y H Q\/r' x y H Q):=by
 intro pins s σ H x y v u Q I rx ry q
 rcases q with q | q
 ·exact h pins s σ H x y v u Q I rx ry q
 ·exact h' pins s σ H x y v u Q I rx ry q
theorem B0 {op:CmpOp} {r:R2} (ho:fc X (compareOp op) r) (ha:PE X a ta) (hb:PE X b tb) (hm:behindInMarks op b=false):PE X (.Compare a [op] [b] pos) (E6 r ta tb):=by
 intro pins s σ H Q I h
 exact wpAny_Compare1 (IS ha hb I h fun v u s2 x y H2 I2 rx ry q=>ho pins s2 σ H2 x y v u Q I2 rx ry q) hm
noncomputable def JJ (t:TE):TT:=fun σ H Q=>t σ H fun x H'=>∃ k,x=.bl k/\Q k H'
theorem BO {op:CmpOp} {r:R2} (ho:fc X (compareOp op) r) (ha:PE X a ta) (hb:PE X b tb) (hm:behindInMarks op b=false):PT X (.Compare a [op] [b] pos) (JJ (E6 r ta tb)):=by
 intro pins s σ H Q I h
 refine wpAny_isTrue_Compare1 (bz (ha pins s σ H _ I h) fun v s1 ⟨x,H1,I1,r1,q1⟩=>bz (hb pins s1 σ H1 _ I1 q1) fun u s2 ⟨y,H2,I2,r2,q2⟩ =>
  bz (ho pins s2 σ H2 x y v u _ I2 r1 r2 q2) fun c s3 ⟨z,H3,I3,r3,k,e,q3⟩=>?_) hm
 subst e
 cases r3
 exact wpAny_truthy_bool ⟨H3,I3,q3⟩
theorem jf:(sizeLine:Nat)<2 ^ 63:=by rw [sizeLine_eq];decide
theorem rY:fc X (binaryOp .Add) (fun x y H Q=>∃ i j,x=.str i/\y=.str j/\i.length+j.length<=sizeLine/\Q (.str (i++j)) H):=by
 intro pins s σ H x y v u Q I rx ry h
 obtain ⟨i,j,rfl,rfl,hz,q⟩:=h
 obtain ⟨t,rfl⟩:=rx
 obtain ⟨t',rfl⟩:=ry
 exact add_str (fun t' tk=>⟨.str (i++j),H,I.tok _,⟨_,rfl⟩,q⟩) hz
theorem vals1 {x:V} {us:List Value} (r:Vals [x] us):∃ u,us=[u]/\RelV x u:=by
 cases r with
 | cons r1 r2=>cases r2;exact ⟨_,rfl,r1⟩
theorem vals2 {x y:V} {us:List Value} (r:Vals [x,y] us):∃ u w',us=[u,w']/\RelV x u/\RelV y w':=by
 cases r with
 | cons r1 r2 =>
  cases r2 with
  | cons r3 r4=>cases r4;exact ⟨_,_,rfl,r1,r3⟩
theorem wR (hc:X.calm=true):dg X (.builtin "max") (fun xs H Q=>∃ i j, xs=[.int i, .int j]/\Q (.int (if j > i then j else i)) H):=by
 intro pins s σ H xs us Q I r h
 obtain ⟨i,j,rfl,q⟩:=h
 obtain ⟨u,w',rfl,⟨t,rfl⟩,⟨t',rfl⟩⟩:=vals2 r
 refine max_two_ints (I.ok.hd hc) fun h' tk k=>⟨_,H,I.kept k,?_,q⟩
 by_cases hj:j > i
 ·rw [if_pos hj,if_pos hj];exact ⟨_,rfl⟩
 ·rw [if_neg hj,if_neg hj];exact ⟨_,rfl⟩
theorem wQ (hc:X.calm=true):dg X (.builtin "min") (fun xs H Q=>∃ i j, xs=[.int i, .int j]/\Q (.int (if j<i then j else i)) H):=by
 intro pins s σ H xs us Q I r h
 obtain ⟨i,j,rfl,q⟩:=h
 obtain ⟨u,w',rfl,⟨t,rfl⟩,⟨t',rfl⟩⟩:=vals2 r
 refine min_two_ints (I.ok.hd hc) fun h' tk k=>⟨_,H,I.kept k,?_,q⟩
 by_cases hj:j<i
 ·rw [if_pos hj,if_pos hj];exact ⟨_,rfl⟩
 ·rw [if_neg hj,if_neg hj];exact ⟨_,rfl⟩
end
structure tO (h:Heap) (x dx C:Addr) (mA:Str->Option Value):Prop where
 obj:h.get? x=some (PySem.W.instObj C dx)
 ns:h.Ns1 dx mA
 ne:dx≠x
theorem wu {h:Heap} {dx:Addr} {mA:Str->Option Value} (n:h.Ns1 dx mA):∃ od,h.get? dx=some od/\∀ name,PySem.W.lookIn name od=some (mA name):=by
 obtain ⟨o,es,ep,ho,hd,hk,_,hm⟩:=n
 refine ⟨o,ho,fun name=>?_⟩
 have e:=hm name
 unfold nsFind findBy at e
 rw [<- Array.find?_toList] at e
 unfold PySem.W.lookIn
 rw [hd]
 dsimp only
 split
 ·rename_i y q
  rw [q] at e
  exact congrArg some e
 ·rename_i q
  rw [q] at e
  have a:es.toList.any (·.refKey)=false:=by
   rw [List.any_eq_false]
   intro y hy
   obtain ⟨z,t,hkey⟩:=hk y (Array.mem_toList_iff.mp hy)
   simp [DictEntry.refKey,hkey]
  have a':¬ es.toList.any (·.refKey)=true:=by rw [a];exact Bool.false_ne_true
  rw [if_neg a']
  exact congrArg some e
theorem tO.look {h:Heap} {x dx C:Addr} {mA:Str->Option Value} (I:tO h x dx C mA):∃ od,PySem.W.InstAt h x (PySem.W.instObj C dx) C (some od)/\∀ name,PySem.W.lookIn name od=some (mA name) :=
 let ⟨od,ho,hl⟩:=wu I.ns
 ⟨od,⟨I.obj,rfl,rfl,ho⟩,hl⟩
section
variable {prog:Program} {w:World} {A:Around} {E:Value->Shared->Prop} {s:Shared} {K:PySem.W.Frag} {x dx C f:Addr} {mA:Str->Option Value} {name:Str} {v:Value}
theorem get_map {expr:Bool} {Q:Value->Shared->Prop} (X:K.In s.heap) (I:tO s.heap x dx C mA) (hg:PySem.W.plainGet K C name=true) (hh:PySem.W.hasDictIn K C=true)
  (ha:PySem.W.findIn K (.ref C) name=some none) (hv:mA name=some v) (hv':PySem.W.handedIn v=true) (h:Q v { s with toks:=s.toks+1 }) :
  wpAny (model prog w) A (getAttr (.ref x) name expr) Q E s:=by
 obtain ⟨od,J,hl⟩:=I.look
 exact PySem.W.get_value X J (PySem.W.plainGet_of hg).1 (PySem.W.findObj_own hh ha rfl (by rw [hl,hv])) hv' h
theorem zK {pl:Sem Bool} {Q:Value×List Value->Shared->Prop} (X:K.In s.heap) (I:tO s.heap x dx C mA) (hg:PySem.W.plainGet K C name=true)
  (hf:PySem.W.findIn K (.ref C) name=some (some (.ref f))) (ht:PySem.W.isFn K (.ref f)=true) (hv:mA name=none) (h:Q (.ref f,[.ref x]) s) :
  wpAny (model prog w) A (getMethod (.ref x) name pl) Q E s:=by
 obtain ⟨od,J,hl⟩:=I.look
 exact PySem.W.method_fn X J (PySem.W.plainGet_of hg).1 (PySem.W.plainGet_of hg).2 hf (beq_iff_eq.mp ht) (by show (PySem.W.lookIn name od).map (·.isSome)=some false;rw [hl,hv];rfl) h
theorem BD {ns:List Str} {Q:Unit->Shared->Prop} (X:K.In s.heap) (I:tO s.heap x dx C mA)
  (hs:PySem.W.findIn K (.ref C) "__setattr__" = some (some (.builtin "object.__setattr__"))) (hp:PySem.W.plainOver K C=true) (ht:PySem.W.takerIn K C name=some none) (hh:PySem.W.hasDictIn K C=true)
  (hw:PySem.Within mA ns) (hsz:ns.length<=sizeLine)
  (h:∀ h',tO h' x dx C (fun y=>if y=name then some v else mA y)->Heap.SameBut dx s.heap h'->Q () { s with heap:=h',toks:=s.toks+2 }) :
  wpAny (model prog w) A (setAttr (.ref x) name v) Q E s:=by
 obtain ⟨od,J,hl⟩:=I.look
 refine PySem.W.set_plain X J hs (PySem.W.osa_open (s:={ s with toks:=s.toks+1 }) (r:=none) X J hp ht fun b=>?_)
 obtain ⟨cd,hc,hd'⟩:=PySem.W.any_some hh
 have hx:s.heap.get? x=some ⟨.ref C,some dx,.plain,#[]⟩:=I.obj
 refine wpAny_bind (wpAny_pure (wpAny_bind (wpAny_bind (wpAny_loadPart hx (wpAny_bind (PySem.W.Looks.here (s:={ s with toks:=s.toks+1 }) (PySem.W.looks_clsIn X hc) ?_))))))
 rw [hd']
 refine wpAny_pure (a:=some dx) (wpAny_bind (wpAny_pure (wpAny_bind ?_)))
 refine wpAny_nsSet1 (s:={ s with toks:=s.toks+1 }) I.ns fun h' hn2 hs2=>?_
 obtain ⟨oD,esD,epD,hoD,hdD,hcD⟩:=hn2.count (PySem.Within.cons name v hw)
 refine wpAny_bind (wpAny_lookBehind hoD (by rw [hdD];exact pastItsLine_dict (Nat.le_trans hcD (by rw [List.length_cons];omega))) ?_)
 exact wpAny_pure (h _ ⟨(hs2.2 _ (Ne.symm I.ne)).trans I.obj,hn2,I.ne⟩ hs2)
theorem yW {R:Result->Shared->Prop} {vs:List Value} {kw:List (Str×Value)} (X:K.In s.heap) (hm:PySem.W.makesIn K C=true)
  (hi:PySem.W.findIn K (.ref C) "__init__" = some (some (.ref f))) (hf:PySem.W.typeIn K (.ref f)=some (.type "function"))
  (h:codeAny (model prog w) (A.under (.builtin "type.__call__" ⟨.ref C::vs, kw⟩)) (.call (.ref f) ⟨.ref (s.heap.objs.size+1)::vs, kw⟩) (PySem.W.InitBack (s.heap.objs.size+1) R)
   { s with heap:=(s.heap.push PySem.W.emptyDict).push (PySem.W.instObj C s.heap.objs.size) }) :
  codeAny (model prog w) A (.call (.ref C) ⟨vs,kw⟩) R s:=by
 obtain ⟨hh,g,d,t,os⟩:=s
 exact PySem.W.make_core (PySem.W.makes_of X hm) (PySem.W.looks_findIn X hi) (fun self=>PySem.W.bind_fn X self hf) (.inl rfl) h
end
noncomputable def d9 (f:Str) (v:V):List (Str×V)->List (Str×V)
 | []=>[(f,v)]
 | (g,x)::r=>if g=f then (g,v)::r else (g,x)::d9 f v r
theorem jH (f g:Str) (v:V):∀ fs:List (Str×V),(d9 f v fs).lookup g=if g=f then some v else fs.lookup g
 | []=>by
  show List.lookup g [(f,v)]=_
  by_cases h:g=f
  ·have hb:(g == f)=true:=beq_iff_eq.mpr h
   simp only [List.lookup,hb,if_pos h]
  ·have hb:(g == f)=false:=beq_eq_false_iff_ne.mpr h
   simp only [List.lookup,hb,if_neg h]
 | (k, x)::r=>by
  have ih:=jH f g v r
  rw [show d9 f v ((k,x)::r)=(if k=f then (k,v)::r else (k,x)::d9 f v r) from rfl]
  by_cases hk:k=f
  ·rw [if_pos hk]
   by_cases h:g=k
   ·have hb:(g == k)=true:=beq_iff_eq.mpr h
    simp only [List.lookup,hb,if_pos (h.trans hk)]
   ·have hb:(g == k)=false:=beq_eq_false_iff_ne.mpr h
    simp only [List.lookup,hb,if_neg (fun e:g=f=>h (e.trans hk.symm))]
  ·rw [if_neg hk]
   by_cases h:g=k
   ·have hb:(g == k)=true:=beq_iff_eq.mpr h
    simp only [List.lookup,hb,if_neg (fun e:g=f=>hk (h.symm.trans e))]
   ·have hb:(g == k)=false:=beq_eq_false_iff_ne.mpr h
    simp only [List.lookup,hb]
    exact ih
theorem jg (f:Str) (v:V):∀ fs:List (Str×V),f∈(d9 f v fs).map (·.1)/\∀ g,g∈fs.map (·.1)->g∈(d9 f v fs).map (·.1)
 | []=>⟨by simp [d9],fun g h=>by simp at h⟩
 | (k, x)::r=>by
  obtain ⟨i1,i2⟩:=jg f v r
  rw [show d9 f v ((k,x)::r)=(if k=f then (k,v)::r else (k,x)::d9 f v r) from rfl]
  by_cases hk:k=f
  ·rw [if_pos hk]
   subst hk
   exact ⟨by simp,fun g h=>by simpa using h⟩
  ·rw [if_neg hk]
   refine ⟨?_,fun g h=>?_⟩
   ·rw [List.map_cons]
    exact List.mem_cons_of_mem _ i1
   ·rw [List.map_cons] at h ⊢
    rcases List.mem_cons.mp h with e | e
    ·exact List.mem_cons.mpr (.inl e)
    ·exact List.mem_cons_of_mem _ (i2 g e)
theorem jJ (f:Str) (v:V):∀ fs:List (Str×V),(d9 f v fs).length<=fs.length+1
 | []=>by simp [d9]
 | (k,x)::r=>by
  have ih:=jJ f v r
  rw [show d9 f v ((k,x)::r)=(if k=f then (k,v)::r else (k,x)::d9 f v r) from rfl]
  by_cases hk:k=f
  ·rw [if_pos hk,List.length_cons,List.length_cons];omega
  ·rw [if_neg hk,List.length_cons,List.length_cons];omega
theorem iA.some_of {v:V} {o:Option Value} (r:iA (some v) o):∃ u,o=some u/\RelV v u:=by
 cases o with
 | none=>exact (show False from r).elim
 | some u=>exact ⟨u,rfl,r⟩
theorem iA.none_of {o:Option Value} (r:iA none o):o=none:=by
 cases o with
 | none=>rfl
 | some u=>exact (show False from r).elim
theorem wI {v:V} {u:Value} (r:RelV v u):PySem.W.handedIn u=true:=by
 cases v with
 | ai=>cases (show u=Value.none from r);rfl
 | bl b=>cases (show u=Value.bool b from r);rfl
 | int i=>obtain ⟨t,e⟩:=(show ∃ t,u=Value.int i t from r);cases e;rfl
 | str x=>obtain ⟨t,e⟩:=(show ∃ t,u=Value.str x t from r);cases e;rfl
 | xw b=>obtain ⟨t,e⟩:=(show ∃ t,u=Value.bytes b t from r);cases e;rfl
 | Nt b=>obtain ⟨t,e⟩:=(show ∃ t,u=Value.float b t from r);cases e;rfl
 | ref a=>cases (show u=Value.ref a from r);rfl
 | ty n=>cases (show u=Value.type n from r);rfl
section
variable {P:Program} {w:World} {H H':Hp} {h h':Heap} {a C dx:Addr} {fs fs':List (Str×V)}
theorem n8 (hok:gO P w H h) (e:H a=some (.ins C dx fs)):∃ mA,tO h a dx C mA/\(∀ f,iA (fs.lookup f) (mA f))/\PySem.Within mA (fs.map (·.1))/\fs.length<=1000/\H dx=some (.own a):=by
 obtain ⟨d,z,ne,ob,mA,n,r,q⟩:=(show bD P w H h a (.ins C dx fs) from hok a _ e)
 exact ⟨mA,⟨ob,n,ne⟩,r,q,z,d⟩
end
structure xo (K:PySem.W.Frag) (C:Addr):Prop where
 pg:PySem.W.plainGet K C Str.empty=true
 hd:PySem.W.hasDictIn K C=true
 po:PySem.W.plainOver K C=true
 sa:PySem.W.findIn K (.ref C) "__setattr__" = some (some (.builtin "object.__setattr__"))
theorem xo.get {K:PySem.W.Frag} {C:Addr} (c:xo K C) (f:Str):PySem.W.plainGet K C f=true:=c.pg
noncomputable def eE (K:PySem.W.Frag) (C:Addr) (f:Str):Prop:=PySem.W.findIn K (.ref C) f=some none
theorem eE.JG {K:PySem.W.Frag} {C:Addr} {f:Str} (n:eE K C f):PySem.W.takerIn K C f=some none:=by
 unfold PySem.W.takerIn
 rw [show PySem.W.findIn K (.ref C) f=some none from n]
 rfl
structure Meth (K:PySem.W.Frag) (C:Addr) (m:Str) (f:Addr):Prop where
 at_:PySem.W.findIn K (.ref C) m=some (some (.ref f))
 fn:PySem.W.isFn K (.ref f)=true
 kp:PySem.W.keepIn K (.ref f)=true
section
variable {X:Cx} {pins:List (Addr×Obj)} {σ:St} {H:Hp} {s:Shared} {a C dx:Addr} {fs:List (Str×V)} {f:Str} {v:V} {A:Around} {E:Value->Shared->Prop}
theorem sM {b:Bool} {Q:Value->Shared->Prop} (I:Inv X pins σ H s) (e:H a=some (.ins C dx fs)) (c:xo X.K C) (n:eE X.K C f) (l:fs.lookup f=some v)
  (h:∀ u s',Inv X pins σ H s'->RelV v u->Q u s'):wpAny (model X.prog X.w) A (getAttr (.ref a) f b) Q E s:=by
 obtain ⟨mA,O,r,_,_,_⟩:=n8 I.hok e
 obtain ⟨u,hu,ru⟩:=iA.some_of (v:=v) (o:=mA f) (by rw [<- l];exact r f)
 exact get_map I.ia O (c.get f) c.hd n hu (wI ru) (h u _ (I.tok _) ru)
theorem lC {m:Str} {g:Addr} {pl:Sem Bool} {Q:Value×List Value->Shared->Prop} (I:Inv X pins σ H s) (e:H a=some (.ins C dx fs)) (c:xo X.K C) (k:Meth X.K C m g) (l:fs.lookup m=none)
  (h:Q (.ref g,[.ref a]) s):wpAny (model X.prog X.w) A (getMethod (.ref a) m pl) Q E s:=by
 obtain ⟨mA,O,r,_,_,_⟩:=n8 I.hok e
 have hn:mA m=none:=iA.none_of (by rw [<- l];exact r m)
 exact zK I.ia O (c.get m) k.at_ k.fn hn h
theorem rN {y:V} {u:Value} {Q:Unit->Shared->Prop} (I:Inv X pins σ H s) (e:H a=some (.ins C dx fs)) (c:xo X.K C) (n:eE X.K C f) (hl:fs.length<1000) (ry:RelV y u)
  (h:∀ s',Inv X pins σ (upd H a (.ins C dx (d9 f y fs))) s'->Q () s'):wpAny (model X.prog X.w) A (setAttr (.ref a) f u) Q E s:=by
 obtain ⟨mA,O,r,wi,_,ho⟩:=n8 I.hok e
 have hz:(fs.map (·.1)).length<=sizeLine:=by rw [List.length_map,sizeLine_eq];omega
 refine BD I.ia O c.sa c.po n.JG c.hd wi hz fun h' O' sb=>h _ ?_
 have hd:∃ o,h'.get? dx=some o:=let ⟨o,_,_,e',_⟩:=O'.ns;⟨o,e'⟩
 refine I.write (x:=a) (e:=dx) (by rw [e];exact True.intro) (.inr ho) (fun b q hb z=>(sb.2 b hb).trans z) hd ?_
 refine ⟨by rw [au O.ne];exact ho,?_,O.ne,O'.obj,_,O'.ns,fun g=>?_,fun g hg=>?_⟩
 ·have:=jJ f y fs;omega
 ·show iA ((d9 f y fs).lookup g) (if g=f then some u else mA g)
  rw [jH]
  by_cases q:g=f
  ·rw [if_pos q,if_pos q];exact ry
  ·rw [if_neg q,if_neg q];exact r g
 ·by_cases q:g=f
  ·rw [q];exact (jg f y fs).1
  ·refine (jg f y fs).2 g (wi g fun z=>hg ?_)
   show (if g=f then some u else mA g)=none
   rw [if_neg q];exact z
theorem Inv.made (I:Inv X pins σ H s):Inv X pins σ (upd (upd H s.heap.objs.size (.own (s.heap.objs.size+1))) (s.heap.objs.size+1) (.ins C s.heap.objs.size []))
  { s with heap:=(s.heap.push PySem.W.emptyDict).push (PySem.W.instObj C s.heap.objs.size) }:=by
 have e1:(s.heap.push PySem.W.emptyDict).get? s.heap.objs.size=some PySem.W.emptyDict:=Heap.get?_push_size s.heap rfl
 have e2:((s.heap.push PySem.W.emptyDict).push (PySem.W.instObj C s.heap.objs.size)).get? (s.heap.objs.size+1)=some (PySem.W.instObj C s.heap.objs.size):=by
  have:=Heap.get?_push_size (s.heap.push PySem.W.emptyDict) (o:=PySem.W.instObj C s.heap.objs.size) rfl
  rwa [Heap.size_push] at this
 have e3:(s.heap.push PySem.W.emptyDict).Ns s.heap.objs.size (fun _=>none):=⟨PySem.W.emptyDict,#[],_,e1,rfl,(fun e he=>absurd he (by simp)),fun _=>rfl⟩
 have I1:=I.laid (a:=s.heap.objs.size) (o:=.own (s.heap.objs.size+1)) (h':=s.heap.push PySem.W.emptyDict) (t':=s.toks) (fun b u q=>Heap.get?_push_of_some _ q) (Nat.le_refl _) ⟨_,e1⟩
 refine I1.laid (a:=s.heap.objs.size+1) (o:=.ins C s.heap.objs.size []) (t':=s.toks) (fun b u q=>Heap.get?_push_of_some _ q) (Nat.le_of_eq (Heap.size_push _ _)) ?_
 have ne:s.heap.objs.size≠s.heap.objs.size+1:=Nat.ne_of_lt (Nat.lt_succ_self _)
 refine ⟨by rw [au ne,aD],Nat.zero_le _,ne,e2,fun _=>none,(Heap.Ns1.of_empty e3).at fun o q=>Heap.get?_push_of_some _ q,fun _=>True.intro,fun y hy=>absurd rfl hy⟩
theorem DA {prog:Program} {w:World} {env:Env} {e:Expr} {f:Str} {pos:Pos} {s:Shared} {Q:Value->Shared->Prop} (hb:attributeBase e f env (eval e env)=eval e env)
  (h:wpAny (model prog w) A (eval e env) (fun o s₁=>wpAny (model prog w) A (getAttr o f true) Q E s₁) E s):wpAny (model prog w) A (eval (.Attribute e f pos) env) Q E s :=
 Attribute_any_ h (by rw [arm_eval_Attribute,hb])
end
noncomputable def JS (K:PySem.W.Frag) (ta:TE) (f:Str):TE:=fun σ H Q=>ta σ H fun x H1=>∃ a C dx fs v,x=.ref a/\H1 a=some (.ins C dx fs)/\xo K C/\eE K C f/\fs.lookup f=some v/\Q v H1
noncomputable def J6 (K:PySem.W.Frag) (ta tv:TE) (f:Str):TS:=fun D σ H=>tv σ H fun y H1=>ta σ H1 fun x H2=>∃ a C dx fs,x=.ref a/\H2 a=some (.ins C dx fs)/\xo K C/\eE K C f/\fs.length<1000 /\
 D.nx σ (upd H2 a (.ins C dx (d9 f y fs)))
section
variable {X:Cx} {o e value:Expr} {f:Str} {pos pos' tpos:Pos} {ta tv:TE}
theorem Gp (he:PE X e ta) (hb:attributeBase e f X.env (eval e X.env)=eval e X.env):PE X (.Attribute e f pos) (JS X.K ta f):=by
 intro pins s σ H Q I h
 refine DA hb (bz (he pins s σ H _ I h) fun u s1 ⟨x,H1,I1,rx,a,C,dx,fs,v,ex,ea,c,n,l,q⟩=>?_)
 subst ex
 obtain rfl:u=Value.ref a:=rx
 exact sM I1 ea c n l fun u' s2 I2 ru=>⟨v,H1,I2,ru,q⟩
theorem F6 (ha:PE X o ta) (hv:PE X value tv) (hs:swapsWith value (some (.Attribute o f pos')) pos.line X.env=pure false):PS X (.Assign [.Attribute o f pos'] value pos) (J6 X.K ta tv f):=by
 intro pins s σ H D I h
 refine plainObj_wpAny_Assign_Attribute (bz (hv pins s σ H _ I h) fun u s1 ⟨y,H1,I1,ry,q⟩=>bz (ha pins s1 σ H1 _ I1 q) fun ov s2 ⟨x,H2,I2,rx,a,C,dx,fs,ex,ea,c,n,l,q2⟩=>?_) hs
 subst ex
 obtain rfl:ov=Value.ref a:=rx
 exact rN I2 ea c n l ry fun s3 I3=>⟨σ,_,I3,q2⟩
end
section
variable {X:Cx} {pins:List (Addr×Obj)} {σ:St} {H:Hp} {s:Shared} {A:Around} {E:Value->Shared->Prop} {Q:Value->Shared->Prop} {c:Value} {b:Bool}
end
structure cX (k:Nat) (A:Around):Prop where
 hd:A.handled=none
 dp:A.depth+3*k+5<recursionLimit
 un:A.units+16*k+200<cLine
theorem cX.deeper {k:Nat} {A:Around} (r:cX (k+1) A) (env:Env):cX k (A.deeper env) :=
 ⟨r.hd,by have:=r.dp;show A.depth+1+3*k+5<_;omega,by have:=r.un;show A.units+3+16*k+200<_;omega⟩
theorem sr {A:Around} {C:Addr} {us:List Value} {kw:List (Str×Value)}:(A.under (.builtin "type.__call__" ⟨.ref C::us, kw⟩)).depth=A.depth+1:=by
 first | rfl | simp [Around.under,Code.weight,Code.isCreation,Code.isGuard,Code.isCaller,Code.frames,Code.isFrame,guardIds]
theorem sj {A:Around} {C:Addr} {us:List Value} {kw:List (Str×Value)}:(A.under (.builtin "type.__call__" ⟨.ref C::us, kw⟩)).units=A.units+1:=by
 first | rfl | simp [Around.under,Code.cUnits,Code.frames,Code.isFrame]
theorem cX.make {k:Nat} {A:Around} (r:cX (k+1) A) (C:Addr) (us:List Value) (kw:List (Str×Value)):cX k (A.under (.builtin "type.__call__" ⟨.ref C::us, kw⟩)) :=
 ⟨r.hd,by have:=r.dp;rw [sr];omega,by have:=r.un;rw [sj];omega⟩
theorem cX.depth {k:Nat} {A:Around} (r:cX k A):A.depth<recursionLimit:=by have:=r.dp;omega
noncomputable def jW:TA:=fun _ H Q=>Q [] H
noncomputable def fL (ta:TE) (tr:TA):TA:=fun σ H Q=>ta σ H fun x H1=>tr σ H1 fun xs H2=>Q (x::xs) H2
section
variable {X:Cx} {e:Expr} {es:List Expr} {te:TE} {t:TA} {pos:Pos}
theorem fm:PA X [] jW:=fun _ _ _ _ H Q I h=>Calls.spliced_nil ⟨[],H,I,.nil,h⟩
theorem b6 (ha:PE X e te) (hr:PA X es t) (hs:starEach (e::es) X.env=(false,eval e X.env)::starEach es X.env:=by rfl):PA X (e::es) (fL te t):=by
 intro pos pins s σ H Q I h
 rw [hs]
 show wpAny _ _ (spliced ((false,eval e X.env)::backTo pos (starEach es X.env))) _ _ s
 refine Calls.spliced_cons (bz (ha pins s σ H _ I h) fun u s1 ⟨x,H1,I1,r1,q1⟩=>?_)
 exact bz (hr pos pins s1 σ H1 _ I1 q1) fun us s2 ⟨xs,H2,I2,r2,q2⟩=>⟨x::xs,H2,I2,.cons r1 r2,q2⟩
noncomputable def JI (t:TA):TE:=fun σ H Q=>t σ H fun xs H1=>xs.length<=sizeLine/\∀ p,H1 p=none->Q (.ref p) (upd H1 p (.tup xs))
noncomputable def JO (t:TA):TE:=fun σ H Q=>t σ H fun xs H1=>xs.length<=sizeLine/\∀ p,H1 p=none->Q (.ref p) (upd H1 p (.lst xs))
theorem Ge {x1} (h:PA X es t):PE X (.Tuple es x1 pos) (JI t):=by
 intro pins s σ H Q I hq
 refine wpAny_Tuple_spliced (bz (h pos pins s σ H _ I hq) fun us s1 ⟨xs,H1,I1,r,z,q⟩=>⟨by rw [<- r.length];exact z,?_⟩)
 have hf:H1 s1.heap.objs.size=none:=I1.hok.fresh (Nat.le_refl _)
 refine ⟨.ref s1.heap.objs.size,upd H1 s1.heap.objs.size (.tup xs),I1.laid (t':=s1.toks) (fun b u e=>Heap.get?_push_of_some _ e) (Nat.le_refl _) ?_,rfl,q _ hf⟩
 exact ⟨z,us,r,⟨_,Heap.get?_push_size _ rfl,rfl,_,rfl⟩⟩
theorem Gj (h:PA X es t):PE X (.List es pos) (JO t):=by
 intro pins s σ H Q I hq
 refine wpAny_List_spliced (bz (h pos pins s σ H _ I hq) fun us s1 ⟨xs,H1,I1,r,z,q⟩=>⟨by rw [<- r.length];exact z,?_⟩)
 have hf:H1 s1.heap.objs.size=none:=I1.hok.fresh (Nat.le_refl _)
 refine ⟨.ref s1.heap.objs.size,upd H1 s1.heap.objs.size (.lst xs),I1.laid (t':=s1.toks) (fun b u e=>Heap.get?_push_of_some _ e) (Nat.le_refl _) ?_,rfl,q _ hf⟩
 exact ⟨z,us,0,r,Heap.get?_push_size _ rfl⟩
end
noncomputable abbrev Sp:=List V->Hp->VK->XK->Prop
noncomputable abbrev AH:=List Env->Hp->Shared->XK->Value->Shared->Prop
structure tQ (P:Program) (w:World) (K:PySem.W.Frag) (mg:Str->Option Value) (base:Heap) (A:Around) (outer:List Env) (s:Shared) (H:Hp):Prop where
 frames:A.frames=some outer
 mod:Mod K mg base
 bs:∀ b o,base.get? b=some o->s.heap.get? b=some o/\H b=none
 xx:base.objs.size<=s.heap.objs.size
 ic:s.heap.FunFrames base outer
 AM:∀ b∈frs outer,H b=none
 hok:gO P w H s.heap
 bare:AllBare s.gens
noncomputable def CE (outer:List Env) (P:Program) (w:World) (H:Hp) (s:Shared) (Q:VK) (u:Value) (s':Shared):Prop :=
 ∃ v H',s'.os=s.os/\AllBare s'.gens/\Un (frs outer) [] H H' s.heap s'.heap/\gO P w H' s'.heap/\RelV v u/\Q v H'
noncomputable def CR (CX:AH) (outer:List Env) (P:Program) (w:World) (H:Hp) (s:Shared) (Q:VK) (E:XK) (r:Result) (s':Shared):Prop :=
 match r with
 | .ok (.ret u)=>CE outer P w H s Q u s'
 | .ok _=>False
 | .error e=>CX outer H s E e s'
structure cS (P:Program) (w:World) (K:PySem.W.Frag) (mg:Str->Option Value) (base:Heap) (CX:AH) (k:Nat) (f:Addr) (fd:FuncData) (ps:List Str) (sp:Sp):Prop where
 len:∀ vs H Q E,sp vs H Q E->vs.length=ps.length
 run:∀ (A:Around) (outer:List Env) (s:Shared) (H:Hp) (args:Args) (us:List Value) (vs:List V) (Q:VK) (E:XK),cX k A->tQ P w K mg base A outer s H->BindsTo s fd args (ps.zip us)->Vals vs us->sp vs H Q E ->
  codeAny (model P w) A (.call (.ref f) args) (CR CX outer P w H s Q E) s
theorem cS.imp {P:Program} {w:World} {K:PySem.W.Frag} {mg:Str->Option Value} {base:Heap} {CX:AH} {k:Nat} {f:Addr} {fd:FuncData} {ps:List Str} {sp sp':Sp} (F:cS P w K mg base CX k f fd ps sp)
  (h:∀ vs H Q E,sp' vs H Q E->sp vs H Q E):cS P w K mg base CX k f fd ps sp' :=
 ⟨fun vs H Q E q=>F.len vs H Q E (h _ _ _ _ q),fun A outer s H args us vs Q E hr he hb hv hs=>F.run A outer s H args us vs Q E hr he hb hv (h _ _ _ _ hs)⟩
theorem tQ.make {P:Program} {w:World} {K:PySem.W.Frag} {mg:Str->Option Value} {base:Heap} {A:Around} {outer:List Env} {s:Shared} {H:Hp} (e:tQ P w K mg base A outer s H) (C:Addr) (us:List Value) (kw:List (Str×Value)) :
  tQ P w K mg base (A.under (.builtin "type.__call__" ⟨.ref C::us, kw⟩)) outer s H:=⟨by first | exact e.frames | (simpa [Around.under, Code.envs, Code.isFrame, pushEnvs] using e.frames), e.mod, e.bs, e.xx, e.ic, e.AM, e.hok, e.bare⟩
section
variable {X:Cx} {pins:List (Addr×Obj)} {σ:St} {H:Hp} {s s':Shared}
theorem Inv.lN (I:Inv X pins σ H s):tQ X.prog X.w X.K X.mg X.base X.A X.stack s H :=
 ⟨I.ok.frames,I.ok.mod,I.bs,Nat.le_trans I.ok.xx I.sz,I.stack,I.gx,I.hok,I.bare⟩
theorem Inv.after {Q:VK} {u:Value} (I:Inv X pins σ H s) (h:CE X.stack X.prog X.w H s Q u s'):EP X pins σ Q u s':=by
 obtain ⟨v,H',os,bare,un,hok,r,q⟩:=h
 obtain ⟨hh,g,d,t,os'⟩:=s'
 obtain rfl:os'=s.os:=os
 exact ⟨v,H',I.call (h':=hh) (g':=g) (d':=d) (t':=t) (ch:=[]) un hok bare (fun b z=>absurd z (by simp)),r,q⟩
end
noncomputable def Binds (K:PySem.W.Frag) (fd:FuncData) (ps:List Str) (ds:List Value):Prop :=
 ∀ (s:Shared) (us:List Value),K.In s.heap->(us++ds).length=ps.length->BindsTo s fd ⟨us,[]⟩ (ps.zip (us++ds))
theorem Binds.all {K:PySem.W.Frag} {fd:FuncData} {ps:List Str} (h:∀ us:List Value,us.length=ps.length->bindArgs fd ⟨us,[]⟩=pure (ps.zip us)):Binds K fd ps []:=fun s us _ hl=>by
 rw [List.append_nil] at hl ⊢
 exact .of_eq (h us hl)
section
variable {X:Cx} {CX:AH} {k:Nat} {f C:Addr} {fd:FuncData} {ps:List Str} {sp:Sp} {dvs:List V} {ds:List Value} {E:XK} {x m:Str} {p pos apos:Pos} {e o:Expr} {es:List Expr} {ta:TE} {t:TA}
structure Mk (K:PySem.W.Frag) (C f:Addr):Prop where
 makes:PySem.W.makesIn K C=true
 init:PySem.W.findIn K (.ref C) "__init__" = some (some (.ref f))
 fn:PySem.W.isFn K (.ref f)=true
 kp:PySem.W.keepIn K (.ref C)=true
end
section
variable {X:Cx} {CX:AH} {k:Nat} {f C:Addr} {fd:FuncData} {ps ks:List Str} {sp:Sp} {E:XK} {x m:Str} {p pos apos kpos:Pos} {e o:Expr} {es:List Expr} {kws:List Keyword} {te ta:TE} {t tk:TA} {nm:Option Str}
variable {g:List Value->List Value->List Value} {gV:List V->List V->List V}
end
structure d7 (N P:List Str) (sc:Scope):Prop where
 kind:sc.kind=.function
 co:sc.isCoroutine=false
 gen:sc.isGenerator=false
 nd:N.Nodup
 pre:N.take P.length=P
 par:∀ x∈P,sc.names.lookup x=some .local\/sc.names.lookup x=some .cell
 GQ:∀ y∈sc.names,y.2≠.free
theorem nC {kindOf:Str->Option NameKind} {x:Str}:∀ {binds:List (Str×Value)} {m:Str->Option Value},(∀ v,(x,v)∉binds)->bindL kindOf binds m x=m x
 | [],_,_=>rfl
 | (n, v)::r, m, h=>by
  unfold bindL
  rw [nC fun w hw=>h w (List.mem_cons_of_mem _ hw)]
  split
  ·have:x≠n:=by rintro rfl;exact h v List.mem_cons_self
   simp [this]
  ·rfl
theorem nG {kindOf:Str->Option NameKind} {x:Str}:∀ {binds:List (Str×Value)} {m:Str->Option Value},(∀ v,(x,v)∉binds)->bindC kindOf binds m x=m x
 | [],_,_=>rfl
 | (n, v)::r, m, h=>by
  unfold bindC
  rw [nG fun w hw=>h w (List.mem_cons_of_mem _ hw)]
  split
  ·rfl
  ·have:x≠n:=by rintro rfl;exact h v List.mem_cons_self
   simp [this]
theorem nE {kindOf:Str->Option NameKind} {x:Str} {v:Value}:∀ {P:List Str} {vs:List Value} {i:Nat} {m:Str->Option Value},P.Nodup->P[i]? = some x->vs[i]? = some v->kindOf x=some .local ->
  bindL kindOf (P.zip vs) m x=some v
 | [],_,_,_,_,h,_,_=>by simp at h
 | _::_,[],_,_,_,_,h,_=>by simp at h
 | p::P,w::vs,0,m,nd,h1,h2,hk=>by
  simp at h1 h2;subst h1;subst h2
  show bindL kindOf ((p,w)::P.zip vs) m p=_
  unfold bindL
  rw [nC fun v hv=>(List.nodup_cons.mp nd).1 (List.of_mem_zip hv).1,if_pos hk]
  simp
 | p::P,w::vs,i+1,m,nd,h1,h2,hk=>by
  show bindL kindOf ((p,w)::P.zip vs) m x=_
  unfold bindL
  exact nE (i:=i) (List.nodup_cons.mp nd).2 (by simpa using h1) (by simpa using h2) hk
theorem nH {kindOf:Str->Option NameKind} {x:Str} {v:Value}:∀ {P:List Str} {vs:List Value} {i:Nat} {m:Str->Option Value},P.Nodup->P[i]? = some x->vs[i]? = some v->kindOf x≠some .local ->
  bindC kindOf (P.zip vs) m x=some v
 | [],_,_,_,_,h,_,_=>by simp at h
 | _::_,[],_,_,_,_,h,_=>by simp at h
 | p::P,w::vs,0,m,nd,h1,h2,hk=>by
  simp at h1 h2;subst h1;subst h2
  show bindC kindOf ((p,w)::P.zip vs) m p=_
  unfold bindC
  rw [nG fun v hv=>(List.nodup_cons.mp nd).1 (List.of_mem_zip hv).1,if_neg hk]
  simp
 | p::P,w::vs,i+1,m,nd,h1,h2,hk=>by
  show bindC kindOf ((p,w)::P.zip vs) m x=_
  unfold bindC
  exact nH (i:=i) (List.nodup_cons.mp nd).2 (by simpa using h1) (by simpa using h2) hk
noncomputable def start (N:List Str) (vs:List V):St:=vs.map some++List.replicate (N.length-vs.length) none
noncomputable def i6 (CX:AH) (P:Program) (w:World) (K:PySem.W.Frag) (mg:Str->Option Value) (base:Heap) (N:List Str) (qual:Str) (scope:Scope) (f:Addr) (cd:Value) (A:Around) (outer:List Env) (s:Shared) (H:Hp) (E:XK):Cx where
 prog:=P
 w:=w
 K:=K
 mg:=mg
 base:=base
 A:=A.deeper (envOfC qual scope s.heap.objs.size f cd)
 N:=N
 s₀:=s
 H₀:=H
 env:=envOfC qual scope s.heap.objs.size f cd
 outer:=outer
 stack:=envOfC qual scope s.heap.objs.size f cd::outer
 ex:=[]
 calm:=true
 fn:=fun _=>true
 pn:=[]
 xe:=fun e s'=>wpAny (model P w) (A.deeper (envOfC qual scope s.heap.objs.size f cd)) (leaving (envOfC qual scope s.heap.objs.size f cd) e) (fun _ s''=>CX outer H s E e s'') (fun e' s''=>CX outer H s E e' s'') s'
theorem qP {sc:Scope} {n:Nat} {x:Str} (h:sc.names.lookup x=some .cell):∃ c,(cellsFrom n sc.names []).lookup x=some c:=by
 have q:=PySem.W.cellsFrom_some sc.names n [] (.inl h)
 exact Option.isSome_iff_exists.mp q
theorem wF {CX:AH} {P:Program} {w:World} {K:PySem.W.Frag} {mg:Str->Option Value} {base:Heap} {N ps:List Str} {qual:Str} {scope:Scope} {f:Addr} {cd:Value} {A:Around} {outer:List Env} {s s1:Shared} {H:Hp} {E:XK} {us:List Value} {vs:List V}
  (S:d7 N ps scope) (hd:A.handled=none) (e0:tQ P w K mg base A outer s H) (hl:vs.length=ps.length) (r:Vals vs us)
  (x:InCallC s s.heap.objs.size (bindL (envOfC qual scope s.heap.objs.size f cd).kindOf (ps.zip us) fun _=>none) (cellsFrom (s.heap.objs.size+1) scope.names []) (bindC (envOfC qual scope s.heap.objs.size f cd).kindOf (ps.zip us) fun _=>none) s1) :
  Inv (i6 CX P w K mg base N qual scope f cd A outer s H E) [] (start N vs) H s1:=by
 have hpl:ps.length<=N.length:=by have:=congrArg List.length S.pre;rw [List.length_take] at this;omega
 obtain ⟨h1,tk,rfl,hk⟩:=x.done
 have KU:∀ b:Addr,b∉(i6 CX P w K mg base N qual scope f cd A outer s H E).ex:=fun b z=>absurd (show b∈([]:List Addr) from z) (by simp)
 refine ⟨⟨e0.mod,S.kind,rfl,rfl,Nat.le_refl _,fun y z c h1 h2=>?_,fun y hy=>?_,fun y c _ h=>?_,fun _=>hd,Around.frames_deeper e0.frames,.inr ⟨rfl,rfl⟩,fun b z=>absurd z (KU b),e0.bs,e0.xx,fun b _ _=>KU b,fun b z=>absurd z (KU b),e0.ic,e0.AM⟩,
  rfl,e0.bare,Un.kept hk,⟨_,x.toInCall.ns,fun i y v h1 h2 h3=>?_⟩,fun y c h=>⟨_,x.cell y c h⟩,e0.hok.fresh (Nat.le_refl _),fun y c h=>?_,fun p hp=>absurd (show p∈([]:List (Addr×Obj)) from hp) (by simp),e0.hok.kept hk,?_⟩
 ·exact name_of_addr x.apart (PySem.mem_of_lookup h1) (PySem.mem_of_lookup h2)
 ·have hy:scope.names.lookup y=some .cell\/scope.names.lookup y=some .free:=hy
  rcases hy with hy | hy
  ·exact qP hy
  ·exact absurd rfl (S.GQ _ (PySem.mem_of_lookup hy))
 ·exact Nat.le_of_lt (x.above y c (PySem.mem_of_lookup h))
 ·have hi:i<vs.length:=by
   unfold start at h2
   by_cases hi:i<vs.length
   ·exact hi
   ·rw [List.getElem?_append_right (by simpa using hi)] at h2
    rw [List.getElem?_replicate] at h2
    split at h2 <;> cases h2
  have ha:vs[i]? = some v:=by
   unfold start at h2
   rw [List.getElem?_append_left (by simpa using hi),List.getElem?_map] at h2
   cases e:vs[i]? with
   | none=>rw [e] at h2;cases h2
   | some a=>rw [e] at h2;cases h2;rfl
  obtain ⟨u,hu,rv⟩:=r.get ha
  have hp:ps[i]? = some y:=by
   rw [<- S.pre,List.getElem?_take_of_lt (by omega)];exact h1
  have ndP:ps.Nodup:=by rw [<- S.pre];exact S.nd.sublist (List.take_sublist _ _)
  refine ⟨u,rv,?_⟩
  rcases S.par y (List.mem_of_getElem? hp) with k | k
  ·exact .inl ⟨k,nE ndP hp hu k⟩
  ·obtain ⟨c,e⟩:=qP (n:=s.heap.objs.size+1) k
   refine .inr ⟨.inl k,c,e,?_⟩
   have q:=x.cell y c e
   rw [nH ndP hp hu (by show scope.names.lookup y≠_;rw [k];decide)] at q
   exact q
 ·exact e0.hok.fresh (Nat.le_of_lt (x.above y c (PySem.mem_of_lookup h)))
 ·unfold start
  show _=N.length
  rw [List.length_append,List.length_map,List.length_replicate]
  omega
theorem Ey {CX:AH} {P:Program} {w:World} {K:PySem.W.Frag} {mg:Str->Option Value} {base:Heap} {k:Nat} {f:Addr} {name qual:Str} {params:Arguments} {body:List Stmt} {scope:Scope} {dV kV doc pm cdv ct oc:Value} {an od:Option Addr}
  {osl:Array (Option Value)} {N ps:List Str} {sp:Sp} (lk:K.lookup f=some ⟨oc,od,.func (PySem.W.fnOf name qual params body scope dV kV doc pm an cdv ct),osl⟩) (hcd:PySem.W.codeIn K cdv qual=true) (S:d7 N ps scope)
  (len:∀ vs H Q E,sp vs H Q E->vs.length=ps.length)
  (hbody:∀ (A:Around) (outer:List Env) (s:Shared) (H:Hp) (vs:List V) (Q:VK) (E:XK),cX k (A.deeper (envOfC qual scope s.heap.objs.size f cdv))->sp vs H Q E ->
   ∃ t,ku (i6 CX P w K mg base N qual scope f cdv A outer s H E) body t/\t { nx:=fun _ H'=>Q .ai H',rt:=Q } (start N vs) H) :
  cS P w K mg base CX (k+1) f (PySem.W.fnOf name qual params body scope dV kV doc pm an cdv ct) ps sp:=by
 refine ⟨len,fun A outer s H args us vs Q E hr e0 hb r Jl=>?_⟩
 have hl:=len _ _ _ _ Jl
 have KX:K.In s.heap:=e0.mod.CB.keeps fun b o e=>(e0.bs b o e).1
 have lim:s.heap.NoLimit:=e0.mod.nolimit.keeps fun b o e=>(e0.bs b o e).1
 have hkind:∀ y∈ps.zip us,scope.names.lookup y.1=some .local\/(scope.names.lookup y.1=some .cell/\((cellsFrom (s.heap.objs.size+1) scope.names []).lookup y.1).isSome=true):=fun ⟨n,v⟩ hy=>by
  rcases S.par n (List.of_mem_zip hy).1 with q | q
  ·exact .inl q
  ·exact .inr ⟨q,PySem.W.cellsFrom_some _ _ _ (.inl q)⟩
 refine codeAny_call_function hr.depth (KX _ _ lk) rfl S.co S.gen rfl (PySem.W.codeRec_of KX hcd) (hb _ _ _ _ ?_)
 refine wpAny_newFunctionEnv_cells S.kind hkind fun env he s1 x=>?_
 subst he
 refine ⟨lim.keeps x.toInCall.keep,codeAny_func ?_⟩
 obtain ⟨t,ht,hq⟩:=hbody A outer s H vs Q E (hr.deeper _) Jl
 have I:Inv (i6 CX P w K mg base N qual scope f cdv A outer s H E) [] (start N vs) H s1:=wF S hr.hd e0 hl r x
 refine wpAny_mono (ht [] s1 (start N vs) H _ I hq) (fun fl s' hs=>?_) fun e s' hs=>hs
 have fin:∀ {σ':St} {H':Hp} {v:V} {u:Value},Inv (i6 CX P w K mg base N qual scope f cdv A outer s H E) [] σ' H' s'->RelV v u->Q v H'->CE outer P w H s Q u s' :=
  fun {σ' H' v u} J rv q=>⟨v,H',J.os,J.bare,J.base,J.hok,rv,q⟩
 cases fl with
 | ret u =>
  obtain ⟨v,σ',H',J,rv,q⟩:=hs
  exact fin J rv q
 | next =>
  obtain ⟨σ',H',J,q⟩:=hs
  exact fin (v:=V.ai) (u:=Value.none) J rfl q
 | brk =>
  obtain ⟨_,_,_,q⟩:=hs
  exact False.elim q
 | cont =>
  obtain ⟨_,_,_,q⟩:=hs
  exact False.elim q
section
variable {X:Cx} {x:Str} {p pos:Pos} {e:Expr} {es:List Expr} {t:TA} {id T:String} {r:List V->Hp->VK->Prop}
noncomputable def E7 (r:List V->Hp->VK->Prop) (t:TA):TE:=fun σ H Q=>t σ H fun vs H1=>r vs H1 Q
theorem gg (hc:dg X (.builtin id) r) (hg:Gl X x) (hm:X.mg x=none) (hv:bootBuiltins x=some (.builtin id)) (ha:PA X (e::es) t) (hn:x≠"__name__":=by decide) (hdb:(x == ("__debug__" : Str))=false:=by decide)
  (he:starEach (e::es) X.env=(false,eval e X.env)::starEach es X.env:=by rfl) (hpl:(backTo pos (starEach es X.env)).any (·.1)=false:=by rfl):PE X (.Call (.Name x p) (e::es) [] pos) (E7 r t):=by
 intro pins s σ H Q I h
 refine wpAny_Call_Name_kw (g9 I hg hm hv ?_ hn hdb)
 exact PyProof.Rows.callWith_builtin1 (bz (ha pos pins s σ H _ I h) fun us s1 ⟨vs,H1,I1,r1,q1⟩=>hc pins s1 σ H1 vs us Q I1 r1 q1) he hpl
theorem mY (hc:dg X (.type T) r) (hg:Gl X x) (hm:X.mg x=none) (hv:bootBuiltins x=some (.type T)) (ha:PA X (e::es) t) (hn:x≠"__name__":=by decide) (hdb:(x == ("__debug__" : Str))=false:=by decide)
  (he:starEach (e::es) X.env=(false,eval e X.env)::starEach es X.env:=by rfl) (hpl:(backTo pos (starEach es X.env)).any (·.1)=false:=by rfl):PE X (.Call (.Name x p) (e::es) [] pos) (E7 r t):=by
 intro pins s σ H Q I h
 refine wpAny_Call_Name_kw (g9 I hg hm hv ?_ hn hdb)
 exact PyProof.Rows.callWith_type1 (bz (ha pos pins s σ H _ I h) fun us s1 ⟨vs,H1,I1,r1,q1⟩=>hc pins s1 σ H1 vs us Q I1 r1 q1) he hpl
end
end L2
namespace HT
open PySem PyProof.Rows
section
open PySem.SeqAt
open PySem.AutoSeq1 (wpAny_loadPart')
open PySem.MeetsSeq PySem.MeetsSeq2 PySem.MeetsSeq3
end
section
variable {prog:Program} {w:World} {A:Around} {E:Value->Shared->Prop} {s:Shared}
theorem Di {t b:Addr} {vs ws:List Value} {Q:Value->Shared->Prop} (ht:IsTup s.heap t vs.toArray) (hb:IsTup s.heap b ws.toArray) (hv:vs≠[])
  (h1:ws=[]->Q (.ref t) s) (h2:ws≠[]->Q (.ref s.heap.objs.size) { s with heap:=s.heap.push { cls:=.type "tuple", data:=.seq (vs++ws).toArray } })
  (hsz:vs.length+ws.length<=sizeLine):wpAny (model prog w) A (binaryOp .Add (.ref t) (.ref b)) Q E s:=by
 obtain ⟨⟨cls,dd,data,sl⟩,ho,hc,n,hd⟩:=id ht
 obtain ⟨⟨Me,dd2,data2,sl2⟩,ho2,hc2,n2,hd2⟩:=id hb
 simp only at hc hd hc2 hd2
 subst hc hd hc2 hd2
 have e:vs.toArray++ws.toArray=(vs++ws).toArray:=by simp
 by_cases hw:ws=[]
 ·exact concat_meets ⟨_,ho,rfl⟩ ⟨_,ho2,rfl⟩ noFill_tuple_add seq_tuple_add PySem.F.slot_tuple_add PySem.F.entry_tuple_add (PySem.F.args_tuple_add_2 _ _)
   (tuple_addW1 t b vs.toArray ws.toArray n n2 dd dd2 sl sl2 (by simpa using hv) (by simp [hw])) ⟨ho,ho2,h1 hw⟩
 ·refine concat_meets ⟨_,ho,rfl⟩ ⟨_,ho2,rfl⟩ noFill_tuple_add seq_tuple_add PySem.F.slot_tuple_add PySem.F.entry_tuple_add (PySem.F.args_tuple_add_2 _ _)
   (tuple_addW2 t b vs.toArray ws.toArray n n2 dd dd2 sl sl2 (by simpa using hv) (by simpa using hw) (by rw [List.size_toArray,List.size_toArray];exact hsz)) ⟨ho,ho2,?_⟩
  rw [e]
  exact h2 hw
noncomputable def cU (n d:Nat):Option Int->Nat
 | none=>d
 | some v=>if v<0 then (v+(n:Int)).toNat else min v.toNat n
theorem FE (n d:Nat) (hd:d<=n) (o:Option Int):cU n d o<=n:=by
 cases o with
 | none=>exact hd
 | some v =>
  show (if v<0 then (v+(n:Int)).toNat else min v.toNat n)<=n
  by_cases hv:v<0
  ·rw [if_pos hv];omega
  ·rw [if_neg hv];exact Nat.min_le_right _ _
theorem vt (v:Int) (n d:Nat):(if v<0 then max (v+(n:Int)) 0 else min v (n:Int))=((cU n d (some v):Nat):Int):=by
 show (if v<0 then max (v+(n:Int)) 0 else min v (n:Int))=(((if v<0 then (v+(n:Int)).toNat else min v.toNat n):Nat):Int)
 by_cases hv:v<0
 ·simp only [if_pos hv];omega
 ·simp only [if_neg hv];omega
theorem tN (lo hi:Option Int) (n:Nat):Builtin.Slice.sliceAdjust lo hi 1 (n:Int)=(((cU n 0 lo:Nat):Int),((cU n n hi:Nat):Int)):=by
 have h1:¬ ((1:Int)<0):=by omega
 unfold Builtin.Slice.sliceAdjust
 simp only [h1,if_false]
 refine Prod.ext ?_ ?_
 ·cases lo with
  | none=>rfl
  | some v=>exact vt v n 0
 ·cases hi with
  | none=>rfl
  | some v=>exact vt v n n
theorem rT (i j:Nat):Builtin.Slice.slicePlaces (i:Int) (j:Int) 1=j-i:=by
 unfold Builtin.Slice.slicePlaces
 have h1:(1:Int) > 0:=by omega
 simp only [h1,if_true,Int.ediv_one]
 split <;> omega
theorem kG {v:Value} {o:Option Int} {Q:Option Int->Shared->Prop} (p:IsPart v o) (h:Q o s):wpAny (model prog w) A (Builtin.Slice.slicePartIndex v) Q E s:=by
 cases p with
 | none=>exact slicePart_none h
 | int i t=>exact slicePart_int h
theorem jc {sl:Addr} {vl vu:Value} {lo hi:Option Int} {n:Nat} {Q:Int×Int×Nat->Shared->Prop} (hs:s.heap.IsSliceOf sl vl vu .none) (pl:IsPart vl lo) (pu:IsPart vu hi)
  (h:Q (((cU n 0 lo:Nat):Int),1,cU n n hi-cU n 0 lo) s):wpAny (model prog w) A (Builtin.Slice.sliceApplied (.ref sl) (pure (n:Int))) Q E s:=by
 obtain ⟨os,hos,hcs,hds⟩:=id hs
 unfold Builtin.Slice.sliceApplied Builtin.Slice.sliceFields
 refine wpAny_bind (wpAny_bind (wpAny_field hos hds (x:=vl) rfl (wpAny_bind (wpAny_field hos hds (x:=vu) rfl (wpAny_bind (wpAny_field hos hds (x:=.none) rfl (wpAny_pure ?_)))))))
 refine wpAny_bind (slicePart_none ?_)
 show wpAny _ _ (if ((1:Int) == 0)=true then _ else _) _ _ s
 rw [if_neg (by decide)]
 refine wpAny_bind (kG pl (wpAny_bind (kG pu (wpAny_bind (wpAny_pure ?_)))))
 show wpAny _ _ (match Builtin.Slice.sliceAdjust lo hi 1 (n:Int) with | (lo,hi)=>pure (lo,(1:Int),Builtin.Slice.slicePlaces lo hi 1)) _ _ s
 rw [tN lo hi n]
 show wpAny _ _ (pure (((cU n 0 lo:Nat):Int),(1:Int),Builtin.Slice.slicePlaces ((cU n 0 lo:Nat):Int) ((cU n n hi:Nat):Int) 1)) _ _ s
 rw [rT]
 exact wpAny_pure h
theorem yt (xs:Array Value) (i k:Nat):((List.range k).filterMap fun (m:Nat)=>xs[((i:Int)+(m:Int)*1).toNat]?).toArray=((xs.toList.drop i).take k).toArray:=by
 have e:(fun (m:Nat)=>xs[((i:Int)+(m:Int)*1).toNat]?)=fun m=>xs[i+m]?:=by
  funext m
  have:((i:Int)+(m:Int)*1).toNat=i+m:=by omega
  rw [this]
 rw [e]
 have:=pick_run xs i k
 rw [List.filterMap_map] at this
 have e2:((fun x=>xs[x]?) ∘ fun x=>i+x)=fun m=>xs[i+m]?:=rfl
 rw [e2] at this
 rw [this]
theorem iN {t sl:Addr} {items:Array Value} {vl vu:Value} {lo hi:Option Int} {Q:Value->Shared->Prop} (ht:IsTup s.heap t items) (hs:s.heap.IsSliceOf sl vl vu .none) (pl:IsPart vl lo) (pu:IsPart vu hi)
  (hw:¬ (cU items.size 0 lo=0/\cU items.size items.size hi=items.size))
  (h:Q (.ref s.heap.objs.size) { s with heap:=s.heap.push { cls:=.type "tuple", data:=.seq ((items.toList.drop (cU items.size 0 lo)).take (cU items.size items.size hi-cU items.size 0 lo)).toArray } })
  (hsz:items.size<=sizeLine):wpAny (model prog w) A (getItem (.ref t) (.ref sl)) Q E s:=by
 have uZ:sizeOk (.seq ((items.toList.drop (cU items.size 0 lo)).take (cU items.size items.size hi-cU items.size 0 lo)).toArray):=by
  show ((items.toList.drop (cU items.size 0 lo)).take (cU items.size items.size hi-cU items.size 0 lo)).toArray.size<=sizeLine
  rw [List.size_toArray,List.length_take,List.length_drop,Array.length_toList]
  omega
 have hj:cU items.size items.size hi<=items.size:=FE _ _ (Nat.le_refl _) hi
 obtain ⟨os,hos,hcs,hds⟩:=id hs
 have hTs:s.TypeIs (.ref sl) "slice":=⟨os, hos, hcs⟩
 unfold getItem
 try with_reducible refine wpAny_holding ?_
 first | refine wpAny_bind (wpAny_pure ?_) | skip
 refine wpAny_bind (wpAny_sequenceKey ht.typeIs (by decide) ?_)
 refine wpAny_bind (wpAny_callSpecial?_slot (name:=Str.ofString "__getitem__") ht.typeIs PyProof.Rows.slot_tuple_getitem
  (wpAny_call_entry PyProof.Rows.slot_tuple_getitem ht.typeIs entry_tuple_getitem ?_ (args_tuple_getitem _ _)))
 show wpAny _ _ (Builtin.Tuple.tupleItemsOf (.ref t) >>= _) _ _ s
 refine wpAny_bind (tupleItemsOf_ ht ?_)
 refine wpAny_bind (wpAny_typeOf hTs ?_)
 rw [if_pos (by decide)]
 refine wpAny_bind (jc hs pl pu ?_)
 have hno:¬ ((((cU items.size 0 lo:Nat):Int) == 0&&(1:Int) == 1&&(cU items.size items.size hi-cU items.size 0 lo) == items.size)=true):=by
  intro q
  rw [Bool.and_eq_true,Bool.and_eq_true] at q
  have q1:((cU items.size 0 lo:Nat):Int)=0:=eq_of_beq q.1.1
  have q2:cU items.size items.size hi-cU items.size 0 lo=items.size:=eq_of_beq q.2
  exact hw ⟨by omega,by omega⟩
 show wpAny _ _ (if (((cU items.size 0 lo:Nat):Int) == 0&&(1:Int) == 1&&(cU items.size items.size hi-cU items.size 0 lo) == items.size)=true then _ else _) _ _ s
 rw [if_neg hno,yt]
 first
  | exact wpAny_bind (m:=Builtin.Tuple.tupleExact _) (wpAny_newObj_type (wpAny_pure ⟨_,rfl,wpAny_pure h⟩) uZ)
  | exact wpAny_bind (m:=Builtin.Tuple.tupleExact _) (wpAny_newObj_type (wpAny_bind (wpAny_pure (wpAny_pure ⟨_,rfl,wpAny_pure h⟩))) uZ)
  | exact wpAny_bind (wpAny_bind (m:=Builtin.Tuple.tupleExact _) (wpAny_newObj_type (wpAny_pure (wpAny_pure ⟨_,rfl,wpAny_pure h⟩)) uZ))
  | exact wpAny_bind (wpAny_bind (m:=Builtin.Tuple.tupleExact _) (wpAny_newObj_type (wpAny_pure ⟨_,rfl,wpAny_pure h⟩) uZ))
end
end HT
namespace L2
open PySem PySem.Spec PyProof.Rows
noncomputable abbrev TO:=St->Hp->(Option Int->Hp->Prop)->Prop
noncomputable def PO (X:Cx) (e:Option Expr) (t:TO):Prop :=
 ∀ (pins:List (Addr×Obj)) (s:Shared) (σ:St) (H:Hp) (Q:Option Int->Hp->Prop),Inv X pins σ H s->t σ H Q ->
  wpAny (model X.prog X.w) X.A (evalPart e X.env) (fun u s'=>∃ o H',Inv X pins σ H' s'/\IsPart u o/\Q o H') X.xe s
noncomputable def tW:TO:=fun _ H Q=>Q none H
noncomputable def DQ (t:TE):TO:=fun σ H Q=>t σ H fun x H1=>∃ i,x=.int i/\Q (some i) H1
section
variable {X:Cx} {e:Expr} {te:TE} {lo hi:Option Expr} {tl th:TO} {pos p2:Pos}
theorem BV:PO X none tW:=by
 intro pins s σ H Q I h
 rw [evalPart_none]
 exact wpAny_pure ⟨none,H,I,.none,h⟩
theorem BU (h:PE X e te):PO X (some e) (DQ te):=by
 intro pins s σ H Q I hw
 rw [evalPart_some]
 refine bz (h pins s σ H _ I hw) fun u s1 ⟨x,H1,I1,r1,q1⟩=>?_
 obtain ⟨i,rfl,q⟩:=q1
 obtain ⟨t,rfl⟩:=r1
 exact ⟨some i,H1,I1,.int i t,q⟩
noncomputable def DE (X:Cx) (r:V->Option Int->Option Int->Hp->VK->Prop):Prop :=
 ∀ (pins:List (Addr×Obj)) (s:Shared) (σ:St) (H:Hp) (x:V) (v vl vu:Value) (lo hi:Option Int) (sl:Addr) (Q:VK),Inv X pins σ H s->RelV x v->s.heap.IsSliceOf sl vl vu .none->IsPart vl lo->IsPart vu hi->r x lo hi H Q ->
  ∃ T id, typeLookup (.type T) "__getitem__" = pure (some (.builtin id))/\s.TypeIs v T/\wpAny (model X.prog X.w) X.A (getItem v (.ref sl)) (EP X pins σ Q) X.xe s
theorem DE.or {r r':V->Option Int->Option Int->Hp->VK->Prop} (h:DE X r) (h':DE X r'):DE X (fun x lo hi H Q=>r x lo hi H Q\/r' x lo hi H Q):=by
 intro pins s σ H x v vl vu lo hi sl Q I rx hs pl pu q
 rcases q with q | q
 ·exact h pins s σ H x v vl vu lo hi sl Q I rx hs pl pu q
 ·exact h' pins s σ H x v vl vu lo hi sl Q I rx hs pl pu q
noncomputable def tSl (r:V->Option Int->Option Int->Hp->VK->Prop) (te:TE) (tl th:TO):TE:=fun σ H Q=>te σ H fun x H1=>tl σ H1 fun l H2=>th σ H2 fun u H3=>r x l u H3 Q
theorem yv {r:V->Option Int->Option Int->Hp->VK->Prop} (hr:DE X r) (he:PE X e te) (hl:PO X lo tl) (hu:PO X hi th):PE X (.Subscript e (.Slice lo hi none p2) pos) (tSl r te tl th):=by
 intro pins s σ H Q I h
 refine Subscript_ (bz (he pins s σ H _ I h) fun v s1 ⟨x,H1,I1,r1,q1⟩=>?_)
 refine wpAny_Slice (bz (hl pins s1 σ H1 _ I1 q1) fun vl s2 ⟨l,H2,I2,pl,q2⟩=>bz (hu pins s2 σ H2 _ I2 q2) fun vu s3 ⟨u,H3,I3,pu,q3⟩=>?_)
 rw [evalPart_none]
 refine wpAny_pure ?_
 have I4:Inv X pins σ H3 { s3 with heap:=s3.heap.push { cls:=.type "slice", data:=.fields #[vl, vu, .none] } }:=I3.kept (t':=s3.toks) fun b ob q=>Heap.get?_push_of_some _ q
 obtain ⟨T, id, hT, ht, hg⟩:=hr pins { s3 with heap:=s3.heap.push { cls:=.type "slice", data:=.fields #[vl, vu, .none] } } σ H3 x v vl vu l u s3.heap.objs.size Q I4 r1 (Heap.IsSliceOf.new ..) pl pu q3
 show wpAny (model X.prog X.w) X.A (subscriptTail e (.Slice lo hi none p2) v (.ref s3.heap.objs.size)) (EP X pins σ Q) X.xe { s3 with heap:=s3.heap.push { cls:=.type "slice", data:=.fields #[vl, vu, .none] } }
 exact tail_any (ops:=[.ref s3.heap.objs.size,v]) ht hT hg (by with_unfolding_all rfl)
noncomputable def qM (xs:List V) (lo hi:Option Int):List V:=(xs.drop (HT.cU xs.length 0 lo)).take (HT.cU xs.length xs.length hi-HT.cU xs.length 0 lo)
theorem jT (xs:List V) (lo hi:Option Int):(qM xs lo hi).length<=xs.length:=by
 unfold qM
 rw [List.length_take,List.length_drop]
 omega
noncomputable def Ka (K:PySem.W.Frag):V->Option Int->Option Int->Hp->VK->Prop:=fun x lo hi H Q=>∃ a xs,x=.ref a/\jD K H a xs /\
 ¬ (HT.cU xs.length 0 lo=0/\HT.cU xs.length xs.length hi=xs.length)/\∀ p,H p=none->Q (.ref p) (upd H p (.tup (qM xs lo hi)))
theorem Fe:DE X (Ka X.K):=by
 intro pins s σ H x v vl vu lo hi sl Q I rx hs pl pu h
 obtain ⟨a,xs,rfl,hx,hw,q⟩:=h
 cases rx
 obtain ⟨its,r,ht,hz⟩:=I.tuple hx
 have hlen:its.toArray.size=xs.length:=by rw [List.size_toArray];exact r.length.symm
 refine ⟨"tuple", _, PyProof.Rows.slot_tuple_getitem.lookup, ht.typeIs, ?_⟩
 refine HT.iN ht hs pl pu (by rw [hlen];exact hw) ?_ (by rw [hlen];exact hz)
 rw [hlen]
 refine ⟨.ref s.heap.objs.size,_,I.laid (t':=s.toks) (o:=.tup (qM xs lo hi)) (fun b ob q=>Heap.get?_push_of_some _ q) (Nat.le_refl _) ?_,rfl,q _ (I.hok.fresh (Nat.le_refl _))⟩
 exact ⟨Nat.le_trans (jT xs lo hi) hz,_,(r.drop (HT.cU xs.length 0 lo)).take (HT.cU xs.length xs.length hi-HT.cU xs.length 0 lo),IsTup.new _ _⟩
noncomputable def Ea (K:PySem.W.Frag):R2:=fun x y H Q=>∃ a b xs ys,x=.ref a/\y=.ref b/\jD K H a xs/\jD K H b ys/\xs≠[]/\xs.length+ys.length<=sizeLine /\
 (ys=[]->Q (.ref a) H)/\(ys≠[]->∀ p,H p=none->Q (.ref p) (upd H p (.tup (xs++ys))))
theorem Vals.nX {xs:List V} {us:List Value} (r:Vals xs us):us=[]↔xs=[]:=by
 cases r with
 | nil=>simp
 | cons _ _=>simp
theorem Ca:fc X (binaryOp .Add) (Ea X.K):=by
 intro pins s σ H x y v u Q I rx ry h
 obtain ⟨a,b,xs,ys,rfl,rfl,ha,hb,hx,hz,q1,q2⟩:=h
 cases rx
 cases ry
 obtain ⟨its,r1,p1,_⟩:=I.tuple ha
 obtain ⟨its2,r2,p2,_⟩:=I.tuple hb
 refine HT.Di p1 p2 (fun z=>hx (r1.nX.mp z)) (fun z=>⟨.ref a,H,I,rfl,q1 (r2.nX.mp z)⟩) (fun z=>?_) (by rw [<- r1.length,<- r2.length];exact hz)
 refine ⟨.ref s.heap.objs.size,_,I.laid (t':=s.toks) (o:=.tup (xs++ys)) (fun b ob q=>Heap.get?_push_of_some _ q) (Nat.le_refl _) ?_,rfl,q2 (fun w=>z (r2.nX.mpr w)) _ (I.hok.fresh (Nat.le_refl _))⟩
 exact ⟨by rw [List.length_append];exact hz,_,r1.append r2,IsTup.new _ _⟩
end
noncomputable def Jk (n:Nat) (i:Int):Option Nat:=if 0<=i then (if i<n then some i.toNat else none) else if -(n:Int)<=i then some (i+n).toNat else none
noncomputable def IW {α:Type} (xs:List α) (i:Int):Option α:=(Jk xs.length i).bind fun j=>xs[j]?
theorem uT {n:Nat} {i:Int} {j:Nat} (h:Jk n i=some j):seqIndex? i n=some j/\j<n/\-(n:Int)<=i/\i<n:=by
 unfold Jk at h
 by_cases h0:0<=i
 ·rw [if_pos h0] at h
  by_cases h1:i<n
  ·rw [if_pos h1] at h
   have e:i.toNat=j:=Option.some.inj h
   exact ⟨by rw [seqIndex_of h0 h1,e],by omega,by omega,h1⟩
  ·rw [if_neg h1] at h;cases h
 ·rw [if_neg h0] at h
  by_cases h1:-(n:Int)<=i
  ·rw [if_pos h1] at h
   have e:(i+n).toNat=j:=Option.some.inj h
   exact ⟨by rw [seqIndex_neg (by omega) h1,e],by omega,h1,by omega⟩
  ·rw [if_neg h1] at h;cases h
theorem o9 {α:Type} {xs:List α} {i:Int} {v:α} (h:IW xs i=some v):∃ j,seqIndex? i xs.length=some j/\xs[j]? = some v/\j<xs.length/\-(xs.length:Int)<=i/\i<xs.length:=by
 unfold IW at h
 cases e:Jk xs.length i with
 | none=>rw [e] at h;cases h
 | some j =>
  rw [e] at h
  obtain ⟨h1,h2,h3,h4⟩:=uT e
  exact ⟨j,h1,h,h2,h3,h4⟩
noncomputable def vF (b:Expr):Prop:=∀ o i,subscripted b false o i=operate [o,i] (getItem o i)
noncomputable def AS (X:Cx) (r:R2):Prop :=
 ∀ (value slice:Expr) (pins:List (Addr×Obj)) (s:Shared) (σ:St) (H:Hp) (x y:V) (v u:Value) (Q:VK),Inv X pins σ H s->RelV x v->RelV y u->r x y H Q ->
  subscripted slice false v u=operate [v,u] (getItem v u)->wpAny (model X.prog X.w) X.A (subscriptTail value slice v u) (EP X pins σ Q) X.xe s
noncomputable def MtR (X:Cx) (id:String) (r:V->List V->Hp->VK->Prop):Prop :=
 ∀ (pins:List (Addr×Obj)) (s:Shared) (σ:St) (H:Hp) (x:V) (xs:List V) (v:Value) (us:List Value) (Q:VK),Inv X pins σ H s->RelV x v->Vals xs us->r x xs H Q ->
  wpAny (model X.prog X.w) X.A (call (.builtin id) (v::us)) (EP X pins σ Q) X.xe s
section
variable {X:Cx} {a b:Expr} {ta tb:TE} {pos:Pos}
theorem AS.or {r r':R2} (h:AS X r) (h':AS X r'):AS X (fun x y H Q=>r x y H Q\/r' x y H Q):=by
 intro value slice pins s σ H x y v u Q I rx ry q hs
 rcases q with q | q
 ·exact h value slice pins s σ H x y v u Q I rx ry q hs
 ·exact h' value slice pins s σ H x y v u Q I rx ry q hs
theorem KA {r:R2} (hr:AS X r) (ha:PE X a ta) (hb:PE X b tb) (hs:vF b):PE X (.Subscript a b pos) (E6 r ta tb):=by
 intro pins s σ H Q I h
 exact Subscript_ (IS ha hb I h fun v u s2 x y H2 I2 rx ry q=>hr a b pins s2 σ H2 x y v u Q I2 rx ry q (hs _ _))
noncomputable def Kh (K:PySem.W.Frag):R2:=fun x y H Q=>∃ p xs i v,x=.ref p/\y=.int i/\gb K H p xs/\IW xs i=some v/\Q v H
noncomputable def Kf (K:PySem.W.Frag):R2:=fun x y H Q=>∃ p xs i v,x=.ref p/\y=.int i/\jD K H p xs/\IW xs i=some v/\Q v H
noncomputable def Kg:R2:=fun x y H Q=>∃ z i c,x=.str z/\y=.int i/\z.length<=sizeLine/\IW z.cps.toList i=some c/\Q (.str ⟨#[c]⟩) H
theorem CK:AS X (Kh X.K):=by
 intro value slice pins s σ H x y v u Q I rx ry h hs
 obtain ⟨p,xs,i,z,rfl,rfl,hq,he,q⟩:=h
 cases rx
 obtain ⟨t,rfl⟩:=ry
 obtain ⟨its,r,pl,hz⟩:=I.list hq
 obtain ⟨j,h1,h2,h3,h4,h5⟩:=o9 he
 obtain ⟨w,ew,rw'⟩:=r.get h2
 have hl:=r.length
 have hn:=jf
 have fin:EP X pins σ Q w s:=⟨z,H,I,rw',q⟩
 by_cases h0:0<=i
 ·have hj:i.toNat=j:=by
   rw [seqIndex_of h0 h5] at h1
   exact Option.some.inj h1
  exact item_listR pl.isList h0 (by omega) (by rw [hj];simpa using ew) fin hs
 ·have hj:(i+(its.toArray.size:Int)).toNat=j:=by
   rw [seqIndex_neg (by omega) h4] at h1
   rw [List.size_toArray,<- hl]
   exact Option.some.inj h1
  exact subscriptTail_builtinR (x:=w) pl.isList.typeIs slot_list_getitem.lookup
   (wpAny_getItem_list_neg (Q:=fun r s'=>r=w/\EP X pins σ Q r s') pl.isList (by omega) (by rw [List.size_toArray] <;> omega) (by omega) (by rw [hj];simpa using ew) ⟨rfl,fin⟩) hs
theorem HH:AS X (Kf X.K):=by
 intro value slice pins s σ H x y v u Q I rx ry h hs
 obtain ⟨p,xs,i,z,rfl,rfl,hq,he,q⟩:=h
 cases rx
 obtain ⟨t,rfl⟩:=ry
 obtain ⟨its,r,pl,hz⟩:=I.tuple hq
 obtain ⟨j,h1,h2,h3,h4,h5⟩:=o9 he
 obtain ⟨w,ew,rw'⟩:=r.get h2
 have hl:=r.length
 have hn:=jf
 have fin:EP X pins σ Q w s:=⟨z,H,I,rw',q⟩
 exact subscriptTail_builtinR (x:=w) pl.typeIs slot_tuple_getitem.lookup
  (getItem_tuple (j:=j) (Q:=fun r s'=>r=w/\EP X pins σ Q r s') pl (by omega) (by omega) (by rw [List.size_toArray,<- hl];exact h1) (by simpa using ew) ⟨rfl,fin⟩) hs
theorem HJ:AS X Kg:=by
 intro value slice pins s σ H x y v u Q I rx ry h hs
 obtain ⟨z,i,c,rfl,rfl,hz,he,q⟩:=h
 obtain ⟨t,rfl⟩:=rx
 obtain ⟨t',rfl⟩:=ry
 obtain ⟨j,h1,h2,h3,h4,h5⟩:=o9 he
 have hl:z.cps.toList.length=z.length:=by simp [Str.length]
 rw [hl] at h1 h4 h5
 have hn:=jf
 exact tail_any (typeIs_str s z t) slot_str_getitem.lookup (getItem_str (c:=c) (by
  have e1:decide (i < -(2 ^ 63:Int))=false:=decide_eq_false (by omega)
  have e2:decide (i ≥ 2 ^ 63)=false:=decide_eq_false (by omega)
  rw [e1,e2,Bool.or_false]) (by rw [h1];simpa using h2) ⟨.str ⟨#[c]⟩,H,I.tok _,⟨_,rfl⟩,q⟩) hs
theorem sf (its:List Value) (n j:Nat) (u:Value):Obj.mapSeq (·.setIfInBounds j u) { cls:=.type "list", data:=.seq its.toArray n }={ cls:=.type "list", data:=.seq (its.set j u).toArray n }:=by
 simp [Obj.mapSeq]
theorem Inv.lst {pins:List (Addr×Obj)} {σ:St} {H:Hp} {s:Shared} {p:Addr} {xs:List V} (I:Inv X pins σ H s) (h:H p=some (.lst xs)) :
  ∃ (its:List Value) (n:Nat), Vals xs its/\s.heap.get? p=some { cls:=.type "list", data:=.seq its.toArray n }/\xs.length<=sizeLine:=by
 obtain ⟨z,its,n,r,e⟩:=I.hok p _ h
 exact ⟨its,n,r,e,z⟩
theorem Inv.GW {pins:List (Addr×Obj)} {σ:St} {H:Hp} {s:Shared} {p:Addr} {xs ys:List V} {its its':List Value} {n n':Nat} {f:Obj->Obj} (I:Inv X pins σ H s) (h:H p=some (.lst xs))
  (ho:s.heap.get? p=some { cls:=.type "list", data:=.seq its.toArray n }) (hf:f { cls:=.type "list", data:=.seq its.toArray n }={ cls:=.type "list", data:=.seq its'.toArray n' }) (r:Vals ys its') (hz:ys.length<=sizeLine) (t:Nat) :
  Inv X pins σ (upd H p (.lst ys)) { s with heap:=s.heap.update p f,toks:=t }:=by
 have e:(s.heap.update p f).get? p=some { cls:=.type "list", data:=.seq its'.toArray n' }:=by
  rw [Heap.get?_update_self f ho (by rw [hf] <;> rfl),hf]
 refine I.write (x:=p) (e:=p) (by rw [h];trivial) (.inl rfl) (fun b u hb q=>(Heap.get?_update_other _ _ (Ne.symm hb)).trans q) ⟨_,e⟩ ?_
 exact ⟨hz,its',n',r,e⟩
noncomputable def D6:V->V->V->Hp->(Hp->Prop)->Prop:=fun o i v H Q=>∃ p xs k j,o=.ref p/\i=.int k/\H p=some (.lst xs)/\Jk xs.length k=some j/\Q (upd H p (.lst (xs.set j v)))
theorem set_list:PSet X D6:=by
 intro pins s σ H o i v ov iv u Q I ro ri rv h
 obtain ⟨p,xs,k,j,rfl,rfl,hp,hj,q⟩:=h
 cases ro
 obtain ⟨t,rfl⟩:=ri
 obtain ⟨its,n,r,ho,hz⟩:=I.lst hp
 obtain ⟨h1,h2,h3,h4⟩:=uT hj
 have hl:=r.length
 have hn:=jf
 have I':Inv X pins σ (upd H p (.lst (xs.set j v))) { s with heap:=s.heap.update p (Obj.mapSeq (·.setIfInBounds j u)) } :=
  I.GW hp ho (sf its n j u) (r.set rv j) (by rw [List.length_set];exact hz) s.toks
 by_cases h0:0<=k
 ·have hk:k.toNat=j:=by
   rw [seqIndex_of h0 h4] at h1
   exact Option.some.inj h1
  exact PySem.W.ki_setAt ho h0 (by omega) (by rw [List.size_toArray,<- hl];exact h4) (by rw [hk];exact ⟨_,I',q⟩)
 ·have hk:(k+(its.toArray.size:Int)).toNat=j:=by
   rw [seqIndex_neg (by omega) h3] at h1
   rw [List.size_toArray,<- hl]
   exact Option.some.inj h1
  exact PySem.W.ki_setBack ho (by omega) (by rw [List.size_toArray,<- hl];exact h3) (by omega) (by rw [hk];exact ⟨_,I',q⟩)
theorem nM (lo hi:Option Int) (n:Nat):(sliceBounds lo hi none n).1=((HT.cU n 0 lo:Nat):Int)/\(sliceBounds lo hi none n).2.1=((HT.cU n n hi:Nat):Int)/\(sliceBounds lo hi none n).2.2=1:=by
 refine ⟨?_,?_,rfl⟩
 ·cases lo with
  | none=>simp [sliceBounds,HT.cU]
  | some i =>
   simp only [sliceBounds,HT.cU,Option.getD_none,show (1:Int) > 0 by decide,if_true]
   by_cases h:i<0
   ·simp only [h,if_true] <;> omega
   ·simp only [h,if_false] <;> omega
 ·cases hi with
  | none=>simp [sliceBounds,HT.cU]
  | some i =>
   simp only [sliceBounds,HT.cU,Option.getD_none,show (1:Int) > 0 by decide,if_true]
   by_cases h:i<0
   ·simp only [h,if_true] <;> omega
   ·simp only [h,if_false] <;> omega
theorem l9 (its:List Value) (lo hi:Option Int):slicePick its.toArray lo hi none=((its.drop (HT.cU its.length 0 lo)).take (HT.cU its.length its.length hi-HT.cU its.length 0 lo)).toArray:=by
 obtain ⟨h1,h2,h3⟩:=nM lo hi its.toArray.size
 unfold slicePick
 rw [h1,h2,h3]
 simp only [sliceRange_one,pick_run,List.size_toArray] <;> rfl
noncomputable def Kd (K:PySem.W.Frag):V->Option Int->Option Int->Hp->VK->Prop:=fun x lo hi H Q=>∃ a xs,x=.ref a/\gb K H a xs/\∀ p,H p=none->Q (.ref p) (upd H p (.lst (qM xs lo hi)))
theorem Bb:DE X (Kd X.K):=by
 intro pins s σ H x v vl vu lo hi sl Q I rx hs pl pu h
 obtain ⟨a,xs,rfl,hx,q⟩:=h
 cases rx
 obtain ⟨its,r,ht,hz⟩:=I.list hx
 have hlen:=r.length
 refine ⟨"list", _, slot_list_getitem.lookup, ht.isList.typeIs, ?_⟩
 refine wpAny_getItem_list_slice ht.isList hs pl pu .none (by simp) ?_ (by rw [List.size_toArray] <;> omega)
 rw [l9,<- hlen]
 refine ⟨.ref s.heap.objs.size,_,I.laid (t':=s.toks) (o:=.lst (qM xs lo hi)) (fun b ob q=>Heap.get?_push_of_some _ q) (Nat.le_refl _) ?_,rfl,q _ (I.hok.fresh (Nat.le_refl _))⟩
 exact ⟨Nat.le_trans (jT xs lo hi) hz,_,0,(r.drop (HT.cU xs.length 0 lo)).take (HT.cU xs.length xs.length hi-HT.cU xs.length 0 lo),Heap.get?_push_size _ rfl⟩
noncomputable def gR:V->Bool
 | .ai=>true
 | .bl _=>true
 | .int _=>true
 | .str _=>true
 | _=>false
noncomputable def AO:V->V->Bool
 | .ai,.ai=>true
 | .bl a,.bl b=>a == b
 | .bl a,.int b=>(if a then 1 else 0) == b
 | .int a,.bl b=>a == (if b then 1 else 0)
 | .int a,.int b=>a == b
 | .str a,.str b=>a == b
 | _,_=>false
theorem Ip {A:Around} {s:Shared} {y x:V} {u v:Value} (ry:RelV y u) (rx:RelV x v) (fy:gR y=true) (fx:gR x=true):SeqAt.EqAt A s u v (AO y x):=by
 cases y with
 | ai =>
  cases ry
  cases x with
  | ai=>cases rx;exact SeqAt.EqAt.same _
  | bl b=>cases rx;exact SeqAt.EqAt.none_bool b
  | int b=>obtain ⟨t,rfl⟩:=rx;exact SeqAt.EqAt.none_int b t
  | str b=>obtain ⟨t,rfl⟩:=rx;exact SeqAt.EqAt.none_str b t
  | _=>exact absurd (show false=true from fx) Bool.false_ne_true
 | bl a =>
  cases ry
  cases x with
  | ai=>cases rx;exact SeqAt.EqAt.bool_none a
  | bl b=>cases rx;exact SeqAt.EqAt.bool_bool a b
  | int b=>obtain ⟨t,rfl⟩:=rx;exact SeqAt.EqAt.bool_int a b t
  | str b=>obtain ⟨t,rfl⟩:=rx;exact SeqAt.EqAt.bool_str a b t
  | _=>exact absurd (show false=true from fx) Bool.false_ne_true
 | int a =>
  obtain ⟨t',rfl⟩:=ry
  cases x with
  | ai=>cases rx;exact SeqAt.EqAt.int_none a t'
  | bl b=>cases rx;exact SeqAt.EqAt.int_bool a t' b
  | int b=>obtain ⟨t,rfl⟩:=rx;exact SeqAt.EqAt.int_int a t' b t
  | str b=>obtain ⟨t,rfl⟩:=rx;exact SeqAt.EqAt.int_str a t' b t
  | _=>exact absurd (show false=true from fx) Bool.false_ne_true
 | str a =>
  obtain ⟨t',rfl⟩:=ry
  cases x with
  | ai=>cases rx;exact SeqAt.EqAt.str_none a t'
  | bl b=>cases rx;exact SeqAt.EqAt.str_bool a t' b
  | int b=>obtain ⟨t,rfl⟩:=rx;exact SeqAt.EqAt.str_int a t' b t
  | str b=>obtain ⟨t,rfl⟩:=rx;exact SeqAt.EqAt.str_str a t' b t
  | _=>exact absurd (show false=true from fx) Bool.false_ne_true
 | _=>exact absurd (show false=true from fy) Bool.false_ne_true
noncomputable def tu (x:V) (u:Value):Bool:=match u with
 | .none=>AO .ai x
 | .bool b=>AO (.bl b) x
 | .int i _=>AO (.int i) x
 | .str z _=>AO (.str z) x
 | _=>false
theorem z9 {x y:V} {u:Value} (r:RelV y u) (f:gR y=true):tu x u=AO y x:=by
 cases y with
 | ai=>cases r;rfl
 | bl b=>cases r;rfl
 | int i=>obtain ⟨t,rfl⟩:=r;rfl
 | str z=>obtain ⟨t,rfl⟩:=r;rfl
 | _=>exact absurd (show false=true from f) Bool.false_ne_true
theorem i8 {x:V}:∀ {xs:List V} {us:List Value},Vals xs us->xs.all gR=true->us.any (tu x)=xs.any fun y=>AO y x
 | _,_,.nil,_=>rfl
 | y::xs,u::us,.cons r t,f=>by
  rw [List.all_cons,Bool.and_eq_true] at f
  rw [List.any_cons,List.any_cons,z9 r f.1,i8 t f.2]
theorem gh {A:Around} {s:Shared} {x:V} {v:Value} (rx:RelV x v) (fx:gR x=true):∀ {xs:List V} {us:List Value},Vals xs us->xs.all gR=true->∀ u∈us,SeqAt.EqAt A s u v (tu x u)
 | _,_,.nil,_=>fun u hu=>by cases hu
 | y::xs,u::us,.cons r t,f=>fun u' hu=>by
  rw [List.all_cons,Bool.and_eq_true] at f
  rcases List.mem_cons.mp hu with rfl | hu
  ·rw [z9 r f.1];exact Ip r rx f.1 fx
  ·exact gh rx fx t f.2 u' hu
noncomputable def Ll (x:V) (xs:List V):Bool:=xs.any fun y=>AO y x
noncomputable def Kn (K:PySem.W.Frag) (neg:Bool):R2:=fun x y H Q=>∃ p xs,y=.ref p/\(gb K H p xs\/jD K H p xs)/\gR x=true/\xs.all gR=true/\Q (.bl (if neg then !Ll x xs else Ll x xs)) H
theorem wc:fc X (compareOp .In) (Kn X.K false):=by
 intro pins s σ H x y v u Q I rx ry h
 obtain ⟨p,xs,rfl,hq,fx,fs,q⟩:=h
 cases ry
 rcases hq with hq | hq
 ·obtain ⟨its,r,pl,hz⟩:=I.list hq
  refine SeqAt.in_listAt (tu x) pl.isList (fun w hw=>gh rx fx r fs w (by simpa using hw)) ⟨.bl _,H,I,rfl,?_⟩
  rw [show its.toArray.any (tu x)=its.any (tu x) by simp,i8 r fs]
  exact q
 ·obtain ⟨its,r,pl,hz⟩:=I.tuple hq
  refine SeqAt.in_tupleAt (tu x) pl (fun w hw=>gh rx fx r fs w (by simpa using hw)) ⟨.bl _,H,I,rfl,?_⟩
  rw [show its.toArray.any (tu x)=its.any (tu x) by simp,i8 r fs]
  exact q
theorem nV:fc X (compareOp .NotIn) (Kn X.K true):=by
 intro pins s σ H x y v u Q I rx ry h
 obtain ⟨p,xs,rfl,hq,fx,fs,q⟩:=h
 cases ry
 rcases hq with hq | hq
 ·obtain ⟨its,r,pl,hz⟩:=I.list hq
  refine SeqAt.notIn_listAt (tu x) pl.isList (fun w hw=>gh rx fx r fs w (by simpa using hw)) ⟨.bl _,H,I,rfl,?_⟩
  rw [show its.toArray.any (tu x)=its.any (tu x) by simp,i8 r fs]
  exact q
 ·obtain ⟨its,r,pl,hz⟩:=I.tuple hq
  refine SeqAt.notIn_tupleAt (tu x) pl (fun w hw=>gh rx fx r fs w (by simpa using hw)) ⟨.bl _,H,I,rfl,?_⟩
  rw [show its.toArray.any (tu x)=its.any (tu x) by simp,i8 r fs]
  exact q
theorem o6:dg X (.builtin "len") (fun xs H Q=>∃ p ys, xs=[.ref p]/\(gb X.K H p ys\/jD X.K H p ys)/\Q (.int ys.length) H):=by
 intro pins s σ H xs us Q I r h
 obtain ⟨p,ys,rfl,hq,q⟩:=h
 obtain ⟨u,rfl,rx⟩:=vals1 r
 cases rx
 have hn:=jf
 rcases hq with hq | hq
 ·obtain ⟨its,r',pl,hz⟩:=I.list hq
  have hlen:=r'.length
  exact Calls.call_len_list pl.isList (by simp only [List.size_toArray] <;> omega) ⟨.int ys.length,H,I.tok _,⟨s.toks+1,by rw [List.size_toArray,hlen]⟩,q⟩
 ·obtain ⟨its,r',pl,hz⟩:=I.tuple hq
  have hlen:=r'.length
  exact len_tuple pl (by simp only [List.size_toArray] <;> omega) ⟨.int ys.length,H,I.tok _,⟨s.toks+1,by rw [List.size_toArray,hlen]⟩,q⟩
theorem o5:dg X (.builtin "len") (fun xs H Q=>∃ z, xs=[.str z]/\z.length<=sizeLine/\Q (.int z.length) H):=by
 intro pins s σ H xs us Q I r h
 obtain ⟨z,rfl,hz,q⟩:=h
 obtain ⟨u,rfl,t,rfl⟩:=vals1 r
 have hn:=jf
 exact len_str (by omega) ⟨.int z.length,H,I.tok _,⟨_,rfl⟩,q⟩
theorem dg.or {f:Value} {r r':List V->Hp->VK->Prop} (h:dg X f r) (h':dg X f r'):dg X f (fun xs H Q=>r xs H Q\/r' xs H Q):=by
 intro pins s σ H xs us Q I rs q
 rcases q with q | q
 ·exact h pins s σ H xs us Q I rs q
 ·exact h' pins s σ H xs us Q I rs q
theorem o4:dg X (.type "list") (fun xs H Q=>∃ p ys, xs=[.ref p]/\(gb X.K H p ys\/jD X.K H p ys)/\∀ l, H l=none->Q (.ref l) (upd H l (.lst ys))):=by
 intro pins s σ H xs us Q I r h
 obtain ⟨p,ys,rfl,hq,q⟩:=h
 obtain ⟨u,rfl,rx⟩:=vals1 r
 cases rx
 have fin:∀ (its:List Value),Vals ys its->ys.length<=sizeLine->∀ (h':Heap) (c':Nat),(∀ b o',s.heap.get? b=some o'->h'.get? b=some o') ->
   h'.get? s.heap.objs.size=some { cls:=.type "list", dict:=none, data:=.seq its.toArray c', slots:=#[] }->EP X pins σ Q (.ref s.heap.objs.size) { s with heap:=h' }:=fun its r' hz h' c' kp e =>
  ⟨.ref s.heap.objs.size,_,I.laid (t':=s.toks) kp (Nat.le_refl _) (show bD X.prog X.w _ h' _ (.lst ys) from ⟨hz,its,c',r',e⟩),rfl,q _ (I.hok.fresh (Nat.le_refl _))⟩
 rcases hq with hq | hq
 ·obtain ⟨its,r',pl,hz⟩:=I.list hq
  have hlen:=r'.length
  obtain ⟨o,ho,hc,n,hd⟩:=pl.isList
  exact call_list_seq p (.inl rfl) ho hc hd (fun h' c' kp e=>fin its r' hz h' c' kp e) (by simp only [List.size_toArray] <;> omega)
 ·obtain ⟨its,r',pl,hz⟩:=I.tuple hq
  have hlen:=r'.length
  obtain ⟨o,ho,hc,n,hd⟩:=pl
  exact call_list_seq p (.inr rfl) ho hc hd (fun h' c' kp e=>fin its r' hz h' c' kp e) (by simp only [List.size_toArray] <;> omega)
noncomputable def MK (K:PySem.W.Frag) (T:String) (x:V) (H:Hp):Prop:=match x with
 | .str _=>T = "str"
 | .int _=>T = "int"
 | .ref p=>(T = "list"/\∃ xs, gb K H p xs)\/(T = "tuple"/\∃ o, K.lookup p=some o/\o.cls=.type "tuple"/\o.dict=none) \/
   (T = "dict"/\((∃ kvs, H p=some (.dK kvs))\/∃ kvs, H p=some (.dT kvs)))\/(T = "set"/\∃ S n, H p=some (.set S n))
 | _=>False
theorem xB {pins:List (Addr×Obj)} {σ:St} {H:Hp} {s:Shared} {T:String} {x:V} {v:Value} (I:Inv X pins σ H s) (r:RelV x v) (ty:MK X.K T x H) :
  s.TypeIs v T/\∀ a,v=.ref a->∃ ob,s.heap.get? a=some ob/\ob.dict=none:=by
 cases x with
 | str z =>
  obtain ⟨t,rfl⟩:=r
  cases (show T = "str" from ty)
  exact ⟨typeIs_str s z t,fun _ e=>nomatch e⟩
 | int i =>
  obtain ⟨t,rfl⟩:=r
  cases (show T = "int" from ty)
  exact ⟨typeIs_int s i t,fun _ e=>nomatch e⟩
 | ref p =>
  cases r
  rcases ty with ⟨rfl,xs,hq⟩ | ⟨rfl,o,hk,hc,hd⟩ | ⟨rfl,hk⟩ | ⟨rfl,S,n,hk⟩
  ·obtain ⟨its,_,pl,_⟩:=I.list hq
   refine ⟨pl.isList.typeIs,fun a e=>?_⟩
   cases e
   obtain ⟨o,n,e,c,hd,_⟩:=pl
   exact ⟨o,e,hd⟩
  ·refine ⟨⟨o,I.ia p o hk,hc⟩,fun a e=>?_⟩
   cases e
   exact ⟨o,I.ia _ o hk,hd⟩
  ·have z:∃ o,s.heap.get? p=some o/\o.ExactDict:=by
    rcases hk with ⟨kvs,hk⟩ | ⟨kvs,hk⟩
    ·obtain ⟨_,_,_,_,o,_,_,e,ex,_⟩:=I.hok p _ hk
     exact ⟨o,e,ex⟩
    ·obtain ⟨_,_,_,_,o,_,_,e,ex,_⟩:=I.hok p _ hk
     exact ⟨o,e,ex⟩
   obtain ⟨o,e,ex⟩:=z
   refine ⟨⟨o,e,ex.1⟩,fun a e2=>?_⟩
   cases e2
   exact ⟨o,e,ex.2.1⟩
  ·obtain ⟨o,_,_,_,e,ex,_⟩:=I.hok p _ hk
   refine ⟨⟨o,e,ex.1⟩,fun a e2=>?_⟩
   cases e2
   exact ⟨o,e,ex.2.1⟩
 | _=>exact False.elim ty
noncomputable def AY (K:PySem.W.Frag) (T:String) (r:V->List V->Hp->VK->Prop) (to:TE):TE:=fun σ H Q=>to σ H fun x H1=>MK K T x H1/\r x [] H1 Q
noncomputable def tBM (K:PySem.W.Frag) (T:String) (r:V->List V->Hp->VK->Prop) (to:TE) (t:TA):TE:=fun σ H Q=>to σ H fun x H1=>MK K T x H1/\t σ H1 fun xs H2=>r x xs H2 Q
variable {o e:Expr} {es:List Expr} {to:TE} {t:TA} {name:Str} {apos cpos:Pos} {T id:String} {r:V->List V->Hp->VK->Prop}
theorem yE (pa:PlainAttrs T) (slot:Slot T name id) (hty:typeOf (.builtin id)=pure (.type "method_descriptor")) (hm:MtR X id r) (ho:PE X o to)
  (hbase:attributeBase o name X.env (eval o X.env)=eval o X.env:=by rfl) (hline:(apos.endLine == cpos.line)=true:=by rfl):PE X (.Call (.Attribute o name apos) [] [] cpos) (AY X.K T r to):=by
 intro pins s σ H Q I h
 refine wpAny_Call_method0_late hbase hline (bz (ho pins s σ H _ I h) fun v s1 ⟨x,H1,I1,r1,ty,q1⟩=>?_)
 obtain ⟨h1,h2⟩:=xB I1 r1 ty
 exact ⟨T,id,pa,slot,hty,h1,h2,Calls.callWith_builtin rfl (PySem.evalArgs_none (hm pins s1 σ H1 x [] v [] Q I1 r1 .nil q1))⟩
theorem Ed (pa:PlainAttrs T) (slot:Slot T name id) (hty:typeOf (.builtin id)=pure (.type "method_descriptor")) (hm:MtR X id r) (ho:PE X o to) (ha:PA X (e::es) t)
  (hbase:attributeBase o name X.env (eval o X.env)=eval o X.env:=by rfl)
  (hfew:((backTo cpos (starEach (e::es) X.env)).all (fun x=>!x.1)&&(backToKw cpos (keywordEach [] X.env)).all (fun x=>x.1.isSome)
  &&decide ((e::es).length+([]:List Keyword).length+(if ([]:List Keyword).isEmpty then 0 else 1)<30))=true:=by rfl)
  (hline:(apos.endLine == cpos.line)=true:=by rfl) (hs:starEach (e::es) X.env=(false,eval e X.env)::starEach es X.env:=by rfl) (hplain:(backTo cpos (starEach es X.env)).any (·.1)=false:=by rfl) :
  PE X (.Call (.Attribute o name apos) (e::es) [] cpos) (tBM X.K T r to t):=by
 intro pins s σ H Q I h
 refine wpAny_Call_method_late hbase hfew hline rfl (bz (ho pins s σ H _ I h) fun v s1 ⟨x,H1,I1,r1,ty,q1⟩=>?_)
 obtain ⟨h1,h2⟩:=xB I1 r1 ty
 refine ⟨T,id,pa,slot,hty,h1,h2,?_⟩
 have hA:=ha cpos pins s1 σ H1 _ I1 q1
 rw [hs] at hA ⊢
 refine Calls.callWith_builtin (by show (false||(backTo cpos (starEach es X.env)).any (·.1))=false;rw [hplain] <;> rfl) (Calls.evalArgs_plain ?_)
 exact bz hA fun us s2 ⟨vs,H2,I2,r2,q2⟩=>hm pins s2 σ H2 x vs v us Q I2 r1 r2 q2
end
noncomputable def NP (X:Cx) (id:String) (r:V->List V->Hp->VK->Prop):Prop :=
 ∀ (pins:List (Addr×Obj)) (s:Shared) (σ:St) (H:Hp) (x:V) (xs:List V) (v:Value) (us:List Value) (Q:VK),Inv X pins σ H s->RelV x v->Vals xs us->r x xs H Q ->
  wpAny (model X.prog X.w) X.A (call (.builtin id) (v::us)) (EP X pins σ Q) X.xe s
theorem Vals.one:∀ {x:V} {us:List Value},Vals [x] us->∃ u,us=[u]/\RelV x u
 | _,_,.cons r .nil=>⟨_,rfl,r⟩
theorem Vals.zero:∀ {us:List Value},Vals [] us->us=[]
 | _,.nil=>rfl
theorem Vals.dropLast {xs:List V} {us:List Value} (h:Vals xs us):Vals xs.dropLast us.dropLast:=by
 induction h with
 | nil=>exact .nil
 | cons r t ih =>
  cases t with
  | nil=>exact .nil
  | cons q t'=>exact .cons r ih
theorem Vals.reverse {xs:List V} {us:List Value} (h:Vals xs us):Vals xs.reverse us.reverse:=by
 induction h with
 | nil=>exact .nil
 | cons r t ih=>rw [List.reverse_cons,List.reverse_cons];exact Vals.append ih (.cons r .nil)
theorem sY {α:Type} (l:List α):l.eraseIdx (l.length-1)=l.dropLast:=by
 induction l with
 | nil=>rfl
 | cons a r ih =>
  cases r with
  | nil=>rfl
  | cons b r =>
   have e:(a::b::r).length-1=((b::r).length-1)+1:=by
    have h1:(a::b::r).length=r.length+2:=rfl
    have h2:(b::r).length=r.length+1:=rfl
    omega
   rw [e,List.eraseIdx_cons_succ,ih]
   all_goals rfl
section
variable {X:Cx} {pins:List (Addr×Obj)} {σ:St} {H:Hp} {s:Shared} {l b:Addr} {xs ys zs:List V}
theorem Inv.Cs {its its':List Value} {n:Nat} {f:Array Value->Array Value} {t':Nat} (I:Inv X pins σ H s) (hH:H l=some (.lst xs))
  (e:s.heap.get? l=some { cls:=.type "list", data:=.seq its.toArray n }) (hf:f its.toArray=its'.toArray) (hv:Vals ys its') (hz:ys.length<=sizeLine) :
  Inv X pins σ (upd H l (.lst ys)) { s with heap:=s.heap.update l (Obj.mapSeq f),toks:=t' }:=by
 have q:=PySem.IsL.update e f
 rw [hf] at q
 refine I.write (x:=l) (e:=l) (by rw [hH];exact trivial) (.inl rfl) (fun b' u hb hu=>(Heap.get?_update_other s.heap (Obj.mapSeq f) (Ne.symm hb)).trans hu) ⟨_,q⟩ ?_
 exact ⟨hz,its',_,hv,q⟩
theorem Inv.La {its:List Value} {t':Nat} (I:Inv X pins σ H s) (hv:Vals ys its) (hz:ys.length<=sizeLine) :
  Inv X pins σ (upd H s.heap.objs.size (.lst ys)) { s with heap:=s.heap.push { cls:=.type "list", data:=.seq its.toArray }, toks:=t' } :=
 I.laid (fun _ _ q=>Heap.get?_push_of_some _ q) (Nat.le_refl _) ⟨hz,its,0,hv,Heap.get?_push_size _ rfl⟩
theorem Inv.fresh (I:Inv X pins σ H s):H s.heap.objs.size=none:=I.hok.fresh (Nat.le_refl _)
theorem Inv.Cr (I:Inv X pins σ H s) (hH:H l=some (.lst xs)):xs.length<=sizeLine/\∃ (its:List Value) (n:Nat), Vals xs its/\xs.length=its.length/\s.heap.get? l=some { cls:=.type "list", data:=.seq its.toArray n }:=by
 obtain ⟨z,its,n,r,e⟩:=I.hok l _ hH
 exact ⟨z,its,n,r,r.length,e⟩
theorem yK {n:Nat} (h:n<=sizeLine):Builtin.List.listTooLong n=false:=by
 unfold Builtin.List.listTooLong
 exact decide_eq_false (by omega)
end
section
variable {X:Cx}
noncomputable def nS:V->List V->Hp->VK->Prop:=fun x vs H Q=>∃ l xs y,x=.ref l/\vs=[y]/\H l=some (.lst xs)/\xs.length<sizeLine/\Q .ai (upd H l (.lst (xs++[y])))
theorem m7:NP X "list.append" nS:=by
 intro pins s σ H x vs v us Q I rx rv h
 obtain ⟨l,xs,y,rfl,rfl,hH,hz,q⟩:=h
 cases rx
 obtain ⟨u,rfl,ru⟩:=rv.one
 obtain ⟨z,its,n,r,hl,e⟩:=I.Cr hH
 refine call_meets F.slot_list_append ⟨_,e,rfl⟩ F.entry_list_append (F.args_list_append_2 _ _) (PySem.list_append l its.toArray n u (by rw [List.size_toArray];omega)) ⟨e,?_⟩
 refine ⟨.ai,_,I.Cs (its':=its++[u]) hH e (by simp) (r.append (.cons ru .nil)) ?_,rfl,q⟩
 rw [List.length_append,List.length_singleton]
 omega
noncomputable def FO:V->List V->Hp->VK->Prop:=fun x vs H Q=>∃ l xs y,x=.ref l/\vs=[]/\H l=some (.lst xs)/\xs[xs.length-1]? = some y/\Q y (upd H l (.lst xs.dropLast))
theorem GR:NP X "list.pop" FO:=by
 intro pins s σ H x vs v us Q I rx rv h
 obtain ⟨l,xs,y,rfl,rfl,hH,hy,q⟩:=h
 cases rx
 have hus:=rv.zero
 subst hus
 obtain ⟨z,its,n,r,hl,e⟩:=I.Cr hH
 obtain ⟨u,hu,ru⟩:=r.get hy
 have hy':its.toArray[its.toArray.size-1]? = some u:=by
  show its.toArray[its.length-1]? = some u
  rw [<- Array.getElem?_toList,<- hl]
  exact hu
 refine call_meets F.slot_list_pop ⟨_,e,rfl⟩ F.entry_list_pop (F.args_list_pop_1 _) (MeetsSeq.list_pop_last l its.toArray n u hy' (by rw [List.size_toArray];omega)) ⟨e,?_⟩
 refine ⟨y,_,I.Cs (its':=its.dropLast) hH e ?_ r.dropLast ?_,ru,q⟩
 ·show its.toArray.eraseIdxIfInBounds (its.toArray.size-1)=its.dropLast.toArray
  rw [List.size_toArray,List.eraseIdxIfInBounds_toArray,sY]
 ·rw [List.length_dropLast]
  omega
noncomputable def kN:V->List V->Hp->VK->Prop:=fun x vs H Q=>∃ l xs,x=.ref l/\vs=[]/\H l=some (.lst xs)/\Q .ai (upd H l (.lst xs.reverse))
theorem sd:NP X "list.reverse" kN:=by
 intro pins s σ H x vs v us Q I rx rv h
 obtain ⟨l,xs,rfl,rfl,hH,q⟩:=h
 cases rx
 have hus:=rv.zero
 subst hus
 obtain ⟨z,its,n,r,hl,e⟩:=I.Cr hH
 refine call_meets F.slot_list_reverse ⟨_,e,rfl⟩ F.entry_list_reverse (F.args_list_reverse_1 _) (AutoSeq1.list_reverse_list_0 l its.toArray n (by rw [List.size_toArray];omega)) ⟨e,?_⟩
 refine ⟨.ai,_,I.Cs (its':=its.reverse) hH e (by simp) r.reverse ?_,rfl,q⟩
 rw [List.length_reverse]
 omega
end
section
variable {prog:Program} {w:World} {A:Around} {E:Value->Shared->Prop} {s:Shared}
end
section
variable {X:Cx}
end
section
variable {κ:Type} [DecidableEq κ]
noncomputable def dh (kvs:List (κ×V)) (k:κ):Option V:=(kvs.find? fun kv=>decide (kv.1=k)).map (·.2)
noncomputable def putK (kvs:List (κ×V)) (k:κ) (v:V):List (κ×V) :=
 if (kvs.any fun kv=>decide (kv.1=k))=true then kvs.map (fun kv=>if kv.1=k then (kv.1,v) else kv) else kvs++[(k,v)]
theorem kD {p:κ×V} {r:List (κ×V)} {k:κ} (e:p.1=k):dh (p::r) k=some p.2:=by simp [dh,List.find?_cons,e]
theorem kE {p:κ×V} {r:List (κ×V)} {k:κ} (e:¬ p.1=k):dh (p::r) k=dh r k:=by simp [dh,List.find?_cons,e]
theorem pG (k:κ):∀ kvs:List (κ×V),(kvs.any fun kv=>decide (kv.1=k))=(dh kvs k).isSome
 | []=>rfl
 | p::r=>by
  rw [List.any_cons]
  by_cases e:p.1=k
  ·simp only [kD e,decide_eq_true e,Bool.true_or,Option.isSome_some]
  ·rw [kE e,decide_eq_false e,Bool.false_or];exact pG k r
theorem jI (kvs:List (κ×V)) (k:κ) (v:V):(putK kvs k v).length<=kvs.length+1:=by
 unfold putK
 split
 ·rw [List.length_map];omega
 ·rw [List.length_append,List.length_cons,List.length_nil];omega
theorem iA.ji {o:Option V} {u:Option Value} (r:iA o u):o.isSome=u.isSome:=by
 cases o with
 | none=>cases u with
  | none=>rfl
  | some _=>exact (show False from r).elim
 | some _=>cases u with
  | none=>exact (show False from r).elim
  | some _=>rfl
theorem KV.val {kvs:List (κ×V)} {vs:List (κ×Value)} (r:KV kvs vs) (k:κ):iA (dh kvs k) (valueAt vs k):=by
 unfold KV at r
 induction r with
 | nil=>exact True.intro
 | @cons p q ps qs h t ih =>
  obtain ⟨h1,h2⟩:=h
  by_cases e:p.1=k
  ·have e':q.1=k:=h1.symm.trans e
   have b:valueAt (q::qs) k=some q.2:=by simp [valueAt,List.find?_cons,e']
   rw [kD e,b];exact h2
  ·have e':¬ q.1=k:=fun z=>e (h1.trans z)
   have b:valueAt (q::qs) k=valueAt qs k:=by simp [valueAt,List.find?_cons,e']
   rw [kE e,b];exact ih
theorem KV.any {kvs:List (κ×V)} {vs:List (κ×Value)} (r:KV kvs vs) (k:κ):(kvs.any fun kv=>decide (kv.1=k))=vs.any fun kv=>decide (kv.1=k):=by
 unfold KV at r
 induction r with
 | nil=>rfl
 | cons h t ih=>rw [List.any_cons,List.any_cons,ih,h.1]
theorem KV.repl {kvs:List (κ×V)} {vs:List (κ×Value)} (r:KV kvs vs) (k:κ) {y:V} {u:Value} (ry:RelV y u) :
  KV (kvs.map fun kv=>if kv.1=k then (kv.1,y) else kv) (vs.map fun kv=>if kv.1=k then (kv.1,u) else kv):=by
 unfold KV at r ⊢
 induction r with
 | nil=>exact .nil
 | @cons p q ps qs h t ih =>
  rw [List.map_cons,List.map_cons]
  refine .cons ?_ ih
  obtain ⟨h1,h2⟩:=h
  by_cases e:p.1=k
  ·rw [if_pos e,if_pos (h1.symm.trans e)];exact ⟨h1,ry⟩
  ·rw [if_neg e,if_neg (fun z=>e (h1.trans z))];exact ⟨h1,h2⟩
theorem KV.put {kvs:List (κ×V)} {vs:List (κ×Value)} (r:KV kvs vs) (k:κ) {y:V} {u:Value} (ry:RelV y u):KV (putK kvs k y) (stored vs k u):=by
 unfold putK stored
 rw [r.any k]
 by_cases e:(vs.any fun kv=>decide (kv.1=k))=true
 ·rw [if_pos e,if_pos e];exact r.repl k ry
 ·rw [if_neg e,if_neg e];exact Paired.snoc r ⟨rfl,ry⟩
theorem KV.length {kvs:List (κ×V)} {vs:List (κ×Value)} (r:KV kvs vs):kvs.length=vs.length:=Paired.length r
end
theorem qo {P:Program} {w:World} {k:Key} {u:Value} (r:RelV (kV k) u):(aT P w).is k u=true:=by
 cases k with
 | inl i=>obtain ⟨t,e⟩:=(show ∃ t,u=Value.int i t from r);subst e;exact qj P w i t
 | inr x=>obtain ⟨t,e⟩:=(show ∃ t,u=Value.str x t from r);subst e;exact qi P w x t
theorem nc {P:Program} {w:World}:∀ {ks:List Key} {us:List Value},Vals (ks.map kV) us->ItemsAre (aT P w) ks us
 | [],_,r=>by rw [List.map_nil] at r;cases r;exact .nil
 | k::ks,_,r=>by
  rw [List.map_cons] at r
  cases r with
  | cons h t=>exact .cons (qo h) (nc t)
noncomputable abbrev KT (H:Hp):List (List Key×V)->List (List Key×Addr×Value)->Prop:=Paired fun p q=>p.1=q.1/\H q.2.1=some (.tup (p.1.map kV))/\RelV p.2 q.2.2
theorem KT.val {H:Hp} {kvs:List (List Key×V)} {xs:List (List Key×Addr×Value)} (r:KT H kvs xs) (k:List Key):iA (dh kvs k) ((atKey xs k).map (·.2)):=by
 induction r with
 | nil=>exact True.intro
 | @cons p q ps qs h t ih =>
  obtain ⟨h1,_,h2⟩:=h
  by_cases e:p.1=k
  ·have e':q.1=k:=h1.symm.trans e
   have b:atKey (q::qs) k=some q.2:=by simp [atKey,List.find?_cons,e']
   rw [kD e,b];exact h2
  ·have e':¬ q.1=k:=fun z=>e (h1.trans z)
   have b:atKey (q::qs) k=atKey qs k:=by simp [atKey,List.find?_cons,e']
   rw [kE e,b];exact ih
theorem KT.repl {H:Hp} {kvs:List (List Key×V)} {xs:List (List Key×Addr×Value)} (r:KT H kvs xs) (k:List Key) {y:V} {u:Value} (ry:RelV y u) :
  KT H (kvs.map fun kv=>if kv.1=k then (kv.1,y) else kv) (xs.map (putAt k u)):=by
 induction r with
 | nil=>exact .nil
 | @cons p q ps qs h t ih =>
  rw [List.map_cons,List.map_cons]
  refine .cons ?_ ih
  obtain ⟨h1,h2,h3⟩:=h
  unfold putAt
  by_cases e:p.1=k
  ·rw [if_pos e,if_pos (h1.symm.trans e)];exact ⟨h1,h2,ry⟩
  ·rw [if_neg e,if_neg (fun z=>e (h1.trans z))];exact ⟨h1,h2,h3⟩
theorem KT.put {H:Hp} {kvs:List (List Key×V)} {xs:List (List Key×Addr×Value)} (r:KT H kvs xs) (k:List Key) {b:Addr} {y:V} {u:Value} (hb:H b=some (.tup (k.map kV))) (ry:RelV y u) :
  KT H (putK kvs k y) (storedH xs k b u):=by
 have e:(kvs.any fun kv=>decide (kv.1=k))=(atKey xs k).isSome:=by
  rw [pG,(r.val k).ji,Option.isSome_map]
 unfold putK storedH
 rw [e]
 by_cases q:(atKey xs k).isSome=true
 ·rw [if_pos q,if_pos q];exact r.repl k ry
 ·rw [if_neg q,if_neg q];exact Paired.snoc r ⟨rfl,hb,ry⟩
theorem KT.keeps {H H':Hp} {kvs:List (List Key×V)} {xs:List (List Key×Addr×Value)} (r:KT H kvs xs) (ht:∀ b ys,H b=some (.tup ys)->H' b=some (.tup ys)):KT H' kvs xs :=
 Paired.GS r fun _ _ z=>⟨z.1,ht _ _ z.2.1,z.2.2⟩
section
variable {P:Program} {w:World} {H:Hp} {h:Heap} {a:Addr}
theorem D4 {u:HO} (ok:gO P w H h) (e:Rd H a u):bD P w H h a u:=e.ok ok
theorem EM {kvs:List (Key×V)} (ok:gO P w H h) (e:Rd H a (.dK kvs)):kvs.length<=sizeLine/\(a == sysModules)=false/\∃ vs,KV kvs vs/\h.DictOf (aT P w) a vs :=
 show bD P w H h a (.dK kvs) from D4 ok e
theorem Mc {kvs:List (Key×V)} (ok:gO P w H h) (e:H a=some (.dK kvs)):kvs.length<=sizeLine/\(a == sysModules)=false/\∃ vs,KV kvs vs/\h.DictOf (aT P w) a vs:=EM ok (.inl e)
theorem zl {ks:List Key} (ok:gO P w H h) (e:H a=some (.tup (ks.map kV))):(tupleKind (aT P w)).is h ks a:=by
 obtain ⟨_,its,r,o,h1,h2,n,h3⟩:=(show bD P w H h a (.tup (ks.map kV)) from ok a _ e)
 exact ⟨o,its.toArray,n,h1,h2,h3,by simpa using nc r⟩
theorem Ma {kvs:List (List Key×V)} (ok:gO P w H h) (e:Rd H a (.dT kvs)):kvs.length<=sizeLine/\(a == sysModules)=false /\
  ∃ xs,KT H kvs xs/\h.DictOfH (tupleKind (aT P w)) a xs:=by
 obtain ⟨z,y,xs,r,o,es,ep,h1,h2,h3,h4,h5⟩:=(show bD P w H h a (.dT kvs) from D4 ok e)
 refine ⟨z,y,xs,r,o,es,ep,h1,h2,h3,h4,fun x hx=>?_,h5⟩
 have all:∀ {l:List (List Key×V)} {m:List (List Key×Addr×Value)},KT H l m->∀ x∈m,(tupleKind (aT P w)).is h x.1 x.2.1:=by
  intro l m q
  induction q with
  | nil=>intro x hx;exact nomatch hx
  | @cons p q ps qs hq t ih =>
   intro x hx
   rcases List.mem_cons.mp hx with e | hx
   ·subst e
    exact zl ok (by rw [<- hq.1];exact hq.2.1)
   ·exact ih x hx
 exact all r x hx
theorem Mb {kvs:List (List Key×V)} (ok:gO P w H h) (e:H a=some (.dT kvs)):kvs.length<=sizeLine/\(a == sysModules)=false /\
  ∃ xs,KT H kvs xs/\h.DictOfH (tupleKind (aT P w)) a xs:=Ma ok (.inl e)
end
noncomputable def DJ (H:Hp) (a:Addr) (y:V) (r:Option V):Prop :=
 (∃ kvs k,Rd H a (.dK kvs)/\y=kV k/\r=dh kvs k)\/∃ kvs k b,Rd H a (.dT kvs)/\y=.ref b/\H b=some (.tup (k.map kV))/\r=dh kvs k
noncomputable def tR (H:Hp) (a:Addr) (y v:V) (H':Hp):Prop :=
 (∃ kvs k,H a=some (.dK kvs)/\y=kV k/\kvs.length<sizeLine/\H'=upd H a (.dK (putK kvs k v))) \/
 ∃ kvs k b,H a=some (.dT kvs)/\y=.ref b/\H b=some (.tup (k.map kV))/\kvs.length<sizeLine/\H'=upd H a (.dT (putK kvs k v))
theorem DJ.k {H:Hp} {a:Addr} {kvs:List (Key×V)} {k:Key} (e:H a=some (.dK kvs)):DJ H a (kV k) (dh kvs k):=.inl ⟨kvs,k,.inl e,rfl,rfl⟩
theorem DJ.t {H:Hp} {a b:Addr} {kvs:List (List Key×V)} {k:List Key} (e:H a=some (.dT kvs)) (eb:H b=some (.tup (k.map kV))):DJ H a (.ref b) (dh kvs k):=.inr ⟨kvs,k,b,.inl e,rfl,eb,rfl⟩
theorem tR.k {H:Hp} {a:Addr} {kvs:List (Key×V)} {k:Key} {v:V} (e:H a=some (.dK kvs)) (hl:kvs.length<sizeLine):tR H a (kV k) v (upd H a (.dK (putK kvs k v))):=.inl ⟨kvs,k,e,rfl,hl,rfl⟩
theorem tR.t {H:Hp} {a b:Addr} {kvs:List (List Key×V)} {k:List Key} {v:V} (e:H a=some (.dT kvs)) (eb:H b=some (.tup (k.map kV))) (hl:kvs.length<sizeLine) :
  tR H a (.ref b) v (upd H a (.dT (putK kvs k v))):=.inr ⟨kvs,k,b,e,rfl,eb,hl,rfl⟩
section
variable {X:Cx} {pins:List (Addr×Obj)} {σ:St} {H:Hp} {s:Shared} {a:Addr} {y v:V} {u r:Value} {o:Option V} {A:Around} {E:Value->Shared->Prop}
theorem vp {h':Heap} {t':Nat} {ob:HO} (I:Inv X pins σ H s) (mu:MB (H a)) (hs:Heap.SameBut a s.heap h') (he:∃ q,h'.get? a=some q) (new:bD X.prog X.w (upd H a ob) h' a ob) :
  Inv X pins σ (upd H a ob) { s with heap:=h',toks:=t' } :=
 I.write (x:=a) (e:=a) mu (.inl rfl) (fun b q hb z=>(hs.2 b hb).trans z) he new
theorem Iv {P:Program} {w:World} {H':Hp} {h':Heap} {kvs:List (Key×V)} {vs:List (Key×Value)} (z:kvs.length<=sizeLine) (hd:(a == sysModules)=false) (rel:KV kvs vs) (dd:h'.DictOf (aT P w) a vs) :
  bD P w H' h' a (.dK kvs):=⟨z,hd,vs,rel,dd⟩
theorem wO {H':Hp} {Q:Unit->Shared->Prop} (hu:A.units+1<cLine) (I:Inv X pins σ H s) (g:tR H a y v H') (ry:RelV y u) (rv:RelV v r) (h:∀ s',Inv X pins σ H' s'->Q () s') :
  wpAny (model X.prog X.w) A (setItem (.ref a) u r) Q E s:=by
 rcases g with ⟨kvs,k,e,ey,l,eH⟩ | ⟨kvs,k,b,e,ey,eb,l,eH⟩
 ·subst ey eH
  obtain ⟨z,hd,vs,rel,dd⟩:=Mc I.hok e
  have hz:vs.length<=sizeLine:=by rw [<- rel.length];exact z
  have hl:(putK kvs k v).length<=sizeLine:=by have:=jI kvs k v;omega
  refine wpAny_setItem_pairs (hsz:=hz) (qo ry) dd fun h' Iw hs=>h _ ?_
  have he:∃ q,h'.get? a=some q:=let ⟨q,_,_,hq,_⟩:=Iw;⟨q,hq⟩
  exact vp I (by rw [e];exact True.intro) hs he (Iv hl hd (rel.put k rv) Iw)
 ·subst ey eH
  cases (show u=Value.ref b from ry)
  obtain ⟨z,hd,xs,rel,dd⟩:=Mb I.hok e
  have hz:xs.length<=sizeLine:=by rw [<- Paired.length rel];exact z
  have hl:(putK kvs k v).length<=sizeLine:=by have:=jI kvs k v;omega
  refine wpAny_setItem_heap (hsz:=hz) (tupleKind_room_in1 hu) (zl I.hok eb) dd fun h' Iw hs=>h _ ?_
  obtain ⟨q,es,ep,hq,h2,h3,h4,_,h5⟩:=Iw
  refine vp I (by rw [e];exact True.intro) hs ⟨q,hq⟩ ⟨hl,hd,_,(rel.put k eb rv).keeps fun c ys ec=>?_,q,es,ep,hq,h2,h3,h4,h5⟩
  rw [au (K0 ec e (fun z=>nomatch z))]
  exact ec
end
section
variable {X:Cx} {pins:List (Addr×Obj)} {σ:St} {H:Hp} {s:Shared} {a:Addr} {kvs:List (Key×V)} {k:Key} {u:Value} {A:Around} {E:Value->Shared->Prop}
end
section
variable {X:Cx} {o i e value:Expr} {pos pos' tpos:Pos} {td ty tv:TE}
end
section
variable {X:Cx} {pos:Pos}
end
structure M1 (X:Cx) (o:Expr) (m:Str) (apos:Pos) (e:Expr) (cpos:Pos):Prop where
 base:attributeBase o m X.env (eval o X.env)=eval o X.env
 few:((backTo cpos (starEach [e] X.env)).all (fun x=>!x.1)&&(backToKw cpos (keywordEach [] X.env)).all (fun x=>x.1.isSome)
 &&decide (([e]:List Expr).length+([]:List Keyword).length+(if ([]:List Keyword).isEmpty then 0 else 1)<30))=true
 line:(apos.endLine == cpos.line)=true
 trees:backTo cpos (starEach [e] X.env)=[(false,eval e X.env)]
structure M2 (X:Cx) (o:Expr) (m:Str) (apos:Pos) (e f:Expr) (cpos:Pos):Prop where
 base:attributeBase o m X.env (eval o X.env)=eval o X.env
 few:((backTo cpos (starEach [e,f] X.env)).all (fun x=>!x.1)&&(backToKw cpos (keywordEach [] X.env)).all (fun x=>x.1.isSome)
 &&decide (([e,f]:List Expr).length+([]:List Keyword).length+(if ([]:List Keyword).isEmpty then 0 else 1)<30))=true
 line:(apos.endLine == cpos.line)=true
 trees:backTo cpos (starEach [e,f] X.env)=[(false,eval e X.env),(false,eval f X.env)]
section
variable {X:Cx} {pins:List (Addr×Obj)} {σ:St} {H:Hp} {s:Shared} {a:Addr} {y d:V} {u r:Value} {o:Option V} {A:Around} {E:Value->Shared->Prop}
end
section
variable {X:Cx} {o e f:Expr} {apos cpos:Pos} {td ty tx:TE}
end
section
variable {X:Cx} {pins:List (Addr×Obj)} {σ:St} {H:Hp} {s:Shared} {a:Addr} {kvs:List (Key×V)} {A:Around} {E:Value->Shared->Prop}
end
section
variable {X:Cx} {pins:List (Addr×Obj)} {σ:St} {H:Hp} {s:Shared} {a:Addr} {y:V} {u:Value} {A:Around} {E:Value->Shared->Prop}
end
end L2
namespace Att
open PySem PySem.W PySem.Calls PyProof.Rows
theorem jY {P:Params} {h:Heap}:∀ (ns:List Int) (vs:List Value),WellAll P h vs (ns.map WData.int)->IntsAre vs ns:=by
 intro ns
 induction ns with
 | nil =>
  intro vs w
  rw [List.map_nil] at w
  cases w
  exact .nil
 | cons n ns ih =>
  intro vs w
  rw [List.map_cons] at w
  cases w with
  | cons a b =>
   cases a
   exact .cons _ _ (ih _ b)
theorem vU {l:OpenLaw} {n:Nat} (hn:l.most=some n) {P:Params} {h:Heap} {args:List WData} {vals:List Value}
  (hpre:l.row.toRowW.claim.pre args=true) (hwl:WellAll P h vals args) :
  ∃ a vs ns, vals=[Value.ref a]/\args=[WData.list (ns.map WData.int)]/\h.get? a=some { cls:=.type "list", data:=.seq vs.toArray }/\IntsAre vs ns/\ns.length<=n:=by
 have hsh:WShape.hasAll [] args [.list .int]=true:=(pre_splitW hpre).1
 have hc:l.pre.holds [] { args:=args }=true:=(pre_splitW hpre).2
 obtain ⟨d,r,rfl,h1,h2⟩:=hasAllW_cons hsh
 obtain rfl:=hasAllW_nil h2
 obtain ⟨xs,rfl,h3⟩:=hasW_list h1
 obtain ⟨ns,rfl⟩:=items_int h3
 have hlen:ns.length<=n:=by
  unfold OpenLaw.pre at hc
  have h4:(WTm.not (.lt (.lit (.int (n:Int))) (.len (.arg 0)))).holds [] { args:=[.list (ns.map .int)] }=true:=by
   have h4:=(holds_andW hc).1
   rw [hn] at h4
   exact h4
  have h5:=condW_of h4 (w_not (w_lt w_lit (w_len_list (w_arg rfl))))
  rw [List.length_map] at h5
  refine Nat.le_of_not_lt fun q=>?_
  have q':(n:Int)<((ns.length:Nat):Int):=by omega
  first
   | (rw [decide_eq_true q'] at h5;exact absurd h5 (by decide))
   | (simp at h5;omega)
 cases hwl with
 | cons w1 w2 =>
  cases w2
  cases w1 with
  | list ho hall=>exact ⟨_,_,ns,rfl,rfl,ho,jY ns _ hall,hlen⟩
theorem vY (l:OpenLaw) (args:List WData):l.row.toRowW.claim.post args (.bool true) args=true :=
 postW_of (r:=l.row.toRowW) (X:=(true == true))
  (show WShape.has [] (.bool true) .bool=true by first | rfl | decide | simp [WShape.has,WShape.arms,WShape.armsAll])
  (show (WTm.eq .res (.lit (.bool true))).value [] { args:=args,res:=some (.bool true),after:=args }=some (.bool (true == true)) from w_eq_bool (w_res rfl) w_lit) rfl
theorem qS {l:OpenLaw} {n:Nat} {q:Program} {loose:List Str} {XP:(Str->Option Value)->Heap->Prop} {YP:World->Heap->Prop} {d:DefRec}
  (hn:l.most=some n) (hdf:d.params.defaults=[])
  (call:∀ (w:World) (s₀ s₁:Shared) (mg mb:Str->Option Value) (fa:Addr) (o:Obj) (pm cd doc:Value) (a:Addr) (vs:List Value) (ns:List Int),
   Ground q loose [] XP w s₀ mg mb s₁.heap->YP w s₁.heap ->
   s₁.heap.get? fa=some o->o.data=.func (docDef d.name d.params d.body d.scope pm cd doc)->s₁.heap.CodeRec cd d.name->mg d.name=some (.ref fa) ->
   s₁.heap.get? a=some { cls:=.type "list", data:=.seq vs.toArray }->IntsAre vs ns->ns.length<=n->s₁.gens=#[] ->
   codeAny (model l.prog w) callerA (.call (.ref fa) ⟨[.ref a],[]⟩) (fun r s'=>r=.ok (.ret (.bool true))/\OldK s₁.heap s'.heap/\s'.os=s₁.os/\AllBare s'.gens) s₁) :
  WalkO q loose XP YP l.row.toRowW d [] (fun f vs=>PySem.call f vs):=by
 intro w s₀ s₁ mg mb G Y fa o pm cd doc dV kV ho hd hcd hD hmg hg args vals as hpre hlay hrd hwl hlo
 obtain rfl:dV=.none:=Dflts.none hD hdf
 obtain rfl:kV=.none:=Dflts.noKw hD
 obtain ⟨a,vs,ns,rfl,rfl,hobj,hints,hlen⟩:=vU hn hpre hwl
 refine enter_call (codeAny_mono (call w s₀ s₁ mg mb fa o pm cd doc a vs ns G Y ho (fd_plain hd) hcd hmg hobj hints hlen hg) fun r s' hq=>?_)
 obtain ⟨rfl,h2,h3,h4⟩:=hq
 exact ⟨.inl ⟨.bool true,.bool true,[],rfl,fun _=>rfl,.bool true,vY l _,fun _=>⟨List.Pairwise.nil,fun _ hm=>(nomatch hm)⟩⟩,h2,h3,h4⟩
section
variable {prog:Program} {w:World} {A:Around} {E:Value->Shared->Prop} {s:Shared} {K:Frag}
end
end Att
namespace L2
open PySem PySem.Spec PyProof.Rows
theorem mJ:∀ {vs:List Value} {ns:List Int},IntsAre vs ns->Vals (ns.map V.int) vs
 | _,_,.nil=>.nil
 | _,_,.cons n t h=>.cons ⟨t,rfl⟩ (mJ h)
noncomputable def MA (H:Hp):Prop:=∀ b,H b=none\/∃ o xs,H b=some (.gA o (.lst xs))
theorem zk {P:Program} {w:World} {K:PySem.W.Frag} {mg mb:Str->Option Value} {CX:AH} {k:Nat} {fa a:Addr} {fd:FuncData} {x:Str} {sp:Sp} {s₁:Shared} {vs:List Value} {ns:List Int}
  (KX:K.In s₁.heap) (hns:s₁.heap.Ns mainGlobals mg) (hb:s₁.heap.Ns builtinsNs mb) (hbb:∀ x:Str, x≠"__name__"->mb x=bootBuiltins x) (hlim:s₁.heap.NoLimit) (hg:s₁.gens=#[])
  (ha:s₁.heap.get? a=some { cls:=.type "list", data:=.seq vs.toArray }) (hi:IntsAre vs ns) (hl:ns.length<=sizeLine) (hr:cX k callerA)
  (F:∀ base:Heap,K.In base->base.Ns mainGlobals mg->cS P w K mg base CX k fa fd [x] sp) (hbind:∀ (s:Shared) (u:Value),BindsTo s fd ⟨[u],[]⟩ [(x,u)])
  (Jl:∀ H:Hp,MA H->gb K H a (ns.map V.int)->sp [.ref a] H (fun v _=>v=.bl true) fun _ _ _=>False)
  (hCX:∀ H e s',CX [] H s₁ (fun _ _ _=>False) e s'->False) :
  codeAny (model P w) callerA (.call (.ref fa) ⟨[.ref a],[]⟩) (fun r s'=>r=.ok (.ret (.bool true))/\OldK s₁.heap s'.heap/\s'.os=s₁.os/\AllBare s'.gens) s₁:=by
 have rv:=mJ hi
 have lenV:=hi.length
 have core:∀ H:Hp,MA H->gb K H a (ns.map V.int)->gO P w H s₁.heap->(∀ b,H b≠none->b=a)->(H a≠none->K.lookup a=none) ->
   codeAny (model P w) callerA (.call (.ref fa) ⟨[.ref a],[]⟩) (fun r s'=>r=.ok (.ret (.bool true))/\OldK s₁.heap s'.heap/\s'.os=s₁.os/\AllBare s'.gens) s₁:=by
  intro H hO hS hok hA hK
  have kr:∀ {b:Addr} {o:Obj},s₁.heap.get? b=some o->H b=none->(oj s₁.heap H).get? b=some o:=fun e n=>zJ e n
  have KU:∀ {b:Addr} {o:Obj} {es:Array DictEntry} {ep:Nat},s₁.heap.get? b=some o->o.data=.dict es ep->H b=none:=fun {b o es ep} e d=>by
   cases q:H b with
   | none=>rfl
   | some u =>
    have e':b=a:=hA b (by rw [q];simp)
    subst e'
    rw [ha] at e;cases e
    have d':Data.seq vs.toArray _=Data.dict es ep:=d
    cases d'
  have MZ:∀ {b:Addr} {m:Str->Option Value},s₁.heap.Ns b m->(oj s₁.heap H).Ns b m:=fun {b m} ⟨o,es,ep,e,d,r⟩=>⟨o,es,ep,kr e (KU e d),d,r⟩
  have hKb:K.In (oj s₁.heap H):=fun b o e=>kr (KX b o e) (by
   cases q:H b with
   | none=>rfl
   | some u =>
    have e':b=a:=hA b (by rw [q];simp)
    subst e'
    rw [hK (by rw [q];simp)] at e;cases e)
  have hM:Mod K mg (oj s₁.heap H):=⟨hKb,MZ hns,⟨mb,MZ hb,hbb⟩,let ⟨mc,h1,h2⟩:=hlim;⟨mc,MZ h1,h2⟩⟩
  have e0:tQ P w K mg (oj s₁.heap H) callerA [] s₁ H:=⟨rfl,hM,fun b o e=>Cf e,Nat.le_of_eq (wH _ _),trivial,fun b hb=>absurd (show b∈([]:List Addr) from hb) (by simp),hok,.of_eq hg⟩
  refine codeAny_mono ((F _ hKb (MZ hns)).run callerA [] s₁ H ⟨[.ref a],[]⟩ [.ref a] [.ref a] _ _ hr e0 (hbind s₁ (.ref a)) (.cons rfl .nil) (Jl H hO hS)) fun r s' h=>?_
  cases r with
  | error e=>exact (hCX H e s' h).elim
  | ok fl =>
   cases fl with
   | next=>exact False.elim h
   | brk=>exact False.elim h
   | cont=>exact False.elim h
   | ret u =>
    obtain ⟨v,H',os,bare,un,hok',r',q⟩:=h
    have q':v=.bl true:=q
    subst q'
    obtain rfl:u=Value.bool true:=r'
    refine ⟨rfl,OldK.of_keep fun b o e=>?_,os,bare⟩
    cases q:H b with
    | none=>exact un.keep b o e q (by intro z;exact absurd (show b∈([]:List Addr) from z) (by simp)) (by simp)
    | some u =>
     rcases hO b with z | ⟨ob,xs,z⟩
     ·rw [q] at z;cases z
     ·have z2:=un.gH b ob _ z
      obtain ⟨e1,_⟩:=hok b _ z
      obtain ⟨e2,_⟩:=hok' b _ z2
      rw [e] at e1;cases e1
      exact e2
 cases hk:K.lookup a with
 | some o =>
  have e:=KX a o hk
  rw [ha] at e
  cases e
  refine core (fun _=>none) (fun _=>.inl rfl) (.inr ⟨_,vs.toArray,_,hk,rfl,rfl,rfl,by rw [List.size_toArray,lenV];exact hl,by simpa using rv⟩) (fun b u z=>by have z':(none:Option HO)=some u:=z;cases z') (fun b z=>absurd rfl z) fun z=>absurd rfl z
 | none =>
  refine core (fun b=>if b=a then some (.gA { cls:=.type "list", data:=.seq vs.toArray } (.lst (ns.map V.int))) else none) (fun b=>?_) (.inl (.inr ⟨{ cls:=.type "list", data:=.seq vs.toArray }, if_pos rfl⟩)) (fun b u z=>?_) (fun b z=>?_) fun _=>hk
  ·by_cases hb:b=a
   ·exact .inr ⟨_,_,if_pos hb⟩
   ·exact .inl (if_neg hb)
  ·by_cases hb:b=a
   ·have z':=(if_pos hb).symm.trans z
    cases z'
    subst hb
    exact ⟨ha,by rw [List.length_map];exact hl,vs,_,rv,ha⟩
   ·have z':=(if_neg hb).symm.trans z
    cases z'
  ·by_cases hb:b=a
   ·exact hb
   ·exact absurd (if_neg hb) z
noncomputable abbrev CX0:AH:=fun _ _ _ _ _ _=>False
structure Fun (K:PySem.W.Frag) (x qual:Str) (st:Stmt) (f:Addr) (fd:FuncData):Prop where
 ex:∃ (oc:Value) (od:Option Addr) (kV doc pm:Value) (an:Option Addr) (cdv ct:Value) (osl:Array (Option Value)),
  fd=PySem.W.fnOf x qual (i0 st) (cK st) (aH st) .none kV doc pm an cdv ct/\K.lookup f=some ⟨oc,od,.func fd,osl⟩/\PySem.W.codeIn K cdv qual=true
 kp:PySem.W.keepIn K (.ref f)=true
section
variable {P:Program} {w:World} {K:PySem.W.Frag} {mg:Str->Option Value} {base:Heap}
theorem Fun.ok {x qual:Str} {st:Stmt} {f:Addr} {fd:FuncData} {N ps:List Str} {k:Nat} {sp:Sp} (F:Fun K x qual st f fd) (S:d7 N ps (aH st)) (len:∀ vs H Q E,sp vs H Q E->vs.length=ps.length)
  (hbody:∀ (cdv:Value) (A:Around) (outer:List Env) (s:Shared) (H:Hp) (vs:List V) (Q:VK) (E:XK),cX k (A.deeper (envOfC qual (aH st) s.heap.objs.size f cdv))->sp vs H Q E ->
   ∃ t,ku (i6 CX0 P w K mg base N qual (aH st) f cdv A outer s H E).Eg (cK st) t/\t { nx:=fun _ H'=>Q .ai H',rt:=Q } (start N vs) H):cS P w K mg base CX0 (k+1) f fd ps sp:=by
 obtain ⟨oc,od,kV,doc,pm,an,cdv,ct,osl,rfl,lk,hcd⟩:=F.ex
 refine Ey lk hcd S len fun A outer s H vs Q E hr Jl=>?_
 obtain ⟨t,h,q⟩:=hbody cdv A outer s H vs Q E hr Jl
 exact ⟨t,h.Eg,q⟩
end
section
variable {X:Cx}
end
noncomputable def xj (H H':Hp):Prop:=∀ b o,H b=some o->H' b=some o
theorem xj.trans {H H1 H2:Hp} (a:xj H H1) (b:xj H1 H2):xj H H2:=fun c o h=>b c o (a c o h)
theorem xj.free {H H':Hp} (e:xj H H') {l:Addr} (h:H' l=Option.none):H l=Option.none:=by
 cases q:H l with
 | none=>rfl
 | some o =>
  rw [e l o q] at h
  cases h
section
variable {κ:Type} [DecidableEq κ]
end
end L2
end
section
namespace Fg
open PySem
section
variable {Φ:aY} {σ:Sg} {M:MH}
@[simp] theorem mC {i:Nat}:ev Φ (.v i) σ M=match σ[i]? with | some (some d)=>.ok d M | _=>.bad:=rfl
@[simp] theorem wN {d:D}:ev Φ (.k d) σ M=.ok d M:=rfl
@[simp] theorem ev_g {i:Nat}:ev Φ (.g i) σ M=match Φ.glob i with | some d=>.ok d M | none=>.bad:=rfl
@[simp] theorem bH {es:Es}:ev Φ (.tup es) σ M=(cV Φ es σ M).bind fun ds M1=>.ok (.tup ds) M1:=rfl
@[simp] theorem sW {fz:Bool} {es:Es}:ev Φ (.lst fz es) σ M=(cV Φ es σ M).bind fun ds M1=>cF fz ds M1:=rfl
@[simp] theorem NI:ev Φ .Dg σ M=.ok (.ref M.length) (M++[.dct []]):=rfl
@[simp] theorem iW {o:DF} {fz:Bool} {a b:E}:ev Φ (.op o fz a b) σ M=(ev Φ a σ M).bind fun x M1=>(ev Φ b σ M1).bind fun y M2=>rq o fz M2 x y:=rfl
@[simp] theorem Ii {a:E}:ev Φ (.neg a) σ M=(ev Φ a σ M).bind fun x M1=>match x with | .int i=>.ok (.int (-i)) M1 | _=>.bad:=rfl
@[simp] theorem eB {o:AG} {a b:E}:ev Φ (.cmp o a b) σ M=(ev Φ a σ M).bind fun x M1=>(ev Φ b σ M1).bind fun y M2=>bu o M2 x y:=rfl
@[simp] theorem LW {o o':AG} {a b c:E}:ev Φ (.chain o o' a b c) σ M=(ev Φ a σ M).bind fun x M1=>(ev Φ b σ M1).bind fun y M2=>(bu o M2 x y).bind fun t M3=>match t with
  | .bl true=>(ev Φ c σ M3).bind fun z M4=>bu o' M4 y z
  | .bl false=>.ok (.bl false) M3
  | _=>.bad:=rfl
@[simp] theorem jx {a b:E}:ev Φ (.and a b) σ M=(ev Φ a σ M).bind fun x M1=>match x with | .bl true=>(ev Φ b σ M1) | .bl false=>.ok (.bl false) M1 | _=>.bad:=rfl
@[simp] theorem LU {a b:E}:ev Φ (.or a b) σ M=(ev Φ a σ M).bind fun x M1=>match x with | .bl true=>.ok (.bl true) M1 | .bl false=>(ev Φ b σ M1) | _=>.bad:=rfl
@[simp] theorem zY {a:E}:ev Φ (.not a) σ M=(ev Φ a σ M).bind fun x M1=>match x with | .bl b=>.ok (.bl (!b)) M1 | _=>.bad:=rfl
@[simp] theorem Ik {c a b:E}:ev Φ (.AL c a b) σ M=(ev Φ c σ M).bind fun x M1=>match x with | .bl true=>ev Φ a σ M1 | .bl false=>ev Φ b σ M1 | _=>.bad:=rfl
@[simp] theorem oJ {a b:E}:ev Φ (.idx a b) σ M=(ev Φ a σ M).bind fun x M1=>(ev Φ b σ M1).bind fun y M2=>n9 M2 x y:=rfl
@[simp] theorem ED {fz:Bool} {a:E} {lo hi:O}:ev Φ (.sl fz a lo hi) σ M=(ev Φ a σ M).bind fun x M1=>(CY Φ lo σ M1).bind fun l M2=>(CY Φ hi σ M2).bind fun h M3=>sl2 fz M3 x l h:=rfl
@[simp] theorem bh {f:Nat} {es:Es}:ev Φ (.call f es) σ M=(cV Φ es σ M).bind fun ds M1=>Φ.call f ds M1:=rfl
@[simp] theorem ev_isi {a:E} {t:Ty}:ev Φ (.fV a t) σ M=(ev Φ a σ M).bind fun x M1=>if yH M1 x then .ok (.bl (HM M1 t x)) M1 else .bad:=rfl
@[simp] theorem sX {b:Bl} {fz:Bool} {es:Es}:ev Φ (.blt b fz es) σ M=(cV Φ es σ M).bind fun ds M1=>tK b fz M1 ds:=rfl
@[simp] theorem jw {m:Mt} {fz:Bool} {a:E} {es:Es}:ev Φ (.aG m fz a es) σ M=(ev Φ a σ M).bind fun x M1=>if qh m M1 x then (cV Φ es σ M1).bind fun ds M2=>gZ m fz M2 x ds else .bad:=rfl
@[simp] theorem oK {fz:Bool} {caps tg:List Nat} {elt:E} {it:Src} {cond:O}:ev Φ (.comp fz caps tg elt it cond) σ M=(bO Φ it σ M).bind fun p M1 =>
   ((bL (nj Φ cond) (ev Φ elt) tg (bq M1 p.1) p.2.1 (iz σ caps++List.replicate tg.length none) M1 []).fin (fU p.2.2 p.1)).bind fun ds M2=>cF fz ds M2:=rfl
@[simp] theorem fJ {a:E} {f:Str}:ev Φ (.fld a f) σ M=(ev Φ a σ M).bind fun x M1=>match x with
  | .ref n=>match M1[n]? with
   | some (.ins _ fs)=>match fs.lookup f with
    | some d=>.ok d M1
    | none=>.bad
   | _=>.bad
  | _=>.bad:=rfl
@[simp] theorem Ig {c m:Nat} {nm:Str} {a:E} {es:Es}:ev Φ (.dS c m nm a es) σ M=(ev Φ a σ M).bind fun x M1=>match x with
  | .ref n=>match M1[n]? with
   | some (.ins c' fs)=>if decide (c'=c)&&(fs.lookup nm).isNone then (cV Φ es σ M1).bind fun ds M2=>Φ.call m (.ref n::ds) M2 else .bad
   | _=>.bad
  | _=>.bad:=rfl
@[simp] theorem Ih {c i:Nat} {es:Es}:ev Φ (.new c i es) σ M=(cV Φ es σ M).bind fun ds M1=>(Φ.ini i (.ref M1.length::ds) (M1++[.ins c []])).bind fun r M2=>match r with
  | .ai=>.ok (.ref M1.length) M2
  | _=>.bad:=rfl
@[simp] theorem LV {hi:Bool} {a b:E}:ev Φ (.mx hi a b) σ M=(ev Φ a σ M).bind fun x M1=>(ev Φ b σ M1).bind fun y M2=>match x,y with
  | .int i,.int j=>.ok (.int (if hi then (if j > i then j else i) else (if j<i then j else i))) M2
  | _,_=>.bad:=rfl
@[simp] theorem ev_lrg {fz:Bool} {a b:E}:ev Φ (.M6 fz a b) σ M=(ev Φ a σ M).bind fun x M1=>(ev Φ b σ M1).bind fun y M2=>match x,y with
  | .int i,.int j=>if mZ i&&(mZ j&&decide ((j-i).toNat<=line)) then cF fz (eK i j) M2 else .bad
  | _,_=>.bad:=rfl
@[simp] theorem Il {f:F1} {a:E}:ev Φ (.ou f a) σ M=(ev Φ a σ M).bind fun x M1=>match wM f x with
  | some d=>.ok d M1
  | none=>.bad:=rfl
@[simp] theorem Ij {fz:Bool} {a:E}:ev Φ (.Ct fz a) σ M=(ev Φ a σ M).bind fun x M1=>match x with
  | .int j=>if mZ j then cF fz (eK 0 j) M1 else .bad
  | _=>.bad:=rfl
@[simp] theorem ev_rv {fz:Bool} {a:E}:ev Φ (.rv fz a) σ M=(ev Φ a σ M).bind fun x M1=>match vw M1 x with
  | .lst ds=>cF fz ds.reverse M1
  | _=>.bad:=rfl
@[simp] theorem NJ {a:E}:ev Φ (.all1 a) σ M=(ev Φ a σ M).bind fun x M1=>match vw M1 x with
  | .lst ds=>match boolsOf ds with
   | some bs=>.ok (.bl (bs.all id)) M1
   | none=>.bad
  | _=>.bad:=rfl
@[simp] theorem cy:cV Φ .nil σ M=.ok [] M:=rfl
@[simp] theorem aQ {e:E} {es:Es}:cV Φ (.cons e es) σ M=(ev Φ e σ M).bind fun x M1=>(cV Φ es σ M1).bind fun xs M2=>.ok (x::xs) M2:=rfl
@[simp] theorem LQ:CY Φ .none σ M=.ok none M:=rfl
@[simp] theorem zU {e:E}:CY Φ (.some e) σ M=(ev Φ e σ M).bind fun x M1=>match x with | .int i=>.ok (some i) M1 | _=>.bad:=rfl
@[simp] theorem zX:nj Φ .none σ M=.ok (.bl true) M:=rfl
@[simp] theorem zW {e:E}:nj Φ (.some e) σ M=ev Φ e σ M:=rfl
@[simp] theorem LS {a:E}:bO Φ (.e a) σ M=(ev Φ a σ M).bind fun x M1=>match itemsOf M1 x with | some ds=>.ok (x,ds,wk M1 x) (walk M1 x) | none=>.bad:=rfl
@[simp] theorem C5 {a:E}:bO Φ (.eF a) σ M=(ev Φ a σ M).bind fun x M1=>match x with
  | .int j=>if mZ j then .ok (.ai,eK 0 j,false) M1 else .bad
  | _=>.bad:=rfl
@[simp] theorem LR {a b:E}:bO Φ (.FI a b) σ M=(ev Φ a σ M).bind fun x M1=>(ev Φ b σ M1).bind fun y M2=>match vB x,vB y with
  | some i,some j=>if mZ i&&mZ j then .ok (.ai,eK i j,false) M2 else .bad
  | _,_=>.bad:=rfl
@[simp] theorem NH {a:E}:bO Φ (.rev a) σ M=(ev Φ a σ M).bind fun x M1=>match uL x with
  | some ds=>.ok (.ai,ds.reverse,false) M1
  | none=>.bad:=rfl
@[simp] theorem zZ {f:Nat} {es:Es} {d:Int}:ev Φ (.gW f es d) σ M=(cV Φ es σ M).bind fun ds M1=>Φ.call f (ds++[.int d]) M1:=rfl
@[simp] theorem NG {a b:E}:bO Φ (.zip a b) σ M=(ev Φ a σ M).bind fun x M1=>(ev Φ b σ M1).bind fun y M2=>match CO x,CO y with
  | some ds,some es=>.ok (.ai,Jy ds es,false) M2
  | _,_=>.bad:=rfl
@[simp] theorem Ic {i:Nat} {e:E}:ex Φ (.set i e) σ M=(ev Φ e σ M).use σ fun x M1=>.ok (.nx (σ.set i (some x))) M1:=rfl
@[simp] theorem CW {a b e:E}:ex Φ (.mh a b e) σ M=(ev Φ e σ M).use σ fun x M1=>(ev Φ a σ M1).use σ fun y M2=>(ev Φ b σ M2).use σ fun z M3=>(kI M3 y z x).use σ fun _ M4=>.ok (.nx σ) M4:=rfl
@[simp] theorem u6 {a:E} {f:Str} {e:E}:ex Φ (.bZ a f e) σ M=(ev Φ e σ M).use σ fun x M1=>(ev Φ a σ M1).use σ fun y M2=>match y with
  | .ref n=>match M2[n]? with
   | some (.ins c fs)=>if decide (fs.length<1000) then .ok (.nx σ) (M2.set n (.ins c (bV f x fs))) else .bad
   | _=>.bad
  | _=>.bad:=rfl
@[simp] theorem CZ:C0 Φ .nil σ M=.ok () M:=rfl
@[simp] theorem zV {e:E} {es:Es}:C0 Φ (.cons e es) σ M=(ev Φ e σ M).bind fun x M1=>if bY x then C0 Φ es σ M1 else .bad:=rfl
@[simp] theorem zT {c:Nat} {es:Es}:ex Φ (.raise c es) σ M=(C0 Φ es σ M).use σ fun _ M1=>.ok (.xc c σ) M1:=rfl
@[simp] theorem zS {b:Ss} {hs:Hs} {els:Ss}:ex Φ (.try b hs els) σ M=(exs Φ b σ M).bind fun o M1=>match o with
  | .nx σ1=>exs Φ els σ1 M1
  | .xc c σ1=>AN Φ hs c σ1 M1
  | o=>.ok o M1:=rfl
@[simp] theorem NB {c:Nat}:AN Φ .nil c σ M=.bad:=rfl
@[simp] theorem qF {cs:List Nat} {b:Ss} {hs:Hs} {c:Nat}:AN Φ (.cons cs b hs) c σ M=if cs.any (fun d=>Φ.sub c d) then exs Φ b σ M else AN Φ hs c σ M:=rfl
@[simp] theorem sV {tg:List Nat} {e:E}:ex Φ (.nJ tg e) σ M=(ev Φ e σ M).use σ fun x M1=>match sets tg M1 x σ with | some σ1=>.ok (.nx σ1) M1 | none=>.bad:=rfl
@[simp] theorem LN {e:E}:ex Φ (.ex e) σ M=(ev Φ e σ M).use σ fun _ M1=>.ok (.nx σ) M1:=rfl
@[simp] theorem ex_ret {e:E}:ex Φ (.ret e) σ M=(ev Φ e σ M).use σ fun x M1=>.ok (.rt x) M1:=rfl
@[simp] theorem NC:ex Φ .FJ σ M=.ok (.rt .ai) M:=rfl
@[simp] theorem iw {c:E} {a b:Ss}:ex Φ (.ifs c a b) σ M=(ev Φ c σ M).use σ fun t M1=>match t with | .bl true=>exs Φ a σ M1 | .bl false=>exs Φ b σ M1 | _=>.bad:=rfl
@[simp] theorem Ie {tg:List Nat} {it:Src} {b:Ss}:ex Φ (.for tg it b) σ M=(bO Φ it σ M).use σ fun p M1=>(bK (exs Φ b) tg (bq M1 p.1) p.2.1 σ M1).fin (fU p.2.2 p.1):=rfl
@[simp] theorem bC {c:E} {b:Ss}:ex Φ (.while c b) σ M=aA (ev Φ c) (exs Φ b) Φ.turns σ M:=rfl
@[simp] theorem ex_brk:ex Φ .brk σ M=.ok (.bk σ) M:=rfl
@[simp] theorem NF:ex Φ .cont σ M=.ok (.ct σ) M:=rfl
@[simp] theorem ND:ex Φ .pass σ M=.ok (.nx σ) M:=rfl
@[simp] theorem Nz:exs Φ .nil σ M=.ok (.nx σ) M:=rfl
@[simp] theorem cu {s:S} {ss:Ss}:exs Φ (.cons s ss) σ M=(ex Φ s σ M).bind fun o M1=>match o with | .nx σ1=>exs Φ ss σ1 M1 | o=>.ok o M1:=rfl
end
@[simp] theorem fin_ok {α:Type} {a:α} {M:MH} {f:MH->MH}:(R.ok a M).fin f=.ok a (f M):=rfl
@[simp] theorem Nv {α:Type} {c:Nat} {M:MH} {f:MH->MH}:(R.exc c M:R α).fin f=.exc c (f M):=rfl
@[simp] theorem Nx {α:Type} {f:MH->MH}:(R.bad:R α).fin f=.bad:=rfl
@[simp] theorem unwk_f {d:D} {M:MH}:fU false d M=M:=by cases d <;> rfl
@[simp] theorem u0 {α:Type} {x:R α} {d:D}:x.fin (fU false d)=x:=by cases x <;> simp
@[simp] theorem wk_tup {M:MH} {ds:List D}:wk M (.tup ds)=false:=rfl
@[simp] theorem wk_lst {M:MH} {ds:List D}:wk M (.lst ds)=false:=rfl
@[simp] theorem wk_str {M:MH} {x:Str}:wk M (.str x)=false:=rfl
@[simp] theorem Jz {M:MH} {ds:List D}:walk M (.tup ds)=M:=rfl
@[simp] theorem JB {M:MH} {ds:List D}:walk M (.lst ds)=M:=rfl
@[simp] theorem JA {M:MH} {x:Str}:walk M (.str x)=M:=rfl
theorem j8 {α:Type} {l:List α} {n:Nat} {a b:α} (h:l[n]? = some a):(l.set n b)[n]? = some b:=by
 obtain ⟨q,_⟩:=List.getElem?_eq_some_iff.mp h
 exact List.getElem?_set_self q
theorem eY {P:mD} {k i:Nat} {ds:List D} {M:MH} {fn:Fn} (h:P.fn i=some fn):(aa P (k+1)).call i ds M=mj (aa P k) fn ds M:=by simp only [aa,h]
@[simp] theorem IE {P:mD} {k:Nat}:(aa P k).glob=P.glob:=by cases k <;> rfl
@[simp] theorem aO {P:mD} {k:Nat}:(aa P k).turns=P.turns:=by cases k <;> rfl
@[simp] theorem wY {P:mD} {k:Nat}:(aa P k).sub=P.sub:=by cases k <;> rfl
@[simp] theorem bf {α:Type} {a:α} {l:List α}:dc (a::l) 0=some a:=by
 have:(0:Int)<((a::l).length:Int):=by simp only [List.length_cons];omega
 simp only [dc,sH,if_pos (Int.le_refl 0),if_pos this];rfl
@[simp] theorem gX {α:Type} {a b:α} {l:List α}:dc (a::b::l) 1=some b:=by
 have:(1:Int)<((a::b::l).length:Int):=by simp only [List.length_cons];omega
 simp only [dc,sH,if_pos (show (0:Int)<=1 by decide),if_pos this];rfl
@[simp] theorem jV {α:Type} {a b c:α} {l:List α}:dc (a::b::c::l) 2=some c:=by
 have:(2:Int)<((a::b::c::l).length:Int):=by simp only [List.length_cons];omega
 simp only [dc,sH,if_pos (show (0:Int)<=2 by decide),if_pos this];rfl
@[simp] theorem lW {α:Type} {a b c d:α} {l:List α}:dc (a::b::c::d::l) 3=some d:=by
 have:(3:Int)<((a::b::c::d::l).length:Int):=by simp only [List.length_cons];omega
 simp only [dc,sH,if_pos (show (0:Int)<=3 by decide),if_pos this];rfl
@[simp] theorem EI:aN D.ai D.ai=true:=by simp only [aN]
@[simp] theorem EJ {x:Int}:aN (D.int x) D.ai=false:=by simp only [aN]
@[simp] theorem jS {x:Int} {y:Int}:aN (D.int x) (D.int y)=decide (x=y):=by simp only [aN]
@[simp] theorem EG {x:Str} {y:Str}:aN (D.str x) (D.str y)=decide (x=y):=by simp only [aN]
@[simp] theorem EF {x:List D}:aN (D.tup x) D.ai=false:=by simp only [aN]
@[simp] theorem qH {x:List D} {y:List D}:aN (D.tup x) (D.tup y)=dN x y:=by simp only [aN]
@[simp] theorem cR {x:List D} {y:List D}:aN (D.lst x) (D.lst y)=dN x y:=by simp only [aN]
@[simp] theorem NK:dN [] []=true:=by simp only [dN]
@[simp] theorem C7 {a:D} {l:List D}:dN (a::l) []=false:=by simp only [dN]
@[simp] theorem NL {a:D} {l:List D}:dN [] (a::l)=false:=by simp only [dN]
@[simp] theorem C8 {a b:D} {l m:List D}:dN (a::l) (b::m)=(aN a b&&dN l m):=by simp only [dN]
section
variable {Φ:aY} {σ σ':Sg} {M M1 M2:MH} {e c:E} {x:D} {ss a b:Ss} {i:Nat}
theorem aq (h:ev Φ e σ M=.ok x M1):exs Φ (.cons (.set i e) ss) σ M=exs Φ ss (σ.set i (some x)) M1:=by simp [h]
theorem aJ (h:ev Φ e σ M=.ok x M1):exs Φ (.cons (.ex e) ss) σ M=exs Φ ss σ M1:=by simp [h]
theorem aP (h:ev Φ e σ M=.ok x M1):exs Φ (.cons (.ret e) ss) σ M=.ok (.rt x) M1:=by simp [h]
theorem aK (h:ev Φ c σ M=.ok (.bl false) M1):exs Φ (.cons (.ifs c a .nil) ss) σ M=exs Φ ss σ M1:=by simp [h]
theorem je (h:ev Φ c σ M=.ok (.bl false) M1) (hb:exs Φ b σ M1=.ok (.nx σ') M2):exs Φ (.cons (.ifs c a b) ss) σ M=exs Φ ss σ' M2:=by simp [h,hb]
theorem jF (h:ev Φ c σ M=.ok (.bl true) M1) (ha:exs Φ a σ M1=.ok (.nx σ') M2):exs Φ (.cons (.ifs c a b) ss) σ M=exs Φ ss σ' M2:=by simp [h,ha]
theorem bR (h:ev Φ c σ M=.ok (.bl true) M1) (ha:exs Φ a σ M1=.ok (.rt x) M2):exs Φ (.cons (.ifs c a b) ss) σ M=.ok (.rt x) M2:=by simp [h,ha]
theorem DZ {tg:List Nat} {it:Src} {d:D} {ds:List D} (h:bO Φ it σ M=.ok (d,ds,false) M1) (hl:bK (exs Φ b) tg (bq M1 d) ds σ M1=.ok (.nx σ') M2):exs Φ (.cons (.for tg it b) ss) σ M=exs Φ ss σ' M2:=by simp [h,hl]
theorem FA {tg:List Nat} {it:Src} {d:D} {ds:List D} (h:bO Φ it σ M=.ok (d,ds,false) M1) (hl:bK (exs Φ b) tg (bq M1 d) ds σ M1=.ok (.rt x) M2):exs Φ (.cons (.for tg it b) ss) σ M=.ok (.rt x) M2:=by simp [h,hl]
theorem aI {P:mD} {k f:Nat} {fn:Fn} {ds:List D} {d:D} {M':MH} {r:R D} (hf:P.fn f=some fn) (hn:ds.length=fn.np) (hb:exs (aa P k) fn.body (ds.map some++List.replicate (fn.ns-fn.np) none) M=.ok (.rt d) M') (hr:eL fn.keep M d M'=r):(aa P (k+1)).call f ds M=r:=by
 rw [eY hf]
 have h1:ds.length+fn.lR.length-fn.np=fn.lR.length:=by omega
 simp only [mj,h1,List.drop_length,List.append_nil,hb]
 rw [if_pos (by simp;omega)]
 exact hr
theorem cM {M:MH} {d:D} {M':MH} (h:nr M.length d=true) (ht:M'.take M.length=M):eL false M d M'=.ok d M:=by
 unfold eL;rw [if_pos ⟨rfl,ht⟩,if_pos h]
end
theorem Ce {n:Nat} (h:n<=1000000):mZ (n:Int)=true:=by simp only [mZ,decide_eq_true_eq];omega
@[simp] theorem MT {M:MH} {ds:List D}:yH M (.tup ds)=true:=rfl
@[simp] theorem MX {M:MH} {ds:List D}:yH M (.lst ds)=true:=rfl
@[simp] theorem MY {M:MH} {i:Int}:yH M (.int i)=true:=rfl
@[simp] theorem MU {M:MH} {x:Str}:yH M (.str x)=true:=rfl
@[simp] theorem okT_bl {M:MH} {b:Bool}:yH M (.bl b)=true:=rfl
@[simp] theorem MV {M:MH}:yH M .ai=true:=rfl
end Fg
end
section
namespace Fg
open PySem L2
structure Bd where
 K:W.Frag
 dk:Addr->List (Key×V)->Prop
 cls:Nat->Option Addr
 exc:Nat->Value->Prop
 MI:Nat->Option Addr
noncomputable def KTup (K:W.Frag) (a:Addr) (xs:List V):Prop :=
 ∃ (o:Obj) (its:Array Value) (n:Nat), K.lookup a=some o/\o.cls=.type "tuple"/\o.data=.seq its n/\its.size<=sizeLine/\Vals xs its.toList
noncomputable def KLst (K:W.Frag) (a:Addr) (xs:List V):Prop :=
 ∃ (o:Obj) (its:Array Value) (n:Nat), K.lookup a=some o/\o.cls=.type "list"/\o.dict=none/\o.data=.seq its n/\its.size<=sizeLine/\Vals xs its.toList
noncomputable def FzT (B:Bd) (F:Addr->Prop) (H:Hp) (a:Addr) (xs:List V):Prop:=(F a/\Rd H a (.tup xs))\/KTup B.K a xs
noncomputable def FzL (B:Bd) (F:Addr->Prop) (H:Hp) (a:Addr) (xs:List V):Prop:=(F a/\Rd H a (.lst xs))\/KLst B.K a xs
noncomputable def FzD (B:Bd) (F:Addr->Prop) (H:Hp) (a:Addr) (kvs:List (Key×V)):Prop:=(F a/\Rd H a (.dK kvs))\/B.dk a kvs
theorem FzT.sq {B:Bd} {F:Addr->Prop} {H:Hp} {a:Addr} {xs:List V} (h:FzT B F H a xs):jD B.K H a xs:=by
 rcases h with ⟨_,h⟩ | h
 ·exact .inl h
 ·exact .inr h
theorem FzL.sq {B:Bd} {F:Addr->Prop} {H:Hp} {a:Addr} {xs:List V} (h:FzL B F H a xs):gb B.K H a xs:=by
 rcases h with ⟨_,h⟩ | h
 ·exact .inl h
 ·exact .inr h
mutual
noncomputable def RD (B:Bd) (F:Addr->Prop) (ρ:List Addr) (H:Hp):D->V->Prop
 | .ai,v=>v=.ai
 | .bl b,v=>v=.bl b
 | .int i,v=>v=.int i
 | .str x,v=>v=.str x
 | .tup ds,v=>∃ a vs,v=.ref a/\FzT B F H a vs/\ak B F ρ H ds vs
 | .lst ds,v=>∃ a vs,v=.ref a/\FzL B F H a vs/\ak B F ρ H ds vs
 | .dct ks ds,v=>∃ a kvs,v=.ref a/\FzD B F H a kvs/\kvs.map (·.1)=ks/\ak B F ρ H ds (kvs.map (·.2))
 | .ref n,v=>∃ a,ρ[n]? = some a/\v=.ref a
noncomputable def ak (B:Bd) (F:Addr->Prop) (ρ:List Addr) (H:Hp):List D->List V->Prop
 | [],vs=>vs=[]
 | d::ds,vs=>∃ v ws,vs=v::ws/\RD B F ρ H d v/\ak B F ρ H ds ws
end
structure Ext0 (F:Addr->Prop) (ρ:List Addr) (H:Hp) (F':Addr->Prop) (ρ':List Addr) (H':Hp):Prop where
 s:∀ a∈ρ,¬ F a
 f:∀ a,F a->F' a
 h:∀ a,H a≠none->a∉ρ->H' a=H a
 r:ρ <+: ρ'
 n:∀ a∈ρ',a∈ρ\/H a=none
 g:∀ a,F' a->F a\/(H a=none\/a∈ρ)
structure qY (F:Addr->Prop) (ρ:List Addr) (H:Hp) (F':Addr->Prop) (ρ':List Addr) (H':Hp):Prop where
 f:∀ a,F a->F' a
 k:∀ a,F a->H a≠none->H' a=H a
 r:ρ <+: ρ'
theorem Ext0.LO {F F':Addr->Prop} {ρ ρ':List Addr} {H H':Hp} (e:Ext0 F ρ H F' ρ' H'):qY F ρ H F' ρ' H':=⟨e.f,fun a fa h=>e.h a h fun z=>e.s a z fa,e.r⟩
section
variable {B:Bd} {F F' F1:Addr->Prop} {ρ ρ' ρ1:List Addr} {H H' H1:Hp}
theorem D5 {a:Addr} {u:HO} (h:Rd H a u):H a≠none:=by
 rcases h with h | ⟨o,h⟩ <;> rw [h] <;> simp
theorem qY.rd (e:qY F ρ H F' ρ' H') {a:Addr} {u:HO} (f:F a) (h:Rd H a u):Rd H' a u:=by
 have q:=e.k a f (D5 h)
 rcases h with h | ⟨o,h⟩
 ·exact .inl (q.trans h)
 ·exact .inr ⟨o,q.trans h⟩
theorem qY.at (e:qY F ρ H F' ρ' H') {n:Nat} {a:Addr} (h:ρ[n]? = some a):ρ'[n]? = some a:=by
 obtain ⟨t,rfl⟩:=e.r
 have hn:n<ρ.length:=by
  rcases Nat.lt_or_ge n ρ.length with q | q
  ·exact q
  ·rw [List.getElem?_eq_none_iff.mpr q] at h;cases h
 rw [List.getElem?_append_left hn];exact h
mutual
theorem RD.bB (e:qY F ρ H F' ρ' H'):∀ (d:D) (v:V),RD B F ρ H d v->RD B F' ρ' H' d v
 | .ai,v,h=>h
 | .bl _,v,h=>h
 | .int _,v,h=>h
 | .str _,v,h=>h
 | .tup ds,v,h=>by
  simp only [RD] at h ⊢
  obtain ⟨a,vs,h1,h2,h3⟩:=h
  refine ⟨a,vs,h1,?_,ak.bB e ds vs h3⟩
  rcases h2 with ⟨f,r⟩ | h2
  ·exact .inl ⟨e.f a f,e.rd f r⟩
  ·exact .inr h2
 | .lst ds,v,h=>by
  simp only [RD] at h ⊢
  obtain ⟨a,vs,h1,h2,h3⟩:=h
  refine ⟨a,vs,h1,?_,ak.bB e ds vs h3⟩
  rcases h2 with ⟨f,r⟩ | h2
  ·exact .inl ⟨e.f a f,e.rd f r⟩
  ·exact .inr h2
 | .dct ks ds,v,h=>by
  simp only [RD] at h ⊢
  obtain ⟨a,kvs,h1,h2,h4,h3⟩:=h
  refine ⟨a,kvs,h1,?_,h4,ak.bB e ds _ h3⟩
  rcases h2 with ⟨f,r⟩ | h2
  ·exact .inl ⟨e.f a f,e.rd f r⟩
  ·exact .inr h2
 | .ref n,v,h=>by
  simp only [RD] at h ⊢
  obtain ⟨a,h1,h2⟩:=h
  exact ⟨a,e.at h1,h2⟩
theorem ak.bB (e:qY F ρ H F' ρ' H'):∀ (ds:List D) (vs:List V),ak B F ρ H ds vs->ak B F' ρ' H' ds vs
 | [],vs,h=>h
 | d::ds,vs,h=>by
  simp only [ak] at h ⊢
  obtain ⟨v,ws,h1,h2,h3⟩:=h
  exact ⟨v,ws,h1,RD.bB e d v h2,ak.bB e ds ws h3⟩
end
theorem Ext0.at (e:Ext0 F ρ H F' ρ' H') {n:Nat} {a:Addr} (h:ρ[n]? = some a):ρ'[n]? = some a:=e.LO.at h
theorem RD.bJ (e:Ext0 F ρ H F' ρ' H') (d:D) (v:V) (h:RD B F ρ H d v):RD B F' ρ' H' d v:=RD.bB e.LO d v h
theorem ak.bJ (e:Ext0 F ρ H F' ρ' H') (ds:List D) (vs:List V) (h:ak B F ρ H ds vs):ak B F' ρ' H' ds vs:=ak.bB e.LO ds vs h
structure Ext (F:Addr->Prop) (ρ:List Addr) (H:Hp) (F':Addr->Prop) (ρ':List Addr) (H':Hp):Prop extends Ext0 F ρ H F' ρ' H' where
 z:∀ a o u,H a=some (.gA o u)->H' a=some (.gA o u)
theorem RD.mono (e:Ext F ρ H F' ρ' H') (d:D) (v:V) (h:RD B F ρ H d v):RD B F' ρ' H' d v:=RD.bJ e.toExt0 d v h
theorem ak.mono (e:Ext F ρ H F' ρ' H') (ds:List D) (vs:List V) (h:ak B F ρ H ds vs):ak B F' ρ' H' ds vs:=ak.bJ e.toExt0 ds vs h
theorem Ext.trans (a:Ext F ρ H F1 ρ1 H1) (b:Ext F1 ρ1 H1 F' ρ' H'):Ext F ρ H F' ρ' H' where
 s:=a.s
 f:=fun x h=>b.f x (a.f x h)
 h:=fun x h1 h2=>by
  have q:=a.h x h1 h2
  have n1:x∉ρ1:=fun z=>(a.n x z).elim h2 h1
  exact (b.h x (by rw [q];exact h1) n1).trans q
 r:=List.IsPrefix.trans a.r b.r
 n:=fun x hx=>by
  rcases b.n x hx with q | q
  ·exact a.n x q
  ·by_cases hr:x∈ρ
   ·exact .inl hr
   ·refine .inr ?_
    cases hh:H x with
    | none=>rfl
    | some u =>
     have:=a.h x (by rw [hh];simp) hr
     rw [q,hh] at this;cases this
 g:=fun x hx=>by
  rcases b.g x hx with q | q | q
  ·exact a.g x q
  ·by_cases hr:x∈ρ
   ·exact .inr (.inr hr)
   ·refine .inr (.inl ?_)
    cases hh:H x with
    | none=>rfl
    | some u =>
     have:=a.h x (by rw [hh];simp) hr
     rw [q,hh] at this;cases this
  ·rcases a.n x q with z | z
   ·exact .inr (.inr z)
   ·exact .inr (.inl z)
 z:=fun x o u h=>b.z x o u (a.z x o u h)
theorem Ext.refl (s:∀ a∈ρ,¬ F a):Ext F ρ H F ρ H:=⟨⟨s,fun _ h=>h,fun _ _ _=>rfl,List.prefix_refl _,fun _ h=>.inl h,fun _ h=>.inl h⟩,fun _ _ _ h=>h⟩
end
noncomputable def MR (B:Bd) (F:Addr->Prop) (ρ:List Addr) (H:Hp):MO->Addr->Prop
 | .lst ds,a=>∃ vs,H a=some (.lst vs)/\ak B F ρ H ds vs
 | .dct kvs,a=>∃ kws,H a=some (.dK kws)/\kws.map (·.1)=kvs.map (·.1)/\ak B F ρ H (kvs.map (·.2)) (kws.map (·.2))
 | .pD kvs,a=>∃ o kws,H a=some (.gA o (.dK kws))/\kws.map (·.1)=kvs.map (·.1)/\ak B F ρ H (kvs.map (·.2)) (kws.map (·.2))
 | .ins c fs,a=>∃ C dx fQ,B.cls c=some C/\H a=some (.ins C dx fQ)/\fQ.map (·.1)=fs.map (·.1)/\ak B F ρ H (fs.map (·.2)) (fQ.map (·.2))
theorem MR.bB {B:Bd} {F F':Addr->Prop} {ρ ρ':List Addr} {H H':Hp} (e:qY F ρ H F' ρ' H') {a:Addr} (ha:H' a=H a):∀ {o:MO},MR B F ρ H o a->MR B F' ρ' H' o a
 | .lst ds,⟨vs,h1,h2⟩=>⟨vs,ha.trans h1,ak.bB e _ _ h2⟩
 | .dct kvs,⟨kws,h1,h2,h3⟩=>⟨kws,ha.trans h1,h2,ak.bB e _ _ h3⟩
 | .pD kvs,⟨o,kws,h1,h2,h3⟩=>⟨o,kws,ha.trans h1,h2,ak.bB e _ _ h3⟩
 | .ins c fs,⟨C,dx,fQ,h0,h1,h2,h3⟩=>⟨C,dx,fQ,h0,ha.trans h1,h2,ak.bB e _ _ h3⟩
theorem MR.bJ {B:Bd} {F F':Addr->Prop} {ρ ρ':List Addr} {H H':Hp} (e:Ext0 F ρ H F' ρ' H') {a:Addr} (ha:H' a=H a) {o:MO} (h:MR B F ρ H o a):MR B F' ρ' H' o a:=h.bB e.LO ha
theorem MR.mono {B:Bd} {F F':Addr->Prop} {ρ ρ':List Addr} {H H':Hp} (e:Ext F ρ H F' ρ' H') {a:Addr} (ha:H' a=H a) {o:MO} (h:MR B F ρ H o a):MR B F' ρ' H' o a:=h.bJ e.toExt0 ha
theorem MR.ne {B:Bd} {F:Addr->Prop} {ρ:List Addr} {H:Hp} {a:Addr}:∀ {o:MO},MR B F ρ H o a->H a≠none
 | .lst ds,⟨vs,h1,h2⟩=>by rw [h1];simp
 | .dct kvs,⟨kws,h1,_⟩=>by rw [h1];simp
 | .pD kvs,⟨o,kws,h1,_⟩=>by rw [h1];simp
 | .ins c fs,⟨C,dx,fQ,_,h1,_⟩=>by rw [h1];simp
structure SR (B:Bd) (F:Addr->Prop) (ρ:List Addr) (M:MH) (H:Hp):Prop where
 len:ρ.length=M.length
 nd:ρ.Nodup
 sep:∀ a∈ρ,¬ F a
 CP:∀ a,F a->H a≠none
 obj:∀ (n:Nat) (a:Addr) (o:MO),ρ[n]? = some a->M[n]? = some o->MR B F ρ H o a
section
variable {B:Bd} {F F' F1:Addr->Prop} {ρ ρ' ρ1:List Addr} {H H' H1:Hp} {M M':MH}
theorem SR.ne (S:SR B F ρ M H) {a:Addr} (h:a∈ρ):H a≠none:=by
 obtain ⟨n,hn,e⟩:=List.mem_iff_getElem.mp h
 have hm:n<M.length:=by rw [<- S.len];exact hn
 exact (S.obj n a M[n] (by rw [List.getElem?_eq_getElem hn,e]) (List.getElem?_eq_getElem hm)).ne
theorem SR.new (S:SR B F ρ M H) {p:Addr} (h:H p=none):p∉ρ/\¬ F p:=⟨fun z=>S.ne z h,fun z=>S.CP p z h⟩
theorem SR.refl (S:SR B F ρ M H):Ext F ρ H F ρ H:=Ext.refl S.sep
theorem SR.fz (S:SR B F ρ M H) {p:Addr} (h:H p=none) (o:HO):SR B (fun a=>F a\/a=p) ρ M (upd H p o)/\Ext F ρ H (fun a=>F a\/a=p) ρ (upd H p o):=by
 obtain ⟨np,nf⟩:=S.new h
 have e:Ext F ρ H (fun a=>F a\/a=p) ρ (upd H p o):=⟨⟨S.sep,fun a q=>.inl q,fun a q _=>au (by rintro rfl;exact q h),List.prefix_refl _,fun a q=>.inl q,fun a q=>q.elim .inl fun z=>.inr (.inl (z ▸ h))⟩,fun b w u q=>by rw [au (by rintro rfl;rw [h] at q;cases q)];exact q⟩
 refine ⟨⟨S.len,S.nd,fun a ha z=>?_,fun a z=>?_,fun n a u h1 h2=>?_⟩,e⟩
 ·rcases z with z | z
  ·exact S.sep a ha z
  ·subst z;exact np ha
 ·by_cases q:a=p
  ·subst q;rw [aD];simp
  ·rw [au q]
   rcases z with z | z
   ·exact S.CP a z
   ·exact absurd z q
 ·have m:=S.obj n a u h1 h2
  exact m.mono e (au (by rintro rfl;exact m.ne h))
theorem SR.lv (S:SR B F ρ M H) {p:Addr} (h:H p=none) {o:HO} {u:MO} (hu:MR B F (ρ++[p]) (upd H p o) u p):SR B F (ρ++[p]) (M++[u]) (upd H p o)/\Ext F ρ H F (ρ++[p]) (upd H p o):=by
 obtain ⟨np,nf⟩:=S.new h
 have e:Ext F ρ H F (ρ++[p]) (upd H p o):=⟨⟨S.sep,fun a q=>q,fun a q _=>au (by rintro rfl;exact q h),List.prefix_append _ _,fun a q=>by
  rcases List.mem_append.mp q with q | q
  ·exact .inl q
  ·rw [List.mem_singleton.mp q];exact .inr h,fun _ q=>.inl q⟩,fun b w u q=>by rw [au (by rintro rfl;rw [h] at q;cases q)];exact q⟩
 refine ⟨⟨by simp [S.len],?_,fun a ha z=>?_,fun a z=>?_,fun n a w h1 h2=>?_⟩,e⟩
 ·rw [List.nodup_append]
  refine ⟨S.nd,by simp,fun a ha b hb=>?_⟩
  rw [List.mem_singleton.mp hb]
  rintro rfl
  exact np ha
 ·rcases List.mem_append.mp ha with q | q
  ·exact S.sep a q z
  ·rw [List.mem_singleton.mp q] at z;exact nf z
 ·have q:a≠p:=by rintro rfl;exact nf z
  rw [au q];exact S.CP a z
 ·by_cases hn:n<ρ.length
  ·rw [List.getElem?_append_left hn] at h1
   rw [List.getElem?_append_left (by rw [<- S.len];exact hn)] at h2
   have m:=S.obj n a w h1 h2
   exact m.mono e (au (by rintro rfl;exact m.ne h))
  ·have hn':ρ.length<=n:=Nat.le_of_not_lt hn
   rw [List.getElem?_append_right hn'] at h1
   rw [List.getElem?_append_right (by rw [<- S.len];exact hn'),<- S.len] at h2
   cases k:n-ρ.length with
   | zero =>
    rw [k] at h1 h2
    cases h1;cases h2
    exact hu
   | succ j=>rw [k] at h1;simp at h1
theorem SR.jX (S:SR B F ρ M H) {n:Nat} {a:Addr} {o:HO} {u:MO} (hn:ρ[n]? = some a) (hu:MR B F ρ (upd H a o) u a):SR B F ρ (M.set n u) (upd H a o)/\Ext0 F ρ H F ρ (upd H a o):=by
 have ha:a∈ρ:=List.mem_of_getElem? hn
 have e:Ext0 F ρ H F ρ (upd H a o):=⟨S.sep,fun _ q=>q,fun b q nb=>au (by rintro rfl;exact nb ha),List.prefix_refl _,fun _ q=>.inl q,fun _ q=>.inl q⟩
 refine ⟨⟨by simp [S.len],S.nd,S.sep,fun b z=>?_,fun m b w h1 h2=>?_⟩,e⟩
 ·have q:b≠a:=by rintro rfl;exact S.sep b ha z
  rw [au q];exact S.CP b z
 ·by_cases q:m=n
  ·subst q
   rw [hn] at h1;cases h1
   rw [List.getElem?_set] at h2
   split at h2
   ·split at h2
    ·cases h2;exact hu
    ·cases h2
   ·rename_i z;exact absurd rfl z
  ·rw [List.getElem?_set_ne (Ne.symm q)] at h2
   have ne:b≠a:=by
    rintro rfl
    obtain ⟨m1,e1⟩:=List.getElem?_eq_some_iff.mp h1
    obtain ⟨m2,e2⟩:=List.getElem?_eq_some_iff.mp hn
    exact q ((List.getElem_inj S.nd).mp (e1.trans e2.symm))
   exact (S.obj m b w h1 h2).bJ e (au ne)
theorem SR.st (S:SR B F ρ M H) {n:Nat} {a:Addr} {o:HO} {u:MO} (hn:ρ[n]? = some a) (hz:∀ w v,H a≠some (.gA w v)) (hu:MR B F ρ (upd H a o) u a):SR B F ρ (M.set n u) (upd H a o)/\Ext F ρ H F ρ (upd H a o) :=
 ⟨(S.jX hn hu).1,⟨(S.jX hn hu).2,fun b w v q=>by rw [au (by rintro rfl;exact hz w v q)];exact q⟩⟩
theorem Ext0.at_ (S:SR B F ρ M H) {n:Nat} {a:Addr} {o:HO} (hn:ρ[n]? = some a):Ext0 F ρ H F ρ (upd H a o) :=
 ⟨S.sep,fun _ q=>q,fun b q nb=>au (by rintro rfl;exact nb (List.mem_of_getElem? hn)),List.prefix_refl _,fun _ q=>.inl q,fun _ q=>.inl q⟩
theorem qY.side {D:Addr} (hF:¬ F D) (o:HO):qY F ρ H F ρ (upd H D o):=⟨fun _ h=>h,fun a fa _=>au (by rintro rfl;exact hF fa),List.prefix_refl _⟩
theorem SR.side (S:SR B F ρ M H) {D:Addr} (hD:D∉ρ) (hF:¬ F D) (o:HO):SR B F ρ M (upd H D o) :=
 ⟨S.len,S.nd,S.sep,fun a fa=>by rw [au (by rintro rfl;exact hF fa)];exact S.CP a fa,fun n a w h1 h2=>(S.obj n a w h1 h2).bB (qY.side hF o) (au (by rintro rfl;exact hD (List.mem_of_getElem? h1)))⟩
theorem SR.take (S:SR B F ρ M H) {D:Addr} (hD:D∉ρ) (hn:H D≠none):SR B (fun a=>F a\/a=D) ρ M H :=
 ⟨S.len,S.nd,fun a ha z=>z.elim (S.sep a ha) fun e=>hD (e ▸ ha),fun a z=>z.elim (S.CP a) fun e=>e ▸ hn,fun n a w h1 h2=>(S.obj n a w h1 h2).bB ⟨fun _ h=>.inl h,fun _ _ _=>rfl,List.prefix_refl _⟩ rfl⟩
theorem SR.hold (S:SR B F ρ M H) {D:Addr} {u:MO} (hD:D∉ρ) (hF:¬ F D) (hu:MR B F (ρ++[D]) H u D):SR B F (ρ++[D]) (M++[u]) H:=by
 refine ⟨by simp [S.len],?_,fun a ha z=>?_,S.CP,fun n a w h1 h2=>?_⟩
 ·rw [List.nodup_append]
  refine ⟨S.nd,by simp,fun a ha b hb=>?_⟩
  rw [List.mem_singleton.mp hb]
  rintro rfl
  exact hD ha
 ·rcases List.mem_append.mp ha with q | q
  ·exact S.sep a q z
  ·rw [List.mem_singleton.mp q] at z;exact hF z
 ·by_cases hn:n<ρ.length
  ·rw [List.getElem?_append_left hn] at h1
   rw [List.getElem?_append_left (by rw [<- S.len];exact hn)] at h2
   exact (S.obj n a w h1 h2).bB ⟨fun _ h=>h,fun _ _ _=>rfl,List.prefix_append _ _⟩ rfl
  ·have hn':ρ.length<=n:=Nat.le_of_not_lt hn
   rw [List.getElem?_append_right hn'] at h1
   rw [List.getElem?_append_right (by rw [<- S.len];exact hn'),<- S.len] at h2
   cases k:n-ρ.length with
   | zero =>
    rw [k] at h1 h2
    cases h1;cases h2
    exact hu
   | succ j=>rw [k] at h1;simp at h1
theorem SR.wk (S:SR B F ρ M H) {n:Nat} {a:Addr} {kvs:List (Ky×D)} {kws:List (Key×V)} (o:Obj) (hn:ρ[n]? = some a) (hM:M[n]? = some (.dct kvs)) (hH:H a=some (.dK kws)) :
  SR B F ρ (M.set n (.pD kvs)) (upd H a (.gA o (.dK kws)))/\Ext F ρ H F ρ (upd H a (.gA o (.dK kws))):=by
 obtain ⟨kws',h1,h2,h3⟩:=S.obj n a _ hn hM
 rw [hH] at h1;cases h1
 exact S.st (o:=.gA o (.dK kws)) (u:=.pD kvs) hn (fun w v q=>by rw [hH] at q;cases q) ⟨o,kws,aD,h2,ak.bJ (Ext0.at_ S hn) _ _ h3⟩
theorem SR.uw (S:SR B F ρ M H) {n:Nat} {a:Addr} {kvs:List (Ky×D)} (hn:ρ[n]? = some a) (hM:M[n]? = some (.pD kvs)):∃ o kws,H a=some (.gA o (.dK kws)) /\
  SR B F ρ (M.set n (.dct kvs)) (upd H a (.dK kws)):=by
 obtain ⟨o,kws,h1,h2,h3⟩:=S.obj n a _ hn hM
 exact ⟨o,kws,h1,(S.jX (o:=.dK kws) (u:=.dct kvs) hn ⟨kws,aD,h2,ak.bJ (Ext0.at_ S hn) _ _ h3⟩).1⟩
theorem Ext.thaw (e:Ext F ρ H F' ρ' H') {a:Addr} {o:HO} (ha:a∈ρ') (hn:∀ w v,H a≠some (.gA w v)) (hF:∀ b∈ρ',¬ F' b):Ext F ρ H F' ρ' (upd H' a o) :=
 ⟨⟨e.s,e.f,fun b q nb=>by
  by_cases hb:b=a
  ·subst hb
   rcases e.n b ha with z | z
   ·exact absurd z nb
   ·exact absurd z q
  ·rw [au hb];exact e.h b q nb,e.r,e.n,e.g⟩,fun b w v q=>by rw [au (by rintro rfl;exact hn w v q)];exact e.z b w v q⟩
end
section
variable {B:Bd} {F F' F1:Addr->Prop} {ρ ρ' ρ1:List Addr} {H H' H1:Hp} {M M':MH}
theorem ak.length:∀ {ds:List D} {vs:List V},ak B F ρ H ds vs->ds.length=vs.length
 | [],vs,h=>by simp only [ak] at h;subst h;rfl
 | d::ds,vs,h=>by
  simp only [ak] at h
  obtain ⟨v,ws,rfl,_,h3⟩:=h
  simp [ak.length h3]
theorem ak.cons {d:D} {v:V} {ds:List D} {vs:List V} (h:RD B F ρ H d v) (t:ak B F ρ H ds vs):ak B F ρ H (d::ds) (v::vs):=by
 simp only [ak];exact ⟨v,vs,rfl,h,t⟩
theorem ak.nil:ak B F ρ H [] []:=by simp only [ak]
theorem ak.append:∀ {ds es:List D} {vs ws:List V},ak B F ρ H ds vs->ak B F ρ H es ws->ak B F ρ H (ds++es) (vs++ws)
 | [],es,vs,ws,h,t=>by simp only [ak] at h;subst h;exact t
 | d::ds,es,vs,ws,h,t=>by
  simp only [ak] at h
  obtain ⟨v,us,rfl,h2,h3⟩:=h
  exact ak.cons h2 (ak.append h3 t)
theorem ak.get:∀ {ds:List D} {vs:List V} {i:Nat} {d:D},ak B F ρ H ds vs->ds[i]? = some d->∃ v,vs[i]? = some v/\RD B F ρ H d v
 | [],vs,i,d,h,e=>by simp at e
 | d::ds,vs,i,d',h,e=>by
  simp only [ak] at h
  obtain ⟨v,ws,rfl,h2,h3⟩:=h
  cases i with
  | zero=>simp at e;subst e;exact ⟨v,rfl,h2⟩
  | succ i=>simp at e;simpa using ak.get (i:=i) h3 e
theorem ak.take:∀ {ds:List D} {vs:List V} (n:Nat),ak B F ρ H ds vs->ak B F ρ H (ds.take n) (vs.take n)
 | [],vs,n,h=>by simp only [ak] at h;subst h;simp [ak]
 | d::ds,vs,n,h=>by
  simp only [ak] at h
  obtain ⟨v,ws,rfl,h2,h3⟩:=h
  cases n with
  | zero=>simp [ak]
  | succ n=>simp only [List.take_succ_cons];exact ak.cons h2 (ak.take n h3)
theorem ak.drop:∀ {ds:List D} {vs:List V} (n:Nat),ak B F ρ H ds vs->ak B F ρ H (ds.drop n) (vs.drop n)
 | [],vs,n,h=>by simp only [ak] at h;subst h;simp [ak]
 | d::ds,vs,n,h=>by
  cases n with
  | zero=>exact h
  | succ n =>
   simp only [ak] at h
   obtain ⟨v,ws,rfl,h2,h3⟩:=h
   simp only [List.drop_succ_cons];exact ak.drop n h3
theorem ak.set:∀ {ds:List D} {vs:List V} {d:D} {v:V} (i:Nat),ak B F ρ H ds vs->RD B F ρ H d v->ak B F ρ H (ds.set i d) (vs.set i v)
 | [],vs,d,v,i,h,q=>by simp only [ak] at h;subst h;simp [ak]
 | e::ds,vs,d,v,i,h,q=>by
  simp only [ak] at h
  obtain ⟨u,ws,rfl,h2,h3⟩:=h
  cases i with
  | zero=>simp only [List.set_cons_zero];exact ak.cons q h3
  | succ i=>simp only [List.set_cons_succ];exact ak.cons h2 (ak.set i h3 q)
mutual
theorem RD.nr:∀ {d:D} {v:V},RD B F ρ H d v->nr ρ.length d=true
 | .ai,v,h=>by simp [Fg.nr]
 | .bl _,v,h=>by simp [Fg.nr]
 | .int _,v,h=>by simp [Fg.nr]
 | .str _,v,h=>by simp [Fg.nr]
 | .tup ds,v,h=>by simp only [RD] at h;obtain ⟨a,vs,h1,h2,h3⟩:=h;simp only [Fg.nr];exact ak.nr h3
 | .lst ds,v,h=>by simp only [RD] at h;obtain ⟨a,vs,h1,h2,h3⟩:=h;simp only [Fg.nr];exact ak.nr h3
 | .dct ks ds,v,h=>by simp only [RD] at h;obtain ⟨a,vs,h1,h2,_,h3⟩:=h;simp only [Fg.nr];exact ak.nr h3
 | .ref n,v,h=>by
  simp only [RD] at h;obtain ⟨a,h1,h2⟩:=h;simp only [Fg.nr]
  obtain ⟨q,_⟩:=List.getElem?_eq_some_iff.mp h1
  exact decide_eq_true q
theorem ak.nr:∀ {ds:List D} {vs:List V},ak B F ρ H ds vs->mz ρ.length ds=true
 | [],vs,h=>by simp [mz]
 | d::ds,vs,h=>by
  simp only [ak] at h
  obtain ⟨v,ws,rfl,h2,h3⟩:=h
  simp only [mz,RD.nr h2,ak.nr h3,Bool.and_self]
end
mutual
theorem RD.cut (hp:ρ <+: ρ'):∀ {d:D} {v:V},Fg.nr ρ.length d=true->RD B F ρ' H d v->RD B F ρ H d v
 | .ai,v,_,h=>h
 | .bl _,v,_,h=>h
 | .int _,v,_,h=>h
 | .str _,v,_,h=>h
 | .tup ds,v,q,h=>by
  simp only [Fg.nr] at q;simp only [RD] at h ⊢
  obtain ⟨a,vs,h1,h2,h3⟩:=h
  exact ⟨a,vs,h1,h2,ak.cut hp q h3⟩
 | .lst ds,v,q,h=>by
  simp only [Fg.nr] at q;simp only [RD] at h ⊢
  obtain ⟨a,vs,h1,h2,h3⟩:=h
  exact ⟨a,vs,h1,h2,ak.cut hp q h3⟩
 | .dct ks ds,v,q,h=>by
  simp only [Fg.nr] at q;simp only [RD] at h ⊢
  obtain ⟨a,vs,h1,h2,h4,h3⟩:=h
  exact ⟨a,vs,h1,h2,h4,ak.cut hp q h3⟩
 | .ref n,v,q,h=>by
  simp only [Fg.nr] at q;simp only [RD] at h ⊢
  obtain ⟨a,h1,h2⟩:=h
  obtain ⟨t,rfl⟩:=hp
  rw [List.getElem?_append_left (of_decide_eq_true q)] at h1
  exact ⟨a,h1,h2⟩
theorem ak.cut (hp:ρ <+: ρ'):∀ {ds:List D} {vs:List V},mz ρ.length ds=true->ak B F ρ' H ds vs->ak B F ρ H ds vs
 | [],vs,_,h=>h
 | d::ds,vs,q,h=>by
  simp only [mz,Bool.and_eq_true] at q;simp only [ak] at h ⊢
  obtain ⟨v,ws,rfl,h2,h3⟩:=h
  exact ⟨v,ws,rfl,RD.cut hp q.1 h2,ak.cut hp q.2 h3⟩
end
theorem MR.cut (hp:ρ <+: ρ') {a:Addr} {F0:Addr->Prop} {H0:Hp} {a0:Addr}:∀ {o:MO},MR B F0 ρ H0 o a0->MR B F ρ' H o a->MR B F ρ H o a
 | .lst ds,⟨_,_,k⟩,⟨vs,h1,h2⟩=>⟨vs,h1,ak.cut hp (ak.nr k) h2⟩
 | .dct kvs,⟨_,_,_,k⟩,⟨kws,h1,h2,h3⟩=>⟨kws,h1,h2,ak.cut hp (ak.nr k) h3⟩
 | .pD kvs,⟨_,_,_,_,k⟩,⟨o,kws,h1,h2,h3⟩=>⟨o,kws,h1,h2,ak.cut hp (ak.nr k) h3⟩
 | .ins c fs,⟨_,_,_,_,_,_,k⟩,⟨C,dx,fQ,h0,h1,h2,h3⟩=>⟨C,dx,fQ,h0,h1,h2,ak.cut hp (ak.nr k) h3⟩
theorem SR.cut (S:SR B F ρ M H) (S':SR B F' ρ' M' H') (e:Ext F ρ H F' ρ' H') (hm:M'.take M.length=M):SR B F' ρ M H' where
 len:=S.len
 nd:=S.nd
 sep:=fun a ha=>S'.sep a (e.r.subset ha)
 CP:=S'.CP
 obj:=fun n a o h1 h2=>by
  have m':M'[n]? = some o:=by
   rw [<- hm] at h2
   rw [List.getElem?_take] at h2
   split at h2
   ·exact h2
   ·cases h2
  exact MR.cut e.r (S.obj n a o h1 h2) (S'.obj n a o (e.at h1) m')
theorem Ext.cut (e:Ext F ρ H F' ρ' H'):Ext F ρ H F' ρ H':=⟨⟨e.s,e.f,e.h,List.prefix_refl _,fun _ h=>.inl h,e.g⟩,e.z⟩
end
end Fg
end
section
namespace Fg
open PySem L2
noncomputable def AQ (th:Addr->Prop) (H H':Hp):Prop:=H'=H\/∃ a o kvs,th a/\H a=some (.gA o (.dK kvs))/\H'=upd H a (.dK kvs)
noncomputable abbrev XS:=Value->Option Addr->St->Hp->Prop
structure Gx where
 e:XS
 th:Addr->Prop
 cl:∀ cv x σ H H',AQ th H H'->e cv x σ H'->e cv x σ H
noncomputable def aj {α β:Type} (rel:(Addr->Prop)->List Addr->Hp->α->β->Prop) (B:Bd) (r:R α) (F:Addr->Prop) (ρ:List Addr) (H:Hp) (Q:β->Hp->Prop) (E:XK):Prop :=
 match r with
 | .ok d M'=>∀ F' ρ' H' v,Ext F ρ H F' ρ' H'->SR B F' ρ' M' H'->rel F' ρ' H' d v->Q v H'
 | .exc c M'=>∀ F' ρ' H' cv x,Ext F ρ H F' ρ' H'->SR B F' ρ' M' H'->B.exc c cv->E cv x H'
 | .bad=>False
noncomputable abbrev Post (B:Bd):=aj (RD B) B
noncomputable abbrev Mw (B:Bd):=aj (ak B) B
section
variable {B:Bd} {F F' F1:Addr->Prop} {ρ ρ' ρ1:List Addr} {H H' H1:Hp} {M M':MH} {E:XK}
theorem aj.weak {α β:Type} {rel:(Addr->Prop)->List Addr->Hp->α->β->Prop} {r:R α} {Q:β->Hp->Prop} (e:Ext F ρ H F1 ρ1 H1) (h:aj rel B r F ρ H Q E):aj rel B r F1 ρ1 H1 Q E:=by
 cases r with
 | ok d M'=>exact fun F' ρ' H' v e' S r=>h F' ρ' H' v (e.trans e') S r
 | exc c M'=>exact fun F' ρ' H' cv x e' S r=>h F' ρ' H' cv x (e.trans e') S r
 | bad=>exact h
theorem aj.imp {α β:Type} {rel:(Addr->Prop)->List Addr->Hp->α->β->Prop} {r:R α} {Q Q':β->Hp->Prop} (h:aj rel B r F ρ H Q E) (k:∀ v H',Q v H'->Q' v H'):aj rel B r F ρ H Q' E:=by
 cases r with
 | ok d M'=>exact fun F' ρ' H' v e' S r=>k _ _ (h F' ρ' H' v e' S r)
 | exc c M'=>exact h
 | bad=>exact h
theorem aj.bind {α β α' β':Type} {rel:(Addr->Prop)->List Addr->Hp->α->β->Prop} {rel':(Addr->Prop)->List Addr->Hp->α'->β'->Prop} {x:R α} {f:α->MH->R α'} {Q:β'->Hp->Prop} (h:aj rel' B (x.bind f) F ρ H Q E) :
  aj rel B x F ρ H (fun v H'=>∃ d M' F' ρ',Ext F ρ H F' ρ' H'/\SR B F' ρ' M' H'/\rel F' ρ' H' d v/\aj rel' B (f d M') F' ρ' H' Q E) E:=by
 cases x with
 | ok d M'=>exact fun F' ρ' H' v e S r=>⟨d,M',F',ρ',e,S,r,aj.weak e h⟩
 | exc c M'=>exact h
 | bad=>exact h
theorem aj.run {α β:Type} {rel:(Addr->Prop)->List Addr->Hp->α->β->Prop} {d:α} {Q:β->Hp->Prop} {v:β} (h:aj rel B (.ok d M) F ρ H Q E) (S:SR B F ρ M H) (r:rel F ρ H d v):Q v H :=
 h F ρ H v S.refl S r
end
structure RS (B:Bd) (F:Addr->Prop) (ρ:List Addr) (H:Hp) (σD:Sg) (σ:St):Prop where
 len:σ.length=σD.length
 get:∀ (i:Nat) (d:D),σD[i]? = some (some d)->∃ v,σ[i]? = some (some v)/\RD B F ρ H d v
section
variable {B:Bd} {F F' F1:Addr->Prop} {ρ ρ' ρ1:List Addr} {H H' H1:Hp} {M M':MH} {σD:Sg} {σ:St}
theorem RS.mono (e:Ext F ρ H F' ρ' H') (h:RS B F ρ H σD σ):RS B F' ρ' H' σD σ :=
 ⟨h.len,fun i d q=>let ⟨v,h1,h2⟩:=h.get i d q;⟨v,h1,RD.mono e d v h2⟩⟩
theorem RS.set (h:RS B F ρ H σD σ) {d:D} {v:V} (r:RD B F ρ H d v) (i:Nat):RS B F ρ H (σD.set i (some d)) (σ.set i (some v)):=by
 refine ⟨by simp [h.len],fun j d' q=>?_⟩
 rw [List.getElem?_set] at q ⊢
 split at q
 ·rename_i e
  split at q
  ·rename_i l
   cases q
   refine ⟨v,?_,r⟩
   rw [if_pos e,if_pos (by rw [h.len];exact l)]
  ·cases q
 ·rename_i e
  rw [if_neg e]
  exact h.get j d' q
end
noncomputable def T (B:Bd) (Φ:aY) (E:Gx) (c:Fg.E):TE:=fun σ H Q=>∃ (σD:Sg) (M:MH) (F:Addr->Prop) (ρ:List Addr),
 SR B F ρ M H/\RS B F ρ H σD σ/\Post B (ev Φ c σD M) F ρ H Q (fun cv x H'=>E.e cv x σ H')
noncomputable def TB (B:Bd) (Φ:aY) (E:Gx) (c:Fg.E):TT:=fun σ H Q=>T B Φ E c σ H fun v H'=>∃ b,v=.bl b/\Q b H'
noncomputable def TL (B:Bd) (Φ:aY) (E:Gx) (c:Es):TA:=fun σ H Q=>∃ (σD:Sg) (M:MH) (F:Addr->Prop) (ρ:List Addr),
 SR B F ρ M H/\RS B F ρ H σD σ/\Mw B (cV Φ c σD M) F ρ H Q (fun cv x H'=>E.e cv x σ H')
noncomputable def TP (B:Bd) (Φ:aY) (E:Gx) (c:O):TO:=fun σ H Q=>∃ (σD:Sg) (M:MH) (F:Addr->Prop) (ρ:List Addr),
 SR B F ρ M H/\RS B F ρ H σD σ/\aj (fun _ _ _ (a b:Option Int)=>a=b) B (CY Φ c σD M) F ρ H Q (fun cv x H'=>E.e cv x σ H')
section
variable {B:Bd} {Φ:aY} {E:Gx} {F F' F1:Addr->Prop} {ρ ρ' ρ1:List Addr} {H H' H1:Hp} {M M':MH} {σD:Sg} {σ:St} {Q:VK}
theorem T.one {a:Fg.E} {g:D->MH->R D} {W:V->Hp->Prop} {X:XK} (S:SR B F ρ M H) (r:RS B F ρ H σD σ) (hX:X=fun cv x H'=>E.e cv x σ H') (h:Post B ((ev Φ a σD M).bind g) F ρ H Q X)
  (k:∀ x M1 F1 ρ1 H1 v,Ext F ρ H F1 ρ1 H1->SR B F1 ρ1 M1 H1->RS B F1 ρ1 H1 σD σ->RD B F1 ρ1 H1 x v->Post B (g x M1) F1 ρ1 H1 Q X->W v H1):T B Φ E a σ H W:=by
 subst hX
 refine ⟨σD,M,F,ρ,S,r,aj.imp (aj.bind (rel:=RD B) h) fun v H1 ⟨x,M1,F1,ρ1,e,S1,rx,h1⟩=>?_⟩
 exact k x M1 F1 ρ1 H1 v e S1 (r.mono e) rx h1
theorem T.two {a b:Fg.E} {g:D->D->MH->R D} {W:V->V->Hp->Prop} {X:XK} (S:SR B F ρ M H) (r:RS B F ρ H σD σ) (hX:X=fun cv x H'=>E.e cv x σ H')
  (h:Post B ((ev Φ a σD M).bind fun x M1=>(ev Φ b σD M1).bind fun y M2=>g x y M2) F ρ H Q X)
  (k:∀ x y M2 F2 ρ2 H2 v w,SR B F2 ρ2 M2 H2->RS B F2 ρ2 H2 σD σ->RD B F2 ρ2 H2 x v->RD B F2 ρ2 H2 y w->Post B (g x y M2) F2 ρ2 H2 Q X->W v w H2) :
  T B Φ E a σ H fun v H1=>T B Φ E b σ H1 fun w H2=>W v w H2:=by
 refine T.one S r hX h fun x M1 F1 ρ1 H1 v e1 S1 r1 rx h1=>?_
 refine T.one S1 r1 hX h1 fun y M2 F2 ρ2 H2 w e2 S2 r2 ry h2=>?_
 exact k x y M2 F2 ρ2 H2 v w S2 r2 (RD.mono e2 _ _ rx) ry h2
theorem TL.one {a:Es} {g:List D->MH->R D} {W:List V->Hp->Prop} {X:XK} (S:SR B F ρ M H) (r:RS B F ρ H σD σ) (hX:X=fun cv x H'=>E.e cv x σ H') (h:Post B ((cV Φ a σD M).bind g) F ρ H Q X)
  (k:∀ x M1 F1 ρ1 H1 v,Ext F ρ H F1 ρ1 H1->SR B F1 ρ1 M1 H1->RS B F1 ρ1 H1 σD σ->ak B F1 ρ1 H1 x v->Post B (g x M1) F1 ρ1 H1 Q X->W v H1):TL B Φ E a σ H W:=by
 subst hX
 refine ⟨σD,M,F,ρ,S,r,aj.imp (aj.bind (rel:=ak B) h) fun v H1 ⟨x,M1,F1,ρ1,e,S1,rx,h1⟩=>?_⟩
 exact k x M1 F1 ρ1 H1 v e S1 (r.mono e) rx h1
theorem J0 {i:Nat} (h:T B Φ E (.v i) σ H Q):JH i σ H Q:=by
 obtain ⟨σD,M,F,ρ,S,r,h⟩:=h
 simp only [ev] at h
 split at h
 ·rename_i d hd
  obtain ⟨v,h1,h2⟩:=r.get _ _ hd
  exact ⟨v,h1,aj.run h S h2⟩
 ·exact h.elim
noncomputable def scl:D->Option V
 | .ai=>some .ai
 | .bl b=>some (.bl b)
 | .int i=>some (.int i)
 | .str x=>some (.str x)
 | _=>none
theorem Fx {d:D} {v:V} (h:scl d=some v):RD B F ρ H d v:=by
 cases d <;> simp only [scl] at h <;> first | (cases h;simp only [RD]) | cases h
theorem uc {d:D} {v:V} (hv:scl d=some v) (h:T B Φ E (.k d) σ H Q):tC v σ H Q:=by
 obtain ⟨σD,M,F,ρ,S,r,h⟩:=h
 simp only [ev] at h
 exact aj.run h S (Fx hv)
theorem dD {fz:Bool} {ds:List D} {vs:List V} {X:XK} (S:SR B F ρ M H) (h:Post B (cF fz ds M) F ρ H Q X) (r:ak B F ρ H ds vs):∀ p,H p=none->Q (.ref p) (upd H p (.lst vs)):=by
 intro p hp
 cases fz with
 | true =>
  simp only [cF,if_true] at h
  obtain ⟨S',e⟩:=S.fz hp (.lst vs)
  refine h _ _ _ _ e S' ?_
  simp only [RD]
  exact ⟨p,vs,rfl,.inl ⟨.inr rfl,.inl aD⟩,ak.mono e _ _ r⟩
 | false =>
  simp only [cF,Bool.false_eq_true,if_false] at h
  have e0:Ext F ρ H F (ρ++[p]) (upd H p (.lst vs)):=⟨⟨S.sep,fun _ q=>q,fun a q _=>au (by rintro rfl;exact q hp),List.prefix_append _ _,fun a q=>by
   rcases List.mem_append.mp q with q | q
   ·exact .inl q
   ·rw [List.mem_singleton.mp q];exact .inr hp,fun _ q=>.inl q⟩,fun b w u q=>by rw [au (by rintro rfl;rw [hp] at q;cases q)];exact q⟩
  obtain ⟨S',e⟩:=S.lv (o:=.lst vs) (u:=.lst ds) hp ⟨vs,aD,ak.mono e0 _ _ r⟩
  refine h _ _ _ _ e S' ?_
  simp only [RD]
  refine ⟨p,?_,rfl⟩
  rw [<- S.len,List.getElem?_append_right (Nat.le_refl _),Nat.sub_self];rfl
theorem j6 {ds:List D} {vs:List V} {X:XK} (S:SR B F ρ M H) (h:Post B (.ok (.tup ds) M) F ρ H Q X) (r:ak B F ρ H ds vs):∀ p,H p=none->Q (.ref p) (upd H p (.tup vs)):=by
 intro p hp
 obtain ⟨S',e⟩:=S.fz hp (.tup vs)
 refine h _ _ _ _ e S' ?_
 simp only [RD]
 exact ⟨p,vs,rfl,.inl ⟨.inr rfl,.inl aD⟩,ak.mono e _ _ r⟩
theorem Bf {es:Es} (hz:∀ {σ:Sg} {M:MH} {ds M'},cV Φ es σ M=.ok ds M'->ds.length<=sizeLine) (h:T B Φ E (.tup es) σ H Q):JI (TL B Φ E es) σ H Q:=by
 obtain ⟨σD,M,F,ρ,S,r,h⟩:=h
 simp only [ev] at h
 refine ⟨σD,M,F,ρ,S,r,?_⟩
 cases hx:cV Φ es σD M with
 | ok ds M1 =>
  rw [hx] at h
  intro F1 ρ1 H1 vs e S1 rv
  refine ⟨by rw [<- ak.length rv];exact hz hx,j6 (X:=fun cv x H'=>E.e cv x σ H') S1 (aj.weak e h) rv⟩
 | exc c M1=>rw [hx] at h;exact h
 | bad=>rw [hx] at h;exact h
theorem Br {fz:Bool} {es:Es} (hz:∀ {σ:Sg} {M:MH} {ds M'},cV Φ es σ M=.ok ds M'->ds.length<=sizeLine) (h:T B Φ E (.lst fz es) σ H Q):JO (TL B Φ E es) σ H Q:=by
 obtain ⟨σD,M,F,ρ,S,r,h⟩:=h
 simp only [ev] at h
 refine ⟨σD,M,F,ρ,S,r,?_⟩
 cases hx:cV Φ es σD M with
 | ok ds M1 =>
  rw [hx] at h
  intro F1 ρ1 H1 vs e S1 rv
  refine ⟨by rw [<- ak.length rv];exact hz hx,dD (X:=fun cv x H'=>E.e cv x σ H') S1 (aj.weak e h) rv⟩
 | exc c M1=>rw [hx] at h;exact h
 | bad=>rw [hx] at h;exact h
theorem iH {Q:List V->Hp->Prop} (h:TL B Φ E .nil σ H Q):jW σ H Q:=by
 obtain ⟨σD,M,F,ρ,S,r,h⟩:=h
 simp only [cV] at h
 exact aj.run h S ak.nil
theorem x8 {e:Fg.E} {es:Es} {Q:List V->Hp->Prop} (h:TL B Φ E (.cons e es) σ H Q):fL (T B Φ E e) (TL B Φ E es) σ H Q:=by
 obtain ⟨σD,M,F,ρ,S,r,h⟩:=h
 simp only [cV] at h
 refine ⟨σD,M,F,ρ,S,r,aj.imp (aj.bind (rel:=RD B) h) fun v H1 ⟨x,M1,F1,ρ1,e1,S1,rx,h1⟩=>?_⟩
 refine ⟨σD,M1,F1,ρ1,S1,r.mono e1,aj.imp (aj.bind (rel:=ak B) h1) fun vs H2 ⟨xs,M2,F2,ρ2,e2,S2,rxs,h2⟩=>?_⟩
 exact aj.run h2 S2 (ak.cons (RD.mono e2 _ _ rx) rxs)
theorem uh {a b:Fg.E} (h:T B Φ E (.and a b) σ H Q):DU (T B Φ E a) (T B Φ E b) σ H Q:=by
 obtain ⟨σD,M,F,ρ,S,r,h⟩:=h
 simp only [ev] at h
 refine T.one S r rfl h fun x M1 F1 ρ1 H1 v e1 S1 r1 rx h1=>?_
 split at h1
 ·simp only [RD] at rx;subst rx
  exact ⟨true,rfl,by rw [if_pos rfl];exact ⟨σD,M1,F1,ρ1,S1,r1,h1⟩⟩
 ·simp only [RD] at rx;subst rx
  exact ⟨false,rfl,by rw [if_neg Bool.false_ne_true];exact aj.run h1 S1 (by simp only [RD])⟩
 ·exact h1.elim
theorem xZ {a b:Fg.E} (h:T B Φ E (.or a b) σ H Q):JM (T B Φ E a) (T B Φ E b) σ H Q:=by
 obtain ⟨σD,M,F,ρ,S,r,h⟩:=h
 simp only [ev] at h
 refine T.one S r rfl h fun x M1 F1 ρ1 H1 v e1 S1 r1 rx h1=>?_
 split at h1
 ·simp only [RD] at rx;subst rx
  exact ⟨true,rfl,by rw [if_pos rfl];exact aj.run h1 S1 (by simp only [RD])⟩
 ·simp only [RD] at rx;subst rx
  exact ⟨false,rfl,by rw [if_neg Bool.false_ne_true];exact ⟨σD,M1,F1,ρ1,S1,r1,h1⟩⟩
 ·exact h1.elim
theorem t9 {a:Fg.E} (h:T B Φ E (.not a) σ H Q):DR (T B Φ E a) σ H Q:=by
 obtain ⟨σD,M,F,ρ,S,r,h⟩:=h
 simp only [ev] at h
 refine T.one S r rfl h fun x M1 F1 ρ1 H1 v e1 S1 r1 rx h1=>?_
 split at h1
 ·simp only [RD] at rx;subst rx
  exact ⟨_,rfl,aj.run h1 S1 (by simp only [RD])⟩
 ·exact h1.elim
theorem yc {a b:Fg.E} {Q:Bool->Hp->Prop} (h:TB B Φ E (.and a b) σ H Q):JT (TB B Φ E a) (TB B Φ E b) σ H Q:=by
 have h':=uh h
 obtain ⟨σD,M,F,ρ,S,r,h⟩:=h'
 refine ⟨σD,M,F,ρ,S,r,aj.imp h fun v H' ⟨c,e,q⟩=>⟨c,e,?_⟩⟩
 cases c with
 | true=>rw [if_pos rfl] at q ⊢;exact q
 | false=>rw [if_neg Bool.false_ne_true] at q ⊢;obtain ⟨b,e,q⟩:=q;cases e;exact q
theorem BA {a b:Fg.E} {Q:Bool->Hp->Prop} (h:TB B Φ E (.or a b) σ H Q):tOr (TB B Φ E a) (TB B Φ E b) σ H Q:=by
 have h':=xZ h
 obtain ⟨σD,M,F,ρ,S,r,h⟩:=h'
 refine ⟨σD,M,F,ρ,S,r,aj.imp h fun v H' ⟨c,e,q⟩=>⟨c,e,?_⟩⟩
 cases c with
 | true=>rw [if_pos rfl] at q ⊢;obtain ⟨b,e,q⟩:=q;cases e;exact q
 | false=>rw [if_neg Bool.false_ne_true] at q ⊢;exact q
theorem x9 {a:Fg.E} {Q:Bool->Hp->Prop} (h:TB B Φ E (.not a) σ H Q):JN (TB B Φ E a) σ H Q:=by
 have h':=t9 h
 obtain ⟨σD,M,F,ρ,S,r,h⟩:=h'
 refine ⟨σD,M,F,ρ,S,r,aj.imp h fun v H' ⟨c,e,q⟩=>⟨c,e,?_⟩⟩
 obtain ⟨b,e,q⟩:=q;cases e;exact q
theorem Bv {c a b:Fg.E} (h:T B Φ E (.AL c a b) σ H Q):tIf (TB B Φ E c) (T B Φ E a) (T B Φ E b) σ H Q:=by
 obtain ⟨σD,M,F,ρ,S,r,h⟩:=h
 simp only [ev] at h
 refine T.one S r rfl h fun x M1 F1 ρ1 H1 v e1 S1 r1 rx h1=>?_
 split at h1
 ·simp only [RD] at rx;subst rx
  exact ⟨true,rfl,by dsimp only;rw [if_pos rfl];exact ⟨σD,M1,F1,ρ1,S1,r1,h1⟩⟩
 ·simp only [RD] at rx;subst rx
  exact ⟨false,rfl,by dsimp only;rw [if_neg Bool.false_ne_true];exact ⟨σD,M1,F1,ρ1,S1,r1,h1⟩⟩
 ·exact h1.elim
theorem bX {d:D} {v:V} {ds:List D} (S:SR B F ρ M H) (r:RD B F ρ H d v) (h:vw M d=.lst ds):∃ a vs,v=.ref a/\gb B.K H a vs/\ak B F ρ H ds vs:=by
 cases d with
 | lst xs=>simp only [vw] at h;cases h;simp only [RD] at r;obtain ⟨a,vs,e,z,q⟩:=r;exact ⟨a,vs,e,z.sq,q⟩
 | ref n =>
  simp only [vw] at h
  split at h
  ·rename_i xs hx
   cases h
   simp only [RD] at r
   obtain ⟨a,h1,h2⟩:=r
   obtain ⟨vs,h3,h4⟩:=S.obj n a _ h1 hx
   exact ⟨a,vs,h2,.inl (.inl h3),h4⟩
  ·cases h
  ·cases h
  ·cases h
 | tup _=>simp only [vw] at h;cases h
 | dct _ _=>simp only [vw] at h;cases h
 | ai=>simp only [vw] at h;cases h
 | bl _=>simp only [vw] at h;cases h
 | int _=>simp only [vw] at h;cases h
 | str _=>simp only [vw] at h;cases h
theorem kC {d:D} {v:V} {ds:List D} (S:SR B F ρ M H) (r:RD B F ρ H d v) (h:vw M d=.tup ds):∃ a vs,v=.ref a/\jD B.K H a vs/\ak B F ρ H ds vs:=by
 cases d with
 | tup xs=>simp only [vw] at h;cases h;simp only [RD] at r;obtain ⟨a,vs,e,z,q⟩:=r;exact ⟨a,vs,e,z.sq,q⟩
 | ref n =>
  simp only [vw] at h
  split at h <;> cases h
 | lst _=>simp only [vw] at h;cases h
 | dct _ _=>simp only [vw] at h;cases h
 | ai=>simp only [vw] at h;cases h
 | bl _=>simp only [vw] at h;cases h
 | int _=>simp only [vw] at h;cases h
 | str _=>simp only [vw] at h;cases h
noncomputable def Jb (B:Bd) (H:Hp) (a:Addr) (kvs:List (Key×V)):Prop:=Rd H a (.dK kvs)\/B.dk a kvs
theorem pF {α β:Type}:∀ (ks:List α) (ds:List β),ks.length=ds.length->(ks.zip ds).map (·.1)=ks/\(ks.zip ds).map (·.2)=ds
 | [],[],_=>⟨rfl,rfl⟩
 | k::ks,d::ds,h=>by
  obtain ⟨a,b⟩:=pF ks ds (by simpa using h)
  simp only [List.zip_cons_cons,List.map_cons,a,b,and_self]
 | [],_::_,h=>by simp at h
 | _::_,[],h=>by simp at h
theorem nI {d:D} {v:V} {eG:List (Ky×D)} (S:SR B F ρ M H) (r:RD B F ρ H d v) (h:vw M d=.dct eG):∃ a kvs,v=.ref a/\Jb B H a kvs/\kvs.map (·.1)=eG.map (·.1)/\ak B F ρ H (eG.map (·.2)) (kvs.map (·.2)):=by
 cases d with
 | dct ks ds =>
  simp only [vw] at h;cases h;simp only [RD] at r
  obtain ⟨a,kvs,e,z,q1,q2⟩:=r
  have hl:ks.length=ds.length:=by rw [<- q1,List.length_map,ak.length q2,List.length_map]
  obtain ⟨z1,z2⟩:=pF ks ds hl
  refine ⟨a,kvs,e,?_,by rw [q1,z1],by rw [z2];exact q2⟩
  rcases z with ⟨_,z⟩ | z
  ·exact .inl z
  ·exact .inr z
 | ref n =>
  simp only [vw] at h
  split at h
  ·cases h
  ·rename_i xs hx
   cases h
   simp only [RD] at r
   obtain ⟨a,h1,h2⟩:=r
   obtain ⟨kws,h3,h4,h5⟩:=S.obj n a _ h1 hx
   exact ⟨a,kws,h2,.inl (.inl h3),h4,h5⟩
  ·rename_i xs hx
   cases h
   simp only [RD] at r
   obtain ⟨a,h1,h2⟩:=r
   obtain ⟨o,kws,h3,h4,h5⟩:=S.obj n a _ h1 hx
   exact ⟨a,kws,h2,.inl (.inr ⟨o,h3⟩),h4,h5⟩
  ·cases h
 | tup _=>simp only [vw] at h;cases h
 | lst _=>simp only [vw] at h;cases h
 | ai=>simp only [vw] at h;cases h
 | bl _=>simp only [vw] at h;cases h
 | int _=>simp only [vw] at h;cases h
 | str _=>simp only [vw] at h;cases h
theorem kY {k:Key}:∀ {eG:List (Ky×D)} {kvs:List (Key×V)},kvs.map (·.1)=eG.map (·.1)->ak B F ρ H (eG.map (·.2)) (kvs.map (·.2)) ->
  (∀ d,look eG k=some d->∃ v,dh kvs k=some v/\RD B F ρ H d v)/\(look eG k=none->dh kvs k=none)/\((look eG k).isSome=(dh kvs k).isSome)
 | [],kvs,h1,h2=>by
  have:kvs=[]:=by cases kvs with | nil=>rfl | cons _ _=>simp at h1
  subst this
  exact ⟨fun d h=>by simp [look] at h,fun _=>by simp [dh],by simp [look,dh]⟩
 | (k', d')::eG, kvs, h1, h2=>by
  cases kvs with
  | nil=>simp at h1
  | cons p kvs =>
   obtain ⟨pk,pv⟩:=p
   simp only [List.map_cons,List.cons.injEq] at h1
   simp only [List.map_cons,ak] at h2
   obtain ⟨v,ws,e,r1,r2⟩:=h2
   cases e
   obtain ⟨e1,e2⟩:=h1
   subst e1
   have ih:=kY (k:=k) e2 r2
   by_cases hk:pk=k
   ·subst hk
    simp only [look,dh,List.find?_cons,decide_true]
    exact ⟨fun d h=>by cases h;exact ⟨_,rfl,r1⟩,fun h=>by simp at h,rfl⟩
   ·have hkd:decide (pk=k)=false:=decide_eq_false hk
    simp only [look,dh,List.find?_cons,hkd] at ih ⊢
    exact ih
theorem pO {i:Int} (h:small i=true):-(2 ^ 64)<i/\i<2 ^ 64:=by
 simp only [small,decide_eq_true_eq] at h
 omega
noncomputable def ME (i j:Int):Prop:=i.natAbs<10 ^ 200/\j.natAbs<10 ^ 200
noncomputable def rStr:R2:=fun x y H Q=>∃ i j,x=.str i/\y=.str j/\i.length+j.length<=sizeLine/\Q (.str (i++j)) H
noncomputable def Eb (K:W.Frag):R2:=fun x y H Q=>∃ l b xs zs,x=.ref l/\y=.ref b/\gb K H l xs/\gb K H b zs/\xs.length+zs.length<=sizeLine/\∀ p,H p=none->Q (.ref p) (upd H p (.lst (xs++zs)))
noncomputable def D8 (K:W.Frag):R2:=fun x y H Q=>∃ (l:Addr) (xs:List V) (k:Int),x=.ref l/\y=.int k/\gb K H l xs/\xs.length*k.toNat<=sizeLine/\k.natAbs<=1000000/\∀ p,H p=none->Q (.ref p) (upd H p (.lst (List.replicate k.toNat xs).flatten))
noncomputable def Ke (K:W.Frag):DF->R2
 | .add=>fun x y H Q=>rR (fun i j=>.int (i+j)) x y H Q\/(rStr x y H Q\/(Eb K x y H Q\/Ea K x y H Q))
 | .sub=>rR fun i j=>.int (i-j)
 | .mul=>fun x y H Q=>rI DK (fun i j=>.int (i*j)) x y H Q\/(rI ME (fun i j=>.int (i*j)) x y H Q\/D8 K x y H Q)
 | .fdiv=>rI MF fun i j=>.int (i / j)
 | .mod=>rI (fun _ j=>0<j) fun i j=>.int (i % j)
 | .pow=>rI MD fun i j=>.int (i ^ j.toNat)
theorem bN:line<=sizeLine:=by decide
theorem ak.rep {ds:List D} {vs:List V} (r:ak B F ρ H ds vs):∀ k:Nat,ak B F ρ H (List.replicate k ds).flatten (List.replicate k vs).flatten
 | 0=>ak.nil
 | k+1=>by
  rw [List.replicate_succ,List.replicate_succ,List.flatten_cons,List.flatten_cons]
  exact r.append (ak.rep r k)
theorem Cd {o:DF} {fz:Bool} {x y:D} {v w:V} {X:XK} (S:SR B F ρ M H) (rx:RD B F ρ H x v) (ry:RD B F ρ H y w) (h:Post B (rq o fz M x y) F ρ H Q X):Ke B.K o v w H Q:=by
 unfold rq at h
 split at h
 ·rename_i i j
  simp only [RD] at rx ry
  subst rx ry
  cases o with
  | add=>simp only [gF] at h;exact .inl ⟨i,j,rfl,rfl,aj.run h S (by simp only [RD])⟩
  | sub=>simp only [gF] at h;exact ⟨i,j,rfl,rfl,aj.run h S (by simp only [RD])⟩
  | mul =>
   simp only [gF] at h
   split at h
   ·rename_i k hk
    split at hk
    ·rename_i hs
     cases hk
     refine .inl ⟨i,j,rfl,rfl,?_,aj.run h S (by simp only [RD])⟩
     simp only [Bool.or_eq_true] at hs
     rcases hs with hs | hs
     ·exact .inl (pO hs)
     ·exact .inr (pO hs)
    ·split at hk
     ·rename_i hs
      cases hk
      simp only [mid,Bool.and_eq_true,decide_eq_true_eq] at hs
      exact .inr (.inl ⟨i,j,rfl,rfl,hs,aj.run h S (by simp only [RD])⟩)
     ·cases hk
   ·exact h.elim
  | fdiv =>
   simp only [gF] at h
   split at h
   ·rename_i k hk
    split at hk
    ·rename_i hs
     cases hk
     simp only [Bool.and_eq_true,decide_eq_true_eq] at hs
     exact ⟨i,j,rfl,rfl,⟨hs.1,by have:=hs.2;omega⟩,aj.run h S (by simp only [RD])⟩
    ·cases hk
   ·exact h.elim
  | mod =>
   simp only [gF] at h
   split at h
   ·rename_i k hk
    split at hk
    ·rename_i hs
     cases hk
     exact ⟨i,j,rfl,rfl,of_decide_eq_true hs,aj.run h S (by simp only [RD])⟩
    ·cases hk
   ·exact h.elim
  | pow =>
   simp only [gF] at h
   split at h
   ·rename_i k hk
    split at hk
    ·rename_i hs
     cases hk
     simp only [Bool.and_eq_true,decide_eq_true_eq] at hs
     exact ⟨i,j,rfl,rfl,⟨hs.1,hs.2.1,hs.2.2⟩,aj.run h S (by simp only [RD])⟩
    ·cases hk
   ·exact h.elim
 ·rename_i a b
  simp only [RD] at rx ry
  subst rx ry
  cases o with
  | add =>
   simp only at h
   split at h
   ·rename_i hl
    exact .inr (.inl ⟨a,b,rfl,rfl,Nat.le_trans (of_decide_eq_true hl) bN,aj.run h S (by simp only [RD])⟩)
   ·exact h.elim
  | sub=>exact h.elim
  | mul=>exact h.elim
  | fdiv=>exact h.elim
  | mod=>exact h.elim
  | pow=>exact h.elim
 ·cases o with
  | add =>
   simp only at h
   split at h
   ·rename_i xs ys hx hy
    split at h
    ·rename_i hl
     obtain ⟨a,vs,rfl,q1,r1⟩:=bX S rx hx
     obtain ⟨b,ws,rfl,q2,r2⟩:=bX S ry hy
     refine .inr (.inr (.inl ⟨a,b,vs,ws,rfl,rfl,q1,q2,?_,dD S h (r1.append r2)⟩))
     rw [<- ak.length r1,<- ak.length r2]
     exact Nat.le_trans (of_decide_eq_true hl) bN
    ·exact h.elim
   ·rename_i xs ys hx hy
    split at h
    ·rename_i hl
     simp only [Bool.and_eq_true,Bool.not_eq_true',decide_eq_true_eq] at hl
     cases x with
     | tup xs' =>
      simp only [vw] at hx;cases hx
      simp only [RD] at rx
      obtain ⟨a,vs,rfl,z1,r1⟩:=rx
      obtain ⟨b,ws,rfl,q2,r2⟩:=kC S ry hy
      refine .inr (.inr (.inr ⟨a,b,vs,ws,rfl,rfl,z1.sq,q2,?_,?_,fun e=>?_,fun _=>j6 S h (r1.append r2)⟩))
      ·rintro rfl
       have:=ak.length r1
       cases xs with
       | nil=>simp at hl
       | cons _ _=>simp at this
      ·rw [<- ak.length r1,<- ak.length r2]
       exact Nat.le_trans hl.2 bN
      ·refine aj.run h S ?_
       simp only [RD]
       refine ⟨a,vs,rfl,z1,?_⟩
       have:=r1.append r2
       rw [e,List.append_nil] at this
       exact this
     | ref n=>simp only [vw] at hx;split at hx <;> cases hx
     | lst _=>simp only [vw] at hx;cases hx
     | dct _ _=>simp only [vw] at hx;cases hx
     | ai=>simp only [vw] at hx;cases hx
     | bl _=>simp only [vw] at hx;cases hx
     | int _=>simp only [vw] at hx;cases hx
     | str _=>simp only [vw] at hx;cases hx
    ·exact h.elim
   ·exact h.elim
  | sub=>exact h.elim
  | mul =>
   simp only at h
   split at h
   ·rename_i xs k hx _ _
    split at h
    ·rename_i hl
     simp only [Bool.and_eq_true,decide_eq_true_eq] at hl
     obtain ⟨a,vs,rfl,q1,r1⟩:=bX S rx (by assumption)
     simp only [RD] at ry
     subst ry
     refine .inr (.inr ⟨a,vs,k,rfl,rfl,q1,?_,hl.2,dD S h (ak.rep r1 _)⟩)
     rw [<- ak.length r1]
     exact Nat.le_trans hl.1 bN
    ·exact h.elim
   ·exact h.elim
  | fdiv=>exact h.elim
  | mod=>exact h.elim
  | pow=>exact h.elim
theorem Fo {o:DF} {fz:Bool} {a b:Fg.E} (h:T B Φ E (.op o fz a b) σ H Q):E6 (Ke B.K o) (T B Φ E a) (T B Φ E b) σ H Q:=by
 obtain ⟨σD,M,F,ρ,S,r,h⟩:=h
 simp only [ev] at h
 exact T.two S r rfl h fun x y M2 F2 ρ2 H2 v w S2 _ rx ry h2=>Cd S2 rx ry h2
theorem Bo {a:Fg.E} (h:T B Φ E (.neg a) σ H Q):tUn (rU fun i=>.int (-i)) (T B Φ E a) σ H Q:=by
 obtain ⟨σD,M,F,ρ,S,r,h⟩:=h
 simp only [ev] at h
 refine T.one S r rfl h fun x M1 F1 ρ1 H1 v e1 S1 r1 rx h1=>?_
 split at h1
 ·simp only [RD] at rx;subst rx
  exact ⟨_,rfl,aj.run h1 S1 (by simp only [RD])⟩
 ·exact h1.elim
end
end Fg
end
section
namespace Fg
open PySem PySem.Spec L2
noncomputable def Up (B:Heap) (l:List Env) (a:Addr) (C a0:Value) (h:Heap):Prop:=B.StaysIn h/\B.get? a=none/\h.FunFrames B l/\∃ fl,h.TracedAtW B a C a0 fl
theorem Up.GN {B h:Heap} {l:List Env} {a:Addr} {C a0:Value} (x:Heap.FlyingW B l a C a0 h):Up B l a C a0 h:=⟨x.1,x.2.1,x.2.2.1,_,x.2.2.2.at⟩
theorem Up.uG {B h:Heap} {l:List Env} {a L:Addr} {C a0:Value} (x:Heap.HeldW B l a C a0 L h):Up B l a C a0 h:=⟨x.1,x.2.1,x.2.2.1,_,x.2.2.2⟩
theorem nW {e:Value} {env env':Env} (h:env.frame=env'.frame):noteFrame e env=noteFrame e env':=by
 unfold noteFrame frameOf
 rw [h]
section
variable {M:Model} {A:Around} {E:Value->Shared->Prop} {s:Shared} {B:Heap} {env:Env} {outer:List Env} {L a:Addr} {C a0:Value}
theorem Up.note {Q:Unit->Shared->Prop} (hfr:A.frames=some (env::outer)) (hf:env.frame=some L) (up:Up B (env::outer) a C a0 s.heap) (k:∀ h',Heap.HeldW B (env::outer) a C a0 L h'->s.heap.UpToSlots h'->Q () { s with heap:=h' }) :
  wpAny M A (noteFrame (.ref a) env) Q E s:=by
 obtain ⟨st,ne,hl,fl,oe,vs,T,oT,ts,q1,⟨q2,q2'⟩,q3,q4,q5,q6,q7,q8,q9⟩:=up
 by_cases same:(fl == rawInt L)=true
 ·have e:fl=rawInt L:=by simpa using same
  subst e
  exact wpAny_noteFrame_againW hf ⟨oe,vs,T,oT,ts,q1,⟨q2,q2'⟩,q3,q4,q5,q6,q7,q8,q9⟩ (k s.heap ⟨st,ne,hl,oe,vs,T,oT,ts,q1,⟨q2,q2'⟩,q3,q4,q5,q6,q7,q8,q9⟩ (Heap.UpToSlots.refl _))
 ·subst q2
  unfold noteFrame
  simp only [hf]
  refine wpAny_bind (wpAny_field q1 q3 q4 ?_)
  rw [if_pos (by simp)]
  refine wpAny_bind (wpAny_field q7 q8 q9 ?_)
  rw [if_neg same]
  refine wpAny_bind (wpAny_setField q7 q8 (Array.getElem?_eq_some_iff.mp q9).1 ?_)
  have dU:∀ b,b≠T->(s.heap.update T (Obj.mapFields (·.setIfInBounds 3 Value.none))).get? b=s.heap.get? b:=fun b hb=>Heap.get?_update_other _ _ fun z=>hb z.symm
  have p9:∀ b o,s.heap.get? b=some o->(∀ vs,o.data≠.fields vs)->b≠T:=fun b o hb hn z=>by
   subst z;rw [q7] at hb;cases hb;exact hn ts q8
  refine wpAny_entryW (base:=B) (a0:=a0) hfr ?_ hf ?_ ?_ ne q3 (Array.getElem?_eq_some_iff.mp q4).1 q2' fun h' nw=>?_
  ·exact hl.of_keeps fun b o hb hn=>⟨o,by rw [dU b (p9 b o hb hn),hb],rfl⟩
  ·rw [dU a fun z=>q6 z.symm];exact q1
  ·intro b o e
   rw [dU b (by rintro rfl;rw [q5] at e;cases e)]
   exact st b o e
  ·obtain ⟨x1,x2,x3,x4⟩:=nw
   exact k h' ⟨x1,ne,x2,x3⟩ fun b o hb hn=>x4 b o (by rw [dU b (p9 b o hb hn),hb]) hn
theorem Up.leave {Q:Unit->Shared->Prop} (hfr:A.frames=some (env::outer)) (hf:env.frame=some L) (up:Up B (env::outer) a C a0 s.heap) (k:∀ h',Heap.FlyingW B outer a C a0 h'->s.heap.UpToSlots h'->Q () { s with heap:=h' }) :
  wpAny M A (leaving env (.ref a)) Q E s :=
 wpAny_bind (up.note hfr hf fun h4 held xU=>wpAny_landsW held fun h5 fl Ba=>k h5 ⟨fl.1,fl.2.1,fl.2.2.1.2.2,fl.2.2.2⟩ (xU.trans Ba))
end
end Fg
end
section
namespace Fg
open PySem PySem.Spec L2
open PyProof.Rows (AllBare envOfC)
theorem m5 {P:Program} {w:World} {H:Hp} {h:Heap} {a:Addr} {o:HO} (x:bD P w H h a o):∃ ob,h.get? a=some ob:=by
 cases o with
 | lst xs=>obtain ⟨_,_,_,_,e⟩:=x;exact ⟨_,e⟩
 | tup xs=>obtain ⟨_,_,_,_,e,_⟩:=x;exact ⟨_,e⟩
 | dK kvs=>obtain ⟨_,_,_,_,o,_,_,e,_⟩:=x;exact ⟨_,e⟩
 | dT kvs=>obtain ⟨_,_,_,_,o,_,_,e,_⟩:=x;exact ⟨_,e⟩
 | set S n=>obtain ⟨o,_,_,_,e,_⟩:=x;exact ⟨_,e⟩
 | ins C dx fs=>obtain ⟨_,_,_,e,_⟩:=x;exact ⟨_,e⟩
 | own y=>obtain ⟨_,e⟩:=x;exact ⟨_,e⟩
 | xd fs=>obtain ⟨_,⟨_,_,_,e,_⟩,_⟩:=x;exact ⟨_,e⟩
 | eF lo hi=>obtain ⟨_,_,_,e⟩:=x;exact ⟨_,e⟩
 | gA ob u=>obtain ⟨e,_⟩:=x;exact ⟨_,e⟩
 | DP ps=>exact ⟨_,(show h.get? a=some _ from x)⟩
 | met f y=>exact ⟨_,(show h.get? a=some _ from x)⟩
 | ext φ=>obtain ⟨_,⟨_,e⟩,_⟩:=x;exact ⟨_,e⟩
noncomputable def Calm (B:Heap) (fr ex:List Addr) (H:Hp) (h₀:Heap):Prop:=∀ b,(H b≠none\/(∃ o,h₀.get? b=some o)/\b∉ex)->b∉fr->∃ o,B.get? b=some o
theorem Calm.at {B h:Heap} {fr ex:List Addr} {H:Hp} {h₀:Heap} (c:Calm B fr ex H h₀) (st:B.StaysIn h) {b:Addr} {o:Obj} (e:h.get? b=some o) (q:H b≠none\/(∃ o,h₀.get? b=some o)/\b∉ex) (hf:b∉fr):B.get? b=some o:=by
 obtain ⟨o',e'⟩:=c b q hf
 have:=st _ _ e'
 rw [e] at this;cases this
 exact e'
noncomputable def iD (P:Program) (w:World):AH:=fun outer H s E e s'=>∃ (H':Hp) (a:Addr) (a0 C:Value) (B:Heap),e=.ref a/\s'.os=s.os/\AllBare s'.gens/\Un (frs outer) [] H H' s.heap s'.heap/\gO P w H' s'.heap /\
 Heap.FlyingW B outer a C a0 s'.heap/\Calm B (frs outer) [] H' s.heap/\E C none H'
noncomputable def ja (X:Cx) (E:XS) (e:Value) (s:Shared):Prop:=∃ (pins:List (Addr×Obj)) (σ:St) (H:Hp) (a:Addr) (a0 C:Value) (B:Heap),e=.ref a/\Inv X pins σ H s /\
 Up B X.stack a C a0 s.heap/\Calm B (frs X.stack) X.ex H X.s₀.heap/\(∀ p∈X.pn,B.get? p.1=some p.2)/\E C none σ H
noncomputable def EW (X:Cx) (E:XS) (e:Value) (s:Shared):Prop:=∃ (pins:List (Addr×Obj)) (σ:St) (H:Hp) (a:Addr) (C:Value) (vs:List Value) (h:Heap),e=.ref a/\Inv X pins σ H { s with heap:=h }/\Heap.MadeExcOf h s.heap a C vs/\E C none σ H
theorem ow {fs fr ex:List Addr} {H₀ H H₁:Hp} {h₀ h h' B:Heap} (u:Un fs ex H₀ H h₀ h) (fZ:Calm B fr ex H₁ h₀) (jX:B.StaysIn h) (st:B.StaysIn h') (sm:∀ b∈fr,∀ o,h.get? b=some o->∃ sl,h'.get? b=some { o with slots:=sl })
  (frd:∀ b∈fr,b<h₀.objs.size->b∈fs):Un fs ex H₀ H h₀ h' where
 keep:=fun b o e n0 hb hx=>st _ _ (fZ.at jX (u.keep b o e n0 hb hx) (.inr ⟨⟨_,e⟩,hx⟩) fun z=>hb (frd b z (Heap.lt_size e)))
 slot:=fun b o e n0 hb hx=>by
  obtain ⟨sl,e1⟩:=u.slot b o e n0 hb hx
  by_cases z:b∈fr
  ·obtain ⟨DX,e2⟩:=sm b z _ e1
   exact ⟨DX,e2⟩
  ·exact ⟨sl,st _ _ (fZ.at jX e1 (.inr ⟨⟨_,e⟩,hx⟩) z)⟩
 free:=u.free
 there:=fun b o e hx=>by
  obtain ⟨o',e1⟩:=u.there b o e hx
  by_cases z:b∈fr
  ·obtain ⟨DX,e2⟩:=sm b z _ e1
   exact ⟨_,e2⟩
  ·exact ⟨_,st _ _ (fZ.at jX e1 (.inr ⟨⟨_,e⟩,hx⟩) z)⟩
 tups:=u.tups
 gH:=u.gH
 iF:=u.iF
theorem ki {P:Program} {w:World} {fr ex:List Addr} {H:Hp} {h₀ h h' B:Heap} (k:gO P w H h) (fZ:Calm B fr ex H h₀) (jX:B.StaysIn h) (st:B.StaysIn h') (free:∀ b∈fr,H b=none):gO P w H h':=fun a o e =>
 (k a o e).stay (fun b u hb e'=>by
  have tr:H b≠none:=by
   rcases hb with rfl | hb
   ·rw [e];simp
   ·rw [hb];simp
  exact st _ _ (fZ.at jX e' (.inl tr) fun z=>tr (free b z))) (fun _ q=>q) fun _ _ q=>q
section
variable {X:Cx} {pins:List (Addr×Obj)} {σ:St} {H:Hp} {s:Shared}
theorem qy (I:Inv X pins σ H s):∀ b∈frs X.stack,∀ o,s.heap.get? b=some o->∀ vs,o.data≠.fields vs:=fun b hb o e vs=>by
 obtain ⟨_,o',e',d⟩:=I.stack.mem hb
 rw [e] at e';cases e'
 exact d vs
theorem sP {h':Heap} (I:Inv X pins σ H s) (sm:s.heap.UpToSlots h'):∀ b∈frs X.stack,∀ o,s.heap.get? b=some o->∃ sl,h'.get? b=some { o with slots:=sl }:=fun b hb o e=>sm b o e (qy I b hb o e)
theorem oq (I:Inv X pins σ H s):∀ b∈frs X.stack,b<X.s₀.heap.objs.size->b∈X.fs:=fun b hb hl=>by
 rcases List.mem_cons.mp (I.fh b hb) with e | z
 ·subst e;exact absurd (Nat.lt_of_lt_of_le hl I.ok.above) (Nat.lt_irrefl _)
 ·exact z
theorem gz (I:Inv X pins σ H s) {b:Addr} {o:Obj} (e:X.s₀.heap.get? b=some o) (hx:b∉X.ex):∃ o',s.heap.get? b=some o':=I.base.there b o e hx
theorem passes {E:XS} (hx:∀ e s,ja X E e s->X.xe e s) (pins:List (Addr×Obj)) (σ:St) (H:Hp) (s:Shared) (e:Value) (s':Shared) (I:Inv X pins σ H s) (q:iD X.prog X.w X.stack H s (fun cv x H'=>E cv x σ H') e s'):X.xe e s':=by
 obtain ⟨H',a,a0,C,B,rfl,os,bare,un,hok,fl,fZ,q⟩:=q
 have I':=I.As (ch:=[]) os un hok bare (fun b z=>absurd z (by simp))
 refine hx _ _ ⟨pins,σ,H',a,a0,C,B,rfl,I',.GN fl,fun b hb hf=>fZ b (hb.imp id fun ⟨⟨o,z⟩,n⟩=>⟨gz I z n,by simp⟩) hf,fun p hp=>?_,q⟩
 obtain ⟨p1,p2,p3,p4,_⟩:=I'.pin p (List.mem_append_left _ hp)
 refine fZ.at fl.1 p1 (.inr ⟨⟨_,(I.pin p (List.mem_append_left _ hp)).1⟩,by simp⟩) fun z=>?_
 rcases List.mem_cons.mp (I.fh _ z) with e | z
 ·exact p3 e
 ·exact p4 z
end
section
variable {P:Program} {w:World} {K:W.Frag} {mg:Str->Option Value} {base:Heap} {N:List Str} {qual:Str} {scope:Scope} {f:Addr} {cd:Value} {A:Around} {outer:List Env} {s:Shared} {H:Hp} {E:XK}
theorem qx (b:Addr) (h:b∈frs (envOfC qual scope s.heap.objs.size f cd::outer)):b=s.heap.objs.size\/b∈frs outer:=by
 unfold frs at h
 rw [List.filterMap_cons] at h
 exact List.mem_cons.mp h
theorem zb {pins:List (Addr×Obj)} {σ:St} {H':Hp} {s':Shared} {a:Addr} {a0 C:Value} {B h':Heap} (I:Inv (i6 (iD P w) P w K mg base N qual scope f cd A outer s H E) pins σ H' s') (jX:B.StaysIn s'.heap) (fZ:Calm B (frs (envOfC qual scope s.heap.objs.size f cd::outer)) [] H' s.heap)
  (q:E C none H') (CU:Heap.FlyingW B outer a C a0 h') (sm:s'.heap.UpToSlots h'):iD P w outer H s E (.ref a) { s' with heap:=h' }:=by
 refine ⟨H',a,a0,C,B,rfl,I.os,I.bare,ow I.base fZ jX CU.1 (sP I sm) (oq I),ki I.hok fZ jX CU.1 I.gx,CU,fun b hb hf=>fZ b hb fun z=>?_,q⟩
 rcases qx b z with e | z
 ·subst e
  rcases hb with hb | ⟨⟨o,hb⟩,_⟩
  ·exact hb I.free
  ·exact absurd (Heap.lt_size hb) (Nat.lt_irrefl _)
 ·exact hf z
theorem wA (e:Value) (s':Shared) (q:ja (i6 (iD P w) P w K mg base N qual scope f cd A outer s H E) (fun cv x _ H'=>E cv x H') e s'):(i6 (iD P w) P w K mg base N qual scope f cd A outer s H E).xe e s':=by
 obtain ⟨pins,σ,H',a,a0,C,B,rfl,I,up,fZ,_,q⟩:=q
 exact up.leave (L:=s.heap.objs.size) I.ok.frames rfl fun h' CU sm=>zb I up.1 fZ q CU sm
theorem leave_new (e:Value) (s':Shared) (q:EW (i6 (iD P w) P w K mg base N qual scope f cd A outer s H E) (fun cv x _ H'=>E cv x H') e s'):(i6 (iD P w) P w K mg base N qual scope f cd A outer s H E).xe e s':=by
 obtain ⟨pins,σ,H',a,C,vs,h,rfl,I,made,q⟩:=q
 have hin:∀ env∈(envOfC qual scope s.heap.objs.size f cd::outer),∀ b,env.frame=some b->b∈frs (envOfC qual scope s.heap.objs.size f cd::outer):=fun env he b hb=>List.mem_filterMap.mpr ⟨env,he,hb⟩
 refine wpAny_leaves_madeW (base:=W.hideAll h (frs (envOfC qual scope s.heap.objs.size f cd::outer))) I.ok.frames rfl (fun b o q=>W.of_hideAll _ q) (W.funFrames_hide I.stack hin) made fun h' t CU tup tn sm=>?_
 have jX:(W.hideAll h (frs (envOfC qual scope s.heap.objs.size f cd::outer))).StaysIn h:=fun b o q=>W.of_hideAll _ q
 have fZ:Calm (W.hideAll h (frs (envOfC qual scope s.heap.objs.size f cd::outer))) (frs (envOfC qual scope s.heap.objs.size f cd::outer)) [] H' s.heap:=fun b hb hf=>by
  have:∃ o,h.get? b=some o:=by
   rcases hb with hb | ⟨⟨o,hb⟩,_⟩
   ·cases e:H' b with
    | none=>exact absurd e hb
    | some o=>exact m5 (I.hok b o e)
   ·exact gz I hb (by simp [i6])
  obtain ⟨o,e⟩:=this
  exact ⟨o,W.hideAll_get _ e hf⟩
 have sm':h.UpToSlots h':=(Heap.UpToSlots.of_keeps made.keeps).trans sm
 refine ⟨H',a,_,C,_,rfl,I.os,I.bare,ow I.base fZ jX CU.1 (sP I sm') (oq I),ki I.hok fZ jX CU.1 I.gx,CU,fun b hb hf=>fZ b hb fun z=>?_,q⟩
 rcases qx b z with e | z
 ·subst e
  rcases hb with hb | ⟨⟨o,hb⟩,_⟩
  ·exact hb I.free
  ·exact absurd (Heap.lt_size hb) (Nat.lt_irrefl _)
 ·exact hf z
end
end Fg
end
section
namespace Fg
open PySem PySem.Spec L2
open PyProof.Rows (AllBare envOfC)
noncomputable def qX (K:W.Frag) (C:Addr) (bmB:List Value) (newId:String) (bm:List Value):Prop :=
 ∃ nm q N bs hdct sn sub ab col dd k0 k1 k2 k3 k5, K.lookup C=some (excClassObj nm q C N bs bm hdct sn sub ab col dd k0 k1 k2 k3 k5 newId)/\W.nsOkIn K N=true/\W.nsIn K N "__init__" = some none/\W.tailIn K bmB bm=true
variable {X:Cx} {E:XS}
theorem qd {x:Str} {C:Addr} {B newId initId:String} {bmB bm:List Value} {a:Expr} {t:TA} {np cpos pos:Pos} (hm:X.mg x=some (.ref C)) (hk:X.env.kindOf x=some .globalImplicit) (hd:(x == ("__debug__" : Str))=false)
  (EC:qX X.K C bmB newId bm) (FB:ExcBaseFacts B newId initId bmB) (calm:X.calm=true) (hs:starEach [a] X.env=[(false,eval a X.env)]) (ha:PA X [a] t) (hx:∀ e s,EW X E e s->X.xe e s) :
  PS X (.Raise (some (.Call (.Name x np) [a] [] cpos)) none pos) (fun D σ H=>t σ H fun vs H1=>vs.length<=sizeLine/\E (.ref C) none σ H1):=by
 obtain ⟨nm,q,N,bs,hdct,sn,sub,ab,col,dd,k0,k1,k2,k3,k5,lk,ok,ni,tl⟩:=EC
 intro pins s σ H D I ht
 have tail:∀ {h:Heap},X.K.In h->PySem.OwnTail h bmB bm:=fun KX=>W.tail_of_in KX tl
 refine wpAny_Raise_call_subT (C:=C) (nm:=nm) (q:=q) (N:=N) (bs:=bs) (bm:=bm) (hdct:=hdct) (sn:=sn) (sub:=sub) (ab:=ab) (col:=col) (dd:=dd) (k0:=k0) (k1:=k1) (k2:=k2) (k3:=k3) (k5:=k5) FB (mN:=X.base.nsMap N)
  ((tail I.ia).hasType FB.hasBase) (I.ok.hd calm) (by rw [hs];rfl) (W.nsMap_none_of_in I.mod.CB ok ni)
  (Calls.Name_function_global I.ok.kind hk (Calls.loadGlobal_global (by rw [I.ok.glob];exact I.mod.glob.keeps I.bk) hm ⟨rfl,?_⟩) hd)
 have z:=ha cpos pins s σ H _ I ht
 rw [hs] at z ⊢
 refine Calls.evalArgs_plain (bz z fun us s2 y=>?_)
 obtain ⟨vs,H1,I1,r,hl,q⟩:=y
 refine ⟨rfl,by rw [<- r.length];exact hl,I1.ia _ _ lk,(Heap.Ns.of_isNs (W.isNs_of_in I.mod.CB ok)).keeps I1.bk,tail I1.ia,fun h' e made=>hx _ _ ⟨pins,σ,H1,e,.ref C,us,s2.heap,rfl,I1,made,q⟩⟩
end Fg
end
section
namespace Fg
open PySem PySem.Spec L2
noncomputable abbrev gM (X:Cx) (pins:List (Addr×Obj)):Cx:={ X with pn:=X.pn++pins }
theorem tS {X:Cx} {pins:List (Addr×Obj)} (ok:X.Ok):(gM X pins).Ok :=
 ⟨ok.mod,ok.kind,ok.glob,ok.blt,ok.above,ok.inj,ok.has,ok.EN,ok.hd,ok.frames,ok.stk,ok.LM,ok.bs,ok.xx,ok.qe,ok.sU,ok.ic,ok.AM⟩
theorem pA {X:Cx} {pins:List (Addr×Obj)} (ok:(gM X pins).Ok):X.Ok :=
 ⟨ok.mod,ok.kind,ok.glob,ok.blt,ok.above,ok.inj,ok.has,ok.EN,ok.hd,ok.frames,ok.stk,ok.LM,ok.bs,ok.xx,ok.qe,ok.sU,ok.ic,ok.AM⟩
section
variable {X:Cx} {pins kQ:List (Addr×Obj)} {σ:St} {H:Hp} {s:Shared}
theorem zE (I:Inv X pins σ H s):Inv (gM X pins) [] σ H s:=⟨tS I.ok,I.os,I.bare,I.base,I.loc,I.cell,I.free,I.cN,fun p hp=>I.pin p (by simpa using hp),I.hok,I.len⟩
theorem fB (I:Inv (gM X pins) kQ σ H s):Inv X pins σ H s:=⟨pA I.ok,I.os,I.bare,I.base,I.loc,I.cell,I.free,I.cN,fun p hp=>I.pin p (List.mem_append_left _ hp),I.hok,I.len⟩
theorem mQ {D:Ends} {f:Flow} {s':Shared} (h:SP (gM X pins) kQ D f s'):SP X pins D f s':=by
 cases f with
 | next=>obtain ⟨σ',H',I,q⟩:=h;exact ⟨σ',H',fB I,q⟩
 | brk=>obtain ⟨σ',H',I,q⟩:=h;exact ⟨σ',H',fB I,q⟩
 | cont=>obtain ⟨σ',H',I,q⟩:=h;exact ⟨σ',H',fB I,q⟩
 | ret u=>obtain ⟨v,σ',H',I,r,q⟩:=h;exact ⟨v,σ',H',fB I,r,q⟩
theorem kh {B h':Heap} (I:Inv X pins σ H s) (fZ:Calm B (frs X.stack) X.ex H X.s₀.heap) (hp:∀ p∈X.pn,B.get? p.1=some p.2) (jX:B.StaysIn s.heap) (st:B.StaysIn h') (sm:s.heap.UpToSlots h'):Inv X [] σ H { s with heap:=h' }:=by
 have aZ:∀ c v,s.heap.IsCell c v->h'.IsCell c v:=fun c v ⟨o,e,d⟩=>by
  obtain ⟨sl,e'⟩:=sm c o e (fun vs z=>by rw [d] at z;cases z)
  exact ⟨_,e',d⟩
 refine ⟨I.ok,I.os,I.bare,ow I.base fZ jX st (sP I sm) (oq I),?_,fun x c e=>?_,I.free,I.cN,fun p q=>?_,ki I.hok fZ jX st I.gx,I.len⟩
 ·obtain ⟨m,hn,hv⟩:=I.loc
  refine ⟨m,sm.ns hn,fun i x v h1 h2 h3=>?_⟩
  obtain ⟨u,r,lk⟩:=hv i x v h1 h2 h3
  refine ⟨u,r,lk.imp id fun ⟨z,c,h4,h5⟩=>⟨z,c,h4,aZ _ _ h5⟩⟩
 ·obtain ⟨v,h5⟩:=I.cell x c e
  exact ⟨v,aZ _ _ h5⟩
 ·have q':p∈X.pn:=by simpa using q
  obtain ⟨_,p2⟩:=I.pin p (List.mem_append_left _ q')
  exact ⟨st _ _ (hp p q'),p2⟩
end
noncomputable abbrev suite (X:Cx) (e:Value):Cx:={ X with A:=X.A.mark (some e),calm:=false,xe:=fun _ _=>False }
section
variable {X:Cx} {pins kQ:List (Addr×Obj)} {σ:St} {H:Hp} {s:Shared} {e:Value}
theorem xO (ok:X.Ok):(suite X e).Ok :=
 ⟨ok.mod,ok.kind,ok.glob,ok.blt,ok.above,ok.inj,ok.has,ok.EN,(fun z=>by cases z),ok.frames,ok.stk,ok.LM,ok.bs,ok.xx,ok.qe,ok.sU,ok.ic,ok.AM⟩
theorem wD (I:Inv X pins σ H s):Inv (suite X e) pins σ H s:=⟨xO I.ok,I.os,I.bare,I.base,I.loc,I.cell,I.free,I.cN,I.pin,I.hok,I.len⟩
theorem dZ (ok:X.Ok) (I:Inv (suite X e) pins σ H s):Inv X pins σ H s:=⟨ok,I.os,I.bare,I.base,I.loc,I.cell,I.free,I.cN,I.pin,I.hok,I.len⟩
theorem rJ (ok:X.Ok) {D:Ends} {f:Flow} {s':Shared} (h:SP (suite X e) pins D f s'):SP X pins D f s':=by
 cases f with
 | next=>obtain ⟨σ',H',I,q⟩:=h;exact ⟨σ',H',dZ ok I,q⟩
 | brk=>obtain ⟨σ',H',I,q⟩:=h;exact ⟨σ',H',dZ ok I,q⟩
 | cont=>obtain ⟨σ',H',I,q⟩:=h;exact ⟨σ',H',dZ ok I,q⟩
 | ret u=>obtain ⟨v,σ',H',I,r,q⟩:=h;exact ⟨v,σ',H',dZ ok I,r,q⟩
end
section
variable {M:Model} {A:Around} {E:Value->Shared->Prop} {nm q:Str} {C N:Addr} {bs bm:List Value} {hdct:Bool} {sn:List Str} {sub:List Value} {ab:Bool} {col:Option Bool} {dd:Option Addr} {k0 k1 k2 k3 k5:Option Value} {newId:String}
 {nm' q':Str} {C' N':Addr} {bs' bm':List Value} {Et:Bool} {sn':List Str} {sub':List Value} {ab':Bool} {col':Option Bool} {Iw:Option Addr} {l0 l1 l2 l3 l5:Option Value} {newId':String}
theorem qG {h:Heap} {g:Array GenState} {d:Drawn} {t:Nat} {os:OsState} {e:Addr} {oe:Obj} {b:Bool} {Q:Bool->Shared->Prop}
  (hC:h.get? C=some (excClassObj nm q C N bs bm hdct sn sub ab col dd k0 k1 k2 k3 k5 newId)) (hD:h.get? C'=some (excClassObj nm' q' C' N' bs' bm' Et sn' sub' ab' col' Iw l0 l1 l2 l3 l5 newId')) (he:h.get? e=some oe) (hcls:oe.cls=.ref C)
  (hb':(Value.ref C'::bm').contains (.type "BaseException")=true) (hb:(Value.ref C::bm).contains (.ref C')=b) (hq:Q b ⟨h, g, d, t, os⟩):wpAny M A (excMatches (.ref e) (.ref C')) Q E ⟨h, g, d, t, os⟩:=by
 have f:=tc_notTuple
 unfold excMatches
 repeat (first | (with_reducible refine wpAny_loadPart_at he ?_;rw [hcls]) | with_reducible refine wpAny_loadPart_at hD ?_ | (with_reducible refine wpAny_isSubtype_exc hD ?_;rw [hb']) | (with_reducible refine wpAny_isSubtype_exc hC ?_;rw [hb]) | wp_step)
 cases b <;> (wp_walk;exact hq)
end
noncomputable def pick (mro:List Value):List (Addr×TS)->Option TS
 | []=>none
 | (C',t)::r=>if mro.contains (.ref C') then some t else pick mro r
noncomputable def EH (K:W.Frag) (rs:List (Addr×TS)) (D:Ends):XS:=fun cv x σ H=>∃ C bmB newId bm t,cv=.ref C/\qX K C bmB newId bm/\pick (.ref C::bm) rs=some t/\t D σ H
inductive PH (X:Cx):List ExceptHandler->List (Addr×TS)->Prop
 | nil:PH X [] []
 | cons {x:Str} {C':Addr} {bmB:List Value} {newId:String} {bm:List Value} {b₀:Stmt} {b:List Stmt} {t:TS} {np pos:Pos} {hs:List ExceptHandler} {rs:List (Addr×TS)} :
   X.mg x=some (.ref C')->Gl X x->(x == ("__debug__" : Str))=false->qX X.K C' bmB newId bm->bm.contains (.type "BaseException")=true->(∀ e, ku (suite X e) (b₀::b) t)->PH X hs rs ->
   PH X (.ExceptHandler (some (.Name x np)) none (b₀::b) pos::hs) ((C',t)::rs)
theorem handle {X:Cx} {hs:List ExceptHandler} {rs:List (Addr×TS)} (ph:PH X hs rs) {C a:Addr} {a0:Value} {B:Heap} {bmB:List Value} {newId:String} {bm:List Value} {t:TS} {D:Ends} {σ:St} {H:Hp} {s:Shared} (EC:qX X.K C bmB newId bm) (pk:pick (.ref C::bm) rs=some t)
  (I:Inv X [] σ H s) (fl:Heap.FlyingW B X.stack a (.ref C) a0 s.heap) (fZ:Calm B (frs X.stack) X.ex H X.s₀.heap) (hp:∀ p∈X.pn,B.get? p.1=some p.2) (ht:t D σ H) :
  wpAny (model X.prog X.w) X.A (handleBy (.ref a) X.env hs) (SP X [] D) X.xe s:=by
 induction ph with
 | nil=>cases pk
 | cons hm hg hd EC' hb' hsu ph ih =>
  obtain ⟨hp',g,d,tk,os⟩:=s
  obtain ⟨oe,Er,hcl⟩:=fl.there
  obtain ⟨nm,q,N,bs,hdct,sn,sub,ab,col,dd,k0,k1,k2,k3,k5,lk,_⟩:=EC
  obtain ⟨nm',q',N',bs',Et,sn',sub',ab',col',Iw,l0,l1,l2,l3,l5,lk',_⟩:=EC'
  refine wpAny_handleBy_cons (codeAny_handlers_test (Calls.Name_function_global I.ok.kind hg (Calls.loadGlobal_global (by rw [I.ok.glob];exact I.mod.glob.keeps I.bk) hm ?_) hd)) (by intro q;cases q)
  refine qG (I.ia _ _ lk) (I.ia _ _ lk') Er hcl (by rw [List.contains_cons,hb',Bool.or_true]) rfl ?_
  simp only [pick] at pk
  cases hc:(Value.ref C::bm).contains (.ref _) with
  | true =>
   rw [hc] at pk
   simp only [if_true,Option.some.injEq] at pk
   subst pk
   refine codeAny_handlers_suite (PyProof.Rows.lands_againW fl fun h6 fl6 sm6=>?_)
   have I6:=kh I fZ hp fl.1 fl6.1 sm6
   exact wpAny_mono (hsu (.ref a) [] _ σ H D (wD I6) ht) (fun f s2 z=>rJ I.ok z) fun _ _ z=>z.elim
  | false =>
   rw [hc] at pk
   exact ih pk
theorem FY {X:Cx} {body:List Stmt} {h₀:ExceptHandler} {hs:List ExceptHandler} {pos:Pos} {rs:List (Addr×TS)} {t:Ends->TS} (stk:X.stack=X.env::X.outer) (hf:X.env.frame=some X.env.locals)
  (hb:∀ pins D,ku ((gM X pins).bU (ja (gM X pins) (EH X.K rs D))) body (t D)) (ph:∀ pins,PH (gM X pins) (h₀::hs) rs):PS X (.Try body (h₀::hs) [] [] pos) (fun D σ H=>t D D σ H):=by
 intro pins s σ H D I ht
 refine wpAny_Try_except (wpAny_mono (hb pins D [] s σ H D ((zE I).bU _) ht) (fun f s1 z=>?_) fun e s1 z=>?_)
 ·have z':=mQ (SP.bF z)
  cases f with
  | next=>exact wpAny_execs_nil z'
  | brk=>exact z'
  | cont=>exact z'
  | ret u=>exact z'
 ·obtain ⟨kQ,σ1,H1,a,a0,cv,B,rfl,I1,fl,fZ,hp,C,bmB,newId,bm,tt,rfl,EC,pk,hts⟩:=z
  have go:∀ h5,Heap.FlyingW B (X.env::X.outer) a (.ref C) a0 h5->s1.heap.UpToSlots h5->wpAny (model X.prog X.w) X.A (handleBy (.ref a) X.env (h₀::hs)) (SP X pins D) X.xe { s1 with heap:=h5 }:=fun h5 Nu Ba=>by
   have I5:=kh I1 fZ hp fl.1 Nu.1 Ba
   exact wpAny_mono (handle (ph pins) EC pk I5 (by show Heap.FlyingW B X.stack _ _ _ _;rw [stk];exact Nu) fZ hp hts) (fun f s2 z=>mQ z) fun _ _ z=>z
  exact Up.note (L:=X.env.locals) (env:=X.env) (outer:=X.outer) (by rw [I.ok.frames,stk]) hf (by rw [<- stk];exact fl) fun h4 held xU=>wpAny_landsW held fun h5 Nu Ba=>go h5 Nu (xU.trans Ba)
end Fg
end
section
namespace Fg
open PySem PySem.Spec L2
theorem Up.pass {M:Model} {A:Around} {E:Value->Shared->Prop} {s:Shared} {α:Type} {Q:α->Shared->Prop} {B:Heap} {l:List Env} {a:Addr} {C a0:Value} {env:Env} {what:String} (up:Up B l a C a0 s.heap)
  (k:∀ h',Up B l a C a0 h'->s.heap.UpToSlots h'->E (.ref a) { s with heap:=h' }):wpAny M A (passOn what (.ref a) env:Sem α) Q E s:=by
 obtain ⟨st,ne,hl,fl,oe,vs,T,oT,ts,q1,q2,q3,q4,q5,q6,q7,q8,q9⟩:=up
 have q0:3<ts.size:=(Array.getElem?_eq_some_iff.mp q9).1
 have dU:∀ x b,b≠T->(s.heap.update T (Obj.mapFields (·.setIfInBounds 3 x))).get? b=s.heap.get? b:=fun x b hb=>Heap.get?_update_other _ _ (Ne.symm hb)
 have p9:∀ b o,s.heap.get? b=some o->(∀ vs,o.data≠.fields vs)->b≠T:=fun b o hb hn z=>by
  rw [z,q7] at hb
  cases hb
  exact hn ts q8
 unfold passOn
 refine wpAny_bind (wpAny_field q1 q3 q4 ?_)
 rw [if_neg (by simp)]
 refine wpAny_bind ?_
 unfold setFlight
 refine wpAny_bind (wpAny_field q1 q3 q4 ?_)
 rw [if_pos (by simp)]
 refine wpAny_setField q7 q8 q0 ?_
 refine wpAny_throw (k _ ⟨fun b o e=>?_,ne,hl.of_keeps fun b o hb hn=>⟨o,(dU _ b (p9 b o hb hn)).trans hb,rfl⟩,?_⟩ fun b o hb hn=>⟨o.slots,(dU _ b (p9 b o hb hn)).trans hb⟩)
 ·exact (dU _ b (by rintro rfl;rw [q5] at e;cases e)).trans (st b o e)
 ·exact ⟨_,oe,vs,T,_,_,(dU _ a (Ne.symm q6)).trans q1,q2,q3,q4,q5,q6,Heap.get?_update_self _ q7 (Obj.isFreed_of_fields (Obj.data_mapFields q8 _)),Obj.data_mapFields q8 _,Array.getElem?_setIfInBounds_self_of_lt q0⟩
theorem Up.hide {B h h':Heap} {l:List Env} {a c:Addr} {C a0:Value} (up:Up B l a C a0 h) (sb:Heap.SameBut c h h') (hc:∃ o,h.get? c=some o/\∀ vs,o.data≠.fields vs) (hfr:c∉frs l):Up (B.hide c) l a C a0 h':=by
 obtain ⟨st,ne,hl,fl,oe,vs,T,oT,ts,q1,q2,q3,q4,q5,q6,q7,q8,q9⟩:=up
 obtain ⟨oc,hoc,hd⟩:=hc
 have hn:∀ {b:Addr},B.get? b=none->(B.hide c).get? b=none:=fun {b} e=>by
  cases q:(B.hide c).get? b with
  | none=>rfl
  | some o=>rw [Heap.of_hide q] at e;cases e
 have hac:a≠c:=by rintro rfl;rw [hoc] at q1;cases q1;exact hd _ q3
 have hTc:T≠c:=by rintro rfl;rw [hoc] at q7;cases q7;exact hd _ q8
 have ff:∀ l',(∀ b∈frs l',b∈frs l)->h.FunFrames B l'->h'.FunFrames (B.hide c) l':=by
  intro l'
  induction l' with
  | nil=>intro _ _;trivial
  | cons env r ih =>
   intro hs hl'
   obtain ⟨hk,⟨L,o,hf,hnn,ho,hdd⟩,hr⟩:=hl'
   have hL:L∈frs l:=hs L (by unfold frs;rw [List.filterMap_cons,hf];exact List.mem_cons_self)
   exact ⟨hk,⟨L,o,hf,hn hnn,by rw [sb.2 L (by rintro rfl;exact hfr hL)];exact ho,hdd⟩,ih (fun b hb=>hs b (by unfold frs;rw [List.filterMap_cons,hf];exact List.mem_cons_of_mem _ hb)) hr⟩
 refine ⟨fun b o e=>?_,hn ne,ff l (fun _ z=>z) hl,fl,oe,vs,T,oT,ts,by rw [sb.2 a hac];exact q1,q2,q3,q4,hn q5,q6,by rw [sb.2 T hTc];exact q7,q8,q9⟩
 have hbc:b≠c:=by rintro rfl;rw [Heap.hide_self] at e;cases e
 rw [sb.2 b hbc]
 exact st b o (Heap.of_hide e)
noncomputable def qW (X:Cx):Prop:=∃ env outer L,X.stack=env::outer/\env.frame=some L/\X.env.frame=some L
end Fg
end
section
namespace Fg
open PySem PySem.Spec L2
noncomputable def rH (sp:Sp) (Ex:XS) (t:TA):TE:=fun σ H Q=>t σ H fun vs H1=>sp vs H1 Q fun cv x H'=>Ex cv x σ H'
section
variable {X:Cx} {Ex:XS} {k:Nat} {f:Addr} {fd:FuncData} {ps:List Str} {sp:Sp} {x:Str} {p pos:Pos} {e:Expr} {es:List Expr} {t:TA}
theorem BF {pins:List (Addr×Obj)} {σ:St} {H:Hp} {s:Shared} {Q:VK} {us:List Value} {vs:List V} (F:cS X.prog X.w X.K X.mg X.base (iD X.prog X.w) k f fd ps sp) (hr:cX k X.A) (hb:Binds X.K fd ps []) (hx:∀ e s,ja X Ex e s->X.xe e s)
  (I:Inv X pins σ H s) (r:Vals vs us) (h:sp vs H Q fun cv x H'=>Ex cv x σ H'):wpAny (model X.prog X.w) X.A (call (.ref f) us) (EP X pins σ Q) X.xe s:=by
 have hl:(us++[]).length=ps.length:=by rw [List.append_nil,<- r.length];exact F.len _ _ _ _ h
 have bd:=hb s us I.ia hl
 rw [List.append_nil] at bd
 refine wpAny_call (codeAny_mono (F.run X.A X.stack s H ⟨us,[]⟩ us vs Q _ hr I.lN bd r h) fun z s' hq=>?_)
 match z,hq with
 | .error e,hq=>exact passes hx pins σ H s e s' I hq
 | .ok (.ret u),hq=>exact I.after hq
 | .ok .next,hq=>exact hq.elim
 | .ok .brk,hq=>exact hq.elim
 | .ok .cont,hq=>exact hq.elim
theorem yC (F:cS X.prog X.w X.K X.mg X.base (iD X.prog X.w) k f fd ps sp) (hr:cX k X.A) (hg:Gl X x) (hm:X.mg x=some (.ref f)) (hk:W.keepIn X.K (.ref f)=true) (hb:Binds X.K fd ps []) (hx:∀ e s,ja X Ex e s->X.xe e s)
  (ha:PA X (e::es) t) (hdb:(x == ("__debug__" : Str))=false) (he:starEach (e::es) X.env=(false, eval e X.env)::starEach es X.env) (hpl:(backTo pos (starEach es X.env)).any (·.1)=false) :
  PE X (.Call (.Name x p) (e::es) [] pos) (rH sp Ex t):=fun pins s σ H Q I h =>
 wpAny_Call_Name_kw (fu I hg hm (W.callWith_K (h₀:=X.base) I.ok.mod.CB hk (bz (ha pos pins s σ H _ I h) fun us s1 ⟨vs,H1,I1,r,q⟩=>⟨I1.ia,BF F hr hb hx I1 r q⟩) he hpl) hdb)
theorem v8 (F:cS X.prog X.w X.K X.mg X.base (iD X.prog X.w) k f fd ps sp) (hr:cX k X.A) (hg:Gl X x) (hm:X.mg x=some (.ref f)) (hk:W.keepIn X.K (.ref f)=true) (hb:Binds X.K fd ps []) (hx:∀ e s, ja X Ex e s->X.xe e s) (hdb:(x == ("__debug__" : Str))=false) :
  PE X (.Call (.Name x p) [] [] pos) (rH sp Ex jW):=fun pins s σ H Q I h =>
 wpAny_Call_Name_kw (fu I hg hm (W.callWith_K0 I.ia hk (BF (us:=[]) F hr hb hx I .nil h)) hdb)
noncomputable def xJ (sp:Sp) (dv:V) (Ex:XS) (t:TA):TE:=fun σ H Q=>t σ H fun vs H1=>sp (vs++[dv]) H1 Q fun cv x H'=>Ex cv x σ H'
theorem runD {pins:List (Addr×Obj)} {σ:St} {H:Hp} {s:Shared} {Q:VK} {us:List Value} {vs:List V} {dv:V} {du:Value} (F:cS X.prog X.w X.K X.mg X.base (iD X.prog X.w) k f fd ps sp) (hr:cX k X.A) (hb:Binds X.K fd ps [du]) (hd:RelV dv du) (hx:∀ e s,ja X Ex e s->X.xe e s)
  (I:Inv X pins σ H s) (r:Vals vs us) (h:sp (vs++[dv]) H Q fun cv x H'=>Ex cv x σ H'):wpAny (model X.prog X.w) X.A (call (.ref f) us) (EP X pins σ Q) X.xe s:=by
 have r2:Vals (vs++[dv]) (us++[du]):=r.append (.cons hd .nil)
 have hl:(us++[du]).length=ps.length:=by rw [<- r2.length];exact F.len _ _ _ _ h
 have bd:=hb s us I.ia hl
 refine wpAny_call (codeAny_mono (F.run X.A X.stack s H ⟨us,[]⟩ (us++[du]) (vs++[dv]) Q _ hr I.lN bd r2 h) fun z s' hq=>?_)
 match z,hq with
 | .error e,hq=>exact passes hx pins σ H s e s' I hq
 | .ok (.ret u),hq=>exact I.after hq
 | .ok .next,hq=>exact hq.elim
 | .ok .brk,hq=>exact hq.elim
 | .ok .cont,hq=>exact hq.elim
theorem yD {dv:V} {du:Value} (F:cS X.prog X.w X.K X.mg X.base (iD X.prog X.w) k f fd ps sp) (hr:cX k X.A) (hg:Gl X x) (hm:X.mg x=some (.ref f)) (hk:W.keepIn X.K (.ref f)=true) (hb:Binds X.K fd ps [du]) (hd:RelV dv du) (hx:∀ e s,ja X Ex e s->X.xe e s)
  (ha:PA X (e::es) t) (hdb:(x == ("__debug__" : Str))=false) (he:starEach (e::es) X.env=(false, eval e X.env)::starEach es X.env) (hpl:(backTo pos (starEach es X.env)).any (·.1)=false) :
  PE X (.Call (.Name x p) (e::es) [] pos) (xJ sp dv Ex t):=fun pins s σ H Q I h =>
 wpAny_Call_Name_kw (fu I hg hm (W.callWith_K (h₀:=X.base) I.ok.mod.CB hk (bz (ha pos pins s σ H _ I h) fun us s1 ⟨vs,H1,I1,r,q⟩=>⟨I1.ia,runD F hr hb hd hx I1 r q⟩) he hpl) hdb)
end
end Fg
end
section
namespace Fg
open PySem PySem.Spec L2
theorem Up.back {M:Model} {A:Around} {E:Value->Shared->Prop} {s:Shared} {B:Heap} {l:List Env} {a:Addr} {C a0:Value} {env:Env} (up:Up B l a C a0 s.heap)
  (k:∀ h',Up B l a C a0 h'->s.heap.UpToSlots h'->E (.ref a) { s with heap:=h' }):cameBackBy M A env E (.ref a) s:=by
 obtain ⟨st,ne,hl,fl,oe,vs,T,oT,ts,q1,q2,q3,q4,q5,q6,q7,q8,q9⟩:=up
 have q0:3<ts.size:=(Array.getElem?_eq_some_iff.mp q9).1
 have dU:∀ x b,b≠T->(s.heap.update T (Obj.mapFields (·.setIfInBounds 3 x))).get? b=s.heap.get? b:=fun x b hb=>Heap.get?_update_other _ _ (Ne.symm hb)
 have p9:∀ b o,s.heap.get? b=some o->(∀ vs,o.data≠.fields vs)->b≠T:=fun b o hb hn z=>by
  rw [z,q7] at hb
  cases hb
  exact hn ts q8
 unfold cameBackBy
 refine wpAny_bind (wpAny_field q1 q3 q4 ?_)
 rw [if_neg (by simp)]
 unfold setFlight
 refine wpAny_bind (wpAny_field q1 q3 q4 ?_)
 rw [if_pos (by simp)]
 refine wpAny_setField q7 q8 q0 ?_
 refine k _ ⟨fun b o e=>?_,ne,hl.of_keeps fun b o hb hn=>⟨o,(dU _ b (p9 b o hb hn)).trans hb,rfl⟩,?_⟩ fun b o hb hn=>⟨o.slots,(dU _ b (p9 b o hb hn)).trans hb⟩
 ·exact (dU _ b (by rintro rfl;rw [q5] at e;cases e)).trans (st b o e)
 ·exact ⟨_,oe,vs,T,_,_,(dU _ a (Ne.symm q6)).trans q1,q2,q3,q4,q5,q6,Heap.get?_update_self _ q7 (Obj.isFreed_of_fields (Obj.data_mapFields q8 _)),Obj.data_mapFields q8 _,Array.getElem?_setIfInBounds_self_of_lt q0⟩
theorem yM {M:Model} {A:Around} {E:Value->Shared->Prop} {s:Shared} {h B:Heap} {env:Env} {outer:List Env} {L a:Addr} {C:Value} {vs:List Value} {Q:Unit->Shared->Prop} (hfr:A.frames=some (env::outer)) (hf:env.frame=some L)
  (made:Heap.MadeExcOf h s.heap a C vs) (st:B.StaysIn h) (hl:h.FunFrames B (env::outer)) (k:∀ a0 h',Up B (env::outer) a C a0 h'->s.heap.UpToSlots h'->Q () { s with heap:=h' }):wpAny M A (noteFrame (.ref a) env) Q E s:=by
 obtain ⟨t,he,_,_⟩:=made.there
 have ne:B.get? a=none:=by
  cases q:B.get? a with
  | none=>rfl
  | some o=>have:=st _ _ q;rw [made.new] at this;cases this
 unfold noteFrame
 simp only [hf]
 refine wpAny_bind (wpAny_field he rfl (x:=.none) rfl ?_)
 rw [if_neg (by simp)]
 refine wpAny_entryW (base:=B) (a0:=.ref t) hfr (hl.of_keeps fun b o hb _=>⟨o,made.keeps b o hb,rfl⟩) hf he (fun b o e=>made.keeps b o (st b o e)) ne rfl (show 1<6 by decide) rfl fun h' nw=>?_
 obtain ⟨x1,x2,x3,x4⟩:=nw
 exact k _ h' ⟨x1,ne,x2,_,x3⟩ x4
theorem rX {X:Cx} {E:XS} (fr:qW X) (fo:∀ e s,X.xe e s->ja X E e s\/EW X E e s) (fx:∀ e s,ja X E e s->X.xe e s):PassesOwn (model X.prog X.w) X.A X.env X.xe:=by
 intro e s q
 obtain ⟨lN,nT,L,hst,HR,Nm⟩:=fr
 rcases fo e s q with q | q
 ·obtain ⟨pins,σ,H,a,a0,C,B,rfl,I,up,fZ,hp,q⟩:=q
  show wpAny _ X.A (noteFrame (.ref a) X.env) _ _ s
  rw [nW (env:=X.env) (env':=lN) (Nm.trans HR.symm)]
  refine Up.note (env:=lN) (outer:=nT) (by rw [I.ok.frames,hst]) HR (by rw [<- hst];exact up) fun h4 held xU=>?_
  refine (Up.uG held).back fun h5 EZ Ba=>fx _ _ ?_
  have J:=kh I fZ hp up.1 EZ.1 (xU.trans Ba)
  have up':Up B X.stack a C a0 h5:=by rw [hst];exact EZ
  exact ⟨[],σ,H,a,a0,C,B,rfl,J,up',fZ,hp,q⟩
 ·obtain ⟨pins,σ,H,a,C,vs,h,rfl,I,made,q⟩:=q
  show wpAny _ X.A (noteFrame (.ref a) X.env) _ _ s
  rw [nW (env:=X.env) (env':=lN) (Nm.trans HR.symm)]
  have jX:(W.hideAll h (frs X.stack)).StaysIn h:=fun b o q=>W.of_hideAll _ q
  have fZ:Calm (W.hideAll h (frs X.stack)) (frs X.stack) X.ex H X.s₀.heap:=fun b hb hf=>by
   have:∃ o,h.get? b=some o:=by
    rcases hb with hb | ⟨⟨o,hb⟩,nx⟩
    ·cases e:H b with
     | none=>exact absurd e hb
     | some o=>exact m5 (I.hok b o e)
    ·exact gz I hb nx
   obtain ⟨o,e⟩:=this
   exact ⟨o,W.hideAll_get _ e hf⟩
  have hp:∀ p∈X.pn,(W.hideAll h (frs X.stack)).get? p.1=some p.2:=fun p hp=>by
   obtain ⟨p1,p2,p3,p4,_⟩:=I.pin p (List.mem_append_left _ hp)
   refine W.hideAll_get _ p1 fun z=>?_
   rcases List.mem_cons.mp (I.fh _ z) with e | z
   ·exact p3 e
   ·exact p4 z
  have hl:h.FunFrames (W.hideAll h (frs X.stack)) X.stack:=W.funFrames_hide I.stack fun env he b hb=>List.mem_filterMap.mpr ⟨env,he,hb⟩
  refine yM (env:=lN) (outer:=nT) (by rw [show X.A.frames=some X.stack from I.ok.frames,hst]) HR made jX (hst ▸ hl) fun a0 h4 up4 xU=>?_
  refine up4.back fun h5 EZ Ba=>fx _ _ ?_
  have sm:h.UpToSlots h5:=(Heap.UpToSlots.of_keeps made.keeps).trans (xU.trans Ba)
  have J:=kh I fZ hp jX EZ.1 sm
  have up':Up (W.hideAll h (frs X.stack)) X.stack a C a0 h5:=by
   have z:∀ l,l=X.stack->Up (W.hideAll h (frs X.stack)) l a C a0 h5->Up (W.hideAll h (frs X.stack)) X.stack a C a0 h5:=fun l e u=>e ▸ u
   exact z _ hst.symm EZ
  exact ⟨[],σ,H,a,a0,C,_,rfl,J,up',fZ,hp,q⟩
end Fg
end
section
namespace Fg
open PySem L2
mutual
noncomputable def DV (K:W.Frag) (H:Hp):D->V->Prop
 | .ai,v=>v=.ai
 | .bl b,v=>v=.bl b
 | .int i,v=>v=.int i
 | .str x,v=>v=.str x
 | .tup ds,v=>∃ a vs,v=.ref a/\jD K H a vs/\iB K H ds vs
 | .lst ds,v=>∃ a vs,v=.ref a/\gb K H a vs/\iB K H ds vs
 | .dct _ _,_=>False
 | .ref _,_=>False
noncomputable def iB (K:W.Frag) (H:Hp):List D->List V->Prop
 | [],vs=>vs=[]
 | d::ds,vs=>∃ v ws,vs=v::ws/\DV K H d v/\iB K H ds ws
end
section
variable {B:Bd} {Φ:aY} {E:Gx} {F F' F1:Addr->Prop} {ρ ρ' ρ1:List Addr} {H H' H1:Hp} {M M':MH} {σD:Sg} {σ:St} {Q:VK}
mutual
theorem RD.dv:∀ {d:D} {v:V},plain d=true->RD B F ρ H d v->DV B.K H d v
 | .ai,v,_,h=>by simp only [RD] at h;simp only [DV];exact h
 | .bl _,v,_,h=>by simp only [RD] at h;simp only [DV];exact h
 | .int _,v,_,h=>by simp only [RD] at h;simp only [DV];exact h
 | .str _,v,_,h=>by simp only [RD] at h;simp only [DV];exact h
 | .tup ds,v,p,h=>by
  simp only [RD] at h;simp only [DV];simp only [plain] at p
  obtain ⟨a,vs,h1,h2,h3⟩:=h
  exact ⟨a,vs,h1,h2.sq,ak.dv p h3⟩
 | .lst ds,v,p,h=>by
  simp only [RD] at h;simp only [DV];simp only [plain] at p
  obtain ⟨a,vs,h1,h2,h3⟩:=h
  exact ⟨a,vs,h1,h2.sq,ak.dv p h3⟩
 | .dct _ _,v,p,h=>by simp [plain] at p
 | .ref _,v,p,h=>by simp [plain] at p
theorem ak.dv:∀ {ds:List D} {vs:List V},av ds=true->ak B F ρ H ds vs->iB B.K H ds vs
 | [],vs,_,h=>by simp only [ak] at h;simp only [iB];exact h
 | d::ds,vs,p,h=>by
  simp only [ak] at h;simp only [iB];simp only [av,Bool.and_eq_true] at p
  obtain ⟨v,ws,h1,h2,h3⟩:=h
  exact ⟨v,ws,h1,RD.dv p.1 h2,ak.dv p.2 h3⟩
end
theorem xF {d:D} {v:V} (S:SR B F ρ M H) (p:plain (top M d)=true) (h:RD B F ρ H d v):DV B.K H (top M d) v:=by
 cases d with
 | ref n =>
  cases hM:M[n]? with
  | none=>simp [top,hM,plain] at p
  | some o =>
   cases o with
   | lst ds =>
    obtain ⟨a,vs,e,q,r⟩:=bX (ds:=ds) S h (by simp only [vw,hM])
    simp only [top,hM,plain] at p
    simp only [top,hM,DV]
    exact ⟨a,vs,e,q,ak.dv p r⟩
   | dct _=>simp [top,hM,plain] at p
   | pD _=>simp [top,hM,plain] at p
   | ins _ _=>simp [top,hM,plain] at p
 | tup ds=>exact RD.dv p h
 | lst ds=>exact RD.dv p h
 | dct _ _=>exact RD.dv p h
 | ai=>exact RD.dv p h
 | bl _=>exact RD.dv p h
 | int _=>exact RD.dv p h
 | str _=>exact RD.dv p h
noncomputable def yo (K:W.Frag) (neg:Bool):R2:=fun x y H Q=>∃ d e,DV K H d x/\DV K H e y/\bw d e=true/\Q (.bl (if neg then !aN d e else aN d e)) H
noncomputable def ym (K:W.Frag) (neg:Bool):R2:=fun x y H Q=>∃ l b xs,x=.ref l/\y=.ref b/\gb K H l xs/\gb K H b []/\Q (.bl (if neg then !xs.isEmpty else xs.isEmpty)) H
noncomputable def BK (neg:Bool):R2:=fun x y H Q=>∃ a b,x=.bl a/\y=.bl b/\Q (.bl (if neg then !(a == b) else (a == b))) H
noncomputable def yp (B:Bd) (neg:Bool):R2:=fun x y H Q=>∃ a kvs k,y=.ref a/\x=kV k/\Jb B H a kvs/\Q (.bl (if neg then !(dh kvs k).isSome else (dh kvs k).isSome)) H
noncomputable def rS (B:Bd):AG->R2
 | .lt=>rR fun i j=>.bl (decide (i<j))
 | .le=>rR fun i j=>.bl (decide (i<=j))
 | .gt=>rR fun i j=>.bl (decide (j<i))
 | .ge=>rR fun i j=>.bl (decide (j<=i))
 | .eq=>fun x y H Q=>BK false x y H Q\/(yo B.K false x y H Q\/ym B.K false x y H Q)
 | .ne=>fun x y H Q=>BK true x y H Q\/(yo B.K true x y H Q\/ym B.K true x y H Q)
 | .qq=>fun x y H Q=>y=.ai/\Q (.bl (decide (x=.ai))) H
 | .iK=>fun x y H Q=>y=.ai/\Q (.bl (!decide (x=.ai))) H
 | .isin=>fun x y H Q=>yp B false x y H Q\/Kn B.K false x y H Q
 | .iJ=>fun x y H Q=>yp B true x y H Q\/Kn B.K true x y H Q
theorem sC {d:D} {v:V} {k:Ky} (h:keyOf d=some k) (r:RD B F ρ H d v):v=kV k:=by
 cases d with
 | int i=>simp only [keyOf] at h;cases h;simp only [RD] at r;exact r
 | str x=>simp only [keyOf] at h;cases h;simp only [RD] at r;exact r
 | ai=>simp only [keyOf] at h;cases h
 | bl _=>simp only [keyOf] at h;cases h
 | tup _=>simp only [keyOf] at h;cases h
 | lst _=>simp only [keyOf] at h;cases h
 | dct _ _=>simp only [keyOf] at h;cases h
 | ref _=>simp only [keyOf] at h;cases h
theorem oA {d:D} {v:V} (h:flat d=true) (r:RD B F ρ H d v):gR v=true:=by
 cases d <;> first | (simp only [RD] at r;subst r;rfl) | (simp only [flat] at h;cases h)
theorem qC {ds:List D}:∀ {vs:List V},ds.all flat=true->ak B F ρ H ds vs->vs.all gR=true:=by
 induction ds with
 | nil=>intro vs _ r;simp only [ak] at r;subst r;rfl
 | cons d ds ih =>
  intro vs h r
  simp only [ak] at r
  obtain ⟨v,ws,rfl,r1,r2⟩:=r
  simp only [List.all_cons,Bool.and_eq_true] at h ⊢
  exact ⟨oA h.1 r1,ih h.2 r2⟩
theorem C9 {d e:D} {v w:V} (h1:flat d=true) (h2:flat e=true) (r1:RD B F ρ H d v) (r2:RD B F ρ H e w):aN d e=AO v w:=by
 cases d <;> first | (simp only [flat] at h1;cases h1;done) | skip
 all_goals (cases e <;> first | (simp only [flat] at h2;cases h2;done) | skip)
 all_goals (simp only [RD] at r1 r2;subst r1 r2;simp only [aN,AO])
 all_goals first | rfl | simp [Bool.beq_eq_decide_eq]
theorem vD {d:D} {v:V} (h1:flat d=true) (r1:RD B F ρ H d v) {ds:List D}:∀ {vs:List V},ds.all flat=true->ak B F ρ H ds vs->(ds.any fun e=>aN e d)=Ll v vs:=by
 induction ds with
 | nil=>intro vs _ r;simp only [ak] at r;subst r;rfl
 | cons e ds ih =>
  intro vs h r
  simp only [ak] at r
  obtain ⟨w,ws,rfl,q1,q2⟩:=r
  simp only [List.all_cons,Bool.and_eq_true] at h
  simp only [List.any_cons,Ll,C9 h.1 h1 q1 r1]
  have:=ih h.2 q2
  simp only [Ll] at this
  rw [this]
theorem zG {neg:Bool} {x y:D} {v w:V} {X:XK} {t:Bool} (S:SR B F ρ M H) (rx:RD B F ρ H x v) (ry:RD B F ρ H y w) (hi:AK M x y=some t)
  (h:Post B (.ok (.bl (if neg then !t else t)) M) F ρ H Q X):yp B neg v w H Q\/Kn B.K neg v w H Q:=by
 unfold AK at hi
 split at hi
 ·rename_i eG hv
  split at hi
  ·rename_i k hk
   cases hi
   obtain ⟨a,kvs,rfl,q,e1,e2⟩:=nI S ry hv
   have:=(kY (k:=k) e1 e2).2.2
   refine .inl ⟨a,kvs,k,rfl,sC hk rx,q,?_⟩
   rw [<- this]
   exact aj.run h S (by simp only [RD])
  ·cases hi
 ·rename_i ds hv
  split at hi
  ·rename_i hf
   cases hi
   simp only [Bool.and_eq_true] at hf
   obtain ⟨a,vs,rfl,q,r⟩:=bX S ry hv
   refine .inr ⟨a,vs,rfl,.inl q,oA hf.1 rx,qC hf.2 r,?_⟩
   rw [<- vD hf.1 rx hf.2 r]
   exact aj.run h S (by simp only [RD])
  ·cases hi
 ·rename_i ds hv
  split at hi
  ·rename_i hf
   cases hi
   simp only [Bool.and_eq_true] at hf
   obtain ⟨a,vs,rfl,q,r⟩:=kC S ry hv
   refine .inr ⟨a,vs,rfl,.inr q,oA hf.1 rx,qC hf.2 r,?_⟩
   rw [<- vD hf.1 rx hf.2 r]
   exact aj.run h S (by simp only [RD])
  ·cases hi
 ·cases hi
theorem kj {f:D->D} (ih:∀ (d:D) (v:V),plain (f d)=true->RD B F ρ H d v->DV B.K H (f d) v):∀ (ds:List D) (vs:List V),av (ds.map f)=true->ak B F ρ H ds vs->iB B.K H (ds.map f) vs
 | [],vs,p,h=>by simp only [ak] at h;simp only [List.map_nil,iB];exact h
 | d::ds,vs,p,h=>by
  simp only [ak] at h;simp only [List.map_cons,iB];simp only [List.map_cons,av,Bool.and_eq_true] at p
  obtain ⟨v,ws,h1,h2,h3⟩:=h
  exact ⟨v,ws,h1,ih d v p.1 h2,kj ih ds ws p.2 h3⟩
theorem vg (S:SR B F ρ M H) (n:Nat):∀ (d:D) (v:V),plain (deep n M d)=true->RD B F ρ H d v->DV B.K H (deep n M d) v:=by
 induction n with
 | zero=>intro d v p h;exact RD.dv p h
 | succ n ih =>
  intro d v p h
  cases d with
  | ref r =>
   cases hM:M[r]? with
   | none=>simp [deep,hM,plain] at p
   | some o =>
    cases o with
    | lst ds =>
     obtain ⟨a,vs,e,q,r⟩:=bX (ds:=ds) S h (by simp only [vw,hM])
     simp only [deep,hM,plain] at p
     simp only [deep,hM,DV]
     exact ⟨a,vs,e,q,kj ih ds vs p r⟩
    | dct _=>simp [deep,hM,plain] at p
    | pD _=>simp [deep,hM,plain] at p
    | ins _ _=>simp [deep,hM,plain] at p
  | tup ds =>
   simp only [RD] at h;simp only [deep,plain] at p;simp only [deep,DV]
   obtain ⟨a,vs,h1,h2,h3⟩:=h
   exact ⟨a,vs,h1,h2.sq,kj ih ds vs p h3⟩
  | lst ds =>
   simp only [RD] at h;simp only [deep,plain] at p;simp only [deep,DV]
   obtain ⟨a,vs,h1,h2,h3⟩:=h
   exact ⟨a,vs,h1,h2.sq,kj ih ds vs p h3⟩
  | dct _ _=>simp [deep,plain] at p
  | ai=>exact RD.dv p h
  | bl _=>exact RD.dv p h
  | int _=>exact RD.dv p h
  | str _=>exact RD.dv p h
theorem u9 (neg:Bool) {x y:D} {v w:V} {X:XK} (S:SR B F ρ M H) (rx:RD B F ρ H x v) (ry:RD B F ρ H y w) (h:Post B (if bw (top M x) (top M y) then .ok (.bl (if neg then !aN (top M x) (top M y) else aN (top M x) (top M y))) M else (match kU M x y with | some t=>.ok (.bl (if neg then !t else t)) M | none=>C6 M neg x y)) F ρ H Q X):yo B.K neg v w H Q\/ym B.K neg v w H Q:=by
 split at h
 ·rename_i hc
  have hc':=hc
  simp only [bw,Bool.and_eq_true] at hc'
  exact .inl ⟨_,_,xF S hc'.1.1 rx,xF S hc'.1.2 ry,hc,aj.run h S (by simp only [RD])⟩
 ·cases hn:kU M x y with
  | none =>
   rw [hn] at h
   replace h:Post B (C6 M neg x y) F ρ H Q X:=h
   unfold C6 at h
   split at h
   ·rename_i hc
    have hc':=hc
    simp only [bw,Bool.and_eq_true] at hc'
    exact .inl ⟨_,_,vg S 120 _ _ hc'.1.1 rx,vg S 120 _ _ hc'.1.2 ry,hc,aj.run h S (by simp only [RD])⟩
   ·exact h.elim
  | some t =>
   rw [hn] at h
   unfold kU at hn
   split at hn
   ·rename_i xs ys hx hy
    split at hn
    ·rename_i he
     cases hn
     obtain ⟨a,vs,rfl,q1,r1⟩:=bX S rx hx
     obtain ⟨b,ws,rfl,q2,r2⟩:=bX S ry hy
     have l1:=ak.length r1
     have l2:=ak.length r2
     have e2:ws=[]:=by
      rw [List.isEmpty_iff] at he
      subst he
      exact List.eq_nil_of_length_eq_zero l2.symm
     have e1:vs.isEmpty=xs.isEmpty:=by
      cases xs <;> cases vs <;> first | rfl | (simp at l1;done)
     subst e2
     refine .inr ⟨a,b,vs,rfl,rfl,q1,q2,?_⟩
     rw [e1]
     exact aj.run h S (by simp only [RD])
    ·cases hn
   ·cases hn
theorem kc {f:Int->Int->Bool} {x y:D} {v w:V} {X:XK} (S:SR B F ρ M H) (rx:RD B F ρ H x v) (ry:RD B F ρ H y w) (h:Post B (tD M f x y) F ρ H Q X):rR (fun i j=>.bl (f i j)) v w H Q:=by
 cases x with
 | int i=>cases y with
  | int j=>simp only [RD] at rx ry;subst rx ry;exact ⟨_,_,rfl,rfl,aj.run h S (by simp only [RD])⟩
  | _=>exact h.elim
 | _=>exact h.elim
theorem lA {x:D} {v:V} (r:RD B F ρ H x v):dY x=decide (v=.ai):=by
 cases x <;> first | (simp only [RD] at r;subst r;rfl) | (simp only [RD] at r;obtain ⟨_,r⟩:=r;first | (obtain ⟨_,rfl,_⟩:=r;rfl) | (obtain ⟨_,rfl⟩:=r;rfl) | (obtain ⟨_,_,rfl,_⟩:=r;rfl))
theorem An {o:AG} {x y:D} {v w:V} {X:XK} (S:SR B F ρ M H) (rx:RD B F ρ H x v) (ry:RD B F ρ H y w) (h:Post B (bu o M x y) F ρ H Q X):rS B o v w H Q:=by
 have eb:∀ {p:Bool×Bool},w9 x y=some p->x=.bl p.1/\y=.bl p.2:=fun {p} hb=>by
  cases x with
  | bl a=>cases y with
   | bl b=>cases hb;exact ⟨rfl,rfl⟩
   | _=>cases hb
  | _=>cases hb
 have nn:dY y=true->w=.ai:=fun q=>by
  have:=lA ry
  rw [q] at this
  exact of_decide_eq_true this.symm
 cases o with
 | lt=>exact kc S rx ry h
 | le=>exact kc S rx ry h
 | gt=>exact kc S rx ry h
 | ge=>exact kc S rx ry h
 | eq =>
  cases hb:w9 x y with
  | some p =>
   obtain ⟨rfl,rfl⟩:=eb hb
   simp only [RD] at rx ry;subst rx ry
   exact .inl ⟨_,_,rfl,rfl,aj.run h S (by simp only [RD];rfl)⟩
  | none =>
   simp only [bu,hb] at h
   exact .inr (u9 false S rx ry h)
 | ne =>
  cases hb:w9 x y with
  | some p =>
   obtain ⟨rfl,rfl⟩:=eb hb
   simp only [RD] at rx ry;subst rx ry
   exact .inl ⟨_,_,rfl,rfl,aj.run h S (by simp only [RD];rfl)⟩
  | none =>
   simp only [bu,hb] at h
   exact .inr (u9 true S rx ry h)
 | qq =>
  cases hn:dY y with
  | false=>simp only [bu,hn] at h;exact h.elim
  | true =>
   simp only [bu,hn,if_true] at h
   refine ⟨nn hn,?_⟩
   rw [<- lA rx]
   exact aj.run h S (by simp only [RD])
 | iK =>
  cases hn:dY y with
  | false=>simp only [bu,hn] at h;exact h.elim
  | true =>
   simp only [bu,hn,if_true] at h
   refine ⟨nn hn,?_⟩
   rw [<- lA rx]
   exact aj.run h S (by simp only [RD])
 | isin =>
  cases hi:AK M x y with
  | none=>simp only [bu,hi] at h;exact h.elim
  | some t=>simp only [bu,hi] at h;exact zG (neg:=false) S rx ry hi h
 | iJ =>
  cases hi:AK M x y with
  | none=>simp only [bu,hi] at h;exact h.elim
  | some t=>simp only [bu,hi] at h;exact zG (neg:=true) S rx ry hi h
theorem uf {o:AG} {a b:Fg.E} (h:T B Φ E (.cmp o a b) σ H Q):E6 (rS B o) (T B Φ E a) (T B Φ E b) σ H Q:=by
 obtain ⟨σD,M,F,ρ,S,r,h⟩:=h
 simp only [ev] at h
 exact T.two S r rfl h fun x y M2 F2 ρ2 H2 v w S2 _ rx ry h2=>An S2 rx ry h2
theorem zB (n:Nat) (i:Int):sH n i=Jk n i:=rfl
theorem AB {ds:List D} {vs:List V} {i:Int} {d:D} (r:ak B F ρ H ds vs) (h:dc ds i=some d):∃ v,IW vs i=some v/\RD B F ρ H d v:=by
 unfold dc at h
 unfold IW
 rw [<- ak.length r]
 cases hx:sH ds.length i with
 | none=>rw [hx] at h;cases h
 | some j =>
  rw [hx] at h
  rw [zB] at hx
  rw [hx]
  exact ak.get r h
noncomputable def Kl (B:Bd):R2:=fun x y H Q=>∃ a kvs k v,x=.ref a/\y=kV k/\Jb B H a kvs/\dh kvs k=some v/\Q v H
noncomputable def BJ (B:Bd):R2:=fun x y H Q=>Kh B.K x y H Q\/(Kf B.K x y H Q\/(Kg x y H Q\/Kl B x y H Q))
theorem zH {x y:D} {v w:V} {X:XK} (S:SR B F ρ M H) (rx:RD B F ρ H x v) (ry:RD B F ρ H y w) (h:Post B (n9 M x y) F ρ H Q X):BJ B v w H Q:=by
 unfold n9 at h
 split at h
 ·simp only [RD] at rx ry;subst rx ry
  split at h
  ·rename_i hl
   split at h
   ·rename_i c hc
    exact .inr (.inr (.inl ⟨_,_,c,rfl,rfl,Nat.le_trans (of_decide_eq_true hl) bN,hc,aj.run h S (by simp only [RD])⟩))
   ·exact h.elim
  ·exact h.elim
 ·split at h
  ·rename_i ds i hv _
   split at h
   ·rename_i d hd
    obtain ⟨a,vs,rfl,q,r⟩:=kC S rx hv
    simp only [RD] at ry;subst ry
    obtain ⟨u,h1,h2⟩:=AB r hd
    exact .inr (.inl ⟨a,vs,i,u,rfl,rfl,q,h1,aj.run h S h2⟩)
   ·exact h.elim
  ·rename_i ds i hv _
   split at h
   ·rename_i d hd
    obtain ⟨a,vs,rfl,q,r⟩:=bX S rx hv
    simp only [RD] at ry;subst ry
    obtain ⟨u,h1,h2⟩:=AB r hd
    exact .inl ⟨a,vs,i,u,rfl,rfl,q,h1,aj.run h S h2⟩
   ·exact h.elim
  ·rename_i eG hv _
   split at h
   ·rename_i k hk
    split at h
    ·rename_i d hd
     obtain ⟨a,kvs,rfl,q,e1,e2⟩:=nI S rx hv
     obtain ⟨u,h1,h2⟩:=(kY (k:=k) e1 e2).1 d hd
     exact .inr (.inr (.inr ⟨a,kvs,k,u,rfl,sC hk ry,q,h1,aj.run h S h2⟩))
    ·exact h.elim
   ·exact h.elim
  ·exact h.elim
theorem Bw {a b:Fg.E} (h:T B Φ E (.idx a b) σ H Q):E6 (BJ B) (T B Φ E a) (T B Φ E b) σ H Q:=by
 obtain ⟨σD,M,F,ρ,S,r,h⟩:=h
 simp only [ev] at h
 exact T.two S r rfl h fun x y M2 F2 ρ2 H2 v w S2 _ rx ry h2=>zH S2 rx ry h2
theorem xW (n d:Nat) (o:Option Int):six n d o=HT.cU n d o:=by cases o <;> rfl
theorem vq {ds:List D} {vs:List V} (r:ak B F ρ H ds vs) (lo hi:Option Int):ak B F ρ H (eV ds lo hi) (qM vs lo hi):=by
 unfold eV qM
 rw [ak.length r]
 simp only [xW]
 exact ak.take _ (ak.drop _ r)
noncomputable def Kc:V->Option Int->Option Int->Hp->VK->Prop:=fun x lo hi H Q=>∃ z,x=.str z/\z.length<=sizeLine/\Q (.str (cuts z lo hi)) H
noncomputable def BI (B:Bd):V->Option Int->Option Int->Hp->VK->Prop:=fun x lo hi H Q=>Kd B.K x lo hi H Q\/(Ka B.K x lo hi H Q\/Kc x lo hi H Q)
theorem Bc {fz:Bool} {x:D} {v:V} {lo hi:Option Int} {X:XK} (S:SR B F ρ M H) (rx:RD B F ρ H x v) (h:Post B (sl2 fz M x lo hi) F ρ H Q X):BI B v lo hi H Q:=by
 unfold sl2 at h
 split at h
 ·simp only [RD] at rx;subst rx
  split at h
  ·rename_i hl
   exact .inr (.inr ⟨_,rfl,Nat.le_trans (of_decide_eq_true hl) bN,aj.run h S (by simp only [RD])⟩)
  ·exact h.elim
 ·split at h
  ·rename_i ds hv
   cases x with
   | tup xs =>
    simp only [vw] at hv;cases hv
    simp only [RD] at rx
    obtain ⟨a,vs,rfl,z,r⟩:=rx
    split at h
    ·exact h.elim
    ·rename_i hf
     refine .inr (.inl ⟨a,vs,rfl,z.sq,fun q=>hf ?_,j6 S h (vq r lo hi)⟩)
     simp only [Ew,Bool.and_eq_true,decide_eq_true_eq,xW,ak.length r]
     exact q
   | ref n=>simp only [vw] at hv;split at hv <;> cases hv
   | lst _=>simp only [vw] at hv;cases hv
   | dct _ _=>simp only [vw] at hv;cases hv
   | ai=>simp only [vw] at hv;cases hv
   | bl _=>simp only [vw] at hv;cases hv
   | int _=>simp only [vw] at hv;cases hv
   | str _=>simp only [vw] at hv;cases hv
  ·rename_i ds hv
   obtain ⟨a,vs,rfl,q,r⟩:=bX S rx hv
   exact .inl ⟨a,vs,rfl,q,dD S h (vq r lo hi)⟩
  ·exact h.elim
theorem Fq {Q:Option Int->Hp->Prop} (h:TP B Φ E .none σ H Q):tW σ H Q:=by
 obtain ⟨σD,M,F,ρ,S,r,h⟩:=h
 simp only [CY] at h
 exact aj.run h S rfl
theorem Fp {a:Fg.E} {Q:Option Int->Hp->Prop} (h:TP B Φ E (.some a) σ H Q):DQ (T B Φ E a) σ H Q:=by
 obtain ⟨σD,M,F,ρ,S,r,h⟩:=h
 simp only [CY] at h
 refine ⟨σD,M,F,ρ,S,r,aj.imp (aj.bind (rel:=RD B) h) fun v H1 ⟨x,M1,F1,ρ1,e1,S1,rx,h1⟩=>?_⟩
 split at h1
 ·simp only [RD] at rx;subst rx
  exact ⟨_,rfl,aj.run h1 S1 rfl⟩
 ·exact h1.elim
theorem Fl {fz:Bool} {a:Fg.E} {lo hi:O} (h:T B Φ E (.sl fz a lo hi) σ H Q):tSl (BI B) (T B Φ E a) (TP B Φ E lo) (TP B Φ E hi) σ H Q:=by
 obtain ⟨σD,M,F,ρ,S,r,h⟩:=h
 simp only [ev] at h
 refine T.one S r rfl h fun x M1 F1 ρ1 H1 v e1 S1 r1 rx h1=>?_
 refine ⟨σD,M1,F1,ρ1,S1,r1,aj.imp (aj.bind (rel:=fun _ _ _ (a b:Option Int)=>a=b) h1) fun l H2 ⟨l',M2,F2,ρ2,e2,S2,el,h2⟩=>?_⟩
 refine ⟨σD,M2,F2,ρ2,S2,r1.mono e2,aj.imp (aj.bind (rel:=fun _ _ _ (a b:Option Int)=>a=b) h2) fun u H3 ⟨u',M3,F3,ρ3,e3,S3,eu,h3⟩=>?_⟩
 subst el eu
 exact Bc S3 (RD.mono e3 _ _ (RD.mono e2 _ _ rx)) h3
theorem vJ {M:MH} {d:D} {ds:List D} (h:vw M d=.tup ds):d=.tup ds:=by
 cases d with
 | tup xs=>simp only [vw] at h;cases h;rfl
 | ref n=>simp only [vw] at h;split at h <;> cases h
 | lst _=>simp only [vw] at h;cases h
 | dct _ _=>simp only [vw] at h;cases h
 | ai=>simp only [vw] at h;cases h
 | bl _=>simp only [vw] at h;cases h
 | int _=>simp only [vw] at h;cases h
 | str _=>simp only [vw] at h;cases h
theorem uY:∀ {ds:List D} {vs:List V} {ns:List Int},ak B F ρ H ds vs->intsOf ds=some ns->vs=ns.map V.int
 | [],vs,ns,r,h=>by simp only [intsOf] at h;cases h;simp only [ak] at r;subst r;rfl
 | d::ds,vs,ns,r,h=>by
  cases d with
  | int i =>
   simp only [intsOf] at h
   cases hx:intsOf ds with
   | none=>rw [hx] at h;cases h
   | some ms =>
    rw [hx] at h;cases h
    simp only [ak] at r
    obtain ⟨v,ws,rfl,r1,r2⟩:=r
    simp only [RD] at r1;subst r1
    rw [uY r2 hx];rfl
  | _=>simp [intsOf] at h
noncomputable def FP (B:Bd):List V->Hp->VK->Prop:=fun xs H Q=>(∃ z,xs=[.str z]/\z.length<=sizeLine/\Q (.int z.length) H)\/((∃ p ys,xs=[.ref p]/\(gb B.K H p ys\/jD B.K H p ys)/\Q (.int ys.length) H)\/(∃ a kvs,xs=[.ref a]/\Jb B H a kvs/\Q (.int kvs.length) H))
noncomputable def rSum (B:Bd):List V->Hp->VK->Prop:=fun xs H Q=>∃ (p:Addr) (ns:List Int),xs=[.ref p]/\gb B.K H p (ns.map V.int)/\Q (.int ns.sum) H
noncomputable def FN (B:Bd):List V->Hp->VK->Prop:=fun xs H Q=>∃ p ys,xs=[.ref p]/\((gb B.K H p ys/\∀ l,H l=none->Q (.ref l) (upd H l (.tup ys)))\/(jD B.K H p ys/\Q (.ref p) H))
noncomputable def rQ (B:Bd):List V->Hp->VK->Prop:=fun xs H Q=>∃ p ys,xs=[.ref p]/\(gb B.K H p ys\/jD B.K H p ys)/\∀ l,H l=none->Q (.ref l) (upd H l (.lst ys))
noncomputable def FQ (B:Bd):List V->Hp->VK->Prop:=fun xs H Q=>∃ p kvs,xs=[.ref p]/\Jb B H p kvs/\∀ l,H l=none->Q (.ref l) (upd H l (.dK kvs))
noncomputable def rBl (B:Bd):Bl->List V->Hp->VK->Prop
 | .len=>FP B
 | .sum=>rSum B
 | .tuple=>FN B
 | .list=>rQ B
 | .dict=>FQ B
 | _=>fun _ _ _=>False
theorem FL {d:D} {vs:List V} (r:ak B F ρ H [d] vs):∃ v,vs=[v]/\RD B F ρ H d v:=by
 simp only [ak] at r
 obtain ⟨v,ws,rfl,r1,rfl⟩:=r
 exact ⟨v,rfl,r1⟩
theorem Ay {b:Bl} {fz:Bool} {ds:List D} {vs:List V} {X:XK} (S:SR B F ρ M H) (r:ak B F ρ H ds vs) (h:Post B (tK b fz M ds) F ρ H Q X):rBl B b vs H Q:=by
  unfold tK at h
  split at h
  . obtain ⟨v,rfl,r1⟩:=FL r
    simp only [RD] at r1;subst r1
    cases b <;> simp only at h <;> first
      | exact h.elim
      | (split at h
         . rename_i hl
           exact .inl ⟨_,rfl,Nat.le_trans (of_decide_eq_true hl) bN,aj.run h S (by simp only [RD])⟩
         . exact h.elim)
  . obtain ⟨v,rfl,r1⟩:=FL r
    split at h
    . rename_i hv
      obtain ⟨a,ws,rfl,q,rr⟩:=kC S r1 hv
      exact .inr (.inl ⟨a,ws,rfl,.inr q,aj.run h S (by simp only [RD,ak.length rr])⟩)
    . rename_i hv
      obtain ⟨a,ws,rfl,q,rr⟩:=bX S r1 hv
      exact .inr (.inl ⟨a,ws,rfl,.inl q,aj.run h S (by simp only [RD,ak.length rr])⟩)
    . rename_i hv
      obtain ⟨a,kvs,rfl,q,e1,e2⟩:=nI S r1 hv
      refine .inr (.inr ⟨a,kvs,rfl,q,aj.run h S ?_⟩)
      have:=congrArg List.length e1
      simp only [List.length_map] at this
      simp only [RD,this]
    . rename_i hv
      split at h
      . rename_i ns hn
        obtain ⟨a,ws,rfl,q,rr⟩:=bX S r1 hv
        have:=uY rr hn
        subst this
        exact ⟨a,ns,rfl,q,aj.run h S (by simp only [RD])⟩
      . exact h.elim
    . rename_i hv
      obtain ⟨a,ws,rfl,q,rr⟩:=bX S r1 hv
      exact ⟨a,ws,rfl,.inl ⟨q,j6 S h rr⟩⟩
    . rename_i hv
      have ed:=vJ hv
      subst ed
      have r1':=r1
      simp only [RD] at r1'
      obtain ⟨a,ws,rfl,q,rr⟩:=r1'
      exact ⟨a,ws,rfl,.inr ⟨q.sq,aj.run h S r1⟩⟩
    . rename_i hv
      obtain ⟨a,ws,rfl,q,rr⟩:=bX S r1 hv
      exact ⟨a,ws,rfl,.inl q,dD S h rr⟩
    . rename_i hv
      obtain ⟨a,ws,rfl,q,rr⟩:=kC S r1 hv
      exact ⟨a,ws,rfl,.inr q,dD S h rr⟩
    . rename_i eG hv
      obtain ⟨a,kvs,rfl,q,e1,e2⟩:=nI S r1 hv
      refine ⟨a,kvs,rfl,q,fun p hp=>?_⟩
      have e0:Ext F ρ H F (ρ++[p]) (upd H p (.dK kvs)):=⟨⟨S.sep,fun _ q=>q,fun a q _=>au (by rintro rfl;exact q hp),List.prefix_append _ _,fun a q=>by
        rcases List.mem_append.mp q with q | q
        . exact .inl q
        . rw [List.mem_singleton.mp q];exact .inr hp,fun _ q=>.inl q⟩,fun b w u q=>by rw [au (by rintro rfl;rw [hp] at q;cases q)];exact q⟩
      obtain ⟨S',e⟩:=S.lv (o:=.dK kvs) (u:=.dct eG) hp ⟨kvs,aD,e1,ak.mono e0 _ _ e2⟩
      refine h _ _ _ _ e S' ?_
      simp only [RD]
      refine ⟨p,?_,rfl⟩
      rw [<- S.len,List.getElem?_append_right (Nat.le_refl _),Nat.sub_self];rfl
    . exact h.elim
  . exact h.elim
theorem ug {b:Bl} {fz:Bool} {es:Es} (h:T B Φ E (.blt b fz es) σ H Q):E7 (rBl B b) (TL B Φ E es) σ H Q:=by
 obtain ⟨σD,M,F,ρ,S,r,h⟩:=h
 simp only [ev] at h
 exact TL.one S r rfl h fun x M1 F1 ρ1 H1 v _ S1 _ rx h1=>Ay S1 rx h1
end
end Fg
end
section
namespace Fg
open PySem L2
noncomputable def Mz (B:Bd) (o:Out) (F:Addr->Prop) (ρ:List Addr) (H:Hp) (Dn:Ends) (E:Gx):Prop :=
 match o with
 | .nx σD=>∀ σ,RS B F ρ H σD σ->Dn.nx σ H
 | .rt d=>∀ v,RD B F ρ H d v->Dn.rt v H
 | .bk σD=>∀ σ,RS B F ρ H σD σ->Dn.bk σ H
 | .ct σD=>∀ σ,RS B F ρ H σD σ->Dn.ct σ H
 | .xc c σD=>∀ σ cv x,RS B F ρ H σD σ->B.exc c cv->E.e cv x σ H
noncomputable def aW (B:Bd) (r:R Out) (F:Addr->Prop) (ρ:List Addr) (H:Hp) (Dn:Ends) (E:Gx):Prop :=
 match r with
 | .ok o M'=>∀ F' ρ' H',Ext F ρ H F' ρ' H'->SR B F' ρ' M' H'->Mz B o F' ρ' H' Dn E
 | .exc _ _=>False
 | .bad=>False
noncomputable def TC (B:Bd) (Φ:aY) (E:Gx) (s:S):TS:=fun Dn σ H=>∃ (σD:Sg) (M:MH) (F:Addr->Prop) (ρ:List Addr),
 SR B F ρ M H/\RS B F ρ H σD σ/\aW B (ex Φ s σD M) F ρ H Dn E
noncomputable def xy (B:Bd) (Φ:aY) (E:Gx) (s:Ss):TS:=fun Dn σ H=>∃ (σD:Sg) (M:MH) (F:Addr->Prop) (ρ:List Addr),
 SR B F ρ M H/\RS B F ρ H σD σ/\aW B (exs Φ s σD M) F ρ H Dn E
section
variable {B:Bd} {Φ:aY} {E:Gx} {F F' F1:Addr->Prop} {ρ ρ' ρ1:List Addr} {H H' H1:Hp} {M M':MH} {σD:Sg} {σ:St} {Q:VK} {Dn:Ends}
theorem aW.weak {r:R Out} (e:Ext F ρ H F1 ρ1 H1) (h:aW B r F ρ H Dn E):aW B r F1 ρ1 H1 Dn E:=by
 cases r with
 | ok d M'=>exact fun F' ρ' H' e' S=>h F' ρ' H' (e.trans e') S
 | exc c M'=>exact h
 | bad=>exact h
theorem aW.use {α β:Type} {rel:(Addr->Prop)->List Addr->Hp->α->β->Prop} {x:R α} {f:α->MH->R Out} (r:RS B F ρ H σD σ) (h:aW B (x.use σD f) F ρ H Dn E) :
  aj rel B x F ρ H (fun v H'=>∃ d M' F' ρ',Ext F ρ H F' ρ' H'/\SR B F' ρ' M' H'/\rel F' ρ' H' d v/\aW B (f d M') F' ρ' H' Dn E) (fun cv x H'=>E.e cv x σ H'):=by
 cases x with
 | ok d M'=>exact fun F' ρ' H' v e S q=>⟨d,M',F',ρ',e,S,q,aW.weak e h⟩
 | exc c M'=>exact fun F' ρ' H' cv x e S q=>h F' ρ' H' e S σ cv x (r.mono e) q
 | bad=>exact h
theorem TC.one {a:Fg.E} {f:D->MH->R Out} {W:V->Hp->Prop} (S:SR B F ρ M H) (r:RS B F ρ H σD σ) (h:aW B ((ev Φ a σD M).use σD f) F ρ H Dn E)
  (k:∀ x M1 F1 ρ1 H1 v,Ext F ρ H F1 ρ1 H1->SR B F1 ρ1 M1 H1->RS B F1 ρ1 H1 σD σ->RD B F1 ρ1 H1 x v->aW B (f x M1) F1 ρ1 H1 Dn E->W v H1):T B Φ E a σ H W:=by
 refine ⟨σD,M,F,ρ,S,r,aj.imp (aW.use (rel:=RD B) r h) fun v H1 ⟨x,M1,F1,ρ1,e,S1,rx,h1⟩=>?_⟩
 exact k x M1 F1 ρ1 H1 v e S1 (r.mono e) rx h1
theorem aW.run {o:Out} (h:aW B (.ok o M) F ρ H Dn E) (S:SR B F ρ M H):Mz B o F ρ H Dn E:=h F ρ H S.refl S
theorem nN {i:Nat} {e:Fg.E} (h:TC B Φ E (.set i e) Dn σ H):xK (T B Φ E e) (lD i) Dn σ H:=by
 obtain ⟨σD,M,F,ρ,S,r,h⟩:=h
 simp only [ex] at h
 exact TC.one S r h fun x M1 F1 ρ1 H1 v e1 S1 r1 rx h1=>aW.run h1 S1 _ (r1.set rx i)
theorem Fv {e:Fg.E} (h:TC B Φ E (.ex e) Dn σ H):DT (T B Φ E e) Dn σ H:=by
 obtain ⟨σD,M,F,ρ,S,r,h⟩:=h
 simp only [ex] at h
 exact TC.one S r h fun x M1 F1 ρ1 H1 v e1 S1 r1 rx h1=>aW.run h1 S1 _ r1
theorem Bk {e:Fg.E} (h:TC B Φ E (.ret e) Dn σ H):JL (T B Φ E e) Dn σ H:=by
 obtain ⟨σD,M,F,ρ,S,r,h⟩:=h
 simp only [ex] at h
 exact TC.one S r h fun x M1 F1 ρ1 H1 v e1 S1 r1 rx h1=>aW.run h1 S1 _ rx
theorem Bu {c:Fg.E} {a b:Ss} (h:TC B Φ E (.ifs c a b) Dn σ H):JQ (TB B Φ E c) (xy B Φ E a) (xy B Φ E b) Dn σ H:=by
 obtain ⟨σD,M,F,ρ,S,r,h⟩:=h
 simp only [ex] at h
 refine TC.one S r h fun x M1 F1 ρ1 H1 v e1 S1 r1 rx h1=>?_
 split at h1
 ·simp only [RD] at rx;subst rx
  exact ⟨true,rfl,by dsimp only;rw [if_pos rfl];exact ⟨σD,M1,F1,ρ1,S1,r1,h1⟩⟩
 ·simp only [RD] at rx;subst rx
  exact ⟨false,rfl,by dsimp only;rw [if_neg Bool.false_ne_true];exact ⟨σD,M1,F1,ρ1,S1,r1,h1⟩⟩
 ·exact h1.elim
theorem pQ (h:xy B Φ E .nil Dn σ H):DS Dn σ H:=by
 obtain ⟨σD,M,F,ρ,S,r,h⟩:=h
 simp only [exs] at h
 exact aW.run h S _ r
theorem mR {s:S} {ss:Ss} (h:xy B Φ E (.cons s ss) Dn σ H):JK (TC B Φ E s) (xy B Φ E ss) Dn σ H:=by
 obtain ⟨σD,M,F,ρ,S,r,h⟩:=h
 simp only [exs] at h
 refine ⟨σD,M,F,ρ,S,r,?_⟩
 cases hx:ex Φ s σD M with
 | ok o M1 =>
  rw [hx] at h
  simp only [R.af] at h
  intro F' ρ' H' e S'
  cases o with
  | nx σ1=>exact fun σ' r'=>⟨σ1,M1,F',ρ',S',r',aW.weak e h⟩
  | rt d=>exact fun v q=>h F' ρ' H' e S' v q
  | bk σ1=>exact fun σ' q=>h F' ρ' H' e S' σ' q
  | ct σ1=>exact fun σ' q=>h F' ρ' H' e S' σ' q
  | xc c σ1=>exact fun σ' cv x q1 q2=>h F' ρ' H' e S' σ' cv x q1 q2
 | exc c M1=>rw [hx] at h;exact h
 | bad=>rw [hx] at h;exact h
theorem tM {fz:Bool} {x:D} {ds:List D} {v:V} {vs:List V} {X:XK} (S:SR B F ρ M H) (rx:RD B F ρ H x v) (r:ak B F ρ H ds vs) (h:Post B (gZ .append fz M x ds) F ρ H Q X):nS v vs H Q:=by
 unfold gZ at h
 cases hl:gQ M x with
 | none=>rw [hl] at h;exact h.elim
 | some q =>
  rw [hl] at h
  obtain ⟨rfl,hx⟩:=j9 hl
  cases ds with
  | nil=>exact h.elim
  | cons d t =>
   cases t with
   | cons _ _=>exact h.elim
   | nil =>
    simp only [qg,we] at h
    split at h
    ·rename_i hlen
     obtain ⟨w,rfl,r1⟩:=FL r
     simp only [RD] at rx
     obtain ⟨a,h1,rfl⟩:=rx
     obtain ⟨ws,h2,h3⟩:=S.obj _ a _ h1 hx
     refine ⟨a,ws,w,rfl,rfl,h2,?_,?_⟩
     ·rw [<- ak.length h3];exact Nat.lt_of_lt_of_le (of_decide_eq_true hlen) bN
     ·obtain ⟨S',e⟩:=S.st (o:=.lst (ws++[w])) (u:=.lst (q.2++[d])) h1 (fun _ _ q=>by rw [h2] at q;cases q) ⟨_,aD,ak.bJ (Ext0.at_ S h1) _ _ (h3.append (ak.cons r1 ak.nil))⟩
      exact h _ _ _ _ e S' (by simp only [RD])
    ·exact h.elim
theorem FT {k:Key} {d:D} {v:V} (rd:RD B F ρ H d v):∀ {eG:List (Ky×D)} {kvs:List (Key×V)},kvs.map (·.1)=eG.map (·.1)->ak B F ρ H (eG.map (·.2)) (kvs.map (·.2)) ->
  (putK kvs k v).map (·.1)=(put eG k d).map (·.1)/\ak B F ρ H ((put eG k d).map (·.2)) ((putK kvs k v).map (·.2)):=by
 have hmap:∀ {eG:List (Ky×D)} {kvs:List (Key×V)},kvs.map (·.1)=eG.map (·.1)->ak B F ρ H (eG.map (·.2)) (kvs.map (·.2)) ->
   (kvs.map fun kv=>if kv.1=k then (kv.1,v) else kv).map (·.1)=(eG.map fun kv=>if kv.1=k then (kv.1,d) else kv).map (·.1) /\
   ak B F ρ H ((eG.map fun kv=>if kv.1=k then (kv.1,d) else kv).map (·.2)) ((kvs.map fun kv=>if kv.1=k then (kv.1,v) else kv).map (·.2)):=by
  intro eG
  induction eG with
  | nil=>intro kvs h1 h2;cases kvs with | nil=>exact ⟨rfl,ak.nil⟩ | cons _ _=>simp at h1
  | cons p eG ih =>
   intro kvs h1 h2
   cases kvs with
   | nil=>simp at h1
   | cons q kvs =>
    obtain ⟨pk,pd⟩:=p
    obtain ⟨qk,qv⟩:=q
    simp only [List.map_cons,List.cons.injEq] at h1
    simp only [List.map_cons,ak] at h2
    obtain ⟨u,ws,e,r1,r2⟩:=h2
    cases e
    obtain ⟨e1,e2⟩:=h1
    subst e1
    obtain ⟨i1,i2⟩:=ih e2 r2
    by_cases hk:qk=k
    ·simp only [List.map_cons,if_pos hk,i1,true_and]
     exact ak.cons rd i2
    ·simp only [List.map_cons,if_neg hk,i1,true_and]
     exact ak.cons r1 i2
 have hany:∀ {eG:List (Ky×D)} {kvs:List (Key×V)},kvs.map (·.1)=eG.map (·.1)->(kvs.any fun kv=>decide (kv.1=k))=(eG.any fun kv=>decide (kv.1=k)):=by
  intro eG
  induction eG with
  | nil=>intro kvs h1;cases kvs with | nil=>rfl | cons _ _=>simp at h1
  | cons p eG ih =>
   intro kvs h1
   cases kvs with
   | nil=>simp at h1
   | cons q kvs =>
    simp only [List.map_cons,List.cons.injEq] at h1
    simp only [List.any_cons,h1.1,ih h1.2]
 intro eG kvs h1 h2
 unfold putK put
 rw [hany h1]
 split
 ·exact hmap h1 h2
 ·simp only [List.map_append,List.map_cons,List.map_nil,h1,true_and]
  exact h2.append (ak.cons rd ak.nil)
noncomputable def Walks (B:Bd) (J:It) (src:D) (ds:List D) (F0:Addr->Prop) (ρ0:List Addr) (M0:MH) (H0:Hp):Prop :=
 ∀ (i:Nat) F ρ M H,Ext F0 ρ0 H0 F ρ H->SR B F ρ M H->bq M0 src M=true ->
  (∀ d,ds[i]? = some d->J.go i H/\∀ x H',J.MG i H x H'->∃ F',Ext F ρ H F' ρ H'/\SR B F' ρ M H'/\RD B F' ρ H' d x)/\(ds.length<=i->J.stop i H)
noncomputable def EU (B:Bd) (Φ:aY) (E:Gx) (c:Src):TI:=fun σ H R=>∃ (σD:Sg) (M:MH) (F:Addr->Prop) (ρ:List Addr),
 SR B F ρ M H/\RS B F ρ H σD σ/\aj (fun F' ρ' H' (p:D×List D×Bool) (J:It)=>∀ M',bO Φ c σD M=.ok p M'->SR B F' ρ' M' H'->Walks B J p.1 p.2.1 F' ρ' M' H' /\
  (p.2.2=true->∃ n a,p.1=.ref n/\ρ'[n]? = some a/\E.th a/\∀ w v,H a≠some (.gA w v))) B (bO Φ c σD M) F ρ H R (fun cv x H'=>E.e cv x σ H')
noncomputable def thE (th:Addr->Prop) (D:Ends):Ends:=⟨fun σ H=>∃ H',AQ th H H'/\D.nx σ H',fun v H=>∃ H',AQ th H H'/\D.rt v H',fun σ H=>∃ H',AQ th H H'/\D.bk σ H',fun σ H=>∃ H',AQ th H H'/\D.ct σ H'⟩
theorem dz {F1:Addr->Prop} {ρ0 ρ1:List Addr} {H1:Hp} {M1:MH} {fl:Bool} {src:D} {th:Addr->Prop} (S:SR B F1 ρ1 M1 H1) (e:Ext F ρ H F1 ρ1 H1) (hp:ρ0 <+: ρ1) (wz:fl=true->∃ n a,src=.ref n/\ρ0[n]? = some a/\th a/\∀ w v,H a≠some (.gA w v)) :
  ∃ H',AQ th H1 H'/\SR B F1 ρ1 (fU fl src M1) H'/\Ext F ρ H F1 ρ1 H'/\Ext0 F1 ρ1 H1 F1 ρ1 H':=by
 have same:SR B F1 ρ1 M1 H1/\Ext F ρ H F1 ρ1 H1/\Ext0 F1 ρ1 H1 F1 ρ1 H1:=⟨S,e,S.refl.toExt0⟩
 cases fl with
 | false=>exact ⟨H1,.inl rfl,by cases src <;> exact same⟩
 | true =>
  obtain ⟨n,a,rfl,hn,ht,hz⟩:=wz rfl
  have hn1:ρ1[n]? = some a:=by
   obtain ⟨t,rfl⟩:=hp
   obtain ⟨q,_⟩:=List.getElem?_eq_some_iff.mp hn
   rw [List.getElem?_append_left q];exact hn
  cases hM:M1[n]? with
  | none=>refine ⟨H1,.inl rfl,?_⟩;simp only [fU,hM];exact same
  | some o =>
   cases o with
   | pD kvs =>
    obtain ⟨o,kws,h1,S'⟩:=S.uw hn1 hM
    refine ⟨upd H1 a (.dK kws),.inr ⟨a,o,kws,ht,h1,rfl⟩,?_,e.thaw (List.mem_of_getElem? hn1) hz S.sep,Ext0.at_ S hn1⟩
    simp only [fU,hM];exact S'
   | lst _=>refine ⟨H1,.inl rfl,?_⟩;simp only [fU,hM];exact same
   | dct _=>refine ⟨H1,.inl rfl,?_⟩;simp only [fU,hM];exact same
   | ins _ _=>refine ⟨H1,.inl rfl,?_⟩;simp only [fU,hM];exact same
theorem RS.bJ {F':Addr->Prop} {ρ':List Addr} {H':Hp} (e:Ext0 F ρ H F' ρ' H') (h:RS B F ρ H σD σ):RS B F' ρ' H' σD σ :=
 ⟨h.len,fun i d q=>let ⟨v,h1,h2⟩:=h.get i d q;⟨v,h1,RD.bJ e d v h2⟩⟩
noncomputable def Jq (tg:List Nat) (K:W.Frag):TG:=match tg with
 | [i]=>lD i
 | [i,j]=>fun v σ H Q=>∃ a x y,v=.ref a/\jD K H a [x,y]/\Q ((σ.set i (some x)).set j (some y)) H
 | []=>fun _ _ _ _=>False
 | tg=>fun v σ H Q=>∃ a xs,v=.ref a/\jD K H a xs/\xs.length=tg.length/\Q (jd tg xs σ) H
theorem RS.all:∀ {tg:List Nat} {ds:List D} {vs:List V} {σD:Sg} {σ:St},RS B F ρ H σD σ->ak B F ρ H ds vs->RS B F ρ H (jd tg ds σD) (jd tg vs σ)
 | [],ds,vs,σD,σ,r,q=>by cases ds <;> cases vs <;> exact r
 | i::tg,[],vs,σD,σ,r,q=>by simp only [ak] at q;subst q;exact r
 | i::tg,d::ds,vs,σD,σ,r,q=>by
  simp only [ak] at q
  obtain ⟨v,ws,rfl,h1,h2⟩:=q
  exact RS.all (tg:=tg) (ds:=ds) (vs:=ws) (σD:=σD.set i (some d)) (σ:=σ.set i (some v)) (r.set h1 i) h2
theorem kH {tg:List Nat} {d:D} {v:V} {σ1:Sg} {N:St->Hp->Prop} (r:RS B F ρ H σD σ) (rd:RD B F ρ H d v) (h:sets tg M d σD=some σ1) (k:∀ σ',RS B F ρ H σ1 σ'->N σ' H):Jq tg B.K v σ H N:=by
 unfold sets at h
 split at h
 ·cases h;exact k _ (r.set rd _)
 ·split at h
  ·cases h
   simp only [RD] at rd
   obtain ⟨a,vs,rfl,z,q⟩:=rd
   simp only [ak] at q
   obtain ⟨x,ws,rfl,r1,y,us,rfl,r2,rfl⟩:=q
   exact ⟨a,x,y,rfl,z.sq,k _ ((r.set r1 _).set r2 _)⟩
  ·cases h
 ·cases h
 ·rename_i h1 h2 h3
  split at h
  ·rename_i xs
   split at h
   ·rename_i hl
    cases h
    simp only [RD] at rd
    obtain ⟨a,vs,rfl,z,q⟩:=rd
    have e:vs.length=tg.length:=by rw [<- ak.length q];exact hl
    match tg,h1,h2,h3,e,k with
    | i::j::l::tg,_,_,_,e,k=>exact ⟨a,vs,rfl,z.sq,e,k _ (r.all q)⟩
    | [i],h1,_,_,_,_=>exact absurd rfl (h1 i)
    | [i,j],_,h2,_,_,_=>exact absurd rfl (h2 i j)
    | [],_,_,h3,_,_=>exact absurd rfl h3
   ·cases h
  ·cases h
theorem Bx {tg:List Nat} {it:Src} {b:Ss} (h:TC B Φ E (.for tg it b) Dn σ H):JR (EU B Φ E it) (Jq tg B.K) (xy B Φ E b) (thE E.th Dn) σ H:=by
 obtain ⟨σD,M,F,ρ,S,r,h⟩:=h
 simp only [ex] at h
 refine ⟨σD,M,F,ρ,S,r,?_⟩
 cases hx:bO Φ it σD M with
 | exc c M1=>rw [hx] at h;exact fun F' ρ' H' cv x e S q=>h F' ρ' H' e S σ cv x (r.mono e) q
 | bad=>rw [hx] at h;exact h
 | ok p M0 =>
  rw [hx] at h
  simp only [R.d8] at h
  intro F0 ρ0 H0 J e0 S0 hw
  obtain ⟨W,wz⟩:=hw M0 rfl S0
  obtain ⟨src,ds,fl⟩:=p
  dsimp only at h W wz
  refine ⟨fun i m σ H1=>m+i=ds.length/\∃ σD M F1 ρ1,Ext F ρ H F1 ρ1 H1/\Ext F0 ρ0 H0 F1 ρ1 H1/\SR B F1 ρ1 M H1/\RS B F1 ρ1 H1 σD σ/\bq M0 src M=true/\aW B ((bK (exs Φ b) tg (bq M0 src) (ds.drop i) σD M).fin (fU fl src)) F ρ H Dn E,⟨ds.length,by simp,σD,M0,F0,ρ0,e0,S0.refl,S0,r.mono e0,?_,h⟩,?_⟩
  ·unfold bq;split <;> simp
  rintro i m σ1 H1 ⟨hm,AU,M1,F1,ρ1,eo,e1,S1,r1,st1,p1⟩
  obtain ⟨wgo,wst⟩:=W i F1 ρ1 M1 H1 e1 S1 st1
  by_cases hi:i<ds.length
  ·have hd:ds.drop i=ds[i]::ds.drop (i+1):=List.drop_eq_getElem_cons hi
   rw [hd] at p1
   unfold bK at p1
   obtain ⟨go,yl⟩:=wgo ds[i] (List.getElem?_eq_getElem hi)
   refine .inr ⟨go,fun σ' H'=>∃ σD M F1 ρ1,Ext F ρ H F1 ρ1 H'/\Ext F0 ρ0 H0 F1 ρ1 H'/\SR B F1 ρ1 M H'/\RS B F1 ρ1 H' σD σ'/\bq M0 src M=true/\aW B ((bK (exs Φ b) tg (bq M0 src) (ds.drop (i+1)) σD M).fin (fU fl src)) F ρ H Dn E,fun σ' H' q=>⟨m-1,by omega,by omega,q⟩,fun x H' hy=>?_⟩
   obtain ⟨F',e2,S2,rd⟩:=yl x H' hy
   split at p1
   ·exact p1.elim
   ·rename_i σ2 hs
    refine kH (r1.mono e2) rd hs fun σ' r'=>⟨σ2,M1,F',ρ1,S2,r',?_⟩
    cases hb:exs Φ b σ2 M1 with
    | exc c M3=>rw [hb] at p1;exact p1.elim
    | bad=>rw [hb] at p1;exact p1.elim
    | ok o M3 =>
     rw [hb] at p1
     simp only [R.af] at p1
     intro F3 ρ3 H3 e3 S3
     have LZ:=(eo.trans e2).trans e3
     have L8:=(e1.trans e2).trans e3
     cases o with
     | nx σ3 =>
      simp only at p1
      intro σ4 r4
      split at p1
      ·rename_i hst
       exact ⟨σ3,M3,F3,ρ3,LZ,L8,S3,r4,hst,p1⟩
      ·exact p1.elim
     | ct σ3 =>
      simp only at p1
      intro σ4 r4
      split at p1
      ·rename_i hst
       exact ⟨σ3,M3,F3,ρ3,LZ,L8,S3,r4,hst,p1⟩
      ·exact p1.elim
     | bk σ3 =>
      obtain ⟨H4,t4,S4,e4,x4⟩:=dz S3 LZ L8.r wz
      exact fun σ4 r4=>⟨H4,t4,p1 F3 ρ3 H4 e4 S4 σ4 (r4.bJ x4)⟩
     | rt d =>
      obtain ⟨H4,t4,S4,e4,x4⟩:=dz S3 LZ L8.r wz
      exact fun v q=>⟨H4,t4,p1 F3 ρ3 H4 e4 S4 v (RD.bJ x4 _ _ q)⟩
     | xc c σ3 =>
      obtain ⟨H4,t4,S4,e4,x4⟩:=dz S3 LZ L8.r wz
      exact fun σ4 cv x q1 q2=>E.cl cv x σ4 H3 H4 t4 (p1 F3 ρ3 H4 e4 S4 σ4 cv x (q1.bJ x4) q2)
  ·have hd:ds.drop i=[]:=List.drop_eq_nil_of_le (Nat.le_of_not_lt hi)
   rw [hd] at p1
   unfold bK at p1
   obtain ⟨H4,t4,S4,e4,x4⟩:=dz S1 eo e1.r wz
   exact .inl ⟨wst (Nat.le_of_not_lt hi),H4,t4,p1 F1 ρ1 H4 e4 S4 σ1 (r1.bJ x4)⟩
theorem vR {c:Fg.E} {b:Ss} (h:TC B Φ E (.while c b) Dn σ H):xH (TB B Φ E c) (xy B Φ E b) Dn σ H:=by
 obtain ⟨σD,M,F,ρ,S,r,h⟩:=h
 simp only [ex] at h
 refine ⟨fun m σ H=>∃ σD M F ρ,SR B F ρ M H/\RS B F ρ H σD σ/\aW B (aA (ev Φ c) (exs Φ b) m σD M) F ρ H Dn E,⟨Φ.turns,σD,M,F,ρ,S,r,h⟩,?_⟩
 rintro m σ1 H1 ⟨AU,M1,F1,ρ1,S1,r1,p1⟩
 cases m with
 | zero=>simp only [aA] at p1;exact p1.elim
 | succ m =>
  simp only [aA] at p1
  refine TC.one S1 r1 p1 fun x M2 F2 ρ2 H2 v e2 S2 r2 rx h2=>?_
  split at h2
  ·simp only [RD] at rx;subst rx
   refine ⟨false,rfl,?_⟩
   exact aW.run h2 S2 _ r2
  ·simp only [RD] at rx;subst rx
   refine ⟨true,rfl,?_⟩
   refine ⟨fun σ' H'=>∃ σD M F ρ,SR B F ρ M H'/\RS B F ρ H' σD σ'/\aW B (aA (ev Φ c) (exs Φ b) m σD M) F ρ H' Dn E,fun σ' H' q=>⟨m,Nat.lt_succ_self m,q⟩,AU,M2,F2,ρ2,S2,r2,?_⟩
   cases hb:exs Φ b AU M2 with
   | exc c M3=>rw [hb] at h2;exact h2
   | bad=>rw [hb] at h2;exact h2
   | ok o M3 =>
    rw [hb] at h2
    simp only [R.af] at h2
    intro F3 ρ3 H3 e3 S3
    cases o with
    | nx σ3=>exact fun σ4 r4=>⟨σ3,M3,F3,ρ3,S3,r4,aW.weak e3 h2⟩
    | ct σ3=>exact fun σ4 r4=>⟨σ3,M3,F3,ρ3,S3,r4,aW.weak e3 h2⟩
    | bk σ3=>exact fun σ4 r4=>h2 F3 ρ3 H3 e3 S3 σ4 r4
    | rt d=>exact fun v q=>h2 F3 ρ3 H3 e3 S3 v q
    | xc c σ3=>exact fun σ4 cv x q1 q2=>h2 F3 ρ3 H3 e3 S3 σ4 cv x q1 q2
  ·exact h2.elim
end
end Fg
end
section
namespace Fg
open PySem PySem.Spec L2
section
variable {X:Cx} {pins:List (Addr×Obj)} {σ:L2.St} {H:Hp} {s:Shared}
mutual
theorem DV.inj (I:Inv X pins σ H s):∀ {d e:D} {x:V},DV X.K H d x->DV X.K H e x->d=e
 | .ai,e,x,h,h'=>by
  simp only [DV] at h;subst h
  cases e <;> simp only [DV] at h' <;> first | rfl | (cases h';done) | (obtain ⟨_,_,q,_⟩:=h';cases q)
 | .bl b,e,x,h,h'=>by
  simp only [DV] at h;subst h
  cases e <;> simp only [DV] at h' <;> first | (cases h';rfl) | (cases h';done) | (obtain ⟨_,_,q,_⟩:=h';cases q)
 | .int b,e,x,h,h'=>by
  simp only [DV] at h;subst h
  cases e <;> simp only [DV] at h' <;> first | (cases h';rfl) | (cases h';done) | (obtain ⟨_,_,q,_⟩:=h';cases q)
 | .str b,e,x,h,h'=>by
  simp only [DV] at h;subst h
  cases e <;> simp only [DV] at h' <;> first | (cases h';rfl) | (cases h';done) | (obtain ⟨_,_,q,_⟩:=h';cases q)
 | .tup ds,e,x,h,h'=>by
  simp only [DV] at h
  obtain ⟨a,vs,rfl,h1,h2⟩:=h
  cases e with
  | tup es =>
   simp only [DV] at h'
   obtain ⟨b,ws,q,h3,h4⟩:=h'
   cases q
   have:=I.mK h1 h3
   subst this
   rw [iB.inj I h2 h4]
  | lst es =>
   simp only [DV] at h'
   obtain ⟨b,ws,q,h3,h4⟩:=h'
   cases q
   obtain ⟨its,_,t1,_⟩:=I.tuple h1
   obtain ⟨its',_,t2,_⟩:=I.list h3
   exact absurd rfl (SeqAt.ne_of_list_tuple t2.isList t1)
  | ai=>simp only [DV] at h';cases h'
  | bl _=>simp only [DV] at h';cases h'
  | int _=>simp only [DV] at h';cases h'
  | str _=>simp only [DV] at h';cases h'
  | dct _ _=>simp only [DV] at h'
  | ref _=>simp only [DV] at h'
 | .lst ds,e,x,h,h'=>by
  simp only [DV] at h
  obtain ⟨a,vs,rfl,h1,h2⟩:=h
  cases e with
  | lst es =>
   simp only [DV] at h'
   obtain ⟨b,ws,q,h3,h4⟩:=h'
   cases q
   have:=I.k8 h1 h3
   subst this
   rw [iB.inj I h2 h4]
  | tup es =>
   simp only [DV] at h'
   obtain ⟨b,ws,q,h3,h4⟩:=h'
   cases q
   obtain ⟨its,_,t1,_⟩:=I.list h1
   obtain ⟨its',_,t2,_⟩:=I.tuple h3
   exact absurd rfl (SeqAt.ne_of_list_tuple t1.isList t2)
  | ai=>simp only [DV] at h';cases h'
  | bl _=>simp only [DV] at h';cases h'
  | int _=>simp only [DV] at h';cases h'
  | str _=>simp only [DV] at h';cases h'
  | dct _ _=>simp only [DV] at h'
  | ref _=>simp only [DV] at h'
 | .dct _ _,e,x,h,h'=>by simp only [DV] at h
 | .ref _,e,x,h,h'=>by simp only [DV] at h
theorem iB.inj (I:Inv X pins σ H s):∀ {ds es:List D} {xs:List V},iB X.K H ds xs->iB X.K H es xs->ds=es
 | [],es,xs,h,h'=>by
  simp only [iB] at h;subst h
  cases es with
  | nil=>rfl
  | cons _ _=>simp only [iB] at h';obtain ⟨_,_,q,_⟩:=h';cases q
 | d::ds,es,xs,h,h'=>by
  simp only [iB] at h
  obtain ⟨v,ws,rfl,h1,h2⟩:=h
  cases es with
  | nil=>simp only [iB] at h';cases h'
  | cons e es =>
   simp only [iB] at h'
   obtain ⟨v',xq,q,h3,h4⟩:=h'
   cases q
   rw [DV.inj I h1 h3,iB.inj I h2 h4]
end
mutual
theorem lM {K:W.Frag} {H:Hp}:∀ {d:D} {x:V},DV K H d x->aN d d=true
 | .ai,_,_=>by simp only [aN]
 | .bl b,_,_=>by simp only [aN];simp
 | .int i,_,_=>by simp only [aN];simp
 | .str x,_,_=>by simp only [aN];simp
 | .tup ds,_,h=>by simp only [DV] at h;obtain ⟨_,_,_,_,q⟩:=h;simp only [aN];exact jy q
 | .lst ds,_,h=>by simp only [DV] at h;obtain ⟨_,_,_,_,q⟩:=h;simp only [aN];exact jy q
 | .dct _ _,_,h=>by simp only [DV] at h
 | .ref _,_,h=>by simp only [DV] at h
theorem jy {K:W.Frag} {H:Hp}:∀ {ds:List D} {xs:List V},iB K H ds xs->dN ds ds=true
 | [],_,_=>by simp only [dN]
 | d::ds,_,h=>by
  simp only [iB] at h
  obtain ⟨_,_,_,h1,h2⟩:=h
  simp only [dN,lM h1,jy h2,Bool.and_self]
end
theorem iB.length {K:W.Frag} {H:Hp}:∀ {ds:List D} {xs:List V},iB K H ds xs->ds.length=xs.length
 | [],_,h=>by simp only [iB] at h;subst h;rfl
 | d::ds,_,h=>by
  simp only [iB] at h
  obtain ⟨_,_,rfl,_,h2⟩:=h
  simp [iB.length h2]
theorem iB.get {K:W.Frag} {H:Hp}:∀ {ds:List D} {xs:List V} {i:Nat} (h1:i<ds.length),iB K H ds xs->∃ v,xs[i]? = some v/\DV K H ds[i] v
 | [],_,i,h1,_=>by simp at h1
 | d::ds,_,i,h1,h=>by
  simp only [iB] at h
  obtain ⟨v,ws,rfl,q1,q2⟩:=h
  cases i with
  | zero=>exact ⟨v,rfl,q1⟩
  | succ i =>
   simp only [List.length_cons] at h1
   obtain ⟨u,a,b⟩:=iB.get (i:=i) (by omega) q2
   exact ⟨u,by simpa using a,by simpa using b⟩
theorem dj:∀ {ds:List D} {i:Nat} (h:i<ds.length),dep ds[i]<=deps ds
 | [],i,h=>by simp at h
 | d::ds,i,h=>by
  cases i with
  | zero=>simp only [List.getElem_cons_zero,deps];omega
  | succ i =>
   simp only [List.length_cons] at h
   have:=dj (ds:=ds) (i:=i) (by omega)
   simp only [List.getElem_cons_succ,deps];omega
theorem dR:∀ (ds es:List D),((List.range (min ds.length es.length)).all (fun j=>match ds[j]?,es[j]? with | some a,some b=>aN a b | _,_=>false)&&ds.length == es.length)=dN ds es
 | [],[]=>by simp [dN]
 | [],e::es=>by simp [dN]
 | d::ds,[]=>by simp [dN]
 | d::ds,e::es=>by
  have ih:=dR ds es
  simp only [dN,<- ih]
  simp only [List.length_cons,Nat.succ_min_succ,List.range_succ_eq_map,List.all_cons,List.all_map,Function.comp_def]
  simp [Bool.and_assoc]
noncomputable def EqB (s:Shared) (d e:D) (u w:Value) (n:Nat):Prop:=∀ A:Around,A.units+n<cLine->SeqAt.RcAt A s u w (aN d e)/\SeqAt.EqAt A s u w (aN d e)
theorem in1_units (A:Around):A.in1.units=A.units+1:=rfl
theorem bx:∀ {ds:List D} {i:Nat},av ds=true->∀ (h:i<ds.length),plain ds[i]=true
 | [],i,_,h=>by simp at h
 | d::ds,i,p,h=>by
  simp only [av,Bool.and_eq_true] at p
  cases i with
  | zero=>exact p.1
  | succ i=>simp only [List.length_cons] at h;simpa using bx p.2 (by omega)
theorem eq_data (I:Inv X pins σ H s):∀ (n:Nat) (d e:D) (x y:V) (u w:Value),dep d+dep e<n->DV X.K H d x->DV X.K H e y->plain d=true->plain e=true->RelV x u->RelV y w->EqB s d e u w (min (dep d) (dep e)+1)
 | 0,_,_,_,_,_,_,h,_,_,_,_,_,_=>absurd h (Nat.not_lt_zero _)
 | n+1, d, e, x, y, u, w, hn, hd, he, pd, pe, ru, rw'=>by
  have ih:=eq_data I n
  intro A hA
  have hu:A.units<cLine:=by omega
  cases d with
  | bl _=>simp [plain] at pd
  | dct _ _=>simp [plain] at pd
  | ref _=>simp [plain] at pd
  | ai =>
   simp only [DV] at hd;subst hd;cases (show u=Value.none from ru)
   cases e with
   | bl _=>simp [plain] at pe
   | dct _ _=>simp [plain] at pe
   | ref _=>simp [plain] at pe
   | ai =>
    simp only [DV] at he;subst he;cases (show w=Value.none from rw')
    simp only [aN];exact ⟨SeqAt.RcAt.none_none,SeqAt.EqAt.same _⟩
   | int j =>
    simp only [DV] at he;subst he;obtain ⟨t',rfl⟩:=(show ∃ t,w=Value.int j t from rw')
    simp only [aN];exact ⟨SeqAt.RcAt.none_int j t',SeqAt.EqAt.none_int j t'⟩
   | str j =>
    simp only [DV] at he;subst he;obtain ⟨t',rfl⟩:=(show ∃ t,w=Value.str j t from rw')
    simp only [aN];exact ⟨SeqAt.RcAt.none_str j t',SeqAt.EqAt.none_str j t'⟩
   | tup es =>
    simp only [DV] at he
    obtain ⟨b,ws,rfl,h3,h4⟩:=he
    cases (show w=Value.ref b from rw')
    obtain ⟨its,_,t1,_⟩:=I.tuple h3
    simp only [aN];exact ⟨SeqAt.RcAt.none_tuple  t1 hu,SeqAt.EqAt.none_tuple  t1 hu⟩
   | lst es =>
    simp only [DV] at he
    obtain ⟨b,ws,rfl,h3,h4⟩:=he
    cases (show w=Value.ref b from rw')
    obtain ⟨its,_,t1,_⟩:=I.list h3
    simp only [aN];exact ⟨SeqAt.RcAt.none_list  t1.isList hu,SeqAt.EqAt.none_list  t1.isList hu⟩
  | int i =>
   simp only [DV] at hd;subst hd;obtain ⟨t,rfl⟩:=(show ∃ t,u=Value.int i t from ru)
   cases e with
   | bl _=>simp [plain] at pe
   | dct _ _=>simp [plain] at pe
   | ref _=>simp [plain] at pe
   | ai =>
    simp only [DV] at he;subst he;cases (show w=Value.none from rw')
    simp only [aN];exact ⟨SeqAt.RcAt.int_none i t,SeqAt.EqAt.int_none i t⟩
   | int j =>
    simp only [DV] at he;subst he;obtain ⟨t',rfl⟩:=(show ∃ t,w=Value.int j t from rw')
    have z:aN (D.int i) (D.int j)=(i == j):=by simp only [aN];by_cases q:i=j <;> simp [q]
    rw [z];exact ⟨SeqAt.RcAt.int_int i t j t',SeqAt.EqAt.int_int i t j t'⟩
   | str j =>
    simp only [DV] at he;subst he;obtain ⟨t',rfl⟩:=(show ∃ t,w=Value.str j t from rw')
    simp only [aN];exact ⟨SeqAt.RcAt.int_str i t j t',SeqAt.EqAt.int_str i t j t'⟩
   | tup es =>
    simp only [DV] at he
    obtain ⟨b,ws,rfl,h3,h4⟩:=he
    cases (show w=Value.ref b from rw')
    obtain ⟨its,_,t1,_⟩:=I.tuple h3
    simp only [aN];exact ⟨SeqAt.RcAt.int_tuple i t t1 hu,SeqAt.EqAt.int_tuple i t t1 hu⟩
   | lst es =>
    simp only [DV] at he
    obtain ⟨b,ws,rfl,h3,h4⟩:=he
    cases (show w=Value.ref b from rw')
    obtain ⟨its,_,t1,_⟩:=I.list h3
    simp only [aN];exact ⟨SeqAt.RcAt.int_list i t t1.isList hu,SeqAt.EqAt.int_list i t t1.isList hu⟩
  | str i =>
   simp only [DV] at hd;subst hd;obtain ⟨t,rfl⟩:=(show ∃ t,u=Value.str i t from ru)
   cases e with
   | bl _=>simp [plain] at pe
   | dct _ _=>simp [plain] at pe
   | ref _=>simp [plain] at pe
   | ai =>
    simp only [DV] at he;subst he;cases (show w=Value.none from rw')
    simp only [aN];exact ⟨SeqAt.RcAt.str_none i t,SeqAt.EqAt.str_none i t⟩
   | int j =>
    simp only [DV] at he;subst he;obtain ⟨t',rfl⟩:=(show ∃ t,w=Value.int j t from rw')
    simp only [aN];exact ⟨SeqAt.RcAt.str_int i t j t',SeqAt.EqAt.str_int i t j t'⟩
   | str j =>
    simp only [DV] at he;subst he;obtain ⟨t',rfl⟩:=(show ∃ t,w=Value.str j t from rw')
    have z:aN (D.str i) (D.str j)=(i == j):=by simp only [aN];by_cases q:i=j <;> simp [q]
    rw [z];exact ⟨SeqAt.RcAt.str_str i t j t',SeqAt.EqAt.str_str i t j t'⟩
   | tup es =>
    simp only [DV] at he
    obtain ⟨b,ws,rfl,h3,h4⟩:=he
    cases (show w=Value.ref b from rw')
    obtain ⟨its,_,t1,_⟩:=I.tuple h3
    simp only [aN];exact ⟨SeqAt.RcAt.str_tuple i t t1 hu,SeqAt.EqAt.str_tuple i t t1 hu⟩
   | lst es =>
    simp only [DV] at he
    obtain ⟨b,ws,rfl,h3,h4⟩:=he
    cases (show w=Value.ref b from rw')
    obtain ⟨its,_,t1,_⟩:=I.list h3
    simp only [aN];exact ⟨SeqAt.RcAt.str_list i t t1.isList hu,SeqAt.EqAt.str_list i t t1.isList hu⟩
  | tup ds =>
   simp only [DV] at hd
   obtain ⟨a,vs,rfl,h1,h2⟩:=hd
   cases (show u=Value.ref a from ru)
   obtain ⟨its,r1,t1,_⟩:=I.tuple h1
   cases e with
   | bl _=>simp [plain] at pe
   | dct _ _=>simp [plain] at pe
   | ref _=>simp [plain] at pe
   | ai =>
    simp only [DV] at he;subst he;cases (show w=Value.none from rw')
    simp only [aN];exact ⟨SeqAt.RcAt.tuple_none  t1 hu,SeqAt.EqAt.tuple_none  t1 hu⟩
   | int j =>
    simp only [DV] at he;subst he;obtain ⟨t',rfl⟩:=(show ∃ t,w=Value.int j t from rw')
    simp only [aN];exact ⟨SeqAt.RcAt.tuple_int j t' t1 hu,SeqAt.EqAt.tuple_int j t' t1 hu⟩
   | str j =>
    simp only [DV] at he;subst he;obtain ⟨t',rfl⟩:=(show ∃ t,w=Value.str j t from rw')
    simp only [aN];exact ⟨SeqAt.RcAt.tuple_str j t' t1 hu,SeqAt.EqAt.tuple_str j t' t1 hu⟩
   | lst es =>
    simp only [DV] at he
    obtain ⟨b,ws,rfl,h3,h4⟩:=he
    cases (show w=Value.ref b from rw')
    obtain ⟨its2,r2,t2,_⟩:=I.list h3
    simp only [aN];exact ⟨SeqAt.RcAt.tuple_list t1 t2.isList hu,SeqAt.EqAt.of_refs (Ne.symm (SeqAt.ne_of_list_tuple t2.isList t1)) (SeqAt.RcAt.tuple_list t1 t2.isList hu)⟩
   | tup es =>
    simp only [DV] at he
    obtain ⟨b,ws,rfl,h3,h4⟩:=he
    cases (show w=Value.ref b from rw')
    obtain ⟨its2,r2,t2,_⟩:=I.tuple h3
    have Gu:av ds=true:=by simpa [plain] using pd
    have Gs:av es=true:=by simpa [plain] using pe
    have l1:its.length=ds.length:=by rw [<- r1.length,h2.length]
    have l2:its2.length=es.length:=by rw [<- r2.length,h4.length]
    let f:Nat->Bool:=fun j=>match ds[j]?,es[j]? with | some a,some b=>aN a b | _,_=>false
    have items:∀ j (h1:j<its.toArray.size) (h2:j<its2.toArray.size),SeqAt.EqAt A.in1 s its.toArray[j] its2.toArray[j] (f j):=by
     intro j j1 j2
     have nZ:j<ds.length:=by rw [<- l1];simpa using j1
     have nY:j<es.length:=by rw [<- l2];simpa using j2
     obtain ⟨v,e1,q1⟩:=h2.get nZ
     obtain ⟨v',e2,q2⟩:=h4.get nY
     obtain ⟨z,e3,q3⟩:=r1.get e1
     obtain ⟨z',e4,q4⟩:=r2.get e2
     have i1:its.toArray[j]=z:=by
      have:its[j]? = some its[j]:=List.getElem?_eq_getElem (by simpa using j1)
      rw [this] at e3;simpa using Option.some.inj e3
     have i2:its2.toArray[j]=z':=by
      have:its2[j]? = some its2[j]:=List.getElem?_eq_getElem (by simpa using j2)
      rw [this] at e4;simpa using Option.some.inj e4
     have g1:=dj nZ
     have g2:=dj nY
     have hf:f j=aN ds[j] es[j]:=by simp only [f,List.getElem?_eq_getElem nZ,List.getElem?_eq_getElem nY]
     rw [i1,i2,hf]
     simp only [dep] at hn hA
     exact (ih ds[j] es[j] v v' z z' (by omega) q1 q2 (bx Gu nZ) (bx Gs nY) q3 q4 A.in1 (by rw [in1_units];omega)).2
    have xM:its.toArray.size=ds.length:=by simpa using l1
    have AZ:its2.toArray.size=es.length:=by simpa using l2
    have rc:SeqAt.RcAt A s (.ref a) (.ref b) (aN (.tup ds) (.tup es)):=by
     have q:=SeqAt.RcAt.tuples t1 t2 hu items
     rw [xM,AZ,dR] at q
     simp only [aN];exact q
    refine ⟨rc,?_⟩
    by_cases hab:a=b
    ·subst hab
     have i1:DV X.K H (.tup ds) (.ref a):=by simp only [DV];exact ⟨a,vs,rfl,h1,h2⟩
     have i2:DV X.K H (.tup es) (.ref a):=by simp only [DV];exact ⟨a,ws,rfl,h3,h4⟩
     rw [DV.inj I i1 i2,lM i2]
     exact SeqAt.EqAt.same _
    ·exact SeqAt.EqAt.of_refs hab rc
  | lst ds =>
   simp only [DV] at hd
   obtain ⟨a,vs,rfl,h1,h2⟩:=hd
   cases (show u=Value.ref a from ru)
   obtain ⟨its,r1,t1,_⟩:=I.list h1
   cases e with
   | bl _=>simp [plain] at pe
   | dct _ _=>simp [plain] at pe
   | ref _=>simp [plain] at pe
   | ai =>
    simp only [DV] at he;subst he;cases (show w=Value.none from rw')
    simp only [aN];exact ⟨SeqAt.RcAt.list_none  t1.isList hu,SeqAt.EqAt.list_none  t1.isList hu⟩
   | int j =>
    simp only [DV] at he;subst he;obtain ⟨t',rfl⟩:=(show ∃ t,w=Value.int j t from rw')
    simp only [aN];exact ⟨SeqAt.RcAt.list_int j t' t1.isList hu,SeqAt.EqAt.list_int j t' t1.isList hu⟩
   | str j =>
    simp only [DV] at he;subst he;obtain ⟨t',rfl⟩:=(show ∃ t,w=Value.str j t from rw')
    simp only [aN];exact ⟨SeqAt.RcAt.list_str j t' t1.isList hu,SeqAt.EqAt.list_str j t' t1.isList hu⟩
   | tup es =>
    simp only [DV] at he
    obtain ⟨b,ws,rfl,h3,h4⟩:=he
    cases (show w=Value.ref b from rw')
    obtain ⟨its2,r2,t2,_⟩:=I.tuple h3
    simp only [aN];exact ⟨SeqAt.RcAt.list_tuple t1.isList t2 hu,SeqAt.EqAt.of_refs (SeqAt.ne_of_list_tuple t1.isList t2) (SeqAt.RcAt.list_tuple t1.isList t2 hu)⟩
   | lst es =>
    simp only [DV] at he
    obtain ⟨b,ws,rfl,h3,h4⟩:=he
    cases (show w=Value.ref b from rw')
    obtain ⟨its2,r2,t2,_⟩:=I.list h3
    have Gu:av ds=true:=by simpa [plain] using pd
    have Gs:av es=true:=by simpa [plain] using pe
    have l1:its.length=ds.length:=by rw [<- r1.length,h2.length]
    have l2:its2.length=es.length:=by rw [<- r2.length,h4.length]
    let f:Nat->Bool:=fun j=>match ds[j]?,es[j]? with | some a,some b=>aN a b | _,_=>false
    have items:∀ j (h1:j<its.toArray.size) (h2:j<its2.toArray.size),SeqAt.EqAt A.in1 s its.toArray[j] its2.toArray[j] (f j):=by
     intro j j1 j2
     have nZ:j<ds.length:=by rw [<- l1];simpa using j1
     have nY:j<es.length:=by rw [<- l2];simpa using j2
     obtain ⟨v,e1,q1⟩:=h2.get nZ
     obtain ⟨v',e2,q2⟩:=h4.get nY
     obtain ⟨z,e3,q3⟩:=r1.get e1
     obtain ⟨z',e4,q4⟩:=r2.get e2
     have i1:its.toArray[j]=z:=by
      have:its[j]? = some its[j]:=List.getElem?_eq_getElem (by simpa using j1)
      rw [this] at e3;simpa using Option.some.inj e3
     have i2:its2.toArray[j]=z':=by
      have:its2[j]? = some its2[j]:=List.getElem?_eq_getElem (by simpa using j2)
      rw [this] at e4;simpa using Option.some.inj e4
     have g1:=dj nZ
     have g2:=dj nY
     have hf:f j=aN ds[j] es[j]:=by simp only [f,List.getElem?_eq_getElem nZ,List.getElem?_eq_getElem nY]
     rw [i1,i2,hf]
     simp only [dep] at hn hA
     exact (ih ds[j] es[j] v v' z z' (by omega) q1 q2 (bx Gu nZ) (bx Gs nY) q3 q4 A.in1 (by rw [in1_units];omega)).2
    have xM:its.toArray.size=ds.length:=by simpa using l1
    have AZ:its2.toArray.size=es.length:=by simpa using l2
    have rc:SeqAt.RcAt A s (.ref a) (.ref b) (aN (.lst ds) (.lst es)):=by
     by_cases hz:ds.length=es.length
     ·have q:=SeqAt.RcAt.lists t1.isList t2.isList (by rw [xM,AZ,hz]) hu items
      have z:=dR ds es
      rw [show min ds.length es.length=ds.length by omega,show (ds.length == es.length)=true by simpa using hz,Bool.and_true] at z
      rw [xM,z] at q
      simp only [aN];exact q
     ·have q:=SeqAt.RcAt.lists_lengths t1.isList t2.isList (by rw [xM,AZ];simpa using hz) hu
      have z:=dR ds es
      rw [show (ds.length == es.length)=false by simpa using hz,Bool.and_false] at z
      simp only [aN,<- z];exact q
    refine ⟨rc,?_⟩
    by_cases hab:a=b
    ·subst hab
     have i1:DV X.K H (.lst ds) (.ref a):=by simp only [DV];exact ⟨a,vs,rfl,h1,h2⟩
     have i2:DV X.K H (.lst es) (.ref a):=by simp only [DV];exact ⟨a,ws,rfl,h3,h4⟩
     rw [DV.inj I i1 i2,lM i2]
     exact SeqAt.EqAt.same _
    ·exact SeqAt.EqAt.of_refs hab rc
theorem ne_data (I:Inv X pins σ H s):∀ (d e:D) (x y:V) (u w:Value),DV X.K H d x->DV X.K H e y->plain d=true->plain e=true->RelV x u->RelV y w->∀ A:Around,A.units+(min (dep d) (dep e)+1)<cLine->SeqAt.RcNeAt A s u w (!aN d e)
 | d, e, x, y, u, w, hd, he, pd, pe, ru, rw'=>by
  have ih:=eq_data I (dep d+dep e)
  intro A hA
  have hu:A.units<cLine:=by omega
  cases d with
  | bl _=>simp [plain] at pd
  | dct _ _=>simp [plain] at pd
  | ref _=>simp [plain] at pd
  | ai =>
   simp only [DV] at hd;subst hd;cases (show u=Value.none from ru)
   cases e with
   | bl _=>simp [plain] at pe
   | dct _ _=>simp [plain] at pe
   | ref _=>simp [plain] at pe
   | ai =>
    simp only [DV] at he;subst he;cases (show w=Value.none from rw')
    simp only [aN,Bool.not_false,Bool.not_true];exact SeqAt.RcNeAt.none_none
   | int j =>
    simp only [DV] at he;subst he;obtain ⟨t',rfl⟩:=(show ∃ t,w=Value.int j t from rw')
    simp only [aN,Bool.not_false,Bool.not_true];exact SeqAt.RcNeAt.none_int j t'
   | str j =>
    simp only [DV] at he;subst he;obtain ⟨t',rfl⟩:=(show ∃ t,w=Value.str j t from rw')
    simp only [aN,Bool.not_false,Bool.not_true];exact SeqAt.RcNeAt.none_str j t'
   | tup es =>
    simp only [DV] at he
    obtain ⟨b,ws,rfl,h3,h4⟩:=he
    cases (show w=Value.ref b from rw')
    obtain ⟨its,_,t1,_⟩:=I.tuple h3
    simp only [aN,Bool.not_false,Bool.not_true];exact SeqAt.RcNeAt.none_tuple  t1 hu
   | lst es =>
    simp only [DV] at he
    obtain ⟨b,ws,rfl,h3,h4⟩:=he
    cases (show w=Value.ref b from rw')
    obtain ⟨its,_,t1,_⟩:=I.list h3
    simp only [aN,Bool.not_false,Bool.not_true];exact SeqAt.RcNeAt.none_list  t1.isList hu
  | int i =>
   simp only [DV] at hd;subst hd;obtain ⟨t,rfl⟩:=(show ∃ t,u=Value.int i t from ru)
   cases e with
   | bl _=>simp [plain] at pe
   | dct _ _=>simp [plain] at pe
   | ref _=>simp [plain] at pe
   | ai =>
    simp only [DV] at he;subst he;cases (show w=Value.none from rw')
    simp only [aN,Bool.not_false,Bool.not_true];exact SeqAt.RcNeAt.int_none i t
   | int j =>
    simp only [DV] at he;subst he;obtain ⟨t',rfl⟩:=(show ∃ t,w=Value.int j t from rw')
    have z:aN (D.int i) (D.int j)=(i == j):=by simp only [aN];by_cases q:i=j <;> simp [q]
    rw [z];exact SeqAt.RcNeAt.int_int i t j t'
   | str j =>
    simp only [DV] at he;subst he;obtain ⟨t',rfl⟩:=(show ∃ t,w=Value.str j t from rw')
    simp only [aN,Bool.not_false,Bool.not_true];exact SeqAt.RcNeAt.int_str i t j t'
   | tup es =>
    simp only [DV] at he
    obtain ⟨b,ws,rfl,h3,h4⟩:=he
    cases (show w=Value.ref b from rw')
    obtain ⟨its,_,t1,_⟩:=I.tuple h3
    simp only [aN,Bool.not_false,Bool.not_true];exact SeqAt.RcNeAt.int_tuple i t t1 hu
   | lst es =>
    simp only [DV] at he
    obtain ⟨b,ws,rfl,h3,h4⟩:=he
    cases (show w=Value.ref b from rw')
    obtain ⟨its,_,t1,_⟩:=I.list h3
    simp only [aN,Bool.not_false,Bool.not_true];exact SeqAt.RcNeAt.int_list i t t1.isList hu
  | str i =>
   simp only [DV] at hd;subst hd;obtain ⟨t,rfl⟩:=(show ∃ t,u=Value.str i t from ru)
   cases e with
   | bl _=>simp [plain] at pe
   | dct _ _=>simp [plain] at pe
   | ref _=>simp [plain] at pe
   | ai =>
    simp only [DV] at he;subst he;cases (show w=Value.none from rw')
    simp only [aN,Bool.not_false,Bool.not_true];exact SeqAt.RcNeAt.str_none i t
   | int j =>
    simp only [DV] at he;subst he;obtain ⟨t',rfl⟩:=(show ∃ t,w=Value.int j t from rw')
    simp only [aN,Bool.not_false,Bool.not_true];exact SeqAt.RcNeAt.str_int i t j t'
   | str j =>
    simp only [DV] at he;subst he;obtain ⟨t',rfl⟩:=(show ∃ t,w=Value.str j t from rw')
    have z:aN (D.str i) (D.str j)=(i == j):=by simp only [aN];by_cases q:i=j <;> simp [q]
    rw [z];exact SeqAt.RcNeAt.str_str i t j t'
   | tup es =>
    simp only [DV] at he
    obtain ⟨b,ws,rfl,h3,h4⟩:=he
    cases (show w=Value.ref b from rw')
    obtain ⟨its,_,t1,_⟩:=I.tuple h3
    simp only [aN,Bool.not_false,Bool.not_true];exact SeqAt.RcNeAt.str_tuple i t t1 hu
   | lst es =>
    simp only [DV] at he
    obtain ⟨b,ws,rfl,h3,h4⟩:=he
    cases (show w=Value.ref b from rw')
    obtain ⟨its,_,t1,_⟩:=I.list h3
    simp only [aN,Bool.not_false,Bool.not_true];exact SeqAt.RcNeAt.str_list i t t1.isList hu
  | tup ds =>
   simp only [DV] at hd
   obtain ⟨a,vs,rfl,h1,h2⟩:=hd
   cases (show u=Value.ref a from ru)
   obtain ⟨its,r1,t1,_⟩:=I.tuple h1
   cases e with
   | bl _=>simp [plain] at pe
   | dct _ _=>simp [plain] at pe
   | ref _=>simp [plain] at pe
   | ai =>
    simp only [DV] at he;subst he;cases (show w=Value.none from rw')
    simp only [aN,Bool.not_false,Bool.not_true];exact SeqAt.RcNeAt.tuple_none  t1 hu
   | int j =>
    simp only [DV] at he;subst he;obtain ⟨t',rfl⟩:=(show ∃ t,w=Value.int j t from rw')
    simp only [aN,Bool.not_false,Bool.not_true];exact SeqAt.RcNeAt.tuple_int j t' t1 hu
   | str j =>
    simp only [DV] at he;subst he;obtain ⟨t',rfl⟩:=(show ∃ t,w=Value.str j t from rw')
    simp only [aN,Bool.not_false,Bool.not_true];exact SeqAt.RcNeAt.tuple_str j t' t1 hu
   | lst es =>
    simp only [DV] at he
    obtain ⟨b,ws,rfl,h3,h4⟩:=he
    cases (show w=Value.ref b from rw')
    obtain ⟨its2,r2,t2,_⟩:=I.list h3
    simp only [aN,Bool.not_false,Bool.not_true];exact SeqAt.RcNeAt.tuple_list t1 t2.isList hu
   | tup es =>
    simp only [DV] at he
    obtain ⟨b,ws,rfl,h3,h4⟩:=he
    cases (show w=Value.ref b from rw')
    obtain ⟨its2,r2,t2,_⟩:=I.tuple h3
    have Gu:av ds=true:=by simpa [plain] using pd
    have Gs:av es=true:=by simpa [plain] using pe
    have l1:its.length=ds.length:=by rw [<- r1.length,h2.length]
    have l2:its2.length=es.length:=by rw [<- r2.length,h4.length]
    let f:Nat->Bool:=fun j=>match ds[j]?,es[j]? with | some a,some b=>aN a b | _,_=>false
    have items:∀ j (h1:j<its.toArray.size) (h2:j<its2.toArray.size),SeqAt.EqAt A.in1 s its.toArray[j] its2.toArray[j] (f j):=by
     intro j j1 j2
     have nZ:j<ds.length:=by rw [<- l1];simpa using j1
     have nY:j<es.length:=by rw [<- l2];simpa using j2
     obtain ⟨v,e1,q1⟩:=h2.get nZ
     obtain ⟨v',e2,q2⟩:=h4.get nY
     obtain ⟨z,e3,q3⟩:=r1.get e1
     obtain ⟨z',e4,q4⟩:=r2.get e2
     have i1:its.toArray[j]=z:=by
      have:its[j]? = some its[j]:=List.getElem?_eq_getElem (by simpa using j1)
      rw [this] at e3;simpa using Option.some.inj e3
     have i2:its2.toArray[j]=z':=by
      have:its2[j]? = some its2[j]:=List.getElem?_eq_getElem (by simpa using j2)
      rw [this] at e4;simpa using Option.some.inj e4
     have g1:=dj nZ
     have g2:=dj nY
     have hf:f j=aN ds[j] es[j]:=by simp only [f,List.getElem?_eq_getElem nZ,List.getElem?_eq_getElem nY]
     rw [i1,i2,hf]
     simp only [dep] at ih hA
     exact (ih ds[j] es[j] v v' z z' (by omega) q1 q2 (bx Gu nZ) (bx Gs nY) q3 q4 A.in1 (by rw [in1_units];omega)).2
    have xM:its.toArray.size=ds.length:=by simpa using l1
    have AZ:its2.toArray.size=es.length:=by simpa using l2
    have rc:SeqAt.RcNeAt A s (.ref a) (.ref b) (!aN (.tup ds) (.tup es)):=by
     have q:=SeqAt.RcNeAt.tuples t1 t2 hu items
     rw [xM,AZ,dR] at q
     simp only [aN];exact q
    exact rc
  | lst ds =>
   simp only [DV] at hd
   obtain ⟨a,vs,rfl,h1,h2⟩:=hd
   cases (show u=Value.ref a from ru)
   obtain ⟨its,r1,t1,_⟩:=I.list h1
   cases e with
   | bl _=>simp [plain] at pe
   | dct _ _=>simp [plain] at pe
   | ref _=>simp [plain] at pe
   | ai =>
    simp only [DV] at he;subst he;cases (show w=Value.none from rw')
    simp only [aN,Bool.not_false,Bool.not_true];exact SeqAt.RcNeAt.list_none  t1.isList hu
   | int j =>
    simp only [DV] at he;subst he;obtain ⟨t',rfl⟩:=(show ∃ t,w=Value.int j t from rw')
    simp only [aN,Bool.not_false,Bool.not_true];exact SeqAt.RcNeAt.list_int j t' t1.isList hu
   | str j =>
    simp only [DV] at he;subst he;obtain ⟨t',rfl⟩:=(show ∃ t,w=Value.str j t from rw')
    simp only [aN,Bool.not_false,Bool.not_true];exact SeqAt.RcNeAt.list_str j t' t1.isList hu
   | tup es =>
    simp only [DV] at he
    obtain ⟨b,ws,rfl,h3,h4⟩:=he
    cases (show w=Value.ref b from rw')
    obtain ⟨its2,r2,t2,_⟩:=I.tuple h3
    simp only [aN,Bool.not_false,Bool.not_true];exact SeqAt.RcNeAt.list_tuple t1.isList t2 hu
   | lst es =>
    simp only [DV] at he
    obtain ⟨b,ws,rfl,h3,h4⟩:=he
    cases (show w=Value.ref b from rw')
    obtain ⟨its2,r2,t2,_⟩:=I.list h3
    have Gu:av ds=true:=by simpa [plain] using pd
    have Gs:av es=true:=by simpa [plain] using pe
    have l1:its.length=ds.length:=by rw [<- r1.length,h2.length]
    have l2:its2.length=es.length:=by rw [<- r2.length,h4.length]
    let f:Nat->Bool:=fun j=>match ds[j]?,es[j]? with | some a,some b=>aN a b | _,_=>false
    have items:∀ j (h1:j<its.toArray.size) (h2:j<its2.toArray.size),SeqAt.EqAt A.in1 s its.toArray[j] its2.toArray[j] (f j):=by
     intro j j1 j2
     have nZ:j<ds.length:=by rw [<- l1];simpa using j1
     have nY:j<es.length:=by rw [<- l2];simpa using j2
     obtain ⟨v,e1,q1⟩:=h2.get nZ
     obtain ⟨v',e2,q2⟩:=h4.get nY
     obtain ⟨z,e3,q3⟩:=r1.get e1
     obtain ⟨z',e4,q4⟩:=r2.get e2
     have i1:its.toArray[j]=z:=by
      have:its[j]? = some its[j]:=List.getElem?_eq_getElem (by simpa using j1)
      rw [this] at e3;simpa using Option.some.inj e3
     have i2:its2.toArray[j]=z':=by
      have:its2[j]? = some its2[j]:=List.getElem?_eq_getElem (by simpa using j2)
      rw [this] at e4;simpa using Option.some.inj e4
     have g1:=dj nZ
     have g2:=dj nY
     have hf:f j=aN ds[j] es[j]:=by simp only [f,List.getElem?_eq_getElem nZ,List.getElem?_eq_getElem nY]
     rw [i1,i2,hf]
     simp only [dep] at ih hA
     exact (ih ds[j] es[j] v v' z z' (by omega) q1 q2 (bx Gu nZ) (bx Gs nY) q3 q4 A.in1 (by rw [in1_units];omega)).2
    have xM:its.toArray.size=ds.length:=by simpa using l1
    have AZ:its2.toArray.size=es.length:=by simpa using l2
    have rc:SeqAt.RcNeAt A s (.ref a) (.ref b) (!aN (.lst ds) (.lst es)):=by
     by_cases hz:ds.length=es.length
     ·have q:=SeqAt.RcNeAt.lists t1.isList t2.isList (by rw [xM,AZ,hz]) hu items
      have z:=dR ds es
      rw [show min ds.length es.length=ds.length by omega,show (ds.length == es.length)=true by simpa using hz,Bool.and_true] at z
      rw [xM,z] at q
      simp only [aN];exact q
     ·have q:=SeqAt.RcNeAt.lists_lengths t1.isList t2.isList (by rw [xM,AZ];simpa using hz) hu
      have z:=dR ds es
      rw [show (ds.length == es.length)=false by simpa using hz,Bool.and_false] at z
      simp only [aN,<- z,Bool.not_false];exact q
    exact rc
end
end Fg
end
section
namespace Fg
open PySem PySem.Spec L2
section
variable {X:Cx} {B:Bd} {pins:List (Addr×Obj)} {σ:L2.St} {H:Hp} {s:Shared}
noncomputable def mE (B:Bd) (X:Cx):Prop:=∀ a kvs,B.dk a kvs->∀ h:Heap,X.K.In h->kvs.length<=sizeLine/\(a == sysModules)=false/\∃ vs,KV kvs vs/\h.DictOf (aT X.prog X.w) a vs
theorem JV {a:Addr} {kvs:List (Key×V)} (hB:mE B X) (I:Inv X pins σ H s) (h:Jb B H a kvs):kvs.length<=sizeLine/\(a == sysModules)=false/\∃ vs,KV kvs vs/\s.heap.DictOf (aT X.prog X.w) a vs:=by
 rcases h with h | h
 ·exact EM I.hok h
 ·exact hB a kvs h s.heap I.ia
noncomputable def Rm (X:Cx):Prop:=X.A.units+150<cLine
theorem GH (hu:Rm X):fc X (compareOp .Eq) (yo X.K false):=by
 intro pins s σ H x y v u Q I rx ry h
 obtain ⟨d,e,hd,he,hc,q⟩:=h
 simp only [bw,Bool.and_eq_true,Bool.or_eq_true,decide_eq_true_eq] at hc
 have:=(eq_data I (dep d+dep e+1) d e x y v u (Nat.lt_succ_self _) hd he hc.1.1 hc.1.2 rx ry X.A (by unfold Rm at hu;omega)).1
 exact this X.prog X.w X.xe _ ⟨.bl (aN d e),H,I,rfl,q⟩
theorem Gz (hu:Rm X):fc X (compareOp .NotEq) (yo X.K true):=by
 intro pins s σ H x y v u Q I rx ry h
 obtain ⟨d,e,hd,he,hc,q⟩:=h
 simp only [bw,Bool.and_eq_true,Bool.or_eq_true,decide_eq_true_eq] at hc
 have:=ne_data I d e x y v u hd he hc.1.1 hc.1.2 rx ry X.A (by unfold Rm at hu;omega)
 exact this X.prog X.w X.xe _ ⟨.bl (!aN d e),H,I,rfl,q⟩
theorem GI:fc X (compareOp .Eq) (BK false):=by
 intro pins s σ H x y v u Q I rx ry h
 obtain ⟨a,b,rfl,rfl,q⟩:=h
 refine KL pins s σ H _ _ v u Q I rx ry ⟨rfl,?_⟩
 have e:decide (V.bl a=V.bl b)=(a == b):=oX
 rw [e];exact q
theorem GA:fc X (compareOp .NotEq) (BK true):=by
 intro pins s σ H x y v u Q I rx ry h
 obtain ⟨a,b,rfl,rfl,q⟩:=h
 refine KD pins s σ H _ _ v u Q I rx ry ⟨rfl,?_⟩
 have e:decide (V.bl a=V.bl b)=(a == b):=oX
 rw [e];exact q
theorem GG (hu:Rm X):fc X (compareOp .Eq) (ym X.K false):=by
 intro pins s σ H x y v u Q I rx ry h
 obtain ⟨l,b,xs,rfl,rfl,hH,hB,q⟩:=h
 cases rx
 cases ry
 have Lo:X.A.units<cLine:=by unfold Rm at hu;omega
 obtain ⟨its,r,pl,z⟩:=I.list hH
 obtain ⟨its2,r2,F9,z2⟩:=I.list hB
 cases r2
 cases r with
 | nil=>exact SeqAt.eq_listAt (e:=fun _=>true) pl.isList F9.isList rfl Lo (fun j h1=>by simp at h1) ⟨.bl true,H,I,rfl,q⟩
 | cons _ _=>exact SeqAt.eq_list_lengthsAt pl.isList F9.isList (by simp) Lo ⟨.bl false,H,I,rfl,q⟩
theorem Gy (hu:Rm X):fc X (compareOp .NotEq) (ym X.K true):=by
 intro pins s σ H x y v u Q I rx ry h
 obtain ⟨l,b,xs,rfl,rfl,hH,hB,q⟩:=h
 cases rx
 cases ry
 have Lo:X.A.units<cLine:=by unfold Rm at hu;omega
 obtain ⟨its,r,pl,z⟩:=I.list hH
 obtain ⟨its2,r2,F9,z2⟩:=I.list hB
 cases r2
 cases r with
 | nil=>exact SeqAt.RcNeAt.lists (e:=fun _=>true) pl.isList F9.isList rfl Lo (fun j h1=>by simp at h1) X.prog X.w X.xe _ ⟨.bl false,H,I,rfl,q⟩
 | cons _ _=>exact SeqAt.RcNeAt.lists_lengths pl.isList F9.isList (by simp) Lo X.prog X.w X.xe _ ⟨.bl true,H,I,rfl,q⟩
theorem GF (hB:mE B X):fc X (compareOp .In) (yp B false):=by
 intro pins s σ H x y v u Q I rx ry h
 obtain ⟨a,kvs,k,rfl,rfl,hd,q⟩:=h
 obtain rfl:u=Value.ref a:=ry
 obtain ⟨z,hm,vs,rel,dd⟩:=JV hB I hd
 refine wpAny_in_of (qo rx) hm dd.mapOf ?_
 rw [<- (rel.val k).ji]
 exact ⟨.bl (dh kvs k).isSome,H,I.tok _,rfl,q⟩
theorem v9 (hB:mE B X):fc X (compareOp .NotIn) (yp B true):=by
 intro pins s σ H x y v u Q I rx ry h
 obtain ⟨a,kvs,k,rfl,rfl,hd,q⟩:=h
 obtain rfl:u=Value.ref a:=ry
 obtain ⟨z,hm,vs,rel,dd⟩:=JV hB I hd
 refine wpAny_notIn_of (qo rx) hm dd.mapOf ?_
 rw [<- (rel.val k).ji]
 exact ⟨.bl (!(dh kvs k).isSome),H,I.tok _,rfl,q⟩
noncomputable def Am:AG->CmpOp
 | .eq=>.Eq | .ne=>.NotEq | .lt=>.Lt | .le=>.LtE | .gt=>.Gt | .ge=>.GtE | .isin=>.In | .iJ=>.NotIn | .qq=>.Is | .iK=>.IsNot
theorem yF (hK:B.K=X.K) (hu:Rm X) (hB:mE B X):∀ o:AG,fc X (compareOp (Am o)) (rS B o)
 | .lt=>KG
 | .le=>KH
 | .gt=>KI
 | .ge=>KJ
 | .eq=>by rw [rS,hK];exact GI.or ((GH hu).or (GG hu))
 | .ne=>by rw [rS,hK];exact GA.or ((Gz hu).or (Gy hu))
 | .qq=>GD
 | .iK=>B6
 | .isin=>by rw [rS,hK];exact (GF hB).or wc
 | .iJ=>by rw [rS,hK];exact (v9 hB).or nV
theorem Cb:fc X (binaryOp .Add) (Eb X.K):=by
 intro pins s σ H x y v u Q I rx ry h
 obtain ⟨l,b,xs,zs,rfl,rfl,hH,hB,hz,q⟩:=h
 cases rx
 cases ry
 obtain ⟨its,r,pl,z⟩:=I.list hH
 obtain ⟨its2,r2,F9,z2⟩:=I.list hB
 obtain ⟨⟨cls,dd,data,sl⟩,ho,hc,n,hd⟩:=id pl.isList
 obtain ⟨⟨Me,dd2,data2,sl2⟩,ho2,hc2,n2,hd2⟩:=id F9.isList
 simp only at hc hd hc2 hd2
 subst hc hd hc2 hd2
 have l1:=r.length
 have l2:=r2.length
 have ea:its.toArray++its2.toArray=(its++its2).toArray:=by simp
 refine PySem.concat_meets ⟨_,ho,rfl⟩ ⟨_,ho2,rfl⟩ PySem.noFill_list_add PySem.seq_list_add PySem.F.slot_list_add PySem.F.entry_list_add (PySem.F.args_list_add_2 _ _) (PyProof.Rows.list_addW l b its.toArray its2.toArray n n2 dd dd2 sl sl2 (by simp only [List.size_toArray];omega)) ⟨ho,ho2,?_⟩
 rw [ea]
 exact ⟨.ref _,_,I.La (t':=s.toks) (r.append r2) (by rw [List.length_append];omega),rfl,q _ I.fresh⟩
theorem B8:fc X (binaryOp .Mult) (D8 X.K):=by
 intro pins s σ H x y v u Q I rx ry h
 obtain ⟨l,xs,k,rfl,rfl,hH,hz,hk,q⟩:=h
 cases rx
 obtain ⟨t,rfl⟩:=(show ∃ t,u=Value.int k t from ry)
 obtain ⟨its,r,pl,z⟩:=I.list hH
 obtain ⟨⟨cls,dd,data,sl⟩,ho,hc,n,hd⟩:=id pl.isList
 simp only at hc hd
 subst hc hd
 have l1:=r.length
 rw [l1] at hz
 refine wpAny_binaryOp_repeat_ref (T:="list") (U:="int") (by decide) ⟨_, ho, rfl⟩ (fun s'=>typeIs_int s' k t) noFill_list_mul PySem.F.fills_int_mul PySem.F.slot_int_rmul repeat_list PySem.F.slot_int_index.lookup
  (call_meets PySem.F.slot_int_rmul (typeIs_int s k t) PySem.F.entry_int_rmul (PySem.F.args_int_rmul_2 _ _) (PySem.lm_int_rmul_list_any k t l its.toArray n dd sl)
   ⟨ho,rfl,⟨_,ho,rfl⟩,call_meets PySem.F.slot_list_mul ⟨_,ho,rfl⟩ PySem.F.entry_list_mul (PySem.F.args_list_mul_2 _ _)
    (PySem.lm_list_mul_any l its.toArray n dd sl k t (by simp [Builtin.List.listFitsIndex];omega) (by rw [List.size_toArray];rw [sizeLine_eq] at hz;omega) (by rw [sizeLine_eq] at hz;simp [Builtin.List.listTooLong,sizeLine];omega))
    ⟨ho,?_⟩⟩)
 rw [PyProof.Rows.listMul_foldl_if]
 have rr:Vals (List.replicate k.toNat xs).flatten (List.replicate k.toNat its).flatten:=by
  generalize k.toNat=m
  induction m with
  | zero=>exact .nil
  | succ m ih=>rw [List.replicate_succ,List.replicate_succ,List.flatten_cons,List.flatten_cons];exact r.append ih
 exact ⟨.ref _,_,I.La (t':=s.toks) rr (by rw [List.length_flatten];simp [List.sum_replicate_nat];rw [l1,Nat.mul_comm];exact hz),rfl,q _ I.fresh⟩
theorem qm {i:Int} (h:i.natAbs<10 ^ 200):Builtin.Int.intBits i<=2 ^ 20:=by
 unfold Builtin.Int.intBits
 split
 ·exact Nat.zero_le _
 ·have z:i.natAbs.log2<1000:=by
   by_cases h0:i.natAbs=0
   ·rw [h0];decide
   ·exact (Nat.log2_lt h0).mpr (Nat.lt_of_lt_of_le h (by decide +kernel))
  exact Nat.le_trans (Nat.succ_le_of_lt z) (by decide)
theorem B7:fc X (binaryOp .Mult) (rI ME fun i j=>.int (i*j)):=KO fun _ _ _ _ _ _ _ hc q=>PyProof.Rows.mul_int q (.of_bits (qm hc.1) (qm hc.2))
noncomputable def binOp:DF->Operator
 | .add=>.Add | .sub=>.Sub | .mul=>.Mult | .fdiv=>.FloorDiv | .mod=>.Mod | .pow=>.Pow
theorem GJ (hK:B.K=X.K):∀ o:DF,fc X (binaryOp (binOp o)) (Ke B.K o)
 | .add=>by rw [Ke,hK];exact GK.or (rY.or (Cb.or Ca))
 | .sub=>Gv
 | .mul=>by rw [Ke,hK];exact GB.or (B7.or B8)
 | .fdiv=>B9
 | .mod=>GC
 | .pow=>Gw
theorem HK (hB:mE B X):AS X (Kl B):=by
 intro value slice pins s σ H x y v u Q I rx ry h hs
 obtain ⟨a,kvs,k,w,rfl,rfl,hd,hv,q⟩:=h
 obtain rfl:v=Value.ref a:=rx
 obtain ⟨z,hm,vs,rel,dd⟩:=JV hB I hd
 obtain ⟨w',hw,rw'⟩:=iA.some_of (v:=w) (o:=valueAt vs k) (by rw [<- hv];exact rel.val k)
 exact PyProof.Rows.tail_any dd.typeIs PySem.F.slot_dict_getitem.lookup (wpAny_getItem_of (qo ry) dd.mapOf hw ⟨w,H,I.tok _,rw',q⟩) hs
theorem HL (hK:B.K=X.K) (hB:mE B X):AS X (BJ B):=by
 unfold BJ;rw [hK];exact CK.or (HH.or (HJ.or (HK hB)))
theorem wV (hK:B.K=X.K) (hB:mE B X):dg X (.builtin "len") (FP B):=by
 unfold FP;rw [hK]
 refine o5.or (o6.or ?_)
 intro pins s σ H xs us Q I r h
 obtain ⟨a,kvs,rfl,ha,q⟩:=h
 obtain ⟨u,rfl,ru⟩:=vals1 r
 cases ru
 obtain ⟨z,hd,vs,rel,dd⟩:=JV hB I ha
 refine call_len_dict hd dd (by rw [<- rel.length];rw [sizeLine_eq] at z;omega) ?_
 rw [<- rel.length]
 exact ⟨.int kvs.length,H,I.tok _,⟨_,rfl⟩,q⟩
theorem wU (hK:B.K=X.K):dg X (.type "list") (rQ B):=by unfold rQ;rw [hK];exact o4
inductive DC (B:Bd) (H:Hp):V->String->Prop where
 | ai:DC B H .ai "NoneType"
 | bl (b:Bool):DC B H (.bl b) "bool"
 | int (i:Int):DC B H (.int i) "int"
 | str (x:Str):DC B H (.str x) "str"
 | lst {a:Addr} {xs:List V}:gb B.K H a xs->DC B H (.ref a) "list"
 | tup {a:Addr} {xs:List V}:jD B.K H a xs->DC B H (.ref a) "tuple"
 | dct {a:Addr} {kvs:List (Key×V)}:Jb B H a kvs->DC B H (.ref a) "dict"
noncomputable def pH:Ty->String
 | .int=>"int" | .str=>"str" | .bool=>"bool" | .list=>"list" | .tuple=>"tuple" | .dict=>"dict"
noncomputable def tyB (T:String) (t:Ty):Bool:=T == pH t||(T == "bool"&&match t with | .int=>true | _=>false)
noncomputable def Km (B:Bd):List V->Hp->VK->Prop:=fun xs H Q=>∃ x T t,xs=[x,.ty (pH t)]/\DC B H x T/\Q (.bl (tyB T t)) H
theorem CA (K:W.Frag):∀ t:Ty, W.kitOne K (.type "NoneType") (.type (pH t))=some (tyB "NoneType" t)/\W.kitOne K (.type "bool") (.type (pH t))=some (tyB "bool" t)/\W.kitOne K (.type "int") (.type (pH t))=some (tyB "int" t)/\W.kitOne K (.type "str") (.type (pH t))=some (tyB "str" t) /\
  W.kitOne K (.type "list") (.type (pH t))=some (tyB "list" t)/\W.kitOne K (.type "tuple") (.type (pH t))=some (tyB "tuple" t)/\W.kitOne K (.type "dict") (.type (pH t))=some (tyB "dict" t):=by
 intro t
 cases t <;> (refine ⟨?_,?_,?_,?_,?_,?_,?_⟩ <;> kernel_rfl)
theorem Aq (hK:B.K=X.K) (hB:mE B X):dg X (.builtin "isinstance") (Km B):=by
 intro pins s σ H xs us Q I r h
 obtain ⟨x,T,t,rfl,ty,q⟩:=h
 cases r with
 | cons rx r =>
  cases r with
  | cons rt r =>
   cases r
   obtain rfl:=(show _=Value.type (pH t) from rt)
   have fin:∀ tk,EP X pins σ Q (.bool (tyB T t)) { s with toks:=tk }:=fun tk=>⟨.bl (tyB T t),H,I.tok _,rfl,q⟩
   obtain ⟨k1,k2,k3,k4,k5,k6,k7⟩:=CA X.K t
   cases ty with
   | ai=>cases (show _=Value.none from rx);exact W.kia_one W.kitx_none I.ia True.intro k1 (fun z=>nomatch z) fin
   | bl b=>cases (show _=Value.bool b from rx);exact W.kia_one W.kitx_bool I.ia True.intro k2 (fun z=>nomatch z) fin
   | int i=>obtain ⟨tk,q⟩:=(show ∃ t,_=Value.int i t from rx);cases q;exact W.kia_one W.kitx_int I.ia True.intro k3 (fun z=>nomatch z) fin
   | str y=>obtain ⟨tk,q⟩:=(show ∃ t,_=Value.str y t from rx);cases q;exact W.kia_one W.kitx_str I.ia True.intro k4 (fun z=>nomatch z) fin
   | lst hl =>
    cases rx
    rw [hK] at hl
    obtain ⟨its,_,pl,_⟩:=I.list hl
    obtain ⟨o,ho,hc,_⟩:=pl.isList
    exact W.kia_one W.kitx_list I.ia ⟨o,ho,hc⟩ k5 (fun z=>nomatch z) fin
   | tup hl =>
    cases rx
    rw [hK] at hl
    obtain ⟨its,_,pl,_⟩:=I.tuple hl
    obtain ⟨o,ho,hc,_⟩:=pl
    exact W.kia_one W.kitx_tuple I.ia ⟨o,ho,hc⟩ k6 (fun z=>nomatch z) fin
   | dct hd =>
    cases rx
    obtain ⟨z,hm,vs,rel,dd⟩:=JV hB I hd
    obtain ⟨o,ho,hc⟩:=dd.typeIs
    exact W.kia_one W.kitx_dict I.ia ⟨o,ho,hc⟩ k7 (fun z=>nomatch z) fin
end
end Fg
end
section
namespace Fg
open PySem PySem.Spec L2
theorem kR {α:Type} (xs:List α) (a:Nat):∀ c:Nat,((List.range c).map fun k=>a+k).filterMap (fun i=>xs[i]?)=(xs.drop a).take c
 | 0=>by simp
 | c+1=>by
  rw [List.range_succ,List.map_append,List.filterMap_append,kR xs a c,List.take_add_one]
  simp [List.getElem?_drop]
  cases h:xs[a+c]? <;> simp [h]
theorem qO (n d:Nat) (hd:d<=n) (o:Option Int):(match o with
  | none=>((d:Nat):Int)
  | some i=>max 0 (min (if i<0 then i+(n:Int) else i) (n:Int)))=((six n d o:Nat):Int):=by
 cases o with
 | none=>rfl
 | some i=>simp only [six];split <;> omega
theorem Fj (n d:Nat) (hd:d<=n) (o:Option Int):six n d o<=n:=by
 cases o with
 | none=>exact hd
 | some i=>simp only [six];split <;> omega
theorem FH (a b:Nat):sliceRange (a:Int) (b:Int) 1=(List.range (b-a)).map fun k=>a+k:=by
 unfold sliceRange
 simp only [show (1:Int) > 0 by decide,if_true]
 have ec:(if (a:Int)<(b:Int) then ((b:Int)-(a:Int)+1-1) / 1 else 0).toNat=b-a:=by
  split <;> omega
 rw [ec]
 apply List.map_congr_left
 intro k _
 omega
theorem zF (l u:Option Int) (n:Nat):Builtin.Str.strSliceIndices l u 1 n=(List.range (six n n u-six n 0 l)).map fun k=>six n 0 l+k:=by
 rw [<- FH,<- qO n 0 (Nat.zero_le _) l,<- qO n n (Nat.le_refl _) u]
 unfold Builtin.Str.strSliceIndices
 cases l <;> cases u <;> rfl
theorem rK (x:Str) (l u:Option Int):Txt.slice x l u=cuts x l u:=by
 have hn:x.cps.toList.length=x.length:=by simp [Str.length]
 have key:(Builtin.Str.strSliceIndices l u 1 x.length).filterMap (x.cps[·]?)=eV x.cps.toList l u:=by
  rw [zF]
  have:=kR x.cps.toList (six x.length 0 l) (six x.length x.length u-six x.length 0 l)
  unfold eV
  rw [hn,<- this]
  congr 1
  funext i
  simp
 unfold Txt.slice
 split
 ·rename_i hc
  simp only [Bool.and_eq_true,beq_iff_eq] at hc
  have hc2:=hc.2
  rw [zF] at hc2
  simp only [List.length_map,List.length_range] at hc2
  have b1:=Fj x.length x.length (Nat.le_refl _) u
  unfold cuts eV
  rw [hn]
  by_cases h0:x.length=0
  ·obtain ⟨⟨l⟩⟩:=x
   simp [Str.length] at h0
   subst h0
   simp
  ·have a0:six x.length 0 l=0:=by omega
   rw [a0,List.drop_zero,List.take_of_length_le (by rw [hn];omega)]
 ·show Str.mk _=Str.mk _
  rw [key]
section
variable {X:Cx} {B:Bd}
theorem Ff:DE X Kc:=by
 intro pins s σ H x v vl vu lo hi sl Q I rx hs pl pu h
 obtain ⟨z,rfl,hz,q⟩:=h
 obtain ⟨t,rfl⟩:=(show ∃ t,v=Value.str z t from rx)
 refine ⟨"str", _, PySem.F.slot_str_getitem.lookup, typeIs_str _ _ _, ?_⟩
 have fin:∀ (l u:Option Int) (t':Tok) (k:Nat),l=lo->u=hi->EP X pins σ Q (.str (Txt.slice z l u) t') { s with toks:=k }:=by
  intro l u t' k e3 e4
  exact ⟨.str (cuts z lo hi),H,I.tok _,⟨t',by rw [rK,e3,e4]⟩,q⟩
 obtain ⟨o,ho,hc,hd⟩:=hs
 cases pl with
 | none =>
  cases pu with
  | none=>exact wpAny_getItem_str_slice (l:=none) (u:=none) (st:=none) ⟨o,ho,hc,hd⟩ rfl (post_val_or_str ⟨Nat.le_trans (Txt.slice_le z none none) hz,fun t' k=>fin none none t' k rfl rfl⟩)
  | int j tj=>exact wpAny_getItem_str_slice (l:=none) (u:=some (j,tj)) (st:=none) ⟨o,ho,hc,hd⟩ rfl (post_val_or_str ⟨Nat.le_trans (Txt.slice_le z none (some j)) hz,fun t' k=>fin none (some j) t' k rfl rfl⟩)
 | int i ti =>
  cases pu with
  | none=>exact wpAny_getItem_str_slice (l:=some (i,ti)) (u:=none) (st:=none) ⟨o,ho,hc,hd⟩ rfl (post_val_or_str ⟨Nat.le_trans (Txt.slice_le z (some i) none) hz,fun t' k=>fin (some i) none t' k rfl rfl⟩)
  | int j tj=>exact wpAny_getItem_str_slice (l:=some (i,ti)) (u:=some (j,tj)) (st:=none) ⟨o,ho,hc,hd⟩ rfl (post_val_or_str ⟨Nat.le_trans (Txt.slice_le z (some i) (some j)) hz,fun t' k=>fin (some i) (some j) t' k rfl rfl⟩)
theorem Fi (hK:B.K=X.K):DE X (BI B):=by
 unfold BI;rw [hK];exact Bb.or (Fe.or Ff)
end
end Fg
end
section
namespace Fg
open PySem PySem.Spec L2
theorem eO {α β:Type} (g:β->α->β):∀ {l:List α} {f:α->β->Sem (ForInStep β)} (_:∀ x∈l,∀ c,f x c=pure (.yield (g c x))) (c:β),forIn l c f=pure (l.foldl g c)
 | [],f,_,c=>rfl
 | x::l,f,h,c=>by
  rw [List.forIn_cons,h x List.mem_cons_self,pure_bind]
  exact eO g (fun y hy=>h y (List.mem_cons_of_mem _ hy)) _
noncomputable def aS (env:Env) (cs:List (Str×Addr)) (x:Str×NameKind):List (Str×Addr):=if x.2 == .free then (x.1,(env.cells.lookup x.1).getD 0)::cs else cs
theorem tF {scope:Scope} {env:Env} (h:∀ x,(x,NameKind.free)∈scope.names->∃ c,env.cells.lookup x=some c):closureFor scope env=pure (scope.names.foldl (aS env) []):=by
 unfold closureFor
 dsimp only
 rw [eO (aS env) (fun x hx c=>?_)]
 ·rfl
 obtain ⟨n,k⟩:=x
 by_cases hk:k=.free
 ·subst hk
  obtain ⟨a,ha⟩:=h n hx
  simp only [aS,cellOf,ha,beq_self_eq_true,if_true,Option.getD_some]
  rfl
 ·have hb:(k == NameKind.free)=false:=by simpa using hk
  simp only [aS,hb,Bool.false_eq_true,if_false]
theorem oZ {env:Env}:∀ (names:List (Str×NameKind)) (cs:List (Str×Addr)) (p:Str×Addr),(∀ x,(x,NameKind.free)∈names->∃ c,env.cells.lookup x=some c)->p∈names.foldl (aS env) cs->p∈cs\/env.cells.lookup p.1=some p.2
 | [],cs,p,_,h=>.inl h
 | (n, k)::r, cs, p, hc, h=>by
  rw [List.foldl_cons] at h
  rcases oZ r _ p (fun x hx=>hc x (List.mem_cons_of_mem _ hx)) h with q | q
  ·unfold aS at q
   split at q
   ·rename_i hk
    have hk':k=.free:=by simpa using hk
    subst hk'
    rcases List.mem_cons.mp q with q | q
    ·obtain ⟨a,ha⟩:=hc n List.mem_cons_self
     right
     rw [q]
     show env.cells.lookup n=some ((env.cells.lookup n).getD 0)
     rw [ha];rfl
    ·exact .inl q
   ·exact .inl q
  ·exact .inr q
theorem vv {env:Env}:∀ (names:List (Str×NameKind)) (cs:List (Str×Addr)) (x:Str),(∃ c,(x,c)∈cs)->∃ c,(x,c)∈names.foldl (aS env) cs
 | [],cs,x,h=>h
 | (n,k)::r,cs,x,⟨c,h⟩=>by
  rw [List.foldl_cons]
  refine vv r _ x ⟨c,?_⟩
  unfold aS
  split
  ·exact List.mem_cons_of_mem _ h
  ·exact h
theorem tG {env:Env}:∀ (names:List (Str×NameKind)) (cs:List (Str×Addr)) (x:Str),(x,NameKind.free)∈names->∃ c,(x,c)∈names.foldl (aS env) cs
 | (n, k)::r, cs, x, h=>by
  rw [List.foldl_cons]
  rcases List.mem_cons.mp h with h | h
  ·cases h
   refine vv r _ n ⟨(env.cells.lookup n).getD 0,?_⟩
   unfold aS
   rw [if_pos (by rfl)]
   exact List.mem_cons_self
  ·exact tG r _ x h
theorem ee {β:Type}:∀ {l:List (Str×β)} {x:Str} {c:β},(x,c)∈l->∃ d,l.lookup x=some d
 | (n, k)::r, x, c, h=>by
  rw [List.lookup_cons]
  cases e:x == n with
  | true=>exact ⟨k,rfl⟩
  | false =>
   rcases List.mem_cons.mp h with h | h
   ·cases h;simp at e
   ·exact ee h
theorem dH {env:Env}:∀ {names:List (Str×NameKind)} {x:Str},(names.map fun (n,k)=>if (k == NameKind.free&&env.scope.kind == .function&&env.kindOf n == some .cell) then (n,NameKind.cell) else (n,k)).lookup x =
  (names.lookup x).map fun k=>if (k == NameKind.free&&env.scope.kind == .function&&env.kindOf x == some .cell) then NameKind.cell else k
 | [],x=>rfl
 | (n, k)::r, x=>by
  have ih:=@dH env r x
  show List.lookup x ((if (k == NameKind.free&&env.scope.kind == .function&&env.kindOf n == some .cell)=true then (n,NameKind.cell) else (n,k))::_)=_
  cases hx:x == n with
  | true =>
   have e:x=n:=by simpa using hx
   subst e
   by_cases hc:(k == NameKind.free&&env.scope.kind == .function&&env.kindOf x == some .cell)=true
   ·rw [if_pos hc];simp only [List.lookup_cons,hx,Option.map_some,if_pos hc]
   ·rw [if_neg hc]
    simp only [List.lookup_cons,hx,Option.map_some,if_neg hc]
  | false =>
   by_cases hc:(k == NameKind.free&&env.scope.kind == .function&&env.kindOf n == some .cell)=true
   ·rw [if_pos hc];simp only [List.lookup_cons,hx];exact ih
   ·rw [if_neg hc];simp only [List.lookup_cons,hx];exact ih
noncomputable def ER (X:Cx) (scope:Scope) (cl:List (Str×Addr)) (N:List Str) (fp:List Addr) (s:Shared) (H:Hp) (C:Addr):Cx :=
 { X with N:=N,s₀:=s,H₀:=H,env:=compEnvC scope cl C X.env,outer:=X.stack,stack:=X.stack,ex:=fp,fn:=fun _=>false,pn:=[],xe:=fun _ _=>False }
noncomputable abbrev eZ (X:Cx) (scope:Scope) (cl:List (Str×Addr)) (N:List Str) (fp:List Addr) (s:Shared) (H:Hp) (C:Addr) (E:XK):Cx:=(ER X scope cl N fp s H C).bU (ja (ER X scope cl N fp s H C) fun cv x _ H'=>E cv x H')
noncomputable def Jv (X:Cx) (ifs:List Expr) (t:TT):Prop :=
 ∀ (pins:List (Addr×Obj)) (s:Shared) (σ:St) (H:Hp) (Q:Bool->Hp->Prop),Inv X pins σ H s->t σ H Q ->
  wpAny (model X.prog X.w) X.A (forIn ifs true fun c r=>if r=true then do let ok <- isTrue c X.env (eval c X.env);pure (ForInStep.yield ok) else pure (ForInStep.yield r)) (L2.TP X pins σ Q) X.xe s
theorem BN {X:Cx}:Jv X [] (fun _ H Q=>Q true H):=fun pins s σ H Q I h=>wpAny_tests_nil ⟨H,I,h⟩
theorem BL {X:Cx} {c:Expr} {t:TT} (h:PT X c t):Jv X [c] t:=fun pins s σ H Q I q=>wpAny_tests_one (h pins s σ H Q I q)
noncomputable def qQ (cp:List Nat) (n:Nat) (σ:St):St:=cp.map (fun i=>(σ[i]?).join)++List.replicate n none
noncomputable def tX (wi:TI) (g:TG) (tc:St->TT) (te:St->TE) (cp:List Nat) (n:Nat):TE:=fun σ H Q=>wi σ H fun J H1=>∀ D,H1 D=none->∃ W:Nat->Nat->St->Hp->Prop,(∃ m,W 0 m (qQ cp n σ) (upd H1 D (.lst [])))/\∀ i m σ' H',W i m σ' H' ->
 (J.stop i H'/\Q (.ref D) H')\/(J.go i H'/\∀ x H2,J.MG i H' x H2->g x σ' H2 fun σ2 H3=>tc σ σ2 H3 fun b H4 =>
  if b=true then te σ σ2 H4 fun v H5=>∃ ys,H5 D=some (.lst ys)/\ys.length<sizeLine/\∃ m',m'<m/\W (i+1) m' σ2 (upd H5 D (.lst (ys++[v]))) else ∃ m',m'<m/\W (i+1) m' σ2 H4)
theorem gK {prog:Program} {w:World} {A:Around} {R:Result->Shared->Prop} {s:Shared} {elt target iter:Expr} {ifs:List Expr} {scope:Scope} {pos:Pos} {it acc:Value} {env:Env} (I:Nat->Shared->Prop) (EX:Value->Shared->Prop) (hE:∀ e s,EX e s->notedBy (model prog w) A env (fun x s'=>R (.error x) s') e s)
  (turn:∀ n s,I n s->wpAny (model prog w) A (pyNext it) (fun r s₁=>match r with
   | none=>R (.ok .next) s₁
   | some v=>wpAny (model prog w) A (letOwnedTupleGo target it v) (fun _ s₁'=>wpAny (model prog w) A (assign target env v) (fun _ s₂ =>
     wpAny (model prog w) A (forIn ifs true fun c r=>if r=true then do let ok <- isTrue c env (eval c env);pure (ForInStep.yield ok) else pure (ForInStep.yield r)) (fun ok s₃ =>
      if ok=true then wpAny (model prog w) A (eval elt env) (fun x s₄ =>
       wpAny (model prog w) A (call (.builtin "list.append") [acc, x]) (fun _ s₅=>∃ m, m<n/\I m s₅) EX s₄) EX s₃
      else ∃ m,m<n/\I m s₃) EX s₂) EX s₁') EX s₁) EX s)
  (n:Nat) (h:I n s):codeAny (model prog w) A (.compLoop (.ListComp elt [⟨target,iter,ifs,0⟩] scope pos) 0 it acc env) R s:=by
 refine codeAny_loop rfl I (fun n s hI=>?_) n h
 show wpAny _ A ((compTurn (.ListComp elt [⟨target,iter,ifs,0⟩] scope pos) 0 it acc env).onRaise (fun x=>do noteFrame x env;theTreesLotGoes x)) _ _ s
 refine wpAny_noted ?_
 rw [compTurn_list]
 refine wpAny_bind (wpAny_standAt (wpAny_bind (wpAny_mono (turn n s hI) (fun r s₁ h₁=>?_) hE)))
 cases r with
 | none=>exact wpAny_pure h₁
 | some v =>
  refine wpAny_bind (wpAny_mono h₁ (fun _ s₁' h₁'=>?_) hE)
  refine wpAny_bind (wpAny_mono h₁' (fun _ s₂ h₂=>wpAny_bind (wpAny_mono h₂ (fun ok s₃ h₃=>?_) hE)) hE)
  cases ok with
  | false=>exact wpAny_pure ⟨rfl,h₃⟩
  | true =>
   exact wpAny_bind (wpAny_bind (wpAny_mono h₃ (fun x s₄ h₄=>wpAny_bind (wpAny_mono h₄ (fun _ s₅ h₅=>wpAny_pure (wpAny_pure ⟨rfl,h₅⟩)) hE)) hE))
section
variable {X:Cx} {pins:List (Addr×Obj)} {σ:St} {H:Hp} {s:Shared}
structure iC (X:Cx) (scope:Scope) (N:List Str) (cp:List Nat) (n:Nat):Prop where
 free:∀ x,(x,NameKind.free)∈scope.names->X.env.kindOf x=some .cell\/X.env.kindOf x=some .free
 cell:∀ y∈scope.names,y.2≠.cell
 kind:scope.kind=.function
 names:∀ y∈scope.names,y.2=.local->scope.names.lookup y.1=some .local
 len:N.length=cp.length+n
 cap:∀ (i j:Nat) (x:Str),N[i]? = some x->cp[i]? = some j->X.N[j]? = some x/\scope.names.lookup x=some .free
theorem IQ {scope:Scope} {N:List Str} {cp:List Nat} {n:Nat} {fp:List Addr} {C:Addr} (S:iC X scope N cp n) (I:Inv X pins σ H s) (hf:∀ b∈fp,lZ X pins H b) (hC:s.heap.objs.size<C) (HQ:∀ b∈fp,b<s.heap.objs.size) :
  (ER X scope (scope.names.foldl (aS X.env) []) N fp s H C).Ok:=by
 have hex:∀ x,(x,NameKind.free)∈scope.names->∃ c,X.env.cells.lookup x=some c:=fun x hx=>I.ok.has x (S.free x hx)
 have hcl:∀ x c,(scope.names.foldl (aS X.env) []).lookup x=some c->X.env.cells.lookup x=some c:=fun x c e=>by
  rcases oZ scope.names [] (x,c) hex (PySem.mem_of_lookup e) with q | q
  ·cases q
  ·exact q
 refine ⟨I.ok.mod,S.kind,I.ok.glob,I.ok.blt,Nat.le_of_lt hC,fun x y c h1 h2=>I.ok.inj x y c (hcl x c h1) (hcl y c h2),fun x hx=>?_,fun x c h _=>(Bool.false_ne_true h).elim,I.ok.hd,I.ok.frames,.inl rfl,fun b hb=>⟨Nat.ne_of_lt (Nat.lt_trans (HQ b hb) hC),fun x c e=>(hf b hb).2.2.2.2.1 x c (hcl x c e)⟩,
  fun b o e=>I.bs b o e,Nat.le_trans I.ok.xx I.sz,fun b o e hb=>?_,fun b hb hs=>?_,I.stack,I.gx⟩
 ·have q:(x,NameKind.free)∈scope.names:=by
   have hx:(relabel scope X.env).names.lookup x=some .cell\/(relabel scope X.env).names.lookup x=some .free:=hx
   unfold relabel at hx
   dsimp only at hx
   rw [dH] at hx
   cases e:scope.names.lookup x with
   | none=>rw [e] at hx;simp at hx
   | some k =>
    rw [e] at hx
    have hm:=PySem.mem_of_lookup e
    cases k with
    | free=>exact hm
    | cell=>exact (S.cell _ hm rfl).elim
    | «local»=>simp at hx
    | globalImplicit=>simp at hx
    | globalExplicit=>simp at hx
  obtain ⟨c,hc⟩:=tG (env:=X.env) scope.names [] x q
  exact ee hc
 ·rcases (hf b hb).2.2.2.1 with z | z
  ·exact I.ok.qe b o e z
  ·exact absurd (Nat.lt_of_lt_of_le (Heap.lt_size e) (Nat.le_trans I.ok.xx z)) (Nat.lt_irrefl _)
 ·rcases List.mem_cons.mp (I.fh b hs) with z | z
  ·exact (hf b hb).2.1 z
  ·exact (hf b hb).2.2.1 z
theorem w5 {scope:Scope} {N:List Str} {cp:List Nat} {n:Nat} {fp:List Addr} {C D:Addr} {h1:Heap} {t1:Nat} (S:iC X scope N cp n) (I:Inv X pins σ H s) (hf:∀ b∈fp,lZ X pins H b) (HQ:∀ b∈fp,b<s.heap.objs.size)
  (hD:D=s.heap.objs.size) (hC:C=s.heap.objs.size+1) {m:Str->Option Value} (hns:h1.Ns C m) (old:∀ b o, s.heap.get? b=some o->h1.get? b=some o) (hacc:h1.get? D=some { cls:=.type "list", data:=.seq ([]:List Value).toArray 0 }) :
  Inv (ER X scope (scope.names.foldl (aS X.env) []) N fp s H C) [] (qQ cp n σ) (upd H D (.lst [])) { s with heap:=h1,toks:=t1 }:=by
 have hex:∀ x,(x,NameKind.free)∈scope.names->∃ c,X.env.cells.lookup x=some c:=fun x hx=>I.ok.has x (S.free x hx)
 have hcl:∀ x c,(scope.names.foldl (aS X.env) []).lookup x=some c->X.env.cells.lookup x=some c:=fun x c e=>by
  rcases oZ scope.names [] (x,c) hex (PySem.mem_of_lookup e) with q | q
  ·cases q
  ·exact q
 have fD:H D=none:=I.hok.fresh (by rw [hD];exact Nat.le_refl _)
 have fC:H C=none:=I.hok.fresh (by rw [hC];exact Nat.le_succ _)
 have cellK:∀ x c v,X.env.cells.lookup x=some c->s.heap.IsCell c v->h1.IsCell c v:=fun x c v e ⟨o,ho,hd⟩=>⟨o,old c o ho,hd⟩
 refine ⟨IQ S I hf (by rw [hC];exact Nat.lt_succ_self _) HQ,rfl,I.bare,?_,⟨m,hns,fun i x v e1 e2 e3=>?_⟩,fun x c e=>?_,?_,fun x c e=>?_,fun p hp=>absurd (show p∈([]:List (Addr×Obj)) from hp) (by simp),?_,?_⟩
 ·exact Un.laid (fun b u e=>old b u e) (by rw [hD];exact Nat.le_refl _) fD
 ·-- a Mg name
  have hi:i<cp.length:=by
   by_cases hi:i<cp.length
   ·exact hi
   ·unfold qQ at e2
    rw [List.getElem?_append_right (by simpa using hi),List.getElem?_replicate] at e2
    split at e2 <;> cases e2
  have hcp:cp[i]? = some cp[i]:=List.getElem?_eq_getElem hi
  obtain ⟨hX,hfr⟩:=S.cap i cp[i] x e1 hcp
  have e2':σ[cp[i]]? = some (some v):=by
   unfold qQ at e2
   rw [List.getElem?_append_left (by simpa using hi),List.getElem?_map,hcp] at e2
   simp only [Option.map_some,Option.some.injEq] at e2
   cases q:σ[cp[i]]? with
   | none=>rw [q] at e2;cases e2
   | some o=>rw [q] at e2;simp only [Option.join_some] at e2;rw [e2]
  have hmem:=PySem.mem_of_lookup hfr
  have hk:=S.free x hmem
  obtain ⟨m0,_,hl⟩:=I.loc
  obtain ⟨u,r,lk⟩:=hl cp[i] x v hX e2' (by rcases hk with q | q;exact .inr (.inl q);exact .inr (.inr q))
  refine ⟨u,r,.inr ⟨?_,?_⟩⟩
  ·show (relabel scope X.env).names.lookup x=some .cell\/(relabel scope X.env).names.lookup x=some .free
   unfold relabel
   dsimp only
   rw [dH,hfr]
   simp only [Option.map_some]
   split
   ·exact .inl rfl
   ·exact .inr rfl
  ·obtain ⟨c,hc⟩:=tG (env:=X.env) scope.names [] x hmem
   obtain ⟨d,hd⟩:=ee hc
   refine ⟨d,hd,?_⟩
   rcases lk with ⟨k,_⟩ | ⟨_,c',hc',z⟩
   ·rcases hk with q | q <;> (rw [q] at k;cases k)
   ·have:=hcl x d hd
    rw [hc'] at this;cases this
    exact cellK x d _ hc' z
 ·obtain ⟨v,z⟩:=I.cell x c (hcl x c e)
  exact ⟨v,cellK x c v (hcl x c e) z⟩
 ·show upd H D (.lst []) C=none
  rw [au (by rw [hC,hD];exact Nat.succ_ne_self _)];exact fC
 ·show upd H D (.lst []) c=none
  rw [au (ne_of_lt' (I.cell x c (hcl x c e)) hD)]
  exact I.cN x c (hcl x c e)
 ·exact I.hok.laid old (by rw [hD];exact Nat.le_refl _) ⟨Nat.zero_le _,[],0,.nil,hacc⟩
 ·unfold qQ
  show _=N.length
  rw [List.length_append,List.length_map,List.length_replicate,S.len]
where
 ne_of_lt' {h:Heap} {c D:Addr} (z:∃ v,h.IsCell c v) (hD:D=h.objs.size):c≠D:=by
  obtain ⟨v,q⟩:=z
  rw [hD]
  exact Nat.ne_of_lt q.lt
variable {elt tg iter:Expr} {ifs:List Expr} {scope:Scope} {pos ppos:Pos} {wi:TI} {g:TG} {tc:St->TT} {te:St->TE} {Ex:XS} {cp:List Nat} {n:Nat} {N:List Str}
theorem ny {use:Option (Value->Sem Unit)} {Q':Value->Shared->Prop} {Q:VK} (hc:X.calm=true) (S:iC X scope N cp n) (hi:PI X tg iter wi)
  (hfr:qW X) (hx:∀ e s,ja X Ex e s->X.xe e s) (hb:∀ σ cl fp s H C,PG (eZ X scope cl N fp s H C fun cv x H'=>Ex cv x σ H') tg g/\Jv (eZ X scope cl N fp s H C fun cv x H'=>Ex cv x σ H') ifs (tc σ)/\PE (eZ X scope cl N fp s H C fun cv x H'=>Ex cv x σ H') elt (te σ)) (hs:∀ x,foldedSetIterable iter X.env x=pure x)
  (I:Inv X pins σ H s) (h:tX wi g tc te cp n σ H Q)
  (fin:∀ s' C D H' f,Inv X pins σ H' s'->lZ X pins H' C->(∃ m,s'.heap.Ns C m)->Q (.ref D) H'->compPost (model X.prog X.w) X.A X.xe use Q' (.ref D) C (.ok f) s') :
  wpAny (model X.prog X.w) X.A (comprehension (.ListComp elt [⟨tg,iter,ifs,0⟩] scope pos) scope X.env ppos (newList []) false (eval iter X.env) use) Q' X.xe s:=by
 have hex:∀ x,(x,NameKind.free)∈scope.names->∃ c,X.env.cells.lookup x=some c:=fun x hx=>I.ok.has x (S.free x hx)
 refine wpAny_comprehension_free rfl hs (tF hex) S.kind S.names (bz (hi pins s σ H _ I h) fun v s1 h1=>bz h1 fun itv s2 h2=>?_)
 obtain ⟨it,fp,tn,J,H2,e,I2,T,st2,f2,hW⟩:=h2
 subst e
 refine wpAny_newObj_type (wpAny_newFunctionEnv S.cell (by intro y hy;simp at hy) (fun h₁ sJ oh=>?_) S.kind)
 dsimp only at sJ oh ⊢
 generalize hH2:s2.heap.push { cls:=.type "list", dict:=none, data:=.seq ([]:List Value).toArray }=G at sJ oh ⊢
 have hC:G.objs.size=s2.heap.objs.size+1:=by rw [<- hH2,Heap.size_push]
 have HQ:∀ b∈fp,b<s2.heap.objs.size:=fun b hb=>by
  obtain ⟨o,e,_⟩:=T.obj _ _ st2 b hb
  exact Heap.lt_size e
 have hDC:s2.heap.objs.size≠G.objs.size:=by rw [hC];exact Nat.ne_of_lt (Nat.lt_succ_self _)
 have old:∀ b o,s2.heap.get? b=some o->h₁.get? b=some o:=fun b o e=>oh.extBut b o (by rw [hC];exact Nat.ne_of_lt (Nat.lt_succ_of_lt (Heap.lt_size e))) (Heap.get?_push_of_some _ (hH2 ▸ Heap.get?_push_of_some _ e))
 have hacc:h₁.get? s2.heap.objs.size=some { cls:=.type "list", data:=.seq ([]:List Value).toArray 0 }:=oh.extBut _ _ hDC (Heap.get?_push_of_some _ (hH2 ▸ Heap.get?_push_size _ rfl))
 have st1:tn 0 h₁:=T.keep _ _ _ st2 fun b hb o e=>old b o e
 obtain ⟨W,⟨m0,w0⟩,turn⟩:=hW s2.heap.objs.size (I2.hok.fresh (Nat.le_refl _))
 have I0':=w5 (t1:=s2.toks+([]:List (Str×Value)).length) S I2 f2 HQ rfl hC sJ old hacc
 have I0:=I0'.bU (ja (ER X scope (scope.names.foldl (aS X.env) []) N fp s2 H2 G.objs.size) fun cv x _ H'=>Ex cv x σ H')
 obtain ⟨hg,ht,he⟩:=hb σ (scope.names.foldl (aS X.env) []) fp s2 H2 G.objs.size
 have fp0:∀ b∈fp,upd H2 s2.heap.objs.size (.lst []) b=none:=fun b hb=>by rw [au (Nat.ne_of_lt (HQ b hb))];exact (f2 b hb).1
 have hex':∀ x c,(scope.names.foldl (aS X.env) []).lookup x=some c->X.env.cells.lookup x=some c:=fun x c e=>by
  rcases oZ scope.names [] (x,c) hex (PySem.mem_of_lookup e) with q | q
  ·cases q
  ·exact q
 have stat:∀ {H':Hp},(∀ b∈fp,H' b=none)->∀ b∈fp,lZ (eZ X scope (scope.names.foldl (aS X.env) []) N fp s2 H2 G.objs.size (fun cv x H'=>Ex cv x σ H')) [] H' b:=fun {H'} hn b hb =>
  ⟨hn b hb,Nat.ne_of_lt (Nat.lt_trans (HQ b hb) (by rw [hC];exact Nat.lt_succ_self _)),fun z=>(List.mem_cons.mp (I2.fh b z)).elim (f2 b hb).2.1 (f2 b hb).2.2.1,.inl hb,fun x c e=>(f2 b hb).2.2.2.2.1 x c (hex' x c e),fun p hp=>absurd (show p∈([]:List (Addr×Obj)) from hp) (by simp)⟩
 have loop:∀ s3:Shared,s3={ s2 with heap:=h₁,toks:=s2.toks+([]:List (Str×Value)).length }->codeAny (model X.prog X.w) X.A (.compLoop (.ListComp elt [⟨tg,iter,ifs,0⟩] scope pos) 0 (.ref it) (.ref s2.heap.objs.size) (compEnvC scope (scope.names.foldl (aS X.env) []) G.objs.size X.env))
   (compPost (model X.prog X.w) X.A X.xe use Q' (.ref s2.heap.objs.size) G.objs.size) s3:=by
  rintro s3 rfl
  refine gK (fun n s'=>∃ i σ' H',Inv (eZ X scope (scope.names.foldl (aS X.env) []) N fp s2 H2 G.objs.size (fun cv x H'=>Ex cv x σ H')) [] σ' H' s'/\tn i s'.heap/\(∀ b∈fp,H' b=none)/\W i n σ' H') (ja (ER X scope (scope.names.foldl (aS X.env) []) N fp s2 H2 G.objs.size) fun cv x _ H'=>Ex cv x σ H') ?hE ?_ m0 ⟨0,_,_,I0,st1,fp0,w0⟩
  case hE =>
   rintro e s3 ⟨pins3,σ3,H3,a,a0,cv,B,rfl,I3,up,fZ,_,q⟩
   obtain ⟨lN,nT,L,hst,HR,Nm⟩:=hfr
   show wpAny (model X.prog X.w) X.A (noteFrame (.ref a) _) _ _ s3
   rw [nW (env:=compEnvC scope (scope.names.foldl (aS X.env) []) G.objs.size X.env) (env':=lN) (Nm.trans HR.symm)]
   have up':Up B (lN::nT) a cv a0 s3.heap:=by rw [<- hst];exact up
   refine up'.note (by rw [I.ok.frames,hst]) HR fun h4 held xU=>?_
   obtain ⟨m,hm,_⟩:=id I3.loc
   have hcC:G.objs.size∉frs X.stack:=fun z=>by
    rcases List.mem_cons.mp (I2.fh _ z) with e | z
    ·have z:=I2.lt
     rw [<- e,hC] at z
     exact absurd z (Nat.not_lt.mpr (Nat.le_succ _))
    ·exact I2.KS (by rw [hC];exact Nat.le_succ _) z
   refine ⟨m,xU.ns hm,fun h5 sb5 cenv _=>?_⟩
   have Nl:=xU.ns hm
   have upH:Up B X.stack a cv a0 h4:=by rw [hst];exact .uG held
   have EZ:=upH.hide sb5 (by
    obtain ⟨o,es,ep,ho,hd,_⟩:=Nl
    exact ⟨o,ho,fun vs z=>by rw [hd] at z;cases z⟩) hcC
   refine EZ.pass fun h6 up6 sm6=>hx _ _ ?_
   have jX:(B.hide G.objs.size).StaysIn s3.heap:=fun b o e=>up.1 b o (Heap.of_hide e)
   have Dj:Calm (B.hide G.objs.size) (frs X.stack) fp H3 s2.heap:=fun b hb hf=>by
    obtain ⟨o,e⟩:=fZ b hb hf
    refine ⟨o,?_⟩
    rw [Heap.hide_ne]
    ·exact e
    ·rintro rfl
     rcases hb with hb | ⟨⟨o',hb⟩,_⟩
     ·exact hb I3.free
     ·have z:=Heap.lt_size hb
      rw [hC] at z
      exact absurd z (Nat.not_lt.mpr (Nat.le_succ _))
   have fru:∀ b∈frs X.stack,∀ o,s3.heap.get? b=some o->∃ sl,h6.get? b=some { o with slots:=sl }:=fun b hb o e=>by
    have hd:=qy I3 b hb o e
    obtain ⟨sl,e4⟩:=xU b o e hd
    have e5:h5.get? b=some { o with slots:=sl }:=by rw [sb5.2 b (by rintro rfl;exact hcC hb)];exact e4
    obtain ⟨DX,e6⟩:=sm6 b _ e5 hd
    exact ⟨DX,e6⟩
   have un6:=ow I3.base Dj jX up6.1 fru (fun b hb _=>hb)
   have hok6:=ki I3.hok Dj jX up6.1 I3.gx
   have J:=I2.As (s':={ s3 with heap:=h6 }) I3.os un6 hok6 I3.bare fun b hb=>⟨(f2 b hb).2.2.2.1,(f2 b hb).2.1,(f2 b hb).2.2.2.2.1,(f2 b hb).2.2.2.2.2⟩
   have calX:Calm (B.hide G.objs.size) (frs X.stack) X.ex H3 X.s₀.heap:=by
    intro b hb hf
    refine Dj b ?_ hf
    rcases hb with hb | ⟨⟨o,z⟩,nx⟩
    ·exact .inl hb
    ·refine .inr ⟨gz I2 z nx,fun zf=>?_⟩
     rcases (f2 b zf).2.2.2.1 with y | y
     ·exact nx y
     ·exact absurd (Nat.lt_of_lt_of_le (Heap.lt_size z) y) (Nat.lt_irrefl _)
   have pnX:∀ p∈X.pn,(B.hide G.objs.size).get? p.1=some p.2:=by
    intro p hp
    obtain ⟨p1,p2,p3,p4,_⟩:=I2.pin p (List.mem_append_left _ hp)
    have pf:p.1∉fp:=fun z=>(f2 _ z).2.2.2.2.2 p (List.mem_append_left _ hp) rfl
    have ps:p.1∉frs X.stack:=fun z=>by
     rcases List.mem_cons.mp (I2.fh _ z) with e | z
     ·exact p3 e
     ·exact p4 z
    exact Dj.at jX (I3.base.keep p.1 p.2 p1 p2 ps pf) (.inr ⟨⟨_,p1⟩,pf⟩) ps
   exact ⟨pins,σ,H3,a,a0,cv,B.hide G.objs.size,rfl,J,up6,calX,pnX,q⟩
  rintro n s3 ⟨i,σ3,H3,I3,st3,Ly,w3⟩
  rcases turn i n σ3 H3 w3 with ⟨stop,qn⟩ | ⟨go,step⟩
  ·refine bz (T.done (eZ X scope (scope.names.foldl (aS X.env) []) N fp s2 H2 G.objs.size (fun cv x H'=>Ex cv x σ H')) rfl rfl rfl hc i [] s3 σ3 H3 _ I3 (stat Ly) st3 stop) fun r s4 ⟨hr,I4⟩=>?_
   subst hr
   refine fin s4 _ _ H3 _ (I2.As I4.os I4.base I4.hok I4.bare fun b hb=>⟨(f2 b hb).2.2.2.1,(f2 b hb).2.1,(f2 b hb).2.2.2.2.1,(f2 b hb).2.2.2.2.2⟩) (I2.wL (by rw [hC];exact Nat.le_succ _) I4.free) ?_ qn
   obtain ⟨m,hm,_⟩:=I4.loc
   exact ⟨m,hm⟩
  ·refine bz (T.item (eZ X scope (scope.names.foldl (aS X.env) []) N fp s2 H2 G.objs.size (fun cv x H'=>Ex cv x σ H')) rfl rfl rfl hc i [] s3 σ3 H3 _ I3 (stat Ly) st3 go) fun r s4 ⟨u,hr,h4⟩=>?_
   subst hr
   refine bz h4 fun _ s5 ⟨x,H5,I5,r5,y5,Fd,fr5⟩=>?_
   have I5':=I5.pinned (stat fr5) (T.obj _ _ Fd)
   refine bz (hg _ s5 σ3 H5 x u _ I5' r5 (step x H5 y5)) fun _ s6 ⟨σ6,H6,I6,q6⟩=>?_
   refine bz (ht _ s6 σ6 H6 _ I6 q6) fun ok s7 ⟨H7,I7,q7⟩=>?_
   have again:∀ {σ8:St} {H8:Hp} {s8:Shared} {m':Nat},Inv (eZ X scope (scope.names.foldl (aS X.env) []) N fp s2 H2 G.objs.size (fun cv x H'=>Ex cv x σ H')) ([]++kP fp s5.heap) σ8 H8 s8->m'<n->W (i+1) m' σ8 H8 ->
     ∃ m,m<n/\∃ i σ' H',Inv (eZ X scope (scope.names.foldl (aS X.env) []) N fp s2 H2 G.objs.size (fun cv x H'=>Ex cv x σ H')) [] σ' H' s8/\tn i s8.heap/\(∀ b∈fp,H' b=none)/\W i m σ' H':=fun {σ8 H8 s8 m'} I8 hm w8=>by
    refine ⟨m',hm,i+1,σ8,H8,I8.iE,T.keep _ _ _ Fd fun b hb o e=>(I8.pin (b,o) (List.mem_append_right _ (List.mem_append_right _ (fq hb e)))).1,fun b hb=>?_,w8⟩
    obtain ⟨o,e,d⟩:=T.obj _ _ Fd b hb
    exact (I8.pin (b,o) (List.mem_append_right _ (List.mem_append_right _ (fq hb e)))).2.1
   cases ok with
   | false =>
    rw [if_neg Bool.false_ne_true] at q7 ⊢
    obtain ⟨m',hm,w7⟩:=q7
    exact again I7 hm w7
   | true =>
    rw [if_pos rfl] at q7 ⊢
    refine bz (he _ s7 σ6 H7 _ I7 q7) fun xv s8 ⟨v,H8,I8,r8,ys,hy,hz,m',hm,w8⟩=>?_
    refine bz (m7 (X:=(eZ X scope (scope.names.foldl (aS X.env) []) N fp s2 H2 G.objs.size (fun cv x H'=>Ex cv x σ H'))) _ s8 σ6 H8 (.ref s2.heap.objs.size) [v] (.ref s2.heap.objs.size) [xv] (fun _ H'=>H'=upd H8 s2.heap.objs.size (.lst (ys++[v]))) I8 rfl (.cons r8 .nil) ⟨_,ys,v,rfl,rfl,hy,hz,rfl⟩) fun a s9 ⟨_,H9,I9,_,e9⟩=>?_
    subst e9
    exact again I9 hm w8
 exact codeAny_compStart_list (loop _ rfl) (T.self X.A 0 _ _ _ st1 (loop _ rfl))
theorem BZ (hc:X.calm=true) (S:iC X scope N cp n) (hi:PI X tg iter wi)
  (hfr:qW X) (hx:∀ e s,ja X Ex e s->X.xe e s) (hb:∀ σ cl fp s H C,PG (eZ X scope cl N fp s H C fun cv x H'=>Ex cv x σ H') tg g/\Jv (eZ X scope cl N fp s H C fun cv x H'=>Ex cv x σ H') ifs (tc σ)/\PE (eZ X scope cl N fp s H C fun cv x H'=>Ex cv x σ H') elt (te σ)) (hs:∀ x,foldedSetIterable iter X.env x=pure x) :
  PE X (.ListComp elt [⟨tg,iter,ifs,0⟩] scope pos) (tX wi g tc te cp n):=by
 intro pins s σ H Q I h
 rw [eval_ListComp]
 refine ny (use:=none) hc S hi hfr hx hb hs I h fun s' C D H' f I' fC ⟨m,hm⟩ q=>⟨m,hm,fun h' hs'=>?_⟩
 exact ⟨.ref D,H',I'.turned (fun b o hb e=>(hs'.2 b hb).trans e) fC.1 fC.2.1 fC.2.2.2.1 fC.2.2.2.2.1 fC.2.2.2.2.2,rfl,q⟩
theorem BP {i:Nat} {y:Str} {py spos:Pos} (hN:X.N.Nodup) (hy:X.N[i]? = some y) (hk:X.env.scope.names.lookup y=some .local) (hc:X.calm=true) (S:iC X scope N cp n) (hi:PI X tg iter wi)
  (hfr:qW X) (hx:∀ e s,ja X Ex e s->X.xe e s) (hb:∀ σ cl fp s H C,PG (eZ X scope cl N fp s H C fun cv x H'=>Ex cv x σ H') tg g/\Jv (eZ X scope cl N fp s H C fun cv x H'=>Ex cv x σ H') ifs (tc σ)/\PE (eZ X scope cl N fp s H C fun cv x H'=>Ex cv x σ H') elt (te σ)) (hs:∀ x,foldedSetIterable iter X.env x=pure x)
  (hsw:swapsWith (.ListComp elt [⟨tg,iter,ifs,0⟩] scope pos) (some (.Name y py)) spos.line X.env=pure true) :
  PS X (.Assign [.Name y py] (.ListComp elt [⟨tg,iter,ifs,0⟩] scope pos) spos) (xK (tX wi g tc te cp n) (lD i)):=by
 intro pins s σ H Dn I h
 rw [exec_Assign_Name_used _ _ _ _ hsw]
 refine wpAny_bind (wpAny_standAt (wpAny_bind ?_))
 show wpAny _ X.A (do let _ <- comprehension (.ListComp elt [⟨tg,iter,ifs,0⟩] scope pos) scope X.env _ (newList []) false (eval iter X.env) (some (assign (.Name y py) X.env))) _ _ s
 refine wpAny_bind (wpAny_mono (ny (use:=some (assign (.Name y py) X.env)) (Q':=fun _ s'=>SP X pins Dn .next s') hc S hi hfr hx hb hs I h fun s' C D H' f I' fC ⟨m,hm⟩ q=>?_) (fun _ s' hq=>wpAny_pure (wpAny_pure hq)) fun _ _ e=>e)
 show wpAny _ X.A (assign (.Name y py) X.env (.ref D)) _ _ s'
 refine wpAny_assign_Name (mP I' hN hy (.inl hk) (v:=.ref D) rfl (fun s2 I2 ⟨a,hsb,ha⟩=>?_) (.inr hk))
 have hCa:C≠a:=by
  rcases ha with rfl | ha
  ·exact fC.2.1
  ·exact fun z=>fC.2.2.2.2.1 _ _ ha z.symm
 refine ⟨m,hm.sameBut hsb hCa,fun h' hs'=>⟨_,H',I2.turned (fun b o hb e=>(hs'.2 b hb).trans e) fC.1 fC.2.1 fC.2.2.2.1 fC.2.2.2.2.1 fC.2.2.2.2.2,q⟩⟩
end
end Fg
end
section
namespace Fg
open PySem L2
noncomputable def MC (a:Addr) (o:Obj) (kvs:List (Key×V)):It :=
 ⟨fun i H=>H a=some (.gA o (.dK kvs))/\i<kvs.length,fun i H x H'=>H'=H/\∃ kv,kvs[i]? = some kv/\x=kV kv.1,fun i H=>H a=some (.gA o (.dK kvs))/\kvs.length<=i⟩
noncomputable def Ln (B:Bd) (th:Addr->Prop) (tl:TE):TI:=fun σ H R=>tl σ H fun x H1 =>
 (∃ a,x=.ref a/\(∃ xs,gb B.K H1 a xs)/\R (Itl B.K a) H1)\/(∃ a,x=.ref a/\(∃ xs,jD B.K H1 a xs)/\R (Itt B.K a) H1) \/
 (∃ a kvs,x=.ref a/\H1 a=some (.dK kvs)/\∀ o,th a->R (MC a o kvs) (upd H1 a (.gA o (.dK kvs)))) \/
 (∃ a o kvs,x=.ref a/\H1 a=some (.gA o (.dK kvs))/\R (MC a o kvs) H1)
section
variable {B:Bd} {Φ:aY} {E:Gx} {F F' F0 F1:Addr->Prop} {ρ ρ' ρ0 ρ1:List Addr} {H H' H0 H1:Hp} {M M' M0:MH} {σD:Sg} {σ:L2.St} {Q:VK} {Dn:Ends}
theorem mG {a:Addr} {src:D} {ds:List D} (h:∀ F ρ M H,Ext F0 ρ0 H0 F ρ H->SR B F ρ M H->bq M0 src M=true->∃ vs,gb B.K H a vs/\ak B F ρ H ds vs):Walks B (Itl B.K a) src ds F0 ρ0 M0 H0:=by
 intro i F ρ M H e S st
 obtain ⟨vs,q,rd⟩:=h F ρ M H e S st
 refine ⟨fun d hd=>?_,fun hl=>⟨vs,q,by rw [<- ak.length rd];exact hl⟩⟩
 obtain ⟨v,hv,rv⟩:=ak.get rd hd
 refine ⟨⟨vs,v,q,hv⟩,fun x H' ⟨e',hy⟩=>?_⟩
 subst e'
 have z:=hy vs q
 rw [hv] at z;cases z
 exact ⟨F,S.refl,S,rv⟩
theorem vH {a:Addr} {src:D} {ds:List D} (h:∀ F ρ M H,Ext F0 ρ0 H0 F ρ H->SR B F ρ M H->bq M0 src M=true->∃ vs,jD B.K H a vs/\ak B F ρ H ds vs):Walks B (Itt B.K a) src ds F0 ρ0 M0 H0:=by
 intro i F ρ M H e S st
 obtain ⟨vs,q,rd⟩:=h F ρ M H e S st
 refine ⟨fun d hd=>?_,fun hl=>⟨vs,q,by rw [<- ak.length rd];exact hl⟩⟩
 obtain ⟨v,hv,rv⟩:=ak.get rd hd
 refine ⟨⟨vs,v,q,hv⟩,fun x H' ⟨e',hy⟩=>?_⟩
 subst e'
 have z:=hy vs q
 rw [hv] at z;cases z
 exact ⟨F,S.refl,S,rv⟩
theorem GZ {k:Key}:RD B F ρ H (Na k) (kV k):=by cases k <;> simp only [Na,kV,RD]
theorem mH {a:Addr} {o:Obj} {src:D} {eG:List (Ky×D)} {kws:List (Key×V)} (hz:H0 a=some (.gA o (.dK kws))) (hk:kws.map (·.1)=eG.map (·.1)):Walks B (MC a o kws) src (eG.map fun kv=>Na kv.1) F0 ρ0 M0 H0:=by
 intro i F ρ M H e S st
 have hl:kws.length=eG.length:=by have:=congrArg List.length hk;simpa using this
 have hH:=e.z a o _ hz
 refine ⟨fun d hd=>?_,fun hi=>⟨hH,by rw [hl];simpa using hi⟩⟩
 rw [List.getElem?_map] at hd
 cases hx:eG[i]? with
 | none=>rw [hx] at hd;cases hd
 | some kd =>
  rw [hx] at hd
  simp only [Option.map_some,Option.some.injEq] at hd
  subst hd
  obtain ⟨hi,_⟩:=List.getElem?_eq_some_iff.mp hx
  refine ⟨⟨hH,by rw [hl];exact hi⟩,fun x H' ⟨e',kw,hkw,hx'⟩=>?_⟩
  subst e' hx'
  have e1:(kws.map (·.1))[i]? = some kw.1:=by rw [List.getElem?_map,hkw];rfl
  rw [hk,List.getElem?_map,hx] at e1
  simp only [Option.map_some,Option.some.injEq] at e1
  rw [<- e1]
  exact ⟨F,S.refl,S,GZ⟩
theorem Ft {a:Fg.E} {Rr:It->Hp->Prop} (h:EU B Φ E (.e a) σ H Rr):Ln B E.th (T B Φ E a) σ H Rr:=by
 obtain ⟨σD,M,F,ρ,S,r,h⟩:=h
 refine ⟨σD,M,F,ρ,S,r,?_⟩
 cases hx:ev Φ a σD M with
 | exc c M1 =>
  have he:bO Φ (.e a) σD M=.exc c M1:=by simp only [bO,hx,R.lV]
  rw [he] at h;exact h
 | bad =>
  have he:bO Φ (.e a) σD M=.bad:=by simp only [bO,hx,R.i7]
  rw [he] at h;exact h
 | ok d M1 =>
  intro F1 ρ1 H1 v e1 S1 rd
  cases hi:itemsOf M1 d with
  | none =>
   have he:bO Φ (.e a) σD M=.bad:=by simp only [bO,hx,R.af,hi]
   rw [he] at h;exact h.elim
  | some ds =>
   have he:bO Φ (.e a) σD M=.ok (d,ds,wk M1 d) (walk M1 d):=by simp only [bO,hx,R.af,hi]
   rw [he] at h
   cases d with
   | ai=>simp [itemsOf,vw] at hi
   | bl _=>simp [itemsOf,vw] at hi
   | int _=>simp [itemsOf,vw] at hi
   | str _=>simp [itemsOf] at hi
   | dct _ _=>simp [itemsOf] at hi
   | lst xs =>
    simp only [itemsOf,vw,Option.some.injEq] at hi;subst hi
    simp only [RD] at rd
    obtain ⟨b,vs,rfl,z,q⟩:=id rd
    refine .inl ⟨b,rfl,⟨vs,z.sq⟩,h F1 ρ1 H1 _ e1 S1 fun M' eq S'=>⟨?_,fun z=>by simp [wk] at z⟩⟩
    refine mG fun F ρ M H e S st=>?_
    have J9:=RD.mono e (.lst xs) (.ref b) (by simp only [RD];exact rd)
    simp only [RD] at J9
    obtain ⟨b',vs',eb,z',q'⟩:=J9
    cases eb
    exact ⟨vs',z'.sq,q'⟩
   | tup xs =>
    simp only [itemsOf,vw,Option.some.injEq] at hi;subst hi
    simp only [RD] at rd
    obtain ⟨b,vs,rfl,z,q⟩:=id rd
    refine .inr (.inl ⟨b,rfl,⟨vs,z.sq⟩,h F1 ρ1 H1 _ e1 S1 fun M' eq S'=>⟨?_,fun z=>by simp [wk] at z⟩⟩)
    refine vH fun F ρ M H e S st=>?_
    have J9:=RD.mono e (.tup xs) (.ref b) (by simp only [RD];exact rd)
    simp only [RD] at J9
    obtain ⟨b',vs',eb,z',q'⟩:=J9
    cases eb
    exact ⟨vs',z'.sq,q'⟩
   | ref n =>
    simp only [RD] at rd
    obtain ⟨b,hb,rfl⟩:=rd
    cases hM:M1[n]? with
    | none=>simp [itemsOf,vw,hM] at hi
    | some o =>
     cases o with
     | ins _ _=>simp [itemsOf,vw,hM] at hi
     | lst xs =>
      simp only [itemsOf,vw,hM,Option.some.injEq] at hi;subst hi
      have hw:walk M1 (.ref n)=M1:=by simp only [walk,hM]
      have hk:wk M1 (.ref n)=false:=by simp only [wk,hM]
      rw [hw,hk] at h
      obtain ⟨vs,h1,q⟩:=S1.obj n b _ hb hM
      refine .inl ⟨b,rfl,⟨vs,.inl (.inl h1)⟩,h F1 ρ1 H1 _ e1 S1 fun M' eq S'=>⟨?_,fun z=>by simp at z⟩⟩
      injection eq with eq1 eq2
      subst eq2
      refine mG fun F ρ M H e S st=>?_
      simp only [bq,decide_eq_true_eq] at st
      obtain ⟨vs',h1',q'⟩:=S.obj n b _ (e.at hb) (st.trans hM)
      exact ⟨vs',.inl (.inl h1'),q'⟩
     | dct eG =>
      simp only [itemsOf,vw,hM,Option.some.injEq] at hi;subst hi
      have hw:walk M1 (.ref n)=M1.set n (.pD eG):=by simp only [walk,hM]
      have hk:wk M1 (.ref n)=true:=by simp only [wk,hM]
      rw [hw,hk] at h
      obtain ⟨kws,h1,h2,q⟩:=S1.obj n b _ hb hM
      refine .inr (.inr (.inl ⟨b,kws,rfl,h1,fun ob hth=>?_⟩))
      obtain ⟨S2,e2⟩:=S1.wk ob hb hM h1
      refine h F1 ρ1 _ _ (e1.trans e2) S2 fun M' eq S'=>⟨mH aD h2,fun _=>⟨n,b,rfl,hb,hth,fun w v z=>?_⟩⟩
      have:=e1.z b w v z
      rw [h1] at this;cases this
     | pD eG =>
      simp only [itemsOf,vw,hM,Option.some.injEq] at hi;subst hi
      have hw:walk M1 (.ref n)=M1:=by simp only [walk,hM]
      have hk:wk M1 (.ref n)=false:=by simp only [wk,hM]
      rw [hw,hk] at h
      obtain ⟨ob,kws,h1,h2,q⟩:=S1.obj n b _ hb hM
      exact .inr (.inr (.inr ⟨b,ob,kws,rfl,h1,h F1 ρ1 H1 _ e1 S1 fun M' eq S'=>⟨mH h1 h2,fun z=>by simp at z⟩⟩))
theorem vI {lo:Int} {n:Nat} {src:D}:Walks B (NR lo n) src ((List.range n).map fun (i:Nat)=>D.int (lo+(i:Int))) F0 ρ0 M0 H0:=by
 intro i F ρ M H e S st
 refine ⟨fun d hd=>?_,fun hi=>(show n<=i by simpa using hi)⟩
 have hi:i<n:=by
  obtain ⟨q,_⟩:=List.getElem?_eq_some_iff.mp hd
  simpa using q
 refine ⟨hi,fun x H' ⟨e',hx⟩=>?_⟩
 subst e' hx
 simp [hi] at hd
 subst hd
 exact ⟨F,S.refl,S,by simp only [RD]⟩
theorem KQ {j:Int} (h:mZ j=true):-(2 ^ 62)<=j/\j<2 ^ 62:=by
 simp only [mZ,decide_eq_true_eq] at h;omega
theorem Bh {a:Fg.E} {Rr:It->Hp->Prop} (h:EU B Φ E (.eF a) σ H Rr):Ep (fL (T B Φ E a) jW) σ H Rr:=by
 obtain ⟨σD,M,F,ρ,S,r,h⟩:=h
 refine ⟨σD,M,F,ρ,S,r,?_⟩
 cases hx:ev Φ a σD M with
 | exc c M1 =>
  have he:bO Φ (.eF a) σD M=.exc c M1:=by simp only [bO,hx,R.lV]
  rw [he] at h;exact h
 | bad =>
  have he:bO Φ (.eF a) σD M=.bad:=by simp only [bO,hx,R.i7]
  rw [he] at h;exact h
 | ok d M1 =>
  intro F1 ρ1 H1 v e1 S1 rd
  cases d with
  | int j =>
   simp only [RD] at rd;subst rd
   cases hr:mZ j with
   | false =>
    have he:bO Φ (.eF a) σD M=.bad:=by simp [bO,hx,hr]
    rw [he] at h;exact h.elim
   | true =>
    have he:bO Φ (.eF a) σD M=.ok (.ai,eK 0 j,false) M1:=by simp [bO,hx,hr]
    rw [he] at h
    obtain ⟨b1,b2⟩:=KQ hr
    refine ⟨j,rfl,b1,b2,h F1 ρ1 H1 _ e1 S1 fun M' eq S'=>⟨?_,fun z=>by simp at z⟩⟩
    have q:eK 0 j=(List.range j.toNat).map fun (i:Nat)=>D.int (0+(i:Int)):=by simp [eK]
    dsimp only
    rw [q]
    exact vI
  | ai =>
   have he:bO Φ (.eF a) σD M=.bad:=by simp [bO,hx]
   rw [he] at h;exact h.elim
  | bl _ =>
   have he:bO Φ (.eF a) σD M=.bad:=by simp [bO,hx]
   rw [he] at h;exact h.elim
  | str _ =>
   have he:bO Φ (.eF a) σD M=.bad:=by simp [bO,hx]
   rw [he] at h;exact h.elim
  | tup _ =>
   have he:bO Φ (.eF a) σD M=.bad:=by simp [bO,hx]
   rw [he] at h;exact h.elim
  | lst _ =>
   have he:bO Φ (.eF a) σD M=.bad:=by simp [bO,hx]
   rw [he] at h;exact h.elim
  | dct _ _ =>
   have he:bO Φ (.eF a) σD M=.bad:=by simp [bO,hx]
   rw [he] at h;exact h.elim
  | ref _ =>
   have he:bO Φ (.eF a) σD M=.bad:=by simp [bO,hx]
   rw [he] at h;exact h.elim
end
end Fg
end
section
namespace Fg
open PySem L2
noncomputable def EB (E:Gx) (σ:L2.St):Gx:=⟨fun cv x _ H=>E.e cv x σ H,fun _=>False,fun cv x _ H H' t h=>by
 rcases t with rfl | ⟨_,_,_,z,_⟩
 ·exact h
 ·exact z.elim⟩
noncomputable def TBo (B:Bd) (Φ:aY) (E:Gx):O->TT
 | .none=>fun _ H Q=>Q true H
 | .some e=>TB B Φ E e
section
variable {B:Bd} {Φ:aY} {E:Gx} {F F' F0 F1:Addr->Prop} {ρ ρ' ρ0 ρ1:List Addr} {H H' H0 H1:Hp} {M M' M0:MH} {σD:Sg} {σ:L2.St} {Q:VK} {Dn:Ends}
theorem Ext.fresh (S:SR B F ρ M H) {p:Addr} (h:H p=none) (o:HO):Ext F ρ H F ρ (upd H p o) :=
 ⟨⟨S.sep,fun _ q=>q,fun a q _=>au (by rintro rfl;exact q h),List.prefix_refl _,fun _ q=>.inl q,fun _ q=>.inl q⟩,fun b w u q=>by rw [au (by rintro rfl;rw [h] at q;cases q)];exact q⟩
theorem Ext.over (e:Ext F ρ H F' ρ' H') {p:Addr} (h:H p=none) (o:HO):Ext F ρ H F' ρ' (upd H' p o) :=
 ⟨⟨e.s,e.f,fun a q nb=>by rw [au (by rintro rfl;exact q h)];exact e.h a q nb,e.r,e.n,e.g⟩,fun b w u q=>by rw [au (by rintro rfl;rw [h] at q;cases q)];exact e.z b w u q⟩
theorem RS.cap (r:RS B F ρ H σD σ) (caps:List Nat) (n:Nat):RS B F ρ H (iz σD caps++List.replicate n none) (qQ caps n σ):=by
 refine ⟨by simp [iz,qQ],fun i d q=>?_⟩
 by_cases hi:i<caps.length
 ·have hc:caps[i]? = some caps[i]:=List.getElem?_eq_getElem hi
  rw [List.getElem?_append_left (by simpa [iz] using hi)] at q
  simp only [iz,List.getElem?_map,hc,Option.map_some,Option.some.injEq] at q
  cases hs:σD[caps[i]]? with
  | none=>rw [hs] at q;cases q
  | some o =>
   rw [hs] at q
   simp only [Option.join_some] at q
   subst q
   obtain ⟨v,h1,h2⟩:=r.get _ _ hs
   refine ⟨v,?_,h2⟩
   unfold qQ
   rw [List.getElem?_append_left (by simpa using hi),List.getElem?_map,hc]
   simp [h1]
 ·rw [List.getElem?_append_right (by simpa [iz] using Nat.le_of_not_lt hi),List.getElem?_replicate] at q
  split at q <;> cases q
theorem RS.bB (e:qY F ρ H F' ρ' H') (h:RS B F ρ H σD σ):RS B F' ρ' H' σD σ :=
 ⟨h.len,fun i d q=>let ⟨v,h1,h2⟩:=h.get i d q;⟨v,h1,RD.bB e d v h2⟩⟩
theorem pV {fz:Bool} {caps tg:List Nat} {elt:Fg.E} {it:Src} {cond:O} (h:T B Φ E (.comp fz caps tg elt it cond) σ H Q) :
  tX (EU B Φ E it) (Jq tg B.K) (fun σ=>TBo B Φ (EB E σ) cond) (fun σ=>T B Φ (EB E σ) elt) caps tg.length σ H (fun v H'=>∃ tP,AQ E.th H' tP/\Q v tP):=by
 obtain ⟨σD,M,F,ρ,S,r,h⟩:=h
 simp only [ev] at h
 refine ⟨σD,M,F,ρ,S,r,?_⟩
 cases hx:bO Φ it σD M with
 | exc c M1=>rw [hx] at h;exact h
 | bad=>rw [hx] at h;exact h
 | ok p M0 =>
  rw [hx] at h
  simp only [R.af] at h
  intro F0 ρ0 H0 J e0 S0 hw
  obtain ⟨W,wz⟩:=hw M0 rfl S0
  obtain ⟨src,ds,fl⟩:=p
  dsimp only at h W wz
  intro Da Nq
  obtain ⟨nD,nF⟩:=S0.new Nq
  have Np:H Da=none:=by
   cases q:H Da with
   | none=>rfl
   | some u =>
    exfalso
    by_cases hr:Da∈ρ
    ·exact nD (e0.r.subset hr)
    ·have:=e0.h Da (by rw [q];simp) hr
     rw [Nq,q] at this;cases this
  let loop:=fun (i:Nat) (σ':Sg) (M':MH) (acc:List D)=>((bL (nj Φ cond) (ev Φ elt) tg (bq M0 src) (ds.drop i) σ' M' acc).fin (fU fl src)).bind fun ds M2=>cF fz ds M2
  let WW:Nat->Nat->L2.St->Hp->Prop:=fun i m σ' H'=>m+i=ds.length/\∃ (Jx:Sg) (M1:MH) (F1:Addr->Prop) (ρ1:List Addr) (acc:List D) (vs:List V),Ext F ρ H F1 ρ1 H'/\Ext F0 ρ0 H0 F1 ρ1 H'/\SR B F1 ρ1 M1 H'/\RS B F1 ρ1 H' Jx σ'/\bq M0 src M1=true/\Da∉ρ1/\¬ F1 Da/\H' Da=some (.lst vs)/\ak B F1 ρ1 H' acc vs /\
   Post B (loop i Jx M1 acc) F ρ H Q (fun cv x H'=>E.e cv x σ H')
  have x0:=qY.side (ρ:=ρ0) (H:=H0) nF (.lst [])
  refine ⟨WW,⟨ds.length,by simp,_,M0,F0,ρ0,[],[],e0.over Np _,Ext.fresh S0 Nq _,S0.side nD nF _,((r.mono e0).cap caps tg.length).bB x0,?_,nD,nF,aD,ak.nil,h⟩,?_⟩
  ·unfold bq;split <;> simp
  rintro i m σ1 H1 ⟨hm,AU,M1,F1,ρ1,acc,vs,eo,e1,S1,r1,st1,d1,f1,Nr,ra,p1⟩
  obtain ⟨wgo,wst⟩:=W i F1 ρ1 M1 H1 e1 S1 st1
  by_cases hi:i<ds.length
  ·have hd:ds.drop i=ds[i]::ds.drop (i+1):=List.drop_eq_getElem_cons hi
   simp only [loop] at p1
   rw [hd] at p1
   unfold bL at p1
   obtain ⟨go,yl⟩:=wgo ds[i] (List.getElem?_eq_getElem hi)
   refine .inr ⟨go,fun x H2 hy=>?_⟩
   obtain ⟨F2,e2,S2,rd⟩:=yl x H2 hy
   have keep:∀ {F3:Addr->Prop} {ρ3:List Addr} {H3:Hp},Ext F1 ρ1 H1 F3 ρ3 H3->Da∉ρ3/\¬ F3 Da/\H3 Da=some (.lst vs)/\ak B F3 ρ3 H3 acc vs:=fun {F3 ρ3 H3} e=>by
    have hne:H1 Da≠none:=by rw [Nr];simp
    refine ⟨fun z=>(e.n Da z).elim d1 hne,fun z=>?_,(e.h Da hne d1).trans Nr,ak.mono e _ _ ra⟩
    rcases e.g Da z with q | q | q
    ·exact f1 q
    ·exact hne q
    ·exact d1 q
   split at p1
   ·exact p1.elim
   ·rename_i σ2 hs
    refine kH (r1.mono e2) rd hs fun σ' r'=>?_
    have L0:∀ {F3:Addr->Prop} {ρ3:List Addr} {H3:Hp} {M3:MH},Ext F1 ρ1 H1 F3 ρ3 H3->SR B F3 ρ3 M3 H3->RS B F3 ρ3 H3 σ2 σ' ->
      Post B ((((ev Φ elt σ2 M3).bind fun x M2=>if bq M0 src M2=true then (if decide (acc.length<line)=true then bL (nj Φ cond) (ev Φ elt) tg (bq M0 src) (ds.drop (i+1)) σ2 M2 (acc++[x]) else .bad) else .bad).fin (fU fl src)).bind fun ds M2=>cF fz ds M2) F ρ H Q (fun cv x H'=>E.e cv x σ H') ->
      T B Φ (EB E σ) elt σ' H3 fun v H5=>∃ ys,H5 Da=some (.lst ys)/\ys.length<sizeLine/\∃ m',m'<m/\WW (i+1) m' σ' (upd H5 Da (.lst (ys++[v]))):=by
     intro F3 ρ3 H3 M3 e3 S3 r3 p3
     refine ⟨σ2,M3,F3,ρ3,S3,r3,?_⟩
     cases hv:ev Φ elt σ2 M3 with
     | bad=>rw [hv] at p3;exact p3
     | exc c M4 =>
      rw [hv] at p3
      intro F4 ρ4 H4 cv x e4 S4 q4
      obtain ⟨H5,t5,S5,e5,x5⟩:=dz S4 ((eo.trans e3).trans e4) ((e1.trans e3).trans e4).r wz
      exact E.cl _ _ _ _ _ t5 (p3 F4 ρ4 H5 cv x e5 S5 q4)
     | ok d M4 =>
      rw [hv] at p3
      simp only [R.af] at p3
      intro F4 ρ4 H4 v e4 S4 q4
      split at p3
      ·rename_i hst
       split at p3
       ·rename_i hlt
        obtain ⟨k1,k2,k3,k4⟩:=keep (e3.trans e4)
        have hl4:=ak.length k4
        have x4:=qY.side (ρ:=ρ4) (H:=H4) k2 (.lst (vs++[v]))
        refine ⟨vs,k3,by rw [<- hl4];exact Nat.lt_of_lt_of_le (of_decide_eq_true hlt) bN,m-1,by omega,by omega,σ2,M4,F4,ρ4,acc++[d],vs++[v],((eo.trans e3).trans e4).over Np _,((e1.trans e3).trans e4).over Nq _,S4.side k1 k2 _,((r3.mono e4)).bB x4,hst,k1,k2,aD,ak.bB x4 _ _ (k4.append (ak.cons q4 ak.nil)),p3⟩
       ·exact p3.elim
      ·exact p3.elim
    cases cond with
    | none =>
     have hc:nj Φ .none σ2 M1=.ok (.bl true) M1:=by simp only [nj]
     rw [hc] at p1
     simp only [R.af] at p1
     unfold TBo
     dsimp only
     rw [if_pos rfl]
     exact L0 e2 S2 r' p1
    | some c =>
     have hc0:nj Φ (.some c) σ2 M1=ev Φ c σ2 M1:=by simp only [nj]
     rw [hc0] at p1
     refine ⟨σ2,M1,F2,ρ1,S2,r',?_⟩
     cases hc:ev Φ c σ2 M1 with
     | bad=>rw [hc] at p1;exact p1
     | exc k M4 =>
      rw [hc] at p1
      intro F4 ρ4 H4 cv x e4 S4 q4
      obtain ⟨H5,t5,S5,e5,x5⟩:=dz S4 ((eo.trans e2).trans e4) ((e1.trans e2).trans e4).r wz
      exact E.cl _ _ _ _ _ t5 (p1 F4 ρ4 H5 cv x e5 S5 q4)
     | ok t M4 =>
      rw [hc] at p1
      simp only [R.af] at p1
      intro F4 ρ4 H4 v e4 S4 q4
      split at p1
      ·simp only [RD] at q4;subst q4
       refine ⟨true,rfl,?_⟩
       dsimp only
       rw [if_pos rfl]
       exact L0 (e2.trans e4) S4 (r'.mono e4) p1
      ·simp only [RD] at q4;subst q4
       refine ⟨false,rfl,?_⟩
       dsimp only
       rw [if_neg Bool.false_ne_true]
       split at p1
       ·rename_i hst
        obtain ⟨k1,k2,k3,k4⟩:=keep (e2.trans e4)
        exact ⟨m-1,by omega,by omega,σ2,M4,F4,ρ4,acc,vs,(eo.trans e2).trans e4,(e1.trans e2).trans e4,S4,r'.mono e4,hst,k1,k2,k3,k4,p1⟩
       ·exact p1.elim
      ·exact p1.elim
  ·have hd:ds.drop i=[]:=List.drop_eq_nil_of_le (Nat.le_of_not_lt hi)
   simp only [loop] at p1
   rw [hd] at p1
   unfold bL at p1
   obtain ⟨H4,t4,S4,e4,x4⟩:=dz S1 eo e1.r wz
   refine .inl ⟨wst (Nat.le_of_not_lt hi),H4,t4,?_⟩
   have p2:Post B (cF fz acc (fU fl src M1)) F ρ H Q (fun cv x H'=>E.e cv x σ H'):=p1
   have ra4:=ak.bJ x4 _ _ ra
   have hD4:H4 Da=some (.lst vs):=by
    have:=x4.h Da (by rw [Nr];simp) d1
    exact this.trans Nr
   cases fz with
   | true =>
    simp only [cF,if_true] at p2
    have xt:qY F1 ρ1 H4 (fun a=>F1 a\/a=Da) ρ1 H4:=⟨fun _ q=>.inl q,fun _ _ _=>rfl,List.prefix_refl _⟩
    refine p2 (fun a=>F1 a\/a=Da) ρ1 H4 (.ref Da) ⟨⟨e4.s,fun a q=>.inl (e4.f a q),e4.h,e4.r,e4.n,fun a q=>q.elim (e4.g a) fun z=>.inr (.inl (z ▸ Np))⟩,e4.z⟩ (S4.take d1 (by rw [hD4];simp)) ?_
    simp only [RD]
    exact ⟨Da,vs,rfl,.inl ⟨.inr rfl,.inl hD4⟩,ak.bB xt _ _ ra4⟩
   | false =>
    simp only [cF,Bool.false_eq_true,if_false] at p2
    have xt:qY F1 ρ1 H4 F1 (ρ1++[Da]) H4:=⟨fun _ q=>q,fun _ _ _=>rfl,List.prefix_append _ _⟩
    refine p2 F1 (ρ1++[Da]) H4 (.ref Da) ⟨⟨e4.s,e4.f,e4.h,e4.r.trans (List.prefix_append _ _),fun a q=>(List.mem_append.mp q).elim (e4.n a) fun z=>.inr (by rw [List.mem_singleton.mp z];exact Np),e4.g⟩,e4.z⟩ (S4.hold (u:=.lst acc) d1 f1 ⟨vs,hD4,ak.bB xt _ _ ra4⟩) ?_
    simp only [RD]
    refine ⟨Da,?_,rfl⟩
    rw [<- S4.len,List.getElem?_append_right (Nat.le_refl _),Nat.sub_self];rfl
end
end Fg
end
section
namespace Fg
open PySem L2
section
variable {B:Bd} {Φ:aY} {E:Gx} {F F' F0 F1:Addr->Prop} {ρ ρ' ρ0 ρ1:List Addr} {H H' H0 H1:Hp} {M M' M0:MH} {σD:Sg} {σ:L2.St} {Q:VK} {Dn:Ends}
theorem J1 {i:Nat} {v:V} (hg:∀ d,Φ.glob i=some d->∀ F ρ H,RD B F ρ H d v) (h:T B Φ E (.g i) σ H Q):tC v σ H Q:=by
 obtain ⟨σD,M,F,ρ,S,r,h⟩:=h
 simp only [ev] at h
 split at h
 ·rename_i d hd
  exact aj.run h S (hg d hd F ρ H)
 ·exact h.elim
noncomputable def xR (B:Bd) (Φ:aY) (f n:Nat):Sp:=fun vs H Q E=>vs.length=n/\∃ ds M F ρ,SR B F ρ M H/\ak B F ρ H ds vs/\Post B (Φ.call f ds M) F ρ H Q E
theorem pW {f n:Nat} {es:Es} (hn:∀ {σ:Sg} {M:MH} {ds:List D} {M':MH},cV Φ es σ M=.ok ds M'->ds.length=n) (h:T B Φ E (.call f es) σ H Q)  :rH (xR B Φ f n) E.e (TL B Φ E es) σ H Q:=by
 obtain ⟨σD,M,F,ρ,S,r,h⟩:=h
 simp only [ev] at h
 refine ⟨σD,M,F,ρ,S,r,?_⟩
 cases hx:cV Φ es σD M with
 | exc c M1=>rw [hx] at h;exact h
 | bad=>rw [hx] at h;exact h
 | ok ds M1 =>
  rw [hx] at h
  simp only [R.af] at h
  intro F1 ρ1 H1 vs e1 S1 q1
  exact ⟨by rw [<- ak.length q1];exact hn hx,ds,M1,F1,ρ1,S1,q1,aj.weak e1 h⟩
theorem vS {f n:Nat} {es:Es} {d:Int} (hn:∀ {σ:Sg} {M:MH} {ds:List D} {M':MH},cV Φ es σ M=.ok ds M'->ds.length+1=n) (h:T B Φ E (.gW f es d) σ H Q):xJ (xR B Φ f n) (.int d) E.e (TL B Φ E es) σ H Q:=by
 obtain ⟨σD,M,F,ρ,S,r,h⟩:=h
 simp only [ev] at h
 refine ⟨σD,M,F,ρ,S,r,?_⟩
 cases hx:cV Φ es σD M with
 | exc c M1=>rw [hx] at h;exact h
 | bad=>rw [hx] at h;exact h
 | ok ds M1 =>
  rw [hx] at h
  simp only [R.af] at h
  intro F1 ρ1 H1 vs e1 S1 q1
  exact ⟨by rw [List.length_append,<- ak.length q1];exact hn hx,ds++[.int d],M1,F1,ρ1,S1,q1.append (ak.cons (by simp only [RD]) ak.nil),aj.weak e1 h⟩
theorem E1 {x:D} {v:V} {t:Ty} (S:SR B F ρ M H) (rx:RD B F ρ H x v) (ho:yH M x=true):∃ T,DC B H v T/\tyB T t=HM M t x:=by
 cases x with
 | ai=>simp only [RD] at rx;subst rx;exact ⟨_,.ai,by cases t <;> rfl⟩
 | bl b=>simp only [RD] at rx;subst rx;exact ⟨_,.bl b,by cases t <;> rfl⟩
 | int i=>simp only [RD] at rx;subst rx;exact ⟨_,.int i,by cases t <;> rfl⟩
 | str x=>simp only [RD] at rx;subst rx;exact ⟨_,.str x,by cases t <;> rfl⟩
 | tup ds=>simp only [RD] at rx;obtain ⟨a,vs,rfl,z,_⟩:=rx;exact ⟨_,.tup z.sq,by cases t <;> rfl⟩
 | lst ds=>simp only [RD] at rx;obtain ⟨a,vs,rfl,z,_⟩:=rx;exact ⟨_,.lst z.sq,by cases t <;> rfl⟩
 | dct ks ds =>
  simp only [RD] at rx;obtain ⟨a,vs,rfl,z,_⟩:=rx
  refine ⟨_,.dct (kvs:=vs) ?_,by cases t <;> rfl⟩
  rcases z with ⟨_,z⟩ | z
  ·exact .inl z
  ·exact .inr z
 | ref n =>
  simp only [RD] at rx
  obtain ⟨a,h1,rfl⟩:=rx
  cases hM:M[n]? with
  | none=>simp [yH,hM] at ho
  | some o =>
   cases o with
   | lst ds=>obtain ⟨vs,h3,_⟩:=S.obj n a _ h1 hM;exact ⟨_,.lst (.inl (.inl h3)),by simp only [HM,hM];cases t <;> rfl⟩
   | dct kvs=>obtain ⟨kws,h3,_⟩:=S.obj n a _ h1 hM;exact ⟨_,.dct (.inl (.inl h3)),by simp only [HM,hM];cases t <;> rfl⟩
   | pD kvs=>obtain ⟨o,kws,h3,_⟩:=S.obj n a _ h1 hM;exact ⟨_,.dct (.inl (.inr ⟨o,h3⟩)),by simp only [HM,hM];cases t <;> rfl⟩
   | ins _ _=>simp [yH,hM] at ho
theorem Bt {a:Fg.E} {t:Ty} (h:T B Φ E (.fV a t) σ H Q):E7 (Km B) (fL (T B Φ E a) (fL (tC (.ty (pH t))) jW)) σ H Q:=by
 obtain ⟨σD,M,F,ρ,S,r,h⟩:=h
 simp only [ev] at h
 refine T.one S r rfl h fun x M1 F1 ρ1 H1 v e1 S1 r1 rx h1=>?_
 split at h1
 ·rename_i ho
  obtain ⟨T',ty,e⟩:=E1 (t:=t) S1 rx ho
  refine ⟨v,T',t,rfl,ty,?_⟩
  rw [e]
  exact aj.run h1 S1 (by simp only [RD])
 ·exact h1.elim
theorem rM {fz:Bool} {a:Fg.E} {es:Es} (h:T B Φ E (.aG .append fz a es) σ H Q):tBM B.K "list" nS (T B Φ E a) (TL B Φ E es) σ H Q:=by
 obtain ⟨σD,M,F,ρ,S,r,h⟩:=h
 simp only [ev] at h
 refine T.one S r rfl h fun x M1 F1 ρ1 H1 v e1 S1 r1 rx h1=>?_
 split at h1
 ·rename_i ho
  refine ⟨?_,TL.one S1 r1 rfl h1 fun ds M2 F2 ρ2 H2 vs e2 S2 r2 rds h2=>tM S2 (RD.mono e2 _ _ rx) rds h2⟩
  have h0:=((Bool.and_eq_true _ _).mp ho).1
  cases hl:gQ M1 x with
  | none=>rw [hl] at h0;cases h0
  | some p =>
   obtain ⟨rfl,hM⟩:=j9 hl
   simp only [RD] at rx
   obtain ⟨b,hb,rfl⟩:=rx
   obtain ⟨vs,h3,_⟩:=S1.obj p.1 b _ hb hM
   exact .inl ⟨rfl,vs,.inl (.inl h3)⟩
 ·exact h1.elim
noncomputable def D7 (x y v:V) (H:Hp) (Q:Hp->Prop):Prop:=D6 x y v H Q\/∃ a H4,x=.ref a/\tR H a y v H4/\Q H4
noncomputable def D0 (to ti tv:TE):TS:=fun D σ H=>tv σ H fun v H1=>to σ H1 fun x H2=>ti σ H2 fun y H3=>D7 x y v H3 fun H4=>D.nx σ H4
theorem BC {x y d:D} {v w u:V} (S:SR B F ρ M H) (rx:RD B F ρ H x v) (ry:RD B F ρ H y w) (rd:RD B F ρ H d u) {K:Hp->Prop} (h:∀ M',kI M x y d=.ok () M'->∀ H',Ext F ρ H F ρ H'->SR B F ρ M' H'->K H') (hb:∃ M',kI M x y d=.ok () M'):D7 v w u H K:=by
 obtain ⟨M',hb⟩:=hb
 have hK:=h M' hb
 unfold kI at hb
 split at hb
 ·rename_i n
  simp only [RD] at rx
  obtain ⟨a,h1,rfl⟩:=rx
  split at hb
  ·rename_i xs i hM
   split at hb
   ·rename_i j hj
    cases hb
    simp only [RD] at ry;subst ry
    obtain ⟨vs,h2,h3⟩:=S.obj n a _ h1 hM
    refine .inl ⟨a,vs,i,j,rfl,rfl,h2,by rw [<- ak.length h3,<- zB];exact hj,?_⟩
    obtain ⟨S',e⟩:=S.st (o:=.lst (vs.set j u)) (u:=.lst (xs.set j d)) h1 (fun _ _ q=>by rw [h2] at q;cases q) ⟨_,aD,ak.bJ (Ext0.at_ S h1) _ _ (h3.set j rd)⟩
    exact hK _ e S'
   ·cases hb
  ·rename_i kvs hM
   split at hb
   ·rename_i k hk
    split at hb
    ·rename_i hl
     cases hb
     obtain ⟨kws,h2,h3,h4⟩:=S.obj n a _ h1 hM
     have hlen:kws.length=kvs.length:=by have:=congrArg List.length h3;simpa using this
     rw [sC hk ry]
     refine .inr ⟨a,_,rfl,tR.k h2 (by rw [hlen];exact Nat.lt_of_lt_of_le (of_decide_eq_true hl) bN),?_⟩
     obtain ⟨p1,p2⟩:=FT (k:=k) rd h3 h4
     obtain ⟨S',e⟩:=S.st (o:=.dK (putK kws k u)) (u:=.dct (put kvs k d)) h1 (fun _ _ q=>by rw [h2] at q;cases q) ⟨_,aD,p1,ak.bJ (Ext0.at_ S h1) _ _ p2⟩
     exact hK _ e S'
    ·cases hb
   ·cases hb
  ·cases hb
 ·cases hb
theorem BE {x y d:D}:(∃ M',kI M x y d=.ok () M')\/kI M x y d=.bad:=by
 unfold kI
 split
 ·split
  ·split
   ·exact .inl ⟨_,rfl⟩
   ·exact .inr rfl
  ·split
   ·split
    ·exact .inl ⟨_,rfl⟩
    ·exact .inr rfl
   ·exact .inr rfl
  ·exact .inr rfl
 ·exact .inr rfl
theorem xX {a b e:Fg.E} (h:TC B Φ E (.mh a b e) Dn σ H):D0 (T B Φ E a) (T B Φ E b) (T B Φ E e) Dn σ H:=by
 obtain ⟨σD,M,F,ρ,S,r,h⟩:=h
 simp only [ex] at h
 refine TC.one S r h fun x M1 F1 ρ1 H1 v e1 S1 r1 rx h1=>?_
 refine TC.one S1 r1 h1 fun y M2 F2 ρ2 H2 w e2 S2 r2 ry h2=>?_
 refine TC.one S2 r2 h2 fun z M3 F3 ρ3 H3 u e3 S3 r3 rz h3=>?_
 have rx3:=RD.mono e3 _ _ (RD.mono e2 _ _ rx)
 have ry3:=RD.mono e3 _ _ ry
 rcases BE (M:=M3) (x:=y) (y:=z) (d:=x) with ⟨M',hb⟩ | hb
 ·refine BC S3 ry3 rz rx3 (fun M4 hq H4 e4 S4=>?_) ⟨M',hb⟩
  rw [hq] at h3
  exact h3 F3 ρ3 H4 e4 S4 σ (r3.mono e4)
 ·rw [hb] at h3;exact h3.elim
end
end Fg
end
section
namespace Fg
open PySem PySem.Spec L2
noncomputable def sQ:F1->V->Option V
 | .abs,.int i=>some (.int (if i<0 then -i else i))
 | .int,.bl b=>some (.int (if b then 1 else 0))
 | .int,.int i=>some (.int i)
 | _,_=>none
noncomputable def rF1 (f:F1):List V->Hp->VK->Prop:=fun xs H Q=>∃ x y,xs=[x]/\sQ f x=some y/\Q y H
section
variable {X:Cx}
theorem wX:dg X (.builtin "abs") (rF1 .abs):=by
 intro pins s σ H xs us Q I r h
 obtain ⟨x,y,rfl,hf,q⟩:=h
 obtain ⟨u,rfl,ru⟩:=vals1 r
 cases x with
 | int i =>
  simp only [sQ] at hf
  cases hf
  obtain ⟨t,rfl⟩:=(show ∃ t,u=Value.int i t from ru)
  exact PyProof.Rows.call_abs_int fun u tk=>⟨.int _,H,I.tok _,⟨_,rfl⟩,q⟩
 | _=>simp [sQ] at hf
theorem wW:dg X (.type "int") (rF1 .int):=by
 intro pins s σ H xs us Q I r h
 obtain ⟨x,y,rfl,hf,q⟩:=h
 obtain ⟨u,rfl,ru⟩:=vals1 r
 cases x with
 | int i =>
  simp only [sQ] at hf
  cases hf
  obtain ⟨t,rfl⟩:=(show ∃ t,u=Value.int i t from ru)
  exact call_int_int ⟨.int _,H,I,⟨_,rfl⟩,q⟩
 | bl b =>
  simp only [sQ] at hf
  cases hf
  cases ru
  exact call_int_bool ⟨.int _,H,I.tok _,⟨_,rfl⟩,q⟩
 | _=>simp [sQ] at hf
end
section
variable {B:Bd} {Φ:aY} {E:Gx} {F F' F0 F1:Addr->Prop} {ρ ρ' ρ0 ρ1:List Addr} {H H' H0 H1:Hp} {M M' M0:MH} {σD:Sg} {σ:L2.St} {Q:VK}
theorem HY {f:Fg.F1} {x d:D} {v:V} (h:wM f x=some d) (r:RD B F ρ H x v):∃ w,sQ f v=some w/\RD B F ρ H d w:=by
 cases x with
 | int i=>simp only [RD] at r;subst r;cases f <;> simp only [wM] at h <;> cases h <;> exact ⟨_,rfl,by simp only [RD]⟩
 | bl b=>simp only [RD] at r;subst r;cases f <;> simp only [wM] at h <;> cases h <;> exact ⟨_,rfl,by simp only [RD]⟩
 | _=>cases f <;> simp [wM] at h
theorem ud {f:Fg.F1} {a:Fg.E} (h:T B Φ E (.ou f a) σ H Q):E7 (rF1 f) (fL (T B Φ E a) jW) σ H Q:=by
 obtain ⟨σD,M,F,ρ,S,r,h⟩:=h
 simp only [ev] at h
 refine T.one S r rfl h fun x M1 F1 ρ1 H1 v e1 S1 r1 rx h1=>?_
 split at h1
 ·rename_i d hd
  obtain ⟨w,hw,rw'⟩:=HY hd rx
  exact ⟨v,w,rfl,hw,aj.run h1 S1 rw'⟩
 ·exact h1.elim
end
end Fg
end
section
namespace Fg
open PySem L2
section
variable {X:Cx}
theorem CV (l:Addr) (items:Array Value) (n:Nat) (b:Addr) (items2:Array Value) (n2:Nat) (dd2:Option Addr) (sl2:Array (Option Value)) (hs0:¬(!items.isEmpty&&Builtin.List.listTooLong (items.size+items2.size))=true) (hs1:items.size<=sizeLine) (hs2:items.size+items2.size<=sizeLine+1) :
  Meets (Builtin.«list.extend» ⟨[.ref l, .ref b], []⟩) (fun _ R s=>s.heap.get? l=some { cls:=.type "list", dict:=none, data:=.seq items n, slots:=#[] }/\s.heap.get? b=some { cls:=.type "tuple", dict:=dd2, data:=.seq items2 n2, slots:=sl2 }/\R (.ok (.ret Value.none)) { s with heap:=s.heap.update l (Obj.mapSeq fun x=>x++items2), toks:=s.toks }) :=
 .of_wp fun prog w A R s h=>by
  obtain ⟨hp,g,d,tk,os⟩:=s;obtain ⟨hl,hb,h⟩:=h;have f1:=AutoSeq1.idx_int;have f2:=AutoSeq1.sub_tuple_tuple;have f3:=AutoSeq1.sub_list_list;have f4:=AutoSeq1.sub_tuple_list;have f5:=AutoSeq1.sub_list_tuple
  have hz':(items++items2).size<=sizeLine+1:=by rw [Array.size_append];exact hs2
  wp_walk using (wpAny_updateSeq hl rfl (hz:=hs1) (_hz':=hz')),AutoSeq1.wpAny_loadPart' hl,AutoSeq1.wpAny_loadPart' hb;exact ⟨_,rfl,h⟩
noncomputable def D9 (K:W.Frag):V->List V->Hp->VK->Prop:=fun x vs H Q=>∃ l b xs zs,x=.ref l/\vs=[.ref b]/\H l=some (.lst xs)/\jD K H b zs/\xs.length+zs.length<=sizeLine/\Q .ai (upd H l (.lst (xs++zs)))
theorem Cm:NP X "list.extend" (D9 X.K):=by
 intro pins s σ H x vs v us Q I rx rv h
 obtain ⟨l,b,xs,zs,rfl,rfl,hH,hB,hz,q⟩:=h
 cases rx
 obtain ⟨u,rfl,ru⟩:=rv.one
 cases ru
 obtain ⟨z,its,n,r,hl,e⟩:=I.Cr hH
 obtain ⟨its2,r2,p2,z2⟩:=I.tuple hB
 obtain ⟨⟨Me,dd2,data2,sl2⟩,e2,hc2,n2,hd2⟩:=p2
 simp only at hc2 hd2
 subst hc2 hd2
 have l2:=r2.length
 have hsz:its.toArray.size+its2.toArray.size<=sizeLine:=by rw [List.size_toArray,List.size_toArray];omega
 have Lq:¬ (!its.toArray.isEmpty&&Builtin.List.listTooLong (its.toArray.size+its2.toArray.size))=true:=by
  rw [yK hsz,Bool.and_false]
  exact Bool.false_ne_true
 refine call_meets PySem.F.slot_list_extend ⟨_,e,rfl⟩ PySem.F.entry_list_extend (PySem.F.args_list_extend_2 _ _)
  (CV l its.toArray n b its2.toArray n2 dd2 sl2 Lq (by rw [List.size_toArray];omega) (by omega)) ⟨e,e2,?_⟩
 refine ⟨.ai,_,I.Cs (its':=its++its2) hH e (by simp) (r.append r2) ?_,rfl,q⟩
 rw [List.length_append]
 omega
end
section
variable {B:Bd} {Φ:aY} {E:Gx} {F F' F0 F1:Addr->Prop} {ρ ρ' ρ0 ρ1:List Addr} {H H' H0 H1:Hp} {M M' M0:MH} {σD:Sg} {σ:L2.St} {Q:VK}
theorem ak.rev:∀ {ds:List D} {vs:List V},ak B F ρ H ds vs->ak B F ρ H ds.reverse vs.reverse
 | [],vs,h=>by
  have:=ak.length h
  cases vs with
  | nil=>exact ak.nil
  | cons _ _=>simp at this
 | d::ds,vs,h=>by
  cases vs with
  | nil=>have:=ak.length h;simp at this
  | cons v vs =>
   obtain ⟨w,ws,h1,h2,h3⟩:∃ w ws,v::vs=w::ws/\RD B F ρ H d w/\ak B F ρ H ds ws:=by simpa only [ak] using h
   cases h1
   rw [List.reverse_cons,List.reverse_cons]
   exact ak.append (ak.rev h3) (ak.cons h2 ak.nil)
theorem ak.dropLast {ds:List D} {vs:List V} (h:ak B F ρ H ds vs):ak B F ρ H ds.dropLast vs.dropLast:=by
 rw [List.dropLast_eq_take,List.dropLast_eq_take,<- ak.length h];exact ak.take _ h
theorem yi {x:D} {v:V} {m:Mt} (S:SR B F ρ M H) (rx:RD B F ρ H x v) (ho:qh m M x=true):∃ n xs, x=.ref n/\M[n]? = some (.lst xs)/\MK B.K "list" v H:=by
 have h0:=((Bool.and_eq_true _ _).mp ho).1
 cases hl:gQ M x with
 | none=>rw [hl] at h0;cases h0
 | some p =>
  obtain ⟨rfl,hM⟩:=j9 hl
  simp only [RD] at rx
  obtain ⟨b,hb,rfl⟩:=rx
  obtain ⟨vs,h3,_⟩:=S.obj p.1 b _ hb hM
  exact ⟨p.1,p.2,rfl,hM,.inl ⟨rfl,vs,.inl (.inl h3)⟩⟩
theorem BS {fz:Bool} {n:Nat} {xs:List D} {v:V} {X:XK} (S:SR B F ρ M H) (hx:M[n]? = some (.lst xs)) (rx:RD B F ρ H (.ref n) v) (h:Post B (gZ .pop fz M (.ref n) []) F ρ H Q X):FO v [] H Q:=by
 simp only [gZ,dG hx,qg,List.isEmpty_nil,if_true] at h
 split at h
 ·rename_i d hd
  simp only [RD] at rx
  obtain ⟨a,h1,rfl⟩:=rx
  obtain ⟨ws,h2,h3⟩:=S.obj n a _ h1 hx
  obtain ⟨w,hw,rw'⟩:=ak.get h3 hd
  refine ⟨a,ws,w,rfl,rfl,h2,by rw [<- ak.length h3];exact hw,?_⟩
  obtain ⟨S',e⟩:=S.st (o:=.lst ws.dropLast) (u:=.lst xs.dropLast) h1 (fun _ _ q=>by rw [h2] at q;cases q) ⟨_,aD,ak.bJ (Ext0.at_ S h1) _ _ h3.dropLast⟩
  exact h _ _ _ _ e S' (RD.mono e _ _ rw')
 ·exact h.elim
theorem pX {fz:Bool} {n:Nat} {xs:List D} {v:V} {X:XK} (S:SR B F ρ M H) (hx:M[n]? = some (.lst xs)) (rx:RD B F ρ H (.ref n) v) (h:Post B (gZ .reverse fz M (.ref n) []) F ρ H Q X):kN v [] H Q:=by
 simp only [gZ,dG hx,qg,List.isEmpty_nil,if_true] at h
 simp only [RD] at rx
 obtain ⟨a,h1,rfl⟩:=rx
 obtain ⟨ws,h2,h3⟩:=S.obj n a _ h1 hx
 refine ⟨a,ws,rfl,rfl,h2,?_⟩
 obtain ⟨S',e⟩:=S.st (o:=.lst ws.reverse) (u:=.lst xs.reverse) h1 (fun _ _ q=>by rw [h2] at q;cases q) ⟨_,aD,ak.bJ (Ext0.at_ S h1) _ _ h3.rev⟩
 exact h _ _ _ _ e S' (by simp only [RD])
theorem rL {fz:Bool} {a:Fg.E} {es:Es} (h:T B Φ E (.aG .extend fz a es) σ H Q):tBM B.K "list" (D9 B.K) (T B Φ E a) (TL B Φ E es) σ H Q:=by
 obtain ⟨σD,M,F,ρ,S,r,h⟩:=h
 simp only [ev] at h
 refine T.one S r rfl h fun x M1 F1 ρ1 H1 v e1 S1 r1 rx h1=>?_
 split at h1
 ·rename_i ho
  obtain ⟨n,xs,rfl,hM,ty⟩:=yi S1 rx ho
  refine ⟨ty,TL.one S1 r1 rfl h1 fun ds M2 F2 ρ2 H2 vs e2 S2 r2 rds h2=>?_⟩
  have MS:=RD.mono e2 _ _ rx
  unfold gZ at h2
  cases hl:gQ M2 (.ref n) with
  | none=>rw [hl] at h2;exact h2.elim
  | some q =>
   rw [hl] at h2
   obtain ⟨e0,hy⟩:=j9 hl
   cases e0
   cases ds with
   | nil=>exact h2.elim
   | cons d ds=>cases ds with
    | cons _ _=>exact h2.elim
    | nil =>
     simp only [qg,we] at h2
     split at h2
     ·rename_i zs hz
      split at h2
      ·rename_i hlen
       simp only [RD] at MS
       obtain ⟨a',h3,rfl⟩:=MS
       obtain ⟨ws,h4,h5⟩:=S2.obj _ a' _ h3 hy
       obtain ⟨w,us,rfl,rw',ru⟩:∃ w us,vs=w::us/\RD B F2 ρ2 H2 d w/\ak B F2 ρ2 H2 [] us:=by simpa only [ak] using rds
       have eu:us=[]:=List.eq_nil_of_length_eq_zero (ak.length ru).symm
       subst eu
       cases AW hz
       simp only [RD] at rw'
       obtain ⟨b,zs',rfl,z1,r3⟩:=rw'
       refine ⟨a',b,ws,zs',rfl,rfl,h4,z1.sq,?_,?_⟩
       ·rw [<- ak.length h5,<- ak.length r3];exact Nat.le_trans (of_decide_eq_true hlen) bN
       ·obtain ⟨S',e⟩:=S2.st (o:=.lst (ws++zs')) (u:=.lst (q.2++zs)) h3 (fun _ _ q=>by rw [h4] at q;cases q) ⟨_,aD,ak.bJ (Ext0.at_ S2 h3) _ _ (h5.append r3)⟩
        exact h2 _ _ _ _ e S' (by simp only [RD])
      ·exact h2.elim
     ·exact h2.elim
 ·exact h1.elim
theorem pU {m:Mt} {fz:Bool} {a:Fg.E} {r:V->List V->Hp->VK->Prop}
  (hs:∀ (F:Addr->Prop) (ρ:List Addr) (H:Hp) (M:MH) (n:Nat) (xs:List D) (v:V) (Q:VK) (X:XK),SR B F ρ M H->M[n]? = some (.lst xs)->RD B F ρ H (.ref n) v->Post B (gZ m fz M (.ref n) []) F ρ H Q X->r v [] H Q)
  (h:T B Φ E (.aG m fz a .nil) σ H Q):AY B.K "list" r (T B Φ E a) σ H Q:=by
 obtain ⟨σD,M,F,ρ,S,r,h⟩:=h
 simp only [ev] at h
 refine T.one S r rfl h fun x M1 F1 ρ1 H1 v e1 S1 r1 rx h1=>?_
 split at h1
 ·rename_i ho
  obtain ⟨n,xs,rfl,hM,ty⟩:=yi S1 rx ho
  simp only [cV,R.af] at h1
  exact ⟨ty,hs _ _ _ _ n xs v _ _ S1 hM rx h1⟩
 ·exact h1.elim
theorem Bm {fz:Bool} {a:Fg.E} (h:T B Φ E (.aG .pop fz a .nil) σ H Q):AY B.K "list" FO (T B Φ E a) σ H Q:=pU (fun _ _ _ _ _ _ _ _ _ S hx rx h=>BS S hx rx h) h
theorem pR {fz:Bool} {a:Fg.E} (h:T B Φ E (.aG .reverse fz a .nil) σ H Q):AY B.K "list" kN (T B Φ E a) σ H Q:=pU (fun _ _ _ _ _ _ _ _ _ S hx rx h=>pX S hx rx h) h
end
end Fg
end
section
namespace Fg
open PySem PySem.Spec L2
section
variable {B:Bd} {Φ:aY} {E:Gx} {F F' F0 F1:Addr->Prop} {ρ ρ' ρ0 ρ1:List Addr} {H H' H0 H1:Hp} {M M' M0:MH} {σD:Sg} {σ:L2.St} {Q:VK} {Dn:Ends}
theorem oz {f:Str}:∀ {fs:List (Str×D)} {fQ:List (Str×V)},fQ.map (·.1)=fs.map (·.1)->ak B F ρ H (fs.map (·.2)) (fQ.map (·.2)) ->
  (∀ d,fs.lookup f=some d->∃ v,fQ.lookup f=some v/\RD B F ρ H d v)/\(fs.lookup f=none->fQ.lookup f=none)
 | [],fQ,h1,h2=>by
  have:fQ=[]:=by cases fQ with | nil=>rfl | cons _ _=>simp at h1
  subst this
  exact ⟨fun d h=>by simp at h,fun _=>rfl⟩
 | (g, d')::fs, fQ, h1, h2=>by
  cases fQ with
  | nil=>simp at h1
  | cons p fQ =>
   obtain ⟨pk,pv⟩:=p
   simp only [List.map_cons,List.cons.injEq] at h1
   simp only [List.map_cons,ak] at h2
   obtain ⟨v,ws,e,r1,r2⟩:=h2
   cases e
   obtain ⟨e1,e2⟩:=h1
   subst e1
   have ih:=oz (f:=f) e2 r2
   by_cases hk:f=pk
   ·subst hk
    simp only [List.lookup,beq_self_eq_true]
    exact ⟨fun d h=>by cases h;exact ⟨_,rfl,r1⟩,fun h=>by cases h⟩
   ·have hb:(f == pk)=false:=beq_eq_false_iff_ne.mpr hk
    simp only [List.lookup,hb]
    exact ih
theorem uz {f:Str} {d:D} {v:V} (r:RD B F ρ H d v):∀ {fs:List (Str×D)} {fQ:List (Str×V)},fQ.map (·.1)=fs.map (·.1)->ak B F ρ H (fs.map (·.2)) (fQ.map (·.2)) ->
  (d9 f v fQ).map (·.1)=(bV f d fs).map (·.1)/\ak B F ρ H ((bV f d fs).map (·.2)) ((d9 f v fQ).map (·.2))
 | [],fQ,h1,h2=>by
  have:fQ=[]:=by cases fQ with | nil=>rfl | cons _ _=>simp at h1
  subst this
  exact ⟨rfl,ak.cons r ak.nil⟩
 | (g, d')::fs, fQ, h1, h2=>by
  cases fQ with
  | nil=>simp at h1
  | cons p fQ =>
   obtain ⟨pk,pv⟩:=p
   simp only [List.map_cons,List.cons.injEq] at h1
   simp only [List.map_cons,ak] at h2
   obtain ⟨w,ws,e,r1,r2⟩:=h2
   cases e
   obtain ⟨e1,e2⟩:=h1
   subst e1
   obtain ⟨i1,i2⟩:=uz (f:=f) r e2 r2
   by_cases hk:pk=f
   ·simp only [d9,bV,if_pos hk,List.map_cons]
    exact ⟨by rw [e2],ak.cons r r2⟩
   ·simp only [d9,bV,if_neg hk,List.map_cons]
    exact ⟨by rw [i1],ak.cons r1 i2⟩
theorem By {K:W.Frag} {a:Fg.E} {f:Str} (hC:∀ c C,B.cls c=some C->xo K C/\eE K C f) (h:T B Φ E (.fld a f) σ H Q):JS K (T B Φ E a) f σ H Q:=by
 obtain ⟨σD,M,F,ρ,S,r,h⟩:=h
 simp only [ev] at h
 refine T.one S r rfl h fun x M1 F1 ρ1 H1 v e1 S1 r1 rx h1=>?_
 split at h1
 ·rename_i n
  split at h1
  ·rename_i c fs hM
   split at h1
   ·rename_i d hd
    simp only [RD] at rx
    obtain ⟨b,hb,rfl⟩:=rx
    obtain ⟨C,dx,fQ,hc,hH,hk,hr⟩:=S1.obj n b _ hb hM
    obtain ⟨w,hw,rw⟩:=(oz hk hr).1 d hd
    exact ⟨b,C,dx,fQ,w,rfl,hH,(hC c C hc).1,(hC c C hc).2,hw,aj.run h1 S1 rw⟩
   ·exact h1.elim
  ·exact h1.elim
 ·exact h1.elim
theorem xY {K:W.Frag} {a e:Fg.E} {f:Str} (hC:∀ c C,B.cls c=some C->xo K C/\eE K C f) (h:TC B Φ E (.bZ a f e) Dn σ H):J6 K (T B Φ E a) (T B Φ E e) f Dn σ H:=by
 obtain ⟨σD,M,F,ρ,S,r,h⟩:=h
 simp only [ex] at h
 refine TC.one S r h fun x M1 F1 ρ1 H1 v e1 S1 r1 rx h1=>?_
 refine TC.one S1 r1 h1 fun y M2 F2 ρ2 H2 w e2 S2 r2 ry h2=>?_
 have MS:=RD.mono e2 _ _ rx
 split at h2
 ·rename_i n
  split at h2
  ·rename_i c fs hM
   split at h2
   ·rename_i hl
    simp only [RD] at ry
    obtain ⟨b,hb,rfl⟩:=ry
    obtain ⟨C,dx,fQ,hc,hH,hk,hr⟩:=S2.obj n b _ hb hM
    have hlen:fQ.length=fs.length:=by have:=congrArg List.length hk;simpa using this
    obtain ⟨p1,p2⟩:=uz (f:=f) MS hk hr
    obtain ⟨S',e⟩:=S2.st (o:=.ins C dx (d9 f v fQ)) (u:=.ins c (bV f x fs)) hb (fun _ _ q=>by rw [hH] at q;cases q) ⟨C,dx,_,hc,aD,p1,ak.bJ (Ext0.at_ S2 hb) _ _ p2⟩
    exact ⟨b,C,dx,fQ,rfl,hH,(hC c C hc).1,(hC c C hc).2,by rw [hlen];exact of_decide_eq_true hl,h2 F2 ρ2 _ e S' σ (r2.mono e)⟩
   ·exact h2.elim
  ·exact h2.elim
 ·exact h2.elim
noncomputable def rF (C:Addr) (m:Str) (sp:Sp) (Ex:XS) (ta:TE) (t:TA):TE:=fun σ H Q=>ta σ H fun x H1=>∃ a dx fs,x=.ref a/\H1 a=some (.ins C dx fs)/\fs.lookup m=none /\
 t σ H1 fun vs H2=>sp (x::vs) H2 Q fun cv y H'=>Ex cv y σ H'
noncomputable def rG (C:Addr) (sp:Sp) (Ex:XS) (t:TA):TE:=fun σ H Q=>t σ H fun vs H1=>∀ x dx,H1 x=none->H1 dx=none->dx≠x ->
 sp (.ref x::vs) (upd (upd H1 dx (.own x)) x (.ins C dx [])) (fun v H2=>v=.ai/\Q (.ref x) H2) fun cv y H'=>Ex cv y σ H'
theorem tZ {c m n:Nat} {nm:Str} {a:Fg.E} {es:Es} {C:Addr} (hC:B.cls c=some C) (hn:∀ {σ:Sg} {M:MH} {ds:List D} {M':MH},cV Φ es σ M=.ok ds M'->ds.length+1=n) (h:T B Φ E (.dS c m nm a es) σ H Q) :
  rF C nm (xR B Φ m n) E.e (T B Φ E a) (TL B Φ E es) σ H Q:=by
 obtain ⟨σD,M,F,ρ,S,r,h⟩:=h
 simp only [ev] at h
 refine T.one S r rfl h fun x M1 F1 ρ1 H1 v e1 S1 r1 rx h1=>?_
 split at h1
 ·rename_i i
  split at h1
  ·rename_i c' fs hM
   split at h1
   ·rename_i hq
    simp only [Bool.and_eq_true,decide_eq_true_eq,Option.isNone_iff_eq_none] at hq
    obtain ⟨rfl,hno⟩:=hq
    have rx0:=rx
    simp only [RD] at rx
    obtain ⟨b,hb,rfl⟩:=rx
    obtain ⟨C',dx,fQ,hc,hH,hk,hr⟩:=S1.obj i b _ hb hM
    rw [hC] at hc;cases hc
    refine ⟨b,dx,fQ,rfl,hH,(oz hk hr).2 hno,σD,M1,F1,ρ1,S1,r1,?_⟩
    cases hx:cV Φ es σD M1 with
    | exc c M2=>rw [hx] at h1;exact h1
    | bad=>rw [hx] at h1;exact h1
    | ok ds M2 =>
     rw [hx] at h1
     simp only [R.af] at h1
     intro F2 ρ2 H2 vs e2 S2 q2
     exact ⟨by rw [List.length_cons,<- ak.length q2];exact hn hx,.ref i::ds,M2,F2,ρ2,S2,ak.cons (RD.mono e2 _ _ rx0) q2,aj.weak e2 h1⟩
   ·exact h1.elim
  ·exact h1.elim
 ·exact h1.elim
noncomputable def spI (B:Bd) (Φ:aY) (f n:Nat):Sp:=fun vs H Q E=>vs.length=n/\∃ ds M F ρ,SR B F ρ M H/\ak B F ρ H ds vs/\Post B (Φ.ini f ds M) F ρ H Q E
theorem SR.own (S:SR B F ρ M H) {p:Addr} (h:H p=none) (o:HO):SR B F ρ M (upd H p o)/\Ext F ρ H F ρ (upd H p o):=by
 obtain ⟨np,nf⟩:=S.new h
 exact ⟨S.side np nf o,⟨⟨S.sep,fun a q=>q,fun a q _=>au (by rintro rfl;exact q h),List.prefix_refl _,fun a q=>.inl q,fun a q=>.inl q⟩,fun b w u q=>by rw [au (by rintro rfl;rw [h] at q;cases q)];exact q⟩⟩
theorem ua {c i n:Nat} {es:Es} {C:Addr} (hC:B.cls c=some C) (hn:∀ {σ:Sg} {M:MH} {ds:List D} {M':MH},cV Φ es σ M=.ok ds M'->ds.length+1=n) (h:T B Φ E (.new c i es) σ H Q) :
  rG C (spI B Φ i n) E.e (TL B Φ E es) σ H Q:=by
 obtain ⟨σD,M,F,ρ,S,r,h⟩:=h
 simp only [ev] at h
 refine ⟨σD,M,F,ρ,S,r,?_⟩
 cases hx:cV Φ es σD M with
 | exc c M1=>rw [hx] at h;exact h
 | bad=>rw [hx] at h;exact h
 | ok ds M1 =>
  rw [hx] at h
  simp only [R.af] at h
  intro F1 ρ1 H1 vs e1 S1 q1 x dx hx0 hdx hne
  obtain ⟨S2,e2⟩:=S1.own hdx (.own x)
  have hx2:upd H1 dx (.own x) x=none:=by rw [au (Ne.symm hne)];exact hx0
  obtain ⟨S3,e3⟩:=S2.lv (o:=.ins C dx []) (u:=.ins c []) hx2 ⟨C,dx,[],hC,aD,rfl,ak.nil⟩
  have at_:(ρ1++[x])[M1.length]? = some x:=by rw [<- S1.len,List.getElem?_append_right (Nat.le_refl _),Nat.sub_self];rfl
  have e23:=e2.trans e3
  refine ⟨by rw [List.length_cons,<- ak.length q1];exact hn hx,.ref M1.length::ds,M1++[.ins c []],F1,ρ1++[x],S3,ak.cons (by simp only [RD];exact ⟨x,at_,rfl⟩) (ak.mono e23 _ _ q1),?_⟩
  refine aj.imp (aj.bind (rel:=RD B) (aj.weak (e1.trans e23) h)) fun v H' ⟨d,M',F',ρ',ext,S',rd,h2⟩=>?_
  split at h2
  ·simp only [RD] at rd
   exact ⟨rd,aj.run h2 S' (by simp only [RD];exact ⟨x,ext.at at_,rfl⟩)⟩
  ·exact h2.elim
theorem pS {c i:Nat} {es:Es} (hb:∀ ds M,Φ.ini i ds M=.bad) (h:T B Φ E (.new c i es) σ H Q):TL B Φ E es σ H fun _ _=>False:=by
 obtain ⟨σD,M,F,ρ,S,r,h⟩:=h
 simp only [ev] at h
 refine ⟨σD,M,F,ρ,S,r,?_⟩
 cases hx:cV Φ es σD M with
 | exc c M1=>rw [hx] at h;exact h
 | bad=>rw [hx] at h;exact h
 | ok ds M1 =>
  rw [hx] at h
  simp only [R.af,hb,R.i7] at h
  exact h.elim
theorem Bq {a b:Fg.E} (h:T B Φ E (.mx true a b) σ H Q):E7 (fun xs H Q=>∃ i j,xs=[.int i,.int j]/\Q (.int (if j > i then j else i)) H) (fL (T B Φ E a) (fL (T B Φ E b) jW)) σ H Q:=by
 obtain ⟨σD,M,F,ρ,S,r,h⟩:=h
 simp only [ev] at h
 refine T.two S r rfl h fun x y M2 F2 ρ2 H2 v w S2 _ rx ry h2=>?_
 split at h2
 ·rename_i i j
  simp only [RD] at rx ry
  subst rx ry
  exact ⟨i,j,rfl,aj.run h2 S2 (by simp only [RD,if_true])⟩
 ·exact h2.elim
theorem Bp {a b:Fg.E} (h:T B Φ E (.mx false a b) σ H Q):E7 (fun xs H Q=>∃ i j,xs=[.int i,.int j]/\Q (.int (if j<i then j else i)) H) (fL (T B Φ E a) (fL (T B Φ E b) jW)) σ H Q:=by
 obtain ⟨σD,M,F,ρ,S,r,h⟩:=h
 simp only [ev] at h
 refine T.two S r rfl h fun x y M2 F2 ρ2 H2 v w S2 _ rx ry h2=>?_
 split at h2
 ·rename_i i j
  simp only [RD] at rx ry
  subst rx ry
  exact ⟨i,j,rfl,aj.run h2 S2 (by simp only [RD,Bool.false_eq_true,if_false])⟩
 ·exact h2.elim
noncomputable def K9 (i j:Int):List V:=(List.range (j-i).toNat).map fun (n:Nat)=>V.int (i+(n:Int))
theorem BG {i j:Int}:ak B F ρ H (eK i j) (K9 i j):=by
 unfold eK K9
 generalize List.range (j-i).toNat=l
 induction l with
 | nil=>exact ak.nil
 | cons n l ih=>exact ak.cons (by simp only [RD]) ih
end
section
variable {X:Cx} {Ex:XS} {k:Nat} {f C:Addr} {fd:FuncData} {ps:List Str} {sp:Sp} {x m:Str} {p pos apos:Pos} {e o:Expr} {es:List Expr} {ta:TE} {t:TA}
theorem yw {pl:Sem Bool} (he:PE X o ta) (c:xo X.K C) (hm:Meth X.K C m f) (F:cS X.prog X.w X.K X.mg X.base (iD X.prog X.w) k f fd ps sp) (hr:cX k X.A) (hb:Binds X.K fd ps []) (hx:∀ e s,ja X Ex e s->X.xe e s) (ha:PA X (e::es) t)
  (hst:starEach (e::es) X.env=(false,eval e X.env)::starEach es X.env) (hpl:(backTo pos (starEach es X.env)).any (·.1)=false)
  (ht:eval (.Call (.Attribute o m apos) (e::es) [] pos) X.env=(do
   let ov <- eval o X.env
   standAt apos.atName
   let (f,first) <- holding [ov] (getMethod ov m pl)
   callWith pos f first (backTo pos (starEach (e::es) X.env)) (backToKw pos (keywordEach [] X.env)))) :
  PE X (.Call (.Attribute o m apos) (e::es) [] pos) (rF C m sp Ex ta t):=by
 intro pins s σ H Q I h
 refine PySem.W.methodCall_KW (pl:=pl) (bz (he pins s σ H _ I h) fun u s1 ⟨x,H1,I1,rx,a,dx,fs,ex,ea,l,q⟩=>?_) ht
 subst ex
 obtain rfl:u=Value.ref a:=rx
 refine lC I1 ea c hm l ?_
 refine PySem.W.callWith_K (first:=[.ref a]) (h₀:=X.base) I.ok.mod.CB hm.kp (bz (ha pos pins s1 σ H1 _ I1 q) fun us s2 ⟨vs,H2,I2,r,q2⟩=>⟨I2.ia,?_⟩) hst hpl
 exact BF (us:=.ref a::us) (vs:=.ref a::vs) F hr hb hx I2 (.cons rfl r) q2
theorem v5 {pl:Sem Bool} (he:PE X o ta) (c:xo X.K C) (hm:Meth X.K C m f) (F:cS X.prog X.w X.K X.mg X.base (iD X.prog X.w) k f fd ps sp) (hr:cX k X.A) (hb:Binds X.K fd ps []) (hx:∀ e s,ja X Ex e s->X.xe e s)
  (ht:eval (.Call (.Attribute o m apos) [] [] pos) X.env=(do
   let ov <- eval o X.env
   standAt apos.atName
   let (f,first) <- holding [ov] (getMethod ov m pl)
   callWith pos f first (backTo pos (starEach [] X.env)) (backToKw pos (keywordEach [] X.env)))) :
  PE X (.Call (.Attribute o m apos) [] [] pos) (rF C m sp Ex ta jW):=by
 intro pins s σ H Q I h
 refine PySem.W.methodCall_KW (pl:=pl) (bz (he pins s σ H _ I h) fun u s1 ⟨x,H1,I1,rx,a,dx,fs,ex,ea,l,q⟩=>?_) ht
 subst ex
 obtain rfl:u=Value.ref a:=rx
 refine lC I1 ea c hm l ?_
 exact PySem.W.callWith_K0 (first:=[.ref a]) I1.ia hm.kp (BF (us:=[.ref a]) (vs:=[.ref a]) F hr hb hx I1 (.cons rfl .nil) q)
theorem mU {pins:List (Addr×Obj)} {σ:L2.St} {H:Hp} {s:Shared} {Q:VK} {us:List Value} {vs:List V} (M:Mk X.K C f) (F:cS X.prog X.w X.K X.mg X.base (iD X.prog X.w) k f fd ps sp) (hr:cX (k+1) X.A) (hb:Binds X.K fd ps [])
  (hx:∀ e s,ja X Ex e s->X.xe e s) (I:Inv X pins σ H s) (r:Vals vs us)
  (h:∀ x dx,H x=none->H dx=none->dx≠x->sp (.ref x::vs) (upd (upd H dx (.own x)) x (.ins C dx [])) (fun v H2=>v=.ai/\Q (.ref x) H2) fun cv y H'=>Ex cv y σ H') :
  wpAny (model X.prog X.w) X.A (call (.ref C) us) (EP X pins σ Q) X.xe s:=by
 have hq:=h (s.heap.objs.size+1) s.heap.objs.size (I.hok.fresh (Nat.le_succ _)) (I.hok.fresh (Nat.le_refl _)) (Nat.ne_of_lt (Nat.lt_succ_self _))
 have I2:=Inv.made (C:=C) I
 have r2:Vals (V.ref (s.heap.objs.size+1)::vs) (Value.ref (s.heap.objs.size+1)::us):=.cons rfl r
 have hl:((Value.ref (s.heap.objs.size+1)::us)++[]).length=ps.length:=by
  rw [List.append_nil,<- r2.length];exact F.len _ _ _ _ hq
 have bd:=hb _ (Value.ref (s.heap.objs.size+1)::us) I2.ia hl
 rw [List.append_nil] at bd
 refine wpAny_call (yW (f:=f) I.ia M.makes M.init (beq_iff_eq.mp M.fn) (codeAny_mono (F.run _ X.stack _ _ ⟨Value.ref (s.heap.objs.size+1)::us,[]⟩ (Value.ref (s.heap.objs.size+1)::us) _ _ _ (hr.make C us [])
  (I2.lN.make C us []) bd r2 hq) fun r s' hq'=>?_))
 match r,hq' with
 | .error e,hq'=>exact passes hx pins σ _ _ e s' I2 hq'
 | .ok (.ret u),hq' =>
  obtain ⟨v,H',I3,rv,ev,q3⟩:=I2.after hq'
  subst ev
  exact ⟨rv,⟨V.ref (s.heap.objs.size+1),H',I3,rfl,q3⟩⟩
 | .ok .next,hq'=>exact hq'.elim
 | .ok .brk,hq'=>exact hq'.elim
 | .ok .cont,hq'=>exact hq'.elim
theorem yy (M:Mk X.K C f) (F:cS X.prog X.w X.K X.mg X.base (iD X.prog X.w) k f fd ps sp) (hr:cX (k+1) X.A) (hg:Gl X x) (hm:X.mg x=some (.ref C)) (hb:Binds X.K fd ps []) (hx:∀ e s,ja X Ex e s->X.xe e s)
  (ha:PA X (e::es) t) (hdb:(x == ("__debug__" : Str))=false) (he:starEach (e::es) X.env=(false, eval e X.env)::starEach es X.env) (hpl:(backTo pos (starEach es X.env)).any (·.1)=false) :
  PE X (.Call (.Name x p) (e::es) [] pos) (rG C sp Ex t):=by
 intro pins s σ H Q I h
 refine wpAny_Call_Name_kw (fu I hg hm ?_ hdb)
 refine PySem.W.callWith_K (h₀:=X.base) I.ok.mod.CB M.kp (bz (ha pos pins s σ H _ I h) fun us s1 ⟨vs,H1,I1,r,q⟩=>⟨I1.ia,?_⟩) he hpl
 exact mU M F hr hb hx I1 r q
theorem v7 (M:Mk X.K C f) (F:cS X.prog X.w X.K X.mg X.base (iD X.prog X.w) k f fd ps sp) (hr:cX (k+1) X.A) (hg:Gl X x) (hm:X.mg x=some (.ref C)) (hb:Binds X.K fd ps []) (hx:∀ e s, ja X Ex e s->X.xe e s) (hdb:(x == ("__debug__" : Str))=false) :
  PE X (.Call (.Name x p) [] [] pos) (rG C sp Ex jW):=by
 intro pins s σ H Q I h
 refine wpAny_Call_Name_kw (fu I hg hm ?_ hdb)
 exact PySem.W.callWith_K0 I.ia M.kp (mU (us:=[]) M F hr hb hx I .nil h)
theorem yx {f:Addr} (M:Mk X.K C f) (hg:Gl X x) (hm:X.mg x=some (.ref C)) (ha:PA X (e::es) t) (hdb:(x == ("__debug__" : Str))=false) (he:starEach (e::es) X.env=(false, eval e X.env)::starEach es X.env) (hpl:(backTo pos (starEach es X.env)).any (·.1)=false) :
  PE X (.Call (.Name x p) (e::es) [] pos) (fun σ H _=>t σ H fun _ _=>False):=by
 intro pins s σ H Q I h
 refine wpAny_Call_Name_kw (fu I hg hm ?_ hdb)
 exact PySem.W.callWith_K (h₀:=X.base) I.ok.mod.CB M.kp (bz (ha pos pins s σ H _ I h) fun us s1 ⟨vs,H1,I1,r,q⟩=>q.elim) he hpl
theorem rB {i:Int} {acc:Array Value} {n:Nat} (h:ItemsOf (fun (j:Nat) v=>∃ t,v=.int (i+(j:Int)*1) t) acc n):Vals ((List.range n).map fun (j:Nat)=>V.int (i+(j:Int))) acc.toList:=by
 obtain ⟨h1,h2⟩:=h
 have gen:∀ (l:List Value) (a:Nat),(∀ (j:Nat) v,l[j]? = some v->∃ t,v=.int (i+((a+j:Nat):Int)*1) t)->Vals ((List.range' a l.length).map fun (j:Nat)=>V.int (i+(j:Int))) l:=by
  intro l
  induction l with
  | nil=>intro a _;exact .nil
  | cons v l ih =>
   intro a q
   obtain ⟨t,e⟩:=q 0 v rfl
   refine .cons ⟨t,?_⟩ (ih (a+1) fun j w hw=>?_)
   ·rw [e];simp
   ·obtain ⟨t,e⟩:=q (j+1) w (by simpa using hw)
    exact ⟨t,by rw [e];congr 3;omega⟩
 have:=gen acc.toList 0 fun j v hv=>by
  have:=h2 j v (by simpa using hv)
  simpa using this
 rw [<- h1,List.range_eq_range']
 simpa using this
end
end Fg
end
section
namespace Fg
open PySem PySem.Spec L2
section
variable {B:Bd} {Φ:aY} {E:Gx} {F F' F0 F1:Addr->Prop} {ρ ρ' ρ0 ρ1:List Addr} {H H' H0 H1:Hp} {M M' M0:MH} {σD:Sg} {σ:L2.St} {Q:VK} {Dn:Ends}
end
end Fg
end
section
namespace Fg
open PySem PySem.Spec L2
section
variable {X:Cx} {B:Bd} {pins:List (Addr×Obj)} {σ:L2.St} {H H':Hp} {s:Shared}
noncomputable def DO (X:Cx):Addr->Prop:=fun a=>∀ o u,X.H₀ a≠some (.gA o u)
theorem eN (I:Inv X pins σ H s) (h:AQ (DO X) H H'):Inv X pins σ H' s:=by
 rcases h with rfl | ⟨a,o,kvs,th,ha,rfl⟩
 ·exact I
 have ne:∀ b,H b=none->b≠a:=fun b q z=>by subst z;rw [ha] at q;cases q
 refine ⟨I.ok,I.os,I.bare,⟨I.base.keep,I.base.slot,fun b ob e n hx=>?_,I.base.there,fun b xs e=>?_,fun b ob u e=>?_,fun b ps e=>?_⟩,I.loc,I.cell,?_,fun x c e=>?_,fun p hp=>?_,fun b u e=>?_,I.len⟩
 ·have:=I.base.free b ob e n hx
  rw [au (ne b this)];exact this
 ·have:=I.base.tups b xs e
  rw [au (by rintro rfl;rw [ha] at this;cases this)];exact this
 ·have:=I.base.gH b ob u e
  rw [au (by rintro rfl;exact th ob u e)];exact this
 ·obtain ⟨more,q⟩:=I.base.iF b ps e
  exact ⟨more,by rw [au (by rintro rfl;rw [ha] at q;cases q)];exact q⟩
 ·rw [au (ne _ I.free)];exact I.free
 ·rw [au (ne _ (I.cN x c e))];exact I.cN x c e
 ·obtain ⟨h1,h2,h3⟩:=I.pin p hp
  exact ⟨h1,by rw [au (ne _ h2)];exact h2,h3⟩
 ·by_cases hb:b=a
  ·subst hb
   rw [aD] at e;cases e
   exact (I.hok b _ ha).2
  ·rw [au hb] at e
   exact (I.hok b u e).stay (fun _ _ _ q=>q) (fun c q=>by rw [au (by rintro rfl;rw [ha] at q;cases q)];exact q) fun c xs q=>by rw [au (by rintro rfl;rw [ha] at q;cases q)];exact q
theorem BX {e:Expr} {t:TE} (h:PE X e t):PE X e (fun σ H Q=>t σ H fun v H'=>∃ tP,AQ (DO X) H' tP/\Q v tP):=by
 intro pins s σ H Q I q
 refine bz (h pins s σ H _ I q) fun u s' ⟨v,H',I',r,tP,t',q'⟩=>⟨v,tP,eN I' t',r,q'⟩
theorem uB {st:Stmt} {t:TS} (h:PS X st t):PS X st (fun D σ H=>t (thE (DO X) D) σ H):=by
 intro pins s σ H D I q
 refine bz (h pins s σ H _ I q) fun f s' q'=>?_
 cases f with
 | next=>obtain ⟨σ',H',I',tP,t',q'⟩:=q';exact ⟨σ',tP,eN I' t',q'⟩
 | brk=>obtain ⟨σ',H',I',tP,t',q'⟩:=q';exact ⟨σ',tP,eN I' t',q'⟩
 | cont=>obtain ⟨σ',H',I',tP,t',q'⟩:=q';exact ⟨σ',tP,eN I' t',q'⟩
 | ret u=>obtain ⟨v,σ',H',I',r,tP,t',q'⟩:=q';exact ⟨v,σ',tP,eN I' t',r,q'⟩
theorem CC {k:Key} {u:Value} (h:lq k u=true):RelV (kV k) u:=by
 rcases aV h with ⟨i,t,rfl,rfl⟩ | ⟨x,t,rfl,rfl⟩
 ·exact ⟨t,rfl⟩
 ·exact ⟨t,rfl⟩
theorem G0 {kvs:List (Key×V)} {vs:List (Key×Value)} (h:KV kvs vs) {i:Nat} {kv:Key×V} (e:kvs[i]? = some kv):∃ w,vs[i]? = some (kv.1,w):=by
 induction h generalizing i with
 | nil=>simp at e
 | @cons p q ps qs hpq _ ih =>
  cases i with
  | zero =>
   simp only [List.getElem?_cons_zero,Option.some.injEq] at e ⊢
   subst e
   exact ⟨q.2,by rw [hpq.1]⟩
  | succ i=>simpa using ih (by simpa using e)
noncomputable def epO (o:Obj) (n:Nat):Prop:=∃ es,o.data=.dict es n
theorem vL {P:Program} {w:World} {K:PySem.W.Frag} {tg:Expr} (a it:Addr) (o:Obj) (kvs:List (Key×V)) (ep:Nat) (he:epO o ep):Turn P w K tg (MC a o kvs) [it] it (fun i h=>h.IsKeyIter it a i kvs.length ep) where
 mem:=by simp
 obj:=fun i h st b hb=>by
  have e:b=it:=by simpa using hb
  subst e
  obtain ⟨o,e,c,d⟩:=st
  exact ⟨o,e,fun v z=>by rw [d] at z;cases z⟩
 keep:=fun i h h' st k=>st.at fun o e=>k it (by simp) o e
 item:=by
  intro X hP hw hK hc i pins s σ H E I hf st hg
  subst hP hw hK
  obtain ⟨hH,hi⟩:=hg
  obtain ⟨ho,z,hm,vs,rel,dd⟩:=(show bD X.prog X.w H s.heap a (.gA o (.dK kvs)) from I.hok a _ hH)
  obtain ⟨o',es,LY,h1,h2,h3,h4⟩:=id dd
  rw [ho] at h1;cases h1
  obtain ⟨es',hd'⟩:=he
  rw [hd'] at h3;cases h3
  have dat:s.heap.DictAt (aT X.prog X.w) a vs ep:=⟨o,es,ho,h2,hd',h4⟩
  have hx:kvs[i]? = some kvs[i]:=List.getElem?_eq_getElem hi
  obtain ⟨wv,hv⟩:=G0 rel hx
  obtain ⟨f0,f1,f2,f3,f4,f5⟩:=hf it (by simp)
  have hl:kvs.length=vs.length:=rel.length
  rw [hl] at st
  refine wpAny_pyNext_dict_item st dat hv fun key h' hk st' sb=>?_
  have I1:Inv X pins σ H { s with heap:=h' }:=I.turned (t':=s.toks) (fun b o hb e=>(sb.2 b hb).trans e) f0 f1 f3 f4 f5
  obtain ⟨oi,e,c,d⟩:=id st'
  refine ⟨key,rfl,qw (s:={ s with heap:=h' }) e c d (by decide) ⟨kV kvs[i].1,H,I1,CC hk,⟨rfl,kvs[i],hx,rfl⟩,by rw [hl];exact st',fun b hb=>(hf b hb).1⟩⟩
 done:=by
  intro X hP hw hK hc i pins s σ H E I hf st hg
  subst hP hw hK
  obtain ⟨hH,hi⟩:=hg
  obtain ⟨ho,z,hm,vs,rel,dd⟩:=(show bD X.prog X.w H s.heap a (.gA o (.dK kvs)) from I.hok a _ hH)
  obtain ⟨o',es,LY,h1,h2,h3,h4⟩:=id dd
  rw [ho] at h1;cases h1
  obtain ⟨es',hd'⟩:=he
  rw [hd'] at h3;cases h3
  have dat:s.heap.DictAt (aT X.prog X.w) a vs ep:=⟨o,es,ho,h2,hd',h4⟩
  have hl:kvs.length=vs.length:=rel.length
  rw [hl] at st
  obtain ⟨f0,f1,f2,f3,f4,f5⟩:=hf it (by simp)
  exact wpAny_pyNext_dict_end (I.ok.hd hc) st dat (List.getElem?_eq_none_iff.mpr (by omega)) fun h' eb=>⟨rfl,I.turned (t':=s.toks) (fun b o hb e=>eb b o hb e) f0 f1 f3 f4 f5⟩
 self:=fun _ _ _ _ _ st h=>wpAny_pyIter_keyiter st h
theorem vf {tg:Expr} {R:It->Hp->Prop} {a:Addr} {o:Obj} {kvs:List (Key×V)} {E:Value->Shared->Prop} (I:Inv X pins σ H s) (hH:H a=some (.gA o (.dK kvs))) (q:R (MC a o kvs) H):wpAny (model X.prog X.w) X.A (pyIter (.ref a)) (PIE X pins σ tg R) E s:=by
 obtain ⟨ho,z,hm,vs,rel,dd⟩:=(show bD X.prog X.w H s.heap a (.gA o (.dK kvs)) from I.hok a _ hH)
 obtain ⟨o',es,ep,h1,h2,h3,h4⟩:=id dd
 rw [ho] at h1;cases h1
 have dat:s.heap.DictAt (aT X.prog X.w) a vs ep:=⟨o,es,ho,h2,h3,h4⟩
 have hl:kvs.length=vs.length:=rel.length
 refine wpAny_pyIter_dict hm dat ?_
 refine ⟨s.heap.objs.size,[s.heap.objs.size],_,_,H,rfl,I.kept (t':=s.toks) fun b o e=>Heap.get?_push_of_some _ e,vL a _ o kvs ep ⟨es,h3⟩,⟨_,Heap.get?_push_size _ rfl,rfl,by rw [hl];rfl⟩,fun b hb=>?_,q⟩
 have e:b=s.heap.objs.size:=by simpa using hb
 subst e
 exact I.wL (Nat.le_refl _) (I.hok.fresh (Nat.le_refl _))
theorem Gb {tg l:Expr} {tl:TE} (hK:B.K=X.K) (hl:PE X l tl):PI X tg l (Ln B (DO X) tl):=by
 intro pins s σ H R I h
 refine bz (hl pins s σ H _ I h) fun v s1 ⟨x,H1,I1,r1,q1⟩=>?_
 rw [hK] at q1
 rcases q1 with ⟨a,e,⟨xs,hq⟩,q⟩ | ⟨a,e,⟨xs,hq⟩,q⟩ | ⟨a,kvs,e,hq,q⟩ | ⟨a,o,kvs,e,hq,q⟩
 ·subst e
  cases r1
  obtain ⟨its,rv,p,hz⟩:=I1.list hq
  refine wpAny_pyIter_list p.isList ?_
  refine ⟨s1.heap.objs.size,[s1.heap.objs.size],_,_,H1,rfl,I1.kept (t':=s1.toks) fun b o e=>Heap.get?_push_of_some _ e,vK a _,⟨_,Heap.get?_push_size _ rfl,rfl,rfl⟩,fun b hb=>?_,q⟩
  have e:b=s1.heap.objs.size:=by simpa using hb
  subst e
  exact I1.wL (Nat.le_refl _) (I1.hok.fresh (Nat.le_refl _))
 ·subst e
  cases r1
  obtain ⟨its,rv,p,hz⟩:=I1.tuple hq
  refine wpAny_pyIter_tuple (show s1.heap.IsTuple a its.toArray from p) ?_
  refine ⟨s1.heap.objs.size,[s1.heap.objs.size],_,_,H1,rfl,I1.kept (t':=s1.toks) fun b o e=>Heap.get?_push_of_some _ e,rC a _,⟨_,Heap.get?_push_size _ rfl,rfl,rfl⟩,fun b hb=>?_,q⟩
  have e:b=s1.heap.objs.size:=by simpa using hb
  subst e
  exact I1.wL (Nat.le_refl _) (I1.hok.fresh (Nat.le_refl _))
 ·subst e
  cases r1
  have ob:=(show bD X.prog X.w H1 s1.heap a (.dK kvs) from I1.hok a _ hq)
  obtain ⟨z,hm,vs,rel,dd⟩:=id ob
  obtain ⟨o,es,ep,h1,h2,h3,h4⟩:=id dd
  have th:DO X a:=fun w u hz=>by
   have:=I1.base.gH a w u hz
   rw [hq] at this;cases this
  have I2:Inv X pins σ (upd H1 a (.gA o (.dK kvs))) s1:=I1.write (x:=a) (e:=a) (t':=s1.toks) (h':=s1.heap) (by rw [hq];trivial) (.inl rfl) (fun b u _ e=>e) ⟨o,h1⟩ ⟨h1,ob⟩
  exact vf I2 aD (q o th)
 ·subst e
  cases r1
  exact vf I1 hq q
theorem BQ {o i value:Expr} {to ti tv:TE} {pos pos':Pos} (hu:Rm X) (ho:PE X o to) (hi:PE X i ti) (hv:PE X value tv) (hs:swapsWith value (some (.Subscript o i pos')) pos.line X.env=pure false) :
  PS X (.Assign [.Subscript o i pos'] value pos) (D0 to ti tv):=by
 intro pins s σ H D I h
 refine wpAny_Assign_Subscript (bz (hv pins s σ H _ I h) fun r s1 ⟨v,H1,I1,rv,q1⟩=>bz (ho pins s1 σ H1 _ I1 q1) fun u s2 ⟨x,H2,I2,rx,q2⟩=>bz (hi pins s2 σ H2 _ I2 q2) fun iv s3 ⟨y,H3,I3,ry,q3⟩=>?_) hs
 rcases q3 with q3 | ⟨a,H4,ex,g,q3⟩
 ·exact bz (set_list pins s3 σ H3 x y v u iv r _ I3 rx ry rv q3) fun _ s4 ⟨H4,I4,q4⟩=>⟨σ,H4,I4,q4⟩
 ·subst ex
  obtain rfl:u=Value.ref a:=rx
  exact wO (by unfold Rm at hu;omega) I3 g ry rv fun s4 I4=>⟨σ,H4,I4,q3⟩
end
end Fg
end
section
namespace Fg
open PySem PySem.Spec L2
noncomputable def TM (B:Bd) (Φ:aY) (E:Gx) (c:Es):L2.St->Hp->(Hp->Prop)->Prop:=fun σ H Q=>∃ (σD:Sg) (M:MH) (F:Addr->Prop) (ρ:List Addr),
 SR B F ρ M H/\RS B F ρ H σD σ/\aj (fun _ _ _ (_:Unit) (_:Unit)=>True) B (C0 Φ c σD M) F ρ H (fun _ H'=>Q H') (fun cv x H'=>E.e cv x σ H')
section
variable {B:Bd} {Φ:aY} {E:Gx} {F F' F0 F1:Addr->Prop} {ρ ρ' ρ0 ρ1:List Addr} {H H' H0 H1:Hp} {M M' M0:MH} {σD:Sg} {σ:L2.St} {Dn:Ends}
theorem TM.nil {Q:Hp->Prop} (h:TM B Φ E .nil σ H Q):Q H:=by
 obtain ⟨σD,M,F,ρ,S,r,h⟩:=h
 simp only [C0] at h
 exact aj.run (v:=()) h S True.intro
theorem TM.cons {e:Fg.E} {es:Es} {Q:Hp->Prop} (h:TM B Φ E (.cons e es) σ H Q):T B Φ E e σ H fun v H1=>((∃ x:Str,v=.str x/\x.length<=100000)\/∃ i:Int,v=.int i/\i.natAbs<18446744073709551616)/\TM B Φ E es σ H1 Q:=by
 obtain ⟨σD,M,F,ρ,S,r,h⟩:=h
 simp only [C0] at h
 refine ⟨σD,M,F,ρ,S,r,aj.imp (aj.bind (rel:=RD B) h) fun v H1 ⟨x,M1,F1,ρ1,e1,S1,rx,h1⟩=>?_⟩
 split at h1
 ·rename_i hs
  cases x with
  | str y =>
   simp only [RD] at rx
   simp only [bY,decide_eq_true_eq] at hs
   exact ⟨.inl ⟨y,rx,hs⟩,σD,M1,F1,ρ1,S1,r.mono e1,h1⟩
  | ai=>simp [bY] at hs
  | bl _=>simp [bY] at hs
  | int i =>
   simp only [RD] at rx
   simp only [bY,decide_eq_true_eq] at hs
   exact ⟨.inr ⟨i,rx,hs⟩,σD,M1,F1,ρ1,S1,r.mono e1,h1⟩
  | tup _=>simp [bY] at hs
  | lst _=>simp [bY] at hs
  | dct _ _=>simp [bY] at hs
  | ref _=>simp [bY] at hs
 ·exact h1.elim
end
inductive PJ (X:Cx) (B:Bd) (Φ:aY) (E:Gx):List Expr->Es->Prop
 | nil:PJ X B Φ E [] .nil
 | lit {y:Str} {j:Nat} {p:Pos} {r:List Expr} {es:Es}:y.length<=100000->PJ X B Φ E r es->PJ X B Φ E (.Constant (.str y) j p::r) es
 | fld {v:Expr} {p:Pos} {r:List Expr} {e:Fg.E} {es:Es}:PE X v (T B Φ E e)->PJ X B Φ E r es->PJ X B Φ E (.FormattedValue v (-1) none p::r) (.cons e es)
theorem m9 {i:Int} (h:i.natAbs<18446744073709551616):i.natAbs.log2<1920:=by
 by_cases h0:i.natAbs=0
 ·rw [h0];decide
 ·exact Nat.lt_of_lt_of_le ((Nat.log2_lt h0).mpr (show i.natAbs<2 ^ 64 from h)) (by decide)
theorem wG {i:Int} (h:i.natAbs<18446744073709551616):(Str.ofString (toString i)).length<=100000:=by
 have e:=int_text_length_le (k:=1920) (by decide) (m9 h)
 rw [ofString_length];omega
section
variable {X:Cx} {B:Bd} {Φ:aY} {E:Gx}
theorem PJ.run {ps:List Expr} {es:Es} (h:PJ X B Φ E ps es):∀ {pins:List (Addr×Obj)} {s:Shared} {σ:L2.St} {H:Hp} {Q:Hp->Prop} {out:Str},Inv X pins σ H s->out.length+100000*ps.length<=sizeLine->TM B Φ E es σ H Q ->
  wpAny (model X.prog X.w) X.A (joinParts out (evalEach ps X.env)) (EP X pins σ fun v H'=>∃ y,v=.str y/\Q H') X.xe s:=by
 induction h with
 | nil =>
  intro pins s σ H Q out I hl q
  refine PyProof.Rows.joinParts_nil ⟨.str out,H,I.tok _,⟨_,rfl⟩,out,rfl,q.nil⟩ (by simpa using hl)
 | lit hy _ ih =>
  rename_i y j p r es _
  intro pins s σ H Q out I hl q
  simp only [List.length_cons] at hl
  refine PyProof.Rows.joinParts_cons ?_
  refine bz (rV pins s σ H (fun v H'=>v=.str y/\H'=H) I ⟨rfl,rfl⟩) fun u s1 ⟨v,H1,I1,rv,e1,e2⟩=>?_
  subst e1 e2
  obtain ⟨t,rfl⟩:=rv
  have hlen:(out++y).length<=out.length+100000:=by rw [strLen_append];omega
  exact ⟨by omega,ih I1 (by omega) q⟩
 | fld hv _ ih =>
  intro pins s σ H Q out I hl q
  simp only [List.length_cons] at hl
  refine PyProof.Rows.joinParts_cons (PyProof.Rows.FormattedValue_plain ?_)
  refine bz (hv pins s σ H _ I q.cons) fun u s1 ⟨v,H1,I1,rv,e0,q1⟩=>?_
  rcases e0 with ⟨x,e1,e2⟩ | ⟨i,e1,e2⟩
  ·subst e1
   obtain ⟨t,rfl⟩:=rv
   refine PyProof.Rows.formatField_str (fun t' tk=>?_) (by omega)
   have hlen:(out++x).length<=out.length+100000:=by rw [strLen_append];omega
   exact ⟨by omega,ih (I1.tok tk) (by omega) q1⟩
  ·subst e1
   obtain ⟨t,rfl⟩:=rv
   refine PyProof.Rows.formatField_int_small (m9 e2) ?_
   have hlen:(out++Str.ofString (toString i)).length<=out.length+100000:=by rw [strLen_append];have:=wG e2;omega
   exact ⟨by omega,ih (I1.tok _) (by omega) q1⟩
theorem Gi {ps:List Expr} {es:Es} {pos:Pos} (h:PJ X B Φ E ps es) (h2:2<=ps.length) (hl:ps.length<=100):PE X (.JoinedStr ps pos) (fun σ H Q=>TM B Φ E es σ H fun H'=>∀ y:Str,Q (.str y) H'):=by
 intro pins s σ H Q I q
 match ps,h2,h,hl with
 | v₁::v₂::rest,_,h,hl =>
  refine PyProof.Rows.JoinedStr_many ?_
  refine wpAny_mono (h.run (Q:=fun H'=>∀ y:Str,Q (.str y) H') I (by
   show 0+100000*(v₁::v₂::rest).length<=2 ^ 24
   omega) q) (fun u s1 ⟨v,H1,I1,rv,y,e,q1⟩=>⟨v,H1,I1,rv,by rw [e];exact q1 y⟩) fun _ _ z=>z
end
section
variable {B:Bd} {Φ:aY} {E:Gx} {F F' F0 F1:Addr->Prop} {ρ ρ' ρ0 ρ1:List Addr} {H H' H0 H1:Hp} {M M' M0:MH} {σD:Sg} {σ:L2.St} {Dn:Ends}
theorem mS {c:Nat} {es:Es} {C:Addr} (hc:B.exc c (.ref C)) (h:TC B Φ E (.raise c es) Dn σ H):TM B Φ E es σ H fun H'=>E.e (.ref C) none σ H':=by
 obtain ⟨σD,M,F,ρ,S,r,h⟩:=h
 simp only [ex] at h
 refine ⟨σD,M,F,ρ,S,r,aj.imp (aW.use (rel:=fun _ _ _ (_:Unit) (_:Unit)=>True) r h) fun v H1 ⟨x,M1,F1,ρ1,e,S1,rx,h1⟩=>?_⟩
 exact aW.run h1 S1 σ _ none (r.mono e) hc
noncomputable def Jw (B:Bd) (Φ:aY) (E:Gx) (adr:Nat->Option Addr):Hs->Option (List (Addr×TS))
 | .nil=>some []
 | .cons [c] b hs=>match adr c,Jw B Φ E adr hs with
  | some C,some r=>some ((C,xy B Φ E b)::r)
  | _,_=>none
 | .cons _ _ _=>none
theorem ue {adr:Nat->Option Addr} {mro:List Value} {c:Nat} (hsub:∀ d D,adr d=some D->mro.contains (.ref D)=Φ.sub c d):∀ {hs:Hs} {rs:List (Addr×TS)},Jw B Φ E adr hs=some rs->SR B F ρ M H->RS B F ρ H σD σ->aW B (AN Φ hs c σD M) F ρ H Dn E ->
  ∃ t,pick mro rs=some t/\t Dn σ H
 | .nil,rs,h,S,r,p=>by simp only [AN] at p;exact p.elim
 | .cons cs b hs,rs,h,S,r,p=>by
  unfold Jw at h
  split at h
  ·rename_i heq;cases heq
  ·rename_i c' b' hs' heq
   cases heq
   split at h
   ·rename_i C r' hC hr
    cases h
    simp only [AN,List.any_cons,List.any_nil,Bool.or_false] at p
    simp only [pick,hsub _ _ hC]
    split at p
    ·rename_i hq
     rw [if_pos hq]
     exact ⟨_,rfl,σD,M,F,ρ,S,r,p⟩
    ·rename_i hq
     rw [if_neg hq]
     exact ue hsub hr S r p
   ·cases h
  ·cases h
end
end Fg
end
section
namespace Fg
open PySem PySem.Spec L2
noncomputable def Je (l:Bool) (h:Heap) (it a:Addr) (k:Nat):Prop:=match l with | true=>h.IsListIter it a k | false=>h.IsTupleIter it a k
noncomputable def DG (l:Bool) (h:Heap) (a:Addr) (xs:Array Value):Prop:=match l with | true=>h.IsList a xs | false=>h.IsTuple a xs
theorem Je.at {l:Bool} {h h':Heap} {it a:Addr} {k:Nat} (x:Je l h it a k) (e:∀ o,h.get? it=some o->h'.get? it=some o):Je l h' it a k:=by
 cases l <;> (obtain ⟨o,h1,h2⟩:=x;exact ⟨o,e o h1,h2⟩)
theorem DG.at {l:Bool} {h h':Heap} {a:Addr} {xs:Array Value} (x:DG l h a xs) (e:∀ o,h.get? a=some o->h'.get? a=some o):DG l h' a xs:=by
 cases l <;> (obtain ⟨o,h1,h2⟩:=x;exact ⟨o,e o h1,h2⟩)
section
variable {prog:Program} {w:World} {A:Around} {E:Value->Shared->Prop} {s:Shared}
end
end Fg
end
section
namespace Fg
open PySem PySem.Spec L2
section
variable {X:Cx} {pins:List (Addr×Obj)} {σ:L2.St} {H:Hp} {s:Shared} {h':Heap}
theorem DN {t':Nat} {ch:List Addr} (I:Inv X pins σ H s) (f:∀ b∈ch,lZ X pins H b) (k:∀ b o,b∉ch->s.heap.get? b=some o->h'.get? b=some o):Inv X pins σ H { s with heap:=h',toks:=t' }:=by
 have off:∀ b u,H b=some u->b∉ch:=fun b u e z=>by rw [(f b z).1] at e;cases e
 refine I.step (g':=s.gens) (d':=s.drawn) (ch:=ch) (fun b hb=>?_) (fun b o _ _ hc e _=>k b o hc e) (fun b o _ _ hc e _=>⟨o.slots,k b o hc e⟩) (fun _ _ _ _ n=>n) (fun b o hc e=>⟨o,k b o hc e⟩) (fun _ _ e=>e) (fun _ _ _ e=>e) (fun b ps e=>⟨#[],by rw [e];simp⟩) (fun m hm=>?_) (fun b u e=>?_) I.bare
 ·obtain ⟨_,f1,_,f3,f4,f5⟩:=f b hb
  exact ⟨f3,f1,f4,f5⟩
 ·obtain ⟨o,es,ep,ho,r⟩:=hm
  exact ⟨o,es,ep,k _ o (fun z=>(f _ z).2.1 rfl) ho,r⟩
 ·refine (I.hok b u e).stay (fun c v hc q=>k c v ?_ q) (fun _ q=>q) fun _ _ q=>q
  rcases hc with z | z
  ·rw [z];exact off b u e
  ·exact off c _ z
end
section
variable {prog:Program} {w:World} {A:Around} {E:Value->Shared->Prop} {s:Shared}
end
noncomputable def SqB (l:Bool) (K:W.Frag) (H:Hp) (a:Addr) (xs:List V):Prop:=match l with | true=>gb K H a xs | false=>jD K H a xs
theorem SqB.at {l:Bool} {X:Cx} {pins:List (Addr×Obj)} {σ:L2.St} {H:Hp} {s:Shared} {a:Addr} {xs:List V} (I:Inv X pins σ H s) (q:SqB l X.K H a xs):∃ its:List Value,Vals xs its/\DG l s.heap a its.toArray:=by
 cases l with
 | true=>obtain ⟨its,rv,p,_⟩:=I.list q;exact ⟨its,rv,p.isList⟩
 | false=>obtain ⟨its,rv,p,_⟩:=I.tuple q;exact ⟨its,rv,p⟩
section
variable {B:Bd} {Φ:aY} {E:Gx} {F F' F0 F1:Addr->Prop} {ρ ρ' ρ0 ρ1:List Addr} {H H' H0 H1:Hp} {M M' M0:MH} {σD:Sg} {σ:L2.St} {Q:VK} {Dn:Ends}
end
end Fg
end
section
namespace Fg
open PySem PySem.Spec L2
noncomputable def Jd (K:W.Frag) (a:Addr) (n:Nat):It :=
 ⟨fun i H=>i<n/\∃ xs x,gb K H a xs/\xs.length=n/\xs[n-1-i]? = some x,fun i H x H'=>H'=H/\∀ xs,gb K H a xs->xs[n-1-i]? = some x,fun i H=>n<=i⟩
theorem xC {P:Program} {w:World} {K:W.Frag} {tg:Expr} {a it:Addr} {n:Nat}:Turn P w K tg (Jd K a n) [it] it (fun i h=>i<=n/\h.IsRevIter it a ((n:Int)-1-(i:Int))) where
 mem:=by simp
 obj:=fun i h st b hb=>by
  have e:b=it:=by simpa using hb
  subst e
  obtain ⟨_,o,e,c,d⟩:=st
  exact ⟨o,e,fun v z=>by rw [d] at z;cases z⟩
 keep:=fun i h h' st k=>⟨st.1,st.2.at fun o e=>k it (by simp) o e⟩
 item:=by
  intro X hP hw hK hc i pins s σ H E I hf st hg
  subst hP hw hK
  obtain ⟨hi,xs,x,q1,hn,hx⟩:=hg
  obtain ⟨its,rv,pl,z⟩:=I.list q1
  obtain ⟨u,hu,ru⟩:=rv.get hx
  have e:(n:Int)-1-(i:Int)=((n-1-i:Nat):Int):=by omega
  obtain ⟨_,st⟩:=st
  rw [e] at st
  refine wpAny_pyNext_rev_item st pl.isList (x:=u) (by simpa using hu) fun h' hit b=>⟨u,rfl,?_⟩
  have e2:((n-1-i:Nat):Int)-1=(n:Int)-1-((i+1:Nat):Int):=by omega
  rw [e2] at hit
  obtain ⟨o,ho,hcl,hd⟩:=id hit
  have I1:Inv X pins σ H { s with heap:=h' }:=DN (t':=s.toks) I (ch:=[it]) (fun c hc=>hf c hc) fun c o hc e=>b.extBut c o (by simpa using hc) e
  refine qw ho hcl hd (by decide) ⟨x,H,I1,ru,⟨rfl,fun ys q=>?_⟩,⟨by omega,hit⟩,fun c hc=>(hf c hc).1⟩
  rw [I.k8 q q1];exact hx
 done:=by
  intro X hP hw hK hc i pins s σ H E I hf st hg
  subst hP hw hK
  obtain ⟨hi,st⟩:=st
  have hg':n<=i:=hg
  have e:(n:Int)-1-(i:Int)=-1:=by omega
  rw [e] at st
  exact wpAny_pyNext_rev_end (I.ok.hd hc) st fun h' b=>⟨rfl,DN (t':=s.toks) I (ch:=[it]) (fun c hc=>hf c hc) fun c o hc e=>b c o (by simpa using hc) e⟩
 self:=fun _ _ _ _ _ st h=>wpAny_pyIter_revIter st.2 h
noncomputable def Lm (K:W.Frag) (t:TA):TI:=fun σ H R=>t σ H fun vs H1=>∃ a xs,vs=[.ref a]/\gb K H1 a xs/\R (Jd K a xs.length) H1
theorem Ga {X:Cx} {tg a:Expr} {t:TA} {p pos:Pos} (hg:Gl X "reversed") (hm:X.mg "reversed" = none) (ha:PA X [a] t) (hs:starEach [a] X.env=[(false, eval a X.env)]) :
  PI X tg (.Call (.Name "reversed" p) [a] [] pos) (Lm X.K t):=by
 intro pins s σ H R I h
 refine PyProof.Rows.Call_ (g9 I hg hm (show bootBuiltins ("reversed" : Str)=some (.type "reversed") by decide +kernel) (PyProof.Rows.callWith_type1 (bz (ha pos pins s σ H _ I h) fun us s1 ⟨vs, H1, I1, r1, q1⟩=>?_) (by rw [hs];rfl) (by rfl)))
 obtain ⟨c,xs,e,q,q2⟩:=q1
 subst e
 obtain ⟨u,rfl,ru⟩:=vals1 r1
 cases ru
 obtain ⟨its,rv,pl,z⟩:=I1.list q
 have l1:=rv.length
 refine call_reversed_list pl.isList ?_
 have I2:Inv X pins σ H1 { s1 with heap:=s1.heap.push (revObj c ((its.toArray.size:Int)-1)) }:=I1.kept (t':=s1.toks) fun c o e=>Heap.get?_push_of_some _ e
 have g0:(s1.heap.push (revObj c ((its.toArray.size:Int)-1))).IsRevIter s1.heap.objs.size c ((its.toArray.size:Int)-1):=⟨_,Heap.get?_push_size _ rfl,rfl,rfl⟩
 have g1:(s1.heap.push (revObj c ((its.toArray.size:Int)-1))).IsRevIter s1.heap.objs.size c ((xs.length:Int)-1-((0:Nat):Int)):=by
  have e:(xs.length:Int)-1-((0:Nat):Int)=(its.toArray.size:Int)-1:=by rw [List.size_toArray,l1];omega
  rw [e];exact g0
 refine wpAny_pyIter_revIter g0 ⟨_,[s1.heap.objs.size],_,_,H1,rfl,I2,xC,⟨Nat.zero_le _,g1⟩,fun x hx=>?_,q2⟩
 have e:x=s1.heap.objs.size:=by simpa using hx
 subst e
 exact I1.wL (Nat.le_refl _) (I1.hok.fresh (Nat.le_refl _))
section
variable {B:Bd} {Φ:aY} {E:Gx} {F F' F0 F1:Addr->Prop} {ρ ρ' ρ0 ρ1:List Addr} {H H' H0 H1:Hp} {M M' M0:MH} {σD:Sg} {σ:L2.St} {Q:VK} {Dn:Ends}
theorem Bj {a:Fg.E} {Rr:It->Hp->Prop} (h:EU B Φ E (.rev a) σ H Rr):Lm B.K (fL (T B Φ E a) jW) σ H Rr:=by
 obtain ⟨σD,M,F,ρ,S,r,h⟩:=h
 show T B Φ E a σ H fun v H1=>∃ c xs,[v]=[.ref c]/\gb B.K H1 c xs/\Rr (Jd B.K c xs.length) H1
 refine ⟨σD,M,F,ρ,S,r,?_⟩
 cases hx:ev Φ a σD M with
 | exc c M1 =>
  have he:bO Φ (.rev a) σD M=.exc c M1:=by simp only [bO,hx,R.lV]
  rw [he] at h;exact h
 | bad =>
  have he:bO Φ (.rev a) σD M=.bad:=by simp only [bO,hx,R.i7]
  rw [he] at h;exact h
 | ok x M1 =>
  intro F1 ρ1 H1 v e1 S1 rx
  cases hfx:uL x with
  | none =>
   have he:bO Φ (.rev a) σD M=.bad:=by simp only [bO,hx,R.af,hfx]
   rw [he] at h;exact h.elim
  | some ds =>
   have he:bO Φ (.rev a) σD M=.ok (.ai,ds.reverse,false) M1:=by simp only [bO,hx,R.af,hfx]
   rw [he] at h
   cases Cq hfx
   simp only [RD] at rx
   obtain ⟨c,xs,rfl,z,q⟩:=rx
   have l1:=ak.length q
   refine ⟨c,xs,rfl,z.sq,h F1 ρ1 H1 _ e1 S1 fun M' hM S'=>?_⟩
   cases hM
   refine ⟨fun i F ρ M H ex S _=>⟨fun d0 hd=>?_,fun hl=>?_⟩,fun z=>by cases z⟩
   ·have zq:gb B.K H c xs:=by
     rcases z with ⟨f,z⟩ | z
     ·exact .inl (ex.toExt0.LO.rd f z)
     ·exact .inr z
    have hi:i<ds.length:=by
     have:=(List.getElem?_eq_some_iff.mp hd).1
     simpa using this
    rw [List.getElem?_reverse hi,l1] at hd
    obtain ⟨v,hv,rv⟩:=ak.get (ak.mono ex _ _ q) hd
    refine ⟨⟨by omega,xs,v,zq,rfl,hv⟩,fun x H' ⟨e',hy⟩=>?_⟩
    subst e'
    have z2:=hy xs zq
    rw [hv] at z2
    cases z2
    exact ⟨F,S.refl,S,rv⟩
   ·rw [List.length_reverse,l1] at hl
    exact hl
end
end Fg
end
section
namespace Fg
open PySem PySem.Spec L2
section
variable {B:Bd} {Φ:aY} {E:Gx} {F F' F1:Addr->Prop} {ρ ρ' ρ1:List Addr} {H H' H1:Hp} {M M':MH} {σD:Sg} {σ:St} {Q:VK}
noncomputable def JP (t:TA):TE:=fun σ H Q=>t σ H fun vs H1=>∃ j:Int,vs=[.int j]/\(-(2 ^ 62)<=j/\j<2 ^ 62)/\j.toNat<=sizeLine/\∀ p,H1 p=none->Q (.ref p) (upd H1 p (.lst (K9 0 j)))
theorem Bs {fz:Bool} {a:Fg.E} (h:T B Φ E (.Ct fz a) σ H Q):JP (fL (T B Φ E a) jW) σ H Q:=by
 obtain ⟨σD,M,F,ρ,S,r,h⟩:=h
 simp only [ev] at h
 refine T.one S r rfl h fun x M1 F1 ρ1 H1 v e1 S1 r1 rx h1=>?_
 split at h1
 ·rename_i j
  split at h1
  ·rename_i hq
   simp only [mZ,decide_eq_true_eq] at hq
   simp only [RD] at rx
   subst rx
   exact ⟨j,rfl,⟨by omega,by omega⟩,Nat.le_trans (by unfold line;omega) bN,dD S1 h1 BG⟩
  ·exact h1.elim
 ·exact h1.elim
end
section
variable {X:Cx} {t:TA} {te ts:TE} {e st:Expr} {pos p2:Pos}
theorem Gk {a:Expr} {p1 p2 q1 q2:Pos} (hc:X.calm=true) (hgl:Gl X "list") (hml:X.mg "list" = none) (hgr:Gl X "range") (hmr:X.mg "range" = none) (ha:PA X [a] t) (hs:starEach [a] X.env=[(false, eval a X.env)]) :
  PE X (.Call (.Name "list" p1) [.Call (.Name "range" p2) [a] [] q2] [] q1) (JP t):=by
 intro pins s σ H Q I h
 refine wpAny_Call_Name_kw (g9 I hgl hml (show bootBuiltins ("list" : Str)=some (.type "list") by decide +kernel) ?_ (by decide) (by decide))
 refine PyProof.Rows.callWith_type1 ?_ rfl rfl
 show wpAny _ _ (spliced ((false, eval (.Call (.Name "range" p2) [a] [] q2) X.env)::backTo q1 (starEach [] X.env))) _ _ s
 refine Calls.spliced_cons ?_
 refine wpAny_Call_Name_kw (g9 I hgr hmr PyProof.Rows.boot_range (PyProof.Rows.callWith_type1 (bz (ha q2 pins s σ H _ I h) fun us s1 ⟨vs,H1,I1,r1,q1⟩=>?_) (by rw [hs];rfl) (by rfl)) (by decide) (by decide))
 obtain ⟨j,e,⟨b3,b4⟩,hz,q⟩:=q1
 subst e
 cases r1 with
 | cons r rr =>
  cases rr
  obtain ⟨t',rfl⟩:=r
  refine call_range_1 ?_
  refine Calls.spliced_nil ?_
  have I2:Inv X pins σ H1 { s1 with heap:=s1.heap.push { cls:=.type "range", data:=.fields #[.int 0 s1.toks, .int j t', .int 1 (s1.toks+1)] }, toks:=s1.toks+1+1 }:=I1.kept fun b o e=>Heap.get?_push_of_some _ e
  have hn:Builtin.Range.rangeSize 0 j 1=(((j-0).toNat:Nat):Int):=by rw [rangeSize_one];split <;> omega
  refine call_list_range (n:=(j-0).toNat) (I2.ok.hd hc) (IsRange.new ..) (small_one (by decide) (by decide) b3 b4) hn (by rw [Int.sub_zero];exact hz) fun h' tk acc' c' hk hS' hacc=>?_
  have va:=rB hacc
  refine ⟨.ref _,_,I2.laid (h':=h') (t':=tk) (o:=.lst (K9 0 j)) hk (Nat.le_refl _) ⟨by unfold K9;rw [List.length_map,List.length_range,Int.sub_zero];exact hz,acc'.toList,c',va,by simpa using hS'⟩,rfl,q _ (I2.hok.fresh (Nat.le_refl _))⟩
end
end Fg
end
section
namespace Fg
open PySem PySem.Spec L2
structure Gm where
 fns:List (Str×Nat×Nat)
 cst:List (Str×Nat)
 lU:List Str
 cls:List (Str×Nat×Nat×Nat):=[]
 Ck:List ((Nat×Str)×Nat×Nat):=[]
 CT:List Str:=[]
 exc:List (Str×Nat):=[]
 Df:List (Str×Nat×Nat×Int):=[]
 rz:Bool:=true
inductive Nd where
 | e (a:Expr) (c:E)
 | t (a:Expr) (c:E)
 | es (a:List Expr) (c:Es)
 | o (a:Option Expr) (c:O)
 | i (a:Expr) (c:Src)
 | s (a:Stmt) (c:S)
 | ss (a:List Stmt) (c:Ss)
 | m (a:List Expr) (c:Es)
noncomputable def nD (x:Str):Bool:=!(x == ("__debug__" : Str))&&!(x == ("__classdict__" : Str))
noncomputable def EY (sc:Scope) (x:Str):Bool:=match sc.names.lookup x with | some .local=>true | some .cell=>true | some .free=>true | _=>false
noncomputable def Cu (sc:Scope) (x:Str):Bool:=match sc.names.lookup x with | some .local=>true | some .cell=>true | _=>false
noncomputable def gj (sc:Scope) (x:Str):Bool:=match sc.names.lookup x with | some .globalImplicit=>true | _=>false
noncomputable def bS:Expr->Bool | .Starred _ _=>false | _=>true
noncomputable def m6:Expr->Bool | .ListComp _ _ _ _=>false | .SetComp _ _ _ _=>false | .DictComp _ _ _ _ _=>false | _=>true
noncomputable def yN:Expr->Bool | .Set _ _ _=>false | _=>true
noncomputable def nSl:Expr->Bool | .Slice _ _ _ _=>false | _=>true
noncomputable def r6:Expr->Bool | .UnaryOp _ _ _=>false | .BoolOp _ _ _=>false | .IfExp _ _ _ _=>false | .Compare _ _ _ _=>false | _=>true
noncomputable def yO:Expr->Bool | .Call (.Name _ _) _ _ _=>false | _=>true
noncomputable def Dh:Const->D->Bool
 | .int i,.int j=>decide (i=j)
 | .str x,.str y=>decide (x=y)
 | .bool a,.bl b=>decide (a=b)
 | .none,.ai=>true
 | _,_=>false
noncomputable def f1S:F1->Str
 | .abs=>"abs" | .int=>"int"
noncomputable def Eh:Mt->Option Str
 | .pop=>some "pop" | .reverse=>some "reverse" | _=>none
noncomputable def Mi:Bl->Option Str
 | .len=>some "len" | .list=>some "list" | _=>none
noncomputable def yh (scope sc:Scope):Scope :=
 { scope with names:=scope.names.map fun (n,k)=>if (k == .free&&sc.kind == .function&&sc.names.lookup n == some .cell) then (n,.cell) else (n,k) }
noncomputable def Cw (sc:Scope) (x:Str):Bool:=match sc.names.lookup x with | some .local=>true | _=>false
theorem aR {P:Prop} (h:false=true):P:=Bool.noConfusion h
@[irreducible] noncomputable def fO (a:Expr) (k:Str->Bool):Bool:=match a with | .Name x _=>k x | _=>false
theorem cj {a:Expr} {k:Str->Bool} (h:fO a k=true):∃ x p,a=.Name x p/\k x=true:=by
 unfold fO at h
 cases a <;> first | exact ⟨_,_,rfl,h⟩ | exact aR h
@[irreducible] noncomputable def kNm (a:Expr) (k:Str->Pos->Bool):Bool:=match a with | .Name x p=>k x p | _=>false
theorem Lg {a:Expr} {k:Str->Pos->Bool} (h:kNm a k=true):∃ x p,a=.Name x p/\k x p=true:=by
 unfold kNm at h
 cases a <;> first | exact ⟨_,_,rfl,h⟩ | exact aR h
@[irreducible] noncomputable def CF (a:Expr) (k:Const->Bool):Bool:=match a with | .Constant c _ _=>k c | _=>false
theorem zv {a:Expr} {k:Const->Bool} (h:CF a k=true):∃ c j p,a=.Constant c j p/\k c=true:=by
 unfold CF at h
 cases a <;> first | exact ⟨_,_,_,rfl,h⟩ | exact aR h
@[irreducible] noncomputable def zo (a:Expr) (k:List Expr->Bool):Bool:=match a with | .Tuple as _ _=>k as | _=>false
theorem ly {a:Expr} {k:List Expr->Bool} (h:zo a k=true):∃ as c p,a=.Tuple as c p/\k as=true:=by
 unfold zo at h
 cases a <;> first | exact ⟨_,_,_,rfl,h⟩ | exact aR h
@[irreducible] noncomputable def Hv (a:Expr) (k:List Expr->Bool):Bool:=match a with | .List as _=>k as | _=>false
theorem Hu {a:Expr} {k:List Expr->Bool} (h:Hv a k=true):∃ as p,a=.List as p/\k as=true:=by
 unfold Hv at h
 cases a <;> first | exact ⟨_,_,rfl,h⟩ | exact aR h
@[irreducible] noncomputable def HE (a:Expr) (k:Expr->Operator->Expr->Bool):Bool:=match a with | .BinOp l p r _=>k l p r | _=>false
theorem HD {a:Expr} {k:Expr->Operator->Expr->Bool} (h:HE a k=true):∃ l o r p,a=.BinOp l o r p/\k l o r=true:=by
 unfold HE at h
 cases a <;> first | exact ⟨_,_,_,_,rfl,h⟩ | exact aR h
@[irreducible] noncomputable def sI:UnaryOp->Bool | .USub=>true | _=>false
@[irreducible] noncomputable def uV:UnaryOp->Bool | .Not=>true | _=>false
@[irreducible] noncomputable def Lf (a:Expr) (k:UnaryOp->Expr->Bool):Bool:=match a with | .UnaryOp o l _=>k o l | _=>false
theorem zm {a:Expr} {k:UnaryOp->Expr->Bool} (h:Lf a k=true):∃ o l p,a=.UnaryOp o l p/\k o l=true:=by
 unfold Lf at h
 cases a <;> first | exact ⟨_,_,_,rfl,h⟩ | exact aR h
theorem zC {o:UnaryOp} (h:sI o=true):o=.USub:=by
 unfold sI at h
 cases o <;> first | rfl | exact aR h
theorem uU {o:UnaryOp} (h:uV o=true):o=.Not:=by
 unfold uV at h
 cases o <;> first | rfl | exact aR h
@[irreducible] noncomputable def jL:BoolOp->Bool | .And=>true | .Or=>false
theorem uX {o:BoolOp} (h:jL o=true):o=.And:=by
 unfold jL at h
 cases o <;> first | rfl | exact aR h
theorem zD {o:BoolOp} (h:jL o=false):o=.Or:=by
 unfold jL at h
 cases o <;> first | rfl | cases h
@[irreducible] noncomputable def Jj (a:Expr) (k:BoolOp->Expr->Expr->Bool):Bool:=match a with
 | .BoolOp o vs p=>(match vs with
  | v::ws=>(match ws with
   | w::r=>k o v (.BoolOp o (w::r) p)
   | []=>false)
  | []=>false)
 | _=>false
theorem uR {a:Expr} {k:BoolOp->Expr->Expr->Bool} (h:Jj a k=true):∃ o v w r p,a=.BoolOp o (v::w::r) p/\k o v (.BoolOp o (w::r) p)=true:=by
 unfold Jj at h
 cases a with
 | BoolOp o vs p =>
  cases vs with
  | nil=>exact aR h
  | cons v ws=>cases ws with
   | nil=>exact aR h
   | cons w r=>exact ⟨_,_,_,_,_,rfl,h⟩
 | _=>exact aR h
@[irreducible] noncomputable def uF (a:Expr) (k:Expr->Bool) (d:Bool):Bool:=match a with
 | .BoolOp _ vs _=>(match vs with
  | v::ws=>(match ws with
   | []=>k v
   | _::_=>d)
  | []=>d)
 | _=>d
theorem uE {a:Expr} {k:Expr->Bool} {d:Bool} (h:uF a k d=true):(∃ o v p,a=.BoolOp o [v] p/\k v=true)\/d=true:=by
 unfold uF at h
 cases a with
 | BoolOp o vs p =>
  cases vs with
  | nil=>exact .inr h
  | cons v ws=>cases ws with
   | nil=>exact .inl ⟨_,_,_,rfl,h⟩
   | cons w r=>exact .inr h
 | _=>exact .inr h
@[irreducible] noncomputable def k1 {α:Type} (as:List α) (k:α->Bool):Bool:=match as with | l::r=>r.isEmpty&&k l | []=>false
theorem gG {α:Type} {as:List α} {k:α->Bool} (h:k1 as k=true):∃ l,as=[l]/\k l=true:=by
 unfold k1 at h
 cases as with
 | nil=>exact aR h
 | cons l r=>cases r with
  | nil=>exact ⟨_,rfl,h⟩
  | cons _ _=>exact aR h
@[irreducible] noncomputable def k2 {α:Type} (as:List α) (k:α->α->Bool):Bool:=match as with | l::r=>k1 r (k l) | []=>false
theorem CI {α:Type} {as:List α} {k:α->α->Bool} (h:k2 as k=true):∃ l r,as=[l,r]/\k l r=true:=by
 unfold k2 at h
 cases as with
 | nil=>exact aR h
 | cons l r =>
  replace h:=gG h
  obtain ⟨x,rfl,h⟩:=h
  exact ⟨_,_,rfl,h⟩
@[irreducible] noncomputable def CG (a:Expr) (k:Expr->CmpOp->Expr->Bool):Bool:=match a with | .Compare l ps rs _=>k1 ps fun p=>k1 rs fun r=>k l p r | _=>false
theorem zw {a:Expr} {k:Expr->CmpOp->Expr->Bool} (h:CG a k=true):∃ l o r p,a=.Compare l [o] [r] p/\k l o r=true:=by
 unfold CG at h
 cases a with
 | Compare l ps rs p =>
  replace h:=gG h
  obtain ⟨o,rfl,h⟩:=h
  replace h:=gG h
  obtain ⟨r,rfl,h⟩:=h
  exact ⟨_,_,_,_,rfl,h⟩
 | _=>exact aR h
@[irreducible] noncomputable def Hz (a:Expr) (k:Expr->Expr->Expr->Bool):Bool:=match a with | .IfExp u l r _=>k u l r | _=>false
theorem Hy {a:Expr} {k:Expr->Expr->Expr->Bool} (h:Hz a k=true):∃ u l r p,a=.IfExp u l r p/\k u l r=true:=by
 unfold Hz at h
 cases a <;> first | exact ⟨_,_,_,_,rfl,h⟩ | exact aR h
@[irreducible] noncomputable def zu (a:Expr) (k:Expr->Expr->Bool):Bool:=match a with | .Subscript l r _=>k l r | _=>false
theorem sE {a:Expr} {k:Expr->Expr->Bool} (h:zu a k=true):∃ l r p,a=.Subscript l r p/\k l r=true:=by
 unfold zu at h
 cases a <;> first | exact ⟨_,_,_,rfl,h⟩ | exact aR h
@[irreducible] noncomputable def Hg (a:Expr) (k:Option Expr->Option Expr->Bool):Bool:=match a with | .Slice u v s _=>s.isNone&&k u v | _=>false
theorem Hf {a:Expr} {k:Option Expr->Option Expr->Bool} (h:Hg a k=true):∃ u v p,a=.Slice u v none p/\k u v=true:=by
 unfold Hg at h
 cases a with
 | Slice u v s p=>cases s with
  | none=>exact ⟨_,_,_,rfl,h⟩
  | some _=>exact aR h
 | _=>exact aR h
@[irreducible] noncomputable def CH (a:Expr) (k:Expr->List Expr->Pos->Bool):Bool:=match a with | .Call f as kw p=>kw.isEmpty&&k f as p | _=>false
theorem zx {a:Expr} {k:Expr->List Expr->Pos->Bool} (h:CH a k=true):∃ f as p,a=.Call f as [] p/\k f as p=true:=by
 unfold CH at h
 cases a with
 | Call f as kw p=>cases kw with
  | nil=>exact ⟨_,_,_,rfl,h⟩
  | cons _ _=>exact aR h
 | _=>exact aR h
@[irreducible] noncomputable def uQ (a:Expr) (k:Str->List Expr->Bool):Bool:=CH a fun f as _=>fO f fun x=>k x as
theorem fP {a:Expr} {k:Str->List Expr->Bool} (h:uQ a k=true):∃ x q as p,a=.Call (.Name x q) as [] p/\k x as=true:=by
 unfold uQ at h
 replace h:=zx h
 obtain ⟨f,as,p,rfl,h⟩:=h
 replace h:=cj h
 obtain ⟨x,q,rfl,h⟩:=h
 exact ⟨_,_,_,_,rfl,h⟩
@[irreducible] noncomputable def zy (a:Expr) (k:Expr->Str->Pos->Bool):Bool:=match a with | .Attribute o y p=>k o y p | _=>false
theorem sF {a:Expr} {k:Expr->Str->Pos->Bool} (h:zy a k=true):∃ o y p,a=.Attribute o y p/\k o y p=true:=by
 unfold zy at h
 cases a <;> first | exact ⟨_,_,_,rfl,h⟩ | exact aR h
@[irreducible] noncomputable def Ng (a:Expr) (k:Expr->Str->Pos->List Expr->Pos->Bool):Bool:=CH a fun f as p=>zy f fun o y q=>k o y q as p
theorem Em {a:Expr} {k:Expr->Str->Pos->List Expr->Pos->Bool} (h:Ng a k=true):∃ o y q as p,a=.Call (.Attribute o y q) as [] p/\k o y q as p=true:=by
 unfold Ng at h
 replace h:=zx h
 obtain ⟨f,as,p,rfl,h⟩:=h
 replace h:=sF h
 obtain ⟨o,y,q,rfl,h⟩:=h
 exact ⟨_,_,_,_,_,rfl,h⟩
@[irreducible] noncomputable def Nf (a:Expr) (k:Expr->Expr->Expr->List Expr->Scope->Pos->Bool):Bool:=match a with
 | .ListComp el gs scope p=>k1 gs fun g=>decide (g.is_async=0)&&k el g.target g.iter g.ifs scope p
 | _=>false
theorem El {a:Expr} {k:Expr->Expr->Expr->List Expr->Scope->Pos->Bool} (h:Nf a k=true):∃ el tn it ifs sc p,a=.ListComp el [⟨tn,it,ifs,0⟩] sc p/\k el tn it ifs sc p=true:=by
 unfold Nf at h
 cases a with
 | ListComp el gs sc p =>
  replace h:=gG h
  obtain ⟨g,rfl,h⟩:=h
  obtain ⟨tn,it,ifs,j⟩:=g
  have h:=(Bool.and_eq_true _ _).mp h
  have e:j=0:=of_decide_eq_true h.1
  subst e
  exact ⟨_,_,_,_,_,_,rfl,h.2⟩
 | _=>exact aR h
@[irreducible] noncomputable def Ht (a:Expr) (d:Bool) (k:List Expr->Bool):Bool:=match a with
 | .Constant c _ _=>(match c with | .str _=>d | _=>false)
 | .JoinedStr vs _=>k vs
 | _=>false
theorem Hr {a:Expr} {d:Bool} {k:List Expr->Bool} (h:Ht a d k=true):(∃ x j p,a=.Constant (.str x) j p/\d=true)\/∃ vs p,a=.JoinedStr vs p/\k vs=true:=by
 unfold Ht at h
 cases a with
 | Constant c j p=>cases c with
  | str x=>exact .inl ⟨_,_,_,rfl,h⟩
  | _=>exact aR h
 | JoinedStr vs p=>exact .inr ⟨_,_,rfl,h⟩
 | _=>exact aR h
@[irreducible] noncomputable def Hq (a:Expr) (s:Str->Bool) (k:Expr->Int->Bool):Bool:=match a with
 | .Constant c _ _=>(match c with | .str y=>s y | _=>false)
 | .FormattedValue v j f _=>f.isNone&&k v j
 | _=>false
theorem Ho {a:Expr} {s:Str->Bool} {k:Expr->Int->Bool} (h:Hq a s k=true):(∃ y j p,a=.Constant (.str y) j p/\s y=true)\/∃ v j p,a=.FormattedValue v j none p/\k v j=true:=by
 unfold Hq at h
 cases a with
 | Constant c j p=>cases c with
  | str x=>exact .inl ⟨_,_,_,rfl,h⟩
  | _=>exact aR h
 | FormattedValue v j f p=>cases f with
  | none=>exact .inr ⟨_,_,_,rfl,h⟩
  | some _=>exact aR h
 | _=>exact aR h
@[irreducible] noncomputable def sG (a:Stmt) (k:Expr->Expr->Bool):Bool:=match a with | .Assign ts e _=>k1 ts fun t=>k t e | _=>false
theorem lz {a:Stmt} {k:Expr->Expr->Bool} (h:sG a k=true):∃ t e p,a=.Assign [t] e p/\k t e=true:=by
 unfold sG at h
 cases a with
 | Assign ts e p =>
  replace h:=gG h
  obtain ⟨t,rfl,h⟩:=h
  exact ⟨_,_,_,rfl,h⟩
 | _=>exact aR h
@[irreducible] noncomputable def HC (a:Stmt) (k:Expr->Bool):Bool:=match a with | .Expr e _=>k e | _=>false
theorem HB {a:Stmt} {k:Expr->Bool} (h:HC a k=true):∃ e p,a=.Expr e p/\k e=true:=by
 unfold HC at h
 cases a <;> first | exact ⟨_,_,rfl,h⟩ | exact aR h
@[irreducible] noncomputable def Hi (a:Stmt) (d:Bool) (k:Expr->Bool):Bool:=match a with
 | .Return o _=>(match o with | some e=>k e | none=>d)
 | _=>false
theorem Hh {a:Stmt} {d:Bool} {k:Expr->Bool} (h:Hi a d k=true):(∃ p,a=.Return none p/\d=true)\/∃ e p,a=.Return (some e) p/\k e=true:=by
 unfold Hi at h
 cases a with
 | Return o p=>cases o with
  | none=>exact .inl ⟨_,rfl,h⟩
  | some e=>exact .inr ⟨_,_,rfl,h⟩
 | _=>exact aR h
@[irreducible] noncomputable def Hx (a:Stmt) (k:Expr->List Stmt->List Stmt->Bool):Bool:=match a with | .If t l r _=>k t l r | _=>false
theorem Hw {a:Stmt} {k:Expr->List Stmt->List Stmt->Bool} (h:Hx a k=true):∃ t l r p,a=.If t l r p/\k t l r=true:=by
 unfold Hx at h
 cases a <;> first | exact ⟨_,_,_,_,rfl,h⟩ | exact aR h
@[irreducible] noncomputable def kFor (a:Stmt) (k:Expr->Expr->List Stmt->Bool):Bool:=match a with | .For t i b e _=>e.isEmpty&&k t i b | _=>false
theorem HA {a:Stmt} {k:Expr->Expr->List Stmt->Bool} (h:kFor a k=true):∃ t i b p,a=.For t i b [] p/\k t i b=true:=by
 unfold kFor at h
 cases a with
 | For t i b e p=>cases e with
  | nil=>exact ⟨_,_,_,_,rfl,h⟩
  | cons _ _=>exact aR h
 | _=>exact aR h
@[irreducible] noncomputable def kWh (a:Stmt) (k:Expr->List Stmt->Bool):Bool:=match a with | .While t b e _=>e.isEmpty&&k t b | _=>false
theorem Le {a:Stmt} {k:Expr->List Stmt->Bool} (h:kWh a k=true):∃ t b p,a=.While t b [] p/\k t b=true:=by
 unfold kWh at h
 cases a with
 | While t b e p=>cases e with
  | nil=>exact ⟨_,_,_,rfl,h⟩
  | cons _ _=>exact aR h
 | _=>exact aR h
@[irreducible] noncomputable def Hl (a:Stmt) (k:Expr->Bool):Bool:=match a with
 | .Raise o c _=>c.isNone&&(match o with | some e=>k e | none=>false)
 | _=>false
theorem Hj {a:Stmt} {k:Expr->Bool} (h:Hl a k=true):∃ e p,a=.Raise (some e) none p/\k e=true:=by
 unfold Hl at h
 cases a with
 | Raise o c p=>cases c with
  | none=>cases o with
   | none=>exact aR h
   | some e=>exact ⟨_,_,rfl,h⟩
  | some _=>exact aR h
 | _=>exact aR h
@[irreducible] noncomputable def G9 (a:Stmt) (k:List Stmt->List ExceptHandler->Bool):Bool:=match a with
 | .Try bd hs e f _=>e.isEmpty&&(f.isEmpty&&(!hs.isEmpty&&k bd hs))
 | _=>false
theorem G8 {a:Stmt} {k:List Stmt->List ExceptHandler->Bool} (h:G9 a k=true):∃ bd h₀ hr p,a=.Try bd (h₀::hr) [] [] p/\k bd (h₀::hr)=true:=by
 unfold G9 at h
 cases a with
 | Try bd hs e f p=>cases e with
  | nil=>cases f with
   | nil=>cases hs with
    | nil=>exact aR h
    | cons _ _=>exact ⟨_,_,_,_,rfl,h⟩
   | cons _ _=>exact aR h
  | cons _ _=>exact aR h
 | _=>exact aR h
@[irreducible] noncomputable def kHd (a:ExceptHandler) (k:Expr->List Stmt->Bool):Bool:=match a with
 | .ExceptHandler t n b _=>n.isNone&&(match t with | some t=>k t b | none=>false)
theorem Lh {a:ExceptHandler} {k:Expr->List Stmt->Bool} (h:kHd a k=true):∃ t b p,a=.ExceptHandler (some t) none b p/\k t b=true:=by
 unfold kHd at h
 cases a with
 | ExceptHandler t n b p=>cases n with
  | none=>cases t with
   | none=>exact aR h
   | some t=>exact ⟨_,_,_,rfl,h⟩
  | some _=>exact aR h
@[irreducible] noncomputable def nk:Es->Bool | .nil=>true | .cons _ _=>false
theorem iX {c:Es} (h:nk c=true):c=.nil:=by
 unfold nk at h
 cases c <;> first | rfl | exact aR h
@[irreducible] noncomputable def pM:Ss->Bool | .nil=>true | .cons _ _=>false
theorem nL {c:Ss} (h:pM c=true):c=.nil:=by
 unfold pM at h
 cases c <;> first | rfl | exact aR h
@[irreducible] noncomputable def zI:Hs->Bool | .nil=>true | .cons _ _ _=>false
theorem CL {c:Hs} (h:zI c=true):c=.nil:=by
 unfold zI at h
 cases c <;> first | rfl | exact aR h
@[irreducible] noncomputable def Ni (c:Es) (k:E->Es->Bool):Bool:=match c with | .cons e es=>k e es | .nil=>false
theorem zz {c:Es} {k:E->Es->Bool} (h:Ni c k=true):∃ e es,c=.cons e es/\k e es=true:=by
 unfold Ni at h
 cases c <;> first | exact ⟨_,_,rfl,h⟩ | exact aR h
@[irreducible] noncomputable def Nh (c:Ss) (k:S->Ss->Bool):Bool:=match c with | .cons e es=>k e es | .nil=>false
theorem En {c:Ss} {k:S->Ss->Bool} (h:Nh c k=true):∃ e es,c=.cons e es/\k e es=true:=by
 unfold Nh at h
 cases c <;> first | exact ⟨_,_,rfl,h⟩ | exact aR h
@[irreducible] noncomputable def jHs (c:Hs) (k:List Nat->Ss->Hs->Bool):Bool:=match c with | .cons a b d=>k a b d | .nil=>false
theorem Li {c:Hs} {k:List Nat->Ss->Hs->Bool} (h:jHs c k=true):∃ a b d,c=.cons a b d/\k a b d=true:=by
 unfold jHs at h
 cases c <;> first | exact ⟨_,_,_,rfl,h⟩ | exact aR h
@[irreducible] noncomputable def HG (c:S) (k:Nat->E->Bool):Bool:=match c with | .set i e=>k i e | _=>false
theorem HF {c:S} {k:Nat->E->Bool} (h:HG c k=true):∃ i e,c=.set i e/\k i e=true:=by
 unfold HG at h
 cases c <;> first | exact ⟨_,_,rfl,h⟩ | exact aR h
@[irreducible] noncomputable def jK (c:E) (k:D->Bool):Bool:=match c with | .k d=>k d | _=>false
theorem jK_t {c:E} {k:D->Bool} (h:jK c k=true):∃ d,c=.k d/\k d=true:=by
 unfold jK at h
 cases c <;> first | exact ⟨_,rfl,h⟩ | exact aR h
@[irreducible] noncomputable def zA (c:E) (k:List Nat->List Nat->E->Src->O->Bool) (d:Bool):Bool:=match c with | .comp _ caps tg elt it cond=>k caps tg elt it cond | _=>d
theorem CJ {c:E} {k:List Nat->List Nat->E->Src->O->Bool} {d:Bool} (h:zA c k d=true):(∃ fz caps tg elt it cond,c=.comp fz caps tg elt it cond/\k caps tg elt it cond=true)\/d=true:=by
 unfold zA at h
 cases c <;> first | exact .inl ⟨_,_,_,_,_,_,rfl,h⟩ | exact .inr h
noncomputable def KW (N:List Str) (sc:Scope) (i:Nat) (x:Str):Bool:=decide (N[i]? = some x)&&Cw sc x
noncomputable def Cg (N:List Str) (sc:Scope):List Expr->List Nat->Bool
 | [],[]=>true
 | a::as,i::is=>fO a (fun x=>KW N sc i x)&&Cg N sc as is
 | _,_=>false
noncomputable def JE (N:List Str) (sc:Scope) (t:Expr) (is:List Nat):Bool:=match is with
 | []=>false
 | i::r=>match r with
  | []=>fO t fun x=>KW N sc i x
  | j::r=>match r with
   | []=>zo t fun as=>k2 as fun l r=>fO l fun x=>fO r fun y=>KW N sc i x&&KW N sc j y
   | l::r=>zo t fun as=>Cg N sc as (i::j::l::r)
noncomputable def Nj:Src->Bool | .zip _ _=>true | _=>false
noncomputable def isTup:Expr->Bool | .Tuple _ _ _=>true | _=>false
noncomputable def Lk:Expr->Bool | .Call _ _ _ _=>true | .Name _ _=>true | .Subscript _ _ _=>true | _=>false
noncomputable def fT (N:List Str) (caps:List Nat) (tn:List Str):List Str:=(caps.map fun i=>(N[i]?).getD ("" : Str))++tn
noncomputable def nmOf:Expr->Str
 | .Name x _=>x
 | _=>""
noncomputable def dw:Expr->List Str
 | .Name x _=>[x]
 | .Tuple as _ _=>as.map nmOf
 | _=>[]
noncomputable def Ak (N:List Str) (sc scope:Scope) (caps:List Nat) (tn:List Str):Bool :=
 (scope.names.all fun y=>match y.2 with
  | .free=>(match sc.names.lookup y.1 with | some .cell=>true | some .free=>true | _=>false)
  | .cell=>false
  | .local=>(match scope.names.lookup y.1 with | some .local=>true | _=>false)
  | _=>true)&&(scope.kind == .function) &&
 (caps.all fun i=>match N[i]? with
  | some x=>(match scope.names.lookup x with | some .free=>true | _=>false)
  | none=>false)&&decide ((fT N caps tn).Nodup)
noncomputable def xN (sc scope:Scope) (x:Str) (px pv:Pos):Bool :=
 ((if sc.kind.isAnnotationScope then .function else sc.kind) == .function)&&sc.names.lookup x == some .local&&px.line == pv.line&&!(scope.names.any fun (n,k)=>n == x&&(k == .local||k == .cell))
noncomputable def hdB (G:Gm) (N:List Str) (sc:Scope):List ExceptHandler->Hs->Bool
 | [],hs=>zI hs
 | h::r,hs=>kHd h fun t bd=>fO t fun x=>k1 bd fun st=>sG st fun ty e=>fO ty fun y=>CF e fun k=>jHs hs fun cs b hs=>k1 cs fun c=>Nh b fun s ss=>pM ss&&HG s fun i v=>jK v fun d =>
  gj sc x&&nD x&&decide (G.exc.lookup x=some c)&&decide (N[i]? = some y)&&Cu sc y&&Dh k d&&hdB G N sc r hs
noncomputable abbrev Rec:=Gm->Bool->List Str->Scope->Nd->Bool
noncomputable def ifsB (ifs:List Expr) (cond:O) (k:Expr->E->Bool):Bool:=match cond with
 | .none=>ifs.isEmpty
 | .some d=>k1 ifs fun c=>k c d
noncomputable def M9 (r:Rec) (G:Gm) (b:Bool) (N:List Str) (sc:Scope) (caps tg:List Nat) (elt:E) (it:Src) (cond:O) (el tn iter:Expr) (ifs:List Expr) (scope:Scope):Bool :=
 (!Nj it||isTup tn)&&yN iter&&Ak N sc scope caps (dw tn)&&r G b N sc (.i iter it) &&
  JE (fT N caps (dw tn)) (yh scope sc) tn tg&&r G true (fT N caps (dw tn)) (yh scope sc) (.e el elt) &&
  ifsB ifs cond fun c d=>r G true (fT N caps (dw tn)) (yh scope sc) (.t c d)
noncomputable def Lj:Mt->Bool | .append=>true | .extend=>true | _=>false
noncomputable def K3:Mt->Str | .append=>"append" | _=>"extend"
noncomputable def chkE (r:Rec) (G:Gm) (b:Bool) (N:List Str) (sc:Scope) (a:Expr) (c:E):Bool:=match c with
 | .bad=>true
 | .v i=>fO a fun x=>decide (N[i]? = some x)&&EY sc x&&nD x
 | .k d=>CF a fun k=>Dh k d
 | .g i=>fO a fun x=>gj sc x&&decide (G.cst.lookup x=some i)&&nD x
 | .tup cs=>zo a fun as=>decide (as.length<=100)&&r G b N sc (.es as cs)
 | .lst _ cs=>Hv a fun as=>decide (as.length<=100)&&r G b N sc (.es as cs)
 | .op o _ x y=>HE a fun l p q=>decide (p=binOp o)&&r G b N sc (.e l x)&&r G b N sc (.e q y)
 | .neg x=>Lf a fun o l=>sI o&&r G b N sc (.e l x)
 | .not x=>Lf a fun o l=>uV o&&r G b N sc (.e l x)
 | .and x y=>Jj a fun o v w=>jL o&&r G b N sc (.e v x)&&r G b N sc (.e w y)
 | .or x y=>Jj a fun o v w=>!jL o&&r G b N sc (.e v x)&&r G b N sc (.e w y)
 | .cmp o x y=>CG a fun l p q=>decide (p=Am o)&&!(behindInMarks p q)&&r G b N sc (.e l x)&&r G b N sc (.e q y)
 | .AL t x y=>Hz a fun u l q=>r G b N sc (.t u t)&&r G b N sc (.e l x)&&r G b N sc (.e q y)
 | .idx x y=>zu a fun l q=>nSl q&&r G b N sc (.e l x)&&r G b N sc (.e q y)
 | .sl _ x lo hi=>zu a fun l q=>Hg q fun u v=>r G b N sc (.e l x)&&r G b N sc (.o u lo)&&r G b N sc (.o v hi)
 | .call f cs=>uQ a fun x as=>gj sc x&&nD x&&decide (G.fns.lookup x=some (f,as.length))&&as.all bS&&r G b N sc (.es as cs)
 | .gW f cs d=>uQ a fun x as=>gj sc x&&nD x&&decide (G.Df.lookup x=some (f,as.length+1,d))&&!as.isEmpty&&as.all bS&&r G b N sc (.es as cs)
 | .fV x t=>uQ a fun y as=>k2 as fun l z'=>fO z' fun z=>decide (y = "isinstance")&&decide (z=Str.ofString (pH t))&&gj sc y&&gj sc z&&G.lU.contains y&&G.lU.contains z&&bS l&&r G b N sc (.e l x)
 | .blt k _ cs=>uQ a fun y as=>k1 as fun l=>decide (Mi k=some y)&&gj sc y&&G.lU.contains y&&bS l&&r G b N sc (.es [l] cs)
 | .aG m _ x cs=>Ng a fun o y ap as cp=>yO o&&(ap.endLine == cp.line)&&r G b N sc (.e o x) &&
  bif Lj m then decide (K3 m=y)&&k1 as fun l=>bS l&&r G b N sc (.es [l] cs)
  else decide (Eh m=some y)&&as.isEmpty&&nk cs
 | .comp _ caps tg elt it cond=>!b&&Nf a fun el tn iter ifs scope _=>M9 r G b N sc caps tg elt it cond el tn iter ifs scope
 | .fld x f=>zy a fun l y _=>decide (y=f)&&G.CT.contains f&&yO l&&r G b N sc (.e l x)
 | .dS c m nm x cs=>Ng a fun o y ap as cp=>decide (y=nm)&&yO o&&(ap.endLine == cp.line)&&decide (as.length<29)&&decide (G.Ck.lookup (c,nm)=some (m,as.length+1))&&as.all bS&&r G b N sc (.e o x)&&r G b N sc (.es as cs)
 | .new c i cs=>uQ a fun x as=>gj sc x&&nD x&&decide (G.cls.lookup x=some (c,i,as.length+1))&&as.all bS&&r G b N sc (.es as cs)
 | .mx hi x y=>uQ a fun z as=>k2 as fun l q=>decide (z=if hi then "max" else "min")&&gj sc z&&G.lU.contains z&&bS l&&bS q&&r G b N sc (.e l x)&&r G b N sc (.e q y)
 | .ou f x=>uQ a fun y as=>k1 as fun l=>decide (f1S f=y)&&gj sc y&&G.lU.contains y&&bS l&&r G b N sc (.e l x)
 | .Ct _ x=>uQ a fun z as=>k1 as fun a'=>uQ a' fun u as=>k1 as fun l=>decide (z = "list")&&decide (u = "range")&&gj sc z&&gj sc u&&G.lU.contains z&&G.lU.contains u&&bS l&&r G b N sc (.e l x)
 | _=>false
noncomputable def chkT (r:Rec) (G:Gm) (b:Bool) (N:List Str) (sc:Scope) (a:Expr) (c:E):Bool:=match c with
 | .bad=>true
 | .cmp o x y=>CG a fun l p q=>decide (p=Am o)&&!(behindInMarks p q)&&r G b N sc (.e l x)&&r G b N sc (.e q y)
 | .not x=>Lf a fun o l=>uV o&&r G b N sc (.t l x)
 | .and x y=>Jj a fun o v w=>jL o&&r G b N sc (.t v x)&&r G b N sc (.t w y)
 | .or x y=>Jj a fun o v w=>!jL o&&r G b N sc (.t v x)&&r G b N sc (.t w y)
 | c=>r6 a&&r G b N sc (.e a c)
noncomputable def chkI (r:Rec) (G:Gm) (b:Bool) (N:List Str) (sc:Scope) (a:Expr) (c:Src):Bool:=match c with
 | .e c=>yN a&&r G b N sc (.e a c)
 | .eF c=>uQ a fun y as=>k1 as fun l=>decide (y = "range")&&gj sc y&&G.lU.contains y&&bS l&&r G b N sc (.e l c)
 | .rev c=>uQ a fun y as=>k1 as fun l=>decide (y = "reversed")&&gj sc y&&G.lU.contains y&&bS l&&r G b N sc (.e l c)
 | _=>false
noncomputable def chkS (r:Rec) (G:Gm) (b:Bool) (N:List Str) (sc:Scope) (a:Stmt) (c:S):Bool:=match c with
 | .bad=>true
 | .set i c=>sG a fun t e=>kNm t fun x px=>!b&&decide (N[i]? = some x)&&Cu sc x&&zA c (fun caps tg elt it cond=>Nf e fun el tn iter ifs scope lp =>
    bif xN sc scope x px lp then M9 r G b N sc caps tg elt it cond el tn iter ifs scope&&Cw sc x else r G b N sc (.e e c)) (m6 e&&r G b N sc (.e e c))
 | .mh x y c=>sG a fun t e=>zu t fun o i=>m6 e&&r G b N sc (.e e c)&&r G b N sc (.e o x)&&r G b N sc (.e i y)
 | .nJ tg c=>sG a fun tn e=>!b&&isTup tn&&JE N sc tn tg&&Lk e&&r G b N sc (.e e c)
 | .bZ x f c=>sG a fun t e=>zy t fun o y _=>decide (y=f)&&G.CT.contains f&&m6 e&&r G b N sc (.e e c)&&r G b N sc (.e o x)
 | .ex c=>HC a fun e=>m6 e&&r G b N sc (.e e c)
 | .ret c=>Hi a false fun e=>r G b N sc (.e e c)
 | .ifs c x y=>Hx a fun t l q=>r G b N sc (.t t c)&&r G b N sc (.ss l x)&&r G b N sc (.ss q y)
 | .for tg it x=>kFor a fun tn iter body=>!b&&(!Nj it||isTup tn)&&yN iter&&r G b N sc (.i iter it)&&JE N sc tn tg&&r G b N sc (.ss body x)
 | .while c x=>kWh a fun t body=>r G b N sc (.t t c)&&r G b N sc (.ss body x)
 | .raise c es=>!b&&G.rz&&Hl a fun e=>uQ e fun x as=>k1 as fun m=>gj sc x&&nD x&&decide (G.exc.lookup x=some c) &&
   Ht m (nk es) fun vs=>decide (2<=vs.length)&&decide (vs.length<=100)&&r G b N sc (.m vs es)
 | .try x hs els=>!b&&pM els&&G9 a fun bd hds=>r { G with rz:=false } b N sc (.ss bd x)&&hdB G N sc hds hs
 | _=>false
noncomputable def stp (r:Rec) (G:Gm) (b:Bool) (N:List Str) (sc:Scope) (nd:Nd):Bool:=match nd with
 | .e a c=>uF a (fun v=>r G b N sc (.e v c)) (chkE r G b N sc a c)
 | .t a c=>uF a (fun v=>r G b N sc (.t v c)) (chkT r G b N sc a c)
 | .es as cs=>(match as with
  | []=>nk cs
  | a::as=>Ni cs fun c cs=>bS a&&r G b N sc (.e a c)&&r G b N sc (.es as cs))
 | .o a c=>(match c with
  | .none=>a.isNone
  | .some c=>(match a with
   | some a=>r G b N sc (.e a c)
   | none=>false))
 | .i a c=>chkI r G b N sc a c
 | .s a c=>chkS r G b N sc a c
 | .ss as cs=>(match as with
  | []=>pM cs
  | a::as=>Nh cs fun c cs=>r G b N sc (.s a c)&&r G b N sc (.ss as cs))
 | .m as cs=>(match as with
  | []=>nk cs
  | a::as=>Hq a (fun y=>decide (y.length<=100000)&&r G b N sc (.m as cs)) fun v k=>Ni cs fun e es=>decide (k=-1)&&r G b N sc (.e v e)&&r G b N sc (.m as es))
noncomputable def IC:Nat->Rec
 | 0=>fun _ _ _ _ _=>false
 | n+1=>stp (IC n)
noncomputable abbrev iy (G:Gm) (n:Nat) (b:Bool) (N:List Str) (sc:Scope) (nd:Nd):Bool:=IC n G b N sc nd
end Fg
end
section
namespace Fg
open PySem PySem.Spec L2
section
variable {X:Cx}
theorem PE.weak {e:Expr} {t t':TE} (h:PE X e t) (w:∀ σ H Q,t' σ H Q->t σ H Q):PE X e t':=fun pins s σ H Q I q=>h pins s σ H Q I (w σ H Q q)
theorem PT.weak {e:Expr} {t t':TT} (h:PT X e t) (w:∀ σ H Q,t' σ H Q->t σ H Q):PT X e t':=fun pins s σ H Q I q=>h pins s σ H Q I (w σ H Q q)
theorem PW.weak {e:Expr} {t t':TT} (h:PW X e t) (w:∀ σ H Q,t' σ H Q->t σ H Q):PW X e t':=fun wh pins s σ H Q I q=>h wh pins s σ H Q I (w σ H Q q)
theorem PA.weak {e:List Expr} {t t':TA} (h:PA X e t) (w:∀ σ H Q,t' σ H Q->t σ H Q):PA X e t':=fun pos pins s σ H Q I q=>h pos pins s σ H Q I (w σ H Q q)
theorem PO.weak {e:Option Expr} {t t':TO} (h:PO X e t) (w:∀ σ H Q,t' σ H Q->t σ H Q):PO X e t':=fun pins s σ H Q I q=>h pins s σ H Q I (w σ H Q q)
theorem PI.weak {tg e:Expr} {t t':TI} (h:PI X tg e t) (w:∀ σ H Q,t' σ H Q->t σ H Q):PI X tg e t':=fun pins s σ H Q I q=>h pins s σ H Q I (w σ H Q q)
theorem PS.weak {e:Stmt} {t t':TS} (h:PS X e t) (w:∀ D σ H,t' D σ H->t D σ H):PS X e t':=fun pins s σ H D I q=>h pins s σ H D I (w D σ H q)
theorem ku.weak {e:List Stmt} {t t':TS} (h:ku X e t) (w:∀ D σ H,t' D σ H->t D σ H):ku X e t':=fun pins s σ H D I q=>h pins s σ H D I (w D σ H q)
end
theorem az {e:Expr} {es:List Expr} {env:Env} (h:bS e=true):starEach (e::es) env=(false,eval e env)::starEach es env:=by
 cases e <;> first | rfl | (simp [bS] at h)
theorem cL {env:Env} {pos:Pos}:∀ {es:List Expr},es.all bS=true->(backTo pos (starEach es env)).any (·.1)=false
 | [],_=>rfl
 | e::es,h=>by
  simp only [List.all_cons,Bool.and_eq_true] at h
  rw [az h.1]
  have:=cL (env:=env) (pos:=pos) h.2
  simpa [backTo] using this
theorem pL {env:Env} {pos:Pos}:∀ {es:List Expr},es.all bS=true->(backTo pos (starEach es env)).all (fun x=>!x.1)=true
 | [],_=>rfl
 | e::es,h=>by
  simp only [List.all_cons,Bool.and_eq_true] at h
  rw [az h.1]
  have:=pL (env:=env) (pos:=pos) h.2
  simpa [backTo] using this
theorem m8 {o:Expr} {name:Str} {apos pos:Pos} {args:List Expr} {env:Env} (hbase:attributeBase o name env (eval o env)=eval o env) (hst:args.all bS=true) (hl:args.length<29) (hline:(apos.endLine == pos.line)=true) :
  eval (.Call (.Attribute o name apos) args [] pos) env=(do
   let ov <- eval o env
   standAt apos.atName
   let (f,first) <- holding [ov] (getMethod ov name (do return (<- importBound o env).getD true))
   callWith pos f first (backTo pos (starEach args env)) (backToKw pos (keywordEach [] env))):=by
 have Lu:methodCallForm (args.length+([]:List Keyword).length) (backTo pos (starEach args env)) (backToKw pos (keywordEach [] env))=true:=by
  unfold methodCallForm
  rw [pL hst]
  simp [backToKw,keywordEach]
  omega
 have hpos:methodCallPos true o env apos pos=pure pos:=by unfold methodCallPos;simp [hline]
 rw [arm_eval_Call,hbase]
 unfold methodCall
 rw [Lu]
 simp only [hpos]
 rfl
theorem set_plain {e:Expr} {env:Env} (h:yN e=true):∀ x,foldedSetIterable e env x=pure x:=by
 intro x;cases e <;> first | rfl | (simp [yN] at h)
theorem xV {e:Expr} (h:nSl e=true):vF e:=by
 intro o i;cases e <;> first | rfl | (simp [nSl] at h)
theorem iL {e:Expr} {t:Option Expr} {l:Nat} {env:Env} (h:m6 e=true):swapsWith e t l env=pure false:=by
 cases e <;> first | rfl | (simp [m6] at h)
theorem vM {e:Expr} {env:Env} (h:r6 e=true):∀ whole,isTrue e env whole=(do let v <- whole;standAt e.pos;holding [v] (truthy v)):=by
 intro w;cases e <;> first | rfl | (simp [r6] at h)
theorem bQ {e:Expr} {n:Str} {env:Env} (h:yO e=true):attributeBase e n env (eval e env)=eval e env:=by
 cases e <;> first | rfl | (rename_i f _ _ _;cases f <;> first | rfl | (simp [yO] at h))
theorem boot_list:bootBuiltins ("list" : Str)=some (.type "list"):=by decide +kernel
theorem boot_isinstance:bootBuiltins ("isinstance" : Str)=some (.builtin "isinstance"):=by decide +kernel
theorem Dy:∀ t:Ty,bootBuiltins (Str.ofString (pH t))=some (.type (pH t)):=by
 intro t;cases t <;> decide +kernel
theorem DM:∀ t:Ty, Str.ofString (pH t)≠("__name__" : Str)/\(Str.ofString (pH t) == ("__debug__" : Str))=false:=by
 intro t;cases t <;> decide
noncomputable def jR:Es->Nat
 | .nil=>0
 | .cons _ es=>jR es+1
theorem bE {Φ:aY}:∀ {es:Es} {σ:Sg} {M:MH} {ds:List D} {M':MH},cV Φ es σ M=.ok ds M'->ds.length=jR es
 | .nil,σ,M,ds,M',h=>by simp only [cV] at h;cases h;rfl
 | .cons e es,σ,M,ds,M',h=>by
  simp only [cV] at h
  cases h1:ev Φ e σ M with
  | ok x M1 =>
   rw [h1] at h
   simp only [R.af] at h
   cases h2:cV Φ es σ M1 with
   | ok xs M2 =>
    rw [h2] at h
    simp only [R.af] at h
    cases h
    simp [jR,bE h2]
   | exc c M2=>rw [h2] at h;cases h
   | bad=>rw [h2] at h;cases h
  | exc c M1=>rw [h1] at h;cases h
  | bad=>rw [h1] at h;cases h
theorem aM {a b:Bool} (h:(a&&b)=true):a=true/\b=true:=(Bool.and_eq_true a b).mp h
theorem fK {G:Gm} {b:Bool} {N:List Str} {sc:Scope}:∀ {n:Nat} {as:List Expr} {cs:Es},iy G n b N sc (.es as cs)=true->jR cs=as.length/\as.all bS=true
 | 0,_,_,h=>by cases h
 | n+1,[],cs,h=>by
  have:=iX (c:=cs) h
  subst this
  exact ⟨rfl,rfl⟩
 | n+1,a::as,cs,h=>by
  replace h:=zz (c:=cs) h
  obtain ⟨c,cs,rfl,h⟩:=h
  replace h:=aM h
  obtain ⟨h,h3⟩:=h
  replace h:=aM h
  obtain ⟨h1,h2⟩:=h
  obtain ⟨q1,q2⟩:=fK h3
  exact ⟨congrArg (·+1) q1,by rw [List.all_cons,h1,q2];rfl⟩
inductive xh (th:Addr->Prop):Hp->Hp->Prop
 | refl (H:Hp):xh th H H
 | step {H H1 H2:Hp}:AQ th H H1->xh th H1 H2->xh th H H2
noncomputable def GX:Bool->Cx->XS->Gx
 | true,_,w=>⟨w,fun _=>False,fun cv x σ H H' t h=>by
  rcases t with rfl | ⟨_,_,_,z,_⟩
  ·exact h
  ·exact z.elim⟩
 | false,X,w=>⟨fun cv x σ H=>∃ H',xh (DO X) H H'/\w cv x σ H',DO X,fun cv x σ H H' t ⟨H2,h1,h2⟩=>⟨H2,.step t h1,h2⟩⟩
theorem pI {X:Cx} {pins:List (Addr×Obj)} {σ:L2.St} {H H':Hp} {s:Shared} (I:Inv X pins σ H s) (t:xh (DO X) H H'):Inv X pins σ H' s:=by
 induction t with
 | refl=>exact I
 | step t _ ih=>exact ih (eN I t)
theorem vO {th:Addr->Prop} {H H':Hp} (t:xh th H H') {b:Addr} (h:H' b≠none):H b≠none:=by
 induction t with
 | refl=>exact h
 | step t _ ih =>
  have:=ih h
  rcases t with rfl | ⟨a,o,kvs,_,h1,rfl⟩
  ·exact this
  ·by_cases e:b=a
   ·subst e;rw [h1];simp
   ·rw [au e] at this;exact this
theorem qB {X:Cx} {w:XS} {e:Value} {s:Shared} (h:ja X (GX false X w).e e s):ja X w e s:=by
 obtain ⟨pins,σ,H,a,a0,C,B,h1,I,up,fZ,hp,H',t,q⟩:=h
 exact ⟨pins,σ,H',a,a0,C,B,h1,pI I t,up,fun b hb hf=>fZ b (hb.imp (vO t) id) hf,hp,q⟩
theorem yL {X:Cx} {w:XS} {e:Value} {s:Shared} (h:EW X (GX false X w).e e s):EW X w e s:=by
 obtain ⟨pins,σ,H,a,C,vs,hh,h1,I,made,H',t,q⟩:=h
 exact ⟨pins,σ,H',a,C,vs,hh,h1,pI I t,made,q⟩
structure fY (G:Gm) (B:Bd) (Φ:aY) (k:Nat) (X:Cx) (N:List Str) (sc:Scope) (b:Bool) (w:XS):Prop where
 hN:X.N=N
 nd:N.Nodup
 hsc:X.env.scope=sc
 K:B.K=X.K
 calm:X.calm=true
 rm:cX k X.A
 dk:mE B X
 fo:∀ e s,X.xe e s->ja X (GX b X w).e e s\/EW X (GX b X w).e e s
 fx:∀ e s,ja X (GX b X w).e e s->X.xe e s
 nx:b=false->G.rz=true->∀ e s,EW X (GX b X w).e e s->X.xe e s
 fr:qW X
 fn:b=false->∀ x,X.fn x=true
 fns:∀ f i m,G.fns.lookup f=some (i,m)->∃ fa fd ps,X.mg f=some (.ref fa)/\W.keepIn X.K (.ref fa)=true/\Binds X.K fd ps []/\cS X.prog X.w X.K X.mg X.base (iD X.prog X.w) k fa fd ps (xR B Φ i m)
 cst:∀ x i,G.cst.lookup x=some i->∃ v u,X.mg x=some u/\RelV v u/\∀ d,Φ.glob i=some d->∀ F ρ H,RD B F ρ H d v
 blt:∀ x,G.lU.contains x=true->X.mg x=none
 cls:∀ c C,B.cls c=some C->xo X.K C/\∀ f,G.CT.contains f=true->eE X.K C f
 Ck:∀ c nm i m,G.Ck.lookup (c,nm)=some (i,m)->∃ C fa fd ps,B.cls c=some C/\Meth X.K C nm fa/\Binds X.K fd ps []/\cS X.prog X.w X.K X.mg X.base (iD X.prog X.w) k fa fd ps (xR B Φ i m)
 K6:∀ x c i m,G.cls.lookup x=some (c,i,m)->∃ C fa fd ps,X.mg x=some (.ref C)/\B.cls c=some C/\Mk X.K C fa/\Binds X.K fd ps [] /\
  ((∃ j,k=j+1/\cS X.prog X.w X.K X.mg X.base (iD X.prog X.w) j fa fd ps (spI B Φ i m))\/∀ ds M,Φ.ini i ds M=.bad)
 exc:∀ x c, G.exc.lookup x=some c->∃ C bmB newId bm base initId, X.mg x=some (.ref C)/\B.MI c=some C/\B.exc c (.ref C)/\qX X.K C bmB newId bm/\ExcBaseFacts base newId initId bmB/\bm.contains (.type "BaseException")=true
 Jr:∀ c cv,B.exc c cv->∃ C bmB newId bm,cv=.ref C/\qX X.K C bmB newId bm/\∀ d D,B.MI d=some D->(Value.ref C::bm).contains (.ref D)=Φ.sub c d
 Df:∀ x f m d,G.Df.lookup x=some (f,m,d)->∃ fa fd ps du,X.mg x=some (.ref fa)/\W.keepIn X.K (.ref fa)=true/\Binds X.K fd ps [du]/\RelV (.int d) du/\cS X.prog X.w X.K X.mg X.base (iD X.prog X.w) k fa fd ps (xR B Φ f m)
 st:b=false->X.stack=X.env::X.outer/\X.env.frame=some X.env.locals
section
variable {G:Gm} {B:Bd} {Φ:aY} {k:Nat} {X:Cx} {N:List Str} {sc:Scope} {b:Bool} {w:XS}
theorem fY.rm' (O:fY G B Φ k X N sc b w):Rm X:=by have:=O.rm.un;unfold Rm;omega
theorem fY.l7 (O:fY G B Φ k X N sc b w) {x:Str} (h:gj sc x=true):Gl X x:=by
 show X.env.scope.names.lookup x=some .globalImplicit
 rw [O.hsc]
 unfold gj at h
 split at h
 ·assumption
 ·cases h
theorem fY.vis (O:fY G B Φ k X N sc b w) {x:Str} (h:EY sc x=true):NO X.env.scope x:=by
 unfold NO
 rw [O.hsc]
 unfold EY at h
 split at h
 ·rename_i q;exact .inl q
 ·rename_i q;exact .inr (.inl q)
 ·rename_i q;exact .inr (.inr q)
 ·cases h
theorem fY.loc (O:fY G B Φ k X N sc b w) {x:Str} (h:Cu sc x=true):L2.Loc X.env.scope x:=by
 unfold L2.Loc
 rw [O.hsc]
 unfold Cu at h
 split at h
 ·rename_i q;exact .inl q
 ·rename_i q;exact .inr q
 ·cases h
theorem fN {x:Str} (h:nD x=true):(x == ("__debug__" : Str))=false/\(x == ("__classdict__" : Str))=false:=by
 simp only [nD,Bool.and_eq_true,Bool.not_eq_true'] at h;exact h
theorem fY.ER (O:fY G B Φ k X N sc b w) {scope:Scope} {N':List Str} (hn:N'.Nodup) (cl:List (Str×Addr)) (fp:List Addr) (s:Shared) (H:Hp) (C:Addr) (E:XK):fY G B Φ k (eZ X scope cl N' fp s H C E) N' (yh scope sc) true (fun cv x _ H'=>E cv x H') :=
 ⟨rfl,hn,by show relabel scope X.env=yh scope sc;rw [<- O.hsc];rfl,O.K,O.calm,O.rm,O.dk,(fun e s ⟨p,σ,H,a,a0,C,B,h1,I,h⟩=>.inl ⟨p,σ,H,a,a0,C,B,h1,I.bU _,h⟩),(fun e s ⟨p,σ,H,a,a0,C,B,h1,I,h⟩=>⟨p,σ,H,a,a0,C,B,h1,I.bF,h⟩),(fun h=>by cases h),(by
  obtain ⟨env,outer,L,h1,h2,h3⟩:=O.fr
  exact ⟨env,outer,L,h1,h2,h3⟩),(fun h=>by cases h),O.fns,O.cst,O.blt,O.cls,O.Ck,O.K6,O.exc,O.Jr,O.Df,(fun h=>by cases h)⟩
theorem fY.comp (O:fY G B Φ k X N sc b w) {scope:Scope} {caps:List Nat} {tn:List Str} {n:Nat} (h:Ak N sc scope caps tn=true) (hn:tn.length=n):iC X scope (fT N caps tn) caps n/\(fT N caps tn).Nodup:=by
 simp only [Ak,Bool.and_eq_true,List.all_eq_true,decide_eq_true_eq] at h
 obtain ⟨⟨⟨h1,h2⟩,h3⟩,h4⟩:=h
 refine ⟨⟨fun x hx=>?_,fun y hy z=>?_,by simpa using h2,fun y hy z=>?_,by simp [fT,hn],fun i j x e1 e2=>?_⟩,h4⟩
 ·have:=h1 _ hx
  show X.env.scope.names.lookup x=some .cell\/X.env.scope.names.lookup x=some .free
  rw [O.hsc]
  simp only at this
  split at this
  ·rename_i q;exact .inl q
  ·rename_i q;exact .inr q
  ·cases this
 ·have:=h1 _ hy
  rw [z] at this
  simp at this
 ·have:=h1 _ hy
  rw [z] at this
  simp only at this
  split at this
  ·assumption
  ·cases this
 ·have hj:j∈caps:=List.mem_of_getElem? e2
  have:=h3 j hj
  have hi:i<caps.length:=(List.getElem?_eq_some_iff.mp e2).1
  unfold fT at e1
  rw [List.getElem?_append_left (by simpa using hi),List.getElem?_map,e2] at e1
  simp only [Option.map_some,Option.some.injEq] at e1
  split at this
  ·rename_i y hy
   rw [hy] at e1
   simp only [Option.getD_some] at e1
   subst e1
   rw [O.hN]
   refine ⟨hy,?_⟩
   split at this
   ·assumption
   ·cases this
  ·cases this
theorem zc {x:Str} (h:Cw sc x=true):sc.names.lookup x=some .local:=by
 unfold Cw at h
 split at h
 ·assumption
 ·cases h
theorem fY.nm (O:fY G B Φ k X N sc b w) {i:Nat} {x:Str} {p:Pos} (h:KW N sc i x=true):PG X (.Name x p) (lD i):=by
 replace h:=aM h
 obtain ⟨h1,h2⟩:=h
 have hl:X.env.scope.names.lookup x=some .local:=by rw [O.hsc];exact zc h2
 exact BW (by rw [O.hN];exact O.nd) (by rw [O.hN];exact of_decide_eq_true h1) (.inl hl) (.inr hl)
noncomputable def gNs:List Nat->EV
 | []=>Lx
 | i::is=>Eu (lD i) (gNs is)
theorem zM:∀ {is:List Nat} {xs:List V} {σ:St} {H:Hp} {Q:St->Hp->Prop},xs.length=is.length->Q (jd is xs σ) H->gNs is xs σ H Q
 | [],[],σ,H,Q,_,q=>⟨rfl,q⟩
 | [],_::_,_,_,_,h,_=>by cases h
 | _::_,[],_,_,_,h,_=>by cases h
 | i::is,x::xs,σ,H,Q,h,q=>⟨x,xs,rfl,zM (is:=is) (xs:=xs) (σ:=σ.set i (some x)) (by simpa using h) q⟩
theorem fY.nms (O:fY G B Φ k X N sc b w):∀ {as:List Expr} {is:List Nat},Cg N sc as is=true->(assignEach as X.env).length=is.length/\(assignEach as X.env).findIdx? (·.1)=none/\My X as (gNs is)/\as.length=is.length
 | [],[],_=>⟨rfl,rfl,uD,rfl⟩
 | [],_::_,h=>by cases h
 | _::_,[],h=>by cases h
 | a::as,i::is,h=>by
  replace h:=aM h
  obtain ⟨h1,h2⟩:=h
  replace h1:=cj h1
  obtain ⟨x,p,rfl,h1⟩:=h1
  obtain ⟨q1,q2,q3,q4⟩:=O.nms h2
  have e:assignEach (.Name x p::as) X.env=(false,assign (.Name x p) X.env)::assignEach as X.env:=rfl
  refine ⟨?_,?_,kT (O.nm (p:=p) h1) q3 (by rw [e];rfl),by rw [List.length_cons,List.length_cons,q4]⟩
  ·rw [e,List.length_cons,List.length_cons,q1]
  ·rw [e,List.findIdx?_cons,q2];rfl
theorem fY.tg (O:fY G B Φ k X N sc b w) {tn:Expr} {tg:List Nat} (h:JE N sc tn tg=true):PG X tn (Jq tg B.K)/\(dw tn).length=tg.length:=by
 cases tg with
 | nil=>cases h
 | cons i r=>cases r with
  | nil =>
   replace h:=cj h
   obtain ⟨x,p,rfl,h⟩:=h
   exact ⟨O.nm h,rfl⟩
  | cons j r=>cases r with
   | cons l r =>
    replace h:=ly h
    obtain ⟨as,k1,pt,rfl,h⟩:=h
    obtain ⟨q1,q2,q3,q4⟩:=O.nms h
    have p:=yu (X:=X) (pos:=pt) (k:=k1) (n:=(i::j::l::r).length) O.calm q3 q1 q2
    refine ⟨fun pins s σ H v u Q I r q=>p pins s σ H v u Q I r ?_,by rw [<- q4];exact List.length_map ..⟩
    obtain ⟨a,xs,e,sq,hl,q⟩:=q
    rw [O.K] at sq
    exact ⟨a,xs,e,sq,hl,zM hl q⟩
   | nil =>
    replace h:=ly h
    obtain ⟨as,k1,pt,rfl,h⟩:=h
    replace h:=CI h
    obtain ⟨l,r,rfl,h⟩:=h
    replace h:=cj h
    obtain ⟨x,px,rfl,h⟩:=h
    replace h:=cj h
    obtain ⟨y,py,rfl,h⟩:=h
    replace h:=aM h
    obtain ⟨h1,h2⟩:=h
    have p:=yu (X:=X) (pos:=pt) (k:=k1) (n:=2) O.calm (kT (O.nm (p:=px) h1) (kT (O.nm (p:=py) h2) uD))
    refine ⟨fun pins s σ H v u Q I r q=>p pins s σ H v u Q I r ?_,rfl⟩
    obtain ⟨a,x',y',e,sq,q⟩:=q
    rw [O.K] at sq
    exact ⟨a,[x',y'],e,sq,rfl,x',[y'],rfl,y',[],rfl,rfl,q⟩
end
end Fg
end
section
namespace Fg
open PySem PySem.Spec L2
section
variable {G:Gm} {B:Bd} {Φ:aY} {k:Nat}
structure AR (G:Gm) (B:Bd) (Φ:aY) (k n:Nat) (X:Cx) (N:List Str) (sc:Scope) (b:Bool) (w:XS):Prop where
 e:∀ a c,iy G n b N sc (.e a c)=true->PE X a (T B Φ (GX b X w) c)
 t:∀ a c,iy G n b N sc (.t a c)=true->PT X a (TB B Φ (GX b X w) c)/\(∀ op v p,a=.BoolOp op v p->PW X a (TB B Φ (GX b X w) c))
 es:∀ a c,iy G n b N sc (.es a c)=true->PA X a (TL B Φ (GX b X w) c)
 o:∀ a c,iy G n b N sc (.o a c)=true->PO X a (TP B Φ (GX b X w) c)
 i:b=false->∀ a c tg,(!Nj c||isTup tg)=true->iy G n b N sc (.i a c)=true->PI X tg a (EU B Φ (GX b X w) c)
 s:∀ a c,iy G n b N sc (.s a c)=true->PS X a (TC B Φ (GX b X w) c)
 ss:∀ a c,iy G n b N sc (.ss a c)=true->ku X a (xy B Φ (GX b X w) c)
 m:∀ a c,iy G n b N sc (.m a c)=true->PJ X B Φ (GX b X w) a c
theorem AE {E:Gx} {σ:L2.St} {H:Hp} {Q:VK} (h:T B Φ E .bad σ H Q):False:=by
 obtain ⟨σD,M,F,ρ,S,r,h⟩:=h
 simp only [ev] at h
 exact h
theorem Ja {E:Gx} {Dn:Ends} {σ:L2.St} {H:Hp} (h:TC B Φ E .bad Dn σ H):False:=by
 obtain ⟨σD,M,F,ρ,S,r,h⟩:=h
 simp only [ex] at h
 exact h
variable {X:Cx} {N:List Str} {sc:Scope} {b:Bool} {n:Nat} {w:XS}
theorem tY {a:Const} {d:D} {j:Nat} {p:Pos} {E:Gx} (h:Dh a d=true):PE X (.Constant a j p) (T B Φ E (.k d)):=by
 unfold Dh at h
 split at h
 ·rw [of_decide_eq_true h];exact PE.weak Gn fun _ _ _=>uc rfl
 ·rw [of_decide_eq_true h];exact PE.weak rV fun _ _ _=>uc rfl
 ·rw [of_decide_eq_true h];exact PE.weak KC fun _ _ _=>uc rfl
 ·exact PE.weak Gh fun _ _ _=>uc rfl
 ·cases h
theorem uH:∀ {as:List Expr} {is:List Nat},Cg N sc as is=true->as.length=is.length
 | [],[],_=>rfl
 | [],_::_,h=>by cases h
 | _::_,[],h=>by cases h
 | a::as,i::is,h=>by rw [List.length_cons,List.length_cons,uH (aM h).2]
theorem E4 {tn:Expr} {tg:List Nat} (h:JE N sc tn tg=true):(dw tn).length=tg.length:=by
 cases tg with
 | nil=>cases h
 | cons i r=>cases r with
  | nil=>replace h:=cj h;obtain ⟨x,p,rfl,h⟩:=h;rfl
  | cons j r=>cases r with
   | cons l r =>
    replace h:=ly h
    obtain ⟨as,k1,pt,rfl,h⟩:=h
    exact (List.length_map ..).trans (uH h)
   | nil =>
    replace h:=ly h
    obtain ⟨as,k1,pt,rfl,h⟩:=h
    replace h:=CI h
    obtain ⟨l,r,rfl,h⟩:=h
    rfl
theorem pN (O:fY G B Φ k X N sc false w) (ih:AR G B Φ k n X N sc false w) (HP:∀ X' N' sc' w',fY G B Φ k X' N' sc' true w'->AR G B Φ k n X' N' sc' true w') {caps tg:List Nat} {elt:Fg.E} {it:Src} {cond:Fg.O} {el tn iter:Expr} {ifs:List Expr} {scope:Scope}
  (h:M9 (IC n) G false N sc caps tg elt it cond el tn iter ifs scope=true) :
  iC X scope (fT N caps (dw tn)) caps tg.length/\PI X tn iter (EU B Φ (GX false X w) it) /\
   (∀ σ cl fp s H C,PG (eZ X scope cl (fT N caps (dw tn)) fp s H C fun cv x H'=>(GX false X w).e cv x σ H') tn (Jq tg B.K)/\Jv (eZ X scope cl (fT N caps (dw tn)) fp s H C fun cv x H'=>(GX false X w).e cv x σ H') ifs (TBo B Φ (EB (GX false X w) σ) cond)/\PE (eZ X scope cl (fT N caps (dw tn)) fp s H C fun cv x H'=>(GX false X w).e cv x σ H') el (T B Φ (EB (GX false X w) σ) elt))/\∀ x,foldedSetIterable iter X.env x=pure x:=by
 simp only [M9,Bool.and_eq_true] at h
 obtain ⟨⟨⟨⟨⟨⟨h0,h1⟩,h2⟩,h3⟩,h4⟩,h5⟩,h6⟩:=h
 have hlen:(dw tn).length=tg.length:=E4 h4
 obtain ⟨C1,C2⟩:=O.comp h2 hlen
 refine ⟨C1,ih.i rfl iter it tn h0 h3,fun σ cl fp s H C=>?_,set_plain h1⟩
 have OB:=O.ER (scope:=scope) C2 cl fp s H C fun cv x H'=>(GX false X w).e cv x σ H'
 have S:=HP _ _ _ _ OB
 refine ⟨(OB.tg h4).1,?_,S.e el elt h5⟩
 cases cond with
 | none=>cases ifs with
  | nil=>exact BN
  | cons _ _=>cases h6
 | some d =>
  replace h6:=gG h6
  obtain ⟨c,rfl,h6⟩:=h6
  exact BL (S.t c d h6).1
theorem JZ (O:fY G B Φ k X N sc b w) (ih:AR G B Φ k n X N sc b w) (HP:∀ X' N' sc' w',fY G B Φ k X' N' sc' true w'->AR G B Φ k n X' N' sc' true w') (a:Expr) (c:Fg.E) (h:iy G (n+1) b N sc (.e a c)=true):PE X a (T B Φ (GX b X w) c):=by
 replace h:=uE h
 rcases h with ⟨o,v,p,rfl,h⟩ | h
 ·exact Gf (ih.e _ _ h)
 ·cases c with
  | bad=>exact fun _ _ _ _ _ _ q=>(AE q).elim
  | v i =>
   replace h:=cj h
   obtain ⟨x,p,rfl,h⟩:=h
   simp only [Bool.and_eq_true,decide_eq_true_eq] at h
   exact PE.weak (Gd (by rw [O.hN];exact h.1.1) (O.vis h.1.2) (fN h.2).1 (fN h.2).2) fun _ _ _=>J0
  | k d =>
   replace h:=zv h
   obtain ⟨x,j,p,rfl,h⟩:=h
   exact tY h
  | g i =>
   replace h:=cj h
   obtain ⟨x,p,rfl,h⟩:=h
   simp only [Bool.and_eq_true,decide_eq_true_eq] at h
   obtain ⟨v,u,q1,q2,q3⟩:=O.cst _ _ h.1.2
   exact PE.weak (BY (O.l7 h.1.1) q1 q2 (fN h.2).1) fun _ _ _=>J1 q3
  | tup cs =>
   replace h:=ly h
   obtain ⟨as,j,p,rfl,h⟩:=h
   simp only [Bool.and_eq_true,decide_eq_true_eq] at h
   obtain ⟨hl,_⟩:=fK h.2
   refine PE.weak (Ge (ih.es _ _ h.2)) fun _ _ _=>Bf fun q=>?_
   rw [bE q,hl];exact Nat.le_trans h.1 (by decide)
  | lst fz cs =>
   replace h:=Hu h
   obtain ⟨as,p,rfl,h⟩:=h
   simp only [Bool.and_eq_true,decide_eq_true_eq] at h
   obtain ⟨hl,_⟩:=fK h.2
   refine PE.weak (Gj (ih.es _ _ h.2)) fun _ _ _=>Br fun q=>?_
   rw [bE q,hl];exact Nat.le_trans h.1 (by decide)
  | Dg=>cases h
  | op o fz x y =>
   replace h:=HD h
   obtain ⟨l,p,q,pos,rfl,h⟩:=h
   simp only [Bool.and_eq_true,decide_eq_true_eq] at h
   obtain ⟨⟨h1,h2⟩,h3⟩:=h
   subst h1
   exact PE.weak (Kz (GJ O.K o) (ih.e _ _ h2) (ih.e _ _ h3)) fun _ _ _=>Fo
  | neg x =>
   replace h:=zm h
   obtain ⟨o,l,p,rfl,h⟩:=h
   replace h:=aM h
   obtain ⟨ho,h⟩:=h
   cases zC ho
   exact PE.weak (Kv E0 (ih.e _ _ h)) fun _ _ _=>Bo
  | not x =>
   replace h:=zm h
   obtain ⟨o,l,p,rfl,h⟩:=h
   replace h:=aM h
   obtain ⟨ho,h⟩:=h
   cases uU ho
   exact PE.weak (Gg (ih.e _ _ h)) fun _ _ _=>t9
  | and x y =>
   replace h:=uR h
   obtain ⟨o,v,w,r,p,rfl,h⟩:=h
   replace h:=aM h
   obtain ⟨h,h3⟩:=h
   replace h:=aM h
   obtain ⟨h1,h2⟩:=h
   cases uX h1
   replace h:=And.intro h2 h3
   exact PE.weak (Gq (ih.e _ _ h.1) (ih.e _ _ h.2)) fun _ _ _=>uh
  | or x y =>
   replace h:=uR h
   obtain ⟨o,v,w,r,p,rfl,h⟩:=h
   replace h:=aM h
   obtain ⟨h,h3⟩:=h
   replace h:=aM h
   obtain ⟨h1,h2⟩:=h
   cases zD (by simpa using h1)
   replace h:=And.intro h2 h3
   exact PE.weak (Kw (ih.e _ _ h.1) (ih.e _ _ h.2)) fun _ _ _=>xZ
  | cmp o x y =>
   replace h:=zw h
   obtain ⟨l,p,q,pos,rfl,h⟩:=h
   simp only [Bool.and_eq_true,decide_eq_true_eq,Bool.not_eq_true'] at h
   obtain ⟨⟨⟨h1,h2⟩,h3⟩,h4⟩:=h
   subst h1
   exact PE.weak (B0 (yF O.K O.rm' O.dk o) (ih.e _ _ h3) (ih.e _ _ h4) h2) fun _ _ _=>uf
  | AL t x y =>
   replace h:=Hy h
   obtain ⟨u,l,q,pos,rfl,h⟩:=h
   simp only [Bool.and_eq_true] at h
   exact PE.weak (yz (ih.t _ _ h.1.1).1 (ih.e _ _ h.1.2) (ih.e _ _ h.2)) fun _ _ _=>Bv
  | idx x y =>
   replace h:=sE h
   obtain ⟨l,q,pos,rfl,h⟩:=h
   simp only [Bool.and_eq_true] at h
   exact PE.weak (KA (HL O.K O.dk) (ih.e _ _ h.1.2) (ih.e _ _ h.2) (xV h.1.1)) fun _ _ _=>Bw
  | sl fz x lo hi =>
   replace h:=sE h
   obtain ⟨l,q,pos,rfl,h⟩:=h
   replace h:=Hf h
   obtain ⟨u,v,sp,rfl,h⟩:=h
   simp only [Bool.and_eq_true] at h
   exact PE.weak (yv (Fi O.K) (ih.e _ _ h.1.1) (ih.o _ _ h.1.2) (ih.o _ _ h.2)) fun _ _ _=>Fl
  | call f cs =>
   replace h:=fP h
   obtain ⟨x,p,as,pos,rfl,h⟩:=h
   simp only [Bool.and_eq_true,decide_eq_true_eq] at h
   obtain ⟨⟨⟨⟨h1,h2⟩,h3⟩,h4⟩,h5⟩:=h
   obtain ⟨fa,fd,ps,q1,q2,q3,q4⟩:=O.fns _ _ _ h3
   obtain ⟨hl,_⟩:=fK h5
   cases as with
   | nil =>
    refine PE.weak (v8 q4 O.rm (O.l7 h1) q1 q2 q3 O.fx (fN h2).1) fun _ _ _ q=>?_
    have:=pW (fun z=>by rw [bE z,hl]) q
    cases cs with
    | nil=>exact iH this
    | cons _ _=>simp [jR] at hl
   | cons e es =>
    simp only [List.all_cons,Bool.and_eq_true] at h4
    exact PE.weak (yC q4 O.rm (O.l7 h1) q1 q2 q3 O.fx (ih.es _ _ h5) (fN h2).1 (az h4.1) (cL h4.2)) fun _ _ _=>pW (fun z=>by rw [bE z,hl])
  | gW f cs d =>
   replace h:=fP h
   obtain ⟨x,p,as,pos,rfl,h⟩:=h
   simp only [Bool.and_eq_true,decide_eq_true_eq] at h
   obtain ⟨⟨⟨⟨⟨h1,h2⟩,h3⟩,h6⟩,h4⟩,h5⟩:=h
   obtain ⟨fa,fd,ps,du,q1,q2,q3,q5,q4⟩:=O.Df _ _ _ _ h3
   obtain ⟨hl,_⟩:=fK h5
   cases as with
   | nil=>cases h6
   | cons e es =>
    simp only [List.all_cons,Bool.and_eq_true] at h4
    exact PE.weak (yD q4 O.rm (O.l7 h1) q1 q2 q3 q5 O.fx (ih.es _ _ h5) (fN h2).1 (az h4.1) (cL h4.2)) fun _ _ _=>vS (fun z=>by rw [bE z,hl])
  | fV x t =>
   replace h:=fP h
   obtain ⟨y,p,as,pos,rfl,h⟩:=h
   replace h:=CI h
   obtain ⟨l,z0,rfl,h⟩:=h
   replace h:=cj h
   obtain ⟨z,zp,rfl,h⟩:=h
   simp only [Bool.and_eq_true,decide_eq_true_eq] at h
   obtain ⟨⟨⟨⟨⟨⟨⟨h1,h2⟩,h3⟩,h4⟩,h5⟩,h6⟩,h7⟩,h8⟩:=h
   subst h1 h2
   refine PE.weak (gg (Aq O.K O.dk) (O.l7 h3) (O.blt _ h5) boot_isinstance (b6 (ih.e _ _ h8) (b6 (B3 (v:=.ty (pH t)) (O.l7 h4) (O.blt _ h6) (Dy t) rfl (DM t).1 (DM t).2) fm) (az h7)) (by decide) (by decide) (az h7)) fun _ _ _=>Bt
  | blt kd fz cs =>
   replace h:=fP h
   obtain ⟨y,p,as,pos,rfl,h⟩:=h
   replace h:=gG h
   obtain ⟨l,rfl,h⟩:=h
   simp only [Bool.and_eq_true,decide_eq_true_eq] at h
   obtain ⟨⟨⟨⟨h1,h2⟩,h3⟩,h4⟩,h5⟩:=h
   have pa:=ih.es _ _ h5
   cases kd <;> simp only [Mi] at h1 <;> first | (cases h1;done) | cases h1
   ·exact PE.weak (gg (wV O.K O.dk) (O.l7 h2) (O.blt _ h3) PySem.boot_len pa (by decide) (by decide) (az h4)) fun _ _ _=>ug
   ·exact PE.weak (mY (wU O.K) (O.l7 h2) (O.blt _ h3) boot_list pa (by decide) (by decide) (az h4)) fun _ _ _=>ug
  | aG m fz x cs =>
   replace h:=Em h
   obtain ⟨o,y,ap,as,cp,rfl,h⟩:=h
   simp only [Bool.and_eq_true] at h
   obtain ⟨⟨⟨h2,h4⟩,h5⟩,h⟩:=h
   cases hm:Lj m with
   | true =>
    rw [hm] at h
    replace h:=aM h
    obtain ⟨h1,h⟩:=h
    replace h:=gG h
    obtain ⟨l,rfl,h⟩:=h
    replace h:=aM h
    obtain ⟨h3,h6⟩:=h
    cases m <;> first | (cases hm;done) | skip
    all_goals cases of_decide_eq_true h1
    ·refine PE.weak (Ed PySem.F.plainAttrs_list PySem.F.slot_list_append PySem.F.type_list_append m7 (ih.e _ _ h5) (ih.es _ _ h6) (bQ h2) ?_ h4 (az h3)) fun _ _ _ q=>?_
     ·rw [az h3];rfl
     ·have:=rM q
      rw [O.K] at this
      exact this
    ·refine PE.weak (Ed PySem.F.plainAttrs_list PySem.F.slot_list_extend PySem.F.type_list_extend Cm (ih.e _ _ h5) (ih.es _ _ h6) (bQ h2) ?_ h4 (az h3)) fun _ _ _ q=>?_
     ·rw [az h3];rfl
     ·have:=rL q
      rw [O.K] at this
      exact this
   | false =>
    rw [hm] at h
    replace h:=aM h
    obtain ⟨h,h7⟩:=h
    replace h:=aM h
    obtain ⟨h1,h6⟩:=h
    cases List.isEmpty_iff.mp h6
    cases iX h7
    replace h1:=of_decide_eq_true h1
    cases m <;> simp only [Eh] at h1 <;> first | (cases h1;done) | cases h1
    ·refine PE.weak (yE PySem.F.plainAttrs_list PySem.F.slot_list_pop PySem.F.type_list_pop GR (ih.e _ _ h5) (bQ h2) h4) fun _ _ _ q=>?_
     have:=Bm q
     rw [O.K] at this
     exact this
    ·refine PE.weak (yE PySem.F.plainAttrs_list PySem.F.slot_list_reverse PySem.F.type_list_reverse sd (ih.e _ _ h5) (bQ h2) h4) fun _ _ _ q=>?_
     have:=pR q
     rw [O.K] at this
     exact this
  | comp fz caps tg elt it cond =>
   replace h:=aM h
   obtain ⟨h0,h⟩:=h
   cases b with
   | true=>cases h0
   | false =>
    replace h:=El h
    obtain ⟨el,tn,iter,ifs,scope,p,rfl,h⟩:=h
    obtain ⟨C1,C2,C3,C4⟩:=pN O ih HP h
    exact PE.weak (BX (BZ O.calm C1 C2 O.fr O.fx C3 C4)) fun _ _ _=>pV
  | chain _ _ _ _ _=>cases h
  | tru _=>cases h
  | fld x f =>
   replace h:=sF h
   obtain ⟨l,y,p,rfl,h⟩:=h
   simp only [Bool.and_eq_true,decide_eq_true_eq] at h
   obtain ⟨⟨⟨h1,h2⟩,h3⟩,h4⟩:=h
   subst h1
   exact PE.weak (Gp (ih.e _ _ h4) (bQ h3)) fun _ _ _=>By fun c C hc=>⟨(O.cls c C hc).1,(O.cls c C hc).2 _ h2⟩
  | dS c m nm x cs =>
   replace h:=Em h
   obtain ⟨o,y,ap,as,cp,rfl,h⟩:=h
   simp only [Bool.and_eq_true,decide_eq_true_eq] at h
   obtain ⟨⟨⟨⟨⟨⟨⟨h1,h2⟩,h3⟩,h4⟩,h5⟩,h6⟩,h7⟩,h8⟩:=h
   subst h1
   obtain ⟨C,fa,fd,ps,q1,q2,q3,q4⟩:=O.Ck _ _ _ _ h5
   obtain ⟨hl,_⟩:=fK h8
   cases as with
   | nil =>
    refine PE.weak (v5 (ih.e _ _ h7) (O.cls _ _ q1).1 q2 q4 O.rm q3 O.fx (m8 (bQ h2) h6 h4 h3)) fun _ _ _ q=>?_
    have:=tZ (n:=1) q1 (fun z=>by rw [bE z,hl];rfl) q
    cases cs with
    | nil =>
     obtain ⟨σD,M,F,ρ,S,r,z⟩:=this
     exact ⟨σD,M,F,ρ,S,r,aj.imp z fun v H' ⟨a,dx,fs,z1,z2,z3,z4⟩=>⟨a,dx,fs,z1,z2,z3,iH z4⟩⟩
    | cons _ _=>simp [jR] at hl
   | cons e es =>
    simp only [List.all_cons,Bool.and_eq_true] at h6
    exact PE.weak (yw (ih.e _ _ h7) (O.cls _ _ q1).1 q2 q4 O.rm q3 O.fx (ih.es _ _ h8) (az h6.1) (cL h6.2) (m8 (bQ h2) (by simp [h6.1,h6.2]) h4 h3)) fun _ _ _=>tZ q1 (fun z=>by rw [bE z,hl])
  | new c i cs =>
   replace h:=fP h
   obtain ⟨x,p,as,pos,rfl,h⟩:=h
   simp only [Bool.and_eq_true,decide_eq_true_eq] at h
   obtain ⟨⟨⟨⟨h1,h2⟩,h3⟩,h4⟩,h5⟩:=h
   obtain ⟨C,fa,fd,ps,q1,q2,q3,q4,q5⟩:=O.K6 _ _ _ _ h3
   obtain ⟨hl,_⟩:=fK h5
   rcases q5 with ⟨j,rfl,q5⟩ | q5
   ·cases as with
    | nil =>
     refine PE.weak (v7 q3 q5 O.rm (O.l7 h1) q1 q4 O.fx (fN h2).1) fun _ _ _ q=>?_
     have:=ua (n:=1) q2 (fun z=>by rw [bE z,hl];rfl) q
     cases cs with
     | nil=>exact iH this
     | cons _ _=>simp [jR] at hl
    | cons e es =>
     simp only [List.all_cons,Bool.and_eq_true] at h4
     exact PE.weak (yy q3 q5 O.rm (O.l7 h1) q1 q4 O.fx (ih.es _ _ h5) (fN h2).1 (az h4.1) (cL h4.2)) fun _ _ _=>ua q2 (fun z=>by rw [bE z,hl])
   ·cases as with
    | nil =>
     intro pins s σ H Q I q
     have:=pS q5 q
     cases cs with
     | nil=>exact (iH this).elim
     | cons _ _=>simp [jR] at hl
    | cons e es =>
     simp only [List.all_cons,Bool.and_eq_true] at h4
     exact PE.weak (yx q3 (O.l7 h1) q1 (ih.es _ _ h5) (fN h2).1 (az h4.1) (cL h4.2)) fun _ _ _=>pS q5
  | mx hi x y =>
   replace h:=fP h
   obtain ⟨z,p,as,pos,rfl,h⟩:=h
   replace h:=CI h
   obtain ⟨l,q,rfl,h⟩:=h
   simp only [Bool.and_eq_true,decide_eq_true_eq] at h
   obtain ⟨⟨⟨⟨⟨⟨h1,h2⟩,h3⟩,h4⟩,h5⟩,h6⟩,h7⟩:=h
   have pa:=b6 (ih.e _ _ h6) (b6 (ih.e _ _ h7) fm (az h5)) (az h4)
   cases hi with
   | true =>
    subst h1
    exact PE.weak (gg (wR O.calm) (O.l7 h2) (O.blt _ h3) PyProof.Rows.boot_max pa (by decide) (by decide) (az h4) (cL (es:=[_]) (by simp [h5]))) fun _ _ _=>Bq
   | false =>
    subst h1
    exact PE.weak (gg (wQ O.calm) (O.l7 h2) (O.blt _ h3) PyProof.Rows.boot_min pa (by decide) (by decide) (az h4) (cL (es:=[_]) (by simp [h5]))) fun _ _ _=>Bp
  | ou f x =>
   replace h:=fP h
   obtain ⟨y,p,as,pos,rfl,h⟩:=h
   replace h:=gG h
   obtain ⟨l,rfl,h⟩:=h
   simp only [Bool.and_eq_true,decide_eq_true_eq] at h
   obtain ⟨⟨⟨⟨h1,h2⟩,h3⟩,h4⟩,h5⟩:=h
   subst h1
   have pa:=b6 (ih.e _ _ h5) fm (az h4)
   cases f
   ·exact PE.weak (gg wX (O.l7 h2) (O.blt _ h3) PyProof.Rows.boot_abs pa (by decide) (by decide) (az h4)) fun _ _ _=>ud
   ·exact PE.weak (mY wW (O.l7 h2) (O.blt _ h3) (show bootBuiltins ("int" : Str)=some (.type "int") by decide +kernel) pa (by decide) (by decide) (az h4)) fun _ _ _=>ud
  | all1 x=>cases h
  | Ct fz x =>
   replace h:=fP h
   obtain ⟨z,p,as,pos,rfl,h⟩:=h
   replace h:=gG h
   obtain ⟨a1,rfl,h⟩:=h
   replace h:=fP h
   obtain ⟨u,p2,as2,pos2,rfl,h⟩:=h
   replace h:=gG h
   obtain ⟨l,rfl,h⟩:=h
   simp only [Bool.and_eq_true,decide_eq_true_eq] at h
   obtain ⟨⟨⟨⟨⟨⟨⟨h1,h2⟩,h3⟩,h4⟩,h5⟩,h6⟩,h7⟩,h9⟩:=h
   subst h1 h2
   have pa:=b6 (ih.e _ _ h9) fm (az h7)
   exact PE.weak (Gk O.calm (O.l7 h3) (O.blt _ h5) (O.l7 h4) (O.blt _ h6) pa (by rw [az h7];rfl)) fun _ _ _=>Bs
  | rv fz x=>cases h
  | M6 fz x y=>cases h
end
end Fg
end
section
namespace Fg
open PySem PySem.Spec L2
section
variable {G:Gm} {B:Bd} {Φ:aY} {k:Nat} {X:Cx} {N:List Str} {sc:Scope} {b:Bool} {n:Nat} {w:XS}
theorem JW (O:fY G B Φ k X N sc b w) (ih:AR G B Φ k n X N sc b w) (a:Expr) (c:Fg.E) (h:iy G (n+1) b N sc (.t a c)=true) :
  PT X a (TB B Φ (GX b X w) c)/\(∀ op v p,a=.BoolOp op v p->PW X a (TB B Φ (GX b X w) c)):=by
 replace h:=uE h
 rcases h with ⟨op,v,p,rfl,h⟩ | h
 ·have pt:=(ih.t _ _ h).1
  have pw:PW X (.BoolOp op [v] p) (TB B Φ (GX b X w) c):=by
   cases op
   ·exact pw_and1 pt
   ·exact pw_or1 pt
  exact ⟨pw.pt,fun _ _ _ _=>pw⟩
 ·have notB:∀ {P:Prop},r6 a=true->(∀ op v p,a=.BoolOp op v p->P):=fun hq op v p e=>by subst e;simp [r6] at hq
  have plain:r6 a=true->iy G n b N sc (.e a c)=true->PT X a (TB B Φ (GX b X w) c)/\(∀ op v p,a=.BoolOp op v p->PW X a (TB B Φ (GX b X w) c)):=fun h1 h2 =>
   ⟨FU (ih.e _ _ h2) (vM h1),notB h1⟩
  have i9:(r6 a&&iy G n b N sc (.e a c))=true->PT X a (TB B Φ (GX b X w) c)/\(∀ op v p,a=.BoolOp op v p->PW X a (TB B Φ (GX b X w) c)):=fun hq=>by
   simp only [Bool.and_eq_true] at hq;exact plain hq.1 hq.2
  cases c with
  | bad=>exact ⟨fun _ _ _ _ _ _ q=>(AE q).elim,fun _ _ _ _ _ _ _ _ _ _ _ q=>(AE q).elim⟩
  | cmp o x y =>
   replace h:=zw h
   obtain ⟨l,p,q,pos,rfl,h⟩:=h
   ·simp only [Bool.and_eq_true,decide_eq_true_eq,Bool.not_eq_true'] at h
    obtain ⟨⟨⟨h1,h2⟩,h3⟩,h4⟩:=h
    subst h1
    exact ⟨PT.weak (BO (yF O.K O.rm' O.dk o) (ih.e _ _ h3) (ih.e _ _ h4) h2) fun _ _ _=>uf,fun _ _ _ e=>by cases e⟩
  | not x =>
   replace h:=zm h
   obtain ⟨o,l,p,rfl,h⟩:=h
   replace h:=aM h
   obtain ⟨ho,h⟩:=h
   cases uU ho
   exact ⟨PT.weak (FW (ih.t _ _ h).1) fun _ _ _=>x9,fun _ _ _ e=>by cases e⟩
  | and x y =>
   replace h:=uR h
   obtain ⟨o,v,w',r,p,rfl,h⟩:=h
   replace h:=aM h
   obtain ⟨h,h3⟩:=h
   replace h:=aM h
   obtain ⟨h1,h2⟩:=h
   cases uX h1
   have pw:=PW.weak (pw_and (ih.t _ _ h2).1 ((ih.t _ _ h3).2 _ _ _ rfl)) fun _ _ _=>yc
   exact ⟨pw.pt,fun _ _ _ _=>pw⟩
  | or x y =>
   replace h:=uR h
   obtain ⟨o,v,w',r,p,rfl,h⟩:=h
   replace h:=aM h
   obtain ⟨h,h3⟩:=h
   replace h:=aM h
   obtain ⟨h1,h2⟩:=h
   cases zD (by simpa using h1)
   have pw:=PW.weak (pw_or (ih.t _ _ h2).1 ((ih.t _ _ h3).2 _ _ _ rfl)) fun _ _ _=>BA
   exact ⟨pw.pt,fun _ _ _ _=>pw⟩
  | v i=>exact i9 h
  | k d=>exact i9 h
  | g i=>exact i9 h
  | tup cs=>exact i9 h
  | lst fz cs=>exact i9 h
  | Dg=>exact i9 h
  | op o fz x y=>exact i9 h
  | neg x=>exact i9 h
  | chain _ _ _ _ _=>exact i9 h
  | tru _=>exact i9 h
  | AL _ _ _=>exact i9 h
  | idx _ _=>exact i9 h
  | sl _ _ _ _=>exact i9 h
  | call _ _=>exact i9 h
  | fV _ _=>exact i9 h
  | blt _ _ _=>exact i9 h
  | aG _ _ _ _=>exact i9 h
  | comp _ _ _ _ _ _=>exact i9 h
  | fld _ _=>exact i9 h
  | dS _ _ _ _ _=>exact i9 h
  | new _ _ _=>exact i9 h
  | mx _ _ _=>exact i9 h
  | M6 _ _ _=>exact i9 h
  | Ct _ _=>exact i9 h
  | rv _ _=>exact i9 h
  | all1 _=>exact i9 h
  | ou _ _=>exact i9 h
  | gW _ _ _=>exact i9 h
theorem JY (O:fY G B Φ k X N sc b w) (ih:AR G B Φ k n X N sc b w) (hb:b=false) (a:Expr) (c:Src) (tg:Expr) (hz:(!Nj c||isTup tg)=true) (h:iy G (n+1) b N sc (.i a c)=true):PI X tg a (EU B Φ (GX b X w) c):=by
 subst hb
 cases c with
 | e c =>
  replace h:=aM h
  obtain ⟨_,h⟩:=h
  exact PI.weak (Gb O.K (ih.e _ _ h)) fun _ _ _=>Ft
 | eF c =>
  replace h:=fP h
  obtain ⟨y,p,as,pos,rfl,h⟩:=h
  replace h:=gG h
  obtain ⟨l,rfl,h⟩:=h
  simp only [Bool.and_eq_true,decide_eq_true_eq] at h
  obtain ⟨⟨⟨⟨h1,h2⟩,h3⟩,h4⟩,h5⟩:=h
  subst h1
  exact PI.weak (vZ (O.l7 h2) (O.blt _ h3) (b6 (ih.e _ _ h5) fm (az h4)) (az h4)) fun _ _ _=>Bh
 | FI c d=>cases h
 | enum _=>cases h
 | items _=>cases h
 | rev c =>
  replace h:=fP h
  obtain ⟨y,p,as,pos,rfl,h⟩:=h
  replace h:=gG h
  obtain ⟨l,rfl,h⟩:=h
  simp only [Bool.and_eq_true,decide_eq_true_eq] at h
  obtain ⟨⟨⟨⟨h1,h2⟩,h3⟩,h4⟩,h5⟩:=h
  subst h1
  refine PI.weak (Ga (O.l7 h2) (O.blt _ h3) (b6 (ih.e _ _ h5) fm (az h4)) (az h4)) fun _ _ _ q=>?_
  have:=Bj q
  rw [O.K] at this
  exact this
 | zip c d=>cases h
theorem swap_eq (O:fY G B Φ k X N sc b w) {el tn iter:Expr} {ifs:List Expr} {scope:Scope} {lp px p:Pos} {x:Str}:swapsWith (.ListComp el [⟨tn,iter,ifs,0⟩] scope lp) (some (.Name x px)) p.line X.env=pure (xN sc scope x px lp):=by
 rw [<- O.hsc];rfl
theorem Be {E:Gx} {Dn:Ends} {σ:L2.St} {H:Hp} {tg:List Nat} {e:Fg.E} (h:TC B Φ E (.nJ tg e) Dn σ H):xK (T B Φ E e) (Jq tg B.K) Dn σ H:=by
 obtain ⟨σD,M,F,ρ,S,r,h⟩:=h
 simp only [ex] at h
 refine TC.one S r h fun x M1 F1 ρ1 H1 v e1 S1 r1 rx h1=>?_
 split at h1
 ·rename_i σ1 hs
  exact kH r1 rx hs fun σ' q=>aW.run h1 S1 σ' q
 ·exact h1.elim
theorem xT (O:fY G B Φ k X N sc false w):∀ {hds:List ExceptHandler} {hs:Hs},hdB G N sc hds hs=true->∃ rs,Jw B Φ (GX false X w) B.MI hs=some rs/\∀ pins,PH (gM X pins) hds rs
 | [],hs,h=>by
  cases CL (c:=hs) h
  exact ⟨[],rfl,fun _=>.nil⟩
 | hd::r,hs,h=>by
  replace h:=Lh h
  obtain ⟨t,bd,hp,rfl,h⟩:=h
  replace h:=cj h
  obtain ⟨x,np,rfl,h⟩:=h
  replace h:=gG h
  obtain ⟨st,rfl,h⟩:=h
  replace h:=lz h
  obtain ⟨ty,e,p,rfl,h⟩:=h
  replace h:=cj h
  obtain ⟨y,py,rfl,h⟩:=h
  replace h:=zv h
  obtain ⟨cst,j,kp,rfl,h⟩:=h
  replace h:=Li h
  obtain ⟨cs,b,hs',rfl,h⟩:=h
  replace h:=gG h
  obtain ⟨c,rfl,h⟩:=h
  replace h:=En h
  obtain ⟨s,ss,rfl,h⟩:=h
  replace h:=aM h
  obtain ⟨hss,h⟩:=h
  cases nL hss
  replace h:=HF h
  obtain ⟨i,v,rfl,h⟩:=h
  replace h:=jK_t h
  obtain ⟨d,rfl,h⟩:=h
  simp only [Bool.and_eq_true,decide_eq_true_eq] at h
  obtain ⟨⟨⟨⟨⟨⟨h1,h2⟩,h3⟩,h4⟩,h5⟩,h6⟩,h7⟩:=h
  obtain ⟨rs,hrs,ph⟩:=xT O h7
  obtain ⟨C,bmB,newId,bm,base,initId,q1,q2,q3,q4,q5,q6⟩:=O.exc _ _ h3
  refine ⟨(C,xy B Φ (GX false X w) (.cons (.set i (.k d)) .nil))::rs,by simp only [Jw,q2,hrs],fun pins=>.cons q1 (O.l7 h1) (fN h2).1 q4 q6 (fun e=>?_) (ph pins)⟩
  have ps:PS (suite (gM X pins) e) (.Assign [.Name y py] (.Constant cst j kp) p) (TC B Φ (GX false X w) (.set i (.k d))) :=
   PS.weak (yr (X:=suite (gM X pins) e) (by show X.N.Nodup;rw [O.hN];exact O.nd) (by show X.N[i]? = some y;rw [O.hN];exact h4) (O.loc h5) (tY h6) (iL rfl) (.inl (O.fn rfl y))) fun _ _ _=>nN
  exact ku.weak (qc ps (ku.weak uA fun _ _ _=>pQ)) fun _ _ _=>mR
theorem A7 {Y:Cx} {E:Value->Shared->Prop} {pins:List (Addr×Obj)} {D:Ends} {f:Flow} {s':Shared} (h:SP Y pins D f s'):SP (Y.bU E) pins D f s':=by
 cases f with
 | next=>obtain ⟨σ',H',I,q⟩:=h;exact ⟨σ',H',I.bU _,q⟩
 | brk=>obtain ⟨σ',H',I,q⟩:=h;exact ⟨σ',H',I.bU _,q⟩
 | cont=>obtain ⟨σ',H',I,q⟩:=h;exact ⟨σ',H',I.bU _,q⟩
 | ret u=>obtain ⟨v,σ',H',I,r,q⟩:=h;exact ⟨v,σ',H',I.bU _,r,q⟩
theorem A8 {rs:List (Addr×TS)} {pins:List (Addr×Obj)} {D:Ends} {x:Ss} {bd:List Stmt} (Nk:∀ G' X' N' sc' b' w',fY G' B Φ k X' N' sc' b' w'->AR G' B Φ k n X' N' sc' b' w') (O:fY G B Φ k X N sc false w) (h:iy { G with rz:=false } n false N sc (.ss bd x)=true) :
  ku ((gM X pins).bU (ja (gM X pins) (EH X.K rs D))) bd (xy B Φ (GX false X (EH X.K rs D)) x):=by
 have O':fY { G with rz:=false } B Φ k ((gM X pins).bU (ja (gM X pins) (GX false (gM X pins) (EH X.K rs D)).e)) N sc false (EH X.K rs D) :=
  ⟨O.hN,O.nd,O.hsc,O.K,O.calm,O.rm,O.dk,(fun e s ⟨p,σ,H,a,a0,C,B,h1,I,h⟩=>.inl ⟨p,σ,H,a,a0,C,B,h1,I.bU _,h⟩),(fun e s ⟨p,σ,H,a,a0,C,B,h1,I,h⟩=>⟨p,σ,H,a,a0,C,B,h1,I.bF,h⟩),(fun _ h=>by cases h),(by
   obtain ⟨env,outer,L,h1,h2,h3⟩:=O.fr
   exact ⟨env,outer,L,h1,h2,h3⟩),O.fn,O.fns,O.cst,O.blt,O.cls,O.Ck,O.K6,O.exc,O.Jr,O.Df,O.st⟩
 have P:=(Nk _ _ _ _ _ _ O').ss bd x h
 intro Ku s σ H Dn I q
 exact wpAny_mono (P Ku s σ H Dn (I.bF.bU _) q) (fun _ _ z=>A7 (SP.bF z)) fun e s2 z=>qB z
theorem Bg {rs:List (Addr×TS)} {hs:Hs} {x:Ss} {Dn:Ends} {σ:L2.St} {H:Hp} (O:fY G B Φ k X N sc false w) (hrs:Jw B Φ (GX false X w) B.MI hs=some rs) (h:TC B Φ (GX false X w) (.try x hs .nil) Dn σ H):xy B Φ (GX false X (EH X.K rs Dn)) x Dn σ H:=by
 obtain ⟨σD,M,F,ρ,S,r,h⟩:=h
 simp only [ex] at h
 refine ⟨σD,M,F,ρ,S,r,?_⟩
 cases hx:exs Φ x σD M with
 | bad=>rw [hx] at h;exact h
 | exc c M1=>rw [hx] at h;exact h
 | ok o M1 =>
  rw [hx] at h
  simp only [R.af] at h
  intro F1 ρ1 H1 e1 S1
  cases o with
  | nx σ1=>simp only [exs] at h;exact h F1 ρ1 H1 e1 S1
  | rt d=>exact h F1 ρ1 H1 e1 S1
  | bk σ1=>exact h F1 ρ1 H1 e1 S1
  | ct σ1=>exact h F1 ρ1 H1 e1 S1
  | xc c σ1 =>
   intro σ' cv x' r1 hcv
   obtain ⟨C,bmB,newId,bm,rfl,EC,sub⟩:=O.Jr c cv hcv
   obtain ⟨t,pk,ht⟩:=ue (mro:=.ref C::bm) sub hrs S1 r1 (aW.weak e1 h)
   exact ⟨H1,.refl _,C,bmB,newId,bm,t,rfl,EC,pk,ht⟩
theorem JX (O:fY G B Φ k X N sc b w) (ih:AR G B Φ k n X N sc b w) (Nk:∀ G' X' N' sc' b' w',fY G' B Φ k X' N' sc' b' w'->AR G' B Φ k n X' N' sc' b' w') (a:Stmt) (c:S) (h:iy G (n+1) b N sc (.s a c)=true):PS X a (TC B Φ (GX b X w) c):=by
 have HP:=fun X' N' sc' w' (O':fY G B Φ k X' N' sc' true w')=>Nk G X' N' sc' true w' O'
 have hp:PassesOwn (model X.prog X.w) X.A X.env X.xe:=rX O.fr O.fo O.fx
 cases c with
 | bad=>exact fun _ _ _ _ _ _ q=>(Ja q).elim
 | set i c =>
  replace h:=lz h
  obtain ⟨t,e,p,rfl,h⟩:=h
  replace h:=Lg h
  obtain ⟨x,px,rfl,h⟩:=h
  simp only [Bool.and_eq_true,decide_eq_true_eq] at h
  obtain ⟨⟨⟨h3,h1⟩,h2⟩,h4⟩:=h
  cases b with
  | true=>cases h3
  | false =>
   have st:iy G n false N sc (.e e c)=true->swapsWith e (some (.Name x px)) p.line X.env=pure false->PS X (.Assign [.Name x px] e p) (TC B Φ (GX false X w) (.set i c)):=fun q w =>
    PS.weak (yr (by rw [O.hN];exact O.nd) (by rw [O.hN];exact h1) (O.loc h2) (ih.e _ _ q) w (.inl (O.fn rfl x))) fun _ _ _=>nN
   replace h4:=CJ h4
   rcases h4 with ⟨fz,caps,tg,elt,it,cond,rfl,h4⟩ | h4
   ·obtain ⟨el,tn,iter,ifs,scope,lp,rfl,h4⟩:=El h4
    cases hs:xN sc scope x px lp with
    | true =>
     rw [hs] at h4
     replace h4:=aM h4
     obtain ⟨h4,k7⟩:=h4
     obtain ⟨C1,C2,C3,C4⟩:=pN O ih HP h4
     have hl:X.env.scope.names.lookup x=some .local:=by rw [O.hsc];exact zc k7
     refine PS.weak (uB (BP (by rw [O.hN];exact O.nd) (by rw [O.hN];exact h1) hl O.calm C1 C2 O.fr O.fx C3 C4 (by rw [swap_eq O,hs]))) fun D σ H q=>?_
     exact pV (nN q)
    | false =>
     rw [hs] at h4
     exact st h4 (by rw [swap_eq O,hs])
   ·replace h4:=aM h4
    obtain ⟨q1,q2⟩:=h4
    exact st q2 (iL q1)
 | mh x y c =>
  replace h:=lz h
  obtain ⟨t,e,p,rfl,h⟩:=h
  replace h:=sE h
  obtain ⟨o,i,q,rfl,h⟩:=h
  simp only [Bool.and_eq_true] at h
  obtain ⟨⟨⟨h1,h2⟩,h3⟩,h4⟩:=h
  exact PS.weak (BQ O.rm' (ih.e _ _ h3) (ih.e _ _ h4) (ih.e _ _ h2) (iL h1)) fun _ _ _=>xX
 | ex c =>
  replace h:=HB h
  obtain ⟨e,p,rfl,h⟩:=h
  replace h:=aM h
  obtain ⟨h1,h2⟩:=h
  exact PS.weak (BR (ih.e _ _ h2) (iL h1)) fun _ _ _=>Fv
 | ret c =>
  replace h:=Hh h
  rcases h with ⟨p,rfl,h⟩ | ⟨e,p,rfl,h⟩
  ·cases h
  ·exact PS.weak (FZ (ih.e _ _ h)) fun _ _ _=>Bk
 | FJ=>cases h
 | ifs c x y =>
  replace h:=Hw h
  obtain ⟨t,l,q,p,rfl,h⟩:=h
  replace h:=aM h
  obtain ⟨h,h3⟩:=h
  replace h:=aM h
  obtain ⟨h1,h2⟩:=h
  exact PS.weak (Kp (ih.t _ _ h1).1 (ih.ss _ _ h2) (ih.ss _ _ h3)) fun _ _ _=>Bu
 | «for» tg it x =>
  replace h:=HA h
  obtain ⟨tn,iter,body,p,rfl,h⟩:=h
  simp only [Bool.and_eq_true] at h
  obtain ⟨⟨⟨⟨⟨h0,hz⟩,h1⟩,h2⟩,h3⟩,h4⟩:=h
  cases b with
  | true=>cases h0
  | false=>exact PS.weak (uB (F5 hp O.calm (ih.i rfl _ _ _ hz h2) (O.tg h3).1 (ih.ss _ _ h4) (set_plain h1))) fun _ _ _=>Bx
 | «while» c x =>
  replace h:=Le h
  obtain ⟨t,body,p,rfl,h⟩:=h
  replace h:=aM h
  obtain ⟨h1,h2⟩:=h
  exact PS.weak (yq hp (ih.t _ _ h1).1 (ih.ss _ _ h2)) fun _ _ _=>vR
 | brk=>cases h
 | cont=>cases h
 | pass=>cases h
 | bZ x f c =>
  replace h:=lz h
  obtain ⟨t,e,p,rfl,h⟩:=h
  replace h:=sF h
  obtain ⟨o,y,q,rfl,h⟩:=h
  simp only [Bool.and_eq_true,decide_eq_true_eq] at h
  obtain ⟨⟨⟨⟨h1,h2⟩,h3⟩,h4⟩,h5⟩:=h
  subst h1
  exact PS.weak (F6 (ih.e _ _ h5) (ih.e _ _ h4) (iL h3)) fun _ _ _=>xY fun c C hc=>⟨(O.cls c C hc).1,(O.cls c C hc).2 _ h2⟩
 | nJ tg c =>
  replace h:=lz h
  obtain ⟨tn,e,p,rfl,h⟩:=h
  simp only [Bool.and_eq_true] at h
  obtain ⟨⟨⟨⟨h0,h1⟩,h2⟩,h3⟩,h4⟩:=h
  cases tn <;> first | (cases h1;done) | skip
  cases e <;> first | (cases h3;done) | exact PS.weak (F7 (ih.e _ _ h4) (O.tg h2).1 rfl rfl rfl) fun _ _ _=>Be
 | raise c es =>
  replace h:=aM h
  obtain ⟨h,h'⟩:=h
  replace h:=aM h
  obtain ⟨hb,hz⟩:=h
  cases b with
  | true=>cases hb
  | false =>
   replace h':=Hj h'
   obtain ⟨e,pos,rfl,h⟩:=h'
   replace h:=fP h
   obtain ⟨x,np,as,cp,rfl,h⟩:=h
   replace h:=gG h
   obtain ⟨m,rfl,h⟩:=h
   simp only [Bool.and_eq_true,decide_eq_true_eq] at h
   obtain ⟨⟨⟨h1,h2⟩,h3⟩,h4⟩:=h
   obtain ⟨C,bmB,newId,bm,base,initId,q1,q2,q3,q4,q5,q6⟩:=O.exc _ _ h3
   replace h4:=Hr h4
   rcases h4 with ⟨z,j,p,rfl,h4⟩ | ⟨vs,p,rfl,h4⟩
   ·cases iX h4
    refine PS.weak (qd q1 (O.l7 h1) (fN h2).1 q4 q5 O.calm rfl (b6 rV fm rfl) (O.nx rfl hz)) fun D σ H q=>?_
    exact ⟨by show 1<=2 ^ 24;decide,(mS q3 q).nil⟩
   ·simp only [Bool.and_eq_true,decide_eq_true_eq] at h4
    refine PS.weak (qd q1 (O.l7 h1) (fN h2).1 q4 q5 O.calm rfl (b6 (Gi (ih.m _ _ h4.2) h4.1.1 h4.1.2) fm rfl) (O.nx rfl hz)) fun D σ H q=>?_
    obtain ⟨σD,M,F,ρ,S,r,z⟩:=mS q3 q
    exact ⟨σD,M,F,ρ,S,r,aj.imp z fun _ H' z y=>⟨by show 1<=2 ^ 24;decide,z⟩⟩
 | «try» x hs els =>
  replace h:=aM h
  obtain ⟨h,h'⟩:=h
  replace h:=aM h
  obtain ⟨hb,he⟩:=h
  cases b with
  | true=>cases hb
  | false =>
   cases nL he
   replace h':=G8 h'
   obtain ⟨bd,h₀,hr,p,rfl,h⟩:=h'
   replace h:=aM h
   obtain ⟨h1,h2⟩:=h
   obtain ⟨rs,hrs,ph⟩:=xT O h2
   exact PS.weak (FY (O.st rfl).1 (O.st rfl).2 (fun pins D=>A8 Nk O h1) ph) fun D σ H q=>Bg O hrs q
theorem sound:∀ (n:Nat) {G:Gm} {X:Cx} {N:List Str} {sc:Scope} {b:Bool} {w:XS},fY G B Φ k X N sc b w->AR G B Φ k n X N sc b w
 | 0,G,X,N,sc,b,w,O=>⟨fun _ _ h=>(by cases h),fun _ _ h=>(by cases h),fun _ _ h=>(by cases h),fun _ _ h=>(by cases h),fun _ _ _ _ _ h=>(by cases h),fun _ _ h=>(by cases h),fun _ _ h=>(by cases h),fun _ _ h=>(by cases h)⟩
 | n+1, G, X, N, sc, b, w, O=>by
  have ih:=sound n O
  have HP:=fun X' N' sc' w' (O':fY G B Φ k X' N' sc' true w')=>sound n O'
  refine ⟨JZ O ih HP,JW O ih,fun a c h=>?_,fun a c h=>?_,fun hb=>JY O ih hb,JX O ih (fun G' X' N' sc' b' w' O'=>sound n O'),fun a c h=>?_,fun a c h=>?_⟩
  ·cases a with
   | nil =>
    cases iX (c:=c) h
    exact PA.weak fm fun _ _ _=>iH
   | cons a as =>
    replace h:=zz (c:=c) h
    obtain ⟨c,cs,rfl,h⟩:=h
    replace h:=aM h
    obtain ⟨h,h3⟩:=h
    replace h:=aM h
    obtain ⟨h1,h2⟩:=h
    exact PA.weak (b6 (ih.e _ _ h2) (ih.es _ _ h3) (az h1)) fun _ _ _=>x8
  ·cases c with
   | none =>
    cases a with
    | none=>exact PO.weak BV fun _ _ _=>Fq
    | some _=>cases h
   | some c =>
    cases a with
    | none=>cases h
    | some a=>exact PO.weak (BU (ih.e _ _ h)) fun _ _ _=>Fp
  ·cases a with
   | nil =>
    cases nL (c:=c) h
    exact ku.weak uA fun _ _ _=>pQ
   | cons a as =>
    replace h:=En (c:=c) h
    obtain ⟨c,cs,rfl,h⟩:=h
    replace h:=aM h
    obtain ⟨h1,h2⟩:=h
    exact ku.weak (qc (ih.s _ _ h1) (ih.ss _ _ h2)) fun _ _ _=>mR
  ·cases a with
   | nil =>
    cases iX (c:=c) h
    exact .nil
   | cons a as =>
    replace h:=Ho h
    rcases h with ⟨y,j,p,rfl,h⟩ | ⟨v,j,p,rfl,h⟩
    ·replace h:=aM h
     obtain ⟨h1,h2⟩:=h
     exact .lit (of_decide_eq_true h1) (ih.m _ _ h2)
    ·replace h:=zz h
     obtain ⟨e,es,rfl,h⟩:=h
     simp only [Bool.and_eq_true,decide_eq_true_eq] at h
     obtain ⟨⟨h1,h2⟩,h3⟩:=h
     subst h1
     exact .fld (ih.e _ _ h2) (ih.m _ _ h3)
end
end Fg
end
section
namespace Fg
open PySem PySem.Spec L2
inductive DI:List DictEntry->List (Key×V)->Prop
 | nil:DI [] []
 | cons {h:Int} {x:Str} {t:Tok} {u:Value} {v:V} {es:List DictEntry} {kvs:List (Key×V)}:RelV v u->DI es kvs->DI (⟨h,.str x t,u⟩::es) ((Sum.inr x,v)::kvs)
noncomputable def NQ (w:World) (K:W.Frag) (a:Addr) (kvs:List (Key×V)):Prop :=
 kvs.length<=sizeLine/\(a == sysModules)=false/\(kvs.map (·.1)).Nodup/\∃ es n, K.lookup a=some ⟨.type "dict", none, .dict es n, #[]⟩/\W.KeysLit w.params es.toList/\DI es.toList kvs
theorem DI.vs {prog:Program} {w:World}:∀ {es:List DictEntry} {kvs:List (Key×V)},DI es kvs->∃ vs,KV kvs vs/\Pairs (aT prog w) es vs/\vs.map (·.1)=kvs.map (·.1)
 | _,_,.nil=>⟨[],.nil,.nil,rfl⟩
 | _,_,.cons (h:=h) (x:=x) (t:=t) (u:=u) r q=>by
  obtain ⟨vs,h1,h2,h3⟩:=DI.vs q
  exact ⟨(Sum.inr x,u)::vs,.cons ⟨rfl,r⟩ h1,.cons (jh x t) rfl h2,by simp [h3]⟩
theorem NQ.ok {prog:Program} {w:World} {K:W.Frag} {a:Addr} {kvs:List (Key×V)} (d:NQ w K a kvs) (h:Heap) (X:K.In h):kvs.length<=sizeLine/\(a == sysModules)=false/\∃ vs,KV kvs vs/\h.DictOf (aT prog w) a vs:=by
 obtain ⟨h1,h2,h3,es,n,h4,h5,h6⟩:=d
 obtain ⟨vs,q1,q2,q3⟩:=DI.vs (prog:=prog) (w:=w) h6
 refine ⟨h1,h2,vs,q1,_,es,n,X _ _ h4,⟨rfl,rfl,rfl⟩,rfl,fun e he=>?_,q2,by rw [q3];exact h3⟩
 obtain ⟨x,t,e1,e2⟩:=h5.all e (Array.mem_toList_iff.mpr he)
 exact ⟨Sum.inr x,by rw [e1];exact jh x t,e2⟩
theorem Ib {K:W.Frag} {C:Addr} {bmB:List Value} {newId:String} (q:W.excIn K C bmB newId=true):∃ bm,qX K C bmB newId bm/\∀ v b,W.mroIn K C v=some b->(Value.ref C::bm).contains v=b:=by
 unfold W.excIn at q
 split at q
 ·rename_i dd cd sl lk
  split at q
  ·rename_i C2 bm a0 a1 a2 a3 n a5 hm hs
   simp only [beq_iff_eq,Bool.not_eq_true',Bool.and_eq_true] at q;obtain ⟨⟨⟨⟨⟨rfl,rfl⟩,dl⟩,ht⟩,hok⟩,hni⟩:=q
   obtain ⟨nm,bs,mr,ns,qn,hd,sn,sb,ab,cl,dl'⟩:=cd;dsimp only at hm dl hok hni;subst hm dl
   obtain ⟨l⟩:=sl
   simp only at hs
   subst hs
   refine ⟨bm,⟨nm,qn,ns,bs,hd,sn,sb,ab,cl,dd,a0,a1,a2,a3,a5,lk,hok,hni,ht⟩,fun v b e=>?_⟩
   unfold W.mroIn W.clsIn at e
   rw [lk] at e
   simpa using e
  ·cases q
 ·cases q
theorem kr {C:Addr} {bm:List Value} {s:String} (h:(Value.ref C::bm).contains (.type s)=true):bm.contains (.type s)=true:=by
 rw [List.contains_cons] at h
 simpa using h
noncomputable def mF (w:World) (K:W.Frag) (cl:Nat->Option Addr) (xc:Nat->Option Addr):Bd:=⟨K,NQ w K,cl,fun c cv=>∃ C,xc c=some C/\cv=.ref C,xc⟩
theorem Mj {X:Cx} {cl xc:Nat->Option Addr}:mE (mF X.w X.K cl xc) X:=fun a kvs h hp KX=>NQ.ok h hp KX
structure DH (K:W.Frag) (x qual:Str) (st:Stmt) (f:Addr) (fd:FuncData):Prop where
 ex:∃ (oc:Value) (od:Option Addr) (dV kV doc pm:Value) (an:Option Addr) (cdv ct:Value) (osl:Array (Option Value)),
  fd=W.fnOf x qual (i0 st) (cK st) (aH st) dV kV doc pm an cdv ct/\K.lookup f=some ⟨oc,od,.func fd,osl⟩/\W.codeIn K cdv qual=true
noncomputable def FnAt (G:Gm) (P:mD) (K:W.Frag) (i m:Nat) (fa:Addr) (fd:FuncData) (ps:List Str):Prop:=∃ x qual st N fn,DH K x qual st fa fd/\P.fn i=some fn/\d7 N ps (aH st)/\ps.length=m/\fn.np=m/\fn.ns=N.length/\fn.lR=[]/\iy G 200 false N (aH st) (.ss (cK st) fn.body)=true
structure Md (G:Gm) (P:mD) (w:World) (K:W.Frag) (mg:Str->Option Value) (cl xc:Nat->Option Addr):Prop where
 cst:∀ x i,G.cst.lookup x=some i->∃ v u,mg x=some u/\RelV v u/\∀ d,P.glob i=some d->∀ F ρ H,RD (mF w K cl xc) F ρ H d v
 blt:∀ x,G.lU.contains x=true->mg x=none
 fns:∀ f i m,G.fns.lookup f=some (i,m)->∃ fa fd ps,mg f=some (.ref fa)/\W.keepIn K (.ref fa)=true/\Binds K fd ps []/\FnAt G P K i m fa fd ps
 cls:∀ c C,cl c=some C->xo K C/\∀ f,G.CT.contains f=true->eE K C f
 Ck:∀ c nm i m,G.Ck.lookup (c,nm)=some (i,m)->∃ C fa fd ps,cl c=some C/\Meth K C nm fa/\Binds K fd ps []/\FnAt G P K i m fa fd ps
 K6:∀ x c i m,G.cls.lookup x=some (c,i,m)->∃ C fa fd ps,mg x=some (.ref C)/\cl c=some C/\Mk K C fa/\Binds K fd ps []/\FnAt G P K i m fa fd ps
 exc:∀ x c,G.exc.lookup x=some c->∃ C,mg x=some (.ref C)/\xc c=some C
 Jr:∀ c C, xc c=some C->∃ bmB newId bm base initId, qX K C bmB newId bm/\ExcBaseFacts base newId initId bmB/\bm.contains (.type "BaseException")=true/\∀ d D, xc d=some D->(Value.ref C::bm).contains (.ref D)=P.sub c d
 Df:∀ x f m d,G.Df.lookup x=some (f,m,d)->∃ fa fd ps du,mg x=some (.ref fa)/\W.keepIn K (.ref fa)=true/\Binds K fd ps [du]/\RelV (.int d) du/\FnAt G P K f m fa fd ps
 rz:G.rz=true
section
variable {G:Gm} {P:mD} {w:World} {K:W.Frag} {mg:Str->Option Value} {prog:Program} {base:Heap}
theorem xP {B:Bd} {F:Addr->Prop} {ρ:List Addr} {H:Hp} {N:List Str} {ds:List D} {vs:List V} {n:Nat} (r:ak B F ρ H ds vs) (hn:n=N.length-vs.length):RS B F ρ H (ds.map some++List.replicate n none) (L2.start N vs):=by
 subst hn
 refine ⟨by simp [L2.start,ak.length r],fun i d q=>?_⟩
 by_cases hi:i<ds.length
 ·rw [List.getElem?_append_left (by simpa using hi),List.getElem?_map] at q
  cases hd:ds[i]? with
  | none=>rw [hd] at q;cases q
  | some e =>
   rw [hd] at q
   simp only [Option.map_some,Option.some.injEq] at q
   subst q
   obtain ⟨v,h1,h2⟩:=ak.get r hd
   refine ⟨v,?_,h2⟩
   unfold L2.start
   rw [List.getElem?_append_left (by rw [List.length_map,<- ak.length r];exact hi),List.getElem?_map,h1];rfl
 ·rw [List.getElem?_append_right (by simpa using Nat.le_of_not_lt hi),List.getElem?_replicate] at q
  split at q <;> cases q
theorem mX {B:Bd} {F F':Addr->Prop} {ρ ρ':List Addr} {H H':Hp} {M M':MH} {d:D} {v:V} {kp:Bool} {Q:VK} {X:XK} (S:SR B F ρ M H) (h:Post B (eL kp M d M') F ρ H Q X) (e:Ext F ρ H F' ρ' H') (S':SR B F' ρ' M' H') (rd:RD B F' ρ' H' d v):Q v H':=by
 unfold eL at h
 split at h
 ·rename_i hk
  split at h
  ·rename_i hn
   exact h F' ρ H' v e.cut (S.cut S' e hk.2) (RD.cut e.r (by rw [S.len];exact hn) rd)
  ·rename_i hn
   split at h
   ·rename_i n
    split at h
    ·rename_i ds hM
     split at h
     ·rename_i hns
      simp only [RD] at rd
      obtain ⟨a,h1,rfl⟩:=rd
      obtain ⟨vs,h2,h3⟩:=S'.obj n a _ h1 hM
      have hlt:¬ n<M.length:=by simpa [nr] using hn
      have ha:a∉ρ:=fun z=>by
       obtain ⟨j,hj,ej⟩:=List.mem_iff_getElem.mp z
       have q:ρ'[j]? = some a:=e.at (by rw [List.getElem?_eq_getElem hj,ej])
       obtain ⟨j1,q1⟩:=List.getElem?_eq_some_iff.mp q
       obtain ⟨j2,q2⟩:=List.getElem?_eq_some_iff.mp h1
       have:=(List.getElem_inj S'.nd).mp (q1.trans q2.symm)
       rw [S.len] at hj
       omega
      have hHa:H a=none:=(e.n a (List.mem_of_getElem? h1)).resolve_left ha
      have Sc:=S.cut S' e hk.2
      have r3:=ak.cut e.r (by rw [S.len];exact hns) h3
      have xt:qY F' ρ H' (fun b=>F' b\/b=a) ρ H':=⟨fun _ q=>.inl q,fun _ _ _=>rfl,List.prefix_refl _⟩
      have ec:=e.cut
      refine h (fun b=>F' b\/b=a) ρ H' (.ref a) ⟨⟨ec.s,fun b q=>.inl (ec.f b q),ec.h,ec.r,ec.n,fun b q=>q.elim (ec.g b) fun z=>.inr (.inl (z ▸ hHa))⟩,ec.z⟩ (Sc.take ha (by rw [h2];simp)) ?_
      simp only [RD]
      exact ⟨a,vs,rfl,.inl ⟨.inr rfl,.inl h2⟩,ak.bB xt _ _ r3⟩
     ·exact h F' ρ' H' v e S' rd
    ·exact h F' ρ' H' v e S' rd
   ·exact h F' ρ' H' v e S' rd
 ·exact h F' ρ' H' v e S' rd
theorem vX {B:Bd} {F F':Addr->Prop} {ρ ρ':List Addr} {H H':Hp} {M M':MH} {c:Nat} {cv:Value} {x:Option Addr} {Q:VK} {X:XK} (S:SR B F ρ M H) (h:Post B (pY M c M') F ρ H Q X) (e:Ext F ρ H F' ρ' H') (S':SR B F' ρ' M' H') (q:B.exc c cv):X cv x H':=by
 unfold pY at h
 split at h
 ·rename_i hk
  exact h F' ρ H' cv x e.cut (S.cut S' e hk) q
 ·exact h F' ρ' H' cv x e S' q
noncomputable abbrev Ax (X:Cx) (w:XS):Cx:=X.bU fun e s=>ja X (GX false X w).e e s\/EW X (GX false X w).e e s
theorem CN {x qual:Str} {st:Stmt} {f:Addr} {fd:FuncData} {N ps:List Str} {k:Nat} {sp:Sp} (F:DH K x qual st f fd) (S:d7 N ps (aH st)) (len:∀ vs H Q E,sp vs H Q E->vs.length=ps.length)
  (hbody:∀ (cdv:Value) (A:Around) (outer:List Env) (s:Shared) (H:Hp) (vs:List V) (Q:VK) (E:XK),cX k (A.deeper (PyProof.Rows.envOfC qual (aH st) s.heap.objs.size f cdv))->sp vs H Q E ->
   ∃ t,ku (Ax (i6 (iD prog w) prog w K mg base N qual (aH st) f cdv A outer s H E) fun cv x _ H'=>E cv x H') (cK st) t/\t { nx:=fun _ H'=>Q .ai H',rt:=Q } (L2.start N vs) H):cS prog w K mg base (iD prog w) (k+1) f fd ps sp:=by
 obtain ⟨oc,od,dV,kV,doc,pm,an,cdv,ct,osl,rfl,lk,hcd⟩:=F.ex
 refine Ey lk hcd S len fun A outer s H vs Q E hr h=>?_
 obtain ⟨t,h1,h2⟩:=hbody cdv A outer s H vs Q E hr h
 refine ⟨t,fun pins s1 σ H1 D I q=>?_,h2⟩
 exact wpAny_mono (h1 pins s1 σ H1 D (I.bU _) q) (fun _ _ z=>z.bF) fun e s2 z=>z.elim (fun z=>wA e s2 (qB z)) fun z=>leave_new e s2 (yL z)
theorem nK {cl xc:Nat->Option Addr} (D:Md G P w K mg cl xc) {k:Nat} (ih:∀ (i m:Nat) (fa:Addr) (fd:FuncData) (ps:List Str),FnAt G P K i m fa fd ps->cS prog w K mg base (iD prog w) k fa fd ps (xR (mF w K cl xc) (aa P k) i m))
  (ih0:∀ j,k=j+1->∀ (i m:Nat) (fa:Addr) (fd:FuncData) (ps:List Str),FnAt G P K i m fa fd ps->cS prog w K mg base (iD prog w) j fa fd ps (xR (mF w K cl xc) (aa P j) i m))
  {f qual:Str} {i m:Nat} {fa:Addr} {fd:FuncData} {ps:List Str} {st:Stmt} {N:List Str} {fn:Fn} (h2:DH K f qual st fa fd) (h4:P.fn i=some fn) (h5:d7 N ps (aH st)) (h6:ps.length=m) (h7:fn.np=m) (h8:fn.ns=N.length) (h9:fn.lR=[]) (wJ:iy G 200 false N (aH st) (.ss (cK st) fn.body)=true) :
  cS prog w K mg base (iD prog w) (k+1) fa fd ps (xR (mF w K cl xc) (aa P (k+1)) i m):=by
  refine CN h2 h5 (fun vs H Q E q=>by rw [q.1,h6]) fun cdv A outer s H vs Q E hr q=>?_
  let X0:=i6 (iD prog w) prog w K mg base N qual (aH st) fa cdv A outer s H E
  obtain ⟨hl,ds,M,F,ρ,S,rd,post⟩:=q
  have O:fY G (mF w K cl xc) (aa P k) k (Ax X0 fun cv x _ H'=>E cv x H') N (aH st) false (fun cv x _ H'=>E cv x H') :=
   ⟨rfl,h5.nd,rfl,rfl,rfl,hr,Mj (X:=Ax X0 fun cv x _ H'=>E cv x H') (cl:=cl) (xc:=xc),(fun e s z=>z.imp (fun ⟨p,σ,H,a,a0,C,B,h1,I,h⟩=>⟨p,σ,H,a,a0,C,B,h1,I.bU _,h⟩) fun ⟨p,σ,H,a,C,vs,hh,h1,I,h⟩=>⟨p,σ,H,a,C,vs,hh,h1,I.bU _,h⟩),
    (fun e s ⟨p,σ,H,a,a0,C,B,h1,I,h⟩=>.inl ⟨p,σ,H,a,a0,C,B,h1,I.bF,h⟩),(fun _ _ e s ⟨p,σ,H,a,C,vs,hh,h1,I,h⟩=>.inr ⟨p,σ,H,a,C,vs,hh,h1,I.bF,h⟩),⟨_,_,_,rfl,rfl,rfl⟩,fun _ _=>rfl,(fun g j n hg=>by
    obtain ⟨fa,fd,ps,a1,a2,a3,a4⟩:=D.fns g j n hg
    exact ⟨fa,fd,ps,a1,a2,a3,ih j n fa fd ps a4⟩),fun x j hx=>by
    obtain ⟨v,u,a1,a2,a3⟩:=D.cst x j hx
    refine ⟨v,u,a1,a2,fun d hd=>a3 d ?_⟩
    cases k <;> exact hd,D.blt,D.cls,(fun c nm j n hg=>by
    obtain ⟨C,fa,fd,ps,a1,a2,a3,a4⟩:=D.Ck c nm j n hg
    exact ⟨C,fa,fd,ps,a1,a2,a3,ih j n fa fd ps a4⟩),(fun x c j n hg=>by
    obtain ⟨C,fa,fd,ps,a1,a2,a3,a4,a5⟩:=D.K6 x c j n hg
    refine ⟨C,fa,fd,ps,a1,a2,a3,a4,?_⟩
    cases k with
    | zero=>exact .inr fun _ _=>rfl
    | succ k'=>exact .inl ⟨k',rfl,ih0 k' rfl j n fa fd ps a5⟩),(fun x c hx=>by
    obtain ⟨C,a1,a2⟩:=D.exc x c hx
    obtain ⟨bmB,newId,bm,base,initId,a3,a4,a5,_⟩:=D.Jr c C a2
    exact ⟨C,bmB,newId,bm,base,initId,a1,a2,⟨C,a2,rfl⟩,a3,a4,a5⟩),(fun c cv hc=>by
    obtain ⟨C,a2,rfl⟩:=hc
    obtain ⟨bmB,newId,bm,base,initId,a3,a4,a5,a6⟩:=D.Jr c C a2
    refine ⟨C,bmB,newId,bm,rfl,a3,fun d D' hd=>(a6 d D' hd).trans ?_⟩
    cases k <;> rfl),(fun x f m d hd=>by
    obtain ⟨fa,fd,ps,du,a1,a2,a3,a4,a5⟩:=D.Df x f m d hd
    exact ⟨fa,fd,ps,du,a1,a2,a3,a4,ih f m fa fd ps a5⟩),fun _=>⟨rfl,rfl⟩⟩
  refine ⟨_,(sound 200 O).ss _ _ wJ,_,M,F,ρ,S,xP (n:=fn.ns-fn.np) rd (by rw [h8,h7,hl]),?_⟩
  have hds:ds.length=m:=by rw [ak.length rd,hl]
  have hc:(aa P (k+1)).call i ds M=mj (aa P k) fn ds M:=by simp only [aa,h4]
  rw [hc] at post
  have hz:ds.length+fn.lR.length-fn.np=0:=by rw [h9,h7,hds];simp
  unfold mj at post
  rw [if_pos (by rw [h9,h7,hds];simp),hz,h9] at post
  simp only [List.drop_nil,List.append_nil] at post
  cases hx:exs (aa P k) fn.body (ds.map some++List.replicate (fn.ns-fn.np) none) M with
  | bad=>rw [hx] at post;exact post
  | exc c M'=>rw [hx] at post;exact post
  | ok o M' =>
   rw [hx] at post
   intro F' ρ' H' e S'
   cases o with
   | rt d=>exact fun v q=>mX S post e S' q
   | nx σ'=>exact fun σ q=>mX S post e S' (d:=.ai) (v:=.ai) (by simp only [RD])
   | bk _=>exact post.elim
   | ct _=>exact post.elim
   | xc c σ' =>
    intro σ cv x q1 q2
    exact ⟨H',.refl _,vX S post e S' q2⟩
theorem lX {cl xc:Nat->Option Addr} (D:Md G P w K mg cl xc):∀ (k:Nat) (i m:Nat) (fa:Addr) (fd:FuncData) (ps:List Str),FnAt G P K i m fa fd ps->cS prog w K mg base (iD prog w) k fa fd ps (xR (mF w K cl xc) (aa P k) i m)
 | 0, i, m, fa, fd, ps, h=>by
  have no:∀ vs H Q E,¬ xR (mF w K cl xc) (aa P 0) i m vs H Q E:=fun vs H Q E q=>by
   obtain ⟨_,ds,M,F,ρ,_,_,q⟩:=q
   exact q
  exact ⟨fun vs H Q E q=>absurd q (no vs H Q E),fun A outer s H args us vs Q E _ _ _ _ q=>absurd q (no vs H Q E)⟩
 | 1,i,m,fa,fd,ps,h=>by
  obtain ⟨x,qual,st,N,fn,h2,h4,h5,h6,h7,h8,h9,wJ⟩:=h
  exact nK D (lX D 0) (fun j e=>by cases e) h2 h4 h5 h6 h7 h8 h9 wJ
 | k+2,i,m,fa,fd,ps,h=>by
  obtain ⟨x,qual,st,N,fn,h2,h4,h5,h6,h7,h8,h9,wJ⟩:=h
  exact nK D (lX D (k+1)) (fun j e=>by cases e;exact lX D k) h2 h4 h5 h6 h7 h8 h9 wJ
noncomputable def DW (K:W.Frag):Sp:=fun vs H Q _=>∃ (a:Addr) (ns:List Int),vs=[.ref a]/\gb K H a (ns.map V.int)/\ns.length<=63/\∀ H',Q (.bl true) H'
theorem sy {cl xc:Nat->Option Addr} (D:Md G P w K mg cl xc) {f qual:Str} {i k:Nat} (hP:∀ ns:List Int,ns.length<=63->∃ M',(aa P (k+1)).call i [.lst (ns.map .int)] []=.ok (.bl true) M')
  {fa:Addr} {fd:FuncData} {ps:List Str} {st:Stmt} {N:List Str} {fn:Fn} (h2:DH K f qual st fa fd) (h4:P.fn i=some fn) (h5:d7 N ps (aH st)) (h6:ps.length=1) (h7:fn.np=1) (h8:fn.ns=N.length) (h9:fn.lR=[]) (wJ:iy G 200 false N (aH st) (.ss (cK st) fn.body)=true) :
  cS prog w K mg base (iD prog w) (k+1) fa fd ps (DW K):=by
 refine (nK (prog:=prog) (base:=base) D (lX D k) (fun j _=>lX D j) h2 h4 h5 h6 h7 h8 h9 wJ).imp fun vs H Q E q=>?_
 obtain ⟨a,ns,rfl,hS,hl,q⟩:=q
 obtain ⟨M',hM⟩:=hP ns hl
 have Eo:∀ (F:Addr->Prop) (ns:List Int),ak (mF w K cl xc) F [] H (ns.map Fg.D.int) (ns.map V.int):=by
  intro F ns
  induction ns with
  | nil=>exact ak.nil
  | cons n ns ih=>exact ak.cons (by simp only [RD]) ih
 have fin:∀ F:Addr->Prop,Post (mF w K cl xc) ((aa P (k+1)).call i [.lst (ns.map .int)] []) F [] H Q E:=by
  intro F
  rw [hM]
  intro F' ρ' H' v e S' rd
  simp only [RD] at rd
  subst rd
  exact q H'
 rcases hS with hS | hS
 ·refine ⟨rfl,[.lst (ns.map .int)],[],fun b=>b=a,[],⟨rfl,List.nodup_nil,fun _ z=>by simp at z,fun b e=>by rw [e];exact D5 hS,fun n b o z=>by simp at z⟩,?_,fin _⟩
  refine ak.cons ?_ ak.nil
  simp only [RD]
  exact ⟨a,_,rfl,.inl ⟨rfl,hS⟩,Eo _ ns⟩
 ·refine ⟨rfl,[.lst (ns.map .int)],[],fun _=>False,[],⟨rfl,List.nodup_nil,fun _ z=>by simp at z,fun b e=>e.elim,fun n b o z=>by simp at z⟩,?_,fin _⟩
  refine ak.cons ?_ ak.nil
  simp only [RD]
  exact ⟨a,_,rfl,.inr hS,Eo _ ns⟩
end
end Fg
end
section
namespace Fg
open PySem PySem.Spec L2
theorem tT:∀ {ps:List Str} {us:List Value} {n:Str},n∉ps->(ps.zip us).lookup n=none
 | [],_,_,_=>rfl
 | _::_,[],_,_=>rfl
 | p::ps,u::us,n,h=>by
  rw [List.zip_cons_cons,List.lookup_cons,show (n == p)=false from beq_eq_false_iff_ne.mpr fun e=>h (e ▸ List.mem_cons_self)]
  exact tT fun z=>h (List.mem_cons_of_mem _ z)
theorem kB:∀ {ps:List Str} {us:List Value} {n:Str},n∈ps->ps.length<=us.length->((ps.zip us).lookup n).isNone=false
 | p::ps,[],n,_,hl=>by simp at hl
 | p::ps,u::us,n,h,hl=>by
  rw [List.zip_cons_cons,List.lookup_cons]
  cases e:n == p with
  | true=>rfl
  | false =>
   have e:=beq_eq_false_iff_ne.mp e
   exact kB ((List.mem_cons.mp h).resolve_left e) (by simpa using hl)
theorem qA {α β:Type} {f g:α->Option β}:∀ {l:List α},(∀ n∈l,f n=g n)->l.filterMap f=l.filterMap g
 | [],_=>rfl
 | a::l,h=>by
  rw [List.filterMap_cons,List.filterMap_cons,h a List.mem_cons_self,qA fun n hn=>h n (List.mem_cons_of_mem _ hn)]
theorem j5:∀ {ps:List Str} {us:List Value},ps.Nodup->us.length=ps.length->(ps.filterMap fun n=>((ps.zip us).lookup n).map (n,·))=ps.zip us
 | [],_,_,_=>rfl
 | p::ps,[],_,hl=>by simp at hl
 | p::ps,u::us,nd,hl=>by
  rw [List.nodup_cons] at nd
  rw [List.zip_cons_cons,List.filterMap_cons,List.lookup_cons,beq_self_eq_true]
  simp only [Option.map_some]
  congr 1
  refine Eq.trans ?_ (j5 (us:=us) nd.2 (by simpa using hl))
  exact qA fun n hn=>by rw [List.lookup_cons,show (n == p)=false from beq_eq_false_iff_ne.mpr fun e=>nd.1 (e ▸ hn)]
noncomputable def kO (a:Arguments) (ps:List Str):Bool:=a.posonlyargs.isEmpty&&a.kwonlyargs.isEmpty&&a.vararg.isNone&&a.kwarg.isNone&&decide (a.args.map (·.arg)=ps)
section
variable {s:Shared} {fd:FuncData} {ps:List Str} {us:List Value}
theorem jG {us:List Value} {qs:List Str} (h:∀ n∈qs,((ps.zip us).lookup n).isNone=false):(qs.filter fun n=>((ps.zip us).lookup n).isNone)=[]:=by
 rw [List.filter_eq_nil_iff]
 intro n hn
 rw [h n hn]
 decide
theorem jU (hp:kO fd.params ps=true) (nd:ps.Nodup) (hd:fd.defaults=.none) (hl:us.length=ps.length):BindsTo s fd ⟨us,[]⟩ (ps.zip us):=by
 simp only [kO,Bool.and_eq_true,List.isEmpty_iff,Option.isNone_iff_eq_none,decide_eq_true_eq] at hp
 obtain ⟨⟨⟨⟨h1,h2⟩,h3⟩,h4⟩,h5⟩:=hp
 refine BindsTo.of_eq ?_
 unfold bindArgs
 simp only [h1,h2,h3,h4,h5,hd,List.map_nil,List.nil_append,List.append_nil,List.forIn_nil,Option.isNone_none,Bool.and_true,pure_bind]
 rw [show seqItems? Value.none=pure none from rfl,pure_bind]
 simp only [Option.getD_none,List.length_nil,Nat.zero_sub,List.drop_zero,Nat.sub_zero,List.take_length]
 rw [jG fun n hn=>kB hn (Nat.le_of_eq hl.symm),if_neg (by rw [hl];simp)]
 simp only [List.isEmpty_nil,Bool.not_true,Bool.false_eq_true,if_false,List.drop_length,List.zip_nil_left,List.forIn_nil,pure_bind]
 rw [j5 nd hl]
theorem nB (hp:kO fd.params ps=true) (nd:ps.Nodup) {T:Addr} {o:Obj} {its:Array Value} {n:Nat} {du:Value} (hd:fd.defaults=.ref T) (ho:s.heap.get? T=some o) (hs:o.data=.seq its n) (hi:its.toList=[du])
  {ds:List Value} (hds:ds=[]\/ds=[du]) (hl:(us++ds).length=ps.length) (h0:ps≠[]):BindsTo s fd ⟨us,[]⟩ (ps.zip (us++ds)):=by
 simp only [kO,Bool.and_eq_true,List.isEmpty_iff,Option.isNone_iff_eq_none,decide_eq_true_eq] at hp
 obtain ⟨⟨⟨⟨h1,h2⟩,h3⟩,h4⟩,h5⟩:=hp
 obtain ⟨qs,z,rfl⟩:∃ qs z,ps=qs++[z]:=by
  rcases List.eq_nil_or_concat ps with e | ⟨qs,z,e⟩
  ·exact absurd e h0
  ·exact ⟨qs,z,by simpa using e⟩
 intro M A E Q hq
 unfold bindArgs
 simp only [h1,h2,h3,h4,h5,hd,List.map_nil,List.nil_append,List.append_nil,List.forIn_nil,Option.isNone_none,Bool.and_true,pure_bind]
 refine wpAny_bind (wpAny_seqItems ho hs ?_)
 simp only [Option.getD_some,hi,List.length_append,List.length_cons,List.length_nil] at hl ⊢
 have hz:z∉qs:=fun m=>by
  rw [List.nodup_append] at nd
  exact nd.2.2 z m z List.mem_cons_self rfl
 rw [show (0+1-(qs.length+(0+1)))=0 by omega,List.drop_zero,List.length_cons,List.length_nil,show qs.length+(0+1)-(0+1)=qs.length by omega,List.take_left,List.drop_left,
  jG (fun n hn=>?_),if_neg (by simp;rcases hds with rfl | rfl <;> simp at hl <;> omega)]
 ·simp only [List.isEmpty_nil,Bool.not_true,Bool.false_eq_true,if_false,List.zip_cons_cons,List.zip_nil_right,List.forIn_cons,List.forIn_nil,pure_bind]
  rcases hds with rfl | rfl
  ·rw [List.append_nil] at hq
   rw [kB (by simp) (by simp at hl ⊢;omega)]
   simp only [Bool.false_eq_true,if_false,pure_bind]
   rw [j5 nd (by simpa using hl)]
   exact wpAny_pure hq
  ·have hl':us.length=qs.length:=by simp at hl;omega
   have e:(qs++[z]).zip us=qs.zip us:=by
    rw [show us=us++[] by simp,List.zip_append hl'.symm];simp
   have e2:(qs++[z]).zip (us++[du])=qs.zip us++[(z,du)]:=by
    rw [List.zip_append hl'.symm];simp
   rw [e,tT hz]
   simp only [Option.isNone_none,if_true,pure_bind]
   rw [<- e2,j5 nd (by simpa using hl)]
   exact wpAny_pure hq
 ·rcases hds with rfl | rfl
  ·exact kB (by simp [hn]) (by simp at hl ⊢;omega)
  ·have hl':us.length=qs.length:=by simp at hl;omega
   have e:(qs++[z]).zip us=qs.zip us:=by
    rw [show us=us++[] by simp,List.zip_append hl'.symm];simp
   rw [e]
   exact kB hn (Nat.le_of_eq hl'.symm)
end
end Fg
end
section
namespace Fg
open PySem PySem.Spec L2
theorem ES {K:W.Frag} {x:Str} {a:Addr} (h:adr K x=some a):W.nsIn K mainGlobals x=some (some (.ref a)):=by
 unfold adr at h
 split at h
 ·rename_i e;cases h;exact e
 ·cases h
theorem qL {K:W.Frag} {v:Value} (h:jB K v=some none):v=.none:=by
 unfold jB at h
 split at h
 ·rfl
 ·split at h
  ·split at h <;> cases h
  ·cases h
 ·cases h
theorem qK {K:W.Frag} {v:Value} {d:Int} (h:jB K v=some (some d)):∃ T oc od its n sl tk,v=.ref T/\K.lookup T=some ⟨oc,od,.seq its n,sl⟩/\its.toList=[.int d tk]:=by
 unfold jB at h
 split at h
 ·cases h
 ·split at h
  ·rename_i T _ oc od its n sl lk
   split at h
   ·rename_i _ d' tk hi
    cases h
    exact ⟨T,oc,od,its,n,sl,tk,rfl,lk,hi⟩
   ·cases h
  ·cases h
 ·cases h
theorem zO {K:W.Frag} {f:Addr} {r:Row} (h:qz K f=some r.good):∃ oc od dV kV doc pm an cdv ct osl,
  K.lookup f=some ⟨oc,od,.func (W.fnOf r.x r.ql (i0 r.st) (cK r.st) (aH r.st) dV kV doc pm an cdv ct),osl⟩/\W.codeIn K cdv r.ql=true/\jB K dV=some r.lR:=by
 unfold qz at h
 split at h
 ·rename_i oc od fd osl lk
  simp only [Row.good,Option.some.injEq,Prod.mk.injEq] at h
  obtain ⟨h1,h2,h3,h4,h5,h6,h7,h8,h9,wJ⟩:=h
  obtain ⟨f1,f2,f3,f4,f5,f6,f7,f8,f9,Ny,f11,f12,f13,f14,f15⟩:=fd
  dsimp only at h1 h2 h3 h4 h5 h6 h7 h8 h9 wJ
  subst h1 h2 h3 h4 h5 h6 h7 h8
  exact ⟨oc,od,f8,f9,Ny,f11,f12,f13,f14,osl,lk,wJ,h9⟩
 ·cases h
noncomputable def scB (N P:List Str) (sc:Scope):Bool:=decide (sc.kind=.function)&&!sc.isCoroutine&&!sc.isGenerator&&decide N.Nodup&&decide (N.take P.length=P) &&
 (P.all fun x=>decide (sc.names.lookup x=some .local)||decide (sc.names.lookup x=some .cell))&&sc.names.all fun y=>decide (y.2≠.free)
theorem J4 {N P:List Str} {sc:Scope} (h:scB N P sc=true):d7 N P sc:=by
 simp only [scB,Bool.and_eq_true,decide_eq_true_eq,Bool.not_eq_true',List.all_eq_true,Bool.or_eq_true] at h
 obtain ⟨⟨⟨⟨⟨⟨h1,h2⟩,h3⟩,h4⟩,h5⟩,h6⟩,h7⟩:=h
 exact ⟨h1,h2,h3,h4,h5,h6,h7⟩
noncomputable def Row.ok (G:Gm) (P:mD) (r:Row):Bool:=match P.fn r.i with
 | some fn=>scB r.N r.ps (aH r.st)&&kO (i0 r.st) r.ps&&decide (fn.np=r.ps.length)&&decide (fn.ns=r.N.length)&&fn.lR.isEmpty&&(r.lR.isNone||!r.ps.isEmpty)&&iy G 200 false r.N (aH r.st) (.ss (cK r.st) fn.body)
 | none=>false
structure Rw (G:Gm) (P:mD) (K:W.Frag) (r:Row) (f:Addr) (fd:FuncData):Prop where
 at_:FnAt G P K r.i r.ps.length f fd r.ps
 bd:Binds K fd r.ps []
 kp:W.keepIn K (.ref f)=true
 bn:r.lR=none->∀ (s:Shared) (us:List Value),us.length=r.ps.length->BindsTo s fd ⟨us,[]⟩ (r.ps.zip us)
 df:∀ d,r.lR=some d->∃ tk,Binds K fd r.ps [.int d tk]
theorem CD {K:W.Frag} {f:Addr} {oc:Value} {od:Option Addr} {fd:FuncData} {sl:Array (Option Value)} (h:K.lookup f=some ⟨oc,od,.func fd,sl⟩):W.keepIn K (.ref f)=true:=by
 simp only [W.keepIn,h]
theorem yf {G:Gm} {P:mD} {K:W.Frag} {r:Row} {f:Addr} (h:qz K f=some r.good) (ok:r.ok G P=true):∃ fd,Rw G P K r f fd:=by
 obtain ⟨oc,od,dV,kV,doc,pm,an,cdv,ct,osl,lk,hc,hd⟩:=zO h
 unfold Row.ok at ok
 split at ok
 ·rename_i fn hf
  simp only [Bool.and_eq_true,decide_eq_true_eq,List.isEmpty_iff] at ok
  obtain ⟨⟨⟨⟨⟨⟨k1,k2⟩,k3⟩,k4⟩,k5⟩,k6⟩,k7⟩:=ok
  have S:=J4 k1
  have nd:r.ps.Nodup:=by rw [<- S.pre];exact S.nd.sublist (List.take_sublist _ _)
  refine ⟨_,⟨_,_,_,_,_,⟨⟨oc,od,dV,kV,doc,pm,an,cdv,ct,osl,rfl,lk,hc⟩⟩,hf,S,rfl,k3,k4,k5,k7⟩,?_,CD lk,fun e s us hl=>?_,fun d e=>?_⟩
  ·intro s us KX hl
   cases e:r.lR with
   | none =>
    rw [e] at hd
    rw [List.append_nil] at hl ⊢
    exact jU k2 nd (qL hd) hl
   | some d =>
    rw [e] at hd k6
    obtain ⟨T,o1,o2,its,n,sl,tk,rfl,lT,hi⟩:=qK hd
    exact nB k2 nd rfl (KX _ _ lT) rfl hi (.inl rfl) hl (by simpa using k6)
  ·rw [e] at hd
   exact jU k2 nd (qL hd) hl
  ·rw [e] at hd k6
   obtain ⟨T,o1,o2,its,n,sl,tk,rfl,lT,hi⟩:=qK hd
   exact ⟨tk,fun s us KX hl=>nB k2 nd rfl (KX _ _ lT) rfl hi (.inr rfl) hl (by simpa using k6)⟩
 ·cases ok
end Fg
end
section
namespace Fg
open PySem PySem.Spec L2
theorem mem_of_lookup {α β:Type} [BEq α] [LawfulBEq α] {x:α} {b:β}:∀ {l:List (α×β)},l.lookup x=some b->(x,b)∈l
 | [],h=>by cases h
 | (y, c)::l, h=>by
  rw [List.lookup_cons] at h
  by_cases e:x=y
  ·subst e;simp at h;subst h;exact List.mem_cons_self
  ·rw [show (x == y)=false from beq_eq_false_iff_ne.mpr e] at h
   exact List.mem_cons_of_mem _ (mem_of_lookup h)
theorem cW {α β:Type} {f g:α->β}:∀ {l:List α},l.map f=l.map g->∀ a∈l,f a=g a
 | [],_,_,h=>by cases h
 | b::l,e,a,h=>by
  rw [List.map_cons,List.map_cons,List.cons.injEq] at e
  rcases List.mem_cons.mp h with rfl | h
  ·exact e.1
  ·exact cW e.2 a h
noncomputable def Tb.gm (t:Tb):Gm:=⟨t.fn.map fun r=>(r.x,r.i,r.ps.length),(t.cs.map fun c=>(c.1,c.2.1))++(t.ct.map fun c=>(c.1,c.2.1))++(t.cd.map fun c=>(c.1,c.2.1)),t.bl,
 t.mt.filterMap fun r=>if r.2.x=("__init__" : Str) then (t.cl[r.1]?).map fun x=>(x, r.1, r.2.i, r.2.ps.length) else none,
 t.mt.filterMap fun r=>if r.2.x=("__init__" : Str) then none else some ((r.1, r.2.x), r.2.i, r.2.ps.length), t.fl, t.xc.zipIdx,
 t.fn.filterMap fun r=>r.lR.map fun d=>(r.x,r.i,r.ps.length,d),true⟩
noncomputable def E9:D->Option Str
 | .str x=>some x
 | _=>none
noncomputable def intD:D->Option Int
 | .int x=>some x
 | _=>none
noncomputable def Tb.okC (t:Tb) (P:mD):Bool:=(t.cs.all fun c=>match P.glob c.2.1 with
 | some (.int n)=>decide (n=c.2.2)
 | _=>false)&&(t.ct.all fun c=>decide (c.2.2.length<=sizeLine)&&match P.glob c.2.1 with
 | some (.tup ds)=>decide (ds.map E9=c.2.2.map some)
 | _=>false)&&t.cd.all fun c=>decide (c.2.2.length<=sizeLine)&&decide (c.2.2.map fun z=>z.1).Nodup&&match P.glob c.2.1 with
 | some (.dct ks ds)=>decide (ks=c.2.2.map fun z=>Sum.inr z.1)&&decide (ds.map intD=c.2.2.map fun z=>some z.2)
 | _=>false
noncomputable def Tb.ok (t:Tb) (G:Gm) (P:mD):Bool:=(t.fn.all fun r=>r.ok G P)&&(t.mt.all fun r=>r.2.ok G P)&&t.okC P
theorem mO:∀ {us:List Value} {xs:List Str},us.map strOf=xs.map some->Vals (xs.map .str) us
 | [],[],_=>.nil
 | [],_::_,h=>by cases h
 | _::_,[],h=>by cases h
 | u::us,x::xs,h=>by
  rw [List.map_cons,List.map_cons,List.cons.injEq] at h
  refine .cons ?_ (mO h.2)
  have h1:=h.1
  unfold strOf at h1
  split at h1
  ·cases h1;exact ⟨_,rfl⟩
  ·cases h1
theorem vn {w:World}:∀ {es:List DictEntry} {kvs:List (Str×Int)},(es.map fun e=>(e.hash,strOf e.key,intOf e.val))=(kvs.map fun z=>(PyData.keyHash w.params z.1,some z.1,some z.2)) ->
  W.KeysLit w.params es/\DI es (kvs.map fun z=>(Sum.inr z.1,.int z.2))
 | [],[],_=>⟨trivial,.nil⟩
 | [],_::_,h=>by cases h
 | _::_,[],h=>by cases h
 | ⟨hh, k, v⟩::es, z::kvs, h=>by
  rw [List.map_cons,List.map_cons,List.cons.injEq,Prod.mk.injEq,Prod.mk.injEq] at h
  obtain ⟨⟨h1,h2,h3⟩,h4⟩:=h
  obtain ⟨q1,q2⟩:=vn h4
  dsimp only at h1 h2 h3
  unfold strOf at h2
  unfold intOf at h3
  split at h2
  ·cases h2
   split at h3
   ·cases h3
    exact ⟨⟨⟨_,_,rfl,h1⟩,q1⟩,.cons ⟨_,rfl⟩ q2⟩
   ·cases h3
  ·cases h2
section
variable {B:Bd} {F:Addr->Prop} {ρ:List Addr} {H:Hp}
theorem qa:∀ {ds:List D} {xs:List Str},ds.map E9=xs.map some->ak B F ρ H ds (xs.map .str)
 | [],[],_=>ak.nil
 | [],_::_,h=>by cases h
 | _::_,[],h=>by cases h
 | d::ds,x::xs,h=>by
  rw [List.map_cons,List.map_cons,List.cons.injEq] at h
  refine ak.cons ?_ (qa h.2)
  have h1:=h.1
  unfold E9 at h1
  split at h1
  ·cases h1;simp only [RD]
  ·cases h1
theorem qb:∀ {ds:List D} {kvs:List (Str×Int)},ds.map intD=(kvs.map fun z=>some z.2)->ak B F ρ H ds (kvs.map fun z=>.int z.2)
 | [],[],_=>ak.nil
 | [],_::_,h=>by cases h
 | _::_,[],h=>by cases h
 | d::ds,x::xs,h=>by
  rw [List.map_cons,List.map_cons,List.cons.injEq] at h
  refine ak.cons ?_ (qb h.2)
  have h1:=h.1
  unfold intD at h1
  split at h1
  ·cases h1;simp only [RD]
  ·cases h1
end
theorem lY {α:Type} {K:W.Frag} {x:Str} {f:Addr->Option α} {v:α} (h:(adr K x).bind f=some v):∃ a,adr K x=some a/\f a=some v:=Option.bind_eq_some_iff.mp h
theorem pq {α:Type} {K:W.Frag} {x:Str} {f:Addr->α} {v:α} (h:(adr K x).map f=some v):∃ a,adr K x=some a/\f a=v:=Option.map_eq_some_iff.mp h
section
variable {t:Tb} {P:mD} {w:World} {K:W.Frag} {h:Heap} {mg:Str->Option Value}
theorem yV (e:t.uo K=t.good P w) (ok:t.ok t.gm P=true) (r:Row) (hr:r∈t.fn):∃ f fd,adr K r.x=some f/\Rw t.gm P K r f fd:=by
 simp only [Tb.uo,Tb.good,Prod.mk.injEq] at e
 obtain ⟨f,h1,h2⟩:=lY (cW e.1 r hr)
 simp only [Tb.ok,Bool.and_eq_true,List.all_eq_true] at ok
 obtain ⟨fd,R⟩:=yf h2 (ok.1.1 r hr)
 exact ⟨f,fd,h1,R⟩
theorem Ei (e:t.uo K=t.good P w) (ok:t.ok t.gm P=true) (r:Nat×Row) (hr:r∈t.mt):∃ x C f fd,t.cl[r.1]? = some x/\adr K x=some C/\W.findIn K (.ref C) r.2.x=some (some (.ref f))/\W.isFn K (.ref f)=true/\Rw t.gm P K r.2 f fd:=by
 simp only [Tb.uo,Tb.good,Prod.mk.injEq] at e
 have h1:=cW e.2.2.1 r hr
 unfold yU at h1
 obtain ⟨C,h2,h3⟩:=Option.bind_eq_some_iff.mp h1
 obtain ⟨x,h4,h5⟩:=Option.bind_eq_some_iff.mp h2
 simp only [Tb.ok,Bool.and_eq_true,List.all_eq_true] at ok
 split at h3
 ·rename_i f hf
  obtain ⟨z,h6,h7⟩:=Option.map_eq_some_iff.mp h3
  rw [Prod.mk.injEq] at h7
  rw [h7.1] at h6
  obtain ⟨fd,R⟩:=yf h6 (ok.1.2 r hr)
  exact ⟨x,C,f,fd,h4,h5,hf,h7.2,R⟩
 ·cases h3
theorem Ej (e:t.uo K=t.good P w) {c:Nat} {C:Addr} (hc:(t.cl[c]?).bind (adr K)=some C):oY t K C=kq t:=by
 obtain ⟨x,h1,h2⟩:=Option.bind_eq_some_iff.mp hc
 simp only [Tb.uo,Tb.good,Prod.mk.injEq] at e
 obtain ⟨C',h3,h4⟩:=pq (cW e.2.1 x (List.mem_of_getElem? h1))
 rw [h2] at h3
 cases h3
 exact h4
theorem rA {xs:List Str} {x:Str} {c:Nat} (h:xs[c]? = some x):(x,c)∈xs.zipIdx:=List.mk_mem_zipIdx_iff_getElem?.mpr h
theorem K7 (e:t.uo K=t.good P w) {c:Nat} {X:Addr} (hc:(t.xc[c]?).bind (adr K)=some X):W.excIn K X BMV "ValueError.__new__" = true/\W.mroIn K X (.type "BaseException")=some true /\
  ∀ d D,(t.xc[d]?).bind (adr K)=some D->W.mroIn K X (.ref D)=some (P.sub c d):=by
 obtain ⟨x,h1,h2⟩:=Option.bind_eq_some_iff.mp hc
 simp only [Tb.uo,Tb.good,Prod.mk.injEq] at e
 obtain ⟨C',h3,h4⟩:=pq (cW e.2.2.2.1 (x,c) (rA h1))
 rw [show adr K (x,c).1=some X from h2] at h3
 cases h3
 simp only [zR,Prod.mk.injEq] at h4
 refine ⟨h4.1,h4.2.1,fun d D hd=>?_⟩
 obtain ⟨y,h5,h6⟩:=Option.bind_eq_some_iff.mp hd
 have z:(t.xc.zipIdx.map fun y=>(adr K y.1).bind fun Y=>W.mroIn K X (.ref Y))=t.xc.zipIdx.map fun y=>some (P.sub c y.2):=by
  rw [<- h4.2.2]
  conv=>rhs;rw [<- List.zipIdx_map_fst 0 t.xc]
  rw [List.map_map]
  rfl
 have q:=cW z (y,d) (rA h5)
 rw [show adr K (y,d).1=some D from h6] at q
 exact q
theorem Tb.md (X:K.In h) (G:h.Ns mainGlobals mg) (e:t.uo K=t.good P w) (ok:t.ok t.gm P=true):Md t.gm P w K mg (fun c=>(t.cl[c]?).bind (adr K)) (fun c=>(t.xc[c]?).bind (adr K)):=by
 have Ji:∀ {x a},adr K x=some a->mg x=some (.ref a):=fun q=>W.mg_of X G (ES q)
 refine ⟨fun x i hx=>?_,fun x hx=>?_,fun f i m hx=>?_,fun c C hx=>?_,fun c nm i m hx=>?_,fun x c i m hx=>?_,fun x c hx=>?_,fun c C hx=>?_,fun x f m d hx=>?_,rfl⟩
 ·have e':=e
  simp only [Tb.uo,Tb.good,Prod.mk.injEq] at e'
  simp only [Tb.ok,Tb.okC,Bool.and_eq_true,List.all_eq_true] at ok
  obtain ⟨_,⟨ok1,ok2⟩,ok3⟩:=ok
  rcases List.mem_append.mp (mem_of_lookup hx) with hm | hm
  ·rcases List.mem_append.mp hm with hm | hm
   ·obtain ⟨c,hc,q⟩:=List.mem_map.mp hm
    cases q
    have h1:=cW e'.2.2.2.2.1 c hc
    unfold Aj at h1
    split at h1
    ·rename_i n tk hn
     cases h1
     refine ⟨.int c.2.2,_,W.mg_of X G hn,⟨_,rfl⟩,fun d hd F ρ H=>?_⟩
     have h2:=ok1 c hc
     rw [hd] at h2
     split at h2
     ·rename_i n' hn'
      cases hn'
      rw [of_decide_eq_true h2]
      simp only [RD]
     ·cases h2
    ·cases h1
   ·obtain ⟨c,hc,q⟩:=List.mem_map.mp hm
    cases q
    obtain ⟨a,h1,h2⟩:=lY (cW e'.2.2.2.2.2.2.1 c hc)
    unfold xD at h2
    split at h2
    ·rename_i cl od its n sl lk
     rw [Option.some.injEq,Prod.mk.injEq] at h2
     obtain ⟨rfl,h2⟩:=h2
     have h3:=ok2 c hc
     refine ⟨.ref a,_,Ji h1,rfl,fun d hd F ρ H=>?_⟩
     rw [hd] at h3
     obtain ⟨h3,h4⟩:=h3
     split at h4
     ·rename_i ds hn'
      cases hn'
      have v:=mO h2
      simp only [RD]
      exact ⟨a,_,rfl,.inr ⟨_,_,_,lk,rfl,rfl,by rw [<- Array.length_toList,<- v.length,List.length_map];exact of_decide_eq_true h3,v⟩,qa (of_decide_eq_true h4)⟩
     ·cases h4
    ·cases h2
  ·obtain ⟨c,hc,q⟩:=List.mem_map.mp hm
   cases q
   obtain ⟨a,h1,h2⟩:=lY (cW e'.2.2.2.2.2.2.2 c hc)
   unfold Ag at h2
   split at h2
   ·rename_i cl od es n sl lk
    simp only [vo,Option.some.injEq,Prod.mk.injEq] at h2
    obtain ⟨rfl,rfl,rfl,hs,h2⟩:=h2
    have h3:=ok3 c hc
    refine ⟨.ref a,_,Ji h1,rfl,fun d hd F ρ H=>?_⟩
    rw [hd] at h3
    obtain ⟨⟨h3,h5⟩,h4⟩:=h3
    split at h4
    ·rename_i ks ds hn'
     cases hn'
     simp only [Bool.and_eq_true,decide_eq_true_eq] at h4
     obtain ⟨q1,q2⟩:=vn h2
     simp only [RD]
     refine ⟨a,_,rfl,.inr ⟨?_,hs,?_,es,n,lk,q1,q2⟩,?_,?_⟩
     ·rw [List.length_map];exact of_decide_eq_true h3
     ·rw [List.map_map]
      have:=of_decide_eq_true h5
      rw [show ((fun z:Key×V=>z.1) ∘ fun z:Str×Int=>((Sum.inr z.1:Key),V.int z.2))=(fun s=>(Sum.inr s:Key)) ∘ fun z:Str×Int=>z.1 from rfl,<- List.map_map]
      exact List.pairwise_map.mpr (this.imp fun h e=>h (Sum.inr.inj e))
     ·rw [List.map_map,h4.1];rfl
     ·rw [List.map_map];exact qb h4.2
    ·cases h4
   ·cases h2
 ·have e':=e
  simp only [Tb.uo,Tb.good,Prod.mk.injEq] at e'
  exact W.mg_none_of X G (cW e'.2.2.2.2.2.1 x (List.contains_iff_mem.mp hx))
 ·obtain ⟨r,hr,q⟩:=List.mem_map.mp (mem_of_lookup hx)
  cases q
  obtain ⟨fa,fd,h1,R⟩:=yV e ok r hr
  exact ⟨fa,fd,r.ps,Ji h1,R.kp,R.bd,R.at_⟩
 ·have q:=Ej e hx
  simp only [oY,kq,Prod.mk.injEq] at q
  obtain ⟨q1,q2,q3,q4,q5,q6,q7⟩:=q
  exact ⟨⟨q1,q2,q3,q4⟩,fun f hf=>cW q7 f (List.contains_iff_mem.mp hf)⟩
 ·obtain ⟨r,hr,q⟩:=List.mem_filterMap.mp (mem_of_lookup hx)
  split at q
  ·cases q
  ·cases q
   obtain ⟨x,C,f,fd,h1,h2,h3,h4,R⟩:=Ei e ok r hr
   exact ⟨C,f,fd,r.2.ps,by rw [h1];exact h2,⟨h3,h4,R.kp⟩,R.bd,R.at_⟩
 ·obtain ⟨r,hr,q⟩:=List.mem_filterMap.mp (mem_of_lookup hx)
  split at q
  ·rename_i hi
   obtain ⟨y,h0,q⟩:=Option.map_eq_some_iff.mp q
   cases q
   obtain ⟨x',C,f,fd,h1,h2,h3,h4,R⟩:=Ei e ok r hr
   rw [h0] at h1
   cases h1
   have hC:(t.cl[r.1]?).bind (adr K)=some C:=by rw [h0];exact h2
   have q:=Ej e hC
   simp only [oY,kq,Prod.mk.injEq] at q
   rw [hi] at h3
   exact ⟨C,f,fd,r.2.ps,Ji h2,hC,⟨q.2.2.2.2.1,h3,h4,q.2.2.2.2.2.1⟩,R.bd,R.at_⟩
  ·cases q
 ·have hm:=List.mk_mem_zipIdx_iff_getElem?.mp (mem_of_lookup hx)
  have e':=e
  simp only [Tb.uo,Tb.good,Prod.mk.injEq] at e'
  obtain ⟨C,h3,_⟩:=pq (cW e'.2.2.2.1 (x,c) (rA hm))
  exact ⟨C,Ji h3,by rw [hm];exact h3⟩
 ·obtain ⟨q1,q2,q3⟩:=K7 e hx
  obtain ⟨bm,ec,em⟩:=Ib q1
  exact ⟨_,_,bm,_,_,ec,PySem.F.excBase_ValueError,kr (em _ _ q2),fun d D hd=>em _ _ (q3 d D hd)⟩
 ·obtain ⟨r,hr,q⟩:=List.mem_filterMap.mp (mem_of_lookup hx)
  obtain ⟨d',hd,q⟩:=Option.map_eq_some_iff.mp q
  cases q
  obtain ⟨fa,fd,h1,R⟩:=yV e ok r hr
  obtain ⟨tk,hb⟩:=R.df _ hd
  exact ⟨fa,fd,r.ps,_,Ji h1,R.kp,hb,⟨_,rfl⟩,R.at_⟩
theorem Tb.walk (t:Tb) (P:mD) {l:W.OpenLaw} {q:Program} {loose:List Str} {XP:(Str->Option Value)->Heap->Prop} {d:DefRec} {r:Row} {x:Str} (k:Nat) (hn:l.most=some 63) (hdf:d.params.defaults=[]) (hk:cX (k+1) callerA)
  (ok:t.ok t.gm P=true) (hr:r∈t.fn) (hx:d.name=r.x) (h0:r.lR=none) (hps:r.ps=[x])
  (hP:∀ ns:List Int,ns.length<=63->∃ M',(aa P (k+1)).call r.i [.lst (ns.map .int)] []=.ok (.bl true) M') :
  W.WalkO q loose XP (t.hook P).says l.row.toRowW d [] (fun f vs=>PySem.call f vs):=by
 refine Att.qS hn hdf fun w s₀ s₁ mg mb fa o pm cd doc a vs ns G Y ho hd hcd hmg hobj hints hlen hg=>?_
 obtain ⟨K,KX,e⟩:=Y
 obtain ⟨f,fd,h1,R⟩:=yV e ok r hr
 have hf:mg d.name=some (.ref f):=by rw [hx];exact W.mg_of KX G.T.g (ES h1)
 cases hmg.symm.trans hf
 obtain ⟨y,qual,st,N,fn,F,q1,q2,q3,q4,q5,q6,q7⟩:=R.at_
 have D:=Tb.md (w:=w) KX G.T.g e ok
 have bd:=R.bn h0
 rw [hps] at bd q2 q3 q4
 exact zk (CX:=iD l.prog w) (sp:=DW K) (x:=x) (fd:=fd) KX G.T.g G.T.b G.T.builtins G.T.nolimit hg hobj hints (Nat.le_trans hlen (by decide)) hk (fun base _ _=>sy D hP F q1 q2 q3 q4 q5 q6 q7) (fun s u=>bd s [u] rfl)
  (fun H hO hS=>⟨a,ns,rfl,hS,hlen,fun _=>rfl⟩) fun H e s' ⟨_,_,_,_,_,_,_,_,_,_,_,_,z⟩=>z
end
end Fg
end
section
namespace bI
open Fg PySem
theorem fn0:ah.fn 0=some jl:=rfl
theorem ou:ah.fn 1=some gC:=rfl
theorem fn4:ah.fn 4=some jM:=rfl
theorem HU:ah.fn 5=some zP:=rfl
theorem fn7:ah.fn 7=some ng:=rfl
theorem fn8:ah.fn 8=some eT:=rfl
theorem fn9:ah.fn 9=some dM:=rfl
theorem fn10:ah.fn 10=some cQ:=rfl
theorem fn11:ah.fn 11=some cP:=rfl
theorem LK:ah.fn 12=some cZ:=rfl
theorem LJ:ah.fn 13=some gU:=rfl
theorem fn14:ah.fn 14=some gr:=rfl
theorem HZ:ah.fn 16=some fR:=rfl
theorem fn17:ah.fn 17=some iV:=rfl
theorem LI:ah.fn 19=some ck:=rfl
theorem LH:ah.fn 20=some bT:=rfl
theorem LG:ah.fn 21=some eS:=rfl
noncomputable abbrev w (x:String):Str:=Str.ofString x
structure Mx where
 rows:D
 most:Int
 bg:Int
 pl:D
 pile:List D
 frs:List D
 ay:List D
 log:List D
 T:MH
noncomputable def Mx.o (s:Mx) (n:Nat):MO:=.ins 1 [(w "rows", s.rows), (w "most", .int s.most), (w "begun", .int s.bg), (w "place", s.pl), (w "pile", .ref (n+1)), (w "frames", .ref (n+2)), (w "lies_open", .ref (n+3)), (w "log", .ref (n+4))]
noncomputable def Mx.h (s:Mx) (M0:MH):MH:=M0++(s.o M0.length::.lst s.pile::.lst s.frs::.lst s.ay::.lst s.log::s.T)
section
variable {M0:MH} {s:Mx} {ds:List D} {t:Nat} {o:MO}
theorem off (i:Nat) (X:MH):(M0++X)[M0.length+i]? = X[i]?:=by
 rw [List.getElem?_append_right (Nat.le_add_right _ _),Nat.add_sub_cancel_left]
theorem offs (i:Nat) (X:MH) (o:MO):(M0++X).set (M0.length+i) o=M0++X.set i o:=by
 rw [List.set_append_right _ _ (Nat.le_add_right _ _),Nat.add_sub_cancel_left]
theorem g0:(s.h M0)[M0.length]? = some (s.o M0.length):=off 0 _
theorem g1:(s.h M0)[M0.length+1]? = some (.lst s.pile):=off 1 _
theorem g2:(s.h M0)[M0.length+2]? = some (.lst s.frs):=off 2 _
theorem g3:(s.h M0)[M0.length+3]? = some (.lst s.ay):=off 3 _
theorem g4:(s.h M0)[M0.length+4]? = some (.lst s.log):=off 4 _
theorem gT:(s.h M0)[M0.length+(t+5)]? = s.T[t]?:=off (t+5) _
theorem s0 {s':Mx}:(s.h M0).set M0.length (s'.o M0.length)=({ s with rows:=s'.rows,most:=s'.most,bg:=s'.bg,pl:=s'.pl }:Mx).h M0:=offs 0 _ _
theorem s1:(s.h M0).set (M0.length+1) (.lst ds)=({ s with pile:=ds }:Mx).h M0:=offs 1 _ _
theorem s2:(s.h M0).set (M0.length+2) (.lst ds)=({ s with frs:=ds }:Mx).h M0:=offs 2 _ _
theorem s3:(s.h M0).set (M0.length+3) (.lst ds)=({ s with ay:=ds }:Mx).h M0:=offs 3 _ _
theorem s4:(s.h M0).set (M0.length+4) (.lst ds)=({ s with log:=ds }:Mx).h M0:=offs 4 _ _
theorem sT:(s.h M0).set (M0.length+(t+5)) o=({ s with T:=s.T.set t o }:Mx).h M0:=offs (t+5) _ _
theorem len:(s.h M0).length=M0.length+(s.T.length+5):=by simp [Mx.h]
theorem app {X:MH}:s.h M0++X=({ s with T:=s.T++X }:Mx).h M0:=by simp [Mx.h,Mx.o]
theorem wz {a b:String} (h:decide (Str.ofString a=Str.ofString b)=false:=by decide +kernel):(Str.ofString a == Str.ofString b)=false:=by
 rw [beq_eq_false_iff_ne];exact of_decide_eq_false h
theorem wn {a b:String} (h:decide (Str.ofString a=Str.ofString b)=false:=by decide +kernel):(Str.ofString a=Str.ofString b)=False:=by
 simpa using h
theorem Ia {Φ:aY} {σ:Sg} {i:Nat} (h:σ[i]? = some (some (.ref M0.length))):ev Φ (.fld (.v i) (w "rows")) σ (s.h M0)=.ok s.rows (s.h M0):=by
 simp only [fJ,mC,h,R.af,g0,Mx.o,List.lookup_cons,beq_self_eq_true]
theorem u5 {Φ:aY} {σ:Sg} {i:Nat} (h:σ[i]? = some (some (.ref M0.length))):ev Φ (.fld (.v i) (w "place")) σ (s.h M0)=.ok s.pl (s.h M0):=by
 simp only [fJ, mC, h, R.af, g0, Mx.o, List.lookup_cons, beq_self_eq_true, wz (a:="place") (b:="rows"), wz (a:="place") (b:="most"), wz (a:="place") (b:="begun")]
theorem zQ {Φ:aY} {σ:Sg} {i:Nat} (h:σ[i]? = some (some (.ref M0.length))):ev Φ (.fld (.v i) (w "pile")) σ (s.h M0)=.ok (.ref (M0.length+1)) (s.h M0):=by
 simp only [fJ, mC, h, R.af, g0, Mx.o, List.lookup_cons, beq_self_eq_true, wz (a:="pile") (b:="rows"), wz (a:="pile") (b:="most"), wz (a:="pile") (b:="begun"), wz (a:="pile") (b:="place")]
theorem iU {Φ:aY} {σ:Sg} {i:Nat} (h:σ[i]? = some (some (.ref M0.length))):ev Φ (.fld (.v i) (w "frames")) σ (s.h M0)=.ok (.ref (M0.length+2)) (s.h M0):=by
 simp only [fJ, mC, h, R.af, g0, Mx.o, List.lookup_cons, beq_self_eq_true, wz (a:="frames") (b:="rows"), wz (a:="frames") (b:="most"), wz (a:="frames") (b:="begun"), wz (a:="frames") (b:="place"), wz (a:="frames") (b:="pile")]
theorem oG {Φ:aY} {σ:Sg} {i:Nat} (h:σ[i]? = some (some (.ref M0.length))):ev Φ (.fld (.v i) (w "lies_open")) σ (s.h M0)=.ok (.ref (M0.length+3)) (s.h M0):=by
 simp only [fJ, mC, h, R.af, g0, Mx.o, List.lookup_cons, beq_self_eq_true, wz (a:="lies_open") (b:="rows"), wz (a:="lies_open") (b:="most"), wz (a:="lies_open") (b:="begun"), wz (a:="lies_open") (b:="place"), wz (a:="lies_open") (b:="pile"), wz (a:="lies_open") (b:="frames")]
theorem Ez {Φ:aY} {σ:Sg} {i:Nat} (h:σ[i]? = some (some (.ref M0.length))):ev Φ (.fld (.v i) (w "log")) σ (s.h M0)=.ok (.ref (M0.length+4)) (s.h M0):=by
 simp only [fJ, mC, h, R.af, g0, Mx.o, List.lookup_cons, beq_self_eq_true, wz (a:="log") (b:="rows"), wz (a:="log") (b:="most"), wz (a:="log") (b:="begun"), wz (a:="log") (b:="place"), wz (a:="log") (b:="pile"), wz (a:="log") (b:="frames"), wz (a:="log") (b:="lies_open")]
theorem B4 {d:D}:bV (w "place") d [(w "rows", s.rows), (w "most", .int s.most), (w "begun", .int s.bg), (w "place", s.pl), (w "pile", .ref (M0.length+1)), (w "frames", .ref (M0.length+2)), (w "lies_open", .ref (M0.length+3)), (w "log", .ref (M0.length+4))]=[(w "rows", s.rows), (w "most", .int s.most), (w "begun", .int s.bg), (w "place", d), (w "pile", .ref (M0.length+1)), (w "frames", .ref (M0.length+2)), (w "lies_open", .ref (M0.length+3)), (w "log", .ref (M0.length+4))]:=by
 simp only [bV, wn (a:="rows") (b:="place"), wn (a:="most") (b:="place"), wn (a:="begun") (b:="place"), if_true, if_false]
theorem oR {Φ:aY} {σ:Sg} {i:Nat} {e:E} {d:D} {s':Mx} (h:σ[i]? = some (some (.ref M0.length))) (he:ev Φ e σ (s.h M0)=.ok d (s'.h M0)):ex Φ (.bZ (.v i) (w "place") e) σ (s.h M0)=.ok (.nx σ) (({ s' with pl:=d }:Mx).h M0):=by
 simp only [u6,he,R.d8,mC,h,g0,Mx.o,B4]
 exact congrArg (R.ok _) (s0 (s':={ s' with pl:=d }))
theorem u_ {Φ:aY} {σ:Sg} {i m:Nat} {nm:Str} {es:Es} (h:σ[i]? = some (some (.ref M0.length))) (hn:([w "rows", w "most", w "begun", w "place", w "pile", w "frames", w "lies_open", w "log"].all fun x=>!(nm == x))=true):ev Φ (.dS 1 m nm (.v i) es) σ (s.h M0)=(cV Φ es σ (s.h M0)).bind fun ds M2=>Φ.call m (.ref M0.length::ds) M2:=by
 simp only [List.all_cons,List.all_nil,Bool.and_true,Bool.and_eq_true,Bool.not_eq_true'] at hn
 obtain ⟨h1,h2,h3,h4,h5,h6,h7,h8⟩:=hn
 simp only [Ig,mC,h,R.af,g0,Mx.o,List.lookup_cons,List.lookup_nil,h1,h2,h3,h4,h5,h6,h7,h8,Option.isNone_none,decide_true,Bool.and_self,if_true]
end
end bI
end
section
namespace bI
open Fg PySem
inductive Vl:D->Prop
 | int (i:Int):Vl (.int i)
 | ai:Vl .ai
 | cell {wd:Str} {sz:Int} {a b:D} {f:Nat}:1<=sz->sz<=1000->Vl a->Vl b->Vl (.tup [.str wd,.int sz,a,b,.int f])
noncomputable def cD:D->Int
 | .tup (_::.int n::_)=>n
 | _=>1
theorem Vl.sz {v:D} (h:Vl v):1<=cD v/\cD v<=1000:=by
 cases h with
 | int i=>simp [cD]
 | ai=>simp [cD]
 | cell h1 h2 _ _=>exact ⟨h1,h2⟩
theorem mW {M:MH} {c:Nat}:pY M c M=.exc c M:=by simp [pY]
theorem aU {kp:Bool} {M M':MH} {d:D} (h:nr M.length d=true) (hl:M'.length=M.length):eL kp M d M'=.ok d M':=by
 unfold eL
 by_cases hk:kp=false/\M'.take M.length=M
 ·rw [if_pos hk,if_pos h]
  have:M'=M:=by rw [<- hk.2,<- hl,List.take_length]
  rw [this]
 ·rw [if_neg hk]
theorem kM {M M':MH} {c:Nat} (hl:M'.length=M.length):pY M c M'=.exc c M':=by
 unfold pY
 by_cases hk:M'.take M.length=M
 ·rw [if_pos hk]
  have:M'=M:=by rw [<- hk,<- hl,List.take_length]
  rw [this]
 ·rw [if_neg hk]
section
variable {M:MH} {k:Nat}
theorem o7 {v:D} (hv:Vl v):(aa ah (k+1)).call 0 [v] M=.ok (.int (cD v)) M:=by
 rw [eY fn0]
 cases hv <;> simp [mj,jl,HM,n9,vw,cD,eL,nr]
theorem gl0:ah.glob 0=some (.int 1000):=rfl
theorem Aw {wd:Str} {a b:D} (hw:wd.length<=100000) (ha:Vl a) (hb:Vl b):(aa ah (k+2)).call 1 [.str wd,a,b] M=if 1000<1+cD a+cD b then .exc 1 M else .ok (.tup [.str wd,.int (1+cD a+cD b),a,b]) M:=by
 rw [eY ou]
 have h1:=ha.sz
 have h2:=hb.sz
 have h3:(1+cD a+cD b).natAbs<18446744073709551616:=by omega
 have n1:∀ {v:D},Vl v->∀ m,nr m v=true:=fun h m=>by
  induction h with
  | int=>simp [nr]
  | ai=>simp [nr]
  | cell _ _ _ _ i j=>simp [nr,mz,i,j]
 by_cases hq:1000<1+cD a+cD b
 ·simp [mj,gC,o7 ha,o7 hb,rq,gF,gl0,bu,tD,hq,bY,hw,h3,mW]
 ·simp [mj,gC,o7 ha,o7 hb,rq,gF,gl0,bu,tD,hq,eL,nr,mz,n1 ha,n1 hb]
end
end bI
end
section
namespace bI
open Fg PySem
theorem Vl.nr {v:D} (h:Vl v):∀ m,Fg.nr m v=true:=fun m=>by
 induction h with
 | int=>simp [Fg.nr]
 | ai=>simp [Fg.nr]
 | cell _ _ _ _ i j=>simp [Fg.nr,mz,i,j]
theorem qT {α:Type} {xs:List α} {x:α}:dc (xs++[x]) (-1)=some x:=by
 have h1:¬ (0:Int)<=-1:=by omega
 have h2:-(((xs++[x]).length:Nat):Int)<=-1:=by rw [List.length_append,List.length_singleton];omega
 have h3:((-1:Int)+(((xs++[x]).length:Nat):Int)).toNat=xs.length:=by rw [List.length_append,List.length_singleton];omega
 simp only [dc,sH,if_neg h1,if_pos h2,h3,Option.bind_some]
 simp
theorem uS {n x:Nat} (h:x<n):sH n (x:Int)=some x:=by
 have h1:(x:Int)<(n:Int):=by omega
 simp only [sH,if_pos (show (0:Int)<=(x:Int) by omega),if_pos h1,Int.toNat_natCast]
theorem cz {α:Type} {xs:List α} {i:Nat} {x:α} (h:xs[i]? = some x):dc xs (i:Int)=some x:=by
 have hx:=(List.getElem?_eq_some_iff.mp h).1
 simp only [dc,uS hx,Option.bind_some,h]
theorem gw {P:mD} {k f:Nat} {fn:Fn} {ds:List D} {M M':MH} {σ':Sg} {r:R D} (hf:P.fn f=some fn) (hn:ds.length=fn.np) (hb:exs (aa P k) fn.body (ds.map some++List.replicate (fn.ns-fn.np) none) M=.ok (.nx σ') M') (hr:eL fn.keep M .ai M'=r):(aa P (k+1)).call f ds M=r:=by
 rw [eY hf]
 have h1:ds.length+fn.lR.length-fn.np=fn.lR.length:=by omega
 simp only [mj,h1,List.drop_length,List.append_nil,hb]
 rw [if_pos (by simp;omega)]
 exact hr
theorem tH {P:mD} {k f c:Nat} {fn:Fn} {ds:List D} {M M':MH} {σ':Sg} {r:R D} (hf:P.fn f=some fn) (hn:ds.length=fn.np) (hb:exs (aa P k) fn.body (ds.map some++List.replicate (fn.ns-fn.np) none) M=.ok (.xc c σ') M') (hr:pY M c M'=r):(aa P (k+1)).call f ds M=r:=by
 rw [eY hf]
 have h1:ds.length+fn.lR.length-fn.np=fn.lR.length:=by omega
 simp only [mj,h1,List.drop_length,List.append_nil,hb]
 rw [if_pos (by simp;omega)]
 exact hr
section
variable {Φ:aY} {σ σ':Sg} {M M1 M2 M3:MH} {e c a b:E} {x d:D} {ss sa sb:Ss} {i n j k:Nat} {xs:List D}
theorem Fz (he:ev Φ e σ M=.ok d M1) (ha:ev Φ a σ M1=.ok (.ref n) M2) (hb:ev Φ b σ M2=.ok (.int (j:Int)) M3) (h:M3[n]? = some (.lst xs)) (hj:j<xs.length):exs Φ (.cons (.mh a b e) ss) σ M=exs Φ ss σ (M3.set n (.lst (xs.set j d))):=by
 simp only [cu,CW,he,R.d8,ha,hb,kI,h,uS hj,R.af]
theorem uu (h:ev Φ e σ M=.exc k M1):exs Φ (.cons (.ex e) ss) σ M=.ok (.xc k σ) M1:=by simp only [cu,LN,h,R.tU,R.af]
theorem rO (h:ev Φ e σ M=.exc k M1):exs Φ (.cons (.set i e) ss) σ M=.ok (.xc k σ) M1:=by simp only [cu,Ic,h,R.tU,R.af]
theorem DY (h:ev Φ c σ M=.ok (.bl true) M1) (ha:exs Φ sa σ M1=.ok (.xc k σ') M2):exs Φ (.cons (.ifs c sa sb) ss) σ M=.ok (.xc k σ') M2:=by simp only [cu,iw,h,R.d8,ha,R.af]
theorem yd {f:Nat} (he:ev Φ e σ M=.ok d M1) (hs:bY d=true):exs Φ (.cons (.raise f (.cons e .nil)) ss) σ M=.ok (.xc f σ) M1:=by simp only [cu,zT,zV,CZ,he,R.af,hs,if_true,R.d8]
theorem aX {s:S} (h:ex Φ s σ M=.ok (.nx σ') M1):exs Φ (.cons s ss) σ M=exs Φ ss σ' M1:=by simp only [cu,h,R.af]
end
section
variable {M0:MH} {s s':Mx} {d x y:D} {xs p:List D} {t k i:Nat} {Φ:aY} {σ:Sg} {e:E}
theorem Kq {M:MH} {n:Nat} (h:M[n]? = some (.lst (p++[x]))):gZ .pop true M (.ref n) []=.ok x (M.set n (.lst p)):=by
 simp [gZ,dG h,qg]
theorem IX {M:MH} {n:Nat} (h:M[n]? = some (.lst xs)) (hl:xs.length<line):gZ .append true M (.ref n) [d]=.ok .ai (M.set n (.lst (xs++[d]))):=by
 simp only [gZ,dG h,qg,we,hl,decide_true,if_true]
theorem yG {M:MH} {n:Nat} (h:M[n]? = some (.lst xs)):qh .pop M (.ref n)=true:=by simp only [qh,dG h,Option.isSome_some,Bool.and_self]
theorem rZ {M:MH} {n:Nat} (h:M[n]? = some (.lst xs)):qh .append M (.ref n)=true:=by simp only [qh,dG h,Option.isSome_some,Bool.and_self]
theorem e_v {M:MH} (h:σ[i]? = some (some d)):ev Φ (.v i) σ M=.ok d M:=by simp only [mC,h]
theorem e_len {M M1:MH} {n:Nat} {fz:Bool} (he:ev Φ e σ M=.ok (.ref n) M1) (h:M1[n]? = some (.lst xs)):ev Φ (.blt .len fz (.cons e .nil)) σ M=.ok (.int xs.length) M1:=by
 simp only [sX,aQ,he,R.af,cy,tK,vw,h]
theorem dP {M M1 M2:MH} {n:Nat} {e':E} {ys:List D} (he:ev Φ e σ M=.ok (.ref n) M1) (h:M1[n]? = some (.lst ys)) (hx:ev Φ e' σ M1=.ok d M2) (h2:M2[n]? = some (.lst xs)) (hl:xs.length<line):ev Φ (.aG .append true e (.cons e' .nil)) σ M=.ok .ai (M2.set n (.lst (xs++[d]))):=by
 simp only [jw,he,R.af,rZ h,if_true,aQ,hx,cy,IX h2 hl]
theorem jA {M M1:MH} {n:Nat} (he:ev Φ e σ M=.ok (.ref n) M1) (h:M1[n]? = some (.lst (p++[x]))):ev Φ (.aG .pop true e .nil) σ M=.ok x (M1.set n (.lst p)):=by
 simp only [jw,he,R.af,yG h,if_true,cy,Kq h]
theorem fS {M M1 M2:MH} {n:Nat} {e':E} {j:Int} (he:ev Φ e σ M=.ok (.ref n) M1) (hx:ev Φ e' σ M1=.ok (.int j) M2) (h:M2[n]? = some (.lst xs)) (ha:dc xs j=some d):ev Φ (.idx e e') σ M=.ok d M2:=by
 simp only [oJ,he,R.af,hx,n9,vw,h,ha]
theorem nt {M M1 M2:MH} {e':E} {j:Int} (he:ev Φ e σ M=.ok (.lst xs) M1) (hx:ev Φ e' σ M1=.ok (.int j) M2) (ha:dc xs j=some d):ev Φ (.idx e e') σ M=.ok d M2:=by
 simp only [oJ,he,R.af,hx,n9,vw,ha]
theorem aC {M M1 M2:MH} {e':E} {j:Int} (he:ev Φ e σ M=.ok (.tup xs) M1) (hx:ev Φ e' σ M1=.ok (.int j) M2) (ha:dc xs j=some d):ev Φ (.idx e e') σ M=.ok d M2:=by
 simp only [oJ,he,R.af,hx,n9,vw,ha]
theorem Ad {M M1 M2:MH} {e':E} {a b:Int} {fz:Bool} (he:ev Φ e σ M=.ok (.int a) M1) (hx:ev Φ e' σ M1=.ok (.int b) M2):ev Φ (.op .add fz e e') σ M=.ok (.int (a+b)) M2:=by
 simp only [iW,he,R.af,hx,rq,gF]
theorem EK {M M1 M2:MH} {e':E} {a b:Int} {fz:Bool} (he:ev Φ e σ M=.ok (.int a) M1) (hx:ev Φ e' σ M1=.ok (.int b) M2):ev Φ (.op .sub fz e e') σ M=.ok (.int (a-b)) M2:=by
 simp only [iW,he,R.af,hx,rq,gF]
theorem bP {M M1:MH} {f:Nat} (he:ev Φ e σ M=.ok d M1):ev Φ (.call f (.cons e .nil)) σ M=Φ.call f [d] M1:=by
 simp only [bh,aQ,he,R.af,cy]
theorem Ac {M M1:MH} {a b:Str} (he:ev Φ e σ M=.ok (.str a) M1):ev Φ (.cmp .eq e (.k (.str b))) σ M=.ok (.bl (decide (a=b))) M1:=by
 simp [he,bu,w9,Js,bw,top,Fg.plain,dep]
theorem iY (h:σ[i]? = some (some (.ref M0.length))) (hp:s.pile=p++[x]):ev Φ (.aG .pop true (.fld (.v i) (w "pile")) .nil) σ (s.h M0)=.ok x (({ s with pile:=p }:Mx).h M0):=by
 have g:(s.h M0)[M0.length+1]? = some (.lst (p++[x])):=by rw [g1,hp]
 simp only [jw,zQ h,R.af,yG g,if_true,cy,Kq g,s1]
theorem jz (h:σ[i]? = some (some (.ref M0.length))) (he:ev Φ e σ (s.h M0)=.ok d (s'.h M0)) (hl:s'.pile.length<line):ev Φ (.aG .append true (.fld (.v i) (w "pile")) (.cons e .nil)) σ (s.h M0)=.ok .ai (({ s' with pile:=s'.pile++[d] }:Mx).h M0):=by
 simp only [jw,zQ h,R.af,rZ g1,if_true,aQ,cy,he,IX g1 hl,s1]
theorem vc (h:σ[i]? = some (some (.ref M0.length))) (he:ev Φ e σ (s.h M0)=.ok d (s.h M0)) (hl:s.log.length<line):ev Φ (.aG .append true (.fld (.v i) (w "log")) (.cons e .nil)) σ (s.h M0)=.ok .ai (({ s with log:=s.log++[d] }:Mx).h M0):=by
 simp only [jw,Ez h,R.af,rZ g4,if_true,aQ,cy,he,IX g4 hl,s4]
theorem nq (h:σ[i]? = some (some (.ref M0.length))) (hf:s.frs=p++[x]):ev Φ (.idx (.fld (.v i) (w "frames")) (.neg (.k (.int 1)))) σ (s.h M0)=.ok x (s.h M0):=by
 simp only [oJ,iU h,R.af,Ii,wN,n9,vw,g2,hf,qT]
end
structure gP (n:Nat) (T:MH) (t k l:Nat) (kn fl:List D) (bk:D):Prop where
 at_:T[t]? = some (.ins 0 [(w "known", .ref (n+(k+5))), (w "fields", .ref (n+(l+5))), (w "behind_call", bk)])
 kn:T[k]? = some (.lst kn)
 fl:T[l]? = some (.lst fl)
section
variable {M0:MH} {s s':Mx} {d x y bk:D} {xs p kn fl:List D} {t k l i:Nat} {Φ:aY} {σ:Sg} {e:E}
theorem L4 (A:gP M0.length s.T t k l kn fl bk) (he:ev Φ e σ (s.h M0)=.ok (.ref (M0.length+(t+5))) (s.h M0)):ev Φ (.fld e (w "known")) σ (s.h M0)=.ok (.ref (M0.length+(k+5))) (s.h M0):=by
 simp only [fJ,he,R.af,gT,A.at_,List.lookup_cons,beq_self_eq_true]
theorem Ir (A:gP M0.length s.T t k l kn fl bk) (he:ev Φ e σ (s.h M0)=.ok (.ref (M0.length+(t+5))) (s.h M0)):ev Φ (.fld e (w "fields")) σ (s.h M0)=.ok (.ref (M0.length+(l+5))) (s.h M0):=by
 simp only [fJ, he, R.af, gT, A.at_, List.lookup_cons, beq_self_eq_true, wz (a:="fields") (b:="known")]
theorem e_bk {s0:Mx} (A:gP M0.length s.T t k l kn fl bk) (he:ev Φ e σ (s0.h M0)=.ok (.ref (M0.length+(t+5))) (s.h M0)):ev Φ (.fld e (w "behind_call")) σ (s0.h M0)=.ok bk (s.h M0):=by
 simp only [fJ, he, R.af, gT, A.at_, List.lookup_cons, beq_self_eq_true, wz (a:="behind_call") (b:="known"), wz (a:="behind_call") (b:="fields")]
end
section
variable {M0:MH} {s:Mx} {v x y bk:D} {p kn fl:List D} {t k l f:Nat} {b:Bool}
theorem yY (h1:s.ay.length<line) (h2:s.log.length<line):(aa ah (k+1)).call 10 [.ref M0.length] (s.h M0)=.ok (.int s.ay.length) (({ s with ay:=s.ay++[.bl true], log:=s.log++[.tup [.str (w "open"), .int s.ay.length]] }:Mx).h M0):=by
 have e0:ev (aa ah k) (.blt .len true (.cons (.fld (.v 0) (w "lies_open")) .nil)) [some (.ref M0.length), none] (s.h M0)=.ok (.int s.ay.length) (s.h M0):=e_len (oG rfl) g3
 have e1:=dP (Φ:=aa ah k) (e:=.fld (.v 0) (w "lies_open")) (e':=.k (.bl true)) (σ:=[some (.ref M0.length), some (.int s.ay.length)]) (oG (s:=s) rfl) g3 rfl g3 h1
 rw [s3] at e1
 have e2:=vc (Φ:=aa ah k) (e:=.tup (.cons (.k (.str (w "open"))) (.cons (.v 1) .nil))) (σ:=[some (.ref M0.length), some (.int s.ay.length)]) (s:={ s with ay:=s.ay++[.bl true] }) (M0:=M0) (i:=0) rfl rfl h2
 exact aI fn10 rfl ((aq e0).trans ((aJ e1).trans ((aJ e2).trans (aP rfl)))) (aU (by simp [nr]) (by rw [len,len]))
theorem yX (hf:f<s.ay.length) (h2:s.log.length<line):(aa ah (k+1)).call 11 [.ref M0.length, .int f] (s.h M0)=.ok .ai (({ s with ay:=s.ay.set f (.bl false), log:=s.log++[.tup [.str (w "shut"), .int f]] }:Mx).h M0):=by
 have e2:=vc (Φ:=aa ah k) (e:=.tup (.cons (.k (.str (w "shut"))) (.cons (.v 1) .nil))) (σ:=[some (.ref M0.length), some (.int f)]) (s:={ s with ay:=s.ay.set f (.bl false) }) (M0:=M0) (i:=0) rfl rfl h2
 have e1:=Fz (Φ:=aa ah k) (e:=.k (.bl false)) (a:=.fld (.v 0) (w "lies_open")) (b:=.v 1) (σ:=[some (.ref M0.length), some (.int f)]) (ss:=.cons (.ex (.aG .append true (.fld (.v 0) (w "log")) (.cons (.tup (.cons (.k (.str (w "shut"))) (.cons (.v 1) .nil))) .nil))) .nil) rfl (oG (s:=s) (M0:=M0) rfl) rfl g3 hf
 rw [s3] at e1
 exact gw fn11 rfl (e1.trans ((aJ e2).trans rfl)) (aU (by simp [nr]) (by rw [len,len]))
theorem su (hf:s.ay[f]? = some (.bl b)) (hs:f<18446744073709551616):(aa ah (k+1)).call 12 [.ref M0.length,.int f] (s.h M0)=if b then .ok .ai (s.h M0) else .exc 5 (s.h M0):=by
 have e0:ev (aa ah k) (.not (.idx (.fld (.v 0) (w "lies_open")) (.v 1))) [some (.ref M0.length), some (.int f)] (s.h M0)=.ok (.bl (!b)) (s.h M0):=by
  rw [zY,fS (oG (s:=s) (M0:=M0) (i:=0) rfl) rfl g3 (cz hf)]
  rfl
 have hs':bY (.int (f:Int))=true:=by simp only [bY,decide_eq_true_eq];omega
 cases b with
 | true=>exact gw LK rfl ((aK e0).trans rfl) (aU (by simp [nr]) rfl)
 | false=>exact tH LK rfl (DY e0 (yd rfl hs')) mW
end
end bI
end
section
namespace bI
open Fg PySem
section
variable {M0:MH} {s:Mx} {v x y bk a b:D} {p fs kn fl:List D} {t k l f:Nat} {bo:Bool} {wd:Str}
theorem Dt {M:MH} (hw:wd.length<=100000) (ha:Vl a) (hb:Vl b) (h:1000<1+cD a+cD b):(aa ah (k+2)).call 1 [.str wd,a,b] M=.exc 1 M:=by rw [Aw hw ha hb,if_pos h]
theorem Ds {M:MH} (hw:wd.length<=100000) (ha:Vl a) (hb:Vl b) (h:¬ 1000<1+cD a+cD b):(aa ah (k+2)).call 1 [.str wd,a,b] M=.ok (.tup [.str wd,.int (1+cD a+cD b),a,b]) M:=by rw [Aw hw ha hb,if_neg h]
theorem tw {e:E} {σ:Sg} {i:Nat} {Φ:aY} (h:σ[i]? = some (some (.ref M0.length))) (he:ev Φ e σ (s.h M0)=.ok (.int f) (s.h M0)):ev Φ (.dS 1 12 (w "want_open") (.v i) (.cons e .nil)) σ (s.h M0)=Φ.call 12 [.ref M0.length, .int f] (s.h M0):=by
 rw [u_ h (by decide +kernel),aQ,he];rfl
theorem GV (hw:wd.length<=100000) (ha:Vl a) (hb:Vl b) (hp:s.pile=p++[a]++[b]) (h:1000<1+cD a+cD b):(aa ah (k+3)).call 13 [.ref M0.length,.str wd,.int f] (s.h M0)=.exc 1 (({ s with pile:=p }:Mx).h M0):=by
 have e1:=iY (Φ:=aa ah (k+2)) (σ:=[some (.ref M0.length),some (.str wd),some (.int f),none,none,none]) (M0:=M0) (i:=0) (s:=s) rfl hp
 have e2:=iY (Φ:=aa ah (k+2)) (σ:=[some (.ref M0.length),some (.str wd),some (.int f),some b,none,none]) (M0:=M0) (i:=0) (s:={ s with pile:=p++[a] }) rfl rfl
 exact tH LJ rfl ((aq e1).trans ((aq e2).trans (rO (Dt hw ha hb h)))) (kM (by rw [len,len]))
theorem K8 (hw:wd.length<=100000) (ha:Vl a) (hb:Vl b) (hp:s.pile=p++[a]++[b]) (h:¬ 1000<1+cD a+cD b) (hf:s.ay[f]? = some (.bl true)) (hs:f<18446744073709551616) (h2:s.log.length<line) (h3:p.length<line):(aa ah (k+3)).call 13 [.ref M0.length,.str wd,.int f] (s.h M0) =
  .ok .ai (({ s with pile:=p++[.tup [.str wd, .int (1+cD a+cD b), a, b, .int f]], log:=s.log++[.tup [.str (w "lay"), .int f]] }:Mx).h M0):=by
 have e1:=iY (Φ:=aa ah (k+2)) (σ:=[some (.ref M0.length),some (.str wd),some (.int f),none,none,none]) (M0:=M0) (i:=0) (s:=s) rfl hp
 have e2:=iY (Φ:=aa ah (k+2)) (σ:=[some (.ref M0.length),some (.str wd),some (.int f),some b,none,none]) (M0:=M0) (i:=0) (s:={ s with pile:=p++[a] }) rfl rfl
 have ec:ev (aa ah (k+2)) (.call 1 (.cons (.v 1) (.cons (.v 4) (.cons (.v 3) .nil)))) [some (.ref M0.length),some (.str wd),some (.int f),some b,some a,none] (({ s with pile:=p }:Mx).h M0)=.ok (.tup [.str wd,.int (1+cD a+cD b),a,b]) (({ s with pile:=p }:Mx).h M0):=Ds hw ha hb h
 have e3:=tw (Φ:=aa ah (k+2)) (e:=.v 2) (f:=f) (σ:=[some (.ref M0.length),some (.str wd),some (.int f),some b,some a,some (.tup [.str wd,.int (1+cD a+cD b),a,b])]) (M0:=M0) (i:=0) (s:={ s with pile:=p }) rfl rfl
 replace e3:=e3.trans (su (s:={ s with pile:=p }) (b:=true) hf hs)
 have e4:=vc (Φ:=aa ah (k+2)) (e:=.tup (.cons (.k (.str (w "lay"))) (.cons (.v 2) .nil))) (σ:=[some (.ref M0.length), some (.str wd), some (.int f), some b, some a, some (.tup [.str wd, .int (1+cD a+cD b), a, b])]) (s:={ s with pile:=p }) (M0:=M0) (i:=0) rfl rfl h2
 have e6:ev (aa ah (k+2)) (.op .add true (.v 5) (.tup (.cons (.v 2) .nil))) [some (.ref M0.length), some (.str wd), some (.int f), some b, some a, some (.tup [.str wd, .int (1+cD a+cD b), a, b])] (({ s with pile:=p, log:=s.log++[.tup [.str (w "lay"), .int f]] }:Mx).h M0) =
  .ok (.tup [.str wd, .int (1+cD a+cD b), a, b, .int f]) (({ s with pile:=p, log:=s.log++[.tup [.str (w "lay"), .int f]] }:Mx).h M0):=rfl
 have e5:=jz (Φ:=aa ah (k+2)) (M0:=M0) (i:=0) (s:={ s with pile:=p, log:=s.log++[.tup [.str (w "lay"), .int f]] }) (s':={ s with pile:=p, log:=s.log++[.tup [.str (w "lay"), .int f]] }) rfl e6 h3
 exact gw LJ rfl ((aq e1).trans ((aq e2).trans ((aq ec).trans ((aJ e3).trans ((aJ e4).trans ((aJ e5).trans rfl)))))) (aU (by simp [nr]) (by rw [len,len]))
end
noncomputable def EE:List Str->Es
 | []=>.nil
 | b::bs=>.cons (.k (.str b)) (EE bs)
theorem u7 {Φ:aY} {σ:Sg} {M:MH}:∀ bs:List Str,cV Φ (EE bs) σ M=.ok (bs.map D.str) M
 | []=>rfl
 | b::bs=>by rw [EE,aQ,wN,R.af,u7 bs];rfl
theorem qJ {Φ:aY} {σ:Sg} {M M1:MH} {e:E} {c:Str} {bs:List Str} {q:Bool} (he:ev Φ e σ M=.ok (.str c) M1) (hq:(bs.any fun z=>decide (z=c))=q):ev Φ (.cmp .isin e (.tup (EE bs))) σ M=.ok (.bl q) M1:=by
 have h1:(bs.map D.str).all flat=true:=by rw [List.all_map];exact List.all_eq_true.mpr fun _ _=>rfl
 have h2:((bs.map D.str).any fun d=>aN d (.str c))=q:=by
  rw [List.any_map,<- hq]
  congr 1
 rw [eB,he,R.af,bH,u7]
 simp only [R.af,bu,AK,vw,flat,h1,h2,Bool.and_self,if_true]
theorem bM {Φ:aY} {σ:Sg} {M M1:MH} {e:E} {c z:Str} {q:Bool} (he:ev Φ e σ M=.ok (.str c) M1) (hq:decide (c=z)=q):ev Φ (.cmp .eq e (.k (.str z))) σ M=.ok (.bl q) M1:=by
 rw [Ac he,hq]
section
variable {M0:MH} {s:Mx} {v x y bk a b:D} {p fs kn fl:List D} {t k l f:Nat} {bo:Bool} {wd c:Str} {sz:Int}
theorem lu {M:MH} {q:Bool} (hq:([w "first", w "head"].any fun z=>decide (z=wd))=q) (ha:Vl a) (hb:Vl b):(aa ah (k+1)).call 4 [.str wd, .tup [.str c, .int sz, a, b, .int f]] M=.ok (if q then a else b) M:=by
 have e1:ev (aa ah k) (.cmp .qq (.v 1) (.k .ai)) [some (.str wd),some (.tup [.str c,.int sz,a,b,.int f])] M=.ok (.bl false) M:=rfl
 have e2:=qJ (Φ:=aa ah k) (e:=.v 0) (σ:=[some (.str wd),some (.tup [.str c,.int sz,a,b,.int f])]) (M:=M) (M1:=M) rfl hq
 cases q with
 | true=>exact aI fn4 rfl ((aK e1).trans (bR e2 (aP rfl))) (aU (ha.nr _) rfl)
 | false=>exact aI fn4 rfl ((aK e1).trans ((aK e2).trans (aP rfl))) (aU (hb.nr _) rfl)
theorem GU {q:Bool} (hq:([w "first", w "head"].any fun z=>decide (z=wd))=q) (ha:Vl a) (hb:Vl b) (hp:s.pile=p++[.tup [.str c, .int sz, a, b, .int f]]) (hf:s.ay[f]? = some (.bl true)) (hs:f<18446744073709551616) (h2:s.log.length<line) (h3:p.length<line):(aa ah (k+3)).call 14 [.ref M0.length, .str wd] (s.h M0) =
  .ok .ai (({ s with pile:=p++[if q then a else b], log:=s.log++[.tup [.str (w "look"), .int f]] }:Mx).h M0):=by
 have e1:=iY (Φ:=aa ah (k+2)) (σ:=[some (.ref M0.length),some (.str wd),none,none]) (M0:=M0) (i:=0) (s:=s) rfl hp
 have ec:ev (aa ah (k+2)) (.call 4 (.cons (.v 1) (.cons (.v 2) .nil))) [some (.ref M0.length),some (.str wd),some (.tup [.str c,.int sz,a,b,.int f]),none] (({ s with pile:=p }:Mx).h M0)=.ok (if q then a else b) (({ s with pile:=p }:Mx).h M0):=lu hq ha hb
 have e3:=(tw (Φ:=aa ah (k+2)) (e:=.idx (.v 2) (.k (.int 4))) (f:=f) (σ:=[some (.ref M0.length),some (.str wd),some (.tup [.str c,.int sz,a,b,.int f]),some (if q then a else b)]) (M0:=M0) (i:=0) (s:={ s with pile:=p }) rfl rfl).trans (su (s:={ s with pile:=p }) (b:=true) hf hs)
 have e4:=vc (Φ:=aa ah (k+2)) (e:=.tup (.cons (.k (.str (w "look"))) (.cons (.idx (.v 2) (.k (.int 4))) .nil))) (σ:=[some (.ref M0.length), some (.str wd), some (.tup [.str c, .int sz, a, b, .int f]), some (if q then a else b)]) (s:={ s with pile:=p }) (M0:=M0) (i:=0) rfl rfl h2
 have e5:=jz (Φ:=aa ah (k+2)) (e:=.v 3) (d:=if q then a else b) (σ:=[some (.ref M0.length), some (.str wd), some (.tup [.str c, .int sz, a, b, .int f]), some (if q then a else b)]) (M0:=M0) (i:=0) (s:={ s with pile:=p, log:=s.log++[.tup [.str (w "look"), .int f]] }) (s':={ s with pile:=p, log:=s.log++[.tup [.str (w "look"), .int f]] }) rfl rfl h3
 exact gw fn14 rfl ((aq e1).trans ((aq ec).trans ((aJ e3).trans ((aJ e4).trans ((aJ e5).trans rfl))))) (aU (by simp [nr]) (by rw [len,len]))
end
end bI
end
section
namespace bI
open Fg PySem
theorem oH {Φ:aY} {s:S} {σ:Sg} {M:MH}:exs Φ (.cons s .nil) σ M=ex Φ s σ M:=by
 rw [cu]
 cases ex Φ s σ M with
 | ok o M1=>cases o <;> rfl
 | exc c M1=>rfl
 | bad=>rfl
section
variable {Φ:aY} {σ:Sg} {M M1:MH} {c:E} {a b:Ss}
theorem selF (h:ev Φ c σ M=.ok (.bl false) M1):exs Φ (.cons (.ifs c a b) .nil) σ M=exs Φ b σ M1:=by rw [oH,iw,h];rfl
theorem selT (h:ev Φ c σ M=.ok (.bl true) M1):exs Φ (.cons (.ifs c a b) .nil) σ M=exs Φ a σ M1:=by rw [oH,iw,h];rfl
end
noncomputable def tL:Ss:=.cons (.ex (.dS 1 16 (w "carry") (.v 0) (.cons (.v 1) .nil))) .nil
noncomputable def bGo:Ss:=.cons (.ex (.dS 1 17 (w "go") (.v 0) (.cons (.v 1) .nil))) .nil
noncomputable def Jt:E:=.fld (.idx (.fld (.v 0) (w "frames")) (.neg (.k (.int 1)))) (w "fields")
noncomputable def IT:Ss:=.cons (.ex (.dS 1 13 (w "lay") (.v 0) (.cons (.v 2) (.cons (.idx Jt (.idx (.v 1) (.k (.int 1)))) .nil)))) .nil
noncomputable def AA:Ss:=.cons (.ex (.dS 1 14 (w "look") (.v 0) (.cons (.v 2) .nil))) .nil
noncomputable def Ae:E:=.fld (.v 0) (w "pile")
noncomputable def Dz:Ss:=.cons (.ex (.aG .append true Ae (.cons (.k .ai) .nil))) .nil
noncomputable def vA:Ss:=.cons (.ex (.aG .append true Ae (.cons (.AL (.cmp .qq (.aG .pop true Ae .nil) (.k .ai)) (.k (.int 1)) (.k (.int 0))) .nil))) .nil
noncomputable def bOpen:Ss:=.cons (.ex (.aG .append true Jt (.cons (.dS 1 10 (w "open_field") (.v 0) .nil) .nil))) .nil
noncomputable def vz:Ss:=.cons (.ex (.dS 1 11 (w "shut_field") (.v 0) (.cons (.aG .pop true Jt .nil) .nil))) .nil
noncomputable def Az:Ss:=.cons (.ex (.dS 1 15 (w "reckon") (.v 0) (.cons (.v 2) .nil))) .nil
noncomputable def t8:Ss:=.cons (.ifs (.cmp .eq (.v 2) (.k (.str (w "shut")))) vz Az) .nil
noncomputable def t7:Ss:=.cons (.ifs (.cmp .eq (.v 2) (.k (.str (w "open")))) bOpen t8) .nil
noncomputable def t6:Ss:=.cons (.ifs (.cmp .eq (.v 2) (.k (.str (w "none")))) vA t7) .nil
noncomputable def t5:Ss:=.cons (.ifs (.cmp .eq (.v 2) (.k (.str (w "nil")))) Dz t6) .nil
noncomputable def w1:List Str:=[w "number", w "local", w "keep", w "drop"]
noncomputable def w2:List Str:=[w "jump", w "unless", w "call", w "back"]
noncomputable def w3:List Str:=[w "pair", w "cons"]
noncomputable def w4:List Str:=[w "first", w "second", w "head", w "tail"]
noncomputable def t4:Ss:=.cons (.ifs (.cmp .isin (.v 2) (.tup (EE w4))) AA t5) .nil
noncomputable def t3:Ss:=.cons (.ifs (.cmp .isin (.v 2) (.tup (EE w3))) IT t4) .nil
noncomputable def t2:Ss:=.cons (.ifs (.cmp .isin (.v 2) (.tup (EE w2))) bGo t3) .nil
noncomputable def t1:Ss:=.cons (.ifs (.cmp .isin (.v 2) (.tup (EE w1))) tL t2) .nil
theorem vP:ck.body=.cons (.set 1 (.idx (.fld (.v 0) (w "rows")) (.fld (.v 0) (w "place")))) (.cons (.bZ (.v 0) (w "place") (.op .add false (.fld (.v 0) (w "place")) (.k (.int 1)))) (.cons (.set 2 (.idx (.v 1) (.k (.int 0)))) t1)):=rfl
noncomputable def an (ws:List Str) (z:Str):Bool:=ws.any fun y=>decide (y=z)
noncomputable def br (z:Str):Ss :=
 if an w1 z then tL else if an w2 z then bGo else if an w3 z then IT else if an w4 z then AA
 else if decide (z=w "nil") then Dz else if decide (z=w "none") then vA else if decide (z=w "open") then bOpen else if decide (z=w "shut") then vz else Az
theorem sel {Φ:aY} {σ:Sg} {M:MH} {c:E} {a b b':Ss} {q:Bool} (h:ev Φ c σ M=.ok (.bl q) M) (hb:exs Φ b σ M=exs Φ b' σ M):exs Φ (.cons (.ifs c a b) .nil) σ M=exs Φ (if q then a else b') σ M:=by
 cases q with
 | true=>exact selT h
 | false=>exact (selF h).trans hb
theorem JU {Φ:aY} {M:MH} {r x:D} {z:Str}:exs Φ t1 [some r,some x,some (.str z)] M=exs Φ (br z) [some r,some x,some (.str z)] M :=
 sel (qJ rfl rfl) (sel (qJ rfl rfl) (sel (qJ rfl rfl) (sel (qJ rfl rfl) (sel (bM rfl rfl) (sel (bM rfl rfl) (sel (bM rfl rfl) (sel (bM rfl rfl) rfl)))))))
section
variable {M0:MH} {s:Mx} {rs rest:List D} {z:Str} {j k:Nat} {i:Int}
theorem pK {Φ:aY} (hr:s.rows=.lst rs) (hp:s.pl=.int i) (ha:dc rs i=some (.tup (.str z::rest))) :
  exs Φ ck.body [some (.ref M0.length),none,none] (s.h M0)=exs Φ (br z) [some (.ref M0.length),some (.tup (.str z::rest)),some (.str z)] (({ s with pl:=.int (i+1) }:Mx).h M0):=by
 have e1:ev Φ (.idx (.fld (.v 0) (w "rows")) (.fld (.v 0) (w "place"))) [some (.ref M0.length), none, none] (s.h M0)=.ok (.tup (.str z::rest)) (s.h M0) :=
  nt ((Ia (M0:=M0) (s:=s) (i:=0) rfl).trans (by rw [hr])) ((u5 (M0:=M0) (s:=s) (i:=0) rfl).trans (by rw [hp])) ha
 have e2:=oR (Φ:=Φ) (σ:=[some (.ref M0.length), some (.tup (.str z::rest)), none]) (e:=.op .add false (.fld (.v 0) (w "place")) (.k (.int 1))) (s:=s) (s':=s) (M0:=M0) (i:=0) rfl (Ad ((u5 (M0:=M0) (s:=s) (i:=0) rfl).trans (by rw [hp])) rfl)
 have e3:ev Φ (.idx (.v 1) (.k (.int 0))) [some (.ref M0.length),some (.tup (.str z::rest)),none] (({ s with pl:=.int (i+1) }:Mx).h M0)=.ok (.str z) (({ s with pl:=.int (i+1) }:Mx).h M0):=aC rfl rfl bf
 rw [vP]
 exact (aq e1).trans ((aX e2).trans ((aq e3).trans JU))
theorem cJ {s':Mx} (hr:s.rows=.lst rs) (hp:s.pl=.int i) (ha:dc rs i=some (.tup (.str z::rest))) (hb:exs (aa ah k) (br z) [some (.ref M0.length),some (.tup (.str z::rest)),some (.str z)] (({ s with pl:=.int (i+1) }:Mx).h M0)=.ok (.nx [some (.ref M0.length),some (.tup (.str z::rest)),some (.str z)]) (s'.h M0))
  (hn:eL false (s.h M0) .ai (s'.h M0)=.ok .ai (s'.h M0)):(aa ah (k+1)).call 19 [.ref M0.length] (s.h M0)=.ok .ai (s'.h M0):=gw LI rfl ((pK hr hp ha).trans hb) hn
theorem Co {s':Mx} {c:Nat} (hr:s.rows=.lst rs) (hp:s.pl=.int i) (ha:dc rs i=some (.tup (.str z::rest))) (hb:exs (aa ah k) (br z) [some (.ref M0.length),some (.tup (.str z::rest)),some (.str z)] (({ s with pl:=.int (i+1) }:Mx).h M0)=.ok (.xc c [some (.ref M0.length),some (.tup (.str z::rest)),some (.str z)]) (s'.h M0))
  (hn:s'.T.length=s.T.length):(aa ah (k+1)).call 19 [.ref M0.length] (s.h M0)=.exc c (s'.h M0):=tH LI rfl ((pK hr hp ha).trans hb) (kM (by rw [len,len,hn]))
theorem b5 {s':Mx} (h:s'.T.length=s.T.length):eL false (s.h M0) .ai (s'.h M0)=.ok .ai (s'.h M0):=aU (by simp [nr]) (by rw [len,len,h])
end
end bI
end
section
namespace bI
open Fg PySem
section
variable {M0:MH} {s:Mx} {x y v bk:D} {rest fs kn fl p:List D} {z:Str} {t k l f j:Nat} {i:Int} {Φ:aY} {σ:Sg}
theorem kJ {m:Nat} {nm:Str} {es:Es} {ds:List D} {s':Mx} {M1:MH} {ss:Ss} (h:σ[0]? = some (some (.ref M0.length))) (hn:([w "rows", w "most", w "begun", w "place", w "pile", w "frames", w "lies_open", w "log"].all fun x=>!(nm == x))=true) (he:cV Φ es σ (s.h M0)=.ok ds (s'.h M0)) (hc:Φ.call m (.ref M0.length::ds) (s'.h M0)=.ok y M1):exs Φ (.cons (.ex (.dS 1 m nm (.v 0) es)) ss) σ (s.h M0)=exs Φ ss σ M1 :=
 aJ ((u_ h hn).trans (by rw [he];exact hc))
theorem Fy {m c:Nat} {nm:Str} {es:Es} {ds:List D} {s':Mx} {M1:MH} {ss:Ss} (h:σ[0]? = some (some (.ref M0.length))) (hn:([w "rows", w "most", w "begun", w "place", w "pile", w "frames", w "lies_open", w "log"].all fun x=>!(nm == x))=true) (he:cV Φ es σ (s.h M0)=.ok ds (s'.h M0)) (hc:Φ.call m (.ref M0.length::ds) (s'.h M0)=.exc c M1):exs Φ (.cons (.ex (.dS 1 m nm (.v 0) es)) ss) σ (s.h M0)=.ok (.xc c σ) M1 :=
 uu ((u_ h hn).trans (by rw [he];exact hc))
theorem Au (hf:s.frs=fs++[y]) (hl:s.pile.length<line):(aa ah (k+1)).call 16 [.ref M0.length, .tup [.str (w "number"), x]] (s.h M0)=.ok .ai (({ s with pile:=s.pile++[x] }:Mx).h M0):=by
 have e1:=nq (Φ:=aa ah k) (σ:=[some (.ref M0.length), some (.tup [.str (w "number"), x]), none]) (M0:=M0) (s:=s) (i:=0) rfl hf
 have e2:ev (aa ah k) (.cmp .eq (.idx (.v 1) (.k (.int 0))) (.k (.str (w "number")))) [some (.ref M0.length), some (.tup [.str (w "number"), x]), some y] (s.h M0)=.ok (.bl true) (s.h M0):=bM (aC rfl rfl bf) (by decide +kernel)
 have e3:=jz (Φ:=aa ah k) (e:=.idx (.v 1) (.k (.int 1))) (d:=x) (σ:=[some (.ref M0.length), some (.tup [.str (w "number"), x]), some y]) (M0:=M0) (i:=0) (s:=s) (s':=s) rfl (aC rfl rfl gX) hl
 exact gw HZ rfl ((aq e1).trans (jF e2 ((aJ e3).trans rfl))) (b5 rfl)
theorem Dp (hf:s.frs=fs++[.ref (M0.length+(t+5))]) (A:gP M0.length s.T t j l kn fl bk) (hx:dc kn i=some x) (hl:s.pile.length<line):(aa ah (k+1)).call 16 [.ref M0.length, .tup [.str (w "local"), .int i]] (s.h M0)=.ok .ai (({ s with pile:=s.pile++[x] }:Mx).h M0):=by
 have e1:=nq (Φ:=aa ah k) (σ:=[some (.ref M0.length), some (.tup [.str (w "local"), .int i]), none]) (M0:=M0) (s:=s) (i:=0) rfl hf
 have e2:ev (aa ah k) (.cmp .eq (.idx (.v 1) (.k (.int 0))) (.k (.str (w "number")))) [some (.ref M0.length), some (.tup [.str (w "local"), .int i]), some (.ref (M0.length+(t+5)))] (s.h M0)=.ok (.bl false) (s.h M0):=bM (aC rfl rfl bf) (by decide +kernel)
 have e3:ev (aa ah k) (.cmp .eq (.idx (.v 1) (.k (.int 0))) (.k (.str (w "local")))) [some (.ref M0.length), some (.tup [.str (w "local"), .int i]), some (.ref (M0.length+(t+5)))] (s.h M0)=.ok (.bl true) (s.h M0):=bM (aC rfl rfl bf) (by decide +kernel)
 have e4:ev (aa ah k) (.idx (.fld (.v 2) (w "known")) (.idx (.v 1) (.k (.int 1)))) [some (.ref M0.length), some (.tup [.str (w "local"), .int i]), some (.ref (M0.length+(t+5)))] (s.h M0)=.ok x (s.h M0):=fS (L4 A rfl) (aC rfl rfl gX) (gT.trans A.kn) hx
 have e5:=jz (Φ:=aa ah k) (M0:=M0) (i:=0) (s:=s) (s':=s) rfl e4 hl
 exact gw HZ rfl ((aq e1).trans (je e2 ((jF e3 ((aJ e5).trans rfl)).trans rfl))) (b5 rfl)
theorem II (hf:s.frs=fs++[.ref (M0.length+(t+5))]) (A:gP M0.length s.T t j l kn fl bk) (hp:s.pile=p++[x]) (hl:kn.length<line):(aa ah (k+1)).call 16 [.ref M0.length, .tup [.str (w "keep")]] (s.h M0)=.ok .ai (({ s with pile:=p, T:=s.T.set j (.lst (kn++[x])) }:Mx).h M0):=by
 have e1:=nq (Φ:=aa ah k) (σ:=[some (.ref M0.length), some (.tup [.str (w "keep")]), none]) (M0:=M0) (s:=s) (i:=0) rfl hf
 have q:∀ u:Str, decide (w "keep" = u)=false->ev (aa ah k) (.cmp .eq (.idx (.v 1) (.k (.int 0))) (.k (.str u))) [some (.ref M0.length), some (.tup [.str (w "keep")]), some (.ref (M0.length+(t+5)))] (s.h M0)=.ok (.bl false) (s.h M0):=fun u h=>bM (aC rfl rfl bf) h
 have e4:ev (aa ah k) (.cmp .eq (.idx (.v 1) (.k (.int 0))) (.k (.str (w "keep")))) [some (.ref M0.length), some (.tup [.str (w "keep")]), some (.ref (M0.length+(t+5)))] (s.h M0)=.ok (.bl true) (s.h M0):=bM (aC rfl rfl bf) (by decide +kernel)
 have e5:=iY (Φ:=aa ah k) (σ:=[some (.ref M0.length), some (.tup [.str (w "keep")]), some (.ref (M0.length+(t+5)))]) (M0:=M0) (i:=0) (s:=s) rfl hp
 have g:(({ s with pile:=p }:Mx).h M0)[M0.length+(j+5)]? = some (.lst kn):=gT.trans A.kn
 have e6:=dP (L4 (Φ:=aa ah k) (e:=.v 2) (σ:=[some (.ref M0.length), some (.tup [.str (w "keep")]), some (.ref (M0.length+(t+5)))]) A rfl) (gT.trans A.kn) e5 g hl
 rw [sT] at e6
 exact gw HZ rfl ((aq e1).trans (je (q _ (by decide +kernel)) ((je (q _ (by decide +kernel)) ((jF e4 ((aJ e6).trans rfl)).trans rfl)).trans rfl))) (b5 (by simp))
theorem IL (hf:s.frs=fs++[.ref (M0.length+(t+5))]) (A:gP M0.length s.T t j l kn fl bk):(aa ah (k+1)).call 17 [.ref M0.length, .tup [.str (w "back")]] (s.h M0)=.ok .ai (({ s with frs:=fs, pl:=bk }:Mx).h M0):=by
 have q:∀ u:Str, decide (w "back" = u)=false->ev (aa ah k) (.cmp .eq (.idx (.v 1) (.k (.int 0))) (.k (.str u))) [some (.ref M0.length), some (.tup [.str (w "back")])] (s.h M0)=.ok (.bl false) (s.h M0):=fun u h=>bM (aC rfl rfl bf) h
 have e4:ev (aa ah k) (.cmp .eq (.idx (.v 1) (.k (.int 0))) (.k (.str (w "back")))) [some (.ref M0.length), some (.tup [.str (w "back")])] (s.h M0)=.ok (.bl true) (s.h M0):=bM (aC rfl rfl bf) (by decide +kernel)
 have e5:=jA (iU (Φ:=aa ah k) (σ:=[some (.ref M0.length), some (.tup [.str (w "back")])]) (M0:=M0) (s:=s) (i:=0) rfl) (g2.trans (by rw [hf]))
 rw [s2] at e5
 have e6:=oR (Φ:=aa ah k) (σ:=[some (.ref M0.length), some (.tup [.str (w "back")])]) (s:=s) (s':={ s with frs:=fs }) (M0:=M0) (i:=0) rfl (e_bk (s:={ s with frs:=fs }) A e5)
 exact gw fn17 rfl (je (q _ (by decide +kernel)) ((je (q _ (by decide +kernel)) ((jF e4 ((aX e6).trans rfl)).trans rfl)).trans rfl)) (b5 rfl)
end
end bI
end
section
namespace bI
open Fg PySem
section
variable {M0:MH} {s:Mx} {x y v bk:D} {rest fs kn fl p:List D} {z:Str} {t k l f j:Nat} {i:Int} {Φ:aY} {σ:Sg} {M:MH}
theorem e_gt {M1 M2:MH} {e e':E} {a b:Int} {q:Bool} (he:ev Φ e σ M=.ok (.int a) M1) (hx:ev Φ e' σ M1=.ok (.int b) M2) (hq:decide (b<a)=q):ev Φ (.cmp .gt e e') σ M=.ok (.bl q) M2:=by
 rw [eB,he,R.af,hx,<- hq];rfl
theorem oO {M1 M2:MH} {e a:E} {d:D} {n c:Nat} {g:Str} {gs gs':List (Str×D)} (he:ev Φ e σ M=.ok d M1) (ha:ev Φ a σ M1=.ok (.ref n) M2) (h:M2[n]? = some (.ins c gs)) (hl:gs.length<1000) (hg:bV g d gs=gs'):ex Φ (.bZ a g e) σ M=.ok (.nx σ) (M2.set n (.ins c gs')):=by
 simp only [u6,he,R.d8,ha,h,hl,decide_true,if_true,hg]
theorem Dr {n:Nat} {x y z:D} (h:M[n]? = some (.ins 0 [])):(aa ah (k+1)).call 8 [.ref n, x, y, z] M=.ok .ai (M.set n (.ins 0 [(w "known", x), (w "fields", y), (w "behind_call", z)])):=by
 have p1:bV (w "fields") y [(w "known", x)]=[(w "known", x), (w "fields", y)]:=by simp only [bV, wn (a:="known") (b:="fields"), if_false]
 have p2:bV (w "behind_call") z [(w "known", x), (w "fields", y)]=[(w "known", x), (w "fields", y), (w "behind_call", z)]:=by simp only [bV, wn (a:="known") (b:="behind_call"), wn (a:="fields") (b:="behind_call"), if_false]
 have e1:=oO (Φ:=aa ah k) (σ:=[some (.ref n), some x, some y, some z]) (e:=.v 1) (a:=.v 0) (g:=w "known") (gs':=[(w "known", x)]) rfl rfl h (by decide) rfl
 have e2:=oO (Φ:=aa ah k) (σ:=[some (.ref n), some x, some y, some z]) (e:=.v 2) (a:=.v 0) (g:=w "fields") rfl rfl (j8 (b:=.ins 0 [(w "known", x)]) h) (by simp) p1
 rw [List.set_set] at e2
 have e3:=oO (Φ:=aa ah k) (σ:=[some (.ref n), some x, some y, some z]) (e:=.v 3) (a:=.v 0) (g:=w "behind_call") rfl rfl (j8 (b:=.ins 0 [(w "known", x), (w "fields", y)]) h) (by simp) p2
 rw [List.set_set] at e3
 exact gw fn8 rfl ((aX e1).trans ((aX e2).trans ((aX e3).trans rfl))) (aU (by simp [nr]) (by simp))
theorem e_new {M1 M2:MH} {c g:Nat} {es:Es} {ds:List D} (he:cV Φ es σ M=.ok ds M1) (hc:Φ.ini g (.ref M1.length::ds) (M1++[.ins c []])=.ok .ai M2):ev Φ (.new c g es) σ M=.ok (.ref M1.length) M2:=by
 rw [Ih,he,R.af,hc];rfl
theorem Iu {M1 M2:MH} {caps tg:List Nat} {elt:E} {it:Src} {d:D} {ds out:List D} (hi:bO Φ it σ M=.ok (d,ds,false) M1) (hl:bL (nj Φ .none) (ev Φ elt) tg (bq M1 d) ds (iz σ caps++List.replicate tg.length none) M1 []=.ok out M2):ev Φ (.comp false caps tg elt it .none) σ M=.ok (.ref M2.length) (M2++[.lst out]):=by
 rw [oK,hi,R.af,u0,hl];rfl
theorem oU {M1 M2:MH} {caps tg:List Nat} {elt:E} {it:Src} {d:D} {ds out:List D} (hi:bO Φ it σ M=.ok (d,ds,false) M1) (hl:bL (nj Φ .none) (ev Φ elt) tg (bq M1 d) ds (iz σ caps++List.replicate tg.length none) M1 []=.ok out M2):ev Φ (.comp true caps tg elt it .none) σ M=.ok (.lst out) M2:=by
 rw [oK,hi,R.af,u0,hl];rfl
theorem zd {elt:Sg->MH->R D} {n:Nat} {ch:MH->Bool} {d x:D} {ds acc:List D} {M1:MH} (h:elt (σ.set n (some d)) M=.ok x M1) (hc:ch M1=true) (hl:acc.length<line):bL (nj Φ .none) elt [n] ch (d::ds) σ M acc=bL (nj Φ .none) elt [n] ch ds (σ.set n (some d)) M1 (acc++[x]):=by
 rw [bL]
 simp only [sets,zX,R.af,h,hc,if_true,hl,decide_true]
theorem EL {M1:MH} {e:E} {n:Nat} (he:ev Φ e σ M=.ok (.int n) M1) (hn:n<=1000000):bO Φ (.eF e) σ M=.ok (.ai,eK 0 n,false) M1:=by
 rw [C5,he,R.af]
 simp only [Ce hn,if_true]
theorem yg {n:Nat}:(eK 0 (n:Int)).length=n:=by simp [eK]
end
theorem AX {M M':MH} {i:Nat} {a b:MO} (h1:M[i]? = some a) (h2:M'[i]? = some b) (hn:a≠b):M'.take M.length≠M:=fun h=>by
 have hi:=(List.getElem?_eq_some_iff.mp h1).1
 have:=List.getElem?_take_of_lt (l:=M') hi
 rw [h,h1,h2] at this
 exact hn (Option.some.inj this)
theorem BH {M M':MH} {d:D} (h:M'.take M.length≠M):eL false M d M'=.ok d M':=by
 unfold eL;rw [if_neg fun z=>h z.2]
theorem k9 {s:Mx} {M0:MH}:(s.h M0).length=M0.length+(s.T.length+5):=len
section
variable {M0:MH} {s:Mx} {bk:D} {fs kn fl p xs ys:List D} {t k l j:Nat} {is:List Int}
end
end bI
end
section
namespace bI
open Fg PySem
section
variable {z:Str}
theorem br1 (h:an w1 z=true):br z=tL:=if_pos h
theorem br2 (h1:an w1 z=false) (h:an w2 z=true):br z=bGo:=by
 unfold br;rw [if_neg (by rw [h1];decide),if_pos h]
theorem br3 (h1:an w1 z=false) (h2:an w2 z=false) (h:an w3 z=true):br z=IT:=by
 unfold br;rw [if_neg (by rw [h1];decide),if_neg (by rw [h2];decide),if_pos h]
theorem br4 (h1:an w1 z=false) (h2:an w2 z=false) (h3:an w3 z=false) (h:an w4 z=true):br z=AA:=by
 unfold br;rw [if_neg (by rw [h1];decide),if_neg (by rw [h2];decide),if_neg (by rw [h3];decide),if_pos h]
theorem NN (h1:an w1 z=false) (h2:an w2 z=false) (h3:an w3 z=false) (h4:an w4 z=false):br z=if decide (z=w "nil") then Dz else if decide (z=w "none") then vA else if decide (z=w "open") then bOpen else if decide (z=w "shut") then vz else Az:=by
 unfold br;rw [if_neg (by rw [h1];decide),if_neg (by rw [h2];decide),if_neg (by rw [h3];decide),if_neg (by rw [h4];decide)]
theorem IP:br (w "nil")=Dz:=(NN (by decide +kernel) (by decide +kernel) (by decide +kernel) (by decide +kernel)).trans (if_pos (by decide +kernel))
theorem Dw:br (w "none")=vA:=(NN (by decide +kernel) (by decide +kernel) (by decide +kernel) (by decide +kernel)).trans ((if_neg (by decide +kernel)).trans (if_pos (by decide +kernel)))
theorem Dv:br (w "open")=bOpen:=(NN (by decide +kernel) (by decide +kernel) (by decide +kernel) (by decide +kernel)).trans ((if_neg (by decide +kernel)).trans ((if_neg (by decide +kernel)).trans (if_pos (by decide +kernel))))
theorem Du:br (w "shut")=vz:=(NN (by decide +kernel) (by decide +kernel) (by decide +kernel) (by decide +kernel)).trans ((if_neg (by decide +kernel)).trans ((if_neg (by decide +kernel)).trans ((if_neg (by decide +kernel)).trans (if_pos (by decide +kernel)))))
end
section
variable {M0:MH} {s:Mx} {x y v bk a b:D} {rs fs kn fl p xs ys:List D} {z c:Str} {t k l f j:Nat} {i n sz:Int} {is:List Int}
theorem vQ (hr:s.rows=.lst rs) (hp:s.pl=.int i) (ha:dc rs i=some (.tup [.str (w "number"), x])) (hf:s.frs=fs++[y]) (hl:s.pile.length<line):(aa ah (k+2)).call 19 [.ref M0.length] (s.h M0)=.ok .ai (({ s with pl:=.int (i+1), pile:=s.pile++[x] }:Mx).h M0):=by
 refine cJ (s:=s) hr hp ha ?_ (b5 rfl)
 rw [br1 (by decide +kernel)]
 exact (kJ (s:={ s with pl:=.int (i+1) }) (s':={ s with pl:=.int (i+1) }) rfl (by decide +kernel) rfl (Au hf hl)).trans rfl
theorem xQ (hr:s.rows=.lst rs) (hp:s.pl=.int i) (ha:dc rs i=some (.tup [.str (w "local"), .int n])) (hf:s.frs=fs++[.ref (M0.length+(t+5))]) (A:gP M0.length s.T t j l kn fl bk) (hx:dc kn n=some x) (hl:s.pile.length<line):(aa ah (k+2)).call 19 [.ref M0.length] (s.h M0)=.ok .ai (({ s with pl:=.int (i+1), pile:=s.pile++[x] }:Mx).h M0):=by
 refine cJ (s:=s) hr hp ha ?_ (b5 rfl)
 rw [br1 (by decide +kernel)]
 exact (kJ (s:={ s with pl:=.int (i+1) }) (s':={ s with pl:=.int (i+1) }) rfl (by decide +kernel) rfl (Dp (s:={ s with pl:=.int (i+1) }) hf A hx hl)).trans rfl
theorem A5 (hr:s.rows=.lst rs) (hp:s.pl=.int i) (ha:dc rs i=some (.tup [.str (w "keep")])) (hf:s.frs=fs++[.ref (M0.length+(t+5))]) (A:gP M0.length s.T t j l kn fl bk) (hx:s.pile=p++[x]) (hl:kn.length<line):(aa ah (k+2)).call 19 [.ref M0.length] (s.h M0)=.ok .ai (({ s with pl:=.int (i+1), pile:=p, T:=s.T.set j (.lst (kn++[x])) }:Mx).h M0):=by
 refine cJ (s:=s) hr hp ha ?_ (b5 (by simp))
 rw [br1 (by decide +kernel)]
 exact (kJ (s:={ s with pl:=.int (i+1) }) (s':={ s with pl:=.int (i+1) }) rfl (by decide +kernel) rfl (II (s:={ s with pl:=.int (i+1) }) hf A hx hl)).trans rfl
theorem A6 (hr:s.rows=.lst rs) (hp:s.pl=.int i) (ha:dc rs i=some (.tup [.str (w "back")])) (hf:s.frs=fs++[.ref (M0.length+(t+5))]) (A:gP M0.length s.T t j l kn fl bk):(aa ah (k+2)).call 19 [.ref M0.length] (s.h M0)=.ok .ai (({ s with pl:=bk, frs:=fs }:Mx).h M0):=by
 refine cJ (s:=s) hr hp ha ?_ (b5 rfl)
 rw [br2 (by decide +kernel) (by decide +kernel)]
 exact (kJ (s:={ s with pl:=.int (i+1) }) (s':={ s with pl:=.int (i+1) }) rfl (by decide +kernel) rfl (IL (s:={ s with pl:=.int (i+1) }) hf A)).trans rfl
theorem ve {Φ:aY} {σ:Sg} (h0:σ[0]? = some (some (.ref M0.length))) (h1:σ[1]? = some (some (.tup [.str z,.int n]))) (hf:s.frs=fs++[.ref (M0.length+(t+5))]) (A:gP M0.length s.T t j l kn fl bk) (hn:dc fl n=some x):ev Φ (.idx Jt (.idx (.v 1) (.k (.int 1)))) σ (s.h M0)=.ok x (s.h M0) :=
 fS (Ir A (nq h0 hf)) (aC (e_v h1) rfl gX) (gT.trans A.fl) hn
theorem lK {Φ:aY} {σ:Sg} {M M1 M2:MH} {e e':E} (h:ev Φ e σ M=.ok x M1) (h':ev Φ e' σ M1=.ok y M2):cV Φ (.cons e (.cons e' .nil)) σ M=.ok [x,y] M2:=by rw [aQ,h,R.af,aQ,h'];rfl
theorem LP {Φ:aY} {σ:Sg} {M M1:MH} {e:E} (h:ev Φ e σ M=.ok x M1):cV Φ (.cons e .nil) σ M=.ok [x] M1:=by rw [aQ,h];rfl
theorem Fc (hz:an w3 z=true) (hz1:an w1 z=false) (hz2:an w2 z=false) (hw:z.length<=100000) (hr:s.rows=.lst rs) (hp:s.pl=.int i) (ha:dc rs i=some (.tup [.str z,.int n])) (hf:s.frs=fs++[.ref (M0.length+(t+5))]) (A:gP M0.length s.T t j l kn fl bk) (hn:dc fl n=some (.int f)) (va:Vl a) (vb:Vl b) (hx:s.pile=p++[a]++[b])
  (h:¬ 1000<1+cD a+cD b) (ho:s.ay[f]? = some (.bl true)) (hs:f<18446744073709551616) (h2:s.log.length<line) (h3:p.length<line):(aa ah (k+4)).call 19 [.ref M0.length] (s.h M0)=.ok .ai (({ s with pl:=.int (i+1), pile:=p++[.tup [.str z, .int (1+cD a+cD b), a, b, .int f]], log:=s.log++[.tup [.str (w "lay"), .int f]] }:Mx).h M0):=by
 refine cJ (s:=s) hr hp ha ?_ (b5 rfl)
 rw [br3 hz1 hz2 hz]
 exact (kJ (s:={ s with pl:=.int (i+1) }) (s':={ s with pl:=.int (i+1) }) rfl (by decide +kernel) (lK rfl (ve (s:={ s with pl:=.int (i+1) }) rfl rfl hf A hn)) (K8 (s:={ s with pl:=.int (i+1) }) hw va vb hx h ho hs h2 h3)).trans rfl
theorem A4 (hz:an w3 z=true) (hz1:an w1 z=false) (hz2:an w2 z=false) (hw:z.length<=100000) (hr:s.rows=.lst rs) (hp:s.pl=.int i) (ha:dc rs i=some (.tup [.str z,.int n])) (hf:s.frs=fs++[.ref (M0.length+(t+5))]) (A:gP M0.length s.T t j l kn fl bk) (hn:dc fl n=some (.int f)) (va:Vl a) (vb:Vl b) (hx:s.pile=p++[a]++[b])
  (h:1000<1+cD a+cD b):(aa ah (k+4)).call 19 [.ref M0.length] (s.h M0)=.exc 1 (({ s with pl:=.int (i+1),pile:=p }:Mx).h M0):=by
 refine Co (s:=s) hr hp ha ?_ rfl
 rw [br3 hz1 hz2 hz]
 exact Fy (s:={ s with pl:=.int (i+1) }) (s':={ s with pl:=.int (i+1) }) rfl (by decide +kernel) (lK rfl (ve (s:={ s with pl:=.int (i+1) }) rfl rfl hf A hn)) (GV (s:={ s with pl:=.int (i+1) }) hw va vb hx h)
theorem A3 {q:Bool} (hz:an w4 z=true) (hz1:an w1 z=false) (hz2:an w2 z=false) (hz3:an w3 z=false) (hq:([w "first", w "head"].any fun y=>decide (y=z))=q) (hr:s.rows=.lst rs) (hp:s.pl=.int i) (ha:dc rs i=some (.tup [.str z])) (va:Vl a) (vb:Vl b) (hx:s.pile=p++[.tup [.str c, .int sz, a, b, .int f]])
  (ho:s.ay[f]? = some (.bl true)) (hs:f<18446744073709551616) (h2:s.log.length<line) (h3:p.length<line):(aa ah (k+4)).call 19 [.ref M0.length] (s.h M0)=.ok .ai (({ s with pl:=.int (i+1), pile:=p++[if q then a else b], log:=s.log++[.tup [.str (w "look"), .int f]] }:Mx).h M0):=by
 refine cJ (s:=s) hr hp ha ?_ (b5 rfl)
 rw [br4 hz1 hz2 hz3 hz]
 exact (kJ (s:={ s with pl:=.int (i+1) }) (s':={ s with pl:=.int (i+1) }) rfl (by decide +kernel) rfl (GU (s:={ s with pl:=.int (i+1) }) hq va vb hx ho hs h2 h3)).trans rfl
theorem Fb (hr:s.rows=.lst rs) (hp:s.pl=.int i) (ha:dc rs i=some (.tup [.str (w "nil")])) (hl:s.pile.length<line):(aa ah (k+1)).call 19 [.ref M0.length] (s.h M0)=.ok .ai (({ s with pl:=.int (i+1), pile:=s.pile++[.ai] }:Mx).h M0):=by
 refine cJ (s:=s) hr hp ha ?_ (b5 rfl)
 rw [IP]
 exact (aJ (jz (s:={ s with pl:=.int (i+1) }) (s':={ s with pl:=.int (i+1) }) rfl rfl hl)).trans rfl
theorem L5 {Φ:aY} {σ:Sg} {M M1:MH} {e:E} (h:ev Φ e σ M=.ok x M1):ev Φ (.AL (.cmp .qq e (.k .ai)) (.k (.int 1)) (.k (.int 0))) σ M=.ok (.int (if dY x then 1 else 0)) M1:=by
 rw [Ik,eB,h,R.af,wN,R.af]
 have e:bu .qq M1 x .ai=.ok (.bl (dY x)) M1:=rfl
 rw [e]
 cases dY x <;> rfl
theorem A2 (hr:s.rows=.lst rs) (hp:s.pl=.int i) (ha:dc rs i=some (.tup [.str (w "none")])) (hx:s.pile=p++[x]) (hl:p.length<line):(aa ah (k+1)).call 19 [.ref M0.length] (s.h M0)=.ok .ai (({ s with pl:=.int (i+1), pile:=p++[.int (if dY x then 1 else 0)] }:Mx).h M0):=by
 refine cJ (s:=s) hr hp ha ?_ (b5 rfl)
 rw [Dw]
 exact (aJ (jz (s:={ s with pl:=.int (i+1) }) (s':={ s with pl:=.int (i+1),pile:=p }) rfl (L5 (iY (s:={ s with pl:=.int (i+1) }) rfl hx)) hl)).trans rfl
theorem A1 (hr:s.rows=.lst rs) (hp:s.pl=.int i) (ha:dc rs i=some (.tup [.str (w "open")])) (hf:s.frs=fs++[.ref (M0.length+(t+5))]) (A:gP M0.length s.T t j l kn fl bk) (h1:s.ay.length<line) (h2:s.log.length<line) (h3:fl.length<line) :
  (aa ah (k+2)).call 19 [.ref M0.length] (s.h M0)=.ok .ai (({ s with pl:=.int (i+1), ay:=s.ay++[.bl true], log:=s.log++[.tup [.str (w "open"), .int s.ay.length]], T:=s.T.set l (.lst (fl++[.int s.ay.length])) }:Mx).h M0):=by
 refine cJ (s:=s) hr hp ha ?_ (b5 (by simp))
 rw [Dv]
 have e1:ev (aa ah (k+1)) Jt [some (.ref M0.length), some (.tup [.str (w "open")]), some (.str (w "open"))] (({ s with pl:=.int (i+1) }:Mx).h M0)=.ok (.ref (M0.length+(l+5))) (({ s with pl:=.int (i+1) }:Mx).h M0):=Ir (s:={ s with pl:=.int (i+1) }) A (nq rfl hf)
 have e2:ev (aa ah (k+1)) (.dS 1 10 (w "open_field") (.v 0) .nil) [some (.ref M0.length), some (.tup [.str (w "open")]), some (.str (w "open"))] (({ s with pl:=.int (i+1) }:Mx).h M0)=.ok (.int s.ay.length) (({ s with pl:=.int (i+1), ay:=s.ay++[.bl true], log:=s.log++[.tup [.str (w "open"), .int s.ay.length]] }:Mx).h M0) :=
  (u_ (s:={ s with pl:=.int (i+1) }) rfl (by decide +kernel)).trans (yY (s:={ s with pl:=.int (i+1) }) h1 h2)
 have e3:=dP e1 (gT.trans A.fl) e2 (gT.trans A.fl) h3
 rw [sT] at e3
 exact (aJ e3).trans rfl
theorem A0 (hr:s.rows=.lst rs) (hp:s.pl=.int i) (ha:dc rs i=some (.tup [.str (w "shut")])) (hf:s.frs=fs++[.ref (M0.length+(t+5))]) (A:gP M0.length s.T t j l kn (fl++[.int f]) bk) (h1:f<s.ay.length) (h2:s.log.length<line) :
  (aa ah (k+2)).call 19 [.ref M0.length] (s.h M0)=.ok .ai (({ s with pl:=.int (i+1), ay:=s.ay.set f (.bl false), log:=s.log++[.tup [.str (w "shut"), .int f]], T:=s.T.set l (.lst fl) }:Mx).h M0):=by
 refine cJ (s:=s) hr hp ha ?_ (b5 (by simp))
 rw [Du]
 have e1:ev (aa ah (k+1)) Jt [some (.ref M0.length), some (.tup [.str (w "shut")]), some (.str (w "shut"))] (({ s with pl:=.int (i+1) }:Mx).h M0)=.ok (.ref (M0.length+(l+5))) (({ s with pl:=.int (i+1) }:Mx).h M0):=Ir (s:={ s with pl:=.int (i+1) }) A (nq rfl hf)
 have e2:=jA e1 (gT.trans A.fl)
 rw [sT] at e2
 exact (kJ (s:={ s with pl:=.int (i+1) }) (s':={ s with pl:=.int (i+1),T:=s.T.set l (.lst fl) }) rfl (by decide +kernel) (LP e2) (yX (s:={ s with pl:=.int (i+1),T:=s.T.set l (.lst fl) }) h1 h2)).trans rfl
end
end bI
end
section
namespace bI
open Fg PySem
structure Fm where
 kn:List D
 fl:List Nat
 bk:D
structure Ms where
 pile:List D
 frs:List Fm
 ay:List Bool
 log:List D
 bg:Int
 pl:D
inductive Rw where
 | num (i:Int)
 | loc (n:Nat)
 | keep
 | lay (c:Bool) (i:Nat)
 | look (h t:Bool)
 | nil
 | none
 | ay
 | nO
 | back
noncomputable def layW (c:Bool):Str:=if c then w "cons" else w "pair"
noncomputable def kZ (h t:Bool):Str:=if h then (if t then w "tail" else w "head") else (if t then w "second" else w "first")
noncomputable def Rw.d:Rw->D
 | .num i=>.tup [.str (w "number"), .int i]
 | .loc n=>.tup [.str (w "local"), .int n]
 | .keep=>.tup [.str (w "keep")]
 | .lay c i=>.tup [.str (layW c),.int i]
 | .look h t=>.tup [.str (kZ h t)]
 | .nil=>.tup [.str (w "nil")]
 | .none=>.tup [.str (w "none")]
 | .ay=>.tup [.str (w "open")]
 | .nO=>.tup [.str (w "shut")]
 | .back=>.tup [.str (w "back")]
inductive Rz where
 | ok (s:Ms)
 | exc (c:Nat)
 | bad
noncomputable def lim:Nat:=900000
noncomputable def uO (xs:List D):Option (List D×D):=match xs.getLast? with
 | some x=>some (xs.dropLast,x)
 | none=>none
theorem GY {xs p:List D} {x:D} (h:uO xs=some (p,x)):xs=p++[x]:=by
 unfold uO at h
 split at h
 ·rename_i y hy
  cases h
  obtain ⟨ys,rfl⟩:=List.getLast?_eq_some_iff.mp hy
  simp
 ·cases h
noncomputable def Ao:D->Option (D×D×Nat)
 | .tup [_,_,a,b,.int f]=>some (a,b,f.toNat)
 | _=>none
theorem Cz {xs:List Nat} {x:Nat} (h:xs.getLast? = some x):xs=xs.dropLast++[x]:=by
 obtain ⟨ys,rfl⟩:=List.getLast?_eq_some_iff.mp h
 simp
noncomputable def di {α:Type} (o:Option α) (k:α->Rz):Rz:=match o with | some a=>k a | none=>.bad
@[irreducible] noncomputable def dX (xs:List D) (k:List D->D->Rz):Rz:=di (uO xs) fun q=>k q.1 q.2
noncomputable def Sm (P:Ms->Prop) (X:Nat->Prop):Rz->Prop
 | .ok s=>P s
 | .exc c=>X c
 | .bad=>True
section
variable {P:Ms->Prop} {X:Nat->Prop}
theorem sm_get {α:Type} {o:Option α} {k:α->Rz} (h:∀ a,o=some a->Sm P X (k a)):Sm P X (di o k):=by
 cases o with
 | none=>exact True.intro
 | some a=>exact h a rfl
theorem iG {xs:List D} {k:List D->D->Rz} (h:∀ p x,xs=p++[x]->Sm P X (k p x)):Sm P X (dX xs k):=by
 unfold dX
 exact sm_get fun q hq=>h q.1 q.2 (GY hq)
theorem pP {c:Prop} [Decidable c] {a b:Rz} (h1:c->Sm P X a) (h2:¬ c->Sm P X b):Sm P X (if c then a else b):=by
 by_cases h:c
 ·rw [if_pos h];exact h1 h
 ·rw [if_neg h];exact h2 h
end
noncomputable def wm (most:Int) (r:Rw) (s:Ms) (f:Fm) (fs:List Fm):Rz:=match r with
 | .num i=>.ok { s with pile:=s.pile++[.int i] }
 | .loc n=>di f.kn[n]? fun x=>.ok { s with pile:=s.pile++[x] }
 | .keep=>dX s.pile fun p x=>.ok { s with pile:=p,frs:={ f with kn:=f.kn++[x] }::fs }
 | .lay c i=>dX s.pile fun p1 b=>dX p1 fun p a=>di f.fl[i]? fun n=>di s.ay[n]? fun o =>
   if 1000<1+cD a+cD b then .exc 1 else if o=true then .ok { s with pile:=p++[.tup [.str (layW c), .int (1+cD a+cD b), a, b, .int n]], log:=s.log++[.tup [.str (w "lay"), .int n]] } else .bad
 | .look h t=>dX s.pile fun p v=>di (Ao v) fun q=>di s.ay[q.2.2]? fun o =>
   if o=true then .ok { s with pile:=p++[if t then q.2.1 else q.1], log:=s.log++[.tup [.str (w "look"), .int q.2.2]] } else .bad
 | .nil=>.ok { s with pile:=s.pile++[.ai] }
 | .none=>dX s.pile fun p x=>.ok { s with pile:=p++[.int (if dY x then 1 else 0)] }
 | .ay=>.ok { s with ay:=s.ay++[true], log:=s.log++[.tup [.str (w "open"), .int s.ay.length]], frs:={ f with fl:=f.fl++[s.ay.length] }::fs }
 | .nO=>di f.fl.getLast? fun n=>if n<s.ay.length then .ok { s with ay:=s.ay.set n false, log:=s.log++[.tup [.str (w "shut"), .int n]], frs:={ f with fl:=f.fl.dropLast }::fs } else .bad
 | .back=>.ok { s with pl:=f.bk,frs:=fs }
noncomputable def fits (s:Ms) (f:Fm) (fs:List Fm):Prop:=s.pile.length<lim/\s.ay.length<lim/\s.log.length<lim/\f.kn.length<lim/\f.fl.length<lim/\fs.length<lim
noncomputable instance (s:Ms) (f:Fm) (fs:List Fm):Decidable (fits s f fs):=inferInstanceAs (Decidable (_/\_))
noncomputable def K5 (most:Int) (r:Rw) (s:Ms):Rz:=match s.frs with
 | []=>.bad
 | f::fs=>if fits s f fs then wm most r s f fs else .bad
noncomputable abbrev ix:=Nat×Nat×Nat
noncomputable def nats (ns:List Nat):List D:=ns.map fun (n:Nat)=>D.int n
noncomputable def frR (n:Nat) (q:ix):D:=.ref (n+(q.1+5))
inductive Frs (n:Nat) (T:MH):List ix->List Fm->Prop
 | nil:Frs n T [] []
 | cons {q:ix} {qs:List ix} {f:Fm} {fs:List Fm}:gP n T q.1 q.2.1 q.2.2 f.kn (nats f.fl) f.bk->Frs n T qs fs->Frs n T (q::qs) (f::fs)
noncomputable def ixs (qs:List ix):List Nat:=qs.flatMap fun q=>[q.1,q.2.1,q.2.2]
structure Rep (n:Nat) (s:Ms) (x:Mx) (qs:List ix):Prop where
 pile:x.pile=s.pile
 ay:x.ay=s.ay.map D.bl
 log:x.log=s.log
 bg:x.bg=s.bg
 pl:x.pl=s.pl
 frs:x.frs=(qs.map (frR n)).reverse
 at_:Frs n x.T qs s.frs
 nd:(ixs qs).Nodup
 lt:∀ i∈ixs qs,i<x.T.length
 pv:∀ v∈s.pile,Vl v
 fv:∀ f∈s.frs,∀ v∈f.kn,Vl v
theorem Frs.set {n:Nat} {T:MH} {j:Nat} {o:MO} {qs:List ix} {fs:List Fm} (h:Frs n T qs fs) (hj:j∉ixs qs):Frs n (T.set j o) qs fs:=by
 induction h with
 | nil=>exact .nil
 | @cons q qs f fs a _ ih =>
  have h0:j≠q.1/\j≠q.2.1/\j≠q.2.2/\j∉ixs qs:=by
   simp only [ixs,List.flatMap_cons,List.mem_append,List.mem_cons,List.not_mem_nil,or_false,not_or] at hj
   exact ⟨hj.1.1,hj.1.2.1,hj.1.2.2,hj.2⟩
  exact .cons ⟨by rw [List.getElem?_set_ne h0.1];exact a.at_,by rw [List.getElem?_set_ne h0.2.1];exact a.kn,by rw [List.getElem?_set_ne h0.2.2.1];exact a.fl⟩ (ih h0.2.2.2)
theorem Frs.app {n:Nat} {T X:MH} {qs:List ix} {fs:List Fm} (h:Frs n T qs fs):Frs n (T++X) qs fs:=by
 have up:∀ {i:Nat} {o:MO},T[i]? = some o->(T++X)[i]? = some o:=fun {i o} e=>by rw [List.getElem?_append_left (List.getElem?_eq_some_iff.mp e).1];exact e
 induction h with
 | nil=>exact .nil
 | cons a _ ih=>exact .cons ⟨up a.at_,up a.kn,up a.fl⟩ ih
theorem Frs.len {n:Nat} {T:MH} {qs:List ix} {fs:List Fm} (h:Frs n T qs fs):qs.length=fs.length:=by
 induction h with
 | nil=>rfl
 | cons _ _ ih=>simp [ih]
theorem qp {q:ix} {qs:List ix}:ixs (q::qs)=q.1::q.2.1::q.2.2::ixs qs:=rfl
theorem Frs.kn {n:Nat} {T:MH} {q:ix} {qs:List ix} {f:Fm} {fs:List Fm} {kn:List D} (h:Frs n T (q::qs) (f::fs)) (nd:(ixs (q::qs)).Nodup):Frs n (T.set q.2.1 (.lst kn)) (q::qs) ({ f with kn:=kn }::fs):=by
 cases h with
 | cons a r =>
  rw [qp] at nd
  simp only [List.nodup_cons,List.mem_cons,not_or] at nd
  obtain ⟨⟨n1,n2,n3⟩,⟨n4,n5⟩,n6,n7⟩:=nd
  exact .cons ⟨by rw [List.getElem?_set_ne (Ne.symm n1)];exact a.at_,j8 a.kn,by rw [List.getElem?_set_ne n4];exact a.fl⟩ (r.set n5)
theorem Frs.fl {n:Nat} {T:MH} {q:ix} {qs:List ix} {f:Fm} {fs:List Fm} {fl:List Nat} (h:Frs n T (q::qs) (f::fs)) (nd:(ixs (q::qs)).Nodup):Frs n (T.set q.2.2 (.lst (nats fl))) (q::qs) ({ f with fl:=fl }::fs):=by
 cases h with
 | cons a r =>
  rw [qp] at nd
  simp only [List.nodup_cons,List.mem_cons,not_or] at nd
  obtain ⟨⟨n1,n2,n3⟩,⟨n4,n5⟩,n6,n7⟩:=nd
  exact .cons ⟨by rw [List.getElem?_set_ne (Ne.symm n2)];exact a.at_,by rw [List.getElem?_set_ne (Ne.symm n4)];exact a.kn,j8 a.fl⟩ (r.set n6)
theorem kW {ns:List Nat} {i n:Nat} (h:ns[i]? = some n):dc (nats ns) (i:Int)=some (.int n):=cz (by rw [nats,List.getElem?_map,h];rfl)
theorem nU {bs:List Bool} {i:Nat} {b:Bool} (h:bs[i]? = some b):(bs.map D.bl)[i]? = some (.bl b):=by rw [List.getElem?_map,h];rfl
theorem ID {v a b:D} {n:Nat} (hv:Vl v) (h:Ao v=some (a,b,n)):∃ c sz,v=.tup [.str c,.int sz,a,b,.int n]/\Vl a/\Vl b:=by
 cases hv with
 | int i=>cases h
 | ai=>cases h
 | cell h1 h2 va vb =>
  simp only [Ao,Int.toNat_natCast,Option.some.injEq,Prod.mk.injEq] at h
  obtain ⟨rfl,rfl,rfl⟩:=h
  exact ⟨_,_,rfl,va,vb⟩
theorem Cy (c:Bool):an w3 (layW c)=true/\an w1 (layW c)=false/\an w2 (layW c)=false/\(layW c).length<=100000:=by cases c <;> decide +kernel
theorem za (h t:Bool):an w4 (kZ h t)=true/\an w1 (kZ h t)=false/\an w2 (kZ h t)=false/\an w3 (kZ h t)=false/\([w "first", w "head"].any fun y=>decide (y=kZ h t))=!t:=by cases h <;> cases t <;> decide +kernel
theorem gi {n:Nat} (h:n<lim):n<line:=Nat.lt_of_lt_of_le h (by decide)
section
variable {M0:MH} {s:Mx} {a bk:D} {rs fs kn fl p xs ys:List D} {t k l j n:Nat} {i:Int} {is:List Int}
end
theorem sim {M0:MH} {s:Ms} {x:Mx} {qs:List ix} {rs:List Rw} {r:Rw} {i k:Nat} (R:Rep M0.length s x qs) (hr:x.rows=.lst (rs.map Rw.d)) (hi:s.pl=.int i) (hg:rs[i]? = some r) :
  Sm (fun s'=>∃ x' Ko,(aa ah (k+5)).call 19 [.ref M0.length] (x.h M0)=.ok .ai (x'.h M0)/\Rep M0.length s' x' Ko/\x'.rows=x.rows/\x'.most=x.most)
   (fun c=>∃ x':Mx,(aa ah (k+5)).call 19 [.ref M0.length] (x.h M0)=.exc c (x'.h M0)) (K5 x.most r { s with pl:=.int ((i:Int)+1) }):=by
 obtain ⟨pile,frs,ay,log,bg,pl⟩:=s
 cases (show pl=.int i from hi)
 have ha:dc (rs.map Rw.d) (i:Int)=some r.d:=cz (by rw [List.getElem?_map,hg];rfl)
 have hp:x.pl=.int (i:Int):=R.pl
 cases frs with
 | nil=>exact True.intro
 | cons f fs =>
  obtain ⟨fM,gY,kL,AJ,rpl,mq,rat,vV,AI,ux,uy⟩:=R
  refine pP (fun hl=>?_) fun _=>True.intro
  obtain ⟨l1,l2,l3,l4,l5,l6⟩:=hl
  cases qs with
  | nil=>cases rat
  | cons q qs =>
   have nR:=rat
   cases rat with
   | cons A rr =>
    have hfr:x.frs=(qs.map (frR M0.length)).reverse++[.ref (M0.length+(q.1+5))]:=by rw [mq,List.map_cons,List.reverse_cons];rfl
    have lp:x.pile.length<line:=by rw [fM];exact gi l1
    have ll:x.log.length<line:=by rw [kL];exact gi l3
    have lo:x.ay.length<line:=by rw [gY,List.length_map];exact gi l2
    have big:∀ {n:Nat} {b:Bool},ay[n]? = some b->n<18446744073709551616:=fun {n b} h =>
     Nat.lt_of_lt_of_le (Nat.lt_trans (List.getElem?_eq_some_iff.mp h).1 l2) (by decide)
    cases r with
    | num n=>exact ⟨_,q::qs,vQ hr hp ha hfr lp,⟨congrArg (·++_) fM,gY,kL,AJ,rfl,mq,nR,vV,AI,fun v hv=>(List.mem_append.mp hv).elim (ux v) fun z=>by rw [List.mem_singleton.mp z];exact .int n,uy⟩,rfl,rfl⟩
    | loc n =>
     refine sm_get fun y hn=>?_
     exact ⟨_,q::qs,xQ hr hp ha hfr A (cz hn) lp,⟨congrArg (·++_) fM,gY,kL,AJ,rfl,mq,nR,vV,AI,fun v hv=>(List.mem_append.mp hv).elim (ux v) fun z=>by rw [List.mem_singleton.mp z];exact uy f List.mem_cons_self y (List.mem_of_getElem? hn),uy⟩,rfl,rfl⟩
    | keep =>
     refine iG fun p y e=>?_
     cases (show pile=p++[y] from e)
     refine ⟨_,q::qs,A5 hr hp ha hfr A fM (gi l4),⟨rfl,gY,kL,AJ,rfl,mq,nR.kn vV,vV,by simpa using AI,fun v hv=>ux v (List.mem_append_left _ hv),fun g hg v hv=>?_⟩,rfl,rfl⟩
     rcases List.mem_cons.mp hg with rfl | hg
     ·exact (List.mem_append.mp hv).elim (uy f List.mem_cons_self v) fun z=>ux v (List.mem_append_right _ z)
     ·exact uy g (List.mem_cons_of_mem _ hg) v hv
    | back=>exact ⟨_,qs,A6 hr hp ha hfr A,⟨fM,gY,kL,AJ,rfl,rfl,rr,(List.nodup_cons.mp (List.nodup_cons.mp (List.nodup_cons.mp vV).2).2).2,fun i hi=>AI i (List.mem_cons_of_mem _ (List.mem_cons_of_mem _ (List.mem_cons_of_mem _ hi))),ux,fun g hg=>uy g (List.mem_cons_of_mem _ hg)⟩,rfl,rfl⟩
    | nil=>exact ⟨_,q::qs,Fb hr hp ha lp,⟨congrArg (·++_) fM,gY,kL,AJ,rfl,mq,nR,vV,AI,fun v hv=>(List.mem_append.mp hv).elim (ux v) fun z=>by rw [List.mem_singleton.mp z];exact .ai,uy⟩,rfl,rfl⟩
    | none =>
     refine iG fun p y e=>?_
     cases (show pile=p++[y] from e)
     have Lp:p.length<line:=by have:=gi l1;rw [List.length_append] at this;omega
     exact ⟨_,q::qs,A2 hr hp ha fM Lp,⟨rfl,gY,kL,AJ,rfl,mq,nR,vV,AI,fun v hv=>(List.mem_append.mp hv).elim (fun z=>ux v (List.mem_append_left _ z)) fun z=>by rw [List.mem_singleton.mp z];exact .int _,uy⟩,rfl,rfl⟩
    | ay =>
     have hlo:x.ay.length=ay.length:=by rw [gY,List.length_map]
     have e:nats (f.fl++[ay.length])=nats f.fl++[.int (x.ay.length:Nat)]:=by rw [hlo];simp [nats]
     have st:=A1 (k:=k+3) hr hp ha hfr A lo ll (by rw [nats,List.length_map];exact gi l5)
     rw [<- e] at st
     exact ⟨_,q::qs,st,⟨fM,by rw [gY];simp,by rw [hlo,kL],AJ,rfl,mq,nR.fl vV,vV,by simpa using AI,ux,fun g hg v hv=>by
      rcases List.mem_cons.mp hg with rfl | hg
      ·exact uy f List.mem_cons_self v hv
      ·exact uy g (List.mem_cons_of_mem _ hg) v hv⟩,rfl,rfl⟩
    | nO =>
     refine sm_get fun n hn=>pP (fun hlt=>?_) fun _=>True.intro
     have e:=Cz hn
     have A':gP M0.length x.T q.1 q.2.1 q.2.2 f.kn (nats f.fl.dropLast++[.int n]) f.bk:=by
      have e2:nats f.fl=nats f.fl.dropLast++[.int n]:=by rw [e];simp [nats]
      rw [e2] at A;exact A
     have st:=A0 (k:=k+3) hr hp ha hfr A' (by rw [gY,List.length_map];exact hlt) ll
     exact ⟨_,q::qs,st,⟨fM,by rw [gY,List.map_set],by rw [kL],AJ,rfl,mq,nR.fl vV,vV,by simpa using AI,ux,fun g hg v hv=>by
      rcases List.mem_cons.mp hg with rfl | hg
      ·exact uy f List.mem_cons_self v hv
      ·exact uy g (List.mem_cons_of_mem _ hg) v hv⟩,rfl,rfl⟩
    | lay c n =>
     refine iG fun p1 b e1=>iG fun p a e2=>sm_get fun m hm=>sm_get fun o ho=>?_
     cases e2
     cases (show pile=p++[a]++[b] from e1)
     obtain ⟨z1,z2,z3,z4⟩:=Cy c
     have va:Vl a:=ux a (by simp)
     have vb:Vl b:=ux b (by simp)
     have ho':=nU ho
     rw [<- gY] at ho'
     have Lp:p.length<line:=by have:=gi l1;simp only [List.length_append] at this;omega
     refine pP (fun hs=>⟨_,A4 (k:=k+1) z1 z2 z3 z4 hr hp ha hfr A (kW hm) va vb fM hs⟩) fun hs=>pP (fun h1=>?_) fun _=>True.intro
     ·subst h1
      have sa:=va.sz
      have sb:=vb.sz
      refine ⟨_,q::qs,Fc (k:=k+1) z1 z2 z3 z4 hr hp ha hfr A (kW hm) va vb fM hs ho' (big ho) ll Lp,⟨rfl,gY,by rw [kL],AJ,rfl,mq,nR,vV,AI,fun v hv=>(List.mem_append.mp hv).elim (fun z=>ux v (by simp [z])) fun z=>?_,uy⟩,rfl,rfl⟩
      rw [List.mem_singleton.mp z]
      exact .cell (by omega) (by omega) va vb
    | look h t =>
     refine iG fun p v e1=>sm_get fun ab hab=>sm_get fun o ho=>?_
     cases (show pile=p++[v] from e1)
     obtain ⟨a,b,m⟩:=ab
     obtain ⟨c,sz,rfl,va,vb⟩:=ID (ux v (by simp)) hab
     obtain ⟨z1,z2,z3,z4,z5⟩:=za h t
     have ho':=nU ho
     rw [<- gY] at ho'
     have Lp:p.length<line:=by have:=gi l1;simp only [List.length_append] at this;omega
     refine pP (fun h1=>?_) fun _=>True.intro
     ·subst h1
      have st:=A3 (M0:=M0) (k:=k+1) z1 z2 z3 z4 z5 hr hp ha va vb fM ho' (big ho) ll Lp
      have e:(if (!t)=true then a else b)=if t=true then b else a:=by cases t <;> rfl
      rw [e] at st
      refine ⟨_,q::qs,st,⟨rfl,gY,by rw [kL],AJ,rfl,mq,nR,vV,AI,fun v hv=>(List.mem_append.mp hv).elim (fun z=>ux v (List.mem_append_left _ z)) fun z=>?_,uy⟩,rfl,rfl⟩
      rw [List.mem_singleton.mp z]
      cases t
      ·exact va
      ·exact vb
end bI
end
section
namespace bI
open Fg PySem
noncomputable def tV (r:Rz) (k:Ms->Rz):Rz:=match r with
 | .ok s=>k s
 | .exc c=>.exc c
 | .bad=>.bad
theorem A9 {P P':Ms->Prop} {X X':Nat->Prop} {r:Rz} {k:Ms->Rz} (h:Sm P X r) (h1:∀ s,P s->Sm P' X' (k s)) (h2:∀ c,X c->X' c):Sm P' X' (tV r k):=by
 cases r with
 | ok s=>exact h1 s h
 | exc c=>exact h2 c h
 | bad=>exact True.intro
noncomputable def F8 (d:D):Option Nat:=match d with
 | .int i=>if 0<=i then some i.toNat else none
 | _=>none
theorem Ks {d:D} {j:Nat} (h:F8 d=some j):d=.int j:=by
 cases d with
 | int i =>
  simp only [F8] at h
  split at h
  ·rename_i h0;cases h;rw [Int.toNat_of_nonneg h0]
  ·cases h
 | _=>cases h
noncomputable def go (rs:List Rw) (most:Int):Nat->Ms->Rz
 | 0,_=>.bad
 | n+1,s=>bif s.frs.isEmpty then .ok s else di (F8 s.pl) fun i=>di rs[i]? fun r=>tV (K5 most r { s with pl:=.int ((i:Int)+1) }) (go rs most n)
noncomputable def eW:E:=.cmp .ne (.fld (.v 3) (w "frames")) (.lst true .nil)
noncomputable def bW:Ss:=.cons (.ex (.dS 1 19 (w "step") (.v 3) .nil)) .nil
theorem cond {Φ:aY} {σ:Sg} {M0:MH} {x:Mx} (h:σ[3]? = some (some (.ref M0.length))) (hr:∀ d∈x.frs,∃ n,d=.ref n):ev Φ eW σ (x.h M0)=.ok (.bl (!x.frs.isEmpty)) (x.h M0):=by
 unfold eW
 rw [eB,iU h,R.af,sW,cy,R.af]
 show bu .ne (x.h M0) (.ref (M0.length+2)) (.lst [])=_
 have e1:top (x.h M0) (.ref (M0.length+2))=.lst x.frs:=by simp only [top,g2]
 have e2:top (x.h M0) (.lst [])=.lst []:=rfl
 have e3:kU (x.h M0) (.ref (M0.length+2)) (.lst [])=some x.frs.isEmpty:=by simp only [kU,vw,g2];rfl
 show wj (x.h M0) (.ref (M0.length+2)) (.lst [])=_
 unfold wj
 rw [e1,e2,e3]
 cases hx:x.frs with
 | nil=>rfl
 | cons d ds =>
  obtain ⟨n,rfl⟩:=hr d (by rw [hx];exact List.mem_cons_self)
  rfl
theorem zN {n:Nat} {s:Ms} {x:Mx} {qs:List ix} (R:Rep n s x qs):∀ d∈x.frs,∃ m,d=.ref m:=by
 intro d hd
 rw [R.frs,List.mem_reverse,List.mem_map] at hd
 obtain ⟨q,_,rfl⟩:=hd
 exact ⟨_,rfl⟩
theorem wK {n:Nat} {s:Ms} {x:Mx} {qs:List ix} (R:Rep n s x qs):x.frs.isEmpty=s.frs.isEmpty:=by
 have e:=R.at_.len
 rw [R.frs]
 cases qs <;> cases hs:s.frs <;> rw [hs] at e <;> first | rfl | (simp at e;done) | simp
theorem loop {M0:MH} {rs:List Rw} {σ:Sg} {k:Nat} (hσ:σ[3]? = some (some (.ref M0.length))):∀ (n N:Nat) (s:Ms) (x:Mx) (qs:List ix),n<=N->Rep M0.length s x qs->x.rows=.lst (rs.map Rw.d) ->
  Sm (fun s'=>∃ x' Ko,aA (ev (aa ah (k+5)) eW) (exs (aa ah (k+5)) bW) N σ (x.h M0)=.ok (.nx σ) (x'.h M0)/\Rep M0.length s' x' Ko/\x'.most=x.most)
   (fun c=>∃ x':Mx,aA (ev (aa ah (k+5)) eW) (exs (aa ah (k+5)) bW) N σ (x.h M0)=.ok (.xc c σ) (x'.h M0)) (go rs x.most n s)
 | 0,N,s,x,qs,_,_,_=>True.intro
 | n+1,0,s,x,qs,h,_,_=>absurd h (by omega)
 | n+1, N+1, s, x, qs, h, Rp, hr=>by
  have hc:=cond (Φ:=aa ah (k+5)) hσ (zN Rp)
  rw [wK Rp] at hc
  have hg:go rs x.most (n+1) s=bif s.frs.isEmpty then .ok s else di (F8 s.pl) fun i=>di rs[i]? fun r=>tV (K5 x.most r { s with pl:=.int ((i:Int)+1) }) (go rs x.most n):=rfl
  rw [hg]
  cases hf:s.frs.isEmpty with
  | true =>
   rw [hf] at hc
   refine ⟨x,qs,?_,Rp,rfl⟩
   rw [aA,hc];rfl
  | false =>
   rw [hf] at hc
   have Jo:aA (ev (aa ah (k+5)) eW) (exs (aa ah (k+5)) bW) (N+1) σ (x.h M0)=(exs (aa ah (k+5)) bW σ (x.h M0)).bind fun o M1=>match o with
    | .nx σ2=>aA (ev (aa ah (k+5)) eW) (exs (aa ah (k+5)) bW) N σ2 M1
    | .ct σ2=>aA (ev (aa ah (k+5)) eW) (exs (aa ah (k+5)) bW) N σ2 M1
    | .bk σ2=>.ok (.nx σ2) M1
    | .rt r=>.ok (.rt r) M1
    | .xc c σ2=>.ok (.xc c σ2) M1:=by rw [aA,hc];rfl
   have hb:∀ r:Fg.R D, (aa ah (k+5)).call 19 [.ref M0.length] (x.h M0)=r->ev (aa ah (k+5)) (.dS 1 19 (w "step") (.v 3) .nil) σ (x.h M0)=r:=fun r e=>(u_ (nm:=w "step") hσ (by decide +kernel)).trans e
   refine sm_get fun i hp=>sm_get fun r hg=>A9 (sim (k:=k) Rp hr (Ks hp) hg) (fun s' ⟨x',Ko,e,R',r1,r2⟩=>?_) fun c ⟨x',e⟩=>⟨x',?_⟩
   ·have ih:=loop (k:=k) hσ n N s' x' Ko (by omega) R' (r1.trans hr)
    rw [r2] at ih
    have e2:aA (ev (aa ah (k+5)) eW) (exs (aa ah (k+5)) bW) (N+1) σ (x.h M0)=aA (ev (aa ah (k+5)) eW) (exs (aa ah (k+5)) bW) N σ (x'.h M0):=by
     rw [Jo,bW,aJ (hb _ e)];rfl
    rw [e2]
    exact ih
   ·rw [Jo,bW,uu (hb _ e)];rfl
end bI
end
section
namespace bI
open Fg PySem
inductive pB {α β:Type} (R:α->β->Prop):List α->List β->Prop
 | nil:pB R [] []
 | cons {a:α} {b:β} {as:List α} {bs:List β}:R a b->pB R as bs->pB R (a::as) (b::bs)
theorem pB.imp {α β:Type} {R S:α->β->Prop} (h:∀ a b,R a b->S a b):∀ {as:List α} {bs:List β},pB R as bs->pB S as bs
 | _,_,.nil=>.nil
 | _,_,.cons a r=>.cons (h _ _ a) (r.imp h)
noncomputable def Sh (lo:Nat) (M:MH):Nat->D->D->Prop
 | 0,_,_=>False
 | n+1,y,d=>(∃ i,y=.int i/\d=.int i)\/(∃ a b x z,y=.tup [a,b]/\d=.tup [x,z]/\Sh lo M n a x/\Sh lo M n b z)\/∃ r ys xs,y=.ref r/\d=.lst xs/\lo<=r/\M[r]? = some (.lst ys)/\pB (Sh lo M n) ys xs
theorem Sh.mono {lo lo':Nat} {M M':MH} (hl:lo'<=lo) (h:∀ n o,lo<=n->M[n]? = some o->M'[n]? = some o):∀ {n:Nat} {y d:D},Sh lo M n y d->Sh lo' M' n y d
 | 0,_,_,q=>q.elim
 | n+1,y,d,q=>by
  rcases q with q | ⟨a,b,x,z,h1,h2,h3,h4⟩ | ⟨r,ys,xs,h1,h2,h3,h4,h5⟩
  ·exact .inl q
  ·exact .inr (.inl ⟨a,b,x,z,h1,h2,Sh.mono hl h h3,Sh.mono hl h h4⟩)
  ·exact .inr (.inr ⟨r,ys,xs,h1,h2,Nat.le_trans hl h3,h _ _ h3 h4,h5.imp fun _ _=>Sh.mono hl h⟩)
theorem all_map {M:MH} {lo n:Nat} (ih:∀ y d,Sh lo M n y d->deep n M y=d):∀ {ys xs:List D},pB (Sh lo M n) ys xs->ys.map (deep n M)=xs
 | _,_,.nil=>rfl
 | _,_,.cons a r=>by rw [List.map_cons,ih _ _ a,all_map ih r]
theorem Sh.deep {lo:Nat} {M:MH}:∀ {n:Nat} {y d:D},Sh lo M n y d->Fg.deep n M y=d
 | 0,_,_,q=>q.elim
 | n+1,y,d,q=>by
  rcases q with ⟨i,rfl,rfl⟩ | ⟨a,b,x,z,rfl,rfl,h3,h4⟩ | ⟨r,ys,xs,rfl,rfl,h3,h4,h5⟩
  ·rfl
  ·simp only [Fg.deep,List.map_cons,List.map_nil,Sh.deep h3,Sh.deep h4]
  ·simp only [Fg.deep,h4]
   rw [all_map (fun _ _=>Sh.deep) h5]
inductive Ju (R:D->D->Prop):D->List D->Prop
 | nil:Ju R .ai []
 | cons {sz:Int} {a b x:D} {xs:List D} {f:Nat}:R a x->Ju R b xs->Ju R (.tup [.str (layW true),.int sz,a,b,.int f]) (x::xs)
noncomputable def Tl:Nat->D->D->Prop
 | 0,_,_=>False
 | n+1,v,d=>(∃ i,v=.int i/\d=.int i)\/(∃ sz a b x y,∃ f:Nat,v=.tup [.str (layW false),.int sz,a,b,.int f]/\d=.tup [x,y]/\Tl n a x/\Tl n b y)\/∃ xs,d=.lst xs/\xs.length<2000/\Ju (Tl n) v xs
noncomputable def lE:E:=.cmp .iK (.v 0) (.k .ai)
noncomputable def lB:Ss:=.cons (.ex (.aG .append true (.v 1) (.cons (.call 5 (.cons (.idx (.v 0) (.k (.int 2))) .nil)) .nil))) (.cons (.set 0 (.idx (.v 0) (.k (.int 3)))) .nil)
section
variable {k:Nat}
theorem vN {n:Nat} {M:MH} (ih:∀ (v d:D) (M:MH),Tl n v d->∃ y X,(aa ah (k+n)).call 5 [v] M=.ok y (M++X)/\Sh M.length (M++X) n y d):∀ (v:D) (xs:List D) (acc:List D) (X:MH) (N:Nat),Ju (Tl n) v xs->xs.length<N->acc.length+xs.length<100000 ->
  ∃ v' ys Z,aA (ev (aa ah (k+n)) lE) (exs (aa ah (k+n)) lB) N [some v,some (.ref M.length)] (M++.lst acc::X)=.ok (.nx [some v',some (.ref M.length)]) (M++.lst (acc++ys)::(X++Z))/\pB (Sh (M.length+1) (M++.lst (acc++ys)::(X++Z)) n) ys xs:=by
 intro v xs acc X N h
 induction h generalizing acc X N with
 | nil =>
  intro hN _
  obtain ⟨N,rfl⟩:∃ m,N=m+1:=⟨N-1,by omega⟩
  exact ⟨.ai,[],[],by rw [aA,List.append_nil,List.append_nil];rfl,.nil⟩
 | @cons sz a b x xs f ha _ ih2 =>
  intro hN hl
  simp only [List.length_cons] at hN hl
  obtain ⟨N,rfl⟩:∃ m,N=m+1:=⟨N-1,by omega⟩
  obtain ⟨y,X1,q1,q2⟩:=ih a x (M++.lst acc::X) ha
  have eM:M++MO.lst acc::X++X1=M++.lst acc::(X++X1):=by simp
  rw [eM] at q1 q2
  have g0:(M++MO.lst acc::X)[M.length]? = some (.lst acc):=by simp
  have g:(M++MO.lst acc::(X++X1))[M.length]? = some (.lst acc):=by simp
  have ec:ev (aa ah (k+n)) (.call 5 (.cons (.idx (.v 0) (.k (.int 2))) .nil)) [some (.tup [.str (layW true),.int sz,a,b,.int f]),some (.ref M.length)] (M++.lst acc::X)=.ok y (M++.lst acc::(X++X1)):=(bP (aC rfl rfl jV)).trans q1
  have e1:=dP (Φ:=aa ah (k+n)) (e:=.v 1) (σ:=[some (.tup [.str (layW true),.int sz,a,b,.int f]),some (.ref M.length)]) rfl g0 ec g (Nat.lt_of_lt_of_le (by omega:acc.length<100000) (by decide))
  have es:(M++MO.lst acc::(X++X1)).set M.length (.lst (acc++[y]))=M++.lst (acc++[y])::(X++X1):=by rw [List.set_append_right _ _ (Nat.le_refl _),Nat.sub_self];rfl
  rw [es] at e1
  have e2:ev (aa ah (k+n)) (.idx (.v 0) (.k (.int 3))) [some (.tup [.str (layW true),.int sz,a,b,.int f]),some (.ref M.length)] (M++.lst (acc++[y])::(X++X1))=.ok b (M++.lst (acc++[y])::(X++X1)):=aC rfl rfl lW
  obtain ⟨v',ys,Z,e3,hs⟩:=ih2 (acc++[y]) (X++X1) N (by omega) (by simp;omega)
  have eA:acc++[y]++ys=acc++(y::ys):=by simp
  have eX:X++X1++Z=X++(X1++Z):=by simp
  rw [eA,eX] at e3 hs
  refine ⟨v',y::ys,X1++Z,?_,.cons (Sh.mono (lo:=(M++MO.lst acc::X).length) (by simp) (fun m o hm hq=>?_) q2) hs⟩
  ·have eb:exs (aa ah (k+n)) lB [some (.tup [.str (layW true),.int sz,a,b,.int f]),some (.ref M.length)] (M++.lst acc::X)=.ok (.nx [some b,some (.ref M.length)]) (M++.lst (acc++[y])::(X++X1)):=(aJ e1).trans ((aq e2).trans rfl)
   rw [aA]
   show (exs (aa ah (k+n)) lB _ (M++.lst acc::X)).bind _=_
   rw [eb]
   exact e3
  ·have hm':M.length+1<=m:=by simp at hm;omega
   rw [List.getElem?_append_right (by omega)] at hq ⊢
   obtain ⟨j,hj⟩:∃ j,m-M.length=j+1:=⟨m-M.length-1,by omega⟩
   rw [hj,List.getElem?_cons_succ] at hq ⊢
   rw [<- eX,List.getElem?_append_left (List.getElem?_eq_some_iff.mp hq).1];exact hq
theorem JD:∀ (n:Nat) (v d:D) (M:MH),Tl n v d->∃ y X,(aa ah (k+n)).call 5 [v] M=.ok y (M++X)/\Sh M.length (M++X) n y d:=by
 intro n
 induction n with
 | zero=>intro v d M h;exact h.elim
 | succ n ih =>
  intro v d M h
  rcases h with ⟨i,rfl,rfl⟩ | ⟨sz,a,b,x,y,f,rfl,rfl,h1,h2⟩ | ⟨xs,rfl,hl,h⟩
  ·refine ⟨.int i,[],?_,.inl ⟨i,rfl,rfl⟩⟩
   rw [List.append_nil]
   exact aI (P:=ah) (k:=k+n) HU rfl (bR (x:=.int i) (M1:=M) rfl rfl) rfl
  ·obtain ⟨ya,X1,q1,s1⟩:=ih a x M h1
   obtain ⟨yb,X2,q2,s2⟩:=ih b y (M++X1) h2
   refine ⟨.tup [ya,yb],X1++X2,?_,.inr (.inl ⟨ya,yb,x,y,rfl,rfl,s1.mono (Nat.le_refl _) (fun m o _ hq=>?_),s2.mono (by simp) (fun m o _ hq=>by rw [<- List.append_assoc];exact hq)⟩)⟩
   ·have e1:ev (aa ah (k+n)) (.fV (.v 0) .int) [some (.tup [.str (layW false),.int sz,a,b,.int f]),none] M=.ok (.bl false) M:=rfl
    have e2:ev (aa ah (k+n)) (.and (.cmp .iK (.v 0) (.k .ai)) (.cmp .eq (.idx (.v 0) (.k (.int 0))) (.k (.str (w "pair"))))) [some (.tup [.str (layW false), .int sz, a, b, .int f]), none] M=.ok (.bl true) M:=by
     have e:ev (aa ah (k+n)) (.cmp .eq (.idx (.v 0) (.k (.int 0))) (.k (.str (w "pair")))) [some (.tup [.str (layW false), .int sz, a, b, .int f]), none] M=.ok (.bl true) M:=bM (aC rfl rfl bf) (by decide +kernel)
     rw [jx]
     exact e
    have e3:ev (aa ah (k+n)) (.tup (.cons (.call 5 (.cons (.idx (.v 0) (.k (.int 2))) .nil)) (.cons (.call 5 (.cons (.idx (.v 0) (.k (.int 3))) .nil)) .nil))) [some (.tup [.str (layW false),.int sz,a,b,.int f]),none] M=.ok (.tup [ya,yb]) (M++X1++X2):=by
     rw [bH,lK ((bP (aC rfl rfl jV)).trans q1) ((bP (aC rfl rfl lW)).trans q2)];rfl
    rw [<- List.append_assoc]
    exact aI (P:=ah) (k:=k+n) HU rfl ((aK e1).trans (bR e2 (aP e3))) rfl
   ·rw [<- List.append_assoc,List.getElem?_append_left (List.getElem?_eq_some_iff.mp hq).1];exact hq
  ·have e1:ev (aa ah (k+n)) (.fV (.v 0) .int) [some v,none] M=.ok (.bl false) M:=by cases h <;> rfl
   have e2:ev (aa ah (k+n)) (.and (.cmp .iK (.v 0) (.k .ai)) (.cmp .eq (.idx (.v 0) (.k (.int 0))) (.k (.str (w "pair"))))) [some v, none] M=.ok (.bl false) M:=by
    cases h with
    | nil=>rfl
    | @cons sz a b x xs f _ _ =>
     have e:ev (aa ah (k+n)) (.cmp .eq (.idx (.v 0) (.k (.int 0))) (.k (.str (w "pair")))) [some (.tup [.str (layW true), .int sz, a, b, .int f]), none] M=.ok (.bl false) M:=bM (aC rfl rfl bf) (by decide +kernel)
     rw [jx]
     exact e
   have e3:ev (aa ah (k+n)) (.lst false .nil) [some v,none] M=.ok (.ref M.length) (M++[.lst []]):=rfl
   obtain ⟨v',ys,Z,e4,hs⟩:=vN (k:=k) (M:=M) ih v xs [] [] 100000 h (by omega) (by simp;omega)
   rw [List.nil_append,List.nil_append] at e4 hs
   have e5:ex (aa ah (k+n)) (.while lE lB) [some v,some (.ref M.length)] (M++[.lst []])=.ok (.nx [some v',some (.ref M.length)]) (M++.lst ys::Z):=by
    rw [bC,aO];exact e4
   refine ⟨.ref M.length,.lst ys::Z,aI (P:=ah) (k:=k+n) HU rfl ((aK e1).trans ((aK e2).trans ((aq e3).trans ((aX e5).trans (aP rfl))))) rfl,.inr (.inr ⟨M.length,ys,xs,rfl,rfl,Nat.le_refl _,by simp,hs.imp fun _ _ q=>q.mono (by omega) fun _ _ _ z=>z⟩)⟩
end
end bI
end
section
namespace bI
open Fg PySem
inductive Wa (ay:List Bool):D->Nat->Bool->Prop
 | int (i:Int):Wa ay (.int i) 1 true
 | ai:Wa ay .ai 1 true
 | cell {c:Str} {sz:Int} {a b:D} {f n1 n2:Nat} {o b1 b2:Bool}:ay[f]? = some o->Wa ay a n1 b1->Wa ay b n2 b2->Wa ay (.tup [.str c,.int sz,a,b,.int f]) (n1+n2+1) (o&&(b1&&b2))
inductive ET (ay:List Bool):List D->Nat->Bool->Prop
 | nil:ET ay [] 0 true
 | snoc {v:D} {ds:List D} {n m:Nat} {b q:Bool}:ET ay ds n b->Wa ay v m q->ET ay (ds++[v]) (n+m) (q&&b)
noncomputable def aE:E:=.cmp .ne (.v 2) (.lst true .nil)
noncomputable def aB:Ss:=.cons (.set 3 (.aG .pop true (.v 2) .nil)) (.cons (.ifs (.fV (.v 3) .tuple) (.cons (.ex (.dS 1 12 (w "want_open") (.v 0) (.cons (.idx (.v 3) (.k (.int 4))) .nil))) (.cons (.ex (.aG .extend true (.v 2) (.cons (.sl true (.v 3) (.some (.k (.int 2))) (.some (.k (.int 4)))) .nil))) .nil)) .nil) .nil)
section
variable {M0:MH} {x:Mx} {ay:List Bool} {k:Nat}
noncomputable abbrev wT (x:Mx) (ds:List D):Mx:={ x with T:=x.T++[.lst ds] }
theorem gD {ds:List D}:((wT x ds).h M0)[M0.length+(x.T.length+5)]? = some (.lst ds):=gT.trans (by show (x.T++[MO.lst ds])[x.T.length]? = _;simp)
theorem sD {ds es:List D}:((wT x ds).h M0).set (M0.length+(x.T.length+5)) (.lst es)=(wT x es).h M0:=by
 rw [sT]
 show Mx.h { x with T:=(x.T++[MO.lst ds]).set x.T.length (.lst es) } M0=_
 rw [List.set_append_right _ _ (Nat.le_refl _),Nat.sub_self];rfl
theorem Mq {Φ:aY} {a v c:Option D} {ds:List D} (hv:∃ n b,ET ay ds n b):ev Φ aE [a,v,some (.ref (M0.length+(x.T.length+5))),c] ((wT x ds).h M0)=.ok (.bl (!ds.isEmpty)) ((wT x ds).h M0):=by
 show wj ((wT x ds).h M0) (.ref (M0.length+(x.T.length+5))) (.lst [])=_
 have e1:top ((wT x ds).h M0) (.ref (M0.length+(x.T.length+5)))=.lst ds:=by simp only [top,gD]
 have e2:top ((wT x ds).h M0) (.lst [])=.lst []:=rfl
 have e3:kU ((wT x ds).h M0) (.ref (M0.length+(x.T.length+5))) (.lst [])=some ds.isEmpty:=by simp only [kU,vw,gD];rfl
 unfold wj
 rw [e1,e2,e3]
 cases hd:ds with
 | nil=>rfl
 | cons d es =>
  by_cases hc:bw (.lst (d::es)) (.lst [])=true
  ·rw [if_pos hc,cR,C7];rfl
  ·rw [if_neg hc]
theorem AV (ho:x.ay=ay.map D.bl) (hl:ay.length<lim):∀ (n:Nat) (ds:List D) (q:Bool) (N:Nat) (v c:Option D),ET ay ds n q->n<N->n<lim->ds.length+n<lim ->
  ∃ c' es,aA (ev (aa ah (k+1)) aE) (exs (aa ah (k+1)) aB) N [some (.ref M0.length),v,some (.ref (M0.length+(x.T.length+5))),c] ((wT x ds).h M0) =
   .ok (if q then .nx [some (.ref M0.length),v,some (.ref (M0.length+(x.T.length+5))),c'] else .xc 5 [some (.ref M0.length),v,some (.ref (M0.length+(x.T.length+5))),c']) ((wT x es).h M0):=by
 intro n
 induction n using Nat.strongRecOn with
 | ind n ih =>
  intro ds q N v c h hN hn hd
  obtain ⟨N,rfl⟩:∃ m,N=m+1:=⟨N-1,by omega⟩
  have hc:=Mq (Φ:=aa ah (k+1)) (M0:=M0) (x:=x) (a:=some (.ref M0.length)) (v:=v) (c:=c) ⟨n,q,h⟩
  cases h with
  | nil =>
   refine ⟨c,[],?_⟩
   rw [aA,hc];rfl
  | @snoc u ds n m b q h hu =>
   have hne:(ds++[u]).isEmpty=false:=by cases ds <;> rfl
   rw [hne] at hc
   have e1:=jA (Φ:=aa ah (k+1)) (e:=.v 2) (σ:=[some (.ref M0.length),v,some (.ref (M0.length+(x.T.length+5))),c]) rfl (gD (M0:=M0) (x:=x) (ds:=ds++[u]))
   rw [sD] at e1
   have Jo:aA (ev (aa ah (k+1)) aE) (exs (aa ah (k+1)) aB) (N+1) [some (.ref M0.length),v,some (.ref (M0.length+(x.T.length+5))),c] ((wT x (ds++[u])).h M0)=(exs (aa ah (k+1)) aB [some (.ref M0.length),v,some (.ref (M0.length+(x.T.length+5))),c] ((wT x (ds++[u])).h M0)).bind fun o M1=>match o with
    | .nx σ2=>aA (ev (aa ah (k+1)) aE) (exs (aa ah (k+1)) aB) N σ2 M1
    | .ct σ2=>aA (ev (aa ah (k+1)) aE) (exs (aa ah (k+1)) aB) N σ2 M1
    | .bk σ2=>.ok (.nx σ2) M1
    | .rt r=>.ok (.rt r) M1
    | .xc c σ2=>.ok (.xc c σ2) M1:=by rw [aA,hc];rfl
   have flat:∀ (m0:Nat),m=m0+1->ev (aa ah (k+1)) (.fV (.v 3) .tuple) [some (.ref M0.length),v,some (.ref (M0.length+(x.T.length+5))),some u] ((wT x ds).h M0)=.ok (.bl false) ((wT x ds).h M0)->q=true ->
     ∃ c' es,aA (ev (aa ah (k+1)) aE) (exs (aa ah (k+1)) aB) (N+1) [some (.ref M0.length),v,some (.ref (M0.length+(x.T.length+5))),c] ((wT x (ds++[u])).h M0) =
      .ok (if (q&&b) then .nx [some (.ref M0.length),v,some (.ref (M0.length+(x.T.length+5))),c'] else .xc 5 [some (.ref M0.length),v,some (.ref (M0.length+(x.T.length+5))),c']) ((wT x es).h M0):=fun m0 hm e2 hq=>by
    subst hq
    obtain ⟨c',es,e3⟩:=ih n (by omega) ds b N v (some u) h (by omega) (by omega) (by rw [List.length_append] at hd;omega)
    refine ⟨c',es,?_⟩
    rw [Jo,aB,(aq e1).trans ((aK e2).trans rfl)]
    exact e3
   cases hu with
   | int i=>exact flat 0 rfl rfl rfl
   | ai=>exact flat 0 rfl rfl rfl
   | @cell cw sz a b' f n1 n2 o b1 b2 hf ha hb =>
    have ho':(wT x ds).ay[f]? = some (.bl o):=by show x.ay[f]? = _;rw [ho];exact nU hf
    have hbig:f<18446744073709551616:=Nat.lt_of_lt_of_le (Nat.lt_trans (List.getElem?_eq_some_iff.mp hf).1 hl) (by decide)
    have e2:ev (aa ah (k+1)) (.fV (.v 3) .tuple) [some (.ref M0.length),v,some (.ref (M0.length+(x.T.length+5))),some (.tup [.str cw,.int sz,a,b',.int f])] ((wT x ds).h M0)=.ok (.bl true) ((wT x ds).h M0):=rfl
    have e3:=(tw (Φ:=aa ah (k+1)) (e:=.idx (.v 3) (.k (.int 4))) (f:=f) (σ:=[some (.ref M0.length),v,some (.ref (M0.length+(x.T.length+5))),some (.tup [.str cw,.int sz,a,b',.int f])]) (M0:=M0) (i:=0) (s:=wT x ds) rfl rfl).trans (su (k:=k) (s:=wT x ds) (b:=o) ho' hbig)
    cases o with
    | false =>
     refine ⟨some (.tup [.str cw,.int sz,a,b',.int f]),ds,?_⟩
     rw [Jo,aB,(aq e1).trans (DY e2 (uu e3))];rfl
    | true =>
     have e4:ev (aa ah (k+1)) (.aG .extend true (.v 2) (.cons (.sl true (.v 3) (.some (.k (.int 2))) (.some (.k (.int 4)))) .nil)) [some (.ref M0.length),v,some (.ref (M0.length+(x.T.length+5))),some (.tup [.str cw,.int sz,a,b',.int f])] ((wT x ds).h M0)=.ok .ai ((wT x (ds++[a]++[b'])).h M0):=by
      have es:ev (aa ah (k+1)) (.sl true (.v 3) (.some (.k (.int 2))) (.some (.k (.int 4)))) [some (.ref M0.length),v,some (.ref (M0.length+(x.T.length+5))),some (.tup [.str cw,.int sz,a,b',.int f])] ((wT x ds).h M0)=.ok (.tup [a,b']) ((wT x ds).h M0):=rfl
      have hlen:ds.length+2<=line:=by
       have h7:lim<line:=by decide
       rw [List.length_append] at hd
       simp only [List.length_singleton] at hd
       omega
      rw [jw,mC]
      simp only [List.getElem?_cons_succ,List.getElem?_cons_zero,R.af,qh,dG gD,Option.isSome_some,Bool.and_self,if_true,aQ,es,cy,gZ,qg,we,xE,List.length_cons,List.length_nil,hlen,decide_true,sD]
      rw [List.append_assoc];rfl
     have hw:ET ay (ds++[a]++[b']) (n+n1+n2) (b2&&(b1&&b)):=.snoc (.snoc h ha) hb
     obtain ⟨c',es,e5⟩:=ih (n+n1+n2) (by omega) _ _ N v (some (.tup [.str cw,.int sz,a,b',.int f])) hw (by omega) (by omega) (by simp only [List.length_append,List.length_singleton] at hd ⊢;omega)
     refine ⟨c',es,?_⟩
     have eq:(true&&(b1&&b2)&&b)=(b2&&(b1&&b)):=by cases b1 <;> cases b2 <;> cases b <;> rfl
     rw [Jo,aB,(aq e1).trans ((jF e2 ((aJ e3).trans ((aJ e4).trans rfl))).trans rfl),eq]
     exact e5
theorem Ek {v:D} {n:Nat} {q:Bool} (ho:x.ay=ay.map D.bl) (hl:ay.length<lim) (h:Wa ay v n q) (hn:n<100000):(aa ah (k+2)).call 20 [.ref M0.length,v] (x.h M0)=if q then .ok .ai (x.h M0) else .exc 5 (x.h M0):=by
 have hw:ET ay [v] (0+n) (q&&true):=ET.snoc (ds:=[]) .nil h
 rw [Nat.zero_add,Bool.and_true] at hw
 have h1n:[v].length+n<lim:=Nat.lt_of_le_of_lt (Nat.add_le_add_left (Nat.le_of_lt hn) 1) (by decide)
 obtain ⟨c',es,e⟩:=AV (k:=k) (M0:=M0) (x:=x) ho hl n [v] q 100000 (some v) none hw hn (Nat.lt_of_lt_of_le hn (by decide)) h1n
 have e1:ev (aa ah (k+1)) (.lst false (.cons (.v 1) .nil)) [some (.ref M0.length),some v,none,none] (x.h M0)=.ok (.ref (M0.length+(x.T.length+5))) ((wT x [v]).h M0):=by
  show R.ok (D.ref (x.h M0).length) (x.h M0++[.lst [v]])=_
  rw [k9,app]
 have tk:∀ ds:List D,((wT x ds).h M0).take (x.h M0).length=x.h M0:=fun ds=>by
  have:(wT x ds).h M0=x.h M0++[.lst ds]:=app.symm
  rw [this];simp
 have e2:ex (aa ah (k+1)) (.while aE aB) [some (.ref M0.length),some v,some (.ref (M0.length+(x.T.length+5))),none] ((wT x [v]).h M0)=.ok (if q then .nx [some (.ref M0.length),some v,some (.ref (M0.length+(x.T.length+5))),c'] else .xc 5 [some (.ref M0.length),some v,some (.ref (M0.length+(x.T.length+5))),c']) ((wT x es).h M0):=by
  rw [bC,aO];exact e
 cases q with
 | true=>exact gw LH rfl ((aq e1).trans ((aX e2).trans rfl)) (cM rfl (tk es))
 | false =>
  have e3:exs (aa ah (k+1)) (.cons (.while aE aB) .nil) [some (.ref M0.length),some v,some (.ref (M0.length+(x.T.length+5))),none] ((wT x [v]).h M0)=.ok (.xc 5 [some (.ref M0.length),some v,some (.ref (M0.length+(x.T.length+5))),c']) ((wT x es).h M0):=oH.trans e2
  exact tH LH rfl ((aq e1).trans e3) (if_pos (tk es))
theorem yZ {v y:D} {p:List D} {n:Nat} {X:MH} (hp:x.pile=p++[v]) (ho:x.ay=ay.map D.bl) (hl:ay.length<lim) (h:Wa ay v n true) (hn:n<100000) (ht:(aa ah (k+2)).call 5 [v] (({ x with pile:=p }:Mx).h M0)=.ok y (({ x with pile:=p }:Mx).h M0++X)):(aa ah (k+3)).call 21 [.ref M0.length] (x.h M0)=.ok y (({ x with pile:=p,T:=x.T++X }:Mx).h M0):=by
 have e1:=iY (Φ:=aa ah (k+2)) (σ:=[some (.ref M0.length),none]) (M0:=M0) (i:=0) (s:=x) rfl hp
 have e2:=(u_ (Φ:=aa ah (k+2)) (σ:=[some (.ref M0.length), some v]) (m:=20) (nm:=w "want_all_open") (es:=.cons (.v 1) .nil) (s:={ x with pile:=p }) (M0:=M0) (i:=0) rfl (by decide +kernel)).trans (Ek (k:=k) (x:={ x with pile:=p }) ho hl h hn)
 rw [app] at ht
 exact aI LG rfl ((aq e1).trans ((aJ e2).trans (aP ((bP rfl).trans ht)))) rfl
theorem wo {v:D} {p:List D} {n:Nat} (hp:x.pile=p++[v]) (ho:x.ay=ay.map D.bl) (hl:ay.length<lim) (h:Wa ay v n false) (hn:n<100000):(aa ah (k+3)).call 21 [.ref M0.length] (x.h M0)=.exc 5 (({ x with pile:=p }:Mx).h M0):=by
 have e1:=iY (Φ:=aa ah (k+2)) (σ:=[some (.ref M0.length),none]) (M0:=M0) (i:=0) (s:=x) rfl hp
 have e2:=(u_ (Φ:=aa ah (k+2)) (σ:=[some (.ref M0.length), some v]) (m:=20) (nm:=w "want_all_open") (es:=.cons (.v 1) .nil) (s:={ x with pile:=p }) (M0:=M0) (i:=0) rfl (by decide +kernel)).trans (Ek (k:=k) (x:={ x with pile:=p }) ho hl h hn)
 exact tH LG rfl ((aq e1).trans (uu e2)) (kM (by rw [len,len]))
end
end bI
end
section
namespace bI
open Fg PySem
noncomputable def K2 (rows:D) (most:Int):Mx:=⟨rows,most,0,.int 0,[],[],[],[],[]⟩
section
variable {M0:MH} {x:Mx} {k:Nat} {rows:D} {most:Int}
theorem wZ:(aa ah (k+1)).call 9 [.ref M0.length,rows,.int most] (M0++[.ins 1 []])=.ok .ai ((K2 rows most).h M0):=by
 have g:∀ (o:MO) (X:MH),(M0++o::X)[M0.length]? = some o:=fun o X=>off 0 _
 have st:∀ (o o':MO) (X:MH),(M0++o::X).set M0.length o'=M0++o'::X:=fun o o' X=>offs 0 _ _
 have ln:∀ (X:MH) (n:Nat),X.length=n->(M0++X).length=M0.length+n:=fun X n h=>by rw [List.length_append,h]
 have nl:∀ {σ:Sg} (X:MH) (n:Nat),X.length=n->ev (aa ah k) (.lst false .nil) σ (M0++X)=.ok (.ref (M0.length+n)) (M0++(X++[.lst []])):=fun {σ} X n h=>by
  rw [sW,cy,R.af]
  show R.ok (D.ref (M0++X).length) ((M0++X)++[.lst []])=_
  rw [ln X n h,List.append_assoc]
 let σ:Sg:=[some (.ref M0.length),some rows,some (.int most)]
 have q:∀ {e:E} {d:D} {X:MH} {gs gs':List (Str×D)} {Y:MH} {f:Str},ev (aa ah k) e σ (M0++.ins 1 gs::X)=.ok d (M0++.ins 1 gs::Y)->gs.length<1000->bV f d gs=gs'->ex (aa ah k) (.bZ (.v 0) f e) σ (M0++.ins 1 gs::X)=.ok (.nx σ) (M0++.ins 1 gs'::Y):=fun {e d X gs gs' Y f} he hl hp=>by
  rw [oO he rfl (g _ _) hl hp,st]
 have p2:bV (w "most") (.int most) [(w "rows", rows)]=[(w "rows", rows), (w "most", .int most)]:=by simp only [bV, wn (a:="rows") (b:="most"), if_false]
 have p3:bV (w "begun") (.int 0) [(w "rows", rows), (w "most", .int most)]=[(w "rows", rows), (w "most", .int most), (w "begun", .int 0)]:=by simp only [bV, wn (a:="rows") (b:="begun"), wn (a:="most") (b:="begun"), if_false]
 have p4:bV (w "place") (.int 0) [(w "rows", rows), (w "most", .int most), (w "begun", .int 0)]=[(w "rows", rows), (w "most", .int most), (w "begun", .int 0), (w "place", .int 0)]:=by simp only [bV, wn (a:="rows") (b:="place"), wn (a:="most") (b:="place"), wn (a:="begun") (b:="place"), if_false]
 have p5:∀ d, bV (w "pile") d [(w "rows", rows), (w "most", .int most), (w "begun", .int 0), (w "place", .int 0)]=[(w "rows", rows), (w "most", .int most), (w "begun", .int 0), (w "place", .int 0), (w "pile", d)]:=fun d=>by simp only [bV, wn (a:="rows") (b:="pile"), wn (a:="most") (b:="pile"), wn (a:="begun") (b:="pile"), wn (a:="place") (b:="pile"), if_false]
 have p6:∀ a d, bV (w "frames") d [(w "rows", rows), (w "most", .int most), (w "begun", .int 0), (w "place", .int 0), (w "pile", a)]=[(w "rows", rows), (w "most", .int most), (w "begun", .int 0), (w "place", .int 0), (w "pile", a), (w "frames", d)]:=fun a d=>by simp only [bV, wn (a:="rows") (b:="frames"), wn (a:="most") (b:="frames"), wn (a:="begun") (b:="frames"), wn (a:="place") (b:="frames"), wn (a:="pile") (b:="frames"), if_false]
 have p7:∀ a b d, bV (w "lies_open") d [(w "rows", rows), (w "most", .int most), (w "begun", .int 0), (w "place", .int 0), (w "pile", a), (w "frames", b)]=[(w "rows", rows), (w "most", .int most), (w "begun", .int 0), (w "place", .int 0), (w "pile", a), (w "frames", b), (w "lies_open", d)]:=fun a b d=>by simp only [bV, wn (a:="rows") (b:="lies_open"), wn (a:="most") (b:="lies_open"), wn (a:="begun") (b:="lies_open"), wn (a:="place") (b:="lies_open"), wn (a:="pile") (b:="lies_open"), wn (a:="frames") (b:="lies_open"), if_false]
 have p8:∀ a b c d, bV (w "log") d [(w "rows", rows), (w "most", .int most), (w "begun", .int 0), (w "place", .int 0), (w "pile", a), (w "frames", b), (w "lies_open", c)]=[(w "rows", rows), (w "most", .int most), (w "begun", .int 0), (w "place", .int 0), (w "pile", a), (w "frames", b), (w "lies_open", c), (w "log", d)]:=fun a b c d=>by simp only [bV, wn (a:="rows") (b:="log"), wn (a:="most") (b:="log"), wn (a:="begun") (b:="log"), wn (a:="place") (b:="log"), wn (a:="pile") (b:="log"), wn (a:="frames") (b:="log"), wn (a:="lies_open") (b:="log"), if_false]
 refine gw fn9 rfl ((aX (q (X:=[]) (Y:=[]) (f:=w "rows") (e:=.v 1) (gs:=[]) rfl (by simp) rfl)).trans ((aX (q (X:=[]) (Y:=[]) (e:=.v 2) rfl (by simp) p2)).trans ((aX (q (X:=[]) (Y:=[]) (e:=.k (.int 0)) rfl (by simp) p3)).trans ((aX (q (X:=[]) (Y:=[]) (e:=.k (.int 0)) rfl (by simp) p4)).trans
  ((aX (q (nl [_] 1 rfl) (by simp) (p5 _))).trans ((aX (q (nl [_,_] 2 rfl) (by simp) (p6 _ _))).trans ((aX (q (nl [_,_,_] 3 rfl) (by simp) (p7 _ _ _))).trans ((aX (q (nl [_,_,_,_] 4 rfl) (by simp) (p8 _ _ _ _))).trans rfl)))))))) ?_
 refine BH (AX (i:=M0.length) (g _ _) (g0 (s:=K2 rows most)) fun h=>?_)
 have h:=congrArg (fun o=>match o with | MO.ins _ fs=>fs.length | _=>0) h
 simp [Mx.o] at h
noncomputable def opens (n:Nat):List D:=(List.range n).map fun (i:Nat)=>.tup [.str (w "open"), .int i]
noncomputable def pC (rows:D) (most:Int) (n:Nat):Mx:={ K2 rows most with ay:=(List.replicate n true).map D.bl,log:=opens n }
theorem yP {n:Nat}:({ pC rows most n with ay:=(pC rows most n).ay++[.bl true], log:=(pC rows most n).log++[.tup [.str (w "open"), .int (pC rows most n).ay.length]] }:Mx)=pC rows most (n+1):=by
 simp only [pC,opens,List.range_succ,List.map_append,List.map_cons,List.map_nil,List.replicate_succ',List.length_map,List.length_replicate]
theorem uM {ch:MH->Bool} (hch:∀ M,ch M=true):∀ (ds:List D) (n:Nat) (o:Option D) (acc:List D),acc=nats (List.range n)->n+ds.length<lim ->
  bL (nj (aa ah (k+1)) .none) (ev (aa ah (k+1)) (.dS 1 10 (w "open_field") (.v 0) .nil)) [1] ch ds [some (.ref M0.length), o] ((pC rows most n).h M0) acc=.ok (nats (List.range (n+ds.length))) ((pC rows most (n+ds.length)).h M0)
 | [],n,o,acc,ha,_=>by rw [bL,ha];rfl
 | d::ds,n,o,acc,ha,hl=>by
  simp only [List.length_cons] at hl
  have hn:(pC rows most n).ay.length=n:=by simp [pC]
  have h7:lim<line:=by decide
  have e:=yY (M0:=M0) (k:=k) (s:=pC rows most n) (by rw [hn];omega) (by show (opens n).length<line;simp [opens];omega)
  rw [yP,hn] at e
  have eu:ev (aa ah (k+1)) (.dS 1 10 (w "open_field") (.v 0) .nil) (([some (.ref M0.length), o]:Sg).set 1 (some d)) ((pC rows most n).h M0)=.ok (.int n) ((pC rows most (n+1)).h M0):=(u_ (nm:=w "open_field") rfl (by decide +kernel)).trans e
  rw [zd eu (hch _) (by rw [ha];simp [nats];omega)]
  have:=uM hch ds (n+1) (some d) (acc++[.int n]) (by rw [ha,List.range_succ];simp [nats]) (by omega)
  rw [show n+1+ds.length=n+(d::ds).length by simp;omega] at this
  exact this
end
end bI
end
section
namespace bI
open Fg PySem
section
variable {M0:MH} {x:Mx} {k:Nat} {rows:D} {most:Int}
noncomputable def yQ (M0:MH) (rows:D) (most:Int) (o:Nat) (kn:List D) (pl:D):Mx:={ pC rows most o with pl:=pl, frs:=[.ref (M0.length+(2+5))], T:=[.lst kn, .lst (nats (List.range o)), .ins 0 [(w "known", .ref (M0.length+(0+5))), (w "fields", .ref (M0.length+(1+5))), (w "behind_call", .ai)]] }
noncomputable def ms1 (o:Nat) (kn:List D) (b:Nat):Ms:=⟨[],[⟨kn,List.range o,.ai⟩],List.replicate o true,opens o,0,.int b⟩
theorem rep1 {o b:Nat} {kn:List D} (hv:∀ v∈kn,Vl v):Rep M0.length (ms1 o kn b) (yQ M0 rows most o kn (.int b)) [(2,0,1)] where
 pile:=rfl
 ay:=rfl
 log:=rfl
 bg:=rfl
 pl:=rfl
 frs:=rfl
 at_:=.cons ⟨rfl,rfl,rfl⟩ .nil
 nd:=by decide
 lt:=fun i hi=>by
  have hi:i∈[2,0,1]:=hi
  simp only [List.mem_cons,List.not_mem_nil,or_false] at hi
  show i<3
  omega
 pv:=fun v hv=>by cases hv
 fv:=fun f hf v h=>by rw [List.mem_singleton.mp hf] at h;exact hv v h
noncomputable def rE:Ss:=.cons (.set 5 (.dS 1 21 (w "answer") (.v 3) .nil)) (.cons (.for [6] (.rev (.v 4)) (.cons (.ex (.dS 1 11 (w "shut_field") (.v 3) (.cons (.v 6) .nil))) .nil)) (.cons (.ret (.tup (.cons (.v 5) (.cons (.fld (.v 3) (w "log")) .nil)))) .nil))
theorem kK:ng.body=.cons (.set 3 (.new 1 9 (.cons (.idx (.v 0) (.k (.int 0))) (.cons (.v 2) .nil)))) (.cons (.set 4 (.comp true [3] [1] (.dS 1 10 (w "open_field") (.v 0) .nil) (.eF (.idx (.v 0) (.k (.int 2)))) .none))
  (.cons (.ex (.aG .append true (.fld (.v 3) (w "frames")) (.cons (.new 0 8 (.cons (.blt .list false (.cons (.v 1) .nil)) (.cons (.blt .list false (.cons (.v 4) .nil)) (.cons (.k .ai) .nil)))) .nil)))
  (.cons (.bZ (.v 3) (w "place") (.idx (.v 0) (.k (.int 1)))) (.cons (.while eW bW) rE)))):=rfl
theorem nP {o b:Nat} {kn:List D} (ho:o<lim) {ss:Ss}:exs (aa ah (k+2)) (.cons (.set 3 (.new 1 9 (.cons (.idx (.v 0) (.k (.int 0))) (.cons (.v 2) .nil)))) (.cons (.set 4 (.comp true [3] [1] (.dS 1 10 (w "open_field") (.v 0) .nil) (.eF (.idx (.v 0) (.k (.int 2)))) .none))
  (.cons (.ex (.aG .append true (.fld (.v 3) (w "frames")) (.cons (.new 0 8 (.cons (.blt .list false (.cons (.v 1) .nil)) (.cons (.blt .list false (.cons (.v 4) .nil)) (.cons (.k .ai) .nil)))) .nil)))
  (.cons (.bZ (.v 3) (w "place") (.idx (.v 0) (.k (.int 1)))) ss)))) [some (.tup [rows, .int b, .int o]), some (.lst kn), some (.int most), none, none, none, none] M0 =
  exs (aa ah (k+2)) ss [some (.tup [rows,.int b,.int o]),some (.lst kn),some (.int most),some (.ref M0.length),some (.lst (nats (List.range o))),none,none] ((yQ M0 rows most o kn (.int b)).h M0):=by
 have e1:ev (aa ah (k+2)) (.new 1 9 (.cons (.idx (.v 0) (.k (.int 0))) (.cons (.v 2) .nil))) [some (.tup [rows,.int b,.int o]),some (.lst kn),some (.int most),none,none,none,none] M0=.ok (.ref M0.length) ((K2 rows most).h M0) :=
  e_new (lK (aC rfl rfl bf) rfl) wZ
 have h0:(K2 rows most).h M0=(pC rows most 0).h M0:=rfl
 rw [h0] at e1
 have hl:(eK 0 (o:Int)).length=o:=yg
 have e2:=oU (Φ:=aa ah (k+2)) (σ:=[some (.tup [rows,.int b,.int o]),some (.lst kn),some (.int most),some (.ref M0.length),none,none,none]) (M:=(pC rows most 0).h M0) (caps:=[3]) (tg:=[1]) (it:=.eF (.idx (.v 0) (.k (.int 2)))) (EL (n:=o) (aC rfl rfl jV) (Nat.le_trans (Nat.le_of_lt ho) (by decide)))
  (uM (k:=k+1) (M0:=M0) (ch:=bq ((pC rows most 0).h M0) .ai) (fun _=>rfl) (eK 0 (o:Int)) 0 none [] rfl (by rw [hl];omega))
 rw [hl,Nat.zero_add] at e2
 let x1:Mx:=pC rows most o
 have hT:x1.T=[]:=rfl
 let fo:MO:=.ins 0 [(w "known", .ref (M0.length+(0+5))), (w "fields", .ref (M0.length+(1+5))), (w "behind_call", .ai)]
 let x2:Mx:={ x1 with T:=[.lst kn,.lst (nats (List.range o)),fo] }
 have e3:ev (aa ah (k+2)) (.new 0 8 (.cons (.blt .list false (.cons (.v 1) .nil)) (.cons (.blt .list false (.cons (.v 4) .nil)) (.cons (.k .ai) .nil)))) [some (.tup [rows,.int b,.int o]),some (.lst kn),some (.int most),some (.ref M0.length),some (.lst (nats (List.range o))),none,none] (x1.h M0)=.ok (.ref (M0.length+(2+5))) (x2.h M0):=by
  have ea:cV (aa ah (k+2)) (.cons (.blt .list false (.cons (.v 1) .nil)) (.cons (.blt .list false (.cons (.v 4) .nil)) (.cons (.k .ai) .nil))) [some (.tup [rows,.int b,.int o]),some (.lst kn),some (.int most),some (.ref M0.length),some (.lst (nats (List.range o))),none,none] (x1.h M0)=.ok [.ref (M0.length+(0+5)),.ref (M0.length+(1+5)),.ai] (({ x1 with T:=[.lst kn,.lst (nats (List.range o))] }:Mx).h M0):=by
   have q1:ev (aa ah (k+2)) (.blt .list false (.cons (.v 1) .nil)) [some (.tup [rows,.int b,.int o]),some (.lst kn),some (.int most),some (.ref M0.length),some (.lst (nats (List.range o))),none,none] (x1.h M0)=.ok (.ref (M0.length+(0+5))) (({ x1 with T:=[.lst kn] }:Mx).h M0):=by
    show R.ok (D.ref (x1.h M0).length) (x1.h M0++[.lst kn])=_
    rw [k9,app];rfl
   have q2:ev (aa ah (k+2)) (.blt .list false (.cons (.v 4) .nil)) [some (.tup [rows,.int b,.int o]),some (.lst kn),some (.int most),some (.ref M0.length),some (.lst (nats (List.range o))),none,none] (({ x1 with T:=[.lst kn] }:Mx).h M0)=.ok (.ref (M0.length+(1+5))) (({ x1 with T:=[.lst kn,.lst (nats (List.range o))] }:Mx).h M0):=by
    show R.ok (D.ref (({ x1 with T:=[.lst kn] }:Mx).h M0).length) (({ x1 with T:=[.lst kn] }:Mx).h M0++[.lst (nats (List.range o))])=_
    rw [k9,app];rfl
   rw [aQ,q1,R.af,aQ,q2];rfl
  have en:=e_new (c:=0) (g:=8) (M2:=x2.h M0) ea (by
   rw [app,k9]
   refine (Dr (k:=k) (gT (t:=2) (s:=({ x1 with T:=[.lst kn,.lst (nats (List.range o))]++[.ins 0 []] }:Mx)))).trans ?_
   exact congrArg (R.ok _) sT)
  rw [k9] at en
  exact en
 have e4:=dP (iU (Φ:=aa ah (k+2)) (σ:=[some (.tup [rows,.int b,.int o]),some (.lst kn),some (.int most),some (.ref M0.length),some (.lst (nats (List.range o))),none,none]) (M0:=M0) (s:=x1) (i:=3) rfl) g2 e3 (g2 (s:=x2)) (show ([]:List D).length<line by decide)
 rw [s2] at e4
 have e5:=oR (Φ:=aa ah (k+2)) (σ:=[some (.tup [rows,.int b,.int o]),some (.lst kn),some (.int most),some (.ref M0.length),some (.lst (nats (List.range o))),none,none]) (e:=.idx (.v 0) (.k (.int 1))) (d:=.int b) (s:={ x2 with frs:=[]++[.ref (M0.length+(2+5))] }) (s':={ x2 with frs:=[]++[.ref (M0.length+(2+5))] }) (M0:=M0) (i:=3) rfl (aC rfl rfl gX)
 exact (aq e1).trans ((aq e2).trans ((aJ e4).trans (aX e5)))
noncomputable def bA (o:Nat):List D:=(List.range o).reverse.map fun (i:Nat)=>.tup [.str (w "shut"), .int i]
theorem Cv {a b c e f:Option D}:∀ (ns:List Nat) (x:Mx) (g:Option D),(∀ n∈ns,n<x.ay.length)->x.log.length+ns.length<line ->
  ∃ (x':Mx) (g':Option D), bK (exs (aa ah (k+2)) (.cons (.ex (.dS 1 11 (w "shut_field") (.v 3) (.cons (.v 6) .nil))) .nil)) [6] (bq (x.h M0) .ai) (nats ns) [a, b, c, some (.ref M0.length), e, f, g] (x.h M0)=.ok (.nx [a, b, c, some (.ref M0.length), e, f, g']) (x'.h M0)/\x'.log=x.log++ns.map (fun (i:Nat)=>.tup [.str (w "shut"), .int i])/\x'.T=x.T:=by
 intro ns
 induction ns with
 | nil=>intro x g _ _;exact ⟨x,g,rfl,by simp,rfl⟩
 | cons n ns ih =>
  intro x g h hl
  have e1:=yX (M0:=M0) (k:=k+1) (s:=x) (f:=n) (h n List.mem_cons_self) (by simp only [List.length_cons] at hl;omega)
  have e2:=(u_ (Φ:=aa ah (k+2)) (σ:=[a, b, c, some (.ref M0.length), e, f, some (.int n)]) (m:=11) (nm:=w "shut_field") (es:=.cons (.v 6) .nil) (s:=x) (M0:=M0) (i:=3) rfl (by decide +kernel)).trans e1
  obtain ⟨x', g', e3, e4, e5⟩:=ih { x with ay:=x.ay.set n (.bl false), log:=x.log++[.tup [.str (w "shut"), .int n]] } (some (.int n)) (fun m hm=>by show m<(x.ay.set n _).length;rw [List.length_set];exact h m (List.mem_cons_of_mem _ hm)) (by show (x.log++[_]).length+ns.length<line;rw [List.length_append];simp only [List.length_cons, List.length_nil] at hl ⊢;omega)
  refine ⟨x',g',?_,?_,e5⟩
  ·have eb:exs (aa ah (k+2)) (.cons (.ex (.dS 1 11 (w "shut_field") (.v 3) (.cons (.v 6) .nil))) .nil) [a, b, c, some (.ref M0.length), e, f, some (.int n)] (x.h M0)=.ok (.nx [a, b, c, some (.ref M0.length), e, f, some (.int n)]) (({ x with ay:=x.ay.set n (.bl false), log:=x.log++[.tup [.str (w "shut"), .int n]] }:Mx).h M0):=(aJ e2).trans rfl
   rw [nats,List.map_cons,bK]
   show (exs (aa ah (k+2)) _ [a,b,c,some (.ref M0.length),e,f,some (.int n)] (x.h M0)).bind _=_
   rw [eb]
   exact e3
  ·rw [e4];show (x.log++[_])++_=_;rw [List.append_assoc];rfl
theorem nQ {Q:MH->D->MH->Prop} {rs:List Rw} {o b N n:Nat} {kn p:List D} {s':Ms} {v:D} (ho:o<1000) (hv:∀ v∈kn,Vl v) (hg:go rs most N (ms1 o kn b)=.ok s') (hN:N<=100000) (hp:s'.pile=p++[v]) (hw:Wa s'.ay v n true) (hn:n<100000) (hop:s'.ay.length<lim) (Jm:o<=s'.ay.length) (CM:s'.log.length<lim)
  (ht:∀ M,∃ y X,(aa ah (k+5)).call 5 [v] M=.ok y (M++X)/\Q M y X) :
  ∃ (x':Mx) (y:D) (T0 X Mt:MH),(aa ah (k+7)).call 7 [.tup [.lst (rs.map Rw.d),.int b,.int o],.lst kn,.int most] M0=.ok (.tup [y,.ref (M0.length+4)]) (x'.h M0)/\x'.log=s'.log++bA o/\x'.T=T0++X/\Mt.length=M0.length+(T0.length+5)/\Q Mt y X:=by
 have lp:=loop (M0:=M0) (rs:=rs) (k:=k+1) (σ:=[some (.tup [.lst (rs.map Rw.d),.int b,.int o]),some (.lst kn),some (.int most),some (.ref M0.length),some (.lst (nats (List.range o))),none,none]) rfl N 100000 (ms1 o kn b) (yQ M0 (.lst (rs.map Rw.d)) most o kn (.int b)) [(2,0,1)] hN (rep1 hv) rfl
 have hm:(yQ M0 (.lst (rs.map Rw.d)) most o kn (.int b)).most=most:=rfl
 rw [hm,hg] at lp
 obtain ⟨x1,qs,e1,R1,_⟩:=lp
 obtain ⟨y,X,qt,qs⟩:=ht (({ x1 with pile:=p }:Mx).h M0)
 have e2:=yZ (M0:=M0) (k:=k+3) (x:=x1) (ay:=s'.ay) (R1.pile.trans hp) R1.ay hop hw hn qt
 have e3:=(u_ (Φ:=aa ah (k+6)) (σ:=[some (.tup [.lst (rs.map Rw.d), .int b, .int o]), some (.lst kn), some (.int most), some (.ref M0.length), some (.lst (nats (List.range o))), none, none]) (m:=21) (nm:=w "answer") (es:=.nil) (s:=x1) (M0:=M0) (i:=3) rfl (by decide +kernel)).trans e2
 let x2:Mx:={ x1 with pile:=p,T:=x1.T++X }
 have h7:lim+1000<line:=by decide
 obtain ⟨x3,g',e4,e5,e50⟩:=Cv (M0:=M0) (k:=k+4) (a:=some (.tup [.lst (rs.map Rw.d),.int b,.int o])) (b:=some (.lst kn)) (c:=some (.int most)) (e:=some (.lst (nats (List.range o)))) (f:=some y) (List.range o).reverse x2 none (fun n hn=>by
  show n<x1.ay.length
  rw [R1.ay,List.length_map]
  have:=List.mem_range.mp (List.mem_reverse.mp hn)
  omega) (by show x1.log.length+_<line;rw [R1.log,List.length_reverse,List.length_range];omega)
 have e6:ex (aa ah (k+6)) (.for [6] (.rev (.v 4)) (.cons (.ex (.dS 1 11 (w "shut_field") (.v 3) (.cons (.v 6) .nil))) .nil)) [some (.tup [.lst (rs.map Rw.d), .int b, .int o]), some (.lst kn), some (.int most), some (.ref M0.length), some (.lst (nats (List.range o))), some y, none] (x2.h M0)=.ok (.nx [some (.tup [.lst (rs.map Rw.d), .int b, .int o]), some (.lst kn), some (.int most), some (.ref M0.length), some (.lst (nats (List.range o))), some y, g']) (x3.h M0):=by
  have er:bO (aa ah (k+6)) (.rev (.v 4)) [some (.tup [.lst (rs.map Rw.d),.int b,.int o]),some (.lst kn),some (.int most),some (.ref M0.length),some (.lst (nats (List.range o))),some y,none] (x2.h M0)=.ok (.ai,nats (List.range o).reverse,false) (x2.h M0):=by
   have:(nats (List.range o)).reverse=nats (List.range o).reverse:=by simp only [nats,List.map_reverse]
   rw [<- this];rfl
  rw [Ie,er]
  show (bK _ _ _ _ _ _).fin (fU false .ai)=_
  rw [u0]
  exact e4
 have e7:ev (aa ah (k+6)) (.tup (.cons (.v 5) (.cons (.fld (.v 3) (w "log")) .nil))) [some (.tup [.lst (rs.map Rw.d), .int b, .int o]), some (.lst kn), some (.int most), some (.ref M0.length), some (.lst (nats (List.range o))), some y, g'] (x3.h M0)=.ok (.tup [y, .ref (M0.length+4)]) (x3.h M0):=by
  rw [bH,lK rfl (Ez (i:=3) rfl)];rfl
 have ew:ex (aa ah (k+6)) (.while eW bW) [some (.tup [.lst (rs.map Rw.d),.int b,.int o]),some (.lst kn),some (.int most),some (.ref M0.length),some (.lst (nats (List.range o))),none,none] ((yQ M0 (.lst (rs.map Rw.d)) most o kn (.int b)).h M0)=.ok (.nx [some (.tup [.lst (rs.map Rw.d),.int b,.int o]),some (.lst kn),some (.int most),some (.ref M0.length),some (.lst (nats (List.range o))),none,none]) (x1.h M0):=by
  rw [bC,aO];exact e1
 refine ⟨x3,y,x1.T,X,({ x1 with pile:=p }:Mx).h M0,?_,?_,e50,len,qs⟩
 ·have eb:exs (aa ah (k+6)) ng.body [some (.tup [.lst (rs.map Rw.d),.int b,.int o]),some (.lst kn),some (.int most),none,none,none,none] M0=.ok (.rt (.tup [y,.ref (M0.length+4)])) (x3.h M0):=by
   rw [kK,nP (k:=k+4) (Nat.lt_of_lt_of_le ho (by decide))]
   exact (aX ew).trans ((aq e3).trans ((aX e6).trans (aP e7)))
  have tk:(x3.h M0).take M0.length=M0:=by simp [Mx.h]
  have nn:¬ nr M0.length (.tup [y,.ref (M0.length+4)])=true:=by simp [nr,mz]
  exact aI fn7 rfl eb ((if_pos ⟨rfl,tk⟩).trans (if_neg nn))
 ·rw [e5]
  show x1.log++_=_
  rw [R1.log];rfl
theorem FF {rs:List Rw} {o b N n:Nat} {kn p:List D} {s':Ms} {v d:D} {m:Nat} (ho:o<1000) (hv:∀ v∈kn,Vl v) (hg:go rs most N (ms1 o kn b)=.ok s') (hN:N<=100000) (hp:s'.pile=p++[v]) (hw:Wa s'.ay v n true) (hn:n<100000) (hop:s'.ay.length<lim) (Jm:o<=s'.ay.length) (CM:s'.log.length<lim)
  (ht:Tl m v d) (hm5:m<=k+5) :
  ∃ (x':Mx) (y:D),(aa ah (k+7)).call 7 [.tup [.lst (rs.map Rw.d),.int b,.int o],.lst kn,.int most] M0=.ok (.tup [y,.ref (M0.length+4)]) (x'.h M0)/\x'.log=s'.log++bA o/\Sh (M0.length+5) (x'.h M0) m y d:=by
 obtain ⟨x',y,T0,X,Mt,q1,q2,q3,q4,q5⟩:=nQ (k:=k) (M0:=M0) (Q:=fun M y X=>Sh M.length (M++X) m y d) ho hv hg hN hp hw hn hop Jm CM fun M=>by
  obtain ⟨y,X,h1,h2⟩:=JD (k:=k+5-m) m v d M ht
  rw [show k+5-m+m=k+5 by omega] at h1
  exact ⟨y,X,h1,h2⟩
 refine ⟨x',y,q1,q2,q5.mono (by omega) fun n o hn hq=>?_⟩
 obtain ⟨j,rfl⟩:∃ j,n=M0.length+(j+5):=⟨n-M0.length-5,by omega⟩
 rw [List.getElem?_append_right (by omega),q4,show M0.length+(j+5)-(M0.length+(T0.length+5))=j-T0.length by omega] at hq
 rw [gT,q3,List.getElem?_append_right (by omega)];exact hq
theorem D3 {rs:List Rw} {o b N c:Nat} {kn:List D} (ho:o<1000) (hv:∀ v∈kn,Vl v) (hg:go rs most N (ms1 o kn b)=.exc c) (hN:N<=100000):(aa ah (k+7)).call 7 [.tup [.lst (rs.map Rw.d),.int b,.int o],.lst kn,.int most] M0=.exc c M0:=by
 have lp:=loop (M0:=M0) (rs:=rs) (k:=k+1) (σ:=[some (.tup [.lst (rs.map Rw.d),.int b,.int o]),some (.lst kn),some (.int most),some (.ref M0.length),some (.lst (nats (List.range o))),none,none]) rfl N 100000 (ms1 o kn b) (yQ M0 (.lst (rs.map Rw.d)) most o kn (.int b)) [(2,0,1)] hN (rep1 hv) rfl
 have hm:(yQ M0 (.lst (rs.map Rw.d)) most o kn (.int b)).most=most:=rfl
 rw [hm,hg] at lp
 obtain ⟨x1,e1⟩:=lp
 have ew:∀ ss,exs (aa ah (k+6)) (.cons (.while eW bW) ss) [some (.tup [.lst (rs.map Rw.d),.int b,.int o]),some (.lst kn),some (.int most),some (.ref M0.length),some (.lst (nats (List.range o))),none,none] ((yQ M0 (.lst (rs.map Rw.d)) most o kn (.int b)).h M0)=.ok (.xc c [some (.tup [.lst (rs.map Rw.d),.int b,.int o]),some (.lst kn),some (.int most),some (.ref M0.length),some (.lst (nats (List.range o))),none,none]) (x1.h M0):=fun ss=>by
  rw [cu,bC,aO,show ah.turns=100000 from rfl,e1];rfl
 have tk:(x1.h M0).take M0.length=M0:=by simp [Mx.h]
 have eb:exs (aa ah (k+6)) ng.body [some (.tup [.lst (rs.map Rw.d),.int b,.int o]),some (.lst kn),some (.int most),none,none,none,none] M0=.ok (.xc c [some (.tup [.lst (rs.map Rw.d),.int b,.int o]),some (.lst kn),some (.int most),some (.ref M0.length),some (.lst (nats (List.range o))),none,none]) (x1.h M0):=by
  rw [kK,nP (k:=k+4) (Nat.lt_of_lt_of_le ho (by decide))]
  exact ew _
 exact tH fn7 rfl eb (if_pos tk)
theorem FG {rs:List Rw} {o b N n:Nat} {kn p:List D} {s':Ms} {v:D} (ho:o<1000) (hv:∀ v∈kn,Vl v) (hg:go rs most N (ms1 o kn b)=.ok s') (hN:N<=100000) (hp:s'.pile=p++[v]) (hw:Wa s'.ay v n false) (hn:n<100000) (hop:s'.ay.length<lim) :
  (aa ah (k+7)).call 7 [.tup [.lst (rs.map Rw.d),.int b,.int o],.lst kn,.int most] M0=.exc 5 M0:=by
 have lp:=loop (M0:=M0) (rs:=rs) (k:=k+1) (σ:=[some (.tup [.lst (rs.map Rw.d),.int b,.int o]),some (.lst kn),some (.int most),some (.ref M0.length),some (.lst (nats (List.range o))),none,none]) rfl N 100000 (ms1 o kn b) (yQ M0 (.lst (rs.map Rw.d)) most o kn (.int b)) [(2,0,1)] hN (rep1 hv) rfl
 have hm:(yQ M0 (.lst (rs.map Rw.d)) most o kn (.int b)).most=most:=rfl
 rw [hm,hg] at lp
 obtain ⟨x1,qs,e1,R1,_⟩:=lp
 have e2:=wo (M0:=M0) (k:=k+3) (x:=x1) (ay:=s'.ay) (R1.pile.trans hp) R1.ay hop hw hn
 have e3:=(u_ (Φ:=aa ah (k+6)) (σ:=[some (.tup [.lst (rs.map Rw.d), .int b, .int o]), some (.lst kn), some (.int most), some (.ref M0.length), some (.lst (nats (List.range o))), none, none]) (m:=21) (nm:=w "answer") (es:=.nil) (s:=x1) (M0:=M0) (i:=3) rfl (by decide +kernel)).trans e2
 have ew:ex (aa ah (k+6)) (.while eW bW) [some (.tup [.lst (rs.map Rw.d),.int b,.int o]),some (.lst kn),some (.int most),some (.ref M0.length),some (.lst (nats (List.range o))),none,none] ((yQ M0 (.lst (rs.map Rw.d)) most o kn (.int b)).h M0)=.ok (.nx [some (.tup [.lst (rs.map Rw.d),.int b,.int o]),some (.lst kn),some (.int most),some (.ref M0.length),some (.lst (nats (List.range o))),none,none]) (x1.h M0):=by
  rw [bC,aO];exact e1
 have tk:(({ x1 with pile:=p }:Mx).h M0).take M0.length=M0:=by simp [Mx.h]
 have eb:exs (aa ah (k+6)) ng.body [some (.tup [.lst (rs.map Rw.d),.int b,.int o]),some (.lst kn),some (.int most),none,none,none,none] M0=.ok (.xc 5 [some (.tup [.lst (rs.map Rw.d),.int b,.int o]),some (.lst kn),some (.int most),some (.ref M0.length),some (.lst (nats (List.range o))),none,none]) (({ x1 with pile:=p }:Mx).h M0):=by
  rw [kK,nP (k:=k+4) (Nat.lt_of_lt_of_le ho (by decide))]
  exact (aX ew).trans (rO e3)
 exact tH fn7 rfl eb (if_pos tk)
end
end bI
end
section
namespace bI
open Fg PySem
inductive Lv where
 | int (i:Int)
 | ai
 | aZ (k:Nat)
noncomputable def Lv.d:Lv->D
 | .int i=>.int i
 | .ai=>.ai
 | .aZ k=>.tup [.int (k:Int)]
structure Cl where
 c:Bool
 one:Lv
 dU:Lv
 fd:Nat
 sz:Nat
noncomputable def Cl.d (c:Cl):D:=.tup [.str (layW c.c),c.one.d,c.dU.d,.int (c.fd:Int),.int (c.sz:Int)]
noncomputable def mv (ms:List D):Lv->D
 | .int i=>.int i
 | .ai=>.ai
 | .aZ k=>ms.getD k .ai
noncomputable def dm (n:Nat):Lv->Prop
 | .aZ k=>k<n
 | _=>True
noncomputable def cY (cs:List Cl):Lv->Nat
 | .aZ k=>match cs[k]? with | some c=>c.sz | none=>1
 | _=>1
noncomputable def HN (cs:List Cl):Lv->Prop
 | .int _=>False
 | .ai=>True
 | .aZ k=>∃ c,cs[k]? = some c/\c.c=true
noncomputable def dQ (ms:List D) (c:Cl):D:=.tup [.str (layW c.c),.int (c.sz:Int),mv ms c.one,mv ms c.dU,.int (c.fd:Int)]
theorem dm.mono {n m:Nat} {v:Lv} (h:dm n v) (hm:n<=m):dm m v:=by cases v <;> first | trivial | exact Nat.lt_of_lt_of_le h hm
theorem r9 {ms:List D} {x:D} {v:Lv} (h:dm ms.length v):mv (ms++[x]) v=mv ms v:=by
 cases v with
 | aZ k=>show (ms++[x]).getD k .ai=ms.getD k .ai;rw [List.getD_eq_getElem?_getD,List.getD_eq_getElem?_getD,List.getElem?_append_left h]
 | _=>rfl
theorem j7 {cs:List Cl} {x:Cl} {v:Lv} (h:dm cs.length v):cY (cs++[x]) v=cY cs v:=by
 cases v with
 | aZ k=>show (match (cs++[x])[k]? with | some c=>c.sz | none=>1)=_;rw [List.getElem?_append_left h];rfl
 | _=>rfl
theorem uW {cs:List Cl} {x:Cl} {v:Lv} (h:HN cs v):HN (cs++[x]) v:=by
 cases v with
 | aZ k=>obtain ⟨c,h1,h2⟩:=h;exact ⟨c,by rw [List.getElem?_append_left (List.getElem?_eq_some_iff.mp h1).1];exact h1,h2⟩
 | int _=>exact h
 | ai=>trivial
theorem uJ {ms:List D} {x:D} {vs:List Lv} (h:∀ v∈vs,dm ms.length v):vs.map (mv (ms++[x]))=vs.map (mv ms):=List.map_congr_left fun v hv=>r9 (h v hv)
structure Ls where
 cs:List Cl
 ms:List D
 pl:List Nat
 ay:List Bool
 log:List D
 vs:List Lv
 hs:List Lv
structure Good (o:Nat) (s:Ls):Prop where
 len:s.ms.length=s.cs.length
 at_:∀ k c,s.cs[k]? = some c->s.ms[k]? = some (dQ s.ms c)/\dm k c.one/\dm k c.dU/\(c.c=true->HN s.cs c.dU)/\c.fd<s.ay.length/\c.sz=1+cY s.cs c.one+cY s.cs c.dU/\c.sz<=1000
 vs:∀ v∈s.vs,dm s.cs.length v
 hs:∀ v∈s.hs,dm s.cs.length v
 op:∀ n,n<s.ay.length->s.ay[n]? = some (decide (n∈s.pl))
 pl:∀ n∈s.pl,n<s.ay.length
 nd:s.pl.Nodup
 pre:∃ ext,s.pl=List.range o++ext
theorem Good.sz {o:Nat} {s:Ls} (G:Good o s) {v:Lv} (h:dm s.cs.length v):cD (mv s.ms v)=(cY s.cs v:Int):=by
 cases v with
 | aZ k =>
  have hk:k<s.cs.length:=h
  have e:s.cs[k]? = some s.cs[k]:=List.getElem?_eq_getElem hk
  have q:=(G.at_ k _ e).1
  show cD (s.ms.getD k .ai)=((match s.cs[k]? with | some c=>c.sz | none=>1:Nat):Int)
  rw [List.getD_eq_getElem?_getD,q,e];rfl
 | _=>rfl
noncomputable def jb (L:Nat) (s:Ls):Ms:=⟨s.vs.map (mv s.ms),[⟨s.hs.map (mv s.ms),s.pl,.ai⟩],s.ay,s.log,0,.int (L:Int)⟩
noncomputable def xm (rs:List Rw) (s s':Ms) (n:Nat):Prop:=∀ N,go rs 200 (n+N) s=go rs 200 N s'
noncomputable def Mv (rs:List Rw) (s:Ms) (n:Nat):Prop:=∀ N,go rs 200 (n+N) s=.exc 1
theorem xm.trans {rs:List Rw} {s s' s'':Ms} {n m:Nat} (h:xm rs s s' n) (h':xm rs s' s'' m):xm rs s s'' (n+m):=fun N=>by rw [Nat.add_assoc,h,h']
theorem xm.E2 {rs:List Rw} {s s':Ms} {n m:Nat} (h:xm rs s s' n) (h':Mv rs s' m):Mv rs s (n+m):=fun N=>by rw [Nat.add_assoc,h,h']
theorem xm.refl {rs:List Rw} {s:Ms}:xm rs s s 0:=fun N=>by rw [Nat.zero_add]
theorem cG {xs:List D} {x:D} {k:List D->D->Rz}:dX (xs++[x]) k=k xs x:=by
 unfold dX uO
 simp [di]
section
variable {rs:List Rw} {most:Int} {s s':Ms} {n L:Nat} {r:Rw} {f:Fm} {fs:List Fm}
theorem Lw (hf:s.frs=f::fs) (hp:s.pl=.int (L:Int)) (hr:rs[L]? = some r):go rs most (n+1) s=tV (K5 most r { s with pl:=.int ((L:Int)+1) }) (go rs most n):=by
 show (bif s.frs.isEmpty then Rz.ok s else _)=_
 rw [hf,hp]
 simp only [List.isEmpty_cons,cond_false,F8,di]
 have e:F8 (.int (L:Int))=some L:=by simp [F8]
 simp [hr]
end
noncomputable def Jc (s:Ls) (b:Nat):Prop:=s.vs.length+b<10000/\s.hs.length+b<10000/\s.pl.length+b<10000/\s.ay.length+b<10000/\s.log.length+b<10000
section
variable {rs:List Rw} {o L:Nat} {s:Ls} {r:Rw} {s':Ms}
theorem K4 (h:Jc s 1):K5 200 r { jb L s with pl:=.int ((L:Int)+1) }=wm 200 r { jb L s with pl:=.int ((L:Int)+1) } ⟨s.hs.map (mv s.ms),s.pl,.ai⟩ []:=by
 obtain ⟨h1,h2,h3,h4,h5⟩:=h
 have hl:lim=900000:=rfl
 refine if_pos ⟨?_,?_,?_,?_,?_,?_⟩
 ·show (s.vs.map (mv s.ms)).length<lim
  rw [List.length_map];omega
 ·show s.ay.length<lim
  omega
 ·show s.log.length<lim
  omega
 ·show (s.hs.map (mv s.ms)).length<lim
  rw [List.length_map];omega
 ·show s.pl.length<lim
  omega
 ·exact (by decide:(0:Nat)<lim)
theorem mw (h:Jc s 1) (hr:rs[L]? = some r) (hm:wm 200 r { jb L s with pl:=.int ((L:Int)+1) } ⟨s.hs.map (mv s.ms),s.pl,.ai⟩ []=.ok s'):xm rs (jb L s) s' 1:=fun N=>by
 rw [Nat.add_comm,Lw (L:=L) rfl rfl hr,K4 h,hm];rfl
theorem oneX (h:Jc s 1) (hr:rs[L]? = some r) (hm:wm 200 r { jb L s with pl:=.int ((L:Int)+1) } ⟨s.hs.map (mv s.ms),s.pl,.ai⟩ []=.exc 1):Mv rs (jb L s) 1:=fun N=>by
 rw [Nat.add_comm,Lw (L:=L) rfl rfl hr,K4 h,hm];rfl
end
noncomputable def uK (n:Nat):D:=.tup [.str (w "lay"), .int (n:Int)]
noncomputable def Lb (n:Nat):D:=.tup [.str (w "look"), .int (n:Int)]
noncomputable def KP (n:Nat):D:=.tup [.str (w "open"), .int (n:Int)]
noncomputable def MQ (n:Nat):D:=.tup [.str (w "shut"), .int (n:Int)]
inductive l8 (o:Nat) (s:Ls):Rw->Ls->Prop
 | num {i:Int}:l8 o s (.num i) { s with vs:=s.vs++[.int i] }
 | nil:l8 o s .nil { s with vs:=s.vs++[.ai] }
 | keep {v:List Lv} {x:Lv}:s.vs=v++[x]->l8 o s .keep { s with vs:=v,hs:=s.hs++[x] }
 | loc {i:Nat} {x:Lv}:s.hs[i]? = some x->l8 o s (.loc i) { s with vs:=s.vs++[x] }
 | none {v:List Lv}:s.vs=v++[.ai]->l8 o s .none { s with vs:=v++[.int 1] }
 | ay:l8 o s .ay { s with pl:=s.pl++[s.ay.length],ay:=s.ay++[true],log:=s.log++[KP s.ay.length] }
 | nO {p:List Nat} {n:Nat}:s.pl=p++[n]->o<=p.length->l8 o s .nO { s with pl:=p,ay:=s.ay.set n false,log:=s.log++[MQ n] }
 | lay {c:Bool} {i n:Nat} {v:List Lv} {a b:Lv}:s.vs=v++[a]++[b]->s.pl[i]? = some n->(c=true->HN s.cs b)->1+cY s.cs a+cY s.cs b<=1000 ->
   l8 o s (.lay c i) { s with vs:=v++[.aZ s.cs.length],cs:=s.cs++[⟨c,a,b,n,1+cY s.cs a+cY s.cs b⟩],ms:=s.ms++[dQ s.ms ⟨c,a,b,n,1+cY s.cs a+cY s.cs b⟩],log:=s.log++[uK n] }
 | look {t:Bool} {k:Nat} {c:Cl} {v:List Lv}:s.vs=v++[.aZ k]->s.cs[k]? = some c->c.fd∈s.pl->l8 o s (.look c.c t) { s with vs:=v++[if t then c.dU else c.one],log:=s.log++[Lb c.fd] }
end bI
end
section
namespace bI
open Fg PySem
section
variable {o L:Nat} {s s':Ls} {r:Rw} {rs:List Rw}
theorem nA {ms:List D} {x:D} {c:Cl} (h1:dm ms.length c.one) (h2:dm ms.length c.dU):dQ (ms++[x]) c=dQ ms c:=by
 unfold dQ;rw [r9 h1,r9 h2]
theorem l8.good (G:Good o s) (S:l8 o s r s'):Good o s':=by
 obtain ⟨g1,g2,g3,g4,g5,g6,g7,ext,g8⟩:=G
 have xA:∀ {v:List Lv} {x:Lv},s.vs=v++[x]->(∀ y∈v,dm s.cs.length y)/\dm s.cs.length x:=fun e=>⟨fun y hy=>g3 y (by rw [e];exact List.mem_append_left _ hy),g3 _ (by rw [e];simp)⟩
 have snoc:∀ {v:List Lv} {x:Lv} {n:Nat},(∀ y∈v,dm n y)->dm n x->∀ y∈v++[x],dm n y:=fun h1 h2 y hy=>(List.mem_append.mp hy).elim (h1 y) fun z=>by rw [List.mem_singleton.mp z];exact h2
 cases S with
 | num=>exact ⟨g1,g2,snoc g3 trivial,g4,g5,g6,g7,ext,g8⟩
 | nil=>exact ⟨g1,g2,snoc g3 trivial,g4,g5,g6,g7,ext,g8⟩
 | keep e=>exact ⟨g1,g2,(xA e).1,snoc g4 (xA e).2,g5,g6,g7,ext,g8⟩
 | loc e=>exact ⟨g1,g2,snoc g3 (g4 _ (List.mem_of_getElem? e)),g4,g5,g6,g7,ext,g8⟩
 | none e=>exact ⟨g1,g2,snoc (xA e).1 trivial,g4,g5,g6,g7,ext,g8⟩
 | ay =>
  refine ⟨g1,fun k c h=>?_,g3,g4,fun n hn=>?_,fun n hn=>?_,?_,ext++[s.ay.length],by show s.pl++_=_;rw [g8,List.append_assoc]⟩
  ·obtain ⟨h1,h2,h3,h4,h5,h6⟩:=g2 k c h
   exact ⟨h1,h2,h3,h4,by show c.fd<(s.ay++[true]).length;simp;omega,h6⟩
  ·show (s.ay++[true])[n]? = some (decide (n∈s.pl++[s.ay.length]))
   have hn':n<s.ay.length+1:=by simpa using hn
   by_cases hq:n<s.ay.length
   ·rw [List.getElem?_append_left hq,g5 n hq]
    congr 1
    have:n≠s.ay.length:=by omega
    simp [this]
   ·have:n=s.ay.length:=by omega
    subst this
    simp
  ·show n<(s.ay++[true]).length
   rcases List.mem_append.mp hn with hn | hn
   ·have:=g6 n hn;simp;omega
   ·rw [List.mem_singleton.mp hn];simp
  ·show (s.pl++[s.ay.length]).Nodup
   refine List.nodup_append.mpr ⟨g7,by simp,fun a ha b hb=>?_⟩
   rw [List.mem_singleton.mp hb]
   have:=g6 a ha
   omega
 | @nO p n e hl =>
  have nd:p.Nodup/\n∉p:=by
   rw [e] at g7
   have:=List.nodup_append.mp g7
   exact ⟨this.1,fun h=>this.2.2 n h n (by simp) rfl⟩
  refine ⟨g1,fun k c h=>?_,g3,g4,fun m hm=>?_,fun m hm=>?_,nd.1,?_⟩
  ·obtain ⟨h1,h2,h3,h4,h5,h6⟩:=g2 k c h
   exact ⟨h1,h2,h3,h4,by show c.fd<(s.ay.set n false).length;rw [List.length_set];exact h5,h6⟩
  ·show (s.ay.set n false)[m]? = some (decide (m∈p))
   have hm':m<s.ay.length:=by simpa using hm
   by_cases hq:m=n
   ·subst hq
    rw [List.getElem?_set_self hm',decide_eq_false nd.2]
   ·rw [List.getElem?_set_ne (fun z=>hq z.symm),g5 m hm',e]
    congr 1
    simp [hq]
  ·show m<(s.ay.set n false).length
   rw [List.length_set]
   exact g6 m (by rw [e];exact List.mem_append_left _ hm)
  ·have e2:p++[n]=List.range o++ext:=by rw [<- e,g8]
   have hlen:=congrArg List.length e2
   simp at hlen
   refine ⟨ext.dropLast,?_⟩
   have e3:=congrArg List.dropLast e2
   rw [List.dropLast_concat,List.dropLast_append_of_ne_nil (by intro z;rw [z] at hlen;simp at hlen;omega)] at e3
   exact e3
 | @lay c i n v a b e hi hc hs =>
  have hvb:=xA (v:=v++[a]) (x:=b) e
  have hb:dm s.cs.length b:=hvb.2
  have ha:dm s.cs.length a:=hvb.1 a (by simp)
  have hv:∀ y∈v,dm s.cs.length y:=fun y hy=>hvb.1 y (by simp [hy])
  refine ⟨by simp [g1],fun k d h=>?_,?_,fun y hy=>(g4 y hy).mono (by simp),g5,g6,g7,ext,g8⟩
  ·have h':(s.cs++[⟨c,a,b,n,1+cY s.cs a+cY s.cs b⟩])[k]? = some d:=h
   by_cases hk:k<s.cs.length
   ·rw [List.getElem?_append_left hk] at h'
    obtain ⟨h1,h2,h3,h4,h5,h6,h7⟩:=g2 k d h'
    have o1:dm s.cs.length d.one:=h2.mono (by omega)
    have o2:dm s.cs.length d.dU:=h3.mono (by omega)
    refine ⟨?_,h2,h3,fun z=>uW (h4 z),h5,?_,h7⟩
    ·show (s.ms++[_])[k]? = some (dQ (s.ms++[_]) d)
     rw [List.getElem?_append_left (by omega),h1,nA (by rw [g1];exact o1) (by rw [g1];exact o2)]
    ·show d.sz=1+cY (s.cs++[_]) d.one+cY (s.cs++[_]) d.dU
     rw [j7 o1,j7 o2];exact h6
   ·have hk2:k=s.cs.length:=by
     have:=(List.getElem?_eq_some_iff.mp h').1
     simp at this;omega
    subst hk2
    rw [List.getElem?_append_right (Nat.le_refl _),Nat.sub_self] at h'
    cases h'
    refine ⟨?_,ha,hb,fun z=>uW (hc z),g6 n (List.mem_of_getElem? hi),?_,hs⟩
    ·show (s.ms++[_])[s.cs.length]? = some (dQ (s.ms++[_]) _)
     rw [List.getElem?_append_right (by omega),g1,Nat.sub_self,nA (by rw [g1];exact ha) (by rw [g1];exact hb)];rfl
    ·show _=1+cY (s.cs++[_]) a+cY (s.cs++[_]) b
     rw [j7 ha,j7 hb]
  ·have q:∀ y∈v++[Lv.aZ s.cs.length],dm (s.cs.length+1) y:=snoc (fun y hy=>(hv y hy).mono (by omega)) (Nat.lt_succ_self _)
   intro y hy
   exact (q y hy).mono (by simp)
 | @look t k c v e hk hf =>
  obtain ⟨h1,h2,h3,_⟩:=g2 k c hk
  have hlt:=(List.getElem?_eq_some_iff.mp hk).1
  refine ⟨g1,g2,snoc (xA e).1 ?_,g4,g5,g6,g7,ext,g8⟩
  cases t
  ·exact (show dm s.cs.length c.one from h2.mono (by omega))
  ·exact (show dm s.cs.length c.dU from h3.mono (by omega))
theorem l8.run (G:Good o s) (S:l8 o s r s') (hs:Jc s 1) (hr:rs[L]? = some r):xm rs (jb L s) (jb (L+1) s') 1:=by
 cases S with
 | num=>exact mw hs hr (by simp [wm,jb,mv])
 | nil=>exact mw hs hr (by simp [wm,jb,mv])
 | @keep v x e =>
  refine mw hs hr ?_
  show dX (s.vs.map (mv s.ms)) _=_
  rw [e,List.map_append,List.map_singleton,cG]
  simp [jb]
 | @loc i x e =>
  refine mw hs hr ?_
  show di (s.hs.map (mv s.ms))[i]? _=_
  rw [List.getElem?_map,e]
  simp [di,jb]
 | @none v e =>
  refine mw hs hr ?_
  show dX (s.vs.map (mv s.ms)) _=_
  rw [e,List.map_append,List.map_singleton,cG]
  simp [jb,mv,dY]
 | ay=>exact mw hs hr rfl
 | @nO p n e hl =>
  refine mw hs hr ?_
  show di s.pl.getLast? _=_
  have hn:n<s.ay.length:=G.pl n (by rw [e];simp)
  rw [e,List.getLast?_append]
  simp only [List.getLast?_singleton,Option.some_or,di]
  show (if n<s.ay.length then _ else _)=_
  rw [if_pos hn]
  simp only [jb,List.dropLast_concat];rfl
 | @lay c i n v a b e hi hc hsz =>
  have hb:dm s.cs.length b:=G.vs b (by rw [e];simp)
  have ha:dm s.cs.length a:=G.vs a (by rw [e];simp)
  have hv:∀ y∈v,dm s.ms.length y:=fun y hy=>by rw [G.len];exact G.vs y (by rw [e];simp [hy])
  have hn:=G.op n (G.pl n (List.mem_of_getElem? hi))
  rw [decide_eq_true (List.mem_of_getElem? hi)] at hn
  refine mw hs hr ?_
  show dX (s.vs.map (mv s.ms)) _=_
  rw [e,List.map_append,List.map_append,List.map_singleton,List.map_singleton,cG,cG]
  show di s.pl[i]? _=_
  rw [hi]
  show di s.ay[n]? _=_
  rw [hn]
  show (if 1000<1+cD (mv s.ms a)+cD (mv s.ms b) then Rz.exc 1 else _)=_
  have es:1+cD (mv s.ms a)+cD (mv s.ms b)=((1+cY s.cs a+cY s.cs b:Nat):Int):=by rw [G.sz ha,G.sz hb];omega
  rw [es,if_neg (by omega),if_pos rfl]
  have h1:mv (s.ms++[dQ s.ms ⟨c,a,b,n,1+cY s.cs a+cY s.cs b⟩]) (.aZ s.cs.length)=dQ s.ms ⟨c,a,b,n,1+cY s.cs a+cY s.cs b⟩:=by
   show (s.ms++[_]).getD s.cs.length .ai=_
   rw [<- G.len,List.getD_eq_getElem?_getD];simp
  simp only [jb,List.map_append,List.map_cons,List.map_nil,h1,uJ hv,uJ (fun y hy=>by rw [G.len];exact G.hs y hy:∀ y∈s.hs,dm s.ms.length y)]
  rfl
 | @look t k c v e hk hf =>
  obtain ⟨h1,h2,h3,_⟩:=G.at_ k c hk
  have hn:=G.op c.fd (G.pl _ hf)
  rw [decide_eq_true hf] at hn
  refine mw hs hr ?_
  show dX (s.vs.map (mv s.ms)) _=_
  rw [e,List.map_append,List.map_singleton,cG]
  have h4:mv s.ms (.aZ k)=dQ s.ms c:=by
   show s.ms.getD k .ai=_
   rw [List.getD_eq_getElem?_getD,h1];rfl
  rw [h4]
  show di s.ay[(c.fd:Int).toNat]? _=_
  rw [Int.toNat_natCast,hn]
  cases t <;> simp [di,jb,Lb]
theorem layX {c:Bool} {i n:Nat} {v:List Lv} {a b:Lv} (G:Good o s) (hs:Jc s 1) (hr:rs[L]? = some (.lay c i)) (e:s.vs=v++[a]++[b]) (hi:s.pl[i]? = some n) (hsz:1000<1+cY s.cs a+cY s.cs b):Mv rs (jb L s) 1:=by
 have hb:dm s.cs.length b:=G.vs b (by rw [e];simp)
 have ha:dm s.cs.length a:=G.vs a (by rw [e];simp)
 have hn:=G.op n (G.pl n (List.mem_of_getElem? hi))
 refine oneX hs hr ?_
 show dX (s.vs.map (mv s.ms)) _=_
 rw [e,List.map_append,List.map_append,List.map_singleton,List.map_singleton,cG,cG]
 show di s.pl[i]? _=_
 rw [hi]
 show di s.ay[n]? _=_
 rw [hn]
 show (if 1000<1+cD (mv s.ms a)+cD (mv s.ms b) then Rz.exc 1 else _)=_
 have es:1+cD (mv s.ms a)+cD (mv s.ms b)=((1+cY s.cs a+cY s.cs b:Nat):Int):=by rw [G.sz ha,G.sz hb];omega
 rw [es,if_pos (by omega)]
end
end bI
end
section
namespace bI
open Fg PySem
theorem fn22:ah.fn 22=some jP:=rfl
theorem LF:ah.fn 23=some gS:=rfl
theorem HX:ah.fn 24=some lH:=rfl
theorem HW:ah.fn 25=some lG:=rfl
theorem LD:ah.fn 26=some gn:=rfl
theorem CS:ah.fn 27=some lF:=rfl
theorem fn28:ah.fn 28=some lI:=rfl
theorem fn29:ah.fn 29=some iS:=rfl
theorem LC:ah.fn 30=some lJ:=rfl
theorem CQ:ah.fn 31=some jO:=rfl
theorem LB:ah.fn 32=some nh:=rfl
theorem LA:ah.fn 33=some ir:=rfl
theorem fn34:ah.fn 34=some jN:=rfl
theorem Lz:ah.fn 35=some jQ:=rfl
theorem HV:ah.fn 36=some EA:=rfl
noncomputable def mixed (c:Int):Int:=(c % 2147483647+11)*48271*69621 % 2147483629
theorem yT (c:Int):0<=mixed c/\mixed c<2147483629:=by unfold mixed;omega
noncomputable def se (c:Int):Nat:=(mixed c).toNat
theorem Cn (c:Int):mixed c=(se c:Int):=(Int.toNat_of_nonneg (yT c).1).symm
section
variable {M M1 M2:MH} {k:Nat} {Φ:aY} {σ:Sg} {e e':E}
theorem e_lt {a b:Int} {q:Bool} (he:ev Φ e σ M=.ok (.int a) M1) (hx:ev Φ e' σ M1=.ok (.int b) M2) (hq:decide (a<b)=q):ev Φ (.cmp .lt e e') σ M=.ok (.bl q) M2:=by
 rw [eB,he,R.af,hx,R.af,<- hq];rfl
theorem o8 {c:Int}:(aa ah (k+1)).call 22 [.int c] M=.ok (.int (se c:Int)) M:=by
 have e:ev (aa ah k) (.op .mod true (.op .mul true (.op .mul true (.op .add true (.op .mod true (.v 0) (.k (.int 2147483647))) (.k (.int 11))) (.k (.int 48271))) (.k (.int 69621))) (.k (.int 2147483629))) [some (.int c)] M=.ok (.int (mixed c)) M:=by
  simp [rq,gF,small,mixed]
 rw [<- Cn]
 exact aI fn22 rfl (aP e) (aU rfl rfl)
noncomputable def cellAt (ns:List Int) (i:Nat):Nat:=match ns[i]? with
 | some x=>se x
 | none=>se i
theorem L1 {a b:Int} {fz:Bool} (he:ev Φ e σ M=.ok (.int a) M1) (hx:ev Φ e' σ M1=.ok (.int b) M2) (hb:0<b):ev Φ (.op .mod fz e e') σ M=.ok (.int (a % b)) M2:=by
 rw [iW,he,R.af,hx,R.af]
 simp only [rq,gF,decide_eq_true hb,if_true]
theorem L7 {a b:Int} {fz:Bool} (he:ev Φ e σ M=.ok (.int a) M1) (hx:ev Φ e' σ M1=.ok (.int b) M2) (hb:0<b) (hs:b.natAbs<1073741824):ev Φ (.op .fdiv fz e e') σ M=.ok (.int (a / b)) M2:=by
 rw [iW,he,R.af,hx,R.af]
 simp only [rq,gF,decide_eq_true hb,decide_eq_true hs,Bool.and_self,if_true]
theorem cH {a b:Nat} {fz:Bool} (he:ev Φ e σ M=.ok (.int (a:Int)) M1) (hx:ev Φ e' σ M1=.ok (.int (b:Int)) M2) (hb:0<b):ev Φ (.op .mod fz e e') σ M=.ok (.int ((a % b:Nat):Int)) M2:=by
 rw [L1 he hx (by omega),Int.natCast_emod]
theorem lP {a b:Nat} {fz:Bool} (he:ev Φ e σ M=.ok (.int (a:Int)) M1) (hx:ev Φ e' σ M1=.ok (.int (b:Int)) M2) (hb:0<b) (hs:b<1073741824):ev Φ (.op .fdiv fz e e') σ M=.ok (.int ((a / b:Nat):Int)) M2:=by
 rw [L7 he hx (by omega) (by omega),Int.natCast_ediv]
theorem gv {a b:Nat} {fz:Bool} (he:ev Φ e σ M=.ok (.int (a:Int)) M1) (hx:ev Φ e' σ M1=.ok (.int (b:Int)) M2):ev Φ (.op .add fz e e') σ M=.ok (.int ((a+b:Nat):Int)) M2:=by
 rw [Ad he hx];rfl
theorem eU {a b:Nat} (he:ev Φ e σ M=.ok (.int (a:Int)) M1) (hx:ev Φ e' σ M1=.ok (.int (b:Int)) M2):ev Φ (.cmp .eq e e') σ M=.ok (.bl (decide (a=b))) M2:=by
 rw [eB,he,R.af,hx,R.af]
 have:decide ((a:Int)=(b:Int))=decide (a=b):=by
  by_cases h:a=b
  ·simp [h]
  ·rw [decide_eq_false h,decide_eq_false (by omega)]
 simp only [bu,w9,Js,top,bw,Fg.plain,dep,Bool.and_self,Nat.zero_le,decide_true,Bool.or_self,if_true,jS,this]
theorem iZ {a b:Nat} (he:ev Φ e σ M=.ok (.int (a:Int)) M1) (hx:ev Φ e' σ M1=.ok (.int (b:Int)) M2):ev Φ (.cmp .gt e e') σ M=.ok (.bl (decide (b<a))) M2:=by
 refine e_gt he hx ?_
 by_cases h:b<a
 ·rw [decide_eq_true h,decide_eq_true (by omega)]
 ·rw [decide_eq_false h,decide_eq_false (by omega)]
theorem oS {x:Bool} (h:ev Φ e σ M=.ok (.bl x) M):ev Φ (.ou .int e) σ M=.ok (.int ((if x then 1 else 0:Nat):Int)) M:=by
 rw [Il,h,R.af];cases x <;> rfl
theorem Iq {x:Nat} {fz:Bool} (hx:ev Φ e σ M=.ok (.int (x:Int)) M):ev Φ (.op .mul fz (.k (.int 6)) e) σ M=.ok (.int ((6*x:Nat):Int)) M:=by
 rw [iW,wN,R.af,hx,R.af]
 have:small 6=true:=by decide +kernel
 simp only [rq,gF,this,Bool.true_or,if_true];rfl
theorem qR {ns:List Int} {i:Nat}:(aa ah (k+2)).call 23 [.lst (ns.map D.int),.int i] M=.ok (.int (cellAt ns i:Int)) M:=by
 have e0:ev (aa ah (k+1)) (.blt .len true (.cons (.v 0) .nil)) [some (.lst (ns.map D.int)),some (.int i)] M=.ok (.int (ns.length:Int)) M:=by
  simp [sX,tK,vw]
 have e1:ev (aa ah (k+1)) (.cmp .lt (.v 1) (.blt .len true (.cons (.v 0) .nil))) [some (.lst (ns.map D.int)),some (.int i)] M=.ok (.bl (decide ((i:Int)<ns.length))) M:=e_lt rfl e0 rfl
 by_cases hi:i<ns.length
 ·have hi':(i:Int)<ns.length:=by omega
  rw [decide_eq_true hi'] at e1
  have eg:ns[i]? = some ns[i]:=List.getElem?_eq_getElem hi
  have e2:ev (aa ah (k+1)) (.idx (.v 0) (.v 1)) [some (.lst (ns.map D.int)),some (.int i)] M=.ok (.int ns[i]) M:=nt (xs:=ns.map D.int) rfl rfl (cz (by rw [List.getElem?_map,eg];rfl))
  have ec:cellAt ns i=se ns[i]:=by unfold cellAt;rw [eg]
  rw [ec]
  exact aI LF rfl (bR e1 (aP ((bP e2).trans o8))) (aU rfl rfl)
 ·have hi':¬ (i:Int)<ns.length:=by omega
  rw [decide_eq_false hi'] at e1
  have ec:cellAt ns i=se i:=by unfold cellAt;rw [List.getElem?_eq_none (by omega)]
  rw [ec]
  exact aI LF rfl ((aK e1).trans (aP ((bP (e_v rfl)).trans o8))) (aU rfl rfl)
theorem mV {n:Nat}:eK 0 (n:Int)=nats (List.range n):=by simp [eK,nats]
theorem oQ {n:Nat} (he:ev Φ e σ M=.ok (.int (n:Int)) M1) (hn:n<=1000000):bO Φ (.eF e) σ M=.ok (.ai,nats (List.range n),false) M1:=by
 rw [<- mV];exact EL he hn
theorem uN {elt:E} {f:Nat->D} {i:Nat} {ch:MH->Bool} (hc:ch M=true):∀ (ks:List Nat) (σ:Sg) (acc:List D),(∀ j∈ks,ev Φ elt (σ.set i (some (.int (j:Int)))) M=.ok (f j) M)->acc.length+ks.length<=1000->bL (nj Φ .none) (ev Φ elt) [i] ch (nats ks) σ M acc=.ok (acc++ks.map f) M
 | [],σ,acc,_,_=>by simp [bL,nats]
 | j::ks,σ,acc,h,hl=>by
  simp only [List.length_cons] at hl
  rw [show nats (j::ks)=.int (j:Int)::nats ks from rfl,zd (h j List.mem_cons_self) hc (Nat.lt_of_lt_of_le (by omega) (by decide:1001<=line)),uN hc ks _ (acc++[f j]) (fun a ha=>by rw [List.set_set];exact h a (List.mem_cons_of_mem _ ha)) (by simp;omega)]
  simp
theorem oW {f:Nat} {a b c d:E} {x y z u:D} (h1:ev Φ a σ M=.ok x M) (h2:ev Φ b σ M=.ok y M) (h3:ev Φ c σ M=.ok z M) (h4:ev Φ d σ M=.ok u M):ev Φ (.call f (.cons a (.cons b (.cons c (.cons d .nil))))) σ M=Φ.call f [x,y,z,u] M:=by
 simp only [bh,aQ,cy,h1,h2,h3,h4,R.af]
theorem aL {es:Es} {x:D} {xs:List D} (h:ev Φ e σ M=.ok x M) (h':cV Φ es σ M=.ok xs M):cV Φ (.cons e es) σ M=.ok (x::xs) M:=by rw [aQ,h,R.af,h'];rfl
theorem lO {x:Bool} (h:ev Φ e σ M=.ok (.bl x) M):ev Φ (.not e) σ M=.ok (.bl (!x)) M:=by rw [zY,h];rfl
theorem ze {elt:E} {f:Nat->D} {i:Nat} {ch:MH->Bool} (hc:ch M=true) {ks:List Nat} {σ:Sg} (h:∀ j∈ks,ev Φ elt (σ.set i (some (.int (j:Int)))) M=.ok (f j) M) (hl:ks.length<=1000):bL (nj Φ .none) (ev Φ elt) [i] ch (nats ks) σ M []=.ok (ks.map f) M:=by
 have:=uN (Φ:=Φ) (M:=M) (elt:=elt) (f:=f) (i:=i) (ch:=ch) hc ks σ [] h (by simpa using hl)
 simpa using this
end
section
variable {k:Nat} {Φ:aY} {σ σ':Sg} {c e e':E} {a b:Ss} {M M':MH} {x y:Bool}
theorem Aa (h:ev Φ e σ M=.ok (.bl x) M) (h':x=false->ev Φ e' σ M=.ok (.bl y) M):ev Φ (.or e e') σ M=.ok (.bl (x||y)) M:=by
 rw [LU,h,R.af]
 cases x with
 | true=>rfl
 | false=>exact h' rfl
theorem gu (h:ev Φ e σ M=.ok (.bl x) M) (h':ev Φ e' σ M=.ok (.bl y) M):ev Φ (.and e e') σ M=.ok (.bl (x&&y)) M:=by
 rw [jx,h,R.af]
 cases x with
 | true=>exact h'
 | false=>rfl
theorem dO (hc:ev Φ c σ M=.ok (.bl false) M) (h:exs Φ b σ M=.ok (.nx σ') M'):exs Φ (.cons (.ifs c a b) .nil) σ M=.ok (.nx σ') M':=(je hc h).trans rfl
theorem mL (hc:ev Φ c σ M=.ok (.bl true) M) (h:exs Φ a σ M=.ok (.nx σ') M'):exs Φ (.cons (.ifs c a b) .nil) σ M=.ok (.nx σ') M':=(jF hc h).trans rfl
end
theorem snoc {α:Type} {xs:List α} (h:0<xs.length):∃ ys y,xs=ys++[y]:=by
 cases hx:xs.reverse with
 | nil=>rw [List.reverse_eq_nil_iff] at hx;subst hx;exact absurd h (Nat.lt_irrefl 0)
 | cons y ys=>exact ⟨ys.reverse,y,by rw [<- List.reverse_reverse xs,hx];simp⟩
end bI
end
section
namespace bI
open Fg PySem
noncomputable def MM (s:Ls) (r:List Rw):MH:=[.lst (s.cs.map Cl.d),.lst (nats s.pl),.lst s.log,.lst (r.map Rw.d),.lst (s.vs.map Lv.d),.lst (s.hs.map Lv.d)]
noncomputable def jE:D:=.tup [.ref 0,.ref 1,.ref 2]
section
variable {k i:Nat} {Φ:aY} {σ:Sg} {e e':E} {s:Ls} {r:List Rw} {n:Nat}
theorem xg {a:Rw} (hi:σ[i]? = some (some (.ref 3))) (he:ev Φ e σ (MM s r)=.ok a.d (MM s r)) (hl:r.length<90000):ev Φ (.aG .append true (.v i) (.cons e .nil)) σ (MM s r)=.ok .ai (MM s (r++[a])):=by
 rw [dP (e_v (M:=MM s r) hi) (ys:=r.map Rw.d) rfl he (xs:=r.map Rw.d) rfl (by rw [List.length_map];exact Nat.lt_of_lt_of_le hl (by decide))];simp [MM]
theorem Mn {x:Lv} (hi:σ[i]? = some (some (.ref 4))) (he:ev Φ e σ (MM s r)=.ok x.d (MM s r)) (hl:s.vs.length<90000):ev Φ (.aG .append true (.v i) (.cons e .nil)) σ (MM s r)=.ok .ai (MM { s with vs:=s.vs++[x] } r):=by
 rw [dP (e_v (M:=MM s r) hi) (ys:=s.vs.map Lv.d) rfl he (xs:=s.vs.map Lv.d) rfl (by rw [List.length_map];exact Nat.lt_of_lt_of_le hl (by decide))];simp [MM]
theorem apH {x:Lv} {s':Ls} (hi:σ[i]? = some (some (.ref 5))) (he:ev Φ e σ (MM s r)=.ok x.d (MM s' r)) (hh:s'.hs=s.hs) (hl:s.hs.length<90000):ev Φ (.aG .append true (.v i) (.cons e .nil)) σ (MM s r)=.ok .ai (MM { s' with hs:=s.hs++[x] } r):=by
 rw [dP (e_v (M:=MM s r) hi) (ys:=s.hs.map Lv.d) rfl he (xs:=s.hs.map Lv.d) (by rw [<- hh];rfl) (by rw [List.length_map];exact Nat.lt_of_lt_of_le hl (by decide))];simp [MM]
theorem apC {x:Cl} (hi:σ[i]? = some (some (.ref 0))) (he:ev Φ e σ (MM s r)=.ok x.d (MM s r)) (hl:s.cs.length<90000):ev Φ (.aG .append true (.v i) (.cons e .nil)) σ (MM s r)=.ok .ai (MM { s with cs:=s.cs++[x] } r):=by
 rw [dP (e_v (M:=MM s r) hi) (ys:=s.cs.map Cl.d) rfl he (xs:=s.cs.map Cl.d) rfl (by rw [List.length_map];exact Nat.lt_of_lt_of_le hl (by decide))];simp [MM]
theorem apP {x:Nat} (hi:σ[i]? = some (some (.ref 1))) (he:ev Φ e σ (MM s r)=.ok (.int (x:Int)) (MM s r)) (hl:s.pl.length<90000):ev Φ (.aG .append true (.v i) (.cons e .nil)) σ (MM s r)=.ok .ai (MM { s with pl:=s.pl++[x] } r):=by
 rw [dP (e_v (M:=MM s r) hi) (ys:=nats s.pl) rfl he (xs:=nats s.pl) rfl (by rw [nats,List.length_map];exact Nat.lt_of_lt_of_le hl (by decide))];simp [MM,nats]
theorem Mp {x:D} {s':Ls} (hi:σ[i]? = some (some (.ref 2))) (he:ev Φ e σ (MM s r)=.ok x (MM s' r)) (hh:s'.log=s.log) (hl:s.log.length<90000):ev Φ (.aG .append true (.v i) (.cons e .nil)) σ (MM s r)=.ok .ai (MM { s' with log:=s.log++[x] } r):=by
 rw [dP (e_v (M:=MM s r) hi) (ys:=s.log) rfl he (xs:=s.log) (by rw [<- hh];rfl) (Nat.lt_of_lt_of_le hl (by decide))];simp [MM]
theorem Kr {v:List Lv} {x:Lv} (hi:σ[i]? = some (some (.ref 4))) (hv:s.vs=v++[x]):ev Φ (.aG .pop true (.v i) .nil) σ (MM s r)=.ok x.d (MM { s with vs:=v } r):=by
 rw [jA (Φ:=Φ) (p:=v.map Lv.d) (x:=x.d) (e_v (M:=MM s r) hi) (by simp [MM,hv])];simp [MM]
theorem poP {p:List Nat} {x:Nat} (hi:σ[i]? = some (some (.ref 1))) (hv:s.pl=p++[x]):ev Φ (.aG .pop true (.v i) .nil) σ (MM s r)=.ok (.int (x:Int)) (MM { s with pl:=p } r):=by
 rw [jA (Φ:=Φ) (p:=nats p) (x:=.int (x:Int)) (e_v (M:=MM s r) hi) (by simp [MM,hv,nats])];simp [MM]
theorem Lc (he:ev Φ e σ (MM s r)=.ok (.ref 4) (MM s r)):ev Φ (.blt .len true (.cons e .nil)) σ (MM s r)=.ok (.int (s.vs.length:Int)) (MM s r):=by
 rw [e_len he (xs:=s.vs.map Lv.d) rfl,List.length_map]
theorem leH (he:ev Φ e σ (MM s r)=.ok (.ref 5) (MM s r)):ev Φ (.blt .len true (.cons e .nil)) σ (MM s r)=.ok (.int (s.hs.length:Int)) (MM s r):=by
 rw [e_len he (xs:=s.hs.map Lv.d) rfl,List.length_map]
theorem M8 (he:ev Φ e σ (MM s r)=.ok (.ref 1) (MM s r)):ev Φ (.blt .len true (.cons e .nil)) σ (MM s r)=.ok (.int (s.pl.length:Int)) (MM s r):=by
 rw [e_len he (xs:=nats s.pl) rfl,nats,List.length_map]
theorem leC (he:ev Φ e σ (MM s r)=.ok (.ref 0) (MM s r)):ev Φ (.blt .len true (.cons e .nil)) σ (MM s r)=.ok (.int (s.cs.length:Int)) (MM s r):=by
 rw [e_len he (xs:=s.cs.map Cl.d) rfl,List.length_map]
theorem ixC {c:Cl} {j:Nat} (he:ev Φ e σ (MM s r)=.ok (.ref 0) (MM s r)) (hx:ev Φ e' σ (MM s r)=.ok (.int (j:Int)) (MM s r)) (hc:s.cs[j]? = some c):ev Φ (.idx e e') σ (MM s r)=.ok c.d (MM s r):=fS he hx rfl (cz (by rw [List.getElem?_map,hc];rfl))
theorem Mm {α:Type} {a b c d f:α} {l:List α}:dc (a::b::c::d::f::l) 4=some f:=cz (i:=4) rfl
theorem rj {s0:Ls} {r0:List Rw} {d:D} (h:nr 6 d=true):eL false (MM s0 r0) d (MM s r)=.ok d (MM s r):=aU h rfl
noncomputable def kF (cs:List Cl):Lv->Str
 | .int _=>w "number"
 | .ai=>w "cons"
 | .aZ k=>match cs[k]? with | some c=>layW c.c | none=>w "pair"
theorem EO {v:Lv} (h:dm s.cs.length v):(aa ah (k+1)).call 24 [.ref 0,v.d] (MM s r)=.ok (.int (cY s.cs v:Int)) (MM s r):=by
 cases v with
 | aZ j =>
  have hj:s.cs[j]? = some s.cs[j]:=List.getElem?_eq_getElem h
  have e1:ev (aa ah k) (.fV (.v 1) .tuple) [some (.ref 0),some (Lv.aZ j).d] (MM s r)=.ok (.bl true) (MM s r):=rfl
  have e2:ev (aa ah k) (.idx (.idx (.v 0) (.idx (.v 1) (.k (.int 0)))) (.k (.int 4))) [some (.ref 0),some (Lv.aZ j).d] (MM s r)=.ok (.int (s.cs[j].sz:Int)) (MM s r):=aC (ixC rfl (aC rfl rfl bf) hj) rfl Mm
  have e3:cY s.cs (.aZ j)=s.cs[j].sz:=by show (match s.cs[j]? with | some c=>c.sz | none=>1)=_;rw [hj]
  rw [e3]
  exact aI HX rfl (bR e1 (aP e2)) (rj rfl)
 | int _=>exact aI HX rfl ((aK (c:=.fV (.v 1) .tuple) rfl).trans (aP rfl)) (rj rfl)
 | ai=>exact aI HX rfl ((aK (c:=.fV (.v 1) .tuple) rfl).trans (aP rfl)) (rj rfl)
theorem IF {v:Lv} (h:dm s.cs.length v):(aa ah (k+1)).call 25 [.ref 0,v.d] (MM s r)=.ok (.str (kF s.cs v)) (MM s r):=by
 cases v with
 | aZ j =>
  have hj:s.cs[j]? = some s.cs[j]:=List.getElem?_eq_getElem h
  have e1:ev (aa ah k) (.fV (.v 1) .tuple) [some (.ref 0),some (Lv.aZ j).d] (MM s r)=.ok (.bl true) (MM s r):=rfl
  have e2:ev (aa ah k) (.idx (.idx (.v 0) (.idx (.v 1) (.k (.int 0)))) (.k (.int 0))) [some (.ref 0),some (Lv.aZ j).d] (MM s r)=.ok (.str (layW s.cs[j].c)) (MM s r):=aC (ixC rfl (aC rfl rfl bf) hj) rfl bf
  have e3:kF s.cs (.aZ j)=layW s.cs[j].c:=by show (match s.cs[j]? with | some c=>layW c.c | none=>w "pair")=_;rw [hj]
  rw [e3]
  exact aI HW rfl (bR e1 (aP e2)) (rj rfl)
 | int _=>exact aI HW rfl ((aK (c:=.fV (.v 1) .tuple) rfl).trans (aP rfl)) (rj rfl)
 | ai=>exact aI HW rfl ((aK (c:=.fV (.v 1) .tuple) rfl).trans (aP rfl)) (rj rfl)
theorem xS {cs:List Cl} {v:Lv} (h:decide (kF cs v=w "cons")=true):HN cs v:=by
 cases v with
 | int _=>exact absurd (show decide (w "number" = w "cons")=true from h) (by decide +kernel)
 | ai=>trivial
 | aZ j =>
  cases hj:cs[j]? with
  | none =>
   have:kF cs (.aZ j)=w "pair":=by show (match cs[j]? with | some c=>layW c.c | none=>w "pair")=_;rw [hj]
   rw [this] at h;exact absurd h (by decide +kernel)
  | some c =>
   have:kF cs (.aZ j)=layW c.c:=by show (match cs[j]? with | some c=>layW c.c | none=>w "pair")=_;rw [hj]
   rw [this] at h
   refine ⟨c,hj,?_⟩
   cases hc:c.c with
   | true=>rfl
   | false=>rw [hc] at h;exact absurd h (by decide +kernel)
end
end bI
end
section
namespace bI
open Fg PySem
theorem IV {α:Type} {xs:List α} {a b:α}:dc (xs++[a]++[b]) (-2)=some a:=by
 have hl:(xs++[a]++[b]).length=xs.length+2:=by simp
 unfold dc sH
 rw [hl,if_neg (by decide),if_pos (by omega)]
 show (xs++[a]++[b])[((-2:Int)+((xs.length+2:Nat):Int)).toNat]? = _
 rw [show ((-2:Int)+((xs.length+2:Nat):Int)).toNat=xs.length by omega]
 simp
section
variable {k i:Nat} {Φ:aY} {σ:Sg} {e e':E} {s:Ls} {r:List Rw} {n:Nat}
noncomputable def zg (s:Ls) (c:Bool) (f:Nat) (v:List Lv) (a b:Lv):Ls:={ s with vs:=v++[.aZ s.cs.length],cs:=s.cs++[⟨c,a,b,f,1+cY s.cs a+cY s.cs b⟩],ms:=s.ms++[dQ s.ms ⟨c,a,b,f,1+cY s.cs a+cY s.cs b⟩],log:=s.log++[uK f] }
noncomputable abbrev sA (n:Nat) (p:List (Option D)):Sg:=[some (.ref 3),some (.ref 4),some jE,some (.int (n:Int)),some (.ref 0),some (.ref 1),some (.ref 2)]++p
theorem wordAt {c:Bool}:dc [D.str (w "pair"), .str (w "cons")] (((if c then 1 else 0:Nat)):Int)=some (.str (layW c)):=by cases c <;> rfl
theorem IG {v:List Lv} {a b:Lv} (hv:s.vs=v++[a]++[b]) (ha:dm s.cs.length a) (hb:dm s.cs.length b) (hp:0<s.pl.length) (h1:s.vs.length<9000) (h2:s.cs.length<9000) (h3:s.log.length<9000) (h4:r.length<9000) :
  ∃ (c:Bool) (j f:Nat),s.pl[j]? = some f/\(c=true->HN s.cs b)/\(aa ah (k+2)).call 28 [.ref 3,.ref 4,jE,.int (n:Int)] (MM s r)=.ok (.int ((1+cY s.cs a+cY s.cs b:Nat):Int)) (MM (zg s c f v a b) (r++[.lay c j])):=by
 let c:Bool:=decide (kF s.cs b=w "cons")&&decide (0<n % 3)
 let j:Nat:=n / 3 % s.pl.length
 have hj:j<s.pl.length:=Nat.mod_lt _ hp
 obtain ⟨f,hf⟩:∃ f,s.pl[j]? = some f:=⟨_,List.getElem?_eq_getElem hj⟩
 let sz:Nat:=1+cY s.cs a+cY s.cs b
 refine ⟨c,j,f,hf,fun hc=>xS (Bool.and_eq_true_iff.mp hc).1,?_⟩
 have u1:ex (aa ah (k+1)) (.nJ [4,5,6] (.v 2)) [some (.ref 3),some (.ref 4),some jE,some (.int (n:Int)),none,none,none,none,none,none,none,none] (MM s r)=.ok (.nx (sA n [none,none,none,none,none])) (MM s r):=rfl
 have ev4:s.vs.map Lv.d=v.map Lv.d++[a.d]++[b.d]:=by rw [hv];simp
 have g4:(MM s r)[4]? = some (.lst (v.map Lv.d++[a.d]++[b.d])):=by rw [<- ev4];rfl
 have e7:ev (aa ah (k+1)) (.idx (.v 1) (.neg (.k (.int 1)))) (sA n [none,none,none,none,none]) (MM s r)=.ok b.d (MM s r):=fS (n:=4) rfl rfl g4 qT
 have e8:ev (aa ah (k+1)) (.idx (.v 1) (.neg (.k (.int 2)))) (sA n [some b.d,none,none,none,none]) (MM s r)=.ok a.d (MM s r):=fS (n:=4) rfl rfl g4 IV
 have e9:ev (aa ah (k+1)) (.idx (.lst true (.cons (.k (.str (w "pair"))) (.cons (.k (.str (w "cons"))) .nil))) (.ou .int (.and (.cmp .eq (.call 25 (.cons (.v 4) (.cons (.v 7) .nil))) (.k (.str (w "cons")))) (.cmp .gt (.op .mod true (.v 3) (.k (.int 3))) (.k (.int 0)))))) (sA n [some b.d, some a.d, none, none, none]) (MM s r)=.ok (.str (layW c)) (MM s r):=by
  have q1:ev (aa ah (k+1)) (.call 25 (.cons (.v 4) (.cons (.v 7) .nil))) (sA n [some b.d,some a.d,none,none,none]) (MM s r)=.ok (.str (kF s.cs b)) (MM s r):=by
   rw [bh,aL (x:=.ref 0) rfl (aL (x:=b.d) rfl rfl),R.af];exact IF hb
  exact nt (xs:=[D.str (w "pair"), .str (w "cons")]) rfl (oS (gu (Ac q1) (iZ (b:=0) (cH (b:=3) rfl rfl (by decide)) rfl))) wordAt
 have e10:ev (aa ah (k+1)) (.op .mod true (.op .fdiv true (.v 3) (.k (.int 3))) (.blt .len true (.cons (.v 5) .nil))) (sA n [some b.d,some a.d,some (.str (layW c)),none,none]) (MM s r)=.ok (.int (j:Int)) (MM s r):=cH (lP (b:=3) rfl rfl (by decide) (by decide)) (M8 rfl) hp
 have a1:=xg (Φ:=aa ah (k+1)) (s:=s) (r:=r) (σ:=sA n [some b.d,some a.d,some (.str (layW c)),some (.int (j:Int)),none]) (i:=0) (a:=.lay c j) (e:=.tup (.cons (.v 9) (.cons (.v 10) .nil))) rfl rfl (by omega)
 have e11:ev (aa ah (k+1)) (.op .add true (.op .add true (.k (.int 1)) (.call 24 (.cons (.v 4) (.cons (.v 8) .nil)))) (.call 24 (.cons (.v 4) (.cons (.v 7) .nil)))) (sA n [some b.d,some a.d,some (.str (layW c)),some (.int (j:Int)),none]) (MM s (r++[.lay c j]))=.ok (.int (sz:Int)) (MM s (r++[.lay c j])):=by
  have q1:ev (aa ah (k+1)) (.call 24 (.cons (.v 4) (.cons (.v 8) .nil))) (sA n [some b.d,some a.d,some (.str (layW c)),some (.int (j:Int)),none]) (MM s (r++[.lay c j]))=.ok (.int (cY s.cs a:Int)) (MM s (r++[.lay c j])):=by
   rw [bh,aL (x:=.ref 0) rfl (aL (x:=a.d) rfl rfl),R.af];exact EO ha
  have q2:ev (aa ah (k+1)) (.call 24 (.cons (.v 4) (.cons (.v 7) .nil))) (sA n [some b.d,some a.d,some (.str (layW c)),some (.int (j:Int)),none]) (MM s (r++[.lay c j]))=.ok (.int (cY s.cs b:Int)) (MM s (r++[.lay c j])):=by
   rw [bh,aL (x:=.ref 0) rfl (aL (x:=b.d) rfl rfl),R.af];exact EO hb
  exact gv (gv (a:=1) rfl q1) q2
 let σ9:Sg:=sA n [some b.d,some a.d,some (.str (layW c)),some (.int (j:Int)),some (.int (sz:Int))]
 have p1:=Kr (Φ:=aa ah (k+1)) (s:=s) (r:=r++[.lay c j]) (σ:=σ9) (i:=1) (v:=v++[a]) (x:=b) rfl hv
 have p2:=Kr (Φ:=aa ah (k+1)) (s:={ s with vs:=v++[a] }) (r:=r++[.lay c j]) (σ:=σ9) (i:=1) (v:=v) (x:=a) rfl rfl
 have hl:v.length<9000:=by rw [hv] at h1;simp at h1;omega
 have a2:=Mn (Φ:=aa ah (k+1)) (s:={ s with vs:=v }) (r:=r++[.lay c j]) (σ:=σ9) (i:=1) (x:=.aZ s.cs.length) (e:=.tup (.cons (.blt .len true (.cons (.v 4) .nil)) .nil)) rfl (by rw [bH,aL (leC rfl) rfl];rfl) (by show v.length<90000;omega)
 have eP:∀ {s':Ls},s'.pl=s.pl->ev (aa ah (k+1)) (.idx (.v 5) (.v 10)) σ9 (MM s' (r++[.lay c j]))=.ok (.int (f:Int)) (MM s' (r++[.lay c j])):=fun {s'} h=>fS (n:=1) rfl rfl (by show some (MO.lst (nats s'.pl))=_;rw [h]) (kW hf)
 have a3:=apC (Φ:=aa ah (k+1)) (s:={ s with vs:=v++[.aZ s.cs.length] }) (r:=r++[.lay c j]) (σ:=σ9) (i:=4) (x:=⟨c,a,b,f,sz⟩) (e:=.tup (.cons (.v 9) (.cons (.v 8) (.cons (.v 7) (.cons (.idx (.v 5) (.v 10)) (.cons (.v 11) .nil)))))) rfl (by rw [bH,aL (x:=.str (layW c)) rfl (aL (x:=a.d) rfl (aL (x:=b.d) rfl (aL (eP (s':={ s with vs:=v++[.aZ s.cs.length] }) rfl) (aL (x:=.int (sz:Int)) rfl rfl))))];rfl) (by show s.cs.length<90000;omega)
 have a4:=Mp (Φ:=aa ah (k+1)) (s:={ s with vs:=v++[.aZ s.cs.length], cs:=s.cs++[⟨c, a, b, f, sz⟩] }) (s':={ s with vs:=v++[.aZ s.cs.length], cs:=s.cs++[⟨c, a, b, f, sz⟩] }) (r:=r++[.lay c j]) (σ:=σ9) (i:=6) (x:=uK f) (e:=.tup (.cons (.k (.str (w "lay"))) (.cons (.idx (.v 5) (.v 10)) .nil))) rfl (by rw [bH, aL (x:=.str (w "lay")) rfl (aL (eP (s':={ s with vs:=v++[.aZ s.cs.length], cs:=s.cs++[⟨c, a, b, f, sz⟩] }) rfl) rfl)];rfl) rfl (by show s.log.length<90000;omega)
 exact aI fn28 rfl ((aX u1).trans ((aq e7).trans ((aq e8).trans ((aq e9).trans ((aq e10).trans ((aJ a1).trans ((aq e11).trans ((aJ p1).trans ((aJ p2).trans ((aJ a2).trans ((aJ a3).trans ((aJ a4).trans (aP rfl))))))))))))) (rj rfl)
theorem Av {v:List Lv} {j:Nat} {c:Cl} (hv:s.vs=v++[.aZ j]) (hc:s.cs[j]? = some c) (h1:s.vs.length<9000) (h3:s.log.length<9000) (h4:r.length<9000) :
  ∃ t:Bool,(aa ah (k+1)).call 29 [.ref 3,.ref 4,jE,.int (n:Int)] (MM s r)=.ok .ai (MM { s with vs:=v++[if t then c.dU else c.one],log:=s.log++[Lb c.fd] } (r++[.look c.c t])):=by
 let t:Bool:=decide (n % 2=1)
 refine ⟨t,?_⟩
 have u1:ex (aa ah k) (.nJ [4,5,6] (.v 2)) [some (.ref 3),some (.ref 4),some jE,some (.int (n:Int)),none,none,none,none,none,none] (MM s r)=.ok (.nx (sA n [none,none,none])) (MM s r):=rfl
 have p1:=Kr (Φ:=aa ah k) (s:=s) (r:=r) (σ:=sA n [none,none,none]) (i:=1) (v:=v) (x:=.aZ j) rfl hv
 have e7:ev (aa ah k) (.idx (.v 4) (.idx (.aG .pop true (.v 1) .nil) (.k (.int 0)))) (sA n [none,none,none]) (MM s r)=.ok c.d (MM { s with vs:=v } r):=by
  have q:ev (aa ah k) (.idx (.aG .pop true (.v 1) .nil) (.k (.int 0))) (sA n [none,none,none]) (MM s r)=.ok (.int (j:Int)) (MM { s with vs:=v } r):=aC p1 rfl bf
  exact fS (n:=0) (xs:=s.cs.map Cl.d) rfl q rfl (cz (by rw [List.getElem?_map,hc];rfl))
 have e8:ev (aa ah k) (.op .mod true (.v 3) (.k (.int 2))) (sA n [some c.d,none,none]) (MM { s with vs:=v } r)=.ok (.int ((n % 2:Nat):Int)) (MM { s with vs:=v } r):=cH (b:=2) rfl rfl (by decide)
 have hl:v.length<9000:=by rw [hv] at h1;simp at h1;omega
 have i1:∃ ws:List D, dc ws ((n % 2:Nat):Int)=some (.str (kZ c.c t))/\ex (aa ah k) (.ifs (.cmp .eq (.idx (.v 7) (.k (.int 0))) (.k (.str (w "pair")))) (.cons (.set 9 (.lst true (.cons (.k (.str (w "first"))) (.cons (.k (.str (w "second"))) .nil)))) .nil) .nil) (sA n [some c.d, some (.int ((n % 2:Nat):Int)), some (.lst [.str (w "head"), .str (w "tail")])]) (MM { s with vs:=v } r)=.ok (.nx (sA n [some c.d, some (.int ((n % 2:Nat):Int)), some (.lst ws)])) (MM { s with vs:=v } r):=by
  have q:ev (aa ah k) (.cmp .eq (.idx (.v 7) (.k (.int 0))) (.k (.str (w "pair")))) (sA n [some c.d, some (.int ((n % 2:Nat):Int)), some (.lst [.str (w "head"), .str (w "tail")])]) (MM { s with vs:=v } r)=.ok (.bl (!c.c)) (MM { s with vs:=v } r):=by
   have:=Ac (Φ:=aa ah k) (σ:=sA n [some c.d, some (.int ((n % 2:Nat):Int)), some (.lst [.str (w "head"), .str (w "tail")])]) (M:=MM { s with vs:=v } r) (e:=.idx (.v 7) (.k (.int 0))) (a:=layW c.c) (b:=w "pair") (aC rfl rfl bf)
   rw [this]
   cases c.c <;> rw [show decide (layW _=w "pair")=_ from by first | exact (by decide +kernel:decide (layW false=w "pair")=true) | exact (by decide +kernel:decide (layW true=w "pair")=false)] <;> rfl
  have hr:n % 2=0\/n % 2=1:=by omega
  cases hcc:c.c with
  | true =>
   rw [hcc] at q
   refine ⟨[.str (w "head"), .str (w "tail")], ?_, by rw [iw, q, R.d8];rfl⟩
   rcases hr with h | h <;> simp only [t,h] <;> rfl
  | false =>
   rw [hcc] at q
   refine ⟨[.str (w "first"), .str (w "second")], ?_, by rw [iw, q, R.d8];rfl⟩
   rcases hr with h | h <;> simp only [t,h] <;> rfl
 obtain ⟨ws,hws,i1⟩:=i1
 let σ9:Sg:=sA n [some c.d,some (.int ((n % 2:Nat):Int)),some (.lst ws)]
 have a1:=xg (Φ:=aa ah k) (s:={ s with vs:=v }) (r:=r) (σ:=σ9) (i:=0) (a:=.look c.c t) (e:=.tup (.cons (.idx (.v 9) (.v 8)) .nil)) rfl (by rw [bH,aL (nt (xs:=ws) rfl rfl hws) rfl];rfl) (by omega)
 have ea:dc [D.str (layW c.c),c.one.d,c.dU.d,.int (c.fd:Int),.int (c.sz:Int)] ((1+n % 2:Nat):Int)=some ((if t then c.dU else c.one:Lv)).d:=by
  have hr:n % 2=0\/n % 2=1:=by omega
  rcases hr with h | h <;> simp only [t,h] <;> rfl
 have a2:=Mn (Φ:=aa ah k) (s:={ s with vs:=v }) (r:=r++[.look c.c t]) (σ:=σ9) (i:=1) (x:=if t then c.dU else c.one) (e:=.idx (.v 7) (.op .add true (.k (.int 1)) (.v 8))) rfl (aC rfl (gv (a:=1) rfl rfl) ea) (by show v.length<90000;omega)
 have a3:=Mp (Φ:=aa ah k) (s:={ s with vs:=v++[if t then c.dU else c.one] }) (s':={ s with vs:=v++[if t then c.dU else c.one] }) (r:=r++[.look c.c t]) (σ:=σ9) (i:=6) (x:=Lb c.fd) (e:=.tup (.cons (.k (.str (w "look"))) (.cons (.idx (.v 7) (.k (.int 3))) .nil))) rfl (by rw [bH, aL (x:=.str (w "look")) rfl (aL (x:=.int (c.fd:Int)) (aC rfl rfl lW) rfl)];rfl) rfl (by show s.log.length<90000;omega)
 exact gw fn29 rfl ((aX u1).trans ((aq e7).trans ((aq e8).trans ((aq rfl).trans ((aX i1).trans ((aJ a1).trans ((aJ a2).trans ((aJ a3).trans rfl)))))))) (rj rfl)
end
end bI
end
section
namespace bI
open Fg PySem
section
variable {k i o:Nat} {Φ:aY} {σ:Sg} {e e':E} {s:Ls} {r:List Rw} {n:Nat}
theorem IJ (G:Good o s) (h3:s.log.length<9000) (h4:r.length<9000) (h5:s.pl.length<9000):∃ (a:Rw) (s':Ls),l8 o s a s'/\(aa ah (k+1)).call 30 [.ref 3,jE,.int (o:Int),.int (s.ay.length:Int),.int (n:Int)] (MM s r)=.ok (.int (s'.ay.length:Int)) (MM s' (r++[a])):=by
 let σ0:Sg:=[some (.ref 3),some jE,some (.int (o:Int)),some (.int (s.ay.length:Int)),some (.int (n:Int)),some (.ref 0),some (.ref 1),some (.ref 2)]
 have u1:ex (aa ah k) (.nJ [5,6,7] (.v 1)) [some (.ref 3),some jE,some (.int (o:Int)),some (.int (s.ay.length:Int)),some (.int (n:Int)),none,none,none] (MM s r)=.ok (.nx σ0) (MM s r):=rfl
 have c0:ev (aa ah k) (.or (.cmp .eq (.op .mod true (.v 4) (.k (.int 2))) (.k (.int 0))) (.cmp .eq (.blt .len true (.cons (.v 6) .nil)) (.v 2))) σ0 (MM s r)=.ok (.bl (decide (n % 2=0)||decide (s.pl.length=o))) (MM s r):=Aa (eU (b:=0) (cH (b:=2) rfl rfl (by decide)) rfl) fun _=>eU (M8 rfl) rfl
 cases hc:(decide (n % 2=0)||decide (s.pl.length=o)) with
 | true =>
  rw [hc] at c0
  refine ⟨.ay,_,.ay,?_⟩
  have a1:=xg (Φ:=aa ah k) (s:=s) (r:=r) (σ:=σ0) (i:=0) (a:=.ay) (e:=.tup (.cons (.k (.str (w "open"))) .nil)) rfl rfl (by omega)
  have a2:=apP (Φ:=aa ah k) (s:=s) (r:=r++[.ay]) (σ:=σ0) (i:=6) (x:=s.ay.length) (e:=.v 3) rfl rfl (by omega)
  have a3:=Mp (Φ:=aa ah k) (s:={ s with pl:=s.pl++[s.ay.length] }) (s':={ s with pl:=s.pl++[s.ay.length] }) (r:=r++[.ay]) (σ:=σ0) (i:=7) (x:=KP s.ay.length) (e:=.tup (.cons (.k (.str (w "open"))) (.cons (.v 3) .nil))) rfl rfl rfl (by show s.log.length<90000;omega)
  have a4:ev (aa ah k) (.op .add true (.v 3) (.k (.int 1))) σ0 (MM { s with pl:=s.pl++[s.ay.length],log:=s.log++[KP s.ay.length] } (r++[.ay]))=.ok (.int ((s.ay.length+1:Nat):Int)) (MM { s with pl:=s.pl++[s.ay.length],log:=s.log++[KP s.ay.length] } (r++[.ay])):=gv (b:=1) rfl rfl
  have el:((s.ay++[true]).length:Int)=((s.ay.length+1:Nat):Int):=by simp
  show _=R.ok (D.int ((s.ay++[true]).length:Int)) _
  rw [el]
  exact aI LC rfl ((aX u1).trans (bR c0 ((aJ a1).trans ((aJ a2).trans ((aJ a3).trans (aP a4)))))) (rj rfl)
 | false =>
  rw [hc] at c0
  simp only [Bool.or_eq_false_iff,decide_eq_false_iff_not] at hc
  obtain ⟨ext,hp⟩:=G.pre
  have hlen:s.pl.length=o+ext.length:=by rw [hp];simp
  obtain ⟨p,m,hpm⟩:=snoc (xs:=s.pl) (by omega)
  have hpl:o<=p.length:=by rw [hpm] at hlen hc;simp at hlen hc;omega
  refine ⟨.nO,_,.nO hpm hpl,?_⟩
  have a1:=xg (Φ:=aa ah k) (s:=s) (r:=r) (σ:=σ0) (i:=0) (a:=.nO) (e:=.tup (.cons (.k (.str (w "shut"))) .nil)) rfl rfl (by omega)
  have q1:=poP (Φ:=aa ah k) (s:=s) (r:=r++[.nO]) (σ:=σ0) (i:=6) rfl hpm
  have a3:=Mp (Φ:=aa ah k) (s:=s) (s':={ s with pl:=p }) (r:=r++[.nO]) (σ:=σ0) (i:=7) (x:=MQ m) (e:=.tup (.cons (.k (.str (w "shut"))) (.cons (.aG .pop true (.v 6) .nil) .nil))) rfl (by rw [bH, lK (x:=.str (w "shut")) rfl q1];rfl) rfl (by omega)
  have el:((s.ay.set m false).length:Int)=(s.ay.length:Int):=by simp
  show _=R.ok (D.int ((s.ay.set m false).length:Int)) _
  rw [el]
  exact aI LC rfl ((aX u1).trans ((aK c0).trans ((aJ a1).trans ((aJ a3).trans (aP rfl))))) (rj rfl)
noncomputable def Stq (o:Nat) (s:Ls) (ws:List Rw) (s':Ls):Prop:=(ws=[]/\s'=s)\/∃ a,ws=[a]/\l8 o s a s'
theorem L3 {a b:Nat} (he:ev Φ e σ (MM s r)=.ok (.int (a:Int)) (MM s r)) (hx:ev Φ e' σ (MM s r)=.ok (.int (b:Int)) (MM s r)):ev Φ (.mx true e e') σ (MM s r)=.ok (.int ((max a b:Nat):Int)) (MM s r):=by
 rw [LV,he,R.af,hx,R.af]
 simp only [if_true]
 by_cases h:(b:Int) > (a:Int)
 ·rw [if_pos h,Nat.max_eq_right (by omega)]
 ·rw [if_neg h,Nat.max_eq_left (by omega)]
theorem Dl (h1:s.vs.length<9000) (h2:s.hs.length<9000) (h4:r.length<9000):∃ (ws:List Rw) (s':Ls),Stq o s ws s'/\s'.ay=s.ay/\(aa ah (k+1)).call 31 [.ref 3,.ref 4,.ref 5,.int (n:Int)] (MM s r)=.ok .ai (MM s' (r++ws)):=by
 let sg (a b:Option D):Sg:=[some (.ref 3),some (.ref 4),some (.ref 5),some (.int (n:Int)),some (.int ((n % 5:Nat):Int)),a,b]
 have e4:ev (aa ah k) (.op .mod true (.v 3) (.k (.int 5))) [some (.ref 3),some (.ref 4),some (.ref 5),some (.int (n:Int)),none,none,none] (MM s r)=.ok (.int ((n % 5:Nat):Int)) (MM s r):=cH (b:=5) rfl rfl (by decide)
 have ltN:∀ {a b:Nat},decide ((a:Int)<(b:Int))=decide (a<b):=fun {a b}=>by
  by_cases h:a<b
  ·rw [decide_eq_true h,decide_eq_true (by omega)]
  ·rw [decide_eq_false h,decide_eq_false (by omega)]
 have cA:ev (aa ah k) (.or (.cmp .lt (.v 4) (.k (.int 2))) (.or (.and (.cmp .eq (.v 4) (.k (.int 4))) (.cmp .eq (.blt .len true (.cons (.v 1) .nil)) (.k (.int 0)))) (.and (.cmp .eq (.v 4) (.k (.int 3))) (.cmp .eq (.blt .len true (.cons (.v 2) .nil)) (.k (.int 0)))))) (sg none none) (MM s r)=.ok (.bl (decide (n % 5<2)||((decide (n % 5=4)&&decide (s.vs.length=0))||(decide (n % 5=3)&&decide (s.hs.length=0))))) (MM s r) :=
  Aa (e_lt (a:=((n % 5:Nat):Int)) (b:=((2:Nat):Int)) rfl rfl ltN) fun _=>Aa (gu (eU (b:=4) rfl rfl) (eU (b:=0) (Lc rfl) rfl)) fun _=>gu (eU (b:=3) rfl rfl) (eU (b:=0) (leH rfl) rfl)
 cases hA:(decide (n % 5<2)||((decide (n % 5=4)&&decide (s.vs.length=0))||(decide (n % 5=3)&&decide (s.hs.length=0)))) with
 | true =>
  rw [hA] at cA
  let b1:Bool:=decide (n % 5=1)
  let x:Lv:=if b1 then .ai else .int ((n / 5 % 1000:Nat):Int)
  let a:Rw:=if b1 then .nil else .num ((n / 5 % 1000:Nat):Int)
  have e5:ev (aa ah k) (.idx (.lst true (.cons (.op .mod true (.op .fdiv true (.v 3) (.k (.int 5))) (.k (.int 1000))) (.cons (.k .ai) .nil))) (.ou .int (.cmp .eq (.v 4) (.k (.int 1))))) (sg none none) (MM s r)=.ok x.d (MM s r):=by
   have q:ev (aa ah k) (.op .mod true (.op .fdiv true (.v 3) (.k (.int 5))) (.k (.int 1000))) (sg none none) (MM s r)=.ok (.int ((n / 5 % 1000:Nat):Int)) (MM s r):=cH (b:=1000) (lP (b:=5) rfl rfl (by decide) (by decide)) rfl (by decide)
   have q2:ev (aa ah k) (.lst true (.cons (.op .mod true (.op .fdiv true (.v 3) (.k (.int 5))) (.k (.int 1000))) (.cons (.k .ai) .nil))) (sg none none) (MM s r)=.ok (.lst [.int ((n / 5 % 1000:Nat):Int),.ai]) (MM s r):=by rw [sW,aL q (aL (x:=.ai) rfl rfl)];rfl
   refine nt q2 (oS (eU (b:=1) rfl rfl)) ?_
   show dc [D.int ((n / 5 % 1000:Nat):Int),.ai] ((if b1 then 1 else 0:Nat):Int)=some (if b1 then Lv.ai else .int ((n / 5 % 1000:Nat):Int)).d
   cases b1 <;> rfl
  have e6:ev (aa ah k) (.idx (.lst true (.cons (.tup (.cons (.k (.str (w "number"))) (.cons (.v 5) .nil))) (.cons (.tup (.cons (.k (.str (w "nil"))) .nil)) .nil))) (.ou .int (.cmp .eq (.v 4) (.k (.int 1))))) (sg (some x.d) none) (MM s r)=.ok a.d (MM s r):=by
   refine nt (xs:=[.tup [.str (w "number"), x.d], .tup [.str (w "nil")]]) rfl (oS (eU (b:=1) rfl rfl)) ?_
   show dc [D.tup [.str (w "number"), (if b1 then Lv.ai else .int ((n / 5 % 1000:Nat):Int)).d], .tup [.str (w "nil")]] ((if b1 then 1 else 0:Nat):Int)=some (if b1 then Rw.nil else .num ((n / 5 % 1000:Nat):Int)).d
   cases b1 <;> rfl
  have a1:=xg (Φ:=aa ah k) (s:=s) (r:=r) (σ:=sg (some x.d) none) (i:=0) (a:=a) rfl e6 (by omega)
  have a2:=Mn (Φ:=aa ah k) (s:=s) (r:=r++[a]) (σ:=sg (some x.d) none) (i:=1) (x:=x) (e:=.v 5) rfl rfl (by omega)
  refine ⟨[a],{ s with vs:=s.vs++[x] },.inr ⟨a,rfl,?_⟩,rfl,gw CQ rfl ((aq e4).trans (mL cA ((aq e5).trans ((aJ a1).trans ((aJ a2).trans rfl))))) (rj rfl)⟩
  show l8 o s (if b1 then Rw.nil else .num ((n / 5 % 1000:Nat):Int)) { s with vs:=s.vs++[if b1 then Lv.ai else .int ((n / 5 % 1000:Nat):Int)] }
  cases b1
  ·exact .num
  ·exact .nil
 | false =>
  rw [hA] at cA
  simp only [Bool.or_eq_false_iff,Bool.and_eq_false_iff,decide_eq_false_iff_not] at hA
  obtain ⟨hA1,hA2,hA3⟩:=hA
  have cB:ev (aa ah k) (.cmp .eq (.v 4) (.k (.int 4))) (sg none none) (MM s r)=.ok (.bl (decide (n % 5=4))) (MM s r):=eU (b:=4) rfl rfl
  by_cases h4':n % 5=4
  ·rw [decide_eq_true h4'] at cB
   obtain ⟨v,x,hv⟩:=snoc (xs:=s.vs) (by rcases hA2 with z | z <;> omega)
   have a1:=xg (Φ:=aa ah k) (s:=s) (r:=r) (σ:=sg none none) (i:=0) (a:=.keep) (e:=.tup (.cons (.k (.str (w "keep"))) .nil)) rfl rfl (by omega)
   have p1:=Kr (Φ:=aa ah k) (s:=s) (r:=r++[.keep]) (σ:=sg none none) (i:=1) rfl hv
   have a2:=apH (Φ:=aa ah k) (s:=s) (s':={ s with vs:=v }) (r:=r++[.keep]) (σ:=sg none none) (i:=2) (x:=x) rfl p1 rfl (by omega)
   exact ⟨[.keep],_,.inr ⟨.keep,rfl,.keep hv⟩,rfl,gw CQ rfl ((aq e4).trans (dO cA (mL cB ((aJ a1).trans ((aJ a2).trans rfl))))) (rj rfl)⟩
  ·rw [decide_eq_false h4'] at cB
   have e6:ev (aa ah k) (.op .mod true (.op .fdiv true (.v 3) (.k (.int 5))) (.mx true (.k (.int 1)) (.blt .len true (.cons (.v 2) .nil)))) (sg none none) (MM s r)=.ok (.int ((n / 5 % max 1 s.hs.length:Nat):Int)) (MM s r):=cH (lP (b:=5) rfl rfl (by decide) (by decide)) (L3 (a:=1) rfl (leH rfl)) (by omega)
   generalize hj:n / 5 % max 1 s.hs.length=j at e6
   have cC:ev (aa ah k) (.cmp .gt (.blt .len true (.cons (.v 2) .nil)) (.k (.int 0))) (sg none (some (.int (j:Int)))) (MM s r)=.ok (.bl (decide (0<s.hs.length))) (MM s r):=iZ (b:=0) (leH rfl) rfl
   by_cases h0:0<s.hs.length
   ·rw [decide_eq_true h0] at cC
    have hlt:j<s.hs.length:=by rw [<- hj,Nat.max_eq_right (by omega)];exact Nat.mod_lt _ h0
    have eg:s.hs[j]? = some s.hs[j]:=List.getElem?_eq_getElem hlt
    have a1:=xg (Φ:=aa ah k) (s:=s) (r:=r) (σ:=sg none (some (.int (j:Int)))) (i:=0) (a:=.loc j) (e:=.tup (.cons (.k (.str (w "local"))) (.cons (.v 6) .nil))) rfl rfl (by omega)
    have a2:=Mn (Φ:=aa ah k) (s:=s) (r:=r++[.loc j]) (σ:=sg none (some (.int (j:Int)))) (i:=1) (x:=s.hs[j]) (e:=.idx (.v 2) (.v 6)) rfl (fS (n:=5) (xs:=s.hs.map Lv.d) rfl rfl rfl (cz (by rw [List.getElem?_map,eg];rfl))) (by omega)
    exact ⟨[.loc j],_,.inr ⟨.loc j,rfl,.loc eg⟩,rfl,gw CQ rfl ((aq e4).trans (dO cA (dO cB ((aq e6).trans (mL cC ((aJ a1).trans ((aJ a2).trans rfl))))))) (rj rfl)⟩
   ·rw [decide_eq_false h0] at cC
    refine ⟨[],s,.inl ⟨rfl,rfl⟩,rfl,?_⟩
    rw [List.append_nil]
    exact gw CQ rfl ((aq e4).trans (dO cA (dO cB ((aq e6).trans ((aK cC).trans rfl))))) (rj rfl)
end
end bI
end
section
namespace bI
open Fg PySem
noncomputable def vG (d:D):Prop:=Fg.plain d=true/\dep d<=1
theorem l8.lp {o:Nat} {s s':Ls} {r:Rw} (S:l8 o s r s') (h:∀ d∈s.log,vG d):∀ d∈s'.log,vG d:=by
 have sn:∀ {x:D},vG x->∀ d∈s.log++[x],vG d:=fun hx d hd=>(List.mem_append.mp hd).elim (h d) fun z=>by rw [List.mem_singleton.mp z];exact hx
 cases S with
 | ay=>exact sn (by simp [vG,KP,Fg.plain,av,dep,deps])
 | nO _ _=>exact sn (by simp [vG,MQ,Fg.plain,av,dep,deps])
 | lay _ _ _ _=>exact sn (by simp [vG,uK,Fg.plain,av,dep,deps])
 | look _ _ _=>exact sn (by simp [vG,Lb,Fg.plain,av,dep,deps])
 | _=>exact h
structure Inv (o:Nat) (s0:Ls) (t:Nat) (r:List Rw) (s:Ls):Prop where
 g:Good o s
 z:s.vs.length<=t/\s.hs.length<=20+t/\s.pl.length<=20+t/\s.ay.length<=20+t/\s.log.length<=20+t/\s.cs.length<=t/\r.length<=t
 run:∀ qZ:List Rw,∃ n,n<=t/\xm (r++qZ) (jb 0 s0) (jb r.length s) n
 lp:∀ d∈s.log,vG d
noncomputable def Gr (s0:Ls) (t:Nat) (r:List Rw):Prop:=∀ qZ:List Rw,∃ n,n<=t/\Mv (r++qZ) (jb 0 s0) n
section
variable {o t:Nat} {s0 s s':Ls} {r:List Rw} {a:Rw}
theorem Inv.sm (I:Inv o s0 t r s) (ht:t<1000):Jc s 1:=by
 obtain ⟨h1,h2,h3,h4,h5,_,_⟩:=I.z
 exact ⟨by omega,by omega,by omega,by omega,by omega⟩
theorem Inv.stp (I:Inv o s0 t r s) (S:l8 o s a s') (ht:t<1000):Inv o s0 (t+1) (r++[a]) s':=by
 refine ⟨S.good I.g,?_,fun qZ=>?_,S.lp I.lp⟩
 ·obtain ⟨h1,h2,h3,h4,h5,h6,h7⟩:=I.z
  cases S with
  | keep e=>rw [e] at h1;simp at h1;exact ⟨by simp;omega,by simp;omega,by simp;omega,by simp;omega,by simp;omega,by simp;omega,by simp;omega⟩
  | none e=>rw [e] at h1;simp at h1;exact ⟨by simp;omega,by simp;omega,by simp;omega,by simp;omega,by simp;omega,by simp;omega,by simp;omega⟩
  | nO e _=>rw [e] at h3;simp at h3;exact ⟨by simp;omega,by simp;omega,by simp;omega,by simp;omega,by simp;omega,by simp;omega,by simp;omega⟩
  | lay e _ _ _=>rw [e] at h1;simp at h1;exact ⟨by simp;omega,by simp;omega,by simp;omega,by simp;omega,by simp;omega,by simp;omega,by simp;omega⟩
  | look e _ _=>rw [e] at h1;simp at h1;exact ⟨by simp;omega,by simp;omega,by simp;omega,by simp;omega,by simp;omega,by simp;omega,by simp;omega⟩
  | _=>exact ⟨by simp;omega,by simp;omega,by simp;omega,by simp;omega,by simp;omega,by simp;omega,by simp;omega⟩
 ·obtain ⟨n,hn,R⟩:=I.run ([a]++qZ)
  rw [<- List.append_assoc] at R
  have R2:=S.run (rs:=r++[a]++qZ) (L:=r.length) I.g (I.sm ht) (by rw [List.append_assoc,List.getElem?_append_right (Nat.le_refl _),Nat.sub_self];rfl)
  refine ⟨n+1,by omega,?_⟩
  rw [List.length_append]
  exact R.trans R2
theorem Inv.more (I:Inv o s0 t r s) {u:Nat} (hu:t<=u):Inv o s0 u r s:=by
 obtain ⟨h1,h2,h3,h4,h5,h6,h7⟩:=I.z
 exact ⟨I.g,⟨by omega,by omega,by omega,by omega,by omega,by omega,by omega⟩,fun qZ=>by obtain ⟨n,q1,q2⟩:=I.run qZ;exact ⟨n,by omega,q2⟩,I.lp⟩
theorem Inv.stq {ws:List Rw} (I:Inv o s0 t r s) (S:Stq o s ws s') (ht:t<1000):Inv o s0 (t+1) (r++ws) s':=by
 rcases S with ⟨rfl,rfl⟩ | ⟨a,rfl,S⟩
 ·rw [List.append_nil];exact I.more (by omega)
 ·exact I.stp S ht
theorem Inv.great {c:Bool} {i n:Nat} {v:List Lv} {x y:Lv} (I:Inv o s0 t r s) (ht:t<1000) (e:s.vs=v++[x]++[y]) (hi:s.pl[i]? = some n) (hsz:1000<1+cY s.cs x+cY s.cs y):Gr s0 (t+1) (r++[.lay c i]):=fun qZ=>by
 obtain ⟨m,hm,R⟩:=I.run ([.lay c i]++qZ)
 rw [<- List.append_assoc] at R
 have R2:=layX (rs:=r++[.lay c i]++qZ) (L:=r.length) I.g (I.sm ht) (by rw [List.append_assoc,List.getElem?_append_right (Nat.le_refl _),Nat.sub_self];rfl) e hi hsz
 exact ⟨m+1,by omega,R.E2 R2⟩
theorem Gr.app {ws:List Rw} (h:Gr s0 t r):Gr s0 t (r++ws):=fun qZ=>by
 obtain ⟨n,h1,h2⟩:=h (ws++qZ)
 rw [<- List.append_assoc] at h2
 exact ⟨n,h1,h2⟩
end
section
variable {k i o:Nat} {Φ:aY} {σ:Sg} {e e':E} {s:Ls} {r:List Rw} {n:Nat}
noncomputable def cE (vs:List Lv):List Lv:=match vs.getLast? with
 | some x=>[x]
 | none=>[]
theorem Ai {vs:List Lv}:eV (vs.map Lv.d) (some (-1)) none=(cE vs).map Lv.d:=by
 unfold cE
 cases hv:vs.getLast? with
 | none =>
  rw [List.getLast?_eq_none_iff] at hv;subst hv;rfl
 | some x =>
  obtain ⟨v,rfl⟩:=List.getLast?_eq_some_iff.mp hv
  have hl:((v++[x]).map Lv.d).length=v.length+1:=by simp
  unfold eV
  rw [hl]
  have e1:six (v.length+1) 0 (some (-1))=v.length:=by simp only [six];rw [if_pos (by decide)];omega
  have e2:six (v.length+1) (v.length+1) none=v.length+1:=rfl
  rw [e1,e2,List.map_append]
  simp
theorem vd (hi:σ[i]? = some (some (.ref 4))):ev Φ (.sl true (.v i) (.some (.neg (.k (.int 1)))) .none) σ (MM s r)=.ok (.lst ((cE s.vs).map Lv.d)) (MM s r):=by
 rw [ED,e_v hi,R.af]
 show R.ok (D.lst (eV (s.vs.map Lv.d) (some (-1)) none)) (MM s r)=_
 rw [Ai]
theorem vC {ns:List Nat} {f:Nat}:((nats ns).any fun d=>aN d (.int (f:Int)))=decide (f∈ns):=by
 induction ns with
 | nil=>simp [nats]
 | cons m ns ih =>
  show (aN (.int (m:Int)) (.int (f:Int))||(nats ns).any fun d=>aN d (.int (f:Int)))=_
  rw [ih,jS]
  by_cases h:m=f
  ·subst h;simp
  ·have h1:¬ (m:Int)=(f:Int):=by omega
   have h2:¬ f=m:=fun z=>h z.symm
   simp [h1,h2]
theorem qU {ns:List Nat}:(nats ns).all flat=true:=by
 induction ns with
 | nil=>rfl
 | cons m ns ih=>show (flat (.int (m:Int))&&(nats ns).all flat)=true;rw [ih];rfl
theorem L6 {f:Nat} (he:ev Φ e σ (MM s r)=.ok (.int (f:Int)) (MM s r)) (hx:ev Φ e' σ (MM s r)=.ok (.ref 1) (MM s r)):ev Φ (.cmp .isin e e') σ (MM s r)=.ok (.bl (decide (f∈s.pl))) (MM s r):=by
 rw [eB,he,R.af,hx,R.af]
 have q:AK (MM s r) (.int (f:Int)) (.ref 1)=some (decide (f∈s.pl)):=by
  show (if flat (.int (f:Int))&&(nats s.pl).all flat then some ((nats s.pl).any fun d=>aN d (.int (f:Int))) else none)=_
  rw [qU,vC];rfl
 simp only [bu,q]
noncomputable def Nc:E:=.comp true [3] [1] (.v 1) (.e (.sl true (.v 1) (.some (.neg (.k (.int 1)))) .none)) (.some (.and (.fV (.v 1) .tuple) (.cmp .isin (.idx (.idx (.idx (.v 0) (.k (.int 0))) (.idx (.v 1) (.k (.int 0)))) (.k (.int 3))) (.idx (.v 0) (.k (.int 1))))))
noncomputable def may (s:Ls):Lv->Bool
 | .aZ j=>match s.cs[j]? with
  | some c=>decide (c.fd∈s.pl)
  | none=>false
 | _=>false
theorem De (h1:σ[1]? = some (some (.ref 4))) (h3:σ[3]? = some (some jE)) (hv:∀ v∈s.vs,dm s.cs.length v):ev Φ Nc σ (MM s r)=.ok (.lst (((cE s.vs).filter (may s)).map Lv.d)) (MM s r):=by
 have hi:bO Φ (.e (.sl true (.v 1) (.some (.neg (.k (.int 1)))) .none)) σ (MM s r)=.ok (.lst ((cE s.vs).map Lv.d),(cE s.vs).map Lv.d,false) (MM s r):=by rw [LS,vd h1];rfl
 have ec:iz σ [3]++List.replicate [1].length none=[some jE,none]:=by simp [iz,h3]
 have one:∀ (x:Lv) (b:Option D),dm s.cs.length x->nj Φ (.some (.and (.fV (.v 1) .tuple) (.cmp .isin (.idx (.idx (.idx (.v 0) (.k (.int 0))) (.idx (.v 1) (.k (.int 0)))) (.k (.int 3))) (.idx (.v 0) (.k (.int 1)))))) [some jE,some x.d] (MM s r)=.ok (.bl (may s x)) (MM s r):=fun x b hx=>by
  rw [zW,jx]
  cases x with
  | int _=>rfl
  | ai=>rfl
  | aZ j =>
   have hj:s.cs[j]? = some s.cs[j]:=List.getElem?_eq_getElem hx
   have hm:may s (.aZ j)=decide (s.cs[j].fd∈s.pl):=by show (match s.cs[j]? with | some c=>decide (c.fd∈s.pl) | none=>false)=_;rw [hj]
   rw [hm]
   show ev Φ (.cmp .isin (.idx (.idx (.idx (.v 0) (.k (.int 0))) (.idx (.v 1) (.k (.int 0)))) (.k (.int 3))) (.idx (.v 0) (.k (.int 1)))) [some jE,some (Lv.aZ j).d] (MM s r)=_
   exact L6 (aC (ixC (aC rfl rfl bf) (aC rfl rfl bf) hj) rfl lW) (aC rfl rfl gX)
 rw [Nc,oK,hi,R.af,u0,ec]
 have key:bL (nj Φ (.some (.and (.fV (.v 1) .tuple) (.cmp .isin (.idx (.idx (.idx (.v 0) (.k (.int 0))) (.idx (.v 1) (.k (.int 0)))) (.k (.int 3))) (.idx (.v 0) (.k (.int 1))))))) (ev Φ (.v 1)) [1] (bq (MM s r) (.lst ((cE s.vs).map Lv.d))) ((cE s.vs).map Lv.d) [some jE,none] (MM s r) []=.ok (((cE s.vs).filter (may s)).map Lv.d) (MM s r):=by
  unfold cE
  cases hg:s.vs.getLast? with
  | none=>rfl
  | some x =>
   have hx:dm s.cs.length x:=hv x (List.mem_of_getLast? hg)
   have q:=one x none hx
   show bL _ _ [1] _ [x.d] [some jE,none] (MM s r) []=.ok (([x].filter (may s)).map Lv.d) (MM s r)
   rw [bL]
   simp only [sets]
   show ((nj Φ _ [some jE,some x.d] (MM s r)).bind _)=_
   rw [q,R.af]
   cases hm:may s x with
   | true =>
    rw [List.filter_cons_of_pos hm]
    rfl
   | false =>
    rw [List.filter_cons_of_neg (by rw [hm];decide)]
    rfl
 show (bL _ _ _ _ _ _ _ _).bind _=_
 rw [key];rfl
end
end bI
end
section
namespace bI
open Fg PySem
noncomputable def dB4:Ss:=.cons (.ifs (.and (.cmp .eq (.v 9) (.k (.int 7))) (.cmp .eq (.sl true (.v 1) (.some (.neg (.k (.int 1)))) .none) (.lst true (.cons (.k .ai) .nil)))) (.cons (.ex (.aG .append true (.v 0) (.cons (.tup (.cons (.k (.str (w "none"))) .nil)) .nil))) (.cons (.mh (.v 1) (.neg (.k (.int 1))) (.k (.int 1))) .nil)) (.cons (.ex (.call 31 (.cons (.v 0) (.cons (.v 1) (.cons (.v 2) (.cons (.op .fdiv true (.v 8) (.k (.int 10))) .nil)))))) .nil)) .nil
noncomputable def dB3:Ss:=.cons (.ifs (.cmp .lt (.v 9) (.k (.int 7))) (.cons (.set 6 (.call 30 (.cons (.v 0) (.cons (.v 3) (.cons (.v 4) (.cons (.v 6) (.cons (.op .fdiv true (.v 8) (.k (.int 10))) .nil))))))) .nil) dB4) .nil
noncomputable def dB2:Ss:=.cons (.ifs (.and (.cmp .lt (.v 9) (.k (.int 5))) (.cmp .ne (.v 10) (.lst true .nil))) (.cons (.ex (.call 29 (.cons (.v 0) (.cons (.v 1) (.cons (.v 3) (.cons (.op .fdiv true (.v 8) (.k (.int 10))) .nil)))))) .nil) dB3) .nil
noncomputable def dB1:S:=.ifs (.and (.cmp .lt (.v 9) (.k (.int 3))) (.and (.cmp .gt (.blt .len true (.cons (.v 1) .nil)) (.k (.int 1))) (.cmp .gt (.blt .len true (.cons (.idx (.v 3) (.k (.int 1))) .nil)) (.k (.int 0))))) (.cons (.ifs (.cmp .gt (.call 28 (.cons (.v 0) (.cons (.v 1) (.cons (.v 3) (.cons (.op .fdiv true (.v 8) (.k (.int 10))) .nil))))) (.k (.int 1000))) (.cons (.ret (.k (.bl true))) .nil) .nil) .nil) dB2
noncomputable def dB:Ss:=.cons (.set 8 (.call 22 (.cons (.v 7) .nil))) (.cons (.set 9 (.op .mod true (.v 8) (.k (.int 10)))) (.cons (.set 10 Nc) (.cons dB1 .nil)))
theorem nv:ir.body=.cons (.set 6 (.v 4)) (.cons (.for [7] (.e (.v 5)) dB) (.cons (.ret (.k (.bl false))) .nil)):=rfl
noncomputable abbrev sN (o:Nat) (cs:List Int) (op:Nat) (p:List (Option D)):Sg:=[some (.ref 3),some (.ref 4),some (.ref 5),some jE,some (.int (o:Int)),some (.lst (cs.map D.int)),some (.int (op:Int))]++p
section
variable {k i o t:Nat} {Φ:aY} {σ:Sg} {e e':E} {s s0:Ls} {r:List Rw} {cs:List Int}
theorem ltN {a b:Nat} {M M1 M2:MH} (he:ev Φ e σ M=.ok (.int (a:Int)) M1) (hx:ev Φ e' σ M1=.ok (.int (b:Int)) M2):ev Φ (.cmp .lt e e') σ M=.ok (.bl (decide (a<b))) M2:=by
 refine e_lt he hx ?_
 by_cases h:a<b
 ·rw [decide_eq_true h,decide_eq_true (by omega)]
 ·rw [decide_eq_false h,decide_eq_false (by omega)]
theorem y9 {v:Lv}:Fg.plain v.d=true/\dep v.d<=1:=by cases v <;> simp [Lv.d,Fg.plain,av,dep,deps]
theorem kX:∀ {vs:List Lv},av (vs.map Lv.d)=true/\deps (vs.map Lv.d)<=1
 | []=>by simp [av,deps]
 | v::vs=>by
  obtain ⟨h1,h2⟩:=kX (vs:=vs)
  obtain ⟨h3,h4⟩:=y9 (v:=v)
  simp only [List.map_cons,av,deps,h1,h3,Bool.and_self,true_and]
  omega
theorem Al {M:MH} {xs ys:List Lv}:bw (.lst (xs.map Lv.d)) (.lst (ys.map Lv.d))=true:=by
 obtain ⟨h1,h2⟩:=kX (vs:=xs)
 obtain ⟨h3,h4⟩:=kX (vs:=ys)
 have h5:dep (.lst (xs.map Lv.d))<=100:=by simp only [dep];omega
 unfold bw
 rw [decide_eq_true h5]
 simp only [Fg.plain,h1,h3,Bool.and_self,Bool.true_or]
theorem ne_nil {M:MH} {xs:List Lv}:bu .ne M (.lst (xs.map Lv.d)) (.lst [])=.ok (.bl (!xs.isEmpty)) M:=by
 have h:=Al (M:=M) (xs:=xs) (ys:=[])
 rw [List.map_nil] at h
 simp only [bu,w9,wj,top,h,if_true,cR]
 cases xs with
 | nil=>simp
 | cons _ _=>simp
theorem Im {M:MH} {xs:List Lv}:bu .eq M (.lst (xs.map Lv.d)) (.lst [.ai])=.ok (.bl (match xs with | [.ai]=>true | _=>false)) M:=by
 have h:=Al (M:=M) (xs:=xs) (ys:=[.ai])
 have h':bw (.lst (xs.map Lv.d)) (.lst [.ai])=true:=h
 simp only [bu,w9,Js,top,h',if_true,cR]
 cases xs with
 | nil=>simp
 | cons x xs =>
  cases x with
  | int _=>simp [Lv.d]
  | aZ _=>simp [Lv.d]
  | ai =>
   cases xs with
   | nil=>simp [Lv.d]
   | cons _ _=>simp [Lv.d]
theorem Iz {x:Int} {a8 a9 qV:Option D} (I:Inv o s0 t r s) (ht:t<500):(∃ r' s',Inv o s0 (t+1) r' s'/\∃ b8 b9 IU,exs (aa ah (k+3)) dB (sN o cs s.ay.length [some (.int x),a8,a9,qV]) (MM s r)=.ok (.nx (sN o cs s'.ay.length [some (.int x),b8,b9,IU])) (MM s' r')) \/
  (∃ r' s',Gr s0 (t+1) r'/\r'.length<=t+1/\s'.vs≠[]/\exs (aa ah (k+3)) dB (sN o cs s.ay.length [some (.int x),a8,a9,qV]) (MM s r)=.ok (.rt (.bl true)) (MM s' r')):=by
 obtain ⟨z1,z2,z3,z4,z5,z6,z7⟩:=I.z
 let n:Nat:=se x
 have e8:ev (aa ah (k+3)) (.call 22 (.cons (.v 7) .nil)) (sN o cs s.ay.length [some (.int x),a8,a9,qV]) (MM s r)=.ok (.int (n:Int)) (MM s r):=(bP rfl).trans (o8 (k:=k+2))
 have e9:ev (aa ah (k+3)) (.op .mod true (.v 8) (.k (.int 10))) (sN o cs s.ay.length [some (.int x),some (.int (n:Int)),a9,qV]) (MM s r)=.ok (.int ((n % 10:Nat):Int)) (MM s r):=cH (b:=10) rfl rfl (by decide)
 have e10:ev (aa ah (k+3)) Nc (sN o cs s.ay.length [some (.int x),some (.int (n:Int)),some (.int ((n % 10:Nat):Int)),qV]) (MM s r)=.ok (.lst (((cE s.vs).filter (may s)).map Lv.d)) (MM s r):=De rfl rfl I.g.vs
 let kn:D:=.lst (((cE s.vs).filter (may s)).map Lv.d)
 let σ:Sg:=sN o cs s.ay.length [some (.int x),some (.int (n:Int)),some (.int ((n % 10:Nat):Int)),some kn]
 have Dc:∀ {M:MH},ev (aa ah (k+3)) (.op .fdiv true (.v 8) (.k (.int 10))) σ M=.ok (.int ((n / 10:Nat):Int)) M:=fun {M}=>lP (b:=10) rfl rfl (by decide) (by decide)
 have c1:ev (aa ah (k+3)) (.and (.cmp .lt (.v 9) (.k (.int 3))) (.and (.cmp .gt (.blt .len true (.cons (.v 1) .nil)) (.k (.int 1))) (.cmp .gt (.blt .len true (.cons (.idx (.v 3) (.k (.int 1))) .nil)) (.k (.int 0))))) σ (MM s r)=.ok (.bl (decide (n % 10<3)&&(decide (1<s.vs.length)&&decide (0<s.pl.length)))) (MM s r):=gu (ltN (b:=3) rfl rfl) (gu (iZ (b:=1) (Lc rfl) rfl) (iZ (b:=0) (M8 (aC rfl rfl gX)) rfl))
 have pre:∀ {R:R Out},exs (aa ah (k+3)) (.cons dB1 .nil) σ (MM s r)=R->exs (aa ah (k+3)) dB (sN o cs s.ay.length [some (.int x),a8,a9,qV]) (MM s r)=R:=fun h=>(aq e8).trans ((aq e9).trans ((aq e10).trans h))
 cases h1:(decide (n % 10<3)&&(decide (1<s.vs.length)&&decide (0<s.pl.length))) with
 | true =>
  rw [h1] at c1
  simp only [Bool.and_eq_true,decide_eq_true_eq] at h1
  obtain ⟨_,h1a,h1b⟩:=h1
  obtain ⟨v1,y,hv1⟩:=snoc (xs:=s.vs) (by omega)
  obtain ⟨v,x',hv2⟩:=snoc (xs:=v1) (by rw [hv1] at h1a;simp at h1a;omega)
  have hv:s.vs=v++[x']++[y]:=by rw [hv1,hv2]
  have ox:dm s.cs.length x':=I.g.vs x' (by rw [hv];simp)
  have oy:dm s.cs.length y:=I.g.vs y (by rw [hv];simp)
  obtain ⟨c,j,f,hj,hc,q⟩:=IG (k:=k+1) (n:=n / 10) (r:=r) hv ox oy h1b (by omega) (by omega) (by omega) (by omega)
  have q2:=(oW (Φ:=aa ah (k+3)) (f:=28) (σ:=σ) (a:=.v 0) (b:=.v 1) (c:=.v 3) (M:=MM s r) rfl rfl rfl Dc).trans q
  have c2:ev (aa ah (k+3)) (.cmp .gt (.call 28 (.cons (.v 0) (.cons (.v 1) (.cons (.v 3) (.cons (.op .fdiv true (.v 8) (.k (.int 10))) .nil))))) (.k (.int 1000))) σ (MM s r)=.ok (.bl (decide (1000<1+cY s.cs x'+cY s.cs y))) (MM (zg s c f v x' y) (r++[.lay c j])):=iZ (b:=1000) q2 rfl
  by_cases hg:1000<1+cY s.cs x'+cY s.cs y
  ·rw [decide_eq_true hg] at c2
   refine .inr ⟨r++[.lay c j],zg s c f v x' y,I.great (by omega) hv hj hg,by simp;omega,by simp [zg],pre ?_⟩
   exact bR c1 (bR c2 (aP rfl))
  ·rw [decide_eq_false hg] at c2
   have S:l8 o s (.lay c j) (zg s c f v x' y):=.lay hv hj hc (by omega)
   refine .inl ⟨_,_,I.stp S (by omega),some (.int (n:Int)),some (.int ((n % 10:Nat):Int)),some kn,pre ?_⟩
   exact (jF c1 ((aK c2).trans rfl)).trans rfl
 | false =>
 rw [h1] at c1
 have c2:ev (aa ah (k+3)) (.and (.cmp .lt (.v 9) (.k (.int 5))) (.cmp .ne (.v 10) (.lst true .nil))) σ (MM s r)=.ok (.bl (decide (n % 10<5)&&!((cE s.vs).filter (may s)).isEmpty)) (MM s r):=gu (ltN (b:=5) rfl rfl) ne_nil
 cases h2:(decide (n % 10<5)&&!((cE s.vs).filter (may s)).isEmpty) with
 | true =>
  rw [h2] at c2
  simp only [Bool.and_eq_true,Bool.not_eq_true'] at h2
  obtain ⟨_,h2⟩:=h2
  have key:∃ v j c,s.vs=v++[.aZ j]/\s.cs[j]? = some c/\c.fd∈s.pl:=by
   unfold cE at h2
   cases hg:s.vs.getLast? with
   | none=>rw [hg] at h2;cases h2
   | some y =>
    rw [hg] at h2
    have hm:may s y=true:=by
     cases hq:may s y with
     | true=>rfl
     | false=>simp [hq] at h2
    obtain ⟨v,hv⟩:=List.getLast?_eq_some_iff.mp hg
    cases y with
    | int _=>cases hm
    | ai=>cases hm
    | aZ j =>
     have hm':(match s.cs[j]? with | some c=>decide (c.fd∈s.pl) | none=>false)=true:=hm
     cases hj:s.cs[j]? with
     | none=>rw [hj] at hm';cases hm'
     | some c=>rw [hj] at hm';exact ⟨v,j,c,hv,hj,of_decide_eq_true hm'⟩
  obtain ⟨v,j,c,hv,hc,hf⟩:=key
  obtain ⟨t',q⟩:=Av (k:=k+2) (n:=n / 10) (r:=r) hv hc (by omega) (by omega) (by omega)
  have q2:=(oW (Φ:=aa ah (k+3)) (f:=29) (σ:=σ) (a:=.v 0) (b:=.v 1) (c:=.v 3) (M:=MM s r) rfl rfl rfl Dc).trans q
  exact .inl ⟨_,_,I.stp (.look (t:=t') hv hc hf) (by omega),some (.int (n:Int)),some (.int ((n % 10:Nat):Int)),some kn,pre (dO c1 (mL c2 ((aJ q2).trans rfl)))⟩
 | false =>
 rw [h2] at c2
 have c3:ev (aa ah (k+3)) (.cmp .lt (.v 9) (.k (.int 7))) σ (MM s r)=.ok (.bl (decide (n % 10<7))) (MM s r):=ltN (b:=7) rfl rfl
 by_cases h3:n % 10<7
 ·rw [decide_eq_true h3] at c3
  obtain ⟨a,s',S,q⟩:=IJ (k:=k+2) (n:=n / 10) (r:=r) I.g (by omega) (by omega) (by omega)
  have q2:ev (aa ah (k+3)) (.call 30 (.cons (.v 0) (.cons (.v 3) (.cons (.v 4) (.cons (.v 6) (.cons (.op .fdiv true (.v 8) (.k (.int 10))) .nil)))))) σ (MM s r)=.ok (.int (s'.ay.length:Int)) (MM s' (r++[a])):=by
   rw [bh,aL (x:=.ref 3) rfl (aL (x:=jE) rfl (aL (x:=.int (o:Int)) rfl (aL (x:=.int (s.ay.length:Int)) rfl (aL Dc rfl)))),R.af];exact q
  exact .inl ⟨_,_,I.stp S (by omega),some (.int (n:Int)),some (.int ((n % 10:Nat):Int)),some kn,pre (dO c1 (dO c2 (mL c3 ((aq q2).trans rfl))))⟩
 ·rw [decide_eq_false h3] at c3
  have c4:ev (aa ah (k+3)) (.and (.cmp .eq (.v 9) (.k (.int 7))) (.cmp .eq (.sl true (.v 1) (.some (.neg (.k (.int 1)))) .none) (.lst true (.cons (.k .ai) .nil)))) σ (MM s r)=.ok (.bl (decide (n % 10=7)&&(match cE s.vs with | [.ai]=>true | _=>false))) (MM s r):=by
   refine gu (eU (b:=7) rfl rfl) ?_
   rw [eB,vd rfl,R.af]
   exact Im
  cases h4:(decide (n % 10=7)&&(match cE s.vs with | [.ai]=>true | _=>false)) with
  | true =>
   rw [h4] at c4
   simp only [Bool.and_eq_true] at h4
   have key:∃ v,s.vs=v++[.ai]:=by
    have h:=h4.2
    unfold cE at h
    cases hg:s.vs.getLast? with
    | none=>rw [hg] at h;cases h
    | some y =>
     rw [hg] at h
     obtain ⟨v,hv⟩:=List.getLast?_eq_some_iff.mp hg
     cases y with
     | ai=>exact ⟨v,hv⟩
     | int _=>cases h
     | aZ _=>cases h
   obtain ⟨v,hv⟩:=key
   have a1:=xg (Φ:=aa ah (k+3)) (s:=s) (r:=r) (σ:=σ) (i:=0) (a:=.none) (e:=.tup (.cons (.k (.str (w "none"))) .nil)) rfl rfl (by omega)
   have a2:ex (aa ah (k+3)) (.mh (.v 1) (.neg (.k (.int 1))) (.k (.int 1))) σ (MM s (r++[.none]))=.ok (.nx σ) (MM { s with vs:=v++[.int 1] } (r++[.none])):=by
    have hx:sH (s.vs.map Lv.d).length (-1)=some v.length:=by
     have hl:(s.vs.map Lv.d).length=v.length+1:=by rw [hv];simp
     unfold sH
     rw [hl,if_neg (by decide),if_pos (by omega)]
     congr 1
     omega
    have q:kI (MM s (r++[.none])) (.ref 4) (.int (-1)) (.int 1)=.ok () (MM { s with vs:=v++[.int 1] } (r++[.none])):=by
     show (match sH (s.vs.map Lv.d).length (-1) with | some j=>R.ok () ((MM s (r++[Rw.none])).set 4 (.lst ((s.vs.map Lv.d).set j (.int 1)))) | none=>.bad)=_
     rw [hx]
     simp [MM,hv,Lv.d]
    show (kI (MM s (r++[.none])) (.ref 4) (.int (-1)) (.int 1)).use σ _=_
    rw [q];rfl
   exact .inl ⟨_,_,I.stp (.none hv) (by omega),some (.int (n:Int)),some (.int ((n % 10:Nat):Int)),some kn,pre (dO c1 (dO c2 (dO c3 (mL c4 ((aJ a1).trans ((aX a2).trans rfl))))))⟩
  | false =>
   rw [h4] at c4
   obtain ⟨ws,s',S,eo',q⟩:=Dl (k:=k+2) (o:=o) (n:=n / 10) (s:=s) (r:=r) (by omega) (by omega) (by omega)
   have q2:=(oW (Φ:=aa ah (k+3)) (f:=31) (σ:=σ) (a:=.v 0) (b:=.v 1) (c:=.v 2) (M:=MM s r) rfl rfl rfl Dc).trans q
   have eo:s'.ay.length=s.ay.length:=by rw [eo']
   refine .inl ⟨_,_,I.stq S (by omega),some (.int (n:Int)),some (.int ((n % 10:Nat):Int)),some kn,pre ?_⟩
   rw [eo]
   exact dO c1 (dO c2 (dO c3 (dO c4 ((aJ q2).trans rfl))))
end
end bI
end
section
namespace bI
open Fg PySem
section
variable {k i o t:Nat} {Φ:aY} {σ:Sg} {e e':E} {s s0:Ls} {r:List Rw} {cs:List Int}
theorem Ah {ch:MH->Bool} (hch:∀ M,ch M=true):∀ (xs:List Int) (t:Nat) (r:List Rw) (s:Ls) (a7 a8 a9 qV:Option D),t+xs.length<500->Inv o s0 t r s ->
  (∃ r' s' b7 b8 b9 IU,Inv o s0 (t+xs.length) r' s'/\bK (exs (aa ah (k+3)) dB) [7] ch (xs.map D.int) (sN o cs s.ay.length [a7,a8,a9,qV]) (MM s r)=.ok (.nx (sN o cs s'.ay.length [b7,b8,b9,IU])) (MM s' r')) \/
  (∃ r' s',Gr s0 (t+xs.length) r'/\r'.length<=t+xs.length/\s'.vs≠[]/\bK (exs (aa ah (k+3)) dB) [7] ch (xs.map D.int) (sN o cs s.ay.length [a7,a8,a9,qV]) (MM s r)=.ok (.rt (.bl true)) (MM s' r'))
 | [],t,r,s,a7,a8,a9,qV,_,I=>.inl ⟨r,s,a7,a8,a9,qV,I,rfl⟩
 | x::xs,t,r,s,a7,a8,a9,qV,hl,I=>by
  simp only [List.length_cons] at hl
  rcases Iz (k:=k) (cs:=cs) (x:=x) (a8:=a8) (a9:=a9) (qV:=qV) I (by omega) with ⟨r1,s1,I1,b8,b9,IU,q⟩ | ⟨r1,s1,G1,l1,v1,q⟩
  ·have Jp:∀ {R:R Out},bK (exs (aa ah (k+3)) dB) [7] ch (xs.map D.int) (sN o cs s1.ay.length [some (.int x),b8,b9,IU]) (MM s1 r1)=R->bK (exs (aa ah (k+3)) dB) [7] ch ((x::xs).map D.int) (sN o cs s.ay.length [a7,a8,a9,qV]) (MM s r)=R:=fun h=>by
    rw [List.map_cons,bK]
    show (exs (aa ah (k+3)) dB (sN o cs s.ay.length [some (.int x),a8,a9,qV]) (MM s r)).bind _=_
    rw [q]
    simp only [R.af,hch,if_true]
    exact h
   rcases Ah hch xs (t+1) r1 s1 (some (.int x)) b8 b9 IU (by omega) I1 with ⟨r2,s2,c7,c8,c9,c10,I2,q2⟩ | ⟨r2,s2,G2,l2,v2,q2⟩
   ·exact .inl ⟨r2,s2,c7,c8,c9,c10,I2.more (by simp;omega),Jp q2⟩
   ·refine .inr ⟨r2,s2,?_,by simp;omega,v2,Jp q2⟩
    rw [List.length_cons,show t+(xs.length+1)=t+1+xs.length by omega];exact G2
  ·refine .inr ⟨r1,s1,fun qZ=>?_,by simp;omega,v1,?_⟩
   ·obtain ⟨n,h1,h2⟩:=G1 qZ
    exact ⟨n,by simp;omega,h2⟩
   ·rw [List.map_cons,bK]
    show (exs (aa ah (k+3)) dB (sN o cs s.ay.length [some (.int x),a8,a9,qV]) (MM s r)).bind _=_
    rw [q];rfl
theorem IK (I:Inv o s0 0 r s) (ho:s.ay.length=o) (hl:cs.length<400) :
  (∃ r' s',Inv o s0 cs.length r' s'/\(aa ah (k+4)).call 33 [.ref 3,.ref 4,.ref 5,jE,.int (o:Int),.lst (cs.map D.int)] (MM s r)=.ok (.bl false) (MM s' r')) \/
  (∃ r' s',Gr s0 cs.length r'/\r'.length<=cs.length/\s'.vs≠[]/\(aa ah (k+4)).call 33 [.ref 3,.ref 4,.ref 5,jE,.int (o:Int),.lst (cs.map D.int)] (MM s r)=.ok (.bl true) (MM s' r')):=by
 have hi:bO (aa ah (k+3)) (.e (.v 5)) (sN o cs s.ay.length [none,none,none,none]) (MM s r)=.ok (.lst (cs.map D.int),cs.map D.int,false) (MM s r):=rfl
 have e0:ev (aa ah (k+3)) (.v 4) [some (.ref 3),some (.ref 4),some (.ref 5),some jE,some (.int (o:Int)),some (.lst (cs.map D.int)),none,none,none,none,none] (MM s r)=.ok (.int (s.ay.length:Int)) (MM s r):=by rw [ho];rfl
 rcases Ah (k:=k) (cs:=cs) (ch:=bq (MM s r) (.lst (cs.map D.int))) (fun _=>rfl) cs 0 r s none none none none (by omega) I with ⟨r',s',b7,b8,b9,IU,I',q⟩ | ⟨r',s',G',l',v',q⟩
 ·rw [Nat.zero_add] at I'
  exact .inl ⟨r',s',I',aI LA rfl (by rw [nv];exact (aq e0).trans ((DZ hi q).trans (aP rfl))) (rj rfl)⟩
 ·rw [Nat.zero_add] at G' l'
  exact .inr ⟨r',s',G',l',v',aI LA rfl (by rw [nv];exact (aq e0).trans (FA hi q)) (rj rfl)⟩
inductive Wl (s:Ls):Lv->Nat->Bool->Prop
 | int (i:Int):Wl s (.int i) 1 true
 | ai:Wl s .ai 1 true
 | aZ {k n1 n2:Nat} {c:Cl} {b1 b2:Bool}:s.cs[k]? = some c->Wl s c.one n1 b1->Wl s c.dU n2 b2->Wl s (.aZ k) (n1+n2+1) (decide (c.fd∈s.pl)&&(b1&&b2))
theorem Wl.wa (G:Good o s) {v:Lv} {n:Nat} {q:Bool} (h:Wl s v n q):Wa s.ay (mv s.ms v) n q:=by
 induction h with
 | int i=>exact .int i
 | ai=>exact .ai
 | @aZ k n1 n2 c b1 b2 hc _ _ i1 i2 =>
  obtain ⟨h1,_,_,_,h5,_⟩:=G.at_ k c hc
  have e:mv s.ms (.aZ k)=dQ s.ms c:=by
   show s.ms.getD k .ai=_
   rw [List.getD_eq_getElem?_getD,h1];rfl
  rw [e]
  exact .cell (G.op c.fd h5) i1 i2
theorem Wl.ex (G:Good o s):∀ (m:Nat) (v:Lv),dm m v->m<=s.cs.length->∃ q,Wl s v (cY s.cs v) q:=by
 intro m
 induction m with
 | zero =>
  intro v hv _
  cases v with
  | int i=>exact ⟨_,.int i⟩
  | ai=>exact ⟨_,.ai⟩
  | aZ k=>exact absurd hv (Nat.not_lt_zero _)
 | succ m ih =>
  intro v hv hm
  cases v with
  | int i=>exact ⟨_,.int i⟩
  | ai=>exact ⟨_,.ai⟩
  | aZ k =>
   have hk:k<m+1:=hv
   have hj:s.cs[k]? = some s.cs[k]:=List.getElem?_eq_getElem (by omega)
   obtain ⟨_,h2,h3,_,_,h6,_⟩:=G.at_ k _ hj
   obtain ⟨q1,w1⟩:=ih s.cs[k].one (h2.mono (by omega)) (by omega)
   obtain ⟨q2,w2⟩:=ih s.cs[k].dU (h3.mono (by omega)) (by omega)
   have e:cY s.cs (.aZ k)=cY s.cs s.cs[k].one+cY s.cs s.cs[k].dU+1:=by
    show (match s.cs[k]? with | some c=>c.sz | none=>1)=_
    rw [hj]
    show s.cs[k].sz=_
    omega
   rw [e]
   exact ⟨_,.aZ hj w1 w2⟩
theorem E8 (G:Good o s) {v:Lv} (h:dm s.cs.length v):cY s.cs v<=1000:=by
 cases v with
 | aZ k =>
  have hj:s.cs[k]? = some s.cs[k]:=List.getElem?_eq_getElem h
  have:=(G.at_ k _ hj).2.2.2.2.2.2
  show (match s.cs[k]? with | some c=>c.sz | none=>1)<=1000
  rw [hj];exact this
 | _=>exact (by decide:1<=1000)
end
end bI
end
section
namespace bI
open Fg PySem
inductive IY (s:Ls):List Lv->Nat->Bool->Prop
 | nil:IY s [] 0 true
 | snoc {ds:List Lv} {v:Lv} {n m:Nat} {b b':Bool}:IY s ds n b->Wl s v m b'->IY s (ds++[v]) (n+m) (b'&&b)
noncomputable def MW (M:MH) (ws:List Lv):MH:=M++[.lst (ws.map Lv.d)]
noncomputable def oE:E:=.cmp .gt (.blt .len true (.cons (.v 3) .nil)) (.k (.int 0))
noncomputable def oB:Ss:=.cons (.set 5 (.aG .pop true (.v 3) .nil)) (.cons (.set 4 (.op .add true (.v 4) (.k (.int 1)))) (.cons (.ifs (.fV (.v 5) .tuple) (.cons (.set 6 (.idx (.v 0) (.idx (.v 5) (.k (.int 0))))) (.cons (.ifs (.cmp .iJ (.idx (.v 6) (.k (.int 3))) (.v 1)) (.cons (.ret (.k (.bl false))) .nil) .nil) (.cons (.ex (.aG .append true (.v 3) (.cons (.idx (.v 6) (.k (.int 1))) .nil))) (.cons (.ex (.aG .append true (.v 3) (.cons (.idx (.v 6) (.k (.int 2))) .nil))) .nil)))) .nil) .nil))
section
variable {k i o:Nat} {Φ:aY} {σ:Sg} {e e':E} {s:Ls} {M:MH}
noncomputable abbrev sO (m:Nat) (v:Lv) (c:Int) (a b:Option D):Sg:=[some (.ref 0),some (.ref 1),some v.d,some (.ref m),some (.int c),a,b]
theorem w6 {ws:List Lv}:(MW M ws)[M.length]? = some (.lst (ws.map Lv.d)):=by simp [MW]
theorem wl {ws:List Lv} {n:Nat} {x:MO} (h:M[n]? = some x):(MW M ws)[n]? = some x:=by rw [MW,List.getElem?_append_left (List.getElem?_eq_some_iff.mp h).1];exact h
theorem JC {v:Lv} {ws:List Lv} (hi:σ[i]? = some (some (.ref M.length))):ev Φ (.aG .pop true (.v i) .nil) σ (MW M (ws++[v]))=.ok v.d (MW M ws):=by
 rw [jA (Φ:=Φ) (p:=ws.map Lv.d) (x:=v.d) (e_v (M:=MW M (ws++[v])) hi) (by rw [w6];simp)];simp [MW]
theorem DL {v:Lv} {ws:List Lv} (hi:σ[i]? = some (some (.ref M.length))) (he:ev Φ e σ (MW M ws)=.ok v.d (MW M ws)) (hl:ws.length<90000):ev Φ (.aG .append true (.v i) (.cons e .nil)) σ (MW M ws)=.ok .ai (MW M (ws++[v])):=by
 rw [dP (e_v (M:=MW M ws) hi) (ys:=ws.map Lv.d) w6 he (xs:=ws.map Lv.d) w6 (by rw [List.length_map];exact Nat.lt_of_lt_of_le hl (by decide))];simp [MW]
theorem Ab {f:Nat} (hM:M[1]? = some (.lst (nats s.pl))) (he:ev Φ e σ M=.ok (.int (f:Int)) M) (hx:ev Φ e' σ M=.ok (.ref 1) M):ev Φ (.cmp .iJ e e') σ M=.ok (.bl (!decide (f∈s.pl))) M:=by
 rw [eB,he,R.af,hx,R.af]
 have q:AK M (.int (f:Int)) (.ref 1)=some (decide (f∈s.pl)):=by
  unfold AK
  simp only [vw,hM]
  rw [qU,vC];rfl
 simp only [bu,q]
theorem GP {v0:Lv} (h0:M[0]? = some (.lst (s.cs.map Cl.d))) (h1:M[1]? = some (.lst (nats s.pl))):∀ (N n:Nat) (ws:List Lv) (q:Bool) (c:Int) (a b:Option D),n<N->ws.length+n<80000->IY s ws n q ->
  ∃ (xq:List Lv) (c':Int) (a' b':Option D),aA (ev (aa ah k) oE) (exs (aa ah k) oB) N (sO M.length v0 c a b) (MW M ws)=.ok (if q then .nx (sO M.length v0 c' a' b') else .rt (.bl false)) (MW M xq):=by
 intro N
 induction N with
 | zero=>intro n ws q c a b h;exact absurd h (Nat.not_lt_zero _)
 | succ N ih =>
  intro n ws q c a b hn hl h
  have c0:ev (aa ah k) oE (sO M.length v0 c a b) (MW M ws)=.ok (.bl (decide (0<ws.length))) (MW M ws):=iZ (b:=0) (by rw [e_len (n:=M.length) rfl w6,List.length_map]) rfl
  cases h with
  | nil =>
   refine ⟨[],c,a,b,?_⟩
   rw [aA,c0];rfl
  | @snoc ds v n0 m b0 b1 hd hv =>
   rw [decide_eq_true (by simp)] at c0
   simp only [List.length_append,List.length_singleton] at hl
   have p1:ev (aa ah k) (.aG .pop true (.v 3) .nil) (sO M.length v0 c a b) (MW M (ds++[v]))=.ok v.d (MW M ds):=JC rfl
   have p2:ev (aa ah k) (.op .add true (.v 4) (.k (.int 1))) (sO M.length v0 c (some v.d) b) (MW M ds)=.ok (.int (c+1)) (MW M ds):=Ad rfl rfl
   have Jp:∀ {σ1:Sg} {M1:MH} {R:R Out},exs (aa ah k) oB (sO M.length v0 c a b) (MW M (ds++[v]))=.ok (.nx σ1) M1->aA (ev (aa ah k) oE) (exs (aa ah k) oB) N σ1 M1=R->aA (ev (aa ah k) oE) (exs (aa ah k) oB) (N+1) (sO M.length v0 c a b) (MW M (ds++[v]))=R:=fun h1 h2=>by
    rw [aA,c0]
    show (exs (aa ah k) oB (sO M.length v0 c a b) (MW M (ds++[v]))).bind _=_
    rw [h1]
    exact h2
   cases hv with
   | int z =>
    have i1:ev (aa ah k) (.fV (.v 5) .tuple) (sO M.length v0 (c+1) (some (Lv.int z).d) b) (MW M ds)=.ok (.bl false) (MW M ds):=rfl
    obtain ⟨xq,c',a',b',q2⟩:=ih n0 ds b0 (c+1) (some (Lv.int z).d) b (by omega) (by omega) hd
    rw [Bool.true_and]
    exact ⟨xq,c',a',b',Jp ((aq p1).trans ((aq p2).trans ((aK i1).trans rfl))) q2⟩
   | ai =>
    have i1:ev (aa ah k) (.fV (.v 5) .tuple) (sO M.length v0 (c+1) (some Lv.ai.d) b) (MW M ds)=.ok (.bl false) (MW M ds):=rfl
    obtain ⟨xq,c',a',b',q2⟩:=ih n0 ds b0 (c+1) (some Lv.ai.d) b (by omega) (by omega) hd
    rw [Bool.true_and]
    exact ⟨xq,c',a',b',Jp ((aq p1).trans ((aq p2).trans ((aK i1).trans rfl))) q2⟩
   | @aZ j n1 n2 x y1 y2 hx w1 w2 =>
    have i1:ev (aa ah k) (.fV (.v 5) .tuple) (sO M.length v0 (c+1) (some (Lv.aZ j).d) b) (MW M ds)=.ok (.bl true) (MW M ds):=rfl
    have i2:ev (aa ah k) (.idx (.v 0) (.idx (.v 5) (.k (.int 0)))) (sO M.length v0 (c+1) (some (Lv.aZ j).d) b) (MW M ds)=.ok x.d (MW M ds):=fS (n:=0) (xs:=s.cs.map Cl.d) rfl (aC rfl rfl bf) (wl h0) (cz (by rw [List.getElem?_map,hx];rfl))
    let σ2:Sg:=sO M.length v0 (c+1) (some (Lv.aZ j).d) (some x.d)
    have i3:ev (aa ah k) (.cmp .iJ (.idx (.v 6) (.k (.int 3))) (.v 1)) σ2 (MW M ds)=.ok (.bl (!decide (x.fd∈s.pl))) (MW M ds):=Ab (wl h1) (aC rfl rfl lW) rfl
    by_cases hf:x.fd∈s.pl
    ·rw [decide_eq_true hf] at i3 ⊢
     have a1:ev (aa ah k) (.aG .append true (.v 3) (.cons (.idx (.v 6) (.k (.int 1))) .nil)) σ2 (MW M ds)=.ok .ai (MW M (ds++[x.one])):=DL rfl (aC rfl rfl gX) (by omega)
     have a2:ev (aa ah k) (.aG .append true (.v 3) (.cons (.idx (.v 6) (.k (.int 2))) .nil)) σ2 (MW M (ds++[x.one]))=.ok .ai (MW M (ds++[x.one]++[x.dU])):=DL rfl (aC rfl rfl jV) (by simp;omega)
     have hw:IY s (ds++[x.one]++[x.dU]) (n0+n1+n2) (y2&&(y1&&b0)):=.snoc (.snoc hd w1) w2
     obtain ⟨xq,c',a',b',q2⟩:=ih (n0+n1+n2) (ds++[x.one]++[x.dU]) (y2&&(y1&&b0)) (c+1) (some (Lv.aZ j).d) (some x.d) (by omega) (by simp;omega) hw
     have eq:(true&&(y1&&y2)&&b0)=(y2&&(y1&&b0)):=by cases y1 <;> cases y2 <;> cases b0 <;> rfl
     rw [eq]
     exact ⟨xq,c',a',b',Jp ((aq p1).trans ((aq p2).trans ((jF i1 ((aq i2).trans ((aK i3).trans ((aJ a1).trans ((aJ a2).trans rfl))))).trans rfl))) q2⟩
    ·rw [decide_eq_false hf] at i3 ⊢
     refine ⟨ds,c,a,b,?_⟩
     have eb:exs (aa ah k) oB (sO M.length v0 c a b) (MW M (ds++[.aZ j]))=.ok (.rt (.bl false)) (MW M ds):=(aq p1).trans ((aq p2).trans (bR i1 ((aq i2).trans (bR i3 (aP rfl)))))
     rw [aA,c0]
     show (exs (aa ah k) oB (sO M.length v0 c a b) (MW M (ds++[.aZ j]))).bind _=_
     rw [eb,Bool.false_and,Bool.false_and];rfl
theorem IM {v:Lv} {n:Nat} {q:Bool} (h0:M[0]? = some (.lst (s.cs.map Cl.d))) (h1:M[1]? = some (.lst (nats s.pl))) (h:Wl s v n q) (hn:n<70000):(aa ah (k+1)).call 26 [.ref 0,.ref 1,v.d] M=.ok (.bl q) M:=by
 have hw:IY s [v] (0+n) (q&&true):=IY.snoc (ds:=[]) .nil h
 rw [Nat.zero_add,Bool.and_true] at hw
 obtain ⟨xq,c',a',b',e⟩:=GP (k:=k) (s:=s) (M:=M) (v0:=v) h0 h1 100000 n [v] q 0 none none (by omega) (by simp;omega) hw
 have e2:ex (aa ah k) (.while oE oB) (sO M.length v 0 none none) (MW M [v])=.ok (if q then .nx (sO M.length v c' a' b') else .rt (.bl false)) (MW M xq):=by
  rw [bC,aO];exact e
 have tk:(MW M xq).take M.length=M:=by simp [MW]
 cases q with
 | true=>exact aI LD rfl ((aq (x:=.ref M.length) (M1:=MW M [v]) rfl).trans ((aq rfl).trans ((aX e2).trans (aP rfl)))) (cM rfl tk)
 | false =>
  have e3:∀ ss,exs (aa ah k) (.cons (.while oE oB) ss) (sO M.length v 0 none none) (MW M [v])=.ok (.rt (.bl false)) (MW M xq):=fun ss=>by rw [cu,e2];rfl
  exact aI LD rfl ((aq (x:=.ref M.length) (M1:=MW M [v]) rfl).trans ((aq rfl).trans (e3 _))) (cM rfl tk)
end
end bI
end
section
namespace bI
open Fg PySem
inductive vE (s:Ls) (R:Lv->D->Prop):Lv->List D->Prop
 | nil:vE s R .ai []
 | cons {k:Nat} {c:Cl} {x:D} {xs:List D}:s.cs[k]? = some c->c.c=true->R c.one x->vE s R c.dU xs->vE s R (.aZ k) (x::xs)
noncomputable def Td (s:Ls):Nat->Lv->D->Prop
 | 0,_,_=>False
 | n+1,v,d=>(∃ i,v=.int i/\d=.int i)\/(∃ k c x y,v=.aZ k/\s.cs[k]? = some c/\c.c=false/\d=.tup [x,y]/\Td s n c.one x/\Td s n c.dU y)\/∃ xs,d=.lst xs/\xs.length<2000/\vE s (Td s n) v xs
section
variable {o:Nat} {s:Ls}
theorem yR (G:Good o s) {k:Nat} {c:Cl} (h:s.cs[k]? = some c):mv s.ms (.aZ k)=dQ s.ms c:=by
 show s.ms.getD k .ai=_
 rw [List.getD_eq_getElem?_getD,(G.at_ k c h).1];rfl
theorem vE.tl (G:Good o s) {R:Lv->D->Prop} {S:D->D->Prop} (h:∀ v d,R v d->S (mv s.ms v) d) {v:Lv} {xs:List D} (q:vE s R v xs):Ju S (mv s.ms v) xs:=by
 induction q with
 | nil=>exact .nil
 | cons h1 h2 h3 _ ih=>rw [yR G h1];unfold dQ;rw [h2];exact .cons (h _ _ h3) ih
theorem Td.tl (G:Good o s):∀ {n:Nat} {v:Lv} {d:D},Td s n v d->Tl n (mv s.ms v) d
 | 0,_,_,h=>h.elim
 | n+1,v,d,h=>by
  rcases h with ⟨i,rfl,rfl⟩ | ⟨k,c,x,y,rfl,h2,h3,rfl,h5,h6⟩ | ⟨xs,rfl,h2,h3⟩
  ·exact .inl ⟨i,rfl,rfl⟩
  ·refine .inr (.inl ⟨(c.sz:Int),mv s.ms c.one,mv s.ms c.dU,x,y,c.fd,?_,rfl,h5.tl G,h6.tl G⟩)
   rw [yR G h2];unfold dQ;rw [h3]
  ·exact .inr (.inr ⟨xs,rfl,h2,h3.tl G fun _ _=>Td.tl G⟩)
theorem vE.ex (G:Good o s) {m:Nat} (ih:∀ v,dm m v->∃ d,Td s (m+1) v d):∀ (j:Nat) (v:Lv),dm j v->j<=m+1->j<=s.cs.length->HN s.cs v->∃ xs,xs.length<=j/\vE s (Td s (m+1)) v xs:=by
 intro j
 induction j with
 | zero =>
  intro v hv _ _ hl
  cases v with
  | int _=>exact hl.elim
  | ai=>exact ⟨[],by simp,.nil⟩
  | aZ k=>exact absurd hv (Nat.not_lt_zero _)
 | succ j ihj =>
  intro v hv hm hc hl
  cases v with
  | int _=>exact hl.elim
  | ai=>exact ⟨[],by simp,.nil⟩
  | aZ k =>
   obtain ⟨c,h1,h2⟩:=hl
   have hk:k<j+1:=hv
   obtain ⟨_,g2,g3,g4,_⟩:=G.at_ k c h1
   obtain ⟨x,hx⟩:=ih c.one (g2.mono (by omega))
   obtain ⟨xs,hxs,hq⟩:=ihj c.dU (g3.mono (by omega)) (by omega) (by omega) (g4 h2)
   exact ⟨x::xs,by simp;omega,.cons h1 h2 hx hq⟩
theorem Td.ex (G:Good o s) (hc:s.cs.length<1000):∀ (m:Nat) (v:Lv),dm m v->m<=s.cs.length->∃ d,Td s (m+1) v d:=by
 intro m
 induction m with
 | zero =>
  intro v hv _
  cases v with
  | int i=>exact ⟨_,.inl ⟨i,rfl,rfl⟩⟩
  | ai=>exact ⟨_,.inr (.inr ⟨[],rfl,by simp,.nil⟩)⟩
  | aZ k=>exact absurd hv (Nat.not_lt_zero _)
 | succ m ih =>
  intro v hv hm
  cases v with
  | int i=>exact ⟨_,.inl ⟨i,rfl,rfl⟩⟩
  | ai=>exact ⟨_,.inr (.inr ⟨[],rfl,by simp,.nil⟩)⟩
  | aZ k =>
   have hk:k<m+1:=hv
   have hj:s.cs[k]? = some s.cs[k]:=List.getElem?_eq_getElem (by omega)
   obtain ⟨_,g2,g3,g4,_⟩:=G.at_ k _ hj
   have ih':∀ v,dm m v->∃ d,Td s (m+1) v d:=fun v hv=>ih v hv (by omega)
   cases hcc:s.cs[k].c with
   | false =>
    obtain ⟨x,hx⟩:=ih' s.cs[k].one (g2.mono (by omega))
    obtain ⟨y,hy⟩:=ih' s.cs[k].dU (g3.mono (by omega))
    exact ⟨_,.inr (.inl ⟨k,_,x,y,rfl,hj,hcc,rfl,hx,hy⟩)⟩
   | true =>
    obtain ⟨xs,hxs,hq⟩:=vE.ex G ih' (m+1) (.aZ k) hv (by omega) (by omega) ⟨_,hj,hcc⟩
    exact ⟨_,.inr (.inr ⟨xs,rfl,by omega,hq⟩)⟩
theorem E5 {R:Lv->D->Prop} (h:∀ v d,R v d->∀ m,nr m d=true) {v:Lv} {xs:List D} (q:vE s R v xs):∀ m,mz m xs=true:=by
 induction q with
 | nil=>intro m;simp [mz]
 | cons _ _ h3 _ ih=>intro m;simp only [mz,h _ _ h3 m,ih m,Bool.and_self]
theorem Td.nr:∀ {n:Nat} {v:Lv} {d:D},Td s n v d->∀ m,Fg.nr m d=true
 | 0,_,_,h,_=>h.elim
 | n+1,v,d,h,m=>by
  rcases h with ⟨i,rfl,rfl⟩ | ⟨k,c,x,y,rfl,h2,h3,rfl,h5,h6⟩ | ⟨xs,rfl,h2,h3⟩
  ·rfl
  ·simp only [Fg.nr,mz,h5.nr m,h6.nr m,Bool.and_self]
  ·simp only [Fg.nr]
   exact E5 (fun _ _=>Td.nr) h3 m
noncomputable def tE:E:=.cmp .iK (.v 1) (.k .ai)
noncomputable def tB:Ss:=.cons (.ex (.aG .append true (.v 2) (.cons (.call 27 (.cons (.v 0) (.cons (.idx (.idx (.v 0) (.idx (.v 1) (.k (.int 0)))) (.k (.int 1))) .nil))) .nil))) (.cons (.set 1 (.idx (.idx (.v 0) (.idx (.v 1) (.k (.int 0)))) (.k (.int 2)))) .nil)
variable {k:Nat}
theorem jj {Φ:aY} {σ:Sg} {M:MH} {j:Nat} {c:Cl} {z:Int} {x:D} (hM:M[0]? = some (.lst (s.cs.map Cl.d))) (h0:σ[0]? = some (some (.ref 0))) (h1:σ[1]? = some (some (Lv.aZ j).d)) (hc:s.cs[j]? = some c) (hx:dc [D.str (layW c.c),c.one.d,c.dU.d,.int (c.fd:Int),.int (c.sz:Int)] z=some x):ev Φ (.idx (.idx (.v 0) (.idx (.v 1) (.k (.int 0)))) (.k (.int z))) σ M=.ok x M :=
 aC (fS (n:=0) (xs:=s.cs.map Cl.d) (e_v h0) (aC (e_v h1) rfl bf) hM (cz (by rw [List.getElem?_map,hc];rfl))) rfl hx
theorem Cp {n:Nat} {M:MH} (hM:M[0]? = some (.lst (s.cs.map Cl.d))) (ih:∀ (v:Lv) (d:D) (M:MH),M[0]? = some (.lst (s.cs.map Cl.d))->Td s n v d->(aa ah (k+n)).call 27 [.ref 0,v.d] M=.ok d M):∀ (v:Lv) (xs acc:List D) (N:Nat),vE s (Td s n) v xs->xs.length<N->acc.length+xs.length<100000 ->
  ∃ v',aA (ev (aa ah (k+n)) tE) (exs (aa ah (k+n)) tB) N [some (.ref 0),some v.d,some (.ref M.length)] (M++[.lst acc])=.ok (.nx [some (.ref 0),some v',some (.ref M.length)]) (M++[.lst (acc++xs)]):=by
 intro v xs acc N h
 induction h generalizing acc N with
 | nil =>
  intro hN _
  obtain ⟨N,rfl⟩:∃ m,N=m+1:=⟨N-1,by omega⟩
  exact ⟨.ai,by rw [aA,List.append_nil];rfl⟩
 | @cons j c x xs hj hc hx _ ih2 =>
  intro hN hl
  simp only [List.length_cons] at hN hl
  obtain ⟨N,rfl⟩:∃ m,N=m+1:=⟨N-1,by omega⟩
  have g:(M++[MO.lst acc])[M.length]? = some (.lst acc):=by simp
  have hM':∀ {a:List D},(M++[MO.lst a])[0]? = some (.lst (s.cs.map Cl.d)):=fun {a}=>by rw [List.getElem?_append_left (List.getElem?_eq_some_iff.mp hM).1];exact hM
  have ec:ev (aa ah (k+n)) (.call 27 (.cons (.v 0) (.cons (.idx (.idx (.v 0) (.idx (.v 1) (.k (.int 0)))) (.k (.int 1))) .nil))) [some (.ref 0),some (Lv.aZ j).d,some (.ref M.length)] (M++[.lst acc])=.ok x (M++[.lst acc]):=by
   rw [bh,aL (x:=.ref 0) rfl (aL (jj hM' rfl rfl hj gX) rfl),R.af];exact ih _ _ _ hM' hx
  have e1:=dP (Φ:=aa ah (k+n)) (e:=.v 2) (σ:=[some (.ref 0),some (Lv.aZ j).d,some (.ref M.length)]) rfl g ec g (Nat.lt_of_lt_of_le (by omega:acc.length<100000) (by decide))
  have es:(M++[MO.lst acc]).set M.length (.lst (acc++[x]))=M++[.lst (acc++[x])]:=by rw [List.set_append_right _ _ (Nat.le_refl _),Nat.sub_self];rfl
  rw [es] at e1
  have e2:ev (aa ah (k+n)) (.idx (.idx (.v 0) (.idx (.v 1) (.k (.int 0)))) (.k (.int 2))) [some (.ref 0),some (Lv.aZ j).d,some (.ref M.length)] (M++[.lst (acc++[x])])=.ok c.dU.d (M++[.lst (acc++[x])]):=jj hM' rfl rfl hj jV
  obtain ⟨v',e3⟩:=ih2 (acc++[x]) N (by omega) (by simp;omega)
  refine ⟨v',?_⟩
  have eb:exs (aa ah (k+n)) tB [some (.ref 0),some (Lv.aZ j).d,some (.ref M.length)] (M++[.lst acc])=.ok (.nx [some (.ref 0),some c.dU.d,some (.ref M.length)]) (M++[.lst (acc++[x])]):=(aJ e1).trans ((aq e2).trans rfl)
  rw [aA]
  show (exs (aa ah (k+n)) tB [some (.ref 0),some (Lv.aZ j).d,some (.ref M.length)] (M++[.lst acc])).bind _=_
  rw [eb,show acc++x::xs=acc++[x]++xs by simp]
  exact e3
theorem Dm:∀ (n:Nat) (v:Lv) (d:D) (M:MH),M[0]? = some (.lst (s.cs.map Cl.d))->Td s n v d->(aa ah (k+n)).call 27 [.ref 0,v.d] M=.ok d M:=by
 intro n
 induction n with
 | zero=>intro v d M _ h;exact h.elim
 | succ n ih =>
  intro v d M hM h
  have rt:∀ {d:D},Fg.nr M.length d=true->eL false M d M=.ok d M:=fun h=>aU h rfl
  have h0:=h
  rcases h with ⟨i,rfl,rfl⟩ | ⟨j,c,x,y,rfl,h2,h3,rfl,h5,h6⟩ | ⟨xs,rfl,hl,h⟩
  ·have e1:ev (aa ah (k+n)) (.cmp .qq (.v 1) (.k .ai)) [some (.ref 0),some (Lv.int i).d,none] M=.ok (.bl false) M:=rfl
   have e2:ev (aa ah (k+n)) (.not (.fV (.v 1) .tuple)) [some (.ref 0),some (Lv.int i).d,none] M=.ok (.bl true) M:=rfl
   exact aI (P:=ah) (k:=k+n) CS rfl ((aK e1).trans (bR e2 (aP rfl))) (rt rfl)
  ·have e1:ev (aa ah (k+n)) (.cmp .qq (.v 1) (.k .ai)) [some (.ref 0),some (Lv.aZ j).d,none] M=.ok (.bl false) M:=rfl
   have e2:ev (aa ah (k+n)) (.not (.fV (.v 1) .tuple)) [some (.ref 0),some (Lv.aZ j).d,none] M=.ok (.bl false) M:=rfl
   have e3:ev (aa ah (k+n)) (.cmp .eq (.idx (.idx (.v 0) (.idx (.v 1) (.k (.int 0)))) (.k (.int 0))) (.k (.str (w "pair")))) [some (.ref 0), some (Lv.aZ j).d, none] M=.ok (.bl true) M:=bM (jj hM rfl rfl h2 bf) (by rw [h3];decide +kernel)
   have q1:ev (aa ah (k+n)) (.call 27 (.cons (.v 0) (.cons (.idx (.idx (.v 0) (.idx (.v 1) (.k (.int 0)))) (.k (.int 1))) .nil))) [some (.ref 0),some (Lv.aZ j).d,none] M=.ok x M:=by
    rw [bh,aL (x:=.ref 0) rfl (aL (jj hM rfl rfl h2 gX) rfl),R.af];exact ih _ _ _ hM h5
   have q2:ev (aa ah (k+n)) (.call 27 (.cons (.v 0) (.cons (.idx (.idx (.v 0) (.idx (.v 1) (.k (.int 0)))) (.k (.int 2))) .nil))) [some (.ref 0),some (Lv.aZ j).d,none] M=.ok y M:=by
    rw [bh,aL (x:=.ref 0) rfl (aL (jj hM rfl rfl h2 jV) rfl),R.af];exact ih _ _ _ hM h6
   exact aI (P:=ah) (k:=k+n) CS rfl ((aK e1).trans ((aK e2).trans (bR e3 (aP (by rw [bH,aL q1 (aL q2 rfl)];rfl))))) (rt (h0.nr _))
  ·cases h with
   | nil =>
    have e1:ev (aa ah (k+n)) (.cmp .qq (.v 1) (.k .ai)) [some (.ref 0),some Lv.ai.d,none] M=.ok (.bl true) M:=rfl
    exact aI (P:=ah) (k:=k+n) CS rfl (bR e1 (aP rfl)) (rt (h0.nr _))
   | @cons j c x xs hj hc hx hr =>
    have hh:vE s (Td s n) (.aZ j) (x::xs):=.cons hj hc hx hr
    have e1:ev (aa ah (k+n)) (.cmp .qq (.v 1) (.k .ai)) [some (.ref 0),some (Lv.aZ j).d,none] M=.ok (.bl false) M:=rfl
    have e2:ev (aa ah (k+n)) (.not (.fV (.v 1) .tuple)) [some (.ref 0),some (Lv.aZ j).d,none] M=.ok (.bl false) M:=rfl
    have e3:ev (aa ah (k+n)) (.cmp .eq (.idx (.idx (.v 0) (.idx (.v 1) (.k (.int 0)))) (.k (.int 0))) (.k (.str (w "pair")))) [some (.ref 0), some (Lv.aZ j).d, none] M=.ok (.bl false) M:=bM (jj hM rfl rfl hj bf) (by rw [hc];decide +kernel)
    obtain ⟨v',e4⟩:=Cp (k:=k) (M:=M) hM ih (.aZ j) (x::xs) [] 100000 hh (by simp at hl ⊢;omega) (by simp at hl ⊢;omega)
    have e5:ex (aa ah (k+n)) (.while tE tB) [some (.ref 0),some (Lv.aZ j).d,some (.ref M.length)] (M++[.lst []])=.ok (.nx [some (.ref 0),some v',some (.ref M.length)]) (M++[.lst (x::xs)]):=by
     rw [bC,aO];exact e4
    have hnr:mz M.length (x::xs)=true:=by have:=h0.nr M.length;simpa only [Fg.nr] using this
    refine aI (P:=ah) (k:=k+n) CS rfl ((aK e1).trans ((aK e2).trans ((aK e3).trans ((aq rfl).trans ((aX e5).trans (aP rfl)))))) ?_
    show eL false M (.ref M.length) (M++[.lst (x::xs)])=_
    have g:(M++[MO.lst (x::xs)])[M.length]? = some (.lst (x::xs)):=by simp
    unfold eL
    rw [if_pos ⟨rfl,by simp⟩,if_neg (by simp [nr])]
    simp only [g,hnr,if_true]
end
end bI
end
section
namespace bI
open Fg PySem
section
variable {M M1:MH} {k:Nat} {code nums y:D}
noncomputable def hs3:Hs:=.cons [1] (.cons (.set 2 (.k (.str (w "great")))) .nil) (.cons [5] (.cons (.set 2 (.k (.str (w "gone")))) .nil) (.cons [0] (.cons (.set 2 (.k (.str (w "other")))) .nil) .nil))
theorem Ar {Φ:aY} {σ:Sg} (h:σ[0]? = some (some code)) (h1:σ[1]? = some (some nums)):ev Φ (.gW 7 (.cons (.v 0) (.cons (.v 1) .nil)) 200) σ M=Φ.call 7 [code,nums,.int 200] M:=by
 rw [zZ,lK (e_v h) (e_v h1)];rfl
theorem rP {n:Nat} (h:(aa ah k).call 7 [code, nums, .int 200] M=.ok (.tup [y, .ref n]) M1) (ht:M1.take M.length=M) (hn:M.length<=n):(aa ah (k+1)).call 32 [code, nums] M=.ok (.tup [.str (w ""), .tup [y, .ref n]]) M1:=by
 have et:ex (aa ah k) (.try (.cons (.set 3 (.gW 7 (.cons (.v 0) (.cons (.v 1) .nil)) 200)) .nil) hs3 .nil) [some code, some nums, some (.str (w "")), some .ai] M=.ok (.nx [some code, some nums, some (.str (w "")), some (.tup [y, .ref n])]) M1:=by
  rw [zS,aq ((Ar rfl rfl).trans h)];rfl
 have nn:¬ nr M.length (.tup [.str (w ""), .tup [y, .ref n]])=true:=by
  simp only [nr,mz,Bool.and_true,Bool.and_eq_true,decide_eq_true_eq,not_and,Nat.not_lt]
  exact fun _ _=>hn
 exact aI LB rfl ((aq rfl).trans ((aq rfl).trans ((aX et).trans (aP rfl)))) ((if_pos ⟨rfl,ht⟩).trans (if_neg nn))
noncomputable def rW (c:Nat):Str:=if c=1 then w "great" else w "gone"
theorem yk {c:Nat} (hc:c=1\/c=5) (h:(aa ah k).call 7 [code,nums,.int 200] M=.exc c M):(aa ah (k+1)).call 32 [code,nums] M=.ok (.tup [.str (rW c),.ai]) M:=by
 have sub:(aa ah k).sub=ah.sub:=wY
 have et:ex (aa ah k) (.try (.cons (.set 3 (.gW 7 (.cons (.v 0) (.cons (.v 1) .nil)) 200)) .nil) hs3 .nil) [some code, some nums, some (.str (w "")), some .ai] M=.ok (.nx [some code, some nums, some (.str (rW c)), some .ai]) M:=by
  rw [zS,rO ((Ar rfl rfl).trans h),R.af]
  show AN (aa ah k) _ c _ M=_
  rw [hs3,qF,qF,sub]
  rcases hc with rfl | rfl <;> rfl
 exact aI LB rfl ((aq rfl).trans ((aq rfl).trans ((aX et).trans (aP rfl)))) (aU (by simp [nr,mz]) rfl)
noncomputable def cT (n:Int):D:=.tup [.str (layW true),.int 3,.int n,.ai,.int (0:Nat)]
theorem xG {n:Int}:(aa ah (k+2)).call 5 [cT n] M=.ok (.ref M.length) (M++[.lst [.int n]]):=by
 have q1:∀ {M':MH},(aa ah (k+1)).call 5 [.int n] M'=.ok (.int n) M':=fun {M'}=>aI (P:=ah) (k:=k) HU rfl (bR (x:=.int n) (M1:=M') rfl rfl) rfl
 have e1:ev (aa ah (k+1)) (.fV (.v 0) .int) [some (cT n),none] M=.ok (.bl false) M:=rfl
 have e2:ev (aa ah (k+1)) (.and (.cmp .iK (.v 0) (.k .ai)) (.cmp .eq (.idx (.v 0) (.k (.int 0))) (.k (.str (w "pair"))))) [some (cT n), none] M=.ok (.bl false) M:=by
  have e:ev (aa ah (k+1)) (.cmp .eq (.idx (.v 0) (.k (.int 0))) (.k (.str (w "pair")))) [some (cT n), none] M=.ok (.bl false) M:=bM (aC rfl rfl bf) (by decide +kernel)
  rw [jx]
  exact e
 have g:(M++[MO.lst []])[M.length]? = some (.lst []):=by simp
 have ec:ev (aa ah (k+1)) (.call 5 (.cons (.idx (.v 0) (.k (.int 2))) .nil)) [some (cT n),some (.ref M.length)] (M++[.lst []])=.ok (.int n) (M++[.lst []]):=(bP (aC rfl rfl jV)).trans q1
 have e3:=dP (Φ:=aa ah (k+1)) (e:=.v 1) (σ:=[some (cT n),some (.ref M.length)]) rfl g ec g (by decide)
 have es:(M++[MO.lst []]).set M.length (.lst ([]++[.int n]))=M++[.lst [.int n]]:=by rw [List.set_append_right _ _ (Nat.le_refl _),Nat.sub_self];rfl
 rw [es] at e3
 have e4:ev (aa ah (k+1)) (.idx (.v 0) (.k (.int 3))) [some (cT n),some (.ref M.length)] (M++[.lst [.int n]])=.ok .ai (M++[.lst [.int n]]):=aC rfl rfl lW
 have eb:exs (aa ah (k+1)) lB [some (cT n),some (.ref M.length)] (M++[.lst []])=.ok (.nx [some .ai,some (.ref M.length)]) (M++[.lst [.int n]]):=(aJ e3).trans ((aq e4).trans rfl)
 have e5:ex (aa ah (k+1)) (.while lE lB) [some (cT n),some (.ref M.length)] (M++[.lst []])=.ok (.nx [some .ai,some (.ref M.length)]) (M++[.lst [.int n]]):=by
  rw [bC,aO]
  show aA _ _ (99998+1+1) _ _=_
  rw [aA]
  show (exs (aa ah (k+1)) lB [some (cT n),some (.ref M.length)] (M++[.lst []])).bind _=_
  rw [eb]
  show aA _ _ (99998+1) _ _=_
  rw [aA];rfl
 exact aI (P:=ah) (k:=k+1) HU rfl ((aK e1).trans ((aK e2).trans ((aq rfl).trans ((aX e5).trans (aP rfl))))) rfl
end
end bI
end
section
namespace bI
open Fg PySem
noncomputable def Jh (n:Int):List Rw:=[.num n,.nil,.lay true 0,.keep,.loc 0,.loc 0,.lay false 0,.back]
noncomputable def pT (n:Int):D:=.tup [.str (layW false),.int 7,cT n,cT n,.int (0:Nat)]
theorem runT (n:Int):go (Jh n) 200 12 (ms1 1 [] 0)=.ok ⟨[pT n],[],[true],opens 1++[uK 0,uK 0],0,.ai⟩:=by kernel_rfl
theorem E3 {n:Int} {k:Nat} (M:MH):∃ y X,(aa ah (k+3)).call 5 [pT n] M=.ok y (M++X)/\(y=.tup [.ref M.length,.ref (M.length+1)]/\X=[.lst [.int n],.lst [.int n]]):=by
 refine ⟨_,_,?_,rfl,rfl⟩
 have e1:ev (aa ah (k+2)) (.fV (.v 0) .int) [some (pT n),none] M=.ok (.bl false) M:=rfl
 have e2:ev (aa ah (k+2)) (.and (.cmp .iK (.v 0) (.k .ai)) (.cmp .eq (.idx (.v 0) (.k (.int 0))) (.k (.str (w "pair"))))) [some (pT n), none] M=.ok (.bl true) M:=by
  have e:ev (aa ah (k+2)) (.cmp .eq (.idx (.v 0) (.k (.int 0))) (.k (.str (w "pair")))) [some (pT n), none] M=.ok (.bl true) M:=bM (aC rfl rfl bf) (by decide +kernel)
  rw [jx]
  exact e
 have q2:=xG (k:=k) (M:=M++[.lst [.int n]]) (n:=n)
 have el:(M++[MO.lst [D.int n]]).length=M.length+1:=by simp
 rw [el,List.append_assoc] at q2
 have e3:ev (aa ah (k+2)) (.tup (.cons (.call 5 (.cons (.idx (.v 0) (.k (.int 2))) .nil)) (.cons (.call 5 (.cons (.idx (.v 0) (.k (.int 3))) .nil)) .nil))) [some (pT n),none] M=.ok (.tup [.ref M.length,.ref (M.length+1)]) (M++[.lst [.int n],.lst [.int n]]):=by
  rw [bH,lK ((bP (aC rfl rfl jV)).trans (xG (k:=k))) ((bP (aC rfl rfl lW)).trans q2)];rfl
 exact aI (P:=ah) (k:=k+2) HU rfl ((aK e1).trans (bR e2 (aP e3))) rfl
end bI
end
section
namespace bI
open Fg PySem
mutual
theorem qI:∀ (d:D),Fg.plain d=true->aN d d=true
 | .ai,_=>by simp
 | .bl _,h=>by simp [Fg.plain] at h
 | .int _,_=>by simp
 | .str _,_=>by simp
 | .tup ds,h=>by simp only [Fg.plain] at h;rw [qH];exact gE ds h
 | .lst ds,h=>by simp only [Fg.plain] at h;rw [cR];exact gE ds h
 | .dct _ _,h=>by simp [Fg.plain] at h
 | .ref _,h=>by simp [Fg.plain] at h
theorem gE:∀ (ds:List D),av ds=true->dN ds ds=true
 | [],_=>by simp
 | d::ds,h=>by
  simp only [av,Bool.and_eq_true] at h
  rw [C8,qI d h.1,gE ds h.2];rfl
end
theorem fk:∀ {ds:List D},av ds=true->∀ d∈ds,Fg.plain d=true
 | [],_,_,h=>by cases h
 | e::ds,p,d,h=>by
  simp only [av,Bool.and_eq_true] at p
  rcases List.mem_cons.mp h with rfl | h
  ·exact p.1
  ·exact fk p.2 d h
theorem gy:∀ {ds:List D},(∀ d∈ds,Fg.plain d=true)->av ds=true
 | [],_=>by simp [av]
 | d::ds,h=>by simp only [av,h d List.mem_cons_self,gy fun e he=>h e (List.mem_cons_of_mem _ he),Bool.and_self]
theorem ko {n:Nat}:∀ {ds:List D},(∀ d∈ds,dep d<=n)->deps ds<=n
 | [],_=>by simp [deps]
 | d::ds,h=>by simp only [deps];exact Nat.max_le.mpr ⟨h d List.mem_cons_self,ko fun e he=>h e (List.mem_cons_of_mem _ he)⟩
theorem iM {α:Type} {f:α->α}:∀ {ds:List α},(∀ d∈ds,f d=d)->ds.map f=ds
 | [],_=>rfl
 | d::ds,h=>by rw [List.map_cons,h d List.mem_cons_self,iM fun e he=>h e (List.mem_cons_of_mem _ he)]
theorem cI {M:MH} (n:Nat):∀ d:D,Fg.plain d=true->deep n M d=d:=by
 induction n with
 | zero=>intro d _;rfl
 | succ n ih =>
  intro d h
  cases d with
  | tup ds=>simp only [Fg.plain] at h;simp only [deep];rw [iM fun d hd=>ih d (fk h d hd)]
  | lst ds=>simp only [Fg.plain] at h;simp only [deep];rw [iM fun d hd=>ih d (fk h d hd)]
  | ref _=>simp [Fg.plain] at h
  | _=>rfl
theorem rw_plain (r:Rw):Fg.plain r.d=true/\dep r.d<=2:=by
 cases r with
 | _=>simp [Rw.d,Fg.plain,av,dep,deps]
theorem mT {r:List Rw}:av (r.map Rw.d)=true/\deps (r.map Rw.d)<=2 :=
 ⟨gy fun d hd=>by obtain ⟨x,_,rfl⟩:=List.mem_map.mp hd;exact (rw_plain x).1,ko fun d hd=>by obtain ⟨x,_,rfl⟩:=List.mem_map.mp hd;exact (rw_plain x).2⟩
theorem oM {M:MH} {neg:Bool} {a b d:D} (ha:deep 120 M a=d) (hb:deep 120 M b=d) (hp:Fg.plain d=true) (hd:dep d<=100):C6 M neg a b=.ok (.bl (!neg)) M:=by
 have hc:bw d d=true:=by simp only [bw,hp,decide_eq_true hd,Bool.and_self,Bool.or_self]
 unfold C6
 rw [ha,hb,if_pos hc,qI d hp]
 cases neg <;> rfl
theorem KZ {M:MH} {a b:D} (h1:w9 a b=none) (h2:bw (top M a) (top M b)=false) (h3:kU M a b=none):bu .ne M a b=C6 M true a b:=by
 simp only [bu,h1,wj,h2,h3,Bool.false_eq_true,if_false]
theorem LX {M:MH} {a b:D} (h1:w9 a b=none) (h2:bw (top M a) (top M b)=false) (h3:kU M a b=none):bu .eq M a b=C6 M false a b:=by
 simp only [bu,h1,Js,h2,h3,Bool.false_eq_true,if_false]
theorem lS {M:MH} {n:Nat} {ds:List D}:deep (n+1) M (.tup ds)=.tup (ds.map (deep n M)):=rfl
theorem jC {M:MH} {n r:Nat} {ds:List D} (h:M[r]? = some (.lst ds)) (hp:av ds=true):deep (n+1) M (.ref r)=.lst ds:=by
 have e:deep (n+1) M (.ref r)=.lst (ds.map (deep n M)):=by simp only [deep,h]
 rw [e,iM fun d hd=>cI n d (fk hp d hd)]
theorem Af {M:MH} {n:Nat} {i:Int}:deep n M (.int i)=.int i:=cI n _ (by simp [Fg.plain])
theorem Io {M:MH} {r:Nat} {ds:List D} (h:M[r]? = some (.lst ds)) (hp:av ds=true) (hd:deps ds<=50):bu .eq M (.ref r) (.lst ds)=.ok (.bl true) M:=by
 have h1:dep (.lst ds)<=100:=by simp only [dep];omega
 have hc:bw (.lst ds) (.lst ds)=true:=by
  simp only [bw,Fg.plain,hp,Bool.and_self,decide_eq_true h1,Bool.or_self]
 have ht:top M (.ref r)=.lst ds:=by simp only [top,h]
 simp only [bu,w9,Js,ht,show top M (.lst ds)=.lst ds from rfl,hc,if_true,cR,gE ds hp]
section
variable {k:Nat} {Φ:aY} {σ:Sg} {M M1 M2:MH} {e e':E}
theorem nu {o:AG} {a b c:D} (he:ev Φ e σ M=.ok a M) (hx:ev Φ e' σ M=.ok b M) (h:bu o M a b=.ok c M):ev Φ (.cmp o e e') σ M=.ok c M:=by
 rw [eB,he,R.af,hx,R.af];exact h
theorem oV {xs ys:List D} (he:ev Φ e σ M=.ok (.lst xs) M) (hx:ev Φ e' σ M=.ok (.lst ys) M) (hl:xs.length+ys.length<=90000):ev Φ (.op .add true e e') σ M=.ok (.lst (xs++ys)) M:=by
 have h:xs.length+ys.length<=line:=Nat.le_trans hl (by decide)
 rw [iW,he,R.af,hx,R.af]
 simp only [rq,vw,decide_eq_true h,if_true,cF]
theorem Dk {n:Int}:(aa ah (k+9)).call 34 [.int n] M=.ok (.bl true) M:=by
 let σ0:Sg:=[some (.int n),some (.lst ((Jh n).map Rw.d)),none,none]
 obtain ⟨x',y,T0,X,Mt,q1,q2,q3,q4,q5,q6⟩:=nQ (k:=k) (M0:=M) (most:=200) (rs:=Jh n) (o:=1) (b:=0) (N:=12) (n:=7) (kn:=[]) (p:=[]) (v:=pT n) (by decide) (fun v hv=>absurd hv (by simp)) (runT n) (by decide) rfl (Wa.cell (n1:=3) (n2:=3) (b1:=true) (b2:=true) (o:=true) rfl (.cell (n1:=1) (n2:=1) (b1:=true) (b2:=true) (o:=true) rfl (.int n) .ai) (.cell (n1:=1) (n2:=1) (b1:=true) (b2:=true) (o:=true) rfl (.int n) .ai)) (by decide) (show [true].length<lim by decide) (show 1<=[true].length by decide) (show (opens 1++[uK 0,uK 0]).length<lim by decide) (fun M=>E3 (k:=k+2) M)
 subst q5 q6
 have rn:=rP (k:=k+7) q1 (by simp [Mx.h]) (by omega)
 have gt:∀ i,(x'.h M)[Mt.length+i]? = [MO.lst [.int n],.lst [.int n]][i]?:=fun i=>by
  rw [q4,show M.length+(T0.length+5)+i=M.length+((T0.length+i)+5) by omega,gT,q3,List.getElem?_append_right (by omega),Nat.add_sub_cancel_left]
 have g0:(x'.h M)[Mt.length]? = some (.lst [.int n]):=gt 0
 have g1:(x'.h M)[Mt.length+1]? = some (.lst [.int n]):=gt 1
 let fd:D:=.tup [.tup [.ref Mt.length,.ref (Mt.length+1)],.ref (M.length+4)]
 let σ1:Sg:=[some (.int n), some (.lst ((Jh n).map Rw.d)), some (.str (w "")), some fd]
 have u:ex (aa ah (k+8)) (.nJ [2,3] (.call 32 (.cons (.tup (.cons (.v 1) (.cons (.k (.int 0)) (.cons (.k (.int 1)) .nil)))) (.cons (.lst true .nil) .nil)))) σ0 M=.ok (.nx σ1) (x'.h M):=by
  rw [sV,bh,aL (x:=.tup [.lst ((Jh n).map Rw.d),.int 0,.int 1]) rfl (aL (x:=.lst []) rfl rfl),R.af]
  have rn':(aa ah (k+8)).call 32 [.tup [.lst ((Jh n).map Rw.d),.int 0,.int 1],.lst []] M=_:=rn
  rw [rn'];rfl
 have pd:Fg.plain (.tup [.lst [.int n],.lst [.int n]])=true:=by simp [Fg.plain,av]
 have c2:ev (aa ah (k+8)) (.cmp .ne (.idx (.v 3) (.k (.int 0))) (.tup (.cons (.lst true (.cons (.v 0) .nil)) (.cons (.lst true (.cons (.v 0) .nil)) .nil)))) σ1 (x'.h M)=.ok (.bl false) (x'.h M):=by
  refine nu (a:=.tup [.ref Mt.length,.ref (Mt.length+1)]) (b:=.tup [.lst [.int n],.lst [.int n]]) (aC rfl rfl bf) rfl ?_
  rw [KZ rfl (by simp [bw,top,Fg.plain,av]) rfl]
  refine oM (d:=.tup [.lst [.int n],.lst [.int n]]) ?_ (cI 120 _ pd) pd (by simp [dep,deps])
  simp only [lS,List.map_cons,List.map_nil,jC g0 (by simp [av,Fg.plain]),jC g1 (by simp [av,Fg.plain])]
 have c1:ev (aa ah (k+8)) (.cmp .ne (.v 2) (.k (.str (w "")))) σ1 (x'.h M)=.ok (.bl false) (x'.h M):=by
  refine nu (a:=.str (w "")) (b:=.str (w "")) rfl rfl ?_
  simp [bu,w9,wj,top,bw,Fg.plain,dep]
 have c3:=Aa c1 fun _=>c2
 have e1:∀ {M':MH},ev (aa ah (k+8)) (.idx (.idx (.v 3) (.k (.int 0))) (.k (.int 0))) σ1 M'=.ok (.ref Mt.length) M':=fun {M'}=>aC (aC rfl rfl bf) rfl bf
 have e2:∀ {M':MH},ev (aa ah (k+8)) (.idx (.idx (.v 3) (.k (.int 0))) (.k (.int 1))) σ1 M'=.ok (.ref (Mt.length+1)) M':=fun {M'}=>aC (aC rfl rfl bf) rfl gX
 have a1:=dP (Φ:=aa ah (k+8)) (σ:=σ1) (e':=.k (.int 7)) e1 g0 rfl g0 (show 1<line by decide)
 have g2:((x'.h M).set Mt.length (.lst ([.int n]++[.int 7])))[Mt.length+1]? = some (.lst [.int n]):=by
  rw [List.getElem?_set_ne (by omega)];exact g1
 have c4:=nu (o:=.eq) (Φ:=aa ah (k+8)) (σ:=σ1) (e':=.lst true (.cons (.v 0) .nil)) (b:=.lst [.int n]) e2 rfl (Io g2 (by simp [av,Fg.plain]) (by simp [deps,dep]))
 have tk:((x'.h M).set Mt.length (.lst ([.int n]++[.int 7]))).take M.length=M:=by
  rw [List.take_set_of_le (by omega)];simp [Mx.h]
 exact aI fn34 rfl ((aq rfl).trans ((aX u).trans ((aK c3).trans ((aJ a1).trans (aP c4))))) (cM rfl tk)
end
end bI
end
section
namespace bI
open Fg PySem
noncomputable def kg:Nat->List Rw
 | 0=>[.num 5,.keep]
 | t+1=>kg t++[.loc t,.loc t,.lay false 0,.keep]
noncomputable def qu:Nat->Nat
 | 0=>1
 | t+1=>2*qu t+1
noncomputable def xu (t:Nat):List D:=opens 1++List.replicate t (uK 0)
theorem runG:(List.range 9).map (fun t=>go (kg t++[.num 7,.back]) 200 60 (ms1 1 [] 0))=(List.range 9).map fun t=>.ok ⟨[.int 7],[],[true],xu t,0,.ai⟩:=by kernel_rfl
theorem runX:[9,10,11,12].map (fun t=>go (kg t++[.num 7,.back]) 200 60 (ms1 1 [] 0))=[9,10,11,12].map fun _=>.exc 1:=by kernel_rfl
theorem J8 {t:Nat} (h:t<9):go (kg t++[.num 7,.back]) 200 60 (ms1 1 [] 0)=.ok ⟨[.int 7],[],[true],xu t,0,.ai⟩:=List.map_inj_left.mp runG t (List.mem_range.mpr h)
theorem J7 {t:Nat} (h:9<=t) (h2:t<=12):go (kg t++[.num 7,.back]) 200 60 (ms1 1 [] 0)=.exc 1:=List.map_inj_left.mp runX t (by
 have:t=9\/t=10\/t=11\/t=12:=by omega
 rcases this with rfl | rfl | rfl | rfl <;> decide)
theorem grZ_:∀ t,t<=12->(decide (1000<qu t)=decide (9<=t)):=by decide
theorem om:∀ t,(kg t).length=2+4*t
 | 0=>rfl
 | t+1=>by rw [kg,List.length_append,om t];simp;omega
theorem pZ {α:Type} (x:α):∀ t:Nat,(List.replicate t [x]).flatten=List.replicate t x
 | 0=>rfl
 | t+1=>by rw [List.replicate_succ,List.flatten_cons,pZ x t,List.replicate_succ];rfl
noncomputable def gB:Ss:=.cons (.set 2 (.op .add true (.v 2) (.lst true (.cons (.tup (.cons (.k (.str (w "local"))) (.cons (.v 4) .nil))) (.cons (.tup (.cons (.k (.str (w "local"))) (.cons (.v 4) .nil))) (.cons (.tup (.cons (.k (.str (w "pair"))) (.cons (.k (.int 0)) .nil))) (.cons (.tup (.cons (.k (.str (w "keep"))) .nil)) .nil))))))) (.cons (.set 3 (.op .add true (.op .mul true (.k (.int 2)) (.v 3)) (.k (.int 1)))) .nil)
section
variable {k:Nat} {Φ:aY} {σ:Sg} {M M1 M2:MH} {e e':E}
theorem zL {ch:MH->Bool} (hch:ch M=true) {n t:Nat}:∀ (m j:Nat) (a:Option D),j+m<=12->∃ a',bK (exs Φ gB) [4] ch (nats (List.range' j m)) [some (.int (n:Int)),some (.int (t:Int)),some (.lst ((kg j).map Rw.d)),some (.int (qu j:Int)),a,none,none] M=.ok (.nx [some (.int (n:Int)),some (.int (t:Int)),some (.lst ((kg (j+m)).map Rw.d)),some (.int (qu (j+m):Int)),a',none,none]) M
 | 0,j,a,_=>⟨a,rfl⟩
 | m+1,j,a,h=>by
  obtain ⟨a',q⟩:=zL hch (n:=n) (t:=t) m (j+1) (some (.int (j:Int))) (by omega)
  refine ⟨a',?_⟩
  have e1:ev Φ (.op .add true (.v 2) (.lst true (.cons (.tup (.cons (.k (.str (w "local"))) (.cons (.v 4) .nil))) (.cons (.tup (.cons (.k (.str (w "local"))) (.cons (.v 4) .nil))) (.cons (.tup (.cons (.k (.str (w "pair"))) (.cons (.k (.int 0)) .nil))) (.cons (.tup (.cons (.k (.str (w "keep"))) .nil)) .nil)))))) [some (.int (n:Int)), some (.int (t:Int)), some (.lst ((kg j).map Rw.d)), some (.int (qu j:Int)), some (.int (j:Int)), none, none] M=.ok (.lst ((kg (j+1)).map Rw.d)) M:=by
   have:=oV (Φ:=Φ) (M:=M) (σ:=[some (.int (n:Int)), some (.int (t:Int)), some (.lst ((kg j).map Rw.d)), some (.int (qu j:Int)), some (.int (j:Int)), none, none]) (e:=.v 2) (e':=.lst true (.cons (.tup (.cons (.k (.str (w "local"))) (.cons (.v 4) .nil))) (.cons (.tup (.cons (.k (.str (w "local"))) (.cons (.v 4) .nil))) (.cons (.tup (.cons (.k (.str (w "pair"))) (.cons (.k (.int 0)) .nil))) (.cons (.tup (.cons (.k (.str (w "keep"))) .nil)) .nil))))) (xs:=(kg j).map Rw.d) (ys:=[.tup [.str (w "local"), .int (j:Int)], .tup [.str (w "local"), .int (j:Int)], .tup [.str (w "pair"), .int 0], .tup [.str (w "keep")]]) rfl rfl (by rw [List.length_map, om];simp;omega)
   rw [this,kg,List.map_append];rfl
  have e2:ev Φ (.op .add true (.op .mul true (.k (.int 2)) (.v 3)) (.k (.int 1))) [some (.int (n:Int)),some (.int (t:Int)),some (.lst ((kg (j+1)).map Rw.d)),some (.int (qu j:Int)),some (.int (j:Int)),none,none] M=.ok (.int (qu (j+1):Int)) M:=by
   have:ev Φ (.op .mul true (.k (.int 2)) (.v 3)) [some (.int (n:Int)),some (.int (t:Int)),some (.lst ((kg (j+1)).map Rw.d)),some (.int (qu j:Int)),some (.int (j:Int)),none,none] M=.ok (.int ((2*qu j:Nat):Int)) M:=by
    rw [iW,wN,R.af,e_v (d:=.int (qu j:Int)) rfl,R.af]
    have:small 2=true:=by decide +kernel
    simp only [rq,gF,this,Bool.true_or,if_true];rfl
   exact gv (b:=1) this rfl
  show bK (exs Φ gB) [4] ch (.int (j:Int)::nats (List.range' (j+1) m)) _ M=_
  rw [bK]
  show (exs Φ gB [some (.int (n:Int)),some (.int (t:Int)),some (.lst ((kg j).map Rw.d)),some (.int (qu j:Int)),some (.int (j:Int)),none,none] M).bind _=_
  rw [gB,aq e1]
  show (exs Φ (.cons (.set 3 _) .nil) [some (.int (n:Int)),some (.int (t:Int)),some (.lst ((kg (j+1)).map Rw.d)),some (.int (qu j:Int)),some (.int (j:Int)),none,none] M).bind _=_
  rw [aq e2]
  show (if ch M then _ else _)=_
  rw [if_pos hch,show j+(m+1)=j+1+m by omega]
  exact q
theorem Dq {n:Nat}:(aa ah (k+9)).call 35 [.int (n:Int)] M=.ok (.bl true) M:=by
 let t:=1+n % 12
 have ht:t<=12:=by show 1+n % 12<=12;omega
 have e1:ev (aa ah (k+8)) (.op .add true (.k (.int 1)) (.op .mod true (.v 0) (.k (.int 12)))) [some (.int (n:Int)),none,none,none,none,none,none] M=.ok (.int (t:Int)) M:=gv (a:=1) rfl (cH (b:=12) rfl rfl (by decide))
 have hi:bO (aa ah (k+8)) (.eF (.v 1)) [some (.int (n:Int)),some (.int (t:Int)),some (.lst ((kg 0).map Rw.d)),some (.int (qu 0:Int)),none,none,none] M=.ok (.ai,nats (List.range t),false) M:=oQ rfl (by omega)
 obtain ⟨a',q⟩:=zL (Φ:=aa ah (k+8)) (M:=M) (ch:=bq M .ai) rfl (n:=n) (t:=t) t 0 none (by omega)
 rw [Nat.zero_add,<- List.range_eq_range'] at q
 let rs:=kg t++[Rw.num 7,.back]
 have ec:ev (aa ah (k+8)) (.op .add true (.v 2) (.lst true (.cons (.tup (.cons (.k (.str (w "number"))) (.cons (.k (.int 7)) .nil))) (.cons (.tup (.cons (.k (.str (w "back"))) .nil)) .nil)))) [some (.int (n:Int)), some (.int (t:Int)), some (.lst ((kg t).map Rw.d)), some (.int (qu t:Int)), a', none, none] M=.ok (.lst (rs.map Rw.d)) M:=by
  have:=oV (Φ:=aa ah (k+8)) (M:=M) (σ:=[some (.int (n:Int)), some (.int (t:Int)), some (.lst ((kg t).map Rw.d)), some (.int (qu t:Int)), a', none, none]) (e:=.v 2) (e':=.lst true (.cons (.tup (.cons (.k (.str (w "number"))) (.cons (.k (.int 7)) .nil))) (.cons (.tup (.cons (.k (.str (w "back"))) .nil)) .nil))) (xs:=(kg t).map Rw.d) (ys:=[.tup [.str (w "number"), .int 7], .tup [.str (w "back")]]) rfl rfl (by rw [List.length_map, om];simp;omega)
  rw [this,List.map_append];rfl
 let σ1 (a b:Option D):Sg:=[some (.int (n:Int)),some (.int (t:Int)),some (.lst ((kg t).map Rw.d)),some (.int (qu t:Int)),a',a,b]
 have u:∀ {x y:D} {M':MH}, (aa ah (k+8)).call 32 [.tup [.lst (rs.map Rw.d), .int 0, .int 1], .lst []] M=.ok (.tup [x, y]) M'->ex (aa ah (k+8)) (.nJ [5, 6] (.call 32 (.cons (.tup (.cons (.op .add true (.v 2) (.lst true (.cons (.tup (.cons (.k (.str (w "number"))) (.cons (.k (.int 7)) .nil))) (.cons (.tup (.cons (.k (.str (w "back"))) .nil)) .nil)))) (.cons (.k (.int 0)) (.cons (.k (.int 1)) .nil)))) (.cons (.lst true .nil) .nil)))) (σ1 none none) M=.ok (.nx (σ1 (some x) (some y))) M':=fun {x y M'} h=>by
  have et:ev (aa ah (k+8)) (.tup (.cons (.op .add true (.v 2) (.lst true (.cons (.tup (.cons (.k (.str (w "number"))) (.cons (.k (.int 7)) .nil))) (.cons (.tup (.cons (.k (.str (w "back"))) .nil)) .nil)))) (.cons (.k (.int 0)) (.cons (.k (.int 1)) .nil)))) (σ1 none none) M=.ok (.tup [.lst (rs.map Rw.d), .int 0, .int 1]) M:=by
   rw [bH,aL ec (aL (x:=.int 0) rfl (aL (x:=.int 1) rfl rfl))];rfl
  rw [sV,bh,aL et (aL (x:=.lst []) rfl rfl),R.af,h];rfl
 have cg:∀ {x y:D} {M':MH},ev (aa ah (k+8)) (.cmp .gt (.v 3) (.k (.int 1000))) (σ1 (some x) (some y)) M'=.ok (.bl (decide (9<=t))) M':=fun {x y M'}=>by
  rw [<- grZ_ t ht];exact iZ (b:=1000) rfl rfl
 have pre:∀ {R:R Out} {ss:Ss}, exs (aa ah (k+8)) ss (σ1 none none) M=R->exs (aa ah (k+8)) (.cons (.set 1 (.op .add true (.k (.int 1)) (.op .mod true (.v 0) (.k (.int 12))))) (.cons (.set 2 (.lst true (.cons (.tup (.cons (.k (.str (w "number"))) (.cons (.k (.int 5)) .nil))) (.cons (.tup (.cons (.k (.str (w "keep"))) .nil)) .nil)))) (.cons (.set 3 (.k (.int 1))) (.cons (.for [4] (.eF (.v 1)) gB) ss)))) [some (.int (n:Int)), none, none, none, none, none, none] M=R:=fun h=>(aq e1).trans ((aq rfl).trans ((aq rfl).trans ((DZ hi q).trans h)))
 by_cases h9:9<=t
 ·have rx:=yk (k:=k+7) (.inl rfl) (D3 (k:=k) (M0:=M) (most:=200) (rs:=rs) (o:=1) (b:=0) (N:=60) (kn:=[]) (by decide) (fun v hv=>absurd hv (by simp)) (J7 h9 ht) (by decide))
  have Mf:=cg (x:=.str (rW 1)) (y:=.ai) (M':=M)
  rw [decide_eq_true h9] at Mf
  have c5:ev (aa ah (k+8)) (.cmp .eq (.v 5) (.k (.str (w "great")))) (σ1 (some (.str (rW 1))) (some .ai)) M=.ok (.bl true) M:=bM (c:=rW 1) rfl (by decide +kernel)
  exact aI Lz rfl (pre ((aX (u rx)).trans (bR Mf (aP c5)))) (aU rfl rfl)
 ·obtain ⟨x',y,T0,X,Mt,q1,q2,q3,q4,q5,q6⟩:=nQ (k:=k) (M0:=M) (most:=200) (rs:=rs) (o:=1) (b:=0) (N:=60) (n:=1) (kn:=[]) (p:=[]) (v:=.int 7) (Q:=fun M y X=>y=.int 7/\X=[]) (by decide) (fun v hv=>absurd hv (by simp)) (J8 (by omega)) (by decide) rfl (.int 7) (by decide) (show [true].length<lim by decide) (show 1<=[true].length by decide) (by show (xu t).length<lim;simp only [xu,List.length_append,List.length_replicate];exact Nat.lt_of_le_of_lt (Nat.add_le_add_left ht _) (by decide)) (fun M=>⟨.int 7,[],by rw [List.append_nil];exact aI (P:=ah) (k:=k+4) HU rfl (bR (x:=.int 7) (M1:=M) rfl rfl) rfl,rfl,rfl⟩)
  subst q5 q6
  have rn:=rP (k:=k+7) q1 (by simp [Mx.h]) (by omega)
  let fd:D:=.tup [.int 7,.ref (M.length+4)]
  have Mf:=cg (x:=.str (w "")) (y:=fd) (M':=x'.h M)
  rw [decide_eq_false h9] at Mf
  have c5:ev (aa ah (k+8)) (.cmp .eq (.v 5) (.k (.str (w "")))) (σ1 (some (.str (w ""))) (some fd)) (x'.h M)=.ok (.bl true) (x'.h M):=bM (c:=w "") rfl (by decide +kernel)
  have el:ev (aa ah (k+8)) (.op .add true (.op .add true (.lst true (.cons (.tup (.cons (.k (.str (w "open"))) (.cons (.k (.int 0)) .nil))) .nil)) (.op .mul true (.lst true (.cons (.tup (.cons (.k (.str (w "lay"))) (.cons (.k (.int 0)) .nil))) .nil)) (.v 1))) (.lst true (.cons (.tup (.cons (.k (.str (w "shut"))) (.cons (.k (.int 0)) .nil))) .nil))) (σ1 (some (.str (w ""))) (some fd)) (x'.h M)=.ok (.lst (xu t++bA 1)) (x'.h M):=by
   have m1:ev (aa ah (k+8)) (.op .mul true (.lst true (.cons (.tup (.cons (.k (.str (w "lay"))) (.cons (.k (.int 0)) .nil))) .nil)) (.v 1)) (σ1 (some (.str (w ""))) (some fd)) (x'.h M)=.ok (.lst (List.replicate t (uK 0))) (x'.h M):=by
    have ef:=pZ (uK 0) t
    have ep:ev (aa ah (k+8)) (.lst true (.cons (.tup (.cons (.k (.str (w "lay"))) (.cons (.k (.int 0)) .nil))) .nil)) (σ1 (some (.str (w ""))) (some fd)) (x'.h M)=.ok (.lst [uK 0]) (x'.h M):=rfl
    have l1:[uK 0].length*t<=line:=Nat.le_trans (show 1*t<=12 by omega) (by decide)
    have l2:((t:Int)).natAbs<=1000000:=by omega
    rw [iW,ep,R.af,e_v (d:=.int (t:Int)) rfl,R.af]
    simp only [rq,vw,decide_eq_true l1,decide_eq_true l2,Bool.and_self,if_true,cF,Int.toNat_natCast,ef]
   have:=oV (oV (xs:=opens 1) (e:=.lst true (.cons (.tup (.cons (.k (.str (w "open"))) (.cons (.k (.int 0)) .nil))) .nil)) rfl m1 (by simp [opens];omega)) (ys:=bA 1) (e':=.lst true (.cons (.tup (.cons (.k (.str (w "shut"))) (.cons (.k (.int 0)) .nil))) .nil)) rfl (by simp [opens, bA];omega)
   exact this
  have hlg:av (xu t++bA 1)=true/\deps (xu t++bA 1)<=1:=by
   have h:∀ d∈xu t++bA 1,Fg.plain d=true/\dep d<=1:=fun d hd=>by
    rcases List.mem_append.mp hd with hd | hd
    ·rcases List.mem_append.mp hd with hd | hd
     ·obtain ⟨i,_,rfl⟩:=List.mem_map.mp hd
      simp [Fg.plain,av,dep,deps]
     ·rw [List.eq_of_mem_replicate hd]
      simp [uK,Fg.plain,av,dep,deps]
    ·obtain ⟨i,_,rfl⟩:=List.mem_map.mp hd
     simp [Fg.plain,av,dep,deps]
   exact ⟨gy fun d hd=>(h d hd).1,ko fun d hd=>(h d hd).2⟩
  have gl:(x'.h M)[M.length+4]? = some (.lst (xu t++bA 1)):=by rw [<- q2];exact g4
  have pd:Fg.plain (.tup [.int 7,.lst (xu t++bA 1)])=true:=by simp only [Fg.plain,av,hlg.1,Bool.and_self]
  have c6:ev (aa ah (k+8)) (.cmp .eq (.v 6) (.tup (.cons (.k (.int 7)) (.cons (.op .add true (.op .add true (.lst true (.cons (.tup (.cons (.k (.str (w "open"))) (.cons (.k (.int 0)) .nil))) .nil)) (.op .mul true (.lst true (.cons (.tup (.cons (.k (.str (w "lay"))) (.cons (.k (.int 0)) .nil))) .nil)) (.v 1))) (.lst true (.cons (.tup (.cons (.k (.str (w "shut"))) (.cons (.k (.int 0)) .nil))) .nil))) .nil)))) (σ1 (some (.str (w ""))) (some fd)) (x'.h M)=.ok (.bl true) (x'.h M):=by
   refine nu (a:=fd) (b:=.tup [.int 7,.lst (xu t++bA 1)]) rfl (by rw [bH,aL (x:=.int 7) rfl (aL el rfl)];rfl) ?_
   rw [LX rfl (by simp [bw,top,fd,Fg.plain,av]) rfl]
   refine oM (neg:=false) (d:=.tup [.int 7,.lst (xu t++bA 1)]) ?_ (cI 120 _ pd) pd (by simp only [dep,deps];omega)
   simp only [fd,lS,List.map_cons,List.map_nil,jC gl hlg.1,Af]
  have c7:=gu c5 c6
  exact aI Lz rfl (pre ((aX (u rn)).trans ((aK Mf).trans (aP c7)))) (cM rfl (by simp [Mx.h]))
end
end bI
end
section
namespace bI
open Fg PySem
theorem Sh.up {lo:Nat} {M:MH}:∀ {n:Nat} {y d:D},Sh lo M n y d->Sh lo M (n+1) y d
 | 0,_,_,h=>h.elim
 | n+1,y,d,q=>by
  rcases q with q | ⟨a,b,x,z,h1,h2,h3,h4⟩ | ⟨r,ys,xs,h1,h2,h3,h4,h5⟩
  ·exact .inl q
  ·exact .inr (.inl ⟨a,b,x,z,h1,h2,h3.up,h4.up⟩)
  ·exact .inr (.inr ⟨r,ys,xs,h1,h2,h3,h4,h5.imp fun _ _=>Sh.up⟩)
theorem Sh.lev {lo:Nat} {M:MH} {n m:Nat} {y d:D} (h:Sh lo M n y d) (hm:n<=m):Sh lo M m y d:=by
 induction hm with
 | refl=>exact h
 | step _ ih=>exact ih.up
theorem vE.pl {s:Ls} {R:Lv->D->Prop} {n:Nat} (h:∀ v d,R v d->Fg.plain d=true/\dep d<=n) {v:Lv} {xs:List D} (q:vE s R v xs):av xs=true/\deps xs<=n:=by
 induction q with
 | nil=>simp [av,deps]
 | cons _ _ h3 _ ih =>
  obtain ⟨a1,a2⟩:=h _ _ h3
  simp only [av,deps,a1,ih.1,Bool.and_self,true_and]
  exact Nat.max_le.mpr ⟨a2,ih.2⟩
theorem Td.pl {s:Ls}:∀ {n:Nat} {v:Lv} {d:D},Td s n v d->Fg.plain d=true/\dep d<=n
 | 0,_,_,h=>h.elim
 | n+1,v,d,h=>by
  rcases h with ⟨i,rfl,rfl⟩ | ⟨k,c,x,y,rfl,h2,h3,rfl,h5,h6⟩ | ⟨xs,rfl,h2,h3⟩
  ·simp [Fg.plain,dep]
  ·obtain ⟨a1,a2⟩:=h5.pl
   obtain ⟨b1,b2⟩:=h6.pl
   simp only [Fg.plain,av,dep,deps,a1,b1,Bool.and_self,true_and]
   omega
  ·obtain ⟨a1,a2⟩:=h3.pl (fun _ _=>Td.pl)
   simp only [Fg.plain,dep,a1,true_and]
   omega
noncomputable def xr (ns:List Int):Nat:=6*(if decide (cellAt ns 0 / 3 % 8=3) then 1 else 0)
noncomputable def oN (ns:List Int):Nat:=xr ns+cellAt ns 0 % 3
noncomputable def qN (ns:List Int):Nat:=xr ns+cellAt ns 1 % 3
noncomputable def nums (ns:List Int):List Nat:=(List.range (qN ns)).map fun i=>cellAt ns i % 1000000
noncomputable def sZ (ns:List Int):Ls:=⟨[],[],List.range (oN ns),List.replicate (oN ns) true,opens (oN ns),[],(nums ns).map fun (i:Nat)=>Lv.int (i:Int)⟩
section
variable {ns:List Int}
theorem yS:xr ns<=6:=by unfold xr;split <;> omega
theorem Ef:oN ns<=8:=by have:=yS (ns:=ns);unfold oN;omega
theorem Ec:qN ns<=8:=by have:=yS (ns:=ns);unfold qN;omega
theorem yJ:(nums ns).length<=8:=by unfold nums;rw [List.length_map,List.length_range];exact Ec
theorem J5:MM (sZ ns) []=[.lst [],.lst (nats (List.range (oN ns))),.lst (opens (oN ns)),.lst [],.lst [],.lst (nats (nums ns))]:=by
 simp only [MM,sZ,List.map_nil,List.map_map];rfl
theorem ye:jb 0 (sZ ns)=ms1 (oN ns) (nats (nums ns)) 0:=by
 simp only [jb,sZ,ms1,List.map_nil,List.map_map];rfl
theorem B5 {o:Nat}:∀ d∈opens o,vG d:=fun d hd=>by
 obtain ⟨i,_,rfl⟩:=List.mem_map.mp hd
 simp [vG,Fg.plain,av,dep,deps]
theorem BB {o:Nat}:∀ d∈bA o,vG d:=fun d hd=>by
 obtain ⟨i,_,rfl⟩:=List.mem_map.mp hd
 simp [vG,Fg.plain,av,dep,deps]
theorem FD:Inv (oN ns) (sZ ns) 0 [] (sZ ns):=by
 have h8:=Ef (ns:=ns)
 have h9:=yJ (ns:=ns)
 refine ⟨⟨rfl,fun k c h=>?_,fun v h=>?_,fun v h=>?_,fun n hn=>?_,fun n hn=>?_,List.nodup_range,[],by simp [sZ]⟩,⟨?_,?_,?_,?_,?_,?_,?_⟩,fun qZ=>⟨0,Nat.le_refl _,xm.refl⟩,B5⟩
 ·simp [sZ] at h
 ·simp [sZ] at h
 ·obtain ⟨i,_,rfl⟩:=List.mem_map.mp h;trivial
 ·have hn':n<oN ns:=by simpa [sZ] using hn
  show (List.replicate (oN ns) true)[n]? = some (decide (n∈List.range (oN ns)))
  rw [decide_eq_true (List.mem_range.mpr hn'),List.getElem?_replicate,if_pos hn']
 ·have hn':n<oN ns:=List.mem_range.mp hn
  simpa [sZ] using hn'
 all_goals simp [sZ,opens];try omega
end
section
variable {k:Nat} {Φ:aY} {σ:Sg} {M M1 M2:MH} {e e':E} {ns:List Int}
noncomputable def eMo:E:=.op .mul true (.k (.int 6)) (.ou .int (.cmp .eq (.op .mod true (.op .fdiv true (.call 23 (.cons (.v 0) (.cons (.k (.int 0)) .nil))) (.k (.int 3))) (.k (.int 8))) (.k (.int 3))))
noncomputable def eOu:E:=.op .add true (.v 1) (.op .mod true (.call 23 (.cons (.v 0) (.cons (.k (.int 0)) .nil))) (.k (.int 3)))
noncomputable def eNu:E:=.comp true [0] [1] (.op .mod true (.call 23 (.cons (.v 0) (.cons (.v 1) .nil))) (.op .pow true (.k (.int 10)) (.k (.int 6)))) (.eF (.op .add true (.v 1) (.op .mod true (.call 23 (.cons (.v 0) (.cons (.k (.int 1)) .nil))) (.k (.int 3))))) .none
noncomputable def eSt:E:=.tup (.cons (.lst false .nil) (.cons (.Ct false (.v 2)) (.cons (.comp false [] [0] (.tup (.cons (.k (.str (w "open"))) (.cons (.v 0) .nil))) (.eF (.v 2)) .none) .nil)))
theorem lQ {j:Nat} (h0:σ[0]? = some (some (.lst (ns.map D.int)))) (he:ev (aa ah (k+2)) e σ M=.ok (.int (j:Int)) M):ev (aa ah (k+2)) (.call 23 (.cons (.v 0) (.cons e .nil))) σ M=.ok (.int (cellAt ns j:Int)) M:=by
 rw [bh,lK (e_v h0) he,R.af];exact qR
theorem v_mo (h0:σ[0]? = some (some (.lst (ns.map D.int)))):ev (aa ah (k+2)) eMo σ M=.ok (.int (xr ns:Int)) M :=
 Iq (oS (eU (b:=3) (cH (b:=8) (lP (b:=3) (lQ (j:=0) h0 rfl) rfl (by decide) (by decide)) rfl (by decide)) rfl))
theorem v_ou (h0:σ[0]? = some (some (.lst (ns.map D.int)))) (h1:σ[1]? = some (some (.int (xr ns:Int)))):ev (aa ah (k+2)) eOu σ M=.ok (.int (oN ns:Int)) M :=
 gv (e_v h1) (cH (b:=3) (lQ (j:=0) h0 rfl) rfl (by decide))
theorem v_nu (h0:σ[0]? = some (some (.lst (ns.map D.int)))) (h1:σ[1]? = some (some (.int (xr ns:Int)))):ev (aa ah (k+2)) eNu σ M=.ok (.lst (nats (nums ns))) M:=by
 have hq:=Ec (ns:=ns)
 have hi:bO (aa ah (k+2)) (.eF (.op .add true (.v 1) (.op .mod true (.call 23 (.cons (.v 0) (.cons (.k (.int 1)) .nil))) (.k (.int 3))))) σ M=.ok (.ai,nats (List.range (qN ns)),false) M:=oQ (gv (e_v h1) (cH (b:=3) (lQ (j:=1) h0 rfl) rfl (by decide))) (by show qN ns<=1000000;omega)
 have ec:iz σ [0]++List.replicate [1].length none=[some (.lst (ns.map D.int)),none]:=by simp [iz,h0]
 refine (oU hi (ze (f:=fun j=>.int ((cellAt ns j % 1000000:Nat):Int)) rfl (fun j _=>?_) (by rw [List.length_range];omega))).trans ?_
 ·rw [ec]
  have e3:ev (aa ah (k+2)) (.op .pow true (.k (.int 10)) (.k (.int 6))) [some (.lst (ns.map D.int)),some (.int (j:Int))] M=.ok (.int ((1000000:Nat):Int)) M:=rfl
  exact cH (lQ (j:=j) rfl rfl) e3 (by decide)
 ·rw [nums,nats,List.map_map];rfl
theorem v_st {o:Nat} (h2:σ[2]? = some (some (.int (o:Int)))) (ho:o<=8):ev Φ eSt σ []=.ok jE [.lst [],.lst (nats (List.range o)),.lst (opens o)]:=by
 have e1:ev Φ (.lst false .nil) σ []=.ok (.ref 0) [.lst []]:=rfl
 have e2:ev Φ (.Ct false (.v 2)) σ [.lst []]=.ok (.ref 1) [.lst [],.lst (nats (List.range o))]:=by
  have hk:mZ (o:Int)=true:=by simp [mZ];omega
  rw [Ij,e_v h2,R.af]
  simp only [hk,if_true,mV,cF];rfl
 have hi:bO Φ (.eF (.v 2)) σ [.lst [],.lst (nats (List.range o))]=.ok (.ai,nats (List.range o),false) [.lst [],.lst (nats (List.range o))]:=oQ (e_v h2) (by omega)
 have e3:ev Φ (.comp false [] [0] (.tup (.cons (.k (.str (w "open"))) (.cons (.v 0) .nil))) (.eF (.v 2)) .none) σ [.lst [], .lst (nats (List.range o))]=.ok (.ref 2) [.lst [], .lst (nats (List.range o)), .lst (opens o)]:=by
  refine (Iu hi (ze (f:=fun (j:Nat)=>.tup [.str (w "open"), .int (j:Int)]) rfl (fun j _=>rfl) (by rw [List.length_range];omega))).trans ?_
  rfl
 rw [eSt,bH,aQ,e1,R.af,aQ,e2,R.af,aQ,e3];rfl
theorem v_cs (h0:σ[0]? = some (some (.lst (ns.map D.int)))):ev Φ (.sl true (.v 0) (.some (.k (.int 3))) (.some (.k (.int 43)))) σ M=.ok (.lst ((eV ns (some 3) (some 43)).map D.int)) M:=by
 rw [ED,e_v h0,R.af,zU,wN,R.af]
 show R.ok (D.lst (eV (ns.map D.int) (some 3) (some 43))) M=_
 congr 2
 simp only [eV,List.length_map,List.map_take,List.map_drop]
theorem IA:(eV ns (some 3) (some 43)).length<=40:=by
 simp only [eV,List.length_take,List.length_drop,six]
 have h1:¬ (3:Int)<0:=by decide
 have h2:¬ (43:Int)<0:=by decide
 rw [if_neg h1,if_neg h2]
 show min (min 43 ns.length-min 3 ns.length) _<=40
 omega
noncomputable def MP:E:=.and (.cmp .gt (.blt .len true (.cons (.v 10) .nil)) (.v 2)) (.not (.v 8))
noncomputable def J2:Ss:=.cons (.ex (.aG .append true (.v 5) (.cons (.tup (.cons (.k (.str (w "shut"))) .nil)) .nil))) (.cons (.ex (.aG .append true (.v 11) (.cons (.tup (.cons (.k (.str (w "shut"))) (.cons (.aG .pop true (.v 10) .nil) .nil))) .nil))) .nil)
noncomputable def Nb:E:=.and (.cmp .gt (.blt .len true (.cons (.v 6) .nil)) (.k (.int 1))) (.not (.v 8))
noncomputable def Ld:Ss:=.cons (.ex (.aG .append true (.v 5) (.cons (.tup (.cons (.k (.str (w "keep"))) .nil)) .nil))) (.cons (.ex (.aG .pop true (.v 6) .nil)) .nil)
structure Sl (o:Nat) (g:Bool) (σ:Sg):Prop where
 h2:σ[2]? = some (some (.int (o:Int)))
 h5:σ[5]? = some (some (.ref 3))
 h6:σ[6]? = some (some (.ref 4))
 h8:σ[8]? = some (some (.bl g))
 wJ:σ[10]? = some (some (.ref 1))
 h11:σ[11]? = some (some (.ref 2))
variable {o:Nat} {s0:Ls} {g:Bool}
theorem Fw {s:Ls} {r:List Rw} (H:Sl o g σ):ev Φ MP σ (MM s r)=.ok (.bl (decide (o<s.pl.length)&&!g)) (MM s r):=gu (iZ (M8 (e_v H.wJ)) (e_v H.h2)) (lO (e_v H.h8))
theorem G3 {s:Ls} {r:List Rw} (H:Sl o g σ):ev Φ Nb σ (MM s r)=.ok (.bl (decide (1<s.vs.length)&&!g)) (MM s r):=gu (iZ (b:=1) (Lc (e_v H.h6)) rfl) (lO (e_v H.h8))
theorem um (H:Sl o false σ):∀ (j t:Nat) (r:List Rw) (s:Ls) (N:Nat),s.pl.length=o+j->j<N->t+j<500->Inv o s0 t r s ->
  ∃ r' s',Inv o s0 (t+j) r' s'/\s'.pl.length=o/\s'.cs=s.cs/\aA (ev Φ MP) (exs Φ J2) N σ (MM s r)=.ok (.nx σ) (MM s' r')
 | 0,t,r,s,N,h,hN,ht,I=>by
  obtain ⟨N,rfl⟩:∃ m,N=m+1:=⟨N-1,by omega⟩
  refine ⟨r,s,I,h,rfl,?_⟩
  have c:=Fw (Φ:=Φ) (s:=s) (r:=r) H
  rw [decide_eq_false (by omega)] at c
  rw [aA,c];rfl
 | j+1,t,r,s,N,h,hN,ht,I=>by
  obtain ⟨N,rfl⟩:∃ m,N=m+1:=⟨N-1,by omega⟩
  obtain ⟨z1,z2,z3,z4,z5,z6,z7⟩:=I.z
  obtain ⟨p,m,hp⟩:=snoc (xs:=s.pl) (by omega)
  have hl:p.length=o+j:=by rw [hp] at h;simp at h;omega
  have S:l8 o s .nO _:=.nO hp (by omega)
  obtain ⟨r',s',I',h1,h2,q⟩:=um H j (t+1) _ _ N hl (by omega) (by omega) (I.stp S (by omega))
  refine ⟨r',s',I'.more (by omega),h1,h2,?_⟩
  have c:=Fw (Φ:=Φ) (s:=s) (r:=r) H
  rw [decide_eq_true (by omega)] at c
  have a1:=xg (Φ:=Φ) (s:=s) (r:=r) (σ:=σ) (i:=5) (a:=.nO) (e:=.tup (.cons (.k (.str (w "shut"))) .nil)) H.h5 rfl (by omega)
  have q1:=poP (Φ:=Φ) (s:=s) (r:=r++[.nO]) (σ:=σ) (i:=10) H.wJ hp
  have a3:=Mp (Φ:=Φ) (s:=s) (s':={ s with pl:=p }) (r:=r++[.nO]) (σ:=σ) (i:=11) (x:=MQ m) (e:=.tup (.cons (.k (.str (w "shut"))) (.cons (.aG .pop true (.v 10) .nil) .nil))) H.h11 (by rw [bH, lK (x:=.str (w "shut")) rfl q1];rfl) rfl (by omega)
  rw [aA,c]
  show (exs Φ J2 σ (MM s r)).bind _=_
  rw [J2,aJ a1,aJ a3]
  exact q
theorem uP (H:Sl o false σ) {h0:List Lv}:∀ (j t:Nat) (r:List Rw) (s:Ls) (N:Nat),s.vs.length=j+1->j<N->t+j<500->Inv o s0 t r s ->
  ∃ r' s' v,Inv o s0 (t+j) r' s'/\s'.vs=[v]/\s'.cs=s.cs/\aA (ev Φ Nb) (exs Φ Ld) N σ (MM { s with hs:=h0 } r)=.ok (.nx σ) (MM { s' with hs:=h0 } r')
 | 0,t,r,s,N,h,hN,ht,I=>by
  obtain ⟨N,rfl⟩:∃ m,N=m+1:=⟨N-1,by omega⟩
  obtain ⟨v,hv⟩:=List.length_eq_one_iff.mp h
  refine ⟨r,s,v,I,hv,rfl,?_⟩
  have c:=G3 (Φ:=Φ) (s:={ s with hs:=h0 }) (r:=r) H
  rw [decide_eq_false (by show ¬ 1<s.vs.length;omega)] at c
  rw [aA,c];rfl
 | j+1,t,r,s,N,h,hN,ht,I=>by
  obtain ⟨N,rfl⟩:∃ m,N=m+1:=⟨N-1,by omega⟩
  obtain ⟨z1,z2,z3,z4,z5,z6,z7⟩:=I.z
  obtain ⟨p,x,hp⟩:=snoc (xs:=s.vs) (by omega)
  have hl:p.length=j+1:=by rw [hp] at h;simp at h;omega
  have S:l8 o s .keep _:=.keep hp
  obtain ⟨r',s',v,I',h1,h2,q⟩:=uP H (h0:=h0) j (t+1) _ _ N hl (by omega) (by omega) (I.stp S (by omega))
  refine ⟨r',s',v,I'.more (by omega),h1,h2,?_⟩
  have c:=G3 (Φ:=Φ) (s:={ s with hs:=h0 }) (r:=r) H
  rw [decide_eq_true (by show 1<s.vs.length;omega)] at c
  have a1:=xg (Φ:=Φ) (s:={ s with hs:=h0 }) (r:=r) (σ:=σ) (i:=5) (a:=.keep) (e:=.tup (.cons (.k (.str (w "keep"))) .nil)) H.h5 rfl (by omega)
  have q1:=Kr (Φ:=Φ) (s:={ s with hs:=h0 }) (r:=r++[.keep]) (σ:=σ) (i:=6) H.h6 hp
  rw [aA,c]
  show (exs Φ Ld σ (MM { s with hs:=h0 } r)).bind _=_
  rw [Ld,aJ a1,aJ q1]
  exact q
noncomputable def M5:S:=.ifs (.cmp .eq (.blt .len true (.cons (.v 6) .nil)) (.k (.int 0))) (.cons (.ex (.aG .append true (.v 5) (.cons (.tup (.cons (.k (.str (w "nil"))) .nil)) .nil))) (.cons (.ex (.aG .append true (.v 6) (.cons (.k .ai) .nil))) .nil)) .nil
theorem uI {s:Ls} {r:List Rw} (H:Sl o g σ) (hv:s.vs≠[]):ex Φ M5 σ (MM s r)=.ok (.nx σ) (MM s r):=by
 have c:ev Φ (.cmp .eq (.blt .len true (.cons (.v 6) .nil)) (.k (.int 0))) σ (MM s r)=.ok (.bl (decide (s.vs.length=0))) (MM s r):=eU (b:=0) (Lc (e_v H.h6)) rfl
 rw [decide_eq_false (by intro z;exact hv (List.length_eq_zero_iff.mp z))] at c
 rw [M5,iw,c,R.d8];rfl
theorem KY {t:Nat} {s:Ls} {r:List Rw} (H:Sl o false σ) (I:Inv o s0 t r s) (ht:t<500):∃ r' s',Inv o s0 (t+1) r' s'/\s'.vs≠[]/\s'.cs=s.cs/\s'.pl=s.pl/\ex Φ M5 σ (MM s r)=.ok (.nx σ) (MM s' r'):=by
 by_cases hv:s.vs=[]
 ·obtain ⟨z1,z2,z3,z4,z5,z6,z7⟩:=I.z
  have c:ev Φ (.cmp .eq (.blt .len true (.cons (.v 6) .nil)) (.k (.int 0))) σ (MM s r)=.ok (.bl (decide (s.vs.length=0))) (MM s r):=eU (b:=0) (Lc (e_v H.h6)) rfl
  rw [decide_eq_true (by rw [hv];rfl)] at c
  have a1:=xg (Φ:=Φ) (s:=s) (r:=r) (σ:=σ) (i:=5) (a:=.nil) (e:=.tup (.cons (.k (.str (w "nil"))) .nil)) H.h5 rfl (by omega)
  have a2:=Mn (Φ:=Φ) (s:=s) (r:=r++[.nil]) (σ:=σ) (i:=6) (x:=.ai) (e:=.k .ai) H.h6 rfl (by omega)
  refine ⟨r++[.nil],{ s with vs:=s.vs++[.ai] },I.stp .nil (by omega),by simp,rfl,rfl,?_⟩
  rw [M5,iw,c,R.d8]
  exact (aJ a1).trans ((aJ a2).trans rfl)
 ·exact ⟨r,s,I.more (by omega),hv,rfl,rfl,uI H hv⟩
end
end bI
end
section
namespace bI
open Fg PySem
section
variable {k o:Nat} {M:MH} {kn:List D} {s0 s:Ls} {r:List Rw} {t:Nat}
noncomputable def code (r:List Rw) (o:Nat):D:=.tup [.lst (r.map Rw.d),.int 0,.int (o:Int)]
theorem Ml {v:Lv} (hs:Jc s 1):xm (r++[.back]) (jb r.length s) ⟨s.vs.map (mv s.ms),[],s.ay,s.log,0,.ai⟩ 1:=by
 have hr:(r++[Rw.back])[r.length]? = some .back:=by rw [List.getElem?_append_right (Nat.le_refl _),Nat.sub_self];rfl
 exact mw hs hr rfl
theorem LL {v:Lv} (I:Inv o s0 t r s) (ht:t<500) (hz:jb 0 s0=ms1 o kn 0) (hv:s.vs=[v]):∃ N,N<=1000/\go (r++[.back]) 200 N (ms1 o kn 0)=.ok ⟨[mv s.ms v],[],s.ay,s.log,0,.ai⟩:=by
 obtain ⟨n,hn,R⟩:=I.run [.back]
 have B:=Ml (r:=r) (v:=v) (I.sm (by omega))
 rw [hv] at B
 refine ⟨n+1+1,by omega,?_⟩
 rw [<- hz]
 exact (R.trans B) 1
theorem zj {v:Lv} {n:Nat} (ho:o<=8) (hk:∀ d∈kn, Vl d) (I:Inv o s0 t r s) (ht:t<500) (hz:jb 0 s0=ms1 o kn 0) (hv:s.vs=[v]) (h:Wl s v n false) (hn:n<=1000):(aa ah (k+8)).call 32 [code (r++[.back]) o, .lst kn] M=.ok (.tup [.str (w "gone"), .ai]) M:=by
 obtain ⟨N,hN,q⟩:=LL I ht hz hv
 obtain ⟨z1,z2,z3,z4,z5,z6,z7⟩:=I.z
 exact yk (k:=k+7) (c:=5) (.inr rfl) (FG (M0:=M) (k:=k) (most:=200) (p:=[]) (by omega) hk q (by omega) rfl (h.wa I.g) (by omega) (Nat.lt_of_le_of_lt (show s.ay.length<=600 by omega) (by decide)))
theorem wB (ho:o<=8) (hk:∀ d∈kn, Vl d) (G:Gr s0 t r) (ht:t<500) (hz:jb 0 s0=ms1 o kn 0):(aa ah (k+8)).call 32 [code r o, .lst kn] M=.ok (.tup [.str (w "great"), .ai]) M:=by
 obtain ⟨n,hn,R⟩:=G []
 have q:=R 0
 rw [List.append_nil,hz] at q
 exact yk (k:=k+7) (c:=1) (.inl rfl) (D3 (M0:=M) (k:=k) (most:=200) (by omega) hk q (by omega))
theorem sy {v:Lv} {n m:Nat} {d:D} (ho:o<=8) (Jm:o<=s.ay.length) (hk:∀ d∈kn, Vl d) (I:Inv o s0 t r s) (ht:t<500) (hz:jb 0 s0=ms1 o kn 0) (hv:s.vs=[v]) (h:Wl s v n true) (hn:n<=1000) (hd:Td s m v d) (hm:m<=k+5):∃ (x':Mx) (y:D), (aa ah (k+8)).call 32 [code (r++[.back]) o, .lst kn] M=.ok (.tup [.str (w ""), .tup [y, .ref (M.length+4)]]) (x'.h M)/\x'.log=s.log++bA o/\Sh (M.length+5) (x'.h M) m y d:=by
 obtain ⟨N,hN,q⟩:=LL I ht hz hv
 obtain ⟨z1,z2,z3,z4,z5,z6,z7⟩:=I.z
 obtain ⟨x',y,q1,q2,q3⟩:=FF (M0:=M) (k:=k) (most:=200) (p:=[]) (by omega) hk q (by omega) rfl (h.wa I.g) (by omega) (Nat.lt_of_le_of_lt (show s.ay.length<=600 by omega) (by decide)) Jm (Nat.lt_of_le_of_lt (show s.log.length<=600 by omega) (by decide)) (hd.tl I.g) hm
 exact ⟨x',y,rP (k:=k+7) q1 (by simp [Mx.h]) (by omega),q2,q3⟩
end
section
variable {k:Nat} {Φ:aY} {σ:Sg} {M M1 M2:MH} {e e':E} {ns:List Int}
noncomputable def sL (ns:List Int) (g:Bool) (l a b c:Option D):Sg:=[some (.lst (ns.map D.int)),some (.int (xr ns:Int)),some (.int (oN ns:Int)),some (.lst (nats (nums ns))),some jE,some (.ref 3),some (.ref 4),some (.ref 5),some (.bl g),some (.ref 0),some (.ref 1),l,a,b,c]
theorem uv {g:Bool} {a b c:Option D}:Sl (oN ns) g (sL ns g (some (.ref 2)) a b c):=⟨rfl,rfl,rfl,rfl,rfl,rfl⟩
theorem Cj {xs:List Nat}:∀ d∈nats xs,Vl d:=fun d hd=>by obtain ⟨i,_,rfl⟩:=List.mem_map.mp hd;exact .int _
theorem Dd {ds:List D} {n:Nat} (he:ev Φ e σ M=.ok (.ref n) M) (hv:M[n]? = some (.lst ds)):ev Φ (.blt .list true (.cons e .nil)) σ M=.ok (.lst ds) M:=by
 rw [sX,LP he,R.af]
 simp only [tK,vw,hv];rfl
theorem Ci {ds:List D} {n:Nat} (h0:M[n]? = some (.lst ds)) (hp:av ds=true) (hd:deps ds<=2) {i j:Int}:bu .ne M (.tup [.lst ds,.int i,.int j]) (.tup [.ref n,.int i,.int j])=.ok (.bl false) M:=by
 have hP:Fg.plain (.tup [.lst ds,.int i,.int j])=true:=by simp only [Fg.plain,av,hp,Bool.and_self]
 rw [KZ rfl (by simp [bw,top,Fg.plain,av]) rfl]
 refine oM (d:=.tup [.lst ds,.int i,.int j]) (cI 120 _ hP) ?_ hP ?_
 ·simp only [lS,List.map_cons,List.map_nil,jC h0 hp,Af]
 ·simp only [dep,deps];omega
theorem z8 {y d:D} {ds:List D} {lo m p q:Nat} (hy:Sh lo M m y d) (hm:m<=100) (hdp:Fg.plain d=true) (hdd:dep d<=90) (h0:M[p]? = some (.lst ds)) (h1:M[q]? = some (.lst ds)) (hp:av ds=true) (hd:deps ds<=1):bu .eq M (.tup [y,.ref p]) (.tup [d,.ref q])=.ok (.bl true) M:=by
 have hP:Fg.plain (.tup [d,.lst ds])=true:=by simp only [Fg.plain,av,hp,hdp,Bool.and_self]
 have e1:deep 119 M y=d:=(hy.lev (by omega)).deep
 rw [LX rfl (by simp [bw,top,Fg.plain,av]) rfl]
 refine oM (neg:=false) (d:=.tup [d,.lst ds]) ?_ ?_ hP ?_
 ·simp only [lS,List.map_cons,List.map_nil,jC h0 hp,e1]
 ·simp only [lS,List.map_cons,List.map_nil,jC h1 hp,cI 119 d hdp]
 ·simp only [dep,deps];omega
theorem vW:∀ n:Nat,(List.range n).map (fun i=>n-1-i)=(List.range n).reverse:=fun n=>by
 apply List.ext_getElem
 ·simp
 ·intro i h1 h2
  simp
noncomputable def eSh:E:=.op .add false (.v 11) (.comp true [2] [1] (.tup (.cons (.k (.str (w "shut"))) (.cons (.op .sub true (.op .sub true (.v 0) (.k (.int 1))) (.v 1)) .nil))) (.eF (.v 2)) .none)
theorem v_sh {o:Nat} {lg:List D} (h2:σ[2]? = some (some (.int (o:Int)))) (h11:σ[11]? = some (some (.ref 2))) (hM:M[2]? = some (.lst lg)) (ho:o<=8) (hl:lg.length<=1000):ev Φ eSh σ M=.ok (.ref M.length) (M++[.lst (lg++bA o)]):=by
 have hi:bO Φ (.eF (.v 2)) σ M=.ok (.ai,nats (List.range o),false) M:=oQ (e_v h2) (by omega)
 have ec:iz σ [2]++List.replicate [1].length none=[some (.int (o:Int)),none]:=by simp [iz,h2]
 have e2:ev Φ (.comp true [2] [1] (.tup (.cons (.k (.str (w "shut"))) (.cons (.op .sub true (.op .sub true (.v 0) (.k (.int 1))) (.v 1)) .nil))) (.eF (.v 2)) .none) σ M=.ok (.lst (bA o)) M:=by
  refine (oU hi (ze (f:=fun (j:Nat)=>.tup [.str (w "shut"), .int ((o-1-j:Nat):Int)]) rfl (fun j hj=>?_) (by rw [List.length_range];omega))).trans ?_
  ·rw [ec]
   have hj':=List.mem_range.mp hj
   have e3:ev Φ (.op .sub true (.op .sub true (.v 0) (.k (.int 1))) (.v 1)) [some (.int (o:Int)),some (.int (j:Int))] M=.ok (.int ((o:Int)-1-(j:Int))) M:=EK (EK rfl rfl) rfl
   have e4:((o:Int)-1-(j:Int))=((o-1-j:Nat):Int):=by omega
   rw [e4] at e3
   show ev Φ (.tup (.cons (.k (.str (w "shut"))) (.cons (.op .sub true (.op .sub true (.v 0) (.k (.int 1))) (.v 1)) .nil))) [some (.int (o:Int)), some (.int (j:Int))] M=_
   rw [bH, lK (x:=.str (w "shut")) (M1:=M) rfl e3];rfl
  ·rw [bA,<- vW o,List.map_map];rfl
 have hq:lg.length+(bA o).length<=line:=Nat.le_trans (show _<=2000 by simp [bA];omega) (by decide)
 rw [eSh,iW,e_v h11,R.af,e2,R.af]
 simp only [rq,vw,hM,decide_eq_true hq,if_true,cF];rfl
theorem zh {k:Nat} (ns:List Int) (hns:ns.length<=63):∃ M',(aa ah (k+45)).call 36 [.lst (ns.map .int)] []=.ok (.bl true) M':=by
 have hO:=Ef (ns:=ns)
 have hC:=IA (ns:=ns)
 let n0:List (Option D):=[none,none,none,none,none,none,none,none,none,none,none]
 have s1:=v_mo (k:=k+42) (ns:=ns) (M:=[]) (σ:=[some (.lst (ns.map D.int)),none,none,none,none,none,none,none,none,none,none,none,none,none,none]) rfl
 have s2:=v_ou (k:=k+42) (ns:=ns) (M:=[]) (σ:=[some (.lst (ns.map D.int)),some (.int (xr ns:Int)),none,none,none,none,none,none,none,none,none,none,none,none,none]) rfl rfl
 have s3:=v_nu (k:=k+42) (ns:=ns) (M:=[]) (σ:=[some (.lst (ns.map D.int)),some (.int (xr ns:Int)),some (.int (oN ns:Int)),none,none,none,none,none,none,none,none,none,none,none,none]) rfl rfl
 have s4:=v_st (Φ:=aa ah (k+44)) (o:=oN ns) (σ:=[some (.lst (ns.map D.int)),some (.int (xr ns:Int)),some (.int (oN ns:Int)),some (.lst (nats (nums ns))),none,none,none,none,none,none,none,none,none,none,none]) rfl hO
 let σ8:Sg:=[some (.lst (ns.map D.int)),some (.int (xr ns:Int)),some (.int (oN ns:Int)),some (.lst (nats (nums ns))),some jE,some (.ref 3),some (.ref 4),some (.ref 5),none,none,none,none,none,none,none]
 have e8:∀ {M:MH} {z:R D},(aa ah (k+44)).call 33 [.ref 3,.ref 4,.ref 5,jE,.int (oN ns:Int),.lst ((eV ns (some 3) (some 43)).map D.int)] M=z->ev (aa ah (k+44)) (.call 33 (.cons (.v 5) (.cons (.v 6) (.cons (.v 7) (.cons (.v 4) (.cons (.v 2) (.cons (.sl true (.v 0) (.some (.k (.int 3))) (.some (.k (.int 43)))) .nil))))))) σ8 M=z:=fun {M z} h=>by
  rw [bh,aL (x:=.ref 3) rfl (aL (x:=.ref 4) rfl (aL (x:=.ref 5) rfl (aL (x:=jE) rfl (aL (x:=.int (oN ns:Int)) rfl (aL (v_cs (ns:=ns) rfl) rfl))))),R.af];exact h
 have pre:∀ {ss:Ss} {g:Bool} {M':MH} {R:R Out},(aa ah (k+44)).call 33 [.ref 3,.ref 4,.ref 5,jE,.int (oN ns:Int),.lst ((eV ns (some 3) (some 43)).map D.int)] (MM (sZ ns) [])=.ok (.bl g) M'->exs (aa ah (k+44)) ss (sL ns g (some (.ref 2)) none none none) M'=R ->
   exs (aa ah (k+44)) (.cons (.set 1 eMo) (.cons (.set 2 eOu) (.cons (.set 3 eNu) (.cons (.set 4 eSt) (.cons (.set 5 (.lst false .nil)) (.cons (.set 6 (.lst false .nil)) (.cons (.set 7 (.blt .list false (.cons (.v 3) .nil))) (.cons (.set 8 (.call 33 (.cons (.v 5) (.cons (.v 6) (.cons (.v 7) (.cons (.v 4) (.cons (.v 2) (.cons (.sl true (.v 0) (.some (.k (.int 3))) (.some (.k (.int 43)))) .nil)))))))) (.cons (.nJ [9,10,11] (.v 4)) ss))))))))) [some (.lst (ns.map D.int)),none,none,none,none,none,none,none,none,none,none,none,none,none,none] []=R:=fun {ss g M' R} h h'=>by
  have q8:=e8 h
  rw [J5] at q8
  exact (aq s1).trans ((aq s2).trans ((aq s3).trans ((aq s4).trans ((aq rfl).trans ((aq rfl).trans ((aq rfl).trans ((aq q8).trans ((aX (σ':=sL ns g (some (.ref 2)) none none none) rfl).trans h'))))))))
 have kn:=Cj (xs:=nums ns)
 have c2:=fun {M:MH}=>qR (k:=k+42) (M:=M) (ns:=ns) (i:=2)
 have tg:∀ {M:MH} {g:Bool} {l a b c:Option D},ev (aa ah (k+44)) (.or (.not (.call 34 (.cons (.call 23 (.cons (.v 0) (.cons (.k (.int 2)) .nil))) .nil))) (.not (.call 35 (.cons (.call 23 (.cons (.v 0) (.cons (.k (.int 2)) .nil))) .nil)))) (sL ns g l a b c) M=.ok (.bl false) M:=fun {M g l a b c}=>by
  have c0:ev (aa ah (k+44)) (.call 23 (.cons (.v 0) (.cons (.k (.int 2)) .nil))) (sL ns g l a b c) M=.ok (.int (cellAt ns 2:Int)) M:=lQ (k:=k+42) (j:=2) rfl rfl
  exact Aa (x:=false) (y:=false) (lO (x:=true) ((bP c0).trans (Dk (k:=k+35)))) fun _=>lO (x:=true) ((bP c0).trans (Dq (k:=k+35)))
 have cd:∀ {M:MH} {g:Bool} {l b c:Option D} {r:List Rw},M[3]? = some (.lst (r.map Rw.d))->ev (aa ah (k+44)) (.cmp .ne (.v 12) (.tup (.cons (.v 5) (.cons (.k (.int 0)) (.cons (.v 2) .nil))))) (sL ns g l (some (code r (oN ns))) b c) M=.ok (.bl false) M:=fun {M g l b c r} h =>
  nu (a:=code r (oN ns)) (b:=.tup [.ref 3,.int 0,.int (oN ns:Int)]) rfl rfl (Ci h mT.1 mT.2)
 have mk:∀ {s:Ls} {r:List Rw} {g:Bool},ev (aa ah (k+44)) (.tup (.cons (.blt .list true (.cons (.v 5) .nil)) (.cons (.k (.int 0)) (.cons (.v 2) .nil)))) (sL ns g (some (.ref 2)) none none none) (MM s r)=.ok (code r (oN ns)) (MM s r):=fun {s r g}=>by
  rw [bH,aL (Dd (ds:=r.map Rw.d) (n:=3) rfl rfl) (aL (x:=.int 0) rfl (aL (x:=.int (oN ns:Int)) rfl rfl))];rfl
 have ur:∀ {M M':MH} {r:List Rw} {g:Bool} {x y:D},(aa ah (k+44)).call 32 [code r (oN ns),.lst (nats (nums ns))] M=.ok (.tup [x,y]) M'->ex (aa ah (k+44)) (.nJ [13,14] (.call 32 (.cons (.v 12) (.cons (.blt .list true (.cons (.v 3) .nil)) .nil)))) (sL ns g (some (.ref 2)) (some (code r (oN ns))) none none) M=.ok (.nx (sL ns g (some (.ref 2)) (some (code r (oN ns))) (some x) (some y))) M':=fun {M M' r g x y} h=>by
  rw [sV,bh,aL (x:=code r (oN ns)) rfl (aL (x:=.lst (nats (nums ns))) rfl rfl),R.af,h];rfl
 rcases IK (k:=k+40) (cs:=eV ns (some 3) (some 43)) (FD (ns:=ns)) (by simp [sZ]) (by omega) with ⟨r1,t1,I1,q1⟩ | ⟨r1,t1,G1,l1,v1,q1⟩
 ·-- not too great
  obtain ⟨z1,z2,z3,z4,z5,z6,z7⟩:=I1.z
  obtain ⟨ext,hp⟩:=I1.g.pre
  have hpl:t1.pl.length=oN ns+ext.length:=by rw [hp];simp
  obtain ⟨r2,t2,I2,p2,k2,q2⟩:=um (Φ:=aa ah (k+44)) (uv (ns:=ns) (g:=false) (a:=none) (b:=none) (c:=none)) ext.length _ r1 t1 100000 hpl (by omega) (by omega) I1
  have w2:ex (aa ah (k+44)) (.while MP J2) (sL ns false (some (.ref 2)) none none none) (MM t1 r1)=.ok (.nx (sL ns false (some (.ref 2)) none none none)) (MM t2 r2):=by
   rw [bC,aO];exact q2
  obtain ⟨r3,t3,I3,v3,k3,p3,q3⟩:=KY (Φ:=aa ah (k+44)) (uv (ns:=ns) (g:=false) (a:=none) (b:=none) (c:=none)) I2 (by omega)
  obtain ⟨y1,y2,y3,y4,y5,y6,y7⟩:=I3.z
  have hv3:t3.vs.length=t3.vs.length-1+1:=by
   have:t3.vs.length≠0:=fun z=>v3 (List.length_eq_zero_iff.mp z)
   omega
  obtain ⟨r4,t4,v,I4,v4,k4,q4⟩:=uP (Φ:=aa ah (k+44)) (uv (ns:=ns) (g:=false) (a:=none) (b:=none) (c:=none)) (h0:=t3.hs) (t3.vs.length-1) _ r3 t3 100000 hv3 (by omega) (by omega) I3
  have w4:ex (aa ah (k+44)) (.while Nb Ld) (sL ns false (some (.ref 2)) none none none) (MM t3 r3)=.ok (.nx (sL ns false (some (.ref 2)) none none none)) (MM { t4 with hs:=t3.hs } r4):=by
   rw [bC,aO];exact q4
  obtain ⟨x1,x2,x3,x4,x5,x6,x7⟩:=I4.z
  have a5:=xg (Φ:=aa ah (k+44)) (s:={ t4 with hs:=t3.hs }) (r:=r4) (σ:=sL ns false (some (.ref 2)) none none none) (i:=5) (a:=.back) (e:=.tup (.cons (.k (.str (w "back"))) .nil)) rfl rfl (by omega)
  have hcs:t4.cs.length<=40:=by rw [k4,k3,k2];omega
  have GL:dm t4.cs.length v:=I4.g.vs v (by rw [v4];simp)
  obtain ⟨q,hw⟩:=Wl.ex I4.g t4.cs.length v GL (Nat.le_refl _)
  have hsz:=E8 I4.g GL
  have ix:∀ {M:MH} {l a b c:Option D},M[4]? = some (.lst [v.d])->ev (aa ah (k+44)) (.idx (.v 6) (.neg (.k (.int 1)))) (sL ns false l a b c) M=.ok v.d M:=fun {M l a b c} h=>fS (n:=4) (xs:=[v.d]) rfl rfl h rfl
  have ao:∀ {M:MH} {l a b c:Option D},M[0]? = some (.lst (t4.cs.map Cl.d))->M[1]? = some (.lst (nats t4.pl))->M[4]? = some (.lst [v.d])->ev (aa ah (k+44)) (.not (.call 26 (.cons (.v 9) (.cons (.v 10) (.cons (.idx (.v 6) (.neg (.k (.int 1)))) .nil))))) (sL ns false l a b c) M=.ok (.bl (!q)) M:=fun {M l a b c} h0 h1 h4=>by
   refine lO ?_
   rw [bh,aL (x:=.ref 0) rfl (aL (x:=.ref 1) rfl (aL (ix h4) rfl)),R.af]
   exact IM (k:=k+43) h0 h1 hw (by omega)
  have Nl:∀ {r:List Rw},(MM { t4 with hs:=t3.hs } r)[4]? = some (.lst [v.d]):=fun {r}=>by
   show some (MO.lst (t4.vs.map Lv.d))=_
   rw [v4];rfl
  let M0:MH:=MM { t4 with hs:=t3.hs } (r4++[.back])
  have hu:(eV ns (some 3) (some 43)).length+ext.length+1+(t3.vs.length-1)<500:=by omega
  cases q with
  | false =>
   have rn:=zj (k:=k+36) (M:=M0) hO kn I4 hu ye v4 hw hsz
   have cg:ev (aa ah (k+44)) (.cmp .eq (.v 13) (.k (.str (w "gone")))) (sL ns false (some (.ref 2)) (some (code (r4++[.back]) (oN ns))) (some (.str (w "gone"))) (some .ai)) M0=.ok (.bl true) M0:=bM (c:=w "gone") rfl (by decide +kernel)
   exact ⟨[],aI (P:=ah) (k:=k+44) HV rfl (pre q1 ((aX w2).trans ((aX q3).trans ((aX w4).trans ((aJ a5).trans ((aq mk).trans ((aX (ur rn)).trans ((aK (cd rfl)).trans ((aK tg).trans ((aK rfl).trans (bR (ao rfl rfl Nl) (aP cg)))))))))))) (cM rfl rfl)⟩
  | true =>
   obtain ⟨d,hd⟩:=Td.ex I4.g (by omega) t4.cs.length v GL (Nat.le_refl _)
   obtain ⟨ext4,hp4⟩:=I4.g.pre
   have Jm:oN ns<=t4.ay.length:=by
    rcases Nat.eq_zero_or_pos (oN ns) with z | z
    ·omega
    ·have:=I4.g.pl (oN ns-1) (by rw [hp4];exact List.mem_append_left _ (List.mem_range.mpr (by omega)))
     omega
   obtain ⟨x',y,rn,CM,hsh⟩:=sy (k:=k+36) (M:=M0) hO Jm kn I4 hu ye v4 hw hsz hd (by omega)
   have lf:∀ {n:Nat} {z:MO},M0[n]? = some z->(x'.h M0)[n]? = some z:=fun {n z} h=>by
    show (M0++_)[n]? = _
    rw [List.getElem?_append_left (List.getElem?_eq_some_iff.mp h).1];exact h
   have f0:(x'.h M0)[0]? = some (.lst (t4.cs.map Cl.d)):=lf rfl
   have f1:(x'.h M0)[1]? = some (.lst (nats t4.pl)):=lf rfl
   have f2:(x'.h M0)[2]? = some (.lst t4.log):=lf rfl
   have f3:(x'.h M0)[3]? = some (.lst ((r4++[Rw.back]).map Rw.d)):=lf rfl
   have f4:(x'.h M0)[4]? = some (.lst [v.d]):=lf Nl
   have Ny:(x'.h M0)[M0.length+4]? = some (.lst (t4.log++bA (oN ns))):=by rw [<- CM];exact g4
   have tk:(x'.h M0).take 0=[]:=rfl
   generalize hM1:x'.h M0=M1 at rn hsh f0 f1 f2 f3 f4 Ny
   have sS:=v_sh (Φ:=aa ah (k+44)) (σ:=sL ns false (some (.ref 2)) (some (code (r4++[.back]) (oN ns))) (some (.str (w ""))) (some (.tup [y, .ref (M0.length+4)]))) (M:=M1) rfl rfl f2 hO (by omega)
   have lg:av (t4.log++bA (oN ns))=true/\deps (t4.log++bA (oN ns))<=1:=by
    have h:∀ d∈t4.log++bA (oN ns),vG d:=fun d hd=>(List.mem_append.mp hd).elim (I4.lp d) (BB d)
    exact ⟨gy fun d hd=>(h d hd).1,ko fun d hd=>(h d hd).2⟩
   let M3:MH:=M1++[.lst (t4.log++bA (oN ns))]
   have M7:∀ {n:Nat} {z:MO},M1[n]? = some z->M3[n]? = some z:=fun {n z} h=>by
    show (M1++_)[n]? = _
    rw [List.getElem?_append_left (List.getElem?_eq_some_iff.mp h).1];exact h
   have fl:M3[M1.length]? = some (.lst (t4.log++bA (oN ns))):=by show (M1++_)[M1.length]? = _;simp
   let σ9:Sg:=sL ns false (some (.ref M1.length)) (some (code (r4++[.back]) (oN ns))) (some (.str (w ""))) (some (.tup [y, .ref (M0.length+4)]))
   have cw:ev (aa ah (k+44)) (.cmp .eq (.v 13) (.k (.str (w "")))) σ9 M3=.ok (.bl true) M3:=bM (c:=w "") rfl (by decide +kernel)
   have ct:ev (aa ah (k+44)) (.call 27 (.cons (.v 9) (.cons (.idx (.v 6) (.neg (.k (.int 1)))) .nil))) σ9 M3=.ok d M3:=by
    rw [bh,aL (x:=.ref 0) rfl (aL (ix (M7 f4)) rfl),R.af]
    have:=Dm (k:=k+44-(t4.cs.length+1)) (t4.cs.length+1) v d M3 (M7 f0) hd
    rw [show k+44-(t4.cs.length+1)+(t4.cs.length+1)=k+44 by omega] at this
    exact this
   have ce:ev (aa ah (k+44)) (.cmp .eq (.v 14) (.tup (.cons (.call 27 (.cons (.v 9) (.cons (.idx (.v 6) (.neg (.k (.int 1)))) .nil))) (.cons (.v 11) .nil)))) σ9 M3=.ok (.bl true) M3:=by
    refine nu (a:=.tup [y,.ref (M0.length+4)]) (b:=.tup [d,.ref M1.length]) rfl (by rw [bH,aL ct (aL (x:=.ref M1.length) rfl rfl)];rfl) ?_
    have hp:=hd.pl
    exact z8 (hsh.mono (Nat.le_refl _) fun n z _ h=>M7 h) (by omega) hp.1 (by omega) (M7 Ny) fl lg.1 lg.2
   have cr:=gu cw ce
   exact ⟨[],aI (P:=ah) (k:=k+44) HV rfl (pre q1 ((aX w2).trans ((aX q3).trans ((aX w4).trans ((aJ a5).trans ((aq mk).trans ((aX (ur rn)).trans ((aK (cd f3)).trans ((aK tg).trans ((aK rfl).trans ((aK (ao f0 f1 f4)).trans ((aq sS).trans (aP cr))))))))))))) (cM rfl rfl)⟩
 ·-- too great
  have H:=uv (ns:=ns) (g:=true) (a:=none) (b:=none) (c:=none)
  have w2:ex (aa ah (k+44)) (.while MP J2) (sL ns true (some (.ref 2)) none none none) (MM t1 r1)=.ok (.nx (sL ns true (some (.ref 2)) none none none)) (MM t1 r1):=by
   have c:=Fw (Φ:=aa ah (k+44)) (s:=t1) (r:=r1) H
   rw [Bool.not_true,Bool.and_false] at c
   rw [bC,aO]
   show aA _ _ (99999+1) _ _=_
   rw [aA,c];rfl
  have q3:=uI (Φ:=aa ah (k+44)) (s:=t1) (r:=r1) H v1
  have w4:ex (aa ah (k+44)) (.while Nb Ld) (sL ns true (some (.ref 2)) none none none) (MM t1 r1)=.ok (.nx (sL ns true (some (.ref 2)) none none none)) (MM t1 r1):=by
   have c:=G3 (Φ:=aa ah (k+44)) (s:=t1) (r:=r1) H
   rw [Bool.not_true,Bool.and_false] at c
   rw [bC,aO]
   show aA _ _ (99999+1) _ _=_
   rw [aA,c];rfl
  have a5:=xg (Φ:=aa ah (k+44)) (s:=t1) (r:=r1) (σ:=sL ns true (some (.ref 2)) none none none) (i:=5) (a:=.back) (e:=.tup (.cons (.k (.str (w "back"))) .nil)) rfl rfl (by omega)
  have rn:=wB (k:=k+36) (M:=MM t1 (r1++[.back])) hO kn (G1.app (ws:=[.back])) (by omega) ye
  have cg:ev (aa ah (k+44)) (.cmp .eq (.v 13) (.k (.str (w "great")))) (sL ns true (some (.ref 2)) (some (code (r1++[.back]) (oN ns))) (some (.str (w "great"))) (some .ai)) (MM t1 (r1++[.back]))=.ok (.bl true) (MM t1 (r1++[.back])):=bM (c:=w "great") rfl (by decide +kernel)
  exact ⟨[],aI (P:=ah) (k:=k+44) HV rfl (pre q1 ((aX w2).trans ((aX q3).trans ((aX w4).trans ((aJ a5).trans ((aq mk).trans ((aX (ur rn)).trans ((aK (cd rfl)).trans ((aK tg).trans (bR rfl (aP cg))))))))))) (cM rfl rfl)⟩
end
end bI
end
section
namespace bI
open Fg PySem PySem.Spec L2
theorem JF:tb.ok tb.gm ah=true:=by decide +kernel
theorem Mh {d:DefRec} (hd:d.params.defaults=[]) (hx:d.name=("law" : Str)) {XP:(Str->Option Value)->Heap->Prop}:W.WalkO Nn hdL XP (tb.hook ah).says PySem.Challenge.rw_fieldgate_k42_cells_and_fields.row.toRowW d [] (fun f vs=>PySem.call f vs) :=
 tb.walk ah (l:=PySem.Challenge.rw_fieldgate_k42_cells_and_fields) (r:=tb.fn[22]'(by decide)) (x:="_law_script") 44 rfl hd ⟨rfl, by decide, by decide⟩ JF (List.getElem_mem _) hx rfl rfl fun ns h=>zh (k:=0) ns h
end bI
end
section
open PySem PySem.W PyProof.Rows
set_option maxRecDepth 100000 in
set_option maxHeartbeats 0 in
theorem PySem.Challenge.cw_fieldgate_k42_cells_and_fields_holds : PySem.Challenge.rw_fieldgate_k42_cells_and_fields.Holds := by
 w_on
 refine holds_law (by decide +kernel) fun said => ?_
 refine holds_open (XP := XL bI.Nn []) bI.lft (bI.tb.hook bI.ah).of (bI.tb.hook bI.ah).keeps
  (fun s e => xl_of s (Bool.and_eq_true_iff.mp e).1) XL.keeps (by rfl) (by rfl) (by rfl)
  (fun s e => recFacts_of (Bool.and_eq_true_iff.mp e).2) (by rfl) said (by decide +kernel)
  ⟨rfl,rfl,rfl,rfl,rfl,by decide +kernel⟩ ?hw (bI.Mh rfl rfl)
 w_witness2
end
