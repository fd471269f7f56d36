import PyProof.Rows.All
import KE.KDictOf
import KE.KFromBytes
import KE.KIsAll
import KE.KItemsList
import KE.KRevIter
import KE.KStateDown
import PySem.Challenge.RW_fieldgate_k45_machine_refusals
set_option maxRecDepth 100000
set_option linter.all false
set_option Elab.async false
section
namespace L2
open PySem
noncomputable def inClass (s:Stmt) (j:Nat):Stmt:=match s with
 | .ClassDef _ _ _ body _ _ _ _ _ _ _=>body.getD j (.Pass ⟨0,0,0,0⟩)
 | _=>.Pass ⟨0,0,0,0⟩
noncomputable def iI (s:Stmt):Arguments:=match s with
 | .FunctionDef _ a _ _ _ _ _ _ _ _=>a
 | _=>{ posonlyargs:=[],args:=[],vararg:=none,kwonlyargs:=[],kw_defaults:=[],kwarg:=none,defaults:=[] }
noncomputable def b9 (s:Stmt):List Stmt:=match s with
 | .FunctionDef _ _ b _ _ _ _ _ _ _=>b
 | _=>[]
noncomputable def aD (s:Stmt):Scope:=match s with
 | .FunctionDef _ _ _ _ _ _ sc _ _ _=>sc
 | _=>{ kind:=.function,names:=[],isGenerator:=false,isCoroutine:=false }
end L2
end
section
namespace Fg
open PySem
abbrev Ky:=Sum Int Str
inductive D where
 | ao
 | bl (b:Bool)
 | int (i:Int)
 | str (x:Str)
 | tup (ds:List D)
 | lst (ds:List D)
 | dct (ks:List Ky) (ds:List D)
 | ref (n:Nat)
 | iP (c:Nat)
mutual
def same (a b:D):Bool:=match a with
 | .ao=>match b with | .ao=>true | _=>false
 | .bl x=>match b with | .bl y=>decide (x=y) | _=>false
 | .int x=>match b with | .int y=>decide (x=y) | _=>false
 | .str x=>match b with | .str y=>decide (x=y) | _=>false
 | .tup x=>match b with | .tup y=>fO x y | _=>false
 | .lst x=>match b with | .lst y=>fO x y | _=>false
 | .dct k x=>match b with | .dct l y=>decide (k=l)&&fO x y | _=>false
 | .ref x=>match b with | .ref y=>decide (x=y) | _=>false
 | .iP x=>match b with | .iP y=>decide (x=y) | _=>false
def fO (a b:List D):Bool:=match a with
 | []=>match b with | []=>true | _=>false
 | x::xs=>match b with | y::ys=>same x y&&fO xs ys | _=>false
end
mutual
theorem tG:∀ (a b:D),same a b=true->a=b
 | .ao,b,h=>by cases b <;> simp [same] at h ⊢
 | .bl x,b,h=>by cases b <;> simp [same] at h ⊢;exact h
 | .int x,b,h=>by cases b <;> simp [same] at h ⊢;exact h
 | .str x,b,h=>by cases b <;> simp [same] at h ⊢;exact h
 | .tup x,b,h=>by cases b <;> simp [same] at h ⊢;exact g7 _ _ h
 | .lst x,b,h=>by cases b <;> simp [same] at h ⊢;exact g7 _ _ h
 | .dct k x,b,h=>by cases b <;> simp [same] at h ⊢;exact ⟨h.1,g7 _ _ h.2⟩
 | .ref x,b,h=>by cases b <;> simp [same] at h ⊢;exact h
 | .iP x,b,h=>by cases b <;> simp [same] at h ⊢;exact h
theorem g7:∀ (a b:List D),fO a b=true->a=b
 | [],b,h=>by cases b <;> simp [fO] at h ⊢
 | x::xs,b,h=>by
  cases b with
  | nil=>simp [fO] at h
  | cons y ys=>simp only [fO,Bool.and_eq_true] at h;rw [tG x y h.1,g7 xs ys h.2]
end
mutual
theorem same_refl:∀ (a:D),same a a=true
 | .ao=>by simp [same]
 | .bl x=>by simp [same]
 | .int x=>by simp [same]
 | .str x=>by simp [same]
 | .tup x=>by simp only [same];exact eF x
 | .lst x=>by simp only [same];exact eF x
 | .dct k x=>by simp only [same,eF x];simp
 | .ref x=>by simp [same]
 | .iP x=>by simp [same]
theorem eF:∀ (a:List D),fO a a=true
 | []=>by simp [fO]
 | x::xs=>by simp only [fO,same_refl x,eF xs,Bool.and_self]
end
instance:DecidableEq D:=fun a b=>decidable_of_iff (same a b=true) ⟨tG a b,fun h=>h ▸ same_refl a⟩
inductive MO where
 | lst (ds:List D)
 | dct (kvs:List (Ky×D))
 | oj (kvs:List (Ky×D))
 | ins (c:Nat) (fs:List (Str×D))
 deriving DecidableEq
noncomputable abbrev MH:=List MO
noncomputable abbrev Sg:=List (Option D)
inductive R (α:Type) where
 | ok (a:α) (M:MH)
 | exc (c:Nat) (M:MH)
 | bad
noncomputable def R.bind {α β:Type} (x:R α) (f:α->MH->R β):R β :=
 match x with
 | .ok a M=>f a M
 | .exc c M=>.exc c M
 | .bad=>.bad
@[simp] theorem R.af {α β:Type} (a:α) (M:MH) (f:α->MH->R β):(R.ok a M).bind f=f a M:=rfl
@[simp] theorem R.iK {α β:Type} (c:Nat) (M:MH) (f:α->MH->R β):(R.exc c M:R α).bind f=.exc c M:=rfl
@[simp] theorem R.fZ {α β:Type} (f:α->MH->R β):(R.bad:R α).bind f=.bad:=rfl
inductive Dp where
 | add | sub | mul | fdiv | mod | pow
inductive AK where
 | eq | ne | lt | le | gt | ge | isin | pB | wJ | kh
inductive Ty where
 | int | str | bool | list | tuple | dict
inductive Bl where
 | len | sum | tuple | list | dict | str | int | abs | max | min | sorted | all | any | repr
inductive Mt where
 | append | extend | pop | reverse | clear | get | join | startswith | replace | split | index | count
inductive F1 where
 | abs | int
mutual
inductive E where
 | v (i:Nat)
 | k (d:D)
 | g (i:Nat)
 | tup (es:Es)
 | lst (fz:Bool) (es:Es)
 | Iw
 | op (o:Dp) (fz:Bool) (a b:E)
 | neg (a:E)
 | cmp (o:AK) (a b:E)
 | chain (o o':AK) (a b c:E)
 | and (a b:E)
 | or (a b:E)
 | not (a:E)
 | tru (a:E)
 | AF (c a b:E)
 | idx (a b:E)
 | sl (fz:Bool) (a:E) (lo hi:O)
 | call (f:Nat) (es:Es)
 | CF (a:E) (t:Ty)
 | blt (b:Bl) (fz:Bool) (es:Es)
 | bh (m:Mt) (fz:Bool) (a:E) (es:Es)
 | comp (fz:Bool) (caps:List Nat) (tg:List Nat) (elt:E) (it:Src) (cond:O)
 | fld (a:E) (f:Str)
 | cM (c m:Nat) (nm:Str) (a:E) (es:Es)
 | new (c i:Nat) (es:Es)
 | mx (hi:Bool) (a b:E)
 | MA (fz:Bool) (a b:E)
 | MC (fz:Bool) (a:E)
 | rv (fz:Bool) (a:E)
 | all1 (a:E)
 | pV (f:F1) (a:E)
 | jt (f:Nat) (es:Es) (d:Int)
 | jr (f:Nat) (es:Es) (e:E)
 | MB (fz:Bool) (a b:E)
 | dz (a b:E)
 | jh (a:E) (c:Option Nat)
 | Ef (ct:Bool) (a:E) (es:Es)
 | Mz (a:E)
 | bad
inductive Es where
 | nil
 | cons (e:E) (es:Es)
inductive O where
 | none
 | some (e:E)
inductive Src where
 | e (a:E)
 | iO (a:E)
 | FG (a b:E)
 | enum (a:E)
 | Cp (a:E)
 | rev (a:E)
 | zip (a b:E)
 | FE (a b:E)
end
mutual
inductive S where
 | set (i:Nat) (e:E)
 | qL (a b e:E)
 | bN (a:E) (f:Str) (e:E)
 | Dy (tg:List Nat) (e:E)
 | ex (e:E)
 | ret (e:E)
 | FH
 | ifs (c:E) (a b:Ss)
 | for (tg:List Nat) (it:Src) (b:Ss)
 | while (c:E) (b:Ss)
 | brk
 | cont
 | pass
 | raise (c:Nat) (es:Es)
 | try (b:Ss) (hs:Hs) (els:Ss)
 | bad
inductive Ss where
 | nil
 | cons (s:S) (ss:Ss)
inductive Hs where
 | nil
 | cons (cs:List Nat) (b:Ss) (hs:Hs)
 | as (c i:Nat) (b:Ss) (hs:Hs)
end
inductive Out where
 | nx (σ:Sg)
 | rt (d:D)
 | bk (σ:Sg)
 | ct (σ:Sg)
 | xc (c:Nat) (σ:Sg)
noncomputable def R.use {α:Type} (x:R α) (σ:Sg) (f:α->MH->R Out):R Out :=
 match x with
 | .ok a M=>f a M
 | .exc c M=>.ok (.xc c σ) M
 | .bad=>.bad
@[simp] theorem R.fN {α:Type} (a:α) (M:MH) (σ:Sg) (f:α->MH->R Out):(R.ok a M).use σ f=f a M:=rfl
@[simp] theorem R.mH {α:Type} (c:Nat) (M:MH) (σ:Sg) (f:α->MH->R Out):(R.exc c M:R α).use σ f=.ok (.xc c σ) M:=rfl
@[simp] theorem R.Mj {α:Type} (σ:Sg) (f:α->MH->R Out):(R.bad:R α).use σ f=.bad:=rfl
inductive Vw where
 | tup (ds:List D)
 | lst (ds:List D)
 | dct (kvs:List (Ky×D))
 | none
noncomputable def vw (M:MH):D->Vw
 | .tup ds=>.tup ds
 | .lst ds=>.lst ds
 | .dct ks ds=>.dct (ks.zip ds)
 | .ref n=>match M[n]? with
  | some (.lst ds)=>.lst ds
  | some (.dct kvs)=>.dct kvs
  | some (.oj kvs)=>.dct kvs
  | _=>.none
 | _=>.none
noncomputable def line:Nat:=1000000
noncomputable def small (i:Int):Bool:=decide (i.natAbs<18446744073709551616)
noncomputable def mid (i:Int):Bool:=decide (i.natAbs<10 ^ 200)
noncomputable def gk:Dp->Int->Int->Option Int
 | .add,i,j=>some (i+j)
 | .sub,i,j=>some (i-j)
 | .mul,i,j=>if small i||small j then some (i*j) else if mid i&&mid j then some (i*j) else none
 | .fdiv,i,j=>if decide (0<j)&&decide (j.natAbs<1073741824) then some (i / j) else none
 | .mod,i,j=>if decide (0<j) then some (i % j) else none
 | .pow,i,j=>if decide (0<=j)&&(decide (j<=1000000)&&decide (i.natAbs<18446744073709551616)) then some (i ^ j.toNat) else none
noncomputable def b7 (fz:Bool) (ds:List D) (M:MH):R D:=if fz then .ok (.lst ds) M else .ok (.ref M.length) (M++[.lst ds])
noncomputable def tX (o:Dp) (fz:Bool) (M:MH):D->D->R D
 | .int i,.int j=>match gk o i j with
  | some k=>.ok (.int k) M
  | none=>.bad
 | .str x,.str y=>match o with
  | .add=>if decide (x.length+y.length<=line) then .ok (.str (x++y)) M else .bad
  | _=>.bad
 | a, b=>match o with
  | .add=>match vw M a,vw M b with
   | .lst xs,.lst ys=>if decide (xs.length+ys.length<=line) then b7 fz (xs++ys) M else .bad
   | .tup xs,.tup ys=>if !xs.isEmpty&&decide (xs.length+ys.length<=line) then .ok (.tup (xs++ys)) M else .bad
   | _,_=>.bad
  | .mul=>match vw M a,b with
   | .lst xs,.int k=>if decide (xs.length*k.toNat<=line)&&decide (k.natAbs<=1000000) then b7 fz (List.replicate k.toNat xs).flatten M else .bad
   | _,_=>.bad
  | _=>.bad
mutual
noncomputable def plain:D->Bool
 | .ao=>true
 | .bl _=>true
 | .int _=>true
 | .str _=>true
 | .tup ds=>dw ds
 | .lst ds=>dw ds
 | .dct _ _=>false
 | .ref _=>false
 | .iP _=>false
noncomputable def dw:List D->Bool
 | []=>true
 | d::ds=>plain d&&dw ds
end
mutual
noncomputable def dep:D->Nat
 | .tup ds=>deps ds+1
 | .lst ds=>deps ds+1
 | .dct _ ds=>deps ds+1
 | .ao=>0
 | .bl _=>0
 | .int _=>0
 | .str _=>0
 | .ref _=>0
 | .iP _=>0
noncomputable def deps:List D->Nat
 | []=>0
 | d::ds=>max (dep d) (deps ds)
end
mutual
noncomputable def aF:D->D->Bool
 | .ao,.ao=>true
 | .bl a,.bl b=>a == b
 | .bl a,.int i=>(if a then 1 else 0) == i
 | .int i,.bl b=>i == (if b then 1 else 0)
 | .int a,.int b=>decide (a=b)
 | .str a,.str b=>decide (a=b)
 | .tup a,.tup b=>c5 a b
 | .lst a,.lst b=>c5 a b
 | _,_=>false
noncomputable def c5:List D->List D->Bool
 | [],[]=>true
 | a::as,b::bs=>aF a b&&c5 as bs
 | _,_=>false
end
noncomputable def keyOf:D->Option Ky
 | .int i=>some (.inl i)
 | .str x=>some (.inr x)
 | _=>none
noncomputable def ME:Ky->D
 | .inl i=>.int i
 | .inr x=>.str x
noncomputable def look (kvs:List (Ky×D)) (k:Ky):Option D:=(kvs.find? fun kv=>decide (kv.1=k)).map (·.2)
noncomputable def put (kvs:List (Ky×D)) (k:Ky) (v:D):List (Ky×D) :=
 if kvs.any (fun kv=>decide (kv.1=k)) then kvs.map fun kv=>if kv.1=k then (kv.1,v) else kv else kvs++[(k,v)]
noncomputable def top (M:MH):D->D
 | .ref n=>match M[n]? with
  | some (.lst ds)=>.lst ds
  | _=>.ref n
 | d=>d
noncomputable def flat:D->Bool
 | .ao=>true
 | .int _=>true
 | .str _=>true
 | _=>false
noncomputable def ee (a b:D):Bool:=(plain a&&plain b)&&(decide (dep a<=100)||decide (dep b<=100))
noncomputable def nh (M:MH) (a b:D):Option Bool:=match vw M a,vw M b with
 | .lst xs,.lst ys=>if ys.isEmpty then some xs.isEmpty else none
 | _,_=>none
noncomputable def deep:Nat->MH->D->D
 | 0,_,d=>d
 | n+1,M,d=>match d with
  | .ref r=>(match M[r]? with
   | some (.lst ds)=>.lst (ds.map (deep n M))
   | _=>.ref r)
  | .tup ds=>.tup (ds.map (deep n M))
  | .lst ds=>.lst (ds.map (deep n M))
  | d=>d
noncomputable def LC (M:MH) (neg:Bool) (a b:D):R D:=if ee (deep 120 M a) (deep 120 M b) then .ok (.bl (if neg then !aF (deep 120 M a) (deep 120 M b) else aF (deep 120 M a) (deep 120 M b))) M else .bad
noncomputable def sr (M:MH) (f:Int->Int->Bool) (a b:D):R D:=match a with
 | .int i=>(match b with | .int j=>.ok (.bl (f i j)) M | _=>.bad)
 | _=>.bad
noncomputable def Ng (M:MH) (a b:D):R D:=if ee (top M a) (top M b) then .ok (.bl (aF (top M a) (top M b))) M else (match nh M a b with | some t=>.ok (.bl t) M | none=>LC M false a b)
noncomputable def yk (M:MH) (a b:D):R D:=if ee (top M a) (top M b) then .ok (.bl (!aF (top M a) (top M b))) M else (match nh M a b with | some t=>.ok (.bl (!t)) M | none=>LC M true a b)
noncomputable def bS:D->Bool
 | .ao=>true
 | _=>false
noncomputable def EN (a b:D):Option (Bool×Bool):=match a with
 | .bl x=>(match b with | .bl y=>some (x,y) | _=>none)
 | _=>none
noncomputable def HN (M:MH) (a b:D):Option Bool:=match vw M b with
 | .dct kvs=>(match keyOf a with | some k=>some (look kvs k).isSome | none=>none)
 | .lst ds=>if flat a&&ds.all flat then some (ds.any fun d=>aF d a) else none
 | .tup ds=>if flat a&&ds.all flat then some (ds.any fun d=>aF d a) else none
 | .none=>none
noncomputable def bO (o:AK) (M:MH) (a b:D):R D :=
 match o with
 | .lt=>sr M (fun i j=>decide (i<j)) a b
 | .le=>sr M (fun i j=>decide (i<=j)) a b
 | .gt=>sr M (fun i j=>decide (j<i)) a b
 | .ge=>sr M (fun i j=>decide (j<=i)) a b
 | .eq=>(match EN a b with | some p=>.ok (.bl (p.1 == p.2)) M | none=>Ng M a b)
 | .ne=>(match EN a b with | some p=>.ok (.bl (!(p.1 == p.2))) M | none=>yk M a b)
 | .wJ=>if bS b then .ok (.bl (bS a)) M else .bad
 | .kh=>if bS b then .ok (.bl (!bS a)) M else .bad
 | .isin=>(match HN M a b with | some t=>.ok (.bl t) M | none=>.bad)
 | .pB=>(match HN M a b with | some t=>.ok (.bl (!t)) M | none=>.bad)
noncomputable def wI (n:Nat) (i:Int):Option Nat:=if 0<=i then (if i<n then some i.toNat else none) else if -(n:Int)<=i then some (i+n).toNat else none
noncomputable def b5 {α:Type} (xs:List α) (i:Int):Option α:=(wI xs.length i).bind fun j=>xs[j]?
noncomputable def six (n d:Nat):Option Int->Nat
 | none=>d
 | some v=>if v<0 then (v+(n:Int)).toNat else min v.toNat n
noncomputable def kP {α:Type} (xs:List α) (lo hi:Option Int):List α:=(xs.drop (six xs.length 0 lo)).take (six xs.length xs.length hi-six xs.length 0 lo)
noncomputable def cuts (x:Str) (lo hi:Option Int):Str:=⟨(kP x.cps.toList lo hi).toArray⟩
noncomputable def nq (M:MH) (a b:D):R D :=
 match a,b with
 | .str x,.int i=>if decide (x.length<=line) then (match b5 x.cps.toList i with
  | some c=>.ok (.str ⟨#[c]⟩) M
  | none=>.bad) else .bad
 | a, b=>match vw M a, b with
  | .tup ds,.int i=>match b5 ds i with
   | some d=>.ok d M
   | none=>.bad
  | .lst ds,.int i=>match b5 ds i with
   | some d=>.ok d M
   | none=>.bad
  | .dct kvs,b=>match keyOf b with
   | some k=>match look kvs k with
    | some d=>.ok d M
    | none=>.bad
   | none=>.bad
  | _,_=>.bad
noncomputable def Ek (n:Nat) (lo hi:Option Int):Bool:=decide (six n 0 lo=0)&&decide (six n n hi=n)
noncomputable def sl2 (fz:Bool) (M:MH) (a:D) (lo hi:Option Int):R D :=
 match a with
 | .str x=>if decide (x.length<=line) then .ok (.str (cuts x lo hi)) M else .bad
 | a=>match vw M a with
  | .tup ds=>if Ek ds.length lo hi then .bad else .ok (.tup (kP ds lo hi)) M
  | .lst ds=>b7 fz (kP ds lo hi) M
  | _=>.bad
noncomputable def HM (M:MH) (t:Ty):D->Bool
 | .int _=>match t with | .int=>true | _=>false
 | .bl _=>match t with | .int=>true | .bool=>true | _=>false
 | .str _=>match t with | .str=>true | _=>false
 | .tup _=>match t with | .tuple=>true | _=>false
 | .lst _=>match t with | .list=>true | _=>false
 | .dct _ _=>match t with | .dict=>true | _=>false
 | .ao=>false
 | .iP _=>false
 | .ref n=>match M[n]? with
  | some (.lst _)=>(match t with | .list=>true | _=>false)
  | some (.dct _)=>(match t with | .dict=>true | _=>false)
  | some (.oj _)=>(match t with | .dict=>true | _=>false)
  | _=>false
noncomputable def wH (M:MH):D->Bool
 | .ref n=>match M[n]? with
  | some (.lst _)=>true
  | some (.dct _)=>true
  | some (.oj _)=>true
  | _=>false
 | .iP _=>false
 | _=>true
noncomputable def intsOf:List D->Option (List Int)
 | []=>some []
 | .int i::ds=>(intsOf ds).map (i::·)
 | _=>none
noncomputable def boolsOf:List D->Option (List Bool)
 | []=>some []
 | .bl b::ds=>(boolsOf ds).map (b::·)
 | _=>none
noncomputable def vW:F1->D->Option D
 | .abs,.int i=>some (.int (if i<0 then -i else i))
 | .int,.bl b=>some (.int (if b then 1 else 0))
 | .int,.int i=>some (.int i)
 | _,_=>none
noncomputable def itemsOf (M:MH) (d:D):Option (List D) :=
 match d with
 | .str _=>none
 | .dct _ _=>none
 | d=>match vw M d with
  | .tup ds=>some ds
  | .lst ds=>some ds
  | .dct kvs=>some (kvs.map fun kv=>ME kv.1)
  | .none=>none
noncomputable def wk (M:MH):D->Bool
 | .ref n=>match M[n]? with
  | some (.dct _)=>true
  | _=>false
 | _=>false
noncomputable def walk (M:MH):D->MH
 | .ref n=>match M[n]? with
  | some (.dct kvs)=>M.set n (.oj kvs)
  | _=>M
 | _=>M
noncomputable def fu (b:Bool) (d:D) (M:MH):MH:=match b,d with
 | true,.ref n=>match M[n]? with
  | some (.oj kvs)=>M.set n (.dct kvs)
  | _=>M
 | _,_=>M
noncomputable def R.fin {α:Type} (x:R α) (f:MH->MH):R α:=match x with
 | .ok a M=>.ok a (f M)
 | .exc c M=>.exc c (f M)
 | .bad=>.bad
noncomputable def An (b:Bl) (fz:Bool) (M:MH):List D->R D
 | [.str x]=>match b with
  | .len=>if decide (x.length<=line) then .ok (.int x.length) M else .bad
  | _=>.bad
 | [d]=>match b,vw M d with
  | .len,.tup ds=>.ok (.int ds.length) M
  | .len,.lst ds=>.ok (.int ds.length) M
  | .len,.dct kvs=>.ok (.int kvs.length) M
  | .sum,.lst ds=>match intsOf ds with
   | some ns=>.ok (.int ns.sum) M
   | none=>.bad
  | .tuple,.lst ds=>.ok (.tup ds) M
  | .tuple,.tup ds=>.ok (.tup ds) M
  | .list,.lst ds=>b7 fz ds M
  | .list,.tup ds=>b7 fz ds M
  | .dict,.dct kvs=>.ok (.ref M.length) (M++[.dct kvs])
  | _,_=>.bad
 | _=>.bad
noncomputable def pR:D->Option (List D)
 | .tup ds=>some ds
 | .lst ds=>some ds
 | _=>none
noncomputable def DA:D->Option (List D)
 | .tup ds=>some ds
 | _=>none
theorem AR {d:D} {ds:List D} (h:DA d=some ds):d=.tup ds:=by
 cases d <;> first | (cases h;rfl) | cases h
noncomputable def gx (M:MH) (a:D):Option (Nat×List D):=match a with
 | .ref n=>(match M[n]? with | some (.lst xs)=>some (n,xs) | _=>none)
 | _=>none
theorem cS {M:MH} {n:Nat} {xs:List D} (h:M[n]? = some (.lst xs)):gx M (.ref n)=some (n,xs):=by simp only [gx,h]
theorem jN {M:MH} {a:D} {p:Nat×List D} (h:gx M a=some p):a=.ref p.1/\M[p.1]? = some (.lst p.2):=by
 cases a with
 | ref n =>
  simp only [gx] at h
  split at h
  ·rename_i xs hx;cases h;exact ⟨rfl,hx⟩
  ·cases h
 | _=>cases h
noncomputable def qY (ds:List D) (k:D->R D):R D:=match ds with
 | d::r=>(match r with | []=>k d | _::_=>.bad)
 | []=>.bad
noncomputable def pH (m:Mt) (M:MH) (n:Nat) (xs ds:List D):R D:=match m with
 | .append=>qY ds fun d=>if decide (xs.length<line) then .ok .ao (M.set n (.lst (xs++[d]))) else .bad
 | .extend=>qY ds fun d=>(match DA d with
  | some ys=>if decide (xs.length+ys.length<=line) then .ok .ao (M.set n (.lst (xs++ys))) else .bad
  | none=>.bad)
 | .pop=>if ds.isEmpty then (match xs[xs.length-1]? with
  | some d=>.ok d (M.set n (.lst xs.dropLast))
  | none=>.bad) else .bad
 | .reverse=>if ds.isEmpty then .ok .ao (M.set n (.lst xs.reverse)) else .bad
 | .clear=>if ds.isEmpty then .ok .ao (M.set n (.lst [])) else .bad
 | _=>.bad
noncomputable def gH (m:Mt) (fz:Bool) (M:MH) (a:D) (ds:List D):R D:=match gx M a with
 | some p=>pH m M p.1 p.2 ds
 | none=>.bad
noncomputable def pI (m:Mt) (M:MH) (a:D):Bool:=(gx M a).isSome&&(match m with | .append=>true | .extend=>true | .pop=>true | .reverse=>true | .clear=>true | _=>false)
noncomputable def mS (M:MH) (a b d:D):R Unit :=
 match a with
 | .ref n=>match M[n]?,b with
  | some (.lst xs),.int i=>match wI xs.length i with
   | some j=>.ok () (M.set n (.lst (xs.set j d)))
   | none=>.bad
  | some (.dct kvs),b=>match keyOf b with
   | some k=>if decide (kvs.length<line) then .ok () (M.set n (.dct (put kvs k d))) else .bad
   | none=>.bad
  | _,_=>.bad
 | _=>.bad
noncomputable def iT {α:Type}:List Nat->List α->List (Option α)->List (Option α)
 | i::tg,x::xs,σ=>iT tg xs (σ.set i (some x))
 | _,_,σ=>σ
noncomputable def sets (tg:List Nat) (M:MH) (d:D) (σ:Sg):Option Sg :=
 match tg with
 | [i]=>some (σ.set i (some d))
 | [i,j]=>match d with
  | .tup [x,y]=>some ((σ.set i (some x)).set j (some y))
  | _=>none
 | []=>none
 | tg=>match d with
  | .tup xs=>if xs.length=tg.length then some (iT tg xs σ) else none
  | _=>none
noncomputable def aN (M:MH) (d:D) (M':MH):Bool:=match d with
 | .ref n=>decide (M'[n]? = M[n]?)
 | _=>true
noncomputable def bC (body:Sg->MH->R Out) (tg:List Nat) (fK:MH->Bool):List D->Sg->MH->R Out
 | [],σ,M=>.ok (.nx σ) M
 | d::ds,σ,M=>match sets tg M d σ with
  | none=>.bad
  | some σ1=>(body σ1 M).bind fun o M1=>match o with
   | .nx σ2=>if fK M1 then bC body tg fK ds σ2 M1 else .bad
   | .ct σ2=>if fK M1 then bC body tg fK ds σ2 M1 else .bad
   | .bk σ2=>.ok (.nx σ2) M1
   | .rt r=>.ok (.rt r) M1
   | .xc c σ2=>.ok (.xc c σ2) M1
noncomputable def bI (c:Sg->MH->R D) (body:Sg->MH->R Out):Nat->Sg->MH->R Out
 | 0,_,_=>.bad
 | n+1,σ,M=>(c σ M).use σ fun t M0=>match t with
  | .bl false=>.ok (.nx σ) M0
  | .bl true=>(body σ M0).bind fun o M1=>match o with
   | .nx σ2=>bI c body n σ2 M1
   | .ct σ2=>bI c body n σ2 M1
   | .bk σ2=>.ok (.nx σ2) M1
   | .rt r=>.ok (.rt r) M1
   | .xc c σ2=>.ok (.xc c σ2) M1
  | _=>.bad
noncomputable def bz (cond:Sg->MH->R D) (elt:Sg->MH->R D) (tg:List Nat) (fK:MH->Bool):List D->Sg->MH->List D->R (List D)
 | [],_,M,acc=>.ok acc M
 | d::ds,σ,M,acc=>match sets tg M d σ with
  | none=>.bad
  | some σ1=>(cond σ1 M).bind fun t M1=>match t with
   | .bl true=>(elt σ1 M1).bind fun x M2=>if fK M2 then (if decide (acc.length<line) then bz cond elt tg fK ds σ1 M2 (acc++[x]) else .bad) else .bad
   | .bl false=>if fK M1 then bz cond elt tg fK ds σ1 M1 acc else .bad
   | _=>.bad
noncomputable def bB (f:Str) (v:D):List (Str×D)->List (Str×D)
 | []=>[(f,v)]
 | (g,x)::r=>if g=f then (g,v)::r else (g,x)::bB f v r
structure aL where
 call:Nat->List D->MH->R D
 ini:Nat->List D->MH->R D
 glob:Nat->Option D
 turns:Nat
 sub:Nat->Nat->Bool
noncomputable def nR (σ:Sg) (caps:List Nat):Sg:=caps.map fun i=>(σ[i]?).join
noncomputable def jv:D->Option Int
 | .int i=>some i
 | _=>none
noncomputable def jz (j:Int):Bool:=decide (j.natAbs<=1000000)
noncomputable def eG (a b:Int):List D:=(List.range (b-a).toNat).map fun (i:Nat)=>D.int (a+(i:Int))
noncomputable def Jq (ds es:List D):List D:=(ds.zip es).map fun p=>.tup [p.1,p.2]
noncomputable def tL (a b:Int):List D:=(List.range (a-b).toNat).map fun (i:Nat)=>D.int (a-(i:Int))
noncomputable def Mp (M:MH) (d:D):Option (List D):=match vw M d with
 | .lst ds=>some ds
 | .tup ds=>some ds
 | _=>none
noncomputable def dzs:List (Ky×D)->List D->List D->Option (List (Ky×D))
 | kvs,d::ds,e::es=>match keyOf d with
  | some k=>dzs (put kvs k e) ds es
  | none=>none
 | kvs,_,_=>some kvs
noncomputable def rH (M:MH) (d:D):Option (List D):=match vw M d with
 | .lst ds=>some ds
 | _=>none
noncomputable def kK:D->Bool
 | .ao=>true
 | .bl _=>true
 | .int _=>true
 | .str _=>true
 | _=>false
noncomputable def CC (ct:Bool) (ds:List D) (d:D):Option Nat:=if ds.all kK&&kK d then (if ct then some (ds.countP fun e=>aF e d) else ds.findIdx? fun e=>aF e d) else none
noncomputable def HG (ct:Bool) (M:MH) (x:D) (ds:List D):R D:=qY ds fun d=>match (rH M x).bind fun xs=>CC ct xs d with
 | some j=>.ok (.int (j:Int)) M
 | none=>.bad
noncomputable def maxOf (ds:List D):Option Int:=match intsOf ds with
 | some (n::ns)=>some (ns.foldl (fun m a=>if m<a then a else m) n)
 | _=>none
mutual
noncomputable def ev (Φ:aL):E->Sg->MH->R D
 | .v i,σ,M=>match σ[i]? with
  | some (some d)=>.ok d M
  | _=>.bad
 | .k d,_,M=>.ok d M
 | .g i,_,M=>match Φ.glob i with
  | some d=>.ok d M
  | none=>.bad
 | .tup es,σ,M=>(bX Φ es σ M).bind fun ds M1=>.ok (.tup ds) M1
 | .lst fz es,σ,M=>(bX Φ es σ M).bind fun ds M1=>b7 fz ds M1
 | .Iw,_,M=>.ok (.ref M.length) (M++[.dct []])
 | .op o fz a b,σ,M=>(ev Φ a σ M).bind fun x M1=>(ev Φ b σ M1).bind fun y M2=>tX o fz M2 x y
 | .neg a,σ,M=>(ev Φ a σ M).bind fun x M1=>match x with
  | .int i=>.ok (.int (-i)) M1
  | _=>.bad
 | .cmp o a b,σ,M=>(ev Φ a σ M).bind fun x M1=>(ev Φ b σ M1).bind fun y M2=>bO o M2 x y
 | .chain o o' a b c,σ,M=>(ev Φ a σ M).bind fun x M1=>(ev Φ b σ M1).bind fun y M2=>(bO o M2 x y).bind fun t M3=>match t with
  | .bl true=>(ev Φ c σ M3).bind fun z M4=>bO o' M4 y z
  | .bl false=>.ok (.bl false) M3
  | _=>.bad
 | .and a b,σ,M=>(ev Φ a σ M).bind fun x M1=>match x with
  | .bl true=>(ev Φ b σ M1)
  | .bl false=>.ok (.bl false) M1
  | _=>.bad
 | .or a b,σ,M=>(ev Φ a σ M).bind fun x M1=>match x with
  | .bl true=>.ok (.bl true) M1
  | .bl false=>(ev Φ b σ M1)
  | _=>.bad
 | .not a,σ,M=>(ev Φ a σ M).bind fun x M1=>match x with
  | .bl b=>.ok (.bl (!b)) M1
  | _=>.bad
 | .tru a,σ,M=>.bad
 | .AF c a b,σ,M=>(ev Φ c σ M).bind fun x M1=>match x with
  | .bl true=>ev Φ a σ M1
  | .bl false=>ev Φ b σ M1
  | _=>.bad
 | .idx a b,σ,M=>(ev Φ a σ M).bind fun x M1=>(ev Φ b σ M1).bind fun y M2=>nq M2 x y
 | .sl fz a lo hi,σ,M=>(ev Φ a σ M).bind fun x M1=>(CS Φ lo σ M1).bind fun l M2=>(CS Φ hi σ M2).bind fun h M3=>sl2 fz M3 x l h
 | .call f es,σ,M=>(bX Φ es σ M).bind fun ds M1=>Φ.call f ds M1
 | .CF a t,σ,M=>(ev Φ a σ M).bind fun x M1=>if wH M1 x then .ok (.bl (HM M1 t x)) M1 else .bad
 | .blt b fz es,σ,M=>(bX Φ es σ M).bind fun ds M1=>An b fz M1 ds
 | .bh m fz a es,σ,M=>(ev Φ a σ M).bind fun x M1=>if pI m M1 x then (bX Φ es σ M1).bind fun ds M2=>gH m fz M2 x ds else .bad
 | .comp fz caps tg elt it cond,σ,M=>(b3 Φ it σ M).bind fun p M1 =>
   ((bz (oh Φ cond) (ev Φ elt) tg (aN M1 p.1) p.2.1 (nR σ caps++List.replicate tg.length none) M1 []).fin (fu p.2.2 p.1)).bind fun ds M2=>b7 fz ds M2
 | .fld a f,σ,M=>(ev Φ a σ M).bind fun x M1=>match x with
  | .ref n=>match M1[n]? with
   | some (.ins _ fs)=>match fs.lookup f with
    | some d=>.ok d M1
    | none=>.bad
   | _=>.bad
  | _=>.bad
 | .cM c m nm a es,σ,M=>(ev Φ a σ M).bind fun x M1=>match x with
  | .ref n=>match M1[n]? with
   | some (.ins c' fs)=>if decide (c'=c)&&(fs.lookup nm).isNone then (bX Φ es σ M1).bind fun ds M2=>Φ.call m (.ref n::ds) M2 else .bad
   | _=>.bad
  | _=>.bad
 | .new c i es,σ,M=>(bX Φ es σ M).bind fun ds M1=>(Φ.ini i (.ref M1.length::ds) (M1++[.ins c []])).bind fun r M2=>match r with
  | .ao=>.ok (.ref M1.length) M2
  | _=>.bad
 | .mx hi a b,σ,M=>(ev Φ a σ M).bind fun x M1=>(ev Φ b σ M1).bind fun y M2=>match x,y with
  | .int i,.int j=>.ok (.int (if hi then (if j > i then j else i) else (if j<i then j else i))) M2
  | _,_=>.bad
 | .MA fz a b,σ,M=>(ev Φ a σ M).bind fun x M1=>(ev Φ b σ M1).bind fun y M2=>match x,y with
  | .int i,.int j=>if jz i&&(jz j&&decide ((j-i).toNat<=line)) then b7 fz (eG i j) M2 else .bad
  | _,_=>.bad
 | .MC fz a,σ,M=>(ev Φ a σ M).bind fun x M1=>match x with
  | .int j=>if jz j then b7 fz (eG 0 j) M1 else .bad
  | _=>.bad
 | .rv fz a,σ,M=>(ev Φ a σ M).bind fun x M1=>match vw M1 x with
  | .lst ds=>b7 fz ds.reverse M1
  | _=>.bad
 | .all1 a,σ,M=>(ev Φ a σ M).bind fun x M1=>match vw M1 x with
  | .lst ds=>match boolsOf ds with
   | some bs=>.ok (.bl (bs.all id)) M1
   | none=>.bad
  | _=>.bad
 | .pV f a,σ,M=>(ev Φ a σ M).bind fun x M1=>match vW f x with
  | some d=>.ok d M1
  | none=>.bad
 | .jr f es e,σ,M=>(bX Φ es σ M).bind fun ds M1=>(ev Φ e σ M1).bind fun d M2=>Φ.call f (ds++[d]) M2
 | .MB fz a b,σ,M=>(ev Φ a σ M).bind fun x M1=>(ev Φ b σ M1).bind fun y M2=>match x,y with
  | .int i,.int j=>if (jz i&&(jz j&&decide ((i-j).toNat<=line)))||decide (i<=j) then b7 fz (tL i j) M2 else .bad
  | _,_=>.bad
 | .jt f es d,σ,M=>(bX Φ es σ M).bind fun ds M1=>Φ.call f (ds++[.int d]) M1
 | .dz a b,σ,M=>(ev Φ a σ M).bind fun x M1=>(ev Φ b σ M1).bind fun y M2=>match Mp M2 x,Mp M2 y with
  | some ds,some es=>if decide (ds.length<=1000) then (match dzs [] ds es with
   | some kvs=>.ok (.ref M2.length) (M2++[.dct kvs])
   | none=>.bad) else .bad
  | _,_=>.bad
 | .jh a c,σ,M=>(ev Φ a σ M).bind fun x M1=>match x with
  | .iP k=>.ok (.bl (match c with | some c=>Φ.sub k c | none=>true)) M1
  | _=>.bad
 | .Ef ct a es,σ,M=>(ev Φ a σ M).bind fun x M1=>if (rH M1 x).isSome then (bX Φ es σ M1).bind fun ds M2=>HG ct M2 x ds else .bad
 | .Mz a,σ,M=>(ev Φ a σ M).bind fun x M1=>match (rH M1 x).bind maxOf with
  | some m=>.ok (.int m) M1
  | none=>.bad
 | .bad,_,_=>.bad
noncomputable def bX (Φ:aL):Es->Sg->MH->R (List D)
 | .nil,_,M=>.ok [] M
 | .cons e es,σ,M=>(ev Φ e σ M).bind fun x M1=>(bX Φ es σ M1).bind fun xs M2=>.ok (x::xs) M2
noncomputable def CS (Φ:aL):O->Sg->MH->R (Option Int)
 | .none,_,M=>.ok none M
 | .some e,σ,M=>(ev Φ e σ M).bind fun x M1=>match x with
  | .int i=>.ok (some i) M1
  | _=>.bad
noncomputable def oh (Φ:aL):O->Sg->MH->R D
 | .none,_,M=>.ok (.bl true) M
 | .some e,σ,M=>ev Φ e σ M
noncomputable def b3 (Φ:aL):Src->Sg->MH->R (D×List D×Bool)
 | .e a,σ,M=>(ev Φ a σ M).bind fun x M1=>match itemsOf M1 x with
  | some ds=>.ok (x,ds,wk M1 x) (walk M1 x)
  | none=>.bad
 | .iO a,σ,M=>(ev Φ a σ M).bind fun x M1=>match x with
  | .int j=>if jz j then .ok (.ao,eG 0 j,false) M1 else .bad
  | _=>.bad
 | .FG a b,σ,M=>(ev Φ a σ M).bind fun x M1=>(ev Φ b σ M1).bind fun y M2=>match jv x,jv y with
  | some i,some j=>if jz i&&jz j then .ok (.ao,eG i j,false) M2 else .bad
  | _,_=>.bad
 | .enum a,σ,M=>.bad
 | .Cp a,σ,M=>(ev Φ a σ M).bind fun x M1=>match x with
  | .lst ds=>.ok (.ao,ds,false) M1
  | _=>.bad
 | .rev a,σ,M=>(ev Φ a σ M).bind fun x M1=>match pR x with
  | some ds=>.ok (.ao,ds.reverse,false) M1
  | none=>.bad
 | .FE a b,σ,M=>(ev Φ a σ M).bind fun x M1=>(ev Φ b σ M1).bind fun y M2=>match jv x,jv y with
  | some i,some j=>if jz i&&jz j then .ok (.ao,tL i j,false) M2 else .bad
  | _,_=>.bad
 | .zip a b,σ,M=>(ev Φ a σ M).bind fun x M1=>(ev Φ b σ M1).bind fun y M2=>match pR x,pR y with
  | some ds,some es=>.ok (.ao,Jq ds es,false) M2
  | _,_=>.bad
end
noncomputable def cB:D->Bool
 | .str x=>decide (x.length<=100000)
 | .int i=>decide (i.natAbs<18446744073709551616)
 | _=>false
noncomputable def CU (Φ:aL):Es->Sg->MH->R Unit
 | .nil,_,M=>.ok () M
 | .cons e es,σ,M=>(ev Φ e σ M).bind fun x M1=>if cB x then CU Φ es σ M1 else .bad
noncomputable def GK (f:Sg->Sg):R Out->R Out
 | .ok (.nx σ) M=>.ok (.nx (f σ)) M
 | _=>.bad
@[simp] theorem noX_ok {f:Sg->Sg} {σ:Sg} {M:MH}:GK f (.ok (.nx σ) M)=.ok (.nx (f σ)) M:=rfl
mutual
noncomputable def ex (Φ:aL):S->Sg->MH->R Out
 | .set i e,σ,M=>(ev Φ e σ M).use σ fun x M1=>.ok (.nx (σ.set i (some x))) M1
 | .qL a b e,σ,M=>(ev Φ e σ M).use σ fun x M1=>(ev Φ a σ M1).use σ fun y M2=>(ev Φ b σ M2).use σ fun z M3=>(mS M3 y z x).use σ fun _ M4=>.ok (.nx σ) M4
 | .bN a f e,σ,M=>(ev Φ e σ M).use σ fun x M1=>(ev Φ a σ M1).use σ fun y M2=>match y with
  | .ref n=>match M2[n]? with
   | some (.ins c fs)=>if decide (fs.length<1000) then .ok (.nx σ) (M2.set n (.ins c (bB f x fs))) else .bad
   | _=>.bad
  | _=>.bad
 | .Dy tg e,σ,M=>(ev Φ e σ M).use σ fun x M1=>match sets tg M1 x σ with
  | some σ1=>.ok (.nx σ1) M1
  | none=>.bad
 | .ex e,σ,M=>(ev Φ e σ M).use σ fun _ M1=>.ok (.nx σ) M1
 | .ret e,σ,M=>(ev Φ e σ M).use σ fun x M1=>.ok (.rt x) M1
 | .FH,_,M=>.ok (.rt .ao) M
 | .ifs c a b,σ,M=>(ev Φ c σ M).use σ fun t M1=>match t with
  | .bl true=>exs Φ a σ M1
  | .bl false=>exs Φ b σ M1
  | _=>.bad
 | .for tg it b,σ,M=>(b3 Φ it σ M).use σ fun p M1=>(bC (exs Φ b) tg (aN M1 p.1) p.2.1 σ M1).fin (fu p.2.2 p.1)
 | .while c b,σ,M=>bI (ev Φ c) (exs Φ b) Φ.turns σ M
 | .brk,σ,M=>.ok (.bk σ) M
 | .cont,σ,M=>.ok (.ct σ) M
 | .pass,σ,M=>.ok (.nx σ) M
 | .raise c es,σ,M=>(CU Φ es σ M).use σ fun _ M1=>.ok (.xc c σ) M1
 | .try b hs els,σ,M=>(exs Φ b σ M).bind fun o M1=>match o with
  | .nx σ1=>exs Φ els σ1 M1
  | .xc c σ1=>ux Φ hs c σ1 M1
  | o=>.ok o M1
 | .bad,_,_=>.bad
noncomputable def exs (Φ:aL):Ss->Sg->MH->R Out
 | .nil,σ,M=>.ok (.nx σ) M
 | .cons s ss,σ,M=>(ex Φ s σ M).bind fun o M1=>match o with
  | .nx σ1=>exs Φ ss σ1 M1
  | o=>.ok o M1
noncomputable def ux (Φ:aL):Hs->Nat->Sg->MH->R Out
 | .nil,_,_,_=>.bad
 | .cons cs b hs,c,σ,M=>if cs.any (fun d=>Φ.sub c d) then GK id (exs Φ b σ M) else ux Φ hs c σ M
 | .as d i b hs,c,σ,M=>if Φ.sub c d then GK (fun σ=>σ.set i none) (exs Φ b (σ.set i (some (.iP c))) M) else ux Φ hs c σ M
end
mutual
noncomputable def nr (m:Nat):D->Bool
 | .ref n=>decide (n<m)
 | .tup ds=>qZ m ds
 | .lst ds=>qZ m ds
 | .dct _ ds=>qZ m ds
 | .ao=>true
 | .bl _=>true
 | .int _=>true
 | .str _=>true
 | .iP _=>true
noncomputable def qZ (m:Nat):List D->Bool
 | []=>true
 | d::ds=>nr m d&&qZ m ds
end
structure Fn where
 np:Nat
 ns:Nat
 kO:List D
 keep:Bool
 body:Ss
noncomputable def fE (keep:Bool) (M:MH) (d:D) (M':MH):R D :=
 if keep=false/\M'.take M.length=M then
  (if nr M.length d then .ok d M else match d with
   | .ref k=>match M'[k]? with
    | some (.lst ds)=>if qZ M.length ds then .ok (.lst ds) M else .ok d M'
    | _=>.ok d M'
   | _=>.ok d M')
 else .ok d M'
noncomputable def o6 (M:MH) (c:Nat) (M':MH):R D:=if M'.take M.length=M then .exc c M else .exc c M'
structure kU where
 fn:Nat->Option Fn
 glob:Nat->Option D
 turns:Nat
 sub:Nat->Nat->Bool
noncomputable def j5 (Φ:aL) (f:Fn) (ds:List D) (M:MH):R D :=
 if decide (ds.length<=f.np)&&decide (f.np<=ds.length+f.kO.length) then
  match exs Φ f.body ((ds++f.kO.drop (ds.length+f.kO.length-f.np)).map some++List.replicate (f.ns-f.np) none) M with
  | .ok (.rt d) M'=>fE f.keep M d M'
  | .ok (.nx _) M'=>fE f.keep M .ao M'
  | .ok (.xc c _) M'=>o6 M c M'
  | _=>.bad
 else .bad
noncomputable def aa (P:kU):Nat->aL
 | 0=>⟨fun _ _ _=>.bad,fun _ _ _=>.bad,P.glob,P.turns,P.sub⟩
 | k+1=>⟨fun f ds M=>match P.fn f with
  | some fn=>j5 (aa P k) fn ds M
  | none=>.bad,(aa P k).call,P.glob,P.turns,P.sub⟩
end Fg
end
section
set_option autoImplicit false
namespace Fg
open PySem PySem.Spec L2
noncomputable def GI:Nat->List Obj->W.Frag
 | _,[]=>[]
 | n,o::os=>bif o.alive then (n,o)::GI (n+1) os else GI (n+1) os
theorem yg:∀ {os:List Obj} {n a:Nat} {o:Obj},(GI n os).lookup a=some o->n<=a/\os[a-n]? = some o/\o.alive=true
 | [],_,_,_,h=>by cases h
 | x::os,n,a,o,h=>by
  have up:(GI (n+1) os).lookup a=some o->n<=a/\(x::os)[a-n]? = some o/\o.alive=true:=fun h=>by
   obtain ⟨h1,h2,h3⟩:=yg h
   refine ⟨by omega,?_,h3⟩
   rw [show a-n=(a-(n+1))+1 by omega,List.getElem?_cons_succ]
   exact h2
  unfold GI at h
  cases hx:x.alive with
  | false=>rw [hx] at h;exact up h
  | true =>
   rw [hx] at h
   replace h:((n,x)::GI (n+1) os).lookup a=some o:=h
   rw [List.lookup_cons] at h
   cases e:a == n with
   | true =>
    rw [e] at h
    cases h
    have:=beq_iff_eq.mp e
    subst this
    exact ⟨Nat.le_refl _,by simp,hx⟩
   | false =>
    rw [e] at h
    exact up h
noncomputable def allOf (h:Heap):W.Frag:=GI 0 h.objs.toList
theorem Aw (h:Heap):(allOf h).In h:=fun a o e=>by
 obtain ⟨_,h1,h2⟩:=yg e
 rw [Nat.sub_zero,Array.getElem?_toList] at h1
 exact (Heap.get?_eq_some h a o).mpr ⟨h1,h2⟩
structure Row where
 x:Str
 ql:Str
 st:Stmt
 ps:List Str
 N:List Str
 i:Nat
 kO:Option Int:=none
structure Tb where
 fn:List Row
 cl:List Str
 mt:List (Nat×Row)
 xc:List Str
 cs:List (Str×Nat×Int)
 bl:List Str
 fl:List Str
 ct:List (Str×Nat×List Str):=[]
 cd:List (Str×Nat×List (Str×Int)):=[]
 n9:List Str:=[]
noncomputable def adr (K:W.Frag) (x:Str):Option Addr:=match W.nsIn K mainGlobals x with
 | some (some (.ref a))=>some a
 | _=>none
noncomputable def jc (K:W.Frag):Value->Option (Option Int)
 | .none=>some none
 | .ref T=>(match K.lookup T with
  | some ⟨_,_,.seq its _,_⟩=>(match its.toList with
   | [.int d _]=>some (some d)
   | _=>none)
  | _=>none)
 | _=>none
noncomputable abbrev AA:=Str×Str×Arguments×FuncBody×Scope×Addr×List (Str×Addr)×Addr×Option (Option Int)×Bool
noncomputable def pU (K:W.Frag) (f:Addr):Option AA:=match K.lookup f with
 | some ⟨_,_,.func fd,_⟩=>some (fd.name,fd.qualname,fd.params,fd.body,fd.scope,fd.globals,fd.closure,fd.builtins,jc K fd.defaults,W.codeIn K fd.code fd.qualname)
 | _=>none
noncomputable def Row.good (r:Row):AA:=(r.x,r.ql,iI r.st,.stmts (b9 r.st),aD r.st,mainGlobals,[],builtinsNs,some r.kO,true)
noncomputable abbrev IZ:=Bool×Bool×Bool×Option (Option Value)×Bool×Bool×List (Option (Option Value))
noncomputable def nP (t:Tb) (K:W.Frag) (C:Addr):IZ:=(W.plainGet K C Str.empty, W.hasDictIn K C, W.plainOver K C, W.findIn K (.ref C) "__setattr__", W.makesIn K C, W.keepIn K (.ref C), t.fl.map (W.findIn K (.ref C)))
noncomputable def jR (t:Tb):IZ:=(true, true, true, some (some (.builtin "object.__setattr__")), true, true, t.fl.map fun _=>some none)
noncomputable def yq (t:Tb) (K:W.Frag) (r:Nat×Row):Option (AA×Bool):=((t.cl[r.1]?).bind (adr K)).bind fun C=>match W.findIn K (.ref C) r.2.x with
 | some (some (.ref f))=>(pU K f).map fun z=>(z,W.isFn K (.ref f))
 | _=>none
noncomputable abbrev LZ:=Bool×Option Bool×List (Option Bool)×List (Option (Option Value))×Option Bool×Option Bool×Bool×Option Bool×List (Option Bool)
noncomputable def BMV:List Value:=[.type "ValueError", .type "Exception", .type "BaseException", .type "object"]
noncomputable def zE (t:Tb) (K:W.Frag) (X:Addr):LZ:=(W.excIn K X BMV "ValueError.__new__", W.mroIn K X (.type "BaseException"), t.xc.map fun y=>(adr K y).bind fun Y=>W.mroIn K X (.ref Y),
 [W.findIn K (.ref X) "__getattribute__", W.findIn K (.ref X) "__getattr__", W.findIn K (.ref X) "__class__", W.specialIn K (.builtin "object.__class__") "__get__"], W.takesIn K (.builtin "object.__class__"), W.mroIn K X (.type "object"), (W.clsIn K X).isSome, W.kitOne K (.ref X) (.type "ValueError"), t.xc.map fun y=>(adr K y).bind fun Y=>W.kitOne K (.ref X) (.ref Y))
noncomputable def z8 (K:W.Frag) (x:Str):Option Int:=match W.nsIn K mainGlobals x with
 | some (some (.int n _))=>some n
 | _=>none
noncomputable def strOf:Value->Option Str
 | .str x _=>some x
 | _=>none
noncomputable def intOf:Value->Option Int
 | .int n _=>some n
 | _=>none
noncomputable abbrev L4:=Value×List (Option Str)
noncomputable def wW (K:W.Frag) (a:Addr):Option L4:=match K.lookup a with
 | some ⟨c,_,.seq its _,_⟩=>some (c,its.toList.map strOf)
 | _=>none
noncomputable abbrev IY:=Value×Option Addr×Array (Option Value)×Bool×List (Int×Option Str×Option Int)
noncomputable def z7 (K:W.Frag) (a:Addr):Option IY:=match K.lookup a with
 | some ⟨c,d,.dict es _,sl⟩=>some (c,d,sl,a == sysModules,es.toList.map fun e=>(e.hash,strOf e.key,intOf e.val))
 | _=>none
noncomputable def uN (w:World) (kvs:List (Str×Int)):IY:=(.type "dict", none, #[], false, kvs.map fun z=>(PyData.keyHash w.params z.1, some z.1, some z.2))
noncomputable abbrev IQ:=List (Option AA)×List (Option IZ)×List (Option (AA×Bool))×List (Option LZ)×List (Option Int)×List (Option (Option Value))×List (Option L4)×List (Option IY)
noncomputable def Tb.qw (t:Tb) (K:W.Frag):IQ:=(t.fn.map fun r=>(adr K r.x).bind (pU K),t.cl.map fun x=>(adr K x).map (nP t K),t.mt.map (yq t K),t.xc.zipIdx.map fun x=>(adr K x.1).map (zE t K),t.cs.map fun c=>z8 K c.1,t.bl.map (W.nsIn K mainGlobals),t.ct.map fun c=>(adr K c.1).bind (wW K),t.cd.map fun c=>(adr K c.1).bind (z7 K))
noncomputable def Tb.good (t:Tb) (P:kU) (w:World):IQ:=(t.fn.map fun r=>some r.good, t.cl.map fun _=>some (jR t), t.mt.map fun r=>some (r.2.good, true), t.xc.zipIdx.map fun x=>some (true, some true, t.xc.zipIdx.map fun y=>some (P.sub x.2 y.2), [some (some (.builtin "BaseException.__getattribute__")), some none, some (some (.builtin "object.__class__")), some (some (.builtin "getset_descriptor.__get__"))], some true, some true, true, some true, t.xc.zipIdx.map fun y=>some (P.sub x.2 y.2)), t.cs.map fun c=>some c.2.2, t.bl.map fun _=>some none, t.ct.map fun c=>some (.type "tuple", c.2.2.map some), t.cd.map fun c=>some (uN w c.2.2))
noncomputable def Tb.hook (t:Tb) (P:kU):W.Hook:=⟨IQ,fun s=>t.qw (allOf s.heap),fun w=>t.good P w,fun w h=>∃ K:W.Frag,K.In h/\t.qw K=t.good P w,fun _ s e=>⟨_,Aw s.heap,e⟩,fun _ _ _ ⟨K,X,e⟩ k=>⟨K,X.keeps k,e⟩⟩
end Fg
end
section
namespace Fg
open PySem PySem.W
section
variable {p:Program} {w:World} {n₀:Nat} {ann:Option Value}
noncomputable def AV (ok:Nat->Option Value->Thread->Bool) (st:SharedT->Thread->Option (SharedT×Thread)) (n₀:Nat) (ann:Option Value):Nat->SharedT->Thread->Option SharedT
 | 0,_,_=>none
 | n+1,s,t=>match through t with
  | true=>some s
  | false=>match ok n₀ ann t with
   | false=>none
   | true=>match st s t with
    | some (s',t')=>AV ok st n₀ ann n s' t'
    | none=>none
theorem sP:∀ {n:Nat} {s s':SharedT} {t:Thread},AV stepOk (stepT (denote treeTable) p w) n₀ ann n s t=some s'->topRun treeTable p w n₀ ann n s.abs t=some s'.abs
 | 0,_,_,_,h=>by cases h
 | n+1,s,s',t,h=>by
  unfold AV at h
  unfold topRun
  cases he:through t with
  | true=>rw [he] at h;cases h;rfl
  | false =>
   rw [he] at h
   cases hk:stepOk n₀ ann t with
   | false=>rw [hk] at h;cases h
   | true =>
    rw [hk] at h
    cases hs:stepT (denote treeTable) p w s t with
    | none=>rw [hs] at h;cases h
    | some r=>obtain ⟨s₂,t₂⟩:=r;rw [hs] at h;rw [stepT_spec hs];exact sP h
end
noncomputable def ofLT:List Obj->Nat->BT->BT
 | [],_,t=>t
 | o::l,i,t=>ofLT l (i+1) (t.ins i o)
noncomputable def EL (w:World) (os:OsState):SharedT:=⟨ofLT (boot_heap w.params).objs.toList 0 .nil,11,(boot_heap w.params).life,Array.mk [],boot_drawn,boot_toks,os⟩
theorem wo (w:World) (os:OsState):(EL w os).abs=⟨boot_heap w.params,Array.mk [],boot_drawn,boot_toks,os⟩:=by kernel_rfl
noncomputable def AU (p:Program) (w:World) (os:OsState):Option SharedT:=AV Fast.tw6613529449190102663 (Fast.tw10156331382660048174 (Fast.tw11892475500146522536 Fast.tw14364793385576792824) p w) 11 (some (.ref 6)) 20000 (EL w os) (topStub p)
theorem AS {p:Program} {w:World} {os:OsState} {s':SharedT} (h:AU p w os=some s'):topRun treeTable p w 11 (some (.ref 6)) 20000 ⟨boot_heap w.params,Array.mk [],boot_drawn,boot_toks,os⟩ (topStub p)=some s'.abs:=by
 unfold AU at h
 rw [<- Fast.te6613529449190102663,<- Fast.te10156331382660048174,<- Fast.te11892475500146522536,<- Fast.te14364793385576792824] at h
 rw [<- wo]
 exact sP h
noncomputable def yM (p:Program) (w:World) (s:Shared):Bool:=staticsOk (importedModules p.main.body) (boot_heap w.params) s.heap&&namesBound p s.heap&&gensDone s&&laidKept (boot_heap w.params) s.heap
theorem Dg (w:World):((boot_heap w.params).isNs mainGlobals, (boot_heap w.params).nsMap mainGlobals "__annotations__")=(true, some (.ref 6)):=by kernel_rfl
theorem vM {p q:Program} {loose:List Str} {Xt:Shared->Bool} {α:Type} {Yf:Shared->α} {Ya:World->α} (e:opening p=plainProg p.main.scope.names) (f:∀ s,fenceModules? p s=some s)
  (h:∀ w os,(AU p w os).map (fun s=>(yM p w s.abs,openSeen q loose (importedModules p.main.body) Xt true s.abs,Yf s.abs))=some (true,openGood q loose,Ya w)):LeftO p q loose Xt Yf Ya 20000:=fun w=>by
 obtain ⟨⟨heap,gens,drawn,toks,os⟩,a,b⟩:=Option.map_eq_some_iff.mp (boot_open (N:=20000) e (by decide) f w)
 simp only [Prod.mk.injEq] at b
 obtain ⟨rfl,rfl,rfl,rfl⟩:=b
 obtain ⟨s,h1,h2⟩:=Option.map_eq_some_iff.mp (h w os)
 simp only [Prod.mk.injEq] at h2
 obtain ⟨h2,h3,h4⟩:=h2
 have h5:=AS h1
 have h6:=Dg w
 simp only [Prod.mk.injEq] at h6
 have h7:topFrom treeTable p w 20000 ⟨boot_heap w.params,Array.mk [],boot_drawn,boot_toks,os⟩=some s.abs:=by
  unfold topFrom
  have hb:((boot_heap w.params).isNs mainGlobals&&(Array.mk []:Array GenState).size == 0)=true:=by rw [h6.1];rfl
  simp only [hb]
  have hn:(boot_heap w.params).objs.size=11:=by kernel_rfl
  rw [hn,h6.2,h5]
  show (match yM p w s.abs with | true=>some s.abs | false=>none)=_
  rw [h2]
 unfold openEnds
 rw [a]
 show (topFrom treeTable p w 20000 _).map _=_
 rw [h7]
 show some (openSeen q loose (importedModules p.main.body) Xt true s.abs,Yf s.abs)=_
 rw [h3,h4]
end Fg
end
section
namespace bK
open Fg
noncomputable def jC:List PySem.Str:=["value"]
noncomputable def i7:Fn:=⟨1,1,[],false,
 (.cons (.ifs (.CF (.v 0) .tuple) (.cons (.ret (.idx (.v 0) (.k (.int 1))))
 .nil) .nil)
 (.cons (.ret (.k (.int 1)))
 .nil))⟩
noncomputable def jG:List PySem.Str:=["word", "first", "second", "size"]
noncomputable def gh:Fn:=⟨3,4,[],false,
 (.cons (.set 3 (.op .add true (.op .add true (.k (.int 1)) (.call 0 (.cons (.v 1) .nil))) (.call 0 (.cons (.v 2) .nil))))
 (.cons (.ifs (.cmp .gt (.v 3) (.g 0)) (.cons (.raise 5 (.cons (.v 0) (.cons (.v 3) .nil)))
 .nil) .nil)
 (.cons (.ret (.tup (.cons (.v 0) (.cons (.v 3) (.cons (.v 1) (.cons (.v 2) .nil))))))
 .nil)))⟩
noncomputable def dG:List PySem.Str:=["number"]
noncomputable def cU:Fn:=⟨1,1,[],false,
 (.cons (.ifs (.cmp .ge (.pV .abs (.v 0)) (.op .pow true (.k (.int 10)) (.k (.int 60)))) (.cons (.raise 5 .nil)
 .nil) .nil)
 .nil)⟩
noncomputable def i8:List PySem.Str:=["word", "first", "second", "number"]
noncomputable def gJ:Fn:=⟨3,4,[],false,
 (.cons (.ifs (.cmp .eq (.v 0) (.k (.str "less"))) (.cons (.ret (.AF (.cmp .lt (.v 1) (.v 2)) (.k (.int 1)) (.k (.int 0))))
 .nil) .nil)
 (.cons (.ifs (.cmp .eq (.v 0) (.k (.str "plus"))) (.cons (.set 3 (.op .add true (.v 1) (.v 2)))
 .nil) (.cons (.ifs (.cmp .eq (.v 0) (.k (.str "minus"))) (.cons (.set 3 (.op .sub true (.v 1) (.v 2)))
 .nil) (.cons (.set 3 (.op .mul true (.v 1) (.v 2)))
 .nil))
 .nil))
 (.cons (.ex (.call 2 (.cons (.v 3) .nil)))
 (.cons (.ret (.v 3))
 .nil))))⟩
noncomputable def iz:List PySem.Str:=["word", "value"]
noncomputable def fU:Fn:=⟨2,2,[],false,
 (.cons (.ifs (.cmp .wJ (.v 1) (.k .ao)) (.cons (.raise 6 (.cons (.v 0) .nil))
 .nil) .nil)
 (.cons (.ifs (.cmp .isin (.v 0) (.tup (.cons (.k (.str "first")) (.cons (.k (.str "head")) .nil)))) (.cons (.ret (.idx (.v 1) (.k (.int 2))))
 .nil) .nil)
 (.cons (.ret (.idx (.v 1) (.k (.int 3))))
 .nil)))⟩
noncomputable def nC:List PySem.Str:=["value", "members"]
noncomputable def zB:Fn:=⟨1,2,[],false,
 (.cons (.ifs (.CF (.v 0) .int) (.cons (.ret (.v 0))
 .nil) .nil)
 (.cons (.ifs (.and (.cmp .kh (.v 0) (.k .ao)) (.cmp .eq (.idx (.v 0) (.k (.int 0))) (.k (.str "pair")))) (.cons (.ret (.tup (.cons (.call 5 (.cons (.idx (.v 0) (.k (.int 2))) .nil)) (.cons (.call 5 (.cons (.idx (.v 0) (.k (.int 3))) .nil)) .nil))))
 .nil) .nil)
 (.cons (.set 1 (.lst false .nil))
 (.cons (.while (.cmp .kh (.v 0) (.k .ao)) (.cons (.ex (.bh .append true (.v 1) (.cons (.call 5 (.cons (.idx (.v 0) (.k (.int 2))) .nil)) .nil)))
 (.cons (.set 0 (.idx (.v 0) (.k (.int 3))))
 .nil)))
 (.cons (.ret (.v 1))
 .nil)))))⟩
noncomputable def eO:List PySem.Str:=["begun", "under_way", "most"]
noncomputable def dY:Fn:=⟨3,3,[],false,
 (.cons (.ifs (.cmp .gt (.op .add true (.v 0) (.k (.int 1))) (.v 2)) (.cons (.raise 7 .nil)
 .nil) .nil)
 (.cons (.ifs (.cmp .gt (.op .add true (.v 1) (.k (.int 1))) (.g 1)) (.cons (.raise 8 (.cons (.g 1) .nil))
 .nil) .nil)
 .nil))⟩
noncomputable def pZ:List PySem.Str:=["code", "numbers", "most", "machine", "outer", "value", "field"]
noncomputable def p9:Fn:=⟨3,7,[],false,
 (.cons (.set 3 (.new 1 9 (.cons (.idx (.v 0) (.k (.int 0))) (.cons (.v 2) .nil))))
 (.cons (.set 4 (.comp true [3] [1] (.cM 1 10 "open_field" (.v 0) .nil) (.iO (.idx (.v 0) (.k (.int 2)))) .none))
 (.cons (.ex (.bh .append true (.fld (.v 3) "frames") (.cons (.new 0 8 (.cons (.blt .list false (.cons (.v 1) .nil)) (.cons (.blt .list false (.cons (.v 4) .nil)) (.cons (.k .ao) .nil)))) .nil)))
 (.cons (.bN (.v 3) "place" (.idx (.v 0) (.k (.int 1))))
 (.cons (.while (.cmp .ne (.fld (.v 3) "frames") (.lst true .nil)) (.cons (.ex (.cM 1 19 "step" (.v 3) .nil))
 .nil))
 (.cons (.set 5 (.cM 1 21 "answer" (.v 3) .nil))
 (.cons (.for [6] (.rev (.v 4)) (.cons (.ex (.cM 1 11 "shut_field" (.v 3) (.cons (.v 6) .nil)))
 .nil))
 (.cons (.ret (.tup (.cons (.v 5) (.cons (.fld (.v 3) "log") .nil))))
 .nil))))))))⟩
noncomputable def eV:List PySem.Str:=["self", "known", "fields", "behind_call"]
noncomputable def d8:Fn:=⟨4,4,[],false,
 (.cons (.bN (.v 0) "known" (.v 1))
 (.cons (.bN (.v 0) "fields" (.v 2))
 (.cons (.bN (.v 0) "behind_call" (.v 3))
 .nil)))⟩
noncomputable def dH:List PySem.Str:=["self", "rows", "most"]
noncomputable def cY:Fn:=⟨3,3,[],false,
 (.cons (.bN (.v 0) "rows" (.v 1))
 (.cons (.bN (.v 0) "most" (.v 2))
 (.cons (.bN (.v 0) "begun" (.k (.int 0)))
 (.cons (.bN (.v 0) "place" (.k (.int 0)))
 (.cons (.bN (.v 0) "pile" (.lst false .nil))
 (.cons (.bN (.v 0) "frames" (.lst false .nil))
 (.cons (.bN (.v 0) "lies_open" (.lst false .nil))
 (.cons (.bN (.v 0) "log" (.lst false .nil))
 .nil))))))))⟩
noncomputable def cX:List PySem.Str:=["self", "field"]
noncomputable def cy:Fn:=⟨1,2,[],false,
 (.cons (.set 1 (.blt .len true (.cons (.fld (.v 0) "lies_open") .nil)))
 (.cons (.ex (.bh .append true (.fld (.v 0) "lies_open") (.cons (.k (.bl true)) .nil)))
 (.cons (.ex (.bh .append true (.fld (.v 0) "log") (.cons (.tup (.cons (.k (.str "open")) (.cons (.v 1) .nil))) .nil)))
 (.cons (.ret (.v 1))
 .nil))))⟩
noncomputable def cW:List PySem.Str:=["self", "field"]
noncomputable def cu:Fn:=⟨2,2,[],false,
 (.cons (.qL (.fld (.v 0) "lies_open") (.v 1) (.k (.bl false)))
 (.cons (.ex (.bh .append true (.fld (.v 0) "log") (.cons (.tup (.cons (.k (.str "shut")) (.cons (.v 1) .nil))) .nil)))
 .nil))⟩
noncomputable def c8:List PySem.Str:=["self", "field"]
noncomputable def cF:Fn:=⟨2,2,[],false,
 (.cons (.ifs (.not (.idx (.fld (.v 0) "lies_open") (.v 1))) (.cons (.raise 9 (.cons (.v 1) .nil))
 .nil) .nil)
 .nil)⟩
noncomputable def gq:List PySem.Str:=["self", "word", "field", "second", "first", "cell"]
noncomputable def gA:Fn:=⟨3,6,[],false,
 (.cons (.set 3 (.bh .pop true (.fld (.v 0) "pile") .nil))
 (.cons (.set 4 (.bh .pop true (.fld (.v 0) "pile") .nil))
 (.cons (.set 5 (.call 1 (.cons (.v 1) (.cons (.v 4) (.cons (.v 3) .nil)))))
 (.cons (.ex (.cM 1 12 "want_open" (.v 0) (.cons (.v 2) .nil)))
 (.cons (.ex (.bh .append true (.fld (.v 0) "log") (.cons (.tup (.cons (.k (.str "lay")) (.cons (.v 2) .nil))) .nil)))
 (.cons (.ex (.bh .append true (.fld (.v 0) "pile") (.cons (.op .add true (.v 5) (.tup (.cons (.v 2) .nil))) .nil)))
 .nil))))))⟩
noncomputable def fW:List PySem.Str:=["self", "word", "cell", "found"]
noncomputable def fX:Fn:=⟨2,4,[],false,
 (.cons (.set 2 (.bh .pop true (.fld (.v 0) "pile") .nil))
 (.cons (.set 3 (.call 4 (.cons (.v 1) (.cons (.v 2) .nil))))
 (.cons (.ex (.cM 1 12 "want_open" (.v 0) (.cons (.idx (.v 2) (.k (.int 4))) .nil)))
 (.cons (.ex (.bh .append true (.fld (.v 0) "log") (.cons (.tup (.cons (.k (.str "look")) (.cons (.idx (.v 2) (.k (.int 4))) .nil))) .nil)))
 (.cons (.ex (.bh .append true (.fld (.v 0) "pile") (.cons (.v 3) .nil)))
 .nil)))))⟩
noncomputable def eS:List PySem.Str:=["self", "word", "second", "first"]
noncomputable def dZ:Fn:=⟨2,4,[],false,
 (.cons (.set 2 (.bh .pop true (.fld (.v 0) "pile") .nil))
 (.cons (.set 3 (.bh .pop true (.fld (.v 0) "pile") .nil))
 (.cons (.ex (.bh .append true (.fld (.v 0) "pile") (.cons (.call 3 (.cons (.v 1) (.cons (.v 3) (.cons (.v 2) .nil)))) .nil)))
 .nil)))⟩
noncomputable def fJ:List PySem.Str:=["self", "row", "frame"]
noncomputable def fj:Fn:=⟨2,3,[],false,
 (.cons (.set 2 (.idx (.fld (.v 0) "frames") (.neg (.k (.int 1)))))
 (.cons (.ifs (.cmp .eq (.idx (.v 1) (.k (.int 0))) (.k (.str "number"))) (.cons (.ex (.bh .append true (.fld (.v 0) "pile") (.cons (.idx (.v 1) (.k (.int 1))) .nil)))
 .nil) (.cons (.ifs (.cmp .eq (.idx (.v 1) (.k (.int 0))) (.k (.str "local"))) (.cons (.ex (.bh .append true (.fld (.v 0) "pile") (.cons (.idx (.fld (.v 2) "known") (.idx (.v 1) (.k (.int 1)))) .nil)))
 .nil) (.cons (.ifs (.cmp .eq (.idx (.v 1) (.k (.int 0))) (.k (.str "keep"))) (.cons (.ex (.bh .append true (.fld (.v 2) "known") (.cons (.bh .pop true (.fld (.v 0) "pile") .nil) .nil)))
 .nil) (.cons (.ex (.bh .pop true (.fld (.v 2) "known") .nil))
 .nil))
 .nil))
 .nil))
 .nil))⟩
noncomputable def gO:List PySem.Str:=["self", "row"]
noncomputable def iF:Fn:=⟨2,2,[],false,
 (.cons (.ifs (.cmp .eq (.idx (.v 1) (.k (.int 0))) (.k (.str "jump"))) (.cons (.bN (.v 0) "place" (.idx (.v 1) (.k (.int 1))))
 .nil) (.cons (.ifs (.cmp .eq (.idx (.v 1) (.k (.int 0))) (.k (.str "call"))) (.cons (.ex (.cM 1 18 "enter" (.v 0) (.cons (.idx (.v 1) (.k (.int 1))) (.cons (.idx (.v 1) (.k (.int 2))) (.cons (.idx (.v 1) (.k (.int 3))) .nil)))))
 .nil) (.cons (.ifs (.cmp .eq (.idx (.v 1) (.k (.int 0))) (.k (.str "back"))) (.cons (.bN (.v 0) "place" (.fld (.bh .pop true (.fld (.v 0) "frames") .nil) "behind_call"))
 .nil) (.cons (.ifs (.cmp .eq (.bh .pop true (.fld (.v 0) "pile") .nil) (.k (.int 0))) (.cons (.bN (.v 0) "place" (.idx (.v 1) (.k (.int 1))))
 .nil) .nil)
 .nil))
 .nil))
 .nil))
 .nil)⟩
noncomputable def fH:List PySem.Str:=["self", "begin", "many", "numbers", "given", "fields"]
noncomputable def fh:Fn:=⟨4,6,[],false,
 (.cons (.ex (.call 6 (.cons (.fld (.v 0) "begun") (.cons (.op .sub true (.blt .len true (.cons (.fld (.v 0) "frames") .nil)) (.k (.int 1))) (.cons (.fld (.v 0) "most") .nil)))))
 (.cons (.bN (.v 0) "begun" (.op .add false (.fld (.v 0) "begun") (.k (.int 1))))
 (.cons (.set 4 (.comp false [0] [1] (.bh .pop true (.fld (.v 0) "pile") .nil) (.iO (.v 2)) .none))
 (.cons (.ex (.bh .reverse true (.v 4) .nil))
 (.cons (.set 5 (.fld (.idx (.fld (.v 0) "frames") (.neg (.k (.int 1)))) "fields"))
 (.cons (.ex (.bh .append true (.fld (.v 0) "frames") (.cons (.new 0 8 (.cons (.v 4) (.cons (.comp false [5] [1] (.idx (.v 0) (.v 1)) (.e (.v 3)) .none) (.cons (.fld (.v 0) "place") .nil)))) .nil)))
 (.cons (.bN (.v 0) "place" (.v 1))
 .nil)))))))⟩
noncomputable def fV:List PySem.Str:=["self", "row", "word"]
noncomputable def bU:Fn:=⟨1,3,[],false,
 (.cons (.set 1 (.idx (.fld (.v 0) "rows") (.fld (.v 0) "place")))
 (.cons (.bN (.v 0) "place" (.op .add false (.fld (.v 0) "place") (.k (.int 1))))
 (.cons (.set 2 (.idx (.v 1) (.k (.int 0))))
 (.cons (.ifs (.cmp .isin (.v 2) (.tup (.cons (.k (.str "number")) (.cons (.k (.str "local")) (.cons (.k (.str "keep")) (.cons (.k (.str "drop")) .nil)))))) (.cons (.ex (.cM 1 16 "carry" (.v 0) (.cons (.v 1) .nil)))
 .nil) (.cons (.ifs (.cmp .isin (.v 2) (.tup (.cons (.k (.str "jump")) (.cons (.k (.str "unless")) (.cons (.k (.str "call")) (.cons (.k (.str "back")) .nil)))))) (.cons (.ex (.cM 1 17 "go" (.v 0) (.cons (.v 1) .nil)))
 .nil) (.cons (.ifs (.cmp .isin (.v 2) (.tup (.cons (.k (.str "pair")) (.cons (.k (.str "cons")) .nil)))) (.cons (.ex (.cM 1 13 "lay" (.v 0) (.cons (.v 2) (.cons (.idx (.fld (.idx (.fld (.v 0) "frames") (.neg (.k (.int 1)))) "fields") (.idx (.v 1) (.k (.int 1)))) .nil))))
 .nil) (.cons (.ifs (.cmp .isin (.v 2) (.tup (.cons (.k (.str "first")) (.cons (.k (.str "second")) (.cons (.k (.str "head")) (.cons (.k (.str "tail")) .nil)))))) (.cons (.ex (.cM 1 14 "look" (.v 0) (.cons (.v 2) .nil)))
 .nil) (.cons (.ifs (.cmp .eq (.v 2) (.k (.str "nil"))) (.cons (.ex (.bh .append true (.fld (.v 0) "pile") (.cons (.k .ao) .nil)))
 .nil) (.cons (.ifs (.cmp .eq (.v 2) (.k (.str "none"))) (.cons (.ex (.bh .append true (.fld (.v 0) "pile") (.cons (.AF (.cmp .wJ (.bh .pop true (.fld (.v 0) "pile") .nil) (.k .ao)) (.k (.int 1)) (.k (.int 0))) .nil)))
 .nil) (.cons (.ifs (.cmp .eq (.v 2) (.k (.str "open"))) (.cons (.ex (.bh .append true (.fld (.idx (.fld (.v 0) "frames") (.neg (.k (.int 1)))) "fields") (.cons (.cM 1 10 "open_field" (.v 0) .nil) .nil)))
 .nil) (.cons (.ifs (.cmp .eq (.v 2) (.k (.str "shut"))) (.cons (.ex (.cM 1 11 "shut_field" (.v 0) (.cons (.bh .pop true (.fld (.idx (.fld (.v 0) "frames") (.neg (.k (.int 1)))) "fields") .nil) .nil)))
 .nil) (.cons (.ex (.cM 1 15 "reckon" (.v 0) (.cons (.v 2) .nil)))
 .nil))
 .nil))
 .nil))
 .nil))
 .nil))
 .nil))
 .nil))
 .nil))
 .nil))))⟩
noncomputable def ck:List PySem.Str:=["self", "value", "todo", "cell"]
noncomputable def bJ:Fn:=⟨2,4,[],false,
 (.cons (.set 2 (.lst false (.cons (.v 1) .nil)))
 (.cons (.while (.cmp .ne (.v 2) (.lst true .nil)) (.cons (.set 3 (.bh .pop true (.v 2) .nil))
 (.cons (.ifs (.CF (.v 3) .tuple) (.cons (.ex (.cM 1 12 "want_open" (.v 0) (.cons (.idx (.v 3) (.k (.int 4))) .nil)))
 (.cons (.ex (.bh .extend true (.v 2) (.cons (.sl true (.v 3) (.some (.k (.int 2))) (.some (.k (.int 4)))) .nil)))
 .nil)) .nil)
 .nil)))
 .nil))⟩
noncomputable def eU:List PySem.Str:=["self", "value"]
noncomputable def d7:Fn:=⟨1,2,[],false,
 (.cons (.set 1 (.bh .pop true (.fld (.v 0) "pile") .nil))
 (.cons (.ex (.cM 1 20 "want_all_open" (.v 0) (.cons (.v 1) .nil)))
 (.cons (.ret (.call 5 (.cons (.v 1) .nil)))
 .nil)))⟩
noncomputable def iC:List PySem.Str:=["_law_cell"]
noncomputable def jl:Fn:=⟨1,1,[],false,
 (.cons (.ret (.op .mod true (.op .mul true (.op .mul true (.op .add true (.op .mod true (.v 0) (.k (.int 2147483647))) (.k (.int 11))) (.k (.int 48271))) (.k (.int 69621))) (.k (.int 2147483629))))
 .nil)⟩
noncomputable def i9:List PySem.Str:=["_law_error", "_law_marks"]
noncomputable def kL:Fn:=⟨1,2,[],false,
 (.cons (.set 1 (.lst true (.cons (.jh (.v 0) (some 5)) (.cons (.jh (.v 0) (some 6)) (.cons (.jh (.v 0) (some 7)) .nil)))))
 (.cons (.set 1 (.op .add true (.v 1) (.lst true (.cons (.jh (.v 0) (some 8)) (.cons (.jh (.v 0) (some 9)) (.cons (.jh (.v 0) (some 4)) .nil))))))
 (.cons (.set 1 (.op .add true (.v 1) (.lst true (.cons (.jh (.v 0) (some 3)) (.cons (.jh (.v 0) (some 11)) (.cons (.jh (.v 0) (some 10)) .nil))))))
 (.cons (.set 1 (.op .add true (.v 1) (.lst true (.cons (.jh (.v 0) (some 1)) (.cons (.jh (.v 0) (some 2)) .nil)))))
 (.cons (.ifs (.or (.not (.jh (.v 0) none)) (.cmp .ne (.Ef true (.v 1) (.cons (.k (.bl true)) .nil)) (.k (.int 1)))) (.cons (.ret (.k (.str "other")))
 .nil) .nil)
 (.cons (.ret (.idx (.lst true (.cons (.k (.str "great")) (.cons (.k (.str "empty")) (.cons (.k (.str "long")) (.cons (.k (.str "deep")) (.cons (.k (.str "other")) .nil)))))) (.mx false (.k (.int 4)) (.Ef false (.v 1) (.cons (.k (.bl true)) .nil)))))
 .nil))))))⟩
noncomputable def jE:List PySem.Str:=["_law_code", "_law_numbers", "_law_fuel", "_law_word_here", "_law_found", "e"]
noncomputable def lZ:Fn:=⟨3,6,[],false,
 (.cons (.set 3 (.k (.str "told")))
 (.cons (.set 4 (.k .ao))
 (.cons (.try (.cons (.ifs (.cmp .wJ (.v 2) (.k .ao)) (.cons (.set 4 (.jt 7 (.cons (.v 0) (.cons (.v 1) .nil)) 200))
 .nil) (.cons (.set 4 (.jr 7 (.cons (.v 0) (.cons (.v 1) .nil)) (.v 2)))
 .nil))
 .nil) (.as 0 5 (.cons (.set 3 (.call 23 (.cons (.v 5) .nil)))
 .nil) .nil) .nil)
 (.cons (.ifs (.cmp .kh (.v 4) (.k .ao)) (.cons (.set 4 (.idx (.v 4) (.k (.int 0))))
 .nil) .nil)
 (.cons (.ret (.tup (.cons (.v 3) (.cons (.v 4) .nil))))
 .nil)))))⟩
noncomputable def jD:List PySem.Str:=["_law_number", "_law_side", "_law_one_here", "_law_more", "_law_word_here", "_law_other", "_law_found"]
noncomputable def lY:Fn:=⟨1,7,[],false,
 (.cons (.set 1 (.op .sub true (.k (.int 1)) (.op .mul true (.k (.int 2)) (.op .mod true (.op .fdiv true (.v 0) (.k (.int 15))) (.k (.int 2))))))
 (.cons (.set 2 (.op .mul true (.v 1) (.op .sub true (.op .sub true (.op .pow true (.k (.int 10)) (.k (.int 60))) (.k (.int 1))) (.op .mod true (.v 0) (.k (.int 3))))))
 (.cons (.set 3 (.op .sub true (.op .mod true (.op .fdiv true (.v 0) (.k (.int 3))) (.k (.int 5))) (.k (.int 1))))
 (.cons (.set 4 (.idx (.lst true (.cons (.k (.str "plus")) (.cons (.k (.str "minus")) (.cons (.k (.str "times")) .nil)))) (.op .mod true (.op .fdiv true (.v 0) (.k (.int 30))) (.k (.int 3)))))
 (.cons (.set 5 (.idx (.lst true (.cons (.op .mul true (.v 1) (.v 3)) (.cons (.op .sub true (.k (.int 0)) (.op .mul true (.v 1) (.v 3))) (.cons (.v 3) .nil)))) (.op .mod true (.op .fdiv true (.v 0) (.k (.int 30))) (.k (.int 3)))))
 (.cons (.set 6 (.idx (.lst true (.cons (.op .add true (.v 2) (.v 5)) (.cons (.op .sub true (.v 2) (.v 5)) (.cons (.op .mul true (.v 2) (.v 5)) .nil)))) (.op .mod true (.op .fdiv true (.v 0) (.k (.int 30))) (.k (.int 3)))))
 (.cons (.ret (.tup (.cons (.lst true (.cons (.tup (.cons (.k (.str "number")) (.cons (.v 2) .nil))) (.cons (.tup (.cons (.k (.str "number")) (.cons (.v 5) .nil))) (.cons (.tup (.cons (.v 4) .nil)) (.cons (.tup (.cons (.k (.str "back")) .nil)) .nil))))) (.cons (.cmp .ge (.pV .abs (.v 6)) (.op .pow true (.k (.int 10)) (.k (.int 60)))) (.cons (.v 6) .nil)))))
 .nil)))))))⟩
noncomputable def ja:List PySem.Str:=["_law_number", "_law_many", "_law_rows", "_law_k"]
noncomputable def kM:Fn:=⟨1,4,[],false,
 (.cons (.set 1 (.op .add true (.k (.int 495)) (.op .mod true (.v 0) (.k (.int 9)))))
 (.cons (.set 2 (.lst false (.cons (.tup (.cons (.k (.str "nil")) .nil)) .nil)))
 (.cons (.for [3] (.iO (.v 1)) (.cons (.ex (.bh .append true (.v 2) (.cons (.tup (.cons (.k (.str "keep")) .nil)) .nil)))
 (.cons (.ex (.bh .append true (.v 2) (.cons (.tup (.cons (.k (.str "number")) (.cons (.v 3) .nil))) .nil)))
 (.cons (.ex (.bh .append true (.v 2) (.cons (.tup (.cons (.k (.str "local")) (.cons (.v 3) .nil))) .nil)))
 (.cons (.ex (.bh .append true (.v 2) (.cons (.tup (.cons (.k (.str "cons")) (.cons (.k (.int 0)) .nil))) .nil)))
 .nil)))))
 (.cons (.set 2 (.op .add false (.v 2) (.lst true (.cons (.tup (.cons (.k (.str "none")) .nil)) (.cons (.tup (.cons (.k (.str "back")) .nil)) .nil)))))
 (.cons (.ret (.tup (.cons (.v 2) (.cons (.cmp .gt (.op .add true (.k (.int 1)) (.op .mul true (.k (.int 2)) (.v 1))) (.k (.int 1000))) (.cons (.k (.int 0)) .nil)))))
 .nil)))))⟩
noncomputable def iA:List PySem.Str:=["_law_number", "_law_many", "_law_rows", "_law_size", "_law_k"]
noncomputable def jk:Fn:=⟨1,5,[],false,
 (.cons (.set 1 (.op .add true (.k (.int 7)) (.op .mod true (.v 0) (.k (.int 4)))))
 (.cons (.set 2 (.lst true (.cons (.tup (.cons (.k (.str "nil")) .nil)) .nil)))
 (.cons (.set 3 (.k (.int 1)))
 (.cons (.for [4] (.iO (.v 1)) (.cons (.set 2 (.op .add true (.v 2) (.lst true (.cons (.tup (.cons (.k (.str "keep")) .nil)) (.cons (.tup (.cons (.k (.str "local")) (.cons (.v 4) .nil))) (.cons (.tup (.cons (.k (.str "local")) (.cons (.v 4) .nil))) (.cons (.tup (.cons (.k (.str "pair")) (.cons (.k (.int 0)) .nil))) .nil)))))))
 (.cons (.set 3 (.op .add true (.k (.int 1)) (.op .mul true (.k (.int 2)) (.v 3))))
 .nil)))
 (.cons (.set 2 (.op .add true (.v 2) (.lst true (.cons (.tup (.cons (.k (.str "keep")) .nil)) (.cons (.tup (.cons (.k (.str "number")) (.cons (.k (.int 6)) .nil))) (.cons (.tup (.cons (.k (.str "back")) .nil)) .nil))))))
 (.cons (.ret (.tup (.cons (.v 2) (.cons (.cmp .gt (.v 3) (.k (.int 1000))) (.cons (.k (.int 6)) .nil)))))
 .nil))))))⟩
noncomputable def iE:List PySem.Str:=["_law_number", "_law_rows"]
noncomputable def jm:Fn:=⟨1,2,[],false,
 (.cons (.set 1 (.op .add true (.comp true [] [0] (.tup (.cons (.k (.str "number")) (.cons (.v 0) .nil))) (.iO (.op .mod true (.v 0) (.k (.int 4)))) .none) (.lst true (.cons (.tup (.cons (.k (.str "nil")) .nil)) (.cons (.idx (.lst true (.cons (.tup (.cons (.k (.str "head")) .nil)) (.cons (.tup (.cons (.k (.str "tail")) .nil)) .nil))) (.op .mod true (.op .fdiv true (.v 0) (.k (.int 4))) (.k (.int 2)))) (.cons (.tup (.cons (.k (.str "back")) .nil)) .nil))))))
 (.cons (.ret (.cmp .eq (.call 24 (.cons (.tup (.cons (.v 1) (.cons (.k (.int 0)) (.cons (.k (.int 0)) .nil)))) (.cons (.lst true .nil) (.cons (.k .ao) .nil)))) (.tup (.cons (.k (.str "empty")) (.cons (.k .ao) .nil)))))
 .nil))⟩
noncomputable def gK:List PySem.Str:=["_law_number", "_law_many", "_law_fuel", "_law_rows", "_law_due"]
noncomputable def iB:Fn:=⟨1,5,[],false,
 (.cons (.set 1 (.op .mod true (.v 0) (.k (.int 20))))
 (.cons (.set 2 (.idx (.lst true (.cons (.k .ao) (.cons (.op .mod true (.op .fdiv true (.v 0) (.k (.int 20))) (.k (.int 20))) .nil))) (.op .mod true (.op .fdiv true (.v 0) (.k (.int 400))) (.k (.int 2)))))
 (.cons (.set 3 (.lst true (.cons (.tup (.cons (.k (.str "local")) (.cons (.k (.int 0)) .nil))) (.cons (.tup (.cons (.k (.str "call")) (.cons (.k (.int 3)) (.cons (.k (.int 1)) (.cons (.tup .nil) .nil))))) (.cons (.tup (.cons (.k (.str "back")) .nil)) (.cons (.tup (.cons (.k (.str "local")) (.cons (.k (.int 0)) .nil))) (.cons (.tup (.cons (.k (.str "unless")) (.cons (.k (.int 10)) .nil))) (.cons (.tup (.cons (.k (.str "local")) (.cons (.k (.int 0)) .nil))) (.cons (.tup (.cons (.k (.str "number")) (.cons (.k (.int 1)) .nil))) .nil)))))))))
 (.cons (.set 3 (.op .add true (.v 3) (.lst true (.cons (.tup (.cons (.k (.str "minus")) .nil)) (.cons (.tup (.cons (.k (.str "call")) (.cons (.k (.int 3)) (.cons (.k (.int 1)) (.cons (.tup .nil) .nil))))) (.cons (.tup (.cons (.k (.str "back")) .nil)) (.cons (.tup (.cons (.k (.str "number")) (.cons (.k (.int 44)) .nil))) (.cons (.tup (.cons (.k (.str "back")) .nil)) .nil))))))))
 (.cons (.set 4 (.tup (.cons (.k (.str "told")) (.cons (.k (.int 44)) .nil))))
 (.cons (.ifs (.and (.cmp .kh (.v 2) (.k .ao)) (.and (.cmp .lt (.v 2) (.op .add true (.v 1) (.k (.int 1)))) (.cmp .le (.v 2) (.k (.int 12))))) (.cons (.set 4 (.tup (.cons (.k (.str "long")) (.cons (.k .ao) .nil))))
 .nil) (.cons (.ifs (.cmp .gt (.op .add true (.v 1) (.k (.int 1))) (.k (.int 12))) (.cons (.set 4 (.tup (.cons (.k (.str "deep")) (.cons (.k .ao) .nil))))
 .nil) .nil)
 .nil))
 (.cons (.ret (.cmp .eq (.call 24 (.cons (.tup (.cons (.v 3) (.cons (.k (.int 0)) (.cons (.k (.int 0)) .nil)))) (.cons (.lst true (.cons (.v 1) .nil)) (.cons (.v 2) .nil)))) (.v 4)))
 .nil)))))))⟩
noncomputable def gM:List PySem.Str:=["_law_number", "_law_many", "_law_fuel", "_law_rows", "_law_due"]
noncomputable def iD:Fn:=⟨1,5,[],false,
 (.cons (.set 1 (.op .mod true (.v 0) (.k (.int 30))))
 (.cons (.set 2 (.op .mod true (.op .fdiv true (.v 0) (.k (.int 30))) (.k (.int 40))))
 (.cons (.set 3 (.lst true (.cons (.tup (.cons (.k (.str "local")) (.cons (.k (.int 0)) .nil))) (.cons (.tup (.cons (.k (.str "unless")) (.cons (.k (.int 10)) .nil))) (.cons (.tup (.cons (.k (.str "local")) (.cons (.k (.int 0)) .nil))) (.cons (.tup (.cons (.k (.str "call")) (.cons (.k (.int 12)) (.cons (.k (.int 1)) (.cons (.tup .nil) .nil))))) (.cons (.tup (.cons (.k (.str "keep")) .nil)) (.cons (.tup (.cons (.k (.str "local")) (.cons (.k (.int 1)) .nil))) (.cons (.tup (.cons (.k (.str "drop")) .nil)) .nil)))))))))
 (.cons (.set 3 (.op .add true (.v 3) (.lst true (.cons (.tup (.cons (.k (.str "drop")) .nil)) (.cons (.tup (.cons (.k (.str "keep")) .nil)) (.cons (.tup (.cons (.k (.str "jump")) (.cons (.k (.int 0)) .nil))) (.cons (.tup (.cons (.k (.str "number")) (.cons (.k (.int 8)) .nil))) (.cons (.tup (.cons (.k (.str "back")) .nil)) .nil))))))))
 (.cons (.set 3 (.op .add true (.v 3) (.lst true (.cons (.tup (.cons (.k (.str "local")) (.cons (.k (.int 0)) .nil))) (.cons (.tup (.cons (.k (.str "number")) (.cons (.k (.int 1)) .nil))) (.cons (.tup (.cons (.k (.str "minus")) .nil)) (.cons (.tup (.cons (.k (.str "back")) .nil)) .nil)))))))
 (.cons (.set 4 (.tup (.cons (.k (.str "told")) (.cons (.k (.int 8)) .nil))))
 (.cons (.ifs (.cmp .lt (.v 2) (.v 1)) (.cons (.set 4 (.tup (.cons (.k (.str "long")) (.cons (.k .ao) .nil))))
 .nil) .nil)
 (.cons (.ret (.cmp .eq (.call 24 (.cons (.tup (.cons (.v 3) (.cons (.k (.int 0)) (.cons (.k (.int 0)) .nil)))) (.cons (.lst true (.cons (.v 1) .nil)) (.cons (.v 2) .nil)))) (.v 4)))
 .nil))))))))⟩
noncomputable def fG:List PySem.Str:=["_law_number", "_law_great", "_law_empty_here", "_law_calls", "_law_pieces", "_law_words", "_law_first", "_law_other"]
noncomputable def fc:Fn:=⟨1,8,[],false,
 (.cons (.set 1 (.lst true (.cons (.tup (.cons (.k (.str "number")) (.cons (.op .sub true (.op .pow true (.k (.int 10)) (.k (.int 60))) (.k (.int 1))) .nil))) (.cons (.tup (.cons (.k (.str "number")) (.cons (.k (.int 1)) .nil))) (.cons (.tup (.cons (.k (.str "plus")) .nil)) .nil)))))
 (.cons (.set 2 (.lst true (.cons (.tup (.cons (.k (.str "nil")) .nil)) (.cons (.tup (.cons (.k (.str "head")) .nil)) .nil))))
 (.cons (.set 3 (.lst true (.cons (.tup (.cons (.k (.str "call")) (.cons (.k (.int 0)) (.cons (.k (.int 0)) (.cons (.tup .nil) .nil))))) .nil)))
 (.cons (.set 4 (.lst true (.cons (.v 1) (.cons (.v 2) (.cons (.v 3) .nil)))))
 (.cons (.set 5 (.lst true (.cons (.k (.str "great")) (.cons (.k (.str "empty")) (.cons (.k (.str "long")) .nil)))))
 (.cons (.set 6 (.op .mod true (.v 0) (.k (.int 3))))
 (.cons (.set 7 (.op .mod true (.op .add true (.op .add true (.v 6) (.k (.int 1))) (.op .mod true (.op .fdiv true (.v 0) (.k (.int 3))) (.k (.int 2)))) (.k (.int 3))))
 (.cons (.ret (.cmp .eq (.call 24 (.cons (.tup (.cons (.op .add true (.op .add true (.op .add true (.idx (.v 4) (.v 6)) (.lst true (.cons (.tup (.cons (.k (.str "drop")) .nil)) .nil))) (.idx (.v 4) (.v 7))) (.lst true (.cons (.tup (.cons (.k (.str "back")) .nil)) .nil))) (.cons (.k (.int 0)) (.cons (.k (.int 0)) .nil)))) (.cons (.lst true .nil) (.cons (.k (.int 0)) .nil)))) (.tup (.cons (.idx (.v 5) (.v 6)) (.cons (.k .ao) .nil)))))
 .nil))))))))⟩
noncomputable def jF:List PySem.Str:=["_law_number", "_law_rows", "_law_great", "_law_value", "_law_due"]
noncomputable def l7:Fn:=⟨1,5,[],false,
 (.cons (.for [1, 2, 3] (.e (.lst true (.cons (.call 25 (.cons (.v 0) .nil)) (.cons (.call 27 (.cons (.op .fdiv true (.v 0) (.k (.int 7))) .nil)) .nil)))) (.cons (.set 4 (.idx (.lst true (.cons (.tup (.cons (.k (.str "told")) (.cons (.v 3) .nil))) (.cons (.tup (.cons (.k (.str "great")) (.cons (.k .ao) .nil))) .nil))) (.pV .int (.v 2))))
 (.cons (.ifs (.cmp .ne (.call 24 (.cons (.tup (.cons (.v 1) (.cons (.k (.int 0)) (.cons (.k (.int 1)) .nil)))) (.cons (.lst true .nil) (.cons (.k .ao) .nil)))) (.v 4)) (.cons (.ret (.k (.bl false)))
 .nil) .nil)
 .nil)))
 (.cons (.ifs (.or (.not (.call 28 (.cons (.op .fdiv true (.v 0) (.k (.int 11))) .nil))) (.not (.call 29 (.cons (.op .fdiv true (.v 0) (.k (.int 13))) .nil)))) (.cons (.ret (.k (.bl false)))
 .nil) .nil)
 (.cons (.ret (.and (.call 30 (.cons (.op .fdiv true (.v 0) (.k (.int 17))) .nil)) (.call 31 (.cons (.op .fdiv true (.v 0) (.k (.int 19))) .nil))))
 .nil)))⟩
noncomputable def qa:List PySem.Str:=["_law_script", "_law_numbers", "_law_number", "_law_rows", "_law_great", "_law_value"]
noncomputable def Eo:Fn:=⟨1,6,[],false,
 (.cons (.set 1 (.op .add true (.lst true (.cons (.call 22 (.cons (.k (.int 0)) .nil)) .nil)) (.comp true [] [0] (.call 22 (.cons (.v 0) .nil)) (.e (.sl true (.v 0) .none (.some (.k (.int 10))))) .none)))
 (.cons (.for [2] (.e (.v 1)) (.cons (.ifs (.not (.call 32 (.cons (.v 2) .nil))) (.cons (.ret (.k (.bl false)))
 .nil) .nil)
 .nil))
 (.cons (.Dy [3,4,5] (.call 26 (.cons (.idx (.v 1) (.neg (.k (.int 1)))) .nil)))
 (.cons (.ret (.cmp .eq (.call 24 (.cons (.tup (.cons (.v 3) (.cons (.k (.int 0)) (.cons (.k (.int 1)) .nil)))) (.cons (.lst true .nil) (.cons (.k (.int 0)) .nil)))) (.idx (.lst true (.cons (.tup (.cons (.k (.str "told")) (.cons (.v 5) .nil))) (.cons (.tup (.cons (.k (.str "great")) (.cons (.k .ao) .nil))) .nil))) (.pV .int (.v 4)))))
 .nil))))⟩
noncomputable def fns:List Fn:=[i7,gh,cU,gJ,fU,zB,dY,p9,d8,cY,cy,cu,cF,gA,fX,dZ,fj,iF,fh,bU,bJ,d7,jl,kL,lZ,lY,kM,jk,jm,iB,iD,fc,l7,Eo]
noncomputable def cst:List D:=[(.int 1000),(.int 12)]
noncomputable def subs:List (Nat×Nat):=[(0,0),(1,0),(1,1),(2,0),(2,2),(3,0),(3,3),(4,0),(4,4),(5,0),(5,5),(6,0),(6,6),(7,0),(7,7),(8,0),(8,8),(9,0),(9,9),(10,0),(10,10),(11,0),(11,11)]
noncomputable def ak:kU:=⟨fun i=>fns[i]?,fun i=>cst[i]?,100000,fun a b=>subs.contains (a,b)⟩
end bK
end
section
set_option maxHeartbeats 0
namespace bK
open Fg PySem PySem.Spec L2
noncomputable abbrev Jj:Program:=PySem.Challenge.pw_fieldgate_k45_machine_refusals
noncomputable def bq (i:Nat):Stmt:=Jj.main.body.getD i (.Pass ⟨0,0,0,0⟩)
noncomputable def tb:Tb:=⟨[
 ⟨"size_of", "size_of", bq 16, ["value"], jC, 0, none⟩,
 ⟨"cell_of", "cell_of", bq 17, ["word", "first", "second"], jG, 1, none⟩,
 ⟨"want_few_figures", "want_few_figures", bq 18, ["number"], dG, 2, none⟩,
 ⟨"reckoned", "reckoned", bq 19, ["word", "first", "second"], i8, 3, none⟩,
 ⟨"looked_up", "looked_up", bq 20, ["word", "value"], iz, 4, none⟩,
 ⟨"told", "told", bq 21, ["value"], nC, 5, none⟩,
 ⟨"want_few_calls", "want_few_calls", bq 22, ["begun", "under_way", "most"], eO, 6, none⟩,
 ⟨"run", "run", bq 26, ["code", "numbers", "most"], pZ, 7, some 200⟩,
 ⟨"_law_mixed", "_law_mixed", bq 28, ["_law_cell"], iC, 22, none⟩,
 ⟨"_law_word", "_law_word", bq 29, ["_law_error"], i9, 23, none⟩,
 ⟨"_law_ran", "_law_ran", bq 30, ["_law_code", "_law_numbers", "_law_fuel"], jE, 24, none⟩,
 ⟨"_law_sum", "_law_sum", bq 31, ["_law_number"], jD, 25, none⟩,
 ⟨"_law_list", "_law_list", bq 32, ["_law_number"], ja, 26, none⟩,
 ⟨"_law_pairs", "_law_pairs", bq 33, ["_law_number"], iA, 27, none⟩,
 ⟨"_law_empty", "_law_empty", bq 34, ["_law_number"], iE, 28, none⟩,
 ⟨"_law_nested", "_law_nested", bq 35, ["_law_number"], gK, 29, none⟩,
 ⟨"_law_looped", "_law_looped", bq 36, ["_law_number"], gM, 30, none⟩,
 ⟨"_law_first_due", "_law_first_due", bq 37, ["_law_number"], fG, 31, none⟩,
 ⟨"_law_one", "_law_one", bq 38, ["_law_number"], jF, 32, none⟩,
 ⟨"law", "law", bq 39, ["_law_script"], qa, 33, none⟩],
 ["Frame", "Machine"],
 [(0, ⟨"__init__", "Frame.__init__", inClass (bq 24) 0, ["self", "known", "fields", "behind_call"], eV, 8, none⟩),
 (1, ⟨"__init__", "Machine.__init__", inClass (bq 25) 0, ["self", "rows", "most"], dH, 9, none⟩),
 (1, ⟨"open_field", "Machine.open_field", inClass (bq 25) 1, ["self"], cX, 10, none⟩),
 (1, ⟨"shut_field", "Machine.shut_field", inClass (bq 25) 2, ["self", "field"], cW, 11, none⟩),
 (1, ⟨"want_open", "Machine.want_open", inClass (bq 25) 3, ["self", "field"], c8, 12, none⟩),
 (1, ⟨"lay", "Machine.lay", inClass (bq 25) 4, ["self", "word", "field"], gq, 13, none⟩),
 (1, ⟨"look", "Machine.look", inClass (bq 25) 5, ["self", "word"], fW, 14, none⟩),
 (1, ⟨"reckon", "Machine.reckon", inClass (bq 25) 6, ["self", "word"], eS, 15, none⟩),
 (1, ⟨"carry", "Machine.carry", inClass (bq 25) 7, ["self", "row"], fJ, 16, none⟩),
 (1, ⟨"go", "Machine.go", inClass (bq 25) 8, ["self", "row"], gO, 17, none⟩),
 (1, ⟨"enter", "Machine.enter", inClass (bq 25) 9, ["self", "begin", "many", "numbers"], fH, 18, none⟩),
 (1, ⟨"step", "Machine.step", inClass (bq 25) 10, ["self"], fV, 19, none⟩),
 (1, ⟨"want_all_open", "Machine.want_all_open", inClass (bq 25) 11, ["self", "value"], ck, 20, none⟩),
 (1, ⟨"answer", "Machine.answer", inClass (bq 25) 12, ["self"], eU, 21, none⟩)],
 ["GateError", "NoText", "Twice", "NoName", "NoKind", "TooGreat", "Empty", "TooLong", "TooDeep", "Gone", "NoRow", "NoProgram"],
 [("MOST_SIZE", 0, 1000), ("MOST_UNDER_WAY", 1, 12)],
 ["len", "tuple", "list", "int", "abs", "min", "range", "isinstance", "reversed", "ValueError"],
 ["place", "known", "fields", "behind_call", "rows", "most", "begun", "pile", "frames", "lies_open", "log"],
 [],
 [],
 ["_law_word"]⟩
noncomputable def Ji:Program:=W.view Jj [39]
noncomputable def hdL:List Str:=[("GateError" : Str), ("NoText" : Str), ("Twice" : Str), ("NoName" : Str), ("NoKind" : Str), ("TooGreat" : Str), ("Empty" : Str), ("TooLong" : Str), ("TooDeep" : Str), ("Gone" : Str), ("NoRow" : Str), ("NoProgram" : Str), ("MOST_SIZE" : Str), ("MOST_UNDER_WAY" : Str), ("size_of" : Str), ("cell_of" : Str), ("want_few_figures" : Str), ("reckoned" : Str), ("looked_up" : Str), ("told" : Str), ("want_few_calls" : Str), ("Frame" : Str), ("Machine" : Str), ("run" : Str), ("_law_mixed" : Str), ("_law_word" : Str), ("_law_ran" : Str), ("_law_sum" : Str), ("_law_list" : Str), ("_law_pairs" : Str), ("_law_empty" : Str), ("_law_nested" : Str), ("_law_looped" : Str), ("_law_first_due" : Str), ("_law_one" : Str)]
noncomputable def hdX (s:Shared):Bool:=W.xlAt Ji [] s&&W.recOk (W.RowW.records PySem.Challenge.rw_fieldgate_k45_machine_refusals.row.toRowW) s
theorem lfq (w:World) (os:OsState):(AU Jj w os).map (fun s=>(yM Jj w s.abs,W.openSeen Ji hdL (importedModules Jj.main.body) hdX true s.abs,(tb.hook ak).obs s.abs))=some (true,W.openGood Ji hdL,(tb.hook ak).val w):=by kernel_rfl
theorem lft:W.LeftO Jj Ji hdL hdX (tb.hook ak).obs (tb.hook ak).val 20000:=vM (by kernel_rfl) (fun _=>rfl) lfq
end bK
end
section
namespace L2
open PySem PySem.Spec PyProof.Rows
noncomputable abbrev Key:=Sum Int Str
noncomputable def ku:Key->Value->Bool
 | .inl k,v=>Value.isInt k v
 | .inr x,v=>Value.isStrOf x v
noncomputable def keyH (w:World):Key->Int
 | .inl k=>hashInt k
 | .inr x=>hashStr w x
theorem aK:∀ {k:Key} {v:Value},ku k v=true->(∃ i t,k=Sum.inl i/\v=Value.int i t)\/(∃ x t,k=Sum.inr x/\v=Value.str x t)
 | .inl i,v,h=>by
  obtain ⟨t,e⟩:=Value.isInt_shape (k:=i) (v:=v) h
  exact .inl ⟨i,t,rfl,e⟩
 | .inr x,v,h=>by
  obtain ⟨t,e⟩:=Value.isStrOf_shape (x:=x) (v:=v) h
  exact .inr ⟨x,t,rfl,e⟩
theorem vO (i:Int) (t:Tok):ku (.inl i) (.int i t)=true:=by simp [ku,Value.isInt]
theorem iZ (x:Str) (t:Tok):ku (.inr x) (.str x t)=true:=by simp [ku,Value.isStrOf]
theorem G6 (a b:Int):decide ((Sum.inl a:Key)=Sum.inl b)=(a == b):=by
 by_cases e:a=b
 ·subst e;simp
 ·have h:¬ (Sum.inl a:Key)=Sum.inl b:=fun q=>e (Sum.inl.inj q)
  rw [decide_eq_false h]
  exact (beq_eq_false_iff_ne.mpr e).symm
theorem G3 (a b:Str):decide ((Sum.inr a:Key)=Sum.inr b)=decide (a=b):=by
 by_cases e:a=b
 ·subst e;simp
 ·have h:¬ (Sum.inr a:Key)=Sum.inr b:=fun q=>e (Sum.inr.inj q)
  rw [decide_eq_false h,decide_eq_false e]
theorem G5 (a:Int) (b:Str):decide ((Sum.inl a:Key)=Sum.inr b)=false:=decide_eq_false (fun q=>nomatch q)
theorem G4 (a:Str) (b:Int):decide ((Sum.inr a:Key)=Sum.inl b)=false:=decide_eq_false (fun q=>nomatch q)
noncomputable def aI (prog:Program) (w:World):PySem.KeyKind prog w Key where
 is:=ku
 hash:=keyH w
 inj:=fun v a b ha hb=>by
  rcases aK ha with ⟨i,t,rfl,rfl⟩ | ⟨x,t,rfl,rfl⟩
  ·rcases aK hb with ⟨j,u,rfl,e⟩ | ⟨y,u,rfl,e⟩
   ·injection e with e1 _;rw [e1]
   ·exact nomatch e
  ·rcases aK hb with ⟨j,u,rfl,e⟩ | ⟨y,u,rfl,e⟩
   ·exact nomatch e
   ·injection e with e1 _;rw [e1]
 byValue:=fun k v h=>by
  rcases aK h with ⟨i,t,rfl,rfl⟩ | ⟨x,t,rfl,rfl⟩ <;> rfl
 pyHash:=fun hv h=>by
  rcases aK hv with ⟨i,t,rfl,rfl⟩ | ⟨x,t,rfl,rfl⟩
  ·exact wpAny_pyHash_int h
  ·exact wpAny_pyHash_str h
 eqBool:=fun hu hv h=>by
  rcases aK hu with ⟨i,t,rfl,rfl⟩ | ⟨x,t,rfl,rfl⟩
  ·rcases aK hv with ⟨j,u,rfl,rfl⟩ | ⟨y,u,rfl,rfl⟩
   ·rw [G6] at h;exact wpAny_eqBool_int h
   ·rw [G5] at h;exact SeqAt.EqAt.int_str i t y u _ _ _ _ h
  ·rcases aK hv with ⟨j,u,rfl,rfl⟩ | ⟨y,u,rfl,rfl⟩
   ·rw [G4] at h;exact SeqAt.EqAt.str_int x t j u _ _ _ _ h
   ·rw [G3] at h;exact wpAny_eqBool_str h
 «strs»:=fun k x t v h=>by
  rcases aK h with ⟨i,u,rfl,e⟩ | ⟨y,u,rfl,e⟩
  ·exact nomatch e
  ·injection e with e1 _
   subst e1
   cases v <;> rfl
theorem pK (prog:Program) (w:World) (i:Int) (t:Tok):(aI prog w).is (.inl i) (.int i t)=true:=vO i t
theorem pJ (prog:Program) (w:World) (x:Str) (t:Tok):(aI prog w).is (.inr x) (.str x t)=true:=iZ x t
inductive V where
 | ao | bl (b:Bool) | int (i:Int) | str (x:Str) | wM (b:Array UInt8) | MS (b:UInt64) | ref (a:Addr) | ty (n:String)
 deriving DecidableEq
noncomputable def RelV:V->Value->Prop
 | .ao,u=>u=Value.none
 | .bl b,u=>u=Value.bool b
 | .int i,u=>∃ t,u=Value.int i t
 | .str x,u=>∃ t,u=Value.str x t
 | .wM b,u=>∃ t,u=Value.bytes b t
 | .MS b,u=>∃ t,u=Value.float b t
 | .ref a,u=>u=Value.ref a
 | .ty n,u=>u=Value.type n
noncomputable abbrev Vals:List V->List Value->Prop:=Paired RelV
theorem Vals.length {xs:List V} {us:List Value} (r:Vals xs us):xs.length=us.length:=Paired.length r
theorem Vals.get:∀ {xs:List V} {us:List Value} {i:Nat} {x:V},Vals xs us->xs[i]? = some x->∃ u,us[i]? = some u/\RelV x u
 | _,_,_,_,.nil,e=>by simp at e
 | _,_,0,_,.cons r _,e=>by simp at e;subst e;exact ⟨_,rfl,r⟩
 | _,_,i+1,x,.cons _ t,e=>by
  obtain ⟨u,h1,h2⟩:=Vals.get (i:=i) (x:=x) t (by simpa using e)
  exact ⟨u,by simpa using h1,h2⟩
theorem Vals.set {x:V} {u:Value} (r:RelV x u):∀ {xs:List V} {us:List Value} (i:Nat),Vals xs us->Vals (xs.set i x) (us.set i u)
 | _,_,_,.nil=>.nil
 | _,_,0,.cons _ t=>.cons r t
 | _,_,i+1,.cons q t=>.cons q (Vals.set r i t)
theorem Vals.append:∀ {xs ys:List V} {us ws:List Value},Vals xs us->Vals ys ws->Vals (xs++ys) (us++ws)
 | _,_,_,_,.nil,s=>s
 | _,_,_,_,.cons r t,s=>.cons r (Vals.append t s)
theorem Vals.take:∀ {xs:List V} {us:List Value} (n:Nat),Vals xs us->Vals (xs.take n) (us.take n)
 | _,_,0,_=>.nil
 | _,_,_+1,.nil=>.nil
 | _,_,n+1,.cons r t=>.cons r (Vals.take n t)
theorem Vals.drop:∀ {xs:List V} {us:List Value} (n:Nat),Vals xs us->Vals (xs.drop n) (us.drop n)
 | _,_,0,r=>r
 | _,_,_+1,.nil=>.nil
 | _,_,n+1,.cons _ t=>Vals.drop n t
noncomputable def gU:Option V->Option Value->Prop
 | some v,some u=>RelV v u
 | none,none=>True
 | _,_=>False
noncomputable def KV {κ:Type}:List (κ×V)->List (κ×Value)->Prop:=Paired fun (p:κ×V) (q:κ×Value)=>p.1=q.1/\RelV p.2 q.2
noncomputable def kV:Key->V
 | .inl i=>.int i
 | .inr x=>.str x
inductive HO where
 | lst (xs:List V)
 | tup (xs:List V)
 | dK (kvs:List (Key×V)) | dT (kvs:List (List Key×V))
 | set (S:Int->Bool) (n:Nat)
 | ins (C dx:Addr) (fs:List (Str×V))
 | own (x:Addr)
 | xd (fs:List (Str×V))
 | met (f x:Addr)
 | iO (lo hi:Int)
 | dF (o:Obj) (u:HO)
 | DC (ps:Array Value)
 | ext (φ:Heap->Prop)
noncomputable abbrev Hp:=Addr->Option HO
noncomputable def upd (H:Hp) (a:Addr) (o:HO):Hp:=fun b=>if b=a then some o else H b
theorem ay {H:Hp} {a:Addr} {o:HO}:upd H a o a=some o:=by unfold upd;rw [if_pos rfl]
theorem aj {H:Hp} {a b:Addr} {o:HO} (h:b≠a):upd H a o b=H b:=by unfold upd;rw [if_neg h]
theorem KO {H:Hp} {a b:Addr} {o u:HO} (h:H a=some o) (h':H b=some u) (d:o≠u):a≠b:=by
 intro e;subst e;rw [h] at h';exact d (Option.some.inj h')
theorem cR {H:Hp} {a b:Addr} {o:HO} (h:H a=some o) (h':H b=none):a≠b:=by
 intro e;subst e;rw [h] at h';cases h'
section
variable (P:Program) (w:World)
noncomputable def aO (H:Hp) (h:Heap) (a:Addr):HO->Prop
 | .lst xs=>xs.length<=sizeLine/\∃ (its:List Value) (n:Nat), Vals xs its/\h.get? a=some { cls:=.type "list", data:=.seq its.toArray n }
 | .tup xs=>xs.length<=sizeLine/\∃ its:List Value,Vals xs its/\IsTup h a its.toArray
 | .dK kvs=>kvs.length<=sizeLine/\(a == sysModules)=false/\∃ vs,KV kvs vs/\h.DictOf (aI P w) a vs
 | .dT kvs=>kvs.length<=sizeLine/\(a == sysModules)=false/\∃ xs:List (List Key×Addr×Value),
   Paired (fun (p:List Key×V) (q:List Key×Addr×Value)=>p.1=q.1/\H q.2.1=some (.tup (p.1.map kV))/\RelV p.2 q.2.2) kvs xs /\
   ∃ o es ep,h.get? a=some o/\o.ExactDict/\o.data=.dict es ep/\es.toList=xs.map (entryOfKey (tupleKind (aI P w)))/\(xs.map (·.1)).Nodup
 | .set S n=>h.SetOf (intKind P w) a S n
 | .ins C dx fs=>H dx=some (.own a)/\fs.length<=1000/\dx≠a/\h.get? a=some (PySem.W.instObj C dx) /\
   ∃ mA,h.Ns1 dx mA/\(∀ f,gU (fs.lookup f) (mA f))/\PySem.Within mA (fs.map (·.1))
 | .own _=>∃ o,h.get? a=some o
 | .xd fs=>∃ mA,h.Ns1 a mA/\∀ f,gU (fs.lookup f) (mA f)
 | .iO lo hi=>∃ t u v, h.get? a=some { cls:=.type "range", data:=.fields #[.int lo t, .int hi u, .int 1 v] }
 | .dF o u=>h.get? a=some o/\aO H h a u
 | .DC ps=>h.get? a=some { cls:=.none,data:=.fields ps }
 | .met f x=>h.get? a=some (PySem.W.methodObj (.ref f) (.ref x))
 | .ext φ=>φ h/\(∃ o,h.get? a=some o)/\∀ h1 h2:Heap,φ h1->(∀ o,h1.get? a=some o->h2.get? a=some o)->φ h2
noncomputable def gv (H:Hp) (h:Heap):Prop:=∀ a o,H a=some o->aO P w H h a o
end
section
variable {P:Program} {w:World} {H H':Hp} {h h':Heap} {a:Addr} {o:HO}
theorem aO.lt (x:aO P w H h a o):a<h.objs.size:=by
 cases o with
 | lst xs=>obtain ⟨_,_,_,_,e⟩:=x;exact Heap.lt_size e
 | tup xs=>obtain ⟨_,_,_,p⟩:=x;exact p.lt
 | dK kvs=>obtain ⟨_,_,_,_,o,_,_,e,_⟩:=x;exact Heap.lt_size e
 | dT kvs=>obtain ⟨_,_,_,_,o,_,_,e,_⟩:=x;exact Heap.lt_size e
 | set S n=>obtain ⟨o,_,_,_,e,_⟩:=x;exact Heap.lt_size e
 | ins C dx fs=>obtain ⟨_,_,_,e,_⟩:=x;exact Heap.lt_size e
 | own y=>obtain ⟨_,e⟩:=x;exact Heap.lt_size e
 | xd fs=>obtain ⟨_,⟨_,_,_,e,_⟩,_⟩:=x;exact Heap.lt_size e
 | iO lo hi=>obtain ⟨_,_,_,e⟩:=x;exact Heap.lt_size e
 | dF ob u=>obtain ⟨e,_⟩:=x;exact Heap.lt_size e
 | DC ps=>exact Heap.lt_size (show h.get? a=some _ from x)
 | met f y=>exact Heap.lt_size (show h.get? a=some _ from x)
 | ext φ=>obtain ⟨_,⟨_,e⟩,_⟩:=x;exact Heap.lt_size e
theorem Paired.GP {α β:Type} {F G:α->β->Prop}:∀ {l₁:List α} {l₂:List β},Paired F l₁ l₂->(∀ a b,F a b->G a b)->Paired G l₁ l₂
 | _,_,.nil,_=>.nil
 | _,_,.cons r t,f=>.cons (f _ _ r) (Paired.GP t f)
theorem aO.stay (x:aO P w H h a o) (k:∀ b u,(b=a\/H b=some (.own a))->h.get? b=some u->h'.get? b=some u)
  (ho:∀ b,H b=some (.own a)->H' b=some (.own a)) (ht:∀ b xs,H b=some (.tup xs)->H' b=some (.tup xs)):aO P w H' h' a o:=by
 induction o with
 | lst xs=>obtain ⟨z,its,n,r,e⟩:=x;exact ⟨z,its,n,r,k _ _ (.inl rfl) e⟩
 | tup xs=>obtain ⟨z,its,r,ob,e,c⟩:=x;exact ⟨z,its,r,ob,k _ _ (.inl rfl) e,c⟩
 | dK kvs=>obtain ⟨z,y,vs,r,ob,es,ep,e,c⟩:=x;exact ⟨z,y,vs,r,ob,es,ep,k _ _ (.inl rfl) e,c⟩
 | dT kvs =>
  obtain ⟨z,y,xs,r,ob,es,ep,e,c⟩:=x
  exact ⟨z,y,xs,Paired.GP r fun p q z=>⟨z.1,ht _ _ z.2.1,z.2.2⟩,ob,es,ep,k _ _ (.inl rfl) e,c⟩
 | set S n=>obtain ⟨ob,es,ep,t,e,c⟩:=x;exact ⟨ob,es,ep,t,k _ _ (.inl rfl) e,c⟩
 | ins C dx fs =>
  obtain ⟨d,z,ne,e,mA,⟨od,es,ep,e2,c⟩,r⟩:=x
  exact ⟨ho _ d,z,ne,k _ _ (.inl rfl) e,mA,⟨od,es,ep,k _ _ (.inr d) e2,c⟩,r⟩
 | own y=>obtain ⟨ob,e⟩:=x;exact ⟨ob,k _ _ (.inl rfl) e⟩
 | xd fs=>obtain ⟨mA,⟨od,es,ep,e,c⟩,r⟩:=x;exact ⟨mA,⟨od,es,ep,k _ _ (.inl rfl) e,c⟩,r⟩
 | iO lo hi=>obtain ⟨t,u,v,e⟩:=x;exact ⟨t,u,v,k _ _ (.inl rfl) e⟩
 | dF ob u ih=>obtain ⟨e,q⟩:=x;exact ⟨k _ _ (.inl rfl) e,ih q⟩
 | DC ps =>
  have e:h.get? a=some { cls:=.none,data:=.fields ps }:=x
  show h'.get? a=some { cls:=.none,data:=.fields ps }
  exact k a _ (.inl rfl) e
 | met f y =>
  have e:h.get? a=some (PySem.W.methodObj (.ref f) (.ref y)):=x
  show h'.get? a=some (PySem.W.methodObj (.ref f) (.ref y))
  exact k a _ (.inl rfl) e
 | ext φ=>obtain ⟨p,⟨o,e⟩,st⟩:=x;exact ⟨st _ _ p fun o q=>k _ _ (.inl rfl) q,⟨o,k _ _ (.inl rfl) e⟩,st⟩
theorem gv.lt (x:gv P w H h) (e:H a=some o):a<h.objs.size:=(x a o e).lt
theorem gv.fresh (x:gv P w H h) (e:h.objs.size<=a):H a=none:=by
 cases q:H a with
 | none=>rfl
 | some u=>exact absurd (Nat.lt_of_lt_of_le (x.lt q) e) (Nat.lt_irrefl _)
theorem gv.kept (x:gv P w H h) (k:∀ b u,h.get? b=some u->h'.get? b=some u):gv P w H h':=fun a o e =>
 (x a o e).stay (fun b u _ q=>k b u q) (fun _ q=>q) fun _ _ q=>q
theorem gv.laid (x:gv P w H h) (k:∀ b u,h.get? b=some u->h'.get? b=some u) (hp:h.objs.size<=a) (new:aO P w (upd H a o) h' a o):gv P w (upd H a o) h':=fun b u e=>by
 have hn:=x.fresh hp
 by_cases hb:b=a
 ·subst hb;rw [ay] at e;cases e;exact new
 ·rw [aj hb] at e
  exact (x b u e).stay (fun c v _ q=>k c v q) (fun c q=>by rw [aj (cR q hn)];exact q) fun c xs q=>by rw [aj (cR q hn)];exact q
end
noncomputable def Rd (H:Hp) (a:Addr) (u:HO):Prop:=H a=some u\/∃ o,H a=some (.dF o u)
theorem Rd.ok {P:Program} {w:World} {H:Hp} {h:Heap} {a:Addr} {u:HO} (r:Rd H a u) (x:gv P w H h):aO P w H h a u:=by
 rcases r with r | ⟨o,r⟩
 ·exact x a u r
 ·obtain ⟨_,q⟩:=x a _ r
  exact q
noncomputable def Ma:Option HO->Prop
 | some (.lst _)=>True
 | some (.dK _)=>True
 | some (.dT _)=>True
 | some (.set _ _)=>True
 | some (.ins _ _ _)=>True
 | some (.ext _)=>True
 | _=>False
section
variable {P:Program} {w:World} {H:Hp} {h h':Heap} {x e:Addr} {o':HO}
theorem gv.write (ok:gv P w H h) (mu:Ma (H x)) (he:e=x\/H e=some (.own x)) (k:∀ b u,b≠e->h.get? b=some u->h'.get? b=some u) (CH:∃ u,h'.get? e=some u)
  (new:aO P w (upd H x o') h' x o'):gv P w (upd H x o') h':=fun b u q=>by
 have KH:∀ c y,H c=some (.own y)->c≠x:=fun c y r z=>by subst z;rw [r] at mu;exact mu
 have ntup:∀ c xs,H c=some (.tup xs)->c≠x:=fun c xs r z=>by subst z;rw [r] at mu;exact mu
 by_cases hb:b=x
 ·subst hb;rw [ay] at q;cases q;exact new
 ·rw [aj hb] at q
  by_cases HU:b=e
  ·have q':H b=some (.own x):=by
    rcases he with z | z
    ·exact absurd (HU.trans z) hb
    ·rw [HU];exact z
   rw [q] at q';cases q'
   obtain ⟨v,hv⟩:=CH
   exact ⟨v,by rw [HU];exact hv⟩
  ·refine (ok b u q).stay (fun c v hc r=>k c v ?_ r) (fun c r=>by rw [aj (KH c b r)];exact r) fun c xs r=>by rw [aj (ntup c xs r)];exact r
   rcases hc with rfl | hc
   ·exact HU
   ·rintro rfl
    rcases he with z | z
    ·exact KH c b hc z
    ·rw [hc] at z;cases z;exact hb rfl
end
structure Un (fs ex:List Addr) (H H':Hp) (h h':Heap):Prop where
 keep:∀ b o,h.get? b=some o->H b=none->b∉fs->b∉ex->h'.get? b=some o
 slot:∀ b o,h.get? b=some o->H b=none->b∈fs->b∉ex->∃ sl,h'.get? b=some { o with slots:=sl }
 free:∀ b o,h.get? b=some o->H b=none->b∉ex->H' b=none
 there:∀ b o,h.get? b=some o->b∉ex->∃ o',h'.get? b=some o'
 tups:∀ b xs,H b=some (.tup xs)->H' b=some (.tup xs)
 c7:∀ b o u,H b=some (.dF o u)->H' b=some (.dF o u)
 gj:∀ b ps,H b=some (.DC ps)->∃ more,H' b=some (.DC (ps++more))
section
variable {fs fs' ex ex':List Addr} {H H1 H2:Hp} {h h1 h2 h':Heap} {a x e:Addr} {o:HO}
theorem Un.any (u:Un fs ex H H1 h h1) {b:Addr} {ob:Obj} (q:h.get? b=some ob) (n:H b=none) (hx:b∉ex):∃ sl,h1.get? b=some { ob with slots:=sl }:=by
 by_cases hb:b∈fs
 ·exact u.slot b ob q n hb hx
 ·exact ⟨ob.slots,u.keep b ob q n hb hx⟩
theorem Un.trans (a:Un fs ex H H1 h h1) (b:Un fs ex H1 H2 h1 h2):Un fs ex H H2 h h2 where
 keep:=fun c ob q n hc hx=>b.keep c ob (a.keep c ob q n hc hx) (a.free c ob q n hx) hc hx
 slot:=fun c ob q n hc hx=>by
  obtain ⟨sl,e1⟩:=a.slot c ob q n hc hx
  obtain ⟨DL,e2⟩:=b.slot c _ e1 (a.free c ob q n hx) hc hx
  exact ⟨DL,e2⟩
 free:=fun c ob q n hx=>by
  obtain ⟨o',e1⟩:=a.there c ob q hx
  exact b.free c o' e1 (a.free c ob q n hx) hx
 there:=fun c ob q hx=>by
  obtain ⟨o',e1⟩:=a.there c ob q hx
  exact b.there c o' e1 hx
 tups:=fun c xs q=>b.tups c xs (a.tups c xs q)
 c7:=fun c ob xs q=>b.c7 c ob xs (a.c7 c ob xs q)
 gj:=fun c ps q=>by
  obtain ⟨m1,e1⟩:=a.gj c ps q
  obtain ⟨m2,e2⟩:=b.gj c _ e1
  exact ⟨m1++m2,by rw [e2,Array.append_assoc]⟩
theorem Un.kept (k:∀ b u,h.get? b=some u->h'.get? b=some u):Un fs ex H H h h' :=
 ⟨fun b ob q _ _ _=>k b ob q,fun b ob q _ _ _=>⟨ob.slots,k b ob q⟩,fun _ _ _ n _=>n,fun b ob q _=>⟨ob,k b ob q⟩,fun _ _ q=>q,fun _ _ _ q=>q,fun _ ps q=>⟨#[],by rw [q];simp⟩⟩
theorem Un.refl:Un fs ex H H h h:=Un.kept fun _ _ q=>q
theorem Un.laid (k:∀ b u,h.get? b=some u->h'.get? b=some u) (hp:h.objs.size<=a) (hn:H a=none):Un fs ex H (upd H a o) h h' where
 keep:=fun b u q _ _ _=>k b u q
 slot:=fun b u q _ _ _=>⟨u.slots,k b u q⟩
 free:=fun b u q n _=>by rw [aj (Nat.ne_of_lt (Nat.lt_of_lt_of_le (Heap.lt_size q) hp))];exact n
 there:=fun b u q _=>⟨u,k b u q⟩
 tups:=fun b xs q=>by rw [aj (cR q hn)];exact q
 c7:=fun b u xs q=>by rw [aj (cR q hn)];exact q
 gj:=fun b ps q=>⟨#[],by rw [aj (cR q hn),q];simp⟩
theorem Un.write (mu:Ma (H x)) (he:e=x\/H e=some (.own x)) (k:∀ b u,b≠e->h.get? b=some u->h'.get? b=some u) (CH:∃ u,h'.get? e=some u):Un fs ex H (upd H x o) h h':=by
 have hx:∀ b,H b=none->b≠x:=fun b n z=>by subst z;rw [n] at mu;exact mu
 have hb:∀ b,H b=none->b≠e:=fun b n z=>by
  subst z
  rcases he with r | r
  ·exact hx b n r
  ·rw [n] at r;cases r
 have hm:∀ b u,H b=some u->¬ Ma (some u)->b≠x:=fun b u q nm z=>by subst z;rw [q] at mu;exact nm mu
 refine ⟨fun b u q n _ _=>k b u (hb b n) q,fun b u q n _ _=>⟨u.slots,k b u (hb b n) q⟩,fun b u q n _=>by rw [aj (hx b n)];exact n,fun b u q _=>?_,
  fun b xs q=>by rw [aj (hm b _ q fun z=>z)];exact q,fun b u xs q=>by rw [aj (hm b _ q fun z=>z)];exact q,fun b ps q=>⟨#[],by rw [aj (hm b _ q fun z=>z),q];simp⟩⟩
 by_cases HU:b=e
 ·subst HU;exact CH
 ·exact ⟨u,k b u HU q⟩
end
noncomputable def Mm (h:Heap) (H:Hp):List Addr:=(List.range h.objs.size).filter fun a=>(H a).isSome
noncomputable def nu (h:Heap) (H:Hp):Heap:=PySem.W.hideAll h (Mm h H)
theorem vS (h:Heap) (H:Hp):(nu h H).objs.size=h.objs.size:=PySem.W.hideAll_size _ _
theorem zj {h:Heap} {H:Hp} {b:Addr} {o:Obj} (e:h.get? b=some o) (n:H b=none):(nu h H).get? b=some o :=
 PySem.W.hideAll_get _ e fun hm=>by
  have q:(H b).isSome=true:=(List.mem_filter.mp hm).2
  rw [n] at q;simp at q
theorem Cf {h:Heap} {H:Hp} {b:Addr} {o:Obj} (e:(nu h H).get? b=some o):h.get? b=some o/\H b=none:=by
 have e':h.get? b=some o:=PySem.W.of_hideAll (Mm h H) e
 refine ⟨e',?_⟩
 cases q:H b with
 | none=>rfl
 | some x =>
  have hm:b∈Mm h H:=List.mem_filter.mpr ⟨List.mem_range.mpr (Heap.lt_size e'),by simp [q]⟩
  have z:(nu h H).get? b=none:=PySem.W.hideAll_none (Mm h H) hm
  rw [z] at e;cases e
noncomputable def Dj (g h:Heap) (L:Addr):List (Addr×Obj):=(List.range h.objs.size).filterMap fun a=>if a=L\/(g.get? a).isSome=true then none else (h.get? a).map fun o=>(a,o)
noncomputable def rest (g h:Heap) (L d:Addr):List (Addr×Obj):=(Dj g h L).filter fun p=>decide (p.1≠d)
structure Mod (K:PySem.W.Frag) (mg:Str->Option Value) (base:Heap):Prop where
 yK:K.In base
 glob:base.Ns mainGlobals mg
 blt:∃ mb, base.Ns builtinsNs mb/\∀ x:Str, x≠"__name__"->mb x=bootBuiltins x
 nolimit:base.NoLimit
structure Cx where
 prog:Program
 w:World
 K:PySem.W.Frag
 mg:Str->Option Value
 base:Heap
 A:Around
 N:List Str
 s₀:Shared
 H₀:Hp
 env:Env
 outer:List Env
 stack:List Env
 ex:List Addr
 fn:Str->Bool
 calm:Bool
 pn:List (Addr×Obj)
 xe:Value->Shared->Prop
noncomputable def frs (l:List Env):List Addr:=l.filterMap (·.frame)
noncomputable abbrev Cx.fs (X:Cx):List Addr:=frs X.outer
noncomputable def Nj (sc:Scope) (x:Str):Prop:=sc.names.lookup x=some .local\/sc.names.lookup x=some .cell\/sc.names.lookup x=some .free
noncomputable def Loc (sc:Scope) (x:Str):Prop:=sc.names.lookup x=some .local\/sc.names.lookup x=some .cell
noncomputable def Look (env:Env) (h:Heap) (m:Str->Option Value) (x:Str) (u:Value):Prop :=
 (env.kindOf x=some .local/\m x=some u)\/((env.kindOf x=some .cell\/env.kindOf x=some .free)/\∃ c,env.cells.lookup x=some c/\h.IsCell c (some u))
structure Cx.Ok (X:Cx):Prop where
 mod:Mod X.K X.mg X.base
 kind:X.env.scope.kind=.function
 glob:X.env.globals=mainGlobals
 blt:X.env.builtins=builtinsNs
 above:X.s₀.heap.objs.size<=X.env.locals
 inj:∀ x y c,X.env.cells.lookup x=some c->X.env.cells.lookup y=some c->x=y
 has:∀ x,(X.env.kindOf x=some .cell\/X.env.kindOf x=some .free)->∃ c,X.env.cells.lookup x=some c
 EI:∀ x c,X.fn x=true->X.env.cells.lookup x=some c->X.s₀.heap.objs.size<=c
 hd:X.calm=true->X.A.handled=none
 frames:X.A.frames=some X.stack
 stk:X.stack=X.outer\/(X.stack=X.env::X.outer/\X.env.frame=some X.env.locals)
 Lq:∀ b∈X.ex,b≠X.env.locals/\∀ x c,X.env.cells.lookup x=some c->c≠b
 bs:∀ b o,X.base.get? b=some o->X.s₀.heap.get? b=some o/\X.H₀ b=none
 wm:X.base.objs.size<=X.s₀.heap.objs.size
 pC:∀ b o,X.base.get? b=some o->b∉X.ex
 r6:∀ b∈X.ex,b∉X.fs
 gp:X.s₀.heap.FunFrames X.base X.outer
 zw:∀ b∈X.fs,X.H₀ b=none
structure Inv (X:Cx) (pins:List (Addr×Obj)) (σ:List (Option V)) (H:Hp) (s:Shared):Prop where
 ok:X.Ok
 os:s.os=X.s₀.os
 bare:AllBare s.gens
 base:Un X.fs X.ex X.H₀ H X.s₀.heap s.heap
 loc:∃ m,s.heap.Ns X.env.locals m/\∀ (i:Nat) (x:Str) (v:V),X.N[i]? = some x->σ[i]? = some (some v)->Nj X.env.scope x->∃ u,RelV v u/\Look X.env s.heap m x u
 cell:∀ x c,X.env.cells.lookup x=some c->∃ v,s.heap.IsCell c v
 free:H X.env.locals=none
 bT:∀ x c,X.env.cells.lookup x=some c->H c=none
 pin:∀ p∈X.pn++pins,s.heap.get? p.1=some p.2/\H p.1=none/\p.1≠X.env.locals/\p.1∉X.fs/\∀ v,p.2.data≠.cell v
 hok:gv X.prog X.w H s.heap
 len:σ.length=X.N.length
section
variable {X:Cx} {pins:List (Addr×Obj)} {σ:List (Option V)} {H H':Hp} {s:Shared} {h':Heap}
theorem Cx.Ok.nofr (ok:X.Ok) {b:Addr} {o:Obj} (e:X.base.get? b=some o):b∉X.fs:=fun hb=>by
 have:=(ok.gp.mem hb).1
 rw [e] at this;cases this
theorem Inv.bs (I:Inv X pins σ H s):∀ b o,X.base.get? b=some o->s.heap.get? b=some o/\H b=none:=fun b o e =>
 ⟨I.base.keep b o (I.ok.bs b o e).1 (I.ok.bs b o e).2 (I.ok.nofr e) (I.ok.pC b o e),I.base.free b o (I.ok.bs b o e).1 (I.ok.bs b o e).2 (I.ok.pC b o e)⟩
theorem Inv.bk (I:Inv X pins σ H s):∀ b o,X.base.get? b=some o->s.heap.get? b=some o:=fun b o e=>(I.bs b o e).1
theorem Inv.mod (I:Inv X pins σ H s):Mod X.K X.mg X.base:=I.ok.mod
theorem Inv.fF (I:Inv X pins σ H s):X.K.In s.heap:=I.ok.mod.yK.keeps I.bk
theorem Inv.lt (I:Inv X pins σ H s):X.env.locals<s.heap.objs.size:=let ⟨_,hn,_⟩:=I.loc;hn.lt
theorem Inv.sz (I:Inv X pins σ H s):X.s₀.heap.objs.size<=s.heap.objs.size:=Nat.le_trans I.ok.above (Nat.le_of_lt I.lt)
theorem Inv.KJ (I:Inv X pins σ H s) {a:Addr} (h:s.heap.objs.size<=a):a∉X.fs:=fun hb=>by
 obtain ⟨_,o,ho,_⟩:=I.ok.gp.mem hb
 exact absurd (Nat.lt_of_lt_of_le (Heap.lt_size ho) (Nat.le_trans I.sz h)) (Nat.lt_irrefl _)
theorem Inv.Aa (I:Inv X pins σ H s):∀ x c,X.env.cells.lookup x=some c->c≠X.env.locals:=fun x c e z=>by
 obtain ⟨v,o,ho,hd⟩:=I.cell x c e
 obtain ⟨m,⟨o',es,ep,ho',hd',_⟩,_⟩:=I.loc
 rw [z,ho'] at ho;cases ho;rw [hd'] at hd;cases hd
theorem Inv.gp (I:Inv X pins σ H s):s.heap.FunFrames X.base X.outer:=by
 have all:∀ (l:List Env),(∀ b∈frs l,b∈X.fs)->X.s₀.heap.FunFrames X.base l->s.heap.FunFrames X.base l:=by
  intro l
  induction l with
  | nil=>intro _ _;trivial
  | cons env r ih =>
   intro hs hl
   obtain ⟨hk,⟨L,o,hf,hn,ho,hd⟩,hr⟩:=hl
   have hL:L∈X.fs:=hs L (by unfold frs;rw [List.filterMap_cons,hf];exact List.mem_cons_self)
   obtain ⟨sl,e⟩:=I.base.slot L o ho (I.ok.zw L hL) hL fun z=>I.ok.r6 L z hL
   exact ⟨hk,⟨L,_,hf,hn,e,hd⟩,ih (fun b hb=>hs b (by unfold frs;rw [List.filterMap_cons,hf];exact List.mem_cons_of_mem _ hb)) hr⟩
 exact all X.outer (fun _ hb=>hb) I.ok.gp
theorem Inv.stack (I:Inv X pins σ H s):s.heap.FunFrames X.base X.stack:=by
 rcases I.ok.stk with e | ⟨e,hf⟩
 ·rw [e];exact I.gp
 ·rw [e]
  obtain ⟨m,hn,_⟩:=I.loc
  refine .cons (by rw [I.ok.kind];decide) hf hn ?_ I.gp
  exact Heap.get?_none_of_le (Nat.le_trans I.ok.wm I.ok.above)
theorem Inv.eE (I:Inv X pins σ H s):∀ b∈frs X.stack,b∈X.env.locals::X.fs:=fun b hb=>by
 rcases I.ok.stk with e | ⟨e,hf⟩
 ·rw [e] at hb;exact List.mem_cons_of_mem _ hb
 ·rw [e] at hb
  unfold frs at hb
  rw [List.filterMap_cons,hf] at hb
  exact hb
theorem Inv.gb (I:Inv X pins σ H s):∀ b∈frs X.stack,H b=none:=fun b hb=>by
 rcases List.mem_cons.mp (I.eE b hb) with e | hb
 ·rw [e];exact I.free
 ·obtain ⟨_,o,ho,_⟩:=I.ok.gp.mem hb
  exact I.base.free b o ho (I.ok.zw b hb) fun z=>I.ok.r6 b z hb
theorem Inv.step {g':Array GenState} {t':Nat} {d':Drawn} {ch:List Addr} (I:Inv X pins σ H s)
  (hch:∀ b∈ch,(b∈X.ex\/X.s₀.heap.objs.size<=b)/\b≠X.env.locals/\(∀ x c,X.env.cells.lookup x=some c->c≠b)/\∀ p∈X.pn++pins,p.1≠b)
  (keep:∀ b o,b≠X.env.locals->b∉X.fs->b∉ch->s.heap.get? b=some o->H b=none->h'.get? b=some o)
  (slot:∀ b o,b≠X.env.locals->b∈X.fs->b∉ch->s.heap.get? b=some o->H b=none->∃ sl,h'.get? b=some { o with slots:=sl }) (free:∀ b o,b∉ch->s.heap.get? b=some o->H b=none->H' b=none)
  (there:∀ b o,b∉ch->s.heap.get? b=some o->∃ o',h'.get? b=some o')
  (tups:∀ b xs,H b=some (.tup xs)->H' b=some (.tup xs)) (c7:∀ b o u,H b=some (.dF o u)->H' b=some (.dF o u)) (gj:∀ b ps,H b=some (.DC ps)->∃ more,H' b=some (.DC (ps++more)))
  (ns:∀ m,s.heap.Ns X.env.locals m->h'.Ns X.env.locals m) (hok:gv X.prog X.w H' h') (hg:AllBare g') :
  Inv X pins σ H' { s with heap:=h',gens:=g',drawn:=d',toks:=t' }:=by
 have neL:∀ b o,X.s₀.heap.get? b=some o->b≠X.env.locals:=fun b o e=>Nat.ne_of_lt (Nat.lt_of_lt_of_le (Heap.lt_size e) I.ok.above)
 have yk:∀ b o,X.s₀.heap.get? b=some o->b∉X.ex->b∉ch:=fun b o e hx hb=>by
  rcases (hch b hb).1 with z | z
  ·exact hx z
  ·exact absurd (Nat.lt_of_lt_of_le (Heap.lt_size e) z) (Nat.lt_irrefl _)
 have cellK:∀ x c,X.env.cells.lookup x=some c->∀ v,s.heap.IsCell c v->h'.IsCell c v:=fun x c e v ⟨o,ho,hd⟩=>by
  have KP:c∉ch:=fun z=>(hch c z).2.2.1 x c e rfl
  by_cases hc:c∈X.fs
  ·obtain ⟨sl,q⟩:=slot c o (I.Aa x c e) hc KP ho (I.bT x c e)
   exact ⟨_,q,hd⟩
  ·exact ⟨o,keep c o (I.Aa x c e) hc KP ho (I.bT x c e),hd⟩
 refine ⟨I.ok,I.os,hg,⟨fun b o e n hb hx=>?_,fun b o e n hb hx=>?_,fun b o e n hx=>?_,fun b o e hx=>?_,fun b xs e=>tups b xs (I.base.tups b xs e),fun b o xs e=>c7 b o xs (I.base.c7 b o xs e),fun b ps e=>?_⟩,?_,fun x c e=>?_,?_,fun x c e=>?_,fun p hp=>?_,hok,I.len⟩
 ·exact keep b o (neL b o e) hb (yk b o e hx) (I.base.keep b o e n hb hx) (I.base.free b o e n hx)
 ·obtain ⟨sl,e1⟩:=I.base.slot b o e n hb hx
  obtain ⟨DL,e2⟩:=slot b _ (neL b o e) hb (yk b o e hx) e1 (I.base.free b o e n hx)
  exact ⟨DL,e2⟩
 ·obtain ⟨o',e1⟩:=I.base.there b o e hx
  exact free b o' (yk b o e hx) e1 (I.base.free b o e n hx)
 ·obtain ⟨o',e1⟩:=I.base.there b o e hx
  exact there b o' (yk b o e hx) e1
 ·obtain ⟨m1,e1⟩:=I.base.gj b ps e
  obtain ⟨m2,e2⟩:=gj b _ e1
  exact ⟨m1++m2,by rw [e2,Array.append_assoc]⟩
 ·obtain ⟨m,hn,hl⟩:=I.loc
  refine ⟨m,ns m hn,fun i x v e1 e2 e3=>?_⟩
  obtain ⟨u,r,l⟩:=hl i x v e1 e2 e3
  refine ⟨u,r,?_⟩
  rcases l with l | ⟨k,c,e,z⟩
  ·exact .inl l
  ·exact .inr ⟨k,c,e,cellK x c e _ z⟩
 ·obtain ⟨v,z⟩:=I.cell x c e
  exact ⟨v,cellK x c e v z⟩
 ·obtain ⟨m,⟨o,_,_,ho,_⟩,_⟩:=I.loc
  exact free _ o (fun z=>(hch _ z).2.1 rfl) ho I.free
 ·obtain ⟨v,o,ho,hd⟩:=I.cell x c e
  exact free c o (fun z=>(hch c z).2.2.1 x c e rfl) ho (I.bT x c e)
 ·obtain ⟨e,n,ne,nf,d⟩:=I.pin p hp
  have KP:p.1∉ch:=fun z=>(hch p.1 z).2.2.2 p hp rfl
  exact ⟨keep p.1 p.2 ne nf KP e n,free p.1 p.2 KP e n,ne,nf,d⟩
theorem Inv.un {t':Nat} (I:Inv X pins σ H s) (u:Un X.fs [] H H' s.heap h') (hok:gv X.prog X.w H' h'):Inv X pins σ H' { s with heap:=h',toks:=t' }:=by
 obtain ⟨m,⟨o,es,ep,ho,r⟩,_⟩:=id I.loc
 obtain ⟨sl,hL⟩:=u.any ho I.free (by simp)
 exact I.step (g':=s.gens) (d':=s.drawn) (ch:=[]) (fun _ z=>nomatch z) (fun b o _ hb _ e n=>u.keep b o e n hb (by simp)) (fun b o _ hb _ e n=>u.slot b o e n hb (by simp)) (fun b o _ e n=>u.free b o e n (by simp)) (fun b o _ e=>u.there b o e (by simp)) u.tups u.c7 u.gj (fun m' hm=>by
  obtain ⟨o',es',LD,ho',r'⟩:=hm
  rw [ho] at ho';cases ho'
  exact ⟨_,es',LD,hL,r'⟩) hok I.bare
theorem Inv.call {g':Array GenState} {t':Nat} {d':Drawn} {ch:List Addr} (I:Inv X pins σ H s) (u:Un (frs X.stack) ch H H' s.heap h') (hok:gv X.prog X.w H' h') (hg:AllBare g')
  (hch:∀ b∈ch,(b∈X.ex\/X.s₀.heap.objs.size<=b)/\b≠X.env.locals/\(∀ x c,X.env.cells.lookup x=some c->c≠b)/\∀ p∈X.pn++pins,p.1≠b) :
  Inv X pins σ H' { s with heap:=h',gens:=g',drawn:=d',toks:=t' }:=by
 obtain ⟨m,⟨o,es,ep,ho,r⟩,_⟩:=id I.loc
 obtain ⟨sl,hL⟩:=u.any ho I.free fun z=>(hch _ z).2.1 rfl
 exact I.step (ch:=ch) hch (fun b o hL hb hc e n=>u.keep b o e n (fun z=>(List.mem_cons.mp (I.eE b z)).elim hL hb) hc) (fun b o _ _ hc e n=>u.any e n hc) (fun b o hc e n=>u.free b o e n hc) (fun b o hc e=>u.there b o e hc) u.tups u.c7 u.gj (fun m' hm=>by
  obtain ⟨o',es',LD,ho',r'⟩:=hm
  rw [ho] at ho';cases ho'
  exact ⟨_,es',LD,hL,r'⟩) hok hg
theorem Inv.turned {t':Nat} {it:Addr} (I:Inv X pins σ H s) (k:∀ b o,b≠it->s.heap.get? b=some o->h'.get? b=some o) (hn:H it=none) (hL:it≠X.env.locals)
  (h1:it∈X.ex\/X.s₀.heap.objs.size<=it) (h2:∀ x c,X.env.cells.lookup x=some c->c≠it) (h3:∀ p∈X.pn++pins,p.1≠it):Inv X pins σ H { s with heap:=h',toks:=t' }:=by
 have nit:∀ b u,H b=some u->b≠it:=fun b u e z=>by rw [z,hn] at e;cases e
 refine I.step (g':=s.gens) (d':=s.drawn) (ch:=[it]) (fun b hb=>?_) (fun b o _ _ hc e _=>k b o (fun z=>hc (by simp [z])) e) (fun b o _ _ hc e _=>⟨o.slots,k b o (fun z=>hc (by simp [z])) e⟩) (fun _ _ _ _ n=>n)
  (fun b o hc e=>⟨o,k b o (fun z=>hc (by simp [z])) e⟩) (fun _ _ e=>e) (fun _ _ _ e=>e) (fun b ps e=>⟨#[],by rw [e];simp⟩) (fun m hm=>?_) (fun b u e=>?_) I.bare
 ·have e:b=it:=by simpa using hb
  subst e
  exact ⟨h1,hL,h2,h3⟩
 ·obtain ⟨o,es,ep,ho,r⟩:=hm
  exact ⟨o,es,ep,k _ o (Ne.symm hL) ho,r⟩
 ·refine (I.hok b u e).stay (fun c v hc q=>k c v ?_ q) (fun _ q=>q) fun _ _ q=>q
  rcases hc with z | z
  ·rw [z];exact nit b u e
  ·exact nit c _ z
theorem Inv.tok (I:Inv X pins σ H s) (t:Nat):Inv X pins σ H { s with toks:=t }:=I.un (h':=s.heap) (t':=t) Un.refl I.hok
theorem Inv.kept {t':Nat} (I:Inv X pins σ H s) (k:∀ b u,s.heap.get? b=some u->h'.get? b=some u):Inv X pins σ H { s with heap:=h',toks:=t' }:=I.un (Un.kept k) (I.hok.kept k)
theorem Inv.laid {a:Addr} {o:HO} {t':Nat} (I:Inv X pins σ H s) (k:∀ b u,s.heap.get? b=some u->h'.get? b=some u) (hp:s.heap.objs.size<=a) (new:aO X.prog X.w (upd H a o) h' a o) :
  Inv X pins σ (upd H a o) { s with heap:=h',toks:=t' }:=I.un (Un.laid k hp (I.hok.fresh hp)) (I.hok.laid k hp new)
theorem Inv.write {x e:Addr} {o:HO} {t':Nat} (I:Inv X pins σ H s) (mu:Ma (H x)) (he:e=x\/H e=some (.own x)) (k:∀ b u,b≠e->s.heap.get? b=some u->h'.get? b=some u) (CH:∃ u,h'.get? e=some u)
  (new:aO X.prog X.w (upd H x o) h' x o):Inv X pins σ (upd H x o) { s with heap:=h',toks:=t' }:=I.un (Un.write mu he k CH) (I.hok.write mu he k CH new)
theorem Inv.tR {j9:List (Addr×Obj)} (I:Inv X pins σ H s) (h:∀ p∈j9,s.heap.get? p.1=some p.2/\H p.1=none/\p.1≠X.env.locals/\p.1∉X.fs/\∀ v,p.2.data≠.cell v):Inv X j9 σ H s :=
 ⟨I.ok,I.os,I.bare,I.base,I.loc,I.cell,I.free,I.bT,fun p hp=>(List.mem_append.mp hp).elim (fun z=>I.pin p (List.mem_append_left _ z)) (h p),I.hok,I.len⟩
theorem ki {N:List Str} (hN:N.Nodup) {i j:Nat} {x:Str} (a:N[i]? = some x) (b:N[j]? = some x):i=j:=by
 obtain ⟨h1,e1⟩:=List.getElem?_eq_some_iff.mp a
 obtain ⟨h2,e2⟩:=List.getElem?_eq_some_iff.mp b
 exact (List.getElem_inj hN).mp (e1.trans e2.symm)
theorem lF {M:Model} {A:Around} {E:Value->Shared->Prop} {i:Nat} {x:Str} {v:V} {u:Value} {Q:Unit->Shared->Prop} (I:Inv X pins σ H s) (hN:X.N.Nodup) (hi:X.N[i]? = some x) (hx:Loc X.env.scope x) (r:RelV v u)
  (h:∀ s',Inv X pins (σ.set i (some v)) H s'->(∃ a,Heap.SameBut a s.heap s'.heap/\(a=X.env.locals\/X.env.cells.lookup x=some a))->Q () s') (hf:X.fn x=true\/X.env.scope.names.lookup x=some .local:=by first | exact .inl rfl | exact .inr rfl | assumption):wpAny M A (storeName X.env x u) Q E s:=by
 obtain ⟨m,hn,hl⟩:=id I.loc
 have hcls:(X.env.scope.kind == .class||(X.env.scope.kind == .module&&X.env.locals != X.env.globals))=false:=by rw [I.ok.kind];rfl
 have Ld:i<σ.length:=by rw [I.len];exact (List.getElem?_eq_some_iff.mp hi).1
 have Aa:=I.Aa
 have tracked:∀ {a:Addr} {h':Heap},(∃ o,s.heap.get? a=some o/\H a=none)->Heap.SameBut a s.heap h'->gv X.prog X.w H h':=fun {a h'} ha hs b ob e=>by
  obtain ⟨_,_,hfree⟩:=ha
  refine (I.hok b ob e).stay (fun c w' hc q=>(hs.2 c ?_).trans q) (fun _ q=>q) fun _ _ q=>q
  rintro rfl
  rcases hc with rfl | hc
  ·rw [hfree] at e;cases e
  ·rw [hfree] at hc;cases hc
 rcases hx with hk | hk
 ·refine wpAny_storeName_local hk hn (fun h' hn' hs=>?_) hcls
  obtain ⟨oL,_,_,hoL,_⟩:=id hn
  refine h _ ⟨I.ok,I.os,I.bare,⟨fun b o e n hb hx=>?_,fun b o e n hb hx=>?_,I.base.free,fun b o e hx=>?_,I.base.tups,I.base.c7,I.base.gj⟩,⟨_,hn',fun j y v' e1 e2 e3=>?_⟩,fun y c e=>?_,I.free,I.bT,fun p hp=>?_,tracked ⟨oL,hoL,I.free⟩ hs,by simpa using I.len⟩ ⟨_,hs,.inl rfl⟩
  ·exact (hs.2 b (Nat.ne_of_lt (Nat.lt_of_lt_of_le (Heap.lt_size e) I.ok.above))).trans (I.base.keep b o e n hb hx)
  ·obtain ⟨sl,e1⟩:=I.base.slot b o e n hb hx
   exact ⟨sl,(hs.2 b (Nat.ne_of_lt (Nat.lt_of_lt_of_le (Heap.lt_size e) I.ok.above))).trans e1⟩
  ·obtain ⟨o',e1⟩:=I.base.there b o e hx
   exact ⟨o',(hs.2 b (Nat.ne_of_lt (Nat.lt_of_lt_of_le (Heap.lt_size e) I.ok.above))).trans e1⟩
  ·by_cases hj:j=i
   ·subst hj
    rw [hi] at e1;cases e1
    rw [List.getElem?_set_self Ld] at e2
    cases e2
    exact ⟨u,r,.inl ⟨hk,by simp⟩⟩
   ·rw [List.getElem?_set_ne (Ne.symm hj)] at e2
    obtain ⟨u',r',q⟩:=hl j y v' e1 e2 e3
    refine ⟨u',r',?_⟩
    rcases q with ⟨k,e⟩ | ⟨k,c,e,z⟩
    ·refine .inl ⟨k,?_⟩
     have:y≠x:=fun e=>hj (ki hN e1 (e ▸ hi))
     simp [this,e]
    ·exact .inr ⟨k,c,e,z.sameBut hs (Aa y c e)⟩
  ·obtain ⟨w',z⟩:=I.cell y c e
   exact ⟨w',z.sameBut hs (Aa y c e)⟩
  ·obtain ⟨e,n,ne,nf,d⟩:=I.pin p hp
   exact ⟨(hs.2 p.1 ne).trans e,n,ne,nf,d⟩
 ·have hfn:X.fn x=true:=by
   rcases hf with z | z
   ·exact z
   ·rw [z] at hk;cases hk
  obtain ⟨c,hc⟩:=I.ok.has x (.inl hk)
  obtain ⟨w',z⟩:=I.cell x c hc
  refine wpAny_storeName_cell I.ok.kind hk hc z (fun h' hc' hs=>?_)
  obtain ⟨oc,hoc,hocd⟩:=id z
  refine h { s with heap:=h' } ⟨I.ok,I.os,I.bare,⟨fun b o e n hb hx=>?_,fun b o e n hb hx=>?_,I.base.free,fun b o e hx=>?_,I.base.tups,I.base.c7,I.base.gj⟩,⟨m,hn.sameBut hs (Ne.symm (Aa x c hc)),fun j y v' e1 e2 e3=>?_⟩,fun y c' e=>?_,I.free,I.bT,fun p hp=>?_,tracked ⟨oc,hoc,I.bT x c hc⟩ hs,by simpa using I.len⟩ ⟨c,hs,.inr hc⟩
  ·exact (hs.2 b (Nat.ne_of_lt (Nat.lt_of_lt_of_le (Heap.lt_size e) (I.ok.EI x c hfn hc)))).trans (I.base.keep b o e n hb hx)
  ·obtain ⟨sl,e1⟩:=I.base.slot b o e n hb hx
   exact ⟨sl,(hs.2 b (Nat.ne_of_lt (Nat.lt_of_lt_of_le (Heap.lt_size e) (I.ok.EI x c hfn hc)))).trans e1⟩
  ·obtain ⟨o',e1⟩:=I.base.there b o e hx
   exact ⟨o',(hs.2 b (Nat.ne_of_lt (Nat.lt_of_lt_of_le (Heap.lt_size e) (I.ok.EI x c hfn hc)))).trans e1⟩
  ·by_cases hj:j=i
   ·subst hj
    rw [hi] at e1;cases e1
    rw [List.getElem?_set_self Ld] at e2
    cases e2
    exact ⟨u,r,.inr ⟨.inl hk,c,hc,hc'⟩⟩
   ·rw [List.getElem?_set_ne (Ne.symm hj)] at e2
    obtain ⟨u',r',q⟩:=hl j y v' e1 e2 e3
    refine ⟨u',r',?_⟩
    rcases q with q | ⟨k,c',e,z'⟩
    ·exact .inl q
    ·refine .inr ⟨k,c',e,z'.sameBut hs ?_⟩
     rintro rfl
     exact hj (ki hN e1 (I.ok.inj _ _ _ e hc ▸ hi))
  ·by_cases hcc:c'=c
   ·subst hcc;exact ⟨_,hc'⟩
   ·obtain ⟨w2,z2⟩:=I.cell y c' e
    exact ⟨w2,z2.sameBut hs hcc⟩
  ·obtain ⟨e,n,ne,nf,d⟩:=I.pin p hp
   refine ⟨(hs.2 p.1 ?_).trans e,n,ne,nf,d⟩
   intro q
   rw [q,hoc] at e
   have q':oc=p.2:=Option.some.inj e
   exact d w' (by rw [<- q'];exact hocd)
theorem jY {M:Model} {A:Around} {E:Value->Shared->Prop} {i:Nat} {x:Str} {v:V} {u:Value} {Q:Unit->Shared->Prop} (I:Inv X pins σ H s) (hN:X.N.Nodup) (hi:X.N[i]? = some x) (hx:Loc X.env.scope x) (r:RelV v u)
  (h:∀ s',Inv X pins (σ.set i (some v)) H s'->Q () s') (hf:X.fn x=true\/X.env.scope.names.lookup x=some .local:=by first | exact .inl rfl | exact .inr rfl | assumption):wpAny M A (storeName X.env x u) Q E s :=
 lF I hN hi hx r (fun s' I' _=>h s' I') hf
theorem Inv.Af {s':Shared} {ch:List Addr} (I:Inv X pins σ H s) (ho:s'.os=s.os) (u:Un (frs X.stack) ch H H' s.heap s'.heap) (hok:gv X.prog X.w H' s'.heap) (hg:AllBare s'.gens)
  (hch:∀ b∈ch,(b∈X.ex\/X.s₀.heap.objs.size<=b)/\b≠X.env.locals/\(∀ x c,X.env.cells.lookup x=some c->c≠b)/\∀ p∈X.pn++pins,p.1≠b):Inv X pins σ H' s':=by
 obtain ⟨h',g',d',t',o'⟩:=s'
 have e:o'=s.os:=ho
 subst e
 exact I.call (g':=g') (t':=t') (d':=d') u hok hg hch
end
noncomputable abbrev XK:=Value->Option Addr->Hp->Prop
noncomputable abbrev St:=List (Option V)
noncomputable abbrev VK:=V->Hp->Prop
noncomputable abbrev TE:=St->Hp->VK->Prop
noncomputable abbrev TT:=St->Hp->(Bool->Hp->Prop)->Prop
noncomputable abbrev TA:=St->Hp->(List V->Hp->Prop)->Prop
structure Ends where
 nx:St->Hp->Prop
 rt:VK
 bk:St->Hp->Prop:=fun _ _=>False
 ct:St->Hp->Prop:=fun _ _=>False
noncomputable abbrev TS:=Ends->St->Hp->Prop
noncomputable def EP (X:Cx) (pins:List (Addr×Obj)) (σ:St) (Q:VK) (u:Value) (s':Shared):Prop:=∃ v H',Inv X pins σ H' s'/\RelV v u/\Q v H'
noncomputable def TP (X:Cx) (pins:List (Addr×Obj)) (σ:St) (Q:Bool->Hp->Prop) (b:Bool) (s':Shared):Prop:=∃ H',Inv X pins σ H' s'/\Q b H'
noncomputable def AP (X:Cx) (pins:List (Addr×Obj)) (σ:St) (Q:List V->Hp->Prop) (us:List Value) (s':Shared):Prop:=∃ vs H',Inv X pins σ H' s'/\Vals vs us/\Q vs H'
noncomputable def SP (X:Cx) (pins:List (Addr×Obj)) (D:Ends) (f:Flow) (s':Shared):Prop :=
 match f with
 | .next=>∃ σ' H',Inv X pins σ' H' s'/\D.nx σ' H'
 | .brk=>∃ σ' H',Inv X pins σ' H' s'/\D.bk σ' H'
 | .cont=>∃ σ' H',Inv X pins σ' H' s'/\D.ct σ' H'
 | .ret u=>∃ v σ' H',Inv X pins σ' H' s'/\RelV v u/\D.rt v H'
noncomputable def PE (X:Cx) (e:Expr) (t:TE):Prop :=
 ∀ (pins:List (Addr×Obj)) (s:Shared) (σ:St) (H:Hp) (Q:VK),Inv X pins σ H s->t σ H Q->wpAny (model X.prog X.w) X.A (eval e X.env) (EP X pins σ Q) X.xe s
noncomputable def PT (X:Cx) (e:Expr) (t:TT):Prop :=
 ∀ (pins:List (Addr×Obj)) (s:Shared) (σ:St) (H:Hp) (Q:Bool->Hp->Prop),Inv X pins σ H s->t σ H Q->wpAny (model X.prog X.w) X.A (isTrue e X.env (eval e X.env)) (TP X pins σ Q) X.xe s
noncomputable def PW (X:Cx) (e:Expr) (t:TT):Prop :=
 ∀ (whole:Sem Value) (pins:List (Addr×Obj)) (s:Shared) (σ:St) (H:Hp) (Q:Bool->Hp->Prop),Inv X pins σ H s->t σ H Q->wpAny (model X.prog X.w) X.A (isTrue e X.env whole) (TP X pins σ Q) X.xe s
theorem PW.pt {X:Cx} {e:Expr} {t:TT} (h:PW X e t):PT X e t:=h _
noncomputable def PA (X:Cx) (es:List Expr) (t:TA):Prop :=
 ∀ (pos:Pos) (pins:List (Addr×Obj)) (s:Shared) (σ:St) (H:Hp) (Q:List V->Hp->Prop),Inv X pins σ H s->t σ H Q->wpAny (model X.prog X.w) X.A (spliced (backTo pos (starEach es X.env))) (AP X pins σ Q) X.xe s
noncomputable def PS (X:Cx) (st:Stmt) (t:TS):Prop :=
 ∀ (pins:List (Addr×Obj)) (s:Shared) (σ:St) (H:Hp) (D:Ends),Inv X pins σ H s->t D σ H->wpAny (model X.prog X.w) X.A (exec st X.env) (SP X pins D) X.xe s
noncomputable def jd (X:Cx) (st:List Stmt) (t:TS):Prop :=
 ∀ (pins:List (Addr×Obj)) (s:Shared) (σ:St) (H:Hp) (D:Ends),Inv X pins σ H s->t D σ H->wpAny (model X.prog X.w) X.A (execs st X.env) (SP X pins D) X.xe s
theorem aS {α:Type} {t:Sem α} {Q Q':α->Shared->Prop} {M:Model} {A:Around} {E:Value->Shared->Prop} {s:Shared} (h:wpAny M A t Q E s) (hQ:∀ a s,Q a s->Q' a s):wpAny M A t Q' E s:=wpAny_mono h hQ fun _ _ x=>x
section
variable {X:Cx}
noncomputable def AW (i:Nat):TE:=fun σ H Q=>∃ v,σ[i]? = some (some v)/\Q v H
noncomputable def tC (v:V):TE:=fun _ H Q=>Q v H
theorem xU {i:Nat} {x:Str} {pos:Pos} (hN:X.N[i]? = some x) (hv:Nj X.env.scope x) (hd:(x == ("__debug__" : Str))=false:=by decide) (hcd:(x == ("__classdict__" : Str))=false:=by decide):PE X (.Name x pos) (AW i):=by
 intro pins s σ H Q I h
 obtain ⟨v,e,h⟩:=h
 obtain ⟨m,hn,hl⟩:=I.loc
 obtain ⟨u,r,l⟩:=hl i x v hN e hv
 have fin:EP X pins σ Q u s:=⟨v,H,I,r,h⟩
 rcases l with ⟨hk,hm⟩ | ⟨hk,c,hc,hcell⟩
 ·exact wpAny_Name (wpAny_loadName_local I.ok.kind hk hn hm fin) hd
 ·rcases hk with hk | hk
  ·exact wpAny_Name (wpAny_loadName_cell I.ok.kind hk hc hcell fin) hd
  ·exact wpAny_Name (wpAny_loadName_free I.ok.kind hk hc hcell fin hcd) hd
theorem Gj {i j pos}:PE X (.Constant (.int i) j pos) (tC (.int i)):=fun _ _ _ H _ I h=>wpAny_Constant_int ⟨.int i,H,I.tok _,⟨_,rfl⟩,h⟩
theorem Kr {b j pos}:PE X (.Constant (.bool b) j pos) (tC (.bl b)):=fun _ _ _ H _ I h=>Constant_bool ⟨.bl b,H,I,rfl,h⟩
theorem Gg {j pos}:PE X (.Constant .none j pos) (tC .ao):=fun _ _ _ H _ I h=>Constant_none ⟨.ao,H,I,rfl,h⟩
theorem qV {x j pos}:PE X (.Constant (.str x) j pos) (tC (.str x)):=fun _ _ _ H _ I h=>Calls.Constant_str ⟨.str x,H,I.tok _,⟨_,rfl⟩,h⟩
noncomputable def Gl (X:Cx) (x:Str):Prop:=X.env.kindOf x=some .globalImplicit
theorem cJ {E:Value->Shared->Prop} {pins:List (Addr×Obj)} {s:Shared} {σ:St} {H:Hp} {x:Str} {u:Value} {pos:Pos} {Q:Value->Shared->Prop} (I:Inv X pins σ H s) (hg:Gl X x) (hm:X.mg x=some u) (h:Q u s)
  (hd:(x == ("__debug__" : Str))=false:=by decide):wpAny (model X.prog X.w) X.A (eval (.Name x pos) X.env) Q E s :=
 Calls.Name_function_global I.ok.kind hg (Calls.loadGlobal_global (by rw [I.ok.glob];exact I.mod.glob.keeps I.bk) hm h) hd
theorem kr {E:Value->Shared->Prop} {pins:List (Addr×Obj)} {s:Shared} {σ:St} {H:Hp} {x:Str} {u:Value} {pos:Pos} {Q:Value->Shared->Prop} (I:Inv X pins σ H s) (hg:Gl X x) (hm:X.mg x=none) (hv:bootBuiltins x=some u) (h:Q u s)
  (hn:x≠"__name__":=by decide) (hd:(x == ("__debug__" : Str))=false:=by decide):wpAny (model X.prog X.w) X.A (eval (.Name x pos) X.env) Q E s:=by
 obtain ⟨mb,h1,h2⟩:=I.mod.blt
 exact Calls.Name_function_global I.ok.kind hg (Calls.loadGlobal_builtin (by rw [I.ok.glob];exact I.mod.glob.keeps I.bk) hm (by rw [I.ok.blt];exact h1.keeps I.bk) ((h2 x hn).trans hv) h) hd
theorem tT {x:Str} {v:V} {u:Value} {pos:Pos} (hg:Gl X x) (hm:X.mg x=some u) (r:RelV v u) (hd:(x == ("__debug__" : Str))=false:=by decide):PE X (.Name x pos) (tC v) :=
 fun _ _ _ H _ I h=>cJ I hg hm ⟨v,H,I,r,h⟩ hd
theorem tV {x:Str} {v:V} {u:Value} {pos:Pos} (hg:Gl X x) (hm:X.mg x=none) (hv:bootBuiltins x=some u) (r:RelV v u) (hn:x≠"__name__":=by decide) (hd:(x == ("__debug__" : Str))=false:=by decide):PE X (.Name x pos) (tC v) :=
 fun _ _ _ H _ I h=>kr I hg hm hv ⟨v,H,I,r,h⟩ hn hd
variable {a b:Expr} {ta tb:TE} {pos:Pos}
noncomputable def tB (t:TE):TT:=fun σ H Q=>t σ H fun x H1=>∃ c,x=.bl c/\Q c H1
theorem FU {e:Expr} {t:TE} (h:PE X e t) (he:∀ whole,isTrue e X.env whole=(do let v <- whole;standAt e.pos;holding [v] (truthy v)):=by intro _;rfl):PT X e (tB t):=by
 intro pins s σ H Q I hw
 refine isTrue_plain (aS (h pins s σ H _ I hw) fun v s1 ⟨x,H1,I1,r1,q1⟩=>?_) (he _)
 obtain ⟨d,rfl,q⟩:=q1
 cases r1
 exact wpAny_truthy_bool ⟨H1,I1,q⟩
variable {tA Mn:TT} {rest:List Expr}
noncomputable def JK (t u:TT):TT:=fun σ H Q=>t σ H fun c H1=>if c=true then u σ H1 Q else Q false H1
noncomputable def tOr (t u:TT):TT:=fun σ H Q=>t σ H fun c H1=>if c=true then Q true H1 else u σ H1 Q
noncomputable def JE (t:TT):TT:=fun σ H Q=>t σ H fun c H1=>Q (!c) H1
theorem pw_and1 (ha:PT X a tA):PW X (.BoolOp .And [a] pos) tA:=by
 intro wh pins s σ H Q I h
 refine isTrue_and (aS (ha pins s σ H Q I h) fun c s1 e=>?_)
 cases c with
 | true=>exact isTrue_and_nil e
 | false=>exact e
theorem pw_or1 (ha:PT X a tA):PW X (.BoolOp .Or [a] pos) tA:=by
 intro wh pins s σ H Q I h
 refine isTrue_or (aS (ha pins s σ H Q I h) fun c s1 e=>?_)
 cases c with
 | false=>exact isTrue_or_nil e
 | true=>exact e
theorem pw_and (ha:PT X a tA) (hb:PW X (.BoolOp .And (b::rest) pos) Mn):PW X (.BoolOp .And (a::b::rest) pos) (JK tA Mn):=by
 intro wh pins s σ H Q I h
 refine isTrue_and (aS (ha pins s σ H _ I h) fun c s1 ⟨H1,I1,q1⟩=>?_)
 cases c with
 | true=>exact hb wh pins s1 σ H1 Q I1 q1
 | false=>exact ⟨H1,I1,q1⟩
theorem pw_or (ha:PT X a tA) (hb:PW X (.BoolOp .Or (b::rest) pos) Mn):PW X (.BoolOp .Or (a::b::rest) pos) (tOr tA Mn):=by
 intro wh pins s σ H Q I h
 refine isTrue_or (aS (ha pins s σ H _ I h) fun c s1 ⟨H1,I1,q1⟩=>?_)
 cases c with
 | true=>exact ⟨H1,I1,q1⟩
 | false=>exact hb wh pins s1 σ H1 Q I1 q1
theorem FW (ha:PT X a tA):PT X (.UnaryOp .Not a pos) (JE tA):=by
 intro pins s σ H Q I h
 exact isTrue_not (ha pins s σ H (fun c H1=>Q (!c) H1) I h)
noncomputable def DJ (ta tb:TE):TE:=fun σ H Q=>ta σ H fun x H1=>∃ c,x=.bl c/\if c=true then tb σ H1 Q else Q (.bl false) H1
noncomputable def JD (ta tb:TE):TE:=fun σ H Q=>ta σ H fun x H1=>∃ c,x=.bl c/\if c=true then Q (.bl true) H1 else tb σ H1 Q
noncomputable def DF (ta:TE):TE:=fun σ H Q=>ta σ H fun x H1=>∃ c,x=.bl c/\Q (.bl (!c)) H1
theorem Ge {op} {t:TE} (h:PE X a t):PE X (.BoolOp op [a] pos) t:=fun pins s σ H Q I hw=>BoolOp_one (h pins s σ H Q I hw)
theorem Gn (ha:PE X a ta) (hb:PE X (.BoolOp .And (b::rest) pos) tb):PE X (.BoolOp .And (a::b::rest) pos) (DJ ta tb):=by
 intro pins s σ H Q I h
 refine BoolOp_and (aS (ha pins s σ H _ I h) fun v s1 ⟨x,H1,I1,r1,q1⟩=>?_)
 obtain ⟨c,rfl,q1⟩:=q1
 cases r1
 refine wpAny_truthy_bool ?_
 cases c with
 | true=>exact hb pins s1 σ H1 Q I1 q1
 | false=>exact ⟨.bl false,H1,I1,rfl,q1⟩
theorem Ko (ha:PE X a ta) (hb:PE X (.BoolOp .Or (b::rest) pos) tb):PE X (.BoolOp .Or (a::b::rest) pos) (JD ta tb):=by
 intro pins s σ H Q I h
 refine BoolOp_or (aS (ha pins s σ H _ I h) fun v s1 ⟨x,H1,I1,r1,q1⟩=>?_)
 obtain ⟨c,rfl,q1⟩:=q1
 cases r1
 refine wpAny_truthy_bool ?_
 cases c with
 | false=>exact hb pins s1 σ H1 Q I1 q1
 | true=>exact ⟨.bl true,H1,I1,rfl,q1⟩
theorem Gf (ha:PE X a ta):PE X (.UnaryOp .Not a pos) (DF ta):=by
 intro pins s σ H Q I h
 refine UnaryOp_ (aS (ha pins s σ H _ I h) fun v s1 ⟨x,H1,I1,r1,q1⟩=>?_)
 obtain ⟨c,rfl,q1⟩:=q1
 cases r1
 exact not_of (wpAny_truthy_bool ⟨.bl (!c),H1,I1,rfl,q1⟩)
noncomputable def tIf (t:TT) (ta tb:TE):TE:=fun σ H Q=>t σ H fun c H1=>if c=true then ta σ H1 Q else tb σ H1 Q
theorem xZ {c:Expr} (hc:PT X c tA) (ha:PE X a ta) (hb:PE X b tb):PE X (.IfExp c a b pos) (tIf tA ta tb):=by
 intro pins s σ H Q I h
 refine wpAny_IfExp (aS (hc pins s σ H _ I h) fun d s1 ⟨H1,I1,q1⟩=>?_)
 cases d with
 | true=>exact ha pins s1 σ H1 Q I1 q1
 | false=>exact hb pins s1 σ H1 Q I1 q1
end
noncomputable def fq (K:PySem.W.Frag) (H:Hp) (a:Addr) (xs:List V):Prop :=
 Rd H a (.lst xs) \/
  ∃ (o:Obj) (its:Array Value) (n:Nat), K.lookup a=some o/\o.cls=.type "list"/\o.dict=none/\o.data=.seq its n/\its.size<=sizeLine/\Vals xs its.toList
noncomputable def gE (K:PySem.W.Frag) (H:Hp) (a:Addr) (xs:List V):Prop :=
 Rd H a (.tup xs) \/
  ∃ (o:Obj) (its:Array Value) (n:Nat), K.lookup a=some o/\o.cls=.type "tuple"/\o.data=.seq its n/\its.size<=sizeLine/\Vals xs its.toList
noncomputable def absV:Value->Option V
 | .none=>some .ao
 | .bool b=>some (.bl b)
 | .int i _=>some (.int i)
 | .str x _=>some (.str x)
 | .bytes b _=>some (.wM b)
 | .float b _=>some (.MS b)
 | .ref a=>some (.ref a)
 | .type n=>some (.ty n)
 | _=>none
theorem RelV.abs {x:V} {u:Value} (r:RelV x u):absV u=some x:=by
 cases x with
 | ao=>cases r;rfl
 | bl _=>cases r;rfl
 | int _=>obtain ⟨t,rfl⟩:=r;rfl
 | str _=>obtain ⟨t,rfl⟩:=r;rfl
 | wM _=>obtain ⟨t,rfl⟩:=r;rfl
 | MS _=>obtain ⟨t,rfl⟩:=r;rfl
 | ref _=>cases r;rfl
 | ty _=>cases r;rfl
theorem RelV.inj {x y:V} {u:Value} (r:RelV x u) (q:RelV y u):x=y:=Option.some.inj (r.abs.symm.trans q.abs)
theorem Vals.inj:∀ {xs ys:List V} {us:List Value},Vals xs us->Vals ys us->xs=ys
 | _,_,_,.nil,.nil=>rfl
 | _,_,_,.cons r t,.cons r' t'=>by rw [r.inj r',Vals.inj t t']
section
variable {X:Cx} {pins:List (Addr×Obj)} {σ:St} {H:Hp} {s:Shared} {a:Addr} {xs ys:List V}
theorem Inv.list (I:Inv X pins σ H s) (h:fq X.K H a xs):∃ its:List Value,Vals xs its/\PlainL s.heap a its.toArray/\xs.length<=sizeLine:=by
 rcases h with h | ⟨o,its,n,hk,hc,hd,hs,hz,r⟩
 ·obtain ⟨z,its,n,r,e⟩:=h.ok I.hok
  exact ⟨its,r,⟨_,n,e,rfl,rfl,rfl⟩,z⟩
 ·refine ⟨its.toList,r,⟨o,n,I.fF a o hk,hc,hd,by simpa using hs⟩,?_⟩
  have e:=r.length
  simp only [Array.length_toList] at e
  omega
theorem Inv.tuple (I:Inv X pins σ H s) (h:gE X.K H a xs):∃ its:List Value,Vals xs its/\IsTup s.heap a its.toArray/\xs.length<=sizeLine:=by
 rcases h with h | ⟨o,its,n,hk,hc,hs,hz,r⟩
 ·obtain ⟨z,its,r,p⟩:=h.ok I.hok
  exact ⟨its,r,p,z⟩
 ·refine ⟨its.toList,r,⟨o,I.fF a o hk,hc,n,by simpa using hs⟩,?_⟩
  have e:=r.length
  simp only [Array.length_toList] at e
  omega
theorem Inv.pN (I:Inv X pins σ H s) (h:fq X.K H a xs) (h':fq X.K H a ys):xs=ys:=by
 obtain ⟨its,r,⟨o,n,e,_,_,d⟩,_⟩:=I.list h
 obtain ⟨its',r',⟨o',n',e',_,_,d'⟩,_⟩:=I.list h'
 rw [e] at e';cases e'
 rw [d] at d'
 injection d' with d1 _
 have:its=its':=by simpa using congrArg Array.toList d1
 subst this
 exact r.inj r'
theorem Inv.lD (I:Inv X pins σ H s) (h:gE X.K H a xs) (h':gE X.K H a ys):xs=ys:=by
 obtain ⟨its,r,⟨o,e,_,n,d⟩,_⟩:=I.tuple h
 obtain ⟨its',r',⟨o',e',_,n',d'⟩,_⟩:=I.tuple h'
 rw [e] at e';cases e'
 rw [d] at d'
 injection d' with d1 _
 have:its=its':=by simpa using congrArg Array.toList d1
 subst this
 exact r.inj r'
end
noncomputable abbrev Cx.bM (X:Cx) (E:Value->Shared->Prop):Cx:={ X with xe:=E }
noncomputable abbrev Cx.D3 (X:Cx):Cx:=X.bM fun _ _=>False
theorem Cx.Ok.bM {X:Cx} (ok:X.Ok) (E:Value->Shared->Prop):(X.bM E).Ok :=
 ⟨ok.mod,ok.kind,ok.glob,ok.blt,ok.above,ok.inj,ok.has,ok.EI,ok.hd,ok.frames,ok.stk,ok.Lq,ok.bs,ok.wm,ok.pC,ok.r6,ok.gp,ok.zw⟩
theorem Cx.Ok.aX {X:Cx} {E:Value->Shared->Prop} (ok:(X.bM E).Ok):X.Ok :=
 ⟨ok.mod,ok.kind,ok.glob,ok.blt,ok.above,ok.inj,ok.has,ok.EI,ok.hd,ok.frames,ok.stk,ok.Lq,ok.bs,ok.wm,ok.pC,ok.r6,ok.gp,ok.zw⟩
section
variable {X:Cx} {pins:List (Addr×Obj)} {σ:St} {H:Hp} {s:Shared} {E:Value->Shared->Prop}
theorem Inv.bM (I:Inv X pins σ H s) (E:Value->Shared->Prop):Inv (X.bM E) pins σ H s:=⟨I.ok.bM E,I.os,I.bare,I.base,I.loc,I.cell,I.free,I.bT,I.pin,I.hok,I.len⟩
theorem Inv.aX (I:Inv (X.bM E) pins σ H s):Inv X pins σ H s:=⟨I.ok.aX,I.os,I.bare,I.base,I.loc,I.cell,I.free,I.bT,I.pin,I.hok,I.len⟩
theorem SP.aX {D:Ends} {f:Flow} {s':Shared} (h:SP (X.bM E) pins D f s'):SP X pins D f s':=by
 cases f with
 | next=>obtain ⟨σ',H',I,q⟩:=h;exact ⟨σ',H',I.aX,q⟩
 | brk=>obtain ⟨σ',H',I,q⟩:=h;exact ⟨σ',H',I.aX,q⟩
 | cont=>obtain ⟨σ',H',I,q⟩:=h;exact ⟨σ',H',I.aX,q⟩
 | ret u=>obtain ⟨v,σ',H',I,r,q⟩:=h;exact ⟨v,σ',H',I.aX,r,q⟩
theorem PE.D3 {e:Expr} {t:TE} (h:PE X.D3 e t):PE X e t:=fun pins s σ H Q I hw =>
 wpAny_mono (h pins s σ H Q (I.bM _) hw) (fun _ _ ⟨v,H',I',r,q⟩=>⟨v,H',I'.aX,r,q⟩) fun _ _ z=>False.elim z
theorem PT.D3 {e:Expr} {t:TT} (h:PT X.D3 e t):PT X e t:=fun pins s σ H Q I hw =>
 wpAny_mono (h pins s σ H Q (I.bM _) hw) (fun _ _ ⟨H',I',q⟩=>⟨H',I'.aX,q⟩) fun _ _ z=>False.elim z
theorem jd.D3 {st:List Stmt} {t:TS} (h:jd X.D3 st t):jd X st t:=fun pins s σ H D I hw =>
 wpAny_mono (h pins s σ H D (I.bM _) hw) (fun _ _ q=>q.aX) fun _ _ z=>False.elim z
end
section
variable {X:Cx} {st:Stmt} {rest:List Stmt} {t u:TS} {e:Expr} {te:TE} {pos:Pos}
noncomputable def DG:TS:=fun D σ H=>D.nx σ H
noncomputable def E3 (t u:TS):TS:=fun D σ H=>t { D with nx:=u D } σ H
theorem tP:jd X [] DG:=fun _ _ σ H _ I h=>wpAny_execs_nil ⟨σ,H,I,h⟩
theorem pq (h1:PS X st t) (h2:jd X rest u):jd X (st::rest) (E3 t u):=by
 intro pins s σ H D I h
 refine wpAny_execs_cons (aS (h1 pins s σ H { D with nx:=u D } I h) fun f s1 q=>?_)
 cases f with
 | next =>
  obtain ⟨σ',H',I',q⟩:=q
  exact h2 pins s1 σ' H' D I' q
 | ret v=>exact q
 | brk=>exact q
 | cont=>exact q
theorem Inv.quiet {pins:List (Addr×Obj)} {σ:St} {H:Hp} {s:Shared} (I:Inv X pins σ H s):interactive X.env=false:=by simp [interactive,I.ok.kind]
noncomputable def DH (te:TE):TS:=fun D σ H=>te σ H fun _ H1=>D.nx σ H1
theorem BP (he:PE X e te) (hs:swapsWith e none pos.line X.env=pure false:=by rfl):PS X (.Expr e pos) (DH te):=by
 intro pins s σ H D I h
 exact wpAny_Expr_any (aS (he pins s σ H _ I h) fun v s1 ⟨x,H1,I1,r1,q1⟩=>⟨σ,H1,I1,q1⟩) I.quiet hs
noncomputable def JC (te:TE):TS:=fun D σ H=>te σ H D.rt
theorem FZ (he:PE X e te):PS X (.Return (some e) pos) (JC te):=by
 intro pins s σ H D I h
 exact wpAny_Return_some (aS (he pins s σ H _ I h) fun v s1 ⟨x,H1,I1,r1,q1⟩=>⟨x,σ,H1,I1,r1,q1⟩)
noncomputable def JG (c:TT) (t u:TS):TS:=fun D σ H=>c σ H fun b H1=>if b=true then t D σ H1 else u D σ H1
theorem Kf {c:Expr} {a b:List Stmt} {tc:TT} (hc:PT X c tc) (ha:jd X a t) (hb:jd X b u):PS X (.If c a b pos) (JG tc t u):=by
 intro pins s σ H D I h
 refine wpAny_If (aS (hc pins s σ H _ I h) fun d s1 ⟨H1,I1,q1⟩=>?_)
 cases d with
 | true=>exact ha pins s1 σ H1 D I1 q1
 | false=>exact hb pins s1 σ H1 D I1 q1
end
noncomputable abbrev TG:=V->St->Hp->(St->Hp->Prop)->Prop
noncomputable abbrev EU:=List V->St->Hp->(St->Hp->Prop)->Prop
noncomputable def PG (X:Cx) (target:Expr) (t:TG):Prop :=
 ∀ (pins:List (Addr×Obj)) (s:Shared) (σ:St) (H:Hp) (v:V) (u:Value) (Q:St->Hp->Prop),Inv X pins σ H s->RelV v u->t v σ H Q ->
  wpAny (model X.prog X.w) X.A (assign target X.env u) (fun _ s'=>∃ σ' H',Inv X pins σ' H' s'/\Q σ' H') X.xe s
noncomputable def L6 (X:Cx) (ts:List Expr) (t:EU):Prop :=
 ∀ (pins:List (Addr×Obj)) (s:Shared) (σ:St) (H:Hp) (vs:List V) (us:List Value) (Q:St->Hp->Prop),Inv X pins σ H s->Vals vs us->t vs σ H Q ->
  wpAny (model X.prog X.w) X.A (assignInOrder ((assignEach ts X.env).map (·.2)) us) (fun _ s'=>∃ σ' H',Inv X pins σ' H' s'/\Q σ' H') X.xe s
noncomputable abbrev TSet:=V->V->V->Hp->(Hp->Prop)->Prop
noncomputable def PSet (X:Cx) (t:TSet):Prop :=
 ∀ (pins:List (Addr×Obj)) (s:Shared) (σ:St) (H:Hp) (o i v:V) (ov iv u:Value) (Q:Hp->Prop),Inv X pins σ H s->RelV o ov->RelV i iv->RelV v u->t o i v H Q ->
  wpAny (model X.prog X.w) X.A (setItem ov iv u) (fun _ s'=>∃ H',Inv X pins σ H' s'/\Q H') X.xe s
section
variable {X:Cx} {pos:Pos}
noncomputable def jj (i:Nat):TG:=fun v σ H Q=>Q (σ.set i (some v)) H
theorem BX {i:Nat} {x:Str} (hN:X.N.Nodup) (hi:X.N[i]? = some x) (hx:Loc X.env.scope x) (hf:X.fn x=true\/X.env.scope.names.lookup x=some .local:=by first | exact .inl rfl | exact .inr rfl | assumption):PG X (.Name x pos) (jj i):=by
 intro pins s σ H v u Q I r h
 exact wpAny_assign_Name (jY I hN hi hx r (fun s' I'=>⟨_,H,I',h⟩) hf)
noncomputable def Lh:EU:=fun vs σ H Q=>vs=[]/\Q σ H
noncomputable def Ej (t:TG) (u:EU):EU:=fun vs σ H Q=>∃ v r,vs=v::r/\t v σ H fun σ' H'=>u r σ' H' Q
theorem tS:L6 X [] Lh:=by
 intro pins s σ H vs us Q I r h
 obtain ⟨e,h⟩:=h
 subst e
 cases r
 exact assignInOrder_nil ⟨σ,H,I,h⟩
theorem kg {e:Expr} {es:List Expr} {t:TG} {u:EU} (h1:PG X e t) (h2:L6 X es u)
  (hs:(assignEach (e::es) X.env).map (·.2)=assign e X.env::(assignEach es X.env).map (·.2):=by rfl):L6 X (e::es) (Ej t u):=by
 intro pins s σ H vs us Q I r h
 obtain ⟨v,vr,e1,h⟩:=h
 subst e1
 cases r with
 | cons r rr =>
  rw [hs]
  refine assignInOrder_cons (aS (h1 pins s σ H _ _ _ I r h) fun _ s1 ⟨σ1,H1,I1,q1⟩=>?_)
  exact h2 pins s1 σ1 H1 _ _ Q I1 rr q1
noncomputable def gTup (K:PySem.W.Frag) (n:Nat) (t:EU):TG:=fun v σ H Q=>∃ a xs,v=.ref a/\gE K H a xs/\xs.length=n/\t xs σ H Q
theorem xT {es:List Expr} {k:Nat} {t:EU} {n:Nat} (hc:X.calm=true) (h:L6 X es t)
  (hn:(assignEach es X.env).length=n:=by rfl) (hst:(assignEach es X.env).findIdx? (·.1)=none:=by rfl):PG X (.Tuple es k pos) (gTup X.K n t):=by
 intro pins s σ H v u Q I r hw
 obtain ⟨a,xs,e1,hq,hl,hw⟩:=hw
 subst e1
 cases r
 obtain ⟨its,rv,ht,hz⟩:=I.tuple hq
 refine assign_Tuple_tuple (I.ok.hd hc) ht (by simp [hn,<- hl,rv.length]) hst fun h' hx=>?_
 have I1:Inv X pins σ H { s with heap:=h' }:=I.kept (t':=s.toks) fun b o e=>hx b o (Nat.ne_of_lt (Heap.lt_size e)) e
 exact h pins _ σ H xs _ Q I1 (by simpa using rv) hw
noncomputable def vd (te:TE) (g:TG):TS:=fun D σ H=>te σ H fun x H1=>g x σ H1 D.nx
theorem F7 {tg e:Expr} {te:TE} {g:TG} (he:PE X e te) (hg:PG X tg g) (hs:swapsWithSole [tg] e pos.line X.env=pure false:=by rfl) (hw:swappedStores [tg] e X.env=pure none:=by rfl)
  (h1:(assignEach [tg] X.env).map (·.2)=[assign tg X.env]:=by rfl):PS X (.Assign [tg] e pos) (vd te g):=by
 intro pins s σ H D I h
 refine wpAny_Assign_stores (aS (he pins s σ H _ I h) fun v s1 ⟨x,H1,I1,r1,q1⟩=>?_) hs hw
 rw [h1]
 exact aS (hg pins s1 σ H1 x v _ I1 r1 q1) fun _ s2 q=>q
theorem xR {i:Nat} {x:Str} {e:Expr} {te:TE} {pos':Pos} (hN:X.N.Nodup) (hi:X.N[i]? = some x) (hx:Loc X.env.scope x) (he:PE X e te) (hs:swapsWith e (some (.Name x pos')) pos.line X.env=pure false:=by rfl) (hf:X.fn x=true\/X.env.scope.names.lookup x=some .local:=by first | exact .inl rfl | exact .inr rfl | assumption) :
  PS X (.Assign [.Name x pos'] e pos) (vd te (jj i)):=by
 intro pins s σ H D I h
 refine wpAny_Assign_Name (aS (he pins s σ H _ I h) fun v s1 ⟨y,H1,I1,r1,q1⟩=>?_) hs
 exact jY I1 hN hi hx r1 (fun s2 I2=>⟨_,H1,I2,q1⟩) hf
end
section
variable {X:Cx} {pos:Pos}
noncomputable def wZ (c:TT) (tb:TS):TS:=fun D σ H=>∃ W:Nat->St->Hp->Prop,(∃ m,W m σ H)/\∀ m σ H,W m σ H ->
 c σ H fun b H1=>if b=true then ∃ N:St->Hp->Prop,(∀ σ' H',N σ' H'->∃ m',m'<m/\W m' σ' H')/\tb { D with nx:=N,ct:=N,bk:=D.nx } σ H1 else D.nx σ H1
theorem xQ {c:Expr} {body:List Stmt} {tc:TT} {tb:TS} (hp:PassesOwn (model X.prog X.w) X.A X.env X.xe) (hc:PT X c tc) (hb:jd X body tb):PS X (.While c body [] pos) (wZ tc tb):=by
 intro pins s σ H D I h
 obtain ⟨W,⟨m0,w0⟩,turn⟩:=h
 refine wpAny_While (codeAny_whileLoop (fun n s'=>∃ σ' H',Inv X pins σ' H' s'/\W n σ' H') ?_ m0 ⟨σ,H,I,w0⟩)
 rintro n s1 ⟨σ1,H1,I1,w1⟩
 refine wpAny_passesOwn hp (aS (hc pins s1 σ1 H1 _ I1 (turn n σ1 H1 w1)) fun b s2 ⟨H2,I2,q2⟩=>?_)
 cases b with
 | true =>
  obtain ⟨N,hN,q2⟩:=q2
  rw [if_pos rfl]
  refine wpAny_passesOwn hp (aS (hb pins s2 σ1 H2 _ I2 q2) fun f s3 q3=>?_)
  cases f with
  | next =>
   obtain ⟨σ3,H3,I3,n3⟩:=q3
   obtain ⟨m',hm,w3⟩:=hN σ3 H3 n3
   exact ⟨m',hm,σ3,H3,I3,w3⟩
  | cont =>
   obtain ⟨σ3,H3,I3,n3⟩:=q3
   obtain ⟨m',hm,w3⟩:=hN σ3 H3 n3
   exact ⟨m',hm,σ3,H3,I3,w3⟩
  | brk=>exact q3
  | ret v=>exact q3
 | false =>
  rw [if_neg Bool.false_ne_true]
  exact wpAny_execs_nil ⟨σ1,H2,I2,q2⟩
end
structure It where
 go:Nat->Hp->Prop
 Mh:Nat->Hp->V->Hp->Prop
 stop:Nat->Hp->Prop
noncomputable def kT (X:Cx) (pins:List (Addr×Obj)) (H:Hp) (b:Addr):Prop :=
 H b=none/\b≠X.env.locals/\b∉X.fs/\(b∈X.ex\/X.s₀.heap.objs.size<=b)/\(∀ x c,X.env.cells.lookup x=some c->c≠b)/\∀ p∈X.pn++pins,p.1≠b
theorem Inv.pT {X:Cx} {pins:List (Addr×Obj)} {σ:St} {H H':Hp} {s:Shared} {b:Addr} (I:Inv X pins σ H s) (hb:s.heap.objs.size<=b) (hn:H' b=none):kT X pins H' b:=by
 refine ⟨hn,Nat.ne_of_gt (Nat.lt_of_lt_of_le I.lt hb),I.KJ hb,.inr (Nat.le_trans I.sz hb),fun x c e z=>?_,fun p hp z=>?_⟩
 ·obtain ⟨v,q⟩:=I.cell x c e
  exact absurd (Nat.lt_of_lt_of_le q.lt (by rw [z];exact hb)) (Nat.lt_irrefl _)
 ·exact absurd (Nat.lt_of_lt_of_le (Heap.lt_size (I.pin p hp).1) (by rw [z];exact hb)) (Nat.lt_irrefl _)
noncomputable def Qt (A:Around) (h:Heap) (it:Addr):Prop:=A.handled=none\/∃ a oe vs,A.handled=some (.ref a)/\h.get? a=some oe/\oe.data=.fields vs/\vs[2]? = some .none/\a≠it
theorem lg:entryFor table "proto.unchain" = some Builtin.«proto.unchain»:=entryFor_of_fast (by kernel_rfl)
theorem pe {prog:Program} {w:World} {A:Around} {E:Value->Shared->Prop} {s:Shared} {α:Type} {e it:Addr} {cl:Value} {Q:α->Shared->Prop} (hq:Qt A s.heap it) (ho:∃ oe ws,s.heap.get? e=some oe/\oe.cls=cl/\oe.data=.fields ws/\2<ws.size) (hn:∀ a,A.handled=some (.ref a)->a≠e)
  (h:∀ h',(∃ o,h'.get? e=some o/\o.cls=cl)->(∀ b o,b≠e->s.heap.get? b=some o->h'.get? b=some o)->E (.ref e) { s with heap:=h' }):wpAny (model prog w) A (raiseNew (.ref e):Sem α) Q E s:=by
 obtain ⟨oe,ws,he,rfl,hd,hz⟩:=ho
 simp only [raiseNew]
 refine wpAny_bind (wpAny_handled ?_)
 rcases hq with hh | ⟨a,oa,vs,hh,ha,da,v2,_⟩
 ·rw [hh]
  exact wpAny_bind (wpAny_pure (wpAny_throw (h s.heap ⟨_,he,rfl⟩ fun _ _ _ q=>q)))
 ·rw [hh]
  have ne:=hn a hh
  show wpAny _ _ (if (Value.ref a != Value.ref e)=true then _ else _) _ _ s
  rw [if_pos (by simp [ne])]
  refine wpAny_bind (wpAny_holding (wpAny_runValue (codeAny_builtin lg ?_)))
  show wpAny _ _ (field (.ref a) 2 >>= _) _ _ s
  refine wpAny_bind (wpAny_field ha da v2 ?_)
  show wpAny _ _ (if (Value.none == Value.none)=true then _ else _) _ _ s
  rw [if_pos (show (Value.none == Value.none)=true from rfl)]
  refine wpAny_pure ?_
  refine wpAny_bind (wpAny_setField (a:=e) he hd hz (wpAny_throw (h _ ⟨_,Heap.get?_update_self _ he (Obj.isFreed_of_fields (Obj.data_mapFields hd _)),Obj.cls_mapFields _ _⟩ fun b o hb q=>(Heap.get?_update_other _ _ (Ne.symm hb)).trans q)))
theorem yy {prog:Program} {w:World} {A:Around} {E:Value->Shared->Prop} {s:Shared} {it l:Addr} {i:Nat} {items:Array Value} {Q:Option Value->Shared->Prop} (hq:Qt A s.heap it)
  (hit:s.heap.IsListIter it l i) (hl:s.heap.IsList l items) (hx:items[i]? = none)
  (hQ:∀ h',Heap.ExtBut it s.heap h'->Q none { s with heap:=h' }):wpAny (model prog w) A (pyNext (.ref it)) Q E s:=by
 obtain ⟨o,ho,hc,hd⟩:=id hit
 obtain ⟨ol,hol,_,nl,hdl⟩:=hl
 unfold pyNext
 refine wpAny_bind (wpAny_attempt (wpAny_callSpecial?_slot (name:=Str.ofString "__next__") hit.typeIs slot_listiter_next
  (wpAny_call_entry slot_listiter_next hit.typeIs entry_listiter_next ?_ (args_listiter_next _))))
 show wpAny _ _ (field (.ref it) 0 >>= _) _ _ s
 refine wpAny_bind (wpAny_field ho hd (x:=.ref l) rfl ?_)
 show wpAny _ _ (if (Value.ref l == Value.none)=true then _ else _) _ _ s
 rw [if_neg (show ¬ ((Value.ref l == Value.none)=true) from Bool.false_ne_true)]
 show wpAny _ _ (field (.ref it) 1 >>= _) _ _ s
 refine wpAny_bind (wpAny_field ho hd (x:=.int i 0) rfl ?_)
 show wpAny _ _ (seqItems? (.ref l) >>= _) _ _ s
 refine wpAny_bind (wpAny_seqItems hol hdl ?_)
 simp only [Int.toNat_natCast,hx]
 refine wpAny_bind (wpAny_rule (wpAny_bind (wpAny_setField ho hd (by simp) ?_)))
 show wpAny _ _ (newExc (.type "StopIteration") [] >>= _) _ _ _
 refine wpAny_bind ?_
 simp only [newExc,newTuple]
 refine wpAny_bind (wpAny_newObj_type ?_ (by size_fits))
 refine wpAny_bind (m:=firstArgMember _ _) (wpAny_of_eq (a:=Value.none) (by first | rfl | (simp only [firstArgMember];rfl)) ?_)
 refine wpAny_newObj_type ?_ (by size_fits)
 have key:∀ h':Heap,Heap.ExtBut it s.heap h'->Qt A h' it:=fun h' eb=>hq.imp id fun ⟨a,oa,vs,hh,ha,r,v2,ne⟩=>⟨a,oa,vs,hh,eb a oa ne ha,r,v2,ne⟩
 have off:∀ n:Nat,s.heap.objs.size<=n->∀ a,A.handled=some (.ref a)->a≠n:=fun n le b z=>by
  rcases hq with hh | ⟨a,oa,vs,hh,ha,_⟩
  ·rw [hh] at z;cases z
  ·rw [hh] at z;cases z;exact Nat.ne_of_lt (Nat.lt_of_lt_of_le (Heap.lt_size ha) le)
 have le:∀ (f:Obj->Obj) (o:Obj),s.heap.objs.size<=((s.heap.update it f).push o).objs.size:=fun f o=>by rw [Heap.size_push,Heap.size_update];exact Nat.le_succ _
 refine pe (it:=it) (cl:=.type "StopIteration") ?_ ⟨_, _, Heap.get?_push_size _ rfl, rfl, rfl, ?_⟩ ?_ ?_
 ·exact key _ (((Heap.SameBut.update ..).extBut.push _).push _)
 ·rw [Array.size_append];exact Nat.lt_of_lt_of_le (show 2<6 by decide) (Nat.le_add_right _ _)
 ·exact off _ (le _ _)
 ·intro h' ho k
  obtain ⟨o',ho',hc'⟩:=ho
  refine wpAny_bind (wpAny_isInstance (T:="StopIteration") (b:=true) ⟨_, ho', hc'⟩ isSubtype_stop ?_)
  exact wpAny_pure (hQ _ fun b o hb q=>k b o (Nat.ne_of_lt (Nat.lt_of_lt_of_le (Heap.lt_size q) (le _ _))) ((((Heap.SameBut.update ..).extBut.push _).push _) b o hb q))
noncomputable def HX (A:Around) (H:Hp):Prop:=∃ a oe o vs,A.handled=some (.ref a)/\H a=some (.dF oe o)/\oe.data=.fields vs/\vs[2]? = some .none
noncomputable def Cm:Bool->Cx->Prop
 | false,X=>X.calm=true
 | true,X=>X.calm=true\/HX X.A X.H₀
structure Turn (ht:Bool) (P:Program) (w:World) (K:PySem.W.Frag) (tg:Expr) (J:It) (fp:List Addr) (it:Addr) (tn:Nat->Heap->Prop):Prop where
 mem:it∈fp
 obj:∀ i h,tn i h->∀ b∈fp,∃ o,h.get? b=some o/\∀ v,o.data≠.cell v
 keep:∀ i h h',tn i h->(∀ b∈fp,∀ o,h.get? b=some o->h'.get? b=some o)->tn i h'
 item:∀ (X:Cx),X.prog=P->X.w=w->X.K=K->Cm ht X->∀ (i:Nat) (pins:List (Addr×Obj)) (s:Shared) (σ:St) (H:Hp) (E:Value->Shared->Prop),Inv X pins σ H s->(∀ b∈fp,kT X pins H b)->tn i s.heap->J.go i H ->
  wpAny (model P w) X.A (pyNext (.ref it)) (fun r s1=>∃ u,r=some u /\
   wpAny (model P w) X.A (letOwnedTupleGo tg (.ref it) u) (fun _ s2=>∃ x H',Inv X pins σ H' s2/\RelV x u/\J.Mh i H x H'/\tn (i+1) s2.heap/\∀ b∈fp,H' b=none) E s1) E s
 done:∀ (X:Cx),X.prog=P->X.w=w->X.K=K->Cm ht X->∀ (i:Nat) (pins:List (Addr×Obj)) (s:Shared) (σ:St) (H:Hp) (E:Value->Shared->Prop),Inv X pins σ H s->(∀ b∈fp,kT X pins H b)->tn i s.heap->J.stop i H ->
  wpAny (model P w) X.A (pyNext (.ref it)) (fun r s1=>r=none/\Inv X pins σ H s1) E s
 self:∀ (A:Around) (i:Nat) (s:Shared) (Q:Value->Shared->Prop) (E:Value->Shared->Prop),tn i s.heap->Q (.ref it) s->wpAny (model P w) A (pyIter (.ref it)) Q E s
noncomputable abbrev TI:=St->Hp->(It->Hp->Prop)->Prop
noncomputable def PIE (X:Cx) (pins:List (Addr×Obj)) (σ:St) (tg:Expr) (R:It->Hp->Prop) (itv:Value) (s2:Shared):Prop :=
 ∃ (it:Addr) (fp:List Addr) (tn:Nat->Heap->Prop) (J:It) (H':Hp),itv=.ref it/\Inv X pins σ H' s2/\(∃ ht,Cm ht X/\Turn ht X.prog X.w X.K tg J fp it tn)/\tn 0 s2.heap/\(∀ b∈fp,kT X pins H' b)/\R J H'
noncomputable def PI (X:Cx) (tg iter:Expr) (wi:TI):Prop :=
 ∀ (pins:List (Addr×Obj)) (s:Shared) (σ:St) (H:Hp) (R:It->Hp->Prop),Inv X pins σ H s->wi σ H R ->
  wpAny (model X.prog X.w) X.A (eval iter X.env) (fun v s1=>wpAny (model X.prog X.w) X.A (pyIter v) (PIE X pins σ tg R) X.xe s1) X.xe s
theorem lX {M:Model} {A:Around} {E:Value->Shared->Prop} {s:Shared} {tg:Expr} {it:Addr} {u:Value} {o:Obj} {n:String} {vs:Array Value} {Q:Unit->Shared->Prop} (ho:s.heap.get? it=some o) (hc:o.cls=.type n) (hd:o.data=.fields vs)
    (hn:["enumerate", "zip", "dict_itemiterator", "dict_reverseitemiterator", "odict_iterator", "itertools.zip_longest", "itertools.pairwise"].contains n=false) (hQ:Q () s):wpAny M A (letOwnedTupleGo tg (.ref it) u) Q E s:=by
  unfold letOwnedTupleGo
  cases tg <;> first
    | exact wpAny_pure hQ
    | (cases u <;> first
        | exact wpAny_pure hQ
        | (refine wpAny_bind (wpAny_load ho ?_)
           rw [hc,hd]
           show wpAny M A (if (["enumerate", "zip", "dict_itemiterator", "dict_reverseitemiterator", "odict_iterator", "itertools.zip_longest", "itertools.pairwise"].contains n&&vs[0]? == some (rawInt _))=true then _ else _) Q E s
           rw [if_neg (by intro h;rw [hn,Bool.false_and] at h;cases h)]
           exact wpAny_pure hQ))
noncomputable def Nm (K:PySem.W.Frag) (a:Addr):It :=
 ⟨fun i H=>∃ xs x,fq K H a xs/\xs[i]? = some x,fun i H x H'=>H'=H/\∀ xs,fq K H a xs->xs[i]? = some x,fun i H=>∃ xs,fq K H a xs/\xs.length<=i⟩
noncomputable def Itt (K:PySem.W.Frag) (a:Addr):It :=
 ⟨fun i H=>∃ xs x,gE K H a xs/\xs[i]? = some x,fun i H x H'=>H'=H/\∀ xs,gE K H a xs->xs[i]? = some x,fun i H=>∃ xs,gE K H a xs/\xs.length<=i⟩
noncomputable def Nl (lo:Int) (n:Nat):It:=⟨fun i _=>i<n,fun i H x H'=>H'=H/\x=.int (lo+i),fun i _=>n<=i⟩
theorem lB {P:Program} {w:World} {K:PySem.W.Frag} {tg:Expr} (a it:Addr):Turn true P w K tg (Nm K a) [it] it (fun i h=>h.IsListIter it a i) where
 mem:=by simp
 obj:=fun i h st b hb=>by
  have e:b=it:=by simpa using hb
  subst e
  obtain ⟨o,e,c,d⟩:=st
  exact ⟨o,e,fun v z=>by rw [d] at z;cases z⟩
 keep:=fun i h h' st k=>st.at fun o e=>k it (by simp) o e
 item:=by
  intro X hP hw hK hc i pins s σ H E I hf st hg
  subst hP hw hK
  obtain ⟨xs,x,hq,hx⟩:=hg
  obtain ⟨its,rv,p,hz⟩:=I.list hq
  obtain ⟨u,hu,ru⟩:=rv.get hx
  obtain ⟨f0,f1,f2,f3,f4,f5⟩:=hf it (by simp)
  refine wpAny_pyNext_list_item st p.isList (x:=u) (by simpa using hu) fun h' st' sb=>?_
  have I1:Inv X pins σ H { s with heap:=h' }:=I.turned (t':=s.toks) (fun b o hb e=>(sb.2 b hb).trans e) f0 f1 f3 f4 f5
  obtain ⟨o,e,c,d⟩:=id st'
  exact ⟨u,rfl,lX (s:={ s with heap:=h' }) e c d (by decide) ⟨x,H,I1,ru,⟨rfl,fun ys hy=>by rw [I.pN hy hq];exact hx⟩,st',fun b hb=>(hf b hb).1⟩⟩
 done:=by
  intro X hP hw hK hc i pins s σ H E I hf st hg
  subst hP hw hK
  obtain ⟨xs,hq,hx⟩:=hg
  obtain ⟨its,rv,p,hz⟩:=I.list hq
  obtain ⟨f0,f1,f2,f3,f4,f5⟩:=hf it (by simp)
  have hl:=rv.length
  exact yy ((show X.calm=true\/HX X.A X.H₀ from hc).imp I.ok.hd fun ⟨a,oe,o,vs,h1,h2,h3,h4⟩=>⟨a,oe,vs,h1,(show aO X.prog X.w H s.heap a (.dF oe o) from I.hok a _ (I.base.c7 a oe o h2)).1,h3,h4,fun z=>by have h5:=I.base.c7 a oe o h2;rw [z,f0] at h5;cases h5⟩) st p.isList (by simp;omega) fun h' eb=>⟨rfl,I.turned (t':=s.toks) (fun b o hb e=>eb b o hb e) f0 f1 f3 f4 f5⟩
 self:=fun _ _ _ _ _ st h=>wpAny_pyIter_listiter st h
theorem qA {P:Program} {w:World} {K:PySem.W.Frag} {tg:Expr} (a it:Addr):Turn false P w K tg (Itt K a) [it] it (fun i h=>h.IsTupleIter it a i) where
 mem:=by simp
 obj:=fun i h st b hb=>by
  have e:b=it:=by simpa using hb
  subst e
  obtain ⟨o,e,c,d⟩:=st
  exact ⟨o,e,fun v z=>by rw [d] at z;cases z⟩
 keep:=fun i h h' st k=>st.at fun o e=>k it (by simp) o e
 item:=by
  intro X hP hw hK hc i pins s σ H E I hf st hg
  subst hP hw hK
  obtain ⟨xs,x,hq,hx⟩:=hg
  obtain ⟨its,rv,p,hz⟩:=I.tuple hq
  obtain ⟨u,hu,ru⟩:=rv.get hx
  obtain ⟨f0,f1,f2,f3,f4,f5⟩:=hf it (by simp)
  refine wpAny_pyNext_tuple_item st (show s.heap.IsTuple a its.toArray from p) (x:=u) (by simpa using hu) fun h' st' sb=>?_
  have I1:Inv X pins σ H { s with heap:=h' }:=I.turned (t':=s.toks) (fun b o hb e=>(sb.2 b hb).trans e) f0 f1 f3 f4 f5
  obtain ⟨o,e,c,d⟩:=id st'
  exact ⟨u,rfl,lX (s:={ s with heap:=h' }) e c d (by decide) ⟨x,H,I1,ru,⟨rfl,fun ys hy=>by rw [I.lD hy hq];exact hx⟩,st',fun b hb=>(hf b hb).1⟩⟩
 done:=by
  intro X hP hw hK hc i pins s σ H E I hf st hg
  subst hP hw hK
  obtain ⟨xs,hq,hx⟩:=hg
  obtain ⟨its,rv,p,hz⟩:=I.tuple hq
  obtain ⟨f0,f1,f2,f3,f4,f5⟩:=hf it (by simp)
  have hl:=rv.length
  exact wpAny_pyNext_tuple_end (I.ok.hd hc) st (show s.heap.IsTuple a its.toArray from p) (by simp;omega) fun h' eb=>⟨rfl,I.turned (t':=s.toks) (fun b o hb e=>eb b o hb e) f0 f1 f3 f4 f5⟩
 self:=fun _ _ _ _ _ st h=>wpAny_pyIter_tupleiter st h
theorem qB {P:Program} {w:World} {K:PySem.W.Frag} {tg:Expr} (it:Addr) (lo:Int) (n:Nat):Turn false P w K tg (Nl lo n) [it] it (fun i h=>IsRangeIter h it (lo+(i:Nat)*1) ((n:Int)-(i:Nat)) 1) where
 mem:=by simp
 obj:=fun i h st b hb=>by
  have e:b=it:=by simpa using hb
  subst e
  exact ⟨_,st,fun v z=>by
   have z':Data.fields _=Data.cell v:=z
   cases z'⟩
 keep:=fun i h h' st k=>k it (by simp) _ st
 item:=by
  intro X hP hw hK hc i pins s σ H E I hf st hg
  subst hP hw hK
  obtain ⟨f0,f1,f2,f3,f4,f5⟩:=hf it (by simp)
  have W:=Walks.range (prog:=X.prog) (w:=X.w) (I.ok.hd hc) it lo 1 n
  refine W.item i s _ _ hg st fun v h' tk hv st' kk=>?_
  obtain ⟨t,rfl⟩:=hv
  have I1:Inv X pins σ H { s with heap:=h',toks:=tk }:=I.turned (fun b o hb e=>kk b o (by simpa using hb) e) f0 f1 f3 f4 f5
  refine ⟨_, rfl, lX (s:={ s with heap:=h', toks:=tk }) (n:="range_iterator") st' rfl rfl (by decide) ⟨.int (lo+i), H, I1, ⟨t, ?_⟩, ⟨rfl, rfl⟩, st', fun b hb=>(hf b hb).1⟩⟩
  rw [Int.mul_one]
 done:=by
  intro X hP hw hK hc i pins s σ H E I hf st hg
  subst hP hw hK
  obtain ⟨f0,f1,f2,f3,f4,f5⟩:=hf it (by simp)
  exact wpAny_pyNext_range_end (I.ok.hd hc) st (by have:n<=i:=hg;omega) fun h' eb=>⟨rfl,I.turned (t':=s.toks) (fun b o hb e=>eb b o hb e) f0 f1 f3 f4 f5⟩
 self:=fun _ _ _ _ _ st h=>wpAny_pyIter_rangeiter st h
section
variable {X:Cx} {tg:Expr}
noncomputable def Ei (K:PySem.W.Frag) (tl:TE):TI:=fun σ H R=>tl σ H fun x H1=>∃ a,x=.ref a/\(∃ xs,fq K H1 a xs)/\R (Nm K a) H1
theorem BW {l:Expr} {tl:TE} (hc:Cm true X) (hl:PE X l tl):PI X tg l (Ei X.K tl):=by
 intro pins s σ H R I h
 refine aS (hl pins s σ H _ I h) fun v s1 ⟨x,H1,I1,r1,q1⟩=>?_
 obtain ⟨a,e,⟨xs,hq⟩,q⟩:=q1
 subst e
 cases r1
 obtain ⟨its,rv,p,hz⟩:=I1.list hq
 refine wpAny_pyIter_list p.isList ?_
 refine ⟨s1.heap.objs.size,[s1.heap.objs.size],_,_,H1,rfl,I1.kept (t':=s1.toks) fun b o e=>Heap.get?_push_of_some _ e,⟨true,hc,lB a _⟩,⟨_,Heap.get?_push_size _ rfl,rfl,rfl⟩,fun b hb=>?_,q⟩
 have e:b=s1.heap.objs.size:=by simpa using hb
 subst e
 exact I1.pT (Nat.le_refl _) (I1.hok.fresh (Nat.le_refl _))
theorem xJ {pins:List (Addr×Obj)} {σ:St} {H:Hp} {s:Shared} {R:It->Hp->Prop} {E:Value->Shared->Prop} {lo hi:Int} {t u v:Tok} {tk:Nat} (hc:X.calm=true) (I:Inv X pins σ H s) (h1:-(2 ^ 62)<=lo) (h2:lo<2 ^ 62) (h3:-(2 ^ 62)<=hi) (h4:hi<2 ^ 62)
  (q:R (Nl lo (hi-lo).toNat) H):wpAny (model X.prog X.w) X.A (pyIter (.ref s.heap.objs.size)) (PIE X pins σ tg R) E { s with heap:=s.heap.push { cls:=.type "range", data:=.fields #[.int lo t, .int hi u, .int 1 v] }, toks:=tk }:=by
 refine wpAny_pyIter_range (IsRange.new ..) (small_one h1 h2 h3 h4) ?_
 have I1:Inv X pins σ H { s with heap:=s.heap.push { cls:=.type "range", data:=.fields #[.int lo t, .int hi u, .int 1 v] }, toks:=tk }:=I.kept fun b o e=>Heap.get?_push_of_some _ e
 refine ⟨(s.heap.push { cls:=.type "range", data:=.fields #[.int lo t, .int hi u, .int 1 v] }).objs.size, [(s.heap.push { cls:=.type "range", data:=.fields #[.int lo t, .int hi u, .int 1 v] }).objs.size], _, _, H, rfl,
  I1.kept (t':=tk) fun b o e=>Heap.get?_push_of_some _ e,⟨false,hc,qB _ lo (hi-lo).toNat⟩,?_,fun b hb=>?_,q⟩
 ·have e1:lo+((0:Nat):Int)*1=lo:=by simp
  have e2:(((hi-lo).toNat:Nat):Int)-((0:Nat):Int)=Builtin.Range.rangeSize lo hi 1:=by rw [rangeSize_one];split <;> omega
  show IsRangeIter _ _ (lo+((0:Nat):Int)*1) ((((hi-lo).toNat:Nat):Int)-((0:Nat):Int)) 1
  rw [e1,e2]
  exact Heap.get?_push_size _ rfl
 ·have e:b=(s.heap.push { cls:=.type "range", data:=.fields #[.int lo t, .int hi u, .int 1 v] }).objs.size:=by simpa using hb
  subst e
  exact I1.pT (Nat.le_refl _) (I1.hok.fresh (Nat.le_refl _))
noncomputable def Eh (ta:TA):TI:=fun σ H R=>ta σ H fun vs H1=>∃ j:Int,vs=[.int j]/\-(2 ^ 62)<=j/\j<2 ^ 62/\R (Nl 0 j.toNat) H1
theorem vA {a:Expr} {ta:TA} {p pos:Pos} (hc:X.calm=true) (hg:Gl X "range") (hm:X.mg "range" = none) (ha:PA X [a] ta) (hs:starEach [a] X.env=[(false, eval a X.env)]:=by rfl):PI X tg (.Call (.Name "range" p) [a] [] pos) (Eh ta):=by
 intro pins s σ H R I h
 refine Call_ (kr I hg hm boot_range (PyProof.Rows.callWith_type1 (aS (ha pos pins s σ H _ I h) fun us s1 ⟨vs,H1,I1,r1,q1⟩=>?_) hs rfl))
 obtain ⟨j,e,q1,q2,q⟩:=q1
 subst e
 cases r1 with
 | cons r rr =>
  cases rr
  obtain ⟨t,rfl⟩:=r
  exact call_range_1 (xJ hc I1 (by omega) (by omega) q1 q2 (by simpa using q))
noncomputable def JH (wi:TI) (g:TG) (tb:TS):TS:=fun D σ H=>wi σ H fun J H1=>∃ W:Nat->Nat->St->Hp->Prop,(∃ m,W 0 m σ H1)/\∀ i m σ H,W i m σ H ->
 (J.stop i H/\D.nx σ H)\/(J.go i H/\∃ N:St->Hp->Prop,(∀ σ' H',N σ' H'->∃ m',m'<m/\W (i+1) m' σ' H')/\∀ x H',J.Mh i H x H'->g x σ H' fun σ2 H2=>tb { D with nx:=N,ct:=N,bk:=D.nx } σ2 H2)
noncomputable def j8 (fp:List Addr) (h:Heap):List (Addr×Obj):=fp.filterMap fun b=>(h.get? b).map fun o=>(b,o)
theorem eK {fp:List Addr} {h:Heap} {b:Addr} {o:Obj} (hb:b∈fp) (e:h.get? b=some o):(b,o)∈j8 fp h:=List.mem_filterMap.mpr ⟨b,hb,by rw [e];rfl⟩
theorem vG {fp:List Addr} {h:Heap} {p:Addr×Obj} (hp:p∈j8 fp h):p.1∈fp/\h.get? p.1=some p.2:=by
 obtain ⟨b,hb,e⟩:=List.mem_filterMap.mp hp
 cases q:h.get? b with
 | none=>rw [q] at e;cases e
 | some o =>
  rw [q] at e
  have e':(b,o)=p:=Option.some.inj e
  subst e'
  exact ⟨hb,q⟩
theorem Inv.pinned {pins:List (Addr×Obj)} {σ:St} {H:Hp} {s:Shared} {fp:List Addr} (I:Inv X pins σ H s) (hf:∀ b∈fp,kT X pins H b) (ho:∀ b∈fp,∃ o,s.heap.get? b=some o/\∀ v,o.data≠.cell v):Inv X (pins++j8 fp s.heap) σ H s :=
 I.tR fun p hp=>(List.mem_append.mp hp).elim (fun z=>I.pin p (List.mem_append_right _ z)) fun z=>by
  obtain ⟨hb,e⟩:=vG z
  obtain ⟨f0,f1,f2,_⟩:=hf p.1 hb
  obtain ⟨o,e',d⟩:=ho p.1 hb
  rw [e] at e';cases e'
  exact ⟨e,f0,f1,f2,d⟩
theorem Inv.g5 {pins pl:List (Addr×Obj)} {σ:St} {H:Hp} {s:Shared} (I:Inv X (pins++pl) σ H s):Inv X pins σ H s:=I.tR fun p hp=>I.pin p (List.mem_append_right _ (List.mem_append_left _ hp))
theorem F5 {iter:Expr} {body:List Stmt} {wi:TI} {g:TG} {tb:TS} {pos:Pos} (hp:PassesOwn (model X.prog X.w) X.A X.env X.xe) (hi:PI X tg iter wi) (hg:PG X tg g) (hb:jd X body tb)
  (hs:∀ x,foldedSetIterable iter X.env x=pure x:=by intro _;rfl):PS X (.For tg iter body [] pos) (JH wi g tb):=by
 intro pins s σ H D I h
 refine wpAny_For (aS (hi pins s σ H _ I h) fun v s1 h1=>aS h1 fun itv s2 h2=>?_) hs
 obtain ⟨it,fp,tn,J,H2,e,I2,⟨ht,hc,T⟩,st2,f2,W,⟨m0,w0⟩,turn⟩:=h2
 subst e
 have stat:∀ {H':Hp},(∀ b∈fp,H' b=none)->∀ b∈fp,kT X pins H' b:=fun hn b hb=>⟨hn b hb,(f2 b hb).2⟩
 refine codeAny_forLoop_any (fun n s'=>∃ i σ' H',Inv X pins σ' H' s'/\tn i s'.heap/\(∀ b∈fp,H' b=none)/\W i n σ' H') ?_ m0 ⟨0,σ,H2,I2,st2,fun b hb=>(f2 b hb).1,w0⟩
 rintro n s3 ⟨i,σ3,H3,I3,st3,Li,w3⟩
 rcases turn i n σ3 H3 w3 with ⟨stop,qn⟩ | ⟨go,N,hN,step⟩
 ·refine wpAny_passesOwn hp (aS (T.done X rfl rfl rfl hc i pins s3 σ3 H3 X.xe I3 (stat Li) st3 stop) fun r s4 ⟨hr,I4⟩=>?_)
  subst hr
  exact wpAny_execs_nil ⟨σ3,H3,I4,qn⟩
 ·refine wpAny_passesOwn hp (aS (T.item X rfl rfl rfl hc i pins s3 σ3 H3 X.xe I3 (stat Li) st3 go) fun r s4 ⟨u,hr,h4⟩=>?_)
  subst hr
  refine wpAny_passesOwn hp (aS h4 fun _ s5 ⟨x,H5,I5,r5,y5,Fe,fr5⟩=>?_)
  have I5':=I5.pinned (stat fr5) (T.obj _ _ Fe)
  refine wpAny_passesOwn hp (aS (hg _ s5 σ3 H5 x u _ I5' r5 (step x H5 y5)) fun _ s6 ⟨σ6,H6,I6,q6⟩=>?_)
  refine wpAny_passesOwn hp (aS (hb _ s6 σ6 H6 _ I6 q6) fun f s7 q7=>?_)
  have again:∀ {σ7:St} {H7:Hp},Inv X (pins++j8 fp s5.heap) σ7 H7 s7->N σ7 H7->∃ m,m<n/\∃ i σ' H',Inv X pins σ' H' s7/\tn i s7.heap/\(∀ b∈fp,H' b=none)/\W i m σ' H':=fun {σ7 H7} I7 n7=>by
   obtain ⟨m',hm,w7⟩:=hN σ7 H7 n7
   refine ⟨m',hm,i+1,σ7,H7,I7.g5,T.keep _ _ _ Fe fun b hb o e=>(I7.pin (b,o) (List.mem_append_right _ (List.mem_append_right _ (eK hb e)))).1,fun b hb=>?_,w7⟩
   obtain ⟨o,e,d⟩:=T.obj _ _ Fe b hb
   exact (I7.pin (b,o) (List.mem_append_right _ (List.mem_append_right _ (eK hb e)))).2.1
  cases f with
  | next=>obtain ⟨σ7,H7,I7,n7⟩:=q7;exact again I7 n7
  | cont=>obtain ⟨σ7,H7,I7,n7⟩:=q7;exact again I7 n7
  | brk=>obtain ⟨σ7,H7,I7,q7⟩:=q7;exact ⟨σ7,H7,I7.g5,q7⟩
  | ret v=>obtain ⟨x7,σ7,H7,I7,r7,q7⟩:=q7;exact ⟨x7,σ7,H7,I7.g5,r7,q7⟩
end
noncomputable abbrev R2:=V->V->Hp->VK->Prop
noncomputable def ez (X:Cx) (f:Value->Value->Sem Value) (r:R2):Prop :=
 ∀ (pins:List (Addr×Obj)) (s:Shared) (σ:St) (H:Hp) (x y:V) (v u:Value) (Q:VK),Inv X pins σ H s->RelV x v->RelV y u->r x y H Q ->
  wpAny (model X.prog X.w) X.A (f v u) (EP X pins σ Q) X.xe s
noncomputable def UnR (X:Cx) (f:Value->Sem Value) (r:V->Hp->VK->Prop):Prop :=
 ∀ (pins:List (Addr×Obj)) (s:Shared) (σ:St) (H:Hp) (x:V) (v:Value) (Q:VK),Inv X pins σ H s->RelV x v->r x H Q ->
  wpAny (model X.prog X.w) X.A (f v) (EP X pins σ Q) X.xe s
noncomputable def b6 (X:Cx) (f:Value) (r:List V->Hp->VK->Prop):Prop :=
 ∀ (pins:List (Addr×Obj)) (s:Shared) (σ:St) (H:Hp) (xs:List V) (us:List Value) (Q:VK),Inv X pins σ H s->Vals xs us->r xs H Q ->
  wpAny (model X.prog X.w) X.A (call f us) (EP X pins σ Q) X.xe s
noncomputable def E4 (r:R2) (ta tb:TE):TE:=fun σ H Q=>ta σ H fun x H1=>tb σ H1 fun y H2=>r x y H2 Q
noncomputable def tUn (r:V->Hp->VK->Prop) (ta:TE):TE:=fun σ H Q=>ta σ H fun x H1=>r x H1 Q
noncomputable def rI (C:Int->Int->Prop) (g:Int->Int->V):R2:=fun x y H Q=>∃ i j,x=.int i/\y=.int j/\C i j/\Q (g i j) H
noncomputable def qS (g:Int->Int->V):R2:=fun x y H Q=>∃ i j,x=.int i/\y=.int j/\Q (g i j) H
noncomputable def rU (g:Int->V):V->Hp->VK->Prop:=fun x H Q=>∃ i,x=.int i/\Q (g i) H
section
variable {X:Cx} {a b c:Expr} {ta tb tc:TE} {pos:Pos}
theorem IJ (ha:PE X a ta) (hb:PE X b tb) {pins:List (Addr×Obj)} {s:Shared} {σ:St} {H:Hp} {R:V->V->Hp->Prop} (I:Inv X pins σ H s)
  (h:ta σ H fun x H1=>tb σ H1 fun y H2=>R x y H2) {Q:Value->Shared->Prop} {f:Value->Value->Sem Value}
  (hf:∀ v u s2 x y H2,Inv X pins σ H2 s2->RelV x v->RelV y u->R x y H2->wpAny (model X.prog X.w) X.A (f v u) Q X.xe s2) :
  wpAny (model X.prog X.w) X.A (eval a X.env) (fun v s₁=>wpAny (model X.prog X.w) X.A (eval b X.env) (fun u s₂=>wpAny (model X.prog X.w) X.A (f v u) Q X.xe s₂) X.xe s₁) X.xe s:=by
 refine aS (ha pins s σ H _ I h) fun v s1 ⟨x,H1,I1,r1,q1⟩=>?_
 refine aS (hb pins s1 σ H1 _ I1 q1) fun u s2 ⟨y,H2,I2,r2,q2⟩=>?_
 exact hf v u s2 x y H2 I2 r1 r2 q2
theorem Kp {op:Operator} {r:R2} (ho:ez X (binaryOp op) r) (ha:PE X a ta) (hb:PE X b tb):PE X (.BinOp a op b pos) (E4 r ta tb):=by
 intro pins s σ H Q I h
 exact wpAny_BinOp (IJ ha hb I h fun v u s2 x y H2 I2 rx ry q=>ho pins s2 σ H2 x y v u Q I2 rx ry q)
theorem Kn {op:UnaryOp} {r:V->Hp->VK->Prop} (ho:UnR X (unaryOp op) r) (ha:PE X a ta):PE X (.UnaryOp op a pos) (tUn r ta):=by
 intro pins s σ H Q I h
 exact UnaryOp_ (aS (ha pins s σ H _ I h) fun v s1 ⟨x,H1,I1,r1,q1⟩=>ho pins s1 σ H1 x v Q I1 r1 q1)
theorem KD {f:Value->Value->Sem Value} {C:Int->Int->Prop} {g:Int->Int->Int}
  (rule:∀ (i j:Int) (t u:Tok) (s:Shared) (Q:Value->Shared->Prop) (E:Value->Shared->Prop),C i j->Q (.int (g i j) s.toks) { s with toks:=s.toks+1 }->wpAny (model X.prog X.w) X.A (f (.int i t) (.int j u)) Q E s) :
  ez X f (rI C fun i j=>.int (g i j)):=by
 intro pins s σ H x y v u Q I rx ry h
 obtain ⟨i,j,rfl,rfl,hc,q⟩:=h
 obtain ⟨t,rfl⟩:=rx
 obtain ⟨t',rfl⟩:=ry
 exact rule i j t t' s _ _ hc ⟨.int (g i j),H,I.tok _,⟨_,rfl⟩,q⟩
theorem KC {f:Value->Value->Sem Value} {g:Int->Int->Int}
  (rule:∀ (i j:Int) (t u:Tok) (s:Shared) (Q:Value->Shared->Prop) (E:Value->Shared->Prop),Q (.int (g i j) s.toks) { s with toks:=s.toks+1 }->wpAny (model X.prog X.w) X.A (f (.int i t) (.int j u)) Q E s) :
  ez X f (qS fun i j=>.int (g i j)):=by
 intro pins s σ H x y v u Q I rx ry h
 obtain ⟨i,j,rfl,rfl,q⟩:=h
 obtain ⟨t,rfl⟩:=rx
 obtain ⟨t',rfl⟩:=ry
 exact rule i j t t' s _ _ ⟨.int (g i j),H,I.tok _,⟨_,rfl⟩,q⟩
theorem Cc {f:Value->Value->Sem Value} {g:Int->Int->Bool}
  (rule:∀ (i j:Int) (t u:Tok) (s:Shared) (Q:Value->Shared->Prop) (E:Value->Shared->Prop),Q (.bool (g i j)) s->wpAny (model X.prog X.w) X.A (f (.int i t) (.int j u)) Q E s) :
  ez X f (qS fun i j=>.bl (g i j)):=by
 intro pins s σ H x y v u Q I rx ry h
 obtain ⟨i,j,rfl,rfl,q⟩:=h
 obtain ⟨t,rfl⟩:=rx
 obtain ⟨t',rfl⟩:=ry
 exact rule i j t t' s _ _ ⟨.bl (g i j),H,I,rfl,q⟩
noncomputable def Mg (i j:Int):Prop:=0<j/\j<1073741824
noncomputable def Me (i j:Int):Prop:=0<=j/\j<=1000000/\i.natAbs<2 ^ 64
noncomputable def Dv (i j:Int):Prop:=(-(2 ^ 64)<i/\i<2 ^ 64)\/(-(2 ^ 64)<j/\j<2 ^ 64)
theorem Dv.ok {i j:Int} (h:Dv i j):IntMulOk i j:=by
 rcases h with ⟨h1,h2⟩ | ⟨h1,h2⟩
 ·exact .of_left (intBits_le_64 h1 h2)
 ·exact .of_right (intBits_le_64 h1 h2)
theorem GF:ez X (binaryOp .Add) (qS fun i j=>.int (i+j)):=KC fun _ _ _ _ _ _ _ q=>add_int q
theorem Gp:ez X (binaryOp .Sub) (qS fun i j=>.int (i-j)):=KC fun _ _ _ _ _ _ _ q=>sub_int q
theorem Gv:ez X (binaryOp .Mult) (rI Dv fun i j=>.int (i*j)):=KD fun _ _ _ _ _ _ _ hc q=>mul_int q hc.ok
theorem B9:ez X (binaryOp .FloorDiv) (rI Mg fun i j=>.int (i / j)):=KD fun i j _ _ _ _ _ hc q=>by
 have h1:(0:Int)<j:=hc.1
 have h2:j<1073741824:=hc.2
 exact floordiv_int (by omega) (by rw [Int.fdiv_eq_ediv_of_nonneg i (by omega)];exact q) (.inl (PyProof.noPylong_small (by omega)))
theorem Gw:ez X (binaryOp .Mod) (rI (fun _ j=>0<j) fun i j=>.int (i % j)):=KD fun i j _ _ _ _ _ hc q=>by
 have h1:(0:Int)<j:=hc
 exact mod_int' (by omega) (by rw [Int.fmod_eq_emod_of_nonneg i (by omega)];exact q)
theorem Gq:ez X (binaryOp .Pow) (rI Me fun i j=>.int (i ^ j.toNat)):=KD fun _ _ _ _ _ _ _ hc q=>pow_int_small hc.1 hc.2.1 hc.2.2 q
theorem unI {f:Value->Sem Value} {g:Int->Int}
  (rule:∀ (i:Int) (t:Tok) (s:Shared) (Q:Value->Shared->Prop) (E:Value->Shared->Prop),Q (.int (g i) s.toks) { s with toks:=s.toks+1 }->wpAny (model X.prog X.w) X.A (f (.int i t)) Q E s) :
  UnR X f (rU fun i=>.int (g i)):=by
 intro pins s σ H x v Q I rx h
 obtain ⟨i,rfl,q⟩:=h
 obtain ⟨t,rfl⟩:=rx
 exact rule i t s _ _ ⟨.int (g i),H,I.tok _,⟨_,rfl⟩,q⟩
theorem EZ:UnR X (unaryOp .USub) (rU fun i=>.int (-i)):=unI fun _ _ _ _ _ q=>neg_int q
end
noncomputable def JU:V->V->Bool
 | .ao,.ao=>true | .ao,.int _=>true | .int _,.ao=>true | .ao,.bl _=>true | .bl _,.ao=>true | .ao,.str _=>true | .str _,.ao=>true
 | .int _,.int _=>true | .bl _,.bl _=>true | .str _,.str _=>true | .wM _,.wM _=>true
 | .int _,.str _=>true | .str _,.int _=>true | .bl _,.str _=>true | .str _,.bl _=>true
 | _,_=>false
noncomputable def rEq:R2:=fun x y H Q=>JU x y=true/\Q (.bl (decide (x=y))) H
noncomputable def rNe:R2:=fun x y H Q=>JU x y=true/\Q (.bl (!decide (x=y))) H
theorem uK {i j:Int}:decide (V.int i=V.int j)=(i == j):=by
 rw [Bool.eq_iff_iff]
 simp
theorem nO {i j:Bool}:decide (V.bl i=V.bl j)=(i == j):=by
 rw [Bool.eq_iff_iff]
 simp
theorem uJ {i j:Str}:decide (V.str i=V.str j)=(i == j):=by
 rw [Bool.eq_iff_iff]
 simp
theorem uL {i j:Array UInt8}:decide (V.wM i=V.wM j)=(i.toList == j.toList):=by
 rw [Bool.eq_iff_iff]
 cases i
 cases j
 simp
section
variable {X:Cx} {a b c:Expr} {ta tb tc:TE} {pos:Pos}
theorem aC {pins:List (Addr×Obj)} {σ:St} {H:Hp} {s:Shared} {Q:VK} {k k':Bool} (I:Inv X pins σ H s) (q:Q (.bl k) H) (e:k=k'):EP X pins σ Q (.bool k') s:=by
 subst e
 exact ⟨.bl k,H,I,rfl,q⟩
theorem KA:ez X (compareOp .Eq) rEq:=by
 intro pins s σ H x y v u Q I rx ry h
 obtain ⟨hs,q⟩:=h
 cases x with
 | ao =>
  cases rx
  cases y with
  | ao=>cases ry;exact PySem.EqNone.eq_none_none (aC I q (by simp))
  | bl j=>cases ry;exact PySem.EqNone.eq_none_bool (aC I q (by simp))
  | int j=>obtain ⟨t',rfl⟩:=ry;exact PySem.EqNone.eq_none_int (aC I q (by simp))
  | str j=>obtain ⟨t',rfl⟩:=ry;exact PySem.EqNone.eq_none_str (aC I q (by simp))
  | _=>exact absurd (show false=true from hs) Bool.false_ne_true
 | bl i =>
  cases rx
  cases y with
  | ao=>cases ry;exact PySem.EqNone.eq_bool_none (aC I q (by simp))
  | bl j=>cases ry;exact eq_bool (aC I q nO)
  | str j=>obtain ⟨t',rfl⟩:=ry;exact PySem.EqMixed.eq_bool_str (aC I q (by simp))
  | _=>exact absurd (show false=true from hs) Bool.false_ne_true
 | int i =>
  obtain ⟨t,rfl⟩:=rx
  cases y with
  | ao=>cases ry;exact PySem.EqNone.eq_int_none (aC I q (by simp))
  | int j=>obtain ⟨t',rfl⟩:=ry;exact eq_int (aC I q uK)
  | str j=>obtain ⟨t',rfl⟩:=ry;exact PySem.EqMixed.eq_int_str (aC I q (by simp))
  | _=>exact absurd (show false=true from hs) Bool.false_ne_true
 | str i =>
  obtain ⟨t,rfl⟩:=rx
  cases y with
  | ao=>cases ry;exact PySem.EqNone.eq_str_none (aC I q (by simp))
  | bl j=>cases ry;exact PySem.EqMixed.eq_str_bool (aC I q (by simp))
  | int j=>obtain ⟨t',rfl⟩:=ry;exact PySem.EqMixed.eq_str_int (aC I q (by simp))
  | str j=>obtain ⟨t',rfl⟩:=ry;exact eq_str (aC I q uJ)
  | _=>exact absurd (show false=true from hs) Bool.false_ne_true
 | wM i =>
  obtain ⟨t,rfl⟩:=rx
  cases y with
  | wM j=>obtain ⟨t',rfl⟩:=ry;exact PySem.W.eq_bytes (aC I q uL)
  | _=>exact absurd (show false=true from hs) Bool.false_ne_true
 | _=>cases y <;> exact absurd (show false=true from hs) Bool.false_ne_true
theorem Ks:ez X (compareOp .NotEq) rNe:=by
 intro pins s σ H x y v u Q I rx ry h
 obtain ⟨hs,q⟩:=h
 cases x with
 | ao =>
  cases rx
  cases y with
  | ao=>cases ry;exact PySem.EqNone.ne_none_none (aC I q (by simp))
  | bl j=>cases ry;exact PySem.EqNone.ne_none_bool (aC I q (by simp))
  | int j=>obtain ⟨t',rfl⟩:=ry;exact PySem.EqNone.ne_none_int (aC I q (by simp))
  | str j=>obtain ⟨t',rfl⟩:=ry;exact PySem.EqNone.ne_none_str (aC I q (by simp))
  | _=>exact absurd (show false=true from hs) Bool.false_ne_true
 | bl i =>
  cases rx
  cases y with
  | ao=>cases ry;exact PySem.EqNone.ne_bool_none (aC I q (by simp))
  | bl j=>cases ry;exact ne_bool (aC I q (congrArg not nO))
  | str j=>obtain ⟨t',rfl⟩:=ry;exact PySem.EqMixed.ne_bool_str (aC I q (by simp))
  | _=>exact absurd (show false=true from hs) Bool.false_ne_true
 | int i =>
  obtain ⟨t,rfl⟩:=rx
  cases y with
  | ao=>cases ry;exact PySem.EqNone.ne_int_none (aC I q (by simp))
  | int j=>obtain ⟨t',rfl⟩:=ry;exact ne_int (aC I q (congrArg not uK))
  | str j=>obtain ⟨t',rfl⟩:=ry;exact PySem.EqMixed.ne_int_str (aC I q (by simp))
  | _=>exact absurd (show false=true from hs) Bool.false_ne_true
 | str i =>
  obtain ⟨t,rfl⟩:=rx
  cases y with
  | ao=>cases ry;exact PySem.EqNone.ne_str_none (aC I q (by simp))
  | bl j=>cases ry;exact PySem.EqMixed.ne_str_bool (aC I q (by simp))
  | int j=>obtain ⟨t',rfl⟩:=ry;exact PySem.EqMixed.ne_str_int (aC I q (by simp))
  | str j=>obtain ⟨t',rfl⟩:=ry;exact ne_str (aC I q (congrArg not uJ))
  | _=>exact absurd (show false=true from hs) Bool.false_ne_true
 | wM i =>
  obtain ⟨t,rfl⟩:=rx
  cases y with
  | wM j=>obtain ⟨t',rfl⟩:=ry;exact PySem.W.ne_bytes (aC I q (congrArg not uL))
  | _=>exact absurd (show false=true from hs) Bool.false_ne_true
 | _=>cases y <;> exact absurd (show false=true from hs) Bool.false_ne_true
theorem Ku:ez X (compareOp .Lt) (qS fun i j=>.bl (decide (i<j))):=Cc fun _ _ _ _ _ _ _ q=>lt_int q
theorem Kv:ez X (compareOp .LtE) (qS fun i j=>.bl (decide (i<=j))):=Cc fun _ _ _ _ _ _ _ q=>le_int q
theorem Kw:ez X (compareOp .Gt) (qS fun i j=>.bl (decide (j<i))):=Cc fun _ _ _ _ _ _ _ q=>gt_int q
theorem Kz:ez X (compareOp .GtE) (qS fun i j=>.bl (decide (j<=i))):=Cc fun _ _ _ _ _ _ _ q=>ge_int q
theorem Gy:ez X (compareOp .Is) (fun x y H Q=>y=.ao/\Q (.bl (decide (x=.ao))) H):=by
 intro pins s σ H x y v u Q I rx ry h
 obtain ⟨rfl,q⟩:=h
 cases ry
 refine is_none_gen (aC I q ?_)
 cases x <;> first
  | (cases rx;rfl)
  | (obtain ⟨t,rfl⟩:=rx;rfl)
theorem B6:ez X (compareOp .IsNot) (fun x y H Q=>y=.ao/\Q (.bl (!decide (x=.ao))) H):=by
 intro pins s σ H x y v u Q I rx ry h
 obtain ⟨rfl,q⟩:=h
 cases ry
 refine isnot_none_gen (aC I q ?_)
 cases x <;> first
  | (cases rx;rfl)
  | (obtain ⟨t,rfl⟩:=rx;rfl)
theorem ez.or {f:Value->Value->Sem Value} {r r':R2} (h:ez X f r) (h':ez X f r'):ez X f (fun x y H Q=>r x y H Q\/r' x y H Q):=by
 intro pins s σ H x y v u Q I rx ry q
 rcases q with q | q
 ·exact h pins s σ H x y v u Q I rx ry q
 ·exact h' pins s σ H x y v u Q I rx ry q
theorem B0 {op:CmpOp} {r:R2} (ho:ez X (compareOp op) r) (ha:PE X a ta) (hb:PE X b tb) (hm:behindInMarks op b=false):PE X (.Compare a [op] [b] pos) (E4 r ta tb):=by
 intro pins s σ H Q I h
 exact wpAny_Compare1 (IJ ha hb I h fun v u s2 x y H2 I2 rx ry q=>ho pins s2 σ H2 x y v u Q I2 rx ry q) hm
noncomputable def JB (t:TE):TT:=fun σ H Q=>t σ H fun x H'=>∃ k,x=.bl k/\Q k H'
theorem BL {op:CmpOp} {r:R2} (ho:ez X (compareOp op) r) (ha:PE X a ta) (hb:PE X b tb) (hm:behindInMarks op b=false):PT X (.Compare a [op] [b] pos) (JB (E4 r ta tb)):=by
 intro pins s σ H Q I h
 refine wpAny_isTrue_Compare1 (aS (ha pins s σ H _ I h) fun v s1 ⟨x,H1,I1,r1,q1⟩=>aS (hb pins s1 σ H1 _ I1 q1) fun u s2 ⟨y,H2,I2,r2,q2⟩ =>
  aS (ho pins s2 σ H2 x y v u _ I2 r1 r2 q2) fun c s3 ⟨z,H3,I3,r3,k,e,q3⟩=>?_) hm
 subst e
 cases r3
 exact wpAny_truthy_bool ⟨H3,I3,q3⟩
theorem iW:(sizeLine:Nat)<2 ^ 63:=by rw [sizeLine_eq];decide
theorem qX:ez X (binaryOp .Add) (fun x y H Q=>∃ i j,x=.str i/\y=.str j/\i.length+j.length<=sizeLine/\Q (.str (i++j)) H):=by
 intro pins s σ H x y v u Q I rx ry h
 obtain ⟨i,j,rfl,rfl,hz,q⟩:=h
 obtain ⟨t,rfl⟩:=rx
 obtain ⟨t',rfl⟩:=ry
 exact add_str (fun t' tk=>⟨.str (i++j),H,I.tok _,⟨_,rfl⟩,q⟩) hz
theorem vals1 {x:V} {us:List Value} (r:Vals [x] us):∃ u,us=[u]/\RelV x u:=by
 cases r with
 | cons r1 r2=>cases r2;exact ⟨_,rfl,r1⟩
theorem vals2 {x y:V} {us:List Value} (r:Vals [x,y] us):∃ u w',us=[u,w']/\RelV x u/\RelV y w':=by
 cases r with
 | cons r1 r2 =>
  cases r2 with
  | cons r3 r4=>cases r4;exact ⟨_,_,rfl,r1,r3⟩
theorem v5 (hc:X.calm=true):b6 X (.builtin "max") (fun xs H Q=>∃ i j, xs=[.int i, .int j]/\Q (.int (if j > i then j else i)) H):=by
 intro pins s σ H xs us Q I r h
 obtain ⟨i,j,rfl,q⟩:=h
 obtain ⟨u,w',rfl,⟨t,rfl⟩,⟨t',rfl⟩⟩:=vals2 r
 refine max_two_ints (I.ok.hd hc) fun h' tk k=>⟨_,H,I.kept k,?_,q⟩
 by_cases hj:j > i
 ·rw [if_pos hj,if_pos hj];exact ⟨_,rfl⟩
 ·rw [if_neg hj,if_neg hj];exact ⟨_,rfl⟩
theorem vZ (hc:X.calm=true):b6 X (.builtin "min") (fun xs H Q=>∃ i j, xs=[.int i, .int j]/\Q (.int (if j<i then j else i)) H):=by
 intro pins s σ H xs us Q I r h
 obtain ⟨i,j,rfl,q⟩:=h
 obtain ⟨u,w',rfl,⟨t,rfl⟩,⟨t',rfl⟩⟩:=vals2 r
 refine min_two_ints (I.ok.hd hc) fun h' tk k=>⟨_,H,I.kept k,?_,q⟩
 by_cases hj:j<i
 ·rw [if_pos hj,if_pos hj];exact ⟨_,rfl⟩
 ·rw [if_neg hj,if_neg hj];exact ⟨_,rfl⟩
end
structure sH (h:Heap) (x dx C:Addr) (mA:Str->Option Value):Prop where
 obj:h.get? x=some (PySem.W.instObj C dx)
 ns:h.Ns1 dx mA
 ne:dx≠x
theorem vL {h:Heap} {dx:Addr} {mA:Str->Option Value} (n:h.Ns1 dx mA):∃ od,h.get? dx=some od/\∀ name,PySem.W.lookIn name od=some (mA name):=by
 obtain ⟨o,es,ep,ho,hd,hk,_,hm⟩:=n
 refine ⟨o,ho,fun name=>?_⟩
 have e:=hm name
 unfold nsFind findBy at e
 rw [<- Array.find?_toList] at e
 unfold PySem.W.lookIn
 rw [hd]
 dsimp only
 split
 ·rename_i y q
  rw [q] at e
  exact congrArg some e
 ·rename_i q
  rw [q] at e
  have a:es.toList.any (·.refKey)=false:=by
   rw [List.any_eq_false]
   intro y hy
   obtain ⟨z,t,hkey⟩:=hk y (Array.mem_toList_iff.mp hy)
   simp [DictEntry.refKey,hkey]
  have a':¬ es.toList.any (·.refKey)=true:=by rw [a];exact Bool.false_ne_true
  rw [if_neg a']
  exact congrArg some e
theorem sH.look {h:Heap} {x dx C:Addr} {mA:Str->Option Value} (I:sH h x dx C mA):∃ od,PySem.W.InstAt h x (PySem.W.instObj C dx) C (some od)/\∀ name,PySem.W.lookIn name od=some (mA name) :=
 let ⟨od,ho,hl⟩:=vL I.ns
 ⟨od,⟨I.obj,rfl,rfl,ho⟩,hl⟩
section
variable {prog:Program} {w:World} {A:Around} {E:Value->Shared->Prop} {s:Shared} {K:PySem.W.Frag} {x dx C f:Addr} {mA:Str->Option Value} {name:Str} {v:Value}
theorem get_map {expr:Bool} {Q:Value->Shared->Prop} (X:K.In s.heap) (I:sH s.heap x dx C mA) (hg:PySem.W.plainGet K C name=true) (hh:PySem.W.hasDictIn K C=true)
  (ha:PySem.W.findIn K (.ref C) name=some none) (hv:mA name=some v) (hv':PySem.W.handedIn v=true) (h:Q v { s with toks:=s.toks+1 }) :
  wpAny (model prog w) A (getAttr (.ref x) name expr) Q E s:=by
 obtain ⟨od,J,hl⟩:=I.look
 exact PySem.W.get_value X J (PySem.W.plainGet_of hg).1 (PySem.W.findObj_own hh ha rfl (by rw [hl,hv])) hv' h
theorem zo {pl:Sem Bool} {Q:Value×List Value->Shared->Prop} (X:K.In s.heap) (I:sH s.heap x dx C mA) (hg:PySem.W.plainGet K C name=true)
  (hf:PySem.W.findIn K (.ref C) name=some (some (.ref f))) (ht:PySem.W.isFn K (.ref f)=true) (hv:mA name=none) (h:Q (.ref f,[.ref x]) s) :
  wpAny (model prog w) A (getMethod (.ref x) name pl) Q E s:=by
 obtain ⟨od,J,hl⟩:=I.look
 exact PySem.W.method_fn X J (PySem.W.plainGet_of hg).1 (PySem.W.plainGet_of hg).2 hf (beq_iff_eq.mp ht) (by show (PySem.W.lookIn name od).map (·.isSome)=some false;rw [hl,hv];rfl) h
theorem BE {ns:List Str} {Q:Unit->Shared->Prop} (X:K.In s.heap) (I:sH s.heap x dx C mA)
  (hs:PySem.W.findIn K (.ref C) "__setattr__" = some (some (.builtin "object.__setattr__"))) (hp:PySem.W.plainOver K C=true) (ht:PySem.W.takerIn K C name=some none) (hh:PySem.W.hasDictIn K C=true)
  (hw:PySem.Within mA ns) (hsz:ns.length<=sizeLine)
  (h:∀ h',sH h' x dx C (fun y=>if y=name then some v else mA y)->Heap.SameBut dx s.heap h'->Q () { s with heap:=h',toks:=s.toks+2 }) :
  wpAny (model prog w) A (setAttr (.ref x) name v) Q E s:=by
 obtain ⟨od,J,hl⟩:=I.look
 refine PySem.W.set_plain X J hs (PySem.W.osa_open (s:={ s with toks:=s.toks+1 }) (r:=none) X J hp ht fun b=>?_)
 obtain ⟨cd,hc,hd'⟩:=PySem.W.any_some hh
 have hx:s.heap.get? x=some ⟨.ref C,some dx,.plain,#[]⟩:=I.obj
 refine wpAny_bind (wpAny_pure (wpAny_bind (wpAny_bind (wpAny_loadPart hx (wpAny_bind (PySem.W.Looks.here (s:={ s with toks:=s.toks+1 }) (PySem.W.looks_clsIn X hc) ?_))))))
 rw [hd']
 refine wpAny_pure (a:=some dx) (wpAny_bind (wpAny_pure (wpAny_bind ?_)))
 refine wpAny_nsSet1 (s:={ s with toks:=s.toks+1 }) I.ns fun h' hn2 hs2=>?_
 obtain ⟨oD,esD,epD,hoD,hdD,hcD⟩:=hn2.count (PySem.Within.cons name v hw)
 refine wpAny_bind (wpAny_lookBehind hoD (by rw [hdD];exact pastItsLine_dict (Nat.le_trans hcD (by rw [List.length_cons];omega))) ?_)
 exact wpAny_pure (h _ ⟨(hs2.2 _ (Ne.symm I.ne)).trans I.obj,hn2,I.ne⟩ hs2)
theorem yt {R:Result->Shared->Prop} {vs:List Value} {kw:List (Str×Value)} (X:K.In s.heap) (hm:PySem.W.makesIn K C=true)
  (hi:PySem.W.findIn K (.ref C) "__init__" = some (some (.ref f))) (hf:PySem.W.typeIn K (.ref f)=some (.type "function"))
  (h:codeAny (model prog w) (A.under (.builtin "type.__call__" ⟨.ref C::vs, kw⟩)) (.call (.ref f) ⟨.ref (s.heap.objs.size+1)::vs, kw⟩) (PySem.W.InitBack (s.heap.objs.size+1) R)
   { s with heap:=(s.heap.push PySem.W.emptyDict).push (PySem.W.instObj C s.heap.objs.size) }) :
  codeAny (model prog w) A (.call (.ref C) ⟨vs,kw⟩) R s:=by
 obtain ⟨hh,g,d,t,os⟩:=s
 exact PySem.W.make_core (PySem.W.makes_of X hm) (PySem.W.looks_findIn X hi) (fun self=>PySem.W.bind_fn X self hf) (.inl rfl) h
end
noncomputable def dm (f:Str) (v:V):List (Str×V)->List (Str×V)
 | []=>[(f,v)]
 | (g,x)::r=>if g=f then (g,v)::r else (g,x)::dm f v r
theorem je (f g:Str) (v:V):∀ fs:List (Str×V),(dm f v fs).lookup g=if g=f then some v else fs.lookup g
 | []=>by
  show List.lookup g [(f,v)]=_
  by_cases h:g=f
  ·have hb:(g == f)=true:=beq_iff_eq.mpr h
   simp only [List.lookup,hb,if_pos h]
  ·have hb:(g == f)=false:=beq_eq_false_iff_ne.mpr h
   simp only [List.lookup,hb,if_neg h]
 | (k, x)::r=>by
  have ih:=je f g v r
  rw [show dm f v ((k,x)::r)=(if k=f then (k,v)::r else (k,x)::dm f v r) from rfl]
  by_cases hk:k=f
  ·rw [if_pos hk]
   by_cases h:g=k
   ·have hb:(g == k)=true:=beq_iff_eq.mpr h
    simp only [List.lookup,hb,if_pos (h.trans hk)]
   ·have hb:(g == k)=false:=beq_eq_false_iff_ne.mpr h
    simp only [List.lookup,hb,if_neg (fun e:g=f=>h (e.trans hk.symm))]
  ·rw [if_neg hk]
   by_cases h:g=k
   ·have hb:(g == k)=true:=beq_iff_eq.mpr h
    simp only [List.lookup,hb,if_neg (fun e:g=f=>hk (h.symm.trans e))]
   ·have hb:(g == k)=false:=beq_eq_false_iff_ne.mpr h
    simp only [List.lookup,hb]
    exact ih
theorem iY (f:Str) (v:V):∀ fs:List (Str×V),f∈(dm f v fs).map (·.1)/\∀ g,g∈fs.map (·.1)->g∈(dm f v fs).map (·.1)
 | []=>⟨by simp [dm],fun g h=>by simp at h⟩
 | (k, x)::r=>by
  obtain ⟨i1,i2⟩:=iY f v r
  rw [show dm f v ((k,x)::r)=(if k=f then (k,v)::r else (k,x)::dm f v r) from rfl]
  by_cases hk:k=f
  ·rw [if_pos hk]
   subst hk
   exact ⟨by simp,fun g h=>by simpa using h⟩
  ·rw [if_neg hk]
   refine ⟨?_,fun g h=>?_⟩
   ·rw [List.map_cons]
    exact List.mem_cons_of_mem _ i1
   ·rw [List.map_cons] at h ⊢
    rcases List.mem_cons.mp h with e | e
    ·exact List.mem_cons.mpr (.inl e)
    ·exact List.mem_cons_of_mem _ (i2 g e)
theorem jg (f:Str) (v:V):∀ fs:List (Str×V),(dm f v fs).length<=fs.length+1
 | []=>by simp [dm]
 | (k,x)::r=>by
  have ih:=jg f v r
  rw [show dm f v ((k,x)::r)=(if k=f then (k,v)::r else (k,x)::dm f v r) from rfl]
  by_cases hk:k=f
  ·rw [if_pos hk,List.length_cons,List.length_cons];omega
  ·rw [if_neg hk,List.length_cons,List.length_cons];omega
theorem gU.some_of {v:V} {o:Option Value} (r:gU (some v) o):∃ u,o=some u/\RelV v u:=by
 cases o with
 | none=>exact (show False from r).elim
 | some u=>exact ⟨u,rfl,r⟩
theorem gU.none_of {o:Option Value} (r:gU none o):o=none:=by
 cases o with
 | none=>rfl
 | some u=>exact (show False from r).elim
theorem vU {v:V} {u:Value} (r:RelV v u):PySem.W.handedIn u=true:=by
 cases v with
 | ao=>cases (show u=Value.none from r);rfl
 | bl b=>cases (show u=Value.bool b from r);rfl
 | int i=>obtain ⟨t,e⟩:=(show ∃ t,u=Value.int i t from r);cases e;rfl
 | str x=>obtain ⟨t,e⟩:=(show ∃ t,u=Value.str x t from r);cases e;rfl
 | wM b=>obtain ⟨t,e⟩:=(show ∃ t,u=Value.bytes b t from r);cases e;rfl
 | MS b=>obtain ⟨t,e⟩:=(show ∃ t,u=Value.float b t from r);cases e;rfl
 | ref a=>cases (show u=Value.ref a from r);rfl
 | ty n=>cases (show u=Value.type n from r);rfl
section
variable {P:Program} {w:World} {H H':Hp} {h h':Heap} {a C dx:Addr} {fs fs':List (Str×V)}
theorem nk (hok:gv P w H h) (e:H a=some (.ins C dx fs)):∃ mA,sH h a dx C mA/\(∀ f,gU (fs.lookup f) (mA f))/\PySem.Within mA (fs.map (·.1))/\fs.length<=1000/\H dx=some (.own a):=by
 obtain ⟨d,z,ne,ob,mA,n,r,q⟩:=(show aO P w H h a (.ins C dx fs) from hok a _ e)
 exact ⟨mA,⟨ob,n,ne⟩,r,q,z,d⟩
end
structure wC (K:PySem.W.Frag) (C:Addr):Prop where
 pg:PySem.W.plainGet K C Str.empty=true
 hd:PySem.W.hasDictIn K C=true
 po:PySem.W.plainOver K C=true
 sa:PySem.W.findIn K (.ref C) "__setattr__" = some (some (.builtin "object.__setattr__"))
theorem wC.get {K:PySem.W.Frag} {C:Addr} (c:wC K C) (f:Str):PySem.W.plainGet K C f=true:=c.pg
noncomputable def dN (K:PySem.W.Frag) (C:Addr) (f:Str):Prop:=PySem.W.findIn K (.ref C) f=some none
theorem dN.Jz {K:PySem.W.Frag} {C:Addr} {f:Str} (n:dN K C f):PySem.W.takerIn K C f=some none:=by
 unfold PySem.W.takerIn
 rw [show PySem.W.findIn K (.ref C) f=some none from n]
 rfl
structure Meth (K:PySem.W.Frag) (C:Addr) (m:Str) (f:Addr):Prop where
 at_:PySem.W.findIn K (.ref C) m=some (some (.ref f))
 fn:PySem.W.isFn K (.ref f)=true
 kp:PySem.W.keepIn K (.ref f)=true
section
variable {X:Cx} {pins:List (Addr×Obj)} {σ:St} {H:Hp} {s:Shared} {a C dx:Addr} {fs:List (Str×V)} {f:Str} {v:V} {A:Around} {E:Value->Shared->Prop}
theorem rW {b:Bool} {Q:Value->Shared->Prop} (I:Inv X pins σ H s) (e:H a=some (.ins C dx fs)) (c:wC X.K C) (n:dN X.K C f) (l:fs.lookup f=some v)
  (h:∀ u s',Inv X pins σ H s'->RelV v u->Q u s'):wpAny (model X.prog X.w) A (getAttr (.ref a) f b) Q E s:=by
 obtain ⟨mA,O,r,_,_,_⟩:=nk I.hok e
 obtain ⟨u,hu,ru⟩:=gU.some_of (v:=v) (o:=mA f) (by rw [<- l];exact r f)
 exact get_map I.fF O (c.get f) c.hd n hu (vU ru) (h u _ (I.tok _) ru)
theorem kH {m:Str} {g:Addr} {pl:Sem Bool} {Q:Value×List Value->Shared->Prop} (I:Inv X pins σ H s) (e:H a=some (.ins C dx fs)) (c:wC X.K C) (k:Meth X.K C m g) (l:fs.lookup m=none)
  (h:Q (.ref g,[.ref a]) s):wpAny (model X.prog X.w) A (getMethod (.ref a) m pl) Q E s:=by
 obtain ⟨mA,O,r,_,_,_⟩:=nk I.hok e
 have hn:mA m=none:=gU.none_of (by rw [<- l];exact r m)
 exact zo I.fF O (c.get m) k.at_ k.fn hn h
theorem qM {y:V} {u:Value} {Q:Unit->Shared->Prop} (I:Inv X pins σ H s) (e:H a=some (.ins C dx fs)) (c:wC X.K C) (n:dN X.K C f) (hl:fs.length<1000) (ry:RelV y u)
  (h:∀ s',Inv X pins σ (upd H a (.ins C dx (dm f y fs))) s'->Q () s'):wpAny (model X.prog X.w) A (setAttr (.ref a) f u) Q E s:=by
 obtain ⟨mA,O,r,wi,_,ho⟩:=nk I.hok e
 have hz:(fs.map (·.1)).length<=sizeLine:=by rw [List.length_map,sizeLine_eq];omega
 refine BE I.fF O c.sa c.po n.Jz c.hd wi hz fun h' O' sb=>h _ ?_
 have hd:∃ o,h'.get? dx=some o:=let ⟨o,_,_,e',_⟩:=O'.ns;⟨o,e'⟩
 refine I.write (x:=a) (e:=dx) (by rw [e];exact True.intro) (.inr ho) (fun b q hb z=>(sb.2 b hb).trans z) hd ?_
 refine ⟨by rw [aj O.ne];exact ho,?_,O.ne,O'.obj,_,O'.ns,fun g=>?_,fun g hg=>?_⟩
 ·have:=jg f y fs;omega
 ·show gU ((dm f y fs).lookup g) (if g=f then some u else mA g)
  rw [je]
  by_cases q:g=f
  ·rw [if_pos q,if_pos q];exact ry
  ·rw [if_neg q,if_neg q];exact r g
 ·by_cases q:g=f
  ·rw [q];exact (iY f y fs).1
  ·refine (iY f y fs).2 g (wi g fun z=>hg ?_)
   show (if g=f then some u else mA g)=none
   rw [if_neg q];exact z
theorem Inv.made (I:Inv X pins σ H s):Inv X pins σ (upd (upd H s.heap.objs.size (.own (s.heap.objs.size+1))) (s.heap.objs.size+1) (.ins C s.heap.objs.size []))
  { s with heap:=(s.heap.push PySem.W.emptyDict).push (PySem.W.instObj C s.heap.objs.size) }:=by
 have e1:(s.heap.push PySem.W.emptyDict).get? s.heap.objs.size=some PySem.W.emptyDict:=Heap.get?_push_size s.heap rfl
 have e2:((s.heap.push PySem.W.emptyDict).push (PySem.W.instObj C s.heap.objs.size)).get? (s.heap.objs.size+1)=some (PySem.W.instObj C s.heap.objs.size):=by
  have:=Heap.get?_push_size (s.heap.push PySem.W.emptyDict) (o:=PySem.W.instObj C s.heap.objs.size) rfl
  rwa [Heap.size_push] at this
 have e3:(s.heap.push PySem.W.emptyDict).Ns s.heap.objs.size (fun _=>none):=⟨PySem.W.emptyDict,#[],_,e1,rfl,(fun e he=>absurd he (by simp)),fun _=>rfl⟩
 have I1:=I.laid (a:=s.heap.objs.size) (o:=.own (s.heap.objs.size+1)) (h':=s.heap.push PySem.W.emptyDict) (t':=s.toks) (fun b u q=>Heap.get?_push_of_some _ q) (Nat.le_refl _) ⟨_,e1⟩
 refine I1.laid (a:=s.heap.objs.size+1) (o:=.ins C s.heap.objs.size []) (t':=s.toks) (fun b u q=>Heap.get?_push_of_some _ q) (Nat.le_of_eq (Heap.size_push _ _)) ?_
 have ne:s.heap.objs.size≠s.heap.objs.size+1:=Nat.ne_of_lt (Nat.lt_succ_self _)
 refine ⟨by rw [aj ne,ay],Nat.zero_le _,ne,e2,fun _=>none,(Heap.Ns1.of_empty e3).at fun o q=>Heap.get?_push_of_some _ q,fun _=>True.intro,fun y hy=>absurd rfl hy⟩
theorem Di {prog:Program} {w:World} {env:Env} {e:Expr} {f:Str} {pos:Pos} {s:Shared} {Q:Value->Shared->Prop} (hb:attributeBase e f env (eval e env)=eval e env)
  (h:wpAny (model prog w) A (eval e env) (fun o s₁=>wpAny (model prog w) A (getAttr o f true) Q E s₁) E s):wpAny (model prog w) A (eval (.Attribute e f pos) env) Q E s :=
 Attribute_any_ h (by rw [arm_eval_Attribute,hb])
end
noncomputable def JI (K:PySem.W.Frag) (ta:TE) (f:Str):TE:=fun σ H Q=>ta σ H fun x H1=>∃ a C dx fs v,x=.ref a/\H1 a=some (.ins C dx fs)/\wC K C/\dN K C f/\fs.lookup f=some v/\Q v H1
noncomputable def JW (K:PySem.W.Frag) (ta tv:TE) (f:Str):TS:=fun D σ H=>tv σ H fun y H1=>ta σ H1 fun x H2=>∃ a C dx fs,x=.ref a/\H2 a=some (.ins C dx fs)/\wC K C/\dN K C f/\fs.length<1000 /\
 D.nx σ (upd H2 a (.ins C dx (dm f y fs)))
section
variable {X:Cx} {o e value:Expr} {f:Str} {pos pos' tpos:Pos} {ta tv:TE}
theorem Gk (he:PE X e ta) (hb:attributeBase e f X.env (eval e X.env)=eval e X.env):PE X (.Attribute e f pos) (JI X.K ta f):=by
 intro pins s σ H Q I h
 refine Di hb (aS (he pins s σ H _ I h) fun u s1 ⟨x,H1,I1,rx,a,C,dx,fs,v,ex,ea,c,n,l,q⟩=>?_)
 subst ex
 obtain rfl:u=Value.ref a:=rx
 exact rW I1 ea c n l fun u' s2 I2 ru=>⟨v,H1,I2,ru,q⟩
theorem F6 (ha:PE X o ta) (hv:PE X value tv) (hs:swapsWith value (some (.Attribute o f pos')) pos.line X.env=pure false):PS X (.Assign [.Attribute o f pos'] value pos) (JW X.K ta tv f):=by
 intro pins s σ H D I h
 refine plainObj_wpAny_Assign_Attribute (aS (hv pins s σ H _ I h) fun u s1 ⟨y,H1,I1,ry,q⟩=>aS (ha pins s1 σ H1 _ I1 q) fun ov s2 ⟨x,H2,I2,rx,a,C,dx,fs,ex,ea,c,n,l,q2⟩=>?_) hs
 subst ex
 obtain rfl:ov=Value.ref a:=rx
 exact qM I2 ea c n l ry fun s3 I3=>⟨σ,_,I3,q2⟩
end
section
variable {X:Cx} {pins:List (Addr×Obj)} {σ:St} {H:Hp} {s:Shared} {A:Around} {E:Value->Shared->Prop} {Q:Value->Shared->Prop} {c:Value} {b:Bool}
end
structure bG (cm:Bool) (k:Nat) (A:Around):Prop where
 hd:cm=true->A.handled=none
 dp:A.depth+3*k+5<recursionLimit
 un:A.units+16*k+200<cLine
theorem bG.deeper {k:Nat} {A:Around} (r:bG cm (k+1) A) (env:Env):bG cm k (A.deeper env) :=
 ⟨r.hd,by have:=r.dp;show A.depth+1+3*k+5<_;omega,by have:=r.un;show A.units+3+16*k+200<_;omega⟩
theorem bG.in1 {k:Nat} {A:Around} (r:bG cm (k+1) A):bG cm k A.in1 :=
 ⟨r.hd,by have:=r.dp;show A.depth+3*k+5<_;omega,by have:=r.un;show A.units+1+16*k+200<_;omega⟩
theorem rG {A:Around} {C:Addr} {us:List Value} {kw:List (Str×Value)}:(A.under (.builtin "type.__call__" ⟨.ref C::us, kw⟩)).depth=A.depth+1:=by
 first | rfl | simp [Around.under,Code.weight,Code.isCreation,Code.isGuard,Code.isCaller,Code.frames,Code.isFrame,guardIds]
theorem rD {A:Around} {C:Addr} {us:List Value} {kw:List (Str×Value)}:(A.under (.builtin "type.__call__" ⟨.ref C::us, kw⟩)).units=A.units+1:=by
 first | rfl | simp [Around.under,Code.cUnits,Code.frames,Code.isFrame]
theorem bG.make {k:Nat} {A:Around} (r:bG cm (k+1) A) (C:Addr) (us:List Value) (kw:List (Str×Value)):bG cm k (A.under (.builtin "type.__call__" ⟨.ref C::us, kw⟩)) :=
 ⟨r.hd,by have:=r.dp;rw [rG];omega,by have:=r.un;rw [rD];omega⟩
theorem bG.depth {k:Nat} {A:Around} (r:bG cm k A):A.depth<recursionLimit:=by have:=r.dp;omega
noncomputable def iR:TA:=fun _ H Q=>Q [] H
noncomputable def dc (ta:TE) (tr:TA):TA:=fun σ H Q=>ta σ H fun x H1=>tr σ H1 fun xs H2=>Q (x::xs) H2
section
variable {X:Cx} {e:Expr} {es:List Expr} {te:TE} {t:TA} {pos:Pos}
theorem cQ:PA X [] iR:=fun _ _ _ _ H Q I h=>Calls.spliced_nil ⟨[],H,I,.nil,h⟩
theorem aT (ha:PE X e te) (hr:PA X es t) (hs:starEach (e::es) X.env=(false,eval e X.env)::starEach es X.env:=by rfl):PA X (e::es) (dc te t):=by
 intro pos pins s σ H Q I h
 rw [hs]
 show wpAny _ _ (spliced ((false,eval e X.env)::backTo pos (starEach es X.env))) _ _ s
 refine Calls.spliced_cons (aS (ha pins s σ H _ I h) fun u s1 ⟨x,H1,I1,r1,q1⟩=>?_)
 exact aS (hr pos pins s1 σ H1 _ I1 q1) fun us s2 ⟨xs,H2,I2,r2,q2⟩=>⟨x::xs,H2,I2,.cons r1 r2,q2⟩
noncomputable def JA (t:TA):TE:=fun σ H Q=>t σ H fun xs H1=>xs.length<=sizeLine/\∀ p,H1 p=none->Q (.ref p) (upd H1 p (.tup xs))
noncomputable def JF (t:TA):TE:=fun σ H Q=>t σ H fun xs H1=>xs.length<=sizeLine/\∀ p,H1 p=none->Q (.ref p) (upd H1 p (.lst xs))
theorem Gd {x1} (h:PA X es t):PE X (.Tuple es x1 pos) (JA t):=by
 intro pins s σ H Q I hq
 refine wpAny_Tuple_spliced (aS (h pos pins s σ H _ I hq) fun us s1 ⟨xs,H1,I1,r,z,q⟩=>⟨by rw [<- r.length];exact z,?_⟩)
 have hf:H1 s1.heap.objs.size=none:=I1.hok.fresh (Nat.le_refl _)
 refine ⟨.ref s1.heap.objs.size,upd H1 s1.heap.objs.size (.tup xs),I1.laid (t':=s1.toks) (fun b u e=>Heap.get?_push_of_some _ e) (Nat.le_refl _) ?_,rfl,q _ hf⟩
 exact ⟨z,us,r,⟨_,Heap.get?_push_size _ rfl,rfl,_,rfl⟩⟩
theorem Gi (h:PA X es t):PE X (.List es pos) (JF t):=by
 intro pins s σ H Q I hq
 refine wpAny_List_spliced (aS (h pos pins s σ H _ I hq) fun us s1 ⟨xs,H1,I1,r,z,q⟩=>⟨by rw [<- r.length];exact z,?_⟩)
 have hf:H1 s1.heap.objs.size=none:=I1.hok.fresh (Nat.le_refl _)
 refine ⟨.ref s1.heap.objs.size,upd H1 s1.heap.objs.size (.lst xs),I1.laid (t':=s1.toks) (fun b u e=>Heap.get?_push_of_some _ e) (Nat.le_refl _) ?_,rfl,q _ hf⟩
 exact ⟨z,us,0,r,Heap.get?_push_size _ rfl⟩
end
noncomputable abbrev Sp:=List V->Hp->VK->XK->Prop
noncomputable abbrev AB:=List Env->Hp->Shared->XK->Value->Shared->Prop
structure lu (P:Program) (w:World) (K:PySem.W.Frag) (mg:Str->Option Value) (base:Heap) (A:Around) (outer:List Env) (s:Shared) (H:Hp):Prop where
 frames:A.frames=some outer
 mod:Mod K mg base
 bs:∀ b o,base.get? b=some o->s.heap.get? b=some o/\H b=none
 wm:base.objs.size<=s.heap.objs.size
 gp:s.heap.FunFrames base outer
 zw:∀ b∈frs outer,H b=none
 hok:gv P w H s.heap
 bare:AllBare s.gens
noncomputable def CE (outer:List Env) (P:Program) (w:World) (H:Hp) (s:Shared) (Q:VK) (u:Value) (s':Shared):Prop :=
 ∃ v H',s'.os=s.os/\AllBare s'.gens/\Un (frs outer) [] H H' s.heap s'.heap/\gv P w H' s'.heap/\RelV v u/\Q v H'
noncomputable def CR (CX:AB) (outer:List Env) (P:Program) (w:World) (H:Hp) (s:Shared) (Q:VK) (E:XK) (r:Result) (s':Shared):Prop :=
 match r with
 | .ok (.ret u)=>CE outer P w H s Q u s'
 | .ok _=>False
 | .error e=>CX outer H s E e s'
structure aZ (cm:Bool) (P:Program) (w:World) (K:PySem.W.Frag) (mg:Str->Option Value) (base:Heap) (CX:AB) (k:Nat) (f:Addr) (fd:FuncData) (ps:List Str) (sp:Sp):Prop where
 len:∀ vs H Q E,sp vs H Q E->vs.length=ps.length
 run:∀ (A:Around) (outer:List Env) (s:Shared) (H:Hp) (args:Args) (us:List Value) (vs:List V) (Q:VK) (E:XK),bG cm k A->(cm=false->HX A H)->lu P w K mg base A outer s H->BindsTo s fd args (ps.zip us)->Vals vs us->sp vs H Q E ->
  codeAny (model P w) A (.call (.ref f) args) (CR CX outer P w H s Q E) s
theorem aZ.imp {P:Program} {w:World} {K:PySem.W.Frag} {mg:Str->Option Value} {base:Heap} {CX:AB} {k:Nat} {f:Addr} {fd:FuncData} {ps:List Str} {sp sp':Sp} (F:aZ cm P w K mg base CX k f fd ps sp)
  (h:∀ vs H Q E,sp' vs H Q E->sp vs H Q E):aZ cm P w K mg base CX k f fd ps sp' :=
 ⟨fun vs H Q E q=>F.len vs H Q E (h _ _ _ _ q),fun A outer s H args us vs Q E hr hx he hb hv hs=>F.run A outer s H args us vs Q E hr hx he hb hv (h _ _ _ _ hs)⟩
theorem lu.make {P:Program} {w:World} {K:PySem.W.Frag} {mg:Str->Option Value} {base:Heap} {A:Around} {outer:List Env} {s:Shared} {H:Hp} (e:lu P w K mg base A outer s H) (C:Addr) (us:List Value) (kw:List (Str×Value)) :
  lu P w K mg base (A.under (.builtin "type.__call__" ⟨.ref C::us, kw⟩)) outer s H:=⟨by first | exact e.frames | (simpa [Around.under, Code.envs, Code.isFrame, pushEnvs] using e.frames), e.mod, e.bs, e.wm, e.gp, e.zw, e.hok, e.bare⟩
theorem lu.in1 {P:Program} {w:World} {K:PySem.W.Frag} {mg:Str->Option Value} {base:Heap} {A:Around} {outer:List Env} {s:Shared} {H:Hp} (e:lu P w K mg base A outer s H) :
  lu P w K mg base A.in1 outer s H:=⟨e.frames,e.mod,e.bs,e.wm,e.gp,e.zw,e.hok,e.bare⟩
section
variable {X:Cx} {pins:List (Addr×Obj)} {σ:St} {H:Hp} {s s':Shared}
theorem Inv.jH (I:Inv X pins σ H s):lu X.prog X.w X.K X.mg X.base X.A X.stack s H :=
 ⟨I.ok.frames,I.ok.mod,I.bs,Nat.le_trans I.ok.wm I.sz,I.stack,I.gb,I.hok,I.bare⟩
theorem Inv.after {Q:VK} {u:Value} (I:Inv X pins σ H s) (h:CE X.stack X.prog X.w H s Q u s'):EP X pins σ Q u s':=by
 obtain ⟨v,H',os,bare,un,hok,r,q⟩:=h
 obtain ⟨hh,g,d,t,os'⟩:=s'
 obtain rfl:os'=s.os:=os
 exact ⟨v,H',I.call (h':=hh) (g':=g) (d':=d) (t':=t) (ch:=[]) un hok bare (fun b z=>absurd z (by simp)),r,q⟩
end
noncomputable def Binds (K:PySem.W.Frag) (fd:FuncData) (ps:List Str) (ds:List Value):Prop :=
 ∀ (s:Shared) (us:List Value),K.In s.heap->(us++ds).length=ps.length->BindsTo s fd ⟨us,[]⟩ (ps.zip (us++ds))
theorem Binds.all {K:PySem.W.Frag} {fd:FuncData} {ps:List Str} (h:∀ us:List Value,us.length=ps.length->bindArgs fd ⟨us,[]⟩=pure (ps.zip us)):Binds K fd ps []:=fun s us _ hl=>by
 rw [List.append_nil] at hl ⊢
 exact .of_eq (h us hl)
section
variable {X:Cx} {CX:AB} {k:Nat} {f C:Addr} {fd:FuncData} {ps:List Str} {sp:Sp} {dvs:List V} {ds:List Value} {E:XK} {x m:Str} {p pos apos:Pos} {e o:Expr} {es:List Expr} {ta:TE} {t:TA}
structure Mk (K:PySem.W.Frag) (C f:Addr):Prop where
 makes:PySem.W.makesIn K C=true
 init:PySem.W.findIn K (.ref C) "__init__" = some (some (.ref f))
 fn:PySem.W.isFn K (.ref f)=true
 kp:PySem.W.keepIn K (.ref C)=true
end
noncomputable def PK (X:Cx) (kws:List Keyword) (t:TA):Prop :=
 ∀ (pos:Pos) (pins:List (Addr×Obj)) (s:Shared) (σ:St) (H:Hp) (Q:List V->Hp->Prop),Inv X pins σ H s->t σ H Q->wpAny (model X.prog X.w) X.A (evalAll ((backToKw pos (keywordEach kws X.env)).map (·.2))) (AP X pins σ Q) X.xe s
section
variable {X:Cx} {CX:AB} {k:Nat} {f C:Addr} {fd:FuncData} {ps ks:List Str} {sp:Sp} {E:XK} {x m:Str} {p pos apos kpos:Pos} {e o:Expr} {es:List Expr} {kws:List Keyword} {te ta:TE} {t tk:TA} {nm:Option Str}
theorem F9:PK X [] iR:=fun _ _ _ _ H Q I h=>wpAny_evalAll_nil ⟨[],H,I,.nil,h⟩
theorem BV (ha:PE X e te) (hr:PK X kws t):PK X (⟨nm,e,kpos⟩::kws) (dc te t):=by
 intro pos pins s σ H Q I h
 show wpAny _ _ (evalAll ((do let v <- eval e X.env;standAt pos;pure v)::(backToKw pos (keywordEach kws X.env)).map (·.2))) _ _ s
 refine wpAny_evalAll_cons (wpAny_bind (aS (ha pins s σ H _ I h) fun u s1 ⟨x,H1,I1,r1,q1⟩=>wpAny_bind (wpAny_standAt (wpAny_pure ?_))))
 exact aS (hr pos pins s1 σ H1 _ I1 q1) fun us s2 ⟨xs,H2,I2,r2,q2⟩=>⟨x::xs,H2,I2,.cons r1 r2,q2⟩
noncomputable def qE (sp:Sp) (gV:List V->List V->List V) (E:XK) (t tk:TA):TE:=fun σ H Q=>t σ H fun vs H1=>tk σ H1 fun zs H2=>sp (gV vs zs) H2 Q E
variable {g:List Value->List Value->List Value} {gV:List V->List V->List V}
end
structure dh (N P:List Str) (sc:Scope):Prop where
 kind:sc.kind=.function
 co:sc.isCoroutine=false
 gen:sc.isGenerator=false
 nd:N.Nodup
 pre:N.take P.length=P
 par:∀ x∈P,sc.names.lookup x=some .local\/sc.names.lookup x=some .cell
 GJ:∀ y∈sc.names,y.2≠.free
theorem mw {kindOf:Str->Option NameKind} {x:Str}:∀ {binds:List (Str×Value)} {m:Str->Option Value},(∀ v,(x,v)∉binds)->bindL kindOf binds m x=m x
 | [],_,_=>rfl
 | (n, v)::r, m, h=>by
  unfold bindL
  rw [mw fun w hw=>h w (List.mem_cons_of_mem _ hw)]
  split
  ·have:x≠n:=by rintro rfl;exact h v List.mem_cons_self
   simp [this]
  ·rfl
theorem mC {kindOf:Str->Option NameKind} {x:Str}:∀ {binds:List (Str×Value)} {m:Str->Option Value},(∀ v,(x,v)∉binds)->bindC kindOf binds m x=m x
 | [],_,_=>rfl
 | (n, v)::r, m, h=>by
  unfold bindC
  rw [mC fun w hw=>h w (List.mem_cons_of_mem _ hw)]
  split
  ·rfl
  ·have:x≠n:=by rintro rfl;exact h v List.mem_cons_self
   simp [this]
theorem mz {kindOf:Str->Option NameKind} {x:Str} {v:Value}:∀ {P:List Str} {vs:List Value} {i:Nat} {m:Str->Option Value},P.Nodup->P[i]? = some x->vs[i]? = some v->kindOf x=some .local ->
  bindL kindOf (P.zip vs) m x=some v
 | [],_,_,_,_,h,_,_=>by simp at h
 | _::_,[],_,_,_,_,h,_=>by simp at h
 | p::P,w::vs,0,m,nd,h1,h2,hk=>by
  simp at h1 h2;subst h1;subst h2
  show bindL kindOf ((p,w)::P.zip vs) m p=_
  unfold bindL
  rw [mw fun v hv=>(List.nodup_cons.mp nd).1 (List.of_mem_zip hv).1,if_pos hk]
  simp
 | p::P,w::vs,i+1,m,nd,h1,h2,hk=>by
  show bindL kindOf ((p,w)::P.zip vs) m x=_
  unfold bindL
  exact mz (i:=i) (List.nodup_cons.mp nd).2 (by simpa using h1) (by simpa using h2) hk
theorem mD {kindOf:Str->Option NameKind} {x:Str} {v:Value}:∀ {P:List Str} {vs:List Value} {i:Nat} {m:Str->Option Value},P.Nodup->P[i]? = some x->vs[i]? = some v->kindOf x≠some .local ->
  bindC kindOf (P.zip vs) m x=some v
 | [],_,_,_,_,h,_,_=>by simp at h
 | _::_,[],_,_,_,_,h,_=>by simp at h
 | p::P,w::vs,0,m,nd,h1,h2,hk=>by
  simp at h1 h2;subst h1;subst h2
  show bindC kindOf ((p,w)::P.zip vs) m p=_
  unfold bindC
  rw [mC fun v hv=>(List.nodup_cons.mp nd).1 (List.of_mem_zip hv).1,if_neg hk]
  simp
 | p::P,w::vs,i+1,m,nd,h1,h2,hk=>by
  show bindC kindOf ((p,w)::P.zip vs) m x=_
  unfold bindC
  exact mD (i:=i) (List.nodup_cons.mp nd).2 (by simpa using h1) (by simpa using h2) hk
noncomputable def start (N:List Str) (vs:List V):St:=vs.map some++List.replicate (N.length-vs.length) none
noncomputable def iJ (CX:AB) (P:Program) (w:World) (K:PySem.W.Frag) (mg:Str->Option Value) (base:Heap) (N:List Str) (qual:Str) (scope:Scope) (f:Addr) (cd:Value) (A:Around) (outer:List Env) (s:Shared) (H:Hp) (E:XK):Cx where
 prog:=P
 w:=w
 K:=K
 mg:=mg
 base:=base
 A:=A.deeper (envOfC qual scope s.heap.objs.size f cd)
 N:=N
 s₀:=s
 H₀:=H
 env:=envOfC qual scope s.heap.objs.size f cd
 outer:=outer
 stack:=envOfC qual scope s.heap.objs.size f cd::outer
 ex:=[]
 calm:=A.handled.isNone
 fn:=fun _=>true
 pn:=[]
 xe:=fun e s'=>wpAny (model P w) (A.deeper (envOfC qual scope s.heap.objs.size f cd)) (leaving (envOfC qual scope s.heap.objs.size f cd) e) (fun _ s''=>CX outer H s E e s'') (fun e' s''=>CX outer H s E e' s'') s'
theorem qj {sc:Scope} {n:Nat} {x:Str} (h:sc.names.lookup x=some .cell):∃ c,(cellsFrom n sc.names []).lookup x=some c:=by
 have q:=PySem.W.cellsFrom_some sc.names n [] (.inl h)
 exact Option.isSome_iff_exists.mp q
theorem vQ {CX:AB} {P:Program} {w:World} {K:PySem.W.Frag} {mg:Str->Option Value} {base:Heap} {N ps:List Str} {qual:Str} {scope:Scope} {f:Addr} {cd:Value} {A:Around} {outer:List Env} {s s1:Shared} {H:Hp} {E:XK} {us:List Value} {vs:List V}
  (S:dh N ps scope) (e0:lu P w K mg base A outer s H) (hl:vs.length=ps.length) (r:Vals vs us)
  (x:InCallC s s.heap.objs.size (bindL (envOfC qual scope s.heap.objs.size f cd).kindOf (ps.zip us) fun _=>none) (cellsFrom (s.heap.objs.size+1) scope.names []) (bindC (envOfC qual scope s.heap.objs.size f cd).kindOf (ps.zip us) fun _=>none) s1) :
  Inv (iJ CX P w K mg base N qual scope f cd A outer s H E) [] (start N vs) H s1:=by
 have hpl:ps.length<=N.length:=by have:=congrArg List.length S.pre;rw [List.length_take] at this;omega
 obtain ⟨h1,tk,rfl,hk⟩:=x.done
 have KL:∀ b:Addr,b∉(iJ CX P w K mg base N qual scope f cd A outer s H E).ex:=fun b z=>absurd (show b∈([]:List Addr) from z) (by simp)
 refine ⟨⟨e0.mod,S.kind,rfl,rfl,Nat.le_refl _,fun y z c h1 h2=>?_,fun y hy=>?_,fun y c _ h=>?_,(fun z=>Option.isNone_iff_eq_none.mp z),Around.frames_deeper e0.frames,.inr ⟨rfl,rfl⟩,fun b z=>absurd z (KL b),e0.bs,e0.wm,fun b _ _=>KL b,fun b z=>absurd z (KL b),e0.gp,e0.zw⟩,
  rfl,e0.bare,Un.kept hk,⟨_,x.toInCall.ns,fun i y v h1 h2 h3=>?_⟩,fun y c h=>⟨_,x.cell y c h⟩,e0.hok.fresh (Nat.le_refl _),fun y c h=>?_,fun p hp=>absurd (show p∈([]:List (Addr×Obj)) from hp) (by simp),e0.hok.kept hk,?_⟩
 ·exact name_of_addr x.apart (PySem.mem_of_lookup h1) (PySem.mem_of_lookup h2)
 ·have hy:scope.names.lookup y=some .cell\/scope.names.lookup y=some .free:=hy
  rcases hy with hy | hy
  ·exact qj hy
  ·exact absurd rfl (S.GJ _ (PySem.mem_of_lookup hy))
 ·exact Nat.le_of_lt (x.above y c (PySem.mem_of_lookup h))
 ·have hi:i<vs.length:=by
   unfold start at h2
   by_cases hi:i<vs.length
   ·exact hi
   ·rw [List.getElem?_append_right (by simpa using hi)] at h2
    rw [List.getElem?_replicate] at h2
    split at h2 <;> cases h2
  have ha:vs[i]? = some v:=by
   unfold start at h2
   rw [List.getElem?_append_left (by simpa using hi),List.getElem?_map] at h2
   cases e:vs[i]? with
   | none=>rw [e] at h2;cases h2
   | some a=>rw [e] at h2;cases h2;rfl
  obtain ⟨u,hu,rv⟩:=r.get ha
  have hp:ps[i]? = some y:=by
   rw [<- S.pre,List.getElem?_take_of_lt (by omega)];exact h1
  have ndP:ps.Nodup:=by rw [<- S.pre];exact S.nd.sublist (List.take_sublist _ _)
  refine ⟨u,rv,?_⟩
  rcases S.par y (List.mem_of_getElem? hp) with k | k
  ·exact .inl ⟨k,mz ndP hp hu k⟩
  ·obtain ⟨c,e⟩:=qj (n:=s.heap.objs.size+1) k
   refine .inr ⟨.inl k,c,e,?_⟩
   have q:=x.cell y c e
   rw [mD ndP hp hu (by show scope.names.lookup y≠_;rw [k];decide)] at q
   exact q
 ·exact e0.hok.fresh (Nat.le_of_lt (x.above y c (PySem.mem_of_lookup h)))
 ·unfold start
  show _=N.length
  rw [List.length_append,List.length_map,List.length_replicate]
  omega
theorem El {CX:AB} {P:Program} {w:World} {K:PySem.W.Frag} {mg:Str->Option Value} {base:Heap} {k:Nat} {f:Addr} {name qual:Str} {params:Arguments} {body:List Stmt} {scope:Scope} {dV kV doc pm cdv ct oc:Value} {an od:Option Addr}
  {osl:Array (Option Value)} {N ps:List Str} {sp:Sp} (lk:K.lookup f=some ⟨oc,od,.func (PySem.W.fnOf name qual params body scope dV kV doc pm an cdv ct),osl⟩) (hcd:PySem.W.codeIn K cdv qual=true) (S:dh N ps scope)
  (len:∀ vs H Q E,sp vs H Q E->vs.length=ps.length)
  (hbody:∀ (A:Around) (outer:List Env) (s:Shared) (H:Hp) (vs:List V) (Q:VK) (E:XK),bG cm k (A.deeper (envOfC qual scope s.heap.objs.size f cdv))->(cm=false->HX A H)->sp vs H Q E ->
   ∃ t,jd (iJ CX P w K mg base N qual scope f cdv A outer s H E) body t/\t { nx:=fun _ H'=>Q .ao H',rt:=Q } (start N vs) H) :
  aZ cm P w K mg base CX (k+1) f (PySem.W.fnOf name qual params body scope dV kV doc pm an cdv ct) ps sp:=by
 refine ⟨len,fun A outer s H args us vs Q E hr hx e0 hb r Jg=>?_⟩
 have hl:=len _ _ _ _ Jg
 have KX:K.In s.heap:=e0.mod.yK.keeps fun b o e=>(e0.bs b o e).1
 have lim:s.heap.NoLimit:=e0.mod.nolimit.keeps fun b o e=>(e0.bs b o e).1
 have hkind:∀ y∈ps.zip us,scope.names.lookup y.1=some .local\/(scope.names.lookup y.1=some .cell/\((cellsFrom (s.heap.objs.size+1) scope.names []).lookup y.1).isSome=true):=fun ⟨n,v⟩ hy=>by
  rcases S.par n (List.of_mem_zip hy).1 with q | q
  ·exact .inl q
  ·exact .inr ⟨q,PySem.W.cellsFrom_some _ _ _ (.inl q)⟩
 refine codeAny_call_function hr.depth (KX _ _ lk) rfl S.co S.gen rfl (PySem.W.codeRec_of KX hcd) (hb _ _ _ _ ?_)
 refine wpAny_newFunctionEnv_cells S.kind hkind fun env he s1 x=>?_
 subst he
 refine ⟨lim.keeps x.toInCall.keep,codeAny_func ?_⟩
 obtain ⟨t,ht,hq⟩:=hbody A outer s H vs Q E (hr.deeper _) hx Jg
 have I:Inv (iJ CX P w K mg base N qual scope f cdv A outer s H E) [] (start N vs) H s1:=vQ S e0 hl r x
 refine wpAny_mono (ht [] s1 (start N vs) H _ I hq) (fun fl s' hs=>?_) fun e s' hs=>hs
 have fin:∀ {σ':St} {H':Hp} {v:V} {u:Value},Inv (iJ CX P w K mg base N qual scope f cdv A outer s H E) [] σ' H' s'->RelV v u->Q v H'->CE outer P w H s Q u s' :=
  fun {σ' H' v u} J rv q=>⟨v,H',J.os,J.bare,J.base,J.hok,rv,q⟩
 cases fl with
 | ret u =>
  obtain ⟨v,σ',H',J,rv,q⟩:=hs
  exact fin J rv q
 | next =>
  obtain ⟨σ',H',J,q⟩:=hs
  exact fin (v:=V.ao) (u:=Value.none) J rfl q
 | brk =>
  obtain ⟨_,_,_,q⟩:=hs
  exact False.elim q
 | cont =>
  obtain ⟨_,_,_,q⟩:=hs
  exact False.elim q
section
variable {X:Cx} {x:Str} {p pos:Pos} {e:Expr} {es:List Expr} {t:TA} {id T:String} {r:List V->Hp->VK->Prop}
noncomputable def DI (r:List V->Hp->VK->Prop) (t:TA):TE:=fun σ H Q=>t σ H fun vs H1=>r vs H1 Q
theorem cP (hc:b6 X (.builtin id) r) (hg:Gl X x) (hm:X.mg x=none) (hv:bootBuiltins x=some (.builtin id)) (ha:PA X (e::es) t) (hn:x≠"__name__":=by decide) (hdb:(x == ("__debug__" : Str))=false:=by decide)
  (he:starEach (e::es) X.env=(false,eval e X.env)::starEach es X.env:=by rfl) (hpl:(backTo pos (starEach es X.env)).any (·.1)=false:=by rfl):PE X (.Call (.Name x p) (e::es) [] pos) (DI r t):=by
 intro pins s σ H Q I h
 refine wpAny_Call_Name_kw (kr I hg hm hv ?_ hn hdb)
 exact PyProof.Rows.callWith_builtin1 (aS (ha pos pins s σ H _ I h) fun us s1 ⟨vs,H1,I1,r1,q1⟩=>hc pins s1 σ H1 vs us Q I1 r1 q1) he hpl
theorem lN (hc:b6 X (.type T) r) (hg:Gl X x) (hm:X.mg x=none) (hv:bootBuiltins x=some (.type T)) (ha:PA X (e::es) t) (hn:x≠"__name__":=by decide) (hdb:(x == ("__debug__" : Str))=false:=by decide)
  (he:starEach (e::es) X.env=(false,eval e X.env)::starEach es X.env:=by rfl) (hpl:(backTo pos (starEach es X.env)).any (·.1)=false:=by rfl):PE X (.Call (.Name x p) (e::es) [] pos) (DI r t):=by
 intro pins s σ H Q I h
 refine wpAny_Call_Name_kw (kr I hg hm hv ?_ hn hdb)
 exact PyProof.Rows.callWith_type1 (aS (ha pos pins s σ H _ I h) fun us s1 ⟨vs,H1,I1,r1,q1⟩=>hc pins s1 σ H1 vs us Q I1 r1 q1) he hpl
end
end L2
namespace HT
open PySem PyProof.Rows
section
open PySem.SeqAt
open PySem.AutoSeq1 (wpAny_loadPart')
open PySem.MeetsSeq PySem.MeetsSeq2 PySem.MeetsSeq3
end
section
variable {prog:Program} {w:World} {A:Around} {E:Value->Shared->Prop} {s:Shared}
theorem C5 {t b:Addr} {vs ws:List Value} {Q:Value->Shared->Prop} (ht:IsTup s.heap t vs.toArray) (hb:IsTup s.heap b ws.toArray) (hv:vs≠[])
  (h1:ws=[]->Q (.ref t) s) (h2:ws≠[]->Q (.ref s.heap.objs.size) { s with heap:=s.heap.push { cls:=.type "tuple", data:=.seq (vs++ws).toArray } })
  (hsz:vs.length+ws.length<=sizeLine):wpAny (model prog w) A (binaryOp .Add (.ref t) (.ref b)) Q E s:=by
 obtain ⟨⟨cls,dd,data,sl⟩,ho,hc,n,hd⟩:=id ht
 obtain ⟨⟨LP,dd2,data2,sl2⟩,ho2,hc2,n2,hd2⟩:=id hb
 simp only at hc hd hc2 hd2
 subst hc hd hc2 hd2
 have e:vs.toArray++ws.toArray=(vs++ws).toArray:=by simp
 by_cases hw:ws=[]
 ·exact concat_meets ⟨_,ho,rfl⟩ ⟨_,ho2,rfl⟩ noFill_tuple_add seq_tuple_add PySem.F.slot_tuple_add PySem.F.entry_tuple_add (PySem.F.args_tuple_add_2 _ _)
   (tuple_addW1 t b vs.toArray ws.toArray n n2 dd dd2 sl sl2 (by simpa using hv) (by simp [hw])) ⟨ho,ho2,h1 hw⟩
 ·refine concat_meets ⟨_,ho,rfl⟩ ⟨_,ho2,rfl⟩ noFill_tuple_add seq_tuple_add PySem.F.slot_tuple_add PySem.F.entry_tuple_add (PySem.F.args_tuple_add_2 _ _)
   (tuple_addW2 t b vs.toArray ws.toArray n n2 dd dd2 sl sl2 (by simpa using hv) (by simpa using hw) (by rw [List.size_toArray,List.size_toArray];exact hsz)) ⟨ho,ho2,?_⟩
  rw [e]
  exact h2 hw
noncomputable def cA (n d:Nat):Option Int->Nat
 | none=>d
 | some v=>if v<0 then (v+(n:Int)).toNat else min v.toNat n
theorem FA (n d:Nat) (hd:d<=n) (o:Option Int):cA n d o<=n:=by
 cases o with
 | none=>exact hd
 | some v =>
  show (if v<0 then (v+(n:Int)).toNat else min v.toNat n)<=n
  by_cases hv:v<0
  ·rw [if_pos hv];omega
  ·rw [if_neg hv];exact Nat.min_le_right _ _
theorem uQ (v:Int) (n d:Nat):(if v<0 then max (v+(n:Int)) 0 else min v (n:Int))=((cA n d (some v):Nat):Int):=by
 show (if v<0 then max (v+(n:Int)) 0 else min v (n:Int))=(((if v<0 then (v+(n:Int)).toNat else min v.toNat n):Nat):Int)
 by_cases hv:v<0
 ·simp only [if_pos hv];omega
 ·simp only [if_neg hv];omega
theorem sG (lo hi:Option Int) (n:Nat):Builtin.Slice.sliceAdjust lo hi 1 (n:Int)=(((cA n 0 lo:Nat):Int),((cA n n hi:Nat):Int)):=by
 have h1:¬ ((1:Int)<0):=by omega
 unfold Builtin.Slice.sliceAdjust
 simp only [h1,if_false]
 refine Prod.ext ?_ ?_
 ·cases lo with
  | none=>rfl
  | some v=>exact uQ v n 0
 ·cases hi with
  | none=>rfl
  | some v=>exact uQ v n n
theorem qU (i j:Nat):Builtin.Slice.slicePlaces (i:Int) (j:Int) 1=j-i:=by
 unfold Builtin.Slice.slicePlaces
 have h1:(1:Int) > 0:=by omega
 simp only [h1,if_true,Int.ediv_one]
 split <;> omega
theorem jZ {v:Value} {o:Option Int} {Q:Option Int->Shared->Prop} (p:IsPart v o) (h:Q o s):wpAny (model prog w) A (Builtin.Slice.slicePartIndex v) Q E s:=by
 cases p with
 | none=>exact slicePart_none h
 | int i t=>exact slicePart_int h
theorem iS {sl:Addr} {vl vu:Value} {lo hi:Option Int} {n:Nat} {Q:Int×Int×Nat->Shared->Prop} (hs:s.heap.IsSliceOf sl vl vu .none) (pl:IsPart vl lo) (pu:IsPart vu hi)
  (h:Q (((cA n 0 lo:Nat):Int),1,cA n n hi-cA n 0 lo) s):wpAny (model prog w) A (Builtin.Slice.sliceApplied (.ref sl) (pure (n:Int))) Q E s:=by
 obtain ⟨os,hos,hcs,hds⟩:=id hs
 unfold Builtin.Slice.sliceApplied Builtin.Slice.sliceFields
 refine wpAny_bind (wpAny_bind (wpAny_field hos hds (x:=vl) rfl (wpAny_bind (wpAny_field hos hds (x:=vu) rfl (wpAny_bind (wpAny_field hos hds (x:=.none) rfl (wpAny_pure ?_)))))))
 refine wpAny_bind (slicePart_none ?_)
 show wpAny _ _ (if ((1:Int) == 0)=true then _ else _) _ _ s
 rw [if_neg (by decide)]
 refine wpAny_bind (jZ pl (wpAny_bind (jZ pu (wpAny_bind (wpAny_pure ?_)))))
 show wpAny _ _ (match Builtin.Slice.sliceAdjust lo hi 1 (n:Int) with | (lo,hi)=>pure (lo,(1:Int),Builtin.Slice.slicePlaces lo hi 1)) _ _ s
 rw [sG lo hi n]
 show wpAny _ _ (pure (((cA n 0 lo:Nat):Int),(1:Int),Builtin.Slice.slicePlaces ((cA n 0 lo:Nat):Int) ((cA n n hi:Nat):Int) 1)) _ _ s
 rw [qU]
 exact wpAny_pure h
theorem xS (xs:Array Value) (i k:Nat):((List.range k).filterMap fun (m:Nat)=>xs[((i:Int)+(m:Int)*1).toNat]?).toArray=((xs.toList.drop i).take k).toArray:=by
 have e:(fun (m:Nat)=>xs[((i:Int)+(m:Int)*1).toNat]?)=fun m=>xs[i+m]?:=by
  funext m
  have:((i:Int)+(m:Int)*1).toNat=i+m:=by omega
  rw [this]
 rw [e]
 have:=pick_run xs i k
 rw [List.filterMap_map] at this
 have e2:((fun x=>xs[x]?) ∘ fun x=>i+x)=fun m=>xs[i+m]?:=rfl
 rw [e2] at this
 rw [this]
theorem iw {t sl:Addr} {items:Array Value} {vl vu:Value} {lo hi:Option Int} {Q:Value->Shared->Prop} (ht:IsTup s.heap t items) (hs:s.heap.IsSliceOf sl vl vu .none) (pl:IsPart vl lo) (pu:IsPart vu hi)
  (hw:¬ (cA items.size 0 lo=0/\cA items.size items.size hi=items.size))
  (h:Q (.ref s.heap.objs.size) { s with heap:=s.heap.push { cls:=.type "tuple", data:=.seq ((items.toList.drop (cA items.size 0 lo)).take (cA items.size items.size hi-cA items.size 0 lo)).toArray } })
  (hsz:items.size<=sizeLine):wpAny (model prog w) A (getItem (.ref t) (.ref sl)) Q E s:=by
 have ur:sizeOk (.seq ((items.toList.drop (cA items.size 0 lo)).take (cA items.size items.size hi-cA items.size 0 lo)).toArray):=by
  show ((items.toList.drop (cA items.size 0 lo)).take (cA items.size items.size hi-cA items.size 0 lo)).toArray.size<=sizeLine
  rw [List.size_toArray,List.length_take,List.length_drop,Array.length_toList]
  omega
 have hj:cA items.size items.size hi<=items.size:=FA _ _ (Nat.le_refl _) hi
 obtain ⟨os,hos,hcs,hds⟩:=id hs
 have hTs:s.TypeIs (.ref sl) "slice":=⟨os, hos, hcs⟩
 unfold getItem
 try with_reducible refine wpAny_holding ?_
 first | refine wpAny_bind (wpAny_pure ?_) | skip
 refine wpAny_bind (wpAny_sequenceKey ht.typeIs (by decide) ?_)
 refine wpAny_bind (wpAny_callSpecial?_slot (name:=Str.ofString "__getitem__") ht.typeIs PyProof.Rows.slot_tuple_getitem
  (wpAny_call_entry PyProof.Rows.slot_tuple_getitem ht.typeIs entry_tuple_getitem ?_ (args_tuple_getitem _ _)))
 show wpAny _ _ (Builtin.Tuple.tupleItemsOf (.ref t) >>= _) _ _ s
 refine wpAny_bind (tupleItemsOf_ ht ?_)
 refine wpAny_bind (wpAny_typeOf hTs ?_)
 rw [if_pos (by decide)]
 refine wpAny_bind (iS hs pl pu ?_)
 have hno:¬ ((((cA items.size 0 lo:Nat):Int) == 0&&(1:Int) == 1&&(cA items.size items.size hi-cA items.size 0 lo) == items.size)=true):=by
  intro q
  rw [Bool.and_eq_true,Bool.and_eq_true] at q
  have q1:((cA items.size 0 lo:Nat):Int)=0:=eq_of_beq q.1.1
  have q2:cA items.size items.size hi-cA items.size 0 lo=items.size:=eq_of_beq q.2
  exact hw ⟨by omega,by omega⟩
 show wpAny _ _ (if (((cA items.size 0 lo:Nat):Int) == 0&&(1:Int) == 1&&(cA items.size items.size hi-cA items.size 0 lo) == items.size)=true then _ else _) _ _ s
 rw [if_neg hno,xS]
 first
  | exact wpAny_bind (m:=Builtin.Tuple.tupleExact _) (wpAny_newObj_type (wpAny_pure ⟨_,rfl,wpAny_pure h⟩) ur)
  | exact wpAny_bind (m:=Builtin.Tuple.tupleExact _) (wpAny_newObj_type (wpAny_bind (wpAny_pure (wpAny_pure ⟨_,rfl,wpAny_pure h⟩))) ur)
  | exact wpAny_bind (wpAny_bind (m:=Builtin.Tuple.tupleExact _) (wpAny_newObj_type (wpAny_pure (wpAny_pure ⟨_,rfl,wpAny_pure h⟩)) ur))
  | exact wpAny_bind (wpAny_bind (m:=Builtin.Tuple.tupleExact _) (wpAny_newObj_type (wpAny_pure ⟨_,rfl,wpAny_pure h⟩) ur))
end
end HT
namespace L2
open PySem PySem.Spec PyProof.Rows
noncomputable abbrev TO:=St->Hp->(Option Int->Hp->Prop)->Prop
noncomputable def PO (X:Cx) (e:Option Expr) (t:TO):Prop :=
 ∀ (pins:List (Addr×Obj)) (s:Shared) (σ:St) (H:Hp) (Q:Option Int->Hp->Prop),Inv X pins σ H s->t σ H Q ->
  wpAny (model X.prog X.w) X.A (evalPart e X.env) (fun u s'=>∃ o H',Inv X pins σ H' s'/\IsPart u o/\Q o H') X.xe s
noncomputable def sQ:TO:=fun _ H Q=>Q none H
noncomputable def DE (t:TE):TO:=fun σ H Q=>t σ H fun x H1=>∃ i,x=.int i/\Q (some i) H1
section
variable {X:Cx} {e:Expr} {te:TE} {lo hi:Option Expr} {tl th:TO} {pos p2:Pos}
theorem BS:PO X none sQ:=by
 intro pins s σ H Q I h
 rw [evalPart_none]
 exact wpAny_pure ⟨none,H,I,.none,h⟩
theorem BR (h:PE X e te):PO X (some e) (DE te):=by
 intro pins s σ H Q I hw
 rw [evalPart_some]
 refine aS (h pins s σ H _ I hw) fun u s1 ⟨x,H1,I1,r1,q1⟩=>?_
 obtain ⟨i,rfl,q⟩:=q1
 obtain ⟨t,rfl⟩:=r1
 exact ⟨some i,H1,I1,.int i t,q⟩
noncomputable def Dm (X:Cx) (r:V->Option Int->Option Int->Hp->VK->Prop):Prop :=
 ∀ (pins:List (Addr×Obj)) (s:Shared) (σ:St) (H:Hp) (x:V) (v vl vu:Value) (lo hi:Option Int) (sl:Addr) (Q:VK),Inv X pins σ H s->RelV x v->s.heap.IsSliceOf sl vl vu .none->IsPart vl lo->IsPart vu hi->r x lo hi H Q ->
  ∃ T id, typeLookup (.type T) "__getitem__" = pure (some (.builtin id))/\s.TypeIs v T/\wpAny (model X.prog X.w) X.A (getItem v (.ref sl)) (EP X pins σ Q) X.xe s
theorem Dm.or {r r':V->Option Int->Option Int->Hp->VK->Prop} (h:Dm X r) (h':Dm X r'):Dm X (fun x lo hi H Q=>r x lo hi H Q\/r' x lo hi H Q):=by
 intro pins s σ H x v vl vu lo hi sl Q I rx hs pl pu q
 rcases q with q | q
 ·exact h pins s σ H x v vl vu lo hi sl Q I rx hs pl pu q
 ·exact h' pins s σ H x v vl vu lo hi sl Q I rx hs pl pu q
noncomputable def tSl (r:V->Option Int->Option Int->Hp->VK->Prop) (te:TE) (tl th:TO):TE:=fun σ H Q=>te σ H fun x H1=>tl σ H1 fun l H2=>th σ H2 fun u H3=>r x l u H3 Q
theorem xV {r:V->Option Int->Option Int->Hp->VK->Prop} (hr:Dm X r) (he:PE X e te) (hl:PO X lo tl) (hu:PO X hi th):PE X (.Subscript e (.Slice lo hi none p2) pos) (tSl r te tl th):=by
 intro pins s σ H Q I h
 refine Subscript_ (aS (he pins s σ H _ I h) fun v s1 ⟨x,H1,I1,r1,q1⟩=>?_)
 refine wpAny_Slice (aS (hl pins s1 σ H1 _ I1 q1) fun vl s2 ⟨l,H2,I2,pl,q2⟩=>aS (hu pins s2 σ H2 _ I2 q2) fun vu s3 ⟨u,H3,I3,pu,q3⟩=>?_)
 rw [evalPart_none]
 refine wpAny_pure ?_
 have I4:Inv X pins σ H3 { s3 with heap:=s3.heap.push { cls:=.type "slice", data:=.fields #[vl, vu, .none] } }:=I3.kept (t':=s3.toks) fun b ob q=>Heap.get?_push_of_some _ q
 obtain ⟨T, id, hT, ht, hg⟩:=hr pins { s3 with heap:=s3.heap.push { cls:=.type "slice", data:=.fields #[vl, vu, .none] } } σ H3 x v vl vu l u s3.heap.objs.size Q I4 r1 (Heap.IsSliceOf.new ..) pl pu q3
 show wpAny (model X.prog X.w) X.A (subscriptTail e (.Slice lo hi none p2) v (.ref s3.heap.objs.size)) (EP X pins σ Q) X.xe { s3 with heap:=s3.heap.push { cls:=.type "slice", data:=.fields #[vl, vu, .none] } }
 exact tail_any (ops:=[.ref s3.heap.objs.size,v]) ht hT hg (by with_unfolding_all rfl)
noncomputable def qh (xs:List V) (lo hi:Option Int):List V:=(xs.drop (HT.cA xs.length 0 lo)).take (HT.cA xs.length xs.length hi-HT.cA xs.length 0 lo)
theorem jq (xs:List V) (lo hi:Option Int):(qh xs lo hi).length<=xs.length:=by
 unfold qh
 rw [List.length_take,List.length_drop]
 omega
noncomputable def J2 (K:PySem.W.Frag):V->Option Int->Option Int->Hp->VK->Prop:=fun x lo hi H Q=>∃ a xs,x=.ref a/\gE K H a xs /\
 ¬ (HT.cA xs.length 0 lo=0/\HT.cA xs.length xs.length hi=xs.length)/\∀ p,H p=none->Q (.ref p) (upd H p (.tup (qh xs lo hi)))
theorem Ff:Dm X (J2 X.K):=by
 intro pins s σ H x v vl vu lo hi sl Q I rx hs pl pu h
 obtain ⟨a,xs,rfl,hx,hw,q⟩:=h
 cases rx
 obtain ⟨its,r,ht,hz⟩:=I.tuple hx
 have hlen:its.toArray.size=xs.length:=by rw [List.size_toArray];exact r.length.symm
 refine ⟨"tuple", _, PyProof.Rows.slot_tuple_getitem.lookup, ht.typeIs, ?_⟩
 refine HT.iw ht hs pl pu (by rw [hlen];exact hw) ?_ (by rw [hlen];exact hz)
 rw [hlen]
 refine ⟨.ref s.heap.objs.size,_,I.laid (t':=s.toks) (o:=.tup (qh xs lo hi)) (fun b ob q=>Heap.get?_push_of_some _ q) (Nat.le_refl _) ?_,rfl,q _ (I.hok.fresh (Nat.le_refl _))⟩
 exact ⟨Nat.le_trans (jq xs lo hi) hz,_,(r.drop (HT.cA xs.length 0 lo)).take (HT.cA xs.length xs.length hi-HT.cA xs.length 0 lo),IsTup.new _ _⟩
noncomputable def DY (K:PySem.W.Frag):R2:=fun x y H Q=>∃ a b xs ys,x=.ref a/\y=.ref b/\gE K H a xs/\gE K H b ys/\xs≠[]/\xs.length+ys.length<=sizeLine /\
 (ys=[]->Q (.ref a) H)/\(ys≠[]->∀ p,H p=none->Q (.ref p) (upd H p (.tup (xs++ys))))
theorem Vals.ng {xs:List V} {us:List Value} (r:Vals xs us):us=[]↔xs=[]:=by
 cases r with
 | nil=>simp
 | cons _ _=>simp
theorem Ca:ez X (binaryOp .Add) (DY X.K):=by
 intro pins s σ H x y v u Q I rx ry h
 obtain ⟨a,b,xs,ys,rfl,rfl,ha,hb,hx,hz,q1,q2⟩:=h
 cases rx
 cases ry
 obtain ⟨its,r1,p1,_⟩:=I.tuple ha
 obtain ⟨its2,r2,p2,_⟩:=I.tuple hb
 refine HT.C5 p1 p2 (fun z=>hx (r1.ng.mp z)) (fun z=>⟨.ref a,H,I,rfl,q1 (r2.ng.mp z)⟩) (fun z=>?_) (by rw [<- r1.length,<- r2.length];exact hz)
 refine ⟨.ref s.heap.objs.size,_,I.laid (t':=s.toks) (o:=.tup (xs++ys)) (fun b ob q=>Heap.get?_push_of_some _ q) (Nat.le_refl _) ?_,rfl,q2 (fun w=>z (r2.ng.mpr w)) _ (I.hok.fresh (Nat.le_refl _))⟩
 exact ⟨by rw [List.length_append];exact hz,_,r1.append r2,IsTup.new _ _⟩
end
noncomputable def Jf (n:Nat) (i:Int):Option Nat:=if 0<=i then (if i<n then some i.toNat else none) else if -(n:Int)<=i then some (i+n).toNat else none
noncomputable def IL {α:Type} (xs:List α) (i:Int):Option α:=(Jf xs.length i).bind fun j=>xs[j]?
theorem ug {n:Nat} {i:Int} {j:Nat} (h:Jf n i=some j):seqIndex? i n=some j/\j<n/\-(n:Int)<=i/\i<n:=by
 unfold Jf at h
 by_cases h0:0<=i
 ·rw [if_pos h0] at h
  by_cases h1:i<n
  ·rw [if_pos h1] at h
   have e:i.toNat=j:=Option.some.inj h
   exact ⟨by rw [seqIndex_of h0 h1,e],by omega,by omega,h1⟩
  ·rw [if_neg h1] at h;cases h
 ·rw [if_neg h0] at h
  by_cases h1:-(n:Int)<=i
  ·rw [if_pos h1] at h
   have e:(i+n).toNat=j:=Option.some.inj h
   exact ⟨by rw [seqIndex_neg (by omega) h1,e],by omega,h1,by omega⟩
  ·rw [if_neg h1] at h;cases h
theorem nW {α:Type} {xs:List α} {i:Int} {v:α} (h:IL xs i=some v):∃ j,seqIndex? i xs.length=some j/\xs[j]? = some v/\j<xs.length/\-(xs.length:Int)<=i/\i<xs.length:=by
 unfold IL at h
 cases e:Jf xs.length i with
 | none=>rw [e] at h;cases h
 | some j =>
  rw [e] at h
  obtain ⟨h1,h2,h3,h4⟩:=ug e
  exact ⟨j,h1,h,h2,h3,h4⟩
noncomputable def uY (b:Expr):Prop:=∀ o i,subscripted b false o i=operate [o,i] (getItem o i)
noncomputable def AJ (X:Cx) (r:R2):Prop :=
 ∀ (value slice:Expr) (pins:List (Addr×Obj)) (s:Shared) (σ:St) (H:Hp) (x y:V) (v u:Value) (Q:VK),Inv X pins σ H s->RelV x v->RelV y u->r x y H Q ->
  subscripted slice false v u=operate [v,u] (getItem v u)->wpAny (model X.prog X.w) X.A (subscriptTail value slice v u) (EP X pins σ Q) X.xe s
noncomputable def MtR (X:Cx) (id:String) (r:V->List V->Hp->VK->Prop):Prop :=
 ∀ (pins:List (Addr×Obj)) (s:Shared) (σ:St) (H:Hp) (x:V) (xs:List V) (v:Value) (us:List Value) (Q:VK),Inv X pins σ H s->RelV x v->Vals xs us->r x xs H Q ->
  wpAny (model X.prog X.w) X.A (call (.builtin id) (v::us)) (EP X pins σ Q) X.xe s
section
variable {X:Cx} {a b:Expr} {ta tb:TE} {pos:Pos}
theorem AJ.or {r r':R2} (h:AJ X r) (h':AJ X r'):AJ X (fun x y H Q=>r x y H Q\/r' x y H Q):=by
 intro value slice pins s σ H x y v u Q I rx ry q hs
 rcases q with q | q
 ·exact h value slice pins s σ H x y v u Q I rx ry q hs
 ·exact h' value slice pins s σ H x y v u Q I rx ry q hs
theorem Kq {r:R2} (hr:AJ X r) (ha:PE X a ta) (hb:PE X b tb) (hs:uY b):PE X (.Subscript a b pos) (E4 r ta tb):=by
 intro pins s σ H Q I h
 exact Subscript_ (IJ ha hb I h fun v u s2 x y H2 I2 rx ry q=>hr a b pins s2 σ H2 x y v u Q I2 rx ry q (hs _ _))
noncomputable def J8 (K:PySem.W.Frag):R2:=fun x y H Q=>∃ p xs i v,x=.ref p/\y=.int i/\fq K H p xs/\IL xs i=some v/\Q v H
noncomputable def J6 (K:PySem.W.Frag):R2:=fun x y H Q=>∃ p xs i v,x=.ref p/\y=.int i/\gE K H p xs/\IL xs i=some v/\Q v H
noncomputable def J7:R2:=fun x y H Q=>∃ z i c,x=.str z/\y=.int i/\z.length<=sizeLine/\IL z.cps.toList i=some c/\Q (.str ⟨#[c]⟩) H
theorem CD:AJ X (J8 X.K):=by
 intro value slice pins s σ H x y v u Q I rx ry h hs
 obtain ⟨p,xs,i,z,rfl,rfl,hq,he,q⟩:=h
 cases rx
 obtain ⟨t,rfl⟩:=ry
 obtain ⟨its,r,pl,hz⟩:=I.list hq
 obtain ⟨j,h1,h2,h3,h4,h5⟩:=nW he
 obtain ⟨w,ew,rw'⟩:=r.get h2
 have hl:=r.length
 have hn:=iW
 have fin:EP X pins σ Q w s:=⟨z,H,I,rw',q⟩
 by_cases h0:0<=i
 ·have hj:i.toNat=j:=by
   rw [seqIndex_of h0 h5] at h1
   exact Option.some.inj h1
  exact item_listR pl.isList h0 (by omega) (by rw [hj];simpa using ew) fin hs
 ·have hj:(i+(its.toArray.size:Int)).toNat=j:=by
   rw [seqIndex_neg (by omega) h4] at h1
   rw [List.size_toArray,<- hl]
   exact Option.some.inj h1
  exact subscriptTail_builtinR (x:=w) pl.isList.typeIs slot_list_getitem.lookup
   (wpAny_getItem_list_neg (Q:=fun r s'=>r=w/\EP X pins σ Q r s') pl.isList (by omega) (by rw [List.size_toArray] <;> omega) (by omega) (by rw [hj];simpa using ew) ⟨rfl,fin⟩) hs
theorem HH:AJ X (J6 X.K):=by
 intro value slice pins s σ H x y v u Q I rx ry h hs
 obtain ⟨p,xs,i,z,rfl,rfl,hq,he,q⟩:=h
 cases rx
 obtain ⟨t,rfl⟩:=ry
 obtain ⟨its,r,pl,hz⟩:=I.tuple hq
 obtain ⟨j,h1,h2,h3,h4,h5⟩:=nW he
 obtain ⟨w,ew,rw'⟩:=r.get h2
 have hl:=r.length
 have hn:=iW
 have fin:EP X pins σ Q w s:=⟨z,H,I,rw',q⟩
 exact subscriptTail_builtinR (x:=w) pl.typeIs slot_tuple_getitem.lookup
  (getItem_tuple (j:=j) (Q:=fun r s'=>r=w/\EP X pins σ Q r s') pl (by omega) (by omega) (by rw [List.size_toArray,<- hl];exact h1) (by simpa using ew) ⟨rfl,fin⟩) hs
theorem HJ:AJ X J7:=by
 intro value slice pins s σ H x y v u Q I rx ry h hs
 obtain ⟨z,i,c,rfl,rfl,hz,he,q⟩:=h
 obtain ⟨t,rfl⟩:=rx
 obtain ⟨t',rfl⟩:=ry
 obtain ⟨j,h1,h2,h3,h4,h5⟩:=nW he
 have hl:z.cps.toList.length=z.length:=by simp [Str.length]
 rw [hl] at h1 h4 h5
 have hn:=iW
 exact tail_any (typeIs_str s z t) slot_str_getitem.lookup (getItem_str (c:=c) (by
  have e1:decide (i < -(2 ^ 63:Int))=false:=decide_eq_false (by omega)
  have e2:decide (i ≥ 2 ^ 63)=false:=decide_eq_false (by omega)
  rw [e1,e2,Bool.or_false]) (by rw [h1];simpa using h2) ⟨.str ⟨#[c]⟩,H,I.tok _,⟨_,rfl⟩,q⟩) hs
theorem rB (its:List Value) (n j:Nat) (u:Value):Obj.mapSeq (·.setIfInBounds j u) { cls:=.type "list", data:=.seq its.toArray n }={ cls:=.type "list", data:=.seq (its.set j u).toArray n }:=by
 simp [Obj.mapSeq]
theorem Inv.lst {pins:List (Addr×Obj)} {σ:St} {H:Hp} {s:Shared} {p:Addr} {xs:List V} (I:Inv X pins σ H s) (h:H p=some (.lst xs)) :
  ∃ (its:List Value) (n:Nat), Vals xs its/\s.heap.get? p=some { cls:=.type "list", data:=.seq its.toArray n }/\xs.length<=sizeLine:=by
 obtain ⟨z,its,n,r,e⟩:=I.hok p _ h
 exact ⟨its,n,r,e,z⟩
theorem Inv.GV {pins:List (Addr×Obj)} {σ:St} {H:Hp} {s:Shared} {p:Addr} {xs ys:List V} {its its':List Value} {n n':Nat} {f:Obj->Obj} (I:Inv X pins σ H s) (h:H p=some (.lst xs))
  (ho:s.heap.get? p=some { cls:=.type "list", data:=.seq its.toArray n }) (hf:f { cls:=.type "list", data:=.seq its.toArray n }={ cls:=.type "list", data:=.seq its'.toArray n' }) (r:Vals ys its') (hz:ys.length<=sizeLine) (t:Nat) :
  Inv X pins σ (upd H p (.lst ys)) { s with heap:=s.heap.update p f,toks:=t }:=by
 have e:(s.heap.update p f).get? p=some { cls:=.type "list", data:=.seq its'.toArray n' }:=by
  rw [Heap.get?_update_self f ho (by rw [hf] <;> rfl),hf]
 refine I.write (x:=p) (e:=p) (by rw [h];trivial) (.inl rfl) (fun b u hb q=>(Heap.get?_update_other _ _ (Ne.symm hb)).trans q) ⟨_,e⟩ ?_
 exact ⟨hz,its',n',r,e⟩
noncomputable def DT:V->V->V->Hp->(Hp->Prop)->Prop:=fun o i v H Q=>∃ p xs k j,o=.ref p/\i=.int k/\H p=some (.lst xs)/\Jf xs.length k=some j/\Q (upd H p (.lst (xs.set j v)))
theorem set_list:PSet X DT:=by
 intro pins s σ H o i v ov iv u Q I ro ri rv h
 obtain ⟨p,xs,k,j,rfl,rfl,hp,hj,q⟩:=h
 cases ro
 obtain ⟨t,rfl⟩:=ri
 obtain ⟨its,n,r,ho,hz⟩:=I.lst hp
 obtain ⟨h1,h2,h3,h4⟩:=ug hj
 have hl:=r.length
 have hn:=iW
 have I':Inv X pins σ (upd H p (.lst (xs.set j v))) { s with heap:=s.heap.update p (Obj.mapSeq (·.setIfInBounds j u)) } :=
  I.GV hp ho (rB its n j u) (r.set rv j) (by rw [List.length_set];exact hz) s.toks
 by_cases h0:0<=k
 ·have hk:k.toNat=j:=by
   rw [seqIndex_of h0 h4] at h1
   exact Option.some.inj h1
  exact PySem.W.ki_setAt ho h0 (by omega) (by rw [List.size_toArray,<- hl];exact h4) (by rw [hk];exact ⟨_,I',q⟩)
 ·have hk:(k+(its.toArray.size:Int)).toNat=j:=by
   rw [seqIndex_neg (by omega) h3] at h1
   rw [List.size_toArray,<- hl]
   exact Option.some.inj h1
  exact PySem.W.ki_setBack ho (by omega) (by rw [List.size_toArray,<- hl];exact h3) (by omega) (by rw [hk];exact ⟨_,I',q⟩)
theorem mO (lo hi:Option Int) (n:Nat):(sliceBounds lo hi none n).1=((HT.cA n 0 lo:Nat):Int)/\(sliceBounds lo hi none n).2.1=((HT.cA n n hi:Nat):Int)/\(sliceBounds lo hi none n).2.2=1:=by
 refine ⟨?_,?_,rfl⟩
 ·cases lo with
  | none=>simp [sliceBounds,HT.cA]
  | some i =>
   simp only [sliceBounds,HT.cA,Option.getD_none,show (1:Int) > 0 by decide,if_true]
   by_cases h:i<0
   ·simp only [h,if_true] <;> omega
   ·simp only [h,if_false] <;> omega
 ·cases hi with
  | none=>simp [sliceBounds,HT.cA]
  | some i =>
   simp only [sliceBounds,HT.cA,Option.getD_none,show (1:Int) > 0 by decide,if_true]
   by_cases h:i<0
   ·simp only [h,if_true] <;> omega
   ·simp only [h,if_false] <;> omega
theorem kW (its:List Value) (lo hi:Option Int):slicePick its.toArray lo hi none=((its.drop (HT.cA its.length 0 lo)).take (HT.cA its.length its.length hi-HT.cA its.length 0 lo)).toArray:=by
 obtain ⟨h1,h2,h3⟩:=mO lo hi its.toArray.size
 unfold slicePick
 rw [h1,h2,h3]
 simp only [sliceRange_one,pick_run,List.size_toArray] <;> rfl
noncomputable def J4 (K:PySem.W.Frag):V->Option Int->Option Int->Hp->VK->Prop:=fun x lo hi H Q=>∃ a xs,x=.ref a/\fq K H a xs/\∀ p,H p=none->Q (.ref p) (upd H p (.lst (qh xs lo hi)))
theorem Bb:Dm X (J4 X.K):=by
 intro pins s σ H x v vl vu lo hi sl Q I rx hs pl pu h
 obtain ⟨a,xs,rfl,hx,q⟩:=h
 cases rx
 obtain ⟨its,r,ht,hz⟩:=I.list hx
 have hlen:=r.length
 refine ⟨"list", _, slot_list_getitem.lookup, ht.isList.typeIs, ?_⟩
 refine wpAny_getItem_list_slice ht.isList hs pl pu .none (by simp) ?_ (by rw [List.size_toArray] <;> omega)
 rw [kW,<- hlen]
 refine ⟨.ref s.heap.objs.size,_,I.laid (t':=s.toks) (o:=.lst (qh xs lo hi)) (fun b ob q=>Heap.get?_push_of_some _ q) (Nat.le_refl _) ?_,rfl,q _ (I.hok.fresh (Nat.le_refl _))⟩
 exact ⟨Nat.le_trans (jq xs lo hi) hz,_,0,(r.drop (HT.cA xs.length 0 lo)).take (HT.cA xs.length xs.length hi-HT.cA xs.length 0 lo),Heap.get?_push_size _ rfl⟩
noncomputable def gz:V->Bool
 | .ao=>true
 | .bl _=>true
 | .int _=>true
 | .str _=>true
 | _=>false
noncomputable def AH:V->V->Bool
 | .ao,.ao=>true
 | .bl a,.bl b=>a == b
 | .bl a,.int b=>(if a then 1 else 0) == b
 | .int a,.bl b=>a == (if b then 1 else 0)
 | .int a,.int b=>a == b
 | .str a,.str b=>a == b
 | _,_=>false
theorem Io {A:Around} {s:Shared} {y x:V} {u v:Value} (ry:RelV y u) (rx:RelV x v) (fy:gz y=true) (fx:gz x=true):SeqAt.EqAt A s u v (AH y x):=by
 cases y with
 | ao =>
  cases ry
  cases x with
  | ao=>cases rx;exact SeqAt.EqAt.same _
  | bl b=>cases rx;exact SeqAt.EqAt.none_bool b
  | int b=>obtain ⟨t,rfl⟩:=rx;exact SeqAt.EqAt.none_int b t
  | str b=>obtain ⟨t,rfl⟩:=rx;exact SeqAt.EqAt.none_str b t
  | _=>exact absurd (show false=true from fx) Bool.false_ne_true
 | bl a =>
  cases ry
  cases x with
  | ao=>cases rx;exact SeqAt.EqAt.bool_none a
  | bl b=>cases rx;exact SeqAt.EqAt.bool_bool a b
  | int b=>obtain ⟨t,rfl⟩:=rx;exact SeqAt.EqAt.bool_int a b t
  | str b=>obtain ⟨t,rfl⟩:=rx;exact SeqAt.EqAt.bool_str a b t
  | _=>exact absurd (show false=true from fx) Bool.false_ne_true
 | int a =>
  obtain ⟨t',rfl⟩:=ry
  cases x with
  | ao=>cases rx;exact SeqAt.EqAt.int_none a t'
  | bl b=>cases rx;exact SeqAt.EqAt.int_bool a t' b
  | int b=>obtain ⟨t,rfl⟩:=rx;exact SeqAt.EqAt.int_int a t' b t
  | str b=>obtain ⟨t,rfl⟩:=rx;exact SeqAt.EqAt.int_str a t' b t
  | _=>exact absurd (show false=true from fx) Bool.false_ne_true
 | str a =>
  obtain ⟨t',rfl⟩:=ry
  cases x with
  | ao=>cases rx;exact SeqAt.EqAt.str_none a t'
  | bl b=>cases rx;exact SeqAt.EqAt.str_bool a t' b
  | int b=>obtain ⟨t,rfl⟩:=rx;exact SeqAt.EqAt.str_int a t' b t
  | str b=>obtain ⟨t,rfl⟩:=rx;exact SeqAt.EqAt.str_str a t' b t
  | _=>exact absurd (show false=true from fx) Bool.false_ne_true
 | _=>exact absurd (show false=true from fy) Bool.false_ne_true
noncomputable def se (x:V) (u:Value):Bool:=match u with
 | .none=>AH .ao x
 | .bool b=>AH (.bl b) x
 | .int i _=>AH (.int i) x
 | .str z _=>AH (.str z) x
 | _=>false
theorem zO {x y:V} {u:Value} (r:RelV y u) (f:gz y=true):se x u=AH y x:=by
 cases y with
 | ao=>cases r;rfl
 | bl b=>cases r;rfl
 | int i=>obtain ⟨t,rfl⟩:=r;rfl
 | str z=>obtain ⟨t,rfl⟩:=r;rfl
 | _=>exact absurd (show false=true from f) Bool.false_ne_true
theorem iL {x:V}:∀ {xs:List V} {us:List Value},Vals xs us->xs.all gz=true->us.any (se x)=xs.any fun y=>AH y x
 | _,_,.nil,_=>rfl
 | y::xs,u::us,.cons r t,f=>by
  rw [List.all_cons,Bool.and_eq_true] at f
  rw [List.any_cons,List.any_cons,zO r f.1,iL t f.2]
theorem fS {A:Around} {s:Shared} {x:V} {v:Value} (rx:RelV x v) (fx:gz x=true):∀ {xs:List V} {us:List Value},Vals xs us->xs.all gz=true->∀ u∈us,SeqAt.EqAt A s u v (se x u)
 | _,_,.nil,_=>fun u hu=>by cases hu
 | y::xs,u::us,.cons r t,f=>fun u' hu=>by
  rw [List.all_cons,Bool.and_eq_true] at f
  rcases List.mem_cons.mp hu with rfl | hu
  ·rw [zO r f.1];exact Io r rx f.1 fx
  ·exact fS rx fx t f.2 u' hu
noncomputable def K8 (x:V) (xs:List V):Bool:=xs.any fun y=>AH y x
noncomputable def Kd (K:PySem.W.Frag) (neg:Bool):R2:=fun x y H Q=>∃ p xs,y=.ref p/\(fq K H p xs\/gE K H p xs)/\gz x=true/\xs.all gz=true/\Q (.bl (if neg then !K8 x xs else K8 x xs)) H
theorem vF:ez X (compareOp .In) (Kd X.K false):=by
 intro pins s σ H x y v u Q I rx ry h
 obtain ⟨p,xs,rfl,hq,fx,fs,q⟩:=h
 cases ry
 rcases hq with hq | hq
 ·obtain ⟨its,r,pl,hz⟩:=I.list hq
  refine SeqAt.in_listAt (se x) pl.isList (fun w hw=>fS rx fx r fs w (by simpa using hw)) ⟨.bl _,H,I,rfl,?_⟩
  rw [show its.toArray.any (se x)=its.any (se x) by simp,iL r fs]
  exact q
 ·obtain ⟨its,r,pl,hz⟩:=I.tuple hq
  refine SeqAt.in_tupleAt (se x) pl (fun w hw=>fS rx fx r fs w (by simpa using hw)) ⟨.bl _,H,I,rfl,?_⟩
  rw [show its.toArray.any (se x)=its.any (se x) by simp,iL r fs]
  exact q
theorem m8:ez X (compareOp .NotIn) (Kd X.K true):=by
 intro pins s σ H x y v u Q I rx ry h
 obtain ⟨p,xs,rfl,hq,fx,fs,q⟩:=h
 cases ry
 rcases hq with hq | hq
 ·obtain ⟨its,r,pl,hz⟩:=I.list hq
  refine SeqAt.notIn_listAt (se x) pl.isList (fun w hw=>fS rx fx r fs w (by simpa using hw)) ⟨.bl _,H,I,rfl,?_⟩
  rw [show its.toArray.any (se x)=its.any (se x) by simp,iL r fs]
  exact q
 ·obtain ⟨its,r,pl,hz⟩:=I.tuple hq
  refine SeqAt.notIn_tupleAt (se x) pl (fun w hw=>fS rx fx r fs w (by simpa using hw)) ⟨.bl _,H,I,rfl,?_⟩
  rw [show its.toArray.any (se x)=its.any (se x) by simp,iL r fs]
  exact q
theorem nU:b6 X (.builtin "len") (fun xs H Q=>∃ p ys, xs=[.ref p]/\(fq X.K H p ys\/gE X.K H p ys)/\Q (.int ys.length) H):=by
 intro pins s σ H xs us Q I r h
 obtain ⟨p,ys,rfl,hq,q⟩:=h
 obtain ⟨u,rfl,rx⟩:=vals1 r
 cases rx
 have hn:=iW
 rcases hq with hq | hq
 ·obtain ⟨its,r',pl,hz⟩:=I.list hq
  have hlen:=r'.length
  exact Calls.call_len_list pl.isList (by simp only [List.size_toArray] <;> omega) ⟨.int ys.length,H,I.tok _,⟨s.toks+1,by rw [List.size_toArray,hlen]⟩,q⟩
 ·obtain ⟨its,r',pl,hz⟩:=I.tuple hq
  have hlen:=r'.length
  exact len_tuple pl (by simp only [List.size_toArray] <;> omega) ⟨.int ys.length,H,I.tok _,⟨s.toks+1,by rw [List.size_toArray,hlen]⟩,q⟩
theorem nT:b6 X (.builtin "len") (fun xs H Q=>∃ z, xs=[.str z]/\z.length<=sizeLine/\Q (.int z.length) H):=by
 intro pins s σ H xs us Q I r h
 obtain ⟨z,rfl,hz,q⟩:=h
 obtain ⟨u,rfl,t,rfl⟩:=vals1 r
 have hn:=iW
 exact len_str (by omega) ⟨.int z.length,H,I.tok _,⟨_,rfl⟩,q⟩
theorem b6.or {f:Value} {r r':List V->Hp->VK->Prop} (h:b6 X f r) (h':b6 X f r'):b6 X f (fun xs H Q=>r xs H Q\/r' xs H Q):=by
 intro pins s σ H xs us Q I rs q
 rcases q with q | q
 ·exact h pins s σ H xs us Q I rs q
 ·exact h' pins s σ H xs us Q I rs q
theorem nS:b6 X (.type "list") (fun xs H Q=>∃ p ys, xs=[.ref p]/\(fq X.K H p ys\/gE X.K H p ys)/\∀ l, H l=none->Q (.ref l) (upd H l (.lst ys))):=by
 intro pins s σ H xs us Q I r h
 obtain ⟨p,ys,rfl,hq,q⟩:=h
 obtain ⟨u,rfl,rx⟩:=vals1 r
 cases rx
 have fin:∀ (its:List Value),Vals ys its->ys.length<=sizeLine->∀ (h':Heap) (c':Nat),(∀ b o',s.heap.get? b=some o'->h'.get? b=some o') ->
   h'.get? s.heap.objs.size=some { cls:=.type "list", dict:=none, data:=.seq its.toArray c', slots:=#[] }->EP X pins σ Q (.ref s.heap.objs.size) { s with heap:=h' }:=fun its r' hz h' c' kp e =>
  ⟨.ref s.heap.objs.size,_,I.laid (t':=s.toks) kp (Nat.le_refl _) (show aO X.prog X.w _ h' _ (.lst ys) from ⟨hz,its,c',r',e⟩),rfl,q _ (I.hok.fresh (Nat.le_refl _))⟩
 rcases hq with hq | hq
 ·obtain ⟨its,r',pl,hz⟩:=I.list hq
  have hlen:=r'.length
  obtain ⟨o,ho,hc,n,hd⟩:=pl.isList
  exact call_list_seq p (.inl rfl) ho hc hd (fun h' c' kp e=>fin its r' hz h' c' kp e) (by simp only [List.size_toArray] <;> omega)
 ·obtain ⟨its,r',pl,hz⟩:=I.tuple hq
  have hlen:=r'.length
  obtain ⟨o,ho,hc,n,hd⟩:=pl
  exact call_list_seq p (.inr rfl) ho hc hd (fun h' c' kp e=>fin its r' hz h' c' kp e) (by simp only [List.size_toArray] <;> omega)
noncomputable def Ml (K:PySem.W.Frag) (T:String) (x:V) (H:Hp):Prop:=match x with
 | .str _=>T = "str"
 | .int _=>T = "int"
 | .ref p=>(T = "list"/\∃ xs, fq K H p xs)\/(T = "tuple"/\∃ o, K.lookup p=some o/\o.cls=.type "tuple"/\o.dict=none) \/
   (T = "dict"/\((∃ kvs, H p=some (.dK kvs))\/∃ kvs, H p=some (.dT kvs)))\/(T = "set"/\∃ S n, H p=some (.set S n))
 | _=>False
theorem wU {pins:List (Addr×Obj)} {σ:St} {H:Hp} {s:Shared} {T:String} {x:V} {v:Value} (I:Inv X pins σ H s) (r:RelV x v) (ty:Ml X.K T x H) :
  s.TypeIs v T/\∀ a,v=.ref a->∃ ob,s.heap.get? a=some ob/\ob.dict=none:=by
 cases x with
 | str z =>
  obtain ⟨t,rfl⟩:=r
  cases (show T = "str" from ty)
  exact ⟨typeIs_str s z t,fun _ e=>nomatch e⟩
 | int i =>
  obtain ⟨t,rfl⟩:=r
  cases (show T = "int" from ty)
  exact ⟨typeIs_int s i t,fun _ e=>nomatch e⟩
 | ref p =>
  cases r
  rcases ty with ⟨rfl,xs,hq⟩ | ⟨rfl,o,hk,hc,hd⟩ | ⟨rfl,hk⟩ | ⟨rfl,S,n,hk⟩
  ·obtain ⟨its,_,pl,_⟩:=I.list hq
   refine ⟨pl.isList.typeIs,fun a e=>?_⟩
   cases e
   obtain ⟨o,n,e,c,hd,_⟩:=pl
   exact ⟨o,e,hd⟩
  ·refine ⟨⟨o,I.fF p o hk,hc⟩,fun a e=>?_⟩
   cases e
   exact ⟨o,I.fF _ o hk,hd⟩
  ·have z:∃ o,s.heap.get? p=some o/\o.ExactDict:=by
    rcases hk with ⟨kvs,hk⟩ | ⟨kvs,hk⟩
    ·obtain ⟨_,_,_,_,o,_,_,e,ex,_⟩:=I.hok p _ hk
     exact ⟨o,e,ex⟩
    ·obtain ⟨_,_,_,_,o,_,_,e,ex,_⟩:=I.hok p _ hk
     exact ⟨o,e,ex⟩
   obtain ⟨o,e,ex⟩:=z
   refine ⟨⟨o,e,ex.1⟩,fun a e2=>?_⟩
   cases e2
   exact ⟨o,e,ex.2.1⟩
  ·obtain ⟨o,_,_,_,e,ex,_⟩:=I.hok p _ hk
   refine ⟨⟨o,e,ex.1⟩,fun a e2=>?_⟩
   cases e2
   exact ⟨o,e,ex.2.1⟩
 | _=>exact False.elim ty
noncomputable def AX (K:PySem.W.Frag) (T:String) (r:V->List V->Hp->VK->Prop) (to:TE):TE:=fun σ H Q=>to σ H fun x H1=>Ml K T x H1/\r x [] H1 Q
noncomputable def JJ (K:PySem.W.Frag) (T:String) (r:V->List V->Hp->VK->Prop) (to:TE) (t:TA):TE:=fun σ H Q=>to σ H fun x H1=>Ml K T x H1/\t σ H1 fun xs H2=>r x xs H2 Q
variable {o e:Expr} {es:List Expr} {to:TE} {t:TA} {name:Str} {apos cpos:Pos} {T id:String} {r:V->List V->Hp->VK->Prop}
theorem yb (pa:PlainAttrs T) (slot:Slot T name id) (hty:typeOf (.builtin id)=pure (.type "method_descriptor")) (hm:MtR X id r) (ho:PE X o to)
  (hbase:attributeBase o name X.env (eval o X.env)=eval o X.env:=by rfl) (hline:(apos.endLine == cpos.line)=true:=by rfl):PE X (.Call (.Attribute o name apos) [] [] cpos) (AX X.K T r to):=by
 intro pins s σ H Q I h
 refine wpAny_Call_method0_late hbase hline (aS (ho pins s σ H _ I h) fun v s1 ⟨x,H1,I1,r1,ty,q1⟩=>?_)
 obtain ⟨h1,h2⟩:=wU I1 r1 ty
 exact ⟨T,id,pa,slot,hty,h1,h2,Calls.callWith_builtin rfl (PySem.evalArgs_none (hm pins s1 σ H1 x [] v [] Q I1 r1 .nil q1))⟩
theorem tU (pa:PlainAttrs T) (slot:Slot T name id) (hty:typeOf (.builtin id)=pure (.type "method_descriptor")) (hm:MtR X id r) (ho:PE X o to) (ha:PA X (e::es) t)
  (hbase:attributeBase o name X.env (eval o X.env)=eval o X.env:=by rfl)
  (hfew:((backTo cpos (starEach (e::es) X.env)).all (fun x=>!x.1)&&(backToKw cpos (keywordEach [] X.env)).all (fun x=>x.1.isSome)
  &&decide ((e::es).length+([]:List Keyword).length+(if ([]:List Keyword).isEmpty then 0 else 1)<30))=true:=by rfl)
  (hline:(apos.endLine == cpos.line)=true:=by rfl) (hs:starEach (e::es) X.env=(false,eval e X.env)::starEach es X.env:=by rfl) (hplain:(backTo cpos (starEach es X.env)).any (·.1)=false:=by rfl) :
  PE X (.Call (.Attribute o name apos) (e::es) [] cpos) (JJ X.K T r to t):=by
 intro pins s σ H Q I h
 refine wpAny_Call_method_late hbase hfew hline rfl (aS (ho pins s σ H _ I h) fun v s1 ⟨x,H1,I1,r1,ty,q1⟩=>?_)
 obtain ⟨h1,h2⟩:=wU I1 r1 ty
 refine ⟨T,id,pa,slot,hty,h1,h2,?_⟩
 have hA:=ha cpos pins s1 σ H1 _ I1 q1
 rw [hs] at hA ⊢
 refine Calls.callWith_builtin (by show (false||(backTo cpos (starEach es X.env)).any (·.1))=false;rw [hplain] <;> rfl) (Calls.evalArgs_plain ?_)
 exact aS hA fun us s2 ⟨vs,H2,I2,r2,q2⟩=>hm pins s2 σ H2 x vs v us Q I2 r1 r2 q2
end
noncomputable def Mb (X:Cx) (id:String) (r:V->List V->Hp->VK->Prop):Prop :=
 ∀ (pins:List (Addr×Obj)) (s:Shared) (σ:St) (H:Hp) (x:V) (xs:List V) (v:Value) (us:List Value) (Q:VK),Inv X pins σ H s->RelV x v->Vals xs us->r x xs H Q ->
  wpAny (model X.prog X.w) X.A (call (.builtin id) (v::us)) (EP X pins σ Q) X.xe s
theorem Vals.one:∀ {x:V} {us:List Value},Vals [x] us->∃ u,us=[u]/\RelV x u
 | _,_,.cons r .nil=>⟨_,rfl,r⟩
theorem Vals.zero:∀ {us:List Value},Vals [] us->us=[]
 | _,.nil=>rfl
theorem Vals.dropLast {xs:List V} {us:List Value} (h:Vals xs us):Vals xs.dropLast us.dropLast:=by
 induction h with
 | nil=>exact .nil
 | cons r t ih =>
  cases t with
  | nil=>exact .nil
  | cons q t'=>exact .cons r ih
theorem Vals.reverse {xs:List V} {us:List Value} (h:Vals xs us):Vals xs.reverse us.reverse:=by
 induction h with
 | nil=>exact .nil
 | cons r t ih=>rw [List.reverse_cons,List.reverse_cons];exact Vals.append ih (.cons r .nil)
theorem sd {α:Type} (l:List α):l.eraseIdx (l.length-1)=l.dropLast:=by
 induction l with
 | nil=>rfl
 | cons a r ih =>
  cases r with
  | nil=>rfl
  | cons b r =>
   have e:(a::b::r).length-1=((b::r).length-1)+1:=by
    have h1:(a::b::r).length=r.length+2:=rfl
    have h2:(b::r).length=r.length+1:=rfl
    omega
   rw [e,List.eraseIdx_cons_succ,ih]
   all_goals rfl
section
variable {X:Cx} {pins:List (Addr×Obj)} {σ:St} {H:Hp} {s:Shared} {l b:Addr} {xs ys zs:List V}
theorem Inv.Cq {its its':List Value} {n:Nat} {f:Array Value->Array Value} {t':Nat} (I:Inv X pins σ H s) (hH:H l=some (.lst xs))
  (e:s.heap.get? l=some { cls:=.type "list", data:=.seq its.toArray n }) (hf:f its.toArray=its'.toArray) (hv:Vals ys its') (hz:ys.length<=sizeLine) :
  Inv X pins σ (upd H l (.lst ys)) { s with heap:=s.heap.update l (Obj.mapSeq f),toks:=t' }:=by
 have q:=PySem.IsL.update e f
 rw [hf] at q
 refine I.write (x:=l) (e:=l) (by rw [hH];exact trivial) (.inl rfl) (fun b' u hb hu=>(Heap.get?_update_other s.heap (Obj.mapSeq f) (Ne.symm hb)).trans hu) ⟨_,q⟩ ?_
 exact ⟨hz,its',_,hv,q⟩
theorem Inv.KZ {its:List Value} {t':Nat} (I:Inv X pins σ H s) (hv:Vals ys its) (hz:ys.length<=sizeLine) :
  Inv X pins σ (upd H s.heap.objs.size (.lst ys)) { s with heap:=s.heap.push { cls:=.type "list", data:=.seq its.toArray }, toks:=t' } :=
 I.laid (fun _ _ q=>Heap.get?_push_of_some _ q) (Nat.le_refl _) ⟨hz,its,0,hv,Heap.get?_push_size _ rfl⟩
theorem Inv.fresh (I:Inv X pins σ H s):H s.heap.objs.size=none:=I.hok.fresh (Nat.le_refl _)
theorem Inv.Co (I:Inv X pins σ H s) (hH:H l=some (.lst xs)):xs.length<=sizeLine/\∃ (its:List Value) (n:Nat), Vals xs its/\xs.length=its.length/\s.heap.get? l=some { cls:=.type "list", data:=.seq its.toArray n }:=by
 obtain ⟨z,its,n,r,e⟩:=I.hok l _ hH
 exact ⟨z,its,n,r,r.length,e⟩
theorem yi {n:Nat} (h:n<=sizeLine):Builtin.List.listTooLong n=false:=by
 unfold Builtin.List.listTooLong
 exact decide_eq_false (by omega)
end
section
variable {X:Cx}
noncomputable def mY:V->List V->Hp->VK->Prop:=fun x vs H Q=>∃ l xs y,x=.ref l/\vs=[y]/\H l=some (.lst xs)/\xs.length<sizeLine/\Q .ao (upd H l (.lst (xs++[y])))
theorem lQ:Mb X "list.append" mY:=by
 intro pins s σ H x vs v us Q I rx rv h
 obtain ⟨l,xs,y,rfl,rfl,hH,hz,q⟩:=h
 cases rx
 obtain ⟨u,rfl,ru⟩:=rv.one
 obtain ⟨z,its,n,r,hl,e⟩:=I.Co hH
 refine call_meets F.slot_list_append ⟨_,e,rfl⟩ F.entry_list_append (F.args_list_append_2 _ _) (PySem.list_append l its.toArray n u (by rw [List.size_toArray];omega)) ⟨e,?_⟩
 refine ⟨.ao,_,I.Cq (its':=its++[u]) hH e (by simp) (r.append (.cons ru .nil)) ?_,rfl,q⟩
 rw [List.length_append,List.length_singleton]
 omega
noncomputable def FN:V->List V->Hp->VK->Prop:=fun x vs H Q=>∃ l xs y,x=.ref l/\vs=[]/\H l=some (.lst xs)/\xs[xs.length-1]? = some y/\Q y (upd H l (.lst xs.dropLast))
theorem GL:Mb X "list.pop" FN:=by
 intro pins s σ H x vs v us Q I rx rv h
 obtain ⟨l,xs,y,rfl,rfl,hH,hy,q⟩:=h
 cases rx
 have hus:=rv.zero
 subst hus
 obtain ⟨z,its,n,r,hl,e⟩:=I.Co hH
 obtain ⟨u,hu,ru⟩:=r.get hy
 have hy':its.toArray[its.toArray.size-1]? = some u:=by
  show its.toArray[its.length-1]? = some u
  rw [<- Array.getElem?_toList,<- hl]
  exact hu
 refine call_meets F.slot_list_pop ⟨_,e,rfl⟩ F.entry_list_pop (F.args_list_pop_1 _) (MeetsSeq.list_pop_last l its.toArray n u hy' (by rw [List.size_toArray];omega)) ⟨e,?_⟩
 refine ⟨y,_,I.Cq (its':=its.dropLast) hH e ?_ r.dropLast ?_,ru,q⟩
 ·show its.toArray.eraseIdxIfInBounds (its.toArray.size-1)=its.dropLast.toArray
  rw [List.size_toArray,List.eraseIdxIfInBounds_toArray,sd]
 ·rw [List.length_dropLast]
  omega
noncomputable def j7:V->List V->Hp->VK->Prop:=fun x vs H Q=>∃ l xs,x=.ref l/\vs=[]/\H l=some (.lst xs)/\Q .ao (upd H l (.lst xs.reverse))
theorem rq:Mb X "list.reverse" j7:=by
 intro pins s σ H x vs v us Q I rx rv h
 obtain ⟨l,xs,rfl,rfl,hH,q⟩:=h
 cases rx
 have hus:=rv.zero
 subst hus
 obtain ⟨z,its,n,r,hl,e⟩:=I.Co hH
 refine call_meets F.slot_list_reverse ⟨_,e,rfl⟩ F.entry_list_reverse (F.args_list_reverse_1 _) (AutoSeq1.list_reverse_list_0 l its.toArray n (by rw [List.size_toArray];omega)) ⟨e,?_⟩
 refine ⟨.ao,_,I.Cq (its':=its.reverse) hH e (by simp) r.reverse ?_,rfl,q⟩
 rw [List.length_reverse]
 omega
end
section
variable {prog:Program} {w:World} {A:Around} {E:Value->Shared->Prop} {s:Shared}
end
section
variable {X:Cx}
end
section
variable {κ:Type} [DecidableEq κ]
noncomputable def cG (kvs:List (κ×V)) (k:κ):Option V:=(kvs.find? fun kv=>decide (kv.1=k)).map (·.2)
noncomputable def putK (kvs:List (κ×V)) (k:κ) (v:V):List (κ×V) :=
 if (kvs.any fun kv=>decide (kv.1=k))=true then kvs.map (fun kv=>if kv.1=k then (kv.1,v) else kv) else kvs++[(k,v)]
theorem jV {p:κ×V} {r:List (κ×V)} {k:κ} (e:p.1=k):cG (p::r) k=some p.2:=by simp [cG,List.find?_cons,e]
theorem jW {p:κ×V} {r:List (κ×V)} {k:κ} (e:¬ p.1=k):cG (p::r) k=cG r k:=by simp [cG,List.find?_cons,e]
theorem ow (k:κ):∀ kvs:List (κ×V),(kvs.any fun kv=>decide (kv.1=k))=(cG kvs k).isSome
 | []=>rfl
 | p::r=>by
  rw [List.any_cons]
  by_cases e:p.1=k
  ·simp only [jV e,decide_eq_true e,Bool.true_or,Option.isSome_some]
  ·rw [jW e,decide_eq_false e,Bool.false_or];exact ow k r
theorem jf (kvs:List (κ×V)) (k:κ) (v:V):(putK kvs k v).length<=kvs.length+1:=by
 unfold putK
 split
 ·rw [List.length_map];omega
 ·rw [List.length_append,List.length_cons,List.length_nil];omega
theorem gU.i0 {o:Option V} {u:Option Value} (r:gU o u):o.isSome=u.isSome:=by
 cases o with
 | none=>cases u with
  | none=>rfl
  | some _=>exact (show False from r).elim
 | some _=>cases u with
  | none=>exact (show False from r).elim
  | some _=>rfl
theorem KV.val {kvs:List (κ×V)} {vs:List (κ×Value)} (r:KV kvs vs) (k:κ):gU (cG kvs k) (valueAt vs k):=by
 unfold KV at r
 induction r with
 | nil=>exact True.intro
 | @cons p q ps qs h t ih =>
  obtain ⟨h1,h2⟩:=h
  by_cases e:p.1=k
  ·have e':q.1=k:=h1.symm.trans e
   have b:valueAt (q::qs) k=some q.2:=by simp [valueAt,List.find?_cons,e']
   rw [jV e,b];exact h2
  ·have e':¬ q.1=k:=fun z=>e (h1.trans z)
   have b:valueAt (q::qs) k=valueAt qs k:=by simp [valueAt,List.find?_cons,e']
   rw [jW e,b];exact ih
theorem KV.any {kvs:List (κ×V)} {vs:List (κ×Value)} (r:KV kvs vs) (k:κ):(kvs.any fun kv=>decide (kv.1=k))=vs.any fun kv=>decide (kv.1=k):=by
 unfold KV at r
 induction r with
 | nil=>rfl
 | cons h t ih=>rw [List.any_cons,List.any_cons,ih,h.1]
theorem KV.repl {kvs:List (κ×V)} {vs:List (κ×Value)} (r:KV kvs vs) (k:κ) {y:V} {u:Value} (ry:RelV y u) :
  KV (kvs.map fun kv=>if kv.1=k then (kv.1,y) else kv) (vs.map fun kv=>if kv.1=k then (kv.1,u) else kv):=by
 unfold KV at r ⊢
 induction r with
 | nil=>exact .nil
 | @cons p q ps qs h t ih =>
  rw [List.map_cons,List.map_cons]
  refine .cons ?_ ih
  obtain ⟨h1,h2⟩:=h
  by_cases e:p.1=k
  ·rw [if_pos e,if_pos (h1.symm.trans e)];exact ⟨h1,ry⟩
  ·rw [if_neg e,if_neg (fun z=>e (h1.trans z))];exact ⟨h1,h2⟩
theorem KV.put {kvs:List (κ×V)} {vs:List (κ×Value)} (r:KV kvs vs) (k:κ) {y:V} {u:Value} (ry:RelV y u):KV (putK kvs k y) (stored vs k u):=by
 unfold putK stored
 rw [r.any k]
 by_cases e:(vs.any fun kv=>decide (kv.1=k))=true
 ·rw [if_pos e,if_pos e];exact r.repl k ry
 ·rw [if_neg e,if_neg e];exact Paired.snoc r ⟨rfl,ry⟩
theorem KV.length {kvs:List (κ×V)} {vs:List (κ×Value)} (r:KV kvs vs):kvs.length=vs.length:=Paired.length r
end
theorem pO {P:Program} {w:World} {k:Key} {u:Value} (r:RelV (kV k) u):(aI P w).is k u=true:=by
 cases k with
 | inl i=>obtain ⟨t,e⟩:=(show ∃ t,u=Value.int i t from r);subst e;exact pK P w i t
 | inr x=>obtain ⟨t,e⟩:=(show ∃ t,u=Value.str x t from r);subst e;exact pJ P w x t
theorem lV {P:Program} {w:World}:∀ {ks:List Key} {us:List Value},Vals (ks.map kV) us->ItemsAre (aI P w) ks us
 | [],_,r=>by rw [List.map_nil] at r;cases r;exact .nil
 | k::ks,_,r=>by
  rw [List.map_cons] at r
  cases r with
  | cons h t=>exact .cons (pO h) (lV t)
noncomputable abbrev KT (H:Hp):List (List Key×V)->List (List Key×Addr×Value)->Prop:=Paired fun p q=>p.1=q.1/\H q.2.1=some (.tup (p.1.map kV))/\RelV p.2 q.2.2
theorem KT.val {H:Hp} {kvs:List (List Key×V)} {xs:List (List Key×Addr×Value)} (r:KT H kvs xs) (k:List Key):gU (cG kvs k) ((atKey xs k).map (·.2)):=by
 induction r with
 | nil=>exact True.intro
 | @cons p q ps qs h t ih =>
  obtain ⟨h1,_,h2⟩:=h
  by_cases e:p.1=k
  ·have e':q.1=k:=h1.symm.trans e
   have b:atKey (q::qs) k=some q.2:=by simp [atKey,List.find?_cons,e']
   rw [jV e,b];exact h2
  ·have e':¬ q.1=k:=fun z=>e (h1.trans z)
   have b:atKey (q::qs) k=atKey qs k:=by simp [atKey,List.find?_cons,e']
   rw [jW e,b];exact ih
theorem KT.repl {H:Hp} {kvs:List (List Key×V)} {xs:List (List Key×Addr×Value)} (r:KT H kvs xs) (k:List Key) {y:V} {u:Value} (ry:RelV y u) :
  KT H (kvs.map fun kv=>if kv.1=k then (kv.1,y) else kv) (xs.map (putAt k u)):=by
 induction r with
 | nil=>exact .nil
 | @cons p q ps qs h t ih =>
  rw [List.map_cons,List.map_cons]
  refine .cons ?_ ih
  obtain ⟨h1,h2,h3⟩:=h
  unfold putAt
  by_cases e:p.1=k
  ·rw [if_pos e,if_pos (h1.symm.trans e)];exact ⟨h1,h2,ry⟩
  ·rw [if_neg e,if_neg (fun z=>e (h1.trans z))];exact ⟨h1,h2,h3⟩
theorem KT.put {H:Hp} {kvs:List (List Key×V)} {xs:List (List Key×Addr×Value)} (r:KT H kvs xs) (k:List Key) {b:Addr} {y:V} {u:Value} (hb:H b=some (.tup (k.map kV))) (ry:RelV y u) :
  KT H (putK kvs k y) (storedH xs k b u):=by
 have e:(kvs.any fun kv=>decide (kv.1=k))=(atKey xs k).isSome:=by
  rw [ow,(r.val k).i0,Option.isSome_map]
 unfold putK storedH
 rw [e]
 by_cases q:(atKey xs k).isSome=true
 ·rw [if_pos q,if_pos q];exact r.repl k ry
 ·rw [if_neg q,if_neg q];exact Paired.snoc r ⟨rfl,hb,ry⟩
theorem KT.keeps {H H':Hp} {kvs:List (List Key×V)} {xs:List (List Key×Addr×Value)} (r:KT H kvs xs) (ht:∀ b ys,H b=some (.tup ys)->H' b=some (.tup ys)):KT H' kvs xs :=
 Paired.GP r fun _ _ z=>⟨z.1,ht _ _ z.2.1,z.2.2⟩
section
variable {P:Program} {w:World} {H:Hp} {h:Heap} {a:Addr}
theorem DQ {u:HO} (ok:gv P w H h) (e:Rd H a u):aO P w H h a u:=e.ok ok
theorem EF {kvs:List (Key×V)} (ok:gv P w H h) (e:Rd H a (.dK kvs)):kvs.length<=sizeLine/\(a == sysModules)=false/\∃ vs,KV kvs vs/\h.DictOf (aI P w) a vs :=
 show aO P w H h a (.dK kvs) from DQ ok e
theorem LO {kvs:List (Key×V)} (ok:gv P w H h) (e:H a=some (.dK kvs)):kvs.length<=sizeLine/\(a == sysModules)=false/\∃ vs,KV kvs vs/\h.DictOf (aI P w) a vs:=EF ok (.inl e)
theorem yL {ks:List Key} (ok:gv P w H h) (e:H a=some (.tup (ks.map kV))):(tupleKind (aI P w)).is h ks a:=by
 obtain ⟨_,its,r,o,h1,h2,n,h3⟩:=(show aO P w H h a (.tup (ks.map kV)) from ok a _ e)
 exact ⟨o,its.toArray,n,h1,h2,h3,by simpa using lV r⟩
theorem LM {kvs:List (List Key×V)} (ok:gv P w H h) (e:Rd H a (.dT kvs)):kvs.length<=sizeLine/\(a == sysModules)=false /\
  ∃ xs,KT H kvs xs/\h.DictOfH (tupleKind (aI P w)) a xs:=by
 obtain ⟨z,y,xs,r,o,es,ep,h1,h2,h3,h4,h5⟩:=(show aO P w H h a (.dT kvs) from DQ ok e)
 refine ⟨z,y,xs,r,o,es,ep,h1,h2,h3,h4,fun x hx=>?_,h5⟩
 have all:∀ {l:List (List Key×V)} {m:List (List Key×Addr×Value)},KT H l m->∀ x∈m,(tupleKind (aI P w)).is h x.1 x.2.1:=by
  intro l m q
  induction q with
  | nil=>intro x hx;exact nomatch hx
  | @cons p q ps qs hq t ih =>
   intro x hx
   rcases List.mem_cons.mp hx with e | hx
   ·subst e
    exact yL ok (by rw [<- hq.1];exact hq.2.1)
   ·exact ih x hx
 exact all r x hx
theorem LN {kvs:List (List Key×V)} (ok:gv P w H h) (e:H a=some (.dT kvs)):kvs.length<=sizeLine/\(a == sysModules)=false /\
  ∃ xs,KT H kvs xs/\h.DictOfH (tupleKind (aI P w)) a xs:=LM ok (.inl e)
end
noncomputable def Du (H:Hp) (a:Addr) (y:V) (r:Option V):Prop :=
 (∃ kvs k,Rd H a (.dK kvs)/\y=kV k/\r=cG kvs k)\/∃ kvs k b,Rd H a (.dT kvs)/\y=.ref b/\H b=some (.tup (k.map kV))/\r=cG kvs k
noncomputable def sJ (H:Hp) (a:Addr) (y v:V) (H':Hp):Prop :=
 (∃ kvs k,H a=some (.dK kvs)/\y=kV k/\kvs.length<sizeLine/\H'=upd H a (.dK (putK kvs k v))) \/
 ∃ kvs k b,H a=some (.dT kvs)/\y=.ref b/\H b=some (.tup (k.map kV))/\kvs.length<sizeLine/\H'=upd H a (.dT (putK kvs k v))
theorem Du.k {H:Hp} {a:Addr} {kvs:List (Key×V)} {k:Key} (e:H a=some (.dK kvs)):Du H a (kV k) (cG kvs k):=.inl ⟨kvs,k,.inl e,rfl,rfl⟩
theorem Du.t {H:Hp} {a b:Addr} {kvs:List (List Key×V)} {k:List Key} (e:H a=some (.dT kvs)) (eb:H b=some (.tup (k.map kV))):Du H a (.ref b) (cG kvs k):=.inr ⟨kvs,k,b,.inl e,rfl,eb,rfl⟩
theorem sJ.k {H:Hp} {a:Addr} {kvs:List (Key×V)} {k:Key} {v:V} (e:H a=some (.dK kvs)) (hl:kvs.length<sizeLine):sJ H a (kV k) v (upd H a (.dK (putK kvs k v))):=.inl ⟨kvs,k,e,rfl,hl,rfl⟩
theorem sJ.t {H:Hp} {a b:Addr} {kvs:List (List Key×V)} {k:List Key} {v:V} (e:H a=some (.dT kvs)) (eb:H b=some (.tup (k.map kV))) (hl:kvs.length<sizeLine) :
  sJ H a (.ref b) v (upd H a (.dT (putK kvs k v))):=.inr ⟨kvs,k,b,e,rfl,eb,hl,rfl⟩
section
variable {X:Cx} {pins:List (Addr×Obj)} {σ:St} {H:Hp} {s:Shared} {a:Addr} {y v:V} {u r:Value} {o:Option V} {A:Around} {E:Value->Shared->Prop}
theorem uO {h':Heap} {t':Nat} {ob:HO} (I:Inv X pins σ H s) (mu:Ma (H a)) (hs:Heap.SameBut a s.heap h') (he:∃ q,h'.get? a=some q) (new:aO X.prog X.w (upd H a ob) h' a ob) :
  Inv X pins σ (upd H a ob) { s with heap:=h',toks:=t' } :=
 I.write (x:=a) (e:=a) mu (.inl rfl) (fun b q hb z=>(hs.2 b hb).trans z) he new
theorem Iv {P:Program} {w:World} {H':Hp} {h':Heap} {kvs:List (Key×V)} {vs:List (Key×Value)} (z:kvs.length<=sizeLine) (hd:(a == sysModules)=false) (rel:KV kvs vs) (dd:h'.DictOf (aI P w) a vs) :
  aO P w H' h' a (.dK kvs):=⟨z,hd,vs,rel,dd⟩
theorem vY {H':Hp} {Q:Unit->Shared->Prop} (hu:A.units+1<cLine) (I:Inv X pins σ H s) (g:sJ H a y v H') (ry:RelV y u) (rv:RelV v r) (h:∀ s',Inv X pins σ H' s'->Q () s') :
  wpAny (model X.prog X.w) A (setItem (.ref a) u r) Q E s:=by
 rcases g with ⟨kvs,k,e,ey,l,eH⟩ | ⟨kvs,k,b,e,ey,eb,l,eH⟩
 ·subst ey eH
  obtain ⟨z,hd,vs,rel,dd⟩:=LO I.hok e
  have hz:vs.length<=sizeLine:=by rw [<- rel.length];exact z
  have hl:(putK kvs k v).length<=sizeLine:=by have:=jf kvs k v;omega
  refine wpAny_setItem_pairs (hsz:=hz) (pO ry) dd fun h' EG hs=>h _ ?_
  have he:∃ q,h'.get? a=some q:=let ⟨q,_,_,hq,_⟩:=EG;⟨q,hq⟩
  exact uO I (by rw [e];exact True.intro) hs he (Iv hl hd (rel.put k rv) EG)
 ·subst ey eH
  cases (show u=Value.ref b from ry)
  obtain ⟨z,hd,xs,rel,dd⟩:=LN I.hok e
  have hz:xs.length<=sizeLine:=by rw [<- Paired.length rel];exact z
  have hl:(putK kvs k v).length<=sizeLine:=by have:=jf kvs k v;omega
  refine wpAny_setItem_heap (hsz:=hz) (tupleKind_room_in1 hu) (yL I.hok eb) dd fun h' EG hs=>h _ ?_
  obtain ⟨q,es,ep,hq,h2,h3,h4,_,h5⟩:=EG
  refine uO I (by rw [e];exact True.intro) hs ⟨q,hq⟩ ⟨hl,hd,_,(rel.put k eb rv).keeps fun c ys ec=>?_,q,es,ep,hq,h2,h3,h4,h5⟩
  rw [aj (KO ec e (fun z=>nomatch z))]
  exact ec
end
section
variable {X:Cx} {pins:List (Addr×Obj)} {σ:St} {H:Hp} {s:Shared} {a:Addr} {kvs:List (Key×V)} {k:Key} {u:Value} {A:Around} {E:Value->Shared->Prop}
end
section
variable {X:Cx} {o i e value:Expr} {pos pos' tpos:Pos} {td ty tv:TE}
end
section
variable {X:Cx} {pos:Pos}
end
noncomputable abbrev VV:List (V×V)->List (Value×Value)->Prop:=Paired fun p q=>RelV p.1 q.1/\RelV p.2 q.2
structure M1 (X:Cx) (o:Expr) (m:Str) (apos:Pos) (e:Expr) (cpos:Pos):Prop where
 base:attributeBase o m X.env (eval o X.env)=eval o X.env
 few:((backTo cpos (starEach [e] X.env)).all (fun x=>!x.1)&&(backToKw cpos (keywordEach [] X.env)).all (fun x=>x.1.isSome)
 &&decide (([e]:List Expr).length+([]:List Keyword).length+(if ([]:List Keyword).isEmpty then 0 else 1)<30))=true
 line:(apos.endLine == cpos.line)=true
 trees:backTo cpos (starEach [e] X.env)=[(false,eval e X.env)]
structure M2 (X:Cx) (o:Expr) (m:Str) (apos:Pos) (e f:Expr) (cpos:Pos):Prop where
 base:attributeBase o m X.env (eval o X.env)=eval o X.env
 few:((backTo cpos (starEach [e,f] X.env)).all (fun x=>!x.1)&&(backToKw cpos (keywordEach [] X.env)).all (fun x=>x.1.isSome)
 &&decide (([e,f]:List Expr).length+([]:List Keyword).length+(if ([]:List Keyword).isEmpty then 0 else 1)<30))=true
 line:(apos.endLine == cpos.line)=true
 trees:backTo cpos (starEach [e,f] X.env)=[(false,eval e X.env),(false,eval f X.env)]
section
variable {X:Cx} {pins:List (Addr×Obj)} {σ:St} {H:Hp} {s:Shared} {a:Addr} {y d:V} {u r:Value} {o:Option V} {A:Around} {E:Value->Shared->Prop}
end
section
variable {X:Cx} {o e f:Expr} {apos cpos:Pos} {td ty tx:TE}
end
section
variable {X:Cx} {pins:List (Addr×Obj)} {σ:St} {H:Hp} {s:Shared} {a:Addr} {kvs:List (Key×V)} {A:Around} {E:Value->Shared->Prop}
end
section
variable {X:Cx} {pins:List (Addr×Obj)} {σ:St} {H:Hp} {s:Shared} {a:Addr} {y:V} {u:Value} {A:Around} {E:Value->Shared->Prop}
end
end L2
namespace Att
open PySem PySem.W PySem.Calls PyProof.Rows
theorem jB {P:Params} {h:Heap}:∀ (ns:List Int) (vs:List Value),WellAll P h vs (ns.map WData.int)->IntsAre vs ns:=by
 intro ns
 induction ns with
 | nil =>
  intro vs w
  rw [List.map_nil] at w
  cases w
  exact .nil
 | cons n ns ih =>
  intro vs w
  rw [List.map_cons] at w
  cases w with
  | cons a b =>
   cases a
   exact .cons _ _ (ih _ b)
theorem vo {l:OpenLaw} {n:Nat} (hn:l.most=some n) {P:Params} {h:Heap} {args:List WData} {vals:List Value}
  (hpre:l.row.toRowW.claim.pre args=true) (hwl:WellAll P h vals args) :
  ∃ a vs ns, vals=[Value.ref a]/\args=[WData.list (ns.map WData.int)]/\h.get? a=some { cls:=.type "list", data:=.seq vs.toArray }/\IntsAre vs ns/\ns.length<=n:=by
 have hsh:WShape.hasAll [] args [.list .int]=true:=(pre_splitW hpre).1
 have hc:l.pre.holds [] { args:=args }=true:=(pre_splitW hpre).2
 obtain ⟨d,r,rfl,h1,h2⟩:=hasAllW_cons hsh
 obtain rfl:=hasAllW_nil h2
 obtain ⟨xs,rfl,h3⟩:=hasW_list h1
 obtain ⟨ns,rfl⟩:=items_int h3
 have hlen:ns.length<=n:=by
  unfold OpenLaw.pre at hc
  have h4:(WTm.not (.lt (.lit (.int (n:Int))) (.len (.arg 0)))).holds [] { args:=[.list (ns.map .int)] }=true:=by
   have h4:=(holds_andW hc).1
   rw [hn] at h4
   exact h4
  have h5:=condW_of h4 (w_not (w_lt w_lit (w_len_list (w_arg rfl))))
  rw [List.length_map] at h5
  refine Nat.le_of_not_lt fun q=>?_
  have q':(n:Int)<((ns.length:Nat):Int):=by omega
  first
   | (rw [decide_eq_true q'] at h5;exact absurd h5 (by decide))
   | (simp at h5;omega)
 cases hwl with
 | cons w1 w2 =>
  cases w2
  cases w1 with
  | list ho hall=>exact ⟨_,_,ns,rfl,rfl,ho,jB ns _ hall,hlen⟩
theorem vz (l:OpenLaw) (args:List WData):l.row.toRowW.claim.post args (.bool true) args=true :=
 postW_of (r:=l.row.toRowW) (X:=(true == true))
  (show WShape.has [] (.bool true) .bool=true by first | rfl | decide | simp [WShape.has,WShape.arms,WShape.armsAll])
  (show (WTm.eq .res (.lit (.bool true))).value [] { args:=args,res:=some (.bool true),after:=args }=some (.bool (true == true)) from w_eq_bool (w_res rfl) w_lit) rfl
theorem qp {l:OpenLaw} {n:Nat} {q:Program} {loose:List Str} {XP:(Str->Option Value)->Heap->Prop} {YP:World->Heap->Prop} {d:DefRec}
  (hn:l.most=some n) (hdf:d.params.defaults=[])
  (call:∀ (w:World) (s₀ s₁:Shared) (mg mb:Str->Option Value) (fa:Addr) (o:Obj) (pm cd doc:Value) (a:Addr) (vs:List Value) (ns:List Int),
   Ground q loose [] XP w s₀ mg mb s₁.heap->YP w s₁.heap ->
   s₁.heap.get? fa=some o->o.data=.func (docDef d.name d.params d.body d.scope pm cd doc)->s₁.heap.CodeRec cd d.name->mg d.name=some (.ref fa) ->
   s₁.heap.get? a=some { cls:=.type "list", data:=.seq vs.toArray }->IntsAre vs ns->ns.length<=n->s₁.gens=#[] ->
   codeAny (model l.prog w) callerA (.call (.ref fa) ⟨[.ref a],[]⟩) (fun r s'=>r=.ok (.ret (.bool true))/\OldK s₁.heap s'.heap/\s'.os=s₁.os/\AllBare s'.gens) s₁) :
  WalkO q loose XP YP l.row.toRowW d [] (fun f vs=>PySem.call f vs):=by
 intro w s₀ s₁ mg mb G Y fa o pm cd doc dV kV ho hd hcd hD hmg hg args vals as hpre hlay hrd hwl hlo
 obtain rfl:dV=.none:=Dflts.none hD hdf
 obtain rfl:kV=.none:=Dflts.noKw hD
 obtain ⟨a,vs,ns,rfl,rfl,hobj,hints,hlen⟩:=vo hn hpre hwl
 refine enter_call (codeAny_mono (call w s₀ s₁ mg mb fa o pm cd doc a vs ns G Y ho (fd_plain hd) hcd hmg hobj hints hlen hg) fun r s' hq=>?_)
 obtain ⟨rfl,h2,h3,h4⟩:=hq
 exact ⟨.inl ⟨.bool true,.bool true,[],rfl,fun _=>rfl,.bool true,vz l _,fun _=>⟨List.Pairwise.nil,fun _ hm=>(nomatch hm)⟩⟩,h2,h3,h4⟩
section
variable {prog:Program} {w:World} {A:Around} {E:Value->Shared->Prop} {s:Shared} {K:Frag}
end
end Att
namespace L2
open PySem PySem.Spec PyProof.Rows
theorem lA:∀ {vs:List Value} {ns:List Int},IntsAre vs ns->Vals (ns.map V.int) vs
 | _,_,.nil=>.nil
 | _,_,.cons n t h=>.cons ⟨t,rfl⟩ (lA h)
noncomputable def L8 (H:Hp):Prop:=∀ b,H b=none\/∃ o xs,H b=some (.dF o (.lst xs))
theorem yG {P:Program} {w:World} {K:PySem.W.Frag} {mg mb:Str->Option Value} {CX:AB} {k:Nat} {fa a:Addr} {fd:FuncData} {x:Str} {sp:Sp} {s₁:Shared} {vs:List Value} {ns:List Int}
  (KX:K.In s₁.heap) (hns:s₁.heap.Ns mainGlobals mg) (hb:s₁.heap.Ns builtinsNs mb) (hbb:∀ x:Str, x≠"__name__"->mb x=bootBuiltins x) (hlim:s₁.heap.NoLimit) (hg:s₁.gens=#[])
  (ha:s₁.heap.get? a=some { cls:=.type "list", data:=.seq vs.toArray }) (hi:IntsAre vs ns) (hl:ns.length<=sizeLine) (hr:bG true k callerA)
  (F:∀ base:Heap,K.In base->base.Ns mainGlobals mg->aZ true P w K mg base CX k fa fd [x] sp) (hbind:∀ (s:Shared) (u:Value),BindsTo s fd ⟨[u],[]⟩ [(x,u)])
  (Jg:∀ H:Hp,L8 H->fq K H a (ns.map V.int)->sp [.ref a] H (fun v _=>v=.bl true) fun _ _ _=>False)
  (hCX:∀ H e s',CX [] H s₁ (fun _ _ _=>False) e s'->False) :
  codeAny (model P w) callerA (.call (.ref fa) ⟨[.ref a],[]⟩) (fun r s'=>r=.ok (.ret (.bool true))/\OldK s₁.heap s'.heap/\s'.os=s₁.os/\AllBare s'.gens) s₁:=by
 have rv:=lA hi
 have lenV:=hi.length
 have core:∀ H:Hp,L8 H->fq K H a (ns.map V.int)->gv P w H s₁.heap->(∀ b,H b≠none->b=a)->(H a≠none->K.lookup a=none) ->
   codeAny (model P w) callerA (.call (.ref fa) ⟨[.ref a],[]⟩) (fun r s'=>r=.ok (.ret (.bool true))/\OldK s₁.heap s'.heap/\s'.os=s₁.os/\AllBare s'.gens) s₁:=by
  intro H hO hS hok hA hK
  have jS:∀ {b:Addr} {o:Obj},s₁.heap.get? b=some o->H b=none->(nu s₁.heap H).get? b=some o:=fun e n=>zj e n
  have KL:∀ {b:Addr} {o:Obj} {es:Array DictEntry} {ep:Nat},s₁.heap.get? b=some o->o.data=.dict es ep->H b=none:=fun {b o es ep} e d=>by
   cases q:H b with
   | none=>rfl
   | some u =>
    have e':b=a:=hA b (by rw [q];simp)
    subst e'
    rw [ha] at e;cases e
    have d':Data.seq vs.toArray _=Data.dict es ep:=d
    cases d'
  have My:∀ {b:Addr} {m:Str->Option Value},s₁.heap.Ns b m->(nu s₁.heap H).Ns b m:=fun {b m} ⟨o,es,ep,e,d,r⟩=>⟨o,es,ep,jS e (KL e d),d,r⟩
  have hKb:K.In (nu s₁.heap H):=fun b o e=>jS (KX b o e) (by
   cases q:H b with
   | none=>rfl
   | some u =>
    have e':b=a:=hA b (by rw [q];simp)
    subst e'
    rw [hK (by rw [q];simp)] at e;cases e)
  have hM:Mod K mg (nu s₁.heap H):=⟨hKb,My hns,⟨mb,My hb,hbb⟩,let ⟨mc,h1,h2⟩:=hlim;⟨mc,My h1,h2⟩⟩
  have e0:lu P w K mg (nu s₁.heap H) callerA [] s₁ H:=⟨rfl,hM,fun b o e=>Cf e,Nat.le_of_eq (vS _ _),trivial,fun b hb=>absurd (show b∈([]:List Addr) from hb) (by simp),hok,.of_eq hg⟩
  refine codeAny_mono ((F _ hKb (My hns)).run callerA [] s₁ H ⟨[.ref a],[]⟩ [.ref a] [.ref a] _ _ hr (fun z=>nomatch z) e0 (hbind s₁ (.ref a)) (.cons rfl .nil) (Jg H hO hS)) fun r s' h=>?_
  cases r with
  | error e=>exact (hCX H e s' h).elim
  | ok fl =>
   cases fl with
   | next=>exact False.elim h
   | brk=>exact False.elim h
   | cont=>exact False.elim h
   | ret u =>
    obtain ⟨v,H',os,bare,un,hok',r',q⟩:=h
    have q':v=.bl true:=q
    subst q'
    obtain rfl:u=Value.bool true:=r'
    refine ⟨rfl,OldK.of_keep fun b o e=>?_,os,bare⟩
    cases q:H b with
    | none=>exact un.keep b o e q (by intro z;exact absurd (show b∈([]:List Addr) from z) (by simp)) (by simp)
    | some u =>
     rcases hO b with z | ⟨ob,xs,z⟩
     ·rw [q] at z;cases z
     ·have z2:=un.c7 b ob _ z
      obtain ⟨e1,_⟩:=hok b _ z
      obtain ⟨e2,_⟩:=hok' b _ z2
      rw [e] at e1;cases e1
      exact e2
 cases hk:K.lookup a with
 | some o =>
  have e:=KX a o hk
  rw [ha] at e
  cases e
  refine core (fun _=>none) (fun _=>.inl rfl) (.inr ⟨_,vs.toArray,_,hk,rfl,rfl,rfl,by rw [List.size_toArray,lenV];exact hl,by simpa using rv⟩) (fun b u z=>by have z':(none:Option HO)=some u:=z;cases z') (fun b z=>absurd rfl z) fun z=>absurd rfl z
 | none =>
  refine core (fun b=>if b=a then some (.dF { cls:=.type "list", data:=.seq vs.toArray } (.lst (ns.map V.int))) else none) (fun b=>?_) (.inl (.inr ⟨{ cls:=.type "list", data:=.seq vs.toArray }, if_pos rfl⟩)) (fun b u z=>?_) (fun b z=>?_) fun _=>hk
  ·by_cases hb:b=a
   ·exact .inr ⟨_,_,if_pos hb⟩
   ·exact .inl (if_neg hb)
  ·by_cases hb:b=a
   ·have z':=(if_pos hb).symm.trans z
    cases z'
    subst hb
    exact ⟨ha,by rw [List.length_map];exact hl,vs,_,rv,ha⟩
   ·have z':=(if_neg hb).symm.trans z
    cases z'
  ·by_cases hb:b=a
   ·exact hb
   ·exact absurd (if_neg hb) z
noncomputable abbrev CX0:AB:=fun _ _ _ _ _ _=>False
structure Fun (K:PySem.W.Frag) (x qual:Str) (st:Stmt) (f:Addr) (fd:FuncData):Prop where
 ex:∃ (oc:Value) (od:Option Addr) (kV doc pm:Value) (an:Option Addr) (cdv ct:Value) (osl:Array (Option Value)),
  fd=PySem.W.fnOf x qual (iI st) (b9 st) (aD st) .none kV doc pm an cdv ct/\K.lookup f=some ⟨oc,od,.func fd,osl⟩/\PySem.W.codeIn K cdv qual=true
 kp:PySem.W.keepIn K (.ref f)=true
section
variable {P:Program} {w:World} {K:PySem.W.Frag} {mg:Str->Option Value} {base:Heap}
theorem Fun.ok {x qual:Str} {st:Stmt} {f:Addr} {fd:FuncData} {N ps:List Str} {k:Nat} {sp:Sp} (F:Fun K x qual st f fd) (S:dh N ps (aD st)) (len:∀ vs H Q E,sp vs H Q E->vs.length=ps.length)
  (hbody:∀ (cdv:Value) (A:Around) (outer:List Env) (s:Shared) (H:Hp) (vs:List V) (Q:VK) (E:XK),bG cm k (A.deeper (envOfC qual (aD st) s.heap.objs.size f cdv))->(cm=false->HX A H)->sp vs H Q E ->
   ∃ t,jd (iJ CX0 P w K mg base N qual (aD st) f cdv A outer s H E).D3 (b9 st) t/\t { nx:=fun _ H'=>Q .ao H',rt:=Q } (start N vs) H):aZ cm P w K mg base CX0 (k+1) f fd ps sp:=by
 obtain ⟨oc,od,kV,doc,pm,an,cdv,ct,osl,rfl,lk,hcd⟩:=F.ex
 refine El lk hcd S len fun A outer s H vs Q E hr hx Jg=>?_
 obtain ⟨t,h,q⟩:=hbody cdv A outer s H vs Q E hr hx Jg
 exact ⟨t,h.D3,q⟩
end
section
variable {X:Cx}
end
noncomputable def wB (H H':Hp):Prop:=∀ b o,H b=some o->H' b=some o
theorem wB.trans {H H1 H2:Hp} (a:wB H H1) (b:wB H1 H2):wB H H2:=fun c o h=>b c o (a c o h)
theorem wB.free {H H':Hp} (e:wB H H') {l:Addr} (h:H' l=Option.none):H l=Option.none:=by
 cases q:H l with
 | none=>rfl
 | some o =>
  rw [e l o q] at h
  cases h
section
variable {κ:Type} [DecidableEq κ]
end
end L2
end
section
namespace Fg
open PySem
section
variable {Φ:aL} {σ:Sg} {M:MH}
@[simp] theorem gP {i:Nat}:ev Φ (.v i) σ M=match σ[i]? with | some (some d)=>.ok d M | _=>.bad:=rfl
@[simp] theorem r9 {d:D}:ev Φ (.k d) σ M=.ok d M:=rfl
@[simp] theorem ev_g {i:Nat}:ev Φ (.g i) σ M=match Φ.glob i with | some d=>.ok d M | none=>.bad:=rfl
@[simp] theorem gQ {es:Es}:ev Φ (.tup es) σ M=(bX Φ es σ M).bind fun ds M1=>.ok (.tup ds) M1:=rfl
@[simp] theorem dI {fz:Bool} {es:Es}:ev Φ (.lst fz es) σ M=(bX Φ es σ M).bind fun ds M1=>b7 fz ds M1:=rfl
@[simp] theorem Na:ev Φ .Iw σ M=.ok (.ref M.length) (M++[.dct []]):=rfl
@[simp] theorem gB {o:Dp} {fz:Bool} {a b:E}:ev Φ (.op o fz a b) σ M=(ev Φ a σ M).bind fun x M1=>(ev Φ b σ M1).bind fun y M2=>tX o fz M2 x y:=rfl
@[simp] theorem Ik {a:E}:ev Φ (.neg a) σ M=(ev Φ a σ M).bind fun x M1=>match x with | .int i=>.ok (.int (-i)) M1 | _=>.bad:=rfl
@[simp] theorem dJ {o:AK} {a b:E}:ev Φ (.cmp o a b) σ M=(ev Φ a σ M).bind fun x M1=>(ev Φ b σ M1).bind fun y M2=>bO o M2 x y:=rfl
@[simp] theorem Lz {o o':AK} {a b c:E}:ev Φ (.chain o o' a b c) σ M=(ev Φ a σ M).bind fun x M1=>(ev Φ b σ M1).bind fun y M2=>(bO o M2 x y).bind fun t M3=>match t with
  | .bl true=>(ev Φ c σ M3).bind fun z M4=>bO o' M4 y z
  | .bl false=>.ok (.bl false) M3
  | _=>.bad:=rfl
@[simp] theorem Im {a b:E}:ev Φ (.and a b) σ M=(ev Φ a σ M).bind fun x M1=>match x with | .bl true=>(ev Φ b σ M1) | .bl false=>.ok (.bl false) M1 | _=>.bad:=rfl
@[simp] theorem Ly {a b:E}:ev Φ (.or a b) σ M=(ev Φ a σ M).bind fun x M1=>match x with | .bl true=>.ok (.bl true) M1 | .bl false=>(ev Φ b σ M1) | _=>.bad:=rfl
@[simp] theorem nK {a:E}:ev Φ (.not a) σ M=(ev Φ a σ M).bind fun x M1=>match x with | .bl b=>.ok (.bl (!b)) M1 | _=>.bad:=rfl
@[simp] theorem zL {c a b:E}:ev Φ (.AF c a b) σ M=(ev Φ c σ M).bind fun x M1=>match x with | .bl true=>ev Φ a σ M1 | .bl false=>ev Φ b σ M1 | _=>.bad:=rfl
@[simp] theorem nL {a b:E}:ev Φ (.idx a b) σ M=(ev Φ a σ M).bind fun x M1=>(ev Φ b σ M1).bind fun y M2=>nq M2 x y:=rfl
@[simp] theorem ev_sl {fz:Bool} {a:E} {lo hi:O}:ev Φ (.sl fz a lo hi) σ M=(ev Φ a σ M).bind fun x M1=>(CS Φ lo σ M1).bind fun l M2=>(CS Φ hi σ M2).bind fun h M3=>sl2 fz M3 x l h:=rfl
@[simp] theorem iG {f:Nat} {es:Es}:ev Φ (.call f es) σ M=(bX Φ es σ M).bind fun ds M1=>Φ.call f ds M1:=rfl
@[simp] theorem ev_isi {a:E} {t:Ty}:ev Φ (.CF a t) σ M=(ev Φ a σ M).bind fun x M1=>if wH M1 x then .ok (.bl (HM M1 t x)) M1 else .bad:=rfl
@[simp] theorem Il {b:Bl} {fz:Bool} {es:Es}:ev Φ (.blt b fz es) σ M=(bX Φ es σ M).bind fun ds M1=>An b fz M1 ds:=rfl
@[simp] theorem gR {m:Mt} {fz:Bool} {a:E} {es:Es}:ev Φ (.bh m fz a es) σ M=(ev Φ a σ M).bind fun x M1=>if pI m M1 x then (bX Φ es σ M1).bind fun ds M2=>gH m fz M2 x ds else .bad:=rfl
@[simp] theorem nM {fz:Bool} {caps tg:List Nat} {elt:E} {it:Src} {cond:O}:ev Φ (.comp fz caps tg elt it cond) σ M=(b3 Φ it σ M).bind fun p M1 =>
   ((bz (oh Φ cond) (ev Φ elt) tg (aN M1 p.1) p.2.1 (nR σ caps++List.replicate tg.length none) M1 []).fin (fu p.2.2 p.1)).bind fun ds M2=>b7 fz ds M2:=rfl
@[simp] theorem cZ {a:E} {f:Str}:ev Φ (.fld a f) σ M=(ev Φ a σ M).bind fun x M1=>match x with
  | .ref n=>match M1[n]? with
   | some (.ins _ fs)=>match fs.lookup f with
    | some d=>.ok d M1
    | none=>.bad
   | _=>.bad
  | _=>.bad:=rfl
@[simp] theorem Ii {c m:Nat} {nm:Str} {a:E} {es:Es}:ev Φ (.cM c m nm a es) σ M=(ev Φ a σ M).bind fun x M1=>match x with
  | .ref n=>match M1[n]? with
   | some (.ins c' fs)=>if decide (c'=c)&&(fs.lookup nm).isNone then (bX Φ es σ M1).bind fun ds M2=>Φ.call m (.ref n::ds) M2 else .bad
   | _=>.bad
  | _=>.bad:=rfl
@[simp] theorem Ij {c i:Nat} {es:Es}:ev Φ (.new c i es) σ M=(bX Φ es σ M).bind fun ds M1=>(Φ.ini i (.ref M1.length::ds) (M1++[.ins c []])).bind fun r M2=>match r with
  | .ao=>.ok (.ref M1.length) M2
  | _=>.bad:=rfl
@[simp] theorem ev_mx {hi:Bool} {a b:E}:ev Φ (.mx hi a b) σ M=(ev Φ a σ M).bind fun x M1=>(ev Φ b σ M1).bind fun y M2=>match x,y with
  | .int i,.int j=>.ok (.int (if hi then (if j > i then j else i) else (if j<i then j else i))) M2
  | _,_=>.bad:=rfl
@[simp] theorem ev_lrg {fz:Bool} {a b:E}:ev Φ (.MA fz a b) σ M=(ev Φ a σ M).bind fun x M1=>(ev Φ b σ M1).bind fun y M2=>match x,y with
  | .int i,.int j=>if jz i&&(jz j&&decide ((j-i).toNat<=line)) then b7 fz (eG i j) M2 else .bad
  | _,_=>.bad:=rfl
@[simp] theorem zM {f:F1} {a:E}:ev Φ (.pV f a) σ M=(ev Φ a σ M).bind fun x M1=>match vW f x with
  | some d=>.ok d M1
  | none=>.bad:=rfl
@[simp] theorem ev_lr1 {fz:Bool} {a:E}:ev Φ (.MC fz a) σ M=(ev Φ a σ M).bind fun x M1=>match x with
  | .int j=>if jz j then b7 fz (eG 0 j) M1 else .bad
  | _=>.bad:=rfl
@[simp] theorem ev_rv {fz:Bool} {a:E}:ev Φ (.rv fz a) σ M=(ev Φ a σ M).bind fun x M1=>match vw M1 x with
  | .lst ds=>b7 fz ds.reverse M1
  | _=>.bad:=rfl
@[simp] theorem Nb {a:E}:ev Φ (.all1 a) σ M=(ev Φ a σ M).bind fun x M1=>match vw M1 x with
  | .lst ds=>match boolsOf ds with
   | some bs=>.ok (.bl (bs.all id)) M1
   | none=>.bad
  | _=>.bad:=rfl
@[simp] theorem aP:bX Φ .nil σ M=.ok [] M:=rfl
@[simp] theorem au {e:E} {es:Es}:bX Φ (.cons e es) σ M=(ev Φ e σ M).bind fun x M1=>(bX Φ es σ M1).bind fun xs M2=>.ok (x::xs) M2:=rfl
@[simp] theorem Lu:CS Φ .none σ M=.ok none M:=rfl
@[simp] theorem Ls {e:E}:CS Φ (.some e) σ M=(ev Φ e σ M).bind fun x M1=>match x with | .int i=>.ok (some i) M1 | _=>.bad:=rfl
@[simp] theorem zK:oh Φ .none σ M=.ok (.bl true) M:=rfl
@[simp] theorem Lx {e:E}:oh Φ (.some e) σ M=ev Φ e σ M:=rfl
@[simp] theorem zJ {a:E}:b3 Φ (.e a) σ M=(ev Φ a σ M).bind fun x M1=>match itemsOf M1 x with | some ds=>.ok (x,ds,wk M1 x) (walk M1 x) | none=>.bad:=rfl
@[simp] theorem M9 {a:E}:b3 Φ (.Cp a) σ M=(ev Φ a σ M).bind fun x M1=>match x with | .lst ds=>.ok (.ao,ds,false) M1 | _=>.bad:=rfl
@[simp] theorem uz {a:E}:b3 Φ (.iO a) σ M=(ev Φ a σ M).bind fun x M1=>match x with
  | .int j=>if jz j then .ok (.ao,eG 0 j,false) M1 else .bad
  | _=>.bad:=rfl
@[simp] theorem Lw {a b:E}:b3 Φ (.FG a b) σ M=(ev Φ a σ M).bind fun x M1=>(ev Φ b σ M1).bind fun y M2=>match jv x,jv y with
  | some i,some j=>if jz i&&jz j then .ok (.ao,eG i j,false) M2 else .bad
  | _,_=>.bad:=rfl
@[simp] theorem M8 {a:E}:b3 Φ (.rev a) σ M=(ev Φ a σ M).bind fun x M1=>match pR x with
  | some ds=>.ok (.ao,ds.reverse,false) M1
  | none=>.bad:=rfl
@[simp] theorem Lv {a b:E}:b3 Φ (.FE a b) σ M=(ev Φ a σ M).bind fun x M1=>(ev Φ b σ M1).bind fun y M2=>match jv x,jv y with
  | some i,some j=>if jz i&&jz j then .ok (.ao,tL i j,false) M2 else .bad
  | _,_=>.bad:=rfl
@[simp] theorem ev_dz {a b:E}:ev Φ (.dz a b) σ M=(ev Φ a σ M).bind fun x M1=>(ev Φ b σ M1).bind fun y M2=>match Mp M2 x,Mp M2 y with
  | some ds,some es=>if decide (ds.length<=1000) then (match dzs [] ds es with
   | some kvs=>.ok (.ref M2.length) (M2++[.dct kvs])
   | none=>.bad) else .bad
  | _,_=>.bad:=rfl
@[simp] theorem ev_isx {a:E} {c:Option Nat}:ev Φ (.jh a c) σ M=(ev Φ a σ M).bind fun x M1=>match x with
  | .iP k=>.ok (.bl (match c with | some c=>Φ.sub k c | none=>true)) M1
  | _=>.bad:=rfl
@[simp] theorem ev_ixc {ct:Bool} {a:E} {es:Es}:ev Φ (.Ef ct a es) σ M=(ev Φ a σ M).bind fun x M1=>if (rH M1 x).isSome then (bX Φ es σ M1).bind fun ds M2=>HG ct M2 x ds else .bad:=rfl
@[simp] theorem ev_mxl {a:E}:ev Φ (.Mz a) σ M=(ev Φ a σ M).bind fun x M1=>match (rH M1 x).bind maxOf with
  | some m=>.ok (.int m) M1
  | none=>.bad:=rfl
@[simp] theorem LA {f:Nat} {es:Es} {e:E}:ev Φ (.jr f es e) σ M=(bX Φ es σ M).bind fun ds M1=>(ev Φ e σ M1).bind fun d M2=>Φ.call f (ds++[d]) M2:=rfl
@[simp] theorem ev_lrd {fz:Bool} {a b:E}:ev Φ (.MB fz a b) σ M=(ev Φ a σ M).bind fun x M1=>(ev Φ b σ M1).bind fun y M2=>match x,y with
  | .int i,.int j=>if (jz i&&(jz j&&decide ((i-j).toNat<=line)))||decide (i<=j) then b7 fz (tL i j) M2 else .bad
  | _,_=>.bad:=rfl
@[simp] theorem LB {f:Nat} {es:Es} {d:Int}:ev Φ (.jt f es d) σ M=(bX Φ es σ M).bind fun ds M1=>Φ.call f (ds++[.int d]) M1:=rfl
@[simp] theorem M7 {a b:E}:b3 Φ (.zip a b) σ M=(ev Φ a σ M).bind fun x M1=>(ev Φ b σ M1).bind fun y M2=>match pR x,pR y with
  | some ds,some es=>.ok (.ao,Jq ds es,false) M2
  | _,_=>.bad:=rfl
@[simp] theorem Ig {i:Nat} {e:E}:ex Φ (.set i e) σ M=(ev Φ e σ M).use σ fun x M1=>.ok (.nx (σ.set i (some x))) M1:=rfl
@[simp] theorem CQ {a b e:E}:ex Φ (.qL a b e) σ M=(ev Φ e σ M).use σ fun x M1=>(ev Φ a σ M1).use σ fun y M2=>(ev Φ b σ M2).use σ fun z M3=>(mS M3 y z x).use σ fun _ M4=>.ok (.nx σ) M4:=rfl
@[simp] theorem nI {a:E} {f:Str} {e:E}:ex Φ (.bN a f e) σ M=(ev Φ e σ M).use σ fun x M1=>(ev Φ a σ M1).use σ fun y M2=>match y with
  | .ref n=>match M2[n]? with
   | some (.ins c fs)=>if decide (fs.length<1000) then .ok (.nx σ) (M2.set n (.ins c (bB f x fs))) else .bad
   | _=>.bad
  | _=>.bad:=rfl
@[simp] theorem CT:CU Φ .nil σ M=.ok () M:=rfl
@[simp] theorem zI {e:E} {es:Es}:CU Φ (.cons e es) σ M=(ev Φ e σ M).bind fun x M1=>if cB x then CU Φ es σ M1 else .bad:=rfl
@[simp] theorem zH {c:Nat} {es:Es}:ex Φ (.raise c es) σ M=(CU Φ es σ M).use σ fun _ M1=>.ok (.xc c σ) M1:=rfl
@[simp] theorem zF {b:Ss} {hs:Hs} {els:Ss}:ex Φ (.try b hs els) σ M=(exs Φ b σ M).bind fun o M1=>match o with
  | .nx σ1=>exs Φ els σ1 M1
  | .xc c σ1=>ux Φ hs c σ1 M1
  | o=>.ok o M1:=rfl
@[simp] theorem MY {c:Nat}:ux Φ .nil c σ M=.bad:=rfl
@[simp] theorem Lp {cs:List Nat} {b:Ss} {hs:Hs} {c:Nat}:ux Φ (.cons cs b hs) c σ M=if cs.any (fun d=>Φ.sub c d) then GK id (exs Φ b σ M) else ux Φ hs c σ M:=rfl
@[simp] theorem Ib {d i:Nat} {b:Ss} {hs:Hs} {c:Nat}:ux Φ (.as d i b hs) c σ M=if Φ.sub c d then GK (fun σ=>σ.set i none) (exs Φ b (σ.set i (some (.iP c))) M) else ux Φ hs c σ M:=rfl
@[simp] theorem Ie {tg:List Nat} {e:E}:ex Φ (.Dy tg e) σ M=(ev Φ e σ M).use σ fun x M1=>match sets tg M1 x σ with | some σ1=>.ok (.nx σ1) M1 | none=>.bad:=rfl
@[simp] theorem Lr {e:E}:ex Φ (.ex e) σ M=(ev Φ e σ M).use σ fun _ M1=>.ok (.nx σ) M1:=rfl
@[simp] theorem ex_ret {e:E}:ex Φ (.ret e) σ M=(ev Φ e σ M).use σ fun x M1=>.ok (.rt x) M1:=rfl
@[simp] theorem MZ:ex Φ .FH σ M=.ok (.rt .ao) M:=rfl
@[simp] theorem nJ {c:E} {a b:Ss}:ex Φ (.ifs c a b) σ M=(ev Φ c σ M).use σ fun t M1=>match t with | .bl true=>exs Φ a σ M1 | .bl false=>exs Φ b σ M1 | _=>.bad:=rfl
@[simp] theorem Ih {tg:List Nat} {it:Src} {b:Ss}:ex Φ (.for tg it b) σ M=(b3 Φ it σ M).use σ fun p M1=>(bC (exs Φ b) tg (aN M1 p.1) p.2.1 σ M1).fin (fu p.2.2 p.1):=rfl
@[simp] theorem kN {c:E} {b:Ss}:ex Φ (.while c b) σ M=bI (ev Φ c) (exs Φ b) Φ.turns σ M:=rfl
@[simp] theorem ex_brk:ex Φ .brk σ M=.ok (.bk σ) M:=rfl
@[simp] theorem M6:ex Φ .cont σ M=.ok (.ct σ) M:=rfl
@[simp] theorem M5:ex Φ .pass σ M=.ok (.nx σ) M:=rfl
@[simp] theorem MX:exs Φ .nil σ M=.ok (.nx σ) M:=rfl
@[simp] theorem aW {s:S} {ss:Ss}:exs Φ (.cons s ss) σ M=(ex Φ s σ M).bind fun o M1=>match o with | .nx σ1=>exs Φ ss σ1 M1 | o=>.ok o M1:=rfl
end
@[simp] theorem fin_ok {α:Type} {a:α} {M:MH} {f:MH->MH}:(R.ok a M).fin f=.ok a (f M):=rfl
@[simp] theorem MV {α:Type} {c:Nat} {M:MH} {f:MH->MH}:(R.exc c M:R α).fin f=.exc c (f M):=rfl
@[simp] theorem MW {α:Type} {f:MH->MH}:(R.bad:R α).fin f=.bad:=rfl
@[simp] theorem unwk_f {d:D} {M:MH}:fu false d M=M:=by cases d <;> rfl
@[simp] theorem zA {α:Type} {x:R α} {d:D}:x.fin (fu false d)=x:=by cases x <;> simp
@[simp] theorem wk_tup {M:MH} {ds:List D}:wk M (.tup ds)=false:=rfl
@[simp] theorem wk_lst {M:MH} {ds:List D}:wk M (.lst ds)=false:=rfl
@[simp] theorem wk_str {M:MH} {x:Str}:wk M (.str x)=false:=rfl
@[simp] theorem Js {M:MH} {ds:List D}:walk M (.tup ds)=M:=rfl
@[simp] theorem Ju {M:MH} {ds:List D}:walk M (.lst ds)=M:=rfl
@[simp] theorem Jt {M:MH} {x:Str}:walk M (.str x)=M:=rfl
theorem mR {α:Type} {l:List α} {n:Nat} {a b:α} (h:l[n]? = some a):(l.set n b)[n]? = some b:=by
 obtain ⟨q,_⟩:=List.getElem?_eq_some_iff.mp h
 exact List.getElem?_set_self q
theorem cL {P:kU} {k i:Nat} {ds:List D} {M:MH} {fn:Fn} (h:P.fn i=some fn):(aa P (k+1)).call i ds M=j5 (aa P k) fn ds M:=by simp only [aa,h]
@[simp] theorem sC {P:kU} {k:Nat}:(aa P k).glob=P.glob:=by cases k <;> rfl
@[simp] theorem fY {P:kU} {k:Nat}:(aa P k).turns=P.turns:=by cases k <;> rfl
@[simp] theorem we {P:kU} {k:Nat}:(aa P k).sub=P.sub:=by cases k <;> rfl
theorem ko {cond elt:Sg->MH->R D} {i:Nat} {fK:MH->Bool} {M:MH} {f:D->D} {p:D->Bool} (hc:fK M=true):∀ (ds acc:List D) (σ:Sg),(∀ d∈ds,cond (σ.set i (some d)) M=.ok (.bl (p d)) M/\(p d=true->elt (σ.set i (some d)) M=.ok (f d) M)) ->
  acc.length+ds.length<=line->bz cond elt [i] fK ds σ M acc=.ok (acc++(ds.filter p).map f) M
 | [],acc,σ,_,_=>by simp [bz]
 | d::ds,acc,σ,h,hl=>by
  obtain ⟨h1,h2⟩:=h d List.mem_cons_self
  have ih:=fun acc'=>ko (cond:=cond) (elt:=elt) (i:=i) (fK:=fK) (M:=M) (f:=f) (p:=p) hc ds acc' (σ.set i (some d)) (fun e he=>by rw [List.set_set];exact h e (List.mem_cons_of_mem _ he))
  simp only [List.length_cons] at hl
  rw [bz]
  simp only [sets,h1,R.af]
  cases hp:p d with
  | true =>
   have hlt:acc.length<line:=by omega
   simp only [h2 hp,R.af,hc,if_true,hlt,decide_true]
   rw [ih (acc++[f d]) (by simp;omega)]
   simp [List.filter_cons,hp]
  | false =>
   simp only [hc,if_true]
   rw [ih acc (by omega)]
   simp [List.filter_cons,hp]
@[simp] theorem cz {α:Type} {a:α} {l:List α}:b5 (a::l) 0=some a:=by
 have:(0:Int)<((a::l).length:Int):=by simp only [List.length_cons];omega
 simp only [b5,wI,if_pos (Int.le_refl 0),if_pos this];rfl
@[simp] theorem mE {α:Type} {a b:α} {l:List α}:b5 (a::b::l) 1=some b:=by
 have:(1:Int)<((a::b::l).length:Int):=by simp only [List.length_cons];omega
 simp only [b5,wI,if_pos (show (0:Int)<=1 by decide),if_pos this];rfl
@[simp] theorem LY {α:Type} {a b c:α} {l:List α}:b5 (a::b::c::l) 2=some c:=by
 have:(2:Int)<((a::b::c::l).length:Int):=by simp only [List.length_cons];omega
 simp only [b5,wI,if_pos (show (0:Int)<=2 by decide),if_pos this];rfl
@[simp] theorem Ew:aF D.ao D.ao=true:=by simp only [aF]
@[simp] theorem Ey {x:Int} {y:Int}:aF (D.int x) (D.int y)=decide (x=y):=by simp only [aF]
@[simp] theorem Eu {x:Str} {y:Str}:aF (D.str x) (D.str y)=decide (x=y):=by simp only [aF]
@[simp] theorem Et {x:List D} {y:List D}:aF (D.tup x) (D.tup y)=c5 x y:=by simp only [aF]
@[simp] theorem qb {x:List D} {y:List D}:aF (D.lst x) (D.lst y)=c5 x y:=by simp only [aF]
@[simp] theorem Nc:c5 [] []=true:=by simp only [c5]
@[simp] theorem CV {a:D} {l:List D}:c5 (a::l) []=false:=by simp only [c5]
@[simp] theorem Nf {a b:D} {l m:List D}:c5 (a::l) (b::m)=(aF a b&&c5 l m):=by simp only [c5]
section
variable {Φ:aL} {σ σ':Sg} {M M1 M2:MH} {e c:E} {x:D} {ss a b:Ss} {i:Nat}
theorem av (h:ev Φ e σ M=.ok x M1):exs Φ (.cons (.set i e) ss) σ M=exs Φ ss (σ.set i (some x)) M1:=by simp [h]
theorem cg (h:ev Φ e σ M=.ok x M1):exs Φ (.cons (.ex e) ss) σ M=exs Φ ss σ M1:=by simp [h]
theorem eX (h:ev Φ e σ M=.ok x M1):exs Φ (.cons (.ret e) ss) σ M=.ok (.rt x) M1:=by simp [h]
theorem cD (h:ev Φ c σ M=.ok (.bl false) M1):exs Φ (.cons (.ifs c a .nil) ss) σ M=exs Φ ss σ M1:=by simp [h]
theorem aQ (h:ev Φ c σ M=.ok (.bl false) M1) (hb:exs Φ b σ M1=.ok (.nx σ') M2):exs Φ (.cons (.ifs c a b) ss) σ M=exs Φ ss σ' M2:=by simp [h,hb]
theorem dQ (h:ev Φ c σ M=.ok (.bl true) M1) (ha:exs Φ a σ M1=.ok (.nx σ') M2):exs Φ (.cons (.ifs c a b) ss) σ M=exs Φ ss σ' M2:=by simp [h,ha]
theorem DN (h:ev Φ c σ M=.ok (.bl true) M1) (ha:exs Φ a σ M1=.ok (.rt x) M2):exs Φ (.cons (.ifs c a b) ss) σ M=.ok (.rt x) M2:=by simp [h,ha]
theorem xC {tg:List Nat} {it:Src} {d:D} {ds:List D} (h:b3 Φ it σ M=.ok (d,ds,false) M1) (hl:bC (exs Φ b) tg (aN M1 d) ds σ M1=.ok (.nx σ') M2):exs Φ (.cons (.for tg it b) ss) σ M=exs Φ ss σ' M2:=by simp [h,hl]
theorem bV {P:kU} {k f:Nat} {fn:Fn} {ds:List D} {d:D} {M':MH} {r:R D} (hf:P.fn f=some fn) (hn:ds.length=fn.np) (hb:exs (aa P k) fn.body (ds.map some++List.replicate (fn.ns-fn.np) none) M=.ok (.rt d) M') (hr:fE fn.keep M d M'=r):(aa P (k+1)).call f ds M=r:=by
 rw [cL hf]
 have h1:ds.length+fn.kO.length-fn.np=fn.kO.length:=by omega
 simp only [j5,h1,List.drop_length,List.append_nil,hb]
 rw [if_pos (by simp;omega)]
 exact hr
theorem ie {M:MH} {d:D} {M':MH} (h:nr M.length d=true) (ht:M'.take M.length=M):fE false M d M'=.ok d M:=by
 unfold fE;rw [if_pos ⟨rfl,ht⟩,if_pos h]
end
theorem Ce {n:Nat} (h:n<=1000000):jz (n:Int)=true:=by simp only [jz,decide_eq_true_eq];omega
@[simp] theorem Mq {M:MH} {ds:List D}:wH M (.tup ds)=true:=rfl
@[simp] theorem Mv {M:MH} {ds:List D}:wH M (.lst ds)=true:=rfl
@[simp] theorem Mw {M:MH} {i:Int}:wH M (.int i)=true:=rfl
@[simp] theorem Mr {M:MH} {x:Str}:wH M (.str x)=true:=rfl
@[simp] theorem okT_bl {M:MH} {b:Bool}:wH M (.bl b)=true:=rfl
@[simp] theorem Mu {M:MH}:wH M .ao=true:=rfl
end Fg
end
section
namespace Fg
open PySem L2
structure Bd where
 K:W.Frag
 dk:Addr->List (Key×V)->Prop
 cls:Nat->Option Addr
 exc:Nat->Value->Prop
 AD:Nat->Option Addr
noncomputable def KTup (K:W.Frag) (a:Addr) (xs:List V):Prop :=
 ∃ (o:Obj) (its:Array Value) (n:Nat), K.lookup a=some o/\o.cls=.type "tuple"/\o.data=.seq its n/\its.size<=sizeLine/\Vals xs its.toList
noncomputable def KLst (K:W.Frag) (a:Addr) (xs:List V):Prop :=
 ∃ (o:Obj) (its:Array Value) (n:Nat), K.lookup a=some o/\o.cls=.type "list"/\o.dict=none/\o.data=.seq its n/\its.size<=sizeLine/\Vals xs its.toList
noncomputable def FzT (B:Bd) (F:Addr->Prop) (H:Hp) (a:Addr) (xs:List V):Prop:=(F a/\Rd H a (.tup xs))\/KTup B.K a xs
noncomputable def FzL (B:Bd) (F:Addr->Prop) (H:Hp) (a:Addr) (xs:List V):Prop:=(F a/\Rd H a (.lst xs))\/KLst B.K a xs
noncomputable def FzD (B:Bd) (F:Addr->Prop) (H:Hp) (a:Addr) (kvs:List (Key×V)):Prop:=(F a/\Rd H a (.dK kvs))\/B.dk a kvs
theorem FzT.sq {B:Bd} {F:Addr->Prop} {H:Hp} {a:Addr} {xs:List V} (h:FzT B F H a xs):gE B.K H a xs:=by
 rcases h with ⟨_,h⟩ | h
 ·exact .inl h
 ·exact .inr h
theorem FzL.sq {B:Bd} {F:Addr->Prop} {H:Hp} {a:Addr} {xs:List V} (h:FzL B F H a xs):fq B.K H a xs:=by
 rcases h with ⟨_,h⟩ | h
 ·exact .inl h
 ·exact .inr h
noncomputable def IP (a C:Addr) (h:Heap):Prop:=∃ o,h.get? a=some o/\o.cls=.ref C
mutual
noncomputable def RD (B:Bd) (F:Addr->Prop) (ρ:List Addr) (H:Hp):D->V->Prop
 | .ao,v=>v=.ao
 | .bl b,v=>v=.bl b
 | .int i,v=>v=.int i
 | .str x,v=>v=.str x
 | .tup ds,v=>∃ a vs,v=.ref a/\FzT B F H a vs/\ai B F ρ H ds vs
 | .lst ds,v=>∃ a vs,v=.ref a/\FzL B F H a vs/\ai B F ρ H ds vs
 | .dct ks ds,v=>∃ a kvs,v=.ref a/\FzD B F H a kvs/\kvs.map (·.1)=ks/\ai B F ρ H ds (kvs.map (·.2))
 | .ref n,v=>∃ a,ρ[n]? = some a/\v=.ref a
 | .iP c,v=>∃ a C oe,v=.ref a/\B.AD c=some C/\F a/\H a=some (.dF oe (.ext (IP a C)))
noncomputable def ai (B:Bd) (F:Addr->Prop) (ρ:List Addr) (H:Hp):List D->List V->Prop
 | [],vs=>vs=[]
 | d::ds,vs=>∃ v ws,vs=v::ws/\RD B F ρ H d v/\ai B F ρ H ds ws
end
structure Ext0 (F:Addr->Prop) (ρ:List Addr) (H:Hp) (F':Addr->Prop) (ρ':List Addr) (H':Hp):Prop where
 s:∀ a∈ρ,¬ F a
 f:∀ a,F a->F' a
 h:∀ a,H a≠none->a∉ρ->H' a=H a
 r:ρ <+: ρ'
 n:∀ a∈ρ',a∈ρ\/H a=none
 g:∀ a,F' a->F a\/(H a=none\/a∈ρ)
structure qu (F:Addr->Prop) (ρ:List Addr) (H:Hp) (F':Addr->Prop) (ρ':List Addr) (H':Hp):Prop where
 f:∀ a,F a->F' a
 k:∀ a,F a->H a≠none->H' a=H a
 r:ρ <+: ρ'
theorem Ext0.Jl {F F':Addr->Prop} {ρ ρ':List Addr} {H H':Hp} (e:Ext0 F ρ H F' ρ' H'):qu F ρ H F' ρ' H':=⟨e.f,fun a fa h=>e.h a h fun z=>e.s a z fa,e.r⟩
section
variable {B:Bd} {F F' F1:Addr->Prop} {ρ ρ' ρ1:List Addr} {H H' H1:Hp}
theorem DR {a:Addr} {u:HO} (h:Rd H a u):H a≠none:=by
 rcases h with h | ⟨o,h⟩ <;> rw [h] <;> simp
theorem qu.rd (e:qu F ρ H F' ρ' H') {a:Addr} {u:HO} (f:F a) (h:Rd H a u):Rd H' a u:=by
 have q:=e.k a f (DR h)
 rcases h with h | ⟨o,h⟩
 ·exact .inl (q.trans h)
 ·exact .inr ⟨o,q.trans h⟩
theorem qu.at (e:qu F ρ H F' ρ' H') {n:Nat} {a:Addr} (h:ρ[n]? = some a):ρ'[n]? = some a:=by
 obtain ⟨t,rfl⟩:=e.r
 have hn:n<ρ.length:=by
  rcases Nat.lt_or_ge n ρ.length with q | q
  ·exact q
  ·rw [List.getElem?_eq_none_iff.mpr q] at h;cases h
 rw [List.getElem?_append_left hn];exact h
mutual
theorem RD.aV (e:qu F ρ H F' ρ' H'):∀ (d:D) (v:V),RD B F ρ H d v->RD B F' ρ' H' d v
 | .ao,v,h=>h
 | .bl _,v,h=>h
 | .int _,v,h=>h
 | .str _,v,h=>h
 | .tup ds,v,h=>by
  simp only [RD] at h ⊢
  obtain ⟨a,vs,h1,h2,h3⟩:=h
  refine ⟨a,vs,h1,?_,ai.aV e ds vs h3⟩
  rcases h2 with ⟨f,r⟩ | h2
  ·exact .inl ⟨e.f a f,e.rd f r⟩
  ·exact .inr h2
 | .lst ds,v,h=>by
  simp only [RD] at h ⊢
  obtain ⟨a,vs,h1,h2,h3⟩:=h
  refine ⟨a,vs,h1,?_,ai.aV e ds vs h3⟩
  rcases h2 with ⟨f,r⟩ | h2
  ·exact .inl ⟨e.f a f,e.rd f r⟩
  ·exact .inr h2
 | .dct ks ds,v,h=>by
  simp only [RD] at h ⊢
  obtain ⟨a,kvs,h1,h2,h4,h3⟩:=h
  refine ⟨a,kvs,h1,?_,h4,ai.aV e ds _ h3⟩
  rcases h2 with ⟨f,r⟩ | h2
  ·exact .inl ⟨e.f a f,e.rd f r⟩
  ·exact .inr h2
 | .ref n,v,h=>by
  simp only [RD] at h ⊢
  obtain ⟨a,h1,h2⟩:=h
  exact ⟨a,e.at h1,h2⟩
 | .iP c,v,h=>by
  simp only [RD] at h ⊢
  obtain ⟨a,C,oe,h1,h2,h3,h4⟩:=h
  exact ⟨a,C,oe,h1,h2,e.f a h3,(e.k a h3 (by rw [h4];simp)).trans h4⟩
theorem ai.aV (e:qu F ρ H F' ρ' H'):∀ (ds:List D) (vs:List V),ai B F ρ H ds vs->ai B F' ρ' H' ds vs
 | [],vs,h=>h
 | d::ds,vs,h=>by
  simp only [ai] at h ⊢
  obtain ⟨v,ws,h1,h2,h3⟩:=h
  exact ⟨v,ws,h1,RD.aV e d v h2,ai.aV e ds ws h3⟩
end
theorem Ext0.at (e:Ext0 F ρ H F' ρ' H') {n:Nat} {a:Addr} (h:ρ[n]? = some a):ρ'[n]? = some a:=e.Jl.at h
theorem RD.bx (e:Ext0 F ρ H F' ρ' H') (d:D) (v:V) (h:RD B F ρ H d v):RD B F' ρ' H' d v:=RD.aV e.Jl d v h
theorem ai.bx (e:Ext0 F ρ H F' ρ' H') (ds:List D) (vs:List V) (h:ai B F ρ H ds vs):ai B F' ρ' H' ds vs:=ai.aV e.Jl ds vs h
structure Ext (F:Addr->Prop) (ρ:List Addr) (H:Hp) (F':Addr->Prop) (ρ':List Addr) (H':Hp):Prop extends Ext0 F ρ H F' ρ' H' where
 z:∀ a o u,H a=some (.dF o u)->H' a=some (.dF o u)
theorem RD.mono (e:Ext F ρ H F' ρ' H') (d:D) (v:V) (h:RD B F ρ H d v):RD B F' ρ' H' d v:=RD.bx e.toExt0 d v h
theorem ai.mono (e:Ext F ρ H F' ρ' H') (ds:List D) (vs:List V) (h:ai B F ρ H ds vs):ai B F' ρ' H' ds vs:=ai.bx e.toExt0 ds vs h
theorem Ext.trans (a:Ext F ρ H F1 ρ1 H1) (b:Ext F1 ρ1 H1 F' ρ' H'):Ext F ρ H F' ρ' H' where
 s:=a.s
 f:=fun x h=>b.f x (a.f x h)
 h:=fun x h1 h2=>by
  have q:=a.h x h1 h2
  have n1:x∉ρ1:=fun z=>(a.n x z).elim h2 h1
  exact (b.h x (by rw [q];exact h1) n1).trans q
 r:=List.IsPrefix.trans a.r b.r
 n:=fun x hx=>by
  rcases b.n x hx with q | q
  ·exact a.n x q
  ·by_cases hr:x∈ρ
   ·exact .inl hr
   ·refine .inr ?_
    cases hh:H x with
    | none=>rfl
    | some u =>
     have:=a.h x (by rw [hh];simp) hr
     rw [q,hh] at this;cases this
 g:=fun x hx=>by
  rcases b.g x hx with q | q | q
  ·exact a.g x q
  ·by_cases hr:x∈ρ
   ·exact .inr (.inr hr)
   ·refine .inr (.inl ?_)
    cases hh:H x with
    | none=>rfl
    | some u =>
     have:=a.h x (by rw [hh];simp) hr
     rw [q,hh] at this;cases this
  ·rcases a.n x q with z | z
   ·exact .inr (.inr z)
   ·exact .inr (.inl z)
 z:=fun x o u h=>b.z x o u (a.z x o u h)
theorem Ext.refl (s:∀ a∈ρ,¬ F a):Ext F ρ H F ρ H:=⟨⟨s,fun _ h=>h,fun _ _ _=>rfl,List.prefix_refl _,fun _ h=>.inl h,fun _ h=>.inl h⟩,fun _ _ _ h=>h⟩
end
noncomputable def MR (B:Bd) (F:Addr->Prop) (ρ:List Addr) (H:Hp):MO->Addr->Prop
 | .lst ds,a=>∃ vs,H a=some (.lst vs)/\ai B F ρ H ds vs
 | .dct kvs,a=>∃ kws,H a=some (.dK kws)/\kws.map (·.1)=kvs.map (·.1)/\ai B F ρ H (kvs.map (·.2)) (kws.map (·.2))
 | .oj kvs,a=>∃ o kws,H a=some (.dF o (.dK kws))/\kws.map (·.1)=kvs.map (·.1)/\ai B F ρ H (kvs.map (·.2)) (kws.map (·.2))
 | .ins c fs,a=>∃ C dx eZ,B.cls c=some C/\H a=some (.ins C dx eZ)/\eZ.map (·.1)=fs.map (·.1)/\ai B F ρ H (fs.map (·.2)) (eZ.map (·.2))
theorem MR.aV {B:Bd} {F F':Addr->Prop} {ρ ρ':List Addr} {H H':Hp} (e:qu F ρ H F' ρ' H') {a:Addr} (ha:H' a=H a):∀ {o:MO},MR B F ρ H o a->MR B F' ρ' H' o a
 | .lst ds,⟨vs,h1,h2⟩=>⟨vs,ha.trans h1,ai.aV e _ _ h2⟩
 | .dct kvs,⟨kws,h1,h2,h3⟩=>⟨kws,ha.trans h1,h2,ai.aV e _ _ h3⟩
 | .oj kvs,⟨o,kws,h1,h2,h3⟩=>⟨o,kws,ha.trans h1,h2,ai.aV e _ _ h3⟩
 | .ins c fs,⟨C,dx,eZ,h0,h1,h2,h3⟩=>⟨C,dx,eZ,h0,ha.trans h1,h2,ai.aV e _ _ h3⟩
theorem MR.bx {B:Bd} {F F':Addr->Prop} {ρ ρ':List Addr} {H H':Hp} (e:Ext0 F ρ H F' ρ' H') {a:Addr} (ha:H' a=H a) {o:MO} (h:MR B F ρ H o a):MR B F' ρ' H' o a:=h.aV e.Jl ha
theorem MR.mono {B:Bd} {F F':Addr->Prop} {ρ ρ':List Addr} {H H':Hp} (e:Ext F ρ H F' ρ' H') {a:Addr} (ha:H' a=H a) {o:MO} (h:MR B F ρ H o a):MR B F' ρ' H' o a:=h.bx e.toExt0 ha
theorem MR.ne {B:Bd} {F:Addr->Prop} {ρ:List Addr} {H:Hp} {a:Addr}:∀ {o:MO},MR B F ρ H o a->H a≠none
 | .lst ds,⟨vs,h1,h2⟩=>by rw [h1];simp
 | .dct kvs,⟨kws,h1,_⟩=>by rw [h1];simp
 | .oj kvs,⟨o,kws,h1,_⟩=>by rw [h1];simp
 | .ins c fs,⟨C,dx,eZ,_,h1,_⟩=>by rw [h1];simp
structure SR (B:Bd) (F:Addr->Prop) (ρ:List Addr) (M:MH) (H:Hp):Prop where
 len:ρ.length=M.length
 nd:ρ.Nodup
 sep:∀ a∈ρ,¬ F a
 CL:∀ a,F a->H a≠none
 obj:∀ (n:Nat) (a:Addr) (o:MO),ρ[n]? = some a->M[n]? = some o->MR B F ρ H o a
section
variable {B:Bd} {F F' F1:Addr->Prop} {ρ ρ' ρ1:List Addr} {H H' H1:Hp} {M M':MH}
theorem SR.ne (S:SR B F ρ M H) {a:Addr} (h:a∈ρ):H a≠none:=by
 obtain ⟨n,hn,e⟩:=List.mem_iff_getElem.mp h
 have hm:n<M.length:=by rw [<- S.len];exact hn
 exact (S.obj n a M[n] (by rw [List.getElem?_eq_getElem hn,e]) (List.getElem?_eq_getElem hm)).ne
theorem SR.new (S:SR B F ρ M H) {p:Addr} (h:H p=none):p∉ρ/\¬ F p:=⟨fun z=>S.ne z h,fun z=>S.CL p z h⟩
theorem SR.refl (S:SR B F ρ M H):Ext F ρ H F ρ H:=Ext.refl S.sep
theorem SR.fz (S:SR B F ρ M H) {p:Addr} (h:H p=none) (o:HO):SR B (fun a=>F a\/a=p) ρ M (upd H p o)/\Ext F ρ H (fun a=>F a\/a=p) ρ (upd H p o):=by
 obtain ⟨np,nf⟩:=S.new h
 have e:Ext F ρ H (fun a=>F a\/a=p) ρ (upd H p o):=⟨⟨S.sep,fun a q=>.inl q,fun a q _=>aj (by rintro rfl;exact q h),List.prefix_refl _,fun a q=>.inl q,fun a q=>q.elim .inl fun z=>.inr (.inl (z ▸ h))⟩,fun b w u q=>by rw [aj (by rintro rfl;rw [h] at q;cases q)];exact q⟩
 refine ⟨⟨S.len,S.nd,fun a ha z=>?_,fun a z=>?_,fun n a u h1 h2=>?_⟩,e⟩
 ·rcases z with z | z
  ·exact S.sep a ha z
  ·subst z;exact np ha
 ·by_cases q:a=p
  ·subst q;rw [ay];simp
  ·rw [aj q]
   rcases z with z | z
   ·exact S.CL a z
   ·exact absurd z q
 ·have m:=S.obj n a u h1 h2
  exact m.mono e (aj (by rintro rfl;exact m.ne h))
theorem SR.lv (S:SR B F ρ M H) {p:Addr} (h:H p=none) {o:HO} {u:MO} (hu:MR B F (ρ++[p]) (upd H p o) u p):SR B F (ρ++[p]) (M++[u]) (upd H p o)/\Ext F ρ H F (ρ++[p]) (upd H p o):=by
 obtain ⟨np,nf⟩:=S.new h
 have e:Ext F ρ H F (ρ++[p]) (upd H p o):=⟨⟨S.sep,fun a q=>q,fun a q _=>aj (by rintro rfl;exact q h),List.prefix_append _ _,fun a q=>by
  rcases List.mem_append.mp q with q | q
  ·exact .inl q
  ·rw [List.mem_singleton.mp q];exact .inr h,fun _ q=>.inl q⟩,fun b w u q=>by rw [aj (by rintro rfl;rw [h] at q;cases q)];exact q⟩
 refine ⟨⟨by simp [S.len],?_,fun a ha z=>?_,fun a z=>?_,fun n a w h1 h2=>?_⟩,e⟩
 ·rw [List.nodup_append]
  refine ⟨S.nd,by simp,fun a ha b hb=>?_⟩
  rw [List.mem_singleton.mp hb]
  rintro rfl
  exact np ha
 ·rcases List.mem_append.mp ha with q | q
  ·exact S.sep a q z
  ·rw [List.mem_singleton.mp q] at z;exact nf z
 ·have q:a≠p:=by rintro rfl;exact nf z
  rw [aj q];exact S.CL a z
 ·by_cases hn:n<ρ.length
  ·rw [List.getElem?_append_left hn] at h1
   rw [List.getElem?_append_left (by rw [<- S.len];exact hn)] at h2
   have m:=S.obj n a w h1 h2
   exact m.mono e (aj (by rintro rfl;exact m.ne h))
  ·have hn':ρ.length<=n:=Nat.le_of_not_lt hn
   rw [List.getElem?_append_right hn'] at h1
   rw [List.getElem?_append_right (by rw [<- S.len];exact hn'),<- S.len] at h2
   cases k:n-ρ.length with
   | zero =>
    rw [k] at h1 h2
    cases h1;cases h2
    exact hu
   | succ j=>rw [k] at h1;simp at h1
theorem SR.jx (S:SR B F ρ M H) {n:Nat} {a:Addr} {o:HO} {u:MO} (hn:ρ[n]? = some a) (hu:MR B F ρ (upd H a o) u a):SR B F ρ (M.set n u) (upd H a o)/\Ext0 F ρ H F ρ (upd H a o):=by
 have ha:a∈ρ:=List.mem_of_getElem? hn
 have e:Ext0 F ρ H F ρ (upd H a o):=⟨S.sep,fun _ q=>q,fun b q nb=>aj (by rintro rfl;exact nb ha),List.prefix_refl _,fun _ q=>.inl q,fun _ q=>.inl q⟩
 refine ⟨⟨by simp [S.len],S.nd,S.sep,fun b z=>?_,fun m b w h1 h2=>?_⟩,e⟩
 ·have q:b≠a:=by rintro rfl;exact S.sep b ha z
  rw [aj q];exact S.CL b z
 ·by_cases q:m=n
  ·subst q
   rw [hn] at h1;cases h1
   rw [List.getElem?_set] at h2
   split at h2
   ·split at h2
    ·cases h2;exact hu
    ·cases h2
   ·rename_i z;exact absurd rfl z
  ·rw [List.getElem?_set_ne (Ne.symm q)] at h2
   have ne:b≠a:=by
    rintro rfl
    obtain ⟨m1,e1⟩:=List.getElem?_eq_some_iff.mp h1
    obtain ⟨m2,e2⟩:=List.getElem?_eq_some_iff.mp hn
    exact q ((List.getElem_inj S.nd).mp (e1.trans e2.symm))
   exact (S.obj m b w h1 h2).bx e (aj ne)
theorem SR.st (S:SR B F ρ M H) {n:Nat} {a:Addr} {o:HO} {u:MO} (hn:ρ[n]? = some a) (hz:∀ w v,H a≠some (.dF w v)) (hu:MR B F ρ (upd H a o) u a):SR B F ρ (M.set n u) (upd H a o)/\Ext F ρ H F ρ (upd H a o) :=
 ⟨(S.jx hn hu).1,⟨(S.jx hn hu).2,fun b w v q=>by rw [aj (by rintro rfl;exact hz w v q)];exact q⟩⟩
theorem Ext0.at_ (S:SR B F ρ M H) {n:Nat} {a:Addr} {o:HO} (hn:ρ[n]? = some a):Ext0 F ρ H F ρ (upd H a o) :=
 ⟨S.sep,fun _ q=>q,fun b q nb=>aj (by rintro rfl;exact nb (List.mem_of_getElem? hn)),List.prefix_refl _,fun _ q=>.inl q,fun _ q=>.inl q⟩
theorem qu.side {D:Addr} (hF:¬ F D) (o:HO):qu F ρ H F ρ (upd H D o):=⟨fun _ h=>h,fun a fa _=>aj (by rintro rfl;exact hF fa),List.prefix_refl _⟩
theorem SR.side (S:SR B F ρ M H) {D:Addr} (hD:D∉ρ) (hF:¬ F D) (o:HO):SR B F ρ M (upd H D o) :=
 ⟨S.len,S.nd,S.sep,fun a fa=>by rw [aj (by rintro rfl;exact hF fa)];exact S.CL a fa,fun n a w h1 h2=>(S.obj n a w h1 h2).aV (qu.side hF o) (aj (by rintro rfl;exact hD (List.mem_of_getElem? h1)))⟩
theorem SR.take (S:SR B F ρ M H) {D:Addr} (hD:D∉ρ) (hn:H D≠none):SR B (fun a=>F a\/a=D) ρ M H :=
 ⟨S.len,S.nd,fun a ha z=>z.elim (S.sep a ha) fun e=>hD (e ▸ ha),fun a z=>z.elim (S.CL a) fun e=>e ▸ hn,fun n a w h1 h2=>(S.obj n a w h1 h2).aV ⟨fun _ h=>.inl h,fun _ _ _=>rfl,List.prefix_refl _⟩ rfl⟩
theorem SR.hold (S:SR B F ρ M H) {D:Addr} {u:MO} (hD:D∉ρ) (hF:¬ F D) (hu:MR B F (ρ++[D]) H u D):SR B F (ρ++[D]) (M++[u]) H:=by
 refine ⟨by simp [S.len],?_,fun a ha z=>?_,S.CL,fun n a w h1 h2=>?_⟩
 ·rw [List.nodup_append]
  refine ⟨S.nd,by simp,fun a ha b hb=>?_⟩
  rw [List.mem_singleton.mp hb]
  rintro rfl
  exact hD ha
 ·rcases List.mem_append.mp ha with q | q
  ·exact S.sep a q z
  ·rw [List.mem_singleton.mp q] at z;exact hF z
 ·by_cases hn:n<ρ.length
  ·rw [List.getElem?_append_left hn] at h1
   rw [List.getElem?_append_left (by rw [<- S.len];exact hn)] at h2
   exact (S.obj n a w h1 h2).aV ⟨fun _ h=>h,fun _ _ _=>rfl,List.prefix_append _ _⟩ rfl
  ·have hn':ρ.length<=n:=Nat.le_of_not_lt hn
   rw [List.getElem?_append_right hn'] at h1
   rw [List.getElem?_append_right (by rw [<- S.len];exact hn'),<- S.len] at h2
   cases k:n-ρ.length with
   | zero =>
    rw [k] at h1 h2
    cases h1;cases h2
    exact hu
   | succ j=>rw [k] at h1;simp at h1
theorem SR.wk (S:SR B F ρ M H) {n:Nat} {a:Addr} {kvs:List (Ky×D)} {kws:List (Key×V)} (o:Obj) (hn:ρ[n]? = some a) (hM:M[n]? = some (.dct kvs)) (hH:H a=some (.dK kws)) :
  SR B F ρ (M.set n (.oj kvs)) (upd H a (.dF o (.dK kws)))/\Ext F ρ H F ρ (upd H a (.dF o (.dK kws))):=by
 obtain ⟨kws',h1,h2,h3⟩:=S.obj n a _ hn hM
 rw [hH] at h1;cases h1
 exact S.st (o:=.dF o (.dK kws)) (u:=.oj kvs) hn (fun w v q=>by rw [hH] at q;cases q) ⟨o,kws,ay,h2,ai.bx (Ext0.at_ S hn) _ _ h3⟩
theorem SR.uw (S:SR B F ρ M H) {n:Nat} {a:Addr} {kvs:List (Ky×D)} (hn:ρ[n]? = some a) (hM:M[n]? = some (.oj kvs)):∃ o kws,H a=some (.dF o (.dK kws)) /\
  SR B F ρ (M.set n (.dct kvs)) (upd H a (.dK kws)):=by
 obtain ⟨o,kws,h1,h2,h3⟩:=S.obj n a _ hn hM
 exact ⟨o,kws,h1,(S.jx (o:=.dK kws) (u:=.dct kvs) hn ⟨kws,ay,h2,ai.bx (Ext0.at_ S hn) _ _ h3⟩).1⟩
theorem Ext.thaw (e:Ext F ρ H F' ρ' H') {a:Addr} {o:HO} (ha:a∈ρ') (hn:∀ w v,H a≠some (.dF w v)) (hF:∀ b∈ρ',¬ F' b):Ext F ρ H F' ρ' (upd H' a o) :=
 ⟨⟨e.s,e.f,fun b q nb=>by
  by_cases hb:b=a
  ·subst hb
   rcases e.n b ha with z | z
   ·exact absurd z nb
   ·exact absurd z q
  ·rw [aj hb];exact e.h b q nb,e.r,e.n,e.g⟩,fun b w v q=>by rw [aj (by rintro rfl;exact hn w v q)];exact e.z b w v q⟩
end
section
variable {B:Bd} {F F' F1:Addr->Prop} {ρ ρ' ρ1:List Addr} {H H' H1:Hp} {M M':MH}
theorem ai.length:∀ {ds:List D} {vs:List V},ai B F ρ H ds vs->ds.length=vs.length
 | [],vs,h=>by simp only [ai] at h;subst h;rfl
 | d::ds,vs,h=>by
  simp only [ai] at h
  obtain ⟨v,ws,rfl,_,h3⟩:=h
  simp [ai.length h3]
theorem ai.cons {d:D} {v:V} {ds:List D} {vs:List V} (h:RD B F ρ H d v) (t:ai B F ρ H ds vs):ai B F ρ H (d::ds) (v::vs):=by
 simp only [ai];exact ⟨v,vs,rfl,h,t⟩
theorem ai.nil:ai B F ρ H [] []:=by simp only [ai]
theorem ai.append:∀ {ds es:List D} {vs ws:List V},ai B F ρ H ds vs->ai B F ρ H es ws->ai B F ρ H (ds++es) (vs++ws)
 | [],es,vs,ws,h,t=>by simp only [ai] at h;subst h;exact t
 | d::ds,es,vs,ws,h,t=>by
  simp only [ai] at h
  obtain ⟨v,us,rfl,h2,h3⟩:=h
  exact ai.cons h2 (ai.append h3 t)
theorem ai.get:∀ {ds:List D} {vs:List V} {i:Nat} {d:D},ai B F ρ H ds vs->ds[i]? = some d->∃ v,vs[i]? = some v/\RD B F ρ H d v
 | [],vs,i,d,h,e=>by simp at e
 | d::ds,vs,i,d',h,e=>by
  simp only [ai] at h
  obtain ⟨v,ws,rfl,h2,h3⟩:=h
  cases i with
  | zero=>simp at e;subst e;exact ⟨v,rfl,h2⟩
  | succ i=>simp at e;simpa using ai.get (i:=i) h3 e
theorem ai.take:∀ {ds:List D} {vs:List V} (n:Nat),ai B F ρ H ds vs->ai B F ρ H (ds.take n) (vs.take n)
 | [],vs,n,h=>by simp only [ai] at h;subst h;simp [ai]
 | d::ds,vs,n,h=>by
  simp only [ai] at h
  obtain ⟨v,ws,rfl,h2,h3⟩:=h
  cases n with
  | zero=>simp [ai]
  | succ n=>simp only [List.take_succ_cons];exact ai.cons h2 (ai.take n h3)
theorem ai.drop:∀ {ds:List D} {vs:List V} (n:Nat),ai B F ρ H ds vs->ai B F ρ H (ds.drop n) (vs.drop n)
 | [],vs,n,h=>by simp only [ai] at h;subst h;simp [ai]
 | d::ds,vs,n,h=>by
  cases n with
  | zero=>exact h
  | succ n =>
   simp only [ai] at h
   obtain ⟨v,ws,rfl,h2,h3⟩:=h
   simp only [List.drop_succ_cons];exact ai.drop n h3
theorem ai.set:∀ {ds:List D} {vs:List V} {d:D} {v:V} (i:Nat),ai B F ρ H ds vs->RD B F ρ H d v->ai B F ρ H (ds.set i d) (vs.set i v)
 | [],vs,d,v,i,h,q=>by simp only [ai] at h;subst h;simp [ai]
 | e::ds,vs,d,v,i,h,q=>by
  simp only [ai] at h
  obtain ⟨u,ws,rfl,h2,h3⟩:=h
  cases i with
  | zero=>simp only [List.set_cons_zero];exact ai.cons q h3
  | succ i=>simp only [List.set_cons_succ];exact ai.cons h2 (ai.set i h3 q)
mutual
theorem RD.nr:∀ {d:D} {v:V},RD B F ρ H d v->nr ρ.length d=true
 | .ao,v,h=>by simp [Fg.nr]
 | .bl _,v,h=>by simp [Fg.nr]
 | .int _,v,h=>by simp [Fg.nr]
 | .str _,v,h=>by simp [Fg.nr]
 | .tup ds,v,h=>by simp only [RD] at h;obtain ⟨a,vs,h1,h2,h3⟩:=h;simp only [Fg.nr];exact ai.nr h3
 | .lst ds,v,h=>by simp only [RD] at h;obtain ⟨a,vs,h1,h2,h3⟩:=h;simp only [Fg.nr];exact ai.nr h3
 | .dct ks ds,v,h=>by simp only [RD] at h;obtain ⟨a,vs,h1,h2,_,h3⟩:=h;simp only [Fg.nr];exact ai.nr h3
 | .ref n,v,h=>by
  simp only [RD] at h;obtain ⟨a,h1,h2⟩:=h;simp only [Fg.nr]
  obtain ⟨q,_⟩:=List.getElem?_eq_some_iff.mp h1
  exact decide_eq_true q
 | .iP _,v,h=>by simp [Fg.nr]
theorem ai.nr:∀ {ds:List D} {vs:List V},ai B F ρ H ds vs->qZ ρ.length ds=true
 | [],vs,h=>by simp [qZ]
 | d::ds,vs,h=>by
  simp only [ai] at h
  obtain ⟨v,ws,rfl,h2,h3⟩:=h
  simp only [qZ,RD.nr h2,ai.nr h3,Bool.and_self]
end
mutual
theorem RD.cut (hp:ρ <+: ρ'):∀ {d:D} {v:V},Fg.nr ρ.length d=true->RD B F ρ' H d v->RD B F ρ H d v
 | .ao,v,_,h=>h
 | .bl _,v,_,h=>h
 | .int _,v,_,h=>h
 | .str _,v,_,h=>h
 | .tup ds,v,q,h=>by
  simp only [Fg.nr] at q;simp only [RD] at h ⊢
  obtain ⟨a,vs,h1,h2,h3⟩:=h
  exact ⟨a,vs,h1,h2,ai.cut hp q h3⟩
 | .lst ds,v,q,h=>by
  simp only [Fg.nr] at q;simp only [RD] at h ⊢
  obtain ⟨a,vs,h1,h2,h3⟩:=h
  exact ⟨a,vs,h1,h2,ai.cut hp q h3⟩
 | .dct ks ds,v,q,h=>by
  simp only [Fg.nr] at q;simp only [RD] at h ⊢
  obtain ⟨a,vs,h1,h2,h4,h3⟩:=h
  exact ⟨a,vs,h1,h2,h4,ai.cut hp q h3⟩
 | .ref n,v,q,h=>by
  simp only [Fg.nr] at q;simp only [RD] at h ⊢
  obtain ⟨a,h1,h2⟩:=h
  obtain ⟨t,rfl⟩:=hp
  rw [List.getElem?_append_left (of_decide_eq_true q)] at h1
  exact ⟨a,h1,h2⟩
 | .iP _,v,_,h=>h
theorem ai.cut (hp:ρ <+: ρ'):∀ {ds:List D} {vs:List V},qZ ρ.length ds=true->ai B F ρ' H ds vs->ai B F ρ H ds vs
 | [],vs,_,h=>h
 | d::ds,vs,q,h=>by
  simp only [qZ,Bool.and_eq_true] at q;simp only [ai] at h ⊢
  obtain ⟨v,ws,rfl,h2,h3⟩:=h
  exact ⟨v,ws,rfl,RD.cut hp q.1 h2,ai.cut hp q.2 h3⟩
end
theorem MR.cut (hp:ρ <+: ρ') {a:Addr} {F0:Addr->Prop} {H0:Hp} {a0:Addr}:∀ {o:MO},MR B F0 ρ H0 o a0->MR B F ρ' H o a->MR B F ρ H o a
 | .lst ds,⟨_,_,k⟩,⟨vs,h1,h2⟩=>⟨vs,h1,ai.cut hp (ai.nr k) h2⟩
 | .dct kvs,⟨_,_,_,k⟩,⟨kws,h1,h2,h3⟩=>⟨kws,h1,h2,ai.cut hp (ai.nr k) h3⟩
 | .oj kvs,⟨_,_,_,_,k⟩,⟨o,kws,h1,h2,h3⟩=>⟨o,kws,h1,h2,ai.cut hp (ai.nr k) h3⟩
 | .ins c fs,⟨_,_,_,_,_,_,k⟩,⟨C,dx,eZ,h0,h1,h2,h3⟩=>⟨C,dx,eZ,h0,h1,h2,ai.cut hp (ai.nr k) h3⟩
theorem SR.cut (S:SR B F ρ M H) (S':SR B F' ρ' M' H') (e:Ext F ρ H F' ρ' H') (hm:M'.take M.length=M):SR B F' ρ M H' where
 len:=S.len
 nd:=S.nd
 sep:=fun a ha=>S'.sep a (e.r.subset ha)
 CL:=S'.CL
 obj:=fun n a o h1 h2=>by
  have m':M'[n]? = some o:=by
   rw [<- hm] at h2
   rw [List.getElem?_take] at h2
   split at h2
   ·exact h2
   ·cases h2
  exact MR.cut e.r (S.obj n a o h1 h2) (S'.obj n a o (e.at h1) m')
theorem Ext.cut (e:Ext F ρ H F' ρ' H'):Ext F ρ H F' ρ H':=⟨⟨e.s,e.f,e.h,List.prefix_refl _,fun _ h=>.inl h,e.g⟩,e.z⟩
end
end Fg
end
section
namespace Fg
open PySem L2
noncomputable def AI (th:Addr->Prop) (H H':Hp):Prop:=H'=H\/∃ a o kvs,th a/\H a=some (.dF o (.dK kvs))/\H'=upd H a (.dK kvs)
noncomputable abbrev XS:=Value->Option Addr->St->Hp->Prop
structure Gx where
 e:XS
 th:Addr->Prop
 cl:∀ cv x σ H H',AI th H H'->e cv x σ H'->e cv x σ H
noncomputable def ah {α β:Type} (rel:(Addr->Prop)->List Addr->Hp->α->β->Prop) (B:Bd) (r:R α) (F:Addr->Prop) (ρ:List Addr) (H:Hp) (Q:β->Hp->Prop) (E:XK):Prop :=
 match r with
 | .ok d M'=>∀ F' ρ' H' v,Ext F ρ H F' ρ' H'->SR B F' ρ' M' H'->rel F' ρ' H' d v->Q v H'
 | .exc c M'=>∀ F' ρ' H' cv x,Ext F ρ H F' ρ' H'->SR B F' ρ' M' H'->B.exc c cv->E cv x H'
 | .bad=>False
noncomputable abbrev Post (B:Bd):=ah (RD B) B
noncomputable abbrev L5 (B:Bd):=ah (ai B) B
section
variable {B:Bd} {F F' F1:Addr->Prop} {ρ ρ' ρ1:List Addr} {H H' H1:Hp} {M M':MH} {E:XK}
theorem ah.weak {α β:Type} {rel:(Addr->Prop)->List Addr->Hp->α->β->Prop} {r:R α} {Q:β->Hp->Prop} (e:Ext F ρ H F1 ρ1 H1) (h:ah rel B r F ρ H Q E):ah rel B r F1 ρ1 H1 Q E:=by
 cases r with
 | ok d M'=>exact fun F' ρ' H' v e' S r=>h F' ρ' H' v (e.trans e') S r
 | exc c M'=>exact fun F' ρ' H' cv x e' S r=>h F' ρ' H' cv x (e.trans e') S r
 | bad=>exact h
theorem ah.imp {α β:Type} {rel:(Addr->Prop)->List Addr->Hp->α->β->Prop} {r:R α} {Q Q':β->Hp->Prop} (h:ah rel B r F ρ H Q E) (k:∀ v H',Q v H'->Q' v H'):ah rel B r F ρ H Q' E:=by
 cases r with
 | ok d M'=>exact fun F' ρ' H' v e' S r=>k _ _ (h F' ρ' H' v e' S r)
 | exc c M'=>exact h
 | bad=>exact h
theorem ah.bind {α β α' β':Type} {rel:(Addr->Prop)->List Addr->Hp->α->β->Prop} {rel':(Addr->Prop)->List Addr->Hp->α'->β'->Prop} {x:R α} {f:α->MH->R α'} {Q:β'->Hp->Prop} (h:ah rel' B (x.bind f) F ρ H Q E) :
  ah rel B x F ρ H (fun v H'=>∃ d M' F' ρ',Ext F ρ H F' ρ' H'/\SR B F' ρ' M' H'/\rel F' ρ' H' d v/\ah rel' B (f d M') F' ρ' H' Q E) E:=by
 cases x with
 | ok d M'=>exact fun F' ρ' H' v e S r=>⟨d,M',F',ρ',e,S,r,ah.weak e h⟩
 | exc c M'=>exact h
 | bad=>exact h
theorem ah.run {α β:Type} {rel:(Addr->Prop)->List Addr->Hp->α->β->Prop} {d:α} {Q:β->Hp->Prop} {v:β} (h:ah rel B (.ok d M) F ρ H Q E) (S:SR B F ρ M H) (r:rel F ρ H d v):Q v H :=
 h F ρ H v S.refl S r
end
structure RS (B:Bd) (F:Addr->Prop) (ρ:List Addr) (H:Hp) (σD:Sg) (σ:St):Prop where
 len:σ.length=σD.length
 get:∀ (i:Nat) (d:D),σD[i]? = some (some d)->∃ v,σ[i]? = some (some v)/\RD B F ρ H d v
section
variable {B:Bd} {F F' F1:Addr->Prop} {ρ ρ' ρ1:List Addr} {H H' H1:Hp} {M M':MH} {σD:Sg} {σ:St}
theorem RS.mono (e:Ext F ρ H F' ρ' H') (h:RS B F ρ H σD σ):RS B F' ρ' H' σD σ :=
 ⟨h.len,fun i d q=>let ⟨v,h1,h2⟩:=h.get i d q;⟨v,h1,RD.mono e d v h2⟩⟩
theorem RS.set (h:RS B F ρ H σD σ) {d:D} {v:V} (r:RD B F ρ H d v) (i:Nat):RS B F ρ H (σD.set i (some d)) (σ.set i (some v)):=by
 refine ⟨by simp [h.len],fun j d' q=>?_⟩
 rw [List.getElem?_set] at q ⊢
 split at q
 ·rename_i e
  split at q
  ·rename_i l
   cases q
   refine ⟨v,?_,r⟩
   rw [if_pos e,if_pos (by rw [h.len];exact l)]
  ·cases q
 ·rename_i e
  rw [if_neg e]
  exact h.get j d' q
end
noncomputable def T (B:Bd) (Φ:aL) (E:Gx) (c:Fg.E):TE:=fun σ H Q=>∃ (σD:Sg) (M:MH) (F:Addr->Prop) (ρ:List Addr),
 SR B F ρ M H/\RS B F ρ H σD σ/\Post B (ev Φ c σD M) F ρ H Q (fun cv x H'=>E.e cv x σ H')
noncomputable def TB (B:Bd) (Φ:aL) (E:Gx) (c:Fg.E):TT:=fun σ H Q=>T B Φ E c σ H fun v H'=>∃ b,v=.bl b/\Q b H'
noncomputable def TL (B:Bd) (Φ:aL) (E:Gx) (c:Es):TA:=fun σ H Q=>∃ (σD:Sg) (M:MH) (F:Addr->Prop) (ρ:List Addr),
 SR B F ρ M H/\RS B F ρ H σD σ/\L5 B (bX Φ c σD M) F ρ H Q (fun cv x H'=>E.e cv x σ H')
noncomputable def TP (B:Bd) (Φ:aL) (E:Gx) (c:O):TO:=fun σ H Q=>∃ (σD:Sg) (M:MH) (F:Addr->Prop) (ρ:List Addr),
 SR B F ρ M H/\RS B F ρ H σD σ/\ah (fun _ _ _ (a b:Option Int)=>a=b) B (CS Φ c σD M) F ρ H Q (fun cv x H'=>E.e cv x σ H')
section
variable {B:Bd} {Φ:aL} {E:Gx} {F F' F1:Addr->Prop} {ρ ρ' ρ1:List Addr} {H H' H1:Hp} {M M':MH} {σD:Sg} {σ:St} {Q:VK}
theorem T.one {a:Fg.E} {g:D->MH->R D} {W:V->Hp->Prop} {X:XK} (S:SR B F ρ M H) (r:RS B F ρ H σD σ) (hX:X=fun cv x H'=>E.e cv x σ H') (h:Post B ((ev Φ a σD M).bind g) F ρ H Q X)
  (k:∀ x M1 F1 ρ1 H1 v,Ext F ρ H F1 ρ1 H1->SR B F1 ρ1 M1 H1->RS B F1 ρ1 H1 σD σ->RD B F1 ρ1 H1 x v->Post B (g x M1) F1 ρ1 H1 Q X->W v H1):T B Φ E a σ H W:=by
 subst hX
 refine ⟨σD,M,F,ρ,S,r,ah.imp (ah.bind (rel:=RD B) h) fun v H1 ⟨x,M1,F1,ρ1,e,S1,rx,h1⟩=>?_⟩
 exact k x M1 F1 ρ1 H1 v e S1 (r.mono e) rx h1
theorem T.two {a b:Fg.E} {g:D->D->MH->R D} {W:V->V->Hp->Prop} {X:XK} (S:SR B F ρ M H) (r:RS B F ρ H σD σ) (hX:X=fun cv x H'=>E.e cv x σ H')
  (h:Post B ((ev Φ a σD M).bind fun x M1=>(ev Φ b σD M1).bind fun y M2=>g x y M2) F ρ H Q X)
  (k:∀ x y M2 F2 ρ2 H2 v w,SR B F2 ρ2 M2 H2->RS B F2 ρ2 H2 σD σ->RD B F2 ρ2 H2 x v->RD B F2 ρ2 H2 y w->Post B (g x y M2) F2 ρ2 H2 Q X->W v w H2) :
  T B Φ E a σ H fun v H1=>T B Φ E b σ H1 fun w H2=>W v w H2:=by
 refine T.one S r hX h fun x M1 F1 ρ1 H1 v e1 S1 r1 rx h1=>?_
 refine T.one S1 r1 hX h1 fun y M2 F2 ρ2 H2 w e2 S2 r2 ry h2=>?_
 exact k x y M2 F2 ρ2 H2 v w S2 r2 (RD.mono e2 _ _ rx) ry h2
theorem TL.one {a:Es} {g:List D->MH->R D} {W:List V->Hp->Prop} {X:XK} (S:SR B F ρ M H) (r:RS B F ρ H σD σ) (hX:X=fun cv x H'=>E.e cv x σ H') (h:Post B ((bX Φ a σD M).bind g) F ρ H Q X)
  (k:∀ x M1 F1 ρ1 H1 v,Ext F ρ H F1 ρ1 H1->SR B F1 ρ1 M1 H1->RS B F1 ρ1 H1 σD σ->ai B F1 ρ1 H1 x v->Post B (g x M1) F1 ρ1 H1 Q X->W v H1):TL B Φ E a σ H W:=by
 subst hX
 refine ⟨σD,M,F,ρ,S,r,ah.imp (ah.bind (rel:=ai B) h) fun v H1 ⟨x,M1,F1,ρ1,e,S1,rx,h1⟩=>?_⟩
 exact k x M1 F1 ρ1 H1 v e S1 (r.mono e) rx h1
theorem DM {i:Nat} (h:T B Φ E (.v i) σ H Q):AW i σ H Q:=by
 obtain ⟨σD,M,F,ρ,S,r,h⟩:=h
 simp only [ev] at h
 split at h
 ·rename_i d hd
  obtain ⟨v,h1,h2⟩:=r.get _ _ hd
  exact ⟨v,h1,ah.run h S h2⟩
 ·exact h.elim
noncomputable def scl:D->Option V
 | .ao=>some .ao
 | .bl b=>some (.bl b)
 | .int i=>some (.int i)
 | .str x=>some (.str x)
 | _=>none
theorem Fx {d:D} {v:V} (h:scl d=some v):RD B F ρ H d v:=by
 cases d <;> simp only [scl] at h <;> first | (cases h;simp only [RD]) | cases h
theorem sZ {d:D} {v:V} (hv:scl d=some v) (h:T B Φ E (.k d) σ H Q):tC v σ H Q:=by
 obtain ⟨σD,M,F,ρ,S,r,h⟩:=h
 simp only [ev] at h
 exact ah.run h S (Fx hv)
theorem dR {fz:Bool} {ds:List D} {vs:List V} {X:XK} (S:SR B F ρ M H) (h:Post B (b7 fz ds M) F ρ H Q X) (r:ai B F ρ H ds vs):∀ p,H p=none->Q (.ref p) (upd H p (.lst vs)):=by
 intro p hp
 cases fz with
 | true =>
  simp only [b7,if_true] at h
  obtain ⟨S',e⟩:=S.fz hp (.lst vs)
  refine h _ _ _ _ e S' ?_
  simp only [RD]
  exact ⟨p,vs,rfl,.inl ⟨.inr rfl,.inl ay⟩,ai.mono e _ _ r⟩
 | false =>
  simp only [b7,Bool.false_eq_true,if_false] at h
  have e0:Ext F ρ H F (ρ++[p]) (upd H p (.lst vs)):=⟨⟨S.sep,fun _ q=>q,fun a q _=>aj (by rintro rfl;exact q hp),List.prefix_append _ _,fun a q=>by
   rcases List.mem_append.mp q with q | q
   ·exact .inl q
   ·rw [List.mem_singleton.mp q];exact .inr hp,fun _ q=>.inl q⟩,fun b w u q=>by rw [aj (by rintro rfl;rw [hp] at q;cases q)];exact q⟩
  obtain ⟨S',e⟩:=S.lv (o:=.lst vs) (u:=.lst ds) hp ⟨vs,ay,ai.mono e0 _ _ r⟩
  refine h _ _ _ _ e S' ?_
  simp only [RD]
  refine ⟨p,?_,rfl⟩
  rw [<- S.len,List.getElem?_append_right (Nat.le_refl _),Nat.sub_self];rfl
theorem jL {ds:List D} {vs:List V} {X:XK} (S:SR B F ρ M H) (h:Post B (.ok (.tup ds) M) F ρ H Q X) (r:ai B F ρ H ds vs):∀ p,H p=none->Q (.ref p) (upd H p (.tup vs)):=by
 intro p hp
 obtain ⟨S',e⟩:=S.fz hp (.tup vs)
 refine h _ _ _ _ e S' ?_
 simp only [RD]
 exact ⟨p,vs,rfl,.inl ⟨.inr rfl,.inl ay⟩,ai.mono e _ _ r⟩
theorem Bf {es:Es} (hz:∀ {σ:Sg} {M:MH} {ds M'},bX Φ es σ M=.ok ds M'->ds.length<=sizeLine) (h:T B Φ E (.tup es) σ H Q):JA (TL B Φ E es) σ H Q:=by
 obtain ⟨σD,M,F,ρ,S,r,h⟩:=h
 simp only [ev] at h
 refine ⟨σD,M,F,ρ,S,r,?_⟩
 cases hx:bX Φ es σD M with
 | ok ds M1 =>
  rw [hx] at h
  intro F1 ρ1 H1 vs e S1 rv
  refine ⟨by rw [<- ai.length rv];exact hz hx,jL (X:=fun cv x H'=>E.e cv x σ H') S1 (ah.weak e h) rv⟩
 | exc c M1=>rw [hx] at h;exact h
 | bad=>rw [hx] at h;exact h
theorem Br {fz:Bool} {es:Es} (hz:∀ {σ:Sg} {M:MH} {ds M'},bX Φ es σ M=.ok ds M'->ds.length<=sizeLine) (h:T B Φ E (.lst fz es) σ H Q):JF (TL B Φ E es) σ H Q:=by
 obtain ⟨σD,M,F,ρ,S,r,h⟩:=h
 simp only [ev] at h
 refine ⟨σD,M,F,ρ,S,r,?_⟩
 cases hx:bX Φ es σD M with
 | ok ds M1 =>
  rw [hx] at h
  intro F1 ρ1 H1 vs e S1 rv
  refine ⟨by rw [<- ai.length rv];exact hz hx,dR (X:=fun cv x H'=>E.e cv x σ H') S1 (ah.weak e h) rv⟩
 | exc c M1=>rw [hx] at h;exact h
 | bad=>rw [hx] at h;exact h
theorem gf {Q:List V->Hp->Prop} (h:TL B Φ E .nil σ H Q):iR σ H Q:=by
 obtain ⟨σD,M,F,ρ,S,r,h⟩:=h
 simp only [bX] at h
 exact ah.run h S ai.nil
theorem oQ {e:Fg.E} {es:Es} {Q:List V->Hp->Prop} (h:TL B Φ E (.cons e es) σ H Q):dc (T B Φ E e) (TL B Φ E es) σ H Q:=by
 obtain ⟨σD,M,F,ρ,S,r,h⟩:=h
 simp only [bX] at h
 refine ⟨σD,M,F,ρ,S,r,ah.imp (ah.bind (rel:=RD B) h) fun v H1 ⟨x,M1,F1,ρ1,e1,S1,rx,h1⟩=>?_⟩
 refine ⟨σD,M1,F1,ρ1,S1,r.mono e1,ah.imp (ah.bind (rel:=ai B) h1) fun vs H2 ⟨xs,M2,F2,ρ2,e2,S2,rxs,h2⟩=>?_⟩
 exact ah.run h2 S2 (ai.cons (RD.mono e2 _ _ rx) rxs)
theorem tF {a b:Fg.E} (h:T B Φ E (.and a b) σ H Q):DJ (T B Φ E a) (T B Φ E b) σ H Q:=by
 obtain ⟨σD,M,F,ρ,S,r,h⟩:=h
 simp only [ev] at h
 refine T.one S r rfl h fun x M1 F1 ρ1 H1 v e1 S1 r1 rx h1=>?_
 split at h1
 ·simp only [RD] at rx;subst rx
  exact ⟨true,rfl,by rw [if_pos rfl];exact ⟨σD,M1,F1,ρ1,S1,r1,h1⟩⟩
 ·simp only [RD] at rx;subst rx
  exact ⟨false,rfl,by rw [if_neg Bool.false_ne_true];exact ah.run h1 S1 (by simp only [RD])⟩
 ·exact h1.elim
theorem xx {a b:Fg.E} (h:T B Φ E (.or a b) σ H Q):JD (T B Φ E a) (T B Φ E b) σ H Q:=by
 obtain ⟨σD,M,F,ρ,S,r,h⟩:=h
 simp only [ev] at h
 refine T.one S r rfl h fun x M1 F1 ρ1 H1 v e1 S1 r1 rx h1=>?_
 split at h1
 ·simp only [RD] at rx;subst rx
  exact ⟨true,rfl,by rw [if_pos rfl];exact ah.run h1 S1 (by simp only [RD])⟩
 ·simp only [RD] at rx;subst rx
  exact ⟨false,rfl,by rw [if_neg Bool.false_ne_true];exact ⟨σD,M1,F1,ρ1,S1,r1,h1⟩⟩
 ·exact h1.elim
theorem sX {a:Fg.E} (h:T B Φ E (.not a) σ H Q):DF (T B Φ E a) σ H Q:=by
 obtain ⟨σD,M,F,ρ,S,r,h⟩:=h
 simp only [ev] at h
 refine T.one S r rfl h fun x M1 F1 ρ1 H1 v e1 S1 r1 rx h1=>?_
 split at h1
 ·simp only [RD] at rx;subst rx
  exact ⟨_,rfl,ah.run h1 S1 (by simp only [RD])⟩
 ·exact h1.elim
theorem xA {a b:Fg.E} {Q:Bool->Hp->Prop} (h:TB B Φ E (.and a b) σ H Q):JK (TB B Φ E a) (TB B Φ E b) σ H Q:=by
 have h':=tF h
 obtain ⟨σD,M,F,ρ,S,r,h⟩:=h'
 refine ⟨σD,M,F,ρ,S,r,ah.imp h fun v H' ⟨c,e,q⟩=>⟨c,e,?_⟩⟩
 cases c with
 | true=>rw [if_pos rfl] at q ⊢;exact q
 | false=>rw [if_neg Bool.false_ne_true] at q ⊢;obtain ⟨b,e,q⟩:=q;cases e;exact q
theorem BC {a b:Fg.E} {Q:Bool->Hp->Prop} (h:TB B Φ E (.or a b) σ H Q):tOr (TB B Φ E a) (TB B Φ E b) σ H Q:=by
 have h':=xx h
 obtain ⟨σD,M,F,ρ,S,r,h⟩:=h'
 refine ⟨σD,M,F,ρ,S,r,ah.imp h fun v H' ⟨c,e,q⟩=>⟨c,e,?_⟩⟩
 cases c with
 | true=>rw [if_pos rfl] at q ⊢;obtain ⟨b,e,q⟩:=q;cases e;exact q
 | false=>rw [if_neg Bool.false_ne_true] at q ⊢;exact q
theorem xy {a:Fg.E} {Q:Bool->Hp->Prop} (h:TB B Φ E (.not a) σ H Q):JE (TB B Φ E a) σ H Q:=by
 have h':=sX h
 obtain ⟨σD,M,F,ρ,S,r,h⟩:=h'
 refine ⟨σD,M,F,ρ,S,r,ah.imp h fun v H' ⟨c,e,q⟩=>⟨c,e,?_⟩⟩
 obtain ⟨b,e,q⟩:=q;cases e;exact q
theorem Bw {c a b:Fg.E} (h:T B Φ E (.AF c a b) σ H Q):tIf (TB B Φ E c) (T B Φ E a) (T B Φ E b) σ H Q:=by
 obtain ⟨σD,M,F,ρ,S,r,h⟩:=h
 simp only [ev] at h
 refine T.one S r rfl h fun x M1 F1 ρ1 H1 v e1 S1 r1 rx h1=>?_
 split at h1
 ·simp only [RD] at rx;subst rx
  exact ⟨true,rfl,by dsimp only;rw [if_pos rfl];exact ⟨σD,M1,F1,ρ1,S1,r1,h1⟩⟩
 ·simp only [RD] at rx;subst rx
  exact ⟨false,rfl,by dsimp only;rw [if_neg Bool.false_ne_true];exact ⟨σD,M1,F1,ρ1,S1,r1,h1⟩⟩
 ·exact h1.elim
theorem bA {d:D} {v:V} {ds:List D} (S:SR B F ρ M H) (r:RD B F ρ H d v) (h:vw M d=.lst ds):∃ a vs,v=.ref a/\fq B.K H a vs/\ai B F ρ H ds vs:=by
 cases d with
 | lst xs=>simp only [vw] at h;cases h;simp only [RD] at r;obtain ⟨a,vs,e,z,q⟩:=r;exact ⟨a,vs,e,z.sq,q⟩
 | ref n =>
  simp only [vw] at h
  split at h
  ·rename_i xs hx
   cases h
   simp only [RD] at r
   obtain ⟨a,h1,h2⟩:=r
   obtain ⟨vs,h3,h4⟩:=S.obj n a _ h1 hx
   exact ⟨a,vs,h2,.inl (.inl h3),h4⟩
  ·cases h
  ·cases h
  ·cases h
 | _=>simp only [vw] at h;cases h
theorem jU {d:D} {v:V} {ds:List D} (S:SR B F ρ M H) (r:RD B F ρ H d v) (h:vw M d=.tup ds):∃ a vs,v=.ref a/\gE B.K H a vs/\ai B F ρ H ds vs:=by
 cases d with
 | tup xs=>simp only [vw] at h;cases h;simp only [RD] at r;obtain ⟨a,vs,e,z,q⟩:=r;exact ⟨a,vs,e,z.sq,q⟩
 | ref n =>
  simp only [vw] at h
  split at h <;> cases h
 | _=>simp only [vw] at h;cases h
noncomputable def IT (B:Bd) (H:Hp) (a:Addr) (kvs:List (Key×V)):Prop:=Rd H a (.dK kvs)\/B.dk a kvs
theorem oq {α β:Type}:∀ (ks:List α) (ds:List β),ks.length=ds.length->(ks.zip ds).map (·.1)=ks/\(ks.zip ds).map (·.2)=ds
 | [],[],_=>⟨rfl,rfl⟩
 | k::ks,d::ds,h=>by
  obtain ⟨a,b⟩:=oq ks ds (by simpa using h)
  simp only [List.zip_cons_cons,List.map_cons,a,b,and_self]
 | [],_::_,h=>by simp at h
 | _::_,[],h=>by simp at h
theorem mG {d:D} {v:V} {dP:List (Ky×D)} (S:SR B F ρ M H) (r:RD B F ρ H d v) (h:vw M d=.dct dP):∃ a kvs,v=.ref a/\IT B H a kvs/\kvs.map (·.1)=dP.map (·.1)/\ai B F ρ H (dP.map (·.2)) (kvs.map (·.2)):=by
 cases d with
 | dct ks ds =>
  simp only [vw] at h;cases h;simp only [RD] at r
  obtain ⟨a,kvs,e,z,q1,q2⟩:=r
  have hl:ks.length=ds.length:=by rw [<- q1,List.length_map,ai.length q2,List.length_map]
  obtain ⟨z1,z2⟩:=oq ks ds hl
  refine ⟨a,kvs,e,?_,by rw [q1,z1],by rw [z2];exact q2⟩
  rcases z with ⟨_,z⟩ | z
  ·exact .inl z
  ·exact .inr z
 | ref n =>
  simp only [vw] at h
  split at h
  ·cases h
  ·rename_i xs hx
   cases h
   simp only [RD] at r
   obtain ⟨a,h1,h2⟩:=r
   obtain ⟨kws,h3,h4,h5⟩:=S.obj n a _ h1 hx
   exact ⟨a,kws,h2,.inl (.inl h3),h4,h5⟩
  ·rename_i xs hx
   cases h
   simp only [RD] at r
   obtain ⟨a,h1,h2⟩:=r
   obtain ⟨o,kws,h3,h4,h5⟩:=S.obj n a _ h1 hx
   exact ⟨a,kws,h2,.inl (.inr ⟨o,h3⟩),h4,h5⟩
  ·cases h
 | _=>simp only [vw] at h;cases h
theorem kq {k:Key}:∀ {dP:List (Ky×D)} {kvs:List (Key×V)},kvs.map (·.1)=dP.map (·.1)->ai B F ρ H (dP.map (·.2)) (kvs.map (·.2)) ->
  (∀ d,look dP k=some d->∃ v,cG kvs k=some v/\RD B F ρ H d v)/\(look dP k=none->cG kvs k=none)/\((look dP k).isSome=(cG kvs k).isSome)
 | [],kvs,h1,h2=>by
  have:kvs=[]:=by cases kvs with | nil=>rfl | cons _ _=>simp at h1
  subst this
  exact ⟨fun d h=>by simp [look] at h,fun _=>by simp [cG],by simp [look,cG]⟩
 | (k', d')::dP, kvs, h1, h2=>by
  cases kvs with
  | nil=>simp at h1
  | cons p kvs =>
   obtain ⟨pk,pv⟩:=p
   simp only [List.map_cons,List.cons.injEq] at h1
   simp only [List.map_cons,ai] at h2
   obtain ⟨v,ws,e,r1,r2⟩:=h2
   cases e
   obtain ⟨e1,e2⟩:=h1
   subst e1
   have ih:=kq (k:=k) e2 r2
   by_cases hk:pk=k
   ·subst hk
    simp only [look,cG,List.find?_cons,decide_true]
    exact ⟨fun d h=>by cases h;exact ⟨_,rfl,r1⟩,fun h=>by simp at h,rfl⟩
   ·have hkd:decide (pk=k)=false:=decide_eq_false hk
    simp only [look,cG,List.find?_cons,hkd] at ih ⊢
    exact ih
theorem oJ {i:Int} (h:small i=true):-(2 ^ 64)<i/\i<2 ^ 64:=by
 simp only [small,decide_eq_true_eq] at h
 omega
noncomputable def Mf (i j:Int):Prop:=i.natAbs<10 ^ 200/\j.natAbs<10 ^ 200
noncomputable def rStr:R2:=fun x y H Q=>∃ i j,x=.str i/\y=.str j/\i.length+j.length<=sizeLine/\Q (.str (i++j)) H
noncomputable def DZ (K:W.Frag):R2:=fun x y H Q=>∃ l b xs zs,x=.ref l/\y=.ref b/\fq K H l xs/\fq K H b zs/\xs.length+zs.length<=sizeLine/\∀ p,H p=none->Q (.ref p) (upd H p (.lst (xs++zs)))
noncomputable def DW (K:W.Frag):R2:=fun x y H Q=>∃ (l:Addr) (xs:List V) (k:Int),x=.ref l/\y=.int k/\fq K H l xs/\xs.length*k.toNat<=sizeLine/\k.natAbs<=1000000/\∀ p,H p=none->Q (.ref p) (upd H p (.lst (List.replicate k.toNat xs).flatten))
noncomputable def J5 (K:W.Frag):Dp->R2
 | .add=>fun x y H Q=>qS (fun i j=>.int (i+j)) x y H Q\/(rStr x y H Q\/(DZ K x y H Q\/DY K x y H Q))
 | .sub=>qS fun i j=>.int (i-j)
 | .mul=>fun x y H Q=>rI Dv (fun i j=>.int (i*j)) x y H Q\/(rI Mf (fun i j=>.int (i*j)) x y H Q\/DW K x y H Q)
 | .fdiv=>rI Mg fun i j=>.int (i / j)
 | .mod=>rI (fun _ j=>0<j) fun i j=>.int (i % j)
 | .pow=>rI Me fun i j=>.int (i ^ j.toNat)
theorem bR:line<=sizeLine:=by decide
theorem ai.rep {ds:List D} {vs:List V} (r:ai B F ρ H ds vs):∀ k:Nat,ai B F ρ H (List.replicate k ds).flatten (List.replicate k vs).flatten
 | 0=>ai.nil
 | k+1=>by
  rw [List.replicate_succ,List.replicate_succ,List.flatten_cons,List.flatten_cons]
  exact r.append (ai.rep r k)
theorem Cd {o:Dp} {fz:Bool} {x y:D} {v w:V} {X:XK} (S:SR B F ρ M H) (rx:RD B F ρ H x v) (ry:RD B F ρ H y w) (h:Post B (tX o fz M x y) F ρ H Q X):J5 B.K o v w H Q:=by
 unfold tX at h
 split at h
 ·rename_i i j
  simp only [RD] at rx ry
  subst rx ry
  cases o with
  | add=>simp only [gk] at h;exact .inl ⟨i,j,rfl,rfl,ah.run h S (by simp only [RD])⟩
  | sub=>simp only [gk] at h;exact ⟨i,j,rfl,rfl,ah.run h S (by simp only [RD])⟩
  | mul =>
   simp only [gk] at h
   split at h
   ·rename_i k hk
    split at hk
    ·rename_i hs
     cases hk
     refine .inl ⟨i,j,rfl,rfl,?_,ah.run h S (by simp only [RD])⟩
     simp only [Bool.or_eq_true] at hs
     rcases hs with hs | hs
     ·exact .inl (oJ hs)
     ·exact .inr (oJ hs)
    ·split at hk
     ·rename_i hs
      cases hk
      simp only [mid,Bool.and_eq_true,decide_eq_true_eq] at hs
      exact .inr (.inl ⟨i,j,rfl,rfl,hs,ah.run h S (by simp only [RD])⟩)
     ·cases hk
   ·exact h.elim
  | fdiv =>
   simp only [gk] at h
   split at h
   ·rename_i k hk
    split at hk
    ·rename_i hs
     cases hk
     simp only [Bool.and_eq_true,decide_eq_true_eq] at hs
     exact ⟨i,j,rfl,rfl,⟨hs.1,by have:=hs.2;omega⟩,ah.run h S (by simp only [RD])⟩
    ·cases hk
   ·exact h.elim
  | mod =>
   simp only [gk] at h
   split at h
   ·rename_i k hk
    split at hk
    ·rename_i hs
     cases hk
     exact ⟨i,j,rfl,rfl,of_decide_eq_true hs,ah.run h S (by simp only [RD])⟩
    ·cases hk
   ·exact h.elim
  | pow =>
   simp only [gk] at h
   split at h
   ·rename_i k hk
    split at hk
    ·rename_i hs
     cases hk
     simp only [Bool.and_eq_true,decide_eq_true_eq] at hs
     exact ⟨i,j,rfl,rfl,⟨hs.1,hs.2.1,hs.2.2⟩,ah.run h S (by simp only [RD])⟩
    ·cases hk
   ·exact h.elim
 ·rename_i a b
  simp only [RD] at rx ry
  subst rx ry
  cases o with
  | add =>
   simp only at h
   split at h
   ·rename_i hl
    exact .inr (.inl ⟨a,b,rfl,rfl,Nat.le_trans (of_decide_eq_true hl) bR,ah.run h S (by simp only [RD])⟩)
   ·exact h.elim
  | sub=>exact h.elim
  | mul=>exact h.elim
  | fdiv=>exact h.elim
  | mod=>exact h.elim
  | pow=>exact h.elim
 ·cases o with
  | add =>
   simp only at h
   split at h
   ·rename_i xs ys hx hy
    split at h
    ·rename_i hl
     obtain ⟨a,vs,rfl,q1,r1⟩:=bA S rx hx
     obtain ⟨b,ws,rfl,q2,r2⟩:=bA S ry hy
     refine .inr (.inr (.inl ⟨a,b,vs,ws,rfl,rfl,q1,q2,?_,dR S h (r1.append r2)⟩))
     rw [<- ai.length r1,<- ai.length r2]
     exact Nat.le_trans (of_decide_eq_true hl) bR
    ·exact h.elim
   ·rename_i xs ys hx hy
    split at h
    ·rename_i hl
     simp only [Bool.and_eq_true,Bool.not_eq_true',decide_eq_true_eq] at hl
     cases x with
     | tup xs' =>
      simp only [vw] at hx;cases hx
      simp only [RD] at rx
      obtain ⟨a,vs,rfl,z1,r1⟩:=rx
      obtain ⟨b,ws,rfl,q2,r2⟩:=jU S ry hy
      refine .inr (.inr (.inr ⟨a,b,vs,ws,rfl,rfl,z1.sq,q2,?_,?_,fun e=>?_,fun _=>jL S h (r1.append r2)⟩))
      ·rintro rfl
       have:=ai.length r1
       cases xs with
       | nil=>simp at hl
       | cons _ _=>simp at this
      ·rw [<- ai.length r1,<- ai.length r2]
       exact Nat.le_trans hl.2 bR
      ·refine ah.run h S ?_
       simp only [RD]
       refine ⟨a,vs,rfl,z1,?_⟩
       have:=r1.append r2
       rw [e,List.append_nil] at this
       exact this
     | ref n=>simp only [vw] at hx;split at hx <;> cases hx
     | _=>simp only [vw] at hx;cases hx
    ·exact h.elim
   ·exact h.elim
  | sub=>exact h.elim
  | mul =>
   simp only at h
   split at h
   ·rename_i xs k hx _ _
    split at h
    ·rename_i hl
     simp only [Bool.and_eq_true,decide_eq_true_eq] at hl
     obtain ⟨a,vs,rfl,q1,r1⟩:=bA S rx (by assumption)
     simp only [RD] at ry
     subst ry
     refine .inr (.inr ⟨a,vs,k,rfl,rfl,q1,?_,hl.2,dR S h (ai.rep r1 _)⟩)
     rw [<- ai.length r1]
     exact Nat.le_trans hl.1 bR
    ·exact h.elim
   ·exact h.elim
  | fdiv=>exact h.elim
  | mod=>exact h.elim
  | pow=>exact h.elim
theorem Fp {o:Dp} {fz:Bool} {a b:Fg.E} (h:T B Φ E (.op o fz a b) σ H Q):E4 (J5 B.K o) (T B Φ E a) (T B Φ E b) σ H Q:=by
 obtain ⟨σD,M,F,ρ,S,r,h⟩:=h
 simp only [ev] at h
 exact T.two S r rfl h fun x y M2 F2 ρ2 H2 v w S2 _ rx ry h2=>Cd S2 rx ry h2
theorem Bo {a:Fg.E} (h:T B Φ E (.neg a) σ H Q):tUn (rU fun i=>.int (-i)) (T B Φ E a) σ H Q:=by
 obtain ⟨σD,M,F,ρ,S,r,h⟩:=h
 simp only [ev] at h
 refine T.one S r rfl h fun x M1 F1 ρ1 H1 v e1 S1 r1 rx h1=>?_
 split at h1
 ·simp only [RD] at rx;subst rx
  exact ⟨_,rfl,ah.run h1 S1 (by simp only [RD])⟩
 ·exact h1.elim
end
end Fg
end
section
namespace Fg
open PySem PySem.Spec L2
noncomputable def Vx (vs:Array Value) (x:Value):Prop:=vs[0]? = some x/\vs[2]? = some .none
noncomputable def Jm (h B:Heap) (e:Addr) (C x fl:Value):Prop :=
 ∃ oe vs T oT ts,h.get? e=some oe/\(oe.cls=C/\Vx vs x)/\oe.data=.fields vs/\vs[1]? = some (.ref T)/\B.get? T=none/\T≠e/\h.get? T=some oT/\oT.data=.fields ts/\ts[3]? = some fl
noncomputable def iN (B:Heap) (l:List Env) (e:Addr) (C x:Value) (h:Heap):Prop:=B.StaysIn h/\B.get? e=none/\h.FunFrames B l/\Jm h B e C x .none
noncomputable def Az (B:Heap) (l:List Env) (e:Addr) (C x:Value) (L:Addr) (h:Heap):Prop:=B.StaysIn h/\B.get? e=none/\h.FunFrames B l/\Jm h B e C x (rawInt L)
theorem iN.there {B h:Heap} {l:List Env} {e:Addr} {C x:Value} (f:iN B l e C x h):∃ ob,h.get? e=some ob/\ob.cls=C:=by
 obtain ⟨_,_,_,oe,_,_,_,_,he,hc,_⟩:=f
 exact ⟨oe,he,hc.1⟩
section
variable {M:Model} {A:Around} {E:Value->Shared->Prop} {s:Shared} {B:Heap} {env:Env} {outer l:List Env} {L e:Addr} {C x fl:Value}
theorem zP {oe:Obj} {vs:Array Value} {hd:Value} {hn:Bool} {Q:Unit->Shared->Prop} (hfr:A.frames=some (env::outer)) (hl:s.heap.FunFrames B (env::outer)) (hf:env.frame=some L) (he:s.heap.get? e=some oe) (kb:B.StaysIn s.heap) (en:B.get? e=none) (dt:oe.data=.fields vs) (sz:1<vs.size) (v0:Vx vs x)
  (k:∀ h',B.StaysIn h'->h'.FunFrames B (env::outer)->Jm h' B e oe.cls x (rawInt L)->s.heap.UpToSlots h'->Q () { s with heap:=h' }) :
  wpAny M A (do let a <- frameOf env;let pl <- entryPlaceOf L hn;let b <- EntryCells.newEntry hd a .none (rawInt L) .none pl;setField (.ref e) 1 b) Q E s:=by
 have nr:∀ b o,s.heap.get? b=some o->(∀ ws,o.data≠.fields ws)->b≠e:=fun b o hb nf z=>by
  rw [z,he] at hb;cases hb;exact nf vs dt
 refine wpAny_bind (wpAny_frameOf_fun hfr hl hf fun h1 g1=>wpAny_bind (wpAny_entryPlaceOf fun pl hpl=>?_))
 unfold EntryCells.newEntry newFields
 refine wpAny_bind (wpAny_newObj_type ?_ (hpl.sizeOk5 _ _ _ _ _))
 have e1:h1.get? e=some oe:=(g1.2.1 e fun z=>by
  obtain ⟨_,o,ho,nf⟩:=hl.mem z
  rw [he] at ho;cases ho;exact nf vs dt).trans he
 have b1:B.StaysIn h1:=fun b o q=>(g1.2.1 b fun z=>by rw [(hl.mem z).1] at q;cases q).trans (kb b o q)
 generalize hT:({ cls:=Value.type "traceback", dict:=none, data:=Data.fields (([hd, Value.ref L, Value.none, rawInt L, Value.none]:List Value)++(if pl.isEmpty then List.replicate 6 Value.none else pl)).toArray }:Obj)=T
 have e2:(h1.push T).get? e=some oe:=Heap.get?_push_of_some _ e1
 refine wpAny_setField e2 dt sz (k _ ?_ ?_ ?_ ?_)
 all_goals
  have ne:h1.objs.size≠e:=Nat.ne_of_gt (Heap.lt_size e1)
  have keep:∀ b o,b≠e->h1.get? b=some o->((h1.push T).update e (Obj.mapFields (·.setIfInBounds 1 (Value.ref h1.objs.size)))).get? b=some o:=fun b o hb q=>(Heap.get?_update_other _ _ (Ne.symm hb)).trans (Heap.get?_push_of_some _ q)
 ·exact fun b o q=>keep b o (fun z=>by rw [z,en] at q;cases q) (b1 b o q)
 ·exact hl.of_keeps fun b o hb nf=>by
   obtain ⟨sl,q⟩:=g1.2.2 b o hb
   exact ⟨_,keep b _ (nr b o hb nf) q,rfl⟩
 ·have d3:=Obj.data_mapFields dt (·.setIfInBounds 1 (Value.ref h1.objs.size))
  refine ⟨_,_,h1.objs.size,T,_,Heap.get?_update_self _ e2 (Obj.isFreed_of_fields d3),⟨Obj.cls_mapFields _ _,?_,?_⟩,d3,by simp [sz],b1.fresh,ne,(Heap.get?_update_other _ _ (Ne.symm ne)).trans (Heap.get?_push_size h1 (by rw [<- hT];rfl)),by rw [<- hT],?_⟩
  ·rw [Array.getElem?_setIfInBounds_ne (by decide)];exact v0.1
  ·rw [Array.getElem?_setIfInBounds_ne (by decide)];exact v0.2
  ·first | (simp;done) | (rcases hpl with rfl | ⟨_,_,_,_,_,_,_,rfl⟩ <;> simp)
 ·exact fun b o hb nf=>by
   obtain ⟨sl,q⟩:=g1.2.2 b o hb
   exact ⟨sl,keep b _ (nr b o hb nf) q⟩
theorem yI {Q:Unit->Shared->Prop} (kb:B.StaysIn s.heap) (hl:s.heap.FunFrames B l) (t:Jm s.heap B e C x fl) (k:∀ h',B.StaysIn h'->h'.FunFrames B l->Jm h' B e C x .none->s.heap.UpToSlots h'->Q () { s with heap:=h' }):wpAny M A (setFlight (.ref e) none) Q E s:=by
 obtain ⟨oe,vs,T,oT,ts,q1,q2,q3,q4,q5,q6,q7,q8,q9⟩:=t
 have z3:3<ts.size:=(Array.getElem?_eq_some_iff.mp q9).1
 have m7:∀ b,b≠T->(s.heap.update T (Obj.mapFields (·.setIfInBounds 3 ((none:Option Addr).elim Value.none fun f=>rawInt f)))).get? b=s.heap.get? b:=fun b hb=>Heap.get?_update_other _ _ (Ne.symm hb)
 have nr:∀ b o,s.heap.get? b=some o->(∀ ws,o.data≠.fields ws)->b≠T:=fun b o hb nf z=>by
  rw [z,q7] at hb;cases hb;exact nf ts q8
 unfold setFlight
 refine wpAny_bind (wpAny_field q1 q3 q4 ?_)
 rw [if_pos (by simp)]
 refine wpAny_setField q7 q8 z3 (k _ (fun b o hb=>(m7 b fun z=>by rw [z,q5] at hb;cases hb).trans (kb b o hb)) (hl.of_keeps fun b o hb nf=>⟨o,(m7 b (nr b o hb nf)).trans hb,rfl⟩) ?_ fun b o hb nf=>⟨o.slots,(m7 b (nr b o hb nf)).trans hb⟩)
 exact ⟨oe,vs,T,_,_,(m7 e (Ne.symm q6)).trans q1,q2,q3,q4,q5,q6,Heap.get?_update_self _ q7 (Obj.isFreed_of_fields (Obj.data_mapFields q8 _)),Obj.data_mapFields q8 _,by simp [z3]⟩
theorem Eb {Q:Unit->Shared->Prop} (f:Az B l e C x L s.heap) (k:∀ h',iN B l e C x h'->s.heap.UpToSlots h'->Q () { s with heap:=h' }):wpAny M A (setFlight (.ref e) none) Q E s :=
 yI f.1 f.2.2.1 f.2.2.2 fun h' k1 k2 k3 k4=>k h' ⟨k1,f.2.1,k2,k3⟩ k4
theorem Ea {Q:Unit->Shared->Prop} (f:iN B l e C x s.heap) (k:∀ h',iN B l e C x h'->s.heap.UpToSlots h'->Q () { s with heap:=h' }):wpAny M A (setFlight (.ref e) none) Q E s :=
 yI f.1 f.2.2.1 f.2.2.2 fun h' k1 k2 k3 k4=>k h' ⟨k1,f.2.1,k2,k3⟩ k4
end
end Fg
end
section
namespace Fg
open PySem PySem.Spec L2
noncomputable def Up (B:Heap) (l:List Env) (a:Addr) (C a0:Value) (h:Heap):Prop:=B.StaysIn h/\B.get? a=none/\h.FunFrames B l/\∃ fl,Jm h B a C a0 fl
theorem Up.GH {B h:Heap} {l:List Env} {a:Addr} {C a0:Value} (x:iN B l a C a0 h):Up B l a C a0 h:=⟨x.1,x.2.1,x.2.2.1,_,x.2.2.2⟩
theorem Up.t9 {B h:Heap} {l:List Env} {a L:Addr} {C a0:Value} (x:Az B l a C a0 L h):Up B l a C a0 h:=⟨x.1,x.2.1,x.2.2.1,_,x.2.2.2⟩
theorem nc {e:Value} {env env':Env} (h:env.frame=env'.frame):noteFrame e env=noteFrame e env':=by
 unfold noteFrame frameOf
 rw [h]
section
variable {M:Model} {A:Around} {E:Value->Shared->Prop} {s:Shared} {B:Heap} {env:Env} {outer:List Env} {L a:Addr} {C a0:Value}
theorem Up.note {Q:Unit->Shared->Prop} (hfr:A.frames=some (env::outer)) (hf:env.frame=some L) (up:Up B (env::outer) a C a0 s.heap) (k:∀ h',Az B (env::outer) a C a0 L h'->s.heap.UpToSlots h'->Q () { s with heap:=h' }) :
  wpAny M A (noteFrame (.ref a) env) Q E s:=by
 obtain ⟨st,ne,hl,fl,oe,vs,T,oT,ts,q1,⟨q2,q2'⟩,q3,q4,q5,q6,q7,q8,q9⟩:=up
 by_cases same:(fl == rawInt L)=true
 ·have e:fl=rawInt L:=by simpa using same
  subst e
  exact wpAny_noteFrame_againW hf ⟨oe,vs,T,oT,ts,q1,⟨q2,q2'.1⟩,q3,q4,q5,q6,q7,q8,q9⟩ (k s.heap ⟨st,ne,hl,oe,vs,T,oT,ts,q1,⟨q2,q2'⟩,q3,q4,q5,q6,q7,q8,q9⟩ (Heap.UpToSlots.refl _))
 ·subst q2
  unfold noteFrame
  simp only [hf]
  refine wpAny_bind (wpAny_field q1 q3 q4 ?_)
  rw [if_pos (by simp)]
  refine wpAny_bind (wpAny_field q7 q8 q9 ?_)
  rw [if_neg same]
  refine wpAny_bind (wpAny_setField q7 q8 (Array.getElem?_eq_some_iff.mp q9).1 ?_)
  have m7:∀ b,b≠T->(s.heap.update T (Obj.mapFields (·.setIfInBounds 3 Value.none))).get? b=s.heap.get? b:=fun b hb=>Heap.get?_update_other _ _ fun z=>hb z.symm
  have o7:∀ b o,s.heap.get? b=some o->(∀ vs,o.data≠.fields vs)->b≠T:=fun b o hb hn z=>by
   subst z;rw [q7] at hb;cases hb;exact hn ts q8
  refine zP (B:=B) (x:=a0) hfr ?_ hf ?_ ?_ ne q3 (Array.getElem?_eq_some_iff.mp q4).1 q2' fun h' x1 x2 x3 x4=>?_
  ·exact hl.of_keeps fun b o hb hn=>⟨o,by rw [m7 b (o7 b o hb hn),hb],rfl⟩
  ·rw [m7 a fun z=>q6 z.symm];exact q1
  ·intro b o e
   rw [m7 b (by rintro rfl;rw [q5] at e;cases e)]
   exact st b o e
  ·exact k h' ⟨x1,ne,x2,x3⟩ fun b o hb hn=>x4 b o (by rw [m7 b (o7 b o hb hn),hb]) hn
theorem Up.leave {Q:Unit->Shared->Prop} (hfr:A.frames=some (env::outer)) (hf:env.frame=some L) (up:Up B (env::outer) a C a0 s.heap) (k:∀ h',iN B outer a C a0 h'->s.heap.UpToSlots h'->Q () { s with heap:=h' }) :
  wpAny M A (leaving env (.ref a)) Q E s :=
 wpAny_bind (up.note hfr hf fun h4 held vh=>Eb held fun h5 fl xm=>k h5 ⟨fl.1,fl.2.1,fl.2.2.1.2.2,fl.2.2.2⟩ (vh.trans xm))
end
theorem pG {M:Model} {A:Around} {E:Value->Shared->Prop} {s:Shared} {h B:Heap} {env:Env} {outer:List Env} {L a:Addr} {C:Value} {vs:List Value} {Q:Unit->Shared->Prop} (hfr:A.frames=some (env::outer)) (hf:env.frame=some L)
  (made:Heap.MadeExcOf h s.heap a C vs) (st:B.StaysIn h) (hl:h.FunFrames B (env::outer)) (k:∀ a0 h',Up B (env::outer) a C a0 h'->s.heap.UpToSlots h'->Q () { s with heap:=h' }):wpAny M A (noteFrame (.ref a) env) Q E s:=by
 obtain ⟨t,he,_,_⟩:=made.there
 have ne:B.get? a=none:=by
  cases q:B.get? a with
  | none=>rfl
  | some o=>have:=st _ _ q;rw [made.new] at this;cases this
 unfold noteFrame
 simp only [hf]
 refine wpAny_bind (wpAny_field he rfl (x:=.none) rfl ?_)
 rw [if_neg (by simp)]
 refine zP (B:=B) (x:=.ref t) hfr (hl.of_keeps fun b o hb _=>⟨o,made.keeps b o hb,rfl⟩) hf he (fun b o e=>made.keeps b o (st b o e)) ne rfl (show 1<6 by decide) ⟨rfl,rfl⟩ fun h' x1 x2 x3 x4=>?_
 exact k _ h' ⟨x1,ne,x2,_,x3⟩ x4
end Fg
end
section
namespace Fg
open PySem PySem.Spec L2
open PyProof.Rows (AllBare envOfC)
theorem lO {P:Program} {w:World} {H:Hp} {h:Heap} {a:Addr} {o:HO} (x:aO P w H h a o):∃ ob,h.get? a=some ob:=by
 cases o with
 | lst xs=>obtain ⟨_,_,_,_,e⟩:=x;exact ⟨_,e⟩
 | tup xs=>obtain ⟨_,_,_,_,e,_⟩:=x;exact ⟨_,e⟩
 | dK kvs=>obtain ⟨_,_,_,_,o,_,_,e,_⟩:=x;exact ⟨_,e⟩
 | dT kvs=>obtain ⟨_,_,_,_,o,_,_,e,_⟩:=x;exact ⟨_,e⟩
 | set S n=>obtain ⟨o,_,_,_,e,_⟩:=x;exact ⟨_,e⟩
 | ins C dx fs=>obtain ⟨_,_,_,e,_⟩:=x;exact ⟨_,e⟩
 | own y=>obtain ⟨_,e⟩:=x;exact ⟨_,e⟩
 | xd fs=>obtain ⟨_,⟨_,_,_,e,_⟩,_⟩:=x;exact ⟨_,e⟩
 | iO lo hi=>obtain ⟨_,_,_,e⟩:=x;exact ⟨_,e⟩
 | dF ob u=>obtain ⟨e,_⟩:=x;exact ⟨_,e⟩
 | DC ps=>exact ⟨_,(show h.get? a=some _ from x)⟩
 | met f y=>exact ⟨_,(show h.get? a=some _ from x)⟩
 | ext φ=>obtain ⟨_,⟨_,e⟩,_⟩:=x;exact ⟨_,e⟩
noncomputable def Calm (B:Heap) (fr ex:List Addr) (H:Hp) (h₀:Heap):Prop:=∀ b,(H b≠none\/(∃ o,h₀.get? b=some o)/\b∉ex)->b∉fr->∃ o,B.get? b=some o
theorem Calm.at {B h:Heap} {fr ex:List Addr} {H:Hp} {h₀:Heap} (c:Calm B fr ex H h₀) (st:B.StaysIn h) {b:Addr} {o:Obj} (e:h.get? b=some o) (q:H b≠none\/(∃ o,h₀.get? b=some o)/\b∉ex) (hf:b∉fr):B.get? b=some o:=by
 obtain ⟨o',e'⟩:=c b q hf
 have:=st _ _ e'
 rw [e] at this;cases this
 exact e'
noncomputable def eB (P:Program) (w:World):AB:=fun outer H s E e s'=>∃ (H':Hp) (a:Addr) (a0 C:Value) (B:Heap),e=.ref a/\s'.os=s.os/\AllBare s'.gens/\Un (frs outer) [] H H' s.heap s'.heap/\gv P w H' s'.heap /\
 iN B outer a C a0 s'.heap/\Calm B (frs outer) [] H' s.heap/\E C none H'
noncomputable def gY (X:Cx) (E:XS) (e:Value) (s:Shared):Prop:=∃ (pins:List (Addr×Obj)) (σ:St) (H:Hp) (a:Addr) (a0 C:Value) (B:Heap),e=.ref a/\Inv X pins σ H s /\
 Up B X.stack a C a0 s.heap/\Calm B (frs X.stack) X.ex H X.s₀.heap/\(∀ p∈X.pn,B.get? p.1=some p.2)/\E C none σ H
noncomputable def EV (X:Cx) (E:XS) (e:Value) (s:Shared):Prop:=∃ (pins:List (Addr×Obj)) (σ:St) (H:Hp) (a:Addr) (C:Value) (vs:List Value) (h:Heap),e=.ref a/\Inv X pins σ H { s with heap:=h }/\Heap.MadeExcOf h s.heap a C vs/\E C none σ H
theorem ny {fs fr ex:List Addr} {H₀ H H₁:Hp} {h₀ h h' B:Heap} (u:Un fs ex H₀ H h₀ h) (ef:Calm B fr ex H₁ h₀) (jx:B.StaysIn h) (st:B.StaysIn h') (sm:∀ b∈fr,∀ o,h.get? b=some o->∃ sl,h'.get? b=some { o with slots:=sl })
  (frd:∀ b∈fr,b<h₀.objs.size->b∈fs):Un fs ex H₀ H h₀ h' where
 keep:=fun b o e n0 hb hx=>st _ _ (ef.at jx (u.keep b o e n0 hb hx) (.inr ⟨⟨_,e⟩,hx⟩) fun z=>hb (frd b z (Heap.lt_size e)))
 slot:=fun b o e n0 hb hx=>by
  obtain ⟨sl,e1⟩:=u.slot b o e n0 hb hx
  by_cases z:b∈fr
  ·obtain ⟨DL,e2⟩:=sm b z _ e1
   exact ⟨DL,e2⟩
  ·exact ⟨sl,st _ _ (ef.at jx e1 (.inr ⟨⟨_,e⟩,hx⟩) z)⟩
 free:=u.free
 there:=fun b o e hx=>by
  obtain ⟨o',e1⟩:=u.there b o e hx
  by_cases z:b∈fr
  ·obtain ⟨DL,e2⟩:=sm b z _ e1
   exact ⟨_,e2⟩
  ·exact ⟨_,st _ _ (ef.at jx e1 (.inr ⟨⟨_,e⟩,hx⟩) z)⟩
 tups:=u.tups
 c7:=u.c7
 gj:=u.gj
theorem jP {P:Program} {w:World} {fr ex:List Addr} {H:Hp} {h₀ h h' B:Heap} (k:gv P w H h) (ef:Calm B fr ex H h₀) (jx:B.StaysIn h) (st:B.StaysIn h') (free:∀ b∈fr,H b=none):gv P w H h':=fun a o e =>
 (k a o e).stay (fun b u hb e'=>by
  have tr:H b≠none:=by
   rcases hb with rfl | hb
   ·rw [e];simp
   ·rw [hb];simp
  exact st _ _ (ef.at jx e' (.inl tr) fun z=>tr (free b z))) (fun _ q=>q) fun _ _ q=>q
section
variable {X:Cx} {pins:List (Addr×Obj)} {σ:St} {H:Hp} {s:Shared}
theorem kI (I:Inv X pins σ H s):∀ b∈frs X.stack,∀ o,s.heap.get? b=some o->∀ vs,o.data≠.fields vs:=fun b hb o e vs=>by
 obtain ⟨_,o',e',d⟩:=I.stack.mem hb
 rw [e] at e';cases e'
 exact d vs
theorem rX {h':Heap} (I:Inv X pins σ H s) (sm:s.heap.UpToSlots h'):∀ b∈frs X.stack,∀ o,s.heap.get? b=some o->∃ sl,h'.get? b=some { o with slots:=sl }:=fun b hb o e=>sm b o e (kI I b hb o e)
theorem nv (I:Inv X pins σ H s):∀ b∈frs X.stack,b<X.s₀.heap.objs.size->b∈X.fs:=fun b hb hl=>by
 rcases List.mem_cons.mp (I.eE b hb) with e | z
 ·subst e;exact absurd (Nat.lt_of_lt_of_le hl I.ok.above) (Nat.lt_irrefl _)
 ·exact z
theorem gg (I:Inv X pins σ H s) {b:Addr} {o:Obj} (e:X.s₀.heap.get? b=some o) (hx:b∉X.ex):∃ o',s.heap.get? b=some o':=I.base.there b o e hx
theorem passes {E:XS} (hx:∀ e s,gY X E e s->X.xe e s) (pins:List (Addr×Obj)) (σ:St) (H:Hp) (s:Shared) (e:Value) (s':Shared) (I:Inv X pins σ H s) (q:eB X.prog X.w X.stack H s (fun cv x H'=>E cv x σ H') e s'):X.xe e s':=by
 obtain ⟨H',a,a0,C,B,rfl,os,bare,un,hok,fl,ef,q⟩:=q
 have I':=I.Af (ch:=[]) os un hok bare (fun b z=>absurd z (by simp))
 refine hx _ _ ⟨pins,σ,H',a,a0,C,B,rfl,I',.GH fl,fun b hb hf=>ef b (hb.imp id fun ⟨⟨o,z⟩,n⟩=>⟨gg I z n,by simp⟩) hf,fun p hp=>?_,q⟩
 obtain ⟨p1,p2,p3,p4,_⟩:=I'.pin p (List.mem_append_left _ hp)
 refine ef.at fl.1 p1 (.inr ⟨⟨_,(I.pin p (List.mem_append_left _ hp)).1⟩,by simp⟩) fun z=>?_
 rcases List.mem_cons.mp (I.eE _ z) with e | z
 ·exact p3 e
 ·exact p4 z
end
section
variable {P:Program} {w:World} {K:W.Frag} {mg:Str->Option Value} {base:Heap} {N:List Str} {qual:Str} {scope:Scope} {f:Addr} {cd:Value} {A:Around} {outer:List Env} {s:Shared} {H:Hp} {E:XK}
theorem pS (b:Addr) (h:b∈frs (envOfC qual scope s.heap.objs.size f cd::outer)):b=s.heap.objs.size\/b∈frs outer:=by
 unfold frs at h
 rw [List.filterMap_cons] at h
 exact List.mem_cons.mp h
theorem yz {pins:List (Addr×Obj)} {σ:St} {H':Hp} {s':Shared} {a:Addr} {a0 C:Value} {B h':Heap} (I:Inv (iJ (eB P w) P w K mg base N qual scope f cd A outer s H E) pins σ H' s') (jx:B.StaysIn s'.heap) (ef:Calm B (frs (envOfC qual scope s.heap.objs.size f cd::outer)) [] H' s.heap)
  (q:E C none H') (CO:iN B outer a C a0 h') (sm:s'.heap.UpToSlots h'):eB P w outer H s E (.ref a) { s' with heap:=h' }:=by
 refine ⟨H',a,a0,C,B,rfl,I.os,I.bare,ny I.base ef jx CO.1 (rX I sm) (nv I),jP I.hok ef jx CO.1 I.gb,CO,fun b hb hf=>ef b hb fun z=>?_,q⟩
 rcases pS b z with e | z
 ·subst e
  rcases hb with hb | ⟨⟨o,hb⟩,_⟩
  ·exact hb I.free
  ·exact absurd (Heap.lt_size hb) (Nat.lt_irrefl _)
 ·exact hf z
theorem vN (e:Value) (s':Shared) (q:gY (iJ (eB P w) P w K mg base N qual scope f cd A outer s H E) (fun cv x _ H'=>E cv x H') e s'):(iJ (eB P w) P w K mg base N qual scope f cd A outer s H E).xe e s':=by
 obtain ⟨pins,σ,H',a,a0,C,B,rfl,I,up,ef,_,q⟩:=q
 exact up.leave (L:=s.heap.objs.size) I.ok.frames rfl fun h' CO sm=>yz I up.1 ef q CO sm
theorem leave_new (e:Value) (s':Shared) (q:EV (iJ (eB P w) P w K mg base N qual scope f cd A outer s H E) (fun cv x _ H'=>E cv x H') e s'):(iJ (eB P w) P w K mg base N qual scope f cd A outer s H E).xe e s':=by
 obtain ⟨pins,σ,H',a,C,vs,h,rfl,I,made,q⟩:=q
 have hin:∀ env∈(envOfC qual scope s.heap.objs.size f cd::outer),∀ b,env.frame=some b->b∈frs (envOfC qual scope s.heap.objs.size f cd::outer):=fun env he b hb=>List.mem_filterMap.mpr ⟨env,he,hb⟩
 refine wpAny_bind (pG (B:=W.hideAll h (frs (envOfC qual scope s.heap.objs.size f cd::outer))) (L:=s.heap.objs.size) I.ok.frames rfl made (fun b o q=>W.of_hideAll _ q) (W.funFrames_hide I.stack hin) fun a0 h4 Ja vh=>yI Ja.1 Ja.2.2.1 Ja.2.2.2.choose_spec fun h' k1 k2 k3 xm=>?_)
 have CO:iN (W.hideAll h (frs (envOfC qual scope s.heap.objs.size f cd::outer))) outer a C a0 h':=⟨k1,Ja.2.1,k2.2.2,k3⟩
 have sm:=vh.trans xm
 have jx:(W.hideAll h (frs (envOfC qual scope s.heap.objs.size f cd::outer))).StaysIn h:=fun b o q=>W.of_hideAll _ q
 have ef:Calm (W.hideAll h (frs (envOfC qual scope s.heap.objs.size f cd::outer))) (frs (envOfC qual scope s.heap.objs.size f cd::outer)) [] H' s.heap:=fun b hb hf=>by
  have:∃ o,h.get? b=some o:=by
   rcases hb with hb | ⟨⟨o,hb⟩,_⟩
   ·cases e:H' b with
    | none=>exact absurd e hb
    | some o=>exact lO (I.hok b o e)
   ·exact gg I hb (by simp [iJ])
  obtain ⟨o,e⟩:=this
  exact ⟨o,W.hideAll_get _ e hf⟩
 have sm':h.UpToSlots h':=(Heap.UpToSlots.of_keeps made.keeps).trans sm
 refine ⟨H',a,_,C,_,rfl,I.os,I.bare,ny I.base ef jx CO.1 (rX I sm') (nv I),jP I.hok ef jx CO.1 I.gb,CO,fun b hb hf=>ef b hb fun z=>?_,q⟩
 rcases pS b z with e | z
 ·subst e
  rcases hb with hb | ⟨⟨o,hb⟩,_⟩
  ·exact hb I.free
  ·exact absurd (Heap.lt_size hb) (Nat.lt_irrefl _)
 ·exact hf z
end
end Fg
end
section
namespace Fg
open PySem PySem.Spec L2
open PyProof.Rows (AllBare envOfC)
noncomputable def nY (K:W.Frag) (C:Addr) (bmB:List Value) (newId:String) (bm:List Value):Prop :=
 ∃ nm q N bs hdct sn sub ab col dd k0 k1 k2 k3 k5, K.lookup C=some (excClassObj nm q C N bs bm hdct sn sub ab col dd k0 k1 k2 k3 k5 newId)/\W.nsOkIn K N=true/\W.nsIn K N "__init__" = some none/\W.tailIn K bmB bm=true
variable {X:Cx} {E:XS}
theorem pA {x:Str} {C:Addr} {B newId initId:String} {bmB bm:List Value} {a:Expr} {t:TA} {np cpos pos:Pos} (hm:X.mg x=some (.ref C)) (hk:X.env.kindOf x=some .globalImplicit) (hd:(x == ("__debug__" : Str))=false)
  (EC:nY X.K C bmB newId bm) (FB:ExcBaseFacts B newId initId bmB) (calm:X.calm=true) (hs:starEach [a] X.env=[(false,eval a X.env)]) (ha:PA X [a] t) (hx:∀ e s,EV X E e s->X.xe e s) :
  PS X (.Raise (some (.Call (.Name x np) [a] [] cpos)) none pos) (fun D σ H=>t σ H fun vs H1=>vs.length<=sizeLine/\E (.ref C) none σ H1):=by
 obtain ⟨nm,q,N,bs,hdct,sn,sub,ab,col,dd,k0,k1,k2,k3,k5,lk,ok,ni,tl⟩:=EC
 intro pins s σ H D I ht
 have tail:∀ {h:Heap},X.K.In h->PySem.OwnTail h bmB bm:=fun KX=>W.tail_of_in KX tl
 refine wpAny_Raise_call_subT (C:=C) (nm:=nm) (q:=q) (N:=N) (bs:=bs) (bm:=bm) (hdct:=hdct) (sn:=sn) (sub:=sub) (ab:=ab) (col:=col) (dd:=dd) (k0:=k0) (k1:=k1) (k2:=k2) (k3:=k3) (k5:=k5) FB (mN:=X.base.nsMap N)
  ((tail I.fF).hasType FB.hasBase) (I.ok.hd calm) (by rw [hs];rfl) (W.nsMap_none_of_in I.mod.yK ok ni)
  (Calls.Name_function_global I.ok.kind hk (Calls.loadGlobal_global (by rw [I.ok.glob];exact I.mod.glob.keeps I.bk) hm ⟨rfl,?_⟩) hd)
 have z:=ha cpos pins s σ H _ I ht
 rw [hs] at z ⊢
 refine Calls.evalArgs_plain (aS z fun us s2 y=>?_)
 obtain ⟨vs,H1,I1,r,hl,q⟩:=y
 refine ⟨rfl,by rw [<- r.length];exact hl,I1.fF _ _ lk,(Heap.Ns.of_isNs (W.isNs_of_in I.mod.yK ok)).keeps I1.bk,tail I1.fF,fun h' e made=>hx _ _ ⟨pins,σ,H1,e,.ref C,us,s2.heap,rfl,I1,made,q⟩⟩
end Fg
end
section
namespace Fg
open PySem PySem.Spec L2
noncomputable abbrev fL (X:Cx) (pins:List (Addr×Obj)):Cx:={ X with pn:=X.pn++pins }
theorem sL {X:Cx} {pins:List (Addr×Obj)} (ok:X.Ok):(fL X pins).Ok :=
 ⟨ok.mod,ok.kind,ok.glob,ok.blt,ok.above,ok.inj,ok.has,ok.EI,ok.hd,ok.frames,ok.stk,ok.Lq,ok.bs,ok.wm,ok.pC,ok.r6,ok.gp,ok.zw⟩
theorem nZ {X:Cx} {pins:List (Addr×Obj)} (ok:(fL X pins).Ok):X.Ok :=
 ⟨ok.mod,ok.kind,ok.glob,ok.blt,ok.above,ok.inj,ok.has,ok.EI,ok.hd,ok.frames,ok.stk,ok.Lq,ok.bs,ok.wm,ok.pC,ok.r6,ok.gp,ok.zw⟩
section
variable {X:Cx} {pins j9:List (Addr×Obj)} {σ:St} {H:Hp} {s:Shared}
theorem zb (I:Inv X pins σ H s):Inv (fL X pins) [] σ H s:=⟨sL I.ok,I.os,I.bare,I.base,I.loc,I.cell,I.free,I.bT,fun p hp=>I.pin p (by simpa using hp),I.hok,I.len⟩
theorem eN (I:Inv (fL X pins) j9 σ H s):Inv X pins σ H s:=⟨nZ I.ok,I.os,I.bare,I.base,I.loc,I.cell,I.free,I.bT,fun p hp=>I.pin p (List.mem_append_left _ hp),I.hok,I.len⟩
theorem lG {D:Ends} {f:Flow} {s':Shared} (h:SP (fL X pins) j9 D f s'):SP X pins D f s':=by
 cases f with
 | next=>obtain ⟨σ',H',I,q⟩:=h;exact ⟨σ',H',eN I,q⟩
 | brk=>obtain ⟨σ',H',I,q⟩:=h;exact ⟨σ',H',eN I,q⟩
 | cont=>obtain ⟨σ',H',I,q⟩:=h;exact ⟨σ',H',eN I,q⟩
 | ret u=>obtain ⟨v,σ',H',I,r,q⟩:=h;exact ⟨v,σ',H',eN I,r,q⟩
theorem iy {B h':Heap} (I:Inv X pins σ H s) (ef:Calm B (frs X.stack) X.ex H X.s₀.heap) (hp:∀ p∈X.pn,B.get? p.1=some p.2) (jx:B.StaysIn s.heap) (st:B.StaysIn h') (sm:s.heap.UpToSlots h'):Inv X [] σ H { s with heap:=h' }:=by
 have cel:∀ c v,s.heap.IsCell c v->h'.IsCell c v:=fun c v ⟨o,e,d⟩=>by
  obtain ⟨sl,e'⟩:=sm c o e (fun vs z=>by rw [d] at z;cases z)
  exact ⟨_,e',d⟩
 refine ⟨I.ok,I.os,I.bare,ny I.base ef jx st (rX I sm) (nv I),?_,fun x c e=>?_,I.free,I.bT,fun p q=>?_,jP I.hok ef jx st I.gb,I.len⟩
 ·obtain ⟨m,hn,hv⟩:=I.loc
  refine ⟨m,sm.ns hn,fun i x v h1 h2 h3=>?_⟩
  obtain ⟨u,r,lk⟩:=hv i x v h1 h2 h3
  refine ⟨u,r,lk.imp id fun ⟨z,c,h4,h5⟩=>⟨z,c,h4,cel _ _ h5⟩⟩
 ·obtain ⟨v,h5⟩:=I.cell x c e
  exact ⟨v,cel _ _ h5⟩
 ·have q':p∈X.pn:=by simpa using q
  obtain ⟨_,p2⟩:=I.pin p (List.mem_append_left _ q')
  exact ⟨st _ _ (hp p q'),p2⟩
end
noncomputable abbrev suite (X:Cx) (e:Value):Cx:={ X with A:=X.A.mark (some e),calm:=false,xe:=fun _ _=>False }
section
variable {X:Cx} {pins j9:List (Addr×Obj)} {σ:St} {H:Hp} {s:Shared} {e:Value}
theorem w9 (ok:X.Ok):(suite X e).Ok :=
 ⟨ok.mod,ok.kind,ok.glob,ok.blt,ok.above,ok.inj,ok.has,ok.EI,(fun z=>by cases z),ok.frames,ok.stk,ok.Lq,ok.bs,ok.wm,ok.pC,ok.r6,ok.gp,ok.zw⟩
theorem lW (I:Inv X pins σ H s):Inv (suite X e) pins σ H s:=⟨w9 I.ok,I.os,I.bare,I.base,I.loc,I.cell,I.free,I.bT,I.pin,I.hok,I.len⟩
theorem cj (ok:X.Ok) (I:Inv (suite X e) pins σ H s):Inv X pins σ H s:=⟨ok,I.os,I.bare,I.base,I.loc,I.cell,I.free,I.bT,I.pin,I.hok,I.len⟩
theorem qG (ok:X.Ok) {D:Ends} {f:Flow} {s':Shared} (h:SP (suite X e) pins D f s'):SP X pins D f s':=by
 cases f with
 | next=>obtain ⟨σ',H',I,q⟩:=h;exact ⟨σ',H',cj ok I,q⟩
 | brk=>obtain ⟨σ',H',I,q⟩:=h;exact ⟨σ',H',cj ok I,q⟩
 | cont=>obtain ⟨σ',H',I,q⟩:=h;exact ⟨σ',H',cj ok I,q⟩
 | ret u=>obtain ⟨v,σ',H',I,r,q⟩:=h;exact ⟨v,σ',H',cj ok I,r,q⟩
end
section
variable {M:Model} {A:Around} {E:Value->Shared->Prop} {nm q:Str} {C N:Addr} {bs bm:List Value} {hdct:Bool} {sn:List Str} {sub:List Value} {ab:Bool} {col:Option Bool} {dd:Option Addr} {k0 k1 k2 k3 k5:Option Value} {newId:String}
 {nm' q':Str} {C' N':Addr} {bs' bm':List Value} {zk:Bool} {sn':List Str} {sub':List Value} {ab':Bool} {col':Option Bool} {EG:Option Addr} {l0 l1 l2 l3 l5:Option Value} {newId':String}
theorem jn {h:Heap} {g:Array GenState} {d:Drawn} {t:Nat} {os:OsState} {e:Addr} {oe:Obj} {b:Bool} {Q:Bool->Shared->Prop}
  (hC:h.get? C=some (excClassObj nm q C N bs bm hdct sn sub ab col dd k0 k1 k2 k3 k5 newId)) (hD:h.get? C'=some (excClassObj nm' q' C' N' bs' bm' zk sn' sub' ab' col' EG l0 l1 l2 l3 l5 newId')) (he:h.get? e=some oe) (hcls:oe.cls=.ref C)
  (hb':(Value.ref C'::bm').contains (.type "BaseException")=true) (hb:(Value.ref C::bm).contains (.ref C')=b) (hq:Q b ⟨h, g, d, t, os⟩):wpAny M A (excMatches (.ref e) (.ref C')) Q E ⟨h, g, d, t, os⟩:=by
 have f:=tc_notTuple
 unfold excMatches
 repeat (first | (with_reducible refine wpAny_loadPart_at he ?_;rw [hcls]) | with_reducible refine wpAny_loadPart_at hD ?_ | (with_reducible refine wpAny_isSubtype_exc hD ?_;rw [hb']) | (with_reducible refine wpAny_isSubtype_exc hC ?_;rw [hb]) | wp_step)
 cases b <;> (wp_walk;exact hq)
end
section
variable {X:Cx} {pins:List (Addr×Obj)} {σ:St} {H:Hp} {s:Shared}
theorem CI {M:Model} {A:Around} {E:Value->Shared->Prop} {i:Nat} {x:Str} {pos:Pos} {Q:Unit->Shared->Prop} (I:Inv X pins σ H s) (hN:X.N.Nodup) (hi:X.N[i]? = some x) (hk:X.env.scope.names.lookup x=some .local)
  (h:∀ s',Inv X pins (σ.set i none) H s'->Q () s'):wpAny M A (do bindName X.env x .none;unbindBehindTheSuite X.env x pos) Q E s:=by
 obtain ⟨m,hn,hl⟩:=id I.loc
 have hcls:(X.env.scope.kind == .class||(X.env.scope.kind == .module&&X.env.locals != X.env.globals))=false:=by rw [I.ok.kind];rfl
 have Aa:=I.Aa
 refine wpAny_nameGoes_keeps hk hn hcls fun h' v hn' hs=>?_
 have off:∀ b o,X.s₀.heap.get? b=some o->h'.get? b=s.heap.get? b:=fun b o e=>hs.2 b (Nat.ne_of_lt (Nat.lt_of_lt_of_le (Heap.lt_size e) I.ok.above))
 refine h _ ⟨I.ok,I.os,I.bare,⟨fun b o e n hb hx=>(off b o e).trans (I.base.keep b o e n hb hx),fun b o e n hb hx=>?_,I.base.free,fun b o e hx=>?_,I.base.tups,I.base.c7,I.base.gj⟩,⟨_,hn',fun j y v' e1 e2 e3=>?_⟩,fun y c e=>?_,I.free,I.bT,fun p hp=>?_,fun b ob e=>?_,by simpa using I.len⟩
 ·obtain ⟨sl,e1⟩:=I.base.slot b o e n hb hx
  exact ⟨sl,(off b o e).trans e1⟩
 ·obtain ⟨o',e1⟩:=I.base.there b o e hx
  exact ⟨o',(off b o e).trans e1⟩
 ·by_cases hj:j=i
  ·subst hj
   rw [List.getElem?_set] at e2
   split at e2
   ·split at e2 <;> cases e2
   ·rename_i z;exact absurd rfl z
  ·rw [List.getElem?_set_ne (Ne.symm hj)] at e2
   obtain ⟨u',r',q⟩:=hl j y v' e1 e2 e3
   refine ⟨u',r',q.imp (fun ⟨k,e⟩=>⟨k,?_⟩) fun ⟨k,c,e,z⟩=>⟨k,c,e,z.sameBut hs (Aa y c e)⟩⟩
   have:y≠x:=fun e=>hj (ki hN e1 (e ▸ hi))
   simp [this,e]
 ·obtain ⟨w',z⟩:=I.cell y c e
  exact ⟨w',z.sameBut hs (Aa y c e)⟩
 ·obtain ⟨e,n,ne,nf,d⟩:=I.pin p hp
  exact ⟨(hs.2 p.1 ne).trans e,n,ne,nf,d⟩
 ·refine (I.hok b ob e).stay (fun c w' hc q=>(hs.2 c ?_).trans q) (fun _ q=>q) fun _ _ q=>q
  rintro rfl
  rcases hc with z | z
  ·rw [<- z,I.free] at e;cases e
  ·rw [I.free] at z;cases z
theorem E1 {a:Addr} {o:HO} {oe:Obj} {vs:Array Value} (I:Inv X pins σ H s) (h0:H a=none) (he:s.heap.get? a=some oe) (hd:oe.data=.fields vs) (old:∀ ob,X.s₀.heap.get? a=some ob->a∈X.ex) (pn:∀ p∈X.pn++pins,p.1≠a)
  (new:aO X.prog X.w (upd H a o) s.heap a o):Inv X pins σ (upd H a o) s:=by
 have ne:∀ {b u},H b=some u->b≠a:=fun e z=>by rw [z,h0] at e;cases e
 refine ⟨I.ok,I.os,I.bare,⟨I.base.keep,I.base.slot,fun b ob e n hx=>?_,I.base.there,fun b xs e=>?_,fun b ob u e=>?_,fun b ps e=>?_⟩,I.loc,I.cell,?_,fun x c e=>?_,fun p hp=>?_,fun b u e=>?_,I.len⟩
 ·rw [aj (by rintro rfl;exact hx (old ob e))];exact I.base.free b ob e n hx
 ·have:=I.base.tups b xs e
  rw [aj (ne this)];exact this
 ·have:=I.base.c7 b ob u e
  rw [aj (ne this)];exact this
 ·obtain ⟨more,q⟩:=I.base.gj b ps e
  exact ⟨more,by rw [aj (ne q)];exact q⟩
 ·obtain ⟨m,⟨oL,es,ep,ho,hdL,_⟩,_⟩:=I.loc
  rw [aj (by intro z;rw [z,he] at ho;cases ho;rw [hd] at hdL;cases hdL)];exact I.free
 ·obtain ⟨v,oc,h1,h2⟩:=I.cell x c e
  rw [aj (by rintro rfl;rw [he] at h1;cases h1;rw [hd] at h2;cases h2)];exact I.bT x c e
 ·obtain ⟨e,n,r⟩:=I.pin p hp
  exact ⟨e,by rw [aj (pn p hp)];exact n,r⟩
 ·by_cases hb:b=a
  ·subst hb;rw [ay] at e;cases e;exact new
  ·rw [aj hb] at e
   exact (I.hok b u e).stay (fun c v _ q=>q) (fun c q=>by rw [aj (ne q)];exact q) fun c xs q=>by rw [aj (ne q)];exact q
end
noncomputable abbrev TX:=Addr->TS
noncomputable def asR (i:Nat) (t:Value->TS):TX:=fun C D σ H=>∀ a oe vs,H a=none->oe.data=.fields vs->vs[2]? = some .none->t (.ref a) { nx:=fun σ' H'=>D.nx (σ'.set i none) H',rt:=fun _ _=>False } (σ.set i (some (.ref a))) (upd H a (.dF oe (.ext (IP a C))))
noncomputable def pick (mro:List Value):List (Addr×TX)->Option TX
 | []=>none
 | (C',t)::r=>if mro.contains (.ref C') then some t else pick mro r
noncomputable def EH (K:W.Frag) (rs:List (Addr×TX)) (D:Ends):XS:=fun cv x σ H=>∃ C bmB newId bm t,cv=.ref C/\nY K C bmB newId bm/\pick (.ref C::bm) rs=some t/\t C D σ H
inductive PH (X:Cx):List ExceptHandler->List (Addr×TX)->Prop
 | nil:PH X [] []
 | cons {x:Str} {C':Addr} {bmB:List Value} {newId:String} {bm:List Value} {b₀:Stmt} {b:List Stmt} {t:TS} {np pos:Pos} {hs:List ExceptHandler} {rs:List (Addr×TX)} :
   X.mg x=some (.ref C')->Gl X x->(x == ("__debug__" : Str))=false->nY X.K C' bmB newId bm->bm.contains (.type "BaseException")=true->(∀ e, jd (suite X e) (b₀::b) t)->PH X hs rs ->
   PH X (.ExceptHandler (some (.Name x np)) none (b₀::b) pos::hs) ((C',fun _=>t)::rs)
 | as {x y:Str} {i:Nat} {C':Addr} {bmB:List Value} {newId:String} {bm:List Value} {b₀:Stmt} {b:List Stmt} {t:Value->TS} {np pos:Pos} {hs:List ExceptHandler} {rs:List (Addr×TX)} :
   X.mg x=some (.ref C')->Gl X x->(x == ("__debug__" : Str))=false->nY X.K C' bmB newId bm->bm.contains (.type "BaseException")=true->X.N.Nodup->X.N[i]? = some y->X.env.scope.names.lookup y=some .local->(∀ e, jd (suite X e) (b₀::b) (t e))->PH X hs rs ->
   PH X (.ExceptHandler (some (.Name x np)) (some y) (b₀::b) pos::hs) ((C',asR i t)::rs)
section
variable {X:Cx} {C a:Addr} {a0:Value} {B:Heap} {σ:St} {H:Hp} {s:Shared}
theorem zl (I:Inv X [] σ H s) (fl:iN B X.stack a (.ref C) a0 s.heap) (ef:Calm B (frs X.stack) X.ex H X.s₀.heap) (hp:∀ p∈X.pn,B.get? p.1=some p.2):H a=none/\∃ oe vs,oe.data=.fields vs/\vs[2]? = some .none/\Inv X [] σ (upd H a (.dF oe (.ext (IP a C)))) s:=by
 obtain ⟨oe,vs,T,oT,ts,he,⟨hc,hv⟩,hd,_⟩:=fl.2.2.2
 have nf:a∉frs X.stack:=fun z=>kI I a z oe he vs hd
 have no:∀ {P:Prop},(∃ o,B.get? a=some o)->P:=fun ⟨o,e⟩=>by rw [fl.2.1] at e;cases e
 have h0:H a=none:=by
  cases e:H a with
  | none=>rfl
  | some u=>exact no (ef a (.inl (by rw [e];simp)) nf)
 refine ⟨h0,oe,vs,hd,hv.2,E1 I h0 he hd (fun ob e=>?_) (fun p q z=>?_) ⟨he,⟨oe,he,hc⟩,⟨oe,he⟩,fun h1 h2 ⟨o,q,k⟩ st=>⟨o,st o q,k⟩⟩⟩
 ·by_cases hx:a∈X.ex
  ·exact hx
  ·exact no (ef a (.inr ⟨⟨ob,e⟩,hx⟩) nf)
 ·exact no ⟨_,z ▸ hp p (by simpa using q)⟩
end
theorem handle {X:Cx} {hs:List ExceptHandler} {rs:List (Addr×TX)} (ph:PH X hs rs) {C a:Addr} {a0:Value} {B:Heap} {bmB:List Value} {newId:String} {bm:List Value} {t:TX} {D:Ends} {σ:St} {H:Hp} {s:Shared} (EC:nY X.K C bmB newId bm) (pk:pick (.ref C::bm) rs=some t)
  (I:Inv X [] σ H s) (fl:iN B X.stack a (.ref C) a0 s.heap) (ef:Calm B (frs X.stack) X.ex H X.s₀.heap) (hp:∀ p∈X.pn,B.get? p.1=some p.2) (ht:t C D σ H) :
  wpAny (model X.prog X.w) X.A (handleBy (.ref a) X.env hs) (SP X [] D) X.xe s:=by
 obtain ⟨nm,q,N,bs,hdct,sn,sub,ab,col,dd,k0,k1,k2,k3,k5,lk,_⟩:=EC
 obtain ⟨oe,CH,hcl⟩:=fl.there
 obtain ⟨hp',g,d,tk,os⟩:=s
 induction ph with
 | nil=>cases pk
 | cons hm hg hd EC' hb' hsu ph ih =>
  obtain ⟨nm',q',N',bs',zk,sn',sub',ab',col',EG,l0,l1,l2,l3,l5,lk',_⟩:=EC'
  refine wpAny_handleBy_cons (codeAny_handlers_test (Calls.Name_function_global I.ok.kind hg (Calls.loadGlobal_global (by rw [I.ok.glob];exact I.mod.glob.keeps I.bk) hm ?_) hd)) (by intro q;cases q)
  refine jn (I.fF _ _ lk) (I.fF _ _ lk') CH hcl (by rw [List.contains_cons,hb',Bool.or_true]) rfl ?_
  simp only [pick] at pk
  cases hc:(Value.ref C::bm).contains (.ref _) with
  | true =>
   rw [hc] at pk
   simp only [if_true,Option.some.injEq] at pk
   subst pk
   refine codeAny_handlers_suite (Ea fl fun h6 MT JS=>?_)
   have I6:=iy I ef hp fl.1 MT.1 JS
   exact wpAny_mono (hsu (.ref a) [] _ σ H D (lW I6) ht) (fun f s2 z=>qG I.ok z) fun _ _ z=>z.elim
  | false =>
   rw [hc] at pk
   exact ih pk
 | as hm hg hd EC' hb' hN hi hl hsu ph ih =>
  obtain ⟨nm',q',N',bs',zk,sn',sub',ab',col',EG,l0,l1,l2,l3,l5,lk',_⟩:=EC'
  refine wpAny_handleBy_cons (codeAny_handlers_test (Calls.Name_function_global I.ok.kind hg (Calls.loadGlobal_global (by rw [I.ok.glob];exact I.mod.glob.keeps I.bk) hm ?_) hd)) (by intro q;cases q)
  refine jn (I.fF _ _ lk) (I.fF _ _ lk') CH hcl (by rw [List.contains_cons,hb',Bool.or_true]) rfl ?_
  simp only [pick] at pk
  cases hc:(Value.ref C::bm).contains (.ref _) with
  | true =>
   rw [hc] at pk
   simp only [if_true,Option.some.injEq] at pk
   subst pk
   refine codeAny_handlers_suite_as (Ea fl fun h6 MT JS=>?_)
   obtain ⟨h0,oe',vs',hd',hv',I6⟩:=zl (iy I ef hp fl.1 MT.1 JS) MT ef hp
   refine jY (X:=suite X (.ref a)) (v:=.ref a) (lW I6) hN hi (.inl hl) rfl (fun s2 I2=>?_) (.inr hl)
   refine wpAny_mono (hsu (.ref a) [] s2 _ _ _ I2 (ht a oe' vs' h0 hd' hv')) (fun f s3 z=>?_) fun _ _ z=>z.elim
   cases f with
   | next =>
    obtain ⟨σ',H',I3,q⟩:=z
    exact CI (cj I.ok I3) hN hi hl fun s4 I4=>⟨_,H',I4,q⟩
   | brk=>obtain ⟨_,_,_,q⟩:=z;exact q.elim
   | cont=>obtain ⟨_,_,_,q⟩:=z;exact q.elim
   | ret u=>obtain ⟨_,_,_,_,_,q⟩:=z;exact q.elim
  | false =>
   rw [hc] at pk
   exact ih pk
theorem FY {X:Cx} {body:List Stmt} {h₀:ExceptHandler} {hs:List ExceptHandler} {pos:Pos} {rs:List (Addr×TX)} {t:Ends->TS} (stk:X.stack=X.env::X.outer) (hf:X.env.frame=some X.env.locals)
  (hb:∀ pins D,jd ((fL X pins).bM (gY (fL X pins) (EH X.K rs D))) body (t D)) (ph:∀ pins,PH (fL X pins) (h₀::hs) rs):PS X (.Try body (h₀::hs) [] [] pos) (fun D σ H=>t D D σ H):=by
 intro pins s σ H D I ht
 refine wpAny_Try_except (wpAny_mono (hb pins D [] s σ H D ((zb I).bM _) ht) (fun f s1 z=>?_) fun e s1 z=>?_)
 ·have z':=lG (SP.aX z)
  cases f with
  | next=>exact wpAny_execs_nil z'
  | brk=>exact z'
  | cont=>exact z'
  | ret u=>exact z'
 ·obtain ⟨j9,σ1,H1,a,a0,cv,B,rfl,I1,fl,ef,hp,C,bmB,newId,bm,tt,rfl,EC,pk,hts⟩:=z
  have go:∀ h5,iN B (X.env::X.outer) a (.ref C) a0 h5->s1.heap.UpToSlots h5->wpAny (model X.prog X.w) X.A (handleBy (.ref a) X.env (h₀::hs)) (SP X pins D) X.xe { s1 with heap:=h5 }:=fun h5 MU xm=>by
   have I5:=iy I1 ef hp fl.1 MU.1 xm
   exact wpAny_mono (handle (ph pins) EC pk I5 (by show iN B X.stack _ _ _ _;rw [stk];exact MU) ef hp hts) (fun f s2 z=>lG z) fun _ _ z=>z
  exact Up.note (L:=X.env.locals) (env:=X.env) (outer:=X.outer) (by rw [I.ok.frames,stk]) hf (by rw [<- stk];exact fl) fun h4 held vh=>Eb held fun h5 MU xm=>go h5 MU (vh.trans xm)
end Fg
end
section
namespace Fg
open PySem PySem.Spec L2
theorem Up.pass {M:Model} {A:Around} {E:Value->Shared->Prop} {s:Shared} {α:Type} {Q:α->Shared->Prop} {B:Heap} {l:List Env} {a:Addr} {C a0:Value} {env:Env} {what:String} (up:Up B l a C a0 s.heap)
  (k:∀ h',Up B l a C a0 h'->s.heap.UpToSlots h'->E (.ref a) { s with heap:=h' }):wpAny M A (passOn what (.ref a) env:Sem α) Q E s:=by
 obtain ⟨st,ne,hl,fl,oe,vs,T,oT,ts,q1,q2,q3,q4,q5,q6,q7,q8,q9⟩:=up
 have q0:3<ts.size:=(Array.getElem?_eq_some_iff.mp q9).1
 have m7:∀ x b,b≠T->(s.heap.update T (Obj.mapFields (·.setIfInBounds 3 x))).get? b=s.heap.get? b:=fun x b hb=>Heap.get?_update_other _ _ (Ne.symm hb)
 have o7:∀ b o,s.heap.get? b=some o->(∀ vs,o.data≠.fields vs)->b≠T:=fun b o hb hn z=>by
  rw [z,q7] at hb
  cases hb
  exact hn ts q8
 unfold passOn
 refine wpAny_bind (wpAny_field q1 q3 q4 ?_)
 rw [if_neg (by simp)]
 refine wpAny_bind ?_
 unfold setFlight
 refine wpAny_bind (wpAny_field q1 q3 q4 ?_)
 rw [if_pos (by simp)]
 refine wpAny_setField q7 q8 q0 ?_
 refine wpAny_throw (k _ ⟨fun b o e=>?_,ne,hl.of_keeps fun b o hb hn=>⟨o,(m7 _ b (o7 b o hb hn)).trans hb,rfl⟩,?_⟩ fun b o hb hn=>⟨o.slots,(m7 _ b (o7 b o hb hn)).trans hb⟩)
 ·exact (m7 _ b (by rintro rfl;rw [q5] at e;cases e)).trans (st b o e)
 ·exact ⟨_,oe,vs,T,_,_,(m7 _ a (Ne.symm q6)).trans q1,q2,q3,q4,q5,q6,Heap.get?_update_self _ q7 (Obj.isFreed_of_fields (Obj.data_mapFields q8 _)),Obj.data_mapFields q8 _,Array.getElem?_setIfInBounds_self_of_lt q0⟩
theorem Up.hide {B h h':Heap} {l:List Env} {a c:Addr} {C a0:Value} (up:Up B l a C a0 h) (sb:Heap.SameBut c h h') (hc:∃ o,h.get? c=some o/\∀ vs,o.data≠.fields vs) (hfr:c∉frs l):Up (B.hide c) l a C a0 h':=by
 obtain ⟨st,ne,hl,fl,oe,vs,T,oT,ts,q1,q2,q3,q4,q5,q6,q7,q8,q9⟩:=up
 obtain ⟨oc,hoc,hd⟩:=hc
 have hn:∀ {b:Addr},B.get? b=none->(B.hide c).get? b=none:=fun {b} e=>by
  cases q:(B.hide c).get? b with
  | none=>rfl
  | some o=>rw [Heap.of_hide q] at e;cases e
 have hac:a≠c:=by rintro rfl;rw [hoc] at q1;cases q1;exact hd _ q3
 have hTc:T≠c:=by rintro rfl;rw [hoc] at q7;cases q7;exact hd _ q8
 have ff:∀ l',(∀ b∈frs l',b∈frs l)->h.FunFrames B l'->h'.FunFrames (B.hide c) l':=by
  intro l'
  induction l' with
  | nil=>intro _ _;trivial
  | cons env r ih =>
   intro hs hl'
   obtain ⟨hk,⟨L,o,hf,hnn,ho,hdd⟩,hr⟩:=hl'
   have hL:L∈frs l:=hs L (by unfold frs;rw [List.filterMap_cons,hf];exact List.mem_cons_self)
   exact ⟨hk,⟨L,o,hf,hn hnn,by rw [sb.2 L (by rintro rfl;exact hfr hL)];exact ho,hdd⟩,ih (fun b hb=>hs b (by unfold frs;rw [List.filterMap_cons,hf];exact List.mem_cons_of_mem _ hb)) hr⟩
 refine ⟨fun b o e=>?_,hn ne,ff l (fun _ z=>z) hl,fl,oe,vs,T,oT,ts,by rw [sb.2 a hac];exact q1,q2,q3,q4,hn q5,q6,by rw [sb.2 T hTc];exact q7,q8,q9⟩
 have hbc:b≠c:=by rintro rfl;rw [Heap.hide_self] at e;cases e
 rw [sb.2 b hbc]
 exact st b o (Heap.of_hide e)
noncomputable def qt (X:Cx):Prop:=∃ env outer L,X.stack=env::outer/\env.frame=some L/\X.env.frame=some L
end Fg
end
section
namespace Fg
open PySem PySem.Spec L2
noncomputable def qF (sp:Sp) (Ex:XS) (t:TA):TE:=fun σ H Q=>t σ H fun vs H1=>sp vs H1 Q fun cv x H'=>Ex cv x σ H'
section
variable {X:Cx} {cm:Bool} {Ex:XS} {k:Nat} {f:Addr} {fd:FuncData} {ps:List Str} {sp:Sp} {x:Str} {p pos:Pos} {e:Expr} {es:List Expr} {t:TA}
theorem xD {pins:List (Addr×Obj)} {σ:St} {H:Hp} {s:Shared} {Q:VK} {us:List Value} {vs:List V} (F:aZ cm X.prog X.w X.K X.mg X.base (eB X.prog X.w) k f fd ps sp) (hr:bG cm k X.A) (hcx:cm=false->HX X.A H) (hb:Binds X.K fd ps []) (hx:∀ e s,gY X Ex e s->X.xe e s)
  (I:Inv X pins σ H s) (r:Vals vs us) (h:sp vs H Q fun cv x H'=>Ex cv x σ H'):wpAny (model X.prog X.w) X.A (call (.ref f) us) (EP X pins σ Q) X.xe s:=by
 have hl:(us++[]).length=ps.length:=by rw [List.append_nil,<- r.length];exact F.len _ _ _ _ h
 have bd:=hb s us I.fF hl
 rw [List.append_nil] at bd
 refine wpAny_call (codeAny_mono (F.run X.A X.stack s H ⟨us,[]⟩ us vs Q _ hr hcx I.jH bd r h) fun z s' hq=>?_)
 match z,hq with
 | .error e,hq=>exact passes hx pins σ H s e s' I hq
 | .ok (.ret u),hq=>exact I.after hq
 | .ok .next,hq=>exact hq.elim
 | .ok .brk,hq=>exact hq.elim
 | .ok .cont,hq=>exact hq.elim
theorem x9 (F:aZ true X.prog X.w X.K X.mg X.base (eB X.prog X.w) k f fd ps sp) (hr:bG true k X.A) (hg:Gl X x) (hm:X.mg x=some (.ref f)) (hk:W.keepIn X.K (.ref f)=true) (hb:Binds X.K fd ps []) (hx:∀ e s,gY X Ex e s->X.xe e s)
  (ha:PA X (e::es) t) (hdb:(x == ("__debug__" : Str))=false) (he:starEach (e::es) X.env=(false, eval e X.env)::starEach es X.env) (hpl:(backTo pos (starEach es X.env)).any (·.1)=false) :
  PE X (.Call (.Name x p) (e::es) [] pos) (qF sp Ex t):=fun pins s σ H Q I h =>
 wpAny_Call_Name_kw (cJ I hg hm (W.callWith_K (h₀:=X.base) I.ok.mod.yK hk (aS (ha pos pins s σ H _ I h) fun us s1 ⟨vs,H1,I1,r,q⟩=>⟨I1.fF,xD F hr (fun z=>nomatch z) hb hx I1 r q⟩) he hpl) hdb)
theorem x8 {i:Nat} {y:Str} {q:Pos} (F:aZ false X.prog X.w X.K X.mg X.base (eB X.prog X.w) k f fd ps sp) (hr:bG false k X.A) (hg:Gl X x) (hm:X.mg x=some (.ref f)) (hk:W.keepIn X.K (.ref f)=true) (hb:Binds X.K fd ps []) (hx:∀ e s,gY X Ex e s->X.xe e s)
  (hv:PE X (.Name y q) (AW i)) (hdb:(x == ("__debug__" : Str))=false) :
  PE X (.Call (.Name x p) [.Name y q] [] pos) (fun σ H Q=>HX X.A H/\∃ v,σ[i]? = some (some v)/\sp [v] H Q fun cv x H'=>Ex cv x σ H'):=fun pins s σ H Q I ⟨hh,v,e,h⟩ =>
 wpAny_Call_Name_kw (cJ I hg hm (W.callWith_K (h₀:=X.base) I.ok.mod.yK hk (aS (aT hv cQ rfl pos pins s σ H (fun vs H1=>HX X.A H1/\sp vs H1 Q fun cv x H'=>Ex cv x σ H') I ⟨v,e,hh,h⟩) fun us s1 ⟨vs,H1,I1,r,hh1,q⟩=>⟨I1.fF,xD F hr (fun _=>hh1) hb hx I1 r q⟩) rfl rfl) hdb)
theorem vD (F:aZ true X.prog X.w X.K X.mg X.base (eB X.prog X.w) k f fd ps sp) (hr:bG true k X.A) (hg:Gl X x) (hm:X.mg x=some (.ref f)) (hk:W.keepIn X.K (.ref f)=true) (hb:Binds X.K fd ps []) (hx:∀ e s, gY X Ex e s->X.xe e s) (hdb:(x == ("__debug__" : Str))=false) :
  PE X (.Call (.Name x p) [] [] pos) (qF sp Ex iR):=fun pins s σ H Q I h =>
 wpAny_Call_Name_kw (cJ I hg hm (W.callWith_K0 I.fF hk (xD (us:=[]) F hr (fun z=>nomatch z) hb hx I .nil h)) hdb)
noncomputable def KB (K:W.Frag) (fd:FuncData) (ps:List Str) (z:Str):Prop:=∀ (s:Shared) (us:List Value) (w:Value),K.In s.heap->us.length+1=ps.length->BindsTo s fd ⟨us,[(z,w)]⟩ (ps.zip (us++[w]))
noncomputable def qE (sp:Sp) (Ex:XS) (t:TA) (te:TE):TE:=fun σ H Q=>t σ H fun vs H1=>te σ H1 fun z H2=>[z].length=1/\sp (vs++[z]) H2 Q fun cv x H'=>Ex cv x σ H'
theorem x6 {kw:Str} {v:Expr} {kp:Pos} {te:TE} (F:aZ true X.prog X.w X.K X.mg X.base (eB X.prog X.w) k f fd ps sp) (hr:bG true k X.A) (hg:Gl X x) (hm:X.mg x=some (.ref f)) (hk:W.keepIn X.K (.ref f)=true) (hb:KB X.K fd ps kw) (hx:∀ e s,gY X Ex e s->X.xe e s)
  (ha:PA X (e::es) t) (hv:PE X v te) (hdb:(x == ("__debug__" : Str))=false) (he:starEach (e::es) X.env=(false, eval e X.env)::starEach es X.env) (hpl:(backTo pos (starEach es X.env)).any (·.1)=false) :
  PE X (.Call (.Name x p) (e::es) [⟨some kw,v,kp⟩] pos) (Fg.qE sp Ex t te):=by
 intro pins s σ H Q I h
 refine wpAny_Call_Name_kw (cJ I hg hm ?_ hdb)
 refine W.callWith_KW (h₀:=X.base) I.ok.mod.yK hk rfl (aS (ha pos pins s σ H _ I h) fun us s1 ⟨vs,H1,I1,r,q⟩=>?_) (by rw [he];show ((false||(backTo pos (starEach es X.env)).any (·.1))||false)=false;rw [hpl];rfl) he
 refine aS (BV hv F9 pos pins s1 σ H1 (fun zs H2=>zs.length=1/\sp (vs++zs) H2 Q fun cv x H'=>Ex cv x σ H') I1 q) fun ws s2 ⟨zs,H2,I2,rz,hz,q2⟩=>⟨I2.fF,?_⟩
 obtain ⟨z,rfl⟩:=List.length_eq_one_iff.mp hz
 cases rz with
 | cons rz rn =>
  cases rn
  have r2:=r.append (.cons rz .nil)
  have hl:=F.len _ _ _ _ q2
  rw [r2.length] at hl
  refine wpAny_call (codeAny_mono (F.run X.A X.stack s2 H2 _ _ _ Q _ hr (fun z=>nomatch z) I2.jH (hb s2 us _ I2.fF (by simpa using hl)) r2 q2) fun z s' hq=>?_)
  match z,hq with
  | .error e,hq=>exact passes hx pins σ H2 s2 e s' I2 hq
  | .ok (.ret u),hq=>exact I2.after hq
  | .ok .next,hq=>exact hq.elim
  | .ok .brk,hq=>exact hq.elim
  | .ok .cont,hq=>exact hq.elim
noncomputable def w5 (sp:Sp) (dv:V) (Ex:XS) (t:TA):TE:=fun σ H Q=>t σ H fun vs H1=>sp (vs++[dv]) H1 Q fun cv x H'=>Ex cv x σ H'
theorem runD {pins:List (Addr×Obj)} {σ:St} {H:Hp} {s:Shared} {Q:VK} {us:List Value} {vs:List V} {dv:V} {du:Value} (F:aZ true X.prog X.w X.K X.mg X.base (eB X.prog X.w) k f fd ps sp) (hr:bG true k X.A) (hb:Binds X.K fd ps [du]) (hd:RelV dv du) (hx:∀ e s,gY X Ex e s->X.xe e s)
  (I:Inv X pins σ H s) (r:Vals vs us) (h:sp (vs++[dv]) H Q fun cv x H'=>Ex cv x σ H'):wpAny (model X.prog X.w) X.A (call (.ref f) us) (EP X pins σ Q) X.xe s:=by
 have r2:Vals (vs++[dv]) (us++[du]):=r.append (.cons hd .nil)
 have hl:(us++[du]).length=ps.length:=by rw [<- r2.length];exact F.len _ _ _ _ h
 have bd:=hb s us I.fF hl
 refine wpAny_call (codeAny_mono (F.run X.A X.stack s H ⟨us,[]⟩ (us++[du]) (vs++[dv]) Q _ hr (fun z=>nomatch z) I.jH bd r2 h) fun z s' hq=>?_)
 match z,hq with
 | .error e,hq=>exact passes hx pins σ H s e s' I hq
 | .ok (.ret u),hq=>exact I.after hq
 | .ok .next,hq=>exact hq.elim
 | .ok .brk,hq=>exact hq.elim
 | .ok .cont,hq=>exact hq.elim
theorem ya {dv:V} {du:Value} (F:aZ true X.prog X.w X.K X.mg X.base (eB X.prog X.w) k f fd ps sp) (hr:bG true k X.A) (hg:Gl X x) (hm:X.mg x=some (.ref f)) (hk:W.keepIn X.K (.ref f)=true) (hb:Binds X.K fd ps [du]) (hd:RelV dv du) (hx:∀ e s,gY X Ex e s->X.xe e s)
  (ha:PA X (e::es) t) (hdb:(x == ("__debug__" : Str))=false) (he:starEach (e::es) X.env=(false, eval e X.env)::starEach es X.env) (hpl:(backTo pos (starEach es X.env)).any (·.1)=false) :
  PE X (.Call (.Name x p) (e::es) [] pos) (w5 sp dv Ex t):=fun pins s σ H Q I h =>
 wpAny_Call_Name_kw (cJ I hg hm (W.callWith_K (h₀:=X.base) I.ok.mod.yK hk (aS (ha pos pins s σ H _ I h) fun us s1 ⟨vs,H1,I1,r,q⟩=>⟨I1.fF,runD F hr hb hd hx I1 r q⟩) he hpl) hdb)
end
end Fg
end
section
namespace Fg
open PySem PySem.Spec L2
theorem Up.back {M:Model} {A:Around} {E:Value->Shared->Prop} {s:Shared} {B:Heap} {l:List Env} {a:Addr} {C a0:Value} {env:Env} (up:Up B l a C a0 s.heap)
  (k:∀ h',Up B l a C a0 h'->s.heap.UpToSlots h'->E (.ref a) { s with heap:=h' }):cameBackBy M A env E (.ref a) s:=by
 obtain ⟨st,ne,hl,fl,oe,vs,T,oT,ts,q1,q2,q3,q4,q5,q6,q7,q8,q9⟩:=up
 have q0:3<ts.size:=(Array.getElem?_eq_some_iff.mp q9).1
 have m7:∀ x b,b≠T->(s.heap.update T (Obj.mapFields (·.setIfInBounds 3 x))).get? b=s.heap.get? b:=fun x b hb=>Heap.get?_update_other _ _ (Ne.symm hb)
 have o7:∀ b o,s.heap.get? b=some o->(∀ vs,o.data≠.fields vs)->b≠T:=fun b o hb hn z=>by
  rw [z,q7] at hb
  cases hb
  exact hn ts q8
 unfold cameBackBy
 refine wpAny_bind (wpAny_field q1 q3 q4 ?_)
 rw [if_neg (by simp)]
 unfold setFlight
 refine wpAny_bind (wpAny_field q1 q3 q4 ?_)
 rw [if_pos (by simp)]
 refine wpAny_setField q7 q8 q0 ?_
 refine k _ ⟨fun b o e=>?_,ne,hl.of_keeps fun b o hb hn=>⟨o,(m7 _ b (o7 b o hb hn)).trans hb,rfl⟩,?_⟩ fun b o hb hn=>⟨o.slots,(m7 _ b (o7 b o hb hn)).trans hb⟩
 ·exact (m7 _ b (by rintro rfl;rw [q5] at e;cases e)).trans (st b o e)
 ·exact ⟨_,oe,vs,T,_,_,(m7 _ a (Ne.symm q6)).trans q1,q2,q3,q4,q5,q6,Heap.get?_update_self _ q7 (Obj.isFreed_of_fields (Obj.data_mapFields q8 _)),Obj.data_mapFields q8 _,Array.getElem?_setIfInBounds_self_of_lt q0⟩
theorem qW {X:Cx} {E:XS} (fr:qt X) (fo:∀ e s,X.xe e s->gY X E e s\/EV X E e s) (fx:∀ e s,gY X E e s->X.xe e s):PassesOwn (model X.prog X.w) X.A X.env X.xe:=by
 intro e s q
 obtain ⟨jH,mZ,L,hst,HS,ML⟩:=fr
 rcases fo e s q with q | q
 ·obtain ⟨pins,σ,H,a,a0,C,B,rfl,I,up,ef,hp,q⟩:=q
  show wpAny _ X.A (noteFrame (.ref a) X.env) _ _ s
  rw [nc (env:=X.env) (env':=jH) (ML.trans HS.symm)]
  refine Up.note (env:=jH) (outer:=mZ) (by rw [I.ok.frames,hst]) HS (by rw [<- hst];exact up) fun h4 held vh=>?_
  refine (Up.t9 held).back fun h5 EY xm=>fx _ _ ?_
  have J:=iy I ef hp up.1 EY.1 (vh.trans xm)
  have up':Up B X.stack a C a0 h5:=by rw [hst];exact EY
  exact ⟨[],σ,H,a,a0,C,B,rfl,J,up',ef,hp,q⟩
 ·obtain ⟨pins,σ,H,a,C,vs,h,rfl,I,made,q⟩:=q
  show wpAny _ X.A (noteFrame (.ref a) X.env) _ _ s
  rw [nc (env:=X.env) (env':=jH) (ML.trans HS.symm)]
  have jx:(W.hideAll h (frs X.stack)).StaysIn h:=fun b o q=>W.of_hideAll _ q
  have ef:Calm (W.hideAll h (frs X.stack)) (frs X.stack) X.ex H X.s₀.heap:=fun b hb hf=>by
   have:∃ o,h.get? b=some o:=by
    rcases hb with hb | ⟨⟨o,hb⟩,nx⟩
    ·cases e:H b with
     | none=>exact absurd e hb
     | some o=>exact lO (I.hok b o e)
    ·exact gg I hb nx
   obtain ⟨o,e⟩:=this
   exact ⟨o,W.hideAll_get _ e hf⟩
  have hp:∀ p∈X.pn,(W.hideAll h (frs X.stack)).get? p.1=some p.2:=fun p hp=>by
   obtain ⟨p1,p2,p3,p4,_⟩:=I.pin p (List.mem_append_left _ hp)
   refine W.hideAll_get _ p1 fun z=>?_
   rcases List.mem_cons.mp (I.eE _ z) with e | z
   ·exact p3 e
   ·exact p4 z
  have hl:h.FunFrames (W.hideAll h (frs X.stack)) X.stack:=W.funFrames_hide I.stack fun env he b hb=>List.mem_filterMap.mpr ⟨env,he,hb⟩
  refine pG (env:=jH) (outer:=mZ) (by rw [show X.A.frames=some X.stack from I.ok.frames,hst]) HS made jx (hst ▸ hl) fun a0 h4 Ja vh=>?_
  refine Ja.back fun h5 EY xm=>fx _ _ ?_
  have sm:h.UpToSlots h5:=(Heap.UpToSlots.of_keeps made.keeps).trans (vh.trans xm)
  have J:=iy I ef hp jx EY.1 sm
  have up':Up (W.hideAll h (frs X.stack)) X.stack a C a0 h5:=by
   have z:∀ l,l=X.stack->Up (W.hideAll h (frs X.stack)) l a C a0 h5->Up (W.hideAll h (frs X.stack)) X.stack a C a0 h5:=fun l e u=>e ▸ u
   exact z _ hst.symm EY
  exact ⟨[],σ,H,a,a0,C,_,rfl,J,up',ef,hp,q⟩
end Fg
end
section
namespace Fg
open PySem L2
mutual
noncomputable def DV (K:W.Frag) (H:Hp):D->V->Prop
 | .ao,v=>v=.ao
 | .bl b,v=>v=.bl b
 | .int i,v=>v=.int i
 | .str x,v=>v=.str x
 | .tup ds,v=>∃ a vs,v=.ref a/\gE K H a vs/\om K H ds vs
 | .lst ds,v=>∃ a vs,v=.ref a/\fq K H a vs/\om K H ds vs
 | .dct _ _,_=>False
 | .ref _,_=>False
 | .iP _,_=>False
noncomputable def om (K:W.Frag) (H:Hp):List D->List V->Prop
 | [],vs=>vs=[]
 | d::ds,vs=>∃ v ws,vs=v::ws/\DV K H d v/\om K H ds ws
end
section
variable {B:Bd} {Φ:aL} {E:Gx} {F F' F1:Addr->Prop} {ρ ρ' ρ1:List Addr} {H H' H1:Hp} {M M':MH} {σD:Sg} {σ:St} {Q:VK}
mutual
theorem RD.dv:∀ {d:D} {v:V},plain d=true->RD B F ρ H d v->DV B.K H d v
 | .ao,v,_,h=>by simp only [RD] at h;simp only [DV];exact h
 | .bl _,v,_,h=>by simp only [RD] at h;simp only [DV];exact h
 | .int _,v,_,h=>by simp only [RD] at h;simp only [DV];exact h
 | .str _,v,_,h=>by simp only [RD] at h;simp only [DV];exact h
 | .tup ds,v,p,h=>by
  simp only [RD] at h;simp only [DV];simp only [plain] at p
  obtain ⟨a,vs,h1,h2,h3⟩:=h
  exact ⟨a,vs,h1,h2.sq,ai.dv p h3⟩
 | .lst ds,v,p,h=>by
  simp only [RD] at h;simp only [DV];simp only [plain] at p
  obtain ⟨a,vs,h1,h2,h3⟩:=h
  exact ⟨a,vs,h1,h2.sq,ai.dv p h3⟩
 | .dct _ _,v,p,h=>by simp [plain] at p
 | .ref _,v,p,h=>by simp [plain] at p
 | .iP _,v,p,h=>by simp [plain] at p
theorem ai.dv:∀ {ds:List D} {vs:List V},dw ds=true->ai B F ρ H ds vs->om B.K H ds vs
 | [],vs,_,h=>by simp only [ai] at h;simp only [om];exact h
 | d::ds,vs,p,h=>by
  simp only [ai] at h;simp only [om];simp only [dw,Bool.and_eq_true] at p
  obtain ⟨v,ws,h1,h2,h3⟩:=h
  exact ⟨v,ws,h1,RD.dv p.1 h2,ai.dv p.2 h3⟩
end
theorem wY {d:D} {v:V} (S:SR B F ρ M H) (p:plain (top M d)=true) (h:RD B F ρ H d v):DV B.K H (top M d) v:=by
 cases d with
 | ref n =>
  cases hM:M[n]? with
  | none=>simp [top,hM,plain] at p
  | some o =>
   cases o with
   | lst ds =>
    obtain ⟨a,vs,e,q,r⟩:=bA (ds:=ds) S h (by simp only [vw,hM])
    simp only [top,hM,plain] at p
    simp only [top,hM,DV]
    exact ⟨a,vs,e,q,ai.dv p r⟩
   | dct _=>simp [top,hM,plain] at p
   | oj _=>simp [top,hM,plain] at p
   | ins _ _=>simp [top,hM,plain] at p
 | tup ds=>exact RD.dv p h
 | lst ds=>exact RD.dv p h
 | _=>exact RD.dv p h
noncomputable def xO (K:W.Frag) (neg:Bool):R2:=fun x y H Q=>∃ d e,DV K H d x/\DV K H e y/\ee d e=true/\Q (.bl (if neg then !aF d e else aF d e)) H
noncomputable def xN (K:W.Frag) (neg:Bool):R2:=fun x y H Q=>∃ l b xs,x=.ref l/\y=.ref b/\fq K H l xs/\fq K H b []/\Q (.bl (if neg then !xs.isEmpty else xs.isEmpty)) H
noncomputable def BI (neg:Bool):R2:=fun x y H Q=>∃ a b,x=.bl a/\y=.bl b/\Q (.bl (if neg then !(a == b) else (a == b))) H
noncomputable def xP (B:Bd) (neg:Bool):R2:=fun x y H Q=>∃ a kvs k,y=.ref a/\x=kV k/\IT B H a kvs/\Q (.bl (if neg then !(cG kvs k).isSome else (cG kvs k).isSome)) H
noncomputable def qT (B:Bd):AK->R2
 | .lt=>qS fun i j=>.bl (decide (i<j))
 | .le=>qS fun i j=>.bl (decide (i<=j))
 | .gt=>qS fun i j=>.bl (decide (j<i))
 | .ge=>qS fun i j=>.bl (decide (j<=i))
 | .eq=>fun x y H Q=>BI false x y H Q\/(xO B.K false x y H Q\/xN B.K false x y H Q)
 | .ne=>fun x y H Q=>BI true x y H Q\/(xO B.K true x y H Q\/xN B.K true x y H Q)
 | .wJ=>fun x y H Q=>y=.ao/\Q (.bl (decide (x=.ao))) H
 | .kh=>fun x y H Q=>y=.ao/\Q (.bl (!decide (x=.ao))) H
 | .isin=>fun x y H Q=>xP B false x y H Q\/Kd B.K false x y H Q
 | .pB=>fun x y H Q=>xP B true x y H Q\/Kd B.K true x y H Q
theorem rM {d:D} {v:V} {k:Ky} (h:keyOf d=some k) (r:RD B F ρ H d v):v=kV k:=by
 cases d with
 | int i=>simp only [keyOf] at h;cases h;simp only [RD] at r;exact r
 | str x=>simp only [keyOf] at h;cases h;simp only [RD] at r;exact r
 | _=>simp only [keyOf] at h;cases h
theorem nB {d:D} {v:V} (h:flat d=true) (r:RD B F ρ H d v):gz v=true:=by
 cases d <;> first | (simp only [RD] at r;subst r;rfl) | (simp only [flat] at h;cases h)
theorem pY {ds:List D}:∀ {vs:List V},ds.all flat=true->ai B F ρ H ds vs->vs.all gz=true:=by
 induction ds with
 | nil=>intro vs _ r;simp only [ai] at r;subst r;rfl
 | cons d ds ih =>
  intro vs h r
  simp only [ai] at r
  obtain ⟨v,ws,rfl,r1,r2⟩:=r
  simp only [List.all_cons,Bool.and_eq_true] at h ⊢
  exact ⟨nB h.1 r1,ih h.2 r2⟩
theorem CW {d e:D} {v w:V} (h1:flat d=true) (h2:flat e=true) (r1:RD B F ρ H d v) (r2:RD B F ρ H e w):aF d e=AH v w:=by
 cases d <;> first | (simp only [flat] at h1;cases h1;done) | skip
 all_goals (cases e <;> first | (simp only [flat] at h2;cases h2;done) | skip)
 all_goals (simp only [RD] at r1 r2;subst r1 r2;simp only [aF,AH])
 all_goals first | rfl | simp [Bool.beq_eq_decide_eq]
theorem uW {d:D} {v:V} (h1:flat d=true) (r1:RD B F ρ H d v) {ds:List D}:∀ {vs:List V},ds.all flat=true->ai B F ρ H ds vs->(ds.any fun e=>aF e d)=K8 v vs:=by
 induction ds with
 | nil=>intro vs _ r;simp only [ai] at r;subst r;rfl
 | cons e ds ih =>
  intro vs h r
  simp only [ai] at r
  obtain ⟨w,ws,rfl,q1,q2⟩:=r
  simp only [List.all_cons,Bool.and_eq_true] at h
  simp only [List.any_cons,K8,CW h.1 h1 q1 r1]
  have:=ih h.2 q2
  simp only [K8] at this
  rw [this]
theorem zd {neg:Bool} {x y:D} {v w:V} {X:XK} {t:Bool} (S:SR B F ρ M H) (rx:RD B F ρ H x v) (ry:RD B F ρ H y w) (hi:HN M x y=some t)
  (h:Post B (.ok (.bl (if neg then !t else t)) M) F ρ H Q X):xP B neg v w H Q\/Kd B.K neg v w H Q:=by
 unfold HN at hi
 split at hi
 ·rename_i dP hv
  split at hi
  ·rename_i k hk
   cases hi
   obtain ⟨a,kvs,rfl,q,e1,e2⟩:=mG S ry hv
   have:=(kq (k:=k) e1 e2).2.2
   refine .inl ⟨a,kvs,k,rfl,rM hk rx,q,?_⟩
   rw [<- this]
   exact ah.run h S (by simp only [RD])
  ·cases hi
 ·rename_i ds hv
  split at hi
  ·rename_i hf
   cases hi
   simp only [Bool.and_eq_true] at hf
   obtain ⟨a,vs,rfl,q,r⟩:=bA S ry hv
   refine .inr ⟨a,vs,rfl,.inl q,nB hf.1 rx,pY hf.2 r,?_⟩
   rw [<- uW hf.1 rx hf.2 r]
   exact ah.run h S (by simp only [RD])
  ·cases hi
 ·rename_i ds hv
  split at hi
  ·rename_i hf
   cases hi
   simp only [Bool.and_eq_true] at hf
   obtain ⟨a,vs,rfl,q,r⟩:=jU S ry hv
   refine .inr ⟨a,vs,rfl,.inr q,nB hf.1 rx,pY hf.2 r,?_⟩
   rw [<- uW hf.1 rx hf.2 r]
   exact ah.run h S (by simp only [RD])
  ·cases hi
 ·cases hi
theorem jQ {f:D->D} (ih:∀ (d:D) (v:V),plain (f d)=true->RD B F ρ H d v->DV B.K H (f d) v):∀ (ds:List D) (vs:List V),dw (ds.map f)=true->ai B F ρ H ds vs->om B.K H (ds.map f) vs
 | [],vs,p,h=>by simp only [ai] at h;simp only [List.map_nil,om];exact h
 | d::ds,vs,p,h=>by
  simp only [ai] at h;simp only [List.map_cons,om];simp only [List.map_cons,dw,Bool.and_eq_true] at p
  obtain ⟨v,ws,h1,h2,h3⟩:=h
  exact ⟨v,ws,h1,ih d v p.1 h2,jQ ih ds ws p.2 h3⟩
theorem uI (S:SR B F ρ M H) (n:Nat):∀ (d:D) (v:V),plain (deep n M d)=true->RD B F ρ H d v->DV B.K H (deep n M d) v:=by
 induction n with
 | zero=>intro d v p h;exact RD.dv p h
 | succ n ih =>
  intro d v p h
  cases d with
  | ref r =>
   cases hM:M[r]? with
   | none=>simp [deep,hM,plain] at p
   | some o =>
    cases o with
    | lst ds =>
     obtain ⟨a,vs,e,q,r⟩:=bA (ds:=ds) S h (by simp only [vw,hM])
     simp only [deep,hM,plain] at p
     simp only [deep,hM,DV]
     exact ⟨a,vs,e,q,jQ ih ds vs p r⟩
    | dct _=>simp [deep,hM,plain] at p
    | oj _=>simp [deep,hM,plain] at p
    | ins _ _=>simp [deep,hM,plain] at p
  | tup ds =>
   simp only [RD] at h;simp only [deep,plain] at p;simp only [deep,DV]
   obtain ⟨a,vs,h1,h2,h3⟩:=h
   exact ⟨a,vs,h1,h2.sq,jQ ih ds vs p h3⟩
  | lst ds =>
   simp only [RD] at h;simp only [deep,plain] at p;simp only [deep,DV]
   obtain ⟨a,vs,h1,h2,h3⟩:=h
   exact ⟨a,vs,h1,h2.sq,jQ ih ds vs p h3⟩
  | dct _ _=>simp [deep,plain] at p
  | _=>exact RD.dv p h
theorem uA (neg:Bool) {x y:D} {v w:V} {X:XK} (S:SR B F ρ M H) (rx:RD B F ρ H x v) (ry:RD B F ρ H y w) (h:Post B (if ee (top M x) (top M y) then .ok (.bl (if neg then !aF (top M x) (top M y) else aF (top M x) (top M y))) M else (match nh M x y with | some t=>.ok (.bl (if neg then !t else t)) M | none=>LC M neg x y)) F ρ H Q X):xO B.K neg v w H Q\/xN B.K neg v w H Q:=by
 split at h
 ·rename_i hc
  have hc':=hc
  simp only [ee,Bool.and_eq_true] at hc'
  exact .inl ⟨_,_,wY S hc'.1.1 rx,wY S hc'.1.2 ry,hc,ah.run h S (by simp only [RD])⟩
 ·cases hn:nh M x y with
  | none =>
   rw [hn] at h
   replace h:Post B (LC M neg x y) F ρ H Q X:=h
   unfold LC at h
   split at h
   ·rename_i hc
    have hc':=hc
    simp only [ee,Bool.and_eq_true] at hc'
    exact .inl ⟨_,_,uI S 120 _ _ hc'.1.1 rx,uI S 120 _ _ hc'.1.2 ry,hc,ah.run h S (by simp only [RD])⟩
   ·exact h.elim
  | some t =>
   rw [hn] at h
   unfold nh at hn
   split at hn
   ·rename_i xs ys hx hy
    split at hn
    ·rename_i he
     cases hn
     obtain ⟨a,vs,rfl,q1,r1⟩:=bA S rx hx
     obtain ⟨b,ws,rfl,q2,r2⟩:=bA S ry hy
     have l1:=ai.length r1
     have l2:=ai.length r2
     have e2:ws=[]:=by
      rw [List.isEmpty_iff] at he
      subst he
      exact List.eq_nil_of_length_eq_zero l2.symm
     have e1:vs.isEmpty=xs.isEmpty:=by
      cases xs <;> cases vs <;> first | rfl | (simp at l1;done)
     subst e2
     refine .inr ⟨a,b,vs,rfl,rfl,q1,q2,?_⟩
     rw [e1]
     exact ah.run h S (by simp only [RD])
    ·cases hn
   ·cases hn
theorem jO {f:Int->Int->Bool} {x y:D} {v w:V} {X:XK} (S:SR B F ρ M H) (rx:RD B F ρ H x v) (ry:RD B F ρ H y w) (h:Post B (sr M f x y) F ρ H Q X):qS (fun i j=>.bl (f i j)) v w H Q:=by
 cases x with
 | int i=>cases y with
  | int j=>simp only [RD] at rx ry;subst rx ry;exact ⟨_,_,rfl,rfl,ah.run h S (by simp only [RD])⟩
  | _=>exact h.elim
 | _=>exact h.elim
theorem kF {x:D} {v:V} (r:RD B F ρ H x v):bS x=decide (v=.ao):=by
 cases x <;> first | (simp only [RD] at r;subst r;rfl) | (simp only [RD] at r;obtain ⟨_,r⟩:=r;first | (obtain ⟨_,rfl,_⟩:=r;rfl) | (obtain ⟨_,rfl⟩:=r;rfl) | (obtain ⟨_,_,rfl,_⟩:=r;rfl))
theorem Ac {o:AK} {x y:D} {v w:V} {X:XK} (S:SR B F ρ M H) (rx:RD B F ρ H x v) (ry:RD B F ρ H y w) (h:Post B (bO o M x y) F ρ H Q X):qT B o v w H Q:=by
 have eb:∀ {p:Bool×Bool},EN x y=some p->x=.bl p.1/\y=.bl p.2:=fun {p} hb=>by
  cases x with
  | bl a=>cases y with
   | bl b=>cases hb;exact ⟨rfl,rfl⟩
   | _=>cases hb
  | _=>cases hb
 have nn:bS y=true->w=.ao:=fun q=>by
  have:=kF ry
  rw [q] at this
  exact of_decide_eq_true this.symm
 cases o with
 | lt=>exact jO S rx ry h
 | le=>exact jO S rx ry h
 | gt=>exact jO S rx ry h
 | ge=>exact jO S rx ry h
 | eq =>
  cases hb:EN x y with
  | some p =>
   obtain ⟨rfl,rfl⟩:=eb hb
   simp only [RD] at rx ry;subst rx ry
   exact .inl ⟨_,_,rfl,rfl,ah.run h S (by simp only [RD];rfl)⟩
  | none =>
   simp only [bO,hb] at h
   exact .inr (uA false S rx ry h)
 | ne =>
  cases hb:EN x y with
  | some p =>
   obtain ⟨rfl,rfl⟩:=eb hb
   simp only [RD] at rx ry;subst rx ry
   exact .inl ⟨_,_,rfl,rfl,ah.run h S (by simp only [RD];rfl)⟩
  | none =>
   simp only [bO,hb] at h
   exact .inr (uA true S rx ry h)
 | wJ =>
  cases hn:bS y with
  | false=>simp only [bO,hn] at h;exact h.elim
  | true =>
   simp only [bO,hn,if_true] at h
   refine ⟨nn hn,?_⟩
   rw [<- kF rx]
   exact ah.run h S (by simp only [RD])
 | kh =>
  cases hn:bS y with
  | false=>simp only [bO,hn] at h;exact h.elim
  | true =>
   simp only [bO,hn,if_true] at h
   refine ⟨nn hn,?_⟩
   rw [<- kF rx]
   exact ah.run h S (by simp only [RD])
 | isin =>
  cases hi:HN M x y with
  | none=>simp only [bO,hi] at h;exact h.elim
  | some t=>simp only [bO,hi] at h;exact zd (neg:=false) S rx ry hi h
 | pB =>
  cases hi:HN M x y with
  | none=>simp only [bO,hi] at h;exact h.elim
  | some t=>simp only [bO,hi] at h;exact zd (neg:=true) S rx ry hi h
theorem tD {o:AK} {a b:Fg.E} (h:T B Φ E (.cmp o a b) σ H Q):E4 (qT B o) (T B Φ E a) (T B Φ E b) σ H Q:=by
 obtain ⟨σD,M,F,ρ,S,r,h⟩:=h
 simp only [ev] at h
 exact T.two S r rfl h fun x y M2 F2 ρ2 H2 v w S2 _ rx ry h2=>Ac S2 rx ry h2
theorem yY (n:Nat) (i:Int):wI n i=Jf n i:=rfl
theorem As {ds:List D} {vs:List V} {i:Int} {d:D} (r:ai B F ρ H ds vs) (h:b5 ds i=some d):∃ v,IL vs i=some v/\RD B F ρ H d v:=by
 unfold b5 at h
 unfold IL
 rw [<- ai.length r]
 cases hx:wI ds.length i with
 | none=>rw [hx] at h;cases h
 | some j =>
  rw [hx] at h
  rw [yY] at hx
  rw [hx]
  exact ai.get r h
noncomputable def J9 (B:Bd):R2:=fun x y H Q=>∃ a kvs k v,x=.ref a/\y=kV k/\IT B H a kvs/\cG kvs k=some v/\Q v H
noncomputable def BH (B:Bd):R2:=fun x y H Q=>J8 B.K x y H Q\/(J6 B.K x y H Q\/(J7 x y H Q\/J9 B x y H Q))
theorem ze {x y:D} {v w:V} {X:XK} (S:SR B F ρ M H) (rx:RD B F ρ H x v) (ry:RD B F ρ H y w) (h:Post B (nq M x y) F ρ H Q X):BH B v w H Q:=by
 unfold nq at h
 split at h
 ·simp only [RD] at rx ry;subst rx ry
  split at h
  ·rename_i hl
   split at h
   ·rename_i c hc
    exact .inr (.inr (.inl ⟨_,_,c,rfl,rfl,Nat.le_trans (of_decide_eq_true hl) bR,hc,ah.run h S (by simp only [RD])⟩))
   ·exact h.elim
  ·exact h.elim
 ·split at h
  ·rename_i ds i hv _
   split at h
   ·rename_i d hd
    obtain ⟨a,vs,rfl,q,r⟩:=jU S rx hv
    simp only [RD] at ry;subst ry
    obtain ⟨u,h1,h2⟩:=As r hd
    exact .inr (.inl ⟨a,vs,i,u,rfl,rfl,q,h1,ah.run h S h2⟩)
   ·exact h.elim
  ·rename_i ds i hv _
   split at h
   ·rename_i d hd
    obtain ⟨a,vs,rfl,q,r⟩:=bA S rx hv
    simp only [RD] at ry;subst ry
    obtain ⟨u,h1,h2⟩:=As r hd
    exact .inl ⟨a,vs,i,u,rfl,rfl,q,h1,ah.run h S h2⟩
   ·exact h.elim
  ·rename_i dP hv _
   split at h
   ·rename_i k hk
    split at h
    ·rename_i d hd
     obtain ⟨a,kvs,rfl,q,e1,e2⟩:=mG S rx hv
     obtain ⟨u,h1,h2⟩:=(kq (k:=k) e1 e2).1 d hd
     exact .inr (.inr (.inr ⟨a,kvs,k,u,rfl,rM hk ry,q,h1,ah.run h S h2⟩))
    ·exact h.elim
   ·exact h.elim
  ·exact h.elim
theorem Bx {a b:Fg.E} (h:T B Φ E (.idx a b) σ H Q):E4 (BH B) (T B Φ E a) (T B Φ E b) σ H Q:=by
 obtain ⟨σD,M,F,ρ,S,r,h⟩:=h
 simp only [ev] at h
 exact T.two S r rfl h fun x y M2 F2 ρ2 H2 v w S2 _ rx ry h2=>ze S2 rx ry h2
theorem xr (n d:Nat) (o:Option Int):six n d o=HT.cA n d o:=by cases o <;> rfl
theorem uP {ds:List D} {vs:List V} (r:ai B F ρ H ds vs) (lo hi:Option Int):ai B F ρ H (kP ds lo hi) (qh vs lo hi):=by
 unfold kP qh
 rw [ai.length r]
 simp only [xr]
 exact ai.take _ (ai.drop _ r)
noncomputable def J3:V->Option Int->Option Int->Hp->VK->Prop:=fun x lo hi H Q=>∃ z,x=.str z/\z.length<=sizeLine/\Q (.str (cuts z lo hi)) H
noncomputable def BG (B:Bd):V->Option Int->Option Int->Hp->VK->Prop:=fun x lo hi H Q=>J4 B.K x lo hi H Q\/(J2 B.K x lo hi H Q\/J3 x lo hi H Q)
theorem Bc {fz:Bool} {x:D} {v:V} {lo hi:Option Int} {X:XK} (S:SR B F ρ M H) (rx:RD B F ρ H x v) (h:Post B (sl2 fz M x lo hi) F ρ H Q X):BG B v lo hi H Q:=by
 unfold sl2 at h
 split at h
 ·simp only [RD] at rx;subst rx
  split at h
  ·rename_i hl
   exact .inr (.inr ⟨_,rfl,Nat.le_trans (of_decide_eq_true hl) bR,ah.run h S (by simp only [RD])⟩)
  ·exact h.elim
 ·split at h
  ·rename_i ds hv
   cases x with
   | tup xs =>
    simp only [vw] at hv;cases hv
    simp only [RD] at rx
    obtain ⟨a,vs,rfl,z,r⟩:=rx
    split at h
    ·exact h.elim
    ·rename_i hf
     refine .inr (.inl ⟨a,vs,rfl,z.sq,fun q=>hf ?_,jL S h (uP r lo hi)⟩)
     simp only [Ek,Bool.and_eq_true,decide_eq_true_eq,xr,ai.length r]
     exact q
   | ref n=>simp only [vw] at hv;split at hv <;> cases hv
   | _=>simp only [vw] at hv;cases hv
  ·rename_i ds hv
   obtain ⟨a,vs,rfl,q,r⟩:=bA S rx hv
   exact .inl ⟨a,vs,rfl,q,dR S h (uP r lo hi)⟩
  ·exact h.elim
theorem Ft {Q:Option Int->Hp->Prop} (h:TP B Φ E .none σ H Q):sQ σ H Q:=by
 obtain ⟨σD,M,F,ρ,S,r,h⟩:=h
 simp only [CS] at h
 exact ah.run h S rfl
theorem Fq {a:Fg.E} {Q:Option Int->Hp->Prop} (h:TP B Φ E (.some a) σ H Q):DE (T B Φ E a) σ H Q:=by
 obtain ⟨σD,M,F,ρ,S,r,h⟩:=h
 simp only [CS] at h
 refine ⟨σD,M,F,ρ,S,r,ah.imp (ah.bind (rel:=RD B) h) fun v H1 ⟨x,M1,F1,ρ1,e1,S1,rx,h1⟩=>?_⟩
 split at h1
 ·simp only [RD] at rx;subst rx
  exact ⟨_,rfl,ah.run h1 S1 rfl⟩
 ·exact h1.elim
theorem Fo {fz:Bool} {a:Fg.E} {lo hi:O} (h:T B Φ E (.sl fz a lo hi) σ H Q):tSl (BG B) (T B Φ E a) (TP B Φ E lo) (TP B Φ E hi) σ H Q:=by
 obtain ⟨σD,M,F,ρ,S,r,h⟩:=h
 simp only [ev] at h
 refine T.one S r rfl h fun x M1 F1 ρ1 H1 v e1 S1 r1 rx h1=>?_
 refine ⟨σD,M1,F1,ρ1,S1,r1,ah.imp (ah.bind (rel:=fun _ _ _ (a b:Option Int)=>a=b) h1) fun l H2 ⟨l',M2,F2,ρ2,e2,S2,el,h2⟩=>?_⟩
 refine ⟨σD,M2,F2,ρ2,S2,r1.mono e2,ah.imp (ah.bind (rel:=fun _ _ _ (a b:Option Int)=>a=b) h2) fun u H3 ⟨u',M3,F3,ρ3,e3,S3,eu,h3⟩=>?_⟩
 subst el eu
 exact Bc S3 (RD.mono e3 _ _ (RD.mono e2 _ _ rx)) h3
theorem u5 {M:MH} {d:D} {ds:List D} (h:vw M d=.tup ds):d=.tup ds:=by
 cases d with
 | tup xs=>simp only [vw] at h;cases h;rfl
 | ref n=>simp only [vw] at h;split at h <;> cases h
 | _=>simp only [vw] at h;cases h
theorem uq:∀ {ds:List D} {vs:List V} {ns:List Int},ai B F ρ H ds vs->intsOf ds=some ns->vs=ns.map V.int
 | [],vs,ns,r,h=>by simp only [intsOf] at h;cases h;simp only [ai] at r;subst r;rfl
 | d::ds,vs,ns,r,h=>by
  cases d with
  | int i =>
   simp only [intsOf] at h
   cases hx:intsOf ds with
   | none=>rw [hx] at h;cases h
   | some ms =>
    rw [hx] at h;cases h
    simp only [ai] at r
    obtain ⟨v,ws,rfl,r1,r2⟩:=r
    simp only [RD] at r1;subst r1
    rw [uq r2 hx];rfl
  | _=>simp [intsOf] at h
noncomputable def FO (B:Bd):List V->Hp->VK->Prop:=fun xs H Q=>(∃ z,xs=[.str z]/\z.length<=sizeLine/\Q (.int z.length) H)\/((∃ p ys,xs=[.ref p]/\(fq B.K H p ys\/gE B.K H p ys)/\Q (.int ys.length) H)\/(∃ a kvs,xs=[.ref a]/\IT B H a kvs/\Q (.int kvs.length) H))
noncomputable def rSum (B:Bd):List V->Hp->VK->Prop:=fun xs H Q=>∃ (p:Addr) (ns:List Int),xs=[.ref p]/\fq B.K H p (ns.map V.int)/\Q (.int ns.sum) H
noncomputable def FL (B:Bd):List V->Hp->VK->Prop:=fun xs H Q=>∃ p ys,xs=[.ref p]/\((fq B.K H p ys/\∀ l,H l=none->Q (.ref l) (upd H l (.tup ys)))\/(gE B.K H p ys/\Q (.ref p) H))
noncomputable def qR (B:Bd):List V->Hp->VK->Prop:=fun xs H Q=>∃ p ys,xs=[.ref p]/\(fq B.K H p ys\/gE B.K H p ys)/\∀ l,H l=none->Q (.ref l) (upd H l (.lst ys))
noncomputable def FQ (B:Bd):List V->Hp->VK->Prop:=fun xs H Q=>∃ p kvs,xs=[.ref p]/\IT B H p kvs/\∀ l,H l=none->Q (.ref l) (upd H l (.dK kvs))
noncomputable def rBl (B:Bd):Bl->List V->Hp->VK->Prop
 | .len=>FO B
 | .sum=>rSum B
 | .tuple=>FL B
 | .list=>qR B
 | .dict=>FQ B
 | _=>fun _ _ _=>False
theorem FI {d:D} {vs:List V} (r:ai B F ρ H [d] vs):∃ v,vs=[v]/\RD B F ρ H d v:=by
 simp only [ai] at r
 obtain ⟨v,ws,rfl,r1,rfl⟩:=r
 exact ⟨v,rfl,r1⟩
theorem Am {b:Bl} {fz:Bool} {ds:List D} {vs:List V} {X:XK} (S:SR B F ρ M H) (r:ai B F ρ H ds vs) (h:Post B (An b fz M ds) F ρ H Q X):rBl B b vs H Q:=by
  unfold An at h
  split at h
  . obtain ⟨v,rfl,r1⟩:=FI r
    simp only [RD] at r1;subst r1
    cases b <;> simp only at h <;> first
      | exact h.elim
      | (split at h
         . rename_i hl
           exact .inl ⟨_,rfl,Nat.le_trans (of_decide_eq_true hl) bR,ah.run h S (by simp only [RD])⟩
         . exact h.elim)
  . obtain ⟨v,rfl,r1⟩:=FI r
    split at h
    . rename_i hv
      obtain ⟨a,ws,rfl,q,rr⟩:=jU S r1 hv
      exact .inr (.inl ⟨a,ws,rfl,.inr q,ah.run h S (by simp only [RD,ai.length rr])⟩)
    . rename_i hv
      obtain ⟨a,ws,rfl,q,rr⟩:=bA S r1 hv
      exact .inr (.inl ⟨a,ws,rfl,.inl q,ah.run h S (by simp only [RD,ai.length rr])⟩)
    . rename_i hv
      obtain ⟨a,kvs,rfl,q,e1,e2⟩:=mG S r1 hv
      refine .inr (.inr ⟨a,kvs,rfl,q,ah.run h S ?_⟩)
      have:=congrArg List.length e1
      simp only [List.length_map] at this
      simp only [RD,this]
    . rename_i hv
      split at h
      . rename_i ns hn
        obtain ⟨a,ws,rfl,q,rr⟩:=bA S r1 hv
        have:=uq rr hn
        subst this
        exact ⟨a,ns,rfl,q,ah.run h S (by simp only [RD])⟩
      . exact h.elim
    . rename_i hv
      obtain ⟨a,ws,rfl,q,rr⟩:=bA S r1 hv
      exact ⟨a,ws,rfl,.inl ⟨q,jL S h rr⟩⟩
    . rename_i hv
      have ed:=u5 hv
      subst ed
      have r1':=r1
      simp only [RD] at r1'
      obtain ⟨a,ws,rfl,q,rr⟩:=r1'
      exact ⟨a,ws,rfl,.inr ⟨q.sq,ah.run h S r1⟩⟩
    . rename_i hv
      obtain ⟨a,ws,rfl,q,rr⟩:=bA S r1 hv
      exact ⟨a,ws,rfl,.inl q,dR S h rr⟩
    . rename_i hv
      obtain ⟨a,ws,rfl,q,rr⟩:=jU S r1 hv
      exact ⟨a,ws,rfl,.inr q,dR S h rr⟩
    . rename_i dP hv
      obtain ⟨a,kvs,rfl,q,e1,e2⟩:=mG S r1 hv
      refine ⟨a,kvs,rfl,q,fun p hp=>?_⟩
      have e0:Ext F ρ H F (ρ++[p]) (upd H p (.dK kvs)):=⟨⟨S.sep,fun _ q=>q,fun a q _=>aj (by rintro rfl;exact q hp),List.prefix_append _ _,fun a q=>by
        rcases List.mem_append.mp q with q | q
        . exact .inl q
        . rw [List.mem_singleton.mp q];exact .inr hp,fun _ q=>.inl q⟩,fun b w u q=>by rw [aj (by rintro rfl;rw [hp] at q;cases q)];exact q⟩
      obtain ⟨S',e⟩:=S.lv (o:=.dK kvs) (u:=.dct dP) hp ⟨kvs,ay,e1,ai.mono e0 _ _ e2⟩
      refine h _ _ _ _ e S' ?_
      simp only [RD]
      refine ⟨p,?_,rfl⟩
      rw [<- S.len,List.getElem?_append_right (Nat.le_refl _),Nat.sub_self];rfl
    . exact h.elim
  . exact h.elim
theorem tE {b:Bl} {fz:Bool} {es:Es} (h:T B Φ E (.blt b fz es) σ H Q):DI (rBl B b) (TL B Φ E es) σ H Q:=by
 obtain ⟨σD,M,F,ρ,S,r,h⟩:=h
 simp only [ev] at h
 exact TL.one S r rfl h fun x M1 F1 ρ1 H1 v _ S1 _ rx h1=>Am S1 rx h1
end
end Fg
end
section
namespace Fg
open PySem L2
noncomputable def L7 (B:Bd) (o:Out) (F:Addr->Prop) (ρ:List Addr) (H:Hp) (Dn:Ends) (E:Gx):Prop :=
 match o with
 | .nx σD=>∀ σ,RS B F ρ H σD σ->Dn.nx σ H
 | .rt d=>∀ v,RD B F ρ H d v->Dn.rt v H
 | .bk σD=>∀ σ,RS B F ρ H σD σ->Dn.bk σ H
 | .ct σD=>∀ σ,RS B F ρ H σD σ->Dn.ct σ H
 | .xc c σD=>∀ σ cv x,RS B F ρ H σD σ->B.exc c cv->E.e cv x σ H
noncomputable def aJ (B:Bd) (r:R Out) (F:Addr->Prop) (ρ:List Addr) (H:Hp) (Dn:Ends) (E:Gx):Prop :=
 match r with
 | .ok o M'=>∀ F' ρ' H',Ext F ρ H F' ρ' H'->SR B F' ρ' M' H'->L7 B o F' ρ' H' Dn E
 | .exc _ _=>False
 | .bad=>False
noncomputable def TC (B:Bd) (Φ:aL) (E:Gx) (s:S):TS:=fun Dn σ H=>∃ (σD:Sg) (M:MH) (F:Addr->Prop) (ρ:List Addr),
 SR B F ρ M H/\RS B F ρ H σD σ/\aJ B (ex Φ s σD M) F ρ H Dn E
noncomputable def qq (B:Bd) (Φ:aL) (E:Gx) (s:Ss):TS:=fun Dn σ H=>∃ (σD:Sg) (M:MH) (F:Addr->Prop) (ρ:List Addr),
 SR B F ρ M H/\RS B F ρ H σD σ/\aJ B (exs Φ s σD M) F ρ H Dn E
section
variable {B:Bd} {Φ:aL} {E:Gx} {F F' F1:Addr->Prop} {ρ ρ' ρ1:List Addr} {H H' H1:Hp} {M M':MH} {σD:Sg} {σ:St} {Q:VK} {Dn:Ends}
theorem aJ.weak {r:R Out} (e:Ext F ρ H F1 ρ1 H1) (h:aJ B r F ρ H Dn E):aJ B r F1 ρ1 H1 Dn E:=by
 cases r with
 | ok d M'=>exact fun F' ρ' H' e' S=>h F' ρ' H' (e.trans e') S
 | exc c M'=>exact h
 | bad=>exact h
theorem aJ.use {α β:Type} {rel:(Addr->Prop)->List Addr->Hp->α->β->Prop} {x:R α} {f:α->MH->R Out} (r:RS B F ρ H σD σ) (h:aJ B (x.use σD f) F ρ H Dn E) :
  ah rel B x F ρ H (fun v H'=>∃ d M' F' ρ',Ext F ρ H F' ρ' H'/\SR B F' ρ' M' H'/\rel F' ρ' H' d v/\aJ B (f d M') F' ρ' H' Dn E) (fun cv x H'=>E.e cv x σ H'):=by
 cases x with
 | ok d M'=>exact fun F' ρ' H' v e S q=>⟨d,M',F',ρ',e,S,q,aJ.weak e h⟩
 | exc c M'=>exact fun F' ρ' H' cv x e S q=>h F' ρ' H' e S σ cv x (r.mono e) q
 | bad=>exact h
theorem TC.one {a:Fg.E} {f:D->MH->R Out} {W:V->Hp->Prop} (S:SR B F ρ M H) (r:RS B F ρ H σD σ) (h:aJ B ((ev Φ a σD M).use σD f) F ρ H Dn E)
  (k:∀ x M1 F1 ρ1 H1 v,Ext F ρ H F1 ρ1 H1->SR B F1 ρ1 M1 H1->RS B F1 ρ1 H1 σD σ->RD B F1 ρ1 H1 x v->aJ B (f x M1) F1 ρ1 H1 Dn E->W v H1):T B Φ E a σ H W:=by
 refine ⟨σD,M,F,ρ,S,r,ah.imp (aJ.use (rel:=RD B) r h) fun v H1 ⟨x,M1,F1,ρ1,e,S1,rx,h1⟩=>?_⟩
 exact k x M1 F1 ρ1 H1 v e S1 (r.mono e) rx h1
theorem aJ.run {o:Out} (h:aJ B (.ok o M) F ρ H Dn E) (S:SR B F ρ M H):L7 B o F ρ H Dn E:=h F ρ H S.refl S
theorem mP {i:Nat} {e:Fg.E} (h:TC B Φ E (.set i e) Dn σ H):vd (T B Φ E e) (jj i) Dn σ H:=by
 obtain ⟨σD,M,F,ρ,S,r,h⟩:=h
 simp only [ex] at h
 exact TC.one S r h fun x M1 F1 ρ1 H1 v e1 S1 r1 rx h1=>aJ.run h1 S1 _ (r1.set rx i)
theorem Fw {e:Fg.E} (h:TC B Φ E (.ex e) Dn σ H):DH (T B Φ E e) Dn σ H:=by
 obtain ⟨σD,M,F,ρ,S,r,h⟩:=h
 simp only [ex] at h
 exact TC.one S r h fun x M1 F1 ρ1 H1 v e1 S1 r1 rx h1=>aJ.run h1 S1 _ r1
theorem Bk {e:Fg.E} (h:TC B Φ E (.ret e) Dn σ H):JC (T B Φ E e) Dn σ H:=by
 obtain ⟨σD,M,F,ρ,S,r,h⟩:=h
 simp only [ex] at h
 exact TC.one S r h fun x M1 F1 ρ1 H1 v e1 S1 r1 rx h1=>aJ.run h1 S1 _ rx
theorem Bv {c:Fg.E} {a b:Ss} (h:TC B Φ E (.ifs c a b) Dn σ H):JG (TB B Φ E c) (qq B Φ E a) (qq B Φ E b) Dn σ H:=by
 obtain ⟨σD,M,F,ρ,S,r,h⟩:=h
 simp only [ex] at h
 refine TC.one S r h fun x M1 F1 ρ1 H1 v e1 S1 r1 rx h1=>?_
 split at h1
 ·simp only [RD] at rx;subst rx
  exact ⟨true,rfl,by dsimp only;rw [if_pos rfl];exact ⟨σD,M1,F1,ρ1,S1,r1,h1⟩⟩
 ·simp only [RD] at rx;subst rx
  exact ⟨false,rfl,by dsimp only;rw [if_neg Bool.false_ne_true];exact ⟨σD,M1,F1,ρ1,S1,r1,h1⟩⟩
 ·exact h1.elim
theorem oK (h:qq B Φ E .nil Dn σ H):DG Dn σ H:=by
 obtain ⟨σD,M,F,ρ,S,r,h⟩:=h
 simp only [exs] at h
 exact aJ.run h S _ r
theorem lH {s:S} {ss:Ss} (h:qq B Φ E (.cons s ss) Dn σ H):E3 (TC B Φ E s) (qq B Φ E ss) Dn σ H:=by
 obtain ⟨σD,M,F,ρ,S,r,h⟩:=h
 simp only [exs] at h
 refine ⟨σD,M,F,ρ,S,r,?_⟩
 cases hx:ex Φ s σD M with
 | ok o M1 =>
  rw [hx] at h
  simp only [R.af] at h
  intro F' ρ' H' e S'
  cases o with
  | nx σ1=>exact fun σ' r'=>⟨σ1,M1,F',ρ',S',r',aJ.weak e h⟩
  | rt d=>exact fun v q=>h F' ρ' H' e S' v q
  | bk σ1=>exact fun σ' q=>h F' ρ' H' e S' σ' q
  | ct σ1=>exact fun σ' q=>h F' ρ' H' e S' σ' q
  | xc c σ1=>exact fun σ' cv x q1 q2=>h F' ρ' H' e S' σ' cv x q1 q2
 | exc c M1=>rw [hx] at h;exact h
 | bad=>rw [hx] at h;exact h
theorem sF {fz:Bool} {x:D} {ds:List D} {v:V} {vs:List V} {X:XK} (S:SR B F ρ M H) (rx:RD B F ρ H x v) (r:ai B F ρ H ds vs) (h:Post B (gH .append fz M x ds) F ρ H Q X):mY v vs H Q:=by
 unfold gH at h
 cases hl:gx M x with
 | none=>rw [hl] at h;exact h.elim
 | some q =>
  rw [hl] at h
  obtain ⟨rfl,hx⟩:=jN hl
  cases ds with
  | nil=>exact h.elim
  | cons d t =>
   cases t with
   | cons _ _=>exact h.elim
   | nil =>
    simp only [pH,qY] at h
    split at h
    ·rename_i hlen
     obtain ⟨w,rfl,r1⟩:=FI r
     simp only [RD] at rx
     obtain ⟨a,h1,rfl⟩:=rx
     obtain ⟨ws,h2,h3⟩:=S.obj _ a _ h1 hx
     refine ⟨a,ws,w,rfl,rfl,h2,?_,?_⟩
     ·rw [<- ai.length h3];exact Nat.lt_of_lt_of_le (of_decide_eq_true hlen) bR
     ·obtain ⟨S',e⟩:=S.st (o:=.lst (ws++[w])) (u:=.lst (q.2++[d])) h1 (fun _ _ q=>by rw [h2] at q;cases q) ⟨_,ay,ai.bx (Ext0.at_ S h1) _ _ (h3.append (ai.cons r1 ai.nil))⟩
      exact h _ _ _ _ e S' (by simp only [RD])
    ·exact h.elim
theorem FT {k:Key} {d:D} {v:V} (rd:RD B F ρ H d v):∀ {dP:List (Ky×D)} {kvs:List (Key×V)},kvs.map (·.1)=dP.map (·.1)->ai B F ρ H (dP.map (·.2)) (kvs.map (·.2)) ->
  (putK kvs k v).map (·.1)=(put dP k d).map (·.1)/\ai B F ρ H ((put dP k d).map (·.2)) ((putK kvs k v).map (·.2)):=by
 have hmap:∀ {dP:List (Ky×D)} {kvs:List (Key×V)},kvs.map (·.1)=dP.map (·.1)->ai B F ρ H (dP.map (·.2)) (kvs.map (·.2)) ->
   (kvs.map fun kv=>if kv.1=k then (kv.1,v) else kv).map (·.1)=(dP.map fun kv=>if kv.1=k then (kv.1,d) else kv).map (·.1) /\
   ai B F ρ H ((dP.map fun kv=>if kv.1=k then (kv.1,d) else kv).map (·.2)) ((kvs.map fun kv=>if kv.1=k then (kv.1,v) else kv).map (·.2)):=by
  intro dP
  induction dP with
  | nil=>intro kvs h1 h2;cases kvs with | nil=>exact ⟨rfl,ai.nil⟩ | cons _ _=>simp at h1
  | cons p dP ih =>
   intro kvs h1 h2
   cases kvs with
   | nil=>simp at h1
   | cons q kvs =>
    obtain ⟨pk,pd⟩:=p
    obtain ⟨qk,qv⟩:=q
    simp only [List.map_cons,List.cons.injEq] at h1
    simp only [List.map_cons,ai] at h2
    obtain ⟨u,ws,e,r1,r2⟩:=h2
    cases e
    obtain ⟨e1,e2⟩:=h1
    subst e1
    obtain ⟨i1,i2⟩:=ih e2 r2
    by_cases hk:qk=k
    ·simp only [List.map_cons,if_pos hk,i1,true_and]
     exact ai.cons rd i2
    ·simp only [List.map_cons,if_neg hk,i1,true_and]
     exact ai.cons r1 i2
 have hany:∀ {dP:List (Ky×D)} {kvs:List (Key×V)},kvs.map (·.1)=dP.map (·.1)->(kvs.any fun kv=>decide (kv.1=k))=(dP.any fun kv=>decide (kv.1=k)):=by
  intro dP
  induction dP with
  | nil=>intro kvs h1;cases kvs with | nil=>rfl | cons _ _=>simp at h1
  | cons p dP ih =>
   intro kvs h1
   cases kvs with
   | nil=>simp at h1
   | cons q kvs =>
    simp only [List.map_cons,List.cons.injEq] at h1
    simp only [List.any_cons,h1.1,ih h1.2]
 intro dP kvs h1 h2
 unfold putK put
 rw [hany h1]
 split
 ·exact hmap h1 h2
 ·simp only [List.map_append,List.map_cons,List.map_nil,h1,true_and]
  exact h2.append (ai.cons rd ai.nil)
noncomputable def Walks (B:Bd) (J:It) (src:D) (ds:List D) (F0:Addr->Prop) (ρ0:List Addr) (M0:MH) (H0:Hp):Prop :=
 ∀ (i:Nat) F ρ M H,Ext F0 ρ0 H0 F ρ H->SR B F ρ M H->aN M0 src M=true ->
  (∀ d,ds[i]? = some d->J.go i H/\∀ x H',J.Mh i H x H'->∃ F',Ext F ρ H F' ρ H'/\SR B F' ρ M H'/\RD B F' ρ H' d x)/\(ds.length<=i->J.stop i H)
noncomputable def Dl (B:Bd) (Φ:aL) (E:Gx) (c:Src):TI:=fun σ H R=>∃ (σD:Sg) (M:MH) (F:Addr->Prop) (ρ:List Addr),
 SR B F ρ M H/\RS B F ρ H σD σ/\ah (fun F' ρ' H' (p:D×List D×Bool) (J:It)=>∀ M',b3 Φ c σD M=.ok p M'->SR B F' ρ' M' H'->Walks B J p.1 p.2.1 F' ρ' M' H' /\
  (p.2.2=true->∃ n a,p.1=.ref n/\ρ'[n]? = some a/\E.th a/\∀ w v,H a≠some (.dF w v))) B (b3 Φ c σD M) F ρ H R (fun cv x H'=>E.e cv x σ H')
noncomputable def thE (th:Addr->Prop) (D:Ends):Ends:=⟨fun σ H=>∃ H',AI th H H'/\D.nx σ H',fun v H=>∃ H',AI th H H'/\D.rt v H',fun σ H=>∃ H',AI th H H'/\D.bk σ H',fun σ H=>∃ H',AI th H H'/\D.ct σ H'⟩
theorem cO {F1:Addr->Prop} {ρ0 ρ1:List Addr} {H1:Hp} {M1:MH} {fl:Bool} {src:D} {th:Addr->Prop} (S:SR B F1 ρ1 M1 H1) (e:Ext F ρ H F1 ρ1 H1) (hp:ρ0 <+: ρ1) (wz:fl=true->∃ n a,src=.ref n/\ρ0[n]? = some a/\th a/\∀ w v,H a≠some (.dF w v)) :
  ∃ H',AI th H1 H'/\SR B F1 ρ1 (fu fl src M1) H'/\Ext F ρ H F1 ρ1 H'/\Ext0 F1 ρ1 H1 F1 ρ1 H':=by
 have same:SR B F1 ρ1 M1 H1/\Ext F ρ H F1 ρ1 H1/\Ext0 F1 ρ1 H1 F1 ρ1 H1:=⟨S,e,S.refl.toExt0⟩
 cases fl with
 | false=>exact ⟨H1,.inl rfl,by cases src <;> exact same⟩
 | true =>
  obtain ⟨n,a,rfl,hn,ht,hz⟩:=wz rfl
  have hn1:ρ1[n]? = some a:=by
   obtain ⟨t,rfl⟩:=hp
   obtain ⟨q,_⟩:=List.getElem?_eq_some_iff.mp hn
   rw [List.getElem?_append_left q];exact hn
  cases hM:M1[n]? with
  | none=>refine ⟨H1,.inl rfl,?_⟩;simp only [fu,hM];exact same
  | some o =>
   cases o with
   | oj kvs =>
    obtain ⟨o,kws,h1,S'⟩:=S.uw hn1 hM
    refine ⟨upd H1 a (.dK kws),.inr ⟨a,o,kws,ht,h1,rfl⟩,?_,e.thaw (List.mem_of_getElem? hn1) hz S.sep,Ext0.at_ S hn1⟩
    simp only [fu,hM];exact S'
   | lst _=>refine ⟨H1,.inl rfl,?_⟩;simp only [fu,hM];exact same
   | dct _=>refine ⟨H1,.inl rfl,?_⟩;simp only [fu,hM];exact same
   | ins _ _=>refine ⟨H1,.inl rfl,?_⟩;simp only [fu,hM];exact same
theorem RS.bx {F':Addr->Prop} {ρ':List Addr} {H':Hp} (e:Ext0 F ρ H F' ρ' H') (h:RS B F ρ H σD σ):RS B F' ρ' H' σD σ :=
 ⟨h.len,fun i d q=>let ⟨v,h1,h2⟩:=h.get i d q;⟨v,h1,RD.bx e d v h2⟩⟩
noncomputable def Jk (tg:List Nat) (K:W.Frag):TG:=match tg with
 | [i]=>jj i
 | [i,j]=>fun v σ H Q=>∃ a x y,v=.ref a/\gE K H a [x,y]/\Q ((σ.set i (some x)).set j (some y)) H
 | []=>fun _ _ _ _=>False
 | tg=>fun v σ H Q=>∃ a xs,v=.ref a/\gE K H a xs/\xs.length=tg.length/\Q (iT tg xs σ) H
theorem RS.all:∀ {tg:List Nat} {ds:List D} {vs:List V} {σD:Sg} {σ:St},RS B F ρ H σD σ->ai B F ρ H ds vs->RS B F ρ H (iT tg ds σD) (iT tg vs σ)
 | [],ds,vs,σD,σ,r,q=>by cases ds <;> cases vs <;> exact r
 | i::tg,[],vs,σD,σ,r,q=>by simp only [ai] at q;subst q;exact r
 | i::tg,d::ds,vs,σD,σ,r,q=>by
  simp only [ai] at q
  obtain ⟨v,ws,rfl,h1,h2⟩:=q
  exact RS.all (tg:=tg) (ds:=ds) (vs:=ws) (σD:=σD.set i (some d)) (σ:=σ.set i (some v)) (r.set h1 i) h2
theorem j3 {tg:List Nat} {d:D} {v:V} {σ1:Sg} {N:St->Hp->Prop} (r:RS B F ρ H σD σ) (rd:RD B F ρ H d v) (h:sets tg M d σD=some σ1) (k:∀ σ',RS B F ρ H σ1 σ'->N σ' H):Jk tg B.K v σ H N:=by
 unfold sets at h
 split at h
 ·cases h;exact k _ (r.set rd _)
 ·split at h
  ·cases h
   simp only [RD] at rd
   obtain ⟨a,vs,rfl,z,q⟩:=rd
   simp only [ai] at q
   obtain ⟨x,ws,rfl,r1,y,us,rfl,r2,rfl⟩:=q
   exact ⟨a,x,y,rfl,z.sq,k _ ((r.set r1 _).set r2 _)⟩
  ·cases h
 ·cases h
 ·rename_i h1 h2 h3
  split at h
  ·rename_i xs
   split at h
   ·rename_i hl
    cases h
    simp only [RD] at rd
    obtain ⟨a,vs,rfl,z,q⟩:=rd
    have e:vs.length=tg.length:=by rw [<- ai.length q];exact hl
    match tg,h1,h2,h3,e,k with
    | i::j::l::tg,_,_,_,e,k=>exact ⟨a,vs,rfl,z.sq,e,k _ (r.all q)⟩
    | [i],h1,_,_,_,_=>exact absurd rfl (h1 i)
    | [i,j],_,h2,_,_,_=>exact absurd rfl (h2 i j)
    | [],_,_,h3,_,_=>exact absurd rfl h3
   ·cases h
  ·cases h
theorem BA {tg:List Nat} {it:Src} {b:Ss} (h:TC B Φ E (.for tg it b) Dn σ H):JH (Dl B Φ E it) (Jk tg B.K) (qq B Φ E b) (thE E.th Dn) σ H:=by
 obtain ⟨σD,M,F,ρ,S,r,h⟩:=h
 simp only [ex] at h
 refine ⟨σD,M,F,ρ,S,r,?_⟩
 cases hx:b3 Φ it σD M with
 | exc c M1=>rw [hx] at h;exact fun F' ρ' H' cv x e S q=>h F' ρ' H' e S σ cv x (r.mono e) q
 | bad=>rw [hx] at h;exact h
 | ok p M0 =>
  rw [hx] at h
  simp only [R.fN] at h
  intro F0 ρ0 H0 J e0 S0 hw
  obtain ⟨W,wz⟩:=hw M0 rfl S0
  obtain ⟨src,ds,fl⟩:=p
  dsimp only at h W wz
  refine ⟨fun i m σ H1=>m+i=ds.length/\∃ σD M F1 ρ1,Ext F ρ H F1 ρ1 H1/\Ext F0 ρ0 H0 F1 ρ1 H1/\SR B F1 ρ1 M H1/\RS B F1 ρ1 H1 σD σ/\aN M0 src M=true/\aJ B ((bC (exs Φ b) tg (aN M0 src) (ds.drop i) σD M).fin (fu fl src)) F ρ H Dn E,⟨ds.length,by simp,σD,M0,F0,ρ0,e0,S0.refl,S0,r.mono e0,?_,h⟩,?_⟩
  ·unfold aN;split <;> simp
  rintro i m σ1 H1 ⟨hm,AL,M1,F1,ρ1,eo,e1,S1,r1,st1,p1⟩
  obtain ⟨wgo,wst⟩:=W i F1 ρ1 M1 H1 e1 S1 st1
  by_cases hi:i<ds.length
  ·have hd:ds.drop i=ds[i]::ds.drop (i+1):=List.drop_eq_getElem_cons hi
   rw [hd] at p1
   unfold bC at p1
   obtain ⟨go,yl⟩:=wgo ds[i] (List.getElem?_eq_getElem hi)
   refine .inr ⟨go,fun σ' H'=>∃ σD M F1 ρ1,Ext F ρ H F1 ρ1 H'/\Ext F0 ρ0 H0 F1 ρ1 H'/\SR B F1 ρ1 M H'/\RS B F1 ρ1 H' σD σ'/\aN M0 src M=true/\aJ B ((bC (exs Φ b) tg (aN M0 src) (ds.drop (i+1)) σD M).fin (fu fl src)) F ρ H Dn E,fun σ' H' q=>⟨m-1,by omega,by omega,q⟩,fun x H' hy=>?_⟩
   obtain ⟨F',e2,S2,rd⟩:=yl x H' hy
   split at p1
   ·exact p1.elim
   ·rename_i σ2 hs
    refine j3 (r1.mono e2) rd hs fun σ' r'=>⟨σ2,M1,F',ρ1,S2,r',?_⟩
    cases hb:exs Φ b σ2 M1 with
    | exc c M3=>rw [hb] at p1;exact p1.elim
    | bad=>rw [hb] at p1;exact p1.elim
    | ok o M3 =>
     rw [hb] at p1
     simp only [R.af] at p1
     intro F3 ρ3 H3 e3 S3
     have LF:=(eo.trans e2).trans e3
     have LL:=(e1.trans e2).trans e3
     cases o with
     | nx σ3 =>
      simp only at p1
      intro σ4 r4
      split at p1
      ·rename_i hst
       exact ⟨σ3,M3,F3,ρ3,LF,LL,S3,r4,hst,p1⟩
      ·exact p1.elim
     | ct σ3 =>
      simp only at p1
      intro σ4 r4
      split at p1
      ·rename_i hst
       exact ⟨σ3,M3,F3,ρ3,LF,LL,S3,r4,hst,p1⟩
      ·exact p1.elim
     | bk σ3 =>
      obtain ⟨H4,t4,S4,e4,x4⟩:=cO S3 LF LL.r wz
      exact fun σ4 r4=>⟨H4,t4,p1 F3 ρ3 H4 e4 S4 σ4 (r4.bx x4)⟩
     | rt d =>
      obtain ⟨H4,t4,S4,e4,x4⟩:=cO S3 LF LL.r wz
      exact fun v q=>⟨H4,t4,p1 F3 ρ3 H4 e4 S4 v (RD.bx x4 _ _ q)⟩
     | xc c σ3 =>
      obtain ⟨H4,t4,S4,e4,x4⟩:=cO S3 LF LL.r wz
      exact fun σ4 cv x q1 q2=>E.cl cv x σ4 H3 H4 t4 (p1 F3 ρ3 H4 e4 S4 σ4 cv x (q1.bx x4) q2)
  ·have hd:ds.drop i=[]:=List.drop_eq_nil_of_le (Nat.le_of_not_lt hi)
   rw [hd] at p1
   unfold bC at p1
   obtain ⟨H4,t4,S4,e4,x4⟩:=cO S1 eo e1.r wz
   exact .inl ⟨wst (Nat.le_of_not_lt hi),H4,t4,p1 F1 ρ1 H4 e4 S4 σ1 (r1.bx x4)⟩
theorem vj {c:Fg.E} {b:Ss} (h:TC B Φ E (.while c b) Dn σ H):wZ (TB B Φ E c) (qq B Φ E b) Dn σ H:=by
 obtain ⟨σD,M,F,ρ,S,r,h⟩:=h
 simp only [ex] at h
 refine ⟨fun m σ H=>∃ σD M F ρ,SR B F ρ M H/\RS B F ρ H σD σ/\aJ B (bI (ev Φ c) (exs Φ b) m σD M) F ρ H Dn E,⟨Φ.turns,σD,M,F,ρ,S,r,h⟩,?_⟩
 rintro m σ1 H1 ⟨AL,M1,F1,ρ1,S1,r1,p1⟩
 cases m with
 | zero=>simp only [bI] at p1;exact p1.elim
 | succ m =>
  simp only [bI] at p1
  refine TC.one S1 r1 p1 fun x M2 F2 ρ2 H2 v e2 S2 r2 rx h2=>?_
  split at h2
  ·simp only [RD] at rx;subst rx
   refine ⟨false,rfl,?_⟩
   exact aJ.run h2 S2 _ r2
  ·simp only [RD] at rx;subst rx
   refine ⟨true,rfl,?_⟩
   refine ⟨fun σ' H'=>∃ σD M F ρ,SR B F ρ M H'/\RS B F ρ H' σD σ'/\aJ B (bI (ev Φ c) (exs Φ b) m σD M) F ρ H' Dn E,fun σ' H' q=>⟨m,Nat.lt_succ_self m,q⟩,AL,M2,F2,ρ2,S2,r2,?_⟩
   cases hb:exs Φ b AL M2 with
   | exc c M3=>rw [hb] at h2;exact h2
   | bad=>rw [hb] at h2;exact h2
   | ok o M3 =>
    rw [hb] at h2
    simp only [R.af] at h2
    intro F3 ρ3 H3 e3 S3
    cases o with
    | nx σ3=>exact fun σ4 r4=>⟨σ3,M3,F3,ρ3,S3,r4,aJ.weak e3 h2⟩
    | ct σ3=>exact fun σ4 r4=>⟨σ3,M3,F3,ρ3,S3,r4,aJ.weak e3 h2⟩
    | bk σ3=>exact fun σ4 r4=>h2 F3 ρ3 H3 e3 S3 σ4 r4
    | rt d=>exact fun v q=>h2 F3 ρ3 H3 e3 S3 v q
    | xc c σ3=>exact fun σ4 cv x q1 q2=>h2 F3 ρ3 H3 e3 S3 σ4 cv x q1 q2
  ·exact h2.elim
end
end Fg
end
section
namespace Fg
open PySem PySem.Spec L2
mutual
inductive VV (h:Heap):D->Value->Prop
 | ao:VV h .ao .none
 | bl (b:Bool):VV h (.bl b) (.bool b)
 | int (i:Int) (t:Tok):VV h (.int i) (.int i t)
 | str (x:Str) (t:Tok):VV h (.str x) (.str x t)
 | tup {ds:List D} {a:Addr} {its:List Value}:h.IsTuple a its.toArray->jw h ds its->VV h (.tup ds) (.ref a)
 | lst {ds:List D} {a:Addr} {its:List Value}:h.IsList a its.toArray->jw h ds its->VV h (.lst ds) (.ref a)
inductive jw (h:Heap):List D->List Value->Prop
 | nil:jw h [] []
 | cons {d:D} {u:Value} {ds:List D} {us:List Value}:VV h d u->jw h ds us->jw h (d::ds) (u::us)
end
section
variable {X:Cx} {pins:List (Addr×Obj)} {σ:L2.St} {H:Hp} {s:Shared}
mutual
theorem DV.vv (I:Inv X pins σ H s):∀ (d:D) (x:V) (u:Value),DV X.K H d x->RelV x u->VV s.heap d u
 | .ao,x,u,h,r=>by simp only [DV] at h;subst h;cases (show u=Value.none from r);exact .ao
 | .bl b,x,u,h,r=>by simp only [DV] at h;subst h;cases (show u=Value.bool b from r);exact .bl b
 | .int i,x,u,h,r=>by simp only [DV] at h;subst h;obtain ⟨t,rfl⟩:=(show ∃ t,u=Value.int i t from r);exact .int i t
 | .str z,x,u,h,r=>by simp only [DV] at h;subst h;obtain ⟨t,rfl⟩:=(show ∃ t,u=Value.str z t from r);exact .str z t
 | .tup ds,x,u,h,r=>by
  simp only [DV] at h
  obtain ⟨a,vs,rfl,h1,h2⟩:=h
  cases (show u=Value.ref a from r)
  obtain ⟨its,r1,t1,_⟩:=I.tuple h1
  exact .tup t1 (om.vv I ds vs its h2 r1)
 | .lst ds,x,u,h,r=>by
  simp only [DV] at h
  obtain ⟨a,vs,rfl,h1,h2⟩:=h
  cases (show u=Value.ref a from r)
  obtain ⟨its,r1,t1,_⟩:=I.list h1
  exact .lst t1.isList (om.vv I ds vs its h2 r1)
 | .dct _ _,x,u,h,r=>by simp only [DV] at h
 | .ref _,x,u,h,r=>by simp only [DV] at h
 | .iP _,x,u,h,r=>by simp only [DV] at h
theorem om.vv (I:Inv X pins σ H s):∀ (ds:List D) (xs:List V) (us:List Value),om X.K H ds xs->Vals xs us->jw s.heap ds us
 | [],xs,us,h,r=>by simp only [om] at h;subst h;cases r;exact .nil
 | d::ds,xs,us,h,r=>by
  simp only [om] at h
  obtain ⟨v,ws,rfl,h1,h2⟩:=h
  cases r with
  | cons r1 r2=>exact .cons (DV.vv I d _ _ h1 r1) (om.vv I ds _ _ h2 r2)
end
end
theorem AQ {h:Heap} {a:Addr} {x y:List Value} (p:h.IsTuple a x.toArray) (q:h.IsTuple a y.toArray):x=y:=by
 obtain ⟨o,e,_,n,d⟩:=p
 obtain ⟨o',e',_,n',d'⟩:=q
 rw [e] at e';cases e';rw [d] at d';simpa using (Data.seq.inj d').1
theorem Cn {h:Heap} {a:Addr} {x y:List Value} (p:h.IsList a x.toArray) (q:h.IsList a y.toArray):x=y:=by
 obtain ⟨o,e,_,n,d⟩:=p
 obtain ⟨o',e',_,n',d'⟩:=q
 rw [e] at e';cases e';rw [d] at d';simpa using (Data.seq.inj d').1
mutual
theorem VV.same {s:Shared}:∀ (d e:D) (u:Value),VV s.heap d u->VV s.heap e u->aF d e=true
 | .ao,_,_,p,q=>by cases p;cases q;rfl
 | .bl _,_,_,p,q=>by cases p;cases q;simp [aF]
 | .int _,_,_,p,q=>by cases p;cases q;simp [aF]
 | .str _,_,_,p,q=>by cases p;cases q;simp [aF]
 | .tup ds,_,_,p,q=>by
  cases p with
  | tup t1 p=>cases q with
   | tup t2 q=>simp only [aF];exact jw.same ds _ _ p (AQ t1 t2 ▸ q)
   | lst t2 q=>exact absurd rfl (SeqAt.ne_of_list_tuple t2 t1)
 | .lst ds,_,_,p,q=>by
  cases p with
  | lst t1 p=>cases q with
   | lst t2 q=>simp only [aF];exact jw.same ds _ _ p (Cn t1 t2 ▸ q)
   | tup t2 q=>exact absurd rfl (SeqAt.ne_of_list_tuple t1 t2)
 | .dct _ _,_,_,p,_=>nomatch p
 | .ref _,_,_,p,_=>nomatch p
 | .iP _,_,_,p,_=>nomatch p
theorem jw.same {s:Shared}:∀ (ds es:List D) (us:List Value),jw s.heap ds us->jw s.heap es us->c5 ds es=true
 | [],_,_,p,q=>by cases p;cases q;rfl
 | d::ds,_,_,p,q=>by
  cases p with
  | cons p1 p2=>cases q with
   | cons q1 q2=>simp only [c5,VV.same d _ _ p1 q1,jw.same ds _ _ p2 q2,Bool.and_self]
end
theorem jw.length {h:Heap}:∀ {ds:List D} {us:List Value},jw h ds us->ds.length=us.length
 | _,_,.nil=>rfl
 | _,_,.cons _ q=>by simp [jw.length q]
theorem jw.get {h:Heap}:∀ {ds:List D} {us:List Value} {i:Nat} (h1:i<us.length),jw h ds us->∃ d,ds[i]? = some d/\VV h d us[i]/\dep d<=deps ds
 | _,_,i,h1,.nil=>by simp at h1
 | d::ds,u::us,i,h1,.cons p q=>by
  cases i with
  | zero=>exact ⟨d,rfl,p,by simp only [deps];omega⟩
  | succ i =>
   obtain ⟨e,a,b,c⟩:=jw.get (i:=i) (by simpa using h1) q
   exact ⟨e,by simpa using a,by simpa using b,by simp only [deps];omega⟩
noncomputable def pairD (ds es:List D) (j:Nat):Bool:=match ds[j]?,es[j]? with | some a,some b=>aF a b | _,_=>false
theorem kR:∀ (ds es:List D),((List.range (min ds.length es.length)).all (pairD ds es)&&ds.length == es.length)=c5 ds es
 | [],[]=>by simp [c5]
 | [],e::es=>by simp [c5]
 | d::ds,[]=>by simp [c5]
 | d::ds,e::es=>by
  have ih:=kR ds es
  simp only [c5,<- ih]
  simp only [List.length_cons,Nat.succ_min_succ,List.range_succ_eq_map,List.all_cons,List.all_map,Function.comp_def]
  simp [Bool.and_assoc,pairD]
  rfl
theorem in1_units (A:Around):A.in1.units=A.units+1:=rfl
section
variable {s:Shared}
noncomputable def IX (s:Shared) (n:Nat):Prop:=∀ (d e:D) (u w:Value) (A:Around),dep d+dep e<n->VV s.heap d u->VV s.heap e w->A.units+min (dep d) (dep e)<cLine->SeqAt.RcAt A s u w (aF d e)/\SeqAt.EqAt A s u w (aF d e)
theorem IX.items {n:Nat} {ds es:List D} {us ws:List Value} {A:Around} (ih:IX s n) (hn:deps ds+deps es<n) (p:jw s.heap ds us) (q:jw s.heap es ws) (hA:A.units+(min (deps ds) (deps es)+1)<cLine) :
  ∀ j (h1:j<us.toArray.size) (h2:j<ws.toArray.size),SeqAt.EqAt A.in1 s us.toArray[j] ws.toArray[j] (pairD ds es j):=by
 intro j h1 h2
 obtain ⟨d,e1,p1,g1⟩:=p.get (i:=j) (by simpa using h1)
 obtain ⟨e,e2,p2,g2⟩:=q.get (i:=j) (by simpa using h2)
 simp only [pairD,e1,e2]
 exact (ih d e _ _ A.in1 (by omega) p1 p2 (by rw [in1_units];omega)).2
theorem IX.tup {n:Nat} {ds es:List D} {us ws:List Value} {a b:Addr} {A:Around} (ih:IX s n) (hn:deps ds+deps es<n) (t1:s.heap.IsTuple a us.toArray) (t2:s.heap.IsTuple b ws.toArray) (p:jw s.heap ds us) (q:jw s.heap es ws) (hA:A.units+(min (deps ds) (deps es)+1)<cLine) :
  SeqAt.RcAt A s (.ref a) (.ref b) (c5 ds es)/\SeqAt.RcNeAt A s (.ref a) (.ref b) (!c5 ds es):=by
 have hi:=ih.items hn p q hA
 have r:=SeqAt.RcAt.tuples t1 t2 (by omega) hi
 have r':=SeqAt.RcNeAt.tuples t1 t2 (by omega) hi
 simp only [List.size_toArray,<- p.length,<- q.length,kR] at r r'
 exact ⟨r,r'⟩
theorem IX.lst {n:Nat} {ds es:List D} {us ws:List Value} {a b:Addr} {A:Around} (ih:IX s n) (hn:deps ds+deps es<n) (t1:s.heap.IsList a us.toArray) (t2:s.heap.IsList b ws.toArray) (p:jw s.heap ds us) (q:jw s.heap es ws) (hA:A.units+(min (deps ds) (deps es)+1)<cLine) :
  SeqAt.RcAt A s (.ref a) (.ref b) (c5 ds es)/\SeqAt.RcNeAt A s (.ref a) (.ref b) (!c5 ds es):=by
 have z:=kR ds es
 by_cases hz:us.length=ws.length
 ·have hi:=ih.items hn p q hA
  have r:=SeqAt.RcAt.lists t1 t2 (by simpa using hz) (by omega) hi
  have r':=SeqAt.RcNeAt.lists t1 t2 (by simpa using hz) (by omega) hi
  rw [p.length,q.length,<- hz,Nat.min_self,beq_self_eq_true,Bool.and_true] at z
  rw [List.size_toArray,z] at r r'
  exact ⟨r,r'⟩
 ·rw [p.length,q.length,beq_false_of_ne hz,Bool.and_false] at z
  rw [<- z]
  exact ⟨SeqAt.RcAt.lists_lengths t1 t2 (by simpa using hz) (by omega),SeqAt.RcNeAt.lists_lengths t1 t2 (by simpa using hz) (by omega)⟩
theorem eq_data:∀ (n:Nat),IX s n
 | 0=>fun _ _ _ _ _ h=>absurd h (Nat.not_lt_zero _)
 | n+1=>by
  intro d e u w A hn hd he hA
  have ih:=eq_data n
  have hu:A.units<cLine:=by omega
  have fin:∀ {a b:Addr},VV s.heap d (.ref a)->VV s.heap e (.ref b)->SeqAt.RcAt A s (.ref a) (.ref b) (aF d e)->SeqAt.RcAt A s (.ref a) (.ref b) (aF d e)/\SeqAt.EqAt A s (.ref a) (.ref b) (aF d e):=fun {a b} p q r=>by
   refine ⟨r,?_⟩
   by_cases hab:a=b
   ·subst hab
    rw [VV.same d e _ p q]
    exact .same _
   ·exact .of_refs hab r
  have hd':=hd
  have he':=he
  cases hd with
  | ao=>cases he with
   | ao=>simp only [aF];exact ⟨.none_none,.same _⟩
   | bl b2=>simp only [aF];exact ⟨.none_bool b2,.none_bool b2⟩
   | int i2 t2=>simp only [aF];exact ⟨.none_int i2 t2,.none_int i2 t2⟩
   | str x2 t2=>simp only [aF];exact ⟨.none_str x2 t2,.none_str x2 t2⟩
   | lst p2 q2=>simp only [aF];exact ⟨.none_list p2 hu,.none_list p2 hu⟩
   | tup p2 q2=>simp only [aF];exact ⟨.none_tuple p2 hu,.none_tuple p2 hu⟩
  | bl b1=>cases he with
   | ao=>simp only [aF];exact ⟨.bool_none b1,.bool_none b1⟩
   | bl b2=>simp only [aF];exact ⟨.bool_bool b1 b2,.bool_bool b1 b2⟩
   | int i2 t2=>simp only [aF];exact ⟨.bool_int b1 i2 t2,.bool_int b1 i2 t2⟩
   | str x2 t2=>simp only [aF];exact ⟨.bool_str b1 x2 t2,.bool_str b1 x2 t2⟩
   | lst p2 q2=>simp only [aF];exact ⟨.bool_list b1 p2 hu,.bool_list b1 p2 hu⟩
   | tup p2 q2=>simp only [aF];exact ⟨.bool_tuple b1 p2 hu,.bool_tuple b1 p2 hu⟩
  | int i1 t1=>cases he with
   | ao=>simp only [aF];exact ⟨.int_none i1 t1,.int_none i1 t1⟩
   | bl b2=>simp only [aF];exact ⟨.int_bool i1 t1 b2,.int_bool i1 t1 b2⟩
   | int i2 t2=>simp only [aF];exact ⟨.int_int i1 t1 i2 t2,.int_int i1 t1 i2 t2⟩
   | str x2 t2=>simp only [aF];exact ⟨.int_str i1 t1 x2 t2,.int_str i1 t1 x2 t2⟩
   | lst p2 q2=>simp only [aF];exact ⟨.int_list i1 t1 p2 hu,.int_list i1 t1 p2 hu⟩
   | tup p2 q2=>simp only [aF];exact ⟨.int_tuple i1 t1 p2 hu,.int_tuple i1 t1 p2 hu⟩
  | str x1 t1=>cases he with
   | ao=>simp only [aF];exact ⟨.str_none x1 t1,.str_none x1 t1⟩
   | bl b2=>simp only [aF];exact ⟨.str_bool x1 t1 b2,.str_bool x1 t1 b2⟩
   | int i2 t2=>simp only [aF];exact ⟨.str_int x1 t1 i2 t2,.str_int x1 t1 i2 t2⟩
   | str x2 t2=>simp only [aF];exact ⟨.str_str x1 t1 x2 t2,.str_str x1 t1 x2 t2⟩
   | lst p2 q2=>simp only [aF];exact ⟨.str_list x1 t1 p2 hu,.str_list x1 t1 p2 hu⟩
   | tup p2 q2=>simp only [aF];exact ⟨.str_tuple x1 t1 p2 hu,.str_tuple x1 t1 p2 hu⟩
  | lst p1 q1=>cases he with
   | ao=>simp only [aF];exact ⟨.list_none p1 hu,.list_none p1 hu⟩
   | bl b2=>simp only [aF];exact ⟨.list_bool b2 p1 hu,.list_bool b2 p1 hu⟩
   | int i2 t2=>simp only [aF];exact ⟨.list_int i2 t2 p1 hu,.list_int i2 t2 p1 hu⟩
   | str x2 t2=>simp only [aF];exact ⟨.list_str x2 t2 p1 hu,.list_str x2 t2 p1 hu⟩
   | lst p2 q2=>simp only [dep] at hn hA;exact fin hd' he' (by simp only [aF];exact (ih.lst (by omega) p1 p2 q1 q2 (by omega)).1)
   | tup p2 q2=>simp only [aF];exact ⟨.list_tuple p1 p2 hu,.list_tuple p1 p2 hu⟩
  | tup p1 q1=>cases he with
   | ao=>simp only [aF];exact ⟨.tuple_none p1 hu,.tuple_none p1 hu⟩
   | bl b2=>simp only [aF];exact ⟨.tuple_bool b2 p1 hu,.tuple_bool b2 p1 hu⟩
   | int i2 t2=>simp only [aF];exact ⟨.tuple_int i2 t2 p1 hu,.tuple_int i2 t2 p1 hu⟩
   | str x2 t2=>simp only [aF];exact ⟨.tuple_str x2 t2 p1 hu,.tuple_str x2 t2 p1 hu⟩
   | lst p2 q2=>simp only [aF];exact ⟨.tuple_list p1 p2 hu,.tuple_list p1 p2 hu⟩
   | tup p2 q2=>simp only [dep] at hn hA;exact fin hd' he' (by simp only [aF];exact (ih.tup (by omega) p1 p2 q1 q2 (by omega)).1)
theorem ne_data {d e:D} {u w:Value} {A:Around} (hd:VV s.heap d u) (he:VV s.heap e w) (hA:A.units+min (dep d) (dep e)<cLine):SeqAt.RcNeAt A s u w (!aF d e):=by
 have ih:=eq_data (s:=s) (dep d+dep e)
 have hu:A.units<cLine:=by omega
 cases hd with
 | ao=>cases he with
  | ao=>simp only [aF,Bool.not_true];exact .none_none
  | bl b2=>simp only [aF,Bool.not_false];exact .none_bool b2
  | int i2 t2=>simp only [aF,Bool.not_false];exact .none_int i2 t2
  | str x2 t2=>simp only [aF,Bool.not_false];exact .none_str x2 t2
  | lst p2 q2=>simp only [aF,Bool.not_false];exact .none_list p2 hu
  | tup p2 q2=>simp only [aF,Bool.not_false];exact .none_tuple p2 hu
 | bl b1=>cases he with
  | ao=>simp only [aF,Bool.not_false];exact .bool_none b1
  | bl b2=>simp only [aF];exact .bool_bool b1 b2
  | int i2 t2=>simp only [aF];exact .bool_int b1 i2 t2
  | str x2 t2=>simp only [aF,Bool.not_false];exact .bool_str b1 x2 t2
  | lst p2 q2=>simp only [aF,Bool.not_false];exact .bool_list b1 p2 hu
  | tup p2 q2=>simp only [aF,Bool.not_false];exact .bool_tuple b1 p2 hu
 | int i1 t1=>cases he with
  | ao=>simp only [aF,Bool.not_false];exact .int_none i1 t1
  | bl b2=>simp only [aF];exact .int_bool i1 t1 b2
  | int i2 t2=>simp only [aF];exact .int_int i1 t1 i2 t2
  | str x2 t2=>simp only [aF,Bool.not_false];exact .int_str i1 t1 x2 t2
  | lst p2 q2=>simp only [aF,Bool.not_false];exact .int_list i1 t1 p2 hu
  | tup p2 q2=>simp only [aF,Bool.not_false];exact .int_tuple i1 t1 p2 hu
 | str x1 t1=>cases he with
  | ao=>simp only [aF,Bool.not_false];exact .str_none x1 t1
  | bl b2=>simp only [aF,Bool.not_false];exact .str_bool x1 t1 b2
  | int i2 t2=>simp only [aF,Bool.not_false];exact .str_int x1 t1 i2 t2
  | str x2 t2=>simp only [aF];exact .str_str x1 t1 x2 t2
  | lst p2 q2=>simp only [aF,Bool.not_false];exact .str_list x1 t1 p2 hu
  | tup p2 q2=>simp only [aF,Bool.not_false];exact .str_tuple x1 t1 p2 hu
 | lst p1 q1=>cases he with
  | ao=>simp only [aF,Bool.not_false];exact .list_none p1 hu
  | bl b2=>simp only [aF,Bool.not_false];exact .list_bool b2 p1 hu
  | int i2 t2=>simp only [aF,Bool.not_false];exact .list_int i2 t2 p1 hu
  | str x2 t2=>simp only [aF,Bool.not_false];exact .list_str x2 t2 p1 hu
  | lst p2 q2=>simp only [dep] at ih hA;simp only [aF];exact (ih.lst (by omega) p1 p2 q1 q2 (by omega)).2
  | tup p2 q2=>simp only [aF,Bool.not_false];exact .list_tuple p1 p2 hu
 | tup p1 q1=>cases he with
  | ao=>simp only [aF,Bool.not_false];exact .tuple_none p1 hu
  | bl b2=>simp only [aF,Bool.not_false];exact .tuple_bool b2 p1 hu
  | int i2 t2=>simp only [aF,Bool.not_false];exact .tuple_int i2 t2 p1 hu
  | str x2 t2=>simp only [aF,Bool.not_false];exact .tuple_str x2 t2 p1 hu
  | lst p2 q2=>simp only [aF,Bool.not_false];exact .tuple_list p1 p2 hu
  | tup p2 q2=>simp only [dep] at ih hA;simp only [aF];exact (ih.tup (by omega) p1 p2 q1 q2 (by omega)).2
end
end Fg
end
section
namespace Fg
open PySem PySem.Spec L2
section
variable {X:Cx} {B:Bd} {pins:List (Addr×Obj)} {σ:L2.St} {H:Hp} {s:Shared}
noncomputable def ly (B:Bd) (X:Cx):Prop:=∀ a kvs,B.dk a kvs->∀ h:Heap,X.K.In h->kvs.length<=sizeLine/\(a == sysModules)=false/\∃ vs,KV kvs vs/\h.DictOf (aI X.prog X.w) a vs
theorem JN {a:Addr} {kvs:List (Key×V)} (hB:ly B X) (I:Inv X pins σ H s) (h:IT B H a kvs):kvs.length<=sizeLine/\(a == sysModules)=false/\∃ vs,KV kvs vs/\s.heap.DictOf (aI X.prog X.w) a vs:=by
 rcases h with h | h
 ·exact EF I.hok h
 ·exact hB a kvs h s.heap I.fF
noncomputable def Rm (X:Cx):Prop:=X.A.units+150<cLine
theorem GB (hu:Rm X):ez X (compareOp .Eq) (xO X.K false):=by
 intro pins s σ H x y v u Q I rx ry h
 obtain ⟨d,e,hd,he,hc,q⟩:=h
 simp only [ee,Bool.and_eq_true,Bool.or_eq_true,decide_eq_true_eq] at hc
 have:=(eq_data (dep d+dep e+1) d e v u X.A (Nat.lt_succ_self _) (DV.vv I d x v hd rx) (DV.vv I e y u he ry) (by unfold Rm at hu;omega)).1
 exact this X.prog X.w X.xe _ ⟨.bl (aF d e),H,I,rfl,q⟩
theorem Gs (hu:Rm X):ez X (compareOp .NotEq) (xO X.K true):=by
 intro pins s σ H x y v u Q I rx ry h
 obtain ⟨d,e,hd,he,hc,q⟩:=h
 simp only [ee,Bool.and_eq_true,Bool.or_eq_true,decide_eq_true_eq] at hc
 have:=ne_data (A:=X.A) (DV.vv I d x v hd rx) (DV.vv I e y u he ry) (by unfold Rm at hu;omega)
 exact this X.prog X.w X.xe _ ⟨.bl (!aF d e),H,I,rfl,q⟩
theorem GC:ez X (compareOp .Eq) (BI false):=by
 intro pins s σ H x y v u Q I rx ry h
 obtain ⟨a,b,rfl,rfl,q⟩:=h
 refine KA pins s σ H _ _ v u Q I rx ry ⟨rfl,?_⟩
 have e:decide (V.bl a=V.bl b)=(a == b):=nO
 rw [e];exact q
theorem Gu:ez X (compareOp .NotEq) (BI true):=by
 intro pins s σ H x y v u Q I rx ry h
 obtain ⟨a,b,rfl,rfl,q⟩:=h
 refine Ks pins s σ H _ _ v u Q I rx ry ⟨rfl,?_⟩
 have e:decide (V.bl a=V.bl b)=(a == b):=nO
 rw [e];exact q
theorem GA (hu:Rm X):ez X (compareOp .Eq) (xN X.K false):=by
 intro pins s σ H x y v u Q I rx ry h
 obtain ⟨l,b,xs,rfl,rfl,hH,hB,q⟩:=h
 cases rx
 cases ry
 have Lb:X.A.units<cLine:=by unfold Rm at hu;omega
 obtain ⟨its,r,pl,z⟩:=I.list hH
 obtain ⟨its2,r2,F8,z2⟩:=I.list hB
 cases r2
 cases r with
 | nil=>exact SeqAt.eq_listAt (e:=fun _=>true) pl.isList F8.isList rfl Lb (fun j h1=>by simp at h1) ⟨.bl true,H,I,rfl,q⟩
 | cons _ _=>exact SeqAt.eq_list_lengthsAt pl.isList F8.isList (by simp) Lb ⟨.bl false,H,I,rfl,q⟩
theorem Gr (hu:Rm X):ez X (compareOp .NotEq) (xN X.K true):=by
 intro pins s σ H x y v u Q I rx ry h
 obtain ⟨l,b,xs,rfl,rfl,hH,hB,q⟩:=h
 cases rx
 cases ry
 have Lb:X.A.units<cLine:=by unfold Rm at hu;omega
 obtain ⟨its,r,pl,z⟩:=I.list hH
 obtain ⟨its2,r2,F8,z2⟩:=I.list hB
 cases r2
 cases r with
 | nil=>exact SeqAt.RcNeAt.lists (e:=fun _=>true) pl.isList F8.isList rfl Lb (fun j h1=>by simp at h1) X.prog X.w X.xe _ ⟨.bl false,H,I,rfl,q⟩
 | cons _ _=>exact SeqAt.RcNeAt.lists_lengths pl.isList F8.isList (by simp) Lb X.prog X.w X.xe _ ⟨.bl true,H,I,rfl,q⟩
theorem Gz (hB:ly B X):ez X (compareOp .In) (xP B false):=by
 intro pins s σ H x y v u Q I rx ry h
 obtain ⟨a,kvs,k,rfl,rfl,hd,q⟩:=h
 obtain rfl:u=Value.ref a:=ry
 obtain ⟨z,hm,vs,rel,dd⟩:=JN hB I hd
 refine wpAny_in_of (pO rx) hm dd.mapOf ?_
 rw [<- (rel.val k).i0]
 exact ⟨.bl (cG kvs k).isSome,H,I.tok _,rfl,q⟩
theorem vE (hB:ly B X):ez X (compareOp .NotIn) (xP B true):=by
 intro pins s σ H x y v u Q I rx ry h
 obtain ⟨a,kvs,k,rfl,rfl,hd,q⟩:=h
 obtain rfl:u=Value.ref a:=ry
 obtain ⟨z,hm,vs,rel,dd⟩:=JN hB I hd
 refine wpAny_notIn_of (pO rx) hm dd.mapOf ?_
 rw [<- (rel.val k).i0]
 exact ⟨.bl (!(cG kvs k).isSome),H,I.tok _,rfl,q⟩
noncomputable def Ab:AK->CmpOp
 | .eq=>.Eq | .ne=>.NotEq | .lt=>.Lt | .le=>.LtE | .gt=>.Gt | .ge=>.GtE | .isin=>.In | .pB=>.NotIn | .wJ=>.Is | .kh=>.IsNot
theorem ye (hK:B.K=X.K) (hu:Rm X) (hB:ly B X):∀ o:AK,ez X (compareOp (Ab o)) (qT B o)
 | .lt=>Ku
 | .le=>Kv
 | .gt=>Kw
 | .ge=>Kz
 | .eq=>by rw [qT,hK];exact GC.or ((GB hu).or (GA hu))
 | .ne=>by rw [qT,hK];exact Gu.or ((Gs hu).or (Gr hu))
 | .wJ=>Gy
 | .kh=>B6
 | .isin=>by rw [qT,hK];exact (Gz hB).or vF
 | .pB=>by rw [qT,hK];exact (vE hB).or m8
theorem Cb:ez X (binaryOp .Add) (DZ X.K):=by
 intro pins s σ H x y v u Q I rx ry h
 obtain ⟨l,b,xs,zs,rfl,rfl,hH,hB,hz,q⟩:=h
 cases rx
 cases ry
 obtain ⟨its,r,pl,z⟩:=I.list hH
 obtain ⟨its2,r2,F8,z2⟩:=I.list hB
 obtain ⟨⟨cls,dd,data,sl⟩,ho,hc,n,hd⟩:=id pl.isList
 obtain ⟨⟨LP,dd2,data2,sl2⟩,ho2,hc2,n2,hd2⟩:=id F8.isList
 simp only at hc hd hc2 hd2
 subst hc hd hc2 hd2
 have l1:=r.length
 have l2:=r2.length
 have ea:its.toArray++its2.toArray=(its++its2).toArray:=by simp
 refine PySem.concat_meets ⟨_,ho,rfl⟩ ⟨_,ho2,rfl⟩ PySem.noFill_list_add PySem.seq_list_add PySem.F.slot_list_add PySem.F.entry_list_add (PySem.F.args_list_add_2 _ _) (PyProof.Rows.list_addW l b its.toArray its2.toArray n n2 dd dd2 sl sl2 (by simp only [List.size_toArray];omega)) ⟨ho,ho2,?_⟩
 rw [ea]
 exact ⟨.ref _,_,I.KZ (t':=s.toks) (r.append r2) (by rw [List.length_append];omega),rfl,q _ I.fresh⟩
theorem B8:ez X (binaryOp .Mult) (DW X.K):=by
 intro pins s σ H x y v u Q I rx ry h
 obtain ⟨l,xs,k,rfl,rfl,hH,hz,hk,q⟩:=h
 cases rx
 obtain ⟨t,rfl⟩:=(show ∃ t,u=Value.int k t from ry)
 obtain ⟨its,r,pl,z⟩:=I.list hH
 obtain ⟨⟨cls,dd,data,sl⟩,ho,hc,n,hd⟩:=id pl.isList
 simp only at hc hd
 subst hc hd
 have l1:=r.length
 rw [l1] at hz
 refine wpAny_binaryOp_repeat_ref (T:="list") (U:="int") (by decide) ⟨_, ho, rfl⟩ (fun s'=>typeIs_int s' k t) noFill_list_mul PySem.F.fills_int_mul PySem.F.slot_int_rmul repeat_list PySem.F.slot_int_index.lookup
  (call_meets PySem.F.slot_int_rmul (typeIs_int s k t) PySem.F.entry_int_rmul (PySem.F.args_int_rmul_2 _ _) (PySem.lm_int_rmul_list_any k t l its.toArray n dd sl)
   ⟨ho,rfl,⟨_,ho,rfl⟩,call_meets PySem.F.slot_list_mul ⟨_,ho,rfl⟩ PySem.F.entry_list_mul (PySem.F.args_list_mul_2 _ _)
    (PySem.lm_list_mul_any l its.toArray n dd sl k t (by simp [Builtin.List.listFitsIndex];omega) (by rw [List.size_toArray];rw [sizeLine_eq] at hz;omega) (by rw [sizeLine_eq] at hz;simp [Builtin.List.listTooLong,sizeLine];omega))
    ⟨ho,?_⟩⟩)
 rw [PyProof.Rows.listMul_foldl_if]
 have rr:Vals (List.replicate k.toNat xs).flatten (List.replicate k.toNat its).flatten:=by
  generalize k.toNat=m
  induction m with
  | zero=>exact .nil
  | succ m ih=>rw [List.replicate_succ,List.replicate_succ,List.flatten_cons,List.flatten_cons];exact r.append ih
 exact ⟨.ref _,_,I.KZ (t':=s.toks) rr (by rw [List.length_flatten];simp [List.sum_replicate_nat];rw [l1,Nat.mul_comm];exact hz),rfl,q _ I.fresh⟩
theorem pM {i:Int} (h:i.natAbs<10 ^ 200):Builtin.Int.intBits i<=2 ^ 20:=by
 unfold Builtin.Int.intBits
 split
 ·exact Nat.zero_le _
 ·have z:i.natAbs.log2<1000:=by
   by_cases h0:i.natAbs=0
   ·rw [h0];decide
   ·exact (Nat.log2_lt h0).mpr (Nat.lt_of_lt_of_le h (by decide +kernel))
  exact Nat.le_trans (Nat.succ_le_of_lt z) (by decide)
theorem B7:ez X (binaryOp .Mult) (rI Mf fun i j=>.int (i*j)):=KD fun _ _ _ _ _ _ _ hc q=>PyProof.Rows.mul_int q (.of_bits (pM hc.1) (pM hc.2))
noncomputable def binOp:Dp->Operator
 | .add=>.Add | .sub=>.Sub | .mul=>.Mult | .fdiv=>.FloorDiv | .mod=>.Mod | .pow=>.Pow
theorem GD (hK:B.K=X.K):∀ o:Dp,ez X (binaryOp (binOp o)) (J5 B.K o)
 | .add=>by rw [J5,hK];exact GF.or (qX.or (Cb.or Ca))
 | .sub=>Gp
 | .mul=>by rw [J5,hK];exact Gv.or (B7.or B8)
 | .fdiv=>B9
 | .mod=>Gw
 | .pow=>Gq
theorem HK (hB:ly B X):AJ X (J9 B):=by
 intro value slice pins s σ H x y v u Q I rx ry h hs
 obtain ⟨a,kvs,k,w,rfl,rfl,hd,hv,q⟩:=h
 obtain rfl:v=Value.ref a:=rx
 obtain ⟨z,hm,vs,rel,dd⟩:=JN hB I hd
 obtain ⟨w',hw,rw'⟩:=gU.some_of (v:=w) (o:=valueAt vs k) (by rw [<- hv];exact rel.val k)
 exact PyProof.Rows.tail_any dd.typeIs PySem.F.slot_dict_getitem.lookup (wpAny_getItem_of (pO ry) dd.mapOf hw ⟨w,H,I.tok _,rw',q⟩) hs
theorem HL (hK:B.K=X.K) (hB:ly B X):AJ X (BH B):=by
 unfold BH;rw [hK];exact CD.or (HH.or (HJ.or (HK hB)))
theorem v8 (hK:B.K=X.K) (hB:ly B X):b6 X (.builtin "len") (FO B):=by
 unfold FO;rw [hK]
 refine nT.or (nU.or ?_)
 intro pins s σ H xs us Q I r h
 obtain ⟨a,kvs,rfl,ha,q⟩:=h
 obtain ⟨u,rfl,ru⟩:=vals1 r
 cases ru
 obtain ⟨z,hd,vs,rel,dd⟩:=JN hB I ha
 refine call_len_dict hd dd (by rw [<- rel.length];rw [sizeLine_eq] at z;omega) ?_
 rw [<- rel.length]
 exact ⟨.int kvs.length,H,I.tok _,⟨_,rfl⟩,q⟩
theorem v7 (hK:B.K=X.K):b6 X (.type "list") (qR B):=by unfold qR;rw [hK];exact nS
inductive Dk (B:Bd) (H:Hp):V->String->Prop where
 | ao:Dk B H .ao "NoneType"
 | bl (b:Bool):Dk B H (.bl b) "bool"
 | int (i:Int):Dk B H (.int i) "int"
 | str (x:Str):Dk B H (.str x) "str"
 | lst {a:Addr} {xs:List V}:fq B.K H a xs->Dk B H (.ref a) "list"
 | tup {a:Addr} {xs:List V}:gE B.K H a xs->Dk B H (.ref a) "tuple"
 | dct {a:Addr} {kvs:List (Key×V)}:IT B H a kvs->Dk B H (.ref a) "dict"
noncomputable def oz:Ty->String
 | .int=>"int" | .str=>"str" | .bool=>"bool" | .list=>"list" | .tuple=>"tuple" | .dict=>"dict"
noncomputable def tyB (T:String) (t:Ty):Bool:=T == oz t||(T == "bool"&&match t with | .int=>true | _=>false)
noncomputable def Kc (B:Bd):List V->Hp->VK->Prop:=fun xs H Q=>∃ x T t,xs=[x,.ty (oz t)]/\Dk B H x T/\Q (.bl (tyB T t)) H
theorem Cv (K:W.Frag):∀ t:Ty, W.kitOne K (.type "NoneType") (.type (oz t))=some (tyB "NoneType" t)/\W.kitOne K (.type "bool") (.type (oz t))=some (tyB "bool" t)/\W.kitOne K (.type "int") (.type (oz t))=some (tyB "int" t)/\W.kitOne K (.type "str") (.type (oz t))=some (tyB "str" t) /\
  W.kitOne K (.type "list") (.type (oz t))=some (tyB "list" t)/\W.kitOne K (.type "tuple") (.type (oz t))=some (tyB "tuple" t)/\W.kitOne K (.type "dict") (.type (oz t))=some (tyB "dict" t):=by
 intro t
 cases t <;> (refine ⟨?_,?_,?_,?_,?_,?_,?_⟩ <;> kernel_rfl)
theorem Ae (hK:B.K=X.K) (hB:ly B X):b6 X (.builtin "isinstance") (Kc B):=by
 intro pins s σ H xs us Q I r h
 obtain ⟨x,T,t,rfl,ty,q⟩:=h
 cases r with
 | cons rx r =>
  cases r with
  | cons rt r =>
   cases r
   obtain rfl:=(show _=Value.type (oz t) from rt)
   have fin:∀ tk,EP X pins σ Q (.bool (tyB T t)) { s with toks:=tk }:=fun tk=>⟨.bl (tyB T t),H,I.tok _,rfl,q⟩
   obtain ⟨k1,k2,k3,k4,k5,k6,k7⟩:=Cv X.K t
   cases ty with
   | ao=>cases (show _=Value.none from rx);exact W.kia_one W.kitx_none I.fF True.intro k1 (fun z=>nomatch z) fin
   | bl b=>cases (show _=Value.bool b from rx);exact W.kia_one W.kitx_bool I.fF True.intro k2 (fun z=>nomatch z) fin
   | int i=>obtain ⟨tk,q⟩:=(show ∃ t,_=Value.int i t from rx);cases q;exact W.kia_one W.kitx_int I.fF True.intro k3 (fun z=>nomatch z) fin
   | str y=>obtain ⟨tk,q⟩:=(show ∃ t,_=Value.str y t from rx);cases q;exact W.kia_one W.kitx_str I.fF True.intro k4 (fun z=>nomatch z) fin
   | lst hl =>
    cases rx
    rw [hK] at hl
    obtain ⟨its,_,pl,_⟩:=I.list hl
    obtain ⟨o,ho,hc,_⟩:=pl.isList
    exact W.kia_one W.kitx_list I.fF ⟨o,ho,hc⟩ k5 (fun z=>nomatch z) fin
   | tup hl =>
    cases rx
    rw [hK] at hl
    obtain ⟨its,_,pl,_⟩:=I.tuple hl
    obtain ⟨o,ho,hc,_⟩:=pl
    exact W.kia_one W.kitx_tuple I.fF ⟨o,ho,hc⟩ k6 (fun z=>nomatch z) fin
   | dct hd =>
    cases rx
    obtain ⟨z,hm,vs,rel,dd⟩:=JN hB I hd
    obtain ⟨o,ho,hc⟩:=dd.typeIs
    exact W.kia_one W.kitx_dict I.fF ⟨o,ho,hc⟩ k7 (fun z=>nomatch z) fin
end
end Fg
end
section
namespace Fg
open PySem PySem.Spec L2
theorem kc {α:Type} (xs:List α) (a:Nat):∀ c:Nat,((List.range c).map fun k=>a+k).filterMap (fun i=>xs[i]?)=(xs.drop a).take c
 | 0=>by simp
 | c+1=>by
  rw [List.range_succ,List.map_append,List.filterMap_append,kc xs a c,List.take_add_one]
  simp [List.getElem?_drop]
  cases h:xs[a+c]? <;> simp [h]
theorem qi (n d:Nat) (hd:d<=n) (o:Option Int):(match o with
  | none=>((d:Nat):Int)
  | some i=>max 0 (min (if i<0 then i+(n:Int) else i) (n:Int)))=((six n d o:Nat):Int):=by
 cases o with
 | none=>rfl
 | some i=>simp only [six];split <;> omega
theorem Fl (n d:Nat) (hd:d<=n) (o:Option Int):six n d o<=n:=by
 cases o with
 | none=>exact hd
 | some i=>simp only [six];split <;> omega
theorem FF (a b:Nat):sliceRange (a:Int) (b:Int) 1=(List.range (b-a)).map fun k=>a+k:=by
 unfold sliceRange
 simp only [show (1:Int) > 0 by decide,if_true]
 have ec:(if (a:Int)<(b:Int) then ((b:Int)-(a:Int)+1-1) / 1 else 0).toNat=b-a:=by
  split <;> omega
 rw [ec]
 apply List.map_congr_left
 intro k _
 omega
theorem zc (l u:Option Int) (n:Nat):Builtin.Str.strSliceIndices l u 1 n=(List.range (six n n u-six n 0 l)).map fun k=>six n 0 l+k:=by
 rw [<- FF,<- qi n 0 (Nat.zero_le _) l,<- qi n n (Nat.le_refl _) u]
 unfold Builtin.Str.strSliceIndices
 cases l <;> cases u <;> rfl
theorem qI (x:Str) (l u:Option Int):Txt.slice x l u=cuts x l u:=by
 have hn:x.cps.toList.length=x.length:=by simp [Str.length]
 have key:(Builtin.Str.strSliceIndices l u 1 x.length).filterMap (x.cps[·]?)=kP x.cps.toList l u:=by
  rw [zc]
  have:=kc x.cps.toList (six x.length 0 l) (six x.length x.length u-six x.length 0 l)
  unfold kP
  rw [hn,<- this]
  congr 1
  funext i
  simp
 unfold Txt.slice
 split
 ·rename_i hc
  simp only [Bool.and_eq_true,beq_iff_eq] at hc
  have hc2:=hc.2
  rw [zc] at hc2
  simp only [List.length_map,List.length_range] at hc2
  have b1:=Fl x.length x.length (Nat.le_refl _) u
  unfold cuts kP
  rw [hn]
  by_cases h0:x.length=0
  ·obtain ⟨⟨l⟩⟩:=x
   simp [Str.length] at h0
   subst h0
   simp
  ·have a0:six x.length 0 l=0:=by omega
   rw [a0,List.drop_zero,List.take_of_length_le (by rw [hn];omega)]
 ·show Str.mk _=Str.mk _
  rw [key]
section
variable {X:Cx} {B:Bd}
theorem Fi:Dm X J3:=by
 intro pins s σ H x v vl vu lo hi sl Q I rx hs pl pu h
 obtain ⟨z,rfl,hz,q⟩:=h
 obtain ⟨t,rfl⟩:=(show ∃ t,v=Value.str z t from rx)
 refine ⟨"str", _, PySem.F.slot_str_getitem.lookup, typeIs_str _ _ _, ?_⟩
 have fin:∀ (l u:Option Int) (t':Tok) (k:Nat),l=lo->u=hi->EP X pins σ Q (.str (Txt.slice z l u) t') { s with toks:=k }:=by
  intro l u t' k e3 e4
  exact ⟨.str (cuts z lo hi),H,I.tok _,⟨t',by rw [qI,e3,e4]⟩,q⟩
 obtain ⟨o,ho,hc,hd⟩:=hs
 cases pl with
 | none =>
  cases pu with
  | none=>exact wpAny_getItem_str_slice (l:=none) (u:=none) (st:=none) ⟨o,ho,hc,hd⟩ rfl (post_val_or_str ⟨Nat.le_trans (Txt.slice_le z none none) hz,fun t' k=>fin none none t' k rfl rfl⟩)
  | int j tj=>exact wpAny_getItem_str_slice (l:=none) (u:=some (j,tj)) (st:=none) ⟨o,ho,hc,hd⟩ rfl (post_val_or_str ⟨Nat.le_trans (Txt.slice_le z none (some j)) hz,fun t' k=>fin none (some j) t' k rfl rfl⟩)
 | int i ti =>
  cases pu with
  | none=>exact wpAny_getItem_str_slice (l:=some (i,ti)) (u:=none) (st:=none) ⟨o,ho,hc,hd⟩ rfl (post_val_or_str ⟨Nat.le_trans (Txt.slice_le z (some i) none) hz,fun t' k=>fin (some i) none t' k rfl rfl⟩)
  | int j tj=>exact wpAny_getItem_str_slice (l:=some (i,ti)) (u:=some (j,tj)) (st:=none) ⟨o,ho,hc,hd⟩ rfl (post_val_or_str ⟨Nat.le_trans (Txt.slice_le z (some i) (some j)) hz,fun t' k=>fin (some i) (some j) t' k rfl rfl⟩)
theorem Fj (hK:B.K=X.K):Dm X (BG B):=by
 unfold BG;rw [hK];exact Bb.or (Ff.or Fi)
end
end Fg
end
section
namespace Fg
open PySem PySem.Spec L2
theorem dX {α β:Type} (g:β->α->β):∀ {l:List α} {f:α->β->Sem (ForInStep β)} (_:∀ x∈l,∀ c,f x c=pure (.yield (g c x))) (c:β),forIn l c f=pure (l.foldl g c)
 | [],f,_,c=>rfl
 | x::l,f,h,c=>by
  rw [List.forIn_cons,h x List.mem_cons_self,pure_bind]
  exact dX g (fun y hy=>h y (List.mem_cons_of_mem _ hy)) _
noncomputable def aG (env:Env) (cs:List (Str×Addr)) (x:Str×NameKind):List (Str×Addr):=if x.2 == .free then (x.1,(env.cells.lookup x.1).getD 0)::cs else cs
theorem su {scope:Scope} {env:Env} (h:∀ x,(x,NameKind.free)∈scope.names->∃ c,env.cells.lookup x=some c):closureFor scope env=pure (scope.names.foldl (aG env) []):=by
 unfold closureFor
 dsimp only
 rw [dX (aG env) (fun x hx c=>?_)]
 ·rfl
 obtain ⟨n,k⟩:=x
 by_cases hk:k=.free
 ·subst hk
  obtain ⟨a,ha⟩:=h n hx
  simp only [aG,cellOf,ha,beq_self_eq_true,if_true,Option.getD_some]
  rfl
 ·have hb:(k == NameKind.free)=false:=by simpa using hk
  simp only [aG,hb,Bool.false_eq_true,if_false]
theorem nQ {env:Env}:∀ (names:List (Str×NameKind)) (cs:List (Str×Addr)) (p:Str×Addr),(∀ x,(x,NameKind.free)∈names->∃ c,env.cells.lookup x=some c)->p∈names.foldl (aG env) cs->p∈cs\/env.cells.lookup p.1=some p.2
 | [],cs,p,_,h=>.inl h
 | (n, k)::r, cs, p, hc, h=>by
  rw [List.foldl_cons] at h
  rcases nQ r _ p (fun x hx=>hc x (List.mem_cons_of_mem _ hx)) h with q | q
  ·unfold aG at q
   split at q
   ·rename_i hk
    have hk':k=.free:=by simpa using hk
    subst hk'
    rcases List.mem_cons.mp q with q | q
    ·obtain ⟨a,ha⟩:=hc n List.mem_cons_self
     right
     rw [q]
     show env.cells.lookup n=some ((env.cells.lookup n).getD 0)
     rw [ha];rfl
    ·exact .inl q
   ·exact .inl q
  ·exact .inr q
theorem uR {env:Env}:∀ (names:List (Str×NameKind)) (cs:List (Str×Addr)) (x:Str),(∃ c,(x,c)∈cs)->∃ c,(x,c)∈names.foldl (aG env) cs
 | [],cs,x,h=>h
 | (n,k)::r,cs,x,⟨c,h⟩=>by
  rw [List.foldl_cons]
  refine uR r _ x ⟨c,?_⟩
  unfold aG
  split
  ·exact List.mem_cons_of_mem _ h
  ·exact h
theorem sy {env:Env}:∀ (names:List (Str×NameKind)) (cs:List (Str×Addr)) (x:Str),(x,NameKind.free)∈names->∃ c,(x,c)∈names.foldl (aG env) cs
 | (n, k)::r, cs, x, h=>by
  rw [List.foldl_cons]
  rcases List.mem_cons.mp h with h | h
  ·cases h
   refine uR r _ n ⟨(env.cells.lookup n).getD 0,?_⟩
   unfold aG
   rw [if_pos (by rfl)]
   exact List.mem_cons_self
  ·exact sy r _ x h
theorem dB {β:Type}:∀ {l:List (Str×β)} {x:Str} {c:β},(x,c)∈l->∃ d,l.lookup x=some d
 | (n, k)::r, x, c, h=>by
  rw [List.lookup_cons]
  cases e:x == n with
  | true=>exact ⟨k,rfl⟩
  | false =>
   rcases List.mem_cons.mp h with h | h
   ·cases h;simp at e
   ·exact dB h
theorem cT {env:Env}:∀ {names:List (Str×NameKind)} {x:Str},(names.map fun (n,k)=>if (k == NameKind.free&&env.scope.kind == .function&&env.kindOf n == some .cell) then (n,NameKind.cell) else (n,k)).lookup x =
  (names.lookup x).map fun k=>if (k == NameKind.free&&env.scope.kind == .function&&env.kindOf x == some .cell) then NameKind.cell else k
 | [],x=>rfl
 | (n, k)::r, x=>by
  have ih:=@cT env r x
  show List.lookup x ((if (k == NameKind.free&&env.scope.kind == .function&&env.kindOf n == some .cell)=true then (n,NameKind.cell) else (n,k))::_)=_
  cases hx:x == n with
  | true =>
   have e:x=n:=by simpa using hx
   subst e
   by_cases hc:(k == NameKind.free&&env.scope.kind == .function&&env.kindOf x == some .cell)=true
   ·rw [if_pos hc];simp only [List.lookup_cons,hx,Option.map_some,if_pos hc]
   ·rw [if_neg hc]
    simp only [List.lookup_cons,hx,Option.map_some,if_neg hc]
  | false =>
   by_cases hc:(k == NameKind.free&&env.scope.kind == .function&&env.kindOf n == some .cell)=true
   ·rw [if_pos hc];simp only [List.lookup_cons,hx];exact ih
   ·rw [if_neg hc];simp only [List.lookup_cons,hx];exact ih
noncomputable def EM (X:Cx) (scope:Scope) (cl:List (Str×Addr)) (N:List Str) (fp:List Addr) (s:Shared) (H:Hp) (C:Addr):Cx :=
 { X with N:=N,s₀:=s,H₀:=H,env:=compEnvC scope cl C X.env,outer:=X.stack,stack:=X.stack,ex:=fp,fn:=fun _=>false,pn:=[],xe:=fun _ _=>False }
noncomputable abbrev dM (X:Cx) (scope:Scope) (cl:List (Str×Addr)) (N:List Str) (fp:List Addr) (s:Shared) (H:Hp) (C:Addr) (E:XK):Cx:=(EM X scope cl N fp s H C).bM (gY (EM X scope cl N fp s H C) fun cv x _ H'=>E cv x H')
noncomputable def Jo (X:Cx) (ifs:List Expr) (t:TT):Prop :=
 ∀ (pins:List (Addr×Obj)) (s:Shared) (σ:St) (H:Hp) (Q:Bool->Hp->Prop),Inv X pins σ H s->t σ H Q ->
  wpAny (model X.prog X.w) X.A (forIn ifs true fun c r=>if r=true then do let ok <- isTrue c X.env (eval c X.env);pure (ForInStep.yield ok) else pure (ForInStep.yield r)) (L2.TP X pins σ Q) X.xe s
theorem BK {X:Cx}:Jo X [] (fun _ H Q=>Q true H):=fun pins s σ H Q I h=>wpAny_tests_nil ⟨H,I,h⟩
theorem BJ {X:Cx} {c:Expr} {t:TT} (h:PT X c t):Jo X [c] t:=fun pins s σ H Q I q=>wpAny_tests_one (h pins s σ H Q I q)
noncomputable def qm (cp:List Nat) (n:Nat) (σ:St):St:=cp.map (fun i=>(σ[i]?).join)++List.replicate n none
noncomputable def sS (wi:TI) (g:TG) (tc:St->TT) (te:St->TE) (cp:List Nat) (n:Nat):TE:=fun σ H Q=>wi σ H fun J H1=>∀ D,H1 D=none->∃ W:Nat->Nat->St->Hp->Prop,(∃ m,W 0 m (qm cp n σ) (upd H1 D (.lst [])))/\∀ i m σ' H',W i m σ' H' ->
 (J.stop i H'/\Q (.ref D) H')\/(J.go i H'/\∀ x H2,J.Mh i H' x H2->g x σ' H2 fun σ2 H3=>tc σ σ2 H3 fun b H4 =>
  if b=true then te σ σ2 H4 fun v H5=>∃ ys,H5 D=some (.lst ys)/\ys.length<sizeLine/\∃ m',m'<m/\W (i+1) m' σ2 (upd H5 D (.lst (ys++[v]))) else ∃ m',m'<m/\W (i+1) m' σ2 H4)
theorem gu {prog:Program} {w:World} {A:Around} {R:Result->Shared->Prop} {s:Shared} {elt target iter:Expr} {ifs:List Expr} {scope:Scope} {pos:Pos} {it acc:Value} {env:Env} (I:Nat->Shared->Prop) (EX:Value->Shared->Prop) (hE:∀ e s,EX e s->notedBy (model prog w) A env (fun x s'=>R (.error x) s') e s)
  (turn:∀ n s,I n s->wpAny (model prog w) A (pyNext it) (fun r s₁=>match r with
   | none=>R (.ok .next) s₁
   | some v=>wpAny (model prog w) A (letOwnedTupleGo target it v) (fun _ s₁'=>wpAny (model prog w) A (assign target env v) (fun _ s₂ =>
     wpAny (model prog w) A (forIn ifs true fun c r=>if r=true then do let ok <- isTrue c env (eval c env);pure (ForInStep.yield ok) else pure (ForInStep.yield r)) (fun ok s₃ =>
      if ok=true then wpAny (model prog w) A (eval elt env) (fun x s₄ =>
       wpAny (model prog w) A (call (.builtin "list.append") [acc, x]) (fun _ s₅=>∃ m, m<n/\I m s₅) EX s₄) EX s₃
      else ∃ m,m<n/\I m s₃) EX s₂) EX s₁') EX s₁) EX s)
  (n:Nat) (h:I n s):codeAny (model prog w) A (.compLoop (.ListComp elt [⟨target,iter,ifs,0⟩] scope pos) 0 it acc env) R s:=by
 refine codeAny_loop rfl I (fun n s hI=>?_) n h
 show wpAny _ A ((compTurn (.ListComp elt [⟨target,iter,ifs,0⟩] scope pos) 0 it acc env).onRaise (fun x=>do noteFrame x env;theTreesLotGoes x)) _ _ s
 refine wpAny_noted ?_
 rw [compTurn_list]
 refine wpAny_bind (wpAny_standAt (wpAny_bind (wpAny_mono (turn n s hI) (fun r s₁ h₁=>?_) hE)))
 cases r with
 | none=>exact wpAny_pure h₁
 | some v =>
  refine wpAny_bind (wpAny_mono h₁ (fun _ s₁' h₁'=>?_) hE)
  refine wpAny_bind (wpAny_mono h₁' (fun _ s₂ h₂=>wpAny_bind (wpAny_mono h₂ (fun ok s₃ h₃=>?_) hE)) hE)
  cases ok with
  | false=>exact wpAny_pure ⟨rfl,h₃⟩
  | true =>
   exact wpAny_bind (wpAny_bind (wpAny_mono h₃ (fun x s₄ h₄=>wpAny_bind (wpAny_mono h₄ (fun _ s₅ h₅=>wpAny_pure (wpAny_pure ⟨rfl,h₅⟩)) hE)) hE))
section
variable {X:Cx} {pins:List (Addr×Obj)} {σ:St} {H:Hp} {s:Shared}
structure gW (X:Cx) (scope:Scope) (N:List Str) (cp:List Nat) (n:Nat):Prop where
 free:∀ x,(x,NameKind.free)∈scope.names->X.env.kindOf x=some .cell\/X.env.kindOf x=some .free
 cell:∀ y∈scope.names,y.2≠.cell
 kind:scope.kind=.function
 names:∀ y∈scope.names,y.2=.local->scope.names.lookup y.1=some .local
 len:N.length=cp.length+n
 cap:∀ (i j:Nat) (x:Str),N[i]? = some x->cp[i]? = some j->X.N[j]? = some x/\scope.names.lookup x=some .free
theorem II {scope:Scope} {N:List Str} {cp:List Nat} {n:Nat} {fp:List Addr} {C:Addr} (S:gW X scope N cp n) (I:Inv X pins σ H s) (hf:∀ b∈fp,kT X pins H b) (hC:s.heap.objs.size<C) (HR:∀ b∈fp,b<s.heap.objs.size) :
  (EM X scope (scope.names.foldl (aG X.env) []) N fp s H C).Ok:=by
 have hex:∀ x,(x,NameKind.free)∈scope.names->∃ c,X.env.cells.lookup x=some c:=fun x hx=>I.ok.has x (S.free x hx)
 have hcl:∀ x c,(scope.names.foldl (aG X.env) []).lookup x=some c->X.env.cells.lookup x=some c:=fun x c e=>by
  rcases nQ scope.names [] (x,c) hex (PySem.mem_of_lookup e) with q | q
  ·cases q
  ·exact q
 refine ⟨I.ok.mod,S.kind,I.ok.glob,I.ok.blt,Nat.le_of_lt hC,fun x y c h1 h2=>I.ok.inj x y c (hcl x c h1) (hcl y c h2),fun x hx=>?_,fun x c h _=>(Bool.false_ne_true h).elim,I.ok.hd,I.ok.frames,.inl rfl,fun b hb=>⟨Nat.ne_of_lt (Nat.lt_trans (HR b hb) hC),fun x c e=>(hf b hb).2.2.2.2.1 x c (hcl x c e)⟩,
  fun b o e=>I.bs b o e,Nat.le_trans I.ok.wm I.sz,fun b o e hb=>?_,fun b hb hs=>?_,I.stack,I.gb⟩
 ·have q:(x,NameKind.free)∈scope.names:=by
   have hx:(relabel scope X.env).names.lookup x=some .cell\/(relabel scope X.env).names.lookup x=some .free:=hx
   unfold relabel at hx
   dsimp only at hx
   rw [cT] at hx
   cases e:scope.names.lookup x with
   | none=>rw [e] at hx;simp at hx
   | some k =>
    rw [e] at hx
    have hm:=PySem.mem_of_lookup e
    cases k with
    | free=>exact hm
    | cell=>exact (S.cell _ hm rfl).elim
    | «local»=>simp at hx
    | globalImplicit=>simp at hx
    | globalExplicit=>simp at hx
  obtain ⟨c,hc⟩:=sy (env:=X.env) scope.names [] x q
  exact dB hc
 ·rcases (hf b hb).2.2.2.1 with z | z
  ·exact I.ok.pC b o e z
  ·exact absurd (Nat.lt_of_lt_of_le (Heap.lt_size e) (Nat.le_trans I.ok.wm z)) (Nat.lt_irrefl _)
 ·rcases List.mem_cons.mp (I.eE b hs) with z | z
  ·exact (hf b hb).2.1 z
  ·exact (hf b hb).2.2.1 z
theorem wu {scope:Scope} {N:List Str} {cp:List Nat} {n:Nat} {fp:List Addr} {C D:Addr} {h1:Heap} {t1:Nat} (S:gW X scope N cp n) (I:Inv X pins σ H s) (hf:∀ b∈fp,kT X pins H b) (HR:∀ b∈fp,b<s.heap.objs.size)
  (hD:D=s.heap.objs.size) (hC:C=s.heap.objs.size+1) {m:Str->Option Value} (hns:h1.Ns C m) (old:∀ b o, s.heap.get? b=some o->h1.get? b=some o) (hacc:h1.get? D=some { cls:=.type "list", data:=.seq ([]:List Value).toArray 0 }) :
  Inv (EM X scope (scope.names.foldl (aG X.env) []) N fp s H C) [] (qm cp n σ) (upd H D (.lst [])) { s with heap:=h1,toks:=t1 }:=by
 have hex:∀ x,(x,NameKind.free)∈scope.names->∃ c,X.env.cells.lookup x=some c:=fun x hx=>I.ok.has x (S.free x hx)
 have hcl:∀ x c,(scope.names.foldl (aG X.env) []).lookup x=some c->X.env.cells.lookup x=some c:=fun x c e=>by
  rcases nQ scope.names [] (x,c) hex (PySem.mem_of_lookup e) with q | q
  ·cases q
  ·exact q
 have fD:H D=none:=I.hok.fresh (by rw [hD];exact Nat.le_refl _)
 have fC:H C=none:=I.hok.fresh (by rw [hC];exact Nat.le_succ _)
 have cellK:∀ x c v,X.env.cells.lookup x=some c->s.heap.IsCell c v->h1.IsCell c v:=fun x c v e ⟨o,ho,hd⟩=>⟨o,old c o ho,hd⟩
 refine ⟨II S I hf (by rw [hC];exact Nat.lt_succ_self _) HR,rfl,I.bare,?_,⟨m,hns,fun i x v e1 e2 e3=>?_⟩,fun x c e=>?_,?_,fun x c e=>?_,fun p hp=>absurd (show p∈([]:List (Addr×Obj)) from hp) (by simp),?_,?_⟩
 ·exact Un.laid (fun b u e=>old b u e) (by rw [hD];exact Nat.le_refl _) fD
 ·-- a LQ name
  have hi:i<cp.length:=by
   by_cases hi:i<cp.length
   ·exact hi
   ·unfold qm at e2
    rw [List.getElem?_append_right (by simpa using hi),List.getElem?_replicate] at e2
    split at e2 <;> cases e2
  have hcp:cp[i]? = some cp[i]:=List.getElem?_eq_getElem hi
  obtain ⟨hX,hfr⟩:=S.cap i cp[i] x e1 hcp
  have e2':σ[cp[i]]? = some (some v):=by
   unfold qm at e2
   rw [List.getElem?_append_left (by simpa using hi),List.getElem?_map,hcp] at e2
   simp only [Option.map_some,Option.some.injEq] at e2
   cases q:σ[cp[i]]? with
   | none=>rw [q] at e2;cases e2
   | some o=>rw [q] at e2;simp only [Option.join_some] at e2;rw [e2]
  have hmem:=PySem.mem_of_lookup hfr
  have hk:=S.free x hmem
  obtain ⟨m0,_,hl⟩:=I.loc
  obtain ⟨u,r,lk⟩:=hl cp[i] x v hX e2' (by rcases hk with q | q;exact .inr (.inl q);exact .inr (.inr q))
  refine ⟨u,r,.inr ⟨?_,?_⟩⟩
  ·show (relabel scope X.env).names.lookup x=some .cell\/(relabel scope X.env).names.lookup x=some .free
   unfold relabel
   dsimp only
   rw [cT,hfr]
   simp only [Option.map_some]
   split
   ·exact .inl rfl
   ·exact .inr rfl
  ·obtain ⟨c,hc⟩:=sy (env:=X.env) scope.names [] x hmem
   obtain ⟨d,hd⟩:=dB hc
   refine ⟨d,hd,?_⟩
   rcases lk with ⟨k,_⟩ | ⟨_,c',hc',z⟩
   ·rcases hk with q | q <;> (rw [q] at k;cases k)
   ·have:=hcl x d hd
    rw [hc'] at this;cases this
    exact cellK x d _ hc' z
 ·obtain ⟨v,z⟩:=I.cell x c (hcl x c e)
  exact ⟨v,cellK x c v (hcl x c e) z⟩
 ·show upd H D (.lst []) C=none
  rw [aj (by rw [hC,hD];exact Nat.succ_ne_self _)];exact fC
 ·show upd H D (.lst []) c=none
  rw [aj (ne_of_lt' (I.cell x c (hcl x c e)) hD)]
  exact I.bT x c (hcl x c e)
 ·exact I.hok.laid old (by rw [hD];exact Nat.le_refl _) ⟨Nat.zero_le _,[],0,.nil,hacc⟩
 ·unfold qm
  show _=N.length
  rw [List.length_append,List.length_map,List.length_replicate,S.len]
where
 ne_of_lt' {h:Heap} {c D:Addr} (z:∃ v,h.IsCell c v) (hD:D=h.objs.size):c≠D:=by
  obtain ⟨v,q⟩:=z
  rw [hD]
  exact Nat.ne_of_lt q.lt
variable {elt tg iter:Expr} {ifs:List Expr} {scope:Scope} {pos ppos:Pos} {wi:TI} {g:TG} {tc:St->TT} {te:St->TE} {Ex:XS} {cp:List Nat} {n:Nat} {N:List Str}
theorem mj {use:Option (Value->Sem Unit)} {Q':Value->Shared->Prop} {Q:VK} (S:gW X scope N cp n) (hi:PI X tg iter wi)
  (hfr:qt X) (hx:∀ e s,gY X Ex e s->X.xe e s) (hb:∀ σ cl fp s H C,PG (dM X scope cl N fp s H C fun cv x H'=>Ex cv x σ H') tg g/\Jo (dM X scope cl N fp s H C fun cv x H'=>Ex cv x σ H') ifs (tc σ)/\PE (dM X scope cl N fp s H C fun cv x H'=>Ex cv x σ H') elt (te σ)) (hs:∀ x,foldedSetIterable iter X.env x=pure x)
  (I:Inv X pins σ H s) (h:sS wi g tc te cp n σ H Q)
  (fin:∀ s' C D H' f,Inv X pins σ H' s'->kT X pins H' C->(∃ m,s'.heap.Ns C m)->Q (.ref D) H'->compPost (model X.prog X.w) X.A X.xe use Q' (.ref D) C (.ok f) s') :
  wpAny (model X.prog X.w) X.A (comprehension (.ListComp elt [⟨tg,iter,ifs,0⟩] scope pos) scope X.env ppos (newList []) false (eval iter X.env) use) Q' X.xe s:=by
 have hex:∀ x,(x,NameKind.free)∈scope.names->∃ c,X.env.cells.lookup x=some c:=fun x hx=>I.ok.has x (S.free x hx)
 refine wpAny_comprehension_free rfl hs (su hex) S.kind S.names (aS (hi pins s σ H _ I h) fun v s1 h1=>aS h1 fun itv s2 h2=>?_)
 obtain ⟨it,fp,tn,J,H2,e,I2,⟨n9,hc',T⟩,st2,f2,hW⟩:=h2
 subst e
 refine wpAny_newObj_type (wpAny_newFunctionEnv S.cell (by intro y hy;simp at hy) (fun h₁ rV nt=>?_) S.kind)
 dsimp only at rV nt ⊢
 generalize hH2:s2.heap.push { cls:=.type "list", dict:=none, data:=.seq ([]:List Value).toArray }=G at rV nt ⊢
 have hC:G.objs.size=s2.heap.objs.size+1:=by rw [<- hH2,Heap.size_push]
 have HR:∀ b∈fp,b<s2.heap.objs.size:=fun b hb=>by
  obtain ⟨o,e,_⟩:=T.obj _ _ st2 b hb
  exact Heap.lt_size e
 have hDC:s2.heap.objs.size≠G.objs.size:=by rw [hC];exact Nat.ne_of_lt (Nat.lt_succ_self _)
 have old:∀ b o,s2.heap.get? b=some o->h₁.get? b=some o:=fun b o e=>nt.extBut b o (by rw [hC];exact Nat.ne_of_lt (Nat.lt_succ_of_lt (Heap.lt_size e))) (Heap.get?_push_of_some _ (hH2 ▸ Heap.get?_push_of_some _ e))
 have hacc:h₁.get? s2.heap.objs.size=some { cls:=.type "list", data:=.seq ([]:List Value).toArray 0 }:=nt.extBut _ _ hDC (Heap.get?_push_of_some _ (hH2 ▸ Heap.get?_push_size _ rfl))
 have st1:tn 0 h₁:=T.keep _ _ _ st2 fun b hb o e=>old b o e
 obtain ⟨W,⟨m0,w0⟩,turn⟩:=hW s2.heap.objs.size (I2.hok.fresh (Nat.le_refl _))
 have I0':=wu (t1:=s2.toks+([]:List (Str×Value)).length) S I2 f2 HR rfl hC rV old hacc
 have I0:=I0'.bM (gY (EM X scope (scope.names.foldl (aG X.env) []) N fp s2 H2 G.objs.size) fun cv x _ H'=>Ex cv x σ H')
 have hc:∀ h C,Cm n9 (dM X scope h N fp s2 H2 C (fun cv x H'=>Ex cv x σ H')):=fun h C=>by
  cases n9 with
  | false=>exact hc'
  | true=>exact hc'.imp id fun ⟨a,oe,o,vs,h1,h2,h3,h4⟩=>⟨a,oe,o,vs,h1,I2.base.c7 a oe o h2,h3,h4⟩
 obtain ⟨hg,ht,he⟩:=hb σ (scope.names.foldl (aG X.env) []) fp s2 H2 G.objs.size
 have fp0:∀ b∈fp,upd H2 s2.heap.objs.size (.lst []) b=none:=fun b hb=>by rw [aj (Nat.ne_of_lt (HR b hb))];exact (f2 b hb).1
 have hex':∀ x c,(scope.names.foldl (aG X.env) []).lookup x=some c->X.env.cells.lookup x=some c:=fun x c e=>by
  rcases nQ scope.names [] (x,c) hex (PySem.mem_of_lookup e) with q | q
  ·cases q
  ·exact q
 have stat:∀ {H':Hp},(∀ b∈fp,H' b=none)->∀ b∈fp,kT (dM X scope (scope.names.foldl (aG X.env) []) N fp s2 H2 G.objs.size (fun cv x H'=>Ex cv x σ H')) [] H' b:=fun {H'} hn b hb =>
  ⟨hn b hb,Nat.ne_of_lt (Nat.lt_trans (HR b hb) (by rw [hC];exact Nat.lt_succ_self _)),fun z=>(List.mem_cons.mp (I2.eE b z)).elim (f2 b hb).2.1 (f2 b hb).2.2.1,.inl hb,fun x c e=>(f2 b hb).2.2.2.2.1 x c (hex' x c e),fun p hp=>absurd (show p∈([]:List (Addr×Obj)) from hp) (by simp)⟩
 have loop:∀ s3:Shared,s3={ s2 with heap:=h₁,toks:=s2.toks+([]:List (Str×Value)).length }->codeAny (model X.prog X.w) X.A (.compLoop (.ListComp elt [⟨tg,iter,ifs,0⟩] scope pos) 0 (.ref it) (.ref s2.heap.objs.size) (compEnvC scope (scope.names.foldl (aG X.env) []) G.objs.size X.env))
   (compPost (model X.prog X.w) X.A X.xe use Q' (.ref s2.heap.objs.size) G.objs.size) s3:=by
  rintro s3 rfl
  refine gu (fun n s'=>∃ i σ' H',Inv (dM X scope (scope.names.foldl (aG X.env) []) N fp s2 H2 G.objs.size (fun cv x H'=>Ex cv x σ H')) [] σ' H' s'/\tn i s'.heap/\(∀ b∈fp,H' b=none)/\W i n σ' H') (gY (EM X scope (scope.names.foldl (aG X.env) []) N fp s2 H2 G.objs.size) fun cv x _ H'=>Ex cv x σ H') ?hE ?_ m0 ⟨0,_,_,I0,st1,fp0,w0⟩
  case hE =>
   rintro e s3 ⟨pins3,σ3,H3,a,a0,cv,B,rfl,I3,up,ef,_,q⟩
   obtain ⟨jH,mZ,L,hst,HS,ML⟩:=hfr
   show wpAny (model X.prog X.w) X.A (noteFrame (.ref a) _) _ _ s3
   rw [nc (env:=compEnvC scope (scope.names.foldl (aG X.env) []) G.objs.size X.env) (env':=jH) (ML.trans HS.symm)]
   have up':Up B (jH::mZ) a cv a0 s3.heap:=by rw [<- hst];exact up
   refine up'.note (by rw [I.ok.frames,hst]) HS fun h4 held vh=>?_
   obtain ⟨m,hm,_⟩:=id I3.loc
   have hcC:G.objs.size∉frs X.stack:=fun z=>by
    rcases List.mem_cons.mp (I2.eE _ z) with e | z
    ·have z:=I2.lt
     rw [<- e,hC] at z
     exact absurd z (Nat.not_lt.mpr (Nat.le_succ _))
    ·exact I2.KJ (by rw [hC];exact Nat.le_succ _) z
   refine ⟨m,vh.ns hm,fun h5 sb5 cenv _=>?_⟩
   have hm4:=vh.ns hm
   have upH:Up B X.stack a cv a0 h4:=by rw [hst];exact .t9 held
   have EY:=upH.hide sb5 (by
    obtain ⟨o,es,ep,ho,hd,_⟩:=hm4
    exact ⟨o,ho,fun vs z=>by rw [hd] at z;cases z⟩) hcC
   refine EY.pass fun h6 up6 JS=>hx _ _ ?_
   have jx:(B.hide G.objs.size).StaysIn s3.heap:=fun b o e=>up.1 b o (Heap.of_hide e)
   have C7:Calm (B.hide G.objs.size) (frs X.stack) fp H3 s2.heap:=fun b hb hf=>by
    obtain ⟨o,e⟩:=ef b hb hf
    refine ⟨o,?_⟩
    rw [Heap.hide_ne]
    ·exact e
    ·rintro rfl
     rcases hb with hb | ⟨⟨o',hb⟩,_⟩
     ·exact hb I3.free
     ·have z:=Heap.lt_size hb
      rw [hC] at z
      exact absurd z (Nat.not_lt.mpr (Nat.le_succ _))
   have fru:∀ b∈frs X.stack,∀ o,s3.heap.get? b=some o->∃ sl,h6.get? b=some { o with slots:=sl }:=fun b hb o e=>by
    have hd:=kI I3 b hb o e
    obtain ⟨sl,e4⟩:=vh b o e hd
    have e5:h5.get? b=some { o with slots:=sl }:=by rw [sb5.2 b (by rintro rfl;exact hcC hb)];exact e4
    obtain ⟨DL,e6⟩:=JS b _ e5 hd
    exact ⟨DL,e6⟩
   have un6:=ny I3.base C7 jx up6.1 fru (fun b hb _=>hb)
   have hok6:=jP I3.hok C7 jx up6.1 I3.gb
   have J:=I2.Af (s':={ s3 with heap:=h6 }) I3.os un6 hok6 I3.bare fun b hb=>⟨(f2 b hb).2.2.2.1,(f2 b hb).2.1,(f2 b hb).2.2.2.2.1,(f2 b hb).2.2.2.2.2⟩
   have calX:Calm (B.hide G.objs.size) (frs X.stack) X.ex H3 X.s₀.heap:=by
    intro b hb hf
    refine C7 b ?_ hf
    rcases hb with hb | ⟨⟨o,z⟩,nx⟩
    ·exact .inl hb
    ·refine .inr ⟨gg I2 z nx,fun zf=>?_⟩
     rcases (f2 b zf).2.2.2.1 with y | y
     ·exact nx y
     ·exact absurd (Nat.lt_of_lt_of_le (Heap.lt_size z) y) (Nat.lt_irrefl _)
   have pnX:∀ p∈X.pn,(B.hide G.objs.size).get? p.1=some p.2:=by
    intro p hp
    obtain ⟨p1,p2,p3,p4,_⟩:=I2.pin p (List.mem_append_left _ hp)
    have pf:p.1∉fp:=fun z=>(f2 _ z).2.2.2.2.2 p (List.mem_append_left _ hp) rfl
    have ps:p.1∉frs X.stack:=fun z=>by
     rcases List.mem_cons.mp (I2.eE _ z) with e | z
     ·exact p3 e
     ·exact p4 z
    exact C7.at jx (I3.base.keep p.1 p.2 p1 p2 ps pf) (.inr ⟨⟨_,p1⟩,pf⟩) ps
   exact ⟨pins,σ,H3,a,a0,cv,B.hide G.objs.size,rfl,J,up6,calX,pnX,q⟩
  rintro n s3 ⟨i,σ3,H3,I3,st3,Li,w3⟩
  rcases turn i n σ3 H3 w3 with ⟨stop,qn⟩ | ⟨go,step⟩
  ·refine aS (T.done (dM X scope (scope.names.foldl (aG X.env) []) N fp s2 H2 G.objs.size (fun cv x H'=>Ex cv x σ H')) rfl rfl rfl (hc _ _) i [] s3 σ3 H3 _ I3 (stat Li) st3 stop) fun r s4 ⟨hr,I4⟩=>?_
   subst hr
   refine fin s4 _ _ H3 _ (I2.Af I4.os I4.base I4.hok I4.bare fun b hb=>⟨(f2 b hb).2.2.2.1,(f2 b hb).2.1,(f2 b hb).2.2.2.2.1,(f2 b hb).2.2.2.2.2⟩) (I2.pT (by rw [hC];exact Nat.le_succ _) I4.free) ?_ qn
   obtain ⟨m,hm,_⟩:=I4.loc
   exact ⟨m,hm⟩
  ·refine aS (T.item (dM X scope (scope.names.foldl (aG X.env) []) N fp s2 H2 G.objs.size (fun cv x H'=>Ex cv x σ H')) rfl rfl rfl (hc _ _) i [] s3 σ3 H3 _ I3 (stat Li) st3 go) fun r s4 ⟨u,hr,h4⟩=>?_
   subst hr
   refine aS h4 fun _ s5 ⟨x,H5,I5,r5,y5,Fe,fr5⟩=>?_
   have I5':=I5.pinned (stat fr5) (T.obj _ _ Fe)
   refine aS (hg _ s5 σ3 H5 x u _ I5' r5 (step x H5 y5)) fun _ s6 ⟨σ6,H6,I6,q6⟩=>?_
   refine aS (ht _ s6 σ6 H6 _ I6 q6) fun ok s7 ⟨H7,I7,q7⟩=>?_
   have again:∀ {σ8:St} {H8:Hp} {s8:Shared} {m':Nat},Inv (dM X scope (scope.names.foldl (aG X.env) []) N fp s2 H2 G.objs.size (fun cv x H'=>Ex cv x σ H')) ([]++j8 fp s5.heap) σ8 H8 s8->m'<n->W (i+1) m' σ8 H8 ->
     ∃ m,m<n/\∃ i σ' H',Inv (dM X scope (scope.names.foldl (aG X.env) []) N fp s2 H2 G.objs.size (fun cv x H'=>Ex cv x σ H')) [] σ' H' s8/\tn i s8.heap/\(∀ b∈fp,H' b=none)/\W i m σ' H':=fun {σ8 H8 s8 m'} I8 hm w8=>by
    refine ⟨m',hm,i+1,σ8,H8,I8.g5,T.keep _ _ _ Fe fun b hb o e=>(I8.pin (b,o) (List.mem_append_right _ (List.mem_append_right _ (eK hb e)))).1,fun b hb=>?_,w8⟩
    obtain ⟨o,e,d⟩:=T.obj _ _ Fe b hb
    exact (I8.pin (b,o) (List.mem_append_right _ (List.mem_append_right _ (eK hb e)))).2.1
   cases ok with
   | false =>
    rw [if_neg Bool.false_ne_true] at q7 ⊢
    obtain ⟨m',hm,w7⟩:=q7
    exact again I7 hm w7
   | true =>
    rw [if_pos rfl] at q7 ⊢
    refine aS (he _ s7 σ6 H7 _ I7 q7) fun xv s8 ⟨v,H8,I8,r8,ys,hy,hz,m',hm,w8⟩=>?_
    refine aS (lQ (X:=(dM X scope (scope.names.foldl (aG X.env) []) N fp s2 H2 G.objs.size (fun cv x H'=>Ex cv x σ H'))) _ s8 σ6 H8 (.ref s2.heap.objs.size) [v] (.ref s2.heap.objs.size) [xv] (fun _ H'=>H'=upd H8 s2.heap.objs.size (.lst (ys++[v]))) I8 rfl (.cons r8 .nil) ⟨_,ys,v,rfl,rfl,hy,hz,rfl⟩) fun a s9 ⟨_,H9,I9,_,e9⟩=>?_
    subst e9
    exact again I9 hm w8
 exact codeAny_compStart_list (loop _ rfl) (T.self X.A 0 _ _ _ st1 (loop _ rfl))
theorem BZ (S:gW X scope N cp n) (hi:PI X tg iter wi)
  (hfr:qt X) (hx:∀ e s,gY X Ex e s->X.xe e s) (hb:∀ σ cl fp s H C,PG (dM X scope cl N fp s H C fun cv x H'=>Ex cv x σ H') tg g/\Jo (dM X scope cl N fp s H C fun cv x H'=>Ex cv x σ H') ifs (tc σ)/\PE (dM X scope cl N fp s H C fun cv x H'=>Ex cv x σ H') elt (te σ)) (hs:∀ x,foldedSetIterable iter X.env x=pure x) :
  PE X (.ListComp elt [⟨tg,iter,ifs,0⟩] scope pos) (sS wi g tc te cp n):=by
 intro pins s σ H Q I h
 rw [eval_ListComp]
 refine mj (use:=none) S hi hfr hx hb hs I h fun s' C D H' f I' fC ⟨m,hm⟩ q=>⟨m,hm,fun h' hs'=>?_⟩
 exact ⟨.ref D,H',I'.turned (fun b o hb e=>(hs'.2 b hb).trans e) fC.1 fC.2.1 fC.2.2.2.1 fC.2.2.2.2.1 fC.2.2.2.2.2,rfl,q⟩
theorem BN {i:Nat} {y:Str} {py spos:Pos} (hN:X.N.Nodup) (hy:X.N[i]? = some y) (hk:X.env.scope.names.lookup y=some .local) (S:gW X scope N cp n) (hi:PI X tg iter wi)
  (hfr:qt X) (hx:∀ e s,gY X Ex e s->X.xe e s) (hb:∀ σ cl fp s H C,PG (dM X scope cl N fp s H C fun cv x H'=>Ex cv x σ H') tg g/\Jo (dM X scope cl N fp s H C fun cv x H'=>Ex cv x σ H') ifs (tc σ)/\PE (dM X scope cl N fp s H C fun cv x H'=>Ex cv x σ H') elt (te σ)) (hs:∀ x,foldedSetIterable iter X.env x=pure x)
  (hsw:swapsWith (.ListComp elt [⟨tg,iter,ifs,0⟩] scope pos) (some (.Name y py)) spos.line X.env=pure true) :
  PS X (.Assign [.Name y py] (.ListComp elt [⟨tg,iter,ifs,0⟩] scope pos) spos) (vd (sS wi g tc te cp n) (jj i)):=by
 intro pins s σ H Dn I h
 rw [exec_Assign_Name_used _ _ _ _ hsw]
 refine wpAny_bind (wpAny_standAt (wpAny_bind ?_))
 show wpAny _ X.A (do let _ <- comprehension (.ListComp elt [⟨tg,iter,ifs,0⟩] scope pos) scope X.env _ (newList []) false (eval iter X.env) (some (assign (.Name y py) X.env))) _ _ s
 refine wpAny_bind (wpAny_mono (mj (use:=some (assign (.Name y py) X.env)) (Q':=fun _ s'=>SP X pins Dn .next s') S hi hfr hx hb hs I h fun s' C D H' f I' fC ⟨m,hm⟩ q=>?_) (fun _ s' hq=>wpAny_pure (wpAny_pure hq)) fun _ _ e=>e)
 show wpAny _ X.A (assign (.Name y py) X.env (.ref D)) _ _ s'
 refine wpAny_assign_Name (lF I' hN hy (.inl hk) (v:=.ref D) rfl (fun s2 I2 ⟨a,hsb,ha⟩=>?_) (.inr hk))
 have hCa:C≠a:=by
  rcases ha with rfl | ha
  ·exact fC.2.1
  ·exact fun z=>fC.2.2.2.2.1 _ _ ha z.symm
 refine ⟨m,hm.sameBut hsb hCa,fun h' hs'=>⟨_,H',I2.turned (fun b o hb e=>(hs'.2 b hb).trans e) fC.1 fC.2.1 fC.2.2.2.1 fC.2.2.2.2.1 fC.2.2.2.2.2,q⟩⟩
end
end Fg
end
section
namespace Fg
open PySem L2
noncomputable def Mc (a:Addr) (o:Obj) (kvs:List (Key×V)):It :=
 ⟨fun i H=>H a=some (.dF o (.dK kvs))/\i<kvs.length,fun i H x H'=>H'=H/\∃ kv,kvs[i]? = some kv/\x=kV kv.1,fun i H=>H a=some (.dF o (.dK kvs))/\kvs.length<=i⟩
noncomputable def La (B:Bd) (th:Addr->Prop) (tl:TE):TI:=fun σ H R=>tl σ H fun x H1 =>
 (∃ a,x=.ref a/\(∃ xs,fq B.K H1 a xs)/\R (Nm B.K a) H1)\/(∃ a,x=.ref a/\(∃ xs,gE B.K H1 a xs)/\R (Itt B.K a) H1) \/
 (∃ a kvs,x=.ref a/\H1 a=some (.dK kvs)/\∀ o,th a->R (Mc a o kvs) (upd H1 a (.dF o (.dK kvs)))) \/
 (∃ a o kvs,x=.ref a/\H1 a=some (.dF o (.dK kvs))/\R (Mc a o kvs) H1)
section
variable {B:Bd} {Φ:aL} {E:Gx} {F F' F0 F1:Addr->Prop} {ρ ρ' ρ0 ρ1:List Addr} {H H' H0 H1:Hp} {M M' M0:MH} {σD:Sg} {σ:L2.St} {Q:VK} {Dn:Ends}
theorem iQ {a:Addr} {src:D} {ds:List D} (h:∀ F ρ M H,Ext F0 ρ0 H0 F ρ H->SR B F ρ M H->aN M0 src M=true->∃ vs,fq B.K H a vs/\ai B F ρ H ds vs):Walks B (Nm B.K a) src ds F0 ρ0 M0 H0:=by
 intro i F ρ M H e S st
 obtain ⟨vs,q,rd⟩:=h F ρ M H e S st
 refine ⟨fun d hd=>?_,fun hl=>⟨vs,q,by rw [<- ai.length rd];exact hl⟩⟩
 obtain ⟨v,hv,rv⟩:=ai.get rd hd
 refine ⟨⟨vs,v,q,hv⟩,fun x H' ⟨e',hy⟩=>?_⟩
 subst e'
 have z:=hy vs q
 rw [hv] at z;cases z
 exact ⟨F,S.refl,S,rv⟩
theorem uZ {a:Addr} {src:D} {ds:List D} (h:∀ F ρ M H,Ext F0 ρ0 H0 F ρ H->SR B F ρ M H->aN M0 src M=true->∃ vs,gE B.K H a vs/\ai B F ρ H ds vs):Walks B (Itt B.K a) src ds F0 ρ0 M0 H0:=by
 intro i F ρ M H e S st
 obtain ⟨vs,q,rd⟩:=h F ρ M H e S st
 refine ⟨fun d hd=>?_,fun hl=>⟨vs,q,by rw [<- ai.length rd];exact hl⟩⟩
 obtain ⟨v,hv,rv⟩:=ai.get rd hd
 refine ⟨⟨vs,v,q,hv⟩,fun x H' ⟨e',hy⟩=>?_⟩
 subst e'
 have z:=hy vs q
 rw [hv] at z;cases z
 exact ⟨F,S.refl,S,rv⟩
theorem G0 {k:Key}:RD B F ρ H (ME k) (kV k):=by cases k <;> simp only [ME,kV,RD]
theorem lz {a:Addr} {o:Obj} {src:D} {dP:List (Ky×D)} {kws:List (Key×V)} (hz:H0 a=some (.dF o (.dK kws))) (hk:kws.map (·.1)=dP.map (·.1)):Walks B (Mc a o kws) src (dP.map fun kv=>ME kv.1) F0 ρ0 M0 H0:=by
 intro i F ρ M H e S st
 have hl:kws.length=dP.length:=by have:=congrArg List.length hk;simpa using this
 have hH:=e.z a o _ hz
 refine ⟨fun d hd=>?_,fun hi=>⟨hH,by rw [hl];simpa using hi⟩⟩
 rw [List.getElem?_map] at hd
 cases hx:dP[i]? with
 | none=>rw [hx] at hd;cases hd
 | some kd =>
  rw [hx] at hd
  simp only [Option.map_some,Option.some.injEq] at hd
  subst hd
  obtain ⟨hi,_⟩:=List.getElem?_eq_some_iff.mp hx
  refine ⟨⟨hH,by rw [hl];exact hi⟩,fun x H' ⟨e',kw,hkw,hx'⟩=>?_⟩
  subst e' hx'
  have e1:(kws.map (·.1))[i]? = some kw.1:=by rw [List.getElem?_map,hkw];rfl
  rw [hk,List.getElem?_map,hx] at e1
  simp only [Option.map_some,Option.some.injEq] at e1
  rw [<- e1]
  exact ⟨F,S.refl,S,G0⟩
theorem Fv {a:Fg.E} {Rr:It->Hp->Prop} (h:Dl B Φ E (.e a) σ H Rr):La B E.th (T B Φ E a) σ H Rr:=by
 obtain ⟨σD,M,F,ρ,S,r,h⟩:=h
 refine ⟨σD,M,F,ρ,S,r,?_⟩
 cases hx:ev Φ a σD M with
 | exc c M1 =>
  have he:b3 Φ (.e a) σD M=.exc c M1:=by simp only [b3,hx,R.iK]
  rw [he] at h;exact h
 | bad =>
  have he:b3 Φ (.e a) σD M=.bad:=by simp only [b3,hx,R.fZ]
  rw [he] at h;exact h
 | ok d M1 =>
  intro F1 ρ1 H1 v e1 S1 rd
  cases hi:itemsOf M1 d with
  | none =>
   have he:b3 Φ (.e a) σD M=.bad:=by simp only [b3,hx,R.af,hi]
   rw [he] at h;exact h.elim
  | some ds =>
   have he:b3 Φ (.e a) σD M=.ok (d,ds,wk M1 d) (walk M1 d):=by simp only [b3,hx,R.af,hi]
   rw [he] at h
   cases d with
   | ao=>simp [itemsOf,vw] at hi
   | bl _=>simp [itemsOf,vw] at hi
   | int _=>simp [itemsOf,vw] at hi
   | iP _=>simp [itemsOf,vw] at hi
   | str _=>simp [itemsOf] at hi
   | dct _ _=>simp [itemsOf] at hi
   | lst xs =>
    simp only [itemsOf,vw,Option.some.injEq] at hi;subst hi
    simp only [RD] at rd
    obtain ⟨b,vs,rfl,z,q⟩:=id rd
    refine .inl ⟨b,rfl,⟨vs,z.sq⟩,h F1 ρ1 H1 _ e1 S1 fun M' eq S'=>⟨?_,fun z=>by simp [wk] at z⟩⟩
    refine iQ fun F ρ M H e S st=>?_
    have DS:=RD.mono e (.lst xs) (.ref b) (by simp only [RD];exact rd)
    simp only [RD] at DS
    obtain ⟨b',vs',eb,z',q'⟩:=DS
    cases eb
    exact ⟨vs',z'.sq,q'⟩
   | tup xs =>
    simp only [itemsOf,vw,Option.some.injEq] at hi;subst hi
    simp only [RD] at rd
    obtain ⟨b,vs,rfl,z,q⟩:=id rd
    refine .inr (.inl ⟨b,rfl,⟨vs,z.sq⟩,h F1 ρ1 H1 _ e1 S1 fun M' eq S'=>⟨?_,fun z=>by simp [wk] at z⟩⟩)
    refine uZ fun F ρ M H e S st=>?_
    have DS:=RD.mono e (.tup xs) (.ref b) (by simp only [RD];exact rd)
    simp only [RD] at DS
    obtain ⟨b',vs',eb,z',q'⟩:=DS
    cases eb
    exact ⟨vs',z'.sq,q'⟩
   | ref n =>
    simp only [RD] at rd
    obtain ⟨b,hb,rfl⟩:=rd
    cases hM:M1[n]? with
    | none=>simp [itemsOf,vw,hM] at hi
    | some o =>
     cases o with
     | ins _ _=>simp [itemsOf,vw,hM] at hi
     | lst xs =>
      simp only [itemsOf,vw,hM,Option.some.injEq] at hi;subst hi
      have hw:walk M1 (.ref n)=M1:=by simp only [walk,hM]
      have hk:wk M1 (.ref n)=false:=by simp only [wk,hM]
      rw [hw,hk] at h
      obtain ⟨vs,h1,q⟩:=S1.obj n b _ hb hM
      refine .inl ⟨b,rfl,⟨vs,.inl (.inl h1)⟩,h F1 ρ1 H1 _ e1 S1 fun M' eq S'=>⟨?_,fun z=>by simp at z⟩⟩
      injection eq with eq1 eq2
      subst eq2
      refine iQ fun F ρ M H e S st=>?_
      simp only [aN,decide_eq_true_eq] at st
      obtain ⟨vs',HW,q'⟩:=S.obj n b _ (e.at hb) (st.trans hM)
      exact ⟨vs',.inl (.inl HW),q'⟩
     | dct dP =>
      simp only [itemsOf,vw,hM,Option.some.injEq] at hi;subst hi
      have hw:walk M1 (.ref n)=M1.set n (.oj dP):=by simp only [walk,hM]
      have hk:wk M1 (.ref n)=true:=by simp only [wk,hM]
      rw [hw,hk] at h
      obtain ⟨kws,h1,h2,q⟩:=S1.obj n b _ hb hM
      refine .inr (.inr (.inl ⟨b,kws,rfl,h1,fun ob hth=>?_⟩))
      obtain ⟨S2,e2⟩:=S1.wk ob hb hM h1
      refine h F1 ρ1 _ _ (e1.trans e2) S2 fun M' eq S'=>⟨lz ay h2,fun _=>⟨n,b,rfl,hb,hth,fun w v z=>?_⟩⟩
      have:=e1.z b w v z
      rw [h1] at this;cases this
     | oj dP =>
      simp only [itemsOf,vw,hM,Option.some.injEq] at hi;subst hi
      have hw:walk M1 (.ref n)=M1:=by simp only [walk,hM]
      have hk:wk M1 (.ref n)=false:=by simp only [wk,hM]
      rw [hw,hk] at h
      obtain ⟨ob,kws,h1,h2,q⟩:=S1.obj n b _ hb hM
      exact .inr (.inr (.inr ⟨b,ob,kws,rfl,h1,h F1 ρ1 H1 _ e1 S1 fun M' eq S'=>⟨lz h1 h2,fun z=>by simp at z⟩⟩))
theorem u0 {lo:Int} {n:Nat} {src:D}:Walks B (Nl lo n) src ((List.range n).map fun (i:Nat)=>D.int (lo+(i:Int))) F0 ρ0 M0 H0:=by
 intro i F ρ M H e S st
 refine ⟨fun d hd=>?_,fun hi=>(show n<=i by simpa using hi)⟩
 have hi:i<n:=by
  obtain ⟨q,_⟩:=List.getElem?_eq_some_iff.mp hd
  simpa using q
 refine ⟨hi,fun x H' ⟨e',hx⟩=>?_⟩
 subst e' hx
 simp [hi] at hd
 subst hd
 exact ⟨F,S.refl,S,by simp only [RD]⟩
theorem KG {j:Int} (h:jz j=true):-(2 ^ 62)<=j/\j<2 ^ 62:=by
 simp only [jz,decide_eq_true_eq] at h;omega
theorem Bs {a:Fg.E} {Rr:It->Hp->Prop} (h:Dl B Φ E (.Cp a) σ H Rr):Ei B.K (T B Φ E a) σ H Rr:=by
 obtain ⟨σD,M,F,ρ,S,r,h⟩:=h
 refine ⟨σD,M,F,ρ,S,r,?_⟩
 cases hx:ev Φ a σD M with
 | exc c M1 =>
  have he:b3 Φ (.Cp a) σD M=.exc c M1:=by simp only [b3,hx,R.iK]
  rw [he] at h;exact h
 | bad =>
  have he:b3 Φ (.Cp a) σD M=.bad:=by simp only [b3,hx,R.fZ]
  rw [he] at h;exact h
 | ok d M1 =>
  intro F1 ρ1 H1 v e1 S1 rd
  cases d with
  | lst xs =>
   have he:b3 Φ (.Cp a) σD M=.ok (.ao,xs,false) M1:=by simp only [b3,hx,R.af]
   rw [he] at h
   simp only [RD] at rd
   obtain ⟨b,vs,rfl,z,q⟩:=id rd
   refine ⟨b,rfl,⟨vs,z.sq⟩,h F1 ρ1 H1 _ e1 S1 fun M' eq S'=>⟨iQ fun F ρ M H e S st=>?_,fun z=>by cases z⟩⟩
   have DS:=RD.mono e (.lst xs) (.ref b) (by simp only [RD];exact rd)
   simp only [RD] at DS
   obtain ⟨b',vs',eb,z',q'⟩:=DS
   cases eb
   exact ⟨vs',z'.sq,q'⟩
  | _ =>
   have he:b3 Φ (.Cp a) σD M=.bad:=by simp only [b3,hx,R.af]
   rw [he] at h;exact h.elim
theorem Bh {a:Fg.E} {Rr:It->Hp->Prop} (h:Dl B Φ E (.iO a) σ H Rr):Eh (dc (T B Φ E a) iR) σ H Rr:=by
 obtain ⟨σD,M,F,ρ,S,r,h⟩:=h
 refine ⟨σD,M,F,ρ,S,r,?_⟩
 cases hx:ev Φ a σD M with
 | exc c M1 =>
  have he:b3 Φ (.iO a) σD M=.exc c M1:=by simp only [b3,hx,R.iK]
  rw [he] at h;exact h
 | bad =>
  have he:b3 Φ (.iO a) σD M=.bad:=by simp only [b3,hx,R.fZ]
  rw [he] at h;exact h
 | ok d M1 =>
  intro F1 ρ1 H1 v e1 S1 rd
  cases d with
  | int j =>
   simp only [RD] at rd;subst rd
   cases hr:jz j with
   | false =>
    have he:b3 Φ (.iO a) σD M=.bad:=by simp [b3,hx,hr]
    rw [he] at h;exact h.elim
   | true =>
    have he:b3 Φ (.iO a) σD M=.ok (.ao,eG 0 j,false) M1:=by simp [b3,hx,hr]
    rw [he] at h
    obtain ⟨b1,b2⟩:=KG hr
    refine ⟨j,rfl,b1,b2,h F1 ρ1 H1 _ e1 S1 fun M' eq S'=>⟨?_,fun z=>by simp at z⟩⟩
    have q:eG 0 j=(List.range j.toNat).map fun (i:Nat)=>D.int (0+(i:Int)):=by simp [eG]
    dsimp only
    rw [q]
    exact u0
  | _ =>
   have he:b3 Φ (.iO a) σD M=.bad:=by simp [b3,hx]
   rw [he] at h;exact h.elim
end
end Fg
end
section
namespace Fg
open PySem L2
noncomputable def EB (E:Gx) (σ:L2.St):Gx:=⟨fun cv x _ H=>E.e cv x σ H,fun _=>False,fun cv x _ H H' t h=>by
 rcases t with rfl | ⟨_,_,_,z,_⟩
 ·exact h
 ·exact z.elim⟩
noncomputable def TBo (B:Bd) (Φ:aL) (E:Gx):O->TT
 | .none=>fun _ H Q=>Q true H
 | .some e=>TB B Φ E e
section
variable {B:Bd} {Φ:aL} {E:Gx} {F F' F0 F1:Addr->Prop} {ρ ρ' ρ0 ρ1:List Addr} {H H' H0 H1:Hp} {M M' M0:MH} {σD:Sg} {σ:L2.St} {Q:VK} {Dn:Ends}
theorem Ext.fresh (S:SR B F ρ M H) {p:Addr} (h:H p=none) (o:HO):Ext F ρ H F ρ (upd H p o) :=
 ⟨⟨S.sep,fun _ q=>q,fun a q _=>aj (by rintro rfl;exact q h),List.prefix_refl _,fun _ q=>.inl q,fun _ q=>.inl q⟩,fun b w u q=>by rw [aj (by rintro rfl;rw [h] at q;cases q)];exact q⟩
theorem Ext.over (e:Ext F ρ H F' ρ' H') {p:Addr} (h:H p=none) (o:HO):Ext F ρ H F' ρ' (upd H' p o) :=
 ⟨⟨e.s,e.f,fun a q nb=>by rw [aj (by rintro rfl;exact q h)];exact e.h a q nb,e.r,e.n,e.g⟩,fun b w u q=>by rw [aj (by rintro rfl;rw [h] at q;cases q)];exact e.z b w u q⟩
theorem RS.cap (r:RS B F ρ H σD σ) (caps:List Nat) (n:Nat):RS B F ρ H (nR σD caps++List.replicate n none) (qm caps n σ):=by
 refine ⟨by simp [nR,qm],fun i d q=>?_⟩
 by_cases hi:i<caps.length
 ·have hc:caps[i]? = some caps[i]:=List.getElem?_eq_getElem hi
  rw [List.getElem?_append_left (by simpa [nR] using hi)] at q
  simp only [nR,List.getElem?_map,hc,Option.map_some,Option.some.injEq] at q
  cases hs:σD[caps[i]]? with
  | none=>rw [hs] at q;cases q
  | some o =>
   rw [hs] at q
   simp only [Option.join_some] at q
   subst q
   obtain ⟨v,h1,h2⟩:=r.get _ _ hs
   refine ⟨v,?_,h2⟩
   unfold qm
   rw [List.getElem?_append_left (by simpa using hi),List.getElem?_map,hc]
   simp [h1]
 ·rw [List.getElem?_append_right (by simpa [nR] using Nat.le_of_not_lt hi),List.getElem?_replicate] at q
  split at q <;> cases q
theorem RS.aV (e:qu F ρ H F' ρ' H') (h:RS B F ρ H σD σ):RS B F' ρ' H' σD σ :=
 ⟨h.len,fun i d q=>let ⟨v,h1,h2⟩:=h.get i d q;⟨v,h1,RD.aV e d v h2⟩⟩
theorem oR {fz:Bool} {caps tg:List Nat} {elt:Fg.E} {it:Src} {cond:O} (h:T B Φ E (.comp fz caps tg elt it cond) σ H Q) :
  sS (Dl B Φ E it) (Jk tg B.K) (fun σ=>TBo B Φ (EB E σ) cond) (fun σ=>T B Φ (EB E σ) elt) caps tg.length σ H (fun v H'=>∃ sI,AI E.th H' sI/\Q v sI):=by
 obtain ⟨σD,M,F,ρ,S,r,h⟩:=h
 simp only [ev] at h
 refine ⟨σD,M,F,ρ,S,r,?_⟩
 cases hx:b3 Φ it σD M with
 | exc c M1=>rw [hx] at h;exact h
 | bad=>rw [hx] at h;exact h
 | ok p M0 =>
  rw [hx] at h
  simp only [R.af] at h
  intro F0 ρ0 H0 J e0 S0 hw
  obtain ⟨W,wz⟩:=hw M0 rfl S0
  obtain ⟨src,ds,fl⟩:=p
  dsimp only at h W wz
  intro Da MP
  obtain ⟨nD,nF⟩:=S0.new MP
  have MN:H Da=none:=by
   cases q:H Da with
   | none=>rfl
   | some u =>
    exfalso
    by_cases hr:Da∈ρ
    ·exact nD (e0.r.subset hr)
    ·have:=e0.h Da (by rw [q];simp) hr
     rw [MP,q] at this;cases this
  let loop:=fun (i:Nat) (σ':Sg) (M':MH) (acc:List D)=>((bz (oh Φ cond) (ev Φ elt) tg (aN M0 src) (ds.drop i) σ' M' acc).fin (fu fl src)).bind fun ds M2=>b7 fz ds M2
  let WW:Nat->Nat->L2.St->Hp->Prop:=fun i m σ' H'=>m+i=ds.length/\∃ (Jp:Sg) (M1:MH) (F1:Addr->Prop) (ρ1:List Addr) (acc:List D) (vs:List V),Ext F ρ H F1 ρ1 H'/\Ext F0 ρ0 H0 F1 ρ1 H'/\SR B F1 ρ1 M1 H'/\RS B F1 ρ1 H' Jp σ'/\aN M0 src M1=true/\Da∉ρ1/\¬ F1 Da/\H' Da=some (.lst vs)/\ai B F1 ρ1 H' acc vs /\
   Post B (loop i Jp M1 acc) F ρ H Q (fun cv x H'=>E.e cv x σ H')
  have x0:=qu.side (ρ:=ρ0) (H:=H0) nF (.lst [])
  refine ⟨WW,⟨ds.length,by simp,_,M0,F0,ρ0,[],[],e0.over MN _,Ext.fresh S0 MP _,S0.side nD nF _,((r.mono e0).cap caps tg.length).aV x0,?_,nD,nF,ay,ai.nil,h⟩,?_⟩
  ·unfold aN;split <;> simp
  rintro i m σ1 H1 ⟨hm,AL,M1,F1,ρ1,acc,vs,eo,e1,S1,r1,st1,d1,f1,MQ,ra,p1⟩
  obtain ⟨wgo,wst⟩:=W i F1 ρ1 M1 H1 e1 S1 st1
  by_cases hi:i<ds.length
  ·have hd:ds.drop i=ds[i]::ds.drop (i+1):=List.drop_eq_getElem_cons hi
   simp only [loop] at p1
   rw [hd] at p1
   unfold bz at p1
   obtain ⟨go,yl⟩:=wgo ds[i] (List.getElem?_eq_getElem hi)
   refine .inr ⟨go,fun x H2 hy=>?_⟩
   obtain ⟨F2,e2,S2,rd⟩:=yl x H2 hy
   have keep:∀ {F3:Addr->Prop} {ρ3:List Addr} {H3:Hp},Ext F1 ρ1 H1 F3 ρ3 H3->Da∉ρ3/\¬ F3 Da/\H3 Da=some (.lst vs)/\ai B F3 ρ3 H3 acc vs:=fun {F3 ρ3 H3} e=>by
    have hne:H1 Da≠none:=by rw [MQ];simp
    refine ⟨fun z=>(e.n Da z).elim d1 hne,fun z=>?_,(e.h Da hne d1).trans MQ,ai.mono e _ _ ra⟩
    rcases e.g Da z with q | q | q
    ·exact f1 q
    ·exact hne q
    ·exact d1 q
   split at p1
   ·exact p1.elim
   ·rename_i σ2 hs
    refine j3 (r1.mono e2) rd hs fun σ' r'=>?_
    have LG:∀ {F3:Addr->Prop} {ρ3:List Addr} {H3:Hp} {M3:MH},Ext F1 ρ1 H1 F3 ρ3 H3->SR B F3 ρ3 M3 H3->RS B F3 ρ3 H3 σ2 σ' ->
      Post B ((((ev Φ elt σ2 M3).bind fun x M2=>if aN M0 src M2=true then (if decide (acc.length<line)=true then bz (oh Φ cond) (ev Φ elt) tg (aN M0 src) (ds.drop (i+1)) σ2 M2 (acc++[x]) else .bad) else .bad).fin (fu fl src)).bind fun ds M2=>b7 fz ds M2) F ρ H Q (fun cv x H'=>E.e cv x σ H') ->
      T B Φ (EB E σ) elt σ' H3 fun v H5=>∃ ys,H5 Da=some (.lst ys)/\ys.length<sizeLine/\∃ m',m'<m/\WW (i+1) m' σ' (upd H5 Da (.lst (ys++[v]))):=by
     intro F3 ρ3 H3 M3 e3 S3 r3 p3
     refine ⟨σ2,M3,F3,ρ3,S3,r3,?_⟩
     cases hv:ev Φ elt σ2 M3 with
     | bad=>rw [hv] at p3;exact p3
     | exc c M4 =>
      rw [hv] at p3
      intro F4 ρ4 H4 cv x e4 S4 q4
      obtain ⟨H5,t5,S5,e5,x5⟩:=cO S4 ((eo.trans e3).trans e4) ((e1.trans e3).trans e4).r wz
      exact E.cl _ _ _ _ _ t5 (p3 F4 ρ4 H5 cv x e5 S5 q4)
     | ok d M4 =>
      rw [hv] at p3
      simp only [R.af] at p3
      intro F4 ρ4 H4 v e4 S4 q4
      split at p3
      ·rename_i hst
       split at p3
       ·rename_i hlt
        obtain ⟨k1,k2,k3,k4⟩:=keep (e3.trans e4)
        have hl4:=ai.length k4
        have x4:=qu.side (ρ:=ρ4) (H:=H4) k2 (.lst (vs++[v]))
        refine ⟨vs,k3,by rw [<- hl4];exact Nat.lt_of_lt_of_le (of_decide_eq_true hlt) bR,m-1,by omega,by omega,σ2,M4,F4,ρ4,acc++[d],vs++[v],((eo.trans e3).trans e4).over MN _,((e1.trans e3).trans e4).over MP _,S4.side k1 k2 _,((r3.mono e4)).aV x4,hst,k1,k2,ay,ai.aV x4 _ _ (k4.append (ai.cons q4 ai.nil)),p3⟩
       ·exact p3.elim
      ·exact p3.elim
    cases cond with
    | none =>
     have hc:oh Φ .none σ2 M1=.ok (.bl true) M1:=by simp only [oh]
     rw [hc] at p1
     simp only [R.af] at p1
     unfold TBo
     dsimp only
     rw [if_pos rfl]
     exact LG e2 S2 r' p1
    | some c =>
     have hc0:oh Φ (.some c) σ2 M1=ev Φ c σ2 M1:=by simp only [oh]
     rw [hc0] at p1
     refine ⟨σ2,M1,F2,ρ1,S2,r',?_⟩
     cases hc:ev Φ c σ2 M1 with
     | bad=>rw [hc] at p1;exact p1
     | exc k M4 =>
      rw [hc] at p1
      intro F4 ρ4 H4 cv x e4 S4 q4
      obtain ⟨H5,t5,S5,e5,x5⟩:=cO S4 ((eo.trans e2).trans e4) ((e1.trans e2).trans e4).r wz
      exact E.cl _ _ _ _ _ t5 (p1 F4 ρ4 H5 cv x e5 S5 q4)
     | ok t M4 =>
      rw [hc] at p1
      simp only [R.af] at p1
      intro F4 ρ4 H4 v e4 S4 q4
      split at p1
      ·simp only [RD] at q4;subst q4
       refine ⟨true,rfl,?_⟩
       dsimp only
       rw [if_pos rfl]
       exact LG (e2.trans e4) S4 (r'.mono e4) p1
      ·simp only [RD] at q4;subst q4
       refine ⟨false,rfl,?_⟩
       dsimp only
       rw [if_neg Bool.false_ne_true]
       split at p1
       ·rename_i hst
        obtain ⟨k1,k2,k3,k4⟩:=keep (e2.trans e4)
        exact ⟨m-1,by omega,by omega,σ2,M4,F4,ρ4,acc,vs,(eo.trans e2).trans e4,(e1.trans e2).trans e4,S4,r'.mono e4,hst,k1,k2,k3,k4,p1⟩
       ·exact p1.elim
      ·exact p1.elim
  ·have hd:ds.drop i=[]:=List.drop_eq_nil_of_le (Nat.le_of_not_lt hi)
   simp only [loop] at p1
   rw [hd] at p1
   unfold bz at p1
   obtain ⟨H4,t4,S4,e4,x4⟩:=cO S1 eo e1.r wz
   refine .inl ⟨wst (Nat.le_of_not_lt hi),H4,t4,?_⟩
   have p2:Post B (b7 fz acc (fu fl src M1)) F ρ H Q (fun cv x H'=>E.e cv x σ H'):=p1
   have ra4:=ai.bx x4 _ _ ra
   have hD4:H4 Da=some (.lst vs):=by
    have:=x4.h Da (by rw [MQ];simp) d1
    exact this.trans MQ
   cases fz with
   | true =>
    simp only [b7,if_true] at p2
    have xt:qu F1 ρ1 H4 (fun a=>F1 a\/a=Da) ρ1 H4:=⟨fun _ q=>.inl q,fun _ _ _=>rfl,List.prefix_refl _⟩
    refine p2 (fun a=>F1 a\/a=Da) ρ1 H4 (.ref Da) ⟨⟨e4.s,fun a q=>.inl (e4.f a q),e4.h,e4.r,e4.n,fun a q=>q.elim (e4.g a) fun z=>.inr (.inl (z ▸ MN))⟩,e4.z⟩ (S4.take d1 (by rw [hD4];simp)) ?_
    simp only [RD]
    exact ⟨Da,vs,rfl,.inl ⟨.inr rfl,.inl hD4⟩,ai.aV xt _ _ ra4⟩
   | false =>
    simp only [b7,Bool.false_eq_true,if_false] at p2
    have xt:qu F1 ρ1 H4 F1 (ρ1++[Da]) H4:=⟨fun _ q=>q,fun _ _ _=>rfl,List.prefix_append _ _⟩
    refine p2 F1 (ρ1++[Da]) H4 (.ref Da) ⟨⟨e4.s,e4.f,e4.h,e4.r.trans (List.prefix_append _ _),fun a q=>(List.mem_append.mp q).elim (e4.n a) fun z=>.inr (by rw [List.mem_singleton.mp z];exact MN),e4.g⟩,e4.z⟩ (S4.hold (u:=.lst acc) d1 f1 ⟨vs,hD4,ai.aV xt _ _ ra4⟩) ?_
    simp only [RD]
    refine ⟨Da,?_,rfl⟩
    rw [<- S4.len,List.getElem?_append_right (Nat.le_refl _),Nat.sub_self];rfl
end
end Fg
end
section
namespace Fg
open PySem L2
section
variable {B:Bd} {Φ:aL} {E:Gx} {F F' F0 F1:Addr->Prop} {ρ ρ' ρ0 ρ1:List Addr} {H H' H0 H1:Hp} {M M' M0:MH} {σD:Sg} {σ:L2.St} {Q:VK} {Dn:Ends}
theorem JT {i:Nat} {v:V} (hg:∀ d,Φ.glob i=some d->∀ F ρ H,RD B F ρ H d v) (h:T B Φ E (.g i) σ H Q):tC v σ H Q:=by
 obtain ⟨σD,M,F,ρ,S,r,h⟩:=h
 simp only [ev] at h
 split at h
 ·rename_i d hd
  exact ah.run h S (hg d hd F ρ H)
 ·exact h.elim
noncomputable def mL (B:Bd) (Φ:aL) (f n:Nat):Sp:=fun vs H Q E=>vs.length=n/\∃ ds M F ρ,SR B F ρ M H/\ai B F ρ H ds vs/\Post B (Φ.call f ds M) F ρ H Q E
theorem j0 {f n:Nat} {es:Es} (hn:∀ {σ:Sg} {M:MH} {ds:List D} {M':MH},bX Φ es σ M=.ok ds M'->ds.length=n) (h:T B Φ E (.call f es) σ H Q)  :qF (mL B Φ f n) E.e (TL B Φ E es) σ H Q:=by
 obtain ⟨σD,M,F,ρ,S,r,h⟩:=h
 simp only [ev] at h
 refine ⟨σD,M,F,ρ,S,r,?_⟩
 cases hx:bX Φ es σD M with
 | exc c M1=>rw [hx] at h;exact h
 | bad=>rw [hx] at h;exact h
 | ok ds M1 =>
  rw [hx] at h
  simp only [R.af] at h
  intro F1 ρ1 H1 vs e1 S1 q1
  exact ⟨by rw [<- ai.length q1];exact hn hx,ds,M1,F1,ρ1,S1,q1,ah.weak e1 h⟩
theorem vm {f n:Nat} {es:Es} {e:Fg.E} (hn:∀ {σ:Sg} {M:MH} {ds:List D} {M':MH},bX Φ es σ M=.ok ds M'->ds.length+1=n) (h:T B Φ E (.jr f es e) σ H Q):Fg.qE (mL B Φ f n) E.e (TL B Φ E es) (T B Φ E e) σ H Q:=by
 obtain ⟨σD,M,F,ρ,S,r,h⟩:=h
 simp only [ev] at h
 refine ⟨σD,M,F,ρ,S,r,?_⟩
 cases hx:bX Φ es σD M with
 | exc c M1=>rw [hx] at h;exact h
 | bad=>rw [hx] at h;exact h
 | ok ds M1 =>
  rw [hx] at h
  simp only [R.af] at h
  intro F1 ρ1 H1 vs e1 S1 q1
  refine T.one S1 (r.mono e1) rfl (ah.weak e1 h) fun d M2 F2 ρ2 H2 z e2 S2 r2 rz h2=>⟨rfl,?_⟩
  exact ⟨by rw [List.length_append,<- ai.length q1];exact hn hx,ds++[d],M2,F2,ρ2,S2,(ai.mono e2 _ _ q1).append (ai.cons rz ai.nil),h2⟩
theorem vn {f n:Nat} {es:Es} {d:Int} (hn:∀ {σ:Sg} {M:MH} {ds:List D} {M':MH},bX Φ es σ M=.ok ds M'->ds.length+1=n) (h:T B Φ E (.jt f es d) σ H Q):w5 (mL B Φ f n) (.int d) E.e (TL B Φ E es) σ H Q:=by
 obtain ⟨σD,M,F,ρ,S,r,h⟩:=h
 simp only [ev] at h
 refine ⟨σD,M,F,ρ,S,r,?_⟩
 cases hx:bX Φ es σD M with
 | exc c M1=>rw [hx] at h;exact h
 | bad=>rw [hx] at h;exact h
 | ok ds M1 =>
  rw [hx] at h
  simp only [R.af] at h
  intro F1 ρ1 H1 vs e1 S1 q1
  exact ⟨by rw [List.length_append,<- ai.length q1];exact hn hx,ds++[.int d],M1,F1,ρ1,S1,q1.append (ai.cons (by simp only [RD]) ai.nil),ah.weak e1 h⟩
theorem E0 {x:D} {v:V} {t:Ty} (S:SR B F ρ M H) (rx:RD B F ρ H x v) (ho:wH M x=true):∃ T,Dk B H v T/\tyB T t=HM M t x:=by
 cases x with
 | ao=>simp only [RD] at rx;subst rx;exact ⟨_,.ao,by cases t <;> rfl⟩
 | bl b=>simp only [RD] at rx;subst rx;exact ⟨_,.bl b,by cases t <;> rfl⟩
 | int i=>simp only [RD] at rx;subst rx;exact ⟨_,.int i,by cases t <;> rfl⟩
 | str x=>simp only [RD] at rx;subst rx;exact ⟨_,.str x,by cases t <;> rfl⟩
 | tup ds=>simp only [RD] at rx;obtain ⟨a,vs,rfl,z,_⟩:=rx;exact ⟨_,.tup z.sq,by cases t <;> rfl⟩
 | lst ds=>simp only [RD] at rx;obtain ⟨a,vs,rfl,z,_⟩:=rx;exact ⟨_,.lst z.sq,by cases t <;> rfl⟩
 | dct ks ds =>
  simp only [RD] at rx;obtain ⟨a,vs,rfl,z,_⟩:=rx
  refine ⟨_,.dct (kvs:=vs) ?_,by cases t <;> rfl⟩
  rcases z with ⟨_,z⟩ | z
  ·exact .inl z
  ·exact .inr z
 | ref n =>
  simp only [RD] at rx
  obtain ⟨a,h1,rfl⟩:=rx
  cases hM:M[n]? with
  | none=>simp [wH,hM] at ho
  | some o =>
   cases o with
   | lst ds=>obtain ⟨vs,h3,_⟩:=S.obj n a _ h1 hM;exact ⟨_,.lst (.inl (.inl h3)),by simp only [HM,hM];cases t <;> rfl⟩
   | dct kvs=>obtain ⟨kws,h3,_⟩:=S.obj n a _ h1 hM;exact ⟨_,.dct (.inl (.inl h3)),by simp only [HM,hM];cases t <;> rfl⟩
   | oj kvs=>obtain ⟨o,kws,h3,_⟩:=S.obj n a _ h1 hM;exact ⟨_,.dct (.inl (.inr ⟨o,h3⟩)),by simp only [HM,hM];cases t <;> rfl⟩
   | ins _ _=>simp [wH,hM] at ho
 | iP _=>simp [wH] at ho
theorem Bu {a:Fg.E} {t:Ty} (h:T B Φ E (.CF a t) σ H Q):DI (Kc B) (dc (T B Φ E a) (dc (tC (.ty (oz t))) iR)) σ H Q:=by
 obtain ⟨σD,M,F,ρ,S,r,h⟩:=h
 simp only [ev] at h
 refine T.one S r rfl h fun x M1 F1 ρ1 H1 v e1 S1 r1 rx h1=>?_
 split at h1
 ·rename_i ho
  obtain ⟨T',ty,e⟩:=E0 (t:=t) S1 rx ho
  refine ⟨v,T',t,rfl,ty,?_⟩
  rw [e]
  exact ah.run h1 S1 (by simp only [RD])
 ·exact h1.elim
theorem qK {fz:Bool} {a:Fg.E} {es:Es} (h:T B Φ E (.bh .append fz a es) σ H Q):JJ B.K "list" mY (T B Φ E a) (TL B Φ E es) σ H Q:=by
 obtain ⟨σD,M,F,ρ,S,r,h⟩:=h
 simp only [ev] at h
 refine T.one S r rfl h fun x M1 F1 ρ1 H1 v e1 S1 r1 rx h1=>?_
 split at h1
 ·rename_i ho
  refine ⟨?_,TL.one S1 r1 rfl h1 fun ds M2 F2 ρ2 H2 vs e2 S2 r2 J0 h2=>sF S2 (RD.mono e2 _ _ rx) J0 h2⟩
  have h0:=((Bool.and_eq_true _ _).mp ho).1
  cases hl:gx M1 x with
  | none=>rw [hl] at h0;cases h0
  | some p =>
   obtain ⟨rfl,hM⟩:=jN hl
   simp only [RD] at rx
   obtain ⟨b,hb,rfl⟩:=rx
   obtain ⟨vs,h3,_⟩:=S1.obj p.1 b _ hb hM
   exact .inl ⟨rfl,vs,.inl (.inl h3)⟩
 ·exact h1.elim
noncomputable def DU (x y v:V) (H:Hp) (Q:Hp->Prop):Prop:=DT x y v H Q\/∃ a H4,x=.ref a/\sJ H a y v H4/\Q H4
noncomputable def DO (to ti tv:TE):TS:=fun D σ H=>tv σ H fun v H1=>to σ H1 fun x H2=>ti σ H2 fun y H3=>DU x y v H3 fun H4=>D.nx σ H4
theorem BD {x y d:D} {v w u:V} (S:SR B F ρ M H) (rx:RD B F ρ H x v) (ry:RD B F ρ H y w) (rd:RD B F ρ H d u) {K:Hp->Prop} (h:∀ M',mS M x y d=.ok () M'->∀ H',Ext F ρ H F ρ H'->SR B F ρ M' H'->K H') (hb:∃ M',mS M x y d=.ok () M'):DU v w u H K:=by
 obtain ⟨M',hb⟩:=hb
 have hK:=h M' hb
 unfold mS at hb
 split at hb
 ·rename_i n
  simp only [RD] at rx
  obtain ⟨a,h1,rfl⟩:=rx
  split at hb
  ·rename_i xs i hM
   split at hb
   ·rename_i j hj
    cases hb
    simp only [RD] at ry;subst ry
    obtain ⟨vs,h2,h3⟩:=S.obj n a _ h1 hM
    refine .inl ⟨a,vs,i,j,rfl,rfl,h2,by rw [<- ai.length h3,<- yY];exact hj,?_⟩
    obtain ⟨S',e⟩:=S.st (o:=.lst (vs.set j u)) (u:=.lst (xs.set j d)) h1 (fun _ _ q=>by rw [h2] at q;cases q) ⟨_,ay,ai.bx (Ext0.at_ S h1) _ _ (h3.set j rd)⟩
    exact hK _ e S'
   ·cases hb
  ·rename_i kvs hM
   split at hb
   ·rename_i k hk
    split at hb
    ·rename_i hl
     cases hb
     obtain ⟨kws,h2,h3,h4⟩:=S.obj n a _ h1 hM
     have hlen:kws.length=kvs.length:=by have:=congrArg List.length h3;simpa using this
     rw [rM hk ry]
     refine .inr ⟨a,_,rfl,sJ.k h2 (by rw [hlen];exact Nat.lt_of_lt_of_le (of_decide_eq_true hl) bR),?_⟩
     obtain ⟨p1,p2⟩:=FT (k:=k) rd h3 h4
     obtain ⟨S',e⟩:=S.st (o:=.dK (putK kws k u)) (u:=.dct (put kvs k d)) h1 (fun _ _ q=>by rw [h2] at q;cases q) ⟨_,ay,p1,ai.bx (Ext0.at_ S h1) _ _ p2⟩
     exact hK _ e S'
    ·cases hb
   ·cases hb
  ·cases hb
 ·cases hb
theorem BF {x y d:D}:(∃ M',mS M x y d=.ok () M')\/mS M x y d=.bad:=by
 unfold mS
 split
 ·split
  ·split
   ·exact .inl ⟨_,rfl⟩
   ·exact .inr rfl
  ·split
   ·split
    ·exact .inl ⟨_,rfl⟩
    ·exact .inr rfl
   ·exact .inr rfl
  ·exact .inr rfl
 ·exact .inr rfl
theorem xu {a b e:Fg.E} (h:TC B Φ E (.qL a b e) Dn σ H):DO (T B Φ E a) (T B Φ E b) (T B Φ E e) Dn σ H:=by
 obtain ⟨σD,M,F,ρ,S,r,h⟩:=h
 simp only [ex] at h
 refine TC.one S r h fun x M1 F1 ρ1 H1 v e1 S1 r1 rx h1=>?_
 refine TC.one S1 r1 h1 fun y M2 F2 ρ2 H2 w e2 S2 r2 ry h2=>?_
 refine TC.one S2 r2 h2 fun z M3 F3 ρ3 H3 u e3 S3 r3 rz h3=>?_
 have rx3:=RD.mono e3 _ _ (RD.mono e2 _ _ rx)
 have ry3:=RD.mono e3 _ _ ry
 rcases BF (M:=M3) (x:=y) (y:=z) (d:=x) with ⟨M',hb⟩ | hb
 ·refine BD S3 ry3 rz rx3 (fun M4 hq H4 e4 S4=>?_) ⟨M',hb⟩
  rw [hq] at h3
  exact h3 F3 ρ3 H4 e4 S4 σ (r3.mono e4)
 ·rw [hb] at h3;exact h3.elim
end
end Fg
end
section
namespace Fg
open PySem PySem.Spec L2
noncomputable def toD:Value->D
 | .bool b=>.bl b
 | .int i _=>.int i
 | .str x _=>.str x
 | _=>.ao
theorem qz {h:Heap} {d:D} {u:Value} (p:VV h d u) (f:kK d=true):toD u=d/\dep d=0:=by
 cases p <;> first | exact ⟨rfl,rfl⟩ | cases f
theorem kJ:∀ {ds:List D},ds.all kK=true->dw ds=true
 | [],_=>rfl
 | d::ds,h=>by
  simp only [List.all_cons,Bool.and_eq_true] at h
  simp only [dw,kJ h.2,Bool.and_true]
  cases d <;> first | rfl | cases h.1
theorem sM {h:Heap}:∀ {ds:List D} {us:List Value},jw h ds us->ds.all kK=true->us.map toD=ds
 | _,_,.nil,_=>rfl
 | _,_,.cons p q,f=>by
  simp only [List.all_cons,Bool.and_eq_true] at f
  rw [List.map_cons,(qz p f.1).1,sM q f.2]
theorem sN {h:Heap}:∀ {ds:List D} {us:List Value},jw h ds us->ds.all kK=true->∀ u∈us,VV h (toD u) u/\kK (toD u)=true
 | _,_,.nil,_,u,hu=>by cases hu
 | _,_,.cons p q,f,u,hu=>by
  simp only [List.all_cons,Bool.and_eq_true] at f
  rcases List.mem_cons.mp hu with rfl | hu
  ·rw [(qz p f.1).1];exact ⟨p,f.1⟩
  ·exact sN q f.2 u hu
noncomputable def FP (K:W.Frag) (ct:Bool):V->List V->Hp->VK->Prop:=fun x vs H Q=>∃ l xs y ds d j,x=.ref l/\vs=[y]/\fq K H l xs/\om K H ds xs/\DV K H d y/\CC ct ds d=some j/\Q (.int (j:Int)) H
section
variable {X:Cx}
theorem yp (hu:Rm X) (ct:Bool):Mb X (if ct then "list.count" else "list.index") (FP X.K ct):=by
 intro pins s σ H x vs v us Q I rx rv h
 obtain ⟨l,xs,y,ds,d,j,rfl,rfl,hl,hds,hd,hj,q⟩:=h
 cases rx
 obtain ⟨u,rfl,ru⟩:=rv.one
 obtain ⟨its,r,⟨⟨cl,dd,dt,sl⟩,n,e,hc,_,hs⟩,z⟩:=I.list hl
 simp only at hc hs
 subst hc hs
 unfold CC at hj
 split at hj
 ·rename_i hf
  simp only [Bool.and_eq_true] at hf
  have p:=om.vv I ds xs its hds r
  have pd:=DV.vv I d y u hd ru
  have he:∀ w,w∈its.toArray->SeqAt.EqAt X.A.in1 s w u (aF (toD w) d):=fun w hw=>by
   obtain ⟨a1,a2⟩:=sN p hf.1 w (by simpa using hw)
   have a3:=(qz a1 a2).2
   exact (eq_data (s:=s) (dep (toD w)+dep d+1) (toD w) d w u X.A.in1 (Nat.lt_succ_self _) a1 pd (by rw [in1_units,a3,Nat.zero_min];unfold Rm at hu;omega)).2
  have eq:=sM p hf.1
  have fin:∀ tk,EP X pins σ Q (.int (j:Int) s.toks) { s with toks:=tk }:=fun tk=>⟨.int j,H,I.tok _,⟨_,rfl⟩,q⟩
  cases ct with
  | true =>
   simp only [if_true,Option.some.injEq] at hj
   refine call_meets PySem.F.slot_list_count ⟨_,e,rfl⟩ PySem.F.entry_list_count (PySem.F.args_list_count_2 _ _) (SeqAt.list_countAt l its.toArray n dd sl u fun w=>aF (toD w) d) ⟨e,he,?_⟩
   have:its.countP (fun w=>aF (toD w) d)=j:=by rw [<- hj,<- eq,List.countP_map];rfl
   simp only [List.toList_toArray,this]
   exact fin _
  | false =>
   simp only [Bool.false_eq_true,if_false] at hj
   rw [<- eq,List.findIdx?_map,List.findIdx?_eq_some_iff_getElem] at hj
   obtain ⟨h1,h2,h3⟩:=hj
   refine call_meets PySem.F.slot_list_index ⟨_,e,rfl⟩ PySem.F.entry_list_index (PySem.F.args_list_index_2 _ _) (SeqAt.list_indexAt l its.toArray n dd sl u (fun w=>aF (toD w) d) j (by simpa using h1) ?_ ?_ ?_) ⟨e,he,fin _⟩
   ·have z1:its.length<=sizeLine:=by rw [<- r.length];exact z
    have:sizeLine=2 ^ 24:=rfl
    omega
   ·simpa using h2
   ·intro m hm hmj
    simpa using h3 m hmj
 ·cases hj
end
section
variable {B:Bd} {Φ:aL} {E:Gx} {F F' F1:Addr->Prop} {ρ ρ' ρ1:List Addr} {H H' H1:Hp} {M M':MH} {σD:Sg} {σ:L2.St} {Q:VK}
theorem yw {d:D} {ds:List D} (h:rH M d=some ds):vw M d=.lst ds:=by
 unfold rH at h
 split at h
 ·cases h;assumption
 ·cases h
theorem Bt {ct:Bool} {a:Fg.E} {es:Es} (h:T B Φ E (.Ef ct a es) σ H Q):JJ B.K "list" (FP B.K ct) (T B Φ E a) (TL B Φ E es) σ H Q:=by
 obtain ⟨σD,M,F,ρ,S,r,h⟩:=h
 simp only [ev] at h
 refine T.one S r rfl h fun x M1 F1 ρ1 H1 v e1 S1 r1 rx h1=>?_
 split at h1
 ·rename_i ho
  obtain ⟨ds0,hds0⟩:=Option.isSome_iff_exists.mp ho
  obtain ⟨a0,vs0,rfl,q0,_⟩:=bA S1 rx (yw hds0)
  refine ⟨.inl ⟨rfl,vs0,q0⟩,TL.one S1 r1 rfl h1 fun ds M2 F2 ρ2 H2 vs e2 S2 r2 J0 h2=>?_⟩
  have Jb:=RD.mono e2 _ _ rx
  unfold HG at h2
  cases ds with
  | nil=>exact h2.elim
  | cons d ds=>cases ds with
   | cons _ _=>exact h2.elim
   | nil =>
    simp only [qY] at h2
    split at h2
    ·rename_i j hj
     obtain ⟨xs,hxs,hj⟩:=Option.bind_eq_some_iff.mp hj
     obtain ⟨a1,ws,ea,q1,r3⟩:=bA S2 Jb (yw hxs)
     obtain ⟨w,us,rfl,rw',ru⟩:∃ w us,vs=w::us/\RD B F2 ρ2 H2 d w/\ai B F2 ρ2 H2 [] us:=by simpa only [ai] using J0
     have eu:us=[]:=List.eq_nil_of_length_eq_zero (ai.length ru).symm
     subst eu
     have hj':=hj
     unfold CC at hj'
     split at hj'
     ·rename_i hf
      simp only [Bool.and_eq_true] at hf
      have pd:plain d=true:=by have:=hf.2;cases d <;> first | rfl | cases this
      exact ⟨a1,ws,w,xs,d,j,ea,rfl,q1,ai.dv (kJ hf.1) r3,RD.dv pd rw',hj,ah.run h2 S2 (by simp only [RD])⟩
     ·cases hj'
    ·exact h2.elim
 ·exact h1.elim
end
end Fg
end
section
namespace Fg
open PySem PySem.Spec L2
noncomputable def rY:F1->V->Option V
 | .abs,.int i=>some (.int (if i<0 then -i else i))
 | .int,.bl b=>some (.int (if b then 1 else 0))
 | .int,.int i=>some (.int i)
 | _,_=>none
noncomputable def rF1 (f:F1):List V->Hp->VK->Prop:=fun xs H Q=>∃ x y,xs=[x]/\rY f x=some y/\Q y H
section
variable {X:Cx}
theorem wc:b6 X (.builtin "abs") (rF1 .abs):=by
 intro pins s σ H xs us Q I r h
 obtain ⟨x,y,rfl,hf,q⟩:=h
 obtain ⟨u,rfl,ru⟩:=vals1 r
 cases x with
 | int i =>
  simp only [rY] at hf
  cases hf
  obtain ⟨t,rfl⟩:=(show ∃ t,u=Value.int i t from ru)
  exact PyProof.Rows.call_abs_int fun u tk=>⟨.int _,H,I.tok _,⟨_,rfl⟩,q⟩
 | _=>simp [rY] at hf
theorem v9:b6 X (.type "int") (rF1 .int):=by
 intro pins s σ H xs us Q I r h
 obtain ⟨x,y,rfl,hf,q⟩:=h
 obtain ⟨u,rfl,ru⟩:=vals1 r
 cases x with
 | int i =>
  simp only [rY] at hf
  cases hf
  obtain ⟨t,rfl⟩:=(show ∃ t,u=Value.int i t from ru)
  exact call_int_int ⟨.int _,H,I,⟨_,rfl⟩,q⟩
 | bl b =>
  simp only [rY] at hf
  cases hf
  cases ru
  exact call_int_bool ⟨.int _,H,I.tok _,⟨_,rfl⟩,q⟩
 | _=>simp [rY] at hf
end
section
variable {B:Bd} {Φ:aL} {E:Gx} {F F' F0 F1:Addr->Prop} {ρ ρ' ρ0 ρ1:List Addr} {H H' H0 H1:Hp} {M M' M0:MH} {σD:Sg} {σ:L2.St} {Q:VK}
theorem HZ {f:Fg.F1} {x d:D} {v:V} (h:vW f x=some d) (r:RD B F ρ H x v):∃ w,rY f v=some w/\RD B F ρ H d w:=by
 cases x with
 | int i=>simp only [RD] at r;subst r;cases f <;> simp only [vW] at h <;> cases h <;> exact ⟨_,rfl,by simp only [RD]⟩
 | bl b=>simp only [RD] at r;subst r;cases f <;> simp only [vW] at h <;> cases h <;> exact ⟨_,rfl,by simp only [RD]⟩
 | _=>cases f <;> simp [vW] at h
theorem tw {f:Fg.F1} {a:Fg.E} (h:T B Φ E (.pV f a) σ H Q):DI (rF1 f) (dc (T B Φ E a) iR) σ H Q:=by
 obtain ⟨σD,M,F,ρ,S,r,h⟩:=h
 simp only [ev] at h
 refine T.one S r rfl h fun x M1 F1 ρ1 H1 v e1 S1 r1 rx h1=>?_
 split at h1
 ·rename_i d hd
  obtain ⟨w,hw,rw'⟩:=HZ hd rx
  exact ⟨v,w,rfl,hw,ah.run h1 S1 rw'⟩
 ·exact h1.elim
end
end Fg
end
section
namespace Fg
open PySem L2
section
variable {X:Cx}
theorem CP (l:Addr) (items:Array Value) (n:Nat) (b:Addr) (items2:Array Value) (n2:Nat) (dd2:Option Addr) (sl2:Array (Option Value)) (hs0:¬(!items.isEmpty&&Builtin.List.listTooLong (items.size+items2.size))=true) (hs1:items.size<=sizeLine) (hs2:items.size+items2.size<=sizeLine+1) :
  Meets (Builtin.«list.extend» ⟨[.ref l, .ref b], []⟩) (fun _ R s=>s.heap.get? l=some { cls:=.type "list", dict:=none, data:=.seq items n, slots:=#[] }/\s.heap.get? b=some { cls:=.type "tuple", dict:=dd2, data:=.seq items2 n2, slots:=sl2 }/\R (.ok (.ret Value.none)) { s with heap:=s.heap.update l (Obj.mapSeq fun x=>x++items2), toks:=s.toks }) :=
 .of_wp fun prog w A R s h=>by
  obtain ⟨hp,g,d,tk,os⟩:=s;obtain ⟨hl,hb,h⟩:=h;have f1:=AutoSeq1.idx_int;have f2:=AutoSeq1.sub_tuple_tuple;have f3:=AutoSeq1.sub_list_list;have f4:=AutoSeq1.sub_tuple_list;have f5:=AutoSeq1.sub_list_tuple
  have hz':(items++items2).size<=sizeLine+1:=by rw [Array.size_append];exact hs2
  wp_walk using (wpAny_updateSeq hl rfl (hz:=hs1) (_hz':=hz')),AutoSeq1.wpAny_loadPart' hl,AutoSeq1.wpAny_loadPart' hb;exact ⟨_,rfl,h⟩
noncomputable def DX (K:W.Frag):V->List V->Hp->VK->Prop:=fun x vs H Q=>∃ l b xs zs,x=.ref l/\vs=[.ref b]/\H l=some (.lst xs)/\gE K H b zs/\xs.length+zs.length<=sizeLine/\Q .ao (upd H l (.lst (xs++zs)))
theorem Cj:Mb X "list.extend" (DX X.K):=by
 intro pins s σ H x vs v us Q I rx rv h
 obtain ⟨l,b,xs,zs,rfl,rfl,hH,hB,hz,q⟩:=h
 cases rx
 obtain ⟨u,rfl,ru⟩:=rv.one
 cases ru
 obtain ⟨z,its,n,r,hl,e⟩:=I.Co hH
 obtain ⟨its2,r2,p2,z2⟩:=I.tuple hB
 obtain ⟨⟨LP,dd2,data2,sl2⟩,e2,hc2,n2,hd2⟩:=p2
 simp only at hc2 hd2
 subst hc2 hd2
 have l2:=r2.length
 have hsz:its.toArray.size+its2.toArray.size<=sizeLine:=by rw [List.size_toArray,List.size_toArray];omega
 have Lc:¬ (!its.toArray.isEmpty&&Builtin.List.listTooLong (its.toArray.size+its2.toArray.size))=true:=by
  rw [yi hsz,Bool.and_false]
  exact Bool.false_ne_true
 refine call_meets PySem.F.slot_list_extend ⟨_,e,rfl⟩ PySem.F.entry_list_extend (PySem.F.args_list_extend_2 _ _)
  (CP l its.toArray n b its2.toArray n2 dd2 sl2 Lc (by rw [List.size_toArray];omega) (by omega)) ⟨e,e2,?_⟩
 refine ⟨.ao,_,I.Cq (its':=its++its2) hH e (by simp) (r.append r2) ?_,rfl,q⟩
 rw [List.length_append]
 omega
end
section
variable {B:Bd} {Φ:aL} {E:Gx} {F F' F0 F1:Addr->Prop} {ρ ρ' ρ0 ρ1:List Addr} {H H' H0 H1:Hp} {M M' M0:MH} {σD:Sg} {σ:L2.St} {Q:VK}
theorem ai.rev:∀ {ds:List D} {vs:List V},ai B F ρ H ds vs->ai B F ρ H ds.reverse vs.reverse
 | [],vs,h=>by
  have:=ai.length h
  cases vs with
  | nil=>exact ai.nil
  | cons _ _=>simp at this
 | d::ds,vs,h=>by
  cases vs with
  | nil=>have:=ai.length h;simp at this
  | cons v vs =>
   obtain ⟨w,ws,h1,h2,h3⟩:∃ w ws,v::vs=w::ws/\RD B F ρ H d w/\ai B F ρ H ds ws:=by simpa only [ai] using h
   cases h1
   rw [List.reverse_cons,List.reverse_cons]
   exact ai.append (ai.rev h3) (ai.cons h2 ai.nil)
theorem ai.dropLast {ds:List D} {vs:List V} (h:ai B F ρ H ds vs):ai B F ρ H ds.dropLast vs.dropLast:=by
 rw [List.dropLast_eq_take,List.dropLast_eq_take,<- ai.length h];exact ai.take _ h
theorem xH {x:D} {v:V} {m:Mt} (S:SR B F ρ M H) (rx:RD B F ρ H x v) (ho:pI m M x=true):∃ n xs, x=.ref n/\M[n]? = some (.lst xs)/\Ml B.K "list" v H:=by
 have h0:=((Bool.and_eq_true _ _).mp ho).1
 cases hl:gx M x with
 | none=>rw [hl] at h0;cases h0
 | some p =>
  obtain ⟨rfl,hM⟩:=jN hl
  simp only [RD] at rx
  obtain ⟨b,hb,rfl⟩:=rx
  obtain ⟨vs,h3,_⟩:=S.obj p.1 b _ hb hM
  exact ⟨p.1,p.2,rfl,hM,.inl ⟨rfl,vs,.inl (.inl h3)⟩⟩
theorem BQ {fz:Bool} {n:Nat} {xs:List D} {v:V} {X:XK} (S:SR B F ρ M H) (hx:M[n]? = some (.lst xs)) (rx:RD B F ρ H (.ref n) v) (h:Post B (gH .pop fz M (.ref n) []) F ρ H Q X):FN v [] H Q:=by
 simp only [gH,cS hx,pH,List.isEmpty_nil,if_true] at h
 split at h
 ·rename_i d hd
  simp only [RD] at rx
  obtain ⟨a,h1,rfl⟩:=rx
  obtain ⟨ws,h2,h3⟩:=S.obj n a _ h1 hx
  obtain ⟨w,hw,rw'⟩:=ai.get h3 hd
  refine ⟨a,ws,w,rfl,rfl,h2,by rw [<- ai.length h3];exact hw,?_⟩
  obtain ⟨S',e⟩:=S.st (o:=.lst ws.dropLast) (u:=.lst xs.dropLast) h1 (fun _ _ q=>by rw [h2] at q;cases q) ⟨_,ay,ai.bx (Ext0.at_ S h1) _ _ h3.dropLast⟩
  exact h _ _ _ _ e S' (RD.mono e _ _ rw')
 ·exact h.elim
theorem o5 {fz:Bool} {n:Nat} {xs:List D} {v:V} {X:XK} (S:SR B F ρ M H) (hx:M[n]? = some (.lst xs)) (rx:RD B F ρ H (.ref n) v) (h:Post B (gH .reverse fz M (.ref n) []) F ρ H Q X):j7 v [] H Q:=by
 simp only [gH,cS hx,pH,List.isEmpty_nil,if_true] at h
 simp only [RD] at rx
 obtain ⟨a,h1,rfl⟩:=rx
 obtain ⟨ws,h2,h3⟩:=S.obj n a _ h1 hx
 refine ⟨a,ws,rfl,rfl,h2,?_⟩
 obtain ⟨S',e⟩:=S.st (o:=.lst ws.reverse) (u:=.lst xs.reverse) h1 (fun _ _ q=>by rw [h2] at q;cases q) ⟨_,ay,ai.bx (Ext0.at_ S h1) _ _ h3.rev⟩
 exact h _ _ _ _ e S' (by simp only [RD])
theorem qJ {fz:Bool} {a:Fg.E} {es:Es} (h:T B Φ E (.bh .extend fz a es) σ H Q):JJ B.K "list" (DX B.K) (T B Φ E a) (TL B Φ E es) σ H Q:=by
 obtain ⟨σD,M,F,ρ,S,r,h⟩:=h
 simp only [ev] at h
 refine T.one S r rfl h fun x M1 F1 ρ1 H1 v e1 S1 r1 rx h1=>?_
 split at h1
 ·rename_i ho
  obtain ⟨n,xs,rfl,hM,ty⟩:=xH S1 rx ho
  refine ⟨ty,TL.one S1 r1 rfl h1 fun ds M2 F2 ρ2 H2 vs e2 S2 r2 J0 h2=>?_⟩
  have Jb:=RD.mono e2 _ _ rx
  unfold gH at h2
  cases hl:gx M2 (.ref n) with
  | none=>rw [hl] at h2;exact h2.elim
  | some q =>
   rw [hl] at h2
   obtain ⟨e0,hy⟩:=jN hl
   cases e0
   cases ds with
   | nil=>exact h2.elim
   | cons d ds=>cases ds with
    | cons _ _=>exact h2.elim
    | nil =>
     simp only [pH,qY] at h2
     split at h2
     ·rename_i zs hz
      split at h2
      ·rename_i hlen
       simp only [RD] at Jb
       obtain ⟨a',h3,rfl⟩:=Jb
       obtain ⟨ws,h4,h5⟩:=S2.obj _ a' _ h3 hy
       obtain ⟨w,us,rfl,rw',ru⟩:∃ w us,vs=w::us/\RD B F2 ρ2 H2 d w/\ai B F2 ρ2 H2 [] us:=by simpa only [ai] using J0
       have eu:us=[]:=List.eq_nil_of_length_eq_zero (ai.length ru).symm
       subst eu
       cases AR hz
       simp only [RD] at rw'
       obtain ⟨b,zs',rfl,z1,r3⟩:=rw'
       refine ⟨a',b,ws,zs',rfl,rfl,h4,z1.sq,?_,?_⟩
       ·rw [<- ai.length h5,<- ai.length r3];exact Nat.le_trans (of_decide_eq_true hlen) bR
       ·obtain ⟨S',e⟩:=S2.st (o:=.lst (ws++zs')) (u:=.lst (q.2++zs)) h3 (fun _ _ q=>by rw [h4] at q;cases q) ⟨_,ay,ai.bx (Ext0.at_ S2 h3) _ _ (h5.append r3)⟩
        exact h2 _ _ _ _ e S' (by simp only [RD])
      ·exact h2.elim
     ·exact h2.elim
 ·exact h1.elim
theorem oO {m:Mt} {fz:Bool} {a:Fg.E} {r:V->List V->Hp->VK->Prop}
  (hs:∀ (F:Addr->Prop) (ρ:List Addr) (H:Hp) (M:MH) (n:Nat) (xs:List D) (v:V) (Q:VK) (X:XK),SR B F ρ M H->M[n]? = some (.lst xs)->RD B F ρ H (.ref n) v->Post B (gH m fz M (.ref n) []) F ρ H Q X->r v [] H Q)
  (h:T B Φ E (.bh m fz a .nil) σ H Q):AX B.K "list" r (T B Φ E a) σ H Q:=by
 obtain ⟨σD,M,F,ρ,S,r,h⟩:=h
 simp only [ev] at h
 refine T.one S r rfl h fun x M1 F1 ρ1 H1 v e1 S1 r1 rx h1=>?_
 split at h1
 ·rename_i ho
  obtain ⟨n,xs,rfl,hM,ty⟩:=xH S1 rx ho
  simp only [bX,R.af] at h1
  exact ⟨ty,hs _ _ _ _ n xs v _ _ S1 hM rx h1⟩
 ·exact h1.elim
theorem Bm {fz:Bool} {a:Fg.E} (h:T B Φ E (.bh .pop fz a .nil) σ H Q):AX B.K "list" FN (T B Φ E a) σ H Q:=oO (fun _ _ _ _ _ _ _ _ _ S hx rx h=>BQ S hx rx h) h
theorem oM {fz:Bool} {a:Fg.E} (h:T B Φ E (.bh .reverse fz a .nil) σ H Q):AX B.K "list" j7 (T B Φ E a) σ H Q:=oO (fun _ _ _ _ _ _ _ _ _ S hx rx h=>o5 S hx rx h) h
end
end Fg
end
section
namespace Fg
open PySem PySem.Spec L2
section
variable {B:Bd} {Φ:aL} {E:Gx} {F F' F0 F1:Addr->Prop} {ρ ρ' ρ0 ρ1:List Addr} {H H' H0 H1:Hp} {M M' M0:MH} {σD:Sg} {σ:L2.St} {Q:VK} {Dn:Ends}
theorem nA {f:Str}:∀ {fs:List (Str×D)} {eZ:List (Str×V)},eZ.map (·.1)=fs.map (·.1)->ai B F ρ H (fs.map (·.2)) (eZ.map (·.2)) ->
  (∀ d,fs.lookup f=some d->∃ v,eZ.lookup f=some v/\RD B F ρ H d v)/\(fs.lookup f=none->eZ.lookup f=none)
 | [],eZ,h1,h2=>by
  have:eZ=[]:=by cases eZ with | nil=>rfl | cons _ _=>simp at h1
  subst this
  exact ⟨fun d h=>by simp at h,fun _=>rfl⟩
 | (g, d')::fs, eZ, h1, h2=>by
  cases eZ with
  | nil=>simp at h1
  | cons p eZ =>
   obtain ⟨pk,pv⟩:=p
   simp only [List.map_cons,List.cons.injEq] at h1
   simp only [List.map_cons,ai] at h2
   obtain ⟨v,ws,e,r1,r2⟩:=h2
   cases e
   obtain ⟨e1,e2⟩:=h1
   subst e1
   have ih:=nA (f:=f) e2 r2
   by_cases hk:f=pk
   ·subst hk
    simp only [List.lookup,beq_self_eq_true]
    exact ⟨fun d h=>by cases h;exact ⟨_,rfl,r1⟩,fun h=>by cases h⟩
   ·have hb:(f == pk)=false:=beq_eq_false_iff_ne.mpr hk
    simp only [List.lookup,hb]
    exact ih
theorem tO {f:Str} {d:D} {v:V} (r:RD B F ρ H d v):∀ {fs:List (Str×D)} {eZ:List (Str×V)},eZ.map (·.1)=fs.map (·.1)->ai B F ρ H (fs.map (·.2)) (eZ.map (·.2)) ->
  (dm f v eZ).map (·.1)=(bB f d fs).map (·.1)/\ai B F ρ H ((bB f d fs).map (·.2)) ((dm f v eZ).map (·.2))
 | [],eZ,h1,h2=>by
  have:eZ=[]:=by cases eZ with | nil=>rfl | cons _ _=>simp at h1
  subst this
  exact ⟨rfl,ai.cons r ai.nil⟩
 | (g, d')::fs, eZ, h1, h2=>by
  cases eZ with
  | nil=>simp at h1
  | cons p eZ =>
   obtain ⟨pk,pv⟩:=p
   simp only [List.map_cons,List.cons.injEq] at h1
   simp only [List.map_cons,ai] at h2
   obtain ⟨w,ws,e,r1,r2⟩:=h2
   cases e
   obtain ⟨e1,e2⟩:=h1
   subst e1
   obtain ⟨i1,i2⟩:=tO (f:=f) r e2 r2
   by_cases hk:pk=f
   ·simp only [dm,bB,if_pos hk,List.map_cons]
    exact ⟨by rw [e2],ai.cons r r2⟩
   ·simp only [dm,bB,if_neg hk,List.map_cons]
    exact ⟨by rw [i1],ai.cons r1 i2⟩
theorem BB {K:W.Frag} {a:Fg.E} {f:Str} (hC:∀ c C,B.cls c=some C->wC K C/\dN K C f) (h:T B Φ E (.fld a f) σ H Q):JI K (T B Φ E a) f σ H Q:=by
 obtain ⟨σD,M,F,ρ,S,r,h⟩:=h
 simp only [ev] at h
 refine T.one S r rfl h fun x M1 F1 ρ1 H1 v e1 S1 r1 rx h1=>?_
 split at h1
 ·rename_i n
  split at h1
  ·rename_i c fs hM
   split at h1
   ·rename_i d hd
    simp only [RD] at rx
    obtain ⟨b,hb,rfl⟩:=rx
    obtain ⟨C,dx,eZ,hc,hH,hk,hr⟩:=S1.obj n b _ hb hM
    obtain ⟨w,hw,rw⟩:=(nA hk hr).1 d hd
    exact ⟨b,C,dx,eZ,w,rfl,hH,(hC c C hc).1,(hC c C hc).2,hw,ah.run h1 S1 rw⟩
   ·exact h1.elim
  ·exact h1.elim
 ·exact h1.elim
theorem xw {K:W.Frag} {a e:Fg.E} {f:Str} (hC:∀ c C,B.cls c=some C->wC K C/\dN K C f) (h:TC B Φ E (.bN a f e) Dn σ H):JW K (T B Φ E a) (T B Φ E e) f Dn σ H:=by
 obtain ⟨σD,M,F,ρ,S,r,h⟩:=h
 simp only [ex] at h
 refine TC.one S r h fun x M1 F1 ρ1 H1 v e1 S1 r1 rx h1=>?_
 refine TC.one S1 r1 h1 fun y M2 F2 ρ2 H2 w e2 S2 r2 ry h2=>?_
 have Jb:=RD.mono e2 _ _ rx
 split at h2
 ·rename_i n
  split at h2
  ·rename_i c fs hM
   split at h2
   ·rename_i hl
    simp only [RD] at ry
    obtain ⟨b,hb,rfl⟩:=ry
    obtain ⟨C,dx,eZ,hc,hH,hk,hr⟩:=S2.obj n b _ hb hM
    have hlen:eZ.length=fs.length:=by have:=congrArg List.length hk;simpa using this
    obtain ⟨p1,p2⟩:=tO (f:=f) Jb hk hr
    obtain ⟨S',e⟩:=S2.st (o:=.ins C dx (dm f v eZ)) (u:=.ins c (bB f x fs)) hb (fun _ _ q=>by rw [hH] at q;cases q) ⟨C,dx,_,hc,ay,p1,ai.bx (Ext0.at_ S2 hb) _ _ p2⟩
    exact ⟨b,C,dx,eZ,rfl,hH,(hC c C hc).1,(hC c C hc).2,by rw [hlen];exact of_decide_eq_true hl,h2 F2 ρ2 _ e S' σ (r2.mono e)⟩
   ·exact h2.elim
  ·exact h2.elim
 ·exact h2.elim
noncomputable def qC (C:Addr) (m:Str) (sp:Sp) (Ex:XS) (ta:TE) (t:TA):TE:=fun σ H Q=>ta σ H fun x H1=>∃ a dx fs,x=.ref a/\H1 a=some (.ins C dx fs)/\fs.lookup m=none /\
 t σ H1 fun vs H2=>sp (x::vs) H2 Q fun cv y H'=>Ex cv y σ H'
noncomputable def qD (C:Addr) (sp:Sp) (Ex:XS) (t:TA):TE:=fun σ H Q=>t σ H fun vs H1=>∀ x dx,H1 x=none->H1 dx=none->dx≠x ->
 sp (.ref x::vs) (upd (upd H1 dx (.own x)) x (.ins C dx [])) (fun v H2=>v=.ao/\Q (.ref x) H2) fun cv y H'=>Ex cv y σ H'
theorem sW {c m n:Nat} {nm:Str} {a:Fg.E} {es:Es} {C:Addr} (hC:B.cls c=some C) (hn:∀ {σ:Sg} {M:MH} {ds:List D} {M':MH},bX Φ es σ M=.ok ds M'->ds.length+1=n) (h:T B Φ E (.cM c m nm a es) σ H Q) :
  qC C nm (mL B Φ m n) E.e (T B Φ E a) (TL B Φ E es) σ H Q:=by
 obtain ⟨σD,M,F,ρ,S,r,h⟩:=h
 simp only [ev] at h
 refine T.one S r rfl h fun x M1 F1 ρ1 H1 v e1 S1 r1 rx h1=>?_
 split at h1
 ·rename_i i
  split at h1
  ·rename_i c' fs hM
   split at h1
   ·rename_i hq
    simp only [Bool.and_eq_true,decide_eq_true_eq,Option.isNone_iff_eq_none] at hq
    obtain ⟨rfl,hno⟩:=hq
    have rx0:=rx
    simp only [RD] at rx
    obtain ⟨b,hb,rfl⟩:=rx
    obtain ⟨C',dx,eZ,hc,hH,hk,hr⟩:=S1.obj i b _ hb hM
    rw [hC] at hc;cases hc
    refine ⟨b,dx,eZ,rfl,hH,(nA hk hr).2 hno,σD,M1,F1,ρ1,S1,r1,?_⟩
    cases hx:bX Φ es σD M1 with
    | exc c M2=>rw [hx] at h1;exact h1
    | bad=>rw [hx] at h1;exact h1
    | ok ds M2 =>
     rw [hx] at h1
     simp only [R.af] at h1
     intro F2 ρ2 H2 vs e2 S2 q2
     exact ⟨by rw [List.length_cons,<- ai.length q2];exact hn hx,.ref i::ds,M2,F2,ρ2,S2,ai.cons (RD.mono e2 _ _ rx0) q2,ah.weak e2 h1⟩
   ·exact h1.elim
  ·exact h1.elim
 ·exact h1.elim
noncomputable def spI (B:Bd) (Φ:aL) (f n:Nat):Sp:=fun vs H Q E=>vs.length=n/\∃ ds M F ρ,SR B F ρ M H/\ai B F ρ H ds vs/\Post B (Φ.ini f ds M) F ρ H Q E
theorem SR.own (S:SR B F ρ M H) {p:Addr} (h:H p=none) (o:HO):SR B F ρ M (upd H p o)/\Ext F ρ H F ρ (upd H p o):=by
 obtain ⟨np,nf⟩:=S.new h
 exact ⟨S.side np nf o,⟨⟨S.sep,fun a q=>q,fun a q _=>aj (by rintro rfl;exact q h),List.prefix_refl _,fun a q=>.inl q,fun a q=>.inl q⟩,fun b w u q=>by rw [aj (by rintro rfl;rw [h] at q;cases q)];exact q⟩⟩
theorem sY {c i n:Nat} {es:Es} {C:Addr} (hC:B.cls c=some C) (hn:∀ {σ:Sg} {M:MH} {ds:List D} {M':MH},bX Φ es σ M=.ok ds M'->ds.length+1=n) (h:T B Φ E (.new c i es) σ H Q) :
  qD C (spI B Φ i n) E.e (TL B Φ E es) σ H Q:=by
 obtain ⟨σD,M,F,ρ,S,r,h⟩:=h
 simp only [ev] at h
 refine ⟨σD,M,F,ρ,S,r,?_⟩
 cases hx:bX Φ es σD M with
 | exc c M1=>rw [hx] at h;exact h
 | bad=>rw [hx] at h;exact h
 | ok ds M1 =>
  rw [hx] at h
  simp only [R.af] at h
  intro F1 ρ1 H1 vs e1 S1 q1 x dx hx0 hdx hne
  obtain ⟨S2,e2⟩:=S1.own hdx (.own x)
  have hx2:upd H1 dx (.own x) x=none:=by rw [aj (Ne.symm hne)];exact hx0
  obtain ⟨S3,e3⟩:=S2.lv (o:=.ins C dx []) (u:=.ins c []) hx2 ⟨C,dx,[],hC,ay,rfl,ai.nil⟩
  have at_:(ρ1++[x])[M1.length]? = some x:=by rw [<- S1.len,List.getElem?_append_right (Nat.le_refl _),Nat.sub_self];rfl
  have e23:=e2.trans e3
  refine ⟨by rw [List.length_cons,<- ai.length q1];exact hn hx,.ref M1.length::ds,M1++[.ins c []],F1,ρ1++[x],S3,ai.cons (by simp only [RD];exact ⟨x,at_,rfl⟩) (ai.mono e23 _ _ q1),?_⟩
  refine ah.imp (ah.bind (rel:=RD B) (ah.weak (e1.trans e23) h)) fun v H' ⟨d,M',F',ρ',ext,S',rd,h2⟩=>?_
  split at h2
  ·simp only [RD] at rd
   exact ⟨rd,ah.run h2 S' (by simp only [RD];exact ⟨x,ext.at at_,rfl⟩)⟩
  ·exact h2.elim
theorem oN {c i:Nat} {es:Es} (hb:∀ ds M,Φ.ini i ds M=.bad) (h:T B Φ E (.new c i es) σ H Q):TL B Φ E es σ H fun _ _=>False:=by
 obtain ⟨σD,M,F,ρ,S,r,h⟩:=h
 simp only [ev] at h
 refine ⟨σD,M,F,ρ,S,r,?_⟩
 cases hx:bX Φ es σD M with
 | exc c M1=>rw [hx] at h;exact h
 | bad=>rw [hx] at h;exact h
 | ok ds M1 =>
  rw [hx] at h
  simp only [R.af,hb,R.fZ] at h
  exact h.elim
theorem Bq {a b:Fg.E} (h:T B Φ E (.mx true a b) σ H Q):DI (fun xs H Q=>∃ i j,xs=[.int i,.int j]/\Q (.int (if j > i then j else i)) H) (dc (T B Φ E a) (dc (T B Φ E b) iR)) σ H Q:=by
 obtain ⟨σD,M,F,ρ,S,r,h⟩:=h
 simp only [ev] at h
 refine T.two S r rfl h fun x y M2 F2 ρ2 H2 v w S2 _ rx ry h2=>?_
 split at h2
 ·rename_i i j
  simp only [RD] at rx ry
  subst rx ry
  exact ⟨i,j,rfl,ah.run h2 S2 (by simp only [RD,if_true])⟩
 ·exact h2.elim
theorem Bp {a b:Fg.E} (h:T B Φ E (.mx false a b) σ H Q):DI (fun xs H Q=>∃ i j,xs=[.int i,.int j]/\Q (.int (if j<i then j else i)) H) (dc (T B Φ E a) (dc (T B Φ E b) iR)) σ H Q:=by
 obtain ⟨σD,M,F,ρ,S,r,h⟩:=h
 simp only [ev] at h
 refine T.two S r rfl h fun x y M2 F2 ρ2 H2 v w S2 _ rx ry h2=>?_
 split at h2
 ·rename_i i j
  simp only [RD] at rx ry
  subst rx ry
  exact ⟨i,j,rfl,ah.run h2 S2 (by simp only [RD,Bool.false_eq_true,if_false])⟩
 ·exact h2.elim
end
section
variable {X:Cx} {cm:Bool} {Ex:XS} {k:Nat} {f C:Addr} {fd:FuncData} {ps:List Str} {sp:Sp} {x m:Str} {p pos apos:Pos} {e o:Expr} {es:List Expr} {ta:TE} {t:TA}
theorem xW {pl:Sem Bool} (he:PE X o ta) (c:wC X.K C) (hm:Meth X.K C m f) (F:aZ true X.prog X.w X.K X.mg X.base (eB X.prog X.w) k f fd ps sp) (hr:bG true k X.A) (hb:Binds X.K fd ps []) (hx:∀ e s,gY X Ex e s->X.xe e s) (ha:PA X (e::es) t)
  (hst:starEach (e::es) X.env=(false,eval e X.env)::starEach es X.env) (hpl:(backTo pos (starEach es X.env)).any (·.1)=false)
  (ht:eval (.Call (.Attribute o m apos) (e::es) [] pos) X.env=(do
   let ov <- eval o X.env
   standAt apos.atName
   let (f,first) <- holding [ov] (getMethod ov m pl)
   callWith pos f first (backTo pos (starEach (e::es) X.env)) (backToKw pos (keywordEach [] X.env)))) :
  PE X (.Call (.Attribute o m apos) (e::es) [] pos) (qC C m sp Ex ta t):=by
 intro pins s σ H Q I h
 refine PySem.W.methodCall_KW (pl:=pl) (aS (he pins s σ H _ I h) fun u s1 ⟨x,H1,I1,rx,a,dx,fs,ex,ea,l,q⟩=>?_) ht
 subst ex
 obtain rfl:u=Value.ref a:=rx
 refine kH I1 ea c hm l ?_
 refine PySem.W.callWith_K (first:=[.ref a]) (h₀:=X.base) I.ok.mod.yK hm.kp (aS (ha pos pins s1 σ H1 _ I1 q) fun us s2 ⟨vs,H2,I2,r,q2⟩=>⟨I2.fF,?_⟩) hst hpl
 exact xD (us:=.ref a::us) (vs:=.ref a::vs) F hr (fun z=>nomatch z) hb hx I2 (.cons rfl r) q2
theorem vB {pl:Sem Bool} (he:PE X o ta) (c:wC X.K C) (hm:Meth X.K C m f) (F:aZ true X.prog X.w X.K X.mg X.base (eB X.prog X.w) k f fd ps sp) (hr:bG true k X.A) (hb:Binds X.K fd ps []) (hx:∀ e s,gY X Ex e s->X.xe e s)
  (ht:eval (.Call (.Attribute o m apos) [] [] pos) X.env=(do
   let ov <- eval o X.env
   standAt apos.atName
   let (f,first) <- holding [ov] (getMethod ov m pl)
   callWith pos f first (backTo pos (starEach [] X.env)) (backToKw pos (keywordEach [] X.env)))) :
  PE X (.Call (.Attribute o m apos) [] [] pos) (qC C m sp Ex ta iR):=by
 intro pins s σ H Q I h
 refine PySem.W.methodCall_KW (pl:=pl) (aS (he pins s σ H _ I h) fun u s1 ⟨x,H1,I1,rx,a,dx,fs,ex,ea,l,q⟩=>?_) ht
 subst ex
 obtain rfl:u=Value.ref a:=rx
 refine kH I1 ea c hm l ?_
 exact PySem.W.callWith_K0 (first:=[.ref a]) I1.fF hm.kp (xD (us:=[.ref a]) (vs:=[.ref a]) F hr (fun z=>nomatch z) hb hx I1 (.cons rfl .nil) q)
theorem lJ {pins:List (Addr×Obj)} {σ:L2.St} {H:Hp} {s:Shared} {Q:VK} {us:List Value} {vs:List V} (M:Mk X.K C f) (F:aZ true X.prog X.w X.K X.mg X.base (eB X.prog X.w) k f fd ps sp) (hr:bG true (k+1) X.A) (hb:Binds X.K fd ps [])
  (hx:∀ e s,gY X Ex e s->X.xe e s) (I:Inv X pins σ H s) (r:Vals vs us)
  (h:∀ x dx,H x=none->H dx=none->dx≠x->sp (.ref x::vs) (upd (upd H dx (.own x)) x (.ins C dx [])) (fun v H2=>v=.ao/\Q (.ref x) H2) fun cv y H'=>Ex cv y σ H') :
  wpAny (model X.prog X.w) X.A (call (.ref C) us) (EP X pins σ Q) X.xe s:=by
 have hq:=h (s.heap.objs.size+1) s.heap.objs.size (I.hok.fresh (Nat.le_succ _)) (I.hok.fresh (Nat.le_refl _)) (Nat.ne_of_lt (Nat.lt_succ_self _))
 have I2:=Inv.made (C:=C) I
 have r2:Vals (V.ref (s.heap.objs.size+1)::vs) (Value.ref (s.heap.objs.size+1)::us):=.cons rfl r
 have hl:((Value.ref (s.heap.objs.size+1)::us)++[]).length=ps.length:=by
  rw [List.append_nil,<- r2.length];exact F.len _ _ _ _ hq
 have bd:=hb _ (Value.ref (s.heap.objs.size+1)::us) I2.fF hl
 rw [List.append_nil] at bd
 refine wpAny_call (yt (f:=f) I.fF M.makes M.init (beq_iff_eq.mp M.fn) (codeAny_mono (F.run _ X.stack _ _ ⟨Value.ref (s.heap.objs.size+1)::us,[]⟩ (Value.ref (s.heap.objs.size+1)::us) _ _ _ (hr.make C us []) (fun z=>nomatch z)
  (I2.jH.make C us []) bd r2 hq) fun r s' hq'=>?_))
 match r,hq' with
 | .error e,hq'=>exact passes hx pins σ _ _ e s' I2 hq'
 | .ok (.ret u),hq' =>
  obtain ⟨v,H',I3,rv,ev,q3⟩:=I2.after hq'
  subst ev
  exact ⟨rv,⟨V.ref (s.heap.objs.size+1),H',I3,rfl,q3⟩⟩
 | .ok .next,hq'=>exact hq'.elim
 | .ok .brk,hq'=>exact hq'.elim
 | .ok .cont,hq'=>exact hq'.elim
theorem xY (M:Mk X.K C f) (F:aZ true X.prog X.w X.K X.mg X.base (eB X.prog X.w) k f fd ps sp) (hr:bG true (k+1) X.A) (hg:Gl X x) (hm:X.mg x=some (.ref C)) (hb:Binds X.K fd ps []) (hx:∀ e s,gY X Ex e s->X.xe e s)
  (ha:PA X (e::es) t) (hdb:(x == ("__debug__" : Str))=false) (he:starEach (e::es) X.env=(false, eval e X.env)::starEach es X.env) (hpl:(backTo pos (starEach es X.env)).any (·.1)=false) :
  PE X (.Call (.Name x p) (e::es) [] pos) (qD C sp Ex t):=by
 intro pins s σ H Q I h
 refine wpAny_Call_Name_kw (cJ I hg hm ?_ hdb)
 refine PySem.W.callWith_K (h₀:=X.base) I.ok.mod.yK M.kp (aS (ha pos pins s σ H _ I h) fun us s1 ⟨vs,H1,I1,r,q⟩=>⟨I1.fF,?_⟩) he hpl
 exact lJ M F hr hb hx I1 r q
theorem vC (M:Mk X.K C f) (F:aZ true X.prog X.w X.K X.mg X.base (eB X.prog X.w) k f fd ps sp) (hr:bG true (k+1) X.A) (hg:Gl X x) (hm:X.mg x=some (.ref C)) (hb:Binds X.K fd ps []) (hx:∀ e s, gY X Ex e s->X.xe e s) (hdb:(x == ("__debug__" : Str))=false) :
  PE X (.Call (.Name x p) [] [] pos) (qD C sp Ex iR):=by
 intro pins s σ H Q I h
 refine wpAny_Call_Name_kw (cJ I hg hm ?_ hdb)
 exact PySem.W.callWith_K0 I.fF M.kp (lJ (us:=[]) M F hr hb hx I .nil h)
theorem xX {f:Addr} (M:Mk X.K C f) (hg:Gl X x) (hm:X.mg x=some (.ref C)) (ha:PA X (e::es) t) (hdb:(x == ("__debug__" : Str))=false) (he:starEach (e::es) X.env=(false, eval e X.env)::starEach es X.env) (hpl:(backTo pos (starEach es X.env)).any (·.1)=false) :
  PE X (.Call (.Name x p) (e::es) [] pos) (fun σ H _=>t σ H fun _ _=>False):=by
 intro pins s σ H Q I h
 refine wpAny_Call_Name_kw (cJ I hg hm ?_ hdb)
 exact PySem.W.callWith_K (h₀:=X.base) I.ok.mod.yK M.kp (aS (ha pos pins s σ H _ I h) fun us s1 ⟨vs,H1,I1,r,q⟩=>q.elim) he hpl
end
end Fg
end
section
namespace Fg
open PySem PySem.Spec PySem.W PySem.Builtin.ObjectAttr PySem.Builtin.Getset_descriptor PySem.Builtin L2
structure Ax (K:Frag) (C:Addr):Prop where
 ga:findIn K (.ref C) "__getattribute__" = some (some (.builtin "BaseException.__getattribute__"))
 gt:findIn K (.ref C) "__getattr__" = some none
 cl:findIn K (.ref C) "__class__" = some (some (.builtin "object.__class__"))
 sp:specialIn K (.builtin "object.__class__") "__get__" = some (some (.builtin "getset_descriptor.__get__"))
 tk:takesIn K (.builtin "object.__class__")=some true
 mo:mroIn K C (.type "object")=some true
 mb:mroIn K C (.type "BaseException")=some true
 ty:(clsIn K C).isSome=true
section
variable {prog:Program} {w:World} {A:Around} {E:Value->Shared->Prop} {h:Heap} {g:Array GenState} {d:Drawn} {t:Nat} {os:OsState} {K:Frag} {a C:Addr} {o:Obj}
theorem ou {M:Model} (hx:h.get? a=some o) (hc:o.cls=.ref C):Looks M h (typeOf (.ref a)) (.ref C):=hc ▸ (Looks.ld hx).andThen .now
theorem EW {R:Result->Shared->Prop} {tp:Value} (Z:Ax K C) (X:K.In h) (hx:h.get? a=some o) (hc:o.cls=.ref C) (hq:R (.ok (.ret (.ref C))) ⟨h,g,d,t,os⟩) :
  codeAny (model prog w) A (.call (.builtin "getset_descriptor.__get__") ⟨[.builtin "object.__class__", .ref a, tp], []⟩) R ⟨h, g, d, t, os⟩:=by
 have L0:=ou (M:=model prog w) hx hc
 have L1:=looks_mroIn (M:=model prog w) X Z.mo
 refine codeAny_call_builtin KF.slot_gs.plain KF.entry_gs (KF.slot_gs.check _ _ _ _ _ _ _ _ KF.type_class (KF.args_gs _ _ _) ?_)
 unfold Builtin.«getset_descriptor.__get__» descrGet
 rw [dga_obj]
 refine wpAny_bind (wpAny_pure ?_)
 unfold descrGetter descrCheckInstance descrNameAndClass isInstance
 simp only [KF.owner_class]
 repeat lk
 refine ⟨Code.quiet_builtin _ (by decide +kernel),codeAny_builtin KF.entry_class ?_⟩
 unfold Builtin.«object.__class__» shownTypeOf
 repeat lk
 exact hq
theorem AM {M:Model} (Z:Ax K C) (X:K.In h) (hx:h.get? a=some o) (hc:o.cls=.ref C):Looks M h (find (.ref a) (.ref C) "__class__") (.bind (.builtin "getset_descriptor.__get__") (.builtin "object.__class__")):=by
 have L1:=looks_findIn (M:=M) X Z.cl
 have L2:Looks M h (getOf (some (.builtin "object.__class__"))) (some (.builtin "getset_descriptor.__get__")):=looks_specialIn X Z.sp
 have L3:=looks_takesIn (M:=M) X Z.tk
 refine L1.andThen (L2.andThen ?_)
 exact (show Looks M h (dataDescriptor? (some (.builtin "object.__class__")) (some (.builtin "getset_descriptor.__get__"))) (some (.builtin "getset_descriptor.__get__", .builtin "object.__class__")) from L3.andThen .now).andThen (Looks.tag .now)
theorem wQ {M:Model} {nameV:Value} {Q:Unit->Shared->Prop} (Z:Ax K C) (X:K.In h) (hx:h.get? a=some o) (hc:o.cls=.ref C) (hq:Q () ⟨h,g,d,t,os⟩) :
  wpAny M A (checkBuiltinCall "BaseException.__getattribute__" ⟨[.ref a, nameV], []⟩) Q E ⟨h, g, d, t, os⟩:=by
 have hk:builtinKind "BaseException.__getattribute__" = some .slot:=by decide +kernel
 have hsplit:splitId "BaseException.__getattribute__" = some ("BaseException", "__getattribute__"):=by decide +kernel
 have L0:=ou (M:=M) hx hc
 have L1:=looks_mroIn (M:=M) X Z.mb
 have ha:=F.args_bexc_ga (.ref a) nameV
 simp only [checkBuiltinCall,hk,hsplit]
 refine wpAny_bind ?_
 ·unfold isInstance
  refine wpAny_bind (L0.at (L1.at ?_))
  repeat (any_goals (first | assumption | wp_step))
theorem wO {tk:Tok} {Q:Fin->Shared->Prop} (Z:Ax K C) (X:K.In h) (hx:h.get? a=some o) (hc:o.cls=.ref C) (hq:Q (.done (.ret (.ref C))) ⟨h,g,d,t,os⟩) :
  wpAny (model prog w) A (Builtin.«object.__getattribute__» ⟨[.ref a, .str "__class__" tk], []⟩) Q E ⟨h, g, d, t, os⟩:=by
 have L0:=ou (M:=model prog w) hx hc
 have L1:=AM (M:=model prog w) Z X hx hc
 unfold Builtin.«object.__getattribute__»
 repeat (any_goals (first | assumption | with_reducible refine wpAny_bind (L0.at ?_) | with_reducible refine wpAny_bind (L1.at ?_) | wp_step))
 refine EW Z X hx hc ?_
 repeat (any_goals (first | assumption | wp_step))
theorem Jr {tk:Tok} {fill expr:Bool} {Q:Value->Shared->Prop} (Z:Ax K C) (X:K.In h) (hx:h.get? a=some o) (hc:o.cls=.ref C) (hq:Q (.ref C) ⟨h,g,d,t,os⟩) :
  wpAny (model prog w) A (getAttrBy (.ref a) (.str "__class__" tk) fill expr) Q E ⟨h, g, d, t, os⟩:=by
 have FB:=PySem.F.excAttr_ValueError
 have f3:=FB.ga.bind (.ref a)
 have L0:=ou (M:=model prog w) hx hc
 have L1:=looks_findIn (M:=model prog w) X Z.ga
 have L2:=looks_findIn (M:=model prog w) X Z.gt
 have hx0:(expr&&onTheHeap (Value.builtin "BaseException.__getattribute__"))=false:=by cases expr <;> rfl
 have hx2:(Value.builtin "BaseException.__getattribute__" == Value.builtin "object.__getattribute__")=false:=by decide +kernel
 have hx1:(onTheHeap (Value.ref C)&&Value.builtin "BaseException.__getattribute__" == Value.builtin "object.__getattribute__")=false:=by rw [hx2];rfl
 repeat (any_goals (first | assumption | with_reducible refine wpAny_bind (L0.at ?_) | with_reducible refine wpAny_bind (L1.at ?_) | with_reducible refine wpAny_bind (L2.at ?_) | wp_step))
 refine codeAny_call_builtin FB.ga.plain F.entry_bexc_ga (wQ Z X hx hc (wO Z X hx hc ?_))
 repeat (any_goals (first | assumption | wp_step))
theorem G2 (Z:Ax K C):KitX K (.ref a) (.ref C) (IP a C) where
 ty:=fun _ _ _ ⟨_,hx,hc⟩=>ou hx hc
 it:=fun _ _ X _=>by
  have z:=Z.ty
  unfold clsIn at z
  split at z
  ·rename_i ho
   intro A' Q' E' s' k q
   unfold isType loadHead
   exact wpAny_bind (wpAny_loadPart (k _ _ (X _ _ ho)) (wpAny_pure q))
  ·cases z
 ne:=fun h tp dd its n sl X htp=>by
  have z:=Z.ty
  refine Bool.eq_false_iff.mpr fun q=>?_
  have e:C=tp:=Value.ref.inj (beq_iff_eq.mp q)
  subst e
  unfold clsIn at z
  split at z
  ·rename_i ho
   cases (X _ _ ho).symm.trans htp
  ·cases z
 ca:=fun {prog w A E Q s} X ⟨o,hx,hc⟩ k=>by
  obtain ⟨h,g,d,t,os⟩:=s
  unfold getAttr? getAttrBy?
  exact wpAny_bind (wpAny_mkText (wpAny_bind (wpAny_attempt (Jr Z X hx hc (wpAny_pure k)))))
end
noncomputable def Ka (K:Frag) (v:V):List V->Hp->VK->Prop:=fun xs H Q=>∃ a C c b,xs=[.ref a,v]/\(∃ oe,H a=some (.dF oe (.ext (IP a C))))/\Ax K C/\(∀ u,RelV v u->u=c)/\kitOne K (.ref C) c=some b/\Q (.bl b) H
theorem qo {X:Cx} {v:V}:b6 X (.builtin "isinstance") (Ka X.K v):=by
 intro pins s σ H xs us Q I r h
 obtain ⟨a,C,c,b,rfl,⟨oe,hH⟩,Z,hv,k,q⟩:=h
 cases r with
 | cons rx r=>cases r with
  | cons rt r =>
   cases r
   cases (show _=Value.ref a from rx)
   cases hv _ rt
   obtain ⟨_,xo,_⟩:=(show aO X.prog X.w H s.heap a (.dF oe (.ext (IP a C))) from I.hok a _ hH)
   exact kia_one (G2 Z) I.fF xo k (fun z=>nomatch z) fun tk=>⟨.bl b,H,I.tok _,rfl,q⟩
section
variable {B:Bd} {Φ:aL} {E:Gx} {σ:L2.St} {H:Hp} {Q:VK}
theorem tu {a:Fg.E} {c:Option Nat} {v:V} {cv:Value} (hv:∀ u,RelV v u->u=cv) (hk:∀ d D,B.AD d=some D->Ax B.K D/\kitOne B.K (.ref D) cv=some (match c with | some c=>Φ.sub d c | none=>true)) (h:T B Φ E (.jh a c) σ H Q) :
  DI (Ka B.K v) (dc (T B Φ E a) (dc (tC v) iR)) σ H Q:=by
 obtain ⟨σD,M,F,ρ,S,r,h⟩:=h
 simp only [ev] at h
 refine T.one S r rfl h fun x M1 F1 ρ1 H1 v' e1 S1 r1 rx h1=>?_
 split at h1
 ·rename_i d
  simp only [RD] at rx
  obtain ⟨p,D,oe,rfl,h2,h3,h4⟩:=rx
  obtain ⟨z,k⟩:=hk d D h2
  exact ⟨p,D,cv,_,rfl,⟨oe,h4⟩,z,hv,k,ah.run h1 S1 (by rfl)⟩
 ·exact h1.elim
end
end Fg
end
section
namespace Fg
open PySem L2
theorem u7 {prog:Program} {w:World} {A:Around} {E:Value->Shared->Prop} {s:Shared} {it l:Addr} {i:Nat} {items:Array Value} {Q:Option Value->Shared->Prop} (hq:Qt A s.heap it)
  (hit:s.heap.IsTupleIter it l i) (hl:s.heap.IsTuple l items) (hx:items[i]? = none)
  (hQ:∀ h',Heap.ExtBut it s.heap h'->Q none { s with heap:=h' }):wpAny (model prog w) A (pyNext (.ref it)) Q E s:=by
 obtain ⟨o,ho,hc,hd⟩:=id hit
 obtain ⟨ol,hol,_,nl,hdl⟩:=hl
 unfold pyNext
 refine wpAny_bind (wpAny_attempt (wpAny_callSpecial?_slot (name:=Str.ofString "__next__") hit.typeIs F.slot_tuple_iterator_next (wpAny_call_entry F.slot_tuple_iterator_next hit.typeIs F.entry_tuple_iterator_next ?_ (F.args_tuple_iterator_next_1 _))))
 show wpAny _ _ (field (.ref it) 0 >>= _) _ _ s
 refine wpAny_bind (wpAny_field ho hd (x:=.ref l) rfl ?_)
 show wpAny _ _ (if (Value.ref l == Value.none)=true then _ else _) _ _ s
 rw [if_neg (show ¬ (Value.ref l == Value.none)=true from fun z=>nomatch (show false=true from z))]
 show wpAny _ _ (field (.ref it) 1 >>= _) _ _ s
 refine wpAny_bind (wpAny_field ho hd (x:=.int i 0) rfl ?_)
 show wpAny _ _ (seqItems? (.ref l) >>= _) _ _ s
 refine wpAny_bind (wpAny_seqItems hol hdl ?_)
 simp only [Int.toNat_natCast,hx]
 refine wpAny_bind (wpAny_rule (wpAny_bind (wpAny_setField ho hd (by simp) ?_)))
 show wpAny _ _ (newExc (.type "StopIteration") [] >>= _) _ _ _
 refine wpAny_bind ?_
 simp only [newExc,newTuple]
 refine wpAny_bind (wpAny_newObj_type (wpAny_bind (m:=firstArgMember _ _) (wpAny_of_eq (a:=Value.none) (by first | rfl | (simp only [firstArgMember];rfl)) (wpAny_newObj_type ?_ (by size_fits)))) (by size_fits))
 have le:∀ (f:Obj->Obj) (o:Obj),s.heap.objs.size<=((s.heap.update it f).push o).objs.size:=fun f o=>by rw [Heap.size_push,Heap.size_update];exact Nat.le_succ _
 refine pe (it:=it) (cl:=.type "StopIteration") (hq.imp id fun ⟨a, oa, vs, hh, ha, r, v2, ne⟩=>⟨a, oa, vs, hh, (((Heap.SameBut.update ..).extBut.push _).push _) a oa ne ha, r, v2, ne⟩) ⟨_, _, Heap.get?_push_size _ rfl, rfl, rfl, ?_⟩ (fun b z=>?_) ?_
 ·rw [Array.size_append];exact Nat.lt_of_lt_of_le (show 2<6 by decide) (Nat.le_add_right _ _)
 ·rcases hq with hh | ⟨a,oa,vs,hh,ha,_⟩
  ·rw [hh] at z;cases z
  ·rw [hh] at z;cases z;exact Nat.ne_of_lt (Nat.lt_of_lt_of_le (Heap.lt_size ha) (le _ _))
 ·intro h' ⟨o',ho',hc'⟩ k
  exact wpAny_bind (wpAny_isInstance (T:="StopIteration") (b:=true) ⟨_, ho', hc'⟩ isSubtype_stop (wpAny_pure (hQ _ fun b o hb q=>k b o (Nat.ne_of_lt (Nat.lt_of_lt_of_le (Heap.lt_size q) (le _ _))) ((((Heap.SameBut.update ..).extBut.push _).push _) b o hb q))))
theorem wR {prog:Program} {w:World} {A:Around} {a I ax:Addr} {oe:Obj} {vs items:Array Value} (hh:A.handled=some (.ref a)) (hd:oe.data=.fields vs) (h2:vs[2]? = some .none) (hne:ax≠I) (hna:a≠I) :
  PySem.Walks prog w A I [I,ax,a] [I] items.size (fun i v=>items[i]? = some v) (fun i h=>h.IsTupleIter I ax i/\h.IsTuple ax items/\h.get? a=some oe) where
 sub:=fun b hb=>by rw [List.mem_singleton.mp hb];exact List.mem_cons_self
 frame:=fun _ _ _ ⟨s1,s2,s3⟩ hk=>⟨s1.at fun o=>hk I (by simp) o,s2.at fun o=>hk ax (by simp) o,hk a (by simp) oe s3⟩
 item:=fun i s Q E hi ⟨s1,s2,s3⟩ hQ=>wpAny_pyNext_tuple_item s1 s2 (x:=items[i]) (by simp [hi]) fun h' it' sb=>hQ _ h' s.toks (by simp [hi]) ⟨it',s2.extBut sb.extBut hne,sb.extBut a oe hna s3⟩ fun b o hb=>sb.extBut b o fun z=>hb (z ▸ List.mem_cons_self)
 done:=fun s Q E ⟨s1,s2,s3⟩ hQ=>u7 (.inr ⟨a,oe,vs,hh,s3,hd,h2,hna⟩) s1 s2 (by simp) fun h' eb=>hQ h' s.toks fun b o hb=>eb b o fun z=>hb (z ▸ List.mem_cons_self)
 self:=fun _ _ _ _ st hQ=>wpAny_pyIter_tupleiter st.1 hQ
theorem sA {X:Cx} (hc:HX X.A X.H₀):b6 X (.builtin "min") (fun xs H Q=>∃ i j, xs=[.int i, .int j]/\Q (.int (if j<i then j else i)) H):=by
 intro pins s σ H xs us Q I r h
 obtain ⟨i,j,rfl,q⟩:=h
 obtain ⟨u,w',rfl,⟨t,rfl⟩,⟨t',rfl⟩⟩:=vals2 r
 obtain ⟨e,oe,o,vs,h1,h2,h3,h4⟩:=hc
 have he:=(show aO X.prog X.w H s.heap e (.dF oe o) from I.hok e _ (I.base.c7 e oe o h2)).1
 have le:=Heap.lt_size he
 have hz:∀ T:Obj,(s.heap.push T).objs.size=s.heap.objs.size+1:=fun T=>Heap.size_push ..
 have hT:(s.heap.push { cls:=.type "tuple", data:=.seq #[.int i t, .int j t'] }).IsTuple s.heap.objs.size (intItems #[(i, t), (j, t')]):=⟨_, Heap.get?_push_size _ rfl, rfl, 0, by simp [intItems]⟩
 refine call_min_two (wpAny_pyIter_tuple hT ⟨_,_,[_],_,_,_,_,rfl,wR (A:=X.A.in1) (ax:=s.heap.objs.size) (items:=intItems #[(i,t),(j,t')]) h1 h3 h4 (by rw [hz];exact Nat.ne_of_lt (Nat.lt_succ_self _)) (by rw [hz];exact Nat.ne_of_lt (Nat.lt_succ_of_lt le)),⟨⟨_,Heap.get?_push_size _ rfl,rfl,rfl⟩,hT.push _,Heap.get?_push_of_some _ (Heap.get?_push_of_some _ he)⟩,fun c hc=>?_,by simp [intItems],CmpOf.ints_lt (numAt #[(i,t),(j,t')]) (fun _ _=>intItems_at),fun v h' tk hP hk=>?_⟩)
 ·show c<((s.heap.push _).push _).objs.size
  rw [Heap.size_push,hz]
  simp only [List.mem_cons,List.not_mem_nil,or_false,hz] at hc
  rcases hc with rfl | rfl | rfl
  ·exact Nat.lt_succ_self _
  ·exact Nat.lt_succ_of_lt (Nat.lt_succ_self _)
  ·exact Nat.lt_succ_of_lt (Nat.lt_succ_of_lt le)
 ·have k:∀ c o,s.heap.get? c=some o->h'.get? c=some o:=fun c o e=>hk c o (fun hm=>by
   have:=Heap.lt_size e
   rw [List.mem_singleton.mp hm,hz] at this
   exact Nat.lt_irrefl _ (Nat.lt_of_succ_lt this)) (Heap.get?_push_of_some _ (Heap.get?_push_of_some _ e))
  refine ⟨_,H,I.kept k,?_,q⟩
  by_cases hj:j<i
  ·have hv:v=.int j t':=by simpa [intItems,argBest,numAt,hj] using hP.symm
   rw [if_pos hj,hv];exact ⟨_,rfl⟩
  ·have hv:v=.int i t:=by simpa [intItems,argBest,numAt,hj] using hP.symm
   rw [if_neg hj,hv];exact ⟨_,rfl⟩
end Fg
end
section
namespace Fg
open PySem PySem.Spec L2
section
variable {B:Bd} {Φ:aL} {E:Gx} {F F' F0 F1:Addr->Prop} {ρ ρ' ρ0 ρ1:List Addr} {H H' H0 H1:Hp} {M M' M0:MH} {σD:Sg} {σ:L2.St} {Q:VK} {Dn:Ends}
end
end Fg
end
section
namespace Fg
open PySem PySem.Spec L2
section
variable {X:Cx} {B:Bd} {pins:List (Addr×Obj)} {σ:L2.St} {H H':Hp} {s:Shared}
noncomputable def DB (X:Cx):Addr->Prop:=fun a=>∀ o u,X.H₀ a≠some (.dF o u)
theorem dU (I:Inv X pins σ H s) (h:AI (DB X) H H'):Inv X pins σ H' s:=by
 rcases h with rfl | ⟨a,o,kvs,th,ha,rfl⟩
 ·exact I
 have ne:∀ b,H b=none->b≠a:=fun b q z=>by subst z;rw [ha] at q;cases q
 refine ⟨I.ok,I.os,I.bare,⟨I.base.keep,I.base.slot,fun b ob e n hx=>?_,I.base.there,fun b xs e=>?_,fun b ob u e=>?_,fun b ps e=>?_⟩,I.loc,I.cell,?_,fun x c e=>?_,fun p hp=>?_,fun b u e=>?_,I.len⟩
 ·have:=I.base.free b ob e n hx
  rw [aj (ne b this)];exact this
 ·have:=I.base.tups b xs e
  rw [aj (by rintro rfl;rw [ha] at this;cases this)];exact this
 ·have:=I.base.c7 b ob u e
  rw [aj (by rintro rfl;exact th ob u e)];exact this
 ·obtain ⟨more,q⟩:=I.base.gj b ps e
  exact ⟨more,by rw [aj (by rintro rfl;rw [ha] at q;cases q)];exact q⟩
 ·rw [aj (ne _ I.free)];exact I.free
 ·rw [aj (ne _ (I.bT x c e))];exact I.bT x c e
 ·obtain ⟨h1,h2,h3⟩:=I.pin p hp
  exact ⟨h1,by rw [aj (ne _ h2)];exact h2,h3⟩
 ·by_cases hb:b=a
  ·subst hb
   rw [ay] at e;cases e
   exact (I.hok b _ ha).2
  ·rw [aj hb] at e
   exact (I.hok b u e).stay (fun _ _ _ q=>q) (fun c q=>by rw [aj (by rintro rfl;rw [ha] at q;cases q)];exact q) fun c xs q=>by rw [aj (by rintro rfl;rw [ha] at q;cases q)];exact q
theorem BY {e:Expr} {t:TE} (h:PE X e t):PE X e (fun σ H Q=>t σ H fun v H'=>∃ sI,AI (DB X) H' sI/\Q v sI):=by
 intro pins s σ H Q I q
 refine aS (h pins s σ H _ I q) fun u s' ⟨v,H',I',r,sI,t',q'⟩=>⟨v,sI,dU I' t',r,q'⟩
theorem tQ {st:Stmt} {t:TS} (h:PS X st t):PS X st (fun D σ H=>t (thE (DB X) D) σ H):=by
 intro pins s σ H D I q
 refine aS (h pins s σ H _ I q) fun f s' q'=>?_
 cases f with
 | next=>obtain ⟨σ',H',I',sI,t',q'⟩:=q';exact ⟨σ',sI,dU I' t',q'⟩
 | brk=>obtain ⟨σ',H',I',sI,t',q'⟩:=q';exact ⟨σ',sI,dU I' t',q'⟩
 | cont=>obtain ⟨σ',H',I',sI,t',q'⟩:=q';exact ⟨σ',sI,dU I' t',q'⟩
 | ret u=>obtain ⟨v,σ',H',I',r,sI,t',q'⟩:=q';exact ⟨v,σ',sI,dU I' t',r,q'⟩
theorem Cw {k:Key} {u:Value} (h:ku k u=true):RelV (kV k) u:=by
 rcases aK h with ⟨i,t,rfl,rfl⟩ | ⟨x,t,rfl,rfl⟩
 ·exact ⟨t,rfl⟩
 ·exact ⟨t,rfl⟩
theorem G1 {kvs:List (Key×V)} {vs:List (Key×Value)} (h:KV kvs vs) {i:Nat} {kv:Key×V} (e:kvs[i]? = some kv):∃ w,vs[i]? = some (kv.1,w):=by
 induction h generalizing i with
 | nil=>simp at e
 | @cons p q ps qs hpq _ ih =>
  cases i with
  | zero =>
   simp only [List.getElem?_cons_zero,Option.some.injEq] at e ⊢
   subst e
   exact ⟨q.2,by rw [hpq.1]⟩
  | succ i=>simpa using ih (by simpa using e)
noncomputable def epO (o:Obj) (n:Nat):Prop:=∃ es,o.data=.dict es n
theorem u6 {P:Program} {w:World} {K:PySem.W.Frag} {tg:Expr} (a it:Addr) (o:Obj) (kvs:List (Key×V)) (ep:Nat) (he:epO o ep):Turn false P w K tg (Mc a o kvs) [it] it (fun i h=>h.IsKeyIter it a i kvs.length ep) where
 mem:=by simp
 obj:=fun i h st b hb=>by
  have e:b=it:=by simpa using hb
  subst e
  obtain ⟨o,e,c,d⟩:=st
  exact ⟨o,e,fun v z=>by rw [d] at z;cases z⟩
 keep:=fun i h h' st k=>st.at fun o e=>k it (by simp) o e
 item:=by
  intro X hP hw hK hc i pins s σ H E I hf st hg
  subst hP hw hK
  obtain ⟨hH,hi⟩:=hg
  obtain ⟨ho,z,hm,vs,rel,dd⟩:=(show aO X.prog X.w H s.heap a (.dF o (.dK kvs)) from I.hok a _ hH)
  obtain ⟨o',es,LD,h1,h2,h3,h4⟩:=id dd
  rw [ho] at h1;cases h1
  obtain ⟨es',hd'⟩:=he
  rw [hd'] at h3;cases h3
  have dat:s.heap.DictAt (aI X.prog X.w) a vs ep:=⟨o,es,ho,h2,hd',h4⟩
  have hx:kvs[i]? = some kvs[i]:=List.getElem?_eq_getElem hi
  obtain ⟨wv,hv⟩:=G1 rel hx
  obtain ⟨f0,f1,f2,f3,f4,f5⟩:=hf it (by simp)
  have hl:kvs.length=vs.length:=rel.length
  rw [hl] at st
  refine wpAny_pyNext_dict_item st dat hv fun key h' hk st' sb=>?_
  have I1:Inv X pins σ H { s with heap:=h' }:=I.turned (t':=s.toks) (fun b o hb e=>(sb.2 b hb).trans e) f0 f1 f3 f4 f5
  obtain ⟨oi,e,c,d⟩:=id st'
  refine ⟨key,rfl,lX (s:={ s with heap:=h' }) e c d (by decide) ⟨kV kvs[i].1,H,I1,Cw hk,⟨rfl,kvs[i],hx,rfl⟩,by rw [hl];exact st',fun b hb=>(hf b hb).1⟩⟩
 done:=by
  intro X hP hw hK hc i pins s σ H E I hf st hg
  subst hP hw hK
  obtain ⟨hH,hi⟩:=hg
  obtain ⟨ho,z,hm,vs,rel,dd⟩:=(show aO X.prog X.w H s.heap a (.dF o (.dK kvs)) from I.hok a _ hH)
  obtain ⟨o',es,LD,h1,h2,h3,h4⟩:=id dd
  rw [ho] at h1;cases h1
  obtain ⟨es',hd'⟩:=he
  rw [hd'] at h3;cases h3
  have dat:s.heap.DictAt (aI X.prog X.w) a vs ep:=⟨o,es,ho,h2,hd',h4⟩
  have hl:kvs.length=vs.length:=rel.length
  rw [hl] at st
  obtain ⟨f0,f1,f2,f3,f4,f5⟩:=hf it (by simp)
  exact wpAny_pyNext_dict_end (I.ok.hd hc) st dat (List.getElem?_eq_none_iff.mpr (by omega)) fun h' eb=>⟨rfl,I.turned (t':=s.toks) (fun b o hb e=>eb b o hb e) f0 f1 f3 f4 f5⟩
 self:=fun _ _ _ _ _ st h=>wpAny_pyIter_keyiter st h
theorem uH {tg:Expr} {R:It->Hp->Prop} {a:Addr} {o:Obj} {kvs:List (Key×V)} {E:Value->Shared->Prop} (hc:X.calm=true) (I:Inv X pins σ H s) (hH:H a=some (.dF o (.dK kvs))) (q:R (Mc a o kvs) H):wpAny (model X.prog X.w) X.A (pyIter (.ref a)) (PIE X pins σ tg R) E s:=by
 obtain ⟨ho,z,hm,vs,rel,dd⟩:=(show aO X.prog X.w H s.heap a (.dF o (.dK kvs)) from I.hok a _ hH)
 obtain ⟨o',es,ep,h1,h2,h3,h4⟩:=id dd
 rw [ho] at h1;cases h1
 have dat:s.heap.DictAt (aI X.prog X.w) a vs ep:=⟨o,es,ho,h2,h3,h4⟩
 have hl:kvs.length=vs.length:=rel.length
 refine wpAny_pyIter_dict hm dat ?_
 refine ⟨s.heap.objs.size,[s.heap.objs.size],_,_,H,rfl,I.kept (t':=s.toks) fun b o e=>Heap.get?_push_of_some _ e,⟨false,hc,u6 a _ o kvs ep ⟨es,h3⟩⟩,⟨_,Heap.get?_push_size _ rfl,rfl,by rw [hl];rfl⟩,fun b hb=>?_,q⟩
 have e:b=s.heap.objs.size:=by simpa using hb
 subst e
 exact I.pT (Nat.le_refl _) (I.hok.fresh (Nat.le_refl _))
theorem Gb {tg l:Expr} {tl:TE} (hc:X.calm=true) (hK:B.K=X.K) (hl:PE X l tl):PI X tg l (La B (DB X) tl):=by
 intro pins s σ H R I h
 refine aS (hl pins s σ H _ I h) fun v s1 ⟨x,H1,I1,r1,q1⟩=>?_
 rw [hK] at q1
 rcases q1 with ⟨a,e,⟨xs,hq⟩,q⟩ | ⟨a,e,⟨xs,hq⟩,q⟩ | ⟨a,kvs,e,hq,q⟩ | ⟨a,o,kvs,e,hq,q⟩
 ·subst e
  cases r1
  obtain ⟨its,rv,p,hz⟩:=I1.list hq
  refine wpAny_pyIter_list p.isList ?_
  refine ⟨s1.heap.objs.size,[s1.heap.objs.size],_,_,H1,rfl,I1.kept (t':=s1.toks) fun b o e=>Heap.get?_push_of_some _ e,⟨true,.inl hc,lB a _⟩,⟨_,Heap.get?_push_size _ rfl,rfl,rfl⟩,fun b hb=>?_,q⟩
  have e:b=s1.heap.objs.size:=by simpa using hb
  subst e
  exact I1.pT (Nat.le_refl _) (I1.hok.fresh (Nat.le_refl _))
 ·subst e
  cases r1
  obtain ⟨its,rv,p,hz⟩:=I1.tuple hq
  refine wpAny_pyIter_tuple (show s1.heap.IsTuple a its.toArray from p) ?_
  refine ⟨s1.heap.objs.size,[s1.heap.objs.size],_,_,H1,rfl,I1.kept (t':=s1.toks) fun b o e=>Heap.get?_push_of_some _ e,⟨false,hc,qA a _⟩,⟨_,Heap.get?_push_size _ rfl,rfl,rfl⟩,fun b hb=>?_,q⟩
  have e:b=s1.heap.objs.size:=by simpa using hb
  subst e
  exact I1.pT (Nat.le_refl _) (I1.hok.fresh (Nat.le_refl _))
 ·subst e
  cases r1
  have ob:=(show aO X.prog X.w H1 s1.heap a (.dK kvs) from I1.hok a _ hq)
  obtain ⟨z,hm,vs,rel,dd⟩:=id ob
  obtain ⟨o,es,ep,h1,h2,h3,h4⟩:=id dd
  have th:DB X a:=fun w u hz=>by
   have:=I1.base.c7 a w u hz
   rw [hq] at this;cases this
  have I2:Inv X pins σ (upd H1 a (.dF o (.dK kvs))) s1:=I1.write (x:=a) (e:=a) (t':=s1.toks) (h':=s1.heap) (by rw [hq];trivial) (.inl rfl) (fun b u _ e=>e) ⟨o,h1⟩ ⟨h1,ob⟩
  exact uH hc I2 ay (q o th)
 ·subst e
  cases r1
  exact uH hc I1 hq q
theorem BO {o i value:Expr} {to ti tv:TE} {pos pos':Pos} (hu:Rm X) (ho:PE X o to) (hi:PE X i ti) (hv:PE X value tv) (hs:swapsWith value (some (.Subscript o i pos')) pos.line X.env=pure false) :
  PS X (.Assign [.Subscript o i pos'] value pos) (DO to ti tv):=by
 intro pins s σ H D I h
 refine wpAny_Assign_Subscript (aS (hv pins s σ H _ I h) fun r s1 ⟨v,H1,I1,rv,q1⟩=>aS (ho pins s1 σ H1 _ I1 q1) fun u s2 ⟨x,H2,I2,rx,q2⟩=>aS (hi pins s2 σ H2 _ I2 q2) fun iv s3 ⟨y,H3,I3,ry,q3⟩=>?_) hs
 rcases q3 with q3 | ⟨a,H4,ex,g,q3⟩
 ·exact aS (set_list pins s3 σ H3 x y v u iv r _ I3 rx ry rv q3) fun _ s4 ⟨H4,I4,q4⟩=>⟨σ,H4,I4,q4⟩
 ·subst ex
  obtain rfl:u=Value.ref a:=rx
  exact vY (by unfold Rm at hu;omega) I3 g ry rv fun s4 I4=>⟨σ,H4,I4,q3⟩
end
end Fg
end
section
namespace Fg
open PySem PySem.Spec L2
noncomputable def TM (B:Bd) (Φ:aL) (E:Gx) (c:Es):L2.St->Hp->(Hp->Prop)->Prop:=fun σ H Q=>∃ (σD:Sg) (M:MH) (F:Addr->Prop) (ρ:List Addr),
 SR B F ρ M H/\RS B F ρ H σD σ/\ah (fun _ _ _ (_:Unit) (_:Unit)=>True) B (CU Φ c σD M) F ρ H (fun _ H'=>Q H') (fun cv x H'=>E.e cv x σ H')
section
variable {B:Bd} {Φ:aL} {E:Gx} {F F' F0 F1:Addr->Prop} {ρ ρ' ρ0 ρ1:List Addr} {H H' H0 H1:Hp} {M M' M0:MH} {σD:Sg} {σ:L2.St} {Dn:Ends}
theorem TM.nil {Q:Hp->Prop} (h:TM B Φ E .nil σ H Q):Q H:=by
 obtain ⟨σD,M,F,ρ,S,r,h⟩:=h
 simp only [CU] at h
 exact ah.run (v:=()) h S True.intro
theorem TM.cons {e:Fg.E} {es:Es} {Q:Hp->Prop} (h:TM B Φ E (.cons e es) σ H Q):T B Φ E e σ H fun v H1=>((∃ x:Str,v=.str x/\x.length<=100000)\/∃ i:Int,v=.int i/\i.natAbs<18446744073709551616)/\TM B Φ E es σ H1 Q:=by
 obtain ⟨σD,M,F,ρ,S,r,h⟩:=h
 simp only [CU] at h
 refine ⟨σD,M,F,ρ,S,r,ah.imp (ah.bind (rel:=RD B) h) fun v H1 ⟨x,M1,F1,ρ1,e1,S1,rx,h1⟩=>?_⟩
 split at h1
 ·rename_i hs
  cases x with
  | str y =>
   simp only [RD] at rx
   simp only [cB,decide_eq_true_eq] at hs
   exact ⟨.inl ⟨y,rx,hs⟩,σD,M1,F1,ρ1,S1,r.mono e1,h1⟩
  | ao=>simp [cB] at hs
  | bl _=>simp [cB] at hs
  | int i =>
   simp only [RD] at rx
   simp only [cB,decide_eq_true_eq] at hs
   exact ⟨.inr ⟨i,rx,hs⟩,σD,M1,F1,ρ1,S1,r.mono e1,h1⟩
  | _=>simp [cB] at hs
 ·exact h1.elim
end
inductive PJ (X:Cx) (B:Bd) (Φ:aL) (E:Gx):List Expr->Es->Prop
 | nil:PJ X B Φ E [] .nil
 | lit {y:Str} {j:Nat} {p:Pos} {r:List Expr} {es:Es}:y.length<=100000->PJ X B Φ E r es->PJ X B Φ E (.Constant (.str y) j p::r) es
 | fld {v:Expr} {p:Pos} {r:List Expr} {e:Fg.E} {es:Es}:PE X v (T B Φ E e)->PJ X B Φ E r es->PJ X B Φ E (.FormattedValue v (-1) none p::r) (.cons e es)
theorem lU {i:Int} (h:i.natAbs<18446744073709551616):i.natAbs.log2<1920:=by
 by_cases h0:i.natAbs=0
 ·rw [h0];decide
 ·exact Nat.lt_of_lt_of_le ((Nat.log2_lt h0).mpr (show i.natAbs<2 ^ 64 from h)) (by decide)
theorem vR {i:Int} (h:i.natAbs<18446744073709551616):(Str.ofString (toString i)).length<=100000:=by
 have e:=int_text_length_le (k:=1920) (by decide) (lU h)
 rw [ofString_length];omega
section
variable {X:Cx} {B:Bd} {Φ:aL} {E:Gx}
theorem PJ.run {ps:List Expr} {es:Es} (h:PJ X B Φ E ps es):∀ {pins:List (Addr×Obj)} {s:Shared} {σ:L2.St} {H:Hp} {Q:Hp->Prop} {out:Str},Inv X pins σ H s->out.length+100000*ps.length<=sizeLine->TM B Φ E es σ H Q ->
  wpAny (model X.prog X.w) X.A (joinParts out (evalEach ps X.env)) (EP X pins σ fun v H'=>∃ y,v=.str y/\Q H') X.xe s:=by
 induction h with
 | nil =>
  intro pins s σ H Q out I hl q
  refine PyProof.Rows.joinParts_nil ⟨.str out,H,I.tok _,⟨_,rfl⟩,out,rfl,q.nil⟩ (by simpa using hl)
 | lit hy _ ih =>
  rename_i y j p r es _
  intro pins s σ H Q out I hl q
  simp only [List.length_cons] at hl
  refine PyProof.Rows.joinParts_cons ?_
  refine aS (qV pins s σ H (fun v H'=>v=.str y/\H'=H) I ⟨rfl,rfl⟩) fun u s1 ⟨v,H1,I1,rv,e1,e2⟩=>?_
  subst e1 e2
  obtain ⟨t,rfl⟩:=rv
  have hlen:(out++y).length<=out.length+100000:=by rw [strLen_append];omega
  exact ⟨by omega,ih I1 (by omega) q⟩
 | fld hv _ ih =>
  intro pins s σ H Q out I hl q
  simp only [List.length_cons] at hl
  refine PyProof.Rows.joinParts_cons (PyProof.Rows.FormattedValue_plain ?_)
  refine aS (hv pins s σ H _ I q.cons) fun u s1 ⟨v,H1,I1,rv,e0,q1⟩=>?_
  rcases e0 with ⟨x,e1,e2⟩ | ⟨i,e1,e2⟩
  ·subst e1
   obtain ⟨t,rfl⟩:=rv
   refine PyProof.Rows.formatField_str (fun t' tk=>?_) (by omega)
   have hlen:(out++x).length<=out.length+100000:=by rw [strLen_append];omega
   exact ⟨by omega,ih (I1.tok tk) (by omega) q1⟩
  ·subst e1
   obtain ⟨t,rfl⟩:=rv
   refine PyProof.Rows.formatField_int_small (lU e2) ?_
   have hlen:(out++Str.ofString (toString i)).length<=out.length+100000:=by rw [strLen_append];have:=vR e2;omega
   exact ⟨by omega,ih (I1.tok _) (by omega) q1⟩
theorem Gh {ps:List Expr} {es:Es} {pos:Pos} (h:PJ X B Φ E ps es) (h2:2<=ps.length) (hl:ps.length<=100):PE X (.JoinedStr ps pos) (fun σ H Q=>TM B Φ E es σ H fun H'=>∀ y:Str,Q (.str y) H'):=by
 intro pins s σ H Q I q
 match ps,h2,h,hl with
 | v₁::v₂::rest,_,h,hl =>
  refine PyProof.Rows.JoinedStr_many ?_
  refine wpAny_mono (h.run (Q:=fun H'=>∀ y:Str,Q (.str y) H') I (by
   show 0+100000*(v₁::v₂::rest).length<=2 ^ 24
   omega) q) (fun u s1 ⟨v,H1,I1,rv,y,e,q1⟩=>⟨v,H1,I1,rv,by rw [e];exact q1 y⟩) fun _ _ z=>z
end
section
variable {B:Bd} {Φ:aL} {E:Gx} {F F' F0 F1:Addr->Prop} {ρ ρ' ρ0 ρ1:List Addr} {H H' H0 H1:Hp} {M M' M0:MH} {σD:Sg} {σ:L2.St} {Dn:Ends}
theorem lI {c:Nat} {es:Es} {C:Addr} (hc:B.exc c (.ref C)) (h:TC B Φ E (.raise c es) Dn σ H):TM B Φ E es σ H fun H'=>E.e (.ref C) none σ H':=by
 obtain ⟨σD,M,F,ρ,S,r,h⟩:=h
 simp only [ex] at h
 refine ⟨σD,M,F,ρ,S,r,ah.imp (aJ.use (rel:=fun _ _ _ (_:Unit) (_:Unit)=>True) r h) fun v H1 ⟨x,M1,F1,ρ1,e,S1,rx,h1⟩=>?_⟩
 exact aJ.run h1 S1 σ _ none (r.mono e) hc
theorem RS.unset (r:RS B F ρ H σD σ) (i:Nat):RS B F ρ H (σD.set i none) (σ.set i none):=by
 refine ⟨by simp [r.1],fun j d q=>?_⟩
 rw [List.getElem?_set] at q
 split at q
 ·split at q <;> cases q
 ·rename_i hj
  rw [List.getElem?_set_ne hj]
  exact r.2 j d q
theorem pD {E':Gx} {f:Sg->Sg} {g:L2.St->L2.St} (hf:∀ {F ρ H σD σ},RS B F ρ H σD σ->RS B F ρ H (f σD) (g σ)) {r:R Out} (h:aJ B (GK f r) F ρ H Dn E):aJ B r F ρ H { nx:=fun σ' H'=>Dn.nx (g σ') H',rt:=fun _ _=>False } E':=by
 cases r with
 | bad=>exact h
 | exc c M=>exact h
 | ok o M =>
  cases o with
  | nx σ1=>exact fun F1 ρ1 H1 e S σ' r=>h F1 ρ1 H1 e S _ (hf r)
  | rt d=>exact h.elim
  | bk σ1=>exact h.elim
  | ct σ1=>exact h.elim
  | xc c σ1=>exact h.elim
noncomputable def Dr (A:Around) (B:Bd) (Φ:aL) (E:Gx) (adr:Nat->Option Addr):Hs->Option (List (Addr×TX))
 | .nil=>some []
 | .cons [c] b hs=>match adr c,Dr A B Φ E adr hs with
  | some C,some r=>some ((C,fun _ D σ H=>qq B Φ E b { nx:=D.nx,rt:=fun _ _=>False } σ H)::r)
  | _,_=>none
 | .cons _ _ _=>none
 | .as c i b hs=>match adr c,Dr A B Φ E adr hs with
  | some C,some r=>some ((C,asR i fun e D σ H=>HX (A.mark (some e)) H/\qq B Φ E b D σ H)::r)
  | _,_=>none
theorem mQ {A:Around} {E':Gx} {adr:Nat->Option Addr} {mro:List Value} {c:Nat} {Cx:Addr} (hsub:∀ d D,adr d=some D->mro.contains (.ref D)=Φ.sub c d) (hx:B.AD c=some Cx):∀ {hs:Hs} {rs:List (Addr×TX)},Dr A B Φ E' adr hs=some rs->SR B F ρ M H->RS B F ρ H σD σ->aJ B (ux Φ hs c σD M) F ρ H Dn E ->
  ∃ t,pick mro rs=some t/\t Cx Dn σ H
 | .nil,rs,h,S,r,p=>by simp only [ux] at p;exact p.elim
 | .cons cs b hs,rs,h,S,r,p=>by
  unfold Dr at h
  split at h
  ·rename_i heq;cases heq
  ·rename_i c' b' hs' heq
   cases heq
   split at h
   ·rename_i C r' hC hr
    cases h
    simp only [ux,List.any_cons,List.any_nil,Bool.or_false] at p
    simp only [pick,hsub _ _ hC]
    split at p
    ·rename_i hq
     rw [if_pos hq]
     exact ⟨_,rfl,σD,M,F,ρ,S,r,pD (g:=id) (fun z=>z) p⟩
    ·rename_i hq
     rw [if_neg hq]
     exact mQ hsub hx hr S r p
   ·cases h
  ·cases h
  ·rename_i heq;cases heq
 | .as c' i b hs,rs,h,S,r,p=>by
  unfold Dr at h
  split at h
  ·rename_i C r' hC hr
   cases h
   simp only [ux] at p
   simp only [pick,hsub _ _ hC]
   split at p
   ·rename_i hq
    rw [if_pos hq]
    refine ⟨_,rfl,fun a oe vs ha hd hv=>⟨⟨a,oe,_,vs,rfl,ay,hd,hv⟩,?_⟩⟩
    obtain ⟨S',e⟩:=S.fz ha (.dF oe (.ext (IP a Cx)))
    refine ⟨_,M,_,ρ,S',(r.mono e).set (d:=.iP c) (v:=.ref a) (by simp only [RD];exact ⟨a,Cx,oe,rfl,hx,.inr rfl,ay⟩) i,pD (g:=fun σ=>σ.set i none) (fun z=>z.unset i) (aJ.weak e p)⟩
   ·rename_i hq
    rw [if_neg hq]
    exact mQ hsub hx hr S r p
  ·cases h
end
end Fg
end
section
namespace Fg
open PySem PySem.Spec L2
noncomputable def IW (l:Bool) (h:Heap) (it a:Addr) (k:Nat):Prop:=match l with | true=>h.IsListIter it a k | false=>h.IsTupleIter it a k
noncomputable def Dq (l:Bool) (h:Heap) (a:Addr) (xs:Array Value):Prop:=match l with | true=>h.IsList a xs | false=>h.IsTuple a xs
theorem IW.at {l:Bool} {h h':Heap} {it a:Addr} {k:Nat} (x:IW l h it a k) (e:∀ o,h.get? it=some o->h'.get? it=some o):IW l h' it a k:=by
 cases l <;> (obtain ⟨o,h1,h2⟩:=x;exact ⟨o,e o h1,h2⟩)
theorem Dq.at {l:Bool} {h h':Heap} {a:Addr} {xs:Array Value} (x:Dq l h a xs) (e:∀ o,h.get? a=some o->h'.get? a=some o):Dq l h' a xs:=by
 cases l <;> (obtain ⟨o,h1,h2⟩:=x;exact ⟨o,e o h1,h2⟩)
section
variable {prog:Program} {w:World} {A:Around} {E:Value->Shared->Prop} {s:Shared}
end
end Fg
end
section
namespace Fg
open PySem PySem.Spec L2
section
variable {X:Cx} {pins:List (Addr×Obj)} {σ:L2.St} {H:Hp} {s:Shared} {h':Heap}
theorem sO {t':Nat} {ch:List Addr} (I:Inv X pins σ H s) (f:∀ b∈ch,kT X pins H b) (k:∀ b o,b∉ch->s.heap.get? b=some o->h'.get? b=some o):Inv X pins σ H { s with heap:=h',toks:=t' }:=by
 have off:∀ b u,H b=some u->b∉ch:=fun b u e z=>by rw [(f b z).1] at e;cases e
 refine I.step (g':=s.gens) (d':=s.drawn) (ch:=ch) (fun b hb=>?_) (fun b o _ _ hc e _=>k b o hc e) (fun b o _ _ hc e _=>⟨o.slots,k b o hc e⟩) (fun _ _ _ _ n=>n) (fun b o hc e=>⟨o,k b o hc e⟩) (fun _ _ e=>e) (fun _ _ _ e=>e) (fun b ps e=>⟨#[],by rw [e];simp⟩) (fun m hm=>?_) (fun b u e=>?_) I.bare
 ·obtain ⟨_,f1,_,f3,f4,f5⟩:=f b hb
  exact ⟨f3,f1,f4,f5⟩
 ·obtain ⟨o,es,ep,ho,r⟩:=hm
  exact ⟨o,es,ep,k _ o (fun z=>(f _ z).2.1 rfl) ho,r⟩
 ·refine (I.hok b u e).stay (fun c v hc q=>k c v ?_ q) (fun _ q=>q) fun _ _ q=>q
  rcases hc with z | z
  ·rw [z];exact off b u e
  ·exact off c _ z
end
section
variable {prog:Program} {w:World} {A:Around} {E:Value->Shared->Prop} {s:Shared}
end
noncomputable def SqB (l:Bool) (K:W.Frag) (H:Hp) (a:Addr) (xs:List V):Prop:=match l with | true=>fq K H a xs | false=>gE K H a xs
theorem SqB.at {l:Bool} {X:Cx} {pins:List (Addr×Obj)} {σ:L2.St} {H:Hp} {s:Shared} {a:Addr} {xs:List V} (I:Inv X pins σ H s) (q:SqB l X.K H a xs):∃ its:List Value,Vals xs its/\Dq l s.heap a its.toArray:=by
 cases l with
 | true=>obtain ⟨its,rv,p,_⟩:=I.list q;exact ⟨its,rv,p.isList⟩
 | false=>obtain ⟨its,rv,p,_⟩:=I.tuple q;exact ⟨its,rv,p⟩
section
variable {B:Bd} {Φ:aL} {E:Gx} {F F' F0 F1:Addr->Prop} {ρ ρ' ρ0 ρ1:List Addr} {H H' H0 H1:Hp} {M M' M0:MH} {σD:Sg} {σ:L2.St} {Q:VK} {Dn:Ends}
end
end Fg
end
section
namespace Fg
open PySem PySem.Spec L2
theorem mT:Slot "reversed" "__init__" "object.__init__" :=
 .of (owner:="object") (n:="__init__") (by rw [typeLookup_type, builtinLookup_eq_fast];kernel_rfl) (by decide +kernel) (by decide +kernel) (by decide +kernel)
  (by first | exact .inl (by decide +kernel) | exact .inr (by decide +kernel)) (by rw [isSubtype_type];kernel_rfl)
theorem bQ:Slot "reversed" "__next__" "reversed.__next__" :=
 .of (owner:="reversed") (n:="__next__") (by rw [typeLookup_type, builtinLookup_eq_fast];kernel_rfl) (by decide +kernel) (by decide +kernel) (by decide +kernel)
  (by first | exact .inl (by decide +kernel) | exact .inr (by decide +kernel)) (by rw [isSubtype_type];kernel_rfl)
theorem g8:Slot "reversed" "__iter__" "reversed.__iter__" :=
 .of (owner:="reversed") (n:="__iter__") (by rw [typeLookup_type, builtinLookup_eq_fast];kernel_rfl) (by decide +kernel) (by decide +kernel) (by decide +kernel)
  (by first | exact .inl (by decide +kernel) | exact .inr (by decide +kernel)) (by rw [isSubtype_type];kernel_rfl)
theorem oY:Manifest.owners.lookup (String.ofList ['d','e','s','r','e','v','e','r'].reverse)=some Manifest.sig_reversed:=by kernel_rfl
theorem g9 (a:Value):argsOk "reversed.__next__" ⟨[a], []⟩:=by
 unfold argsOk;rw [signature?_of (id:="reversed.__next__") (n:=['_', '_', 't', 'x', 'e', 'n', '_', '_']) (o:=['d', 'e', 's', 'r', 'e', 'v', 'e', 'r']) (by kernel_rfl) oY];kernel_rfl
theorem mV (a:Value):argsOk "reversed.__iter__" ⟨[a], []⟩:=by
 unfold argsOk;rw [signature?_of (id:="reversed.__iter__") (n:=['_', '_', 'r', 'e', 't', 'i', '_', '_']) (o:=['d', 'e', 's', 'r', 'e', 'v', 'e', 'r']) (by kernel_rfl) oY];kernel_rfl
theorem mW (a b:Value):argsOk "object.__init__" ⟨[a, b], []⟩:=by
 unfold argsOk;rw [signature?_of (id:="object.__init__") (n:=['_', '_', 't', 'i', 'n', 'i', '_', '_']) (o:=['t', 'c', 'e', 'j', 'b', 'o']) (by kernel_rfl) F.owner_object];kernel_rfl
theorem gw:entryFor table "reversed.__next__" = some Builtin.«reversed.__next__»:=entryFor_of_tree (by kernel_rfl)
theorem kX:entryFor table "reversed.__iter__" = some Builtin.«dict_keyiterator.__iter__» :=
 entryFor_alias (id':="dict_keyiterator.__iter__") (by kernel_rfl) (by first | rfl | decide +kernel | (unfold String.splitOn;simp +decide [String.splitOnAux])) (by decide +kernel) (by kernel_rfl)
theorem vq:TypeCalled "reversed" "reversed.__new__" "object.__init__" :=
 ⟨by decide +kernel,by decide +kernel,⟨_,_,F.mro_reversed⟩,F.made_reversed,by decide +kernel,F.sub_reversed_self,mT⟩
theorem vp:typeLookup (.type "tuple") "__reversed__" = pure none:=by rw [typeLookup_type, builtinLookup_eq_fast];kernel_rfl
theorem qN:isSubtype (.type "tuple") (.type "dict")=pure false:=by rw [isSubtype_type];kernel_rfl
noncomputable def lK (l:Addr) (i:Int):Obj:={ cls:=.type "reversed", data:=.fields #[.ref l, rawInt i] }
noncomputable def jK (h:Heap) (a l:Addr) (i:Int):Prop:=∃ o, h.get? a=some o/\o.cls=.type "reversed"/\o.data=.fields #[.ref l, rawInt i]
theorem jK.typeIs {s:Shared} {a l:Addr} {i:Int} (x:jK s.heap a l i):s.TypeIs (.ref a) "reversed":=let ⟨o, ho, hc, _⟩:=x;⟨o, ho, hc⟩
theorem jK.at {h h':Heap} {a l:Addr} {i:Int} (x:jK h a l i) (e:∀ o,h.get? a=some o->h'.get? a=some o):jK h' a l i:=let ⟨o,ho,r⟩:=x;⟨o,e _ ho,r⟩
section
variable {prog:Program} {w:World} {A:Around} {E:Value->Shared->Prop} {s:Shared}
theorem xE (l:Addr) (items:Array Value) (hfit:(items.size:Int)<2 ^ 63) :
  Meets (Builtin.«reversed.__new__» ⟨[.type "reversed", .ref l], []⟩) (fun _ R s=>s.heap.IsTuple l items /\
   R (.ok (.ret (.ref s.heap.objs.size))) { s with heap:=s.heap.push (lK l ((items.size:Int)-1)),toks:=s.toks+1+1 }) :=
 .of_wp fun prog w A R s h=>by
  obtain ⟨hl,h⟩:=h
  have hT:s.TypeIs (.ref l) "tuple":=hl.typeIs
  unfold Builtin.«reversed.__new__»
  refine wpAny_bind (wpAny_of_eq (newClass_reversed _) ?_)
  try dsimp only
  refine wpAny_bind (wpAny_of_eq (a:=()) (by first | rfl | kernel_rfl) ?_)
  refine wpAny_bind (wpAny_of_eq (a:=()) (by first | rfl | kernel_rfl) ?_)
  try dsimp only
  refine wpAny_bind (wpAny_specialOf hT vp ?_)
  try dsimp only
  refine wpAny_bind ?_
  show wpAny _ _ (isInstance (.ref l) (.type "dict") >>= _) _ _ _
  refine wpAny_bind (wpAny_isInstance hT qN ?_)
  simp only [Bool.false_eq_true,if_false]
  refine wpAny_bind (wpAny_specialOf hT F.slot_tuple_getitem.lookup ?_)
  show wpAny _ _ (if (["tuple.__getitem__", "str.__getitem__", "bytes.__getitem__", "bytearray.__getitem__", "memoryview.__getitem__", "numpy.ndarray.__getitem__", "sqlite3.Row.__getitem__"].contains "tuple.__getitem__")=true then pure true else _) _ _ _
  rw [if_pos (by decide +kernel)]
  refine wpAny_pure ?_
  simp only [Bool.not_true,Bool.false_eq_true,if_false]
  refine wpAny_bind (PyProof.Rows.len_tuple hl hfit ?_)
  refine wpAny_bind (wpAny_of_eq (a:=some (items.size:Int)) rfl ?_)
  try dsimp only
  refine wpAny_bind ?_
  unfold Builtin.SmallTypes.newRecord
  refine wpAny_newObj_type ?_ (by size_fits)
  exact wpAny_pure ⟨_,rfl,h⟩
theorem C6 {l:Addr} {items:Array Value} {Q:Value->Shared->Prop} (hl:s.heap.IsTuple l items) (hfit:(items.size:Int)<2 ^ 63)
  (h:Q (.ref s.heap.objs.size) { s with heap:=s.heap.push (lK l ((items.size:Int)-1)), toks:=s.toks+1+1 }):wpAny (model prog w) A (call (.type "reversed") [.ref l]) Q E s :=
 callType_new vq (by decide) (F.typeCall_reversed_1 _) (F.newCall_reversed_1 _) (fun obj=>mW obj _) F.entry_reversed_new (xE l items hfit) ⟨hl,⟨_,Heap.get?_push_size _ rfl,rfl⟩,h⟩
theorem mU {it l:Addr} {i:Nat} {items:Array Value} {x:Value} {Q:Option Value->Shared->Prop} (hit:jK s.heap it l (i:Int)) (hl:s.heap.IsTuple l items) (hi:(i:Int)<2 ^ 62) (hx:items[i]? = some x)
  (hQ:∀ h',jK h' it l ((i:Int)-1)->Heap.SameBut it s.heap h'->Q (some x) { s with heap:=h',toks:=s.toks+1 }):wpAny (model prog w) A (pyNext (.ref it)) Q E s:=by
 obtain ⟨o,ho,hc,hd⟩:=id hit
 have hT:s.TypeIs (.ref l) "tuple":=hl.typeIs
 unfold pyNext
 refine wpAny_bind (wpAny_attempt (wpAny_callSpecial?_slot (name:=Str.ofString "__next__") hit.typeIs bQ
  (wpAny_call_entry bQ hit.typeIs gw ?_ (g9 _))))
 unfold Builtin.«reversed.__next__»
 refine wpAny_bind (wpAny_of_eq (a:=(Value.ref it,[])) rfl ?_)
 try dsimp only
 refine wpAny_bind (wpAny_field ho hd (x:=.ref l) rfl ?_)
 refine wpAny_bind (wpAny_field ho hd (x:=rawInt (i:Int)) rfl ?_)
 show wpAny _ _ (if (i:Int)<0 then _ else _) _ _ s
 rw [if_neg (by omega)]
 refine wpAny_bind (wpAny_specialOf hT F.slot_tuple_getitem.lookup ?_)
 simp only [Option.isNone_some,Bool.false_eq_true,if_false]
 refine wpAny_bind (wpAny_mkInt ?_)
 refine wpAny_bind (wpAny_attempt ?_)
 have hl1:Heap.IsTuple (Shared.heap { s with toks:=s.toks+1 }) l items:=hl
 have hsz:i<items.size:=by
  rcases Nat.lt_or_ge i items.size with q | q
  ·exact q
  ·rw [Array.getElem?_eq_none q] at hx;cases hx
 refine PyProof.Rows.getItem_tuple hl1 (by omega) (by omega) (j:=i) (by rw [seqIndex_of (by omega) (by omega),Int.toNat_natCast]) hx ?_
 show wpAny _ _ (field (.ref it) 1 >>= _) _ _ _
 refine wpAny_bind (wpAny_field (s:={ s with toks:=s.toks+1 }) ho hd (x:=rawInt (i:Int)) rfl ?_)
 show wpAny _ _ (setField (.ref it) 1 (rawInt ((i:Int)-1)) >>= _) _ _ _
 refine wpAny_bind (wpAny_setField (s:={ s with toks:=s.toks+1 }) ho hd (by simp) ?_)
 refine wpAny_pure ⟨x,rfl,wpAny_pure (hQ _ ?_ (Heap.SameBut.update ..))⟩
 exact ⟨_,Heap.get?_update_self _ ho (Obj.isFreed_of_fields (Obj.data_mapFields hd _)),(Obj.cls_mapFields ..).trans hc,by rw [Obj.data_mapFields hd];simp⟩
theorem oZ {it l:Addr} {Q:Option Value->Shared->Prop} (hh:A.handled=none) (hit:jK s.heap it l (-1))
  (hQ:∀ h',Heap.ExtBut it s.heap h'->Q none { s with heap:=h' }):wpAny (model prog w) A (pyNext (.ref it)) Q E s:=by
 obtain ⟨o,ho,hc,hd⟩:=id hit
 unfold pyNext
 refine wpAny_bind (wpAny_attempt (wpAny_callSpecial?_slot (name:=Str.ofString "__next__") hit.typeIs bQ
  (wpAny_call_entry bQ hit.typeIs gw ?_ (g9 _))))
 unfold Builtin.«reversed.__next__»
 refine wpAny_bind (wpAny_of_eq (a:=(Value.ref it,[])) rfl ?_)
 try dsimp only
 refine wpAny_bind (wpAny_field ho hd (x:=.ref l) rfl ?_)
 refine wpAny_bind (wpAny_field ho hd (x:=rawInt (-1)) rfl ?_)
 show wpAny _ _ (if (-1:Int)<0 then _ else _) _ _ s
 rw [if_pos (by decide)]
 refine wpAny_bind (wpAny_rule ?_)
 refine wpAny_bind ?_
 show wpAny _ _ (setField (.ref it) 1 (rawInt (-1)) >>= _) _ _ _
 refine wpAny_bind (wpAny_setField ho hd (by simp) ?_)
 refine wpAny_setField (Heap.get?_update_self _ ho (Obj.isFreed_of_fields (Obj.data_mapFields hd _))) (Obj.data_mapFields hd _) (by simp) ?_
 refine wpAny_bind ?_
 show wpAny _ _ (newExc (.type "StopIteration") [] >>= _) _ _ _
 refine wpAny_bind ?_
 simp only [newExc,newTuple]
 refine wpAny_bind (wpAny_newObj_type ?_ (by size_fits))
 refine wpAny_bind (m:=firstArgMember _ _) (wpAny_of_eq (a:=Value.none) (by first | rfl | (simp only [firstArgMember];rfl)) ?_)
 refine wpAny_newObj_type ?_ (by size_fits)
 simp only [raiseNew]
 refine wpAny_bind (wpAny_handled ?_)
 first | rw [show A.in1.handled=none from hh] | rw [hh]
 refine wpAny_bind (wpAny_pure (wpAny_throw ?_))
 refine wpAny_bind (wpAny_isInstance (T:="StopIteration") (b:=true) ⟨_, Heap.get?_push_size _ rfl, rfl⟩ isSubtype_stop ?_)
 exact wpAny_pure (hQ _ fun c x hc e=>Heap.get?_push_of_some _ (Heap.get?_push_of_some _ ((Heap.SameBut.update ..).extBut c x hc ((Heap.SameBut.update ..).extBut c x hc e))))
theorem tK {it l:Addr} {i:Int} {Q:Value->Shared->Prop} (hit:jK s.heap it l i) (h:Q (.ref it) s):wpAny (model prog w) A (pyIter (.ref it)) Q E s:=by
 refine wpAny_pyIter_slot hit.typeIs g8 (wpAny_call_entry g8 hit.typeIs kX ?_ (mV _))
 show wpAny _ _ (ret (.ref it)) _ _ s
 exact wpAny_pure ⟨_, rfl, "reversed", _, hit.typeIs, bQ.lookup, h⟩
end
noncomputable def IV (K:W.Frag) (a:Addr) (n:Nat):It :=
 ⟨fun i H=>i<n/\∃ xs x,gE K H a xs/\xs.length=n/\xs[n-1-i]? = some x,fun i H x H'=>H'=H/\∀ xs,gE K H a xs->xs[n-1-i]? = some x,fun i H=>n<=i⟩
theorem AO {P:Program} {w:World} {K:W.Frag} {tg:Expr} {a it:Addr} {n:Nat} (hn62:(n:Int)<2 ^ 62):Turn false P w K tg (IV K a n) [it] it (fun i h=>i<=n/\jK h it a ((n:Int)-1-(i:Int))) where
 mem:=by simp
 obj:=fun i h st b hb=>by
  have e:b=it:=by simpa using hb
  subst e
  obtain ⟨_,o,e,c,d⟩:=st
  exact ⟨o,e,fun v z=>by rw [d] at z;cases z⟩
 keep:=fun i h h' st k=>⟨st.1,st.2.at fun o e=>k it (by simp) o e⟩
 item:=by
  intro X hP hw hK hc i pins s σ H E I hf st hg
  subst hP hw hK
  obtain ⟨hi,xs,x,q1,hn,hx⟩:=hg
  obtain ⟨its,rv,pl,z⟩:=I.tuple q1
  obtain ⟨u,hu,ru⟩:=rv.get hx
  have e:(n:Int)-1-(i:Int)=((n-1-i:Nat):Int):=by omega
  obtain ⟨_,st⟩:=st
  rw [e] at st
  refine mU st (show s.heap.IsTuple a its.toArray from pl) (by omega) (x:=u) (by simpa using hu) fun h' hit b=>⟨u,rfl,?_⟩
  have e2:((n-1-i:Nat):Int)-1=(n:Int)-1-((i+1:Nat):Int):=by omega
  rw [e2] at hit
  obtain ⟨o,ho,hcl,hd⟩:=id hit
  have I1:Inv X pins σ H { s with heap:=h',toks:=s.toks+1 }:=sO (t':=s.toks+1) I (ch:=[it]) (fun c hc=>hf c hc) fun c o hc e=>b.extBut c o (by simpa using hc) e
  refine lX ho hcl hd (by decide) ⟨x,H,I1,ru,⟨rfl,fun ys q=>?_⟩,⟨by omega,hit⟩,fun c hc=>(hf c hc).1⟩
  rw [I.lD q q1];exact hx
 done:=by
  intro X hP hw hK hc i pins s σ H E I hf st hg
  subst hP hw hK
  obtain ⟨hi,st⟩:=st
  have hg':n<=i:=hg
  have e:(n:Int)-1-(i:Int)=-1:=by omega
  rw [e] at st
  exact oZ (I.ok.hd hc) st fun h' b=>⟨rfl,sO (t':=s.toks) I (ch:=[it]) (fun c hc=>hf c hc) fun c o hc e=>b c o (by simpa using hc) e⟩
 self:=fun _ _ _ _ _ st h=>tK st.2 h
end Fg
end
section
namespace Fg
open PySem PySem.Spec L2
noncomputable def IU (K:W.Frag) (a:Addr) (n:Nat):It :=
 ⟨fun i H=>i<n/\∃ xs x,fq K H a xs/\xs.length=n/\xs[n-1-i]? = some x,fun i H x H'=>H'=H/\∀ xs,fq K H a xs->xs[n-1-i]? = some x,fun i H=>n<=i⟩
theorem wV {P:Program} {w:World} {K:W.Frag} {tg:Expr} {a it:Addr} {n:Nat}:Turn false P w K tg (IU K a n) [it] it (fun i h=>i<=n/\h.IsRevIter it a ((n:Int)-1-(i:Int))) where
 mem:=by simp
 obj:=fun i h st b hb=>by
  have e:b=it:=by simpa using hb
  subst e
  obtain ⟨_,o,e,c,d⟩:=st
  exact ⟨o,e,fun v z=>by rw [d] at z;cases z⟩
 keep:=fun i h h' st k=>⟨st.1,st.2.at fun o e=>k it (by simp) o e⟩
 item:=by
  intro X hP hw hK hc i pins s σ H E I hf st hg
  subst hP hw hK
  obtain ⟨hi,xs,x,q1,hn,hx⟩:=hg
  obtain ⟨its,rv,pl,z⟩:=I.list q1
  obtain ⟨u,hu,ru⟩:=rv.get hx
  have e:(n:Int)-1-(i:Int)=((n-1-i:Nat):Int):=by omega
  obtain ⟨_,st⟩:=st
  rw [e] at st
  refine wpAny_pyNext_rev_item st pl.isList (x:=u) (by simpa using hu) fun h' hit b=>⟨u,rfl,?_⟩
  have e2:((n-1-i:Nat):Int)-1=(n:Int)-1-((i+1:Nat):Int):=by omega
  rw [e2] at hit
  obtain ⟨o,ho,hcl,hd⟩:=id hit
  have I1:Inv X pins σ H { s with heap:=h' }:=sO (t':=s.toks) I (ch:=[it]) (fun c hc=>hf c hc) fun c o hc e=>b.extBut c o (by simpa using hc) e
  refine lX ho hcl hd (by decide) ⟨x,H,I1,ru,⟨rfl,fun ys q=>?_⟩,⟨by omega,hit⟩,fun c hc=>(hf c hc).1⟩
  rw [I.pN q q1];exact hx
 done:=by
  intro X hP hw hK hc i pins s σ H E I hf st hg
  subst hP hw hK
  obtain ⟨hi,st⟩:=st
  have hg':n<=i:=hg
  have e:(n:Int)-1-(i:Int)=-1:=by omega
  rw [e] at st
  exact wpAny_pyNext_rev_end (I.ok.hd hc) st fun h' b=>⟨rfl,sO (t':=s.toks) I (ch:=[it]) (fun c hc=>hf c hc) fun c o hc e=>b c o (by simpa using hc) e⟩
 self:=fun _ _ _ _ _ st h=>wpAny_pyIter_revIter st.2 h
noncomputable def K9 (K:W.Frag) (t:TA):TI:=fun σ H R=>t σ H fun vs H1=>∃ a,vs=[.ref a]/\((∃ xs,fq K H1 a xs/\R (IU K a xs.length) H1)\/∃ xs,gE K H1 a xs/\R (IV K a xs.length) H1)
theorem Ga {X:Cx} {tg a:Expr} {t:TA} {p pos:Pos} (hc:X.calm=true) (hg:Gl X "reversed") (hm:X.mg "reversed" = none) (ha:PA X [a] t) (hs:starEach [a] X.env=[(false, eval a X.env)]) :
  PI X tg (.Call (.Name "reversed" p) [a] [] pos) (K9 X.K t):=by
 intro pins s σ H R I h
 refine PyProof.Rows.Call_ (kr I hg hm (show bootBuiltins ("reversed" : Str)=some (.type "reversed") by decide +kernel) (PyProof.Rows.callWith_type1 (aS (ha pos pins s σ H _ I h) fun us s1 ⟨vs, H1, I1, r1, q1⟩=>?_) (by rw [hs];rfl) (by rfl)))
 obtain ⟨c,e,q1⟩:=q1
 subst e
 obtain ⟨u,rfl,ru⟩:=vals1 r1
 cases ru
 rcases q1 with ⟨xs,q,q2⟩ | ⟨xs,q,q2⟩
 ·obtain ⟨its,rv,pl,z⟩:=I1.list q
  have l1:=rv.length
  refine call_reversed_list pl.isList ?_
  have I2:Inv X pins σ H1 { s1 with heap:=s1.heap.push (revObj c ((its.toArray.size:Int)-1)) }:=I1.kept (t':=s1.toks) fun c o e=>Heap.get?_push_of_some _ e
  have g0:(s1.heap.push (revObj c ((its.toArray.size:Int)-1))).IsRevIter s1.heap.objs.size c ((its.toArray.size:Int)-1):=⟨_,Heap.get?_push_size _ rfl,rfl,rfl⟩
  have g1:(s1.heap.push (revObj c ((its.toArray.size:Int)-1))).IsRevIter s1.heap.objs.size c ((xs.length:Int)-1-((0:Nat):Int)):=by
   have e:(xs.length:Int)-1-((0:Nat):Int)=(its.toArray.size:Int)-1:=by rw [List.size_toArray,l1];omega
   rw [e];exact g0
  refine wpAny_pyIter_revIter g0 ⟨_,[s1.heap.objs.size],_,_,H1,rfl,I2,⟨false,hc,wV⟩,⟨Nat.zero_le _,g1⟩,fun x hx=>?_,q2⟩
  have e:x=s1.heap.objs.size:=by simpa using hx
  subst e
  exact I1.pT (Nat.le_refl _) (I1.hok.fresh (Nat.le_refl _))
 ·obtain ⟨its,rv,pl,z⟩:=I1.tuple q
  have l1:=rv.length
  have hz:(xs.length:Int)<2 ^ 62:=by
   have:sizeLine<2 ^ 62:=by decide
   have z':xs.length<=sizeLine:=by simpa using z
   omega
  have hfit:(its.toArray.size:Int)<2 ^ 63:=by rw [List.size_toArray,<- l1];omega
  refine C6 (show s1.heap.IsTuple c its.toArray from pl) hfit ?_
  have I2:Inv X pins σ H1 { s1 with heap:=s1.heap.push (lK c ((its.toArray.size:Int)-1)),toks:=s1.toks+1+1 }:=I1.kept (t':=s1.toks+1+1) fun c o e=>Heap.get?_push_of_some _ e
  have g0:jK (s1.heap.push (lK c ((its.toArray.size:Int)-1))) s1.heap.objs.size c ((its.toArray.size:Int)-1):=⟨_,Heap.get?_push_size _ rfl,rfl,rfl⟩
  have g1:jK (s1.heap.push (lK c ((its.toArray.size:Int)-1))) s1.heap.objs.size c ((xs.length:Int)-1-((0:Nat):Int)):=by
   have e:(xs.length:Int)-1-((0:Nat):Int)=(its.toArray.size:Int)-1:=by rw [List.size_toArray,l1];omega
   rw [e];exact g0
  refine tK (s:={ s1 with heap:=s1.heap.push (lK c ((its.toArray.size:Int)-1)),toks:=s1.toks+1+1 }) g0 ⟨_,[s1.heap.objs.size],_,_,H1,rfl,I2,⟨false,hc,AO hz⟩,⟨Nat.zero_le _,g1⟩,fun x hx=>?_,q2⟩
  have e:x=s1.heap.objs.size:=by simpa using hx
  subst e
  exact I1.pT (Nat.le_refl _) (I1.hok.fresh (Nat.le_refl _))
section
variable {B:Bd} {Φ:aL} {E:Gx} {F F' F0 F1:Addr->Prop} {ρ ρ' ρ0 ρ1:List Addr} {H H' H0 H1:Hp} {M M' M0:MH} {σD:Sg} {σ:L2.St} {Q:VK} {Dn:Ends}
theorem HY {d:D} {ds:List D} (h:pR d=some ds):d=.lst ds\/d=.tup ds:=by
 cases d <;> first | (cases h;first | exact .inl rfl | exact .inr rfl) | cases h
theorem Bj {a:Fg.E} {Rr:It->Hp->Prop} (h:Dl B Φ E (.rev a) σ H Rr):K9 B.K (dc (T B Φ E a) iR) σ H Rr:=by
 obtain ⟨σD,M,F,ρ,S,r,h⟩:=h
 show T B Φ E a σ H fun v H1=>∃ c,[v]=[.ref c]/\((∃ xs,fq B.K H1 c xs/\Rr (IU B.K c xs.length) H1)\/∃ xs,gE B.K H1 c xs/\Rr (IV B.K c xs.length) H1)
 refine ⟨σD,M,F,ρ,S,r,?_⟩
 cases hx:ev Φ a σD M with
 | exc c M1 =>
  have he:b3 Φ (.rev a) σD M=.exc c M1:=by simp only [b3,hx,R.iK]
  rw [he] at h;exact h
 | bad =>
  have he:b3 Φ (.rev a) σD M=.bad:=by simp only [b3,hx,R.fZ]
  rw [he] at h;exact h
 | ok x M1 =>
  intro F1 ρ1 H1 v e1 S1 rx
  cases hfx:pR x with
  | none =>
   have he:b3 Φ (.rev a) σD M=.bad:=by simp only [b3,hx,R.af,hfx]
   rw [he] at h;exact h.elim
  | some ds =>
   have he:b3 Φ (.rev a) σD M=.ok (.ao,ds.reverse,false) M1:=by simp only [b3,hx,R.af,hfx]
   rw [he] at h
   rcases HY hfx with rfl | rfl
   ·simp only [RD] at rx
    obtain ⟨c,xs,rfl,z,q⟩:=rx
    have l1:=ai.length q
    refine ⟨c,rfl,.inl ⟨xs,z.sq,h F1 ρ1 H1 _ e1 S1 fun M' hM S'=>?_⟩⟩
    cases hM
    refine ⟨fun i F ρ M H ex S _=>⟨fun d0 hd=>?_,fun hl=>?_⟩,fun z=>by cases z⟩
    ·have zq:fq B.K H c xs:=by
      rcases z with ⟨f,z⟩ | z
      ·exact .inl (ex.toExt0.Jl.rd f z)
      ·exact .inr z
     have hi:i<ds.length:=by
      have:=(List.getElem?_eq_some_iff.mp hd).1
      simpa using this
     rw [List.getElem?_reverse hi,l1] at hd
     obtain ⟨v,hv,rv⟩:=ai.get (ai.mono ex _ _ q) hd
     refine ⟨⟨by omega,xs,v,zq,rfl,hv⟩,fun x H' ⟨e',hy⟩=>?_⟩
     subst e'
     have z2:=hy xs zq
     rw [hv] at z2
     cases z2
     exact ⟨F,S.refl,S,rv⟩
    ·rw [List.length_reverse,l1] at hl
     exact hl
   ·simp only [RD] at rx
    obtain ⟨c,xs,rfl,z,q⟩:=rx
    have l1:=ai.length q
    refine ⟨c,rfl,.inr ⟨xs,z.sq,h F1 ρ1 H1 _ e1 S1 fun M' hM S'=>?_⟩⟩
    cases hM
    refine ⟨fun i F ρ M H ex S _=>⟨fun d0 hd=>?_,fun hl=>?_⟩,fun z=>by cases z⟩
    ·have zq:gE B.K H c xs:=by
      rcases z with ⟨f,z⟩ | z
      ·exact .inl (ex.toExt0.Jl.rd f z)
      ·exact .inr z
     have hi:i<ds.length:=by
      have:=(List.getElem?_eq_some_iff.mp hd).1
      simpa using this
     rw [List.getElem?_reverse hi,l1] at hd
     obtain ⟨v,hv,rv⟩:=ai.get (ai.mono ex _ _ q) hd
     refine ⟨⟨by omega,xs,v,zq,rfl,hv⟩,fun x H' ⟨e',hy⟩=>?_⟩
     subst e'
     have z2:=hy xs zq
     rw [hv] at z2
     cases z2
     exact ⟨F,S.refl,S,rv⟩
    ·rw [List.length_reverse,l1] at hl
     exact hl
end
end Fg
end
section
namespace Fg
open PySem PySem.Spec L2
section
variable {B:Bd} {Φ:aL} {E:Gx} {F F' F1:Addr->Prop} {ρ ρ' ρ1:List Addr} {H H' H1:Hp} {M M':MH} {σD:Sg} {σ:St} {Q:VK}
end
section
variable {X:Cx} {t:TA} {te ts:TE} {e st:Expr} {pos p2:Pos}
end
end Fg
end
section
namespace Fg
open PySem PySem.Spec L2
section
variable {B:Bd} {Φ:aL} {E:Gx} {F F' F0 F1:Addr->Prop} {ρ ρ' ρ0 ρ1:List Addr} {H H' H0 H1:Hp} {M M' M0:MH} {σD:Sg} {σ:L2.St} {Q:VK} {Dn:Ends}
end
end Fg
end
section
namespace Fg
open PySem PySem.Spec L2
section
variable {prog:Program} {w:World} {A:Around} {E:Value->Shared->Prop} {s:Shared} {r S:Addr} {a b c:Int} {t u v:Tok}
end
section
variable {B:Bd} {Φ:aL} {E:Gx} {F:Addr->Prop} {ρ:List Addr} {H:Hp} {σ:L2.St} {Q:VK}
end
end Fg
end
section
namespace Fg
open PySem PySem.Spec L2
end Fg
end
section
namespace Fg
open PySem PySem.Spec L2
section
variable {prog:Program} {w:World} {A:Around} {E:Value->Shared->Prop} {s:Shared}
end
end Fg
end
section
namespace Fg
open PySem PySem.Spec L2
section
variable {prog:Program} {w:World} {A:Around} {E:Value->Shared->Prop} {s:Shared}
variable {K:Type} [DecidableEq K] {knd:KeyKind prog w K}
end
end Fg
end
section
namespace Fg
open PySem PySem.Spec L2
section
variable {prog:Program} {w:World} {A:Around} {E:Value->Shared->Prop} {s:Shared} {K:Type} [DecidableEq K] {knd:KeyKind prog w K}
end
section
variable {X:Cx} {t:TA}
end
section
variable {B:Bd} {Φ:aL} {E:Gx} {F F' F1:Addr->Prop} {ρ ρ' ρ1:List Addr} {H H' H1:Hp} {M M':MH} {σD:Sg} {σ:L2.St} {Q:VK}
end
end Fg
end
section
namespace Fg
open PySem PySem.Spec L2
structure Gm where
 fns:List (Str×Nat×Nat)
 cst:List (Str×Nat)
 kQ:List Str
 cls:List (Str×Nat×Nat×Nat):=[]
 AE:List ((Nat×Str)×Nat×Nat):=[]
 CN:List Str:=[]
 exc:List (Str×Nat):=[]
 wL:List (Str×Nat×Nat×Int×Str):=[]
 rz:Bool:=true
 n9:List (Str×Nat×Nat):=[]
 cm:Bool:=true
 lt:Bool:=false
noncomputable def zh (G:Gm):Gm:={ G with fns:=[],cls:=[],AE:=[],wL:=[],rz:=false,cm:=false,lt:=false }
noncomputable def pQ (G:Gm):Gm:={ zh G with lt:=true }
inductive Nd where
 | e (a:Expr) (c:E)
 | t (a:Expr) (c:E)
 | es (a:List Expr) (c:Es)
 | o (a:Option Expr) (c:O)
 | i (a:Expr) (c:Src)
 | s (a:Stmt) (c:S)
 | ss (a:List Stmt) (c:Ss)
 | m (a:List Expr) (c:Es)
noncomputable def nD (x:Str):Bool:=!(x == ("__debug__" : Str))&&!(x == ("__classdict__" : Str))
noncomputable def AN (sc:Scope) (x:Str):Bool:=match sc.names.lookup x with | some .local=>true | some .cell=>true | some .free=>true | _=>false
noncomputable def Cr (sc:Scope) (x:Str):Bool:=match sc.names.lookup x with | some .local=>true | some .cell=>true | _=>false
noncomputable def dW (sc:Scope) (x:Str):Bool:=match sc.names.lookup x with | some .globalImplicit=>true | _=>false
noncomputable def bw:Expr->Bool | .Starred _ _=>false | _=>true
noncomputable def lP:Expr->Bool | .ListComp _ _ _ _=>false | .SetComp _ _ _ _=>false | .DictComp _ _ _ _ _=>false | _=>true
noncomputable def vI:Expr->Bool | .Set _ _ _=>false | _=>true
noncomputable def nSl:Expr->Bool | .Slice _ _ _ _=>false | _=>true
noncomputable def rj:Expr->Bool | .UnaryOp _ _ _=>false | .BoolOp _ _ _=>false | .IfExp _ _ _ _=>false | .Compare _ _ _ _=>false | _=>true
noncomputable def vJ:Expr->Bool | .Call (.Name _ _) _ _ _=>false | _=>true
noncomputable def Iz:Const->D->Bool
 | .int i,.int j=>decide (i=j)
 | .str x,.str y=>decide (x=y)
 | .bool a,.bl b=>decide (a=b)
 | .none,.ao=>true
 | _,_=>false
noncomputable def f1S:F1->Str
 | .abs=>"abs" | .int=>"int"
noncomputable def D5:Mt->Option Str
 | .pop=>some "pop" | .reverse=>some "reverse" | _=>none
noncomputable def LW:Bl->Option Str
 | .len=>some "len" | .list=>some "list" | _=>none
noncomputable def xG (scope sc:Scope):Scope :=
 { scope with names:=scope.names.map fun (n,k)=>if (k == .free&&sc.kind == .function&&sc.names.lookup n == some .cell) then (n,.cell) else (n,k) }
noncomputable def rJ (sc:Scope) (x:Str):Bool:=match sc.names.lookup x with | some .local=>true | _=>false
theorem aH {P:Prop} (h:false=true):P:=Bool.noConfusion h
@[irreducible] noncomputable def dS (a:Expr) (k:Str->Bool):Bool:=match a with | .Name x _=>k x | _=>false
theorem bE {a:Expr} {k:Str->Bool} (h:dS a k=true):∃ x p,a=.Name x p/\k x=true:=by
 unfold dS at h
 cases a <;> first | exact ⟨_,_,rfl,h⟩ | exact aH h
@[irreducible] noncomputable def K2 (a:Expr) (k:Str->Pos->Bool):Bool:=match a with | .Name x p=>k x p | _=>false
theorem yQ {a:Expr} {k:Str->Pos->Bool} (h:K2 a k=true):∃ x p,a=.Name x p/\k x p=true:=by
 unfold K2 at h
 cases a <;> first | exact ⟨_,_,rfl,h⟩ | exact aH h
@[irreducible] noncomputable def HD (a:Expr) (k:Const->Bool):Bool:=match a with | .Constant c _ _=>k c | _=>false
theorem HC {a:Expr} {k:Const->Bool} (h:HD a k=true):∃ c j p,a=.Constant c j p/\k c=true:=by
 unfold HD at h
 cases a <;> first | exact ⟨_,_,_,rfl,h⟩ | exact aH h
@[irreducible] noncomputable def yO (a:Expr) (k:List Expr->Bool):Bool:=match a with | .Tuple as _ _=>k as | _=>false
theorem kB {a:Expr} {k:List Expr->Bool} (h:yO a k=true):∃ as c p,a=.Tuple as c p/\k as=true:=by
 unfold yO at h
 cases a <;> first | exact ⟨_,_,_,rfl,h⟩ | exact aH h
@[irreducible] noncomputable def Hu (a:Expr) (k:List Expr->Bool):Bool:=match a with | .List as _=>k as | _=>false
theorem Ht {a:Expr} {k:List Expr->Bool} (h:Hu a k=true):∃ as p,a=.List as p/\k as=true:=by
 unfold Hu at h
 cases a <;> first | exact ⟨_,_,rfl,h⟩ | exact aH h
@[irreducible] noncomputable def HF (a:Expr) (k:Expr->Operator->Expr->Bool):Bool:=match a with | .BinOp l p r _=>k l p r | _=>false
theorem HE {a:Expr} {k:Expr->Operator->Expr->Bool} (h:HF a k=true):∃ l o r p,a=.BinOp l o r p/\k l o r=true:=by
 unfold HF at h
 cases a <;> first | exact ⟨_,_,_,_,rfl,h⟩ | exact aH h
@[irreducible] noncomputable def rR:UnaryOp->Bool | .USub=>true | _=>false
@[irreducible] noncomputable def um:UnaryOp->Bool | .Not=>true | _=>false
@[irreducible] noncomputable def K1 (a:Expr) (k:UnaryOp->Expr->Bool):Bool:=match a with | .UnaryOp o l _=>k o l | _=>false
theorem yN {a:Expr} {k:UnaryOp->Expr->Bool} (h:K1 a k=true):∃ o l p,a=.UnaryOp o l p/\k o l=true:=by
 unfold K1 at h
 cases a <;> first | exact ⟨_,_,_,rfl,h⟩ | exact aH h
theorem yZ {o:UnaryOp} (h:rR o=true):o=.USub:=by
 unfold rR at h
 cases o <;> first | rfl | exact aH h
theorem uh {o:UnaryOp} (h:um o=true):o=.Not:=by
 unfold um at h
 cases o <;> first | rfl | exact aH h
@[irreducible] noncomputable def ji:BoolOp->Bool | .And=>true | .Or=>false
theorem uo {o:BoolOp} (h:ji o=true):o=.And:=by
 unfold ji at h
 cases o <;> first | rfl | exact aH h
theorem y9 {o:BoolOp} (h:ji o=false):o=.Or:=by
 unfold ji at h
 cases o <;> first | rfl | cases h
@[irreducible] noncomputable def Je (a:Expr) (k:BoolOp->Expr->Expr->Bool):Bool:=match a with
 | .BoolOp o vs p=>(match vs with
  | v::ws=>(match ws with
   | w::r=>k o v (.BoolOp o (w::r) p)
   | []=>false)
  | []=>false)
 | _=>false
theorem ue {a:Expr} {k:BoolOp->Expr->Expr->Bool} (h:Je a k=true):∃ o v w r p,a=.BoolOp o (v::w::r) p/\k o v (.BoolOp o (w::r) p)=true:=by
 unfold Je at h
 cases a with
 | BoolOp o vs p =>
  cases vs with
  | nil=>exact aH h
  | cons v ws=>cases ws with
   | nil=>exact aH h
   | cons w r=>exact ⟨_,_,_,_,_,rfl,h⟩
 | _=>exact aH h
@[irreducible] noncomputable def tZ (a:Expr) (k:Expr->Bool) (d:Bool):Bool:=match a with
 | .BoolOp _ vs _=>(match vs with
  | v::ws=>(match ws with
   | []=>k v
   | _::_=>d)
  | []=>d)
 | _=>d
theorem tY {a:Expr} {k:Expr->Bool} {d:Bool} (h:tZ a k d=true):(∃ o v p,a=.BoolOp o [v] p/\k v=true)\/d=true:=by
 unfold tZ at h
 cases a with
 | BoolOp o vs p =>
  cases vs with
  | nil=>exact .inr h
  | cons v ws=>cases ws with
   | nil=>exact .inl ⟨_,_,_,rfl,h⟩
   | cons w r=>exact .inr h
 | _=>exact .inr h
@[irreducible] noncomputable def k1 {α:Type} (as:List α) (k:α->Bool):Bool:=match as with | l::r=>r.isEmpty&&k l | []=>false
theorem gI {α:Type} {as:List α} {k:α->Bool} (h:k1 as k=true):∃ l,as=[l]/\k l=true:=by
 unfold k1 at h
 cases as with
 | nil=>exact aH h
 | cons l r=>cases r with
  | nil=>exact ⟨_,rfl,h⟩
  | cons _ _=>exact aH h
@[irreducible] noncomputable def k2 {α:Type} (as:List α) (k:α->α->Bool):Bool:=match as with | l::r=>k1 r (k l) | []=>false
theorem yV {α:Type} {as:List α} {k:α->α->Bool} (h:k2 as k=true):∃ l r,as=[l,r]/\k l r=true:=by
 unfold k2 at h
 cases as with
 | nil=>exact aH h
 | cons l r =>
  replace h:=gI h
  obtain ⟨x,rfl,h⟩:=h
  exact ⟨_,_,rfl,h⟩
@[irreducible] noncomputable def k3 {α:Type} (as:List α) (k:α->α->α->Bool):Bool:=match as with | l::r=>k2 r (k l) | []=>false
@[irreducible] noncomputable def Cz (a:Expr) (k:Expr->CmpOp->Expr->Bool):Bool:=match a with | .Compare l ps rs _=>k1 ps fun p=>k1 rs fun r=>k l p r | _=>false
theorem yR {a:Expr} {k:Expr->CmpOp->Expr->Bool} (h:Cz a k=true):∃ l o r p,a=.Compare l [o] [r] p/\k l o r=true:=by
 unfold Cz at h
 cases a with
 | Compare l ps rs p =>
  replace h:=gI h
  obtain ⟨o,rfl,h⟩:=h
  replace h:=gI h
  obtain ⟨r,rfl,h⟩:=h
  exact ⟨_,_,_,_,rfl,h⟩
 | _=>exact aH h
@[irreducible] noncomputable def Hy (a:Expr) (k:Expr->Expr->Expr->Bool):Bool:=match a with | .IfExp u l r _=>k u l r | _=>false
theorem Hx {a:Expr} {k:Expr->Expr->Expr->Bool} (h:Hy a k=true):∃ u l r p,a=.IfExp u l r p/\k u l r=true:=by
 unfold Hy at h
 cases a <;> first | exact ⟨_,_,_,_,rfl,h⟩ | exact aH h
@[irreducible] noncomputable def yP (a:Expr) (k:Expr->Expr->Bool):Bool:=match a with | .Subscript l r _=>k l r | _=>false
theorem rN {a:Expr} {k:Expr->Expr->Bool} (h:yP a k=true):∃ l r p,a=.Subscript l r p/\k l r=true:=by
 unfold yP at h
 cases a <;> first | exact ⟨_,_,_,rfl,h⟩ | exact aH h
@[irreducible] noncomputable def Hf (a:Expr) (k:Option Expr->Option Expr->Bool):Bool:=match a with | .Slice u v s _=>s.isNone&&k u v | _=>false
theorem G9 {a:Expr} {k:Option Expr->Option Expr->Bool} (h:Hf a k=true):∃ u v p,a=.Slice u v none p/\k u v=true:=by
 unfold Hf at h
 cases a with
 | Slice u v s p=>cases s with
  | none=>exact ⟨_,_,_,rfl,h⟩
  | some _=>exact aH h
 | _=>exact aH h
@[irreducible] noncomputable def CA (a:Expr) (k:Expr->List Expr->Pos->Bool):Bool:=match a with | .Call f as kw p=>kw.isEmpty&&k f as p | _=>false
theorem yS {a:Expr} {k:Expr->List Expr->Pos->Bool} (h:CA a k=true):∃ f as p,a=.Call f as [] p/\k f as p=true:=by
 unfold CA at h
 cases a with
 | Call f as kw p=>cases kw with
  | nil=>exact ⟨_,_,_,rfl,h⟩
  | cons _ _=>exact aH h
 | _=>exact aH h
@[irreducible] noncomputable def kCK (a:Expr) (k:Str->List Expr->Str->Expr->Bool):Bool:=match a with | .Call (.Name x _) as [⟨some kw,v,_⟩] _=>k x as kw v | _=>false
theorem K3 {a:Expr} {k:Str->List Expr->Str->Expr->Bool} (h:kCK a k=true):∃ x q as kw v kp p,a=.Call (.Name x q) as [⟨some kw,v,kp⟩] p/\k x as kw v=true:=by
 unfold kCK at h
 split at h
 ·exact ⟨_,_,_,_,_,_,_,rfl,h⟩
 ·exact aH h
@[irreducible] noncomputable def ud (a:Expr) (k:Str->List Expr->Bool):Bool:=CA a fun f as _=>dS f fun x=>k x as
theorem eY {a:Expr} {k:Str->List Expr->Bool} (h:ud a k=true):∃ x q as p,a=.Call (.Name x q) as [] p/\k x as=true:=by
 unfold ud at h
 replace h:=yS h
 obtain ⟨f,as,p,rfl,h⟩:=h
 replace h:=bE h
 obtain ⟨x,q,rfl,h⟩:=h
 exact ⟨_,_,_,_,rfl,h⟩
@[irreducible] noncomputable def yU (a:Expr) (k:Expr->Str->Pos->Bool):Bool:=match a with | .Attribute o y p=>k o y p | _=>false
theorem rO {a:Expr} {k:Expr->Str->Pos->Bool} (h:yU a k=true):∃ o y p,a=.Attribute o y p/\k o y p=true:=by
 unfold yU at h
 cases a <;> first | exact ⟨_,_,_,rfl,h⟩ | exact aH h
@[irreducible] noncomputable def K4 (a:Expr) (k:Expr->Str->Pos->List Expr->Pos->Bool):Bool:=CA a fun f as p=>yU f fun o y q=>k o y q as p
theorem yT {a:Expr} {k:Expr->Str->Pos->List Expr->Pos->Bool} (h:K4 a k=true):∃ o y q as p,a=.Call (.Attribute o y q) as [] p/\k o y q as p=true:=by
 unfold K4 at h
 replace h:=yS h
 obtain ⟨f,as,p,rfl,h⟩:=h
 replace h:=rO h
 obtain ⟨o,y,q,rfl,h⟩:=h
 exact ⟨_,_,_,_,_,rfl,h⟩
@[irreducible] noncomputable def MF (a:Expr) (k:Expr->Expr->Expr->List Expr->Scope->Pos->Bool):Bool:=match a with
 | .ListComp el gs scope p=>k1 gs fun g=>decide (g.is_async=0)&&k el g.target g.iter g.ifs scope p
 | _=>false
theorem Ec {a:Expr} {k:Expr->Expr->Expr->List Expr->Scope->Pos->Bool} (h:MF a k=true):∃ el tn it ifs sc p,a=.ListComp el [⟨tn,it,ifs,0⟩] sc p/\k el tn it ifs sc p=true:=by
 unfold MF at h
 cases a with
 | ListComp el gs sc p =>
  replace h:=gI h
  obtain ⟨g,rfl,h⟩:=h
  obtain ⟨tn,it,ifs,j⟩:=g
  have h:=(Bool.and_eq_true _ _).mp h
  have e:j=0:=of_decide_eq_true h.1
  subst e
  exact ⟨_,_,_,_,_,_,rfl,h.2⟩
 | _=>exact aH h
@[irreducible] noncomputable def Hr (a:Expr) (d:Bool) (k:List Expr->Bool):Bool:=match a with
 | .Constant c _ _=>(match c with | .str _=>d | _=>false)
 | .JoinedStr vs _=>k vs
 | _=>false
theorem Hq {a:Expr} {d:Bool} {k:List Expr->Bool} (h:Hr a d k=true):(∃ x j p,a=.Constant (.str x) j p/\d=true)\/∃ vs p,a=.JoinedStr vs p/\k vs=true:=by
 unfold Hr at h
 cases a with
 | Constant c j p=>cases c with
  | str x=>exact .inl ⟨_,_,_,rfl,h⟩
  | _=>exact aH h
 | JoinedStr vs p=>exact .inr ⟨_,_,rfl,h⟩
 | _=>exact aH h
@[irreducible] noncomputable def Ho (a:Expr) (s:Str->Bool) (k:Expr->Int->Bool):Bool:=match a with
 | .Constant c _ _=>(match c with | .str y=>s y | _=>false)
 | .FormattedValue v j f _=>f.isNone&&k v j
 | _=>false
theorem Hl {a:Expr} {s:Str->Bool} {k:Expr->Int->Bool} (h:Ho a s k=true):(∃ y j p,a=.Constant (.str y) j p/\s y=true)\/∃ v j p,a=.FormattedValue v j none p/\k v j=true:=by
 unfold Ho at h
 cases a with
 | Constant c j p=>cases c with
  | str x=>exact .inl ⟨_,_,_,rfl,h⟩
  | _=>exact aH h
 | FormattedValue v j f p=>cases f with
  | none=>exact .inr ⟨_,_,_,rfl,h⟩
  | some _=>exact aH h
 | _=>exact aH h
@[irreducible] noncomputable def rQ (a:Stmt) (k:Expr->Expr->Bool):Bool:=match a with | .Assign ts e _=>k1 ts fun t=>k t e | _=>false
theorem kE {a:Stmt} {k:Expr->Expr->Bool} (h:rQ a k=true):∃ t e p,a=.Assign [t] e p/\k t e=true:=by
 unfold rQ at h
 cases a with
 | Assign ts e p =>
  replace h:=gI h
  obtain ⟨t,rfl,h⟩:=h
  exact ⟨_,_,_,rfl,h⟩
 | _=>exact aH h
@[irreducible] noncomputable def HB (a:Stmt) (k:Expr->Bool):Bool:=match a with | .Expr e _=>k e | _=>false
theorem HA {a:Stmt} {k:Expr->Bool} (h:HB a k=true):∃ e p,a=.Expr e p/\k e=true:=by
 unfold HB at h
 cases a <;> first | exact ⟨_,_,rfl,h⟩ | exact aH h
@[irreducible] noncomputable def Hh (a:Stmt) (d:Bool) (k:Expr->Bool):Bool:=match a with
 | .Return o _=>(match o with | some e=>k e | none=>d)
 | _=>false
theorem Hg {a:Stmt} {d:Bool} {k:Expr->Bool} (h:Hh a d k=true):(∃ p,a=.Return none p/\d=true)\/∃ e p,a=.Return (some e) p/\k e=true:=by
 unfold Hh at h
 cases a with
 | Return o p=>cases o with
  | none=>exact .inl ⟨_,rfl,h⟩
  | some e=>exact .inr ⟨_,_,rfl,h⟩
 | _=>exact aH h
@[irreducible] noncomputable def Hw (a:Stmt) (k:Expr->List Stmt->List Stmt->Bool):Bool:=match a with | .If t l r _=>k t l r | _=>false
theorem Hv {a:Stmt} {k:Expr->List Stmt->List Stmt->Bool} (h:Hw a k=true):∃ t l r p,a=.If t l r p/\k t l r=true:=by
 unfold Hw at h
 cases a <;> first | exact ⟨_,_,_,_,rfl,h⟩ | exact aH h
@[irreducible] noncomputable def kFor (a:Stmt) (k:Expr->Expr->List Stmt->Bool):Bool:=match a with | .For t i b e _=>e.isEmpty&&k t i b | _=>false
theorem Hz {a:Stmt} {k:Expr->Expr->List Stmt->Bool} (h:kFor a k=true):∃ t i b p,a=.For t i b [] p/\k t i b=true:=by
 unfold kFor at h
 cases a with
 | For t i b e p=>cases e with
  | nil=>exact ⟨_,_,_,_,rfl,h⟩
  | cons _ _=>exact aH h
 | _=>exact aH h
@[irreducible] noncomputable def kWh (a:Stmt) (k:Expr->List Stmt->Bool):Bool:=match a with | .While t b e _=>e.isEmpty&&k t b | _=>false
theorem K0 {a:Stmt} {k:Expr->List Stmt->Bool} (h:kWh a k=true):∃ t b p,a=.While t b [] p/\k t b=true:=by
 unfold kWh at h
 cases a with
 | While t b e p=>cases e with
  | nil=>exact ⟨_,_,_,rfl,h⟩
  | cons _ _=>exact aH h
 | _=>exact aH h
@[irreducible] noncomputable def Hj (a:Stmt) (k:Expr->Bool):Bool:=match a with
 | .Raise o c _=>c.isNone&&(match o with | some e=>k e | none=>false)
 | _=>false
theorem Hi {a:Stmt} {k:Expr->Bool} (h:Hj a k=true):∃ e p,a=.Raise (some e) none p/\k e=true:=by
 unfold Hj at h
 cases a with
 | Raise o c p=>cases c with
  | none=>cases o with
   | none=>exact aH h
   | some e=>exact ⟨_,_,rfl,h⟩
  | some _=>exact aH h
 | _=>exact aH h
@[irreducible] noncomputable def G8 (a:Stmt) (k:List Stmt->List ExceptHandler->Bool):Bool:=match a with
 | .Try bd hs e f _=>e.isEmpty&&(f.isEmpty&&(!hs.isEmpty&&k bd hs))
 | _=>false
theorem G7 {a:Stmt} {k:List Stmt->List ExceptHandler->Bool} (h:G8 a k=true):∃ bd h₀ hr p,a=.Try bd (h₀::hr) [] [] p/\k bd (h₀::hr)=true:=by
 unfold G8 at h
 cases a with
 | Try bd hs e f p=>cases e with
  | nil=>cases f with
   | nil=>cases hs with
    | nil=>exact aH h
    | cons _ _=>exact ⟨_,_,_,_,rfl,h⟩
   | cons _ _=>exact aH h
  | cons _ _=>exact aH h
 | _=>exact aH h
@[irreducible] noncomputable def MG (a:ExceptHandler) (k:Expr->Option Str->Stmt->List Stmt->Bool):Bool:=match a with
 | .ExceptHandler t n b _=>(match t with | some t=>(match b with | s::r=>k t n s r | []=>false) | none=>false)
theorem Ed {a:ExceptHandler} {k:Expr->Option Str->Stmt->List Stmt->Bool} (h:MG a k=true):∃ t n s r p,a=.ExceptHandler (some t) n (s::r) p/\k t n s r=true:=by
 unfold MG at h
 cases a with
 | ExceptHandler t n b p=>cases t with
  | none=>exact aH h
  | some t=>cases b with
   | nil=>exact aH h
   | cons s r=>exact ⟨_,_,_,_,_,rfl,h⟩
@[irreducible] noncomputable def l8:Es->Bool | .nil=>true | .cons _ _=>false
theorem iH {c:Es} (h:l8 c=true):c=.nil:=by
 unfold l8 at h
 cases c <;> first | rfl | exact aH h
@[irreducible] noncomputable def sV:Ss->Bool | .nil=>true | .cons _ _=>false
theorem sU {c:Ss} (h:sV c=true):c=.nil:=by
 unfold sV at h
 cases c <;> first | rfl | exact aH h
@[irreducible] noncomputable def zg:Hs->Bool | .nil=>true | _=>false
theorem CG {c:Hs} (h:zg c=true):c=.nil:=by
 unfold zg at h
 cases c <;> first | rfl | exact aH h
@[irreducible] noncomputable def MI (c:Es) (k:E->Es->Bool):Bool:=match c with | .cons e es=>k e es | .nil=>false
theorem yW {c:Es} {k:E->Es->Bool} (h:MI c k=true):∃ e es,c=.cons e es/\k e es=true:=by
 unfold MI at h
 cases c <;> first | exact ⟨_,_,rfl,h⟩ | exact aH h
@[irreducible] noncomputable def jSs (c:Ss) (k:S->Ss->Bool):Bool:=match c with | .cons e es=>k e es | .nil=>false
theorem K5 {c:Ss} {k:S->Ss->Bool} (h:jSs c k=true):∃ e es,c=.cons e es/\k e es=true:=by
 unfold jSs at h
 cases c <;> first | exact ⟨_,_,rfl,h⟩ | exact aH h
@[irreducible] noncomputable def yX (c:E) (k:List Nat->List Nat->E->Src->O->Bool) (d:Bool):Bool:=match c with | .comp _ caps tg elt it cond=>k caps tg elt it cond | _=>d
theorem CB {c:E} {k:List Nat->List Nat->E->Src->O->Bool} {d:Bool} (h:yX c k d=true):(∃ fz caps tg elt it cond,c=.comp fz caps tg elt it cond/\k caps tg elt it cond=true)\/d=true:=by
 unfold yX at h
 cases c <;> first | exact .inl ⟨_,_,_,_,_,_,rfl,h⟩ | exact .inr h
noncomputable def KN (N:List Str) (sc:Scope) (i:Nat) (x:Str):Bool:=decide (N[i]? = some x)&&rJ sc x
noncomputable def Cg (N:List Str) (sc:Scope):List Expr->List Nat->Bool
 | [],[]=>true
 | a::as,i::is=>dS a (fun x=>KN N sc i x)&&Cg N sc as is
 | _,_=>false
noncomputable def Jx (N:List Str) (sc:Scope) (t:Expr) (is:List Nat):Bool:=match is with
 | []=>false
 | i::r=>match r with
  | []=>dS t fun x=>KN N sc i x
  | j::r=>match r with
   | []=>yO t fun as=>k2 as fun l r=>dS l fun x=>dS r fun y=>KN N sc i x&&KN N sc j y
   | l::r=>yO t fun as=>Cg N sc as (i::j::l::r)
noncomputable def MJ:Src->Bool | .zip _ _=>true | _=>false
noncomputable def isTup:Expr->Bool | .Tuple _ _ _=>true | _=>false
noncomputable def K7:Expr->Bool | .Call _ _ _ _=>true | .Name _ _=>true | .Subscript _ _ _=>true | _=>false
noncomputable def fm (N:List Str) (caps:List Nat) (tn:List Str):List Str:=(caps.map fun i=>(N[i]?).getD ("" : Str))++tn
noncomputable def nmOf:Expr->Str
 | .Name x _=>x
 | _=>""
noncomputable def cN:Expr->List Str
 | .Name x _=>[x]
 | .Tuple as _ _=>as.map nmOf
 | _=>[]
noncomputable def z9 (N:List Str) (sc scope:Scope) (caps:List Nat) (tn:List Str):Bool :=
 (scope.names.all fun y=>match y.2 with
  | .free=>(match sc.names.lookup y.1 with | some .cell=>true | some .free=>true | _=>false)
  | .cell=>false
  | .local=>(match scope.names.lookup y.1 with | some .local=>true | _=>false)
  | _=>true)&&(scope.kind == .function) &&
 (caps.all fun i=>match N[i]? with
  | some x=>(match scope.names.lookup x with | some .free=>true | _=>false)
  | none=>false)&&decide ((fm N caps tn).Nodup)
noncomputable def w6 (sc scope:Scope) (x:Str) (px pv:Pos):Bool :=
 ((if sc.kind.isAnnotationScope then .function else sc.kind) == .function)&&sc.names.lookup x == some .local&&px.line == pv.line&&!(scope.names.any fun (n,k)=>n == x&&(k == .local||k == .cell))
noncomputable abbrev Rec:=Gm->Bool->List Str->Scope->Nd->Bool
noncomputable def HQ (G:Gm) (N:List Str) (sc:Scope) (i:Nat) (s:Stmt) (bd:List Stmt) (b:Ss):Bool :=
 bd.isEmpty&&match b with
  | .cons (.set j (.call f (.cons (.v i') .nil))) .nil=>rQ s fun t e=>K2 t fun x _=>ud e fun g as=>k1 as fun l=>K2 l fun y _ =>
   decide (i'=i)&&decide (N[j]? = some x)&&Cr sc x&&decide (N[i]? = some y)&&AN sc y&&nD y&&dW sc g&&nD g&&decide (G.n9.lookup g=some (f,1))
  | _=>false
noncomputable def MM (r:Rec) (G:Gm) (N:List Str) (sc:Scope):List ExceptHandler->Hs->Bool
 | [],hs=>zg hs
 | h::l,.cons cs b hs=>MG h fun t n s bd=>dS t fun x=>k1 cs fun c=>n.isNone&&dW sc x&&nD x&&decide (G.exc.lookup x=some c)&&r (zh G) false N sc (.ss (s::bd) b)&&MM r G N sc l hs
 | h::l,.as c i b hs=>MG h fun t n s bd=>dS t fun x=>decide (n=N[i]?)&&n.any (rJ sc)&&dW sc x&&nD x&&decide (G.exc.lookup x=some c)&&(r (zh G) false N sc (.ss (s::bd) b)||HQ G N sc i s bd b)&&MM r G N sc l hs
 | _::_,.nil=>false
noncomputable def okH:E->Bool
 | .comp _ _ tg _ _ _=>tg.length == 1 | .call _ _=>false | .jt _ _ _=>false | .jr _ _ _=>false | .MB _ _ _=>false | .cM _ _ _ _ _=>false | .new _ _ _=>false | .mx hi _ _=>!hi | .all1 _=>false | .MC _ _=>false | .MA _ _ _=>false | .dz _ _=>false | .Mz _=>false | .blt .sum _ _=>false
 | _=>true
noncomputable def okS:S->Bool
 | .set _ c=>okH c
 | .Dy _ _=>false | .for _ _ _=>false | .raise _ _=>false | .try _ _ _=>false
 | _=>true
theorem bf {a b:Bool} (h:(a||b)=true) (e:b=false):a=true:=by subst e;simpa using h
noncomputable def ifsB (ifs:List Expr) (cond:O) (k:Expr->E->Bool):Bool:=match cond with
 | .none=>ifs.isEmpty
 | .some d=>k1 ifs fun c=>k c d
noncomputable def MD (r:Rec) (G:Gm) (b:Bool) (N:List Str) (sc:Scope) (caps tg:List Nat) (elt:E) (it:Src) (cond:O) (el tn iter:Expr) (ifs:List Expr) (scope:Scope):Bool :=
 (!MJ it||isTup tn)&&vI iter&&z9 N sc scope caps (cN tn)&&r G b N sc (.i iter it) &&
  Jx (fm N caps (cN tn)) (xG scope sc) tn tg&&r G true (fm N caps (cN tn)) (xG scope sc) (.e el elt) &&
  ifsB ifs cond fun c d=>r G true (fm N caps (cN tn)) (xG scope sc) (.t c d)
noncomputable def K6:Mt->Bool | .append=>true | .extend=>true | _=>false
noncomputable def KR:Mt->Str | .append=>"append" | _=>"extend"
noncomputable def chkE (r:Rec) (G:Gm) (b:Bool) (N:List Str) (sc:Scope) (a:Expr) (c:E):Bool:=(G.cm||okH c)&&match c with
 | .bad=>true
 | .v i=>dS a fun x=>decide (N[i]? = some x)&&AN sc x&&nD x
 | .k d=>HD a fun k=>Iz k d
 | .g i=>dS a fun x=>dW sc x&&decide (G.cst.lookup x=some i)&&nD x
 | .tup cs=>yO a fun as=>decide (as.length<=100)&&r G b N sc (.es as cs)
 | .lst _ cs=>Hu a fun as=>decide (as.length<=100)&&r G b N sc (.es as cs)
 | .op o _ x y=>HF a fun l p q=>decide (p=binOp o)&&r G b N sc (.e l x)&&r G b N sc (.e q y)
 | .neg x=>K1 a fun o l=>rR o&&r G b N sc (.e l x)
 | .not x=>K1 a fun o l=>um o&&r G b N sc (.e l x)
 | .and x y=>Je a fun o v w=>ji o&&r G b N sc (.e v x)&&r G b N sc (.e w y)
 | .or x y=>Je a fun o v w=>!ji o&&r G b N sc (.e v x)&&r G b N sc (.e w y)
 | .cmp o x y=>Cz a fun l p q=>decide (p=Ab o)&&!(behindInMarks p q)&&r G b N sc (.e l x)&&r G b N sc (.e q y)
 | .AF t x y=>Hy a fun u l q=>r G b N sc (.t u t)&&r G b N sc (.e l x)&&r G b N sc (.e q y)
 | .idx x y=>yP a fun l q=>nSl q&&r G b N sc (.e l x)&&r G b N sc (.e q y)
 | .sl _ x lo hi=>yP a fun l q=>Hf q fun u v=>r G b N sc (.e l x)&&r G b N sc (.o u lo)&&r G b N sc (.o v hi)
 | .call f cs=>ud a fun x as=>dW sc x&&nD x&&decide (G.fns.lookup x=some (f,as.length))&&as.all bw&&r G b N sc (.es as cs)
 | .jt f cs d=>ud a fun x as=>dW sc x&&nD x&&(G.wL.lookup x).any (fun y=>decide (y.1=f)&&decide (y.2.1=as.length+1)&&decide (y.2.2.1=d))&&!as.isEmpty&&as.all bw&&r G b N sc (.es as cs)
 | .jr f cs e=>kCK a fun x as kw v=>dW sc x&&nD x&&(G.wL.lookup x).any (fun y=>decide (y.1=f)&&decide (y.2.1=as.length+1)&&decide (y.2.2.2=kw))&&!as.isEmpty&&as.all bw&&r G b N sc (.es as cs)&&r G b N sc (.e v e)
 | .CF x t=>ud a fun y as=>k2 as fun l z'=>dS z' fun z=>decide (y = "isinstance")&&decide (z=Str.ofString (oz t))&&dW sc y&&dW sc z&&G.kQ.contains y&&G.kQ.contains z&&bw l&&r G b N sc (.e l x)
 | .blt k _ cs=>ud a fun y as=>k1 as fun l=>decide (LW k=some y)&&dW sc y&&G.kQ.contains y&&bw l&&r G b N sc (.es [l] cs)
 | .bh m _ x cs=>K4 a fun o y ap as cp=>vJ o&&(ap.endLine == cp.line)&&r G b N sc (.e o x) &&
  bif K6 m then decide (KR m=y)&&k1 as fun l=>bw l&&r G b N sc (.es [l] cs)
  else decide (D5 m=some y)&&as.isEmpty&&l8 cs
 | .comp _ caps tg elt it cond=>!b&&MF a fun el tn iter ifs scope _=>MD r G b N sc caps tg elt it cond el tn iter ifs scope
 | .fld x f=>yU a fun l y _=>decide (y=f)&&G.CN.contains f&&vJ l&&r G b N sc (.e l x)
 | .cM c m nm x cs=>K4 a fun o y ap as cp=>decide (y=nm)&&vJ o&&(ap.endLine == cp.line)&&decide (as.length<29)&&decide (G.AE.lookup (c,nm)=some (m,as.length+1))&&as.all bw&&r G b N sc (.e o x)&&r G b N sc (.es as cs)
 | .new c i cs=>ud a fun x as=>dW sc x&&nD x&&decide (G.cls.lookup x=some (c,i,as.length+1))&&as.all bw&&r G b N sc (.es as cs)
 | .mx hi x y=>(G.cm||(!hi&&!b&&G.lt))&&ud a fun z as=>k2 as fun l q=>decide (z=if hi then "max" else "min")&&dW sc z&&G.kQ.contains z&&bw l&&bw q&&r G b N sc (.e l x)&&r G b N sc (.e q y)
 | .pV f x=>ud a fun y as=>k1 as fun l=>decide (f1S f=y)&&dW sc y&&G.kQ.contains y&&bw l&&r G b N sc (.e l x)
 | .jh x c=>ud a fun y as=>k2 as fun l z'=>dS z' fun z=>decide (y = "isinstance")&&dW sc y&&dW sc z&&G.kQ.contains y&&nD z&&bw l&&(match c with | some c=>decide (G.exc.lookup z=some c) | none=>decide (z = "ValueError")&&G.kQ.contains z)&&r G b N sc (.e l x)
 | .Ef ct x cs=>K4 a fun o y ap as cp=>k1 as fun l=>decide (y=if ct then "count" else "index")&&vJ o&&(ap.endLine == cp.line)&&bw l&&r G b N sc (.e o x)&&r G b N sc (.es [l] cs)
 | _=>false
noncomputable def chkT (r:Rec) (G:Gm) (b:Bool) (N:List Str) (sc:Scope) (a:Expr) (c:E):Bool:=match c with
 | .bad=>true
 | .cmp o x y=>Cz a fun l p q=>decide (p=Ab o)&&!(behindInMarks p q)&&r G b N sc (.e l x)&&r G b N sc (.e q y)
 | .not x=>K1 a fun o l=>um o&&r G b N sc (.t l x)
 | .and x y=>Je a fun o v w=>ji o&&r G b N sc (.t v x)&&r G b N sc (.t w y)
 | .or x y=>Je a fun o v w=>!ji o&&r G b N sc (.t v x)&&r G b N sc (.t w y)
 | c=>rj a&&r G b N sc (.e a c)
noncomputable def chkI (r:Rec) (G:Gm) (b:Bool) (N:List Str) (sc:Scope) (a:Expr) (c:Src):Bool:=match c with
 | .e c=>G.cm&&vI a&&r G b N sc (.e a c)
 | .Cp c=>(G.cm||G.lt)&&vI a&&r G b N sc (.e a c)
 | .iO c=>G.cm&&ud a fun y as=>k1 as fun l=>decide (y = "range")&&dW sc y&&G.kQ.contains y&&bw l&&r G b N sc (.e l c)
 | .rev c=>G.cm&&ud a fun y as=>k1 as fun l=>decide (y = "reversed")&&dW sc y&&G.kQ.contains y&&bw l&&r G b N sc (.e l c)
 | _=>false
noncomputable def chkS (r:Rec) (G:Gm) (b:Bool) (N:List Str) (sc:Scope) (a:Stmt) (c:S):Bool:=(G.cm||okS c)&&match c with
 | .bad=>true
 | .set i c=>rQ a fun t e=>K2 t fun x px=>!b&&decide (N[i]? = some x)&&Cr sc x&&yX c (fun caps tg elt it cond=>MF e fun el tn iter ifs scope lp =>
    bif w6 sc scope x px lp then MD r G b N sc caps tg elt it cond el tn iter ifs scope&&rJ sc x else r G b N sc (.e e c)) (lP e&&r G b N sc (.e e c))
 | .qL x y c=>rQ a fun t e=>yP t fun o i=>lP e&&r G b N sc (.e e c)&&r G b N sc (.e o x)&&r G b N sc (.e i y)
 | .Dy tg c=>rQ a fun tn e=>!b&&isTup tn&&Jx N sc tn tg&&K7 e&&r G b N sc (.e e c)
 | .bN x f c=>rQ a fun t e=>yU t fun o y _=>decide (y=f)&&G.CN.contains f&&lP e&&r G b N sc (.e e c)&&r G b N sc (.e o x)
 | .ex c=>HB a fun e=>lP e&&r G b N sc (.e e c)
 | .ret c=>Hh a false fun e=>r G b N sc (.e e c)
 | .ifs c x y=>Hw a fun t l q=>r G b N sc (.t t c)&&r G b N sc (.ss l x)&&r G b N sc (.ss q y)
 | .for tg it x=>kFor a fun tn iter body=>!b&&(!MJ it||isTup tn)&&vI iter&&r G b N sc (.i iter it)&&Jx N sc tn tg&&r G b N sc (.ss body x)
 | .while c x=>kWh a fun t body=>r G b N sc (.t t c)&&r G b N sc (.ss body x)
 | .raise c es=>!b&&G.rz&&Hj a fun e=>ud e fun x as=>k1 as fun m=>dW sc x&&nD x&&decide (G.exc.lookup x=some c) &&
   Hr m (l8 es) fun vs=>decide (2<=vs.length)&&decide (vs.length<=100)&&r G b N sc (.m vs es)
 | .try x hs els=>!b&&sV els&&G8 a fun bd hds=>r { G with rz:=false } b N sc (.ss bd x)&&MM r G N sc hds hs
 | _=>false
noncomputable def stp (r:Rec) (G:Gm) (b:Bool) (N:List Str) (sc:Scope) (nd:Nd):Bool:=match nd with
 | .e a c=>tZ a (fun v=>r G b N sc (.e v c)) (chkE r G b N sc a c)
 | .t a c=>tZ a (fun v=>r G b N sc (.t v c)) (chkT r G b N sc a c)
 | .es as cs=>(match as with
  | []=>l8 cs
  | a::as=>MI cs fun c cs=>bw a&&r G b N sc (.e a c)&&r G b N sc (.es as cs))
 | .o a c=>(match c with
  | .none=>a.isNone
  | .some c=>(match a with
   | some a=>r G b N sc (.e a c)
   | none=>false))
 | .i a c=>chkI r G b N sc a c
 | .s a c=>chkS r G b N sc a c
 | .ss as cs=>(match as with
  | []=>sV cs
  | a::as=>jSs cs fun c cs=>r G b N sc (.s a c)&&r G b N sc (.ss as cs))
 | .m as cs=>(match as with
  | []=>l8 cs
  | a::as=>Ho a (fun y=>decide (y.length<=100000)&&r G b N sc (.m as cs)) fun v k=>MI cs fun e es=>decide (k=-1)&&r G b N sc (.e v e)&&r G b N sc (.m as es))
noncomputable def Ad:Nat->Rec
 | 0=>fun _ _ _ _ _=>false
 | n+1=>stp (Ad n)
noncomputable abbrev fK (G:Gm) (n:Nat) (b:Bool) (N:List Str) (sc:Scope) (nd:Nd):Bool:=Ad n G b N sc nd
end Fg
end
section
namespace Fg
open PySem PySem.Spec L2
section
variable {X:Cx}
theorem PE.weak {e:Expr} {t t':TE} (h:PE X e t) (w:∀ σ H Q,t' σ H Q->t σ H Q):PE X e t':=fun pins s σ H Q I q=>h pins s σ H Q I (w σ H Q q)
theorem PT.weak {e:Expr} {t t':TT} (h:PT X e t) (w:∀ σ H Q,t' σ H Q->t σ H Q):PT X e t':=fun pins s σ H Q I q=>h pins s σ H Q I (w σ H Q q)
theorem PW.weak {e:Expr} {t t':TT} (h:PW X e t) (w:∀ σ H Q,t' σ H Q->t σ H Q):PW X e t':=fun wh pins s σ H Q I q=>h wh pins s σ H Q I (w σ H Q q)
theorem PA.weak {e:List Expr} {t t':TA} (h:PA X e t) (w:∀ σ H Q,t' σ H Q->t σ H Q):PA X e t':=fun pos pins s σ H Q I q=>h pos pins s σ H Q I (w σ H Q q)
theorem PO.weak {e:Option Expr} {t t':TO} (h:PO X e t) (w:∀ σ H Q,t' σ H Q->t σ H Q):PO X e t':=fun pins s σ H Q I q=>h pins s σ H Q I (w σ H Q q)
theorem PI.weak {tg e:Expr} {t t':TI} (h:PI X tg e t) (w:∀ σ H Q,t' σ H Q->t σ H Q):PI X tg e t':=fun pins s σ H Q I q=>h pins s σ H Q I (w σ H Q q)
theorem PS.weak {e:Stmt} {t t':TS} (h:PS X e t) (w:∀ D σ H,t' D σ H->t D σ H):PS X e t':=fun pins s σ H D I q=>h pins s σ H D I (w D σ H q)
theorem jd.weak {e:List Stmt} {t t':TS} (h:jd X e t) (w:∀ D σ H,t' D σ H->t D σ H):jd X e t':=fun pins s σ H D I q=>h pins s σ H D I (w D σ H q)
end
theorem aq {e:Expr} {es:List Expr} {env:Env} (h:bw e=true):starEach (e::es) env=(false,eval e env)::starEach es env:=by
 cases e <;> first | rfl | (simp [bw] at h)
theorem bP {env:Env} {pos:Pos}:∀ {es:List Expr},es.all bw=true->(backTo pos (starEach es env)).any (·.1)=false
 | [],_=>rfl
 | e::es,h=>by
  simp only [List.all_cons,Bool.and_eq_true] at h
  rw [aq h.1]
  have:=bP (env:=env) (pos:=pos) h.2
  simpa [backTo] using this
theorem oF {env:Env} {pos:Pos}:∀ {es:List Expr},es.all bw=true->(backTo pos (starEach es env)).all (fun x=>!x.1)=true
 | [],_=>rfl
 | e::es,h=>by
  simp only [List.all_cons,Bool.and_eq_true] at h
  rw [aq h.1]
  have:=oF (env:=env) (pos:=pos) h.2
  simpa [backTo] using this
theorem lR {o:Expr} {name:Str} {apos pos:Pos} {args:List Expr} {env:Env} (hbase:attributeBase o name env (eval o env)=eval o env) (hst:args.all bw=true) (hl:args.length<29) (hline:(apos.endLine == pos.line)=true) :
  eval (.Call (.Attribute o name apos) args [] pos) env=(do
   let ov <- eval o env
   standAt apos.atName
   let (f,first) <- holding [ov] (getMethod ov name (do return (<- importBound o env).getD true))
   callWith pos f first (backTo pos (starEach args env)) (backToKw pos (keywordEach [] env))):=by
 have Le:methodCallForm (args.length+([]:List Keyword).length) (backTo pos (starEach args env)) (backToKw pos (keywordEach [] env))=true:=by
  unfold methodCallForm
  rw [oF hst]
  simp [backToKw,keywordEach]
  omega
 have hpos:methodCallPos true o env apos pos=pure pos:=by unfold methodCallPos;simp [hline]
 rw [arm_eval_Call,hbase]
 unfold methodCall
 rw [Le]
 simp only [hpos]
 rfl
theorem set_plain {e:Expr} {env:Env} (h:vI e=true):∀ x,foldedSetIterable e env x=pure x:=by
 intro x;cases e <;> first | rfl | (simp [vI] at h)
theorem xq {e:Expr} (h:nSl e=true):uY e:=by
 intro o i;cases e <;> first | rfl | (simp [nSl] at h)
theorem ir {e:Expr} {t:Option Expr} {l:Nat} {env:Env} (h:lP e=true):swapsWith e t l env=pure false:=by
 cases e <;> first | rfl | (simp [lP] at h)
theorem u9 {e:Expr} {env:Env} (h:rj e=true):∀ whole,isTrue e env whole=(do let v <- whole;standAt e.pos;holding [v] (truthy v)):=by
 intro w;cases e <;> first | rfl | (simp [rj] at h)
theorem aU {e:Expr} {n:Str} {env:Env} (h:vJ e=true):attributeBase e n env (eval e env)=eval e env:=by
 cases e <;> first | rfl | (rename_i f _ _ _;cases f <;> first | rfl | (simp [vJ] at h))
theorem boot_list:bootBuiltins ("list" : Str)=some (.type "list"):=by decide +kernel
theorem boot_isinstance:bootBuiltins ("isinstance" : Str)=some (.builtin "isinstance"):=by decide +kernel
theorem Df:∀ t:Ty,bootBuiltins (Str.ofString (oz t))=some (.type (oz t)):=by
 intro t;cases t <;> decide +kernel
theorem Dz:∀ t:Ty, Str.ofString (oz t)≠("__name__" : Str)/\(Str.ofString (oz t) == ("__debug__" : Str))=false:=by
 intro t;cases t <;> decide
noncomputable def jo:Es->Nat
 | .nil=>0
 | .cons _ es=>jo es+1
theorem aM {Φ:aL}:∀ {es:Es} {σ:Sg} {M:MH} {ds:List D} {M':MH},bX Φ es σ M=.ok ds M'->ds.length=jo es
 | .nil,σ,M,ds,M',h=>by simp only [bX] at h;cases h;rfl
 | .cons e es,σ,M,ds,M',h=>by
  simp only [bX] at h
  cases h1:ev Φ e σ M with
  | ok x M1 =>
   rw [h1] at h
   simp only [R.af] at h
   cases h2:bX Φ es σ M1 with
   | ok xs M2 =>
    rw [h2] at h
    simp only [R.af] at h
    cases h
    simp [jo,aM h2]
   | exc c M2=>rw [h2] at h;cases h
   | bad=>rw [h2] at h;cases h
  | exc c M1=>rw [h1] at h;cases h
  | bad=>rw [h1] at h;cases h
theorem az {a b:Bool} (h:(a&&b)=true):a=true/\b=true:=(Bool.and_eq_true a b).mp h
theorem dg {G:Gm} {b:Bool} {N:List Str} {sc:Scope}:∀ {n:Nat} {as:List Expr} {cs:Es},fK G n b N sc (.es as cs)=true->jo cs=as.length/\as.all bw=true
 | 0,_,_,h=>by cases h
 | n+1,[],cs,h=>by
  have:=iH (c:=cs) h
  subst this
  exact ⟨rfl,rfl⟩
 | n+1,a::as,cs,h=>by
  replace h:=yW (c:=cs) h
  obtain ⟨c,cs,rfl,h⟩:=h
  replace h:=az h
  obtain ⟨h,h3⟩:=h
  replace h:=az h
  obtain ⟨h1,h2⟩:=h
  obtain ⟨q1,q2⟩:=dg h3
  exact ⟨congrArg (·+1) q1,by rw [List.all_cons,h1,q2];rfl⟩
inductive wA (th:Addr->Prop):Hp->Hp->Prop
 | refl (H:Hp):wA th H H
 | step {H H1 H2:Hp}:AI th H H1->wA th H1 H2->wA th H H2
noncomputable def GX:Bool->Cx->XS->Gx
 | true,_,w=>⟨w,fun _=>False,fun cv x σ H H' t h=>by
  rcases t with rfl | ⟨_,_,_,z,_⟩
  ·exact h
  ·exact z.elim⟩
 | false,X,w=>⟨fun cv x σ H=>∃ H',wA (DB X) H H'/\w cv x σ H',DB X,fun cv x σ H H' t ⟨H2,h1,h2⟩=>⟨H2,.step t h1,h2⟩⟩
theorem oA {X:Cx} {pins:List (Addr×Obj)} {σ:L2.St} {H H':Hp} {s:Shared} (I:Inv X pins σ H s) (t:wA (DB X) H H'):Inv X pins σ H' s:=by
 induction t with
 | refl=>exact I
 | step t _ ih=>exact ih (dU I t)
theorem vc {th:Addr->Prop} {H H':Hp} (t:wA th H H') {b:Addr} (h:H' b≠none):H b≠none:=by
 induction t with
 | refl=>exact h
 | step t _ ih =>
  have:=ih h
  rcases t with rfl | ⟨a,o,kvs,_,h1,rfl⟩
  ·exact this
  ·by_cases e:b=a
   ·subst e;rw [h1];simp
   ·rw [aj e] at this;exact this
theorem pX {X:Cx} {w:XS} {e:Value} {s:Shared} (h:gY X (GX false X w).e e s):gY X w e s:=by
 obtain ⟨pins,σ,H,a,a0,C,B,h1,I,up,ef,hp,H',t,q⟩:=h
 exact ⟨pins,σ,H',a,a0,C,B,h1,oA I t,up,fun b hb hf=>ef b (hb.imp (vc t) id) hf,hp,q⟩
theorem yj {X:Cx} {w:XS} {e:Value} {s:Shared} (h:EV X (GX false X w).e e s):EV X w e s:=by
 obtain ⟨pins,σ,H,a,C,vs,hh,h1,I,made,H',t,q⟩:=h
 exact ⟨pins,σ,H',a,C,vs,hh,h1,oA I t,made,q⟩
structure c9 (G:Gm) (B:Bd) (Φ:aL) (k:Nat) (X:Cx) (N:List Str) (sc:Scope) (b:Bool) (w:XS):Prop where
 hN:X.N=N
 nd:N.Nodup
 hsc:X.env.scope=sc
 K:B.K=X.K
 calm:G.cm=true->X.calm=true
 rm:bG G.cm k X.A
 dk:ly B X
 fo:∀ e s,X.xe e s->gY X (GX b X w).e e s\/EV X (GX b X w).e e s
 fx:∀ e s,gY X (GX b X w).e e s->X.xe e s
 nx:b=false->G.rz=true->∀ e s,EV X (GX b X w).e e s->X.xe e s
 fr:qt X
 fn:b=false->∀ x,X.fn x=true
 fns:∀ f i m,G.fns.lookup f=some (i,m)->∃ fa fd ps,X.mg f=some (.ref fa)/\W.keepIn X.K (.ref fa)=true/\Binds X.K fd ps []/\aZ G.cm X.prog X.w X.K X.mg X.base (eB X.prog X.w) k fa fd ps (mL B Φ i m)
 cst:∀ x i,G.cst.lookup x=some i->∃ v u,X.mg x=some u/\RelV v u/\∀ d,Φ.glob i=some d->∀ F ρ H,RD B F ρ H d v
 blt:∀ x,G.kQ.contains x=true->X.mg x=none
 cls:∀ c C,B.cls c=some C->wC X.K C/\∀ f,G.CN.contains f=true->dN X.K C f
 AE:∀ c nm i m,G.AE.lookup (c,nm)=some (i,m)->∃ C fa fd ps,B.cls c=some C/\Meth X.K C nm fa/\Binds X.K fd ps []/\aZ G.cm X.prog X.w X.K X.mg X.base (eB X.prog X.w) k fa fd ps (mL B Φ i m)
 KS:∀ x c i m,G.cls.lookup x=some (c,i,m)->∃ C fa fd ps,X.mg x=some (.ref C)/\B.cls c=some C/\Mk X.K C fa/\Binds X.K fd ps [] /\
  ((∃ j,k=j+1/\aZ G.cm X.prog X.w X.K X.mg X.base (eB X.prog X.w) j fa fd ps (spI B Φ i m))\/∀ ds M,Φ.ini i ds M=.bad)
 exc:∀ x c, G.exc.lookup x=some c->∃ C bmB newId bm base initId, X.mg x=some (.ref C)/\B.AD c=some C/\B.exc c (.ref C)/\nY X.K C bmB newId bm/\ExcBaseFacts base newId initId bmB/\bm.contains (.type "BaseException")=true
 Ep:∀ c cv,B.exc c cv->∃ C bmB newId bm,cv=.ref C/\B.AD c=some C/\nY X.K C bmB newId bm/\∀ d D,B.AD d=some D->(Value.ref C::bm).contains (.ref D)=Φ.sub c d
 wL:∀ x f m d z,G.wL.lookup x=some (f,m,d,z)->∃ fa fd ps du,X.mg x=some (.ref fa)/\W.keepIn X.K (.ref fa)=true/\Binds X.K fd ps [du]/\RelV (.int d) du/\KB X.K fd ps z/\aZ G.cm X.prog X.w X.K X.mg X.base (eB X.prog X.w) k fa fd ps (mL B Φ f m)
 st:b=false->X.stack=X.env::X.outer/\X.env.frame=some X.env.locals
 n9:∀ f i m,G.n9.lookup f=some (i,m)->∃ fa fd ps,X.mg f=some (.ref fa)/\W.keepIn X.K (.ref fa)=true/\Binds X.K fd ps []/\aZ false X.prog X.w X.K X.mg X.base (eB X.prog X.w) k fa fd ps (mL B Φ i m)
 lit:b=false->G.lt=true->G.cm=false->Cm true X
 jh:∀ c C, B.AD c=some C->Ax X.K C/\W.kitOne X.K (.ref C) (.type "ValueError")=some true/\∀ d D, B.AD d=some D->W.kitOne X.K (.ref C) (.ref D)=some (Φ.sub c d)
section
variable {G:Gm} {B:Bd} {Φ:aL} {k:Nat} {X:Cx} {N:List Str} {sc:Scope} {b:Bool} {w:XS}
theorem c9.JZ (O:c9 G B Φ k X N sc b w):Rm X:=by have:=O.rm.un;unfold Rm;omega
theorem c9.DP (O:c9 G B Φ k X N sc b w) (e:G.cm=true):bG true k X.A:=e ▸ O.rm
theorem Em {cm:Bool} {k:Nat} {fa:Addr} {fd:FuncData} {ps:List Str} {sp:Sp} (e:cm=true) (F:aZ cm X.prog X.w X.K X.mg X.base (eB X.prog X.w) k fa fd ps sp):aZ true X.prog X.w X.K X.mg X.base (eB X.prog X.w) k fa fd ps sp:=e ▸ F
theorem c9.i6 (O:c9 G B Φ k X N sc b w) {x:Str} (h:dW sc x=true):Gl X x:=by
 show X.env.scope.names.lookup x=some .globalImplicit
 rw [O.hsc]
 unfold dW at h
 split at h
 ·assumption
 ·cases h
theorem c9.vis (O:c9 G B Φ k X N sc b w) {x:Str} (h:AN sc x=true):Nj X.env.scope x:=by
 unfold Nj
 rw [O.hsc]
 unfold AN at h
 split at h
 ·rename_i q;exact .inl q
 ·rename_i q;exact .inr (.inl q)
 ·rename_i q;exact .inr (.inr q)
 ·cases h
theorem c9.loc (O:c9 G B Φ k X N sc b w) {x:Str} (h:Cr sc x=true):L2.Loc X.env.scope x:=by
 unfold L2.Loc
 rw [O.hsc]
 unfold Cr at h
 split at h
 ·rename_i q;exact .inl q
 ·rename_i q;exact .inr q
 ·cases h
theorem bY {x:Str} (h:nD x=true):(x == ("__debug__" : Str))=false/\(x == ("__classdict__" : Str))=false:=by
 simp only [nD,Bool.and_eq_true,Bool.not_eq_true'] at h;exact h
theorem c9.EM (O:c9 G B Φ k X N sc b w) {scope:Scope} {N':List Str} (hn:N'.Nodup) (cl:List (Str×Addr)) (fp:List Addr) (s:Shared) (H:Hp) (C:Addr) (E:XK):c9 G B Φ k (dM X scope cl N' fp s H C E) N' (xG scope sc) true (fun cv x _ H'=>E cv x H') :=
 ⟨rfl,hn,by show relabel scope X.env=xG scope sc;rw [<- O.hsc];rfl,O.K,O.calm,O.rm,O.dk,(fun e s ⟨p,σ,H,a,a0,C,B,h1,I,h⟩=>.inl ⟨p,σ,H,a,a0,C,B,h1,I.bM _,h⟩),(fun e s ⟨p,σ,H,a,a0,C,B,h1,I,h⟩=>⟨p,σ,H,a,a0,C,B,h1,I.aX,h⟩),(fun h=>by cases h),(by
  obtain ⟨env,outer,L,h1,h2,h3⟩:=O.fr
  exact ⟨env,outer,L,h1,h2,h3⟩),(fun h=>by cases h),O.fns,O.cst,O.blt,O.cls,O.AE,O.KS,O.exc,O.Ep,O.wL,(fun h=>by cases h),O.n9,(fun h=>by cases h),O.jh⟩
theorem c9.comp (O:c9 G B Φ k X N sc b w) {scope:Scope} {caps:List Nat} {tn:List Str} {n:Nat} (h:z9 N sc scope caps tn=true) (hn:tn.length=n):gW X scope (fm N caps tn) caps n/\(fm N caps tn).Nodup:=by
 simp only [z9,Bool.and_eq_true,List.all_eq_true,decide_eq_true_eq] at h
 obtain ⟨⟨⟨h1,h2⟩,h3⟩,h4⟩:=h
 refine ⟨⟨fun x hx=>?_,fun y hy z=>?_,by simpa using h2,fun y hy z=>?_,by simp [fm,hn],fun i j x e1 e2=>?_⟩,h4⟩
 ·have:=h1 _ hx
  show X.env.scope.names.lookup x=some .cell\/X.env.scope.names.lookup x=some .free
  rw [O.hsc]
  simp only at this
  split at this
  ·rename_i q;exact .inl q
  ·rename_i q;exact .inr q
  ·cases this
 ·have:=h1 _ hy
  rw [z] at this
  simp at this
 ·have:=h1 _ hy
  rw [z] at this
  simp only at this
  split at this
  ·assumption
  ·cases this
 ·have hj:j∈caps:=List.mem_of_getElem? e2
  have:=h3 j hj
  have hi:i<caps.length:=(List.getElem?_eq_some_iff.mp e2).1
  unfold fm at e1
  rw [List.getElem?_append_left (by simpa using hi),List.getElem?_map,e2] at e1
  simp only [Option.map_some,Option.some.injEq] at e1
  split at this
  ·rename_i y hy
   rw [hy] at e1
   simp only [Option.getD_some] at e1
   subst e1
   rw [O.hN]
   refine ⟨hy,?_⟩
   split at this
   ·assumption
   ·cases this
  ·cases this
theorem yC {x:Str} (h:rJ sc x=true):sc.names.lookup x=some .local:=by
 unfold rJ at h
 split at h
 ·assumption
 ·cases h
theorem c9.nm (O:c9 G B Φ k X N sc b w) {i:Nat} {x:Str} {p:Pos} (h:KN N sc i x=true):PG X (.Name x p) (jj i):=by
 replace h:=az h
 obtain ⟨h1,h2⟩:=h
 have hl:X.env.scope.names.lookup x=some .local:=by rw [O.hsc];exact yC h2
 exact BX (by rw [O.hN];exact O.nd) (by rw [O.hN];exact of_decide_eq_true h1) (.inl hl) (.inr hl)
noncomputable def gNs:List Nat->EU
 | []=>Lh
 | i::is=>Ej (jj i) (gNs is)
theorem zu:∀ {is:List Nat} {xs:List V} {σ:St} {H:Hp} {Q:St->Hp->Prop},xs.length=is.length->Q (iT is xs σ) H->gNs is xs σ H Q
 | [],[],σ,H,Q,_,q=>⟨rfl,q⟩
 | [],_::_,_,_,_,h,_=>by cases h
 | _::_,[],_,_,_,h,_=>by cases h
 | i::is,x::xs,σ,H,Q,h,q=>⟨x,xs,rfl,zu (is:=is) (xs:=xs) (σ:=σ.set i (some x)) (by simpa using h) q⟩
theorem c9.nms (O:c9 G B Φ k X N sc b w):∀ {as:List Expr} {is:List Nat},Cg N sc as is=true->(assignEach as X.env).length=is.length/\(assignEach as X.env).findIdx? (·.1)=none/\L6 X as (gNs is)/\as.length=is.length
 | [],[],_=>⟨rfl,rfl,tS,rfl⟩
 | [],_::_,h=>by cases h
 | _::_,[],h=>by cases h
 | a::as,i::is,h=>by
  replace h:=az h
  obtain ⟨h1,h2⟩:=h
  replace h1:=bE h1
  obtain ⟨x,p,rfl,h1⟩:=h1
  obtain ⟨q1,q2,q3,q4⟩:=O.nms h2
  have e:assignEach (.Name x p::as) X.env=(false,assign (.Name x p) X.env)::assignEach as X.env:=rfl
  refine ⟨?_,?_,kg (O.nm (p:=p) h1) q3 (by rw [e];rfl),by rw [List.length_cons,List.length_cons,q4]⟩
  ·rw [e,List.length_cons,List.length_cons,q1]
  ·rw [e,List.findIdx?_cons,q2];rfl
theorem c9.tg (O:c9 G B Φ k X N sc b w) {tn:Expr} {tg:List Nat} (iu:(G.cm||(tg.length == 1))=true) (h:Jx N sc tn tg=true):PG X tn (Jk tg B.K)/\(cN tn).length=tg.length:=by
 cases tg with
 | nil=>cases h
 | cons i r=>cases r with
  | nil =>
   replace h:=bE h
   obtain ⟨x,p,rfl,h⟩:=h
   exact ⟨O.nm h,rfl⟩
  | cons j r=>cases r with
   | cons l r =>
    replace h:=kB h
    obtain ⟨as,k1,pt,rfl,h⟩:=h
    obtain ⟨q1,q2,q3,q4⟩:=O.nms h
    have p:=xT (X:=X) (pos:=pt) (k:=k1) (n:=(i::j::l::r).length) (O.calm (bf iu (by simp))) q3 q1 q2
    refine ⟨fun pins s σ H v u Q I r q=>p pins s σ H v u Q I r ?_,by rw [<- q4];exact List.length_map ..⟩
    obtain ⟨a,xs,e,sq,hl,q⟩:=q
    rw [O.K] at sq
    exact ⟨a,xs,e,sq,hl,zu hl q⟩
   | nil =>
    replace h:=kB h
    obtain ⟨as,k1,pt,rfl,h⟩:=h
    replace h:=yV h
    obtain ⟨l,r,rfl,h⟩:=h
    replace h:=bE h
    obtain ⟨x,px,rfl,h⟩:=h
    replace h:=bE h
    obtain ⟨y,py,rfl,h⟩:=h
    replace h:=az h
    obtain ⟨h1,h2⟩:=h
    have p:=xT (X:=X) (pos:=pt) (k:=k1) (n:=2) (O.calm (bf iu rfl)) (kg (O.nm (p:=px) h1) (kg (O.nm (p:=py) h2) tS))
    refine ⟨fun pins s σ H v u Q I r q=>p pins s σ H v u Q I r ?_,rfl⟩
    obtain ⟨a,x',y',e,sq,q⟩:=q
    rw [O.K] at sq
    exact ⟨a,[x',y'],e,sq,rfl,x',[y'],rfl,y',[],rfl,rfl,q⟩
end
end Fg
end
section
namespace Fg
open PySem PySem.Spec L2
section
variable {G:Gm} {B:Bd} {Φ:aL} {k:Nat}
structure wN (G:Gm) (B:Bd) (Φ:aL) (k n:Nat) (X:Cx) (N:List Str) (sc:Scope) (b:Bool) (w:XS):Prop where
 e:∀ a c,fK G n b N sc (.e a c)=true->PE X a (T B Φ (GX b X w) c)
 t:∀ a c,fK G n b N sc (.t a c)=true->PT X a (TB B Φ (GX b X w) c)/\(∀ op v p,a=.BoolOp op v p->PW X a (TB B Φ (GX b X w) c))
 es:∀ a c,fK G n b N sc (.es a c)=true->PA X a (TL B Φ (GX b X w) c)
 o:∀ a c,fK G n b N sc (.o a c)=true->PO X a (TP B Φ (GX b X w) c)
 i:b=false->∀ a c tg,(!MJ c||isTup tg)=true->fK G n b N sc (.i a c)=true->PI X tg a (Dl B Φ (GX b X w) c)
 s:∀ a c,fK G n b N sc (.s a c)=true->PS X a (TC B Φ (GX b X w) c)
 ss:∀ a c,fK G n b N sc (.ss a c)=true->jd X a (qq B Φ (GX b X w) c)
 m:∀ a c,fK G n b N sc (.m a c)=true->PJ X B Φ (GX b X w) a c
theorem Ay {E:Gx} {σ:L2.St} {H:Hp} {Q:VK} (h:T B Φ E .bad σ H Q):False:=by
 obtain ⟨σD,M,F,ρ,S,r,h⟩:=h
 simp only [ev] at h
 exact h
theorem IS {E:Gx} {Dn:Ends} {σ:L2.St} {H:Hp} (h:TC B Φ E .bad Dn σ H):False:=by
 obtain ⟨σD,M,F,ρ,S,r,h⟩:=h
 simp only [ex] at h
 exact h
variable {X:Cx} {N:List Str} {sc:Scope} {b:Bool} {n:Nat} {w:XS}
theorem A9 {a:Const} {d:D} {j:Nat} {p:Pos} {E:Gx} (h:Iz a d=true):PE X (.Constant a j p) (T B Φ E (.k d)):=by
 unfold Iz at h
 split at h
 ·rw [of_decide_eq_true h];exact PE.weak Gj fun _ _ _=>sZ rfl
 ·rw [of_decide_eq_true h];exact PE.weak qV fun _ _ _=>sZ rfl
 ·rw [of_decide_eq_true h];exact PE.weak Kr fun _ _ _=>sZ rfl
 ·exact PE.weak Gg fun _ _ _=>sZ rfl
 ·cases h
theorem ua:∀ {as:List Expr} {is:List Nat},Cg N sc as is=true->as.length=is.length
 | [],[],_=>rfl
 | [],_::_,h=>by cases h
 | _::_,[],h=>by cases h
 | a::as,i::is,h=>by rw [List.length_cons,List.length_cons,ua (az h).2]
theorem E2 {tn:Expr} {tg:List Nat} (h:Jx N sc tn tg=true):(cN tn).length=tg.length:=by
 cases tg with
 | nil=>cases h
 | cons i r=>cases r with
  | nil=>replace h:=bE h;obtain ⟨x,p,rfl,h⟩:=h;rfl
  | cons j r=>cases r with
   | cons l r =>
    replace h:=kB h
    obtain ⟨as,k1,pt,rfl,h⟩:=h
    exact (List.length_map ..).trans (ua h)
   | nil =>
    replace h:=kB h
    obtain ⟨as,k1,pt,rfl,h⟩:=h
    replace h:=yV h
    obtain ⟨l,r,rfl,h⟩:=h
    rfl
theorem oH (O:c9 G B Φ k X N sc false w) (ih:wN G B Φ k n X N sc false w) (HP:∀ X' N' sc' w',c9 G B Φ k X' N' sc' true w'->wN G B Φ k n X' N' sc' true w') {caps tg:List Nat} {elt:Fg.E} {it:Src} {cond:Fg.O} {el tn iter:Expr} {ifs:List Expr} {scope:Scope} (iu:(G.cm||(tg.length == 1))=true)
  (h:MD (Ad n) G false N sc caps tg elt it cond el tn iter ifs scope=true) :
  gW X scope (fm N caps (cN tn)) caps tg.length/\PI X tn iter (Dl B Φ (GX false X w) it) /\
   (∀ σ cl fp s H C,PG (dM X scope cl (fm N caps (cN tn)) fp s H C fun cv x H'=>(GX false X w).e cv x σ H') tn (Jk tg B.K)/\Jo (dM X scope cl (fm N caps (cN tn)) fp s H C fun cv x H'=>(GX false X w).e cv x σ H') ifs (TBo B Φ (EB (GX false X w) σ) cond)/\PE (dM X scope cl (fm N caps (cN tn)) fp s H C fun cv x H'=>(GX false X w).e cv x σ H') el (T B Φ (EB (GX false X w) σ) elt))/\∀ x,foldedSetIterable iter X.env x=pure x:=by
 simp only [MD,Bool.and_eq_true] at h
 obtain ⟨⟨⟨⟨⟨⟨h0,h1⟩,h2⟩,h3⟩,h4⟩,h5⟩,h6⟩:=h
 have hlen:(cN tn).length=tg.length:=E2 h4
 obtain ⟨C1,C2⟩:=O.comp h2 hlen
 refine ⟨C1,ih.i rfl iter it tn h0 h3,fun σ cl fp s H C=>?_,set_plain h1⟩
 have OB:=O.EM (scope:=scope) C2 cl fp s H C fun cv x H'=>(GX false X w).e cv x σ H'
 have S:=HP _ _ _ _ OB
 refine ⟨(OB.tg iu h4).1,?_,S.e el elt h5⟩
 cases cond with
 | none=>cases ifs with
  | nil=>exact BK
  | cons _ _=>cases h6
 | some d =>
  replace h6:=gI h6
  obtain ⟨c,rfl,h6⟩:=h6
  exact BJ (S.t c d h6).1
theorem ER {α:Type} {o:Option α} {p:α->Bool} (h:o.any p=true):∃ x,o=some x/\p x=true:=by
 cases o with
 | none=>cases h
 | some x=>exact ⟨x,rfl,h⟩
theorem JR (O:c9 G B Φ k X N sc b w) (ih:wN G B Φ k n X N sc b w) (HP:∀ X' N' sc' w',c9 G B Φ k X' N' sc' true w'->wN G B Φ k n X' N' sc' true w') (a:Expr) (c:Fg.E) (h:fK G (n+1) b N sc (.e a c)=true):PE X a (T B Φ (GX b X w) c):=by
 replace h:=tY h
 rcases h with ⟨o,v,p,rfl,h⟩ | h
 ·exact Ge (ih.e _ _ h)
 ·replace h:=az h
  obtain ⟨iu,h⟩:=h
  cases c with
  | bad=>exact fun _ _ _ _ _ _ q=>(Ay q).elim
  | v i =>
   replace h:=bE h
   obtain ⟨x,p,rfl,h⟩:=h
   simp only [Bool.and_eq_true,decide_eq_true_eq] at h
   exact PE.weak (xU (by rw [O.hN];exact h.1.1) (O.vis h.1.2) (bY h.2).1 (bY h.2).2) fun _ _ _=>DM
  | k d =>
   replace h:=HC h
   obtain ⟨x,j,p,rfl,h⟩:=h
   exact A9 h
  | g i =>
   replace h:=bE h
   obtain ⟨x,p,rfl,h⟩:=h
   simp only [Bool.and_eq_true,decide_eq_true_eq] at h
   obtain ⟨v,u,q1,q2,q3⟩:=O.cst _ _ h.1.2
   exact PE.weak (tT (O.i6 h.1.1) q1 q2 (bY h.2).1) fun _ _ _=>JT q3
  | tup cs =>
   replace h:=kB h
   obtain ⟨as,j,p,rfl,h⟩:=h
   simp only [Bool.and_eq_true,decide_eq_true_eq] at h
   obtain ⟨hl,_⟩:=dg h.2
   refine PE.weak (Gd (ih.es _ _ h.2)) fun _ _ _=>Bf fun q=>?_
   rw [aM q,hl];exact Nat.le_trans h.1 (by decide)
  | lst fz cs =>
   replace h:=Ht h
   obtain ⟨as,p,rfl,h⟩:=h
   simp only [Bool.and_eq_true,decide_eq_true_eq] at h
   obtain ⟨hl,_⟩:=dg h.2
   refine PE.weak (Gi (ih.es _ _ h.2)) fun _ _ _=>Br fun q=>?_
   rw [aM q,hl];exact Nat.le_trans h.1 (by decide)
  | Iw=>cases h
  | op o fz x y =>
   replace h:=HE h
   obtain ⟨l,p,q,pos,rfl,h⟩:=h
   simp only [Bool.and_eq_true,decide_eq_true_eq] at h
   obtain ⟨⟨h1,h2⟩,h3⟩:=h
   subst h1
   exact PE.weak (Kp (GD O.K o) (ih.e _ _ h2) (ih.e _ _ h3)) fun _ _ _=>Fp
  | neg x =>
   replace h:=yN h
   obtain ⟨o,l,p,rfl,h⟩:=h
   replace h:=az h
   obtain ⟨ho,h⟩:=h
   cases yZ ho
   exact PE.weak (Kn EZ (ih.e _ _ h)) fun _ _ _=>Bo
  | not x =>
   replace h:=yN h
   obtain ⟨o,l,p,rfl,h⟩:=h
   replace h:=az h
   obtain ⟨ho,h⟩:=h
   cases uh ho
   exact PE.weak (Gf (ih.e _ _ h)) fun _ _ _=>sX
  | and x y =>
   replace h:=ue h
   obtain ⟨o,v,w,r,p,rfl,h⟩:=h
   replace h:=az h
   obtain ⟨h,h3⟩:=h
   replace h:=az h
   obtain ⟨h1,h2⟩:=h
   cases uo h1
   replace h:=And.intro h2 h3
   exact PE.weak (Gn (ih.e _ _ h.1) (ih.e _ _ h.2)) fun _ _ _=>tF
  | or x y =>
   replace h:=ue h
   obtain ⟨o,v,w,r,p,rfl,h⟩:=h
   replace h:=az h
   obtain ⟨h,h3⟩:=h
   replace h:=az h
   obtain ⟨h1,h2⟩:=h
   cases y9 (by simpa using h1)
   replace h:=And.intro h2 h3
   exact PE.weak (Ko (ih.e _ _ h.1) (ih.e _ _ h.2)) fun _ _ _=>xx
  | cmp o x y =>
   replace h:=yR h
   obtain ⟨l,p,q,pos,rfl,h⟩:=h
   simp only [Bool.and_eq_true,decide_eq_true_eq,Bool.not_eq_true'] at h
   obtain ⟨⟨⟨h1,h2⟩,h3⟩,h4⟩:=h
   subst h1
   exact PE.weak (B0 (ye O.K O.JZ O.dk o) (ih.e _ _ h3) (ih.e _ _ h4) h2) fun _ _ _=>tD
  | AF t x y =>
   replace h:=Hx h
   obtain ⟨u,l,q,pos,rfl,h⟩:=h
   simp only [Bool.and_eq_true] at h
   exact PE.weak (xZ (ih.t _ _ h.1.1).1 (ih.e _ _ h.1.2) (ih.e _ _ h.2)) fun _ _ _=>Bw
  | idx x y =>
   replace h:=rN h
   obtain ⟨l,q,pos,rfl,h⟩:=h
   simp only [Bool.and_eq_true] at h
   exact PE.weak (Kq (HL O.K O.dk) (ih.e _ _ h.1.2) (ih.e _ _ h.2) (xq h.1.1)) fun _ _ _=>Bx
  | sl fz x lo hi =>
   replace h:=rN h
   obtain ⟨l,q,pos,rfl,h⟩:=h
   replace h:=G9 h
   obtain ⟨u,v,sp,rfl,h⟩:=h
   simp only [Bool.and_eq_true] at h
   exact PE.weak (xV (Fj O.K) (ih.e _ _ h.1.1) (ih.o _ _ h.1.2) (ih.o _ _ h.2)) fun _ _ _=>Fo
  | call f cs =>
   replace h:=eY h
   obtain ⟨x,p,as,pos,rfl,h⟩:=h
   simp only [Bool.and_eq_true,decide_eq_true_eq] at h
   obtain ⟨⟨⟨⟨h1,h2⟩,h3⟩,h4⟩,h5⟩:=h
   obtain ⟨fa,fd,ps,q1,q2,q3,q4⟩:=O.fns _ _ _ h3
   obtain ⟨hl,_⟩:=dg h5
   cases as with
   | nil =>
    refine PE.weak (vD (Em (bf iu rfl) q4) (O.DP (bf iu rfl)) (O.i6 h1) q1 q2 q3 O.fx (bY h2).1) fun _ _ _ q=>?_
    have:=j0 (fun z=>by rw [aM z,hl]) q
    cases cs with
    | nil=>exact gf this
    | cons _ _=>simp [jo] at hl
   | cons e es =>
    simp only [List.all_cons,Bool.and_eq_true] at h4
    exact PE.weak (x9 (Em (bf iu rfl) q4) (O.DP (bf iu rfl)) (O.i6 h1) q1 q2 q3 O.fx (ih.es _ _ h5) (bY h2).1 (aq h4.1) (bP h4.2)) fun _ _ _=>j0 (fun z=>by rw [aM z,hl])
  | jr f cs c =>
   replace h:=K3 h
   obtain ⟨x,p,as,kw,v,kp,pos,rfl,h⟩:=h
   simp only [Bool.and_eq_true,decide_eq_true_eq] at h
   obtain ⟨⟨⟨⟨⟨⟨h1,h2⟩,h3⟩,h6⟩,h4⟩,h5⟩,h7⟩:=h
   obtain ⟨⟨f',m',d',z'⟩,hd,h3⟩:=ER h3
   simp only [Bool.and_eq_true,decide_eq_true_eq] at h3
   obtain ⟨⟨rfl,rfl⟩,rfl⟩:=h3
   obtain ⟨fa,fd,ps,du,q1,q2,_,_,q3,q4⟩:=O.wL _ _ _ _ _ hd
   obtain ⟨hl,_⟩:=dg h5
   cases as with
   | nil=>cases h6
   | cons e es =>
    simp only [List.all_cons,Bool.and_eq_true] at h4
    exact PE.weak (Fg.x6 (Em (bf iu rfl) q4) (O.DP (bf iu rfl)) (O.i6 h1) q1 q2 q3 O.fx (ih.es _ _ h5) (ih.e _ _ h7) (bY h2).1 (aq h4.1) (bP h4.2)) fun _ _ _=>vm (fun z=>by rw [aM z,hl])
  | MB fz x y=>cases h
  | jt f cs d =>
   replace h:=eY h
   obtain ⟨x,p,as,pos,rfl,h⟩:=h
   simp only [Bool.and_eq_true,decide_eq_true_eq] at h
   obtain ⟨⟨⟨⟨⟨h1,h2⟩,h3⟩,h6⟩,h4⟩,h5⟩:=h
   obtain ⟨⟨f',m',d',z'⟩,hd,h3⟩:=ER h3
   simp only [Bool.and_eq_true,decide_eq_true_eq] at h3
   obtain ⟨⟨rfl,rfl⟩,rfl⟩:=h3
   obtain ⟨fa,fd,ps,du,q1,q2,q3,q5,_,q4⟩:=O.wL _ _ _ _ _ hd
   obtain ⟨hl,_⟩:=dg h5
   cases as with
   | nil=>cases h6
   | cons e es =>
    simp only [List.all_cons,Bool.and_eq_true] at h4
    exact PE.weak (ya (Em (bf iu rfl) q4) (O.DP (bf iu rfl)) (O.i6 h1) q1 q2 q3 q5 O.fx (ih.es _ _ h5) (bY h2).1 (aq h4.1) (bP h4.2)) fun _ _ _=>vn (fun z=>by rw [aM z,hl])
  | CF x t =>
   replace h:=eY h
   obtain ⟨y,p,as,pos,rfl,h⟩:=h
   replace h:=yV h
   obtain ⟨l,z0,rfl,h⟩:=h
   replace h:=bE h
   obtain ⟨z,zp,rfl,h⟩:=h
   simp only [Bool.and_eq_true,decide_eq_true_eq] at h
   obtain ⟨⟨⟨⟨⟨⟨⟨h1,h2⟩,h3⟩,h4⟩,h5⟩,h6⟩,h7⟩,h8⟩:=h
   subst h1 h2
   refine PE.weak (cP (Ae O.K O.dk) (O.i6 h3) (O.blt _ h5) boot_isinstance (aT (ih.e _ _ h8) (aT (tV (v:=.ty (oz t)) (O.i6 h4) (O.blt _ h6) (Df t) rfl (Dz t).1 (Dz t).2) cQ) (aq h7)) (by decide) (by decide) (aq h7)) fun _ _ _=>Bu
  | jh x c =>
   replace h:=eY h
   obtain ⟨y,p,as,pos,rfl,h⟩:=h
   replace h:=yV h
   obtain ⟨l,z0,rfl,h⟩:=h
   replace h:=bE h
   obtain ⟨z,zp,rfl,h⟩:=h
   replace h:=az h
   obtain ⟨h,h8⟩:=h
   replace h:=az h
   obtain ⟨h,h7⟩:=h
   simp only [Bool.and_eq_true,decide_eq_true_eq] at h
   obtain ⟨⟨⟨⟨⟨h1,h3⟩,h4⟩,h5⟩,h2⟩,h6⟩:=h
   subst h1
   cases c with
   | some c =>
    obtain ⟨C,_,_,_,_,_,q1,q2,_⟩:=O.exc _ _ (of_decide_eq_true h7)
    refine PE.weak (cP (qo (v:=.ref C)) (O.i6 h3) (O.blt _ h5) boot_isinstance (aT (ih.e _ _ h8) (aT (tT (v:=.ref C) (O.i6 h4) q1 rfl (bY h2).1) cQ) (aq h6)) (by decide) (by decide) (aq h6)) fun _ _ _ q=>?_
    rw [<- O.K]
    refine tu (cv:=.ref C) (fun u r=>r) (fun d D hd=>?_) q
    obtain ⟨k1,_,k3⟩:=O.jh d D hd
    rw [O.K]
    exact ⟨k1,k3 c C q2⟩
   | none =>
    replace h7:=az h7
    obtain ⟨h7,h9⟩:=h7
    cases of_decide_eq_true h7
    refine PE.weak (cP (qo (v:=.ty "ValueError")) (O.i6 h3) (O.blt _ h5) boot_isinstance (aT (ih.e _ _ h8) (aT (tV (v:=.ty "ValueError") (O.i6 h4) (O.blt _ h9) (show bootBuiltins ("ValueError" : Str)=some (.type "ValueError") by decide +kernel) rfl (by decide) (by decide)) cQ) (aq h6)) (by decide) (by decide) (aq h6)) fun _ _ _ q=>?_
    rw [<- O.K]
    refine tu (cv:=.type "ValueError") (fun u r=>r) (fun d D hd=>?_) q
    obtain ⟨k1,k2,_⟩:=O.jh d D hd
    rw [O.K]
    exact ⟨k1,k2⟩
  | Ef ct x cs =>
   replace h:=yT h
   obtain ⟨o,y,ap,as,cp,rfl,h⟩:=h
   replace h:=gI h
   obtain ⟨l,rfl,h⟩:=h
   simp only [Bool.and_eq_true,decide_eq_true_eq] at h
   obtain ⟨⟨⟨⟨⟨h1,h2⟩,h4⟩,h3⟩,h5⟩,h6⟩:=h
   subst h1
   have fin:∀ σ H Q, T B Φ (GX b X w) (.Ef ct x cs) σ H Q->JJ X.K "list" (FP X.K ct) (T B Φ (GX b X w) x) (TL B Φ (GX b X w) cs) σ H Q:=fun _ _ _ q=>by
    have:=Bt q
    rw [O.K] at this
    exact this
   cases ct with
   | true=>exact PE.weak (tU PySem.F.plainAttrs_list PySem.F.slot_list_count PySem.F.type_list_count (yp O.JZ true) (ih.e _ _ h5) (ih.es _ _ h6) (aU h2) (by rw [aq h3];rfl) h4 (aq h3)) fin
   | false=>exact PE.weak (tU PySem.F.plainAttrs_list PySem.F.slot_list_index PySem.F.type_list_index (yp O.JZ false) (ih.e _ _ h5) (ih.es _ _ h6) (aU h2) (by rw [aq h3];rfl) h4 (aq h3)) fin
  | Mz x=>cases h
  | blt kd fz cs =>
   replace h:=eY h
   obtain ⟨y,p,as,pos,rfl,h⟩:=h
   replace h:=gI h
   obtain ⟨l,rfl,h⟩:=h
   simp only [Bool.and_eq_true,decide_eq_true_eq] at h
   obtain ⟨⟨⟨⟨h1,h2⟩,h3⟩,h4⟩,h5⟩:=h
   have pa:=ih.es _ _ h5
   cases kd <;> simp only [LW] at h1 <;> first | (cases h1;done) | cases h1
   ·exact PE.weak (cP (v8 O.K O.dk) (O.i6 h2) (O.blt _ h3) PySem.boot_len pa (by decide) (by decide) (aq h4)) fun _ _ _=>tE
   ·exact PE.weak (lN (v7 O.K) (O.i6 h2) (O.blt _ h3) boot_list pa (by decide) (by decide) (aq h4)) fun _ _ _=>tE
  | bh m fz x cs =>
   replace h:=yT h
   obtain ⟨o,y,ap,as,cp,rfl,h⟩:=h
   simp only [Bool.and_eq_true] at h
   obtain ⟨⟨⟨h2,h4⟩,h5⟩,h⟩:=h
   cases hm:K6 m with
   | true =>
    rw [hm] at h
    replace h:=az h
    obtain ⟨h1,h⟩:=h
    replace h:=gI h
    obtain ⟨l,rfl,h⟩:=h
    replace h:=az h
    obtain ⟨h3,h6⟩:=h
    cases m <;> first | (cases hm;done) | skip
    all_goals cases of_decide_eq_true h1
    ·refine PE.weak (tU PySem.F.plainAttrs_list PySem.F.slot_list_append PySem.F.type_list_append lQ (ih.e _ _ h5) (ih.es _ _ h6) (aU h2) ?_ h4 (aq h3)) fun _ _ _ q=>?_
     ·rw [aq h3];rfl
     ·have:=qK q
      rw [O.K] at this
      exact this
    ·refine PE.weak (tU PySem.F.plainAttrs_list PySem.F.slot_list_extend PySem.F.type_list_extend Cj (ih.e _ _ h5) (ih.es _ _ h6) (aU h2) ?_ h4 (aq h3)) fun _ _ _ q=>?_
     ·rw [aq h3];rfl
     ·have:=qJ q
      rw [O.K] at this
      exact this
   | false =>
    rw [hm] at h
    replace h:=az h
    obtain ⟨h,h7⟩:=h
    replace h:=az h
    obtain ⟨h1,h6⟩:=h
    cases List.isEmpty_iff.mp h6
    cases iH h7
    replace h1:=of_decide_eq_true h1
    cases m <;> simp only [D5] at h1 <;> first | (cases h1;done) | cases h1
    ·refine PE.weak (yb PySem.F.plainAttrs_list PySem.F.slot_list_pop PySem.F.type_list_pop GL (ih.e _ _ h5) (aU h2) h4) fun _ _ _ q=>?_
     have:=Bm q
     rw [O.K] at this
     exact this
    ·refine PE.weak (yb PySem.F.plainAttrs_list PySem.F.slot_list_reverse PySem.F.type_list_reverse rq (ih.e _ _ h5) (aU h2) h4) fun _ _ _ q=>?_
     have:=oM q
     rw [O.K] at this
     exact this
  | comp fz caps tg elt it cond =>
   replace h:=az h
   obtain ⟨h0,h⟩:=h
   cases b with
   | true=>cases h0
   | false =>
    replace h:=Ec h
    obtain ⟨el,tn,iter,ifs,scope,p,rfl,h⟩:=h
    obtain ⟨C1,C2,C3,C4⟩:=oH O ih HP iu h
    exact PE.weak (BY (BZ C1 C2 O.fr O.fx C3 C4)) fun _ _ _=>oR
  | chain _ _ _ _ _=>cases h
  | tru _=>cases h
  | fld x f =>
   replace h:=rO h
   obtain ⟨l,y,p,rfl,h⟩:=h
   simp only [Bool.and_eq_true,decide_eq_true_eq] at h
   obtain ⟨⟨⟨h1,h2⟩,h3⟩,h4⟩:=h
   subst h1
   exact PE.weak (Gk (ih.e _ _ h4) (aU h3)) fun _ _ _=>BB fun c C hc=>⟨(O.cls c C hc).1,(O.cls c C hc).2 _ h2⟩
  | cM c m nm x cs =>
   replace h:=yT h
   obtain ⟨o,y,ap,as,cp,rfl,h⟩:=h
   simp only [Bool.and_eq_true,decide_eq_true_eq] at h
   obtain ⟨⟨⟨⟨⟨⟨⟨h1,h2⟩,h3⟩,h4⟩,h5⟩,h6⟩,h7⟩,h8⟩:=h
   subst h1
   obtain ⟨C,fa,fd,ps,q1,q2,q3,q4⟩:=O.AE _ _ _ _ h5
   obtain ⟨hl,_⟩:=dg h8
   cases as with
   | nil =>
    refine PE.weak (vB (ih.e _ _ h7) (O.cls _ _ q1).1 q2 (Em (bf iu rfl) q4) (O.DP (bf iu rfl)) q3 O.fx (lR (aU h2) h6 h4 h3)) fun _ _ _ q=>?_
    have:=sW (n:=1) q1 (fun z=>by rw [aM z,hl];rfl) q
    cases cs with
    | nil =>
     obtain ⟨σD,M,F,ρ,S,r,z⟩:=this
     exact ⟨σD,M,F,ρ,S,r,ah.imp z fun v H' ⟨a,dx,fs,z1,z2,z3,z4⟩=>⟨a,dx,fs,z1,z2,z3,gf z4⟩⟩
    | cons _ _=>simp [jo] at hl
   | cons e es =>
    simp only [List.all_cons,Bool.and_eq_true] at h6
    exact PE.weak (xW (ih.e _ _ h7) (O.cls _ _ q1).1 q2 (Em (bf iu rfl) q4) (O.DP (bf iu rfl)) q3 O.fx (ih.es _ _ h8) (aq h6.1) (bP h6.2) (lR (aU h2) (by simp [h6.1,h6.2]) h4 h3)) fun _ _ _=>sW q1 (fun z=>by rw [aM z,hl])
  | new c i cs =>
   replace h:=eY h
   obtain ⟨x,p,as,pos,rfl,h⟩:=h
   simp only [Bool.and_eq_true,decide_eq_true_eq] at h
   obtain ⟨⟨⟨⟨h1,h2⟩,h3⟩,h4⟩,h5⟩:=h
   obtain ⟨C,fa,fd,ps,q1,q2,q3,q4,q5⟩:=O.KS _ _ _ _ h3
   obtain ⟨hl,_⟩:=dg h5
   rcases q5 with ⟨j,rfl,q5⟩ | q5
   ·cases as with
    | nil =>
     refine PE.weak (vC q3 (Em (bf iu rfl) q5) (O.DP (bf iu rfl)) (O.i6 h1) q1 q4 O.fx (bY h2).1) fun _ _ _ q=>?_
     have:=sY (n:=1) q2 (fun z=>by rw [aM z,hl];rfl) q
     cases cs with
     | nil=>exact gf this
     | cons _ _=>simp [jo] at hl
    | cons e es =>
     simp only [List.all_cons,Bool.and_eq_true] at h4
     exact PE.weak (xY q3 (Em (bf iu rfl) q5) (O.DP (bf iu rfl)) (O.i6 h1) q1 q4 O.fx (ih.es _ _ h5) (bY h2).1 (aq h4.1) (bP h4.2)) fun _ _ _=>sY q2 (fun z=>by rw [aM z,hl])
   ·cases as with
    | nil =>
     intro pins s σ H Q I q
     have:=oN q5 q
     cases cs with
     | nil=>exact (gf this).elim
     | cons _ _=>simp [jo] at hl
    | cons e es =>
     simp only [List.all_cons,Bool.and_eq_true] at h4
     exact PE.weak (xX q3 (O.i6 h1) q1 (ih.es _ _ h5) (bY h2).1 (aq h4.1) (bP h4.2)) fun _ _ _=>oN q5
  | mx hi x y =>
   replace h:=az h
   obtain ⟨h0,h⟩:=h
   replace h:=eY h
   obtain ⟨z,p,as,pos,rfl,h⟩:=h
   replace h:=yV h
   obtain ⟨l,q,rfl,h⟩:=h
   simp only [Bool.and_eq_true,decide_eq_true_eq] at h
   obtain ⟨⟨⟨⟨⟨⟨h1,h2⟩,h3⟩,h4⟩,h5⟩,h6⟩,h7⟩:=h
   have pa:=aT (ih.e _ _ h6) (aT (ih.e _ _ h7) cQ (aq h5)) (aq h4)
   cases hi with
   | true =>
    subst h1
    exact PE.weak (cP (v5 (O.calm (bf iu rfl))) (O.i6 h2) (O.blt _ h3) PyProof.Rows.boot_max pa (by decide) (by decide) (aq h4) (bP (es:=[_]) (by simp [h5]))) fun _ _ _=>Bq
   | false =>
    subst h1
    have hc:Cm true X:=by
     cases hz:G.cm with
     | true=>exact .inl (O.calm hz)
     | false =>
      simp only [hz,Bool.false_or,Bool.not_false,Bool.true_and,Bool.and_eq_true,Bool.not_eq_true'] at h0
      exact O.lit h0.1 h0.2 hz
    exact PE.weak (cP (Or.elim (show X.calm=true\/HX X.A X.H₀ from hc) vZ sA) (O.i6 h2) (O.blt _ h3) PyProof.Rows.boot_min pa (by decide) (by decide) (aq h4) (bP (es:=[_]) (by simp [h5]))) fun _ _ _=>Bp
  | pV f x =>
   replace h:=eY h
   obtain ⟨y,p,as,pos,rfl,h⟩:=h
   replace h:=gI h
   obtain ⟨l,rfl,h⟩:=h
   simp only [Bool.and_eq_true,decide_eq_true_eq] at h
   obtain ⟨⟨⟨⟨h1,h2⟩,h3⟩,h4⟩,h5⟩:=h
   subst h1
   have pa:=aT (ih.e _ _ h5) cQ (aq h4)
   cases f
   ·exact PE.weak (cP wc (O.i6 h2) (O.blt _ h3) PyProof.Rows.boot_abs pa (by decide) (by decide) (aq h4)) fun _ _ _=>tw
   ·exact PE.weak (lN v9 (O.i6 h2) (O.blt _ h3) (show bootBuiltins ("int" : Str)=some (.type "int") by decide +kernel) pa (by decide) (by decide) (aq h4)) fun _ _ _=>tw
  | all1 x=>cases h
  | MC fz x=>cases h
  | rv fz x=>cases h
  | MA fz x y=>cases h
  | dz x y=>cases h
end
end Fg
end
section
namespace Fg
open PySem PySem.Spec L2
section
variable {G:Gm} {B:Bd} {Φ:aL} {k:Nat} {X:Cx} {N:List Str} {sc:Scope} {b:Bool} {n:Nat} {w:XS}
theorem JO (O:c9 G B Φ k X N sc b w) (ih:wN G B Φ k n X N sc b w) (a:Expr) (c:Fg.E) (h:fK G (n+1) b N sc (.t a c)=true) :
  PT X a (TB B Φ (GX b X w) c)/\(∀ op v p,a=.BoolOp op v p->PW X a (TB B Φ (GX b X w) c)):=by
 replace h:=tY h
 rcases h with ⟨op,v,p,rfl,h⟩ | h
 ·have pt:=(ih.t _ _ h).1
  have pw:PW X (.BoolOp op [v] p) (TB B Φ (GX b X w) c):=by
   cases op
   ·exact pw_and1 pt
   ·exact pw_or1 pt
  exact ⟨pw.pt,fun _ _ _ _=>pw⟩
 ·have notB:∀ {P:Prop},rj a=true->(∀ op v p,a=.BoolOp op v p->P):=fun hq op v p e=>by subst e;simp [rj] at hq
  have plain:rj a=true->fK G n b N sc (.e a c)=true->PT X a (TB B Φ (GX b X w) c)/\(∀ op v p,a=.BoolOp op v p->PW X a (TB B Φ (GX b X w) c)):=fun h1 h2 =>
   ⟨FU (ih.e _ _ h2) (u9 h1),notB h1⟩
  have pln:(rj a&&fK G n b N sc (.e a c))=true->PT X a (TB B Φ (GX b X w) c)/\(∀ op v p,a=.BoolOp op v p->PW X a (TB B Φ (GX b X w) c)):=fun hq=>by
   simp only [Bool.and_eq_true] at hq;exact plain hq.1 hq.2
  cases c with
  | bad=>exact ⟨fun _ _ _ _ _ _ q=>(Ay q).elim,fun _ _ _ _ _ _ _ _ _ _ _ q=>(Ay q).elim⟩
  | cmp o x y =>
   replace h:=yR h
   obtain ⟨l,p,q,pos,rfl,h⟩:=h
   ·simp only [Bool.and_eq_true,decide_eq_true_eq,Bool.not_eq_true'] at h
    obtain ⟨⟨⟨h1,h2⟩,h3⟩,h4⟩:=h
    subst h1
    exact ⟨PT.weak (BL (ye O.K O.JZ O.dk o) (ih.e _ _ h3) (ih.e _ _ h4) h2) fun _ _ _=>tD,fun _ _ _ e=>by cases e⟩
  | not x =>
   replace h:=yN h
   obtain ⟨o,l,p,rfl,h⟩:=h
   replace h:=az h
   obtain ⟨ho,h⟩:=h
   cases uh ho
   exact ⟨PT.weak (FW (ih.t _ _ h).1) fun _ _ _=>xy,fun _ _ _ e=>by cases e⟩
  | and x y =>
   replace h:=ue h
   obtain ⟨o,v,w',r,p,rfl,h⟩:=h
   replace h:=az h
   obtain ⟨h,h3⟩:=h
   replace h:=az h
   obtain ⟨h1,h2⟩:=h
   cases uo h1
   have pw:=PW.weak (pw_and (ih.t _ _ h2).1 ((ih.t _ _ h3).2 _ _ _ rfl)) fun _ _ _=>xA
   exact ⟨pw.pt,fun _ _ _ _=>pw⟩
  | or x y =>
   replace h:=ue h
   obtain ⟨o,v,w',r,p,rfl,h⟩:=h
   replace h:=az h
   obtain ⟨h,h3⟩:=h
   replace h:=az h
   obtain ⟨h1,h2⟩:=h
   cases y9 (by simpa using h1)
   have pw:=PW.weak (pw_or (ih.t _ _ h2).1 ((ih.t _ _ h3).2 _ _ _ rfl)) fun _ _ _=>BC
   exact ⟨pw.pt,fun _ _ _ _=>pw⟩
  | _=>exact pln h
theorem JQ (O:c9 G B Φ k X N sc b w) (ih:wN G B Φ k n X N sc b w) (hb:b=false) (a:Expr) (c:Src) (tg:Expr) (hz:(!MJ c||isTup tg)=true) (h:fK G (n+1) b N sc (.i a c)=true):PI X tg a (Dl B Φ (GX b X w) c):=by
 subst hb
 cases c with
 | e c =>
  replace h:=az h
  obtain ⟨h0,h⟩:=h
  replace h0:=az h0
  exact PI.weak (Gb (O.calm h0.1) O.K (ih.e _ _ h)) fun _ _ _=>Fv
 | iO c =>
  replace h:=az h
  obtain ⟨h0,h⟩:=h
  replace h:=eY h
  obtain ⟨y,p,as,pos,rfl,h⟩:=h
  replace h:=gI h
  obtain ⟨l,rfl,h⟩:=h
  simp only [Bool.and_eq_true,decide_eq_true_eq] at h
  obtain ⟨⟨⟨⟨h1,h2⟩,h3⟩,h4⟩,h5⟩:=h
  subst h1
  exact PI.weak (vA (O.calm h0) (O.i6 h2) (O.blt _ h3) (aT (ih.e _ _ h5) cQ (aq h4)) (aq h4)) fun _ _ _=>Bh
 | FG c d=>cases h
 | FE c d=>cases h
 | enum _=>cases h
 | Cp c =>
  replace h:=az h
  obtain ⟨h0,h⟩:=h
  replace h0:=az h0
  have hc:Cm true X:=by
   cases hz:G.cm with
   | true=>exact .inl (O.calm hz)
   | false=>rw [hz] at h0;exact O.lit rfl h0.1 hz
  refine PI.weak (BW hc (ih.e _ _ h)) fun _ _ _ q=>?_
  have:=Bs q
  rw [O.K] at this
  exact this
 | rev c =>
  replace h:=az h
  obtain ⟨h0,h⟩:=h
  replace h:=eY h
  obtain ⟨y,p,as,pos,rfl,h⟩:=h
  replace h:=gI h
  obtain ⟨l,rfl,h⟩:=h
  simp only [Bool.and_eq_true,decide_eq_true_eq] at h
  obtain ⟨⟨⟨⟨h1,h2⟩,h3⟩,h4⟩,h5⟩:=h
  subst h1
  refine PI.weak (Ga (O.calm h0) (O.i6 h2) (O.blt _ h3) (aT (ih.e _ _ h5) cQ (aq h4)) (aq h4)) fun _ _ _ q=>?_
  have:=Bj q
  rw [O.K] at this
  exact this
 | zip c d=>cases h
theorem swap_eq (O:c9 G B Φ k X N sc b w) {el tn iter:Expr} {ifs:List Expr} {scope:Scope} {lp px p:Pos} {x:Str}:swapsWith (.ListComp el [⟨tn,iter,ifs,0⟩] scope lp) (some (.Name x px)) p.line X.env=pure (w6 sc scope x px lp):=by
 rw [<- O.hsc];rfl
theorem Be {E:Gx} {Dn:Ends} {σ:L2.St} {H:Hp} {tg:List Nat} {e:Fg.E} (h:TC B Φ E (.Dy tg e) Dn σ H):vd (T B Φ E e) (Jk tg B.K) Dn σ H:=by
 obtain ⟨σD,M,F,ρ,S,r,h⟩:=h
 simp only [ex] at h
 refine TC.one S r h fun x M1 F1 ρ1 H1 v e1 S1 r1 rx h1=>?_
 split at h1
 ·rename_i σ1 hs
  exact j3 r1 rx hs fun σ' q=>aJ.run h1 S1 σ' q
 ·exact h1.elim
noncomputable abbrev Jd:XS:=fun _ _ _ _=>False
theorem c9.suite (O:c9 G B Φ k X N sc false w) (pins:List (Addr×Obj)) (e:Value):c9 (zh G) B Φ k (Fg.suite (fL X pins) e) N sc false Jd :=
 ⟨O.hN,O.nd,O.hsc,O.K,(fun z=>by cases z),⟨(fun z=>by cases z),O.rm.dp,O.rm.un⟩,O.dk,(fun _ _ z=>z.elim),(fun e s ⟨_,_,_,_,_,_,_,_,_,_,_,_,_,_,z⟩=>z),(fun _ z=>by cases z),(by
  obtain ⟨env,outer,L,h1,h2,h3⟩:=O.fr
  exact ⟨env,outer,L,h1,h2,h3⟩),O.fn,(fun _ _ _ z=>by cases z),O.cst,O.blt,O.cls,(fun _ _ _ _ z=>by cases z),(fun _ _ _ _ z=>by cases z),O.exc,O.Ep,(fun _ _ _ _ _ z=>by cases z),O.st,O.n9,(fun _ z _=>by cases z),O.jh⟩
theorem A7 {Y:Cx} {E:Value->Shared->Prop} {D:Ends} {pins:List (Addr×Obj)} {st:Sem Flow} {s:Shared} (h:wpAny (model Y.prog Y.w) Y.A st (SP Y pins { nx:=D.nx,rt:=fun _ _=>False }) E s):wpAny (model Y.prog Y.w) Y.A st (SP Y pins D) E s :=
 wpAny_mono h (fun f s2 z=>by
  cases f with
  | next=>exact z
  | brk=>obtain ⟨_,_,_,q⟩:=z;exact q.elim
  | cont=>obtain ⟨_,_,_,q⟩:=z;exact q.elim
  | ret u=>obtain ⟨_,_,_,_,_,q⟩:=z;exact q.elim) fun _ _ z=>z
theorem By {A:Around} {E:Gx} {f i j:Nat} {Dn:Ends} {σ:L2.St} {H:Hp} (hh:HX A H) (h:qq B Φ E (.cons (.set j (.call f (.cons (.v i) .nil))) .nil) Dn σ H) :
  E3 (vd (fun σ H Q=>HX A H/\∃ v,σ[i]? = some (some v)/\mL B Φ f 1 [v] H Q fun cv x H'=>E.e cv x σ H') (jj j)) (qq B Φ E .nil) Dn σ H:=by
 have h3:TL B Φ E (.cons (.v i) .nil) σ H _:=j0 (n:=1) (fun z=>by rw [aM z];rfl) (mP (lH h))
 obtain ⟨v,e,q⟩:=DM (oQ h3)
 exact ⟨hh,v,e,gf q⟩
theorem ve {i:Nat} {s:Stmt} {bd:List Stmt} {b:Ss} {pins:List (Addr×Obj)} (wK:∀ G' X' N' sc' b' w',c9 G' B Φ k X' N' sc' b' w'->wN G' B Φ k n X' N' sc' b' w') (O:c9 G B Φ k X N sc false w) (h:(Ad n (zh G) false N sc (.ss (s::bd) b)||HQ G N sc i s bd b)=true) (e:Value) :
  jd (Fg.suite (fL X pins) e) (s::bd) (fun D σ H=>HX (X.A.mark (some e)) H/\qq B Φ (GX false X Jd) b D σ H):=by
 have O':=O.suite pins e
 replace h:=(Bool.or_eq_true _ _).mp h
 rcases h with h | h
 ·exact jd.weak ((wK _ _ _ _ _ _ O').ss _ _ h) fun _ _ _ q=>q.2
 ·unfold HQ at h
  replace h:=az h
  obtain ⟨h0,h⟩:=h
  obtain rfl:bd=[]:=List.isEmpty_iff.mp h0
  split at h
  ·rename_i j f i'
   replace h:=kE h
   obtain ⟨t,e',p,rfl,h⟩:=h
   replace h:=yQ h
   obtain ⟨x,px,rfl,h⟩:=h
   replace h:=eY h
   obtain ⟨g,q,as,pos,rfl,h⟩:=h
   replace h:=gI h
   obtain ⟨l,rfl,h⟩:=h
   replace h:=yQ h
   obtain ⟨y,py,rfl,h⟩:=h
   simp only [Bool.and_eq_true,decide_eq_true_eq] at h
   obtain ⟨⟨⟨⟨⟨⟨⟨⟨rfl,h1⟩,h2⟩,h3⟩,h4⟩,h5⟩,h6⟩,h7⟩,h8⟩:=h
   obtain ⟨fa,fd,ps,a1,a2,a3,a4⟩:=O.n9 _ _ _ h8
   have pv:PE (Fg.suite (fL X pins) e) (.Name y py) (AW i'):=xU (by show X.N[i']? = some y;rw [O.hN];exact h3) (O'.vis h4) (bY h5).1 (bY h5).2
   have pc:=x8 (X:=Fg.suite (fL X pins) e) (p:=q) (pos:=pos) a4 O'.rm (O'.i6 h6) a1 a2 a3 O'.fx pv (bY h7).1
   exact jd.weak (pq (xR (by show X.N.Nodup;rw [O.hN];exact O.nd) (by show X.N[j]? = some x;rw [O.hN];exact h1) (O'.loc h2) pc (ir rfl) (.inl (O.fn rfl x))) (jd.weak tP fun _ _ _=>oK)) fun _ _ _ q=>By q.1 q.2
  ·cases h
theorem qH (wK:∀ G' X' N' sc' b' w',c9 G' B Φ k X' N' sc' b' w'->wN G' B Φ k n X' N' sc' b' w') (O:c9 G B Φ k X N sc false w):∀ {hds:List ExceptHandler} {hs:Hs},MM (Ad n) G N sc hds hs=true->∃ rs,Dr X.A B Φ (GX false X Jd) B.AD hs=some rs/\∀ pins,PH (fL X pins) hds rs
 | [],hs,h=>by
  cases CG (c:=hs) h
  exact ⟨[],rfl,fun _=>.nil⟩
 | hd::r,.nil,h=>by cases h
 | hd::r,.cons cs b hs,h=>by
  replace h:=Ed h
  obtain ⟨t,nm,s,bd,hp,rfl,h⟩:=h
  replace h:=bE h
  obtain ⟨x,np,rfl,h⟩:=h
  replace h:=gI h
  obtain ⟨c,rfl,h⟩:=h
  simp only [Bool.and_eq_true,decide_eq_true_eq,Option.isNone_iff_eq_none] at h
  obtain ⟨⟨⟨⟨⟨rfl,h1⟩,h2⟩,h3⟩,h4⟩,h5⟩:=h
  obtain ⟨rs,hrs,ph⟩:=qH wK O h5
  obtain ⟨C,bmB,newId,bm,base,initId,q1,q2,q3,q4,q5,q6⟩:=O.exc _ _ h3
  exact ⟨(C,fun _ D σ H=>qq B Φ (GX false X Jd) b { nx:=D.nx,rt:=fun _ _=>False } σ H)::rs,by simp only [Dr,q2,hrs],fun pins=>.cons q1 (O.i6 h1) (bY h2).1 q4 q6 (fun e=>fun p s' σ H D I q=>A7 ((wK _ _ _ _ _ _ (O.suite pins e)).ss _ _ h4 p s' σ H _ I q)) (ph pins)⟩
 | hd::r,.as c i b hs,h=>by
  replace h:=Ed h
  obtain ⟨t,nm,s,bd,hp,rfl,h⟩:=h
  replace h:=bE h
  obtain ⟨x,np,rfl,h⟩:=h
  simp only [Bool.and_eq_true,decide_eq_true_eq] at h
  obtain ⟨⟨⟨⟨⟨⟨h6,h7⟩,h1⟩,h2⟩,h3⟩,h4⟩,h5⟩:=h
  obtain ⟨rs,hrs,ph⟩:=qH wK O h5
  obtain ⟨C,bmB,newId,bm,base,initId,q1,q2,q3,q4,q5,q6⟩:=O.exc _ _ h3
  cases nm with
  | none=>cases h7
  | some y =>
   have hl:X.env.scope.names.lookup y=some .local:=by
    rw [O.hsc]
    have h7:rJ sc y=true:=h7
    unfold rJ at h7
    split at h7
    ·assumption
    ·cases h7
   exact ⟨(C,asR i fun e D σ H=>HX (X.A.mark (some e)) H/\qq B Φ (GX false X Jd) b D σ H)::rs,by simp only [Dr,q2,hrs],fun pins=>.as q1 (O.i6 h1) (bY h2).1 q4 q6 (by show X.N.Nodup;rw [O.hN];exact O.nd) (by show X.N[i]? = some y;rw [O.hN];exact h6.symm) hl (fun e=>ve wK O h4 e) (ph pins)⟩
theorem A6 {Y:Cx} {E:Value->Shared->Prop} {pins:List (Addr×Obj)} {D:Ends} {f:Flow} {s':Shared} (h:SP Y pins D f s'):SP (Y.bM E) pins D f s':=by
 cases f with
 | next=>obtain ⟨σ',H',I,q⟩:=h;exact ⟨σ',H',I.bM _,q⟩
 | brk=>obtain ⟨σ',H',I,q⟩:=h;exact ⟨σ',H',I.bM _,q⟩
 | cont=>obtain ⟨σ',H',I,q⟩:=h;exact ⟨σ',H',I.bM _,q⟩
 | ret u=>obtain ⟨v,σ',H',I,r,q⟩:=h;exact ⟨v,σ',H',I.bM _,r,q⟩
theorem A8 {rs:List (Addr×TX)} {pins:List (Addr×Obj)} {D:Ends} {x:Ss} {bd:List Stmt} (wK:∀ G' X' N' sc' b' w',c9 G' B Φ k X' N' sc' b' w'->wN G' B Φ k n X' N' sc' b' w') (O:c9 G B Φ k X N sc false w) (h:fK { G with rz:=false } n false N sc (.ss bd x)=true) :
  jd ((fL X pins).bM (gY (fL X pins) (EH X.K rs D))) bd (qq B Φ (GX false X (EH X.K rs D)) x):=by
 have O':c9 { G with rz:=false } B Φ k ((fL X pins).bM (gY (fL X pins) (GX false (fL X pins) (EH X.K rs D)).e)) N sc false (EH X.K rs D) :=
  ⟨O.hN,O.nd,O.hsc,O.K,O.calm,O.rm,O.dk,(fun e s ⟨p,σ,H,a,a0,C,B,h1,I,h⟩=>.inl ⟨p,σ,H,a,a0,C,B,h1,I.bM _,h⟩),(fun e s ⟨p,σ,H,a,a0,C,B,h1,I,h⟩=>⟨p,σ,H,a,a0,C,B,h1,I.aX,h⟩),(fun _ h=>by cases h),(by
   obtain ⟨env,outer,L,h1,h2,h3⟩:=O.fr
   exact ⟨env,outer,L,h1,h2,h3⟩),O.fn,O.fns,O.cst,O.blt,O.cls,O.AE,O.KS,O.exc,O.Ep,O.wL,O.st,O.n9,O.lit,O.jh⟩
 have P:=(wK _ _ _ _ _ _ O').ss bd x h
 intro Km s σ H Dn I q
 exact wpAny_mono (P Km s σ H Dn (I.aX.bM _) q) (fun _ _ z=>A6 (SP.aX z)) fun e s2 z=>pX z
theorem Bg {rs:List (Addr×TX)} {hs:Hs} {x:Ss} {Dn:Ends} {σ:L2.St} {H:Hp} (O:c9 G B Φ k X N sc false w) (hrs:Dr X.A B Φ (GX false X Jd) B.AD hs=some rs) (h:TC B Φ (GX false X w) (.try x hs .nil) Dn σ H):qq B Φ (GX false X (EH X.K rs Dn)) x Dn σ H:=by
 obtain ⟨σD,M,F,ρ,S,r,h⟩:=h
 simp only [ex] at h
 refine ⟨σD,M,F,ρ,S,r,?_⟩
 cases hx:exs Φ x σD M with
 | bad=>rw [hx] at h;exact h
 | exc c M1=>rw [hx] at h;exact h
 | ok o M1 =>
  rw [hx] at h
  simp only [R.af] at h
  intro F1 ρ1 H1 e1 S1
  cases o with
  | nx σ1=>simp only [exs] at h;exact h F1 ρ1 H1 e1 S1
  | rt d=>exact h F1 ρ1 H1 e1 S1
  | bk σ1=>exact h F1 ρ1 H1 e1 S1
  | ct σ1=>exact h F1 ρ1 H1 e1 S1
  | xc c σ1 =>
   intro σ' cv x' r1 hcv
   obtain ⟨C,bmB,newId,bm,rfl,hC,EC,sub⟩:=O.Ep c cv hcv
   obtain ⟨t,pk,ht⟩:=mQ (mro:=.ref C::bm) sub hC hrs S1 r1 (aJ.weak e1 h)
   exact ⟨H1,.refl _,C,bmB,newId,bm,t,rfl,EC,pk,ht⟩
theorem JP (O:c9 G B Φ k X N sc b w) (ih:wN G B Φ k n X N sc b w) (wK:∀ G' X' N' sc' b' w',c9 G' B Φ k X' N' sc' b' w'->wN G' B Φ k n X' N' sc' b' w') (a:Stmt) (c:S) (h:fK G (n+1) b N sc (.s a c)=true):PS X a (TC B Φ (GX b X w) c):=by
 have HP:=fun X' N' sc' w' (O':c9 G B Φ k X' N' sc' true w')=>wK G X' N' sc' true w' O'
 have hp:PassesOwn (model X.prog X.w) X.A X.env X.xe:=qW O.fr O.fo O.fx
 replace h:=az h
 obtain ⟨iu,h⟩:=h
 cases c with
 | bad=>exact fun _ _ _ _ _ _ q=>(IS q).elim
 | set i c =>
  replace h:=kE h
  obtain ⟨t,e,p,rfl,h⟩:=h
  replace h:=yQ h
  obtain ⟨x,px,rfl,h⟩:=h
  simp only [Bool.and_eq_true,decide_eq_true_eq] at h
  obtain ⟨⟨⟨h3,h1⟩,h2⟩,h4⟩:=h
  cases b with
  | true=>cases h3
  | false =>
   have st:fK G n false N sc (.e e c)=true->swapsWith e (some (.Name x px)) p.line X.env=pure false->PS X (.Assign [.Name x px] e p) (TC B Φ (GX false X w) (.set i c)):=fun q w =>
    PS.weak (xR (by rw [O.hN];exact O.nd) (by rw [O.hN];exact h1) (O.loc h2) (ih.e _ _ q) w (.inl (O.fn rfl x))) fun _ _ _=>mP
   replace h4:=CB h4
   rcases h4 with ⟨fz,caps,tg,elt,it,cond,rfl,h4⟩ | h4
   ·obtain ⟨el,tn,iter,ifs,scope,lp,rfl,h4⟩:=Ec h4
    cases hs:w6 sc scope x px lp with
    | true =>
     rw [hs] at h4
     replace h4:=az h4
     obtain ⟨h4,k7⟩:=h4
     obtain ⟨C1,C2,C3,C4⟩:=oH O ih HP iu h4
     have hl:X.env.scope.names.lookup x=some .local:=by rw [O.hsc];exact yC k7
     refine PS.weak (tQ (BN (by rw [O.hN];exact O.nd) (by rw [O.hN];exact h1) hl C1 C2 O.fr O.fx C3 C4 (by rw [swap_eq O,hs]))) fun D σ H q=>?_
     exact oR (mP q)
    | false =>
     rw [hs] at h4
     exact st h4 (by rw [swap_eq O,hs])
   ·replace h4:=az h4
    obtain ⟨q1,q2⟩:=h4
    exact st q2 (ir q1)
 | qL x y c =>
  replace h:=kE h
  obtain ⟨t,e,p,rfl,h⟩:=h
  replace h:=rN h
  obtain ⟨o,i,q,rfl,h⟩:=h
  simp only [Bool.and_eq_true] at h
  obtain ⟨⟨⟨h1,h2⟩,h3⟩,h4⟩:=h
  exact PS.weak (BO O.JZ (ih.e _ _ h3) (ih.e _ _ h4) (ih.e _ _ h2) (ir h1)) fun _ _ _=>xu
 | ex c =>
  replace h:=HA h
  obtain ⟨e,p,rfl,h⟩:=h
  replace h:=az h
  obtain ⟨h1,h2⟩:=h
  exact PS.weak (BP (ih.e _ _ h2) (ir h1)) fun _ _ _=>Fw
 | ret c =>
  replace h:=Hg h
  rcases h with ⟨p,rfl,h⟩ | ⟨e,p,rfl,h⟩
  ·cases h
  ·exact PS.weak (FZ (ih.e _ _ h)) fun _ _ _=>Bk
 | FH=>cases h
 | ifs c x y =>
  replace h:=Hv h
  obtain ⟨t,l,q,p,rfl,h⟩:=h
  replace h:=az h
  obtain ⟨h,h3⟩:=h
  replace h:=az h
  obtain ⟨h1,h2⟩:=h
  exact PS.weak (Kf (ih.t _ _ h1).1 (ih.ss _ _ h2) (ih.ss _ _ h3)) fun _ _ _=>Bv
 | «for» tg it x =>
  replace h:=Hz h
  obtain ⟨tn,iter,body,p,rfl,h⟩:=h
  simp only [Bool.and_eq_true] at h
  obtain ⟨⟨⟨⟨⟨h0,hz⟩,h1⟩,h2⟩,h3⟩,h4⟩:=h
  cases b with
  | true=>cases h0
  | false=>exact PS.weak (tQ (F5 hp (ih.i rfl _ _ _ hz h2) (O.tg (by rw [bf iu rfl];rfl) h3).1 (ih.ss _ _ h4) (set_plain h1))) fun _ _ _=>BA
 | «while» c x =>
  replace h:=K0 h
  obtain ⟨t,body,p,rfl,h⟩:=h
  replace h:=az h
  obtain ⟨h1,h2⟩:=h
  exact PS.weak (xQ hp (ih.t _ _ h1).1 (ih.ss _ _ h2)) fun _ _ _=>vj
 | brk=>cases h
 | cont=>cases h
 | pass=>cases h
 | bN x f c =>
  replace h:=kE h
  obtain ⟨t,e,p,rfl,h⟩:=h
  replace h:=rO h
  obtain ⟨o,y,q,rfl,h⟩:=h
  simp only [Bool.and_eq_true,decide_eq_true_eq] at h
  obtain ⟨⟨⟨⟨h1,h2⟩,h3⟩,h4⟩,h5⟩:=h
  subst h1
  exact PS.weak (F6 (ih.e _ _ h5) (ih.e _ _ h4) (ir h3)) fun _ _ _=>xw fun c C hc=>⟨(O.cls c C hc).1,(O.cls c C hc).2 _ h2⟩
 | Dy tg c =>
  replace h:=kE h
  obtain ⟨tn,e,p,rfl,h⟩:=h
  simp only [Bool.and_eq_true] at h
  obtain ⟨⟨⟨⟨h0,h1⟩,h2⟩,h3⟩,h4⟩:=h
  cases tn <;> first | (cases h1;done) | skip
  cases e <;> first | (cases h3;done) | exact PS.weak (F7 (ih.e _ _ h4) (O.tg (by rw [bf iu rfl];rfl) h2).1 rfl rfl rfl) fun _ _ _=>Be
 | raise c es =>
  replace h:=az h
  obtain ⟨h,h'⟩:=h
  replace h:=az h
  obtain ⟨hb,hz⟩:=h
  cases b with
  | true=>cases hb
  | false =>
   replace h':=Hi h'
   obtain ⟨e,pos,rfl,h⟩:=h'
   replace h:=eY h
   obtain ⟨x,np,as,cp,rfl,h⟩:=h
   replace h:=gI h
   obtain ⟨m,rfl,h⟩:=h
   simp only [Bool.and_eq_true,decide_eq_true_eq] at h
   obtain ⟨⟨⟨h1,h2⟩,h3⟩,h4⟩:=h
   obtain ⟨C,bmB,newId,bm,base,initId,q1,q2,q3,q4,q5,q6⟩:=O.exc _ _ h3
   replace h4:=Hq h4
   rcases h4 with ⟨z,j,p,rfl,h4⟩ | ⟨vs,p,rfl,h4⟩
   ·cases iH h4
    refine PS.weak (pA q1 (O.i6 h1) (bY h2).1 q4 q5 (O.calm (bf iu rfl)) rfl (aT qV cQ rfl) (O.nx rfl hz)) fun D σ H q=>?_
    exact ⟨by show 1<=2 ^ 24;decide,(lI q3 q).nil⟩
   ·simp only [Bool.and_eq_true,decide_eq_true_eq] at h4
    refine PS.weak (pA q1 (O.i6 h1) (bY h2).1 q4 q5 (O.calm (bf iu rfl)) rfl (aT (Gh (ih.m _ _ h4.2) h4.1.1 h4.1.2) cQ rfl) (O.nx rfl hz)) fun D σ H q=>?_
    obtain ⟨σD,M,F,ρ,S,r,z⟩:=lI q3 q
    exact ⟨σD,M,F,ρ,S,r,ah.imp z fun _ H' z y=>⟨by show 1<=2 ^ 24;decide,z⟩⟩
 | «try» x hs els =>
  replace h:=az h
  obtain ⟨h,h'⟩:=h
  replace h:=az h
  obtain ⟨hb,he⟩:=h
  cases b with
  | true=>cases hb
  | false =>
   cases sU he
   replace h':=G7 h'
   obtain ⟨bd,h₀,hr,p,rfl,h⟩:=h'
   replace h:=az h
   obtain ⟨h1,h2⟩:=h
   obtain ⟨rs,hrs,ph⟩:=qH wK O h2
   exact PS.weak (FY (O.st rfl).1 (O.st rfl).2 (fun pins D=>A8 wK O h1) ph) fun D σ H q=>Bg O hrs q
theorem sound:∀ (n:Nat) {G:Gm} {X:Cx} {N:List Str} {sc:Scope} {b:Bool} {w:XS},c9 G B Φ k X N sc b w->wN G B Φ k n X N sc b w
 | 0,G,X,N,sc,b,w,O=>⟨fun _ _ h=>(by cases h),fun _ _ h=>(by cases h),fun _ _ h=>(by cases h),fun _ _ h=>(by cases h),fun _ _ _ _ _ h=>(by cases h),fun _ _ h=>(by cases h),fun _ _ h=>(by cases h),fun _ _ h=>(by cases h)⟩
 | n+1, G, X, N, sc, b, w, O=>by
  have ih:=sound n O
  have HP:=fun X' N' sc' w' (O':c9 G B Φ k X' N' sc' true w')=>sound n O'
  refine ⟨JR O ih HP,JO O ih,fun a c h=>?_,fun a c h=>?_,fun hb=>JQ O ih hb,JP O ih (fun G' X' N' sc' b' w' O'=>sound n O'),fun a c h=>?_,fun a c h=>?_⟩
  ·cases a with
   | nil =>
    cases iH (c:=c) h
    exact PA.weak cQ fun _ _ _=>gf
   | cons a as =>
    replace h:=yW (c:=c) h
    obtain ⟨c,cs,rfl,h⟩:=h
    replace h:=az h
    obtain ⟨h,h3⟩:=h
    replace h:=az h
    obtain ⟨h1,h2⟩:=h
    exact PA.weak (aT (ih.e _ _ h2) (ih.es _ _ h3) (aq h1)) fun _ _ _=>oQ
  ·cases c with
   | none =>
    cases a with
    | none=>exact PO.weak BS fun _ _ _=>Ft
    | some _=>cases h
   | some c =>
    cases a with
    | none=>cases h
    | some a=>exact PO.weak (BR (ih.e _ _ h)) fun _ _ _=>Fq
  ·cases a with
   | nil =>
    cases sU (c:=c) h
    exact jd.weak tP fun _ _ _=>oK
   | cons a as =>
    replace h:=K5 (c:=c) h
    obtain ⟨c,cs,rfl,h⟩:=h
    replace h:=az h
    obtain ⟨h1,h2⟩:=h
    exact jd.weak (pq (ih.s _ _ h1) (ih.ss _ _ h2)) fun _ _ _=>lH
  ·cases a with
   | nil =>
    cases iH (c:=c) h
    exact .nil
   | cons a as =>
    replace h:=Hl h
    rcases h with ⟨y,j,p,rfl,h⟩ | ⟨v,j,p,rfl,h⟩
    ·replace h:=az h
     obtain ⟨h1,h2⟩:=h
     exact .lit (of_decide_eq_true h1) (ih.m _ _ h2)
    ·replace h:=yW h
     obtain ⟨e,es,rfl,h⟩:=h
     simp only [Bool.and_eq_true,decide_eq_true_eq] at h
     obtain ⟨⟨h1,h2⟩,h3⟩:=h
     subst h1
     exact .fld (ih.e _ _ h2) (ih.m _ _ h3)
end
end Fg
end
section
namespace Fg
open PySem PySem.Spec L2
inductive Dt:List DictEntry->List (Key×V)->Prop
 | nil:Dt [] []
 | cons {h:Int} {x:Str} {t:Tok} {u:Value} {v:V} {es:List DictEntry} {kvs:List (Key×V)}:RelV v u->Dt es kvs->Dt (⟨h,.str x t,u⟩::es) ((Sum.inr x,v)::kvs)
noncomputable def Nk (w:World) (K:W.Frag) (a:Addr) (kvs:List (Key×V)):Prop :=
 kvs.length<=sizeLine/\(a == sysModules)=false/\(kvs.map (·.1)).Nodup/\∃ es n, K.lookup a=some ⟨.type "dict", none, .dict es n, #[]⟩/\W.KeysLit w.params es.toList/\Dt es.toList kvs
theorem Dt.vs {prog:Program} {w:World}:∀ {es:List DictEntry} {kvs:List (Key×V)},Dt es kvs->∃ vs,KV kvs vs/\Pairs (aI prog w) es vs/\vs.map (·.1)=kvs.map (·.1)
 | _,_,.nil=>⟨[],.nil,.nil,rfl⟩
 | _,_,.cons (h:=h) (x:=x) (t:=t) (u:=u) r q=>by
  obtain ⟨vs,h1,h2,h3⟩:=Dt.vs q
  exact ⟨(Sum.inr x,u)::vs,.cons ⟨rfl,r⟩ h1,.cons (iZ x t) rfl h2,by simp [h3]⟩
theorem Nk.ok {prog:Program} {w:World} {K:W.Frag} {a:Addr} {kvs:List (Key×V)} (d:Nk w K a kvs) (h:Heap) (X:K.In h):kvs.length<=sizeLine/\(a == sysModules)=false/\∃ vs,KV kvs vs/\h.DictOf (aI prog w) a vs:=by
 obtain ⟨h1,h2,h3,es,n,h4,h5,h6⟩:=d
 obtain ⟨vs,q1,q2,q3⟩:=Dt.vs (prog:=prog) (w:=w) h6
 refine ⟨h1,h2,vs,q1,_,es,n,X _ _ h4,⟨rfl,rfl,rfl⟩,rfl,fun e he=>?_,q2,by rw [q3];exact h3⟩
 obtain ⟨x,t,e1,e2⟩:=h5.all e (Array.mem_toList_iff.mpr he)
 exact ⟨Sum.inr x,by rw [e1];exact iZ x t,e2⟩
theorem Ic {K:W.Frag} {C:Addr} {bmB:List Value} {newId:String} (q:W.excIn K C bmB newId=true):∃ bm,nY K C bmB newId bm/\∀ v b,W.mroIn K C v=some b->(Value.ref C::bm).contains v=b:=by
 unfold W.excIn at q
 split at q
 ·rename_i dd cd sl lk
  split at q
  ·rename_i C2 bm a0 a1 a2 a3 n a5 hm hs
   simp only [beq_iff_eq,Bool.not_eq_true',Bool.and_eq_true] at q;obtain ⟨⟨⟨⟨⟨rfl,rfl⟩,dl⟩,ht⟩,hok⟩,hni⟩:=q
   obtain ⟨nm,bs,mr,ns,qn,hd,sn,sb,ab,cl,dl'⟩:=cd;dsimp only at hm dl hok hni;subst hm dl
   obtain ⟨l⟩:=sl
   simp only at hs
   subst hs
   refine ⟨bm,⟨nm,qn,ns,bs,hd,sn,sb,ab,cl,dd,a0,a1,a2,a3,a5,lk,hok,hni,ht⟩,fun v b e=>?_⟩
   unfold W.mroIn W.clsIn at e
   rw [lk] at e
   simpa using e
  ·cases q
 ·cases q
theorem jS {C:Addr} {bm:List Value} {s:String} (h:(Value.ref C::bm).contains (.type s)=true):bm.contains (.type s)=true:=by
 rw [List.contains_cons] at h
 simpa using h
noncomputable def gX (w:World) (K:W.Frag) (cl:Nat->Option Addr) (xc:Nat->Option Addr):Bd:=⟨K,Nk w K,cl,fun c cv=>∃ C,xc c=some C/\cv=.ref C,xc⟩
theorem LX {X:Cx} {cl xc:Nat->Option Addr}:ly (gX X.w X.K cl xc) X:=fun a kvs h hp KX=>Nk.ok h hp KX
structure Ds (K:W.Frag) (x qual:Str) (st:Stmt) (f:Addr) (fd:FuncData):Prop where
 ex:∃ (oc:Value) (od:Option Addr) (dV kV doc pm:Value) (an:Option Addr) (cdv ct:Value) (osl:Array (Option Value)),
  fd=W.fnOf x qual (iI st) (b9 st) (aD st) dV kV doc pm an cdv ct/\K.lookup f=some ⟨oc,od,.func fd,osl⟩/\W.codeIn K cdv qual=true
noncomputable def FnAt (G:Gm) (P:kU) (K:W.Frag) (i m:Nat) (fa:Addr) (fd:FuncData) (ps:List Str):Prop:=∃ x qual st N fn,Ds K x qual st fa fd/\P.fn i=some fn/\dh N ps (aD st)/\ps.length=m/\fn.np=m/\fn.ns=N.length/\fn.kO=[]/\fK G 200 false N (aD st) (.ss (b9 st) fn.body)=true
structure Md (G:Gm) (P:kU) (w:World) (K:W.Frag) (mg:Str->Option Value) (cl xc:Nat->Option Addr):Prop where
 cst:∀ x i,G.cst.lookup x=some i->∃ v u,mg x=some u/\RelV v u/\∀ d,P.glob i=some d->∀ F ρ H,RD (gX w K cl xc) F ρ H d v
 blt:∀ x,G.kQ.contains x=true->mg x=none
 fns:∀ f i m,G.fns.lookup f=some (i,m)->∃ fa fd ps,mg f=some (.ref fa)/\W.keepIn K (.ref fa)=true/\Binds K fd ps []/\FnAt G P K i m fa fd ps
 cls:∀ c C,cl c=some C->wC K C/\∀ f,G.CN.contains f=true->dN K C f
 AE:∀ c nm i m,G.AE.lookup (c,nm)=some (i,m)->∃ C fa fd ps,cl c=some C/\Meth K C nm fa/\Binds K fd ps []/\FnAt G P K i m fa fd ps
 KS:∀ x c i m,G.cls.lookup x=some (c,i,m)->∃ C fa fd ps,mg x=some (.ref C)/\cl c=some C/\Mk K C fa/\Binds K fd ps []/\FnAt G P K i m fa fd ps
 exc:∀ x c,G.exc.lookup x=some c->∃ C,mg x=some (.ref C)/\xc c=some C
 Ep:∀ c C, xc c=some C->∃ bmB newId bm base initId, nY K C bmB newId bm/\ExcBaseFacts base newId initId bmB/\bm.contains (.type "BaseException")=true/\∀ d D, xc d=some D->(Value.ref C::bm).contains (.ref D)=P.sub c d
 wL:∀ x f m d z,G.wL.lookup x=some (f,m,d,z)->∃ fa fd ps du,mg x=some (.ref fa)/\W.keepIn K (.ref fa)=true/\Binds K fd ps [du]/\RelV (.int d) du/\KB K fd ps z/\FnAt G P K f m fa fd ps
 n9:∀ f i m,G.n9.lookup f=some (i,m)->∃ fa fd ps,mg f=some (.ref fa)/\W.keepIn K (.ref fa)=true/\Binds K fd ps []/\FnAt (pQ G) P K i m fa fd ps
 jh:∀ c C, xc c=some C->Ax K C/\W.kitOne K (.ref C) (.type "ValueError")=some true/\∀ d D, xc d=some D->W.kitOne K (.ref C) (.ref D)=some (P.sub c d)
theorem Md.cool {G:Gm} {P:kU} {w:World} {K:W.Frag} {mg:Str->Option Value} {cl xc:Nat->Option Addr} (D:Md G P w K mg cl xc):Md (pQ G) P w K mg cl xc :=
 ⟨D.cst,D.blt,(fun _ _ _ z=>by cases z),D.cls,(fun _ _ _ _ z=>by cases z),(fun _ _ _ _ z=>by cases z),D.exc,D.Ep,(fun _ _ _ _ _ z=>by cases z),D.n9,D.jh⟩
section
variable {G:Gm} {P:kU} {w:World} {K:W.Frag} {mg:Str->Option Value} {prog:Program} {base:Heap}
theorem xg {B:Bd} {F:Addr->Prop} {ρ:List Addr} {H:Hp} {N:List Str} {ds:List D} {vs:List V} {n:Nat} (r:ai B F ρ H ds vs) (hn:n=N.length-vs.length):RS B F ρ H (ds.map some++List.replicate n none) (L2.start N vs):=by
 subst hn
 refine ⟨by simp [L2.start,ai.length r],fun i d q=>?_⟩
 by_cases hi:i<ds.length
 ·rw [List.getElem?_append_left (by simpa using hi),List.getElem?_map] at q
  cases hd:ds[i]? with
  | none=>rw [hd] at q;cases q
  | some e =>
   rw [hd] at q
   simp only [Option.map_some,Option.some.injEq] at q
   subst q
   obtain ⟨v,h1,h2⟩:=ai.get r hd
   refine ⟨v,?_,h2⟩
   unfold L2.start
   rw [List.getElem?_append_left (by rw [List.length_map,<- ai.length r];exact hi),List.getElem?_map,h1];rfl
 ·rw [List.getElem?_append_right (by simpa using Nat.le_of_not_lt hi),List.getElem?_replicate] at q
  split at q <;> cases q
theorem lM {B:Bd} {F F':Addr->Prop} {ρ ρ':List Addr} {H H':Hp} {M M':MH} {d:D} {v:V} {kp:Bool} {Q:VK} {X:XK} (S:SR B F ρ M H) (h:Post B (fE kp M d M') F ρ H Q X) (e:Ext F ρ H F' ρ' H') (S':SR B F' ρ' M' H') (rd:RD B F' ρ' H' d v):Q v H':=by
 unfold fE at h
 split at h
 ·rename_i hk
  split at h
  ·rename_i hn
   exact h F' ρ H' v e.cut (S.cut S' e hk.2) (RD.cut e.r (by rw [S.len];exact hn) rd)
  ·rename_i hn
   split at h
   ·rename_i n
    split at h
    ·rename_i ds hM
     split at h
     ·rename_i hns
      simp only [RD] at rd
      obtain ⟨a,h1,rfl⟩:=rd
      obtain ⟨vs,h2,h3⟩:=S'.obj n a _ h1 hM
      have hlt:¬ n<M.length:=by simpa [nr] using hn
      have ha:a∉ρ:=fun z=>by
       obtain ⟨j,hj,ej⟩:=List.mem_iff_getElem.mp z
       have q:ρ'[j]? = some a:=e.at (by rw [List.getElem?_eq_getElem hj,ej])
       obtain ⟨j1,q1⟩:=List.getElem?_eq_some_iff.mp q
       obtain ⟨j2,q2⟩:=List.getElem?_eq_some_iff.mp h1
       have:=(List.getElem_inj S'.nd).mp (q1.trans q2.symm)
       rw [S.len] at hj
       omega
      have hHa:H a=none:=(e.n a (List.mem_of_getElem? h1)).resolve_left ha
      have Sc:=S.cut S' e hk.2
      have r3:=ai.cut e.r (by rw [S.len];exact hns) h3
      have xt:qu F' ρ H' (fun b=>F' b\/b=a) ρ H':=⟨fun _ q=>.inl q,fun _ _ _=>rfl,List.prefix_refl _⟩
      have ec:=e.cut
      refine h (fun b=>F' b\/b=a) ρ H' (.ref a) ⟨⟨ec.s,fun b q=>.inl (ec.f b q),ec.h,ec.r,ec.n,fun b q=>q.elim (ec.g b) fun z=>.inr (.inl (z ▸ hHa))⟩,ec.z⟩ (Sc.take ha (by rw [h2];simp)) ?_
      simp only [RD]
      exact ⟨a,vs,rfl,.inl ⟨.inr rfl,.inl h2⟩,ai.aV xt _ _ r3⟩
     ·exact h F' ρ' H' v e S' rd
    ·exact h F' ρ' H' v e S' rd
   ·exact h F' ρ' H' v e S' rd
 ·exact h F' ρ' H' v e S' rd
theorem vt {B:Bd} {F F':Addr->Prop} {ρ ρ':List Addr} {H H':Hp} {M M':MH} {c:Nat} {cv:Value} {x:Option Addr} {Q:VK} {X:XK} (S:SR B F ρ M H) (h:Post B (o6 M c M') F ρ H Q X) (e:Ext F ρ H F' ρ' H') (S':SR B F' ρ' M' H') (q:B.exc c cv):X cv x H':=by
 unfold o6 at h
 split at h
 ·rename_i hk
  exact h F' ρ H' cv x e.cut (S.cut S' e hk) q
 ·exact h F' ρ' H' cv x e S' q
noncomputable abbrev Al (X:Cx) (w:XS):Cx:=X.bM fun e s=>gY X (GX false X w).e e s\/EV X (GX false X w).e e s
theorem CK {x qual:Str} {st:Stmt} {f:Addr} {fd:FuncData} {N ps:List Str} {cm:Bool} {k:Nat} {sp:Sp} (F:Ds K x qual st f fd) (S:dh N ps (aD st)) (len:∀ vs H Q E,sp vs H Q E->vs.length=ps.length)
  (hbody:∀ (cdv:Value) (A:Around) (outer:List Env) (s:Shared) (H:Hp) (vs:List V) (Q:VK) (E:XK),bG cm k (A.deeper (PyProof.Rows.envOfC qual (aD st) s.heap.objs.size f cdv))->(cm=false->HX A H)->sp vs H Q E ->
   ∃ t,jd (Al (iJ (eB prog w) prog w K mg base N qual (aD st) f cdv A outer s H E) fun cv x _ H'=>E cv x H') (b9 st) t/\t { nx:=fun _ H'=>Q .ao H',rt:=Q } (L2.start N vs) H):aZ cm prog w K mg base (eB prog w) (k+1) f fd ps sp:=by
 obtain ⟨oc,od,dV,kV,doc,pm,an,cdv,ct,osl,rfl,lk,hcd⟩:=F.ex
 refine El lk hcd S len fun A outer s H vs Q E hr hx h=>?_
 obtain ⟨t,h1,h2⟩:=hbody cdv A outer s H vs Q E hr hx h
 refine ⟨t,fun pins s1 σ H1 D I q=>?_,h2⟩
 exact wpAny_mono (h1 pins s1 σ H1 D (I.bM _) q) (fun _ _ z=>z.aX) fun e s2 z=>z.elim (fun z=>vN e s2 (pX z)) fun z=>leave_new e s2 (yj z)
theorem mK {cl xc:Nat->Option Addr} (D:Md G P w K mg cl xc) {k:Nat} (ih:∀ (i m:Nat) (fa:Addr) (fd:FuncData) (ps:List Str),FnAt G P K i m fa fd ps->aZ G.cm prog w K mg base (eB prog w) k fa fd ps (mL (gX w K cl xc) (aa P k) i m))
  (hh:∀ (i m:Nat) (fa:Addr) (fd:FuncData) (ps:List Str),FnAt (pQ G) P K i m fa fd ps->aZ false prog w K mg base (eB prog w) k fa fd ps (mL (gX w K cl xc) (aa P k) i m))
  (ih0:∀ j,k=j+1->∀ (i m:Nat) (fa:Addr) (fd:FuncData) (ps:List Str),FnAt G P K i m fa fd ps->aZ G.cm prog w K mg base (eB prog w) j fa fd ps (mL (gX w K cl xc) (aa P j) i m))
  {f qual:Str} {i m:Nat} {fa:Addr} {fd:FuncData} {ps:List Str} {st:Stmt} {N:List Str} {fn:Fn} (h2:Ds K f qual st fa fd) (h4:P.fn i=some fn) (h5:dh N ps (aD st)) (h6:ps.length=m) (h7:fn.np=m) (h8:fn.ns=N.length) (h9:fn.kO=[]) (AG:fK G 200 false N (aD st) (.ss (b9 st) fn.body)=true) :
  aZ G.cm prog w K mg base (eB prog w) (k+1) fa fd ps (mL (gX w K cl xc) (aa P (k+1)) i m):=by
  refine CK h2 h5 (fun vs H Q E q=>by rw [q.1,h6]) fun cdv A outer s H vs Q E hr hx q=>?_
  let X0:=iJ (eB prog w) prog w K mg base N qual (aD st) fa cdv A outer s H E
  obtain ⟨hl,ds,M,F,ρ,S,rd,post⟩:=q
  have O:c9 G (gX w K cl xc) (aa P k) k (Al X0 fun cv x _ H'=>E cv x H') N (aD st) false (fun cv x _ H'=>E cv x H') :=
   ⟨rfl,h5.nd,rfl,rfl,(fun z=>Option.isNone_iff_eq_none.mpr (show A.handled=none from hr.hd z)),hr,LX (X:=Al X0 fun cv x _ H'=>E cv x H') (cl:=cl) (xc:=xc),(fun e s z=>z.imp (fun ⟨p,σ,H,a,a0,C,B,h1,I,h⟩=>⟨p,σ,H,a,a0,C,B,h1,I.bM _,h⟩) fun ⟨p,σ,H,a,C,vs,hh,h1,I,h⟩=>⟨p,σ,H,a,C,vs,hh,h1,I.bM _,h⟩),
    (fun e s ⟨p,σ,H,a,a0,C,B,h1,I,h⟩=>.inl ⟨p,σ,H,a,a0,C,B,h1,I.aX,h⟩),(fun _ _ e s ⟨p,σ,H,a,C,vs,hh,h1,I,h⟩=>.inr ⟨p,σ,H,a,C,vs,hh,h1,I.aX,h⟩),⟨_,_,_,rfl,rfl,rfl⟩,fun _ _=>rfl,(fun g j n hg=>by
    obtain ⟨fa,fd,ps,a1,a2,a3,a4⟩:=D.fns g j n hg
    exact ⟨fa,fd,ps,a1,a2,a3,ih j n fa fd ps a4⟩),fun x j hx=>by
    obtain ⟨v,u,a1,a2,a3⟩:=D.cst x j hx
    refine ⟨v,u,a1,a2,fun d hd=>a3 d ?_⟩
    cases k <;> exact hd,D.blt,D.cls,(fun c nm j n hg=>by
    obtain ⟨C,fa,fd,ps,a1,a2,a3,a4⟩:=D.AE c nm j n hg
    exact ⟨C,fa,fd,ps,a1,a2,a3,ih j n fa fd ps a4⟩),(fun x c j n hg=>by
    obtain ⟨C,fa,fd,ps,a1,a2,a3,a4,a5⟩:=D.KS x c j n hg
    refine ⟨C,fa,fd,ps,a1,a2,a3,a4,?_⟩
    cases k with
    | zero=>exact .inr fun _ _=>rfl
    | succ k'=>exact .inl ⟨k',rfl,ih0 k' rfl j n fa fd ps a5⟩),(fun x c hx=>by
    obtain ⟨C,a1,a2⟩:=D.exc x c hx
    obtain ⟨bmB,newId,bm,base,initId,a3,a4,a5,_⟩:=D.Ep c C a2
    exact ⟨C,bmB,newId,bm,base,initId,a1,a2,⟨C,a2,rfl⟩,a3,a4,a5⟩),(fun c cv hc=>by
    obtain ⟨C,a2,rfl⟩:=hc
    obtain ⟨bmB,newId,bm,base,initId,a3,a4,a5,a6⟩:=D.Ep c C a2
    refine ⟨C,bmB,newId,bm,rfl,a2,a3,fun d D' hd=>(a6 d D' hd).trans ?_⟩
    cases k <;> rfl),(fun x f m d z hd=>by
    obtain ⟨fa,fd,ps,du,a1,a2,a3,a4,a6,a5⟩:=D.wL x f m d z hd
    exact ⟨fa,fd,ps,du,a1,a2,a3,a4,a6,ih f m fa fd ps a5⟩),(fun _=>⟨rfl,rfl⟩),(fun g j n hg=>by
    obtain ⟨fa,fd,ps,a1,a2,a3,a4⟩:=D.n9 g j n hg
    exact ⟨fa,fd,ps,a1,a2,a3,hh j n fa fd ps a4⟩),(fun _ _ z=>.inr (show HX A H from hx z)),(fun c C hc=>by
    obtain ⟨a1,a2,a3⟩:=D.jh c C hc
    refine ⟨a1,a2,fun d D' hd=>(a3 d D' hd).trans ?_⟩
    cases k <;> rfl)⟩
  refine ⟨_,(sound 200 O).ss _ _ AG,_,M,F,ρ,S,xg (n:=fn.ns-fn.np) rd (by rw [h8,h7,hl]),?_⟩
  have hds:ds.length=m:=by rw [ai.length rd,hl]
  have hc:(aa P (k+1)).call i ds M=j5 (aa P k) fn ds M:=by simp only [aa,h4]
  rw [hc] at post
  have hz:ds.length+fn.kO.length-fn.np=0:=by rw [h9,h7,hds];simp
  unfold j5 at post
  rw [if_pos (by rw [h9,h7,hds];simp),hz,h9] at post
  simp only [List.drop_nil,List.append_nil] at post
  cases hx:exs (aa P k) fn.body (ds.map some++List.replicate (fn.ns-fn.np) none) M with
  | bad=>rw [hx] at post;exact post
  | exc c M'=>rw [hx] at post;exact post
  | ok o M' =>
   rw [hx] at post
   intro F' ρ' H' e S'
   cases o with
   | rt d=>exact fun v q=>lM S post e S' q
   | nx σ'=>exact fun σ q=>lM S post e S' (d:=.ao) (v:=.ao) (by simp only [RD])
   | bk _=>exact post.elim
   | ct _=>exact post.elim
   | xc c σ' =>
    intro σ cv x q1 q2
    exact ⟨H',.refl _,vt S post e S' q2⟩
theorem gS {cl xc:Nat->Option Addr} (D:Md G P w K mg cl xc) (hh:∀ k,(∀ (i m:Nat) (fa:Addr) (fd:FuncData) (ps:List Str),FnAt G P K i m fa fd ps->aZ G.cm prog w K mg base (eB prog w) k fa fd ps (mL (gX w K cl xc) (aa P k) i m)) ->
   ∀ (i m:Nat) (fa:Addr) (fd:FuncData) (ps:List Str),FnAt (pQ G) P K i m fa fd ps->aZ false prog w K mg base (eB prog w) k fa fd ps (mL (gX w K cl xc) (aa P k) i m)) :
  ∀ (k:Nat) (i m:Nat) (fa:Addr) (fd:FuncData) (ps:List Str),FnAt G P K i m fa fd ps->aZ G.cm prog w K mg base (eB prog w) k fa fd ps (mL (gX w K cl xc) (aa P k) i m)
 | 0, i, m, fa, fd, ps, h=>by
  have no:∀ vs H Q E,¬ mL (gX w K cl xc) (aa P 0) i m vs H Q E:=fun vs H Q E q=>by
   obtain ⟨_,ds,M,F,ρ,_,_,q⟩:=q
   exact q
  exact ⟨fun vs H Q E q=>absurd q (no vs H Q E),fun A outer s H args us vs Q E _ _ _ _ _ q=>absurd q (no vs H Q E)⟩
 | 1,i,m,fa,fd,ps,h=>by
  obtain ⟨x,qual,st,N,fn,h2,h4,h5,h6,h7,h8,h9,AG⟩:=h
  exact mK D (gS D hh 0) (hh 0 (gS D hh 0)) (fun j e=>by cases e) h2 h4 h5 h6 h7 h8 h9 AG
 | k+2,i,m,fa,fd,ps,h=>by
  obtain ⟨x,qual,st,N,fn,h2,h4,h5,h6,h7,h8,h9,AG⟩:=h
  exact mK D (gS D hh (k+1)) (hh (k+1) (gS D hh (k+1))) (fun j e=>by cases e;exact gS D hh k) h2 h4 h5 h6 h7 h8 h9 AG
theorem uX {cl xc:Nat->Option Addr} (D:Md G P w K mg cl xc) (k:Nat):∀ (i m:Nat) (fa:Addr) (fd:FuncData) (ps:List Str),FnAt (pQ G) P K i m fa fd ps->aZ false prog w K mg base (eB prog w) k fa fd ps (mL (gX w K cl xc) (aa P k) i m) :=
 gS (G:=pQ G) D.cool (fun _ q=>q) k
theorem Av {cl xc:Nat->Option Addr} (D:Md G P w K mg cl xc) (k:Nat):∀ (i m:Nat) (fa:Addr) (fd:FuncData) (ps:List Str),FnAt G P K i m fa fd ps->aZ G.cm prog w K mg base (eB prog w) k fa fd ps (mL (gX w K cl xc) (aa P k) i m) :=
 gS D (fun k _=>uX D k) k
noncomputable def DK (K:W.Frag):Sp:=fun vs H Q _=>∃ (a:Addr) (ns:List Int),vs=[.ref a]/\fq K H a (ns.map V.int)/\ns.length<=63/\∀ H',Q (.bl true) H'
theorem GW {cl xc:Nat->Option Addr} (D:Md G P w K mg cl xc) {f qual:Str} {i k:Nat} (hP:∀ ns:List Int,ns.length<=63->∃ M',(aa P (k+1)).call i [.lst (ns.map .int)] []=.ok (.bl true) M')
  {fa:Addr} {fd:FuncData} {ps:List Str} {st:Stmt} {N:List Str} {fn:Fn} (h2:Ds K f qual st fa fd) (h4:P.fn i=some fn) (h5:dh N ps (aD st)) (h6:ps.length=1) (h7:fn.np=1) (h8:fn.ns=N.length) (h9:fn.kO=[]) (AG:fK G 200 false N (aD st) (.ss (b9 st) fn.body)=true) :
  aZ G.cm prog w K mg base (eB prog w) (k+1) fa fd ps (DK K):=by
 refine (mK (prog:=prog) (base:=base) D (Av D k) (uX D k) (fun j _=>Av D j) h2 h4 h5 h6 h7 h8 h9 AG).imp fun vs H Q E q=>?_
 obtain ⟨a,ns,rfl,hS,hl,q⟩:=q
 obtain ⟨M',hM⟩:=hP ns hl
 have Eg:∀ (F:Addr->Prop) (ns:List Int),ai (gX w K cl xc) F [] H (ns.map Fg.D.int) (ns.map V.int):=by
  intro F ns
  induction ns with
  | nil=>exact ai.nil
  | cons n ns ih=>exact ai.cons (by simp only [RD]) ih
 have fin:∀ F:Addr->Prop,Post (gX w K cl xc) ((aa P (k+1)).call i [.lst (ns.map .int)] []) F [] H Q E:=by
  intro F
  rw [hM]
  intro F' ρ' H' v e S' rd
  simp only [RD] at rd
  subst rd
  exact q H'
 rcases hS with hS | hS
 ·refine ⟨rfl,[.lst (ns.map .int)],[],fun b=>b=a,[],⟨rfl,List.nodup_nil,fun _ z=>by simp at z,fun b e=>by rw [e];exact DR hS,fun n b o z=>by simp at z⟩,?_,fin _⟩
  refine ai.cons ?_ ai.nil
  simp only [RD]
  exact ⟨a,_,rfl,.inl ⟨rfl,hS⟩,Eg _ ns⟩
 ·refine ⟨rfl,[.lst (ns.map .int)],[],fun _=>False,[],⟨rfl,List.nodup_nil,fun _ z=>by simp at z,fun b e=>e.elim,fun n b o z=>by simp at z⟩,?_,fin _⟩
  refine ai.cons ?_ ai.nil
  simp only [RD]
  exact ⟨a,_,rfl,.inr hS,Eg _ ns⟩
end
end Fg
end
section
namespace Fg
open PySem PySem.Spec L2
theorem mF:∀ {ps:List Str} {us:List Value} {n:Str},n∉ps->(ps.zip us).lookup n=none
 | [],_,_,_=>rfl
 | _::_,[],_,_=>rfl
 | p::ps,u::us,n,h=>by
  rw [List.zip_cons_cons,List.lookup_cons,show (n == p)=false from beq_eq_false_iff_ne.mpr fun e=>h (e ▸ List.mem_cons_self)]
  exact mF fun z=>h (List.mem_cons_of_mem _ z)
theorem gF:∀ {ps:List Str} {us:List Value} {n:Str},n∈ps->ps.length<=us.length->((ps.zip us).lookup n).isNone=false
 | p::ps,[],n,_,hl=>by simp at hl
 | p::ps,u::us,n,h,hl=>by
  rw [List.zip_cons_cons,List.lookup_cons]
  cases e:n == p with
  | true=>rfl
  | false =>
   have e:=beq_eq_false_iff_ne.mp e
   exact gF ((List.mem_cons.mp h).resolve_left e) (by simpa using hl)
theorem pW {α β:Type} {f g:α->Option β}:∀ {l:List α},(∀ n∈l,f n=g n)->l.filterMap f=l.filterMap g
 | [],_=>rfl
 | a::l,h=>by
  rw [List.filterMap_cons,List.filterMap_cons,h a List.mem_cons_self,pW fun n hn=>h n (List.mem_cons_of_mem _ hn)]
theorem gZ:∀ {ps:List Str} {us:List Value},ps.Nodup->us.length=ps.length->(ps.filterMap fun n=>((ps.zip us).lookup n).map (n,·))=ps.zip us
 | [],_,_,_=>rfl
 | p::ps,[],_,hl=>by simp at hl
 | p::ps,u::us,nd,hl=>by
  rw [List.nodup_cons] at nd
  rw [List.zip_cons_cons,List.filterMap_cons,List.lookup_cons,beq_self_eq_true]
  simp only [Option.map_some]
  congr 1
  refine Eq.trans ?_ (gZ (us:=us) nd.2 (by simpa using hl))
  exact pW fun n hn=>by rw [List.lookup_cons,show (n == p)=false from beq_eq_false_iff_ne.mpr fun e=>nd.1 (e ▸ hn)]
noncomputable def gG (a:Arguments) (ps:List Str):Bool:=a.posonlyargs.isEmpty&&a.kwonlyargs.isEmpty&&a.vararg.isNone&&a.kwarg.isNone&&decide (a.args.map (·.arg)=ps)
section
variable {s:Shared} {fd:FuncData} {ps:List Str} {us:List Value}
theorem fR {us:List Value} {qs:List Str} (h:∀ n∈qs,((ps.zip us).lookup n).isNone=false):(qs.filter fun n=>((ps.zip us).lookup n).isNone)=[]:=by
 rw [List.filter_eq_nil_iff]
 intro n hn
 rw [h n hn]
 decide
theorem ju (hp:gG fd.params ps=true) (nd:ps.Nodup) (hd:fd.defaults=.none) (hl:us.length=ps.length):BindsTo s fd ⟨us,[]⟩ (ps.zip us):=by
 simp only [gG,Bool.and_eq_true,List.isEmpty_iff,Option.isNone_iff_eq_none,decide_eq_true_eq] at hp
 obtain ⟨⟨⟨⟨h1,h2⟩,h3⟩,h4⟩,h5⟩:=hp
 refine BindsTo.of_eq ?_
 unfold bindArgs
 simp only [h1,h2,h3,h4,h5,hd,List.map_nil,List.nil_append,List.append_nil,List.forIn_nil,Option.isNone_none,Bool.and_true,pure_bind]
 rw [show seqItems? Value.none=pure none from rfl,pure_bind]
 simp only [Option.getD_none,List.length_nil,Nat.zero_sub,List.drop_zero,Nat.sub_zero,List.take_length]
 rw [fR fun n hn=>gF hn (Nat.le_of_eq hl.symm),if_neg (by rw [hl];simp)]
 simp only [List.isEmpty_nil,Bool.not_true,Bool.false_eq_true,if_false,List.drop_length,List.zip_nil_left,List.forIn_nil,pure_bind]
 rw [gZ nd hl]
theorem mq (hp:gG fd.params ps=true) (nd:ps.Nodup) {T:Addr} {o:Obj} {its:Array Value} {n:Nat} {du:Value} (hd:fd.defaults=.ref T) (ho:s.heap.get? T=some o) (hs:o.data=.seq its n) (hi:its.toList=[du])
  {ds:List Value} (hds:ds=[]\/ds=[du]) (hl:(us++ds).length=ps.length) (h0:ps≠[]):BindsTo s fd ⟨us,[]⟩ (ps.zip (us++ds)):=by
 simp only [gG,Bool.and_eq_true,List.isEmpty_iff,Option.isNone_iff_eq_none,decide_eq_true_eq] at hp
 obtain ⟨⟨⟨⟨h1,h2⟩,h3⟩,h4⟩,h5⟩:=hp
 obtain ⟨qs,z,rfl⟩:∃ qs z,ps=qs++[z]:=by
  rcases List.eq_nil_or_concat ps with e | ⟨qs,z,e⟩
  ·exact absurd e h0
  ·exact ⟨qs,z,by simpa using e⟩
 intro M A E Q hq
 unfold bindArgs
 simp only [h1,h2,h3,h4,h5,hd,List.map_nil,List.nil_append,List.append_nil,List.forIn_nil,Option.isNone_none,Bool.and_true,pure_bind]
 refine wpAny_bind (wpAny_seqItems ho hs ?_)
 simp only [Option.getD_some,hi,List.length_append,List.length_cons,List.length_nil] at hl ⊢
 have hz:z∉qs:=fun m=>by
  rw [List.nodup_append] at nd
  exact nd.2.2 z m z List.mem_cons_self rfl
 rw [show (0+1-(qs.length+(0+1)))=0 by omega,List.drop_zero,List.length_cons,List.length_nil,show qs.length+(0+1)-(0+1)=qs.length by omega,List.take_left,List.drop_left,
  fR (fun n hn=>?_),if_neg (by simp;rcases hds with rfl | rfl <;> simp at hl <;> omega)]
 ·simp only [List.isEmpty_nil,Bool.not_true,Bool.false_eq_true,if_false,List.zip_cons_cons,List.zip_nil_right,List.forIn_cons,List.forIn_nil,pure_bind]
  rcases hds with rfl | rfl
  ·rw [List.append_nil] at hq
   rw [gF (by simp) (by simp at hl ⊢;omega)]
   simp only [Bool.false_eq_true,if_false,pure_bind]
   rw [gZ nd (by simpa using hl)]
   exact wpAny_pure hq
  ·have hl':us.length=qs.length:=by simp at hl;omega
   have e:(qs++[z]).zip us=qs.zip us:=by
    rw [show us=us++[] by simp,List.zip_append hl'.symm];simp
   have e2:(qs++[z]).zip (us++[du])=qs.zip us++[(z,du)]:=by
    rw [List.zip_append hl'.symm];simp
   rw [e,mF hz]
   simp only [Option.isNone_none,if_true,pure_bind]
   rw [<- e2,gZ nd (by simpa using hl)]
   exact wpAny_pure hq
 ·rcases hds with rfl | rfl
  ·exact gF (by simp [hn]) (by simp at hl ⊢;omega)
  ·have hl':us.length=qs.length:=by simp at hl;omega
   have e:(qs++[z]).zip us=qs.zip us:=by
    rw [show us=us++[] by simp,List.zip_append hl'.symm];simp
   rw [e]
   exact gF hn (Nat.le_of_eq hl'.symm)
theorem Ao (hp:gG fd.params ps=true) (nd:ps.Nodup) {T:Addr} {o:Obj} {its:Array Value} {n:Nat} {du w:Value} (hd:fd.defaults=.ref T) (ho:s.heap.get? T=some o) (hs:o.data=.seq its n) (hi:its.toList=[du])
  (hl:us.length+1=ps.length):BindsTo s fd ⟨us, [(ps.getLast?.getD "", w)]⟩ (ps.zip (us++[w])):=by
 simp only [gG,Bool.and_eq_true,List.isEmpty_iff,Option.isNone_iff_eq_none,decide_eq_true_eq] at hp
 obtain ⟨⟨⟨⟨h1,h2⟩,h3⟩,h4⟩,h5⟩:=hp
 obtain ⟨qs,z,rfl⟩:∃ qs z,ps=qs++[z]:=by
  rcases List.eq_nil_or_concat ps with e | ⟨qs,z,e⟩
  ·subst e;simp at hl
  ·exact ⟨qs,z,by simpa using e⟩
 have hz:z∉qs:=fun m=>by
  rw [List.nodup_append] at nd
  exact nd.2.2 z m z List.mem_cons_self rfl
 have hl':us.length=qs.length:=by simp at hl;omega
 have e:(qs++[z]).zip us=qs.zip us:=by
  rw [show us=us++[] by simp,List.zip_append hl'.symm];simp
 have e2:(qs++[z]).zip (us++[w])=qs.zip us++[(z,w)]:=by
  rw [List.zip_append hl'.symm];simp
 rw [show (qs++[z]).getLast?.getD "" = z by simp]
 intro M A E Q hq
 unfold bindArgs
 simp only [h1,h2,h3,h4,h5,hd,List.map_nil,List.nil_append,List.append_nil,List.forIn_cons,List.forIn_nil,Option.isNone_none,Bool.and_true,pure_bind]
 rw [if_pos (by simp),e,mF hz]
 simp only [Option.isSome_none,Bool.false_eq_true,if_false,pure_bind]
 rw [<- e2]
 refine wpAny_bind (wpAny_seqItems ho hs ?_)
 simp only [Option.getD_some,hi,List.length_append,List.length_cons,List.length_nil]
 rw [show (0+1-(qs.length+(0+1)))=0 by omega,List.drop_zero,List.length_cons,List.length_nil,show qs.length+(0+1)-(0+1)=qs.length by omega,List.take_left,List.drop_left,
  fR (fun n hn=>gF (by simp [hn]) (by simp;omega)),if_neg (by simp;omega)]
 simp only [List.isEmpty_nil,Bool.not_true,Bool.false_eq_true,if_false,List.zip_cons_cons,List.zip_nil_right,List.forIn_cons,List.forIn_nil,pure_bind]
 rw [gF (by simp) (by simp;omega)]
 simp only [Bool.false_eq_true,if_false,pure_bind]
 rw [gZ nd (by simp;omega)]
 exact wpAny_pure hq
end
end Fg
end
section
namespace Fg
open PySem PySem.Spec L2
theorem ES {K:W.Frag} {x:Str} {a:Addr} (h:adr K x=some a):W.nsIn K mainGlobals x=some (some (.ref a)):=by
 unfold adr at h
 split at h
 ·rename_i e;cases h;exact e
 ·cases h
theorem qg {K:W.Frag} {v:Value} (h:jc K v=some none):v=.none:=by
 unfold jc at h
 split at h
 ·rfl
 ·split at h
  ·split at h <;> cases h
  ·cases h
 ·cases h
theorem qf {K:W.Frag} {v:Value} {d:Int} (h:jc K v=some (some d)):∃ T oc od its n sl tk,v=.ref T/\K.lookup T=some ⟨oc,od,.seq its n,sl⟩/\its.toList=[.int d tk]:=by
 unfold jc at h
 split at h
 ·cases h
 ·split at h
  ·rename_i T _ oc od its n sl lk
   split at h
   ·rename_i _ d' tk hi
    cases h
    exact ⟨T,oc,od,its,n,sl,tk,rfl,lk,hi⟩
   ·cases h
  ·cases h
 ·cases h
theorem zx {K:W.Frag} {f:Addr} {r:Row} (h:pU K f=some r.good):∃ oc od dV kV doc pm an cdv ct osl,
  K.lookup f=some ⟨oc,od,.func (W.fnOf r.x r.ql (iI r.st) (b9 r.st) (aD r.st) dV kV doc pm an cdv ct),osl⟩/\W.codeIn K cdv r.ql=true/\jc K dV=some r.kO:=by
 unfold pU at h
 split at h
 ·rename_i oc od fd osl lk
  simp only [Row.good,Option.some.injEq,Prod.mk.injEq] at h
  obtain ⟨h1,h2,h3,h4,h5,h6,h7,h8,h9,AG⟩:=h
  obtain ⟨f1,f2,f3,f4,f5,f6,f7,f8,f9,f10,f11,f12,f13,f14,f15⟩:=fd
  dsimp only at h1 h2 h3 h4 h5 h6 h7 h8 h9 AG
  subst h1 h2 h3 h4 h5 h6 h7 h8
  exact ⟨oc,od,f8,f9,f10,f11,f12,f13,f14,osl,lk,AG,h9⟩
 ·cases h
noncomputable def scB (N P:List Str) (sc:Scope):Bool:=decide (sc.kind=.function)&&!sc.isCoroutine&&!sc.isGenerator&&decide N.Nodup&&decide (N.take P.length=P) &&
 (P.all fun x=>decide (sc.names.lookup x=some .local)||decide (sc.names.lookup x=some .cell))&&sc.names.all fun y=>decide (y.2≠.free)
theorem JV {N P:List Str} {sc:Scope} (h:scB N P sc=true):dh N P sc:=by
 simp only [scB,Bool.and_eq_true,decide_eq_true_eq,Bool.not_eq_true',List.all_eq_true,Bool.or_eq_true] at h
 obtain ⟨⟨⟨⟨⟨⟨h1,h2⟩,h3⟩,h4⟩,h5⟩,h6⟩,h7⟩:=h
 exact ⟨h1,h2,h3,h4,h5,h6,h7⟩
noncomputable def Row.ok (G:Gm) (P:kU) (r:Row):Bool:=match P.fn r.i with
 | some fn=>scB r.N r.ps (aD r.st)&&gG (iI r.st) r.ps&&decide (fn.np=r.ps.length)&&decide (fn.ns=r.N.length)&&fn.kO.isEmpty&&(r.kO.isNone||!r.ps.isEmpty)&&fK G 200 false r.N (aD r.st) (.ss (b9 r.st) fn.body)
 | none=>false
structure Rw (G:Gm) (P:kU) (K:W.Frag) (r:Row) (f:Addr) (fd:FuncData):Prop where
 at_:FnAt G P K r.i r.ps.length f fd r.ps
 bd:Binds K fd r.ps []
 kp:W.keepIn K (.ref f)=true
 bn:r.kO=none->∀ (s:Shared) (us:List Value),us.length=r.ps.length->BindsTo s fd ⟨us,[]⟩ (r.ps.zip us)
 df:∀ d, r.kO=some d->(∃ tk, Binds K fd r.ps [.int d tk])/\KB K fd r.ps (r.ps.getLast?.getD "")
theorem Cy {K:W.Frag} {f:Addr} {oc:Value} {od:Option Addr} {fd:FuncData} {sl:Array (Option Value)} (h:K.lookup f=some ⟨oc,od,.func fd,sl⟩):W.keepIn K (.ref f)=true:=by
 simp only [W.keepIn,h]
theorem qO {G:Gm} {P:kU} {K:W.Frag} {r:Row} {f:Addr} (h:pU K f=some r.good) (ok:r.ok G P=true):∃ fd,Rw G P K r f fd:=by
 obtain ⟨oc,od,dV,kV,doc,pm,an,cdv,ct,osl,lk,hc,hd⟩:=zx h
 unfold Row.ok at ok
 split at ok
 ·rename_i fn hf
  simp only [Bool.and_eq_true,decide_eq_true_eq,List.isEmpty_iff] at ok
  obtain ⟨⟨⟨⟨⟨⟨k1,k2⟩,k3⟩,k4⟩,k5⟩,k6⟩,k7⟩:=ok
  have S:=JV k1
  have nd:r.ps.Nodup:=by rw [<- S.pre];exact S.nd.sublist (List.take_sublist _ _)
  refine ⟨_,⟨_,_,_,_,_,⟨⟨oc,od,dV,kV,doc,pm,an,cdv,ct,osl,rfl,lk,hc⟩⟩,hf,S,rfl,k3,k4,k5,k7⟩,?_,Cy lk,fun e s us hl=>?_,fun d e=>?_⟩
  ·intro s us KX hl
   cases e:r.kO with
   | none =>
    rw [e] at hd
    rw [List.append_nil] at hl ⊢
    exact ju k2 nd (qg hd) hl
   | some d =>
    rw [e] at hd k6
    obtain ⟨T,o1,o2,its,n,sl,tk,rfl,lT,hi⟩:=qf hd
    exact mq k2 nd rfl (KX _ _ lT) rfl hi (.inl rfl) hl (by simpa using k6)
  ·rw [e] at hd
   exact ju k2 nd (qg hd) hl
  ·rw [e] at hd k6
   obtain ⟨T,o1,o2,its,n,sl,tk,rfl,lT,hi⟩:=qf hd
   exact ⟨⟨tk,fun s us KX hl=>mq k2 nd rfl (KX _ _ lT) rfl hi (.inr rfl) hl (by simpa using k6)⟩,fun s us w KX hl=>Ao k2 nd rfl (KX _ _ lT) rfl hi hl⟩
 ·cases ok
end Fg
end
section
namespace Fg
open PySem PySem.Spec L2
theorem mem_of_lookup {α β:Type} [BEq α] [LawfulBEq α] {x:α} {b:β}:∀ {l:List (α×β)},l.lookup x=some b->(x,b)∈l
 | [],h=>by cases h
 | (y, c)::l, h=>by
  rw [List.lookup_cons] at h
  by_cases e:x=y
  ·subst e;simp at h;subst h;exact List.mem_cons_self
  ·rw [show (x == y)=false from beq_eq_false_iff_ne.mpr e] at h
   exact List.mem_cons_of_mem _ (mem_of_lookup h)
theorem b8 {α β:Type} {f g:α->β}:∀ {l:List α},l.map f=l.map g->∀ a∈l,f a=g a
 | [],_,_,h=>by cases h
 | b::l,e,a,h=>by
  rw [List.map_cons,List.map_cons,List.cons.injEq] at e
  rcases List.mem_cons.mp h with rfl | h
  ·exact e.1
  ·exact b8 e.2 a h
noncomputable def Tb.gm (t:Tb):Gm:=⟨t.fn.map fun r=>(r.x,r.i,r.ps.length),(t.cs.map fun c=>(c.1,c.2.1))++(t.ct.map fun c=>(c.1,c.2.1))++(t.cd.map fun c=>(c.1,c.2.1)),t.bl,
 t.mt.filterMap fun r=>if r.2.x=("__init__" : Str) then (t.cl[r.1]?).map fun x=>(x, r.1, r.2.i, r.2.ps.length) else none,
 t.mt.filterMap fun r=>if r.2.x=("__init__" : Str) then none else some ((r.1, r.2.x), r.2.i, r.2.ps.length), t.fl, t.xc.zipIdx,
 t.fn.filterMap fun r=>r.kO.map fun d=>(r.x, r.i, r.ps.length, d, r.ps.getLast?.getD ""), true, (t.fn.filter fun r=>t.n9.contains r.x).map fun r=>(r.x, r.i, r.ps.length), true, false⟩
noncomputable def E7:D->Option Str
 | .str x=>some x
 | _=>none
noncomputable def intD:D->Option Int
 | .int x=>some x
 | _=>none
noncomputable def Tb.okC (t:Tb) (P:kU):Bool:=(t.cs.all fun c=>match P.glob c.2.1 with
 | some (.int n)=>decide (n=c.2.2)
 | _=>false)&&(t.ct.all fun c=>decide (c.2.2.length<=sizeLine)&&match P.glob c.2.1 with
 | some (.tup ds)=>decide (ds.map E7=c.2.2.map some)
 | _=>false)&&t.cd.all fun c=>decide (c.2.2.length<=sizeLine)&&decide (c.2.2.map fun z=>z.1).Nodup&&match P.glob c.2.1 with
 | some (.dct ks ds)=>decide (ks=c.2.2.map fun z=>Sum.inr z.1)&&decide (ds.map intD=c.2.2.map fun z=>some z.2)
 | _=>false
noncomputable def Tb.ok (t:Tb) (G:Gm) (P:kU):Bool:=(t.fn.all fun r=>r.ok G P)&&(t.mt.all fun r=>r.2.ok G P)&&t.okC P&&(t.fn.filter fun r=>t.n9.contains r.x).all fun r=>r.ok (pQ G) P
theorem lE:∀ {us:List Value} {xs:List Str},us.map strOf=xs.map some->Vals (xs.map .str) us
 | [],[],_=>.nil
 | [],_::_,h=>by cases h
 | _::_,[],h=>by cases h
 | u::us,x::xs,h=>by
  rw [List.map_cons,List.map_cons,List.cons.injEq] at h
  refine .cons ?_ (lE h.2)
  have h1:=h.1
  unfold strOf at h1
  split at h1
  ·cases h1;exact ⟨_,rfl⟩
  ·cases h1
theorem uM {w:World}:∀ {es:List DictEntry} {kvs:List (Str×Int)},(es.map fun e=>(e.hash,strOf e.key,intOf e.val))=(kvs.map fun z=>(PyData.keyHash w.params z.1,some z.1,some z.2)) ->
  W.KeysLit w.params es/\Dt es (kvs.map fun z=>(Sum.inr z.1,.int z.2))
 | [],[],_=>⟨trivial,.nil⟩
 | [],_::_,h=>by cases h
 | _::_,[],h=>by cases h
 | ⟨hh, k, v⟩::es, z::kvs, h=>by
  rw [List.map_cons,List.map_cons,List.cons.injEq,Prod.mk.injEq,Prod.mk.injEq] at h
  obtain ⟨⟨h1,h2,h3⟩,h4⟩:=h
  obtain ⟨q1,q2⟩:=uM h4
  dsimp only at h1 h2 h3
  unfold strOf at h2
  unfold intOf at h3
  split at h2
  ·cases h2
   split at h3
   ·cases h3
    exact ⟨⟨⟨_,_,rfl,h1⟩,q1⟩,.cons ⟨_,rfl⟩ q2⟩
   ·cases h3
  ·cases h2
section
variable {B:Bd} {F:Addr->Prop} {ρ:List Addr} {H:Hp}
theorem o8:∀ {ds:List D} {xs:List Str},ds.map E7=xs.map some->ai B F ρ H ds (xs.map .str)
 | [],[],_=>ai.nil
 | [],_::_,h=>by cases h
 | _::_,[],h=>by cases h
 | d::ds,x::xs,h=>by
  rw [List.map_cons,List.map_cons,List.cons.injEq] at h
  refine ai.cons ?_ (o8 h.2)
  have h1:=h.1
  unfold E7 at h1
  split at h1
  ·cases h1;simp only [RD]
  ·cases h1
theorem o9:∀ {ds:List D} {kvs:List (Str×Int)},ds.map intD=(kvs.map fun z=>some z.2)->ai B F ρ H ds (kvs.map fun z=>.int z.2)
 | [],[],_=>ai.nil
 | [],_::_,h=>by cases h
 | _::_,[],h=>by cases h
 | d::ds,x::xs,h=>by
  rw [List.map_cons,List.map_cons,List.cons.injEq] at h
  refine ai.cons ?_ (o9 h.2)
  have h1:=h.1
  unfold intD at h1
  split at h1
  ·cases h1;simp only [RD]
  ·cases h1
end
theorem iM {α:Type} {K:W.Frag} {x:Str} {f:Addr->Option α} {v:α} (h:(adr K x).bind f=some v):∃ a,adr K x=some a/\f a=some v:=Option.bind_eq_some_iff.mp h
theorem nX {α:Type} {K:W.Frag} {x:Str} {f:Addr->α} {v:α} (h:(adr K x).map f=some v):∃ a,adr K x=some a/\f a=v:=Option.map_eq_some_iff.mp h
section
variable {t:Tb} {P:kU} {w:World} {K:W.Frag} {h:Heap} {mg:Str->Option Value}
theorem yr (e:t.qw K=t.good P w) (ok:t.ok t.gm P=true) (r:Row) (hr:r∈t.fn):∃ f fd,adr K r.x=some f/\Rw t.gm P K r f fd:=by
 simp only [Tb.qw,Tb.good,Prod.mk.injEq] at e
 obtain ⟨f,h1,h2⟩:=iM (b8 e.1 r hr)
 simp only [Tb.ok,Bool.and_eq_true,List.all_eq_true] at ok
 obtain ⟨fd,R⟩:=qO h2 (ok.1.1.1 r hr)
 exact ⟨f,fd,h1,R⟩
theorem GO (e:t.qw K=t.good P w) (ok:t.ok t.gm P=true) (r:Row) (hr:r∈t.fn.filter fun r=>t.n9.contains r.x):∃ f fd,adr K r.x=some f/\Rw (pQ t.gm) P K r f fd:=by
 simp only [Tb.qw,Tb.good,Prod.mk.injEq] at e
 obtain ⟨f,h1,h2⟩:=iM (b8 e.1 r (List.mem_filter.mp hr).1)
 unfold Tb.ok at ok
 obtain ⟨fd,R⟩:=qO h2 (List.all_eq_true.mp ((Bool.and_eq_true _ _).mp ok).2 r hr)
 exact ⟨f,fd,h1,R⟩
theorem D8 (e:t.qw K=t.good P w) (ok:t.ok t.gm P=true) (r:Nat×Row) (hr:r∈t.mt):∃ x C f fd,t.cl[r.1]? = some x/\adr K x=some C/\W.findIn K (.ref C) r.2.x=some (some (.ref f))/\W.isFn K (.ref f)=true/\Rw t.gm P K r.2 f fd:=by
 simp only [Tb.qw,Tb.good,Prod.mk.injEq] at e
 have h1:=b8 e.2.2.1 r hr
 unfold yq at h1
 obtain ⟨C,h2,h3⟩:=Option.bind_eq_some_iff.mp h1
 obtain ⟨x,h4,h5⟩:=Option.bind_eq_some_iff.mp h2
 simp only [Tb.ok,Bool.and_eq_true,List.all_eq_true] at ok
 split at h3
 ·rename_i f hf
  obtain ⟨z,h6,h7⟩:=Option.map_eq_some_iff.mp h3
  rw [Prod.mk.injEq] at h7
  rw [h7.1] at h6
  obtain ⟨fd,R⟩:=qO h6 (ok.1.1.2 r hr)
  exact ⟨x,C,f,fd,h4,h5,hf,h7.2,R⟩
 ·cases h3
theorem D9 (e:t.qw K=t.good P w) {c:Nat} {C:Addr} (hc:(t.cl[c]?).bind (adr K)=some C):nP t K C=jR t:=by
 obtain ⟨x,h1,h2⟩:=Option.bind_eq_some_iff.mp hc
 simp only [Tb.qw,Tb.good,Prod.mk.injEq] at e
 obtain ⟨C',h3,h4⟩:=nX (b8 e.2.1 x (List.mem_of_getElem? h1))
 rw [h2] at h3
 cases h3
 exact h4
theorem qy {xs:List Str} {x:Str} {c:Nat} (h:xs[c]? = some x):(x,c)∈xs.zipIdx:=List.mk_mem_zipIdx_iff_getElem?.mpr h
theorem D7 (e:t.qw K=t.good P w) {c:Nat} {X:Addr} (hc:(t.xc[c]?).bind (adr K)=some X):W.excIn K X BMV "ValueError.__new__" = true/\W.mroIn K X (.type "BaseException")=some true /\
  (∀ d D, (t.xc[d]?).bind (adr K)=some D->W.mroIn K X (.ref D)=some (P.sub c d))/\Ax K X/\W.kitOne K (.ref X) (.type "ValueError")=some true/\∀ d D, (t.xc[d]?).bind (adr K)=some D->W.kitOne K (.ref X) (.ref D)=some (P.sub c d):=by
 obtain ⟨x,h1,h2⟩:=Option.bind_eq_some_iff.mp hc
 simp only [Tb.qw,Tb.good,Prod.mk.injEq] at e
 obtain ⟨C',h3,h4⟩:=nX (b8 e.2.2.2.1 (x,c) (qy h1))
 rw [show adr K (x,c).1=some X from h2] at h3
 cases h3
 simp only [zE,Prod.mk.injEq] at h4
 obtain ⟨k1,k2,k3,k4,k5,k6,k7,k8,k9⟩:=h4
 simp only [List.cons.injEq,and_true] at k4
 have at_:∀ {f:Addr->Option Bool},(t.xc.map fun y=>(adr K y).bind f)=(t.xc.zipIdx.map fun y=>some (P.sub c y.2))->∀ d D,(t.xc[d]?).bind (adr K)=some D->f D=some (P.sub c d):=fun {f} k d D hd=>by
  obtain ⟨y,h5,h6⟩:=Option.bind_eq_some_iff.mp hd
  have z:(t.xc.zipIdx.map fun y=>(adr K y.1).bind f)=t.xc.zipIdx.map fun y=>some (P.sub c y.2):=by
   rw [<- k]
   conv=>rhs;rw [<- List.zipIdx_map_fst 0 t.xc]
   rw [List.map_map]
   rfl
  have q:=b8 z (y,d) (qy h5)
  rw [show adr K (y,d).1=some D from h6] at q
  exact q
 exact ⟨k1,k2,at_ k3,⟨k4.1,k4.2.1,k4.2.2.1,k4.2.2.2,k5,k6,k2,k7⟩,k8,at_ k9⟩
theorem Tb.md (X:K.In h) (G:h.Ns mainGlobals mg) (e:t.qw K=t.good P w) (ok:t.ok t.gm P=true):Md t.gm P w K mg (fun c=>(t.cl[c]?).bind (adr K)) (fun c=>(t.xc[c]?).bind (adr K)):=by
 have GN:∀ {x a},adr K x=some a->mg x=some (.ref a):=fun q=>W.mg_of X G (ES q)
 refine ⟨fun x i hx=>?_,fun x hx=>?_,fun f i m hx=>?_,fun c C hx=>?_,fun c nm i m hx=>?_,fun x c i m hx=>?_,fun x c hx=>?_,fun c C hx=>?_,fun x f m d z hx=>?_,fun f i m hx=>?_,fun c C hx=>?_⟩
 ·have e':=e
  simp only [Tb.qw,Tb.good,Prod.mk.injEq] at e'
  simp only [Tb.ok,Tb.okC,Bool.and_eq_true,List.all_eq_true] at ok
  obtain ⟨⟨_,⟨ok1,ok2⟩,ok3⟩,_⟩:=ok
  rcases List.mem_append.mp (mem_of_lookup hx) with hm | hm
  ·rcases List.mem_append.mp hm with hm | hm
   ·obtain ⟨c,hc,q⟩:=List.mem_map.mp hm
    cases q
    have h1:=b8 e'.2.2.2.2.1 c hc
    unfold z8 at h1
    split at h1
    ·rename_i n tk hn
     cases h1
     refine ⟨.int c.2.2,_,W.mg_of X G hn,⟨_,rfl⟩,fun d hd F ρ H=>?_⟩
     have h2:=ok1 c hc
     rw [hd] at h2
     split at h2
     ·rename_i n' hn'
      cases hn'
      rw [of_decide_eq_true h2]
      simp only [RD]
     ·cases h2
    ·cases h1
   ·obtain ⟨c,hc,q⟩:=List.mem_map.mp hm
    cases q
    obtain ⟨a,h1,h2⟩:=iM (b8 e'.2.2.2.2.2.2.1 c hc)
    unfold wW at h2
    split at h2
    ·rename_i cl od its n sl lk
     rw [Option.some.injEq,Prod.mk.injEq] at h2
     obtain ⟨rfl,h2⟩:=h2
     have h3:=ok2 c hc
     refine ⟨.ref a,_,GN h1,rfl,fun d hd F ρ H=>?_⟩
     rw [hd] at h3
     obtain ⟨h3,h4⟩:=h3
     split at h4
     ·rename_i ds hn'
      cases hn'
      have v:=lE h2
      simp only [RD]
      exact ⟨a,_,rfl,.inr ⟨_,_,_,lk,rfl,rfl,by rw [<- Array.length_toList,<- v.length,List.length_map];exact of_decide_eq_true h3,v⟩,o8 (of_decide_eq_true h4)⟩
     ·cases h4
    ·cases h2
  ·obtain ⟨c,hc,q⟩:=List.mem_map.mp hm
   cases q
   obtain ⟨a,h1,h2⟩:=iM (b8 e'.2.2.2.2.2.2.2 c hc)
   unfold z7 at h2
   split at h2
   ·rename_i cl od es n sl lk
    simp only [uN,Option.some.injEq,Prod.mk.injEq] at h2
    obtain ⟨rfl,rfl,rfl,hs,h2⟩:=h2
    have h3:=ok3 c hc
    refine ⟨.ref a,_,GN h1,rfl,fun d hd F ρ H=>?_⟩
    rw [hd] at h3
    obtain ⟨⟨h3,h5⟩,h4⟩:=h3
    split at h4
    ·rename_i ks ds hn'
     cases hn'
     simp only [Bool.and_eq_true,decide_eq_true_eq] at h4
     obtain ⟨q1,q2⟩:=uM h2
     simp only [RD]
     refine ⟨a,_,rfl,.inr ⟨?_,hs,?_,es,n,lk,q1,q2⟩,?_,?_⟩
     ·rw [List.length_map];exact of_decide_eq_true h3
     ·rw [List.map_map]
      have:=of_decide_eq_true h5
      rw [show ((fun z:Key×V=>z.1) ∘ fun z:Str×Int=>((Sum.inr z.1:Key),V.int z.2))=(fun s=>(Sum.inr s:Key)) ∘ fun z:Str×Int=>z.1 from rfl,<- List.map_map]
      exact List.pairwise_map.mpr (this.imp fun h e=>h (Sum.inr.inj e))
     ·rw [List.map_map,h4.1];rfl
     ·rw [List.map_map];exact o9 h4.2
    ·cases h4
   ·cases h2
 ·have e':=e
  simp only [Tb.qw,Tb.good,Prod.mk.injEq] at e'
  exact W.mg_none_of X G (b8 e'.2.2.2.2.2.1 x (List.contains_iff_mem.mp hx))
 ·obtain ⟨r,hr,q⟩:=List.mem_map.mp (mem_of_lookup hx)
  cases q
  obtain ⟨fa,fd,h1,R⟩:=yr e ok r hr
  exact ⟨fa,fd,r.ps,GN h1,R.kp,R.bd,R.at_⟩
 ·have q:=D9 e hx
  simp only [nP,jR,Prod.mk.injEq] at q
  obtain ⟨q1,q2,q3,q4,q5,q6,q7⟩:=q
  exact ⟨⟨q1,q2,q3,q4⟩,fun f hf=>b8 q7 f (List.contains_iff_mem.mp hf)⟩
 ·obtain ⟨r,hr,q⟩:=List.mem_filterMap.mp (mem_of_lookup hx)
  split at q
  ·cases q
  ·cases q
   obtain ⟨x,C,f,fd,h1,h2,h3,h4,R⟩:=D8 e ok r hr
   exact ⟨C,f,fd,r.2.ps,by rw [h1];exact h2,⟨h3,h4,R.kp⟩,R.bd,R.at_⟩
 ·obtain ⟨r,hr,q⟩:=List.mem_filterMap.mp (mem_of_lookup hx)
  split at q
  ·rename_i hi
   obtain ⟨y,h0,q⟩:=Option.map_eq_some_iff.mp q
   cases q
   obtain ⟨x',C,f,fd,h1,h2,h3,h4,R⟩:=D8 e ok r hr
   rw [h0] at h1
   cases h1
   have hC:(t.cl[r.1]?).bind (adr K)=some C:=by rw [h0];exact h2
   have q:=D9 e hC
   simp only [nP,jR,Prod.mk.injEq] at q
   rw [hi] at h3
   exact ⟨C,f,fd,r.2.ps,GN h2,hC,⟨q.2.2.2.2.1,h3,h4,q.2.2.2.2.2.1⟩,R.bd,R.at_⟩
  ·cases q
 ·have hm:=List.mk_mem_zipIdx_iff_getElem?.mp (mem_of_lookup hx)
  have e':=e
  simp only [Tb.qw,Tb.good,Prod.mk.injEq] at e'
  obtain ⟨C,h3,_⟩:=nX (b8 e'.2.2.2.1 (x,c) (qy hm))
  exact ⟨C,GN h3,by rw [hm];exact h3⟩
 ·obtain ⟨q1,q2,q3,_⟩:=D7 e hx
  obtain ⟨bm,ec,em⟩:=Ic q1
  exact ⟨_,_,bm,_,_,ec,PySem.F.excBase_ValueError,jS (em _ _ q2),fun d D hd=>em _ _ (q3 d D hd)⟩
 ·obtain ⟨r,hr,q⟩:=List.mem_filterMap.mp (mem_of_lookup hx)
  obtain ⟨d',hd,q⟩:=Option.map_eq_some_iff.mp q
  cases q
  obtain ⟨fa,fd,h1,R⟩:=yr e ok r hr
  obtain ⟨⟨tk,hb⟩,hk⟩:=R.df _ hd
  exact ⟨fa,fd,r.ps,_,GN h1,R.kp,hb,⟨_,rfl⟩,hk,R.at_⟩
 ·obtain ⟨r,hr,q⟩:=List.mem_map.mp (mem_of_lookup hx)
  cases q
  obtain ⟨fa,fd,h1,R⟩:=GO e ok r hr
  exact ⟨fa,fd,r.ps,GN h1,R.kp,R.bd,R.at_⟩
 ·obtain ⟨_,_,_,q⟩:=D7 e hx
  exact q
theorem Tb.walk (t:Tb) (P:kU) {l:W.OpenLaw} {q:Program} {loose:List Str} {XP:(Str->Option Value)->Heap->Prop} {d:DefRec} {r:Row} {x:Str} (k:Nat) (hn:l.most=some 63) (hdf:d.params.defaults=[]) (hk:bG true (k+1) callerA)
  (ok:t.ok t.gm P=true) (hr:r∈t.fn) (hx:d.name=r.x) (h0:r.kO=none) (hps:r.ps=[x])
  (hP:∀ ns:List Int,ns.length<=63->∃ M',(aa P (k+1)).call r.i [.lst (ns.map .int)] []=.ok (.bl true) M') :
  W.WalkO q loose XP (t.hook P).says l.row.toRowW d [] (fun f vs=>PySem.call f vs):=by
 refine Att.qp hn hdf fun w s₀ s₁ mg mb fa o pm cd doc a vs ns G Y ho hd hcd hmg hobj hints hlen hg=>?_
 obtain ⟨K,KX,e⟩:=Y
 obtain ⟨f,fd,h1,R⟩:=yr e ok r hr
 have hf:mg d.name=some (.ref f):=by rw [hx];exact W.mg_of KX G.T.g (ES h1)
 cases hmg.symm.trans hf
 obtain ⟨y,qual,st,N,fn,F,q1,q2,q3,q4,q5,q6,q7⟩:=R.at_
 have D:=Tb.md (w:=w) KX G.T.g e ok
 have bd:=R.bn h0
 rw [hps] at bd q2 q3 q4
 exact yG (CX:=eB l.prog w) (sp:=DK K) (x:=x) (fd:=fd) KX G.T.g G.T.b G.T.builtins G.T.nolimit hg hobj hints (Nat.le_trans hlen (by decide)) hk (fun base _ _=>GW D hP F q1 q2 q3 q4 q5 q6 q7) (fun s u=>bd s [u] rfl)
  (fun H hO hS=>⟨a,ns,rfl,hS,hlen,fun _=>rfl⟩) fun H e s' ⟨_,_,_,_,_,_,_,_,_,_,_,_,z⟩=>z
end
end Fg
end
section
namespace bK
open Fg PySem
theorem fn0:ak.fn 0=some i7:=rfl
theorem pV:ak.fn 1=some gh:=rfl
theorem fn2:ak.fn 2=some cU:=rfl
theorem fn3:ak.fn 3=some gJ:=rfl
theorem fn4:ak.fn 4=some fU:=rfl
theorem fn5:ak.fn 5=some zB:=rfl
theorem fn6:ak.fn 6=some dY:=rfl
theorem fn7:ak.fn 7=some p9:=rfl
theorem fn8:ak.fn 8=some d8:=rfl
theorem fn9:ak.fn 9=some cY:=rfl
theorem fn10:ak.fn 10=some cy:=rfl
theorem fn11:ak.fn 11=some cu:=rfl
theorem Lo:ak.fn 12=some cF:=rfl
theorem Ln:ak.fn 13=some gA:=rfl
theorem fn14:ak.fn 14=some fX:=rfl
theorem Lm:ak.fn 15=some dZ:=rfl
theorem CM:ak.fn 16=some fj:=rfl
theorem vX:ak.fn 17=some iF:=rfl
theorem Ll:ak.fn 18=some fh:=rfl
theorem Lk:ak.fn 19=some bU:=rfl
theorem fn20:ak.fn 20=some bJ:=rfl
theorem fn21:ak.fn 21=some d7:=rfl
noncomputable abbrev w (x:String):Str:=Str.ofString x
structure Mx where
 rows:D
 most:Int
 bg:Int
 pl:D
 pile:List D
 frs:List D
 c6:List D
 log:List D
 T:MH
noncomputable def Mx.o (s:Mx) (n:Nat):MO:=.ins 1 [(w "rows", s.rows), (w "most", .int s.most), (w "begun", .int s.bg), (w "place", s.pl), (w "pile", .ref (n+1)), (w "frames", .ref (n+2)), (w "lies_open", .ref (n+3)), (w "log", .ref (n+4))]
noncomputable def Mx.h (s:Mx) (M0:MH):MH:=M0++(s.o M0.length::.lst s.pile::.lst s.frs::.lst s.c6::.lst s.log::s.T)
section
variable {M0:MH} {s:Mx} {ds:List D} {t:Nat} {o:MO}
theorem off (i:Nat) (X:MH):(M0++X)[M0.length+i]? = X[i]?:=by
 rw [List.getElem?_append_right (Nat.le_add_right _ _),Nat.add_sub_cancel_left]
theorem offs (i:Nat) (X:MH) (o:MO):(M0++X).set (M0.length+i) o=M0++X.set i o:=by
 rw [List.set_append_right _ _ (Nat.le_add_right _ _),Nat.add_sub_cancel_left]
theorem g0:(s.h M0)[M0.length]? = some (s.o M0.length):=off 0 _
theorem g1:(s.h M0)[M0.length+1]? = some (.lst s.pile):=off 1 _
theorem g2:(s.h M0)[M0.length+2]? = some (.lst s.frs):=off 2 _
theorem g3:(s.h M0)[M0.length+3]? = some (.lst s.c6):=off 3 _
theorem g4:(s.h M0)[M0.length+4]? = some (.lst s.log):=off 4 _
theorem gT:(s.h M0)[M0.length+(t+5)]? = s.T[t]?:=off (t+5) _
theorem s0 {s':Mx}:(s.h M0).set M0.length (s'.o M0.length)=({ s with rows:=s'.rows,most:=s'.most,bg:=s'.bg,pl:=s'.pl }:Mx).h M0:=offs 0 _ _
theorem s1:(s.h M0).set (M0.length+1) (.lst ds)=({ s with pile:=ds }:Mx).h M0:=offs 1 _ _
theorem s2:(s.h M0).set (M0.length+2) (.lst ds)=({ s with frs:=ds }:Mx).h M0:=offs 2 _ _
theorem s3:(s.h M0).set (M0.length+3) (.lst ds)=({ s with c6:=ds }:Mx).h M0:=offs 3 _ _
theorem s4:(s.h M0).set (M0.length+4) (.lst ds)=({ s with log:=ds }:Mx).h M0:=offs 4 _ _
theorem sT:(s.h M0).set (M0.length+(t+5)) o=({ s with T:=s.T.set t o }:Mx).h M0:=offs (t+5) _ _
theorem len:(s.h M0).length=M0.length+(s.T.length+5):=by simp [Mx.h]
theorem app {X:MH}:s.h M0++X=({ s with T:=s.T++X }:Mx).h M0:=by simp [Mx.h,Mx.o]
theorem wz {a b:String} (h:decide (Str.ofString a=Str.ofString b)=false:=by decide +kernel):(Str.ofString a == Str.ofString b)=false:=by
 rw [beq_eq_false_iff_ne];exact of_decide_eq_false h
theorem wn {a b:String} (h:decide (Str.ofString a=Str.ofString b)=false:=by decide +kernel):(Str.ofString a=Str.ofString b)=False:=by
 simpa using h
theorem Ia {Φ:aL} {σ:Sg} {i:Nat} (h:σ[i]? = some (some (.ref M0.length))):ev Φ (.fld (.v i) (w "rows")) σ (s.h M0)=.ok s.rows (s.h M0):=by
 simp only [cZ,gP,h,R.af,g0,Mx.o,List.lookup_cons,beq_self_eq_true]
theorem zC {Φ:aL} {σ:Sg} {i:Nat} (h:σ[i]? = some (some (.ref M0.length))):ev Φ (.fld (.v i) (w "most")) σ (s.h M0)=.ok (.int s.most) (s.h M0):=by
 simp only [cZ, gP, h, R.af, g0, Mx.o, List.lookup_cons, beq_self_eq_true, wz (a:="most") (b:="rows")]
theorem nH {Φ:aL} {σ:Sg} {i:Nat} (h:σ[i]? = some (some (.ref M0.length))):ev Φ (.fld (.v i) (w "begun")) σ (s.h M0)=.ok (.int s.bg) (s.h M0):=by
 simp only [cZ, gP, h, R.af, g0, Mx.o, List.lookup_cons, beq_self_eq_true, wz (a:="begun") (b:="rows"), wz (a:="begun") (b:="most")]
theorem nE {Φ:aL} {σ:Sg} {i:Nat} (h:σ[i]? = some (some (.ref M0.length))):ev Φ (.fld (.v i) (w "place")) σ (s.h M0)=.ok s.pl (s.h M0):=by
 simp only [cZ, gP, h, R.af, g0, Mx.o, List.lookup_cons, beq_self_eq_true, wz (a:="place") (b:="rows"), wz (a:="place") (b:="most"), wz (a:="place") (b:="begun")]
theorem rZ {Φ:aL} {σ:Sg} {i:Nat} (h:σ[i]? = some (some (.ref M0.length))):ev Φ (.fld (.v i) (w "pile")) σ (s.h M0)=.ok (.ref (M0.length+1)) (s.h M0):=by
 simp only [cZ, gP, h, R.af, g0, Mx.o, List.lookup_cons, beq_self_eq_true, wz (a:="pile") (b:="rows"), wz (a:="pile") (b:="most"), wz (a:="pile") (b:="begun"), wz (a:="pile") (b:="place")]
theorem cV {Φ:aL} {σ:Sg} {i:Nat} (h:σ[i]? = some (some (.ref M0.length))):ev Φ (.fld (.v i) (w "frames")) σ (s.h M0)=.ok (.ref (M0.length+2)) (s.h M0):=by
 simp only [cZ, gP, h, R.af, g0, Mx.o, List.lookup_cons, beq_self_eq_true, wz (a:="frames") (b:="rows"), wz (a:="frames") (b:="most"), wz (a:="frames") (b:="begun"), wz (a:="frames") (b:="place"), wz (a:="frames") (b:="pile")]
theorem nG {Φ:aL} {σ:Sg} {i:Nat} (h:σ[i]? = some (some (.ref M0.length))):ev Φ (.fld (.v i) (w "lies_open")) σ (s.h M0)=.ok (.ref (M0.length+3)) (s.h M0):=by
 simp only [cZ, gP, h, R.af, g0, Mx.o, List.lookup_cons, beq_self_eq_true, wz (a:="lies_open") (b:="rows"), wz (a:="lies_open") (b:="most"), wz (a:="lies_open") (b:="begun"), wz (a:="lies_open") (b:="place"), wz (a:="lies_open") (b:="pile"), wz (a:="lies_open") (b:="frames")]
theorem En {Φ:aL} {σ:Sg} {i:Nat} (h:σ[i]? = some (some (.ref M0.length))):ev Φ (.fld (.v i) (w "log")) σ (s.h M0)=.ok (.ref (M0.length+4)) (s.h M0):=by
 simp only [cZ, gP, h, R.af, g0, Mx.o, List.lookup_cons, beq_self_eq_true, wz (a:="log") (b:="rows"), wz (a:="log") (b:="most"), wz (a:="log") (b:="begun"), wz (a:="log") (b:="place"), wz (a:="log") (b:="pile"), wz (a:="log") (b:="frames"), wz (a:="log") (b:="lies_open")]
theorem B4 {i:Int}:bB (w "begun") (.int i) [(w "rows", s.rows), (w "most", .int s.most), (w "begun", .int s.bg), (w "place", s.pl), (w "pile", .ref (M0.length+1)), (w "frames", .ref (M0.length+2)), (w "lies_open", .ref (M0.length+3)), (w "log", .ref (M0.length+4))]=[(w "rows", s.rows), (w "most", .int s.most), (w "begun", .int i), (w "place", s.pl), (w "pile", .ref (M0.length+1)), (w "frames", .ref (M0.length+2)), (w "lies_open", .ref (M0.length+3)), (w "log", .ref (M0.length+4))]:=by
 simp only [bB, wn (a:="rows") (b:="begun"), wn (a:="most") (b:="begun"), if_true, if_false]
theorem B3 {d:D}:bB (w "place") d [(w "rows", s.rows), (w "most", .int s.most), (w "begun", .int s.bg), (w "place", s.pl), (w "pile", .ref (M0.length+1)), (w "frames", .ref (M0.length+2)), (w "lies_open", .ref (M0.length+3)), (w "log", .ref (M0.length+4))]=[(w "rows", s.rows), (w "most", .int s.most), (w "begun", .int s.bg), (w "place", d), (w "pile", .ref (M0.length+1)), (w "frames", .ref (M0.length+2)), (w "lies_open", .ref (M0.length+3)), (w "log", .ref (M0.length+4))]:=by
 simp only [bB, wn (a:="rows") (b:="place"), wn (a:="most") (b:="place"), wn (a:="begun") (b:="place"), if_true, if_false]
theorem C0 {Φ:aL} {σ:Sg} {i:Nat} {e:E} {n:Int} (h:σ[i]? = some (some (.ref M0.length))) (he:ev Φ e σ (s.h M0)=.ok (.int n) (s.h M0)):ex Φ (.bN (.v i) (w "begun") e) σ (s.h M0)=.ok (.nx σ) (({ s with bg:=n }:Mx).h M0):=by
 simp only [nI,he,R.fN,gP,h,g0,Mx.o,B4]
 exact congrArg (R.ok _) (s0 (s':={ s with bg:=n }))
theorem gi {Φ:aL} {σ:Sg} {i:Nat} {e:E} {d:D} {s':Mx} (h:σ[i]? = some (some (.ref M0.length))) (he:ev Φ e σ (s.h M0)=.ok d (s'.h M0)):ex Φ (.bN (.v i) (w "place") e) σ (s.h M0)=.ok (.nx σ) (({ s' with pl:=d }:Mx).h M0):=by
 simp only [nI,he,R.fN,gP,h,g0,Mx.o,B3]
 exact congrArg (R.ok _) (s0 (s':={ s' with pl:=d }))
theorem u_ {Φ:aL} {σ:Sg} {i m:Nat} {nm:Str} {es:Es} (h:σ[i]? = some (some (.ref M0.length))) (hn:([w "rows", w "most", w "begun", w "place", w "pile", w "frames", w "lies_open", w "log"].all fun x=>!(nm == x))=true):ev Φ (.cM 1 m nm (.v i) es) σ (s.h M0)=(bX Φ es σ (s.h M0)).bind fun ds M2=>Φ.call m (.ref M0.length::ds) M2:=by
 simp only [List.all_cons,List.all_nil,Bool.and_true,Bool.and_eq_true,Bool.not_eq_true'] at hn
 obtain ⟨h1,h2,h3,h4,h5,h6,h7,h8⟩:=hn
 simp only [Ii,gP,h,R.af,g0,Mx.o,List.lookup_cons,List.lookup_nil,h1,h2,h3,h4,h5,h6,h7,h8,Option.isNone_none,decide_true,Bool.and_self,if_true]
end
end bK
end
section
namespace bK
open Fg PySem
inductive Vl:D->Prop
 | int (i:Int):Vl (.int i)
 | ao:Vl .ao
 | cell {wd:Str} {sz:Int} {a b:D} {f:Nat}:1<=sz->sz<=1000->Vl a->Vl b->Vl (.tup [.str wd,.int sz,a,b,.int f])
noncomputable def cH:D->Int
 | .tup (_::.int n::_)=>n
 | _=>1
theorem Vl.sz {v:D} (h:Vl v):1<=cH v/\cH v<=1000:=by
 cases h with
 | int i=>simp [cH]
 | ao=>simp [cH]
 | cell h1 h2 _ _=>exact ⟨h1,h2⟩
theorem bu {M:MH} {c:Nat}:o6 M c M=.exc c M:=by simp [o6]
theorem aA {kp:Bool} {M M':MH} {d:D} (h:nr M.length d=true) (hl:M'.length=M.length):fE kp M d M'=.ok d M':=by
 unfold fE
 by_cases hk:kp=false/\M'.take M.length=M
 ·rw [if_pos hk,if_pos h]
  have:M'=M:=by rw [<- hk.2,<- hl,List.take_length]
  rw [this]
 ·rw [if_neg hk]
theorem ic {M M':MH} {c:Nat} (hl:M'.length=M.length):o6 M c M'=.exc c M':=by
 unfold o6
 by_cases hk:M'.take M.length=M
 ·rw [if_pos hk]
  have:M'=M:=by rw [<- hk,<- hl,List.take_length]
  rw [this]
 ·rw [if_neg hk]
section
variable {M:MH} {k:Nat}
theorem nV {v:D} (hv:Vl v):(aa ak (k+1)).call 0 [v] M=.ok (.int (cH v)) M:=by
 rw [cL fn0]
 cases hv <;> simp [j5,i7,HM,nq,vw,cH,fE,nr]
theorem gl0:ak.glob 0=some (.int 1000):=rfl
theorem Ak {wd:Str} {a b:D} (hw:wd.length<=100000) (ha:Vl a) (hb:Vl b):(aa ak (k+2)).call 1 [.str wd,a,b] M=if 1000<1+cH a+cH b then .exc 5 M else .ok (.tup [.str wd,.int (1+cH a+cH b),a,b]) M:=by
 rw [cL pV]
 have h1:=ha.sz
 have h2:=hb.sz
 have h3:(1+cH a+cH b).natAbs<18446744073709551616:=by omega
 have n1:∀ {v:D},Vl v->∀ m,nr m v=true:=fun h m=>by
  induction h with
  | int=>simp [nr]
  | ao=>simp [nr]
  | cell _ _ _ _ i j=>simp [nr,qZ,i,j]
 by_cases hq:1000<1+cH a+cH b
 ·simp [j5,gh,nV ha,nV hb,tX,gk,gl0,bO,sr,hq,cB,hw,h3,bu]
 ·simp [j5,gh,nV ha,nV hb,tX,gk,gl0,bO,sr,hq,fE,nr,qZ,n1 ha,n1 hb]
theorem Ah {wd:Str} (hw:wd.length<=100000):(aa ak (k+1)).call 4 [.str wd,.ao] M=.exc 6 M:=by
 rw [cL fn4]
 simp [j5,fU,bO,bS,cB,hw,bu]
end
end bK
end
section
namespace bK
open Fg PySem
theorem Vl.nr {v:D} (h:Vl v):∀ m,Fg.nr m v=true:=fun m=>by
 induction h with
 | int=>simp [Fg.nr]
 | ao=>simp [Fg.nr]
 | cell _ _ _ _ i j=>simp [Fg.nr,qZ,i,j]
theorem Au {α:Type} {xs:List α} {x:α}:b5 (xs++[x]) (-1)=some x:=by
 have h1:¬ (0:Int)<=-1:=by omega
 have h2:-(((xs++[x]).length:Nat):Int)<=-1:=by rw [List.length_append,List.length_singleton];omega
 have h3:((-1:Int)+(((xs++[x]).length:Nat):Int)).toNat=xs.length:=by rw [List.length_append,List.length_singleton];omega
 simp only [b5,wI,if_neg h1,if_pos h2,h3,Option.bind_some]
 simp
theorem uf {n x:Nat} (h:x<n):wI n (x:Int)=some x:=by
 have h1:(x:Int)<(n:Int):=by omega
 simp only [wI,if_pos (show (0:Int)<=(x:Int) by omega),if_pos h1,Int.toNat_natCast]
theorem jT {α:Type} {xs:List α} {i:Nat} {x:α} (h:xs[i]? = some x):b5 xs (i:Int)=some x:=by
 have hx:=(List.getElem?_eq_some_iff.mp h).1
 simp only [b5,uf hx,Option.bind_some,h]
theorem ek {P:kU} {k f:Nat} {fn:Fn} {ds:List D} {M M':MH} {σ':Sg} {r:R D} (hf:P.fn f=some fn) (hn:ds.length=fn.np) (hb:exs (aa P k) fn.body (ds.map some++List.replicate (fn.ns-fn.np) none) M=.ok (.nx σ') M') (hr:fE fn.keep M .ao M'=r):(aa P (k+1)).call f ds M=r:=by
 rw [cL hf]
 have h1:ds.length+fn.kO.length-fn.np=fn.kO.length:=by omega
 simp only [j5,h1,List.drop_length,List.append_nil,hb]
 rw [if_pos (by simp;omega)]
 exact hr
theorem jI {P:kU} {k f c:Nat} {fn:Fn} {ds:List D} {M M':MH} {σ':Sg} {r:R D} (hf:P.fn f=some fn) (hn:ds.length=fn.np) (hb:exs (aa P k) fn.body (ds.map some++List.replicate (fn.ns-fn.np) none) M=.ok (.xc c σ') M') (hr:o6 M c M'=r):(aa P (k+1)).call f ds M=r:=by
 rw [cL hf]
 have h1:ds.length+fn.kO.length-fn.np=fn.kO.length:=by omega
 simp only [j5,h1,List.drop_length,List.append_nil,hb]
 rw [if_pos (by simp;omega)]
 exact hr
section
variable {Φ:aL} {σ σ':Sg} {M M1 M2 M3:MH} {e c a b:E} {x d:D} {ss sa sb:Ss} {i n j k:Nat} {xs:List D}
theorem Fy (he:ev Φ e σ M=.ok d M1) (ha:ev Φ a σ M1=.ok (.ref n) M2) (hb:ev Φ b σ M2=.ok (.int (j:Int)) M3) (h:M3[n]? = some (.lst xs)) (hj:j<xs.length):exs Φ (.cons (.qL a b e) ss) σ M=exs Φ ss σ (M3.set n (.lst (xs.set j d))):=by
 simp only [aW,CQ,he,R.fN,ha,hb,mS,h,uf hj,R.af]
theorem oV (h:ev Φ e σ M=.exc k M1):exs Φ (.cons (.ex e) ss) σ M=.ok (.xc k σ) M1:=by simp only [aW,Lr,h,R.mH,R.af]
theorem xB (h:ev Φ e σ M=.exc k M1):exs Φ (.cons (.set i e) ss) σ M=.ok (.xc k σ) M1:=by simp only [aW,Ig,h,R.mH,R.af]
theorem oU (h:ev Φ c σ M=.ok (.bl true) M1) (ha:exs Φ sa σ M1=.ok (.xc k σ') M2):exs Φ (.cons (.ifs c sa sb) ss) σ M=.ok (.xc k σ') M2:=by simp only [aW,nJ,h,R.fN,ha,R.af]
theorem Fz (h:ev Φ c σ M=.ok (.bl false) M1) (ha:exs Φ sb σ M1=.ok (.xc k σ') M2):exs Φ (.cons (.ifs c sa sb) ss) σ M=.ok (.xc k σ') M2:=by simp only [aW,nJ,h,R.fN,ha,R.af]
theorem oS {f:Nat} (he:ev Φ e σ M=.ok d M1) (hs:cB d=true):exs Φ (.cons (.raise f (.cons e .nil)) ss) σ M=.ok (.xc f σ) M1:=by simp only [aW,zH,zI,CT,he,R.af,hs,if_true,R.fN]
theorem dj {s:S} (h:ex Φ s σ M=.ok (.nx σ') M1):exs Φ (.cons s ss) σ M=exs Φ ss σ' M1:=by simp only [aW,h,R.af]
end
section
variable {M0:MH} {s s':Mx} {d x y:D} {xs p:List D} {t k i:Nat} {Φ:aL} {σ:Sg} {e:E}
theorem Kh {M:MH} {n:Nat} (h:M[n]? = some (.lst (p++[x]))):gH .pop true M (.ref n) []=.ok x (M.set n (.lst p)):=by
 simp [gH,cS h,pH]
theorem IM {M:MH} {n:Nat} (h:M[n]? = some (.lst xs)) (hl:xs.length<line):gH .append true M (.ref n) [d]=.ok .ao (M.set n (.lst (xs++[d]))):=by
 simp only [gH,cS h,pH,qY,hl,decide_true,if_true]
theorem yf {M:MH} {n:Nat} (h:M[n]? = some (.lst xs)):pI .pop M (.ref n)=true:=by simp only [pI,cS h,Option.isSome_some,Bool.and_self]
theorem m9 {M:MH} {n:Nat} (h:M[n]? = some (.lst xs)):pI .append M (.ref n)=true:=by simp only [pI,cS h,Option.isSome_some,Bool.and_self]
theorem e_v {M:MH} (h:σ[i]? = some (some d)):ev Φ (.v i) σ M=.ok d M:=by simp only [gP,h]
theorem e_len {M M1:MH} {n:Nat} {fz:Bool} (he:ev Φ e σ M=.ok (.ref n) M1) (h:M1[n]? = some (.lst xs)):ev Φ (.blt .len fz (.cons e .nil)) σ M=.ok (.int xs.length) M1:=by
 simp only [Il,au,he,R.af,aP,An,vw,h]
theorem qe {M M1 M2:MH} {n:Nat} {e':E} {ys:List D} (he:ev Φ e σ M=.ok (.ref n) M1) (h:M1[n]? = some (.lst ys)) (hx:ev Φ e' σ M1=.ok d M2) (h2:M2[n]? = some (.lst xs)) (hl:xs.length<line):ev Φ (.bh .append true e (.cons e' .nil)) σ M=.ok .ao (M2.set n (.lst (xs++[d]))):=by
 simp only [gR,he,R.af,m9 h,if_true,au,hx,aP,IM h2 hl]
theorem sf {M M1:MH} {n:Nat} (he:ev Φ e σ M=.ok (.ref n) M1) (h:M1[n]? = some (.lst (p++[x]))):ev Φ (.bh .pop true e .nil) σ M=.ok x (M1.set n (.lst p)):=by
 simp only [gR,he,R.af,yf h,if_true,aP,Kh h]
theorem qc {M M1 M2:MH} {n:Nat} {e':E} {j:Int} (he:ev Φ e σ M=.ok (.ref n) M1) (hx:ev Φ e' σ M1=.ok (.int j) M2) (h:M2[n]? = some (.lst xs)) (ha:b5 xs j=some d):ev Φ (.idx e e') σ M=.ok d M2:=by
 simp only [nL,he,R.af,hx,nq,vw,h,ha]
theorem mh {M M1 M2:MH} {e':E} {j:Int} (he:ev Φ e σ M=.ok (.lst xs) M1) (hx:ev Φ e' σ M1=.ok (.int j) M2) (ha:b5 xs j=some d):ev Φ (.idx e e') σ M=.ok d M2:=by
 simp only [nL,he,R.af,hx,nq,vw,ha]
theorem aY {M M1 M2:MH} {e':E} {j:Int} (he:ev Φ e σ M=.ok (.tup xs) M1) (hx:ev Φ e' σ M1=.ok (.int j) M2) (ha:b5 xs j=some d):ev Φ (.idx e e') σ M=.ok d M2:=by
 simp only [nL,he,R.af,hx,nq,vw,ha]
theorem d9 {M M1 M2:MH} {e':E} {a b:Int} {fz:Bool} (he:ev Φ e σ M=.ok (.int a) M1) (hx:ev Φ e' σ M1=.ok (.int b) M2):ev Φ (.op .add fz e e') σ M=.ok (.int (a+b)) M2:=by
 simp only [gB,he,R.af,hx,tX,gk]
theorem gC {M M1 M2:MH} {e':E} {a b:Int} {fz:Bool} (he:ev Φ e σ M=.ok (.int a) M1) (hx:ev Φ e' σ M1=.ok (.int b) M2):ev Φ (.op .sub fz e e') σ M=.ok (.int (a-b)) M2:=by
 simp only [gB,he,R.af,hx,tX,gk]
theorem cK {M M1:MH} {f:Nat} (he:ev Φ e σ M=.ok d M1):ev Φ (.call f (.cons e .nil)) σ M=Φ.call f [d] M1:=by
 simp only [iG,au,he,R.af,aP]
theorem Ez {M M1:MH} {a b:Str} (he:ev Φ e σ M=.ok (.str a) M1):ev Φ (.cmp .eq e (.k (.str b))) σ M=.ok (.bl (decide (a=b))) M1:=by
 simp [he,bO,EN,Ng,ee,top,Fg.plain,dep]
theorem fk (h:σ[i]? = some (some (.ref M0.length))) (hp:s.pile=p++[x]):ev Φ (.bh .pop true (.fld (.v i) (w "pile")) .nil) σ (s.h M0)=.ok x (({ s with pile:=p }:Mx).h M0):=by
 have g:(s.h M0)[M0.length+1]? = some (.lst (p++[x])):=by rw [g1,hp]
 simp only [gR,rZ h,R.af,yf g,if_true,aP,Kh g,s1]
theorem jb (h:σ[i]? = some (some (.ref M0.length))) (he:ev Φ e σ (s.h M0)=.ok d (s'.h M0)) (hl:s'.pile.length<line):ev Φ (.bh .append true (.fld (.v i) (w "pile")) (.cons e .nil)) σ (s.h M0)=.ok .ao (({ s' with pile:=s'.pile++[d] }:Mx).h M0):=by
 simp only [gR,rZ h,R.af,m9 g1,if_true,au,aP,he,IM g1 hl,s1]
theorem zU (h:σ[i]? = some (some (.ref M0.length))) (he:ev Φ e σ (s.h M0)=.ok d (s.h M0)) (hl:s.log.length<line):ev Φ (.bh .append true (.fld (.v i) (w "log")) (.cons e .nil)) σ (s.h M0)=.ok .ao (({ s with log:=s.log++[d] }:Mx).h M0):=by
 simp only [gR,En h,R.af,m9 g4,if_true,au,aP,he,IM g4 hl,s4]
theorem l9 (h:σ[i]? = some (some (.ref M0.length))) (hf:s.frs=p++[x]):ev Φ (.idx (.fld (.v i) (w "frames")) (.neg (.k (.int 1)))) σ (s.h M0)=.ok x (s.h M0):=by
 simp only [nL,cV h,R.af,Ik,r9,nq,vw,g2,hf,Au]
end
structure fM (n:Nat) (T:MH) (t k l:Nat) (kn fl:List D) (bk:D):Prop where
 at_:T[t]? = some (.ins 0 [(w "known", .ref (n+(k+5))), (w "fields", .ref (n+(l+5))), (w "behind_call", bk)])
 kn:T[k]? = some (.lst kn)
 fl:T[l]? = some (.lst fl)
section
variable {M0:MH} {s s':Mx} {d x y bk:D} {xs p kn fl:List D} {t k l i:Nat} {Φ:aL} {σ:Sg} {e:E}
theorem Ir (A:fM M0.length s.T t k l kn fl bk) (he:ev Φ e σ (s.h M0)=.ok (.ref (M0.length+(t+5))) (s.h M0)):ev Φ (.fld e (w "known")) σ (s.h M0)=.ok (.ref (M0.length+(k+5))) (s.h M0):=by
 simp only [cZ,he,R.af,gT,A.at_,List.lookup_cons,beq_self_eq_true]
theorem LK (A:fM M0.length s.T t k l kn fl bk) (he:ev Φ e σ (s.h M0)=.ok (.ref (M0.length+(t+5))) (s.h M0)):ev Φ (.fld e (w "fields")) σ (s.h M0)=.ok (.ref (M0.length+(l+5))) (s.h M0):=by
 simp only [cZ, he, R.af, gT, A.at_, List.lookup_cons, beq_self_eq_true, wz (a:="fields") (b:="known")]
theorem e_bk {s0:Mx} (A:fM M0.length s.T t k l kn fl bk) (he:ev Φ e σ (s0.h M0)=.ok (.ref (M0.length+(t+5))) (s.h M0)):ev Φ (.fld e (w "behind_call")) σ (s0.h M0)=.ok bk (s.h M0):=by
 simp only [cZ, he, R.af, gT, A.at_, List.lookup_cons, beq_self_eq_true, wz (a:="behind_call") (b:="known"), wz (a:="behind_call") (b:="fields")]
end
section
variable {M0:MH} {s:Mx} {v x y bk:D} {p kn fl:List D} {t k l f:Nat} {b:Bool}
theorem GS (h1:s.c6.length<line) (h2:s.log.length<line):(aa ak (k+1)).call 10 [.ref M0.length] (s.h M0)=.ok (.int s.c6.length) (({ s with c6:=s.c6++[.bl true], log:=s.log++[.tup [.str (w "open"), .int s.c6.length]] }:Mx).h M0):=by
 have e0:ev (aa ak k) (.blt .len true (.cons (.fld (.v 0) (w "lies_open")) .nil)) [some (.ref M0.length), none] (s.h M0)=.ok (.int s.c6.length) (s.h M0):=e_len (nG rfl) g3
 have e1:=qe (Φ:=aa ak k) (e:=.fld (.v 0) (w "lies_open")) (e':=.k (.bl true)) (σ:=[some (.ref M0.length), some (.int s.c6.length)]) (nG (s:=s) rfl) g3 rfl g3 h1
 rw [s3] at e1
 have e2:=zU (Φ:=aa ak k) (e:=.tup (.cons (.k (.str (w "open"))) (.cons (.v 1) .nil))) (σ:=[some (.ref M0.length), some (.int s.c6.length)]) (s:={ s with c6:=s.c6++[.bl true] }) (M0:=M0) (i:=0) rfl rfl h2
 exact bV fn10 rfl ((av e0).trans ((cg e1).trans ((cg e2).trans (eX rfl)))) (aA (by simp [nr]) (by rw [len,len]))
theorem GR (hf:f<s.c6.length) (h2:s.log.length<line):(aa ak (k+1)).call 11 [.ref M0.length, .int f] (s.h M0)=.ok .ao (({ s with c6:=s.c6.set f (.bl false), log:=s.log++[.tup [.str (w "shut"), .int f]] }:Mx).h M0):=by
 have e2:=zU (Φ:=aa ak k) (e:=.tup (.cons (.k (.str (w "shut"))) (.cons (.v 1) .nil))) (σ:=[some (.ref M0.length), some (.int f)]) (s:={ s with c6:=s.c6.set f (.bl false) }) (M0:=M0) (i:=0) rfl rfl h2
 have e1:=Fy (Φ:=aa ak k) (e:=.k (.bl false)) (a:=.fld (.v 0) (w "lies_open")) (b:=.v 1) (σ:=[some (.ref M0.length), some (.int f)]) (ss:=.cons (.ex (.bh .append true (.fld (.v 0) (w "log")) (.cons (.tup (.cons (.k (.str (w "shut"))) (.cons (.v 1) .nil))) .nil))) .nil) rfl (nG (s:=s) (M0:=M0) rfl) rfl g3 hf
 rw [s3] at e1
 exact ek fn11 rfl (e1.trans ((cg e2).trans rfl)) (aA (by simp [nr]) (by rw [len,len]))
theorem GQ (hf:s.c6[f]? = some (.bl b)) (hs:f<18446744073709551616):(aa ak (k+1)).call 12 [.ref M0.length,.int f] (s.h M0)=if b then .ok .ao (s.h M0) else .exc 9 (s.h M0):=by
 have e0:ev (aa ak k) (.not (.idx (.fld (.v 0) (w "lies_open")) (.v 1))) [some (.ref M0.length), some (.int f)] (s.h M0)=.ok (.bl (!b)) (s.h M0):=by
  rw [nK,qc (nG (s:=s) (M0:=M0) (i:=0) rfl) rfl g3 (jT hf)]
  rfl
 have hs':cB (.int (f:Int))=true:=by simp only [cB,decide_eq_true_eq];omega
 cases b with
 | true=>exact ek Lo rfl ((cD e0).trans rfl) (aA (by simp [nr]) rfl)
 | false=>exact jI Lo rfl (oU e0 (oS rfl hs')) bu
end
end bK
end
section
namespace bK
open Fg PySem
section
variable {M0:MH} {s:Mx} {v x y bk a b:D} {p fs kn fl:List D} {t k l f:Nat} {bo:Bool} {wd:Str}
theorem Dd {M:MH} (hw:wd.length<=100000) (ha:Vl a) (hb:Vl b) (h:1000<1+cH a+cH b):(aa ak (k+2)).call 1 [.str wd,a,b] M=.exc 5 M:=by rw [Ak hw ha hb,if_pos h]
theorem Dc {M:MH} (hw:wd.length<=100000) (ha:Vl a) (hb:Vl b) (h:¬ 1000<1+cH a+cH b):(aa ak (k+2)).call 1 [.str wd,a,b] M=.ok (.tup [.str wd,.int (1+cH a+cH b),a,b]) M:=by rw [Ak hw ha hb,if_neg h]
theorem Ip {e:E} {σ:Sg} {i:Nat} {Φ:aL} (h:σ[i]? = some (some (.ref M0.length))) (he:ev Φ e σ (s.h M0)=.ok (.int f) (s.h M0)):ev Φ (.cM 1 12 (w "want_open") (.v i) (.cons e .nil)) σ (s.h M0)=Φ.call 12 [.ref M0.length, .int f] (s.h M0):=by
 rw [u_ h (by decide +kernel),au,he];rfl
theorem GU (hw:wd.length<=100000) (ha:Vl a) (hb:Vl b) (hp:s.pile=p++[a]++[b]) (h:1000<1+cH a+cH b):(aa ak (k+3)).call 13 [.ref M0.length,.str wd,.int f] (s.h M0)=.exc 5 (({ s with pile:=p }:Mx).h M0):=by
 have e1:=fk (Φ:=aa ak (k+2)) (σ:=[some (.ref M0.length),some (.str wd),some (.int f),none,none,none]) (M0:=M0) (i:=0) (s:=s) rfl hp
 have e2:=fk (Φ:=aa ak (k+2)) (σ:=[some (.ref M0.length),some (.str wd),some (.int f),some b,none,none]) (M0:=M0) (i:=0) (s:={ s with pile:=p++[a] }) rfl rfl
 exact jI Ln rfl ((av e1).trans ((av e2).trans (xB (Dd hw ha hb h)))) (ic (by rw [len,len]))
theorem KW (hw:wd.length<=100000) (ha:Vl a) (hb:Vl b) (hp:s.pile=p++[a]++[b]) (h:¬ 1000<1+cH a+cH b) (hf:s.c6[f]? = some (.bl true)) (hs:f<18446744073709551616) (h2:s.log.length<line) (h3:p.length<line):(aa ak (k+3)).call 13 [.ref M0.length,.str wd,.int f] (s.h M0) =
  .ok .ao (({ s with pile:=p++[.tup [.str wd, .int (1+cH a+cH b), a, b, .int f]], log:=s.log++[.tup [.str (w "lay"), .int f]] }:Mx).h M0):=by
 have e1:=fk (Φ:=aa ak (k+2)) (σ:=[some (.ref M0.length),some (.str wd),some (.int f),none,none,none]) (M0:=M0) (i:=0) (s:=s) rfl hp
 have e2:=fk (Φ:=aa ak (k+2)) (σ:=[some (.ref M0.length),some (.str wd),some (.int f),some b,none,none]) (M0:=M0) (i:=0) (s:={ s with pile:=p++[a] }) rfl rfl
 have ec:ev (aa ak (k+2)) (.call 1 (.cons (.v 1) (.cons (.v 4) (.cons (.v 3) .nil)))) [some (.ref M0.length),some (.str wd),some (.int f),some b,some a,none] (({ s with pile:=p }:Mx).h M0)=.ok (.tup [.str wd,.int (1+cH a+cH b),a,b]) (({ s with pile:=p }:Mx).h M0):=Dc hw ha hb h
 have e3:=Ip (Φ:=aa ak (k+2)) (e:=.v 2) (f:=f) (σ:=[some (.ref M0.length),some (.str wd),some (.int f),some b,some a,some (.tup [.str wd,.int (1+cH a+cH b),a,b])]) (M0:=M0) (i:=0) (s:={ s with pile:=p }) rfl rfl
 replace e3:=e3.trans (GQ (s:={ s with pile:=p }) (b:=true) hf hs)
 have e4:=zU (Φ:=aa ak (k+2)) (e:=.tup (.cons (.k (.str (w "lay"))) (.cons (.v 2) .nil))) (σ:=[some (.ref M0.length), some (.str wd), some (.int f), some b, some a, some (.tup [.str wd, .int (1+cH a+cH b), a, b])]) (s:={ s with pile:=p }) (M0:=M0) (i:=0) rfl rfl h2
 have e6:ev (aa ak (k+2)) (.op .add true (.v 5) (.tup (.cons (.v 2) .nil))) [some (.ref M0.length), some (.str wd), some (.int f), some b, some a, some (.tup [.str wd, .int (1+cH a+cH b), a, b])] (({ s with pile:=p, log:=s.log++[.tup [.str (w "lay"), .int f]] }:Mx).h M0) =
  .ok (.tup [.str wd, .int (1+cH a+cH b), a, b, .int f]) (({ s with pile:=p, log:=s.log++[.tup [.str (w "lay"), .int f]] }:Mx).h M0):=rfl
 have e5:=jb (Φ:=aa ak (k+2)) (M0:=M0) (i:=0) (s:={ s with pile:=p, log:=s.log++[.tup [.str (w "lay"), .int f]] }) (s':={ s with pile:=p, log:=s.log++[.tup [.str (w "lay"), .int f]] }) rfl e6 h3
 exact ek Ln rfl ((av e1).trans ((av e2).trans ((av ec).trans ((cg e3).trans ((cg e4).trans ((cg e5).trans rfl)))))) (aA (by simp [nr]) (by rw [len,len]))
end
noncomputable def Er:List Str->Es
 | []=>.nil
 | b::bs=>.cons (.k (.str b)) (Er bs)
theorem uy {Φ:aL} {σ:Sg} {M:MH}:∀ bs:List Str,bX Φ (Er bs) σ M=.ok (bs.map D.str) M
 | []=>rfl
 | b::bs=>by rw [Er,au,r9,R.af,uy bs];rfl
theorem uC {Φ:aL} {σ:Sg} {M M1:MH} {e:E} {c:Str} {bs:List Str} {q:Bool} (he:ev Φ e σ M=.ok (.str c) M1) (hq:(bs.any fun z=>decide (z=c))=q):ev Φ (.cmp .isin e (.tup (Er bs))) σ M=.ok (.bl q) M1:=by
 have h1:(bs.map D.str).all flat=true:=by rw [List.all_map];exact List.all_eq_true.mpr fun _ _=>rfl
 have h2:((bs.map D.str).any fun d=>aF d (.str c))=q:=by
  rw [List.any_map,<- hq]
  congr 1
 rw [dJ,he,R.af,gQ,uy]
 simp only [R.af,bO,HN,vw,flat,h1,h2,Bool.and_self,if_true]
theorem b4 {Φ:aL} {σ:Sg} {M M1:MH} {e:E} {c z:Str} {q:Bool} (he:ev Φ e σ M=.ok (.str c) M1) (hq:decide (c=z)=q):ev Φ (.cmp .eq e (.k (.str z))) σ M=.ok (.bl q) M1:=by
 rw [Ez he,hq]
section
variable {M0:MH} {s:Mx} {v x y bk a b:D} {p fs kn fl:List D} {t k l f:Nat} {bo:Bool} {wd c:Str} {sz:Int}
theorem Ck (hw:wd.length<=100000) (hp:s.pile=p++[.ao]):(aa ak (k+3)).call 14 [.ref M0.length,.str wd] (s.h M0)=.exc 6 (({ s with pile:=p }:Mx).h M0):=by
 have e1:=fk (Φ:=aa ak (k+2)) (σ:=[some (.ref M0.length),some (.str wd),none,none]) (M0:=M0) (i:=0) (s:=s) rfl hp
 exact jI fn14 rfl ((av e1).trans (xB (Ah hw))) (ic (by rw [len,len]))
end
end bK
end
section
namespace bK
open Fg PySem
theorem uv {Φ:aL} {s:S} {σ:Sg} {M:MH}:exs Φ (.cons s .nil) σ M=ex Φ s σ M:=by
 rw [aW]
 cases ex Φ s σ M with
 | ok o M1=>cases o <;> rfl
 | exc c M1=>rfl
 | bad=>rfl
section
variable {Φ:aL} {σ:Sg} {M M1:MH} {c:E} {a b:Ss}
theorem selF (h:ev Φ c σ M=.ok (.bl false) M1):exs Φ (.cons (.ifs c a b) .nil) σ M=exs Φ b σ M1:=by rw [uv,nJ,h];rfl
theorem selT (h:ev Φ c σ M=.ok (.bl true) M1):exs Φ (.cons (.ifs c a b) .nil) σ M=exs Φ a σ M1:=by rw [uv,nJ,h];rfl
end
noncomputable def sE:Ss:=.cons (.ex (.cM 1 16 (w "carry") (.v 0) (.cons (.v 1) .nil))) .nil
noncomputable def bGo:Ss:=.cons (.ex (.cM 1 17 (w "go") (.v 0) (.cons (.v 1) .nil))) .nil
noncomputable def Nh:E:=.fld (.idx (.fld (.v 0) (w "frames")) (.neg (.k (.int 1)))) (w "fields")
noncomputable def IK:Ss:=.cons (.ex (.cM 1 13 (w "lay") (.v 0) (.cons (.v 2) (.cons (.idx Nh (.idx (.v 1) (.k (.int 1)))) .nil)))) .nil
noncomputable def Ar:Ss:=.cons (.ex (.cM 1 14 (w "look") (.v 0) (.cons (.v 2) .nil))) .nil
noncomputable def zZ:E:=.fld (.v 0) (w "pile")
noncomputable def Dh:Ss:=.cons (.ex (.bh .append true zZ (.cons (.k .ao) .nil))) .nil
noncomputable def uV:Ss:=.cons (.ex (.bh .append true zZ (.cons (.AF (.cmp .wJ (.bh .pop true zZ .nil) (.k .ao)) (.k (.int 1)) (.k (.int 0))) .nil))) .nil
noncomputable def bOpen:Ss:=.cons (.ex (.bh .append true Nh (.cons (.cM 1 10 (w "open_field") (.v 0) .nil) .nil))) .nil
noncomputable def Aq:Ss:=.cons (.ex (.cM 1 11 (w "shut_field") (.v 0) (.cons (.bh .pop true Nh .nil) .nil))) .nil
noncomputable def uU:Ss:=.cons (.ex (.cM 1 15 (w "reckon") (.v 0) (.cons (.v 2) .nil))) .nil
noncomputable def t8:Ss:=.cons (.ifs (.cmp .eq (.v 2) (.k (.str (w "shut")))) Aq uU) .nil
noncomputable def t7:Ss:=.cons (.ifs (.cmp .eq (.v 2) (.k (.str (w "open")))) bOpen t8) .nil
noncomputable def t6:Ss:=.cons (.ifs (.cmp .eq (.v 2) (.k (.str (w "none")))) uV t7) .nil
noncomputable def t5:Ss:=.cons (.ifs (.cmp .eq (.v 2) (.k (.str (w "nil")))) Dh t6) .nil
noncomputable def w1:List Str:=[w "number", w "local", w "keep", w "drop"]
noncomputable def w2:List Str:=[w "jump", w "unless", w "call", w "back"]
noncomputable def w3:List Str:=[w "pair", w "cons"]
noncomputable def w4:List Str:=[w "first", w "second", w "head", w "tail"]
noncomputable def t4:Ss:=.cons (.ifs (.cmp .isin (.v 2) (.tup (Er w4))) Ar t5) .nil
noncomputable def t3:Ss:=.cons (.ifs (.cmp .isin (.v 2) (.tup (Er w3))) IK t4) .nil
noncomputable def t2:Ss:=.cons (.ifs (.cmp .isin (.v 2) (.tup (Er w2))) bGo t3) .nil
noncomputable def t1:Ss:=.cons (.ifs (.cmp .isin (.v 2) (.tup (Er w1))) sE t2) .nil
theorem vf:bU.body=.cons (.set 1 (.idx (.fld (.v 0) (w "rows")) (.fld (.v 0) (w "place")))) (.cons (.bN (.v 0) (w "place") (.op .add false (.fld (.v 0) (w "place")) (.k (.int 1)))) (.cons (.set 2 (.idx (.v 1) (.k (.int 0)))) t1)):=rfl
noncomputable def an (ws:List Str) (z:Str):Bool:=ws.any fun y=>decide (y=z)
noncomputable def br (z:Str):Ss :=
 if an w1 z then sE else if an w2 z then bGo else if an w3 z then IK else if an w4 z then Ar
 else if decide (z=w "nil") then Dh else if decide (z=w "none") then uV else if decide (z=w "open") then bOpen else if decide (z=w "shut") then Aq else uU
theorem sel {Φ:aL} {σ:Sg} {M:MH} {c:E} {a b b':Ss} {q:Bool} (h:ev Φ c σ M=.ok (.bl q) M) (hb:exs Φ b σ M=exs Φ b' σ M):exs Φ (.cons (.ifs c a b) .nil) σ M=exs Φ (if q then a else b') σ M:=by
 cases q with
 | true=>exact selT h
 | false=>exact (selF h).trans hb
theorem JL {Φ:aL} {M:MH} {r x:D} {z:Str}:exs Φ t1 [some r,some x,some (.str z)] M=exs Φ (br z) [some r,some x,some (.str z)] M :=
 sel (uC rfl rfl) (sel (uC rfl rfl) (sel (uC rfl rfl) (sel (uC rfl rfl) (sel (b4 rfl rfl) (sel (b4 rfl rfl) (sel (b4 rfl rfl) (sel (b4 rfl rfl) rfl)))))))
section
variable {M0:MH} {s:Mx} {rs rest:List D} {z:Str} {j k:Nat} {i:Int}
noncomputable def jJ (M0:MH) (d:D) (rs:List D):Prop:=d=.lst rs\/∃ n,d=.ref n/\M0[n]? = some (.lst rs)
theorem LH {Φ:aL} {σ:Sg} {e e':E} {d y:D} {j:Int} (hr:jJ M0 d rs) (he:ev Φ e σ (s.h M0)=.ok d (s.h M0)) (hx:ev Φ e' σ (s.h M0)=.ok (.int j) (s.h M0)) (ha:b5 rs j=some y):ev Φ (.idx e e') σ (s.h M0)=.ok y (s.h M0):=by
 rcases hr with rfl | ⟨n,rfl,hn⟩
 ·exact mh he hx ha
 ·refine qc he hx ?_ ha
  show (M0++_)[n]? = _
  rw [List.getElem?_append_left (List.getElem?_eq_some_iff.mp hn).1];exact hn
theorem oE {Φ:aL} (hr:jJ M0 s.rows rs) (hp:s.pl=.int i) (ha:b5 rs i=some (.tup (.str z::rest))) :
  exs Φ bU.body [some (.ref M0.length),none,none] (s.h M0)=exs Φ (br z) [some (.ref M0.length),some (.tup (.str z::rest)),some (.str z)] (({ s with pl:=.int (i+1) }:Mx).h M0):=by
 have e1:ev Φ (.idx (.fld (.v 0) (w "rows")) (.fld (.v 0) (w "place"))) [some (.ref M0.length), none, none] (s.h M0)=.ok (.tup (.str z::rest)) (s.h M0) :=
  LH hr (Ia (M0:=M0) (s:=s) (i:=0) rfl) ((nE (M0:=M0) (s:=s) (i:=0) rfl).trans (by rw [hp])) ha
 have e2:=gi (Φ:=Φ) (σ:=[some (.ref M0.length), some (.tup (.str z::rest)), none]) (e:=.op .add false (.fld (.v 0) (w "place")) (.k (.int 1))) (s:=s) (s':=s) (M0:=M0) (i:=0) rfl (d9 ((nE (M0:=M0) (s:=s) (i:=0) rfl).trans (by rw [hp])) rfl)
 have e3:ev Φ (.idx (.v 1) (.k (.int 0))) [some (.ref M0.length),some (.tup (.str z::rest)),none] (({ s with pl:=.int (i+1) }:Mx).h M0)=.ok (.str z) (({ s with pl:=.int (i+1) }:Mx).h M0):=aY rfl rfl cz
 rw [vf]
 exact (av e1).trans ((dj e2).trans ((av e3).trans JL))
theorem bD {s':Mx} (hr:jJ M0 s.rows rs) (hp:s.pl=.int i) (ha:b5 rs i=some (.tup (.str z::rest))) (hb:exs (aa ak k) (br z) [some (.ref M0.length),some (.tup (.str z::rest)),some (.str z)] (({ s with pl:=.int (i+1) }:Mx).h M0)=.ok (.nx [some (.ref M0.length),some (.tup (.str z::rest)),some (.str z)]) (s'.h M0))
  (hn:fE false (s.h M0) .ao (s'.h M0)=.ok .ao (s'.h M0)):(aa ak (k+1)).call 19 [.ref M0.length] (s.h M0)=.ok .ao (s'.h M0):=ek Lk rfl ((oE hr hp ha).trans hb) hn
theorem jM {s':Mx} {c:Nat} (hr:jJ M0 s.rows rs) (hp:s.pl=.int i) (ha:b5 rs i=some (.tup (.str z::rest))) (hb:exs (aa ak k) (br z) [some (.ref M0.length),some (.tup (.str z::rest)),some (.str z)] (({ s with pl:=.int (i+1) }:Mx).h M0)=.ok (.xc c [some (.ref M0.length),some (.tup (.str z::rest)),some (.str z)]) (s'.h M0))
  (hn:s'.T.length=s.T.length):(aa ak (k+1)).call 19 [.ref M0.length] (s.h M0)=.exc c (s'.h M0):=jI Lk rfl ((oE hr hp ha).trans hb) (ic (by rw [len,len,hn]))
theorem aR {s':Mx} (h:s'.T.length=s.T.length):fE false (s.h M0) .ao (s'.h M0)=.ok .ao (s'.h M0):=aA (by simp [nr]) (by rw [len,len,h])
end
end bK
end
section
namespace bK
open Fg PySem
section
variable {M0:MH} {s:Mx} {x y v bk:D} {rest fs kn fl p:List D} {z:Str} {t k l f j:Nat} {i:Int} {Φ:aL} {σ:Sg}
theorem fP {m:Nat} {nm:Str} {es:Es} {ds:List D} {s':Mx} {M1:MH} {ss:Ss} (h:σ[0]? = some (some (.ref M0.length))) (hn:([w "rows", w "most", w "begun", w "place", w "pile", w "frames", w "lies_open", w "log"].all fun x=>!(nm == x))=true) (he:bX Φ es σ (s.h M0)=.ok ds (s'.h M0)) (hc:Φ.call m (.ref M0.length::ds) (s'.h M0)=.ok y M1):exs Φ (.cons (.ex (.cM 1 m nm (.v 0) es)) ss) σ (s.h M0)=exs Φ ss σ M1 :=
 cg ((u_ h hn).trans (by rw [he];exact hc))
theorem j4 {m c:Nat} {nm:Str} {es:Es} {ds:List D} {s':Mx} {M1:MH} {ss:Ss} (h:σ[0]? = some (some (.ref M0.length))) (hn:([w "rows", w "most", w "begun", w "place", w "pile", w "frames", w "lies_open", w "log"].all fun x=>!(nm == x))=true) (he:bX Φ es σ (s.h M0)=.ok ds (s'.h M0)) (hc:Φ.call m (.ref M0.length::ds) (s'.h M0)=.exc c M1):exs Φ (.cons (.ex (.cM 1 m nm (.v 0) es)) ss) σ (s.h M0)=.ok (.xc c σ) M1 :=
 oV ((u_ h hn).trans (by rw [he];exact hc))
theorem Ag (hf:s.frs=fs++[y]) (hl:s.pile.length<line):(aa ak (k+1)).call 16 [.ref M0.length, .tup [.str (w "number"), x]] (s.h M0)=.ok .ao (({ s with pile:=s.pile++[x] }:Mx).h M0):=by
 have e1:=l9 (Φ:=aa ak k) (σ:=[some (.ref M0.length), some (.tup [.str (w "number"), x]), none]) (M0:=M0) (s:=s) (i:=0) rfl hf
 have e2:ev (aa ak k) (.cmp .eq (.idx (.v 1) (.k (.int 0))) (.k (.str (w "number")))) [some (.ref M0.length), some (.tup [.str (w "number"), x]), some y] (s.h M0)=.ok (.bl true) (s.h M0):=b4 (aY rfl rfl cz) (by decide +kernel)
 have e3:=jb (Φ:=aa ak k) (e:=.idx (.v 1) (.k (.int 1))) (d:=x) (σ:=[some (.ref M0.length), some (.tup [.str (w "number"), x]), some y]) (M0:=M0) (i:=0) (s:=s) (s':=s) rfl (aY rfl rfl mE) hl
 exact ek CM rfl ((av e1).trans (dQ e2 ((cg e3).trans rfl))) (aR rfl)
theorem C8 (hf:s.frs=fs++[.ref (M0.length+(t+5))]) (A:fM M0.length s.T t j l kn fl bk) (hx:b5 kn i=some x) (hl:s.pile.length<line):(aa ak (k+1)).call 16 [.ref M0.length, .tup [.str (w "local"), .int i]] (s.h M0)=.ok .ao (({ s with pile:=s.pile++[x] }:Mx).h M0):=by
 have e1:=l9 (Φ:=aa ak k) (σ:=[some (.ref M0.length), some (.tup [.str (w "local"), .int i]), none]) (M0:=M0) (s:=s) (i:=0) rfl hf
 have e2:ev (aa ak k) (.cmp .eq (.idx (.v 1) (.k (.int 0))) (.k (.str (w "number")))) [some (.ref M0.length), some (.tup [.str (w "local"), .int i]), some (.ref (M0.length+(t+5)))] (s.h M0)=.ok (.bl false) (s.h M0):=b4 (aY rfl rfl cz) (by decide +kernel)
 have e3:ev (aa ak k) (.cmp .eq (.idx (.v 1) (.k (.int 0))) (.k (.str (w "local")))) [some (.ref M0.length), some (.tup [.str (w "local"), .int i]), some (.ref (M0.length+(t+5)))] (s.h M0)=.ok (.bl true) (s.h M0):=b4 (aY rfl rfl cz) (by decide +kernel)
 have e4:ev (aa ak k) (.idx (.fld (.v 2) (w "known")) (.idx (.v 1) (.k (.int 1)))) [some (.ref M0.length), some (.tup [.str (w "local"), .int i]), some (.ref (M0.length+(t+5)))] (s.h M0)=.ok x (s.h M0):=qc (Ir A rfl) (aY rfl rfl mE) (gT.trans A.kn) hx
 have e5:=jb (Φ:=aa ak k) (M0:=M0) (i:=0) (s:=s) (s':=s) rfl e4 hl
 exact ek CM rfl ((av e1).trans (aQ e2 ((dQ e3 ((cg e5).trans rfl)).trans rfl))) (aR rfl)
theorem IC (hf:s.frs=fs++[.ref (M0.length+(t+5))]) (A:fM M0.length s.T t j l kn fl bk) (hp:s.pile=p++[x]) (hl:kn.length<line):(aa ak (k+1)).call 16 [.ref M0.length, .tup [.str (w "keep")]] (s.h M0)=.ok .ao (({ s with pile:=p, T:=s.T.set j (.lst (kn++[x])) }:Mx).h M0):=by
 have e1:=l9 (Φ:=aa ak k) (σ:=[some (.ref M0.length), some (.tup [.str (w "keep")]), none]) (M0:=M0) (s:=s) (i:=0) rfl hf
 have q:∀ u:Str, decide (w "keep" = u)=false->ev (aa ak k) (.cmp .eq (.idx (.v 1) (.k (.int 0))) (.k (.str u))) [some (.ref M0.length), some (.tup [.str (w "keep")]), some (.ref (M0.length+(t+5)))] (s.h M0)=.ok (.bl false) (s.h M0):=fun u h=>b4 (aY rfl rfl cz) h
 have e4:ev (aa ak k) (.cmp .eq (.idx (.v 1) (.k (.int 0))) (.k (.str (w "keep")))) [some (.ref M0.length), some (.tup [.str (w "keep")]), some (.ref (M0.length+(t+5)))] (s.h M0)=.ok (.bl true) (s.h M0):=b4 (aY rfl rfl cz) (by decide +kernel)
 have e5:=fk (Φ:=aa ak k) (σ:=[some (.ref M0.length), some (.tup [.str (w "keep")]), some (.ref (M0.length+(t+5)))]) (M0:=M0) (i:=0) (s:=s) rfl hp
 have g:(({ s with pile:=p }:Mx).h M0)[M0.length+(j+5)]? = some (.lst kn):=gT.trans A.kn
 have e6:=qe (Ir (Φ:=aa ak k) (e:=.v 2) (σ:=[some (.ref M0.length), some (.tup [.str (w "keep")]), some (.ref (M0.length+(t+5)))]) A rfl) (gT.trans A.kn) e5 g hl
 rw [sT] at e6
 exact ek CM rfl ((av e1).trans (aQ (q _ (by decide +kernel)) ((aQ (q _ (by decide +kernel)) ((dQ e4 ((cg e6).trans rfl)).trans rfl)).trans rfl))) (aR (by simp))
theorem IE (hf:s.frs=fs++[.ref (M0.length+(t+5))]) (A:fM M0.length s.T t j l (kn++[x]) fl bk):(aa ak (k+1)).call 16 [.ref M0.length, .tup [.str (w "drop")]] (s.h M0)=.ok .ao (({ s with T:=s.T.set j (.lst kn) }:Mx).h M0):=by
 have e1:=l9 (Φ:=aa ak k) (σ:=[some (.ref M0.length), some (.tup [.str (w "drop")]), none]) (M0:=M0) (s:=s) (i:=0) rfl hf
 have q:∀ u:Str, decide (w "drop" = u)=false->ev (aa ak k) (.cmp .eq (.idx (.v 1) (.k (.int 0))) (.k (.str u))) [some (.ref M0.length), some (.tup [.str (w "drop")]), some (.ref (M0.length+(t+5)))] (s.h M0)=.ok (.bl false) (s.h M0):=fun u h=>b4 (aY rfl rfl cz) h
 have e6:=sf (Ir (Φ:=aa ak k) (e:=.v 2) (σ:=[some (.ref M0.length), some (.tup [.str (w "drop")]), some (.ref (M0.length+(t+5)))]) A rfl) (gT.trans A.kn)
 rw [sT] at e6
 exact ek CM rfl ((av e1).trans (aQ (q _ (by decide +kernel)) ((aQ (q _ (by decide +kernel)) ((aQ (q _ (by decide +kernel)) ((cg e6).trans rfl)).trans rfl)).trans rfl))) (aR (by simp))
theorem ID:(aa ak (k+1)).call 17 [.ref M0.length, .tup [.str (w "jump"), x]] (s.h M0)=.ok .ao (({ s with pl:=x }:Mx).h M0):=by
 have e1:ev (aa ak k) (.cmp .eq (.idx (.v 1) (.k (.int 0))) (.k (.str (w "jump")))) [some (.ref M0.length), some (.tup [.str (w "jump"), x])] (s.h M0)=.ok (.bl true) (s.h M0):=b4 (aY rfl rfl cz) (by decide +kernel)
 have e2:=gi (Φ:=aa ak k) (σ:=[some (.ref M0.length), some (.tup [.str (w "jump"), x])]) (e:=.idx (.v 1) (.k (.int 1))) (d:=x) (s:=s) (s':=s) (M0:=M0) (i:=0) rfl (aY rfl rfl mE)
 exact ek vX rfl (dQ e1 ((dj e2).trans rfl)) (aR rfl)
theorem IF (hf:s.frs=fs++[.ref (M0.length+(t+5))]) (A:fM M0.length s.T t j l kn fl bk):(aa ak (k+1)).call 17 [.ref M0.length, .tup [.str (w "back")]] (s.h M0)=.ok .ao (({ s with frs:=fs, pl:=bk }:Mx).h M0):=by
 have q:∀ u:Str, decide (w "back" = u)=false->ev (aa ak k) (.cmp .eq (.idx (.v 1) (.k (.int 0))) (.k (.str u))) [some (.ref M0.length), some (.tup [.str (w "back")])] (s.h M0)=.ok (.bl false) (s.h M0):=fun u h=>b4 (aY rfl rfl cz) h
 have e4:ev (aa ak k) (.cmp .eq (.idx (.v 1) (.k (.int 0))) (.k (.str (w "back")))) [some (.ref M0.length), some (.tup [.str (w "back")])] (s.h M0)=.ok (.bl true) (s.h M0):=b4 (aY rfl rfl cz) (by decide +kernel)
 have e5:=sf (cV (Φ:=aa ak k) (σ:=[some (.ref M0.length), some (.tup [.str (w "back")])]) (M0:=M0) (s:=s) (i:=0) rfl) (g2.trans (by rw [hf]))
 rw [s2] at e5
 have e6:=gi (Φ:=aa ak k) (σ:=[some (.ref M0.length), some (.tup [.str (w "back")])]) (s:=s) (s':={ s with frs:=fs }) (M0:=M0) (i:=0) rfl (e_bk (s:={ s with frs:=fs }) A e5)
 exact ek vX rfl (aQ (q _ (by decide +kernel)) ((aQ (q _ (by decide +kernel)) ((dQ e4 ((dj e6).trans rfl)).trans rfl)).trans rfl)) (aR rfl)
end
end bK
end
section
namespace bK
open Fg PySem
section
variable {M0:MH} {s:Mx} {x y v bk:D} {rest fs kn fl p:List D} {z:Str} {t k l f j:Nat} {i:Int} {Φ:aL} {σ:Sg} {M:MH}
theorem CZ {M1 M2:MH} {e e':E} {a b:Int} {q:Bool} (he:ev Φ e σ M=.ok (.int a) M1) (hx:ev Φ e' σ M1=.ok (.int b) M2) (hq:decide (b<a)=q):ev Φ (.cmp .gt e e') σ M=.ok (.bl q) M2:=by
 rw [dJ,he,R.af,hx,<- hq];rfl
theorem EJ {b u m:Int}:(aa ak (k+1)).call 6 [.int b,.int u,.int m] M=if m<b+1 then .exc 7 M else if 12<u+1 then .exc 8 M else .ok .ao M:=by
 have e1:∀ q,decide (m<b+1)=q->ev (aa ak k) (.cmp .gt (.op .add true (.v 0) (.k (.int 1))) (.v 2)) [some (.int b),some (.int u),some (.int m)] M=.ok (.bl q) M:=fun q h=>CZ (d9 rfl rfl) rfl h
 have g:ev (aa ak k) (.g 1) [some (.int b),some (.int u),some (.int m)] M=.ok (.int 12) M:=by rw [ev_g,sC];rfl
 have e2:∀ q,decide (12<u+1)=q->ev (aa ak k) (.cmp .gt (.op .add true (.v 1) (.k (.int 1))) (.g 1)) [some (.int b),some (.int u),some (.int m)] M=.ok (.bl q) M:=fun q h=>CZ (d9 rfl rfl) g h
 by_cases h1:m<b+1
 ·rw [if_pos h1]
  exact jI fn6 rfl (oU (e1 true (decide_eq_true h1)) rfl) bu
 ·rw [if_neg h1]
  by_cases h2:12<u+1
  ·rw [if_pos h2]
   exact jI fn6 rfl ((cD (e1 false (decide_eq_false h1))).trans (oU (e2 true (decide_eq_true h2)) (oS g (by decide)))) bu
  ·rw [if_neg h2]
   exact ek fn6 rfl ((cD (e1 false (decide_eq_false h1))).trans ((cD (e2 false (decide_eq_false h2))).trans rfl)) (aA (by simp [nr]) rfl)
theorem nN {M1 M2:MH} {e a:E} {d:D} {n c:Nat} {g:Str} {gs gs':List (Str×D)} (he:ev Φ e σ M=.ok d M1) (ha:ev Φ a σ M1=.ok (.ref n) M2) (h:M2[n]? = some (.ins c gs)) (hl:gs.length<1000) (hg:bB g d gs=gs'):ex Φ (.bN a g e) σ M=.ok (.nx σ) (M2.set n (.ins c gs')):=by
 simp only [nI,he,R.fN,ha,h,hl,decide_true,if_true,hg]
theorem uT {n:Nat} {x y z:D} (h:M[n]? = some (.ins 0 [])):(aa ak (k+1)).call 8 [.ref n, x, y, z] M=.ok .ao (M.set n (.ins 0 [(w "known", x), (w "fields", y), (w "behind_call", z)])):=by
 have p1:bB (w "fields") y [(w "known", x)]=[(w "known", x), (w "fields", y)]:=by simp only [bB, wn (a:="known") (b:="fields"), if_false]
 have p2:bB (w "behind_call") z [(w "known", x), (w "fields", y)]=[(w "known", x), (w "fields", y), (w "behind_call", z)]:=by simp only [bB, wn (a:="known") (b:="behind_call"), wn (a:="fields") (b:="behind_call"), if_false]
 have e1:=nN (Φ:=aa ak k) (σ:=[some (.ref n), some x, some y, some z]) (e:=.v 1) (a:=.v 0) (g:=w "known") (gs':=[(w "known", x)]) rfl rfl h (by decide) rfl
 have e2:=nN (Φ:=aa ak k) (σ:=[some (.ref n), some x, some y, some z]) (e:=.v 2) (a:=.v 0) (g:=w "fields") rfl rfl (mR (b:=.ins 0 [(w "known", x)]) h) (by simp) p1
 rw [List.set_set] at e2
 have e3:=nN (Φ:=aa ak k) (σ:=[some (.ref n), some x, some y, some z]) (e:=.v 3) (a:=.v 0) (g:=w "behind_call") rfl rfl (mR (b:=.ins 0 [(w "known", x), (w "fields", y)]) h) (by simp) p2
 rw [List.set_set] at e3
 exact ek fn8 rfl ((dj e1).trans ((dj e2).trans ((dj e3).trans rfl))) (aA (by simp [nr]) (by simp))
theorem e_new {M1 M2:MH} {c g:Nat} {es:Es} {ds:List D} (he:bX Φ es σ M=.ok ds M1) (hc:Φ.ini g (.ref M1.length::ds) (M1++[.ins c []])=.ok .ao M2):ev Φ (.new c g es) σ M=.ok (.ref M1.length) M2:=by
 rw [Ij,he,R.af,hc];rfl
theorem zX {M1 M2:MH} {caps tg:List Nat} {elt:E} {it:Src} {d:D} {ds out:List D} (hi:b3 Φ it σ M=.ok (d,ds,false) M1) (hl:bz (oh Φ .none) (ev Φ elt) tg (aN M1 d) ds (nR σ caps++List.replicate tg.length none) M1 []=.ok out M2):ev Φ (.comp false caps tg elt it .none) σ M=.ok (.ref M2.length) (M2++[.lst out]):=by
 rw [nM,hi,R.af,zA,hl];rfl
theorem uE {M1 M2:MH} {caps tg:List Nat} {elt:E} {it:Src} {d:D} {ds out:List D} (hi:b3 Φ it σ M=.ok (d,ds,false) M1) (hl:bz (oh Φ .none) (ev Φ elt) tg (aN M1 d) ds (nR σ caps++List.replicate tg.length none) M1 []=.ok out M2):ev Φ (.comp true caps tg elt it .none) σ M=.ok (.lst out) M2:=by
 rw [nM,hi,R.af,zA,hl];rfl
theorem rK {elt:Sg->MH->R D} {n:Nat} {ch:MH->Bool} {d x:D} {ds acc:List D} {M1:MH} (h:elt (σ.set n (some d)) M=.ok x M1) (hc:ch M1=true) (hl:acc.length<line):bz (oh Φ .none) elt [n] ch (d::ds) σ M acc=bz (oh Φ .none) elt [n] ch ds (σ.set n (some d)) M1 (acc++[x]):=by
 rw [bz]
 simp only [sets,zK,R.af,h,hc,if_true,hl,decide_true]
theorem yD {ch:MH->Bool} (hch:∀ M,ch M=true):∀ (xs ds:List D) (s:Mx) (o:Option D) (acc:List D),ds.length=xs.length->s.pile=p++xs.reverse->acc.length+xs.length<=line ->
  bz (oh Φ .none) (ev Φ (.bh .pop true (.fld (.v 0) (w "pile")) .nil)) [1] ch ds [some (.ref M0.length), o] (s.h M0) acc=.ok (acc++xs) (({ s with pile:=p }:Mx).h M0)
 | [],[],s,o,acc,_,hp,_=>by
  rw [List.reverse_nil,List.append_nil] at hp
  rw [List.append_nil,bz,<- hp]
 | x::xs,d::ds,s,o,acc,hd,hp,hl=>by
  rw [List.reverse_cons,<- List.append_assoc] at hp
  simp only [List.length_cons] at hd hl
  rw [rK (Φ:=Φ) (σ:=[some (.ref M0.length),o]) (fk (Φ:=Φ) (σ:=[some (.ref M0.length),some d]) (M0:=M0) (i:=0) rfl hp) (hch _) (by omega)]
  rw [show ([some (.ref M0.length),o]:Sg).set 1 (some d)=[some (.ref M0.length),some d] from rfl,yD hch xs ds { s with pile:=p++xs.reverse } (some d) (acc++[x]) (by omega) rfl (by simp;omega)]
  rw [List.append_assoc];rfl
 | [],_::_,_,_,_,hd,_,_=>by simp at hd
 | _::_,[],_,_,_,hd,_,_=>by simp at hd
theorem yE {a:Nat} {ch:MH->Bool} (hch:ch M=true) (hM:M[a]? = some (.lst fl)):∀ (is:List Int) (ys:List D) (o:Option D) (acc:List D),is.map (b5 fl)=ys.map some->acc.length+is.length<=line ->
  bz (oh Φ .none) (ev Φ (.idx (.v 0) (.v 1))) [1] ch (is.map D.int) [some (.ref a),o] M acc=.ok (acc++ys) M
 | [],[],o,acc,_,_=>by rw [List.append_nil,List.map_nil,bz]
 | i::is,y::ys,o,acc,h,hl=>by
  simp only [List.map_cons,List.cons.injEq] at h
  simp only [List.length_cons] at hl
  rw [List.map_cons,rK (Φ:=Φ) (σ:=[some (.ref a),o]) (x:=y) (M1:=M) (qc rfl rfl hM h.1) hch (by omega)]
  rw [show ([some (.ref a),o]:Sg).set 1 (some (.int i))=[some (.ref a),some (.int i)] from rfl,yE hch hM is ys (some (.int i)) (acc++[y]) h.2 (by simp;omega)]
  rw [List.append_assoc];rfl
 | [],_::_,_,_,h,_=>by simp at h
 | _::_,[],_,_,h,_=>by simp at h
theorem zS {M1:MH} {e:E} {n:Nat} (he:ev Φ e σ M=.ok (.int n) M1) (hn:n<=1000000):b3 Φ (.iO e) σ M=.ok (.ao,eG 0 n,false) M1:=by
 rw [uz,he,R.af]
 simp only [Ce hn,if_true]
theorem o4 {n:Nat}:(eG 0 (n:Int)).length=n:=by simp [eG]
theorem Aj {a b:D} {c:Nat} {n:Int} (hc:(if s.most<s.bg+1 then (.exc 7 (s.h M0):R D) else if 12<((s.frs.length:Int)-1)+1 then .exc 8 (s.h M0) else .ok .ao (s.h M0))=.exc c (s.h M0)):(aa ak (k+2)).call 18 [.ref M0.length,a,.int n,b] (s.h M0)=.exc c (s.h M0):=by
 have e1:ev (aa ak (k+1)) (.call 6 (.cons (.fld (.v 0) (w "begun")) (.cons (.op .sub true (.blt .len true (.cons (.fld (.v 0) (w "frames")) .nil)) (.k (.int 1))) (.cons (.fld (.v 0) (w "most")) .nil)))) [some (.ref M0.length), some a, some (.int n), some b, none, none] (s.h M0)=.exc c (s.h M0):=by
  rw [iG,au,nH (s:=s) (M0:=M0) (i:=0) rfl,R.af,au,gC (e_len (cV (s:=s) (M0:=M0) (i:=0) rfl) g2) rfl,R.af,au,zC (s:=s) (M0:=M0) (i:=0) rfl,R.af,aP]
  exact EJ.trans hc
 exact jI Ll rfl (oV e1) bu
end
theorem mJ {M M':MH} {i:Nat} {a b:MO} (h1:M[i]? = some a) (h2:M'[i]? = some b) (hn:a≠b):M'.take M.length≠M:=fun h=>by
 have hi:=(List.getElem?_eq_some_iff.mp h1).1
 have:=List.getElem?_take_of_lt (l:=M') hi
 rw [h,h1,h2] at this
 exact hn (Option.some.inj this)
theorem mX {M M':MH} {d:D} (h:M'.take M.length≠M):fE false M d M'=.ok d M':=by
 unfold fE;rw [if_neg fun z=>h z.2]
theorem eL {s:Mx} {M0:MH}:(s.h M0).length=M0.length+(s.T.length+5):=len
section
variable {M0:MH} {s:Mx} {bk:D} {fs kn fl p xs ys:List D} {t k l j:Nat} {is:List Int}
theorem C9 {a pl:D} (hf:s.frs=fs++[.ref (M0.length+(t+5))]) (A:fM M0.length s.T t j l kn fl bk) (h1:¬ s.most<s.bg+1) (h2:¬ 12<((s.frs.length:Int)-1)+1) (hp:s.pile=p++xs) (hx:xs.length<=1000000) (hy:is.map (b5 fl)=ys.map some) (hi:is.length<=line) (hpl:s.pl=pl) (hfl:s.frs.length<line) :
  (aa ak (k+3)).call 18 [.ref M0.length,a,.int xs.length,.tup (is.map D.int)] (s.h M0) =
   .ok .ao (({ s with bg:=s.bg+1, pile:=p, pl:=a, frs:=s.frs++[.ref (M0.length+(s.T.length+2+5))], T:=s.T++[.lst xs, .lst ys, .ins 0 [(w "known", .ref (M0.length+(s.T.length+5))), (w "fields", .ref (M0.length+(s.T.length+1+5))), (w "behind_call", pl)]] }:Mx).h M0):=by
 have hlt:t<s.T.length:=(List.getElem?_eq_some_iff.mp A.at_).1
 have hll:l<s.T.length:=(List.getElem?_eq_some_iff.mp A.fl).1
 have e1:ev (aa ak (k+2)) (.call 6 (.cons (.fld (.v 0) (w "begun")) (.cons (.op .sub true (.blt .len true (.cons (.fld (.v 0) (w "frames")) .nil)) (.k (.int 1))) (.cons (.fld (.v 0) (w "most")) .nil)))) [some (.ref M0.length), some a, some (.int xs.length), some (.tup (is.map D.int)), none, none] (s.h M0)=.ok .ao (s.h M0):=by
  rw [iG,au,nH (s:=s) (M0:=M0) (i:=0) rfl,R.af,au,gC (e_len (cV (s:=s) (M0:=M0) (i:=0) rfl) g2) rfl,R.af,au,zC (s:=s) (M0:=M0) (i:=0) rfl,R.af,aP]
  exact EJ.trans (by rw [if_neg h1,if_neg h2])
 have e2:=C0 (Φ:=aa ak (k+2)) (σ:=[some (.ref M0.length), some a, some (.int xs.length), some (.tup (is.map D.int)), none, none]) (e:=.op .add false (.fld (.v 0) (w "begun")) (.k (.int 1))) (s:=s) (M0:=M0) (i:=0) rfl (d9 (nH (s:=s) (M0:=M0) (i:=0) rfl) rfl)
 let s1:Mx:={ s with bg:=s.bg+1 }
 let s2':Mx:={ s with bg:=s.bg+1,pile:=p }
 have e3:=zX (Φ:=aa ak (k+2)) (σ:=[some (.ref M0.length),some a,some (.int xs.length),some (.tup (is.map D.int)),none,none]) (M:=s1.h M0) (caps:=[0]) (tg:=[1]) (it:=.iO (.v 2)) (zS (n:=xs.length) rfl hx)
  (yD (Φ:=aa ak (k+2)) (M0:=M0) (ch:=aN (s1.h M0) .ao) (fun _=>rfl) xs.reverse (eG 0 (xs.length:Int)) s1 none [] (by rw [o4,List.length_reverse]) (by rw [List.reverse_reverse];exact hp) (by rw [List.length_reverse];exact Nat.le_trans (by simp) hx))
 rw [List.nil_append,app] at e3
 rw [show ({ s1 with pile:=p }:Mx)=s2' from rfl,eL] at e3
 let s3':Mx:={ s2' with T:=s2'.T++[.lst xs.reverse] }
 have g4':(s3'.h M0)[M0.length+(s.T.length+5)]? = some (.lst xs.reverse):=gT.trans (by show (s.T++[MO.lst xs.reverse])[s.T.length]? = _;simp)
 have e4:ev (aa ak (k+2)) (.bh .reverse true (.v 4) .nil) [some (.ref M0.length),some a,some (.int xs.length),some (.tup (is.map D.int)),some (.ref (M0.length+(s.T.length+5))),none] (s3'.h M0)=.ok .ao (({ s2' with T:=s.T++[.lst xs] }:Mx).h M0):=by
  rw [gR,gP]
  simp only [List.getElem?_cons_succ,List.getElem?_cons_zero,R.af,pI,cS g4',Option.isSome_some,Bool.and_self,if_true,aP,gH,pH,List.isEmpty_nil,List.reverse_reverse]
  rw [sT]
  show R.ok D.ao (({ s2' with T:=(s.T++[MO.lst xs.reverse]).set s.T.length (.lst xs) }:Mx).h M0)=_
  rw [List.set_append_right _ _ (Nat.le_refl _),Nat.sub_self];rfl
 let wF:Mx:={ s2' with T:=s.T++[.lst xs] }
 have up:∀ {i:Nat} {o:MO},i<s.T.length->s.T[i]? = some o->wF.T[i]? = some o:=fun {i o} h e=>by show (s.T++[MO.lst xs])[i]? = _;rw [List.getElem?_append_left h];exact e
 have A4:fM M0.length wF.T t j l kn fl bk:=⟨up hlt A.at_,up ((List.getElem?_eq_some_iff.mp A.kn).1) A.kn,up hll A.fl⟩
 have e5:ev (aa ak (k+2)) (.fld (.idx (.fld (.v 0) (w "frames")) (.neg (.k (.int 1)))) (w "fields")) [some (.ref M0.length), some a, some (.int xs.length), some (.tup (is.map D.int)), some (.ref (M0.length+(s.T.length+5))), none] (wF.h M0)=.ok (.ref (M0.length+(l+5))) (wF.h M0):=LK A4 (l9 rfl hf)
 have e6:=zX (Φ:=aa ak (k+2)) (σ:=[some (.ref M0.length),some a,some (.int xs.length),some (.tup (is.map D.int)),some (.ref (M0.length+(s.T.length+5))),some (.ref (M0.length+(l+5)))]) (M:=wF.h M0) (M1:=wF.h M0) (caps:=[5]) (tg:=[1]) (it:=.e (.v 3)) (d:=.tup (is.map D.int)) (ds:=is.map D.int) rfl
  (yE (Φ:=aa ak (k+2)) (ch:=aN (wF.h M0) (.tup (is.map D.int))) (a:=M0.length+(l+5)) rfl (gT.trans A4.fl) is ys none [] hy (by simpa using hi))
 rw [List.nil_append,app,eL] at e6
 have l4:wF.T.length=s.T.length+1:=by show (s.T++[MO.lst xs]).length=_;simp
 let wD:Mx:={ wF with T:=wF.T++[.lst ys] }
 have l5:wD.T.length=s.T.length+2:=by show (s.T++[MO.lst xs]++[MO.lst ys]).length=_;simp
 let fo:MO:=.ins 0 [(w "known", .ref (M0.length+(s.T.length+5))), (w "fields", .ref (M0.length+(s.T.length+1+5))), (w "behind_call", pl)]
 let JX:Mx:={ wD with T:=wD.T++[fo] }
 have e7:ev (aa ak (k+2)) (.new 0 8 (.cons (.v 4) (.cons (.comp false [5] [1] (.idx (.v 0) (.v 1)) (.e (.v 3)) .none) (.cons (.fld (.v 0) (w "place")) .nil)))) [some (.ref M0.length), some a, some (.int xs.length), some (.tup (is.map D.int)), some (.ref (M0.length+(s.T.length+5))), some (.ref (M0.length+(l+5)))] (wF.h M0)=.ok (.ref (wD.h M0).length) (JX.h M0):=by
  refine e_new (M1:=wD.h M0) (ds:=[.ref (M0.length+(s.T.length+5)),.ref (M0.length+(s.T.length+1+5)),pl]) ?_ ?_
  ·rw [au,gP]
   simp only [List.getElem?_cons_succ,List.getElem?_cons_zero,R.af]
   rw [au,e6,R.af,au,nE (s:=wD) (M0:=M0) (i:=0) rfl,R.af,aP,R.af,l4]
   show R.ok [_,_,s.pl] _=_
   rw [hpl]
  ·rw [app,eL,l5]
   have gn:(({ wD with T:=wD.T++[.ins 0 []] }:Mx).h M0)[M0.length+(s.T.length+2+5)]? = some (.ins 0 []):=gT.trans (by rw [<- l5];show (wD.T++[MO.ins 0 []])[wD.T.length]? = _;simp)
   refine (uT (k:=k) gn).trans ?_
   rw [sT]
   show R.ok D.ao (({ wD with T:=(wD.T++[MO.ins 0 []]).set (s.T.length+2) fo }:Mx).h M0)=_
   rw [<- l5,List.set_append_right _ _ (Nat.le_refl _),Nat.sub_self];rfl
 have e8:=qe (cV (Φ:=aa ak (k+2)) (σ:=[some (.ref M0.length),some a,some (.int xs.length),some (.tup (is.map D.int)),some (.ref (M0.length+(s.T.length+5))),some (.ref (M0.length+(l+5)))]) (M0:=M0) (s:=wF) (i:=0) rfl) g2 e7 (g2 (s:=JX)) hfl
 rw [s2,eL,l5] at e8
 have e9:=gi (Φ:=aa ak (k+2)) (σ:=[some (.ref M0.length),some a,some (.int xs.length),some (.tup (is.map D.int)),some (.ref (M0.length+(s.T.length+5))),some (.ref (M0.length+(l+5)))]) (e:=.v 1) (d:=a) (s:={ JX with frs:=s.frs++[.ref (M0.length+(s.T.length+2+5))] }) (s':={ JX with frs:=s.frs++[.ref (M0.length+(s.T.length+2+5))] }) (M0:=M0) (i:=0) rfl rfl
 refine ek Ll rfl ((cg e1).trans ((dj e2).trans ((av e3).trans ((cg e4).trans ((av e5).trans ((cg e8).trans ((dj e9).trans rfl))))))) ?_
 have eT:({ s with bg:=s.bg+1,pile:=p,pl:=a,frs:=s.frs++[.ref (M0.length+(s.T.length+2+5))],T:=s.T++[.lst xs,.lst ys,fo] }:Mx)={ JX with frs:=s.frs++[.ref (M0.length+(s.T.length+2+5))],pl:=a }:=by
  exact congrArg (Mx.mk _ _ _ _ _ _ _ _) (show s.T++[MO.lst xs,MO.lst ys,fo]=s.T++[MO.lst xs]++[MO.lst ys]++[fo] by simp)
 rw [eT]
 refine mX (mJ (i:=M0.length+2) g2 g2 fun h=>?_)
 have h:=congrArg (fun o=>match o with | MO.lst xs=>xs.length | _=>0) h
 simp at h
end
end bK
end
section
namespace bK
open Fg PySem
section
variable {z:Str}
theorem Ni (h:an w1 z=true):br z=sE:=if_pos h
theorem LV (h1:an w1 z=false) (h:an w2 z=true):br z=bGo:=by
 unfold br;rw [if_neg (by rw [h1];decide),if_pos h]
theorem br3 (h1:an w1 z=false) (h2:an w2 z=false) (h:an w3 z=true):br z=IK:=by
 unfold br;rw [if_neg (by rw [h1];decide),if_neg (by rw [h2];decide),if_pos h]
theorem br4 (h1:an w1 z=false) (h2:an w2 z=false) (h3:an w3 z=false) (h:an w4 z=true):br z=Ar:=by
 unfold br;rw [if_neg (by rw [h1];decide),if_neg (by rw [h2];decide),if_neg (by rw [h3];decide),if_pos h]
theorem br0 (h1:an w1 z=false) (h2:an w2 z=false) (h3:an w3 z=false) (h4:an w4 z=false):br z=if decide (z=w "nil") then Dh else if decide (z=w "none") then uV else if decide (z=w "open") then bOpen else if decide (z=w "shut") then Aq else uU:=by
 unfold br;rw [if_neg (by rw [h1];decide),if_neg (by rw [h2];decide),if_neg (by rw [h3];decide),if_neg (by rw [h4];decide)]
theorem IG:br (w "nil")=Dh:=(br0 (by decide +kernel) (by decide +kernel) (by decide +kernel) (by decide +kernel)).trans (if_pos (by decide +kernel))
theorem De:br (w "none")=uV:=(br0 (by decide +kernel) (by decide +kernel) (by decide +kernel) (by decide +kernel)).trans ((if_neg (by decide +kernel)).trans (if_pos (by decide +kernel)))
end
section
variable {M0:MH} {s:Mx} {x y v bk a b:D} {rs fs kn fl p xs ys:List D} {z c:Str} {t k l f j:Nat} {i n sz:Int} {is:List Int}
theorem vg (hr:jJ M0 s.rows rs) (hp:s.pl=.int i) (ha:b5 rs i=some (.tup [.str (w "number"), x])) (hf:s.frs=fs++[y]) (hl:s.pile.length<line):(aa ak (k+2)).call 19 [.ref M0.length] (s.h M0)=.ok .ao (({ s with pl:=.int (i+1), pile:=s.pile++[x] }:Mx).h M0):=by
 refine bD (s:=s) hr hp ha ?_ (aR rfl)
 rw [Ni (by decide +kernel)]
 exact (fP (s:={ s with pl:=.int (i+1) }) (s':={ s with pl:=.int (i+1) }) rfl (by decide +kernel) rfl (Ag hf hl)).trans rfl
theorem xj (hr:jJ M0 s.rows rs) (hp:s.pl=.int i) (ha:b5 rs i=some (.tup [.str (w "local"), .int n])) (hf:s.frs=fs++[.ref (M0.length+(t+5))]) (A:fM M0.length s.T t j l kn fl bk) (hx:b5 kn n=some x) (hl:s.pile.length<line):(aa ak (k+2)).call 19 [.ref M0.length] (s.h M0)=.ok .ao (({ s with pl:=.int (i+1), pile:=s.pile++[x] }:Mx).h M0):=by
 refine bD (s:=s) hr hp ha ?_ (aR rfl)
 rw [Ni (by decide +kernel)]
 exact (fP (s:={ s with pl:=.int (i+1) }) (s':={ s with pl:=.int (i+1) }) rfl (by decide +kernel) rfl (C8 (s:={ s with pl:=.int (i+1) }) hf A hx hl)).trans rfl
theorem A0 (hr:jJ M0 s.rows rs) (hp:s.pl=.int i) (ha:b5 rs i=some (.tup [.str (w "keep")])) (hf:s.frs=fs++[.ref (M0.length+(t+5))]) (A:fM M0.length s.T t j l kn fl bk) (hx:s.pile=p++[x]) (hl:kn.length<line):(aa ak (k+2)).call 19 [.ref M0.length] (s.h M0)=.ok .ao (({ s with pl:=.int (i+1), pile:=p, T:=s.T.set j (.lst (kn++[x])) }:Mx).h M0):=by
 refine bD (s:=s) hr hp ha ?_ (aR (by simp))
 rw [Ni (by decide +kernel)]
 exact (fP (s:={ s with pl:=.int (i+1) }) (s':={ s with pl:=.int (i+1) }) rfl (by decide +kernel) rfl (IC (s:={ s with pl:=.int (i+1) }) hf A hx hl)).trans rfl
theorem A2 (hr:jJ M0 s.rows rs) (hp:s.pl=.int i) (ha:b5 rs i=some (.tup [.str (w "drop")])) (hf:s.frs=fs++[.ref (M0.length+(t+5))]) (A:fM M0.length s.T t j l (kn++[x]) fl bk):(aa ak (k+2)).call 19 [.ref M0.length] (s.h M0)=.ok .ao (({ s with pl:=.int (i+1), T:=s.T.set j (.lst kn) }:Mx).h M0):=by
 refine bD (s:=s) hr hp ha ?_ (aR (by simp))
 rw [Ni (by decide +kernel)]
 exact (fP (s:={ s with pl:=.int (i+1) }) (s':={ s with pl:=.int (i+1) }) rfl (by decide +kernel) rfl (IE (s:={ s with pl:=.int (i+1) }) hf A)).trans rfl
theorem A1 (hr:jJ M0 s.rows rs) (hp:s.pl=.int i) (ha:b5 rs i=some (.tup [.str (w "jump"), x])):(aa ak (k+2)).call 19 [.ref M0.length] (s.h M0)=.ok .ao (({ s with pl:=x }:Mx).h M0):=by
 refine bD (s:=s) hr hp ha ?_ (aR rfl)
 rw [LV (by decide +kernel) (by decide +kernel)]
 exact (fP (s:={ s with pl:=.int (i+1) }) (s':={ s with pl:=.int (i+1) }) rfl (by decide +kernel) rfl (ID (s:={ s with pl:=.int (i+1) }))).trans rfl
theorem A5 (hr:jJ M0 s.rows rs) (hp:s.pl=.int i) (ha:b5 rs i=some (.tup [.str (w "back")])) (hf:s.frs=fs++[.ref (M0.length+(t+5))]) (A:fM M0.length s.T t j l kn fl bk):(aa ak (k+2)).call 19 [.ref M0.length] (s.h M0)=.ok .ao (({ s with pl:=bk, frs:=fs }:Mx).h M0):=by
 refine bD (s:=s) hr hp ha ?_ (aR rfl)
 rw [LV (by decide +kernel) (by decide +kernel)]
 exact (fP (s:={ s with pl:=.int (i+1) }) (s':={ s with pl:=.int (i+1) }) rfl (by decide +kernel) rfl (IF (s:={ s with pl:=.int (i+1) }) hf A)).trans rfl
theorem uD {Φ:aL} {σ:Sg} (h0:σ[0]? = some (some (.ref M0.length))) (h1:σ[1]? = some (some (.tup [.str z,.int n]))) (hf:s.frs=fs++[.ref (M0.length+(t+5))]) (A:fM M0.length s.T t j l kn fl bk) (hn:b5 fl n=some x):ev Φ (.idx Nh (.idx (.v 1) (.k (.int 1)))) σ (s.h M0)=.ok x (s.h M0) :=
 qc (LK A (l9 h0 hf)) (aY (e_v h1) rfl mE) (gT.trans A.fl) hn
theorem kZ {Φ:aL} {σ:Sg} {M M1 M2:MH} {e e':E} (h:ev Φ e σ M=.ok x M1) (h':ev Φ e' σ M1=.ok y M2):bX Φ (.cons e (.cons e' .nil)) σ M=.ok [x,y] M2:=by rw [au,h,R.af,au,h'];rfl
theorem Fc (hz:an w3 z=true) (hz1:an w1 z=false) (hz2:an w2 z=false) (hw:z.length<=100000) (hr:jJ M0 s.rows rs) (hp:s.pl=.int i) (ha:b5 rs i=some (.tup [.str z,.int n])) (hf:s.frs=fs++[.ref (M0.length+(t+5))]) (A:fM M0.length s.T t j l kn fl bk) (hn:b5 fl n=some (.int f)) (va:Vl a) (vb:Vl b) (hx:s.pile=p++[a]++[b])
  (h:¬ 1000<1+cH a+cH b) (ho:s.c6[f]? = some (.bl true)) (hs:f<18446744073709551616) (h2:s.log.length<line) (h3:p.length<line):(aa ak (k+4)).call 19 [.ref M0.length] (s.h M0)=.ok .ao (({ s with pl:=.int (i+1), pile:=p++[.tup [.str z, .int (1+cH a+cH b), a, b, .int f]], log:=s.log++[.tup [.str (w "lay"), .int f]] }:Mx).h M0):=by
 refine bD (s:=s) hr hp ha ?_ (aR rfl)
 rw [br3 hz1 hz2 hz]
 exact (fP (s:={ s with pl:=.int (i+1) }) (s':={ s with pl:=.int (i+1) }) rfl (by decide +kernel) (kZ rfl (uD (s:={ s with pl:=.int (i+1) }) rfl rfl hf A hn)) (KW (s:={ s with pl:=.int (i+1) }) hw va vb hx h ho hs h2 h3)).trans rfl
theorem AZ (hz:an w3 z=true) (hz1:an w1 z=false) (hz2:an w2 z=false) (hw:z.length<=100000) (hr:jJ M0 s.rows rs) (hp:s.pl=.int i) (ha:b5 rs i=some (.tup [.str z,.int n])) (hf:s.frs=fs++[.ref (M0.length+(t+5))]) (A:fM M0.length s.T t j l kn fl bk) (hn:b5 fl n=some (.int f)) (va:Vl a) (vb:Vl b) (hx:s.pile=p++[a]++[b])
  (h:1000<1+cH a+cH b):(aa ak (k+4)).call 19 [.ref M0.length] (s.h M0)=.exc 5 (({ s with pl:=.int (i+1),pile:=p }:Mx).h M0):=by
 refine jM (s:=s) hr hp ha ?_ rfl
 rw [br3 hz1 hz2 hz]
 exact j4 (s:={ s with pl:=.int (i+1) }) (s':={ s with pl:=.int (i+1) }) rfl (by decide +kernel) (kZ rfl (uD (s:={ s with pl:=.int (i+1) }) rfl rfl hf A hn)) (GU (s:={ s with pl:=.int (i+1) }) hw va vb hx h)
theorem Fb (hr:jJ M0 s.rows rs) (hp:s.pl=.int i) (ha:b5 rs i=some (.tup [.str (w "nil")])) (hl:s.pile.length<line):(aa ak (k+1)).call 19 [.ref M0.length] (s.h M0)=.ok .ao (({ s with pl:=.int (i+1), pile:=s.pile++[.ao] }:Mx).h M0):=by
 refine bD (s:=s) hr hp ha ?_ (aR rfl)
 rw [IG]
 exact (cg (jb (s:={ s with pl:=.int (i+1) }) (s':={ s with pl:=.int (i+1) }) rfl rfl hl)).trans rfl
theorem LI {Φ:aL} {σ:Sg} {M M1:MH} {e:E} (h:ev Φ e σ M=.ok x M1):ev Φ (.AF (.cmp .wJ e (.k .ao)) (.k (.int 1)) (.k (.int 0))) σ M=.ok (.int (if bS x then 1 else 0)) M1:=by
 rw [zL,dJ,h,R.af,r9,R.af]
 have e:bO .wJ M1 x .ao=.ok (.bl (bS x)) M1:=rfl
 rw [e]
 cases bS x <;> rfl
theorem AY (hr:jJ M0 s.rows rs) (hp:s.pl=.int i) (ha:b5 rs i=some (.tup [.str (w "none")])) (hx:s.pile=p++[x]) (hl:p.length<line):(aa ak (k+1)).call 19 [.ref M0.length] (s.h M0)=.ok .ao (({ s with pl:=.int (i+1), pile:=p++[.int (if bS x then 1 else 0)] }:Mx).h M0):=by
 refine bD (s:=s) hr hp ha ?_ (aR rfl)
 rw [De]
 exact (cg (jb (s:={ s with pl:=.int (i+1) }) (s':={ s with pl:=.int (i+1),pile:=p }) rfl (LI (fk (s:={ s with pl:=.int (i+1) }) rfl hx)) hl)).trans rfl
theorem Ai {r:List D} {M1:MH} {d:D} (hd:(aa ak k).call 18 [.ref M0.length, a, b, x] (s.h M0)=.ok d M1) (hn:fE false (s.h M0) .ao M1=.ok .ao M1):(aa ak (k+1)).call 17 [.ref M0.length, .tup [.str (w "call"), a, b, x]] (s.h M0)=.ok .ao M1:=by
 have q1:ev (aa ak k) (.cmp .eq (.idx (.v 1) (.k (.int 0))) (.k (.str (w "jump")))) [some (.ref M0.length), some (.tup [.str (w "call"), a, b, x])] (s.h M0)=.ok (.bl false) (s.h M0):=b4 (aY rfl rfl cz) (by decide +kernel)
 have q2:ev (aa ak k) (.cmp .eq (.idx (.v 1) (.k (.int 0))) (.k (.str (w "call")))) [some (.ref M0.length), some (.tup [.str (w "call"), a, b, x])] (s.h M0)=.ok (.bl true) (s.h M0):=b4 (aY rfl rfl cz) (by decide +kernel)
 have q3:exs (aa ak k) (.cons (.ex (.cM 1 18 (w "enter") (.v 0) (.cons (.idx (.v 1) (.k (.int 1))) (.cons (.idx (.v 1) (.k (.int 2))) (.cons (.idx (.v 1) (.k (.int 3))) .nil))))) .nil) [some (.ref M0.length), some (.tup [.str (w "call"), a, b, x])] (s.h M0)=.ok (.nx [some (.ref M0.length), some (.tup [.str (w "call"), a, b, x])]) M1 :=
  (fP rfl (by decide +kernel) rfl hd).trans rfl
 exact ek vX rfl (aQ q1 ((dQ q2 q3).trans rfl)) hn
theorem wj {c:Nat} (hd:(aa ak k).call 18 [.ref M0.length, a, b, x] (s.h M0)=.exc c (s.h M0)):(aa ak (k+1)).call 17 [.ref M0.length, .tup [.str (w "call"), a, b, x]] (s.h M0)=.exc c (s.h M0):=by
 have q1:ev (aa ak k) (.cmp .eq (.idx (.v 1) (.k (.int 0))) (.k (.str (w "jump")))) [some (.ref M0.length), some (.tup [.str (w "call"), a, b, x])] (s.h M0)=.ok (.bl false) (s.h M0):=b4 (aY rfl rfl cz) (by decide +kernel)
 have q2:ev (aa ak k) (.cmp .eq (.idx (.v 1) (.k (.int 0))) (.k (.str (w "call")))) [some (.ref M0.length), some (.tup [.str (w "call"), a, b, x])] (s.h M0)=.ok (.bl true) (s.h M0):=b4 (aY rfl rfl cz) (by decide +kernel)
 have q3:exs (aa ak k) (.cons (.ex (.cM 1 18 (w "enter") (.v 0) (.cons (.idx (.v 1) (.k (.int 1))) (.cons (.idx (.v 1) (.k (.int 2))) (.cons (.idx (.v 1) (.k (.int 3))) .nil))))) .nil) [some (.ref M0.length), some (.tup [.str (w "call"), a, b, x])] (s.h M0)=.ok (.xc c [some (.ref M0.length), some (.tup [.str (w "call"), a, b, x])]) (s.h M0) :=
  j4 rfl (by decide +kernel) rfl hd
 exact jI vX rfl (Fz q1 (oU q2 q3)) bu
end
end bK
end
section
namespace bK
open Fg PySem
inductive Rk where
 | plus
 | minus
 | times
 | less
noncomputable def dO:Rk->Str
 | .plus=>w "plus"
 | .minus=>w "minus"
 | .times=>w "times"
 | .less=>w "less"
noncomputable def j6:Rk->Int->Int->Int
 | .plus,a,b=>a+b
 | .minus,a,b=>a-b
 | .times,a,b=>a*b
 | .less,a,b=>if a<b then 1 else 0
@[irreducible] noncomputable def EO:Int:=10 ^ 60
noncomputable def great (i:Int):Bool:=decide (EO<=(i.natAbs:Int))
noncomputable def za:Rk->Bool
 | .less=>true
 | _=>false
noncomputable def kY (o:Rk) (a b:Int):Bool:=!za o&&great (j6 o a b)
theorem Kg:gk .pow 10 60=some EO:=by unfold EO;decide +kernel
section
variable {M M1 M2:MH} {k:Nat} {Φ:aL} {σ:Sg} {e e':E}
theorem uF {fz:Bool}:ev Φ (.op .pow fz (.k (.int 10)) (.k (.int 60))) σ M=.ok (.int EO) M:=by
 rw [gB,r9,R.af,r9,R.af]
 simp only [tX,Kg]
theorem EE {i:Int} (h:ev Φ e σ M=.ok (.int i) M1):ev Φ (.pV .abs e) σ M=.ok (.int i.natAbs) M1:=by
 have z:(if i<0 then -i else i)=(i.natAbs:Int):=by split <;> omega
 rw [zM,h,R.af,<- z];rfl
theorem LJ {a b:Int} {q:Bool} (he:ev Φ e σ M=.ok (.int a) M1) (hx:ev Φ e' σ M1=.ok (.int b) M2) (hq:decide (b<=a)=q):ev Φ (.cmp .ge e e') σ M=.ok (.bl q) M2:=by
 rw [dJ,he,R.af,hx,R.af,<- hq];rfl
theorem e_lt {a b:Int} {q:Bool} (he:ev Φ e σ M=.ok (.int a) M1) (hx:ev Φ e' σ M1=.ok (.int b) M2) (hq:decide (a<b)=q):ev Φ (.cmp .lt e e') σ M=.ok (.bl q) M2:=by
 rw [dJ,he,R.af,hx,R.af,<- hq];rfl
theorem uB {a b:Int} {fz:Bool} (he:ev Φ e σ M=.ok (.int a) M1) (hx:ev Φ e' σ M1=.ok (.int b) M2) (ha:mid a=true) (hb:mid b=true):ev Φ (.op .mul fz e e') σ M=.ok (.int (a*b)) M2:=by
 rw [gB,he,R.af,hx,R.af]
 simp only [tX,gk]
 cases hs:small a||small b with
 | true=>rw [if_pos rfl]
 | false=>rw [if_neg (by decide),ha,hb,Bool.and_self,if_pos rfl]
theorem LU {i:Int}:(aa ak (k+1)).call 2 [.int i] M=if great i then .exc 5 M else .ok .ao M:=by
 have e1:ev (aa ak k) (.cmp .ge (.pV .abs (.v 0)) (.op .pow true (.k (.int 10)) (.k (.int 60)))) [some (.int i)] M=.ok (.bl (great i)) M:=LJ (EE rfl) uF rfl
 cases hq:great i with
 | true=>rw [hq] at e1;exact jI fn2 rfl (oU e1 rfl) bu
 | false=>rw [hq] at e1;exact ek fn2 rfl ((cD e1).trans rfl) (aA rfl rfl)
theorem IB {o:Rk} {a b:Int} (ha:mid a=true) (hb:mid b=true):(aa ak (k+2)).call 3 [.str (dO o),.int a,.int b] M=if kY o a b then .exc 5 M else .ok (.int (j6 o a b)) M:=by
 have z:∀ u:Str,ev (aa ak (k+1)) (.cmp .eq (.v 0) (.k (.str u))) [some (.str (dO o)),some (.int a),some (.int b),none] M=.ok (.bl (decide (dO o=u))) M:=fun u=>Ez rfl
 have fin:∀ {v:Int},exs (aa ak (k+1)) (.cons (.ex (.call 2 (.cons (.v 3) .nil))) (.cons (.ret (.v 3)) .nil)) [some (.str (dO o)),some (.int a),some (.int b),some (.int v)] M=if great v then .ok (.xc 5 [some (.str (dO o)),some (.int a),some (.int b),some (.int v)]) M else .ok (.rt (.int v)) M:=fun {v}=>by
  have q:=(cK (Φ:=aa ak (k+1)) (f:=2) (e_v (M:=M) (σ:=[some (.str (dO o)),some (.int a),some (.int b),some (.int v)]) (i:=3) rfl)).trans LU
  cases hg:great v with
  | true=>rw [hg] at q;exact oV q
  | false=>rw [hg] at q;exact (cg q).trans rfl
 have done:∀ {v:Int},exs (aa ak (k+1)) gJ.body [some (.str (dO o)),some (.int a),some (.int b),none] M=exs (aa ak (k+1)) (.cons (.ex (.call 2 (.cons (.v 3) .nil))) (.cons (.ret (.v 3)) .nil)) [some (.str (dO o)),some (.int a),some (.int b),some (.int v)] M ->
   (aa ak (k+2)).call 3 [.str (dO o),.int a,.int b] M=if great v then .exc 5 M else .ok (.int v) M:=fun {v} h=>by
  rw [fin] at h
  cases hg:great v with
  | true=>rw [hg] at h;exact jI fn3 rfl h bu
  | false=>rw [hg] at h;exact bV fn3 rfl h (aA rfl rfl)
 cases o with
 | less =>
  have z1:=z (w "less")
  rw [show decide (dO .less=w "less")=true by decide +kernel] at z1
  have e2:ev (aa ak (k+1)) (.AF (.cmp .lt (.v 1) (.v 2)) (.k (.int 1)) (.k (.int 0))) [some (.str (dO .less)),some (.int a),some (.int b),none] M=.ok (.int (j6 .less a b)) M:=by
   rw [zL,e_lt (a:=a) (b:=b) rfl rfl rfl,R.af]
   by_cases h:a<b
   ·simp [h,j6]
   ·simp [h,j6]
  exact bV fn3 rfl (DN z1 (eX e2)) (aA rfl rfl)
 | plus =>
  have z1:=z (w "less")
  rw [show decide (dO .plus=w "less")=false by decide +kernel] at z1
  have z2:=z (w "plus")
  rw [show decide (dO .plus=w "plus")=true by decide +kernel] at z2
  exact done ((cD z1).trans (dQ z2 ((av (d9 rfl rfl)).trans rfl)))
 | minus =>
  have z1:=z (w "less")
  rw [show decide (dO .minus=w "less")=false by decide +kernel] at z1
  have z2:=z (w "plus")
  rw [show decide (dO .minus=w "plus")=false by decide +kernel] at z2
  have z3:=z (w "minus")
  rw [show decide (dO .minus=w "minus")=true by decide +kernel] at z3
  exact done ((cD z1).trans (aQ z2 ((dQ z3 ((av (gC rfl rfl)).trans rfl)).trans rfl)))
 | times =>
  have z1:=z (w "less")
  rw [show decide (dO .times=w "less")=false by decide +kernel] at z1
  have z2:=z (w "plus")
  rw [show decide (dO .times=w "plus")=false by decide +kernel] at z2
  have z3:=z (w "minus")
  rw [show decide (dO .times=w "minus")=false by decide +kernel] at z3
  exact done ((cD z1).trans (aQ z2 ((aQ z3 ((av (uB rfl rfl ha hb)).trans rfl)).trans rfl)))
end
section
variable {M0:MH} {s:Mx} {x y v bk a b:D} {rs fs kn fl p xs ys:List D} {z c:Str} {t k l f j:Nat} {i n m sz:Int} {is:List Int} {o:Rk}
theorem Iq {g h:Int} {Φ:aL} {σ:Sg} {M:MH} (h1:σ[1]? = some (some (.str z))) (h2:σ[2]? = some (some b)) (h3:σ[3]? = some (some a)):ev Φ (.call 3 (.cons (.v 1) (.cons (.v 3) (.cons (.v 2) .nil)))) σ M=Φ.call 3 [.str z,a,b] M:=by
 simp only [iG,au,aP,gP,h1,h2,h3,R.af]
theorem CY {Φ:aL} {σ:Sg} {e:E} {c:Nat} {M1:MH} (h:σ[0]? = some (some (.ref M0.length))) (he:ev Φ e σ (s.h M0)=.exc c M1):ev Φ (.bh .append true (.fld (.v 0) (w "pile")) (.cons e .nil)) σ (s.h M0)=.exc c M1:=by
 rw [gR,rZ h,R.af,m9 g1,if_pos rfl,au,he];rfl
theorem yu (hx:s.pile=p++[.int n]++[.int m]) (ha:mid n=true) (hb:mid m=true) (hl:p.length<line):(aa ak (k+3)).call 15 [.ref M0.length,.str (dO o)] (s.h M0) =
  if kY o n m then .exc 5 (({ s with pile:=p }:Mx).h M0) else .ok .ao (({ s with pile:=p++[.int (j6 o n m)] }:Mx).h M0):=by
 have e1:=fk (Φ:=aa ak (k+2)) (s:=s) (M0:=M0) (σ:=[some (.ref M0.length),some (.str (dO o)),none,none]) (i:=0) rfl hx
 have e2:=fk (Φ:=aa ak (k+2)) (s:={ s with pile:=p++[.int n] }) (M0:=M0) (σ:=[some (.ref M0.length),some (.str (dO o)),some (.int m),none]) (i:=0) (x:=.int n) (p:=p) rfl rfl
 have e3:=(Iq (g:=0) (h:=0) (Φ:=aa ak (k+2)) (z:=dO o) (a:=.int n) (b:=.int m) (σ:=[some (.ref M0.length),some (.str (dO o)),some (.int m),some (.int n)]) (M:=({ s with pile:=p }:Mx).h M0) rfl rfl rfl).trans (IB ha hb)
 cases hg:kY o n m with
 | true =>
  rw [hg] at e3
  exact jI Lm rfl ((av e1).trans ((av e2).trans (oV (CY (s:={ s with pile:=p }) rfl e3)))) (ic (by rw [len,len]))
 | false =>
  rw [hg] at e3
  exact ek Lm rfl ((av e1).trans ((av e2).trans ((cg (jb (s:={ s with pile:=p }) (s':={ s with pile:=p }) rfl e3 hl)).trans rfl))) (aR rfl)
theorem xF (o:Rk):an w1 (dO o)=false/\an w2 (dO o)=false/\an w3 (dO o)=false/\an w4 (dO o)=false/\br (dO o)=uU:=by
 have h:an w1 (dO o)=false/\an w2 (dO o)=false/\an w3 (dO o)=false/\an w4 (dO o)=false:=by cases o <;> decide +kernel
 have q:decide (dO o=w "nil")=false/\decide (dO o=w "none")=false/\decide (dO o=w "open")=false/\decide (dO o=w "shut")=false:=by cases o <;> decide +kernel
 refine ⟨h.1,h.2.1,h.2.2.1,h.2.2.2,?_⟩
 rw [br0 h.1 h.2.1 h.2.2.1 h.2.2.2,q.1,q.2.1,q.2.2.1,q.2.2.2]
 rfl
theorem JM (hr:jJ M0 s.rows rs) (hp:s.pl=.int i) (ha:b5 rs i=some (.tup [.str (dO o)])) (hx:s.pile=p++[.int n]++[.int m]) (h1:mid n=true) (h2:mid m=true) (hl:p.length<line) (hg:kY o n m=false):(aa ak (k+4)).call 19 [.ref M0.length] (s.h M0)=.ok .ao (({ s with pl:=.int (i+1),pile:=p++[.int (j6 o n m)] }:Mx).h M0):=by
 refine bD (s:=s) hr hp ha ?_ (aR rfl)
 rw [(xF o).2.2.2.2]
 have q:=yu (k:=k) (M0:=M0) (s:={ s with pl:=.int (i+1) }) (o:=o) hx h1 h2 hl
 rw [hg] at q
 exact (fP (s:={ s with pl:=.int (i+1) }) (s':={ s with pl:=.int (i+1) }) rfl (by decide +kernel) rfl q).trans rfl
theorem E9 (hr:jJ M0 s.rows rs) (hp:s.pl=.int i) (ha:b5 rs i=some (.tup [.str (dO o)])) (hx:s.pile=p++[.int n]++[.int m]) (h1:mid n=true) (h2:mid m=true) (hl:p.length<line) (hg:kY o n m=true):(aa ak (k+4)).call 19 [.ref M0.length] (s.h M0)=.exc 5 (({ s with pl:=.int (i+1),pile:=p }:Mx).h M0):=by
 refine jM (s:=s) hr hp ha ?_ rfl
 rw [(xF o).2.2.2.2]
 have q:=yu (k:=k) (M0:=M0) (s:={ s with pl:=.int (i+1) }) (o:=o) hx h1 h2 hl
 rw [hg] at q
 exact j4 (s:={ s with pl:=.int (i+1) }) (s':={ s with pl:=.int (i+1) }) rfl (by decide +kernel) rfl q
theorem LS (hx:s.pile=p++[.int n]):(aa ak (k+1)).call 17 [.ref M0.length, .tup [.str (w "unless"), x]] (s.h M0)=.ok .ao (({ s with pile:=p, pl:=if n=0 then x else s.pl }:Mx).h M0):=by
 have q:∀ u:Str, decide (w "unless" = u)=false->ev (aa ak k) (.cmp .eq (.idx (.v 1) (.k (.int 0))) (.k (.str u))) [some (.ref M0.length), some (.tup [.str (w "unless"), x])] (s.h M0)=.ok (.bl false) (s.h M0):=fun u h=>b4 (aY rfl rfl cz) h
 have e5:=fk (Φ:=aa ak k) (s:=s) (M0:=M0) (σ:=[some (.ref M0.length), some (.tup [.str (w "unless"), x])]) (i:=0) rfl hx
 have e6:ev (aa ak k) (.cmp .eq (.bh .pop true (.fld (.v 0) (w "pile")) .nil) (.k (.int 0))) [some (.ref M0.length), some (.tup [.str (w "unless"), x])] (s.h M0)=.ok (.bl (decide (n=0))) (({ s with pile:=p }:Mx).h M0):=by
  rw [dJ,e5,R.af,r9,R.af]
  simp [bO,EN,Ng,top,ee,Fg.plain,dep]
 by_cases h0:n=0
 ·rw [decide_eq_true h0] at e6
  have e7:=gi (Φ:=aa ak k) (σ:=[some (.ref M0.length), some (.tup [.str (w "unless"), x])]) (e:=.idx (.v 1) (.k (.int 1))) (d:=x) (s:={ s with pile:=p }) (s':={ s with pile:=p }) (M0:=M0) (i:=0) rfl (aY rfl rfl mE)
  rw [if_pos h0]
  exact ek vX rfl (aQ (q _ (by decide +kernel)) ((aQ (q _ (by decide +kernel)) ((aQ (q _ (by decide +kernel)) ((dQ e6 ((dj e7).trans rfl)).trans rfl)).trans rfl)).trans rfl)) (aR rfl)
 ·rw [decide_eq_false h0] at e6
  rw [if_neg h0]
  exact ek vX rfl (aQ (q _ (by decide +kernel)) ((aQ (q _ (by decide +kernel)) ((aQ (q _ (by decide +kernel)) ((cD e6).trans rfl)).trans rfl)).trans rfl)) (aR rfl)
theorem E8 (hr:jJ M0 s.rows rs) (hp:s.pl=.int i) (ha:b5 rs i=some (.tup [.str (w "unless"), x])) (hx:s.pile=p++[.int n]):(aa ak (k+2)).call 19 [.ref M0.length] (s.h M0)=.ok .ao (({ s with pile:=p, pl:=if n=0 then x else .int (i+1) }:Mx).h M0):=by
 refine bD (s:=s) hr hp ha ?_ (aR rfl)
 rw [LV (by decide +kernel) (by decide +kernel)]
 exact (fP (s:={ s with pl:=.int (i+1) }) (s':={ s with pl:=.int (i+1) }) rfl (by decide +kernel) rfl (LS (s:={ s with pl:=.int (i+1) }) hx)).trans rfl
end
end bK
end
section
namespace bK
open Fg PySem
structure Fm where
 kn:List D
 fl:List Nat
 bk:D
structure Ms where
 pile:List D
 frs:List Fm
 c6:List Bool
 log:List D
 bg:Int
 pl:D
inductive Rw where
 | num (i:Int)
 | loc (n:Nat)
 | keep
 | drop
 | lay (c:Bool) (i:Nat)
 | look (t:Bool)
 | nil
 | none
 | jump (to:Int)
 | Jv (to:Int)
 | rk (o:Rk)
 | call (to:Int) (many:Nat) (is:List Nat)
 | back
noncomputable def layW (c:Bool):Str:=if c then w "cons" else w "pair"
noncomputable def lS (t:Bool):Str:=if t then w "tail" else w "head"
noncomputable def Rw.d:Rw->D
 | .num i=>.tup [.str (w "number"), .int i]
 | .loc n=>.tup [.str (w "local"), .int n]
 | .keep=>.tup [.str (w "keep")]
 | .drop=>.tup [.str (w "drop")]
 | .lay c i=>.tup [.str (layW c),.int i]
 | .look t=>.tup [.str (lS t)]
 | .nil=>.tup [.str (w "nil")]
 | .none=>.tup [.str (w "none")]
 | .jump to=>.tup [.str (w "jump"), .int to]
 | .Jv to=>.tup [.str (w "unless"), .int to]
 | .rk o=>.tup [.str (dO o)]
 | .call to many is=>.tup [.str (w "call"), .int to, .int many, .tup (is.map fun (n:Nat)=>D.int n)]
 | .back=>.tup [.str (w "back")]
inductive Rz where
 | ok (s:Ms)
 | exc (c:Nat)
 | bad
noncomputable def lim:Nat:=900000
noncomputable def gy (xs:List D):Option (List D×D):=match xs.getLast? with
 | some x=>some (xs.dropLast,x)
 | none=>none
theorem GY {xs p:List D} {x:D} (h:gy xs=some (p,x)):xs=p++[x]:=by
 unfold gy at h
 split at h
 ·rename_i y hy
  cases h
  obtain ⟨ys,rfl⟩:=List.getLast?_eq_some_iff.mp hy
  simp
 ·cases h
noncomputable def dD {α:Type} (o:Option α) (k:α->Rz):Rz:=match o with | some a=>k a | none=>.bad
@[irreducible] noncomputable def bZ (xs:List D) (k:List D->D->Rz):Rz:=dD (gy xs) fun q=>k q.1 q.2
noncomputable def Sm (P:Ms->Prop) (X:Nat->Prop):Rz->Prop
 | .ok s=>P s
 | .exc c=>X c
 | .bad=>True
section
variable {P:Ms->Prop} {X:Nat->Prop}
theorem sm_get {α:Type} {o:Option α} {k:α->Rz} (h:∀ a,o=some a->Sm P X (k a)):Sm P X (dD o k):=by
 cases o with
 | none=>exact True.intro
 | some a=>exact h a rfl
theorem cI {xs:List D} {k:List D->D->Rz} (h:∀ p x,xs=p++[x]->Sm P X (k p x)):Sm P X (bZ xs k):=by
 unfold bZ
 exact sm_get fun q hq=>h q.1 q.2 (GY hq)
theorem g6 {c:Prop} [Decidable c] {a b:Rz} (h1:c->Sm P X a) (h2:¬ c->Sm P X b):Sm P X (if c then a else b):=by
 by_cases h:c
 ·rw [if_pos h];exact h1 h
 ·rw [if_neg h];exact h2 h
end
noncomputable def nj:D->Option Int
 | .int i=>some i
 | _=>none
theorem rT {d:D} {i:Int} (h:nj d=some i):d=.int i:=by
 unfold nj at h
 split at h <;> cases h
 rfl
noncomputable def jA (most:Int) (r:Rw) (s:Ms) (f:Fm) (fs:List Fm):Rz:=match r with
 | .num i=>.ok { s with pile:=s.pile++[.int i] }
 | .loc n=>dD f.kn[n]? fun x=>.ok { s with pile:=s.pile++[x] }
 | .keep=>bZ s.pile fun p x=>.ok { s with pile:=p,frs:={ f with kn:=f.kn++[x] }::fs }
 | .drop=>bZ f.kn fun p _=>.ok { s with frs:={ f with kn:=p }::fs }
 | .lay c i=>bZ s.pile fun p1 b=>bZ p1 fun p a=>dD f.fl[i]? fun n=>dD s.c6[n]? fun o =>
   if 1000<1+cH a+cH b then .exc 5 else if o=true then .ok { s with pile:=p++[.tup [.str (layW c), .int (1+cH a+cH b), a, b, .int n]], log:=s.log++[.tup [.str (w "lay"), .int n]] } else .bad
 | .look _=>bZ s.pile fun _ v=>if bS v=true then .exc 6 else .bad
 | .Jv to=>bZ s.pile fun p v=>dD (nj v) fun n=>.ok { s with pile:=p,pl:=if n=0 then .int to else s.pl }
 | .rk o=>bZ s.pile fun p1 b=>bZ p1 fun p a=>dD (nj a) fun n=>dD (nj b) fun m=>if mid n=true/\mid m=true then (if kY o n m=true then .exc 5 else .ok { s with pile:=p++[.int (j6 o n m)] }) else .bad
 | .nil=>.ok { s with pile:=s.pile++[.ao] }
 | .none=>bZ s.pile fun p x=>.ok { s with pile:=p++[.int (if bS x then 1 else 0)] }
 | .jump to=>.ok { s with pl:=.int to }
 | .call to many is=>if most<s.bg+1 then .exc 7 else if 12<fs.length+1 then .exc 8 else
   if many<=s.pile.length/\(is.all fun i=>decide (i<f.fl.length))=true/\is.length<lim then .ok { s with bg:=s.bg+1,pile:=s.pile.take (s.pile.length-many),pl:=.int to,frs:=⟨s.pile.drop (s.pile.length-many),is.map fun i=>f.fl.getD i 0,s.pl⟩::f::fs } else .bad
 | .back=>.ok { s with pl:=f.bk,frs:=fs }
noncomputable def fits (s:Ms) (f:Fm) (fs:List Fm):Prop:=s.pile.length<lim/\s.c6.length<lim/\s.log.length<lim/\f.kn.length<lim/\f.fl.length<lim/\fs.length<lim
noncomputable instance (s:Ms) (f:Fm) (fs:List Fm):Decidable (fits s f fs):=inferInstanceAs (Decidable (_/\_))
noncomputable def rA (most:Int) (r:Rw) (s:Ms):Rz:=match s.frs with
 | []=>.bad
 | f::fs=>if fits s f fs then jA most r s f fs else .bad
noncomputable abbrev ix:=Nat×Nat×Nat
noncomputable def nats (ns:List Nat):List D:=ns.map fun (n:Nat)=>D.int n
noncomputable def frR (n:Nat) (q:ix):D:=.ref (n+(q.1+5))
inductive Frs (n:Nat) (T:MH):List ix->List Fm->Prop
 | nil:Frs n T [] []
 | cons {q:ix} {qs:List ix} {f:Fm} {fs:List Fm}:fM n T q.1 q.2.1 q.2.2 f.kn (nats f.fl) f.bk->Frs n T qs fs->Frs n T (q::qs) (f::fs)
noncomputable def ixs (qs:List ix):List Nat:=qs.flatMap fun q=>[q.1,q.2.1,q.2.2]
structure Rep (n:Nat) (s:Ms) (x:Mx) (qs:List ix):Prop where
 pile:x.pile=s.pile
 c6:x.c6=s.c6.map D.bl
 log:x.log=s.log
 bg:x.bg=s.bg
 pl:x.pl=s.pl
 frs:x.frs=(qs.map (frR n)).reverse
 at_:Frs n x.T qs s.frs
 nd:(ixs qs).Nodup
 lt:∀ i∈ixs qs,i<x.T.length
 pv:∀ v∈s.pile,Vl v
 fv:∀ f∈s.frs,∀ v∈f.kn,Vl v
theorem Frs.set {n:Nat} {T:MH} {j:Nat} {o:MO} {qs:List ix} {fs:List Fm} (h:Frs n T qs fs) (hj:j∉ixs qs):Frs n (T.set j o) qs fs:=by
 induction h with
 | nil=>exact .nil
 | @cons q qs f fs a _ ih =>
  have h0:j≠q.1/\j≠q.2.1/\j≠q.2.2/\j∉ixs qs:=by
   simp only [ixs,List.flatMap_cons,List.mem_append,List.mem_cons,List.not_mem_nil,or_false,not_or] at hj
   exact ⟨hj.1.1,hj.1.2.1,hj.1.2.2,hj.2⟩
  exact .cons ⟨by rw [List.getElem?_set_ne h0.1];exact a.at_,by rw [List.getElem?_set_ne h0.2.1];exact a.kn,by rw [List.getElem?_set_ne h0.2.2.1];exact a.fl⟩ (ih h0.2.2.2)
theorem Frs.app {n:Nat} {T X:MH} {qs:List ix} {fs:List Fm} (h:Frs n T qs fs):Frs n (T++X) qs fs:=by
 have up:∀ {i:Nat} {o:MO},T[i]? = some o->(T++X)[i]? = some o:=fun {i o} e=>by rw [List.getElem?_append_left (List.getElem?_eq_some_iff.mp e).1];exact e
 induction h with
 | nil=>exact .nil
 | cons a _ ih=>exact .cons ⟨up a.at_,up a.kn,up a.fl⟩ ih
theorem Frs.len {n:Nat} {T:MH} {qs:List ix} {fs:List Fm} (h:Frs n T qs fs):qs.length=fs.length:=by
 induction h with
 | nil=>rfl
 | cons _ _ ih=>simp [ih]
theorem pP {q:ix} {qs:List ix}:ixs (q::qs)=q.1::q.2.1::q.2.2::ixs qs:=rfl
theorem Frs.kn {n:Nat} {T:MH} {q:ix} {qs:List ix} {f:Fm} {fs:List Fm} {kn:List D} (h:Frs n T (q::qs) (f::fs)) (nd:(ixs (q::qs)).Nodup):Frs n (T.set q.2.1 (.lst kn)) (q::qs) ({ f with kn:=kn }::fs):=by
 cases h with
 | cons a r =>
  rw [pP] at nd
  simp only [List.nodup_cons,List.mem_cons,not_or] at nd
  obtain ⟨⟨n1,n2,n3⟩,⟨n4,n5⟩,n6,n7⟩:=nd
  exact .cons ⟨by rw [List.getElem?_set_ne (Ne.symm n1)];exact a.at_,mR a.kn,by rw [List.getElem?_set_ne n4];exact a.fl⟩ (r.set n5)
theorem kj {ns:List Nat} {i n:Nat} (h:ns[i]? = some n):b5 (nats ns) (i:Int)=some (.int n):=jT (by rw [nats,List.getElem?_map,h];rfl)
theorem ym {fl is:List Nat} (h:(is.all fun i=>decide (i<fl.length))=true):(is.map fun (n:Nat)=>(n:Int)).map (b5 (nats fl))=(nats (is.map fun i=>fl.getD i 0)).map some:=by
 induction is with
 | nil=>rfl
 | cons j is ih =>
  simp only [List.all_cons,Bool.and_eq_true,decide_eq_true_eq] at h
  have e:fl[j]? = some (fl.getD j 0):=by rw [List.getD_eq_getElem?_getD,List.getElem?_eq_getElem h.1];rfl
  rw [List.map_cons,List.map_cons,ih h.2,kj e];rfl
theorem B5 {bs:List Bool} {i:Nat} {b:Bool} (h:bs[i]? = some b):(bs.map D.bl)[i]? = some (.bl b):=by rw [List.getElem?_map,h];rfl
theorem Cu (c:Bool):an w3 (layW c)=true/\an w1 (layW c)=false/\an w2 (layW c)=false/\(layW c).length<=100000:=by cases c <;> decide +kernel
theorem yx (t:Bool):an w4 (lS t)=true/\an w1 (lS t)=false/\an w2 (lS t)=false/\an w3 (lS t)=false/\(lS t).length<=100000:=by cases t <;> decide +kernel
theorem KI {v:D} (h:bS v=true):v=.ao:=by cases v <;> first | rfl | cases h
theorem fT {n:Nat} (h:n<lim):n<line:=Nat.lt_of_lt_of_le h (by decide)
theorem vP {qs:List ix} {m:Nat} (h:∀ i∈ixs qs,i<m) (nd:(ixs qs).Nodup):(ixs ((m+2,m,m+1)::qs)).Nodup/\∀ i∈ixs ((m+2,m,m+1)::qs),i<m+3:=by
 rw [pP]
 refine ⟨?_,fun i hi=>?_⟩
 ·simp only [List.nodup_cons,List.mem_cons,not_or]
  refine ⟨⟨by omega,by omega,fun z=>?_⟩,⟨by omega,fun z=>?_⟩,fun z=>?_,nd⟩ <;> (have:=h _ z;omega)
 ·simp only [List.mem_cons] at hi
  rcases hi with rfl | rfl | rfl | hi
  ·omega
  ·omega
  ·omega
  ·have:=h _ hi;omega
theorem jX {xs:List D} {n:Nat}:xs=xs.take (xs.length-n)++xs.drop (xs.length-n):=(List.take_append_drop _ _).symm
section
variable {M0:MH} {s:Mx} {a bk:D} {rs fs kn fl p xs ys:List D} {t k l j n:Nat} {i:Int} {is:List Int}
theorem xh {z:Str} (hz:an w4 z=true) (hz1:an w1 z=false) (hz2:an w2 z=false) (hz3:an w3 z=false) (hw:z.length<=100000) (hr:jJ M0 s.rows rs) (hp:s.pl=.int i) (ha:b5 rs i=some (.tup [.str z])) (hx:s.pile=p++[.ao]):(aa ak (k+4)).call 19 [.ref M0.length] (s.h M0)=.exc 6 (({ s with pl:=.int (i+1),pile:=p }:Mx).h M0):=by
 refine jM (s:=s) hr hp ha ?_ rfl
 rw [br4 hz1 hz2 hz3 hz]
 exact j4 (s:={ s with pl:=.int (i+1) }) (s':={ s with pl:=.int (i+1) }) rfl (by decide +kernel) rfl (Ck (s:={ s with pl:=.int (i+1) }) hw hx)
theorem oG {c:Nat} {b:D} {m:Int} (hr:jJ M0 s.rows rs) (hp:s.pl=.int i) (ha:b5 rs i=some (.tup [.str (w "call"), a, .int m, b])) (hc:(if s.most<s.bg+1 then (.exc 7 (({ s with pl:=.int (i+1) }:Mx).h M0):R D) else if 12<((s.frs.length:Int)-1)+1 then .exc 8 (({ s with pl:=.int (i+1) }:Mx).h M0) else .ok .ao (({ s with pl:=.int (i+1) }:Mx).h M0))=.exc c (({ s with pl:=.int (i+1) }:Mx).h M0)) :
  ∃ x':Mx,(aa ak (k+4)).call 19 [.ref M0.length] (s.h M0)=.exc c (x'.h M0):=by
 refine ⟨_,jM (s:=s) (s':={ s with pl:=.int (i+1) }) hr hp ha ?_ rfl⟩
 rw [LV (by decide +kernel) (by decide +kernel)]
 exact j4 (s:={ s with pl:=.int (i+1) }) (s':={ s with pl:=.int (i+1) }) rfl (by decide +kernel) rfl (wj (s:={ s with pl:=.int (i+1) }) (Aj (k:=k) (s:={ s with pl:=.int (i+1) }) hc))
theorem A3 {b:D} (hr:jJ M0 s.rows rs) (hp:s.pl=.int i) (ha:b5 rs i=some (.tup [.str (w "call"), a, .int n, b])) (hf:s.frs=fs++[.ref (M0.length+(t+5))]) (A:fM M0.length s.T t j l kn fl bk) (h1:¬ s.most<s.bg+1) (h2:¬ 12<((s.frs.length:Int)-1)+1) (hx:s.pile=p++xs) (hn:xs.length=n) (hm:n<=1000000) (hy:is.map (b5 fl)=ys.map some) (hi:is.length<=line) (hfl:s.frs.length<line) (hb:b=.tup (is.map D.int)) :
  (aa ak (k+5)).call 19 [.ref M0.length] (s.h M0) =
   .ok .ao (({ s with bg:=s.bg+1, pile:=p, pl:=a, frs:=s.frs++[.ref (M0.length+(s.T.length+2+5))], T:=s.T++[.lst xs, .lst ys, .ins 0 [(w "known", .ref (M0.length+(s.T.length+5))), (w "fields", .ref (M0.length+(s.T.length+1+5))), (w "behind_call", .int (i+1))]] }:Mx).h M0):=by
 subst hn hb
 have ne:∀ M':MH,M'[M0.length+2]? = some (.lst (s.frs++[.ref (M0.length+(s.T.length+2+5))]))->∀ s1:Mx,s1.frs=s.frs->fE false (s1.h M0) .ao M'=.ok .ao M':=fun M' h s1 e=>mX (mJ (i:=M0.length+2) g2 h fun q=>by
  rw [e] at q
  have q:=congrArg (fun o=>match o with | MO.lst xs=>xs.length | _=>0) q
  simp at q)
 refine bD (s:=s) hr hp ha ?_ (ne _ g2 _ rfl)
 rw [LV (by decide +kernel) (by decide +kernel)]
 have en:=C9 (M0:=M0) (k:=k) (s:={ s with pl:=.int (i+1) }) (a:=a) hf A h1 h2 hx hm hy hi rfl hfl
 exact (fP (s:={ s with pl:=.int (i+1) }) (s':={ s with pl:=.int (i+1) }) rfl (by decide +kernel) rfl (Ai (r:=[]) (s:={ s with pl:=.int (i+1) }) en (ne _ g2 _ rfl))).trans rfl
end
theorem sim {M0:MH} {s:Ms} {x:Mx} {qs:List ix} {rs:List Rw} {r:Rw} {i k:Nat} (R:Rep M0.length s x qs) (hr:jJ M0 x.rows (rs.map Rw.d)) (hi:s.pl=.int i) (hg:rs[i]? = some r) :
  Sm (fun s'=>∃ x' Ke,(aa ak (k+5)).call 19 [.ref M0.length] (x.h M0)=.ok .ao (x'.h M0)/\Rep M0.length s' x' Ke/\x'.rows=x.rows/\x'.most=x.most)
   (fun c=>∃ x':Mx,(aa ak (k+5)).call 19 [.ref M0.length] (x.h M0)=.exc c (x'.h M0)) (rA x.most r { s with pl:=.int ((i:Int)+1) }):=by
 obtain ⟨pile,frs,c6,log,bg,pl⟩:=s
 cases (show pl=.int i from hi)
 have ha:b5 (rs.map Rw.d) (i:Int)=some r.d:=jT (by rw [List.getElem?_map,hg];rfl)
 have hp:x.pl=.int (i:Int):=R.pl
 cases frs with
 | nil=>exact True.intro
 | cons f fs =>
  obtain ⟨cE,ia,iU,qQ,rpl,iV,rat,tM,wG,qx,qP⟩:=R
  refine g6 (fun hl=>?_) fun _=>True.intro
  obtain ⟨l1,l2,l3,l4,l5,l6⟩:=hl
  cases qs with
  | nil=>cases rat
  | cons q qs =>
   have jy:=rat
   cases rat with
   | cons A rr =>
    have hfr:x.frs=(qs.map (frR M0.length)).reverse++[.ref (M0.length+(q.1+5))]:=by rw [iV,List.map_cons,List.reverse_cons];rfl
    have lp:x.pile.length<line:=by rw [cE];exact fT l1
    have ll:x.log.length<line:=by rw [iU];exact fT l3
    have lo:x.c6.length<line:=by rw [ia,List.length_map];exact fT l2
    have big:∀ {n:Nat} {b:Bool},c6[n]? = some b->n<18446744073709551616:=fun {n b} h =>
     Nat.lt_of_lt_of_le (Nat.lt_trans (List.getElem?_eq_some_iff.mp h).1 l2) (by decide)
    cases r with
    | num n=>exact ⟨_,q::qs,vg hr hp ha hfr lp,⟨congrArg (·++_) cE,ia,iU,qQ,rfl,iV,jy,tM,wG,fun v hv=>(List.mem_append.mp hv).elim (qx v) fun z=>by rw [List.mem_singleton.mp z];exact .int n,qP⟩,rfl,rfl⟩
    | loc n =>
     refine sm_get fun y hn=>?_
     exact ⟨_,q::qs,xj hr hp ha hfr A (jT hn) lp,⟨congrArg (·++_) cE,ia,iU,qQ,rfl,iV,jy,tM,wG,fun v hv=>(List.mem_append.mp hv).elim (qx v) fun z=>by rw [List.mem_singleton.mp z];exact qP f List.mem_cons_self y (List.mem_of_getElem? hn),qP⟩,rfl,rfl⟩
    | keep =>
     refine cI fun p y e=>?_
     cases (show pile=p++[y] from e)
     refine ⟨_,q::qs,A0 hr hp ha hfr A cE (fT l4),⟨rfl,ia,iU,qQ,rfl,iV,jy.kn tM,tM,by simpa using wG,fun v hv=>qx v (List.mem_append_left _ hv),fun g hg v hv=>?_⟩,rfl,rfl⟩
     rcases List.mem_cons.mp hg with rfl | hg
     ·exact (List.mem_append.mp hv).elim (qP f List.mem_cons_self v) fun z=>qx v (List.mem_append_right _ z)
     ·exact qP g (List.mem_cons_of_mem _ hg) v hv
    | drop =>
     refine cI fun p y e=>?_
     rw [e] at A
     refine ⟨_,q::qs,A2 hr hp ha hfr A,⟨cE,ia,iU,qQ,rfl,iV,jy.kn tM,tM,by simpa using wG,qx,fun g hg v hv=>?_⟩,rfl,rfl⟩
     rcases List.mem_cons.mp hg with rfl | hg
     ·exact qP f List.mem_cons_self v (by rw [e];exact List.mem_append_left _ hv)
     ·exact qP g (List.mem_cons_of_mem _ hg) v hv
    | jump to=>exact ⟨_,q::qs,A1 hr hp ha,⟨cE,ia,iU,qQ,rfl,iV,jy,tM,wG,qx,qP⟩,rfl,rfl⟩
    | back=>exact ⟨_,qs,A5 hr hp ha hfr A,⟨cE,ia,iU,qQ,rfl,rfl,rr,(List.nodup_cons.mp (List.nodup_cons.mp (List.nodup_cons.mp tM).2).2).2,fun i hi=>wG i (List.mem_cons_of_mem _ (List.mem_cons_of_mem _ (List.mem_cons_of_mem _ hi))),qx,fun g hg=>qP g (List.mem_cons_of_mem _ hg)⟩,rfl,rfl⟩
    | nil=>exact ⟨_,q::qs,Fb hr hp ha lp,⟨congrArg (·++_) cE,ia,iU,qQ,rfl,iV,jy,tM,wG,fun v hv=>(List.mem_append.mp hv).elim (qx v) fun z=>by rw [List.mem_singleton.mp z];exact .ao,qP⟩,rfl,rfl⟩
    | none =>
     refine cI fun p y e=>?_
     cases (show pile=p++[y] from e)
     have Jh:p.length<line:=by have:=fT l1;rw [List.length_append] at this;omega
     exact ⟨_,q::qs,AY hr hp ha cE Jh,⟨rfl,ia,iU,qQ,rfl,iV,jy,tM,wG,fun v hv=>(List.mem_append.mp hv).elim (fun z=>qx v (List.mem_append_left _ z)) fun z=>by rw [List.mem_singleton.mp z];exact .int _,qP⟩,rfl,rfl⟩
    | lay c n =>
     refine cI fun p1 b e1=>cI fun p a e2=>sm_get fun m hm=>sm_get fun o ho=>?_
     cases e2
     cases (show pile=p++[a]++[b] from e1)
     obtain ⟨z1,z2,z3,z4⟩:=Cu c
     have va:Vl a:=qx a (by simp)
     have vb:Vl b:=qx b (by simp)
     have ho':=B5 ho
     rw [<- ia] at ho'
     have Jh:p.length<line:=by have:=fT l1;simp only [List.length_append] at this;omega
     refine g6 (fun hs=>⟨_,AZ (k:=k+1) z1 z2 z3 z4 hr hp ha hfr A (kj hm) va vb cE hs⟩) fun hs=>g6 (fun h1=>?_) fun h1=>?_
     ·subst h1
      have sa:=va.sz
      have sb:=vb.sz
      refine ⟨_,q::qs,Fc (k:=k+1) z1 z2 z3 z4 hr hp ha hfr A (kj hm) va vb cE hs ho' (big ho) ll Jh,⟨rfl,ia,by rw [iU],qQ,rfl,iV,jy,tM,wG,fun v hv=>(List.mem_append.mp hv).elim (fun z=>qx v (by simp [z])) fun z=>?_,qP⟩,rfl,rfl⟩
      rw [List.mem_singleton.mp z]
      exact .cell (by omega) (by omega) va vb
     ·exact True.intro
    | look t =>
     refine cI fun p v e1=>g6 (fun hv=>?_) fun _=>True.intro
     cases KI hv
     obtain ⟨z1,z2,z3,z4,z5⟩:=yx t
     exact ⟨_,xh (k:=k+1) z1 z2 z3 z4 z5 hr hp ha (cE.trans e1)⟩
    | Jv to =>
     refine cI fun p v e1=>sm_get fun n hn=>?_
     cases rT hn
     cases (show pile=p++[.int n] from e1)
     exact ⟨_,q::qs,E8 (k:=k+3) hr hp ha cE,⟨rfl,ia,iU,qQ,rfl,iV,jy,tM,wG,fun v hv=>qx v (List.mem_append_left _ hv),qP⟩,rfl,rfl⟩
    | rk o =>
     refine cI fun p1 b e1=>cI fun p a e2=>sm_get fun n hn=>sm_get fun m hm=>g6 (fun hmid=>?_) fun _=>True.intro
     cases rT hn
     cases rT hm
     cases e2
     cases (show pile=p++[.int n]++[.int m] from e1)
     have Jh:p.length<line:=by have:=fT l1;simp only [List.length_append] at this;omega
     refine g6 (fun hg=>⟨_,E9 (k:=k+1) hr hp ha cE hmid.1 hmid.2 Jh hg⟩) fun hg=>?_
     exact ⟨_,q::qs,JM (k:=k+1) hr hp ha cE hmid.1 hmid.2 Jh (by simpa using hg),⟨rfl,ia,iU,qQ,rfl,iV,jy,tM,wG,fun v hv=>(List.mem_append.mp hv).elim (fun z=>qx v (by simp [z])) fun z=>by rw [List.mem_singleton.mp z];exact .int _,qP⟩,rfl,rfl⟩
    | call to many is =>
     have hlf:(x.frs.length:Int)=(fs.length:Int)+1:=by
      have e:=jy.len
      rw [iV,List.length_reverse,List.length_map,e];simp
     refine g6 (fun h1=>?_) fun h1=>g6 (fun h2=>?_) fun h2=>g6 (fun h3=>?_) fun _=>True.intro
     ·have HW:x.most<x.bg+1:=by rw [qQ];exact h1
      exact oG (k:=k+1) hr hp ha (if_pos HW)
     ·have HW:¬ x.most<x.bg+1:=by rw [qQ];exact h1
      have h2':12<fs.length+1:=h2
      have HV:12<((x.frs.length:Int)-1)+1:=by rw [hlf];omega
      exact oG (k:=k+1) hr hp ha ((if_neg HW).trans (if_pos HV))
     ·obtain ⟨h3,h4,h5⟩:=h3
      have hm0:many<=pile.length:=h3
      have h60:pile.length<lim:=l1
      have h61:fs.length<lim:=l6
      have h62:¬ 12<fs.length+1:=h2
      have HW:¬ x.most<x.bg+1:=by rw [qQ];exact h1
      have HV:¬ 12<((x.frs.length:Int)-1)+1:=by rw [hlf];omega
      have hm:(pile.drop (pile.length-many)).length=many:=by rw [List.length_drop];omega
      have hmm:many<=1000000:=Nat.le_trans hm0 (Nat.le_trans (Nat.le_of_lt h60) (by decide))
      have hlen:x.frs.length<line:=by
       have e:x.frs.length=fs.length+1:=by omega
       rw [e];exact Nat.lt_of_le_of_lt h61 (by decide)
      have hy:=ym (fl:=f.fl) h4
      have e1:x.pile=pile.take (pile.length-many)++pile.drop (pile.length-many):=cE.trans jX
      have hb:D.tup (is.map fun (n:Nat)=>D.int n)=.tup ((is.map fun (n:Nat)=>(n:Int)).map D.int):=by rw [List.map_map];rfl
      have st:=A3 (M0:=M0) (k:=k) (n:=many) (a:=.int to) (b:=D.tup (is.map fun (n:Nat)=>D.int n)) hr hp ha hfr A HW HV e1 hm hmm hy (by rw [List.length_map];exact Nat.le_of_lt (fT h5)) hlen hb
      obtain ⟨n1,n2⟩:=vP wG tM
      refine ⟨_,(x.T.length+2,x.T.length,x.T.length+1)::q::qs,st,⟨rfl,ia,iU,congrArg (·+1) qQ,rfl,?_,.cons ⟨?_,?_,?_⟩ jy.app,n1,fun i hi=>?_,fun v hv=>qx v (List.mem_of_mem_take hv),fun g hg v hv=>?_⟩,rfl,rfl⟩
      ·show x.frs++_=_
       rw [List.map_cons,List.reverse_cons,<- iV];rfl
      ·show (x.T++_)[x.T.length+2]? = _
       rw [List.getElem?_append_right (by omega),Nat.add_sub_cancel_left];rfl
      ·show (x.T++_)[x.T.length]? = _
       rw [List.getElem?_append_right (Nat.le_refl _),Nat.sub_self];rfl
      ·show (x.T++_)[x.T.length+1]? = _
       rw [List.getElem?_append_right (by omega),Nat.add_sub_cancel_left];rfl
      ·show i<(x.T++_).length
       rw [List.length_append];exact n2 i hi
      ·rcases List.mem_cons.mp hg with rfl | hg
       ·exact qx v (List.mem_of_mem_drop hv)
       ·exact qP g hg v hv
end bK
end
section
namespace bK
open Fg PySem
noncomputable def bH (r:Rz) (k:Ms->Rz):Rz:=match r with
 | .ok s=>k s
 | .exc c=>.exc c
 | .bad=>.bad
theorem Ba {P P':Ms->Prop} {X X':Nat->Prop} {r:Rz} {k:Ms->Rz} (h:Sm P X r) (h1:∀ s,P s->Sm P' X' (k s)) (h2:∀ c,X c->X' c):Sm P' X' (bH r k):=by
 cases r with
 | ok s=>exact h1 s h
 | exc c=>exact h2 c h
 | bad=>exact True.intro
noncomputable def BU (d:D):Option Nat:=match d with
 | .int i=>if 0<=i then some i.toNat else none
 | _=>none
theorem Kl {d:D} {j:Nat} (h:BU d=some j):d=.int j:=by
 cases d with
 | int i =>
  simp only [BU] at h
  split at h
  ·rename_i h0;cases h;rw [Int.toNat_of_nonneg h0]
  ·cases h
 | _=>cases h
noncomputable def go (rs:List Rw) (most:Int):Nat->Ms->Rz
 | 0,_=>.bad
 | n+1,s=>bif s.frs.isEmpty then .ok s else dD (BU s.pl) fun i=>dD rs[i]? fun r=>bH (rA most r { s with pl:=.int ((i:Int)+1) }) (go rs most n)
noncomputable def eW:E:=.cmp .ne (.fld (.v 3) (w "frames")) (.lst true .nil)
noncomputable def bW:Ss:=.cons (.ex (.cM 1 19 (w "step") (.v 3) .nil)) .nil
theorem cond {Φ:aL} {σ:Sg} {M0:MH} {x:Mx} (h:σ[3]? = some (some (.ref M0.length))) (hr:∀ d∈x.frs,∃ n,d=.ref n):ev Φ eW σ (x.h M0)=.ok (.bl (!x.frs.isEmpty)) (x.h M0):=by
 unfold eW
 rw [dJ,cV h,R.af,dI,aP,R.af]
 show bO .ne (x.h M0) (.ref (M0.length+2)) (.lst [])=_
 have e1:top (x.h M0) (.ref (M0.length+2))=.lst x.frs:=by simp only [top,g2]
 have e2:top (x.h M0) (.lst [])=.lst []:=rfl
 have e3:nh (x.h M0) (.ref (M0.length+2)) (.lst [])=some x.frs.isEmpty:=by simp only [nh,vw,g2];rfl
 show yk (x.h M0) (.ref (M0.length+2)) (.lst [])=_
 unfold yk
 rw [e1,e2,e3]
 cases hx:x.frs with
 | nil=>rfl
 | cons d ds =>
  obtain ⟨n,rfl⟩:=hr d (by rw [hx];exact List.mem_cons_self)
  rfl
theorem zv {n:Nat} {s:Ms} {x:Mx} {qs:List ix} (R:Rep n s x qs):∀ d∈x.frs,∃ m,d=.ref m:=by
 intro d hd
 rw [R.frs,List.mem_reverse,List.mem_map] at hd
 obtain ⟨q,_,rfl⟩:=hd
 exact ⟨_,rfl⟩
theorem vV {n:Nat} {s:Ms} {x:Mx} {qs:List ix} (R:Rep n s x qs):x.frs.isEmpty=s.frs.isEmpty:=by
 have e:=R.at_.len
 rw [R.frs]
 cases qs <;> cases hs:s.frs <;> rw [hs] at e <;> first | rfl | (simp at e;done) | simp
theorem loop {M0:MH} {rs:List Rw} {σ:Sg} {k:Nat} (hσ:σ[3]? = some (some (.ref M0.length))):∀ (n N:Nat) (s:Ms) (x:Mx) (qs:List ix),n<=N->Rep M0.length s x qs->jJ M0 x.rows (rs.map Rw.d) ->
  Sm (fun s'=>∃ x' Ke,bI (ev (aa ak (k+5)) eW) (exs (aa ak (k+5)) bW) N σ (x.h M0)=.ok (.nx σ) (x'.h M0)/\Rep M0.length s' x' Ke/\x'.most=x.most)
   (fun c=>∃ x':Mx,bI (ev (aa ak (k+5)) eW) (exs (aa ak (k+5)) bW) N σ (x.h M0)=.ok (.xc c σ) (x'.h M0)) (go rs x.most n s)
 | 0,N,s,x,qs,_,_,_=>True.intro
 | n+1,0,s,x,qs,h,_,_=>absurd h (by omega)
 | n+1, N+1, s, x, qs, h, Rp, hr=>by
  have hc:=cond (Φ:=aa ak (k+5)) hσ (zv Rp)
  rw [vV Rp] at hc
  have hg:go rs x.most (n+1) s=bif s.frs.isEmpty then .ok s else dD (BU s.pl) fun i=>dD rs[i]? fun r=>bH (rA x.most r { s with pl:=.int ((i:Int)+1) }) (go rs x.most n):=rfl
  rw [hg]
  cases hf:s.frs.isEmpty with
  | true =>
   rw [hf] at hc
   refine ⟨x,qs,?_,Rp,rfl⟩
   rw [bI,hc];rfl
  | false =>
   rw [hf] at hc
   have hlw:bI (ev (aa ak (k+5)) eW) (exs (aa ak (k+5)) bW) (N+1) σ (x.h M0)=(exs (aa ak (k+5)) bW σ (x.h M0)).bind fun o M1=>match o with
    | .nx σ2=>bI (ev (aa ak (k+5)) eW) (exs (aa ak (k+5)) bW) N σ2 M1
    | .ct σ2=>bI (ev (aa ak (k+5)) eW) (exs (aa ak (k+5)) bW) N σ2 M1
    | .bk σ2=>.ok (.nx σ2) M1
    | .rt r=>.ok (.rt r) M1
    | .xc c σ2=>.ok (.xc c σ2) M1:=by rw [bI,hc];rfl
   have hb:∀ r:Fg.R D, (aa ak (k+5)).call 19 [.ref M0.length] (x.h M0)=r->ev (aa ak (k+5)) (.cM 1 19 (w "step") (.v 3) .nil) σ (x.h M0)=r:=fun r e=>(u_ (nm:=w "step") hσ (by decide +kernel)).trans e
   refine sm_get fun i hp=>sm_get fun r hg=>Ba (sim (k:=k) Rp hr (Kl hp) hg) (fun s' ⟨x',Ke,e,R',r1,r2⟩=>?_) fun c ⟨x',e⟩=>⟨x',?_⟩
   ·have ih:=loop (k:=k) hσ n N s' x' Ke (by omega) R' (by rw [r1];exact hr)
    rw [r2] at ih
    have e2:bI (ev (aa ak (k+5)) eW) (exs (aa ak (k+5)) bW) (N+1) σ (x.h M0)=bI (ev (aa ak (k+5)) eW) (exs (aa ak (k+5)) bW) N σ (x'.h M0):=by
     rw [hlw,bW,cg (hb _ e)];rfl
    rw [e2]
    exact ih
   ·rw [hlw,bW,oV (hb _ e)];rfl
end bK
end
section
namespace bK
open Fg PySem
noncomputable def aE:E:=.cmp .ne (.v 2) (.lst true .nil)
noncomputable def aB:Ss:=.cons (.set 3 (.bh .pop true (.v 2) .nil)) (.cons (.ifs (.CF (.v 3) .tuple) (.cons (.ex (.cM 1 12 (w "want_open") (.v 0) (.cons (.idx (.v 3) (.k (.int 4))) .nil))) (.cons (.ex (.bh .extend true (.v 2) (.cons (.sl true (.v 3) (.some (.k (.int 2))) (.some (.k (.int 4)))) .nil))) .nil)) .nil) .nil)
section
variable {M0:MH} {x:Mx} {k:Nat} {i:Int}
noncomputable abbrev wT (x:Mx) (ds:List D):Mx:={ x with T:=x.T++[.lst ds] }
theorem gD {ds:List D}:((wT x ds).h M0)[M0.length+(x.T.length+5)]? = some (.lst ds):=gT.trans (by show (x.T++[MO.lst ds])[x.T.length]? = _;simp)
theorem sD {ds es:List D}:((wT x ds).h M0).set (M0.length+(x.T.length+5)) (.lst es)=(wT x es).h M0:=by
 rw [sT]
 show Mx.h { x with T:=(x.T++[MO.lst ds]).set x.T.length (.lst es) } M0=_
 rw [List.set_append_right _ _ (Nat.le_refl _),Nat.sub_self];rfl
theorem ET {Φ:aL} {a v c:Option D} {ds:List D}:ev Φ aE [a,v,some (.ref (M0.length+(x.T.length+5))),c] ((wT x ds).h M0)=.ok (.bl (!ds.isEmpty)) ((wT x ds).h M0):=by
 show yk ((wT x ds).h M0) (.ref (M0.length+(x.T.length+5))) (.lst [])=_
 have e1:top ((wT x ds).h M0) (.ref (M0.length+(x.T.length+5)))=.lst ds:=by simp only [top,gD]
 have e2:top ((wT x ds).h M0) (.lst [])=.lst []:=rfl
 have e3:nh ((wT x ds).h M0) (.ref (M0.length+(x.T.length+5))) (.lst [])=some ds.isEmpty:=by simp only [nh,vw,gD];rfl
 unfold yk
 rw [e1,e2,e3]
 cases hd:ds with
 | nil=>rfl
 | cons d es =>
  by_cases hc:ee (.lst (d::es)) (.lst [])=true
  ·rw [if_pos hc,qb,CV];rfl
  ·rw [if_neg hc]
theorem KY:(aa ak (k+2)).call 20 [.ref M0.length,.int i] (x.h M0)=.ok .ao (x.h M0):=by
 have e1:ev (aa ak (k+1)) (.lst false (.cons (.v 1) .nil)) [some (.ref M0.length),some (.int i),none,none] (x.h M0)=.ok (.ref (M0.length+(x.T.length+5))) ((wT x [.int i]).h M0):=by
  show R.ok (D.ref (x.h M0).length) (x.h M0++[.lst [.int i]])=_
  rw [eL,app]
 have c1:=ET (Φ:=aa ak (k+1)) (M0:=M0) (x:=x) (ds:=[.int i]) (a:=some (.ref M0.length)) (v:=some (.int i)) (c:=none)
 have c2:=ET (Φ:=aa ak (k+1)) (M0:=M0) (x:=x) (ds:=[]) (a:=some (.ref M0.length)) (v:=some (.int i)) (c:=some (.int i))
 have e3:=sf (Φ:=aa ak (k+1)) (e:=.v 2) (p:=[]) (σ:=[some (.ref M0.length),some (.int i),some (.ref (M0.length+(x.T.length+5))),none]) rfl (gD (M0:=M0) (x:=x) (ds:=[.int i]))
 rw [sD] at e3
 have e4:exs (aa ak (k+1)) aB [some (.ref M0.length),some (.int i),some (.ref (M0.length+(x.T.length+5))),none] ((wT x [.int i]).h M0)=.ok (.nx [some (.ref M0.length),some (.int i),some (.ref (M0.length+(x.T.length+5))),some (.int i)]) ((wT x []).h M0) :=
  (av e3).trans ((cD rfl).trans rfl)
 have e2:ex (aa ak (k+1)) (.while aE aB) [some (.ref M0.length),some (.int i),some (.ref (M0.length+(x.T.length+5))),none] ((wT x [.int i]).h M0)=.ok (.nx [some (.ref M0.length),some (.int i),some (.ref (M0.length+(x.T.length+5))),some (.int i)]) ((wT x []).h M0):=by
  rw [kN,fY,show ak.turns=99998+1+1 from rfl,bI,c1]
  show (exs (aa ak (k+1)) aB _ _).bind _=_
  rw [e4]
  show bI _ _ (99998+1) _ _=_
  rw [bI,c2];rfl
 refine ek fn20 rfl ((av e1).trans ((dj e2).trans rfl)) (ie rfl ?_)
 have:(wT x []).h M0=x.h M0++[.lst []]:=app.symm
 rw [this];simp
theorem yv {p:List D} (hp:x.pile=p++[.int i]):(aa ak (k+3)).call 21 [.ref M0.length] (x.h M0)=.ok (.int i) (({ x with pile:=p }:Mx).h M0):=by
 have e1:=fk (Φ:=aa ak (k+2)) (σ:=[some (.ref M0.length),none]) (M0:=M0) (i:=0) (s:=x) rfl hp
 have e2:=(u_ (Φ:=aa ak (k+2)) (σ:=[some (.ref M0.length), some (.int i)]) (m:=20) (nm:=w "want_all_open") (es:=.cons (.v 1) .nil) (s:={ x with pile:=p }) (M0:=M0) (i:=0) rfl (by decide +kernel)).trans (KY (k:=k) (x:={ x with pile:=p }))
 have ht:∀ M,(aa ak (k+2)).call 5 [.int i] M=.ok (.int i) M:=fun M=>bV fn5 rfl (DN rfl (eX rfl)) (aA rfl rfl)
 exact bV fn21 rfl ((av e1).trans ((cg e2).trans (eX ((cK rfl).trans (ht _))))) (aA rfl (by rw [len,len]))
end
end bK
end
section
namespace bK
open Fg PySem
noncomputable def KQ (rows:D) (most:Int):Mx:=⟨rows,most,0,.int 0,[],[],[],[],[]⟩
section
variable {M0:MH} {x:Mx} {k:Nat} {rows:D} {most:Int}
theorem wg:(aa ak (k+1)).call 9 [.ref M0.length,rows,.int most] (M0++[.ins 1 []])=.ok .ao ((KQ rows most).h M0):=by
 have g:∀ (o:MO) (X:MH),(M0++o::X)[M0.length]? = some o:=fun o X=>off 0 _
 have st:∀ (o o':MO) (X:MH),(M0++o::X).set M0.length o'=M0++o'::X:=fun o o' X=>offs 0 _ _
 have ln:∀ (X:MH) (n:Nat),X.length=n->(M0++X).length=M0.length+n:=fun X n h=>by rw [List.length_append,h]
 have nl:∀ {σ:Sg} (X:MH) (n:Nat),X.length=n->ev (aa ak k) (.lst false .nil) σ (M0++X)=.ok (.ref (M0.length+n)) (M0++(X++[.lst []])):=fun {σ} X n h=>by
  rw [dI,aP,R.af]
  show R.ok (D.ref (M0++X).length) ((M0++X)++[.lst []])=_
  rw [ln X n h,List.append_assoc]
 let σ:Sg:=[some (.ref M0.length),some rows,some (.int most)]
 have q:∀ {e:E} {d:D} {X:MH} {gs gs':List (Str×D)} {Y:MH} {f:Str},ev (aa ak k) e σ (M0++.ins 1 gs::X)=.ok d (M0++.ins 1 gs::Y)->gs.length<1000->bB f d gs=gs'->ex (aa ak k) (.bN (.v 0) f e) σ (M0++.ins 1 gs::X)=.ok (.nx σ) (M0++.ins 1 gs'::Y):=fun {e d X gs gs' Y f} he hl hp=>by
  rw [nN he rfl (g _ _) hl hp,st]
 have p2:bB (w "most") (.int most) [(w "rows", rows)]=[(w "rows", rows), (w "most", .int most)]:=by simp only [bB, wn (a:="rows") (b:="most"), if_false]
 have p3:bB (w "begun") (.int 0) [(w "rows", rows), (w "most", .int most)]=[(w "rows", rows), (w "most", .int most), (w "begun", .int 0)]:=by simp only [bB, wn (a:="rows") (b:="begun"), wn (a:="most") (b:="begun"), if_false]
 have p4:bB (w "place") (.int 0) [(w "rows", rows), (w "most", .int most), (w "begun", .int 0)]=[(w "rows", rows), (w "most", .int most), (w "begun", .int 0), (w "place", .int 0)]:=by simp only [bB, wn (a:="rows") (b:="place"), wn (a:="most") (b:="place"), wn (a:="begun") (b:="place"), if_false]
 have p5:∀ d, bB (w "pile") d [(w "rows", rows), (w "most", .int most), (w "begun", .int 0), (w "place", .int 0)]=[(w "rows", rows), (w "most", .int most), (w "begun", .int 0), (w "place", .int 0), (w "pile", d)]:=fun d=>by simp only [bB, wn (a:="rows") (b:="pile"), wn (a:="most") (b:="pile"), wn (a:="begun") (b:="pile"), wn (a:="place") (b:="pile"), if_false]
 have p6:∀ a d, bB (w "frames") d [(w "rows", rows), (w "most", .int most), (w "begun", .int 0), (w "place", .int 0), (w "pile", a)]=[(w "rows", rows), (w "most", .int most), (w "begun", .int 0), (w "place", .int 0), (w "pile", a), (w "frames", d)]:=fun a d=>by simp only [bB, wn (a:="rows") (b:="frames"), wn (a:="most") (b:="frames"), wn (a:="begun") (b:="frames"), wn (a:="place") (b:="frames"), wn (a:="pile") (b:="frames"), if_false]
 have p7:∀ a b d, bB (w "lies_open") d [(w "rows", rows), (w "most", .int most), (w "begun", .int 0), (w "place", .int 0), (w "pile", a), (w "frames", b)]=[(w "rows", rows), (w "most", .int most), (w "begun", .int 0), (w "place", .int 0), (w "pile", a), (w "frames", b), (w "lies_open", d)]:=fun a b d=>by simp only [bB, wn (a:="rows") (b:="lies_open"), wn (a:="most") (b:="lies_open"), wn (a:="begun") (b:="lies_open"), wn (a:="place") (b:="lies_open"), wn (a:="pile") (b:="lies_open"), wn (a:="frames") (b:="lies_open"), if_false]
 have p8:∀ a b c d, bB (w "log") d [(w "rows", rows), (w "most", .int most), (w "begun", .int 0), (w "place", .int 0), (w "pile", a), (w "frames", b), (w "lies_open", c)]=[(w "rows", rows), (w "most", .int most), (w "begun", .int 0), (w "place", .int 0), (w "pile", a), (w "frames", b), (w "lies_open", c), (w "log", d)]:=fun a b c d=>by simp only [bB, wn (a:="rows") (b:="log"), wn (a:="most") (b:="log"), wn (a:="begun") (b:="log"), wn (a:="place") (b:="log"), wn (a:="pile") (b:="log"), wn (a:="frames") (b:="log"), wn (a:="lies_open") (b:="log"), if_false]
 refine ek fn9 rfl ((dj (q (X:=[]) (Y:=[]) (f:=w "rows") (e:=.v 1) (gs:=[]) rfl (by simp) rfl)).trans ((dj (q (X:=[]) (Y:=[]) (e:=.v 2) rfl (by simp) p2)).trans ((dj (q (X:=[]) (Y:=[]) (e:=.k (.int 0)) rfl (by simp) p3)).trans ((dj (q (X:=[]) (Y:=[]) (e:=.k (.int 0)) rfl (by simp) p4)).trans
  ((dj (q (nl [_] 1 rfl) (by simp) (p5 _))).trans ((dj (q (nl [_,_] 2 rfl) (by simp) (p6 _ _))).trans ((dj (q (nl [_,_,_] 3 rfl) (by simp) (p7 _ _ _))).trans ((dj (q (nl [_,_,_,_] 4 rfl) (by simp) (p8 _ _ _ _))).trans rfl)))))))) ?_
 refine mX (mJ (i:=M0.length) (g _ _) (g0 (s:=KQ rows most)) fun h=>?_)
 have h:=congrArg (fun o=>match o with | MO.ins _ fs=>fs.length | _=>0) h
 simp [Mx.o] at h
noncomputable def opens (n:Nat):List D:=(List.range n).map fun (i:Nat)=>.tup [.str (w "open"), .int i]
noncomputable def n8 (rows:D) (most:Int) (n:Nat):Mx:={ KQ rows most with c6:=(List.replicate n true).map D.bl,log:=opens n }
theorem yo {n:Nat}:({ n8 rows most n with c6:=(n8 rows most n).c6++[.bl true], log:=(n8 rows most n).log++[.tup [.str (w "open"), .int (n8 rows most n).c6.length]] }:Mx)=n8 rows most (n+1):=by
 simp only [n8,opens,List.range_succ,List.map_append,List.map_cons,List.map_nil,List.replicate_succ',List.length_map,List.length_replicate]
theorem uc {ch:MH->Bool} (hch:∀ M,ch M=true):∀ (ds:List D) (n:Nat) (o:Option D) (acc:List D),acc=nats (List.range n)->n+ds.length<lim ->
  bz (oh (aa ak (k+1)) .none) (ev (aa ak (k+1)) (.cM 1 10 (w "open_field") (.v 0) .nil)) [1] ch ds [some (.ref M0.length), o] ((n8 rows most n).h M0) acc=.ok (nats (List.range (n+ds.length))) ((n8 rows most (n+ds.length)).h M0)
 | [],n,o,acc,ha,_=>by rw [bz,ha];rfl
 | d::ds,n,o,acc,ha,hl=>by
  simp only [List.length_cons] at hl
  have hn:(n8 rows most n).c6.length=n:=by simp [n8]
  have h7:lim<line:=by decide
  have e:=GS (M0:=M0) (k:=k) (s:=n8 rows most n) (by rw [hn];omega) (by show (opens n).length<line;simp [opens];omega)
  rw [yo,hn] at e
  have eu:ev (aa ak (k+1)) (.cM 1 10 (w "open_field") (.v 0) .nil) (([some (.ref M0.length), o]:Sg).set 1 (some d)) ((n8 rows most n).h M0)=.ok (.int n) ((n8 rows most (n+1)).h M0):=(u_ (nm:=w "open_field") rfl (by decide +kernel)).trans e
  rw [rK eu (hch _) (by rw [ha];simp [nats];omega)]
  have:=uc hch ds (n+1) (some d) (acc++[.int n]) (by rw [ha,List.range_succ];simp [nats]) (by omega)
  rw [show n+1+ds.length=n+(d::ds).length by simp;omega] at this
  exact this
end
end bK
end
section
namespace bK
open Fg PySem
section
variable {M0:MH} {x:Mx} {k:Nat} {rows:D} {most:Int}
noncomputable def D4 (M0:MH) (rows:D) (most:Int) (o:Nat) (kn:List D) (pl:D):Mx:={ n8 rows most o with pl:=pl, frs:=[.ref (M0.length+(2+5))], T:=[.lst kn, .lst (nats (List.range o)), .ins 0 [(w "known", .ref (M0.length+(0+5))), (w "fields", .ref (M0.length+(1+5))), (w "behind_call", .ao)]] }
noncomputable def ms1 (o:Nat) (kn:List D) (b:Nat):Ms:=⟨[],[⟨kn,List.range o,.ao⟩],List.replicate o true,opens o,0,.int b⟩
theorem rep1 {o b:Nat} {kn:List D} (hv:∀ v∈kn,Vl v):Rep M0.length (ms1 o kn b) (D4 M0 rows most o kn (.int b)) [(2,0,1)] where
 pile:=rfl
 c6:=rfl
 log:=rfl
 bg:=rfl
 pl:=rfl
 frs:=rfl
 at_:=.cons ⟨rfl,rfl,rfl⟩ .nil
 nd:=by decide
 lt:=fun i hi=>by
  have hi:i∈[2,0,1]:=hi
  simp only [List.mem_cons,List.not_mem_nil,or_false] at hi
  show i<3
  omega
 pv:=fun v hv=>by cases hv
 fv:=fun f hf v h=>by rw [List.mem_singleton.mp hf] at h;exact hv v h
noncomputable def rE:Ss:=.cons (.set 5 (.cM 1 21 (w "answer") (.v 3) .nil)) (.cons (.for [6] (.rev (.v 4)) (.cons (.ex (.cM 1 11 (w "shut_field") (.v 3) (.cons (.v 6) .nil))) .nil)) (.cons (.ret (.tup (.cons (.v 5) (.cons (.fld (.v 3) (w "log")) .nil)))) .nil))
theorem oX:p9.body=.cons (.set 3 (.new 1 9 (.cons (.idx (.v 0) (.k (.int 0))) (.cons (.v 2) .nil)))) (.cons (.set 4 (.comp true [3] [1] (.cM 1 10 (w "open_field") (.v 0) .nil) (.iO (.idx (.v 0) (.k (.int 2)))) .none))
  (.cons (.ex (.bh .append true (.fld (.v 3) (w "frames")) (.cons (.new 0 8 (.cons (.blt .list false (.cons (.v 1) .nil)) (.cons (.blt .list false (.cons (.v 4) .nil)) (.cons (.k .ao) .nil)))) .nil)))
  (.cons (.bN (.v 3) (w "place") (.idx (.v 0) (.k (.int 1)))) (.cons (.while eW bW) rE)))):=rfl
theorem tH {o b:Nat} {kn:List D} (ho:o<lim) {ss:Ss}:exs (aa ak (k+2)) (.cons (.set 3 (.new 1 9 (.cons (.idx (.v 0) (.k (.int 0))) (.cons (.v 2) .nil)))) (.cons (.set 4 (.comp true [3] [1] (.cM 1 10 (w "open_field") (.v 0) .nil) (.iO (.idx (.v 0) (.k (.int 2)))) .none))
  (.cons (.ex (.bh .append true (.fld (.v 3) (w "frames")) (.cons (.new 0 8 (.cons (.blt .list false (.cons (.v 1) .nil)) (.cons (.blt .list false (.cons (.v 4) .nil)) (.cons (.k .ao) .nil)))) .nil)))
  (.cons (.bN (.v 3) (w "place") (.idx (.v 0) (.k (.int 1)))) ss)))) [some (.tup [rows, .int b, .int o]), some (.lst kn), some (.int most), none, none, none, none] M0 =
  exs (aa ak (k+2)) ss [some (.tup [rows,.int b,.int o]),some (.lst kn),some (.int most),some (.ref M0.length),some (.lst (nats (List.range o))),none,none] ((D4 M0 rows most o kn (.int b)).h M0):=by
 have e1:ev (aa ak (k+2)) (.new 1 9 (.cons (.idx (.v 0) (.k (.int 0))) (.cons (.v 2) .nil))) [some (.tup [rows,.int b,.int o]),some (.lst kn),some (.int most),none,none,none,none] M0=.ok (.ref M0.length) ((KQ rows most).h M0) :=
  e_new (kZ (aY rfl rfl cz) rfl) wg
 have h0:(KQ rows most).h M0=(n8 rows most 0).h M0:=rfl
 rw [h0] at e1
 have hl:(eG 0 (o:Int)).length=o:=o4
 have e2:=uE (Φ:=aa ak (k+2)) (σ:=[some (.tup [rows,.int b,.int o]),some (.lst kn),some (.int most),some (.ref M0.length),none,none,none]) (M:=(n8 rows most 0).h M0) (caps:=[3]) (tg:=[1]) (it:=.iO (.idx (.v 0) (.k (.int 2)))) (zS (n:=o) (aY rfl rfl LY) (Nat.le_trans (Nat.le_of_lt ho) (by decide)))
  (uc (k:=k+1) (M0:=M0) (ch:=aN ((n8 rows most 0).h M0) .ao) (fun _=>rfl) (eG 0 (o:Int)) 0 none [] rfl (by rw [hl];omega))
 rw [hl,Nat.zero_add] at e2
 let x1:Mx:=n8 rows most o
 have hT:x1.T=[]:=rfl
 let fo:MO:=.ins 0 [(w "known", .ref (M0.length+(0+5))), (w "fields", .ref (M0.length+(1+5))), (w "behind_call", .ao)]
 let x2:Mx:={ x1 with T:=[.lst kn,.lst (nats (List.range o)),fo] }
 have e3:ev (aa ak (k+2)) (.new 0 8 (.cons (.blt .list false (.cons (.v 1) .nil)) (.cons (.blt .list false (.cons (.v 4) .nil)) (.cons (.k .ao) .nil)))) [some (.tup [rows,.int b,.int o]),some (.lst kn),some (.int most),some (.ref M0.length),some (.lst (nats (List.range o))),none,none] (x1.h M0)=.ok (.ref (M0.length+(2+5))) (x2.h M0):=by
  have ea:bX (aa ak (k+2)) (.cons (.blt .list false (.cons (.v 1) .nil)) (.cons (.blt .list false (.cons (.v 4) .nil)) (.cons (.k .ao) .nil))) [some (.tup [rows,.int b,.int o]),some (.lst kn),some (.int most),some (.ref M0.length),some (.lst (nats (List.range o))),none,none] (x1.h M0)=.ok [.ref (M0.length+(0+5)),.ref (M0.length+(1+5)),.ao] (({ x1 with T:=[.lst kn,.lst (nats (List.range o))] }:Mx).h M0):=by
   have q1:ev (aa ak (k+2)) (.blt .list false (.cons (.v 1) .nil)) [some (.tup [rows,.int b,.int o]),some (.lst kn),some (.int most),some (.ref M0.length),some (.lst (nats (List.range o))),none,none] (x1.h M0)=.ok (.ref (M0.length+(0+5))) (({ x1 with T:=[.lst kn] }:Mx).h M0):=by
    show R.ok (D.ref (x1.h M0).length) (x1.h M0++[.lst kn])=_
    rw [eL,app];rfl
   have q2:ev (aa ak (k+2)) (.blt .list false (.cons (.v 4) .nil)) [some (.tup [rows,.int b,.int o]),some (.lst kn),some (.int most),some (.ref M0.length),some (.lst (nats (List.range o))),none,none] (({ x1 with T:=[.lst kn] }:Mx).h M0)=.ok (.ref (M0.length+(1+5))) (({ x1 with T:=[.lst kn,.lst (nats (List.range o))] }:Mx).h M0):=by
    show R.ok (D.ref (({ x1 with T:=[.lst kn] }:Mx).h M0).length) (({ x1 with T:=[.lst kn] }:Mx).h M0++[.lst (nats (List.range o))])=_
    rw [eL,app];rfl
   rw [au,q1,R.af,au,q2];rfl
  have en:=e_new (c:=0) (g:=8) (M2:=x2.h M0) ea (by
   rw [app,eL]
   refine (uT (k:=k) (gT (t:=2) (s:=({ x1 with T:=[.lst kn,.lst (nats (List.range o))]++[.ins 0 []] }:Mx)))).trans ?_
   exact congrArg (R.ok _) sT)
  rw [eL] at en
  exact en
 have e4:=qe (cV (Φ:=aa ak (k+2)) (σ:=[some (.tup [rows,.int b,.int o]),some (.lst kn),some (.int most),some (.ref M0.length),some (.lst (nats (List.range o))),none,none]) (M0:=M0) (s:=x1) (i:=3) rfl) g2 e3 (g2 (s:=x2)) (show ([]:List D).length<line by decide)
 rw [s2] at e4
 have e5:=gi (Φ:=aa ak (k+2)) (σ:=[some (.tup [rows,.int b,.int o]),some (.lst kn),some (.int most),some (.ref M0.length),some (.lst (nats (List.range o))),none,none]) (e:=.idx (.v 0) (.k (.int 1))) (d:=.int b) (s:={ x2 with frs:=[]++[.ref (M0.length+(2+5))] }) (s':={ x2 with frs:=[]++[.ref (M0.length+(2+5))] }) (M0:=M0) (i:=3) rfl (aY rfl rfl mE)
 exact (av e1).trans ((av e2).trans ((cg e4).trans (dj e5)))
theorem Ct {a b c e f:Option D}:∀ (ns:List Nat) (x:Mx) (g:Option D),(∀ n∈ns,n<x.c6.length)->x.log.length+ns.length<line ->
  ∃ (x':Mx) (g':Option D), bC (exs (aa ak (k+2)) (.cons (.ex (.cM 1 11 (w "shut_field") (.v 3) (.cons (.v 6) .nil))) .nil)) [6] (aN (x.h M0) .ao) (nats ns) [a, b, c, some (.ref M0.length), e, f, g] (x.h M0)=.ok (.nx [a, b, c, some (.ref M0.length), e, f, g']) (x'.h M0)/\x'.log=x.log++ns.map (fun (i:Nat)=>.tup [.str (w "shut"), .int i]):=by
 intro ns
 induction ns with
 | nil=>intro x g _ _;exact ⟨x,g,rfl,by simp⟩
 | cons n ns ih =>
  intro x g h hl
  have e1:=GR (M0:=M0) (k:=k+1) (s:=x) (f:=n) (h n List.mem_cons_self) (by simp only [List.length_cons] at hl;omega)
  have e2:=(u_ (Φ:=aa ak (k+2)) (σ:=[a, b, c, some (.ref M0.length), e, f, some (.int n)]) (m:=11) (nm:=w "shut_field") (es:=.cons (.v 6) .nil) (s:=x) (M0:=M0) (i:=3) rfl (by decide +kernel)).trans e1
  obtain ⟨x', g', e3, e4⟩:=ih { x with c6:=x.c6.set n (.bl false), log:=x.log++[.tup [.str (w "shut"), .int n]] } (some (.int n)) (fun m hm=>by show m<(x.c6.set n _).length;rw [List.length_set];exact h m (List.mem_cons_of_mem _ hm)) (by show (x.log++[_]).length+ns.length<line;rw [List.length_append];simp only [List.length_cons, List.length_nil] at hl ⊢;omega)
  refine ⟨x',g',?_,?_⟩
  ·have eb:exs (aa ak (k+2)) (.cons (.ex (.cM 1 11 (w "shut_field") (.v 3) (.cons (.v 6) .nil))) .nil) [a, b, c, some (.ref M0.length), e, f, some (.int n)] (x.h M0)=.ok (.nx [a, b, c, some (.ref M0.length), e, f, some (.int n)]) (({ x with c6:=x.c6.set n (.bl false), log:=x.log++[.tup [.str (w "shut"), .int n]] }:Mx).h M0):=(cg e2).trans rfl
   rw [nats,List.map_cons,bC]
   show (exs (aa ak (k+2)) _ [a,b,c,some (.ref M0.length),e,f,some (.int n)] (x.h M0)).bind _=_
   rw [eb]
   exact e3
  ·rw [e4];show (x.log++[_])++_=_;rw [List.append_assoc];rfl
noncomputable abbrev sg (rows:D) (b o:Nat) (kn:List D) (most:Int) (r:List (Option D)):Sg:=some (.tup [rows,.int b,.int o])::some (.lst kn)::some (.int most)::r
theorem FD {rs:List Rw} {o b N:Nat} {kn p:List D} {s':Ms} {i:Int} (hr:jJ M0 rows (rs.map Rw.d)) (ho:o<1000) (hv:∀ v∈kn,Vl v) (hg:go rs most N (ms1 o kn b)=.ok s') (hN:N<=100000) (hp:s'.pile=p++[.int i]) (hoo:o<=s'.c6.length) (hlog:s'.log.length<lim) :
  ∃ x':Mx,(aa ak (k+7)).call 7 [.tup [rows,.int b,.int o],.lst kn,.int most] M0=.ok (.tup [.int i,.ref (M0.length+4)]) (x'.h M0):=by
 have lp:=loop (M0:=M0) (rs:=rs) (k:=k+1) (σ:=sg rows b o kn most [some (.ref M0.length),some (.lst (nats (List.range o))),none,none]) rfl N 100000 (ms1 o kn b) (D4 M0 rows most o kn (.int b)) [(2,0,1)] hN (rep1 hv) hr
 have hm:(D4 M0 rows most o kn (.int b)).most=most:=rfl
 rw [hm,hg] at lp
 obtain ⟨x1,qs,e1,R1,_⟩:=lp
 have e2:=yv (M0:=M0) (k:=k+3) (x:=x1) (R1.pile.trans hp)
 have e3:=(u_ (Φ:=aa ak (k+6)) (σ:=sg rows b o kn most [some (.ref M0.length), some (.lst (nats (List.range o))), none, none]) (m:=21) (nm:=w "answer") (es:=.nil) (s:=x1) (M0:=M0) (i:=3) rfl (by decide +kernel)).trans e2
 let x2:Mx:={ x1 with pile:=p }
 have h7:lim+1000<line:=by decide
 obtain ⟨x3,g',e4,e5⟩:=Ct (M0:=M0) (k:=k+4) (a:=some (.tup [rows,.int b,.int o])) (b:=some (.lst kn)) (c:=some (.int most)) (e:=some (.lst (nats (List.range o)))) (f:=some (.int i)) (List.range o).reverse x2 none (fun n hn=>by
  show n<x1.c6.length
  rw [R1.c6,List.length_map]
  have:=List.mem_range.mp (List.mem_reverse.mp hn)
  omega) (by show x1.log.length+_<line;rw [R1.log,List.length_reverse,List.length_range];omega)
 have e6:ex (aa ak (k+6)) (.for [6] (.rev (.v 4)) (.cons (.ex (.cM 1 11 (w "shut_field") (.v 3) (.cons (.v 6) .nil))) .nil)) (sg rows b o kn most [some (.ref M0.length), some (.lst (nats (List.range o))), some (.int i), none]) (x2.h M0)=.ok (.nx (sg rows b o kn most [some (.ref M0.length), some (.lst (nats (List.range o))), some (.int i), g'])) (x3.h M0):=by
  have er:b3 (aa ak (k+6)) (.rev (.v 4)) (sg rows b o kn most [some (.ref M0.length),some (.lst (nats (List.range o))),some (.int i),none]) (x2.h M0)=.ok (.ao,nats (List.range o).reverse,false) (x2.h M0):=by
   have:(nats (List.range o)).reverse=nats (List.range o).reverse:=by simp only [nats,List.map_reverse]
   rw [<- this];rfl
  rw [Ih,er]
  show (bC _ _ _ _ _ _).fin (fu false .ao)=_
  rw [zA]
  exact e4
 have e7:ev (aa ak (k+6)) (.tup (.cons (.v 5) (.cons (.fld (.v 3) (w "log")) .nil))) (sg rows b o kn most [some (.ref M0.length), some (.lst (nats (List.range o))), some (.int i), g']) (x3.h M0)=.ok (.tup [.int i, .ref (M0.length+4)]) (x3.h M0):=by
  rw [gQ,kZ rfl (En (i:=3) rfl)];rfl
 have ew:ex (aa ak (k+6)) (.while eW bW) (sg rows b o kn most [some (.ref M0.length),some (.lst (nats (List.range o))),none,none]) ((D4 M0 rows most o kn (.int b)).h M0)=.ok (.nx (sg rows b o kn most [some (.ref M0.length),some (.lst (nats (List.range o))),none,none])) (x1.h M0):=by
  rw [kN,fY];exact e1
 refine ⟨x3,?_⟩
 have eb:exs (aa ak (k+6)) p9.body (sg rows b o kn most [none,none,none,none]) M0=.ok (.rt (.tup [.int i,.ref (M0.length+4)])) (x3.h M0):=by
  rw [oX,tH (k:=k+4) (Nat.lt_of_lt_of_le ho (by decide))]
  exact (dj ew).trans ((av e3).trans ((dj e6).trans (eX e7)))
 have tk:(x3.h M0).take M0.length=M0:=by simp [Mx.h]
 have nn:¬ nr M0.length (.tup [.int i,.ref (M0.length+4)])=true:=by simp [nr,qZ]
 exact bV fn7 rfl eb ((if_pos ⟨rfl,tk⟩).trans (if_neg nn))
theorem JY {rs:List Rw} {o b N c:Nat} {kn:List D} (hr:jJ M0 rows (rs.map Rw.d)) (ho:o<1000) (hv:∀ v∈kn,Vl v) (hg:go rs most N (ms1 o kn b)=.exc c) (hN:N<=100000):(aa ak (k+7)).call 7 [.tup [rows,.int b,.int o],.lst kn,.int most] M0=.exc c M0:=by
 have lp:=loop (M0:=M0) (rs:=rs) (k:=k+1) (σ:=sg rows b o kn most [some (.ref M0.length),some (.lst (nats (List.range o))),none,none]) rfl N 100000 (ms1 o kn b) (D4 M0 rows most o kn (.int b)) [(2,0,1)] hN (rep1 hv) hr
 have hm:(D4 M0 rows most o kn (.int b)).most=most:=rfl
 rw [hm,hg] at lp
 obtain ⟨x1,e1⟩:=lp
 have ew:∀ ss,exs (aa ak (k+6)) (.cons (.while eW bW) ss) (sg rows b o kn most [some (.ref M0.length),some (.lst (nats (List.range o))),none,none]) ((D4 M0 rows most o kn (.int b)).h M0)=.ok (.xc c (sg rows b o kn most [some (.ref M0.length),some (.lst (nats (List.range o))),none,none])) (x1.h M0):=fun ss=>by
  rw [aW,kN,fY,show ak.turns=100000 from rfl,e1];rfl
 have tk:(x1.h M0).take M0.length=M0:=by simp [Mx.h]
 have eb:exs (aa ak (k+6)) p9.body (sg rows b o kn most [none,none,none,none]) M0=.ok (.xc c (sg rows b o kn most [some (.ref M0.length),some (.lst (nats (List.range o))),none,none])) (x1.h M0):=by
  rw [oX,tH (k:=k+4) (Nat.lt_of_lt_of_le ho (by decide))]
  exact ew _
 exact jI fn7 rfl eb (if_pos tk)
end
end bK
end
section
namespace bK
open Fg PySem
noncomputable def ig:List Rw:=[.loc 0,.Jv 10,.loc 0,.call 12 1 [],.keep,.loc 1,.drop,.drop,.keep,.jump 0,.num 8,.back,.loc 0,.num 1,.rk .minus,.back]
noncomputable def Fd (n b:Int):Ms:=⟨[],[⟨[.int n],[],.ao⟩],[],[],b,.int 0⟩
theorem go_l {most n b:Int} {N:Nat} (h0:¬ n=0) (hb:¬ most<b+1) (hm:mid n=true) (h1:mid 1=true) (hg:kY .minus n 1=false):go ig most (N+14) (Fd n b)=go ig most N (Fd (n-1) (b+1)):=by
 simp [go,Fd,ig,BU,dD,rA,jA,fits,lim,bH,bZ,gy,nj,h0,hb,hm,h1,hg,j6]
theorem Lf {most n b:Int} {N:Nat} (h0:¬ n=0) (hb:most<b+1):go ig most (N+14) (Fd n b)=.exc 7:=by
 simp [go,Fd,ig,BU,dD,rA,jA,fits,lim,bH,bZ,gy,nj,h0,hb]
end bK
end
section
namespace bK
open Fg PySem
theorem fn22:ak.fn 22=some jl:=rfl
theorem fn23:ak.fn 23=some kL:=rfl
theorem Lj:ak.fn 24=some lZ:=rfl
theorem fn28:ak.fn 28=some jm:=rfl
theorem fn29:ak.fn 29=some iB:=rfl
theorem fn30:ak.fn 30=some iD:=rfl
theorem fn31:ak.fn 31=some fc:=rfl
theorem fn32:ak.fn 32=some l7:=rfl
theorem fn33:ak.fn 33=some Eo:=rfl
noncomputable def wd:Nat->Str
 | 5=>w "great"
 | 6=>w "empty"
 | 7=>w "long"
 | _=>w "deep"
section
variable {k:Nat} {M M':MH} {code nums fuel d:D} {most i:Int} {c:Nat}
theorem IA (h:c=5\/c=6\/c=7\/c=8):(aa ak (k+1)).call 23 [.iP c] M=.ok (.str (wd c)) M:=by
 rcases h with rfl | rfl | rfl | rfl <;> exact bV fn23 rfl (M':=M) (by cases k <;> rfl) (aA rfl rfl)
noncomputable def wX:Ss:=.cons (.ifs (.cmp .wJ (.v 2) (.k .ao)) (.cons (.set 4 (.jt 7 (.cons (.v 0) (.cons (.v 1) .nil)) 200)) .nil) (.cons (.set 4 (.jr 7 (.cons (.v 0) (.cons (.v 1) .nil)) (.v 2))) .nil)) .nil
theorem Jw {Φ:aL} {a b e:Option D} (hf:fuel=.ao/\most=200\/fuel=.int most):exs Φ wX [some code,some nums,some fuel,a,b,e] M=(Φ.call 7 [code,nums,.int most] M).use [some code,some nums,some fuel,a,b,e] fun d M1=>.ok (.nx [some code,some nums,some fuel,a,some d,e]) M1:=by
 rcases hf with ⟨rfl,rfl⟩ | rfl
 ·simp [wX,bO,bS]
  cases Φ.call 7 [code,nums,.int 200] M <;> rfl
 ·simp [wX,bO,bS]
  cases Φ.call 7 [code,nums,.int most] M <;> rfl
noncomputable abbrev sR (code nums fuel:D) (a b e:Option D):Sg:=[some code,some nums,some fuel,a,b,e]
noncomputable def MK:Hs:=.as 0 5 (.cons (.set 3 (.call 23 (.cons (.v 5) .nil))) .nil) .nil
theorem FJ (hf:fuel=.ao/\most=200\/fuel=.int most) (hr:(aa ak k).call 7 [code, nums, .int most] M=.ok (.tup [.int i, d]) M') (ht:M'.take M.length=M):(aa ak (k+1)).call 24 [code, nums, fuel] M=.ok (.tup [.str (w "told"), .int i]) M:=by
 have e1:∀ ss, exs (aa ak k) (.cons (.try wX MK .nil) ss) (sR code nums fuel (some (.str (w "told"))) (some .ao) none) M=exs (aa ak k) ss (sR code nums fuel (some (.str (w "told"))) (some (.tup [.int i, d])) none) M':=fun ss=>by
  rw [aW,zF,Jw hf,hr];rfl
 exact bV Lj rfl ((av rfl).trans ((av rfl).trans ((e1 _).trans ((dQ rfl ((av (aY rfl rfl cz)).trans rfl)).trans (eX rfl))))) (ie rfl ht)
theorem J1 (hc:c=5\/c=6\/c=7\/c=8) (hf:fuel=.ao/\most=200\/fuel=.int most) (hr:(aa ak (k+1)).call 7 [code,nums,.int most] M=.exc c M):(aa ak (k+2)).call 24 [code,nums,fuel] M=.ok (.tup [.str (wd c),.ao]) M:=by
 have ew:ev (aa ak (k+1)) (.call 23 (.cons (.v 5) .nil)) (sR code nums fuel (some (.str (w "told"))) (some .ao) (some (.iP c))) M=.ok (.str (wd c)) M:=(cK (e_v rfl)).trans (IA hc)
 have e1:∀ ss, exs (aa ak (k+1)) (.cons (.try wX MK .nil) ss) (sR code nums fuel (some (.str (w "told"))) (some .ao) none) M=exs (aa ak (k+1)) ss (sR code nums fuel (some (.str (wd c))) (some .ao) none) M:=fun ss=>by
  have hs:ak.sub c 0=true:=by rcases hc with rfl | rfl | rfl | rfl <;> decide
  rw [aW,zF,Jw hf,hr,R.mH,R.af]
  show (ux (aa ak (k+1)) MK c _ M).bind _=_
  rw [MK,Ib,if_pos (by rw [we];exact hs)]
  show (GK _ (exs (aa ak (k+1)) _ (sR code nums fuel (some (.str (w "told"))) (some .ao) (some (.iP c))) M)).bind _=_
  rw [av ew];rfl
 exact bV Lj rfl ((av rfl).trans ((av rfl).trans ((e1 _).trans ((cD rfl).trans (eX rfl))))) (ie rfl (List.take_length ..))
end
end bK
end
section
namespace bK
open Fg PySem
noncomputable def outI (o:Nat) (r:Rz):Option (Int ⊕ Nat):=match r with
 | .ok s=>match s.pile.getLast? with
  | some (.int i)=>if o<=s.c6.length/\s.log.length<lim then some (.inl i) else none
  | _=>none
 | .exc c=>some (.inr c)
 | .bad=>none
noncomputable def gr:Int ⊕ Nat->D
 | .inl i=>.tup [.str (w "told"), .int i]
 | .inr c=>.tup [.str (wd c),.ao]
noncomputable def uG:Int ⊕ Nat->Bool
 | .inl _=>true
 | .inr c=>c == 5||(c == 6||(c == 7||c == 8))
theorem Jc {k:Nat} {M:MH} {rows fuel:D} {most:Int} {rs:List Rw} {o N:Nat} {kn:List D} {z:Int ⊕ Nat} (hr:jJ M rows (rs.map Rw.d)) (hf:fuel=.ao/\most=200\/fuel=.int most) (ho:o<1000) (hv:∀ v∈kn,Vl v) (hg:outI o (go rs most N (ms1 o kn 0))=some z) (hN:N<=100000) (hz:uG z=true) :
  (aa ak (k+8)).call 24 [.tup [rows,.int 0,.int o],.lst kn,fuel] M=.ok (gr z) M:=by
 cases h:go rs most N (ms1 o kn 0) with
 | bad=>rw [h] at hg;cases hg
 | exc c =>
  rw [h] at hg
  cases hg
  refine J1 (k:=k+6) ?_ hf (JY (b:=0) hr ho hv h hN)
  simpa [uG] using hz
 | ok s =>
  rw [h] at hg
  simp only [outI] at hg
  split at hg
  ·rename_i i hi
   split at hg
   ·rename_i hc
    cases hg
    obtain ⟨p,hp⟩:=List.getLast?_eq_some_iff.mp hi
    obtain ⟨x',e⟩:=FD (k:=k) (b:=0) hr ho hv h hN hp hc.1 hc.2
    exact FJ (k:=k+7) hf e (by simp [Mx.h])
   ·cases hg
  ·cases hg
end bK
end
section
namespace bK
open Fg PySem
section
variable {M M1 M2:MH} {k:Nat} {Φ:aL} {σ:Sg} {e e':E} {z:Int ⊕ Nat} {n:Int}
theorem zN:bO .eq M (gr z) (gr z)=.ok (.bl true) M/\bO .ne M (gr z) (gr z)=.ok (.bl false) M:=by
 cases z <;> simp [gr,bO,EN,Ng,yk,top,ee,Fg.plain,dw,dep,deps]
theorem zT {a b:Int} {fz:Bool} (he:ev Φ e σ M=.ok (.int a) M1) (hx:ev Φ e' σ M1=.ok (.int b) M2) (hb:0<b):ev Φ (.op .mod fz e e') σ M=.ok (.int (a % b)) M2:=by
 rw [gB,he,R.af,hx,R.af]
 simp only [tX,gk,decide_eq_true hb,if_true]
theorem ED {a b:Int} {fz:Bool} (he:ev Φ e σ M=.ok (.int a) M1) (hx:ev Φ e' σ M1=.ok (.int b) M2) (hb:0<b) (hs:b.natAbs<1073741824):ev Φ (.op .fdiv fz e e') σ M=.ok (.int (a / b)) M2:=by
 rw [gB,he,R.af,hx,R.af]
 simp only [tX,gk,decide_eq_true hb,decide_eq_true hs,Bool.and_self,if_true]
theorem qd {a b:Int} {fz:Bool} {i:Nat} (h:σ[i]? = some (some (.int n))) (ha:0<a) (hs:a.natAbs<1073741824) (hb:0<b):ev Φ (.op .mod fz (.op .fdiv fz (.v i) (.k (.int a))) (.k (.int b))) σ M=.ok (.int (n / a % b)) M:=zT (ED (e_v h) rfl ha hs) rfl hb
theorem e_m {b:Int} {fz:Bool} {i:Nat} (h:σ[i]? = some (some (.int n))) (hb:0<b):ev Φ (.op .mod fz (.v i) (.k (.int b))) σ M=.ok (.int (n % b)) M:=zT (e_v h) rfl hb
theorem bF {a b:Int} (hb:0<b):∃ m:Nat,a % b=(m:Int)/\(m:Int)<b:=⟨(a % b).toNat,by have:=Int.emod_nonneg a (by omega:b≠0);omega,by have:=Int.emod_nonneg a (by omega:b≠0);have:=Int.emod_lt_of_pos a hb;omega⟩
theorem oW {r a b c:E} {ss:Ss} {code kn fuel:D} (ha:ev (aa ak k) a σ M=.ok code M) (hb:ev (aa ak k) b σ M=.ok kn M) (hc:ev (aa ak k) c σ M=.ok fuel M) (hr:(aa ak k).call 24 [code,kn,fuel] M=.ok (gr z) M) (hd:ev (aa ak k) r σ M=.ok (gr z) M) :
  exs (aa ak k) (.cons (.ret (.cmp .eq (.call 24 (.cons a (.cons b (.cons c .nil)))) r)) ss) σ M=.ok (.rt (.bl true)) M:=by
 refine eX ?_
 rw [dJ,iG,au,ha,R.af,au,hb,R.af,au,hc,R.af,aP,R.af,R.af,R.af,R.af,hr,R.af,hd,R.af,zN.1]
theorem e_le {a b:Int} {q:Bool} (he:ev Φ e σ M=.ok (.int a) M1) (hx:ev Φ e' σ M1=.ok (.int b) M2) (hq:decide (a<=b)=q):ev Φ (.cmp .le e e') σ M=.ok (.bl q) M2:=by
 rw [dJ,he,R.af,hx,R.af,<- hq];rfl
theorem zY {a b:Bool} (he:ev Φ e σ M=.ok (.bl a) M) (hx:ev Φ e' σ M=.ok (.bl b) M):ev Φ (.and e e') σ M=.ok (.bl (a&&b)) M:=by
 rw [Im,he,R.af]
 cases a
 ·rfl
 ·exact hx
theorem vl1 {i:Int}:∀ v∈[D.int i],Vl v:=fun v hv=>by rw [List.mem_singleton.mp hv];exact .int i
noncomputable def xK:List Rw:=[.loc 0,.call 3 1 [],.back,.loc 0,.Jv 10,.loc 0,.num 1,.rk .minus,.call 3 1 [],.back,.num 44,.back]
noncomputable def z6 (m f:Nat):Int ⊕ Nat:=if f<20/\f<m+1/\f<=12 then .inr 7 else if 12<m+1 then .inr 8 else .inl 44
theorem Ci:∀ m:Fin 20,∀ f:Fin 21,outI 0 (go xK (if f.val=20 then 200 else f.val) 1000 (ms1 0 [.int m.val] 0))=some (z6 m f):=by decide +kernel
theorem Iu {m f:Nat}:uG (z6 m f)=true:=by 
 unfold z6
 split
 ·rfl
 ·split <;> rfl
theorem vH:(aa ak (k+9)).call 29 [.int n] M=.ok (.bl true) M:=by
 obtain ⟨m,hm,lm⟩:=bF (a:=n) (b:=20) (by decide)
 obtain ⟨f,hf,lf⟩:=bF (a:=n / 20) (b:=20) (by decide)
 obtain ⟨q,hq,lq⟩:=bF (a:=n / 400) (b:=2) (by decide)
 let Φ:=aa ak (k+8)
 have e1:ev Φ (.op .mod true (.v 0) (.k (.int 20))) [some (.int n),none,none,none,none] M=.ok (.int m) M:=(e_m rfl (by decide)).trans (by rw [hm])
 have e2:ev Φ (.lst true (.cons (.k .ao) (.cons (.op .mod true (.op .fdiv true (.v 0) (.k (.int 20))) (.k (.int 20))) .nil))) [some (.int n),some (.int m),none,none,none] M=.ok (.lst [.ao,.int f]) M:=by
  rw [dI,kZ rfl ((qd rfl (by decide) (by decide) (by decide)).trans (by rw [hf])),R.af];rfl
 have e3:ev Φ (.op .mod true (.op .fdiv true (.v 0) (.k (.int 400))) (.k (.int 2))) [some (.int n),some (.int m),none,none,none] M=.ok (.int q) M:=(qd rfl (by decide) (by decide) (by decide)).trans (by rw [hq])
 obtain ⟨fd,ff,e4,hfd⟩:∃ (fd:D) (ff:Nat),b5 [D.ao,.int f] (q:Int)=some fd/\(fd=.ao/\ff=20\/fd=.int f/\ff=f):=by
  rcases (show q=0\/q=1 by omega) with rfl | rfl
  ·exact ⟨.ao,20,rfl,.inl ⟨rfl,rfl⟩⟩
  ·exact ⟨.int f,f,rfl,.inr ⟨rfl,rfl⟩⟩
 have lff:ff<21:=by omega
 let σ:Sg:=[some (.int n), some (.int m), some fd, some (.lst (xK.map Rw.d)), some (.tup [.str (w "told"), .int 44])]
 have c2:ev Φ (.cmp .gt (.op .add true (.v 1) (.k (.int 1))) (.k (.int 12))) σ M=.ok (.bl (decide (12<m+1))) M:=CZ (d9 rfl rfl) rfl (by congr 1;simp;omega)
 have c1:ev Φ (.and (.cmp .kh (.v 2) (.k .ao)) (.and (.cmp .lt (.v 2) (.op .add true (.v 1) (.k (.int 1)))) (.cmp .le (.v 2) (.k (.int 12))))) σ M=.ok (.bl (decide (ff<20/\ff<m+1/\ff<=12))) M:=by
  rcases hfd with ⟨rfl,rfl⟩ | ⟨rfl,rfl⟩
  ·rfl
  ·refine (zY (a:=true) (b:=decide (ff<m+1)&&decide (ff<=12)) rfl (zY (e_lt (a:=ff) (b:=m+1) rfl (d9 rfl rfl) ?_) (e_le (a:=ff) (b:=12) rfl rfl ?_))).trans ?_
   ·congr 1;simp;omega
   ·congr 1;simp;omega
   ·simp only [Bool.true_and];congr 2;simp;omega
 have e5:∀ ss, exs Φ (.cons (.ifs (.and (.cmp .kh (.v 2) (.k .ao)) (.and (.cmp .lt (.v 2) (.op .add true (.v 1) (.k (.int 1)))) (.cmp .le (.v 2) (.k (.int 12))))) (.cons (.set 4 (.tup (.cons (.k (.str (w "long"))) (.cons (.k .ao) .nil)))) .nil) (.cons (.ifs (.cmp .gt (.op .add true (.v 1) (.k (.int 1))) (.k (.int 12))) (.cons (.set 4 (.tup (.cons (.k (.str (w "deep"))) (.cons (.k .ao) .nil)))) .nil) .nil) .nil)) ss) σ M=exs Φ ss (σ.set 4 (some (gr (z6 m ff)))) M:=fun ss=>by
  unfold z6
  by_cases h1:ff<20/\ff<m+1/\ff<=12
  ·rw [decide_eq_true h1] at c1
   rw [if_pos h1]
   exact dQ c1 rfl
  ·rw [decide_eq_false h1] at c1
   rw [if_neg h1]
   by_cases h2:12<m+1
   ·rw [decide_eq_true h2] at c2
    rw [if_pos h2]
    exact aQ c1 ((dQ c2 rfl).trans rfl)
   ·rw [decide_eq_false h2] at c2
    rw [if_neg h2]
    exact aQ c1 ((cD c2).trans rfl)
 have er:=Jc (k:=k) (M:=M) (rows:=.lst (xK.map Rw.d)) (fuel:=fd) (most:=if ff=20 then 200 else ff) (kn:=[.int m]) (.inl rfl) (by
  rcases hfd with ⟨rfl,rfl⟩ | ⟨rfl,rfl⟩
  ·exact .inl ⟨rfl,rfl⟩
  ·exact .inr (by rw [if_neg (by omega)])) (by decide) vl1 (Ci ⟨m,by omega⟩ ⟨ff,lff⟩) (by decide) Iu
 exact bV fn29 rfl ((av e1).trans ((av (mh e2 e3 e4)).trans ((av rfl).trans ((av rfl).trans ((av rfl).trans ((e5 _).trans (oW rfl rfl rfl er rfl))))))) (aA rfl rfl)
end
end bK
end
section
namespace bK
open Fg PySem
theorem D6:mid 1=true/\∀ m:Fin 31,mid (m.val:Int)=true/\kY .minus (m.val:Int) 1=false:=by decide +kernel
noncomputable def sj (m:Nat) (b most:Int):Int ⊕ Nat:=if b+m<=most then .inl 8 else .inr 7
theorem uu {most:Int}:∀ (m:Nat) (b:Int),m<31->b<=most->outI 0 (go ig most (14*m+5) (Fd m b))=some (sj m b most)
 | 0,b,_,hb=>by
  unfold sj
  rw [if_pos (by omega)]
  simp [go,Fd,ig,BU,dD,rA,jA,fits,lim,bH,bZ,gy,nj,outI]
 | m+1,b,hm,hb=>by
  obtain ⟨h1,h2⟩:=D6.2 ⟨m+1,hm⟩
  by_cases h:most<b+1
  ·rw [show 14*(m+1)+5=(14*m+5)+14 by omega,Lf (by omega) h]
   unfold sj
   rw [if_neg (by omega)];rfl
  ·rw [show 14*(m+1)+5=(14*m+5)+14 by omega,go_l (n:=((m+1:Nat):Int)) (by omega) h h1 D6.1 h2,show ((m+1:Nat):Int)-1=(m:Int) by omega,uu m (b+1) (by omega) (by omega)]
   unfold sj
   congr 2
   simp only [eq_iff_iff]
   omega
section
variable {M:MH} {k:Nat} {n:Int}
theorem vK:(aa ak (k+9)).call 30 [.int n] M=.ok (.bl true) M:=by
 obtain ⟨m,hm,lm⟩:=bF (a:=n) (b:=30) (by decide)
 obtain ⟨f,hf,lf⟩:=bF (a:=n / 30) (b:=40) (by decide)
 let Φ:=aa ak (k+8)
 have e1:ev Φ (.op .mod true (.v 0) (.k (.int 30))) [some (.int n),none,none,none,none] M=.ok (.int m) M:=(e_m rfl (by decide)).trans (by rw [hm])
 have e2:ev Φ (.op .mod true (.op .fdiv true (.v 0) (.k (.int 30))) (.k (.int 40))) [some (.int n),some (.int m),none,none,none] M=.ok (.int f) M:=(qd rfl (by decide) (by decide) (by decide)).trans (by rw [hf])
 let σ:Sg:=[some (.int n), some (.int m), some (.int f), some (.lst (ig.map Rw.d)), some (.tup [.str (w "told"), .int 8])]
 have c1:ev Φ (.cmp .lt (.v 2) (.v 1)) σ M=.ok (.bl (decide ((f:Int)<m))) M:=e_lt rfl rfl rfl
 have e5:∀ ss, exs Φ (.cons (.ifs (.cmp .lt (.v 2) (.v 1)) (.cons (.set 4 (.tup (.cons (.k (.str (w "long"))) (.cons (.k .ao) .nil)))) .nil) .nil) ss) σ M=exs Φ ss (σ.set 4 (some (gr (sj m 0 f)))) M:=fun ss=>by
  unfold sj
  by_cases h:(f:Int)<m
  ·rw [decide_eq_true h] at c1
   rw [if_neg (by omega)]
   exact dQ c1 rfl
  ·rw [decide_eq_false h] at c1
   rw [if_pos (by omega)]
   exact cD c1
 have er:=Jc (k:=k) (M:=M) (rows:=.lst (ig.map Rw.d)) (fuel:=.int f) (most:=f) (kn:=[.int m]) (o:=0) (.inl rfl) (.inr rfl) (by decide) vl1 (uu m 0 (by omega) (by omega)) (by omega) (by unfold sj;split <;> rfl)
 exact bV fn30 rfl ((av e1).trans ((av e2).trans ((av rfl).trans ((av rfl).trans ((av rfl).trans ((av rfl).trans ((e5 _).trans (oW rfl rfl rfl er rfl)))))))) (aA rfl rfl)
end
end bK
end
section
namespace bK
open Fg PySem
section
variable {M:MH} {k:Nat} {n:Int}
theorem Mi:∀ v∈([]:List D),Vl v:=fun v hv=>by cases hv
noncomputable def rEm (a b:Nat):List Rw:=((List.range a).map fun (i:Nat)=>Rw.num i)++[.nil,.look (b == 1),.back]
theorem zR:∀ a:Fin 4,∀ b:Fin 2,outI 0 (go (rEm a b) 200 10 (ms1 0 [] 0))=some (.inr 6):=by decide +kernel
theorem zQ:(aa ak (k+9)).call 28 [.int n] M=.ok (.bl true) M:=by
 obtain ⟨a,ha,la⟩:=bF (a:=n) (b:=4) (by decide)
 obtain ⟨b,hb,lb⟩:=bF (a:=n / 4) (b:=2) (by decide)
 let Φ:=aa ak (k+8)
 let σ:Sg:=[some (.int n),none]
 have h1:ev Φ (.op .mod true (.v 0) (.k (.int 4))) σ M=.ok (.int a) M:=(e_m rfl (by decide)).trans (by rw [ha])
 have h2:ev Φ (.op .mod true (.op .fdiv true (.v 0) (.k (.int 4))) (.k (.int 2))) σ M=.ok (.int b) M:=(qd rfl (by decide) (by decide) (by decide)).trans (by rw [hb])
 have h3:ev Φ (.comp true [] [0] (.tup (.cons (.k (.str (w "number"))) (.cons (.v 0) .nil))) (.iO (.op .mod true (.v 0) (.k (.int 4)))) .none) σ M=.ok (.lst (((List.range a).map fun (i:Nat)=>Rw.num i).map Rw.d)) M:=by
  rw [nM,uz,h1]
  rcases (show a=0\/a=1\/a=2\/a=3 by omega) with rfl | rfl | rfl | rfl <;> rfl
 have h4:ev Φ (.lst true (.cons (.tup (.cons (.k (.str (w "nil"))) .nil)) (.cons (.idx (.lst true (.cons (.tup (.cons (.k (.str (w "head"))) .nil)) (.cons (.tup (.cons (.k (.str (w "tail"))) .nil)) .nil))) (.op .mod true (.op .fdiv true (.v 0) (.k (.int 4))) (.k (.int 2)))) (.cons (.tup (.cons (.k (.str (w "back"))) .nil)) .nil)))) σ M=.ok (.lst ([.nil, .look (b == 1), .back].map Rw.d)) M:=by
  have q:ev Φ (.idx (.lst true (.cons (.tup (.cons (.k (.str (w "head"))) .nil)) (.cons (.tup (.cons (.k (.str (w "tail"))) .nil)) .nil))) (.op .mod true (.op .fdiv true (.v 0) (.k (.int 4))) (.k (.int 2)))) σ M=.ok (Rw.look (b == 1)).d M:=mh rfl h2 (by rcases (show b=0\/b=1 by omega) with rfl | rfl <;> rfl)
  rw [dI,au,gQ]
  show (((R.ok (D.tup [.str (w "nil")]) M).bind fun x M1=>(bX Φ _ σ M1).bind fun xs M2=>.ok (x::xs) M2)).bind _=_
  rw [R.af,au,q];rfl
 have er:=Jc (k:=k) (M:=M) (rows:=.lst ((rEm a b).map Rw.d)) (fuel:=.ao) (most:=200) (kn:=[]) (.inl rfl) (.inl ⟨rfl,rfl⟩) (by decide) Mi (zR ⟨a,by omega⟩ ⟨b,by omega⟩) (by decide) rfl
 have e1:ev Φ (.op .add true (.comp true [] [0] (.tup (.cons (.k (.str (w "number"))) (.cons (.v 0) .nil))) (.iO (.op .mod true (.v 0) (.k (.int 4)))) .none) (.lst true (.cons (.tup (.cons (.k (.str (w "nil"))) .nil)) (.cons (.idx (.lst true (.cons (.tup (.cons (.k (.str (w "head"))) .nil)) (.cons (.tup (.cons (.k (.str (w "tail"))) .nil)) .nil))) (.op .mod true (.op .fdiv true (.v 0) (.k (.int 4))) (.k (.int 2)))) (.cons (.tup (.cons (.k (.str (w "back"))) .nil)) .nil))))) σ M=.ok (.lst ((rEm a b).map Rw.d)) M:=by
  rw [gB,h3,R.af,h4,R.af]
  rcases (show a=0\/a=1\/a=2\/a=3 by omega) with rfl | rfl | rfl | rfl <;> rfl
 exact bV fn28 rfl ((av e1).trans (oW rfl rfl rfl er rfl)) (aA rfl rfl)
noncomputable def pF:Nat->List Rw
 | 0=>[.num (EO-1),.num 1,.rk .plus]
 | 1=>[.nil,.look false]
 | _=>[.call 0 0 []]
noncomputable def rF (a b:Nat):List Rw:=pF a++[.drop]++pF b++[.back]
theorem zz:∀ a:Fin 3,∀ c:Fin 2,outI 0 (go (rF a ((a+1+c) % 3)) 0 20 (ms1 0 [] 0))=some (.inr (5+a)):=by decide +kernel
theorem zy:(aa ak (k+9)).call 31 [.int n] M=.ok (.bl true) M:=by
 obtain ⟨a,ha,la⟩:=bF (a:=n) (b:=3) (by decide)
 obtain ⟨c,hc,lc⟩:=bF (a:=n / 3) (b:=2) (by decide)
 let Φ:=aa ak (k+8)
 let σ:List (Option D)->Sg:=fun r=>some (.int n)::r
 let l0:D:=.lst ((pF 0).map Rw.d)
 let l1:D:=.lst ((pF 1).map Rw.d)
 let l2:D:=.lst ((pF 2).map Rw.d)
 let ws:D:=.lst [.str (w "great"), .str (w "empty"), .str (w "long")]
 have e1:ev Φ (.lst true (.cons (.tup (.cons (.k (.str (w "number"))) (.cons (.op .sub true (.op .pow true (.k (.int 10)) (.k (.int 60))) (.k (.int 1))) .nil))) (.cons (.tup (.cons (.k (.str (w "number"))) (.cons (.k (.int 1)) .nil))) (.cons (.tup (.cons (.k (.str (w "plus"))) .nil)) .nil)))) (σ [none, none, none, none, none, none, none]) M=.ok l0 M:=by
  rw [dI,au,gQ,kZ rfl (gC uF rfl)];rfl
 have e6:ev Φ (.op .mod true (.v 0) (.k (.int 3))) (σ [some l0,some l1,some l2,some (.lst [l0,l1,l2]),some ws,none,none]) M=.ok (.int a) M:=(e_m rfl (by decide)).trans (by rw [ha])
 have e7:ev Φ (.op .mod true (.op .add true (.op .add true (.v 6) (.k (.int 1))) (.op .mod true (.op .fdiv true (.v 0) (.k (.int 3))) (.k (.int 2)))) (.k (.int 3))) (σ [some l0,some l1,some l2,some (.lst [l0,l1,l2]),some ws,some (.int a),none]) M=.ok (.int (((a+1+c) % 3:Nat):Int)) M :=
  (zT (d9 (d9 rfl rfl) ((qd rfl (by decide) (by decide) (by decide)).trans (by rw [hc]))) rfl (by decide)).trans rfl
 have er:=Jc (k:=k) (M:=M) (rows:=.lst ((rF a ((a+1+c) % 3)).map Rw.d)) (fuel:=.int 0) (most:=0) (kn:=[]) (.inl rfl) (.inr rfl) (by decide) Mi (zz ⟨a,by omega⟩ ⟨c,by omega⟩) (by decide) (by rcases (show a=0\/a=1\/a=2 by omega) with rfl | rfl | rfl <;> rfl)
 refine bV fn31 rfl ((av e1).trans ((av rfl).trans ((av rfl).trans ((av rfl).trans ((av rfl).trans ((av e6).trans ((av e7).trans (oW ?_ rfl rfl er ?_)))))))) (aA rfl rfl)
 ·rcases (show a=0\/a=1\/a=2 by omega) with rfl | rfl | rfl <;> rcases (show c=0\/c=1 by omega) with rfl | rfl <;> rfl
 ·rcases (show a=0\/a=1\/a=2 by omega) with rfl | rfl | rfl <;> rfl
end
end bK
end
section
namespace bK
open Fg PySem
theorem fn25:ak.fn 25=some lY:=rfl
theorem fn27:ak.fn 27=some jk:=rfl
section
variable {M:MH} {k:Nat} {n:Int}
theorem KU:∀ a:Fin 2,∀ r:Fin 3,∀ c:Fin 5,mid (1-2*(a.val:Int))=true/\mid (EO-1-(r.val:Int))=true/\mid ((c.val:Int)-1)=true/\mid ((1-2*(a.val:Int))*(EO-1-(r.val:Int)))=true/\mid ((1-2*(a.val:Int))*((c.val:Int)-1))=true/\mid (0-(1-2*(a.val:Int))*((c.val:Int)-1))=true:=by decide +kernel
noncomputable def rS (o:Rk) (x y:Int):List Rw:=[.num x,.num y,.rk o,.back]
theorem E6 {o:Rk} {x y:Int} (hx:mid x=true) (hy:mid y=true):outI 1 (go (rS o x y) 200 10 (ms1 1 [] 0))=some (if kY o x y=true then .inr 5 else .inl (j6 o x y)):=by
 cases h:kY o x y <;> simp [go,ms1,opens,rS,BU,dD,rA,jA,fits,lim,bH,bZ,gy,nj,outI,hx,hy,h]
theorem zV {Φ:aL} {σ:Sg} {ea eb ec ej:E} {x y z d:D} {j:Int} (ha:ev Φ ea σ M=.ok x M) (hb:ev Φ eb σ M=.ok y M) (hc:ev Φ ec σ M=.ok z M) (hj:ev Φ ej σ M=.ok (.int j) M) (hd:b5 [x,y,z] j=some d):ev Φ (.idx (.lst true (.cons ea (.cons eb (.cons ec .nil)))) ej) σ M=.ok d M:=by
 refine mh (xs:=[x,y,z]) ?_ hj hd
 rw [dI,au,ha,R.af,au,hb,R.af,au,hc];rfl
theorem E5:∃ (o:Rk) (x y:Int),(aa ak (k+1)).call 25 [.int n] M=.ok (.tup [.lst ((rS o x y).map Rw.d),.bl (kY o x y),.int (j6 o x y)]) M/\mid x=true/\mid y=true:=by
 obtain ⟨a,ha,la⟩:=bF (a:=n / 15) (b:=2) (by decide)
 obtain ⟨r,hr,lr⟩:=bF (a:=n) (b:=3) (by decide)
 obtain ⟨c,hc,lc⟩:=bF (a:=n / 3) (b:=5) (by decide)
 obtain ⟨j,hj,lj⟩:=bF (a:=n / 30) (b:=3) (by decide)
 obtain ⟨m1,m2,m3,m4,m5,m6⟩:=KU ⟨a,by omega⟩ ⟨r,by omega⟩ ⟨c,by omega⟩
 let Φ:=aa ak k
 let s:Int:=1-2*(a:Int)
 let x:Int:=s*(EO-1-(r:Int))
 let mo:Int:=(c:Int)-1
 let σ:List (Option D)->Sg:=fun q=>some (.int n)::q
 have e1:ev Φ (.op .sub true (.k (.int 1)) (.op .mul true (.k (.int 2)) (.op .mod true (.op .fdiv true (.v 0) (.k (.int 15))) (.k (.int 2))))) (σ [none,none,none,none,none,none]) M=.ok (.int s) M:=by
  refine gC rfl ?_
  rw [gB,r9,R.af,qd (i:=0) (n:=n) rfl (by decide) (by decide) (by decide),R.af,ha]
  rfl
 have e2:ev Φ (.op .mul true (.v 1) (.op .sub true (.op .sub true (.op .pow true (.k (.int 10)) (.k (.int 60))) (.k (.int 1))) (.op .mod true (.v 0) (.k (.int 3))))) (σ [some (.int s),none,none,none,none,none]) M=.ok (.int x) M :=
  uB rfl (gC (gC uF rfl) ((e_m rfl (by decide)).trans (by rw [hr]))) m1 m2
 have e3:ev Φ (.op .sub true (.op .mod true (.op .fdiv true (.v 0) (.k (.int 3))) (.k (.int 5))) (.k (.int 1))) (σ [some (.int s),some (.int x),none,none,none,none]) M=.ok (.int mo) M:=gC ((qd rfl (by decide) (by decide) (by decide)).trans (by rw [hc])) rfl
 have hJ:∀ q,ev Φ (.op .mod true (.op .fdiv true (.v 0) (.k (.int 30))) (.k (.int 3))) (σ q) M=.ok (.int j) M:=fun q=>(qd rfl (by decide) (by decide) (by decide)).trans (by rw [hj])
 have h5:∀ q,ev Φ (.op .mul true (.v 1) (.v 3)) (σ (some (.int s)::some (.int x)::some (.int mo)::q)) M=.ok (.int (s*mo)) M:=fun q=>uB rfl rfl m1 m3
 have fin:∀ (o:Rk) (y:Int), b5 [D.str (w "plus"), .str (w "minus"), .str (w "times")] (j:Int)=some (.str (dO o))->b5 [D.int (s*mo), .int (0-s*mo), .int mo] (j:Int)=some (.int y)->b5 [D.int (x+y), .int (x-y), .int (x*y)] (j:Int)=some (.int (j6 o x y))->za o=false->mid y=true ->
   (aa ak (k+1)).call 25 [.int n] M=.ok (.tup [.lst ((rS o x y).map Rw.d),.bl (kY o x y),.int (j6 o x y)]) M:=fun o y q1 q2 q3 q4 hy=>by
  have hg:kY o x y=great (j6 o x y):=by simp [kY,q4]
  have e7:ev Φ (.cmp .ge (.pV .abs (.v 6)) (.op .pow true (.k (.int 10)) (.k (.int 60)))) (σ [some (.int s),some (.int x),some (.int mo),some (.str (dO o)),some (.int y),some (.int (j6 o x y))]) M=.ok (.bl (great (j6 o x y))) M:=LJ (EE rfl) uF rfl
  rw [hg]
  refine bV fn25 rfl ((av e1).trans ((av e2).trans ((av e3).trans ((av (zV rfl rfl rfl (hJ _) q1)).trans ((av (zV (h5 _) (gC rfl (h5 _)) rfl (hJ _) q2)).trans ((av (zV (d9 rfl rfl) (gC rfl rfl) (uB rfl rfl m4 hy) (hJ _) q3)).trans (eX ?_))))))) (aA rfl rfl)
  rw [gQ,au,dI]
  show ((R.ok (D.lst ((rS o x y).map Rw.d)) M).bind fun u M1=>(bX Φ _ _ M1).bind fun us M2=>.ok (u::us) M2).bind _=_
  refine (congrArg (fun r:R (List D)=>(r.bind fun us M2=>R.ok (D.lst ((rS o x y).map Rw.d)::us) M2).bind fun ds M1=>R.ok (D.tup ds) M1) (kZ e7 (e_v (i:=6) rfl))).trans rfl
 rcases (show j=0\/j=1\/j=2 by omega) with rfl | rfl | rfl
 ·exact ⟨.plus,x,s*mo,fin _ _ rfl rfl rfl rfl m5,m4,m5⟩
 ·exact ⟨.minus,x,0-s*mo,fin _ _ rfl rfl rfl rfl m6,m4,m6⟩
 ·exact ⟨.times,x,mo,fin _ _ rfl rfl rfl rfl m3,m4,m3⟩
noncomputable def rP (m:Nat):List Rw:=.nil::((List.range m).flatMap fun (i:Nat)=>[.keep,.loc i,.loc i,.lay false 0])++[.keep,.num 6,.back]
theorem yd:∀ a:Fin 4,outI 1 (go (rP (7+a)) 200 100 (ms1 1 [] 0))=some (if 8<7+a.val then .inr 5 else .inl 6):=by decide +kernel
theorem yc:∃ a:Fin 4,(aa ak (k+1)).call 27 [.int n] M=.ok (.tup [.lst ((rP (7+a)).map Rw.d),.bl (decide (8<7+a.val)),.int 6]) M:=by
 obtain ⟨a,ha,la⟩:=bF (a:=n) (b:=4) (by decide)
 refine ⟨⟨a,by omega⟩,?_⟩
 have e1:ev (aa ak k) (.op .add true (.k (.int 7)) (.op .mod true (.v 0) (.k (.int 4)))) [some (.int n),none,none,none,none] M=.ok (.int (7+(a:Int))) M:=d9 rfl ((e_m rfl (by decide)).trans (by rw [ha]))
 rcases (show a=0\/a=1\/a=2\/a=3 by omega) with rfl | rfl | rfl | rfl <;> (refine bV fn27 rfl (M':=M) ((av e1).trans ?_) (aA rfl rfl);kernel_rfl)
end
end bK
end
section
namespace bK
open Fg PySem
noncomputable def rC (i:Nat):List Rw:=[.keep,.num i,.loc i,.lay true 0]
noncomputable def pL (m:Nat):List Rw:=(List.range m).flatMap rC
noncomputable def rL (m:Nat):List Rw:=.nil::(pL m++[.none,.back])
theorem tW {m:Nat}:pL (m+1)=pL m++rC m:=by simp [pL,List.range_succ]
theorem fQ:∀ m:Nat,(pL m).length=4*m
 | 0=>rfl
 | m+1=>by rw [tW,List.length_append,fQ m];simp [rC];omega
theorem D0 {i:Nat} (hi:i<4):∀ {m j:Nat},j<m->(pL m)[4*j+i]? = (rC j)[i]?
 | 0,j,h=>by omega
 | m+1,j,h=>by
  rw [tW]
  by_cases hj:j<m
  ·rw [List.getElem?_append_left (by rw [fQ];omega),D0 hi hj]
  ·have:j=m:=by omega
   subst this
   rw [List.getElem?_append_right (by rw [fQ];omega),fQ,Nat.add_sub_cancel_left]
theorem tN {m j i:Nat} (hi:i<4) (hj:j<m):(rL m)[4*j+i+1]? = (rC j)[i]?:=by
 rw [rL,List.getElem?_cons_succ,List.getElem?_append_left (by rw [fQ];omega),D0 hi hj]
theorem xM {m i:Nat}:(rL m)[4*m+i+1]? = ([.none,.back]:List Rw)[i]?:=by
 rw [rL,List.getElem?_cons_succ,List.getElem?_append_right (by rw [fQ];omega),fQ,Nat.add_sub_cancel_left]
theorem kG {rs:List Rw} {most:Int} {N P:Nat} {s:Ms} {f:Fm} {fs:List Fm} {r:Rw} (hs:s.frs=f::fs) (hp:s.pl=.int (P:Int)) (hr:rs[P]? = some r):go rs most (N+1) s=bH (rA most r { s with pl:=.int ((P+1:Nat):Int) }) (go rs most N):=by
 simp [go,hs,hp,BU,dD,hr]
noncomputable def stC (c:D) (kn log:List D) (b:Int) (P:Nat):Ms:=⟨[c],[⟨kn,[0],.ao⟩],[true],log,b,.int (P:Int)⟩
theorem Lg {m j N:Nat} {most b:Int} {c:D} {kn log:List D} (hj:j<m) (hm:m<1000) (hk:kn.length=j) (hc:cH c=1+2*j) (hl:log.length=j+1):go (rL m) most (N+4) (stC c kn log b (4*j+1)) =
  if 499<=j then .exc 5 else go (rL m) most N (stC (.tup [.str (w "cons"), .int (3+2*j), .int j, c, .int 0]) (kn++[c]) (log++[.tup [.str (w "lay"), .int 0]]) b (4*(j+1)+1)):=by
 have r0:=tN (m:=m) (j:=j) (i:=0) (by decide) hj
 have r1:=tN (m:=m) (j:=j) (i:=1) (by decide) hj
 have r2:=tN (m:=m) (j:=j) (i:=2) (by decide) hj
 have r3:=tN (m:=m) (j:=j) (i:=3) (by decide) hj
 have hx:(kn++[c])[j]? = some c:=by rw [<- hk];simp
 have L:lim=900000:=rfl
 have s1:cH (.int (j:Int))=1:=rfl
 unfold stC
 rw [kG (P:=4*j+0+1) rfl rfl r0]
 simp only [rA,fits,jA,bZ,gy,dD,bH,List.getLast?_singleton,List.dropLast_singleton,List.length_cons,List.length_nil,hk,hl,L]
 rw [if_pos (by omega)]
 simp only [bH]
 rw [kG (P:=4*j+1+1) rfl rfl r1]
 simp only [rA,fits,jA,bH,List.nil_append,List.length_append,List.length_cons,List.length_nil,hk,hl,L]
 rw [if_pos (by omega)]
 simp only [bH]
 rw [kG (P:=4*j+2+1) rfl rfl r2]
 simp only [rA,fits,jA,bH,dD,hx,List.length_append,List.length_cons,List.length_nil,hk,hl,L]
 rw [if_pos (by omega)]
 simp only [bH]
 rw [kG (P:=4*j+3+1) rfl rfl r3]
 simp only [rA,fits,jA,bH,bZ,gy,dD,List.cons_append,List.nil_append,List.getLast?_cons_cons,List.getLast?_singleton,List.dropLast_cons₂,List.dropLast_singleton,List.getElem?_cons_zero,List.length_append,List.length_cons,List.length_nil,hk,hl,L,hc,s1]
 rw [if_pos (by omega)]
 by_cases h:499<=j
 ·rw [if_pos h,if_pos (by omega)]
 ·rw [if_neg h,if_neg (by omega),if_pos True.intro]
  have e1:(1:Int)+1+(1+2*(j:Int))=3+2*j:=by omega
  have e2:4*j+3+1+1=4*(j+1)+1:=by omega
  rw [e1,e2];rfl
noncomputable def cC:Nat->D
 | 0=>.ao
 | j+1=>.tup [.str (w "cons"), .int (3+2*j), .int j, cC j, .int 0]
theorem EK:∀ j:Nat,cH (cC j)=1+2*j
 | 0=>rfl
 | j+1=>by show (3+2*(j:Int))=_;omega
noncomputable def kC:Nat->List D
 | 0=>[]
 | j+1=>kC j++[cC j]
noncomputable def lC:Nat->List D
 | 0=>opens 1
 | j+1=>lC j++[.tup [.str (w "lay"), .int 0]]
theorem kD:∀ j:Nat,(kC j).length=j
 | 0=>rfl
 | j+1=>by rw [kC,List.length_append,kD j];rfl
theorem iX:∀ j:Nat,(lC j).length=j+1
 | 0=>rfl
 | j+1=>by rw [lC,List.length_append,iX j];rfl
theorem zm {m:Nat} {most b:Int} {N:Nat} (hm:m<1000):∀ (i j:Nat),i+j<=m->i+j<=499->go (rL m) most (N+4*i) (stC (cC j) (kC j) (lC j) b (4*j+1))=go (rL m) most N (stC (cC (i+j)) (kC (i+j)) (lC (i+j)) b (4*(i+j)+1))
 | 0,j,_,_=>by rw [Nat.zero_add];rfl
 | i+1,j,h1,h2=>by
  rw [show N+4*(i+1)=(N+4*i)+4 by omega,Lg (by omega) hm (kD j) (EK j) (iX j),if_neg (by omega)]
  rw [show i+1+j=i+(j+1) by omega]
  exact zm hm i (j+1) (by omega) (by omega)
theorem CJ {m:Nat} (hm:m<1000) (h0:0<m):outI 1 (go (rL m) 0 4100 (ms1 1 [] 0))=some (if 499<m then .inr 5 else .inl 0):=by
 have e0:∀ N,go (rL m) 0 (N+1) (ms1 1 [] 0)=go (rL m) 0 N (stC (cC 0) (kC 0) (lC 0) 0 (4*0+1)):=fun N=>by
  rw [kG (P:=0) (r:=.nil) rfl rfl rfl]
  simp [ms1,rA,fits,jA,bH,lim,opens,stC,cC,kC,lC]
 have L:lim=900000:=rfl
 by_cases h:499<m
 ·rw [if_pos h,show 4100=(2099+4+4*499)+1 by rfl,e0,zm hm 499 0 (by omega) (by omega),show 2099+4=2099+4 from rfl]
  rw [Lg (j:=499+0) (by omega) hm (kD _) (EK _) (iX _),if_pos (by omega)]
  rfl
 ·rw [if_neg h,show 4100=((4096-4*m)+3+4*m)+1 by omega,e0,zm hm m 0 (by omega) (by omega),show m+0=m from rfl]
  obtain ⟨c,hc⟩:∃ d ds,cC m=.tup (d::ds):=by
   obtain ⟨j,rfl⟩:∃ j,m=j+1:=⟨m-1,by omega⟩
   exact ⟨_,_,rfl⟩
  obtain ⟨ds,hc⟩:=hc
  have r0:=xM (m:=m) (i:=0)
  have r1:=xM (m:=m) (i:=1)
  unfold stC
  rw [hc,show 4096-4*m+3=(4096-4*m)+1+1+1 by rfl,kG (P:=4*m+0+1) rfl rfl r0]
  simp only [rA,fits,jA,bZ,gy,dD,bH,List.getLast?_singleton,List.dropLast_singleton,List.length_cons,List.length_nil,kD,iX,L]
  rw [if_pos (by omega)]
  simp only [bH]
  rw [kG (P:=4*m+1+1) rfl rfl r1]
  simp only [rA,fits,jA,bH,List.nil_append,List.length_cons,List.length_nil,kD,iX,L]
  rw [if_pos (by omega)]
  simp only [bH,go,outI,List.isEmpty_nil,cond_true,List.getLast?_singleton,bS,List.length_cons,List.length_nil,iX,L]
  rw [if_pos (by omega)]
  rfl
end bK
end
section
namespace bK
open Fg PySem
theorem fn26:ak.fn 26=some kM:=rfl
section
variable {Φ:aL} {k:Nat} {n:Int} {a b:Option D}
noncomputable def bL:Ss:=.cons (.ex (.bh .append true (.v 2) (.cons (.tup (.cons (.k (.str (w "keep"))) .nil)) .nil))) (.cons (.ex (.bh .append true (.v 2) (.cons (.tup (.cons (.k (.str (w "number"))) (.cons (.v 3) .nil))) .nil))) (.cons (.ex (.bh .append true (.v 2) (.cons (.tup (.cons (.k (.str (w "local"))) (.cons (.v 3) .nil))) .nil))) (.cons (.ex (.bh .append true (.v 2) (.cons (.tup (.cons (.k (.str (w "cons"))) (.cons (.k (.int 0)) .nil))) .nil))) .nil)))
theorem GZ {j:Nat} {xs:List D} (h:xs.length+4<line):exs Φ bL [a,b,some (.ref 0),some (.int (j:Int))] [.lst xs]=.ok (.nx [a,b,some (.ref 0),some (.int (j:Int))]) [.lst (xs++(rC j).map Rw.d)]:=by
 have q:∀ {e:E} {d:D} {ys:List D},ev Φ e [a,b,some (.ref 0),some (.int (j:Int))] [.lst ys]=.ok d [.lst ys]->ys.length<line->ev Φ (.bh .append true (.v 2) (.cons e .nil)) [a,b,some (.ref 0),some (.int (j:Int))] [.lst ys]=.ok .ao [.lst (ys++[d])]:=fun he hl=>qe (n:=0) rfl rfl he rfl hl
 refine ((cg (q rfl (by omega))).trans ((cg (q rfl (by simp;omega))).trans ((cg (q rfl (by simp;omega))).trans ((cg (q rfl (by simp;omega))).trans ?_))))
 show R.ok (Out.nx _) [MO.lst _]=_
 simp [rC,Rw.d,layW]
theorem yJ {ch:MH->Bool} (hc:∀ M,ch M=true):∀ (l:List Nat) (xs:List D) (o:Option D),xs.length+4*l.length<line ->
  ∃ o',bC (exs Φ bL) [3] ch (l.map fun (j:Nat)=>D.int j) [a,b,some (.ref 0),o] [.lst xs]=.ok (.nx [a,b,some (.ref 0),o']) [.lst (xs++(l.flatMap rC).map Rw.d)]
 | [],xs,o,_=>⟨o,by simp [bC]⟩
 | j::l,xs,o,h=>by
  simp only [List.length_cons] at h
  obtain ⟨o',e⟩:=yJ hc l (xs++(rC j).map Rw.d) (some (.int j)) (by simp [rC];omega)
  refine ⟨o',?_⟩
  rw [List.map_cons,bC]
  show (exs Φ bL [a,b,some (.ref 0),some (.int (j:Int))] [.lst xs]).bind _=_
  rw [GZ (by omega),R.af]
  show (if ch _=true then _ else _)=_
  rw [if_pos (hc _),e]
  simp [List.flatMap_cons]
theorem Cs:∃ (m:Nat) (X:List D),m<1000/\0<m/\(aa ak (k+1)).call 26 [.int n] []=.ok (.tup [.ref 1,.bl (decide (499<m)),.int 0]) [.lst X,.lst ((rL m).map Rw.d)]:=by
 obtain ⟨r,hr,lr⟩:=bF (a:=n) (b:=9) (by decide)
 let m:=495+r
 refine ⟨m,((.nil::pL m:List Rw).map Rw.d),by omega,by omega,?_⟩
 let Φ:=aa ak k
 have e1:ev Φ (.op .add true (.k (.int 495)) (.op .mod true (.v 0) (.k (.int 9)))) [some (.int n),none,none,none] []=.ok (.int (495+(r:Int))) []:=d9 rfl ((e_m rfl (by decide)).trans (by rw [hr]))
 have e2:ev Φ (.lst false (.cons (.tup (.cons (.k (.str (w "nil"))) .nil)) .nil)) [some (.int n), some (.int (m:Int)), none, none] []=.ok (.ref 0) [.lst [Rw.nil.d]]:=rfl
 have L:line=1000000:=rfl
 have hR:eG 0 (m:Int)=(List.range m).map fun (j:Nat)=>D.int j:=by simp [eG]
 obtain ⟨o',e3⟩:=yJ (Φ:=Φ) (a:=some (.int n)) (b:=some (.int (m:Int))) (ch:=aN [.lst [Rw.nil.d]] .ao) (fun _=>rfl) (List.range m) [Rw.nil.d] none (by simp;omega)
 rw [<- hR] at e3
 have e4:∀ ss,exs Φ (.cons (.for [3] (.iO (.v 1)) bL) ss) [some (.int n),some (.int (m:Int)),some (.ref 0),none] [.lst [Rw.nil.d]]=exs Φ ss [some (.int n),some (.int (m:Int)),some (.ref 0),o'] [.lst ((.nil::pL m:List Rw).map Rw.d)]:=fun ss=>xC (zS rfl (by omega)) e3
 have e5:ev Φ (.op .add false (.v 2) (.lst true (.cons (.tup (.cons (.k (.str (w "none"))) .nil)) (.cons (.tup (.cons (.k (.str (w "back"))) .nil)) .nil)))) [some (.int n), some (.int (m:Int)), some (.ref 0), o'] [.lst ((.nil::pL m:List Rw).map Rw.d)]=.ok (.ref 1) [.lst ((.nil::pL m:List Rw).map Rw.d), .lst ((rL m).map Rw.d)]:=by
  show (if decide (((.nil::pL m:List Rw).map Rw.d).length+([Rw.none,Rw.back].map Rw.d).length<=line)=true then b7 false (((.nil::pL m:List Rw).map Rw.d)++([Rw.none,Rw.back].map Rw.d)) [.lst ((.nil::pL m:List Rw).map Rw.d)] else .bad)=_
  rw [if_pos (by simp [fQ];omega),<- List.map_append];rfl
 have e6:ev Φ (.cmp .gt (.op .add true (.k (.int 1)) (.op .mul true (.k (.int 2)) (.v 1))) (.k (.int 1000))) [some (.int n),some (.int (m:Int)),some (.ref 1),o'] [.lst ((.nil::pL m:List Rw).map Rw.d),.lst ((rL m).map Rw.d)]=.ok (.bl (decide (499<m))) [.lst ((.nil::pL m:List Rw).map Rw.d),.lst ((rL m).map Rw.d)]:=by
  refine CZ (a:=1+2*(m:Int)) (d9 rfl ?_) rfl (by congr 1;simp;omega)
  rw [gB];rfl
 have nn:¬ nr ([]:MH).length (.tup [.ref 1,.bl (decide (499<m)),.int 0])=true:=by simp [nr,qZ]
 refine bV fn26 rfl ((av e1).trans ((av e2).trans ((e4 _).trans ((av e5).trans (eX ?_))))) ((if_pos ⟨rfl,rfl⟩).trans (if_neg nn))
 rw [gQ,au,e_v (i:=2) rfl,R.af]
 exact (congrArg (fun q:R (List D)=>(q.bind fun us M2=>R.ok (D.ref 1::us) M2).bind fun ds M1=>R.ok (D.tup ds) M1) (kZ e6 rfl)).trans rfl
end
end bK
end
section
namespace bK
open Fg PySem
noncomputable def mixed (c:Int):Int:=(c % 2147483647+11)*48271*69621 % 2147483629
section
variable {M:MH} {k:Nat} {n:Int}
theorem uS {c:Int}:(aa ak (k+1)).call 22 [.int c] M=.ok (.int (mixed c)) M:=by
 have e:ev (aa ak k) (.op .mod true (.op .mul true (.op .mul true (.op .add true (.op .mod true (.v 0) (.k (.int 2147483647))) (.k (.int 11))) (.k (.int 48271))) (.k (.int 69621))) (.k (.int 2147483629))) [some (.int c)] M=.ok (.int (mixed c)) M:=by
  simp [tX,gk,small,mixed]
 exact bV fn22 rfl (eX e) (aA rfl rfl)
noncomputable def zG (g:Bool) (v:Int):Int ⊕ Nat:=if g=true then .inr 5 else .inl v
theorem Dw {g:Bool} {v:Int}:uG (zG g v)=true:=by cases g <;> rfl
theorem EA {Φ:aL} {σ:Sg} {g:Bool} {v:Int} {i j:Nat} (hi:σ[i]? = some (some (.int v))) (hj:σ[j]? = some (some (.bl g))):ev Φ (.idx (.lst true (.cons (.tup (.cons (.k (.str (w "told"))) (.cons (.v i) .nil))) (.cons (.tup (.cons (.k (.str (w "great"))) (.cons (.k .ao) .nil))) .nil))) (.pV .int (.v j))) σ M=.ok (gr (zG g v)) M:=by
 have h1:ev Φ (.lst true (.cons (.tup (.cons (.k (.str (w "told"))) (.cons (.v i) .nil))) (.cons (.tup (.cons (.k (.str (w "great"))) (.cons (.k .ao) .nil))) .nil))) σ M=.ok (.lst [.tup [.str (w "told"), .int v], .tup [.str (w "great"), .ao]]) M:=by
  rw [dI,au,gQ,kZ rfl (e_v hi)];rfl
 have h2:ev Φ (.pV .int (.v j)) σ M=.ok (.int (if g then 1 else 0)) M:=by rw [zM,e_v hj];cases g <;> rfl
 exact mh h1 h2 (by cases g <;> rfl)
noncomputable def oB:Ss:=.cons (.set 4 (.idx (.lst true (.cons (.tup (.cons (.k (.str (w "told"))) (.cons (.v 3) .nil))) (.cons (.tup (.cons (.k (.str (w "great"))) (.cons (.k .ao) .nil))) .nil))) (.pV .int (.v 2)))) (.cons (.ifs (.cmp .ne (.call 24 (.cons (.tup (.cons (.v 1) (.cons (.k (.int 0)) (.cons (.k (.int 1)) .nil)))) (.cons (.lst true .nil) (.cons (.k .ao) .nil)))) (.v 4)) (.cons (.ret (.k (.bl false))) .nil) .nil) .nil)
theorem yh {rs:List Rw} {g:Bool} {v:Int} {N:Nat} {o:Option D} (hg:outI 1 (go rs 200 N (ms1 1 [] 0))=some (zG g v)) (hN:N<=100000):exs (aa ak (k+8)) oB [some (.int n),some (.lst (rs.map Rw.d)),some (.bl g),some (.int v),o] M=.ok (.nx [some (.int n),some (.lst (rs.map Rw.d)),some (.bl g),some (.int v),some (gr (zG g v))]) M:=by
 have er:=Jc (k:=k) (M:=M) (rows:=.lst (rs.map Rw.d)) (fuel:=.ao) (most:=200) (kn:=[]) (.inl rfl) (.inl ⟨rfl,rfl⟩) (by decide) Mi hg hN Dw
 refine (av (EA (i:=3) (j:=2) rfl rfl)).trans ((cD ?_).trans rfl)
 rw [dJ]
 show ((aa ak (k+8)).call 24 [.tup [.lst (rs.map Rw.d),.int 0,.int 1],.lst [],.ao] M).bind _=_
 rw [show (1:Int)=((1:Nat):Int) from rfl,er,R.af,e_v (d:=gr (zG g v)) rfl,R.af]
 exact zN.2
theorem zW {Φ:aL} {σ:Sg} {f:Nat} {b:Int} (h:σ[0]? = some (some (.int n))) (hb:0<b) (hs:b.natAbs<1073741824):ev Φ (.call f (.cons (.op .fdiv true (.v 0) (.k (.int b))) .nil)) σ M=Φ.call f [.int (n / b)] M:=cK (ED (e_v h) rfl hb hs)
theorem GG:(aa ak (k+10)).call 32 [.int n] M=.ok (.bl true) M:=by
 let Φ:=aa ak (k+9)
 obtain ⟨o,x,y,h1,hx,hy⟩:=E5 (M:=M) (k:=k+8) (n:=n)
 obtain ⟨a,h2⟩:=yc (M:=M) (k:=k+8) (n:=n / 7)
 have g1:outI 1 (go (rS o x y) 200 10 (ms1 1 [] 0))=some (zG (kY o x y) (j6 o x y)):=E6 hx hy
 have g2:outI 1 (go (rP (7+a)) 200 100 (ms1 1 [] 0))=some (zG (decide (8<7+a.val)) 6):=by
  rw [yd a]
  by_cases h:8<7+a.val
  ·rw [if_pos h,decide_eq_true h];rfl
  ·rw [if_neg h,decide_eq_false h];rfl
 have e1:b3 Φ (.e (.lst true (.cons (.call 25 (.cons (.v 0) .nil)) (.cons (.call 27 (.cons (.op .fdiv true (.v 0) (.k (.int 7))) .nil)) .nil)))) [some (.int n),none,none,none,none] M=.ok (.lst [.tup [.lst ((rS o x y).map Rw.d),.bl (kY o x y),.int (j6 o x y)],.tup [.lst ((rP (7+a)).map Rw.d),.bl (decide (8<7+a.val)),.int 6]],[.tup [.lst ((rS o x y).map Rw.d),.bl (kY o x y),.int (j6 o x y)],.tup [.lst ((rP (7+a)).map Rw.d),.bl (decide (8<7+a.val)),.int 6]],false) M:=by
  rw [zJ,dI,kZ ((cK (e_v rfl)).trans h1) ((zW rfl (by decide) (by decide)).trans h2)];rfl
 have e2:bC (exs Φ oB) [1,2,3] (aN M (.lst [.tup [.lst ((rS o x y).map Rw.d),.bl (kY o x y),.int (j6 o x y)],.tup [.lst ((rP (7+a)).map Rw.d),.bl (decide (8<7+a.val)),.int 6]])) [.tup [.lst ((rS o x y).map Rw.d),.bl (kY o x y),.int (j6 o x y)],.tup [.lst ((rP (7+a)).map Rw.d),.bl (decide (8<7+a.val)),.int 6]] [some (.int n),none,none,none,none] M=.ok (.nx [some (.int n),some (.lst ((rP (7+a)).map Rw.d)),some (.bl (decide (8<7+a.val))),some (.int 6),some (gr (zG (decide (8<7+a.val)) 6))]) M:=by
  rw [bC]
  show (exs Φ oB [some (.int n),some (.lst ((rS o x y).map Rw.d)),some (.bl (kY o x y)),some (.int (j6 o x y)),none] M).bind _=_
  rw [yh (k:=k+1) g1 (by decide),R.af]
  show bC (exs Φ oB) [1,2,3] _ [.tup [.lst ((rP (7+a)).map Rw.d),.bl (decide (8<7+a.val)),.int 6]] _ M=_
  rw [bC]
  show (exs Φ oB [some (.int n),some (.lst ((rP (7+a)).map Rw.d)),some (.bl (decide (8<7+a.val))),some (.int 6),some (gr (zG (kY o x y) (j6 o x y)))] M).bind _=_
  rw [yh (k:=k+1) g2 (by decide),R.af]
  rfl
 let σ:Sg:=[some (.int n),some (.lst ((rP (7+a)).map Rw.d)),some (.bl (decide (8<7+a.val))),some (.int 6),some (gr (zG (decide (8<7+a.val)) 6))]
 have e3:ev Φ (.or (.not (.call 28 (.cons (.op .fdiv true (.v 0) (.k (.int 11))) .nil))) (.not (.call 29 (.cons (.op .fdiv true (.v 0) (.k (.int 13))) .nil)))) σ M=.ok (.bl false) M:=by
  rw [Ly,nK,(zW (n:=n) rfl (by decide) (by decide)).trans (zQ (k:=k)),R.af]
  show ev Φ (.not (.call 29 (.cons (.op .fdiv true (.v 0) (.k (.int 13))) .nil))) σ M=_
  rw [nK,(zW (n:=n) rfl (by decide) (by decide)).trans (vH (k:=k)),R.af];rfl
 have e4:ev Φ (.and (.call 30 (.cons (.op .fdiv true (.v 0) (.k (.int 17))) .nil)) (.call 31 (.cons (.op .fdiv true (.v 0) (.k (.int 19))) .nil))) σ M=.ok (.bl true) M :=
  zY ((zW (n:=n) rfl (by decide) (by decide)).trans (vK (k:=k))) ((zW (n:=n) rfl (by decide) (by decide)).trans (zy (k:=k)))
 exact bV fn32 rfl ((xC e1 e2).trans ((cD e3).trans (eX e4))) (aA rfl rfl)
end
end bK
end
section
namespace bK
open Fg PySem
noncomputable def di (ns:List Int):List D:=ns.map .int
noncomputable def fB:Ss:=.cons (.ifs (.not (.call 32 (.cons (.v 2) .nil))) (.cons (.ret (.k (.bl false))) .nil) .nil) .nil
theorem zD {k:Nat} {M:MH} {ch:MH->Bool} {a b c d e:Option D} (hc:∀ M,ch M=true):∀ (ns:List Int) (o:Option D),∃ o',bC (exs (aa ak (k+10)) fB) [2] ch (di ns) [a,b,o,c,d,e] M=.ok (.nx [a,b,o',c,d,e]) M
 | [],o=>⟨o,rfl⟩
 | n::ns,o=>by
  obtain ⟨o',h⟩:=zD hc ns (some (.int n))
  refine ⟨o',?_⟩
  have e1:ev (aa ak (k+10)) (.not (.call 32 (.cons (.v 2) .nil))) [a,b,some (.int n),c,d,e] M=.ok (.bl false) M:=by
   rw [nK,(cK (e_v rfl)).trans (GG (k:=k) (n:=n))];rfl
  rw [di,List.map_cons,bC]
  show (exs (aa ak (k+10)) fB [a,b,some (.int n),c,d,e] M).bind _=_
  rw [fB,cD e1]
  show (if ch M=true then _ else _)=_
  rw [if_pos (hc M)]
  exact h
theorem yH (x:Int) (l:List Int):∃ z,b5 (di (x::l)) (-1)=some (.int z):=by
 have h2:wI (di (x::l)).length (-1)=some l.length:=by
  simp only [di,List.length_map,List.length_cons,wI]
  rw [if_neg (by omega),if_pos (by omega)]
  congr 1;omega
 rw [b5,h2]
 refine ⟨(x::l)[l.length]'(by simp),?_⟩
 show (di (x::l))[l.length]? = _
 rw [di,List.getElem?_map,List.getElem?_eq_getElem (by simp)];rfl
theorem yF (ns:List Int) (hn:ns.length<=63) {k:Nat}:∃ M',(aa ak (k+11)).call 33 [.lst (ns.map .int)] []=.ok (.bl true) M':=by
 let Φ:=aa ak (k+10)
 let L:=kP ns none (some 10)
 let xs:List Int:=mixed 0::L.map mixed
 have hL:L.length<=63:=by
  have:L.length<=ns.length:=by
   show ((ns.drop _).take _).length<=_
   rw [List.length_take,List.length_drop];omega
  omega
 have e0:b3 Φ (.e (.sl true (.v 0) .none (.some (.k (.int 10))))) [some (.lst (di ns)),none,none,none,none,none] []=.ok (.lst (di L),di L,false) []:=by
  have e1:ev Φ (.sl true (.v 0) .none (.some (.k (.int 10)))) [some (.lst (di ns)),none,none,none,none,none] []=.ok (.lst (di L)) []:=by
   show R.ok (D.lst (kP (di ns) none (some 10))) []=_
   congr 2
   simp only [L,kP,di,List.length_map,List.map_take,List.map_drop]
  rw [zJ,e1];rfl
 have e2:ev Φ (.comp true [] [0] (.call 22 (.cons (.v 0) .nil)) (.e (.sl true (.v 0) .none (.some (.k (.int 10))))) .none) [some (.lst (di ns)),none,none,none,none,none] []=.ok (.lst (di (L.map mixed))) []:=by
  refine uE e0 ?_
  have q:=ko (cond:=oh Φ .none) (elt:=ev Φ (.call 22 (.cons (.v 0) .nil))) (i:=0) (fK:=aN [] (.lst (di L))) (M:=[]) (f:=fun d=>match d with | .int i=>.int (mixed i) | d=>d) (p:=fun _=>true) rfl (di L) [] [none] (fun d hd=>⟨rfl,fun _=>by
   obtain ⟨i,_,rfl⟩:=List.mem_map.mp hd
   exact (cK (e_v rfl)).trans (uS (k:=k+9))⟩) (by simp only [di,List.length_map,List.length_nil];have:line=1000000:=rfl;omega)
  refine q.trans ?_
  rw [List.nil_append,List.filter_eq_self.mpr (fun _ _=>rfl),di,List.map_map,di,List.map_map];rfl
 have e3:ev Φ (.op .add true (.lst true (.cons (.call 22 (.cons (.k (.int 0)) .nil)) .nil)) (.comp true [] [0] (.call 22 (.cons (.v 0) .nil)) (.e (.sl true (.v 0) .none (.some (.k (.int 10))))) .none)) [some (.lst (di ns)),none,none,none,none,none] []=.ok (.lst (di xs)) []:=by
  rw [gB,dI,au,(cK (d:=.int 0) (M1:=[]) rfl).trans (uS (k:=k+9)),R.af,aP,R.af,R.af]
  show (ev Φ _ _ []).bind (fun y M2=>tX .add true M2 (.lst [.int (mixed 0)]) y)=_
  rw [e2,R.af]
  show (if decide (([.int (mixed 0)]:List D).length+(di (L.map mixed)).length<=line)=true then b7 true ([.int (mixed 0)]++di (L.map mixed)) [] else .bad)=_
  rw [if_pos (by simp only [di,List.length_map,List.length_singleton,decide_eq_true_eq];have:line=1000000:=rfl;omega)]
  rfl
 obtain ⟨o',e4⟩:=zD (k:=k) (M:=[]) (a:=some (.lst (di ns))) (b:=some (.lst (di xs))) (c:=none) (d:=none) (e:=none) (ch:=aN [] (.lst (di xs))) (fun _=>rfl) xs none
 obtain ⟨z,hz⟩:=yH (mixed 0) (L.map mixed)
 obtain ⟨m,X,hm,h0,hli⟩:=Cs (k:=k+9) (n:=z)
 let M2:MH:=[.lst X,.lst ((rL m).map Rw.d)]
 have e5:ev Φ (.call 26 (.cons (.idx (.v 1) (.neg (.k (.int 1)))) .nil)) [some (.lst (di ns)),some (.lst (di xs)),o',none,none,none] []=.ok (.tup [.ref 1,.bl (decide (499<m)),.int 0]) M2 :=
  (cK (mh rfl rfl hz)).trans hli
 have gl:outI 1 (go (rL m) 0 4100 (ms1 1 [] 0))=some (zG (decide (499<m)) 0):=by
  rw [CJ hm h0]
  by_cases h:499<m
  ·rw [if_pos h,decide_eq_true h];rfl
  ·rw [if_neg h,decide_eq_false h];rfl
 have er:=Jc (k:=k+2) (M:=M2) (rows:=.ref 1) (fuel:=.int 0) (most:=0) (kn:=[]) (o:=1) (.inr ⟨1,rfl,rfl⟩) (.inr rfl) (by decide) Mi gl (by decide) Dw
 let σ:Sg:=[some (.lst (di ns)),some (.lst (di xs)),o',some (.ref 1),some (.bl (decide (499<m))),some (.int 0)]
 have e6:∀ ss,exs Φ (.cons (.Dy [3,4,5] (.call 26 (.cons (.idx (.v 1) (.neg (.k (.int 1)))) .nil))) ss) [some (.lst (di ns)),some (.lst (di xs)),o',none,none,none] []=exs Φ ss σ M2:=fun ss=>by
  rw [aW,Ie,e5];rfl
 refine ⟨[],bV fn33 rfl ((av e3).trans ((xC (d:=.lst (di xs)) (by rw [zJ,e_v rfl];rfl) e4).trans ((e6 _).trans (oW rfl rfl rfl er (EA (i:=5) (j:=4) rfl rfl))))) (ie rfl rfl)⟩
end bK
end
section
namespace bK
open Fg PySem PySem.Spec L2
theorem Jy:tb.ok tb.gm ak=true:=by decide +kernel
theorem LR {d:DefRec} (hd:d.params.defaults=[]) (hx:d.name=("law" : Str)) {XP:(Str->Option Value)->Heap->Prop}:W.WalkO Ji hdL XP (tb.hook ak).says PySem.Challenge.rw_fieldgate_k45_machine_refusals.row.toRowW d [] (fun f vs=>PySem.call f vs) :=
 tb.walk ak (l:=PySem.Challenge.rw_fieldgate_k45_machine_refusals) (r:=tb.fn[19]'(by decide)) (x:="_law_script") 10 rfl hd ⟨fun _=>rfl, by decide, by decide⟩ Jy (List.getElem_mem _) hx rfl rfl fun ns h=>yF (k:=0) ns h
end bK
end
section
open PySem PySem.W PyProof.Rows
set_option maxRecDepth 100000 in
set_option maxHeartbeats 0 in
theorem PySem.Challenge.cw_fieldgate_k45_machine_refusals_holds : PySem.Challenge.rw_fieldgate_k45_machine_refusals.Holds := by
 w_on
 refine holds_law (by decide +kernel) fun said => ?_
 refine holds_open (XP := XL bK.Ji []) bK.lft (bK.tb.hook bK.ak).of (bK.tb.hook bK.ak).keeps
  (fun s e => xl_of s (Bool.and_eq_true_iff.mp e).1) XL.keeps (by rfl) (by rfl) (by rfl)
  (fun s e => recFacts_of (Bool.and_eq_true_iff.mp e).2) (by rfl) said (by decide +kernel)
  ⟨rfl,rfl,rfl,rfl,rfl,by decide +kernel⟩ ?hw (bK.LR rfl rfl)
 w_witness2
end
