import PyProof.Rows.All
import Wide.All
import OpenK.AllK
import Wide.FinOn
import Lean
import PyProof.EqAt
import PyProof.EqKinds
import PyProof.TupleCall
import PyProof.NeKinds
import PyProof.CompFree
import PyProof.ListRange
import PyProof.Rows.FStr
import PyProof.ConsumeWalk
import PyProof.ZipIter
import PyProof.TableCode
import PySem.Challenge.RW_fieldgate_k16_great_lists_and_many_calls
set_option maxRecDepth 100000
set_option linter.all false
set_option Elab.async false
section
namespace L2
open PySem
noncomputable def inClass (s:Stmt) (j:Nat):Stmt:=match s with
 | .ClassDef _ _ _ body _ _ _ _ _ _ _=>body.getD j (.Pass ⟨0,0,0,0⟩)
 | _=>.Pass ⟨0,0,0,0⟩
noncomputable def iU (s:Stmt):Arguments:=match s with
 | .FunctionDef _ a _ _ _ _ _ _ _ _=>a
 | _=>{ posonlyargs:=[],args:=[],vararg:=none,kwonlyargs:=[],kw_defaults:=[],kwarg:=none,defaults:=[] }
noncomputable def bX (s:Stmt):List Stmt:=match s with
 | .FunctionDef _ _ b _ _ _ _ _ _ _=>b
 | _=>[]
noncomputable def aB (s:Stmt):Scope:=match s with
 | .FunctionDef _ _ _ _ _ _ sc _ _ _=>sc
 | _=>{ kind:=.function,names:=[],isGenerator:=false,isCoroutine:=false }
end L2
end
section
namespace Fg
open PySem
abbrev Ky:=Sum Int Str
inductive D where
 | ak
 | bl (b:Bool)
 | int (i:Int)
 | str (x:Str)
 | tup (ds:List D)
 | lst (ds:List D)
 | dct (ks:List Ky) (ds:List D)
 | ref (n:Nat)
mutual
def same (a b:D):Bool:=match a with
 | .ak=>match b with | .ak=>true | _=>false
 | .bl x=>match b with | .bl y=>decide (x=y) | _=>false
 | .int x=>match b with | .int y=>decide (x=y) | _=>false
 | .str x=>match b with | .str y=>decide (x=y) | _=>false
 | .tup x=>match b with | .tup y=>fL x y | _=>false
 | .lst x=>match b with | .lst y=>fL x y | _=>false
 | .dct k x=>match b with | .dct l y=>decide (k=l)&&fL x y | _=>false
 | .ref x=>match b with | .ref y=>decide (x=y) | _=>false
def fL (a b:List D):Bool:=match a with
 | []=>match b with | []=>true | _=>false
 | x::xs=>match b with | y::ys=>same x y&&fL xs ys | _=>false
end
mutual
theorem tW:∀ (a b:D),same a b=true->a=b
 | .ak,b,h=>by cases b <;> simp [same] at h ⊢
 | .bl x,b,h=>by cases b <;> simp [same] at h ⊢;exact h
 | .int x,b,h=>by cases b <;> simp [same] at h ⊢;exact h
 | .str x,b,h=>by cases b <;> simp [same] at h ⊢;exact h
 | .tup x,b,h=>by cases b <;> simp [same] at h ⊢;exact iC _ _ h
 | .lst x,b,h=>by cases b <;> simp [same] at h ⊢;exact iC _ _ h
 | .dct k x,b,h=>by cases b <;> simp [same] at h ⊢;exact ⟨h.1,iC _ _ h.2⟩
 | .ref x,b,h=>by cases b <;> simp [same] at h ⊢;exact h
theorem iC:∀ (a b:List D),fL a b=true->a=b
 | [],b,h=>by cases b <;> simp [fL] at h ⊢
 | x::xs,b,h=>by
  cases b with
  | nil=>simp [fL] at h
  | cons y ys=>simp only [fL,Bool.and_eq_true] at h;rw [tW x y h.1,iC xs ys h.2]
end
mutual
theorem same_refl:∀ (a:D),same a a=true
 | .ak=>by simp [same]
 | .bl x=>by simp [same]
 | .int x=>by simp [same]
 | .str x=>by simp [same]
 | .tup x=>by simp only [same];exact eK x
 | .lst x=>by simp only [same];exact eK x
 | .dct k x=>by simp only [same,eK x];simp
 | .ref x=>by simp [same]
theorem eK:∀ (a:List D),fL a a=true
 | []=>by simp [fL]
 | x::xs=>by simp only [fL,same_refl x,eK xs,Bool.and_self]
end
instance:DecidableEq D:=fun a b=>decidable_of_iff (same a b=true) ⟨tW a b,fun h=>h ▸ same_refl a⟩
inductive MO where
 | lst (ds:List D)
 | dct (kvs:List (Ky×D))
 | oH (kvs:List (Ky×D))
 | ins (c:Nat) (fs:List (Str×D))
 deriving DecidableEq
noncomputable abbrev MH:=List MO
noncomputable abbrev Sg:=List (Option D)
inductive R (α:Type) where
 | ok (a:α) (M:MH)
 | exc (c:Nat) (M:MH)
 | bad
noncomputable def R.bind {α β:Type} (x:R α) (f:α->MH->R β):R β :=
 match x with
 | .ok a M=>f a M
 | .exc c M=>.exc c M
 | .bad=>.bad
@[simp] theorem R.aa {α β:Type} (a:α) (M:MH) (f:α->MH->R β):(R.ok a M).bind f=f a M:=rfl
@[simp] theorem R.ck {α β:Type} (c:Nat) (M:MH) (f:α->MH->R β):(R.exc c M:R α).bind f=.exc c M:=rfl
@[simp] theorem R.cu {α β:Type} (f:α->MH->R β):(R.bad:R α).bind f=.bad:=rfl
inductive DE where
 | add | sub | mul | fdiv | mod | pow
inductive AJ where
 | eq | ne | lt | le | gt | ge | isin | pP | AS | lI
inductive Ty where
 | int | str | bool | list | tuple | dict
inductive Bl where
 | len | sum | tuple | list | dict | str | int | abs | max | min | sorted | all | any | repr
inductive Mt where
 | append | extend | pop | reverse | clear | get | join | startswith | replace | split | index | count
inductive F1 where
 | abs | int
mutual
inductive E where
 | v (i:Nat)
 | k (d:D)
 | g (i:Nat)
 | tup (es:Es)
 | lst (fz:Bool) (es:Es)
 | Dl
 | op (o:DE) (fz:Bool) (a b:E)
 | neg (a:E)
 | cmp (o:AJ) (a b:E)
 | chain (o o':AJ) (a b c:E)
 | and (a b:E)
 | or (a b:E)
 | not (a:E)
 | tru (a:E)
 | AU (c a b:E)
 | idx (a b:E)
 | sl (fz:Bool) (a:E) (lo hi:O)
 | call (f:Nat) (es:Es)
 | AR (a:E) (t:Ty)
 | blt (b:Bl) (fz:Bool) (es:Es)
 | dI (m:Mt) (fz:Bool) (a:E) (es:Es)
 | comp (fz:Bool) (caps:List Nat) (tg:List Nat) (elt:E) (it:Src) (cond:O)
 | fld (a:E) (f:Str)
 | c9 (c m:Nat) (nm:Str) (a:E) (es:Es)
 | new (c i:Nat) (es:Es)
 | mx (hi:Bool) (a b:E)
 | M6 (fz:Bool) (a b:E)
 | M7 (fz:Bool) (a:E)
 | rv (fz:Bool) (a:E)
 | all1 (a:E)
 | qJ (f:F1) (a:E)
 | vf (f:Nat) (es:Es) (d:Int)
 | dz (a b:E)
 | bad
inductive Es where
 | nil
 | cons (e:E) (es:Es)
inductive O where
 | none
 | some (e:E)
inductive Src where
 | e (a:E)
 | eE (a:E)
 | gS (a b:E)
 | enum (a:E)
 | items (a:E)
 | rev (a:E)
 | zip (a b:E)
 | dG (a b:E)
end
mutual
inductive S where
 | set (i:Nat) (e:E)
 | rq (a b e:E)
 | eG (a:E) (f:Str) (e:E)
 | unp (tg:List Nat) (e:E)
 | ex (e:E)
 | ret (e:E)
 | FO
 | ifs (c:E) (a b:Ss)
 | for (tg:List Nat) (it:Src) (b:Ss)
 | while (c:E) (b:Ss)
 | brk
 | cont
 | pass
 | raise (c:Nat) (es:Es)
 | try (b:Ss) (hs:Hs) (els:Ss)
 | bad
inductive Ss where
 | nil
 | cons (s:S) (ss:Ss)
inductive Hs where
 | nil
 | cons (cs:List Nat) (b:Ss) (hs:Hs)
end
inductive Out where
 | nx (σ:Sg)
 | rt (d:D)
 | bk (σ:Sg)
 | ct (σ:Sg)
 | xc (c:Nat) (σ:Sg)
noncomputable def R.use {α:Type} (x:R α) (σ:Sg) (f:α->MH->R Out):R Out :=
 match x with
 | .ok a M=>f a M
 | .exc c M=>.ok (.xc c σ) M
 | .bad=>.bad
@[simp] theorem R.gR {α:Type} (a:α) (M:MH) (σ:Sg) (f:α->MH->R Out):(R.ok a M).use σ f=f a M:=rfl
@[simp] theorem R.mY {α:Type} (c:Nat) (M:MH) (σ:Sg) (f:α->MH->R Out):(R.exc c M:R α).use σ f=.ok (.xc c σ) M:=rfl
@[simp] theorem R.MI {α:Type} (σ:Sg) (f:α->MH->R Out):(R.bad:R α).use σ f=.bad:=rfl
inductive Vw where
 | tup (ds:List D)
 | lst (ds:List D)
 | dct (kvs:List (Ky×D))
 | none
noncomputable def vw (M:MH):D->Vw
 | .tup ds=>.tup ds
 | .lst ds=>.lst ds
 | .dct ks ds=>.dct (ks.zip ds)
 | .ref n=>match M[n]? with
  | some (.lst ds)=>.lst ds
  | some (.dct kvs)=>.dct kvs
  | some (.oH kvs)=>.dct kvs
  | _=>.none
 | _=>.none
noncomputable def line:Nat:=1000000
noncomputable def small (i:Int):Bool:=decide (i.natAbs<18446744073709551616)
noncomputable def mid (i:Int):Bool:=decide (i.natAbs<10 ^ 200)
noncomputable def gw:DE->Int->Int->Option Int
 | .add,i,j=>some (i+j)
 | .sub,i,j=>some (i-j)
 | .mul,i,j=>if small i||small j then some (i*j) else if mid i&&mid j then some (i*j) else none
 | .fdiv,i,j=>if decide (0<j)&&decide (j.natAbs<1073741824) then some (i / j) else none
 | .mod,i,j=>if decide (0<j) then some (i % j) else none
 | .pow,i,j=>if decide (0<=j)&&(decide (j<=1000000)&&decide (i.natAbs<18446744073709551616)) then some (i ^ j.toNat) else none
noncomputable def cH (fz:Bool) (ds:List D) (M:MH):R D:=if fz then .ok (.lst ds) M else .ok (.ref M.length) (M++[.lst ds])
noncomputable def qI (o:DE) (fz:Bool) (M:MH):D->D->R D
 | .int i,.int j=>match gw o i j with
  | some k=>.ok (.int k) M
  | none=>.bad
 | .str x,.str y=>match o with
  | .add=>if decide (x.length+y.length<=line) then .ok (.str (x++y)) M else .bad
  | _=>.bad
 | a, b=>match o with
  | .add=>match vw M a,vw M b with
   | .lst xs,.lst ys=>if decide (xs.length+ys.length<=line) then cH fz (xs++ys) M else .bad
   | .tup xs,.tup ys=>if !xs.isEmpty&&decide (xs.length+ys.length<=line) then .ok (.tup (xs++ys)) M else .bad
   | _,_=>.bad
  | .mul=>match vw M a,b with
   | .lst xs,.int k=>if decide (xs.length*k.toNat<=line)&&decide (k.natAbs<=1000000) then cH fz (List.replicate k.toNat xs).flatten M else .bad
   | _,_=>.bad
  | _=>.bad
mutual
noncomputable def plain:D->Bool
 | .ak=>true
 | .bl _=>false
 | .int _=>true
 | .str _=>true
 | .tup ds=>aL ds
 | .lst ds=>aL ds
 | .dct _ _=>false
 | .ref _=>false
noncomputable def aL:List D->Bool
 | []=>true
 | d::ds=>plain d&&aL ds
end
mutual
noncomputable def dep:D->Nat
 | .tup ds=>deps ds+1
 | .lst ds=>deps ds+1
 | .dct _ ds=>deps ds+1
 | .ak=>0
 | .bl _=>0
 | .int _=>0
 | .str _=>0
 | .ref _=>0
noncomputable def deps:List D->Nat
 | []=>0
 | d::ds=>max (dep d) (deps ds)
end
mutual
noncomputable def aH:D->D->Bool
 | .ak,.ak=>true
 | .bl a,.bl b=>a == b
 | .int a,.int b=>decide (a=b)
 | .str a,.str b=>decide (a=b)
 | .tup a,.tup b=>dR a b
 | .lst a,.lst b=>dR a b
 | _,_=>false
noncomputable def dR:List D->List D->Bool
 | [],[]=>true
 | a::as,b::bs=>aH a b&&dR as bs
 | _,_=>false
end
noncomputable def keyOf:D->Option Ky
 | .int i=>some (.inl i)
 | .str x=>some (.inr x)
 | _=>none
noncomputable def M9:Ky->D
 | .inl i=>.int i
 | .inr x=>.str x
noncomputable def look (kvs:List (Ky×D)) (k:Ky):Option D:=(kvs.find? fun kv=>decide (kv.1=k)).map (·.2)
noncomputable def put (kvs:List (Ky×D)) (k:Ky) (v:D):List (Ky×D) :=
 if kvs.any (fun kv=>decide (kv.1=k)) then kvs.map fun kv=>if kv.1=k then (kv.1,v) else kv else kvs++[(k,v)]
noncomputable def top (M:MH):D->D
 | .ref n=>match M[n]? with
  | some (.lst ds)=>.lst ds
  | _=>.ref n
 | d=>d
noncomputable def flat:D->Bool
 | .ak=>true
 | .int _=>true
 | .str _=>true
 | _=>false
noncomputable def cE (a b:D):Bool:=(plain a&&plain b)&&(decide (dep a<=100)||decide (dep b<=100))
noncomputable def rQ (M:MH) (a b:D):Option Bool:=match vw M a,vw M b with
 | .lst xs,.lst ys=>if ys.isEmpty then some xs.isEmpty else none
 | _,_=>none
noncomputable def deep:Nat->MH->D->D
 | 0,_,d=>d
 | n+1,M,d=>match d with
  | .ref r=>(match M[r]? with
   | some (.lst ds)=>.lst (ds.map (deep n M))
   | _=>.ref r)
  | .tup ds=>.tup (ds.map (deep n M))
  | .lst ds=>.lst (ds.map (deep n M))
  | d=>d
noncomputable def LD (M:MH) (neg:Bool) (a b:D):R D:=if cE (deep 120 M a) (deep 120 M b) then .ok (.bl (if neg then !aH (deep 120 M a) (deep 120 M b) else aH (deep 120 M a) (deep 120 M b))) M else .bad
noncomputable def sM (M:MH) (f:Int->Int->Bool) (a b:D):R D:=match a with
 | .int i=>(match b with | .int j=>.ok (.bl (f i j)) M | _=>.bad)
 | _=>.bad
noncomputable def NN (M:MH) (a b:D):R D:=if cE (top M a) (top M b) then .ok (.bl (aH (top M a) (top M b))) M else (match rQ M a b with | some t=>.ok (.bl t) M | none=>LD M false a b)
noncomputable def AN (M:MH) (a b:D):R D:=if cE (top M a) (top M b) then .ok (.bl (!aH (top M a) (top M b))) M else (match rQ M a b with | some t=>.ok (.bl (!t)) M | none=>LD M true a b)
noncomputable def dj:D->Bool
 | .ak=>true
 | _=>false
noncomputable def w5 (a b:D):Option (Bool×Bool):=match a with
 | .bl x=>(match b with | .bl y=>some (x,y) | _=>none)
 | _=>none
noncomputable def zB (M:MH) (a b:D):Option Bool:=match vw M b with
 | .dct kvs=>(match keyOf a with | some k=>some (look kvs k).isSome | none=>none)
 | .lst ds=>if flat a&&ds.all flat then some (ds.any fun d=>aH d a) else none
 | .tup ds=>if flat a&&ds.all flat then some (ds.any fun d=>aH d a) else none
 | .none=>none
noncomputable def bJ (o:AJ) (M:MH) (a b:D):R D :=
 match o with
 | .lt=>sM M (fun i j=>decide (i<j)) a b
 | .le=>sM M (fun i j=>decide (i<=j)) a b
 | .gt=>sM M (fun i j=>decide (j<i)) a b
 | .ge=>sM M (fun i j=>decide (j<=i)) a b
 | .eq=>(match w5 a b with | some p=>.ok (.bl (p.1 == p.2)) M | none=>NN M a b)
 | .ne=>(match w5 a b with | some p=>.ok (.bl (!(p.1 == p.2))) M | none=>AN M a b)
 | .AS=>if dj b then .ok (.bl (dj a)) M else .bad
 | .lI=>if dj b then .ok (.bl (!dj a)) M else .bad
 | .isin=>(match zB M a b with | some t=>.ok (.bl t) M | none=>.bad)
 | .pP=>(match zB M a b with | some t=>.ok (.bl (!t)) M | none=>.bad)
noncomputable def Eo (n:Nat) (i:Int):Option Nat:=if 0<=i then (if i<n then some i.toNat else none) else if -(n:Int)<=i then some (i+n).toNat else none
noncomputable def qM {α:Type} (xs:List α) (i:Int):Option α:=(Eo xs.length i).bind fun j=>xs[j]?
noncomputable def six (n d:Nat):Option Int->Nat
 | none=>d
 | some v=>if v<0 then (v+(n:Int)).toNat else min v.toNat n
noncomputable def dg {α:Type} (xs:List α) (lo hi:Option Int):List α:=(xs.drop (six xs.length 0 lo)).take (six xs.length xs.length hi-six xs.length 0 lo)
noncomputable def cuts (x:Str) (lo hi:Option Int):Str:=⟨(dg x.cps.toList lo hi).toArray⟩
noncomputable def pZ (M:MH) (a b:D):R D :=
 match a,b with
 | .str x,.int i=>if decide (x.length<=line) then (match qM x.cps.toList i with
  | some c=>.ok (.str ⟨#[c]⟩) M
  | none=>.bad) else .bad
 | a, b=>match vw M a, b with
  | .tup ds,.int i=>match qM ds i with
   | some d=>.ok d M
   | none=>.bad
  | .lst ds,.int i=>match qM ds i with
   | some d=>.ok d M
   | none=>.bad
  | .dct kvs,b=>match keyOf b with
   | some k=>match look kvs k with
    | some d=>.ok d M
    | none=>.bad
   | none=>.bad
  | _,_=>.bad
noncomputable def jC (n:Nat) (lo hi:Option Int):Bool:=decide (six n 0 lo=0)&&decide (six n n hi=n)
noncomputable def sl2 (fz:Bool) (M:MH) (a:D) (lo hi:Option Int):R D :=
 match a with
 | .str x=>if decide (x.length<=line) then .ok (.str (cuts x lo hi)) M else .bad
 | a=>match vw M a with
  | .tup ds=>if jC ds.length lo hi then .bad else .ok (.tup (dg ds lo hi)) M
  | .lst ds=>cH fz (dg ds lo hi) M
  | _=>.bad
noncomputable def HK (M:MH) (t:Ty):D->Bool
 | .int _=>match t with | .int=>true | _=>false
 | .bl _=>match t with | .int=>true | .bool=>true | _=>false
 | .str _=>match t with | .str=>true | _=>false
 | .tup _=>match t with | .tuple=>true | _=>false
 | .lst _=>match t with | .list=>true | _=>false
 | .dct _ _=>match t with | .dict=>true | _=>false
 | .ak=>false
 | .ref n=>match M[n]? with
  | some (.lst _)=>(match t with | .list=>true | _=>false)
  | some (.dct _)=>(match t with | .dict=>true | _=>false)
  | some (.oH _)=>(match t with | .dict=>true | _=>false)
  | _=>false
noncomputable def yK (M:MH):D->Bool
 | .ref n=>match M[n]? with
  | some (.lst _)=>true
  | some (.dct _)=>true
  | some (.oH _)=>true
  | _=>false
 | _=>true
noncomputable def intsOf:List D->Option (List Int)
 | []=>some []
 | .int i::ds=>(intsOf ds).map (i::·)
 | _=>none
noncomputable def boolsOf:List D->Option (List Bool)
 | []=>some []
 | .bl b::ds=>(boolsOf ds).map (b::·)
 | _=>none
noncomputable def wu:F1->D->Option D
 | .abs,.int i=>some (.int (if i<0 then -i else i))
 | .int,.bl b=>some (.int (if b then 1 else 0))
 | .int,.int i=>some (.int i)
 | _,_=>none
noncomputable def itemsOf (M:MH) (d:D):Option (List D) :=
 match d with
 | .str _=>none
 | .dct _ _=>none
 | d=>match vw M d with
  | .tup ds=>some ds
  | .lst ds=>some ds
  | .dct kvs=>some (kvs.map fun kv=>M9 kv.1)
  | .none=>none
noncomputable def wk (M:MH):D->Bool
 | .ref n=>match M[n]? with
  | some (.dct _)=>true
  | _=>false
 | _=>false
noncomputable def walk (M:MH):D->MH
 | .ref n=>match M[n]? with
  | some (.dct kvs)=>M.set n (.oH kvs)
  | _=>M
 | _=>M
noncomputable def fK (b:Bool) (d:D) (M:MH):MH:=match b,d with
 | true,.ref n=>match M[n]? with
  | some (.oH kvs)=>M.set n (.dct kvs)
  | _=>M
 | _,_=>M
noncomputable def R.fin {α:Type} (x:R α) (f:MH->MH):R α:=match x with
 | .ok a M=>.ok a (f M)
 | .exc c M=>.exc c (f M)
 | .bad=>.bad
noncomputable def wN (b:Bl) (fz:Bool) (M:MH):List D->R D
 | [.str x]=>match b with
  | .len=>if decide (x.length<=line) then .ok (.int x.length) M else .bad
  | _=>.bad
 | [d]=>match b,vw M d with
  | .len,.tup ds=>.ok (.int ds.length) M
  | .len,.lst ds=>.ok (.int ds.length) M
  | .len,.dct kvs=>.ok (.int kvs.length) M
  | .sum,.lst ds=>match intsOf ds with
   | some ns=>.ok (.int ns.sum) M
   | none=>.bad
  | .tuple,.lst ds=>.ok (.tup ds) M
  | .tuple,.tup ds=>.ok (.tup ds) M
  | .list,.lst ds=>cH fz ds M
  | .list,.tup ds=>cH fz ds M
  | .dict,.dct kvs=>.ok (.ref M.length) (M++[.dct kvs])
  | _,_=>.bad
 | _=>.bad
noncomputable def p5:D->Option (List D)
 | .tup ds=>some ds
 | .lst ds=>some ds
 | _=>none
noncomputable def DN:D->Option (List D)
 | .tup ds=>some ds
 | _=>none
theorem A8 {d:D} {ds:List D} (h:DN d=some ds):d=.tup ds:=by
 cases d <;> first | (cases h;rfl) | cases h
noncomputable def gI (M:MH) (a:D):Option (Nat×List D):=match a with
 | .ref n=>(match M[n]? with | some (.lst xs)=>some (n,xs) | _=>none)
 | _=>none
theorem b9 {M:MH} {n:Nat} {xs:List D} (h:M[n]? = some (.lst xs)):gI M (.ref n)=some (n,xs):=by simp only [gI,h]
theorem j0 {M:MH} {a:D} {p:Nat×List D} (h:gI M a=some p):a=.ref p.1/\M[p.1]? = some (.lst p.2):=by
 cases a with
 | ref n =>
  simp only [gI] at h
  split at h
  ·rename_i xs hx;cases h;exact ⟨rfl,hx⟩
  ·cases h
 | _=>cases h
noncomputable def yI (ds:List D) (k:D->R D):R D:=match ds with
 | d::r=>(match r with | []=>k d | _::_=>.bad)
 | []=>.bad
noncomputable def pT (m:Mt) (M:MH) (n:Nat) (xs ds:List D):R D:=match m with
 | .append=>yI ds fun d=>if decide (xs.length<line) then .ok .ak (M.set n (.lst (xs++[d]))) else .bad
 | .extend=>yI ds fun d=>(match DN d with
  | some ys=>if decide (xs.length+ys.length<=line) then .ok .ak (M.set n (.lst (xs++ys))) else .bad
  | none=>.bad)
 | .pop=>if ds.isEmpty then (match xs[xs.length-1]? with
  | some d=>.ok d (M.set n (.lst xs.dropLast))
  | none=>.bad) else .bad
 | .reverse=>if ds.isEmpty then .ok .ak (M.set n (.lst xs.reverse)) else .bad
 | .clear=>if ds.isEmpty then .ok .ak (M.set n (.lst [])) else .bad
 | _=>.bad
noncomputable def gW (m:Mt) (fz:Bool) (M:MH) (a:D) (ds:List D):R D:=match gI M a with
 | some p=>pT m M p.1 p.2 ds
 | none=>.bad
noncomputable def nI (m:Mt) (M:MH) (a:D):Bool:=(gI M a).isSome&&(match m with | .append=>true | .extend=>true | .pop=>true | .reverse=>true | .clear=>true | _=>false)
noncomputable def m8 (M:MH) (a b d:D):R Unit :=
 match a with
 | .ref n=>match M[n]?,b with
  | some (.lst xs),.int i=>match Eo xs.length i with
   | some j=>.ok () (M.set n (.lst (xs.set j d)))
   | none=>.bad
  | some (.dct kvs),b=>match keyOf b with
   | some k=>if decide (kvs.length<line) then .ok () (M.set n (.dct (put kvs k d))) else .bad
   | none=>.bad
  | _,_=>.bad
 | _=>.bad
noncomputable def i8 {α:Type}:List Nat->List α->List (Option α)->List (Option α)
 | i::tg,x::xs,σ=>i8 tg xs (σ.set i (some x))
 | _,_,σ=>σ
noncomputable def sets (tg:List Nat) (M:MH) (d:D) (σ:Sg):Option Sg :=
 match tg with
 | [i]=>some (σ.set i (some d))
 | [i,j]=>match d with
  | .tup [x,y]=>some ((σ.set i (some x)).set j (some y))
  | _=>none
 | []=>none
 | tg=>match d with
  | .tup xs=>if xs.length=tg.length then some (i8 tg xs σ) else none
  | _=>none
noncomputable def aF (M:MH) (d:D) (M':MH):Bool:=match d with
 | .ref n=>decide (M'[n]? = M[n]?)
 | _=>true
noncomputable def aI (body:Sg->MH->R Out) (tg:List Nat) (ia:MH->Bool):List D->Sg->MH->R Out
 | [],σ,M=>.ok (.nx σ) M
 | d::ds,σ,M=>match sets tg M d σ with
  | none=>.bad
  | some σ1=>(body σ1 M).bind fun o M1=>match o with
   | .nx σ2=>if ia M1 then aI body tg ia ds σ2 M1 else .bad
   | .ct σ2=>if ia M1 then aI body tg ia ds σ2 M1 else .bad
   | .bk σ2=>.ok (.nx σ2) M1
   | .rt r=>.ok (.rt r) M1
   | .xc c σ2=>.ok (.xc c σ2) M1
noncomputable def bR (c:Sg->MH->R D) (body:Sg->MH->R Out):Nat->Sg->MH->R Out
 | 0,_,_=>.bad
 | n+1,σ,M=>(c σ M).use σ fun t M0=>match t with
  | .bl false=>.ok (.nx σ) M0
  | .bl true=>(body σ M0).bind fun o M1=>match o with
   | .nx σ2=>bR c body n σ2 M1
   | .ct σ2=>bR c body n σ2 M1
   | .bk σ2=>.ok (.nx σ2) M1
   | .rt r=>.ok (.rt r) M1
   | .xc c σ2=>.ok (.xc c σ2) M1
  | _=>.bad
noncomputable def bS (cond:Sg->MH->R D) (elt:Sg->MH->R D) (tg:List Nat) (ia:MH->Bool):List D->Sg->MH->List D->R (List D)
 | [],_,M,acc=>.ok acc M
 | d::ds,σ,M,acc=>match sets tg M d σ with
  | none=>.bad
  | some σ1=>(cond σ1 M).bind fun t M1=>match t with
   | .bl true=>(elt σ1 M1).bind fun x M2=>if ia M2 then (if decide (acc.length<line) then bS cond elt tg ia ds σ1 M2 (acc++[x]) else .bad) else .bad
   | .bl false=>if ia M1 then bS cond elt tg ia ds σ1 M1 acc else .bad
   | _=>.bad
noncomputable def eL (f:Str) (v:D):List (Str×D)->List (Str×D)
 | []=>[(f,v)]
 | (g,x)::r=>if g=f then (g,v)::r else (g,x)::eL f v r
structure bz where
 call:Nat->List D->MH->R D
 ini:Nat->List D->MH->R D
 glob:Nat->Option D
 turns:Nat
 sub:Nat->Nat->Bool
noncomputable def ou (σ:Sg) (caps:List Nat):Sg:=caps.map fun i=>(σ[i]?).join
noncomputable def ez:D->Option Int
 | .int i=>some i
 | _=>none
theorem kc {d:D} {i:Int} (h:ez d=some i):d=.int i:=by
 cases d <;> first | (cases h;rfl) | cases h
noncomputable def gu (j:Int):Bool:=decide (j.natAbs<=1000000)
noncomputable def gq (a b:Int):List D:=(List.range (b-a).toNat).map fun (i:Nat)=>D.int (a+(i:Int))
noncomputable def Js (ds es:List D):List D:=(ds.zip es).map fun p=>.tup [p.1,p.2]
noncomputable def mj (a b:Int):List D:=(List.range (a-b).toNat).map fun (i:Nat)=>D.int (a-(i:Int))
noncomputable def AL (M:MH) (d:D):Option (List D):=match vw M d with
 | .lst ds=>some ds
 | .tup ds=>some ds
 | _=>none
noncomputable def wW:List (Ky×D)->List D->List D->Option (List (Ky×D))
 | kvs,d::ds,e::es=>match keyOf d with
  | some k=>wW (put kvs k e) ds es
  | none=>none
 | kvs,_,_=>some kvs
mutual
noncomputable def ev (Φ:bz):E->Sg->MH->R D
 | .v i,σ,M=>match σ[i]? with
  | some (some d)=>.ok d M
  | _=>.bad
 | .k d,_,M=>.ok d M
 | .g i,_,M=>match Φ.glob i with
  | some d=>.ok d M
  | none=>.bad
 | .tup es,σ,M=>(cZ Φ es σ M).bind fun ds M1=>.ok (.tup ds) M1
 | .lst fz es,σ,M=>(cZ Φ es σ M).bind fun ds M1=>cH fz ds M1
 | .Dl,_,M=>.ok (.ref M.length) (M++[.dct []])
 | .op o fz a b,σ,M=>(ev Φ a σ M).bind fun x M1=>(ev Φ b σ M1).bind fun y M2=>qI o fz M2 x y
 | .neg a,σ,M=>(ev Φ a σ M).bind fun x M1=>match x with
  | .int i=>.ok (.int (-i)) M1
  | _=>.bad
 | .cmp o a b,σ,M=>(ev Φ a σ M).bind fun x M1=>(ev Φ b σ M1).bind fun y M2=>bJ o M2 x y
 | .chain o o' a b c,σ,M=>(ev Φ a σ M).bind fun x M1=>(ev Φ b σ M1).bind fun y M2=>(bJ o M2 x y).bind fun t M3=>match t with
  | .bl true=>(ev Φ c σ M3).bind fun z M4=>bJ o' M4 y z
  | .bl false=>.ok (.bl false) M3
  | _=>.bad
 | .and a b,σ,M=>(ev Φ a σ M).bind fun x M1=>match x with
  | .bl true=>(ev Φ b σ M1)
  | .bl false=>.ok (.bl false) M1
  | _=>.bad
 | .or a b,σ,M=>(ev Φ a σ M).bind fun x M1=>match x with
  | .bl true=>.ok (.bl true) M1
  | .bl false=>(ev Φ b σ M1)
  | _=>.bad
 | .not a,σ,M=>(ev Φ a σ M).bind fun x M1=>match x with
  | .bl b=>.ok (.bl (!b)) M1
  | _=>.bad
 | .tru a,σ,M=>.bad
 | .AU c a b,σ,M=>(ev Φ c σ M).bind fun x M1=>match x with
  | .bl true=>ev Φ a σ M1
  | .bl false=>ev Φ b σ M1
  | _=>.bad
 | .idx a b,σ,M=>(ev Φ a σ M).bind fun x M1=>(ev Φ b σ M1).bind fun y M2=>pZ M2 x y
 | .sl fz a lo hi,σ,M=>(ev Φ a σ M).bind fun x M1=>(CY Φ lo σ M1).bind fun l M2=>(CY Φ hi σ M2).bind fun h M3=>sl2 fz M3 x l h
 | .call f es,σ,M=>(cZ Φ es σ M).bind fun ds M1=>Φ.call f ds M1
 | .AR a t,σ,M=>(ev Φ a σ M).bind fun x M1=>if yK M1 x then .ok (.bl (HK M1 t x)) M1 else .bad
 | .blt b fz es,σ,M=>(cZ Φ es σ M).bind fun ds M1=>wN b fz M1 ds
 | .dI m fz a es,σ,M=>(ev Φ a σ M).bind fun x M1=>if nI m M1 x then (cZ Φ es σ M1).bind fun ds M2=>gW m fz M2 x ds else .bad
 | .comp fz caps tg elt it cond,σ,M=>(aJ Φ it σ M).bind fun p M1 =>
   ((bS (qK Φ cond) (ev Φ elt) tg (aF M1 p.1) p.2.1 (ou σ caps++List.replicate tg.length none) M1 []).fin (fK p.2.2 p.1)).bind fun ds M2=>cH fz ds M2
 | .fld a f,σ,M=>(ev Φ a σ M).bind fun x M1=>match x with
  | .ref n=>match M1[n]? with
   | some (.ins _ fs)=>match fs.lookup f with
    | some d=>.ok d M1
    | none=>.bad
   | _=>.bad
  | _=>.bad
 | .c9 c m nm a es,σ,M=>(ev Φ a σ M).bind fun x M1=>match x with
  | .ref n=>match M1[n]? with
   | some (.ins c' fs)=>if decide (c'=c)&&(fs.lookup nm).isNone then (cZ Φ es σ M1).bind fun ds M2=>Φ.call m (.ref n::ds) M2 else .bad
   | _=>.bad
  | _=>.bad
 | .new c i es,σ,M=>(cZ Φ es σ M).bind fun ds M1=>(Φ.ini i (.ref M1.length::ds) (M1++[.ins c []])).bind fun r M2=>match r with
  | .ak=>.ok (.ref M1.length) M2
  | _=>.bad
 | .mx hi a b,σ,M=>(ev Φ a σ M).bind fun x M1=>(ev Φ b σ M1).bind fun y M2=>match x,y with
  | .int i,.int j=>.ok (.int (if hi then (if j > i then j else i) else (if j<i then j else i))) M2
  | _,_=>.bad
 | .M6 fz a b,σ,M=>(ev Φ a σ M).bind fun x M1=>(ev Φ b σ M1).bind fun y M2=>match x,y with
  | .int i,.int j=>if gu i&&(gu j&&decide ((j-i).toNat<=line)) then cH fz (gq i j) M2 else .bad
  | _,_=>.bad
 | .M7 fz a,σ,M=>(ev Φ a σ M).bind fun x M1=>match x with
  | .int j=>if gu j then cH fz (gq 0 j) M1 else .bad
  | _=>.bad
 | .rv fz a,σ,M=>(ev Φ a σ M).bind fun x M1=>match vw M1 x with
  | .lst ds=>cH fz ds.reverse M1
  | _=>.bad
 | .all1 a,σ,M=>(ev Φ a σ M).bind fun x M1=>match vw M1 x with
  | .lst ds=>match boolsOf ds with
   | some bs=>.ok (.bl (bs.all id)) M1
   | none=>.bad
  | _=>.bad
 | .qJ f a,σ,M=>(ev Φ a σ M).bind fun x M1=>match wu f x with
  | some d=>.ok d M1
  | none=>.bad
 | .vf f es d,σ,M=>(cZ Φ es σ M).bind fun ds M1=>Φ.call f (ds++[.int d]) M1
 | .dz a b,σ,M=>(ev Φ a σ M).bind fun x M1=>(ev Φ b σ M1).bind fun y M2=>match AL M2 x,AL M2 y with
  | some ds,some es=>if decide (ds.length<=1000) then (match wW [] ds es with
   | some kvs=>.ok (.ref M2.length) (M2++[.dct kvs])
   | none=>.bad) else .bad
  | _,_=>.bad
 | .bad,_,_=>.bad
noncomputable def cZ (Φ:bz):Es->Sg->MH->R (List D)
 | .nil,_,M=>.ok [] M
 | .cons e es,σ,M=>(ev Φ e σ M).bind fun x M1=>(cZ Φ es σ M1).bind fun xs M2=>.ok (x::xs) M2
noncomputable def CY (Φ:bz):O->Sg->MH->R (Option Int)
 | .none,_,M=>.ok none M
 | .some e,σ,M=>(ev Φ e σ M).bind fun x M1=>match x with
  | .int i=>.ok (some i) M1
  | _=>.bad
noncomputable def qK (Φ:bz):O->Sg->MH->R D
 | .none,_,M=>.ok (.bl true) M
 | .some e,σ,M=>ev Φ e σ M
noncomputable def aJ (Φ:bz):Src->Sg->MH->R (D×List D×Bool)
 | .e a,σ,M=>(ev Φ a σ M).bind fun x M1=>match itemsOf M1 x with
  | some ds=>.ok (x,ds,wk M1 x) (walk M1 x)
  | none=>.bad
 | .eE a,σ,M=>(ev Φ a σ M).bind fun x M1=>match x with
  | .int j=>if gu j then .ok (.ak,gq 0 j,false) M1 else .bad
  | _=>.bad
 | .gS a b,σ,M=>(ev Φ a σ M).bind fun x M1=>(ev Φ b σ M1).bind fun y M2=>match ez x,ez y with
  | some i,some j=>if gu i&&gu j then .ok (.ak,gq i j,false) M2 else .bad
  | _,_=>.bad
 | .enum a,σ,M=>.bad
 | .items a,σ,M=>.bad
 | .rev a,σ,M=>(ev Φ a σ M).bind fun x M1=>match p5 x with
  | some ds=>.ok (.ak,ds.reverse,false) M1
  | none=>.bad
 | .dG a b,σ,M=>(ev Φ a σ M).bind fun x M1=>(ev Φ b σ M1).bind fun y M2=>match ez x,ez y with
  | some i,some j=>if gu i&&gu j then .ok (.ak,mj i j,false) M2 else .bad
  | _,_=>.bad
 | .zip a b,σ,M=>(ev Φ a σ M).bind fun x M1=>(ev Φ b σ M1).bind fun y M2=>match p5 x,p5 y with
  | some ds,some es=>.ok (.ak,Js ds es,false) M2
  | _,_=>.bad
end
noncomputable def bV:D->Bool
 | .str x=>decide (x.length<=100000)
 | .int i=>decide (i.natAbs<18446744073709551616)
 | _=>false
noncomputable def C0 (Φ:bz):Es->Sg->MH->R Unit
 | .nil,_,M=>.ok () M
 | .cons e es,σ,M=>(ev Φ e σ M).bind fun x M1=>if bV x then C0 Φ es σ M1 else .bad
mutual
noncomputable def ex (Φ:bz):S->Sg->MH->R Out
 | .set i e,σ,M=>(ev Φ e σ M).use σ fun x M1=>.ok (.nx (σ.set i (some x))) M1
 | .rq a b e,σ,M=>(ev Φ e σ M).use σ fun x M1=>(ev Φ a σ M1).use σ fun y M2=>(ev Φ b σ M2).use σ fun z M3=>(m8 M3 y z x).use σ fun _ M4=>.ok (.nx σ) M4
 | .eG a f e,σ,M=>(ev Φ e σ M).use σ fun x M1=>(ev Φ a σ M1).use σ fun y M2=>match y with
  | .ref n=>match M2[n]? with
   | some (.ins c fs)=>if decide (fs.length<1000) then .ok (.nx σ) (M2.set n (.ins c (eL f x fs))) else .bad
   | _=>.bad
  | _=>.bad
 | .unp tg e,σ,M=>(ev Φ e σ M).use σ fun x M1=>match sets tg M1 x σ with
  | some σ1=>.ok (.nx σ1) M1
  | none=>.bad
 | .ex e,σ,M=>(ev Φ e σ M).use σ fun _ M1=>.ok (.nx σ) M1
 | .ret e,σ,M=>(ev Φ e σ M).use σ fun x M1=>.ok (.rt x) M1
 | .FO,_,M=>.ok (.rt .ak) M
 | .ifs c a b,σ,M=>(ev Φ c σ M).use σ fun t M1=>match t with
  | .bl true=>exs Φ a σ M1
  | .bl false=>exs Φ b σ M1
  | _=>.bad
 | .for tg it b,σ,M=>(aJ Φ it σ M).use σ fun p M1=>(aI (exs Φ b) tg (aF M1 p.1) p.2.1 σ M1).fin (fK p.2.2 p.1)
 | .while c b,σ,M=>bR (ev Φ c) (exs Φ b) Φ.turns σ M
 | .brk,σ,M=>.ok (.bk σ) M
 | .cont,σ,M=>.ok (.ct σ) M
 | .pass,σ,M=>.ok (.nx σ) M
 | .raise c es,σ,M=>(C0 Φ es σ M).use σ fun _ M1=>.ok (.xc c σ) M1
 | .try b hs els,σ,M=>(exs Φ b σ M).bind fun o M1=>match o with
  | .nx σ1=>exs Φ els σ1 M1
  | .xc c σ1=>AV Φ hs c σ1 M1
  | o=>.ok o M1
 | .bad,_,_=>.bad
noncomputable def exs (Φ:bz):Ss->Sg->MH->R Out
 | .nil,σ,M=>.ok (.nx σ) M
 | .cons s ss,σ,M=>(ex Φ s σ M).bind fun o M1=>match o with
  | .nx σ1=>exs Φ ss σ1 M1
  | o=>.ok o M1
noncomputable def AV (Φ:bz):Hs->Nat->Sg->MH->R Out
 | .nil,_,_,_=>.bad
 | .cons cs b hs,c,σ,M=>if cs.any (fun d=>Φ.sub c d) then exs Φ b σ M else AV Φ hs c σ M
end
mutual
noncomputable def nr (m:Nat):D->Bool
 | .ref n=>decide (n<m)
 | .tup ds=>cG m ds
 | .lst ds=>cG m ds
 | .dct _ ds=>cG m ds
 | .ak=>true
 | .bl _=>true
 | .int _=>true
 | .str _=>true
noncomputable def cG (m:Nat):List D->Bool
 | []=>true
 | d::ds=>nr m d&&cG m ds
end
structure Fn where
 np:Nat
 ns:Nat
 k8:List D
 keep:Bool
 body:Ss
noncomputable def fM (keep:Bool) (M:MH) (d:D) (M':MH):R D :=
 if keep=false/\M'.take M.length=M then
  (if nr M.length d then .ok d M else match d with
   | .ref k=>match M'[k]? with
    | some (.lst ds)=>if cG M.length ds then .ok (.lst ds) M else .ok d M'
    | _=>.ok d M'
   | _=>.ok d M')
 else .ok d M'
noncomputable def pG (M:MH) (c:Nat) (M':MH):R D:=if M'.take M.length=M then .exc c M else .exc c M'
structure lP where
 fn:Nat->Option Fn
 glob:Nat->Option D
 turns:Nat
 sub:Nat->Nat->Bool
noncomputable def kB (Φ:bz) (f:Fn) (ds:List D) (M:MH):R D :=
 if decide (ds.length<=f.np)&&decide (f.np<=ds.length+f.k8.length) then
  match exs Φ f.body ((ds++f.k8.drop (ds.length+f.k8.length-f.np)).map some++List.replicate (f.ns-f.np) none) M with
  | .ok (.rt d) M'=>fM f.keep M d M'
  | .ok (.nx _) M'=>fM f.keep M .ak M'
  | .ok (.xc c _) M'=>pG M c M'
  | _=>.bad
 else .bad
noncomputable def af (P:lP):Nat->bz
 | 0=>⟨fun _ _ _=>.bad,fun _ _ _=>.bad,P.glob,P.turns,P.sub⟩
 | k+1=>⟨fun f ds M=>match P.fn f with
  | some fn=>kB (af P k) fn ds M
  | none=>.bad,(af P k).call,P.glob,P.turns,P.sub⟩
end Fg
end
section
set_option autoImplicit false
namespace Fg
open PySem PySem.Spec L2
noncomputable def GO:Nat->List Obj->W.Frag
 | _,[]=>[]
 | n,o::os=>bif o.alive then (n,o)::GO (n+1) os else GO (n+1) os
theorem yL:∀ {os:List Obj} {n a:Nat} {o:Obj},(GO n os).lookup a=some o->n<=a/\os[a-n]? = some o/\o.alive=true
 | [],_,_,_,h=>by cases h
 | x::os,n,a,o,h=>by
  have up:(GO (n+1) os).lookup a=some o->n<=a/\(x::os)[a-n]? = some o/\o.alive=true:=fun h=>by
   obtain ⟨h1,h2,h3⟩:=yL h
   refine ⟨by omega,?_,h3⟩
   rw [show a-n=(a-(n+1))+1 by omega,List.getElem?_cons_succ]
   exact h2
  unfold GO at h
  cases hx:x.alive with
  | false=>rw [hx] at h;exact up h
  | true =>
   rw [hx] at h
   replace h:((n,x)::GO (n+1) os).lookup a=some o:=h
   rw [List.lookup_cons] at h
   cases e:a == n with
   | true =>
    rw [e] at h
    cases h
    have:=beq_iff_eq.mp e
    subst this
    exact ⟨Nat.le_refl _,by simp,hx⟩
   | false =>
    rw [e] at h
    exact up h
noncomputable def allOf (h:Heap):W.Frag:=GO 0 h.objs.toList
theorem AG (h:Heap):(allOf h).In h:=fun a o e=>by
 obtain ⟨_,h1,h2⟩:=yL e
 rw [Nat.sub_zero,Array.getElem?_toList] at h1
 exact (Heap.get?_eq_some h a o).mpr ⟨h1,h2⟩
structure Row where
 x:Str
 ql:Str
 st:Stmt
 ps:List Str
 N:List Str
 i:Nat
 k8:Option Int:=none
structure Tb where
 fn:List Row
 cl:List Str
 mt:List (Nat×Row)
 xc:List Str
 cs:List (Str×Nat×Int)
 bl:List Str
 fl:List Str
 ct:List (Str×Nat×List Str):=[]
 cd:List (Str×Nat×List (Str×Int)):=[]
noncomputable def adr (K:W.Frag) (x:Str):Option Addr:=match W.nsIn K mainGlobals x with
 | some (some (.ref a))=>some a
 | _=>none
noncomputable def jr (K:W.Frag):Value->Option (Option Int)
 | .none=>some none
 | .ref T=>(match K.lookup T with
  | some ⟨_,_,.seq its _,_⟩=>(match its.toList with
   | [.int d _]=>some (some d)
   | _=>none)
  | _=>none)
 | _=>none
noncomputable abbrev AI:=Str×Str×Arguments×FuncBody×Scope×Addr×List (Str×Addr)×Addr×Option (Option Int)×Bool
noncomputable def qa (K:W.Frag) (f:Addr):Option AI:=match K.lookup f with
 | some ⟨_,_,.func fd,_⟩=>some (fd.name,fd.qualname,fd.params,fd.body,fd.scope,fd.globals,fd.closure,fd.builtins,jr K fd.defaults,W.codeIn K fd.code fd.qualname)
 | _=>none
noncomputable def Row.good (r:Row):AI:=(r.x,r.ql,iU r.st,.stmts (bX r.st),aB r.st,mainGlobals,[],builtinsNs,some r.k8,true)
noncomputable abbrev Jb:=Bool×Bool×Bool×Option (Option Value)×Bool×Bool×List (Option (Option Value))
noncomputable def om (t:Tb) (K:W.Frag) (C:Addr):Jb:=(W.plainGet K C Str.empty, W.hasDictIn K C, W.plainOver K C, W.findIn K (.ref C) "__setattr__", W.makesIn K C, W.keepIn K (.ref C), t.fl.map (W.findIn K (.ref C)))
noncomputable def j8 (t:Tb):Jb:=(true, true, true, some (some (.builtin "object.__setattr__")), true, true, t.fl.map fun _=>some none)
noncomputable def yS (t:Tb) (K:W.Frag) (r:Nat×Row):Option (AI×Bool):=((t.cl[r.1]?).bind (adr K)).bind fun C=>match W.findIn K (.ref C) r.2.x with
 | some (some (.ref f))=>(qa K f).map fun z=>(z,W.isFn K (.ref f))
 | _=>none
noncomputable abbrev Mr:=Bool×Option Bool×List (Option Bool)
noncomputable def BMV:List Value:=[.type "ValueError", .type "Exception", .type "BaseException", .type "object"]
noncomputable def zO (t:Tb) (K:W.Frag) (X:Addr):Mr:=(W.excIn K X BMV "ValueError.__new__", W.mroIn K X (.type "BaseException"), t.xc.map fun y=>(adr K y).bind fun Y=>W.mroIn K X (.ref Y))
noncomputable def Am (K:W.Frag) (x:Str):Option Int:=match W.nsIn K mainGlobals x with
 | some (some (.int n _))=>some n
 | _=>none
noncomputable def strOf:Value->Option Str
 | .str x _=>some x
 | _=>none
noncomputable def intOf:Value->Option Int
 | .int n _=>some n
 | _=>none
noncomputable abbrev Ms:=Value×List (Option Str)
noncomputable def xA (K:W.Frag) (a:Addr):Option Ms:=match K.lookup a with
 | some ⟨c,_,.seq its _,_⟩=>some (c,its.toList.map strOf)
 | _=>none
noncomputable abbrev Ja:=Value×Option Addr×Array (Option Value)×Bool×List (Int×Option Str×Option Int)
noncomputable def Ak (K:W.Frag) (a:Addr):Option Ja:=match K.lookup a with
 | some ⟨c,d,.dict es _,sl⟩=>some (c,d,sl,a == sysModules,es.toList.map fun e=>(e.hash,strOf e.key,intOf e.val))
 | _=>none
noncomputable def u7 (w:World) (kvs:List (Str×Int)):Ja:=(.type "dict", none, #[], false, kvs.map fun z=>(PyData.keyHash w.params z.1, some z.1, some z.2))
noncomputable abbrev IV:=List (Option AI)×List (Option Jb)×List (Option (AI×Bool))×List (Option Mr)×List (Option Int)×List (Option (Option Value))×List (Option Ms)×List (Option Ja)
noncomputable def Tb.tV (t:Tb) (K:W.Frag):IV:=(t.fn.map fun r=>(adr K r.x).bind (qa K),t.cl.map fun x=>(adr K x).map (om t K),t.mt.map (yS t K),t.xc.zipIdx.map fun x=>(adr K x.1).map (zO t K),t.cs.map fun c=>Am K c.1,t.bl.map (W.nsIn K mainGlobals),t.ct.map fun c=>(adr K c.1).bind (xA K),t.cd.map fun c=>(adr K c.1).bind (Ak K))
noncomputable def Tb.good (t:Tb) (P:lP) (w:World):IV:=(t.fn.map fun r=>some r.good, t.cl.map fun _=>some (j8 t), t.mt.map fun r=>some (r.2.good, true), t.xc.zipIdx.map fun x=>some (true, some true, t.xc.zipIdx.map fun y=>some (P.sub x.2 y.2)), t.cs.map fun c=>some c.2.2, t.bl.map fun _=>some none, t.ct.map fun c=>some (.type "tuple", c.2.2.map some), t.cd.map fun c=>some (u7 w c.2.2))
noncomputable def Tb.hook (t:Tb) (P:lP):W.Hook:=⟨IV,fun s=>t.tV (allOf s.heap),fun w=>t.good P w,fun w h=>∃ K:W.Frag,K.In h/\t.tV K=t.good P w,fun _ s e=>⟨_,AG s.heap,e⟩,fun _ _ _ ⟨K,X,e⟩ k=>⟨K,X.keeps k,e⟩⟩
end Fg
end
section
namespace bD
open Fg
noncomputable def lM:List PySem.Str:=["part", "word"]
noncomputable def uF:Fn:=⟨1,2,[],false,
 (.cons (.set 1 (.idx (.v 0) (.k (.int 0))))
 (.cons (.ifs (.cmp .isin (.v 1) (.g 0)) (.cons (.ret (.sl true (.v 0) (.some (.k (.int 1))) .none))
 .nil) .nil)
 (.cons (.ifs (.cmp .isin (.v 1) (.tup (.cons (.k (.str "let")) (.cons (.k (.str "call")) .nil)))) (.cons (.ret (.sl true (.v 0) (.some (.k (.int 2))) .none))
 .nil) .nil)
 (.cons (.ret (.tup .nil))
 .nil))))⟩
noncomputable def d9:List PySem.Str:=["program", "name", "function"]
noncomputable def dw:Fn:=⟨2,3,[],false,
 (.cons (.for [2] (.e (.v 0)) (.cons (.ifs (.cmp .eq (.idx (.v 2) (.k (.int 0))) (.v 1)) (.cons (.ret (.v 2))
 .nil) .nil)
 .nil))
 (.cons (.raise 1 (.cons (.v 1) .nil))
 .nil))⟩
noncomputable def jO:List PySem.Str:=["value"]
noncomputable def jj:Fn:=⟨1,1,[],false,
 (.cons (.ifs (.AR (.v 0) .tuple) (.cons (.ret (.idx (.v 0) (.k (.int 1))))
 .nil) .nil)
 (.cons (.ret (.k (.int 1)))
 .nil))⟩
noncomputable def jR:List PySem.Str:=["word", "first", "second", "size"]
noncomputable def gn:Fn:=⟨3,4,[],false,
 (.cons (.set 3 (.op .add true (.op .add true (.k (.int 1)) (.call 2 (.cons (.v 1) .nil))) (.call 2 (.cons (.v 2) .nil))))
 (.cons (.ifs (.cmp .gt (.v 3) (.g 1)) (.cons (.raise 2 (.cons (.v 0) (.cons (.v 3) .nil)))
 .nil) .nil)
 (.cons (.ret (.tup (.cons (.v 0) (.cons (.v 3) (.cons (.v 1) (.cons (.v 2) .nil))))))
 .nil)))⟩
noncomputable def dM:List PySem.Str:=["number"]
noncomputable def cV:Fn:=⟨1,1,[],false,
 (.cons (.ifs (.cmp .ge (.qJ .abs (.v 0)) (.op .pow true (.k (.int 10)) (.k (.int 60)))) (.cons (.raise 2 .nil)
 .nil) .nil)
 .nil)⟩
noncomputable def jk:List PySem.Str:=["word", "first", "second", "number"]
noncomputable def gY:Fn:=⟨3,4,[],false,
 (.cons (.ifs (.cmp .eq (.v 0) (.k (.str "less"))) (.cons (.ret (.AU (.cmp .lt (.v 1) (.v 2)) (.k (.int 1)) (.k (.int 0))))
 .nil) .nil)
 (.cons (.ifs (.cmp .eq (.v 0) (.k (.str "plus"))) (.cons (.set 3 (.op .add true (.v 1) (.v 2)))
 .nil) (.cons (.ifs (.cmp .eq (.v 0) (.k (.str "minus"))) (.cons (.set 3 (.op .sub true (.v 1) (.v 2)))
 .nil) (.cons (.set 3 (.op .mul true (.v 1) (.v 2)))
 .nil))
 .nil))
 (.cons (.ex (.call 4 (.cons (.v 3) .nil)))
 (.cons (.ret (.v 3))
 .nil))))⟩
noncomputable def iN:List PySem.Str:=["word", "value"]
noncomputable def fT:Fn:=⟨2,2,[],false,
 (.cons (.ifs (.cmp .AS (.v 1) (.k .ak)) (.cons (.raise 3 (.cons (.v 0) .nil))
 .nil) .nil)
 (.cons (.ifs (.cmp .isin (.v 0) (.tup (.cons (.k (.str "first")) (.cons (.k (.str "head")) .nil)))) (.cons (.ret (.idx (.v 1) (.k (.int 2))))
 .nil) .nil)
 (.cons (.ret (.idx (.v 1) (.k (.int 3))))
 .nil)))⟩
noncomputable def jQ:List PySem.Str:=["word", "given"]
noncomputable def mK:Fn:=⟨2,2,[],false,
 (.cons (.ifs (.cmp .isin (.v 0) (.tup (.cons (.k (.str "plus")) (.cons (.k (.str "minus")) (.cons (.k (.str "times")) (.cons (.k (.str "less")) .nil)))))) (.cons (.ret (.call 5 (.cons (.v 0) (.cons (.idx (.v 1) (.k (.int 0))) (.cons (.idx (.v 1) (.k (.int 1))) .nil)))))
 .nil) .nil)
 (.cons (.ifs (.cmp .isin (.v 0) (.tup (.cons (.k (.str "pair")) (.cons (.k (.str "cons")) .nil)))) (.cons (.ret (.call 3 (.cons (.v 0) (.cons (.idx (.v 1) (.k (.int 0))) (.cons (.idx (.v 1) (.k (.int 1))) .nil)))))
 .nil) .nil)
 (.cons (.ifs (.cmp .eq (.v 0) (.k (.str "none"))) (.cons (.ret (.AU (.cmp .AS (.idx (.v 1) (.k (.int 0))) (.k .ak)) (.k (.int 1)) (.k (.int 0))))
 .nil) .nil)
 (.cons (.ret (.call 6 (.cons (.v 0) (.cons (.idx (.v 1) (.k (.int 0))) .nil))))
 .nil))))⟩
noncomputable def n5:List PySem.Str:=["value", "members"]
noncomputable def zL:Fn:=⟨1,2,[],true,
 (.cons (.ifs (.AR (.v 0) .int) (.cons (.ret (.v 0))
 .nil) .nil)
 (.cons (.ifs (.and (.cmp .lI (.v 0) (.k .ak)) (.cmp .eq (.idx (.v 0) (.k (.int 0))) (.k (.str "pair")))) (.cons (.ret (.tup (.cons (.call 8 (.cons (.idx (.v 0) (.k (.int 2))) .nil)) (.cons (.call 8 (.cons (.idx (.v 0) (.k (.int 3))) .nil)) .nil))))
 .nil) .nil)
 (.cons (.set 1 (.lst false .nil))
 (.cons (.while (.cmp .lI (.v 0) (.k .ak)) (.cons (.ex (.dI .append true (.v 1) (.cons (.call 8 (.cons (.idx (.v 0) (.k (.int 2))) .nil)) .nil)))
 (.cons (.set 0 (.idx (.v 0) (.k (.int 3))))
 .nil)))
 (.cons (.ret (.v 1))
 .nil)))))⟩
noncomputable def eU:List PySem.Str:=["begun", "under_way", "most"]
noncomputable def d8:Fn:=⟨3,3,[],false,
 (.cons (.ifs (.cmp .gt (.op .add true (.v 0) (.k (.int 1))) (.v 2)) (.cons (.raise 4 .nil)
 .nil) .nil)
 (.cons (.ifs (.cmp .gt (.op .add true (.v 1) (.k (.int 1))) (.g 2)) (.cons (.raise 5 (.cons (.g 2) .nil))
 .nil) .nil)
 .nil))⟩
noncomputable def iM:List PySem.Str:=["program", "numbers", "most", "run"]
noncomputable def fS:Fn:=⟨3,4,[],false,
 (.cons (.set 3 (.new 0 11 (.cons (.v 0) (.cons (.v 2) .nil))))
 (.cons (.ex (.c9 0 17 "put_off_body" (.v 3) (.cons (.k (.str "main")) (.cons (.v 1) .nil))))
 (.cons (.while (.cmp .ne (.fld (.v 3) "todo") (.lst true .nil)) (.cons (.ex (.c9 0 18 "do_next" (.v 3) .nil))
 .nil))
 (.cons (.ret (.call 8 (.cons (.dI .pop true (.fld (.v 3) "waiting") .nil) .nil)))
 .nil))))⟩
noncomputable def dc:List PySem.Str:=["self", "program", "most"]
noncomputable def cD:Fn:=⟨3,3,[],false,
 (.cons (.eG (.v 0) "program" (.v 1))
 (.cons (.eG (.v 0) "most" (.v 2))
 (.cons (.eG (.v 0) "begun" (.k (.int 0)))
 (.cons (.eG (.v 0) "under_way" (.k (.int 0)))
 (.cons (.eG (.v 0) "todo" (.lst false .nil))
 (.cons (.eG (.v 0) "waiting" (.lst false .nil))
 .nil))))))⟩
noncomputable def dP:List PySem.Str:=["self", "step", "part", "names"]
noncomputable def cX:Fn:=⟨4,4,[],false,
 (.cons (.ex (.dI .append true (.fld (.v 0) "todo") (.cons (.tup (.cons (.v 1) (.cons (.v 2) (.cons (.v 3) .nil)))) .nil)))
 .nil)⟩
noncomputable def eY:List PySem.Str:=["self", "part", "names", "word", "within"]
noncomputable def bu:Fn:=⟨3,5,[],false,
 (.cons (.set 3 (.idx (.v 1) (.k (.int 0))))
 (.cons (.ifs (.cmp .eq (.v 3) (.k (.str "number"))) (.cons (.ex (.dI .append true (.fld (.v 0) "waiting") (.cons (.idx (.v 1) (.k (.int 1))) .nil)))
 .nil) (.cons (.ifs (.cmp .eq (.v 3) (.k (.str "name"))) (.cons (.ex (.dI .append true (.fld (.v 0) "waiting") (.cons (.idx (.v 2) (.idx (.v 1) (.k (.int 1)))) .nil)))
 .nil) (.cons (.ifs (.cmp .eq (.v 3) (.k (.str "nil"))) (.cons (.ex (.dI .append true (.fld (.v 0) "waiting") (.cons (.k .ak) .nil)))
 .nil) (.cons (.ifs (.cmp .isin (.v 3) (.tup (.cons (.k (.str "let")) (.cons (.k (.str "if")) .nil)))) (.cons (.ex (.c9 0 12 "put_off" (.v 0) (.cons (.k (.str "go on")) (.cons (.v 1) (.cons (.v 2) .nil)))))
 (.cons (.ex (.c9 0 12 "put_off" (.v 0) (.cons (.k (.str "begin")) (.cons (.idx (.call 0 (.cons (.v 1) .nil)) (.k (.int 0))) (.cons (.v 2) .nil)))))
 .nil)) (.cons (.ex (.c9 0 12 "put_off" (.v 0) (.cons (.k (.str "end")) (.cons (.v 1) (.cons (.v 2) .nil)))))
 (.cons (.for [4] (.rev (.call 0 (.cons (.v 1) .nil))) (.cons (.ex (.c9 0 12 "put_off" (.v 0) (.cons (.k (.str "begin")) (.cons (.v 4) (.cons (.v 2) .nil)))))
 .nil))
 .nil)))
 .nil))
 .nil))
 .nil))
 .nil))⟩
noncomputable def eW:List PySem.Str:=["self", "part", "names", "value", "known"]
noncomputable def ef:Fn:=⟨3,5,[],false,
 (.cons (.set 3 (.dI .pop true (.fld (.v 0) "waiting") .nil))
 (.cons (.ifs (.cmp .eq (.idx (.v 1) (.k (.int 0))) (.k (.str "let"))) (.cons (.set 4 (.blt .dict false (.cons (.v 2) .nil)))
 (.cons (.rq (.v 4) (.idx (.v 1) (.k (.int 1))) (.v 3))
 (.cons (.ex (.c9 0 12 "put_off" (.v 0) (.cons (.k (.str "begin")) (.cons (.idx (.v 1) (.k (.int 3))) (.cons (.v 4) .nil)))))
 .nil))) (.cons (.ifs (.cmp .ne (.v 3) (.k (.int 0))) (.cons (.ex (.c9 0 12 "put_off" (.v 0) (.cons (.k (.str "begin")) (.cons (.idx (.v 1) (.k (.int 2))) (.cons (.v 2) .nil)))))
 .nil) (.cons (.ex (.c9 0 12 "put_off" (.v 0) (.cons (.k (.str "begin")) (.cons (.idx (.v 1) (.k (.int 3))) (.cons (.v 2) .nil)))))
 .nil))
 .nil))
 .nil))⟩
noncomputable def fV:List PySem.Str:=["self", "part", "given"]
noncomputable def fW:Fn:=⟨2,3,[],false,
 (.cons (.set 2 (.comp false [0] [1] (.dI .pop true (.fld (.v 0) "waiting") .nil) (.e (.call 0 (.cons (.v 1) .nil))) .none))
 (.cons (.ex (.dI .reverse true (.v 2) .nil))
 (.cons (.ifs (.cmp .eq (.idx (.v 1) (.k (.int 0))) (.k (.str "call"))) (.cons (.ex (.c9 0 16 "call" (.v 0) (.cons (.idx (.v 1) (.k (.int 1))) (.cons (.v 2) .nil))))
 .nil) (.cons (.ex (.dI .append true (.fld (.v 0) "waiting") (.cons (.call 7 (.cons (.idx (.v 1) (.k (.int 0))) (.cons (.v 2) .nil))) .nil)))
 .nil))
 .nil)))⟩
noncomputable def fF:List PySem.Str:=["self", "name", "given"]
noncomputable def fq:Fn:=⟨3,3,[],false,
 (.cons (.ex (.call 9 (.cons (.fld (.v 0) "begun") (.cons (.fld (.v 0) "under_way") (.cons (.fld (.v 0) "most") .nil)))))
 (.cons (.eG (.v 0) "begun" (.op .add false (.fld (.v 0) "begun") (.k (.int 1))))
 (.cons (.eG (.v 0) "under_way" (.op .add false (.fld (.v 0) "under_way") (.k (.int 1))))
 (.cons (.ex (.c9 0 12 "put_off" (.v 0) (.cons (.k (.str "back")) (.cons (.k .ak) (.cons (.k .ak) .nil)))))
 (.cons (.ex (.c9 0 17 "put_off_body" (.v 0) (.cons (.v 1) (.cons (.v 2) .nil))))
 .nil)))))⟩
noncomputable def cj:List PySem.Str:=["self", "name", "given", "function", "takers"]
noncomputable def bE:Fn:=⟨3,5,[],false,
 (.cons (.set 3 (.call 1 (.cons (.fld (.v 0) "program") (.cons (.v 1) .nil))))
 (.cons (.set 4 (.comp true [] [0] (.idx (.v 0) (.k (.int 0))) (.e (.idx (.v 3) (.k (.int 1)))) .none))
 (.cons (.ex (.c9 0 12 "put_off" (.v 0) (.cons (.k (.str "begin")) (.cons (.idx (.v 3) (.k (.int 3))) (.cons (.dz (.v 4) (.v 2)) .nil)))))
 .nil)))⟩
noncomputable def dQ:List PySem.Str:=["self", "doing"]
noncomputable def aT:Fn:=⟨1,2,[],false,
 (.cons (.set 1 (.dI .pop true (.fld (.v 0) "todo") .nil))
 (.cons (.ifs (.cmp .eq (.idx (.v 1) (.k (.int 0))) (.k (.str "begin"))) (.cons (.ex (.c9 0 13 "begin" (.v 0) (.cons (.idx (.v 1) (.k (.int 1))) (.cons (.idx (.v 1) (.k (.int 2))) .nil))))
 .nil) (.cons (.ifs (.cmp .eq (.idx (.v 1) (.k (.int 0))) (.k (.str "go on"))) (.cons (.ex (.c9 0 14 "go_on" (.v 0) (.cons (.idx (.v 1) (.k (.int 1))) (.cons (.idx (.v 1) (.k (.int 2))) .nil))))
 .nil) (.cons (.ifs (.cmp .eq (.idx (.v 1) (.k (.int 0))) (.k (.str "end"))) (.cons (.ex (.c9 0 15 "end" (.v 0) (.cons (.idx (.v 1) (.k (.int 1))) .nil)))
 .nil) (.cons (.eG (.v 0) "under_way" (.op .sub false (.fld (.v 0) "under_way") (.k (.int 1))))
 .nil))
 .nil))
 .nil))
 .nil))⟩
noncomputable def iO:List PySem.Str:=["_law_cell"]
noncomputable def jD:Fn:=⟨1,1,[],false,
 (.cons (.ret (.op .mod true (.op .mul true (.op .mul true (.op .add true (.op .mod true (.v 0) (.k (.int 2147483647))) (.k (.int 11))) (.k (.int 48271))) (.k (.int 69621))) (.k (.int 2147483629))))
 .nil)⟩
noncomputable def jP:List PySem.Str:=["_law_part", "_law_many", "_law_k"]
noncomputable def jl:Fn:=⟨2,3,[],false,
 (.cons (.for [2] (.eE (.v 1)) (.cons (.set 0 (.tup (.cons (.k (.str "cons")) (.cons (.tup (.cons (.k (.str "number")) (.cons (.op .sub true (.v 1) (.v 2)) .nil))) (.cons (.v 0) .nil)))))
 .nil))
 (.cons (.ret (.v 0))
 .nil))⟩
noncomputable def gZ:List PySem.Str:=["_law_name", "_law_part", "_law_many", "_law_k"]
noncomputable def eV:Fn:=⟨3,4,[],false,
 (.cons (.for [3] (.eE (.v 2)) (.cons (.set 1 (.tup (.cons (.k (.str "call")) (.cons (.v 0) (.cons (.v 1) .nil)))))
 .nil))
 (.cons (.ret (.v 1))
 .nil))⟩
noncomputable def iP:List PySem.Str:=["_law_many", "_law_few", "_law_row", "_law_name", "_law_eight", "_law_more", "_law_body", "_law_main"]
noncomputable def jE:Fn:=⟨2,8,[],false,
 (.cons (.set 2 (.tup (.cons (.k (.str "list")) (.cons (.tup (.cons (.k (.str "num")) .nil)) .nil))))
 (.cons (.set 3 (.tup (.cons (.k (.str "name")) (.cons (.k (.str "l")) .nil))))
 (.cons (.set 4 (.tup (.cons (.k (.str "eight")) (.cons (.lst true (.cons (.tup (.cons (.k (.str "l")) (.cons (.v 2) .nil))) .nil)) (.cons (.v 2) (.cons (.call 20 (.cons (.v 3) (.cons (.k (.int 8)) .nil))) .nil))))))
 (.cons (.set 5 (.tup (.cons (.k (.str "more")) (.cons (.lst true (.cons (.tup (.cons (.k (.str "l")) (.cons (.v 2) .nil))) .nil)) (.cons (.v 2) (.cons (.call 21 (.cons (.k (.str "eight")) (.cons (.v 3) (.cons (.k (.int 7)) .nil)))) .nil))))))
 (.cons (.set 6 (.tup (.cons (.k (.str "let")) (.cons (.k (.str "b")) (.cons (.call 21 (.cons (.k (.str "eight")) (.cons (.tup (.cons (.k (.str "name")) (.cons (.k (.str "a")) .nil))) (.cons (.v 0) .nil)))) (.cons (.call 20 (.cons (.tup (.cons (.k (.str "name")) (.cons (.k (.str "b")) .nil))) (.cons (.v 1) .nil))) .nil))))))
 (.cons (.set 7 (.tup (.cons (.k (.str "main")) (.cons (.lst true .nil) (.cons (.v 2) (.cons (.tup (.cons (.k (.str "let")) (.cons (.k (.str "a")) (.cons (.call 21 (.cons (.k (.str "more")) (.cons (.tup (.cons (.k (.str "nil")) (.cons (.tup (.cons (.k (.str "num")) .nil)) .nil))) (.cons (.k (.int 8)) .nil)))) (.cons (.v 6) .nil))))) .nil))))))
 (.cons (.ret (.lst true (.cons (.v 7) (.cons (.v 4) (.cons (.v 5) .nil)))))
 .nil)))))))⟩
noncomputable def g6:List PySem.Str:=["_law_many", "_law_again", "_law_body", "_law_down", "_law_part", "_law_k", "_law_block"]
noncomputable def cI:Fn:=⟨1,7,[],false,
 (.cons (.set 1 (.tup (.cons (.k (.str "call")) (.cons (.k (.str "down")) (.cons (.tup (.cons (.k (.str "minus")) (.cons (.tup (.cons (.k (.str "name")) (.cons (.k (.str "n")) .nil))) (.cons (.tup (.cons (.k (.str "number")) (.cons (.k (.int 1)) .nil))) .nil)))) .nil)))))
 (.cons (.set 2 (.tup (.cons (.k (.str "if")) (.cons (.tup (.cons (.k (.str "less")) (.cons (.tup (.cons (.k (.str "name")) (.cons (.k (.str "n")) .nil))) (.cons (.tup (.cons (.k (.str "number")) (.cons (.k (.int 1)) .nil))) .nil)))) (.cons (.tup (.cons (.k (.str "nil")) (.cons (.tup (.cons (.k (.str "num")) .nil)) .nil))) (.cons (.tup (.cons (.k (.str "cons")) (.cons (.tup (.cons (.k (.str "name")) (.cons (.k (.str "n")) .nil))) (.cons (.v 1) .nil)))) .nil))))))
 (.cons (.set 3 (.tup (.cons (.k (.str "down")) (.cons (.lst true (.cons (.tup (.cons (.k (.str "n")) (.cons (.tup (.cons (.k (.str "num")) .nil)) .nil))) .nil)) (.cons (.tup (.cons (.k (.str "list")) (.cons (.tup (.cons (.k (.str "num")) .nil)) .nil))) (.cons (.v 2) .nil))))))
 (.cons (.set 4 (.tup (.cons (.k (.str "none")) (.cons (.tup (.cons (.k (.str "call")) (.cons (.k (.str "down")) (.cons (.tup (.cons (.k (.str "name")) (.cons (.k (.str "n")) .nil))) .nil)))) .nil))))
 (.cons (.for [5] (.eE (.k (.int 6))) (.cons (.set 4 (.tup (.cons (.k (.str "plus")) (.cons (.tup (.cons (.k (.str "none")) (.cons (.tup (.cons (.k (.str "call")) (.cons (.k (.str "down")) (.cons (.tup (.cons (.k (.str "name")) (.cons (.k (.str "n")) .nil))) .nil)))) .nil))) (.cons (.v 4) .nil)))))
 .nil))
 (.cons (.set 6 (.tup (.cons (.k (.str "block")) (.cons (.lst true (.cons (.tup (.cons (.k (.str "n")) (.cons (.tup (.cons (.k (.str "num")) .nil)) .nil))) .nil)) (.cons (.tup (.cons (.k (.str "num")) .nil)) (.cons (.v 4) .nil))))))
 (.cons (.set 4 (.tup (.cons (.k (.str "call")) (.cons (.k (.str "block")) (.cons (.tup (.cons (.k (.str "name")) (.cons (.k (.str "u")) .nil))) .nil)))))
 (.cons (.for [5] (.eE (.op .sub true (.v 0) (.k (.int 1)))) (.cons (.set 4 (.tup (.cons (.k (.str "plus")) (.cons (.tup (.cons (.k (.str "call")) (.cons (.k (.str "block")) (.cons (.tup (.cons (.k (.str "name")) (.cons (.k (.str "u")) .nil))) .nil)))) (.cons (.v 4) .nil)))))
 .nil))
 (.cons (.ret (.lst true (.cons (.v 3) (.cons (.v 6) (.cons (.tup (.cons (.k (.str "main")) (.cons (.lst true (.cons (.tup (.cons (.k (.str "u")) (.cons (.tup (.cons (.k (.str "num")) .nil)) .nil))) .nil)) (.cons (.tup (.cons (.k (.str "num")) .nil)) (.cons (.v 4) .nil))))) .nil)))))
 .nil)))))))))⟩
noncomputable def fU:List PySem.Str:=["_law_many", "_law_few", "_law_most", "_law_begun", "_law_row", "_law_k", "_law_member"]
noncomputable def cW:Fn:=⟨3,7,[],false,
 (.cons (.set 3 (.k (.int 0)))
 (.cons (.set 4 (.lst false .nil))
 (.cons (.for [5] (.eE (.op .add true (.k (.int 64)) (.v 0))) (.cons (.set 3 (.op .add true (.v 3) (.k (.int 1))))
 (.cons (.ifs (.cmp .gt (.v 3) (.v 2)) (.cons (.ret (.tup (.cons (.k (.str "long")) (.cons (.k .ak) .nil))))
 .nil) .nil)
 (.cons (.ifs (.or (.cmp .ge (.v 5) (.k (.int 64))) (.cmp .gt (.op .mod true (.v 5) (.k (.int 8))) (.k (.int 0)))) (.cons (.for [6] (.dG (.k (.int 8)) (.k (.int 0))) (.cons (.ex (.dI .append true (.v 4) (.cons (.v 6) .nil)))
 (.cons (.ifs (.cmp .gt (.op .add true (.k (.int 1)) (.op .mul true (.k (.int 2)) (.blt .len true (.cons (.v 4) .nil)))) (.k (.int 1000))) (.cons (.ret (.tup (.cons (.k (.str "great")) (.cons (.k .ak) .nil))))
 .nil) .nil)
 .nil)))
 .nil) .nil)
 .nil))))
 (.cons (.for [6] (.dG (.v 1) (.k (.int 0))) (.cons (.ex (.dI .append true (.v 4) (.cons (.v 6) .nil)))
 (.cons (.ifs (.cmp .gt (.op .add true (.k (.int 1)) (.op .mul true (.k (.int 2)) (.blt .len true (.cons (.v 4) .nil)))) (.k (.int 1000))) (.cons (.ret (.tup (.cons (.k (.str "great")) (.cons (.k .ak) .nil))))
 .nil) .nil)
 .nil)))
 (.cons (.ret (.tup (.cons (.k (.str "")) (.cons (.rv true (.v 4)) .nil))))
 .nil)))))⟩
noncomputable def fE:List PySem.Str:=["_law_many", "_law_number", "_law_most", "_law_begun", "_law_k", "_law_turn", "_law_under"]
noncomputable def cC:Fn:=⟨3,7,[],false,
 (.cons (.set 3 (.k (.int 0)))
 (.cons (.for [4] (.eE (.v 0)) (.cons (.set 3 (.op .add true (.v 3) (.k (.int 1))))
 (.cons (.ifs (.cmp .gt (.v 3) (.v 2)) (.cons (.ret (.tup (.cons (.k (.str "long")) (.cons (.k .ak) .nil))))
 .nil) .nil)
 (.cons (.for [5] (.eE (.k (.int 7))) (.cons (.for [6] (.gS (.k (.int 2)) (.op .add true (.k (.int 3)) (.mx true (.k (.int 0)) (.v 1)))) (.cons (.set 3 (.op .add true (.v 3) (.k (.int 1))))
 (.cons (.ifs (.cmp .gt (.v 3) (.v 2)) (.cons (.ret (.tup (.cons (.k (.str "long")) (.cons (.k .ak) .nil))))
 .nil) .nil)
 (.cons (.ifs (.cmp .gt (.v 6) (.k (.int 12))) (.cons (.ret (.tup (.cons (.k (.str "deep")) (.cons (.k .ak) .nil))))
 .nil) .nil)
 .nil))))
 .nil))
 .nil))))
 (.cons (.ret (.tup (.cons (.k (.str "")) (.cons (.op .mul true (.op .mul true (.k (.int 7)) (.v 0)) (.qJ .int (.cmp .lt (.v 1) (.k (.int 1))))) .nil))))
 .nil)))⟩
noncomputable def iQ:List PySem.Str:=["_law_program", "_law_numbers", "_law_most", "_law_word", "_law_found"]
noncomputable def jF:Fn:=⟨3,5,[],false,
 (.cons (.set 3 (.k (.str "")))
 (.cons (.set 4 (.k .ak))
 (.cons (.try (.cons (.set 4 (.call 10 (.cons (.v 0) (.cons (.v 1) (.cons (.v 2) .nil)))))
 .nil) (.cons [2] (.cons (.set 3 (.k (.str "great")))
 .nil) (.cons [3] (.cons (.set 3 (.k (.str "empty")))
 .nil) (.cons [4] (.cons (.set 3 (.k (.str "long")))
 .nil) (.cons [5] (.cons (.set 3 (.k (.str "deep")))
 .nil) .nil)))) .nil)
 (.cons (.ret (.tup (.cons (.v 3) (.cons (.v 4) .nil))))
 .nil))))⟩
noncomputable def qe:List PySem.Str:=["_law_script", "_law_cell", "_law_number", "_law_most", "_law_many", "_law_few", "_law_found", "_law_due", "_law_given"]
noncomputable def zM:Fn:=⟨1,9,[],false,
 (.cons (.for [1] (.e (.op .add true (.lst true (.cons (.k (.int 0)) .nil)) (.sl true (.v 0) .none (.some (.k (.int 12)))))) (.cons (.set 2 (.call 19 (.cons (.v 1) .nil)))
 (.cons (.set 3 (.op .mod true (.op .fdiv true (.v 2) (.k (.int 7))) (.k (.int 401))))
 (.cons (.ifs (.cmp .eq (.op .mod true (.v 2) (.k (.int 2))) (.k (.int 0))) (.cons (.set 4 (.op .mod true (.op .fdiv true (.v 2) (.k (.int 2807))) (.k (.int 8))))
 (.cons (.set 5 (.op .mod true (.op .fdiv true (.v 2) (.k (.int 22456))) (.k (.int 8))))
 (.cons (.set 6 (.call 26 (.cons (.call 22 (.cons (.v 4) (.cons (.v 5) .nil))) (.cons (.lst true .nil) (.cons (.v 3) .nil)))))
 (.cons (.set 7 (.call 24 (.cons (.v 4) (.cons (.v 5) (.cons (.v 3) .nil)))))
 .nil)))) (.cons (.set 4 (.op .add true (.k (.int 1)) (.op .mod true (.op .fdiv true (.v 2) (.k (.int 2807))) (.k (.int 5)))))
 (.cons (.set 8 (.op .sub true (.op .mod true (.op .fdiv true (.v 2) (.k (.int 14035))) (.k (.int 13))) (.k (.int 1))))
 (.cons (.set 6 (.call 26 (.cons (.call 23 (.cons (.v 4) .nil)) (.cons (.lst true (.cons (.v 8) .nil)) (.cons (.v 3) .nil)))))
 (.cons (.set 7 (.call 25 (.cons (.v 4) (.cons (.v 8) (.cons (.v 3) .nil)))))
 .nil)))))
 (.cons (.ifs (.cmp .ne (.v 6) (.v 7)) (.cons (.ret (.k (.bl false)))
 .nil) .nil)
 .nil)))))
 (.cons (.ret (.k (.bl true)))
 .nil))⟩
noncomputable def fns:List Fn:=[uF,dw,jj,gn,cV,gY,fT,mK,zL,d8,fS,cD,cX,bu,ef,fW,fq,bE,aT,jD,jl,eV,jE,cI,cW,cC,jF,zM]
noncomputable def cst:List D:=[(.dct [(.inr "plus"), (.inr "minus"), (.inr "times"), (.inr "less"), (.inr "pair"), (.inr "first"), (.inr "second"), (.inr "cons"), (.inr "head"), (.inr "tail"), (.inr "none"), (.inr "if")] [(.int 2), (.int 2), (.int 2), (.int 2), (.int 2), (.int 1), (.int 1), (.int 2), (.int 1), (.int 1), (.int 1), (.int 3)]), (.int 1000), (.int 12)]
noncomputable def subs:List (Nat×Nat):=[(0,0),(1,0),(1,1),(2,0),(2,2),(3,0),(3,3),(4,0),(4,4),(5,0),(5,5)]
noncomputable def aq:lP:=⟨fun i=>fns[i]?,fun i=>cst[i]?,100000,fun a b=>subs.contains (a,b)⟩
end bD
end
section
set_option maxHeartbeats 0
namespace bD
open Fg PySem PySem.Spec L2
noncomputable abbrev Jk:Program:=PySem.Challenge.pw_fieldgate_k16_great_lists_and_many_calls
noncomputable def bP (i:Nat):Stmt:=Jk.main.body.getD i (.Pass ⟨0,0,0,0⟩)
noncomputable def tb:Tb:=⟨[
 ⟨"inner", "inner", bP 9, ["part"], lM, 0, none⟩,
 ⟨"function_called", "function_called", bP 11, ["program", "name"], d9, 1, none⟩,
 ⟨"size_of", "size_of", bP 15, ["value"], jO, 2, none⟩,
 ⟨"cell_of", "cell_of", bP 16, ["word", "first", "second"], jR, 3, none⟩,
 ⟨"want_few_figures", "want_few_figures", bP 17, ["number"], dM, 4, none⟩,
 ⟨"reckoned", "reckoned", bP 18, ["word", "first", "second"], jk, 5, none⟩,
 ⟨"looked_up", "looked_up", bP 19, ["word", "value"], iN, 6, none⟩,
 ⟨"come_of", "come_of", bP 20, ["word", "given"], jQ, 7, none⟩,
 ⟨"told", "told", bP 21, ["value"], n5, 8, none⟩,
 ⟨"want_few_calls", "want_few_calls", bP 22, ["begun", "under_way", "most"], eU, 9, none⟩,
 ⟨"plain_run", "plain_run", bP 24, ["program", "numbers", "most"], iM, 10, some 200⟩,
 ⟨"_law_mixed", "_law_mixed", bP 26, ["_law_cell"], iO, 19, none⟩,
 ⟨"_law_put", "_law_put", bP 27, ["_law_part", "_law_many"], jP, 20, none⟩,
 ⟨"_law_nested", "_law_nested", bP 28, ["_law_name", "_law_part", "_law_many"], gZ, 21, none⟩,
 ⟨"_law_lists", "_law_lists", bP 29, ["_law_many", "_law_few"], iP, 22, none⟩,
 ⟨"_law_counts", "_law_counts", bP 30, ["_law_many"], g6, 23, none⟩,
 ⟨"_law_list_due", "_law_list_due", bP 31, ["_law_many", "_law_few", "_law_most"], fU, 24, none⟩,
 ⟨"_law_count_due", "_law_count_due", bP 32, ["_law_many", "_law_number", "_law_most"], fE, 25, none⟩,
 ⟨"_law_asked", "_law_asked", bP 33, ["_law_program", "_law_numbers", "_law_most"], iQ, 26, none⟩,
 ⟨"law", "law", bP 34, ["_law_script"], qe, 27, none⟩],
 ["PlainRun"],
 [(0, ⟨"__init__", "PlainRun.__init__", inClass (bP 23) 0, ["self", "program", "most"], dc, 11, none⟩),
 (0, ⟨"put_off", "PlainRun.put_off", inClass (bP 23) 1, ["self", "step", "part", "names"], dP, 12, none⟩),
 (0, ⟨"begin", "PlainRun.begin", inClass (bP 23) 2, ["self", "part", "names"], eY, 13, none⟩),
 (0, ⟨"go_on", "PlainRun.go_on", inClass (bP 23) 3, ["self", "part", "names"], eW, 14, none⟩),
 (0, ⟨"end", "PlainRun.end", inClass (bP 23) 4, ["self", "part"], fV, 15, none⟩),
 (0, ⟨"call", "PlainRun.call", inClass (bP 23) 5, ["self", "name", "given"], fF, 16, none⟩),
 (0, ⟨"put_off_body", "PlainRun.put_off_body", inClass (bP 23) 6, ["self", "name", "given"], cj, 17, none⟩),
 (0, ⟨"do_next", "PlainRun.do_next", inClass (bP 23) 7, ["self"], dQ, 18, none⟩)],
 ["GateError", "NoName", "TooGreat", "Empty", "TooLong", "TooDeep"],
 [("MOST_SIZE", 1, 1000), ("MOST_UNDER_WAY", 2, 12)],
 ["len", "tuple", "dict", "int", "abs", "max", "range", "isinstance", "zip", "reversed"],
 ["program", "most", "begun", "under_way", "todo", "waiting"],
 [],
 [("PARTS_BEHIND", 0, [("plus", 2), ("minus", 2), ("times", 2), ("less", 2), ("pair", 2), ("first", 1), ("second", 1), ("cons", 2), ("head", 1), ("tail", 1), ("none", 1), ("if", 3)])]⟩
noncomputable def HQ:Program:=W.view Jk [34]
noncomputable def hdL:List Str:=["GateError", "NoName", "TooGreat", "Empty", "TooLong", "TooDeep", "PARTS_BEHIND", "inner", "function_called", "MOST_SIZE", "MOST_UNDER_WAY", "size_of", "cell_of", "want_few_figures", "reckoned", "looked_up", "come_of", "told", "want_few_calls", "PlainRun", "plain_run", "_law_mixed", "_law_put", "_law_nested", "_law_lists", "_law_counts", "_law_list_due", "_law_count_due", "_law_asked"]
noncomputable def hdX (s:Shared):Bool:=W.xlAt HQ [] s&&W.recOk (W.RowW.records PySem.Challenge.rw_fieldgate_k16_great_lists_and_many_calls.row.toRowW) s
noncomputable def lh (w:World) (b:Bool):=(W.fencedOpening treeTable Jk w 20000).map fun s₀=>(W.topFrom treeTable Jk (w.withFollow "special-get-raises" b) 20000 s₀).map fun s=>(W.openSeen HQ hdL (importedModules Jk.main.body) hdX true s, (tb.hook aq).obs s)
theorem lft0 (w:World):lh w false=some (some (W.openGood HQ hdL, (tb.hook aq).val (w.withFollow "special-get-raises" false))):=by kernel_rfl
theorem lft1 (w:World):lh w true=some (some (W.openGood HQ hdL, (tb.hook aq).val (w.withFollow "special-get-raises" true))):=by kernel_rfl
theorem lft:W.LeftO Jk HQ hdL hdX (tb.hook aq).obs (tb.hook aq).val 20000:=W.LeftO.of_split "special-get-raises" fun w=>by
 obtain ⟨s₀,a,b⟩:=Option.map_eq_some_iff.mp (lft0 w)
 obtain ⟨s₁,c,d⟩:=Option.map_eq_some_iff.mp (lft1 w)
 rw [a] at c
 cases c
 rw [a,Option.map_some,b,d]
end bD
end
section
namespace L2
open PySem PySem.Spec PyProof.Rows
noncomputable abbrev Key:=Sum Int Str
noncomputable def kN:Key->Value->Bool
 | .inl k,v=>Value.isInt k v
 | .inr x,v=>Value.isStrOf x v
noncomputable def keyH (w:World):Key->Int
 | .inl k=>hashInt k
 | .inr x=>hashStr w x
theorem aN:∀ {k:Key} {v:Value},kN k v=true->(∃ i t,k=Sum.inl i/\v=Value.int i t)\/(∃ x t,k=Sum.inr x/\v=Value.str x t)
 | .inl i,v,h=>by
  obtain ⟨t,e⟩:=Value.isInt_shape (k:=i) (v:=v) h
  exact .inl ⟨i,t,rfl,e⟩
 | .inr x,v,h=>by
  obtain ⟨t,e⟩:=Value.isStrOf_shape (x:=x) (v:=v) h
  exact .inr ⟨x,t,rfl,e⟩
theorem v5 (i:Int) (t:Tok):kN (.inl i) (.int i t)=true:=by simp [kN,Value.isInt]
theorem jg (x:Str) (t:Tok):kN (.inr x) (.str x t)=true:=by simp [kN,Value.isStrOf]
theorem G5 (a b:Int):decide ((Sum.inl a:Key)=Sum.inl b)=(a == b):=by
 by_cases e:a=b
 ·subst e;simp
 ·have h:¬ (Sum.inl a:Key)=Sum.inl b:=fun q=>e (Sum.inl.inj q)
  rw [decide_eq_false h]
  exact (beq_eq_false_iff_ne.mpr e).symm
theorem G2 (a b:Str):decide ((Sum.inr a:Key)=Sum.inr b)=decide (a=b):=by
 by_cases e:a=b
 ·subst e;simp
 ·have h:¬ (Sum.inr a:Key)=Sum.inr b:=fun q=>e (Sum.inr.inj q)
  rw [decide_eq_false h,decide_eq_false e]
theorem G4 (a:Int) (b:Str):decide ((Sum.inl a:Key)=Sum.inr b)=false:=decide_eq_false (fun q=>nomatch q)
theorem G3 (a:Str) (b:Int):decide ((Sum.inr a:Key)=Sum.inl b)=false:=decide_eq_false (fun q=>nomatch q)
noncomputable def aG (prog:Program) (w:World):PySem.KeyKind prog w Key where
 is:=kN
 hash:=keyH w
 inj:=fun v a b ha hb=>by
  rcases aN ha with ⟨i,t,rfl,rfl⟩ | ⟨x,t,rfl,rfl⟩
  ·rcases aN hb with ⟨j,u,rfl,e⟩ | ⟨y,u,rfl,e⟩
   ·injection e with e1 _;rw [e1]
   ·exact nomatch e
  ·rcases aN hb with ⟨j,u,rfl,e⟩ | ⟨y,u,rfl,e⟩
   ·exact nomatch e
   ·injection e with e1 _;rw [e1]
 byValue:=fun k v h=>by
  rcases aN h with ⟨i,t,rfl,rfl⟩ | ⟨x,t,rfl,rfl⟩ <;> rfl
 pyHash:=fun hv h=>by
  rcases aN hv with ⟨i,t,rfl,rfl⟩ | ⟨x,t,rfl,rfl⟩
  ·exact wpAny_pyHash_int h
  ·exact wpAny_pyHash_str h
 eqBool:=fun hu hv h=>by
  rcases aN hu with ⟨i,t,rfl,rfl⟩ | ⟨x,t,rfl,rfl⟩
  ·rcases aN hv with ⟨j,u,rfl,rfl⟩ | ⟨y,u,rfl,rfl⟩
   ·rw [G5] at h;exact wpAny_eqBool_int h
   ·rw [G4] at h;exact SeqAt.EqAt.int_str i t y u _ _ _ _ h
  ·rcases aN hv with ⟨j,u,rfl,rfl⟩ | ⟨y,u,rfl,rfl⟩
   ·rw [G3] at h;exact SeqAt.EqAt.str_int x t j u _ _ _ _ h
   ·rw [G2] at h;exact wpAny_eqBool_str h
 «strs»:=fun k x t v h=>by
  rcases aN h with ⟨i,u,rfl,e⟩ | ⟨y,u,rfl,e⟩
  ·exact nomatch e
  ·injection e with e1 _
   subst e1
   cases v <;> rfl
theorem pV (prog:Program) (w:World) (i:Int) (t:Tok):(aG prog w).is (.inl i) (.int i t)=true:=v5 i t
theorem pU (prog:Program) (w:World) (x:Str) (t:Tok):(aG prog w).is (.inr x) (.str x t)=true:=jg x t
inductive V where
 | ak | bl (b:Bool) | int (i:Int) | str (x:Str) | wZ (b:Array UInt8) | Nv (b:UInt64) | ref (a:Addr) | ty (n:String)
 deriving DecidableEq
noncomputable def RelV:V->Value->Prop
 | .ak,u=>u=Value.none
 | .bl b,u=>u=Value.bool b
 | .int i,u=>∃ t,u=Value.int i t
 | .str x,u=>∃ t,u=Value.str x t
 | .wZ b,u=>∃ t,u=Value.bytes b t
 | .Nv b,u=>∃ t,u=Value.float b t
 | .ref a,u=>u=Value.ref a
 | .ty n,u=>u=Value.type n
noncomputable abbrev Vals:List V->List Value->Prop:=Paired RelV
theorem Vals.length {xs:List V} {us:List Value} (r:Vals xs us):xs.length=us.length:=Paired.length r
theorem Vals.get:∀ {xs:List V} {us:List Value} {i:Nat} {x:V},Vals xs us->xs[i]? = some x->∃ u,us[i]? = some u/\RelV x u
 | _,_,_,_,.nil,e=>by simp at e
 | _,_,0,_,.cons r _,e=>by simp at e;subst e;exact ⟨_,rfl,r⟩
 | _,_,i+1,x,.cons _ t,e=>by
  obtain ⟨u,h1,h2⟩:=Vals.get (i:=i) (x:=x) t (by simpa using e)
  exact ⟨u,by simpa using h1,h2⟩
theorem Vals.set {x:V} {u:Value} (r:RelV x u):∀ {xs:List V} {us:List Value} (i:Nat),Vals xs us->Vals (xs.set i x) (us.set i u)
 | _,_,_,.nil=>.nil
 | _,_,0,.cons _ t=>.cons r t
 | _,_,i+1,.cons q t=>.cons q (Vals.set r i t)
theorem Vals.append:∀ {xs ys:List V} {us ws:List Value},Vals xs us->Vals ys ws->Vals (xs++ys) (us++ws)
 | _,_,_,_,.nil,s=>s
 | _,_,_,_,.cons r t,s=>.cons r (Vals.append t s)
theorem Vals.take:∀ {xs:List V} {us:List Value} (n:Nat),Vals xs us->Vals (xs.take n) (us.take n)
 | _,_,0,_=>.nil
 | _,_,_+1,.nil=>.nil
 | _,_,n+1,.cons r t=>.cons r (Vals.take n t)
theorem Vals.drop:∀ {xs:List V} {us:List Value} (n:Nat),Vals xs us->Vals (xs.drop n) (us.drop n)
 | _,_,0,r=>r
 | _,_,_+1,.nil=>.nil
 | _,_,n+1,.cons _ t=>Vals.drop n t
noncomputable def ie:Option V->Option Value->Prop
 | some v,some u=>RelV v u
 | none,none=>True
 | _,_=>False
noncomputable def KV {κ:Type}:List (κ×V)->List (κ×Value)->Prop:=Paired fun (p:κ×V) (q:κ×Value)=>p.1=q.1/\RelV p.2 q.2
noncomputable def kV:Key->V
 | .inl i=>.int i
 | .inr x=>.str x
inductive HO where
 | lst (xs:List V)
 | tup (xs:List V)
 | dK (kvs:List (Key×V)) | dT (kvs:List (List Key×V))
 | set (S:Int->Bool) (n:Nat)
 | ins (C dx:Addr) (fs:List (Str×V))
 | own (x:Addr)
 | xd (fs:List (Str×V))
 | met (f x:Addr)
 | eE (lo hi:Int)
 | gk (o:Obj) (u:HO)
 | DP (ps:Array Value)
 | ext (φ:Heap->Prop)
noncomputable abbrev Hp:=Addr->Option HO
noncomputable def upd (H:Hp) (a:Addr) (o:HO):Hp:=fun b=>if b=a then some o else H b
theorem ay {H:Hp} {a:Addr} {o:HO}:upd H a o a=some o:=by unfold upd;rw [if_pos rfl]
theorem ao {H:Hp} {a b:Addr} {o:HO} (h:b≠a):upd H a o b=H b:=by unfold upd;rw [if_neg h]
theorem KQ {H:Hp} {a b:Addr} {o u:HO} (h:H a=some o) (h':H b=some u) (d:o≠u):a≠b:=by
 intro e;subst e;rw [h] at h';exact d (Option.some.inj h')
theorem cS {H:Hp} {a b:Addr} {o:HO} (h:H a=some o) (h':H b=none):a≠b:=by
 intro e;subst e;rw [h] at h';cases h'
section
variable (P:Program) (w:World)
noncomputable def bf (H:Hp) (h:Heap) (a:Addr):HO->Prop
 | .lst xs=>xs.length<=sizeLine/\∃ (its:List Value) (n:Nat), Vals xs its/\h.get? a=some { cls:=.type "list", data:=.seq its.toArray n }
 | .tup xs=>xs.length<=sizeLine/\∃ its:List Value,Vals xs its/\IsTup h a its.toArray
 | .dK kvs=>kvs.length<=sizeLine/\(a == sysModules)=false/\∃ vs,KV kvs vs/\h.DictOf (aG P w) a vs
 | .dT kvs=>kvs.length<=sizeLine/\(a == sysModules)=false/\∃ xs:List (List Key×Addr×Value),
   Paired (fun (p:List Key×V) (q:List Key×Addr×Value)=>p.1=q.1/\H q.2.1=some (.tup (p.1.map kV))/\RelV p.2 q.2.2) kvs xs /\
   ∃ o es ep,h.get? a=some o/\o.ExactDict/\o.data=.dict es ep/\es.toList=xs.map (entryOfKey (tupleKind (aG P w)))/\(xs.map (·.1)).Nodup
 | .set S n=>h.SetOf (intKind P w) a S n
 | .ins C dx fs=>H dx=some (.own a)/\fs.length<=1000/\dx≠a/\h.get? a=some (PySem.W.instObj C dx) /\
   ∃ mA,h.Ns1 dx mA/\(∀ f,ie (fs.lookup f) (mA f))/\PySem.Within mA (fs.map (·.1))
 | .own _=>∃ o,h.get? a=some o
 | .xd fs=>∃ mA,h.Ns1 a mA/\∀ f,ie (fs.lookup f) (mA f)
 | .eE lo hi=>∃ t u v, h.get? a=some { cls:=.type "range", data:=.fields #[.int lo t, .int hi u, .int 1 v] }
 | .gk o u=>h.get? a=some o/\bf H h a u
 | .DP ps=>h.get? a=some { cls:=.none,data:=.fields ps }
 | .met f x=>h.get? a=some (PySem.W.methodObj (.ref f) (.ref x))
 | .ext φ=>φ h/\(∃ o,h.get? a=some o)/\∀ h1 h2:Heap,φ h1->(∀ o,h1.get? a=some o->h2.get? a=some o)->φ h2
noncomputable def gF (H:Hp) (h:Heap):Prop:=∀ a o,H a=some o->bf P w H h a o
end
section
variable {P:Program} {w:World} {H H':Hp} {h h':Heap} {a:Addr} {o:HO}
theorem bf.lt (x:bf P w H h a o):a<h.objs.size:=by
 cases o with
 | lst xs=>obtain ⟨_,_,_,_,e⟩:=x;exact Heap.lt_size e
 | tup xs=>obtain ⟨_,_,_,p⟩:=x;exact p.lt
 | dK kvs=>obtain ⟨_,_,_,_,o,_,_,e,_⟩:=x;exact Heap.lt_size e
 | dT kvs=>obtain ⟨_,_,_,_,o,_,_,e,_⟩:=x;exact Heap.lt_size e
 | set S n=>obtain ⟨o,_,_,_,e,_⟩:=x;exact Heap.lt_size e
 | ins C dx fs=>obtain ⟨_,_,_,e,_⟩:=x;exact Heap.lt_size e
 | own y=>obtain ⟨_,e⟩:=x;exact Heap.lt_size e
 | xd fs=>obtain ⟨_,⟨_,_,_,e,_⟩,_⟩:=x;exact Heap.lt_size e
 | eE lo hi=>obtain ⟨_,_,_,e⟩:=x;exact Heap.lt_size e
 | gk ob u=>obtain ⟨e,_⟩:=x;exact Heap.lt_size e
 | DP ps=>exact Heap.lt_size (show h.get? a=some _ from x)
 | met f y=>exact Heap.lt_size (show h.get? a=some _ from x)
 | ext φ=>obtain ⟨_,⟨_,e⟩,_⟩:=x;exact Heap.lt_size e
theorem Paired.GV {α β:Type} {F G:α->β->Prop}:∀ {l₁:List α} {l₂:List β},Paired F l₁ l₂->(∀ a b,F a b->G a b)->Paired G l₁ l₂
 | _,_,.nil,_=>.nil
 | _,_,.cons r t,f=>.cons (f _ _ r) (Paired.GV t f)
theorem bf.stay (x:bf P w H h a o) (k:∀ b u,(b=a\/H b=some (.own a))->h.get? b=some u->h'.get? b=some u)
  (ho:∀ b,H b=some (.own a)->H' b=some (.own a)) (ht:∀ b xs,H b=some (.tup xs)->H' b=some (.tup xs)):bf P w H' h' a o:=by
 induction o with
 | lst xs=>obtain ⟨z,its,n,r,e⟩:=x;exact ⟨z,its,n,r,k _ _ (.inl rfl) e⟩
 | tup xs=>obtain ⟨z,its,r,ob,e,c⟩:=x;exact ⟨z,its,r,ob,k _ _ (.inl rfl) e,c⟩
 | dK kvs=>obtain ⟨z,y,vs,r,ob,es,ep,e,c⟩:=x;exact ⟨z,y,vs,r,ob,es,ep,k _ _ (.inl rfl) e,c⟩
 | dT kvs =>
  obtain ⟨z,y,xs,r,ob,es,ep,e,c⟩:=x
  exact ⟨z,y,xs,Paired.GV r fun p q z=>⟨z.1,ht _ _ z.2.1,z.2.2⟩,ob,es,ep,k _ _ (.inl rfl) e,c⟩
 | set S n=>obtain ⟨ob,es,ep,t,e,c⟩:=x;exact ⟨ob,es,ep,t,k _ _ (.inl rfl) e,c⟩
 | ins C dx fs =>
  obtain ⟨d,z,ne,e,mA,⟨od,es,ep,e2,c⟩,r⟩:=x
  exact ⟨ho _ d,z,ne,k _ _ (.inl rfl) e,mA,⟨od,es,ep,k _ _ (.inr d) e2,c⟩,r⟩
 | own y=>obtain ⟨ob,e⟩:=x;exact ⟨ob,k _ _ (.inl rfl) e⟩
 | xd fs=>obtain ⟨mA,⟨od,es,ep,e,c⟩,r⟩:=x;exact ⟨mA,⟨od,es,ep,k _ _ (.inl rfl) e,c⟩,r⟩
 | eE lo hi=>obtain ⟨t,u,v,e⟩:=x;exact ⟨t,u,v,k _ _ (.inl rfl) e⟩
 | gk ob u ih=>obtain ⟨e,q⟩:=x;exact ⟨k _ _ (.inl rfl) e,ih q⟩
 | DP ps =>
  have e:h.get? a=some { cls:=.none,data:=.fields ps }:=x
  show h'.get? a=some { cls:=.none,data:=.fields ps }
  exact k a _ (.inl rfl) e
 | met f y =>
  have e:h.get? a=some (PySem.W.methodObj (.ref f) (.ref y)):=x
  show h'.get? a=some (PySem.W.methodObj (.ref f) (.ref y))
  exact k a _ (.inl rfl) e
 | ext φ=>obtain ⟨p,⟨o,e⟩,st⟩:=x;exact ⟨st _ _ p fun o q=>k _ _ (.inl rfl) q,⟨o,k _ _ (.inl rfl) e⟩,st⟩
theorem gF.lt (x:gF P w H h) (e:H a=some o):a<h.objs.size:=(x a o e).lt
theorem gF.fresh (x:gF P w H h) (e:h.objs.size<=a):H a=none:=by
 cases q:H a with
 | none=>rfl
 | some u=>exact absurd (Nat.lt_of_lt_of_le (x.lt q) e) (Nat.lt_irrefl _)
theorem gF.kept (x:gF P w H h) (k:∀ b u,h.get? b=some u->h'.get? b=some u):gF P w H h':=fun a o e =>
 (x a o e).stay (fun b u _ q=>k b u q) (fun _ q=>q) fun _ _ q=>q
theorem gF.laid (x:gF P w H h) (k:∀ b u,h.get? b=some u->h'.get? b=some u) (hp:h.objs.size<=a) (new:bf P w (upd H a o) h' a o):gF P w (upd H a o) h':=fun b u e=>by
 have hn:=x.fresh hp
 by_cases hb:b=a
 ·subst hb;rw [ay] at e;cases e;exact new
 ·rw [ao hb] at e
  exact (x b u e).stay (fun c v _ q=>k c v q) (fun c q=>by rw [ao (cS q hn)];exact q) fun c xs q=>by rw [ao (cS q hn)];exact q
end
noncomputable def Rd (H:Hp) (a:Addr) (u:HO):Prop:=H a=some u\/∃ o,H a=some (.gk o u)
theorem Rd.ok {P:Program} {w:World} {H:Hp} {h:Heap} {a:Addr} {u:HO} (r:Rd H a u) (x:gF P w H h):bf P w H h a u:=by
 rcases r with r | ⟨o,r⟩
 ·exact x a u r
 ·obtain ⟨_,q⟩:=x a _ r
  exact q
noncomputable def Mz:Option HO->Prop
 | some (.lst _)=>True
 | some (.dK _)=>True
 | some (.dT _)=>True
 | some (.set _ _)=>True
 | some (.ins _ _ _)=>True
 | some (.ext _)=>True
 | _=>False
section
variable {P:Program} {w:World} {H:Hp} {h h':Heap} {x e:Addr} {o':HO}
theorem gF.write (ok:gF P w H h) (mu:Mz (H x)) (he:e=x\/H e=some (.own x)) (k:∀ b u,b≠e->h.get? b=some u->h'.get? b=some u) (Ew:∃ u,h'.get? e=some u)
  (new:bf P w (upd H x o') h' x o'):gF P w (upd H x o') h':=fun b u q=>by
 have KL:∀ c y,H c=some (.own y)->c≠x:=fun c y r z=>by subst z;rw [r] at mu;exact mu
 have ntup:∀ c xs,H c=some (.tup xs)->c≠x:=fun c xs r z=>by subst z;rw [r] at mu;exact mu
 by_cases hb:b=x
 ·subst hb;rw [ay] at q;cases q;exact new
 ·rw [ao hb] at q
  by_cases HR:b=e
  ·have q':H b=some (.own x):=by
    rcases he with z | z
    ·exact absurd (HR.trans z) hb
    ·rw [HR];exact z
   rw [q] at q';cases q'
   obtain ⟨v,hv⟩:=Ew
   exact ⟨v,by rw [HR];exact hv⟩
  ·refine (ok b u q).stay (fun c v hc r=>k c v ?_ r) (fun c r=>by rw [ao (KL c b r)];exact r) fun c xs r=>by rw [ao (ntup c xs r)];exact r
   rcases hc with rfl | hc
   ·exact HR
   ·rintro rfl
    rcases he with z | z
    ·exact KL c b hc z
    ·rw [hc] at z;cases z;exact hb rfl
end
structure Un (fs ex:List Addr) (H H':Hp) (h h':Heap):Prop where
 keep:∀ b o,h.get? b=some o->H b=none->b∉fs->b∉ex->h'.get? b=some o
 slot:∀ b o,h.get? b=some o->H b=none->b∈fs->b∉ex->∃ sl,h'.get? b=some { o with slots:=sl }
 free:∀ b o,h.get? b=some o->H b=none->b∉ex->H' b=none
 there:∀ b o,h.get? b=some o->b∉ex->∃ o',h'.get? b=some o'
 tups:∀ b xs,H b=some (.tup xs)->H' b=some (.tup xs)
 gB:∀ b o u,H b=some (.gk o u)->H' b=some (.gk o u)
 iw:∀ b ps,H b=some (.DP ps)->∃ more,H' b=some (.DP (ps++more))
section
variable {fs fs' ex ex':List Addr} {H H1 H2:Hp} {h h1 h2 h':Heap} {a x e:Addr} {o:HO}
theorem Un.any (u:Un fs ex H H1 h h1) {b:Addr} {ob:Obj} (q:h.get? b=some ob) (n:H b=none) (hx:b∉ex):∃ sl,h1.get? b=some { ob with slots:=sl }:=by
 by_cases hb:b∈fs
 ·exact u.slot b ob q n hb hx
 ·exact ⟨ob.slots,u.keep b ob q n hb hx⟩
theorem Un.trans (a:Un fs ex H H1 h h1) (b:Un fs ex H1 H2 h1 h2):Un fs ex H H2 h h2 where
 keep:=fun c ob q n hc hx=>b.keep c ob (a.keep c ob q n hc hx) (a.free c ob q n hx) hc hx
 slot:=fun c ob q n hc hx=>by
  obtain ⟨sl,e1⟩:=a.slot c ob q n hc hx
  obtain ⟨DX,e2⟩:=b.slot c _ e1 (a.free c ob q n hx) hc hx
  exact ⟨DX,e2⟩
 free:=fun c ob q n hx=>by
  obtain ⟨o',e1⟩:=a.there c ob q hx
  exact b.free c o' e1 (a.free c ob q n hx) hx
 there:=fun c ob q hx=>by
  obtain ⟨o',e1⟩:=a.there c ob q hx
  exact b.there c o' e1 hx
 tups:=fun c xs q=>b.tups c xs (a.tups c xs q)
 gB:=fun c ob xs q=>b.gB c ob xs (a.gB c ob xs q)
 iw:=fun c ps q=>by
  obtain ⟨m1,e1⟩:=a.iw c ps q
  obtain ⟨m2,e2⟩:=b.iw c _ e1
  exact ⟨m1++m2,by rw [e2,Array.append_assoc]⟩
theorem Un.kept (k:∀ b u,h.get? b=some u->h'.get? b=some u):Un fs ex H H h h' :=
 ⟨fun b ob q _ _ _=>k b ob q,fun b ob q _ _ _=>⟨ob.slots,k b ob q⟩,fun _ _ _ n _=>n,fun b ob q _=>⟨ob,k b ob q⟩,fun _ _ q=>q,fun _ _ _ q=>q,fun _ ps q=>⟨#[],by rw [q];simp⟩⟩
theorem Un.refl:Un fs ex H H h h:=Un.kept fun _ _ q=>q
theorem Un.laid (k:∀ b u,h.get? b=some u->h'.get? b=some u) (hp:h.objs.size<=a) (hn:H a=none):Un fs ex H (upd H a o) h h' where
 keep:=fun b u q _ _ _=>k b u q
 slot:=fun b u q _ _ _=>⟨u.slots,k b u q⟩
 free:=fun b u q n _=>by rw [ao (Nat.ne_of_lt (Nat.lt_of_lt_of_le (Heap.lt_size q) hp))];exact n
 there:=fun b u q _=>⟨u,k b u q⟩
 tups:=fun b xs q=>by rw [ao (cS q hn)];exact q
 gB:=fun b u xs q=>by rw [ao (cS q hn)];exact q
 iw:=fun b ps q=>⟨#[],by rw [ao (cS q hn),q];simp⟩
theorem Un.write (mu:Mz (H x)) (he:e=x\/H e=some (.own x)) (k:∀ b u,b≠e->h.get? b=some u->h'.get? b=some u) (Ew:∃ u,h'.get? e=some u):Un fs ex H (upd H x o) h h':=by
 have hx:∀ b,H b=none->b≠x:=fun b n z=>by subst z;rw [n] at mu;exact mu
 have hb:∀ b,H b=none->b≠e:=fun b n z=>by
  subst z
  rcases he with r | r
  ·exact hx b n r
  ·rw [n] at r;cases r
 have hm:∀ b u,H b=some u->¬ Mz (some u)->b≠x:=fun b u q nm z=>by subst z;rw [q] at mu;exact nm mu
 refine ⟨fun b u q n _ _=>k b u (hb b n) q,fun b u q n _ _=>⟨u.slots,k b u (hb b n) q⟩,fun b u q n _=>by rw [ao (hx b n)];exact n,fun b u q _=>?_,
  fun b xs q=>by rw [ao (hm b _ q fun z=>z)];exact q,fun b u xs q=>by rw [ao (hm b _ q fun z=>z)];exact q,fun b ps q=>⟨#[],by rw [ao (hm b _ q fun z=>z),q];simp⟩⟩
 by_cases HR:b=e
 ·subst HR;exact Ew
 ·exact ⟨u,k b u HR q⟩
end
noncomputable def MK (h:Heap) (H:Hp):List Addr:=(List.range h.objs.size).filter fun a=>(H a).isSome
noncomputable def nT (h:Heap) (H:Hp):Heap:=PySem.W.hideAll h (MK h H)
theorem wj (h:Heap) (H:Hp):(nT h H).objs.size=h.objs.size:=PySem.W.hideAll_size _ _
theorem zE {h:Heap} {H:Hp} {b:Addr} {o:Obj} (e:h.get? b=some o) (n:H b=none):(nT h H).get? b=some o :=
 PySem.W.hideAll_get _ e fun hm=>by
  have q:(H b).isSome=true:=(List.mem_filter.mp hm).2
  rw [n] at q;simp at q
theorem Cm {h:Heap} {H:Hp} {b:Addr} {o:Obj} (e:(nT h H).get? b=some o):h.get? b=some o/\H b=none:=by
 have e':h.get? b=some o:=PySem.W.of_hideAll (MK h H) e
 refine ⟨e',?_⟩
 cases q:H b with
 | none=>rfl
 | some x =>
  have hm:b∈MK h H:=List.mem_filter.mpr ⟨List.mem_range.mpr (Heap.lt_size e'),by simp [q]⟩
  have z:(nT h H).get? b=none:=PySem.W.hideAll_none (MK h H) hm
  rw [z] at e;cases e
noncomputable def DA (g h:Heap) (L:Addr):List (Addr×Obj):=(List.range h.objs.size).filterMap fun a=>if a=L\/(g.get? a).isSome=true then none else (h.get? a).map fun o=>(a,o)
noncomputable def rest (g h:Heap) (L d:Addr):List (Addr×Obj):=(DA g h L).filter fun p=>decide (p.1≠d)
structure Mod (K:PySem.W.Frag) (mg:Str->Option Value) (base:Heap):Prop where
 Ej:K.In base
 glob:base.Ns mainGlobals mg
 blt:∃ mb, base.Ns builtinsNs mb/\∀ x:Str, x≠"__name__"->mb x=bootBuiltins x
 nolimit:base.NoLimit
structure Cx where
 prog:Program
 w:World
 K:PySem.W.Frag
 mg:Str->Option Value
 base:Heap
 A:Around
 N:List Str
 s₀:Shared
 H₀:Hp
 env:Env
 outer:List Env
 stack:List Env
 ex:List Addr
 fn:Str->Bool
 calm:Bool
 pn:List (Addr×Obj)
 xe:Value->Shared->Prop
noncomputable def frs (l:List Env):List Addr:=l.filterMap (·.frame)
noncomputable abbrev Cx.fs (X:Cx):List Addr:=frs X.outer
noncomputable def NQ (sc:Scope) (x:Str):Prop:=sc.names.lookup x=some .local\/sc.names.lookup x=some .cell\/sc.names.lookup x=some .free
noncomputable def Loc (sc:Scope) (x:Str):Prop:=sc.names.lookup x=some .local\/sc.names.lookup x=some .cell
noncomputable def Look (env:Env) (h:Heap) (m:Str->Option Value) (x:Str) (u:Value):Prop :=
 (env.kindOf x=some .local/\m x=some u)\/((env.kindOf x=some .cell\/env.kindOf x=some .free)/\∃ c,env.cells.lookup x=some c/\h.IsCell c (some u))
structure Cx.Ok (X:Cx):Prop where
 mod:Mod X.K X.mg X.base
 kind:X.env.scope.kind=.function
 glob:X.env.globals=mainGlobals
 blt:X.env.builtins=builtinsNs
 above:X.s₀.heap.objs.size<=X.env.locals
 inj:∀ x y c,X.env.cells.lookup x=some c->X.env.cells.lookup y=some c->x=y
 has:∀ x,(X.env.kindOf x=some .cell\/X.env.kindOf x=some .free)->∃ c,X.env.cells.lookup x=some c
 EU:∀ x c,X.fn x=true->X.env.cells.lookup x=some c->X.s₀.heap.objs.size<=c
 hd:X.calm=true->X.A.handled=none
 frames:X.A.frames=some X.stack
 stk:X.stack=X.outer\/(X.stack=X.env::X.outer/\X.env.frame=some X.env.locals)
 Lq:∀ b∈X.ex,b≠X.env.locals/\∀ x c,X.env.cells.lookup x=some c->c≠b
 bs:∀ b o,X.base.get? b=some o->X.s₀.heap.get? b=some o/\X.H₀ b=none
 wM:X.base.objs.size<=X.s₀.heap.objs.size
 pQ:∀ b o,X.base.get? b=some o->b∉X.ex
 sA:∀ b∈X.ex,b∉X.fs
 gA:X.s₀.heap.FunFrames X.base X.outer
 zH:∀ b∈X.fs,X.H₀ b=none
structure Inv (X:Cx) (pins:List (Addr×Obj)) (σ:List (Option V)) (H:Hp) (s:Shared):Prop where
 ok:X.Ok
 os:s.os=X.s₀.os
 bare:AllBare s.gens
 base:Un X.fs X.ex X.H₀ H X.s₀.heap s.heap
 loc:∃ m,s.heap.Ns X.env.locals m/\∀ (i:Nat) (x:Str) (v:V),X.N[i]? = some x->σ[i]? = some (some v)->NQ X.env.scope x->∃ u,RelV v u/\Look X.env s.heap m x u
 cell:∀ x c,X.env.cells.lookup x=some c->∃ v,s.heap.IsCell c v
 free:H X.env.locals=none
 cg:∀ x c,X.env.cells.lookup x=some c->H c=none
 pin:∀ p∈X.pn++pins,s.heap.get? p.1=some p.2/\H p.1=none/\p.1≠X.env.locals/\p.1∉X.fs/\∀ v,p.2.data≠.cell v
 hok:gF X.prog X.w H s.heap
 len:σ.length=X.N.length
section
variable {X:Cx} {pins:List (Addr×Obj)} {σ:List (Option V)} {H H':Hp} {s:Shared} {h':Heap}
theorem Cx.Ok.nofr (ok:X.Ok) {b:Addr} {o:Obj} (e:X.base.get? b=some o):b∉X.fs:=fun hb=>by
 have:=(ok.gA.mem hb).1
 rw [e] at this;cases this
theorem Inv.bs (I:Inv X pins σ H s):∀ b o,X.base.get? b=some o->s.heap.get? b=some o/\H b=none:=fun b o e =>
 ⟨I.base.keep b o (I.ok.bs b o e).1 (I.ok.bs b o e).2 (I.ok.nofr e) (I.ok.pQ b o e),I.base.free b o (I.ok.bs b o e).1 (I.ok.bs b o e).2 (I.ok.pQ b o e)⟩
theorem Inv.bk (I:Inv X pins σ H s):∀ b o,X.base.get? b=some o->s.heap.get? b=some o:=fun b o e=>(I.bs b o e).1
theorem Inv.mod (I:Inv X pins σ H s):Mod X.K X.mg X.base:=I.ok.mod
theorem Inv.iK (I:Inv X pins σ H s):X.K.In s.heap:=I.ok.mod.Ej.keeps I.bk
theorem Inv.lt (I:Inv X pins σ H s):X.env.locals<s.heap.objs.size:=let ⟨_,hn,_⟩:=I.loc;hn.lt
theorem Inv.sz (I:Inv X pins σ H s):X.s₀.heap.objs.size<=s.heap.objs.size:=Nat.le_trans I.ok.above (Nat.le_of_lt I.lt)
theorem Inv.KN (I:Inv X pins σ H s) {a:Addr} (h:s.heap.objs.size<=a):a∉X.fs:=fun hb=>by
 obtain ⟨_,o,ho,_⟩:=I.ok.gA.mem hb
 exact absurd (Nat.lt_of_lt_of_le (Heap.lt_size ho) (Nat.le_trans I.sz h)) (Nat.lt_irrefl _)
theorem Inv.IE (I:Inv X pins σ H s):∀ x c,X.env.cells.lookup x=some c->c≠X.env.locals:=fun x c e z=>by
 obtain ⟨v,o,ho,hd⟩:=I.cell x c e
 obtain ⟨m,⟨o',es,ep,ho',hd',_⟩,_⟩:=I.loc
 rw [z,ho'] at ho;cases ho;rw [hd'] at hd;cases hd
theorem Inv.gA (I:Inv X pins σ H s):s.heap.FunFrames X.base X.outer:=by
 have all:∀ (l:List Env),(∀ b∈frs l,b∈X.fs)->X.s₀.heap.FunFrames X.base l->s.heap.FunFrames X.base l:=by
  intro l
  induction l with
  | nil=>intro _ _;trivial
  | cons env r ih =>
   intro hs hl
   obtain ⟨hk,⟨L,o,hf,hn,ho,hd⟩,hr⟩:=hl
   have hL:L∈X.fs:=hs L (by unfold frs;rw [List.filterMap_cons,hf];exact List.mem_cons_self)
   obtain ⟨sl,e⟩:=I.base.slot L o ho (I.ok.zH L hL) hL fun z=>I.ok.sA L z hL
   exact ⟨hk,⟨L,_,hf,hn,e,hd⟩,ih (fun b hb=>hs b (by unfold frs;rw [List.filterMap_cons,hf];exact List.mem_cons_of_mem _ hb)) hr⟩
 exact all X.outer (fun _ hb=>hb) I.ok.gA
theorem Inv.stack (I:Inv X pins σ H s):s.heap.FunFrames X.base X.stack:=by
 rcases I.ok.stk with e | ⟨e,hf⟩
 ·rw [e];exact I.gA
 ·rw [e]
  obtain ⟨m,hn,_⟩:=I.loc
  refine .cons (by rw [I.ok.kind];decide) hf hn ?_ I.gA
  exact Heap.get?_none_of_le (Nat.le_trans I.ok.wM I.ok.above)
theorem Inv.eF (I:Inv X pins σ H s):∀ b∈frs X.stack,b∈X.env.locals::X.fs:=fun b hb=>by
 rcases I.ok.stk with e | ⟨e,hf⟩
 ·rw [e] at hb;exact List.mem_cons_of_mem _ hb
 ·rw [e] at hb
  unfold frs at hb
  rw [List.filterMap_cons,hf] at hb
  exact hb
theorem Inv.gf (I:Inv X pins σ H s):∀ b∈frs X.stack,H b=none:=fun b hb=>by
 rcases List.mem_cons.mp (I.eF b hb) with e | hb
 ·rw [e];exact I.free
 ·obtain ⟨_,o,ho,_⟩:=I.ok.gA.mem hb
  exact I.base.free b o ho (I.ok.zH b hb) fun z=>I.ok.sA b z hb
theorem Inv.step {g':Array GenState} {t':Nat} {d':Drawn} {ch:List Addr} (I:Inv X pins σ H s)
  (hch:∀ b∈ch,(b∈X.ex\/X.s₀.heap.objs.size<=b)/\b≠X.env.locals/\(∀ x c,X.env.cells.lookup x=some c->c≠b)/\∀ p∈X.pn++pins,p.1≠b)
  (keep:∀ b o,b≠X.env.locals->b∉X.fs->b∉ch->s.heap.get? b=some o->H b=none->h'.get? b=some o)
  (slot:∀ b o,b≠X.env.locals->b∈X.fs->b∉ch->s.heap.get? b=some o->H b=none->∃ sl,h'.get? b=some { o with slots:=sl }) (free:∀ b o,b∉ch->s.heap.get? b=some o->H b=none->H' b=none)
  (there:∀ b o,b∉ch->s.heap.get? b=some o->∃ o',h'.get? b=some o')
  (tups:∀ b xs,H b=some (.tup xs)->H' b=some (.tup xs)) (gB:∀ b o u,H b=some (.gk o u)->H' b=some (.gk o u)) (iw:∀ b ps,H b=some (.DP ps)->∃ more,H' b=some (.DP (ps++more)))
  (ns:∀ m,s.heap.Ns X.env.locals m->h'.Ns X.env.locals m) (hok:gF X.prog X.w H' h') (hg:AllBare g') :
  Inv X pins σ H' { s with heap:=h',gens:=g',drawn:=d',toks:=t' }:=by
 have neL:∀ b o,X.s₀.heap.get? b=some o->b≠X.env.locals:=fun b o e=>Nat.ne_of_lt (Nat.lt_of_lt_of_le (Heap.lt_size e) I.ok.above)
 have AN:∀ b o,X.s₀.heap.get? b=some o->b∉X.ex->b∉ch:=fun b o e hx hb=>by
  rcases (hch b hb).1 with z | z
  ·exact hx z
  ·exact absurd (Nat.lt_of_lt_of_le (Heap.lt_size e) z) (Nat.lt_irrefl _)
 have cellK:∀ x c,X.env.cells.lookup x=some c->∀ v,s.heap.IsCell c v->h'.IsCell c v:=fun x c e v ⟨o,ho,hd⟩=>by
  have KR:c∉ch:=fun z=>(hch c z).2.2.1 x c e rfl
  by_cases hc:c∈X.fs
  ·obtain ⟨sl,q⟩:=slot c o (I.IE x c e) hc KR ho (I.cg x c e)
   exact ⟨_,q,hd⟩
  ·exact ⟨o,keep c o (I.IE x c e) hc KR ho (I.cg x c e),hd⟩
 refine ⟨I.ok,I.os,hg,⟨fun b o e n hb hx=>?_,fun b o e n hb hx=>?_,fun b o e n hx=>?_,fun b o e hx=>?_,fun b xs e=>tups b xs (I.base.tups b xs e),fun b o xs e=>gB b o xs (I.base.gB b o xs e),fun b ps e=>?_⟩,?_,fun x c e=>?_,?_,fun x c e=>?_,fun p hp=>?_,hok,I.len⟩
 ·exact keep b o (neL b o e) hb (AN b o e hx) (I.base.keep b o e n hb hx) (I.base.free b o e n hx)
 ·obtain ⟨sl,e1⟩:=I.base.slot b o e n hb hx
  obtain ⟨DX,e2⟩:=slot b _ (neL b o e) hb (AN b o e hx) e1 (I.base.free b o e n hx)
  exact ⟨DX,e2⟩
 ·obtain ⟨o',e1⟩:=I.base.there b o e hx
  exact free b o' (AN b o e hx) e1 (I.base.free b o e n hx)
 ·obtain ⟨o',e1⟩:=I.base.there b o e hx
  exact there b o' (AN b o e hx) e1
 ·obtain ⟨m1,e1⟩:=I.base.iw b ps e
  obtain ⟨m2,e2⟩:=iw b _ e1
  exact ⟨m1++m2,by rw [e2,Array.append_assoc]⟩
 ·obtain ⟨m,hn,hl⟩:=I.loc
  refine ⟨m,ns m hn,fun i x v e1 e2 e3=>?_⟩
  obtain ⟨u,r,l⟩:=hl i x v e1 e2 e3
  refine ⟨u,r,?_⟩
  rcases l with l | ⟨k,c,e,z⟩
  ·exact .inl l
  ·exact .inr ⟨k,c,e,cellK x c e _ z⟩
 ·obtain ⟨v,z⟩:=I.cell x c e
  exact ⟨v,cellK x c e v z⟩
 ·obtain ⟨m,⟨o,_,_,ho,_⟩,_⟩:=I.loc
  exact free _ o (fun z=>(hch _ z).2.1 rfl) ho I.free
 ·obtain ⟨v,o,ho,hd⟩:=I.cell x c e
  exact free c o (fun z=>(hch c z).2.2.1 x c e rfl) ho (I.cg x c e)
 ·obtain ⟨e,n,ne,nf,d⟩:=I.pin p hp
  have KR:p.1∉ch:=fun z=>(hch p.1 z).2.2.2 p hp rfl
  exact ⟨keep p.1 p.2 ne nf KR e n,free p.1 p.2 KR e n,ne,nf,d⟩
theorem Inv.un {t':Nat} (I:Inv X pins σ H s) (u:Un X.fs [] H H' s.heap h') (hok:gF X.prog X.w H' h'):Inv X pins σ H' { s with heap:=h',toks:=t' }:=by
 obtain ⟨m,⟨o,es,ep,ho,r⟩,_⟩:=id I.loc
 obtain ⟨sl,hL⟩:=u.any ho I.free (by simp)
 exact I.step (g':=s.gens) (d':=s.drawn) (ch:=[]) (fun _ z=>nomatch z) (fun b o _ hb _ e n=>u.keep b o e n hb (by simp)) (fun b o _ hb _ e n=>u.slot b o e n hb (by simp)) (fun b o _ e n=>u.free b o e n (by simp)) (fun b o _ e=>u.there b o e (by simp)) u.tups u.gB u.iw (fun m' hm=>by
  obtain ⟨o',es',LF,ho',r'⟩:=hm
  rw [ho] at ho';cases ho'
  exact ⟨_,es',LF,hL,r'⟩) hok I.bare
theorem Inv.call {g':Array GenState} {t':Nat} {d':Drawn} {ch:List Addr} (I:Inv X pins σ H s) (u:Un (frs X.stack) ch H H' s.heap h') (hok:gF X.prog X.w H' h') (hg:AllBare g')
  (hch:∀ b∈ch,(b∈X.ex\/X.s₀.heap.objs.size<=b)/\b≠X.env.locals/\(∀ x c,X.env.cells.lookup x=some c->c≠b)/\∀ p∈X.pn++pins,p.1≠b) :
  Inv X pins σ H' { s with heap:=h',gens:=g',drawn:=d',toks:=t' }:=by
 obtain ⟨m,⟨o,es,ep,ho,r⟩,_⟩:=id I.loc
 obtain ⟨sl,hL⟩:=u.any ho I.free fun z=>(hch _ z).2.1 rfl
 exact I.step (ch:=ch) hch (fun b o hL hb hc e n=>u.keep b o e n (fun z=>(List.mem_cons.mp (I.eF b z)).elim hL hb) hc) (fun b o _ _ hc e n=>u.any e n hc) (fun b o hc e n=>u.free b o e n hc) (fun b o hc e=>u.there b o e hc) u.tups u.gB u.iw (fun m' hm=>by
  obtain ⟨o',es',LF,ho',r'⟩:=hm
  rw [ho] at ho';cases ho'
  exact ⟨_,es',LF,hL,r'⟩) hok hg
theorem Inv.turned {t':Nat} {it:Addr} (I:Inv X pins σ H s) (k:∀ b o,b≠it->s.heap.get? b=some o->h'.get? b=some o) (hn:H it=none) (hL:it≠X.env.locals)
  (h1:it∈X.ex\/X.s₀.heap.objs.size<=it) (h2:∀ x c,X.env.cells.lookup x=some c->c≠it) (h3:∀ p∈X.pn++pins,p.1≠it):Inv X pins σ H { s with heap:=h',toks:=t' }:=by
 have nit:∀ b u,H b=some u->b≠it:=fun b u e z=>by rw [z,hn] at e;cases e
 refine I.step (g':=s.gens) (d':=s.drawn) (ch:=[it]) (fun b hb=>?_) (fun b o _ _ hc e _=>k b o (fun z=>hc (by simp [z])) e) (fun b o _ _ hc e _=>⟨o.slots,k b o (fun z=>hc (by simp [z])) e⟩) (fun _ _ _ _ n=>n)
  (fun b o hc e=>⟨o,k b o (fun z=>hc (by simp [z])) e⟩) (fun _ _ e=>e) (fun _ _ _ e=>e) (fun b ps e=>⟨#[],by rw [e];simp⟩) (fun m hm=>?_) (fun b u e=>?_) I.bare
 ·have e:b=it:=by simpa using hb
  subst e
  exact ⟨h1,hL,h2,h3⟩
 ·obtain ⟨o,es,ep,ho,r⟩:=hm
  exact ⟨o,es,ep,k _ o (Ne.symm hL) ho,r⟩
 ·refine (I.hok b u e).stay (fun c v hc q=>k c v ?_ q) (fun _ q=>q) fun _ _ q=>q
  rcases hc with z | z
  ·rw [z];exact nit b u e
  ·exact nit c _ z
theorem Inv.tok (I:Inv X pins σ H s) (t:Nat):Inv X pins σ H { s with toks:=t }:=I.un (h':=s.heap) (t':=t) Un.refl I.hok
theorem Inv.kept {t':Nat} (I:Inv X pins σ H s) (k:∀ b u,s.heap.get? b=some u->h'.get? b=some u):Inv X pins σ H { s with heap:=h',toks:=t' }:=I.un (Un.kept k) (I.hok.kept k)
theorem Inv.laid {a:Addr} {o:HO} {t':Nat} (I:Inv X pins σ H s) (k:∀ b u,s.heap.get? b=some u->h'.get? b=some u) (hp:s.heap.objs.size<=a) (new:bf X.prog X.w (upd H a o) h' a o) :
  Inv X pins σ (upd H a o) { s with heap:=h',toks:=t' }:=I.un (Un.laid k hp (I.hok.fresh hp)) (I.hok.laid k hp new)
theorem Inv.write {x e:Addr} {o:HO} {t':Nat} (I:Inv X pins σ H s) (mu:Mz (H x)) (he:e=x\/H e=some (.own x)) (k:∀ b u,b≠e->s.heap.get? b=some u->h'.get? b=some u) (Ew:∃ u,h'.get? e=some u)
  (new:bf X.prog X.w (upd H x o) h' x o):Inv X pins σ (upd H x o) { s with heap:=h',toks:=t' }:=I.un (Un.write mu he k Ew) (I.hok.write mu he k Ew new)
theorem Inv.uc {kF:List (Addr×Obj)} (I:Inv X pins σ H s) (h:∀ p∈kF,s.heap.get? p.1=some p.2/\H p.1=none/\p.1≠X.env.locals/\p.1∉X.fs/\∀ v,p.2.data≠.cell v):Inv X kF σ H s :=
 ⟨I.ok,I.os,I.bare,I.base,I.loc,I.cell,I.free,I.cg,fun p hp=>(List.mem_append.mp hp).elim (fun z=>I.pin p (List.mem_append_left _ z)) (h p),I.hok,I.len⟩
theorem pR {N:List Str} (hN:N.Nodup) {i j:Nat} {x:Str} (a:N[i]? = some x) (b:N[j]? = some x):i=j:=by
 obtain ⟨h1,e1⟩:=List.getElem?_eq_some_iff.mp a
 obtain ⟨h2,e2⟩:=List.getElem?_eq_some_iff.mp b
 exact (List.getElem_inj hN).mp (e1.trans e2.symm)
theorem lY {M:Model} {A:Around} {E:Value->Shared->Prop} {i:Nat} {x:Str} {v:V} {u:Value} {Q:Unit->Shared->Prop} (I:Inv X pins σ H s) (hN:X.N.Nodup) (hi:X.N[i]? = some x) (hx:Loc X.env.scope x) (r:RelV v u)
  (h:∀ s',Inv X pins (σ.set i (some v)) H s'->(∃ a,Heap.SameBut a s.heap s'.heap/\(a=X.env.locals\/X.env.cells.lookup x=some a))->Q () s') (hf:X.fn x=true\/X.env.scope.names.lookup x=some .local:=by first | exact .inl rfl | exact .inr rfl | assumption):wpAny M A (storeName X.env x u) Q E s:=by
 obtain ⟨m,hn,hl⟩:=id I.loc
 have hcls:(X.env.scope.kind == .class||(X.env.scope.kind == .module&&X.env.locals != X.env.globals))=false:=by rw [I.ok.kind];rfl
 have Lc:i<σ.length:=by rw [I.len];exact (List.getElem?_eq_some_iff.mp hi).1
 have IE:=I.IE
 have tracked:∀ {a:Addr} {h':Heap},(∃ o,s.heap.get? a=some o/\H a=none)->Heap.SameBut a s.heap h'->gF X.prog X.w H h':=fun {a h'} ha hs b ob e=>by
  obtain ⟨_,_,hfree⟩:=ha
  refine (I.hok b ob e).stay (fun c w' hc q=>(hs.2 c ?_).trans q) (fun _ q=>q) fun _ _ q=>q
  rintro rfl
  rcases hc with rfl | hc
  ·rw [hfree] at e;cases e
  ·rw [hfree] at hc;cases hc
 rcases hx with hk | hk
 ·refine wpAny_storeName_local hk hn (fun h' hn' hs=>?_) hcls
  obtain ⟨oL,_,_,hoL,_⟩:=id hn
  refine h _ ⟨I.ok,I.os,I.bare,⟨fun b o e n hb hx=>?_,fun b o e n hb hx=>?_,I.base.free,fun b o e hx=>?_,I.base.tups,I.base.gB,I.base.iw⟩,⟨_,hn',fun j y v' e1 e2 e3=>?_⟩,fun y c e=>?_,I.free,I.cg,fun p hp=>?_,tracked ⟨oL,hoL,I.free⟩ hs,by simpa using I.len⟩ ⟨_,hs,.inl rfl⟩
  ·exact (hs.2 b (Nat.ne_of_lt (Nat.lt_of_lt_of_le (Heap.lt_size e) I.ok.above))).trans (I.base.keep b o e n hb hx)
  ·obtain ⟨sl,e1⟩:=I.base.slot b o e n hb hx
   exact ⟨sl,(hs.2 b (Nat.ne_of_lt (Nat.lt_of_lt_of_le (Heap.lt_size e) I.ok.above))).trans e1⟩
  ·obtain ⟨o',e1⟩:=I.base.there b o e hx
   exact ⟨o',(hs.2 b (Nat.ne_of_lt (Nat.lt_of_lt_of_le (Heap.lt_size e) I.ok.above))).trans e1⟩
  ·by_cases hj:j=i
   ·subst hj
    rw [hi] at e1;cases e1
    rw [List.getElem?_set_self Lc] at e2
    cases e2
    exact ⟨u,r,.inl ⟨hk,by simp⟩⟩
   ·rw [List.getElem?_set_ne (Ne.symm hj)] at e2
    obtain ⟨u',r',q⟩:=hl j y v' e1 e2 e3
    refine ⟨u',r',?_⟩
    rcases q with ⟨k,e⟩ | ⟨k,c,e,z⟩
    ·refine .inl ⟨k,?_⟩
     have:y≠x:=fun e=>hj (pR hN e1 (e ▸ hi))
     simp [this,e]
    ·exact .inr ⟨k,c,e,z.sameBut hs (IE y c e)⟩
  ·obtain ⟨w',z⟩:=I.cell y c e
   exact ⟨w',z.sameBut hs (IE y c e)⟩
  ·obtain ⟨e,n,ne,nf,d⟩:=I.pin p hp
   exact ⟨(hs.2 p.1 ne).trans e,n,ne,nf,d⟩
 ·have hfn:X.fn x=true:=by
   rcases hf with z | z
   ·exact z
   ·rw [z] at hk;cases hk
  obtain ⟨c,hc⟩:=I.ok.has x (.inl hk)
  obtain ⟨w',z⟩:=I.cell x c hc
  refine wpAny_storeName_cell I.ok.kind hk hc z (fun h' hc' hs=>?_)
  obtain ⟨oc,hoc,hocd⟩:=id z
  refine h { s with heap:=h' } ⟨I.ok,I.os,I.bare,⟨fun b o e n hb hx=>?_,fun b o e n hb hx=>?_,I.base.free,fun b o e hx=>?_,I.base.tups,I.base.gB,I.base.iw⟩,⟨m,hn.sameBut hs (Ne.symm (IE x c hc)),fun j y v' e1 e2 e3=>?_⟩,fun y c' e=>?_,I.free,I.cg,fun p hp=>?_,tracked ⟨oc,hoc,I.cg x c hc⟩ hs,by simpa using I.len⟩ ⟨c,hs,.inr hc⟩
  ·exact (hs.2 b (Nat.ne_of_lt (Nat.lt_of_lt_of_le (Heap.lt_size e) (I.ok.EU x c hfn hc)))).trans (I.base.keep b o e n hb hx)
  ·obtain ⟨sl,e1⟩:=I.base.slot b o e n hb hx
   exact ⟨sl,(hs.2 b (Nat.ne_of_lt (Nat.lt_of_lt_of_le (Heap.lt_size e) (I.ok.EU x c hfn hc)))).trans e1⟩
  ·obtain ⟨o',e1⟩:=I.base.there b o e hx
   exact ⟨o',(hs.2 b (Nat.ne_of_lt (Nat.lt_of_lt_of_le (Heap.lt_size e) (I.ok.EU x c hfn hc)))).trans e1⟩
  ·by_cases hj:j=i
   ·subst hj
    rw [hi] at e1;cases e1
    rw [List.getElem?_set_self Lc] at e2
    cases e2
    exact ⟨u,r,.inr ⟨.inl hk,c,hc,hc'⟩⟩
   ·rw [List.getElem?_set_ne (Ne.symm hj)] at e2
    obtain ⟨u',r',q⟩:=hl j y v' e1 e2 e3
    refine ⟨u',r',?_⟩
    rcases q with q | ⟨k,c',e,z'⟩
    ·exact .inl q
    ·refine .inr ⟨k,c',e,z'.sameBut hs ?_⟩
     rintro rfl
     exact hj (pR hN e1 (I.ok.inj _ _ _ e hc ▸ hi))
  ·by_cases hcc:c'=c
   ·subst hcc;exact ⟨_,hc'⟩
   ·obtain ⟨w2,z2⟩:=I.cell y c' e
    exact ⟨w2,z2.sameBut hs hcc⟩
  ·obtain ⟨e,n,ne,nf,d⟩:=I.pin p hp
   refine ⟨(hs.2 p.1 ?_).trans e,n,ne,nf,d⟩
   intro q
   rw [q,hoc] at e
   have q':oc=p.2:=Option.some.inj e
   exact d w' (by rw [<- q'];exact hocd)
theorem oQ {M:Model} {A:Around} {E:Value->Shared->Prop} {i:Nat} {x:Str} {v:V} {u:Value} {Q:Unit->Shared->Prop} (I:Inv X pins σ H s) (hN:X.N.Nodup) (hi:X.N[i]? = some x) (hx:Loc X.env.scope x) (r:RelV v u)
  (h:∀ s',Inv X pins (σ.set i (some v)) H s'->Q () s') (hf:X.fn x=true\/X.env.scope.names.lookup x=some .local:=by first | exact .inl rfl | exact .inr rfl | assumption):wpAny M A (storeName X.env x u) Q E s :=
 lY I hN hi hx r (fun s' I' _=>h s' I') hf
theorem Inv.As {s':Shared} {ch:List Addr} (I:Inv X pins σ H s) (ho:s'.os=s.os) (u:Un (frs X.stack) ch H H' s.heap s'.heap) (hok:gF X.prog X.w H' s'.heap) (hg:AllBare s'.gens)
  (hch:∀ b∈ch,(b∈X.ex\/X.s₀.heap.objs.size<=b)/\b≠X.env.locals/\(∀ x c,X.env.cells.lookup x=some c->c≠b)/\∀ p∈X.pn++pins,p.1≠b):Inv X pins σ H' s':=by
 obtain ⟨h',g',d',t',o'⟩:=s'
 have e:o'=s.os:=ho
 subst e
 exact I.call (g':=g') (t':=t') (d':=d') u hok hg hch
end
noncomputable abbrev XK:=Value->Option Addr->Hp->Prop
noncomputable abbrev St:=List (Option V)
noncomputable abbrev VK:=V->Hp->Prop
noncomputable abbrev TE:=St->Hp->VK->Prop
noncomputable abbrev TT:=St->Hp->(Bool->Hp->Prop)->Prop
noncomputable abbrev TA:=St->Hp->(List V->Hp->Prop)->Prop
structure Ends where
 nx:St->Hp->Prop
 rt:VK
 bk:St->Hp->Prop:=fun _ _=>False
 ct:St->Hp->Prop:=fun _ _=>False
noncomputable abbrev TS:=Ends->St->Hp->Prop
noncomputable def EP (X:Cx) (pins:List (Addr×Obj)) (σ:St) (Q:VK) (u:Value) (s':Shared):Prop:=∃ v H',Inv X pins σ H' s'/\RelV v u/\Q v H'
noncomputable def TP (X:Cx) (pins:List (Addr×Obj)) (σ:St) (Q:Bool->Hp->Prop) (b:Bool) (s':Shared):Prop:=∃ H',Inv X pins σ H' s'/\Q b H'
noncomputable def AP (X:Cx) (pins:List (Addr×Obj)) (σ:St) (Q:List V->Hp->Prop) (us:List Value) (s':Shared):Prop:=∃ vs H',Inv X pins σ H' s'/\Vals vs us/\Q vs H'
noncomputable def SP (X:Cx) (pins:List (Addr×Obj)) (D:Ends) (f:Flow) (s':Shared):Prop :=
 match f with
 | .next=>∃ σ' H',Inv X pins σ' H' s'/\D.nx σ' H'
 | .brk=>∃ σ' H',Inv X pins σ' H' s'/\D.bk σ' H'
 | .cont=>∃ σ' H',Inv X pins σ' H' s'/\D.ct σ' H'
 | .ret u=>∃ v σ' H',Inv X pins σ' H' s'/\RelV v u/\D.rt v H'
noncomputable def PE (X:Cx) (e:Expr) (t:TE):Prop :=
 ∀ (pins:List (Addr×Obj)) (s:Shared) (σ:St) (H:Hp) (Q:VK),Inv X pins σ H s->t σ H Q->wpAny (model X.prog X.w) X.A (eval e X.env) (EP X pins σ Q) X.xe s
noncomputable def PT (X:Cx) (e:Expr) (t:TT):Prop :=
 ∀ (pins:List (Addr×Obj)) (s:Shared) (σ:St) (H:Hp) (Q:Bool->Hp->Prop),Inv X pins σ H s->t σ H Q->wpAny (model X.prog X.w) X.A (isTrue e X.env (eval e X.env)) (TP X pins σ Q) X.xe s
noncomputable def PW (X:Cx) (e:Expr) (t:TT):Prop :=
 ∀ (whole:Sem Value) (pins:List (Addr×Obj)) (s:Shared) (σ:St) (H:Hp) (Q:Bool->Hp->Prop),Inv X pins σ H s->t σ H Q->wpAny (model X.prog X.w) X.A (isTrue e X.env whole) (TP X pins σ Q) X.xe s
theorem PW.pt {X:Cx} {e:Expr} {t:TT} (h:PW X e t):PT X e t:=h _
noncomputable def PA (X:Cx) (es:List Expr) (t:TA):Prop :=
 ∀ (pos:Pos) (pins:List (Addr×Obj)) (s:Shared) (σ:St) (H:Hp) (Q:List V->Hp->Prop),Inv X pins σ H s->t σ H Q->wpAny (model X.prog X.w) X.A (spliced (backTo pos (starEach es X.env))) (AP X pins σ Q) X.xe s
noncomputable def PS (X:Cx) (st:Stmt) (t:TS):Prop :=
 ∀ (pins:List (Addr×Obj)) (s:Shared) (σ:St) (H:Hp) (D:Ends),Inv X pins σ H s->t D σ H->wpAny (model X.prog X.w) X.A (exec st X.env) (SP X pins D) X.xe s
noncomputable def kg (X:Cx) (st:List Stmt) (t:TS):Prop :=
 ∀ (pins:List (Addr×Obj)) (s:Shared) (σ:St) (H:Hp) (D:Ends),Inv X pins σ H s->t D σ H->wpAny (model X.prog X.w) X.A (execs st X.env) (SP X pins D) X.xe s
theorem aU {α:Type} {t:Sem α} {Q Q':α->Shared->Prop} {M:Model} {A:Around} {E:Value->Shared->Prop} {s:Shared} (h:wpAny M A t Q E s) (hQ:∀ a s,Q a s->Q' a s):wpAny M A t Q' E s:=wpAny_mono h hQ fun _ _ x=>x
section
variable {X:Cx}
noncomputable def JE (i:Nat):TE:=fun σ H Q=>∃ v,σ[i]? = some (some v)/\Q v H
noncomputable def tC (v:V):TE:=fun _ H Q=>Q v H
theorem Gf {i:Nat} {x:Str} {pos:Pos} (hN:X.N[i]? = some x) (hv:NQ X.env.scope x) (hd:(x == ("__debug__" : Str))=false:=by decide) (hcd:(x == ("__classdict__" : Str))=false:=by decide):PE X (.Name x pos) (JE i):=by
 intro pins s σ H Q I h
 obtain ⟨v,e,h⟩:=h
 obtain ⟨m,hn,hl⟩:=I.loc
 obtain ⟨u,r,l⟩:=hl i x v hN e hv
 have fin:EP X pins σ Q u s:=⟨v,H,I,r,h⟩
 rcases l with ⟨hk,hm⟩ | ⟨hk,c,hc,hcell⟩
 ·exact wpAny_Name (wpAny_loadName_local I.ok.kind hk hn hm fin) hd
 ·rcases hk with hk | hk
  ·exact wpAny_Name (wpAny_loadName_cell I.ok.kind hk hc hcell fin) hd
  ·exact wpAny_Name (wpAny_loadName_free I.ok.kind hk hc hcell fin hcd) hd
theorem Gn {i j pos}:PE X (.Constant (.int i) j pos) (tC (.int i)):=fun _ _ _ H _ I h=>wpAny_Constant_int ⟨.int i,H,I.tok _,⟨_,rfl⟩,h⟩
theorem Ku {b j pos}:PE X (.Constant (.bool b) j pos) (tC (.bl b)):=fun _ _ _ H _ I h=>Constant_bool ⟨.bl b,H,I,rfl,h⟩
theorem Gi {j pos}:PE X (.Constant .none j pos) (tC .ak):=fun _ _ _ H _ I h=>Constant_none ⟨.ak,H,I,rfl,h⟩
theorem rL {x j pos}:PE X (.Constant (.str x) j pos) (tC (.str x)):=fun _ _ _ H _ I h=>Calls.Constant_str ⟨.str x,H,I.tok _,⟨_,rfl⟩,h⟩
noncomputable def Gl (X:Cx) (x:Str):Prop:=X.env.kindOf x=some .globalImplicit
theorem gj {E:Value->Shared->Prop} {pins:List (Addr×Obj)} {s:Shared} {σ:St} {H:Hp} {x:Str} {u:Value} {pos:Pos} {Q:Value->Shared->Prop} (I:Inv X pins σ H s) (hg:Gl X x) (hm:X.mg x=some u) (h:Q u s)
  (hd:(x == ("__debug__" : Str))=false:=by decide):wpAny (model X.prog X.w) X.A (eval (.Name x pos) X.env) Q E s :=
 Calls.Name_function_global I.ok.kind hg (Calls.loadGlobal_global (by rw [I.ok.glob];exact I.mod.glob.keeps I.bk) hm h) hd
theorem eS {E:Value->Shared->Prop} {pins:List (Addr×Obj)} {s:Shared} {σ:St} {H:Hp} {x:Str} {u:Value} {pos:Pos} {Q:Value->Shared->Prop} (I:Inv X pins σ H s) (hg:Gl X x) (hm:X.mg x=none) (hv:bootBuiltins x=some u) (h:Q u s)
  (hn:x≠"__name__":=by decide) (hd:(x == ("__debug__" : Str))=false:=by decide):wpAny (model X.prog X.w) X.A (eval (.Name x pos) X.env) Q E s:=by
 obtain ⟨mb,h1,h2⟩:=I.mod.blt
 exact Calls.Name_function_global I.ok.kind hg (Calls.loadGlobal_builtin (by rw [I.ok.glob];exact I.mod.glob.keeps I.bk) hm (by rw [I.ok.blt];exact h1.keeps I.bk) ((h2 x hn).trans hv) h) hd
theorem B5 {x:Str} {v:V} {u:Value} {pos:Pos} (hg:Gl X x) (hm:X.mg x=some u) (r:RelV v u) (hd:(x == ("__debug__" : Str))=false:=by decide):PE X (.Name x pos) (tC v) :=
 fun _ _ _ H _ I h=>gj I hg hm ⟨v,H,I,r,h⟩ hd
theorem B8 {x:Str} {v:V} {u:Value} {pos:Pos} (hg:Gl X x) (hm:X.mg x=none) (hv:bootBuiltins x=some u) (r:RelV v u) (hn:x≠"__name__":=by decide) (hd:(x == ("__debug__" : Str))=false:=by decide):PE X (.Name x pos) (tC v) :=
 fun _ _ _ H _ I h=>eS I hg hm hv ⟨v,H,I,r,h⟩ hn hd
variable {a b:Expr} {ta tb:TE} {pos:Pos}
noncomputable def tB (t:TE):TT:=fun σ H Q=>t σ H fun x H1=>∃ c,x=.bl c/\Q c H1
theorem F5 {e:Expr} {t:TE} (h:PE X e t) (he:∀ whole,isTrue e X.env whole=(do let v <- whole;standAt e.pos;holding [v] (truthy v)):=by intro _;rfl):PT X e (tB t):=by
 intro pins s σ H Q I hw
 refine isTrue_plain (aU (h pins s σ H _ I hw) fun v s1 ⟨x,H1,I1,r1,q1⟩=>?_) (he _)
 obtain ⟨d,rfl,q⟩:=q1
 cases r1
 exact wpAny_truthy_bool ⟨H1,I1,q⟩
variable {tA MM:TT} {rest:List Expr}
noncomputable def JQ (t u:TT):TT:=fun σ H Q=>t σ H fun c H1=>if c=true then u σ H1 Q else Q false H1
noncomputable def tOr (t u:TT):TT:=fun σ H Q=>t σ H fun c H1=>if c=true then Q true H1 else u σ H1 Q
noncomputable def JL (t:TT):TT:=fun σ H Q=>t σ H fun c H1=>Q (!c) H1
theorem pw_and1 (ha:PT X a tA):PW X (.BoolOp .And [a] pos) tA:=by
 intro wh pins s σ H Q I h
 refine isTrue_and (aU (ha pins s σ H Q I h) fun c s1 e=>?_)
 cases c with
 | true=>exact isTrue_and_nil e
 | false=>exact e
theorem pw_or1 (ha:PT X a tA):PW X (.BoolOp .Or [a] pos) tA:=by
 intro wh pins s σ H Q I h
 refine isTrue_or (aU (ha pins s σ H Q I h) fun c s1 e=>?_)
 cases c with
 | false=>exact isTrue_or_nil e
 | true=>exact e
theorem pw_and (ha:PT X a tA) (hb:PW X (.BoolOp .And (b::rest) pos) MM):PW X (.BoolOp .And (a::b::rest) pos) (JQ tA MM):=by
 intro wh pins s σ H Q I h
 refine isTrue_and (aU (ha pins s σ H _ I h) fun c s1 ⟨H1,I1,q1⟩=>?_)
 cases c with
 | true=>exact hb wh pins s1 σ H1 Q I1 q1
 | false=>exact ⟨H1,I1,q1⟩
theorem pw_or (ha:PT X a tA) (hb:PW X (.BoolOp .Or (b::rest) pos) MM):PW X (.BoolOp .Or (a::b::rest) pos) (tOr tA MM):=by
 intro wh pins s σ H Q I h
 refine isTrue_or (aU (ha pins s σ H _ I h) fun c s1 ⟨H1,I1,q1⟩=>?_)
 cases c with
 | true=>exact ⟨H1,I1,q1⟩
 | false=>exact hb wh pins s1 σ H1 Q I1 q1
theorem F6 (ha:PT X a tA):PT X (.UnaryOp .Not a pos) (JL tA):=by
 intro pins s σ H Q I h
 exact isTrue_not (ha pins s σ H (fun c H1=>Q (!c) H1) I h)
noncomputable def DT (ta tb:TE):TE:=fun σ H Q=>ta σ H fun x H1=>∃ c,x=.bl c/\if c=true then tb σ H1 Q else Q (.bl false) H1
noncomputable def JJ (ta tb:TE):TE:=fun σ H Q=>ta σ H fun x H1=>∃ c,x=.bl c/\if c=true then Q (.bl true) H1 else tb σ H1 Q
noncomputable def JK (ta:TE):TE:=fun σ H Q=>ta σ H fun x H1=>∃ c,x=.bl c/\Q (.bl (!c)) H1
theorem Gh {op} {t:TE} (h:PE X a t):PE X (.BoolOp op [a] pos) t:=fun pins s σ H Q I hw=>BoolOp_one (h pins s σ H Q I hw)
theorem Gq (ha:PE X a ta) (hb:PE X (.BoolOp .And (b::rest) pos) tb):PE X (.BoolOp .And (a::b::rest) pos) (DT ta tb):=by
 intro pins s σ H Q I h
 refine BoolOp_and (aU (ha pins s σ H _ I h) fun v s1 ⟨x,H1,I1,r1,q1⟩=>?_)
 obtain ⟨c,rfl,q1⟩:=q1
 cases r1
 refine wpAny_truthy_bool ?_
 cases c with
 | true=>exact hb pins s1 σ H1 Q I1 q1
 | false=>exact ⟨.bl false,H1,I1,rfl,q1⟩
theorem Kp (ha:PE X a ta) (hb:PE X (.BoolOp .Or (b::rest) pos) tb):PE X (.BoolOp .Or (a::b::rest) pos) (JJ ta tb):=by
 intro pins s σ H Q I h
 refine BoolOp_or (aU (ha pins s σ H _ I h) fun v s1 ⟨x,H1,I1,r1,q1⟩=>?_)
 obtain ⟨c,rfl,q1⟩:=q1
 cases r1
 refine wpAny_truthy_bool ?_
 cases c with
 | false=>exact hb pins s1 σ H1 Q I1 q1
 | true=>exact ⟨.bl true,H1,I1,rfl,q1⟩
noncomputable def tIf (t:TT) (ta tb:TE):TE:=fun σ H Q=>t σ H fun c H1=>if c=true then ta σ H1 Q else tb σ H1 Q
theorem yE {c:Expr} (hc:PT X c tA) (ha:PE X a ta) (hb:PE X b tb):PE X (.IfExp c a b pos) (tIf tA ta tb):=by
 intro pins s σ H Q I h
 refine wpAny_IfExp (aU (hc pins s σ H _ I h) fun d s1 ⟨H1,I1,q1⟩=>?_)
 cases d with
 | true=>exact ha pins s1 σ H1 Q I1 q1
 | false=>exact hb pins s1 σ H1 Q I1 q1
end
noncomputable def fJ (K:PySem.W.Frag) (H:Hp) (a:Addr) (xs:List V):Prop :=
 Rd H a (.lst xs) \/
  ∃ (o:Obj) (its:Array Value) (n:Nat), K.lookup a=some o/\o.cls=.type "list"/\o.dict=none/\o.data=.seq its n/\its.size<=sizeLine/\Vals xs its.toList
noncomputable def ic (K:PySem.W.Frag) (H:Hp) (a:Addr) (xs:List V):Prop :=
 Rd H a (.tup xs) \/
  ∃ (o:Obj) (its:Array Value) (n:Nat), K.lookup a=some o/\o.cls=.type "tuple"/\o.data=.seq its n/\its.size<=sizeLine/\Vals xs its.toList
noncomputable def absV:Value->Option V
 | .none=>some .ak
 | .bool b=>some (.bl b)
 | .int i _=>some (.int i)
 | .str x _=>some (.str x)
 | .bytes b _=>some (.wZ b)
 | .float b _=>some (.Nv b)
 | .ref a=>some (.ref a)
 | .type n=>some (.ty n)
 | _=>none
theorem RelV.abs {x:V} {u:Value} (r:RelV x u):absV u=some x:=by
 cases x with
 | ak=>cases r;rfl
 | bl _=>cases r;rfl
 | int _=>obtain ⟨t,rfl⟩:=r;rfl
 | str _=>obtain ⟨t,rfl⟩:=r;rfl
 | wZ _=>obtain ⟨t,rfl⟩:=r;rfl
 | Nv _=>obtain ⟨t,rfl⟩:=r;rfl
 | ref _=>cases r;rfl
 | ty _=>cases r;rfl
theorem RelV.inj {x y:V} {u:Value} (r:RelV x u) (q:RelV y u):x=y:=Option.some.inj (r.abs.symm.trans q.abs)
theorem Vals.inj:∀ {xs ys:List V} {us:List Value},Vals xs us->Vals ys us->xs=ys
 | _,_,_,.nil,.nil=>rfl
 | _,_,_,.cons r t,.cons r' t'=>by rw [r.inj r',Vals.inj t t']
section
variable {X:Cx} {pins:List (Addr×Obj)} {σ:St} {H:Hp} {s:Shared} {a:Addr} {xs ys:List V}
theorem Inv.list (I:Inv X pins σ H s) (h:fJ X.K H a xs):∃ its:List Value,Vals xs its/\PlainL s.heap a its.toArray/\xs.length<=sizeLine:=by
 rcases h with h | ⟨o,its,n,hk,hc,hd,hs,hz,r⟩
 ·obtain ⟨z,its,n,r,e⟩:=h.ok I.hok
  exact ⟨its,r,⟨_,n,e,rfl,rfl,rfl⟩,z⟩
 ·refine ⟨its.toList,r,⟨o,n,I.iK a o hk,hc,hd,by simpa using hs⟩,?_⟩
  have e:=r.length
  simp only [Array.length_toList] at e
  omega
theorem Inv.tuple (I:Inv X pins σ H s) (h:ic X.K H a xs):∃ its:List Value,Vals xs its/\IsTup s.heap a its.toArray/\xs.length<=sizeLine:=by
 rcases h with h | ⟨o,its,n,hk,hc,hs,hz,r⟩
 ·obtain ⟨z,its,r,p⟩:=h.ok I.hok
  exact ⟨its,r,p,z⟩
 ·refine ⟨its.toList,r,⟨o,I.iK a o hk,hc,n,by simpa using hs⟩,?_⟩
  have e:=r.length
  simp only [Array.length_toList] at e
  omega
theorem Inv.kM (I:Inv X pins σ H s) (h:fJ X.K H a xs) (h':fJ X.K H a ys):xs=ys:=by
 obtain ⟨its,r,⟨o,n,e,_,_,d⟩,_⟩:=I.list h
 obtain ⟨its',r',⟨o',n',e',_,_,d'⟩,_⟩:=I.list h'
 rw [e] at e';cases e'
 rw [d] at d'
 injection d' with d1 _
 have:its=its':=by simpa using congrArg Array.toList d1
 subst this
 exact r.inj r'
theorem Inv.i6 (I:Inv X pins σ H s) (h:ic X.K H a xs) (h':ic X.K H a ys):xs=ys:=by
 obtain ⟨its,r,⟨o,e,_,n,d⟩,_⟩:=I.tuple h
 obtain ⟨its',r',⟨o',e',_,n',d'⟩,_⟩:=I.tuple h'
 rw [e] at e';cases e'
 rw [d] at d'
 injection d' with d1 _
 have:its=its':=by simpa using congrArg Array.toList d1
 subst this
 exact r.inj r'
end
noncomputable abbrev Cx.bI (X:Cx) (E:Value->Shared->Prop):Cx:={ X with xe:=E }
noncomputable abbrev Cx.Ed (X:Cx):Cx:=X.bI fun _ _=>False
theorem Cx.Ok.bI {X:Cx} (ok:X.Ok) (E:Value->Shared->Prop):(X.bI E).Ok :=
 ⟨ok.mod,ok.kind,ok.glob,ok.blt,ok.above,ok.inj,ok.has,ok.EU,ok.hd,ok.frames,ok.stk,ok.Lq,ok.bs,ok.wM,ok.pQ,ok.sA,ok.gA,ok.zH⟩
theorem Cx.Ok.aY {X:Cx} {E:Value->Shared->Prop} (ok:(X.bI E).Ok):X.Ok :=
 ⟨ok.mod,ok.kind,ok.glob,ok.blt,ok.above,ok.inj,ok.has,ok.EU,ok.hd,ok.frames,ok.stk,ok.Lq,ok.bs,ok.wM,ok.pQ,ok.sA,ok.gA,ok.zH⟩
section
variable {X:Cx} {pins:List (Addr×Obj)} {σ:St} {H:Hp} {s:Shared} {E:Value->Shared->Prop}
theorem Inv.bI (I:Inv X pins σ H s) (E:Value->Shared->Prop):Inv (X.bI E) pins σ H s:=⟨I.ok.bI E,I.os,I.bare,I.base,I.loc,I.cell,I.free,I.cg,I.pin,I.hok,I.len⟩
theorem Inv.aY (I:Inv (X.bI E) pins σ H s):Inv X pins σ H s:=⟨I.ok.aY,I.os,I.bare,I.base,I.loc,I.cell,I.free,I.cg,I.pin,I.hok,I.len⟩
theorem SP.aY {D:Ends} {f:Flow} {s':Shared} (h:SP (X.bI E) pins D f s'):SP X pins D f s':=by
 cases f with
 | next=>obtain ⟨σ',H',I,q⟩:=h;exact ⟨σ',H',I.aY,q⟩
 | brk=>obtain ⟨σ',H',I,q⟩:=h;exact ⟨σ',H',I.aY,q⟩
 | cont=>obtain ⟨σ',H',I,q⟩:=h;exact ⟨σ',H',I.aY,q⟩
 | ret u=>obtain ⟨v,σ',H',I,r,q⟩:=h;exact ⟨v,σ',H',I.aY,r,q⟩
theorem PE.Ed {e:Expr} {t:TE} (h:PE X.Ed e t):PE X e t:=fun pins s σ H Q I hw =>
 wpAny_mono (h pins s σ H Q (I.bI _) hw) (fun _ _ ⟨v,H',I',r,q⟩=>⟨v,H',I'.aY,r,q⟩) fun _ _ z=>False.elim z
theorem PT.Ed {e:Expr} {t:TT} (h:PT X.Ed e t):PT X e t:=fun pins s σ H Q I hw =>
 wpAny_mono (h pins s σ H Q (I.bI _) hw) (fun _ _ ⟨H',I',q⟩=>⟨H',I'.aY,q⟩) fun _ _ z=>False.elim z
theorem kg.Ed {st:List Stmt} {t:TS} (h:kg X.Ed st t):kg X st t:=fun pins s σ H D I hw =>
 wpAny_mono (h pins s σ H D (I.bI _) hw) (fun _ _ q=>q.aY) fun _ _ z=>False.elim z
end
section
variable {X:Cx} {st:Stmt} {rest:List Stmt} {t u:TS} {e:Expr} {te:TE} {pos:Pos}
noncomputable def DR:TS:=fun D σ H=>D.nx σ H
noncomputable def JH (t u:TS):TS:=fun D σ H=>t { D with nx:=u D } σ H
theorem t9:kg X [] DR:=fun _ _ σ H _ I h=>wpAny_execs_nil ⟨σ,H,I,h⟩
theorem pL (h1:PS X st t) (h2:kg X rest u):kg X (st::rest) (JH t u):=by
 intro pins s σ H D I h
 refine wpAny_execs_cons (aU (h1 pins s σ H { D with nx:=u D } I h) fun f s1 q=>?_)
 cases f with
 | next =>
  obtain ⟨σ',H',I',q⟩:=q
  exact h2 pins s1 σ' H' D I' q
 | ret v=>exact q
 | brk=>exact q
 | cont=>exact q
theorem Inv.quiet {pins:List (Addr×Obj)} {σ:St} {H:Hp} {s:Shared} (I:Inv X pins σ H s):interactive X.env=false:=by simp [interactive,I.ok.kind]
noncomputable def DS (te:TE):TS:=fun D σ H=>te σ H fun _ H1=>D.nx σ H1
theorem BX (he:PE X e te) (hs:swapsWith e none pos.line X.env=pure false:=by rfl):PS X (.Expr e pos) (DS te):=by
 intro pins s σ H D I h
 exact wpAny_Expr_any (aU (he pins s σ H _ I h) fun v s1 ⟨x,H1,I1,r1,q1⟩=>⟨σ,H1,I1,q1⟩) I.quiet hs
noncomputable def JI (te:TE):TS:=fun D σ H=>te σ H D.rt
theorem F8 (he:PE X e te):PS X (.Return (some e) pos) (JI te):=by
 intro pins s σ H D I h
 exact wpAny_Return_some (aU (he pins s σ H _ I h) fun v s1 ⟨x,H1,I1,r1,q1⟩=>⟨x,σ,H1,I1,r1,q1⟩)
noncomputable def JN (c:TT) (t u:TS):TS:=fun D σ H=>c σ H fun b H1=>if b=true then t D σ H1 else u D σ H1
theorem Kf {c:Expr} {a b:List Stmt} {tc:TT} (hc:PT X c tc) (ha:kg X a t) (hb:kg X b u):PS X (.If c a b pos) (JN tc t u):=by
 intro pins s σ H D I h
 refine wpAny_If (aU (hc pins s σ H _ I h) fun d s1 ⟨H1,I1,q1⟩=>?_)
 cases d with
 | true=>exact ha pins s1 σ H1 D I1 q1
 | false=>exact hb pins s1 σ H1 D I1 q1
end
noncomputable abbrev TG:=V->St->Hp->(St->Hp->Prop)->Prop
noncomputable abbrev E0:=List V->St->Hp->(St->Hp->Prop)->Prop
noncomputable def PG (X:Cx) (target:Expr) (t:TG):Prop :=
 ∀ (pins:List (Addr×Obj)) (s:Shared) (σ:St) (H:Hp) (v:V) (u:Value) (Q:St->Hp->Prop),Inv X pins σ H s->RelV v u->t v σ H Q ->
  wpAny (model X.prog X.w) X.A (assign target X.env u) (fun _ s'=>∃ σ' H',Inv X pins σ' H' s'/\Q σ' H') X.xe s
noncomputable def Mw (X:Cx) (ts:List Expr) (t:E0):Prop :=
 ∀ (pins:List (Addr×Obj)) (s:Shared) (σ:St) (H:Hp) (vs:List V) (us:List Value) (Q:St->Hp->Prop),Inv X pins σ H s->Vals vs us->t vs σ H Q ->
  wpAny (model X.prog X.w) X.A (assignInOrder ((assignEach ts X.env).map (·.2)) us) (fun _ s'=>∃ σ' H',Inv X pins σ' H' s'/\Q σ' H') X.xe s
noncomputable abbrev TSet:=V->V->V->Hp->(Hp->Prop)->Prop
noncomputable def PSet (X:Cx) (t:TSet):Prop :=
 ∀ (pins:List (Addr×Obj)) (s:Shared) (σ:St) (H:Hp) (o i v:V) (ov iv u:Value) (Q:Hp->Prop),Inv X pins σ H s->RelV o ov->RelV i iv->RelV v u->t o i v H Q ->
  wpAny (model X.prog X.w) X.A (setItem ov iv u) (fun _ s'=>∃ H',Inv X pins σ H' s'/\Q H') X.xe s
section
variable {X:Cx} {pos:Pos}
noncomputable def kU (i:Nat):TG:=fun v σ H Q=>Q (σ.set i (some v)) H
theorem B3 {i:Nat} {x:Str} (hN:X.N.Nodup) (hi:X.N[i]? = some x) (hx:Loc X.env.scope x) (hf:X.fn x=true\/X.env.scope.names.lookup x=some .local:=by first | exact .inl rfl | exact .inr rfl | assumption):PG X (.Name x pos) (kU i):=by
 intro pins s σ H v u Q I r h
 exact wpAny_assign_Name (oQ I hN hi hx r (fun s' I'=>⟨_,H,I',h⟩) hf)
noncomputable def Li:E0:=fun vs σ H Q=>vs=[]/\Q σ H
noncomputable def Ez (t:TG) (u:E0):E0:=fun vs σ H Q=>∃ v r,vs=v::r/\t v σ H fun σ' H'=>u r σ' H' Q
theorem ud:Mw X [] Li:=by
 intro pins s σ H vs us Q I r h
 obtain ⟨e,h⟩:=h
 subst e
 cases r
 exact assignInOrder_nil ⟨σ,H,I,h⟩
theorem kH {e:Expr} {es:List Expr} {t:TG} {u:E0} (h1:PG X e t) (h2:Mw X es u)
  (hs:(assignEach (e::es) X.env).map (·.2)=assign e X.env::(assignEach es X.env).map (·.2):=by rfl):Mw X (e::es) (Ez t u):=by
 intro pins s σ H vs us Q I r h
 obtain ⟨v,vr,e1,h⟩:=h
 subst e1
 cases r with
 | cons r rr =>
  rw [hs]
  refine assignInOrder_cons (aU (h1 pins s σ H _ _ _ I r h) fun _ s1 ⟨σ1,H1,I1,q1⟩=>?_)
  exact h2 pins s1 σ1 H1 _ _ Q I1 rr q1
noncomputable def gTup (K:PySem.W.Frag) (n:Nat) (t:E0):TG:=fun v σ H Q=>∃ a xs,v=.ref a/\ic K H a xs/\xs.length=n/\t xs σ H Q
theorem yx {es:List Expr} {k:Nat} {t:E0} {n:Nat} (hc:X.calm=true) (h:Mw X es t)
  (hn:(assignEach es X.env).length=n:=by rfl) (hst:(assignEach es X.env).findIdx? (·.1)=none:=by rfl):PG X (.Tuple es k pos) (gTup X.K n t):=by
 intro pins s σ H v u Q I r hw
 obtain ⟨a,xs,e1,hq,hl,hw⟩:=hw
 subst e1
 cases r
 obtain ⟨its,rv,ht,hz⟩:=I.tuple hq
 refine assign_Tuple_tuple (I.ok.hd hc) ht (by simp [hn,<- hl,rv.length]) hst fun h' hx=>?_
 have I1:Inv X pins σ H { s with heap:=h' }:=I.kept (t':=s.toks) fun b o e=>hx b o (Nat.ne_of_lt (Heap.lt_size e)) e
 exact h pins _ σ H xs _ Q I1 (by simpa using rv) hw
noncomputable def Fe (te:TE) (g:TG):TS:=fun D σ H=>te σ H fun x H1=>g x σ H1 D.nx
theorem yu {i:Nat} {x:Str} {e:Expr} {te:TE} {pos':Pos} (hN:X.N.Nodup) (hi:X.N[i]? = some x) (hx:Loc X.env.scope x) (he:PE X e te) (hs:swapsWith e (some (.Name x pos')) pos.line X.env=pure false:=by rfl) (hf:X.fn x=true\/X.env.scope.names.lookup x=some .local:=by first | exact .inl rfl | exact .inr rfl | assumption) :
  PS X (.Assign [.Name x pos'] e pos) (Fe te (kU i)):=by
 intro pins s σ H D I h
 refine wpAny_Assign_Name (aU (he pins s σ H _ I h) fun v s1 ⟨y,H1,I1,r1,q1⟩=>?_) hs
 exact oQ I1 hN hi hx r1 (fun s2 I2=>⟨_,H1,I2,q1⟩) hf
end
section
variable {X:Cx} {pos:Pos}
noncomputable def xC (c:TT) (tb:TS):TS:=fun D σ H=>∃ W:Nat->St->Hp->Prop,(∃ m,W m σ H)/\∀ m σ H,W m σ H ->
 c σ H fun b H1=>if b=true then ∃ N:St->Hp->Prop,(∀ σ' H',N σ' H'->∃ m',m'<m/\W m' σ' H')/\tb { D with nx:=N,ct:=N,bk:=D.nx } σ H1 else D.nx σ H1
theorem yt {c:Expr} {body:List Stmt} {tc:TT} {tb:TS} (hp:PassesOwn (model X.prog X.w) X.A X.env X.xe) (hc:PT X c tc) (hb:kg X body tb):PS X (.While c body [] pos) (xC tc tb):=by
 intro pins s σ H D I h
 obtain ⟨W,⟨m0,w0⟩,turn⟩:=h
 refine wpAny_While (codeAny_whileLoop (fun n s'=>∃ σ' H',Inv X pins σ' H' s'/\W n σ' H') ?_ m0 ⟨σ,H,I,w0⟩)
 rintro n s1 ⟨σ1,H1,I1,w1⟩
 refine wpAny_passesOwn hp (aU (hc pins s1 σ1 H1 _ I1 (turn n σ1 H1 w1)) fun b s2 ⟨H2,I2,q2⟩=>?_)
 cases b with
 | true =>
  obtain ⟨N,hN,q2⟩:=q2
  rw [if_pos rfl]
  refine wpAny_passesOwn hp (aU (hb pins s2 σ1 H2 _ I2 q2) fun f s3 q3=>?_)
  cases f with
  | next =>
   obtain ⟨σ3,H3,I3,n3⟩:=q3
   obtain ⟨m',hm,w3⟩:=hN σ3 H3 n3
   exact ⟨m',hm,σ3,H3,I3,w3⟩
  | cont =>
   obtain ⟨σ3,H3,I3,n3⟩:=q3
   obtain ⟨m',hm,w3⟩:=hN σ3 H3 n3
   exact ⟨m',hm,σ3,H3,I3,w3⟩
  | brk=>exact q3
  | ret v=>exact q3
 | false =>
  rw [if_neg Bool.false_ne_true]
  exact wpAny_execs_nil ⟨σ1,H2,I2,q2⟩
end
structure It where
 go:Nat->Hp->Prop
 MF:Nat->Hp->V->Hp->Prop
 stop:Nat->Hp->Prop
noncomputable def lA (X:Cx) (pins:List (Addr×Obj)) (H:Hp) (b:Addr):Prop :=
 H b=none/\b≠X.env.locals/\b∉X.fs/\(b∈X.ex\/X.s₀.heap.objs.size<=b)/\(∀ x c,X.env.cells.lookup x=some c->c≠b)/\∀ p∈X.pn++pins,p.1≠b
theorem Inv.p9 {X:Cx} {pins:List (Addr×Obj)} {σ:St} {H H':Hp} {s:Shared} {b:Addr} (I:Inv X pins σ H s) (hb:s.heap.objs.size<=b) (hn:H' b=none):lA X pins H' b:=by
 refine ⟨hn,Nat.ne_of_gt (Nat.lt_of_lt_of_le I.lt hb),I.KN hb,.inr (Nat.le_trans I.sz hb),fun x c e z=>?_,fun p hp z=>?_⟩
 ·obtain ⟨v,q⟩:=I.cell x c e
  exact absurd (Nat.lt_of_lt_of_le q.lt (by rw [z];exact hb)) (Nat.lt_irrefl _)
 ·exact absurd (Nat.lt_of_lt_of_le (Heap.lt_size (I.pin p hp).1) (by rw [z];exact hb)) (Nat.lt_irrefl _)
structure Turn (P:Program) (w:World) (K:PySem.W.Frag) (tg:Expr) (J:It) (fp:List Addr) (it:Addr) (tn:Nat->Heap->Prop):Prop where
 mem:it∈fp
 obj:∀ i h,tn i h->∀ b∈fp,∃ o,h.get? b=some o/\∀ v,o.data≠.cell v
 keep:∀ i h h',tn i h->(∀ b∈fp,∀ o,h.get? b=some o->h'.get? b=some o)->tn i h'
 item:∀ (X:Cx),X.prog=P->X.w=w->X.K=K->X.calm=true->∀ (i:Nat) (pins:List (Addr×Obj)) (s:Shared) (σ:St) (H:Hp) (E:Value->Shared->Prop),Inv X pins σ H s->(∀ b∈fp,lA X pins H b)->tn i s.heap->J.go i H ->
  wpAny (model P w) X.A (pyNext (.ref it)) (fun r s1=>∃ u,r=some u /\
   wpAny (model P w) X.A (letOwnedTupleGo tg (.ref it) u) (fun _ s2=>∃ x H',Inv X pins σ H' s2/\RelV x u/\J.MF i H x H'/\tn (i+1) s2.heap/\∀ b∈fp,H' b=none) E s1) E s
 done:∀ (X:Cx),X.prog=P->X.w=w->X.K=K->X.calm=true->∀ (i:Nat) (pins:List (Addr×Obj)) (s:Shared) (σ:St) (H:Hp) (E:Value->Shared->Prop),Inv X pins σ H s->(∀ b∈fp,lA X pins H b)->tn i s.heap->J.stop i H ->
  wpAny (model P w) X.A (pyNext (.ref it)) (fun r s1=>r=none/\Inv X pins σ H s1) E s
 self:∀ (A:Around) (i:Nat) (s:Shared) (Q:Value->Shared->Prop) (E:Value->Shared->Prop),tn i s.heap->Q (.ref it) s->wpAny (model P w) A (pyIter (.ref it)) Q E s
noncomputable abbrev TI:=St->Hp->(It->Hp->Prop)->Prop
noncomputable def NR (X:Cx) (pins:List (Addr×Obj)) (σ:St) (tg:Expr) (R:It->Hp->Prop) (itv:Value) (s2:Shared):Prop :=
 ∃ (it:Addr) (fp:List Addr) (tn:Nat->Heap->Prop) (J:It) (H':Hp),itv=.ref it/\Inv X pins σ H' s2/\Turn X.prog X.w X.K tg J fp it tn/\tn 0 s2.heap/\(∀ b∈fp,lA X pins H' b)/\R J H'
noncomputable def PI (X:Cx) (tg iter:Expr) (wi:TI):Prop :=
 ∀ (pins:List (Addr×Obj)) (s:Shared) (σ:St) (H:Hp) (R:It->Hp->Prop),Inv X pins σ H s->wi σ H R ->
  wpAny (model X.prog X.w) X.A (eval iter X.env) (fun v s1=>wpAny (model X.prog X.w) X.A (pyIter v) (NR X pins σ tg R) X.xe s1) X.xe s
theorem kQ {M:Model} {A:Around} {E:Value->Shared->Prop} {s:Shared} {tg:Expr} {it:Addr} {u:Value} {o:Obj} {n:String} {vs:Array Value} {Q:Unit->Shared->Prop} (ho:s.heap.get? it=some o) (hc:o.cls=.type n) (hd:o.data=.fields vs)
    (hn:["enumerate", "zip", "dict_itemiterator", "dict_reverseitemiterator", "odict_iterator", "itertools.zip_longest", "itertools.pairwise"].contains n=false) (hQ:Q () s):wpAny M A (letOwnedTupleGo tg (.ref it) u) Q E s:=by
  unfold letOwnedTupleGo
  cases tg <;> first
    | exact wpAny_pure hQ
    | (cases u <;> first
        | exact wpAny_pure hQ
        | (refine wpAny_bind (wpAny_load ho ?_)
           rw [hc,hd]
           show wpAny M A (if (["enumerate", "zip", "dict_itemiterator", "dict_reverseitemiterator", "odict_iterator", "itertools.zip_longest", "itertools.pairwise"].contains n&&vs[0]? == some (rawInt _))=true then _ else _) Q E s
           rw [if_neg (by intro h;rw [hn,Bool.false_and] at h;cases h)]
           exact wpAny_pure hQ))
noncomputable def Itl (K:PySem.W.Frag) (a:Addr):It :=
 ⟨fun i H=>∃ xs x,fJ K H a xs/\xs[i]? = some x,fun i H x H'=>H'=H/\∀ xs,fJ K H a xs->xs[i]? = some x,fun i H=>∃ xs,fJ K H a xs/\xs.length<=i⟩
noncomputable def Itt (K:PySem.W.Frag) (a:Addr):It :=
 ⟨fun i H=>∃ xs x,ic K H a xs/\xs[i]? = some x,fun i H x H'=>H'=H/\∀ xs,ic K H a xs->xs[i]? = some x,fun i H=>∃ xs,ic K H a xs/\xs.length<=i⟩
noncomputable def MA (lo:Int) (n:Nat):It:=⟨fun i _=>i<n,fun i H x H'=>H'=H/\x=.int (lo+i),fun i _=>n<=i⟩
theorem vv {P:Program} {w:World} {K:PySem.W.Frag} {tg:Expr} (a it:Addr):Turn P w K tg (Itl K a) [it] it (fun i h=>h.IsListIter it a i) where
 mem:=by simp
 obj:=fun i h st b hb=>by
  have e:b=it:=by simpa using hb
  subst e
  obtain ⟨o,e,c,d⟩:=st
  exact ⟨o,e,fun v z=>by rw [d] at z;cases z⟩
 keep:=fun i h h' st k=>st.at fun o e=>k it (by simp) o e
 item:=by
  intro X hP hw hK hc i pins s σ H E I hf st hg
  subst hP hw hK
  obtain ⟨xs,x,hq,hx⟩:=hg
  obtain ⟨its,rv,p,hz⟩:=I.list hq
  obtain ⟨u,hu,ru⟩:=rv.get hx
  obtain ⟨f0,f1,f2,f3,f4,f5⟩:=hf it (by simp)
  refine wpAny_pyNext_list_item st p.isList (x:=u) (by simpa using hu) fun h' st' sb=>?_
  have I1:Inv X pins σ H { s with heap:=h' }:=I.turned (t':=s.toks) (fun b o hb e=>(sb.2 b hb).trans e) f0 f1 f3 f4 f5
  obtain ⟨o,e,c,d⟩:=id st'
  exact ⟨u,rfl,kQ (s:={ s with heap:=h' }) e c d (by decide) ⟨x,H,I1,ru,⟨rfl,fun ys hy=>by rw [I.kM hy hq];exact hx⟩,st',fun b hb=>(hf b hb).1⟩⟩
 done:=by
  intro X hP hw hK hc i pins s σ H E I hf st hg
  subst hP hw hK
  obtain ⟨xs,hq,hx⟩:=hg
  obtain ⟨its,rv,p,hz⟩:=I.list hq
  obtain ⟨f0,f1,f2,f3,f4,f5⟩:=hf it (by simp)
  have hl:=rv.length
  exact wpAny_pyNext_list_end (I.ok.hd hc) st p.isList (by simp;omega) fun h' eb=>⟨rfl,I.turned (t':=s.toks) (fun b o hb e=>eb b o hb e) f0 f1 f3 f4 f5⟩
 self:=fun _ _ _ _ _ st h=>wpAny_pyIter_listiter st h
theorem qP {P:Program} {w:World} {K:PySem.W.Frag} {tg:Expr} (a it:Addr):Turn P w K tg (Itt K a) [it] it (fun i h=>h.IsTupleIter it a i) where
 mem:=by simp
 obj:=fun i h st b hb=>by
  have e:b=it:=by simpa using hb
  subst e
  obtain ⟨o,e,c,d⟩:=st
  exact ⟨o,e,fun v z=>by rw [d] at z;cases z⟩
 keep:=fun i h h' st k=>st.at fun o e=>k it (by simp) o e
 item:=by
  intro X hP hw hK hc i pins s σ H E I hf st hg
  subst hP hw hK
  obtain ⟨xs,x,hq,hx⟩:=hg
  obtain ⟨its,rv,p,hz⟩:=I.tuple hq
  obtain ⟨u,hu,ru⟩:=rv.get hx
  obtain ⟨f0,f1,f2,f3,f4,f5⟩:=hf it (by simp)
  refine wpAny_pyNext_tuple_item st (show s.heap.IsTuple a its.toArray from p) (x:=u) (by simpa using hu) fun h' st' sb=>?_
  have I1:Inv X pins σ H { s with heap:=h' }:=I.turned (t':=s.toks) (fun b o hb e=>(sb.2 b hb).trans e) f0 f1 f3 f4 f5
  obtain ⟨o,e,c,d⟩:=id st'
  exact ⟨u,rfl,kQ (s:={ s with heap:=h' }) e c d (by decide) ⟨x,H,I1,ru,⟨rfl,fun ys hy=>by rw [I.i6 hy hq];exact hx⟩,st',fun b hb=>(hf b hb).1⟩⟩
 done:=by
  intro X hP hw hK hc i pins s σ H E I hf st hg
  subst hP hw hK
  obtain ⟨xs,hq,hx⟩:=hg
  obtain ⟨its,rv,p,hz⟩:=I.tuple hq
  obtain ⟨f0,f1,f2,f3,f4,f5⟩:=hf it (by simp)
  have hl:=rv.length
  exact wpAny_pyNext_tuple_end (I.ok.hd hc) st (show s.heap.IsTuple a its.toArray from p) (by simp;omega) fun h' eb=>⟨rfl,I.turned (t':=s.toks) (fun b o hb e=>eb b o hb e) f0 f1 f3 f4 f5⟩
 self:=fun _ _ _ _ _ st h=>wpAny_pyIter_tupleiter st h
theorem qQ {P:Program} {w:World} {K:PySem.W.Frag} {tg:Expr} (it:Addr) (lo:Int) (n:Nat):Turn P w K tg (MA lo n) [it] it (fun i h=>IsRangeIter h it (lo+(i:Nat)*1) ((n:Int)-(i:Nat)) 1) where
 mem:=by simp
 obj:=fun i h st b hb=>by
  have e:b=it:=by simpa using hb
  subst e
  exact ⟨_,st,fun v z=>by
   have z':Data.fields _=Data.cell v:=z
   cases z'⟩
 keep:=fun i h h' st k=>k it (by simp) _ st
 item:=by
  intro X hP hw hK hc i pins s σ H E I hf st hg
  subst hP hw hK
  obtain ⟨f0,f1,f2,f3,f4,f5⟩:=hf it (by simp)
  have W:=Walks.range (prog:=X.prog) (w:=X.w) (I.ok.hd hc) it lo 1 n
  refine W.item i s _ _ hg st fun v h' tk hv st' kk=>?_
  obtain ⟨t,rfl⟩:=hv
  have I1:Inv X pins σ H { s with heap:=h',toks:=tk }:=I.turned (fun b o hb e=>kk b o (by simpa using hb) e) f0 f1 f3 f4 f5
  refine ⟨_, rfl, kQ (s:={ s with heap:=h', toks:=tk }) (n:="range_iterator") st' rfl rfl (by decide) ⟨.int (lo+i), H, I1, ⟨t, ?_⟩, ⟨rfl, rfl⟩, st', fun b hb=>(hf b hb).1⟩⟩
  rw [Int.mul_one]
 done:=by
  intro X hP hw hK hc i pins s σ H E I hf st hg
  subst hP hw hK
  obtain ⟨f0,f1,f2,f3,f4,f5⟩:=hf it (by simp)
  exact wpAny_pyNext_range_end (I.ok.hd hc) st (by have:n<=i:=hg;omega) fun h' eb=>⟨rfl,I.turned (t':=s.toks) (fun b o hb e=>eb b o hb e) f0 f1 f3 f4 f5⟩
 self:=fun _ _ _ _ _ st h=>wpAny_pyIter_rangeiter st h
section
variable {X:Cx} {tg:Expr}
theorem pK {pins:List (Addr×Obj)} {σ:St} {H:Hp} {s:Shared} {R:It->Hp->Prop} {E:Value->Shared->Prop} {lo hi:Int} {t u v:Tok} {tk:Nat} (I:Inv X pins σ H s) (h1:-(2 ^ 62)<=lo) (h2:lo<2 ^ 62) (h3:-(2 ^ 62)<=hi) (h4:hi<2 ^ 62)
  (q:R (MA lo (hi-lo).toNat) H):wpAny (model X.prog X.w) X.A (pyIter (.ref s.heap.objs.size)) (NR X pins σ tg R) E { s with heap:=s.heap.push { cls:=.type "range", data:=.fields #[.int lo t, .int hi u, .int 1 v] }, toks:=tk }:=by
 refine wpAny_pyIter_range (IsRange.new ..) (small_one h1 h2 h3 h4) ?_
 have I1:Inv X pins σ H { s with heap:=s.heap.push { cls:=.type "range", data:=.fields #[.int lo t, .int hi u, .int 1 v] }, toks:=tk }:=I.kept fun b o e=>Heap.get?_push_of_some _ e
 refine ⟨(s.heap.push { cls:=.type "range", data:=.fields #[.int lo t, .int hi u, .int 1 v] }).objs.size, [(s.heap.push { cls:=.type "range", data:=.fields #[.int lo t, .int hi u, .int 1 v] }).objs.size], _, _, H, rfl,
  I1.kept (t':=tk) fun b o e=>Heap.get?_push_of_some _ e,qQ _ lo (hi-lo).toNat,?_,fun b hb=>?_,q⟩
 ·have e1:lo+((0:Nat):Int)*1=lo:=by simp
  have e2:(((hi-lo).toNat:Nat):Int)-((0:Nat):Int)=Builtin.Range.rangeSize lo hi 1:=by rw [rangeSize_one];split <;> omega
  show IsRangeIter _ _ (lo+((0:Nat):Int)*1) ((((hi-lo).toNat:Nat):Int)-((0:Nat):Int)) 1
  rw [e1,e2]
  exact Heap.get?_push_size _ rfl
 ·have e:b=(s.heap.push { cls:=.type "range", data:=.fields #[.int lo t, .int hi u, .int 1 v] }).objs.size:=by simpa using hb
  subst e
  exact I1.p9 (Nat.le_refl _) (I1.hok.fresh (Nat.le_refl _))
noncomputable def Eu (ta:TA):TI:=fun σ H R=>ta σ H fun vs H1=>∃ j:Int,vs=[.int j]/\-(2 ^ 62)<=j/\j<2 ^ 62/\R (MA 0 j.toNat) H1
noncomputable def Et (ta:TA):TI:=fun σ H R=>ta σ H fun vs H1=>∃ i j:Int,vs=[.int i,.int j]/\(-(2 ^ 62)<=i/\i<2 ^ 62/\-(2 ^ 62)<=j/\j<2 ^ 62)/\R (MA i (j-i).toNat) H1
theorem vP {a:Expr} {ta:TA} {p pos:Pos} (hg:Gl X "range") (hm:X.mg "range" = none) (ha:PA X [a] ta) (hs:starEach [a] X.env=[(false, eval a X.env)]:=by rfl):PI X tg (.Call (.Name "range" p) [a] [] pos) (Eu ta):=by
 intro pins s σ H R I h
 refine Call_ (eS I hg hm boot_range (PyProof.Rows.callWith_type1 (aU (ha pos pins s σ H _ I h) fun us s1 ⟨vs,H1,I1,r1,q1⟩=>?_) hs rfl))
 obtain ⟨j,e,q1,q2,q⟩:=q1
 subst e
 cases r1 with
 | cons r rr =>
  cases rr
  obtain ⟨t,rfl⟩:=r
  exact call_range_1 (pK I1 (by omega) (by omega) q1 q2 (by simpa using q))
theorem vO {a b:Expr} {ta:TA} {p pos:Pos} (hg:Gl X "range") (hm:X.mg "range" = none) (ha:PA X [a, b] ta) (hs:starEach [a, b] X.env=[(false, eval a X.env), (false, eval b X.env)]:=by rfl) (hs2:starEach [b] X.env=[(false, eval b X.env)]:=by rfl) :
  PI X tg (.Call (.Name "range" p) [a, b] [] pos) (Et ta):=by
 intro pins s σ H R I h
 refine Call_ (eS I hg hm boot_range (PyProof.Rows.callWith_type1 (aU (ha pos pins s σ H _ I h) fun us s1 ⟨vs,H1,I1,r1,q1⟩=>?_) (by rw [hs,hs2]) (by rw [hs2];rfl)))
 obtain ⟨i,j,e,⟨q1,q2,q3,q4⟩,q⟩:=q1
 subst e
 cases r1 with
 | cons r rr =>
  cases rr with
  | cons r' rr =>
   cases rr
   obtain ⟨t,rfl⟩:=r
   obtain ⟨t',rfl⟩:=r'
   exact call_range_2 (pK I1 q1 q2 q3 q4 q)
noncomputable def JO (wi:TI) (g:TG) (tb:TS):TS:=fun D σ H=>wi σ H fun J H1=>∃ W:Nat->Nat->St->Hp->Prop,(∃ m,W 0 m σ H1)/\∀ i m σ H,W i m σ H ->
 (J.stop i H/\D.nx σ H)\/(J.go i H/\∃ N:St->Hp->Prop,(∀ σ' H',N σ' H'->∃ m',m'<m/\W (i+1) m' σ' H')/\∀ x H',J.MF i H x H'->g x σ H' fun σ2 H2=>tb { D with nx:=N,ct:=N,bk:=D.nx } σ2 H2)
noncomputable def kE (fp:List Addr) (h:Heap):List (Addr×Obj):=fp.filterMap fun b=>(h.get? b).map fun o=>(b,o)
theorem eO {fp:List Addr} {h:Heap} {b:Addr} {o:Obj} (hb:b∈fp) (e:h.get? b=some o):(b,o)∈kE fp h:=List.mem_filterMap.mpr ⟨b,hb,by rw [e];rfl⟩
theorem vW {fp:List Addr} {h:Heap} {p:Addr×Obj} (hp:p∈kE fp h):p.1∈fp/\h.get? p.1=some p.2:=by
 obtain ⟨b,hb,e⟩:=List.mem_filterMap.mp hp
 cases q:h.get? b with
 | none=>rw [q] at e;cases e
 | some o =>
  rw [q] at e
  have e':(b,o)=p:=Option.some.inj e
  subst e'
  exact ⟨hb,q⟩
theorem Inv.pinned {pins:List (Addr×Obj)} {σ:St} {H:Hp} {s:Shared} {fp:List Addr} (I:Inv X pins σ H s) (hf:∀ b∈fp,lA X pins H b) (ho:∀ b∈fp,∃ o,s.heap.get? b=some o/\∀ v,o.data≠.cell v):Inv X (pins++kE fp s.heap) σ H s :=
 I.uc fun p hp=>(List.mem_append.mp hp).elim (fun z=>I.pin p (List.mem_append_right _ z)) fun z=>by
  obtain ⟨hb,e⟩:=vW z
  obtain ⟨f0,f1,f2,_⟩:=hf p.1 hb
  obtain ⟨o,e',d⟩:=ho p.1 hb
  rw [e] at e';cases e'
  exact ⟨e,f0,f1,f2,d⟩
theorem Inv.iu {pins pl:List (Addr×Obj)} {σ:St} {H:Hp} {s:Shared} (I:Inv X (pins++pl) σ H s):Inv X pins σ H s:=I.uc fun p hp=>I.pin p (List.mem_append_right _ (List.mem_append_left _ hp))
theorem F9 {iter:Expr} {body:List Stmt} {wi:TI} {g:TG} {tb:TS} {pos:Pos} (hp:PassesOwn (model X.prog X.w) X.A X.env X.xe) (hc:X.calm=true) (hi:PI X tg iter wi) (hg:PG X tg g) (hb:kg X body tb)
  (hs:∀ x,foldedSetIterable iter X.env x=pure x:=by intro _;rfl):PS X (.For tg iter body [] pos) (JO wi g tb):=by
 intro pins s σ H D I h
 refine wpAny_For (aU (hi pins s σ H _ I h) fun v s1 h1=>aU h1 fun itv s2 h2=>?_) hs
 obtain ⟨it,fp,tn,J,H2,e,I2,T,st2,f2,W,⟨m0,w0⟩,turn⟩:=h2
 subst e
 have stat:∀ {H':Hp},(∀ b∈fp,H' b=none)->∀ b∈fp,lA X pins H' b:=fun hn b hb=>⟨hn b hb,(f2 b hb).2⟩
 refine codeAny_forLoop_any (fun n s'=>∃ i σ' H',Inv X pins σ' H' s'/\tn i s'.heap/\(∀ b∈fp,H' b=none)/\W i n σ' H') ?_ m0 ⟨0,σ,H2,I2,st2,fun b hb=>(f2 b hb).1,w0⟩
 rintro n s3 ⟨i,σ3,H3,I3,st3,Lj,w3⟩
 rcases turn i n σ3 H3 w3 with ⟨stop,qn⟩ | ⟨go,N,hN,step⟩
 ·refine wpAny_passesOwn hp (aU (T.done X rfl rfl rfl hc i pins s3 σ3 H3 X.xe I3 (stat Lj) st3 stop) fun r s4 ⟨hr,I4⟩=>?_)
  subst hr
  exact wpAny_execs_nil ⟨σ3,H3,I4,qn⟩
 ·refine wpAny_passesOwn hp (aU (T.item X rfl rfl rfl hc i pins s3 σ3 H3 X.xe I3 (stat Lj) st3 go) fun r s4 ⟨u,hr,h4⟩=>?_)
  subst hr
  refine wpAny_passesOwn hp (aU h4 fun _ s5 ⟨x,H5,I5,r5,y5,Fo,fr5⟩=>?_)
  have I5':=I5.pinned (stat fr5) (T.obj _ _ Fo)
  refine wpAny_passesOwn hp (aU (hg _ s5 σ3 H5 x u _ I5' r5 (step x H5 y5)) fun _ s6 ⟨σ6,H6,I6,q6⟩=>?_)
  refine wpAny_passesOwn hp (aU (hb _ s6 σ6 H6 _ I6 q6) fun f s7 q7=>?_)
  have again:∀ {σ7:St} {H7:Hp},Inv X (pins++kE fp s5.heap) σ7 H7 s7->N σ7 H7->∃ m,m<n/\∃ i σ' H',Inv X pins σ' H' s7/\tn i s7.heap/\(∀ b∈fp,H' b=none)/\W i m σ' H':=fun {σ7 H7} I7 n7=>by
   obtain ⟨m',hm,w7⟩:=hN σ7 H7 n7
   refine ⟨m',hm,i+1,σ7,H7,I7.iu,T.keep _ _ _ Fo fun b hb o e=>(I7.pin (b,o) (List.mem_append_right _ (List.mem_append_right _ (eO hb e)))).1,fun b hb=>?_,w7⟩
   obtain ⟨o,e,d⟩:=T.obj _ _ Fo b hb
   exact (I7.pin (b,o) (List.mem_append_right _ (List.mem_append_right _ (eO hb e)))).2.1
  cases f with
  | next=>obtain ⟨σ7,H7,I7,n7⟩:=q7;exact again I7 n7
  | cont=>obtain ⟨σ7,H7,I7,n7⟩:=q7;exact again I7 n7
  | brk=>obtain ⟨σ7,H7,I7,q7⟩:=q7;exact ⟨σ7,H7,I7.iu,q7⟩
  | ret v=>obtain ⟨x7,σ7,H7,I7,r7,q7⟩:=q7;exact ⟨x7,σ7,H7,I7.iu,r7,q7⟩
end
noncomputable abbrev R2:=V->V->Hp->VK->Prop
noncomputable def eB (X:Cx) (f:Value->Value->Sem Value) (r:R2):Prop :=
 ∀ (pins:List (Addr×Obj)) (s:Shared) (σ:St) (H:Hp) (x y:V) (v u:Value) (Q:VK),Inv X pins σ H s->RelV x v->RelV y u->r x y H Q ->
  wpAny (model X.prog X.w) X.A (f v u) (EP X pins σ Q) X.xe s
noncomputable def UnR (X:Cx) (f:Value->Sem Value) (r:V->Hp->VK->Prop):Prop :=
 ∀ (pins:List (Addr×Obj)) (s:Shared) (σ:St) (H:Hp) (x:V) (v:Value) (Q:VK),Inv X pins σ H s->RelV x v->r x H Q ->
  wpAny (model X.prog X.w) X.A (f v) (EP X pins σ Q) X.xe s
noncomputable def c8 (X:Cx) (f:Value) (r:List V->Hp->VK->Prop):Prop :=
 ∀ (pins:List (Addr×Obj)) (s:Shared) (σ:St) (H:Hp) (xs:List V) (us:List Value) (Q:VK),Inv X pins σ H s->Vals xs us->r xs H Q ->
  wpAny (model X.prog X.w) X.A (call f us) (EP X pins σ Q) X.xe s
noncomputable def Fb (r:R2) (ta tb:TE):TE:=fun σ H Q=>ta σ H fun x H1=>tb σ H1 fun y H2=>r x y H2 Q
noncomputable def tUn (r:V->Hp->VK->Prop) (ta:TE):TE:=fun σ H Q=>ta σ H fun x H1=>r x H1 Q
noncomputable def rI (C:Int->Int->Prop) (g:Int->Int->V):R2:=fun x y H Q=>∃ i j,x=.int i/\y=.int j/\C i j/\Q (g i j) H
noncomputable def rF (g:Int->Int->V):R2:=fun x y H Q=>∃ i j,x=.int i/\y=.int j/\Q (g i j) H
noncomputable def rU (g:Int->V):V->Hp->VK->Prop:=fun x H Q=>∃ i,x=.int i/\Q (g i) H
section
variable {X:Cx} {a b c:Expr} {ta tb tc:TE} {pos:Pos}
theorem IS (ha:PE X a ta) (hb:PE X b tb) {pins:List (Addr×Obj)} {s:Shared} {σ:St} {H:Hp} {R:V->V->Hp->Prop} (I:Inv X pins σ H s)
  (h:ta σ H fun x H1=>tb σ H1 fun y H2=>R x y H2) {Q:Value->Shared->Prop} {f:Value->Value->Sem Value}
  (hf:∀ v u s2 x y H2,Inv X pins σ H2 s2->RelV x v->RelV y u->R x y H2->wpAny (model X.prog X.w) X.A (f v u) Q X.xe s2) :
  wpAny (model X.prog X.w) X.A (eval a X.env) (fun v s₁=>wpAny (model X.prog X.w) X.A (eval b X.env) (fun u s₂=>wpAny (model X.prog X.w) X.A (f v u) Q X.xe s₂) X.xe s₁) X.xe s:=by
 refine aU (ha pins s σ H _ I h) fun v s1 ⟨x,H1,I1,r1,q1⟩=>?_
 refine aU (hb pins s1 σ H1 _ I1 q1) fun u s2 ⟨y,H2,I2,r2,q2⟩=>?_
 exact hf v u s2 x y H2 I2 r1 r2 q2
theorem Kq {op:Operator} {r:R2} (ho:eB X (binaryOp op) r) (ha:PE X a ta) (hb:PE X b tb):PE X (.BinOp a op b pos) (Fb r ta tb):=by
 intro pins s σ H Q I h
 exact wpAny_BinOp (IS ha hb I h fun v u s2 x y H2 I2 rx ry q=>ho pins s2 σ H2 x y v u Q I2 rx ry q)
theorem Kn {op:UnaryOp} {r:V->Hp->VK->Prop} (ho:UnR X (unaryOp op) r) (ha:PE X a ta):PE X (.UnaryOp op a pos) (tUn r ta):=by
 intro pins s σ H Q I h
 exact UnaryOp_ (aU (ha pins s σ H _ I h) fun v s1 ⟨x,H1,I1,r1,q1⟩=>ho pins s1 σ H1 x v Q I1 r1 q1)
theorem KH {f:Value->Value->Sem Value} {C:Int->Int->Prop} {g:Int->Int->Int}
  (rule:∀ (i j:Int) (t u:Tok) (s:Shared) (Q:Value->Shared->Prop) (E:Value->Shared->Prop),C i j->Q (.int (g i j) s.toks) { s with toks:=s.toks+1 }->wpAny (model X.prog X.w) X.A (f (.int i t) (.int j u)) Q E s) :
  eB X f (rI C fun i j=>.int (g i j)):=by
 intro pins s σ H x y v u Q I rx ry h
 obtain ⟨i,j,rfl,rfl,hc,q⟩:=h
 obtain ⟨t,rfl⟩:=rx
 obtain ⟨t',rfl⟩:=ry
 exact rule i j t t' s _ _ hc ⟨.int (g i j),H,I.tok _,⟨_,rfl⟩,q⟩
theorem KG {f:Value->Value->Sem Value} {g:Int->Int->Int}
  (rule:∀ (i j:Int) (t u:Tok) (s:Shared) (Q:Value->Shared->Prop) (E:Value->Shared->Prop),Q (.int (g i j) s.toks) { s with toks:=s.toks+1 }->wpAny (model X.prog X.w) X.A (f (.int i t) (.int j u)) Q E s) :
  eB X f (rF fun i j=>.int (g i j)):=by
 intro pins s σ H x y v u Q I rx ry h
 obtain ⟨i,j,rfl,rfl,q⟩:=h
 obtain ⟨t,rfl⟩:=rx
 obtain ⟨t',rfl⟩:=ry
 exact rule i j t t' s _ _ ⟨.int (g i j),H,I.tok _,⟨_,rfl⟩,q⟩
theorem Ci {f:Value->Value->Sem Value} {g:Int->Int->Bool}
  (rule:∀ (i j:Int) (t u:Tok) (s:Shared) (Q:Value->Shared->Prop) (E:Value->Shared->Prop),Q (.bool (g i j)) s->wpAny (model X.prog X.w) X.A (f (.int i t) (.int j u)) Q E s) :
  eB X f (rF fun i j=>.bl (g i j)):=by
 intro pins s σ H x y v u Q I rx ry h
 obtain ⟨i,j,rfl,rfl,q⟩:=h
 obtain ⟨t,rfl⟩:=rx
 obtain ⟨t',rfl⟩:=ry
 exact rule i j t t' s _ _ ⟨.bl (g i j),H,I,rfl,q⟩
noncomputable def ME (i j:Int):Prop:=0<j/\j<1073741824
noncomputable def MC (i j:Int):Prop:=0<=j/\j<=1000000/\i.natAbs<2 ^ 64
noncomputable def DK (i j:Int):Prop:=(-(2 ^ 64)<i/\i<2 ^ 64)\/(-(2 ^ 64)<j/\j<2 ^ 64)
theorem DK.ok {i j:Int} (h:DK i j):IntMulOk i j:=by
 rcases h with ⟨h1,h2⟩ | ⟨h1,h2⟩
 ·exact .of_left (intBits_le_64 h1 h2)
 ·exact .of_right (intBits_le_64 h1 h2)
theorem GK:eB X (binaryOp .Add) (rF fun i j=>.int (i+j)):=KG fun _ _ _ _ _ _ _ q=>add_int q
theorem Gv:eB X (binaryOp .Sub) (rF fun i j=>.int (i-j)):=KG fun _ _ _ _ _ _ _ q=>sub_int q
theorem GB:eB X (binaryOp .Mult) (rI DK fun i j=>.int (i*j)):=KH fun _ _ _ _ _ _ _ hc q=>mul_int q hc.ok
theorem Ce:eB X (binaryOp .FloorDiv) (rI ME fun i j=>.int (i / j)):=KH fun i j _ _ _ _ _ hc q=>by
 have h1:(0:Int)<j:=hc.1
 have h2:j<1073741824:=hc.2
 exact floordiv_int (by omega) (by rw [Int.fdiv_eq_ediv_of_nonneg i (by omega)];exact q) (.inl (PyProof.noPylong_small (by omega)))
theorem GC:eB X (binaryOp .Mod) (rI (fun _ j=>0<j) fun i j=>.int (i % j)):=KH fun i j _ _ _ _ _ hc q=>by
 have h1:(0:Int)<j:=hc
 exact mod_int' (by omega) (by rw [Int.fmod_eq_emod_of_nonneg i (by omega)];exact q)
theorem Gw:eB X (binaryOp .Pow) (rI MC fun i j=>.int (i ^ j.toNat)):=KH fun _ _ _ _ _ _ _ hc q=>pow_int_small hc.1 hc.2.1 hc.2.2 q
theorem unI {f:Value->Sem Value} {g:Int->Int}
  (rule:∀ (i:Int) (t:Tok) (s:Shared) (Q:Value->Shared->Prop) (E:Value->Shared->Prop),Q (.int (g i) s.toks) { s with toks:=s.toks+1 }->wpAny (model X.prog X.w) X.A (f (.int i t)) Q E s) :
  UnR X f (rU fun i=>.int (g i)):=by
 intro pins s σ H x v Q I rx h
 obtain ⟨i,rfl,q⟩:=h
 obtain ⟨t,rfl⟩:=rx
 exact rule i t s _ _ ⟨.int (g i),H,I.tok _,⟨_,rfl⟩,q⟩
theorem E6:UnR X (unaryOp .USub) (rU fun i=>.int (-i)):=unI fun _ _ _ _ _ q=>neg_int q
end
noncomputable def JY:V->V->Bool
 | .ak,.ak=>true | .ak,.int _=>true | .int _,.ak=>true | .ak,.bl _=>true | .bl _,.ak=>true | .ak,.str _=>true | .str _,.ak=>true
 | .int _,.int _=>true | .bl _,.bl _=>true | .str _,.str _=>true | .wZ _,.wZ _=>true
 | .int _,.str _=>true | .str _,.int _=>true | .bl _,.str _=>true | .str _,.bl _=>true
 | _,_=>false
noncomputable def rEq:R2:=fun x y H Q=>JY x y=true/\Q (.bl (decide (x=y))) H
noncomputable def rNe:R2:=fun x y H Q=>JY x y=true/\Q (.bl (!decide (x=y))) H
theorem u0 {i j:Int}:decide (V.int i=V.int j)=(i == j):=by
 rw [Bool.eq_iff_iff]
 simp
theorem oh {i j:Bool}:decide (V.bl i=V.bl j)=(i == j):=by
 rw [Bool.eq_iff_iff]
 simp
theorem uZ {i j:Str}:decide (V.str i=V.str j)=(i == j):=by
 rw [Bool.eq_iff_iff]
 simp
theorem u5 {i j:Array UInt8}:decide (V.wZ i=V.wZ j)=(i.toList == j.toList):=by
 rw [Bool.eq_iff_iff]
 cases i
 cases j
 simp
section
variable {X:Cx} {a b c:Expr} {ta tb tc:TE} {pos:Pos}
theorem az {pins:List (Addr×Obj)} {σ:St} {H:Hp} {s:Shared} {Q:VK} {k k':Bool} (I:Inv X pins σ H s) (q:Q (.bl k) H) (e:k=k'):EP X pins σ Q (.bool k') s:=by
 subst e
 exact ⟨.bl k,H,I,rfl,q⟩
theorem KD:eB X (compareOp .Eq) rEq:=by
 intro pins s σ H x y v u Q I rx ry h
 obtain ⟨hs,q⟩:=h
 cases x with
 | ak =>
  cases rx
  cases y with
  | ak=>cases ry;exact PySem.EqNone.eq_none_none (az I q (by simp))
  | bl j=>cases ry;exact PySem.EqNone.eq_none_bool (az I q (by simp))
  | int j=>obtain ⟨t',rfl⟩:=ry;exact PySem.EqNone.eq_none_int (az I q (by simp))
  | str j=>obtain ⟨t',rfl⟩:=ry;exact PySem.EqNone.eq_none_str (az I q (by simp))
  | _=>exact absurd (show false=true from hs) Bool.false_ne_true
 | bl i =>
  cases rx
  cases y with
  | ak=>cases ry;exact PySem.EqNone.eq_bool_none (az I q (by simp))
  | bl j=>cases ry;exact eq_bool (az I q oh)
  | str j=>obtain ⟨t',rfl⟩:=ry;exact PySem.EqMixed.eq_bool_str (az I q (by simp))
  | _=>exact absurd (show false=true from hs) Bool.false_ne_true
 | int i =>
  obtain ⟨t,rfl⟩:=rx
  cases y with
  | ak=>cases ry;exact PySem.EqNone.eq_int_none (az I q (by simp))
  | int j=>obtain ⟨t',rfl⟩:=ry;exact eq_int (az I q u0)
  | str j=>obtain ⟨t',rfl⟩:=ry;exact PySem.EqMixed.eq_int_str (az I q (by simp))
  | _=>exact absurd (show false=true from hs) Bool.false_ne_true
 | str i =>
  obtain ⟨t,rfl⟩:=rx
  cases y with
  | ak=>cases ry;exact PySem.EqNone.eq_str_none (az I q (by simp))
  | bl j=>cases ry;exact PySem.EqMixed.eq_str_bool (az I q (by simp))
  | int j=>obtain ⟨t',rfl⟩:=ry;exact PySem.EqMixed.eq_str_int (az I q (by simp))
  | str j=>obtain ⟨t',rfl⟩:=ry;exact eq_str (az I q uZ)
  | _=>exact absurd (show false=true from hs) Bool.false_ne_true
 | wZ i =>
  obtain ⟨t,rfl⟩:=rx
  cases y with
  | wZ j=>obtain ⟨t',rfl⟩:=ry;exact PySem.W.eq_bytes (az I q u5)
  | _=>exact absurd (show false=true from hs) Bool.false_ne_true
 | _=>cases y <;> exact absurd (show false=true from hs) Bool.false_ne_true
theorem Kv:eB X (compareOp .NotEq) rNe:=by
 intro pins s σ H x y v u Q I rx ry h
 obtain ⟨hs,q⟩:=h
 cases x with
 | ak =>
  cases rx
  cases y with
  | ak=>cases ry;exact PySem.EqNone.ne_none_none (az I q (by simp))
  | bl j=>cases ry;exact PySem.EqNone.ne_none_bool (az I q (by simp))
  | int j=>obtain ⟨t',rfl⟩:=ry;exact PySem.EqNone.ne_none_int (az I q (by simp))
  | str j=>obtain ⟨t',rfl⟩:=ry;exact PySem.EqNone.ne_none_str (az I q (by simp))
  | _=>exact absurd (show false=true from hs) Bool.false_ne_true
 | bl i =>
  cases rx
  cases y with
  | ak=>cases ry;exact PySem.EqNone.ne_bool_none (az I q (by simp))
  | bl j=>cases ry;exact ne_bool (az I q (congrArg not oh))
  | str j=>obtain ⟨t',rfl⟩:=ry;exact PySem.EqMixed.ne_bool_str (az I q (by simp))
  | _=>exact absurd (show false=true from hs) Bool.false_ne_true
 | int i =>
  obtain ⟨t,rfl⟩:=rx
  cases y with
  | ak=>cases ry;exact PySem.EqNone.ne_int_none (az I q (by simp))
  | int j=>obtain ⟨t',rfl⟩:=ry;exact ne_int (az I q (congrArg not u0))
  | str j=>obtain ⟨t',rfl⟩:=ry;exact PySem.EqMixed.ne_int_str (az I q (by simp))
  | _=>exact absurd (show false=true from hs) Bool.false_ne_true
 | str i =>
  obtain ⟨t,rfl⟩:=rx
  cases y with
  | ak=>cases ry;exact PySem.EqNone.ne_str_none (az I q (by simp))
  | bl j=>cases ry;exact PySem.EqMixed.ne_str_bool (az I q (by simp))
  | int j=>obtain ⟨t',rfl⟩:=ry;exact PySem.EqMixed.ne_str_int (az I q (by simp))
  | str j=>obtain ⟨t',rfl⟩:=ry;exact ne_str (az I q (congrArg not uZ))
  | _=>exact absurd (show false=true from hs) Bool.false_ne_true
 | wZ i =>
  obtain ⟨t,rfl⟩:=rx
  cases y with
  | wZ j=>obtain ⟨t',rfl⟩:=ry;exact PySem.W.ne_bytes (az I q (congrArg not u5))
  | _=>exact absurd (show false=true from hs) Bool.false_ne_true
 | _=>cases y <;> exact absurd (show false=true from hs) Bool.false_ne_true
theorem Kw:eB X (compareOp .Lt) (rF fun i j=>.bl (decide (i<j))):=Ci fun _ _ _ _ _ _ _ q=>lt_int q
theorem Kz:eB X (compareOp .LtE) (rF fun i j=>.bl (decide (i<=j))):=Ci fun _ _ _ _ _ _ _ q=>le_int q
theorem KA:eB X (compareOp .Gt) (rF fun i j=>.bl (decide (j<i))):=Ci fun _ _ _ _ _ _ _ q=>gt_int q
theorem KC:eB X (compareOp .GtE) (rF fun i j=>.bl (decide (j<=i))):=Ci fun _ _ _ _ _ _ _ q=>ge_int q
theorem GD:eB X (compareOp .Is) (fun x y H Q=>y=.ak/\Q (.bl (decide (x=.ak))) H):=by
 intro pins s σ H x y v u Q I rx ry h
 obtain ⟨rfl,q⟩:=h
 cases ry
 refine is_none_gen (az I q ?_)
 cases x <;> first
  | (cases rx;rfl)
  | (obtain ⟨t,rfl⟩:=rx;rfl)
theorem Cb:eB X (compareOp .IsNot) (fun x y H Q=>y=.ak/\Q (.bl (!decide (x=.ak))) H):=by
 intro pins s σ H x y v u Q I rx ry h
 obtain ⟨rfl,q⟩:=h
 cases ry
 refine isnot_none_gen (az I q ?_)
 cases x <;> first
  | (cases rx;rfl)
  | (obtain ⟨t,rfl⟩:=rx;rfl)
theorem eB.or {f:Value->Value->Sem Value} {r r':R2} (h:eB X f r) (h':eB X f r'):eB X f (fun x y H Q=>r x y H Q\/r' x y H Q):=by
 intro pins s σ H x y v u Q I rx ry q
 rcases q with q | q
 ·exact h pins s σ H x y v u Q I rx ry q
 ·exact h' pins s σ H x y v u Q I rx ry q
theorem B7 {op:CmpOp} {r:R2} (ho:eB X (compareOp op) r) (ha:PE X a ta) (hb:PE X b tb) (hm:behindInMarks op b=false):PE X (.Compare a [op] [b] pos) (Fb r ta tb):=by
 intro pins s σ H Q I h
 exact wpAny_Compare1 (IS ha hb I h fun v u s2 x y H2 I2 rx ry q=>ho pins s2 σ H2 x y v u Q I2 rx ry q) hm
noncomputable def JG (t:TE):TT:=fun σ H Q=>t σ H fun x H'=>∃ k,x=.bl k/\Q k H'
theorem BU {op:CmpOp} {r:R2} (ho:eB X (compareOp op) r) (ha:PE X a ta) (hb:PE X b tb) (hm:behindInMarks op b=false):PT X (.Compare a [op] [b] pos) (JG (Fb r ta tb)):=by
 intro pins s σ H Q I h
 refine wpAny_isTrue_Compare1 (aU (ha pins s σ H _ I h) fun v s1 ⟨x,H1,I1,r1,q1⟩=>aU (hb pins s1 σ H1 _ I1 q1) fun u s2 ⟨y,H2,I2,r2,q2⟩ =>
  aU (ho pins s2 σ H2 x y v u _ I2 r1 r2 q2) fun c s3 ⟨z,H3,I3,r3,k,e,q3⟩=>?_) hm
 subst e
 cases r3
 exact wpAny_truthy_bool ⟨H3,I3,q3⟩
theorem je:(sizeLine:Nat)<2 ^ 63:=by rw [sizeLine_eq];decide
theorem rO:eB X (binaryOp .Add) (fun x y H Q=>∃ i j,x=.str i/\y=.str j/\i.length+j.length<=sizeLine/\Q (.str (i++j)) H):=by
 intro pins s σ H x y v u Q I rx ry h
 obtain ⟨i,j,rfl,rfl,hz,q⟩:=h
 obtain ⟨t,rfl⟩:=rx
 obtain ⟨t',rfl⟩:=ry
 exact add_str (fun t' tk=>⟨.str (i++j),H,I.tok _,⟨_,rfl⟩,q⟩) hz
theorem vals1 {x:V} {us:List Value} (r:Vals [x] us):∃ u,us=[u]/\RelV x u:=by
 cases r with
 | cons r1 r2=>cases r2;exact ⟨_,rfl,r1⟩
theorem vals2 {x y:V} {us:List Value} (r:Vals [x,y] us):∃ u w',us=[u,w']/\RelV x u/\RelV y w':=by
 cases r with
 | cons r1 r2 =>
  cases r2 with
  | cons r3 r4=>cases r4;exact ⟨_,_,rfl,r1,r3⟩
theorem wG (hc:X.calm=true):c8 X (.builtin "max") (fun xs H Q=>∃ i j, xs=[.int i, .int j]/\Q (.int (if j > i then j else i)) H):=by
 intro pins s σ H xs us Q I r h
 obtain ⟨i,j,rfl,q⟩:=h
 obtain ⟨u,w',rfl,⟨t,rfl⟩,⟨t',rfl⟩⟩:=vals2 r
 refine max_two_ints (I.ok.hd hc) fun h' tk k=>⟨_,H,I.kept k,?_,q⟩
 by_cases hj:j > i
 ·rw [if_pos hj,if_pos hj];exact ⟨_,rfl⟩
 ·rw [if_neg hj,if_neg hj];exact ⟨_,rfl⟩
theorem wF (hc:X.calm=true):c8 X (.builtin "min") (fun xs H Q=>∃ i j, xs=[.int i, .int j]/\Q (.int (if j<i then j else i)) H):=by
 intro pins s σ H xs us Q I r h
 obtain ⟨i,j,rfl,q⟩:=h
 obtain ⟨u,w',rfl,⟨t,rfl⟩,⟨t',rfl⟩⟩:=vals2 r
 refine min_two_ints (I.ok.hd hc) fun h' tk k=>⟨_,H,I.kept k,?_,q⟩
 by_cases hj:j<i
 ·rw [if_pos hj,if_pos hj];exact ⟨_,rfl⟩
 ·rw [if_neg hj,if_neg hj];exact ⟨_,rfl⟩
end
structure sW (h:Heap) (x dx C:Addr) (mA:Str->Option Value):Prop where
 obj:h.get? x=some (PySem.W.instObj C dx)
 ns:h.Ns1 dx mA
 ne:dx≠x
theorem vY {h:Heap} {dx:Addr} {mA:Str->Option Value} (n:h.Ns1 dx mA):∃ od,h.get? dx=some od/\∀ name,PySem.W.lookIn name od=some (mA name):=by
 obtain ⟨o,es,ep,ho,hd,hk,_,hm⟩:=n
 refine ⟨o,ho,fun name=>?_⟩
 have e:=hm name
 unfold nsFind findBy at e
 rw [<- Array.find?_toList] at e
 unfold PySem.W.lookIn
 rw [hd]
 dsimp only
 split
 ·rename_i y q
  rw [q] at e
  exact congrArg some e
 ·rename_i q
  rw [q] at e
  have a:es.toList.any (·.refKey)=false:=by
   rw [List.any_eq_false]
   intro y hy
   obtain ⟨z,t,hkey⟩:=hk y (Array.mem_toList_iff.mp hy)
   simp [DictEntry.refKey,hkey]
  have a':¬ es.toList.any (·.refKey)=true:=by rw [a];exact Bool.false_ne_true
  rw [if_neg a']
  exact congrArg some e
theorem sW.look {h:Heap} {x dx C:Addr} {mA:Str->Option Value} (I:sW h x dx C mA):∃ od,PySem.W.InstAt h x (PySem.W.instObj C dx) C (some od)/\∀ name,PySem.W.lookIn name od=some (mA name) :=
 let ⟨od,ho,hl⟩:=vY I.ns
 ⟨od,⟨I.obj,rfl,rfl,ho⟩,hl⟩
section
variable {prog:Program} {w:World} {A:Around} {E:Value->Shared->Prop} {s:Shared} {K:PySem.W.Frag} {x dx C f:Addr} {mA:Str->Option Value} {name:Str} {v:Value}
theorem get_map {expr:Bool} {Q:Value->Shared->Prop} (X:K.In s.heap) (I:sW s.heap x dx C mA) (hg:PySem.W.plainGet K C name=true) (hh:PySem.W.hasDictIn K C=true)
  (ha:PySem.W.findIn K (.ref C) name=some none) (hv:mA name=some v) (hv':PySem.W.handedIn v=true) (h:Q v { s with toks:=s.toks+1 }) :
  wpAny (model prog w) A (getAttr (.ref x) name expr) Q E s:=by
 obtain ⟨od,J,hl⟩:=I.look
 exact PySem.W.get_value X J (PySem.W.plainGet_of hg).1 (PySem.W.findObj_own hh ha rfl (by rw [hl,hv])) hv' h
theorem zF {pl:Sem Bool} {Q:Value×List Value->Shared->Prop} (X:K.In s.heap) (I:sW s.heap x dx C mA) (hg:PySem.W.plainGet K C name=true)
  (hf:PySem.W.findIn K (.ref C) name=some (some (.ref f))) (ht:PySem.W.isFn K (.ref f)=true) (hv:mA name=none) (h:Q (.ref f,[.ref x]) s) :
  wpAny (model prog w) A (getMethod (.ref x) name pl) Q E s:=by
 obtain ⟨od,J,hl⟩:=I.look
 exact PySem.W.method_fn X J (PySem.W.plainGet_of hg).1 (PySem.W.plainGet_of hg).2 hf (beq_iff_eq.mp ht) (by show (PySem.W.lookIn name od).map (·.isSome)=some false;rw [hl,hv];rfl) h
theorem BE {ns:List Str} {Q:Unit->Shared->Prop} (X:K.In s.heap) (I:sW s.heap x dx C mA)
  (hs:PySem.W.findIn K (.ref C) "__setattr__" = some (some (.builtin "object.__setattr__"))) (hp:PySem.W.plainOver K C=true) (ht:PySem.W.takerIn K C name=some none) (hh:PySem.W.hasDictIn K C=true)
  (hw:PySem.Within mA ns) (hsz:ns.length<=sizeLine)
  (h:∀ h',sW h' x dx C (fun y=>if y=name then some v else mA y)->Heap.SameBut dx s.heap h'->Q () { s with heap:=h',toks:=s.toks+2 }) :
  wpAny (model prog w) A (setAttr (.ref x) name v) Q E s:=by
 obtain ⟨od,J,hl⟩:=I.look
 refine PySem.W.set_plain X J hs (PySem.W.osa_open (s:={ s with toks:=s.toks+1 }) (r:=none) X J hp ht fun b=>?_)
 obtain ⟨cd,hc,hd'⟩:=PySem.W.any_some hh
 have hx:s.heap.get? x=some ⟨.ref C,some dx,.plain,#[]⟩:=I.obj
 refine wpAny_bind (wpAny_pure (wpAny_bind (wpAny_bind (wpAny_loadPart hx (wpAny_bind (PySem.W.Looks.here (s:={ s with toks:=s.toks+1 }) (PySem.W.looks_clsIn X hc) ?_))))))
 rw [hd']
 refine wpAny_pure (a:=some dx) (wpAny_bind (wpAny_pure (wpAny_bind ?_)))
 refine wpAny_nsSet1 (s:={ s with toks:=s.toks+1 }) I.ns fun h' hn2 hs2=>?_
 obtain ⟨oD,esD,epD,hoD,hdD,hcD⟩:=hn2.count (PySem.Within.cons name v hw)
 refine wpAny_bind (wpAny_lookBehind hoD (by rw [hdD];exact pastItsLine_dict (Nat.le_trans hcD (by rw [List.length_cons];omega))) ?_)
 exact wpAny_pure (h _ ⟨(hs2.2 _ (Ne.symm I.ne)).trans I.obj,hn2,I.ne⟩ hs2)
theorem yV {R:Result->Shared->Prop} {vs:List Value} {kw:List (Str×Value)} (X:K.In s.heap) (hm:PySem.W.makesIn K C=true)
  (hi:PySem.W.findIn K (.ref C) "__init__" = some (some (.ref f))) (hf:PySem.W.typeIn K (.ref f)=some (.type "function"))
  (h:codeAny (model prog w) (A.under (.builtin "type.__call__" ⟨.ref C::vs, kw⟩)) (.call (.ref f) ⟨.ref (s.heap.objs.size+1)::vs, kw⟩) (PySem.W.InitBack (s.heap.objs.size+1) R)
   { s with heap:=(s.heap.push PySem.W.emptyDict).push (PySem.W.instObj C s.heap.objs.size) }) :
  codeAny (model prog w) A (.call (.ref C) ⟨vs,kw⟩) R s:=by
 obtain ⟨hh,g,d,t,os⟩:=s
 exact PySem.W.make_core (PySem.W.makes_of X hm) (PySem.W.looks_findIn X hi) (fun self=>PySem.W.bind_fn X self hf) (.inl rfl) h
end
noncomputable def dH (f:Str) (v:V):List (Str×V)->List (Str×V)
 | []=>[(f,v)]
 | (g,x)::r=>if g=f then (g,v)::r else (g,x)::dH f v r
theorem jy (f g:Str) (v:V):∀ fs:List (Str×V),(dH f v fs).lookup g=if g=f then some v else fs.lookup g
 | []=>by
  show List.lookup g [(f,v)]=_
  by_cases h:g=f
  ·have hb:(g == f)=true:=beq_iff_eq.mpr h
   simp only [List.lookup,hb,if_pos h]
  ·have hb:(g == f)=false:=beq_eq_false_iff_ne.mpr h
   simp only [List.lookup,hb,if_neg h]
 | (k, x)::r=>by
  have ih:=jy f g v r
  rw [show dH f v ((k,x)::r)=(if k=f then (k,v)::r else (k,x)::dH f v r) from rfl]
  by_cases hk:k=f
  ·rw [if_pos hk]
   by_cases h:g=k
   ·have hb:(g == k)=true:=beq_iff_eq.mpr h
    simp only [List.lookup,hb,if_pos (h.trans hk)]
   ·have hb:(g == k)=false:=beq_eq_false_iff_ne.mpr h
    simp only [List.lookup,hb,if_neg (fun e:g=f=>h (e.trans hk.symm))]
  ·rw [if_neg hk]
   by_cases h:g=k
   ·have hb:(g == k)=true:=beq_iff_eq.mpr h
    simp only [List.lookup,hb,if_neg (fun e:g=f=>hk (h.symm.trans e))]
   ·have hb:(g == k)=false:=beq_eq_false_iff_ne.mpr h
    simp only [List.lookup,hb]
    exact ih
theorem jf (f:Str) (v:V):∀ fs:List (Str×V),f∈(dH f v fs).map (·.1)/\∀ g,g∈fs.map (·.1)->g∈(dH f v fs).map (·.1)
 | []=>⟨by simp [dH],fun g h=>by simp at h⟩
 | (k, x)::r=>by
  obtain ⟨i1,i2⟩:=jf f v r
  rw [show dH f v ((k,x)::r)=(if k=f then (k,v)::r else (k,x)::dH f v r) from rfl]
  by_cases hk:k=f
  ·rw [if_pos hk]
   subst hk
   exact ⟨by simp,fun g h=>by simpa using h⟩
  ·rw [if_neg hk]
   refine ⟨?_,fun g h=>?_⟩
   ·rw [List.map_cons]
    exact List.mem_cons_of_mem _ i1
   ·rw [List.map_cons] at h ⊢
    rcases List.mem_cons.mp h with e | e
    ·exact List.mem_cons.mpr (.inl e)
    ·exact List.mem_cons_of_mem _ (i2 g e)
theorem jz (f:Str) (v:V):∀ fs:List (Str×V),(dH f v fs).length<=fs.length+1
 | []=>by simp [dH]
 | (k,x)::r=>by
  have ih:=jz f v r
  rw [show dH f v ((k,x)::r)=(if k=f then (k,v)::r else (k,x)::dH f v r) from rfl]
  by_cases hk:k=f
  ·rw [if_pos hk,List.length_cons,List.length_cons];omega
  ·rw [if_neg hk,List.length_cons,List.length_cons];omega
theorem ie.some_of {v:V} {o:Option Value} (r:ie (some v) o):∃ u,o=some u/\RelV v u:=by
 cases o with
 | none=>exact (show False from r).elim
 | some u=>exact ⟨u,rfl,r⟩
theorem ie.none_of {o:Option Value} (r:ie none o):o=none:=by
 cases o with
 | none=>rfl
 | some u=>exact (show False from r).elim
theorem wm {v:V} {u:Value} (r:RelV v u):PySem.W.handedIn u=true:=by
 cases v with
 | ak=>cases (show u=Value.none from r);rfl
 | bl b=>cases (show u=Value.bool b from r);rfl
 | int i=>obtain ⟨t,e⟩:=(show ∃ t,u=Value.int i t from r);cases e;rfl
 | str x=>obtain ⟨t,e⟩:=(show ∃ t,u=Value.str x t from r);cases e;rfl
 | wZ b=>obtain ⟨t,e⟩:=(show ∃ t,u=Value.bytes b t from r);cases e;rfl
 | Nv b=>obtain ⟨t,e⟩:=(show ∃ t,u=Value.float b t from r);cases e;rfl
 | ref a=>cases (show u=Value.ref a from r);rfl
 | ty n=>cases (show u=Value.type n from r);rfl
section
variable {P:Program} {w:World} {H H':Hp} {h h':Heap} {a C dx:Addr} {fs fs':List (Str×V)}
theorem nR (hok:gF P w H h) (e:H a=some (.ins C dx fs)):∃ mA,sW h a dx C mA/\(∀ f,ie (fs.lookup f) (mA f))/\PySem.Within mA (fs.map (·.1))/\fs.length<=1000/\H dx=some (.own a):=by
 obtain ⟨d,z,ne,ob,mA,n,r,q⟩:=(show bf P w H h a (.ins C dx fs) from hok a _ e)
 exact ⟨mA,⟨ob,n,ne⟩,r,q,z,d⟩
end
structure wU (K:PySem.W.Frag) (C:Addr):Prop where
 pg:PySem.W.plainGet K C Str.empty=true
 hd:PySem.W.hasDictIn K C=true
 po:PySem.W.plainOver K C=true
 sa:PySem.W.findIn K (.ref C) "__setattr__" = some (some (.builtin "object.__setattr__"))
theorem wU.get {K:PySem.W.Frag} {C:Addr} (c:wU K C) (f:Str):PySem.W.plainGet K C f=true:=c.pg
noncomputable def dU (K:PySem.W.Frag) (C:Addr) (f:Str):Prop:=PySem.W.findIn K (.ref C) f=some none
theorem dU.JD {K:PySem.W.Frag} {C:Addr} {f:Str} (n:dU K C f):PySem.W.takerIn K C f=some none:=by
 unfold PySem.W.takerIn
 rw [show PySem.W.findIn K (.ref C) f=some none from n]
 rfl
structure Meth (K:PySem.W.Frag) (C:Addr) (m:Str) (f:Addr):Prop where
 at_:PySem.W.findIn K (.ref C) m=some (some (.ref f))
 fn:PySem.W.isFn K (.ref f)=true
 kp:PySem.W.keepIn K (.ref f)=true
section
variable {X:Cx} {pins:List (Addr×Obj)} {σ:St} {H:Hp} {s:Shared} {a C dx:Addr} {fs:List (Str×V)} {f:Str} {v:V} {A:Around} {E:Value->Shared->Prop}
theorem sf {b:Bool} {Q:Value->Shared->Prop} (I:Inv X pins σ H s) (e:H a=some (.ins C dx fs)) (c:wU X.K C) (n:dU X.K C f) (l:fs.lookup f=some v)
  (h:∀ u s',Inv X pins σ H s'->RelV v u->Q u s'):wpAny (model X.prog X.w) A (getAttr (.ref a) f b) Q E s:=by
 obtain ⟨mA,O,r,_,_,_⟩:=nR I.hok e
 obtain ⟨u,hu,ru⟩:=ie.some_of (v:=v) (o:=mA f) (by rw [<- l];exact r f)
 exact get_map I.iK O (c.get f) c.hd n hu (wm ru) (h u _ (I.tok _) ru)
theorem kT {m:Str} {g:Addr} {pl:Sem Bool} {Q:Value×List Value->Shared->Prop} (I:Inv X pins σ H s) (e:H a=some (.ins C dx fs)) (c:wU X.K C) (k:Meth X.K C m g) (l:fs.lookup m=none)
  (h:Q (.ref g,[.ref a]) s):wpAny (model X.prog X.w) A (getMethod (.ref a) m pl) Q E s:=by
 obtain ⟨mA,O,r,_,_,_⟩:=nR I.hok e
 have hn:mA m=none:=ie.none_of (by rw [<- l];exact r m)
 exact zF I.iK O (c.get m) k.at_ k.fn hn h
theorem rA {y:V} {u:Value} {Q:Unit->Shared->Prop} (I:Inv X pins σ H s) (e:H a=some (.ins C dx fs)) (c:wU X.K C) (n:dU X.K C f) (hl:fs.length<1000) (ry:RelV y u)
  (h:∀ s',Inv X pins σ (upd H a (.ins C dx (dH f y fs))) s'->Q () s'):wpAny (model X.prog X.w) A (setAttr (.ref a) f u) Q E s:=by
 obtain ⟨mA,O,r,wi,_,ho⟩:=nR I.hok e
 have hz:(fs.map (·.1)).length<=sizeLine:=by rw [List.length_map,sizeLine_eq];omega
 refine BE I.iK O c.sa c.po n.JD c.hd wi hz fun h' O' sb=>h _ ?_
 have hd:∃ o,h'.get? dx=some o:=let ⟨o,_,_,e',_⟩:=O'.ns;⟨o,e'⟩
 refine I.write (x:=a) (e:=dx) (by rw [e];exact True.intro) (.inr ho) (fun b q hb z=>(sb.2 b hb).trans z) hd ?_
 refine ⟨by rw [ao O.ne];exact ho,?_,O.ne,O'.obj,_,O'.ns,fun g=>?_,fun g hg=>?_⟩
 ·have:=jz f y fs;omega
 ·show ie ((dH f y fs).lookup g) (if g=f then some u else mA g)
  rw [jy]
  by_cases q:g=f
  ·rw [if_pos q,if_pos q];exact ry
  ·rw [if_neg q,if_neg q];exact r g
 ·by_cases q:g=f
  ·rw [q];exact (jf f y fs).1
  ·refine (jf f y fs).2 g (wi g fun z=>hg ?_)
   show (if g=f then some u else mA g)=none
   rw [if_neg q];exact z
theorem Inv.made (I:Inv X pins σ H s):Inv X pins σ (upd (upd H s.heap.objs.size (.own (s.heap.objs.size+1))) (s.heap.objs.size+1) (.ins C s.heap.objs.size []))
  { s with heap:=(s.heap.push PySem.W.emptyDict).push (PySem.W.instObj C s.heap.objs.size) }:=by
 have e1:(s.heap.push PySem.W.emptyDict).get? s.heap.objs.size=some PySem.W.emptyDict:=Heap.get?_push_size s.heap rfl
 have e2:((s.heap.push PySem.W.emptyDict).push (PySem.W.instObj C s.heap.objs.size)).get? (s.heap.objs.size+1)=some (PySem.W.instObj C s.heap.objs.size):=by
  have:=Heap.get?_push_size (s.heap.push PySem.W.emptyDict) (o:=PySem.W.instObj C s.heap.objs.size) rfl
  rwa [Heap.size_push] at this
 have e3:(s.heap.push PySem.W.emptyDict).Ns s.heap.objs.size (fun _=>none):=⟨PySem.W.emptyDict,#[],_,e1,rfl,(fun e he=>absurd he (by simp)),fun _=>rfl⟩
 have I1:=I.laid (a:=s.heap.objs.size) (o:=.own (s.heap.objs.size+1)) (h':=s.heap.push PySem.W.emptyDict) (t':=s.toks) (fun b u q=>Heap.get?_push_of_some _ q) (Nat.le_refl _) ⟨_,e1⟩
 refine I1.laid (a:=s.heap.objs.size+1) (o:=.ins C s.heap.objs.size []) (t':=s.toks) (fun b u q=>Heap.get?_push_of_some _ q) (Nat.le_of_eq (Heap.size_push _ _)) ?_
 have ne:s.heap.objs.size≠s.heap.objs.size+1:=Nat.ne_of_lt (Nat.lt_succ_self _)
 refine ⟨by rw [ao ne,ay],Nat.zero_le _,ne,e2,fun _=>none,(Heap.Ns1.of_empty e3).at fun o q=>Heap.get?_push_of_some _ q,fun _=>True.intro,fun y hy=>absurd rfl hy⟩
theorem Dy {prog:Program} {w:World} {env:Env} {e:Expr} {f:Str} {pos:Pos} {s:Shared} {Q:Value->Shared->Prop} (hb:attributeBase e f env (eval e env)=eval e env)
  (h:wpAny (model prog w) A (eval e env) (fun o s₁=>wpAny (model prog w) A (getAttr o f true) Q E s₁) E s):wpAny (model prog w) A (eval (.Attribute e f pos) env) Q E s :=
 Attribute_any_ h (by rw [arm_eval_Attribute,hb])
end
noncomputable def JP (K:PySem.W.Frag) (ta:TE) (f:Str):TE:=fun σ H Q=>ta σ H fun x H1=>∃ a C dx fs v,x=.ref a/\H1 a=some (.ins C dx fs)/\wU K C/\dU K C f/\fs.lookup f=some v/\Q v H1
noncomputable def J0 (K:PySem.W.Frag) (ta tv:TE) (f:Str):TS:=fun D σ H=>tv σ H fun y H1=>ta σ H1 fun x H2=>∃ a C dx fs,x=.ref a/\H2 a=some (.ins C dx fs)/\wU K C/\dU K C f/\fs.length<1000 /\
 D.nx σ (upd H2 a (.ins C dx (dH f y fs)))
section
variable {X:Cx} {o e value:Expr} {f:Str} {pos pos' tpos:Pos} {ta tv:TE}
theorem Gp (he:PE X e ta) (hb:attributeBase e f X.env (eval e X.env)=eval e X.env):PE X (.Attribute e f pos) (JP X.K ta f):=by
 intro pins s σ H Q I h
 refine Dy hb (aU (he pins s σ H _ I h) fun u s1 ⟨x,H1,I1,rx,a,C,dx,fs,v,ex,ea,c,n,l,q⟩=>?_)
 subst ex
 obtain rfl:u=Value.ref a:=rx
 exact sf I1 ea c n l fun u' s2 I2 ru=>⟨v,H1,I2,ru,q⟩
theorem Ga (ha:PE X o ta) (hv:PE X value tv) (hs:swapsWith value (some (.Attribute o f pos')) pos.line X.env=pure false):PS X (.Assign [.Attribute o f pos'] value pos) (J0 X.K ta tv f):=by
 intro pins s σ H D I h
 refine plainObj_wpAny_Assign_Attribute (aU (hv pins s σ H _ I h) fun u s1 ⟨y,H1,I1,ry,q⟩=>aU (ha pins s1 σ H1 _ I1 q) fun ov s2 ⟨x,H2,I2,rx,a,C,dx,fs,ex,ea,c,n,l,q2⟩=>?_) hs
 subst ex
 obtain rfl:ov=Value.ref a:=rx
 exact rA I2 ea c n l ry fun s3 I3=>⟨σ,_,I3,q2⟩
end
section
variable {X:Cx} {pins:List (Addr×Obj)} {σ:St} {H:Hp} {s:Shared} {A:Around} {E:Value->Shared->Prop} {Q:Value->Shared->Prop} {c:Value} {b:Bool}
end
structure cy (k:Nat) (A:Around):Prop where
 hd:A.handled=none
 dp:A.depth+3*k+5<recursionLimit
 un:A.units+16*k+200<cLine
theorem cy.deeper {k:Nat} {A:Around} (r:cy (k+1) A) (env:Env):cy k (A.deeper env) :=
 ⟨r.hd,by have:=r.dp;show A.depth+1+3*k+5<_;omega,by have:=r.un;show A.units+3+16*k+200<_;omega⟩
theorem cy.in1 {k:Nat} {A:Around} (r:cy (k+1) A):cy k A.in1 :=
 ⟨r.hd,by have:=r.dp;show A.depth+3*k+5<_;omega,by have:=r.un;show A.units+1+16*k+200<_;omega⟩
theorem rW {A:Around} {C:Addr} {us:List Value} {kw:List (Str×Value)}:(A.under (.builtin "type.__call__" ⟨.ref C::us, kw⟩)).depth=A.depth+1:=by
 first | rfl | simp [Around.under,Code.weight,Code.isCreation,Code.isGuard,Code.isCaller,Code.frames,Code.isFrame,guardIds]
theorem rV {A:Around} {C:Addr} {us:List Value} {kw:List (Str×Value)}:(A.under (.builtin "type.__call__" ⟨.ref C::us, kw⟩)).units=A.units+1:=by
 first | rfl | simp [Around.under,Code.cUnits,Code.frames,Code.isFrame]
theorem cy.make {k:Nat} {A:Around} (r:cy (k+1) A) (C:Addr) (us:List Value) (kw:List (Str×Value)):cy k (A.under (.builtin "type.__call__" ⟨.ref C::us, kw⟩)) :=
 ⟨r.hd,by have:=r.dp;rw [rW];omega,by have:=r.un;rw [rV];omega⟩
theorem cy.depth {k:Nat} {A:Around} (r:cy k A):A.depth<recursionLimit:=by have:=r.dp;omega
noncomputable def iy:TA:=fun _ H Q=>Q [] H
noncomputable def bQ (ta:TE) (tr:TA):TA:=fun σ H Q=>ta σ H fun x H1=>tr σ H1 fun xs H2=>Q (x::xs) H2
section
variable {X:Cx} {e:Expr} {es:List Expr} {te:TE} {t:TA} {pos:Pos}
theorem cQ:PA X [] iy:=fun _ _ _ _ H Q I h=>Calls.spliced_nil ⟨[],H,I,.nil,h⟩
theorem aP (ha:PE X e te) (hr:PA X es t) (hs:starEach (e::es) X.env=(false,eval e X.env)::starEach es X.env:=by rfl):PA X (e::es) (bQ te t):=by
 intro pos pins s σ H Q I h
 rw [hs]
 show wpAny _ _ (spliced ((false,eval e X.env)::backTo pos (starEach es X.env))) _ _ s
 refine Calls.spliced_cons (aU (ha pins s σ H _ I h) fun u s1 ⟨x,H1,I1,r1,q1⟩=>?_)
 exact aU (hr pos pins s1 σ H1 _ I1 q1) fun us s2 ⟨xs,H2,I2,r2,q2⟩=>⟨x::xs,H2,I2,.cons r1 r2,q2⟩
noncomputable def JF (t:TA):TE:=fun σ H Q=>t σ H fun xs H1=>xs.length<=sizeLine/\∀ p,H1 p=none->Q (.ref p) (upd H1 p (.tup xs))
noncomputable def JM (t:TA):TE:=fun σ H Q=>t σ H fun xs H1=>xs.length<=sizeLine/\∀ p,H1 p=none->Q (.ref p) (upd H1 p (.lst xs))
theorem Gg {x1} (h:PA X es t):PE X (.Tuple es x1 pos) (JF t):=by
 intro pins s σ H Q I hq
 refine wpAny_Tuple_spliced (aU (h pos pins s σ H _ I hq) fun us s1 ⟨xs,H1,I1,r,z,q⟩=>⟨by rw [<- r.length];exact z,?_⟩)
 have hf:H1 s1.heap.objs.size=none:=I1.hok.fresh (Nat.le_refl _)
 refine ⟨.ref s1.heap.objs.size,upd H1 s1.heap.objs.size (.tup xs),I1.laid (t':=s1.toks) (fun b u e=>Heap.get?_push_of_some _ e) (Nat.le_refl _) ?_,rfl,q _ hf⟩
 exact ⟨z,us,r,⟨_,Heap.get?_push_size _ rfl,rfl,_,rfl⟩⟩
theorem Gk (h:PA X es t):PE X (.List es pos) (JM t):=by
 intro pins s σ H Q I hq
 refine wpAny_List_spliced (aU (h pos pins s σ H _ I hq) fun us s1 ⟨xs,H1,I1,r,z,q⟩=>⟨by rw [<- r.length];exact z,?_⟩)
 have hf:H1 s1.heap.objs.size=none:=I1.hok.fresh (Nat.le_refl _)
 refine ⟨.ref s1.heap.objs.size,upd H1 s1.heap.objs.size (.lst xs),I1.laid (t':=s1.toks) (fun b u e=>Heap.get?_push_of_some _ e) (Nat.le_refl _) ?_,rfl,q _ hf⟩
 exact ⟨z,us,0,r,Heap.get?_push_size _ rfl⟩
end
noncomputable abbrev Sp:=List V->Hp->VK->XK->Prop
noncomputable abbrev AK:=List Env->Hp->Shared->XK->Value->Shared->Prop
structure lQ (P:Program) (w:World) (K:PySem.W.Frag) (mg:Str->Option Value) (base:Heap) (A:Around) (outer:List Env) (s:Shared) (H:Hp):Prop where
 frames:A.frames=some outer
 mod:Mod K mg base
 bs:∀ b o,base.get? b=some o->s.heap.get? b=some o/\H b=none
 wM:base.objs.size<=s.heap.objs.size
 gA:s.heap.FunFrames base outer
 zH:∀ b∈frs outer,H b=none
 hok:gF P w H s.heap
 bare:AllBare s.gens
noncomputable def CE (outer:List Env) (P:Program) (w:World) (H:Hp) (s:Shared) (Q:VK) (u:Value) (s':Shared):Prop :=
 ∃ v H',s'.os=s.os/\AllBare s'.gens/\Un (frs outer) [] H H' s.heap s'.heap/\gF P w H' s'.heap/\RelV v u/\Q v H'
noncomputable def CR (CX:AK) (outer:List Env) (P:Program) (w:World) (H:Hp) (s:Shared) (Q:VK) (E:XK) (r:Result) (s':Shared):Prop :=
 match r with
 | .ok (.ret u)=>CE outer P w H s Q u s'
 | .ok _=>False
 | .error e=>CX outer H s E e s'
structure cK (P:Program) (w:World) (K:PySem.W.Frag) (mg:Str->Option Value) (base:Heap) (CX:AK) (k:Nat) (f:Addr) (fd:FuncData) (ps:List Str) (sp:Sp):Prop where
 len:∀ vs H Q E,sp vs H Q E->vs.length=ps.length
 run:∀ (A:Around) (outer:List Env) (s:Shared) (H:Hp) (args:Args) (us:List Value) (vs:List V) (Q:VK) (E:XK),cy k A->lQ P w K mg base A outer s H->BindsTo s fd args (ps.zip us)->Vals vs us->sp vs H Q E ->
  codeAny (model P w) A (.call (.ref f) args) (CR CX outer P w H s Q E) s
theorem cK.imp {P:Program} {w:World} {K:PySem.W.Frag} {mg:Str->Option Value} {base:Heap} {CX:AK} {k:Nat} {f:Addr} {fd:FuncData} {ps:List Str} {sp sp':Sp} (F:cK P w K mg base CX k f fd ps sp)
  (h:∀ vs H Q E,sp' vs H Q E->sp vs H Q E):cK P w K mg base CX k f fd ps sp' :=
 ⟨fun vs H Q E q=>F.len vs H Q E (h _ _ _ _ q),fun A outer s H args us vs Q E hr he hb hv hs=>F.run A outer s H args us vs Q E hr he hb hv (h _ _ _ _ hs)⟩
theorem lQ.make {P:Program} {w:World} {K:PySem.W.Frag} {mg:Str->Option Value} {base:Heap} {A:Around} {outer:List Env} {s:Shared} {H:Hp} (e:lQ P w K mg base A outer s H) (C:Addr) (us:List Value) (kw:List (Str×Value)) :
  lQ P w K mg base (A.under (.builtin "type.__call__" ⟨.ref C::us, kw⟩)) outer s H:=⟨by first | exact e.frames | (simpa [Around.under, Code.envs, Code.isFrame, pushEnvs] using e.frames), e.mod, e.bs, e.wM, e.gA, e.zH, e.hok, e.bare⟩
theorem lQ.in1 {P:Program} {w:World} {K:PySem.W.Frag} {mg:Str->Option Value} {base:Heap} {A:Around} {outer:List Env} {s:Shared} {H:Hp} (e:lQ P w K mg base A outer s H) :
  lQ P w K mg base A.in1 outer s H:=⟨e.frames,e.mod,e.bs,e.wM,e.gA,e.zH,e.hok,e.bare⟩
section
variable {X:Cx} {pins:List (Addr×Obj)} {σ:St} {H:Hp} {s s':Shared}
theorem Inv.lO (I:Inv X pins σ H s):lQ X.prog X.w X.K X.mg X.base X.A X.stack s H :=
 ⟨I.ok.frames,I.ok.mod,I.bs,Nat.le_trans I.ok.wM I.sz,I.stack,I.gf,I.hok,I.bare⟩
theorem Inv.after {Q:VK} {u:Value} (I:Inv X pins σ H s) (h:CE X.stack X.prog X.w H s Q u s'):EP X pins σ Q u s':=by
 obtain ⟨v,H',os,bare,un,hok,r,q⟩:=h
 obtain ⟨hh,g,d,t,os'⟩:=s'
 obtain rfl:os'=s.os:=os
 exact ⟨v,H',I.call (h':=hh) (g':=g) (d':=d) (t':=t) (ch:=[]) un hok bare (fun b z=>absurd z (by simp)),r,q⟩
end
noncomputable def Binds (K:PySem.W.Frag) (fd:FuncData) (ps:List Str) (ds:List Value):Prop :=
 ∀ (s:Shared) (us:List Value),K.In s.heap->(us++ds).length=ps.length->BindsTo s fd ⟨us,[]⟩ (ps.zip (us++ds))
theorem Binds.all {K:PySem.W.Frag} {fd:FuncData} {ps:List Str} (h:∀ us:List Value,us.length=ps.length->bindArgs fd ⟨us,[]⟩=pure (ps.zip us)):Binds K fd ps []:=fun s us _ hl=>by
 rw [List.append_nil] at hl ⊢
 exact .of_eq (h us hl)
section
variable {X:Cx} {CX:AK} {k:Nat} {f C:Addr} {fd:FuncData} {ps:List Str} {sp:Sp} {dvs:List V} {ds:List Value} {E:XK} {x m:Str} {p pos apos:Pos} {e o:Expr} {es:List Expr} {ta:TE} {t:TA}
structure Mk (K:PySem.W.Frag) (C f:Addr):Prop where
 makes:PySem.W.makesIn K C=true
 init:PySem.W.findIn K (.ref C) "__init__" = some (some (.ref f))
 fn:PySem.W.isFn K (.ref f)=true
 kp:PySem.W.keepIn K (.ref C)=true
end
section
variable {X:Cx} {CX:AK} {k:Nat} {f C:Addr} {fd:FuncData} {ps ks:List Str} {sp:Sp} {E:XK} {x m:Str} {p pos apos kpos:Pos} {e o:Expr} {es:List Expr} {kws:List Keyword} {te ta:TE} {t tk:TA} {nm:Option Str}
variable {g:List Value->List Value->List Value} {gV:List V->List V->List V}
end
structure dF (N P:List Str) (sc:Scope):Prop where
 kind:sc.kind=.function
 co:sc.isCoroutine=false
 gen:sc.isGenerator=false
 nd:N.Nodup
 pre:N.take P.length=P
 par:∀ x∈P,sc.names.lookup x=some .local\/sc.names.lookup x=some .cell
 GP:∀ y∈sc.names,y.2≠.free
theorem mT {kindOf:Str->Option NameKind} {x:Str}:∀ {binds:List (Str×Value)} {m:Str->Option Value},(∀ v,(x,v)∉binds)->bindL kindOf binds m x=m x
 | [],_,_=>rfl
 | (n, v)::r, m, h=>by
  unfold bindL
  rw [mT fun w hw=>h w (List.mem_cons_of_mem _ hw)]
  split
  ·have:x≠n:=by rintro rfl;exact h v List.mem_cons_self
   simp [this]
  ·rfl
theorem mV {kindOf:Str->Option NameKind} {x:Str}:∀ {binds:List (Str×Value)} {m:Str->Option Value},(∀ v,(x,v)∉binds)->bindC kindOf binds m x=m x
 | [],_,_=>rfl
 | (n, v)::r, m, h=>by
  unfold bindC
  rw [mV fun w hw=>h w (List.mem_cons_of_mem _ hw)]
  split
  ·rfl
  ·have:x≠n:=by rintro rfl;exact h v List.mem_cons_self
   simp [this]
theorem mU {kindOf:Str->Option NameKind} {x:Str} {v:Value}:∀ {P:List Str} {vs:List Value} {i:Nat} {m:Str->Option Value},P.Nodup->P[i]? = some x->vs[i]? = some v->kindOf x=some .local ->
  bindL kindOf (P.zip vs) m x=some v
 | [],_,_,_,_,h,_,_=>by simp at h
 | _::_,[],_,_,_,_,h,_=>by simp at h
 | p::P,w::vs,0,m,nd,h1,h2,hk=>by
  simp at h1 h2;subst h1;subst h2
  show bindL kindOf ((p,w)::P.zip vs) m p=_
  unfold bindL
  rw [mT fun v hv=>(List.nodup_cons.mp nd).1 (List.of_mem_zip hv).1,if_pos hk]
  simp
 | p::P,w::vs,i+1,m,nd,h1,h2,hk=>by
  show bindL kindOf ((p,w)::P.zip vs) m x=_
  unfold bindL
  exact mU (i:=i) (List.nodup_cons.mp nd).2 (by simpa using h1) (by simpa using h2) hk
theorem mW {kindOf:Str->Option NameKind} {x:Str} {v:Value}:∀ {P:List Str} {vs:List Value} {i:Nat} {m:Str->Option Value},P.Nodup->P[i]? = some x->vs[i]? = some v->kindOf x≠some .local ->
  bindC kindOf (P.zip vs) m x=some v
 | [],_,_,_,_,h,_,_=>by simp at h
 | _::_,[],_,_,_,_,h,_=>by simp at h
 | p::P,w::vs,0,m,nd,h1,h2,hk=>by
  simp at h1 h2;subst h1;subst h2
  show bindC kindOf ((p,w)::P.zip vs) m p=_
  unfold bindC
  rw [mV fun v hv=>(List.nodup_cons.mp nd).1 (List.of_mem_zip hv).1,if_neg hk]
  simp
 | p::P,w::vs,i+1,m,nd,h1,h2,hk=>by
  show bindC kindOf ((p,w)::P.zip vs) m x=_
  unfold bindC
  exact mW (i:=i) (List.nodup_cons.mp nd).2 (by simpa using h1) (by simpa using h2) hk
noncomputable def start (N:List Str) (vs:List V):St:=vs.map some++List.replicate (N.length-vs.length) none
noncomputable def iW (CX:AK) (P:Program) (w:World) (K:PySem.W.Frag) (mg:Str->Option Value) (base:Heap) (N:List Str) (qual:Str) (scope:Scope) (f:Addr) (cd:Value) (A:Around) (outer:List Env) (s:Shared) (H:Hp) (E:XK):Cx where
 prog:=P
 w:=w
 K:=K
 mg:=mg
 base:=base
 A:=A.deeper (envOfC qual scope s.heap.objs.size f cd)
 N:=N
 s₀:=s
 H₀:=H
 env:=envOfC qual scope s.heap.objs.size f cd
 outer:=outer
 stack:=envOfC qual scope s.heap.objs.size f cd::outer
 ex:=[]
 calm:=true
 fn:=fun _=>true
 pn:=[]
 xe:=fun e s'=>wpAny (model P w) (A.deeper (envOfC qual scope s.heap.objs.size f cd)) (leaving (envOfC qual scope s.heap.objs.size f cd) e) (fun _ s''=>CX outer H s E e s'') (fun e' s''=>CX outer H s E e' s'') s'
theorem qz {sc:Scope} {n:Nat} {x:Str} (h:sc.names.lookup x=some .cell):∃ c,(cellsFrom n sc.names []).lookup x=some c:=by
 have q:=PySem.W.cellsFrom_some sc.names n [] (.inl h)
 exact Option.isSome_iff_exists.mp q
theorem we {CX:AK} {P:Program} {w:World} {K:PySem.W.Frag} {mg:Str->Option Value} {base:Heap} {N ps:List Str} {qual:Str} {scope:Scope} {f:Addr} {cd:Value} {A:Around} {outer:List Env} {s s1:Shared} {H:Hp} {E:XK} {us:List Value} {vs:List V}
  (S:dF N ps scope) (hd:A.handled=none) (e0:lQ P w K mg base A outer s H) (hl:vs.length=ps.length) (r:Vals vs us)
  (x:InCallC s s.heap.objs.size (bindL (envOfC qual scope s.heap.objs.size f cd).kindOf (ps.zip us) fun _=>none) (cellsFrom (s.heap.objs.size+1) scope.names []) (bindC (envOfC qual scope s.heap.objs.size f cd).kindOf (ps.zip us) fun _=>none) s1) :
  Inv (iW CX P w K mg base N qual scope f cd A outer s H E) [] (start N vs) H s1:=by
 have hpl:ps.length<=N.length:=by have:=congrArg List.length S.pre;rw [List.length_take] at this;omega
 obtain ⟨h1,tk,rfl,hk⟩:=x.done
 have KO:∀ b:Addr,b∉(iW CX P w K mg base N qual scope f cd A outer s H E).ex:=fun b z=>absurd (show b∈([]:List Addr) from z) (by simp)
 refine ⟨⟨e0.mod,S.kind,rfl,rfl,Nat.le_refl _,fun y z c h1 h2=>?_,fun y hy=>?_,fun y c _ h=>?_,fun _=>hd,Around.frames_deeper e0.frames,.inr ⟨rfl,rfl⟩,fun b z=>absurd z (KO b),e0.bs,e0.wM,fun b _ _=>KO b,fun b z=>absurd z (KO b),e0.gA,e0.zH⟩,
  rfl,e0.bare,Un.kept hk,⟨_,x.toInCall.ns,fun i y v h1 h2 h3=>?_⟩,fun y c h=>⟨_,x.cell y c h⟩,e0.hok.fresh (Nat.le_refl _),fun y c h=>?_,fun p hp=>absurd (show p∈([]:List (Addr×Obj)) from hp) (by simp),e0.hok.kept hk,?_⟩
 ·exact name_of_addr x.apart (PySem.mem_of_lookup h1) (PySem.mem_of_lookup h2)
 ·have hy:scope.names.lookup y=some .cell\/scope.names.lookup y=some .free:=hy
  rcases hy with hy | hy
  ·exact qz hy
  ·exact absurd rfl (S.GP _ (PySem.mem_of_lookup hy))
 ·exact Nat.le_of_lt (x.above y c (PySem.mem_of_lookup h))
 ·have hi:i<vs.length:=by
   unfold start at h2
   by_cases hi:i<vs.length
   ·exact hi
   ·rw [List.getElem?_append_right (by simpa using hi)] at h2
    rw [List.getElem?_replicate] at h2
    split at h2 <;> cases h2
  have ha:vs[i]? = some v:=by
   unfold start at h2
   rw [List.getElem?_append_left (by simpa using hi),List.getElem?_map] at h2
   cases e:vs[i]? with
   | none=>rw [e] at h2;cases h2
   | some a=>rw [e] at h2;cases h2;rfl
  obtain ⟨u,hu,rv⟩:=r.get ha
  have hp:ps[i]? = some y:=by
   rw [<- S.pre,List.getElem?_take_of_lt (by omega)];exact h1
  have ndP:ps.Nodup:=by rw [<- S.pre];exact S.nd.sublist (List.take_sublist _ _)
  refine ⟨u,rv,?_⟩
  rcases S.par y (List.mem_of_getElem? hp) with k | k
  ·exact .inl ⟨k,mU ndP hp hu k⟩
  ·obtain ⟨c,e⟩:=qz (n:=s.heap.objs.size+1) k
   refine .inr ⟨.inl k,c,e,?_⟩
   have q:=x.cell y c e
   rw [mW ndP hp hu (by show scope.names.lookup y≠_;rw [k];decide)] at q
   exact q
 ·exact e0.hok.fresh (Nat.le_of_lt (x.above y c (PySem.mem_of_lookup h)))
 ·unfold start
  show _=N.length
  rw [List.length_append,List.length_map,List.length_replicate]
  omega
theorem EA {CX:AK} {P:Program} {w:World} {K:PySem.W.Frag} {mg:Str->Option Value} {base:Heap} {k:Nat} {f:Addr} {name qual:Str} {params:Arguments} {body:List Stmt} {scope:Scope} {dV kV doc pm cdv ct oc:Value} {an od:Option Addr}
  {osl:Array (Option Value)} {N ps:List Str} {sp:Sp} (lk:K.lookup f=some ⟨oc,od,.func (PySem.W.fnOf name qual params body scope dV kV doc pm an cdv ct),osl⟩) (hcd:PySem.W.codeIn K cdv qual=true) (S:dF N ps scope)
  (len:∀ vs H Q E,sp vs H Q E->vs.length=ps.length)
  (hbody:∀ (A:Around) (outer:List Env) (s:Shared) (H:Hp) (vs:List V) (Q:VK) (E:XK),cy k (A.deeper (envOfC qual scope s.heap.objs.size f cdv))->sp vs H Q E ->
   ∃ t,kg (iW CX P w K mg base N qual scope f cdv A outer s H E) body t/\t { nx:=fun _ H'=>Q .ak H',rt:=Q } (start N vs) H) :
  cK P w K mg base CX (k+1) f (PySem.W.fnOf name qual params body scope dV kV doc pm an cdv ct) ps sp:=by
 refine ⟨len,fun A outer s H args us vs Q E hr e0 hb r Jj=>?_⟩
 have hl:=len _ _ _ _ Jj
 have KX:K.In s.heap:=e0.mod.Ej.keeps fun b o e=>(e0.bs b o e).1
 have lim:s.heap.NoLimit:=e0.mod.nolimit.keeps fun b o e=>(e0.bs b o e).1
 have hkind:∀ y∈ps.zip us,scope.names.lookup y.1=some .local\/(scope.names.lookup y.1=some .cell/\((cellsFrom (s.heap.objs.size+1) scope.names []).lookup y.1).isSome=true):=fun ⟨n,v⟩ hy=>by
  rcases S.par n (List.of_mem_zip hy).1 with q | q
  ·exact .inl q
  ·exact .inr ⟨q,PySem.W.cellsFrom_some _ _ _ (.inl q)⟩
 refine codeAny_call_function hr.depth (KX _ _ lk) rfl S.co S.gen rfl (PySem.W.codeRec_of KX hcd) (hb _ _ _ _ ?_)
 refine wpAny_newFunctionEnv_cells S.kind hkind fun env he s1 x=>?_
 subst he
 refine ⟨lim.keeps x.toInCall.keep,codeAny_func ?_⟩
 obtain ⟨t,ht,hq⟩:=hbody A outer s H vs Q E (hr.deeper _) Jj
 have I:Inv (iW CX P w K mg base N qual scope f cdv A outer s H E) [] (start N vs) H s1:=we S hr.hd e0 hl r x
 refine wpAny_mono (ht [] s1 (start N vs) H _ I hq) (fun fl s' hs=>?_) fun e s' hs=>hs
 have fin:∀ {σ':St} {H':Hp} {v:V} {u:Value},Inv (iW CX P w K mg base N qual scope f cdv A outer s H E) [] σ' H' s'->RelV v u->Q v H'->CE outer P w H s Q u s' :=
  fun {σ' H' v u} J rv q=>⟨v,H',J.os,J.bare,J.base,J.hok,rv,q⟩
 cases fl with
 | ret u =>
  obtain ⟨v,σ',H',J,rv,q⟩:=hs
  exact fin J rv q
 | next =>
  obtain ⟨σ',H',J,q⟩:=hs
  exact fin (v:=V.ak) (u:=Value.none) J rfl q
 | brk =>
  obtain ⟨_,_,_,q⟩:=hs
  exact False.elim q
 | cont =>
  obtain ⟨_,_,_,q⟩:=hs
  exact False.elim q
section
variable {X:Cx} {x:Str} {p pos:Pos} {e:Expr} {es:List Expr} {t:TA} {id T:String} {r:List V->Hp->VK->Prop}
noncomputable def Fc (r:List V->Hp->VK->Prop) (t:TA):TE:=fun σ H Q=>t σ H fun vs H1=>r vs H1 Q
theorem fN (hc:c8 X (.builtin id) r) (hg:Gl X x) (hm:X.mg x=none) (hv:bootBuiltins x=some (.builtin id)) (ha:PA X (e::es) t) (hn:x≠"__name__":=by decide) (hdb:(x == ("__debug__" : Str))=false:=by decide)
  (he:starEach (e::es) X.env=(false,eval e X.env)::starEach es X.env:=by rfl) (hpl:(backTo pos (starEach es X.env)).any (·.1)=false:=by rfl):PE X (.Call (.Name x p) (e::es) [] pos) (Fc r t):=by
 intro pins s σ H Q I h
 refine wpAny_Call_Name_kw (eS I hg hm hv ?_ hn hdb)
 exact PyProof.Rows.callWith_builtin1 (aU (ha pos pins s σ H _ I h) fun us s1 ⟨vs,H1,I1,r1,q1⟩=>hc pins s1 σ H1 vs us Q I1 r1 q1) he hpl
theorem mw (hc:c8 X (.type T) r) (hg:Gl X x) (hm:X.mg x=none) (hv:bootBuiltins x=some (.type T)) (ha:PA X (e::es) t) (hn:x≠"__name__":=by decide) (hdb:(x == ("__debug__" : Str))=false:=by decide)
  (he:starEach (e::es) X.env=(false,eval e X.env)::starEach es X.env:=by rfl) (hpl:(backTo pos (starEach es X.env)).any (·.1)=false:=by rfl):PE X (.Call (.Name x p) (e::es) [] pos) (Fc r t):=by
 intro pins s σ H Q I h
 refine wpAny_Call_Name_kw (eS I hg hm hv ?_ hn hdb)
 exact PyProof.Rows.callWith_type1 (aU (ha pos pins s σ H _ I h) fun us s1 ⟨vs,H1,I1,r1,q1⟩=>hc pins s1 σ H1 vs us Q I1 r1 q1) he hpl
end
end L2
namespace HT
open PySem PyProof.Rows
section
open PySem.SeqAt
open PySem.AutoSeq1 (wpAny_loadPart')
open PySem.MeetsSeq PySem.MeetsSeq2 PySem.MeetsSeq3
end
section
variable {prog:Program} {w:World} {A:Around} {E:Value->Shared->Prop} {s:Shared}
theorem Dp {t b:Addr} {vs ws:List Value} {Q:Value->Shared->Prop} (ht:IsTup s.heap t vs.toArray) (hb:IsTup s.heap b ws.toArray) (hv:vs≠[])
  (h1:ws=[]->Q (.ref t) s) (h2:ws≠[]->Q (.ref s.heap.objs.size) { s with heap:=s.heap.push { cls:=.type "tuple", data:=.seq (vs++ws).toArray } })
  (hsz:vs.length+ws.length<=sizeLine):wpAny (model prog w) A (binaryOp .Add (.ref t) (.ref b)) Q E s:=by
 obtain ⟨⟨cls,dd,data,sl⟩,ho,hc,n,hd⟩:=id ht
 obtain ⟨⟨L6,dd2,data2,sl2⟩,ho2,hc2,n2,hd2⟩:=id hb
 simp only at hc hd hc2 hd2
 subst hc hd hc2 hd2
 have e:vs.toArray++ws.toArray=(vs++ws).toArray:=by simp
 by_cases hw:ws=[]
 ·exact concat_meets ⟨_,ho,rfl⟩ ⟨_,ho2,rfl⟩ noFill_tuple_add seq_tuple_add PySem.F.slot_tuple_add PySem.F.entry_tuple_add (PySem.F.args_tuple_add_2 _ _)
   (tuple_addW1 t b vs.toArray ws.toArray n n2 dd dd2 sl sl2 (by simpa using hv) (by simp [hw])) ⟨ho,ho2,h1 hw⟩
 ·refine concat_meets ⟨_,ho,rfl⟩ ⟨_,ho2,rfl⟩ noFill_tuple_add seq_tuple_add PySem.F.slot_tuple_add PySem.F.entry_tuple_add (PySem.F.args_tuple_add_2 _ _)
   (tuple_addW2 t b vs.toArray ws.toArray n n2 dd dd2 sl sl2 (by simpa using hv) (by simpa using hw) (by rw [List.size_toArray,List.size_toArray];exact hsz)) ⟨ho,ho2,?_⟩
  rw [e]
  exact h2 hw
noncomputable def cz (n d:Nat):Option Int->Nat
 | none=>d
 | some v=>if v<0 then (v+(n:Int)).toNat else min v.toNat n
theorem FL (n d:Nat) (hd:d<=n) (o:Option Int):cz n d o<=n:=by
 cases o with
 | none=>exact hd
 | some v =>
  show (if v<0 then (v+(n:Int)).toNat else min v.toNat n)<=n
  by_cases hv:v<0
  ·rw [if_pos hv];omega
  ·rw [if_neg hv];exact Nat.min_le_right _ _
theorem vd (v:Int) (n d:Nat):(if v<0 then max (v+(n:Int)) 0 else min v (n:Int))=((cz n d (some v):Nat):Int):=by
 show (if v<0 then max (v+(n:Int)) 0 else min v (n:Int))=(((if v<0 then (v+(n:Int)).toNat else min v.toNat n):Nat):Int)
 by_cases hv:v<0
 ·simp only [if_pos hv];omega
 ·simp only [if_neg hv];omega
theorem sV (lo hi:Option Int) (n:Nat):Builtin.Slice.sliceAdjust lo hi 1 (n:Int)=(((cz n 0 lo:Nat):Int),((cz n n hi:Nat):Int)):=by
 have h1:¬ ((1:Int)<0):=by omega
 unfold Builtin.Slice.sliceAdjust
 simp only [h1,if_false]
 refine Prod.ext ?_ ?_
 ·cases lo with
  | none=>rfl
  | some v=>exact vd v n 0
 ·cases hi with
  | none=>rfl
  | some v=>exact vd v n n
theorem rK (i j:Nat):Builtin.Slice.slicePlaces (i:Int) (j:Int) 1=j-i:=by
 unfold Builtin.Slice.slicePlaces
 have h1:(1:Int) > 0:=by omega
 simp only [h1,if_true,Int.ediv_one]
 split <;> omega
theorem kr {v:Value} {o:Option Int} {Q:Option Int->Shared->Prop} (p:IsPart v o) (h:Q o s):wpAny (model prog w) A (Builtin.Slice.slicePartIndex v) Q E s:=by
 cases p with
 | none=>exact slicePart_none h
 | int i t=>exact slicePart_int h
theorem i7 {sl:Addr} {vl vu:Value} {lo hi:Option Int} {n:Nat} {Q:Int×Int×Nat->Shared->Prop} (hs:s.heap.IsSliceOf sl vl vu .none) (pl:IsPart vl lo) (pu:IsPart vu hi)
  (h:Q (((cz n 0 lo:Nat):Int),1,cz n n hi-cz n 0 lo) s):wpAny (model prog w) A (Builtin.Slice.sliceApplied (.ref sl) (pure (n:Int))) Q E s:=by
 obtain ⟨os,hos,hcs,hds⟩:=id hs
 unfold Builtin.Slice.sliceApplied Builtin.Slice.sliceFields
 refine wpAny_bind (wpAny_bind (wpAny_field hos hds (x:=vl) rfl (wpAny_bind (wpAny_field hos hds (x:=vu) rfl (wpAny_bind (wpAny_field hos hds (x:=.none) rfl (wpAny_pure ?_)))))))
 refine wpAny_bind (slicePart_none ?_)
 show wpAny _ _ (if ((1:Int) == 0)=true then _ else _) _ _ s
 rw [if_neg (by decide)]
 refine wpAny_bind (kr pl (wpAny_bind (kr pu (wpAny_bind (wpAny_pure ?_)))))
 show wpAny _ _ (match Builtin.Slice.sliceAdjust lo hi 1 (n:Int) with | (lo,hi)=>pure (lo,(1:Int),Builtin.Slice.slicePlaces lo hi 1)) _ _ s
 rw [sV lo hi n]
 show wpAny _ _ (pure (((cz n 0 lo:Nat):Int),(1:Int),Builtin.Slice.slicePlaces ((cz n 0 lo:Nat):Int) ((cz n n hi:Nat):Int) 1)) _ _ s
 rw [rK]
 exact wpAny_pure h
theorem yw (xs:Array Value) (i k:Nat):((List.range k).filterMap fun (m:Nat)=>xs[((i:Int)+(m:Int)*1).toNat]?).toArray=((xs.toList.drop i).take k).toArray:=by
 have e:(fun (m:Nat)=>xs[((i:Int)+(m:Int)*1).toNat]?)=fun m=>xs[i+m]?:=by
  funext m
  have:((i:Int)+(m:Int)*1).toNat=i+m:=by omega
  rw [this]
 rw [e]
 have:=pick_run xs i k
 rw [List.filterMap_map] at this
 have e2:((fun x=>xs[x]?) ∘ fun x=>i+x)=fun m=>xs[i+m]?:=rfl
 rw [e2] at this
 rw [this]
theorem iL {t sl:Addr} {items:Array Value} {vl vu:Value} {lo hi:Option Int} {Q:Value->Shared->Prop} (ht:IsTup s.heap t items) (hs:s.heap.IsSliceOf sl vl vu .none) (pl:IsPart vl lo) (pu:IsPart vu hi)
  (hw:¬ (cz items.size 0 lo=0/\cz items.size items.size hi=items.size))
  (h:Q (.ref s.heap.objs.size) { s with heap:=s.heap.push { cls:=.type "tuple", data:=.seq ((items.toList.drop (cz items.size 0 lo)).take (cz items.size items.size hi-cz items.size 0 lo)).toArray } })
  (hsz:items.size<=sizeLine):wpAny (model prog w) A (getItem (.ref t) (.ref sl)) Q E s:=by
 have uD:sizeOk (.seq ((items.toList.drop (cz items.size 0 lo)).take (cz items.size items.size hi-cz items.size 0 lo)).toArray):=by
  show ((items.toList.drop (cz items.size 0 lo)).take (cz items.size items.size hi-cz items.size 0 lo)).toArray.size<=sizeLine
  rw [List.size_toArray,List.length_take,List.length_drop,Array.length_toList]
  omega
 have hj:cz items.size items.size hi<=items.size:=FL _ _ (Nat.le_refl _) hi
 obtain ⟨os,hos,hcs,hds⟩:=id hs
 have hTs:s.TypeIs (.ref sl) "slice":=⟨os, hos, hcs⟩
 unfold getItem
 try with_reducible refine wpAny_holding ?_
 first | refine wpAny_bind (wpAny_pure ?_) | skip
 refine wpAny_bind (wpAny_sequenceKey ht.typeIs (by decide) ?_)
 refine wpAny_bind (wpAny_callSpecial?_slot (name:=Str.ofString "__getitem__") ht.typeIs PyProof.Rows.slot_tuple_getitem
  (wpAny_call_entry PyProof.Rows.slot_tuple_getitem ht.typeIs entry_tuple_getitem ?_ (args_tuple_getitem _ _)))
 show wpAny _ _ (Builtin.Tuple.tupleItemsOf (.ref t) >>= _) _ _ s
 refine wpAny_bind (tupleItemsOf_ ht ?_)
 refine wpAny_bind (wpAny_typeOf hTs ?_)
 rw [if_pos (by decide)]
 refine wpAny_bind (i7 hs pl pu ?_)
 have hno:¬ ((((cz items.size 0 lo:Nat):Int) == 0&&(1:Int) == 1&&(cz items.size items.size hi-cz items.size 0 lo) == items.size)=true):=by
  intro q
  rw [Bool.and_eq_true,Bool.and_eq_true] at q
  have q1:((cz items.size 0 lo:Nat):Int)=0:=eq_of_beq q.1.1
  have q2:cz items.size items.size hi-cz items.size 0 lo=items.size:=eq_of_beq q.2
  exact hw ⟨by omega,by omega⟩
 show wpAny _ _ (if (((cz items.size 0 lo:Nat):Int) == 0&&(1:Int) == 1&&(cz items.size items.size hi-cz items.size 0 lo) == items.size)=true then _ else _) _ _ s
 rw [if_neg hno,yw]
 first
  | exact wpAny_bind (m:=Builtin.Tuple.tupleExact _) (wpAny_newObj_type (wpAny_pure ⟨_,rfl,wpAny_pure h⟩) uD)
  | exact wpAny_bind (m:=Builtin.Tuple.tupleExact _) (wpAny_newObj_type (wpAny_bind (wpAny_pure (wpAny_pure ⟨_,rfl,wpAny_pure h⟩))) uD)
  | exact wpAny_bind (wpAny_bind (m:=Builtin.Tuple.tupleExact _) (wpAny_newObj_type (wpAny_pure (wpAny_pure ⟨_,rfl,wpAny_pure h⟩)) uD))
  | exact wpAny_bind (wpAny_bind (m:=Builtin.Tuple.tupleExact _) (wpAny_newObj_type (wpAny_pure ⟨_,rfl,wpAny_pure h⟩) uD))
end
end HT
namespace L2
open PySem PySem.Spec PyProof.Rows
noncomputable abbrev TO:=St->Hp->(Option Int->Hp->Prop)->Prop
noncomputable def PO (X:Cx) (e:Option Expr) (t:TO):Prop :=
 ∀ (pins:List (Addr×Obj)) (s:Shared) (σ:St) (H:Hp) (Q:Option Int->Hp->Prop),Inv X pins σ H s->t σ H Q ->
  wpAny (model X.prog X.w) X.A (evalPart e X.env) (fun u s'=>∃ o H',Inv X pins σ H' s'/\IsPart u o/\Q o H') X.xe s
noncomputable def tE:TO:=fun _ H Q=>Q none H
noncomputable def DQ (t:TE):TO:=fun σ H Q=>t σ H fun x H1=>∃ i,x=.int i/\Q (some i) H1
section
variable {X:Cx} {e:Expr} {te:TE} {lo hi:Option Expr} {tl th:TO} {pos p2:Pos}
theorem B0:PO X none tE:=by
 intro pins s σ H Q I h
 rw [evalPart_none]
 exact wpAny_pure ⟨none,H,I,.none,h⟩
theorem BZ (h:PE X e te):PO X (some e) (DQ te):=by
 intro pins s σ H Q I hw
 rw [evalPart_some]
 refine aU (h pins s σ H _ I hw) fun u s1 ⟨x,H1,I1,r1,q1⟩=>?_
 obtain ⟨i,rfl,q⟩:=q1
 obtain ⟨t,rfl⟩:=r1
 exact ⟨some i,H1,I1,.int i t,q⟩
noncomputable def DC (X:Cx) (r:V->Option Int->Option Int->Hp->VK->Prop):Prop :=
 ∀ (pins:List (Addr×Obj)) (s:Shared) (σ:St) (H:Hp) (x:V) (v vl vu:Value) (lo hi:Option Int) (sl:Addr) (Q:VK),Inv X pins σ H s->RelV x v->s.heap.IsSliceOf sl vl vu .none->IsPart vl lo->IsPart vu hi->r x lo hi H Q ->
  ∃ T id, typeLookup (.type T) "__getitem__" = pure (some (.builtin id))/\s.TypeIs v T/\wpAny (model X.prog X.w) X.A (getItem v (.ref sl)) (EP X pins σ Q) X.xe s
theorem DC.or {r r':V->Option Int->Option Int->Hp->VK->Prop} (h:DC X r) (h':DC X r'):DC X (fun x lo hi H Q=>r x lo hi H Q\/r' x lo hi H Q):=by
 intro pins s σ H x v vl vu lo hi sl Q I rx hs pl pu q
 rcases q with q | q
 ·exact h pins s σ H x v vl vu lo hi sl Q I rx hs pl pu q
 ·exact h' pins s σ H x v vl vu lo hi sl Q I rx hs pl pu q
noncomputable def tSl (r:V->Option Int->Option Int->Hp->VK->Prop) (te:TE) (tl th:TO):TE:=fun σ H Q=>te σ H fun x H1=>tl σ H1 fun l H2=>th σ H2 fun u H3=>r x l u H3 Q
theorem yy {r:V->Option Int->Option Int->Hp->VK->Prop} (hr:DC X r) (he:PE X e te) (hl:PO X lo tl) (hu:PO X hi th):PE X (.Subscript e (.Slice lo hi none p2) pos) (tSl r te tl th):=by
 intro pins s σ H Q I h
 refine Subscript_ (aU (he pins s σ H _ I h) fun v s1 ⟨x,H1,I1,r1,q1⟩=>?_)
 refine wpAny_Slice (aU (hl pins s1 σ H1 _ I1 q1) fun vl s2 ⟨l,H2,I2,pl,q2⟩=>aU (hu pins s2 σ H2 _ I2 q2) fun vu s3 ⟨u,H3,I3,pu,q3⟩=>?_)
 rw [evalPart_none]
 refine wpAny_pure ?_
 have I4:Inv X pins σ H3 { s3 with heap:=s3.heap.push { cls:=.type "slice", data:=.fields #[vl, vu, .none] } }:=I3.kept (t':=s3.toks) fun b ob q=>Heap.get?_push_of_some _ q
 obtain ⟨T, id, hT, ht, hg⟩:=hr pins { s3 with heap:=s3.heap.push { cls:=.type "slice", data:=.fields #[vl, vu, .none] } } σ H3 x v vl vu l u s3.heap.objs.size Q I4 r1 (Heap.IsSliceOf.new ..) pl pu q3
 show wpAny (model X.prog X.w) X.A (subscriptTail e (.Slice lo hi none p2) v (.ref s3.heap.objs.size)) (EP X pins σ Q) X.xe { s3 with heap:=s3.heap.push { cls:=.type "slice", data:=.fields #[vl, vu, .none] } }
 exact tail_any (ops:=[.ref s3.heap.objs.size,v]) ht hT hg (by with_unfolding_all rfl)
noncomputable def qx (xs:List V) (lo hi:Option Int):List V:=(xs.drop (HT.cz xs.length 0 lo)).take (HT.cz xs.length xs.length hi-HT.cz xs.length 0 lo)
theorem jI (xs:List V) (lo hi:Option Int):(qx xs lo hi).length<=xs.length:=by
 unfold qx
 rw [List.length_take,List.length_drop]
 omega
noncomputable def J3 (K:PySem.W.Frag):V->Option Int->Option Int->Hp->VK->Prop:=fun x lo hi H Q=>∃ a xs,x=.ref a/\ic K H a xs /\
 ¬ (HT.cz xs.length 0 lo=0/\HT.cz xs.length xs.length hi=xs.length)/\∀ p,H p=none->Q (.ref p) (upd H p (.tup (qx xs lo hi)))
theorem Fp:DC X (J3 X.K):=by
 intro pins s σ H x v vl vu lo hi sl Q I rx hs pl pu h
 obtain ⟨a,xs,rfl,hx,hw,q⟩:=h
 cases rx
 obtain ⟨its,r,ht,hz⟩:=I.tuple hx
 have hlen:its.toArray.size=xs.length:=by rw [List.size_toArray];exact r.length.symm
 refine ⟨"tuple", _, PyProof.Rows.slot_tuple_getitem.lookup, ht.typeIs, ?_⟩
 refine HT.iL ht hs pl pu (by rw [hlen];exact hw) ?_ (by rw [hlen];exact hz)
 rw [hlen]
 refine ⟨.ref s.heap.objs.size,_,I.laid (t':=s.toks) (o:=.tup (qx xs lo hi)) (fun b ob q=>Heap.get?_push_of_some _ q) (Nat.le_refl _) ?_,rfl,q _ (I.hok.fresh (Nat.le_refl _))⟩
 exact ⟨Nat.le_trans (jI xs lo hi) hz,_,(r.drop (HT.cz xs.length 0 lo)).take (HT.cz xs.length xs.length hi-HT.cz xs.length 0 lo),IsTup.new _ _⟩
noncomputable def D7 (K:PySem.W.Frag):R2:=fun x y H Q=>∃ a b xs ys,x=.ref a/\y=.ref b/\ic K H a xs/\ic K H b ys/\xs≠[]/\xs.length+ys.length<=sizeLine /\
 (ys=[]->Q (.ref a) H)/\(ys≠[]->∀ p,H p=none->Q (.ref p) (upd H p (.tup (xs++ys))))
theorem Vals.nH {xs:List V} {us:List Value} (r:Vals xs us):us=[]↔xs=[]:=by
 cases r with
 | nil=>simp
 | cons _ _=>simp
theorem Cf:eB X (binaryOp .Add) (D7 X.K):=by
 intro pins s σ H x y v u Q I rx ry h
 obtain ⟨a,b,xs,ys,rfl,rfl,ha,hb,hx,hz,q1,q2⟩:=h
 cases rx
 cases ry
 obtain ⟨its,r1,p1,_⟩:=I.tuple ha
 obtain ⟨its2,r2,p2,_⟩:=I.tuple hb
 refine HT.Dp p1 p2 (fun z=>hx (r1.nH.mp z)) (fun z=>⟨.ref a,H,I,rfl,q1 (r2.nH.mp z)⟩) (fun z=>?_) (by rw [<- r1.length,<- r2.length];exact hz)
 refine ⟨.ref s.heap.objs.size,_,I.laid (t':=s.toks) (o:=.tup (xs++ys)) (fun b ob q=>Heap.get?_push_of_some _ q) (Nat.le_refl _) ?_,rfl,q2 (fun w=>z (r2.nH.mpr w)) _ (I.hok.fresh (Nat.le_refl _))⟩
 exact ⟨by rw [List.length_append];exact hz,_,r1.append r2,IsTup.new _ _⟩
end
noncomputable def Ji (n:Nat) (i:Int):Option Nat:=if 0<=i then (if i<n then some i.toNat else none) else if -(n:Int)<=i then some (i+n).toNat else none
noncomputable def IT {α:Type} (xs:List α) (i:Int):Option α:=(Ji xs.length i).bind fun j=>xs[j]?
theorem uA {n:Nat} {i:Int} {j:Nat} (h:Ji n i=some j):seqIndex? i n=some j/\j<n/\-(n:Int)<=i/\i<n:=by
 unfold Ji at h
 by_cases h0:0<=i
 ·rw [if_pos h0] at h
  by_cases h1:i<n
  ·rw [if_pos h1] at h
   have e:i.toNat=j:=Option.some.inj h
   exact ⟨by rw [seqIndex_of h0 h1,e],by omega,by omega,h1⟩
  ·rw [if_neg h1] at h;cases h
 ·rw [if_neg h0] at h
  by_cases h1:-(n:Int)<=i
  ·rw [if_pos h1] at h
   have e:(i+n).toNat=j:=Option.some.inj h
   exact ⟨by rw [seqIndex_neg (by omega) h1,e],by omega,h1,by omega⟩
  ·rw [if_neg h1] at h;cases h
theorem oB {α:Type} {xs:List α} {i:Int} {v:α} (h:IT xs i=some v):∃ j,seqIndex? i xs.length=some j/\xs[j]? = some v/\j<xs.length/\-(xs.length:Int)<=i/\i<xs.length:=by
 unfold IT at h
 cases e:Ji xs.length i with
 | none=>rw [e] at h;cases h
 | some j =>
  rw [e] at h
  obtain ⟨h1,h2,h3,h4⟩:=uA e
  exact ⟨j,h1,h,h2,h3,h4⟩
noncomputable def vo (b:Expr):Prop:=∀ o i,subscripted b false o i=operate [o,i] (getItem o i)
noncomputable def A1 (X:Cx) (r:R2):Prop :=
 ∀ (value slice:Expr) (pins:List (Addr×Obj)) (s:Shared) (σ:St) (H:Hp) (x y:V) (v u:Value) (Q:VK),Inv X pins σ H s->RelV x v->RelV y u->r x y H Q ->
  subscripted slice false v u=operate [v,u] (getItem v u)->wpAny (model X.prog X.w) X.A (subscriptTail value slice v u) (EP X pins σ Q) X.xe s
noncomputable def MtR (X:Cx) (id:String) (r:V->List V->Hp->VK->Prop):Prop :=
 ∀ (pins:List (Addr×Obj)) (s:Shared) (σ:St) (H:Hp) (x:V) (xs:List V) (v:Value) (us:List Value) (Q:VK),Inv X pins σ H s->RelV x v->Vals xs us->r x xs H Q ->
  wpAny (model X.prog X.w) X.A (call (.builtin id) (v::us)) (EP X pins σ Q) X.xe s
section
variable {X:Cx} {a b:Expr} {ta tb:TE} {pos:Pos}
theorem A1.or {r r':R2} (h:A1 X r) (h':A1 X r'):A1 X (fun x y H Q=>r x y H Q\/r' x y H Q):=by
 intro value slice pins s σ H x y v u Q I rx ry q hs
 rcases q with q | q
 ·exact h value slice pins s σ H x y v u Q I rx ry q hs
 ·exact h' value slice pins s σ H x y v u Q I rx ry q hs
theorem Kr {r:R2} (hr:A1 X r) (ha:PE X a ta) (hb:PE X b tb) (hs:vo b):PE X (.Subscript a b pos) (Fb r ta tb):=by
 intro pins s σ H Q I h
 exact Subscript_ (IS ha hb I h fun v u s2 x y H2 I2 rx ry q=>hr a b pins s2 σ H2 x y v u Q I2 rx ry q (hs _ _))
noncomputable def J9 (K:PySem.W.Frag):R2:=fun x y H Q=>∃ p xs i v,x=.ref p/\y=.int i/\fJ K H p xs/\IT xs i=some v/\Q v H
noncomputable def J7 (K:PySem.W.Frag):R2:=fun x y H Q=>∃ p xs i v,x=.ref p/\y=.int i/\ic K H p xs/\IT xs i=some v/\Q v H
noncomputable def J8:R2:=fun x y H Q=>∃ z i c,x=.str z/\y=.int i/\z.length<=sizeLine/\IT z.cps.toList i=some c/\Q (.str ⟨#[c]⟩) H
theorem CH:A1 X (J9 X.K):=by
 intro value slice pins s σ H x y v u Q I rx ry h hs
 obtain ⟨p,xs,i,z,rfl,rfl,hq,he,q⟩:=h
 cases rx
 obtain ⟨t,rfl⟩:=ry
 obtain ⟨its,r,pl,hz⟩:=I.list hq
 obtain ⟨j,h1,h2,h3,h4,h5⟩:=oB he
 obtain ⟨w,ew,rw'⟩:=r.get h2
 have hl:=r.length
 have hn:=je
 have fin:EP X pins σ Q w s:=⟨z,H,I,rw',q⟩
 by_cases h0:0<=i
 ·have hj:i.toNat=j:=by
   rw [seqIndex_of h0 h5] at h1
   exact Option.some.inj h1
  exact item_listR pl.isList h0 (by omega) (by rw [hj];simpa using ew) fin hs
 ·have hj:(i+(its.toArray.size:Int)).toNat=j:=by
   rw [seqIndex_neg (by omega) h4] at h1
   rw [List.size_toArray,<- hl]
   exact Option.some.inj h1
  exact subscriptTail_builtinR (x:=w) pl.isList.typeIs slot_list_getitem.lookup
   (wpAny_getItem_list_neg (Q:=fun r s'=>r=w/\EP X pins σ Q r s') pl.isList (by omega) (by rw [List.size_toArray] <;> omega) (by omega) (by rw [hj];simpa using ew) ⟨rfl,fin⟩) hs
theorem HF:A1 X (J7 X.K):=by
 intro value slice pins s σ H x y v u Q I rx ry h hs
 obtain ⟨p,xs,i,z,rfl,rfl,hq,he,q⟩:=h
 cases rx
 obtain ⟨t,rfl⟩:=ry
 obtain ⟨its,r,pl,hz⟩:=I.tuple hq
 obtain ⟨j,h1,h2,h3,h4,h5⟩:=oB he
 obtain ⟨w,ew,rw'⟩:=r.get h2
 have hl:=r.length
 have hn:=je
 have fin:EP X pins σ Q w s:=⟨z,H,I,rw',q⟩
 exact subscriptTail_builtinR (x:=w) pl.typeIs slot_tuple_getitem.lookup
  (getItem_tuple (j:=j) (Q:=fun r s'=>r=w/\EP X pins σ Q r s') pl (by omega) (by omega) (by rw [List.size_toArray,<- hl];exact h1) (by simpa using ew) ⟨rfl,fin⟩) hs
theorem HG:A1 X J8:=by
 intro value slice pins s σ H x y v u Q I rx ry h hs
 obtain ⟨z,i,c,rfl,rfl,hz,he,q⟩:=h
 obtain ⟨t,rfl⟩:=rx
 obtain ⟨t',rfl⟩:=ry
 obtain ⟨j,h1,h2,h3,h4,h5⟩:=oB he
 have hl:z.cps.toList.length=z.length:=by simp [Str.length]
 rw [hl] at h1 h4 h5
 have hn:=je
 exact tail_any (typeIs_str s z t) slot_str_getitem.lookup (getItem_str (c:=c) (by
  have e1:decide (i < -(2 ^ 63:Int))=false:=decide_eq_false (by omega)
  have e2:decide (i ≥ 2 ^ 63)=false:=decide_eq_false (by omega)
  rw [e1,e2,Bool.or_false]) (by rw [h1];simpa using h2) ⟨.str ⟨#[c]⟩,H,I.tok _,⟨_,rfl⟩,q⟩) hs
theorem rT (its:List Value) (n j:Nat) (u:Value):Obj.mapSeq (·.setIfInBounds j u) { cls:=.type "list", data:=.seq its.toArray n }={ cls:=.type "list", data:=.seq (its.set j u).toArray n }:=by
 simp [Obj.mapSeq]
theorem Inv.lst {pins:List (Addr×Obj)} {σ:St} {H:Hp} {s:Shared} {p:Addr} {xs:List V} (I:Inv X pins σ H s) (h:H p=some (.lst xs)) :
  ∃ (its:List Value) (n:Nat), Vals xs its/\s.heap.get? p=some { cls:=.type "list", data:=.seq its.toArray n }/\xs.length<=sizeLine:=by
 obtain ⟨z,its,n,r,e⟩:=I.hok p _ h
 exact ⟨its,n,r,e,z⟩
theorem Inv.GW {pins:List (Addr×Obj)} {σ:St} {H:Hp} {s:Shared} {p:Addr} {xs ys:List V} {its its':List Value} {n n':Nat} {f:Obj->Obj} (I:Inv X pins σ H s) (h:H p=some (.lst xs))
  (ho:s.heap.get? p=some { cls:=.type "list", data:=.seq its.toArray n }) (hf:f { cls:=.type "list", data:=.seq its.toArray n }={ cls:=.type "list", data:=.seq its'.toArray n' }) (r:Vals ys its') (hz:ys.length<=sizeLine) (t:Nat) :
  Inv X pins σ (upd H p (.lst ys)) { s with heap:=s.heap.update p f,toks:=t }:=by
 have e:(s.heap.update p f).get? p=some { cls:=.type "list", data:=.seq its'.toArray n' }:=by
  rw [Heap.get?_update_self f ho (by rw [hf] <;> rfl),hf]
 refine I.write (x:=p) (e:=p) (by rw [h];trivial) (.inl rfl) (fun b u hb q=>(Heap.get?_update_other _ _ (Ne.symm hb)).trans q) ⟨_,e⟩ ?_
 exact ⟨hz,its',n',r,e⟩
noncomputable def D3:V->V->V->Hp->(Hp->Prop)->Prop:=fun o i v H Q=>∃ p xs k j,o=.ref p/\i=.int k/\H p=some (.lst xs)/\Ji xs.length k=some j/\Q (upd H p (.lst (xs.set j v)))
theorem set_list:PSet X D3:=by
 intro pins s σ H o i v ov iv u Q I ro ri rv h
 obtain ⟨p,xs,k,j,rfl,rfl,hp,hj,q⟩:=h
 cases ro
 obtain ⟨t,rfl⟩:=ri
 obtain ⟨its,n,r,ho,hz⟩:=I.lst hp
 obtain ⟨h1,h2,h3,h4⟩:=uA hj
 have hl:=r.length
 have hn:=je
 have I':Inv X pins σ (upd H p (.lst (xs.set j v))) { s with heap:=s.heap.update p (Obj.mapSeq (·.setIfInBounds j u)) } :=
  I.GW hp ho (rT its n j u) (r.set rv j) (by rw [List.length_set];exact hz) s.toks
 by_cases h0:0<=k
 ·have hk:k.toNat=j:=by
   rw [seqIndex_of h0 h4] at h1
   exact Option.some.inj h1
  exact PySem.W.ki_setAt ho h0 (by omega) (by rw [List.size_toArray,<- hl];exact h4) (by rw [hk];exact ⟨_,I',q⟩)
 ·have hk:(k+(its.toArray.size:Int)).toNat=j:=by
   rw [seqIndex_neg (by omega) h3] at h1
   rw [List.size_toArray,<- hl]
   exact Option.some.inj h1
  exact PySem.W.ki_setBack ho (by omega) (by rw [List.size_toArray,<- hl];exact h3) (by omega) (by rw [hk];exact ⟨_,I',q⟩)
theorem m6 (lo hi:Option Int) (n:Nat):(sliceBounds lo hi none n).1=((HT.cz n 0 lo:Nat):Int)/\(sliceBounds lo hi none n).2.1=((HT.cz n n hi:Nat):Int)/\(sliceBounds lo hi none n).2.2=1:=by
 refine ⟨?_,?_,rfl⟩
 ·cases lo with
  | none=>simp [sliceBounds,HT.cz]
  | some i =>
   simp only [sliceBounds,HT.cz,Option.getD_none,show (1:Int) > 0 by decide,if_true]
   by_cases h:i<0
   ·simp only [h,if_true] <;> omega
   ·simp only [h,if_false] <;> omega
 ·cases hi with
  | none=>simp [sliceBounds,HT.cz]
  | some i =>
   simp only [sliceBounds,HT.cz,Option.getD_none,show (1:Int) > 0 by decide,if_true]
   by_cases h:i<0
   ·simp only [h,if_true] <;> omega
   ·simp only [h,if_false] <;> omega
theorem lD (its:List Value) (lo hi:Option Int):slicePick its.toArray lo hi none=((its.drop (HT.cz its.length 0 lo)).take (HT.cz its.length its.length hi-HT.cz its.length 0 lo)).toArray:=by
 obtain ⟨h1,h2,h3⟩:=m6 lo hi its.toArray.size
 unfold slicePick
 rw [h1,h2,h3]
 simp only [sliceRange_one,pick_run,List.size_toArray] <;> rfl
noncomputable def J5 (K:PySem.W.Frag):V->Option Int->Option Int->Hp->VK->Prop:=fun x lo hi H Q=>∃ a xs,x=.ref a/\fJ K H a xs/\∀ p,H p=none->Q (.ref p) (upd H p (.lst (qx xs lo hi)))
theorem Bf:DC X (J5 X.K):=by
 intro pins s σ H x v vl vu lo hi sl Q I rx hs pl pu h
 obtain ⟨a,xs,rfl,hx,q⟩:=h
 cases rx
 obtain ⟨its,r,ht,hz⟩:=I.list hx
 have hlen:=r.length
 refine ⟨"list", _, slot_list_getitem.lookup, ht.isList.typeIs, ?_⟩
 refine wpAny_getItem_list_slice ht.isList hs pl pu .none (by simp) ?_ (by rw [List.size_toArray] <;> omega)
 rw [lD,<- hlen]
 refine ⟨.ref s.heap.objs.size,_,I.laid (t':=s.toks) (o:=.lst (qx xs lo hi)) (fun b ob q=>Heap.get?_push_of_some _ q) (Nat.le_refl _) ?_,rfl,q _ (I.hok.fresh (Nat.le_refl _))⟩
 exact ⟨Nat.le_trans (jI xs lo hi) hz,_,0,(r.drop (HT.cz xs.length 0 lo)).take (HT.cz xs.length xs.length hi-HT.cz xs.length 0 lo),Heap.get?_push_size _ rfl⟩
noncomputable def gK:V->Bool
 | .ak=>true
 | .bl _=>true
 | .int _=>true
 | .str _=>true
 | _=>false
noncomputable def AW:V->V->Bool
 | .ak,.ak=>true
 | .bl a,.bl b=>a == b
 | .bl a,.int b=>(if a then 1 else 0) == b
 | .int a,.bl b=>a == (if b then 1 else 0)
 | .int a,.int b=>a == b
 | .str a,.str b=>a == b
 | _,_=>false
theorem Ik {A:Around} {s:Shared} {y x:V} {u v:Value} (ry:RelV y u) (rx:RelV x v) (fy:gK y=true) (fx:gK x=true):SeqAt.EqAt A s u v (AW y x):=by
 cases y with
 | ak =>
  cases ry
  cases x with
  | ak=>cases rx;exact SeqAt.EqAt.same _
  | bl b=>cases rx;exact SeqAt.EqAt.none_bool b
  | int b=>obtain ⟨t,rfl⟩:=rx;exact SeqAt.EqAt.none_int b t
  | str b=>obtain ⟨t,rfl⟩:=rx;exact SeqAt.EqAt.none_str b t
  | _=>exact absurd (show false=true from fx) Bool.false_ne_true
 | bl a =>
  cases ry
  cases x with
  | ak=>cases rx;exact SeqAt.EqAt.bool_none a
  | bl b=>cases rx;exact SeqAt.EqAt.bool_bool a b
  | int b=>obtain ⟨t,rfl⟩:=rx;exact SeqAt.EqAt.bool_int a b t
  | str b=>obtain ⟨t,rfl⟩:=rx;exact SeqAt.EqAt.bool_str a b t
  | _=>exact absurd (show false=true from fx) Bool.false_ne_true
 | int a =>
  obtain ⟨t',rfl⟩:=ry
  cases x with
  | ak=>cases rx;exact SeqAt.EqAt.int_none a t'
  | bl b=>cases rx;exact SeqAt.EqAt.int_bool a t' b
  | int b=>obtain ⟨t,rfl⟩:=rx;exact SeqAt.EqAt.int_int a t' b t
  | str b=>obtain ⟨t,rfl⟩:=rx;exact SeqAt.EqAt.int_str a t' b t
  | _=>exact absurd (show false=true from fx) Bool.false_ne_true
 | str a =>
  obtain ⟨t',rfl⟩:=ry
  cases x with
  | ak=>cases rx;exact SeqAt.EqAt.str_none a t'
  | bl b=>cases rx;exact SeqAt.EqAt.str_bool a t' b
  | int b=>obtain ⟨t,rfl⟩:=rx;exact SeqAt.EqAt.str_int a t' b t
  | str b=>obtain ⟨t,rfl⟩:=rx;exact SeqAt.EqAt.str_str a t' b t
  | _=>exact absurd (show false=true from fx) Bool.false_ne_true
 | _=>exact absurd (show false=true from fy) Bool.false_ne_true
noncomputable def sG (x:V) (u:Value):Bool:=match u with
 | .none=>AW .ak x
 | .bool b=>AW (.bl b) x
 | .int i _=>AW (.int i) x
 | .str z _=>AW (.str z) x
 | _=>false
theorem Ab {x y:V} {u:Value} (r:RelV y u) (f:gK y=true):sG x u=AW y x:=by
 cases y with
 | ak=>cases r;rfl
 | bl b=>cases r;rfl
 | int i=>obtain ⟨t,rfl⟩:=r;rfl
 | str z=>obtain ⟨t,rfl⟩:=r;rfl
 | _=>exact absurd (show false=true from f) Bool.false_ne_true
theorem iY {x:V}:∀ {xs:List V} {us:List Value},Vals xs us->xs.all gK=true->us.any (sG x)=xs.any fun y=>AW y x
 | _,_,.nil,_=>rfl
 | y::xs,u::us,.cons r t,f=>by
  rw [List.all_cons,Bool.and_eq_true] at f
  rw [List.any_cons,List.any_cons,Ab r f.1,iY t f.2]
theorem fP {A:Around} {s:Shared} {x:V} {v:Value} (rx:RelV x v) (fx:gK x=true):∀ {xs:List V} {us:List Value},Vals xs us->xs.all gK=true->∀ u∈us,SeqAt.EqAt A s u v (sG x u)
 | _,_,.nil,_=>fun u hu=>by cases hu
 | y::xs,u::us,.cons r t,f=>fun u' hu=>by
  rw [List.all_cons,Bool.and_eq_true] at f
  rcases List.mem_cons.mp hu with rfl | hu
  ·rw [Ab r f.1];exact Ik r rx f.1 fx
  ·exact fP rx fx t f.2 u' hu
noncomputable def K7 (x:V) (xs:List V):Bool:=xs.any fun y=>AW y x
noncomputable def Ke (K:PySem.W.Frag) (neg:Bool):R2:=fun x y H Q=>∃ p xs,y=.ref p/\(fJ K H p xs\/ic K H p xs)/\gK x=true/\xs.all gK=true/\Q (.bl (if neg then !K7 x xs else K7 x xs)) H
theorem vV:eB X (compareOp .In) (Ke X.K false):=by
 intro pins s σ H x y v u Q I rx ry h
 obtain ⟨p,xs,rfl,hq,fx,fs,q⟩:=h
 cases ry
 rcases hq with hq | hq
 ·obtain ⟨its,r,pl,hz⟩:=I.list hq
  refine SeqAt.in_listAt (sG x) pl.isList (fun w hw=>fP rx fx r fs w (by simpa using hw)) ⟨.bl _,H,I,rfl,?_⟩
  rw [show its.toArray.any (sG x)=its.any (sG x) by simp,iY r fs]
  exact q
 ·obtain ⟨its,r,pl,hz⟩:=I.tuple hq
  refine SeqAt.in_tupleAt (sG x) pl (fun w hw=>fP rx fx r fs w (by simpa using hw)) ⟨.bl _,H,I,rfl,?_⟩
  rw [show its.toArray.any (sG x)=its.any (sG x) by simp,iY r fs]
  exact q
theorem nC:eB X (compareOp .NotIn) (Ke X.K true):=by
 intro pins s σ H x y v u Q I rx ry h
 obtain ⟨p,xs,rfl,hq,fx,fs,q⟩:=h
 cases ry
 rcases hq with hq | hq
 ·obtain ⟨its,r,pl,hz⟩:=I.list hq
  refine SeqAt.notIn_listAt (sG x) pl.isList (fun w hw=>fP rx fx r fs w (by simpa using hw)) ⟨.bl _,H,I,rfl,?_⟩
  rw [show its.toArray.any (sG x)=its.any (sG x) by simp,iY r fs]
  exact q
 ·obtain ⟨its,r,pl,hz⟩:=I.tuple hq
  refine SeqAt.notIn_tupleAt (sG x) pl (fun w hw=>fP rx fx r fs w (by simpa using hw)) ⟨.bl _,H,I,rfl,?_⟩
  rw [show its.toArray.any (sG x)=its.any (sG x) by simp,iY r fs]
  exact q
theorem oz:c8 X (.builtin "len") (fun xs H Q=>∃ p ys, xs=[.ref p]/\(fJ X.K H p ys\/ic X.K H p ys)/\Q (.int ys.length) H):=by
 intro pins s σ H xs us Q I r h
 obtain ⟨p,ys,rfl,hq,q⟩:=h
 obtain ⟨u,rfl,rx⟩:=vals1 r
 cases rx
 have hn:=je
 rcases hq with hq | hq
 ·obtain ⟨its,r',pl,hz⟩:=I.list hq
  have hlen:=r'.length
  exact Calls.call_len_list pl.isList (by simp only [List.size_toArray] <;> omega) ⟨.int ys.length,H,I.tok _,⟨s.toks+1,by rw [List.size_toArray,hlen]⟩,q⟩
 ·obtain ⟨its,r',pl,hz⟩:=I.tuple hq
  have hlen:=r'.length
  exact len_tuple pl (by simp only [List.size_toArray] <;> omega) ⟨.int ys.length,H,I.tok _,⟨s.toks+1,by rw [List.size_toArray,hlen]⟩,q⟩
theorem ow:c8 X (.builtin "len") (fun xs H Q=>∃ z, xs=[.str z]/\z.length<=sizeLine/\Q (.int z.length) H):=by
 intro pins s σ H xs us Q I r h
 obtain ⟨z,rfl,hz,q⟩:=h
 obtain ⟨u,rfl,t,rfl⟩:=vals1 r
 have hn:=je
 exact len_str (by omega) ⟨.int z.length,H,I.tok _,⟨_,rfl⟩,q⟩
theorem c8.or {f:Value} {r r':List V->Hp->VK->Prop} (h:c8 X f r) (h':c8 X f r'):c8 X f (fun xs H Q=>r xs H Q\/r' xs H Q):=by
 intro pins s σ H xs us Q I rs q
 rcases q with q | q
 ·exact h pins s σ H xs us Q I rs q
 ·exact h' pins s σ H xs us Q I rs q
noncomputable def MJ (K:PySem.W.Frag) (T:String) (x:V) (H:Hp):Prop:=match x with
 | .str _=>T = "str"
 | .int _=>T = "int"
 | .ref p=>(T = "list"/\∃ xs, fJ K H p xs)\/(T = "tuple"/\∃ o, K.lookup p=some o/\o.cls=.type "tuple"/\o.dict=none) \/
   (T = "dict"/\((∃ kvs, H p=some (.dK kvs))\/∃ kvs, H p=some (.dT kvs)))\/(T = "set"/\∃ S n, H p=some (.set S n))
 | _=>False
theorem xu {pins:List (Addr×Obj)} {σ:St} {H:Hp} {s:Shared} {T:String} {x:V} {v:Value} (I:Inv X pins σ H s) (r:RelV x v) (ty:MJ X.K T x H) :
  s.TypeIs v T/\∀ a,v=.ref a->∃ ob,s.heap.get? a=some ob/\ob.dict=none:=by
 cases x with
 | str z =>
  obtain ⟨t,rfl⟩:=r
  cases (show T = "str" from ty)
  exact ⟨typeIs_str s z t,fun _ e=>nomatch e⟩
 | int i =>
  obtain ⟨t,rfl⟩:=r
  cases (show T = "int" from ty)
  exact ⟨typeIs_int s i t,fun _ e=>nomatch e⟩
 | ref p =>
  cases r
  rcases ty with ⟨rfl,xs,hq⟩ | ⟨rfl,o,hk,hc,hd⟩ | ⟨rfl,hk⟩ | ⟨rfl,S,n,hk⟩
  ·obtain ⟨its,_,pl,_⟩:=I.list hq
   refine ⟨pl.isList.typeIs,fun a e=>?_⟩
   cases e
   obtain ⟨o,n,e,c,hd,_⟩:=pl
   exact ⟨o,e,hd⟩
  ·refine ⟨⟨o,I.iK p o hk,hc⟩,fun a e=>?_⟩
   cases e
   exact ⟨o,I.iK _ o hk,hd⟩
  ·have z:∃ o,s.heap.get? p=some o/\o.ExactDict:=by
    rcases hk with ⟨kvs,hk⟩ | ⟨kvs,hk⟩
    ·obtain ⟨_,_,_,_,o,_,_,e,ex,_⟩:=I.hok p _ hk
     exact ⟨o,e,ex⟩
    ·obtain ⟨_,_,_,_,o,_,_,e,ex,_⟩:=I.hok p _ hk
     exact ⟨o,e,ex⟩
   obtain ⟨o,e,ex⟩:=z
   refine ⟨⟨o,e,ex.1⟩,fun a e2=>?_⟩
   cases e2
   exact ⟨o,e,ex.2.1⟩
  ·obtain ⟨o,_,_,_,e,ex,_⟩:=I.hok p _ hk
   refine ⟨⟨o,e,ex.1⟩,fun a e2=>?_⟩
   cases e2
   exact ⟨o,e,ex.2.1⟩
 | _=>exact False.elim ty
noncomputable def A9 (K:PySem.W.Frag) (T:String) (r:V->List V->Hp->VK->Prop) (to:TE):TE:=fun σ H Q=>to σ H fun x H1=>MJ K T x H1/\r x [] H1 Q
noncomputable def tBM (K:PySem.W.Frag) (T:String) (r:V->List V->Hp->VK->Prop) (to:TE) (t:TA):TE:=fun σ H Q=>to σ H fun x H1=>MJ K T x H1/\t σ H1 fun xs H2=>r x xs H2 Q
variable {o e:Expr} {es:List Expr} {to:TE} {t:TA} {name:Str} {apos cpos:Pos} {T id:String} {r:V->List V->Hp->VK->Prop}
theorem yG (pa:PlainAttrs T) (slot:Slot T name id) (hty:typeOf (.builtin id)=pure (.type "method_descriptor")) (hm:MtR X id r) (ho:PE X o to)
  (hbase:attributeBase o name X.env (eval o X.env)=eval o X.env:=by rfl) (hline:(apos.endLine == cpos.line)=true:=by rfl):PE X (.Call (.Attribute o name apos) [] [] cpos) (A9 X.K T r to):=by
 intro pins s σ H Q I h
 refine wpAny_Call_method0_late hbase hline (aU (ho pins s σ H _ I h) fun v s1 ⟨x,H1,I1,r1,ty,q1⟩=>?_)
 obtain ⟨h1,h2⟩:=xu I1 r1 ty
 exact ⟨T,id,pa,slot,hty,h1,h2,Calls.callWith_builtin rfl (PySem.evalArgs_none (hm pins s1 σ H1 x [] v [] Q I1 r1 .nil q1))⟩
theorem Ea (pa:PlainAttrs T) (slot:Slot T name id) (hty:typeOf (.builtin id)=pure (.type "method_descriptor")) (hm:MtR X id r) (ho:PE X o to) (ha:PA X (e::es) t)
  (hbase:attributeBase o name X.env (eval o X.env)=eval o X.env:=by rfl)
  (hfew:((backTo cpos (starEach (e::es) X.env)).all (fun x=>!x.1)&&(backToKw cpos (keywordEach [] X.env)).all (fun x=>x.1.isSome)
  &&decide ((e::es).length+([]:List Keyword).length+(if ([]:List Keyword).isEmpty then 0 else 1)<30))=true:=by rfl)
  (hline:(apos.endLine == cpos.line)=true:=by rfl) (hs:starEach (e::es) X.env=(false,eval e X.env)::starEach es X.env:=by rfl) (hplain:(backTo cpos (starEach es X.env)).any (·.1)=false:=by rfl) :
  PE X (.Call (.Attribute o name apos) (e::es) [] cpos) (tBM X.K T r to t):=by
 intro pins s σ H Q I h
 refine wpAny_Call_method_late hbase hfew hline rfl (aU (ho pins s σ H _ I h) fun v s1 ⟨x,H1,I1,r1,ty,q1⟩=>?_)
 obtain ⟨h1,h2⟩:=xu I1 r1 ty
 refine ⟨T,id,pa,slot,hty,h1,h2,?_⟩
 have hA:=ha cpos pins s1 σ H1 _ I1 q1
 rw [hs] at hA ⊢
 refine Calls.callWith_builtin (by show (false||(backTo cpos (starEach es X.env)).any (·.1))=false;rw [hplain] <;> rfl) (Calls.evalArgs_plain ?_)
 exact aU hA fun us s2 ⟨vs,H2,I2,r2,q2⟩=>hm pins s2 σ H2 x vs v us Q I2 r1 r2 q2
end
noncomputable def NS (X:Cx) (id:String) (r:V->List V->Hp->VK->Prop):Prop :=
 ∀ (pins:List (Addr×Obj)) (s:Shared) (σ:St) (H:Hp) (x:V) (xs:List V) (v:Value) (us:List Value) (Q:VK),Inv X pins σ H s->RelV x v->Vals xs us->r x xs H Q ->
  wpAny (model X.prog X.w) X.A (call (.builtin id) (v::us)) (EP X pins σ Q) X.xe s
theorem Vals.one:∀ {x:V} {us:List Value},Vals [x] us->∃ u,us=[u]/\RelV x u
 | _,_,.cons r .nil=>⟨_,rfl,r⟩
theorem Vals.zero:∀ {us:List Value},Vals [] us->us=[]
 | _,.nil=>rfl
theorem Vals.dropLast {xs:List V} {us:List Value} (h:Vals xs us):Vals xs.dropLast us.dropLast:=by
 induction h with
 | nil=>exact .nil
 | cons r t ih =>
  cases t with
  | nil=>exact .nil
  | cons q t'=>exact .cons r ih
theorem Vals.reverse {xs:List V} {us:List Value} (h:Vals xs us):Vals xs.reverse us.reverse:=by
 induction h with
 | nil=>exact .nil
 | cons r t ih=>rw [List.reverse_cons,List.reverse_cons];exact Vals.append ih (.cons r .nil)
theorem sF {α:Type} (l:List α):l.eraseIdx (l.length-1)=l.dropLast:=by
 induction l with
 | nil=>rfl
 | cons a r ih =>
  cases r with
  | nil=>rfl
  | cons b r =>
   have e:(a::b::r).length-1=((b::r).length-1)+1:=by
    have h1:(a::b::r).length=r.length+2:=rfl
    have h2:(b::r).length=r.length+1:=rfl
    omega
   rw [e,List.eraseIdx_cons_succ,ih]
   all_goals rfl
section
variable {X:Cx} {pins:List (Addr×Obj)} {σ:St} {H:Hp} {s:Shared} {l b:Addr} {xs ys zs:List V}
theorem Inv.Cu {its its':List Value} {n:Nat} {f:Array Value->Array Value} {t':Nat} (I:Inv X pins σ H s) (hH:H l=some (.lst xs))
  (e:s.heap.get? l=some { cls:=.type "list", data:=.seq its.toArray n }) (hf:f its.toArray=its'.toArray) (hv:Vals ys its') (hz:ys.length<=sizeLine) :
  Inv X pins σ (upd H l (.lst ys)) { s with heap:=s.heap.update l (Obj.mapSeq f),toks:=t' }:=by
 have q:=PySem.IsL.update e f
 rw [hf] at q
 refine I.write (x:=l) (e:=l) (by rw [hH];exact trivial) (.inl rfl) (fun b' u hb hu=>(Heap.get?_update_other s.heap (Obj.mapSeq f) (Ne.symm hb)).trans hu) ⟨_,q⟩ ?_
 exact ⟨hz,its',_,hv,q⟩
theorem Inv.KY {its:List Value} {t':Nat} (I:Inv X pins σ H s) (hv:Vals ys its) (hz:ys.length<=sizeLine) :
  Inv X pins σ (upd H s.heap.objs.size (.lst ys)) { s with heap:=s.heap.push { cls:=.type "list", data:=.seq its.toArray }, toks:=t' } :=
 I.laid (fun _ _ q=>Heap.get?_push_of_some _ q) (Nat.le_refl _) ⟨hz,its,0,hv,Heap.get?_push_size _ rfl⟩
theorem Inv.fresh (I:Inv X pins σ H s):H s.heap.objs.size=none:=I.hok.fresh (Nat.le_refl _)
theorem Inv.Ct (I:Inv X pins σ H s) (hH:H l=some (.lst xs)):xs.length<=sizeLine/\∃ (its:List Value) (n:Nat), Vals xs its/\xs.length=its.length/\s.heap.get? l=some { cls:=.type "list", data:=.seq its.toArray n }:=by
 obtain ⟨z,its,n,r,e⟩:=I.hok l _ hH
 exact ⟨z,its,n,r,r.length,e⟩
theorem yM {n:Nat} (h:n<=sizeLine):Builtin.List.listTooLong n=false:=by
 unfold Builtin.List.listTooLong
 exact decide_eq_false (by omega)
end
section
variable {X:Cx}
noncomputable def nq:V->List V->Hp->VK->Prop:=fun x vs H Q=>∃ l xs y,x=.ref l/\vs=[y]/\H l=some (.lst xs)/\xs.length<sizeLine/\Q .ak (upd H l (.lst (xs++[y])))
theorem mE:NS X "list.append" nq:=by
 intro pins s σ H x vs v us Q I rx rv h
 obtain ⟨l,xs,y,rfl,rfl,hH,hz,q⟩:=h
 cases rx
 obtain ⟨u,rfl,ru⟩:=rv.one
 obtain ⟨z,its,n,r,hl,e⟩:=I.Ct hH
 refine call_meets F.slot_list_append ⟨_,e,rfl⟩ F.entry_list_append (F.args_list_append_2 _ _) (PySem.list_append l its.toArray n u (by rw [List.size_toArray];omega)) ⟨e,?_⟩
 refine ⟨.ak,_,I.Cu (its':=its++[u]) hH e (by simp) (r.append (.cons ru .nil)) ?_,rfl,q⟩
 rw [List.length_append,List.length_singleton]
 omega
noncomputable def FU:V->List V->Hp->VK->Prop:=fun x vs H Q=>∃ l xs y,x=.ref l/\vs=[]/\H l=some (.lst xs)/\xs[xs.length-1]? = some y/\Q y (upd H l (.lst xs.dropLast))
theorem GR:NS X "list.pop" FU:=by
 intro pins s σ H x vs v us Q I rx rv h
 obtain ⟨l,xs,y,rfl,rfl,hH,hy,q⟩:=h
 cases rx
 have hus:=rv.zero
 subst hus
 obtain ⟨z,its,n,r,hl,e⟩:=I.Ct hH
 obtain ⟨u,hu,ru⟩:=r.get hy
 have hy':its.toArray[its.toArray.size-1]? = some u:=by
  show its.toArray[its.length-1]? = some u
  rw [<- Array.getElem?_toList,<- hl]
  exact hu
 refine call_meets F.slot_list_pop ⟨_,e,rfl⟩ F.entry_list_pop (F.args_list_pop_1 _) (MeetsSeq.list_pop_last l its.toArray n u hy' (by rw [List.size_toArray];omega)) ⟨e,?_⟩
 refine ⟨y,_,I.Cu (its':=its.dropLast) hH e ?_ r.dropLast ?_,ru,q⟩
 ·show its.toArray.eraseIdxIfInBounds (its.toArray.size-1)=its.dropLast.toArray
  rw [List.size_toArray,List.eraseIdxIfInBounds_toArray,sF]
 ·rw [List.length_dropLast]
  omega
noncomputable def kC:V->List V->Hp->VK->Prop:=fun x vs H Q=>∃ l xs,x=.ref l/\vs=[]/\H l=some (.lst xs)/\Q .ak (upd H l (.lst xs.reverse))
theorem rS:NS X "list.reverse" kC:=by
 intro pins s σ H x vs v us Q I rx rv h
 obtain ⟨l,xs,rfl,rfl,hH,q⟩:=h
 cases rx
 have hus:=rv.zero
 subst hus
 obtain ⟨z,its,n,r,hl,e⟩:=I.Ct hH
 refine call_meets F.slot_list_reverse ⟨_,e,rfl⟩ F.entry_list_reverse (F.args_list_reverse_1 _) (AutoSeq1.list_reverse_list_0 l its.toArray n (by rw [List.size_toArray];omega)) ⟨e,?_⟩
 refine ⟨.ak,_,I.Cu (its':=its.reverse) hH e (by simp) r.reverse ?_,rfl,q⟩
 rw [List.length_reverse]
 omega
end
section
variable {prog:Program} {w:World} {A:Around} {E:Value->Shared->Prop} {s:Shared}
end
section
variable {X:Cx}
end
section
variable {κ:Type} [DecidableEq κ]
noncomputable def cF (kvs:List (κ×V)) (k:κ):Option V:=(kvs.find? fun kv=>decide (kv.1=k)).map (·.2)
noncomputable def putK (kvs:List (κ×V)) (k:κ) (v:V):List (κ×V) :=
 if (kvs.any fun kv=>decide (kv.1=k))=true then kvs.map (fun kv=>if kv.1=k then (kv.1,v) else kv) else kvs++[(k,v)]
theorem kj {p:κ×V} {r:List (κ×V)} {k:κ} (e:p.1=k):cF (p::r) k=some p.2:=by simp [cF,List.find?_cons,e]
theorem ko {p:κ×V} {r:List (κ×V)} {k:κ} (e:¬ p.1=k):cF (p::r) k=cF r k:=by simp [cF,List.find?_cons,e]
theorem oM (k:κ):∀ kvs:List (κ×V),(kvs.any fun kv=>decide (kv.1=k))=(cF kvs k).isSome
 | []=>rfl
 | p::r=>by
  rw [List.any_cons]
  by_cases e:p.1=k
  ·simp only [kj e,decide_eq_true e,Bool.true_or,Option.isSome_some]
  ·rw [ko e,decide_eq_false e,Bool.false_or];exact oM k r
theorem fR (kvs:List (κ×V)) (k:κ) (v:V):(putK kvs k v).length<=kvs.length+1:=by
 unfold putK
 split
 ·rw [List.length_map];omega
 ·rw [List.length_append,List.length_cons,List.length_nil];omega
theorem ie.ji {o:Option V} {u:Option Value} (r:ie o u):o.isSome=u.isSome:=by
 cases o with
 | none=>cases u with
  | none=>rfl
  | some _=>exact (show False from r).elim
 | some _=>cases u with
  | none=>exact (show False from r).elim
  | some _=>rfl
theorem KV.val {kvs:List (κ×V)} {vs:List (κ×Value)} (r:KV kvs vs) (k:κ):ie (cF kvs k) (valueAt vs k):=by
 unfold KV at r
 induction r with
 | nil=>exact True.intro
 | @cons p q ps qs h t ih =>
  obtain ⟨h1,h2⟩:=h
  by_cases e:p.1=k
  ·have e':q.1=k:=h1.symm.trans e
   have b:valueAt (q::qs) k=some q.2:=by simp [valueAt,List.find?_cons,e']
   rw [kj e,b];exact h2
  ·have e':¬ q.1=k:=fun z=>e (h1.trans z)
   have b:valueAt (q::qs) k=valueAt qs k:=by simp [valueAt,List.find?_cons,e']
   rw [ko e,b];exact ih
theorem KV.any {kvs:List (κ×V)} {vs:List (κ×Value)} (r:KV kvs vs) (k:κ):(kvs.any fun kv=>decide (kv.1=k))=vs.any fun kv=>decide (kv.1=k):=by
 unfold KV at r
 induction r with
 | nil=>rfl
 | cons h t ih=>rw [List.any_cons,List.any_cons,ih,h.1]
theorem KV.repl {kvs:List (κ×V)} {vs:List (κ×Value)} (r:KV kvs vs) (k:κ) {y:V} {u:Value} (ry:RelV y u) :
  KV (kvs.map fun kv=>if kv.1=k then (kv.1,y) else kv) (vs.map fun kv=>if kv.1=k then (kv.1,u) else kv):=by
 unfold KV at r ⊢
 induction r with
 | nil=>exact .nil
 | @cons p q ps qs h t ih =>
  rw [List.map_cons,List.map_cons]
  refine .cons ?_ ih
  obtain ⟨h1,h2⟩:=h
  by_cases e:p.1=k
  ·rw [if_pos e,if_pos (h1.symm.trans e)];exact ⟨h1,ry⟩
  ·rw [if_neg e,if_neg (fun z=>e (h1.trans z))];exact ⟨h1,h2⟩
theorem KV.put {kvs:List (κ×V)} {vs:List (κ×Value)} (r:KV kvs vs) (k:κ) {y:V} {u:Value} (ry:RelV y u):KV (putK kvs k y) (stored vs k u):=by
 unfold putK stored
 rw [r.any k]
 by_cases e:(vs.any fun kv=>decide (kv.1=k))=true
 ·rw [if_pos e,if_pos e];exact r.repl k ry
 ·rw [if_neg e,if_neg e];exact Paired.snoc r ⟨rfl,ry⟩
theorem KV.length {kvs:List (κ×V)} {vs:List (κ×Value)} (r:KV kvs vs):kvs.length=vs.length:=Paired.length r
end
theorem mH {P:Program} {w:World} {k:Key} {u:Value} (r:RelV (kV k) u):(aG P w).is k u=true:=by
 cases k with
 | inl i=>obtain ⟨t,e⟩:=(show ∃ t,u=Value.int i t from r);subst e;exact pV P w i t
 | inr x=>obtain ⟨t,e⟩:=(show ∃ t,u=Value.str x t from r);subst e;exact pU P w x t
theorem mJ {P:Program} {w:World}:∀ {ks:List Key} {us:List Value},Vals (ks.map kV) us->ItemsAre (aG P w) ks us
 | [],_,r=>by rw [List.map_nil] at r;cases r;exact .nil
 | k::ks,_,r=>by
  rw [List.map_cons] at r
  cases r with
  | cons h t=>exact .cons (mH h) (mJ t)
noncomputable abbrev KT (H:Hp):List (List Key×V)->List (List Key×Addr×Value)->Prop:=Paired fun p q=>p.1=q.1/\H q.2.1=some (.tup (p.1.map kV))/\RelV p.2 q.2.2
theorem KT.val {H:Hp} {kvs:List (List Key×V)} {xs:List (List Key×Addr×Value)} (r:KT H kvs xs) (k:List Key):ie (cF kvs k) ((atKey xs k).map (·.2)):=by
 induction r with
 | nil=>exact True.intro
 | @cons p q ps qs h t ih =>
  obtain ⟨h1,_,h2⟩:=h
  by_cases e:p.1=k
  ·have e':q.1=k:=h1.symm.trans e
   have b:atKey (q::qs) k=some q.2:=by simp [atKey,List.find?_cons,e']
   rw [kj e,b];exact h2
  ·have e':¬ q.1=k:=fun z=>e (h1.trans z)
   have b:atKey (q::qs) k=atKey qs k:=by simp [atKey,List.find?_cons,e']
   rw [ko e,b];exact ih
theorem KT.repl {H:Hp} {kvs:List (List Key×V)} {xs:List (List Key×Addr×Value)} (r:KT H kvs xs) (k:List Key) {y:V} {u:Value} (ry:RelV y u) :
  KT H (kvs.map fun kv=>if kv.1=k then (kv.1,y) else kv) (xs.map (putAt k u)):=by
 induction r with
 | nil=>exact .nil
 | @cons p q ps qs h t ih =>
  rw [List.map_cons,List.map_cons]
  refine .cons ?_ ih
  obtain ⟨h1,h2,h3⟩:=h
  unfold putAt
  by_cases e:p.1=k
  ·rw [if_pos e,if_pos (h1.symm.trans e)];exact ⟨h1,h2,ry⟩
  ·rw [if_neg e,if_neg (fun z=>e (h1.trans z))];exact ⟨h1,h2,h3⟩
theorem KT.put {H:Hp} {kvs:List (List Key×V)} {xs:List (List Key×Addr×Value)} (r:KT H kvs xs) (k:List Key) {b:Addr} {y:V} {u:Value} (hb:H b=some (.tup (k.map kV))) (ry:RelV y u) :
  KT H (putK kvs k y) (storedH xs k b u):=by
 have e:(kvs.any fun kv=>decide (kv.1=k))=(atKey xs k).isSome:=by
  rw [oM,(r.val k).ji,Option.isSome_map]
 unfold putK storedH
 rw [e]
 by_cases q:(atKey xs k).isSome=true
 ·rw [if_pos q,if_pos q];exact r.repl k ry
 ·rw [if_neg q,if_neg q];exact Paired.snoc r ⟨rfl,hb,ry⟩
theorem KT.keeps {H H':Hp} {kvs:List (List Key×V)} {xs:List (List Key×Addr×Value)} (r:KT H kvs xs) (ht:∀ b ys,H b=some (.tup ys)->H' b=some (.tup ys)):KT H' kvs xs :=
 Paired.GV r fun _ _ z=>⟨z.1,ht _ _ z.2.1,z.2.2⟩
section
variable {P:Program} {w:World} {H:Hp} {h:Heap} {a:Addr}
theorem DZ {u:HO} (ok:gF P w H h) (e:Rd H a u):bf P w H h a u:=e.ok ok
theorem EL {kvs:List (Key×V)} (ok:gF P w H h) (e:Rd H a (.dK kvs)):kvs.length<=sizeLine/\(a == sysModules)=false/\∃ vs,KV kvs vs/\h.DictOf (aG P w) a vs :=
 show bf P w H h a (.dK kvs) from DZ ok e
theorem L1 {kvs:List (Key×V)} (ok:gF P w H h) (e:H a=some (.dK kvs)):kvs.length<=sizeLine/\(a == sysModules)=false/\∃ vs,KV kvs vs/\h.DictOf (aG P w) a vs:=EL ok (.inl e)
theorem zc {ks:List Key} (ok:gF P w H h) (e:H a=some (.tup (ks.map kV))):(tupleKind (aG P w)).is h ks a:=by
 obtain ⟨_,its,r,o,h1,h2,n,h3⟩:=(show bf P w H h a (.tup (ks.map kV)) from ok a _ e)
 exact ⟨o,its.toArray,n,h1,h2,h3,by simpa using mJ r⟩
theorem LZ {kvs:List (List Key×V)} (ok:gF P w H h) (e:Rd H a (.dT kvs)):kvs.length<=sizeLine/\(a == sysModules)=false /\
  ∃ xs,KT H kvs xs/\h.DictOfH (tupleKind (aG P w)) a xs:=by
 obtain ⟨z,y,xs,r,o,es,ep,h1,h2,h3,h4,h5⟩:=(show bf P w H h a (.dT kvs) from DZ ok e)
 refine ⟨z,y,xs,r,o,es,ep,h1,h2,h3,h4,fun x hx=>?_,h5⟩
 have all:∀ {l:List (List Key×V)} {m:List (List Key×Addr×Value)},KT H l m->∀ x∈m,(tupleKind (aG P w)).is h x.1 x.2.1:=by
  intro l m q
  induction q with
  | nil=>intro x hx;exact nomatch hx
  | @cons p q ps qs hq t ih =>
   intro x hx
   rcases List.mem_cons.mp hx with e | hx
   ·subst e
    exact zc ok (by rw [<- hq.1];exact hq.2.1)
   ·exact ih x hx
 exact all r x hx
theorem L0 {kvs:List (List Key×V)} (ok:gF P w H h) (e:H a=some (.dT kvs)):kvs.length<=sizeLine/\(a == sysModules)=false /\
  ∃ xs,KT H kvs xs/\h.DictOfH (tupleKind (aG P w)) a xs:=LZ ok (.inl e)
end
noncomputable def DJ (H:Hp) (a:Addr) (y:V) (r:Option V):Prop :=
 (∃ kvs k,Rd H a (.dK kvs)/\y=kV k/\r=cF kvs k)\/∃ kvs k b,Rd H a (.dT kvs)/\y=.ref b/\H b=some (.tup (k.map kV))/\r=cF kvs k
noncomputable def sY (H:Hp) (a:Addr) (y v:V) (H':Hp):Prop :=
 (∃ kvs k,H a=some (.dK kvs)/\y=kV k/\kvs.length<sizeLine/\H'=upd H a (.dK (putK kvs k v))) \/
 ∃ kvs k b,H a=some (.dT kvs)/\y=.ref b/\H b=some (.tup (k.map kV))/\kvs.length<sizeLine/\H'=upd H a (.dT (putK kvs k v))
theorem DJ.k {H:Hp} {a:Addr} {kvs:List (Key×V)} {k:Key} (e:H a=some (.dK kvs)):DJ H a (kV k) (cF kvs k):=.inl ⟨kvs,k,.inl e,rfl,rfl⟩
theorem DJ.t {H:Hp} {a b:Addr} {kvs:List (List Key×V)} {k:List Key} (e:H a=some (.dT kvs)) (eb:H b=some (.tup (k.map kV))):DJ H a (.ref b) (cF kvs k):=.inr ⟨kvs,k,b,.inl e,rfl,eb,rfl⟩
theorem sY.k {H:Hp} {a:Addr} {kvs:List (Key×V)} {k:Key} {v:V} (e:H a=some (.dK kvs)) (hl:kvs.length<sizeLine):sY H a (kV k) v (upd H a (.dK (putK kvs k v))):=.inl ⟨kvs,k,e,rfl,hl,rfl⟩
theorem sY.t {H:Hp} {a b:Addr} {kvs:List (List Key×V)} {k:List Key} {v:V} (e:H a=some (.dT kvs)) (eb:H b=some (.tup (k.map kV))) (hl:kvs.length<sizeLine) :
  sY H a (.ref b) v (upd H a (.dT (putK kvs k v))):=.inr ⟨kvs,k,b,e,rfl,eb,hl,rfl⟩
section
variable {X:Cx} {pins:List (Addr×Obj)} {σ:St} {H:Hp} {s:Shared} {a:Addr} {y v:V} {u r:Value} {o:Option V} {A:Around} {E:Value->Shared->Prop}
theorem Inv.big (I:Inv X pins σ H s):sysModules<s.heap.objs.size:=by
 have h:mainGlobals<s.heap.objs.size:=(I.mod.glob.keeps I.bk).lt
 exact Nat.lt_trans (by decide) h
theorem u9 {h':Heap} {t':Nat} {ob:HO} (I:Inv X pins σ H s) (mu:Mz (H a)) (hs:Heap.SameBut a s.heap h') (he:∃ q,h'.get? a=some q) (new:bf X.prog X.w (upd H a ob) h' a ob) :
  Inv X pins σ (upd H a ob) { s with heap:=h',toks:=t' } :=
 I.write (x:=a) (e:=a) mu (.inl rfl) (fun b q hb z=>(hs.2 b hb).trans z) he new
theorem sL {P:Program} {w:World} {H':Hp} {h':Heap} {kvs:List (Key×V)} {vs:List (Key×Value)} (z:kvs.length<=sizeLine) (hd:(a == sysModules)=false) (rel:KV kvs vs) (dd:h'.DictOf (aG P w) a vs) :
  bf P w H' h' a (.dK kvs):=⟨z,hd,vs,rel,dd⟩
theorem wC {H':Hp} {Q:Unit->Shared->Prop} (hu:A.units+1<cLine) (I:Inv X pins σ H s) (g:sY H a y v H') (ry:RelV y u) (rv:RelV v r) (h:∀ s',Inv X pins σ H' s'->Q () s') :
  wpAny (model X.prog X.w) A (setItem (.ref a) u r) Q E s:=by
 rcases g with ⟨kvs,k,e,ey,l,eH⟩ | ⟨kvs,k,b,e,ey,eb,l,eH⟩
 ·subst ey eH
  obtain ⟨z,hd,vs,rel,dd⟩:=L1 I.hok e
  have hz:vs.length<=sizeLine:=by rw [<- rel.length];exact z
  have hl:(putK kvs k v).length<=sizeLine:=by have:=fR kvs k v;omega
  refine wpAny_setItem_pairs (hsz:=hz) (mH ry) dd fun h' Dk hs=>h _ ?_
  have he:∃ q,h'.get? a=some q:=let ⟨q,_,_,hq,_⟩:=Dk;⟨q,hq⟩
  exact u9 I (by rw [e];exact True.intro) hs he (sL hl hd (rel.put k rv) Dk)
 ·subst ey eH
  cases (show u=Value.ref b from ry)
  obtain ⟨z,hd,xs,rel,dd⟩:=L0 I.hok e
  have hz:xs.length<=sizeLine:=by rw [<- Paired.length rel];exact z
  have hl:(putK kvs k v).length<=sizeLine:=by have:=fR kvs k v;omega
  refine wpAny_setItem_heap (hsz:=hz) (tupleKind_room_in1 hu) (zc I.hok eb) dd fun h' Dk hs=>h _ ?_
  obtain ⟨q,es,ep,hq,h2,h3,h4,_,h5⟩:=Dk
  refine u9 I (by rw [e];exact True.intro) hs ⟨q,hq⟩ ⟨hl,hd,_,(rel.put k eb rv).keeps fun c ys ec=>?_,q,es,ep,hq,h2,h3,h4,h5⟩
  rw [ao (KQ ec e (fun z=>nomatch z))]
  exact ec
end
section
variable {X:Cx} {pins:List (Addr×Obj)} {σ:St} {H:Hp} {s:Shared} {a:Addr} {kvs:List (Key×V)} {k:Key} {u:Value} {A:Around} {E:Value->Shared->Prop}
end
section
variable {X:Cx} {o i e value:Expr} {pos pos' tpos:Pos} {td ty tv:TE}
end
section
variable {X:Cx} {pos:Pos}
end
noncomputable def cT (kvs more:List (Key×V)):List (Key×V):=more.foldl (fun acc kv=>putK acc kv.1 kv.2) kvs
theorem KV.merge:∀ {more:List (Key×V)} {rs:List (Key×Value)} {kvs:List (Key×V)} {vs:List (Key×Value)},KV more rs->KV kvs vs->KV (cT kvs more) (merged vs rs):=by
 intro more rs kvs vs r
 unfold KV at r
 induction r generalizing kvs vs with
 | nil=>intro q;exact q
 | @cons p q ps qs h t ih =>
  intro r0
  have e:KV (putK kvs p.1 p.2) (stored vs q.1 q.2):=by
   have:=r0.put p.1 h.2
   rw [<- h.1];exact this
  exact ih e
theorem gJ:∀ (more kvs:List (Key×V)),(cT kvs more).length<=kvs.length+more.length
 | [],kvs=>by show kvs.length<=kvs.length+0;omega
 | p::r,kvs=>by
  have h1:=gJ r (putK kvs p.1 p.2)
  have h2:=fR kvs p.1 p.2
  show (cT (putK kvs p.1 p.2) r).length<=_
  rw [List.length_cons];omega
structure M1 (X:Cx) (o:Expr) (m:Str) (apos:Pos) (e:Expr) (cpos:Pos):Prop where
 base:attributeBase o m X.env (eval o X.env)=eval o X.env
 few:((backTo cpos (starEach [e] X.env)).all (fun x=>!x.1)&&(backToKw cpos (keywordEach [] X.env)).all (fun x=>x.1.isSome)
 &&decide (([e]:List Expr).length+([]:List Keyword).length+(if ([]:List Keyword).isEmpty then 0 else 1)<30))=true
 line:(apos.endLine == cpos.line)=true
 trees:backTo cpos (starEach [e] X.env)=[(false,eval e X.env)]
structure M2 (X:Cx) (o:Expr) (m:Str) (apos:Pos) (e f:Expr) (cpos:Pos):Prop where
 base:attributeBase o m X.env (eval o X.env)=eval o X.env
 few:((backTo cpos (starEach [e,f] X.env)).all (fun x=>!x.1)&&(backToKw cpos (keywordEach [] X.env)).all (fun x=>x.1.isSome)
 &&decide (([e,f]:List Expr).length+([]:List Keyword).length+(if ([]:List Keyword).isEmpty then 0 else 1)<30))=true
 line:(apos.endLine == cpos.line)=true
 trees:backTo cpos (starEach [e,f] X.env)=[(false,eval e X.env),(false,eval f X.env)]
section
variable {X:Cx} {pins:List (Addr×Obj)} {σ:St} {H:Hp} {s:Shared} {a:Addr} {y d:V} {u r:Value} {o:Option V} {A:Around} {E:Value->Shared->Prop}
end
section
variable {X:Cx} {o e f:Expr} {apos cpos:Pos} {td ty tx:TE}
end
section
variable {X:Cx} {pins:List (Addr×Obj)} {σ:St} {H:Hp} {s:Shared} {a:Addr} {kvs:List (Key×V)} {A:Around} {E:Value->Shared->Prop}
end
section
variable {X:Cx} {pins:List (Addr×Obj)} {σ:St} {H:Hp} {s:Shared} {a:Addr} {y:V} {u:Value} {A:Around} {E:Value->Shared->Prop}
end
end L2
namespace Att
open PySem PySem.W PySem.Calls PyProof.Rows
theorem jN {P:Params} {h:Heap}:∀ (ns:List Int) (vs:List Value),WellAll P h vs (ns.map WData.int)->IntsAre vs ns:=by
 intro ns
 induction ns with
 | nil =>
  intro vs w
  rw [List.map_nil] at w
  cases w
  exact .nil
 | cons n ns ih =>
  intro vs w
  rw [List.map_cons] at w
  cases w with
  | cons a b =>
   cases a
   exact .cons _ _ (ih _ b)
theorem vF {l:OpenLaw} {n:Nat} (hn:l.most=some n) {P:Params} {h:Heap} {args:List WData} {vals:List Value}
  (hpre:l.row.toRowW.claim.pre args=true) (hwl:WellAll P h vals args) :
  ∃ a vs ns, vals=[Value.ref a]/\args=[WData.list (ns.map WData.int)]/\h.get? a=some { cls:=.type "list", data:=.seq vs.toArray }/\IntsAre vs ns/\ns.length<=n:=by
 have hsh:WShape.hasAll [] args [.list .int]=true:=(pre_splitW hpre).1
 have hc:l.pre.holds [] { args:=args }=true:=(pre_splitW hpre).2
 obtain ⟨d,r,rfl,h1,h2⟩:=hasAllW_cons hsh
 obtain rfl:=hasAllW_nil h2
 obtain ⟨xs,rfl,h3⟩:=hasW_list h1
 obtain ⟨ns,rfl⟩:=items_int h3
 have hlen:ns.length<=n:=by
  unfold OpenLaw.pre at hc
  have h4:(WTm.not (.lt (.lit (.int (n:Int))) (.len (.arg 0)))).holds [] { args:=[.list (ns.map .int)] }=true:=by
   have h4:=(holds_andW hc).1
   rw [hn] at h4
   exact h4
  have h5:=condW_of h4 (w_not (w_lt w_lit (w_len_list (w_arg rfl))))
  rw [List.length_map] at h5
  refine Nat.le_of_not_lt fun q=>?_
  have q':(n:Int)<((ns.length:Nat):Int):=by omega
  first
   | (rw [decide_eq_true q'] at h5;exact absurd h5 (by decide))
   | (simp at h5;omega)
 cases hwl with
 | cons w1 w2 =>
  cases w2
  cases w1 with
  | list ho hall=>exact ⟨_,_,ns,rfl,rfl,ho,jN ns _ hall,hlen⟩
theorem vM (l:OpenLaw) (args:List WData):l.row.toRowW.claim.post args (.bool true) args=true :=
 postW_of (r:=l.row.toRowW) (X:=(true == true))
  (show WShape.has [] (.bool true) .bool=true by first | rfl | decide | simp [WShape.has,WShape.arms,WShape.armsAll])
  (show (WTm.eq .res (.lit (.bool true))).value [] { args:=args,res:=some (.bool true),after:=args }=some (.bool (true == true)) from w_eq_bool (w_res rfl) w_lit) rfl
theorem qC {l:OpenLaw} {n:Nat} {q:Program} {loose:List Str} {XP:(Str->Option Value)->Heap->Prop} {YP:World->Heap->Prop} {d:DefRec}
  (hn:l.most=some n) (hdf:d.params.defaults=[])
  (call:∀ (w:World) (s₀ s₁:Shared) (mg mb:Str->Option Value) (fa:Addr) (o:Obj) (pm cd doc:Value) (a:Addr) (vs:List Value) (ns:List Int),
   Ground q loose [] XP w s₀ mg mb s₁.heap->YP w s₁.heap ->
   s₁.heap.get? fa=some o->o.data=.func (docDef d.name d.params d.body d.scope pm cd doc)->s₁.heap.CodeRec cd d.name->mg d.name=some (.ref fa) ->
   s₁.heap.get? a=some { cls:=.type "list", data:=.seq vs.toArray }->IntsAre vs ns->ns.length<=n->s₁.gens=#[] ->
   codeAny (model l.prog w) callerA (.call (.ref fa) ⟨[.ref a],[]⟩) (fun r s'=>r=.ok (.ret (.bool true))/\OldK s₁.heap s'.heap/\s'.os=s₁.os/\AllBare s'.gens) s₁) :
  WalkO q loose XP YP l.row.toRowW d [] (fun f vs=>PySem.call f vs):=by
 intro w s₀ s₁ mg mb G Y fa o pm cd doc dV kV ho hd hcd hD hmg hg args vals as hpre hlay hrd hwl hlo
 obtain rfl:dV=.none:=Dflts.none hD hdf
 obtain rfl:kV=.none:=Dflts.noKw hD
 obtain ⟨a,vs,ns,rfl,rfl,hobj,hints,hlen⟩:=vF hn hpre hwl
 refine enter_call (codeAny_mono (call w s₀ s₁ mg mb fa o pm cd doc a vs ns G Y ho (fd_plain hd) hcd hmg hobj hints hlen hg) fun r s' hq=>?_)
 obtain ⟨rfl,h2,h3,h4⟩:=hq
 exact ⟨.inl ⟨.bool true,.bool true,[],rfl,fun _=>rfl,.bool true,vM l _,fun _=>⟨List.Pairwise.nil,fun _ hm=>(nomatch hm)⟩⟩,h2,h3,h4⟩
section
variable {prog:Program} {w:World} {A:Around} {E:Value->Shared->Prop} {s:Shared} {K:Frag}
end
end Att
namespace L2
open PySem PySem.Spec PyProof.Rows
theorem lW:∀ {vs:List Value} {ns:List Int},IntsAre vs ns->Vals (ns.map V.int) vs
 | _,_,.nil=>.nil
 | _,_,.cons n t h=>.cons ⟨t,rfl⟩ (lW h)
noncomputable def My (H:Hp):Prop:=∀ b,H b=none\/∃ o xs,H b=some (.gk o (.lst xs))
theorem zb {P:Program} {w:World} {K:PySem.W.Frag} {mg mb:Str->Option Value} {CX:AK} {k:Nat} {fa a:Addr} {fd:FuncData} {x:Str} {sp:Sp} {s₁:Shared} {vs:List Value} {ns:List Int}
  (KX:K.In s₁.heap) (hns:s₁.heap.Ns mainGlobals mg) (hb:s₁.heap.Ns builtinsNs mb) (hbb:∀ x:Str, x≠"__name__"->mb x=bootBuiltins x) (hlim:s₁.heap.NoLimit) (hg:s₁.gens=#[])
  (ha:s₁.heap.get? a=some { cls:=.type "list", data:=.seq vs.toArray }) (hi:IntsAre vs ns) (hl:ns.length<=sizeLine) (hr:cy k callerA)
  (F:∀ base:Heap,K.In base->base.Ns mainGlobals mg->cK P w K mg base CX k fa fd [x] sp) (hbind:∀ (s:Shared) (u:Value),BindsTo s fd ⟨[u],[]⟩ [(x,u)])
  (Jj:∀ H:Hp,My H->fJ K H a (ns.map V.int)->sp [.ref a] H (fun v _=>v=.bl true) fun _ _ _=>False)
  (hCX:∀ H e s',CX [] H s₁ (fun _ _ _=>False) e s'->False) :
  codeAny (model P w) callerA (.call (.ref fa) ⟨[.ref a],[]⟩) (fun r s'=>r=.ok (.ret (.bool true))/\OldK s₁.heap s'.heap/\s'.os=s₁.os/\AllBare s'.gens) s₁:=by
 have rv:=lW hi
 have lenV:=hi.length
 have core:∀ H:Hp,My H->fJ K H a (ns.map V.int)->gF P w H s₁.heap->(∀ b,H b≠none->b=a)->(H a≠none->K.lookup a=none) ->
   codeAny (model P w) callerA (.call (.ref fa) ⟨[.ref a],[]⟩) (fun r s'=>r=.ok (.ret (.bool true))/\OldK s₁.heap s'.heap/\s'.os=s₁.os/\AllBare s'.gens) s₁:=by
  intro H hO hS hok hA hK
  have j9:∀ {b:Addr} {o:Obj},s₁.heap.get? b=some o->H b=none->(nT s₁.heap H).get? b=some o:=fun e n=>zE e n
  have KO:∀ {b:Addr} {o:Obj} {es:Array DictEntry} {ep:Nat},s₁.heap.get? b=some o->o.data=.dict es ep->H b=none:=fun {b o es ep} e d=>by
   cases q:H b with
   | none=>rfl
   | some u =>
    have e':b=a:=hA b (by rw [q];simp)
    subst e'
    rw [ha] at e;cases e
    have d':Data.seq vs.toArray _=Data.dict es ep:=d
    cases d'
  have MY:∀ {b:Addr} {m:Str->Option Value},s₁.heap.Ns b m->(nT s₁.heap H).Ns b m:=fun {b m} ⟨o,es,ep,e,d,r⟩=>⟨o,es,ep,j9 e (KO e d),d,r⟩
  have hKb:K.In (nT s₁.heap H):=fun b o e=>j9 (KX b o e) (by
   cases q:H b with
   | none=>rfl
   | some u =>
    have e':b=a:=hA b (by rw [q];simp)
    subst e'
    rw [hK (by rw [q];simp)] at e;cases e)
  have hM:Mod K mg (nT s₁.heap H):=⟨hKb,MY hns,⟨mb,MY hb,hbb⟩,let ⟨mc,h1,h2⟩:=hlim;⟨mc,MY h1,h2⟩⟩
  have e0:lQ P w K mg (nT s₁.heap H) callerA [] s₁ H:=⟨rfl,hM,fun b o e=>Cm e,Nat.le_of_eq (wj _ _),trivial,fun b hb=>absurd (show b∈([]:List Addr) from hb) (by simp),hok,.of_eq hg⟩
  refine codeAny_mono ((F _ hKb (MY hns)).run callerA [] s₁ H ⟨[.ref a],[]⟩ [.ref a] [.ref a] _ _ hr e0 (hbind s₁ (.ref a)) (.cons rfl .nil) (Jj H hO hS)) fun r s' h=>?_
  cases r with
  | error e=>exact (hCX H e s' h).elim
  | ok fl =>
   cases fl with
   | next=>exact False.elim h
   | brk=>exact False.elim h
   | cont=>exact False.elim h
   | ret u =>
    obtain ⟨v,H',os,bare,un,hok',r',q⟩:=h
    have q':v=.bl true:=q
    subst q'
    obtain rfl:u=Value.bool true:=r'
    refine ⟨rfl,OldK.of_keep fun b o e=>?_,os,bare⟩
    cases q:H b with
    | none=>exact un.keep b o e q (by intro z;exact absurd (show b∈([]:List Addr) from z) (by simp)) (by simp)
    | some u =>
     rcases hO b with z | ⟨ob,xs,z⟩
     ·rw [q] at z;cases z
     ·have z2:=un.gB b ob _ z
      obtain ⟨e1,_⟩:=hok b _ z
      obtain ⟨e2,_⟩:=hok' b _ z2
      rw [e] at e1;cases e1
      exact e2
 cases hk:K.lookup a with
 | some o =>
  have e:=KX a o hk
  rw [ha] at e
  cases e
  refine core (fun _=>none) (fun _=>.inl rfl) (.inr ⟨_,vs.toArray,_,hk,rfl,rfl,rfl,by rw [List.size_toArray,lenV];exact hl,by simpa using rv⟩) (fun b u z=>by have z':(none:Option HO)=some u:=z;cases z') (fun b z=>absurd rfl z) fun z=>absurd rfl z
 | none =>
  refine core (fun b=>if b=a then some (.gk { cls:=.type "list", data:=.seq vs.toArray } (.lst (ns.map V.int))) else none) (fun b=>?_) (.inl (.inr ⟨{ cls:=.type "list", data:=.seq vs.toArray }, if_pos rfl⟩)) (fun b u z=>?_) (fun b z=>?_) fun _=>hk
  ·by_cases hb:b=a
   ·exact .inr ⟨_,_,if_pos hb⟩
   ·exact .inl (if_neg hb)
  ·by_cases hb:b=a
   ·have z':=(if_pos hb).symm.trans z
    cases z'
    subst hb
    exact ⟨ha,by rw [List.length_map];exact hl,vs,_,rv,ha⟩
   ·have z':=(if_neg hb).symm.trans z
    cases z'
  ·by_cases hb:b=a
   ·exact hb
   ·exact absurd (if_neg hb) z
noncomputable abbrev CX0:AK:=fun _ _ _ _ _ _=>False
structure Fun (K:PySem.W.Frag) (x qual:Str) (st:Stmt) (f:Addr) (fd:FuncData):Prop where
 ex:∃ (oc:Value) (od:Option Addr) (kV doc pm:Value) (an:Option Addr) (cdv ct:Value) (osl:Array (Option Value)),
  fd=PySem.W.fnOf x qual (iU st) (bX st) (aB st) .none kV doc pm an cdv ct/\K.lookup f=some ⟨oc,od,.func fd,osl⟩/\PySem.W.codeIn K cdv qual=true
 kp:PySem.W.keepIn K (.ref f)=true
section
variable {P:Program} {w:World} {K:PySem.W.Frag} {mg:Str->Option Value} {base:Heap}
theorem Fun.ok {x qual:Str} {st:Stmt} {f:Addr} {fd:FuncData} {N ps:List Str} {k:Nat} {sp:Sp} (F:Fun K x qual st f fd) (S:dF N ps (aB st)) (len:∀ vs H Q E,sp vs H Q E->vs.length=ps.length)
  (hbody:∀ (cdv:Value) (A:Around) (outer:List Env) (s:Shared) (H:Hp) (vs:List V) (Q:VK) (E:XK),cy k (A.deeper (envOfC qual (aB st) s.heap.objs.size f cdv))->sp vs H Q E ->
   ∃ t,kg (iW CX0 P w K mg base N qual (aB st) f cdv A outer s H E).Ed (bX st) t/\t { nx:=fun _ H'=>Q .ak H',rt:=Q } (start N vs) H):cK P w K mg base CX0 (k+1) f fd ps sp:=by
 obtain ⟨oc,od,kV,doc,pm,an,cdv,ct,osl,rfl,lk,hcd⟩:=F.ex
 refine EA lk hcd S len fun A outer s H vs Q E hr Jj=>?_
 obtain ⟨t,h,q⟩:=hbody cdv A outer s H vs Q E hr Jj
 exact ⟨t,h.Ed,q⟩
end
section
variable {X:Cx}
end
noncomputable def wR (H H':Hp):Prop:=∀ b o,H b=some o->H' b=some o
theorem wR.trans {H H1 H2:Hp} (a:wR H H1) (b:wR H1 H2):wR H H2:=fun c o h=>b c o (a c o h)
theorem wR.free {H H':Hp} (e:wR H H') {l:Addr} (h:H' l=Option.none):H l=Option.none:=by
 cases q:H l with
 | none=>rfl
 | some o =>
  rw [e l o q] at h
  cases h
section
variable {κ:Type} [DecidableEq κ]
end
end L2
end
section
namespace Fg
open PySem
section
variable {Φ:bz} {σ:Sg} {M:MH}
@[simp] theorem lN {i:Nat}:ev Φ (.v i) σ M=match σ[i]? with | some (some d)=>.ok d M | _=>.bad:=rfl
@[simp] theorem qg {d:D}:ev Φ (.k d) σ M=.ok d M:=rfl
@[simp] theorem Lz {i:Nat}:ev Φ (.g i) σ M=match Φ.glob i with | some d=>.ok d M | none=>.bad:=rfl
@[simp] theorem g7 {es:Es}:ev Φ (.tup es) σ M=(cZ Φ es σ M).bind fun ds M1=>.ok (.tup ds) M1:=rfl
@[simp] theorem ev_lst {fz:Bool} {es:Es}:ev Φ (.lst fz es) σ M=(cZ Φ es σ M).bind fun ds M1=>cH fz ds M1:=rfl
@[simp] theorem NJ:ev Φ .Dl σ M=.ok (.ref M.length) (M++[.dct []]):=rfl
@[simp] theorem kX {o:DE} {fz:Bool} {a b:E}:ev Φ (.op o fz a b) σ M=(ev Φ a σ M).bind fun x M1=>(ev Φ b σ M1).bind fun y M2=>qI o fz M2 x y:=rfl
@[simp] theorem ev_neg {a:E}:ev Φ (.neg a) σ M=(ev Φ a σ M).bind fun x M1=>match x with | .int i=>.ok (.int (-i)) M1 | _=>.bad:=rfl
@[simp] theorem c6 {o:AJ} {a b:E}:ev Φ (.cmp o a b) σ M=(ev Φ a σ M).bind fun x M1=>(ev Φ b σ M1).bind fun y M2=>bJ o M2 x y:=rfl
@[simp] theorem LB {o o':AJ} {a b c:E}:ev Φ (.chain o o' a b c) σ M=(ev Φ a σ M).bind fun x M1=>(ev Φ b σ M1).bind fun y M2=>(bJ o M2 x y).bind fun t M3=>match t with
  | .bl true=>(ev Φ c σ M3).bind fun z M4=>bJ o' M4 y z
  | .bl false=>.ok (.bl false) M3
  | _=>.bad:=rfl
@[simp] theorem Aa {a b:E}:ev Φ (.and a b) σ M=(ev Φ a σ M).bind fun x M1=>match x with | .bl true=>(ev Φ b σ M1) | .bl false=>.ok (.bl false) M1 | _=>.bad:=rfl
@[simp] theorem Lx {a b:E}:ev Φ (.or a b) σ M=(ev Φ a σ M).bind fun x M1=>match x with | .bl true=>.ok (.bl true) M1 | .bl false=>(ev Φ b σ M1) | _=>.bad:=rfl
@[simp] theorem ev_not {a:E}:ev Φ (.not a) σ M=(ev Φ a σ M).bind fun x M1=>match x with | .bl b=>.ok (.bl (!b)) M1 | _=>.bad:=rfl
@[simp] theorem zY {c a b:E}:ev Φ (.AU c a b) σ M=(ev Φ c σ M).bind fun x M1=>match x with | .bl true=>ev Φ a σ M1 | .bl false=>ev Φ b σ M1 | _=>.bad:=rfl
@[simp] theorem sE {a b:E}:ev Φ (.idx a b) σ M=(ev Φ a σ M).bind fun x M1=>(ev Φ b σ M1).bind fun y M2=>pZ M2 x y:=rfl
@[simp] theorem Lv {fz:Bool} {a:E} {lo hi:O}:ev Φ (.sl fz a lo hi) σ M=(ev Φ a σ M).bind fun x M1=>(CY Φ lo σ M1).bind fun l M2=>(CY Φ hi σ M2).bind fun h M3=>sl2 fz M3 x l h:=rfl
@[simp] theorem bB {f:Nat} {es:Es}:ev Φ (.call f es) σ M=(cZ Φ es σ M).bind fun ds M1=>Φ.call f ds M1:=rfl
@[simp] theorem ev_isi {a:E} {t:Ty}:ev Φ (.AR a t) σ M=(ev Φ a σ M).bind fun x M1=>if yK M1 x then .ok (.bl (HK M1 t x)) M1 else .bad:=rfl
@[simp] theorem z9 {b:Bl} {fz:Bool} {es:Es}:ev Φ (.blt b fz es) σ M=(cZ Φ es σ M).bind fun ds M1=>wN b fz M1 ds:=rfl
@[simp] theorem jm {m:Mt} {fz:Bool} {a:E} {es:Es}:ev Φ (.dI m fz a es) σ M=(ev Φ a σ M).bind fun x M1=>if nI m M1 x then (cZ Φ es σ M1).bind fun ds M2=>gW m fz M2 x ds else .bad:=rfl
@[simp] theorem uL {fz:Bool} {caps tg:List Nat} {elt:E} {it:Src} {cond:O}:ev Φ (.comp fz caps tg elt it cond) σ M=(aJ Φ it σ M).bind fun p M1 =>
   ((bS (qK Φ cond) (ev Φ elt) tg (aF M1 p.1) p.2.1 (ou σ caps++List.replicate tg.length none) M1 []).fin (fK p.2.2 p.1)).bind fun ds M2=>cH fz ds M2:=rfl
@[simp] theorem jn {a:E} {f:Str}:ev Φ (.fld a f) σ M=(ev Φ a σ M).bind fun x M1=>match x with
  | .ref n=>match M1[n]? with
   | some (.ins _ fs)=>match fs.lookup f with
    | some d=>.ok d M1
    | none=>.bad
   | _=>.bad
  | _=>.bad:=rfl
@[simp] theorem Ii {c m:Nat} {nm:Str} {a:E} {es:Es}:ev Φ (.c9 c m nm a es) σ M=(ev Φ a σ M).bind fun x M1=>match x with
  | .ref n=>match M1[n]? with
   | some (.ins c' fs)=>if decide (c'=c)&&(fs.lookup nm).isNone then (cZ Φ es σ M1).bind fun ds M2=>Φ.call m (.ref n::ds) M2 else .bad
   | _=>.bad
  | _=>.bad:=rfl
@[simp] theorem Ij {c i:Nat} {es:Es}:ev Φ (.new c i es) σ M=(cZ Φ es σ M).bind fun ds M1=>(Φ.ini i (.ref M1.length::ds) (M1++[.ins c []])).bind fun r M2=>match r with
  | .ak=>.ok (.ref M1.length) M2
  | _=>.bad:=rfl
@[simp] theorem Ly {hi:Bool} {a b:E}:ev Φ (.mx hi a b) σ M=(ev Φ a σ M).bind fun x M1=>(ev Φ b σ M1).bind fun y M2=>match x,y with
  | .int i,.int j=>.ok (.int (if hi then (if j > i then j else i) else (if j<i then j else i))) M2
  | _,_=>.bad:=rfl
@[simp] theorem ev_lrg {fz:Bool} {a b:E}:ev Φ (.M6 fz a b) σ M=(ev Φ a σ M).bind fun x M1=>(ev Φ b σ M1).bind fun y M2=>match x,y with
  | .int i,.int j=>if gu i&&(gu j&&decide ((j-i).toNat<=line)) then cH fz (gq i j) M2 else .bad
  | _,_=>.bad:=rfl
@[simp] theorem zZ {f:F1} {a:E}:ev Φ (.qJ f a) σ M=(ev Φ a σ M).bind fun x M1=>match wu f x with
  | some d=>.ok d M1
  | none=>.bad:=rfl
@[simp] theorem ev_lr1 {fz:Bool} {a:E}:ev Φ (.M7 fz a) σ M=(ev Φ a σ M).bind fun x M1=>match x with
  | .int j=>if gu j then cH fz (gq 0 j) M1 else .bad
  | _=>.bad:=rfl
@[simp] theorem Lw {fz:Bool} {a:E}:ev Φ (.rv fz a) σ M=(ev Φ a σ M).bind fun x M1=>match vw M1 x with
  | .lst ds=>cH fz ds.reverse M1
  | _=>.bad:=rfl
@[simp] theorem NK {a:E}:ev Φ (.all1 a) σ M=(ev Φ a σ M).bind fun x M1=>match vw M1 x with
  | .lst ds=>match boolsOf ds with
   | some bs=>.ok (.bl (bs.all id)) M1
   | none=>.bad
  | _=>.bad:=rfl
@[simp] theorem eZ:cZ Φ .nil σ M=.ok [] M:=rfl
@[simp] theorem bA {e:E} {es:Es}:cZ Φ (.cons e es) σ M=(ev Φ e σ M).bind fun x M1=>(cZ Φ es σ M1).bind fun xs M2=>.ok (x::xs) M2:=rfl
@[simp] theorem zS:CY Φ .none σ M=.ok none M:=rfl
@[simp] theorem zR {e:E}:CY Φ (.some e) σ M=(ev Φ e σ M).bind fun x M1=>match x with | .int i=>.ok (some i) M1 | _=>.bad:=rfl
@[simp] theorem zX:qK Φ .none σ M=.ok (.bl true) M:=rfl
@[simp] theorem Lu {e:E}:qK Φ (.some e) σ M=ev Φ e σ M:=rfl
@[simp] theorem zW {a:E}:aJ Φ (.e a) σ M=(ev Φ a σ M).bind fun x M1=>match itemsOf M1 x with | some ds=>.ok (x,ds,wk M1 x) (walk M1 x) | none=>.bad:=rfl
@[simp] theorem C5 {a:E}:aJ Φ (.eE a) σ M=(ev Φ a σ M).bind fun x M1=>match x with
  | .int j=>if gu j then .ok (.ak,gq 0 j,false) M1 else .bad
  | _=>.bad:=rfl
@[simp] theorem zV {a b:E}:aJ Φ (.gS a b) σ M=(ev Φ a σ M).bind fun x M1=>(ev Φ b σ M1).bind fun y M2=>match ez x,ez y with
  | some i,some j=>if gu i&&gu j then .ok (.ak,gq i j,false) M2 else .bad
  | _,_=>.bad:=rfl
@[simp] theorem C6 {a:E}:aJ Φ (.rev a) σ M=(ev Φ a σ M).bind fun x M1=>match p5 x with
  | some ds=>.ok (.ak,ds.reverse,false) M1
  | none=>.bad:=rfl
@[simp] theorem zU {a b:E}:aJ Φ (.dG a b) σ M=(ev Φ a σ M).bind fun x M1=>(ev Φ b σ M1).bind fun y M2=>match ez x,ez y with
  | some i,some j=>if gu i&&gu j then .ok (.ak,mj i j,false) M2 else .bad
  | _,_=>.bad:=rfl
@[simp] theorem LA {a b:E}:ev Φ (.dz a b) σ M=(ev Φ a σ M).bind fun x M1=>(ev Φ b σ M1).bind fun y M2=>match AL M2 x,AL M2 y with
  | some ds,some es=>if decide (ds.length<=1000) then (match wW [] ds es with
   | some kvs=>.ok (.ref M2.length) (M2++[.dct kvs])
   | none=>.bad) else .bad
  | _,_=>.bad:=rfl
@[simp] theorem LC {f:Nat} {es:Es} {d:Int}:ev Φ (.vf f es d) σ M=(cZ Φ es σ M).bind fun ds M1=>Φ.call f (ds++[.int d]) M1:=rfl
@[simp] theorem NI {a b:E}:aJ Φ (.zip a b) σ M=(ev Φ a σ M).bind fun x M1=>(ev Φ b σ M1).bind fun y M2=>match p5 x,p5 y with
  | some ds,some es=>.ok (.ak,Js ds es,false) M2
  | _,_=>.bad:=rfl
@[simp] theorem Ig {i:Nat} {e:E}:ex Φ (.set i e) σ M=(ev Φ e σ M).use σ fun x M1=>.ok (.nx (σ.set i (some x))) M1:=rfl
@[simp] theorem CW {a b e:E}:ex Φ (.rq a b e) σ M=(ev Φ e σ M).use σ fun x M1=>(ev Φ a σ M1).use σ fun y M2=>(ev Φ b σ M2).use σ fun z M3=>(m8 M3 y z x).use σ fun _ M4=>.ok (.nx σ) M4:=rfl
@[simp] theorem n6 {a:E} {f:Str} {e:E}:ex Φ (.eG a f e) σ M=(ev Φ e σ M).use σ fun x M1=>(ev Φ a σ M1).use σ fun y M2=>match y with
  | .ref n=>match M2[n]? with
   | some (.ins c fs)=>if decide (fs.length<1000) then .ok (.nx σ) (M2.set n (.ins c (eL f x fs))) else .bad
   | _=>.bad
  | _=>.bad:=rfl
@[simp] theorem CZ:C0 Φ .nil σ M=.ok () M:=rfl
@[simp] theorem zT {e:E} {es:Es}:C0 Φ (.cons e es) σ M=(ev Φ e σ M).bind fun x M1=>if bV x then C0 Φ es σ M1 else .bad:=rfl
@[simp] theorem zQ {c:Nat} {es:Es}:ex Φ (.raise c es) σ M=(C0 Φ es σ M).use σ fun _ M1=>.ok (.xc c σ) M1:=rfl
@[simp] theorem zP {b:Ss} {hs:Hs} {els:Ss}:ex Φ (.try b hs els) σ M=(exs Φ b σ M).bind fun o M1=>match o with
  | .nx σ1=>exs Φ els σ1 M1
  | .xc c σ1=>AV Φ hs c σ1 M1
  | o=>.ok o M1:=rfl
@[simp] theorem ND {c:Nat}:AV Φ .nil c σ M=.bad:=rfl
@[simp] theorem iR {cs:List Nat} {b:Ss} {hs:Hs} {c:Nat}:AV Φ (.cons cs b hs) c σ M=if cs.any (fun d=>Φ.sub c d) then exs Φ b σ M else AV Φ hs c σ M:=rfl
@[simp] theorem ex_unp {tg:List Nat} {e:E}:ex Φ (.unp tg e) σ M=(ev Φ e σ M).use σ fun x M1=>match sets tg M1 x σ with | some σ1=>.ok (.nx σ1) M1 | none=>.bad:=rfl
@[simp] theorem Lr {e:E}:ex Φ (.ex e) σ M=(ev Φ e σ M).use σ fun _ M1=>.ok (.nx σ) M1:=rfl
@[simp] theorem Ih {e:E}:ex Φ (.ret e) σ M=(ev Φ e σ M).use σ fun x M1=>.ok (.rt x) M1:=rfl
@[simp] theorem NF:ex Φ .FO σ M=.ok (.rt .ak) M:=rfl
@[simp] theorem sD {c:E} {a b:Ss}:ex Φ (.ifs c a b) σ M=(ev Φ c σ M).use σ fun t M1=>match t with | .bl true=>exs Φ a σ M1 | .bl false=>exs Φ b σ M1 | _=>.bad:=rfl
@[simp] theorem ex_for {tg:List Nat} {it:Src} {b:Ss}:ex Φ (.for tg it b) σ M=(aJ Φ it σ M).use σ fun p M1=>(aI (exs Φ b) tg (aF M1 p.1) p.2.1 σ M1).fin (fK p.2.2 p.1):=rfl
@[simp] theorem kW {c:E} {b:Ss}:ex Φ (.while c b) σ M=bR (ev Φ c) (exs Φ b) Φ.turns σ M:=rfl
@[simp] theorem ex_brk:ex Φ .brk σ M=.ok (.bk σ) M:=rfl
@[simp] theorem NH:ex Φ .cont σ M=.ok (.ct σ) M:=rfl
@[simp] theorem NG:ex Φ .pass σ M=.ok (.nx σ) M:=rfl
@[simp] theorem NC:exs Φ .nil σ M=.ok (.nx σ) M:=rfl
@[simp] theorem bO {s:S} {ss:Ss}:exs Φ (.cons s ss) σ M=(ex Φ s σ M).bind fun o M1=>match o with | .nx σ1=>exs Φ ss σ1 M1 | o=>.ok o M1:=rfl
end
@[simp] theorem fin_ok {α:Type} {a:α} {M:MH} {f:MH->MH}:(R.ok a M).fin f=.ok a (f M):=rfl
@[simp] theorem Ny {α:Type} {c:Nat} {M:MH} {f:MH->MH}:(R.exc c M:R α).fin f=.exc c (f M):=rfl
@[simp] theorem Nz {α:Type} {f:MH->MH}:(R.bad:R α).fin f=.bad:=rfl
@[simp] theorem unwk_f {d:D} {M:MH}:fK false d M=M:=by cases d <;> rfl
@[simp] theorem ED {α:Type} {x:R α} {d:D}:x.fin (fK false d)=x:=by cases x <;> simp
@[simp] theorem wk_tup {M:MH} {ds:List D}:wk M (.tup ds)=false:=rfl
@[simp] theorem wk_lst {M:MH} {ds:List D}:wk M (.lst ds)=false:=rfl
@[simp] theorem wk_str {M:MH} {x:Str}:wk M (.str x)=false:=rfl
@[simp] theorem Jw {M:MH} {ds:List D}:walk M (.tup ds)=M:=rfl
@[simp] theorem Jy {M:MH} {ds:List D}:walk M (.lst ds)=M:=rfl
@[simp] theorem Jx {M:MH} {x:Str}:walk M (.str x)=M:=rfl
theorem cL {P:lP} {k i:Nat} {ds:List D} {M:MH} {fn:Fn} (h:P.fn i=some fn):(af P (k+1)).call i ds M=kB (af P k) fn ds M:=by simp only [af,h]
@[simp] theorem k9 {P:lP} {k:Nat}:(af P k).glob=P.glob:=by cases k <;> rfl
@[simp] theorem gb {P:lP} {k:Nat}:(af P k).turns=P.turns:=by cases k <;> rfl
@[simp] theorem wL {P:lP} {k:Nat}:(af P k).sub=P.sub:=by cases k <;> rfl
@[simp] theorem bG {α:Type} {a:α} {l:List α}:qM (a::l) 0=some a:=by
 have:(0:Int)<((a::l).length:Int):=by simp only [List.length_cons];omega
 simp only [qM,Eo,if_pos (Int.le_refl 0),if_pos this];rfl
@[simp] theorem gQ {α:Type} {a b:α} {l:List α}:qM (a::b::l) 1=some b:=by
 have:(1:Int)<((a::b::l).length:Int):=by simp only [List.length_cons];omega
 simp only [qM,Eo,if_pos (show (0:Int)<=1 by decide),if_pos this];rfl
@[simp] theorem qE {α:Type} {a b c:α} {l:List α}:qM (a::b::c::l) 2=some c:=by
 have:(2:Int)<((a::b::c::l).length:Int):=by simp only [List.length_cons];omega
 simp only [qM,Eo,if_pos (show (0:Int)<=2 by decide),if_pos this];rfl
@[simp] theorem qD {α:Type} {a b c d:α} {l:List α}:qM (a::b::c::d::l) 3=some d:=by
 have:(3:Int)<((a::b::c::d::l).length:Int):=by simp only [List.length_cons];omega
 simp only [qM,Eo,if_pos (show (0:Int)<=3 by decide),if_pos this];rfl
@[simp] theorem EG:aH D.ak D.ak=true:=by simp only [aH]
@[simp] theorem qj {x:Int} {y:Int}:aH (D.int x) (D.int y)=decide (x=y):=by simp only [aH]
@[simp] theorem EF {x:Str} {y:Str}:aH (D.str x) (D.str y)=decide (x=y):=by simp only [aH]
@[simp] theorem qh {x:List D} {y:List D}:aH (D.tup x) (D.tup y)=dR x y:=by simp only [aH]
@[simp] theorem jH {x:List D} {y:List D}:aH (D.lst x) (D.lst y)=dR x y:=by simp only [aH]
@[simp] theorem NL:dR [] []=true:=by simp only [dR]
@[simp] theorem C7 {a:D} {l:List D}:dR (a::l) []=false:=by simp only [dR]
@[simp] theorem C8 {a b:D} {l m:List D}:dR (a::l) (b::m)=(aH a b&&dR l m):=by simp only [dR]
section
variable {Φ:bz} {σ σ':Sg} {M M1 M2:MH} {e c:E} {x:D} {ss a b:Ss} {i:Nat}
theorem av (h:ev Φ e σ M=.ok x M1):exs Φ (.cons (.set i e) ss) σ M=exs Φ ss (σ.set i (some x)) M1:=by simp [h]
theorem bZ (h:ev Φ e σ M=.ok x M1):exs Φ (.cons (.ex e) ss) σ M=exs Φ ss σ M1:=by simp [h]
theorem bq (h:ev Φ e σ M=.ok x M1):exs Φ (.cons (.ret e) ss) σ M=.ok (.rt x) M1:=by simp [h]
theorem aM (h:ev Φ c σ M=.ok (.bl false) M1):exs Φ (.cons (.ifs c a .nil) ss) σ M=exs Φ ss σ M1:=by simp [h]
theorem m9 (h:ev Φ c σ M=.ok (.bl false) M1) (hb:exs Φ b σ M1=.ok (.nx σ') M2):exs Φ (.cons (.ifs c a b) ss) σ M=exs Φ ss σ' M2:=by simp [h,hb]
theorem pq (h:ev Φ c σ M=.ok (.bl true) M1) (ha:exs Φ a σ M1=.ok (.nx σ') M2):exs Φ (.cons (.ifs c a b) ss) σ M=exs Φ ss σ' M2:=by simp [h,ha]
theorem bY (h:ev Φ c σ M=.ok (.bl true) M1) (ha:exs Φ a σ M1=.ok (.rt x) M2):exs Φ (.cons (.ifs c a b) ss) σ M=.ok (.rt x) M2:=by simp [h,ha]
theorem fj {tg:List Nat} {it:Src} {d:D} {ds:List D} (h:aJ Φ it σ M=.ok (d,ds,false) M1) (hl:aI (exs Φ b) tg (aF M1 d) ds σ M1=.ok (.nx σ') M2):exs Φ (.cons (.for tg it b) ss) σ M=exs Φ ss σ' M2:=by simp [h,hl]
theorem ja {tg:List Nat} {it:Src} {d:D} {ds:List D} (h:aJ Φ it σ M=.ok (d,ds,false) M1) (hl:aI (exs Φ b) tg (aF M1 d) ds σ M1=.ok (.rt x) M2):exs Φ (.cons (.for tg it b) ss) σ M=.ok (.rt x) M2:=by simp [h,hl]
theorem aQ {P:lP} {k f:Nat} {fn:Fn} {ds:List D} {d:D} {M':MH} {r:R D} (hf:P.fn f=some fn) (hn:ds.length=fn.np) (hb:exs (af P k) fn.body (ds.map some++List.replicate (fn.ns-fn.np) none) M=.ok (.rt d) M') (hr:fM fn.keep M d M'=r):(af P (k+1)).call f ds M=r:=by
 rw [cL hf]
 have h1:ds.length+fn.k8.length-fn.np=fn.k8.length:=by omega
 simp only [kB,h1,List.drop_length,List.append_nil,hb]
 rw [if_pos (by simp;omega)]
 exact hr
theorem iF {M:MH} {d:D} {M':MH} (h:nr M.length d=true) (ht:M'.take M.length=M):fM false M d M'=.ok d M:=by
 unfold fM;rw [if_pos ⟨rfl,ht⟩,if_pos h]
end
theorem uh {n:Nat} (h:n<=1000000):gu (n:Int)=true:=by simp only [gu,decide_eq_true_eq];omega
theorem Ck {n:Int} (h0:-1000000<=n) (h:n<=1000000):gu n=true:=by simp only [gu,decide_eq_true_eq];omega
@[simp] theorem MT {M:MH} {ds:List D}:yK M (.tup ds)=true:=rfl
@[simp] theorem MW {M:MH} {ds:List D}:yK M (.lst ds)=true:=rfl
@[simp] theorem MX {M:MH} {i:Int}:yK M (.int i)=true:=rfl
@[simp] theorem MU {M:MH} {x:Str}:yK M (.str x)=true:=rfl
@[simp] theorem okT_bl {M:MH} {b:Bool}:yK M (.bl b)=true:=rfl
@[simp] theorem MV {M:MH}:yK M .ak=true:=rfl
@[simp] theorem CO {n:Nat}:jC (n+1) (some 1) none=false:=by simp [jC,six]
@[simp] theorem CN {n:Nat}:jC (n+1+1) (some 2) none=false:=by simp [jC,six]
end Fg
end
section
namespace Fg
open PySem L2
structure Bd where
 K:W.Frag
 dk:Addr->List (Key×V)->Prop
 cls:Nat->Option Addr
 exc:Nat->Value->Prop
 MG:Nat->Option Addr
noncomputable def KTup (K:W.Frag) (a:Addr) (xs:List V):Prop :=
 ∃ (o:Obj) (its:Array Value) (n:Nat), K.lookup a=some o/\o.cls=.type "tuple"/\o.data=.seq its n/\its.size<=sizeLine/\Vals xs its.toList
noncomputable def KLst (K:W.Frag) (a:Addr) (xs:List V):Prop :=
 ∃ (o:Obj) (its:Array Value) (n:Nat), K.lookup a=some o/\o.cls=.type "list"/\o.dict=none/\o.data=.seq its n/\its.size<=sizeLine/\Vals xs its.toList
noncomputable def FzT (B:Bd) (F:Addr->Prop) (H:Hp) (a:Addr) (xs:List V):Prop:=(F a/\Rd H a (.tup xs))\/KTup B.K a xs
noncomputable def FzL (B:Bd) (F:Addr->Prop) (H:Hp) (a:Addr) (xs:List V):Prop:=(F a/\Rd H a (.lst xs))\/KLst B.K a xs
noncomputable def FzD (B:Bd) (F:Addr->Prop) (H:Hp) (a:Addr) (kvs:List (Key×V)):Prop:=(F a/\Rd H a (.dK kvs))\/B.dk a kvs
theorem FzT.sq {B:Bd} {F:Addr->Prop} {H:Hp} {a:Addr} {xs:List V} (h:FzT B F H a xs):ic B.K H a xs:=by
 rcases h with ⟨_,h⟩ | h
 ·exact .inl h
 ·exact .inr h
theorem FzL.sq {B:Bd} {F:Addr->Prop} {H:Hp} {a:Addr} {xs:List V} (h:FzL B F H a xs):fJ B.K H a xs:=by
 rcases h with ⟨_,h⟩ | h
 ·exact .inl h
 ·exact .inr h
mutual
noncomputable def RD (B:Bd) (F:Addr->Prop) (ρ:List Addr) (H:Hp):D->V->Prop
 | .ak,v=>v=.ak
 | .bl b,v=>v=.bl b
 | .int i,v=>v=.int i
 | .str x,v=>v=.str x
 | .tup ds,v=>∃ a vs,v=.ref a/\FzT B F H a vs/\aj B F ρ H ds vs
 | .lst ds,v=>∃ a vs,v=.ref a/\FzL B F H a vs/\aj B F ρ H ds vs
 | .dct ks ds,v=>∃ a kvs,v=.ref a/\FzD B F H a kvs/\kvs.map (·.1)=ks/\aj B F ρ H ds (kvs.map (·.2))
 | .ref n,v=>∃ a,ρ[n]? = some a/\v=.ref a
noncomputable def aj (B:Bd) (F:Addr->Prop) (ρ:List Addr) (H:Hp):List D->List V->Prop
 | [],vs=>vs=[]
 | d::ds,vs=>∃ v ws,vs=v::ws/\RD B F ρ H d v/\aj B F ρ H ds ws
end
structure Ext0 (F:Addr->Prop) (ρ:List Addr) (H:Hp) (F':Addr->Prop) (ρ':List Addr) (H':Hp):Prop where
 s:∀ a∈ρ,¬ F a
 f:∀ a,F a->F' a
 h:∀ a,H a≠none->a∉ρ->H' a=H a
 r:ρ <+: ρ'
 n:∀ a∈ρ',a∈ρ\/H a=none
 g:∀ a,F' a->F a\/(H a=none\/a∈ρ)
structure qH (F:Addr->Prop) (ρ:List Addr) (H:Hp) (F':Addr->Prop) (ρ':List Addr) (H':Hp):Prop where
 f:∀ a,F a->F' a
 k:∀ a,F a->H a≠none->H' a=H a
 r:ρ <+: ρ'
theorem Ext0.Jm {F F':Addr->Prop} {ρ ρ':List Addr} {H H':Hp} (e:Ext0 F ρ H F' ρ' H'):qH F ρ H F' ρ' H':=⟨e.f,fun a fa h=>e.h a h fun z=>e.s a z fa,e.r⟩
section
variable {B:Bd} {F F' F1:Addr->Prop} {ρ ρ' ρ1:List Addr} {H H' H1:Hp}
theorem D0 {a:Addr} {u:HO} (h:Rd H a u):H a≠none:=by
 rcases h with h | ⟨o,h⟩ <;> rw [h] <;> simp
theorem qH.rd (e:qH F ρ H F' ρ' H') {a:Addr} {u:HO} (f:F a) (h:Rd H a u):Rd H' a u:=by
 have q:=e.k a f (D0 h)
 rcases h with h | ⟨o,h⟩
 ·exact .inl (q.trans h)
 ·exact .inr ⟨o,q.trans h⟩
theorem qH.at (e:qH F ρ H F' ρ' H') {n:Nat} {a:Addr} (h:ρ[n]? = some a):ρ'[n]? = some a:=by
 obtain ⟨t,rfl⟩:=e.r
 have hn:n<ρ.length:=by
  rcases Nat.lt_or_ge n ρ.length with q | q
  ·exact q
  ·rw [List.getElem?_eq_none_iff.mpr q] at h;cases h
 rw [List.getElem?_append_left hn];exact h
mutual
theorem RD.aW (e:qH F ρ H F' ρ' H'):∀ (d:D) (v:V),RD B F ρ H d v->RD B F' ρ' H' d v
 | .ak,v,h=>h
 | .bl _,v,h=>h
 | .int _,v,h=>h
 | .str _,v,h=>h
 | .tup ds,v,h=>by
  simp only [RD] at h ⊢
  obtain ⟨a,vs,h1,h2,h3⟩:=h
  refine ⟨a,vs,h1,?_,aj.aW e ds vs h3⟩
  rcases h2 with ⟨f,r⟩ | h2
  ·exact .inl ⟨e.f a f,e.rd f r⟩
  ·exact .inr h2
 | .lst ds,v,h=>by
  simp only [RD] at h ⊢
  obtain ⟨a,vs,h1,h2,h3⟩:=h
  refine ⟨a,vs,h1,?_,aj.aW e ds vs h3⟩
  rcases h2 with ⟨f,r⟩ | h2
  ·exact .inl ⟨e.f a f,e.rd f r⟩
  ·exact .inr h2
 | .dct ks ds,v,h=>by
  simp only [RD] at h ⊢
  obtain ⟨a,kvs,h1,h2,h4,h3⟩:=h
  refine ⟨a,kvs,h1,?_,h4,aj.aW e ds _ h3⟩
  rcases h2 with ⟨f,r⟩ | h2
  ·exact .inl ⟨e.f a f,e.rd f r⟩
  ·exact .inr h2
 | .ref n,v,h=>by
  simp only [RD] at h ⊢
  obtain ⟨a,h1,h2⟩:=h
  exact ⟨a,e.at h1,h2⟩
theorem aj.aW (e:qH F ρ H F' ρ' H'):∀ (ds:List D) (vs:List V),aj B F ρ H ds vs->aj B F' ρ' H' ds vs
 | [],vs,h=>h
 | d::ds,vs,h=>by
  simp only [aj] at h ⊢
  obtain ⟨v,ws,h1,h2,h3⟩:=h
  exact ⟨v,ws,h1,RD.aW e d v h2,aj.aW e ds ws h3⟩
end
theorem Ext0.at (e:Ext0 F ρ H F' ρ' H') {n:Nat} {a:Addr} (h:ρ[n]? = some a):ρ'[n]? = some a:=e.Jm.at h
theorem RD.bx (e:Ext0 F ρ H F' ρ' H') (d:D) (v:V) (h:RD B F ρ H d v):RD B F' ρ' H' d v:=RD.aW e.Jm d v h
theorem aj.bx (e:Ext0 F ρ H F' ρ' H') (ds:List D) (vs:List V) (h:aj B F ρ H ds vs):aj B F' ρ' H' ds vs:=aj.aW e.Jm ds vs h
structure Ext (F:Addr->Prop) (ρ:List Addr) (H:Hp) (F':Addr->Prop) (ρ':List Addr) (H':Hp):Prop extends Ext0 F ρ H F' ρ' H' where
 z:∀ a o u,H a=some (.gk o u)->H' a=some (.gk o u)
theorem RD.mono (e:Ext F ρ H F' ρ' H') (d:D) (v:V) (h:RD B F ρ H d v):RD B F' ρ' H' d v:=RD.bx e.toExt0 d v h
theorem aj.mono (e:Ext F ρ H F' ρ' H') (ds:List D) (vs:List V) (h:aj B F ρ H ds vs):aj B F' ρ' H' ds vs:=aj.bx e.toExt0 ds vs h
theorem Ext.trans (a:Ext F ρ H F1 ρ1 H1) (b:Ext F1 ρ1 H1 F' ρ' H'):Ext F ρ H F' ρ' H' where
 s:=a.s
 f:=fun x h=>b.f x (a.f x h)
 h:=fun x h1 h2=>by
  have q:=a.h x h1 h2
  have n1:x∉ρ1:=fun z=>(a.n x z).elim h2 h1
  exact (b.h x (by rw [q];exact h1) n1).trans q
 r:=List.IsPrefix.trans a.r b.r
 n:=fun x hx=>by
  rcases b.n x hx with q | q
  ·exact a.n x q
  ·by_cases hr:x∈ρ
   ·exact .inl hr
   ·refine .inr ?_
    cases hh:H x with
    | none=>rfl
    | some u =>
     have:=a.h x (by rw [hh];simp) hr
     rw [q,hh] at this;cases this
 g:=fun x hx=>by
  rcases b.g x hx with q | q | q
  ·exact a.g x q
  ·by_cases hr:x∈ρ
   ·exact .inr (.inr hr)
   ·refine .inr (.inl ?_)
    cases hh:H x with
    | none=>rfl
    | some u =>
     have:=a.h x (by rw [hh];simp) hr
     rw [q,hh] at this;cases this
  ·rcases a.n x q with z | z
   ·exact .inr (.inr z)
   ·exact .inr (.inl z)
 z:=fun x o u h=>b.z x o u (a.z x o u h)
theorem Ext.refl (s:∀ a∈ρ,¬ F a):Ext F ρ H F ρ H:=⟨⟨s,fun _ h=>h,fun _ _ _=>rfl,List.prefix_refl _,fun _ h=>.inl h,fun _ h=>.inl h⟩,fun _ _ _ h=>h⟩
end
noncomputable def MR (B:Bd) (F:Addr->Prop) (ρ:List Addr) (H:Hp):MO->Addr->Prop
 | .lst ds,a=>∃ vs,H a=some (.lst vs)/\aj B F ρ H ds vs
 | .dct kvs,a=>∃ kws,H a=some (.dK kws)/\kws.map (·.1)=kvs.map (·.1)/\aj B F ρ H (kvs.map (·.2)) (kws.map (·.2))
 | .oH kvs,a=>∃ o kws,H a=some (.gk o (.dK kws))/\kws.map (·.1)=kvs.map (·.1)/\aj B F ρ H (kvs.map (·.2)) (kws.map (·.2))
 | .ins c fs,a=>∃ C dx fm,B.cls c=some C/\H a=some (.ins C dx fm)/\fm.map (·.1)=fs.map (·.1)/\aj B F ρ H (fs.map (·.2)) (fm.map (·.2))
theorem MR.aW {B:Bd} {F F':Addr->Prop} {ρ ρ':List Addr} {H H':Hp} (e:qH F ρ H F' ρ' H') {a:Addr} (ha:H' a=H a):∀ {o:MO},MR B F ρ H o a->MR B F' ρ' H' o a
 | .lst ds,⟨vs,h1,h2⟩=>⟨vs,ha.trans h1,aj.aW e _ _ h2⟩
 | .dct kvs,⟨kws,h1,h2,h3⟩=>⟨kws,ha.trans h1,h2,aj.aW e _ _ h3⟩
 | .oH kvs,⟨o,kws,h1,h2,h3⟩=>⟨o,kws,ha.trans h1,h2,aj.aW e _ _ h3⟩
 | .ins c fs,⟨C,dx,fm,h0,h1,h2,h3⟩=>⟨C,dx,fm,h0,ha.trans h1,h2,aj.aW e _ _ h3⟩
theorem MR.bx {B:Bd} {F F':Addr->Prop} {ρ ρ':List Addr} {H H':Hp} (e:Ext0 F ρ H F' ρ' H') {a:Addr} (ha:H' a=H a) {o:MO} (h:MR B F ρ H o a):MR B F' ρ' H' o a:=h.aW e.Jm ha
theorem MR.mono {B:Bd} {F F':Addr->Prop} {ρ ρ':List Addr} {H H':Hp} (e:Ext F ρ H F' ρ' H') {a:Addr} (ha:H' a=H a) {o:MO} (h:MR B F ρ H o a):MR B F' ρ' H' o a:=h.bx e.toExt0 ha
theorem MR.ne {B:Bd} {F:Addr->Prop} {ρ:List Addr} {H:Hp} {a:Addr}:∀ {o:MO},MR B F ρ H o a->H a≠none
 | .lst ds,⟨vs,h1,h2⟩=>by rw [h1];simp
 | .dct kvs,⟨kws,h1,_⟩=>by rw [h1];simp
 | .oH kvs,⟨o,kws,h1,_⟩=>by rw [h1];simp
 | .ins c fs,⟨C,dx,fm,_,h1,_⟩=>by rw [h1];simp
structure SR (B:Bd) (F:Addr->Prop) (ρ:List Addr) (M:MH) (H:Hp):Prop where
 len:ρ.length=M.length
 nd:ρ.Nodup
 sep:∀ a∈ρ,¬ F a
 CP:∀ a,F a->H a≠none
 obj:∀ (n:Nat) (a:Addr) (o:MO),ρ[n]? = some a->M[n]? = some o->MR B F ρ H o a
section
variable {B:Bd} {F F' F1:Addr->Prop} {ρ ρ' ρ1:List Addr} {H H' H1:Hp} {M M':MH}
theorem SR.ne (S:SR B F ρ M H) {a:Addr} (h:a∈ρ):H a≠none:=by
 obtain ⟨n,hn,e⟩:=List.mem_iff_getElem.mp h
 have hm:n<M.length:=by rw [<- S.len];exact hn
 exact (S.obj n a M[n] (by rw [List.getElem?_eq_getElem hn,e]) (List.getElem?_eq_getElem hm)).ne
theorem SR.new (S:SR B F ρ M H) {p:Addr} (h:H p=none):p∉ρ/\¬ F p:=⟨fun z=>S.ne z h,fun z=>S.CP p z h⟩
theorem SR.refl (S:SR B F ρ M H):Ext F ρ H F ρ H:=Ext.refl S.sep
theorem SR.fz (S:SR B F ρ M H) {p:Addr} (h:H p=none) (o:HO):SR B (fun a=>F a\/a=p) ρ M (upd H p o)/\Ext F ρ H (fun a=>F a\/a=p) ρ (upd H p o):=by
 obtain ⟨np,nf⟩:=S.new h
 have e:Ext F ρ H (fun a=>F a\/a=p) ρ (upd H p o):=⟨⟨S.sep,fun a q=>.inl q,fun a q _=>ao (by rintro rfl;exact q h),List.prefix_refl _,fun a q=>.inl q,fun a q=>q.elim .inl fun z=>.inr (.inl (z ▸ h))⟩,fun b w u q=>by rw [ao (by rintro rfl;rw [h] at q;cases q)];exact q⟩
 refine ⟨⟨S.len,S.nd,fun a ha z=>?_,fun a z=>?_,fun n a u h1 h2=>?_⟩,e⟩
 ·rcases z with z | z
  ·exact S.sep a ha z
  ·subst z;exact np ha
 ·by_cases q:a=p
  ·subst q;rw [ay];simp
  ·rw [ao q]
   rcases z with z | z
   ·exact S.CP a z
   ·exact absurd z q
 ·have m:=S.obj n a u h1 h2
  exact m.mono e (ao (by rintro rfl;exact m.ne h))
theorem SR.lv (S:SR B F ρ M H) {p:Addr} (h:H p=none) {o:HO} {u:MO} (hu:MR B F (ρ++[p]) (upd H p o) u p):SR B F (ρ++[p]) (M++[u]) (upd H p o)/\Ext F ρ H F (ρ++[p]) (upd H p o):=by
 obtain ⟨np,nf⟩:=S.new h
 have e:Ext F ρ H F (ρ++[p]) (upd H p o):=⟨⟨S.sep,fun a q=>q,fun a q _=>ao (by rintro rfl;exact q h),List.prefix_append _ _,fun a q=>by
  rcases List.mem_append.mp q with q | q
  ·exact .inl q
  ·rw [List.mem_singleton.mp q];exact .inr h,fun _ q=>.inl q⟩,fun b w u q=>by rw [ao (by rintro rfl;rw [h] at q;cases q)];exact q⟩
 refine ⟨⟨by simp [S.len],?_,fun a ha z=>?_,fun a z=>?_,fun n a w h1 h2=>?_⟩,e⟩
 ·rw [List.nodup_append]
  refine ⟨S.nd,by simp,fun a ha b hb=>?_⟩
  rw [List.mem_singleton.mp hb]
  rintro rfl
  exact np ha
 ·rcases List.mem_append.mp ha with q | q
  ·exact S.sep a q z
  ·rw [List.mem_singleton.mp q] at z;exact nf z
 ·have q:a≠p:=by rintro rfl;exact nf z
  rw [ao q];exact S.CP a z
 ·by_cases hn:n<ρ.length
  ·rw [List.getElem?_append_left hn] at h1
   rw [List.getElem?_append_left (by rw [<- S.len];exact hn)] at h2
   have m:=S.obj n a w h1 h2
   exact m.mono e (ao (by rintro rfl;exact m.ne h))
  ·have hn':ρ.length<=n:=Nat.le_of_not_lt hn
   rw [List.getElem?_append_right hn'] at h1
   rw [List.getElem?_append_right (by rw [<- S.len];exact hn'),<- S.len] at h2
   cases k:n-ρ.length with
   | zero =>
    rw [k] at h1 h2
    cases h1;cases h2
    exact hu
   | succ j=>rw [k] at h1;simp at h1
theorem SR.jM (S:SR B F ρ M H) {n:Nat} {a:Addr} {o:HO} {u:MO} (hn:ρ[n]? = some a) (hu:MR B F ρ (upd H a o) u a):SR B F ρ (M.set n u) (upd H a o)/\Ext0 F ρ H F ρ (upd H a o):=by
 have ha:a∈ρ:=List.mem_of_getElem? hn
 have e:Ext0 F ρ H F ρ (upd H a o):=⟨S.sep,fun _ q=>q,fun b q nb=>ao (by rintro rfl;exact nb ha),List.prefix_refl _,fun _ q=>.inl q,fun _ q=>.inl q⟩
 refine ⟨⟨by simp [S.len],S.nd,S.sep,fun b z=>?_,fun m b w h1 h2=>?_⟩,e⟩
 ·have q:b≠a:=by rintro rfl;exact S.sep b ha z
  rw [ao q];exact S.CP b z
 ·by_cases q:m=n
  ·subst q
   rw [hn] at h1;cases h1
   rw [List.getElem?_set] at h2
   split at h2
   ·split at h2
    ·cases h2;exact hu
    ·cases h2
   ·rename_i z;exact absurd rfl z
  ·rw [List.getElem?_set_ne (Ne.symm q)] at h2
   have ne:b≠a:=by
    rintro rfl
    obtain ⟨m1,e1⟩:=List.getElem?_eq_some_iff.mp h1
    obtain ⟨m2,e2⟩:=List.getElem?_eq_some_iff.mp hn
    exact q ((List.getElem_inj S.nd).mp (e1.trans e2.symm))
   exact (S.obj m b w h1 h2).bx e (ao ne)
theorem SR.st (S:SR B F ρ M H) {n:Nat} {a:Addr} {o:HO} {u:MO} (hn:ρ[n]? = some a) (hz:∀ w v,H a≠some (.gk w v)) (hu:MR B F ρ (upd H a o) u a):SR B F ρ (M.set n u) (upd H a o)/\Ext F ρ H F ρ (upd H a o) :=
 ⟨(S.jM hn hu).1,⟨(S.jM hn hu).2,fun b w v q=>by rw [ao (by rintro rfl;exact hz w v q)];exact q⟩⟩
theorem Ext0.at_ (S:SR B F ρ M H) {n:Nat} {a:Addr} {o:HO} (hn:ρ[n]? = some a):Ext0 F ρ H F ρ (upd H a o) :=
 ⟨S.sep,fun _ q=>q,fun b q nb=>ao (by rintro rfl;exact nb (List.mem_of_getElem? hn)),List.prefix_refl _,fun _ q=>.inl q,fun _ q=>.inl q⟩
theorem qH.side {D:Addr} (hF:¬ F D) (o:HO):qH F ρ H F ρ (upd H D o):=⟨fun _ h=>h,fun a fa _=>ao (by rintro rfl;exact hF fa),List.prefix_refl _⟩
theorem SR.side (S:SR B F ρ M H) {D:Addr} (hD:D∉ρ) (hF:¬ F D) (o:HO):SR B F ρ M (upd H D o) :=
 ⟨S.len,S.nd,S.sep,fun a fa=>by rw [ao (by rintro rfl;exact hF fa)];exact S.CP a fa,fun n a w h1 h2=>(S.obj n a w h1 h2).aW (qH.side hF o) (ao (by rintro rfl;exact hD (List.mem_of_getElem? h1)))⟩
theorem SR.take (S:SR B F ρ M H) {D:Addr} (hD:D∉ρ) (hn:H D≠none):SR B (fun a=>F a\/a=D) ρ M H :=
 ⟨S.len,S.nd,fun a ha z=>z.elim (S.sep a ha) fun e=>hD (e ▸ ha),fun a z=>z.elim (S.CP a) fun e=>e ▸ hn,fun n a w h1 h2=>(S.obj n a w h1 h2).aW ⟨fun _ h=>.inl h,fun _ _ _=>rfl,List.prefix_refl _⟩ rfl⟩
theorem SR.hold (S:SR B F ρ M H) {D:Addr} {u:MO} (hD:D∉ρ) (hF:¬ F D) (hu:MR B F (ρ++[D]) H u D):SR B F (ρ++[D]) (M++[u]) H:=by
 refine ⟨by simp [S.len],?_,fun a ha z=>?_,S.CP,fun n a w h1 h2=>?_⟩
 ·rw [List.nodup_append]
  refine ⟨S.nd,by simp,fun a ha b hb=>?_⟩
  rw [List.mem_singleton.mp hb]
  rintro rfl
  exact hD ha
 ·rcases List.mem_append.mp ha with q | q
  ·exact S.sep a q z
  ·rw [List.mem_singleton.mp q] at z;exact hF z
 ·by_cases hn:n<ρ.length
  ·rw [List.getElem?_append_left hn] at h1
   rw [List.getElem?_append_left (by rw [<- S.len];exact hn)] at h2
   exact (S.obj n a w h1 h2).aW ⟨fun _ h=>h,fun _ _ _=>rfl,List.prefix_append _ _⟩ rfl
  ·have hn':ρ.length<=n:=Nat.le_of_not_lt hn
   rw [List.getElem?_append_right hn'] at h1
   rw [List.getElem?_append_right (by rw [<- S.len];exact hn'),<- S.len] at h2
   cases k:n-ρ.length with
   | zero =>
    rw [k] at h1 h2
    cases h1;cases h2
    exact hu
   | succ j=>rw [k] at h1;simp at h1
theorem SR.wk (S:SR B F ρ M H) {n:Nat} {a:Addr} {kvs:List (Ky×D)} {kws:List (Key×V)} (o:Obj) (hn:ρ[n]? = some a) (hM:M[n]? = some (.dct kvs)) (hH:H a=some (.dK kws)) :
  SR B F ρ (M.set n (.oH kvs)) (upd H a (.gk o (.dK kws)))/\Ext F ρ H F ρ (upd H a (.gk o (.dK kws))):=by
 obtain ⟨kws',h1,h2,h3⟩:=S.obj n a _ hn hM
 rw [hH] at h1;cases h1
 exact S.st (o:=.gk o (.dK kws)) (u:=.oH kvs) hn (fun w v q=>by rw [hH] at q;cases q) ⟨o,kws,ay,h2,aj.bx (Ext0.at_ S hn) _ _ h3⟩
theorem SR.uw (S:SR B F ρ M H) {n:Nat} {a:Addr} {kvs:List (Ky×D)} (hn:ρ[n]? = some a) (hM:M[n]? = some (.oH kvs)):∃ o kws,H a=some (.gk o (.dK kws)) /\
  SR B F ρ (M.set n (.dct kvs)) (upd H a (.dK kws)):=by
 obtain ⟨o,kws,h1,h2,h3⟩:=S.obj n a _ hn hM
 exact ⟨o,kws,h1,(S.jM (o:=.dK kws) (u:=.dct kvs) hn ⟨kws,ay,h2,aj.bx (Ext0.at_ S hn) _ _ h3⟩).1⟩
theorem Ext.thaw (e:Ext F ρ H F' ρ' H') {a:Addr} {o:HO} (ha:a∈ρ') (hn:∀ w v,H a≠some (.gk w v)) (hF:∀ b∈ρ',¬ F' b):Ext F ρ H F' ρ' (upd H' a o) :=
 ⟨⟨e.s,e.f,fun b q nb=>by
  by_cases hb:b=a
  ·subst hb
   rcases e.n b ha with z | z
   ·exact absurd z nb
   ·exact absurd z q
  ·rw [ao hb];exact e.h b q nb,e.r,e.n,e.g⟩,fun b w v q=>by rw [ao (by rintro rfl;exact hn w v q)];exact e.z b w v q⟩
end
section
variable {B:Bd} {F F' F1:Addr->Prop} {ρ ρ' ρ1:List Addr} {H H' H1:Hp} {M M':MH}
theorem aj.length:∀ {ds:List D} {vs:List V},aj B F ρ H ds vs->ds.length=vs.length
 | [],vs,h=>by simp only [aj] at h;subst h;rfl
 | d::ds,vs,h=>by
  simp only [aj] at h
  obtain ⟨v,ws,rfl,_,h3⟩:=h
  simp [aj.length h3]
theorem aj.cons {d:D} {v:V} {ds:List D} {vs:List V} (h:RD B F ρ H d v) (t:aj B F ρ H ds vs):aj B F ρ H (d::ds) (v::vs):=by
 simp only [aj];exact ⟨v,vs,rfl,h,t⟩
theorem aj.nil:aj B F ρ H [] []:=by simp only [aj]
theorem aj.append:∀ {ds es:List D} {vs ws:List V},aj B F ρ H ds vs->aj B F ρ H es ws->aj B F ρ H (ds++es) (vs++ws)
 | [],es,vs,ws,h,t=>by simp only [aj] at h;subst h;exact t
 | d::ds,es,vs,ws,h,t=>by
  simp only [aj] at h
  obtain ⟨v,us,rfl,h2,h3⟩:=h
  exact aj.cons h2 (aj.append h3 t)
theorem aj.get:∀ {ds:List D} {vs:List V} {i:Nat} {d:D},aj B F ρ H ds vs->ds[i]? = some d->∃ v,vs[i]? = some v/\RD B F ρ H d v
 | [],vs,i,d,h,e=>by simp at e
 | d::ds,vs,i,d',h,e=>by
  simp only [aj] at h
  obtain ⟨v,ws,rfl,h2,h3⟩:=h
  cases i with
  | zero=>simp at e;subst e;exact ⟨v,rfl,h2⟩
  | succ i=>simp at e;simpa using aj.get (i:=i) h3 e
theorem aj.take:∀ {ds:List D} {vs:List V} (n:Nat),aj B F ρ H ds vs->aj B F ρ H (ds.take n) (vs.take n)
 | [],vs,n,h=>by simp only [aj] at h;subst h;simp [aj]
 | d::ds,vs,n,h=>by
  simp only [aj] at h
  obtain ⟨v,ws,rfl,h2,h3⟩:=h
  cases n with
  | zero=>simp [aj]
  | succ n=>simp only [List.take_succ_cons];exact aj.cons h2 (aj.take n h3)
theorem aj.drop:∀ {ds:List D} {vs:List V} (n:Nat),aj B F ρ H ds vs->aj B F ρ H (ds.drop n) (vs.drop n)
 | [],vs,n,h=>by simp only [aj] at h;subst h;simp [aj]
 | d::ds,vs,n,h=>by
  cases n with
  | zero=>exact h
  | succ n =>
   simp only [aj] at h
   obtain ⟨v,ws,rfl,h2,h3⟩:=h
   simp only [List.drop_succ_cons];exact aj.drop n h3
theorem aj.set:∀ {ds:List D} {vs:List V} {d:D} {v:V} (i:Nat),aj B F ρ H ds vs->RD B F ρ H d v->aj B F ρ H (ds.set i d) (vs.set i v)
 | [],vs,d,v,i,h,q=>by simp only [aj] at h;subst h;simp [aj]
 | e::ds,vs,d,v,i,h,q=>by
  simp only [aj] at h
  obtain ⟨u,ws,rfl,h2,h3⟩:=h
  cases i with
  | zero=>simp only [List.set_cons_zero];exact aj.cons q h3
  | succ i=>simp only [List.set_cons_succ];exact aj.cons h2 (aj.set i h3 q)
mutual
theorem RD.nr:∀ {d:D} {v:V},RD B F ρ H d v->nr ρ.length d=true
 | .ak,v,h=>by simp [Fg.nr]
 | .bl _,v,h=>by simp [Fg.nr]
 | .int _,v,h=>by simp [Fg.nr]
 | .str _,v,h=>by simp [Fg.nr]
 | .tup ds,v,h=>by simp only [RD] at h;obtain ⟨a,vs,h1,h2,h3⟩:=h;simp only [Fg.nr];exact aj.nr h3
 | .lst ds,v,h=>by simp only [RD] at h;obtain ⟨a,vs,h1,h2,h3⟩:=h;simp only [Fg.nr];exact aj.nr h3
 | .dct ks ds,v,h=>by simp only [RD] at h;obtain ⟨a,vs,h1,h2,_,h3⟩:=h;simp only [Fg.nr];exact aj.nr h3
 | .ref n,v,h=>by
  simp only [RD] at h;obtain ⟨a,h1,h2⟩:=h;simp only [Fg.nr]
  obtain ⟨q,_⟩:=List.getElem?_eq_some_iff.mp h1
  exact decide_eq_true q
theorem aj.nr:∀ {ds:List D} {vs:List V},aj B F ρ H ds vs->cG ρ.length ds=true
 | [],vs,h=>by simp [cG]
 | d::ds,vs,h=>by
  simp only [aj] at h
  obtain ⟨v,ws,rfl,h2,h3⟩:=h
  simp only [cG,RD.nr h2,aj.nr h3,Bool.and_self]
end
mutual
theorem RD.cut (hp:ρ <+: ρ'):∀ {d:D} {v:V},Fg.nr ρ.length d=true->RD B F ρ' H d v->RD B F ρ H d v
 | .ak,v,_,h=>h
 | .bl _,v,_,h=>h
 | .int _,v,_,h=>h
 | .str _,v,_,h=>h
 | .tup ds,v,q,h=>by
  simp only [Fg.nr] at q;simp only [RD] at h ⊢
  obtain ⟨a,vs,h1,h2,h3⟩:=h
  exact ⟨a,vs,h1,h2,aj.cut hp q h3⟩
 | .lst ds,v,q,h=>by
  simp only [Fg.nr] at q;simp only [RD] at h ⊢
  obtain ⟨a,vs,h1,h2,h3⟩:=h
  exact ⟨a,vs,h1,h2,aj.cut hp q h3⟩
 | .dct ks ds,v,q,h=>by
  simp only [Fg.nr] at q;simp only [RD] at h ⊢
  obtain ⟨a,vs,h1,h2,h4,h3⟩:=h
  exact ⟨a,vs,h1,h2,h4,aj.cut hp q h3⟩
 | .ref n,v,q,h=>by
  simp only [Fg.nr] at q;simp only [RD] at h ⊢
  obtain ⟨a,h1,h2⟩:=h
  obtain ⟨t,rfl⟩:=hp
  rw [List.getElem?_append_left (of_decide_eq_true q)] at h1
  exact ⟨a,h1,h2⟩
theorem aj.cut (hp:ρ <+: ρ'):∀ {ds:List D} {vs:List V},cG ρ.length ds=true->aj B F ρ' H ds vs->aj B F ρ H ds vs
 | [],vs,_,h=>h
 | d::ds,vs,q,h=>by
  simp only [cG,Bool.and_eq_true] at q;simp only [aj] at h ⊢
  obtain ⟨v,ws,rfl,h2,h3⟩:=h
  exact ⟨v,ws,rfl,RD.cut hp q.1 h2,aj.cut hp q.2 h3⟩
end
theorem MR.cut (hp:ρ <+: ρ') {a:Addr} {F0:Addr->Prop} {H0:Hp} {a0:Addr}:∀ {o:MO},MR B F0 ρ H0 o a0->MR B F ρ' H o a->MR B F ρ H o a
 | .lst ds,⟨_,_,k⟩,⟨vs,h1,h2⟩=>⟨vs,h1,aj.cut hp (aj.nr k) h2⟩
 | .dct kvs,⟨_,_,_,k⟩,⟨kws,h1,h2,h3⟩=>⟨kws,h1,h2,aj.cut hp (aj.nr k) h3⟩
 | .oH kvs,⟨_,_,_,_,k⟩,⟨o,kws,h1,h2,h3⟩=>⟨o,kws,h1,h2,aj.cut hp (aj.nr k) h3⟩
 | .ins c fs,⟨_,_,_,_,_,_,k⟩,⟨C,dx,fm,h0,h1,h2,h3⟩=>⟨C,dx,fm,h0,h1,h2,aj.cut hp (aj.nr k) h3⟩
theorem SR.cut (S:SR B F ρ M H) (S':SR B F' ρ' M' H') (e:Ext F ρ H F' ρ' H') (hm:M'.take M.length=M):SR B F' ρ M H' where
 len:=S.len
 nd:=S.nd
 sep:=fun a ha=>S'.sep a (e.r.subset ha)
 CP:=S'.CP
 obj:=fun n a o h1 h2=>by
  have m':M'[n]? = some o:=by
   rw [<- hm] at h2
   rw [List.getElem?_take] at h2
   split at h2
   ·exact h2
   ·cases h2
  exact MR.cut e.r (S.obj n a o h1 h2) (S'.obj n a o (e.at h1) m')
theorem Ext.cut (e:Ext F ρ H F' ρ' H'):Ext F ρ H F' ρ H':=⟨⟨e.s,e.f,e.h,List.prefix_refl _,fun _ h=>.inl h,e.g⟩,e.z⟩
end
end Fg
end
section
namespace Fg
open PySem L2
noncomputable def AY (th:Addr->Prop) (H H':Hp):Prop:=H'=H\/∃ a o kvs,th a/\H a=some (.gk o (.dK kvs))/\H'=upd H a (.dK kvs)
noncomputable abbrev XS:=Value->Option Addr->St->Hp->Prop
structure Gx where
 e:XS
 th:Addr->Prop
 cl:∀ cv x σ H H',AY th H H'->e cv x σ H'->e cv x σ H
noncomputable def ah {α β:Type} (rel:(Addr->Prop)->List Addr->Hp->α->β->Prop) (B:Bd) (r:R α) (F:Addr->Prop) (ρ:List Addr) (H:Hp) (Q:β->Hp->Prop) (E:XK):Prop :=
 match r with
 | .ok d M'=>∀ F' ρ' H' v,Ext F ρ H F' ρ' H'->SR B F' ρ' M' H'->rel F' ρ' H' d v->Q v H'
 | .exc c M'=>∀ F' ρ' H' cv x,Ext F ρ H F' ρ' H'->SR B F' ρ' M' H'->B.exc c cv->E cv x H'
 | .bad=>False
noncomputable abbrev Post (B:Bd):=ah (RD B) B
noncomputable abbrev Mv (B:Bd):=ah (aj B) B
section
variable {B:Bd} {F F' F1:Addr->Prop} {ρ ρ' ρ1:List Addr} {H H' H1:Hp} {M M':MH} {E:XK}
theorem ah.weak {α β:Type} {rel:(Addr->Prop)->List Addr->Hp->α->β->Prop} {r:R α} {Q:β->Hp->Prop} (e:Ext F ρ H F1 ρ1 H1) (h:ah rel B r F ρ H Q E):ah rel B r F1 ρ1 H1 Q E:=by
 cases r with
 | ok d M'=>exact fun F' ρ' H' v e' S r=>h F' ρ' H' v (e.trans e') S r
 | exc c M'=>exact fun F' ρ' H' cv x e' S r=>h F' ρ' H' cv x (e.trans e') S r
 | bad=>exact h
theorem ah.imp {α β:Type} {rel:(Addr->Prop)->List Addr->Hp->α->β->Prop} {r:R α} {Q Q':β->Hp->Prop} (h:ah rel B r F ρ H Q E) (k:∀ v H',Q v H'->Q' v H'):ah rel B r F ρ H Q' E:=by
 cases r with
 | ok d M'=>exact fun F' ρ' H' v e' S r=>k _ _ (h F' ρ' H' v e' S r)
 | exc c M'=>exact h
 | bad=>exact h
theorem ah.bind {α β α' β':Type} {rel:(Addr->Prop)->List Addr->Hp->α->β->Prop} {rel':(Addr->Prop)->List Addr->Hp->α'->β'->Prop} {x:R α} {f:α->MH->R α'} {Q:β'->Hp->Prop} (h:ah rel' B (x.bind f) F ρ H Q E) :
  ah rel B x F ρ H (fun v H'=>∃ d M' F' ρ',Ext F ρ H F' ρ' H'/\SR B F' ρ' M' H'/\rel F' ρ' H' d v/\ah rel' B (f d M') F' ρ' H' Q E) E:=by
 cases x with
 | ok d M'=>exact fun F' ρ' H' v e S r=>⟨d,M',F',ρ',e,S,r,ah.weak e h⟩
 | exc c M'=>exact h
 | bad=>exact h
theorem ah.run {α β:Type} {rel:(Addr->Prop)->List Addr->Hp->α->β->Prop} {d:α} {Q:β->Hp->Prop} {v:β} (h:ah rel B (.ok d M) F ρ H Q E) (S:SR B F ρ M H) (r:rel F ρ H d v):Q v H :=
 h F ρ H v S.refl S r
end
structure RS (B:Bd) (F:Addr->Prop) (ρ:List Addr) (H:Hp) (σD:Sg) (σ:St):Prop where
 len:σ.length=σD.length
 get:∀ (i:Nat) (d:D),σD[i]? = some (some d)->∃ v,σ[i]? = some (some v)/\RD B F ρ H d v
section
variable {B:Bd} {F F' F1:Addr->Prop} {ρ ρ' ρ1:List Addr} {H H' H1:Hp} {M M':MH} {σD:Sg} {σ:St}
theorem RS.mono (e:Ext F ρ H F' ρ' H') (h:RS B F ρ H σD σ):RS B F' ρ' H' σD σ :=
 ⟨h.len,fun i d q=>let ⟨v,h1,h2⟩:=h.get i d q;⟨v,h1,RD.mono e d v h2⟩⟩
theorem RS.set (h:RS B F ρ H σD σ) {d:D} {v:V} (r:RD B F ρ H d v) (i:Nat):RS B F ρ H (σD.set i (some d)) (σ.set i (some v)):=by
 refine ⟨by simp [h.len],fun j d' q=>?_⟩
 rw [List.getElem?_set] at q ⊢
 split at q
 ·rename_i e
  split at q
  ·rename_i l
   cases q
   refine ⟨v,?_,r⟩
   rw [if_pos e,if_pos (by rw [h.len];exact l)]
  ·cases q
 ·rename_i e
  rw [if_neg e]
  exact h.get j d' q
end
noncomputable def T (B:Bd) (Φ:bz) (E:Gx) (c:Fg.E):TE:=fun σ H Q=>∃ (σD:Sg) (M:MH) (F:Addr->Prop) (ρ:List Addr),
 SR B F ρ M H/\RS B F ρ H σD σ/\Post B (ev Φ c σD M) F ρ H Q (fun cv x H'=>E.e cv x σ H')
noncomputable def TB (B:Bd) (Φ:bz) (E:Gx) (c:Fg.E):TT:=fun σ H Q=>T B Φ E c σ H fun v H'=>∃ b,v=.bl b/\Q b H'
noncomputable def TL (B:Bd) (Φ:bz) (E:Gx) (c:Es):TA:=fun σ H Q=>∃ (σD:Sg) (M:MH) (F:Addr->Prop) (ρ:List Addr),
 SR B F ρ M H/\RS B F ρ H σD σ/\Mv B (cZ Φ c σD M) F ρ H Q (fun cv x H'=>E.e cv x σ H')
noncomputable def TP (B:Bd) (Φ:bz) (E:Gx) (c:O):TO:=fun σ H Q=>∃ (σD:Sg) (M:MH) (F:Addr->Prop) (ρ:List Addr),
 SR B F ρ M H/\RS B F ρ H σD σ/\ah (fun _ _ _ (a b:Option Int)=>a=b) B (CY Φ c σD M) F ρ H Q (fun cv x H'=>E.e cv x σ H')
section
variable {B:Bd} {Φ:bz} {E:Gx} {F F' F1:Addr->Prop} {ρ ρ' ρ1:List Addr} {H H' H1:Hp} {M M':MH} {σD:Sg} {σ:St} {Q:VK}
theorem T.one {a:Fg.E} {g:D->MH->R D} {W:V->Hp->Prop} {X:XK} (S:SR B F ρ M H) (r:RS B F ρ H σD σ) (hX:X=fun cv x H'=>E.e cv x σ H') (h:Post B ((ev Φ a σD M).bind g) F ρ H Q X)
  (k:∀ x M1 F1 ρ1 H1 v,Ext F ρ H F1 ρ1 H1->SR B F1 ρ1 M1 H1->RS B F1 ρ1 H1 σD σ->RD B F1 ρ1 H1 x v->Post B (g x M1) F1 ρ1 H1 Q X->W v H1):T B Φ E a σ H W:=by
 subst hX
 refine ⟨σD,M,F,ρ,S,r,ah.imp (ah.bind (rel:=RD B) h) fun v H1 ⟨x,M1,F1,ρ1,e,S1,rx,h1⟩=>?_⟩
 exact k x M1 F1 ρ1 H1 v e S1 (r.mono e) rx h1
theorem T.two {a b:Fg.E} {g:D->D->MH->R D} {W:V->V->Hp->Prop} {X:XK} (S:SR B F ρ M H) (r:RS B F ρ H σD σ) (hX:X=fun cv x H'=>E.e cv x σ H')
  (h:Post B ((ev Φ a σD M).bind fun x M1=>(ev Φ b σD M1).bind fun y M2=>g x y M2) F ρ H Q X)
  (k:∀ x y M2 F2 ρ2 H2 v w,SR B F2 ρ2 M2 H2->RS B F2 ρ2 H2 σD σ->RD B F2 ρ2 H2 x v->RD B F2 ρ2 H2 y w->Post B (g x y M2) F2 ρ2 H2 Q X->W v w H2) :
  T B Φ E a σ H fun v H1=>T B Φ E b σ H1 fun w H2=>W v w H2:=by
 refine T.one S r hX h fun x M1 F1 ρ1 H1 v e1 S1 r1 rx h1=>?_
 refine T.one S1 r1 hX h1 fun y M2 F2 ρ2 H2 w e2 S2 r2 ry h2=>?_
 exact k x y M2 F2 ρ2 H2 v w S2 r2 (RD.mono e2 _ _ rx) ry h2
theorem TL.one {a:Es} {g:List D->MH->R D} {W:List V->Hp->Prop} {X:XK} (S:SR B F ρ M H) (r:RS B F ρ H σD σ) (hX:X=fun cv x H'=>E.e cv x σ H') (h:Post B ((cZ Φ a σD M).bind g) F ρ H Q X)
  (k:∀ x M1 F1 ρ1 H1 v,Ext F ρ H F1 ρ1 H1->SR B F1 ρ1 M1 H1->RS B F1 ρ1 H1 σD σ->aj B F1 ρ1 H1 x v->Post B (g x M1) F1 ρ1 H1 Q X->W v H1):TL B Φ E a σ H W:=by
 subst hX
 refine ⟨σD,M,F,ρ,S,r,ah.imp (ah.bind (rel:=aj B) h) fun v H1 ⟨x,M1,F1,ρ1,e,S1,rx,h1⟩=>?_⟩
 exact k x M1 F1 ρ1 H1 v e S1 (r.mono e) rx h1
theorem JV {i:Nat} (h:T B Φ E (.v i) σ H Q):JE i σ H Q:=by
 obtain ⟨σD,M,F,ρ,S,r,h⟩:=h
 simp only [ev] at h
 split at h
 ·rename_i d hd
  obtain ⟨v,h1,h2⟩:=r.get _ _ hd
  exact ⟨v,h1,ah.run h S h2⟩
 ·exact h.elim
noncomputable def scl:D->Option V
 | .ak=>some .ak
 | .bl b=>some (.bl b)
 | .int i=>some (.int i)
 | .str x=>some (.str x)
 | _=>none
theorem FH {d:D} {v:V} (h:scl d=some v):RD B F ρ H d v:=by
 cases d <;> simp only [scl] at h <;> first | (cases h;simp only [RD]) | cases h
theorem tN {d:D} {v:V} (hv:scl d=some v) (h:T B Φ E (.k d) σ H Q):tC v σ H Q:=by
 obtain ⟨σD,M,F,ρ,S,r,h⟩:=h
 simp only [ev] at h
 exact ah.run h S (FH hv)
theorem cR {fz:Bool} {ds:List D} {vs:List V} {X:XK} (S:SR B F ρ M H) (h:Post B (cH fz ds M) F ρ H Q X) (r:aj B F ρ H ds vs):∀ p,H p=none->Q (.ref p) (upd H p (.lst vs)):=by
 intro p hp
 cases fz with
 | true =>
  simp only [cH,if_true] at h
  obtain ⟨S',e⟩:=S.fz hp (.lst vs)
  refine h _ _ _ _ e S' ?_
  simp only [RD]
  exact ⟨p,vs,rfl,.inl ⟨.inr rfl,.inl ay⟩,aj.mono e _ _ r⟩
 | false =>
  simp only [cH,Bool.false_eq_true,if_false] at h
  have e0:Ext F ρ H F (ρ++[p]) (upd H p (.lst vs)):=⟨⟨S.sep,fun _ q=>q,fun a q _=>ao (by rintro rfl;exact q hp),List.prefix_append _ _,fun a q=>by
   rcases List.mem_append.mp q with q | q
   ·exact .inl q
   ·rw [List.mem_singleton.mp q];exact .inr hp,fun _ q=>.inl q⟩,fun b w u q=>by rw [ao (by rintro rfl;rw [hp] at q;cases q)];exact q⟩
  obtain ⟨S',e⟩:=S.lv (o:=.lst vs) (u:=.lst ds) hp ⟨vs,ay,aj.mono e0 _ _ r⟩
  refine h _ _ _ _ e S' ?_
  simp only [RD]
  refine ⟨p,?_,rfl⟩
  rw [<- S.len,List.getElem?_append_right (Nat.le_refl _),Nat.sub_self];rfl
theorem jV {ds:List D} {vs:List V} {X:XK} (S:SR B F ρ M H) (h:Post B (.ok (.tup ds) M) F ρ H Q X) (r:aj B F ρ H ds vs):∀ p,H p=none->Q (.ref p) (upd H p (.tup vs)):=by
 intro p hp
 obtain ⟨S',e⟩:=S.fz hp (.tup vs)
 refine h _ _ _ _ e S' ?_
 simp only [RD]
 exact ⟨p,vs,rfl,.inl ⟨.inr rfl,.inl ay⟩,aj.mono e _ _ r⟩
theorem Bh {es:Es} (hz:∀ {σ:Sg} {M:MH} {ds M'},cZ Φ es σ M=.ok ds M'->ds.length<=sizeLine) (h:T B Φ E (.tup es) σ H Q):JF (TL B Φ E es) σ H Q:=by
 obtain ⟨σD,M,F,ρ,S,r,h⟩:=h
 simp only [ev] at h
 refine ⟨σD,M,F,ρ,S,r,?_⟩
 cases hx:cZ Φ es σD M with
 | ok ds M1 =>
  rw [hx] at h
  intro F1 ρ1 H1 vs e S1 rv
  refine ⟨by rw [<- aj.length rv];exact hz hx,jV (X:=fun cv x H'=>E.e cv x σ H') S1 (ah.weak e h) rv⟩
 | exc c M1=>rw [hx] at h;exact h
 | bad=>rw [hx] at h;exact h
theorem Bu {fz:Bool} {es:Es} (hz:∀ {σ:Sg} {M:MH} {ds M'},cZ Φ es σ M=.ok ds M'->ds.length<=sizeLine) (h:T B Φ E (.lst fz es) σ H Q):JM (TL B Φ E es) σ H Q:=by
 obtain ⟨σD,M,F,ρ,S,r,h⟩:=h
 simp only [ev] at h
 refine ⟨σD,M,F,ρ,S,r,?_⟩
 cases hx:cZ Φ es σD M with
 | ok ds M1 =>
  rw [hx] at h
  intro F1 ρ1 H1 vs e S1 rv
  refine ⟨by rw [<- aj.length rv];exact hz hx,cR (X:=fun cv x H'=>E.e cv x σ H') S1 (ah.weak e h) rv⟩
 | exc c M1=>rw [hx] at h;exact h
 | bad=>rw [hx] at h;exact h
theorem iB {Q:List V->Hp->Prop} (h:TL B Φ E .nil σ H Q):iy σ H Q:=by
 obtain ⟨σD,M,F,ρ,S,r,h⟩:=h
 simp only [cZ] at h
 exact ah.run h S aj.nil
theorem xY {e:Fg.E} {es:Es} {Q:List V->Hp->Prop} (h:TL B Φ E (.cons e es) σ H Q):bQ (T B Φ E e) (TL B Φ E es) σ H Q:=by
 obtain ⟨σD,M,F,ρ,S,r,h⟩:=h
 simp only [cZ] at h
 refine ⟨σD,M,F,ρ,S,r,ah.imp (ah.bind (rel:=RD B) h) fun v H1 ⟨x,M1,F1,ρ1,e1,S1,rx,h1⟩=>?_⟩
 refine ⟨σD,M1,F1,ρ1,S1,r.mono e1,ah.imp (ah.bind (rel:=aj B) h1) fun vs H2 ⟨xs,M2,F2,ρ2,e2,S2,rxs,h2⟩=>?_⟩
 exact ah.run h2 S2 (aj.cons (RD.mono e2 _ _ rx) rxs)
theorem tS {a b:Fg.E} (h:T B Φ E (.and a b) σ H Q):DT (T B Φ E a) (T B Φ E b) σ H Q:=by
 obtain ⟨σD,M,F,ρ,S,r,h⟩:=h
 simp only [ev] at h
 refine T.one S r rfl h fun x M1 F1 ρ1 H1 v e1 S1 r1 rx h1=>?_
 split at h1
 ·simp only [RD] at rx;subst rx
  exact ⟨true,rfl,by rw [if_pos rfl];exact ⟨σD,M1,F1,ρ1,S1,r1,h1⟩⟩
 ·simp only [RD] at rx;subst rx
  exact ⟨false,rfl,by rw [if_neg Bool.false_ne_true];exact ah.run h1 S1 (by simp only [RD])⟩
 ·exact h1.elim
theorem xX {a b:Fg.E} (h:T B Φ E (.or a b) σ H Q):JJ (T B Φ E a) (T B Φ E b) σ H Q:=by
 obtain ⟨σD,M,F,ρ,S,r,h⟩:=h
 simp only [ev] at h
 refine T.one S r rfl h fun x M1 F1 ρ1 H1 v e1 S1 r1 rx h1=>?_
 split at h1
 ·simp only [RD] at rx;subst rx
  exact ⟨true,rfl,by rw [if_pos rfl];exact ah.run h1 S1 (by simp only [RD])⟩
 ·simp only [RD] at rx;subst rx
  exact ⟨false,rfl,by rw [if_neg Bool.false_ne_true];exact ⟨σD,M1,F1,ρ1,S1,r1,h1⟩⟩
 ·exact h1.elim
theorem Bq {a:Fg.E} (h:T B Φ E (.not a) σ H Q):JK (T B Φ E a) σ H Q:=by
 obtain ⟨σD,M,F,ρ,S,r,h⟩:=h
 simp only [ev] at h
 refine T.one S r rfl h fun x M1 F1 ρ1 H1 v e1 S1 r1 rx h1=>?_
 split at h1
 ·simp only [RD] at rx;subst rx
  exact ⟨_,rfl,ah.run h1 S1 (by simp only [RD])⟩
 ·exact h1.elim
theorem x9 {a b:Fg.E} {Q:Bool->Hp->Prop} (h:TB B Φ E (.and a b) σ H Q):JQ (TB B Φ E a) (TB B Φ E b) σ H Q:=by
 have h':=tS h
 obtain ⟨σD,M,F,ρ,S,r,h⟩:=h'
 refine ⟨σD,M,F,ρ,S,r,ah.imp h fun v H' ⟨c,e,q⟩=>⟨c,e,?_⟩⟩
 cases c with
 | true=>rw [if_pos rfl] at q ⊢;exact q
 | false=>rw [if_neg Bool.false_ne_true] at q ⊢;obtain ⟨b,e,q⟩:=q;cases e;exact q
theorem BC {a b:Fg.E} {Q:Bool->Hp->Prop} (h:TB B Φ E (.or a b) σ H Q):tOr (TB B Φ E a) (TB B Φ E b) σ H Q:=by
 have h':=xX h
 obtain ⟨σD,M,F,ρ,S,r,h⟩:=h'
 refine ⟨σD,M,F,ρ,S,r,ah.imp h fun v H' ⟨c,e,q⟩=>⟨c,e,?_⟩⟩
 cases c with
 | true=>rw [if_pos rfl] at q ⊢;obtain ⟨b,e,q⟩:=q;cases e;exact q
 | false=>rw [if_neg Bool.false_ne_true] at q ⊢;exact q
theorem xZ {a:Fg.E} {Q:Bool->Hp->Prop} (h:TB B Φ E (.not a) σ H Q):JL (TB B Φ E a) σ H Q:=by
 have h':=Bq h
 obtain ⟨σD,M,F,ρ,S,r,h⟩:=h'
 refine ⟨σD,M,F,ρ,S,r,ah.imp h fun v H' ⟨c,e,q⟩=>⟨c,e,?_⟩⟩
 obtain ⟨b,e,q⟩:=q;cases e;exact q
theorem Bx {c a b:Fg.E} (h:T B Φ E (.AU c a b) σ H Q):tIf (TB B Φ E c) (T B Φ E a) (T B Φ E b) σ H Q:=by
 obtain ⟨σD,M,F,ρ,S,r,h⟩:=h
 simp only [ev] at h
 refine T.one S r rfl h fun x M1 F1 ρ1 H1 v e1 S1 r1 rx h1=>?_
 split at h1
 ·simp only [RD] at rx;subst rx
  exact ⟨true,rfl,by dsimp only;rw [if_pos rfl];exact ⟨σD,M1,F1,ρ1,S1,r1,h1⟩⟩
 ·simp only [RD] at rx;subst rx
  exact ⟨false,rfl,by dsimp only;rw [if_neg Bool.false_ne_true];exact ⟨σD,M1,F1,ρ1,S1,r1,h1⟩⟩
 ·exact h1.elim
theorem bh {d:D} {v:V} {ds:List D} (S:SR B F ρ M H) (r:RD B F ρ H d v) (h:vw M d=.lst ds):∃ a vs,v=.ref a/\fJ B.K H a vs/\aj B F ρ H ds vs:=by
 cases d with
 | lst xs=>simp only [vw] at h;cases h;simp only [RD] at r;obtain ⟨a,vs,e,z,q⟩:=r;exact ⟨a,vs,e,z.sq,q⟩
 | ref n =>
  simp only [vw] at h
  split at h
  ·rename_i xs hx
   cases h
   simp only [RD] at r
   obtain ⟨a,h1,h2⟩:=r
   obtain ⟨vs,h3,h4⟩:=S.obj n a _ h1 hx
   exact ⟨a,vs,h2,.inl (.inl h3),h4⟩
  ·cases h
  ·cases h
  ·cases h
 | tup _=>simp only [vw] at h;cases h
 | dct _ _=>simp only [vw] at h;cases h
 | ak=>simp only [vw] at h;cases h
 | bl _=>simp only [vw] at h;cases h
 | int _=>simp only [vw] at h;cases h
 | str _=>simp only [vw] at h;cases h
theorem i0 {d:D} {v:V} {ds:List D} (S:SR B F ρ M H) (r:RD B F ρ H d v) (h:vw M d=.tup ds):∃ a vs,v=.ref a/\ic B.K H a vs/\aj B F ρ H ds vs:=by
 cases d with
 | tup xs=>simp only [vw] at h;cases h;simp only [RD] at r;obtain ⟨a,vs,e,z,q⟩:=r;exact ⟨a,vs,e,z.sq,q⟩
 | ref n =>
  simp only [vw] at h
  split at h <;> cases h
 | lst _=>simp only [vw] at h;cases h
 | dct _ _=>simp only [vw] at h;cases h
 | ak=>simp only [vw] at h;cases h
 | bl _=>simp only [vw] at h;cases h
 | int _=>simp only [vw] at h;cases h
 | str _=>simp only [vw] at h;cases h
noncomputable def IX (B:Bd) (H:Hp) (a:Addr) (kvs:List (Key×V)):Prop:=Rd H a (.dK kvs)\/B.dk a kvs
theorem oJ {α β:Type}:∀ (ks:List α) (ds:List β),ks.length=ds.length->(ks.zip ds).map (·.1)=ks/\(ks.zip ds).map (·.2)=ds
 | [],[],_=>⟨rfl,rfl⟩
 | k::ks,d::ds,h=>by
  obtain ⟨a,b⟩:=oJ ks ds (by simpa using h)
  simp only [List.zip_cons_cons,List.map_cons,a,b,and_self]
 | [],_::_,h=>by simp at h
 | _::_,[],h=>by simp at h
theorem mX {d:D} {v:V} {cA:List (Ky×D)} (S:SR B F ρ M H) (r:RD B F ρ H d v) (h:vw M d=.dct cA):∃ a kvs,v=.ref a/\IX B H a kvs/\kvs.map (·.1)=cA.map (·.1)/\aj B F ρ H (cA.map (·.2)) (kvs.map (·.2)):=by
 cases d with
 | dct ks ds =>
  simp only [vw] at h;cases h;simp only [RD] at r
  obtain ⟨a,kvs,e,z,q1,q2⟩:=r
  have hl:ks.length=ds.length:=by rw [<- q1,List.length_map,aj.length q2,List.length_map]
  obtain ⟨z1,z2⟩:=oJ ks ds hl
  refine ⟨a,kvs,e,?_,by rw [q1,z1],by rw [z2];exact q2⟩
  rcases z with ⟨_,z⟩ | z
  ·exact .inl z
  ·exact .inr z
 | ref n =>
  simp only [vw] at h
  split at h
  ·cases h
  ·rename_i xs hx
   cases h
   simp only [RD] at r
   obtain ⟨a,h1,h2⟩:=r
   obtain ⟨kws,h3,h4,h5⟩:=S.obj n a _ h1 hx
   exact ⟨a,kws,h2,.inl (.inl h3),h4,h5⟩
  ·rename_i xs hx
   cases h
   simp only [RD] at r
   obtain ⟨a,h1,h2⟩:=r
   obtain ⟨o,kws,h3,h4,h5⟩:=S.obj n a _ h1 hx
   exact ⟨a,kws,h2,.inl (.inr ⟨o,h3⟩),h4,h5⟩
  ·cases h
 | tup _=>simp only [vw] at h;cases h
 | lst _=>simp only [vw] at h;cases h
 | ak=>simp only [vw] at h;cases h
 | bl _=>simp only [vw] at h;cases h
 | int _=>simp only [vw] at h;cases h
 | str _=>simp only [vw] at h;cases h
theorem kK {k:Key}:∀ {cA:List (Ky×D)} {kvs:List (Key×V)},kvs.map (·.1)=cA.map (·.1)->aj B F ρ H (cA.map (·.2)) (kvs.map (·.2)) ->
  (∀ d,look cA k=some d->∃ v,cF kvs k=some v/\RD B F ρ H d v)/\(look cA k=none->cF kvs k=none)/\((look cA k).isSome=(cF kvs k).isSome)
 | [],kvs,h1,h2=>by
  have:kvs=[]:=by cases kvs with | nil=>rfl | cons _ _=>simp at h1
  subst this
  exact ⟨fun d h=>by simp [look] at h,fun _=>by simp [cF],by simp [look,cF]⟩
 | (k', d')::cA, kvs, h1, h2=>by
  cases kvs with
  | nil=>simp at h1
  | cons p kvs =>
   obtain ⟨pk,pv⟩:=p
   simp only [List.map_cons,List.cons.injEq] at h1
   simp only [List.map_cons,aj] at h2
   obtain ⟨v,ws,e,r1,r2⟩:=h2
   cases e
   obtain ⟨e1,e2⟩:=h1
   subst e1
   have ih:=kK (k:=k) e2 r2
   by_cases hk:pk=k
   ·subst hk
    simp only [look,cF,List.find?_cons,decide_true]
    exact ⟨fun d h=>by cases h;exact ⟨_,rfl,r1⟩,fun h=>by simp at h,rfl⟩
   ·have hkd:decide (pk=k)=false:=decide_eq_false hk
    simp only [look,cF,List.find?_cons,hkd] at ih ⊢
    exact ih
theorem oX {i:Int} (h:small i=true):-(2 ^ 64)<i/\i<2 ^ 64:=by
 simp only [small,decide_eq_true_eq] at h
 omega
noncomputable def MD (i j:Int):Prop:=i.natAbs<10 ^ 200/\j.natAbs<10 ^ 200
noncomputable def rStr:R2:=fun x y H Q=>∃ i j,x=.str i/\y=.str j/\i.length+j.length<=sizeLine/\Q (.str (i++j)) H
noncomputable def D8 (K:W.Frag):R2:=fun x y H Q=>∃ l b xs zs,x=.ref l/\y=.ref b/\fJ K H l xs/\fJ K H b zs/\xs.length+zs.length<=sizeLine/\∀ p,H p=none->Q (.ref p) (upd H p (.lst (xs++zs)))
noncomputable def D5 (K:W.Frag):R2:=fun x y H Q=>∃ (l:Addr) (xs:List V) (k:Int),x=.ref l/\y=.int k/\fJ K H l xs/\xs.length*k.toNat<=sizeLine/\k.natAbs<=1000000/\∀ p,H p=none->Q (.ref p) (upd H p (.lst (List.replicate k.toNat xs).flatten))
noncomputable def J6 (K:W.Frag):DE->R2
 | .add=>fun x y H Q=>rF (fun i j=>.int (i+j)) x y H Q\/(rStr x y H Q\/(D8 K x y H Q\/D7 K x y H Q))
 | .sub=>rF fun i j=>.int (i-j)
 | .mul=>fun x y H Q=>rI DK (fun i j=>.int (i*j)) x y H Q\/(rI MD (fun i j=>.int (i*j)) x y H Q\/D5 K x y H Q)
 | .fdiv=>rI ME fun i j=>.int (i / j)
 | .mod=>rI (fun _ j=>0<j) fun i j=>.int (i % j)
 | .pow=>rI MC fun i j=>.int (i ^ j.toNat)
theorem bL:line<=sizeLine:=by decide
theorem aj.rep {ds:List D} {vs:List V} (r:aj B F ρ H ds vs):∀ k:Nat,aj B F ρ H (List.replicate k ds).flatten (List.replicate k vs).flatten
 | 0=>aj.nil
 | k+1=>by
  rw [List.replicate_succ,List.replicate_succ,List.flatten_cons,List.flatten_cons]
  exact r.append (aj.rep r k)
theorem Cj {o:DE} {fz:Bool} {x y:D} {v w:V} {X:XK} (S:SR B F ρ M H) (rx:RD B F ρ H x v) (ry:RD B F ρ H y w) (h:Post B (qI o fz M x y) F ρ H Q X):J6 B.K o v w H Q:=by
 unfold qI at h
 split at h
 ·rename_i i j
  simp only [RD] at rx ry
  subst rx ry
  cases o with
  | add=>simp only [gw] at h;exact .inl ⟨i,j,rfl,rfl,ah.run h S (by simp only [RD])⟩
  | sub=>simp only [gw] at h;exact ⟨i,j,rfl,rfl,ah.run h S (by simp only [RD])⟩
  | mul =>
   simp only [gw] at h
   split at h
   ·rename_i k hk
    split at hk
    ·rename_i hs
     cases hk
     refine .inl ⟨i,j,rfl,rfl,?_,ah.run h S (by simp only [RD])⟩
     simp only [Bool.or_eq_true] at hs
     rcases hs with hs | hs
     ·exact .inl (oX hs)
     ·exact .inr (oX hs)
    ·split at hk
     ·rename_i hs
      cases hk
      simp only [mid,Bool.and_eq_true,decide_eq_true_eq] at hs
      exact .inr (.inl ⟨i,j,rfl,rfl,hs,ah.run h S (by simp only [RD])⟩)
     ·cases hk
   ·exact h.elim
  | fdiv =>
   simp only [gw] at h
   split at h
   ·rename_i k hk
    split at hk
    ·rename_i hs
     cases hk
     simp only [Bool.and_eq_true,decide_eq_true_eq] at hs
     exact ⟨i,j,rfl,rfl,⟨hs.1,by have:=hs.2;omega⟩,ah.run h S (by simp only [RD])⟩
    ·cases hk
   ·exact h.elim
  | mod =>
   simp only [gw] at h
   split at h
   ·rename_i k hk
    split at hk
    ·rename_i hs
     cases hk
     exact ⟨i,j,rfl,rfl,of_decide_eq_true hs,ah.run h S (by simp only [RD])⟩
    ·cases hk
   ·exact h.elim
  | pow =>
   simp only [gw] at h
   split at h
   ·rename_i k hk
    split at hk
    ·rename_i hs
     cases hk
     simp only [Bool.and_eq_true,decide_eq_true_eq] at hs
     exact ⟨i,j,rfl,rfl,⟨hs.1,hs.2.1,hs.2.2⟩,ah.run h S (by simp only [RD])⟩
    ·cases hk
   ·exact h.elim
 ·rename_i a b
  simp only [RD] at rx ry
  subst rx ry
  cases o with
  | add =>
   simp only at h
   split at h
   ·rename_i hl
    exact .inr (.inl ⟨a,b,rfl,rfl,Nat.le_trans (of_decide_eq_true hl) bL,ah.run h S (by simp only [RD])⟩)
   ·exact h.elim
  | sub=>exact h.elim
  | mul=>exact h.elim
  | fdiv=>exact h.elim
  | mod=>exact h.elim
  | pow=>exact h.elim
 ·cases o with
  | add =>
   simp only at h
   split at h
   ·rename_i xs ys hx hy
    split at h
    ·rename_i hl
     obtain ⟨a,vs,rfl,q1,r1⟩:=bh S rx hx
     obtain ⟨b,ws,rfl,q2,r2⟩:=bh S ry hy
     refine .inr (.inr (.inl ⟨a,b,vs,ws,rfl,rfl,q1,q2,?_,cR S h (r1.append r2)⟩))
     rw [<- aj.length r1,<- aj.length r2]
     exact Nat.le_trans (of_decide_eq_true hl) bL
    ·exact h.elim
   ·rename_i xs ys hx hy
    split at h
    ·rename_i hl
     simp only [Bool.and_eq_true,Bool.not_eq_true',decide_eq_true_eq] at hl
     cases x with
     | tup xs' =>
      simp only [vw] at hx;cases hx
      simp only [RD] at rx
      obtain ⟨a,vs,rfl,z1,r1⟩:=rx
      obtain ⟨b,ws,rfl,q2,r2⟩:=i0 S ry hy
      refine .inr (.inr (.inr ⟨a,b,vs,ws,rfl,rfl,z1.sq,q2,?_,?_,fun e=>?_,fun _=>jV S h (r1.append r2)⟩))
      ·rintro rfl
       have:=aj.length r1
       cases xs with
       | nil=>simp at hl
       | cons _ _=>simp at this
      ·rw [<- aj.length r1,<- aj.length r2]
       exact Nat.le_trans hl.2 bL
      ·refine ah.run h S ?_
       simp only [RD]
       refine ⟨a,vs,rfl,z1,?_⟩
       have:=r1.append r2
       rw [e,List.append_nil] at this
       exact this
     | ref n=>simp only [vw] at hx;split at hx <;> cases hx
     | lst _=>simp only [vw] at hx;cases hx
     | dct _ _=>simp only [vw] at hx;cases hx
     | ak=>simp only [vw] at hx;cases hx
     | bl _=>simp only [vw] at hx;cases hx
     | int _=>simp only [vw] at hx;cases hx
     | str _=>simp only [vw] at hx;cases hx
    ·exact h.elim
   ·exact h.elim
  | sub=>exact h.elim
  | mul =>
   simp only at h
   split at h
   ·rename_i xs k hx _ _
    split at h
    ·rename_i hl
     simp only [Bool.and_eq_true,decide_eq_true_eq] at hl
     obtain ⟨a,vs,rfl,q1,r1⟩:=bh S rx (by assumption)
     simp only [RD] at ry
     subst ry
     refine .inr (.inr ⟨a,vs,k,rfl,rfl,q1,?_,hl.2,cR S h (aj.rep r1 _)⟩)
     rw [<- aj.length r1]
     exact Nat.le_trans hl.1 bL
    ·exact h.elim
   ·exact h.elim
  | fdiv=>exact h.elim
  | mod=>exact h.elim
  | pow=>exact h.elim
theorem Fy {o:DE} {fz:Bool} {a b:Fg.E} (h:T B Φ E (.op o fz a b) σ H Q):Fb (J6 B.K o) (T B Φ E a) (T B Φ E b) σ H Q:=by
 obtain ⟨σD,M,F,ρ,S,r,h⟩:=h
 simp only [ev] at h
 exact T.two S r rfl h fun x y M2 F2 ρ2 H2 v w S2 _ rx ry h2=>Cj S2 rx ry h2
theorem Br {a:Fg.E} (h:T B Φ E (.neg a) σ H Q):tUn (rU fun i=>.int (-i)) (T B Φ E a) σ H Q:=by
 obtain ⟨σD,M,F,ρ,S,r,h⟩:=h
 simp only [ev] at h
 refine T.one S r rfl h fun x M1 F1 ρ1 H1 v e1 S1 r1 rx h1=>?_
 split at h1
 ·simp only [RD] at rx;subst rx
  exact ⟨_,rfl,ah.run h1 S1 (by simp only [RD])⟩
 ·exact h1.elim
end
end Fg
end
section
namespace Fg
open PySem PySem.Spec L2
noncomputable def Up (B:Heap) (l:List Env) (a:Addr) (C a0:Value) (h:Heap):Prop:=B.StaysIn h/\B.get? a=none/\h.FunFrames B l/\∃ fl,h.TracedAtW B a C a0 fl
theorem Up.GN {B h:Heap} {l:List Env} {a:Addr} {C a0:Value} (x:Heap.FlyingW B l a C a0 h):Up B l a C a0 h:=⟨x.1,x.2.1,x.2.2.1,_,x.2.2.2.at⟩
theorem Up.um {B h:Heap} {l:List Env} {a L:Addr} {C a0:Value} (x:Heap.HeldW B l a C a0 L h):Up B l a C a0 h:=⟨x.1,x.2.1,x.2.2.1,_,x.2.2.2⟩
theorem nG {e:Value} {env env':Env} (h:env.frame=env'.frame):noteFrame e env=noteFrame e env':=by
 unfold noteFrame frameOf
 rw [h]
section
variable {M:Model} {A:Around} {E:Value->Shared->Prop} {s:Shared} {B:Heap} {env:Env} {outer:List Env} {L a:Addr} {C a0:Value}
theorem Up.note {Q:Unit->Shared->Prop} (hfr:A.frames=some (env::outer)) (hf:env.frame=some L) (up:Up B (env::outer) a C a0 s.heap) (k:∀ h',Heap.HeldW B (env::outer) a C a0 L h'->s.heap.UpToSlots h'->Q () { s with heap:=h' }) :
  wpAny M A (noteFrame (.ref a) env) Q E s:=by
 obtain ⟨st,ne,hl,fl,oe,vs,T,oT,ts,q1,⟨q2,D9⟩,q3,q4,q5,q6,q7,q8,q9⟩:=up
 by_cases same:(fl == rawInt L)=true
 ·have e:fl=rawInt L:=by simpa using same
  subst e
  exact wpAny_noteFrame_againW hf ⟨oe,vs,T,oT,ts,q1,⟨q2,D9⟩,q3,q4,q5,q6,q7,q8,q9⟩ (k s.heap ⟨st,ne,hl,oe,vs,T,oT,ts,q1,⟨q2,D9⟩,q3,q4,q5,q6,q7,q8,q9⟩ (Heap.UpToSlots.refl _))
 ·subst q2
  unfold noteFrame
  simp only [hf]
  refine wpAny_bind (wpAny_field q1 q3 q4 ?_)
  rw [if_pos (by simp)]
  refine wpAny_bind (wpAny_field q7 q8 q9 ?_)
  rw [if_neg same]
  refine wpAny_bind (wpAny_setField q7 q8 (Array.getElem?_eq_some_iff.mp q9).1 ?_)
  have ue:∀ b,b≠T->(s.heap.update T (Obj.mapFields (·.setIfInBounds 3 Value.none))).get? b=s.heap.get? b:=fun b hb=>Heap.get?_update_other _ _ fun z=>hb z.symm
  have pH:∀ b o,s.heap.get? b=some o->(∀ vs,o.data≠.fields vs)->b≠T:=fun b o hb hn z=>by
   subst z;rw [q7] at hb;cases hb;exact hn ts q8
  refine wpAny_entryW (base:=B) (a0:=a0) hfr ?_ hf ?_ ?_ ne q3 (Array.getElem?_eq_some_iff.mp q4).1 D9 fun h' nw=>?_
  ·exact hl.of_keeps fun b o hb hn=>⟨o,by rw [ue b (pH b o hb hn),hb],rfl⟩
  ·rw [ue a fun z=>q6 z.symm];exact q1
  ·intro b o e
   rw [ue b (by rintro rfl;rw [q5] at e;cases e)]
   exact st b o e
  ·obtain ⟨x1,x2,x3,x4⟩:=nw
   exact k h' ⟨x1,ne,x2,x3⟩ fun b o hb hn=>x4 b o (by rw [ue b (pH b o hb hn),hb]) hn
theorem Up.leave {Q:Unit->Shared->Prop} (hfr:A.frames=some (env::outer)) (hf:env.frame=some L) (up:Up B (env::outer) a C a0 s.heap) (k:∀ h',Heap.FlyingW B outer a C a0 h'->s.heap.UpToSlots h'->Q () { s with heap:=h' }) :
  wpAny M A (leaving env (.ref a)) Q E s :=
 wpAny_bind (up.note hfr hf fun h4 held xQ=>wpAny_landsW held fun h5 fl Be=>k h5 ⟨fl.1,fl.2.1,fl.2.2.1.2.2,fl.2.2.2⟩ (xQ.trans Be))
end
end Fg
end
section
namespace Fg
open PySem PySem.Spec L2
open PyProof.Rows (AllBare envOfC)
theorem mz {P:Program} {w:World} {H:Hp} {h:Heap} {a:Addr} {o:HO} (x:bf P w H h a o):∃ ob,h.get? a=some ob:=by
 cases o with
 | lst xs=>obtain ⟨_,_,_,_,e⟩:=x;exact ⟨_,e⟩
 | tup xs=>obtain ⟨_,_,_,_,e,_⟩:=x;exact ⟨_,e⟩
 | dK kvs=>obtain ⟨_,_,_,_,o,_,_,e,_⟩:=x;exact ⟨_,e⟩
 | dT kvs=>obtain ⟨_,_,_,_,o,_,_,e,_⟩:=x;exact ⟨_,e⟩
 | set S n=>obtain ⟨o,_,_,_,e,_⟩:=x;exact ⟨_,e⟩
 | ins C dx fs=>obtain ⟨_,_,_,e,_⟩:=x;exact ⟨_,e⟩
 | own y=>obtain ⟨_,e⟩:=x;exact ⟨_,e⟩
 | xd fs=>obtain ⟨_,⟨_,_,_,e,_⟩,_⟩:=x;exact ⟨_,e⟩
 | eE lo hi=>obtain ⟨_,_,_,e⟩:=x;exact ⟨_,e⟩
 | gk ob u=>obtain ⟨e,_⟩:=x;exact ⟨_,e⟩
 | DP ps=>exact ⟨_,(show h.get? a=some _ from x)⟩
 | met f y=>exact ⟨_,(show h.get? a=some _ from x)⟩
 | ext φ=>obtain ⟨_,⟨_,e⟩,_⟩:=x;exact ⟨_,e⟩
noncomputable def Calm (B:Heap) (fr ex:List Addr) (H:Hp) (h₀:Heap):Prop:=∀ b,(H b≠none\/(∃ o,h₀.get? b=some o)/\b∉ex)->b∉fr->∃ o,B.get? b=some o
theorem Calm.at {B h:Heap} {fr ex:List Addr} {H:Hp} {h₀:Heap} (c:Calm B fr ex H h₀) (st:B.StaysIn h) {b:Addr} {o:Obj} (e:h.get? b=some o) (q:H b≠none\/(∃ o,h₀.get? b=some o)/\b∉ex) (hf:b∉fr):B.get? b=some o:=by
 obtain ⟨o',e'⟩:=c b q hf
 have:=st _ _ e'
 rw [e] at this;cases this
 exact e'
noncomputable def iZ (P:Program) (w:World):AK:=fun outer H s E e s'=>∃ (H':Hp) (a:Addr) (a0 C:Value) (B:Heap),e=.ref a/\s'.os=s.os/\AllBare s'.gens/\Un (frs outer) [] H H' s.heap s'.heap/\gF P w H' s'.heap /\
 Heap.FlyingW B outer a C a0 s'.heap/\Calm B (frs outer) [] H' s.heap/\E C none H'
noncomputable def jL (X:Cx) (E:XS) (e:Value) (s:Shared):Prop:=∃ (pins:List (Addr×Obj)) (σ:St) (H:Hp) (a:Addr) (a0 C:Value) (B:Heap),e=.ref a/\Inv X pins σ H s /\
 Up B X.stack a C a0 s.heap/\Calm B (frs X.stack) X.ex H X.s₀.heap/\(∀ p∈X.pn,B.get? p.1=some p.2)/\E C none σ H
noncomputable def E1 (X:Cx) (E:XS) (e:Value) (s:Shared):Prop:=∃ (pins:List (Addr×Obj)) (σ:St) (H:Hp) (a:Addr) (C:Value) (vs:List Value) (h:Heap),e=.ref a/\Inv X pins σ H { s with heap:=h }/\Heap.MadeExcOf h s.heap a C vs/\E C none σ H
theorem nV {fs fr ex:List Addr} {H₀ H H₁:Hp} {h₀ h h' B:Heap} (u:Un fs ex H₀ H h₀ h) (fH:Calm B fr ex H₁ h₀) (jM:B.StaysIn h) (st:B.StaysIn h') (sm:∀ b∈fr,∀ o,h.get? b=some o->∃ sl,h'.get? b=some { o with slots:=sl })
  (frd:∀ b∈fr,b<h₀.objs.size->b∈fs):Un fs ex H₀ H h₀ h' where
 keep:=fun b o e n0 hb hx=>st _ _ (fH.at jM (u.keep b o e n0 hb hx) (.inr ⟨⟨_,e⟩,hx⟩) fun z=>hb (frd b z (Heap.lt_size e)))
 slot:=fun b o e n0 hb hx=>by
  obtain ⟨sl,e1⟩:=u.slot b o e n0 hb hx
  by_cases z:b∈fr
  ·obtain ⟨DX,e2⟩:=sm b z _ e1
   exact ⟨DX,e2⟩
  ·exact ⟨sl,st _ _ (fH.at jM e1 (.inr ⟨⟨_,e⟩,hx⟩) z)⟩
 free:=u.free
 there:=fun b o e hx=>by
  obtain ⟨o',e1⟩:=u.there b o e hx
  by_cases z:b∈fr
  ·obtain ⟨DX,e2⟩:=sm b z _ e1
   exact ⟨_,e2⟩
  ·exact ⟨_,st _ _ (fH.at jM e1 (.inr ⟨⟨_,e⟩,hx⟩) z)⟩
 tups:=u.tups
 gB:=u.gB
 iw:=u.iw
theorem j6 {P:Program} {w:World} {fr ex:List Addr} {H:Hp} {h₀ h h' B:Heap} (k:gF P w H h) (fH:Calm B fr ex H h₀) (jM:B.StaysIn h) (st:B.StaysIn h') (free:∀ b∈fr,H b=none):gF P w H h':=fun a o e =>
 (k a o e).stay (fun b u hb e'=>by
  have tr:H b≠none:=by
   rcases hb with rfl | hb
   ·rw [e];simp
   ·rw [hb];simp
  exact st _ _ (fH.at jM e' (.inl tr) fun z=>tr (free b z))) (fun _ q=>q) fun _ _ q=>q
section
variable {X:Cx} {pins:List (Addr×Obj)} {σ:St} {H:Hp} {s:Shared}
theorem p7 (I:Inv X pins σ H s):∀ b∈frs X.stack,∀ o,s.heap.get? b=some o->∀ vs,o.data≠.fields vs:=fun b hb o e vs=>by
 obtain ⟨_,o',e',d⟩:=I.stack.mem hb
 rw [e] at e';cases e'
 exact d vs
theorem sj {h':Heap} (I:Inv X pins σ H s) (sm:s.heap.UpToSlots h'):∀ b∈frs X.stack,∀ o,s.heap.get? b=some o->∃ sl,h'.get? b=some { o with slots:=sl }:=fun b hb o e=>sm b o e (p7 I b hb o e)
theorem nU (I:Inv X pins σ H s):∀ b∈frs X.stack,b<X.s₀.heap.objs.size->b∈X.fs:=fun b hb hl=>by
 rcases List.mem_cons.mp (I.eF b hb) with e | z
 ·subst e;exact absurd (Nat.lt_of_lt_of_le hl I.ok.above) (Nat.lt_irrefl _)
 ·exact z
theorem gh (I:Inv X pins σ H s) {b:Addr} {o:Obj} (e:X.s₀.heap.get? b=some o) (hx:b∉X.ex):∃ o',s.heap.get? b=some o':=I.base.there b o e hx
theorem passes {E:XS} (hx:∀ e s,jL X E e s->X.xe e s) (pins:List (Addr×Obj)) (σ:St) (H:Hp) (s:Shared) (e:Value) (s':Shared) (I:Inv X pins σ H s) (q:iZ X.prog X.w X.stack H s (fun cv x H'=>E cv x σ H') e s'):X.xe e s':=by
 obtain ⟨H',a,a0,C,B,rfl,os,bare,un,hok,fl,fH,q⟩:=q
 have I':=I.As (ch:=[]) os un hok bare (fun b z=>absurd z (by simp))
 refine hx _ _ ⟨pins,σ,H',a,a0,C,B,rfl,I',.GN fl,fun b hb hf=>fH b (hb.imp id fun ⟨⟨o,z⟩,n⟩=>⟨gh I z n,by simp⟩) hf,fun p hp=>?_,q⟩
 obtain ⟨p1,p2,p3,p4,_⟩:=I'.pin p (List.mem_append_left _ hp)
 refine fH.at fl.1 p1 (.inr ⟨⟨_,(I.pin p (List.mem_append_left _ hp)).1⟩,by simp⟩) fun z=>?_
 rcases List.mem_cons.mp (I.eF _ z) with e | z
 ·exact p3 e
 ·exact p4 z
end
section
variable {P:Program} {w:World} {K:W.Frag} {mg:Str->Option Value} {base:Heap} {N:List Str} {qual:Str} {scope:Scope} {f:Addr} {cd:Value} {A:Around} {outer:List Env} {s:Shared} {H:Hp} {E:XK}
theorem p6 (b:Addr) (h:b∈frs (envOfC qual scope s.heap.objs.size f cd::outer)):b=s.heap.objs.size\/b∈frs outer:=by
 unfold frs at h
 rw [List.filterMap_cons] at h
 exact List.mem_cons.mp h
theorem yX {pins:List (Addr×Obj)} {σ:St} {H':Hp} {s':Shared} {a:Addr} {a0 C:Value} {B h':Heap} (I:Inv (iW (iZ P w) P w K mg base N qual scope f cd A outer s H E) pins σ H' s') (jM:B.StaysIn s'.heap) (fH:Calm B (frs (envOfC qual scope s.heap.objs.size f cd::outer)) [] H' s.heap)
  (q:E C none H') (CS:Heap.FlyingW B outer a C a0 h') (sm:s'.heap.UpToSlots h'):iZ P w outer H s E (.ref a) { s' with heap:=h' }:=by
 refine ⟨H',a,a0,C,B,rfl,I.os,I.bare,nV I.base fH jM CS.1 (sj I sm) (nU I),j6 I.hok fH jM CS.1 I.gf,CS,fun b hb hf=>fH b hb fun z=>?_,q⟩
 rcases p6 b z with e | z
 ·subst e
  rcases hb with hb | ⟨⟨o,hb⟩,_⟩
  ·exact hb I.free
  ·exact absurd (Heap.lt_size hb) (Nat.lt_irrefl _)
 ·exact hf z
theorem vZ (e:Value) (s':Shared) (q:jL (iW (iZ P w) P w K mg base N qual scope f cd A outer s H E) (fun cv x _ H'=>E cv x H') e s'):(iW (iZ P w) P w K mg base N qual scope f cd A outer s H E).xe e s':=by
 obtain ⟨pins,σ,H',a,a0,C,B,rfl,I,up,fH,_,q⟩:=q
 exact up.leave (L:=s.heap.objs.size) I.ok.frames rfl fun h' CS sm=>yX I up.1 fH q CS sm
theorem leave_new (e:Value) (s':Shared) (q:E1 (iW (iZ P w) P w K mg base N qual scope f cd A outer s H E) (fun cv x _ H'=>E cv x H') e s'):(iW (iZ P w) P w K mg base N qual scope f cd A outer s H E).xe e s':=by
 obtain ⟨pins,σ,H',a,C,vs,h,rfl,I,made,q⟩:=q
 have hin:∀ env∈(envOfC qual scope s.heap.objs.size f cd::outer),∀ b,env.frame=some b->b∈frs (envOfC qual scope s.heap.objs.size f cd::outer):=fun env he b hb=>List.mem_filterMap.mpr ⟨env,he,hb⟩
 refine wpAny_leaves_madeW (base:=W.hideAll h (frs (envOfC qual scope s.heap.objs.size f cd::outer))) I.ok.frames rfl (fun b o q=>W.of_hideAll _ q) (W.funFrames_hide I.stack hin) made fun h' t CS tup tn sm=>?_
 have jM:(W.hideAll h (frs (envOfC qual scope s.heap.objs.size f cd::outer))).StaysIn h:=fun b o q=>W.of_hideAll _ q
 have fH:Calm (W.hideAll h (frs (envOfC qual scope s.heap.objs.size f cd::outer))) (frs (envOfC qual scope s.heap.objs.size f cd::outer)) [] H' s.heap:=fun b hb hf=>by
  have:∃ o,h.get? b=some o:=by
   rcases hb with hb | ⟨⟨o,hb⟩,_⟩
   ·cases e:H' b with
    | none=>exact absurd e hb
    | some o=>exact mz (I.hok b o e)
   ·exact gh I hb (by simp [iW])
  obtain ⟨o,e⟩:=this
  exact ⟨o,W.hideAll_get _ e hf⟩
 have sm':h.UpToSlots h':=(Heap.UpToSlots.of_keeps made.keeps).trans sm
 refine ⟨H',a,_,C,_,rfl,I.os,I.bare,nV I.base fH jM CS.1 (sj I sm') (nU I),j6 I.hok fH jM CS.1 I.gf,CS,fun b hb hf=>fH b hb fun z=>?_,q⟩
 rcases p6 b z with e | z
 ·subst e
  rcases hb with hb | ⟨⟨o,hb⟩,_⟩
  ·exact hb I.free
  ·exact absurd (Heap.lt_size hb) (Nat.lt_irrefl _)
 ·exact hf z
end
end Fg
end
section
namespace Fg
open PySem PySem.Spec L2
open PyProof.Rows (AllBare envOfC)
noncomputable def qG (K:W.Frag) (C:Addr) (bmB:List Value) (newId:String) (bm:List Value):Prop :=
 ∃ nm q N bs hdct sn sub ab col dd k0 k1 k2 k3 k5, K.lookup C=some (excClassObj nm q C N bs bm hdct sn sub ab col dd k0 k1 k2 k3 k5 newId)/\W.nsOkIn K N=true/\W.nsIn K N "__init__" = some none/\W.tailIn K bmB bm=true
variable {X:Cx} {E:XS}
theorem pM {x:Str} {C:Addr} {B newId initId:String} {bmB bm:List Value} {a:Expr} {t:TA} {np cpos pos:Pos} (hm:X.mg x=some (.ref C)) (hk:X.env.kindOf x=some .globalImplicit) (hd:(x == ("__debug__" : Str))=false)
  (EC:qG X.K C bmB newId bm) (FB:ExcBaseFacts B newId initId bmB) (calm:X.calm=true) (hs:starEach [a] X.env=[(false,eval a X.env)]) (ha:PA X [a] t) (hx:∀ e s,E1 X E e s->X.xe e s) :
  PS X (.Raise (some (.Call (.Name x np) [a] [] cpos)) none pos) (fun D σ H=>t σ H fun vs H1=>vs.length<=sizeLine/\E (.ref C) none σ H1):=by
 obtain ⟨nm,q,N,bs,hdct,sn,sub,ab,col,dd,k0,k1,k2,k3,k5,lk,ok,ni,tl⟩:=EC
 intro pins s σ H D I ht
 have tail:∀ {h:Heap},X.K.In h->PySem.OwnTail h bmB bm:=fun KX=>W.tail_of_in KX tl
 refine wpAny_Raise_call_subT (C:=C) (nm:=nm) (q:=q) (N:=N) (bs:=bs) (bm:=bm) (hdct:=hdct) (sn:=sn) (sub:=sub) (ab:=ab) (col:=col) (dd:=dd) (k0:=k0) (k1:=k1) (k2:=k2) (k3:=k3) (k5:=k5) FB (mN:=X.base.nsMap N)
  ((tail I.iK).hasType FB.hasBase) (I.ok.hd calm) (by rw [hs];rfl) (W.nsMap_none_of_in I.mod.Ej ok ni)
  (Calls.Name_function_global I.ok.kind hk (Calls.loadGlobal_global (by rw [I.ok.glob];exact I.mod.glob.keeps I.bk) hm ⟨rfl,?_⟩) hd)
 have z:=ha cpos pins s σ H _ I ht
 rw [hs] at z ⊢
 refine Calls.evalArgs_plain (aU z fun us s2 y=>?_)
 obtain ⟨vs,H1,I1,r,hl,q⟩:=y
 refine ⟨rfl,by rw [<- r.length];exact hl,I1.iK _ _ lk,(Heap.Ns.of_isNs (W.isNs_of_in I.mod.Ej ok)).keeps I1.bk,tail I1.iK,fun h' e made=>hx _ _ ⟨pins,σ,H1,e,.ref C,us,s2.heap,rfl,I1,made,q⟩⟩
end Fg
end
section
namespace Fg
open PySem PySem.Spec L2
noncomputable abbrev gD (X:Cx) (pins:List (Addr×Obj)):Cx:={ X with pn:=X.pn++pins }
theorem sZ {X:Cx} {pins:List (Addr×Obj)} (ok:X.Ok):(gD X pins).Ok :=
 ⟨ok.mod,ok.kind,ok.glob,ok.blt,ok.above,ok.inj,ok.has,ok.EU,ok.hd,ok.frames,ok.stk,ok.Lq,ok.bs,ok.wM,ok.pQ,ok.sA,ok.gA,ok.zH⟩
theorem oF {X:Cx} {pins:List (Addr×Obj)} (ok:(gD X pins).Ok):X.Ok :=
 ⟨ok.mod,ok.kind,ok.glob,ok.blt,ok.above,ok.inj,ok.has,ok.EU,ok.hd,ok.frames,ok.stk,ok.Lq,ok.bs,ok.wM,ok.pQ,ok.sA,ok.gA,ok.zH⟩
section
variable {X:Cx} {pins kF:List (Addr×Obj)} {σ:St} {H:Hp} {s:Shared}
theorem zx (I:Inv X pins σ H s):Inv (gD X pins) [] σ H s:=⟨sZ I.ok,I.os,I.bare,I.base,I.loc,I.cell,I.free,I.cg,fun p hp=>I.pin p (by simpa using hp),I.hok,I.len⟩
theorem eT (I:Inv (gD X pins) kF σ H s):Inv X pins σ H s:=⟨oF I.ok,I.os,I.bare,I.base,I.loc,I.cell,I.free,I.cg,fun p hp=>I.pin p (List.mem_append_left _ hp),I.hok,I.len⟩
theorem lZ {D:Ends} {f:Flow} {s':Shared} (h:SP (gD X pins) kF D f s'):SP X pins D f s':=by
 cases f with
 | next=>obtain ⟨σ',H',I,q⟩:=h;exact ⟨σ',H',eT I,q⟩
 | brk=>obtain ⟨σ',H',I,q⟩:=h;exact ⟨σ',H',eT I,q⟩
 | cont=>obtain ⟨σ',H',I,q⟩:=h;exact ⟨σ',H',eT I,q⟩
 | ret u=>obtain ⟨v,σ',H',I,r,q⟩:=h;exact ⟨v,σ',H',eT I,r,q⟩
theorem j5 {B h':Heap} (I:Inv X pins σ H s) (fH:Calm B (frs X.stack) X.ex H X.s₀.heap) (hp:∀ p∈X.pn,B.get? p.1=some p.2) (jM:B.StaysIn s.heap) (st:B.StaysIn h') (sm:s.heap.UpToSlots h'):Inv X [] σ H { s with heap:=h' }:=by
 have cel:∀ c v,s.heap.IsCell c v->h'.IsCell c v:=fun c v ⟨o,e,d⟩=>by
  obtain ⟨sl,e'⟩:=sm c o e (fun vs z=>by rw [d] at z;cases z)
  exact ⟨_,e',d⟩
 refine ⟨I.ok,I.os,I.bare,nV I.base fH jM st (sj I sm) (nU I),?_,fun x c e=>?_,I.free,I.cg,fun p q=>?_,j6 I.hok fH jM st I.gf,I.len⟩
 ·obtain ⟨m,hn,hv⟩:=I.loc
  refine ⟨m,sm.ns hn,fun i x v h1 h2 h3=>?_⟩
  obtain ⟨u,r,lk⟩:=hv i x v h1 h2 h3
  refine ⟨u,r,lk.imp id fun ⟨z,c,h4,h5⟩=>⟨z,c,h4,cel _ _ h5⟩⟩
 ·obtain ⟨v,h5⟩:=I.cell x c e
  exact ⟨v,cel _ _ h5⟩
 ·have q':p∈X.pn:=by simpa using q
  obtain ⟨_,p2⟩:=I.pin p (List.mem_append_left _ q')
  exact ⟨st _ _ (hp p q'),p2⟩
end
noncomputable abbrev suite (X:Cx) (e:Value):Cx:={ X with A:=X.A.mark (some e),calm:=false,xe:=fun _ _=>False }
section
variable {X:Cx} {pins kF:List (Addr×Obj)} {σ:St} {H:Hp} {s:Shared} {e:Value}
theorem xG (ok:X.Ok):(suite X e).Ok :=
 ⟨ok.mod,ok.kind,ok.glob,ok.blt,ok.above,ok.inj,ok.has,ok.EU,(fun z=>by cases z),ok.frames,ok.stk,ok.Lq,ok.bs,ok.wM,ok.pQ,ok.sA,ok.gA,ok.zH⟩
theorem wc (I:Inv X pins σ H s):Inv (suite X e) pins σ H s:=⟨xG I.ok,I.os,I.bare,I.base,I.loc,I.cell,I.free,I.cg,I.pin,I.hok,I.len⟩
theorem dm (ok:X.Ok) (I:Inv (suite X e) pins σ H s):Inv X pins σ H s:=⟨ok,I.os,I.bare,I.base,I.loc,I.cell,I.free,I.cg,I.pin,I.hok,I.len⟩
theorem qX (ok:X.Ok) {D:Ends} {f:Flow} {s':Shared} (h:SP (suite X e) pins D f s'):SP X pins D f s':=by
 cases f with
 | next=>obtain ⟨σ',H',I,q⟩:=h;exact ⟨σ',H',dm ok I,q⟩
 | brk=>obtain ⟨σ',H',I,q⟩:=h;exact ⟨σ',H',dm ok I,q⟩
 | cont=>obtain ⟨σ',H',I,q⟩:=h;exact ⟨σ',H',dm ok I,q⟩
 | ret u=>obtain ⟨v,σ',H',I,r,q⟩:=h;exact ⟨v,σ',H',dm ok I,r,q⟩
end
section
variable {M:Model} {A:Around} {E:Value->Shared->Prop} {nm q:Str} {C N:Addr} {bs bm:List Value} {hdct:Bool} {sn:List Str} {sub:List Value} {ab:Bool} {col:Option Bool} {dd:Option Addr} {k0 k1 k2 k3 k5:Option Value} {newId:String}
 {nm' q':Str} {C' N':Addr} {bs' bm':List Value} {Ey:Bool} {sn':List Str} {sub':List Value} {ab':Bool} {col':Option Bool} {Dk:Option Addr} {l0 l1 l2 l3 l5:Option Value} {newId':String}
theorem qf {h:Heap} {g:Array GenState} {d:Drawn} {t:Nat} {os:OsState} {e:Addr} {oe:Obj} {b:Bool} {Q:Bool->Shared->Prop}
  (hC:h.get? C=some (excClassObj nm q C N bs bm hdct sn sub ab col dd k0 k1 k2 k3 k5 newId)) (hD:h.get? C'=some (excClassObj nm' q' C' N' bs' bm' Ey sn' sub' ab' col' Dk l0 l1 l2 l3 l5 newId')) (he:h.get? e=some oe) (hcls:oe.cls=.ref C)
  (hb':(Value.ref C'::bm').contains (.type "BaseException")=true) (hb:(Value.ref C::bm).contains (.ref C')=b) (hq:Q b ⟨h, g, d, t, os⟩):wpAny M A (excMatches (.ref e) (.ref C')) Q E ⟨h, g, d, t, os⟩:=by
 have f:=tc_notTuple
 unfold excMatches
 repeat (first | (with_reducible refine wpAny_loadPart_at he ?_;rw [hcls]) | with_reducible refine wpAny_loadPart_at hD ?_ | (with_reducible refine wpAny_isSubtype_exc hD ?_;rw [hb']) | (with_reducible refine wpAny_isSubtype_exc hC ?_;rw [hb]) | wp_step)
 cases b <;> (wp_walk;exact hq)
end
noncomputable def pick (mro:List Value):List (Addr×TS)->Option TS
 | []=>none
 | (C',t)::r=>if mro.contains (.ref C') then some t else pick mro r
noncomputable def EH (K:W.Frag) (rs:List (Addr×TS)) (D:Ends):XS:=fun cv x σ H=>∃ C bmB newId bm t,cv=.ref C/\qG K C bmB newId bm/\pick (.ref C::bm) rs=some t/\t D σ H
inductive PH (X:Cx):List ExceptHandler->List (Addr×TS)->Prop
 | nil:PH X [] []
 | cons {x:Str} {C':Addr} {bmB:List Value} {newId:String} {bm:List Value} {b₀:Stmt} {b:List Stmt} {t:TS} {np pos:Pos} {hs:List ExceptHandler} {rs:List (Addr×TS)} :
   X.mg x=some (.ref C')->Gl X x->(x == ("__debug__" : Str))=false->qG X.K C' bmB newId bm->bm.contains (.type "BaseException")=true->(∀ e, kg (suite X e) (b₀::b) t)->PH X hs rs ->
   PH X (.ExceptHandler (some (.Name x np)) none (b₀::b) pos::hs) ((C',t)::rs)
theorem handle {X:Cx} {hs:List ExceptHandler} {rs:List (Addr×TS)} (ph:PH X hs rs) {C a:Addr} {a0:Value} {B:Heap} {bmB:List Value} {newId:String} {bm:List Value} {t:TS} {D:Ends} {σ:St} {H:Hp} {s:Shared} (EC:qG X.K C bmB newId bm) (pk:pick (.ref C::bm) rs=some t)
  (I:Inv X [] σ H s) (fl:Heap.FlyingW B X.stack a (.ref C) a0 s.heap) (fH:Calm B (frs X.stack) X.ex H X.s₀.heap) (hp:∀ p∈X.pn,B.get? p.1=some p.2) (ht:t D σ H) :
  wpAny (model X.prog X.w) X.A (handleBy (.ref a) X.env hs) (SP X [] D) X.xe s:=by
 induction ph with
 | nil=>cases pk
 | cons hm hg hd EC' hb' hsu ph ih =>
  obtain ⟨hp',g,d,tk,os⟩:=s
  obtain ⟨oe,Ew,hcl⟩:=fl.there
  obtain ⟨nm,q,N,bs,hdct,sn,sub,ab,col,dd,k0,k1,k2,k3,k5,lk,_⟩:=EC
  obtain ⟨nm',q',N',bs',Ey,sn',sub',ab',col',Dk,l0,l1,l2,l3,l5,lk',_⟩:=EC'
  refine wpAny_handleBy_cons (codeAny_handlers_test (Calls.Name_function_global I.ok.kind hg (Calls.loadGlobal_global (by rw [I.ok.glob];exact I.mod.glob.keeps I.bk) hm ?_) hd)) (by intro q;cases q)
  refine qf (I.iK _ _ lk) (I.iK _ _ lk') Ew hcl (by rw [List.contains_cons,hb',Bool.or_true]) rfl ?_
  simp only [pick] at pk
  cases hc:(Value.ref C::bm).contains (.ref _) with
  | true =>
   rw [hc] at pk
   simp only [if_true,Option.some.injEq] at pk
   subst pk
   refine codeAny_handlers_suite (PyProof.Rows.lands_againW fl fun h6 fl6 sm6=>?_)
   have I6:=j5 I fH hp fl.1 fl6.1 sm6
   exact wpAny_mono (hsu (.ref a) [] _ σ H D (wc I6) ht) (fun f s2 z=>qX I.ok z) fun _ _ z=>z.elim
  | false =>
   rw [hc] at pk
   exact ih pk
theorem F7 {X:Cx} {body:List Stmt} {h₀:ExceptHandler} {hs:List ExceptHandler} {pos:Pos} {rs:List (Addr×TS)} {t:Ends->TS} (stk:X.stack=X.env::X.outer) (hf:X.env.frame=some X.env.locals)
  (hb:∀ pins D,kg ((gD X pins).bI (jL (gD X pins) (EH X.K rs D))) body (t D)) (ph:∀ pins,PH (gD X pins) (h₀::hs) rs):PS X (.Try body (h₀::hs) [] [] pos) (fun D σ H=>t D D σ H):=by
 intro pins s σ H D I ht
 refine wpAny_Try_except (wpAny_mono (hb pins D [] s σ H D ((zx I).bI _) ht) (fun f s1 z=>?_) fun e s1 z=>?_)
 ·have z':=lZ (SP.aY z)
  cases f with
  | next=>exact wpAny_execs_nil z'
  | brk=>exact z'
  | cont=>exact z'
  | ret u=>exact z'
 ·obtain ⟨kF,σ1,H1,a,a0,cv,B,rfl,I1,fl,fH,hp,C,bmB,newId,bm,tt,rfl,EC,pk,hts⟩:=z
  have go:∀ h5,Heap.FlyingW B (X.env::X.outer) a (.ref C) a0 h5->s1.heap.UpToSlots h5->wpAny (model X.prog X.w) X.A (handleBy (.ref a) X.env (h₀::hs)) (SP X pins D) X.xe { s1 with heap:=h5 }:=fun h5 Nx Be=>by
   have I5:=j5 I1 fH hp fl.1 Nx.1 Be
   exact wpAny_mono (handle (ph pins) EC pk I5 (by show Heap.FlyingW B X.stack _ _ _ _;rw [stk];exact Nx) fH hp hts) (fun f s2 z=>lZ z) fun _ _ z=>z
  exact Up.note (L:=X.env.locals) (env:=X.env) (outer:=X.outer) (by rw [I.ok.frames,stk]) hf (by rw [<- stk];exact fl) fun h4 held xQ=>wpAny_landsW held fun h5 Nx Be=>go h5 Nx (xQ.trans Be)
end Fg
end
section
namespace Fg
open PySem PySem.Spec L2
theorem Up.pass {M:Model} {A:Around} {E:Value->Shared->Prop} {s:Shared} {α:Type} {Q:α->Shared->Prop} {B:Heap} {l:List Env} {a:Addr} {C a0:Value} {env:Env} {what:String} (up:Up B l a C a0 s.heap)
  (k:∀ h',Up B l a C a0 h'->s.heap.UpToSlots h'->E (.ref a) { s with heap:=h' }):wpAny M A (passOn what (.ref a) env:Sem α) Q E s:=by
 obtain ⟨st,ne,hl,fl,oe,vs,T,oT,ts,q1,q2,q3,q4,q5,q6,q7,q8,q9⟩:=up
 have q0:3<ts.size:=(Array.getElem?_eq_some_iff.mp q9).1
 have ue:∀ x b,b≠T->(s.heap.update T (Obj.mapFields (·.setIfInBounds 3 x))).get? b=s.heap.get? b:=fun x b hb=>Heap.get?_update_other _ _ (Ne.symm hb)
 have pH:∀ b o,s.heap.get? b=some o->(∀ vs,o.data≠.fields vs)->b≠T:=fun b o hb hn z=>by
  rw [z,q7] at hb
  cases hb
  exact hn ts q8
 unfold passOn
 refine wpAny_bind (wpAny_field q1 q3 q4 ?_)
 rw [if_neg (by simp)]
 refine wpAny_bind ?_
 unfold setFlight
 refine wpAny_bind (wpAny_field q1 q3 q4 ?_)
 rw [if_pos (by simp)]
 refine wpAny_setField q7 q8 q0 ?_
 refine wpAny_throw (k _ ⟨fun b o e=>?_,ne,hl.of_keeps fun b o hb hn=>⟨o,(ue _ b (pH b o hb hn)).trans hb,rfl⟩,?_⟩ fun b o hb hn=>⟨o.slots,(ue _ b (pH b o hb hn)).trans hb⟩)
 ·exact (ue _ b (by rintro rfl;rw [q5] at e;cases e)).trans (st b o e)
 ·exact ⟨_,oe,vs,T,_,_,(ue _ a (Ne.symm q6)).trans q1,q2,q3,q4,q5,q6,Heap.get?_update_self _ q7 (Obj.isFreed_of_fields (Obj.data_mapFields q8 _)),Obj.data_mapFields q8 _,Array.getElem?_setIfInBounds_self_of_lt q0⟩
theorem Up.hide {B h h':Heap} {l:List Env} {a c:Addr} {C a0:Value} (up:Up B l a C a0 h) (sb:Heap.SameBut c h h') (hc:∃ o,h.get? c=some o/\∀ vs,o.data≠.fields vs) (hfr:c∉frs l):Up (B.hide c) l a C a0 h':=by
 obtain ⟨st,ne,hl,fl,oe,vs,T,oT,ts,q1,q2,q3,q4,q5,q6,q7,q8,q9⟩:=up
 obtain ⟨oc,hoc,hd⟩:=hc
 have hn:∀ {b:Addr},B.get? b=none->(B.hide c).get? b=none:=fun {b} e=>by
  cases q:(B.hide c).get? b with
  | none=>rfl
  | some o=>rw [Heap.of_hide q] at e;cases e
 have hac:a≠c:=by rintro rfl;rw [hoc] at q1;cases q1;exact hd _ q3
 have hTc:T≠c:=by rintro rfl;rw [hoc] at q7;cases q7;exact hd _ q8
 have ff:∀ l',(∀ b∈frs l',b∈frs l)->h.FunFrames B l'->h'.FunFrames (B.hide c) l':=by
  intro l'
  induction l' with
  | nil=>intro _ _;trivial
  | cons env r ih =>
   intro hs hl'
   obtain ⟨hk,⟨L,o,hf,hnn,ho,hdd⟩,hr⟩:=hl'
   have hL:L∈frs l:=hs L (by unfold frs;rw [List.filterMap_cons,hf];exact List.mem_cons_self)
   exact ⟨hk,⟨L,o,hf,hn hnn,by rw [sb.2 L (by rintro rfl;exact hfr hL)];exact ho,hdd⟩,ih (fun b hb=>hs b (by unfold frs;rw [List.filterMap_cons,hf];exact List.mem_cons_of_mem _ hb)) hr⟩
 refine ⟨fun b o e=>?_,hn ne,ff l (fun _ z=>z) hl,fl,oe,vs,T,oT,ts,by rw [sb.2 a hac];exact q1,q2,q3,q4,hn q5,q6,by rw [sb.2 T hTc];exact q7,q8,q9⟩
 have hbc:b≠c:=by rintro rfl;rw [Heap.hide_self] at e;cases e
 rw [sb.2 b hbc]
 exact st b o (Heap.of_hide e)
noncomputable def qF (X:Cx):Prop:=∃ env outer L,X.stack=env::outer/\env.frame=some L/\X.env.frame=some L
end Fg
end
section
namespace Fg
open PySem PySem.Spec L2
noncomputable def qU (sp:Sp) (Ex:XS) (t:TA):TE:=fun σ H Q=>t σ H fun vs H1=>sp vs H1 Q fun cv x H'=>Ex cv x σ H'
section
variable {X:Cx} {Ex:XS} {k:Nat} {f:Addr} {fd:FuncData} {ps:List Str} {sp:Sp} {x:Str} {p pos:Pos} {e:Expr} {es:List Expr} {t:TA}
theorem BI {pins:List (Addr×Obj)} {σ:St} {H:Hp} {s:Shared} {Q:VK} {us:List Value} {vs:List V} (F:cK X.prog X.w X.K X.mg X.base (iZ X.prog X.w) k f fd ps sp) (hr:cy k X.A) (hb:Binds X.K fd ps []) (hx:∀ e s,jL X Ex e s->X.xe e s)
  (I:Inv X pins σ H s) (r:Vals vs us) (h:sp vs H Q fun cv x H'=>Ex cv x σ H'):wpAny (model X.prog X.w) X.A (call (.ref f) us) (EP X pins σ Q) X.xe s:=by
 have hl:(us++[]).length=ps.length:=by rw [List.append_nil,<- r.length];exact F.len _ _ _ _ h
 have bd:=hb s us I.iK hl
 rw [List.append_nil] at bd
 refine wpAny_call (codeAny_mono (F.run X.A X.stack s H ⟨us,[]⟩ us vs Q _ hr I.lO bd r h) fun z s' hq=>?_)
 match z,hq with
 | .error e,hq=>exact passes hx pins σ H s e s' I hq
 | .ok (.ret u),hq=>exact I.after hq
 | .ok .next,hq=>exact hq.elim
 | .ok .brk,hq=>exact hq.elim
 | .ok .cont,hq=>exact hq.elim
theorem yF (F:cK X.prog X.w X.K X.mg X.base (iZ X.prog X.w) k f fd ps sp) (hr:cy k X.A) (hg:Gl X x) (hm:X.mg x=some (.ref f)) (hk:W.keepIn X.K (.ref f)=true) (hb:Binds X.K fd ps []) (hx:∀ e s,jL X Ex e s->X.xe e s)
  (ha:PA X (e::es) t) (hdb:(x == ("__debug__" : Str))=false) (he:starEach (e::es) X.env=(false, eval e X.env)::starEach es X.env) (hpl:(backTo pos (starEach es X.env)).any (·.1)=false) :
  PE X (.Call (.Name x p) (e::es) [] pos) (qU sp Ex t):=fun pins s σ H Q I h =>
 wpAny_Call_Name_kw (gj I hg hm (W.callWith_K (h₀:=X.base) I.ok.mod.Ej hk (aU (ha pos pins s σ H _ I h) fun us s1 ⟨vs,H1,I1,r,q⟩=>⟨I1.iK,BI F hr hb hx I1 r q⟩) he hpl) hdb)
theorem vS (F:cK X.prog X.w X.K X.mg X.base (iZ X.prog X.w) k f fd ps sp) (hr:cy k X.A) (hg:Gl X x) (hm:X.mg x=some (.ref f)) (hk:W.keepIn X.K (.ref f)=true) (hb:Binds X.K fd ps []) (hx:∀ e s, jL X Ex e s->X.xe e s) (hdb:(x == ("__debug__" : Str))=false) :
  PE X (.Call (.Name x p) [] [] pos) (qU sp Ex iy):=fun pins s σ H Q I h =>
 wpAny_Call_Name_kw (gj I hg hm (W.callWith_K0 I.iK hk (BI (us:=[]) F hr hb hx I .nil h)) hdb)
end
end Fg
end
section
namespace Fg
open PySem PySem.Spec L2
theorem Up.back {M:Model} {A:Around} {E:Value->Shared->Prop} {s:Shared} {B:Heap} {l:List Env} {a:Addr} {C a0:Value} {env:Env} (up:Up B l a C a0 s.heap)
  (k:∀ h',Up B l a C a0 h'->s.heap.UpToSlots h'->E (.ref a) { s with heap:=h' }):cameBackBy M A env E (.ref a) s:=by
 obtain ⟨st,ne,hl,fl,oe,vs,T,oT,ts,q1,q2,q3,q4,q5,q6,q7,q8,q9⟩:=up
 have q0:3<ts.size:=(Array.getElem?_eq_some_iff.mp q9).1
 have ue:∀ x b,b≠T->(s.heap.update T (Obj.mapFields (·.setIfInBounds 3 x))).get? b=s.heap.get? b:=fun x b hb=>Heap.get?_update_other _ _ (Ne.symm hb)
 have pH:∀ b o,s.heap.get? b=some o->(∀ vs,o.data≠.fields vs)->b≠T:=fun b o hb hn z=>by
  rw [z,q7] at hb
  cases hb
  exact hn ts q8
 unfold cameBackBy
 refine wpAny_bind (wpAny_field q1 q3 q4 ?_)
 rw [if_neg (by simp)]
 unfold setFlight
 refine wpAny_bind (wpAny_field q1 q3 q4 ?_)
 rw [if_pos (by simp)]
 refine wpAny_setField q7 q8 q0 ?_
 refine k _ ⟨fun b o e=>?_,ne,hl.of_keeps fun b o hb hn=>⟨o,(ue _ b (pH b o hb hn)).trans hb,rfl⟩,?_⟩ fun b o hb hn=>⟨o.slots,(ue _ b (pH b o hb hn)).trans hb⟩
 ·exact (ue _ b (by rintro rfl;rw [q5] at e;cases e)).trans (st b o e)
 ·exact ⟨_,oe,vs,T,_,_,(ue _ a (Ne.symm q6)).trans q1,q2,q3,q4,q5,q6,Heap.get?_update_self _ q7 (Obj.isFreed_of_fields (Obj.data_mapFields q8 _)),Obj.data_mapFields q8 _,Array.getElem?_setIfInBounds_self_of_lt q0⟩
theorem yO {M:Model} {A:Around} {E:Value->Shared->Prop} {s:Shared} {h B:Heap} {env:Env} {outer:List Env} {L a:Addr} {C:Value} {vs:List Value} {Q:Unit->Shared->Prop} (hfr:A.frames=some (env::outer)) (hf:env.frame=some L)
  (made:Heap.MadeExcOf h s.heap a C vs) (st:B.StaysIn h) (hl:h.FunFrames B (env::outer)) (k:∀ a0 h',Up B (env::outer) a C a0 h'->s.heap.UpToSlots h'->Q () { s with heap:=h' }):wpAny M A (noteFrame (.ref a) env) Q E s:=by
 obtain ⟨t,he,_,_⟩:=made.there
 have ne:B.get? a=none:=by
  cases q:B.get? a with
  | none=>rfl
  | some o=>have:=st _ _ q;rw [made.new] at this;cases this
 unfold noteFrame
 simp only [hf]
 refine wpAny_bind (wpAny_field he rfl (x:=.none) rfl ?_)
 rw [if_neg (by simp)]
 refine wpAny_entryW (base:=B) (a0:=.ref t) hfr (hl.of_keeps fun b o hb _=>⟨o,made.keeps b o hb,rfl⟩) hf he (fun b o e=>made.keeps b o (st b o e)) ne rfl (show 1<6 by decide) rfl fun h' nw=>?_
 obtain ⟨x1,x2,x3,x4⟩:=nw
 exact k _ h' ⟨x1,ne,x2,_,x3⟩ x4
theorem rN {X:Cx} {E:XS} (fr:qF X) (fo:∀ e s,X.xe e s->jL X E e s\/E1 X E e s) (fx:∀ e s,jL X E e s->X.xe e s):PassesOwn (model X.prog X.w) X.A X.env X.xe:=by
 intro e s q
 obtain ⟨lO,nB,L,hst,HP,Nm⟩:=fr
 rcases fo e s q with q | q
 ·obtain ⟨pins,σ,H,a,a0,C,B,rfl,I,up,fH,hp,q⟩:=q
  show wpAny _ X.A (noteFrame (.ref a) X.env) _ _ s
  rw [nG (env:=X.env) (env':=lO) (Nm.trans HP.symm)]
  refine Up.note (env:=lO) (outer:=nB) (by rw [I.ok.frames,hst]) HP (by rw [<- hst];exact up) fun h4 held xQ=>?_
  refine (Up.um held).back fun h5 E5 Be=>fx _ _ ?_
  have J:=j5 I fH hp up.1 E5.1 (xQ.trans Be)
  have up':Up B X.stack a C a0 h5:=by rw [hst];exact E5
  exact ⟨[],σ,H,a,a0,C,B,rfl,J,up',fH,hp,q⟩
 ·obtain ⟨pins,σ,H,a,C,vs,h,rfl,I,made,q⟩:=q
  show wpAny _ X.A (noteFrame (.ref a) X.env) _ _ s
  rw [nG (env:=X.env) (env':=lO) (Nm.trans HP.symm)]
  have jM:(W.hideAll h (frs X.stack)).StaysIn h:=fun b o q=>W.of_hideAll _ q
  have fH:Calm (W.hideAll h (frs X.stack)) (frs X.stack) X.ex H X.s₀.heap:=fun b hb hf=>by
   have:∃ o,h.get? b=some o:=by
    rcases hb with hb | ⟨⟨o,hb⟩,nx⟩
    ·cases e:H b with
     | none=>exact absurd e hb
     | some o=>exact mz (I.hok b o e)
    ·exact gh I hb nx
   obtain ⟨o,e⟩:=this
   exact ⟨o,W.hideAll_get _ e hf⟩
  have hp:∀ p∈X.pn,(W.hideAll h (frs X.stack)).get? p.1=some p.2:=fun p hp=>by
   obtain ⟨p1,p2,p3,p4,_⟩:=I.pin p (List.mem_append_left _ hp)
   refine W.hideAll_get _ p1 fun z=>?_
   rcases List.mem_cons.mp (I.eF _ z) with e | z
   ·exact p3 e
   ·exact p4 z
  have hl:h.FunFrames (W.hideAll h (frs X.stack)) X.stack:=W.funFrames_hide I.stack fun env he b hb=>List.mem_filterMap.mpr ⟨env,he,hb⟩
  refine yO (env:=lO) (outer:=nB) (by rw [show X.A.frames=some X.stack from I.ok.frames,hst]) HP made jM (hst ▸ hl) fun a0 h4 up4 xQ=>?_
  refine up4.back fun h5 E5 Be=>fx _ _ ?_
  have sm:h.UpToSlots h5:=(Heap.UpToSlots.of_keeps made.keeps).trans (xQ.trans Be)
  have J:=j5 I fH hp jM E5.1 sm
  have up':Up (W.hideAll h (frs X.stack)) X.stack a C a0 h5:=by
   have z:∀ l,l=X.stack->Up (W.hideAll h (frs X.stack)) l a C a0 h5->Up (W.hideAll h (frs X.stack)) X.stack a C a0 h5:=fun l e u=>e ▸ u
   exact z _ hst.symm E5
  exact ⟨[],σ,H,a,a0,C,_,rfl,J,up',fH,hp,q⟩
end Fg
end
section
namespace Fg
open PySem L2
mutual
noncomputable def DV (K:W.Frag) (H:Hp):D->V->Prop
 | .ak,v=>v=.ak
 | .bl b,v=>v=.bl b
 | .int i,v=>v=.int i
 | .str x,v=>v=.str x
 | .tup ds,v=>∃ a vs,v=.ref a/\ic K H a vs/\ig K H ds vs
 | .lst ds,v=>∃ a vs,v=.ref a/\fJ K H a vs/\ig K H ds vs
 | .dct _ _,_=>False
 | .ref _,_=>False
noncomputable def ig (K:W.Frag) (H:Hp):List D->List V->Prop
 | [],vs=>vs=[]
 | d::ds,vs=>∃ v ws,vs=v::ws/\DV K H d v/\ig K H ds ws
end
section
variable {B:Bd} {Φ:bz} {E:Gx} {F F' F1:Addr->Prop} {ρ ρ' ρ1:List Addr} {H H' H1:Hp} {M M':MH} {σD:Sg} {σ:St} {Q:VK}
mutual
theorem RD.dv:∀ {d:D} {v:V},plain d=true->RD B F ρ H d v->DV B.K H d v
 | .ak,v,_,h=>by simp only [RD] at h;simp only [DV];exact h
 | .bl _,v,_,h=>by simp only [RD] at h;simp only [DV];exact h
 | .int _,v,_,h=>by simp only [RD] at h;simp only [DV];exact h
 | .str _,v,_,h=>by simp only [RD] at h;simp only [DV];exact h
 | .tup ds,v,p,h=>by
  simp only [RD] at h;simp only [DV];simp only [plain] at p
  obtain ⟨a,vs,h1,h2,h3⟩:=h
  exact ⟨a,vs,h1,h2.sq,aj.dv p h3⟩
 | .lst ds,v,p,h=>by
  simp only [RD] at h;simp only [DV];simp only [plain] at p
  obtain ⟨a,vs,h1,h2,h3⟩:=h
  exact ⟨a,vs,h1,h2.sq,aj.dv p h3⟩
 | .dct _ _,v,p,h=>by simp [plain] at p
 | .ref _,v,p,h=>by simp [plain] at p
theorem aj.dv:∀ {ds:List D} {vs:List V},aL ds=true->aj B F ρ H ds vs->ig B.K H ds vs
 | [],vs,_,h=>by simp only [aj] at h;simp only [ig];exact h
 | d::ds,vs,p,h=>by
  simp only [aj] at h;simp only [ig];simp only [aL,Bool.and_eq_true] at p
  obtain ⟨v,ws,h1,h2,h3⟩:=h
  exact ⟨v,ws,h1,RD.dv p.1 h2,aj.dv p.2 h3⟩
end
theorem xB {d:D} {v:V} (S:SR B F ρ M H) (p:plain (top M d)=true) (h:RD B F ρ H d v):DV B.K H (top M d) v:=by
 cases d with
 | ref n =>
  cases hM:M[n]? with
  | none=>simp [top,hM,plain] at p
  | some o =>
   cases o with
   | lst ds =>
    obtain ⟨a,vs,e,q,r⟩:=bh (ds:=ds) S h (by simp only [vw,hM])
    simp only [top,hM,plain] at p
    simp only [top,hM,DV]
    exact ⟨a,vs,e,q,aj.dv p r⟩
   | dct _=>simp [top,hM,plain] at p
   | oH _=>simp [top,hM,plain] at p
   | ins _ _=>simp [top,hM,plain] at p
 | tup ds=>exact RD.dv p h
 | lst ds=>exact RD.dv p h
 | dct _ _=>exact RD.dv p h
 | ak=>exact RD.dv p h
 | bl _=>exact RD.dv p h
 | int _=>exact RD.dv p h
 | str _=>exact RD.dv p h
noncomputable def ym (K:W.Frag) (neg:Bool):R2:=fun x y H Q=>∃ d e,DV K H d x/\DV K H e y/\cE d e=true/\Q (.bl (if neg then !aH d e else aH d e)) H
noncomputable def yk (K:W.Frag) (neg:Bool):R2:=fun x y H Q=>∃ l b xs,x=.ref l/\y=.ref b/\fJ K H l xs/\fJ K H b []/\Q (.bl (if neg then !xs.isEmpty else xs.isEmpty)) H
noncomputable def BP (neg:Bool):R2:=fun x y H Q=>∃ a b,x=.bl a/\y=.bl b/\Q (.bl (if neg then !(a == b) else (a == b))) H
noncomputable def yo (B:Bd) (neg:Bool):R2:=fun x y H Q=>∃ a kvs k,y=.ref a/\x=kV k/\IX B H a kvs/\Q (.bl (if neg then !(cF kvs k).isSome else (cF kvs k).isSome)) H
noncomputable def rG (B:Bd):AJ->R2
 | .lt=>rF fun i j=>.bl (decide (i<j))
 | .le=>rF fun i j=>.bl (decide (i<=j))
 | .gt=>rF fun i j=>.bl (decide (j<i))
 | .ge=>rF fun i j=>.bl (decide (j<=i))
 | .eq=>fun x y H Q=>BP false x y H Q\/(ym B.K false x y H Q\/yk B.K false x y H Q)
 | .ne=>fun x y H Q=>BP true x y H Q\/(ym B.K true x y H Q\/yk B.K true x y H Q)
 | .AS=>fun x y H Q=>y=.ak/\Q (.bl (decide (x=.ak))) H
 | .lI=>fun x y H Q=>y=.ak/\Q (.bl (!decide (x=.ak))) H
 | .isin=>fun x y H Q=>yo B false x y H Q\/Ke B.K false x y H Q
 | .pP=>fun x y H Q=>yo B true x y H Q\/Ke B.K true x y H Q
theorem nK {d:D} {v:V} {k:Ky} (h:keyOf d=some k) (r:RD B F ρ H d v):v=kV k:=by
 cases d with
 | int i=>simp only [keyOf] at h;cases h;simp only [RD] at r;exact r
 | str x=>simp only [keyOf] at h;cases h;simp only [RD] at r;exact r
 | ak=>simp only [keyOf] at h;cases h
 | bl _=>simp only [keyOf] at h;cases h
 | tup _=>simp only [keyOf] at h;cases h
 | lst _=>simp only [keyOf] at h;cases h
 | dct _ _=>simp only [keyOf] at h;cases h
 | ref _=>simp only [keyOf] at h;cases h
theorem nX {d:D} {v:V} (h:flat d=true) (r:RD B F ρ H d v):gK v=true:=by
 cases d <;> first | (simp only [RD] at r;subst r;rfl) | (simp only [flat] at h;cases h)
theorem qd {ds:List D}:∀ {vs:List V},ds.all flat=true->aj B F ρ H ds vs->vs.all gK=true:=by
 induction ds with
 | nil=>intro vs _ r;simp only [aj] at r;subst r;rfl
 | cons d ds ih =>
  intro vs h r
  simp only [aj] at r
  obtain ⟨v,ws,rfl,r1,r2⟩:=r
  simp only [List.all_cons,Bool.and_eq_true] at h ⊢
  exact ⟨nX h.1 r1,ih h.2 r2⟩
theorem C9 {d e:D} {v w:V} (h1:flat d=true) (h2:flat e=true) (r1:RD B F ρ H d v) (r2:RD B F ρ H e w):aH d e=AW v w:=by
 cases d <;> first | (simp only [flat] at h1;cases h1;done) | skip
 all_goals (cases e <;> first | (simp only [flat] at h2;cases h2;done) | skip)
 all_goals (simp only [RD] at r1 r2;subst r1 r2;simp only [aH,AW])
 all_goals first | rfl | simp [Bool.beq_eq_decide_eq]
theorem vn {d:D} {v:V} (h1:flat d=true) (r1:RD B F ρ H d v) {ds:List D}:∀ {vs:List V},ds.all flat=true->aj B F ρ H ds vs->(ds.any fun e=>aH e d)=K7 v vs:=by
 induction ds with
 | nil=>intro vs _ r;simp only [aj] at r;subst r;rfl
 | cons e ds ih =>
  intro vs h r
  simp only [aj] at r
  obtain ⟨w,ws,rfl,q1,q2⟩:=r
  simp only [List.all_cons,Bool.and_eq_true] at h
  simp only [List.any_cons,K7,C9 h.1 h1 q1 r1]
  have:=ih h.2 q2
  simp only [K7] at this
  rw [this]
theorem zA {neg:Bool} {x y:D} {v w:V} {X:XK} {t:Bool} (S:SR B F ρ M H) (rx:RD B F ρ H x v) (ry:RD B F ρ H y w) (hi:zB M x y=some t)
  (h:Post B (.ok (.bl (if neg then !t else t)) M) F ρ H Q X):yo B neg v w H Q\/Ke B.K neg v w H Q:=by
 unfold zB at hi
 split at hi
 ·rename_i cA hv
  split at hi
  ·rename_i k hk
   cases hi
   obtain ⟨a,kvs,rfl,q,e1,e2⟩:=mX S ry hv
   have:=(kK (k:=k) e1 e2).2.2
   refine .inl ⟨a,kvs,k,rfl,nK hk rx,q,?_⟩
   rw [<- this]
   exact ah.run h S (by simp only [RD])
  ·cases hi
 ·rename_i ds hv
  split at hi
  ·rename_i hf
   cases hi
   simp only [Bool.and_eq_true] at hf
   obtain ⟨a,vs,rfl,q,r⟩:=bh S ry hv
   refine .inr ⟨a,vs,rfl,.inl q,nX hf.1 rx,qd hf.2 r,?_⟩
   rw [<- vn hf.1 rx hf.2 r]
   exact ah.run h S (by simp only [RD])
  ·cases hi
 ·rename_i ds hv
  split at hi
  ·rename_i hf
   cases hi
   simp only [Bool.and_eq_true] at hf
   obtain ⟨a,vs,rfl,q,r⟩:=i0 S ry hv
   refine .inr ⟨a,vs,rfl,.inr q,nX hf.1 rx,qd hf.2 r,?_⟩
   rw [<- vn hf.1 rx hf.2 r]
   exact ah.run h S (by simp only [RD])
  ·cases hi
 ·cases hi
theorem j7 {f:D->D} (ih:∀ (d:D) (v:V),plain (f d)=true->RD B F ρ H d v->DV B.K H (f d) v):∀ (ds:List D) (vs:List V),aL (ds.map f)=true->aj B F ρ H ds vs->ig B.K H (ds.map f) vs
 | [],vs,p,h=>by simp only [aj] at h;simp only [List.map_nil,ig];exact h
 | d::ds,vs,p,h=>by
  simp only [aj] at h;simp only [List.map_cons,ig];simp only [List.map_cons,aL,Bool.and_eq_true] at p
  obtain ⟨v,ws,h1,h2,h3⟩:=h
  exact ⟨v,ws,h1,ih d v p.1 h2,j7 ih ds ws p.2 h3⟩
theorem uY (S:SR B F ρ M H) (n:Nat):∀ (d:D) (v:V),plain (deep n M d)=true->RD B F ρ H d v->DV B.K H (deep n M d) v:=by
 induction n with
 | zero=>intro d v p h;exact RD.dv p h
 | succ n ih =>
  intro d v p h
  cases d with
  | ref r =>
   cases hM:M[r]? with
   | none=>simp [deep,hM,plain] at p
   | some o =>
    cases o with
    | lst ds =>
     obtain ⟨a,vs,e,q,r⟩:=bh (ds:=ds) S h (by simp only [vw,hM])
     simp only [deep,hM,plain] at p
     simp only [deep,hM,DV]
     exact ⟨a,vs,e,q,j7 ih ds vs p r⟩
    | dct _=>simp [deep,hM,plain] at p
    | oH _=>simp [deep,hM,plain] at p
    | ins _ _=>simp [deep,hM,plain] at p
  | tup ds =>
   simp only [RD] at h;simp only [deep,plain] at p;simp only [deep,DV]
   obtain ⟨a,vs,h1,h2,h3⟩:=h
   exact ⟨a,vs,h1,h2.sq,j7 ih ds vs p h3⟩
  | lst ds =>
   simp only [RD] at h;simp only [deep,plain] at p;simp only [deep,DV]
   obtain ⟨a,vs,h1,h2,h3⟩:=h
   exact ⟨a,vs,h1,h2.sq,j7 ih ds vs p h3⟩
  | dct _ _=>simp [deep,plain] at p
  | ak=>exact RD.dv p h
  | bl _=>exact RD.dv p h
  | int _=>exact RD.dv p h
  | str _=>exact RD.dv p h
theorem uM (neg:Bool) {x y:D} {v w:V} {X:XK} (S:SR B F ρ M H) (rx:RD B F ρ H x v) (ry:RD B F ρ H y w) (h:Post B (if cE (top M x) (top M y) then .ok (.bl (if neg then !aH (top M x) (top M y) else aH (top M x) (top M y))) M else (match rQ M x y with | some t=>.ok (.bl (if neg then !t else t)) M | none=>LD M neg x y)) F ρ H Q X):ym B.K neg v w H Q\/yk B.K neg v w H Q:=by
 split at h
 ·rename_i hc
  have hc':=hc
  simp only [cE,Bool.and_eq_true] at hc'
  exact .inl ⟨_,_,xB S hc'.1.1 rx,xB S hc'.1.2 ry,hc,ah.run h S (by simp only [RD])⟩
 ·cases hn:rQ M x y with
  | none =>
   rw [hn] at h
   replace h:Post B (LD M neg x y) F ρ H Q X:=h
   unfold LD at h
   split at h
   ·rename_i hc
    have hc':=hc
    simp only [cE,Bool.and_eq_true] at hc'
    exact .inl ⟨_,_,uY S 120 _ _ hc'.1.1 rx,uY S 120 _ _ hc'.1.2 ry,hc,ah.run h S (by simp only [RD])⟩
   ·exact h.elim
  | some t =>
   rw [hn] at h
   unfold rQ at hn
   split at hn
   ·rename_i xs ys hx hy
    split at hn
    ·rename_i he
     cases hn
     obtain ⟨a,vs,rfl,q1,r1⟩:=bh S rx hx
     obtain ⟨b,ws,rfl,q2,r2⟩:=bh S ry hy
     have l1:=aj.length r1
     have l2:=aj.length r2
     have e2:ws=[]:=by
      rw [List.isEmpty_iff] at he
      subst he
      exact List.eq_nil_of_length_eq_zero l2.symm
     have e1:vs.isEmpty=xs.isEmpty:=by
      cases xs <;> cases vs <;> first | rfl | (simp at l1;done)
     subst e2
     refine .inr ⟨a,b,vs,rfl,rfl,q1,q2,?_⟩
     rw [e1]
     exact ah.run h S (by simp only [RD])
    ·cases hn
   ·cases hn
theorem j4 {f:Int->Int->Bool} {x y:D} {v w:V} {X:XK} (S:SR B F ρ M H) (rx:RD B F ρ H x v) (ry:RD B F ρ H y w) (h:Post B (sM M f x y) F ρ H Q X):rF (fun i j=>.bl (f i j)) v w H Q:=by
 cases x with
 | int i=>cases y with
  | int j=>simp only [RD] at rx ry;subst rx ry;exact ⟨_,_,rfl,rfl,ah.run h S (by simp only [RD])⟩
  | _=>exact h.elim
 | _=>exact h.elim
theorem kP {x:D} {v:V} (r:RD B F ρ H x v):dj x=decide (v=.ak):=by
 cases x <;> first | (simp only [RD] at r;subst r;rfl) | (simp only [RD] at r;obtain ⟨_,r⟩:=r;first | (obtain ⟨_,rfl,_⟩:=r;rfl) | (obtain ⟨_,rfl⟩:=r;rfl) | (obtain ⟨_,_,rfl,_⟩:=r;rfl))
theorem Aq {o:AJ} {x y:D} {v w:V} {X:XK} (S:SR B F ρ M H) (rx:RD B F ρ H x v) (ry:RD B F ρ H y w) (h:Post B (bJ o M x y) F ρ H Q X):rG B o v w H Q:=by
 have eb:∀ {p:Bool×Bool},w5 x y=some p->x=.bl p.1/\y=.bl p.2:=fun {p} hb=>by
  cases x with
  | bl a=>cases y with
   | bl b=>cases hb;exact ⟨rfl,rfl⟩
   | _=>cases hb
  | _=>cases hb
 have nn:dj y=true->w=.ak:=fun q=>by
  have:=kP ry
  rw [q] at this
  exact of_decide_eq_true this.symm
 cases o with
 | lt=>exact j4 S rx ry h
 | le=>exact j4 S rx ry h
 | gt=>exact j4 S rx ry h
 | ge=>exact j4 S rx ry h
 | eq =>
  cases hb:w5 x y with
  | some p =>
   obtain ⟨rfl,rfl⟩:=eb hb
   simp only [RD] at rx ry;subst rx ry
   exact .inl ⟨_,_,rfl,rfl,ah.run h S (by simp only [RD];rfl)⟩
  | none =>
   simp only [bJ,hb] at h
   exact .inr (uM false S rx ry h)
 | ne =>
  cases hb:w5 x y with
  | some p =>
   obtain ⟨rfl,rfl⟩:=eb hb
   simp only [RD] at rx ry;subst rx ry
   exact .inl ⟨_,_,rfl,rfl,ah.run h S (by simp only [RD];rfl)⟩
  | none =>
   simp only [bJ,hb] at h
   exact .inr (uM true S rx ry h)
 | AS =>
  cases hn:dj y with
  | false=>simp only [bJ,hn] at h;exact h.elim
  | true =>
   simp only [bJ,hn,if_true] at h
   refine ⟨nn hn,?_⟩
   rw [<- kP rx]
   exact ah.run h S (by simp only [RD])
 | lI =>
  cases hn:dj y with
  | false=>simp only [bJ,hn] at h;exact h.elim
  | true =>
   simp only [bJ,hn,if_true] at h
   refine ⟨nn hn,?_⟩
   rw [<- kP rx]
   exact ah.run h S (by simp only [RD])
 | isin =>
  cases hi:zB M x y with
  | none=>simp only [bJ,hi] at h;exact h.elim
  | some t=>simp only [bJ,hi] at h;exact zA (neg:=false) S rx ry hi h
 | pP =>
  cases hi:zB M x y with
  | none=>simp only [bJ,hi] at h;exact h.elim
  | some t=>simp only [bJ,hi] at h;exact zA (neg:=true) S rx ry hi h
theorem tQ {o:AJ} {a b:Fg.E} (h:T B Φ E (.cmp o a b) σ H Q):Fb (rG B o) (T B Φ E a) (T B Φ E b) σ H Q:=by
 obtain ⟨σD,M,F,ρ,S,r,h⟩:=h
 simp only [ev] at h
 exact T.two S r rfl h fun x y M2 F2 ρ2 H2 v w S2 _ rx ry h2=>Aq S2 rx ry h2
theorem zo (n:Nat) (i:Int):Eo n i=Ji n i:=rfl
theorem AD {ds:List D} {vs:List V} {i:Int} {d:D} (r:aj B F ρ H ds vs) (h:qM ds i=some d):∃ v,IT vs i=some v/\RD B F ρ H d v:=by
 unfold qM at h
 unfold IT
 rw [<- aj.length r]
 cases hx:Eo ds.length i with
 | none=>rw [hx] at h;cases h
 | some j =>
  rw [hx] at h
  rw [zo] at hx
  rw [hx]
  exact aj.get r h
noncomputable def Ka (B:Bd):R2:=fun x y H Q=>∃ a kvs k v,x=.ref a/\y=kV k/\IX B H a kvs/\cF kvs k=some v/\Q v H
noncomputable def BO (B:Bd):R2:=fun x y H Q=>J9 B.K x y H Q\/(J7 B.K x y H Q\/(J8 x y H Q\/Ka B x y H Q))
theorem zC {x y:D} {v w:V} {X:XK} (S:SR B F ρ M H) (rx:RD B F ρ H x v) (ry:RD B F ρ H y w) (h:Post B (pZ M x y) F ρ H Q X):BO B v w H Q:=by
 unfold pZ at h
 split at h
 ·simp only [RD] at rx ry;subst rx ry
  split at h
  ·rename_i hl
   split at h
   ·rename_i c hc
    exact .inr (.inr (.inl ⟨_,_,c,rfl,rfl,Nat.le_trans (of_decide_eq_true hl) bL,hc,ah.run h S (by simp only [RD])⟩))
   ·exact h.elim
  ·exact h.elim
 ·split at h
  ·rename_i ds i hv _
   split at h
   ·rename_i d hd
    obtain ⟨a,vs,rfl,q,r⟩:=i0 S rx hv
    simp only [RD] at ry;subst ry
    obtain ⟨u,h1,h2⟩:=AD r hd
    exact .inr (.inl ⟨a,vs,i,u,rfl,rfl,q,h1,ah.run h S h2⟩)
   ·exact h.elim
  ·rename_i ds i hv _
   split at h
   ·rename_i d hd
    obtain ⟨a,vs,rfl,q,r⟩:=bh S rx hv
    simp only [RD] at ry;subst ry
    obtain ⟨u,h1,h2⟩:=AD r hd
    exact .inl ⟨a,vs,i,u,rfl,rfl,q,h1,ah.run h S h2⟩
   ·exact h.elim
  ·rename_i cA hv _
   split at h
   ·rename_i k hk
    split at h
    ·rename_i d hd
     obtain ⟨a,kvs,rfl,q,e1,e2⟩:=mX S rx hv
     obtain ⟨u,h1,h2⟩:=(kK (k:=k) e1 e2).1 d hd
     exact .inr (.inr (.inr ⟨a,kvs,k,u,rfl,nK hk ry,q,h1,ah.run h S h2⟩))
    ·exact h.elim
   ·exact h.elim
  ·exact h.elim
theorem By {a b:Fg.E} (h:T B Φ E (.idx a b) σ H Q):Fb (BO B) (T B Φ E a) (T B Φ E b) σ H Q:=by
 obtain ⟨σD,M,F,ρ,S,r,h⟩:=h
 simp only [ev] at h
 exact T.two S r rfl h fun x y M2 F2 ρ2 H2 v w S2 _ rx ry h2=>zC S2 rx ry h2
theorem xS (n d:Nat) (o:Option Int):six n d o=HT.cz n d o:=by cases o <;> rfl
theorem vc {ds:List D} {vs:List V} (r:aj B F ρ H ds vs) (lo hi:Option Int):aj B F ρ H (dg ds lo hi) (qx vs lo hi):=by
 unfold dg qx
 rw [aj.length r]
 simp only [xS]
 exact aj.take _ (aj.drop _ r)
noncomputable def J4:V->Option Int->Option Int->Hp->VK->Prop:=fun x lo hi H Q=>∃ z,x=.str z/\z.length<=sizeLine/\Q (.str (cuts z lo hi)) H
noncomputable def BN (B:Bd):V->Option Int->Option Int->Hp->VK->Prop:=fun x lo hi H Q=>J5 B.K x lo hi H Q\/(J3 B.K x lo hi H Q\/J4 x lo hi H Q)
theorem Bg {fz:Bool} {x:D} {v:V} {lo hi:Option Int} {X:XK} (S:SR B F ρ M H) (rx:RD B F ρ H x v) (h:Post B (sl2 fz M x lo hi) F ρ H Q X):BN B v lo hi H Q:=by
 unfold sl2 at h
 split at h
 ·simp only [RD] at rx;subst rx
  split at h
  ·rename_i hl
   exact .inr (.inr ⟨_,rfl,Nat.le_trans (of_decide_eq_true hl) bL,ah.run h S (by simp only [RD])⟩)
  ·exact h.elim
 ·split at h
  ·rename_i ds hv
   cases x with
   | tup xs =>
    simp only [vw] at hv;cases hv
    simp only [RD] at rx
    obtain ⟨a,vs,rfl,z,r⟩:=rx
    split at h
    ·exact h.elim
    ·rename_i hf
     refine .inr (.inl ⟨a,vs,rfl,z.sq,fun q=>hf ?_,jV S h (vc r lo hi)⟩)
     simp only [jC,Bool.and_eq_true,decide_eq_true_eq,xS,aj.length r]
     exact q
   | ref n=>simp only [vw] at hv;split at hv <;> cases hv
   | lst _=>simp only [vw] at hv;cases hv
   | dct _ _=>simp only [vw] at hv;cases hv
   | ak=>simp only [vw] at hv;cases hv
   | bl _=>simp only [vw] at hv;cases hv
   | int _=>simp only [vw] at hv;cases hv
   | str _=>simp only [vw] at hv;cases hv
  ·rename_i ds hv
   obtain ⟨a,vs,rfl,q,r⟩:=bh S rx hv
   exact .inl ⟨a,vs,rfl,q,cR S h (vc r lo hi)⟩
  ·exact h.elim
theorem FA {Q:Option Int->Hp->Prop} (h:TP B Φ E .none σ H Q):tE σ H Q:=by
 obtain ⟨σD,M,F,ρ,S,r,h⟩:=h
 simp only [CY] at h
 exact ah.run h S rfl
theorem Fz {a:Fg.E} {Q:Option Int->Hp->Prop} (h:TP B Φ E (.some a) σ H Q):DQ (T B Φ E a) σ H Q:=by
 obtain ⟨σD,M,F,ρ,S,r,h⟩:=h
 simp only [CY] at h
 refine ⟨σD,M,F,ρ,S,r,ah.imp (ah.bind (rel:=RD B) h) fun v H1 ⟨x,M1,F1,ρ1,e1,S1,rx,h1⟩=>?_⟩
 split at h1
 ·simp only [RD] at rx;subst rx
  exact ⟨_,rfl,ah.run h1 S1 rfl⟩
 ·exact h1.elim
theorem Fw {fz:Bool} {a:Fg.E} {lo hi:O} (h:T B Φ E (.sl fz a lo hi) σ H Q):tSl (BN B) (T B Φ E a) (TP B Φ E lo) (TP B Φ E hi) σ H Q:=by
 obtain ⟨σD,M,F,ρ,S,r,h⟩:=h
 simp only [ev] at h
 refine T.one S r rfl h fun x M1 F1 ρ1 H1 v e1 S1 r1 rx h1=>?_
 refine ⟨σD,M1,F1,ρ1,S1,r1,ah.imp (ah.bind (rel:=fun _ _ _ (a b:Option Int)=>a=b) h1) fun l H2 ⟨l',M2,F2,ρ2,e2,S2,el,h2⟩=>?_⟩
 refine ⟨σD,M2,F2,ρ2,S2,r1.mono e2,ah.imp (ah.bind (rel:=fun _ _ _ (a b:Option Int)=>a=b) h2) fun u H3 ⟨u',M3,F3,ρ3,e3,S3,eu,h3⟩=>?_⟩
 subst el eu
 exact Bg S3 (RD.mono e3 _ _ (RD.mono e2 _ _ rx)) h3
theorem vt {M:MH} {d:D} {ds:List D} (h:vw M d=.tup ds):d=.tup ds:=by
 cases d with
 | tup xs=>simp only [vw] at h;cases h;rfl
 | ref n=>simp only [vw] at h;split at h <;> cases h
 | lst _=>simp only [vw] at h;cases h
 | dct _ _=>simp only [vw] at h;cases h
 | ak=>simp only [vw] at h;cases h
 | bl _=>simp only [vw] at h;cases h
 | int _=>simp only [vw] at h;cases h
 | str _=>simp only [vw] at h;cases h
theorem uC:∀ {ds:List D} {vs:List V} {ns:List Int},aj B F ρ H ds vs->intsOf ds=some ns->vs=ns.map V.int
 | [],vs,ns,r,h=>by simp only [intsOf] at h;cases h;simp only [aj] at r;subst r;rfl
 | d::ds,vs,ns,r,h=>by
  cases d with
  | int i =>
   simp only [intsOf] at h
   cases hx:intsOf ds with
   | none=>rw [hx] at h;cases h
   | some ms =>
    rw [hx] at h;cases h
    simp only [aj] at r
    obtain ⟨v,ws,rfl,r1,r2⟩:=r
    simp only [RD] at r1;subst r1
    rw [uC r2 hx];rfl
  | _=>simp [intsOf] at h
noncomputable def FY (B:Bd):List V->Hp->VK->Prop:=fun xs H Q=>(∃ z,xs=[.str z]/\z.length<=sizeLine/\Q (.int z.length) H)\/((∃ p ys,xs=[.ref p]/\(fJ B.K H p ys\/ic B.K H p ys)/\Q (.int ys.length) H)\/(∃ a kvs,xs=[.ref a]/\IX B H a kvs/\Q (.int kvs.length) H))
noncomputable def rSum (B:Bd):List V->Hp->VK->Prop:=fun xs H Q=>∃ (p:Addr) (ns:List Int),xs=[.ref p]/\fJ B.K H p (ns.map V.int)/\Q (.int ns.sum) H
noncomputable def FT (B:Bd):List V->Hp->VK->Prop:=fun xs H Q=>∃ p ys,xs=[.ref p]/\((fJ B.K H p ys/\∀ l,H l=none->Q (.ref l) (upd H l (.tup ys)))\/(ic B.K H p ys/\Q (.ref p) H))
noncomputable def FW (B:Bd):List V->Hp->VK->Prop:=fun xs H Q=>∃ p ys,xs=[.ref p]/\(fJ B.K H p ys\/ic B.K H p ys)/\∀ l,H l=none->Q (.ref l) (upd H l (.lst ys))
noncomputable def yp (B:Bd):List V->Hp->VK->Prop:=fun xs H Q=>∃ p kvs,xs=[.ref p]/\IX B H p kvs/\∀ l,H l=none->Q (.ref l) (upd H l (.dK kvs))
noncomputable def rBl (B:Bd):Bl->List V->Hp->VK->Prop
 | .len=>FY B
 | .sum=>rSum B
 | .tuple=>FT B
 | .list=>FW B
 | .dict=>yp B
 | _=>fun _ _ _=>False
theorem FQ {d:D} {vs:List V} (r:aj B F ρ H [d] vs):∃ v,vs=[v]/\RD B F ρ H d v:=by
 simp only [aj] at r
 obtain ⟨v,ws,rfl,r1,rfl⟩:=r
 exact ⟨v,rfl,r1⟩
theorem AA {b:Bl} {fz:Bool} {ds:List D} {vs:List V} {X:XK} (S:SR B F ρ M H) (r:aj B F ρ H ds vs) (h:Post B (wN b fz M ds) F ρ H Q X):rBl B b vs H Q:=by
  unfold wN at h
  split at h
  . obtain ⟨v,rfl,r1⟩:=FQ r
    simp only [RD] at r1;subst r1
    cases b <;> simp only at h <;> first
      | exact h.elim
      | (split at h
         . rename_i hl
           exact .inl ⟨_,rfl,Nat.le_trans (of_decide_eq_true hl) bL,ah.run h S (by simp only [RD])⟩
         . exact h.elim)
  . obtain ⟨v,rfl,r1⟩:=FQ r
    split at h
    . rename_i hv
      obtain ⟨a,ws,rfl,q,rr⟩:=i0 S r1 hv
      exact .inr (.inl ⟨a,ws,rfl,.inr q,ah.run h S (by simp only [RD,aj.length rr])⟩)
    . rename_i hv
      obtain ⟨a,ws,rfl,q,rr⟩:=bh S r1 hv
      exact .inr (.inl ⟨a,ws,rfl,.inl q,ah.run h S (by simp only [RD,aj.length rr])⟩)
    . rename_i hv
      obtain ⟨a,kvs,rfl,q,e1,e2⟩:=mX S r1 hv
      refine .inr (.inr ⟨a,kvs,rfl,q,ah.run h S ?_⟩)
      have:=congrArg List.length e1
      simp only [List.length_map] at this
      simp only [RD,this]
    . rename_i hv
      split at h
      . rename_i ns hn
        obtain ⟨a,ws,rfl,q,rr⟩:=bh S r1 hv
        have:=uC rr hn
        subst this
        exact ⟨a,ns,rfl,q,ah.run h S (by simp only [RD])⟩
      . exact h.elim
    . rename_i hv
      obtain ⟨a,ws,rfl,q,rr⟩:=bh S r1 hv
      exact ⟨a,ws,rfl,.inl ⟨q,jV S h rr⟩⟩
    . rename_i hv
      have ed:=vt hv
      subst ed
      have r1':=r1
      simp only [RD] at r1'
      obtain ⟨a,ws,rfl,q,rr⟩:=r1'
      exact ⟨a,ws,rfl,.inr ⟨q.sq,ah.run h S r1⟩⟩
    . rename_i hv
      obtain ⟨a,ws,rfl,q,rr⟩:=bh S r1 hv
      exact ⟨a,ws,rfl,.inl q,cR S h rr⟩
    . rename_i hv
      obtain ⟨a,ws,rfl,q,rr⟩:=i0 S r1 hv
      exact ⟨a,ws,rfl,.inr q,cR S h rr⟩
    . rename_i cA hv
      obtain ⟨a,kvs,rfl,q,e1,e2⟩:=mX S r1 hv
      refine ⟨a,kvs,rfl,q,fun p hp=>?_⟩
      have e0:Ext F ρ H F (ρ++[p]) (upd H p (.dK kvs)):=⟨⟨S.sep,fun _ q=>q,fun a q _=>ao (by rintro rfl;exact q hp),List.prefix_append _ _,fun a q=>by
        rcases List.mem_append.mp q with q | q
        . exact .inl q
        . rw [List.mem_singleton.mp q];exact .inr hp,fun _ q=>.inl q⟩,fun b w u q=>by rw [ao (by rintro rfl;rw [hp] at q;cases q)];exact q⟩
      obtain ⟨S',e⟩:=S.lv (o:=.dK kvs) (u:=.dct cA) hp ⟨kvs,ay,e1,aj.mono e0 _ _ e2⟩
      refine h _ _ _ _ e S' ?_
      simp only [RD]
      refine ⟨p,?_,rfl⟩
      rw [<- S.len,List.getElem?_append_right (Nat.le_refl _),Nat.sub_self];rfl
    . exact h.elim
  . exact h.elim
theorem tR {b:Bl} {fz:Bool} {es:Es} (h:T B Φ E (.blt b fz es) σ H Q):Fc (rBl B b) (TL B Φ E es) σ H Q:=by
 obtain ⟨σD,M,F,ρ,S,r,h⟩:=h
 simp only [ev] at h
 exact TL.one S r rfl h fun x M1 F1 ρ1 H1 v _ S1 _ rx h1=>AA S1 rx h1
end
end Fg
end
section
namespace Fg
open PySem L2
noncomputable def Mx (B:Bd) (o:Out) (F:Addr->Prop) (ρ:List Addr) (H:Hp) (Dn:Ends) (E:Gx):Prop :=
 match o with
 | .nx σD=>∀ σ,RS B F ρ H σD σ->Dn.nx σ H
 | .rt d=>∀ v,RD B F ρ H d v->Dn.rt v H
 | .bk σD=>∀ σ,RS B F ρ H σD σ->Dn.bk σ H
 | .ct σD=>∀ σ,RS B F ρ H σD σ->Dn.ct σ H
 | .xc c σD=>∀ σ cv x,RS B F ρ H σD σ->B.exc c cv->E.e cv x σ H
noncomputable def aO (B:Bd) (r:R Out) (F:Addr->Prop) (ρ:List Addr) (H:Hp) (Dn:Ends) (E:Gx):Prop :=
 match r with
 | .ok o M'=>∀ F' ρ' H',Ext F ρ H F' ρ' H'->SR B F' ρ' M' H'->Mx B o F' ρ' H' Dn E
 | .exc _ _=>False
 | .bad=>False
noncomputable def TC (B:Bd) (Φ:bz) (E:Gx) (s:S):TS:=fun Dn σ H=>∃ (σD:Sg) (M:MH) (F:Addr->Prop) (ρ:List Addr),
 SR B F ρ M H/\RS B F ρ H σD σ/\aO B (ex Φ s σD M) F ρ H Dn E
noncomputable def w6 (B:Bd) (Φ:bz) (E:Gx) (s:Ss):TS:=fun Dn σ H=>∃ (σD:Sg) (M:MH) (F:Addr->Prop) (ρ:List Addr),
 SR B F ρ M H/\RS B F ρ H σD σ/\aO B (exs Φ s σD M) F ρ H Dn E
section
variable {B:Bd} {Φ:bz} {E:Gx} {F F' F1:Addr->Prop} {ρ ρ' ρ1:List Addr} {H H' H1:Hp} {M M':MH} {σD:Sg} {σ:St} {Q:VK} {Dn:Ends}
theorem aO.weak {r:R Out} (e:Ext F ρ H F1 ρ1 H1) (h:aO B r F ρ H Dn E):aO B r F1 ρ1 H1 Dn E:=by
 cases r with
 | ok d M'=>exact fun F' ρ' H' e' S=>h F' ρ' H' (e.trans e') S
 | exc c M'=>exact h
 | bad=>exact h
theorem aO.use {α β:Type} {rel:(Addr->Prop)->List Addr->Hp->α->β->Prop} {x:R α} {f:α->MH->R Out} (r:RS B F ρ H σD σ) (h:aO B (x.use σD f) F ρ H Dn E) :
  ah rel B x F ρ H (fun v H'=>∃ d M' F' ρ',Ext F ρ H F' ρ' H'/\SR B F' ρ' M' H'/\rel F' ρ' H' d v/\aO B (f d M') F' ρ' H' Dn E) (fun cv x H'=>E.e cv x σ H'):=by
 cases x with
 | ok d M'=>exact fun F' ρ' H' v e S q=>⟨d,M',F',ρ',e,S,q,aO.weak e h⟩
 | exc c M'=>exact fun F' ρ' H' cv x e S q=>h F' ρ' H' e S σ cv x (r.mono e) q
 | bad=>exact h
theorem TC.one {a:Fg.E} {f:D->MH->R Out} {W:V->Hp->Prop} (S:SR B F ρ M H) (r:RS B F ρ H σD σ) (h:aO B ((ev Φ a σD M).use σD f) F ρ H Dn E)
  (k:∀ x M1 F1 ρ1 H1 v,Ext F ρ H F1 ρ1 H1->SR B F1 ρ1 M1 H1->RS B F1 ρ1 H1 σD σ->RD B F1 ρ1 H1 x v->aO B (f x M1) F1 ρ1 H1 Dn E->W v H1):T B Φ E a σ H W:=by
 refine ⟨σD,M,F,ρ,S,r,ah.imp (aO.use (rel:=RD B) r h) fun v H1 ⟨x,M1,F1,ρ1,e,S1,rx,h1⟩=>?_⟩
 exact k x M1 F1 ρ1 H1 v e S1 (r.mono e) rx h1
theorem aO.run {o:Out} (h:aO B (.ok o M) F ρ H Dn E) (S:SR B F ρ M H):Mx B o F ρ H Dn E:=h F ρ H S.refl S
theorem m7 {i:Nat} {e:Fg.E} (h:TC B Φ E (.set i e) Dn σ H):Fe (T B Φ E e) (kU i) Dn σ H:=by
 obtain ⟨σD,M,F,ρ,S,r,h⟩:=h
 simp only [ex] at h
 exact TC.one S r h fun x M1 F1 ρ1 H1 v e1 S1 r1 rx h1=>aO.run h1 S1 _ (r1.set rx i)
theorem FE {e:Fg.E} (h:TC B Φ E (.ex e) Dn σ H):DS (T B Φ E e) Dn σ H:=by
 obtain ⟨σD,M,F,ρ,S,r,h⟩:=h
 simp only [ex] at h
 exact TC.one S r h fun x M1 F1 ρ1 H1 v e1 S1 r1 rx h1=>aO.run h1 S1 _ r1
theorem Bo {e:Fg.E} (h:TC B Φ E (.ret e) Dn σ H):JI (T B Φ E e) Dn σ H:=by
 obtain ⟨σD,M,F,ρ,S,r,h⟩:=h
 simp only [ex] at h
 exact TC.one S r h fun x M1 F1 ρ1 H1 v e1 S1 r1 rx h1=>aO.run h1 S1 _ rx
theorem Bw {c:Fg.E} {a b:Ss} (h:TC B Φ E (.ifs c a b) Dn σ H):JN (TB B Φ E c) (w6 B Φ E a) (w6 B Φ E b) Dn σ H:=by
 obtain ⟨σD,M,F,ρ,S,r,h⟩:=h
 simp only [ex] at h
 refine TC.one S r h fun x M1 F1 ρ1 H1 v e1 S1 r1 rx h1=>?_
 split at h1
 ·simp only [RD] at rx;subst rx
  exact ⟨true,rfl,by dsimp only;rw [if_pos rfl];exact ⟨σD,M1,F1,ρ1,S1,r1,h1⟩⟩
 ·simp only [RD] at rx;subst rx
  exact ⟨false,rfl,by dsimp only;rw [if_neg Bool.false_ne_true];exact ⟨σD,M1,F1,ρ1,S1,r1,h1⟩⟩
 ·exact h1.elim
theorem oY (h:w6 B Φ E .nil Dn σ H):DR Dn σ H:=by
 obtain ⟨σD,M,F,ρ,S,r,h⟩:=h
 simp only [exs] at h
 exact aO.run h S _ r
theorem l6 {s:S} {ss:Ss} (h:w6 B Φ E (.cons s ss) Dn σ H):JH (TC B Φ E s) (w6 B Φ E ss) Dn σ H:=by
 obtain ⟨σD,M,F,ρ,S,r,h⟩:=h
 simp only [exs] at h
 refine ⟨σD,M,F,ρ,S,r,?_⟩
 cases hx:ex Φ s σD M with
 | ok o M1 =>
  rw [hx] at h
  simp only [R.aa] at h
  intro F' ρ' H' e S'
  cases o with
  | nx σ1=>exact fun σ' r'=>⟨σ1,M1,F',ρ',S',r',aO.weak e h⟩
  | rt d=>exact fun v q=>h F' ρ' H' e S' v q
  | bk σ1=>exact fun σ' q=>h F' ρ' H' e S' σ' q
  | ct σ1=>exact fun σ' q=>h F' ρ' H' e S' σ' q
  | xc c σ1=>exact fun σ' cv x q1 q2=>h F' ρ' H' e S' σ' cv x q1 q2
 | exc c M1=>rw [hx] at h;exact h
 | bad=>rw [hx] at h;exact h
theorem sS {fz:Bool} {x:D} {ds:List D} {v:V} {vs:List V} {X:XK} (S:SR B F ρ M H) (rx:RD B F ρ H x v) (r:aj B F ρ H ds vs) (h:Post B (gW .append fz M x ds) F ρ H Q X):nq v vs H Q:=by
 unfold gW at h
 cases hl:gI M x with
 | none=>rw [hl] at h;exact h.elim
 | some q =>
  rw [hl] at h
  obtain ⟨rfl,hx⟩:=j0 hl
  cases ds with
  | nil=>exact h.elim
  | cons d t =>
   cases t with
   | cons _ _=>exact h.elim
   | nil =>
    simp only [pT,yI] at h
    split at h
    ·rename_i hlen
     obtain ⟨w,rfl,r1⟩:=FQ r
     simp only [RD] at rx
     obtain ⟨a,h1,rfl⟩:=rx
     obtain ⟨ws,h2,h3⟩:=S.obj _ a _ h1 hx
     refine ⟨a,ws,w,rfl,rfl,h2,?_,?_⟩
     ·rw [<- aj.length h3];exact Nat.lt_of_lt_of_le (of_decide_eq_true hlen) bL
     ·obtain ⟨S',e⟩:=S.st (o:=.lst (ws++[w])) (u:=.lst (q.2++[d])) h1 (fun _ _ q=>by rw [h2] at q;cases q) ⟨_,ay,aj.bx (Ext0.at_ S h1) _ _ (h3.append (aj.cons r1 aj.nil))⟩
      exact h _ _ _ _ e S' (by simp only [RD])
    ·exact h.elim
theorem yq {k:Key} {d:D} {v:V} (rd:RD B F ρ H d v):∀ {cA:List (Ky×D)} {kvs:List (Key×V)},kvs.map (·.1)=cA.map (·.1)->aj B F ρ H (cA.map (·.2)) (kvs.map (·.2)) ->
  (putK kvs k v).map (·.1)=(put cA k d).map (·.1)/\aj B F ρ H ((put cA k d).map (·.2)) ((putK kvs k v).map (·.2)):=by
 have hmap:∀ {cA:List (Ky×D)} {kvs:List (Key×V)},kvs.map (·.1)=cA.map (·.1)->aj B F ρ H (cA.map (·.2)) (kvs.map (·.2)) ->
   (kvs.map fun kv=>if kv.1=k then (kv.1,v) else kv).map (·.1)=(cA.map fun kv=>if kv.1=k then (kv.1,d) else kv).map (·.1) /\
   aj B F ρ H ((cA.map fun kv=>if kv.1=k then (kv.1,d) else kv).map (·.2)) ((kvs.map fun kv=>if kv.1=k then (kv.1,v) else kv).map (·.2)):=by
  intro cA
  induction cA with
  | nil=>intro kvs h1 h2;cases kvs with | nil=>exact ⟨rfl,aj.nil⟩ | cons _ _=>simp at h1
  | cons p cA ih =>
   intro kvs h1 h2
   cases kvs with
   | nil=>simp at h1
   | cons q kvs =>
    obtain ⟨pk,pd⟩:=p
    obtain ⟨qk,qv⟩:=q
    simp only [List.map_cons,List.cons.injEq] at h1
    simp only [List.map_cons,aj] at h2
    obtain ⟨u,ws,e,r1,r2⟩:=h2
    cases e
    obtain ⟨e1,e2⟩:=h1
    subst e1
    obtain ⟨i1,i2⟩:=ih e2 r2
    by_cases hk:qk=k
    ·simp only [List.map_cons,if_pos hk,i1,true_and]
     exact aj.cons rd i2
    ·simp only [List.map_cons,if_neg hk,i1,true_and]
     exact aj.cons r1 i2
 have hany:∀ {cA:List (Ky×D)} {kvs:List (Key×V)},kvs.map (·.1)=cA.map (·.1)->(kvs.any fun kv=>decide (kv.1=k))=(cA.any fun kv=>decide (kv.1=k)):=by
  intro cA
  induction cA with
  | nil=>intro kvs h1;cases kvs with | nil=>rfl | cons _ _=>simp at h1
  | cons p cA ih =>
   intro kvs h1
   cases kvs with
   | nil=>simp at h1
   | cons q kvs =>
    simp only [List.map_cons,List.cons.injEq] at h1
    simp only [List.any_cons,h1.1,ih h1.2]
 intro cA kvs h1 h2
 unfold putK put
 rw [hany h1]
 split
 ·exact hmap h1 h2
 ·simp only [List.map_append,List.map_cons,List.map_nil,h1,true_and]
  exact h2.append (aj.cons rd aj.nil)
noncomputable def Walks (B:Bd) (J:It) (src:D) (ds:List D) (F0:Addr->Prop) (ρ0:List Addr) (M0:MH) (H0:Hp):Prop :=
 ∀ (i:Nat) F ρ M H,Ext F0 ρ0 H0 F ρ H->SR B F ρ M H->aF M0 src M=true ->
  (∀ d,ds[i]? = some d->J.go i H/\∀ x H',J.MF i H x H'->∃ F',Ext F ρ H F' ρ H'/\SR B F' ρ M H'/\RD B F' ρ H' d x)/\(ds.length<=i->J.stop i H)
noncomputable def AZ (B:Bd) (Φ:bz) (E:Gx) (c:Src):TI:=fun σ H R=>∃ (σD:Sg) (M:MH) (F:Addr->Prop) (ρ:List Addr),
 SR B F ρ M H/\RS B F ρ H σD σ/\ah (fun F' ρ' H' (p:D×List D×Bool) (J:It)=>∀ M',aJ Φ c σD M=.ok p M'->SR B F' ρ' M' H'->Walks B J p.1 p.2.1 F' ρ' M' H' /\
  (p.2.2=true->∃ n a,p.1=.ref n/\ρ'[n]? = some a/\E.th a/\∀ w v,H a≠some (.gk w v))) B (aJ Φ c σD M) F ρ H R (fun cv x H'=>E.e cv x σ H')
noncomputable def thE (th:Addr->Prop) (D:Ends):Ends:=⟨fun σ H=>∃ H',AY th H H'/\D.nx σ H',fun v H=>∃ H',AY th H H'/\D.rt v H',fun σ H=>∃ H',AY th H H'/\D.bk σ H',fun σ H=>∃ H',AY th H H'/\D.ct σ H'⟩
theorem cN {F1:Addr->Prop} {ρ0 ρ1:List Addr} {H1:Hp} {M1:MH} {fl:Bool} {src:D} {th:Addr->Prop} (S:SR B F1 ρ1 M1 H1) (e:Ext F ρ H F1 ρ1 H1) (hp:ρ0 <+: ρ1) (wz:fl=true->∃ n a,src=.ref n/\ρ0[n]? = some a/\th a/\∀ w v,H a≠some (.gk w v)) :
  ∃ H',AY th H1 H'/\SR B F1 ρ1 (fK fl src M1) H'/\Ext F ρ H F1 ρ1 H'/\Ext0 F1 ρ1 H1 F1 ρ1 H':=by
 have same:SR B F1 ρ1 M1 H1/\Ext F ρ H F1 ρ1 H1/\Ext0 F1 ρ1 H1 F1 ρ1 H1:=⟨S,e,S.refl.toExt0⟩
 cases fl with
 | false=>exact ⟨H1,.inl rfl,by cases src <;> exact same⟩
 | true =>
  obtain ⟨n,a,rfl,hn,ht,hz⟩:=wz rfl
  have hn1:ρ1[n]? = some a:=by
   obtain ⟨t,rfl⟩:=hp
   obtain ⟨q,_⟩:=List.getElem?_eq_some_iff.mp hn
   rw [List.getElem?_append_left q];exact hn
  cases hM:M1[n]? with
  | none=>refine ⟨H1,.inl rfl,?_⟩;simp only [fK,hM];exact same
  | some o =>
   cases o with
   | oH kvs =>
    obtain ⟨o,kws,h1,S'⟩:=S.uw hn1 hM
    refine ⟨upd H1 a (.dK kws),.inr ⟨a,o,kws,ht,h1,rfl⟩,?_,e.thaw (List.mem_of_getElem? hn1) hz S.sep,Ext0.at_ S hn1⟩
    simp only [fK,hM];exact S'
   | lst _=>refine ⟨H1,.inl rfl,?_⟩;simp only [fK,hM];exact same
   | dct _=>refine ⟨H1,.inl rfl,?_⟩;simp only [fK,hM];exact same
   | ins _ _=>refine ⟨H1,.inl rfl,?_⟩;simp only [fK,hM];exact same
theorem RS.bx {F':Addr->Prop} {ρ':List Addr} {H':Hp} (e:Ext0 F ρ H F' ρ' H') (h:RS B F ρ H σD σ):RS B F' ρ' H' σD σ :=
 ⟨h.len,fun i d q=>let ⟨v,h1,h2⟩:=h.get i d q;⟨v,h1,RD.bx e d v h2⟩⟩
noncomputable def Lh (tg:List Nat) (K:W.Frag):TG:=match tg with
 | [i]=>kU i
 | [i,j]=>fun v σ H Q=>∃ a x y,v=.ref a/\ic K H a [x,y]/\Q ((σ.set i (some x)).set j (some y)) H
 | []=>fun _ _ _ _=>False
 | tg=>fun v σ H Q=>∃ a xs,v=.ref a/\ic K H a xs/\xs.length=tg.length/\Q (i8 tg xs σ) H
theorem RS.all:∀ {tg:List Nat} {ds:List D} {vs:List V} {σD:Sg} {σ:St},RS B F ρ H σD σ->aj B F ρ H ds vs->RS B F ρ H (i8 tg ds σD) (i8 tg vs σ)
 | [],ds,vs,σD,σ,r,q=>by cases ds <;> cases vs <;> exact r
 | i::tg,[],vs,σD,σ,r,q=>by simp only [aj] at q;subst q;exact r
 | i::tg,d::ds,vs,σD,σ,r,q=>by
  simp only [aj] at q
  obtain ⟨v,ws,rfl,h1,h2⟩:=q
  exact RS.all (tg:=tg) (ds:=ds) (vs:=ws) (σD:=σD.set i (some d)) (σ:=σ.set i (some v)) (r.set h1 i) h2
theorem o8 {tg:List Nat} {d:D} {v:V} {σ1:Sg} {N:St->Hp->Prop} (r:RS B F ρ H σD σ) (rd:RD B F ρ H d v) (h:sets tg M d σD=some σ1) (k:∀ σ',RS B F ρ H σ1 σ'->N σ' H):Lh tg B.K v σ H N:=by
 unfold sets at h
 split at h
 ·cases h;exact k _ (r.set rd _)
 ·split at h
  ·cases h
   simp only [RD] at rd
   obtain ⟨a,vs,rfl,z,q⟩:=rd
   simp only [aj] at q
   obtain ⟨x,ws,rfl,r1,y,us,rfl,r2,rfl⟩:=q
   exact ⟨a,x,y,rfl,z.sq,k _ ((r.set r1 _).set r2 _)⟩
  ·cases h
 ·cases h
 ·rename_i h1 h2 h3
  split at h
  ·rename_i xs
   split at h
   ·rename_i hl
    cases h
    simp only [RD] at rd
    obtain ⟨a,vs,rfl,z,q⟩:=rd
    have e:vs.length=tg.length:=by rw [<- aj.length q];exact hl
    match tg,h1,h2,h3,e,k with
    | i::j::l::tg,_,_,_,e,k=>exact ⟨a,vs,rfl,z.sq,e,k _ (r.all q)⟩
    | [i],h1,_,_,_,_=>exact absurd rfl (h1 i)
    | [i,j],_,h2,_,_,_=>exact absurd rfl (h2 i j)
    | [],_,_,h3,_,_=>exact absurd rfl h3
   ·cases h
  ·cases h
theorem BA {tg:List Nat} {it:Src} {b:Ss} (h:TC B Φ E (.for tg it b) Dn σ H):JO (AZ B Φ E it) (Lh tg B.K) (w6 B Φ E b) (thE E.th Dn) σ H:=by
 obtain ⟨σD,M,F,ρ,S,r,h⟩:=h
 simp only [ex] at h
 refine ⟨σD,M,F,ρ,S,r,?_⟩
 cases hx:aJ Φ it σD M with
 | exc c M1=>rw [hx] at h;exact fun F' ρ' H' cv x e S q=>h F' ρ' H' e S σ cv x (r.mono e) q
 | bad=>rw [hx] at h;exact h
 | ok p M0 =>
  rw [hx] at h
  simp only [R.gR] at h
  intro F0 ρ0 H0 J e0 S0 hw
  obtain ⟨W,wz⟩:=hw M0 rfl S0
  obtain ⟨src,ds,fl⟩:=p
  dsimp only at h W wz
  refine ⟨fun i m σ H1=>m+i=ds.length/\∃ σD M F1 ρ1,Ext F ρ H F1 ρ1 H1/\Ext F0 ρ0 H0 F1 ρ1 H1/\SR B F1 ρ1 M H1/\RS B F1 ρ1 H1 σD σ/\aF M0 src M=true/\aO B ((aI (exs Φ b) tg (aF M0 src) (ds.drop i) σD M).fin (fK fl src)) F ρ H Dn E,⟨ds.length,by simp,σD,M0,F0,ρ0,e0,S0.refl,S0,r.mono e0,?_,h⟩,?_⟩
  ·unfold aF;split <;> simp
  rintro i m σ1 H1 ⟨hm,A2,M1,F1,ρ1,eo,e1,S1,r1,st1,p1⟩
  obtain ⟨wgo,wst⟩:=W i F1 ρ1 M1 H1 e1 S1 st1
  by_cases hi:i<ds.length
  ·have hd:ds.drop i=ds[i]::ds.drop (i+1):=List.drop_eq_getElem_cons hi
   rw [hd] at p1
   unfold aI at p1
   obtain ⟨go,yl⟩:=wgo ds[i] (List.getElem?_eq_getElem hi)
   refine .inr ⟨go,fun σ' H'=>∃ σD M F1 ρ1,Ext F ρ H F1 ρ1 H'/\Ext F0 ρ0 H0 F1 ρ1 H'/\SR B F1 ρ1 M H'/\RS B F1 ρ1 H' σD σ'/\aF M0 src M=true/\aO B ((aI (exs Φ b) tg (aF M0 src) (ds.drop (i+1)) σD M).fin (fK fl src)) F ρ H Dn E,fun σ' H' q=>⟨m-1,by omega,by omega,q⟩,fun x H' hy=>?_⟩
   obtain ⟨F',e2,S2,rd⟩:=yl x H' hy
   split at p1
   ·exact p1.elim
   ·rename_i σ2 hs
    refine o8 (r1.mono e2) rd hs fun σ' r'=>⟨σ2,M1,F',ρ1,S2,r',?_⟩
    cases hb:exs Φ b σ2 M1 with
    | exc c M3=>rw [hb] at p1;exact p1.elim
    | bad=>rw [hb] at p1;exact p1.elim
    | ok o M3 =>
     rw [hb] at p1
     simp only [R.aa] at p1
     intro F3 ρ3 H3 e3 S3
     have LG:=(eo.trans e2).trans e3
     have LX:=(e1.trans e2).trans e3
     cases o with
     | nx σ3 =>
      simp only at p1
      intro σ4 r4
      split at p1
      ·rename_i hst
       exact ⟨σ3,M3,F3,ρ3,LG,LX,S3,r4,hst,p1⟩
      ·exact p1.elim
     | ct σ3 =>
      simp only at p1
      intro σ4 r4
      split at p1
      ·rename_i hst
       exact ⟨σ3,M3,F3,ρ3,LG,LX,S3,r4,hst,p1⟩
      ·exact p1.elim
     | bk σ3 =>
      obtain ⟨H4,t4,S4,e4,x4⟩:=cN S3 LG LX.r wz
      exact fun σ4 r4=>⟨H4,t4,p1 F3 ρ3 H4 e4 S4 σ4 (r4.bx x4)⟩
     | rt d =>
      obtain ⟨H4,t4,S4,e4,x4⟩:=cN S3 LG LX.r wz
      exact fun v q=>⟨H4,t4,p1 F3 ρ3 H4 e4 S4 v (RD.bx x4 _ _ q)⟩
     | xc c σ3 =>
      obtain ⟨H4,t4,S4,e4,x4⟩:=cN S3 LG LX.r wz
      exact fun σ4 cv x q1 q2=>E.cl cv x σ4 H3 H4 t4 (p1 F3 ρ3 H4 e4 S4 σ4 cv x (q1.bx x4) q2)
  ·have hd:ds.drop i=[]:=List.drop_eq_nil_of_le (Nat.le_of_not_lt hi)
   rw [hd] at p1
   unfold aI at p1
   obtain ⟨H4,t4,S4,e4,x4⟩:=cN S1 eo e1.r wz
   exact .inl ⟨wst (Nat.le_of_not_lt hi),H4,t4,p1 F1 ρ1 H4 e4 S4 σ1 (r1.bx x4)⟩
theorem vE {c:Fg.E} {b:Ss} (h:TC B Φ E (.while c b) Dn σ H):xC (TB B Φ E c) (w6 B Φ E b) Dn σ H:=by
 obtain ⟨σD,M,F,ρ,S,r,h⟩:=h
 simp only [ex] at h
 refine ⟨fun m σ H=>∃ σD M F ρ,SR B F ρ M H/\RS B F ρ H σD σ/\aO B (bR (ev Φ c) (exs Φ b) m σD M) F ρ H Dn E,⟨Φ.turns,σD,M,F,ρ,S,r,h⟩,?_⟩
 rintro m σ1 H1 ⟨A2,M1,F1,ρ1,S1,r1,p1⟩
 cases m with
 | zero=>simp only [bR] at p1;exact p1.elim
 | succ m =>
  simp only [bR] at p1
  refine TC.one S1 r1 p1 fun x M2 F2 ρ2 H2 v e2 S2 r2 rx h2=>?_
  split at h2
  ·simp only [RD] at rx;subst rx
   refine ⟨false,rfl,?_⟩
   exact aO.run h2 S2 _ r2
  ·simp only [RD] at rx;subst rx
   refine ⟨true,rfl,?_⟩
   refine ⟨fun σ' H'=>∃ σD M F ρ,SR B F ρ M H'/\RS B F ρ H' σD σ'/\aO B (bR (ev Φ c) (exs Φ b) m σD M) F ρ H' Dn E,fun σ' H' q=>⟨m,Nat.lt_succ_self m,q⟩,A2,M2,F2,ρ2,S2,r2,?_⟩
   cases hb:exs Φ b A2 M2 with
   | exc c M3=>rw [hb] at h2;exact h2
   | bad=>rw [hb] at h2;exact h2
   | ok o M3 =>
    rw [hb] at h2
    simp only [R.aa] at h2
    intro F3 ρ3 H3 e3 S3
    cases o with
    | nx σ3=>exact fun σ4 r4=>⟨σ3,M3,F3,ρ3,S3,r4,aO.weak e3 h2⟩
    | ct σ3=>exact fun σ4 r4=>⟨σ3,M3,F3,ρ3,S3,r4,aO.weak e3 h2⟩
    | bk σ3=>exact fun σ4 r4=>h2 F3 ρ3 H3 e3 S3 σ4 r4
    | rt d=>exact fun v q=>h2 F3 ρ3 H3 e3 S3 v q
    | xc c σ3=>exact fun σ4 cv x q1 q2=>h2 F3 ρ3 H3 e3 S3 σ4 cv x q1 q2
  ·exact h2.elim
end
end Fg
end
section
namespace Fg
open PySem PySem.Spec L2
section
variable {X:Cx} {pins:List (Addr×Obj)} {σ:L2.St} {H:Hp} {s:Shared}
mutual
theorem DV.inj (I:Inv X pins σ H s):∀ {d e:D} {x:V},DV X.K H d x->DV X.K H e x->d=e
 | .ak,e,x,h,h'=>by
  simp only [DV] at h;subst h
  cases e <;> simp only [DV] at h' <;> first | rfl | (cases h';done) | (obtain ⟨_,_,q,_⟩:=h';cases q)
 | .bl b,e,x,h,h'=>by
  simp only [DV] at h;subst h
  cases e <;> simp only [DV] at h' <;> first | (cases h';rfl) | (cases h';done) | (obtain ⟨_,_,q,_⟩:=h';cases q)
 | .int b,e,x,h,h'=>by
  simp only [DV] at h;subst h
  cases e <;> simp only [DV] at h' <;> first | (cases h';rfl) | (cases h';done) | (obtain ⟨_,_,q,_⟩:=h';cases q)
 | .str b,e,x,h,h'=>by
  simp only [DV] at h;subst h
  cases e <;> simp only [DV] at h' <;> first | (cases h';rfl) | (cases h';done) | (obtain ⟨_,_,q,_⟩:=h';cases q)
 | .tup ds,e,x,h,h'=>by
  simp only [DV] at h
  obtain ⟨a,vs,rfl,h1,h2⟩:=h
  cases e with
  | tup es =>
   simp only [DV] at h'
   obtain ⟨b,ws,q,h3,h4⟩:=h'
   cases q
   have:=I.i6 h1 h3
   subst this
   rw [ig.inj I h2 h4]
  | lst es =>
   simp only [DV] at h'
   obtain ⟨b,ws,q,h3,h4⟩:=h'
   cases q
   obtain ⟨its,_,t1,_⟩:=I.tuple h1
   obtain ⟨its',_,t2,_⟩:=I.list h3
   exact absurd rfl (SeqAt.ne_of_list_tuple t2.isList t1)
  | ak=>simp only [DV] at h';cases h'
  | bl _=>simp only [DV] at h';cases h'
  | int _=>simp only [DV] at h';cases h'
  | str _=>simp only [DV] at h';cases h'
  | dct _ _=>simp only [DV] at h'
  | ref _=>simp only [DV] at h'
 | .lst ds,e,x,h,h'=>by
  simp only [DV] at h
  obtain ⟨a,vs,rfl,h1,h2⟩:=h
  cases e with
  | lst es =>
   simp only [DV] at h'
   obtain ⟨b,ws,q,h3,h4⟩:=h'
   cases q
   have:=I.kM h1 h3
   subst this
   rw [ig.inj I h2 h4]
  | tup es =>
   simp only [DV] at h'
   obtain ⟨b,ws,q,h3,h4⟩:=h'
   cases q
   obtain ⟨its,_,t1,_⟩:=I.list h1
   obtain ⟨its',_,t2,_⟩:=I.tuple h3
   exact absurd rfl (SeqAt.ne_of_list_tuple t1.isList t2)
  | ak=>simp only [DV] at h';cases h'
  | bl _=>simp only [DV] at h';cases h'
  | int _=>simp only [DV] at h';cases h'
  | str _=>simp only [DV] at h';cases h'
  | dct _ _=>simp only [DV] at h'
  | ref _=>simp only [DV] at h'
 | .dct _ _,e,x,h,h'=>by simp only [DV] at h
 | .ref _,e,x,h,h'=>by simp only [DV] at h
theorem ig.inj (I:Inv X pins σ H s):∀ {ds es:List D} {xs:List V},ig X.K H ds xs->ig X.K H es xs->ds=es
 | [],es,xs,h,h'=>by
  simp only [ig] at h;subst h
  cases es with
  | nil=>rfl
  | cons _ _=>simp only [ig] at h';obtain ⟨_,_,q,_⟩:=h';cases q
 | d::ds,es,xs,h,h'=>by
  simp only [ig] at h
  obtain ⟨v,ws,rfl,h1,h2⟩:=h
  cases es with
  | nil=>simp only [ig] at h';cases h'
  | cons e es =>
   simp only [ig] at h'
   obtain ⟨v',ws',q,h3,h4⟩:=h'
   cases q
   rw [DV.inj I h1 h3,ig.inj I h2 h4]
end
mutual
theorem kY {K:W.Frag} {H:Hp}:∀ {d:D} {x:V},DV K H d x->aH d d=true
 | .ak,_,_=>by simp only [aH]
 | .bl b,_,_=>by simp only [aH];simp
 | .int i,_,_=>by simp only [aH];simp
 | .str x,_,_=>by simp only [aH];simp
 | .tup ds,_,h=>by simp only [DV] at h;obtain ⟨_,_,_,_,q⟩:=h;simp only [aH];exact jq q
 | .lst ds,_,h=>by simp only [DV] at h;obtain ⟨_,_,_,_,q⟩:=h;simp only [aH];exact jq q
 | .dct _ _,_,h=>by simp only [DV] at h
 | .ref _,_,h=>by simp only [DV] at h
theorem jq {K:W.Frag} {H:Hp}:∀ {ds:List D} {xs:List V},ig K H ds xs->dR ds ds=true
 | [],_,_=>by simp only [dR]
 | d::ds,_,h=>by
  simp only [ig] at h
  obtain ⟨_,_,_,h1,h2⟩:=h
  simp only [dR,kY h1,jq h2,Bool.and_self]
end
theorem ig.length {K:W.Frag} {H:Hp}:∀ {ds:List D} {xs:List V},ig K H ds xs->ds.length=xs.length
 | [],_,h=>by simp only [ig] at h;subst h;rfl
 | d::ds,_,h=>by
  simp only [ig] at h
  obtain ⟨_,_,rfl,_,h2⟩:=h
  simp [ig.length h2]
theorem ig.get {K:W.Frag} {H:Hp}:∀ {ds:List D} {xs:List V} {i:Nat} (h1:i<ds.length),ig K H ds xs->∃ v,xs[i]? = some v/\DV K H ds[i] v
 | [],_,i,h1,_=>by simp at h1
 | d::ds,_,i,h1,h=>by
  simp only [ig] at h
  obtain ⟨v,ws,rfl,q1,q2⟩:=h
  cases i with
  | zero=>exact ⟨v,rfl,q1⟩
  | succ i =>
   simp only [List.length_cons] at h1
   obtain ⟨u,a,b⟩:=ig.get (i:=i) (by omega) q2
   exact ⟨u,by simpa using a,by simpa using b⟩
theorem cJ:∀ {ds:List D} {i:Nat} (h:i<ds.length),dep ds[i]<=deps ds
 | [],i,h=>by simp at h
 | d::ds,i,h=>by
  cases i with
  | zero=>simp only [List.getElem_cons_zero,deps];omega
  | succ i =>
   simp only [List.length_cons] at h
   have:=cJ (ds:=ds) (i:=i) (by omega)
   simp only [List.getElem_cons_succ,deps];omega
theorem c7:∀ (ds es:List D),((List.range (min ds.length es.length)).all (fun j=>match ds[j]?,es[j]? with | some a,some b=>aH a b | _,_=>false)&&ds.length == es.length)=dR ds es
 | [],[]=>by simp [dR]
 | [],e::es=>by simp [dR]
 | d::ds,[]=>by simp [dR]
 | d::ds,e::es=>by
  have ih:=c7 ds es
  simp only [dR,<- ih]
  simp only [List.length_cons,Nat.succ_min_succ,List.range_succ_eq_map,List.all_cons,List.all_map,Function.comp_def]
  simp [Bool.and_assoc]
noncomputable def EqB (s:Shared) (d e:D) (u w:Value) (n:Nat):Prop:=∀ A:Around,A.units+n<cLine->SeqAt.RcAt A s u w (aH d e)/\SeqAt.EqAt A s u w (aH d e)
theorem in1_units (A:Around):A.in1.units=A.units+1:=rfl
theorem aS:∀ {ds:List D} {i:Nat},aL ds=true->∀ (h:i<ds.length),plain ds[i]=true
 | [],i,_,h=>by simp at h
 | d::ds,i,p,h=>by
  simp only [aL,Bool.and_eq_true] at p
  cases i with
  | zero=>exact p.1
  | succ i=>simp only [List.length_cons] at h;simpa using aS p.2 (by omega)
theorem eq_data (I:Inv X pins σ H s):∀ (n:Nat) (d e:D) (x y:V) (u w:Value),dep d+dep e<n->DV X.K H d x->DV X.K H e y->plain d=true->plain e=true->RelV x u->RelV y w->EqB s d e u w (min (dep d) (dep e)+1)
 | 0,_,_,_,_,_,_,h,_,_,_,_,_,_=>absurd h (Nat.not_lt_zero _)
 | n+1, d, e, x, y, u, w, hn, hd, he, pd, pe, ru, rw'=>by
  have ih:=eq_data I n
  intro A hA
  have hu:A.units<cLine:=by omega
  cases d with
  | bl _=>simp [plain] at pd
  | dct _ _=>simp [plain] at pd
  | ref _=>simp [plain] at pd
  | ak =>
   simp only [DV] at hd;subst hd;cases (show u=Value.none from ru)
   cases e with
   | bl _=>simp [plain] at pe
   | dct _ _=>simp [plain] at pe
   | ref _=>simp [plain] at pe
   | ak =>
    simp only [DV] at he;subst he;cases (show w=Value.none from rw')
    simp only [aH];exact ⟨SeqAt.RcAt.none_none,SeqAt.EqAt.same _⟩
   | int j =>
    simp only [DV] at he;subst he;obtain ⟨t',rfl⟩:=(show ∃ t,w=Value.int j t from rw')
    simp only [aH];exact ⟨SeqAt.RcAt.none_int j t',SeqAt.EqAt.none_int j t'⟩
   | str j =>
    simp only [DV] at he;subst he;obtain ⟨t',rfl⟩:=(show ∃ t,w=Value.str j t from rw')
    simp only [aH];exact ⟨SeqAt.RcAt.none_str j t',SeqAt.EqAt.none_str j t'⟩
   | tup es =>
    simp only [DV] at he
    obtain ⟨b,ws,rfl,h3,h4⟩:=he
    cases (show w=Value.ref b from rw')
    obtain ⟨its,_,t1,_⟩:=I.tuple h3
    simp only [aH];exact ⟨SeqAt.RcAt.none_tuple  t1 hu,SeqAt.EqAt.none_tuple  t1 hu⟩
   | lst es =>
    simp only [DV] at he
    obtain ⟨b,ws,rfl,h3,h4⟩:=he
    cases (show w=Value.ref b from rw')
    obtain ⟨its,_,t1,_⟩:=I.list h3
    simp only [aH];exact ⟨SeqAt.RcAt.none_list  t1.isList hu,SeqAt.EqAt.none_list  t1.isList hu⟩
  | int i =>
   simp only [DV] at hd;subst hd;obtain ⟨t,rfl⟩:=(show ∃ t,u=Value.int i t from ru)
   cases e with
   | bl _=>simp [plain] at pe
   | dct _ _=>simp [plain] at pe
   | ref _=>simp [plain] at pe
   | ak =>
    simp only [DV] at he;subst he;cases (show w=Value.none from rw')
    simp only [aH];exact ⟨SeqAt.RcAt.int_none i t,SeqAt.EqAt.int_none i t⟩
   | int j =>
    simp only [DV] at he;subst he;obtain ⟨t',rfl⟩:=(show ∃ t,w=Value.int j t from rw')
    have z:aH (D.int i) (D.int j)=(i == j):=by simp only [aH];by_cases q:i=j <;> simp [q]
    rw [z];exact ⟨SeqAt.RcAt.int_int i t j t',SeqAt.EqAt.int_int i t j t'⟩
   | str j =>
    simp only [DV] at he;subst he;obtain ⟨t',rfl⟩:=(show ∃ t,w=Value.str j t from rw')
    simp only [aH];exact ⟨SeqAt.RcAt.int_str i t j t',SeqAt.EqAt.int_str i t j t'⟩
   | tup es =>
    simp only [DV] at he
    obtain ⟨b,ws,rfl,h3,h4⟩:=he
    cases (show w=Value.ref b from rw')
    obtain ⟨its,_,t1,_⟩:=I.tuple h3
    simp only [aH];exact ⟨SeqAt.RcAt.int_tuple i t t1 hu,SeqAt.EqAt.int_tuple i t t1 hu⟩
   | lst es =>
    simp only [DV] at he
    obtain ⟨b,ws,rfl,h3,h4⟩:=he
    cases (show w=Value.ref b from rw')
    obtain ⟨its,_,t1,_⟩:=I.list h3
    simp only [aH];exact ⟨SeqAt.RcAt.int_list i t t1.isList hu,SeqAt.EqAt.int_list i t t1.isList hu⟩
  | str i =>
   simp only [DV] at hd;subst hd;obtain ⟨t,rfl⟩:=(show ∃ t,u=Value.str i t from ru)
   cases e with
   | bl _=>simp [plain] at pe
   | dct _ _=>simp [plain] at pe
   | ref _=>simp [plain] at pe
   | ak =>
    simp only [DV] at he;subst he;cases (show w=Value.none from rw')
    simp only [aH];exact ⟨SeqAt.RcAt.str_none i t,SeqAt.EqAt.str_none i t⟩
   | int j =>
    simp only [DV] at he;subst he;obtain ⟨t',rfl⟩:=(show ∃ t,w=Value.int j t from rw')
    simp only [aH];exact ⟨SeqAt.RcAt.str_int i t j t',SeqAt.EqAt.str_int i t j t'⟩
   | str j =>
    simp only [DV] at he;subst he;obtain ⟨t',rfl⟩:=(show ∃ t,w=Value.str j t from rw')
    have z:aH (D.str i) (D.str j)=(i == j):=by simp only [aH];by_cases q:i=j <;> simp [q]
    rw [z];exact ⟨SeqAt.RcAt.str_str i t j t',SeqAt.EqAt.str_str i t j t'⟩
   | tup es =>
    simp only [DV] at he
    obtain ⟨b,ws,rfl,h3,h4⟩:=he
    cases (show w=Value.ref b from rw')
    obtain ⟨its,_,t1,_⟩:=I.tuple h3
    simp only [aH];exact ⟨SeqAt.RcAt.str_tuple i t t1 hu,SeqAt.EqAt.str_tuple i t t1 hu⟩
   | lst es =>
    simp only [DV] at he
    obtain ⟨b,ws,rfl,h3,h4⟩:=he
    cases (show w=Value.ref b from rw')
    obtain ⟨its,_,t1,_⟩:=I.list h3
    simp only [aH];exact ⟨SeqAt.RcAt.str_list i t t1.isList hu,SeqAt.EqAt.str_list i t t1.isList hu⟩
  | tup ds =>
   simp only [DV] at hd
   obtain ⟨a,vs,rfl,h1,h2⟩:=hd
   cases (show u=Value.ref a from ru)
   obtain ⟨its,r1,t1,_⟩:=I.tuple h1
   cases e with
   | bl _=>simp [plain] at pe
   | dct _ _=>simp [plain] at pe
   | ref _=>simp [plain] at pe
   | ak =>
    simp only [DV] at he;subst he;cases (show w=Value.none from rw')
    simp only [aH];exact ⟨SeqAt.RcAt.tuple_none  t1 hu,SeqAt.EqAt.tuple_none  t1 hu⟩
   | int j =>
    simp only [DV] at he;subst he;obtain ⟨t',rfl⟩:=(show ∃ t,w=Value.int j t from rw')
    simp only [aH];exact ⟨SeqAt.RcAt.tuple_int j t' t1 hu,SeqAt.EqAt.tuple_int j t' t1 hu⟩
   | str j =>
    simp only [DV] at he;subst he;obtain ⟨t',rfl⟩:=(show ∃ t,w=Value.str j t from rw')
    simp only [aH];exact ⟨SeqAt.RcAt.tuple_str j t' t1 hu,SeqAt.EqAt.tuple_str j t' t1 hu⟩
   | lst es =>
    simp only [DV] at he
    obtain ⟨b,ws,rfl,h3,h4⟩:=he
    cases (show w=Value.ref b from rw')
    obtain ⟨its2,r2,t2,_⟩:=I.list h3
    simp only [aH];exact ⟨SeqAt.RcAt.tuple_list t1 t2.isList hu,SeqAt.EqAt.of_refs (Ne.symm (SeqAt.ne_of_list_tuple t2.isList t1)) (SeqAt.RcAt.tuple_list t1 t2.isList hu)⟩
   | tup es =>
    simp only [DV] at he
    obtain ⟨b,ws,rfl,h3,h4⟩:=he
    cases (show w=Value.ref b from rw')
    obtain ⟨its2,r2,t2,_⟩:=I.tuple h3
    have Gs:aL ds=true:=by simpa [plain] using pd
    have Gr:aL es=true:=by simpa [plain] using pe
    have l1:its.length=ds.length:=by rw [<- r1.length,h2.length]
    have l2:its2.length=es.length:=by rw [<- r2.length,h4.length]
    let f:Nat->Bool:=fun j=>match ds[j]?,es[j]? with | some a,some b=>aH a b | _,_=>false
    have items:∀ j (h1:j<its.toArray.size) (h2:j<its2.toArray.size),SeqAt.EqAt A.in1 s its.toArray[j] its2.toArray[j] (f j):=by
     intro j j1 j2
     have nP:j<ds.length:=by rw [<- l1];simpa using j1
     have nO:j<es.length:=by rw [<- l2];simpa using j2
     obtain ⟨v,e1,q1⟩:=h2.get nP
     obtain ⟨v',e2,q2⟩:=h4.get nO
     obtain ⟨z,e3,q3⟩:=r1.get e1
     obtain ⟨z',e4,q4⟩:=r2.get e2
     have i1:its.toArray[j]=z:=by
      have:its[j]? = some its[j]:=List.getElem?_eq_getElem (by simpa using j1)
      rw [this] at e3;simpa using Option.some.inj e3
     have i2:its2.toArray[j]=z':=by
      have:its2[j]? = some its2[j]:=List.getElem?_eq_getElem (by simpa using j2)
      rw [this] at e4;simpa using Option.some.inj e4
     have g1:=cJ nP
     have g2:=cJ nO
     have hf:f j=aH ds[j] es[j]:=by simp only [f,List.getElem?_eq_getElem nP,List.getElem?_eq_getElem nO]
     rw [i1,i2,hf]
     simp only [dep] at hn hA
     exact (ih ds[j] es[j] v v' z z' (by omega) q1 q2 (aS Gs nP) (aS Gr nO) q3 q4 A.in1 (by rw [in1_units];omega)).2
    have xE:its.toArray.size=ds.length:=by simpa using l1
    have Ba:its2.toArray.size=es.length:=by simpa using l2
    have rc:SeqAt.RcAt A s (.ref a) (.ref b) (aH (.tup ds) (.tup es)):=by
     have q:=SeqAt.RcAt.tuples t1 t2 hu items
     rw [xE,Ba,c7] at q
     simp only [aH];exact q
    refine ⟨rc,?_⟩
    by_cases hab:a=b
    ·subst hab
     have i1:DV X.K H (.tup ds) (.ref a):=by simp only [DV];exact ⟨a,vs,rfl,h1,h2⟩
     have i2:DV X.K H (.tup es) (.ref a):=by simp only [DV];exact ⟨a,ws,rfl,h3,h4⟩
     rw [DV.inj I i1 i2,kY i2]
     exact SeqAt.EqAt.same _
    ·exact SeqAt.EqAt.of_refs hab rc
  | lst ds =>
   simp only [DV] at hd
   obtain ⟨a,vs,rfl,h1,h2⟩:=hd
   cases (show u=Value.ref a from ru)
   obtain ⟨its,r1,t1,_⟩:=I.list h1
   cases e with
   | bl _=>simp [plain] at pe
   | dct _ _=>simp [plain] at pe
   | ref _=>simp [plain] at pe
   | ak =>
    simp only [DV] at he;subst he;cases (show w=Value.none from rw')
    simp only [aH];exact ⟨SeqAt.RcAt.list_none  t1.isList hu,SeqAt.EqAt.list_none  t1.isList hu⟩
   | int j =>
    simp only [DV] at he;subst he;obtain ⟨t',rfl⟩:=(show ∃ t,w=Value.int j t from rw')
    simp only [aH];exact ⟨SeqAt.RcAt.list_int j t' t1.isList hu,SeqAt.EqAt.list_int j t' t1.isList hu⟩
   | str j =>
    simp only [DV] at he;subst he;obtain ⟨t',rfl⟩:=(show ∃ t,w=Value.str j t from rw')
    simp only [aH];exact ⟨SeqAt.RcAt.list_str j t' t1.isList hu,SeqAt.EqAt.list_str j t' t1.isList hu⟩
   | tup es =>
    simp only [DV] at he
    obtain ⟨b,ws,rfl,h3,h4⟩:=he
    cases (show w=Value.ref b from rw')
    obtain ⟨its2,r2,t2,_⟩:=I.tuple h3
    simp only [aH];exact ⟨SeqAt.RcAt.list_tuple t1.isList t2 hu,SeqAt.EqAt.of_refs (SeqAt.ne_of_list_tuple t1.isList t2) (SeqAt.RcAt.list_tuple t1.isList t2 hu)⟩
   | lst es =>
    simp only [DV] at he
    obtain ⟨b,ws,rfl,h3,h4⟩:=he
    cases (show w=Value.ref b from rw')
    obtain ⟨its2,r2,t2,_⟩:=I.list h3
    have Gs:aL ds=true:=by simpa [plain] using pd
    have Gr:aL es=true:=by simpa [plain] using pe
    have l1:its.length=ds.length:=by rw [<- r1.length,h2.length]
    have l2:its2.length=es.length:=by rw [<- r2.length,h4.length]
    let f:Nat->Bool:=fun j=>match ds[j]?,es[j]? with | some a,some b=>aH a b | _,_=>false
    have items:∀ j (h1:j<its.toArray.size) (h2:j<its2.toArray.size),SeqAt.EqAt A.in1 s its.toArray[j] its2.toArray[j] (f j):=by
     intro j j1 j2
     have nP:j<ds.length:=by rw [<- l1];simpa using j1
     have nO:j<es.length:=by rw [<- l2];simpa using j2
     obtain ⟨v,e1,q1⟩:=h2.get nP
     obtain ⟨v',e2,q2⟩:=h4.get nO
     obtain ⟨z,e3,q3⟩:=r1.get e1
     obtain ⟨z',e4,q4⟩:=r2.get e2
     have i1:its.toArray[j]=z:=by
      have:its[j]? = some its[j]:=List.getElem?_eq_getElem (by simpa using j1)
      rw [this] at e3;simpa using Option.some.inj e3
     have i2:its2.toArray[j]=z':=by
      have:its2[j]? = some its2[j]:=List.getElem?_eq_getElem (by simpa using j2)
      rw [this] at e4;simpa using Option.some.inj e4
     have g1:=cJ nP
     have g2:=cJ nO
     have hf:f j=aH ds[j] es[j]:=by simp only [f,List.getElem?_eq_getElem nP,List.getElem?_eq_getElem nO]
     rw [i1,i2,hf]
     simp only [dep] at hn hA
     exact (ih ds[j] es[j] v v' z z' (by omega) q1 q2 (aS Gs nP) (aS Gr nO) q3 q4 A.in1 (by rw [in1_units];omega)).2
    have xE:its.toArray.size=ds.length:=by simpa using l1
    have Ba:its2.toArray.size=es.length:=by simpa using l2
    have rc:SeqAt.RcAt A s (.ref a) (.ref b) (aH (.lst ds) (.lst es)):=by
     by_cases hz:ds.length=es.length
     ·have q:=SeqAt.RcAt.lists t1.isList t2.isList (by rw [xE,Ba,hz]) hu items
      have z:=c7 ds es
      rw [show min ds.length es.length=ds.length by omega,show (ds.length == es.length)=true by simpa using hz,Bool.and_true] at z
      rw [xE,z] at q
      simp only [aH];exact q
     ·have q:=SeqAt.RcAt.lists_lengths t1.isList t2.isList (by rw [xE,Ba];simpa using hz) hu
      have z:=c7 ds es
      rw [show (ds.length == es.length)=false by simpa using hz,Bool.and_false] at z
      simp only [aH,<- z];exact q
    refine ⟨rc,?_⟩
    by_cases hab:a=b
    ·subst hab
     have i1:DV X.K H (.lst ds) (.ref a):=by simp only [DV];exact ⟨a,vs,rfl,h1,h2⟩
     have i2:DV X.K H (.lst es) (.ref a):=by simp only [DV];exact ⟨a,ws,rfl,h3,h4⟩
     rw [DV.inj I i1 i2,kY i2]
     exact SeqAt.EqAt.same _
    ·exact SeqAt.EqAt.of_refs hab rc
theorem ne_data (I:Inv X pins σ H s):∀ (d e:D) (x y:V) (u w:Value),DV X.K H d x->DV X.K H e y->plain d=true->plain e=true->RelV x u->RelV y w->∀ A:Around,A.units+(min (dep d) (dep e)+1)<cLine->SeqAt.RcNeAt A s u w (!aH d e)
 | d, e, x, y, u, w, hd, he, pd, pe, ru, rw'=>by
  have ih:=eq_data I (dep d+dep e)
  intro A hA
  have hu:A.units<cLine:=by omega
  cases d with
  | bl _=>simp [plain] at pd
  | dct _ _=>simp [plain] at pd
  | ref _=>simp [plain] at pd
  | ak =>
   simp only [DV] at hd;subst hd;cases (show u=Value.none from ru)
   cases e with
   | bl _=>simp [plain] at pe
   | dct _ _=>simp [plain] at pe
   | ref _=>simp [plain] at pe
   | ak =>
    simp only [DV] at he;subst he;cases (show w=Value.none from rw')
    simp only [aH,Bool.not_false,Bool.not_true];exact SeqAt.RcNeAt.none_none
   | int j =>
    simp only [DV] at he;subst he;obtain ⟨t',rfl⟩:=(show ∃ t,w=Value.int j t from rw')
    simp only [aH,Bool.not_false,Bool.not_true];exact SeqAt.RcNeAt.none_int j t'
   | str j =>
    simp only [DV] at he;subst he;obtain ⟨t',rfl⟩:=(show ∃ t,w=Value.str j t from rw')
    simp only [aH,Bool.not_false,Bool.not_true];exact SeqAt.RcNeAt.none_str j t'
   | tup es =>
    simp only [DV] at he
    obtain ⟨b,ws,rfl,h3,h4⟩:=he
    cases (show w=Value.ref b from rw')
    obtain ⟨its,_,t1,_⟩:=I.tuple h3
    simp only [aH,Bool.not_false,Bool.not_true];exact SeqAt.RcNeAt.none_tuple  t1 hu
   | lst es =>
    simp only [DV] at he
    obtain ⟨b,ws,rfl,h3,h4⟩:=he
    cases (show w=Value.ref b from rw')
    obtain ⟨its,_,t1,_⟩:=I.list h3
    simp only [aH,Bool.not_false,Bool.not_true];exact SeqAt.RcNeAt.none_list  t1.isList hu
  | int i =>
   simp only [DV] at hd;subst hd;obtain ⟨t,rfl⟩:=(show ∃ t,u=Value.int i t from ru)
   cases e with
   | bl _=>simp [plain] at pe
   | dct _ _=>simp [plain] at pe
   | ref _=>simp [plain] at pe
   | ak =>
    simp only [DV] at he;subst he;cases (show w=Value.none from rw')
    simp only [aH,Bool.not_false,Bool.not_true];exact SeqAt.RcNeAt.int_none i t
   | int j =>
    simp only [DV] at he;subst he;obtain ⟨t',rfl⟩:=(show ∃ t,w=Value.int j t from rw')
    have z:aH (D.int i) (D.int j)=(i == j):=by simp only [aH];by_cases q:i=j <;> simp [q]
    rw [z];exact SeqAt.RcNeAt.int_int i t j t'
   | str j =>
    simp only [DV] at he;subst he;obtain ⟨t',rfl⟩:=(show ∃ t,w=Value.str j t from rw')
    simp only [aH,Bool.not_false,Bool.not_true];exact SeqAt.RcNeAt.int_str i t j t'
   | tup es =>
    simp only [DV] at he
    obtain ⟨b,ws,rfl,h3,h4⟩:=he
    cases (show w=Value.ref b from rw')
    obtain ⟨its,_,t1,_⟩:=I.tuple h3
    simp only [aH,Bool.not_false,Bool.not_true];exact SeqAt.RcNeAt.int_tuple i t t1 hu
   | lst es =>
    simp only [DV] at he
    obtain ⟨b,ws,rfl,h3,h4⟩:=he
    cases (show w=Value.ref b from rw')
    obtain ⟨its,_,t1,_⟩:=I.list h3
    simp only [aH,Bool.not_false,Bool.not_true];exact SeqAt.RcNeAt.int_list i t t1.isList hu
  | str i =>
   simp only [DV] at hd;subst hd;obtain ⟨t,rfl⟩:=(show ∃ t,u=Value.str i t from ru)
   cases e with
   | bl _=>simp [plain] at pe
   | dct _ _=>simp [plain] at pe
   | ref _=>simp [plain] at pe
   | ak =>
    simp only [DV] at he;subst he;cases (show w=Value.none from rw')
    simp only [aH,Bool.not_false,Bool.not_true];exact SeqAt.RcNeAt.str_none i t
   | int j =>
    simp only [DV] at he;subst he;obtain ⟨t',rfl⟩:=(show ∃ t,w=Value.int j t from rw')
    simp only [aH,Bool.not_false,Bool.not_true];exact SeqAt.RcNeAt.str_int i t j t'
   | str j =>
    simp only [DV] at he;subst he;obtain ⟨t',rfl⟩:=(show ∃ t,w=Value.str j t from rw')
    have z:aH (D.str i) (D.str j)=(i == j):=by simp only [aH];by_cases q:i=j <;> simp [q]
    rw [z];exact SeqAt.RcNeAt.str_str i t j t'
   | tup es =>
    simp only [DV] at he
    obtain ⟨b,ws,rfl,h3,h4⟩:=he
    cases (show w=Value.ref b from rw')
    obtain ⟨its,_,t1,_⟩:=I.tuple h3
    simp only [aH,Bool.not_false,Bool.not_true];exact SeqAt.RcNeAt.str_tuple i t t1 hu
   | lst es =>
    simp only [DV] at he
    obtain ⟨b,ws,rfl,h3,h4⟩:=he
    cases (show w=Value.ref b from rw')
    obtain ⟨its,_,t1,_⟩:=I.list h3
    simp only [aH,Bool.not_false,Bool.not_true];exact SeqAt.RcNeAt.str_list i t t1.isList hu
  | tup ds =>
   simp only [DV] at hd
   obtain ⟨a,vs,rfl,h1,h2⟩:=hd
   cases (show u=Value.ref a from ru)
   obtain ⟨its,r1,t1,_⟩:=I.tuple h1
   cases e with
   | bl _=>simp [plain] at pe
   | dct _ _=>simp [plain] at pe
   | ref _=>simp [plain] at pe
   | ak =>
    simp only [DV] at he;subst he;cases (show w=Value.none from rw')
    simp only [aH,Bool.not_false,Bool.not_true];exact SeqAt.RcNeAt.tuple_none  t1 hu
   | int j =>
    simp only [DV] at he;subst he;obtain ⟨t',rfl⟩:=(show ∃ t,w=Value.int j t from rw')
    simp only [aH,Bool.not_false,Bool.not_true];exact SeqAt.RcNeAt.tuple_int j t' t1 hu
   | str j =>
    simp only [DV] at he;subst he;obtain ⟨t',rfl⟩:=(show ∃ t,w=Value.str j t from rw')
    simp only [aH,Bool.not_false,Bool.not_true];exact SeqAt.RcNeAt.tuple_str j t' t1 hu
   | lst es =>
    simp only [DV] at he
    obtain ⟨b,ws,rfl,h3,h4⟩:=he
    cases (show w=Value.ref b from rw')
    obtain ⟨its2,r2,t2,_⟩:=I.list h3
    simp only [aH,Bool.not_false,Bool.not_true];exact SeqAt.RcNeAt.tuple_list t1 t2.isList hu
   | tup es =>
    simp only [DV] at he
    obtain ⟨b,ws,rfl,h3,h4⟩:=he
    cases (show w=Value.ref b from rw')
    obtain ⟨its2,r2,t2,_⟩:=I.tuple h3
    have Gs:aL ds=true:=by simpa [plain] using pd
    have Gr:aL es=true:=by simpa [plain] using pe
    have l1:its.length=ds.length:=by rw [<- r1.length,h2.length]
    have l2:its2.length=es.length:=by rw [<- r2.length,h4.length]
    let f:Nat->Bool:=fun j=>match ds[j]?,es[j]? with | some a,some b=>aH a b | _,_=>false
    have items:∀ j (h1:j<its.toArray.size) (h2:j<its2.toArray.size),SeqAt.EqAt A.in1 s its.toArray[j] its2.toArray[j] (f j):=by
     intro j j1 j2
     have nP:j<ds.length:=by rw [<- l1];simpa using j1
     have nO:j<es.length:=by rw [<- l2];simpa using j2
     obtain ⟨v,e1,q1⟩:=h2.get nP
     obtain ⟨v',e2,q2⟩:=h4.get nO
     obtain ⟨z,e3,q3⟩:=r1.get e1
     obtain ⟨z',e4,q4⟩:=r2.get e2
     have i1:its.toArray[j]=z:=by
      have:its[j]? = some its[j]:=List.getElem?_eq_getElem (by simpa using j1)
      rw [this] at e3;simpa using Option.some.inj e3
     have i2:its2.toArray[j]=z':=by
      have:its2[j]? = some its2[j]:=List.getElem?_eq_getElem (by simpa using j2)
      rw [this] at e4;simpa using Option.some.inj e4
     have g1:=cJ nP
     have g2:=cJ nO
     have hf:f j=aH ds[j] es[j]:=by simp only [f,List.getElem?_eq_getElem nP,List.getElem?_eq_getElem nO]
     rw [i1,i2,hf]
     simp only [dep] at ih hA
     exact (ih ds[j] es[j] v v' z z' (by omega) q1 q2 (aS Gs nP) (aS Gr nO) q3 q4 A.in1 (by rw [in1_units];omega)).2
    have xE:its.toArray.size=ds.length:=by simpa using l1
    have Ba:its2.toArray.size=es.length:=by simpa using l2
    have rc:SeqAt.RcNeAt A s (.ref a) (.ref b) (!aH (.tup ds) (.tup es)):=by
     have q:=SeqAt.RcNeAt.tuples t1 t2 hu items
     rw [xE,Ba,c7] at q
     simp only [aH];exact q
    exact rc
  | lst ds =>
   simp only [DV] at hd
   obtain ⟨a,vs,rfl,h1,h2⟩:=hd
   cases (show u=Value.ref a from ru)
   obtain ⟨its,r1,t1,_⟩:=I.list h1
   cases e with
   | bl _=>simp [plain] at pe
   | dct _ _=>simp [plain] at pe
   | ref _=>simp [plain] at pe
   | ak =>
    simp only [DV] at he;subst he;cases (show w=Value.none from rw')
    simp only [aH,Bool.not_false,Bool.not_true];exact SeqAt.RcNeAt.list_none  t1.isList hu
   | int j =>
    simp only [DV] at he;subst he;obtain ⟨t',rfl⟩:=(show ∃ t,w=Value.int j t from rw')
    simp only [aH,Bool.not_false,Bool.not_true];exact SeqAt.RcNeAt.list_int j t' t1.isList hu
   | str j =>
    simp only [DV] at he;subst he;obtain ⟨t',rfl⟩:=(show ∃ t,w=Value.str j t from rw')
    simp only [aH,Bool.not_false,Bool.not_true];exact SeqAt.RcNeAt.list_str j t' t1.isList hu
   | tup es =>
    simp only [DV] at he
    obtain ⟨b,ws,rfl,h3,h4⟩:=he
    cases (show w=Value.ref b from rw')
    obtain ⟨its2,r2,t2,_⟩:=I.tuple h3
    simp only [aH,Bool.not_false,Bool.not_true];exact SeqAt.RcNeAt.list_tuple t1.isList t2 hu
   | lst es =>
    simp only [DV] at he
    obtain ⟨b,ws,rfl,h3,h4⟩:=he
    cases (show w=Value.ref b from rw')
    obtain ⟨its2,r2,t2,_⟩:=I.list h3
    have Gs:aL ds=true:=by simpa [plain] using pd
    have Gr:aL es=true:=by simpa [plain] using pe
    have l1:its.length=ds.length:=by rw [<- r1.length,h2.length]
    have l2:its2.length=es.length:=by rw [<- r2.length,h4.length]
    let f:Nat->Bool:=fun j=>match ds[j]?,es[j]? with | some a,some b=>aH a b | _,_=>false
    have items:∀ j (h1:j<its.toArray.size) (h2:j<its2.toArray.size),SeqAt.EqAt A.in1 s its.toArray[j] its2.toArray[j] (f j):=by
     intro j j1 j2
     have nP:j<ds.length:=by rw [<- l1];simpa using j1
     have nO:j<es.length:=by rw [<- l2];simpa using j2
     obtain ⟨v,e1,q1⟩:=h2.get nP
     obtain ⟨v',e2,q2⟩:=h4.get nO
     obtain ⟨z,e3,q3⟩:=r1.get e1
     obtain ⟨z',e4,q4⟩:=r2.get e2
     have i1:its.toArray[j]=z:=by
      have:its[j]? = some its[j]:=List.getElem?_eq_getElem (by simpa using j1)
      rw [this] at e3;simpa using Option.some.inj e3
     have i2:its2.toArray[j]=z':=by
      have:its2[j]? = some its2[j]:=List.getElem?_eq_getElem (by simpa using j2)
      rw [this] at e4;simpa using Option.some.inj e4
     have g1:=cJ nP
     have g2:=cJ nO
     have hf:f j=aH ds[j] es[j]:=by simp only [f,List.getElem?_eq_getElem nP,List.getElem?_eq_getElem nO]
     rw [i1,i2,hf]
     simp only [dep] at ih hA
     exact (ih ds[j] es[j] v v' z z' (by omega) q1 q2 (aS Gs nP) (aS Gr nO) q3 q4 A.in1 (by rw [in1_units];omega)).2
    have xE:its.toArray.size=ds.length:=by simpa using l1
    have Ba:its2.toArray.size=es.length:=by simpa using l2
    have rc:SeqAt.RcNeAt A s (.ref a) (.ref b) (!aH (.lst ds) (.lst es)):=by
     by_cases hz:ds.length=es.length
     ·have q:=SeqAt.RcNeAt.lists t1.isList t2.isList (by rw [xE,Ba,hz]) hu items
      have z:=c7 ds es
      rw [show min ds.length es.length=ds.length by omega,show (ds.length == es.length)=true by simpa using hz,Bool.and_true] at z
      rw [xE,z] at q
      simp only [aH];exact q
     ·have q:=SeqAt.RcNeAt.lists_lengths t1.isList t2.isList (by rw [xE,Ba];simpa using hz) hu
      have z:=c7 ds es
      rw [show (ds.length == es.length)=false by simpa using hz,Bool.and_false] at z
      simp only [aH,<- z,Bool.not_false];exact q
    exact rc
end
end Fg
end
section
namespace Fg
open PySem PySem.Spec L2
section
variable {X:Cx} {B:Bd} {pins:List (Addr×Obj)} {σ:L2.St} {H:Hp} {s:Shared}
noncomputable def lC (B:Bd) (X:Cx):Prop:=∀ a kvs,B.dk a kvs->∀ h:Heap,X.K.In h->kvs.length<=sizeLine/\(a == sysModules)=false/\∃ vs,KV kvs vs/\h.DictOf (aG X.prog X.w) a vs
theorem Jc {a:Addr} {kvs:List (Key×V)} (hB:lC B X) (I:Inv X pins σ H s) (h:IX B H a kvs):kvs.length<=sizeLine/\(a == sysModules)=false/\∃ vs,KV kvs vs/\s.heap.DictOf (aG X.prog X.w) a vs:=by
 rcases h with h | h
 ·exact EL I.hok h
 ·exact hB a kvs h s.heap I.iK
noncomputable def Rm (X:Cx):Prop:=X.A.units+150<cLine
theorem GH (hu:Rm X):eB X (compareOp .Eq) (ym X.K false):=by
 intro pins s σ H x y v u Q I rx ry h
 obtain ⟨d,e,hd,he,hc,q⟩:=h
 simp only [cE,Bool.and_eq_true,Bool.or_eq_true,decide_eq_true_eq] at hc
 have:=(eq_data I (dep d+dep e+1) d e x y v u (Nat.lt_succ_self _) hd he hc.1.1 hc.1.2 rx ry X.A (by unfold Rm at hu;omega)).1
 exact this X.prog X.w X.xe _ ⟨.bl (aH d e),H,I,rfl,q⟩
theorem Gz (hu:Rm X):eB X (compareOp .NotEq) (ym X.K true):=by
 intro pins s σ H x y v u Q I rx ry h
 obtain ⟨d,e,hd,he,hc,q⟩:=h
 simp only [cE,Bool.and_eq_true,Bool.or_eq_true,decide_eq_true_eq] at hc
 have:=ne_data I d e x y v u hd he hc.1.1 hc.1.2 rx ry X.A (by unfold Rm at hu;omega)
 exact this X.prog X.w X.xe _ ⟨.bl (!aH d e),H,I,rfl,q⟩
theorem GI:eB X (compareOp .Eq) (BP false):=by
 intro pins s σ H x y v u Q I rx ry h
 obtain ⟨a,b,rfl,rfl,q⟩:=h
 refine KD pins s σ H _ _ v u Q I rx ry ⟨rfl,?_⟩
 have e:decide (V.bl a=V.bl b)=(a == b):=oh
 rw [e];exact q
theorem GA:eB X (compareOp .NotEq) (BP true):=by
 intro pins s σ H x y v u Q I rx ry h
 obtain ⟨a,b,rfl,rfl,q⟩:=h
 refine Kv pins s σ H _ _ v u Q I rx ry ⟨rfl,?_⟩
 have e:decide (V.bl a=V.bl b)=(a == b):=oh
 rw [e];exact q
theorem GG (hu:Rm X):eB X (compareOp .Eq) (yk X.K false):=by
 intro pins s σ H x y v u Q I rx ry h
 obtain ⟨l,b,xs,rfl,rfl,hH,hB,q⟩:=h
 cases rx
 cases ry
 have La:X.A.units<cLine:=by unfold Rm at hu;omega
 obtain ⟨its,r,pl,z⟩:=I.list hH
 obtain ⟨its2,r2,Gb,z2⟩:=I.list hB
 cases r2
 cases r with
 | nil=>exact SeqAt.eq_listAt (e:=fun _=>true) pl.isList Gb.isList rfl La (fun j h1=>by simp at h1) ⟨.bl true,H,I,rfl,q⟩
 | cons _ _=>exact SeqAt.eq_list_lengthsAt pl.isList Gb.isList (by simp) La ⟨.bl false,H,I,rfl,q⟩
theorem Gy (hu:Rm X):eB X (compareOp .NotEq) (yk X.K true):=by
 intro pins s σ H x y v u Q I rx ry h
 obtain ⟨l,b,xs,rfl,rfl,hH,hB,q⟩:=h
 cases rx
 cases ry
 have La:X.A.units<cLine:=by unfold Rm at hu;omega
 obtain ⟨its,r,pl,z⟩:=I.list hH
 obtain ⟨its2,r2,Gb,z2⟩:=I.list hB
 cases r2
 cases r with
 | nil=>exact SeqAt.RcNeAt.lists (e:=fun _=>true) pl.isList Gb.isList rfl La (fun j h1=>by simp at h1) X.prog X.w X.xe _ ⟨.bl false,H,I,rfl,q⟩
 | cons _ _=>exact SeqAt.RcNeAt.lists_lengths pl.isList Gb.isList (by simp) La X.prog X.w X.xe _ ⟨.bl true,H,I,rfl,q⟩
theorem GF (hB:lC B X):eB X (compareOp .In) (yo B false):=by
 intro pins s σ H x y v u Q I rx ry h
 obtain ⟨a,kvs,k,rfl,rfl,hd,q⟩:=h
 obtain rfl:u=Value.ref a:=ry
 obtain ⟨z,hm,vs,rel,dd⟩:=Jc hB I hd
 refine wpAny_in_of (mH rx) hm dd.mapOf ?_
 rw [<- (rel.val k).ji]
 exact ⟨.bl (cF kvs k).isSome,H,I.tok _,rfl,q⟩
theorem vU (hB:lC B X):eB X (compareOp .NotIn) (yo B true):=by
 intro pins s σ H x y v u Q I rx ry h
 obtain ⟨a,kvs,k,rfl,rfl,hd,q⟩:=h
 obtain rfl:u=Value.ref a:=ry
 obtain ⟨z,hm,vs,rel,dd⟩:=Jc hB I hd
 refine wpAny_notIn_of (mH rx) hm dd.mapOf ?_
 rw [<- (rel.val k).ji]
 exact ⟨.bl (!(cF kvs k).isSome),H,I.tok _,rfl,q⟩
noncomputable def Ao:AJ->CmpOp
 | .eq=>.Eq | .ne=>.NotEq | .lt=>.Lt | .le=>.LtE | .gt=>.Gt | .ge=>.GtE | .isin=>.In | .pP=>.NotIn | .AS=>.Is | .lI=>.IsNot
theorem yH (hK:B.K=X.K) (hu:Rm X) (hB:lC B X):∀ o:AJ,eB X (compareOp (Ao o)) (rG B o)
 | .lt=>Kw
 | .le=>Kz
 | .gt=>KA
 | .ge=>KC
 | .eq=>by rw [rG,hK];exact GI.or ((GH hu).or (GG hu))
 | .ne=>by rw [rG,hK];exact GA.or ((Gz hu).or (Gy hu))
 | .AS=>GD
 | .lI=>Cb
 | .isin=>by rw [rG,hK];exact (GF hB).or vV
 | .pP=>by rw [rG,hK];exact (vU hB).or nC
theorem Cg:eB X (binaryOp .Add) (D8 X.K):=by
 intro pins s σ H x y v u Q I rx ry h
 obtain ⟨l,b,xs,zs,rfl,rfl,hH,hB,hz,q⟩:=h
 cases rx
 cases ry
 obtain ⟨its,r,pl,z⟩:=I.list hH
 obtain ⟨its2,r2,Gb,z2⟩:=I.list hB
 obtain ⟨⟨cls,dd,data,sl⟩,ho,hc,n,hd⟩:=id pl.isList
 obtain ⟨⟨L6,dd2,data2,sl2⟩,ho2,hc2,n2,hd2⟩:=id Gb.isList
 simp only at hc hd hc2 hd2
 subst hc hd hc2 hd2
 have l1:=r.length
 have l2:=r2.length
 have ea:its.toArray++its2.toArray=(its++its2).toArray:=by simp
 refine PySem.concat_meets ⟨_,ho,rfl⟩ ⟨_,ho2,rfl⟩ PySem.noFill_list_add PySem.seq_list_add PySem.F.slot_list_add PySem.F.entry_list_add (PySem.F.args_list_add_2 _ _) (PyProof.Rows.list_addW l b its.toArray its2.toArray n n2 dd dd2 sl sl2 (by simp only [List.size_toArray];omega)) ⟨ho,ho2,?_⟩
 rw [ea]
 exact ⟨.ref _,_,I.KY (t':=s.toks) (r.append r2) (by rw [List.length_append];omega),rfl,q _ I.fresh⟩
theorem Cd:eB X (binaryOp .Mult) (D5 X.K):=by
 intro pins s σ H x y v u Q I rx ry h
 obtain ⟨l,xs,k,rfl,rfl,hH,hz,hk,q⟩:=h
 cases rx
 obtain ⟨t,rfl⟩:=(show ∃ t,u=Value.int k t from ry)
 obtain ⟨its,r,pl,z⟩:=I.list hH
 obtain ⟨⟨cls,dd,data,sl⟩,ho,hc,n,hd⟩:=id pl.isList
 simp only at hc hd
 subst hc hd
 have l1:=r.length
 rw [l1] at hz
 refine wpAny_binaryOp_repeat_ref (T:="list") (U:="int") (by decide) ⟨_, ho, rfl⟩ (fun s'=>typeIs_int s' k t) noFill_list_mul PySem.F.fills_int_mul PySem.F.slot_int_rmul repeat_list PySem.F.slot_int_index.lookup
  (call_meets PySem.F.slot_int_rmul (typeIs_int s k t) PySem.F.entry_int_rmul (PySem.F.args_int_rmul_2 _ _) (PySem.lm_int_rmul_list_any k t l its.toArray n dd sl)
   ⟨ho,rfl,⟨_,ho,rfl⟩,call_meets PySem.F.slot_list_mul ⟨_,ho,rfl⟩ PySem.F.entry_list_mul (PySem.F.args_list_mul_2 _ _)
    (PySem.lm_list_mul_any l its.toArray n dd sl k t (by simp [Builtin.List.listFitsIndex];omega) (by rw [List.size_toArray];rw [sizeLine_eq] at hz;omega) (by rw [sizeLine_eq] at hz;simp [Builtin.List.listTooLong,sizeLine];omega))
    ⟨ho,?_⟩⟩)
 rw [PyProof.Rows.listMul_foldl_if]
 have rr:Vals (List.replicate k.toNat xs).flatten (List.replicate k.toNat its).flatten:=by
  generalize k.toNat=m
  induction m with
  | zero=>exact .nil
  | succ m ih=>rw [List.replicate_succ,List.replicate_succ,List.flatten_cons,List.flatten_cons];exact r.append ih
 exact ⟨.ref _,_,I.KY (t':=s.toks) rr (by rw [List.length_flatten];simp [List.sum_replicate_nat];rw [l1,Nat.mul_comm];exact hz),rfl,q _ I.fresh⟩
theorem pW {i:Int} (h:i.natAbs<10 ^ 200):Builtin.Int.intBits i<=2 ^ 20:=by
 unfold Builtin.Int.intBits
 split
 ·exact Nat.zero_le _
 ·have z:i.natAbs.log2<1000:=by
   by_cases h0:i.natAbs=0
   ·rw [h0];decide
   ·exact (Nat.log2_lt h0).mpr (Nat.lt_of_lt_of_le h (by decide +kernel))
  exact Nat.le_trans (Nat.succ_le_of_lt z) (by decide)
theorem Cc:eB X (binaryOp .Mult) (rI MD fun i j=>.int (i*j)):=KH fun _ _ _ _ _ _ _ hc q=>PyProof.Rows.mul_int q (.of_bits (pW hc.1) (pW hc.2))
noncomputable def binOp:DE->Operator
 | .add=>.Add | .sub=>.Sub | .mul=>.Mult | .fdiv=>.FloorDiv | .mod=>.Mod | .pow=>.Pow
theorem GJ (hK:B.K=X.K):∀ o:DE,eB X (binaryOp (binOp o)) (J6 B.K o)
 | .add=>by rw [J6,hK];exact GK.or (rO.or (Cg.or Cf))
 | .sub=>Gv
 | .mul=>by rw [J6,hK];exact GB.or (Cc.or Cd)
 | .fdiv=>Ce
 | .mod=>GC
 | .pow=>Gw
theorem HH (hB:lC B X):A1 X (Ka B):=by
 intro value slice pins s σ H x y v u Q I rx ry h hs
 obtain ⟨a,kvs,k,w,rfl,rfl,hd,hv,q⟩:=h
 obtain rfl:v=Value.ref a:=rx
 obtain ⟨z,hm,vs,rel,dd⟩:=Jc hB I hd
 obtain ⟨w',hw,rw'⟩:=ie.some_of (v:=w) (o:=valueAt vs k) (by rw [<- hv];exact rel.val k)
 exact PyProof.Rows.tail_any dd.typeIs PySem.F.slot_dict_getitem.lookup (wpAny_getItem_of (mH ry) dd.mapOf hw ⟨w,H,I.tok _,rw',q⟩) hs
theorem HJ (hK:B.K=X.K) (hB:lC B X):A1 X (BO B):=by
 unfold BO;rw [hK];exact CH.or (HF.or (HG.or (HH hB)))
theorem wH (hK:B.K=X.K) (hB:lC B X):c8 X (.builtin "len") (FY B):=by
 unfold FY;rw [hK]
 refine ow.or (oz.or ?_)
 intro pins s σ H xs us Q I r h
 obtain ⟨a,kvs,rfl,ha,q⟩:=h
 obtain ⟨u,rfl,ru⟩:=vals1 r
 cases ru
 obtain ⟨z,hd,vs,rel,dd⟩:=Jc hB I ha
 refine call_len_dict hd dd (by rw [<- rel.length];rw [sizeLine_eq] at z;omega) ?_
 rw [<- rel.length]
 exact ⟨.int kvs.length,H,I.tok _,⟨_,rfl⟩,q⟩
theorem wJ (hB:lC B X):c8 X (.type "dict") (yp B):=by
 intro pins s σ H xs us Q I r h
 obtain ⟨p,kvs,rfl,ha,q⟩:=h
 obtain ⟨u,rfl,ru⟩:=vals1 r
 cases ru
 obtain ⟨z,hd,vs,rel,dd⟩:=Jc hB I ha
 refine kt_call_dict hd dd (by rw [<- rel.length];exact z) fun h' Dk hs=>?_
 refine ⟨.ref s.heap.objs.size,_,I.laid (a:=s.heap.objs.size) (o:=.dK kvs) (t':=s.toks) (fun b q hq=>?_) (Nat.le_refl _) (sL z (beq_eq_false_iff_ne.mpr (Ne.symm (Nat.ne_of_lt I.big))) rel Dk),rfl,q _ (I.hok.fresh (Nat.le_refl _))⟩
 exact (hs.2 b (Nat.ne_of_lt (Heap.lt_size hq))).trans (Heap.get?_push_of_some _ hq)
inductive DB (B:Bd) (H:Hp):V->String->Prop where
 | ak:DB B H .ak "NoneType"
 | bl (b:Bool):DB B H (.bl b) "bool"
 | int (i:Int):DB B H (.int i) "int"
 | str (x:Str):DB B H (.str x) "str"
 | lst {a:Addr} {xs:List V}:fJ B.K H a xs->DB B H (.ref a) "list"
 | tup {a:Addr} {xs:List V}:ic B.K H a xs->DB B H (.ref a) "tuple"
 | dct {a:Addr} {kvs:List (Key×V)}:IX B H a kvs->DB B H (.ref a) "dict"
noncomputable def oN:Ty->String
 | .int=>"int" | .str=>"str" | .bool=>"bool" | .list=>"list" | .tuple=>"tuple" | .dict=>"dict"
noncomputable def tyB (T:String) (t:Ty):Bool:=T == oN t||(T == "bool"&&match t with | .int=>true | _=>false)
noncomputable def Kc (B:Bd):List V->Hp->VK->Prop:=fun xs H Q=>∃ x T t,xs=[x,.ty (oN t)]/\DB B H x T/\Q (.bl (tyB T t)) H
theorem Cy (K:W.Frag):∀ t:Ty, W.kitOne K (.type "NoneType") (.type (oN t))=some (tyB "NoneType" t)/\W.kitOne K (.type "bool") (.type (oN t))=some (tyB "bool" t)/\W.kitOne K (.type "int") (.type (oN t))=some (tyB "int" t)/\W.kitOne K (.type "str") (.type (oN t))=some (tyB "str" t) /\
  W.kitOne K (.type "list") (.type (oN t))=some (tyB "list" t)/\W.kitOne K (.type "tuple") (.type (oN t))=some (tyB "tuple" t)/\W.kitOne K (.type "dict") (.type (oN t))=some (tyB "dict" t):=by
 intro t
 cases t <;> (refine ⟨?_,?_,?_,?_,?_,?_,?_⟩ <;> kernel_rfl)
theorem Ar (hK:B.K=X.K) (hB:lC B X):c8 X (.builtin "isinstance") (Kc B):=by
 intro pins s σ H xs us Q I r h
 obtain ⟨x,T,t,rfl,ty,q⟩:=h
 cases r with
 | cons rx r =>
  cases r with
  | cons rt r =>
   cases r
   obtain rfl:=(show _=Value.type (oN t) from rt)
   have fin:∀ tk,EP X pins σ Q (.bool (tyB T t)) { s with toks:=tk }:=fun tk=>⟨.bl (tyB T t),H,I.tok _,rfl,q⟩
   obtain ⟨k1,k2,k3,k4,k5,k6,k7⟩:=Cy X.K t
   cases ty with
   | ak=>cases (show _=Value.none from rx);exact W.kia_one W.kitx_none I.iK True.intro k1 (fun z=>nomatch z) fin
   | bl b=>cases (show _=Value.bool b from rx);exact W.kia_one W.kitx_bool I.iK True.intro k2 (fun z=>nomatch z) fin
   | int i=>obtain ⟨tk,q⟩:=(show ∃ t,_=Value.int i t from rx);cases q;exact W.kia_one W.kitx_int I.iK True.intro k3 (fun z=>nomatch z) fin
   | str y=>obtain ⟨tk,q⟩:=(show ∃ t,_=Value.str y t from rx);cases q;exact W.kia_one W.kitx_str I.iK True.intro k4 (fun z=>nomatch z) fin
   | lst hl =>
    cases rx
    rw [hK] at hl
    obtain ⟨its,_,pl,_⟩:=I.list hl
    obtain ⟨o,ho,hc,_⟩:=pl.isList
    exact W.kia_one W.kitx_list I.iK ⟨o,ho,hc⟩ k5 (fun z=>nomatch z) fin
   | tup hl =>
    cases rx
    rw [hK] at hl
    obtain ⟨its,_,pl,_⟩:=I.tuple hl
    obtain ⟨o,ho,hc,_⟩:=pl
    exact W.kia_one W.kitx_tuple I.iK ⟨o,ho,hc⟩ k6 (fun z=>nomatch z) fin
   | dct hd =>
    cases rx
    obtain ⟨z,hm,vs,rel,dd⟩:=Jc hB I hd
    obtain ⟨o,ho,hc⟩:=dd.typeIs
    exact W.kia_one W.kitx_dict I.iK ⟨o,ho,hc⟩ k7 (fun z=>nomatch z) fin
end
end Fg
end
section
namespace Fg
open PySem PySem.Spec L2
theorem kG {α:Type} (xs:List α) (a:Nat):∀ c:Nat,((List.range c).map fun k=>a+k).filterMap (fun i=>xs[i]?)=(xs.drop a).take c
 | 0=>by simp
 | c+1=>by
  rw [List.range_succ,List.map_append,List.filterMap_append,kG xs a c,List.take_add_one]
  simp [List.getElem?_drop]
  cases h:xs[a+c]? <;> simp [h]
theorem qy (n d:Nat) (hd:d<=n) (o:Option Int):(match o with
  | none=>((d:Nat):Int)
  | some i=>max 0 (min (if i<0 then i+(n:Int) else i) (n:Int)))=((six n d o:Nat):Int):=by
 cases o with
 | none=>rfl
 | some i=>simp only [six];split <;> omega
theorem Fv (n d:Nat) (hd:d<=n) (o:Option Int):six n d o<=n:=by
 cases o with
 | none=>exact hd
 | some i=>simp only [six];split <;> omega
theorem FN (a b:Nat):sliceRange (a:Int) (b:Int) 1=(List.range (b-a)).map fun k=>a+k:=by
 unfold sliceRange
 simp only [show (1:Int) > 0 by decide,if_true]
 have ec:(if (a:Int)<(b:Int) then ((b:Int)-(a:Int)+1-1) / 1 else 0).toNat=b-a:=by
  split <;> omega
 rw [ec]
 apply List.map_congr_left
 intro k _
 omega
theorem zz (l u:Option Int) (n:Nat):Builtin.Str.strSliceIndices l u 1 n=(List.range (six n n u-six n 0 l)).map fun k=>six n 0 l+k:=by
 rw [<- FN,<- qy n 0 (Nat.zero_le _) l,<- qy n n (Nat.le_refl _) u]
 unfold Builtin.Str.strSliceIndices
 cases l <;> cases u <;> rfl
theorem qY (x:Str) (l u:Option Int):Txt.slice x l u=cuts x l u:=by
 have hn:x.cps.toList.length=x.length:=by simp [Str.length]
 have key:(Builtin.Str.strSliceIndices l u 1 x.length).filterMap (x.cps[·]?)=dg x.cps.toList l u:=by
  rw [zz]
  have:=kG x.cps.toList (six x.length 0 l) (six x.length x.length u-six x.length 0 l)
  unfold dg
  rw [hn,<- this]
  congr 1
  funext i
  simp
 unfold Txt.slice
 split
 ·rename_i hc
  simp only [Bool.and_eq_true,beq_iff_eq] at hc
  have hc2:=hc.2
  rw [zz] at hc2
  simp only [List.length_map,List.length_range] at hc2
  have b1:=Fv x.length x.length (Nat.le_refl _) u
  unfold cuts dg
  rw [hn]
  by_cases h0:x.length=0
  ·obtain ⟨⟨l⟩⟩:=x
   simp [Str.length] at h0
   subst h0
   simp
  ·have a0:six x.length 0 l=0:=by omega
   rw [a0,List.drop_zero,List.take_of_length_le (by rw [hn];omega)]
 ·show Str.mk _=Str.mk _
  rw [key]
section
variable {X:Cx} {B:Bd}
theorem Fq:DC X J4:=by
 intro pins s σ H x v vl vu lo hi sl Q I rx hs pl pu h
 obtain ⟨z,rfl,hz,q⟩:=h
 obtain ⟨t,rfl⟩:=(show ∃ t,v=Value.str z t from rx)
 refine ⟨"str", _, PySem.F.slot_str_getitem.lookup, typeIs_str _ _ _, ?_⟩
 have fin:∀ (l u:Option Int) (t':Tok) (k:Nat),l=lo->u=hi->EP X pins σ Q (.str (Txt.slice z l u) t') { s with toks:=k }:=by
  intro l u t' k e3 e4
  exact ⟨.str (cuts z lo hi),H,I.tok _,⟨t',by rw [qY,e3,e4]⟩,q⟩
 obtain ⟨o,ho,hc,hd⟩:=hs
 cases pl with
 | none =>
  cases pu with
  | none=>exact wpAny_getItem_str_slice (l:=none) (u:=none) (st:=none) ⟨o,ho,hc,hd⟩ rfl (post_val_or_str ⟨Nat.le_trans (Txt.slice_le z none none) hz,fun t' k=>fin none none t' k rfl rfl⟩)
  | int j tj=>exact wpAny_getItem_str_slice (l:=none) (u:=some (j,tj)) (st:=none) ⟨o,ho,hc,hd⟩ rfl (post_val_or_str ⟨Nat.le_trans (Txt.slice_le z none (some j)) hz,fun t' k=>fin none (some j) t' k rfl rfl⟩)
 | int i ti =>
  cases pu with
  | none=>exact wpAny_getItem_str_slice (l:=some (i,ti)) (u:=none) (st:=none) ⟨o,ho,hc,hd⟩ rfl (post_val_or_str ⟨Nat.le_trans (Txt.slice_le z (some i) none) hz,fun t' k=>fin (some i) none t' k rfl rfl⟩)
  | int j tj=>exact wpAny_getItem_str_slice (l:=some (i,ti)) (u:=some (j,tj)) (st:=none) ⟨o,ho,hc,hd⟩ rfl (post_val_or_str ⟨Nat.le_trans (Txt.slice_le z (some i) (some j)) hz,fun t' k=>fin (some i) (some j) t' k rfl rfl⟩)
theorem Ft (hK:B.K=X.K):DC X (BN B):=by
 unfold BN;rw [hK];exact Bf.or (Fp.or Fq)
end
end Fg
end
section
namespace Fg
open PySem PySem.Spec L2
theorem d7 {α β:Type} (g:β->α->β):∀ {l:List α} {f:α->β->Sem (ForInStep β)} (_:∀ x∈l,∀ c,f x c=pure (.yield (g c x))) (c:β),forIn l c f=pure (l.foldl g c)
 | [],f,_,c=>rfl
 | x::l,f,h,c=>by
  rw [List.forIn_cons,h x List.mem_cons_self,pure_bind]
  exact d7 g (fun y hy=>h y (List.mem_cons_of_mem _ hy)) _
noncomputable def aE (env:Env) (cs:List (Str×Addr)) (x:Str×NameKind):List (Str×Addr):=if x.2 == .free then (x.1,(env.cells.lookup x.1).getD 0)::cs else cs
theorem sN {scope:Scope} {env:Env} (h:∀ x,(x,NameKind.free)∈scope.names->∃ c,env.cells.lookup x=some c):closureFor scope env=pure (scope.names.foldl (aE env) []):=by
 unfold closureFor
 dsimp only
 rw [d7 (aE env) (fun x hx c=>?_)]
 ·rfl
 obtain ⟨n,k⟩:=x
 by_cases hk:k=.free
 ·subst hk
  obtain ⟨a,ha⟩:=h n hx
  simp only [aE,cellOf,ha,beq_self_eq_true,if_true,Option.getD_some]
  rfl
 ·have hb:(k == NameKind.free)=false:=by simpa using hk
  simp only [aE,hb,Bool.false_eq_true,if_false]
theorem oq {env:Env}:∀ (names:List (Str×NameKind)) (cs:List (Str×Addr)) (p:Str×Addr),(∀ x,(x,NameKind.free)∈names->∃ c,env.cells.lookup x=some c)->p∈names.foldl (aE env) cs->p∈cs\/env.cells.lookup p.1=some p.2
 | [],cs,p,_,h=>.inl h
 | (n, k)::r, cs, p, hc, h=>by
  rw [List.foldl_cons] at h
  rcases oq r _ p (fun x hx=>hc x (List.mem_cons_of_mem _ hx)) h with q | q
  ·unfold aE at q
   split at q
   ·rename_i hk
    have hk':k=.free:=by simpa using hk
    subst hk'
    rcases List.mem_cons.mp q with q | q
    ·obtain ⟨a,ha⟩:=hc n List.mem_cons_self
     right
     rw [q]
     show env.cells.lookup n=some ((env.cells.lookup n).getD 0)
     rw [ha];rfl
    ·exact .inl q
   ·exact .inl q
  ·exact .inr q
theorem ve {env:Env}:∀ (names:List (Str×NameKind)) (cs:List (Str×Addr)) (x:Str),(∃ c,(x,c)∈cs)->∃ c,(x,c)∈names.foldl (aE env) cs
 | [],cs,x,h=>h
 | (n,k)::r,cs,x,⟨c,h⟩=>by
  rw [List.foldl_cons]
  refine ve r _ x ⟨c,?_⟩
  unfold aE
  split
  ·exact List.mem_cons_of_mem _ h
  ·exact h
theorem sO {env:Env}:∀ (names:List (Str×NameKind)) (cs:List (Str×Addr)) (x:Str),(x,NameKind.free)∈names->∃ c,(x,c)∈names.foldl (aE env) cs
 | (n, k)::r, cs, x, h=>by
  rw [List.foldl_cons]
  rcases List.mem_cons.mp h with h | h
  ·cases h
   refine ve r _ n ⟨(env.cells.lookup n).getD 0,?_⟩
   unfold aE
   rw [if_pos (by rfl)]
   exact List.mem_cons_self
  ·exact sO r _ x h
theorem dJ {β:Type}:∀ {l:List (Str×β)} {x:Str} {c:β},(x,c)∈l->∃ d,l.lookup x=some d
 | (n, k)::r, x, c, h=>by
  rw [List.lookup_cons]
  cases e:x == n with
  | true=>exact ⟨k,rfl⟩
  | false =>
   rcases List.mem_cons.mp h with h | h
   ·cases h;simp at e
   ·exact dJ h
theorem cU {env:Env}:∀ {names:List (Str×NameKind)} {x:Str},(names.map fun (n,k)=>if (k == NameKind.free&&env.scope.kind == .function&&env.kindOf n == some .cell) then (n,NameKind.cell) else (n,k)).lookup x =
  (names.lookup x).map fun k=>if (k == NameKind.free&&env.scope.kind == .function&&env.kindOf x == some .cell) then NameKind.cell else k
 | [],x=>rfl
 | (n, k)::r, x=>by
  have ih:=@cU env r x
  show List.lookup x ((if (k == NameKind.free&&env.scope.kind == .function&&env.kindOf n == some .cell)=true then (n,NameKind.cell) else (n,k))::_)=_
  cases hx:x == n with
  | true =>
   have e:x=n:=by simpa using hx
   subst e
   by_cases hc:(k == NameKind.free&&env.scope.kind == .function&&env.kindOf x == some .cell)=true
   ·rw [if_pos hc];simp only [List.lookup_cons,hx,Option.map_some,if_pos hc]
   ·rw [if_neg hc]
    simp only [List.lookup_cons,hx,Option.map_some,if_neg hc]
  | false =>
   by_cases hc:(k == NameKind.free&&env.scope.kind == .function&&env.kindOf n == some .cell)=true
   ·rw [if_pos hc];simp only [List.lookup_cons,hx];exact ih
   ·rw [if_neg hc];simp only [List.lookup_cons,hx];exact ih
noncomputable def EV (X:Cx) (scope:Scope) (cl:List (Str×Addr)) (N:List Str) (fp:List Addr) (s:Shared) (H:Hp) (C:Addr):Cx :=
 { X with N:=N,s₀:=s,H₀:=H,env:=compEnvC scope cl C X.env,outer:=X.stack,stack:=X.stack,ex:=fp,fn:=fun _=>false,pn:=[],xe:=fun _ _=>False }
noncomputable abbrev ek (X:Cx) (scope:Scope) (cl:List (Str×Addr)) (N:List Str) (fp:List Addr) (s:Shared) (H:Hp) (C:Addr) (E:XK):Cx:=(EV X scope cl N fp s H C).bI (jL (EV X scope cl N fp s H C) fun cv x _ H'=>E cv x H')
noncomputable def Jp (X:Cx) (ifs:List Expr) (t:TT):Prop :=
 ∀ (pins:List (Addr×Obj)) (s:Shared) (σ:St) (H:Hp) (Q:Bool->Hp->Prop),Inv X pins σ H s->t σ H Q ->
  wpAny (model X.prog X.w) X.A (forIn ifs true fun c r=>if r=true then do let ok <- isTrue c X.env (eval c X.env);pure (ForInStep.yield ok) else pure (ForInStep.yield r)) (L2.TP X pins σ Q) X.xe s
theorem BS {X:Cx}:Jp X [] (fun _ H Q=>Q true H):=fun pins s σ H Q I h=>wpAny_tests_nil ⟨H,I,h⟩
theorem BR {X:Cx} {c:Expr} {t:TT} (h:PT X c t):Jp X [c] t:=fun pins s σ H Q I q=>wpAny_tests_one (h pins s σ H Q I q)
noncomputable def qA (cp:List Nat) (n:Nat) (σ:St):St:=cp.map (fun i=>(σ[i]?).join)++List.replicate n none
noncomputable def tF (wi:TI) (g:TG) (tc:St->TT) (te:St->TE) (cp:List Nat) (n:Nat):TE:=fun σ H Q=>wi σ H fun J H1=>∀ D,H1 D=none->∃ W:Nat->Nat->St->Hp->Prop,(∃ m,W 0 m (qA cp n σ) (upd H1 D (.lst [])))/\∀ i m σ' H',W i m σ' H' ->
 (J.stop i H'/\Q (.ref D) H')\/(J.go i H'/\∀ x H2,J.MF i H' x H2->g x σ' H2 fun σ2 H3=>tc σ σ2 H3 fun b H4 =>
  if b=true then te σ σ2 H4 fun v H5=>∃ ys,H5 D=some (.lst ys)/\ys.length<sizeLine/\∃ m',m'<m/\W (i+1) m' σ2 (upd H5 D (.lst (ys++[v]))) else ∃ m',m'<m/\W (i+1) m' σ2 H4)
theorem gC {prog:Program} {w:World} {A:Around} {R:Result->Shared->Prop} {s:Shared} {elt target iter:Expr} {ifs:List Expr} {scope:Scope} {pos:Pos} {it acc:Value} {env:Env} (I:Nat->Shared->Prop) (EX:Value->Shared->Prop) (hE:∀ e s,EX e s->notedBy (model prog w) A env (fun x s'=>R (.error x) s') e s)
  (turn:∀ n s,I n s->wpAny (model prog w) A (pyNext it) (fun r s₁=>match r with
   | none=>R (.ok .next) s₁
   | some v=>wpAny (model prog w) A (letOwnedTupleGo target it v) (fun _ s₁'=>wpAny (model prog w) A (assign target env v) (fun _ s₂ =>
     wpAny (model prog w) A (forIn ifs true fun c r=>if r=true then do let ok <- isTrue c env (eval c env);pure (ForInStep.yield ok) else pure (ForInStep.yield r)) (fun ok s₃ =>
      if ok=true then wpAny (model prog w) A (eval elt env) (fun x s₄ =>
       wpAny (model prog w) A (call (.builtin "list.append") [acc, x]) (fun _ s₅=>∃ m, m<n/\I m s₅) EX s₄) EX s₃
      else ∃ m,m<n/\I m s₃) EX s₂) EX s₁') EX s₁) EX s)
  (n:Nat) (h:I n s):codeAny (model prog w) A (.compLoop (.ListComp elt [⟨target,iter,ifs,0⟩] scope pos) 0 it acc env) R s:=by
 refine codeAny_loop rfl I (fun n s hI=>?_) n h
 show wpAny _ A ((compTurn (.ListComp elt [⟨target,iter,ifs,0⟩] scope pos) 0 it acc env).onRaise (fun x=>do noteFrame x env;theTreesLotGoes x)) _ _ s
 refine wpAny_noted ?_
 rw [compTurn_list]
 refine wpAny_bind (wpAny_standAt (wpAny_bind (wpAny_mono (turn n s hI) (fun r s₁ h₁=>?_) hE)))
 cases r with
 | none=>exact wpAny_pure h₁
 | some v =>
  refine wpAny_bind (wpAny_mono h₁ (fun _ s₁' h₁'=>?_) hE)
  refine wpAny_bind (wpAny_mono h₁' (fun _ s₂ h₂=>wpAny_bind (wpAny_mono h₂ (fun ok s₃ h₃=>?_) hE)) hE)
  cases ok with
  | false=>exact wpAny_pure ⟨rfl,h₃⟩
  | true =>
   exact wpAny_bind (wpAny_bind (wpAny_mono h₃ (fun x s₄ h₄=>wpAny_bind (wpAny_mono h₄ (fun _ s₅ h₅=>wpAny_pure (wpAny_pure ⟨rfl,h₅⟩)) hE)) hE))
section
variable {X:Cx} {pins:List (Addr×Obj)} {σ:St} {H:Hp} {s:Shared}
structure ir (X:Cx) (scope:Scope) (N:List Str) (cp:List Nat) (n:Nat):Prop where
 free:∀ x,(x,NameKind.free)∈scope.names->X.env.kindOf x=some .cell\/X.env.kindOf x=some .free
 cell:∀ y∈scope.names,y.2≠.cell
 kind:scope.kind=.function
 names:∀ y∈scope.names,y.2=.local->scope.names.lookup y.1=some .local
 len:N.length=cp.length+n
 cap:∀ (i j:Nat) (x:Str),N[i]? = some x->cp[i]? = some j->X.N[j]? = some x/\scope.names.lookup x=some .free
theorem IQ {scope:Scope} {N:List Str} {cp:List Nat} {n:Nat} {fp:List Addr} {C:Addr} (S:ir X scope N cp n) (I:Inv X pins σ H s) (hf:∀ b∈fp,lA X pins H b) (hC:s.heap.objs.size<C) (HN:∀ b∈fp,b<s.heap.objs.size) :
  (EV X scope (scope.names.foldl (aE X.env) []) N fp s H C).Ok:=by
 have hex:∀ x,(x,NameKind.free)∈scope.names->∃ c,X.env.cells.lookup x=some c:=fun x hx=>I.ok.has x (S.free x hx)
 have hcl:∀ x c,(scope.names.foldl (aE X.env) []).lookup x=some c->X.env.cells.lookup x=some c:=fun x c e=>by
  rcases oq scope.names [] (x,c) hex (PySem.mem_of_lookup e) with q | q
  ·cases q
  ·exact q
 refine ⟨I.ok.mod,S.kind,I.ok.glob,I.ok.blt,Nat.le_of_lt hC,fun x y c h1 h2=>I.ok.inj x y c (hcl x c h1) (hcl y c h2),fun x hx=>?_,fun x c h _=>(Bool.false_ne_true h).elim,I.ok.hd,I.ok.frames,.inl rfl,fun b hb=>⟨Nat.ne_of_lt (Nat.lt_trans (HN b hb) hC),fun x c e=>(hf b hb).2.2.2.2.1 x c (hcl x c e)⟩,
  fun b o e=>I.bs b o e,Nat.le_trans I.ok.wM I.sz,fun b o e hb=>?_,fun b hb hs=>?_,I.stack,I.gf⟩
 ·have q:(x,NameKind.free)∈scope.names:=by
   have hx:(relabel scope X.env).names.lookup x=some .cell\/(relabel scope X.env).names.lookup x=some .free:=hx
   unfold relabel at hx
   dsimp only at hx
   rw [cU] at hx
   cases e:scope.names.lookup x with
   | none=>rw [e] at hx;simp at hx
   | some k =>
    rw [e] at hx
    have hm:=PySem.mem_of_lookup e
    cases k with
    | free=>exact hm
    | cell=>exact (S.cell _ hm rfl).elim
    | «local»=>simp at hx
    | globalImplicit=>simp at hx
    | globalExplicit=>simp at hx
  obtain ⟨c,hc⟩:=sO (env:=X.env) scope.names [] x q
  exact dJ hc
 ·rcases (hf b hb).2.2.2.1 with z | z
  ·exact I.ok.pQ b o e z
  ·exact absurd (Nat.lt_of_lt_of_le (Heap.lt_size e) (Nat.le_trans I.ok.wM z)) (Nat.lt_irrefl _)
 ·rcases List.mem_cons.mp (I.eF b hs) with z | z
  ·exact (hf b hb).2.1 z
  ·exact (hf b hb).2.2.1 z
theorem wO {scope:Scope} {N:List Str} {cp:List Nat} {n:Nat} {fp:List Addr} {C D:Addr} {h1:Heap} {t1:Nat} (S:ir X scope N cp n) (I:Inv X pins σ H s) (hf:∀ b∈fp,lA X pins H b) (HN:∀ b∈fp,b<s.heap.objs.size)
  (hD:D=s.heap.objs.size) (hC:C=s.heap.objs.size+1) {m:Str->Option Value} (hns:h1.Ns C m) (old:∀ b o, s.heap.get? b=some o->h1.get? b=some o) (hacc:h1.get? D=some { cls:=.type "list", data:=.seq ([]:List Value).toArray 0 }) :
  Inv (EV X scope (scope.names.foldl (aE X.env) []) N fp s H C) [] (qA cp n σ) (upd H D (.lst [])) { s with heap:=h1,toks:=t1 }:=by
 have hex:∀ x,(x,NameKind.free)∈scope.names->∃ c,X.env.cells.lookup x=some c:=fun x hx=>I.ok.has x (S.free x hx)
 have hcl:∀ x c,(scope.names.foldl (aE X.env) []).lookup x=some c->X.env.cells.lookup x=some c:=fun x c e=>by
  rcases oq scope.names [] (x,c) hex (PySem.mem_of_lookup e) with q | q
  ·cases q
  ·exact q
 have fD:H D=none:=I.hok.fresh (by rw [hD];exact Nat.le_refl _)
 have fC:H C=none:=I.hok.fresh (by rw [hC];exact Nat.le_succ _)
 have cellK:∀ x c v,X.env.cells.lookup x=some c->s.heap.IsCell c v->h1.IsCell c v:=fun x c v e ⟨o,ho,hd⟩=>⟨o,old c o ho,hd⟩
 refine ⟨IQ S I hf (by rw [hC];exact Nat.lt_succ_self _) HN,rfl,I.bare,?_,⟨m,hns,fun i x v e1 e2 e3=>?_⟩,fun x c e=>?_,?_,fun x c e=>?_,fun p hp=>absurd (show p∈([]:List (Addr×Obj)) from hp) (by simp),?_,?_⟩
 ·exact Un.laid (fun b u e=>old b u e) (by rw [hD];exact Nat.le_refl _) fD
 ·-- a L7 name
  have hi:i<cp.length:=by
   by_cases hi:i<cp.length
   ·exact hi
   ·unfold qA at e2
    rw [List.getElem?_append_right (by simpa using hi),List.getElem?_replicate] at e2
    split at e2 <;> cases e2
  have hcp:cp[i]? = some cp[i]:=List.getElem?_eq_getElem hi
  obtain ⟨hX,hfr⟩:=S.cap i cp[i] x e1 hcp
  have e2':σ[cp[i]]? = some (some v):=by
   unfold qA at e2
   rw [List.getElem?_append_left (by simpa using hi),List.getElem?_map,hcp] at e2
   simp only [Option.map_some,Option.some.injEq] at e2
   cases q:σ[cp[i]]? with
   | none=>rw [q] at e2;cases e2
   | some o=>rw [q] at e2;simp only [Option.join_some] at e2;rw [e2]
  have hmem:=PySem.mem_of_lookup hfr
  have hk:=S.free x hmem
  obtain ⟨m0,_,hl⟩:=I.loc
  obtain ⟨u,r,lk⟩:=hl cp[i] x v hX e2' (by rcases hk with q | q;exact .inr (.inl q);exact .inr (.inr q))
  refine ⟨u,r,.inr ⟨?_,?_⟩⟩
  ·show (relabel scope X.env).names.lookup x=some .cell\/(relabel scope X.env).names.lookup x=some .free
   unfold relabel
   dsimp only
   rw [cU,hfr]
   simp only [Option.map_some]
   split
   ·exact .inl rfl
   ·exact .inr rfl
  ·obtain ⟨c,hc⟩:=sO (env:=X.env) scope.names [] x hmem
   obtain ⟨d,hd⟩:=dJ hc
   refine ⟨d,hd,?_⟩
   rcases lk with ⟨k,_⟩ | ⟨_,c',hc',z⟩
   ·rcases hk with q | q <;> (rw [q] at k;cases k)
   ·have:=hcl x d hd
    rw [hc'] at this;cases this
    exact cellK x d _ hc' z
 ·obtain ⟨v,z⟩:=I.cell x c (hcl x c e)
  exact ⟨v,cellK x c v (hcl x c e) z⟩
 ·show upd H D (.lst []) C=none
  rw [ao (by rw [hC,hD];exact Nat.succ_ne_self _)];exact fC
 ·show upd H D (.lst []) c=none
  rw [ao (ne_of_lt' (I.cell x c (hcl x c e)) hD)]
  exact I.cg x c (hcl x c e)
 ·exact I.hok.laid old (by rw [hD];exact Nat.le_refl _) ⟨Nat.zero_le _,[],0,.nil,hacc⟩
 ·unfold qA
  show _=N.length
  rw [List.length_append,List.length_map,List.length_replicate,S.len]
where
 ne_of_lt' {h:Heap} {c D:Addr} (z:∃ v,h.IsCell c v) (hD:D=h.objs.size):c≠D:=by
  obtain ⟨v,q⟩:=z
  rw [hD]
  exact Nat.ne_of_lt q.lt
variable {elt tg iter:Expr} {ifs:List Expr} {scope:Scope} {pos ppos:Pos} {wi:TI} {g:TG} {tc:St->TT} {te:St->TE} {Ex:XS} {cp:List Nat} {n:Nat} {N:List Str}
theorem mR {use:Option (Value->Sem Unit)} {Q':Value->Shared->Prop} {Q:VK} (hc:X.calm=true) (S:ir X scope N cp n) (hi:PI X tg iter wi)
  (hfr:qF X) (hx:∀ e s,jL X Ex e s->X.xe e s) (hb:∀ σ cl fp s H C,PG (ek X scope cl N fp s H C fun cv x H'=>Ex cv x σ H') tg g/\Jp (ek X scope cl N fp s H C fun cv x H'=>Ex cv x σ H') ifs (tc σ)/\PE (ek X scope cl N fp s H C fun cv x H'=>Ex cv x σ H') elt (te σ)) (hs:∀ x,foldedSetIterable iter X.env x=pure x)
  (I:Inv X pins σ H s) (h:tF wi g tc te cp n σ H Q)
  (fin:∀ s' C D H' f,Inv X pins σ H' s'->lA X pins H' C->(∃ m,s'.heap.Ns C m)->Q (.ref D) H'->compPost (model X.prog X.w) X.A X.xe use Q' (.ref D) C (.ok f) s') :
  wpAny (model X.prog X.w) X.A (comprehension (.ListComp elt [⟨tg,iter,ifs,0⟩] scope pos) scope X.env ppos (newList []) false (eval iter X.env) use) Q' X.xe s:=by
 have hex:∀ x,(x,NameKind.free)∈scope.names->∃ c,X.env.cells.lookup x=some c:=fun x hx=>I.ok.has x (S.free x hx)
 refine wpAny_comprehension_free rfl hs (sN hex) S.kind S.names (aU (hi pins s σ H _ I h) fun v s1 h1=>aU h1 fun itv s2 h2=>?_)
 obtain ⟨it,fp,tn,J,H2,e,I2,T,st2,f2,hW⟩:=h2
 subst e
 refine wpAny_newObj_type (wpAny_newFunctionEnv S.cell (by intro y hy;simp at hy) (fun h₁ se nS=>?_) S.kind)
 dsimp only at se nS ⊢
 generalize hH2:s2.heap.push { cls:=.type "list", dict:=none, data:=.seq ([]:List Value).toArray }=G at se nS ⊢
 have hC:G.objs.size=s2.heap.objs.size+1:=by rw [<- hH2,Heap.size_push]
 have HN:∀ b∈fp,b<s2.heap.objs.size:=fun b hb=>by
  obtain ⟨o,e,_⟩:=T.obj _ _ st2 b hb
  exact Heap.lt_size e
 have hDC:s2.heap.objs.size≠G.objs.size:=by rw [hC];exact Nat.ne_of_lt (Nat.lt_succ_self _)
 have old:∀ b o,s2.heap.get? b=some o->h₁.get? b=some o:=fun b o e=>nS.extBut b o (by rw [hC];exact Nat.ne_of_lt (Nat.lt_succ_of_lt (Heap.lt_size e))) (Heap.get?_push_of_some _ (hH2 ▸ Heap.get?_push_of_some _ e))
 have hacc:h₁.get? s2.heap.objs.size=some { cls:=.type "list", data:=.seq ([]:List Value).toArray 0 }:=nS.extBut _ _ hDC (Heap.get?_push_of_some _ (hH2 ▸ Heap.get?_push_size _ rfl))
 have st1:tn 0 h₁:=T.keep _ _ _ st2 fun b hb o e=>old b o e
 obtain ⟨W,⟨m0,w0⟩,turn⟩:=hW s2.heap.objs.size (I2.hok.fresh (Nat.le_refl _))
 have I0':=wO (t1:=s2.toks+([]:List (Str×Value)).length) S I2 f2 HN rfl hC se old hacc
 have I0:=I0'.bI (jL (EV X scope (scope.names.foldl (aE X.env) []) N fp s2 H2 G.objs.size) fun cv x _ H'=>Ex cv x σ H')
 obtain ⟨hg,ht,he⟩:=hb σ (scope.names.foldl (aE X.env) []) fp s2 H2 G.objs.size
 have fp0:∀ b∈fp,upd H2 s2.heap.objs.size (.lst []) b=none:=fun b hb=>by rw [ao (Nat.ne_of_lt (HN b hb))];exact (f2 b hb).1
 have hex':∀ x c,(scope.names.foldl (aE X.env) []).lookup x=some c->X.env.cells.lookup x=some c:=fun x c e=>by
  rcases oq scope.names [] (x,c) hex (PySem.mem_of_lookup e) with q | q
  ·cases q
  ·exact q
 have stat:∀ {H':Hp},(∀ b∈fp,H' b=none)->∀ b∈fp,lA (ek X scope (scope.names.foldl (aE X.env) []) N fp s2 H2 G.objs.size (fun cv x H'=>Ex cv x σ H')) [] H' b:=fun {H'} hn b hb =>
  ⟨hn b hb,Nat.ne_of_lt (Nat.lt_trans (HN b hb) (by rw [hC];exact Nat.lt_succ_self _)),fun z=>(List.mem_cons.mp (I2.eF b z)).elim (f2 b hb).2.1 (f2 b hb).2.2.1,.inl hb,fun x c e=>(f2 b hb).2.2.2.2.1 x c (hex' x c e),fun p hp=>absurd (show p∈([]:List (Addr×Obj)) from hp) (by simp)⟩
 have loop:∀ s3:Shared,s3={ s2 with heap:=h₁,toks:=s2.toks+([]:List (Str×Value)).length }->codeAny (model X.prog X.w) X.A (.compLoop (.ListComp elt [⟨tg,iter,ifs,0⟩] scope pos) 0 (.ref it) (.ref s2.heap.objs.size) (compEnvC scope (scope.names.foldl (aE X.env) []) G.objs.size X.env))
   (compPost (model X.prog X.w) X.A X.xe use Q' (.ref s2.heap.objs.size) G.objs.size) s3:=by
  rintro s3 rfl
  refine gC (fun n s'=>∃ i σ' H',Inv (ek X scope (scope.names.foldl (aE X.env) []) N fp s2 H2 G.objs.size (fun cv x H'=>Ex cv x σ H')) [] σ' H' s'/\tn i s'.heap/\(∀ b∈fp,H' b=none)/\W i n σ' H') (jL (EV X scope (scope.names.foldl (aE X.env) []) N fp s2 H2 G.objs.size) fun cv x _ H'=>Ex cv x σ H') ?hE ?_ m0 ⟨0,_,_,I0,st1,fp0,w0⟩
  case hE =>
   rintro e s3 ⟨pins3,σ3,H3,a,a0,cv,B,rfl,I3,up,fH,_,q⟩
   obtain ⟨lO,nB,L,hst,HP,Nm⟩:=hfr
   show wpAny (model X.prog X.w) X.A (noteFrame (.ref a) _) _ _ s3
   rw [nG (env:=compEnvC scope (scope.names.foldl (aE X.env) []) G.objs.size X.env) (env':=lO) (Nm.trans HP.symm)]
   have up':Up B (lO::nB) a cv a0 s3.heap:=by rw [<- hst];exact up
   refine up'.note (by rw [I.ok.frames,hst]) HP fun h4 held xQ=>?_
   obtain ⟨m,hm,_⟩:=id I3.loc
   have hcC:G.objs.size∉frs X.stack:=fun z=>by
    rcases List.mem_cons.mp (I2.eF _ z) with e | z
    ·have z:=I2.lt
     rw [<- e,hC] at z
     exact absurd z (Nat.not_lt.mpr (Nat.le_succ _))
    ·exact I2.KN (by rw [hC];exact Nat.le_succ _) z
   refine ⟨m,xQ.ns hm,fun h5 sb5 cenv _=>?_⟩
   have hm4:=xQ.ns hm
   have upH:Up B X.stack a cv a0 h4:=by rw [hst];exact .um held
   have E5:=upH.hide sb5 (by
    obtain ⟨o,es,ep,ho,hd,_⟩:=hm4
    exact ⟨o,ho,fun vs z=>by rw [hd] at z;cases z⟩) hcC
   refine E5.pass fun h6 up6 sm6=>hx _ _ ?_
   have jM:(B.hide G.objs.size).StaysIn s3.heap:=fun b o e=>up.1 b o (Heap.of_hide e)
   have Ds:Calm (B.hide G.objs.size) (frs X.stack) fp H3 s2.heap:=fun b hb hf=>by
    obtain ⟨o,e⟩:=fH b hb hf
    refine ⟨o,?_⟩
    rw [Heap.hide_ne]
    ·exact e
    ·rintro rfl
     rcases hb with hb | ⟨⟨o',hb⟩,_⟩
     ·exact hb I3.free
     ·have z:=Heap.lt_size hb
      rw [hC] at z
      exact absurd z (Nat.not_lt.mpr (Nat.le_succ _))
   have fru:∀ b∈frs X.stack,∀ o,s3.heap.get? b=some o->∃ sl,h6.get? b=some { o with slots:=sl }:=fun b hb o e=>by
    have hd:=p7 I3 b hb o e
    obtain ⟨sl,e4⟩:=xQ b o e hd
    have e5:h5.get? b=some { o with slots:=sl }:=by rw [sb5.2 b (by rintro rfl;exact hcC hb)];exact e4
    obtain ⟨DX,e6⟩:=sm6 b _ e5 hd
    exact ⟨DX,e6⟩
   have un6:=nV I3.base Ds jM up6.1 fru (fun b hb _=>hb)
   have hok6:=j6 I3.hok Ds jM up6.1 I3.gf
   have J:=I2.As (s':={ s3 with heap:=h6 }) I3.os un6 hok6 I3.bare fun b hb=>⟨(f2 b hb).2.2.2.1,(f2 b hb).2.1,(f2 b hb).2.2.2.2.1,(f2 b hb).2.2.2.2.2⟩
   have calX:Calm (B.hide G.objs.size) (frs X.stack) X.ex H3 X.s₀.heap:=by
    intro b hb hf
    refine Ds b ?_ hf
    rcases hb with hb | ⟨⟨o,z⟩,nx⟩
    ·exact .inl hb
    ·refine .inr ⟨gh I2 z nx,fun zf=>?_⟩
     rcases (f2 b zf).2.2.2.1 with y | y
     ·exact nx y
     ·exact absurd (Nat.lt_of_lt_of_le (Heap.lt_size z) y) (Nat.lt_irrefl _)
   have pnX:∀ p∈X.pn,(B.hide G.objs.size).get? p.1=some p.2:=by
    intro p hp
    obtain ⟨p1,p2,p3,p4,_⟩:=I2.pin p (List.mem_append_left _ hp)
    have pf:p.1∉fp:=fun z=>(f2 _ z).2.2.2.2.2 p (List.mem_append_left _ hp) rfl
    have ps:p.1∉frs X.stack:=fun z=>by
     rcases List.mem_cons.mp (I2.eF _ z) with e | z
     ·exact p3 e
     ·exact p4 z
    exact Ds.at jM (I3.base.keep p.1 p.2 p1 p2 ps pf) (.inr ⟨⟨_,p1⟩,pf⟩) ps
   exact ⟨pins,σ,H3,a,a0,cv,B.hide G.objs.size,rfl,J,up6,calX,pnX,q⟩
  rintro n s3 ⟨i,σ3,H3,I3,st3,Lj,w3⟩
  rcases turn i n σ3 H3 w3 with ⟨stop,qn⟩ | ⟨go,step⟩
  ·refine aU (T.done (ek X scope (scope.names.foldl (aE X.env) []) N fp s2 H2 G.objs.size (fun cv x H'=>Ex cv x σ H')) rfl rfl rfl hc i [] s3 σ3 H3 _ I3 (stat Lj) st3 stop) fun r s4 ⟨hr,I4⟩=>?_
   subst hr
   refine fin s4 _ _ H3 _ (I2.As I4.os I4.base I4.hok I4.bare fun b hb=>⟨(f2 b hb).2.2.2.1,(f2 b hb).2.1,(f2 b hb).2.2.2.2.1,(f2 b hb).2.2.2.2.2⟩) (I2.p9 (by rw [hC];exact Nat.le_succ _) I4.free) ?_ qn
   obtain ⟨m,hm,_⟩:=I4.loc
   exact ⟨m,hm⟩
  ·refine aU (T.item (ek X scope (scope.names.foldl (aE X.env) []) N fp s2 H2 G.objs.size (fun cv x H'=>Ex cv x σ H')) rfl rfl rfl hc i [] s3 σ3 H3 _ I3 (stat Lj) st3 go) fun r s4 ⟨u,hr,h4⟩=>?_
   subst hr
   refine aU h4 fun _ s5 ⟨x,H5,I5,r5,y5,Fo,fr5⟩=>?_
   have I5':=I5.pinned (stat fr5) (T.obj _ _ Fo)
   refine aU (hg _ s5 σ3 H5 x u _ I5' r5 (step x H5 y5)) fun _ s6 ⟨σ6,H6,I6,q6⟩=>?_
   refine aU (ht _ s6 σ6 H6 _ I6 q6) fun ok s7 ⟨H7,I7,q7⟩=>?_
   have again:∀ {σ8:St} {H8:Hp} {s8:Shared} {m':Nat},Inv (ek X scope (scope.names.foldl (aE X.env) []) N fp s2 H2 G.objs.size (fun cv x H'=>Ex cv x σ H')) ([]++kE fp s5.heap) σ8 H8 s8->m'<n->W (i+1) m' σ8 H8 ->
     ∃ m,m<n/\∃ i σ' H',Inv (ek X scope (scope.names.foldl (aE X.env) []) N fp s2 H2 G.objs.size (fun cv x H'=>Ex cv x σ H')) [] σ' H' s8/\tn i s8.heap/\(∀ b∈fp,H' b=none)/\W i m σ' H':=fun {σ8 H8 s8 m'} I8 hm w8=>by
    refine ⟨m',hm,i+1,σ8,H8,I8.iu,T.keep _ _ _ Fo fun b hb o e=>(I8.pin (b,o) (List.mem_append_right _ (List.mem_append_right _ (eO hb e)))).1,fun b hb=>?_,w8⟩
    obtain ⟨o,e,d⟩:=T.obj _ _ Fo b hb
    exact (I8.pin (b,o) (List.mem_append_right _ (List.mem_append_right _ (eO hb e)))).2.1
   cases ok with
   | false =>
    rw [if_neg Bool.false_ne_true] at q7 ⊢
    obtain ⟨m',hm,w7⟩:=q7
    exact again I7 hm w7
   | true =>
    rw [if_pos rfl] at q7 ⊢
    refine aU (he _ s7 σ6 H7 _ I7 q7) fun xv s8 ⟨v,H8,I8,r8,ys,hy,hz,m',hm,w8⟩=>?_
    refine aU (mE (X:=(ek X scope (scope.names.foldl (aE X.env) []) N fp s2 H2 G.objs.size (fun cv x H'=>Ex cv x σ H'))) _ s8 σ6 H8 (.ref s2.heap.objs.size) [v] (.ref s2.heap.objs.size) [xv] (fun _ H'=>H'=upd H8 s2.heap.objs.size (.lst (ys++[v]))) I8 rfl (.cons r8 .nil) ⟨_,ys,v,rfl,rfl,hy,hz,rfl⟩) fun a s9 ⟨_,H9,I9,_,e9⟩=>?_
    subst e9
    exact again I9 hm w8
 exact codeAny_compStart_list (loop _ rfl) (T.self X.A 0 _ _ _ st1 (loop _ rfl))
theorem B6 (hc:X.calm=true) (S:ir X scope N cp n) (hi:PI X tg iter wi)
  (hfr:qF X) (hx:∀ e s,jL X Ex e s->X.xe e s) (hb:∀ σ cl fp s H C,PG (ek X scope cl N fp s H C fun cv x H'=>Ex cv x σ H') tg g/\Jp (ek X scope cl N fp s H C fun cv x H'=>Ex cv x σ H') ifs (tc σ)/\PE (ek X scope cl N fp s H C fun cv x H'=>Ex cv x σ H') elt (te σ)) (hs:∀ x,foldedSetIterable iter X.env x=pure x) :
  PE X (.ListComp elt [⟨tg,iter,ifs,0⟩] scope pos) (tF wi g tc te cp n):=by
 intro pins s σ H Q I h
 rw [eval_ListComp]
 refine mR (use:=none) hc S hi hfr hx hb hs I h fun s' C D H' f I' fC ⟨m,hm⟩ q=>⟨m,hm,fun h' hs'=>?_⟩
 exact ⟨.ref D,H',I'.turned (fun b o hb e=>(hs'.2 b hb).trans e) fC.1 fC.2.1 fC.2.2.2.1 fC.2.2.2.2.1 fC.2.2.2.2.2,rfl,q⟩
theorem BV {i:Nat} {y:Str} {py spos:Pos} (hN:X.N.Nodup) (hy:X.N[i]? = some y) (hk:X.env.scope.names.lookup y=some .local) (hc:X.calm=true) (S:ir X scope N cp n) (hi:PI X tg iter wi)
  (hfr:qF X) (hx:∀ e s,jL X Ex e s->X.xe e s) (hb:∀ σ cl fp s H C,PG (ek X scope cl N fp s H C fun cv x H'=>Ex cv x σ H') tg g/\Jp (ek X scope cl N fp s H C fun cv x H'=>Ex cv x σ H') ifs (tc σ)/\PE (ek X scope cl N fp s H C fun cv x H'=>Ex cv x σ H') elt (te σ)) (hs:∀ x,foldedSetIterable iter X.env x=pure x)
  (hsw:swapsWith (.ListComp elt [⟨tg,iter,ifs,0⟩] scope pos) (some (.Name y py)) spos.line X.env=pure true) :
  PS X (.Assign [.Name y py] (.ListComp elt [⟨tg,iter,ifs,0⟩] scope pos) spos) (Fe (tF wi g tc te cp n) (kU i)):=by
 intro pins s σ H Dn I h
 rw [exec_Assign_Name_used _ _ _ _ hsw]
 refine wpAny_bind (wpAny_standAt (wpAny_bind ?_))
 show wpAny _ X.A (do let _ <- comprehension (.ListComp elt [⟨tg,iter,ifs,0⟩] scope pos) scope X.env _ (newList []) false (eval iter X.env) (some (assign (.Name y py) X.env))) _ _ s
 refine wpAny_bind (wpAny_mono (mR (use:=some (assign (.Name y py) X.env)) (Q':=fun _ s'=>SP X pins Dn .next s') hc S hi hfr hx hb hs I h fun s' C D H' f I' fC ⟨m,hm⟩ q=>?_) (fun _ s' hq=>wpAny_pure (wpAny_pure hq)) fun _ _ e=>e)
 show wpAny _ X.A (assign (.Name y py) X.env (.ref D)) _ _ s'
 refine wpAny_assign_Name (lY I' hN hy (.inl hk) (v:=.ref D) rfl (fun s2 I2 ⟨a,hsb,ha⟩=>?_) (.inr hk))
 have hCa:C≠a:=by
  rcases ha with rfl | ha
  ·exact fC.2.1
  ·exact fun z=>fC.2.2.2.2.1 _ _ ha z.symm
 refine ⟨m,hm.sameBut hsb hCa,fun h' hs'=>⟨_,H',I2.turned (fun b o hb e=>(hs'.2 b hb).trans e) fC.1 fC.2.1 fC.2.2.2.1 fC.2.2.2.2.1 fC.2.2.2.2.2,q⟩⟩
end
end Fg
end
section
namespace Fg
open PySem L2
noncomputable def MB (a:Addr) (o:Obj) (kvs:List (Key×V)):It :=
 ⟨fun i H=>H a=some (.gk o (.dK kvs))/\i<kvs.length,fun i H x H'=>H'=H/\∃ kv,kvs[i]? = some kv/\x=kV kv.1,fun i H=>H a=some (.gk o (.dK kvs))/\kvs.length<=i⟩
noncomputable def K9 (B:Bd) (th:Addr->Prop) (tl:TE):TI:=fun σ H R=>tl σ H fun x H1 =>
 (∃ a,x=.ref a/\(∃ xs,fJ B.K H1 a xs)/\R (Itl B.K a) H1)\/(∃ a,x=.ref a/\(∃ xs,ic B.K H1 a xs)/\R (Itt B.K a) H1) \/
 (∃ a kvs,x=.ref a/\H1 a=some (.dK kvs)/\∀ o,th a->R (MB a o kvs) (upd H1 a (.gk o (.dK kvs)))) \/
 (∃ a o kvs,x=.ref a/\H1 a=some (.gk o (.dK kvs))/\R (MB a o kvs) H1)
section
variable {B:Bd} {Φ:bz} {E:Gx} {F F' F0 F1:Addr->Prop} {ρ ρ' ρ0 ρ1:List Addr} {H H' H0 H1:Hp} {M M' M0:MH} {σD:Sg} {σ:L2.St} {Q:VK} {Dn:Ends}
theorem lU {a:Addr} {src:D} {ds:List D} (h:∀ F ρ M H,Ext F0 ρ0 H0 F ρ H->SR B F ρ M H->aF M0 src M=true->∃ vs,fJ B.K H a vs/\aj B F ρ H ds vs):Walks B (Itl B.K a) src ds F0 ρ0 M0 H0:=by
 intro i F ρ M H e S st
 obtain ⟨vs,q,rd⟩:=h F ρ M H e S st
 refine ⟨fun d hd=>?_,fun hl=>⟨vs,q,by rw [<- aj.length rd];exact hl⟩⟩
 obtain ⟨v,hv,rv⟩:=aj.get rd hd
 refine ⟨⟨vs,v,q,hv⟩,fun x H' ⟨e',hy⟩=>?_⟩
 subst e'
 have z:=hy vs q
 rw [hv] at z;cases z
 exact ⟨F,S.refl,S,rv⟩
theorem vq {a:Addr} {src:D} {ds:List D} (h:∀ F ρ M H,Ext F0 ρ0 H0 F ρ H->SR B F ρ M H->aF M0 src M=true->∃ vs,ic B.K H a vs/\aj B F ρ H ds vs):Walks B (Itt B.K a) src ds F0 ρ0 M0 H0:=by
 intro i F ρ M H e S st
 obtain ⟨vs,q,rd⟩:=h F ρ M H e S st
 refine ⟨fun d hd=>?_,fun hl=>⟨vs,q,by rw [<- aj.length rd];exact hl⟩⟩
 obtain ⟨v,hv,rv⟩:=aj.get rd hd
 refine ⟨⟨vs,v,q,hv⟩,fun x H' ⟨e',hy⟩=>?_⟩
 subst e'
 have z:=hy vs q
 rw [hv] at z;cases z
 exact ⟨F,S.refl,S,rv⟩
theorem G0 {k:Key}:RD B F ρ H (M9 k) (kV k):=by cases k <;> simp only [M9,kV,RD]
theorem lV {a:Addr} {o:Obj} {src:D} {cA:List (Ky×D)} {kws:List (Key×V)} (hz:H0 a=some (.gk o (.dK kws))) (hk:kws.map (·.1)=cA.map (·.1)):Walks B (MB a o kws) src (cA.map fun kv=>M9 kv.1) F0 ρ0 M0 H0:=by
 intro i F ρ M H e S st
 have hl:kws.length=cA.length:=by have:=congrArg List.length hk;simpa using this
 have hH:=e.z a o _ hz
 refine ⟨fun d hd=>?_,fun hi=>⟨hH,by rw [hl];simpa using hi⟩⟩
 rw [List.getElem?_map] at hd
 cases hx:cA[i]? with
 | none=>rw [hx] at hd;cases hd
 | some kd =>
  rw [hx] at hd
  simp only [Option.map_some,Option.some.injEq] at hd
  subst hd
  obtain ⟨hi,_⟩:=List.getElem?_eq_some_iff.mp hx
  refine ⟨⟨hH,by rw [hl];exact hi⟩,fun x H' ⟨e',kw,hkw,hx'⟩=>?_⟩
  subst e' hx'
  have e1:(kws.map (·.1))[i]? = some kw.1:=by rw [List.getElem?_map,hkw];rfl
  rw [hk,List.getElem?_map,hx] at e1
  simp only [Option.map_some,Option.some.injEq] at e1
  rw [<- e1]
  exact ⟨F,S.refl,S,G0⟩
theorem FD {a:Fg.E} {Rr:It->Hp->Prop} (h:AZ B Φ E (.e a) σ H Rr):K9 B E.th (T B Φ E a) σ H Rr:=by
 obtain ⟨σD,M,F,ρ,S,r,h⟩:=h
 refine ⟨σD,M,F,ρ,S,r,?_⟩
 cases hx:ev Φ a σD M with
 | exc c M1 =>
  have he:aJ Φ (.e a) σD M=.exc c M1:=by simp only [aJ,hx,R.ck]
  rw [he] at h;exact h
 | bad =>
  have he:aJ Φ (.e a) σD M=.bad:=by simp only [aJ,hx,R.cu]
  rw [he] at h;exact h
 | ok d M1 =>
  intro F1 ρ1 H1 v e1 S1 rd
  cases hi:itemsOf M1 d with
  | none =>
   have he:aJ Φ (.e a) σD M=.bad:=by simp only [aJ,hx,R.aa,hi]
   rw [he] at h;exact h.elim
  | some ds =>
   have he:aJ Φ (.e a) σD M=.ok (d,ds,wk M1 d) (walk M1 d):=by simp only [aJ,hx,R.aa,hi]
   rw [he] at h
   cases d with
   | ak=>simp [itemsOf,vw] at hi
   | bl _=>simp [itemsOf,vw] at hi
   | int _=>simp [itemsOf,vw] at hi
   | str _=>simp [itemsOf] at hi
   | dct _ _=>simp [itemsOf] at hi
   | lst xs =>
    simp only [itemsOf,vw,Option.some.injEq] at hi;subst hi
    simp only [RD] at rd
    obtain ⟨b,vs,rfl,z,q⟩:=id rd
    refine .inl ⟨b,rfl,⟨vs,z.sq⟩,h F1 ρ1 H1 _ e1 S1 fun M' eq S'=>⟨?_,fun z=>by simp [wk] at z⟩⟩
    refine lU fun F ρ M H e S st=>?_
    have J2:=RD.mono e (.lst xs) (.ref b) (by simp only [RD];exact rd)
    simp only [RD] at J2
    obtain ⟨b',vs',eb,z',q'⟩:=J2
    cases eb
    exact ⟨vs',z'.sq,q'⟩
   | tup xs =>
    simp only [itemsOf,vw,Option.some.injEq] at hi;subst hi
    simp only [RD] at rd
    obtain ⟨b,vs,rfl,z,q⟩:=id rd
    refine .inr (.inl ⟨b,rfl,⟨vs,z.sq⟩,h F1 ρ1 H1 _ e1 S1 fun M' eq S'=>⟨?_,fun z=>by simp [wk] at z⟩⟩)
    refine vq fun F ρ M H e S st=>?_
    have J2:=RD.mono e (.tup xs) (.ref b) (by simp only [RD];exact rd)
    simp only [RD] at J2
    obtain ⟨b',vs',eb,z',q'⟩:=J2
    cases eb
    exact ⟨vs',z'.sq,q'⟩
   | ref n =>
    simp only [RD] at rd
    obtain ⟨b,hb,rfl⟩:=rd
    cases hM:M1[n]? with
    | none=>simp [itemsOf,vw,hM] at hi
    | some o =>
     cases o with
     | ins _ _=>simp [itemsOf,vw,hM] at hi
     | lst xs =>
      simp only [itemsOf,vw,hM,Option.some.injEq] at hi;subst hi
      have hw:walk M1 (.ref n)=M1:=by simp only [walk,hM]
      have hk:wk M1 (.ref n)=false:=by simp only [wk,hM]
      rw [hw,hk] at h
      obtain ⟨vs,h1,q⟩:=S1.obj n b _ hb hM
      refine .inl ⟨b,rfl,⟨vs,.inl (.inl h1)⟩,h F1 ρ1 H1 _ e1 S1 fun M' eq S'=>⟨?_,fun z=>by simp at z⟩⟩
      injection eq with eq1 eq2
      subst eq2
      refine lU fun F ρ M H e S st=>?_
      simp only [aF,decide_eq_true_eq] at st
      obtain ⟨vs',h1',q'⟩:=S.obj n b _ (e.at hb) (st.trans hM)
      exact ⟨vs',.inl (.inl h1'),q'⟩
     | dct cA =>
      simp only [itemsOf,vw,hM,Option.some.injEq] at hi;subst hi
      have hw:walk M1 (.ref n)=M1.set n (.oH cA):=by simp only [walk,hM]
      have hk:wk M1 (.ref n)=true:=by simp only [wk,hM]
      rw [hw,hk] at h
      obtain ⟨kws,h1,h2,q⟩:=S1.obj n b _ hb hM
      refine .inr (.inr (.inl ⟨b,kws,rfl,h1,fun ob hth=>?_⟩))
      obtain ⟨S2,e2⟩:=S1.wk ob hb hM h1
      refine h F1 ρ1 _ _ (e1.trans e2) S2 fun M' eq S'=>⟨lV ay h2,fun _=>⟨n,b,rfl,hb,hth,fun w v z=>?_⟩⟩
      have:=e1.z b w v z
      rw [h1] at this;cases this
     | oH cA =>
      simp only [itemsOf,vw,hM,Option.some.injEq] at hi;subst hi
      have hw:walk M1 (.ref n)=M1:=by simp only [walk,hM]
      have hk:wk M1 (.ref n)=false:=by simp only [wk,hM]
      rw [hw,hk] at h
      obtain ⟨ob,kws,h1,h2,q⟩:=S1.obj n b _ hb hM
      exact .inr (.inr (.inr ⟨b,ob,kws,rfl,h1,h F1 ρ1 H1 _ e1 S1 fun M' eq S'=>⟨lV h1 h2,fun z=>by simp at z⟩⟩))
theorem lS {lo:Int} {n:Nat} {src:D}:Walks B (MA lo n) src ((List.range n).map fun (i:Nat)=>D.int (lo+(i:Int))) F0 ρ0 M0 H0:=by
 intro i F ρ M H e S st
 refine ⟨fun d hd=>?_,fun hi=>(show n<=i by simpa using hi)⟩
 have hi:i<n:=by
  obtain ⟨q,_⟩:=List.getElem?_eq_some_iff.mp hd
  simpa using q
 refine ⟨hi,fun x H' ⟨e',hx⟩=>?_⟩
 subst e' hx
 simp [hi] at hd
 subst hd
 exact ⟨F,S.refl,S,by simp only [RD]⟩
theorem pO {j:Int} (h:gu j=true):-(2 ^ 62)<=j/\j<2 ^ 62:=by
 simp only [gu,decide_eq_true_eq] at h;omega
theorem Bk {a:Fg.E} {Rr:It->Hp->Prop} (h:AZ B Φ E (.eE a) σ H Rr):Eu (bQ (T B Φ E a) iy) σ H Rr:=by
 obtain ⟨σD,M,F,ρ,S,r,h⟩:=h
 refine ⟨σD,M,F,ρ,S,r,?_⟩
 cases hx:ev Φ a σD M with
 | exc c M1 =>
  have he:aJ Φ (.eE a) σD M=.exc c M1:=by simp only [aJ,hx,R.ck]
  rw [he] at h;exact h
 | bad =>
  have he:aJ Φ (.eE a) σD M=.bad:=by simp only [aJ,hx,R.cu]
  rw [he] at h;exact h
 | ok d M1 =>
  intro F1 ρ1 H1 v e1 S1 rd
  cases d with
  | int j =>
   simp only [RD] at rd;subst rd
   cases hr:gu j with
   | false =>
    have he:aJ Φ (.eE a) σD M=.bad:=by simp [aJ,hx,hr]
    rw [he] at h;exact h.elim
   | true =>
    have he:aJ Φ (.eE a) σD M=.ok (.ak,gq 0 j,false) M1:=by simp [aJ,hx,hr]
    rw [he] at h
    obtain ⟨b1,b2⟩:=pO hr
    refine ⟨j,rfl,b1,b2,h F1 ρ1 H1 _ e1 S1 fun M' eq S'=>⟨?_,fun z=>by simp at z⟩⟩
    have q:gq 0 j=(List.range j.toNat).map fun (i:Nat)=>D.int (0+(i:Int)):=by simp [gq]
    dsimp only
    rw [q]
    exact lS
  | ak =>
   have he:aJ Φ (.eE a) σD M=.bad:=by simp [aJ,hx]
   rw [he] at h;exact h.elim
  | bl _ =>
   have he:aJ Φ (.eE a) σD M=.bad:=by simp [aJ,hx]
   rw [he] at h;exact h.elim
  | str _ =>
   have he:aJ Φ (.eE a) σD M=.bad:=by simp [aJ,hx]
   rw [he] at h;exact h.elim
  | tup _ =>
   have he:aJ Φ (.eE a) σD M=.bad:=by simp [aJ,hx]
   rw [he] at h;exact h.elim
  | lst _ =>
   have he:aJ Φ (.eE a) σD M=.bad:=by simp [aJ,hx]
   rw [he] at h;exact h.elim
  | dct _ _ =>
   have he:aJ Φ (.eE a) σD M=.bad:=by simp [aJ,hx]
   rw [he] at h;exact h.elim
  | ref _ =>
   have he:aJ Φ (.eE a) σD M=.bad:=by simp [aJ,hx]
   rw [he] at h;exact h.elim
theorem xW {a b:Fg.E} {Rr:It->Hp->Prop} (h:AZ B Φ E (.gS a b) σ H Rr):Et (bQ (T B Φ E a) (bQ (T B Φ E b) iy)) σ H Rr:=by
 obtain ⟨σD,M,F,ρ,S,r,h⟩:=h
 refine ⟨σD,M,F,ρ,S,r,?_⟩
 cases hx:ev Φ a σD M with
 | exc c M1 =>
  have he:aJ Φ (.gS a b) σD M=.exc c M1:=by simp only [aJ,hx,R.ck]
  rw [he] at h;exact h
 | bad =>
  have he:aJ Φ (.gS a b) σD M=.bad:=by simp only [aJ,hx,R.cu]
  rw [he] at h;exact h
 | ok x M1 =>
  intro F1 ρ1 H1 v e1 S1 rx
  refine ⟨σD,M1,F1,ρ1,S1,r.mono e1,?_⟩
  cases hy:ev Φ b σD M1 with
  | exc c M2 =>
   have he:aJ Φ (.gS a b) σD M=.exc c M2:=by simp only [aJ,hx,hy,R.aa,R.ck]
   rw [he] at h
   exact fun F' ρ' H' cv x e' S r=>h F' ρ' H' cv x (e1.trans e') S r
  | bad =>
   have he:aJ Φ (.gS a b) σD M=.bad:=by simp only [aJ,hx,hy,R.aa,R.cu]
   rw [he] at h;exact h.elim
  | ok y M2 =>
   intro F2 ρ2 H2 w e2 S2 ry
   have BG:=RD.mono e2 _ _ rx
   cases hi:ez x with
   | none =>
    have he:aJ Φ (.gS a b) σD M=.bad:=by simp only [aJ,hx,hy,R.aa,hi]
    rw [he] at h;exact h.elim
   | some i =>
    cases hj:ez y with
    | none =>
     have he:aJ Φ (.gS a b) σD M=.bad:=by simp only [aJ,hx,hy,R.aa,hi,hj]
     rw [he] at h;exact h.elim
    | some j =>
     cases hr:gu i&&gu j with
     | false =>
      have he:aJ Φ (.gS a b) σD M=.bad:=by simp only [aJ,hx,hy,R.aa,hi,hj,hr,Bool.false_eq_true,if_false]
      rw [he] at h;exact h.elim
     | true =>
      have he:aJ Φ (.gS a b) σD M=.ok (.ak,gq i j,false) M2:=by simp only [aJ,hx,hy,R.aa,hi,hj,hr,if_true]
      rw [he] at h
      cases kc hi
      cases kc hj
      simp only [RD] at BG ry
      subst BG ry
      obtain ⟨r1,r2⟩:=(Bool.and_eq_true _ _).mp hr
      obtain ⟨b1,b2⟩:=pO r1
      obtain ⟨b3,b4⟩:=pO r2
      exact ⟨i,j,rfl,⟨b1,b2,b3,b4⟩,h F2 ρ2 H2 _ (e1.trans e2) S2 fun M' eq S'=>⟨lS,fun z=>by simp at z⟩⟩
end
end Fg
end
section
namespace Fg
open PySem L2
noncomputable def EB (E:Gx) (σ:L2.St):Gx:=⟨fun cv x _ H=>E.e cv x σ H,fun _=>False,fun cv x _ H H' t h=>by
 rcases t with rfl | ⟨_,_,_,z,_⟩
 ·exact h
 ·exact z.elim⟩
noncomputable def TBo (B:Bd) (Φ:bz) (E:Gx):O->TT
 | .none=>fun _ H Q=>Q true H
 | .some e=>TB B Φ E e
section
variable {B:Bd} {Φ:bz} {E:Gx} {F F' F0 F1:Addr->Prop} {ρ ρ' ρ0 ρ1:List Addr} {H H' H0 H1:Hp} {M M' M0:MH} {σD:Sg} {σ:L2.St} {Q:VK} {Dn:Ends}
theorem Ext.fresh (S:SR B F ρ M H) {p:Addr} (h:H p=none) (o:HO):Ext F ρ H F ρ (upd H p o) :=
 ⟨⟨S.sep,fun _ q=>q,fun a q _=>ao (by rintro rfl;exact q h),List.prefix_refl _,fun _ q=>.inl q,fun _ q=>.inl q⟩,fun b w u q=>by rw [ao (by rintro rfl;rw [h] at q;cases q)];exact q⟩
theorem Ext.over (e:Ext F ρ H F' ρ' H') {p:Addr} (h:H p=none) (o:HO):Ext F ρ H F' ρ' (upd H' p o) :=
 ⟨⟨e.s,e.f,fun a q nb=>by rw [ao (by rintro rfl;exact q h)];exact e.h a q nb,e.r,e.n,e.g⟩,fun b w u q=>by rw [ao (by rintro rfl;rw [h] at q;cases q)];exact e.z b w u q⟩
theorem RS.cap (r:RS B F ρ H σD σ) (caps:List Nat) (n:Nat):RS B F ρ H (ou σD caps++List.replicate n none) (qA caps n σ):=by
 refine ⟨by simp [ou,qA],fun i d q=>?_⟩
 by_cases hi:i<caps.length
 ·have hc:caps[i]? = some caps[i]:=List.getElem?_eq_getElem hi
  rw [List.getElem?_append_left (by simpa [ou] using hi)] at q
  simp only [ou,List.getElem?_map,hc,Option.map_some,Option.some.injEq] at q
  cases hs:σD[caps[i]]? with
  | none=>rw [hs] at q;cases q
  | some o =>
   rw [hs] at q
   simp only [Option.join_some] at q
   subst q
   obtain ⟨v,h1,h2⟩:=r.get _ _ hs
   refine ⟨v,?_,h2⟩
   unfold qA
   rw [List.getElem?_append_left (by simpa using hi),List.getElem?_map,hc]
   simp [h1]
 ·rw [List.getElem?_append_right (by simpa [ou] using Nat.le_of_not_lt hi),List.getElem?_replicate] at q
  split at q <;> cases q
theorem RS.aW (e:qH F ρ H F' ρ' H') (h:RS B F ρ H σD σ):RS B F' ρ' H' σD σ :=
 ⟨h.len,fun i d q=>let ⟨v,h1,h2⟩:=h.get i d q;⟨v,h1,RD.aW e d v h2⟩⟩
theorem o6 {fz:Bool} {caps tg:List Nat} {elt:Fg.E} {it:Src} {cond:O} (h:T B Φ E (.comp fz caps tg elt it cond) σ H Q) :
  tF (AZ B Φ E it) (Lh tg B.K) (fun σ=>TBo B Φ (EB E σ) cond) (fun σ=>T B Φ (EB E σ) elt) caps tg.length σ H (fun v H'=>∃ sX,AY E.th H' sX/\Q v sX):=by
 obtain ⟨σD,M,F,ρ,S,r,h⟩:=h
 simp only [ev] at h
 refine ⟨σD,M,F,ρ,S,r,?_⟩
 cases hx:aJ Φ it σD M with
 | exc c M1=>rw [hx] at h;exact h
 | bad=>rw [hx] at h;exact h
 | ok p M0 =>
  rw [hx] at h
  simp only [R.aa] at h
  intro F0 ρ0 H0 J e0 S0 hw
  obtain ⟨W,wz⟩:=hw M0 rfl S0
  obtain ⟨src,ds,fl⟩:=p
  dsimp only at h W wz
  intro Da Np
  obtain ⟨nD,nF⟩:=S0.new Np
  have Nn:H Da=none:=by
   cases q:H Da with
   | none=>rfl
   | some u =>
    exfalso
    by_cases hr:Da∈ρ
    ·exact nD (e0.r.subset hr)
    ·have:=e0.h Da (by rw [q];simp) hr
     rw [Np,q] at this;cases this
  let loop:=fun (i:Nat) (σ':Sg) (M':MH) (acc:List D)=>((bS (qK Φ cond) (ev Φ elt) tg (aF M0 src) (ds.drop i) σ' M' acc).fin (fK fl src)).bind fun ds M2=>cH fz ds M2
  let WW:Nat->Nat->L2.St->Hp->Prop:=fun i m σ' H'=>m+i=ds.length/\∃ (Jr:Sg) (M1:MH) (F1:Addr->Prop) (ρ1:List Addr) (acc:List D) (vs:List V),Ext F ρ H F1 ρ1 H'/\Ext F0 ρ0 H0 F1 ρ1 H'/\SR B F1 ρ1 M1 H'/\RS B F1 ρ1 H' Jr σ'/\aF M0 src M1=true/\Da∉ρ1/\¬ F1 Da/\H' Da=some (.lst vs)/\aj B F1 ρ1 H' acc vs /\
   Post B (loop i Jr M1 acc) F ρ H Q (fun cv x H'=>E.e cv x σ H')
  have x0:=qH.side (ρ:=ρ0) (H:=H0) nF (.lst [])
  refine ⟨WW,⟨ds.length,by simp,_,M0,F0,ρ0,[],[],e0.over Nn _,Ext.fresh S0 Np _,S0.side nD nF _,((r.mono e0).cap caps tg.length).aW x0,?_,nD,nF,ay,aj.nil,h⟩,?_⟩
  ·unfold aF;split <;> simp
  rintro i m σ1 H1 ⟨hm,A2,M1,F1,ρ1,acc,vs,eo,e1,S1,r1,st1,d1,f1,Nq,ra,p1⟩
  obtain ⟨wgo,wst⟩:=W i F1 ρ1 M1 H1 e1 S1 st1
  by_cases hi:i<ds.length
  ·have hd:ds.drop i=ds[i]::ds.drop (i+1):=List.drop_eq_getElem_cons hi
   simp only [loop] at p1
   rw [hd] at p1
   unfold bS at p1
   obtain ⟨go,yl⟩:=wgo ds[i] (List.getElem?_eq_getElem hi)
   refine .inr ⟨go,fun x H2 hy=>?_⟩
   obtain ⟨F2,e2,S2,rd⟩:=yl x H2 hy
   have keep:∀ {F3:Addr->Prop} {ρ3:List Addr} {H3:Hp},Ext F1 ρ1 H1 F3 ρ3 H3->Da∉ρ3/\¬ F3 Da/\H3 Da=some (.lst vs)/\aj B F3 ρ3 H3 acc vs:=fun {F3 ρ3 H3} e=>by
    have hne:H1 Da≠none:=by rw [Nq];simp
    refine ⟨fun z=>(e.n Da z).elim d1 hne,fun z=>?_,(e.h Da hne d1).trans Nq,aj.mono e _ _ ra⟩
    rcases e.g Da z with q | q | q
    ·exact f1 q
    ·exact hne q
    ·exact d1 q
   split at p1
   ·exact p1.elim
   ·rename_i σ2 hs
    refine o8 (r1.mono e2) rd hs fun σ' r'=>?_
    have LI:∀ {F3:Addr->Prop} {ρ3:List Addr} {H3:Hp} {M3:MH},Ext F1 ρ1 H1 F3 ρ3 H3->SR B F3 ρ3 M3 H3->RS B F3 ρ3 H3 σ2 σ' ->
      Post B ((((ev Φ elt σ2 M3).bind fun x M2=>if aF M0 src M2=true then (if decide (acc.length<line)=true then bS (qK Φ cond) (ev Φ elt) tg (aF M0 src) (ds.drop (i+1)) σ2 M2 (acc++[x]) else .bad) else .bad).fin (fK fl src)).bind fun ds M2=>cH fz ds M2) F ρ H Q (fun cv x H'=>E.e cv x σ H') ->
      T B Φ (EB E σ) elt σ' H3 fun v H5=>∃ ys,H5 Da=some (.lst ys)/\ys.length<sizeLine/\∃ m',m'<m/\WW (i+1) m' σ' (upd H5 Da (.lst (ys++[v]))):=by
     intro F3 ρ3 H3 M3 e3 S3 r3 p3
     refine ⟨σ2,M3,F3,ρ3,S3,r3,?_⟩
     cases hv:ev Φ elt σ2 M3 with
     | bad=>rw [hv] at p3;exact p3
     | exc c M4 =>
      rw [hv] at p3
      intro F4 ρ4 H4 cv x e4 S4 q4
      obtain ⟨H5,t5,S5,e5,x5⟩:=cN S4 ((eo.trans e3).trans e4) ((e1.trans e3).trans e4).r wz
      exact E.cl _ _ _ _ _ t5 (p3 F4 ρ4 H5 cv x e5 S5 q4)
     | ok d M4 =>
      rw [hv] at p3
      simp only [R.aa] at p3
      intro F4 ρ4 H4 v e4 S4 q4
      split at p3
      ·rename_i hst
       split at p3
       ·rename_i hlt
        obtain ⟨k1,k2,k3,k4⟩:=keep (e3.trans e4)
        have hl4:=aj.length k4
        have x4:=qH.side (ρ:=ρ4) (H:=H4) k2 (.lst (vs++[v]))
        refine ⟨vs,k3,by rw [<- hl4];exact Nat.lt_of_lt_of_le (of_decide_eq_true hlt) bL,m-1,by omega,by omega,σ2,M4,F4,ρ4,acc++[d],vs++[v],((eo.trans e3).trans e4).over Nn _,((e1.trans e3).trans e4).over Np _,S4.side k1 k2 _,((r3.mono e4)).aW x4,hst,k1,k2,ay,aj.aW x4 _ _ (k4.append (aj.cons q4 aj.nil)),p3⟩
       ·exact p3.elim
      ·exact p3.elim
    cases cond with
    | none =>
     have hc:qK Φ .none σ2 M1=.ok (.bl true) M1:=by simp only [qK]
     rw [hc] at p1
     simp only [R.aa] at p1
     unfold TBo
     dsimp only
     rw [if_pos rfl]
     exact LI e2 S2 r' p1
    | some c =>
     have hc0:qK Φ (.some c) σ2 M1=ev Φ c σ2 M1:=by simp only [qK]
     rw [hc0] at p1
     refine ⟨σ2,M1,F2,ρ1,S2,r',?_⟩
     cases hc:ev Φ c σ2 M1 with
     | bad=>rw [hc] at p1;exact p1
     | exc k M4 =>
      rw [hc] at p1
      intro F4 ρ4 H4 cv x e4 S4 q4
      obtain ⟨H5,t5,S5,e5,x5⟩:=cN S4 ((eo.trans e2).trans e4) ((e1.trans e2).trans e4).r wz
      exact E.cl _ _ _ _ _ t5 (p1 F4 ρ4 H5 cv x e5 S5 q4)
     | ok t M4 =>
      rw [hc] at p1
      simp only [R.aa] at p1
      intro F4 ρ4 H4 v e4 S4 q4
      split at p1
      ·simp only [RD] at q4;subst q4
       refine ⟨true,rfl,?_⟩
       dsimp only
       rw [if_pos rfl]
       exact LI (e2.trans e4) S4 (r'.mono e4) p1
      ·simp only [RD] at q4;subst q4
       refine ⟨false,rfl,?_⟩
       dsimp only
       rw [if_neg Bool.false_ne_true]
       split at p1
       ·rename_i hst
        obtain ⟨k1,k2,k3,k4⟩:=keep (e2.trans e4)
        exact ⟨m-1,by omega,by omega,σ2,M4,F4,ρ4,acc,vs,(eo.trans e2).trans e4,(e1.trans e2).trans e4,S4,r'.mono e4,hst,k1,k2,k3,k4,p1⟩
       ·exact p1.elim
      ·exact p1.elim
  ·have hd:ds.drop i=[]:=List.drop_eq_nil_of_le (Nat.le_of_not_lt hi)
   simp only [loop] at p1
   rw [hd] at p1
   unfold bS at p1
   obtain ⟨H4,t4,S4,e4,x4⟩:=cN S1 eo e1.r wz
   refine .inl ⟨wst (Nat.le_of_not_lt hi),H4,t4,?_⟩
   have p2:Post B (cH fz acc (fK fl src M1)) F ρ H Q (fun cv x H'=>E.e cv x σ H'):=p1
   have ra4:=aj.bx x4 _ _ ra
   have hD4:H4 Da=some (.lst vs):=by
    have:=x4.h Da (by rw [Nq];simp) d1
    exact this.trans Nq
   cases fz with
   | true =>
    simp only [cH,if_true] at p2
    have xt:qH F1 ρ1 H4 (fun a=>F1 a\/a=Da) ρ1 H4:=⟨fun _ q=>.inl q,fun _ _ _=>rfl,List.prefix_refl _⟩
    refine p2 (fun a=>F1 a\/a=Da) ρ1 H4 (.ref Da) ⟨⟨e4.s,fun a q=>.inl (e4.f a q),e4.h,e4.r,e4.n,fun a q=>q.elim (e4.g a) fun z=>.inr (.inl (z ▸ Nn))⟩,e4.z⟩ (S4.take d1 (by rw [hD4];simp)) ?_
    simp only [RD]
    exact ⟨Da,vs,rfl,.inl ⟨.inr rfl,.inl hD4⟩,aj.aW xt _ _ ra4⟩
   | false =>
    simp only [cH,Bool.false_eq_true,if_false] at p2
    have xt:qH F1 ρ1 H4 F1 (ρ1++[Da]) H4:=⟨fun _ q=>q,fun _ _ _=>rfl,List.prefix_append _ _⟩
    refine p2 F1 (ρ1++[Da]) H4 (.ref Da) ⟨⟨e4.s,e4.f,e4.h,e4.r.trans (List.prefix_append _ _),fun a q=>(List.mem_append.mp q).elim (e4.n a) fun z=>.inr (by rw [List.mem_singleton.mp z];exact Nn),e4.g⟩,e4.z⟩ (S4.hold (u:=.lst acc) d1 f1 ⟨vs,hD4,aj.aW xt _ _ ra4⟩) ?_
    simp only [RD]
    refine ⟨Da,?_,rfl⟩
    rw [<- S4.len,List.getElem?_append_right (Nat.le_refl _),Nat.sub_self];rfl
end
end Fg
end
section
namespace Fg
open PySem L2
section
variable {B:Bd} {Φ:bz} {E:Gx} {F F' F0 F1:Addr->Prop} {ρ ρ' ρ0 ρ1:List Addr} {H H' H0 H1:Hp} {M M' M0:MH} {σD:Sg} {σ:L2.St} {Q:VK} {Dn:Ends}
theorem JW {i:Nat} {v:V} (hg:∀ d,Φ.glob i=some d->∀ F ρ H,RD B F ρ H d v) (h:T B Φ E (.g i) σ H Q):tC v σ H Q:=by
 obtain ⟨σD,M,F,ρ,S,r,h⟩:=h
 simp only [ev] at h
 split at h
 ·rename_i d hd
  exact ah.run h S (hg d hd F ρ H)
 ·exact h.elim
noncomputable def AM (B:Bd) (Φ:bz) (f n:Nat):Sp:=fun vs H Q E=>vs.length=n/\∃ ds M F ρ,SR B F ρ M H/\aj B F ρ H ds vs/\Post B (Φ.call f ds M) F ρ H Q E
theorem o7 {f n:Nat} {es:Es} (hn:∀ {σ:Sg} {M:MH} {ds:List D} {M':MH},cZ Φ es σ M=.ok ds M'->ds.length=n) (h:T B Φ E (.call f es) σ H Q)  :qU (AM B Φ f n) E.e (TL B Φ E es) σ H Q:=by
 obtain ⟨σD,M,F,ρ,S,r,h⟩:=h
 simp only [ev] at h
 refine ⟨σD,M,F,ρ,S,r,?_⟩
 cases hx:cZ Φ es σD M with
 | exc c M1=>rw [hx] at h;exact h
 | bad=>rw [hx] at h;exact h
 | ok ds M1 =>
  rw [hx] at h
  simp only [R.aa] at h
  intro F1 ρ1 H1 vs e1 S1 q1
  exact ⟨by rw [<- aj.length q1];exact hn hx,ds,M1,F1,ρ1,S1,q1,ah.weak e1 h⟩
theorem E7 {x:D} {v:V} {t:Ty} (S:SR B F ρ M H) (rx:RD B F ρ H x v) (ho:yK M x=true):∃ T,DB B H v T/\tyB T t=HK M t x:=by
 cases x with
 | ak=>simp only [RD] at rx;subst rx;exact ⟨_,.ak,by cases t <;> rfl⟩
 | bl b=>simp only [RD] at rx;subst rx;exact ⟨_,.bl b,by cases t <;> rfl⟩
 | int i=>simp only [RD] at rx;subst rx;exact ⟨_,.int i,by cases t <;> rfl⟩
 | str x=>simp only [RD] at rx;subst rx;exact ⟨_,.str x,by cases t <;> rfl⟩
 | tup ds=>simp only [RD] at rx;obtain ⟨a,vs,rfl,z,_⟩:=rx;exact ⟨_,.tup z.sq,by cases t <;> rfl⟩
 | lst ds=>simp only [RD] at rx;obtain ⟨a,vs,rfl,z,_⟩:=rx;exact ⟨_,.lst z.sq,by cases t <;> rfl⟩
 | dct ks ds =>
  simp only [RD] at rx;obtain ⟨a,vs,rfl,z,_⟩:=rx
  refine ⟨_,.dct (kvs:=vs) ?_,by cases t <;> rfl⟩
  rcases z with ⟨_,z⟩ | z
  ·exact .inl z
  ·exact .inr z
 | ref n =>
  simp only [RD] at rx
  obtain ⟨a,h1,rfl⟩:=rx
  cases hM:M[n]? with
  | none=>simp [yK,hM] at ho
  | some o =>
   cases o with
   | lst ds=>obtain ⟨vs,h3,_⟩:=S.obj n a _ h1 hM;exact ⟨_,.lst (.inl (.inl h3)),by simp only [HK,hM];cases t <;> rfl⟩
   | dct kvs=>obtain ⟨kws,h3,_⟩:=S.obj n a _ h1 hM;exact ⟨_,.dct (.inl (.inl h3)),by simp only [HK,hM];cases t <;> rfl⟩
   | oH kvs=>obtain ⟨o,kws,h3,_⟩:=S.obj n a _ h1 hM;exact ⟨_,.dct (.inl (.inr ⟨o,h3⟩)),by simp only [HK,hM];cases t <;> rfl⟩
   | ins _ _=>simp [yK,hM] at ho
theorem Bv {a:Fg.E} {t:Ty} (h:T B Φ E (.AR a t) σ H Q):Fc (Kc B) (bQ (T B Φ E a) (bQ (tC (.ty (oN t))) iy)) σ H Q:=by
 obtain ⟨σD,M,F,ρ,S,r,h⟩:=h
 simp only [ev] at h
 refine T.one S r rfl h fun x M1 F1 ρ1 H1 v e1 S1 r1 rx h1=>?_
 split at h1
 ·rename_i ho
  obtain ⟨T',ty,e⟩:=E7 (t:=t) S1 rx ho
  refine ⟨v,T',t,rfl,ty,?_⟩
  rw [e]
  exact ah.run h1 S1 (by simp only [RD])
 ·exact h1.elim
theorem rj {fz:Bool} {a:Fg.E} {es:Es} (h:T B Φ E (.dI .append fz a es) σ H Q):tBM B.K "list" nq (T B Φ E a) (TL B Φ E es) σ H Q:=by
 obtain ⟨σD,M,F,ρ,S,r,h⟩:=h
 simp only [ev] at h
 refine T.one S r rfl h fun x M1 F1 ρ1 H1 v e1 S1 r1 rx h1=>?_
 split at h1
 ·rename_i ho
  refine ⟨?_,TL.one S1 r1 rfl h1 fun ds M2 F2 ρ2 H2 vs e2 S2 r2 rds h2=>sS S2 (RD.mono e2 _ _ rx) rds h2⟩
  have h0:=((Bool.and_eq_true _ _).mp ho).1
  cases hl:gI M1 x with
  | none=>rw [hl] at h0;cases h0
  | some p =>
   obtain ⟨rfl,hM⟩:=j0 hl
   simp only [RD] at rx
   obtain ⟨b,hb,rfl⟩:=rx
   obtain ⟨vs,h3,_⟩:=S1.obj p.1 b _ hb hM
   exact .inl ⟨rfl,vs,.inl (.inl h3)⟩
 ·exact h1.elim
noncomputable def D4 (x y v:V) (H:Hp) (Q:Hp->Prop):Prop:=D3 x y v H Q\/∃ a H4,x=.ref a/\sY H a y v H4/\Q H4
noncomputable def DY (to ti tv:TE):TS:=fun D σ H=>tv σ H fun v H1=>to σ H1 fun x H2=>ti σ H2 fun y H3=>D4 x y v H3 fun H4=>D.nx σ H4
theorem BD {x y d:D} {v w u:V} (S:SR B F ρ M H) (rx:RD B F ρ H x v) (ry:RD B F ρ H y w) (rd:RD B F ρ H d u) {K:Hp->Prop} (h:∀ M',m8 M x y d=.ok () M'->∀ H',Ext F ρ H F ρ H'->SR B F ρ M' H'->K H') (hb:∃ M',m8 M x y d=.ok () M'):D4 v w u H K:=by
 obtain ⟨M',hb⟩:=hb
 have hK:=h M' hb
 unfold m8 at hb
 split at hb
 ·rename_i n
  simp only [RD] at rx
  obtain ⟨a,h1,rfl⟩:=rx
  split at hb
  ·rename_i xs i hM
   split at hb
   ·rename_i j hj
    cases hb
    simp only [RD] at ry;subst ry
    obtain ⟨vs,h2,h3⟩:=S.obj n a _ h1 hM
    refine .inl ⟨a,vs,i,j,rfl,rfl,h2,by rw [<- aj.length h3,<- zo];exact hj,?_⟩
    obtain ⟨S',e⟩:=S.st (o:=.lst (vs.set j u)) (u:=.lst (xs.set j d)) h1 (fun _ _ q=>by rw [h2] at q;cases q) ⟨_,ay,aj.bx (Ext0.at_ S h1) _ _ (h3.set j rd)⟩
    exact hK _ e S'
   ·cases hb
  ·rename_i kvs hM
   split at hb
   ·rename_i k hk
    split at hb
    ·rename_i hl
     cases hb
     obtain ⟨kws,h2,h3,h4⟩:=S.obj n a _ h1 hM
     have hlen:kws.length=kvs.length:=by have:=congrArg List.length h3;simpa using this
     rw [nK hk ry]
     refine .inr ⟨a,_,rfl,sY.k h2 (by rw [hlen];exact Nat.lt_of_lt_of_le (of_decide_eq_true hl) bL),?_⟩
     obtain ⟨p1,p2⟩:=yq (k:=k) rd h3 h4
     obtain ⟨S',e⟩:=S.st (o:=.dK (putK kws k u)) (u:=.dct (put kvs k d)) h1 (fun _ _ q=>by rw [h2] at q;cases q) ⟨_,ay,p1,aj.bx (Ext0.at_ S h1) _ _ p2⟩
     exact hK _ e S'
    ·cases hb
   ·cases hb
  ·cases hb
 ·cases hb
theorem BF {x y d:D}:(∃ M',m8 M x y d=.ok () M')\/m8 M x y d=.bad:=by
 unfold m8
 split
 ·split
  ·split
   ·exact .inl ⟨_,rfl⟩
   ·exact .inr rfl
  ·split
   ·split
    ·exact .inl ⟨_,rfl⟩
    ·exact .inr rfl
   ·exact .inr rfl
  ·exact .inr rfl
 ·exact .inr rfl
theorem xT {a b e:Fg.E} (h:TC B Φ E (.rq a b e) Dn σ H):DY (T B Φ E a) (T B Φ E b) (T B Φ E e) Dn σ H:=by
 obtain ⟨σD,M,F,ρ,S,r,h⟩:=h
 simp only [ex] at h
 refine TC.one S r h fun x M1 F1 ρ1 H1 v e1 S1 r1 rx h1=>?_
 refine TC.one S1 r1 h1 fun y M2 F2 ρ2 H2 w e2 S2 r2 ry h2=>?_
 refine TC.one S2 r2 h2 fun z M3 F3 ρ3 H3 u e3 S3 r3 rz h3=>?_
 have MP:=RD.mono e3 _ _ (RD.mono e2 _ _ rx)
 have MN:=RD.mono e3 _ _ ry
 rcases BF (M:=M3) (x:=y) (y:=z) (d:=x) with ⟨M',hb⟩ | hb
 ·refine BD S3 MN rz MP (fun M4 hq H4 e4 S4=>?_) ⟨M',hb⟩
  rw [hq] at h3
  exact h3 F3 ρ3 H4 e4 S4 σ (r3.mono e4)
 ·rw [hb] at h3;exact h3.elim
end
end Fg
end
section
namespace Fg
open PySem PySem.Spec L2
noncomputable def sr:F1->V->Option V
 | .abs,.int i=>some (.int (if i<0 then -i else i))
 | .int,.bl b=>some (.int (if b then 1 else 0))
 | .int,.int i=>some (.int i)
 | _,_=>none
noncomputable def rF1 (f:F1):List V->Hp->VK->Prop:=fun xs H Q=>∃ x y,xs=[x]/\sr f x=some y/\Q y H
section
variable {X:Cx}
theorem wK:c8 X (.builtin "abs") (rF1 .abs):=by
 intro pins s σ H xs us Q I r h
 obtain ⟨x,y,rfl,hf,q⟩:=h
 obtain ⟨u,rfl,ru⟩:=vals1 r
 cases x with
 | int i =>
  simp only [sr] at hf
  cases hf
  obtain ⟨t,rfl⟩:=(show ∃ t,u=Value.int i t from ru)
  exact PyProof.Rows.call_abs_int fun u tk=>⟨.int _,H,I.tok _,⟨_,rfl⟩,q⟩
 | _=>simp [sr] at hf
theorem wI:c8 X (.type "int") (rF1 .int):=by
 intro pins s σ H xs us Q I r h
 obtain ⟨x,y,rfl,hf,q⟩:=h
 obtain ⟨u,rfl,ru⟩:=vals1 r
 cases x with
 | int i =>
  simp only [sr] at hf
  cases hf
  obtain ⟨t,rfl⟩:=(show ∃ t,u=Value.int i t from ru)
  exact call_int_int ⟨.int _,H,I,⟨_,rfl⟩,q⟩
 | bl b =>
  simp only [sr] at hf
  cases hf
  cases ru
  exact call_int_bool ⟨.int _,H,I.tok _,⟨_,rfl⟩,q⟩
 | _=>simp [sr] at hf
end
section
variable {B:Bd} {Φ:bz} {E:Gx} {F F' F0 F1:Addr->Prop} {ρ ρ' ρ0 ρ1:List Addr} {H H' H0 H1:Hp} {M M' M0:MH} {σD:Sg} {σ:L2.St} {Q:VK}
theorem HW {f:Fg.F1} {x d:D} {v:V} (h:wu f x=some d) (r:RD B F ρ H x v):∃ w,sr f v=some w/\RD B F ρ H d w:=by
 cases x with
 | int i=>simp only [RD] at r;subst r;cases f <;> simp only [wu] at h <;> cases h <;> exact ⟨_,rfl,by simp only [RD]⟩
 | bl b=>simp only [RD] at r;subst r;cases f <;> simp only [wu] at h <;> cases h <;> exact ⟨_,rfl,by simp only [RD]⟩
 | _=>cases f <;> simp [wu] at h
theorem tO {f:Fg.F1} {a:Fg.E} (h:T B Φ E (.qJ f a) σ H Q):Fc (rF1 f) (bQ (T B Φ E a) iy) σ H Q:=by
 obtain ⟨σD,M,F,ρ,S,r,h⟩:=h
 simp only [ev] at h
 refine T.one S r rfl h fun x M1 F1 ρ1 H1 v e1 S1 r1 rx h1=>?_
 split at h1
 ·rename_i d hd
  obtain ⟨w,hw,rw'⟩:=HW hd rx
  exact ⟨v,w,rfl,hw,ah.run h1 S1 rw'⟩
 ·exact h1.elim
end
end Fg
end
section
namespace Fg
open PySem L2
section
variable {X:Cx}
theorem CV (l:Addr) (items:Array Value) (n:Nat) (b:Addr) (items2:Array Value) (n2:Nat) (dd2:Option Addr) (sl2:Array (Option Value)) (hs0:¬(!items.isEmpty&&Builtin.List.listTooLong (items.size+items2.size))=true) (hs1:items.size<=sizeLine) (hs2:items.size+items2.size<=sizeLine+1) :
  Meets (Builtin.«list.extend» ⟨[.ref l, .ref b], []⟩) (fun _ R s=>s.heap.get? l=some { cls:=.type "list", dict:=none, data:=.seq items n, slots:=#[] }/\s.heap.get? b=some { cls:=.type "tuple", dict:=dd2, data:=.seq items2 n2, slots:=sl2 }/\R (.ok (.ret Value.none)) { s with heap:=s.heap.update l (Obj.mapSeq fun x=>x++items2), toks:=s.toks }) :=
 .of_wp fun prog w A R s h=>by
  obtain ⟨hp,g,d,tk,os⟩:=s;obtain ⟨hl,hb,h⟩:=h;have f1:=AutoSeq1.idx_int;have f2:=AutoSeq1.sub_tuple_tuple;have f3:=AutoSeq1.sub_list_list;have f4:=AutoSeq1.sub_tuple_list;have f5:=AutoSeq1.sub_list_tuple
  have hz':(items++items2).size<=sizeLine+1:=by rw [Array.size_append];exact hs2
  wp_walk using (wpAny_updateSeq hl rfl (hz:=hs1) (_hz':=hz')),AutoSeq1.wpAny_loadPart' hl,AutoSeq1.wpAny_loadPart' hb;exact ⟨_,rfl,h⟩
noncomputable def D6 (K:W.Frag):V->List V->Hp->VK->Prop:=fun x vs H Q=>∃ l b xs zs,x=.ref l/\vs=[.ref b]/\H l=some (.lst xs)/\ic K H b zs/\xs.length+zs.length<=sizeLine/\Q .ak (upd H l (.lst (xs++zs)))
theorem Cq:NS X "list.extend" (D6 X.K):=by
 intro pins s σ H x vs v us Q I rx rv h
 obtain ⟨l,b,xs,zs,rfl,rfl,hH,hB,hz,q⟩:=h
 cases rx
 obtain ⟨u,rfl,ru⟩:=rv.one
 cases ru
 obtain ⟨z,its,n,r,hl,e⟩:=I.Ct hH
 obtain ⟨its2,r2,p2,z2⟩:=I.tuple hB
 obtain ⟨⟨L6,dd2,data2,sl2⟩,e2,hc2,n2,hd2⟩:=p2
 simp only at hc2 hd2
 subst hc2 hd2
 have l2:=r2.length
 have hsz:its.toArray.size+its2.toArray.size<=sizeLine:=by rw [List.size_toArray,List.size_toArray];omega
 have Lb:¬ (!its.toArray.isEmpty&&Builtin.List.listTooLong (its.toArray.size+its2.toArray.size))=true:=by
  rw [yM hsz,Bool.and_false]
  exact Bool.false_ne_true
 refine call_meets PySem.F.slot_list_extend ⟨_,e,rfl⟩ PySem.F.entry_list_extend (PySem.F.args_list_extend_2 _ _)
  (CV l its.toArray n b its2.toArray n2 dd2 sl2 Lb (by rw [List.size_toArray];omega) (by omega)) ⟨e,e2,?_⟩
 refine ⟨.ak,_,I.Cu (its':=its++its2) hH e (by simp) (r.append r2) ?_,rfl,q⟩
 rw [List.length_append]
 omega
end
section
variable {B:Bd} {Φ:bz} {E:Gx} {F F' F0 F1:Addr->Prop} {ρ ρ' ρ0 ρ1:List Addr} {H H' H0 H1:Hp} {M M' M0:MH} {σD:Sg} {σ:L2.St} {Q:VK}
theorem aj.rev:∀ {ds:List D} {vs:List V},aj B F ρ H ds vs->aj B F ρ H ds.reverse vs.reverse
 | [],vs,h=>by
  have:=aj.length h
  cases vs with
  | nil=>exact aj.nil
  | cons _ _=>simp at this
 | d::ds,vs,h=>by
  cases vs with
  | nil=>have:=aj.length h;simp at this
  | cons v vs =>
   obtain ⟨w,ws,h1,h2,h3⟩:∃ w ws,v::vs=w::ws/\RD B F ρ H d w/\aj B F ρ H ds ws:=by simpa only [aj] using h
   cases h1
   rw [List.reverse_cons,List.reverse_cons]
   exact aj.append (aj.rev h3) (aj.cons h2 aj.nil)
theorem aj.dropLast {ds:List D} {vs:List V} (h:aj B F ρ H ds vs):aj B F ρ H ds.dropLast vs.dropLast:=by
 rw [List.dropLast_eq_take,List.dropLast_eq_take,<- aj.length h];exact aj.take _ h
theorem yj {x:D} {v:V} {m:Mt} (S:SR B F ρ M H) (rx:RD B F ρ H x v) (ho:nI m M x=true):∃ n xs, x=.ref n/\M[n]? = some (.lst xs)/\MJ B.K "list" v H:=by
 have h0:=((Bool.and_eq_true _ _).mp ho).1
 cases hl:gI M x with
 | none=>rw [hl] at h0;cases h0
 | some p =>
  obtain ⟨rfl,hM⟩:=j0 hl
  simp only [RD] at rx
  obtain ⟨b,hb,rfl⟩:=rx
  obtain ⟨vs,h3,_⟩:=S.obj p.1 b _ hb hM
  exact ⟨p.1,p.2,rfl,hM,.inl ⟨rfl,vs,.inl (.inl h3)⟩⟩
theorem BY {fz:Bool} {n:Nat} {xs:List D} {v:V} {X:XK} (S:SR B F ρ M H) (hx:M[n]? = some (.lst xs)) (rx:RD B F ρ H (.ref n) v) (h:Post B (gW .pop fz M (.ref n) []) F ρ H Q X):FU v [] H Q:=by
 simp only [gW,b9 hx,pT,List.isEmpty_nil,if_true] at h
 split at h
 ·rename_i d hd
  simp only [RD] at rx
  obtain ⟨a,h1,rfl⟩:=rx
  obtain ⟨ws,h2,h3⟩:=S.obj n a _ h1 hx
  obtain ⟨w,hw,rw'⟩:=aj.get h3 hd
  refine ⟨a,ws,w,rfl,rfl,h2,by rw [<- aj.length h3];exact hw,?_⟩
  obtain ⟨S',e⟩:=S.st (o:=.lst ws.dropLast) (u:=.lst xs.dropLast) h1 (fun _ _ q=>by rw [h2] at q;cases q) ⟨_,ay,aj.bx (Ext0.at_ S h1) _ _ h3.dropLast⟩
  exact h _ _ _ _ e S' (RD.mono e _ _ rw')
 ·exact h.elim
theorem pF {fz:Bool} {n:Nat} {xs:List D} {v:V} {X:XK} (S:SR B F ρ M H) (hx:M[n]? = some (.lst xs)) (rx:RD B F ρ H (.ref n) v) (h:Post B (gW .reverse fz M (.ref n) []) F ρ H Q X):kC v [] H Q:=by
 simp only [gW,b9 hx,pT,List.isEmpty_nil,if_true] at h
 simp only [RD] at rx
 obtain ⟨a,h1,rfl⟩:=rx
 obtain ⟨ws,h2,h3⟩:=S.obj n a _ h1 hx
 refine ⟨a,ws,rfl,rfl,h2,?_⟩
 obtain ⟨S',e⟩:=S.st (o:=.lst ws.reverse) (u:=.lst xs.reverse) h1 (fun _ _ q=>by rw [h2] at q;cases q) ⟨_,ay,aj.bx (Ext0.at_ S h1) _ _ h3.rev⟩
 exact h _ _ _ _ e S' (by simp only [RD])
theorem qZ {fz:Bool} {a:Fg.E} {es:Es} (h:T B Φ E (.dI .extend fz a es) σ H Q):tBM B.K "list" (D6 B.K) (T B Φ E a) (TL B Φ E es) σ H Q:=by
 obtain ⟨σD,M,F,ρ,S,r,h⟩:=h
 simp only [ev] at h
 refine T.one S r rfl h fun x M1 F1 ρ1 H1 v e1 S1 r1 rx h1=>?_
 split at h1
 ·rename_i ho
  obtain ⟨n,xs,rfl,hM,ty⟩:=yj S1 rx ho
  refine ⟨ty,TL.one S1 r1 rfl h1 fun ds M2 F2 ρ2 H2 vs e2 S2 r2 rds h2=>?_⟩
  have BG:=RD.mono e2 _ _ rx
  unfold gW at h2
  cases hl:gI M2 (.ref n) with
  | none=>rw [hl] at h2;exact h2.elim
  | some q =>
   rw [hl] at h2
   obtain ⟨e0,hy⟩:=j0 hl
   cases e0
   cases ds with
   | nil=>exact h2.elim
   | cons d ds=>cases ds with
    | cons _ _=>exact h2.elim
    | nil =>
     simp only [pT,yI] at h2
     split at h2
     ·rename_i zs hz
      split at h2
      ·rename_i hlen
       simp only [RD] at BG
       obtain ⟨a',h3,rfl⟩:=BG
       obtain ⟨ws,h4,h5⟩:=S2.obj _ a' _ h3 hy
       obtain ⟨w,us,rfl,rw',ru⟩:∃ w us,vs=w::us/\RD B F2 ρ2 H2 d w/\aj B F2 ρ2 H2 [] us:=by simpa only [aj] using rds
       have eu:us=[]:=List.eq_nil_of_length_eq_zero (aj.length ru).symm
       subst eu
       cases A8 hz
       simp only [RD] at rw'
       obtain ⟨b,zs',rfl,z1,r3⟩:=rw'
       refine ⟨a',b,ws,zs',rfl,rfl,h4,z1.sq,?_,?_⟩
       ·rw [<- aj.length h5,<- aj.length r3];exact Nat.le_trans (of_decide_eq_true hlen) bL
       ·obtain ⟨S',e⟩:=S2.st (o:=.lst (ws++zs')) (u:=.lst (q.2++zs)) h3 (fun _ _ q=>by rw [h4] at q;cases q) ⟨_,ay,aj.bx (Ext0.at_ S2 h3) _ _ (h5.append r3)⟩
        exact h2 _ _ _ _ e S' (by simp only [RD])
      ·exact h2.elim
     ·exact h2.elim
 ·exact h1.elim
theorem o5 {m:Mt} {fz:Bool} {a:Fg.E} {r:V->List V->Hp->VK->Prop}
  (hs:∀ (F:Addr->Prop) (ρ:List Addr) (H:Hp) (M:MH) (n:Nat) (xs:List D) (v:V) (Q:VK) (X:XK),SR B F ρ M H->M[n]? = some (.lst xs)->RD B F ρ H (.ref n) v->Post B (gW m fz M (.ref n) []) F ρ H Q X->r v [] H Q)
  (h:T B Φ E (.dI m fz a .nil) σ H Q):A9 B.K "list" r (T B Φ E a) σ H Q:=by
 obtain ⟨σD,M,F,ρ,S,r,h⟩:=h
 simp only [ev] at h
 refine T.one S r rfl h fun x M1 F1 ρ1 H1 v e1 S1 r1 rx h1=>?_
 split at h1
 ·rename_i ho
  obtain ⟨n,xs,rfl,hM,ty⟩:=yj S1 rx ho
  simp only [cZ,R.aa] at h1
  exact ⟨ty,hs _ _ _ _ n xs v _ _ S1 hM rx h1⟩
 ·exact h1.elim
theorem Bp {fz:Bool} {a:Fg.E} (h:T B Φ E (.dI .pop fz a .nil) σ H Q):A9 B.K "list" FU (T B Φ E a) σ H Q:=o5 (fun _ _ _ _ _ _ _ _ _ S hx rx h=>BY S hx rx h) h
theorem oZ {fz:Bool} {a:Fg.E} (h:T B Φ E (.dI .reverse fz a .nil) σ H Q):A9 B.K "list" kC (T B Φ E a) σ H Q:=o5 (fun _ _ _ _ _ _ _ _ _ S hx rx h=>pF S hx rx h) h
end
end Fg
end
section
namespace Fg
open PySem PySem.Spec L2
section
variable {B:Bd} {Φ:bz} {E:Gx} {F F' F0 F1:Addr->Prop} {ρ ρ' ρ0 ρ1:List Addr} {H H' H0 H1:Hp} {M M' M0:MH} {σD:Sg} {σ:L2.St} {Q:VK} {Dn:Ends}
theorem nW {f:Str}:∀ {fs:List (Str×D)} {fm:List (Str×V)},fm.map (·.1)=fs.map (·.1)->aj B F ρ H (fs.map (·.2)) (fm.map (·.2)) ->
  (∀ d,fs.lookup f=some d->∃ v,fm.lookup f=some v/\RD B F ρ H d v)/\(fs.lookup f=none->fm.lookup f=none)
 | [],fm,h1,h2=>by
  have:fm=[]:=by cases fm with | nil=>rfl | cons _ _=>simp at h1
  subst this
  exact ⟨fun d h=>by simp at h,fun _=>rfl⟩
 | (g, d')::fs, fm, h1, h2=>by
  cases fm with
  | nil=>simp at h1
  | cons p fm =>
   obtain ⟨pk,pv⟩:=p
   simp only [List.map_cons,List.cons.injEq] at h1
   simp only [List.map_cons,aj] at h2
   obtain ⟨v,ws,e,r1,r2⟩:=h2
   cases e
   obtain ⟨e1,e2⟩:=h1
   subst e1
   have ih:=nW (f:=f) e2 r2
   by_cases hk:f=pk
   ·subst hk
    simp only [List.lookup,beq_self_eq_true]
    exact ⟨fun d h=>by cases h;exact ⟨_,rfl,r1⟩,fun h=>by cases h⟩
   ·have hb:(f == pk)=false:=beq_eq_false_iff_ne.mpr hk
    simp only [List.lookup,hb]
    exact ih
theorem t6 {f:Str} {d:D} {v:V} (r:RD B F ρ H d v):∀ {fs:List (Str×D)} {fm:List (Str×V)},fm.map (·.1)=fs.map (·.1)->aj B F ρ H (fs.map (·.2)) (fm.map (·.2)) ->
  (dH f v fm).map (·.1)=(eL f d fs).map (·.1)/\aj B F ρ H ((eL f d fs).map (·.2)) ((dH f v fm).map (·.2))
 | [],fm,h1,h2=>by
  have:fm=[]:=by cases fm with | nil=>rfl | cons _ _=>simp at h1
  subst this
  exact ⟨rfl,aj.cons r aj.nil⟩
 | (g, d')::fs, fm, h1, h2=>by
  cases fm with
  | nil=>simp at h1
  | cons p fm =>
   obtain ⟨pk,pv⟩:=p
   simp only [List.map_cons,List.cons.injEq] at h1
   simp only [List.map_cons,aj] at h2
   obtain ⟨w,ws,e,r1,r2⟩:=h2
   cases e
   obtain ⟨e1,e2⟩:=h1
   subst e1
   obtain ⟨i1,i2⟩:=t6 (f:=f) r e2 r2
   by_cases hk:pk=f
   ·simp only [dH,eL,if_pos hk,List.map_cons]
    exact ⟨by rw [e2],aj.cons r r2⟩
   ·simp only [dH,eL,if_neg hk,List.map_cons]
    exact ⟨by rw [i1],aj.cons r1 i2⟩
theorem BB {K:W.Frag} {a:Fg.E} {f:Str} (hC:∀ c C,B.cls c=some C->wU K C/\dU K C f) (h:T B Φ E (.fld a f) σ H Q):JP K (T B Φ E a) f σ H Q:=by
 obtain ⟨σD,M,F,ρ,S,r,h⟩:=h
 simp only [ev] at h
 refine T.one S r rfl h fun x M1 F1 ρ1 H1 v e1 S1 r1 rx h1=>?_
 split at h1
 ·rename_i n
  split at h1
  ·rename_i c fs hM
   split at h1
   ·rename_i d hd
    simp only [RD] at rx
    obtain ⟨b,hb,rfl⟩:=rx
    obtain ⟨C,dx,fm,hc,hH,hk,hr⟩:=S1.obj n b _ hb hM
    obtain ⟨w,hw,rw⟩:=(nW hk hr).1 d hd
    exact ⟨b,C,dx,fm,w,rfl,hH,(hC c C hc).1,(hC c C hc).2,hw,ah.run h1 S1 rw⟩
   ·exact h1.elim
  ·exact h1.elim
 ·exact h1.elim
theorem xU {K:W.Frag} {a e:Fg.E} {f:Str} (hC:∀ c C,B.cls c=some C->wU K C/\dU K C f) (h:TC B Φ E (.eG a f e) Dn σ H):J0 K (T B Φ E a) (T B Φ E e) f Dn σ H:=by
 obtain ⟨σD,M,F,ρ,S,r,h⟩:=h
 simp only [ex] at h
 refine TC.one S r h fun x M1 F1 ρ1 H1 v e1 S1 r1 rx h1=>?_
 refine TC.one S1 r1 h1 fun y M2 F2 ρ2 H2 w e2 S2 r2 ry h2=>?_
 have BG:=RD.mono e2 _ _ rx
 split at h2
 ·rename_i n
  split at h2
  ·rename_i c fs hM
   split at h2
   ·rename_i hl
    simp only [RD] at ry
    obtain ⟨b,hb,rfl⟩:=ry
    obtain ⟨C,dx,fm,hc,hH,hk,hr⟩:=S2.obj n b _ hb hM
    have hlen:fm.length=fs.length:=by have:=congrArg List.length hk;simpa using this
    obtain ⟨p1,p2⟩:=t6 (f:=f) BG hk hr
    obtain ⟨S',e⟩:=S2.st (o:=.ins C dx (dH f v fm)) (u:=.ins c (eL f x fs)) hb (fun _ _ q=>by rw [hH] at q;cases q) ⟨C,dx,_,hc,ay,p1,aj.bx (Ext0.at_ S2 hb) _ _ p2⟩
    exact ⟨b,C,dx,fm,rfl,hH,(hC c C hc).1,(hC c C hc).2,by rw [hlen];exact of_decide_eq_true hl,h2 F2 ρ2 _ e S' σ (r2.mono e)⟩
   ·exact h2.elim
  ·exact h2.elim
 ·exact h2.elim
noncomputable def qS (C:Addr) (m:Str) (sp:Sp) (Ex:XS) (ta:TE) (t:TA):TE:=fun σ H Q=>ta σ H fun x H1=>∃ a dx fs,x=.ref a/\H1 a=some (.ins C dx fs)/\fs.lookup m=none /\
 t σ H1 fun vs H2=>sp (x::vs) H2 Q fun cv y H'=>Ex cv y σ H'
noncomputable def qT (C:Addr) (sp:Sp) (Ex:XS) (t:TA):TE:=fun σ H Q=>t σ H fun vs H1=>∀ x dx,H1 x=none->H1 dx=none->dx≠x ->
 sp (.ref x::vs) (upd (upd H1 dx (.own x)) x (.ins C dx [])) (fun v H2=>v=.ak/\Q (.ref x) H2) fun cv y H'=>Ex cv y σ H'
theorem tL {c m n:Nat} {nm:Str} {a:Fg.E} {es:Es} {C:Addr} (hC:B.cls c=some C) (hn:∀ {σ:Sg} {M:MH} {ds:List D} {M':MH},cZ Φ es σ M=.ok ds M'->ds.length+1=n) (h:T B Φ E (.c9 c m nm a es) σ H Q) :
  qS C nm (AM B Φ m n) E.e (T B Φ E a) (TL B Φ E es) σ H Q:=by
 obtain ⟨σD,M,F,ρ,S,r,h⟩:=h
 simp only [ev] at h
 refine T.one S r rfl h fun x M1 F1 ρ1 H1 v e1 S1 r1 rx h1=>?_
 split at h1
 ·rename_i i
  split at h1
  ·rename_i c' fs hM
   split at h1
   ·rename_i hq
    simp only [Bool.and_eq_true,decide_eq_true_eq,Option.isNone_iff_eq_none] at hq
    obtain ⟨rfl,hno⟩:=hq
    have rx0:=rx
    simp only [RD] at rx
    obtain ⟨b,hb,rfl⟩:=rx
    obtain ⟨C',dx,fm,hc,hH,hk,hr⟩:=S1.obj i b _ hb hM
    rw [hC] at hc;cases hc
    refine ⟨b,dx,fm,rfl,hH,(nW hk hr).2 hno,σD,M1,F1,ρ1,S1,r1,?_⟩
    cases hx:cZ Φ es σD M1 with
    | exc c M2=>rw [hx] at h1;exact h1
    | bad=>rw [hx] at h1;exact h1
    | ok ds M2 =>
     rw [hx] at h1
     simp only [R.aa] at h1
     intro F2 ρ2 H2 vs e2 S2 q2
     exact ⟨by rw [List.length_cons,<- aj.length q2];exact hn hx,.ref i::ds,M2,F2,ρ2,S2,aj.cons (RD.mono e2 _ _ rx0) q2,ah.weak e2 h1⟩
   ·exact h1.elim
  ·exact h1.elim
 ·exact h1.elim
noncomputable def spI (B:Bd) (Φ:bz) (f n:Nat):Sp:=fun vs H Q E=>vs.length=n/\∃ ds M F ρ,SR B F ρ M H/\aj B F ρ H ds vs/\Post B (Φ.ini f ds M) F ρ H Q E
theorem SR.own (S:SR B F ρ M H) {p:Addr} (h:H p=none) (o:HO):SR B F ρ M (upd H p o)/\Ext F ρ H F ρ (upd H p o):=by
 obtain ⟨np,nf⟩:=S.new h
 exact ⟨S.side np nf o,⟨⟨S.sep,fun a q=>q,fun a q _=>ao (by rintro rfl;exact q h),List.prefix_refl _,fun a q=>.inl q,fun a q=>.inl q⟩,fun b w u q=>by rw [ao (by rintro rfl;rw [h] at q;cases q)];exact q⟩⟩
theorem tM {c i n:Nat} {es:Es} {C:Addr} (hC:B.cls c=some C) (hn:∀ {σ:Sg} {M:MH} {ds:List D} {M':MH},cZ Φ es σ M=.ok ds M'->ds.length+1=n) (h:T B Φ E (.new c i es) σ H Q) :
  qT C (spI B Φ i n) E.e (TL B Φ E es) σ H Q:=by
 obtain ⟨σD,M,F,ρ,S,r,h⟩:=h
 simp only [ev] at h
 refine ⟨σD,M,F,ρ,S,r,?_⟩
 cases hx:cZ Φ es σD M with
 | exc c M1=>rw [hx] at h;exact h
 | bad=>rw [hx] at h;exact h
 | ok ds M1 =>
  rw [hx] at h
  simp only [R.aa] at h
  intro F1 ρ1 H1 vs e1 S1 q1 x dx hx0 hdx hne
  obtain ⟨S2,e2⟩:=S1.own hdx (.own x)
  have hx2:upd H1 dx (.own x) x=none:=by rw [ao (Ne.symm hne)];exact hx0
  obtain ⟨S3,e3⟩:=S2.lv (o:=.ins C dx []) (u:=.ins c []) hx2 ⟨C,dx,[],hC,ay,rfl,aj.nil⟩
  have at_:(ρ1++[x])[M1.length]? = some x:=by rw [<- S1.len,List.getElem?_append_right (Nat.le_refl _),Nat.sub_self];rfl
  have e23:=e2.trans e3
  refine ⟨by rw [List.length_cons,<- aj.length q1];exact hn hx,.ref M1.length::ds,M1++[.ins c []],F1,ρ1++[x],S3,aj.cons (by simp only [RD];exact ⟨x,at_,rfl⟩) (aj.mono e23 _ _ q1),?_⟩
  refine ah.imp (ah.bind (rel:=RD B) (ah.weak (e1.trans e23) h)) fun v H' ⟨d,M',F',ρ',ext,S',rd,h2⟩=>?_
  split at h2
  ·simp only [RD] at rd
   exact ⟨rd,ah.run h2 S' (by simp only [RD];exact ⟨x,ext.at at_,rfl⟩)⟩
  ·exact h2.elim
theorem o4 {c i:Nat} {es:Es} (hb:∀ ds M,Φ.ini i ds M=.bad) (h:T B Φ E (.new c i es) σ H Q):TL B Φ E es σ H fun _ _=>False:=by
 obtain ⟨σD,M,F,ρ,S,r,h⟩:=h
 simp only [ev] at h
 refine ⟨σD,M,F,ρ,S,r,?_⟩
 cases hx:cZ Φ es σD M with
 | exc c M1=>rw [hx] at h;exact h
 | bad=>rw [hx] at h;exact h
 | ok ds M1 =>
  rw [hx] at h
  simp only [R.aa,hb,R.cu] at h
  exact h.elim
theorem Bt {a b:Fg.E} (h:T B Φ E (.mx true a b) σ H Q):Fc (fun xs H Q=>∃ i j,xs=[.int i,.int j]/\Q (.int (if j > i then j else i)) H) (bQ (T B Φ E a) (bQ (T B Φ E b) iy)) σ H Q:=by
 obtain ⟨σD,M,F,ρ,S,r,h⟩:=h
 simp only [ev] at h
 refine T.two S r rfl h fun x y M2 F2 ρ2 H2 v w S2 _ rx ry h2=>?_
 split at h2
 ·rename_i i j
  simp only [RD] at rx ry
  subst rx ry
  exact ⟨i,j,rfl,ah.run h2 S2 (by simp only [RD,if_true])⟩
 ·exact h2.elim
theorem Bs {a b:Fg.E} (h:T B Φ E (.mx false a b) σ H Q):Fc (fun xs H Q=>∃ i j,xs=[.int i,.int j]/\Q (.int (if j<i then j else i)) H) (bQ (T B Φ E a) (bQ (T B Φ E b) iy)) σ H Q:=by
 obtain ⟨σD,M,F,ρ,S,r,h⟩:=h
 simp only [ev] at h
 refine T.two S r rfl h fun x y M2 F2 ρ2 H2 v w S2 _ rx ry h2=>?_
 split at h2
 ·rename_i i j
  simp only [RD] at rx ry
  subst rx ry
  exact ⟨i,j,rfl,ah.run h2 S2 (by simp only [RD,Bool.false_eq_true,if_false])⟩
 ·exact h2.elim
end
section
variable {X:Cx} {Ex:XS} {k:Nat} {f C:Addr} {fd:FuncData} {ps:List Str} {sp:Sp} {x m:Str} {p pos apos:Pos} {e o:Expr} {es:List Expr} {ta:TE} {t:TA}
theorem yz {pl:Sem Bool} (he:PE X o ta) (c:wU X.K C) (hm:Meth X.K C m f) (F:cK X.prog X.w X.K X.mg X.base (iZ X.prog X.w) k f fd ps sp) (hr:cy k X.A) (hb:Binds X.K fd ps []) (hx:∀ e s,jL X Ex e s->X.xe e s) (ha:PA X (e::es) t)
  (hst:starEach (e::es) X.env=(false,eval e X.env)::starEach es X.env) (hpl:(backTo pos (starEach es X.env)).any (·.1)=false)
  (ht:eval (.Call (.Attribute o m apos) (e::es) [] pos) X.env=(do
   let ov <- eval o X.env
   standAt apos.atName
   let (f,first) <- holding [ov] (getMethod ov m pl)
   callWith pos f first (backTo pos (starEach (e::es) X.env)) (backToKw pos (keywordEach [] X.env)))) :
  PE X (.Call (.Attribute o m apos) (e::es) [] pos) (qS C m sp Ex ta t):=by
 intro pins s σ H Q I h
 refine PySem.W.methodCall_KW (pl:=pl) (aU (he pins s σ H _ I h) fun u s1 ⟨x,H1,I1,rx,a,dx,fs,ex,ea,l,q⟩=>?_) ht
 subst ex
 obtain rfl:u=Value.ref a:=rx
 refine kT I1 ea c hm l ?_
 refine PySem.W.callWith_K (first:=[.ref a]) (h₀:=X.base) I.ok.mod.Ej hm.kp (aU (ha pos pins s1 σ H1 _ I1 q) fun us s2 ⟨vs,H2,I2,r,q2⟩=>⟨I2.iK,?_⟩) hst hpl
 exact BI (us:=.ref a::us) (vs:=.ref a::vs) F hr hb hx I2 (.cons rfl r) q2
theorem vQ {pl:Sem Bool} (he:PE X o ta) (c:wU X.K C) (hm:Meth X.K C m f) (F:cK X.prog X.w X.K X.mg X.base (iZ X.prog X.w) k f fd ps sp) (hr:cy k X.A) (hb:Binds X.K fd ps []) (hx:∀ e s,jL X Ex e s->X.xe e s)
  (ht:eval (.Call (.Attribute o m apos) [] [] pos) X.env=(do
   let ov <- eval o X.env
   standAt apos.atName
   let (f,first) <- holding [ov] (getMethod ov m pl)
   callWith pos f first (backTo pos (starEach [] X.env)) (backToKw pos (keywordEach [] X.env)))) :
  PE X (.Call (.Attribute o m apos) [] [] pos) (qS C m sp Ex ta iy):=by
 intro pins s σ H Q I h
 refine PySem.W.methodCall_KW (pl:=pl) (aU (he pins s σ H _ I h) fun u s1 ⟨x,H1,I1,rx,a,dx,fs,ex,ea,l,q⟩=>?_) ht
 subst ex
 obtain rfl:u=Value.ref a:=rx
 refine kT I1 ea c hm l ?_
 exact PySem.W.callWith_K0 (first:=[.ref a]) I1.iK hm.kp (BI (us:=[.ref a]) (vs:=[.ref a]) F hr hb hx I1 (.cons rfl .nil) q)
theorem l9 {pins:List (Addr×Obj)} {σ:L2.St} {H:Hp} {s:Shared} {Q:VK} {us:List Value} {vs:List V} (M:Mk X.K C f) (F:cK X.prog X.w X.K X.mg X.base (iZ X.prog X.w) k f fd ps sp) (hr:cy (k+1) X.A) (hb:Binds X.K fd ps [])
  (hx:∀ e s,jL X Ex e s->X.xe e s) (I:Inv X pins σ H s) (r:Vals vs us)
  (h:∀ x dx,H x=none->H dx=none->dx≠x->sp (.ref x::vs) (upd (upd H dx (.own x)) x (.ins C dx [])) (fun v H2=>v=.ak/\Q (.ref x) H2) fun cv y H'=>Ex cv y σ H') :
  wpAny (model X.prog X.w) X.A (call (.ref C) us) (EP X pins σ Q) X.xe s:=by
 have hq:=h (s.heap.objs.size+1) s.heap.objs.size (I.hok.fresh (Nat.le_succ _)) (I.hok.fresh (Nat.le_refl _)) (Nat.ne_of_lt (Nat.lt_succ_self _))
 have I2:=Inv.made (C:=C) I
 have r2:Vals (V.ref (s.heap.objs.size+1)::vs) (Value.ref (s.heap.objs.size+1)::us):=.cons rfl r
 have hl:((Value.ref (s.heap.objs.size+1)::us)++[]).length=ps.length:=by
  rw [List.append_nil,<- r2.length];exact F.len _ _ _ _ hq
 have bd:=hb _ (Value.ref (s.heap.objs.size+1)::us) I2.iK hl
 rw [List.append_nil] at bd
 refine wpAny_call (yV (f:=f) I.iK M.makes M.init (beq_iff_eq.mp M.fn) (codeAny_mono (F.run _ X.stack _ _ ⟨Value.ref (s.heap.objs.size+1)::us,[]⟩ (Value.ref (s.heap.objs.size+1)::us) _ _ _ (hr.make C us [])
  (I2.lO.make C us []) bd r2 hq) fun r s' hq'=>?_))
 match r,hq' with
 | .error e,hq'=>exact passes hx pins σ _ _ e s' I2 hq'
 | .ok (.ret u),hq' =>
  obtain ⟨v,H',I3,rv,ev,q3⟩:=I2.after hq'
  subst ev
  exact ⟨rv,⟨V.ref (s.heap.objs.size+1),H',I3,rfl,q3⟩⟩
 | .ok .next,hq'=>exact hq'.elim
 | .ok .brk,hq'=>exact hq'.elim
 | .ok .cont,hq'=>exact hq'.elim
theorem yD (M:Mk X.K C f) (F:cK X.prog X.w X.K X.mg X.base (iZ X.prog X.w) k f fd ps sp) (hr:cy (k+1) X.A) (hg:Gl X x) (hm:X.mg x=some (.ref C)) (hb:Binds X.K fd ps []) (hx:∀ e s,jL X Ex e s->X.xe e s)
  (ha:PA X (e::es) t) (hdb:(x == ("__debug__" : Str))=false) (he:starEach (e::es) X.env=(false, eval e X.env)::starEach es X.env) (hpl:(backTo pos (starEach es X.env)).any (·.1)=false) :
  PE X (.Call (.Name x p) (e::es) [] pos) (qT C sp Ex t):=by
 intro pins s σ H Q I h
 refine wpAny_Call_Name_kw (gj I hg hm ?_ hdb)
 refine PySem.W.callWith_K (h₀:=X.base) I.ok.mod.Ej M.kp (aU (ha pos pins s σ H _ I h) fun us s1 ⟨vs,H1,I1,r,q⟩=>⟨I1.iK,?_⟩) he hpl
 exact l9 M F hr hb hx I1 r q
theorem vR (M:Mk X.K C f) (F:cK X.prog X.w X.K X.mg X.base (iZ X.prog X.w) k f fd ps sp) (hr:cy (k+1) X.A) (hg:Gl X x) (hm:X.mg x=some (.ref C)) (hb:Binds X.K fd ps []) (hx:∀ e s, jL X Ex e s->X.xe e s) (hdb:(x == ("__debug__" : Str))=false) :
  PE X (.Call (.Name x p) [] [] pos) (qT C sp Ex iy):=by
 intro pins s σ H Q I h
 refine wpAny_Call_Name_kw (gj I hg hm ?_ hdb)
 exact PySem.W.callWith_K0 I.iK M.kp (l9 (us:=[]) M F hr hb hx I .nil h)
theorem yC {f:Addr} (M:Mk X.K C f) (hg:Gl X x) (hm:X.mg x=some (.ref C)) (ha:PA X (e::es) t) (hdb:(x == ("__debug__" : Str))=false) (he:starEach (e::es) X.env=(false, eval e X.env)::starEach es X.env) (hpl:(backTo pos (starEach es X.env)).any (·.1)=false) :
  PE X (.Call (.Name x p) (e::es) [] pos) (fun σ H _=>t σ H fun _ _=>False):=by
 intro pins s σ H Q I h
 refine wpAny_Call_Name_kw (gj I hg hm ?_ hdb)
 exact PySem.W.callWith_K (h₀:=X.base) I.ok.mod.Ej M.kp (aU (ha pos pins s σ H _ I h) fun us s1 ⟨vs,H1,I1,r,q⟩=>q.elim) he hpl
end
end Fg
end
section
namespace Fg
open PySem PySem.Spec L2
section
variable {B:Bd} {Φ:bz} {E:Gx} {F F' F0 F1:Addr->Prop} {ρ ρ' ρ0 ρ1:List Addr} {H H' H0 H1:Hp} {M M' M0:MH} {σD:Sg} {σ:L2.St} {Q:VK} {Dn:Ends}
end
end Fg
end
section
namespace Fg
open PySem PySem.Spec L2
section
variable {X:Cx} {B:Bd} {pins:List (Addr×Obj)} {σ:L2.St} {H H':Hp} {s:Shared}
noncomputable def DO (X:Cx):Addr->Prop:=fun a=>∀ o u,X.H₀ a≠some (.gk o u)
theorem dZ (I:Inv X pins σ H s) (h:AY (DO X) H H'):Inv X pins σ H' s:=by
 rcases h with rfl | ⟨a,o,kvs,th,ha,rfl⟩
 ·exact I
 have ne:∀ b,H b=none->b≠a:=fun b q z=>by subst z;rw [ha] at q;cases q
 refine ⟨I.ok,I.os,I.bare,⟨I.base.keep,I.base.slot,fun b ob e n hx=>?_,I.base.there,fun b xs e=>?_,fun b ob u e=>?_,fun b ps e=>?_⟩,I.loc,I.cell,?_,fun x c e=>?_,fun p hp=>?_,fun b u e=>?_,I.len⟩
 ·have:=I.base.free b ob e n hx
  rw [ao (ne b this)];exact this
 ·have:=I.base.tups b xs e
  rw [ao (by rintro rfl;rw [ha] at this;cases this)];exact this
 ·have:=I.base.gB b ob u e
  rw [ao (by rintro rfl;exact th ob u e)];exact this
 ·obtain ⟨more,q⟩:=I.base.iw b ps e
  exact ⟨more,by rw [ao (by rintro rfl;rw [ha] at q;cases q)];exact q⟩
 ·rw [ao (ne _ I.free)];exact I.free
 ·rw [ao (ne _ (I.cg x c e))];exact I.cg x c e
 ·obtain ⟨h1,h2,h3⟩:=I.pin p hp
  exact ⟨h1,by rw [ao (ne _ h2)];exact h2,h3⟩
 ·by_cases hb:b=a
  ·subst hb
   rw [ay] at e;cases e
   exact (I.hok b _ ha).2
  ·rw [ao hb] at e
   exact (I.hok b u e).stay (fun _ _ _ q=>q) (fun c q=>by rw [ao (by rintro rfl;rw [ha] at q;cases q)];exact q) fun c xs q=>by rw [ao (by rintro rfl;rw [ha] at q;cases q)];exact q
theorem B4 {e:Expr} {t:TE} (h:PE X e t):PE X e (fun σ H Q=>t σ H fun v H'=>∃ sX,AY (DO X) H' sX/\Q v sX):=by
 intro pins s σ H Q I q
 refine aU (h pins s σ H _ I q) fun u s' ⟨v,H',I',r,sX,t',q'⟩=>⟨v,sX,dZ I' t',r,q'⟩
theorem ua {st:Stmt} {t:TS} (h:PS X st t):PS X st (fun D σ H=>t (thE (DO X) D) σ H):=by
 intro pins s σ H D I q
 refine aU (h pins s σ H _ I q) fun f s' q'=>?_
 cases f with
 | next=>obtain ⟨σ',H',I',sX,t',q'⟩:=q';exact ⟨σ',sX,dZ I' t',q'⟩
 | brk=>obtain ⟨σ',H',I',sX,t',q'⟩:=q';exact ⟨σ',sX,dZ I' t',q'⟩
 | cont=>obtain ⟨σ',H',I',sX,t',q'⟩:=q';exact ⟨σ',sX,dZ I' t',q'⟩
 | ret u=>obtain ⟨v,σ',H',I',r,sX,t',q'⟩:=q';exact ⟨v,σ',sX,dZ I' t',r,q'⟩
theorem CA {k:Key} {u:Value} (h:kN k u=true):RelV (kV k) u:=by
 rcases aN h with ⟨i,t,rfl,rfl⟩ | ⟨x,t,rfl,rfl⟩
 ·exact ⟨t,rfl⟩
 ·exact ⟨t,rfl⟩
theorem G1 {kvs:List (Key×V)} {vs:List (Key×Value)} (h:KV kvs vs) {i:Nat} {kv:Key×V} (e:kvs[i]? = some kv):∃ w,vs[i]? = some (kv.1,w):=by
 induction h generalizing i with
 | nil=>simp at e
 | @cons p q ps qs hpq _ ih =>
  cases i with
  | zero =>
   simp only [List.getElem?_cons_zero,Option.some.injEq] at e ⊢
   subst e
   exact ⟨q.2,by rw [hpq.1]⟩
  | succ i=>simpa using ih (by simpa using e)
noncomputable def epO (o:Obj) (n:Nat):Prop:=∃ es,o.data=.dict es n
theorem vA {P:Program} {w:World} {K:PySem.W.Frag} {tg:Expr} (a it:Addr) (o:Obj) (kvs:List (Key×V)) (ep:Nat) (he:epO o ep):Turn P w K tg (MB a o kvs) [it] it (fun i h=>h.IsKeyIter it a i kvs.length ep) where
 mem:=by simp
 obj:=fun i h st b hb=>by
  have e:b=it:=by simpa using hb
  subst e
  obtain ⟨o,e,c,d⟩:=st
  exact ⟨o,e,fun v z=>by rw [d] at z;cases z⟩
 keep:=fun i h h' st k=>st.at fun o e=>k it (by simp) o e
 item:=by
  intro X hP hw hK hc i pins s σ H E I hf st hg
  subst hP hw hK
  obtain ⟨hH,hi⟩:=hg
  obtain ⟨ho,z,hm,vs,rel,dd⟩:=(show bf X.prog X.w H s.heap a (.gk o (.dK kvs)) from I.hok a _ hH)
  obtain ⟨o',es,LF,h1,h2,h3,h4⟩:=id dd
  rw [ho] at h1;cases h1
  obtain ⟨es',hd'⟩:=he
  rw [hd'] at h3;cases h3
  have dat:s.heap.DictAt (aG X.prog X.w) a vs ep:=⟨o,es,ho,h2,hd',h4⟩
  have hx:kvs[i]? = some kvs[i]:=List.getElem?_eq_getElem hi
  obtain ⟨wv,hv⟩:=G1 rel hx
  obtain ⟨f0,f1,f2,f3,f4,f5⟩:=hf it (by simp)
  have hl:kvs.length=vs.length:=rel.length
  rw [hl] at st
  refine wpAny_pyNext_dict_item st dat hv fun key h' hk st' sb=>?_
  have I1:Inv X pins σ H { s with heap:=h' }:=I.turned (t':=s.toks) (fun b o hb e=>(sb.2 b hb).trans e) f0 f1 f3 f4 f5
  obtain ⟨oi,e,c,d⟩:=id st'
  refine ⟨key,rfl,kQ (s:={ s with heap:=h' }) e c d (by decide) ⟨kV kvs[i].1,H,I1,CA hk,⟨rfl,kvs[i],hx,rfl⟩,by rw [hl];exact st',fun b hb=>(hf b hb).1⟩⟩
 done:=by
  intro X hP hw hK hc i pins s σ H E I hf st hg
  subst hP hw hK
  obtain ⟨hH,hi⟩:=hg
  obtain ⟨ho,z,hm,vs,rel,dd⟩:=(show bf X.prog X.w H s.heap a (.gk o (.dK kvs)) from I.hok a _ hH)
  obtain ⟨o',es,LF,h1,h2,h3,h4⟩:=id dd
  rw [ho] at h1;cases h1
  obtain ⟨es',hd'⟩:=he
  rw [hd'] at h3;cases h3
  have dat:s.heap.DictAt (aG X.prog X.w) a vs ep:=⟨o,es,ho,h2,hd',h4⟩
  have hl:kvs.length=vs.length:=rel.length
  rw [hl] at st
  obtain ⟨f0,f1,f2,f3,f4,f5⟩:=hf it (by simp)
  exact wpAny_pyNext_dict_end (I.ok.hd hc) st dat (List.getElem?_eq_none_iff.mpr (by omega)) fun h' eb=>⟨rfl,I.turned (t':=s.toks) (fun b o hb e=>eb b o hb e) f0 f1 f3 f4 f5⟩
 self:=fun _ _ _ _ _ st h=>wpAny_pyIter_keyiter st h
theorem uX {tg:Expr} {R:It->Hp->Prop} {a:Addr} {o:Obj} {kvs:List (Key×V)} {E:Value->Shared->Prop} (I:Inv X pins σ H s) (hH:H a=some (.gk o (.dK kvs))) (q:R (MB a o kvs) H):wpAny (model X.prog X.w) X.A (pyIter (.ref a)) (NR X pins σ tg R) E s:=by
 obtain ⟨ho,z,hm,vs,rel,dd⟩:=(show bf X.prog X.w H s.heap a (.gk o (.dK kvs)) from I.hok a _ hH)
 obtain ⟨o',es,ep,h1,h2,h3,h4⟩:=id dd
 rw [ho] at h1;cases h1
 have dat:s.heap.DictAt (aG X.prog X.w) a vs ep:=⟨o,es,ho,h2,h3,h4⟩
 have hl:kvs.length=vs.length:=rel.length
 refine wpAny_pyIter_dict hm dat ?_
 refine ⟨s.heap.objs.size,[s.heap.objs.size],_,_,H,rfl,I.kept (t':=s.toks) fun b o e=>Heap.get?_push_of_some _ e,vA a _ o kvs ep ⟨es,h3⟩,⟨_,Heap.get?_push_size _ rfl,rfl,by rw [hl];rfl⟩,fun b hb=>?_,q⟩
 have e:b=s.heap.objs.size:=by simpa using hb
 subst e
 exact I.p9 (Nat.le_refl _) (I.hok.fresh (Nat.le_refl _))
theorem Ge {tg l:Expr} {tl:TE} (hK:B.K=X.K) (hl:PE X l tl):PI X tg l (K9 B (DO X) tl):=by
 intro pins s σ H R I h
 refine aU (hl pins s σ H _ I h) fun v s1 ⟨x,H1,I1,r1,q1⟩=>?_
 rw [hK] at q1
 rcases q1 with ⟨a,e,⟨xs,hq⟩,q⟩ | ⟨a,e,⟨xs,hq⟩,q⟩ | ⟨a,kvs,e,hq,q⟩ | ⟨a,o,kvs,e,hq,q⟩
 ·subst e
  cases r1
  obtain ⟨its,rv,p,hz⟩:=I1.list hq
  refine wpAny_pyIter_list p.isList ?_
  refine ⟨s1.heap.objs.size,[s1.heap.objs.size],_,_,H1,rfl,I1.kept (t':=s1.toks) fun b o e=>Heap.get?_push_of_some _ e,vv a _,⟨_,Heap.get?_push_size _ rfl,rfl,rfl⟩,fun b hb=>?_,q⟩
  have e:b=s1.heap.objs.size:=by simpa using hb
  subst e
  exact I1.p9 (Nat.le_refl _) (I1.hok.fresh (Nat.le_refl _))
 ·subst e
  cases r1
  obtain ⟨its,rv,p,hz⟩:=I1.tuple hq
  refine wpAny_pyIter_tuple (show s1.heap.IsTuple a its.toArray from p) ?_
  refine ⟨s1.heap.objs.size,[s1.heap.objs.size],_,_,H1,rfl,I1.kept (t':=s1.toks) fun b o e=>Heap.get?_push_of_some _ e,qP a _,⟨_,Heap.get?_push_size _ rfl,rfl,rfl⟩,fun b hb=>?_,q⟩
  have e:b=s1.heap.objs.size:=by simpa using hb
  subst e
  exact I1.p9 (Nat.le_refl _) (I1.hok.fresh (Nat.le_refl _))
 ·subst e
  cases r1
  have ob:=(show bf X.prog X.w H1 s1.heap a (.dK kvs) from I1.hok a _ hq)
  obtain ⟨z,hm,vs,rel,dd⟩:=id ob
  obtain ⟨o,es,ep,h1,h2,h3,h4⟩:=id dd
  have th:DO X a:=fun w u hz=>by
   have:=I1.base.gB a w u hz
   rw [hq] at this;cases this
  have I2:Inv X pins σ (upd H1 a (.gk o (.dK kvs))) s1:=I1.write (x:=a) (e:=a) (t':=s1.toks) (h':=s1.heap) (by rw [hq];trivial) (.inl rfl) (fun b u _ e=>e) ⟨o,h1⟩ ⟨h1,ob⟩
  exact uX I2 ay (q o th)
 ·subst e
  cases r1
  exact uX I1 hq q
theorem BW {o i value:Expr} {to ti tv:TE} {pos pos':Pos} (hu:Rm X) (ho:PE X o to) (hi:PE X i ti) (hv:PE X value tv) (hs:swapsWith value (some (.Subscript o i pos')) pos.line X.env=pure false) :
  PS X (.Assign [.Subscript o i pos'] value pos) (DY to ti tv):=by
 intro pins s σ H D I h
 refine wpAny_Assign_Subscript (aU (hv pins s σ H _ I h) fun r s1 ⟨v,H1,I1,rv,q1⟩=>aU (ho pins s1 σ H1 _ I1 q1) fun u s2 ⟨x,H2,I2,rx,q2⟩=>aU (hi pins s2 σ H2 _ I2 q2) fun iv s3 ⟨y,H3,I3,ry,q3⟩=>?_) hs
 rcases q3 with q3 | ⟨a,H4,ex,g,q3⟩
 ·exact aU (set_list pins s3 σ H3 x y v u iv r _ I3 rx ry rv q3) fun _ s4 ⟨H4,I4,q4⟩=>⟨σ,H4,I4,q4⟩
 ·subst ex
  obtain rfl:u=Value.ref a:=rx
  exact wC (by unfold Rm at hu;omega) I3 g ry rv fun s4 I4=>⟨σ,H4,I4,q3⟩
end
end Fg
end
section
namespace Fg
open PySem PySem.Spec L2
noncomputable def TM (B:Bd) (Φ:bz) (E:Gx) (c:Es):L2.St->Hp->(Hp->Prop)->Prop:=fun σ H Q=>∃ (σD:Sg) (M:MH) (F:Addr->Prop) (ρ:List Addr),
 SR B F ρ M H/\RS B F ρ H σD σ/\ah (fun _ _ _ (_:Unit) (_:Unit)=>True) B (C0 Φ c σD M) F ρ H (fun _ H'=>Q H') (fun cv x H'=>E.e cv x σ H')
section
variable {B:Bd} {Φ:bz} {E:Gx} {F F' F0 F1:Addr->Prop} {ρ ρ' ρ0 ρ1:List Addr} {H H' H0 H1:Hp} {M M' M0:MH} {σD:Sg} {σ:L2.St} {Dn:Ends}
theorem TM.nil {Q:Hp->Prop} (h:TM B Φ E .nil σ H Q):Q H:=by
 obtain ⟨σD,M,F,ρ,S,r,h⟩:=h
 simp only [C0] at h
 exact ah.run (v:=()) h S True.intro
theorem TM.cons {e:Fg.E} {es:Es} {Q:Hp->Prop} (h:TM B Φ E (.cons e es) σ H Q):T B Φ E e σ H fun v H1=>((∃ x:Str,v=.str x/\x.length<=100000)\/∃ i:Int,v=.int i/\i.natAbs<18446744073709551616)/\TM B Φ E es σ H1 Q:=by
 obtain ⟨σD,M,F,ρ,S,r,h⟩:=h
 simp only [C0] at h
 refine ⟨σD,M,F,ρ,S,r,ah.imp (ah.bind (rel:=RD B) h) fun v H1 ⟨x,M1,F1,ρ1,e1,S1,rx,h1⟩=>?_⟩
 split at h1
 ·rename_i hs
  cases x with
  | str y =>
   simp only [RD] at rx
   simp only [bV,decide_eq_true_eq] at hs
   exact ⟨.inl ⟨y,rx,hs⟩,σD,M1,F1,ρ1,S1,r.mono e1,h1⟩
  | ak=>simp [bV] at hs
  | bl _=>simp [bV] at hs
  | int i =>
   simp only [RD] at rx
   simp only [bV,decide_eq_true_eq] at hs
   exact ⟨.inr ⟨i,rx,hs⟩,σD,M1,F1,ρ1,S1,r.mono e1,h1⟩
  | tup _=>simp [bV] at hs
  | lst _=>simp [bV] at hs
  | dct _ _=>simp [bV] at hs
  | ref _=>simp [bV] at hs
 ·exact h1.elim
end
inductive PJ (X:Cx) (B:Bd) (Φ:bz) (E:Gx):List Expr->Es->Prop
 | nil:PJ X B Φ E [] .nil
 | lit {y:Str} {j:Nat} {p:Pos} {r:List Expr} {es:Es}:y.length<=100000->PJ X B Φ E r es->PJ X B Φ E (.Constant (.str y) j p::r) es
 | fld {v:Expr} {p:Pos} {r:List Expr} {e:Fg.E} {es:Es}:PE X v (T B Φ E e)->PJ X B Φ E r es->PJ X B Φ E (.FormattedValue v (-1) none p::r) (.cons e es)
theorem mG {i:Int} (h:i.natAbs<18446744073709551616):i.natAbs.log2<1920:=by
 by_cases h0:i.natAbs=0
 ·rw [h0];decide
 ·exact Nat.lt_of_lt_of_le ((Nat.log2_lt h0).mpr (show i.natAbs<2 ^ 64 from h)) (by decide)
theorem wg {i:Int} (h:i.natAbs<18446744073709551616):(Str.ofString (toString i)).length<=100000:=by
 have e:=int_text_length_le (k:=1920) (by decide) (mG h)
 rw [ofString_length];omega
section
variable {X:Cx} {B:Bd} {Φ:bz} {E:Gx}
theorem PJ.run {ps:List Expr} {es:Es} (h:PJ X B Φ E ps es):∀ {pins:List (Addr×Obj)} {s:Shared} {σ:L2.St} {H:Hp} {Q:Hp->Prop} {out:Str},Inv X pins σ H s->out.length+100000*ps.length<=sizeLine->TM B Φ E es σ H Q ->
  wpAny (model X.prog X.w) X.A (joinParts out (evalEach ps X.env)) (EP X pins σ fun v H'=>∃ y,v=.str y/\Q H') X.xe s:=by
 induction h with
 | nil =>
  intro pins s σ H Q out I hl q
  refine PyProof.Rows.joinParts_nil ⟨.str out,H,I.tok _,⟨_,rfl⟩,out,rfl,q.nil⟩ (by simpa using hl)
 | lit hy _ ih =>
  rename_i y j p r es _
  intro pins s σ H Q out I hl q
  simp only [List.length_cons] at hl
  refine PyProof.Rows.joinParts_cons ?_
  refine aU (rL pins s σ H (fun v H'=>v=.str y/\H'=H) I ⟨rfl,rfl⟩) fun u s1 ⟨v,H1,I1,rv,e1,e2⟩=>?_
  subst e1 e2
  obtain ⟨t,rfl⟩:=rv
  have hlen:(out++y).length<=out.length+100000:=by rw [strLen_append];omega
  exact ⟨by omega,ih I1 (by omega) q⟩
 | fld hv _ ih =>
  intro pins s σ H Q out I hl q
  simp only [List.length_cons] at hl
  refine PyProof.Rows.joinParts_cons (PyProof.Rows.FormattedValue_plain ?_)
  refine aU (hv pins s σ H _ I q.cons) fun u s1 ⟨v,H1,I1,rv,e0,q1⟩=>?_
  rcases e0 with ⟨x,e1,e2⟩ | ⟨i,e1,e2⟩
  ·subst e1
   obtain ⟨t,rfl⟩:=rv
   refine PyProof.Rows.formatField_str (fun t' tk=>?_) (by omega)
   have hlen:(out++x).length<=out.length+100000:=by rw [strLen_append];omega
   exact ⟨by omega,ih (I1.tok tk) (by omega) q1⟩
  ·subst e1
   obtain ⟨t,rfl⟩:=rv
   refine PyProof.Rows.formatField_int_small (mG e2) ?_
   have hlen:(out++Str.ofString (toString i)).length<=out.length+100000:=by rw [strLen_append];have:=wg e2;omega
   exact ⟨by omega,ih (I1.tok _) (by omega) q1⟩
theorem Gj {ps:List Expr} {es:Es} {pos:Pos} (h:PJ X B Φ E ps es) (h2:2<=ps.length) (hl:ps.length<=100):PE X (.JoinedStr ps pos) (fun σ H Q=>TM B Φ E es σ H fun H'=>∀ y:Str,Q (.str y) H'):=by
 intro pins s σ H Q I q
 match ps,h2,h,hl with
 | v₁::v₂::rest,_,h,hl =>
  refine PyProof.Rows.JoinedStr_many ?_
  refine wpAny_mono (h.run (Q:=fun H'=>∀ y:Str,Q (.str y) H') I (by
   show 0+100000*(v₁::v₂::rest).length<=2 ^ 24
   omega) q) (fun u s1 ⟨v,H1,I1,rv,y,e,q1⟩=>⟨v,H1,I1,rv,by rw [e];exact q1 y⟩) fun _ _ z=>z
end
section
variable {B:Bd} {Φ:bz} {E:Gx} {F F' F0 F1:Addr->Prop} {ρ ρ' ρ0 ρ1:List Addr} {H H' H0 H1:Hp} {M M' M0:MH} {σD:Sg} {σ:L2.St} {Dn:Ends}
theorem l7 {c:Nat} {es:Es} {C:Addr} (hc:B.exc c (.ref C)) (h:TC B Φ E (.raise c es) Dn σ H):TM B Φ E es σ H fun H'=>E.e (.ref C) none σ H':=by
 obtain ⟨σD,M,F,ρ,S,r,h⟩:=h
 simp only [ex] at h
 refine ⟨σD,M,F,ρ,S,r,ah.imp (aO.use (rel:=fun _ _ _ (_:Unit) (_:Unit)=>True) r h) fun v H1 ⟨x,M1,F1,ρ1,e,S1,rx,h1⟩=>?_⟩
 exact aO.run h1 S1 σ _ none (r.mono e) hc
noncomputable def Jq (B:Bd) (Φ:bz) (E:Gx) (adr:Nat->Option Addr):Hs->Option (List (Addr×TS))
 | .nil=>some []
 | .cons [c] b hs=>match adr c,Jq B Φ E adr hs with
  | some C,some r=>some ((C,w6 B Φ E b)::r)
  | _,_=>none
 | .cons _ _ _=>none
theorem tP {adr:Nat->Option Addr} {mro:List Value} {c:Nat} (hsub:∀ d D,adr d=some D->mro.contains (.ref D)=Φ.sub c d):∀ {hs:Hs} {rs:List (Addr×TS)},Jq B Φ E adr hs=some rs->SR B F ρ M H->RS B F ρ H σD σ->aO B (AV Φ hs c σD M) F ρ H Dn E ->
  ∃ t,pick mro rs=some t/\t Dn σ H
 | .nil,rs,h,S,r,p=>by simp only [AV] at p;exact p.elim
 | .cons cs b hs,rs,h,S,r,p=>by
  unfold Jq at h
  split at h
  ·rename_i heq;cases heq
  ·rename_i c' b' hs' heq
   cases heq
   split at h
   ·rename_i C r' hC hr
    cases h
    simp only [AV,List.any_cons,List.any_nil,Bool.or_false] at p
    simp only [pick,hsub _ _ hC]
    split at p
    ·rename_i hq
     rw [if_pos hq]
     exact ⟨_,rfl,σD,M,F,ρ,S,r,p⟩
    ·rename_i hq
     rw [if_neg hq]
     exact tP hsub hr S r p
   ·cases h
  ·cases h
end
end Fg
end
section
namespace Fg
open PySem PySem.Spec L2
noncomputable def gE (l:Bool) (h:Heap) (it a:Addr) (k:Nat):Prop:=match l with | true=>h.IsListIter it a k | false=>h.IsTupleIter it a k
noncomputable def dW (l:Bool) (h:Heap) (a:Addr) (xs:Array Value):Prop:=match l with | true=>h.IsList a xs | false=>h.IsTuple a xs
theorem gE.at {l:Bool} {h h':Heap} {it a:Addr} {k:Nat} (x:gE l h it a k) (e:∀ o,h.get? it=some o->h'.get? it=some o):gE l h' it a k:=by
 cases l <;> (obtain ⟨o,h1,h2⟩:=x;exact ⟨o,e o h1,h2⟩)
theorem dW.at {l:Bool} {h h':Heap} {a:Addr} {xs:Array Value} (x:dW l h a xs) (e:∀ o,h.get? a=some o->h'.get? a=some o):dW l h' a xs:=by
 cases l <;> (obtain ⟨o,h1,h2⟩:=x;exact ⟨o,e o h1,h2⟩)
section
variable {prog:Program} {w:World} {A:Around} {E:Value->Shared->Prop} {s:Shared}
theorem xy {it t:Addr} {i:Nat} {xs:Array Value} {v:Value} {Q:Value->Shared->Prop} (v9:s.heap.IsTupleIter it t i) (tp:s.heap.IsTuple t xs) (hv:xs[i]? = some v)
  (k:∀ h',h'.IsTupleIter it t (i+1)->Heap.SameBut it s.heap h'->Q v { s with heap:=h' }):wpAny (model prog w) A (Builtin.SmallTypes.nextOf (.ref it)) Q E s:=by
 obtain ⟨oi,gi,ci,di⟩:=id v9
 obtain ⟨ot,gt,_,nt,dt⟩:=tp
 unfold Builtin.SmallTypes.nextOf;refine wpAny_bind (wpAny_callSpecial?_slot (name:=Str.ofString "__next__") v9.typeIs F.slot_tuple_iterator_next (wpAny_call_entry F.slot_tuple_iterator_next v9.typeIs F.entry_tuple_iterator_next ?_ (F.args_tuple_iterator_next_1 _)))
 show wpAny _ _ (field (.ref it) 0 >>= _) _ _ s;refine wpAny_bind (wpAny_field gi di (x:=.ref t) rfl ?_)
 show wpAny _ _ (if (Value.ref t == Value.none)=true then _ else _) _ _ s;rw [if_neg (show ¬ ((Value.ref t == Value.none)=true) from Bool.false_ne_true)]
 show wpAny _ _ (field (.ref it) 1 >>= _) _ _ s;refine wpAny_bind (wpAny_field gi di (x:=.int i 0) rfl ?_)
 show wpAny _ _ (seqItems? (.ref t) >>= _) _ _ s;refine wpAny_bind (wpAny_seqItems gt dt ?_)
 simp only [Int.toNat_natCast,hv];refine wpAny_bind (wpAny_setField gi di (by simp) (wpAny_pure ⟨v,rfl,wpAny_pure (k _ ?_ (Heap.SameBut.update ..))⟩))
 exact ⟨_,Heap.get?_update_self _ gi (Obj.isFreed_of_fields (Obj.data_mapFields di _)),(Obj.cls_mapFields ..).trans ci,by rw [Obj.data_mapFields di];simp [rawInt]⟩
theorem xx {it t:Addr} {i:Nat} {xs:Array Value} {Q:Value->Shared->Prop} (hh:A.handled=none) (v9:s.heap.IsTupleIter it t i) (tp:s.heap.IsTuple t xs) (hv:xs[i]? = none)
  (k:∀ h' e, Heap.ExtBut it s.heap h'->(∃ o, h'.get? e=some o/\o.cls=.type "StopIteration")->E (.ref e) { s with heap:=h' }):wpAny (model prog w) A (Builtin.SmallTypes.nextOf (.ref it)) Q E s:=by
 obtain ⟨oi,gi,ci,di⟩:=id v9
 obtain ⟨ot,gt,_,nt,dt⟩:=tp
 unfold Builtin.SmallTypes.nextOf;refine wpAny_bind (wpAny_callSpecial?_slot (name:=Str.ofString "__next__") v9.typeIs F.slot_tuple_iterator_next (wpAny_call_entry F.slot_tuple_iterator_next v9.typeIs F.entry_tuple_iterator_next ?_ (F.args_tuple_iterator_next_1 _)))
 show wpAny _ _ (field (.ref it) 0 >>= _) _ _ s;refine wpAny_bind (wpAny_field gi di (x:=.ref t) rfl ?_)
 show wpAny _ _ (if (Value.ref t == Value.none)=true then _ else _) _ _ s;rw [if_neg (show ¬ ((Value.ref t == Value.none)=true) from Bool.false_ne_true)]
 show wpAny _ _ (field (.ref it) 1 >>= _) _ _ s;refine wpAny_bind (wpAny_field gi di (x:=.int i 0) rfl ?_)
 show wpAny _ _ (seqItems? (.ref t) >>= _) _ _ s;refine wpAny_bind (wpAny_seqItems gt dt ?_)
 simp only [Int.toNat_natCast,hv];refine wpAny_bind (wpAny_rule (wpAny_bind (wpAny_setField gi di (by simp) ?_)))
 show wpAny _ _ (newExc (.type "StopIteration") [] >>= _) _ _ _;refine wpAny_bind ?_
 simp only [newExc,newTuple];refine wpAny_bind (wpAny_newObj_type ?_ (by size_fits))
 refine wpAny_bind (m:=firstArgMember _ _) (wpAny_of_eq (a:=Value.none) (by first | rfl | (simp only [firstArgMember];rfl)) ?_);refine wpAny_newObj_type ?_ (by size_fits)
 simp only [raiseNew];refine wpAny_bind (wpAny_handled ?_)
 first | rw [show A.in1.handled=none from hh] | rw [hh]
 refine wpAny_bind (wpAny_pure (wpAny_throw ?_));exact k _ _ (((Heap.SameBut.update ..).extBut.push _).push _) ⟨_,Heap.get?_push_size _ rfl,rfl⟩
theorem gg {l:Bool} {it a:Addr} {i:Nat} {xs:Array Value} {v:Value} {Q:Value->Shared->Prop} (v9:gE l s.heap it a i) (sq:dW l s.heap a xs) (hv:xs[i]? = some v)
  (k:∀ h',gE l h' it a (i+1)->Heap.SameBut it s.heap h'->Q v { s with heap:=h' }):wpAny (model prog w) A (Builtin.SmallTypes.nextOf (.ref it)) Q E s:=by
 cases l with
 | true=>exact wpAny_nextOf_list_item v9 sq hv k
 | false=>exact xy v9 sq hv k
theorem jW {l:Bool} {it a:Addr} {i:Nat} {xs:Array Value} {Q:Value->Shared->Prop} (hh:A.handled=none) (v9:gE l s.heap it a i) (sq:dW l s.heap a xs) (hv:xs[i]? = none)
  (k:∀ h' e, Heap.ExtBut it s.heap h'->(∃ o, h'.get? e=some o/\o.cls=.type "StopIteration")->E (.ref e) { s with heap:=h' }):wpAny (model prog w) A (Builtin.SmallTypes.nextOf (.ref it)) Q E s:=by
 cases l with
 | true=>exact wpAny_nextOf_list_end hh v9 sq hv k
 | false=>exact xx hh v9 sq hv k
structure Zp (l m:Bool) (h:Heap) (z TI TO i j a b:Addr) (n:Nat) (xs ys:Array Value) (f:Value):Prop where
 z:IsZip h z TI TO f
 ti:IsPair h TI (.ref i) (.ref j)
 to:∃ u v,IsPair h TO u v
 i1:gE l h i a n
 i2:gE m h j b n
 s1:dW l h a xs
 s2:dW m h b ys
theorem xh {l m:Bool} {z TI TO i j a b:Addr} {n:Nat} {xs ys:Array Value} {x y:Value} {Q:Value->Shared->Prop} (D:ZipApart z TI TO i j a b) (Z:Zp l m s.heap z TI TO i j a b n xs ys .none) (hx:xs[n]? = some x) (hy:ys[n]? = some y)
  (k:∀ h',Zp l m h' z TI TO i j a b (n+1) xs ys (rawInt s.heap.objs.size)->IsPair h' s.heap.objs.size x y->h'.objs.size=s.heap.objs.size+1->(∀ c o,c≠z->c≠TO->c≠i->c≠j->s.heap.get? c=some o->h'.get? c=some o)->Q (.ref s.heap.objs.size) { s with heap:=h' }) :
  wpAny (model prog w) A (Builtin.«zip.__next__» ⟨[.ref z], []⟩) (fun fin s'=>∃ v, fin=.done (.ret v)/\Q v s') E s:=by
 obtain ⟨gz,gi,⟨u,v,go⟩,t1,t2,q1,q2⟩:=Z
 show wpAny _ _ (field (.ref z) 2 >>= _) _ _ _;refine wpAny_bind (wpAny_field gz rfl (x:=.bool false) rfl ?_)
 show wpAny _ _ (field (.ref z) 3 >>= _) _ _ _;refine wpAny_bind (wpAny_field gz rfl (x:=.ref TI) rfl (wpAny_bind (wpAny_seqItems gi rfl ?_)))
 show wpAny _ _ (Builtin.SmallTypes.ownedTupleIsFree (.ref z) >>= _) _ _ _;refine wpAny_bind ?_
 unfold Builtin.SmallTypes.ownedTupleIsFree;refine wpAny_bind (wpAny_field gz rfl (x:=.none) rfl (wpAny_pure ?_))
 simp only [if_true];refine wpAny_bind (wpAny_rule (wpAny_bind (wpAny_field gz rfl (x:=.ref TO) rfl (wpAny_bind (wpAny_setField_rec gz (by simp) fun h1 z1 b1=>?_)))))
 replace z1:IsZip h1 z TI TO .ellipsis:=z1
 refine wpAny_bind ?_;simp only [List.zipIdx_cons,List.zipIdx_nil,List.forIn_cons,List.forIn_nil]
 refine wpAny_bind (wpAny_bind (wpAny_onRaise ?_));show wpAny _ _ (Builtin.SmallTypes.nextOf (.ref i) >>= _) _ _ _
 refine wpAny_bind (gg (t1.at fun o e=>b1.extBut _ _ D.i1z e) (q1.at fun o e=>b1.extBut _ _ D.l1z e) hx fun h2 t1' b2=>wpAny_pure ?_)
 have go2:IsPair h2 TO u v:=b2.extBut _ _ D.TOi1 (b1.extBut _ _ D.TOz go)
 refine wpAny_bind (wpAny_seqItems go2 rfl (wpAny_bind (wpAny_updateSeq_pair go2 fun h3 Nt b3=>wpAny_bind (wpAny_letGo (wpAny_pure ?_)))))
 replace Nt:IsPair h3 TO x v:=Nt
 refine wpAny_bind (wpAny_bind (wpAny_onRaise ?_));show wpAny _ _ (Builtin.SmallTypes.nextOf (.ref j) >>= _) _ _ _
 refine wpAny_bind (gg (t2.at fun o e=>b3.extBut _ _ D.TOi2.symm (b2.extBut _ _ D.i12.symm (b1.extBut _ _ D.i2z e))) (q2.at fun o e=>b3.extBut _ _ D.l2TO (b2.extBut _ _ D.l2i1 (b1.extBut _ _ D.l2z e))) hy fun h4 t2' b4=>wpAny_pure ?_)
 have go4:IsPair h4 TO x v:=b4.extBut _ _ D.TOi2 Nt
 refine wpAny_bind (wpAny_seqItems go4 rfl (wpAny_bind (wpAny_updateSeq_pair go4 fun h5 Nr b5=>wpAny_bind (wpAny_letGo (wpAny_pure (wpAny_pure ?_))))))
 replace Nr:IsPair h5 TO x y:=Nr
 refine wpAny_bind (wpAny_seqItems Nr rfl (wpAny_bind (wpAny_newTuple ?_)))
 have sz:h5.objs.size=s.heap.objs.size:=by rw [b5.1,b4.1,b3.1,b2.1,b1.1]
 have z5:IsZip h5 z TI TO .ellipsis:=b5.extBut _ _ D.TOz.symm (b4.extBut _ _ D.i2z.symm (b3.extBut _ _ D.TOz.symm (b2.extBut _ _ D.i1z.symm z1)))
 have k5:∀ c o,c≠z->c≠TO->c≠i->c≠j->s.heap.get? c=some o->h5.get? c=some o:=fun c o c1 c2 c3 c4 e=>b5.extBut _ _ c2 (b4.extBut _ _ c4 (b3.extBut _ _ c2 (b2.extBut _ _ c3 (b1.extBut _ _ c1 e))))
 have e1:gE l h5 i a (n+1):=t1'.at fun o e=>b5.extBut _ _ D.TOi1.symm (b4.extBut _ _ D.i12 (b3.extBut _ _ D.TOi1.symm e))
 have e2:gE m h5 j b (n+1):=t2'.at fun o e=>b5.extBut _ _ D.TOi2.symm e
 show wpAny _ _ (Builtin.SmallTypes.ownedTupleHandOut (.ref z) (.ref h5.objs.size) >>= _) _ _ _;refine wpAny_bind ?_
 unfold Builtin.SmallTypes.ownedTupleHandOut
 have z6:IsZip (h5.push { cls:=.type "tuple", data:=.seq #[x, y] }) z TI TO .ellipsis:=Heap.get?_push_of_some _ z5
 refine wpAny_bind (wpAny_setField_rec z6 (by simp) fun h7 z7 b7=>?_)
 replace z7:IsZip h7 z TI TO (rawInt h5.objs.size):=z7
 refine wpAny_setField_rec z7 (by simp) fun h8 z8 b8=>?_
 replace z8:IsZip h8 z TI TO (rawInt h5.objs.size):=z8
 have zl:z<h5.objs.size:=Heap.lt_size z5
 have up:∀ c o,c≠z->h5.get? c=some o->h8.get? c=some o:=fun c o c1 e=>b8.extBut _ _ c1 (b7.extBut _ _ c1 (Heap.get?_push_of_some _ e))
 have p8:IsPair h8 h5.objs.size x y:=b8.extBut _ _ (Nat.ne_of_gt zl) (b7.extBut _ _ (Nat.ne_of_gt zl) (Heap.get?_push_size _ rfl))
 have s8:h8.objs.size=h5.objs.size+1:=by rw [b8.1,b7.1,Heap.size_push]
 rw [sz] at z8 p8 s8
 refine wpAny_pure ⟨_,rfl,?_⟩
 show Q (.ref h5.objs.size) _
 rw [sz]
 exact k h8 ⟨z8,up _ _ D.TIz (k5 _ _ D.TIz D.TITO D.TIi1 D.TIi2 gi),⟨_,_,up _ _ D.TOz Nr⟩,e1.at fun o e=>up _ _ D.i1z e,e2.at fun o e=>up _ _ D.i2z e,q1.at fun o e=>up _ _ D.l1z (k5 _ _ D.l1z D.l1TO D.l1i1 D.l1i2 e),q2.at fun o e=>up _ _ D.l2z (k5 _ _ D.l2z D.l2TO D.l2i1 D.l2i2 e)⟩ p8 s8 fun c o c1 c2 c3 c4 e=>up c o c1 (k5 c o c1 c2 c3 c4 e)
theorem w9 {l m:Bool} {z TI TO i j a b:Addr} {n:Nat} {xs ys:Array Value} {Q:PySem.Fin->Shared->Prop} (hh:A.handled=none) (D:ZipApart z TI TO i j a b) (Z:Zp l m s.heap z TI TO i j a b n xs ys .none) (hn:xs[n]? = none\/ys[n]? = none)
  (k:∀ h' e, (∀ c o, c≠z->c≠TO->c≠i->c≠j->s.heap.get? c=some o->h'.get? c=some o)->(∃ o, h'.get? e=some o/\o.cls=.type "StopIteration")->E (.ref e) { s with heap:=h' }) :
  wpAny (model prog w) A (Builtin.«zip.__next__» ⟨[.ref z], []⟩) Q E s:=by
 obtain ⟨gz,gi,⟨u,v,go⟩,t1,t2,q1,q2⟩:=Z
 show wpAny _ _ (field (.ref z) 2 >>= _) _ _ _;refine wpAny_bind (wpAny_field gz rfl (x:=.bool false) rfl ?_)
 show wpAny _ _ (field (.ref z) 3 >>= _) _ _ _;refine wpAny_bind (wpAny_field gz rfl (x:=.ref TI) rfl (wpAny_bind (wpAny_seqItems gi rfl ?_)))
 show wpAny _ _ (Builtin.SmallTypes.ownedTupleIsFree (.ref z) >>= _) _ _ _;refine wpAny_bind ?_
 unfold Builtin.SmallTypes.ownedTupleIsFree;refine wpAny_bind (wpAny_field gz rfl (x:=.none) rfl (wpAny_pure ?_))
 simp only [if_true];refine wpAny_bind (wpAny_rule (wpAny_bind (wpAny_field gz rfl (x:=.ref TO) rfl (wpAny_bind (wpAny_setField_rec gz (by simp) fun h1 z1 b1=>?_)))))
 replace z1:IsZip h1 z TI TO .ellipsis:=z1
 refine wpAny_bind ?_;simp only [List.zipIdx_cons,List.zipIdx_nil,List.forIn_cons,List.forIn_nil]
 refine wpAny_bind (wpAny_bind (wpAny_onRaise ?_));show wpAny _ _ (Builtin.SmallTypes.nextOf (.ref i) >>= _) _ _ _
 have off:∀ {h:Heap} {e:Addr}, IsZip h z TI TO .ellipsis->(∃ o, h.get? e=some o/\o.cls=.type "StopIteration")->e≠z:=fun g ⟨o, g1, g2⟩ q=>by subst q;rw [g] at g1;cases g1;simp at g2
 cases hx:xs[n]? with
 | none =>
  refine wpAny_bind (jW hh (t1.at fun o e=>b1.extBut _ _ D.i1z e) (q1.at fun o e=>b1.extBut _ _ D.l1z e) hx fun h2 e b2 he=>?_)
  have z2:IsZip h2 z TI TO .ellipsis:=b2 _ _ D.i1z.symm z1
  obtain ⟨oe,he1,he2⟩:=id he
  exact wpAny_setField_rec z2 (by simp) fun h3 _ b3=>k h3 e (fun c o c1 _ c3 _ q=>b3.extBut _ _ c1 (b2 _ _ c3 (b1.extBut _ _ c1 q))) ⟨oe,b3.extBut _ _ (off z2 he) he1,he2⟩
 | some x =>
  have hy:ys[n]? = none:=hn.resolve_left (by rw [hx];simp)
  refine wpAny_bind (gg (t1.at fun o e=>b1.extBut _ _ D.i1z e) (q1.at fun o e=>b1.extBut _ _ D.l1z e) hx fun h2 t1' b2=>wpAny_pure ?_)
  have go2:IsPair h2 TO u v:=b2.extBut _ _ D.TOi1 (b1.extBut _ _ D.TOz go)
  refine wpAny_bind (wpAny_seqItems go2 rfl (wpAny_bind (wpAny_updateSeq_pair go2 fun h3 Nt b3=>wpAny_bind (wpAny_letGo (wpAny_pure ?_)))))
  refine wpAny_bind (wpAny_bind (wpAny_onRaise ?_));show wpAny _ _ (Builtin.SmallTypes.nextOf (.ref j) >>= _) _ _ _
  refine wpAny_bind (jW hh (t2.at fun o e=>b3.extBut _ _ D.TOi2.symm (b2.extBut _ _ D.i12.symm (b1.extBut _ _ D.i2z e))) (q2.at fun o e=>b3.extBut _ _ D.l2TO (b2.extBut _ _ D.l2i1 (b1.extBut _ _ D.l2z e))) hy fun h4 e b4 he=>?_)
  have z4:IsZip h4 z TI TO .ellipsis:=b4 _ _ D.i2z.symm (b3.extBut _ _ D.TOz.symm (b2.extBut _ _ D.i1z.symm z1))
  obtain ⟨oe,he1,he2⟩:=id he
  exact wpAny_setField_rec z4 (by simp) fun h5 _ b5=>k h5 e (fun c o c1 c2 c3 c4 q=>b5.extBut _ _ c1 (b4 _ _ c4 (b3.extBut _ _ c2 (b2.extBut _ _ c3 (b1.extBut _ _ c1 q))))) ⟨oe,b5.extBut _ _ (off z4 he) he1,he2⟩
end
end Fg
end
section
namespace Fg
open PySem PySem.Spec L2
section
variable {X:Cx} {pins:List (Addr×Obj)} {σ:L2.St} {H:Hp} {s:Shared} {h':Heap}
theorem tD {t':Nat} {ch:List Addr} (I:Inv X pins σ H s) (f:∀ b∈ch,lA X pins H b) (k:∀ b o,b∉ch->s.heap.get? b=some o->h'.get? b=some o):Inv X pins σ H { s with heap:=h',toks:=t' }:=by
 have off:∀ b u,H b=some u->b∉ch:=fun b u e z=>by rw [(f b z).1] at e;cases e
 refine I.step (g':=s.gens) (d':=s.drawn) (ch:=ch) (fun b hb=>?_) (fun b o _ _ hc e _=>k b o hc e) (fun b o _ _ hc e _=>⟨o.slots,k b o hc e⟩) (fun _ _ _ _ n=>n) (fun b o hc e=>⟨o,k b o hc e⟩) (fun _ _ e=>e) (fun _ _ _ e=>e) (fun b ps e=>⟨#[],by rw [e];simp⟩) (fun m hm=>?_) (fun b u e=>?_) I.bare
 ·obtain ⟨_,f1,_,f3,f4,f5⟩:=f b hb
  exact ⟨f3,f1,f4,f5⟩
 ·obtain ⟨o,es,ep,ho,r⟩:=hm
  exact ⟨o,es,ep,k _ o (fun z=>(f _ z).2.1 rfl) ho,r⟩
 ·refine (I.hok b u e).stay (fun c v hc q=>k c v ?_ q) (fun _ q=>q) fun _ _ q=>q
  rcases hc with z | z
  ·rw [z];exact off b u e
  ·exact off c _ z
end
noncomputable def AQ (l:Bool) (a:Addr):Obj:={ cls:=.type (match l with | true=>"list_iterator" | false=>"tuple_iterator"), data:=.fields #[.ref a, .int 0 0] }
noncomputable abbrev Jv (h:Heap) (l m:Bool) (a b:Addr):Heap:=(h.push (AQ l a)).push (AQ m b)
noncomputable abbrev Ju (h:Heap) (l m:Bool) (a b:Addr):Heap:=(Jv h l m a b).push { cls:=.type "tuple", data:=.seq #[.ref h.objs.size, .ref (h.push (AQ l a)).objs.size] }
noncomputable abbrev Jt (h:Heap) (l m:Bool) (a b:Addr):Heap:=(Ju h l m a b).push { cls:=.type "tuple", data:=.seq #[.none, .none] }
noncomputable abbrev DL (h:Heap) (l m:Bool) (a b:Addr):Heap:=(Jt h l m a b).push { cls:=.type "zip", data:=.fields #[.none, .bool false, .bool false, .ref (Jv h l m a b).objs.size, .ref (Ju h l m a b).objs.size] }
set_option maxHeartbeats 4000000 in
theorem vp (l m:Bool) (a b:Addr) (xs ys:Array Value):Meets (Builtin.«zip.__new__» ⟨[.type "zip", .ref a, .ref b], []⟩) (fun _ R s=>dW l s.heap a xs/\dW m s.heap b ys/\R (.ok (.ret (.ref (Jt s.heap l m a b).objs.size))) { s with heap:=DL s.heap l m a b }) :=
 .of_wp fun prog w A R s h=>by
  obtain ⟨hp,g,d,tk,os⟩:=s
  obtain ⟨q1,q2,h⟩:=h
  have hsub:=sub_zip
  have D9:dW m (hp.push (AQ l a)) b ys:=q2.at fun o e=>Heap.get?_push_of_some _ e
  rcases l with _ | _ <;> rcases m with _ | _ <;> simp only [DL,Jt,Ju,Jv,AQ] at h
  ·have u1:Heap.IsTuple (Shared.heap ⟨hp,g,d,tk,os⟩) a xs:=q1
   have u2:Heap.IsTuple (Shared.heap ⟨hp.push { cls:=.type "tuple_iterator", data:=.fields #[.ref a, .int 0 0] }, g, d, tk, os⟩) b ys:=D9
   wp_walk using wpAny_pyIter_tuple u1,wpAny_pyIter_tuple u2
   exact ⟨_,rfl,h⟩
  ·have u1:Heap.IsTuple (Shared.heap ⟨hp,g,d,tk,os⟩) a xs:=q1
   have u2:Heap.IsList (Shared.heap ⟨hp.push { cls:=.type "tuple_iterator", data:=.fields #[.ref a, .int 0 0] }, g, d, tk, os⟩) b ys:=D9
   wp_walk using wpAny_pyIter_tuple u1,wpAny_pyIter_list u2
   exact ⟨_,rfl,h⟩
  ·have u1:Heap.IsList (Shared.heap ⟨hp,g,d,tk,os⟩) a xs:=q1
   have u2:Heap.IsTuple (Shared.heap ⟨hp.push { cls:=.type "list_iterator", data:=.fields #[.ref a, .int 0 0] }, g, d, tk, os⟩) b ys:=D9
   wp_walk using wpAny_pyIter_list u1,wpAny_pyIter_tuple u2
   exact ⟨_,rfl,h⟩
  ·have u1:Heap.IsList (Shared.heap ⟨hp,g,d,tk,os⟩) a xs:=q1
   have u2:Heap.IsList (Shared.heap ⟨hp.push { cls:=.type "list_iterator", data:=.fields #[.ref a, .int 0 0] }, g, d, tk, os⟩) b ys:=D9
   wp_walk using wpAny_pyIter_list u1,wpAny_pyIter_list u2
   exact ⟨_,rfl,h⟩
structure Zt (l m:Bool) (z TI TO i j a b:Addr) (n:Nat) (h:Heap):Prop where
 z:IsZip h z TI TO .none
 ti:IsPair h TI (.ref i) (.ref j)
 to:∃ u v,IsPair h TO u v
 i1:gE l h i a n
 i2:gE m h j b n
section
variable {prog:Program} {w:World} {A:Around} {E:Value->Shared->Prop} {s:Shared}
theorem xm {l m:Bool} {a b:Addr} {xs ys:Array Value} {Q:Value->Shared->Prop} (q1:dW l s.heap a xs) (q2:dW m s.heap b ys)
  (k:∀ h',Zt l m (s.heap.objs.size+4) (s.heap.objs.size+2) (s.heap.objs.size+3) s.heap.objs.size (s.heap.objs.size+1) a b 0 h'->(∀ c o,s.heap.get? c=some o->h'.get? c=some o)->Q (.ref (s.heap.objs.size+4)) { s with heap:=h' }) :
  wpAny (model prog w) A (call (.type "zip") [.ref a, .ref b]) Q E s:=by
 refine callType_new F.called_zip (by decide) (F.typeCall_zip_2 _ _) (F.newCall_zip_2 _ _) (fun obj=>F.args_object_init_3 obj _ _) F.entry_zip_new (vp l m a b xs ys) ⟨q1,q2,?_⟩
 have n1:(s.heap.push (AQ l a)).objs.size=s.heap.objs.size+1:=Heap.size_push ..
 have n2:(Jv s.heap l m a b).objs.size=s.heap.objs.size+2:=by rw [Heap.size_push,n1]
 have n3:(Ju s.heap l m a b).objs.size=s.heap.objs.size+3:=by rw [Heap.size_push,n2]
 have n4:(Jt s.heap l m a b).objs.size=s.heap.objs.size+4:=by rw [Heap.size_push,n3]
 have g5:(DL s.heap l m a b).get? (Jt s.heap l m a b).objs.size=some _:=Heap.get?_push_size _ rfl
 have g4:(DL s.heap l m a b).get? (Ju s.heap l m a b).objs.size=some _:=Heap.get?_push_of_some _ (Heap.get?_push_size _ rfl)
 have g3:(DL s.heap l m a b).get? (Jv s.heap l m a b).objs.size=some _:=Heap.get?_push_of_some _ (Heap.get?_push_of_some _ (Heap.get?_push_size _ rfl))
 have g2:(DL s.heap l m a b).get? (s.heap.push (AQ l a)).objs.size=some (AQ m b):=Heap.get?_push_of_some _ (Heap.get?_push_of_some _ (Heap.get?_push_of_some _ (Heap.get?_push_size _ rfl)))
 have g1:(DL s.heap l m a b).get? s.heap.objs.size=some (AQ l a):=Heap.get?_push_of_some _ (Heap.get?_push_of_some _ (Heap.get?_push_of_some _ (Heap.get?_push_of_some _ (Heap.get?_push_size _ rfl))))
 show _/\_
 rw [n2,n3,n4] at g5
 rw [n1,n2] at g3
 rw [n3] at g4
 rw [n1] at g2
 rw [n4]
 have mk:∀ (l:Bool) (it c:Addr),(DL s.heap l m a b).get? it=some (AQ l c)->True:=fun _ _ _ _=>trivial
 refine ⟨⟨_,g5,rfl⟩,k _ ⟨g5,g3,⟨_,_,g4⟩,?_,?_⟩ fun c o x=>Heap.get?_push_of_some _ (Heap.get?_push_of_some _ (Heap.get?_push_of_some _ (Heap.get?_push_of_some _ (Heap.get?_push_of_some _ x))))⟩
 ·cases l <;> exact ⟨_,g1,rfl,rfl⟩
 ·cases m <;> exact ⟨_,g2,rfl,rfl⟩
theorem xg {l m:Bool} {z TI TO i j a b:Addr} {n:Nat} {xs ys:Array Value} {x y:Value} {Q:Option Value->Shared->Prop} (D:ZipApart z TI TO i j a b) (Z:Zt l m z TI TO i j a b n s.heap) (q1:dW l s.heap a xs) (q2:dW m s.heap b ys) (hx:xs[n]? = some x) (hy:ys[n]? = some y)
  (k:∀ h',Zp l m h' z TI TO i j a b (n+1) xs ys (rawInt s.heap.objs.size)->IsPair h' s.heap.objs.size x y->h'.objs.size=s.heap.objs.size+1->(∀ c o,c≠z->c≠TO->c≠i->c≠j->s.heap.get? c=some o->h'.get? c=some o)->Q (some (.ref s.heap.objs.size)) { s with heap:=h' }) :
  wpAny (model prog w) A (pyNext (.ref z)) Q E s:=by
 have ty:s.TypeIs (.ref z) "zip":=⟨_, Z.z, rfl⟩
 unfold pyNext;exact wpAny_bind (wpAny_attempt (wpAny_callSpecial?_slot (name:=Str.ofString "__next__") ty F.slot_zip_next (wpAny_call_entry F.slot_zip_next ty F.entry_zip_next (xh D ⟨Z.z, Z.ti, Z.to, Z.i1, Z.i2, q1, q2⟩ hx hy fun h' c1 c2 c3 c4=>wpAny_pure (k h' c1 c2 c3 c4)) (F.args_zip_next_1 _))))
theorem xj {l m:Bool} {z TI TO i j a b:Addr} {n:Nat} {xs ys:Array Value} {Q:Option Value->Shared->Prop} (hh:A.handled=none) (D:ZipApart z TI TO i j a b) (Z:Zt l m z TI TO i j a b n s.heap) (q1:dW l s.heap a xs) (q2:dW m s.heap b ys) (hn:xs[n]? = none\/ys[n]? = none)
  (k:∀ h',(∀ c o,c≠z->c≠TO->c≠i->c≠j->s.heap.get? c=some o->h'.get? c=some o)->Q none { s with heap:=h' }):wpAny (model prog w) A (pyNext (.ref z)) Q E s:=by
 have ty:s.TypeIs (.ref z) "zip":=⟨_, Z.z, rfl⟩
 unfold pyNext;refine wpAny_bind (wpAny_attempt (wpAny_callSpecial?_slot (name:=Str.ofString "__next__") ty F.slot_zip_next (wpAny_call_entry F.slot_zip_next ty F.entry_zip_next (w9 hh D ⟨Z.z, Z.ti, Z.to, Z.i1, Z.i2, q1, q2⟩ hn fun h' e hk he=>?_) (F.args_zip_next_1 _))))
 obtain ⟨o,ho,hc⟩:=he
 exact wpAny_bind (wpAny_isInstance (T:="StopIteration") (b:=true) ⟨o, ho, hc⟩ isSubtype_stop (wpAny_pure (k _ hk)))
end
noncomputable def Mu (l:Bool) (K:W.Frag) (H:Hp) (a:Addr) (xs:List V):Prop:=match l with | true=>fJ K H a xs | false=>ic K H a xs
theorem Mu.at {l:Bool} {X:Cx} {pins:List (Addr×Obj)} {σ:L2.St} {H:Hp} {s:Shared} {a:Addr} {xs:List V} (I:Inv X pins σ H s) (q:Mu l X.K H a xs):∃ its:List Value,Vals xs its/\dW l s.heap a its.toArray:=by
 cases l with
 | true=>obtain ⟨its,rv,p,_⟩:=I.list q;exact ⟨its,rv,p.isList⟩
 | false=>obtain ⟨its,rv,p,_⟩:=I.tuple q;exact ⟨its,rv,p⟩
theorem xO {l:Bool} {h:Heap} {a:Addr} {xs:Array Value} (q:dW l h a xs):a<h.objs.size:=by
 cases l <;> (obtain ⟨o,e,_⟩:=q;exact Heap.lt_size e)
theorem AF {n c d:Nat} (h1:c<n) (h2:d<n):ZipApart (n+4) (n+2) (n+3) n (n+1) c d:=by
 constructor <;> (intro (e:(_:Nat)=_);omega)
section
variable {B:Bd} {Φ:bz} {E:Gx} {F F' F0 F1:Addr->Prop} {ρ ρ' ρ0 ρ1:List Addr} {H H' H0 H1:Hp} {M M' M0:MH} {σD:Sg} {σ:L2.St} {Q:VK} {Dn:Ends}
end
end Fg
end
section
namespace Fg
open PySem PySem.Spec L2
theorem nc:Slot "reversed" "__init__" "object.__init__" :=
 .of (owner:="object") (n:="__init__") (by rw [typeLookup_type, builtinLookup_eq_fast];kernel_rfl) (by decide +kernel) (by decide +kernel) (by decide +kernel)
  (by first | exact .inl (by decide +kernel) | exact .inr (by decide +kernel)) (by rw [isSubtype_type];kernel_rfl)
theorem bK:Slot "reversed" "__next__" "reversed.__next__" :=
 .of (owner:="reversed") (n:="__next__") (by rw [typeLookup_type, builtinLookup_eq_fast];kernel_rfl) (by decide +kernel) (by decide +kernel) (by decide +kernel)
  (by first | exact .inl (by decide +kernel) | exact .inr (by decide +kernel)) (by rw [isSubtype_type];kernel_rfl)
theorem iD:Slot "reversed" "__iter__" "reversed.__iter__" :=
 .of (owner:="reversed") (n:="__iter__") (by rw [typeLookup_type, builtinLookup_eq_fast];kernel_rfl) (by decide +kernel) (by decide +kernel) (by decide +kernel)
  (by first | exact .inl (by decide +kernel) | exact .inr (by decide +kernel)) (by rw [isSubtype_type];kernel_rfl)
theorem pC:Manifest.owners.lookup (String.ofList ['d','e','s','r','e','v','e','r'].reverse)=some Manifest.sig_reversed:=by kernel_rfl
theorem iE (a:Value):argsOk "reversed.__next__" ⟨[a], []⟩:=by
 unfold argsOk;rw [signature?_of (id:="reversed.__next__") (n:=['_', '_', 't', 'x', 'e', 'n', '_', '_']) (o:=['d', 'e', 's', 'r', 'e', 'v', 'e', 'r']) (by kernel_rfl) pC];kernel_rfl
theorem nh (a:Value):argsOk "reversed.__iter__" ⟨[a], []⟩:=by
 unfold argsOk;rw [signature?_of (id:="reversed.__iter__") (n:=['_', '_', 'r', 'e', 't', 'i', '_', '_']) (o:=['d', 'e', 's', 'r', 'e', 'v', 'e', 'r']) (by kernel_rfl) pC];kernel_rfl
theorem nj (a b:Value):argsOk "object.__init__" ⟨[a, b], []⟩:=by
 unfold argsOk;rw [signature?_of (id:="object.__init__") (n:=['_', '_', 't', 'i', 'n', 'i', '_', '_']) (o:=['t', 'c', 'e', 'j', 'b', 'o']) (by kernel_rfl) F.owner_object];kernel_rfl
theorem gH:entryFor table "reversed.__next__" = some Builtin.«reversed.__next__»:=entryFor_of_tree (by kernel_rfl)
theorem lF:entryFor table "reversed.__iter__" = some Builtin.«dict_keyiterator.__iter__» :=
 entryFor_alias (id':="dict_keyiterator.__iter__") (by kernel_rfl) (by first | rfl | decide +kernel | (unfold String.splitOn;simp +decide [String.splitOnAux])) (by decide +kernel) (by kernel_rfl)
theorem vH:TypeCalled "reversed" "reversed.__new__" "object.__init__" :=
 ⟨by decide +kernel,by decide +kernel,⟨_,_,F.mro_reversed⟩,F.made_reversed,by decide +kernel,F.sub_reversed_self,nc⟩
theorem vG:typeLookup (.type "tuple") "__reversed__" = pure none:=by rw [typeLookup_type, builtinLookup_eq_fast];kernel_rfl
theorem rC:isSubtype (.type "tuple") (.type "dict")=pure false:=by rw [isSubtype_type];kernel_rfl
noncomputable def mh (l:Addr) (i:Int):Obj:={ cls:=.type "reversed", data:=.fields #[.ref l, rawInt i] }
noncomputable def jT (h:Heap) (a l:Addr) (i:Int):Prop:=∃ o, h.get? a=some o/\o.cls=.type "reversed"/\o.data=.fields #[.ref l, rawInt i]
theorem jT.typeIs {s:Shared} {a l:Addr} {i:Int} (x:jT s.heap a l i):s.TypeIs (.ref a) "reversed":=let ⟨o, ho, hc, _⟩:=x;⟨o, ho, hc⟩
theorem jT.at {h h':Heap} {a l:Addr} {i:Int} (x:jT h a l i) (e:∀ o,h.get? a=some o->h'.get? a=some o):jT h' a l i:=let ⟨o,ho,r⟩:=x;⟨o,e _ ho,r⟩
section
variable {prog:Program} {w:World} {A:Around} {E:Value->Shared->Prop} {s:Shared}
theorem yf (l:Addr) (items:Array Value) (hfit:(items.size:Int)<2 ^ 63) :
  Meets (Builtin.«reversed.__new__» ⟨[.type "reversed", .ref l], []⟩) (fun _ R s=>s.heap.IsTuple l items /\
   R (.ok (.ret (.ref s.heap.objs.size))) { s with heap:=s.heap.push (mh l ((items.size:Int)-1)),toks:=s.toks+1+1 }) :=
 .of_wp fun prog w A R s h=>by
  obtain ⟨hl,h⟩:=h
  have hT:s.TypeIs (.ref l) "tuple":=hl.typeIs
  unfold Builtin.«reversed.__new__»
  refine wpAny_bind (wpAny_of_eq (newClass_reversed _) ?_)
  try dsimp only
  refine wpAny_bind (wpAny_of_eq (a:=()) (by first | rfl | kernel_rfl) ?_)
  refine wpAny_bind (wpAny_of_eq (a:=()) (by first | rfl | kernel_rfl) ?_)
  try dsimp only
  refine wpAny_bind (wpAny_specialOf hT vG ?_)
  try dsimp only
  refine wpAny_bind ?_
  show wpAny _ _ (isInstance (.ref l) (.type "dict") >>= _) _ _ _
  refine wpAny_bind (wpAny_isInstance hT rC ?_)
  simp only [Bool.false_eq_true,if_false]
  refine wpAny_bind (wpAny_specialOf hT F.slot_tuple_getitem.lookup ?_)
  show wpAny _ _ (if (["tuple.__getitem__", "str.__getitem__", "bytes.__getitem__", "bytearray.__getitem__", "memoryview.__getitem__", "numpy.ndarray.__getitem__", "sqlite3.Row.__getitem__"].contains "tuple.__getitem__")=true then pure true else _) _ _ _
  rw [if_pos (by decide +kernel)]
  refine wpAny_pure ?_
  simp only [Bool.not_true,Bool.false_eq_true,if_false]
  refine wpAny_bind (PyProof.Rows.len_tuple hl hfit ?_)
  refine wpAny_bind (wpAny_of_eq (a:=some (items.size:Int)) rfl ?_)
  try dsimp only
  refine wpAny_bind ?_
  unfold Builtin.SmallTypes.newRecord
  refine wpAny_newObj_type ?_ (by size_fits)
  exact wpAny_pure ⟨_,rfl,h⟩
theorem Dq {l:Addr} {items:Array Value} {Q:Value->Shared->Prop} (hl:s.heap.IsTuple l items) (hfit:(items.size:Int)<2 ^ 63)
  (h:Q (.ref s.heap.objs.size) { s with heap:=s.heap.push (mh l ((items.size:Int)-1)), toks:=s.toks+1+1 }):wpAny (model prog w) A (call (.type "reversed") [.ref l]) Q E s :=
 callType_new vH (by decide) (F.typeCall_reversed_1 _) (F.newCall_reversed_1 _) (fun obj=>nj obj _) F.entry_reversed_new (yf l items hfit) ⟨hl,⟨_,Heap.get?_push_size _ rfl,rfl⟩,h⟩
theorem ng {it l:Addr} {i:Nat} {items:Array Value} {x:Value} {Q:Option Value->Shared->Prop} (hit:jT s.heap it l (i:Int)) (hl:s.heap.IsTuple l items) (hi:(i:Int)<2 ^ 62) (hx:items[i]? = some x)
  (hQ:∀ h',jT h' it l ((i:Int)-1)->Heap.SameBut it s.heap h'->Q (some x) { s with heap:=h',toks:=s.toks+1 }):wpAny (model prog w) A (pyNext (.ref it)) Q E s:=by
 obtain ⟨o,ho,hc,hd⟩:=id hit
 have hT:s.TypeIs (.ref l) "tuple":=hl.typeIs
 unfold pyNext
 refine wpAny_bind (wpAny_attempt (wpAny_callSpecial?_slot (name:=Str.ofString "__next__") hit.typeIs bK
  (wpAny_call_entry bK hit.typeIs gH ?_ (iE _))))
 unfold Builtin.«reversed.__next__»
 refine wpAny_bind (wpAny_of_eq (a:=(Value.ref it,[])) rfl ?_)
 try dsimp only
 refine wpAny_bind (wpAny_field ho hd (x:=.ref l) rfl ?_)
 refine wpAny_bind (wpAny_field ho hd (x:=rawInt (i:Int)) rfl ?_)
 show wpAny _ _ (if (i:Int)<0 then _ else _) _ _ s
 rw [if_neg (by omega)]
 refine wpAny_bind (wpAny_specialOf hT F.slot_tuple_getitem.lookup ?_)
 simp only [Option.isNone_some,Bool.false_eq_true,if_false]
 refine wpAny_bind (wpAny_mkInt ?_)
 refine wpAny_bind (wpAny_attempt ?_)
 have hl1:Heap.IsTuple (Shared.heap { s with toks:=s.toks+1 }) l items:=hl
 have hsz:i<items.size:=by
  rcases Nat.lt_or_ge i items.size with q | q
  ·exact q
  ·rw [Array.getElem?_eq_none q] at hx;cases hx
 refine PyProof.Rows.getItem_tuple hl1 (by omega) (by omega) (j:=i) (by rw [seqIndex_of (by omega) (by omega),Int.toNat_natCast]) hx ?_
 show wpAny _ _ (field (.ref it) 1 >>= _) _ _ _
 refine wpAny_bind (wpAny_field (s:={ s with toks:=s.toks+1 }) ho hd (x:=rawInt (i:Int)) rfl ?_)
 show wpAny _ _ (setField (.ref it) 1 (rawInt ((i:Int)-1)) >>= _) _ _ _
 refine wpAny_bind (wpAny_setField (s:={ s with toks:=s.toks+1 }) ho hd (by simp) ?_)
 refine wpAny_pure ⟨x,rfl,wpAny_pure (hQ _ ?_ (Heap.SameBut.update ..))⟩
 exact ⟨_,Heap.get?_update_self _ ho (Obj.isFreed_of_fields (Obj.data_mapFields hd _)),(Obj.cls_mapFields ..).trans hc,by rw [Obj.data_mapFields hd];simp⟩
theorem pD {it l:Addr} {Q:Option Value->Shared->Prop} (hh:A.handled=none) (hit:jT s.heap it l (-1))
  (hQ:∀ h',Heap.ExtBut it s.heap h'->Q none { s with heap:=h' }):wpAny (model prog w) A (pyNext (.ref it)) Q E s:=by
 obtain ⟨o,ho,hc,hd⟩:=id hit
 unfold pyNext
 refine wpAny_bind (wpAny_attempt (wpAny_callSpecial?_slot (name:=Str.ofString "__next__") hit.typeIs bK
  (wpAny_call_entry bK hit.typeIs gH ?_ (iE _))))
 unfold Builtin.«reversed.__next__»
 refine wpAny_bind (wpAny_of_eq (a:=(Value.ref it,[])) rfl ?_)
 try dsimp only
 refine wpAny_bind (wpAny_field ho hd (x:=.ref l) rfl ?_)
 refine wpAny_bind (wpAny_field ho hd (x:=rawInt (-1)) rfl ?_)
 show wpAny _ _ (if (-1:Int)<0 then _ else _) _ _ s
 rw [if_pos (by decide)]
 refine wpAny_bind (wpAny_rule ?_)
 refine wpAny_bind ?_
 show wpAny _ _ (setField (.ref it) 1 (rawInt (-1)) >>= _) _ _ _
 refine wpAny_bind (wpAny_setField ho hd (by simp) ?_)
 refine wpAny_setField (Heap.get?_update_self _ ho (Obj.isFreed_of_fields (Obj.data_mapFields hd _))) (Obj.data_mapFields hd _) (by simp) ?_
 refine wpAny_bind ?_
 show wpAny _ _ (newExc (.type "StopIteration") [] >>= _) _ _ _
 refine wpAny_bind ?_
 simp only [newExc,newTuple]
 refine wpAny_bind (wpAny_newObj_type ?_ (by size_fits))
 refine wpAny_bind (m:=firstArgMember _ _) (wpAny_of_eq (a:=Value.none) (by first | rfl | (simp only [firstArgMember];rfl)) ?_)
 refine wpAny_newObj_type ?_ (by size_fits)
 simp only [raiseNew]
 refine wpAny_bind (wpAny_handled ?_)
 first | rw [show A.in1.handled=none from hh] | rw [hh]
 refine wpAny_bind (wpAny_pure (wpAny_throw ?_))
 refine wpAny_bind (wpAny_isInstance (T:="StopIteration") (b:=true) ⟨_, Heap.get?_push_size _ rfl, rfl⟩ isSubtype_stop ?_)
 exact wpAny_pure (hQ _ fun c x hc e=>Heap.get?_push_of_some _ (Heap.get?_push_of_some _ ((Heap.SameBut.update ..).extBut c x hc ((Heap.SameBut.update ..).extBut c x hc e))))
theorem tY {it l:Addr} {i:Int} {Q:Value->Shared->Prop} (hit:jT s.heap it l i) (h:Q (.ref it) s):wpAny (model prog w) A (pyIter (.ref it)) Q E s:=by
 refine wpAny_pyIter_slot hit.typeIs iD (wpAny_call_entry iD hit.typeIs lF ?_ (nh _))
 show wpAny _ _ (ret (.ref it)) _ _ s
 exact wpAny_pure ⟨_, rfl, "reversed", _, hit.typeIs, bK.lookup, h⟩
end
noncomputable def IZ (K:W.Frag) (a:Addr) (n:Nat):It :=
 ⟨fun i H=>i<n/\∃ xs x,ic K H a xs/\xs.length=n/\xs[n-1-i]? = some x,fun i H x H'=>H'=H/\∀ xs,ic K H a xs->xs[n-1-i]? = some x,fun i H=>n<=i⟩
theorem A7 {P:Program} {w:World} {K:W.Frag} {tg:Expr} {a it:Addr} {n:Nat} (hn62:(n:Int)<2 ^ 62):Turn P w K tg (IZ K a n) [it] it (fun i h=>i<=n/\jT h it a ((n:Int)-1-(i:Int))) where
 mem:=by simp
 obj:=fun i h st b hb=>by
  have e:b=it:=by simpa using hb
  subst e
  obtain ⟨_,o,e,c,d⟩:=st
  exact ⟨o,e,fun v z=>by rw [d] at z;cases z⟩
 keep:=fun i h h' st k=>⟨st.1,st.2.at fun o e=>k it (by simp) o e⟩
 item:=by
  intro X hP hw hK hc i pins s σ H E I hf st hg
  subst hP hw hK
  obtain ⟨hi,xs,x,q1,hn,hx⟩:=hg
  obtain ⟨its,rv,pl,z⟩:=I.tuple q1
  obtain ⟨u,hu,ru⟩:=rv.get hx
  have e:(n:Int)-1-(i:Int)=((n-1-i:Nat):Int):=by omega
  obtain ⟨_,st⟩:=st
  rw [e] at st
  refine ng st (show s.heap.IsTuple a its.toArray from pl) (by omega) (x:=u) (by simpa using hu) fun h' hit b=>⟨u,rfl,?_⟩
  have e2:((n-1-i:Nat):Int)-1=(n:Int)-1-((i+1:Nat):Int):=by omega
  rw [e2] at hit
  obtain ⟨o,ho,hcl,hd⟩:=id hit
  have I1:Inv X pins σ H { s with heap:=h',toks:=s.toks+1 }:=tD (t':=s.toks+1) I (ch:=[it]) (fun c hc=>hf c hc) fun c o hc e=>b.extBut c o (by simpa using hc) e
  refine kQ ho hcl hd (by decide) ⟨x,H,I1,ru,⟨rfl,fun ys q=>?_⟩,⟨by omega,hit⟩,fun c hc=>(hf c hc).1⟩
  rw [I.i6 q q1];exact hx
 done:=by
  intro X hP hw hK hc i pins s σ H E I hf st hg
  subst hP hw hK
  obtain ⟨hi,st⟩:=st
  have hg':n<=i:=hg
  have e:(n:Int)-1-(i:Int)=-1:=by omega
  rw [e] at st
  exact pD (I.ok.hd hc) st fun h' b=>⟨rfl,tD (t':=s.toks) I (ch:=[it]) (fun c hc=>hf c hc) fun c o hc e=>b c o (by simpa using hc) e⟩
 self:=fun _ _ _ _ _ st h=>tY st.2 h
end Fg
end
section
namespace Fg
open PySem PySem.Spec L2
noncomputable def IY (K:W.Frag) (a:Addr) (n:Nat):It :=
 ⟨fun i H=>i<n/\∃ xs x,fJ K H a xs/\xs.length=n/\xs[n-1-i]? = some x,fun i H x H'=>H'=H/\∀ xs,fJ K H a xs->xs[n-1-i]? = some x,fun i H=>n<=i⟩
theorem xw {P:Program} {w:World} {K:W.Frag} {tg:Expr} {a it:Addr} {n:Nat}:Turn P w K tg (IY K a n) [it] it (fun i h=>i<=n/\h.IsRevIter it a ((n:Int)-1-(i:Int))) where
 mem:=by simp
 obj:=fun i h st b hb=>by
  have e:b=it:=by simpa using hb
  subst e
  obtain ⟨_,o,e,c,d⟩:=st
  exact ⟨o,e,fun v z=>by rw [d] at z;cases z⟩
 keep:=fun i h h' st k=>⟨st.1,st.2.at fun o e=>k it (by simp) o e⟩
 item:=by
  intro X hP hw hK hc i pins s σ H E I hf st hg
  subst hP hw hK
  obtain ⟨hi,xs,x,q1,hn,hx⟩:=hg
  obtain ⟨its,rv,pl,z⟩:=I.list q1
  obtain ⟨u,hu,ru⟩:=rv.get hx
  have e:(n:Int)-1-(i:Int)=((n-1-i:Nat):Int):=by omega
  obtain ⟨_,st⟩:=st
  rw [e] at st
  refine wpAny_pyNext_rev_item st pl.isList (x:=u) (by simpa using hu) fun h' hit b=>⟨u,rfl,?_⟩
  have e2:((n-1-i:Nat):Int)-1=(n:Int)-1-((i+1:Nat):Int):=by omega
  rw [e2] at hit
  obtain ⟨o,ho,hcl,hd⟩:=id hit
  have I1:Inv X pins σ H { s with heap:=h' }:=tD (t':=s.toks) I (ch:=[it]) (fun c hc=>hf c hc) fun c o hc e=>b.extBut c o (by simpa using hc) e
  refine kQ ho hcl hd (by decide) ⟨x,H,I1,ru,⟨rfl,fun ys q=>?_⟩,⟨by omega,hit⟩,fun c hc=>(hf c hc).1⟩
  rw [I.kM q q1];exact hx
 done:=by
  intro X hP hw hK hc i pins s σ H E I hf st hg
  subst hP hw hK
  obtain ⟨hi,st⟩:=st
  have hg':n<=i:=hg
  have e:(n:Int)-1-(i:Int)=-1:=by omega
  rw [e] at st
  exact wpAny_pyNext_rev_end (I.ok.hd hc) st fun h' b=>⟨rfl,tD (t':=s.toks) I (ch:=[it]) (fun c hc=>hf c hc) fun c o hc e=>b c o (by simpa using hc) e⟩
 self:=fun _ _ _ _ _ st h=>wpAny_pyIter_revIter st.2 h
noncomputable def K8 (K:W.Frag) (t:TA):TI:=fun σ H R=>t σ H fun vs H1=>∃ a,vs=[.ref a]/\((∃ xs,fJ K H1 a xs/\R (IY K a xs.length) H1)\/∃ xs,ic K H1 a xs/\R (IZ K a xs.length) H1)
theorem Gd {X:Cx} {tg a:Expr} {t:TA} {p pos:Pos} (hg:Gl X "reversed") (hm:X.mg "reversed" = none) (ha:PA X [a] t) (hs:starEach [a] X.env=[(false, eval a X.env)]) :
  PI X tg (.Call (.Name "reversed" p) [a] [] pos) (K8 X.K t):=by
 intro pins s σ H R I h
 refine PyProof.Rows.Call_ (eS I hg hm (show bootBuiltins ("reversed" : Str)=some (.type "reversed") by decide +kernel) (PyProof.Rows.callWith_type1 (aU (ha pos pins s σ H _ I h) fun us s1 ⟨vs, H1, I1, r1, q1⟩=>?_) (by rw [hs];rfl) (by rfl)))
 obtain ⟨c,e,q1⟩:=q1
 subst e
 obtain ⟨u,rfl,ru⟩:=vals1 r1
 cases ru
 rcases q1 with ⟨xs,q,q2⟩ | ⟨xs,q,q2⟩
 ·obtain ⟨its,rv,pl,z⟩:=I1.list q
  have l1:=rv.length
  refine call_reversed_list pl.isList ?_
  have I2:Inv X pins σ H1 { s1 with heap:=s1.heap.push (revObj c ((its.toArray.size:Int)-1)) }:=I1.kept (t':=s1.toks) fun c o e=>Heap.get?_push_of_some _ e
  have g0:(s1.heap.push (revObj c ((its.toArray.size:Int)-1))).IsRevIter s1.heap.objs.size c ((its.toArray.size:Int)-1):=⟨_,Heap.get?_push_size _ rfl,rfl,rfl⟩
  have g1:(s1.heap.push (revObj c ((its.toArray.size:Int)-1))).IsRevIter s1.heap.objs.size c ((xs.length:Int)-1-((0:Nat):Int)):=by
   have e:(xs.length:Int)-1-((0:Nat):Int)=(its.toArray.size:Int)-1:=by rw [List.size_toArray,l1];omega
   rw [e];exact g0
  refine wpAny_pyIter_revIter g0 ⟨_,[s1.heap.objs.size],_,_,H1,rfl,I2,xw,⟨Nat.zero_le _,g1⟩,fun x hx=>?_,q2⟩
  have e:x=s1.heap.objs.size:=by simpa using hx
  subst e
  exact I1.p9 (Nat.le_refl _) (I1.hok.fresh (Nat.le_refl _))
 ·obtain ⟨its,rv,pl,z⟩:=I1.tuple q
  have l1:=rv.length
  have hz:(xs.length:Int)<2 ^ 62:=by
   have:sizeLine<2 ^ 62:=by decide
   have z':xs.length<=sizeLine:=by simpa using z
   omega
  have hfit:(its.toArray.size:Int)<2 ^ 63:=by rw [List.size_toArray,<- l1];omega
  refine Dq (show s1.heap.IsTuple c its.toArray from pl) hfit ?_
  have I2:Inv X pins σ H1 { s1 with heap:=s1.heap.push (mh c ((its.toArray.size:Int)-1)),toks:=s1.toks+1+1 }:=I1.kept (t':=s1.toks+1+1) fun c o e=>Heap.get?_push_of_some _ e
  have g0:jT (s1.heap.push (mh c ((its.toArray.size:Int)-1))) s1.heap.objs.size c ((its.toArray.size:Int)-1):=⟨_,Heap.get?_push_size _ rfl,rfl,rfl⟩
  have g1:jT (s1.heap.push (mh c ((its.toArray.size:Int)-1))) s1.heap.objs.size c ((xs.length:Int)-1-((0:Nat):Int)):=by
   have e:(xs.length:Int)-1-((0:Nat):Int)=(its.toArray.size:Int)-1:=by rw [List.size_toArray,l1];omega
   rw [e];exact g0
  refine tY (s:={ s1 with heap:=s1.heap.push (mh c ((its.toArray.size:Int)-1)),toks:=s1.toks+1+1 }) g0 ⟨_,[s1.heap.objs.size],_,_,H1,rfl,I2,A7 hz,⟨Nat.zero_le _,g1⟩,fun x hx=>?_,q2⟩
  have e:x=s1.heap.objs.size:=by simpa using hx
  subst e
  exact I1.p9 (Nat.le_refl _) (I1.hok.fresh (Nat.le_refl _))
section
variable {B:Bd} {Φ:bz} {E:Gx} {F F' F0 F1:Addr->Prop} {ρ ρ' ρ0 ρ1:List Addr} {H H' H0 H1:Hp} {M M' M0:MH} {σD:Sg} {σ:L2.St} {Q:VK} {Dn:Ends}
theorem HS {d:D} {ds:List D} (h:p5 d=some ds):d=.lst ds\/d=.tup ds:=by
 cases d <;> first | (cases h;first | exact .inl rfl | exact .inr rfl) | cases h
theorem Bm {a:Fg.E} {Rr:It->Hp->Prop} (h:AZ B Φ E (.rev a) σ H Rr):K8 B.K (bQ (T B Φ E a) iy) σ H Rr:=by
 obtain ⟨σD,M,F,ρ,S,r,h⟩:=h
 show T B Φ E a σ H fun v H1=>∃ c,[v]=[.ref c]/\((∃ xs,fJ B.K H1 c xs/\Rr (IY B.K c xs.length) H1)\/∃ xs,ic B.K H1 c xs/\Rr (IZ B.K c xs.length) H1)
 refine ⟨σD,M,F,ρ,S,r,?_⟩
 cases hx:ev Φ a σD M with
 | exc c M1 =>
  have he:aJ Φ (.rev a) σD M=.exc c M1:=by simp only [aJ,hx,R.ck]
  rw [he] at h;exact h
 | bad =>
  have he:aJ Φ (.rev a) σD M=.bad:=by simp only [aJ,hx,R.cu]
  rw [he] at h;exact h
 | ok x M1 =>
  intro F1 ρ1 H1 v e1 S1 rx
  cases hfx:p5 x with
  | none =>
   have he:aJ Φ (.rev a) σD M=.bad:=by simp only [aJ,hx,R.aa,hfx]
   rw [he] at h;exact h.elim
  | some ds =>
   have he:aJ Φ (.rev a) σD M=.ok (.ak,ds.reverse,false) M1:=by simp only [aJ,hx,R.aa,hfx]
   rw [he] at h
   rcases HS hfx with rfl | rfl
   ·simp only [RD] at rx
    obtain ⟨c,xs,rfl,z,q⟩:=rx
    have l1:=aj.length q
    refine ⟨c,rfl,.inl ⟨xs,z.sq,h F1 ρ1 H1 _ e1 S1 fun M' hM S'=>?_⟩⟩
    cases hM
    refine ⟨fun i F ρ M H ex S _=>⟨fun d0 hd=>?_,fun hl=>?_⟩,fun z=>by cases z⟩
    ·have zq:fJ B.K H c xs:=by
      rcases z with ⟨f,z⟩ | z
      ·exact .inl (ex.toExt0.Jm.rd f z)
      ·exact .inr z
     have hi:i<ds.length:=by
      have:=(List.getElem?_eq_some_iff.mp hd).1
      simpa using this
     rw [List.getElem?_reverse hi,l1] at hd
     obtain ⟨v,hv,rv⟩:=aj.get (aj.mono ex _ _ q) hd
     refine ⟨⟨by omega,xs,v,zq,rfl,hv⟩,fun x H' ⟨e',hy⟩=>?_⟩
     subst e'
     have z2:=hy xs zq
     rw [hv] at z2
     cases z2
     exact ⟨F,S.refl,S,rv⟩
    ·rw [List.length_reverse,l1] at hl
     exact hl
   ·simp only [RD] at rx
    obtain ⟨c,xs,rfl,z,q⟩:=rx
    have l1:=aj.length q
    refine ⟨c,rfl,.inr ⟨xs,z.sq,h F1 ρ1 H1 _ e1 S1 fun M' hM S'=>?_⟩⟩
    cases hM
    refine ⟨fun i F ρ M H ex S _=>⟨fun d0 hd=>?_,fun hl=>?_⟩,fun z=>by cases z⟩
    ·have zq:ic B.K H c xs:=by
      rcases z with ⟨f,z⟩ | z
      ·exact .inl (ex.toExt0.Jm.rd f z)
      ·exact .inr z
     have hi:i<ds.length:=by
      have:=(List.getElem?_eq_some_iff.mp hd).1
      simpa using this
     rw [List.getElem?_reverse hi,l1] at hd
     obtain ⟨v,hv,rv⟩:=aj.get (aj.mono ex _ _ q) hd
     refine ⟨⟨by omega,xs,v,zq,rfl,hv⟩,fun x H' ⟨e',hy⟩=>?_⟩
     subst e'
     have z2:=hy xs zq
     rw [hv] at z2
     cases z2
     exact ⟨F,S.refl,S,rv⟩
    ·rw [List.length_reverse,l1] at hl
     exact hl
end
end Fg
end
section
namespace Fg
open PySem PySem.Spec L2
section
variable {B:Bd} {Φ:bz} {E:Gx} {F F' F1:Addr->Prop} {ρ ρ' ρ1:List Addr} {H H' H1:Hp} {M M':MH} {σD:Sg} {σ:St} {Q:VK}
noncomputable def tRv (K:W.Frag) (te ts:TE):TE:=fun σ H Q=>te σ H fun x H1=>ts σ H1 fun y H2=>∃ l xs,x=.ref l/\y=.int (-1)/\fJ K H2 l xs/\∀ p,H2 p=none->Q (.ref p) (upd H2 p (.lst xs.reverse))
theorem Fx {fz:Bool} {a:Fg.E} (h:T B Φ E (.rv fz a) σ H Q):tRv B.K (T B Φ E a) (T B Φ E (.neg (.k (.int 1)))) σ H Q:=by
 obtain ⟨σD,M,F,ρ,S,r,h⟩:=h
 simp only [ev] at h
 refine T.one S r rfl h fun x M1 F1 ρ1 H1 v e1 S1 r1 rx h1=>?_
 split at h1
 ·rename_i ds hv
  obtain ⟨l,vs,rfl,q,rr⟩:=bh S1 rx hv
  refine ⟨σD,M1,F1,ρ1,S1,r1,?_⟩
  simp only [ev,R.aa]
  show ah (RD B) B (R.ok (D.int (-1)) M1) F1 ρ1 H1 _ _
  intro F' ρ' H' y e2 S2 r2
  simp only [RD] at r2
  subst r2
  obtain ⟨l2,vs2,q2,q3,rr2⟩:=bh S2 (RD.mono e2 _ _ rx) hv
  exact ⟨l2,vs2,q2,rfl,q3,cR S2 (ah.weak e2 h1) rr2.rev⟩
 ·exact h1.elim
end
section
variable {X:Cx} {t:TA} {te ts:TE} {e st:Expr} {pos p2:Pos}
theorem BK (n:Nat):sliceRange ((n:Int)-1) (-1) (-1)=(List.range n).reverse:=by
 unfold sliceRange
 have hc:(if (-1:Int) > 0 then (if (n:Int)-1 < -1 then ((-1)-((n:Int)-1)+(-1)-1) / (-1) else 0) else (if (n:Int)-1 > -1 then ((n:Int)-1-(-1)-(-1)-1) / (-(-1)) else 0))=(n:Int):=by
  rw [if_neg (by decide)]
  split
  ·rw [show -(-1:Int)=1 from rfl,Int.ediv_one];omega
  ·omega
 simp only [hc,Int.toNat_natCast]
 apply List.ext_getElem
 ·simp
 ·intro i h1 h2
  simp only [List.getElem_map,List.getElem_range,List.getElem_reverse,List.length_range]
  simp at h1
  omega
theorem yv (its:Array Value):slicePick its none none (some (-1))=its.toList.reverse.toArray:=by
 have e:sliceBounds none none (some (-1)) its.size=((its.size:Int)-1,-1,-1):=by
  simp [sliceBounds]
 unfold slicePick
 rw [e]
 simp only
 rw [BK,List.filterMap_reverse]
 have:=pick_run its 0 its.size
 simp only [Nat.zero_add,List.map_id',List.drop_zero] at this
 rw [this]
 congr 2
 rw [List.take_of_length_le (by simp)]
theorem oK:∀ {xs:List V} {us:List Value},Vals xs us->Vals xs.reverse us.reverse
 | _,_,.nil=>.nil
 | _,_,.cons a r=>by rw [List.reverse_cons,List.reverse_cons];exact (oK r).append (.cons a .nil)
theorem Ko (he:PE X e te) (hs:PE X st ts):PE X (.Subscript e (.Slice none none (some st) p2) pos) (tRv X.K te ts):=by
 intro pins s σ H Q I h
 refine PyProof.Rows.Subscript_ (aU (he pins s σ H _ I h) fun v s1 ⟨x,H1,I1,r1,q1⟩=>?_)
 refine wpAny_Slice ?_
 rw [evalPart_none]
 refine wpAny_pure (wpAny_pure ?_)
 rw [evalPart_some]
 refine aU (hs pins s1 σ H1 _ I1 q1) fun vs s2 ⟨y,H2,I2,r2,q2⟩=>?_
 obtain ⟨l,xs,rfl,rfl,hx,q⟩:=q2
 obtain ⟨ty,rfl⟩:=r2
 cases r1
 have I4:Inv X pins σ H2 { s2 with heap:=s2.heap.push { cls:=.type "slice", data:=.fields #[.none, .none, .int (-1) ty] } }:=I2.kept (t':=s2.toks) fun b ob q=>Heap.get?_push_of_some _ q
 obtain ⟨its,r,ht,hz⟩:=I4.list hx
 show wpAny (model X.prog X.w) X.A (PyProof.Rows.subscriptTail e (.Slice none none (some st) p2) (.ref l) (.ref s2.heap.objs.size)) (EP X pins σ Q) X.xe { s2 with heap:=s2.heap.push { cls:=.type "slice", data:=.fields #[.none, .none, .int (-1) ty] } }
 refine PyProof.Rows.tail_any (ops:=[.ref l,.ref s2.heap.objs.size]) ht.isList.typeIs slot_list_getitem.lookup ?_ (by with_unfolding_all rfl)
 refine wpAny_getItem_list_slice ht.isList (Heap.IsSliceOf.new ..) .none .none (.int (-1) ty) (by simp) ?_ (by rw [List.size_toArray];have:=r.length;omega)
 rw [yv]
 refine ⟨.ref _,_,I4.laid (t':=s2.toks) (o:=.lst xs.reverse) (fun b ob q=>Heap.get?_push_of_some _ q) (Nat.le_refl _) ?_,rfl,q _ (I4.hok.fresh (Nat.le_refl _))⟩
 refine ⟨by rw [List.length_reverse];exact hz,its.reverse,0,?_,Heap.get?_push_size _ rfl⟩
 exact oK r
end
end Fg
end
section
namespace Fg
open PySem PySem.Spec L2
noncomputable def DF (hi:Int) (n:Nat):It:=⟨fun i _=>i<n,fun i H x H'=>H'=H/\x=.int (hi-i),fun i _=>n<=i⟩
theorem vz {P:Program} {w:World} {K:W.Frag} {tg:Expr} (it:Addr) (hi:Int) (n:Nat):Turn P w K tg (DF hi n) [it] it (fun i h=>IsRangeIter h it (hi+(i:Nat)*(-1)) ((n:Int)-(i:Nat)) (-1)) where
 mem:=by simp
 obj:=fun i h st b hb=>by
  have e:b=it:=by simpa using hb
  subst e
  exact ⟨_,st,fun v z=>by
   have z':Data.fields _=Data.cell v:=z
   cases z'⟩
 keep:=fun i h h' st k=>k it (by simp) _ st
 item:=by
  intro X hP hw hK hc i pins s σ H E I hf st hg
  subst hP hw hK
  obtain ⟨f0,f1,f2,f3,f4,f5⟩:=hf it (by simp)
  have W:=Walks.range (prog:=X.prog) (w:=X.w) (I.ok.hd hc) it hi (-1) n
  refine W.item i s _ _ hg st fun v h' tk hv st' kk=>?_
  obtain ⟨t,rfl⟩:=hv
  have I1:Inv X pins σ H { s with heap:=h',toks:=tk }:=I.turned (fun b o hb e=>kk b o (by simpa using hb) e) f0 f1 f3 f4 f5
  refine ⟨_, rfl, kQ (s:={ s with heap:=h', toks:=tk }) (n:="range_iterator") st' rfl rfl (by decide) ⟨.int (hi-i), H, I1, ⟨t, ?_⟩, ⟨rfl, rfl⟩, st', fun b hb=>(hf b hb).1⟩⟩
  rw [show hi+(i:Int)*(-1)=hi-i by omega]
 done:=by
  intro X hP hw hK hc i pins s σ H E I hf st hg
  subst hP hw hK
  obtain ⟨f0,f1,f2,f3,f4,f5⟩:=hf it (by simp)
  exact wpAny_pyNext_range_end (I.ok.hd hc) st (by have:n<=i:=hg;omega) fun h' eb=>⟨rfl,I.turned (t':=s.toks) (fun b o hb e=>eb b o hb e) f0 f1 f3 f4 f5⟩
 self:=fun _ _ _ _ _ st h=>wpAny_pyIter_rangeiter st h
theorem Di {X:Cx} {tg:Expr} {pins:List (Addr×Obj)} {σ:L2.St} {H:Hp} {s:Shared} {R:It->Hp->Prop} {E:Value->Shared->Prop} {hi lo:Int} {t u v:Tok} {tk:Nat} (I:Inv X pins σ H s) (h1:-(2 ^ 62)<=hi) (h2:hi<2 ^ 62) (h3:-(2 ^ 62)<=lo) (h4:lo<2 ^ 62)
  (q:R (DF hi (hi-lo).toNat) H):wpAny (model X.prog X.w) X.A (pyIter (.ref s.heap.objs.size)) (NR X pins σ tg R) E { s with heap:=s.heap.push { cls:=.type "range", data:=.fields #[.int hi t, .int lo u, .int (-1) v] }, toks:=tk }:=by
 refine wpAny_pyIter_range (IsRange.new ..) (W.small_down h1 h2 h3 h4) ?_
 have I1:Inv X pins σ H { s with heap:=s.heap.push { cls:=.type "range", data:=.fields #[.int hi t, .int lo u, .int (-1) v] }, toks:=tk }:=I.kept fun b o e=>Heap.get?_push_of_some _ e
 refine ⟨(s.heap.push { cls:=.type "range", data:=.fields #[.int hi t, .int lo u, .int (-1) v] }).objs.size, [(s.heap.push { cls:=.type "range", data:=.fields #[.int hi t, .int lo u, .int (-1) v] }).objs.size], _, _, H, rfl,
  I1.kept (t':=tk) fun b o e=>Heap.get?_push_of_some _ e,vz _ hi (hi-lo).toNat,?_,fun b hb=>?_,q⟩
 ·have e1:hi+((0:Nat):Int)*(-1)=hi:=by simp
  have e2:(((hi-lo).toNat:Nat):Int)-((0:Nat):Int)=Builtin.Range.rangeSize hi lo (-1):=by rw [W.rangeSize_downNat];omega
  show IsRangeIter _ _ (hi+((0:Nat):Int)*(-1)) ((((hi-lo).toNat:Nat):Int)-((0:Nat):Int)) (-1)
  rw [e1,e2]
  exact Heap.get?_push_size _ rfl
 ·have e:b=(s.heap.push { cls:=.type "range", data:=.fields #[.int hi t, .int lo u, .int (-1) v] }).objs.size:=by simpa using hb
  subst e
  exact I1.p9 (Nat.le_refl _) (I1.hok.fresh (Nat.le_refl _))
noncomputable def Er (ta:TA):TI:=fun σ H R=>ta σ H fun vs H1=>∃ i j:Int,vs=[.int i,.int j,.int (-1)]/\(-(2 ^ 62)<=i/\i<2 ^ 62/\-(2 ^ 62)<=j/\j<2 ^ 62)/\R (DF i (i-j).toNat) H1
theorem vN {X:Cx} {tg a b c:Expr} {ta:TA} {p pos:Pos} (hg:Gl X "range") (hm:X.mg "range" = none) (ha:PA X [a, b, c] ta) (hs:starEach [a, b, c] X.env=(false, eval a X.env)::starEach [b, c] X.env) (hs2:(backTo pos (starEach [b, c] X.env)).any (·.1)=false) :
  PI X tg (.Call (.Name "range" p) [a, b, c] [] pos) (Er ta):=by
 intro pins s σ H R I h
 refine PyProof.Rows.Call_ (eS I hg hm PyProof.Rows.boot_range (PyProof.Rows.callWith_type1 (aU (ha pos pins s σ H _ I h) fun us s1 ⟨vs,H1,I1,r1,q1⟩=>?_) hs hs2))
 obtain ⟨i,j,e,⟨q1,q2,q3,q4⟩,q⟩:=q1
 subst e
 cases r1 with
 | cons r rr =>
  cases rr with
  | cons r' rr =>
   cases rr with
   | cons r'' rr =>
    cases rr
    obtain ⟨t,rfl⟩:=r
    obtain ⟨t',rfl⟩:=r'
    obtain ⟨t'',rfl⟩:=r''
    exact call_range_3 (by decide) (Di I1 q1 q2 q3 q4 q) (.inl (PyProof.noPylong_small (by omega)))
section
variable {B:Bd} {Φ:bz} {E:Gx} {F F' F0 F1:Addr->Prop} {ρ ρ' ρ0 ρ1:List Addr} {H H' H0 H1:Hp} {M M' M0:MH} {σD:Sg} {σ:L2.St} {Q:VK} {Dn:Ends}
theorem qO {hi:Int} {n:Nat} {src:D}:Walks B (DF hi n) src ((List.range n).map fun (i:Nat)=>D.int (hi-(i:Int))) F0 ρ0 M0 H0:=by
 intro i F ρ M H e S st
 refine ⟨fun d hd=>?_,fun hi=>(show n<=i by simpa using hi)⟩
 have hi:i<n:=by
  obtain ⟨q,_⟩:=List.getElem?_eq_some_iff.mp hd
  simpa using q
 refine ⟨hi,fun x H' ⟨e',hx⟩=>?_⟩
 subst e' hx
 simp [hi] at hd
 subst hd
 exact ⟨F,S.refl,S,by simp only [RD]⟩
theorem xV {a b:Fg.E} {Rr:It->Hp->Prop} (h:AZ B Φ E (.dG a b) σ H Rr):Er (bQ (T B Φ E a) (bQ (T B Φ E b) (bQ (T B Φ E (.neg (.k (.int 1)))) iy))) σ H Rr:=by
 obtain ⟨σD,M,F,ρ,S,r,h⟩:=h
 refine ⟨σD,M,F,ρ,S,r,?_⟩
 cases hx:ev Φ a σD M with
 | exc c M1 =>
  have he:aJ Φ (.dG a b) σD M=.exc c M1:=by simp only [aJ,hx,R.ck]
  rw [he] at h;exact h
 | bad =>
  have he:aJ Φ (.dG a b) σD M=.bad:=by simp only [aJ,hx,R.cu]
  rw [he] at h;exact h
 | ok x M1 =>
  intro F1 ρ1 H1 v e1 S1 rx
  refine ⟨σD,M1,F1,ρ1,S1,r.mono e1,?_⟩
  cases hy:ev Φ b σD M1 with
  | exc c M2 =>
   have he:aJ Φ (.dG a b) σD M=.exc c M2:=by simp only [aJ,hx,hy,R.aa,R.ck]
   rw [he] at h
   exact fun F' ρ' H' cv x e' S r=>h F' ρ' H' cv x (e1.trans e') S r
  | bad =>
   have he:aJ Φ (.dG a b) σD M=.bad:=by simp only [aJ,hx,hy,R.aa,R.cu]
   rw [he] at h;exact h.elim
  | ok y M2 =>
   intro F2 ρ2 H2 w e2 S2 ry
   have BG:=RD.mono e2 _ _ rx
   refine ⟨σD,M2,F2,ρ2,S2,(r.mono e1).mono e2,?_⟩
   simp only [ev,R.aa]
   show ah (RD B) B (R.ok (D.int (-1)) M2) F2 ρ2 H2 _ _
   intro F3 ρ3 H3 z e3 S3 rz
   have MP:=RD.mono e3 _ _ BG
   have MN:=RD.mono e3 _ _ ry
   cases hi:ez x with
   | none =>
    have he:aJ Φ (.dG a b) σD M=.bad:=by simp only [aJ,hx,hy,R.aa,hi]
    rw [he] at h;exact h.elim
   | some i =>
    cases hj:ez y with
    | none =>
     have he:aJ Φ (.dG a b) σD M=.bad:=by simp only [aJ,hx,hy,R.aa,hi,hj]
     rw [he] at h;exact h.elim
    | some j =>
     cases hr:gu i&&gu j with
     | false =>
      have he:aJ Φ (.dG a b) σD M=.bad:=by simp only [aJ,hx,hy,R.aa,hi,hj,hr,Bool.false_eq_true,if_false]
      rw [he] at h;exact h.elim
     | true =>
      have he:aJ Φ (.dG a b) σD M=.ok (.ak,mj i j,false) M2:=by simp only [aJ,hx,hy,R.aa,hi,hj,hr,if_true]
      rw [he] at h
      cases kc hi
      cases kc hj
      simp only [RD] at MP MN rz
      subst MP MN rz
      obtain ⟨r1,r2⟩:=(Bool.and_eq_true _ _).mp hr
      obtain ⟨b1,b2⟩:=pO r1
      obtain ⟨b3,b4⟩:=pO r2
      exact ⟨i,j,rfl,⟨b1,b2,b3,b4⟩,h F3 ρ3 H3 _ (e1.trans (e2.trans e3)) S3 fun M' eq S'=>⟨qO,fun z=>by simp at z⟩⟩
end
end Fg
end
section
namespace Fg
open PySem PySem.Spec L2
theorem LY:entryFor table "zip.__getattribute__" = some Builtin.«object.__getattribute__» :=
 entryFor_alias (id':="object.__getattribute__") (by kernel_rfl) (by first | rfl | decide +kernel) (by decide +kernel) (by kernel_rfl)
theorem Df:typeLookup (.type "zip") "keys" = pure none:=by rw [typeLookup_type, builtinLookup_eq_fast];kernel_rfl
theorem Dg:typeLookup (.type "zip") "__getattr__" = pure none:=by rw [typeLookup_type, builtinLookup_eq_fast];kernel_rfl
theorem Ag (a:Addr) (xs:Array Value) (u:Tok) :
  Meets (Builtin.«object.__getattribute__» ⟨[.ref a, .str "keys" u], []⟩) (fun A R s=>s.heap.get? a=some { cls:=.type "zip", dict:=none, data:=.fields xs, slots:=#[] }/\raisesAttr (.ref a) "keys" A R s) :=
 Meets.of_wp fun prog w A R s hs=>by
  obtain ⟨hp,g,d,tk,os⟩:=s
  obtain ⟨hx,hs⟩:=hs
  have hT:(⟨hp, g, d, tk, os⟩:Shared).TypeIs (.ref a) "zip":=⟨_, hx, rfl⟩
  have f0:=Df
  unfold Builtin.«object.__getattribute__»
  repeat (any_goals (first | assumption | wp_step))
  exact wpAny_raiseAttrError hs.1 hs.2 (attrMsg_fits (by decide +kernel) (by decide +kernel))
theorem De {prog:Program} {w:World} {A:Around} {E:Value->Shared->Prop} {s:Shared} {a:Addr} {xs:Array Value} {Q:Option Value->Shared->Prop}
  (hx:s.heap.get? a=some { cls:=.type "zip", dict:=none, data:=.fields xs, slots:=#[] }) (hA:A.handled=none)
  (h:∀ h' tk,(∀ b o,s.heap.get? b=some o->h'.get? b=some o)->Q none { s with heap:=h',toks:=tk }) :
  wpAny (model prog w) A (getAttr? (.ref a) "keys") Q E s:=by
 obtain ⟨hp,g,d,tk,os⟩:=s
 have hT:∀ tk', (⟨hp, g, d, tk', os⟩:Shared).TypeIs (.ref a) "zip":=fun _=>⟨_, hx, rfl⟩
 have f1:=sub_AttributeError
 have f3:=F.slot_zip_getattribute.lookup
 have f4:=F.slot_zip_getattribute.bind (.ref a)
 have f5:=Dg
 unfold getAttr? getAttrBy? getAttrBy
 repeat (any_goals (first | assumption | exact hT _ | ((with_reducible show wpAny _ _ (call (Value.builtin "zip.__getattribute__") _ _) _ _ _);refine call_meets F.slot_zip_getattribute (hT _) LY (F.args_zip_getattribute_2 _ _) (Ag a xs _) ⟨hx, hA, fun h' tk' e hx'=>?_⟩) | wp_step))
 obtain ⟨t',u',he⟩:=hx'.there
 show wpAny _ _ (getattributeRaised _ _ _ _ _ _ _) _ _ _
 unfold getattributeRaised
 repeat (any_goals (first | assumption | wp_step))
 all_goals exact h _ _ hx'.keeps
end Fg
end
section
namespace Fg
open PySem PySem.Spec L2
noncomputable def DG (h:Heap) (z TI TO i j:Addr):Prop:=∃ (T:Addr) (b:Bool) (o:Obj), h.get? T=some o/\(T≠z/\T≠i/\T≠j)/\h.get? z=some { cls:=.type "zip", dict:=none, data:=.fields #[rawInt T, .bool b, .bool false, .ref TI, .ref TO], slots:=#[] }
structure Zu (l m:Bool) (h:Heap) (z TI TO i j a b:Addr) (n:Nat) (xs ys:Array Value):Prop where
 z:DG h z TI TO i j
 ti:IsPair h TI (.ref i) (.ref j)
 i1:gE l h i a n
 i2:gE m h j b n
 s1:dW l h a xs
 s2:dW m h b ys
section
variable {prog:Program} {w:World} {A:Around} {E:Value->Shared->Prop} {s:Shared}
theorem tu {z TI TO i j:Addr} {Q:Bool->Shared->Prop} (Z:DG s.heap z TI TO i j)
  (k:∀ h',DG h' z TI TO i j->Heap.SameBut z s.heap h'->Q false { s with heap:=h' }):wpAny (model prog w) A (Builtin.SmallTypes.ownedTupleIsFree (.ref z)) Q E s:=by
 obtain ⟨T,b,o,gT,ne,gz⟩:=id Z
 unfold Builtin.SmallTypes.ownedTupleIsFree
 refine wpAny_bind (wpAny_field gz rfl (x:=rawInt T) rfl ?_)
 show wpAny _ _ (loadIfAlive ((T:Int).toNat) >>= _) _ _ _
 rw [Int.toNat_natCast]
 refine wpAny_bind (PySem.W.kdx_alive gT ?_)
 simp only [Option.isNone_some,Bool.false_eq_true,if_false]
 refine wpAny_bind (wpAny_field gz rfl (x:=.bool b) rfl ?_)
 cases b with
 | true =>
  rw [if_neg (show ¬ ((Value.bool true != Value.bool true)=true) from Bool.false_ne_true)]
  exact wpAny_pure (k s.heap Z (Heap.SameBut.refl _ _))
 | false =>
  rw [if_pos (show (Value.bool false != Value.bool true)=true from rfl)]
  refine wpAny_bind (wpAny_setField_rec gz (by simp) fun h1 z1 b1=>wpAny_pure (k h1 ⟨T,true,o,b1.extBut _ _ ne.1 gT,ne,z1⟩ b1))
theorem A4 {l m:Bool} {z TI TO i j a b:Addr} {n:Nat} {xs ys:Array Value} {x y:Value} {Q:Value->Shared->Prop} (D:ZipApart z TI TO i j a b) (Z:Zu l m s.heap z TI TO i j a b n xs ys) (hx:xs[n]? = some x) (hy:ys[n]? = some y)
  (k:∀ h',Zu l m h' z TI TO i j a b (n+1) xs ys->IsPair h' s.heap.objs.size x y->h'.objs.size=s.heap.objs.size+1->(∀ c o,c≠z->c≠TO->c≠i->c≠j->s.heap.get? c=some o->h'.get? c=some o)->Q (.ref s.heap.objs.size) { s with heap:=h' }) :
  wpAny (model prog w) A (Builtin.«zip.__next__» ⟨[.ref z], []⟩) (fun fin s'=>∃ v, fin=.done (.ret v)/\Q v s') E s:=by
 obtain ⟨gz,gi,t1,t2,q1,q2⟩:=Z
 obtain ⟨T,b0,o,gT,ne,Lf⟩:=id gz
 show wpAny _ _ (field (.ref z) 2 >>= _) _ _ _;refine wpAny_bind (wpAny_field Lf rfl (x:=.bool false) rfl ?_)
 show wpAny _ _ (field (.ref z) 3 >>= _) _ _ _;refine wpAny_bind (wpAny_field Lf rfl (x:=.ref TI) rfl (wpAny_bind (wpAny_seqItems gi rfl ?_)))
 show wpAny _ _ (Builtin.SmallTypes.ownedTupleIsFree (.ref z) >>= _) _ _ _
 refine wpAny_bind (tu gz fun h1 z1 b1=>?_)
 simp only [Bool.false_eq_true,if_false]
 refine wpAny_bind ?_
 rw [<- Array.forIn_toList]
 simp only [List.forIn_cons,List.forIn_nil]
 refine wpAny_bind (wpAny_bind (wpAny_holding ?_))
 show wpAny _ _ (Builtin.SmallTypes.nextOf (.ref i) >>= _) _ _ _
 refine wpAny_bind (gg (t1.at fun o e=>b1.extBut _ _ D.i1z e) (q1.at fun o e=>b1.extBut _ _ D.l1z e) hx fun h2 t1' b2=>wpAny_pure (wpAny_pure ?_))
 refine wpAny_bind (wpAny_bind (wpAny_holding ?_))
 show wpAny _ _ (Builtin.SmallTypes.nextOf (.ref j) >>= _) _ _ _
 refine wpAny_bind (gg (t2.at fun o e=>b2.extBut _ _ D.i12.symm (b1.extBut _ _ D.i2z e)) (q2.at fun o e=>b2.extBut _ _ D.l2i1 (b1.extBut _ _ D.l2z e)) hy fun h3 t2' b3=>wpAny_pure (wpAny_pure (wpAny_pure ?_)))
 show wpAny _ _ (newTuple [x,y] >>= _) _ _ _
 refine wpAny_bind (wpAny_newTuple (wpAny_pure ⟨_,rfl,?_⟩))
 have sz:h3.objs.size=s.heap.objs.size:=by rw [b3.1,b2.1,b1.1]
 have k3:∀ c o,c≠z->c≠TO->c≠i->c≠j->s.heap.get? c=some o->h3.get? c=some o:=fun c o c1 c2 c3 c4 e=>b3.extBut _ _ c4 (b2.extBut _ _ c3 (b1.extBut _ _ c1 e))
 have up:∀ c o, h3.get? c=some o->(h3.push { cls:=.type "tuple", data:=.seq #[x, y] }).get? c=some o:=fun c o e=>Heap.get?_push_of_some _ e
 obtain ⟨T1,bb,o1,g1,ne1,gz1⟩:=id z1
 have z3:DG (h3.push { cls:=.type "tuple", data:=.seq #[x, y] }) z TI TO i j:=⟨T1, bb, o1, up _ _ (b3.extBut _ _ ne1.2.2 (b2.extBut _ _ ne1.2.1 g1)), ne1, up _ _ (b3.extBut _ _ D.i2z.symm (b2.extBut _ _ D.i1z.symm gz1))⟩
 have p3:IsPair (h3.push { cls:=.type "tuple", data:=.seq #[x, y] }) h3.objs.size x y:=Heap.get?_push_size _ rfl
 show Q (.ref h3.objs.size) _
 rw [sz] at p3 ⊢
 exact k _ ⟨z3,up _ _ (k3 _ _ D.TIz D.TITO D.TIi1 D.TIi2 gi),t1'.at fun o e=>up _ _ (b3.extBut _ _ D.i12 e),t2'.at fun o e=>up _ _ e,q1.at fun o e=>up _ _ (k3 _ _ D.l1z D.l1TO D.l1i1 D.l1i2 e),q2.at fun o e=>up _ _ (k3 _ _ D.l2z D.l2TO D.l2i1 D.l2i2 e)⟩ p3 (by rw [Heap.size_push,sz]) fun c o c1 c2 c3 c4 e=>up _ _ (k3 c o c1 c2 c3 c4 e)
theorem A3 {l m:Bool} {z TI TO i j a b:Addr} {n:Nat} {xs ys:Array Value} {Q:PySem.Fin->Shared->Prop} (hh:A.handled=none) (D:ZipApart z TI TO i j a b) (Z:Zu l m s.heap z TI TO i j a b n xs ys) (hn:xs[n]? = none\/ys[n]? = none)
  (k:∀ h' e, (∀ c o, c≠z->c≠TO->c≠i->c≠j->s.heap.get? c=some o->h'.get? c=some o)->(∃ o, h'.get? e=some o/\o.cls=.type "StopIteration")->E (.ref e) { s with heap:=h' }) :
  wpAny (model prog w) A (Builtin.«zip.__next__» ⟨[.ref z], []⟩) Q E s:=by
 obtain ⟨gz,gi,t1,t2,q1,q2⟩:=Z
 obtain ⟨T,b0,o,gT,ne,Lf⟩:=id gz
 show wpAny _ _ (field (.ref z) 2 >>= _) _ _ _;refine wpAny_bind (wpAny_field Lf rfl (x:=.bool false) rfl ?_)
 show wpAny _ _ (field (.ref z) 3 >>= _) _ _ _;refine wpAny_bind (wpAny_field Lf rfl (x:=.ref TI) rfl (wpAny_bind (wpAny_seqItems gi rfl ?_)))
 show wpAny _ _ (Builtin.SmallTypes.ownedTupleIsFree (.ref z) >>= _) _ _ _
 refine wpAny_bind (tu gz fun h1 z1 b1=>?_)
 simp only [Bool.false_eq_true,if_false]
 refine wpAny_bind ?_
 rw [<- Array.forIn_toList]
 simp only [List.forIn_cons,List.forIn_nil]
 refine wpAny_bind (wpAny_bind (wpAny_holding ?_))
 show wpAny _ _ (Builtin.SmallTypes.nextOf (.ref i) >>= _) _ _ _
 cases hx:xs[n]? with
 | none =>
  refine wpAny_bind (jW hh (t1.at fun o e=>b1.extBut _ _ D.i1z e) (q1.at fun o e=>b1.extBut _ _ D.l1z e) hx fun h2 e b2 he=>?_)
  exact k h2 e (fun c o c1 _ c3 _ q=>b2 _ _ c3 (b1.extBut _ _ c1 q)) he
 | some x =>
  have hy:ys[n]? = none:=hn.resolve_left (by rw [hx];simp)
  refine wpAny_bind (gg (t1.at fun o e=>b1.extBut _ _ D.i1z e) (q1.at fun o e=>b1.extBut _ _ D.l1z e) hx fun h2 t1' b2=>wpAny_pure (wpAny_pure ?_))
  refine wpAny_bind (wpAny_bind (wpAny_holding ?_))
  show wpAny _ _ (Builtin.SmallTypes.nextOf (.ref j) >>= _) _ _ _
  refine wpAny_bind (jW hh (t2.at fun o e=>b2.extBut _ _ D.i12.symm (b1.extBut _ _ D.i2z e)) (q2.at fun o e=>b2.extBut _ _ D.l2i1 (b1.extBut _ _ D.l2z e)) hy fun h3 e b3 he=>?_)
  exact k h3 e (fun c o c1 _ c3 c4 q=>b3 _ _ c4 (b2.extBut _ _ c3 (b1.extBut _ _ c1 q))) he
end
end Fg
end
section
namespace Fg
open PySem PySem.Spec L2
theorem gP:entryFor table "dict.update.loop" = some Builtin.«dict.update.loop»:=by first | exact entryFor_of_fast (by kernel_rfl) | exact entryFor_of_tree (by kernel_rfl)
theorem gO:plainId "dict.update.loop" = true:=by decide +kernel
noncomputable def ZS (l m:Bool) (h:Heap) (z TI TO i j a b:Addr) (n:Nat) (xs ys:Array Value):Prop:=Zp l m h z TI TO i j a b n xs ys .none\/Zu l m h z TI TO i j a b n xs ys
section
variable {prog:Program} {w:World} {A:Around} {E:Value->Shared->Prop} {s:Shared}
theorem ZS.push {l m:Bool} {h:Heap} {z TI TO i j a b:Addr} {n:Nat} {xs ys:Array Value} (Z:ZS l m h z TI TO i j a b n xs ys) {h':Heap} (k:∀ c o,c≠z\/True->h.get? c=some o->h'.get? c=some o):ZS l m h' z TI TO i j a b n xs ys:=by
 have k':∀ c o,h.get? c=some o->h'.get? c=some o:=fun c o e=>k c o (.inr trivial) e
 rcases Z with ⟨h1,h2,⟨u,v,h3⟩,h4,h5,h6,h7⟩ | ⟨⟨T,bb,o,g1,g2,g3⟩,h2,h4,h5,h6,h7⟩
 ·exact .inl ⟨k' _ _ h1,k' _ _ h2,⟨u,v,k' _ _ h3⟩,h4.at fun o e=>k' _ _ e,h5.at fun o e=>k' _ _ e,h6.at fun o e=>k' _ _ e,h7.at fun o e=>k' _ _ e⟩
 ·exact .inr ⟨⟨T,bb,o,k' _ _ g1,g2,k' _ _ g3⟩,k' _ _ h2,h4.at fun o e=>k' _ _ e,h5.at fun o e=>k' _ _ e,h6.at fun o e=>k' _ _ e,h7.at fun o e=>k' _ _ e⟩
theorem A5 {l m:Bool} {z TI TO i j a b:Addr} {n:Nat} {xs ys:Array Value} {x y:Value} {Q:Option Value->Shared->Prop} (D:ZipApart z TI TO i j a b) (Z:ZS l m s.heap z TI TO i j a b n xs ys) (hx:xs[n]? = some x) (hy:ys[n]? = some y)
  (k:∀ h',ZS l m h' z TI TO i j a b (n+1) xs ys->IsPair h' s.heap.objs.size x y->(∀ c o,c≠z->c≠TO->c≠i->c≠j->s.heap.get? c=some o->h'.get? c=some o)->Q (some (.ref s.heap.objs.size)) { s with heap:=h' }) :
  wpAny (model prog w) A (pyNext (.ref z)) Q E s:=by
 rcases Z with Z | Z
 ·have lt:∀ {c:Addr} {o:Obj},s.heap.get? c=some o->c≠s.heap.objs.size:=fun e=>Nat.ne_of_lt (Heap.lt_size e)
  have li:∀ {l:Bool} {c d:Addr} {q:Nat},gE l s.heap c d q->c≠s.heap.objs.size:=fun {l c d q} e=>by
   cases l <;> (obtain ⟨o,e,_⟩:=e;exact lt e)
  refine xg D ⟨Z.z,Z.ti,Z.to,Z.i1,Z.i2⟩ Z.s1 Z.s2 hx hy fun h' Z' p _ kp=>k h' (.inr ⟨⟨s.heap.objs.size,false,_,p,⟨(lt Z.z).symm,(li Z.i1).symm,(li Z.i2).symm⟩,Z'.z⟩,Z'.ti,Z'.i1,Z'.i2,Z'.s1,Z'.s2⟩) p kp
 ·obtain ⟨T,bb,o,g1,g2,g3⟩:=id Z.z
  have ty:s.TypeIs (.ref z) "zip":=⟨_, g3, rfl⟩
  unfold pyNext;exact wpAny_bind (wpAny_attempt (wpAny_callSpecial?_slot (name:=Str.ofString "__next__") ty F.slot_zip_next (wpAny_call_entry F.slot_zip_next ty F.entry_zip_next (A4 D Z hx hy fun h' c1 c2 c3 c4=>wpAny_pure (k h' (.inr c1) c2 c4)) (F.args_zip_next_1 _))))
theorem A6 {l m:Bool} {z TI TO i j a b:Addr} {n:Nat} {xs ys:Array Value} {Q:Option Value->Shared->Prop} (hh:A.handled=none) (D:ZipApart z TI TO i j a b) (Z:ZS l m s.heap z TI TO i j a b n xs ys) (hn:xs[n]? = none\/ys[n]? = none)
  (k:∀ h',(∀ c o,c≠z->c≠TO->c≠i->c≠j->s.heap.get? c=some o->h'.get? c=some o)->Q none { s with heap:=h' }):wpAny (model prog w) A (pyNext (.ref z)) Q E s:=by
 rcases Z with Z | Z
 ·exact xj hh D ⟨Z.z,Z.ti,Z.to,Z.i1,Z.i2⟩ Z.s1 Z.s2 hn k
 ·obtain ⟨T,bb,o,g1,g2,g3⟩:=id Z.z
  have ty:s.TypeIs (.ref z) "zip":=⟨_, g3, rfl⟩
  unfold pyNext;refine wpAny_bind (wpAny_attempt (wpAny_callSpecial?_slot (name:=Str.ofString "__next__") ty F.slot_zip_next (wpAny_call_entry F.slot_zip_next ty F.entry_zip_next (A3 hh D Z hn fun h' e hk he=>?_) (F.args_zip_next_1 _))))
  obtain ⟨o,ho,hc⟩:=he
  exact wpAny_bind (wpAny_isInstance (T:="StopIteration") (b:=true) ⟨o, ho, hc⟩ isSubtype_stop (wpAny_pure (k _ hk)))
variable {K:Type} [DecidableEq K] {knd:KeyKind prog w K}
structure E3 (D z TI TO i j a b:Addr):Prop where
 z:D≠z
 ti:D≠TI
 to:D≠TO
 i:D≠i
 j:D≠j
 a:D≠a
 b:D≠b
theorem uV {l m:Bool} {D z TI TO i j a b:Addr} {xs ys:Array Value} (Ap:ZipApart z TI TO i j a b) (O:E3 D z TI TO i j a b) (hh:A.handled=none) {R:Result->Shared->Prop}:∀ (ps:List (K×Value)) (n:Nat) (s:Shared) (vs:List (K×Value)),
  ZS l m s.heap z TI TO i j a b n xs ys->s.heap.DictOf knd D vs->vs.length+ps.length<=100000->(∀ (q:Nat) p,ps[q]? = some p->∃ x,xs[n+q]? = some x/\knd.is p.1 x=true/\ys[n+q]? = some p.2)->(xs[n+ps.length]? = none\/ys[n+ps.length]? = none) ->
  (∀ h' tk,h'.DictOf knd D (ps.foldl (fun v p=>stored v p.1 p.2) vs)->(∀ c o,c≠z->c≠TO->c≠i->c≠j->c≠D->s.heap.get? c=some o->h'.get? c=some o)->R (.ok (.ret .none)) { s with heap:=h',toks:=tk }) ->
  codeAny (model prog w) A (.builtin "dict.update.loop" ⟨[.ref D, .ref z, rawInt (n:Int), .none], []⟩) R s
 | [],n,s,vs,Z,hd,hl,hp,he,hR=>by
  refine codeAny_builtin gP ?_
  rw [Around.under_plainId gO _]
  show wpAny _ A.in1 (pyNext (.ref z) >>= _) _ _ s
  refine wpAny_bind (A6 hh Ap Z (by simpa using he) fun h' kp=>?_)
  refine wpAny_bind (wpAny_pure ?_)
  refine wpAny_pure ?_
  obtain ⟨o,es,ep,ho,r⟩:=hd
  exact hR h' s.toks ⟨o,es,ep,kp _ _ O.z O.to O.i O.j ho,r⟩ fun c o c1 c2 c3 c4 _ e=>kp c o c1 c2 c3 c4 e
 | p::ps,n,s,vs,Z,hd,hl,hp,he,hR=>by
  obtain ⟨x,hx,hk,hy⟩:=hp 0 p rfl
  simp only [List.length_cons] at hl
  refine codeAny_builtin gP ?_
  rw [Around.under_plainId gO _]
  show wpAny _ A.in1 (pyNext (.ref z) >>= _) _ _ s
  refine wpAny_bind (A5 Ap Z hx hy fun h1 Z1 pr kp=>?_)
  have hd1:h1.DictOf knd D vs:=by
   obtain ⟨o,es,ep,ho,r⟩:=hd
   exact ⟨o,es,ep,kp _ _ O.z O.to O.i O.j ho,r⟩
  have hT:({ s with heap:=h1 }:Shared).TypeIs (.ref s.heap.objs.size) "tuple":=⟨_, pr, rfl⟩
  refine wpAny_bind (wpAny_holding (wpAny_bind (wpAny_tryCatch ?_)))
  unfold Builtin.Dict.pairItems
  refine wpAny_bind (wpAny_typeOf hT ?_)
  rw [if_pos (by decide +kernel)]
  refine wpAny_bind (wpAny_seqItems (s:={ s with heap:=h1 }) pr rfl (wpAny_pure ?_))
  show wpAny _ _ (holding [x,p.2] (dictSet D x p.2)) _ _ _
  refine wpAny_holding (wpAny_dictSet_pairs (s:={ s with heap:=h1 }) hk hd1 (fun h2 hd2 sb=>?_) (Nat.le_trans (by omega:vs.length<=100000) (by decide)))
  have lenS:(stored vs p.1 p.2).length<=vs.length+1:=by unfold stored;split <;> simp
  have Z2:ZS l m h2 z TI TO i j a b (n+1) xs ys:=by
   rcases Z1 with ⟨e1,e2,⟨u,v,e3⟩,e4,e5,e6,e7⟩ | ⟨⟨T,bb,o,g1,g2,g3⟩,e2,e4,e5,e6,e7⟩
   ·exact .inl ⟨sb.extBut _ _ O.z.symm e1,sb.extBut _ _ O.ti.symm e2,⟨u,v,sb.extBut _ _ O.to.symm e3⟩,e4.at fun o e=>sb.extBut _ _ O.i.symm e,e5.at fun o e=>sb.extBut _ _ O.j.symm e,e6.at fun o e=>sb.extBut _ _ O.a.symm e,e7.at fun o e=>sb.extBut _ _ O.b.symm e⟩
   ·refine .inr ⟨?_,sb.extBut _ _ O.ti.symm e2,e4.at fun o e=>sb.extBut _ _ O.i.symm e,e5.at fun o e=>sb.extBut _ _ O.j.symm e,e6.at fun o e=>sb.extBut _ _ O.a.symm e,e7.at fun o e=>sb.extBut _ _ O.b.symm e⟩
    by_cases hTD:T=D
    ·obtain ⟨o',_,_,ho',_⟩:=hd2
     exact ⟨T,bb,o',by rw [hTD];exact ho',g2,sb.extBut _ _ O.z.symm g3⟩
    ·exact ⟨T,bb,o,sb.extBut _ _ hTD g1,g2,sb.extBut _ _ O.z.symm g3⟩
  refine wpAny_pure ⟨Code.quiet_builtin _ (by decide +kernel),?_⟩
  have ih:=uV Ap O hh ps (n+1) { s with heap:=h2,toks:=s.toks+1 } (stored vs p.1 p.2) Z2 hd2 (by omega) (fun q p' hq=>by
   have:=hp (q+1) p' (by simpa using hq)
   rw [show n+(q+1)=n+1+q by omega] at this;exact this) (by rw [show n+1+ps.length=n+(p::ps).length by simp;omega];exact he) (fun h' tk hd' kp'=>hR h' tk hd' fun c o c1 c2 c3 c4 c5 e=>kp' c o c1 c2 c3 c4 c5 (sb.extBut _ _ c5 (kp c o c1 c2 c3 c4 e)))
  exact ih
end
end Fg
end
section
namespace Fg
open PySem PySem.Spec L2
section
variable {prog:Program} {w:World} {A:Around} {E:Value->Shared->Prop} {s:Shared} {K:Type} [DecidableEq K] {knd:KeyKind prog w K}
theorem Dr {l m:Bool} {z TI TO i j a b:Addr} {xs ys:Array Value} {Q:Value->Shared->Prop} (hh:A.handled=none) (Ap:ZipApart z TI TO i j a b) (Z:Zp l m s.heap z TI TO i j a b 0 xs ys .none) (ps:List (K×Value)) (hl:ps.length<=100000)
  (hp:∀ (q:Nat) p,ps[q]? = some p->∃ x,xs[q]? = some x/\knd.is p.1 x=true/\ys[q]? = some p.2) (he:xs[ps.length]? = none\/ys[ps.length]? = none)
  (k:∀ h' tk,h'.DictOf knd s.heap.objs.size (ps.foldl (fun v p=>stored v p.1 p.2) [])->(∀ c o,c≠z->c≠TO->c≠i->c≠j->s.heap.get? c=some o->h'.get? c=some o)->Q (.ref s.heap.objs.size) { s with heap:=h',toks:=tk }) :
  wpAny (model prog w) A (call (.type "dict") [.ref z]) Q E s:=by
 refine callType_codes (Q₁:=fun obj s₁=>obj=.ref s.heap.objs.size/\s₁={ s with heap:=s.heap.push { cls:=.type "dict", data:=.dict #[] } }) F.kt_called_dict (F.kt_typeCall_dict_1 _) F.entry_dict_init (kt_code_dict_new _ ⟨rfl, rfl⟩) ?_
 rintro obj s₁ ⟨rfl,rfl⟩
 have hnew:(s.heap.push { cls:=.type "dict", data:=.dict #[] }).DictOf knd s.heap.objs.size []:=Heap.DictOf.new s.heap
 have lt:∀ {c:Addr} {o:Obj},s.heap.get? c=some o->s.heap.objs.size≠c:=fun e=>Nat.ne_of_gt (Heap.lt_size e)
 have li:∀ {l:Bool} {c d:Addr} {q:Nat},gE l s.heap c d q->s.heap.objs.size≠c:=fun {l c d q} e=>by cases l <;> (obtain ⟨o,e,_⟩:=e;exact lt e)
 have ls:∀ {l:Bool} {c:Addr} {q:Array Value},dW l s.heap c q->s.heap.objs.size≠c:=fun {l c q} e=>Nat.ne_of_gt (xO e)
 obtain ⟨u,v,to⟩:=Z.to
 have O:E3 s.heap.objs.size z TI TO i j a b:=⟨lt Z.z,lt Z.ti,lt to,li Z.i1,li Z.i2,ls Z.s1,ls Z.s2⟩
 have Z1:ZS l m (s.heap.push { cls:=.type "dict", data:=.dict #[] }) z TI TO i j a b 0 xs ys:=ZS.push (.inl Z) fun c o _ e=>Heap.get?_push_of_some _ e
 have gz:(s.heap.push { cls:=.type "dict", data:=.dict #[] }).get? z=some { cls:=.type "zip", dict:=none, data:=.fields #[.none, .bool false, .bool false, .ref TI, .ref TO], slots:=#[] }:=Heap.get?_push_of_some _ Z.z
 have hT:({ s with heap:=s.heap.push { cls:=.type "dict", data:=.dict #[] } }:Shared).TypeIs (.ref z) "zip":=⟨_, gz, rfl⟩
 refine ⟨hnew.typeIs,F.args_dict_init_2 _ _,?_⟩
 unfold Builtin.«dict.__init__»
 refine wpAny_bind ?_
 unfold Builtin.Dict.selfAndRest
 refine wpAny_bind (wpAny_notOrdered_dict hnew.typeIs ?_)
 show wpAny _ _ (pure (s.heap.objs.size,[Value.ref z])) _ _ _
 refine wpAny_pure ?_
 show wpAny _ _ (Builtin.Dict.updateFrom "dict.__init__" s.heap.objs.size (.ref z) [] .none) _ _ _
 unfold Builtin.Dict.updateFrom
 refine wpAny_bind (wpAny_typeOf hT ?_)
 rw [if_pos (by decide +kernel)]
 refine wpAny_bind (De (s:={ s with heap:=s.heap.push { cls:=.type "dict", data:=.dict #[] } }) gz hh fun h1 t1 Na=>?_)
 rw [if_pos (show Option.isNone (none:Option Value)=true from rfl)]
 refine wpAny_bind (wpAny_rule ?_)
 have gz1:IsZip h1 z TI TO .none:=Na _ _ gz
 refine wpAny_bind (wpAny_pyIter_zip (s:={ s with heap:=h1,toks:=t1 }) gz1 ?_)
 refine wpAny_pure ⟨Code.quiet_builtin _ (by decide +kernel),?_⟩
 have hd1:h1.DictOf knd s.heap.objs.size []:=by
  obtain ⟨o,es,ep,ho,r⟩:=hnew
  exact ⟨o,es,ep,Na _ _ ho,r⟩
 exact uV (A:=A.in1) (R:=wants (fun r s₂=>r=Value.none/\Q (.ref s.heap.objs.size) s₂) E) (knd:=knd) Ap O hh ps 0 { s with heap:=h1,toks:=t1 } [] (Z1.push fun c o _ e=>Na _ _ e) hd1 (by simpa using hl) (fun q p hq=>by rw [Nat.zero_add];exact hp q p hq) (by rw [Nat.zero_add];exact he) fun h' tk hd' kp'=>⟨rfl,k h' tk hd' fun c o c1 c2 c3 c4 e=>kp' c o c1 c2 c3 c4 (Ne.symm (lt e)) (Na _ _ (Heap.get?_push_of_some _ e))⟩
end
noncomputable def tDz (K:W.Frag) (t:TA):TE:=fun σ H Q=>t σ H fun vs H1=>∃ (l m:Bool) (c d:Addr) (xs ys:List V) (ps:List (Key×V)),vs=[.ref c,.ref d]/\Mu l K H1 c xs/\Mu m K H1 d ys/\ps.length<=1000 /\
 (∀ (q:Nat) p,ps[q]? = some p->xs[q]? = some (kV p.1)/\ys[q]? = some p.2)/\(xs[ps.length]? = none\/ys[ps.length]? = none)/\∀ p,H1 p=none->Q (.ref p) (upd H1 p (.dK (cT [] ps)))
theorem qt:∀ (ps:List (Key×V)) {xs ys:List V} {its K3:List Value},Vals xs its->Vals ys K3->(∀ (q:Nat) p,ps[q]? = some p->xs[q]? = some (kV p.1)/\ys[q]? = some p.2) ->
  ∃ ps':List (Key×Value),KV ps ps'/\∀ (q:Nat) p,ps'[q]? = some p->∃ x,its[q]? = some x/\RelV (kV p.1) x/\K3[q]? = some p.2
 | [],_,_,_,_,_,_,_=>⟨[],.nil,fun q p h=>by simp at h⟩
 | p::ps,xs,ys,its,K3,r1,r2,h=>by
  obtain ⟨h1,h2⟩:=h 0 p rfl
  cases r1 with
  | nil=>simp at h1
  | @cons x u xs its rx r1 =>
   cases r2 with
   | nil=>simp at h2
   | @cons y w ys K3 ry r2 =>
    obtain ⟨ps',k,f⟩:=qt ps r1 r2 fun q p' hq=>by simpa using h (q+1) p' (by simpa using hq)
    have e1:x=kV p.1:=by simpa using h1
    have e2:y=p.2:=by simpa using h2
    subst e1 e2
    refine ⟨(p.1,w)::ps',.cons ⟨rfl,ry⟩ k,fun q p' hq=>?_⟩
    cases q with
    | zero=>cases hq;exact ⟨u,rfl,rx,rfl⟩
    | succ q=>simpa using f q p' (by simpa using hq)
section
variable {X:Cx} {t:TA}
theorem Ks {a b:Expr} {p1 p2 q1 q2:Pos} (hc:X.calm=true) (hgd:Gl X "dict") (hmd:X.mg "dict" = none) (hgz:Gl X "zip") (hmz:X.mg "zip" = none) (ha:PA X [a, b] t) (hs:starEach [a, b] X.env=[(false, eval a X.env), (false, eval b X.env)]) (hs2:starEach [b] X.env=[(false, eval b X.env)]) :
  PE X (.Call (.Name "dict" p1) [.Call (.Name "zip" p2) [a, b] [] q2] [] q1) (tDz X.K t):=by
 intro pins s σ H Q I h
 refine wpAny_Call_Name_kw (eS I hgd hmd (show bootBuiltins ("dict" : Str)=some (.type "dict") by decide +kernel) ?_ (by decide) (by decide))
 refine PyProof.Rows.callWith_type1 ?_ rfl rfl
 show wpAny _ _ (spliced ((false, eval (.Call (.Name "zip" p2) [a, b] [] q2) X.env)::backTo q1 (starEach [] X.env))) _ _ s
 refine Calls.spliced_cons ?_
 refine wpAny_Call_Name_kw (eS I hgz hmz (show bootBuiltins ("zip" : Str)=some (.type "zip") by decide +kernel) (PyProof.Rows.callWith_type1 (aU (ha q2 pins s σ H _ I h) fun us s1 ⟨vs, H1, I1, r1, q1⟩=>?_) (by rw [hs, hs2]) (by rw [hs2];rfl)) (by decide) (by decide))
 obtain ⟨l,m,c,d,xs,ys,ps,e,s1',s2',hl,hp,he,q⟩:=q1
 subst e
 cases r1 with
 | cons r rr =>
  cases rr with
  | cons r' rr =>
   cases rr
   cases r
   cases r'
   obtain ⟨its,rv,p1⟩:=s1'.at I1
   obtain ⟨K3,rw_,p2⟩:=s2'.at I1
   have c1:=xO p1
   have c2:=xO p2
   obtain ⟨ps',kv,f⟩:=qt ps rv rw_ hp
   have hlen:ps'.length=ps.length:=kv.length.symm
   refine xm p1 p2 fun h' Z kp=>?_
   refine Calls.spliced_nil ?_
   have I2:Inv X pins σ H1 { s1 with heap:=h' }:=I1.kept (t':=s1.toks) kp
   have lv:=rv.length
   have lw:=rw_.length
   refine Dr (s:={ s1 with heap:=h' }) (knd:=aG X.prog X.w) (I2.ok.hd hc) (AF c1 c2) ⟨Z.z,Z.ti,Z.to,Z.i1,Z.i2,p1.at fun o e=>kp _ _ e,p2.at fun o e=>kp _ _ e⟩ ps' (by omega) (fun q p hq=>?_) ?_ fun h2 tk hd kp2=>?_
   ·obtain ⟨x,g1,g2,g3⟩:=f q p hq
    exact ⟨x,by simpa using g1,mH g2,by simpa using g3⟩
   ·rw [hlen]
    rcases he with he | he
    ·left;rw [List.getElem?_eq_none_iff] at he;simp;omega
    ·right;rw [List.getElem?_eq_none_iff] at he;simp;omega
   ·have hz:(cT [] ps).length<=sizeLine:=Nat.le_trans (gJ ps []) (Nat.le_trans (by simpa using hl:([]:List (Key×V)).length+ps.length<=1000) (by decide))
    have old:∀ c o,s1.heap.get? c=some o->h2.get? c=some o:=fun c o e=>by
     have lt:c<s1.heap.objs.size:=Heap.lt_size e
     have lt':∀ n:Nat,c≠s1.heap.objs.size+n:=fun n=>Nat.ne_of_lt (Nat.lt_of_lt_of_le lt (Nat.le_add_right _ n))
     exact kp2 c o (lt' _) (lt' _) (lt' 0) (lt' _) (kp _ _ e)
    have I3:Inv X pins σ (upd H1 h'.objs.size (.dK (cT [] ps))) { s1 with heap:=h2,toks:=tk }:=I1.laid (a:=h'.objs.size) (o:=.dK (cT [] ps)) (t':=tk) old (by
     have:s1.heap.objs.size+4<h'.objs.size:=Heap.lt_size Z.z
     omega) (sL hz (beq_eq_false_iff_ne.mpr (Ne.symm (Nat.ne_of_lt I2.big))) (KV.merge kv .nil) hd)
    exact ⟨.ref h'.objs.size,_,I3,rfl,q _ (I1.hok.fresh (by
     have:s1.heap.objs.size+4<h'.objs.size:=Heap.lt_size Z.z
     omega))⟩
end
section
variable {B:Bd} {Φ:bz} {E:Gx} {F F' F1:Addr->Prop} {ρ ρ' ρ1:List Addr} {H H' H1:Hp} {M M':MH} {σD:Sg} {σ:L2.St} {Q:VK}
theorem xN {d:D} {v:V} {ds:List D} (S:SR B F ρ M H) (r:RD B F ρ H d v) (h:AL M d=some ds):∃ l a vs,v=.ref a/\Mu l B.K H a vs/\aj B F ρ H ds vs:=by
 unfold AL at h
 split at h
 ·rename_i xs hv
  cases h
  obtain ⟨a,vs,e,q,rr⟩:=bh S r hv
  exact ⟨true,a,vs,e,q,rr⟩
 ·rename_i xs hv
  cases h
  obtain ⟨a,vs,e,q,rr⟩:=i0 S r hv
  exact ⟨false,a,vs,e,q,rr⟩
 ·cases h
theorem Af:∀ (ds es:List D) (xs ys:List V) (cA rY:List (Ky×D)) (kvs:List (Key×V)),wW cA ds es=some rY->aj B F ρ H ds xs->aj B F ρ H es ys->kvs.map (·.1)=cA.map (·.1)->aj B F ρ H (cA.map (·.2)) (kvs.map (·.2)) ->
  ∃ ps:List (Key×V),ps.length<=ds.length/\(∀ (q:Nat) p,ps[q]? = some p->xs[q]? = some (kV p.1)/\ys[q]? = some p.2)/\(xs[ps.length]? = none\/ys[ps.length]? = none)/\(cT kvs ps).map (·.1)=rY.map (·.1)/\aj B F ρ H (rY.map (·.2)) ((cT kvs ps).map (·.2))
 | [],es,xs,ys,cA,rY,kvs,h,r1,r2,e1,e2=>by
  simp only [aj] at r1
  subst r1
  simp only [wW] at h
  cases h
  exact ⟨[],Nat.le_refl _,fun q p hq=>by simp at hq,.inl rfl,e1,e2⟩
 | d::ds,[],xs,ys,cA,rY,kvs,h,r1,r2,e1,e2=>by
  simp only [aj] at r2
  subst r2
  simp only [wW] at h
  cases h
  exact ⟨[],Nat.zero_le _,fun q p hq=>by simp at hq,.inr rfl,e1,e2⟩
 | d::ds,e::es,xs,ys,cA,rY,kvs,h,r1,r2,e1,e2=>by
  simp only [aj] at r1 r2
  obtain ⟨x,xs',rfl,rx,r1⟩:=r1
  obtain ⟨y,ys',rfl,ry,r2⟩:=r2
  simp only [wW] at h
  cases hk:keyOf d with
  | none=>rw [hk] at h;cases h
  | some k =>
   rw [hk] at h
   obtain ⟨p1,p2⟩:=yq (k:=k) ry e1 e2
   obtain ⟨ps,g1,g2,g3,g4,g5⟩:=Af ds es xs' ys' _ rY (putK kvs k y) h r1 r2 p1 p2
   refine ⟨(k,y)::ps,by simp;omega,fun q p hq=>?_,by simpa using g3,g4,g5⟩
   cases q with
   | zero=>cases hq;exact ⟨by simp [nK hk rx],by simp⟩
   | succ q=>simpa using g2 q p (by simpa using hq)
theorem FF {a b:Fg.E} (h:T B Φ E (.dz a b) σ H Q):tDz B.K (bQ (T B Φ E a) (bQ (T B Φ E b) iy)) σ H Q:=by
 obtain ⟨σD,M,F,ρ,S,r,h⟩:=h
 simp only [ev] at h
 refine T.two S r rfl h fun x y M2 F2 ρ2 H2 v w S2 _ rx ry h2=>?_
 split at h2
 ·rename_i ds es hx hy
  split at h2
  ·rename_i hl
   split at h2
   ·rename_i cA hz
    obtain ⟨l,c,xs,rfl,q1,rr1⟩:=xN S2 rx hx
    obtain ⟨m,d,ys,rfl,q2,rr2⟩:=xN S2 ry hy
    obtain ⟨ps,g1,g2,g3,g4,g5⟩:=Af ds es xs ys [] cA [] hz rr1 rr2 rfl aj.nil
    have hl':ds.length<=1000:=of_decide_eq_true hl
    refine ⟨l,m,c,d,xs,ys,ps,rfl,q1,q2,by omega,g2,g3,fun p hp=>?_⟩
    have e0:Ext F2 ρ2 H2 F2 (ρ2++[p]) (upd H2 p (.dK (cT [] ps))):=⟨⟨S2.sep,fun _ q=>q,fun a q _=>ao (by rintro rfl;exact q hp),List.prefix_append _ _,fun a q=>by
     rcases List.mem_append.mp q with q | q
     ·exact .inl q
     ·rw [List.mem_singleton.mp q];exact .inr hp,fun _ q=>.inl q⟩,fun b w u q=>by rw [ao (by rintro rfl;rw [hp] at q;cases q)];exact q⟩
    obtain ⟨S',e⟩:=S2.lv (o:=.dK (cT [] ps)) (u:=.dct cA) hp ⟨_,ay,g4,aj.mono e0 _ _ g5⟩
    refine h2 _ _ _ _ e S' ?_
    simp only [RD]
    exact ⟨p,by rw [<- S2.len];simp,rfl⟩
   ·exact h2.elim
  ·exact h2.elim
 ·exact h2.elim
end
end Fg
end
section
namespace Fg
open PySem PySem.Spec L2
structure Gm where
 fns:List (Str×Nat×Nat)
 cst:List (Str×Nat)
 ju:List Str
 cls:List (Str×Nat×Nat×Nat):=[]
 Cp:List ((Nat×Str)×Nat×Nat):=[]
 CQ:List Str:=[]
 exc:List (Str×Nat):=[]
 IB:List (Str×Nat×Nat×Int):=[]
 rz:Bool:=true
inductive Nd where
 | e (a:Expr) (c:E)
 | t (a:Expr) (c:E)
 | es (a:List Expr) (c:Es)
 | o (a:Option Expr) (c:O)
 | i (a:Expr) (c:Src)
 | s (a:Stmt) (c:S)
 | ss (a:List Stmt) (c:Ss)
 | m (a:List Expr) (c:Es)
noncomputable def nD (x:Str):Bool:=!(x == ("__debug__" : Str))&&!(x == ("__classdict__" : Str))
noncomputable def E4 (sc:Scope) (x:Str):Bool:=match sc.names.lookup x with | some .local=>true | some .cell=>true | some .free=>true | _=>false
noncomputable def Cv (sc:Scope) (x:Str):Bool:=match sc.names.lookup x with | some .local=>true | some .cell=>true | _=>false
noncomputable def fB (sc:Scope) (x:Str):Bool:=match sc.names.lookup x with | some .globalImplicit=>true | _=>false
noncomputable def aV:Expr->Bool | .Starred _ _=>false | _=>true
noncomputable def mD:Expr->Bool | .ListComp _ _ _ _=>false | .SetComp _ _ _ _=>false | .DictComp _ _ _ _ _=>false | _=>true
noncomputable def yP:Expr->Bool | .Set _ _ _=>false | _=>true
noncomputable def nSl:Expr->Bool | .Slice _ _ _ _=>false | _=>true
noncomputable def rR:Expr->Bool | .UnaryOp _ _ _=>false | .BoolOp _ _ _=>false | .IfExp _ _ _ _=>false | .Compare _ _ _ _=>false | _=>true
noncomputable def yQ:Expr->Bool | .Call (.Name _ _) _ _ _=>false | _=>true
noncomputable def Dm:Const->D->Bool
 | .int i,.int j=>decide (i=j)
 | .str x,.str y=>decide (x=y)
 | .bool a,.bl b=>decide (a=b)
 | .none,.ak=>true
 | _,_=>false
noncomputable def f1S:F1->Str
 | .abs=>"abs" | .int=>"int"
noncomputable def Ef:Mt->Option Str
 | .pop=>some "pop" | .reverse=>some "reverse" | _=>none
noncomputable def Mg:Bl->Option Str
 | .len=>some "len" | .dict=>some "dict" | _=>none
noncomputable def yi (scope sc:Scope):Scope :=
 { scope with names:=scope.names.map fun (n,k)=>if (k == .free&&sc.kind == .function&&sc.names.lookup n == some .cell) then (n,.cell) else (n,k) }
noncomputable def Cw (sc:Scope) (x:Str):Bool:=match sc.names.lookup x with | some .local=>true | _=>false
theorem aD {P:Prop} (h:false=true):P:=Bool.noConfusion h
@[irreducible] noncomputable def fk (a:Expr) (k:Str->Bool):Bool:=match a with | .Name x _=>k x | _=>false
theorem bN {a:Expr} {k:Str->Bool} (h:fk a k=true):∃ x p,a=.Name x p/\k x=true:=by
 unfold fk at h
 cases a <;> first | exact ⟨_,_,rfl,h⟩ | exact aD h
@[irreducible] noncomputable def kNm (a:Expr) (k:Str->Pos->Bool):Bool:=match a with | .Name x p=>k x p | _=>false
theorem K1 {a:Expr} {k:Str->Pos->Bool} (h:kNm a k=true):∃ x p,a=.Name x p/\k x p=true:=by
 unfold kNm at h
 cases a <;> first | exact ⟨_,_,rfl,h⟩ | exact aD h
@[irreducible] noncomputable def CC (a:Expr) (k:Const->Bool):Bool:=match a with | .Constant c _ _=>k c | _=>false
theorem ze {a:Expr} {k:Const->Bool} (h:CC a k=true):∃ c j p,a=.Constant c j p/\k c=true:=by
 unfold CC at h
 cases a <;> first | exact ⟨_,_,_,rfl,h⟩ | exact aD h
@[irreducible] noncomputable def zd (a:Expr) (k:List Expr->Bool):Bool:=match a with | .Tuple as _ _=>k as | _=>false
theorem kO {a:Expr} {k:List Expr->Bool} (h:zd a k=true):∃ as c p,a=.Tuple as c p/\k as=true:=by
 unfold zd at h
 cases a <;> first | exact ⟨_,_,_,rfl,h⟩ | exact aD h
@[irreducible] noncomputable def Ht (a:Expr) (k:List Expr->Bool):Bool:=match a with | .List as _=>k as | _=>false
theorem Hr {a:Expr} {k:List Expr->Bool} (h:Ht a k=true):∃ as p,a=.List as p/\k as=true:=by
 unfold Ht at h
 cases a <;> first | exact ⟨_,_,rfl,h⟩ | exact aD h
@[irreducible] noncomputable def HC (a:Expr) (k:Expr->Operator->Expr->Bool):Bool:=match a with | .BinOp l p r _=>k l p r | _=>false
theorem HB {a:Expr} {k:Expr->Operator->Expr->Bool} (h:HC a k=true):∃ l o r p,a=.BinOp l o r p/\k l o r=true:=by
 unfold HC at h
 cases a <;> first | exact ⟨_,_,_,_,rfl,h⟩ | exact aD h
@[irreducible] noncomputable def sd:UnaryOp->Bool | .USub=>true | _=>false
@[irreducible] noncomputable def zw:UnaryOp->Bool | .Not=>true | _=>false
@[irreducible] noncomputable def Nc (a:Expr) (k:UnaryOp->Expr->Bool):Bool:=match a with | .UnaryOp o l _=>k o l | _=>false
theorem Ek {a:Expr} {k:UnaryOp->Expr->Bool} (h:Nc a k=true):∃ o l p,a=.UnaryOp o l p/\k o l=true:=by
 unfold Nc at h
 cases a <;> first | exact ⟨_,_,_,rfl,h⟩ | exact aD h
theorem zu {o:UnaryOp} (h:sd o=true):o=.USub:=by
 unfold sd at h
 cases o <;> first | rfl | exact aD h
theorem CI {o:UnaryOp} (h:zw o=true):o=.Not:=by
 unfold zw at h
 cases o <;> first | rfl | exact aD h
@[irreducible] noncomputable def jA:BoolOp->Bool | .And=>true | .Or=>false
theorem uB {o:BoolOp} (h:jA o=true):o=.And:=by
 unfold jA at h
 cases o <;> first | rfl | exact aD h
theorem zv {o:BoolOp} (h:jA o=false):o=.Or:=by
 unfold jA at h
 cases o <;> first | rfl | cases h
@[irreducible] noncomputable def Jh (a:Expr) (k:BoolOp->Expr->Expr->Bool):Bool:=match a with
 | .BoolOp o vs p=>(match vs with
  | v::ws=>(match ws with
   | w::r=>k o v (.BoolOp o (w::r) p)
   | []=>false)
  | []=>false)
 | _=>false
theorem uz {a:Expr} {k:BoolOp->Expr->Expr->Bool} (h:Jh a k=true):∃ o v w r p,a=.BoolOp o (v::w::r) p/\k o v (.BoolOp o (w::r) p)=true:=by
 unfold Jh at h
 cases a with
 | BoolOp o vs p =>
  cases vs with
  | nil=>exact aD h
  | cons v ws=>cases ws with
   | nil=>exact aD h
   | cons w r=>exact ⟨_,_,_,_,_,rfl,h⟩
 | _=>exact aD h
@[irreducible] noncomputable def ug (a:Expr) (k:Expr->Bool) (d:Bool):Bool:=match a with
 | .BoolOp _ vs _=>(match vs with
  | v::ws=>(match ws with
   | []=>k v
   | _::_=>d)
  | []=>d)
 | _=>d
theorem uf {a:Expr} {k:Expr->Bool} {d:Bool} (h:ug a k d=true):(∃ o v p,a=.BoolOp o [v] p/\k v=true)\/d=true:=by
 unfold ug at h
 cases a with
 | BoolOp o vs p =>
  cases vs with
  | nil=>exact .inr h
  | cons v ws=>cases ws with
   | nil=>exact .inl ⟨_,_,_,rfl,h⟩
   | cons w r=>exact .inr h
 | _=>exact .inr h
@[irreducible] noncomputable def k1 {α:Type} (as:List α) (k:α->Bool):Bool:=match as with | l::r=>r.isEmpty&&k l | []=>false
theorem gX {α:Type} {as:List α} {k:α->Bool} (h:k1 as k=true):∃ l,as=[l]/\k l=true:=by
 unfold k1 at h
 cases as with
 | nil=>exact aD h
 | cons l r=>cases r with
  | nil=>exact ⟨_,rfl,h⟩
  | cons _ _=>exact aD h
@[irreducible] noncomputable def k2 {α:Type} (as:List α) (k:α->α->Bool):Bool:=match as with | l::r=>k1 r (k l) | []=>false
theorem r9 {α:Type} {as:List α} {k:α->α->Bool} (h:k2 as k=true):∃ l r,as=[l,r]/\k l r=true:=by
 unfold k2 at h
 cases as with
 | nil=>exact aD h
 | cons l r =>
  replace h:=gX h
  obtain ⟨x,rfl,h⟩:=h
  exact ⟨_,_,rfl,h⟩
@[irreducible] noncomputable def k3 {α:Type} (as:List α) (k:α->α->α->Bool):Bool:=match as with | l::r=>k2 r (k l) | []=>false
theorem k3_t {α:Type} {as:List α} {k:α->α->α->Bool} (h:k3 as k=true):∃ l r q,as=[l,r,q]/\k l r q=true:=by
 unfold k3 at h
 cases as with
 | nil=>exact aD h
 | cons l r =>
  replace h:=r9 h
  obtain ⟨u,q,rfl,h⟩:=h
  exact ⟨_,_,_,rfl,h⟩
@[irreducible] noncomputable def CD (a:Expr) (k:Expr->CmpOp->Expr->Bool):Bool:=match a with | .Compare l ps rs _=>k1 ps fun p=>k1 rs fun r=>k l p r | _=>false
theorem zg {a:Expr} {k:Expr->CmpOp->Expr->Bool} (h:CD a k=true):∃ l o r p,a=.Compare l [o] [r] p/\k l o r=true:=by
 unfold CD at h
 cases a with
 | Compare l ps rs p =>
  replace h:=gX h
  obtain ⟨o,rfl,h⟩:=h
  replace h:=gX h
  obtain ⟨r,rfl,h⟩:=h
  exact ⟨_,_,_,_,rfl,h⟩
 | _=>exact aD h
@[irreducible] noncomputable def Hx (a:Expr) (k:Expr->Expr->Expr->Bool):Bool:=match a with | .IfExp u l r _=>k u l r | _=>false
theorem Hw {a:Expr} {k:Expr->Expr->Expr->Bool} (h:Hx a k=true):∃ u l r p,a=.IfExp u l r p/\k u l r=true:=by
 unfold Hx at h
 cases a <;> first | exact ⟨_,_,_,_,rfl,h⟩ | exact aD h
@[irreducible] noncomputable def v7 (a:Expr) (k:Expr->Expr->Bool):Bool:=match a with | .Subscript l r _=>k l r | _=>false
theorem nL {a:Expr} {k:Expr->Expr->Bool} (h:v7 a k=true):∃ l r p,a=.Subscript l r p/\k l r=true:=by
 unfold v7 at h
 cases a <;> first | exact ⟨_,_,_,rfl,h⟩ | exact aD h
@[irreducible] noncomputable def kRv (a:Expr) (k:Expr->Bool):Bool:=match a with | .Slice none none (some u) _=>k u | _=>false
theorem K0 {a:Expr} {k:Expr->Bool} (h:kRv a k=true):∃ u p,a=.Slice none none (some u) p/\k u=true:=by
 unfold kRv at h
 split at h
 ·exact ⟨_,_,rfl,h⟩
 ·cases h
@[irreducible] noncomputable def G9 (a:Expr) (k:Option Expr->Option Expr->Bool):Bool:=match a with | .Slice u v s _=>s.isNone&&k u v | _=>false
theorem G8 {a:Expr} {k:Option Expr->Option Expr->Bool} (h:G9 a k=true):∃ u v p,a=.Slice u v none p/\k u v=true:=by
 unfold G9 at h
 cases a with
 | Slice u v s p=>cases s with
  | none=>exact ⟨_,_,_,rfl,h⟩
  | some _=>exact aD h
 | _=>exact aD h
@[irreducible] noncomputable def CF (a:Expr) (k:Expr->List Expr->Pos->Bool):Bool:=match a with | .Call f as kw p=>kw.isEmpty&&k f as p | _=>false
theorem zh {a:Expr} {k:Expr->List Expr->Pos->Bool} (h:CF a k=true):∃ f as p,a=.Call f as [] p/\k f as p=true:=by
 unfold CF at h
 cases a with
 | Call f as kw p=>cases kw with
  | nil=>exact ⟨_,_,_,rfl,h⟩
  | cons _ _=>exact aD h
 | _=>exact aD h
@[irreducible] noncomputable def rZ (a:Expr) (k:Str->List Expr->Bool):Bool:=CF a fun f as _=>fk f fun x=>k x as
theorem dY {a:Expr} {k:Str->List Expr->Bool} (h:rZ a k=true):∃ x q as p,a=.Call (.Name x q) as [] p/\k x as=true:=by
 unfold rZ at h
 replace h:=zh h
 obtain ⟨f,as,p,rfl,h⟩:=h
 replace h:=bN h
 obtain ⟨x,q,rfl,h⟩:=h
 exact ⟨_,_,_,_,rfl,h⟩
@[irreducible] noncomputable def zj (a:Expr) (k:Expr->Str->Pos->Bool):Bool:=match a with | .Attribute o y p=>k o y p | _=>false
theorem r6 {a:Expr} {k:Expr->Str->Pos->Bool} (h:zj a k=true):∃ o y p,a=.Attribute o y p/\k o y p=true:=by
 unfold zj at h
 cases a <;> first | exact ⟨_,_,_,rfl,h⟩ | exact aD h
@[irreducible] noncomputable def Ng (a:Expr) (k:Expr->Str->Pos->List Expr->Pos->Bool):Bool:=CF a fun f as p=>zj f fun o y q=>k o y q as p
theorem Em {a:Expr} {k:Expr->Str->Pos->List Expr->Pos->Bool} (h:Ng a k=true):∃ o y q as p,a=.Call (.Attribute o y q) as [] p/\k o y q as p=true:=by
 unfold Ng at h
 replace h:=zh h
 obtain ⟨f,as,p,rfl,h⟩:=h
 replace h:=r6 h
 obtain ⟨o,y,q,rfl,h⟩:=h
 exact ⟨_,_,_,_,_,rfl,h⟩
@[irreducible] noncomputable def Nf (a:Expr) (k:Expr->Expr->Expr->List Expr->Scope->Pos->Bool):Bool:=match a with
 | .ListComp el gs scope p=>k1 gs fun g=>decide (g.is_async=0)&&k el g.target g.iter g.ifs scope p
 | _=>false
theorem El {a:Expr} {k:Expr->Expr->Expr->List Expr->Scope->Pos->Bool} (h:Nf a k=true):∃ el tn it ifs sc p,a=.ListComp el [⟨tn,it,ifs,0⟩] sc p/\k el tn it ifs sc p=true:=by
 unfold Nf at h
 cases a with
 | ListComp el gs sc p =>
  replace h:=gX h
  obtain ⟨g,rfl,h⟩:=h
  obtain ⟨tn,it,ifs,j⟩:=g
  have h:=(Bool.and_eq_true _ _).mp h
  have e:j=0:=of_decide_eq_true h.1
  subst e
  exact ⟨_,_,_,_,_,_,rfl,h.2⟩
 | _=>exact aD h
@[irreducible] noncomputable def Hq (a:Expr) (d:Bool) (k:List Expr->Bool):Bool:=match a with
 | .Constant c _ _=>(match c with | .str _=>d | _=>false)
 | .JoinedStr vs _=>k vs
 | _=>false
theorem Ho {a:Expr} {d:Bool} {k:List Expr->Bool} (h:Hq a d k=true):(∃ x j p,a=.Constant (.str x) j p/\d=true)\/∃ vs p,a=.JoinedStr vs p/\k vs=true:=by
 unfold Hq at h
 cases a with
 | Constant c j p=>cases c with
  | str x=>exact .inl ⟨_,_,_,rfl,h⟩
  | _=>exact aD h
 | JoinedStr vs p=>exact .inr ⟨_,_,rfl,h⟩
 | _=>exact aD h
@[irreducible] noncomputable def Hl (a:Expr) (s:Str->Bool) (k:Expr->Int->Bool):Bool:=match a with
 | .Constant c _ _=>(match c with | .str y=>s y | _=>false)
 | .FormattedValue v j f _=>f.isNone&&k v j
 | _=>false
theorem Hj {a:Expr} {s:Str->Bool} {k:Expr->Int->Bool} (h:Hl a s k=true):(∃ y j p,a=.Constant (.str y) j p/\s y=true)\/∃ v j p,a=.FormattedValue v j none p/\k v j=true:=by
 unfold Hl at h
 cases a with
 | Constant c j p=>cases c with
  | str x=>exact .inl ⟨_,_,_,rfl,h⟩
  | _=>exact aD h
 | FormattedValue v j f p=>cases f with
  | none=>exact .inr ⟨_,_,_,rfl,h⟩
  | some _=>exact aD h
 | _=>exact aD h
@[irreducible] noncomputable def v8 (a:Stmt) (k:Expr->Expr->Bool):Bool:=match a with | .Assign ts e _=>k1 ts fun t=>k t e | _=>false
theorem nM {a:Stmt} {k:Expr->Expr->Bool} (h:v8 a k=true):∃ t e p,a=.Assign [t] e p/\k t e=true:=by
 unfold v8 at h
 cases a with
 | Assign ts e p =>
  replace h:=gX h
  obtain ⟨t,rfl,h⟩:=h
  exact ⟨_,_,_,rfl,h⟩
 | _=>exact aD h
@[irreducible] noncomputable def HA (a:Stmt) (k:Expr->Bool):Bool:=match a with | .Expr e _=>k e | _=>false
theorem Hz {a:Stmt} {k:Expr->Bool} (h:HA a k=true):∃ e p,a=.Expr e p/\k e=true:=by
 unfold HA at h
 cases a <;> first | exact ⟨_,_,rfl,h⟩ | exact aD h
@[irreducible] noncomputable def Hg (a:Stmt) (d:Bool) (k:Expr->Bool):Bool:=match a with
 | .Return o _=>(match o with | some e=>k e | none=>d)
 | _=>false
theorem Hf {a:Stmt} {d:Bool} {k:Expr->Bool} (h:Hg a d k=true):(∃ p,a=.Return none p/\d=true)\/∃ e p,a=.Return (some e) p/\k e=true:=by
 unfold Hg at h
 cases a with
 | Return o p=>cases o with
  | none=>exact .inl ⟨_,rfl,h⟩
  | some e=>exact .inr ⟨_,_,rfl,h⟩
 | _=>exact aD h
@[irreducible] noncomputable def Hv (a:Stmt) (k:Expr->List Stmt->List Stmt->Bool):Bool:=match a with | .If t l r _=>k t l r | _=>false
theorem Hu {a:Stmt} {k:Expr->List Stmt->List Stmt->Bool} (h:Hv a k=true):∃ t l r p,a=.If t l r p/\k t l r=true:=by
 unfold Hv at h
 cases a <;> first | exact ⟨_,_,_,_,rfl,h⟩ | exact aD h
@[irreducible] noncomputable def kFor (a:Stmt) (k:Expr->Expr->List Stmt->Bool):Bool:=match a with | .For t i b e _=>e.isEmpty&&k t i b | _=>false
theorem Hy {a:Stmt} {k:Expr->Expr->List Stmt->Bool} (h:kFor a k=true):∃ t i b p,a=.For t i b [] p/\k t i b=true:=by
 unfold kFor at h
 cases a with
 | For t i b e p=>cases e with
  | nil=>exact ⟨_,_,_,_,rfl,h⟩
  | cons _ _=>exact aD h
 | _=>exact aD h
@[irreducible] noncomputable def kWh (a:Stmt) (k:Expr->List Stmt->Bool):Bool:=match a with | .While t b e _=>e.isEmpty&&k t b | _=>false
theorem KZ {a:Stmt} {k:Expr->List Stmt->Bool} (h:kWh a k=true):∃ t b p,a=.While t b [] p/\k t b=true:=by
 unfold kWh at h
 cases a with
 | While t b e p=>cases e with
  | nil=>exact ⟨_,_,_,rfl,h⟩
  | cons _ _=>exact aD h
 | _=>exact aD h
@[irreducible] noncomputable def Hi (a:Stmt) (k:Expr->Bool):Bool:=match a with
 | .Raise o c _=>c.isNone&&(match o with | some e=>k e | none=>false)
 | _=>false
theorem Hh {a:Stmt} {k:Expr->Bool} (h:Hi a k=true):∃ e p,a=.Raise (some e) none p/\k e=true:=by
 unfold Hi at h
 cases a with
 | Raise o c p=>cases c with
  | none=>cases o with
   | none=>exact aD h
   | some e=>exact ⟨_,_,rfl,h⟩
  | some _=>exact aD h
 | _=>exact aD h
@[irreducible] noncomputable def G7 (a:Stmt) (k:List Stmt->List ExceptHandler->Bool):Bool:=match a with
 | .Try bd hs e f _=>e.isEmpty&&(f.isEmpty&&(!hs.isEmpty&&k bd hs))
 | _=>false
theorem G6 {a:Stmt} {k:List Stmt->List ExceptHandler->Bool} (h:G7 a k=true):∃ bd h₀ hr p,a=.Try bd (h₀::hr) [] [] p/\k bd (h₀::hr)=true:=by
 unfold G7 at h
 cases a with
 | Try bd hs e f p=>cases e with
  | nil=>cases f with
   | nil=>cases hs with
    | nil=>exact aD h
    | cons _ _=>exact ⟨_,_,_,_,rfl,h⟩
   | cons _ _=>exact aD h
  | cons _ _=>exact aD h
 | _=>exact aD h
@[irreducible] noncomputable def kHd (a:ExceptHandler) (k:Expr->List Stmt->Bool):Bool:=match a with
 | .ExceptHandler t n b _=>n.isNone&&(match t with | some t=>k t b | none=>false)
theorem K2 {a:ExceptHandler} {k:Expr->List Stmt->Bool} (h:kHd a k=true):∃ t b p,a=.ExceptHandler (some t) none b p/\k t b=true:=by
 unfold kHd at h
 cases a with
 | ExceptHandler t n b p=>cases n with
  | none=>cases t with
   | none=>exact aD h
   | some t=>exact ⟨_,_,_,rfl,h⟩
  | some _=>exact aD h
@[irreducible] noncomputable def mL:Es->Bool | .nil=>true | .cons _ _=>false
theorem iS {c:Es} (h:mL c=true):c=.nil:=by
 unfold mL at h
 cases c <;> first | rfl | exact aD h
@[irreducible] noncomputable def oV:Ss->Bool | .nil=>true | .cons _ _=>false
theorem m5 {c:Ss} (h:oV c=true):c=.nil:=by
 unfold oV at h
 cases c <;> first | rfl | exact aD h
@[irreducible] noncomputable def zD:Hs->Bool | .nil=>true | .cons _ _ _=>false
theorem CJ {c:Hs} (h:zD c=true):c=.nil:=by
 unfold zD at h
 cases c <;> first | rfl | exact aD h
@[irreducible] noncomputable def Ni (c:Es) (k:E->Es->Bool):Bool:=match c with | .cons e es=>k e es | .nil=>false
theorem zk {c:Es} {k:E->Es->Bool} (h:Ni c k=true):∃ e es,c=.cons e es/\k e es=true:=by
 unfold Ni at h
 cases c <;> first | exact ⟨_,_,rfl,h⟩ | exact aD h
@[irreducible] noncomputable def Nh (c:Ss) (k:S->Ss->Bool):Bool:=match c with | .cons e es=>k e es | .nil=>false
theorem En {c:Ss} {k:S->Ss->Bool} (h:Nh c k=true):∃ e es,c=.cons e es/\k e es=true:=by
 unfold Nh at h
 cases c <;> first | exact ⟨_,_,rfl,h⟩ | exact aD h
@[irreducible] noncomputable def jHs (c:Hs) (k:List Nat->Ss->Hs->Bool):Bool:=match c with | .cons a b d=>k a b d | .nil=>false
theorem K4 {c:Hs} {k:List Nat->Ss->Hs->Bool} (h:jHs c k=true):∃ a b d,c=.cons a b d/\k a b d=true:=by
 unfold jHs at h
 cases c <;> first | exact ⟨_,_,_,rfl,h⟩ | exact aD h
@[irreducible] noncomputable def HE (c:S) (k:Nat->E->Bool):Bool:=match c with | .set i e=>k i e | _=>false
theorem HD {c:S} {k:Nat->E->Bool} (h:HE c k=true):∃ i e,c=.set i e/\k i e=true:=by
 unfold HE at h
 cases c <;> first | exact ⟨_,_,rfl,h⟩ | exact aD h
@[irreducible] noncomputable def jK (c:E) (k:D->Bool):Bool:=match c with | .k d=>k d | _=>false
theorem jK_t {c:E} {k:D->Bool} (h:jK c k=true):∃ d,c=.k d/\k d=true:=by
 unfold jK at h
 cases c <;> first | exact ⟨_,rfl,h⟩ | exact aD h
@[irreducible] noncomputable def zm (c:E) (k:List Nat->List Nat->E->Src->O->Bool) (d:Bool):Bool:=match c with | .comp _ caps tg elt it cond=>k caps tg elt it cond | _=>d
theorem CG {c:E} {k:List Nat->List Nat->E->Src->O->Bool} {d:Bool} (h:zm c k d=true):(∃ fz caps tg elt it cond,c=.comp fz caps tg elt it cond/\k caps tg elt it cond=true)\/d=true:=by
 unfold zm at h
 cases c <;> first | exact .inl ⟨_,_,_,_,_,_,rfl,h⟩ | exact .inr h
noncomputable def KP (N:List Str) (sc:Scope) (i:Nat) (x:Str):Bool:=decide (N[i]? = some x)&&Cw sc x
noncomputable def Cn (N:List Str) (sc:Scope):List Expr->List Nat->Bool
 | [],[]=>true
 | a::as,i::is=>fk a (fun x=>KP N sc i x)&&Cn N sc as is
 | _,_=>false
noncomputable def ML (N:List Str) (sc:Scope) (t:Expr) (is:List Nat):Bool:=match is with
 | []=>false
 | i::r=>match r with
  | []=>fk t fun x=>KP N sc i x
  | j::r=>match r with
   | []=>zd t fun as=>k2 as fun l r=>fk l fun x=>fk r fun y=>KP N sc i x&&KP N sc j y
   | l::r=>zd t fun as=>Cn N sc as (i::j::l::r)
noncomputable def Nj:Src->Bool | .zip _ _=>true | _=>false
noncomputable def isTup:Expr->Bool | .Tuple _ _ _=>true | _=>false
noncomputable def fu (N:List Str) (caps:List Nat) (tn:List Str):List Str:=(caps.map fun i=>(N[i]?).getD ("" : Str))++tn
noncomputable def nmOf:Expr->Str
 | .Name x _=>x
 | _=>""
noncomputable def cM:Expr->List Str
 | .Name x _=>[x]
 | .Tuple as _ _=>as.map nmOf
 | _=>[]
noncomputable def An (N:List Str) (sc scope:Scope) (caps:List Nat) (tn:List Str):Bool :=
 (scope.names.all fun y=>match y.2 with
  | .free=>(match sc.names.lookup y.1 with | some .cell=>true | some .free=>true | _=>false)
  | .cell=>false
  | .local=>(match scope.names.lookup y.1 with | some .local=>true | _=>false)
  | _=>true)&&(scope.kind == .function) &&
 (caps.all fun i=>match N[i]? with
  | some x=>(match scope.names.lookup x with | some .free=>true | _=>false)
  | none=>false)&&decide ((fu N caps tn).Nodup)
noncomputable def xF (sc scope:Scope) (x:Str) (px pv:Pos):Bool :=
 ((if sc.kind.isAnnotationScope then .function else sc.kind) == .function)&&sc.names.lookup x == some .local&&px.line == pv.line&&!(scope.names.any fun (n,k)=>n == x&&(k == .local||k == .cell))
noncomputable def hdB (G:Gm) (N:List Str) (sc:Scope):List ExceptHandler->Hs->Bool
 | [],hs=>zD hs
 | h::r,hs=>kHd h fun t bd=>fk t fun x=>k1 bd fun st=>v8 st fun ty e=>fk ty fun y=>CC e fun k=>jHs hs fun cs b hs=>k1 cs fun c=>Nh b fun s ss=>oV ss&&HE s fun i v=>jK v fun d =>
  fB sc x&&nD x&&decide (G.exc.lookup x=some c)&&decide (N[i]? = some y)&&Cv sc y&&Dm k d&&hdB G N sc r hs
noncomputable abbrev Rec:=Gm->Bool->List Str->Scope->Nd->Bool
noncomputable def ifsB (ifs:List Expr) (cond:O) (k:Expr->E->Bool):Bool:=match cond with
 | .none=>ifs.isEmpty
 | .some d=>k1 ifs fun c=>k c d
noncomputable def M8 (r:Rec) (G:Gm) (b:Bool) (N:List Str) (sc:Scope) (caps tg:List Nat) (elt:E) (it:Src) (cond:O) (el tn iter:Expr) (ifs:List Expr) (scope:Scope):Bool :=
 (!Nj it||isTup tn)&&yP iter&&An N sc scope caps (cM tn)&&r G b N sc (.i iter it) &&
  ML (fu N caps (cM tn)) (yi scope sc) tn tg&&r G true (fu N caps (cM tn)) (yi scope sc) (.e el elt) &&
  ifsB ifs cond fun c d=>r G true (fu N caps (cM tn)) (yi scope sc) (.t c d)
noncomputable def K6:Mt->Bool | .append=>true | .extend=>true | _=>false
noncomputable def KS:Mt->Str | .append=>"append" | _=>"extend"
noncomputable def chkE (r:Rec) (G:Gm) (b:Bool) (N:List Str) (sc:Scope) (a:Expr) (c:E):Bool:=match c with
 | .bad=>true
 | .v i=>fk a fun x=>decide (N[i]? = some x)&&E4 sc x&&nD x
 | .k d=>CC a fun k=>Dm k d
 | .g i=>fk a fun x=>fB sc x&&decide (G.cst.lookup x=some i)&&nD x
 | .tup cs=>zd a fun as=>decide (as.length<=100)&&r G b N sc (.es as cs)
 | .lst _ cs=>Ht a fun as=>decide (as.length<=100)&&r G b N sc (.es as cs)
 | .op o _ x y=>HC a fun l p q=>decide (p=binOp o)&&r G b N sc (.e l x)&&r G b N sc (.e q y)
 | .neg x=>Nc a fun o l=>sd o&&r G b N sc (.e l x)
 | .and x y=>Jh a fun o v w=>jA o&&r G b N sc (.e v x)&&r G b N sc (.e w y)
 | .or x y=>Jh a fun o v w=>!jA o&&r G b N sc (.e v x)&&r G b N sc (.e w y)
 | .cmp o x y=>CD a fun l p q=>decide (p=Ao o)&&!(behindInMarks p q)&&r G b N sc (.e l x)&&r G b N sc (.e q y)
 | .AU t x y=>Hx a fun u l q=>r G b N sc (.t u t)&&r G b N sc (.e l x)&&r G b N sc (.e q y)
 | .idx x y=>v7 a fun l q=>nSl q&&r G b N sc (.e l x)&&r G b N sc (.e q y)
 | .sl _ x lo hi=>v7 a fun l q=>G9 q fun u v=>r G b N sc (.e l x)&&r G b N sc (.o u lo)&&r G b N sc (.o v hi)
 | .call f cs=>rZ a fun x as=>fB sc x&&nD x&&decide (G.fns.lookup x=some (f,as.length))&&as.all aV&&r G b N sc (.es as cs)
 | .AR x t=>rZ a fun y as=>k2 as fun l z'=>fk z' fun z=>decide (y = "isinstance")&&decide (z=Str.ofString (oN t))&&fB sc y&&fB sc z&&G.ju.contains y&&G.ju.contains z&&aV l&&r G b N sc (.e l x)
 | .blt k _ cs=>rZ a fun y as=>k1 as fun l=>decide (Mg k=some y)&&fB sc y&&G.ju.contains y&&aV l&&r G b N sc (.es [l] cs)
 | .dI m _ x cs=>Ng a fun o y ap as cp=>yQ o&&(ap.endLine == cp.line)&&r G b N sc (.e o x) &&
  bif K6 m then decide (KS m=y)&&k1 as fun l=>aV l&&r G b N sc (.es [l] cs)
  else decide (Ef m=some y)&&as.isEmpty&&mL cs
 | .comp _ caps tg elt it cond=>!b&&Nf a fun el tn iter ifs scope _=>M8 r G b N sc caps tg elt it cond el tn iter ifs scope
 | .fld x f=>zj a fun l y _=>decide (y=f)&&G.CQ.contains f&&yQ l&&r G b N sc (.e l x)
 | .c9 c m nm x cs=>Ng a fun o y ap as cp=>decide (y=nm)&&yQ o&&(ap.endLine == cp.line)&&decide (as.length<29)&&decide (G.Cp.lookup (c,nm)=some (m,as.length+1))&&as.all aV&&r G b N sc (.e o x)&&r G b N sc (.es as cs)
 | .new c i cs=>rZ a fun x as=>fB sc x&&nD x&&decide (G.cls.lookup x=some (c,i,as.length+1))&&as.all aV&&r G b N sc (.es as cs)
 | .mx hi x y=>rZ a fun z as=>k2 as fun l q=>decide (z=if hi then "max" else "min")&&fB sc z&&G.ju.contains z&&aV l&&aV q&&r G b N sc (.e l x)&&r G b N sc (.e q y)
 | .qJ f x=>rZ a fun y as=>k1 as fun l=>decide (f1S f=y)&&fB sc y&&G.ju.contains y&&aV l&&r G b N sc (.e l x)
 | .rv _ x=>v7 a fun l q=>kRv q fun u=>r G b N sc (.e l x)&&r G b N sc (.e u (.neg (.k (.int 1))))
 | .dz x y=>rZ a fun z as=>k1 as fun a'=>rZ a' fun u as=>k2 as fun l q=>decide (z = "dict")&&decide (u = "zip")&&fB sc z&&fB sc u&&G.ju.contains z&&G.ju.contains u&&aV l&&aV q&&r G b N sc (.e l x)&&r G b N sc (.e q y)
 | _=>false
noncomputable def chkT (r:Rec) (G:Gm) (b:Bool) (N:List Str) (sc:Scope) (a:Expr) (c:E):Bool:=match c with
 | .bad=>true
 | .cmp o x y=>CD a fun l p q=>decide (p=Ao o)&&!(behindInMarks p q)&&r G b N sc (.e l x)&&r G b N sc (.e q y)
 | .not x=>Nc a fun o l=>zw o&&r G b N sc (.t l x)
 | .and x y=>Jh a fun o v w=>jA o&&r G b N sc (.t v x)&&r G b N sc (.t w y)
 | .or x y=>Jh a fun o v w=>!jA o&&r G b N sc (.t v x)&&r G b N sc (.t w y)
 | c=>rR a&&r G b N sc (.e a c)
noncomputable def chkI (r:Rec) (G:Gm) (b:Bool) (N:List Str) (sc:Scope) (a:Expr) (c:Src):Bool:=match c with
 | .e c=>yP a&&r G b N sc (.e a c)
 | .eE c=>rZ a fun y as=>k1 as fun l=>decide (y = "range")&&fB sc y&&G.ju.contains y&&aV l&&r G b N sc (.e l c)
 | .gS c d=>rZ a fun y as=>k2 as fun l q=>decide (y = "range")&&fB sc y&&G.ju.contains y&&aV l&&aV q&&r G b N sc (.e l c)&&r G b N sc (.e q d)
 | .dG c d=>rZ a fun y as=>k3 as fun l q u=>decide (y = "range")&&fB sc y&&G.ju.contains y&&aV l&&aV q&&aV u&&r G b N sc (.e l c)&&r G b N sc (.e q d)&&r G b N sc (.e u (.neg (.k (.int 1))))
 | .rev c=>rZ a fun y as=>k1 as fun l=>decide (y = "reversed")&&fB sc y&&G.ju.contains y&&aV l&&r G b N sc (.e l c)
 | _=>false
noncomputable def chkS (r:Rec) (G:Gm) (b:Bool) (N:List Str) (sc:Scope) (a:Stmt) (c:S):Bool:=match c with
 | .bad=>true
 | .set i c=>v8 a fun t e=>kNm t fun x px=>!b&&decide (N[i]? = some x)&&Cv sc x&&zm c (fun caps tg elt it cond=>Nf e fun el tn iter ifs scope lp =>
    bif xF sc scope x px lp then M8 r G b N sc caps tg elt it cond el tn iter ifs scope&&Cw sc x else r G b N sc (.e e c)) (mD e&&r G b N sc (.e e c))
 | .rq x y c=>v8 a fun t e=>v7 t fun o i=>mD e&&r G b N sc (.e e c)&&r G b N sc (.e o x)&&r G b N sc (.e i y)
 | .eG x f c=>v8 a fun t e=>zj t fun o y _=>decide (y=f)&&G.CQ.contains f&&mD e&&r G b N sc (.e e c)&&r G b N sc (.e o x)
 | .ex c=>HA a fun e=>mD e&&r G b N sc (.e e c)
 | .ret c=>Hg a false fun e=>r G b N sc (.e e c)
 | .ifs c x y=>Hv a fun t l q=>r G b N sc (.t t c)&&r G b N sc (.ss l x)&&r G b N sc (.ss q y)
 | .for tg it x=>kFor a fun tn iter body=>!b&&(!Nj it||isTup tn)&&yP iter&&r G b N sc (.i iter it)&&ML N sc tn tg&&r G b N sc (.ss body x)
 | .while c x=>kWh a fun t body=>r G b N sc (.t t c)&&r G b N sc (.ss body x)
 | .raise c es=>!b&&G.rz&&Hi a fun e=>rZ e fun x as=>k1 as fun m=>fB sc x&&nD x&&decide (G.exc.lookup x=some c) &&
   Hq m (mL es) fun vs=>decide (2<=vs.length)&&decide (vs.length<=100)&&r G b N sc (.m vs es)
 | .try x hs els=>!b&&oV els&&G7 a fun bd hds=>r { G with rz:=false } b N sc (.ss bd x)&&hdB G N sc hds hs
 | _=>false
noncomputable def stp (r:Rec) (G:Gm) (b:Bool) (N:List Str) (sc:Scope) (nd:Nd):Bool:=match nd with
 | .e a c=>ug a (fun v=>r G b N sc (.e v c)) (chkE r G b N sc a c)
 | .t a c=>ug a (fun v=>r G b N sc (.t v c)) (chkT r G b N sc a c)
 | .es as cs=>(match as with
  | []=>mL cs
  | a::as=>Ni cs fun c cs=>aV a&&r G b N sc (.e a c)&&r G b N sc (.es as cs))
 | .o a c=>(match c with
  | .none=>a.isNone
  | .some c=>(match a with
   | some a=>r G b N sc (.e a c)
   | none=>false))
 | .i a c=>chkI r G b N sc a c
 | .s a c=>chkS r G b N sc a c
 | .ss as cs=>(match as with
  | []=>oV cs
  | a::as=>Nh cs fun c cs=>r G b N sc (.s a c)&&r G b N sc (.ss as cs))
 | .m as cs=>(match as with
  | []=>mL cs
  | a::as=>Hl a (fun y=>decide (y.length<=100000)&&r G b N sc (.m as cs)) fun v k=>Ni cs fun e es=>decide (k=-1)&&r G b N sc (.e v e)&&r G b N sc (.m as es))
noncomputable def IF:Nat->Rec
 | 0=>fun _ _ _ _ _=>false
 | n+1=>stp (IF n)
noncomputable abbrev ia (G:Gm) (n:Nat) (b:Bool) (N:List Str) (sc:Scope) (nd:Nd):Bool:=IF n G b N sc nd
end Fg
end
section
namespace Fg
open PySem PySem.Spec L2
section
variable {X:Cx}
theorem PE.weak {e:Expr} {t t':TE} (h:PE X e t) (w:∀ σ H Q,t' σ H Q->t σ H Q):PE X e t':=fun pins s σ H Q I q=>h pins s σ H Q I (w σ H Q q)
theorem PT.weak {e:Expr} {t t':TT} (h:PT X e t) (w:∀ σ H Q,t' σ H Q->t σ H Q):PT X e t':=fun pins s σ H Q I q=>h pins s σ H Q I (w σ H Q q)
theorem PW.weak {e:Expr} {t t':TT} (h:PW X e t) (w:∀ σ H Q,t' σ H Q->t σ H Q):PW X e t':=fun wh pins s σ H Q I q=>h wh pins s σ H Q I (w σ H Q q)
theorem PA.weak {e:List Expr} {t t':TA} (h:PA X e t) (w:∀ σ H Q,t' σ H Q->t σ H Q):PA X e t':=fun pos pins s σ H Q I q=>h pos pins s σ H Q I (w σ H Q q)
theorem PO.weak {e:Option Expr} {t t':TO} (h:PO X e t) (w:∀ σ H Q,t' σ H Q->t σ H Q):PO X e t':=fun pins s σ H Q I q=>h pins s σ H Q I (w σ H Q q)
theorem PI.weak {tg e:Expr} {t t':TI} (h:PI X tg e t) (w:∀ σ H Q,t' σ H Q->t σ H Q):PI X tg e t':=fun pins s σ H Q I q=>h pins s σ H Q I (w σ H Q q)
theorem PS.weak {e:Stmt} {t t':TS} (h:PS X e t) (w:∀ D σ H,t' D σ H->t D σ H):PS X e t':=fun pins s σ H D I q=>h pins s σ H D I (w D σ H q)
theorem kg.weak {e:List Stmt} {t t':TS} (h:kg X e t) (w:∀ D σ H,t' D σ H->t D σ H):kg X e t':=fun pins s σ H D I q=>h pins s σ H D I (w D σ H q)
end
theorem ai {e:Expr} {es:List Expr} {env:Env} (h:aV e=true):starEach (e::es) env=(false,eval e env)::starEach es env:=by
 cases e <;> first | rfl | (simp [aV] at h)
theorem cO {env:Env} {pos:Pos}:∀ {es:List Expr},es.all aV=true->(backTo pos (starEach es env)).any (·.1)=false
 | [],_=>rfl
 | e::es,h=>by
  simp only [List.all_cons,Bool.and_eq_true] at h
  rw [ai h.1]
  have:=cO (env:=env) (pos:=pos) h.2
  simpa [backTo] using this
theorem oR {env:Env} {pos:Pos}:∀ {es:List Expr},es.all aV=true->(backTo pos (starEach es env)).all (fun x=>!x.1)=true
 | [],_=>rfl
 | e::es,h=>by
  simp only [List.all_cons,Bool.and_eq_true] at h
  rw [ai h.1]
  have:=oR (env:=env) (pos:=pos) h.2
  simpa [backTo] using this
theorem mF {o:Expr} {name:Str} {apos pos:Pos} {args:List Expr} {env:Env} (hbase:attributeBase o name env (eval o env)=eval o env) (hst:args.all aV=true) (hl:args.length<29) (hline:(apos.endLine == pos.line)=true) :
  eval (.Call (.Attribute o name apos) args [] pos) env=(do
   let ov <- eval o env
   standAt apos.atName
   let (f,first) <- holding [ov] (getMethod ov name (do return (<- importBound o env).getD true))
   callWith pos f first (backTo pos (starEach args env)) (backToKw pos (keywordEach [] env))):=by
 have Ld:methodCallForm (args.length+([]:List Keyword).length) (backTo pos (starEach args env)) (backToKw pos (keywordEach [] env))=true:=by
  unfold methodCallForm
  rw [oR hst]
  simp [backToKw,keywordEach]
  omega
 have hpos:methodCallPos true o env apos pos=pure pos:=by unfold methodCallPos;simp [hline]
 rw [arm_eval_Call,hbase]
 unfold methodCall
 rw [Ld]
 simp only [hpos]
 rfl
theorem set_plain {e:Expr} {env:Env} (h:yP e=true):∀ x,foldedSetIterable e env x=pure x:=by
 intro x;cases e <;> first | rfl | (simp [yP] at h)
theorem xR {e:Expr} (h:nSl e=true):vo e:=by
 intro o i;cases e <;> first | rfl | (simp [nSl] at h)
theorem iH {e:Expr} {t:Option Expr} {l:Nat} {env:Env} (h:mD e=true):swapsWith e t l env=pure false:=by
 cases e <;> first | rfl | (simp [mD] at h)
theorem vB {e:Expr} {env:Env} (h:rR e=true):∀ whole,isTrue e env whole=(do let v <- whole;standAt e.pos;holding [v] (truthy v)):=by
 intro w;cases e <;> first | rfl | (simp [rR] at h)
theorem bC {e:Expr} {n:Str} {env:Env} (h:yQ e=true):attributeBase e n env (eval e env)=eval e env:=by
 cases e <;> first | rfl | (rename_i f _ _ _;cases f <;> first | rfl | (simp [yQ] at h))
theorem boot_dict:bootBuiltins ("dict" : Str)=some (.type "dict"):=by decide +kernel
theorem boot_isinstance:bootBuiltins ("isinstance" : Str)=some (.builtin "isinstance"):=by decide +kernel
theorem Dw:∀ t:Ty,bootBuiltins (Str.ofString (oN t))=some (.type (oN t)):=by
 intro t;cases t <;> decide +kernel
theorem DM:∀ t:Ty, Str.ofString (oN t)≠("__name__" : Str)/\(Str.ofString (oN t) == ("__debug__" : Str))=false:=by
 intro t;cases t <;> decide
noncomputable def jG:Es->Nat
 | .nil=>0
 | .cons _ es=>jG es+1
theorem bw {Φ:bz}:∀ {es:Es} {σ:Sg} {M:MH} {ds:List D} {M':MH},cZ Φ es σ M=.ok ds M'->ds.length=jG es
 | .nil,σ,M,ds,M',h=>by simp only [cZ] at h;cases h;rfl
 | .cons e es,σ,M,ds,M',h=>by
  simp only [cZ] at h
  cases h1:ev Φ e σ M with
  | ok x M1 =>
   rw [h1] at h
   simp only [R.aa] at h
   cases h2:cZ Φ es σ M1 with
   | ok xs M2 =>
    rw [h2] at h
    simp only [R.aa] at h
    cases h
    simp [jG,bw h2]
   | exc c M2=>rw [h2] at h;cases h
   | bad=>rw [h2] at h;cases h
  | exc c M1=>rw [h1] at h;cases h
  | bad=>rw [h1] at h;cases h
theorem aC {a b:Bool} (h:(a&&b)=true):a=true/\b=true:=(Bool.and_eq_true a b).mp h
theorem gp {G:Gm} {b:Bool} {N:List Str} {sc:Scope}:∀ {n:Nat} {as:List Expr} {cs:Es},ia G n b N sc (.es as cs)=true->jG cs=as.length/\as.all aV=true
 | 0,_,_,h=>by cases h
 | n+1,[],cs,h=>by
  have:=iS (c:=cs) h
  subst this
  exact ⟨rfl,rfl⟩
 | n+1,a::as,cs,h=>by
  replace h:=zk (c:=cs) h
  obtain ⟨c,cs,rfl,h⟩:=h
  replace h:=aC h
  obtain ⟨h,h3⟩:=h
  replace h:=aC h
  obtain ⟨h1,h2⟩:=h
  obtain ⟨q1,q2⟩:=gp h3
  exact ⟨congrArg (·+1) q1,by rw [List.all_cons,h1,q2];rfl⟩
inductive wQ (th:Addr->Prop):Hp->Hp->Prop
 | refl (H:Hp):wQ th H H
 | step {H H1 H2:Hp}:AY th H H1->wQ th H1 H2->wQ th H H2
noncomputable def GX:Bool->Cx->XS->Gx
 | true,_,w=>⟨w,fun _=>False,fun cv x σ H H' t h=>by
  rcases t with rfl | ⟨_,_,_,z,_⟩
  ·exact h
  ·exact z.elim⟩
 | false,X,w=>⟨fun cv x σ H=>∃ H',wQ (DO X) H H'/\w cv x σ H',DO X,fun cv x σ H H' t ⟨H2,h1,h2⟩=>⟨H2,.step t h1,h2⟩⟩
theorem oO {X:Cx} {pins:List (Addr×Obj)} {σ:L2.St} {H H':Hp} {s:Shared} (I:Inv X pins σ H s) (t:wQ (DO X) H H'):Inv X pins σ H' s:=by
 induction t with
 | refl=>exact I
 | step t _ ih=>exact ih (dZ I t)
theorem vD {th:Addr->Prop} {H H':Hp} (t:wQ th H H') {b:Addr} (h:H' b≠none):H b≠none:=by
 induction t with
 | refl=>exact h
 | step t _ ih =>
  have:=ih h
  rcases t with rfl | ⟨a,o,kvs,_,h1,rfl⟩
  ·exact this
  ·by_cases e:b=a
   ·subst e;rw [h1];simp
   ·rw [ao e] at this;exact this
theorem qc {X:Cx} {w:XS} {e:Value} {s:Shared} (h:jL X (GX false X w).e e s):jL X w e s:=by
 obtain ⟨pins,σ,H,a,a0,C,B,h1,I,up,fH,hp,H',t,q⟩:=h
 exact ⟨pins,σ,H',a,a0,C,B,h1,oO I t,up,fun b hb hf=>fH b (hb.imp (vD t) id) hf,hp,q⟩
theorem yN {X:Cx} {w:XS} {e:Value} {s:Shared} (h:E1 X (GX false X w).e e s):E1 X w e s:=by
 obtain ⟨pins,σ,H,a,C,vs,hh,h1,I,made,H',t,q⟩:=h
 exact ⟨pins,σ,H',a,C,vs,hh,h1,oO I t,made,q⟩
structure fG (G:Gm) (B:Bd) (Φ:bz) (k:Nat) (X:Cx) (N:List Str) (sc:Scope) (b:Bool) (w:XS):Prop where
 hN:X.N=N
 nd:N.Nodup
 hsc:X.env.scope=sc
 K:B.K=X.K
 calm:X.calm=true
 rm:cy k X.A
 dk:lC B X
 fo:∀ e s,X.xe e s->jL X (GX b X w).e e s\/E1 X (GX b X w).e e s
 fx:∀ e s,jL X (GX b X w).e e s->X.xe e s
 nx:b=false->G.rz=true->∀ e s,E1 X (GX b X w).e e s->X.xe e s
 fr:qF X
 fn:b=false->∀ x,X.fn x=true
 fns:∀ f i m,G.fns.lookup f=some (i,m)->∃ fa fd ps,X.mg f=some (.ref fa)/\W.keepIn X.K (.ref fa)=true/\Binds X.K fd ps []/\cK X.prog X.w X.K X.mg X.base (iZ X.prog X.w) k fa fd ps (AM B Φ i m)
 cst:∀ x i,G.cst.lookup x=some i->∃ v u,X.mg x=some u/\RelV v u/\∀ d,Φ.glob i=some d->∀ F ρ H,RD B F ρ H d v
 blt:∀ x,G.ju.contains x=true->X.mg x=none
 cls:∀ c C,B.cls c=some C->wU X.K C/\∀ f,G.CQ.contains f=true->dU X.K C f
 Cp:∀ c nm i m,G.Cp.lookup (c,nm)=some (i,m)->∃ C fa fd ps,B.cls c=some C/\Meth X.K C nm fa/\Binds X.K fd ps []/\cK X.prog X.w X.K X.mg X.base (iZ X.prog X.w) k fa fd ps (AM B Φ i m)
 KU:∀ x c i m,G.cls.lookup x=some (c,i,m)->∃ C fa fd ps,X.mg x=some (.ref C)/\B.cls c=some C/\Mk X.K C fa/\Binds X.K fd ps [] /\
  ((∃ j,k=j+1/\cK X.prog X.w X.K X.mg X.base (iZ X.prog X.w) j fa fd ps (spI B Φ i m))\/∀ ds M,Φ.ini i ds M=.bad)
 exc:∀ x c, G.exc.lookup x=some c->∃ C bmB newId bm base initId, X.mg x=some (.ref C)/\B.MG c=some C/\B.exc c (.ref C)/\qG X.K C bmB newId bm/\ExcBaseFacts base newId initId bmB/\bm.contains (.type "BaseException")=true
 Jl:∀ c cv,B.exc c cv->∃ C bmB newId bm,cv=.ref C/\qG X.K C bmB newId bm/\∀ d D,B.MG d=some D->(Value.ref C::bm).contains (.ref D)=Φ.sub c d
 IB:∀ x f m d,G.IB.lookup x=some (f,m,d)->∃ fa fd ps du,X.mg x=some (.ref fa)/\W.keepIn X.K (.ref fa)=true/\Binds X.K fd ps [du]/\RelV (.int d) du/\cK X.prog X.w X.K X.mg X.base (iZ X.prog X.w) k fa fd ps (AM B Φ f m)
 st:b=false->X.stack=X.env::X.outer/\X.env.frame=some X.env.locals
section
variable {G:Gm} {B:Bd} {Φ:bz} {k:Nat} {X:Cx} {N:List Str} {sc:Scope} {b:Bool} {w:XS}
theorem fG.rm' (O:fG G B Φ k X N sc b w):Rm X:=by have:=O.rm.un;unfold Rm;omega
theorem fG.kR (O:fG G B Φ k X N sc b w) {x:Str} (h:fB sc x=true):Gl X x:=by
 show X.env.scope.names.lookup x=some .globalImplicit
 rw [O.hsc]
 unfold fB at h
 split at h
 ·assumption
 ·cases h
theorem fG.vis (O:fG G B Φ k X N sc b w) {x:Str} (h:E4 sc x=true):NQ X.env.scope x:=by
 unfold NQ
 rw [O.hsc]
 unfold E4 at h
 split at h
 ·rename_i q;exact .inl q
 ·rename_i q;exact .inr (.inl q)
 ·rename_i q;exact .inr (.inr q)
 ·cases h
theorem fG.loc (O:fG G B Φ k X N sc b w) {x:Str} (h:Cv sc x=true):L2.Loc X.env.scope x:=by
 unfold L2.Loc
 rw [O.hsc]
 unfold Cv at h
 split at h
 ·rename_i q;exact .inl q
 ·rename_i q;exact .inr q
 ·cases h
theorem fO {x:Str} (h:nD x=true):(x == ("__debug__" : Str))=false/\(x == ("__classdict__" : Str))=false:=by
 simp only [nD,Bool.and_eq_true,Bool.not_eq_true'] at h;exact h
theorem fG.EV (O:fG G B Φ k X N sc b w) {scope:Scope} {N':List Str} (hn:N'.Nodup) (cl:List (Str×Addr)) (fp:List Addr) (s:Shared) (H:Hp) (C:Addr) (E:XK):fG G B Φ k (ek X scope cl N' fp s H C E) N' (yi scope sc) true (fun cv x _ H'=>E cv x H') :=
 ⟨rfl,hn,by show relabel scope X.env=yi scope sc;rw [<- O.hsc];rfl,O.K,O.calm,O.rm,O.dk,(fun e s ⟨p,σ,H,a,a0,C,B,h1,I,h⟩=>.inl ⟨p,σ,H,a,a0,C,B,h1,I.bI _,h⟩),(fun e s ⟨p,σ,H,a,a0,C,B,h1,I,h⟩=>⟨p,σ,H,a,a0,C,B,h1,I.aY,h⟩),(fun h=>by cases h),(by
  obtain ⟨env,outer,L,h1,h2,h3⟩:=O.fr
  exact ⟨env,outer,L,h1,h2,h3⟩),(fun h=>by cases h),O.fns,O.cst,O.blt,O.cls,O.Cp,O.KU,O.exc,O.Jl,O.IB,(fun h=>by cases h)⟩
theorem fG.comp (O:fG G B Φ k X N sc b w) {scope:Scope} {caps:List Nat} {tn:List Str} {n:Nat} (h:An N sc scope caps tn=true) (hn:tn.length=n):ir X scope (fu N caps tn) caps n/\(fu N caps tn).Nodup:=by
 simp only [An,Bool.and_eq_true,List.all_eq_true,decide_eq_true_eq] at h
 obtain ⟨⟨⟨h1,h2⟩,h3⟩,h4⟩:=h
 refine ⟨⟨fun x hx=>?_,fun y hy z=>?_,by simpa using h2,fun y hy z=>?_,by simp [fu,hn],fun i j x e1 e2=>?_⟩,h4⟩
 ·have:=h1 _ hx
  show X.env.scope.names.lookup x=some .cell\/X.env.scope.names.lookup x=some .free
  rw [O.hsc]
  simp only at this
  split at this
  ·rename_i q;exact .inl q
  ·rename_i q;exact .inr q
  ·cases this
 ·have:=h1 _ hy
  rw [z] at this
  simp at this
 ·have:=h1 _ hy
  rw [z] at this
  simp only at this
  split at this
  ·assumption
  ·cases this
 ·have hj:j∈caps:=List.mem_of_getElem? e2
  have:=h3 j hj
  have hi:i<caps.length:=(List.getElem?_eq_some_iff.mp e2).1
  unfold fu at e1
  rw [List.getElem?_append_left (by simpa using hi),List.getElem?_map,e2] at e1
  simp only [Option.map_some,Option.some.injEq] at e1
  split at this
  ·rename_i y hy
   rw [hy] at e1
   simp only [Option.getD_some] at e1
   subst e1
   rw [O.hN]
   refine ⟨hy,?_⟩
   split at this
   ·assumption
   ·cases this
  ·cases this
theorem yY {x:Str} (h:Cw sc x=true):sc.names.lookup x=some .local:=by
 unfold Cw at h
 split at h
 ·assumption
 ·cases h
theorem fG.nm (O:fG G B Φ k X N sc b w) {i:Nat} {x:Str} {p:Pos} (h:KP N sc i x=true):PG X (.Name x p) (kU i):=by
 replace h:=aC h
 obtain ⟨h1,h2⟩:=h
 have hl:X.env.scope.names.lookup x=some .local:=by rw [O.hsc];exact yY h2
 exact B3 (by rw [O.hN];exact O.nd) (by rw [O.hN];exact of_decide_eq_true h1) (.inl hl) (.inr hl)
noncomputable def gNs:List Nat->E0
 | []=>Li
 | i::is=>Ez (kU i) (gNs is)
theorem zG:∀ {is:List Nat} {xs:List V} {σ:St} {H:Hp} {Q:St->Hp->Prop},xs.length=is.length->Q (i8 is xs σ) H->gNs is xs σ H Q
 | [],[],σ,H,Q,_,q=>⟨rfl,q⟩
 | [],_::_,_,_,_,h,_=>by cases h
 | _::_,[],_,_,_,h,_=>by cases h
 | i::is,x::xs,σ,H,Q,h,q=>⟨x,xs,rfl,zG (is:=is) (xs:=xs) (σ:=σ.set i (some x)) (by simpa using h) q⟩
theorem fG.nms (O:fG G B Φ k X N sc b w):∀ {as:List Expr} {is:List Nat},Cn N sc as is=true->(assignEach as X.env).length=is.length/\(assignEach as X.env).findIdx? (·.1)=none/\Mw X as (gNs is)/\as.length=is.length
 | [],[],_=>⟨rfl,rfl,ud,rfl⟩
 | [],_::_,h=>by cases h
 | _::_,[],h=>by cases h
 | a::as,i::is,h=>by
  replace h:=aC h
  obtain ⟨h1,h2⟩:=h
  replace h1:=bN h1
  obtain ⟨x,p,rfl,h1⟩:=h1
  obtain ⟨q1,q2,q3,q4⟩:=O.nms h2
  have e:assignEach (.Name x p::as) X.env=(false,assign (.Name x p) X.env)::assignEach as X.env:=rfl
  refine ⟨?_,?_,kH (O.nm (p:=p) h1) q3 (by rw [e];rfl),by rw [List.length_cons,List.length_cons,q4]⟩
  ·rw [e,List.length_cons,List.length_cons,q1]
  ·rw [e,List.findIdx?_cons,q2];rfl
theorem fG.tg (O:fG G B Φ k X N sc b w) {tn:Expr} {tg:List Nat} (h:ML N sc tn tg=true):PG X tn (Lh tg B.K)/\(cM tn).length=tg.length:=by
 cases tg with
 | nil=>cases h
 | cons i r=>cases r with
  | nil =>
   replace h:=bN h
   obtain ⟨x,p,rfl,h⟩:=h
   exact ⟨O.nm h,rfl⟩
  | cons j r=>cases r with
   | cons l r =>
    replace h:=kO h
    obtain ⟨as,k1,pt,rfl,h⟩:=h
    obtain ⟨q1,q2,q3,q4⟩:=O.nms h
    have p:=yx (X:=X) (pos:=pt) (k:=k1) (n:=(i::j::l::r).length) O.calm q3 q1 q2
    refine ⟨fun pins s σ H v u Q I r q=>p pins s σ H v u Q I r ?_,by rw [<- q4];exact List.length_map ..⟩
    obtain ⟨a,xs,e,sq,hl,q⟩:=q
    rw [O.K] at sq
    exact ⟨a,xs,e,sq,hl,zG hl q⟩
   | nil =>
    replace h:=kO h
    obtain ⟨as,k1,pt,rfl,h⟩:=h
    replace h:=r9 h
    obtain ⟨l,r,rfl,h⟩:=h
    replace h:=bN h
    obtain ⟨x,px,rfl,h⟩:=h
    replace h:=bN h
    obtain ⟨y,py,rfl,h⟩:=h
    replace h:=aC h
    obtain ⟨h1,h2⟩:=h
    have p:=yx (X:=X) (pos:=pt) (k:=k1) (n:=2) O.calm (kH (O.nm (p:=px) h1) (kH (O.nm (p:=py) h2) ud))
    refine ⟨fun pins s σ H v u Q I r q=>p pins s σ H v u Q I r ?_,rfl⟩
    obtain ⟨a,x',y',e,sq,q⟩:=q
    rw [O.K] at sq
    exact ⟨a,[x',y'],e,sq,rfl,x',[y'],rfl,y',[],rfl,rfl,q⟩
end
end Fg
end
section
namespace Fg
open PySem PySem.Spec L2
section
variable {G:Gm} {B:Bd} {Φ:bz} {k:Nat}
structure A0 (G:Gm) (B:Bd) (Φ:bz) (k n:Nat) (X:Cx) (N:List Str) (sc:Scope) (b:Bool) (w:XS):Prop where
 e:∀ a c,ia G n b N sc (.e a c)=true->PE X a (T B Φ (GX b X w) c)
 t:∀ a c,ia G n b N sc (.t a c)=true->PT X a (TB B Φ (GX b X w) c)/\(∀ op v p,a=.BoolOp op v p->PW X a (TB B Φ (GX b X w) c))
 es:∀ a c,ia G n b N sc (.es a c)=true->PA X a (TL B Φ (GX b X w) c)
 o:∀ a c,ia G n b N sc (.o a c)=true->PO X a (TP B Φ (GX b X w) c)
 i:b=false->∀ a c tg,(!Nj c||isTup tg)=true->ia G n b N sc (.i a c)=true->PI X tg a (AZ B Φ (GX b X w) c)
 s:∀ a c,ia G n b N sc (.s a c)=true->PS X a (TC B Φ (GX b X w) c)
 ss:∀ a c,ia G n b N sc (.ss a c)=true->kg X a (w6 B Φ (GX b X w) c)
 m:∀ a c,ia G n b N sc (.m a c)=true->PJ X B Φ (GX b X w) a c
theorem AH {E:Gx} {σ:L2.St} {H:Hp} {Q:VK} (h:T B Φ E .bad σ H Q):False:=by
 obtain ⟨σD,M,F,ρ,S,r,h⟩:=h
 simp only [ev] at h
 exact h
theorem IW {E:Gx} {Dn:Ends} {σ:L2.St} {H:Hp} (h:TC B Φ E .bad Dn σ H):False:=by
 obtain ⟨σD,M,F,ρ,S,r,h⟩:=h
 simp only [ex] at h
 exact h
variable {X:Cx} {N:List Str} {sc:Scope} {b:Bool} {n:Nat} {w:XS}
theorem tK {a:Const} {d:D} {j:Nat} {p:Pos} {E:Gx} (h:Dm a d=true):PE X (.Constant a j p) (T B Φ E (.k d)):=by
 unfold Dm at h
 split at h
 ·rw [of_decide_eq_true h];exact PE.weak Gn fun _ _ _=>tN rfl
 ·rw [of_decide_eq_true h];exact PE.weak rL fun _ _ _=>tN rfl
 ·rw [of_decide_eq_true h];exact PE.weak Ku fun _ _ _=>tN rfl
 ·exact PE.weak Gi fun _ _ _=>tN rfl
 ·cases h
theorem uo:∀ {as:List Expr} {is:List Nat},Cn N sc as is=true->as.length=is.length
 | [],[],_=>rfl
 | [],_::_,h=>by cases h
 | _::_,[],h=>by cases h
 | a::as,i::is,h=>by rw [List.length_cons,List.length_cons,uo (aC h).2]
theorem E9 {tn:Expr} {tg:List Nat} (h:ML N sc tn tg=true):(cM tn).length=tg.length:=by
 cases tg with
 | nil=>cases h
 | cons i r=>cases r with
  | nil=>replace h:=bN h;obtain ⟨x,p,rfl,h⟩:=h;rfl
  | cons j r=>cases r with
   | cons l r =>
    replace h:=kO h
    obtain ⟨as,k1,pt,rfl,h⟩:=h
    exact (List.length_map ..).trans (uo h)
   | nil =>
    replace h:=kO h
    obtain ⟨as,k1,pt,rfl,h⟩:=h
    replace h:=r9 h
    obtain ⟨l,r,rfl,h⟩:=h
    rfl
theorem oW (O:fG G B Φ k X N sc false w) (ih:A0 G B Φ k n X N sc false w) (HM:∀ X' N' sc' w',fG G B Φ k X' N' sc' true w'->A0 G B Φ k n X' N' sc' true w') {caps tg:List Nat} {elt:Fg.E} {it:Src} {cond:Fg.O} {el tn iter:Expr} {ifs:List Expr} {scope:Scope}
  (h:M8 (IF n) G false N sc caps tg elt it cond el tn iter ifs scope=true) :
  ir X scope (fu N caps (cM tn)) caps tg.length/\PI X tn iter (AZ B Φ (GX false X w) it) /\
   (∀ σ cl fp s H C,PG (ek X scope cl (fu N caps (cM tn)) fp s H C fun cv x H'=>(GX false X w).e cv x σ H') tn (Lh tg B.K)/\Jp (ek X scope cl (fu N caps (cM tn)) fp s H C fun cv x H'=>(GX false X w).e cv x σ H') ifs (TBo B Φ (EB (GX false X w) σ) cond)/\PE (ek X scope cl (fu N caps (cM tn)) fp s H C fun cv x H'=>(GX false X w).e cv x σ H') el (T B Φ (EB (GX false X w) σ) elt))/\∀ x,foldedSetIterable iter X.env x=pure x:=by
 simp only [M8,Bool.and_eq_true] at h
 obtain ⟨⟨⟨⟨⟨⟨h0,h1⟩,h2⟩,h3⟩,h4⟩,h5⟩,h6⟩:=h
 have hlen:(cM tn).length=tg.length:=E9 h4
 obtain ⟨C1,C2⟩:=O.comp h2 hlen
 refine ⟨C1,ih.i rfl iter it tn h0 h3,fun σ cl fp s H C=>?_,set_plain h1⟩
 have OB:=O.EV (scope:=scope) C2 cl fp s H C fun cv x H'=>(GX false X w).e cv x σ H'
 have S:=HM _ _ _ _ OB
 refine ⟨(OB.tg h4).1,?_,S.e el elt h5⟩
 cases cond with
 | none=>cases ifs with
  | nil=>exact BS
  | cons _ _=>cases h6
 | some d =>
  replace h6:=gX h6
  obtain ⟨c,rfl,h6⟩:=h6
  exact BR (S.t c d h6).1
theorem JU (O:fG G B Φ k X N sc b w) (ih:A0 G B Φ k n X N sc b w) (HM:∀ X' N' sc' w',fG G B Φ k X' N' sc' true w'->A0 G B Φ k n X' N' sc' true w') (a:Expr) (c:Fg.E) (h:ia G (n+1) b N sc (.e a c)=true):PE X a (T B Φ (GX b X w) c):=by
 replace h:=uf h
 rcases h with ⟨o,v,p,rfl,h⟩ | h
 ·exact Gh (ih.e _ _ h)
 ·cases c with
  | bad=>exact fun _ _ _ _ _ _ q=>(AH q).elim
  | v i =>
   replace h:=bN h
   obtain ⟨x,p,rfl,h⟩:=h
   simp only [Bool.and_eq_true,decide_eq_true_eq] at h
   exact PE.weak (Gf (by rw [O.hN];exact h.1.1) (O.vis h.1.2) (fO h.2).1 (fO h.2).2) fun _ _ _=>JV
  | k d =>
   replace h:=ze h
   obtain ⟨x,j,p,rfl,h⟩:=h
   exact tK h
  | g i =>
   replace h:=bN h
   obtain ⟨x,p,rfl,h⟩:=h
   simp only [Bool.and_eq_true,decide_eq_true_eq] at h
   obtain ⟨v,u,q1,q2,q3⟩:=O.cst _ _ h.1.2
   exact PE.weak (B5 (O.kR h.1.1) q1 q2 (fO h.2).1) fun _ _ _=>JW q3
  | tup cs =>
   replace h:=kO h
   obtain ⟨as,j,p,rfl,h⟩:=h
   simp only [Bool.and_eq_true,decide_eq_true_eq] at h
   obtain ⟨hl,_⟩:=gp h.2
   refine PE.weak (Gg (ih.es _ _ h.2)) fun _ _ _=>Bh fun q=>?_
   rw [bw q,hl];exact Nat.le_trans h.1 (by decide)
  | lst fz cs =>
   replace h:=Hr h
   obtain ⟨as,p,rfl,h⟩:=h
   simp only [Bool.and_eq_true,decide_eq_true_eq] at h
   obtain ⟨hl,_⟩:=gp h.2
   refine PE.weak (Gk (ih.es _ _ h.2)) fun _ _ _=>Bu fun q=>?_
   rw [bw q,hl];exact Nat.le_trans h.1 (by decide)
  | Dl=>cases h
  | op o fz x y =>
   replace h:=HB h
   obtain ⟨l,p,q,pos,rfl,h⟩:=h
   simp only [Bool.and_eq_true,decide_eq_true_eq] at h
   obtain ⟨⟨h1,h2⟩,h3⟩:=h
   subst h1
   exact PE.weak (Kq (GJ O.K o) (ih.e _ _ h2) (ih.e _ _ h3)) fun _ _ _=>Fy
  | neg x =>
   replace h:=Ek h
   obtain ⟨o,l,p,rfl,h⟩:=h
   replace h:=aC h
   obtain ⟨ho,h⟩:=h
   cases zu ho
   exact PE.weak (Kn E6 (ih.e _ _ h)) fun _ _ _=>Br
  | not x=>cases h
  | and x y =>
   replace h:=uz h
   obtain ⟨o,v,w,r,p,rfl,h⟩:=h
   replace h:=aC h
   obtain ⟨h,h3⟩:=h
   replace h:=aC h
   obtain ⟨h1,h2⟩:=h
   cases uB h1
   replace h:=And.intro h2 h3
   exact PE.weak (Gq (ih.e _ _ h.1) (ih.e _ _ h.2)) fun _ _ _=>tS
  | or x y =>
   replace h:=uz h
   obtain ⟨o,v,w,r,p,rfl,h⟩:=h
   replace h:=aC h
   obtain ⟨h,h3⟩:=h
   replace h:=aC h
   obtain ⟨h1,h2⟩:=h
   cases zv (by simpa using h1)
   replace h:=And.intro h2 h3
   exact PE.weak (Kp (ih.e _ _ h.1) (ih.e _ _ h.2)) fun _ _ _=>xX
  | cmp o x y =>
   replace h:=zg h
   obtain ⟨l,p,q,pos,rfl,h⟩:=h
   simp only [Bool.and_eq_true,decide_eq_true_eq,Bool.not_eq_true'] at h
   obtain ⟨⟨⟨h1,h2⟩,h3⟩,h4⟩:=h
   subst h1
   exact PE.weak (B7 (yH O.K O.rm' O.dk o) (ih.e _ _ h3) (ih.e _ _ h4) h2) fun _ _ _=>tQ
  | AU t x y =>
   replace h:=Hw h
   obtain ⟨u,l,q,pos,rfl,h⟩:=h
   simp only [Bool.and_eq_true] at h
   exact PE.weak (yE (ih.t _ _ h.1.1).1 (ih.e _ _ h.1.2) (ih.e _ _ h.2)) fun _ _ _=>Bx
  | idx x y =>
   replace h:=nL h
   obtain ⟨l,q,pos,rfl,h⟩:=h
   simp only [Bool.and_eq_true] at h
   exact PE.weak (Kr (HJ O.K O.dk) (ih.e _ _ h.1.2) (ih.e _ _ h.2) (xR h.1.1)) fun _ _ _=>By
  | sl fz x lo hi =>
   replace h:=nL h
   obtain ⟨l,q,pos,rfl,h⟩:=h
   replace h:=G8 h
   obtain ⟨u,v,sp,rfl,h⟩:=h
   simp only [Bool.and_eq_true] at h
   exact PE.weak (yy (Ft O.K) (ih.e _ _ h.1.1) (ih.o _ _ h.1.2) (ih.o _ _ h.2)) fun _ _ _=>Fw
  | call f cs =>
   replace h:=dY h
   obtain ⟨x,p,as,pos,rfl,h⟩:=h
   simp only [Bool.and_eq_true,decide_eq_true_eq] at h
   obtain ⟨⟨⟨⟨h1,h2⟩,h3⟩,h4⟩,h5⟩:=h
   obtain ⟨fa,fd,ps,q1,q2,q3,q4⟩:=O.fns _ _ _ h3
   obtain ⟨hl,_⟩:=gp h5
   cases as with
   | nil =>
    refine PE.weak (vS q4 O.rm (O.kR h1) q1 q2 q3 O.fx (fO h2).1) fun _ _ _ q=>?_
    have:=o7 (fun z=>by rw [bw z,hl]) q
    cases cs with
    | nil=>exact iB this
    | cons _ _=>simp [jG] at hl
   | cons e es =>
    simp only [List.all_cons,Bool.and_eq_true] at h4
    exact PE.weak (yF q4 O.rm (O.kR h1) q1 q2 q3 O.fx (ih.es _ _ h5) (fO h2).1 (ai h4.1) (cO h4.2)) fun _ _ _=>o7 (fun z=>by rw [bw z,hl])
  | vf f cs d=>cases h
  | AR x t =>
   replace h:=dY h
   obtain ⟨y,p,as,pos,rfl,h⟩:=h
   replace h:=r9 h
   obtain ⟨l,z0,rfl,h⟩:=h
   replace h:=bN h
   obtain ⟨z,zp,rfl,h⟩:=h
   simp only [Bool.and_eq_true,decide_eq_true_eq] at h
   obtain ⟨⟨⟨⟨⟨⟨⟨h1,h2⟩,h3⟩,h4⟩,h5⟩,h6⟩,h7⟩,h8⟩:=h
   subst h1 h2
   refine PE.weak (fN (Ar O.K O.dk) (O.kR h3) (O.blt _ h5) boot_isinstance (aP (ih.e _ _ h8) (aP (B8 (v:=.ty (oN t)) (O.kR h4) (O.blt _ h6) (Dw t) rfl (DM t).1 (DM t).2) cQ) (ai h7)) (by decide) (by decide) (ai h7)) fun _ _ _=>Bv
  | blt kd fz cs =>
   replace h:=dY h
   obtain ⟨y,p,as,pos,rfl,h⟩:=h
   replace h:=gX h
   obtain ⟨l,rfl,h⟩:=h
   simp only [Bool.and_eq_true,decide_eq_true_eq] at h
   obtain ⟨⟨⟨⟨h1,h2⟩,h3⟩,h4⟩,h5⟩:=h
   have pa:=ih.es _ _ h5
   cases kd <;> simp only [Mg] at h1 <;> first | (cases h1;done) | cases h1
   ·exact PE.weak (fN (wH O.K O.dk) (O.kR h2) (O.blt _ h3) PySem.boot_len pa (by decide) (by decide) (ai h4)) fun _ _ _=>tR
   ·exact PE.weak (mw (wJ O.dk) (O.kR h2) (O.blt _ h3) boot_dict pa (by decide) (by decide) (ai h4)) fun _ _ _=>tR
  | dI m fz x cs =>
   replace h:=Em h
   obtain ⟨o,y,ap,as,cp,rfl,h⟩:=h
   simp only [Bool.and_eq_true] at h
   obtain ⟨⟨⟨h2,h4⟩,h5⟩,h⟩:=h
   cases hm:K6 m with
   | true =>
    rw [hm] at h
    replace h:=aC h
    obtain ⟨h1,h⟩:=h
    replace h:=gX h
    obtain ⟨l,rfl,h⟩:=h
    replace h:=aC h
    obtain ⟨h3,h6⟩:=h
    cases m <;> first | (cases hm;done) | skip
    all_goals cases of_decide_eq_true h1
    ·refine PE.weak (Ea PySem.F.plainAttrs_list PySem.F.slot_list_append PySem.F.type_list_append mE (ih.e _ _ h5) (ih.es _ _ h6) (bC h2) ?_ h4 (ai h3)) fun _ _ _ q=>?_
     ·rw [ai h3];rfl
     ·have:=rj q
      rw [O.K] at this
      exact this
    ·refine PE.weak (Ea PySem.F.plainAttrs_list PySem.F.slot_list_extend PySem.F.type_list_extend Cq (ih.e _ _ h5) (ih.es _ _ h6) (bC h2) ?_ h4 (ai h3)) fun _ _ _ q=>?_
     ·rw [ai h3];rfl
     ·have:=qZ q
      rw [O.K] at this
      exact this
   | false =>
    rw [hm] at h
    replace h:=aC h
    obtain ⟨h,h7⟩:=h
    replace h:=aC h
    obtain ⟨h1,h6⟩:=h
    cases List.isEmpty_iff.mp h6
    cases iS h7
    replace h1:=of_decide_eq_true h1
    cases m <;> simp only [Ef] at h1 <;> first | (cases h1;done) | cases h1
    ·refine PE.weak (yG PySem.F.plainAttrs_list PySem.F.slot_list_pop PySem.F.type_list_pop GR (ih.e _ _ h5) (bC h2) h4) fun _ _ _ q=>?_
     have:=Bp q
     rw [O.K] at this
     exact this
    ·refine PE.weak (yG PySem.F.plainAttrs_list PySem.F.slot_list_reverse PySem.F.type_list_reverse rS (ih.e _ _ h5) (bC h2) h4) fun _ _ _ q=>?_
     have:=oZ q
     rw [O.K] at this
     exact this
  | comp fz caps tg elt it cond =>
   replace h:=aC h
   obtain ⟨h0,h⟩:=h
   cases b with
   | true=>cases h0
   | false =>
    replace h:=El h
    obtain ⟨el,tn,iter,ifs,scope,p,rfl,h⟩:=h
    obtain ⟨C1,C2,C3,C4⟩:=oW O ih HM h
    exact PE.weak (B4 (B6 O.calm C1 C2 O.fr O.fx C3 C4)) fun _ _ _=>o6
  | chain _ _ _ _ _=>cases h
  | tru _=>cases h
  | fld x f =>
   replace h:=r6 h
   obtain ⟨l,y,p,rfl,h⟩:=h
   simp only [Bool.and_eq_true,decide_eq_true_eq] at h
   obtain ⟨⟨⟨h1,h2⟩,h3⟩,h4⟩:=h
   subst h1
   exact PE.weak (Gp (ih.e _ _ h4) (bC h3)) fun _ _ _=>BB fun c C hc=>⟨(O.cls c C hc).1,(O.cls c C hc).2 _ h2⟩
  | c9 c m nm x cs =>
   replace h:=Em h
   obtain ⟨o,y,ap,as,cp,rfl,h⟩:=h
   simp only [Bool.and_eq_true,decide_eq_true_eq] at h
   obtain ⟨⟨⟨⟨⟨⟨⟨h1,h2⟩,h3⟩,h4⟩,h5⟩,h6⟩,h7⟩,h8⟩:=h
   subst h1
   obtain ⟨C,fa,fd,ps,q1,q2,q3,q4⟩:=O.Cp _ _ _ _ h5
   obtain ⟨hl,_⟩:=gp h8
   cases as with
   | nil =>
    refine PE.weak (vQ (ih.e _ _ h7) (O.cls _ _ q1).1 q2 q4 O.rm q3 O.fx (mF (bC h2) h6 h4 h3)) fun _ _ _ q=>?_
    have:=tL (n:=1) q1 (fun z=>by rw [bw z,hl];rfl) q
    cases cs with
    | nil =>
     obtain ⟨σD,M,F,ρ,S,r,z⟩:=this
     exact ⟨σD,M,F,ρ,S,r,ah.imp z fun v H' ⟨a,dx,fs,z1,z2,z3,z4⟩=>⟨a,dx,fs,z1,z2,z3,iB z4⟩⟩
    | cons _ _=>simp [jG] at hl
   | cons e es =>
    simp only [List.all_cons,Bool.and_eq_true] at h6
    exact PE.weak (yz (ih.e _ _ h7) (O.cls _ _ q1).1 q2 q4 O.rm q3 O.fx (ih.es _ _ h8) (ai h6.1) (cO h6.2) (mF (bC h2) (by simp [h6.1,h6.2]) h4 h3)) fun _ _ _=>tL q1 (fun z=>by rw [bw z,hl])
  | new c i cs =>
   replace h:=dY h
   obtain ⟨x,p,as,pos,rfl,h⟩:=h
   simp only [Bool.and_eq_true,decide_eq_true_eq] at h
   obtain ⟨⟨⟨⟨h1,h2⟩,h3⟩,h4⟩,h5⟩:=h
   obtain ⟨C,fa,fd,ps,q1,q2,q3,q4,q5⟩:=O.KU _ _ _ _ h3
   obtain ⟨hl,_⟩:=gp h5
   rcases q5 with ⟨j,rfl,q5⟩ | q5
   ·cases as with
    | nil =>
     refine PE.weak (vR q3 q5 O.rm (O.kR h1) q1 q4 O.fx (fO h2).1) fun _ _ _ q=>?_
     have:=tM (n:=1) q2 (fun z=>by rw [bw z,hl];rfl) q
     cases cs with
     | nil=>exact iB this
     | cons _ _=>simp [jG] at hl
    | cons e es =>
     simp only [List.all_cons,Bool.and_eq_true] at h4
     exact PE.weak (yD q3 q5 O.rm (O.kR h1) q1 q4 O.fx (ih.es _ _ h5) (fO h2).1 (ai h4.1) (cO h4.2)) fun _ _ _=>tM q2 (fun z=>by rw [bw z,hl])
   ·cases as with
    | nil =>
     intro pins s σ H Q I q
     have:=o4 q5 q
     cases cs with
     | nil=>exact (iB this).elim
     | cons _ _=>simp [jG] at hl
    | cons e es =>
     simp only [List.all_cons,Bool.and_eq_true] at h4
     exact PE.weak (yC q3 (O.kR h1) q1 (ih.es _ _ h5) (fO h2).1 (ai h4.1) (cO h4.2)) fun _ _ _=>o4 q5
  | mx hi x y =>
   replace h:=dY h
   obtain ⟨z,p,as,pos,rfl,h⟩:=h
   replace h:=r9 h
   obtain ⟨l,q,rfl,h⟩:=h
   simp only [Bool.and_eq_true,decide_eq_true_eq] at h
   obtain ⟨⟨⟨⟨⟨⟨h1,h2⟩,h3⟩,h4⟩,h5⟩,h6⟩,h7⟩:=h
   have pa:=aP (ih.e _ _ h6) (aP (ih.e _ _ h7) cQ (ai h5)) (ai h4)
   cases hi with
   | true =>
    subst h1
    exact PE.weak (fN (wG O.calm) (O.kR h2) (O.blt _ h3) PyProof.Rows.boot_max pa (by decide) (by decide) (ai h4) (cO (es:=[_]) (by simp [h5]))) fun _ _ _=>Bt
   | false =>
    subst h1
    exact PE.weak (fN (wF O.calm) (O.kR h2) (O.blt _ h3) PyProof.Rows.boot_min pa (by decide) (by decide) (ai h4) (cO (es:=[_]) (by simp [h5]))) fun _ _ _=>Bs
  | qJ f x =>
   replace h:=dY h
   obtain ⟨y,p,as,pos,rfl,h⟩:=h
   replace h:=gX h
   obtain ⟨l,rfl,h⟩:=h
   simp only [Bool.and_eq_true,decide_eq_true_eq] at h
   obtain ⟨⟨⟨⟨h1,h2⟩,h3⟩,h4⟩,h5⟩:=h
   subst h1
   have pa:=aP (ih.e _ _ h5) cQ (ai h4)
   cases f
   ·exact PE.weak (fN wK (O.kR h2) (O.blt _ h3) PyProof.Rows.boot_abs pa (by decide) (by decide) (ai h4)) fun _ _ _=>tO
   ·exact PE.weak (mw wI (O.kR h2) (O.blt _ h3) (show bootBuiltins ("int" : Str)=some (.type "int") by decide +kernel) pa (by decide) (by decide) (ai h4)) fun _ _ _=>tO
  | all1 x=>cases h
  | M7 fz x=>cases h
  | rv fz x =>
   replace h:=nL h
   obtain ⟨l,q,pos,rfl,h⟩:=h
   replace h:=K0 h
   obtain ⟨u,p2,rfl,h⟩:=h
   simp only [Bool.and_eq_true] at h
   refine PE.weak (Ko (ih.e _ _ h.1) (ih.e _ _ h.2)) fun _ _ _ q=>?_
   have:=Fx q
   rw [O.K] at this
   exact this
  | M6 fz x y=>cases h
  | dz x y =>
   replace h:=dY h
   obtain ⟨z,p,as,pos,rfl,h⟩:=h
   replace h:=gX h
   obtain ⟨a1,rfl,h⟩:=h
   replace h:=dY h
   obtain ⟨u,p2,as2,pos2,rfl,h⟩:=h
   replace h:=r9 h
   obtain ⟨l,q,rfl,h⟩:=h
   simp only [Bool.and_eq_true,decide_eq_true_eq] at h
   obtain ⟨⟨⟨⟨⟨⟨⟨⟨⟨h1,h2⟩,h3⟩,h4⟩,h5⟩,h6⟩,h7⟩,h8⟩,h9⟩,wV⟩:=h
   subst h1 h2
   have pa:=aP (ih.e _ _ h9) (aP (ih.e _ _ wV) cQ (ai h8)) (ai h7)
   refine PE.weak (Ks O.calm (O.kR h3) (O.blt _ h5) (O.kR h4) (O.blt _ h6) pa (by rw [ai h7,ai h8];rfl) (by rw [ai h8];rfl)) fun _ _ _ q=>?_
   have:=FF q
   rw [O.K] at this
   exact this
end
end Fg
end
section
namespace Fg
open PySem PySem.Spec L2
section
variable {G:Gm} {B:Bd} {Φ:bz} {k:Nat} {X:Cx} {N:List Str} {sc:Scope} {b:Bool} {n:Nat} {w:XS}
theorem JR (O:fG G B Φ k X N sc b w) (ih:A0 G B Φ k n X N sc b w) (a:Expr) (c:Fg.E) (h:ia G (n+1) b N sc (.t a c)=true) :
  PT X a (TB B Φ (GX b X w) c)/\(∀ op v p,a=.BoolOp op v p->PW X a (TB B Φ (GX b X w) c)):=by
 replace h:=uf h
 rcases h with ⟨op,v,p,rfl,h⟩ | h
 ·have pt:=(ih.t _ _ h).1
  have pw:PW X (.BoolOp op [v] p) (TB B Φ (GX b X w) c):=by
   cases op
   ·exact pw_and1 pt
   ·exact pw_or1 pt
  exact ⟨pw.pt,fun _ _ _ _=>pw⟩
 ·have notB:∀ {P:Prop},rR a=true->(∀ op v p,a=.BoolOp op v p->P):=fun hq op v p e=>by subst e;simp [rR] at hq
  have plain:rR a=true->ia G n b N sc (.e a c)=true->PT X a (TB B Φ (GX b X w) c)/\(∀ op v p,a=.BoolOp op v p->PW X a (TB B Φ (GX b X w) c)):=fun h1 h2 =>
   ⟨F5 (ih.e _ _ h2) (vB h1),notB h1⟩
  have iG:(rR a&&ia G n b N sc (.e a c))=true->PT X a (TB B Φ (GX b X w) c)/\(∀ op v p,a=.BoolOp op v p->PW X a (TB B Φ (GX b X w) c)):=fun hq=>by
   simp only [Bool.and_eq_true] at hq;exact plain hq.1 hq.2
  cases c with
  | bad=>exact ⟨fun _ _ _ _ _ _ q=>(AH q).elim,fun _ _ _ _ _ _ _ _ _ _ _ q=>(AH q).elim⟩
  | cmp o x y =>
   replace h:=zg h
   obtain ⟨l,p,q,pos,rfl,h⟩:=h
   ·simp only [Bool.and_eq_true,decide_eq_true_eq,Bool.not_eq_true'] at h
    obtain ⟨⟨⟨h1,h2⟩,h3⟩,h4⟩:=h
    subst h1
    exact ⟨PT.weak (BU (yH O.K O.rm' O.dk o) (ih.e _ _ h3) (ih.e _ _ h4) h2) fun _ _ _=>tQ,fun _ _ _ e=>by cases e⟩
  | not x =>
   replace h:=Ek h
   obtain ⟨o,l,p,rfl,h⟩:=h
   replace h:=aC h
   obtain ⟨ho,h⟩:=h
   cases CI ho
   exact ⟨PT.weak (F6 (ih.t _ _ h).1) fun _ _ _=>xZ,fun _ _ _ e=>by cases e⟩
  | and x y =>
   replace h:=uz h
   obtain ⟨o,v,w',r,p,rfl,h⟩:=h
   replace h:=aC h
   obtain ⟨h,h3⟩:=h
   replace h:=aC h
   obtain ⟨h1,h2⟩:=h
   cases uB h1
   have pw:=PW.weak (pw_and (ih.t _ _ h2).1 ((ih.t _ _ h3).2 _ _ _ rfl)) fun _ _ _=>x9
   exact ⟨pw.pt,fun _ _ _ _=>pw⟩
  | or x y =>
   replace h:=uz h
   obtain ⟨o,v,w',r,p,rfl,h⟩:=h
   replace h:=aC h
   obtain ⟨h,h3⟩:=h
   replace h:=aC h
   obtain ⟨h1,h2⟩:=h
   cases zv (by simpa using h1)
   have pw:=PW.weak (pw_or (ih.t _ _ h2).1 ((ih.t _ _ h3).2 _ _ _ rfl)) fun _ _ _=>BC
   exact ⟨pw.pt,fun _ _ _ _=>pw⟩
  | v i=>exact iG h
  | k d=>exact iG h
  | g i=>exact iG h
  | tup cs=>exact iG h
  | lst fz cs=>exact iG h
  | Dl=>exact iG h
  | op o fz x y=>exact iG h
  | neg x=>exact iG h
  | chain _ _ _ _ _=>exact iG h
  | tru _=>exact iG h
  | AU _ _ _=>exact iG h
  | idx _ _=>exact iG h
  | sl _ _ _ _=>exact iG h
  | call _ _=>exact iG h
  | AR _ _=>exact iG h
  | blt _ _ _=>exact iG h
  | dI _ _ _ _=>exact iG h
  | comp _ _ _ _ _ _=>exact iG h
  | fld _ _=>exact iG h
  | c9 _ _ _ _ _=>exact iG h
  | new _ _ _=>exact iG h
  | mx _ _ _=>exact iG h
  | M6 _ _ _=>exact iG h
  | dz _ _=>exact iG h
  | M7 _ _=>exact iG h
  | rv _ _=>exact iG h
  | all1 _=>exact iG h
  | qJ _ _=>exact iG h
  | vf _ _ _=>exact iG h
theorem JT (O:fG G B Φ k X N sc b w) (ih:A0 G B Φ k n X N sc b w) (hb:b=false) (a:Expr) (c:Src) (tg:Expr) (hz:(!Nj c||isTup tg)=true) (h:ia G (n+1) b N sc (.i a c)=true):PI X tg a (AZ B Φ (GX b X w) c):=by
 subst hb
 cases c with
 | e c =>
  replace h:=aC h
  obtain ⟨_,h⟩:=h
  exact PI.weak (Ge O.K (ih.e _ _ h)) fun _ _ _=>FD
 | eE c =>
  replace h:=dY h
  obtain ⟨y,p,as,pos,rfl,h⟩:=h
  replace h:=gX h
  obtain ⟨l,rfl,h⟩:=h
  simp only [Bool.and_eq_true,decide_eq_true_eq] at h
  obtain ⟨⟨⟨⟨h1,h2⟩,h3⟩,h4⟩,h5⟩:=h
  subst h1
  exact PI.weak (vP (O.kR h2) (O.blt _ h3) (aP (ih.e _ _ h5) cQ (ai h4)) (ai h4)) fun _ _ _=>Bk
 | gS c d =>
  replace h:=dY h
  obtain ⟨y,p,as,pos,rfl,h⟩:=h
  replace h:=r9 h
  obtain ⟨l,q,rfl,h⟩:=h
  simp only [Bool.and_eq_true,decide_eq_true_eq] at h
  obtain ⟨⟨⟨⟨⟨⟨h1,h2⟩,h3⟩,h4⟩,h5⟩,h6⟩,h7⟩:=h
  subst h1
  exact PI.weak (vO (O.kR h2) (O.blt _ h3) (aP (ih.e _ _ h6) (aP (ih.e _ _ h7) cQ (ai h5)) (ai h4)) (by rw [ai h4,ai h5];rfl) (by rw [ai h5];rfl)) fun _ _ _=>xW
 | dG c d =>
  replace h:=dY h
  obtain ⟨y,p,as,pos,rfl,h⟩:=h
  replace h:=k3_t h
  obtain ⟨l,q,v,rfl,h⟩:=h
  simp only [Bool.and_eq_true,decide_eq_true_eq] at h
  obtain ⟨⟨⟨⟨⟨⟨⟨⟨h1,h2⟩,h3⟩,h4⟩,h5⟩,h6⟩,h7⟩,h8⟩,h9⟩:=h
  subst h1
  exact PI.weak (vN (O.kR h2) (O.blt _ h3) (aP (ih.e _ _ h7) (aP (ih.e _ _ h8) (aP (ih.e _ _ h9) cQ (ai h6)) (ai h5)) (ai h4)) (by rw [ai h4]) (by rw [ai h5,ai h6];rfl)) fun _ _ _=>xV
 | enum _=>cases h
 | items _=>cases h
 | rev c =>
  replace h:=dY h
  obtain ⟨y,p,as,pos,rfl,h⟩:=h
  replace h:=gX h
  obtain ⟨l,rfl,h⟩:=h
  simp only [Bool.and_eq_true,decide_eq_true_eq] at h
  obtain ⟨⟨⟨⟨h1,h2⟩,h3⟩,h4⟩,h5⟩:=h
  subst h1
  refine PI.weak (Gd (O.kR h2) (O.blt _ h3) (aP (ih.e _ _ h5) cQ (ai h4)) (ai h4)) fun _ _ _ q=>?_
  have:=Bm q
  rw [O.K] at this
  exact this
 | zip c d=>cases h
theorem swap_eq (O:fG G B Φ k X N sc b w) {el tn iter:Expr} {ifs:List Expr} {scope:Scope} {lp px p:Pos} {x:Str}:swapsWith (.ListComp el [⟨tn,iter,ifs,0⟩] scope lp) (some (.Name x px)) p.line X.env=pure (xF sc scope x px lp):=by
 rw [<- O.hsc];rfl
theorem xP (O:fG G B Φ k X N sc false w):∀ {hds:List ExceptHandler} {hs:Hs},hdB G N sc hds hs=true->∃ rs,Jq B Φ (GX false X w) B.MG hs=some rs/\∀ pins,PH (gD X pins) hds rs
 | [],hs,h=>by
  cases CJ (c:=hs) h
  exact ⟨[],rfl,fun _=>.nil⟩
 | hd::r,hs,h=>by
  replace h:=K2 h
  obtain ⟨t,bd,hp,rfl,h⟩:=h
  replace h:=bN h
  obtain ⟨x,np,rfl,h⟩:=h
  replace h:=gX h
  obtain ⟨st,rfl,h⟩:=h
  replace h:=nM h
  obtain ⟨ty,e,p,rfl,h⟩:=h
  replace h:=bN h
  obtain ⟨y,py,rfl,h⟩:=h
  replace h:=ze h
  obtain ⟨cst,j,kp,rfl,h⟩:=h
  replace h:=K4 h
  obtain ⟨cs,b,hs',rfl,h⟩:=h
  replace h:=gX h
  obtain ⟨c,rfl,h⟩:=h
  replace h:=En h
  obtain ⟨s,ss,rfl,h⟩:=h
  replace h:=aC h
  obtain ⟨hss,h⟩:=h
  cases m5 hss
  replace h:=HD h
  obtain ⟨i,v,rfl,h⟩:=h
  replace h:=jK_t h
  obtain ⟨d,rfl,h⟩:=h
  simp only [Bool.and_eq_true,decide_eq_true_eq] at h
  obtain ⟨⟨⟨⟨⟨⟨h1,h2⟩,h3⟩,h4⟩,h5⟩,h6⟩,h7⟩:=h
  obtain ⟨rs,hrs,ph⟩:=xP O h7
  obtain ⟨C,bmB,newId,bm,base,initId,q1,q2,q3,q4,q5,q6⟩:=O.exc _ _ h3
  refine ⟨(C,w6 B Φ (GX false X w) (.cons (.set i (.k d)) .nil))::rs,by simp only [Jq,q2,hrs],fun pins=>.cons q1 (O.kR h1) (fO h2).1 q4 q6 (fun e=>?_) (ph pins)⟩
  have ps:PS (suite (gD X pins) e) (.Assign [.Name y py] (.Constant cst j kp) p) (TC B Φ (GX false X w) (.set i (.k d))) :=
   PS.weak (yu (X:=suite (gD X pins) e) (by show X.N.Nodup;rw [O.hN];exact O.nd) (by show X.N[i]? = some y;rw [O.hN];exact h4) (O.loc h5) (tK h6) (iH rfl) (.inl (O.fn rfl y))) fun _ _ _=>m7
  exact kg.weak (pL ps (kg.weak t9 fun _ _ _=>oY)) fun _ _ _=>l6
theorem Bb {Y:Cx} {E:Value->Shared->Prop} {pins:List (Addr×Obj)} {D:Ends} {f:Flow} {s':Shared} (h:SP Y pins D f s'):SP (Y.bI E) pins D f s':=by
 cases f with
 | next=>obtain ⟨σ',H',I,q⟩:=h;exact ⟨σ',H',I.bI _,q⟩
 | brk=>obtain ⟨σ',H',I,q⟩:=h;exact ⟨σ',H',I.bI _,q⟩
 | cont=>obtain ⟨σ',H',I,q⟩:=h;exact ⟨σ',H',I.bI _,q⟩
 | ret u=>obtain ⟨v,σ',H',I,r,q⟩:=h;exact ⟨v,σ',H',I.bI _,r,q⟩
theorem Bc {rs:List (Addr×TS)} {pins:List (Addr×Obj)} {D:Ends} {x:Ss} {bd:List Stmt} (Nk:∀ G' X' N' sc' b' w',fG G' B Φ k X' N' sc' b' w'->A0 G' B Φ k n X' N' sc' b' w') (O:fG G B Φ k X N sc false w) (h:ia { G with rz:=false } n false N sc (.ss bd x)=true) :
  kg ((gD X pins).bI (jL (gD X pins) (EH X.K rs D))) bd (w6 B Φ (GX false X (EH X.K rs D)) x):=by
 have O':fG { G with rz:=false } B Φ k ((gD X pins).bI (jL (gD X pins) (GX false (gD X pins) (EH X.K rs D)).e)) N sc false (EH X.K rs D) :=
  ⟨O.hN,O.nd,O.hsc,O.K,O.calm,O.rm,O.dk,(fun e s ⟨p,σ,H,a,a0,C,B,h1,I,h⟩=>.inl ⟨p,σ,H,a,a0,C,B,h1,I.bI _,h⟩),(fun e s ⟨p,σ,H,a,a0,C,B,h1,I,h⟩=>⟨p,σ,H,a,a0,C,B,h1,I.aY,h⟩),(fun _ h=>by cases h),(by
   obtain ⟨env,outer,L,h1,h2,h3⟩:=O.fr
   exact ⟨env,outer,L,h1,h2,h3⟩),O.fn,O.fns,O.cst,O.blt,O.cls,O.Cp,O.KU,O.exc,O.Jl,O.IB,O.st⟩
 have P:=(Nk _ _ _ _ _ _ O').ss bd x h
 intro Km s σ H Dn I q
 exact wpAny_mono (P Km s σ H Dn (I.aY.bI _) q) (fun _ _ z=>Bb (SP.aY z)) fun e s2 z=>qc z
theorem Bj {rs:List (Addr×TS)} {hs:Hs} {x:Ss} {Dn:Ends} {σ:L2.St} {H:Hp} (O:fG G B Φ k X N sc false w) (hrs:Jq B Φ (GX false X w) B.MG hs=some rs) (h:TC B Φ (GX false X w) (.try x hs .nil) Dn σ H):w6 B Φ (GX false X (EH X.K rs Dn)) x Dn σ H:=by
 obtain ⟨σD,M,F,ρ,S,r,h⟩:=h
 simp only [ex] at h
 refine ⟨σD,M,F,ρ,S,r,?_⟩
 cases hx:exs Φ x σD M with
 | bad=>rw [hx] at h;exact h
 | exc c M1=>rw [hx] at h;exact h
 | ok o M1 =>
  rw [hx] at h
  simp only [R.aa] at h
  intro F1 ρ1 H1 e1 S1
  cases o with
  | nx σ1=>simp only [exs] at h;exact h F1 ρ1 H1 e1 S1
  | rt d=>exact h F1 ρ1 H1 e1 S1
  | bk σ1=>exact h F1 ρ1 H1 e1 S1
  | ct σ1=>exact h F1 ρ1 H1 e1 S1
  | xc c σ1 =>
   intro σ' cv x' r1 hcv
   obtain ⟨C,bmB,newId,bm,rfl,EC,sub⟩:=O.Jl c cv hcv
   obtain ⟨t,pk,ht⟩:=tP (mro:=.ref C::bm) sub hrs S1 r1 (aO.weak e1 h)
   exact ⟨H1,.refl _,C,bmB,newId,bm,t,rfl,EC,pk,ht⟩
theorem JS (O:fG G B Φ k X N sc b w) (ih:A0 G B Φ k n X N sc b w) (Nk:∀ G' X' N' sc' b' w',fG G' B Φ k X' N' sc' b' w'->A0 G' B Φ k n X' N' sc' b' w') (a:Stmt) (c:S) (h:ia G (n+1) b N sc (.s a c)=true):PS X a (TC B Φ (GX b X w) c):=by
 have HM:=fun X' N' sc' w' (O':fG G B Φ k X' N' sc' true w')=>Nk G X' N' sc' true w' O'
 have hp:PassesOwn (model X.prog X.w) X.A X.env X.xe:=rN O.fr O.fo O.fx
 cases c with
 | bad=>exact fun _ _ _ _ _ _ q=>(IW q).elim
 | set i c =>
  replace h:=nM h
  obtain ⟨t,e,p,rfl,h⟩:=h
  replace h:=K1 h
  obtain ⟨x,px,rfl,h⟩:=h
  simp only [Bool.and_eq_true,decide_eq_true_eq] at h
  obtain ⟨⟨⟨h3,h1⟩,h2⟩,h4⟩:=h
  cases b with
  | true=>cases h3
  | false =>
   have st:ia G n false N sc (.e e c)=true->swapsWith e (some (.Name x px)) p.line X.env=pure false->PS X (.Assign [.Name x px] e p) (TC B Φ (GX false X w) (.set i c)):=fun q w =>
    PS.weak (yu (by rw [O.hN];exact O.nd) (by rw [O.hN];exact h1) (O.loc h2) (ih.e _ _ q) w (.inl (O.fn rfl x))) fun _ _ _=>m7
   replace h4:=CG h4
   rcases h4 with ⟨fz,caps,tg,elt,it,cond,rfl,h4⟩ | h4
   ·obtain ⟨el,tn,iter,ifs,scope,lp,rfl,h4⟩:=El h4
    cases hs:xF sc scope x px lp with
    | true =>
     rw [hs] at h4
     replace h4:=aC h4
     obtain ⟨h4,k7⟩:=h4
     obtain ⟨C1,C2,C3,C4⟩:=oW O ih HM h4
     have hl:X.env.scope.names.lookup x=some .local:=by rw [O.hsc];exact yY k7
     refine PS.weak (ua (BV (by rw [O.hN];exact O.nd) (by rw [O.hN];exact h1) hl O.calm C1 C2 O.fr O.fx C3 C4 (by rw [swap_eq O,hs]))) fun D σ H q=>?_
     exact o6 (m7 q)
    | false =>
     rw [hs] at h4
     exact st h4 (by rw [swap_eq O,hs])
   ·replace h4:=aC h4
    obtain ⟨q1,q2⟩:=h4
    exact st q2 (iH q1)
 | rq x y c =>
  replace h:=nM h
  obtain ⟨t,e,p,rfl,h⟩:=h
  replace h:=nL h
  obtain ⟨o,i,q,rfl,h⟩:=h
  simp only [Bool.and_eq_true] at h
  obtain ⟨⟨⟨h1,h2⟩,h3⟩,h4⟩:=h
  exact PS.weak (BW O.rm' (ih.e _ _ h3) (ih.e _ _ h4) (ih.e _ _ h2) (iH h1)) fun _ _ _=>xT
 | ex c =>
  replace h:=Hz h
  obtain ⟨e,p,rfl,h⟩:=h
  replace h:=aC h
  obtain ⟨h1,h2⟩:=h
  exact PS.weak (BX (ih.e _ _ h2) (iH h1)) fun _ _ _=>FE
 | ret c =>
  replace h:=Hf h
  rcases h with ⟨p,rfl,h⟩ | ⟨e,p,rfl,h⟩
  ·cases h
  ·exact PS.weak (F8 (ih.e _ _ h)) fun _ _ _=>Bo
 | FO=>cases h
 | ifs c x y =>
  replace h:=Hu h
  obtain ⟨t,l,q,p,rfl,h⟩:=h
  replace h:=aC h
  obtain ⟨h,h3⟩:=h
  replace h:=aC h
  obtain ⟨h1,h2⟩:=h
  exact PS.weak (Kf (ih.t _ _ h1).1 (ih.ss _ _ h2) (ih.ss _ _ h3)) fun _ _ _=>Bw
 | «for» tg it x =>
  replace h:=Hy h
  obtain ⟨tn,iter,body,p,rfl,h⟩:=h
  simp only [Bool.and_eq_true] at h
  obtain ⟨⟨⟨⟨⟨h0,hz⟩,h1⟩,h2⟩,h3⟩,h4⟩:=h
  cases b with
  | true=>cases h0
  | false=>exact PS.weak (ua (F9 hp O.calm (ih.i rfl _ _ _ hz h2) (O.tg h3).1 (ih.ss _ _ h4) (set_plain h1))) fun _ _ _=>BA
 | «while» c x =>
  replace h:=KZ h
  obtain ⟨t,body,p,rfl,h⟩:=h
  replace h:=aC h
  obtain ⟨h1,h2⟩:=h
  exact PS.weak (yt hp (ih.t _ _ h1).1 (ih.ss _ _ h2)) fun _ _ _=>vE
 | brk=>cases h
 | cont=>cases h
 | pass=>cases h
 | eG x f c =>
  replace h:=nM h
  obtain ⟨t,e,p,rfl,h⟩:=h
  replace h:=r6 h
  obtain ⟨o,y,q,rfl,h⟩:=h
  simp only [Bool.and_eq_true,decide_eq_true_eq] at h
  obtain ⟨⟨⟨⟨h1,h2⟩,h3⟩,h4⟩,h5⟩:=h
  subst h1
  exact PS.weak (Ga (ih.e _ _ h5) (ih.e _ _ h4) (iH h3)) fun _ _ _=>xU fun c C hc=>⟨(O.cls c C hc).1,(O.cls c C hc).2 _ h2⟩
 | unp tg c=>cases h
 | raise c es =>
  replace h:=aC h
  obtain ⟨h,h'⟩:=h
  replace h:=aC h
  obtain ⟨hb,hz⟩:=h
  cases b with
  | true=>cases hb
  | false =>
   replace h':=Hh h'
   obtain ⟨e,pos,rfl,h⟩:=h'
   replace h:=dY h
   obtain ⟨x,np,as,cp,rfl,h⟩:=h
   replace h:=gX h
   obtain ⟨m,rfl,h⟩:=h
   simp only [Bool.and_eq_true,decide_eq_true_eq] at h
   obtain ⟨⟨⟨h1,h2⟩,h3⟩,h4⟩:=h
   obtain ⟨C,bmB,newId,bm,base,initId,q1,q2,q3,q4,q5,q6⟩:=O.exc _ _ h3
   replace h4:=Ho h4
   rcases h4 with ⟨z,j,p,rfl,h4⟩ | ⟨vs,p,rfl,h4⟩
   ·cases iS h4
    refine PS.weak (pM q1 (O.kR h1) (fO h2).1 q4 q5 O.calm rfl (aP rL cQ rfl) (O.nx rfl hz)) fun D σ H q=>?_
    exact ⟨by show 1<=2 ^ 24;decide,(l7 q3 q).nil⟩
   ·simp only [Bool.and_eq_true,decide_eq_true_eq] at h4
    refine PS.weak (pM q1 (O.kR h1) (fO h2).1 q4 q5 O.calm rfl (aP (Gj (ih.m _ _ h4.2) h4.1.1 h4.1.2) cQ rfl) (O.nx rfl hz)) fun D σ H q=>?_
    obtain ⟨σD,M,F,ρ,S,r,z⟩:=l7 q3 q
    exact ⟨σD,M,F,ρ,S,r,ah.imp z fun _ H' z y=>⟨by show 1<=2 ^ 24;decide,z⟩⟩
 | «try» x hs els =>
  replace h:=aC h
  obtain ⟨h,h'⟩:=h
  replace h:=aC h
  obtain ⟨hb,he⟩:=h
  cases b with
  | true=>cases hb
  | false =>
   cases m5 he
   replace h':=G6 h'
   obtain ⟨bd,h₀,hr,p,rfl,h⟩:=h'
   replace h:=aC h
   obtain ⟨h1,h2⟩:=h
   obtain ⟨rs,hrs,ph⟩:=xP O h2
   exact PS.weak (F7 (O.st rfl).1 (O.st rfl).2 (fun pins D=>Bc Nk O h1) ph) fun D σ H q=>Bj O hrs q
theorem sound:∀ (n:Nat) {G:Gm} {X:Cx} {N:List Str} {sc:Scope} {b:Bool} {w:XS},fG G B Φ k X N sc b w->A0 G B Φ k n X N sc b w
 | 0,G,X,N,sc,b,w,O=>⟨fun _ _ h=>(by cases h),fun _ _ h=>(by cases h),fun _ _ h=>(by cases h),fun _ _ h=>(by cases h),fun _ _ _ _ _ h=>(by cases h),fun _ _ h=>(by cases h),fun _ _ h=>(by cases h),fun _ _ h=>(by cases h)⟩
 | n+1, G, X, N, sc, b, w, O=>by
  have ih:=sound n O
  have HM:=fun X' N' sc' w' (O':fG G B Φ k X' N' sc' true w')=>sound n O'
  refine ⟨JU O ih HM,JR O ih,fun a c h=>?_,fun a c h=>?_,fun hb=>JT O ih hb,JS O ih (fun G' X' N' sc' b' w' O'=>sound n O'),fun a c h=>?_,fun a c h=>?_⟩
  ·cases a with
   | nil =>
    cases iS (c:=c) h
    exact PA.weak cQ fun _ _ _=>iB
   | cons a as =>
    replace h:=zk (c:=c) h
    obtain ⟨c,cs,rfl,h⟩:=h
    replace h:=aC h
    obtain ⟨h,h3⟩:=h
    replace h:=aC h
    obtain ⟨h1,h2⟩:=h
    exact PA.weak (aP (ih.e _ _ h2) (ih.es _ _ h3) (ai h1)) fun _ _ _=>xY
  ·cases c with
   | none =>
    cases a with
    | none=>exact PO.weak B0 fun _ _ _=>FA
    | some _=>cases h
   | some c =>
    cases a with
    | none=>cases h
    | some a=>exact PO.weak (BZ (ih.e _ _ h)) fun _ _ _=>Fz
  ·cases a with
   | nil =>
    cases m5 (c:=c) h
    exact kg.weak t9 fun _ _ _=>oY
   | cons a as =>
    replace h:=En (c:=c) h
    obtain ⟨c,cs,rfl,h⟩:=h
    replace h:=aC h
    obtain ⟨h1,h2⟩:=h
    exact kg.weak (pL (ih.s _ _ h1) (ih.ss _ _ h2)) fun _ _ _=>l6
  ·cases a with
   | nil =>
    cases iS (c:=c) h
    exact .nil
   | cons a as =>
    replace h:=Hj h
    rcases h with ⟨y,j,p,rfl,h⟩ | ⟨v,j,p,rfl,h⟩
    ·replace h:=aC h
     obtain ⟨h1,h2⟩:=h
     exact .lit (of_decide_eq_true h1) (ih.m _ _ h2)
    ·replace h:=zk h
     obtain ⟨e,es,rfl,h⟩:=h
     simp only [Bool.and_eq_true,decide_eq_true_eq] at h
     obtain ⟨⟨h1,h2⟩,h3⟩:=h
     subst h1
     exact .fld (ih.e _ _ h2) (ih.m _ _ h3)
end
end Fg
end
section
namespace Fg
open PySem PySem.Spec L2
inductive DI:List DictEntry->List (Key×V)->Prop
 | nil:DI [] []
 | cons {h:Int} {x:Str} {t:Tok} {u:Value} {v:V} {es:List DictEntry} {kvs:List (Key×V)}:RelV v u->DI es kvs->DI (⟨h,.str x t,u⟩::es) ((Sum.inr x,v)::kvs)
noncomputable def NT (w:World) (K:W.Frag) (a:Addr) (kvs:List (Key×V)):Prop :=
 kvs.length<=sizeLine/\(a == sysModules)=false/\(kvs.map (·.1)).Nodup/\∃ es n, K.lookup a=some ⟨.type "dict", none, .dict es n, #[]⟩/\W.KeysLit w.params es.toList/\DI es.toList kvs
theorem DI.vs {prog:Program} {w:World}:∀ {es:List DictEntry} {kvs:List (Key×V)},DI es kvs->∃ vs,KV kvs vs/\Pairs (aG prog w) es vs/\vs.map (·.1)=kvs.map (·.1)
 | _,_,.nil=>⟨[],.nil,.nil,rfl⟩
 | _,_,.cons (h:=h) (x:=x) (t:=t) (u:=u) r q=>by
  obtain ⟨vs,h1,h2,h3⟩:=DI.vs q
  exact ⟨(Sum.inr x,u)::vs,.cons ⟨rfl,r⟩ h1,.cons (jg x t) rfl h2,by simp [h3]⟩
theorem NT.ok {prog:Program} {w:World} {K:W.Frag} {a:Addr} {kvs:List (Key×V)} (d:NT w K a kvs) (h:Heap) (X:K.In h):kvs.length<=sizeLine/\(a == sysModules)=false/\∃ vs,KV kvs vs/\h.DictOf (aG prog w) a vs:=by
 obtain ⟨h1,h2,h3,es,n,h4,h5,h6⟩:=d
 obtain ⟨vs,q1,q2,q3⟩:=DI.vs (prog:=prog) (w:=w) h6
 refine ⟨h1,h2,vs,q1,_,es,n,X _ _ h4,⟨rfl,rfl,rfl⟩,rfl,fun e he=>?_,q2,by rw [q3];exact h3⟩
 obtain ⟨x,t,e1,e2⟩:=h5.all e (Array.mem_toList_iff.mpr he)
 exact ⟨Sum.inr x,by rw [e1];exact jg x t,e2⟩
theorem Ie {K:W.Frag} {C:Addr} {bmB:List Value} {newId:String} (q:W.excIn K C bmB newId=true):∃ bm,qG K C bmB newId bm/\∀ v b,W.mroIn K C v=some b->(Value.ref C::bm).contains v=b:=by
 unfold W.excIn at q
 split at q
 ·rename_i dd cd sl lk
  split at q
  ·rename_i C2 bm a0 a1 a2 a3 n a5 hm hs
   simp only [beq_iff_eq,Bool.not_eq_true',Bool.and_eq_true] at q;obtain ⟨⟨⟨⟨⟨rfl,rfl⟩,dl⟩,ht⟩,hok⟩,hni⟩:=q
   obtain ⟨nm,bs,mr,ns,qn,hd,sn,sb,ab,cl,dl'⟩:=cd;dsimp only at hm dl hok hni;subst hm dl
   obtain ⟨l⟩:=sl
   simp only at hs
   subst hs
   refine ⟨bm,⟨nm,qn,ns,bs,hd,sn,sb,ab,cl,dd,a0,a1,a2,a3,a5,lk,hok,hni,ht⟩,fun v b e=>?_⟩
   unfold W.mroIn W.clsIn at e
   rw [lk] at e
   simpa using e
  ·cases q
 ·cases q
theorem j9 {C:Addr} {bm:List Value} {s:String} (h:(Value.ref C::bm).contains (.type s)=true):bm.contains (.type s)=true:=by
 rw [List.contains_cons] at h
 simpa using h
noncomputable def lR (w:World) (K:W.Frag) (cl:Nat->Option Addr) (xc:Nat->Option Addr):Bd:=⟨K,NT w K,cl,fun c cv=>∃ C,xc c=some C/\cv=.ref C,xc⟩
theorem Mj {X:Cx} {cl xc:Nat->Option Addr}:lC (lR X.w X.K cl xc) X:=fun a kvs h hp KX=>NT.ok h hp KX
structure DH (K:W.Frag) (x qual:Str) (st:Stmt) (f:Addr) (fd:FuncData):Prop where
 ex:∃ (oc:Value) (od:Option Addr) (dV kV doc pm:Value) (an:Option Addr) (cdv ct:Value) (osl:Array (Option Value)),
  fd=W.fnOf x qual (iU st) (bX st) (aB st) dV kV doc pm an cdv ct/\K.lookup f=some ⟨oc,od,.func fd,osl⟩/\W.codeIn K cdv qual=true
noncomputable def FnAt (G:Gm) (P:lP) (K:W.Frag) (i m:Nat) (fa:Addr) (fd:FuncData) (ps:List Str):Prop:=∃ x qual st N fn,DH K x qual st fa fd/\P.fn i=some fn/\dF N ps (aB st)/\ps.length=m/\fn.np=m/\fn.ns=N.length/\fn.k8=[]/\ia G 200 false N (aB st) (.ss (bX st) fn.body)=true
structure Md (G:Gm) (P:lP) (w:World) (K:W.Frag) (mg:Str->Option Value) (cl xc:Nat->Option Addr):Prop where
 cst:∀ x i,G.cst.lookup x=some i->∃ v u,mg x=some u/\RelV v u/\∀ d,P.glob i=some d->∀ F ρ H,RD (lR w K cl xc) F ρ H d v
 blt:∀ x,G.ju.contains x=true->mg x=none
 fns:∀ f i m,G.fns.lookup f=some (i,m)->∃ fa fd ps,mg f=some (.ref fa)/\W.keepIn K (.ref fa)=true/\Binds K fd ps []/\FnAt G P K i m fa fd ps
 cls:∀ c C,cl c=some C->wU K C/\∀ f,G.CQ.contains f=true->dU K C f
 Cp:∀ c nm i m,G.Cp.lookup (c,nm)=some (i,m)->∃ C fa fd ps,cl c=some C/\Meth K C nm fa/\Binds K fd ps []/\FnAt G P K i m fa fd ps
 KU:∀ x c i m,G.cls.lookup x=some (c,i,m)->∃ C fa fd ps,mg x=some (.ref C)/\cl c=some C/\Mk K C fa/\Binds K fd ps []/\FnAt G P K i m fa fd ps
 exc:∀ x c,G.exc.lookup x=some c->∃ C,mg x=some (.ref C)/\xc c=some C
 Jl:∀ c C, xc c=some C->∃ bmB newId bm base initId, qG K C bmB newId bm/\ExcBaseFacts base newId initId bmB/\bm.contains (.type "BaseException")=true/\∀ d D, xc d=some D->(Value.ref C::bm).contains (.ref D)=P.sub c d
 IB:∀ x f m d,G.IB.lookup x=some (f,m,d)->∃ fa fd ps du,mg x=some (.ref fa)/\W.keepIn K (.ref fa)=true/\Binds K fd ps [du]/\RelV (.int d) du/\FnAt G P K f m fa fd ps
 rz:G.rz=true
section
variable {G:Gm} {P:lP} {w:World} {K:W.Frag} {mg:Str->Option Value} {prog:Program} {base:Heap}
theorem xH {B:Bd} {F:Addr->Prop} {ρ:List Addr} {H:Hp} {N:List Str} {ds:List D} {vs:List V} {n:Nat} (r:aj B F ρ H ds vs) (hn:n=N.length-vs.length):RS B F ρ H (ds.map some++List.replicate n none) (L2.start N vs):=by
 subst hn
 refine ⟨by simp [L2.start,aj.length r],fun i d q=>?_⟩
 by_cases hi:i<ds.length
 ·rw [List.getElem?_append_left (by simpa using hi),List.getElem?_map] at q
  cases hd:ds[i]? with
  | none=>rw [hd] at q;cases q
  | some e =>
   rw [hd] at q
   simp only [Option.map_some,Option.some.injEq] at q
   subst q
   obtain ⟨v,h1,h2⟩:=aj.get r hd
   refine ⟨v,?_,h2⟩
   unfold L2.start
   rw [List.getElem?_append_left (by rw [List.length_map,<- aj.length r];exact hi),List.getElem?_map,h1];rfl
 ·rw [List.getElem?_append_right (by simpa using Nat.le_of_not_lt hi),List.getElem?_replicate] at q
  split at q <;> cases q
theorem mq {B:Bd} {F F':Addr->Prop} {ρ ρ':List Addr} {H H':Hp} {M M':MH} {d:D} {v:V} {kp:Bool} {Q:VK} {X:XK} (S:SR B F ρ M H) (h:Post B (fM kp M d M') F ρ H Q X) (e:Ext F ρ H F' ρ' H') (S':SR B F' ρ' M' H') (rd:RD B F' ρ' H' d v):Q v H':=by
 unfold fM at h
 split at h
 ·rename_i hk
  split at h
  ·rename_i hn
   exact h F' ρ H' v e.cut (S.cut S' e hk.2) (RD.cut e.r (by rw [S.len];exact hn) rd)
  ·rename_i hn
   split at h
   ·rename_i n
    split at h
    ·rename_i ds hM
     split at h
     ·rename_i hns
      simp only [RD] at rd
      obtain ⟨a,h1,rfl⟩:=rd
      obtain ⟨vs,h2,h3⟩:=S'.obj n a _ h1 hM
      have hlt:¬ n<M.length:=by simpa [nr] using hn
      have ha:a∉ρ:=fun z=>by
       obtain ⟨j,hj,ej⟩:=List.mem_iff_getElem.mp z
       have q:ρ'[j]? = some a:=e.at (by rw [List.getElem?_eq_getElem hj,ej])
       obtain ⟨j1,q1⟩:=List.getElem?_eq_some_iff.mp q
       obtain ⟨j2,q2⟩:=List.getElem?_eq_some_iff.mp h1
       have:=(List.getElem_inj S'.nd).mp (q1.trans q2.symm)
       rw [S.len] at hj
       omega
      have hHa:H a=none:=(e.n a (List.mem_of_getElem? h1)).resolve_left ha
      have Sc:=S.cut S' e hk.2
      have r3:=aj.cut e.r (by rw [S.len];exact hns) h3
      have xt:qH F' ρ H' (fun b=>F' b\/b=a) ρ H':=⟨fun _ q=>.inl q,fun _ _ _=>rfl,List.prefix_refl _⟩
      have ec:=e.cut
      refine h (fun b=>F' b\/b=a) ρ H' (.ref a) ⟨⟨ec.s,fun b q=>.inl (ec.f b q),ec.h,ec.r,ec.n,fun b q=>q.elim (ec.g b) fun z=>.inr (.inl (z ▸ hHa))⟩,ec.z⟩ (Sc.take ha (by rw [h2];simp)) ?_
      simp only [RD]
      exact ⟨a,vs,rfl,.inl ⟨.inr rfl,.inl h2⟩,aj.aW xt _ _ r3⟩
     ·exact h F' ρ' H' v e S' rd
    ·exact h F' ρ' H' v e S' rd
   ·exact h F' ρ' H' v e S' rd
 ·exact h F' ρ' H' v e S' rd
theorem vJ {B:Bd} {F F':Addr->Prop} {ρ ρ':List Addr} {H H':Hp} {M M':MH} {c:Nat} {cv:Value} {x:Option Addr} {Q:VK} {X:XK} (S:SR B F ρ M H) (h:Post B (pG M c M') F ρ H Q X) (e:Ext F ρ H F' ρ' H') (S':SR B F' ρ' M' H') (q:B.exc c cv):X cv x H':=by
 unfold pG at h
 split at h
 ·rename_i hk
  exact h F' ρ H' cv x e.cut (S.cut S' e hk) q
 ·exact h F' ρ' H' cv x e S' q
noncomputable abbrev Az (X:Cx) (w:XS):Cx:=X.bI fun e s=>jL X (GX false X w).e e s\/E1 X (GX false X w).e e s
theorem CM {x qual:Str} {st:Stmt} {f:Addr} {fd:FuncData} {N ps:List Str} {k:Nat} {sp:Sp} (F:DH K x qual st f fd) (S:dF N ps (aB st)) (len:∀ vs H Q E,sp vs H Q E->vs.length=ps.length)
  (hbody:∀ (cdv:Value) (A:Around) (outer:List Env) (s:Shared) (H:Hp) (vs:List V) (Q:VK) (E:XK),cy k (A.deeper (PyProof.Rows.envOfC qual (aB st) s.heap.objs.size f cdv))->sp vs H Q E ->
   ∃ t,kg (Az (iW (iZ prog w) prog w K mg base N qual (aB st) f cdv A outer s H E) fun cv x _ H'=>E cv x H') (bX st) t/\t { nx:=fun _ H'=>Q .ak H',rt:=Q } (L2.start N vs) H):cK prog w K mg base (iZ prog w) (k+1) f fd ps sp:=by
 obtain ⟨oc,od,dV,kV,doc,pm,an,cdv,ct,osl,rfl,lk,hcd⟩:=F.ex
 refine EA lk hcd S len fun A outer s H vs Q E hr h=>?_
 obtain ⟨t,h1,h2⟩:=hbody cdv A outer s H vs Q E hr h
 refine ⟨t,fun pins s1 σ H1 D I q=>?_,h2⟩
 exact wpAny_mono (h1 pins s1 σ H1 D (I.bI _) q) (fun _ _ z=>z.aY) fun e s2 z=>z.elim (fun z=>vZ e s2 (qc z)) fun z=>leave_new e s2 (yN z)
theorem mZ {cl xc:Nat->Option Addr} (D:Md G P w K mg cl xc) {k:Nat} (ih:∀ (i m:Nat) (fa:Addr) (fd:FuncData) (ps:List Str),FnAt G P K i m fa fd ps->cK prog w K mg base (iZ prog w) k fa fd ps (AM (lR w K cl xc) (af P k) i m))
  (ih0:∀ j,k=j+1->∀ (i m:Nat) (fa:Addr) (fd:FuncData) (ps:List Str),FnAt G P K i m fa fd ps->cK prog w K mg base (iZ prog w) j fa fd ps (AM (lR w K cl xc) (af P j) i m))
  {f qual:Str} {i m:Nat} {fa:Addr} {fd:FuncData} {ps:List Str} {st:Stmt} {N:List Str} {fn:Fn} (h2:DH K f qual st fa fd) (h4:P.fn i=some fn) (h5:dF N ps (aB st)) (h6:ps.length=m) (h7:fn.np=m) (h8:fn.ns=N.length) (h9:fn.k8=[]) (wV:ia G 200 false N (aB st) (.ss (bX st) fn.body)=true) :
  cK prog w K mg base (iZ prog w) (k+1) fa fd ps (AM (lR w K cl xc) (af P (k+1)) i m):=by
  refine CM h2 h5 (fun vs H Q E q=>by rw [q.1,h6]) fun cdv A outer s H vs Q E hr q=>?_
  let X0:=iW (iZ prog w) prog w K mg base N qual (aB st) fa cdv A outer s H E
  obtain ⟨hl,ds,M,F,ρ,S,rd,post⟩:=q
  have O:fG G (lR w K cl xc) (af P k) k (Az X0 fun cv x _ H'=>E cv x H') N (aB st) false (fun cv x _ H'=>E cv x H') :=
   ⟨rfl,h5.nd,rfl,rfl,rfl,hr,Mj (X:=Az X0 fun cv x _ H'=>E cv x H') (cl:=cl) (xc:=xc),(fun e s z=>z.imp (fun ⟨p,σ,H,a,a0,C,B,h1,I,h⟩=>⟨p,σ,H,a,a0,C,B,h1,I.bI _,h⟩) fun ⟨p,σ,H,a,C,vs,hh,h1,I,h⟩=>⟨p,σ,H,a,C,vs,hh,h1,I.bI _,h⟩),
    (fun e s ⟨p,σ,H,a,a0,C,B,h1,I,h⟩=>.inl ⟨p,σ,H,a,a0,C,B,h1,I.aY,h⟩),(fun _ _ e s ⟨p,σ,H,a,C,vs,hh,h1,I,h⟩=>.inr ⟨p,σ,H,a,C,vs,hh,h1,I.aY,h⟩),⟨_,_,_,rfl,rfl,rfl⟩,fun _ _=>rfl,(fun g j n hg=>by
    obtain ⟨fa,fd,ps,a1,a2,a3,a4⟩:=D.fns g j n hg
    exact ⟨fa,fd,ps,a1,a2,a3,ih j n fa fd ps a4⟩),fun x j hx=>by
    obtain ⟨v,u,a1,a2,a3⟩:=D.cst x j hx
    refine ⟨v,u,a1,a2,fun d hd=>a3 d ?_⟩
    cases k <;> exact hd,D.blt,D.cls,(fun c nm j n hg=>by
    obtain ⟨C,fa,fd,ps,a1,a2,a3,a4⟩:=D.Cp c nm j n hg
    exact ⟨C,fa,fd,ps,a1,a2,a3,ih j n fa fd ps a4⟩),(fun x c j n hg=>by
    obtain ⟨C,fa,fd,ps,a1,a2,a3,a4,a5⟩:=D.KU x c j n hg
    refine ⟨C,fa,fd,ps,a1,a2,a3,a4,?_⟩
    cases k with
    | zero=>exact .inr fun _ _=>rfl
    | succ k'=>exact .inl ⟨k',rfl,ih0 k' rfl j n fa fd ps a5⟩),(fun x c hx=>by
    obtain ⟨C,a1,a2⟩:=D.exc x c hx
    obtain ⟨bmB,newId,bm,base,initId,a3,a4,a5,_⟩:=D.Jl c C a2
    exact ⟨C,bmB,newId,bm,base,initId,a1,a2,⟨C,a2,rfl⟩,a3,a4,a5⟩),(fun c cv hc=>by
    obtain ⟨C,a2,rfl⟩:=hc
    obtain ⟨bmB,newId,bm,base,initId,a3,a4,a5,a6⟩:=D.Jl c C a2
    refine ⟨C,bmB,newId,bm,rfl,a3,fun d D' hd=>(a6 d D' hd).trans ?_⟩
    cases k <;> rfl),(fun x f m d hd=>by
    obtain ⟨fa,fd,ps,du,a1,a2,a3,a4,a5⟩:=D.IB x f m d hd
    exact ⟨fa,fd,ps,du,a1,a2,a3,a4,ih f m fa fd ps a5⟩),fun _=>⟨rfl,rfl⟩⟩
  refine ⟨_,(sound 200 O).ss _ _ wV,_,M,F,ρ,S,xH (n:=fn.ns-fn.np) rd (by rw [h8,h7,hl]),?_⟩
  have hds:ds.length=m:=by rw [aj.length rd,hl]
  have hc:(af P (k+1)).call i ds M=kB (af P k) fn ds M:=by simp only [af,h4]
  rw [hc] at post
  have hz:ds.length+fn.k8.length-fn.np=0:=by rw [h9,h7,hds];simp
  unfold kB at post
  rw [if_pos (by rw [h9,h7,hds];simp),hz,h9] at post
  simp only [List.drop_nil,List.append_nil] at post
  cases hx:exs (af P k) fn.body (ds.map some++List.replicate (fn.ns-fn.np) none) M with
  | bad=>rw [hx] at post;exact post
  | exc c M'=>rw [hx] at post;exact post
  | ok o M' =>
   rw [hx] at post
   intro F' ρ' H' e S'
   cases o with
   | rt d=>exact fun v q=>mq S post e S' q
   | nx σ'=>exact fun σ q=>mq S post e S' (d:=.ak) (v:=.ak) (by simp only [RD])
   | bk _=>exact post.elim
   | ct _=>exact post.elim
   | xc c σ' =>
    intro σ cv x q1 q2
    exact ⟨H',.refl _,vJ S post e S' q2⟩
theorem ly {cl xc:Nat->Option Addr} (D:Md G P w K mg cl xc):∀ (k:Nat) (i m:Nat) (fa:Addr) (fd:FuncData) (ps:List Str),FnAt G P K i m fa fd ps->cK prog w K mg base (iZ prog w) k fa fd ps (AM (lR w K cl xc) (af P k) i m)
 | 0, i, m, fa, fd, ps, h=>by
  have no:∀ vs H Q E,¬ AM (lR w K cl xc) (af P 0) i m vs H Q E:=fun vs H Q E q=>by
   obtain ⟨_,ds,M,F,ρ,_,_,q⟩:=q
   exact q
  exact ⟨fun vs H Q E q=>absurd q (no vs H Q E),fun A outer s H args us vs Q E _ _ _ _ q=>absurd q (no vs H Q E)⟩
 | 1,i,m,fa,fd,ps,h=>by
  obtain ⟨x,qual,st,N,fn,h2,h4,h5,h6,h7,h8,h9,wV⟩:=h
  exact mZ D (ly D 0) (fun j e=>by cases e) h2 h4 h5 h6 h7 h8 h9 wV
 | k+2,i,m,fa,fd,ps,h=>by
  obtain ⟨x,qual,st,N,fn,h2,h4,h5,h6,h7,h8,h9,wV⟩:=h
  exact mZ D (ly D (k+1)) (fun j e=>by cases e;exact ly D k) h2 h4 h5 h6 h7 h8 h9 wV
noncomputable def DW (K:W.Frag):Sp:=fun vs H Q _=>∃ (a:Addr) (ns:List Int),vs=[.ref a]/\fJ K H a (ns.map V.int)/\ns.length<=63/\∀ H',Q (.bl true) H'
theorem GZ {cl xc:Nat->Option Addr} (D:Md G P w K mg cl xc) {f qual:Str} {i k:Nat} (hP:∀ ns:List Int,ns.length<=63->∃ M',(af P (k+1)).call i [.lst (ns.map .int)] []=.ok (.bl true) M')
  {fa:Addr} {fd:FuncData} {ps:List Str} {st:Stmt} {N:List Str} {fn:Fn} (h2:DH K f qual st fa fd) (h4:P.fn i=some fn) (h5:dF N ps (aB st)) (h6:ps.length=1) (h7:fn.np=1) (h8:fn.ns=N.length) (h9:fn.k8=[]) (wV:ia G 200 false N (aB st) (.ss (bX st) fn.body)=true) :
  cK prog w K mg base (iZ prog w) (k+1) fa fd ps (DW K):=by
 refine (mZ (prog:=prog) (base:=base) D (ly D k) (fun j _=>ly D j) h2 h4 h5 h6 h7 h8 h9 wV).imp fun vs H Q E q=>?_
 obtain ⟨a,ns,rfl,hS,hl,q⟩:=q
 obtain ⟨M',hM⟩:=hP ns hl
 have Ep:∀ (F:Addr->Prop) (ns:List Int),aj (lR w K cl xc) F [] H (ns.map Fg.D.int) (ns.map V.int):=by
  intro F ns
  induction ns with
  | nil=>exact aj.nil
  | cons n ns ih=>exact aj.cons (by simp only [RD]) ih
 have fin:∀ F:Addr->Prop,Post (lR w K cl xc) ((af P (k+1)).call i [.lst (ns.map .int)] []) F [] H Q E:=by
  intro F
  rw [hM]
  intro F' ρ' H' v e S' rd
  simp only [RD] at rd
  subst rd
  exact q H'
 rcases hS with hS | hS
 ·refine ⟨rfl,[.lst (ns.map .int)],[],fun b=>b=a,[],⟨rfl,List.nodup_nil,fun _ z=>by simp at z,fun b e=>by rw [e];exact D0 hS,fun n b o z=>by simp at z⟩,?_,fin _⟩
  refine aj.cons ?_ aj.nil
  simp only [RD]
  exact ⟨a,_,rfl,.inl ⟨rfl,hS⟩,Ep _ ns⟩
 ·refine ⟨rfl,[.lst (ns.map .int)],[],fun _=>False,[],⟨rfl,List.nodup_nil,fun _ z=>by simp at z,fun b e=>e.elim,fun n b o z=>by simp at z⟩,?_,fin _⟩
  refine aj.cons ?_ aj.nil
  simp only [RD]
  exact ⟨a,_,rfl,.inr hS,Ep _ ns⟩
end
end Fg
end
section
namespace Fg
open PySem PySem.Spec L2
theorem tw:∀ {ps:List Str} {us:List Value} {n:Str},n∉ps->(ps.zip us).lookup n=none
 | [],_,_,_=>rfl
 | _::_,[],_,_=>rfl
 | p::ps,u::us,n,h=>by
  rw [List.zip_cons_cons,List.lookup_cons,show (n == p)=false from beq_eq_false_iff_ne.mpr fun e=>h (e ▸ List.mem_cons_self)]
  exact tw fun z=>h (List.mem_cons_of_mem _ z)
theorem ki:∀ {ps:List Str} {us:List Value} {n:Str},n∈ps->ps.length<=us.length->((ps.zip us).lookup n).isNone=false
 | p::ps,[],n,_,hl=>by simp at hl
 | p::ps,u::us,n,h,hl=>by
  rw [List.zip_cons_cons,List.lookup_cons]
  cases e:n == p with
  | true=>rfl
  | false =>
   have e:=beq_eq_false_iff_ne.mp e
   exact ki ((List.mem_cons.mp h).resolve_left e) (by simpa using hl)
theorem qb {α β:Type} {f g:α->Option β}:∀ {l:List α},(∀ n∈l,f n=g n)->l.filterMap f=l.filterMap g
 | [],_=>rfl
 | a::l,h=>by
  rw [List.filterMap_cons,List.filterMap_cons,h a List.mem_cons_self,qb fun n hn=>h n (List.mem_cons_of_mem _ hn)]
theorem jU:∀ {ps:List Str} {us:List Value},ps.Nodup->us.length=ps.length->(ps.filterMap fun n=>((ps.zip us).lookup n).map (n,·))=ps.zip us
 | [],_,_,_=>rfl
 | p::ps,[],_,hl=>by simp at hl
 | p::ps,u::us,nd,hl=>by
  rw [List.nodup_cons] at nd
  rw [List.zip_cons_cons,List.filterMap_cons,List.lookup_cons,beq_self_eq_true]
  simp only [Option.map_some]
  congr 1
  refine Eq.trans ?_ (jU (us:=us) nd.2 (by simpa using hl))
  exact qb fun n hn=>by rw [List.lookup_cons,show (n == p)=false from beq_eq_false_iff_ne.mpr fun e=>nd.1 (e ▸ hn)]
noncomputable def kD (a:Arguments) (ps:List Str):Bool:=a.posonlyargs.isEmpty&&a.kwonlyargs.isEmpty&&a.vararg.isNone&&a.kwarg.isNone&&decide (a.args.map (·.arg)=ps)
section
variable {s:Shared} {fd:FuncData} {ps:List Str} {us:List Value}
theorem jx {us:List Value} {qs:List Str} (h:∀ n∈qs,((ps.zip us).lookup n).isNone=false):(qs.filter fun n=>((ps.zip us).lookup n).isNone)=[]:=by
 rw [List.filter_eq_nil_iff]
 intro n hn
 rw [h n hn]
 decide
theorem jJ (hp:kD fd.params ps=true) (nd:ps.Nodup) (hd:fd.defaults=.none) (hl:us.length=ps.length):BindsTo s fd ⟨us,[]⟩ (ps.zip us):=by
 simp only [kD,Bool.and_eq_true,List.isEmpty_iff,Option.isNone_iff_eq_none,decide_eq_true_eq] at hp
 obtain ⟨⟨⟨⟨h1,h2⟩,h3⟩,h4⟩,h5⟩:=hp
 refine BindsTo.of_eq ?_
 unfold bindArgs
 simp only [h1,h2,h3,h4,h5,hd,List.map_nil,List.nil_append,List.append_nil,List.forIn_nil,Option.isNone_none,Bool.and_true,pure_bind]
 rw [show seqItems? Value.none=pure none from rfl,pure_bind]
 simp only [Option.getD_none,List.length_nil,Nat.zero_sub,List.drop_zero,Nat.sub_zero,List.take_length]
 rw [jx fun n hn=>ki hn (Nat.le_of_eq hl.symm),if_neg (by rw [hl];simp)]
 simp only [List.isEmpty_nil,Bool.not_true,Bool.false_eq_true,if_false,List.drop_length,List.zip_nil_left,List.forIn_nil,pure_bind]
 rw [jU nd hl]
theorem mS (hp:kD fd.params ps=true) (nd:ps.Nodup) {T:Addr} {o:Obj} {its:Array Value} {n:Nat} {du:Value} (hd:fd.defaults=.ref T) (ho:s.heap.get? T=some o) (hs:o.data=.seq its n) (hi:its.toList=[du])
  {ds:List Value} (hds:ds=[]\/ds=[du]) (hl:(us++ds).length=ps.length) (h0:ps≠[]):BindsTo s fd ⟨us,[]⟩ (ps.zip (us++ds)):=by
 simp only [kD,Bool.and_eq_true,List.isEmpty_iff,Option.isNone_iff_eq_none,decide_eq_true_eq] at hp
 obtain ⟨⟨⟨⟨h1,h2⟩,h3⟩,h4⟩,h5⟩:=hp
 obtain ⟨qs,z,rfl⟩:∃ qs z,ps=qs++[z]:=by
  rcases List.eq_nil_or_concat ps with e | ⟨qs,z,e⟩
  ·exact absurd e h0
  ·exact ⟨qs,z,by simpa using e⟩
 intro M A E Q hq
 unfold bindArgs
 simp only [h1,h2,h3,h4,h5,hd,List.map_nil,List.nil_append,List.append_nil,List.forIn_nil,Option.isNone_none,Bool.and_true,pure_bind]
 refine wpAny_bind (wpAny_seqItems ho hs ?_)
 simp only [Option.getD_some,hi,List.length_append,List.length_cons,List.length_nil] at hl ⊢
 have hz:z∉qs:=fun m=>by
  rw [List.nodup_append] at nd
  exact nd.2.2 z m z List.mem_cons_self rfl
 rw [show (0+1-(qs.length+(0+1)))=0 by omega,List.drop_zero,List.length_cons,List.length_nil,show qs.length+(0+1)-(0+1)=qs.length by omega,List.take_left,List.drop_left,
  jx (fun n hn=>?_),if_neg (by simp;rcases hds with rfl | rfl <;> simp at hl <;> omega)]
 ·simp only [List.isEmpty_nil,Bool.not_true,Bool.false_eq_true,if_false,List.zip_cons_cons,List.zip_nil_right,List.forIn_cons,List.forIn_nil,pure_bind]
  rcases hds with rfl | rfl
  ·rw [List.append_nil] at hq
   rw [ki (by simp) (by simp at hl ⊢;omega)]
   simp only [Bool.false_eq_true,if_false,pure_bind]
   rw [jU nd (by simpa using hl)]
   exact wpAny_pure hq
  ·have hl':us.length=qs.length:=by simp at hl;omega
   have e:(qs++[z]).zip us=qs.zip us:=by
    rw [show us=us++[] by simp,List.zip_append hl'.symm];simp
   have e2:(qs++[z]).zip (us++[du])=qs.zip us++[(z,du)]:=by
    rw [List.zip_append hl'.symm];simp
   rw [e,tw hz]
   simp only [Option.isNone_none,if_true,pure_bind]
   rw [<- e2,jU nd (by simpa using hl)]
   exact wpAny_pure hq
 ·rcases hds with rfl | rfl
  ·exact ki (by simp [hn]) (by simp at hl ⊢;omega)
  ·have hl':us.length=qs.length:=by simp at hl;omega
   have e:(qs++[z]).zip us=qs.zip us:=by
    rw [show us=us++[] by simp,List.zip_append hl'.symm];simp
   rw [e]
   exact ki hn (Nat.le_of_eq hl'.symm)
end
end Fg
end
section
namespace Fg
open PySem PySem.Spec L2
theorem EZ {K:W.Frag} {x:Str} {a:Addr} (h:adr K x=some a):W.nsIn K mainGlobals x=some (some (.ref a)):=by
 unfold adr at h
 split at h
 ·rename_i e;cases h;exact e
 ·cases h
theorem qw {K:W.Frag} {v:Value} (h:jr K v=some none):v=.none:=by
 unfold jr at h
 split at h
 ·rfl
 ·split at h
  ·split at h <;> cases h
  ·cases h
 ·cases h
theorem qu {K:W.Frag} {v:Value} {d:Int} (h:jr K v=some (some d)):∃ T oc od its n sl tk,v=.ref T/\K.lookup T=some ⟨oc,od,.seq its n,sl⟩/\its.toList=[.int d tk]:=by
 unfold jr at h
 split at h
 ·cases h
 ·split at h
  ·rename_i T _ oc od its n sl lk
   split at h
   ·rename_i _ d' tk hi
    cases h
    exact ⟨T,oc,od,its,n,sl,tk,rfl,lk,hi⟩
   ·cases h
  ·cases h
 ·cases h
theorem zI {K:W.Frag} {f:Addr} {r:Row} (h:qa K f=some r.good):∃ oc od dV kV doc pm an cdv ct osl,
  K.lookup f=some ⟨oc,od,.func (W.fnOf r.x r.ql (iU r.st) (bX r.st) (aB r.st) dV kV doc pm an cdv ct),osl⟩/\W.codeIn K cdv r.ql=true/\jr K dV=some r.k8:=by
 unfold qa at h
 split at h
 ·rename_i oc od fd osl lk
  simp only [Row.good,Option.some.injEq,Prod.mk.injEq] at h
  obtain ⟨h1,h2,h3,h4,h5,h6,h7,h8,h9,wV⟩:=h
  obtain ⟨f1,f2,f3,f4,f5,f6,f7,f8,f9,f10,f11,f12,f13,f14,f15⟩:=fd
  dsimp only at h1 h2 h3 h4 h5 h6 h7 h8 h9 wV
  subst h1 h2 h3 h4 h5 h6 h7 h8
  exact ⟨oc,od,f8,f9,f10,f11,f12,f13,f14,osl,lk,wV,h9⟩
 ·cases h
noncomputable def scB (N P:List Str) (sc:Scope):Bool:=decide (sc.kind=.function)&&!sc.isCoroutine&&!sc.isGenerator&&decide N.Nodup&&decide (N.take P.length=P) &&
 (P.all fun x=>decide (sc.names.lookup x=some .local)||decide (sc.names.lookup x=some .cell))&&sc.names.all fun y=>decide (y.2≠.free)
theorem JZ {N P:List Str} {sc:Scope} (h:scB N P sc=true):dF N P sc:=by
 simp only [scB,Bool.and_eq_true,decide_eq_true_eq,Bool.not_eq_true',List.all_eq_true,Bool.or_eq_true] at h
 obtain ⟨⟨⟨⟨⟨⟨h1,h2⟩,h3⟩,h4⟩,h5⟩,h6⟩,h7⟩:=h
 exact ⟨h1,h2,h3,h4,h5,h6,h7⟩
noncomputable def Row.ok (G:Gm) (P:lP) (r:Row):Bool:=match P.fn r.i with
 | some fn=>scB r.N r.ps (aB r.st)&&kD (iU r.st) r.ps&&decide (fn.np=r.ps.length)&&decide (fn.ns=r.N.length)&&fn.k8.isEmpty&&(r.k8.isNone||!r.ps.isEmpty)&&ia G 200 false r.N (aB r.st) (.ss (bX r.st) fn.body)
 | none=>false
structure Rw (G:Gm) (P:lP) (K:W.Frag) (r:Row) (f:Addr) (fd:FuncData):Prop where
 at_:FnAt G P K r.i r.ps.length f fd r.ps
 bd:Binds K fd r.ps []
 kp:W.keepIn K (.ref f)=true
 bn:r.k8=none->∀ (s:Shared) (us:List Value),us.length=r.ps.length->BindsTo s fd ⟨us,[]⟩ (r.ps.zip us)
 df:∀ d,r.k8=some d->∃ tk,Binds K fd r.ps [.int d tk]
theorem CB {K:W.Frag} {f:Addr} {oc:Value} {od:Option Addr} {fd:FuncData} {sl:Array (Option Value)} (h:K.lookup f=some ⟨oc,od,.func fd,sl⟩):W.keepIn K (.ref f)=true:=by
 simp only [W.keepIn,h]
theorem yg {G:Gm} {P:lP} {K:W.Frag} {r:Row} {f:Addr} (h:qa K f=some r.good) (ok:r.ok G P=true):∃ fd,Rw G P K r f fd:=by
 obtain ⟨oc,od,dV,kV,doc,pm,an,cdv,ct,osl,lk,hc,hd⟩:=zI h
 unfold Row.ok at ok
 split at ok
 ·rename_i fn hf
  simp only [Bool.and_eq_true,decide_eq_true_eq,List.isEmpty_iff] at ok
  obtain ⟨⟨⟨⟨⟨⟨k1,k2⟩,k3⟩,k4⟩,k5⟩,k6⟩,k7⟩:=ok
  have S:=JZ k1
  have nd:r.ps.Nodup:=by rw [<- S.pre];exact S.nd.sublist (List.take_sublist _ _)
  refine ⟨_,⟨_,_,_,_,_,⟨⟨oc,od,dV,kV,doc,pm,an,cdv,ct,osl,rfl,lk,hc⟩⟩,hf,S,rfl,k3,k4,k5,k7⟩,?_,CB lk,fun e s us hl=>?_,fun d e=>?_⟩
  ·intro s us KX hl
   cases e:r.k8 with
   | none =>
    rw [e] at hd
    rw [List.append_nil] at hl ⊢
    exact jJ k2 nd (qw hd) hl
   | some d =>
    rw [e] at hd k6
    obtain ⟨T,o1,o2,its,n,sl,tk,rfl,lT,hi⟩:=qu hd
    exact mS k2 nd rfl (KX _ _ lT) rfl hi (.inl rfl) hl (by simpa using k6)
  ·rw [e] at hd
   exact jJ k2 nd (qw hd) hl
  ·rw [e] at hd k6
   obtain ⟨T,o1,o2,its,n,sl,tk,rfl,lT,hi⟩:=qu hd
   exact ⟨tk,fun s us KX hl=>mS k2 nd rfl (KX _ _ lT) rfl hi (.inr rfl) hl (by simpa using k6)⟩
 ·cases ok
end Fg
end
section
namespace Fg
open PySem PySem.Spec L2
theorem mem_of_lookup {α β:Type} [BEq α] [LawfulBEq α] {x:α} {b:β}:∀ {l:List (α×β)},l.lookup x=some b->(x,b)∈l
 | [],h=>by cases h
 | (y, c)::l, h=>by
  rw [List.lookup_cons] at h
  by_cases e:x=y
  ·subst e;simp at h;subst h;exact List.mem_cons_self
  ·rw [show (x == y)=false from beq_eq_false_iff_ne.mpr e] at h
   exact List.mem_cons_of_mem _ (mem_of_lookup h)
theorem cB {α β:Type} {f g:α->β}:∀ {l:List α},l.map f=l.map g->∀ a∈l,f a=g a
 | [],_,_,h=>by cases h
 | b::l,e,a,h=>by
  rw [List.map_cons,List.map_cons,List.cons.injEq] at e
  rcases List.mem_cons.mp h with rfl | h
  ·exact e.1
  ·exact cB e.2 a h
noncomputable def Tb.gm (t:Tb):Gm:=⟨t.fn.map fun r=>(r.x,r.i,r.ps.length),(t.cs.map fun c=>(c.1,c.2.1))++(t.ct.map fun c=>(c.1,c.2.1))++(t.cd.map fun c=>(c.1,c.2.1)),t.bl,
 t.mt.filterMap fun r=>if r.2.x=("__init__" : Str) then (t.cl[r.1]?).map fun x=>(x, r.1, r.2.i, r.2.ps.length) else none,
 t.mt.filterMap fun r=>if r.2.x=("__init__" : Str) then none else some ((r.1, r.2.x), r.2.i, r.2.ps.length), t.fl, t.xc.zipIdx,
 t.fn.filterMap fun r=>r.k8.map fun d=>(r.x,r.i,r.ps.length,d),true⟩
noncomputable def Ff:D->Option Str
 | .str x=>some x
 | _=>none
noncomputable def intD:D->Option Int
 | .int x=>some x
 | _=>none
noncomputable def Tb.okC (t:Tb) (P:lP):Bool:=(t.cs.all fun c=>match P.glob c.2.1 with
 | some (.int n)=>decide (n=c.2.2)
 | _=>false)&&(t.ct.all fun c=>decide (c.2.2.length<=sizeLine)&&match P.glob c.2.1 with
 | some (.tup ds)=>decide (ds.map Ff=c.2.2.map some)
 | _=>false)&&t.cd.all fun c=>decide (c.2.2.length<=sizeLine)&&decide (c.2.2.map fun z=>z.1).Nodup&&match P.glob c.2.1 with
 | some (.dct ks ds)=>decide (ks=c.2.2.map fun z=>Sum.inr z.1)&&decide (ds.map intD=c.2.2.map fun z=>some z.2)
 | _=>false
noncomputable def Tb.ok (t:Tb) (G:Gm) (P:lP):Bool:=(t.fn.all fun r=>r.ok G P)&&(t.mt.all fun r=>r.2.ok G P)&&t.okC P
theorem lX:∀ {us:List Value} {xs:List Str},us.map strOf=xs.map some->Vals (xs.map .str) us
 | [],[],_=>.nil
 | [],_::_,h=>by cases h
 | _::_,[],h=>by cases h
 | u::us,x::xs,h=>by
  rw [List.map_cons,List.map_cons,List.cons.injEq] at h
  refine .cons ?_ (lX h.2)
  have h1:=h.1
  unfold strOf at h1
  split at h1
  ·cases h1;exact ⟨_,rfl⟩
  ·cases h1
theorem u6 {w:World}:∀ {es:List DictEntry} {kvs:List (Str×Int)},(es.map fun e=>(e.hash,strOf e.key,intOf e.val))=(kvs.map fun z=>(PyData.keyHash w.params z.1,some z.1,some z.2)) ->
  W.KeysLit w.params es/\DI es (kvs.map fun z=>(Sum.inr z.1,.int z.2))
 | [],[],_=>⟨trivial,.nil⟩
 | [],_::_,h=>by cases h
 | _::_,[],h=>by cases h
 | ⟨hh, k, v⟩::es, z::kvs, h=>by
  rw [List.map_cons,List.map_cons,List.cons.injEq,Prod.mk.injEq,Prod.mk.injEq] at h
  obtain ⟨⟨h1,h2,h3⟩,h4⟩:=h
  obtain ⟨q1,q2⟩:=u6 h4
  dsimp only at h1 h2 h3
  unfold strOf at h2
  unfold intOf at h3
  split at h2
  ·cases h2
   split at h3
   ·cases h3
    exact ⟨⟨⟨_,_,rfl,h1⟩,q1⟩,.cons ⟨_,rfl⟩ q2⟩
   ·cases h3
  ·cases h2
section
variable {B:Bd} {F:Addr->Prop} {ρ:List Addr} {H:Hp}
theorem pI:∀ {ds:List D} {xs:List Str},ds.map Ff=xs.map some->aj B F ρ H ds (xs.map .str)
 | [],[],_=>aj.nil
 | [],_::_,h=>by cases h
 | _::_,[],h=>by cases h
 | d::ds,x::xs,h=>by
  rw [List.map_cons,List.map_cons,List.cons.injEq] at h
  refine aj.cons ?_ (pI h.2)
  have h1:=h.1
  unfold Ff at h1
  split at h1
  ·cases h1;simp only [RD]
  ·cases h1
theorem pJ:∀ {ds:List D} {kvs:List (Str×Int)},ds.map intD=(kvs.map fun z=>some z.2)->aj B F ρ H ds (kvs.map fun z=>.int z.2)
 | [],[],_=>aj.nil
 | [],_::_,h=>by cases h
 | _::_,[],h=>by cases h
 | d::ds,x::xs,h=>by
  rw [List.map_cons,List.map_cons,List.cons.injEq] at h
  refine aj.cons ?_ (pJ h.2)
  have h1:=h.1
  unfold intD at h1
  split at h1
  ·cases h1;simp only [RD]
  ·cases h1
end
theorem lz {α:Type} {K:W.Frag} {x:Str} {f:Addr->Option α} {v:α} (h:(adr K x).bind f=some v):∃ a,adr K x=some a/\f a=some v:=Option.bind_eq_some_iff.mp h
theorem oE {α:Type} {K:W.Frag} {x:Str} {f:Addr->α} {v:α} (h:(adr K x).map f=some v):∃ a,adr K x=some a/\f a=v:=Option.map_eq_some_iff.mp h
section
variable {t:Tb} {P:lP} {w:World} {K:W.Frag} {h:Heap} {mg:Str->Option Value}
theorem yU (e:t.tV K=t.good P w) (ok:t.ok t.gm P=true) (r:Row) (hr:r∈t.fn):∃ f fd,adr K r.x=some f/\Rw t.gm P K r f fd:=by
 simp only [Tb.tV,Tb.good,Prod.mk.injEq] at e
 obtain ⟨f,h1,h2⟩:=lz (cB e.1 r hr)
 simp only [Tb.ok,Bool.and_eq_true,List.all_eq_true] at ok
 obtain ⟨fd,R⟩:=yg h2 (ok.1.1 r hr)
 exact ⟨f,fd,h1,R⟩
theorem Eg (e:t.tV K=t.good P w) (ok:t.ok t.gm P=true) (r:Nat×Row) (hr:r∈t.mt):∃ x C f fd,t.cl[r.1]? = some x/\adr K x=some C/\W.findIn K (.ref C) r.2.x=some (some (.ref f))/\W.isFn K (.ref f)=true/\Rw t.gm P K r.2 f fd:=by
 simp only [Tb.tV,Tb.good,Prod.mk.injEq] at e
 have h1:=cB e.2.2.1 r hr
 unfold yS at h1
 obtain ⟨C,h2,h3⟩:=Option.bind_eq_some_iff.mp h1
 obtain ⟨x,h4,h5⟩:=Option.bind_eq_some_iff.mp h2
 simp only [Tb.ok,Bool.and_eq_true,List.all_eq_true] at ok
 split at h3
 ·rename_i f hf
  obtain ⟨z,h6,h7⟩:=Option.map_eq_some_iff.mp h3
  rw [Prod.mk.injEq] at h7
  rw [h7.1] at h6
  obtain ⟨fd,R⟩:=yg h6 (ok.1.2 r hr)
  exact ⟨x,C,f,fd,h4,h5,hf,h7.2,R⟩
 ·cases h3
theorem Eh (e:t.tV K=t.good P w) {c:Nat} {C:Addr} (hc:(t.cl[c]?).bind (adr K)=some C):om t K C=j8 t:=by
 obtain ⟨x,h1,h2⟩:=Option.bind_eq_some_iff.mp hc
 simp only [Tb.tV,Tb.good,Prod.mk.injEq] at e
 obtain ⟨C',h3,h4⟩:=oE (cB e.2.1 x (List.mem_of_getElem? h1))
 rw [h2] at h3
 cases h3
 exact h4
theorem qN {xs:List Str} {x:Str} {c:Nat} (h:xs[c]? = some x):(x,c)∈xs.zipIdx:=List.mk_mem_zipIdx_iff_getElem?.mpr h
theorem KW (e:t.tV K=t.good P w) {c:Nat} {X:Addr} (hc:(t.xc[c]?).bind (adr K)=some X):W.excIn K X BMV "ValueError.__new__" = true/\W.mroIn K X (.type "BaseException")=some true /\
  ∀ d D,(t.xc[d]?).bind (adr K)=some D->W.mroIn K X (.ref D)=some (P.sub c d):=by
 obtain ⟨x,h1,h2⟩:=Option.bind_eq_some_iff.mp hc
 simp only [Tb.tV,Tb.good,Prod.mk.injEq] at e
 obtain ⟨C',h3,h4⟩:=oE (cB e.2.2.2.1 (x,c) (qN h1))
 rw [show adr K (x,c).1=some X from h2] at h3
 cases h3
 simp only [zO,Prod.mk.injEq] at h4
 refine ⟨h4.1,h4.2.1,fun d D hd=>?_⟩
 obtain ⟨y,h5,h6⟩:=Option.bind_eq_some_iff.mp hd
 have z:(t.xc.zipIdx.map fun y=>(adr K y.1).bind fun Y=>W.mroIn K X (.ref Y))=t.xc.zipIdx.map fun y=>some (P.sub c y.2):=by
  rw [<- h4.2.2]
  conv=>rhs;rw [<- List.zipIdx_map_fst 0 t.xc]
  rw [List.map_map]
  rfl
 have q:=cB z (y,d) (qN h5)
 rw [show adr K (y,d).1=some D from h6] at q
 exact q
theorem Tb.md (X:K.In h) (G:h.Ns mainGlobals mg) (e:t.tV K=t.good P w) (ok:t.ok t.gm P=true):Md t.gm P w K mg (fun c=>(t.cl[c]?).bind (adr K)) (fun c=>(t.xc[c]?).bind (adr K)):=by
 have Jg:∀ {x a},adr K x=some a->mg x=some (.ref a):=fun q=>W.mg_of X G (EZ q)
 refine ⟨fun x i hx=>?_,fun x hx=>?_,fun f i m hx=>?_,fun c C hx=>?_,fun c nm i m hx=>?_,fun x c i m hx=>?_,fun x c hx=>?_,fun c C hx=>?_,fun x f m d hx=>?_,rfl⟩
 ·have e':=e
  simp only [Tb.tV,Tb.good,Prod.mk.injEq] at e'
  simp only [Tb.ok,Tb.okC,Bool.and_eq_true,List.all_eq_true] at ok
  obtain ⟨_,⟨ok1,ok2⟩,ok3⟩:=ok
  rcases List.mem_append.mp (mem_of_lookup hx) with hm | hm
  ·rcases List.mem_append.mp hm with hm | hm
   ·obtain ⟨c,hc,q⟩:=List.mem_map.mp hm
    cases q
    have h1:=cB e'.2.2.2.2.1 c hc
    unfold Am at h1
    split at h1
    ·rename_i n tk hn
     cases h1
     refine ⟨.int c.2.2,_,W.mg_of X G hn,⟨_,rfl⟩,fun d hd F ρ H=>?_⟩
     have h2:=ok1 c hc
     rw [hd] at h2
     split at h2
     ·rename_i n' hn'
      cases hn'
      rw [of_decide_eq_true h2]
      simp only [RD]
     ·cases h2
    ·cases h1
   ·obtain ⟨c,hc,q⟩:=List.mem_map.mp hm
    cases q
    obtain ⟨a,h1,h2⟩:=lz (cB e'.2.2.2.2.2.2.1 c hc)
    unfold xA at h2
    split at h2
    ·rename_i cl od its n sl lk
     rw [Option.some.injEq,Prod.mk.injEq] at h2
     obtain ⟨rfl,h2⟩:=h2
     have h3:=ok2 c hc
     refine ⟨.ref a,_,Jg h1,rfl,fun d hd F ρ H=>?_⟩
     rw [hd] at h3
     obtain ⟨h3,h4⟩:=h3
     split at h4
     ·rename_i ds hn'
      cases hn'
      have v:=lX h2
      simp only [RD]
      exact ⟨a,_,rfl,.inr ⟨_,_,_,lk,rfl,rfl,by rw [<- Array.length_toList,<- v.length,List.length_map];exact of_decide_eq_true h3,v⟩,pI (of_decide_eq_true h4)⟩
     ·cases h4
    ·cases h2
  ·obtain ⟨c,hc,q⟩:=List.mem_map.mp hm
   cases q
   obtain ⟨a,h1,h2⟩:=lz (cB e'.2.2.2.2.2.2.2 c hc)
   unfold Ak at h2
   split at h2
   ·rename_i cl od es n sl lk
    simp only [u7,Option.some.injEq,Prod.mk.injEq] at h2
    obtain ⟨rfl,rfl,rfl,hs,h2⟩:=h2
    have h3:=ok3 c hc
    refine ⟨.ref a,_,Jg h1,rfl,fun d hd F ρ H=>?_⟩
    rw [hd] at h3
    obtain ⟨⟨h3,h5⟩,h4⟩:=h3
    split at h4
    ·rename_i ks ds hn'
     cases hn'
     simp only [Bool.and_eq_true,decide_eq_true_eq] at h4
     obtain ⟨q1,q2⟩:=u6 h2
     simp only [RD]
     refine ⟨a,_,rfl,.inr ⟨?_,hs,?_,es,n,lk,q1,q2⟩,?_,?_⟩
     ·rw [List.length_map];exact of_decide_eq_true h3
     ·rw [List.map_map]
      have:=of_decide_eq_true h5
      rw [show ((fun z:Key×V=>z.1) ∘ fun z:Str×Int=>((Sum.inr z.1:Key),V.int z.2))=(fun s=>(Sum.inr s:Key)) ∘ fun z:Str×Int=>z.1 from rfl,<- List.map_map]
      exact List.pairwise_map.mpr (this.imp fun h e=>h (Sum.inr.inj e))
     ·rw [List.map_map,h4.1];rfl
     ·rw [List.map_map];exact pJ h4.2
    ·cases h4
   ·cases h2
 ·have e':=e
  simp only [Tb.tV,Tb.good,Prod.mk.injEq] at e'
  exact W.mg_none_of X G (cB e'.2.2.2.2.2.1 x (List.contains_iff_mem.mp hx))
 ·obtain ⟨r,hr,q⟩:=List.mem_map.mp (mem_of_lookup hx)
  cases q
  obtain ⟨fa,fd,h1,R⟩:=yU e ok r hr
  exact ⟨fa,fd,r.ps,Jg h1,R.kp,R.bd,R.at_⟩
 ·have q:=Eh e hx
  simp only [om,j8,Prod.mk.injEq] at q
  obtain ⟨q1,q2,q3,q4,q5,q6,q7⟩:=q
  exact ⟨⟨q1,q2,q3,q4⟩,fun f hf=>cB q7 f (List.contains_iff_mem.mp hf)⟩
 ·obtain ⟨r,hr,q⟩:=List.mem_filterMap.mp (mem_of_lookup hx)
  split at q
  ·cases q
  ·cases q
   obtain ⟨x,C,f,fd,h1,h2,h3,h4,R⟩:=Eg e ok r hr
   exact ⟨C,f,fd,r.2.ps,by rw [h1];exact h2,⟨h3,h4,R.kp⟩,R.bd,R.at_⟩
 ·obtain ⟨r,hr,q⟩:=List.mem_filterMap.mp (mem_of_lookup hx)
  split at q
  ·rename_i hi
   obtain ⟨y,h0,q⟩:=Option.map_eq_some_iff.mp q
   cases q
   obtain ⟨x',C,f,fd,h1,h2,h3,h4,R⟩:=Eg e ok r hr
   rw [h0] at h1
   cases h1
   have hC:(t.cl[r.1]?).bind (adr K)=some C:=by rw [h0];exact h2
   have q:=Eh e hC
   simp only [om,j8,Prod.mk.injEq] at q
   rw [hi] at h3
   exact ⟨C,f,fd,r.2.ps,Jg h2,hC,⟨q.2.2.2.2.1,h3,h4,q.2.2.2.2.2.1⟩,R.bd,R.at_⟩
  ·cases q
 ·have hm:=List.mk_mem_zipIdx_iff_getElem?.mp (mem_of_lookup hx)
  have e':=e
  simp only [Tb.tV,Tb.good,Prod.mk.injEq] at e'
  obtain ⟨C,h3,_⟩:=oE (cB e'.2.2.2.1 (x,c) (qN hm))
  exact ⟨C,Jg h3,by rw [hm];exact h3⟩
 ·obtain ⟨q1,q2,q3⟩:=KW e hx
  obtain ⟨bm,ec,em⟩:=Ie q1
  exact ⟨_,_,bm,_,_,ec,PySem.F.excBase_ValueError,j9 (em _ _ q2),fun d D hd=>em _ _ (q3 d D hd)⟩
 ·obtain ⟨r,hr,q⟩:=List.mem_filterMap.mp (mem_of_lookup hx)
  obtain ⟨d',hd,q⟩:=Option.map_eq_some_iff.mp q
  cases q
  obtain ⟨fa,fd,h1,R⟩:=yU e ok r hr
  obtain ⟨tk,hb⟩:=R.df _ hd
  exact ⟨fa,fd,r.ps,_,Jg h1,R.kp,hb,⟨_,rfl⟩,R.at_⟩
theorem Tb.walk (t:Tb) (P:lP) {l:W.OpenLaw} {q:Program} {loose:List Str} {XP:(Str->Option Value)->Heap->Prop} {d:DefRec} {r:Row} {x:Str} (k:Nat) (hn:l.most=some 63) (hdf:d.params.defaults=[]) (hk:cy (k+1) callerA)
  (ok:t.ok t.gm P=true) (hr:r∈t.fn) (hx:d.name=r.x) (h0:r.k8=none) (hps:r.ps=[x])
  (hP:∀ ns:List Int,ns.length<=63->∃ M',(af P (k+1)).call r.i [.lst (ns.map .int)] []=.ok (.bl true) M') :
  W.WalkO q loose XP (t.hook P).says l.row.toRowW d [] (fun f vs=>PySem.call f vs):=by
 refine Att.qC hn hdf fun w s₀ s₁ mg mb fa o pm cd doc a vs ns G Y ho hd hcd hmg hobj hints hlen hg=>?_
 obtain ⟨K,KX,e⟩:=Y
 obtain ⟨f,fd,h1,R⟩:=yU e ok r hr
 have hf:mg d.name=some (.ref f):=by rw [hx];exact W.mg_of KX G.T.g (EZ h1)
 cases hmg.symm.trans hf
 obtain ⟨y,qual,st,N,fn,F,q1,q2,q3,q4,q5,q6,q7⟩:=R.at_
 have D:=Tb.md (w:=w) KX G.T.g e ok
 have bd:=R.bn h0
 rw [hps] at bd q2 q3 q4
 exact zb (CX:=iZ l.prog w) (sp:=DW K) (x:=x) (fd:=fd) KX G.T.g G.T.b G.T.builtins G.T.nolimit hg hobj hints (Nat.le_trans hlen (by decide)) hk (fun base _ _=>GZ D hP F q1 q2 q3 q4 q5 q6 q7) (fun s u=>bd s [u] rfl)
  (fun H hO hS=>⟨a,ns,rfl,hS,hlen,fun _=>rfl⟩) fun H e s' ⟨_,_,_,_,_,_,_,_,_,_,_,_,z⟩=>z
end
end Fg
end
section
namespace bD
open Fg PySem
theorem fn0:aq.fn 0=some uF:=rfl
theorem qJ:aq.fn 1=some dw:=rfl
theorem fn2:aq.fn 2=some jj:=rfl
theorem fn3:aq.fn 3=some gn:=rfl
theorem fn4:aq.fn 4=some cV:=rfl
theorem fn5:aq.fn 5=some gY:=rfl
theorem fn6:aq.fn 6=some fT:=rfl
theorem HU:aq.fn 7=some mK:=rfl
theorem Nu:aq.fn 8=some zL:=rfl
theorem fn9:aq.fn 9=some d8:=rfl
theorem Lo:aq.fn 10=some fS:=rfl
theorem fn11:aq.fn 11=some cD:=rfl
theorem fn12:aq.fn 12=some cX:=rfl
theorem zK:aq.fn 13=some bu:=rfl
theorem HX:aq.fn 14=some ef:=rfl
theorem wA:aq.fn 15=some fW:=rfl
theorem Ln:aq.fn 16=some fq:=rfl
theorem fn17:aq.fn 17=some bE:=rfl
theorem zJ:aq.fn 18=some aT:=rfl
noncomputable abbrev w (x:String):Str:=Str.ofString x
theorem aX {M:MH} {c:Nat}:pG M c M=.exc c M:=by simp [pG]
theorem au {kp:Bool} {M M':MH} {d:D} (h:nr M.length d=true) (hl:M'.length=M.length):fM kp M d M'=.ok d M':=by
 unfold fM
 by_cases hk:kp=false/\M'.take M.length=M
 ·rw [if_pos hk,if_pos h]
  have:M'=M:=by rw [<- hk.2,<- hl,List.take_length]
  rw [this]
 ·rw [if_neg hk]
theorem dS {P:lP} {k f:Nat} {fn:Fn} {ds:List D} {M M':MH} {σ':Sg} {r:R D} (hf:P.fn f=some fn) (hn:ds.length=fn.np) (hb:exs (af P k) fn.body (ds.map some++List.replicate (fn.ns-fn.np) none) M=.ok (.nx σ') M') (hr:fM fn.keep M .ak M'=r):(af P (k+1)).call f ds M=r:=by
 rw [cL hf]
 have h1:ds.length+fn.k8.length-fn.np=fn.k8.length:=by omega
 simp only [kB,h1,List.drop_length,List.append_nil,hb]
 rw [if_pos (by simp;omega)]
 exact hr
theorem jt {P:lP} {k f c:Nat} {fn:Fn} {ds:List D} {M M':MH} {σ':Sg} {r:R D} (hf:P.fn f=some fn) (hn:ds.length=fn.np) (hb:exs (af P k) fn.body (ds.map some++List.replicate (fn.ns-fn.np) none) M=.ok (.xc c σ') M') (hr:pG M c M'=r):(af P (k+1)).call f ds M=r:=by
 rw [cL hf]
 have h1:ds.length+fn.k8.length-fn.np=fn.k8.length:=by omega
 simp only [kB,h1,List.drop_length,List.append_nil,hb]
 rw [if_pos (by simp;omega)]
 exact hr
section
variable {Φ:bz} {σ σ':Sg} {M M1 M2 M3:MH} {e e' c a b:E} {x y d:D} {ss sa sb:Ss} {i n j k:Nat} {xs p:List D}
theorem l8 (h:ev Φ e σ M=.exc k M1):exs Φ (.cons (.ex e) ss) σ M=.ok (.xc k σ) M1:=by simp only [bO,Lr,h,R.mY,R.aa]
theorem FI (h:ev Φ e σ M=.exc k M1):exs Φ (.cons (.set i e) ss) σ M=.ok (.xc k σ) M1:=by simp only [bO,Ig,h,R.mY,R.aa]
theorem rB (h:ev Φ e σ M=.exc k M1):exs Φ (.cons (.ret e) ss) σ M=.ok (.xc k σ) M1:=by simp only [bO,Ih,h,R.mY,R.aa]
theorem o9 (h:ev Φ c σ M=.ok (.bl true) M1) (ha:exs Φ sa σ M1=.ok (.xc k σ') M2):exs Φ (.cons (.ifs c sa sb) ss) σ M=.ok (.xc k σ') M2:=by simp only [bO,sD,h,R.gR,ha,R.aa]
theorem yc {f:Nat} (he:ev Φ e σ M=.ok d M1) (hs:bV d=true):exs Φ (.cons (.raise f (.cons e .nil)) ss) σ M=.ok (.xc f σ) M1:=by simp only [bO,zQ,zT,CZ,he,R.aa,hs,if_true,R.gR]
theorem i9 {s:S} (h:ex Φ s σ M=.ok (.nx σ') M1):exs Φ (.cons s ss) σ M=exs Φ ss σ' M1:=by simp only [bO,h,R.aa]
theorem Kh {M:MH} {n:Nat} (h:M[n]? = some (.lst (p++[x]))):gW .pop true M (.ref n) []=.ok x (M.set n (.lst p)):=by
 simp [gW,b9 h,pT]
theorem Mq {M:MH} {n:Nat} (h:M[n]? = some (.lst xs)) (hl:xs.length<line):gW .append true M (.ref n) [d]=.ok .ak (M.set n (.lst (xs++[d]))):=by
 simp only [gW,b9 h,pT,yI,hl,decide_true,if_true]
theorem yJ {M:MH} {n:Nat} (h:M[n]? = some (.lst xs)):nI .pop M (.ref n)=true:=by simp only [nI,b9 h,Option.isSome_some,Bool.and_self]
theorem rP {M:MH} {n:Nat} (h:M[n]? = some (.lst xs)):nI .append M (.ref n)=true:=by simp only [nI,b9 h,Option.isSome_some,Bool.and_self]
theorem e_v {M:MH} (h:σ[i]? = some (some d)):ev Φ (.v i) σ M=.ok d M:=by simp only [lN,h]
theorem e_len {M M1:MH} {n:Nat} {fz:Bool} (he:ev Φ e σ M=.ok (.ref n) M1) (h:M1[n]? = some (.lst xs)):ev Φ (.blt .len fz (.cons e .nil)) σ M=.ok (.int xs.length) M1:=by
 simp only [z9,bA,he,R.aa,eZ,wN,vw,h]
theorem uT {M M1 M2:MH} {n:Nat} {e':E} {ys:List D} (he:ev Φ e σ M=.ok (.ref n) M1) (h:M1[n]? = some (.lst ys)) (hx:ev Φ e' σ M1=.ok d M2) (h2:M2[n]? = some (.lst xs)) (hl:xs.length<line):ev Φ (.dI .append true e (.cons e' .nil)) σ M=.ok .ak (M2.set n (.lst (xs++[d]))):=by
 simp only [jm,he,R.aa,rP h,if_true,bA,hx,eZ,Mq h2 hl]
theorem Iz {M M1 M2:MH} {n:Nat} {e':E} {ys:List D} (he:ev Φ e σ M=.ok (.ref n) M1) (h:M1[n]? = some (.lst ys)) (hx:ev Φ e' σ M1=.exc k M2):ev Φ (.dI .append true e (.cons e' .nil)) σ M=.exc k M2:=by
 simp only [jm,he,R.aa,rP h,if_true,bA,hx,R.ck]
theorem LN {M M1 M2:MH} {n:Nat} {e':E} {j:Int} (he:ev Φ e σ M=.ok (.ref n) M1) (hx:ev Φ e' σ M1=.ok (.int j) M2) (h:M2[n]? = some (.lst xs)) (ha:qM xs j=some d):ev Φ (.idx e e') σ M=.ok d M2:=by
 simp only [sE,he,R.aa,hx,pZ,vw,h,ha]
theorem aK {M M1 M2:MH} {e':E} {j:Int} (he:ev Φ e σ M=.ok (.tup xs) M1) (hx:ev Φ e' σ M1=.ok (.int j) M2) (ha:qM xs j=some d):ev Φ (.idx e e') σ M=.ok d M2:=by
 simp only [sE,he,R.aa,hx,pZ,vw,ha]
theorem LO {M M1 M2:MH} {n:Nat} {e':E} {q:Str} {kvs:List (Ky×D)} (he:ev Φ e σ M=.ok (.ref n) M1) (hx:ev Φ e' σ M1=.ok (.str q) M2) (h:M2[n]? = some (.dct kvs)) (ha:look kvs (.inr q)=some d):ev Φ (.idx e e') σ M=.ok d M2:=by
 simp only [sE,he,R.aa,hx,pZ,vw,h,keyOf,ha]
theorem fY {M M1 M2:MH} {e':E} {a b:Int} {fz:Bool} (he:ev Φ e σ M=.ok (.int a) M1) (hx:ev Φ e' σ M1=.ok (.int b) M2):ev Φ (.op .add fz e e') σ M=.ok (.int (a+b)) M2:=by
 simp only [kX,he,R.aa,hx,qI,gw]
theorem qm {M M1 M2:MH} {e':E} {a b:Int} {fz:Bool} (he:ev Φ e σ M=.ok (.int a) M1) (hx:ev Φ e' σ M1=.ok (.int b) M2):ev Φ (.op .sub fz e e') σ M=.ok (.int (a-b)) M2:=by
 simp only [kX,he,R.aa,hx,qI,gw]
theorem bW {M M1:MH} {f:Nat} (he:ev Φ e σ M=.ok d M1):ev Φ (.call f (.cons e .nil)) σ M=Φ.call f [d] M1:=by
 simp only [bB,bA,he,R.aa,eZ]
theorem Ad {M M1:MH} {a b:Str} (he:ev Φ e σ M=.ok (.str a) M1):ev Φ (.cmp .eq e (.k (.str b))) σ M=.ok (.bl (decide (a=b))) M1:=by
 simp [he,bJ,w5,NN,cE,top,Fg.plain,dep]
theorem qp {M1 M2:MH} {e e':E} {a b:Int} {q:Bool} (he:ev Φ e σ M=.ok (.int a) M1) (hx:ev Φ e' σ M1=.ok (.int b) M2) (hq:decide (b<a)=q):ev Φ (.cmp .gt e e') σ M=.ok (.bl q) M2:=by
 rw [c6,he,R.aa,hx,<- hq];rfl
theorem Il {M1 M2:MH} {e a:E} {d:D} {n c:Nat} {g:Str} {gs gs':List (Str×D)} (he:ev Φ e σ M=.ok d M1) (ha:ev Φ a σ M1=.ok (.ref n) M2) (h:M2[n]? = some (.ins c gs)) (hl:gs.length<1000) (hg:eL g d gs=gs'):ex Φ (.eG a g e) σ M=.ok (.nx σ) (M2.set n (.ins c gs')):=by
 simp only [n6,he,R.gR,ha,h,hl,decide_true,if_true,hg]
theorem e_new {M1 M2:MH} {c g:Nat} {es:Es} {ds:List D} (he:cZ Φ es σ M=.ok ds M1) (hc:Φ.ini g (.ref M1.length::ds) (M1++[.ins c []])=.ok .ak M2):ev Φ (.new c g es) σ M=.ok (.ref M1.length) M2:=by
 rw [Ij,he,R.aa,hc];rfl
theorem Iv {M1 M2:MH} {caps tg:List Nat} {elt:E} {it:Src} {d:D} {ds out:List D} (hi:aJ Φ it σ M=.ok (d,ds,false) M1) (hl:bS (qK Φ .none) (ev Φ elt) tg (aF M1 d) ds (ou σ caps++List.replicate tg.length none) M1 []=.ok out M2):ev Φ (.comp false caps tg elt it .none) σ M=.ok (.ref M2.length) (M2++[.lst out]):=by
 rw [uL,hi,R.aa,ED,hl];rfl
theorem Dc {M1 M2:MH} {caps tg:List Nat} {elt:E} {it:Src} {d:D} {ds out:List D} (hi:aJ Φ it σ M=.ok (d,ds,false) M1) (hl:bS (qK Φ .none) (ev Φ elt) tg (aF M1 d) ds (ou σ caps++List.replicate tg.length none) M1 []=.ok out M2):ev Φ (.comp true caps tg elt it .none) σ M=.ok (.lst out) M2:=by
 rw [uL,hi,R.aa,ED,hl];rfl
theorem y9 {elt:Sg->MH->R D} {n:Nat} {ch:MH->Bool} {d x:D} {ds acc:List D} {M1:MH} (h:elt (σ.set n (some d)) M=.ok x M1) (hc:ch M1=true) (hl:acc.length<line):bS (qK Φ .none) elt [n] ch (d::ds) σ M acc=bS (qK Φ .none) elt [n] ch ds (σ.set n (some d)) M1 (acc++[x]):=by
 rw [bS]
 simp only [sets,zX,R.aa,h,hc,if_true,hl,decide_true]
theorem fX (h:ev Φ e σ M=.ok x M1) (h':ev Φ e' σ M1=.ok y M2):cZ Φ (.cons e (.cons e' .nil)) σ M=.ok [x,y] M2:=by rw [bA,h,R.aa,bA,h'];rfl
theorem Ls (h:ev Φ e σ M=.ok x M1):cZ Φ (.cons e .nil) σ M=.ok [x] M1:=by rw [bA,h];rfl
theorem cY {es:Es} (h:ev Φ e σ M=.ok x M1) (h':cZ Φ es σ M1=.ok xs M2):cZ Φ (.cons e es) σ M=.ok (x::xs) M2:=by rw [bA,h,R.aa,h'];rfl
theorem uJ {s:S}:exs Φ (.cons s .nil) σ M=ex Φ s σ M:=by
 rw [bO]
 cases ex Φ s σ M with
 | ok o M1=>cases o <;> rfl
 | exc c M1=>rfl
 | bad=>rfl
theorem cP {sa sb:Ss} (h:ev Φ c σ M=.ok (.bl false) M1):exs Φ (.cons (.ifs c sa sb) .nil) σ M=exs Φ sb σ M1:=by rw [uJ,sD,h];rfl
theorem ku {sa sb:Ss} (h:ev Φ c σ M=.ok (.bl true) M1):exs Φ (.cons (.ifs c sa sb) .nil) σ M=exs Φ sa σ M1:=by rw [uJ,sD,h];rfl
end
noncomputable def EE:List Str->Es
 | []=>.nil
 | b::bs=>.cons (.k (.str b)) (EE bs)
theorem uK {Φ:bz} {σ:Sg} {M:MH}:∀ bs:List Str,cZ Φ (EE bs) σ M=.ok (bs.map D.str) M
 | []=>rfl
 | b::bs=>by rw [EE,bA,qg,R.aa,uK bs];rfl
theorem mO {Φ:bz} {σ:Sg} {M M1:MH} {e:E} {c:Str} {bs:List Str} {q:Bool} (he:ev Φ e σ M=.ok (.str c) M1) (hq:(bs.any fun z=>decide (z=c))=q):ev Φ (.cmp .isin e (.tup (EE bs))) σ M=.ok (.bl q) M1:=by
 have h1:(bs.map D.str).all flat=true:=by rw [List.all_map];exact List.all_eq_true.mpr fun _ _=>rfl
 have h2:((bs.map D.str).any fun d=>aH d (.str c))=q:=by
  rw [List.any_map,<- hq]
  congr 1
 rw [c6,he,R.aa,g7,uK]
 simp only [R.aa,bJ,zB,vw,flat,h1,h2,Bool.and_self,if_true]
theorem bF {Φ:bz} {σ:Sg} {M M1:MH} {e:E} {c z:Str} {q:Bool} (he:ev Φ e σ M=.ok (.str c) M1) (hq:decide (c=z)=q):ev Φ (.cmp .eq e (.k (.str z))) σ M=.ok (.bl q) M1:=by
 rw [Ad he,hq]
theorem wz {a b:String} (h:decide (Str.ofString a=Str.ofString b)=false:=by decide +kernel):(Str.ofString a == Str.ofString b)=false:=by
 rw [beq_eq_false_iff_ne];exact of_decide_eq_false h
theorem wn {a b:String} (h:decide (Str.ofString a=Str.ofString b)=false:=by decide +kernel):(Str.ofString a=Str.ofString b)=False:=by
 simpa using h
structure Px where
 prog:D
 most:Int
 bg:Int
 un:Int
 todo:List D
 wt:List D
 T:MH
noncomputable def Px.o (s:Px) (n:Nat):MO:=.ins 0 [(w "program", s.prog), (w "most", .int s.most), (w "begun", .int s.bg), (w "under_way", .int s.un), (w "todo", .ref (n+1)), (w "waiting", .ref (n+2))]
noncomputable def Px.h (s:Px) (M0:MH):MH:=M0++(s.o M0.length::.lst s.todo::.lst s.wt::s.T)
section
variable {M0:MH} {s s':Px} {ds p:List D} {t i:Nat} {o:MO} {x d:D} {Φ:bz} {σ:Sg} {e:E}
theorem off (i:Nat) (X:MH):(M0++X)[M0.length+i]? = X[i]?:=by
 rw [List.getElem?_append_right (Nat.le_add_right _ _),Nat.add_sub_cancel_left]
theorem offs (i:Nat) (X:MH) (o:MO):(M0++X).set (M0.length+i) o=M0++X.set i o:=by
 rw [List.set_append_right _ _ (Nat.le_add_right _ _),Nat.add_sub_cancel_left]
theorem g0:(s.h M0)[M0.length]? = some (s.o M0.length):=off 0 _
theorem g1:(s.h M0)[M0.length+1]? = some (.lst s.todo):=off 1 _
theorem g2:(s.h M0)[M0.length+2]? = some (.lst s.wt):=off 2 _
theorem gT:(s.h M0)[M0.length+(t+3)]? = s.T[t]?:=off (t+3) _
theorem s0 {s':Px}:(s.h M0).set M0.length (s'.o M0.length)=({ s with prog:=s'.prog,most:=s'.most,bg:=s'.bg,un:=s'.un }:Px).h M0:=offs 0 _ _
theorem s1:(s.h M0).set (M0.length+1) (.lst ds)=({ s with todo:=ds }:Px).h M0:=offs 1 _ _
theorem s2:(s.h M0).set (M0.length+2) (.lst ds)=({ s with wt:=ds }:Px).h M0:=offs 2 _ _
theorem sT:(s.h M0).set (M0.length+(t+3)) o=({ s with T:=s.T.set t o }:Px).h M0:=offs (t+3) _ _
theorem len:(s.h M0).length=M0.length+(s.T.length+3):=by simp [Px.h]
theorem app {X:MH}:s.h M0++X=({ s with T:=s.T++X }:Px).h M0:=by simp [Px.h,Px.o]
theorem qR:(s.h M0).take M0.length=M0:=by simp [Px.h]
theorem HY (h:σ[i]? = some (some (.ref M0.length))):ev Φ (.fld (.v i) (w "program")) σ (s.h M0)=.ok s.prog (s.h M0):=by
 simp only [jn,lN,h,R.aa,g0,Px.o,List.lookup_cons,beq_self_eq_true]
theorem HZ (h:σ[i]? = some (some (.ref M0.length))):ev Φ (.fld (.v i) (w "most")) σ (s.h M0)=.ok (.int s.most) (s.h M0):=by
 simp only [jn, lN, h, R.aa, g0, Px.o, List.lookup_cons, beq_self_eq_true, wz (a:="most") (b:="program")]
theorem uI (h:σ[i]? = some (some (.ref M0.length))):ev Φ (.fld (.v i) (w "begun")) σ (s.h M0)=.ok (.int s.bg) (s.h M0):=by
 simp only [jn, lN, h, R.aa, g0, Px.o, List.lookup_cons, beq_self_eq_true, wz (a:="begun") (b:="program"), wz (a:="begun") (b:="most")]
theorem nZ (h:σ[i]? = some (some (.ref M0.length))):ev Φ (.fld (.v i) (w "under_way")) σ (s.h M0)=.ok (.int s.un) (s.h M0):=by
 simp only [jn, lN, h, R.aa, g0, Px.o, List.lookup_cons, beq_self_eq_true, wz (a:="under_way") (b:="program"), wz (a:="under_way") (b:="most"), wz (a:="under_way") (b:="begun")]
theorem sy (h:σ[i]? = some (some (.ref M0.length))):ev Φ (.fld (.v i) (w "todo")) σ (s.h M0)=.ok (.ref (M0.length+1)) (s.h M0):=by
 simp only [jn, lN, h, R.aa, g0, Px.o, List.lookup_cons, beq_self_eq_true, wz (a:="todo") (b:="program"), wz (a:="todo") (b:="most"), wz (a:="todo") (b:="begun"), wz (a:="todo") (b:="under_way")]
theorem nY (h:σ[i]? = some (some (.ref M0.length))):ev Φ (.fld (.v i) (w "waiting")) σ (s.h M0)=.ok (.ref (M0.length+2)) (s.h M0):=by
 simp only [jn, lN, h, R.aa, g0, Px.o, List.lookup_cons, beq_self_eq_true, wz (a:="waiting") (b:="program"), wz (a:="waiting") (b:="most"), wz (a:="waiting") (b:="begun"), wz (a:="waiting") (b:="under_way"), wz (a:="waiting") (b:="todo")]
theorem Ca {i:Int}:eL (w "begun") (.int i) [(w "program", s.prog), (w "most", .int s.most), (w "begun", .int s.bg), (w "under_way", .int s.un), (w "todo", .ref (M0.length+1)), (w "waiting", .ref (M0.length+2))]=[(w "program", s.prog), (w "most", .int s.most), (w "begun", .int i), (w "under_way", .int s.un), (w "todo", .ref (M0.length+1)), (w "waiting", .ref (M0.length+2))]:=by
 simp only [eL, wn (a:="program") (b:="begun"), wn (a:="most") (b:="begun"), if_true, if_false]
theorem B9 {i:Int}:eL (w "under_way") (.int i) [(w "program", s.prog), (w "most", .int s.most), (w "begun", .int s.bg), (w "under_way", .int s.un), (w "todo", .ref (M0.length+1)), (w "waiting", .ref (M0.length+2))]=[(w "program", s.prog), (w "most", .int s.most), (w "begun", .int s.bg), (w "under_way", .int i), (w "todo", .ref (M0.length+1)), (w "waiting", .ref (M0.length+2))]:=by
 simp only [eL, wn (a:="program") (b:="under_way"), wn (a:="most") (b:="under_way"), wn (a:="begun") (b:="under_way"), if_true, if_false]
theorem Dd {n:Int} (h:σ[i]? = some (some (.ref M0.length))) (he:ev Φ e σ (s.h M0)=.ok (.int n) (s.h M0)):ex Φ (.eG (.v i) (w "begun") e) σ (s.h M0)=.ok (.nx σ) (({ s with bg:=n }:Px).h M0):=by
 simp only [n6,he,R.gR,lN,h,g0,Px.o,Ca]
 exact congrArg (R.ok _) (s0 (s':={ s with bg:=n }))
theorem uP {n:Int} (h:σ[i]? = some (some (.ref M0.length))) (he:ev Φ e σ (s.h M0)=.ok (.int n) (s.h M0)):ex Φ (.eG (.v i) (w "under_way") e) σ (s.h M0)=.ok (.nx σ) (({ s with un:=n }:Px).h M0):=by
 simp only [n6,he,R.gR,lN,h,g0,Px.o,B9]
 exact congrArg (R.ok _) (s0 (s':={ s with un:=n }))
theorem u_ {m:Nat} {nm:Str} {es:Es} (h:σ[i]? = some (some (.ref M0.length))) (hn:([w "program", w "most", w "begun", w "under_way", w "todo", w "waiting"].all fun x=>!(nm == x))=true):ev Φ (.c9 0 m nm (.v i) es) σ (s.h M0)=(cZ Φ es σ (s.h M0)).bind fun ds M2=>Φ.call m (.ref M0.length::ds) M2:=by
 simp only [List.all_cons,List.all_nil,Bool.and_true,Bool.and_eq_true,Bool.not_eq_true'] at hn
 obtain ⟨h1,h2,h3,h4,h5,h6⟩:=hn
 simp only [Ii,lN,h,R.aa,g0,Px.o,List.lookup_cons,List.lookup_nil,h1,h2,h3,h4,h5,h6,Option.isNone_none,decide_true,Bool.and_self,if_true]
theorem uR (h:σ[i]? = some (some (.ref M0.length))) (hp:s.wt=p++[x]):ev Φ (.dI .pop true (.fld (.v i) (w "waiting")) .nil) σ (s.h M0)=.ok x (({ s with wt:=p }:Px).h M0):=by
 have g:(s.h M0)[M0.length+2]? = some (.lst (p++[x])):=by rw [g2,hp]
 simp only [jm,nY h,R.aa,yJ g,if_true,eZ,Kh g,s2]
theorem sH (h:σ[i]? = some (some (.ref M0.length))) (he:ev Φ e σ (s.h M0)=.ok d (s'.h M0)) (hl:s'.wt.length<line):ev Φ (.dI .append true (.fld (.v i) (w "waiting")) (.cons e .nil)) σ (s.h M0)=.ok .ak (({ s' with wt:=s'.wt++[d] }:Px).h M0):=by
 simp only [jm,nY h,R.aa,rP g2,if_true,bA,eZ,he,Mq g2 hl,s2]
theorem e_next (h:σ[i]? = some (some (.ref M0.length))) (hp:s.todo=p++[x]):ev Φ (.dI .pop true (.fld (.v i) (w "todo")) .nil) σ (s.h M0)=.ok x (({ s with todo:=p }:Px).h M0):=by
 have g:(s.h M0)[M0.length+1]? = some (.lst (p++[x])):=by rw [g1,hp]
 simp only [jm,sy h,R.aa,yJ g,if_true,eZ,Kh g,s1]
end
end bD
end
section
namespace bD
open Fg PySem
inductive Rk where
 | plus
 | minus
 | times
 | less
noncomputable def jX:Rk->Str
 | .plus=>w "plus"
 | .minus=>w "minus"
 | .times=>w "times"
 | .less=>w "less"
noncomputable def BL:Rk->Int->Int->Int
 | .plus,a,b=>a+b
 | .minus,a,b=>a-b
 | .times,a,b=>a*b
 | .less,a,b=>if a<b then 1 else 0
@[irreducible] noncomputable def Mm:Int:=10 ^ 60
noncomputable def great (i:Int):Bool:=decide (Mm<=(i.natAbs:Int))
noncomputable def HL:Rk->Bool
 | .less=>true
 | _=>false
noncomputable def Jd (o:Rk) (a b:Int):Bool:=!HL o&&great (BL o a b)
theorem Kg:gw .pow 10 60=some Mm:=by unfold Mm;decide +kernel
section
variable {M M1 M2:MH} {k:Nat} {Φ:bz} {σ:Sg} {e e':E}
theorem LV {fz:Bool}:ev Φ (.op .pow fz (.k (.int 10)) (.k (.int 60))) σ M=.ok (.int Mm) M:=by
 rw [kX,qg,R.aa,qg,R.aa]
 simp only [qI,Kg]
theorem LW {i:Int} (h:ev Φ e σ M=.ok (.int i) M1):ev Φ (.qJ .abs e) σ M=.ok (.int i.natAbs) M1:=by
 have z:(if i<0 then -i else i)=(i.natAbs:Int):=by split <;> omega
 rw [zZ,h,R.aa,<- z];rfl
theorem LQ {a b:Int} {q:Bool} (he:ev Φ e σ M=.ok (.int a) M1) (hx:ev Φ e' σ M1=.ok (.int b) M2) (hq:decide (b<=a)=q):ev Φ (.cmp .ge e e') σ M=.ok (.bl q) M2:=by
 rw [c6,he,R.aa,hx,R.aa,<- hq];rfl
theorem e_lt {a b:Int} {q:Bool} (he:ev Φ e σ M=.ok (.int a) M1) (hx:ev Φ e' σ M1=.ok (.int b) M2) (hq:decide (a<b)=q):ev Φ (.cmp .lt e e') σ M=.ok (.bl q) M2:=by
 rw [c6,he,R.aa,hx,R.aa,<- hq];rfl
theorem uS {a b:Int} {fz:Bool} (he:ev Φ e σ M=.ok (.int a) M1) (hx:ev Φ e' σ M1=.ok (.int b) M2) (ha:mid a=true) (hb:mid b=true):ev Φ (.op .mul fz e e') σ M=.ok (.int (a*b)) M2:=by
 rw [kX,he,R.aa,hx,R.aa]
 simp only [qI,gw]
 cases hs:small a||small b with
 | true=>rw [if_pos rfl]
 | false=>rw [if_neg (by decide),ha,hb,Bool.and_self,if_pos rfl]
theorem Mc {i:Int}:(af aq (k+1)).call 4 [.int i] M=if great i then .exc 2 M else .ok .ak M:=by
 have e1:ev (af aq k) (.cmp .ge (.qJ .abs (.v 0)) (.op .pow true (.k (.int 10)) (.k (.int 60)))) [some (.int i)] M=.ok (.bl (great i)) M:=LQ (LW rfl) LV rfl
 cases hq:great i with
 | true=>rw [hq] at e1;exact jt fn4 rfl (o9 e1 rfl) aX
 | false=>rw [hq] at e1;exact dS fn4 rfl ((aM e1).trans rfl) (au rfl rfl)
theorem IG {o:Rk} {a b:Int} (ha:mid a=true) (hb:mid b=true):(af aq (k+2)).call 5 [.str (jX o),.int a,.int b] M=if Jd o a b then .exc 2 M else .ok (.int (BL o a b)) M:=by
 have z:∀ u:Str,ev (af aq (k+1)) (.cmp .eq (.v 0) (.k (.str u))) [some (.str (jX o)),some (.int a),some (.int b),none] M=.ok (.bl (decide (jX o=u))) M:=fun u=>Ad rfl
 have fin:∀ {v:Int},exs (af aq (k+1)) (.cons (.ex (.call 4 (.cons (.v 3) .nil))) (.cons (.ret (.v 3)) .nil)) [some (.str (jX o)),some (.int a),some (.int b),some (.int v)] M=if great v then .ok (.xc 2 [some (.str (jX o)),some (.int a),some (.int b),some (.int v)]) M else .ok (.rt (.int v)) M:=fun {v}=>by
  have q:=(bW (Φ:=af aq (k+1)) (f:=4) (e_v (M:=M) (σ:=[some (.str (jX o)),some (.int a),some (.int b),some (.int v)]) (i:=3) rfl)).trans Mc
  cases hg:great v with
  | true=>rw [hg] at q;exact l8 q
  | false=>rw [hg] at q;exact (bZ q).trans rfl
 have done:∀ {v:Int},exs (af aq (k+1)) gY.body [some (.str (jX o)),some (.int a),some (.int b),none] M=exs (af aq (k+1)) (.cons (.ex (.call 4 (.cons (.v 3) .nil))) (.cons (.ret (.v 3)) .nil)) [some (.str (jX o)),some (.int a),some (.int b),some (.int v)] M ->
   (af aq (k+2)).call 5 [.str (jX o),.int a,.int b] M=if great v then .exc 2 M else .ok (.int v) M:=fun {v} h=>by
  rw [fin] at h
  cases hg:great v with
  | true=>rw [hg] at h;exact jt fn5 rfl h aX
  | false=>rw [hg] at h;exact aQ fn5 rfl h (au rfl rfl)
 cases o with
 | less =>
  have z1:=z (w "less")
  rw [show decide (jX .less=w "less")=true by decide +kernel] at z1
  have e2:ev (af aq (k+1)) (.AU (.cmp .lt (.v 1) (.v 2)) (.k (.int 1)) (.k (.int 0))) [some (.str (jX .less)),some (.int a),some (.int b),none] M=.ok (.int (BL .less a b)) M:=by
   rw [zY,e_lt (a:=a) (b:=b) rfl rfl rfl,R.aa]
   by_cases h:a<b
   ·simp [h,BL]
   ·simp [h,BL]
  exact aQ fn5 rfl (bY z1 (bq e2)) (au rfl rfl)
 | plus =>
  have z1:=z (w "less")
  rw [show decide (jX .plus=w "less")=false by decide +kernel] at z1
  have z2:=z (w "plus")
  rw [show decide (jX .plus=w "plus")=true by decide +kernel] at z2
  exact done ((aM z1).trans (pq z2 ((av (fY rfl rfl)).trans rfl)))
 | minus =>
  have z1:=z (w "less")
  rw [show decide (jX .minus=w "less")=false by decide +kernel] at z1
  have z2:=z (w "plus")
  rw [show decide (jX .minus=w "plus")=false by decide +kernel] at z2
  have z3:=z (w "minus")
  rw [show decide (jX .minus=w "minus")=true by decide +kernel] at z3
  exact done ((aM z1).trans (m9 z2 ((pq z3 ((av (qm rfl rfl)).trans rfl)).trans rfl)))
 | times =>
  have z1:=z (w "less")
  rw [show decide (jX .times=w "less")=false by decide +kernel] at z1
  have z2:=z (w "plus")
  rw [show decide (jX .times=w "plus")=false by decide +kernel] at z2
  have z3:=z (w "minus")
  rw [show decide (jX .times=w "minus")=false by decide +kernel] at z3
  exact done ((aM z1).trans (m9 z2 ((m9 z3 ((av (uS rfl rfl ha hb)).trans rfl)).trans rfl)))
end
inductive Vl:D->Prop
 | int {i:Int}:mid i=true->Vl (.int i)
 | ak:Vl .ak
 | cell {wd:Str} {sz:Int} {a b:D}:1<=sz->sz<=1000->Vl a->Vl b->Vl (.tup [.str wd,.int sz,a,b])
noncomputable def gG:D->Int
 | .tup (_::.int n::_)=>n
 | _=>1
theorem Vl.sz {v:D} (h:Vl v):1<=gG v/\gG v<=1000:=by
 cases h with
 | int i=>simp [gG]
 | ak=>simp [gG]
 | cell h1 h2 _ _=>exact ⟨h1,h2⟩
theorem Vl.nr {v:D} (h:Vl v):∀ m,Fg.nr m v=true:=fun m=>by
 induction h with
 | int=>simp [Fg.nr]
 | ak=>simp [Fg.nr]
 | cell _ _ _ _ i j=>simp [Fg.nr,cG,i,j]
noncomputable def layW (c:Bool):Str:=if c then w "cons" else w "pair"
noncomputable def dX (c t:Bool):Str:=if c then (if t then w "tail" else w "head") else (if t then w "second" else w "first")
inductive Op where
 | rk (o:Rk)
 | lay (c:Bool)
 | look (c t:Bool)
 | none
noncomputable def Op.w:Op->Str
 | .rk o=>jX o
 | .lay c=>layW c
 | .look c t=>dX c t
 | .none=>bD.w "none"
inductive Cz where
 | ok (d:D)
 | exc (c:Nat)
noncomputable def Cz.r (M:MH):Cz->R D
 | .ok d=>.ok d M
 | .exc c=>.exc c M
inductive fh:Op->List D->Cz->Prop
 | rk {o:Rk} {a b:Int}:mid a=true->mid b=true->fh (.rk o) [.int a,.int b] (if Jd o a b then .exc 2 else .ok (.int (BL o a b)))
 | lay {c:Bool} {a b:D}:Vl a->Vl b->fh (.lay c) [a,b] (if 1000<1+gG a+gG b then .exc 2 else .ok (.tup [.str (layW c),.int (1+gG a+gG b),a,b]))
 | empty {c t:Bool}:fh (.look c t) [.ak] (.exc 3)
 | look {c t:Bool} {wd:Str} {sz:Int} {a b:D}:Vl a->Vl b->fh (.look c t) [.tup [.str wd,.int sz,a,b]] (.ok (if t then b else a))
 | none {v:D}:fh .none [v] (.ok (.int (if dj v then 1 else 0)))
section
variable {M:MH} {k n:Nat}
theorem oA {v:D} (hv:Vl v):(af aq (k+1)).call 2 [v] M=.ok (.int (gG v)) M:=by
 rw [cL fn2]
 cases hv <;> simp [kB,jj,HK,pZ,vw,gG,fM,nr]
theorem gl1:aq.glob 1=some (.int 1000):=rfl
theorem IM {wd:Str} {a b:D} (hw:wd.length<=100000) (ha:Vl a) (hb:Vl b):(af aq (k+2)).call 3 [.str wd,a,b] M=if 1000<1+gG a+gG b then .exc 2 M else .ok (.tup [.str wd,.int (1+gG a+gG b),a,b]) M:=by
 rw [cL fn3]
 have h1:=ha.sz
 have h2:=hb.sz
 have h3:(1+gG a+gG b).natAbs<18446744073709551616:=by omega
 by_cases hq:1000<1+gG a+gG b
 ·simp [kB,gn,oA ha,oA hb,qI,gw,gl1,bJ,sM,hq,bV,hw,h3,aX]
 ·simp [kB,gn,oA ha,oA hb,qI,gw,gl1,bJ,sM,hq,fM,nr,cG,ha.nr,hb.nr]
theorem Aw {wd:Str} (hw:wd.length<=100000):(af aq (k+1)).call 6 [.str wd,.ak] M=.exc 3 M:=by
 rw [cL fn6]
 simp [kB,fT,bJ,dj,bV,hw,aX]
theorem lu {wd c:Str} {sz:Int} {a b:D} {q:Bool} (hq:([w "first", w "head"].any fun z=>decide (z=wd))=q) (ha:Vl a) (hb:Vl b):(af aq (k+1)).call 6 [.str wd, .tup [.str c, .int sz, a, b]] M=.ok (if q then a else b) M:=by
 have e1:ev (af aq k) (.cmp .AS (.v 1) (.k .ak)) [some (.str wd),some (.tup [.str c,.int sz,a,b])] M=.ok (.bl false) M:=rfl
 have e2:=mO (Φ:=af aq k) (e:=.v 0) (σ:=[some (.str wd),some (.tup [.str c,.int sz,a,b])]) (M:=M) (M1:=M) rfl hq
 cases q with
 | true=>exact aQ fn6 rfl ((aM e1).trans (bY e2 (bq rfl))) (au (ha.nr _) rfl)
 | false=>exact aQ fn6 rfl ((aM e1).trans ((aM e2).trans (bq rfl))) (au (hb.nr _) rfl)
theorem tT {o:Op}:o.w.length<=100000:=by
 cases o with
 | rk o=>cases o <;> decide +kernel
 | lay c=>cases c <;> decide +kernel
 | look c t=>cases c <;> cases t <;> decide +kernel
 | none=>decide +kernel
noncomputable def w1:List Str:=[w "plus", w "minus", w "times", w "less"]
noncomputable def w2:List Str:=[w "pair", w "cons"]
noncomputable def an (ws:List Str) (z:Str):Bool:=ws.any fun y=>decide (y=z)
theorem IL {o:Op} {ds:List D} {r:Cz} (hc:fh o ds r) (h:M[n]? = some (.lst ds)):(af aq (k+3)).call 7 [.str o.w,.ref n] M=r.r M:=by
 let σ:Sg:=[some (.str o.w),some (.ref n)]
 have a1:ev (af aq (k+2)) (.cmp .isin (.v 0) (.tup (EE w1))) σ M=.ok (.bl (an w1 o.w)) M:=mO (c:=o.w) rfl rfl
 have a2:ev (af aq (k+2)) (.cmp .isin (.v 0) (.tup (EE w2))) σ M=.ok (.bl (an w2 o.w)) M:=mO (c:=o.w) rfl rfl
 have a3:ev (af aq (k+2)) (.cmp .eq (.v 0) (.k (.str (w "none")))) σ M=.ok (.bl (decide (o.w=w "none"))) M:=Ad rfl
 have ix:∀ (j:Int) (d:D),qM ds j=some d->ev (af aq (k+2)) (.idx (.v 1) (.k (.int j))) σ M=.ok d M:=fun j d hj=>LN rfl rfl h hj
 cases hc with
 | @rk o a b ha hb =>
  have q1:an w1 (jX o)=true:=by cases o <;> decide +kernel
  rw [show (Op.rk o).w=jX o from rfl,q1] at a1
  have ec:ev (af aq (k+2)) (.call 5 (.cons (.v 0) (.cons (.idx (.v 1) (.k (.int 0))) (.cons (.idx (.v 1) (.k (.int 1))) .nil)))) σ M=(if Jd o a b then .exc 2 M else .ok (.int (BL o a b)) M):=by
   rw [bB,cY (x:=.str (jX o)) (M1:=M) rfl (cY (ix 0 (.int a) bG) (cY (ix 1 (.int b) gQ) rfl)),R.aa]
   exact IG (k:=k) (o:=o) (a:=a) (b:=b) ha hb
  cases hg:Jd o a b with
  | true=>rw [hg] at ec;exact jt HU rfl (o9 a1 (rB ec)) aX
  | false=>rw [hg] at ec;exact aQ HU rfl (bY a1 (bq ec)) (au rfl rfl)
 | @lay c a b ha hb =>
  have q1:an w1 (layW c)=false:=by cases c <;> decide +kernel
  have q2:an w2 (layW c)=true:=by cases c <;> decide +kernel
  rw [show (Op.lay c).w=layW c from rfl] at a1 a2
  rw [q1] at a1
  rw [q2] at a2
  have ec:ev (af aq (k+2)) (.call 3 (.cons (.v 0) (.cons (.idx (.v 1) (.k (.int 0))) (.cons (.idx (.v 1) (.k (.int 1))) .nil)))) σ M=(if 1000<1+gG a+gG b then .exc 2 M else .ok (.tup [.str (layW c),.int (1+gG a+gG b),a,b]) M):=by
   rw [bB,cY (x:=.str (layW c)) (M1:=M) rfl (cY (ix 0 a bG) (cY (ix 1 b gQ) rfl)),R.aa]
   exact IM (k:=k) (wd:=layW c) (tT (o:=.lay c)) ha hb
  by_cases hg:1000<1+gG a+gG b
  ·rw [if_pos hg] at ec ⊢
   exact jt HU rfl ((aM a1).trans (o9 a2 (rB ec))) aX
  ·rw [if_neg hg] at ec ⊢
   exact aQ HU rfl ((aM a1).trans (bY a2 (bq ec))) (au (by simp [nr,cG,ha.nr,hb.nr]) rfl)
 | none =>
  rename_i v
  have q1:an w1 (w "none")=false:=by decide +kernel
  have q2:an w2 (w "none")=false:=by decide +kernel
  have q3:decide (w "none" = w "none")=true:=by decide +kernel
  rw [show Op.none.w=w "none" from rfl] at a1 a2 a3
  rw [q1] at a1
  rw [q2] at a2
  rw [q3] at a3
  have ec:ev (af aq (k+2)) (.AU (.cmp .AS (.idx (.v 1) (.k (.int 0))) (.k .ak)) (.k (.int 1)) (.k (.int 0))) σ M=.ok (.int (if dj v then 1 else 0)) M:=by
   have e1:ev (af aq (k+2)) (.cmp .AS (.idx (.v 1) (.k (.int 0))) (.k .ak)) σ M=.ok (.bl (dj v)) M:=by
    rw [c6,ix 0 v bG,R.aa];rfl
   rw [zY,e1,R.aa]
   cases dj v <;> rfl
  exact aQ HU rfl ((aM a1).trans ((aM a2).trans (bY a3 (bq ec)))) (au rfl rfl)
 | @empty c t =>
  have q1:an w1 (dX c t)=false:=by cases c <;> cases t <;> decide +kernel
  have q2:an w2 (dX c t)=false:=by cases c <;> cases t <;> decide +kernel
  have q3:decide (dX c t=w "none")=false:=by cases c <;> cases t <;> decide +kernel
  rw [show (Op.look c t).w=dX c t from rfl] at a1 a2 a3
  rw [q1] at a1
  rw [q2] at a2
  rw [q3] at a3
  have ec:ev (af aq (k+2)) (.call 6 (.cons (.v 0) (.cons (.idx (.v 1) (.k (.int 0))) .nil))) σ M=.exc 3 M:=by
   rw [bB,cY (x:=.str (dX c t)) (M1:=M) rfl (cY (ix 0 .ak bG) rfl),R.aa]
   exact Aw (tT (o:=.look c t))
  exact jt HU rfl ((aM a1).trans ((aM a2).trans ((aM a3).trans (rB ec)))) aX
 | @look c t wd sz a b ha hb =>
  have q1:an w1 (dX c t)=false:=by cases c <;> cases t <;> decide +kernel
  have q2:an w2 (dX c t)=false:=by cases c <;> cases t <;> decide +kernel
  have q3:decide (dX c t=w "none")=false:=by cases c <;> cases t <;> decide +kernel
  have q4:([w "first", w "head"].any fun z=>decide (z=dX c t))=!t:=by cases c <;> cases t <;> decide +kernel
  rw [show (Op.look c t).w=dX c t from rfl] at a1 a2 a3
  rw [q1] at a1
  rw [q2] at a2
  rw [q3] at a3
  have ec:ev (af aq (k+2)) (.call 6 (.cons (.v 0) (.cons (.idx (.v 1) (.k (.int 0))) .nil))) σ M=.ok (if t then b else a) M:=by
   rw [bB,cY (x:=.str (dX c t)) (M1:=M) rfl (cY (ix 0 _ bG) rfl),R.aa,lu (wd:=dX c t) q4 ha hb]
   cases t <;> rfl
  have hr:Vl (if t then b else a):=by cases t <;> assumption
  exact aQ HU rfl ((aM a1).trans ((aM a2).trans ((aM a3).trans (bq ec)))) (au (hr.nr _) rfl)
end
end bD
end
section
namespace bD
open Fg PySem
inductive Kd where
 | num
 | pair (a b:Kd)
 | list (a:Kd)
noncomputable def Kd.d:Kd->D
 | .num=>.tup [.str (w "num")]
 | .pair a b=>.tup [.str (w "pair"), a.d, b.d]
 | .list a=>.tup [.str (w "list"), a.d]
mutual
inductive Pt where
 | num (i:Int)
 | lJ (x:Str)
 | nil (k:Kd)
 | lt (x:Str) (a b:Pt)
 | ite (c a b:Pt)
 | op (o:Op) (ps:bU)
 | call (f:Str) (ps:bU)
inductive bU where
 | nil
 | cons (p:Pt) (ps:bU)
end
mutual
noncomputable def Pt.d:Pt->D
 | .num i=>.tup [.str (w "number"), .int i]
 | .lJ x=>.tup [.str (w "name"), .str x]
 | .nil k=>.tup [.str (w "nil"), k.d]
 | .lt x a b=>.tup [.str (w "let"), .str x, a.d, b.d]
 | .ite c a b=>.tup [.str (w "if"), c.d, a.d, b.d]
 | .op o ps=>.tup (.str o.w::ps.ds)
 | .call f ps=>.tup (.str (w "call")::.str f::ps.ds)
noncomputable def bU.ds:bU->List D
 | .nil=>[]
 | .cons p ps=>p.d::ps.ds
end
noncomputable def bU.l:bU->List Pt
 | .nil=>[]
 | .cons p ps=>p::ps.l
theorem Kd.nr {m:Nat}:∀ k:Kd,Fg.nr m k.d=true
 | .num=>by simp [Kd.d,Fg.nr,cG]
 | .pair a b=>by simp [Kd.d,Fg.nr,cG,Kd.nr a,Kd.nr b]
 | .list a=>by simp [Kd.d,Fg.nr,cG,Kd.nr a]
mutual
theorem Pt.nr {m:Nat}:∀ p:Pt,Fg.nr m p.d=true
 | .num i=>by simp [Pt.d,Fg.nr,cG]
 | .lJ x=>by simp [Pt.d,Fg.nr,cG]
 | .nil k=>by simp [Pt.d,Fg.nr,cG,Kd.nr]
 | .lt x a b=>by simp [Pt.d,Fg.nr,cG,Pt.nr a,Pt.nr b]
 | .ite c a b=>by simp [Pt.d,Fg.nr,cG,Pt.nr c,Pt.nr a,Pt.nr b]
 | .op o ps=>by simp [Pt.d,Fg.nr,cG,bU.nr ps]
 | .call f ps=>by simp [Pt.d,Fg.nr,cG,bU.nr ps]
theorem bU.nr {m:Nat}:∀ ps:bU,cG m ps.ds=true
 | .nil=>by simp [bU.ds,cG]
 | .cons p ps=>by simp [bU.ds,cG,Pt.nr p,bU.nr ps]
end
structure Fd where
 nm:Str
 tk:List (Str×Kd)
 gv:Kd
 bd:Pt
noncomputable def Fd.d (f:Fd):D:=.tup [.str f.nm,.lst (f.tk.map fun t=>.tup [.str t.1,t.2.d]),f.gv.d,f.bd.d]
noncomputable def Je:D:=.dct [.inr (w "plus"), .inr (w "minus"), .inr (w "times"), .inr (w "less"), .inr (w "pair"), .inr (w "first"), .inr (w "second"), .inr (w "cons"), .inr (w "head"), .inr (w "tail"), .inr (w "none"), .inr (w "if")] [.int 2, .int 2, .int 2, .int 2, .int 2, .int 1, .int 1, .int 2, .int 1, .int 1, .int 1, .int 3]
theorem gl0:aq.glob 0=some Je:=rfl
noncomputable def pb (z:Str):Bool:=match zB [] (.str z) Je with | some t=>t | none=>false
section
variable {M:MH} {k n:Nat} {Φ:bz} {σ:Sg} {e:E}
theorem EI {z:Str} (he:ev (af aq k) e σ M=.ok (.str z) M):ev (af aq k) (.cmp .isin e (.g 0)) σ M=.ok (.bl (pb z)) M:=by
 rw [c6,he,R.aa,Lz,k9,gl0]
 show bJ .isin M (.str z) Je=_
 have e1:zB M (.str z) Je=zB [] (.str z) Je:=rfl
 have e2:zB [] (.str z) Je=some (pb z):=rfl
 simp only [bJ,e1,e2]
theorem cut1 {x:D} {xs:List D}:dg (x::xs) (some 1) none=xs:=by
 simp [dg,six]
theorem cut2 {x y:D} {xs:List D}:dg (x::y::xs) (some 2) none=xs:=by
 simp [dg,six]
theorem lg {z:Str} {xs:List D} (hz:pb z=true) (hn:cG M.length xs=true):(af aq (k+1)).call 0 [.tup (.str z::xs)] M=.ok (.tup xs) M:=by
 have e1:ev (af aq k) (.idx (.v 0) (.k (.int 0))) [some (.tup (.str z::xs)),none] M=.ok (.str z) M:=aK rfl rfl bG
 have e2:ev (af aq k) (.cmp .isin (.v 1) (.g 0)) [some (.tup (.str z::xs)),some (.str z)] M=.ok (.bl true) M:=by rw [EI (z:=z) rfl,hz]
 have e3:ev (af aq k) (.sl true (.v 0) (.some (.k (.int 1))) .none) [some (.tup (.str z::xs)),some (.str z)] M=.ok (.tup xs) M:=by
  show (if jC (xs.length+1) (some 1) none then R.bad else R.ok (D.tup (dg (D.str z::xs) (some 1) none)) M)=_
  rw [CO,cut1];rfl
 exact aQ fn0 rfl ((av e1).trans (bY e2 (bq e3))) (au (by simp only [nr,hn]) rfl)
noncomputable def w3:List Str:=[w "let", w "call"]
theorem iX {z:Str} {y:D} {xs:List D} (hz:pb z=false) (hz2:an w3 z=true) (hn:cG M.length xs=true):(af aq (k+1)).call 0 [.tup (.str z::y::xs)] M=.ok (.tup xs) M:=by
 have e1:ev (af aq k) (.idx (.v 0) (.k (.int 0))) [some (.tup (.str z::y::xs)),none] M=.ok (.str z) M:=aK rfl rfl bG
 have e2:ev (af aq k) (.cmp .isin (.v 1) (.g 0)) [some (.tup (.str z::y::xs)),some (.str z)] M=.ok (.bl false) M:=by rw [EI (z:=z) rfl,hz]
 have e4:ev (af aq k) (.cmp .isin (.v 1) (.tup (EE w3))) [some (.tup (.str z::y::xs)),some (.str z)] M=.ok (.bl true) M:=mO (c:=z) rfl hz2
 have e3:ev (af aq k) (.sl true (.v 0) (.some (.k (.int 2))) .none) [some (.tup (.str z::y::xs)),some (.str z)] M=.ok (.tup xs) M:=by
  show (if jC (xs.length+1+1) (some 2) none then R.bad else R.ok (D.tup (dg (D.str z::y::xs) (some 2) none)) M)=_
  rw [CN,cut2];rfl
 exact aQ fn0 rfl ((av e1).trans ((aM e2).trans (bY e4 (bq e3)))) (au (by simp only [nr,hn]) rfl)
theorem Eb {o:Op}:pb o.w=true:=by
 cases o with
 | rk o=>cases o <;> decide +kernel
 | lay c=>cases c <;> decide +kernel
 | look c t=>cases c <;> cases t <;> decide +kernel
 | none=>decide +kernel
end
noncomputable def aA (z:Str) (p en:D):D:=.tup [.str z,p,en]
section
variable {M0:MH} {s:Px} {p:List D} {t k:Nat} {Φ:bz} {σ:Sg} {e e':E} {x y en v:D} {kvs:List (Ky×D)}
theorem Ma {z:Str} (hl:s.todo.length<line):(af aq (k+1)).call 12 [.ref M0.length,.str z,x,en] (s.h M0)=.ok .ak (({ s with todo:=s.todo++[aA z x en] }:Px).h M0):=by
 have e1:=uT (Φ:=af aq k) (e:=.fld (.v 0) (w "todo")) (e':=.tup (.cons (.v 1) (.cons (.v 2) (.cons (.v 3) .nil)))) (σ:=[some (.ref M0.length), some (.str z), some x, some en]) (sy (s:=s) (i:=0) rfl) g1 rfl g1 hl
 rw [s1] at e1
 exact dS fn12 rfl ((bZ e1).trans rfl) (au (by simp [nr]) (by rw [len,len]))
theorem iT {z:Str} {s':Px} (h:σ[0]? = some (some (.ref M0.length))) (hx:ev (af aq (k+1)) e σ (s.h M0)=.ok x (s.h M0)) (hn:ev (af aq (k+1)) e' σ (s.h M0)=.ok en (s'.h M0)) (hl:s'.todo.length<line):ev (af aq (k+1)) (.c9 0 12 (w "put_off") (.v 0) (.cons (.k (.str z)) (.cons e (.cons e' .nil)))) σ (s.h M0)=.ok .ak (({ s' with todo:=s'.todo++[aA z x en] }:Px).h M0):=by
 rw [u_ h (by decide +kernel),cY (x:=.str z) rfl (cY hx (cY hn rfl)),R.aa]
 exact Ma hl
noncomputable def bg5:Ss:=.cons (.ex (.c9 0 12 (w "put_off") (.v 0) (.cons (.k (.str (w "end"))) (.cons (.v 1) (.cons (.v 2) .nil))))) (.cons (.for [4] (.rev (.call 0 (.cons (.v 1) .nil))) (.cons (.ex (.c9 0 12 (w "put_off") (.v 0) (.cons (.k (.str (w "begin"))) (.cons (.v 4) (.cons (.v 2) .nil))))) .nil)) .nil)
noncomputable def bg4:Ss:=.cons (.ex (.c9 0 12 (w "put_off") (.v 0) (.cons (.k (.str (w "go on"))) (.cons (.v 1) (.cons (.v 2) .nil))))) (.cons (.ex (.c9 0 12 (w "put_off") (.v 0) (.cons (.k (.str (w "begin"))) (.cons (.idx (.call 0 (.cons (.v 1) .nil)) (.k (.int 0))) (.cons (.v 2) .nil))))) .nil)
noncomputable def w4:List Str:=[w "let", w "if"]
noncomputable def bgT3:Ss:=.cons (.ifs (.cmp .isin (.v 3) (.tup (EE w4))) bg4 bg5) .nil
noncomputable def bg3:Ss:=.cons (.ex (.dI .append true (.fld (.v 0) (w "waiting")) (.cons (.k .ak) .nil))) .nil
noncomputable def bgT2:Ss:=.cons (.ifs (.cmp .eq (.v 3) (.k (.str (w "nil")))) bg3 bgT3) .nil
noncomputable def bg2:Ss:=.cons (.ex (.dI .append true (.fld (.v 0) (w "waiting")) (.cons (.idx (.v 2) (.idx (.v 1) (.k (.int 1)))) .nil))) .nil
noncomputable def Mi:Ss:=.cons (.ifs (.cmp .eq (.v 3) (.k (.str (w "name")))) bg2 bgT2) .nil
noncomputable def bg1:Ss:=.cons (.ex (.dI .append true (.fld (.v 0) (w "waiting")) (.cons (.idx (.v 1) (.k (.int 1))) .nil))) .nil
theorem sR:bu.body=.cons (.set 3 (.idx (.v 1) (.k (.int 0)))) (.cons (.ifs (.cmp .eq (.v 3) (.k (.str (w "number")))) bg1 Mi) .nil):=rfl
noncomputable abbrev sB (n:Nat) (z:Str) (xs:List D) (en:D) (o:Option D):Sg:=[some (.ref n),some (.tup (.str z::xs)),some en,some (.str z),o]
theorem lq {z:Str} {xs:List D}:exs Φ bu.body [some (.ref M0.length), some (.tup (.str z::xs)), some en, none, none] (s.h M0)=exs Φ (.cons (.ifs (.cmp .eq (.v 3) (.k (.str (w "number")))) bg1 Mi) .nil) (sB M0.length z xs en none) (s.h M0):=by
 rw [sR];exact av (aK rfl rfl bG)
theorem Fi {i:Int} (hl:s.wt.length<line):(af aq (k+1)).call 13 [.ref M0.length,(Pt.num i).d,en] (s.h M0)=.ok .ak (({ s with wt:=s.wt++[.int i] }:Px).h M0):=by
 have e1:=sH (Φ:=af aq k) (M0:=M0) (s:=s) (s':=s) (i:=0) (σ:=sB M0.length (w "number") [.int i] en none) (e:=.idx (.v 1) (.k (.int 1))) (d:=.int i) rfl (aK rfl rfl gQ) hl
 exact dS zK rfl (lq.trans ((ku (bF rfl (by decide +kernel))).trans ((bZ e1).trans rfl))) (au (by simp [nr]) (by rw [len,len]))
theorem Fl {z:Str} (ht:s.T[t]? = some (.dct kvs)) (hv:look kvs (.inr z)=some v) (hl:s.wt.length<line):(af aq (k+1)).call 13 [.ref M0.length,(Pt.lJ z).d,.ref (M0.length+(t+3))] (s.h M0)=.ok .ak (({ s with wt:=s.wt++[v] }:Px).h M0):=by
 have e1:=sH (Φ:=af aq k) (M0:=M0) (s:=s) (s':=s) (i:=0) (σ:=sB M0.length (w "name") [.str z] (.ref (M0.length+(t+3))) none) (e:=.idx (.v 2) (.idx (.v 1) (.k (.int 1)))) (d:=v) rfl (LO rfl (aK rfl rfl gQ) (gT.trans ht) hv) hl
 exact dS zK rfl (lq.trans ((cP (bF rfl (by decide +kernel))).trans ((ku (bF rfl (by decide +kernel))).trans ((bZ e1).trans rfl)))) (au (by simp [nr]) (by rw [len,len]))
theorem Fj {kd:Kd} (hl:s.wt.length<line):(af aq (k+1)).call 13 [.ref M0.length,(Pt.nil kd).d,en] (s.h M0)=.ok .ak (({ s with wt:=s.wt++[.ak] }:Px).h M0):=by
 have e1:=sH (Φ:=af aq k) (M0:=M0) (s:=s) (s':=s) (i:=0) (σ:=sB M0.length (w "nil") [kd.d] en none) (e:=.k .ak) (d:=.ak) rfl rfl hl
 exact dS zK rfl (lq.trans ((cP (bF rfl (by decide +kernel))).trans ((cP (bF rfl (by decide +kernel))).trans ((ku (bF rfl (by decide +kernel))).trans ((bZ e1).trans rfl))))) (au (by simp [nr]) (by rw [len,len]))
theorem xK {z:Str} {xs ys:List D} (h1:decide (z=w "number")=false) (h2:decide (z=w "name")=false) (h3:decide (z=w "nil")=false) (h4:an w4 z=true) (hi:∀ M, (s.h M0).length=M.length->(af aq (k+1)).call 0 [.tup (.str z::xs)] M=.ok (.tup (x::ys)) M) (hl:s.todo.length+1<line) :
  (af aq (k+2)).call 13 [.ref M0.length, .tup (.str z::xs), en] (s.h M0)=.ok .ak (({ s with todo:=s.todo++[aA (w "go on") (.tup (.str z::xs)) en]++[aA (w "begin") x en] }:Px).h M0):=by
 have e1:=iT (k:=k) (M0:=M0) (s:=s) (s':=s) (σ:=sB M0.length z xs en none) (z:=w "go on") (e:=.v 1) (e':=.v 2) (x:=.tup (.str z::xs)) (en:=en) rfl rfl rfl (by omega)
 have e2:=iT (k:=k) (M0:=M0) (s:={ s with todo:=s.todo++[aA (w "go on") (.tup (.str z::xs)) en] }) (s':={ s with todo:=s.todo++[aA (w "go on") (.tup (.str z::xs)) en] }) (σ:=sB M0.length z xs en none) (z:=w "begin") (e:=.idx (.call 0 (.cons (.v 1) .nil)) (.k (.int 0))) (e':=.v 2) (x:=x) (en:=en) rfl (aK ((bW rfl).trans (hi _ (by rw [len, len]))) rfl bG) rfl (by simp;omega)
 exact dS zK rfl (lq.trans ((cP (bF rfl h1)).trans ((cP (bF rfl h2)).trans ((cP (bF rfl h3)).trans ((ku (mO (c:=z) rfl h4)).trans ((bZ e1).trans ((bZ e2).trans rfl))))))) (au (by simp [nr]) (by rw [len,len]))
theorem qV {z:Str} {a b:Pt} (hl:s.todo.length+1<line):(af aq (k+2)).call 13 [.ref M0.length, (Pt.lt z a b).d, en] (s.h M0)=.ok .ak (({ s with todo:=s.todo++[aA (w "go on") (Pt.lt z a b).d en]++[aA (w "begin") a.d en] }:Px).h M0):=by
 have:(Pt.lt z a b).d=.tup (.str (w "let")::.str z::[a.d, b.d]):=by rw [Pt.d]
 rw [this]
 exact xK (by decide +kernel) (by decide +kernel) (by decide +kernel) (by decide +kernel) (fun M _=>iX (by decide +kernel) (by decide +kernel) (by simp [cG,a.nr,b.nr])) hl
theorem qW {c a b:Pt} (hl:s.todo.length+1<line):(af aq (k+2)).call 13 [.ref M0.length, (Pt.ite c a b).d, en] (s.h M0)=.ok .ak (({ s with todo:=s.todo++[aA (w "go on") (Pt.ite c a b).d en]++[aA (w "begin") c.d en] }:Px).h M0):=by
 have:(Pt.ite c a b).d=.tup (.str (w "if")::[c.d, a.d, b.d]):=by rw [Pt.d]
 rw [this]
 exact xK (by decide +kernel) (by decide +kernel) (by decide +kernel) (by decide +kernel) (fun M _=>lg (by decide +kernel) (by simp [cG,c.nr,a.nr,b.nr])) hl
theorem yW {z:Str} {xs:List D} {ch:MH->Bool} (hch:∀ M,ch M=true):∀ (ds:List D) (s:Px) (o:Option D),s.todo.length+ds.length<line ->
  ∃ o', aI (exs (af aq (k+1)) (.cons (.ex (.c9 0 12 (w "put_off") (.v 0) (.cons (.k (.str (w "begin"))) (.cons (.v 4) (.cons (.v 2) .nil))))) .nil)) [4] ch ds (sB M0.length z xs en o) (s.h M0)=.ok (.nx (sB M0.length z xs en o')) (({ s with todo:=s.todo++ds.map fun d=>aA (w "begin") d en }:Px).h M0)
 | [],s,o,_=>⟨o,by rw [List.map_nil,List.append_nil];rfl⟩
 | d::ds,s,o,hl=>by
  simp only [List.length_cons] at hl
  obtain ⟨o', q⟩:=yW hch ds { s with todo:=s.todo++[aA (w "begin") d en] } (some d) (by simp;omega)
  have e1:=iT (k:=k) (M0:=M0) (s:=s) (s':=s) (σ:=sB M0.length z xs en (some d)) (z:=w "begin") (e:=.v 4) (e':=.v 2) (x:=d) (en:=en) rfl rfl rfl (by omega)
  refine ⟨o',?_⟩
  rw [aI]
  show ((exs (af aq (k+1)) _ (sB M0.length z xs en (some d)) (s.h M0)).bind _)=_
  rw [bZ e1]
  show (if ch _ then _ else _)=_
  rw [if_pos (hch _),q]
  simp
theorem tH {z:Str} {xs ys:List D} (h1:decide (z=w "number")=false) (h2:decide (z=w "name")=false) (h3:decide (z=w "nil")=false) (h4:an w4 z=false) (hi:∀ M, (af aq (k+1)).call 0 [.tup (.str z::xs)] M=.ok (.tup ys) M) (hl:s.todo.length+1+ys.length<line) :
  (af aq (k+2)).call 13 [.ref M0.length, .tup (.str z::xs), en] (s.h M0)=.ok .ak (({ s with todo:=s.todo++[aA (w "end") (.tup (.str z::xs)) en]++ys.reverse.map fun d=>aA (w "begin") d en }:Px).h M0):=by
 have e1:=iT (k:=k) (M0:=M0) (s:=s) (s':=s) (σ:=sB M0.length z xs en none) (z:=w "end") (e:=.v 1) (e':=.v 2) (x:=.tup (.str z::xs)) (en:=en) rfl rfl rfl (by omega)
 have hv:aJ (af aq (k+1)) (.rev (.call 0 (.cons (.v 1) .nil))) (sB M0.length z xs en none) (({ s with todo:=s.todo++[aA (w "end") (.tup (.str z::xs)) en] }:Px).h M0)=.ok (.ak, ys.reverse, false) (({ s with todo:=s.todo++[aA (w "end") (.tup (.str z::xs)) en] }:Px).h M0):=by
  rw [C6, (bW (d:=.tup (.str z::xs)) (M1:=({ s with todo:=s.todo++[aA (w "end") (.tup (.str z::xs)) en] }:Px).h M0) rfl).trans (hi _)];rfl
 obtain ⟨o', q⟩:=yW (k:=k) (M0:=M0) (z:=z) (xs:=xs) (en:=en) (ch:=aF (({ s with todo:=s.todo++[aA (w "end") (.tup (.str z::xs)) en] }:Px).h M0) .ak) (fun _=>rfl) ys.reverse { s with todo:=s.todo++[aA (w "end") (.tup (.str z::xs)) en] } none (by simp;omega)
 exact dS zK rfl (lq.trans ((cP (bF rfl h1)).trans ((cP (bF rfl h2)).trans ((cP (bF rfl h3)).trans ((cP (mO (c:=z) rfl h4)).trans ((bZ e1).trans ((fj hv q).trans rfl))))))) (au (by simp [nr]) (by rw [len,len]))
theorem xJ {o:Op} {ps:bU} (hl:s.todo.length+1+ps.ds.length<line):(af aq (k+2)).call 13 [.ref M0.length, (Pt.op o ps).d, en] (s.h M0)=.ok .ak (({ s with todo:=s.todo++[aA (w "end") (Pt.op o ps).d en]++ps.ds.reverse.map fun d=>aA (w "begin") d en }:Px).h M0):=by
 have:(Pt.op o ps).d=.tup (.str o.w::ps.ds):=by rw [Pt.d]
 rw [this]
 have q:decide (o.w=w "number")=false/\decide (o.w=w "name")=false/\decide (o.w=w "nil")=false/\an w4 o.w=false:=by
  cases o with
  | rk o=>cases o <;> decide +kernel
  | lay c=>cases c <;> decide +kernel
  | look c t=>cases c <;> cases t <;> decide +kernel
  | none=>decide +kernel
 exact tH q.1 q.2.1 q.2.2.1 q.2.2.2 (fun M=>lg Eb ps.nr) hl
theorem iA {f:Str} {ps:bU} (hl:s.todo.length+1+ps.ds.length<line):(af aq (k+2)).call 13 [.ref M0.length, (Pt.call f ps).d, en] (s.h M0)=.ok .ak (({ s with todo:=s.todo++[aA (w "end") (Pt.call f ps).d en]++ps.ds.reverse.map fun d=>aA (w "begin") d en }:Px).h M0):=by
 have:(Pt.call f ps).d=.tup (.str (w "call")::.str f::ps.ds):=by rw [Pt.d]
 rw [this]
 exact tH (by decide +kernel) (by decide +kernel) (by decide +kernel) (by decide +kernel) (fun M=>iX (by decide +kernel) (by decide +kernel) ps.nr) hl
end
end bD
end
section
namespace bD
open Fg PySem
section
variable {M0 M M1 M2:MH} {s s':Px} {p xs:List D} {t k n:Nat} {Φ:bz} {σ:Sg} {e e' a b:E} {x y en v d:D} {kvs:List (Ky×D)} {ss:Ss}
theorem Iu {fz:Bool} (he:ev Φ e σ M=.ok (.ref n) M1) (h:M1[n]? = some (.dct kvs)):ev Φ (.blt .dict fz (.cons e .nil)) σ M=.ok (.ref M1.length) (M1++[.dct kvs]):=by
 rw [z9,Ls he,R.aa]
 simp only [wN,vw,h]
theorem FJ {z:Str} (he:ev Φ e σ M=.ok d M) (ha:ev Φ a σ M=.ok (.ref n) M) (hb:ev Φ b σ M=.ok (.str z) M) (h:M[n]? = some (.dct kvs)) (hl:kvs.length<line):exs Φ (.cons (.rq a b e) ss) σ M=exs Φ ss σ (M.set n (.dct (put kvs (.inr z) d))):=by
 simp only [bO,CW,he,R.gR,ha,hb,m8,h,keyOf,hl,decide_true,if_true,R.aa]
theorem LL {i j:Int} (he:ev Φ e σ M=.ok (.int i) M1):ev Φ (.cmp .ne e (.k (.int j))) σ M=.ok (.bl (!decide (i=j))) M1:=by
 rw [c6,he,R.aa,qg,R.aa]
 simp [bJ,w5,AN,top,cE,Fg.plain,dep]
theorem Iq {z u:Str} (he:ev Φ e σ M=.ok (.str z) M1) (hx:ev Φ e' σ M1=.ok (.str u) M2):ev Φ (.cmp .eq e e') σ M=.ok (.bl (decide (z=u))) M2:=by
 rw [c6,he,R.aa,hx,R.aa]
 simp [bJ,w5,NN,cE,top,Fg.plain,dep]
theorem GL {M:MH} {n:Nat} (h:M[n]? = some (.lst xs)):nI .reverse M (.ref n)=true:=by simp only [nI,b9 h,Option.isSome_some,Bool.and_self]
theorem LK (he:ev Φ e σ M=.ok (.ref n) M1) (h:M1[n]? = some (.lst xs)):ev Φ (.dI .reverse true e .nil) σ M=.ok .ak (M1.set n (.lst xs.reverse)):=by
 simp only [jm,he,R.aa,GL h,if_true,eZ,gW,b9 h,pT,List.isEmpty_nil]
theorem oU {z:Str} {q r:Pt} (hw:s.wt=p++[v]) (ht:s.T[t]? = some (.dct kvs)) (hk:kvs.length<line) (hl:s.todo.length<line) :
  ∃ Y, (af aq (k+2)).call 14 [.ref M0.length, (Pt.lt z q r).d, .ref (M0.length+(t+3))] (s.h M0)=.ok .ak (({ s with wt:=p, T:=s.T++Y, todo:=s.todo++[aA (w "begin") r.d (.ref (M0.length+(s.T.length+3)))] }:Px).h M0)/\Y=[.dct (put kvs (.inr z) v)]:=by
 refine ⟨_,?_,rfl⟩
 have ed:(Pt.lt z q r).d=.tup [.str (w "let"), .str z, q.d, r.d]:=by rw [Pt.d]
 rw [ed]
 let P:D:=.tup [.str (w "let"), .str z, q.d, r.d]
 let en:D:=.ref (M0.length+(t+3))
 have e1:=uR (Φ:=af aq (k+1)) (M0:=M0) (s:=s) (σ:=[some (.ref M0.length),some P,some en,none,none]) (i:=0) rfl hw
 have c1:ev (af aq (k+1)) (.cmp .eq (.idx (.v 1) (.k (.int 0))) (.k (.str (w "let")))) [some (.ref M0.length), some P, some en, some v, none] (({ s with wt:=p }:Px).h M0)=.ok (.bl true) (({ s with wt:=p }:Px).h M0):=bF (c:=w "let") (aK rfl rfl bG) (by decide +kernel)
 have e2:=Iu (Φ:=af aq (k+1)) (fz:=false) (e:=.v 2) (σ:=[some (.ref M0.length),some P,some en,some v,none]) (M:=({ s with wt:=p }:Px).h M0) (M1:=({ s with wt:=p }:Px).h M0) (n:=M0.length+(t+3)) (kvs:=kvs) rfl (gT.trans ht)
 have el:(({ s with wt:=p }:Px).h M0).length=M0.length+(s.T.length+3):=len
 rw [el,app] at e2
 let kn:D:=.ref (M0.length+(s.T.length+3))
 have e3:=FJ (Φ:=af aq (k+1)) (σ:=[some (.ref M0.length), some P, some en, some v, some kn]) (M:=({ s with wt:=p, T:=s.T++[.dct kvs] }:Px).h M0) (e:=.v 3) (a:=.v 4) (b:=.idx (.v 1) (.k (.int 1))) (n:=M0.length+(s.T.length+3)) (kvs:=kvs) (d:=v) (z:=z) (ss:=.cons (.ex (.c9 0 12 (w "put_off") (.v 0) (.cons (.k (.str (w "begin"))) (.cons (.idx (.v 1) (.k (.int 3))) (.cons (.v 4) .nil))))) .nil) rfl rfl (aK rfl rfl gQ) (gT.trans (by show (s.T++[MO.dct kvs])[s.T.length]? = _;simp)) hk
 rw [sT] at e3
 have es:(s.T++[MO.dct kvs]).set s.T.length (.dct (put kvs (.inr z) v))=s.T++[.dct (put kvs (.inr z) v)]:=by rw [List.set_append_right _ _ (Nat.le_refl _),Nat.sub_self];rfl
 have es2:({ ({ s with wt:=p,T:=s.T++[.dct kvs] }:Px) with T:=(s.T++[MO.dct kvs]).set s.T.length (.dct (put kvs (.inr z) v)) }:Px)={ s with wt:=p,T:=s.T++[.dct (put kvs (.inr z) v)] }:=by rw [es]
 rw [show ({ wt:=p,prog:=s.prog,most:=s.most,bg:=s.bg,un:=s.un,todo:=s.todo,T:=(s.T++[MO.dct kvs]).set s.T.length (.dct (put kvs (.inr z) v)) }:Px)={ s with wt:=p,T:=s.T++[.dct (put kvs (.inr z) v)] } from es2] at e3
 have e4:=iT (k:=k) (M0:=M0) (s:={ s with wt:=p, T:=s.T++[.dct (put kvs (.inr z) v)] }) (s':={ s with wt:=p, T:=s.T++[.dct (put kvs (.inr z) v)] }) (σ:=[some (.ref M0.length), some P, some en, some v, some kn]) (z:=w "begin") (e:=.idx (.v 1) (.k (.int 3))) (e':=.v 4) (x:=r.d) (en:=kn) rfl (aK rfl rfl qD) rfl hl
 have fin:=dS (P:=aq) (k:=k+1) (M:=s.h M0) (ds:=[.ref M0.length,P,en]) HX rfl ((av e1).trans ((pq c1 ((av e2).trans (e3.trans ((bZ e4).trans rfl)))).trans rfl)) (r:=.ok .ak _) (by
  unfold fM
  rw [if_neg]
  intro hh
  have hz:=congrArg (fun m=>m[M0.length+2]?) hh.2
  have hlen:M0.length+2<(s.h M0).length:=by rw [len];omega
  simp only [List.getElem?_take_of_lt hlen,g2] at hz
  rw [hw] at hz
  have:=congrArg List.length (MO.lst.inj (Option.some.inj hz))
  simp at this)
 exact fin
theorem DU {c q r:Pt} {i:Int} (hw:s.wt=p++[.int i]) (hl:s.todo.length<line) :
  (af aq (k+2)).call 14 [.ref M0.length, (Pt.ite c q r).d, en] (s.h M0)=.ok .ak (({ s with wt:=p, todo:=s.todo++[aA (w "begin") (if i=0 then r.d else q.d) en] }:Px).h M0):=by
 have ed:(Pt.ite c q r).d=.tup [.str (w "if"), c.d, q.d, r.d]:=by rw [Pt.d]
 rw [ed]
 let P:D:=.tup [.str (w "if"), c.d, q.d, r.d]
 have e1:=uR (Φ:=af aq (k+1)) (M0:=M0) (s:=s) (σ:=[some (.ref M0.length),some P,some en,none,none]) (i:=0) rfl hw
 have c1:ev (af aq (k+1)) (.cmp .eq (.idx (.v 1) (.k (.int 0))) (.k (.str (w "let")))) [some (.ref M0.length), some P, some en, some (.int i), none] (({ s with wt:=p }:Px).h M0)=.ok (.bl false) (({ s with wt:=p }:Px).h M0):=bF (c:=w "if") (aK rfl rfl bG) (by decide +kernel)
 have c2:ev (af aq (k+1)) (.cmp .ne (.v 3) (.k (.int 0))) [some (.ref M0.length),some P,some en,some (.int i),none] (({ s with wt:=p }:Px).h M0)=.ok (.bl (!decide (i=0))) (({ s with wt:=p }:Px).h M0):=LL rfl
 by_cases h:i=0
 ·rw [decide_eq_true h] at c2
  rw [if_pos h]
  have e4:=iT (k:=k) (M0:=M0) (s:={ s with wt:=p }) (s':={ s with wt:=p }) (σ:=[some (.ref M0.length), some P, some en, some (.int i), none]) (z:=w "begin") (e:=.idx (.v 1) (.k (.int 3))) (e':=.v 2) (x:=r.d) (en:=en) rfl (aK rfl rfl qD) rfl hl
  exact dS HX rfl ((av e1).trans ((cP c1).trans ((cP c2).trans ((bZ e4).trans rfl)))) (au (by simp [nr]) (by rw [len,len]))
 ·rw [decide_eq_false h] at c2
  rw [if_neg h]
  have e4:=iT (k:=k) (M0:=M0) (s:={ s with wt:=p }) (s':={ s with wt:=p }) (σ:=[some (.ref M0.length), some P, some en, some (.int i), none]) (z:=w "begin") (e:=.idx (.v 1) (.k (.int 2))) (e':=.v 2) (x:=q.d) (en:=en) rfl (aK rfl rfl qE) rfl hl
  exact dS HX rfl ((av e1).trans ((cP c1).trans ((ku c2).trans ((bZ e4).trans rfl)))) (au (by simp [nr]) (by rw [len,len]))
end
end bD
end
section
namespace bD
open Fg PySem
section
variable {M0 M M1 M2:MH} {s s':Px} {p xs:List D} {t k n:Nat} {Φ:bz} {σ:Sg} {e e' a b:E} {x y en v d:D} {kvs:List (Ky×D)} {ss:Ss}
theorem yZ {ch:MH->Bool} (hch:∀ M,ch M=true):∀ (xs ds:List D) (s:Px) (o:Option D) (acc:List D),ds.length=xs.length->s.wt=p++xs.reverse->acc.length+xs.length<=line ->
  bS (qK Φ .none) (ev Φ (.dI .pop true (.fld (.v 0) (w "waiting")) .nil)) [1] ch ds [some (.ref M0.length), o] (s.h M0) acc=.ok (acc++xs) (({ s with wt:=p }:Px).h M0)
 | [],[],s,o,acc,_,hp,_=>by
  rw [List.reverse_nil,List.append_nil] at hp
  rw [List.append_nil,bS,<- hp]
 | x::xs,d::ds,s,o,acc,hd,hp,hl=>by
  rw [List.reverse_cons,<- List.append_assoc] at hp
  simp only [List.length_cons] at hd hl
  rw [y9 (Φ:=Φ) (σ:=[some (.ref M0.length),o]) (uR (Φ:=Φ) (σ:=[some (.ref M0.length),some d]) (M0:=M0) (i:=0) rfl hp) (hch _) (by omega)]
  rw [show ([some (.ref M0.length),o]:Sg).set 1 (some d)=[some (.ref M0.length),some d] from rfl,yZ hch xs ds { s with wt:=p++xs.reverse } (some d) (acc++[x]) (by omega) rfl (by simp;omega)]
  rw [List.append_assoc];rfl
 | [],_::_,_,_,_,hd,_,_=>by simp at hd
 | _::_,[],_,_,_,hd,_,_=>by simp at hd
theorem n8 {z:Str} {qs ys vs:List D} {sb:Ss} (hi:∀ M,(af aq (k+1)).call 0 [.tup (.str z::qs)] M=.ok (.tup ys) M) (hy:ys.length=vs.length) (hw:s.wt=p++vs) (hl:vs.length<=line) :
  exs (af aq (k+1)) (.cons (.set 2 (.comp false [0] [1] (.dI .pop true (.fld (.v 0) (w "waiting")) .nil) (.e (.call 0 (.cons (.v 1) .nil))) .none)) (.cons (.ex (.dI .reverse true (.v 2) .nil)) sb)) [some (.ref M0.length), some (.tup (.str z::qs)), none] (s.h M0) =
   exs (af aq (k+1)) sb [some (.ref M0.length),some (.tup (.str z::qs)),some (.ref (M0.length+(s.T.length+3)))] (({ s with wt:=p,T:=s.T++[.lst vs] }:Px).h M0):=by
 have hi2:aJ (af aq (k+1)) (.e (.call 0 (.cons (.v 1) .nil))) [some (.ref M0.length),some (.tup (.str z::qs)),none] (s.h M0)=.ok (.tup ys,ys,false) (s.h M0):=by
  rw [zW,(bW (d:=.tup (.str z::qs)) (M1:=s.h M0) rfl).trans (hi _)];rfl
 have e1:=Iv (Φ:=af aq (k+1)) (caps:=[0]) (tg:=[1]) hi2 (yZ (Φ:=af aq (k+1)) (M0:=M0) (p:=p) (ch:=aF (s.h M0) (.tup ys)) (fun _=>rfl) vs.reverse ys s none [] (by rw [List.length_reverse];exact hy) (by rw [List.reverse_reverse];exact hw) (by simpa using hl))
 rw [List.nil_append,show (({ s with wt:=p }:Px).h M0).length=M0.length+(s.T.length+3) from len,app] at e1
 have gl:(({ s with wt:=p,T:=s.T++[.lst vs.reverse] }:Px).h M0)[M0.length+(s.T.length+3)]? = some (.lst vs.reverse):=gT.trans (by show (s.T++[MO.lst vs.reverse])[s.T.length]? = _;simp)
 have e2:=LK (Φ:=af aq (k+1)) (e:=.v 2) (σ:=[some (.ref M0.length),some (.tup (.str z::qs)),some (.ref (M0.length+(s.T.length+3)))]) (M:=({ s with wt:=p,T:=s.T++[.lst vs.reverse] }:Px).h M0) rfl gl
 rw [sT,List.reverse_reverse] at e2
 have es:(s.T++[MO.lst vs.reverse]).set s.T.length (.lst vs)=s.T++[.lst vs]:=by rw [List.set_append_right _ _ (Nat.le_refl _),Nat.sub_self];rfl
 refine (av e1).trans ((bZ e2).trans ?_)
 show exs (af aq (k+1)) sb _ (Px.h { s with wt:=p,T:=(s.T++[MO.lst vs.reverse]).set s.T.length (.lst vs) } M0)=_
 rw [es]
theorem dh {kp:Bool} {M M':MH} {d:D} (i:Nat) (hi:i<M.length) (h:M'[i]?≠M[i]?):fM kp M d M'=.ok d M':=by
 unfold fM
 rw [if_neg]
 rintro ⟨_,hh⟩
 apply h
 have:=congrArg (fun m=>m[i]?) hh
 simpa only [List.getElem?_take_of_lt hi] using this
theorem tZ {M M':MH} {c:Nat} (i:Nat) (hi:i<M.length) (h:M'[i]?≠M[i]?):pG M c M'=.exc c M':=by
 unfold pG
 rw [if_neg]
 intro hh
 apply h
 have:=congrArg (fun m=>m[i]?) hh
 simpa only [List.getElem?_take_of_lt hi] using this
theorem xM {o:Op} {ps:bU} {vs:List D} {r:Cz} (hc:fh o vs r) (hy:ps.ds.length=vs.length) (hw:s.wt=p++vs) (hl:s.wt.length<line) (hvs:vs≠[]) :
  ∃ Y,(af aq (k+4)).call 15 [.ref M0.length,(Pt.op o ps).d] (s.h M0)=(match r with
   | .ok v=>.ok .ak (({ s with wt:=p++[v],T:=s.T++Y }:Px).h M0)
   | .exc c=>.exc c (({ s with wt:=p,T:=s.T++Y }:Px).h M0)):=by
 have ed:(Pt.op o ps).d=.tup (.str o.w::ps.ds):=by rw [Pt.d]
 have hlen:vs.length<=line/\p.length<line:=by rw [hw,List.length_append] at hl;omega
 have pre:=n8 (k:=k+2) (M0:=M0) (s:=s) (p:=p) (z:=o.w) (qs:=ps.ds) (ys:=ps.ds) (vs:=vs) (sb:=.cons (.ifs (.cmp .eq (.idx (.v 1) (.k (.int 0))) (.k (.str (w "call")))) (.cons (.ex (.c9 0 16 (w "call") (.v 0) (.cons (.idx (.v 1) (.k (.int 1))) (.cons (.v 2) .nil)))) .nil) (.cons (.ex (.dI .append true (.fld (.v 0) (w "waiting")) (.cons (.call 7 (.cons (.idx (.v 1) (.k (.int 0))) (.cons (.v 2) .nil))) .nil))) .nil)) .nil) (fun M=>lg Eb ps.nr) hy hw hlen.1
 have q:decide (o.w=w "call")=false:=by
  cases o with
  | rk o=>cases o <;> decide +kernel
  | lay c=>cases c <;> decide +kernel
  | look c t=>cases c <;> cases t <;> decide +kernel
  | none=>decide +kernel
 let s2:Px:={ s with wt:=p,T:=s.T++[.lst vs] }
 let σ2:Sg:=[some (.ref M0.length),some (.tup (.str o.w::ps.ds)),some (.ref (M0.length+(s.T.length+3)))]
 have c1:ev (af aq (k+3)) (.cmp .eq (.idx (.v 1) (.k (.int 0))) (.k (.str (w "call")))) σ2 (s2.h M0)=.ok (.bl false) (s2.h M0):=bF (aK rfl rfl bG) q
 have gl:(s2.h M0)[M0.length+(s.T.length+3)]? = some (.lst vs):=gT.trans (by show (s.T++[MO.lst vs])[s.T.length]? = _;simp)
 have ec:ev (af aq (k+3)) (.call 7 (.cons (.idx (.v 1) (.k (.int 0))) (.cons (.v 2) .nil))) σ2 (s2.h M0)=r.r (s2.h M0):=by
  rw [bB,fX (x:=.str o.w) (y:=.ref (M0.length+(s.T.length+3))) (M1:=s2.h M0) (M2:=s2.h M0) (aK rfl rfl bG) rfl,R.aa]
  exact IL hc gl
 rw [ed]
 have nw:∀ {x:List D},x≠p++vs->some (MO.lst x)≠(s.h M0)[M0.length+2]?:=fun h z=>by
  rw [g2,hw] at z
  exact h (MO.lst.inj (Option.some.inj z))
 have hpv:p≠p++vs:=fun h=>by
  have:=congrArg List.length h
  rw [List.length_append] at this
  exact hvs (List.length_eq_zero_iff.mp (by omega))
 have h2:M0.length+2<(s.h M0).length:=by rw [len];omega
 cases r with
 | ok v =>
  have e5:=uT (Φ:=af aq (k+3)) (σ:=σ2) (e:=.fld (.v 0) (w "waiting")) (nY (s:=s2) (M0:=M0) (i:=0) rfl) g2 ec g2 (show p.length<line from hlen.2)
  rw [bD.s2] at e5
  have body:=pre.trans ((cP c1).trans ((bZ e5).trans rfl))
  by_cases hk:(Px.h { s with wt:=p++[v],T:=s.T++[.lst vs] } M0).take (s.h M0).length=s.h M0
  ·refine ⟨[],?_⟩
   have hz:=congrArg (fun m=>m[M0.length+2]?) hk
   simp only [List.getElem?_take_of_lt h2,g2] at hz
   have e6:p++[v]=s.wt:=MO.lst.inj (Option.some.inj hz)
   have e7:({ s with wt:=p++[v],T:=s.T++[] }:Px)=s:=by rw [e6,List.append_nil]
   show _=R.ok D.ak (Px.h { s with wt:=p++[v],T:=s.T++[] } M0)
   rw [e7]
   exact dS wA rfl body ((if_pos ⟨rfl,hk⟩).trans (if_pos rfl))
  ·exact ⟨[.lst vs],dS wA rfl body (if_neg fun z=>hk z.2)⟩
 | exc c =>
  have e5:=Iz (Φ:=af aq (k+3)) (σ:=σ2) (e:=.fld (.v 0) (w "waiting")) (nY (s:=s2) (M0:=M0) (i:=0) rfl) g2 ec
  refine ⟨[.lst vs],jt wA rfl (pre.trans ((cP c1).trans (l8 e5))) ?_⟩
  exact tZ (M0.length+2) h2 (by rw [g2];exact nw hpv)
end
end bD
end
section
namespace bD
open Fg PySem
theorem Fd.nr {m:Nat} (f:Fd):Fg.nr m f.d=true:=by
 have h:cG m (f.tk.map fun t=>D.tup [.str t.1,t.2.d])=true:=by
  generalize f.tk=l
  induction l with
  | nil=>simp [cG]
  | cons t l ih=>simp [cG,Fg.nr,Kd.nr,ih]
 simp [Fd.d,Fg.nr,cG,h,Kd.nr,Pt.nr]
noncomputable def envOf:List (Ky×D)->List Str->List D->List (Ky×D)
 | kvs,x::xs,v::vs=>envOf (put kvs (.inr x) v) xs vs
 | kvs,_,_=>kvs
theorem uU:∀ (xs:List Str) (vs:List D) (kvs:List (Ky×D)),wW kvs (xs.map D.str) vs=some (envOf kvs xs vs)
 | [],vs,kvs=>by simp [wW,envOf]
 | x::xs,[],kvs=>by simp [wW,envOf]
 | x::xs,v::vs,kvs=>by
  simp only [List.map_cons,wW,keyOf,envOf]
  exact uU xs vs _
section
variable {M0 M M1 M2:MH} {s s':Px} {p xs:List D} {t k n:Nat} {Φ:bz} {σ:Sg} {e e' a b:E} {x y en v d gv:D} {kvs:List (Ky×D)} {ss:Ss}
noncomputable def NB:Ss:=.cons (.ifs (.cmp .eq (.idx (.v 2) (.k (.int 0))) (.v 1)) (.cons (.ret (.v 2)) .nil) .nil) .nil
theorem uE {P:D} {z:Str} {ch:MH->Bool} (hch:ch M=true):∀ (fs:List Fd) (f:Fd) (o:Option D),fs.find? (fun g=>decide (g.nm=z))=some f->aI (exs Φ NB) [2] ch (fs.map Fd.d) [some P,some (.str z),o] M=.ok (.rt f.d) M
 | [],f,o,h=>by simp at h
 | g::fs,f,o,h=>by
  have c1:ev Φ (.cmp .eq (.idx (.v 2) (.k (.int 0))) (.v 1)) [some P,some (.str z),some g.d] M=.ok (.bl (decide (g.nm=z))) M:=Iq (aK rfl rfl bG) rfl
  rw [List.map_cons,aI]
  show ((exs Φ NB [some P,some (.str z),some g.d] M).bind _)=_
  by_cases hz:g.nm=z
  ·rw [decide_eq_true hz] at c1
   rw [List.find?_cons_of_pos (by simpa using hz)] at h
   cases h
   rw [NB,bY c1 (bq rfl)];rfl
  ·rw [decide_eq_false hz] at c1
   rw [List.find?_cons_of_neg (by simpa using hz)] at h
   rw [NB,aM c1]
   show (if ch M then _ else _)=_
   rw [if_pos hch]
   exact uE hch fs f (some g.d) h
theorem Mb {fs:List Fd} {f:Fd} {z:Str} (h:fs.find? (fun g=>decide (g.nm=z))=some f):(af aq (k+1)).call 1 [.lst (fs.map Fd.d),.str z] M=.ok f.d M :=
 aQ qJ rfl (ja (it:=.e (.v 0)) (d:=.lst (fs.map Fd.d)) (ds:=fs.map Fd.d) rfl (uE (z:=z) rfl fs f none h)) (au f.nr rfl)
theorem Ei {ch:MH->Bool} (hc:ch M=true):∀ (tk:List (Str×Kd)) (o:Option D) (acc:List D),acc.length+tk.length<=1000->bS (qK Φ .none) (ev Φ (.idx (.v 0) (.k (.int 0)))) [0] ch (tk.map fun t=>D.tup [.str t.1,t.2.d]) [o] M acc=.ok (acc++tk.map fun t=>.str t.1) M
 | [],o,acc,_=>by simp [bS]
 | t::tk,o,acc,hl=>by
  simp only [List.length_cons] at hl
  rw [List.map_cons,y9 (x:=.str t.1) (M1:=M) (aK rfl rfl bG) hc (Nat.lt_of_lt_of_le (by omega) (by decide:1001<=line))]
  show bS _ _ [0] ch _ [some _] M _=_
  rw [Ei hc tk (some (D.tup [.str t.1,t.2.d])) (acc++[D.str t.1]) (by simp;omega)]
  simp
theorem Ay {fs:List Fd} {f:Fd} {z:Str} {vs:List D} (hp:s.prog=.lst (fs.map Fd.d)) (h:fs.find? (fun g=>decide (g.nm=z))=some f) (hg:AL (s.h M0) gv=some vs) (hl:s.todo.length<line) (ht:f.tk.length<=1000) :
  (af aq (k+3)).call 17 [.ref M0.length, .str z, gv] (s.h M0)=.ok .ak (({ s with todo:=s.todo++[aA (w "begin") f.bd.d (.ref (M0.length+(s.T.length+3)))], T:=s.T++[.dct (envOf [] (f.tk.map (·.1)) vs)] }:Px).h M0):=by
 let σ0:Sg:=[some (.ref M0.length),some (.str z),some gv,none,none]
 have e1:ev (af aq (k+2)) (.call 1 (.cons (.fld (.v 0) (w "program")) (.cons (.v 1) .nil))) σ0 (s.h M0)=.ok f.d (s.h M0):=by
  rw [bB,fX (HY (s:=s) (M0:=M0) (i:=0) rfl) (y:=.str z) (M2:=s.h M0) rfl,R.aa,hp]
  exact Mb h
 let σ1:Sg:=[some (.ref M0.length),some (.str z),some gv,some f.d,none]
 have hi:aJ (af aq (k+2)) (.e (.idx (.v 3) (.k (.int 1)))) σ1 (s.h M0)=.ok (.lst (f.tk.map fun t=>.tup [.str t.1,t.2.d]),f.tk.map fun t=>.tup [.str t.1,t.2.d],false) (s.h M0):=by
  rw [zW,aK (d:=.lst (f.tk.map fun t=>.tup [.str t.1,t.2.d])) (M2:=s.h M0) (e_v (d:=f.d) rfl) rfl gQ];rfl
 have e2:=Dc (Φ:=af aq (k+2)) (caps:=[]) (tg:=[0]) (elt:=.idx (.v 0) (.k (.int 0))) hi (Ei (M:=s.h M0) rfl f.tk none [] (by simpa using ht))
 rw [List.nil_append] at e2
 let σ2:Sg:=[some (.ref M0.length),some (.str z),some gv,some f.d,some (.lst (f.tk.map fun t=>.str t.1))]
 have e3:ev (af aq (k+2)) (.dz (.v 4) (.v 2)) σ2 (s.h M0)=.ok (.ref (M0.length+(s.T.length+3))) (({ s with T:=s.T++[.dct (envOf [] (f.tk.map (·.1)) vs)] }:Px).h M0):=by
  have g1:AL (s.h M0) (.lst (f.tk.map fun t=>D.str t.1))=some (f.tk.map fun t=>D.str t.1):=rfl
  have g2:wW [] (f.tk.map fun t=>D.str t.1) vs=some (envOf [] (f.tk.map (·.1)) vs):=by
   rw [<- uU,List.map_map];rfl
  have g3:(f.tk.map fun t=>D.str t.1).length<=1000:=by rw [List.length_map];exact ht
  rw [LA,e_v (d:=.lst (f.tk.map fun t=>.str t.1)) rfl,R.aa,e_v (d:=gv) rfl,R.aa]
  simp only [g1,hg,decide_eq_true g3,if_true,g2,len,app]
 have e4:=iT (k:=k+1) (M0:=M0) (s:=s) (s':={ s with T:=s.T++[.dct (envOf [] (f.tk.map (·.1)) vs)] }) (σ:=σ2) (z:=w "begin") (e:=.idx (.v 3) (.k (.int 3))) (e':=.dz (.v 4) (.v 2)) (x:=f.bd.d) rfl (aK (xs:=[.str f.nm, .lst (f.tk.map fun t=>.tup [.str t.1, t.2.d]), f.gv.d, f.bd.d]) rfl rfl qD) e3 hl
 refine dS fn17 rfl ((av e1).trans ((av e2).trans ((bZ e4).trans rfl))) (dh (M0.length+1) (by rw [len];omega) ?_)
 rw [g1,bD.g1]
 intro hh
 have:=congrArg List.length (MO.lst.inj (Option.some.inj hh))
 simp at this
theorem Me {b u m:Int}:(af aq (k+1)).call 9 [.int b,.int u,.int m] M=if m<b+1 then .exc 4 M else if 12<u+1 then .exc 5 M else .ok .ak M:=by
 have e1:∀ q,decide (m<b+1)=q->ev (af aq k) (.cmp .gt (.op .add true (.v 0) (.k (.int 1))) (.v 2)) [some (.int b),some (.int u),some (.int m)] M=.ok (.bl q) M:=fun q h=>qp (fY rfl rfl) rfl h
 have g:ev (af aq k) (.g 2) [some (.int b),some (.int u),some (.int m)] M=.ok (.int 12) M:=by rw [Lz,k9];rfl
 have e2:∀ q,decide (12<u+1)=q->ev (af aq k) (.cmp .gt (.op .add true (.v 1) (.k (.int 1))) (.g 2)) [some (.int b),some (.int u),some (.int m)] M=.ok (.bl q) M:=fun q h=>qp (fY rfl rfl) g h
 by_cases h1:m<b+1
 ·rw [if_pos h1]
  exact jt fn9 rfl (o9 (e1 true (decide_eq_true h1)) rfl) aX
 ·rw [if_neg h1]
  by_cases h2:12<u+1
  ·rw [if_pos h2]
   exact jt fn9 rfl ((aM (e1 false (decide_eq_false h1))).trans (o9 (e2 true (decide_eq_true h2)) (yc g (by decide)))) aX
  ·rw [if_neg h2]
   exact dS fn9 rfl ((aM (e1 false (decide_eq_false h1))).trans ((aM (e2 false (decide_eq_false h2))).trans rfl)) (au (by simp [nr]) rfl)
noncomputable def qL:D:=aA (w "back") .ak .ak
theorem EJ {i:Nat} (h0:σ[0]? = some (some (.ref M0.length))):ev (af aq (k+1)) (.call 9 (.cons (.fld (.v 0) (w "begun")) (.cons (.fld (.v 0) (w "under_way")) (.cons (.fld (.v 0) (w "most")) .nil)))) σ (s.h M0)=if s.most<s.bg+1 then .exc 4 (s.h M0) else if 12<s.un+1 then .exc 5 (s.h M0) else .ok .ak (s.h M0):=by
 rw [bB,cY (uI (s:=s) h0) (cY (nZ (s:=s) h0) (cY (HZ (s:=s) h0) rfl)),R.aa]
 exact Me
theorem Dv {z:Str} {c:Nat} (h:(if s.most<s.bg+1 then R.exc 4 (s.h M0) else if 12<s.un+1 then .exc 5 (s.h M0) else .ok .ak (s.h M0))=(.exc c (s.h M0):R D)):(af aq (k+4)).call 16 [.ref M0.length,.str z,gv] (s.h M0)=.exc c (s.h M0) :=
 jt Ln rfl (l8 ((EJ (k:=k+2) (i:=0) rfl).trans h)) aX
theorem IP {fs:List Fd} {f:Fd} {z:Str} {vs:List D} (hb:s.bg+1<=s.most) (hu:s.un+1<=12) (hp:s.prog=.lst (fs.map Fd.d)) (h:fs.find? (fun g=>decide (g.nm=z))=some f) (hg:∀ s':Px,s'.T=s.T->AL (s'.h M0) gv=some vs) (hl:s.todo.length+1<line) (ht:f.tk.length<=1000) :
  (af aq (k+4)).call 16 [.ref M0.length, .str z, gv] (s.h M0)=.ok .ak (({ s with bg:=s.bg+1, un:=s.un+1, todo:=s.todo++[qL]++[aA (w "begin") f.bd.d (.ref (M0.length+(s.T.length+3)))], T:=s.T++[.dct (envOf [] (f.tk.map (·.1)) vs)] }:Px).h M0):=by
 let σ0:Sg:=[some (.ref M0.length),some (.str z),some gv]
 have e0:=EJ (k:=k+2) (σ:=σ0) (s:=s) (M0:=M0) (i:=0) rfl
 rw [if_neg (by omega),if_neg (by omega)] at e0
 have e1:=Dd (Φ:=af aq (k+3)) (σ:=σ0) (s:=s) (M0:=M0) (i:=0) (e:=.op .add false (.fld (.v 0) (w "begun")) (.k (.int 1))) (n:=s.bg+1) rfl (fY (uI (s:=s) rfl) rfl)
 have e2:=uP (Φ:=af aq (k+3)) (σ:=σ0) (s:={ s with bg:=s.bg+1 }) (M0:=M0) (i:=0) (e:=.op .add false (.fld (.v 0) (w "under_way")) (.k (.int 1))) (n:=s.un+1) rfl (fY (nZ (s:={ s with bg:=s.bg+1 }) rfl) rfl)
 have e3:=iT (k:=k+2) (M0:=M0) (s:={ s with bg:=s.bg+1, un:=s.un+1 }) (s':={ s with bg:=s.bg+1, un:=s.un+1 }) (σ:=σ0) (z:=w "back") (e:=.k .ak) (e':=.k .ak) (x:=.ak) (en:=.ak) rfl rfl rfl (by show s.todo.length<line;omega)
 let s4:Px:={ s with bg:=s.bg+1,un:=s.un+1,todo:=s.todo++[qL] }
 have e4:ev (af aq (k+3)) (.c9 0 17 (w "put_off_body") (.v 0) (.cons (.v 1) (.cons (.v 2) .nil))) σ0 (s4.h M0)=_:=(u_ (s:=s4) (M0:=M0) (i:=0) (σ:=σ0) rfl (by decide +kernel)).trans ((by rw [fX (x:=.str z) (y:=gv) (M1:=s4.h M0) (M2:=s4.h M0) rfl rfl, R.aa]:_=(af aq (k+3)).call 17 [.ref M0.length, .str z, gv] (s4.h M0)).trans (Ay (k:=k) (s:=s4) (M0:=M0) hp h (hg s4 rfl) (by show (s.todo++[qL]).length<line;simp;omega) ht))
 refine dS Ln rfl ((bZ e0).trans ((i9 e1).trans ((i9 e2).trans ((bZ e3).trans ((bZ e4).trans rfl))))) (dh (M0.length+1) (by rw [len];omega) ?_)
 rw [g1,bD.g1]
 intro hh
 have:=congrArg List.length (MO.lst.inj (Option.some.inj hh))
 simp [s4] at this
end
end bD
end
section
namespace bD
open Fg PySem
section
variable {M0 M M1 M2:MH} {s s':Px} {p xs:List D} {t k n c:Nat} {Φ:bz} {σ:Sg} {e e' a b:E} {x y en v d gv:D} {kvs:List (Ky×D)} {ss:Ss}
noncomputable def dn4:Ss:=.cons (.eG (.v 0) (w "under_way") (.op .sub false (.fld (.v 0) (w "under_way")) (.k (.int 1)))) .nil
noncomputable def dn3:Ss:=.cons (.ifs (.cmp .eq (.idx (.v 1) (.k (.int 0))) (.k (.str (w "end")))) (.cons (.ex (.c9 0 15 (w "end") (.v 0) (.cons (.idx (.v 1) (.k (.int 1))) .nil))) .nil) dn4) .nil
noncomputable def dn2:Ss:=.cons (.ifs (.cmp .eq (.idx (.v 1) (.k (.int 0))) (.k (.str (w "go on")))) (.cons (.ex (.c9 0 14 (w "go_on") (.v 0) (.cons (.idx (.v 1) (.k (.int 1))) (.cons (.idx (.v 1) (.k (.int 2))) .nil)))) .nil) dn3) .nil
noncomputable def dn1:Ss:=.cons (.ifs (.cmp .eq (.idx (.v 1) (.k (.int 0))) (.k (.str (w "begin")))) (.cons (.ex (.c9 0 13 (w "begin") (.v 0) (.cons (.idx (.v 1) (.k (.int 1))) (.cons (.idx (.v 1) (.k (.int 2))) .nil)))) .nil) dn2) .nil
theorem vX:aT.body=.cons (.set 1 (.dI .pop true (.fld (.v 0) (w "todo")) .nil)) dn1:=rfl
theorem kZ {z:Str} (hs:s.todo=p++[aA z x en]):exs Φ aT.body [some (.ref M0.length),none] (s.h M0)=exs Φ dn1 [some (.ref M0.length),some (aA z x en)] (({ s with todo:=p }:Px).h M0):=by
 rw [vX];exact av (e_next rfl hs)
theorem jS {z u:Str} {q:Bool} (h:decide (z=u)=q):ev Φ (.cmp .eq (.idx (.v 1) (.k (.int 0))) (.k (.str u))) [some (.ref M0.length),some (aA z x en)] M=.ok (.bl q) M:=bF (c:=z) (aK rfl rfl bG) h
theorem mP (h:s'.todo≠s.todo):(s'.h M0)[M0.length+1]?≠(s.h M0)[M0.length+1]?:=by
 rw [g1,g1];exact fun z=>h (MO.lst.inj (Option.some.inj z))
theorem mQ:M0.length+1<(s.h M0).length:=by rw [len];omega
theorem fZ (hs:s.todo=p++[aA (w "begin") x en]) (hc:(af aq k).call 13 [.ref M0.length, x, en] (({ s with todo:=p }:Px).h M0)=.ok .ak (s'.h M0)) (hn:s'.todo≠s.todo):(af aq (k+1)).call 18 [.ref M0.length] (s.h M0)=.ok .ak (s'.h M0):=by
 have e1:ev (af aq k) (.c9 0 13 (w "begin") (.v 0) (.cons (.idx (.v 1) (.k (.int 1))) (.cons (.idx (.v 1) (.k (.int 2))) .nil))) [some (.ref M0.length), some (aA (w "begin") x en)] (({ s with todo:=p }:Px).h M0)=.ok .ak (s'.h M0):=by
  rw [u_ (i:=0) rfl (by decide +kernel),fX (aK rfl rfl gQ) (aK rfl rfl qE),R.aa];exact hc
 exact dS zJ rfl ((kZ hs).trans ((ku (jS (by decide +kernel))).trans ((bZ e1).trans rfl))) (dh (M0.length+1) mQ (mP hn))
theorem Dj (hs:s.todo=p++[aA (w "go on") x en]) (hc:(af aq k).call 14 [.ref M0.length, x, en] (({ s with todo:=p }:Px).h M0)=.ok .ak (s'.h M0)) (hn:s'.todo≠s.todo):(af aq (k+1)).call 18 [.ref M0.length] (s.h M0)=.ok .ak (s'.h M0):=by
 have e1:ev (af aq k) (.c9 0 14 (w "go_on") (.v 0) (.cons (.idx (.v 1) (.k (.int 1))) (.cons (.idx (.v 1) (.k (.int 2))) .nil))) [some (.ref M0.length), some (aA (w "go on") x en)] (({ s with todo:=p }:Px).h M0)=.ok .ak (s'.h M0):=by
  rw [u_ (i:=0) rfl (by decide +kernel),fX (aK rfl rfl gQ) (aK rfl rfl qE),R.aa];exact hc
 exact dS zJ rfl ((kZ hs).trans ((cP (jS (by decide +kernel))).trans ((ku (jS (by decide +kernel))).trans ((bZ e1).trans rfl)))) (dh (M0.length+1) mQ (mP hn))
theorem EK (r:R D) (hc:(af aq k).call 15 [.ref M0.length, x] (({ s with todo:=p }:Px).h M0)=r):ev (af aq k) (.c9 0 15 (w "end") (.v 0) (.cons (.idx (.v 1) (.k (.int 1))) .nil)) [some (.ref M0.length), some (aA (w "end") x en)] (({ s with todo:=p }:Px).h M0)=r:=by
 rw [u_ (i:=0) rfl (by decide +kernel),Ls (aK rfl rfl gQ),R.aa];exact hc
theorem IA (hs:s.todo=p++[aA (w "end") x en]) (hc:(af aq k).call 15 [.ref M0.length, x] (({ s with todo:=p }:Px).h M0)=.ok .ak (s'.h M0)) (hn:s'.todo≠s.todo):(af aq (k+1)).call 18 [.ref M0.length] (s.h M0)=.ok .ak (s'.h M0) :=
 dS zJ rfl ((kZ hs).trans ((cP (jS (by decide +kernel))).trans ((cP (jS (by decide +kernel))).trans ((ku (jS (by decide +kernel))).trans ((bZ (EK _ hc)).trans rfl))))) (dh (M0.length+1) mQ (mP hn))
theorem Aj (hs:s.todo=p++[aA (w "end") x en]) (hc:(af aq k).call 15 [.ref M0.length, x] (({ s with todo:=p }:Px).h M0)=.exc c (s'.h M0)) (hn:s'.todo≠s.todo):(af aq (k+1)).call 18 [.ref M0.length] (s.h M0)=.exc c (s'.h M0) :=
 jt zJ rfl ((kZ hs).trans ((cP (jS (by decide +kernel))).trans ((cP (jS (by decide +kernel))).trans ((ku (jS (by decide +kernel))).trans (l8 (EK _ hc)))))) (tZ (M0.length+1) mQ (mP hn))
theorem dn_k (hs:s.todo=p++[qL]):(af aq (k+1)).call 18 [.ref M0.length] (s.h M0)=.ok .ak (({ s with todo:=p,un:=s.un-1 }:Px).h M0):=by
 have e1:=uP (Φ:=af aq k) (σ:=[some (.ref M0.length), some qL]) (s:={ s with todo:=p }) (M0:=M0) (i:=0) (e:=.op .sub false (.fld (.v 0) (w "under_way")) (.k (.int 1))) (n:=s.un-1) rfl (qm (nZ (s:={ s with todo:=p }) rfl) rfl)
 exact dS zJ rfl ((kZ hs).trans ((cP (jS (by decide +kernel))).trans ((cP (jS (by decide +kernel))).trans ((cP (jS (by decide +kernel))).trans ((i9 e1).trans rfl))))) (dh (M0.length+1) mQ (mP (by
  show p≠s.todo
  rw [hs]
  intro z
  have:=congrArg List.length z
  simp at this)))
noncomputable def pE:E:=.cmp .ne (.fld (.v 3) (w "todo")) (.lst true .nil)
noncomputable def pB:Ss:=.cons (.ex (.c9 0 18 (w "do_next") (.v 3) .nil)) .nil
theorem rM (h3:σ[3]? = some (some (.ref M0.length))):ev Φ pE σ (s.h M0)=.ok (.bl (!s.todo.isEmpty)) (s.h M0):=by
 rw [pE,c6,sy h3,R.aa]
 show AN (s.h M0) (.ref (M0.length+1)) (.lst [])=_
 have e1:top (s.h M0) (.ref (M0.length+1))=.lst s.todo:=by simp only [top,g1]
 have e2:top (s.h M0) (.lst [])=.lst []:=rfl
 have e3:rQ (s.h M0) (.ref (M0.length+1)) (.lst [])=some s.todo.isEmpty:=by simp only [rQ,vw,g1];rfl
 unfold AN
 rw [e1,e2,e3]
 cases hd:s.todo with
 | nil=>rfl
 | cons d es =>
  by_cases hc:cE (.lst (d::es)) (.lst [])=true
  ·rw [if_pos hc,jH,C7];rfl
  ·rw [if_neg hc]
noncomputable def Go (k:Nat) (M0:MH) (σ:Sg) (n:Nat) (s s':Px):Prop:=∀ N,bR (ev (af aq k) pE) (exs (af aq k) pB) (n+N) σ (s.h M0)=bR (ev (af aq k) pE) (exs (af aq k) pB) N σ (s'.h M0)
noncomputable def E2 (k:Nat) (M0:MH) (σ:Sg) (n:Nat) (s:Px) (c:Nat):Prop:=∀ N,∃ s':Px,bR (ev (af aq k) pE) (exs (af aq k) pB) (n+N) σ (s.h M0)=.ok (.xc c σ) (s'.h M0)
theorem Go.refl:Go k M0 σ 0 s s:=fun N=>by rw [Nat.zero_add]
theorem Go.trans {s1 s2 s3:Px} {n m:Nat} (a:Go k M0 σ n s1 s2) (b:Go k M0 σ m s2 s3):Go k M0 σ (n+m) s1 s3:=fun N=>by rw [Nat.add_assoc,a,b]
theorem Go.aR {s1 s2:Px} {n m c:Nat} (a:Go k M0 σ n s1 s2) (b:E2 k M0 σ m s2 c):E2 k M0 σ (n+m) s1 c:=fun N=>by
 obtain ⟨s',h⟩:=b N
 exact ⟨s',by rw [Nat.add_assoc,a,h]⟩
theorem Go.one (h3:σ[3]? = some (some (.ref M0.length))) (ht:s.todo=p++[x]) (h:(af aq k).call 18 [.ref M0.length] (s.h M0)=.ok .ak (s'.h M0)):Go k M0 σ 1 s s':=fun N=>by
 have c:=rM (Φ:=af aq k) (s:=s) h3
 have hne:s.todo.isEmpty=false:=by rw [ht];cases p <;> rfl
 rw [hne] at c
 have e1:ev (af aq k) (.c9 0 18 (w "do_next") (.v 3) .nil) σ (s.h M0)=.ok .ak (s'.h M0):=(u_ h3 (by decide +kernel)).trans h
 rw [Nat.add_comm,bR,c]
 show ((exs (af aq k) pB σ (s.h M0)).bind _)=_
 rw [pB,bZ e1];rfl
theorem E2.one (h3:σ[3]? = some (some (.ref M0.length))) (ht:s.todo=p++[x]) (h:(af aq k).call 18 [.ref M0.length] (s.h M0)=.exc c (s'.h M0)):E2 k M0 σ 1 s c:=fun N=>by
 have c0:=rM (Φ:=af aq k) (s:=s) h3
 have hne:s.todo.isEmpty=false:=by rw [ht];cases p <;> rfl
 rw [hne] at c0
 have e1:ev (af aq k) (.c9 0 18 (w "do_next") (.v 3) .nil) σ (s.h M0)=.exc c (s'.h M0):=(u_ h3 (by decide +kernel)).trans h
 refine ⟨s',?_⟩
 rw [Nat.add_comm,bR,c0]
 show ((exs (af aq k) pB σ (s.h M0)).bind _)=_
 rw [pB,l8 e1];rfl
end
end bD
end
section
namespace bD
open Fg PySem
inductive It where
 | p (p:Pt)
 | ps (ps:bU)
noncomputable abbrev Env:=List (Ky×D)
inductive Ev (fs:List Fd) (m:Int):Env->Int->Int->It->Nat->List D->Int->Prop
 | num {env:Env} {b u:Int} {i:Int}:Ev fs m env b u (.p (.num i)) 1 [.int i] b
 | lJ {env:Env} {b u:Int} {x:Str} {v:D}:look env (.inr x)=some v->Ev fs m env b u (.p (.lJ x)) 1 [v] b
 | nil {env:Env} {b u:Int} {kd:Kd}:Ev fs m env b u (.p (.nil kd)) 1 [.ak] b
 | lt {env:Env} {b u b1 b2:Int} {x:Str} {a r:Pt} {n n2:Nat} {v v2:D}:env.length<1000->Ev fs m env b u (.p a) n [v] b1->Ev fs m (put env (.inr x) v) b1 u (.p r) n2 [v2] b2->Ev fs m env b u (.p (.lt x a r)) (n+n2+2) [v2] b2
 | ite {env:Env} {b u b1 b2 i:Int} {c q r:Pt} {n n2:Nat} {v:D}:Ev fs m env b u (.p c) n [.int i] b1->Ev fs m env b1 u (.p (if i=0 then r else q)) n2 [v] b2->Ev fs m env b u (.p (.ite c q r)) (n+n2+2) [v] b2
 | op {env:Env} {b u b1:Int} {o:Op} {ps:bU} {n:Nat} {vs:List D} {v:D}:ps.ds.length<=8->Ev fs m env b u (.ps ps) n vs b1->fh o vs (.ok v)->Ev fs m env b u (.p (.op o ps)) (n+2) [v] b1
 | call {env:Env} {b u b1 b2:Int} {z:Str} {ps:bU} {f:Fd} {n n2:Nat} {vs:List D} {v:D}:ps.ds.length<=8->Ev fs m env b u (.ps ps) n vs b1->b1+1<=m->u+1<=12->fs.find? (fun g=>decide (g.nm=z))=some f->f.tk.length<=1000 ->
   Ev fs m (envOf [] (f.tk.map (·.1)) vs) (b1+1) (u+1) (.p f.bd) n2 [v] b2->Ev fs m env b u (.p (.call z ps)) (n+n2+3) [v] b2
 | pS {env:Env} {b u:Int}:Ev fs m env b u (.ps .nil) 0 [] b
 | cons {env:Env} {b u b1 b2:Int} {p:Pt} {ps:bU} {n n2:Nat} {v:D} {vs:List D}:Ev fs m env b u (.p p) n [v] b1->Ev fs m env b1 u (.ps ps) n2 vs b2->Ev fs m env b u (.ps (.cons p ps)) (n+n2) (v::vs) b2
inductive kh (fs:List Fd) (m:Int):Env->Int->Int->It->Nat->Nat->Prop
 | lt1 {env:Env} {b u:Int} {x:Str} {a r:Pt} {n c:Nat}:kh fs m env b u (.p a) n c->kh fs m env b u (.p (.lt x a r)) (n+1) c
 | lt2 {env:Env} {b u b1:Int} {x:Str} {a r:Pt} {n n2 c:Nat} {v:D}:env.length<1000->Ev fs m env b u (.p a) n [v] b1->kh fs m (put env (.inr x) v) b1 u (.p r) n2 c->kh fs m env b u (.p (.lt x a r)) (n+n2+2) c
 | ite1 {env:Env} {b u:Int} {c q r:Pt} {n e:Nat}:kh fs m env b u (.p c) n e->kh fs m env b u (.p (.ite c q r)) (n+1) e
 | K5 {env:Env} {b u b1 i:Int} {c q r:Pt} {n n2 e:Nat}:Ev fs m env b u (.p c) n [.int i] b1->kh fs m env b1 u (.p (if i=0 then r else q)) n2 e->kh fs m env b u (.p (.ite c q r)) (n+n2+2) e
 | MS {env:Env} {b u:Int} {o:Op} {ps:bU} {n e:Nat}:ps.ds.length<=8->kh fs m env b u (.ps ps) n e->kh fs m env b u (.p (.op o ps)) (n+1) e
 | qI {env:Env} {b u b1:Int} {o:Op} {ps:bU} {n e:Nat} {vs:List D}:ps.ds.length<=8->Ev fs m env b u (.ps ps) n vs b1->fh o vs (.exc e)->kh fs m env b u (.p (.op o ps)) (n+2) e
 | ET {env:Env} {b u:Int} {z:Str} {ps:bU} {n e:Nat}:ps.ds.length<=8->kh fs m env b u (.ps ps) n e->kh fs m env b u (.p (.call z ps)) (n+1) e
 | long {env:Env} {b u b1:Int} {z:Str} {ps:bU} {n:Nat} {vs:List D}:ps.ds.length<=8->Ev fs m env b u (.ps ps) n vs b1->m<b1+1->kh fs m env b u (.p (.call z ps)) (n+2) 4
 | deep {env:Env} {b u b1:Int} {z:Str} {ps:bU} {n:Nat} {vs:List D}:ps.ds.length<=8->Ev fs m env b u (.ps ps) n vs b1->b1+1<=m->12<u+1->kh fs m env b u (.p (.call z ps)) (n+2) 5
 | call2 {env:Env} {b u b1:Int} {z:Str} {ps:bU} {f:Fd} {n n2 e:Nat} {vs:List D}:ps.ds.length<=8->Ev fs m env b u (.ps ps) n vs b1->b1+1<=m->u+1<=12->fs.find? (fun g=>decide (g.nm=z))=some f->f.tk.length<=1000 ->
   kh fs m (envOf [] (f.tk.map (·.1)) vs) (b1+1) (u+1) (.p f.bd) n2 e->kh fs m env b u (.p (.call z ps)) (n+n2+2) e
 | head {env:Env} {b u:Int} {p:Pt} {ps:bU} {n e:Nat}:ps.ds.length<=8->kh fs m env b u (.p p) n e->kh fs m env b u (.ps (.cons p ps)) (n+1) e
 | tail {env:Env} {b u b1:Int} {p:Pt} {ps:bU} {n n2 e:Nat} {v:D}:ps.ds.length<=8->Ev fs m env b u (.p p) n [v] b1->kh fs m env b1 u (.ps ps) n2 e->kh fs m env b u (.ps (.cons p ps)) (n+n2) e
noncomputable def jh (en:D):It->List D
 | .p p=>[aA (w "begin") p.d en]
 | .ps ps=>ps.ds.reverse.map fun d=>aA (w "begin") d en
theorem nQ {en:D} {p:Pt} {ps:bU}:jh en (.ps (.cons p ps))=jh en (.ps ps)++jh en (.p p):=by
 simp [jh,bU.ds]
theorem BQ {kvs:Env} {k:Ky} {v:D}:(put kvs k v).length<=kvs.length+1:=by
 unfold put;split <;> simp
theorem Ev.len {fs:List Fd} {m b u b':Int} {env:Env} {ps:bU} {n:Nat} {vs:List D} (h:Ev fs m env b u (.ps ps) n vs b'):ps.ds.length=vs.length:=by
 generalize hi:It.ps ps=it at h
 induction h generalizing ps with
 | pS=>cases hi;simp [bU.ds]
 | cons h1 h2 ih1 ih2=>cases hi;simp [bU.ds,ih2 rfl]
 | _=>cases hi
theorem fh.ne {o:Op} {vs:List D} {r:Cz} (h:fh o vs r):vs≠[]:=by cases h <;> simp
noncomputable def lo:It->Nat
 | .p _=>1
 | .ps ps=>ps.ds.length
theorem Ev.lo {fs:List Fd} {m b u b':Int} {env:Env} {it:It} {n:Nat} {vs:List D} (h:Ev fs m env b u it n vs b'):bD.lo it<=n:=by
 induction h with
 | cons h1 h2 ih1 ih2=>simp only [bD.lo,bU.ds,List.length_cons] at ih1 ih2 ⊢;omega
 | pS=>simp [bD.lo,bU.ds]
 | _=>simp only [bD.lo];omega
structure At (fs:List Fd) (m:Int) (M0:MH) (s:Px) (q:List D) (env:Env) (t:Nat) (b u:Int) (it:It) (n:Nat):Prop where
 prog:s.prog=.lst (fs.map Fd.d)
 most:s.most=m
 bg:s.bg=b
 un:s.un=u
 todo:s.todo=q++jh (.ref (M0.length+(t+3))) it
 env:s.T[t]? = some (.dct env)
 room:q.length+9*n<950000/\s.wt.length+n<950000
theorem aZ {q:List D} {x y:D} {l:List D} (h:x≠y):q++x::l≠q++[y]:=fun z=>by
 have:=List.append_cancel_left z
 rw [List.cons.injEq] at this
 exact h this.1
theorem bM {a b:List D} (h:a.length≠b.length):a≠b:=fun z=>h (congrArg List.length z)
theorem dD {z z':Str} {x x' en en':D} (h:decide (z=z')=false):aA z x en≠aA z' x' en':=fun q=>by
 have:z=z':=by
  simp only [aA,D.tup.injEq,List.cons.injEq,D.str.injEq] at q
  exact q.1
 exact absurd this (of_decide_eq_false h)
section
variable {fs:List Fd} {m:Int} {M0:MH} {k:Nat} {σ:Sg} {s:Px} {p:List D}
noncomputable def LH:Ss:=.cons (.ifs (.cmp .eq (.idx (.v 1) (.k (.int 0))) (.k (.str (w "call")))) (.cons (.ex (.c9 0 16 (w "call") (.v 0) (.cons (.idx (.v 1) (.k (.int 1))) (.cons (.v 2) .nil)))) .nil) (.cons (.ex (.dI .append true (.fld (.v 0) (w "waiting")) (.cons (.call 7 (.cons (.idx (.v 1) (.k (.int 0))) (.cons (.v 2) .nil))) .nil))) .nil)) .nil
theorem uN {z:Str} {ps:bU} {s2:Px} {g:Nat} {r:R D} (h:(af aq (k+4)).call 16 [.ref M0.length, .str z, .ref g] (s2.h M0)=r):ev (af aq (k+4)) (.c9 0 16 (w "call") (.v 0) (.cons (.idx (.v 1) (.k (.int 1))) (.cons (.v 2) .nil))) [some (.ref M0.length), some (.tup (.str (w "call")::.str z::ps.ds)), some (.ref g)] (s2.h M0)=r:=by
 rw [u_ (i:=0) rfl (by decide +kernel),fX (x:=.str z) (y:=.ref g) (M1:=s2.h M0) (M2:=s2.h M0) (aK rfl rfl gQ) rfl,R.aa];exact h
theorem tG {z:Str} {ps:bU} {vs:List D} {f:Fd} (hy:ps.ds.length=vs.length) (hw:s.wt=p++vs) (hl:s.wt.length<line) (hb:s.bg+1<=s.most) (hu:s.un+1<=12) (hp:s.prog=.lst (fs.map Fd.d)) (hf:fs.find? (fun g=>decide (g.nm=z))=some f) (hlt:s.todo.length+1<line) (ht:f.tk.length<=1000) :
  (af aq (k+5)).call 15 [.ref M0.length, (Pt.call z ps).d] (s.h M0)=.ok .ak (({ s with wt:=p, bg:=s.bg+1, un:=s.un+1, todo:=s.todo++[qL]++[aA (w "begin") f.bd.d (.ref (M0.length+((s.T++[MO.lst vs]).length+3)))], T:=s.T++[.lst vs]++[.dct (envOf [] (f.tk.map (·.1)) vs)] }:Px).h M0):=by
 have ed:(Pt.call z ps).d=.tup (.str (w "call")::.str z::ps.ds):=by rw [Pt.d]
 rw [ed]
 have hlen:vs.length<=line:=by rw [hw,List.length_append] at hl;omega
 have pre:=n8 (k:=k+3) (M0:=M0) (s:=s) (p:=p) (z:=w "call") (qs:=.str z::ps.ds) (ys:=ps.ds) (vs:=vs) (sb:=LH) (fun M=>iX (by decide +kernel) (by decide +kernel) ps.nr) hy hw hlen
 let s2:Px:={ s with wt:=p,T:=s.T++[.lst vs] }
 have c1:ev (af aq (k+4)) (.cmp .eq (.idx (.v 1) (.k (.int 0))) (.k (.str (w "call")))) [some (.ref M0.length), some (.tup (.str (w "call")::.str z::ps.ds)), some (.ref (M0.length+(s.T.length+3)))] (s2.h M0)=.ok (.bl true) (s2.h M0):=bF (aK rfl rfl bG) (by decide +kernel)
 have e5:=uN (k:=k) (ps:=ps) (IP (k:=k) (s:=s2) (M0:=M0) (gv:=.ref (M0.length+(s.T.length+3))) (fs:=fs) (f:=f) (z:=z) (vs:=vs) hb hu hp hf (fun s' h'=>by
  have gl:(s'.h M0)[M0.length+(s.T.length+3)]? = some (.lst vs):=gT.trans (by rw [h'];show (s.T++[MO.lst vs])[s.T.length]? = _;simp)
  simp only [AL,vw,gl]) hlt ht)
 refine dS wA rfl (pre.trans ((ku c1).trans ((bZ e5).trans rfl))) (dh (M0.length+1) mQ (mP (bM ?_)))
 show (s.todo++[qL]++[_]).length≠_
 simp
theorem oS {z:Str} {ps:bU} {vs:List D} {c:Nat} (hy:ps.ds.length=vs.length) (hw:s.wt=p++vs) (hl:s.wt.length<line) (h:∀ M,(if s.most<s.bg+1 then R.exc 4 M else if 12<s.un+1 then .exc 5 M else .ok .ak M)=(.exc c M:R D)) :
  ∃ s':Px,s'.todo=s.todo/\(af aq (k+5)).call 15 [.ref M0.length,(Pt.call z ps).d] (s.h M0)=.exc c (s'.h M0):=by
 have ed:(Pt.call z ps).d=.tup (.str (w "call")::.str z::ps.ds):=by rw [Pt.d]
 rw [ed]
 have hlen:vs.length<=line:=by rw [hw,List.length_append] at hl;omega
 have pre:=n8 (k:=k+3) (M0:=M0) (s:=s) (p:=p) (z:=w "call") (qs:=.str z::ps.ds) (ys:=ps.ds) (vs:=vs) (sb:=LH) (fun M=>iX (by decide +kernel) (by decide +kernel) ps.nr) hy hw hlen
 let s2:Px:={ s with wt:=p,T:=s.T++[.lst vs] }
 have c1:ev (af aq (k+4)) (.cmp .eq (.idx (.v 1) (.k (.int 0))) (.k (.str (w "call")))) [some (.ref M0.length), some (.tup (.str (w "call")::.str z::ps.ds)), some (.ref (M0.length+(s.T.length+3)))] (s2.h M0)=.ok (.bl true) (s2.h M0):=bF (aK rfl rfl bG) (by decide +kernel)
 have e5:=uN (k:=k) (ps:=ps) (Dv (k:=k) (s:=s2) (M0:=M0) (gv:=.ref (M0.length+(s.T.length+3))) (z:=z) (c:=c) (h _))
 have body:=pre.trans ((ku c1).trans (l8 (ss:=.nil) e5))
 by_cases hk:(s2.h M0).take (s.h M0).length=s.h M0
 ·exact ⟨s,rfl,jt wA rfl body (if_pos hk)⟩
 ·exact ⟨s2,rfl,jt wA rfl body (if_neg hk)⟩
theorem jB {env:Env} {b u b':Int} {it:It} {n:Nat} {vs:List D} (h3:σ[3]? = some (some (.ref M0.length))) (h:Ev fs m env b u it n vs b'):∀ (s:Px) (q:List D) (t:Nat),At fs m M0 s q env t b u it n->∃ Y,Go (k+6) M0 σ n s { s with todo:=q,wt:=s.wt++vs,bg:=b',T:=s.T++Y }:=by
 have hline:line=1000000:=rfl
 induction h with
 | num =>
  intro s q t A
  obtain ⟨a1,a2,a3,a4,a5,a6,r1,r2⟩:=A
  subst a3
  refine ⟨[],?_⟩
  rw [List.append_nil]
  exact Go.one h3 a5 (fZ (k:=k+5) a5 (Fi (k:=k+4) (s:={ s with todo:=q }) (by show s.wt.length<line;omega)) (bM (by rw [a5];simp [jh])))
 | @lJ env b u x v hx =>
  intro s q t A
  obtain ⟨a1,a2,a3,a4,a5,a6,r1,r2⟩:=A
  subst a3
  refine ⟨[],?_⟩
  rw [List.append_nil]
  exact Go.one h3 a5 (fZ (k:=k+5) a5 (Fl (k:=k+4) (s:={ s with todo:=q }) a6 hx (by show s.wt.length<line;omega)) (bM (by rw [a5];simp [jh])))
 | @nil env b u kd =>
  intro s q t A
  obtain ⟨a1,a2,a3,a4,a5,a6,r1,r2⟩:=A
  subst a3
  refine ⟨[],?_⟩
  rw [List.append_nil]
  exact Go.one h3 a5 (fZ (k:=k+5) a5 (Fj (k:=k+4) (s:={ s with todo:=q }) (by show s.wt.length<line;omega)) (bM (by rw [a5];simp [jh])))
 | @lt env b u b1 b2 x a r n n2 v v2 he h1 h2 ih1 ih2 =>
  intro s q t A
  obtain ⟨a1,a2,a3,a4,a5,a6,r1,r2⟩:=A
  have g1:=Go.one (k:=k+6) h3 a5 (fZ (k:=k+5) a5 (qV (k:=k+3) (s:={ s with todo:=q }) (by show q.length+1<line;omega)) (bM (by rw [a5];simp [jh])))
  obtain ⟨Y1, g2⟩:=ih1 { s with todo:=q++[aA (w "go on") (Pt.lt x a r).d (.ref (M0.length+(t+3)))]++[aA (w "begin") a.d (.ref (M0.length+(t+3)))] } (q++[aA (w "go on") (Pt.lt x a r).d (.ref (M0.length+(t+3)))]) t ⟨a1, a2, a3, a4, rfl, a6, by simp;omega, by show s.wt.length+n<950000;omega⟩
  let s2:Px:={ s with todo:=q++[aA (w "go on") (Pt.lt x a r).d (.ref (M0.length+(t+3)))], wt:=s.wt++[v], bg:=b1, T:=s.T++Y1 }
  have IU:s2.T[t]? = some (.dct env):=by show (s.T++Y1)[t]? = _;rw [List.getElem?_append_left (List.getElem?_eq_some_iff.mp a6).1];exact a6
  obtain ⟨Y2,q2,hY⟩:=oU (k:=k+3) (M0:=M0) (s:={ s2 with todo:=q }) (p:=s.wt) (v:=v) (t:=t) (kvs:=env) (z:=x) (q:=a) (r:=r) rfl IU (by omega) (by show q.length<line;omega)
  have g3:=Go.one (k:=k+6) (s:=s2) h3 rfl (Dj (k:=k+5) (s:=s2) rfl q2 (by
   show q++[aA (w "begin") r.d _]≠q++[aA (w "go on") (Pt.lt x a r).d (.ref (M0.length+(t+3)))]
   exact aZ (dD (by decide +kernel))))
  obtain ⟨Y3, g4⟩:=ih2 { s2 with wt:=s.wt, T:=s2.T++Y2, todo:=q++[aA (w "begin") r.d (.ref (M0.length+(s2.T.length+3)))] } q s2.T.length ⟨a1, a2, rfl, a4, rfl, by show (s2.T++Y2)[s2.T.length]? = _;rw [hY];simp, by omega, by show s.wt.length+n2<950000;omega⟩
  refine ⟨Y1++Y2++Y3,?_⟩
  have g:=g1.trans (g2.trans (g3.trans g4))
  rw [show 1+(n+(1+n2))=n+n2+2 by omega] at g
  have e:({ ({ s2 with wt:=s.wt, T:=s2.T++Y2, todo:=q++[aA (w "begin") r.d (.ref (M0.length+(s2.T.length+3)))] }:Px) with todo:=q, wt:=s.wt++[v2], bg:=b2, T:=s2.T++Y2++Y3 }:Px)={ s with todo:=q, wt:=s.wt++[v2], bg:=b2, T:=s.T++(Y1++Y2++Y3) }:=by simp [s2]
  rw [<- e];exact g
 | @ite env b u b1 b2 i c a r n n2 v h1 h2 ih1 ih2 =>
  intro s q t A
  obtain ⟨a1,a2,a3,a4,a5,a6,r1,r2⟩:=A
  have g1:=Go.one (k:=k+6) h3 a5 (fZ (k:=k+5) a5 (qW (k:=k+3) (s:={ s with todo:=q }) (by show q.length+1<line;omega)) (bM (by rw [a5];simp [jh])))
  obtain ⟨Y1, g2⟩:=ih1 { s with todo:=q++[aA (w "go on") (Pt.ite c a r).d (.ref (M0.length+(t+3)))]++[aA (w "begin") c.d (.ref (M0.length+(t+3)))] } (q++[aA (w "go on") (Pt.ite c a r).d (.ref (M0.length+(t+3)))]) t ⟨a1, a2, a3, a4, rfl, a6, by simp;omega, by show s.wt.length+n<950000;omega⟩
  let s2:Px:={ s with todo:=q++[aA (w "go on") (Pt.ite c a r).d (.ref (M0.length+(t+3)))], wt:=s.wt++[.int i], bg:=b1, T:=s.T++Y1 }
  have IU:s2.T[t]? = some (.dct env):=by show (s.T++Y1)[t]? = _;rw [List.getElem?_append_left (List.getElem?_eq_some_iff.mp a6).1];exact a6
  have q2:=DU (k:=k+3) (M0:=M0) (s:={ s2 with todo:=q }) (p:=s.wt) (en:=.ref (M0.length+(t+3))) (c:=c) (q:=a) (r:=r) (i:=i) rfl (by show q.length<line;omega)
  have g3:=Go.one (k:=k+6) (s:=s2) h3 rfl (Dj (k:=k+5) (s:=s2) rfl q2 (by
   show q++[aA (w "begin") _ _]≠q++[aA (w "go on") (Pt.ite c a r).d (.ref (M0.length+(t+3)))]
   exact aZ (dD (by decide +kernel))))
  have ei:(if i=0 then r.d else a.d)=(if i=0 then r else a).d:=by split <;> rfl
  rw [ei] at g3
  obtain ⟨Y3, g4⟩:=ih2 { s2 with wt:=s.wt, todo:=q++[aA (w "begin") (if i=0 then r else a).d (.ref (M0.length+(t+3)))] } q t ⟨a1, a2, rfl, a4, rfl, IU, by omega, by show s.wt.length+n2<950000;omega⟩
  refine ⟨Y1++Y3,?_⟩
  have g:=g1.trans (g2.trans (g3.trans g4))
  rw [show 1+(n+(1+n2))=n+n2+2 by omega] at g
  have e:({ ({ s2 with wt:=s.wt, todo:=q++[aA (w "begin") (if i=0 then r else a).d (.ref (M0.length+(t+3)))] }:Px) with todo:=q, wt:=s.wt++[v], bg:=b2, T:=s2.T++Y3 }:Px)={ s with todo:=q, wt:=s.wt++[v], bg:=b2, T:=s.T++(Y1++Y3) }:=by simp [s2]
  rw [<- e];exact g
 | @op env b u b1 o ps n vs v h8 h1 hc ih =>
  intro s q t A
  obtain ⟨a1,a2,a3,a4,a5,a6,r1,r2⟩:=A
  have hl:=h1.len
  have g1:=Go.one (k:=k+6) h3 a5 (fZ (k:=k+5) a5 (xJ (k:=k+3) (s:={ s with todo:=q }) (by show q.length+1+ps.ds.length<line;omega)) (by
   rw [a5]
   show q++[aA (w "end") _ _]++_≠q++[aA (w "begin") _ _]
   rw [List.append_assoc]
   exact aZ (dD (by decide +kernel))))
  obtain ⟨Y1, g2⟩:=ih { s with todo:=q++[aA (w "end") (Pt.op o ps).d (.ref (M0.length+(t+3)))]++ps.ds.reverse.map fun d=>aA (w "begin") d (.ref (M0.length+(t+3))) } (q++[aA (w "end") (Pt.op o ps).d (.ref (M0.length+(t+3)))]) t ⟨a1, a2, a3, a4, rfl, a6, by simp;omega, by show s.wt.length+n<950000;omega⟩
  let s2:Px:={ s with todo:=q++[aA (w "end") (Pt.op o ps).d (.ref (M0.length+(t+3)))], wt:=s.wt++vs, bg:=b1, T:=s.T++Y1 }
  have hvs:vs≠[]:=hc.ne
  obtain ⟨Y2,q2⟩:=xM (k:=k+1) (M0:=M0) (s:={ s2 with todo:=q }) (p:=s.wt) hc hl rfl (by show (s.wt++vs).length<line;rw [List.length_append];omega) hvs
  have g3:=Go.one (k:=k+6) (s:=s2) h3 rfl (IA (k:=k+5) (s:=s2) rfl q2 (bM (by show q.length≠_;simp [s2])))
  refine ⟨Y1++Y2,?_⟩
  have g:=g1.trans (g2.trans g3)
  rw [show 1+(n+1)=n+2 by omega] at g
  have e:({ ({ s2 with todo:=q }:Px) with wt:=s.wt++[v],T:=s2.T++Y2 }:Px)={ s with todo:=q,wt:=s.wt++[v],bg:=b1,T:=s.T++(Y1++Y2) }:=by simp [s2]
  rw [<- e];exact g
 | @call env b u b1 b2 z ps f n n2 vs v h8 h1 hb hu hf ht h2 ih1 ih2 =>
  intro s q t A
  obtain ⟨a1,a2,a3,a4,a5,a6,r1,r2⟩:=A
  have hl:=h1.len
  have g1:=Go.one (k:=k+6) h3 a5 (fZ (k:=k+5) a5 (iA (k:=k+3) (s:={ s with todo:=q }) (by show q.length+1+ps.ds.length<line;omega)) (by
   rw [a5]
   show q++[aA (w "end") _ _]++_≠q++[aA (w "begin") _ _]
   rw [List.append_assoc]
   exact aZ (dD (by decide +kernel))))
  obtain ⟨Y1, g2⟩:=ih1 { s with todo:=q++[aA (w "end") (Pt.call z ps).d (.ref (M0.length+(t+3)))]++ps.ds.reverse.map fun d=>aA (w "begin") d (.ref (M0.length+(t+3))) } (q++[aA (w "end") (Pt.call z ps).d (.ref (M0.length+(t+3)))]) t ⟨a1, a2, a3, a4, rfl, a6, by simp;omega, by show s.wt.length+n<950000;omega⟩
  let s2:Px:={ s with todo:=q++[aA (w "end") (Pt.call z ps).d (.ref (M0.length+(t+3)))], wt:=s.wt++vs, bg:=b1, T:=s.T++Y1 }
  have q2:=tG (k:=k) (M0:=M0) (s:={ s2 with todo:=q }) (p:=s.wt) (fs:=fs) (z:=z) (ps:=ps) (vs:=vs) (f:=f) hl rfl (by show (s.wt++vs).length<line;rw [List.length_append];omega) (by show b1+1<=s.most;omega) (by show s.un+1<=12;omega) a1 hf (by show q.length+1<line;omega) ht
  let s3:Px:={ s2 with wt:=s.wt, bg:=b1+1, un:=s.un+1, todo:=q++[qL]++[aA (w "begin") f.bd.d (.ref (M0.length+((s2.T++[MO.lst vs]).length+3)))], T:=s2.T++[.lst vs]++[.dct (envOf [] (f.tk.map (·.1)) vs)] }
  have g3:Go (k+6) M0 σ 1 s2 s3:=Go.one (k:=k+6) (s:=s2) h3 rfl (IA (k:=k+5) (s:=s2) rfl q2 (by
   show q++[qL]++[_]≠q++[aA (w "end") _ _]
   rw [List.append_assoc]
   exact aZ (dD (by decide +kernel))))
  obtain ⟨Y3,g4⟩:=ih2 s3 (q++[qL]) (s2.T++[MO.lst vs]).length ⟨a1,a2,rfl,by show s.un+1=u+1;omega,rfl,by show (s2.T++[MO.lst vs]++[_])[(s2.T++[MO.lst vs]).length]? = _;simp,by simp;omega,by show s.wt.length+n2<950000;omega⟩
  have g5:=Go.one (k:=k+6) (M0:=M0) (σ:=σ) (s:={ s3 with todo:=q++[qL],wt:=s3.wt++[v],bg:=b2,T:=s3.T++Y3 }) h3 rfl (dn_k (k:=k+5) (s:={ s3 with todo:=q++[qL],wt:=s3.wt++[v],bg:=b2,T:=s3.T++Y3 }) rfl)
  refine ⟨Y1++[.lst vs]++[.dct (envOf [] (f.tk.map (·.1)) vs)]++Y3,?_⟩
  have g:=g1.trans (g2.trans (g3.trans (g4.trans g5)))
  rw [show 1+(n+(1+(n2+1)))=n+n2+3 by omega] at g
  have e:({ ({ s3 with todo:=q++[qL],wt:=s3.wt++[v],bg:=b2,T:=s3.T++Y3 }:Px) with todo:=q,un:=s3.un-1 }:Px)={ s with todo:=q,wt:=s.wt++[v],bg:=b2,T:=s.T++(Y1++[.lst vs]++[.dct (envOf [] (f.tk.map (·.1)) vs)]++Y3) }:=by
   have:s.un+1-1=s.un:=by omega
   simp [s3,s2,this]
  rw [<- e];exact g
 | pS =>
  intro s q t A
  obtain ⟨a1,a2,a3,a4,a5,a6,r1,r2⟩:=A
  subst a3
  refine ⟨[],?_⟩
  have e:({ s with todo:=q,wt:=s.wt++[],bg:=s.bg,T:=s.T++[] }:Px)=s:=by
   have:s.todo=q:=by rw [a5];simp [jh,bU.ds]
   rw [<- this];simp
  rw [e];exact Go.refl
 | @cons env b u b1 b2 p ps n n2 v vs h1 h2 ih1 ih2 =>
  intro s q t A
  obtain ⟨a1,a2,a3,a4,a5,a6,r1,r2⟩:=A
  have hl:=h2.len
  have hlo:=h2.lo
  simp only [bD.lo] at hlo
  rw [nQ,<- List.append_assoc] at a5
  have hq:(q++jh (.ref (M0.length+(t+3))) (.ps ps)).length=q.length+ps.ds.length:=by simp [jh]
  obtain ⟨Y1,g1⟩:=ih1 s (q++jh (.ref (M0.length+(t+3))) (.ps ps)) t ⟨a1,a2,a3,a4,a5,a6,by omega,by omega⟩
  obtain ⟨Y2,g2⟩:=ih2 { s with todo:=q++jh (.ref (M0.length+(t+3))) (.ps ps),wt:=s.wt++[v],bg:=b1,T:=s.T++Y1 } q t ⟨a1,a2,rfl,a4,rfl,by show (s.T++Y1)[t]? = _;rw [List.getElem?_append_left (List.getElem?_eq_some_iff.mp a6).1];exact a6,by omega,by show (s.wt++[v]).length+n2<950000;have:=h1.lo;simp only [bD.lo] at this;simp;omega⟩
  refine ⟨Y1++Y2,?_⟩
  have g:=g1.trans g2
  have e:({ ({ s with todo:=q++jh (.ref (M0.length+(t+3))) (.ps ps),wt:=s.wt++[v],bg:=b1,T:=s.T++Y1 }:Px) with todo:=q,wt:=s.wt++[v]++vs,bg:=b2,T:=s.T++Y1++Y2 }:Px)={ s with todo:=q,wt:=s.wt++(v::vs),bg:=b2,T:=s.T++(Y1++Y2) }:=by simp
  rw [<- e];exact g
end
end bD
end
section
namespace bD
open Fg PySem
section
variable {fs:List Fd} {m:Int} {M0:MH} {k:Nat} {σ:Sg} {s:Px} {p:List D}
theorem go_x {env:Env} {b u:Int} {it:It} {n e:Nat} (h3:σ[3]? = some (some (.ref M0.length))) (h:kh fs m env b u it n e):∀ (s:Px) (q:List D) (t:Nat),At fs m M0 s q env t b u it (n+9)->E2 (k+6) M0 σ n s e:=by
 have hline:line=1000000:=rfl
 induction h with
 | @lt1 env b u x a r n c h ih =>
  intro s q t A
  obtain ⟨a1,a2,a3,a4,a5,a6,r1,r2⟩:=A
  have g1:=Go.one (k:=k+6) h3 a5 (fZ (k:=k+5) a5 (qV (k:=k+3) (s:={ s with todo:=q }) (by show q.length+1<line;omega)) (bM (by rw [a5];simp [jh])))
  have g2:=ih { s with todo:=q++[aA (w "go on") (Pt.lt x a r).d (.ref (M0.length+(t+3)))]++[aA (w "begin") a.d (.ref (M0.length+(t+3)))] } (q++[aA (w "go on") (Pt.lt x a r).d (.ref (M0.length+(t+3)))]) t ⟨a1, a2, a3, a4, rfl, a6, by simp;omega, by show s.wt.length+(n+9)<950000;omega⟩
  have g:=g1.aR g2
  rw [show 1+n=n+1 by omega] at g;exact g
 | @lt2 env b u b1 x a r n n2 c v he h1 h2 ih2 =>
  intro s q t A
  obtain ⟨a1,a2,a3,a4,a5,a6,r1,r2⟩:=A
  have g1:=Go.one (k:=k+6) h3 a5 (fZ (k:=k+5) a5 (qV (k:=k+3) (s:={ s with todo:=q }) (by show q.length+1<line;omega)) (bM (by rw [a5];simp [jh])))
  obtain ⟨Y1, g2⟩:=jB (k:=k) h3 h1 { s with todo:=q++[aA (w "go on") (Pt.lt x a r).d (.ref (M0.length+(t+3)))]++[aA (w "begin") a.d (.ref (M0.length+(t+3)))] } (q++[aA (w "go on") (Pt.lt x a r).d (.ref (M0.length+(t+3)))]) t ⟨a1, a2, a3, a4, rfl, a6, by simp;omega, by show s.wt.length+n<950000;omega⟩
  let s2:Px:={ s with todo:=q++[aA (w "go on") (Pt.lt x a r).d (.ref (M0.length+(t+3)))], wt:=s.wt++[v], bg:=b1, T:=s.T++Y1 }
  have IU:s2.T[t]? = some (.dct env):=by show (s.T++Y1)[t]? = _;rw [List.getElem?_append_left (List.getElem?_eq_some_iff.mp a6).1];exact a6
  obtain ⟨Y2,q2,hY⟩:=oU (k:=k+3) (M0:=M0) (s:={ s2 with todo:=q }) (p:=s.wt) (v:=v) (t:=t) (kvs:=env) (z:=x) (q:=a) (r:=r) rfl IU (by omega) (by show q.length<line;omega)
  have g3:=Go.one (k:=k+6) (s:=s2) h3 rfl (Dj (k:=k+5) (s:=s2) rfl q2 (by
   show q++[aA (w "begin") r.d _]≠q++[aA (w "go on") (Pt.lt x a r).d (.ref (M0.length+(t+3)))]
   exact aZ (dD (by decide +kernel))))
  have g4:=ih2 { s2 with wt:=s.wt, T:=s2.T++Y2, todo:=q++[aA (w "begin") r.d (.ref (M0.length+(s2.T.length+3)))] } q s2.T.length ⟨a1, a2, rfl, a4, rfl, by show (s2.T++Y2)[s2.T.length]? = _;rw [hY];simp, by omega, by show s.wt.length+(n2+9)<950000;omega⟩
  have g:=g1.aR (g2.aR (g3.aR g4))
  rw [show 1+(n+(1+n2))=n+n2+2 by omega] at g
  exact g
 | @ite1 env b u c a r n e h ih =>
  intro s q t A
  obtain ⟨a1,a2,a3,a4,a5,a6,r1,r2⟩:=A
  have g1:=Go.one (k:=k+6) h3 a5 (fZ (k:=k+5) a5 (qW (k:=k+3) (s:={ s with todo:=q }) (by show q.length+1<line;omega)) (bM (by rw [a5];simp [jh])))
  have g2:=ih { s with todo:=q++[aA (w "go on") (Pt.ite c a r).d (.ref (M0.length+(t+3)))]++[aA (w "begin") c.d (.ref (M0.length+(t+3)))] } (q++[aA (w "go on") (Pt.ite c a r).d (.ref (M0.length+(t+3)))]) t ⟨a1, a2, a3, a4, rfl, a6, by simp;omega, by show s.wt.length+(n+9)<950000;omega⟩
  have g:=g1.aR g2
  rw [show 1+n=n+1 by omega] at g;exact g
 | @K5 env b u b1 i c a r n n2 e h1 h2 ih2 =>
  intro s q t A
  obtain ⟨a1,a2,a3,a4,a5,a6,r1,r2⟩:=A
  have g1:=Go.one (k:=k+6) h3 a5 (fZ (k:=k+5) a5 (qW (k:=k+3) (s:={ s with todo:=q }) (by show q.length+1<line;omega)) (bM (by rw [a5];simp [jh])))
  obtain ⟨Y1, g2⟩:=jB (k:=k) h3 h1 { s with todo:=q++[aA (w "go on") (Pt.ite c a r).d (.ref (M0.length+(t+3)))]++[aA (w "begin") c.d (.ref (M0.length+(t+3)))] } (q++[aA (w "go on") (Pt.ite c a r).d (.ref (M0.length+(t+3)))]) t ⟨a1, a2, a3, a4, rfl, a6, by simp;omega, by show s.wt.length+n<950000;omega⟩
  let s2:Px:={ s with todo:=q++[aA (w "go on") (Pt.ite c a r).d (.ref (M0.length+(t+3)))], wt:=s.wt++[.int i], bg:=b1, T:=s.T++Y1 }
  have IU:s2.T[t]? = some (.dct env):=by show (s.T++Y1)[t]? = _;rw [List.getElem?_append_left (List.getElem?_eq_some_iff.mp a6).1];exact a6
  have q2:=DU (k:=k+3) (M0:=M0) (s:={ s2 with todo:=q }) (p:=s.wt) (en:=.ref (M0.length+(t+3))) (c:=c) (q:=a) (r:=r) (i:=i) rfl (by show q.length<line;omega)
  have g3:=Go.one (k:=k+6) (s:=s2) h3 rfl (Dj (k:=k+5) (s:=s2) rfl q2 (by
   show q++[aA (w "begin") _ _]≠q++[aA (w "go on") (Pt.ite c a r).d (.ref (M0.length+(t+3)))]
   exact aZ (dD (by decide +kernel))))
  have ei:(if i=0 then r.d else a.d)=(if i=0 then r else a).d:=by split <;> rfl
  rw [ei] at g3
  have g4:=ih2 { s2 with wt:=s.wt, todo:=q++[aA (w "begin") (if i=0 then r else a).d (.ref (M0.length+(t+3)))] } q t ⟨a1, a2, rfl, a4, rfl, IU, by omega, by show s.wt.length+(n2+9)<950000;omega⟩
  have g:=g1.aR (g2.aR (g3.aR g4))
  rw [show 1+(n+(1+n2))=n+n2+2 by omega] at g
  exact g
 | @MS env b u o ps n e h8 h ih =>
  intro s q t A
  obtain ⟨a1,a2,a3,a4,a5,a6,r1,r2⟩:=A
  have g1:=Go.one (k:=k+6) h3 a5 (fZ (k:=k+5) a5 (xJ (k:=k+3) (s:={ s with todo:=q }) (by show q.length+1+ps.ds.length<line;omega)) (by
   rw [a5]
   show q++[aA (w "end") _ _]++_≠q++[aA (w "begin") _ _]
   rw [List.append_assoc]
   exact aZ (dD (by decide +kernel))))
  have g2:=ih { s with todo:=q++[aA (w "end") (Pt.op o ps).d (.ref (M0.length+(t+3)))]++ps.ds.reverse.map fun d=>aA (w "begin") d (.ref (M0.length+(t+3))) } (q++[aA (w "end") (Pt.op o ps).d (.ref (M0.length+(t+3)))]) t ⟨a1, a2, a3, a4, rfl, a6, by simp;omega, by show s.wt.length+(n+9)<950000;omega⟩
  have g:=g1.aR g2
  rw [show 1+n=n+1 by omega] at g;exact g
 | @qI env b u b1 o ps n e vs h8 h1 hc =>
  intro s q t A
  obtain ⟨a1,a2,a3,a4,a5,a6,r1,r2⟩:=A
  have hl:=h1.len
  have g1:=Go.one (k:=k+6) h3 a5 (fZ (k:=k+5) a5 (xJ (k:=k+3) (s:={ s with todo:=q }) (by show q.length+1+ps.ds.length<line;omega)) (by
   rw [a5]
   show q++[aA (w "end") _ _]++_≠q++[aA (w "begin") _ _]
   rw [List.append_assoc]
   exact aZ (dD (by decide +kernel))))
  obtain ⟨Y1, g2⟩:=jB (k:=k) h3 h1 { s with todo:=q++[aA (w "end") (Pt.op o ps).d (.ref (M0.length+(t+3)))]++ps.ds.reverse.map fun d=>aA (w "begin") d (.ref (M0.length+(t+3))) } (q++[aA (w "end") (Pt.op o ps).d (.ref (M0.length+(t+3)))]) t ⟨a1, a2, a3, a4, rfl, a6, by simp;omega, by show s.wt.length+n<950000;omega⟩
  let s2:Px:={ s with todo:=q++[aA (w "end") (Pt.op o ps).d (.ref (M0.length+(t+3)))], wt:=s.wt++vs, bg:=b1, T:=s.T++Y1 }
  obtain ⟨Y2,q2⟩:=xM (k:=k+1) (M0:=M0) (s:={ s2 with todo:=q }) (p:=s.wt) hc hl rfl (by show (s.wt++vs).length<line;rw [List.length_append];omega) hc.ne
  have g3:=E2.one (k:=k+6) (s:=s2) h3 rfl (Aj (k:=k+5) (s:=s2) rfl q2 (bM (by show q.length≠_;simp [s2])))
  have g:=g1.aR (g2.aR g3)
  rw [show 1+(n+1)=n+2 by omega] at g
  exact g
 | @ET env b u z ps n e h8 h ih =>
  intro s q t A
  obtain ⟨a1,a2,a3,a4,a5,a6,r1,r2⟩:=A
  have g1:=Go.one (k:=k+6) h3 a5 (fZ (k:=k+5) a5 (iA (k:=k+3) (s:={ s with todo:=q }) (by show q.length+1+ps.ds.length<line;omega)) (by
   rw [a5]
   show q++[aA (w "end") _ _]++_≠q++[aA (w "begin") _ _]
   rw [List.append_assoc]
   exact aZ (dD (by decide +kernel))))
  have g2:=ih { s with todo:=q++[aA (w "end") (Pt.call z ps).d (.ref (M0.length+(t+3)))]++ps.ds.reverse.map fun d=>aA (w "begin") d (.ref (M0.length+(t+3))) } (q++[aA (w "end") (Pt.call z ps).d (.ref (M0.length+(t+3)))]) t ⟨a1, a2, a3, a4, rfl, a6, by simp;omega, by show s.wt.length+(n+9)<950000;omega⟩
  have g:=g1.aR g2
  rw [show 1+n=n+1 by omega] at g;exact g
 | @long env b u b1 z ps n vs h8 h1 hb =>
  intro s q t A
  obtain ⟨a1,a2,a3,a4,a5,a6,r1,r2⟩:=A
  have hl:=h1.len
  have g1:=Go.one (k:=k+6) h3 a5 (fZ (k:=k+5) a5 (iA (k:=k+3) (s:={ s with todo:=q }) (by show q.length+1+ps.ds.length<line;omega)) (by
   rw [a5]
   show q++[aA (w "end") _ _]++_≠q++[aA (w "begin") _ _]
   rw [List.append_assoc]
   exact aZ (dD (by decide +kernel))))
  obtain ⟨Y1, g2⟩:=jB (k:=k) h3 h1 { s with todo:=q++[aA (w "end") (Pt.call z ps).d (.ref (M0.length+(t+3)))]++ps.ds.reverse.map fun d=>aA (w "begin") d (.ref (M0.length+(t+3))) } (q++[aA (w "end") (Pt.call z ps).d (.ref (M0.length+(t+3)))]) t ⟨a1, a2, a3, a4, rfl, a6, by simp;omega, by show s.wt.length+n<950000;omega⟩
  let s2:Px:={ s with todo:=q++[aA (w "end") (Pt.call z ps).d (.ref (M0.length+(t+3)))], wt:=s.wt++vs, bg:=b1, T:=s.T++Y1 }
  obtain ⟨s',ht',q2⟩:=oS (k:=k) (M0:=M0) (s:={ s2 with todo:=q }) (p:=s.wt) (z:=z) (ps:=ps) (vs:=vs) (c:=4) hl rfl (by show (s.wt++vs).length<line;rw [List.length_append];omega) (fun M=>if_pos (by show s.most<b1+1;omega))
  have g3:=E2.one (k:=k+6) (s:=s2) h3 rfl (Aj (k:=k+5) (s:=s2) rfl q2 (bM (by rw [ht'];show q.length≠_;simp [s2])))
  have g:=g1.aR (g2.aR g3)
  rw [show 1+(n+1)=n+2 by omega] at g
  exact g
 | @deep env b u b1 z ps n vs h8 h1 hb hu =>
  intro s q t A
  obtain ⟨a1,a2,a3,a4,a5,a6,r1,r2⟩:=A
  have hl:=h1.len
  have g1:=Go.one (k:=k+6) h3 a5 (fZ (k:=k+5) a5 (iA (k:=k+3) (s:={ s with todo:=q }) (by show q.length+1+ps.ds.length<line;omega)) (by
   rw [a5]
   show q++[aA (w "end") _ _]++_≠q++[aA (w "begin") _ _]
   rw [List.append_assoc]
   exact aZ (dD (by decide +kernel))))
  obtain ⟨Y1, g2⟩:=jB (k:=k) h3 h1 { s with todo:=q++[aA (w "end") (Pt.call z ps).d (.ref (M0.length+(t+3)))]++ps.ds.reverse.map fun d=>aA (w "begin") d (.ref (M0.length+(t+3))) } (q++[aA (w "end") (Pt.call z ps).d (.ref (M0.length+(t+3)))]) t ⟨a1, a2, a3, a4, rfl, a6, by simp;omega, by show s.wt.length+n<950000;omega⟩
  let s2:Px:={ s with todo:=q++[aA (w "end") (Pt.call z ps).d (.ref (M0.length+(t+3)))], wt:=s.wt++vs, bg:=b1, T:=s.T++Y1 }
  obtain ⟨s',ht',q2⟩:=oS (k:=k) (M0:=M0) (s:={ s2 with todo:=q }) (p:=s.wt) (z:=z) (ps:=ps) (vs:=vs) (c:=5) hl rfl (by show (s.wt++vs).length<line;rw [List.length_append];omega) (fun M=>(if_neg (by show ¬ s.most<b1+1;omega)).trans (if_pos (by show 12<s.un+1;omega)))
  have g3:=E2.one (k:=k+6) (s:=s2) h3 rfl (Aj (k:=k+5) (s:=s2) rfl q2 (bM (by rw [ht'];show q.length≠_;simp [s2])))
  have g:=g1.aR (g2.aR g3)
  rw [show 1+(n+1)=n+2 by omega] at g
  exact g
 | @call2 env b u b1 z ps f n n2 e vs h8 h1 hb hu hf ht h2 ih2 =>
  intro s q t A
  obtain ⟨a1,a2,a3,a4,a5,a6,r1,r2⟩:=A
  have hl:=h1.len
  have g1:=Go.one (k:=k+6) h3 a5 (fZ (k:=k+5) a5 (iA (k:=k+3) (s:={ s with todo:=q }) (by show q.length+1+ps.ds.length<line;omega)) (by
   rw [a5]
   show q++[aA (w "end") _ _]++_≠q++[aA (w "begin") _ _]
   rw [List.append_assoc]
   exact aZ (dD (by decide +kernel))))
  obtain ⟨Y1, g2⟩:=jB (k:=k) h3 h1 { s with todo:=q++[aA (w "end") (Pt.call z ps).d (.ref (M0.length+(t+3)))]++ps.ds.reverse.map fun d=>aA (w "begin") d (.ref (M0.length+(t+3))) } (q++[aA (w "end") (Pt.call z ps).d (.ref (M0.length+(t+3)))]) t ⟨a1, a2, a3, a4, rfl, a6, by simp;omega, by show s.wt.length+n<950000;omega⟩
  let s2:Px:={ s with todo:=q++[aA (w "end") (Pt.call z ps).d (.ref (M0.length+(t+3)))], wt:=s.wt++vs, bg:=b1, T:=s.T++Y1 }
  have q2:=tG (k:=k) (M0:=M0) (s:={ s2 with todo:=q }) (p:=s.wt) (fs:=fs) (z:=z) (ps:=ps) (vs:=vs) (f:=f) hl rfl (by show (s.wt++vs).length<line;rw [List.length_append];omega) (by show b1+1<=s.most;omega) (by show s.un+1<=12;omega) a1 hf (by show q.length+1<line;omega) ht
  let s3:Px:={ s2 with wt:=s.wt, bg:=b1+1, un:=s.un+1, todo:=q++[qL]++[aA (w "begin") f.bd.d (.ref (M0.length+((s2.T++[MO.lst vs]).length+3)))], T:=s2.T++[.lst vs]++[.dct (envOf [] (f.tk.map (·.1)) vs)] }
  have g3:Go (k+6) M0 σ 1 s2 s3:=Go.one (k:=k+6) (s:=s2) h3 rfl (IA (k:=k+5) (s:=s2) rfl q2 (by
   show q++[qL]++[_]≠q++[aA (w "end") _ _]
   rw [List.append_assoc]
   exact aZ (dD (by decide +kernel))))
  have g4:=ih2 s3 (q++[qL]) (s2.T++[MO.lst vs]).length ⟨a1,a2,rfl,by show s.un+1=u+1;omega,rfl,by show (s2.T++[MO.lst vs]++[_])[(s2.T++[MO.lst vs]).length]? = _;simp,by simp;omega,by show s.wt.length+(n2+9)<950000;omega⟩
  have g:=g1.aR (g2.aR (g3.aR g4))
  rw [show 1+(n+(1+n2))=n+n2+2 by omega] at g
  exact g
 | @head env b u p ps n e h8 h ih =>
  intro s q t A
  obtain ⟨a1,a2,a3,a4,a5,a6,r1,r2⟩:=A
  rw [nQ,<- List.append_assoc] at a5
  have hq:(q++jh (.ref (M0.length+(t+3))) (.ps ps)).length=q.length+ps.ds.length:=by simp [jh]
  have g:=ih s (q++jh (.ref (M0.length+(t+3))) (.ps ps)) t ⟨a1,a2,a3,a4,a5,a6,by omega,by omega⟩
  intro N
  obtain ⟨s',q'⟩:=g (1+N)
  exact ⟨s',by rw [show n+1+N=n+(1+N) by omega];exact q'⟩
 | @tail env b u b1 p ps n n2 e v h8 h1 h2 ih2 =>
  intro s q t A
  obtain ⟨a1,a2,a3,a4,a5,a6,r1,r2⟩:=A
  rw [nQ,<- List.append_assoc] at a5
  have hq:(q++jh (.ref (M0.length+(t+3))) (.ps ps)).length=q.length+ps.ds.length:=by simp [jh]
  obtain ⟨Y1,g1⟩:=jB (k:=k) h3 h1 s (q++jh (.ref (M0.length+(t+3))) (.ps ps)) t ⟨a1,a2,a3,a4,a5,a6,by omega,by omega⟩
  have g2:=ih2 { s with todo:=q++jh (.ref (M0.length+(t+3))) (.ps ps),wt:=s.wt++[v],bg:=b1,T:=s.T++Y1 } q t ⟨a1,a2,rfl,a4,rfl,by show (s.T++Y1)[t]? = _;rw [List.getElem?_append_left (List.getElem?_eq_some_iff.mp a6).1];exact a6,by omega,by show (s.wt++[v]).length+(n2+9)<950000;have:=h1.lo;simp only [bD.lo] at this;simp;omega⟩
  exact g1.aR g2
end
end bD
end
section
namespace bD
open Fg PySem
inductive oG {α β:Type} (R:α->β->Prop):List α->List β->Prop
 | nil:oG R [] []
 | cons {a:α} {b:β} {as:List α} {bs:List β}:R a b->oG R as bs->oG R (a::as) (b::bs)
theorem oG.imp {α β:Type} {R S:α->β->Prop} (h:∀ a b,R a b->S a b):∀ {as:List α} {bs:List β},oG R as bs->oG S as bs
 | _,_,.nil=>.nil
 | _,_,.cons a r=>.cons (h _ _ a) (r.imp h)
noncomputable def Sh (lo:Nat) (M:MH):Nat->D->D->Prop
 | 0,_,_=>False
 | n+1,y,d=>(∃ i,y=.int i/\d=.int i)\/(∃ a b x z,y=.tup [a,b]/\d=.tup [x,z]/\Sh lo M n a x/\Sh lo M n b z)\/∃ r ys xs,y=.ref r/\d=.lst xs/\lo<=r/\M[r]? = some (.lst ys)/\oG (Sh lo M n) ys xs
theorem Sh.mono {lo lo':Nat} {M M':MH} (hl:lo'<=lo) (h:∀ n o,lo<=n->M[n]? = some o->M'[n]? = some o):∀ {n:Nat} {y d:D},Sh lo M n y d->Sh lo' M' n y d
 | 0,_,_,q=>q.elim
 | n+1,y,d,q=>by
  rcases q with q | ⟨a,b,x,z,h1,h2,h3,h4⟩ | ⟨r,ys,xs,h1,h2,h3,h4,h5⟩
  ·exact .inl q
  ·exact .inr (.inl ⟨a,b,x,z,h1,h2,Sh.mono hl h h3,Sh.mono hl h h4⟩)
  ·exact .inr (.inr ⟨r,ys,xs,h1,h2,Nat.le_trans hl h3,h _ _ h3 h4,h5.imp fun _ _=>Sh.mono hl h⟩)
inductive Jo (R:D->D->Prop):D->List D->Prop
 | nil:Jo R .ak []
 | cons {sz:Int} {a b x:D} {xs:List D}:R a x->Jo R b xs->Jo R (.tup [.str (layW true),.int sz,a,b]) (x::xs)
noncomputable def Tl:Nat->D->D->Prop
 | 0,_,_=>False
 | n+1,v,d=>(∃ i,v=.int i/\d=.int i)\/(∃ sz a b x y,v=.tup [.str (layW false),.int sz,a,b]/\d=.tup [x,y]/\Tl n a x/\Tl n b y)\/∃ xs,d=.lst xs/\xs.length<2000/\Jo (Tl n) v xs
noncomputable def lE:E:=.cmp .lI (.v 0) (.k .ak)
noncomputable def lB:Ss:=.cons (.ex (.dI .append true (.v 1) (.cons (.call 8 (.cons (.idx (.v 0) (.k (.int 2))) .nil)) .nil))) (.cons (.set 0 (.idx (.v 0) (.k (.int 3)))) .nil)
section
variable {k:Nat}
theorem vC {n:Nat} {M:MH} (ih:∀ (v d:D) (M:MH),Tl n v d->∃ y X,(af aq (k+n)).call 8 [v] M=.ok y (M++X)/\Sh M.length (M++X) n y d):∀ (v:D) (xs:List D) (acc:List D) (X:MH) (N:Nat),Jo (Tl n) v xs->xs.length<N->acc.length+xs.length<100000 ->
  ∃ v' ys Z,bR (ev (af aq (k+n)) lE) (exs (af aq (k+n)) lB) N [some v,some (.ref M.length)] (M++.lst acc::X)=.ok (.nx [some v',some (.ref M.length)]) (M++.lst (acc++ys)::(X++Z))/\oG (Sh (M.length+1) (M++.lst (acc++ys)::(X++Z)) n) ys xs:=by
 intro v xs acc X N h
 induction h generalizing acc X N with
 | nil =>
  intro hN _
  obtain ⟨N,rfl⟩:∃ m,N=m+1:=⟨N-1,by omega⟩
  exact ⟨.ak,[],[],by rw [bR,List.append_nil,List.append_nil];rfl,.nil⟩
 | @cons sz a b x xs ha _ ih2 =>
  intro hN hl
  simp only [List.length_cons] at hN hl
  obtain ⟨N,rfl⟩:∃ m,N=m+1:=⟨N-1,by omega⟩
  obtain ⟨y,X1,q1,q2⟩:=ih a x (M++.lst acc::X) ha
  have eM:M++MO.lst acc::X++X1=M++.lst acc::(X++X1):=by simp
  rw [eM] at q1 q2
  have g0:(M++MO.lst acc::X)[M.length]? = some (.lst acc):=by simp
  have g:(M++MO.lst acc::(X++X1))[M.length]? = some (.lst acc):=by simp
  have ec:ev (af aq (k+n)) (.call 8 (.cons (.idx (.v 0) (.k (.int 2))) .nil)) [some (.tup [.str (layW true),.int sz,a,b]),some (.ref M.length)] (M++.lst acc::X)=.ok y (M++.lst acc::(X++X1)):=(bW (aK rfl rfl qE)).trans q1
  have e1:=uT (Φ:=af aq (k+n)) (e:=.v 1) (σ:=[some (.tup [.str (layW true),.int sz,a,b]),some (.ref M.length)]) rfl g0 ec g (Nat.lt_of_lt_of_le (by omega:acc.length<100000) (by decide))
  have es:(M++MO.lst acc::(X++X1)).set M.length (.lst (acc++[y]))=M++.lst (acc++[y])::(X++X1):=by rw [List.set_append_right _ _ (Nat.le_refl _),Nat.sub_self];rfl
  rw [es] at e1
  have e2:ev (af aq (k+n)) (.idx (.v 0) (.k (.int 3))) [some (.tup [.str (layW true),.int sz,a,b]),some (.ref M.length)] (M++.lst (acc++[y])::(X++X1))=.ok b (M++.lst (acc++[y])::(X++X1)):=aK rfl rfl qD
  obtain ⟨v',ys,Z,e3,hs⟩:=ih2 (acc++[y]) (X++X1) N (by omega) (by simp;omega)
  have eA:acc++[y]++ys=acc++(y::ys):=by simp
  have eX:X++X1++Z=X++(X1++Z):=by simp
  rw [eA,eX] at e3 hs
  refine ⟨v',y::ys,X1++Z,?_,.cons (Sh.mono (lo:=(M++MO.lst acc::X).length) (by simp) (fun m o hm hq=>?_) q2) hs⟩
  ·have eb:exs (af aq (k+n)) lB [some (.tup [.str (layW true),.int sz,a,b]),some (.ref M.length)] (M++.lst acc::X)=.ok (.nx [some b,some (.ref M.length)]) (M++.lst (acc++[y])::(X++X1)):=(bZ e1).trans ((av e2).trans rfl)
   rw [bR]
   show (exs (af aq (k+n)) lB _ (M++.lst acc::X)).bind _=_
   rw [eb]
   exact e3
  ·have hm':M.length+1<=m:=by simp at hm;omega
   rw [List.getElem?_append_right (by omega)] at hq ⊢
   obtain ⟨j,hj⟩:∃ j,m-M.length=j+1:=⟨m-M.length-1,by omega⟩
   rw [hj,List.getElem?_cons_succ] at hq ⊢
   rw [<- eX,List.getElem?_append_left (List.getElem?_eq_some_iff.mp hq).1];exact hq
theorem JB:∀ (n:Nat) (v d:D) (M:MH),Tl n v d->∃ y X,(af aq (k+n)).call 8 [v] M=.ok y (M++X)/\Sh M.length (M++X) n y d:=by
 intro n
 induction n with
 | zero=>intro v d M h;exact h.elim
 | succ n ih =>
  intro v d M h
  rcases h with ⟨i,rfl,rfl⟩ | ⟨sz,a,b,x,y,rfl,rfl,h1,h2⟩ | ⟨xs,rfl,hl,h⟩
  ·refine ⟨.int i,[],?_,.inl ⟨i,rfl,rfl⟩⟩
   rw [List.append_nil]
   exact aQ (P:=aq) (k:=k+n) Nu rfl (bY (x:=.int i) (M1:=M) rfl rfl) rfl
  ·obtain ⟨ya,X1,q1,s1⟩:=ih a x M h1
   obtain ⟨yb,X2,q2,s2⟩:=ih b y (M++X1) h2
   refine ⟨.tup [ya,yb],X1++X2,?_,.inr (.inl ⟨ya,yb,x,y,rfl,rfl,s1.mono (Nat.le_refl _) (fun m o _ hq=>?_),s2.mono (by simp) (fun m o _ hq=>by rw [<- List.append_assoc];exact hq)⟩)⟩
   ·have e1:ev (af aq (k+n)) (.AR (.v 0) .int) [some (.tup [.str (layW false),.int sz,a,b]),none] M=.ok (.bl false) M:=rfl
    have e2:ev (af aq (k+n)) (.and (.cmp .lI (.v 0) (.k .ak)) (.cmp .eq (.idx (.v 0) (.k (.int 0))) (.k (.str (w "pair"))))) [some (.tup [.str (layW false), .int sz, a, b]), none] M=.ok (.bl true) M:=by
     have e:ev (af aq (k+n)) (.cmp .eq (.idx (.v 0) (.k (.int 0))) (.k (.str (w "pair")))) [some (.tup [.str (layW false), .int sz, a, b]), none] M=.ok (.bl true) M:=bF (aK rfl rfl bG) (by decide +kernel)
     rw [Aa]
     exact e
    have e3:ev (af aq (k+n)) (.tup (.cons (.call 8 (.cons (.idx (.v 0) (.k (.int 2))) .nil)) (.cons (.call 8 (.cons (.idx (.v 0) (.k (.int 3))) .nil)) .nil))) [some (.tup [.str (layW false),.int sz,a,b]),none] M=.ok (.tup [ya,yb]) (M++X1++X2):=by
     rw [g7,fX ((bW (aK rfl rfl qE)).trans q1) ((bW (aK rfl rfl qD)).trans q2)];rfl
    rw [<- List.append_assoc]
    exact aQ (P:=aq) (k:=k+n) Nu rfl ((aM e1).trans (bY e2 (bq e3))) rfl
   ·rw [<- List.append_assoc,List.getElem?_append_left (List.getElem?_eq_some_iff.mp hq).1];exact hq
  ·have e1:ev (af aq (k+n)) (.AR (.v 0) .int) [some v,none] M=.ok (.bl false) M:=by cases h <;> rfl
   have e2:ev (af aq (k+n)) (.and (.cmp .lI (.v 0) (.k .ak)) (.cmp .eq (.idx (.v 0) (.k (.int 0))) (.k (.str (w "pair"))))) [some v, none] M=.ok (.bl false) M:=by
    cases h with
    | nil=>rfl
    | @cons sz a b x xs _ _ =>
     have e:ev (af aq (k+n)) (.cmp .eq (.idx (.v 0) (.k (.int 0))) (.k (.str (w "pair")))) [some (.tup [.str (layW true), .int sz, a, b]), none] M=.ok (.bl false) M:=bF (aK rfl rfl bG) (by decide +kernel)
     rw [Aa]
     exact e
   have e3:ev (af aq (k+n)) (.lst false .nil) [some v,none] M=.ok (.ref M.length) (M++[.lst []]):=rfl
   obtain ⟨v',ys,Z,e4,hs⟩:=vC (k:=k) (M:=M) ih v xs [] [] 100000 h (by omega) (by simp;omega)
   rw [List.nil_append,List.nil_append] at e4 hs
   have e5:ex (af aq (k+n)) (.while lE lB) [some v,some (.ref M.length)] (M++[.lst []])=.ok (.nx [some v',some (.ref M.length)]) (M++.lst ys::Z):=by
    rw [kW,gb];exact e4
   refine ⟨.ref M.length,.lst ys::Z,aQ (P:=aq) (k:=k+n) Nu rfl ((aM e1).trans ((aM e2).trans ((av e3).trans ((i9 e5).trans (bq rfl))))) rfl,.inr (.inr ⟨M.length,ys,xs,rfl,rfl,Nat.le_refl _,by simp,hs.imp fun _ _ q=>q.mono (by omega) fun _ _ _ z=>z⟩)⟩
end
end bD
end
section
namespace bD
open Fg PySem
section
variable {M0 M:MH} {k n:Nat} {P:D} {m:Int} {fs:List Fd} {f:Fd} {nu:List D}
noncomputable def FZ (P:D) (m:Int):Px:=⟨P,m,0,0,[],[],[]⟩
theorem II:(af aq (k+1)).call 11 [.ref M0.length,P,.int m] (M0++[.ins 0 []])=.ok .ak ((FZ P m).h M0):=by
 let σ:Sg:=[some (.ref M0.length),some P,some (.int m)]
 have st:∀ {gs gs':List (Str×D)} {X Y:MH} {e:E} {d:D} {g:Str},ev (af aq k) e σ (M0++.ins 0 gs::X)=.ok d (M0++.ins 0 gs::Y)->gs.length<1000->eL g d gs=gs'->ex (af aq k) (.eG (.v 0) g e) σ (M0++.ins 0 gs::X)=.ok (.nx σ) (M0++.ins 0 gs'::Y):=fun {gs gs' X Y e d g} he hl hg=>by
  have h0:(M0++MO.ins 0 gs::Y)[M0.length]? = some (.ins 0 gs):=off 0 _
  have:=Il (Φ:=af aq k) (σ:=σ) (a:=.v 0) (g:=g) (n:=M0.length) he rfl h0 hl hg
  rw [this]
  have e2:(M0++MO.ins 0 gs::Y).set M0.length (.ins 0 gs')=M0++MO.ins 0 gs'::Y:=offs 0 _ _
  rw [e2]
 have a1:=st (gs:=[]) (X:=[]) (Y:=[]) (e:=.v 1) (d:=P) (g:=w "program") rfl (by decide) rfl
 have a2:=st (gs:=[(w "program", P)]) (X:=[]) (Y:=[]) (e:=.v 2) (d:=.int m) (g:=w "most") (gs':=[(w "program", P), (w "most", .int m)]) rfl (by simp) (by simp only [eL, wn (a:="program") (b:="most"), if_false])
 have a3:=st (gs:=[(w "program", P), (w "most", .int m)]) (X:=[]) (Y:=[]) (e:=.k (.int 0)) (d:=.int 0) (g:=w "begun") (gs':=[(w "program", P), (w "most", .int m), (w "begun", .int 0)]) rfl (by simp) (by simp only [eL, wn (a:="program") (b:="begun"), wn (a:="most") (b:="begun"), if_false])
 have a4:=st (gs:=[(w "program", P), (w "most", .int m), (w "begun", .int 0)]) (X:=[]) (Y:=[]) (e:=.k (.int 0)) (d:=.int 0) (g:=w "under_way") (gs':=[(w "program", P), (w "most", .int m), (w "begun", .int 0), (w "under_way", .int 0)]) rfl (by simp) (by simp only [eL, wn (a:="program") (b:="under_way"), wn (a:="most") (b:="under_way"), wn (a:="begun") (b:="under_way"), if_false])
 have n1:∀ {gs:List (Str×D)} {X:MH},ev (af aq k) (.lst false .nil) σ (M0++.ins 0 gs::X)=.ok (.ref (M0.length+(X.length+1))) (M0++.ins 0 gs::(X++[.lst []])):=fun {gs X}=>by
  show R.ok (D.ref (M0++MO.ins 0 gs::X).length) (M0++MO.ins 0 gs::X++[MO.lst []])=_
  simp
 have a5:=st (gs:=[(w "program", P), (w "most", .int m), (w "begun", .int 0), (w "under_way", .int 0)]) (X:=[]) (Y:=[.lst []]) (g:=w "todo") (gs':=[(w "program", P), (w "most", .int m), (w "begun", .int 0), (w "under_way", .int 0), (w "todo", .ref (M0.length+1))]) n1 (by simp) (by simp only [eL, wn (a:="program") (b:="todo"), wn (a:="most") (b:="todo"), wn (a:="begun") (b:="todo"), wn (a:="under_way") (b:="todo"), if_false];rfl)
 have a6:=st (gs:=[(w "program", P), (w "most", .int m), (w "begun", .int 0), (w "under_way", .int 0), (w "todo", .ref (M0.length+1))]) (X:=[.lst []]) (Y:=[.lst [], .lst []]) (g:=w "waiting") (gs':=[(w "program", P), (w "most", .int m), (w "begun", .int 0), (w "under_way", .int 0), (w "todo", .ref (M0.length+1)), (w "waiting", .ref (M0.length+2))]) n1 (by simp) (by simp only [eL, wn (a:="program") (b:="waiting"), wn (a:="most") (b:="waiting"), wn (a:="begun") (b:="waiting"), wn (a:="under_way") (b:="waiting"), wn (a:="todo") (b:="waiting"), if_false];rfl)
 refine dS fn11 rfl ((i9 a1).trans ((i9 a2).trans ((i9 a3).trans ((i9 a4).trans ((i9 a5).trans ((i9 a6).trans rfl)))))) ?_
 exact dh M0.length (by simp) (by
  rw [show (M0++[MO.ins 0 []])[M0.length]? = some (.ins 0 []) from off 0 _]
  rw [show (M0++MO.ins 0 [(w "program", P), (w "most", .int m), (w "begun", .int 0), (w "under_way", .int 0), (w "todo", .ref (M0.length+1)), (w "waiting", .ref (M0.length+2))]::[MO.lst [], .lst []])[M0.length]? = some (.ins 0 [(w "program", P), (w "most", .int m), (w "begun", .int 0), (w "under_way", .int 0), (w "todo", .ref (M0.length+1)), (w "waiting", .ref (M0.length+2))]) from off 0 _]
  simp)
noncomputable abbrev sP (fs:List Fd) (nu:List D) (m:Int) (o:Option D):Sg:=[some (.lst (fs.map Fd.d)),some (.lst nu),some (.int m),o]
noncomputable def lH (M0:MH) (fs:List Fd) (f:Fd) (nu:List D) (m:Int):Px:={ FZ (.lst (fs.map Fd.d)) m with todo:=[aA (w "begin") f.bd.d (.ref (M0.length+3))], T:=[.dct (envOf [] (f.tk.map (·.1)) nu)] }
theorem pA:fS.body=.cons (.set 3 (.new 0 11 (.cons (.v 0) (.cons (.v 2) .nil)))) (.cons (.ex (.c9 0 17 (w "put_off_body") (.v 3) (.cons (.k (.str (w "main"))) (.cons (.v 1) .nil)))) (.cons (.while pE pB) (.cons (.ret (.call 8 (.cons (.dI .pop true (.fld (.v 3) (w "waiting")) .nil) .nil))) .nil))):=rfl
theorem tX {ss:Ss} (hf:fs.find? (fun g=>decide (g.nm=w "main"))=some f) (ht:f.tk.length<=1000) :
  exs (af aq (k+6)) (.cons (.set 3 (.new 0 11 (.cons (.v 0) (.cons (.v 2) .nil)))) (.cons (.ex (.c9 0 17 (w "put_off_body") (.v 3) (.cons (.k (.str (w "main"))) (.cons (.v 1) .nil)))) ss)) (sP fs nu m none) M0=exs (af aq (k+6)) ss (sP fs nu m (some (.ref M0.length))) ((lH M0 fs f nu m).h M0):=by
 have e1:=e_new (Φ:=af aq (k+6)) (c:=0) (g:=11) (σ:=sP fs nu m none) (M:=M0) (M1:=M0) (M2:=(FZ (.lst (fs.map Fd.d)) m).h M0) (es:=.cons (.v 0) (.cons (.v 2) .nil)) (ds:=[.lst (fs.map Fd.d),.int m]) rfl (II (k:=k+4))
 have e2:ev (af aq (k+6)) (.c9 0 17 (w "put_off_body") (.v 3) (.cons (.k (.str (w "main"))) (.cons (.v 1) .nil))) (sP fs nu m (some (.ref M0.length))) ((FZ (.lst (fs.map Fd.d)) m).h M0)=.ok .ak ((lH M0 fs f nu m).h M0):=by
  rw [u_ (i:=3) rfl (by decide +kernel), fX (x:=.str (w "main")) (y:=.lst nu) (M1:=(FZ (.lst (fs.map Fd.d)) m).h M0) (M2:=(FZ (.lst (fs.map Fd.d)) m).h M0) rfl rfl, R.aa]
  exact Ay (k:=k+3) (s:=FZ (.lst (fs.map Fd.d)) m) (M0:=M0) (gv:=.lst nu) (fs:=fs) (f:=f) (z:=w "main") (vs:=nu) rfl hf rfl (show 0<line by decide) ht
 exact (av e1).trans ((bZ e2).trans rfl)
theorem at1 {n:Nat} (hn:n<=99000):At fs m M0 (lH M0 fs f nu m) [] (envOf [] (f.tk.map (·.1)) nu) 0 0 0 (.p f.bd) n:=⟨rfl,rfl,rfl,rfl,rfl,rfl,by simp;omega,by show 0+n<950000;omega⟩
theorem vg {b':Int} {v:D} (hf:fs.find? (fun g=>decide (g.nm=w "main"))=some f) (ht:f.tk.length<=1000) (h:Ev fs m (envOf [] (f.tk.map (·.1)) nu) 0 0 (.p f.bd) n [v] b') (hn:n<=90000) :
  ∃ T:MH,∀ (y:D) (X:MH),(af aq (k+6)).call 8 [v] (({ lH M0 fs f nu m with todo:=[],wt:=[],bg:=b',T:=T }:Px).h M0)=.ok y (({ lH M0 fs f nu m with todo:=[],wt:=[],bg:=b',T:=T++X }:Px).h M0) ->
   (af aq (k+7)).call 10 [.lst (fs.map Fd.d),.lst nu,.int m] M0=fM false M0 y (({ lH M0 fs f nu m with todo:=[],wt:=[],bg:=b',T:=T++X }:Px).h M0):=by
 have Nl:(sP fs nu m (some (.ref M0.length)))[3]? = some (some (.ref M0.length)):=rfl
 obtain ⟨Y,g⟩:=jB (k:=k) Nl h (lH M0 fs f nu m) [] 0 (at1 (by omega))
 refine ⟨(lH M0 fs f nu m).T++Y,fun y X hy=>?_⟩
 let s2:Px:={ lH M0 fs f nu m with todo:=[],wt:=[v],bg:=b',T:=(lH M0 fs f nu m).T++Y }
 have c:=rM (Φ:=af aq (k+6)) (s:=s2) (M0:=M0) Nl
 have ew:ex (af aq (k+6)) (.while pE pB) (sP fs nu m (some (.ref M0.length))) ((lH M0 fs f nu m).h M0)=.ok (.nx (sP fs nu m (some (.ref M0.length)))) (s2.h M0):=by
  rw [kW,gb]
  have q:=g (100000-n-1+1)
  rw [show n+(100000-n-1+1)=100000 by omega] at q
  show bR _ _ 100000 _ _=_
  rw [q,bR,show Px.h { lH M0 fs f nu m with todo:=[],wt:=(lH M0 fs f nu m).wt++[v],bg:=b',T:=(lH M0 fs f nu m).T++Y } M0=s2.h M0 from rfl,c]
  rfl
 have ep:=uR (Φ:=af aq (k+6)) (σ:=sP fs nu m (some (.ref M0.length))) (s:=s2) (M0:=M0) (i:=3) (p:=[]) (x:=v) rfl rfl
 have er:ev (af aq (k+6)) (.call 8 (.cons (.dI .pop true (.fld (.v 3) (w "waiting")) .nil) .nil)) (sP fs nu m (some (.ref M0.length))) (s2.h M0)=.ok y (({ lH M0 fs f nu m with todo:=[], wt:=[], bg:=b', T:=(lH M0 fs f nu m).T++Y++X }:Px).h M0):=(bW ep).trans hy
 exact aQ Lo rfl (by rw [pA];exact (tX hf ht).trans ((i9 ew).trans (bq er))) rfl
theorem qB {e:Nat} (hf:fs.find? (fun g=>decide (g.nm=w "main"))=some f) (ht:f.tk.length<=1000) (h:kh fs m (envOf [] (f.tk.map (·.1)) nu) 0 0 (.p f.bd) n e) (hn:n<=90000):(af aq (k+7)).call 10 [.lst (fs.map Fd.d), .lst nu, .int m] M0=.exc e M0:=by
 have Nl:(sP fs nu m (some (.ref M0.length)))[3]? = some (some (.ref M0.length)):=rfl
 have g:=go_x (k:=k) Nl h (lH M0 fs f nu m) [] 0 (at1 (by omega))
 obtain ⟨s',q⟩:=g (100000-n)
 rw [show n+(100000-n)=100000 by omega] at q
 have ew:∀ ss,exs (af aq (k+6)) (.cons (.while pE pB) ss) (sP fs nu m (some (.ref M0.length))) ((lH M0 fs f nu m).h M0)=.ok (.xc e (sP fs nu m (some (.ref M0.length)))) (s'.h M0):=fun ss=>by
  rw [bO,kW,gb,show aq.turns=100000 from rfl,q];rfl
 exact jt Lo rfl (by rw [pA];exact (tX hf ht).trans (ew _)) (if_pos qR)
end
end bD
end
section
namespace bD
open Fg PySem
theorem fn19:aq.fn 19=some jD:=rfl
theorem fn20:aq.fn 20=some jl:=rfl
theorem fn21:aq.fn 21=some eV:=rfl
theorem fn22:aq.fn 22=some jE:=rfl
theorem fn23:aq.fn 23=some cI:=rfl
theorem HV:aq.fn 24=some cW:=rfl
theorem Lm:aq.fn 25=some cC:=rfl
theorem Ll:aq.fn 26=some jF:=rfl
theorem fn27:aq.fn 27=some zM:=rfl
noncomputable def nats (ns:List Nat):List D:=ns.map fun (n:Nat)=>D.int n
noncomputable def mixed (c:Int):Int:=(c % 2147483647+11)*48271*69621 % 2147483629
theorem yR (c:Int):0<=mixed c/\mixed c<2147483629:=by unfold mixed;omega
noncomputable def GU (c:Int):Nat:=(mixed c).toNat
theorem Cr (c:Int):mixed c=(GU c:Int):=(Int.toNat_of_nonneg (yR c).1).symm
section
variable {M M1 M2:MH} {k:Nat} {Φ:bz} {σ:Sg} {e e':E}
theorem Dt {c:Int}:(af aq (k+1)).call 19 [.int c] M=.ok (.int (GU c:Int)) M:=by
 have e:ev (af aq k) (.op .mod true (.op .mul true (.op .mul true (.op .add true (.op .mod true (.v 0) (.k (.int 2147483647))) (.k (.int 11))) (.k (.int 48271))) (.k (.int 69621))) (.k (.int 2147483629))) [some (.int c)] M=.ok (.int (mixed c)) M:=by
  simp [qI,gw,small,mixed]
 rw [<- Cr]
 exact aQ fn19 rfl (bq e) (au rfl rfl)
theorem LM {a b:Int} {fz:Bool} (he:ev Φ e σ M=.ok (.int a) M1) (hx:ev Φ e' σ M1=.ok (.int b) M2) (hb:0<b):ev Φ (.op .mod fz e e') σ M=.ok (.int (a % b)) M2:=by
 rw [kX,he,R.aa,hx,R.aa]
 simp only [qI,gw,decide_eq_true hb,if_true]
theorem LS {a b:Int} {fz:Bool} (he:ev Φ e σ M=.ok (.int a) M1) (hx:ev Φ e' σ M1=.ok (.int b) M2) (hb:0<b) (hs:b.natAbs<1073741824):ev Φ (.op .fdiv fz e e') σ M=.ok (.int (a / b)) M2:=by
 rw [kX,he,R.aa,hx,R.aa]
 simp only [qI,gw,decide_eq_true hb,decide_eq_true hs,Bool.and_self,if_true]
theorem sI {a b:Nat} {fz:Bool} (he:ev Φ e σ M=.ok (.int (a:Int)) M1) (hx:ev Φ e' σ M1=.ok (.int (b:Int)) M2) (hb:0<b):ev Φ (.op .mod fz e e') σ M=.ok (.int ((a % b:Nat):Int)) M2:=by
 rw [LM he hx (by omega),Int.natCast_emod]
theorem Ir {a b:Nat} {fz:Bool} (he:ev Φ e σ M=.ok (.int (a:Int)) M1) (hx:ev Φ e' σ M1=.ok (.int (b:Int)) M2) (hb:0<b) (hs:b<1073741824):ev Φ (.op .fdiv fz e e') σ M=.ok (.int ((a / b:Nat):Int)) M2:=by
 rw [LS he hx (by omega) (by omega),Int.natCast_ediv]
theorem Ae {a b:Nat} {fz:Bool} (he:ev Φ e σ M=.ok (.int (a:Int)) M1) (hx:ev Φ e' σ M1=.ok (.int (b:Int)) M2):ev Φ (.op .add fz e e') σ M=.ok (.int ((a+b:Nat):Int)) M2:=by
 rw [fY he hx];rfl
theorem LR {a b:Nat} (he:ev Φ e σ M=.ok (.int (a:Int)) M1) (hx:ev Φ e' σ M1=.ok (.int (b:Int)) M2):ev Φ (.cmp .eq e e') σ M=.ok (.bl (decide (a=b))) M2:=by
 rw [c6,he,R.aa,hx,R.aa]
 have:decide ((a:Int)=(b:Int))=decide (a=b):=by
  by_cases h:a=b
  ·simp [h]
  ·rw [decide_eq_false h,decide_eq_false (by omega)]
 simp only [bJ,w5,NN,top,cE,Fg.plain,dep,Bool.and_self,Nat.zero_le,decide_true,Bool.or_self,if_true,qj,this]
theorem LP {a b:Nat} (he:ev Φ e σ M=.ok (.int (a:Int)) M1) (hx:ev Φ e' σ M1=.ok (.int (b:Int)) M2):ev Φ (.cmp .gt e e') σ M=.ok (.bl (decide (b<a))) M2:=by
 refine qp he hx ?_
 by_cases h:b<a
 ·rw [decide_eq_true h,decide_eq_true (by omega)]
 ·rw [decide_eq_false h,decide_eq_false (by omega)]
theorem Ip {x:Bool} (h:ev Φ e σ M=.ok (.bl x) M):ev Φ (.qJ .int e) σ M=.ok (.int ((if x then 1 else 0:Nat):Int)) M:=by
 rw [zZ,h,R.aa];cases x <;> rfl
theorem vI {n:Nat}:gq 0 (n:Int)=nats (List.range n):=by simp [gq,nats]
theorem Im {n:Nat} (he:ev Φ e σ M=.ok (.int (n:Int)) M1) (hn:n<=1000000):aJ Φ (.eE e) σ M=.ok (.ak,nats (List.range n),false) M1:=by
 rw [<- vI,C5,he,R.aa]
 simp only [uh hn,if_true]
theorem e_or {x y:Bool} (h:ev Φ e σ M=.ok (.bl x) M) (h':x=false->ev Φ e' σ M=.ok (.bl y) M):ev Φ (.or e e') σ M=.ok (.bl (x||y)) M:=by
 rw [Lx,h,R.aa]
 cases x with
 | true=>rfl
 | false=>exact h' rfl
theorem LU {o:AJ} {a b c:D} (he:ev Φ e σ M=.ok a M) (hx:ev Φ e' σ M=.ok b M) (h:bJ o M a b=.ok c M):ev Φ (.cmp o e e') σ M=.ok c M:=by
 rw [c6,he,R.aa,hx,R.aa];exact h
end
mutual
theorem qi:∀ (d:D),Fg.plain d=true->aH d d=true
 | .ak,_=>by simp
 | .bl _,h=>by simp [Fg.plain] at h
 | .int _,_=>by simp
 | .str _,_=>by simp
 | .tup ds,h=>by simp only [Fg.plain] at h;rw [qh];exact jo ds h
 | .lst ds,h=>by simp only [Fg.plain] at h;rw [jH];exact jo ds h
 | .dct _ _,h=>by simp [Fg.plain] at h
 | .ref _,h=>by simp [Fg.plain] at h
theorem jo:∀ (ds:List D),aL ds=true->dR ds ds=true
 | [],_=>by simp
 | d::ds,h=>by
  simp only [aL,Bool.and_eq_true] at h
  rw [C8,qi d h.1,jo ds h.2];rfl
end
theorem Co {M:MH} {a:D} (h1:w5 a a=none) (ht:top M a=a) (hp:Fg.plain a=true) (hd:dep a<=100):bJ .ne M a a=.ok (.bl false) M:=by
 have hc:cE a a=true:=by simp only [cE,hp,decide_eq_true hd,Bool.and_self,Bool.or_self]
 simp only [bJ,h1,AN,ht,hc,if_true,qi a hp,Bool.not_true]
theorem zy:∀ (is:List Int),aL (is.map D.int)=true/\deps (is.map D.int)<=0
 | []=>by simp [aL,deps]
 | i::is=>by
  obtain ⟨h1,h2⟩:=zy is
  simp only [List.map_cons,aL,deps,Fg.plain,dep,h1,Bool.and_self,true_and];omega
end bD
end
section
namespace bD
open Fg PySem
inductive Oc (α:Type) where
 | ok (a:α) (b:Int)
 | ex (c:Nat)
noncomputable def Oc.bind {α β:Type} (o:Oc α) (g:α->Int->Oc β):Oc β:=match o with
 | .ok a b=>g a b
 | .ex c=>.ex c
theorem Oc.bind_assoc {α β γ:Type} (o:Oc α) (g:α->Int->Oc β) (h:β->Int->Oc γ):(o.bind g).bind h=o.bind fun a b=>(g a b).bind h:=by cases o <;> rfl
theorem Oc.aa {α:Type} (o:Oc α):o.bind (fun a b=>.ok a b)=o:=by cases o <;> rfl
noncomputable def p2 (a b:Pt):bU:=.cons a (.cons b .nil)
noncomputable def p1 (a:Pt):bU:=.cons a .nil
noncomputable def fQ:List Int->D
 | []=>.ak
 | i::is=>.tup [.str (layW true),.int (1+gG (.int i)+gG (fQ is)),.int i,fQ is]
theorem nJ:∀ is:List Int,gG (fQ is)=1+2*(is.length:Int)
 | []=>rfl
 | i::is=>by
  have:=nJ is
  show 1+gG (.int i)+gG (fQ is)=_
  rw [this,List.length_cons]
  show 1+1+(1+2*(is.length:Int))=_
  omega
theorem rX:∀ is:List Int,is.length<=499->(∀ i∈is,mid i=true)->Vl (fQ is)
 | [],_,_=>.ak
 | i::is,h,hm=>by
  simp only [List.length_cons] at h
  have hs:=nJ is
  have h1:gG (.int i)=1:=rfl
  exact .cell (by rw [hs,h1];omega) (by rw [hs,h1];omega) (.int (hm i List.mem_cons_self)) (rX is (by omega) fun j hj=>hm j (List.mem_cons_of_mem _ hj))
theorem uy:∀ is:List Int,Jo (Tl 1) (fQ is) (is.map D.int)
 | []=>.nil
 | i::is=>.cons (.inl ⟨i,rfl,rfl⟩) (uy is)
theorem GY {is:List Int} (h:is.length<=499):Tl 2 (fQ is) (.lst (is.map D.int)):=.inr (.inr ⟨_,rfl,by simp;omega,uy is⟩)
theorem pY {kvs:Env} {k:Ky} {v:D}:look (put kvs k v) k=some v:=by
 unfold put look
 split
 ·rename_i h
  induction kvs with
  | nil=>simp at h
  | cons q kvs ih =>
   rw [List.map_cons]
   by_cases hq:q.1=k
   ·simp [hq]
   ·rw [if_neg hq,List.find?_cons_of_neg (by simpa using hq)]
    exact ih (by simpa [hq] using h)
 ·rename_i h
  have hn:kvs.find? (fun kv=>decide (kv.1=k))=none:=by
   rw [List.find?_eq_none]
   intro x hx hk
   exact h (List.any_eq_true.mpr ⟨x,hx,hk⟩)
  rw [List.find?_append,hn]
  simp
section
variable {α β γ:Type} {fs:List Fd} {m b u:Int} {env:Env} {val:α->D} {gd:α->Prop} {kq:β->D} {CL:β->Prop} {xq:γ->D} {Lg:γ->Prop}
noncomputable def bH (val:α->D) (gd:α->Prop) (fs:List Fd) (m:Int) (env:Env) (b u:Int) (p:Pt) (N:Nat):Oc α->Prop
 | .ok a b'=>gd a/\∃ n,n<=N/\Ev fs m env b u (.p p) n [val a] b'
 | .ex c=>∃ n,n<=N/\kh fs m env b u (.p p) n c
theorem bH.le {p:Pt} {N N':Nat} {o:Oc α} (h:bH val gd fs m env b u p N o) (hn:N<=N'):bH val gd fs m env b u p N' o:=by
 cases o with
 | ok a b'=>obtain ⟨g,n,h1,h2⟩:=h;exact ⟨g,n,Nat.le_trans h1 hn,h2⟩
 | ex c=>obtain ⟨n,h1,h2⟩:=h;exact ⟨n,Nat.le_trans h1 hn,h2⟩
theorem bH.let {p r:Pt} {x:Str} {N N2:Nat} {o:Oc α} {g:α->Int->Oc β} (he:env.length<1000) (h:bH val gd fs m env b u p N o) (h2:∀ a b,gd a->bH kq CL fs m (put env (.inr x) (val a)) b u r N2 (g a b)):bH kq CL fs m env b u (.lt x p r) (N+N2+2) (o.bind g):=by
 cases o with
 | ok a b' =>
  obtain ⟨ga,n,h1,e⟩:=h
  have q:=h2 a b' ga
  show bH _ _ _ _ _ _ _ _ _ (g a b')
  revert q
  cases g a b' with
  | ok a2 b2=>rintro ⟨g2,n2,h3,e2⟩;exact ⟨g2,n+n2+2,by omega,.lt he e e2⟩
  | ex c=>rintro ⟨n2,h3,e2⟩;exact ⟨n+n2+2,by omega,.lt2 he e e2⟩
 | ex c=>obtain ⟨n,h1,e⟩:=h;exact ⟨n+1,by omega,.lt1 e⟩
theorem bH.call {p:Pt} {z x:Str} {kd:Kd} {f:Fd} {N N2:Nat} {o:Oc α} {g:α->Int->Oc β} (hf:fs.find? (fun g=>decide (g.nm=z))=some f) (ht:f.tk=[(x,kd)]) (h:bH val gd fs m env b u p N o)
  (h2:∀ a b,gd a->u+1<=12->bH kq CL fs m [(.inr x,val a)] b (u+1) f.bd N2 (g a b)):bH kq CL fs m env b u (.call z (p1 p)) (N+N2+4) (o.bind fun a b=>if m<b+1 then .ex 4 else if 12<u+1 then .ex 5 else g a (b+1)):=by
 have h8:(p1 p).ds.length<=8:=by simp [p1,bU.ds]
 cases o with
 | ok a b' =>
  obtain ⟨ga,n,h1,e⟩:=h
  have ea:Ev fs m env b u (.ps (p1 p)) (n+0) [val a] b':=.cons e .pS
  show bH _ _ _ _ _ _ _ _ _ (if m<b'+1 then .ex 4 else if 12<u+1 then .ex 5 else g a (b'+1))
  by_cases hm:m<b'+1
  ·rw [if_pos hm]
   exact ⟨n+0+2,by omega,.long h8 ea hm⟩
  ·rw [if_neg hm]
   by_cases hu:12<u+1
   ·rw [if_pos hu]
    exact ⟨n+0+2,by omega,.deep h8 ea (by omega) hu⟩
   ·rw [if_neg hu]
    have q:=h2 a (b'+1) ga (by omega)
    have ee:envOf [] (f.tk.map (·.1)) [val a]=[(.inr x,val a)]:=by rw [ht];rfl
    revert q
    cases g a (b'+1) with
    | ok a2 b2=>rintro ⟨g2,n2,h3,e2⟩;exact ⟨g2,n+0+n2+3,by omega,.call h8 ea (by omega) (by omega) hf (by rw [ht];simp) (by rw [ee];exact e2)⟩
    | ex c=>rintro ⟨n2,h3,e2⟩;exact ⟨n+0+n2+2,by omega,.call2 h8 ea (by omega) (by omega) hf (by rw [ht];simp) (by rw [ee];exact e2)⟩
 | ex c=>obtain ⟨n,h1,e⟩:=h;exact ⟨n+1+1,by omega,.ET h8 (.head (by simp [bU.ds]) e)⟩
theorem bH.two {o':Op} {p q:Pt} {N N2:Nat} {o:Oc α} {g:α->Int->Oc β} {f:α->β->Int->Oc γ} (h:bH val gd fs m env b u p N o) (h2:∀ a b',o=.ok a b'->gd a->bH kq CL fs m env b' u q N2 (g a b'))
  (hc:∀ a a2 b,gd a->CL a2->(∃ v,f a a2 b=.ok v b/\Lg v/\fh o' [val a,kq a2] (.ok (xq v)))\/∃ c,f a a2 b=.ex c/\fh o' [val a,kq a2] (.exc c)) :
  bH xq Lg fs m env b u (.op o' (p2 p q)) (N+N2+4) (o.bind fun a b=>(g a b).bind fun a2 b2=>f a a2 b2):=by
 have h8:(p2 p q).ds.length<=8:=by simp [p2,bU.ds]
 have h9:(bU.cons q .nil).ds.length<=8:=by simp [bU.ds]
 cases o with
 | ok a b' =>
  obtain ⟨ga,n,h1,e⟩:=h
  have qq:=h2 a b' rfl ga
  show bH _ _ _ _ _ _ _ _ _ ((g a b').bind _)
  revert qq
  cases g a b' with
  | ok a2 b2 =>
   rintro ⟨g2,n2,h3,e2⟩
   have ea:Ev fs m env b u (.ps (p2 p q)) (n+(n2+0)) [val a,kq a2] b2:=.cons e (.cons e2 .pS)
   show bH _ _ _ _ _ _ _ _ _ (f a a2 b2)
   rcases hc a a2 b2 ga g2 with ⟨v,e3,g3,c3⟩ | ⟨c,e3,c3⟩
   ·rw [e3];exact ⟨g3,n+(n2+0)+2,by omega,.op h8 ea c3⟩
   ·rw [e3];exact ⟨n+(n2+0)+2,by omega,.qI h8 ea c3⟩
  | ex c=>rintro ⟨n2,h3,e2⟩;exact ⟨n+(n2+1)+1,by omega,.MS h8 (.tail h9 e (.head (by simp [bU.ds]) e2))⟩
 | ex c=>obtain ⟨n,h1,e⟩:=h;exact ⟨n+1+1,by omega,.MS h8 (.head h9 e)⟩
theorem bH.one {o':Op} {p:Pt} {N:Nat} {o:Oc α} {f:α->β} (h:bH val gd fs m env b u p N o) (hc:∀ a,gd a->CL (f a)/\fh o' [val a] (.ok (kq (f a)))):bH kq CL fs m env b u (.op o' (p1 p)) (N+3) (o.bind fun a b=>.ok (f a) b):=by
 have h8:(p1 p).ds.length<=8:=by simp [p1,bU.ds]
 cases o with
 | ok a b' =>
  obtain ⟨ga,n,h1,e⟩:=h
  obtain ⟨g2,c⟩:=hc a ga
  exact ⟨g2,n+0+2,by omega,.op h8 (.cons e .pS) c⟩
 | ex c=>obtain ⟨n,h1,e⟩:=h;exact ⟨n+1+1,by omega,.MS h8 (.head (by simp [bU.ds]) e)⟩
theorem bH.ite {c q r:Pt} {i:Int} {N N2:Nat} {o:Oc α} {n:Nat} (h:Ev fs m env b u (.p c) n [.int i] b) (hn:n<=N) (h2:bH val gd fs m env b u (if i=0 then r else q) N2 o):bH val gd fs m env b u (.ite c q r) (N+N2+2) o:=by
 cases o with
 | ok a b'=>obtain ⟨g,n2,h1,e⟩:=h2;exact ⟨g,n+n2+2,by omega,.ite h e⟩
 | ex c=>obtain ⟨n2,h1,e⟩:=h2;exact ⟨n+n2+2,by omega,.K5 h e⟩
end
end bD
end
section
namespace bD
open Fg PySem
noncomputable def lG (xs:List Int):Prop:=xs.length<=499/\∀ i∈xs,mid i=true
noncomputable def jc (N:Nat) (p:Pt):Nat->Pt
 | 0=>p
 | j+1=>.op (.lay true) (p2 (.num ((N:Int)-(j:Int))) (jc N p j))
noncomputable def ES (i:Int) (xs:List Int) (b:Int):Oc (List Int):=if 500<=xs.length+1 then .ex 2 else .ok (i::xs) b
noncomputable def gr (N:Nat):Nat->Oc (List Int)->Oc (List Int)
 | 0,o=>o
 | j+1,o=>(gr N j o).bind (ES ((N:Int)-(j:Int)))
noncomputable def iI (z:Str) (p:Pt):Nat->Pt
 | 0=>p
 | j+1=>.call z (p1 (iI z p j))
noncomputable def Au (m:Int) (g:List Int->Int->Oc (List Int)) (o:Oc (List Int)):Oc (List Int):=o.bind fun a b=>if m<b+1 then .ex 4 else g a (b+1)
noncomputable def jd (m:Int) (g:List Int->Int->Oc (List Int)):Nat->Oc (List Int)->Oc (List Int)
 | 0,o=>o
 | j+1,o=>Au m g (jd m g j o)
noncomputable def kL:Kd:=.list .num
noncomputable def e8:Fd:=⟨w "eight", [(w "l", kL)], kL, jc 8 (.lJ (w "l")) 8⟩
noncomputable def kI:Fd:=⟨w "more", [(w "l", kL)], kL, iI (w "eight") (.lJ (w "l")) 7⟩
noncomputable def Ml (many few:Nat):Pt:=.lt (w "b") (iI (w "eight") (.lJ (w "a")) many) (jc few (.lJ (w "b")) few)
noncomputable def kJ (many few:Nat):Fd:=⟨w "main", [], kL, .lt (w "a") (iI (w "more") (.nil .num) 8) (Ml many few)⟩
noncomputable def wo (many few:Nat):List Fd:=[kJ many few,e8,kI]
noncomputable def g8 (xs:List Int) (b:Int):Oc (List Int):=gr 8 8 (.ok xs b)
noncomputable def gM (m:Int) (xs:List Int) (b:Int):Oc (List Int):=jd m g8 7 (.ok xs b)
noncomputable def vK (m:Int) (many few:Nat):Oc (List Int):=(jd m (gM m) 8 (.ok [] 0)).bind fun xs b=>(jd m g8 many (.ok xs b)).bind fun xs b=>gr few few (.ok xs b)
theorem iJ {i:Int} (h:i.natAbs<=1000000):mid i=true:=by
 unfold mid
 exact decide_eq_true (Nat.lt_of_le_of_lt h (by decide +kernel))
section
variable {fs:List Fd} {m b u:Int} {env:Env}
theorem yr {N:Nat} (hN:N<=8) {p:Pt} {S:Nat} {o:Oc (List Int)} (h:bH fQ lG fs m env b u p S o):∀ j,j<=N->bH fQ lG fs m env b u (jc N p j) (S+5*j) (gr N j o)
 | 0,_=>h
 | j+1, hj=>by
  have ih:=yr hN h j (by omega)
  have h1:bH D.int (fun i=>i=(N:Int)-(j:Int)) fs m env b u (.num ((N:Int)-(j:Int))) 1 (.ok ((N:Int)-(j:Int)) b):=⟨rfl,1,by omega,.num⟩
  have q:=bH.two (o':=.lay true) (Lg:=lG) (xq:=fQ) (g:=fun _ _=>gr N j o) (f:=fun a xs b=>ES a xs b) h1 (fun a b' e ga=>by cases e;exact ih) (fun a xs b' ga gx=>by
   have hz:=nJ xs
   have hv:Vl (fQ xs):=rX xs gx.1 gx.2
   have ha:mid a=true:=iJ (by subst ga;omega)
   have hi:gG (.int a)=1:=rfl
   have hc:=fh.lay (c:=true) (a:=.int a) (b:=fQ xs) (.int ha) hv
   unfold ES
   by_cases h5:500<=xs.length+1
   ·rw [if_pos h5]
    rw [if_pos (by rw [hz,hi];omega)] at hc
    exact .inr ⟨2,rfl,hc⟩
   ·rw [if_neg h5]
    rw [if_neg (by rw [hz,hi];omega)] at hc
    exact .inl ⟨a::xs,rfl,⟨by rw [List.length_cons];omega,fun i hi=>by
     rcases List.mem_cons.mp hi with rfl | hi
     ·exact ha
     ·exact gx.2 i hi⟩,hc⟩)
  have e:gr N (j+1) o=(Oc.ok ((N:Int)-(j:Int)) b:Oc Int).bind fun a b=>(gr N j o).bind fun xs b2=>ES a xs b2:=rfl
  rw [e]
  exact bH.le q (by omega)
theorem uq {z x:Str} {kd:Kd} {f:Fd} {g:List Int->Int->Oc (List Int)} {Nb S:Nat} {p:Pt} {o:Oc (List Int)} (hu:u+1<=12) (hf:fs.find? (fun g=>decide (g.nm=z))=some f) (ht:f.tk=[(x,kd)]) (hb:∀ xs b,lG xs->bH fQ lG fs m [(.inr x,fQ xs)] b (u+1) f.bd Nb (g xs b)) (h:bH fQ lG fs m env b u p S o) :
  ∀ j,bH fQ lG fs m env b u (iI z p j) (S+j*(Nb+4)) (jd m g j o)
 | 0=>h.le (by omega)
 | j+1=>by
  have ih:=uq hu hf ht hb h j
  have q:=bH.call (g:=g) hf ht ih fun a b ga _=>hb a b ga
  have e:(fun (a:List Int) (b:Int)=>if m<b+1 then Oc.ex 4 else if 12<u+1 then Oc.ex 5 else g a (b+1))=fun a b=>if m<b+1 then Oc.ex 4 else g a (b+1):=by
   funext a b
   rw [if_neg (show ¬ 12<u+1 by omega)]
  rw [e] at q
  exact q.le (by rw [Nat.add_mul];omega)
theorem uu {x:Str} {xs:List Int} (h:look env (.inr x)=some (fQ xs)) (g:lG xs):bH fQ lG fs m env b u (.lJ x) 1 (.ok xs b):=⟨g,1,by omega,.lJ h⟩
end
section
variable {m b u:Int} {many few:Nat}
theorem uH:(wo many few).find? (fun g=>decide (g.nm=w "eight"))=some e8:=by
 have h1:decide ((kJ many few).nm=w "eight")=false:=by show decide (w "main" = w "eight")=false;decide +kernel
 rw [wo,List.find?_cons,h1]
 rfl
theorem Ia:(wo many few).find? (fun g=>decide (g.nm=w "more"))=some kI:=by
 have h1:decide ((kJ many few).nm=w "more")=false:=by show decide (w "main" = w "more")=false;decide +kernel
 have h2:decide (e8.nm=w "more")=false:=by show decide (w "eight" = w "more")=false;decide +kernel
 rw [wo,List.find?_cons,h1,List.find?_cons,h2]
 rfl
theorem uO {xs:List Int} (h:lG xs):bH fQ lG (wo many few) m [(.inr (w "l"), fQ xs)] b u e8.bd 41 (g8 xs b) :=
 yr (by omega) (uu (by simp [look]) h) 8 (by omega)
theorem GS {xs:List Int} (hu:u+1<=12) (h:lG xs):bH fQ lG (wo many few) m [(.inr (w "l"), fQ xs)] b u kI.bd 316 (gM m xs b) :=
 uq hu uH rfl (fun xs b h=>uO h) (uu (by simp [look]) h) 7
theorem J1 (hm:many<=7) (hf:few<=7):bH fQ lG (wo many few) m [] 0 0 (kJ many few).bd 4000 (vK m many few):=by
 have h1:bH fQ lG (wo many few) m [] 0 0 (iI (w "more") (.nil .num) 8) (1+8*(316+4)) (jd m (gM m) 8 (.ok [] 0)):=uq (u:=0) (by decide) Ia rfl (fun xs b h=>GS (by decide) h) (p:=.nil .num) (S:=1) (o:=.ok [] 0) ⟨⟨by simp, by simp⟩, 1, by omega, .nil⟩ 8
 refine bH.le (bH.let (g:=fun xs b=>(jd m g8 many (.ok xs b)).bind fun xs b=>gr few few (.ok xs b)) (N2:=1+many*(41+4)+(1+5*few)+2) (x:=w "a") (by simp) h1 fun xs b gx=>?_) (by omega)
 refine bH.let (x:=w "b") (by show (put [] (.inr (w "a")) (fQ xs)).length<1000;exact Nat.lt_of_le_of_lt BQ (by simp)) (uq (u:=0) (by decide) uH rfl (fun xs b h=>uO h) (uu pY gx) many) fun ys b gy=>?_
 exact yr (by omega) (uu pY gy) few (by omega)
noncomputable def stp (m:Int) (o:Oc (List Int)) (k:Nat):Oc (List Int):=o.bind fun xs b=>if m<b+1 then .ex 4 else if 64<=k\/0<k % 8 then gr 8 8 (.ok xs (b+1)) else .ok xs (b+1)
noncomputable def Ah (m:Int) (many few:Nat):Oc (List Int):=((List.range (64+many)).foldl (stp m) (.ok [] 0)).bind fun xs b=>gr few few (.ok xs b)
theorem jw {k:Nat} {o:Oc (List Int)} (h:64<=k\/0<k % 8):stp m o k=Au m g8 o:=by
 unfold stp Au g8
 congr 1
 funext xs b
 rw [if_pos h]
theorem iz {c:Nat}:∀ ks:List Nat,ks.foldl (stp m) (.ex c)=.ex c
 | []=>rfl
 | k::ks=>iz ks
theorem jv {i:Nat} (hi:i<8) {o:Oc (List Int)}:[8*i,8*i+1,8*i+2,8*i+3,8*i+4,8*i+5,8*i+6,8*i+7].foldl (stp m) o=Au m (gM m) o:=by
 cases o with
 | ex c=>exact iz _
 | ok xs b =>
  have e0:stp m (.ok xs b) (8*i)=if m<b+1 then .ex 4 else .ok xs (b+1):=by
   unfold stp
   show (if m<b+1 then Oc.ex 4 else if 64<=8*i\/0<8*i % 8 then gr 8 8 (.ok xs (b+1)) else .ok xs (b+1))=_
   rw [if_neg (show ¬ (64<=8*i\/0<8*i % 8) by omega)]
  rw [List.foldl_cons,e0]
  show _=if m<b+1 then Oc.ex 4 else gM m xs (b+1)
  by_cases h:m<b+1
  ·rw [if_pos h,if_pos h];exact iz _
  ·rw [if_neg h,if_neg h]
   simp only [List.foldl_cons,List.foldl_nil]
   rw [jw (by omega),jw (by omega),jw (by omega),jw (by omega),jw (by omega),jw (by omega),jw (by omega)]
   rfl
theorem r64:List.range 64=[8*0,8*0+1,8*0+2,8*0+3,8*0+4,8*0+5,8*0+6,8*0+7]++([8*1,8*1+1,8*1+2,8*1+3,8*1+4,8*1+5,8*1+6,8*1+7]++([8*2,8*2+1,8*2+2,8*2+3,8*2+4,8*2+5,8*2+6,8*2+7]++([8*3,8*3+1,8*3+2,8*3+3,8*3+4,8*3+5,8*3+6,8*3+7] ++
 ([8*4,8*4+1,8*4+2,8*4+3,8*4+4,8*4+5,8*4+6,8*4+7]++([8*5,8*5+1,8*5+2,8*5+3,8*5+4,8*5+5,8*5+6,8*5+7]++([8*6,8*6+1,8*6+2,8*6+3,8*6+4,8*6+5,8*6+6,8*6+7]++[8*7,8*7+1,8*7+2,8*7+3,8*7+4,8*7+5,8*7+6,8*7+7])))))):=by decide +kernel
theorem s64 {o:Oc (List Int)}:(List.range 64).foldl (stp m) o=jd m (gM m) 8 o:=by
 rw [r64]
 simp only [List.foldl_append]
 rw [jv (by decide),jv (by decide),jv (by decide),jv (by decide),jv (by decide),jv (by decide),jv (by decide),jv (by decide)]
 rfl
theorem yd {o:Oc (List Int)}:∀ n,(List.range' 64 n).foldl (stp m) o=jd m g8 n o
 | 0=>rfl
 | n+1=>by
  rw [List.range'_concat,List.foldl_append,yd n]
  simp only [List.foldl_cons,List.foldl_nil]
  rw [jw (.inl (by omega))]
  rfl
theorem mC {g:List Int->Int->Oc (List Int)} (o:Oc (List Int)):∀ n,jd m g n o=o.bind fun xs b=>jd m g n (.ok xs b)
 | 0=>by cases o <;> rfl
 | n+1=>by
  show Au m g (jd m g n o)=_
  rw [mC o n]
  cases o <;> rfl
theorem Dh:Ah m many few=vK m many few:=by
 unfold Ah vK
 have:List.range (64+many)=List.range 64++List.range' 64 many:=by
  rw [List.range_eq_range',List.range_eq_range',List.range'_append (s:=0) (m:=64) (n:=many) (step:=1) |>.symm]
 rw [this,List.foldl_append,s64,yd,mC,Oc.bind_assoc]
end
end bD
end
section
namespace bD
open Fg PySem
noncomputable def uG (_:Unit):Prop:=True
noncomputable def wY (p:Pt):Pt:=.call (w "down") (p1 p)
noncomputable def nN:Pt:=.lJ (w "n")
noncomputable def lsN:Pt:=.op (.rk .less) (p2 nN (.num 1))
noncomputable def AO:Pt:=.op (.rk .minus) (p2 nN (.num 1))
noncomputable def bT:Fd:=⟨w "down", [(w "n", .num)], kL, .ite lsN (.nil .num) (.op (.lay true) (p2 nN (wY AO)))⟩
noncomputable def GQ:Pt:=.op .none (p1 (wY nN))
noncomputable def b6 (p:Pt):Nat->Pt
 | 0=>p
 | j+1=>.op (.rk .plus) (p2 p (b6 p j))
noncomputable def fc:Fd:=⟨w "block", [(w "n", .num)], .num, b6 GQ 6⟩
noncomputable def EW:Pt:=.call (w "block") (p1 (.lJ (w "u")))
noncomputable def pX (n:Nat):Fd:=⟨w "main", [(w "u", .num)], .num, b6 EW n⟩
noncomputable def lK (n:Nat):List Fd:=[bT,fc,pX n]
noncomputable def wB:Nat->List Int
 | 0=>[]
 | t+1=>((t+1:Nat):Int)::wB t
theorem n9:∀ t,(wB t).length=t
 | 0=>rfl
 | t+1=>by rw [wB,List.length_cons,n9 t]
theorem uW:∀ t,t<=1000->∀ i∈wB t,mid i=true
 | 0,_,i,h=>by simp [wB] at h
 | t+1,ht,i,h=>by
  rcases List.mem_cons.mp h with rfl | h
  ·exact iJ (by omega)
  ·exact uW t (by omega) i h
noncomputable def dB (m:Int):Nat->Int->Int->Oc Unit
 | 0,_,b=>.ok () b
 | t+1,u,b=>if m<b+1 then .ex 4 else if 12<u+1 then .ex 5 else dB m t (u+1) (b+1)
noncomputable def gU (g:Int->Oc Unit):Nat->Int->Oc Unit
 | 0,b=>.ok () b
 | n+1,b=>(g b).bind fun _ b=>gU g n b
noncomputable def AB (m:Int) (t:Nat) (b:Int):Oc Unit:=gU (fun b=>dB m (t+1) 1 b) 7 b
noncomputable def rE (m:Int) (t many:Nat):Oc Unit:=gU (fun b=>if m<b+1 then .ex 4 else AB m t (b+1)) many 0
noncomputable def zN (t:Nat):Int:=if t=0 then 1 else 0
theorem CK {i:Int} (h:i.natAbs<=1000000):great i=false:=by
 unfold great Mm
 exact decide_eq_false (fun q=>by
  have:(10:Int) ^ 60=((10 ^ 60:Nat):Int):=by decide +kernel
  rw [this] at q
  have h2:10 ^ 60<=i.natAbs:=Int.ofNat_le.mp q
  exact absurd (Nat.le_trans h2 h) (by decide +kernel))
section
variable {m b u:Int} {n:Nat} {env:Env} {fs:List Fd}
theorem nk {o:Rk} {a c:Int} (ha:a.natAbs<=1000) (hc:c.natAbs<=1000) (hs:(BL o a c).natAbs<=1000000):fh (.rk o) [.int a,.int c] (.ok (.int (BL o a c))):=by
 have:=fh.rk (o:=o) (a:=a) (b:=c) (iJ (by omega)) (iJ (by omega))
 rw [show Jd o a c=false by unfold Jd;rw [CK hs,Bool.and_false]] at this
 exact this
theorem uv {i:Int}:Ev fs m [(.inr (w "n"), .int i)] b u (.p nN) 1 [.int i] b:=.lJ (by simp [look])
theorem Ic:(lK n).find? (fun g=>decide (g.nm=w "down"))=some bT:=by
 rw [lK,List.find?_cons]
 rfl
theorem CU:(lK n).find? (fun g=>decide (g.nm=w "block"))=some fc:=by
 have h1:decide (bT.nm=w "block")=false:=by show decide (w "down" = w "block")=false;decide +kernel
 rw [lK,List.find?_cons,h1]
 rfl
theorem Ib:(lK n).find? (fun g=>decide (g.nm=w "main"))=some (pX n):=by
 have h1:decide (bT.nm=w "main")=false:=by show decide (w "down" = w "main")=false;decide +kernel
 have h2:decide (fc.nm=w "main")=false:=by show decide (w "block" = w "main")=false;decide +kernel
 rw [lK,List.find?_cons,h1,List.find?_cons,h2]
 rfl
theorem CT {many few:Nat}:(wo many few).find? (fun g=>decide (g.nm=w "main"))=some (kJ many few):=by
 rw [wo,List.find?_cons]
 rfl
theorem EM {i:Int} {t:Nat} {p:Pt} {S N:Nat} (hp:Ev (lK n) m env b u (.p p) S [.int i] b) (h:∀ b u, bH (fun _:Unit=>fQ (wB t)) uG (lK n) m [(.inr (w "n"), .int i)] b u bT.bd N (dB m t u b)) :
  bH (fun _:Unit=>fQ (wB t)) uG (lK n) m env b u (wY p) (S+N+4) (dB m (t+1) u b) :=
 bH.call (val:=D.int) (gd:=fun j=>j=i) (g:=fun _ b=>dB m t (u+1) b) (o:=.ok i b) Ic rfl ⟨rfl,S,Nat.le_refl _,hp⟩ fun a b ga _=>by
  subst ga
  exact h b (u+1)
theorem Ai:∀ (t:Nat) (i:Int), i.toNat=t->t<=100->i.natAbs<=100->∀ b u, bH (fun _:Unit=>fQ (wB t)) uG (lK n) m [(.inr (w "n"), .int i)] b u bT.bd (30*t+30) (dB m t u b)
 | t, i, hi, ht, ha, b, u=>by
  have hl:Ev (lK n) m [(.inr (w "n"), .int i)] b u (.p lsN) (1+(1+0)+2) [.int (if i<1 then 1 else 0)] b:=.op (by simp [p2, bU.ds]) (.cons uv (.cons .num .pS)) (nk (o:=.less) (by omega) (by decide) (by show (if i<1 then (1:Int) else 0).natAbs<=_;split <;> decide))
  refine bH.le (N:=4+(30*t+20)+2) (bH.ite hl (by omega) ?_) (by omega)
  cases t with
  | zero =>
   rw [if_pos (show i<1 by omega)]
   exact ⟨trivial,1,by omega,.nil⟩
  | succ t =>
   rw [if_neg (show ¬ i<1 by omega)]
   have h1:bH D.int (fun j=>j=i) (lK n) m [(.inr (w "n"), .int i)] b u nN 1 (.ok i b):=⟨rfl, 1, by omega, uv⟩
   have hm:Ev (lK n) m [(.inr (w "n"), .int i)] b u (.p AO) (1+(1+0)+2) [.int (i-1)] b:=.op (by simp [p2, bU.ds]) (.cons uv (.cons .num .pS)) (nk (o:=.minus) (by omega) (by decide) (by show (i-1).natAbs<=_;omega))
   have h2:=EM (n:=n) (m:=m) (env:=[(.inr (w "n"), .int i)]) (b:=b) (u:=u) (t:=t) hm (fun b u=>Ai t (i-1) (by omega) (by omega) (by omega) b u)
   have q:=bH.two (o':=.lay true) (xq:=fun _:Unit=>fQ (wB (t+1))) (Lg:=uG) (g:=fun _ b=>dB m (t+1) u b) (f:=fun a x b=>.ok () b) h1 (fun a b' e ga=>by cases e;exact h2) (fun a x b' ga gx=>by
    subst ga
    have hz:=nJ (wB t)
    rw [n9] at hz
    have hi':gG (.int a)=1:=rfl
    have hc:=fh.lay (c:=true) (a:=.int a) (b:=fQ (wB t)) (.int (iJ (by omega))) (rX _ (by rw [n9];omega) (uW t (by omega)))
    rw [if_neg (by rw [hz,hi'];omega)] at hc
    have ea:a=((t+1:Nat):Int):=by omega
    refine .inl ⟨(),rfl,trivial,?_⟩
    subst ea
    exact hc)
   have e:((Oc.ok i b:Oc Int).bind fun a b=>(dB m (t+1) u b).bind fun x b2=>Oc.ok () b2)=dB m (t+1) u b:=Oc.aa _
   rw [e] at q
   exact q.le (by omega)
theorem nc_h {i:Int} {t:Nat} (hi:i.toNat=t) (ht:t<=100) (ha:i.natAbs<=100) (b u:Int):bH (fun _:Unit=>D.int (zN t)) uG (lK n) m [(.inr (w "n"), .int i)] b u GQ (30*t+40) (dB m (t+1) u b):=by
 have h:=EM (n:=n) (m:=m) (env:=[(.inr (w "n"), .int i)]) (b:=b) (u:=u) (t:=t) uv (fun b u=>Ai t i hi ht ha b u)
 have q:=bH.one (o':=.none) (kq:=fun _:Unit=>D.int (zN t)) (CL:=uG) (f:=fun a=>a) h (fun a _=>⟨trivial,by
  have:=fh.none (v:=fQ (wB t))
  rw [show (if dj (fQ (wB t))=true then (1:Int) else 0)=zN t by cases t <;> rfl] at this
  exact this⟩)
 have e:((dB m (t+1) u b).bind fun (a:Unit) b=>Oc.ok a b)=dB m (t+1) u b:=Oc.aa _
 rw [e] at q
 exact q.le (by omega)
theorem rJ {z:Int} {p:Pt} {N:Nat} {g:Int->Oc Unit} (hz:0<=z/\z<=10) (h:∀ b,bH (fun _:Unit=>D.int z) uG fs m env b u p N (g b)):∀ (j:Nat) (b:Int),j<=20->bH (fun _:Unit=>D.int (((j+1:Nat):Int)*z)) uG fs m env b u (b6 p j) ((N+4)*(j+1)) (gU g (j+1) b)
 | 0, b, _=>by
  have e:gU g (0+1) b=g b:=by
   show ((g b).bind fun (_:Unit) b=>Oc.ok () b)=_
   exact Oc.aa _
  rw [e,show (((0+1:Nat):Int)*z)=z by omega]
  exact (h b).le (by omega)
 | j+1,b,hj=>by
  have q:=bH.two (o':=.rk .plus) (xq:=fun _:Unit=>D.int (((j+1+1:Nat):Int)*z)) (Lg:=uG) (g:=fun _ b=>gU g (j+1) b) (f:=fun _ _ b=>.ok () b) (h b) (fun a b' _ _=>rJ hz h j b' (by omega)) (fun a x b' _ _=>by
   have hb:0<=((j+1:Nat):Int)*z/\((j+1:Nat):Int)*z<=210:=by
    refine ⟨Int.mul_nonneg (by omega) hz.1,Int.le_trans (Int.mul_le_mul_of_nonneg_left hz.2 (by omega)) (by omega)⟩
   have e:((j+1+1:Nat):Int)*z=z+((j+1:Nat):Int)*z:=by
    rw [show ((j+1+1:Nat):Int)=1+((j+1:Nat):Int) by omega,Int.add_mul,Int.one_mul]
   refine .inl ⟨(),rfl,trivial,?_⟩
   rw [e]
   exact nk (o:=.plus) (by omega) (by omega) (by show (z+_).natAbs<=_;omega))
  have e:((g b).bind fun (a:Unit) b=>(gU g (j+1) b).bind fun (x:Unit) b2=>Oc.ok () b2)=gU g (j+1+1) b:=by
   show _=(g b).bind fun _ b=>gU g (j+1) b
   congr 1
   funext a b
   exact Oc.aa _
  rw [e] at q
  exact q.le (by rw [show (N+4)*(j+1+1)=(N+4)*(j+1)+(N+4) from rfl];omega)
theorem xo {t:Nat}:0<=zN t/\zN t<=1:=by unfold zN;split <;> decide
theorem FP {i:Int} {t:Nat} (hi:i.toNat=t) (ht:t<=20) (ha:i.natAbs<=100) (hn:n<=4):bH (fun _:Unit=>D.int (((n+1:Nat):Int)*(7*zN t))) uG (lK n) m [(.inr (w "u"), .int i)] 0 0 (pX n).bd 30000 (rE m t (n+1)):=by
 have hb:∀ b, bH (fun _:Unit=>D.int (7*zN t)) uG (lK n) m [(.inr (w "n"), .int i)] b 1 fc.bd ((30*t+40+4)*7) (AB m t b):=fun b=>rJ (z:=zN t) (by have:=xo (t:=t);omega) (fun b=>nc_h hi (by omega) ha b 1) 6 b (by omega)
 have hc:∀ b, bH (fun _:Unit=>D.int (7*zN t)) uG (lK n) m [(.inr (w "u"), .int i)] b 0 EW (1+(30*t+40+4)*7+4) (if m<b+1 then .ex 4 else AB m t (b+1)):=fun b =>
  bH.call (val:=D.int) (gd:=fun j=>j=i) (g:=fun _ b=>AB m t b) (o:=.ok i b) CU rfl ⟨rfl,1,Nat.le_refl _,.lJ (by simp [look])⟩ fun a b ga _=>by
   subst ga
   exact hb b
 exact bH.le (rJ (z:=7*zN t) (by have:=xo (t:=t);omega) hc n 0 (by omega)) (by
  have:(1+(30*t+40+4)*7+4+4)*(n+1)<=4600*5:=Nat.mul_le_mul (by omega) (by omega)
  omega)
end
end bD
end
section
namespace bD
open Fg PySem
theorem tU {lo:Nat} {M:MH} {n:Nat}:∀ {is:List Int} {ys:List D},oG (Sh lo M n) ys (is.map D.int)->ys=is.map D.int
 | [],_,.nil=>rfl
 | i::is,y::ys,.cons h r=>by
  rw [List.map_cons,tU r]
  congr 1
  cases n with
  | zero=>exact h.elim
  | succ n =>
   rcases h with ⟨j,h1,h2⟩ | ⟨a,b,x,z,h1,h2,_⟩ | ⟨r,ys,xs,h1,h2,_⟩
   ·cases h2;exact h1
   ·cases h2
   ·cases h2
theorem FG {lo:Nat} {M:MH} {n:Nat} {is:List Int} {y:D} (h:Sh lo M n y (.lst (is.map D.int))):∃ r,y=.ref r/\lo<=r/\M[r]? = some (.lst (is.map D.int)):=by
 cases n with
 | zero=>exact h.elim
 | succ n =>
  rcases h with ⟨j,h1,h2⟩ | ⟨a,b,x,z,h1,h2,_⟩ | ⟨r,ys,xs,h1,h2,h3,h4,h5⟩
  ·cases h2
  ·cases h2
  ·cases h2
   rw [tU h5] at h4
   exact ⟨r,h1,h3,h4⟩
theorem j3 {m:Nat}:∀ (is:List Int),cG m (is.map D.int)=true
 | []=>by simp [cG]
 | i::is=>by simp [cG,nr,j3 is]
section
variable {k n:Nat} {M M0:MH} {fs:List Fd} {f:Fd} {nu:List D} {m b':Int}
theorem ye {is:List Int} (hf:fs.find? (fun g=>decide (g.nm=w "main"))=some f) (ht:f.tk.length<=1000) (h:Ev fs m (envOf [] (f.tk.map (·.1)) nu) 0 0 (.p f.bd) n [fQ is] b') (hn:n<=90000) (hl:is.length<=499) :
  (af aq (k+7)).call 10 [.lst (fs.map Fd.d),.lst nu,.int m] M0=.ok (.lst (is.map D.int)) M0:=by
 obtain ⟨T,hT⟩:=vg (k:=k) (M0:=M0) hf ht h hn
 obtain ⟨y,X,q,sh⟩:=JB (k:=k+4) 2 (fQ is) (.lst (is.map D.int)) (({ lH M0 fs f nu m with todo:=[],wt:=[],bg:=b',T:=T }:Px).h M0) (GY hl)
 rw [app] at q
 rw [hT y X q]
 obtain ⟨r,rfl,hr,hM⟩:=FG sh
 rw [app] at hM
 have hr':M0.length<=r:=by rw [len] at hr;omega
 unfold fM
 rw [if_pos ⟨rfl,qR⟩,if_neg (by simp only [nr,decide_eq_true_eq];omega)]
 simp only [hM,j3,if_true]
theorem BH {i:Int} (hf:fs.find? (fun g=>decide (g.nm=w "main"))=some f) (ht:f.tk.length<=1000) (h:Ev fs m (envOf [] (f.tk.map (·.1)) nu) 0 0 (.p f.bd) n [.int i] b') (hn:n<=90000) :
  (af aq (k+7)).call 10 [.lst (fs.map Fd.d),.lst nu,.int m] M0=.ok (.int i) M0:=by
 obtain ⟨T,hT⟩:=vg (k:=k) (M0:=M0) hf ht h hn
 have q:(af aq (k+6)).call 8 [.int i] (({ lH M0 fs f nu m with todo:=[],wt:=[],bg:=b',T:=T }:Px).h M0)=.ok (.int i) (({ lH M0 fs f nu m with todo:=[],wt:=[],bg:=b',T:=T++[] }:Px).h M0):=by
  rw [List.append_nil]
  exact aQ (P:=aq) (k:=k+5) Nu rfl (bY (x:=.int i) (M1:=Px.h _ M0) rfl rfl) rfl
 rw [hT _ _ q]
 exact iF rfl qR
noncomputable def wX (c:Nat):Str:=if c=2 then w "great" else if c=3 then w "empty" else if c=4 then w "long" else w "deep"
noncomputable def dO {α:Type} (v:α->D):Oc α->D
 | .ok a _=>.tup [.str (w ""), v a]
 | .ex c=>.tup [.str (wX c),.ak]
noncomputable def vL (xs:List Int):D:=.lst (xs.map D.int)
noncomputable def pN {α:Type} (o:Oc α):Prop:=∀ c,o=.ex c->c=2\/c=4\/c=5
theorem pN.bind {α β:Type} {o:Oc α} {g:α->Int->Oc β} (h:pN o) (hg:∀ a b,pN (g a b)):pN (o.bind g):=by
 cases o with
 | ok a b=>exact hg a b
 | ex c=>intro d e;cases e;exact h c rfl
theorem eN {α:Type} {a:α} {b:Int}:pN (.ok a b):=fun c e=>by cases e
theorem jY {N:Nat} {o:Oc (List Int)} (h:pN o):∀ j,pN (gr N j o)
 | 0=>h
 | j+1=>(jY h j).bind fun a b=>by
  unfold ES
  split
  ·intro c e;cases e;exact .inl rfl
  ·exact eN
theorem jZ {g:List Int->Int->Oc (List Int)} {o:Oc (List Int)} (h:pN o) (hg:∀ a b,pN (g a b)):∀ j,pN (jd m g j o)
 | 0=>h
 | j+1=>(jZ h hg j).bind fun a b=>by
  split
  ·intro c e;cases e;exact .inr (.inl rfl)
  ·exact hg _ _
theorem KI {many few:Nat}:pN (vK m many few) :=
 (jZ eN (fun _ _=>jZ eN (fun _ _=>jY eN 8) 7) 8).bind fun _ _=>(jZ eN (fun _ _=>jY eN 8) many).bind fun _ _=>jY eN few
theorem Ec:∀ (t:Nat) (u b:Int),pN (dB m t u b)
 | 0,_,_=>eN
 | t+1,u,b=>by
  unfold dB
  split
  ·intro c e;cases e;exact .inr (.inl rfl)
  ·split
   ·intro c e;cases e;exact .inr (.inr rfl)
   ·exact Ec t _ _
theorem nE {g:Int->Oc Unit} (h:∀ b,pN (g b)):∀ (n:Nat) (b:Int),pN (gU g n b)
 | 0,_=>eN
 | n+1,b=>(h b).bind fun _ b=>nE h n b
theorem KJ {t many:Nat}:pN (rE m t many):=nE (fun b=>by
 split
 ·intro c e;cases e;exact .inr (.inl rfl)
 ·exact nE (fun b=>Ec _ _ _) 7 _) many 0
noncomputable def hs4:Hs:=.cons [2] (.cons (.set 3 (.k (.str (w "great")))) .nil) (.cons [3] (.cons (.set 3 (.k (.str (w "empty")))) .nil) (.cons [4] (.cons (.set 3 (.k (.str (w "long")))) .nil) (.cons [5] (.cons (.set 3 (.k (.str (w "deep")))) .nil) .nil)))
variable {P N y Q:D} {M1:MH}
theorem AE (h:(af aq k).call 10 [P, N, Q] M=.ok y M) (hy:nr M.length y=true):(af aq (k+1)).call 26 [P, N, Q] M=.ok (.tup [.str (w ""), y]) M:=by
 have ec:ev (af aq k) (.call 10 (.cons (.v 0) (.cons (.v 1) (.cons (.v 2) .nil)))) [some P, some N, some Q, some (.str (w "")), some .ak] M=.ok y M:=by
  rw [bB,cY (x:=P) (M1:=M) rfl (fX (x:=N) (y:=Q) (M1:=M) (M2:=M) rfl rfl),R.aa];exact h
 have et:ex (af aq k) (.try (.cons (.set 4 (.call 10 (.cons (.v 0) (.cons (.v 1) (.cons (.v 2) .nil))))) .nil) hs4 .nil) [some P, some N, some Q, some (.str (w "")), some .ak] M=.ok (.nx [some P, some N, some Q, some (.str (w "")), some y]) M:=by
  rw [zP,av ec];rfl
 exact aQ Ll rfl ((av rfl).trans ((av rfl).trans ((i9 et).trans (bq rfl)))) (au (by simp [nr,cG,hy]) rfl)
theorem EY {c:Nat} (hc:c=2\/c=4\/c=5) (h:(af aq k).call 10 [P,N,Q] M=.exc c M):(af aq (k+1)).call 26 [P,N,Q] M=.ok (.tup [.str (wX c),.ak]) M:=by
 have sub:(af aq k).sub=aq.sub:=wL
 have ec:ev (af aq k) (.call 10 (.cons (.v 0) (.cons (.v 1) (.cons (.v 2) .nil)))) [some P, some N, some Q, some (.str (w "")), some .ak] M=.exc c M:=by
  rw [bB,cY (x:=P) (M1:=M) rfl (fX (x:=N) (y:=Q) (M1:=M) (M2:=M) rfl rfl),R.aa];exact h
 have et:ex (af aq k) (.try (.cons (.set 4 (.call 10 (.cons (.v 0) (.cons (.v 1) (.cons (.v 2) .nil))))) .nil) hs4 .nil) [some P, some N, some Q, some (.str (w "")), some .ak] M=.ok (.nx [some P, some N, some Q, some (.str (wX c)), some .ak]) M:=by
  rw [zP,FI ec,R.aa]
  show AV (af aq k) _ c _ M=_
  rw [hs4,iR,iR,iR,iR,sub]
  rcases hc with rfl | rfl | rfl <;> rfl
 exact aQ Ll rfl ((av rfl).trans ((av rfl).trans ((i9 et).trans (bq rfl)))) (au (by simp [nr,cG]) rfl)
theorem Mn {o:Oc (List Int)} {N:Nat} (hx:pN o) (hf:fs.find? (fun g=>decide (g.nm=w "main"))=some f) (ht:f.tk.length<=1000) (h:bH fQ lG fs m (envOf [] (f.tk.map (·.1)) nu) 0 0 f.bd N o) (hn:N<=90000) :
  (af aq (k+8)).call 26 [.lst (fs.map Fd.d),.lst nu,.int m] M=.ok (dO vL o) M:=by
 cases o with
 | ok xs b=>obtain ⟨g,n,h1,e⟩:=h;exact AE (k:=k+7) (ye hf ht e (by omega) g.1) (by simp [nr,vL,j3])
 | ex c=>obtain ⟨n,h1,e⟩:=h;exact EY (k:=k+7) (hx c rfl) (qB hf ht e (by omega))
theorem Mp {o:Oc Unit} {i:Int} {N:Nat} (hx:pN o) (hf:fs.find? (fun g=>decide (g.nm=w "main"))=some f) (ht:f.tk.length<=1000) (h:bH (fun _:Unit=>D.int i) uG fs m (envOf [] (f.tk.map (·.1)) nu) 0 0 f.bd N o) (hn:N<=90000) :
  (af aq (k+8)).call 26 [.lst (fs.map Fd.d),.lst nu,.int m] M=.ok (dO (fun _=>D.int i) o) M:=by
 cases o with
 | ok xs b=>obtain ⟨g,n,h1,e⟩:=h;exact AE (k:=k+7) (BH hf ht e (by omega)) (by simp [nr])
 | ex c=>obtain ⟨n,h1,e⟩:=h;exact EY (k:=k+7) (hx c rfl) (qB hf ht e (by omega))
end
end bD
end
section
namespace bD
open Fg PySem
section
variable {k:Nat} {M:MH} {Φ:bz}
theorem ER {a b:Pt}:(Pt.op (.lay true) (p2 a b)).d=.tup [.str (w "cons"), a.d, b.d]:=by
 rw [Pt.d,p2];simp only [bU.ds];rfl
theorem IC {o:Rk} {a b:Pt}:(Pt.op (.rk o) (p2 a b)).d=.tup [.str (jX o),a.d,b.d]:=by
 rw [Pt.d,p2];simp only [bU.ds];rfl
theorem ID {a:Pt}:(Pt.op .none (p1 a)).d=.tup [.str (w "none"), a.d]:=by
 rw [Pt.d,p1];simp only [bU.ds];rfl
theorem oj {z:Str} {a:Pt}:(Pt.call z (p1 a)).d=.tup [.str (w "call"), .str z, a.d]:=by
 rw [Pt.d,p1];simp only [bU.ds]
theorem EO {x:Str} {a b:Pt}:(Pt.lt x a b).d=.tup [.str (w "let"), .str x, a.d, b.d]:=by rw [Pt.d]
theorem iV {x:Str}:(Pt.lJ x).d=.tup [.str (w "name"), .str x]:=by rw [Pt.d]
theorem Al {i:Int}:(Pt.num i).d=.tup [.str (w "number"), .int i]:=by rw [Pt.d]
theorem L4 {c a b:Pt}:(Pt.ite c a b).d=.tup [.str (w "if"), c.d, a.d, b.d]:=by rw [Pt.d]
noncomputable def dN:D:=.tup [.str (w "num")]
noncomputable def dL:D:=.tup [.str (w "list"), dN]
theorem EN:(Pt.nil .num).d=.tup [.str (w "nil"), dN]:=by rw [Pt.d];rfl
theorem jb {j n:Nat}:nats (List.range' j (n+1))=.int (j:Int)::nats (List.range' (j+1) n):=by rw [List.range'_succ];rfl
noncomputable def MQ:Ss:=.cons (.set 0 (.tup (.cons (.k (.str (w "cons"))) (.cons (.tup (.cons (.k (.str (w "number"))) (.cons (.op .sub true (.v 1) (.v 2)) .nil))) (.cons (.v 0) .nil))))) .nil
theorem t8 {N:Nat} {p:Pt} {ch:MH->Bool} (hch:ch M=true):∀ (n j:Nat) (a:Option D),∃ a',aI (exs Φ MQ) [2] ch (nats (List.range' j n)) [some (jc N p j).d,some (.int (N:Int)),a] M=.ok (.nx [some (jc N p (j+n)).d,some (.int (N:Int)),a']) M
 | 0,j,a=>⟨a,rfl⟩
 | n+1,j,a=>by
  obtain ⟨a',q⟩:=t8 (N:=N) (p:=p) hch n (j+1) (some (.int (j:Int)))
  refine ⟨a',?_⟩
  rw [jb,aI]
  show ((exs Φ MQ [some (jc N p j).d,some (.int (N:Int)),some (.int (j:Int))] M).bind _)=_
  have e1:ev Φ (.tup (.cons (.k (.str (w "number"))) (.cons (.op .sub true (.v 1) (.v 2)) .nil))) [some (jc N p j).d, some (.int (N:Int)), some (.int (j:Int))] M=.ok (Pt.num ((N:Int)-(j:Int))).d M:=by
   rw [g7, fX (x:=.str (w "number")) (M1:=M) rfl (qm rfl rfl), Al];rfl
  have e2:ev Φ (.tup (.cons (.k (.str (w "cons"))) (.cons (.tup (.cons (.k (.str (w "number"))) (.cons (.op .sub true (.v 1) (.v 2)) .nil))) (.cons (.v 0) .nil)))) [some (jc N p j).d, some (.int (N:Int)), some (.int (j:Int))] M=.ok (jc N p (j+1)).d M:=by
   rw [g7, cY (x:=.str (w "cons")) (M1:=M) rfl (fX e1 (y:=(jc N p j).d) (M2:=M) rfl), jc, ER];rfl
  rw [MQ,av e2]
  show (if ch M then _ else _)=_
  rw [if_pos hch,show j+(n+1)=j+1+n by omega]
  exact q
theorem g9 {e:E} {σ:Sg} {n:Nat} (he:ev Φ e σ M=.ok (.int (n:Int)) M) (hn:n<=1000000):aJ Φ (.eE e) σ M=.ok (.ak,nats (List.range' 0 n),false) M:=by
 rw [<- List.range_eq_range'];exact Im he hn
theorem Av {N:Nat} {p:Pt} (hN:N<=1000):(af aq (k+1)).call 20 [p.d,.int (N:Int)] M=.ok (jc N p N).d M:=by
 obtain ⟨a',q⟩:=t8 (Φ:=af aq k) (M:=M) (N:=N) (p:=p) (ch:=aF M .ak) rfl N 0 none
 rw [Nat.zero_add] at q
 exact aQ fn20 rfl (by
  rw [show jl.body=.cons (.for [2] (.eE (.v 1)) MQ) (.cons (.ret (.v 0)) .nil) from rfl]
  exact (fj (g9 (n:=N) rfl (by omega)) q).trans (bq rfl)) (au (Pt.nr _) rfl)
noncomputable def MZ:Ss:=.cons (.set 1 (.tup (.cons (.k (.str (w "call"))) (.cons (.v 0) (.cons (.v 1) .nil))))) .nil
theorem ur {z:Str} {N:Nat} {p:Pt} {ch:MH->Bool} (hch:ch M=true):∀ (n j:Nat) (a:Option D),∃ a',aI (exs Φ MZ) [3] ch (nats (List.range' j n)) [some (.str z),some (iI z p j).d,some (.int (N:Int)),a] M=.ok (.nx [some (.str z),some (iI z p (j+n)).d,some (.int (N:Int)),a']) M
 | 0,j,a=>⟨a,rfl⟩
 | n+1,j,a=>by
  obtain ⟨a',q⟩:=ur (N:=N) (p:=p) (z:=z) hch n (j+1) (some (.int (j:Int)))
  refine ⟨a',?_⟩
  rw [jb,aI]
  show ((exs Φ MZ [some (.str z),some (iI z p j).d,some (.int (N:Int)),some (.int (j:Int))] M).bind _)=_
  have e2:ev Φ (.tup (.cons (.k (.str (w "call"))) (.cons (.v 0) (.cons (.v 1) .nil)))) [some (.str z), some (iI z p j).d, some (.int (N:Int)), some (.int (j:Int))] M=.ok (iI z p (j+1)).d M:=by
   rw [iI,oj];rfl
  rw [MZ,av e2]
  show (if ch M then _ else _)=_
  rw [if_pos hch,show j+(n+1)=j+1+n by omega]
  exact q
theorem sQ {z:Str} {N:Nat} {p:Pt} (hN:N<=1000):(af aq (k+1)).call 21 [.str z,p.d,.int (N:Int)] M=.ok (iI z p N).d M:=by
 obtain ⟨a',q⟩:=ur (Φ:=af aq k) (M:=M) (z:=z) (N:=N) (p:=p) (ch:=aF M .ak) rfl N 0 none
 rw [Nat.zero_add] at q
 exact aQ fn21 rfl (by
  rw [show eV.body=.cons (.for [3] (.eE (.v 2)) MZ) (.cons (.ret (.v 1)) .nil) from rfl]
  exact (fj (g9 (n:=N) rfl (by omega)) q).trans (bq rfl)) (au (Pt.nr _) rfl)
theorem Iw {f:Nat} {a b:E} {σ:Sg} {x y d:D} (ha:ev Φ a σ M=.ok x M) (hb:ev Φ b σ M=.ok y M) (h:Φ.call f [x,y] M=.ok d M):ev Φ (.call f (.cons a (.cons b .nil))) σ M=.ok d M:=by rw [bB,fX ha hb,R.aa];exact h
theorem sJ {f:Nat} {a b c:E} {σ:Sg} {x y z d:D} (ha:ev Φ a σ M=.ok x M) (hb:ev Φ b σ M=.ok y M) (hc:ev Φ c σ M=.ok z M) (h:Φ.call f [x,y,z] M=.ok d M):ev Φ (.call f (.cons a (.cons b (.cons c .nil)))) σ M=.ok d M:=by rw [bB,cY ha (fX hb hc),R.aa];exact h
theorem LJ {a b:E} {σ:Sg} {x y:D} (ha:ev Φ a σ M=.ok x M) (hb:ev Φ b σ M=.ok y M):ev Φ (.tup (.cons a (.cons b .nil))) σ M=.ok (.tup [x,y]) M:=by rw [g7,fX ha hb];rfl
theorem e_t3 {a b c:E} {σ:Sg} {x y z:D} (ha:ev Φ a σ M=.ok x M) (hb:ev Φ b σ M=.ok y M) (hc:ev Φ c σ M=.ok z M):ev Φ (.tup (.cons a (.cons b (.cons c .nil)))) σ M=.ok (.tup [x,y,z]) M:=by rw [g7,cY ha (fX hb hc)];rfl
theorem Ac {a b c d:E} {σ:Sg} {x y z u:D} (ha:ev Φ a σ M=.ok x M) (hb:ev Φ b σ M=.ok y M) (hc:ev Φ c σ M=.ok z M) (hd:ev Φ d σ M=.ok u M):ev Φ (.tup (.cons a (.cons b (.cons c (.cons d .nil))))) σ M=.ok (.tup [x,y,z,u]) M:=by rw [g7,cY ha (cY hb (fX hc hd))];rfl
theorem Lp {z:Str} {p:Pt}:Fd.d ⟨z, [(w "l", kL)], kL, p⟩=.tup [.str z, .lst [.tup [.str (w "l"), dL]], dL, p.d]:=rfl
theorem su {m:Nat}:∀ fs:List Fd,cG m (fs.map Fd.d)=true
 | []=>by simp [cG]
 | f::fs=>by
  have h:∀ ts:List (Str×Kd),cG m (ts.map fun t=>.tup [.str t.1,t.2.d])=true:=fun ts=>by
   induction ts with
   | nil=>simp [cG]
   | cons t ts ih=>simp [cG,nr,ih,Kd.nr]
  simp [cG,nr,Fd.d,su fs,h,Kd.nr,Pt.nr]
theorem Du {many few:Nat} (hm:many<=1000) (hf:few<=1000):(af aq (k+2)).call 22 [.int (many:Int),.int (few:Int)] M=.ok (.lst ((wo many few).map Fd.d)) M:=by
 let σ (c d e f:Option D):Sg:=[some (.int (many:Int)), some (.int (few:Int)), some dL, some (.tup [.str (w "name"), .str (w "l")]), c, d, e, f]
 let Φ:=af aq (k+1)
 have e4:ev Φ (.tup (.cons (.k (.str (w "eight"))) (.cons (.lst true (.cons (.tup (.cons (.k (.str (w "l"))) (.cons (.v 2) .nil))) .nil)) (.cons (.v 2) (.cons (.call 20 (.cons (.v 3) (.cons (.k (.int 8)) .nil))) .nil))))) (σ none none none none) M=.ok e8.d M:=by
  rw [e8,Lp]
  exact Ac rfl rfl rfl (Iw (x:=(Pt.lJ (w "l")).d) (by rw [iV];rfl) rfl (Av (N:=8) (by decide)))
 have e5:ev Φ (.tup (.cons (.k (.str (w "more"))) (.cons (.lst true (.cons (.tup (.cons (.k (.str (w "l"))) (.cons (.v 2) .nil))) .nil)) (.cons (.v 2) (.cons (.call 21 (.cons (.k (.str (w "eight"))) (.cons (.v 3) (.cons (.k (.int 7)) .nil)))) .nil))))) (σ (some e8.d) none none none) M=.ok kI.d M:=by
  rw [kI,Lp]
  exact Ac rfl rfl rfl (sJ (x:=.str (w "eight")) (y:=(Pt.lJ (w "l")).d) rfl (by rw [iV];rfl) rfl (sQ (N:=7) (by decide)))
 have e6:ev Φ (.tup (.cons (.k (.str (w "let"))) (.cons (.k (.str (w "b"))) (.cons (.call 21 (.cons (.k (.str (w "eight"))) (.cons (.tup (.cons (.k (.str (w "name"))) (.cons (.k (.str (w "a"))) .nil))) (.cons (.v 0) .nil)))) (.cons (.call 20 (.cons (.tup (.cons (.k (.str (w "name"))) (.cons (.k (.str (w "b"))) .nil))) (.cons (.v 1) .nil))) .nil))))) (σ (some e8.d) (some kI.d) none none) M=.ok (Ml many few).d M:=by
  rw [Ml,EO]
  exact Ac rfl rfl (sJ (x:=.str (w "eight")) (y:=(Pt.lJ (w "a")).d) rfl (by rw [iV];rfl) rfl (sQ hm)) (Iw (x:=(Pt.lJ (w "b")).d) (by rw [iV];rfl) rfl (Av hf))
 have e7:ev Φ (.tup (.cons (.k (.str (w "main"))) (.cons (.lst true .nil) (.cons (.v 2) (.cons (.tup (.cons (.k (.str (w "let"))) (.cons (.k (.str (w "a"))) (.cons (.call 21 (.cons (.k (.str (w "more"))) (.cons (.tup (.cons (.k (.str (w "nil"))) (.cons (.tup (.cons (.k (.str (w "num"))) .nil)) .nil))) (.cons (.k (.int 8)) .nil)))) (.cons (.v 6) .nil))))) .nil))))) (σ (some e8.d) (some kI.d) (some (Ml many few).d) none) M=.ok (kJ many few).d M:=by
  have:(kJ many few).d=.tup [.str (w "main"), .lst [], dL, .tup [.str (w "let"), .str (w "a"), (iI (w "more") (.nil .num) 8).d, (Ml many few).d]]:=by rw [<- EO];rfl
  rw [this]
  exact Ac rfl rfl rfl (Ac rfl rfl (sJ (x:=.str (w "more")) (y:=(Pt.nil .num).d) rfl (by rw [EN];rfl) rfl (sQ (N:=8) (by decide))) rfl)
 refine aQ fn22 rfl ((av rfl).trans ((av rfl).trans ((av e4).trans ((av e5).trans ((av e6).trans ((av e7).trans (bq rfl))))))) (au ?_ rfl)
 exact (by rw [nr];exact su (wo many few))
noncomputable def Kl (p:E):Ss:=.cons (.set 4 (.tup (.cons (.k (.str (w "plus"))) (.cons p (.cons (.v 4) .nil))))) .nil
theorem nv {e:E} {p:Pt} {ch:MH->Bool} {x0 x1 x2 x3 x6:Option D} (hch:ch M=true) (he:∀ y z,ev Φ e [x0,x1,x2,x3,y,z,x6] M=.ok p.d M):∀ (n j:Nat) (a:Option D),∃ a',aI (exs Φ (Kl e)) [5] ch (nats (List.range' j n)) [x0,x1,x2,x3,some (b6 p j).d,a,x6] M=.ok (.nx [x0,x1,x2,x3,some (b6 p (j+n)).d,a',x6]) M
 | 0,j,a=>⟨a,rfl⟩
 | n+1,j,a=>by
  obtain ⟨a',q⟩:=nv hch he n (j+1) (some (.int (j:Int)))
  refine ⟨a',?_⟩
  rw [jb,aI]
  show ((exs Φ (Kl e) [x0,x1,x2,x3,some (b6 p j).d,some (.int (j:Int)),x6] M).bind _)=_
  have e2:ev Φ (.tup (.cons (.k (.str (w "plus"))) (.cons e (.cons (.v 4) .nil)))) [x0, x1, x2, x3, some (b6 p j).d, some (.int (j:Int)), x6] M=.ok (b6 p (j+1)).d M:=by
   rw [b6,IC]
   exact e_t3 rfl (he _ _) rfl
  rw [Kl,av e2]
  show (if ch M then _ else _)=_
  rw [if_pos hch,show j+(n+1)=j+1+n by omega]
  exact q
noncomputable def dcE:E:=.tup (.cons (.k (.str (w "none"))) (.cons (.tup (.cons (.k (.str (w "call"))) (.cons (.k (.str (w "down"))) (.cons (.tup (.cons (.k (.str (w "name"))) (.cons (.k (.str (w "n"))) .nil))) .nil)))) .nil))
noncomputable def blE:E:=.tup (.cons (.k (.str (w "call"))) (.cons (.k (.str (w "block"))) (.cons (.tup (.cons (.k (.str (w "name"))) (.cons (.k (.str (w "u"))) .nil))) .nil)))
theorem L3:GQ.d=.tup [.str (w "none"), .tup [.str (w "call"), .str (w "down"), .tup [.str (w "name"), .str (w "n")]]]:=by rw [GQ, ID, wY, oj, nN, iV]
theorem Mh:EW.d=.tup [.str (w "call"), .str (w "block"), .tup [.str (w "name"), .str (w "u")]]:=by rw [EW, oj, iV]
theorem Ax {n:Nat} (hn:n<=100):(af aq (k+1)).call 23 [.int ((n+1:Nat):Int)] M=.ok (.lst ((lK n).map Fd.d)) M:=by
 let Φ:=af aq k
 have hd:(wY AO).d=.tup [.str (w "call"), .str (w "down"), .tup [.str (w "minus"), .tup [.str (w "name"), .str (w "n")], .tup [.str (w "number"), .int 1]]]:=by rw [wY, oj, AO, IC, nN, iV, Al];rfl
 have hb:bT.bd.d=.tup [.str (w "if"), .tup [.str (w "less"), .tup [.str (w "name"), .str (w "n")], .tup [.str (w "number"), .int 1]], .tup [.str (w "nil"), dN], .tup [.str (w "cons"), .tup [.str (w "name"), .str (w "n")], (wY AO).d]]:=by
  show (Pt.ite lsN (.nil .num) (.op (.lay true) (p2 nN (wY AO)))).d=_
  rw [L4,lsN,IC,nN,iV,Al,EN,ER,iV];rfl
 have hf:bT.d=.tup [.str (w "down"), .lst [.tup [.str (w "n"), dN]], dL, bT.bd.d]:=rfl
 have hk:fc.d=.tup [.str (w "block"), .lst [.tup [.str (w "n"), dN]], dN, (b6 GQ 6).d]:=rfl
 have hm:(pX n).d=.tup [.str (w "main"), .lst [.tup [.str (w "u"), dN]], dN, (b6 EW n).d]:=rfl
 obtain ⟨a1,q1⟩:=nv (Φ:=Φ) (M:=M) (e:=dcE) (p:=GQ) (ch:=aF M .ak) (x0:=some (.int ((n+1:Nat):Int))) (x1:=some (wY AO).d) (x2:=some bT.bd.d) (x3:=some bT.d) (x6:=none) rfl (fun y z=>by rw [L3];rfl) 6 0 none
 obtain ⟨a2,q2⟩:=nv (Φ:=Φ) (M:=M) (e:=blE) (p:=EW) (ch:=aF M .ak) (x0:=some (.int ((n+1:Nat):Int))) (x1:=some (wY AO).d) (x2:=some bT.bd.d) (x3:=some bT.d) (x6:=some fc.d) rfl (fun y z=>by rw [Mh];rfl) n 0 a1
 rw [Nat.zero_add] at q1 q2
 have i2:aJ Φ (.eE (.op .sub true (.v 0) (.k (.int 1)))) [some (.int ((n+1:Nat):Int)),some (wY AO).d,some bT.bd.d,some bT.d,some (b6 EW 0).d,a1,some fc.d] M=.ok (.ak,nats (List.range' 0 n),false) M:=by
  refine g9 ?_ (by omega)
  rw [show ((n:Nat):Int)=((n+1:Nat):Int)-1 by omega]
  exact qm rfl rfl
 have s1:exs Φ cI.body [some (.int ((n+1:Nat):Int)),none,none,none,none,none,none] M=.ok (.rt (.lst ((lK n).map Fd.d))) M:=by
  rw [show cI.body=.cons (.set 1 (.tup (.cons (.k (.str (w "call"))) (.cons (.k (.str (w "down"))) (.cons (.tup (.cons (.k (.str (w "minus"))) (.cons (.tup (.cons (.k (.str (w "name"))) (.cons (.k (.str (w "n"))) .nil))) (.cons (.tup (.cons (.k (.str (w "number"))) (.cons (.k (.int 1)) .nil))) .nil)))) .nil)))))
   (.cons (.set 2 (.tup (.cons (.k (.str (w "if"))) (.cons (.tup (.cons (.k (.str (w "less"))) (.cons (.tup (.cons (.k (.str (w "name"))) (.cons (.k (.str (w "n"))) .nil))) (.cons (.tup (.cons (.k (.str (w "number"))) (.cons (.k (.int 1)) .nil))) .nil)))) (.cons (.tup (.cons (.k (.str (w "nil"))) (.cons (.tup (.cons (.k (.str (w "num"))) .nil)) .nil))) (.cons (.tup (.cons (.k (.str (w "cons"))) (.cons (.tup (.cons (.k (.str (w "name"))) (.cons (.k (.str (w "n"))) .nil))) (.cons (.v 1) .nil)))) .nil))))))
   (.cons (.set 3 (.tup (.cons (.k (.str (w "down"))) (.cons (.lst true (.cons (.tup (.cons (.k (.str (w "n"))) (.cons (.tup (.cons (.k (.str (w "num"))) .nil)) .nil))) .nil)) (.cons (.tup (.cons (.k (.str (w "list"))) (.cons (.tup (.cons (.k (.str (w "num"))) .nil)) .nil))) (.cons (.v 2) .nil))))))
   (.cons (.set 4 dcE) (.cons (.for [5] (.eE (.k (.int 6))) (Kl dcE))
   (.cons (.set 6 (.tup (.cons (.k (.str (w "block"))) (.cons (.lst true (.cons (.tup (.cons (.k (.str (w "n"))) (.cons (.tup (.cons (.k (.str (w "num"))) .nil)) .nil))) .nil)) (.cons (.tup (.cons (.k (.str (w "num"))) .nil)) (.cons (.v 4) .nil))))))
   (.cons (.set 4 blE) (.cons (.for [5] (.eE (.op .sub true (.v 0) (.k (.int 1)))) (Kl blE))
   (.cons (.ret (.lst true (.cons (.v 3) (.cons (.v 6) (.cons (.tup (.cons (.k (.str (w "main"))) (.cons (.lst true (.cons (.tup (.cons (.k (.str (w "u"))) (.cons (.tup (.cons (.k (.str (w "num"))) .nil)) .nil))) .nil)) (.cons (.tup (.cons (.k (.str (w "num"))) .nil)) (.cons (.v 4) .nil))))) .nil))))) .nil)))))))) from rfl]
  refine (av (x:=(wY AO).d) (M1:=M) (by rw [hd];rfl)).trans ?_
  refine (av (x:=bT.bd.d) (M1:=M) (by rw [hb];rfl)).trans ?_
  refine (av (x:=bT.d) (M1:=M) (by rw [hf];rfl)).trans ?_
  refine (av (x:=(b6 GQ 0).d) (M1:=M) (by rw [b6,L3];rfl)).trans ?_
  refine (fj (g9 (n:=6) rfl (by decide)) q1).trans ?_
  refine (av (x:=fc.d) (M1:=M) (by rw [hk];rfl)).trans ?_
  refine (av (x:=(b6 EW 0).d) (M1:=M) (by rw [b6,Mh];rfl)).trans ?_
  refine (fj i2 q2).trans ?_
  refine bq ?_
  show _=R.ok (D.lst [bT.d,fc.d,(pX n).d]) M
  rw [hm];rfl
 exact aQ fn23 rfl s1 (au (by rw [nr];exact su (lK n)) rfl)
end
end bD
end
section
namespace bD
open Fg PySem
noncomputable def putL (is:List Int) (o:Oc (List Int)):Oc (List Int):=is.foldl (fun o i=>o.bind (ES i)) o
theorem rH {N:Nat} {o:Oc (List Int)}:∀ j,gr N j o=putL ((List.range j).map fun (i:Nat)=>(N:Int)-(i:Int)) o
 | 0=>rfl
 | j+1=>by
  rw [List.range_succ,List.map_append,putL,List.foldl_append]
  show (gr N j o).bind _=_
  rw [rH j]
  rfl
noncomputable def AX (N:Nat):List Int:=(List.range N).map fun (i:Nat)=>(N:Int)-(i:Int)
theorem BJ {N:Nat}:mj (N:Int) 0=(AX N).map D.int:=by
 unfold mj AX
 rw [List.map_map,show ((N:Int)-0).toNat=N by omega]
 rfl
theorem t7 {c:Nat}:∀ is:List Int,putL is (.ex c)=.ex c
 | []=>rfl
 | i::is=>t7 is
noncomputable def rD (xs:List Int):List D:=(xs.reverse).map D.int
noncomputable def xD (c:Nat):D:=.tup [.str (wX c),.ak]
section
variable {k:Nat} {M:MH} {Φ:bz} {many few:Nat} {m:Int}
noncomputable def lgE:E:=.cmp .gt (.op .add true (.k (.int 1)) (.op .mul true (.k (.int 2)) (.blt .len true (.cons (.v 4) .nil)))) (.k (.int 1000))
noncomputable def yh (x:String):Ss:=.cons (.ret (.tup (.cons (.k (.str (w x))) (.cons (.k .ak) .nil)))) .nil
noncomputable def Gu:Ss:=.cons (.ex (.dI .append true (.v 4) (.cons (.v 6) .nil))) (.cons (.ifs lgE (yh "great") .nil) .nil)
noncomputable abbrev sU (M:MH) (many few:Nat) (m b:Int) (x y:Option D):Sg:=[some (.int (many:Int)),some (.int (few:Int)),some (.int m),some (.int b),some (.ref M.length),x,y]
theorem Dz {ds:List D}:(M++[MO.lst ds])[M.length]? = some (.lst ds):=by simp
theorem JX {ds es:List D}:(M++[MO.lst ds]).set M.length (.lst es)=M++[.lst es]:=by simp
theorem ny {b:Int} {x:Option D} {ch:MH->Bool} (hch:∀ M,ch M=true):∀ (is xs:List Int) (y:Option D),xs.length<=499 ->
  (∃ ys y',putL is (.ok xs b)=.ok ys b/\ys.length<=499/\aI (exs Φ Gu) [6] ch (is.map D.int) (sU M many few m b x y) (M++[.lst (rD xs)])=.ok (.nx (sU M many few m b x y')) (M++[.lst (rD ys)])) \/
  ∃ ds,putL is (.ok xs b)=.ex 2/\aI (exs Φ Gu) [6] ch (is.map D.int) (sU M many few m b x y) (M++[.lst (rD xs)])=.ok (.rt (xD 2)) (M++[.lst ds])
 | [],xs,y,hx=>.inl ⟨xs,y,rfl,hx,rfl⟩
 | i::is,xs,y,hx=>by
  have hl:(rD xs).length=xs.length:=by simp [rD]
  have e1:ev Φ (.dI .append true (.v 4) (.cons (.v 6) .nil)) (sU M many few m b x (some (.int i))) (M++[.lst (rD xs)])=.ok .ak (M++[.lst (rD (i::xs))]):=by
   have:=uT (Φ:=Φ) (σ:=sU M many few m b x (some (.int i))) (e:=.v 4) (e':=.v 6) (M:=M++[.lst (rD xs)]) (M1:=M++[.lst (rD xs)]) (M2:=M++[.lst (rD xs)]) (n:=M.length) (d:=.int i) (ys:=rD xs) (xs:=rD xs) rfl Dz rfl Dz (by rw [hl];show xs.length<1000000;omega)
   rw [this,JX]
   simp [rD]
  have e2:ev Φ lgE (sU M many few m b x (some (.int i))) (M++[.lst (rD (i::xs))])=.ok (.bl (decide (500<=xs.length+1))) (M++[.lst (rD (i::xs))]):=by
   have h1:ev Φ (.blt .len true (.cons (.v 4) .nil)) (sU M many few m b x (some (.int i))) (M++[.lst (rD (i::xs))])=.ok (.int ((rD (i::xs)).length:Int)) (M++[.lst (rD (i::xs))]):=e_len rfl Dz
   have h2:(rD (i::xs)).length=xs.length+1:=by simp [rD]
   rw [h2] at h1
   refine qp (fY rfl (uS rfl h1 (by decide +kernel) (iJ (by omega)))) rfl ?_
   rw [decide_eq_decide]
   omega
  rw [List.map_cons,aI]
  show (∃ ys y',_/\_/\((exs Φ Gu (sU M many few m b x (some (.int i))) (M++[.lst (rD xs)])).bind _)=_)\/∃ ds,_/\((exs Φ Gu (sU M many few m b x (some (.int i))) (M++[.lst (rD xs)])).bind _)=_
  rw [Gu,bZ e1]
  have hp:putL (i::is) (.ok xs b)=putL is (ES i xs b):=rfl
  rw [hp]
  unfold ES
  by_cases h5:500<=xs.length+1
  ·rw [if_pos h5]
   rw [decide_eq_true h5] at e2
   right
   refine ⟨rD (i::xs),t7 is,?_⟩
   rw [bY (x:=xD 2) e2 rfl]
   rfl
  ·rw [if_neg h5]
   rw [decide_eq_false h5] at e2
   rw [aM e2]
   show (∃ ys y',_/\_/\(if ch _ then _ else _)=_)\/∃ ds,_/\(if ch _ then _ else _)=_
   rw [if_pos (hch _)]
   exact ny hch is (i::xs) (some (.int i)) (by rw [List.length_cons];omega)
noncomputable def pIf:E:=.or (.cmp .ge (.v 5) (.k (.int 64))) (.cmp .gt (.op .mod true (.v 5) (.k (.int 8))) (.k (.int 0)))
noncomputable def pF8:Ss:=.cons (.for [6] (.dG (.k (.int 8)) (.k (.int 0))) Gu) .nil
noncomputable def Jf:Ss:=.cons (.set 3 (.op .add true (.v 3) (.k (.int 1)))) (.cons (.ifs (.cmp .gt (.v 3) (.v 2)) (yh "long") .nil) (.cons (.ifs pIf pF8 .nil) .nil))
theorem uQ {e:E} {σ:Sg} {N:Nat} (hN:N<=1000) (h:ev Φ e σ M=.ok (.int (N:Int)) M):aJ Φ (.dG e (.k (.int 0))) σ M=.ok (.ak,(AX N).map D.int,false) M:=by
 have:aJ Φ (.dG e (.k (.int 0))) σ M=.ok (.ak,mj (N:Int) 0,false) M:=by
  rw [zU,h,R.aa,qg,R.aa]
  show (if gu (N:Int)&&gu 0 then _ else _)=_
  rw [uh (by omega),show gu 0=true by decide,Bool.and_self,if_pos rfl]
 rw [this,BJ]
theorem nA {ch:MH->Bool} (hch:∀ M,ch M=true):∀ (n j:Nat) (xs:List Int) (b:Int) (x y:Option D),xs.length<=499 ->
  (∃ ys b' x' y',(List.range' j n).foldl (stp m) (.ok xs b)=.ok ys b'/\ys.length<=499/\aI (exs Φ Jf) [5] ch (nats (List.range' j n)) (sU M many few m b x y) (M++[.lst (rD xs)])=.ok (.nx (sU M many few m b' x' y')) (M++[.lst (rD ys)])) \/
  ∃ ds c,(List.range' j n).foldl (stp m) (.ok xs b)=.ex c/\aI (exs Φ Jf) [5] ch (nats (List.range' j n)) (sU M many few m b x y) (M++[.lst (rD xs)])=.ok (.rt (xD c)) (M++[.lst ds])
 | 0,j,xs,b,x,y,hx=>.inl ⟨xs,b,x,y,rfl,hx,rfl⟩
 | n+1, j, xs, b, x, y, hx=>by
  rw [jb,List.range'_succ,List.foldl_cons,aI]
  show (∃ ys b' x' y',_/\_/\((exs Φ Jf (sU M many few m b (some (.int (j:Int))) y) (M++[.lst (rD xs)])).bind _)=_)\/∃ ds c,_/\((exs Φ Jf (sU M many few m b (some (.int (j:Int))) y) (M++[.lst (rD xs)])).bind _)=_
  have e1:ev Φ (.op .add true (.v 3) (.k (.int 1))) (sU M many few m b (some (.int (j:Int))) y) (M++[.lst (rD xs)])=.ok (.int (b+1)) (M++[.lst (rD xs)]):=fY rfl rfl
  have e2:ev Φ (.cmp .gt (.v 3) (.v 2)) (sU M many few m (b+1) (some (.int (j:Int))) y) (M++[.lst (rD xs)])=.ok (.bl (decide (m<b+1))) (M++[.lst (rD xs)]):=qp rfl rfl rfl
  rw [Jf,av e1]
  show (∃ ys b' x' y',_/\_/\((exs Φ _ (sU M many few m (b+1) (some (.int (j:Int))) y) (M++[.lst (rD xs)])).bind _)=_)\/∃ ds c,_/\((exs Φ _ (sU M many few m (b+1) (some (.int (j:Int))) y) (M++[.lst (rD xs)])).bind _)=_
  have hs:stp m (.ok xs b) j=if m<b+1 then .ex 4 else if 64<=j\/0<j % 8 then gr 8 8 (.ok xs (b+1)) else .ok xs (b+1):=rfl
  rw [hs]
  by_cases hm:m<b+1
  ·rw [if_pos hm]
   rw [decide_eq_true hm] at e2
   right
   refine ⟨rD xs,4,iz _,?_⟩
   rw [bY (x:=xD 4) e2 rfl]
   rfl
  ·rw [if_neg hm]
   rw [decide_eq_false hm] at e2
   rw [aM e2]
   have e3:ev Φ pIf (sU M many few m (b+1) (some (.int (j:Int))) y) (M++[.lst (rD xs)])=.ok (.bl (decide (64<=j\/0<j % 8))) (M++[.lst (rD xs)]):=by
    have h1:ev Φ (.cmp .ge (.v 5) (.k (.int 64))) (sU M many few m (b+1) (some (.int (j:Int))) y) (M++[.lst (rD xs)])=.ok (.bl (decide (64<=j))) (M++[.lst (rD xs)]):=LQ rfl rfl (by rw [decide_eq_decide];omega)
    have h2:ev Φ (.cmp .gt (.op .mod true (.v 5) (.k (.int 8))) (.k (.int 0))) (sU M many few m (b+1) (some (.int (j:Int))) y) (M++[.lst (rD xs)])=.ok (.bl (decide (0<j % 8))) (M++[.lst (rD xs)]):=LP (b:=0) (sI (b:=8) rfl rfl (by decide)) rfl
    have:=e_or h1 (fun _=>h2)
    rw [pIf,this]
    congr 2
    by_cases q1:64<=j <;> by_cases q2:0<j % 8 <;> simp [q1,q2]
   by_cases h8:64<=j\/0<j % 8
   ·rw [if_pos h8]
    rw [decide_eq_true h8] at e3
    have hi:aJ Φ (.dG (.k (.int 8)) (.k (.int 0))) (sU M many few m (b+1) (some (.int (j:Int))) y) (M++[.lst (rD xs)])=.ok (.ak,(AX 8).map D.int,false) (M++[.lst (rD xs)]):=uQ (N:=8) (by decide) rfl
    have hp:gr 8 8 (.ok xs (b+1))=putL (AX 8) (.ok xs (b+1)):=rH 8
    rw [hp]
    rcases ny (Φ:=Φ) (M:=M) (many:=many) (few:=few) (m:=m) (b:=b+1) (x:=some (.int (j:Int))) (ch:=aF (M++[.lst (rD xs)]) .ak) (fun _=>rfl) (AX 8) xs y hx with ⟨ys,y',q1,q2,q3⟩ | ⟨ds,q1,q2⟩
    ·rw [q1,pq e3 (show exs Φ pF8 _ _=.ok (.nx (sU M many few m (b+1) (some (.int (j:Int))) y')) (M++[.lst (rD ys)]) from (fj hi q3).trans rfl)]
     show (∃ ys b' x' y',_/\_/\(if ch _ then _ else _)=_)\/∃ ds c,_/\(if ch _ then _ else _)=_
     rw [if_pos (hch _)]
     exact nA hch n (j+1) ys (b+1) (some (.int (j:Int))) y' q2
    ·rw [q1]
     right
     refine ⟨ds,2,iz _,?_⟩
     rw [bY e3 (show exs Φ pF8 _ _=.ok (.rt (xD 2)) (M++[.lst ds]) from ja hi q2)]
     rfl
   ·rw [if_neg h8]
    rw [decide_eq_false h8] at e3
    rw [aM e3]
    show (∃ ys b' x' y',_/\_/\(if ch _ then _ else _)=_)\/∃ ds c,_/\(if ch _ then _ else _)=_
    rw [if_pos (hch _)]
    exact nA hch n (j+1) xs (b+1) (some (.int (j:Int))) y hx
theorem E8 {ds:List D}:(M++[MO.lst ds]).take M.length=M:=by simp
theorem IJ (hm:many<=1000) (hf:few<=1000):(af aq (k+1)).call 24 [.int (many:Int),.int (few:Int),.int m] M=.ok (dO vL (Ah m many few)) M:=by
 let Φ:=af aq k
 have nx:∀ c,nr M.length (xD c)=true:=fun c=>by simp [xD,nr,cG]
 have hi:aJ Φ (.eE (.op .add true (.k (.int 64)) (.v 0))) (sU M many few m 0 none none) (M++[.lst (rD [])])=.ok (.ak,nats (List.range' 0 (64+many)),false) (M++[.lst (rD [])]):=g9 (Ae (a:=64) (b:=many) rfl rfl) (by omega)
 have body:exs Φ cW.body [some (.int (many:Int)), some (.int (few:Int)), some (.int m), none, none, none, none] M=exs Φ (.cons (.for [5] (.eE (.op .add true (.k (.int 64)) (.v 0))) Jf) (.cons (.for [6] (.dG (.v 1) (.k (.int 0))) Gu) (.cons (.ret (.tup (.cons (.k (.str (w ""))) (.cons (.rv true (.v 4)) .nil)))) .nil))) (sU M many few m 0 none none) (M++[.lst (rD [])]):=rfl
 have hd:Ah m many few=((List.range' 0 (64+many)).foldl (stp m) (.ok [] 0)).bind fun xs b=>putL (AX few) (.ok xs b):=by
  unfold Ah
  rw [List.range_eq_range']
  congr 1
  funext xs b
  exact rH few
 rw [hd]
 rcases nA (Φ:=Φ) (M:=M) (many:=many) (few:=few) (m:=m) (ch:=aF (M++[.lst (rD [])]) .ak) (fun _=>rfl) (64+many) 0 [] 0 none none (by simp) with ⟨ys,b',x',y',q1,q2,q3⟩ | ⟨ds,c,q1,q2⟩
 ·rw [q1]
  show _=R.ok (dO vL (putL (AX few) (.ok ys b'))) M
  have hi2:aJ Φ (.dG (.v 1) (.k (.int 0))) (sU M many few m b' x' y') (M++[.lst (rD ys)])=.ok (.ak,(AX few).map D.int,false) (M++[.lst (rD ys)]):=uQ hf rfl
  rcases ny (Φ:=Φ) (M:=M) (many:=many) (few:=few) (m:=m) (b:=b') (x:=x') (ch:=aF (M++[.lst (rD ys)]) .ak) (fun _=>rfl) (AX few) ys y' q2 with ⟨zs,y2,r1,r2,r3⟩ | ⟨ds,r1,r2⟩
  ·rw [r1]
   have er:ev Φ (.tup (.cons (.k (.str (w ""))) (.cons (.rv true (.v 4)) .nil))) (sU M many few m b' x' y2) (M++[.lst (rD zs)])=.ok (.tup [.str (w ""), vL zs]) (M++[.lst (rD zs)]):=by
    refine LJ rfl ?_
    rw [Lw,show ev Φ (.v 4) (sU M many few m b' x' y2) (M++[.lst (rD zs)])=.ok (.ref M.length) (M++[.lst (rD zs)]) from rfl,R.aa]
    simp only [vw,Dz]
    simp [vL,rD]
    rfl
   refine aQ HV rfl (body.trans ((fj hi q3).trans ((fj hi2 r3).trans (bq er)))) ?_
   exact iF (by simp [nr,cG,vL,j3]) E8
  ·rw [r1]
   exact aQ HV rfl (body.trans ((fj hi q3).trans (ja hi2 r2))) (iF (nx 2) E8)
 ·rw [q1]
  exact aQ HV rfl (body.trans (ja hi q2)) (iF (nx c) E8)
end
end bD
end
section
namespace bD
open Fg PySem
noncomputable def Jz:Nat->Int->List D
 | 0,_=>[]
 | c+1,u=>.int (u+1)::Jz c (u+1)
theorem xr:∀ (c:Nat) (u:Int),(List.range c).map (fun (i:Nat)=>D.int (u+1+(i:Int)))=Jz c u
 | 0,_=>rfl
 | c+1,u=>by
  rw [List.range_succ_eq_map,List.map_cons,List.map_map,Jz,<- xr c (u+1)]
  congr 1
  ·simp
  ·apply List.map_congr_left
   intro i _
   simp only [Function.comp,Nat.succ_eq_add_one]
   congr 1
   omega
section
variable {k:Nat} {M:MH} {Φ:bz} {many:Nat} {i m:Int}
noncomputable def Mf:Ss:=.cons (.set 3 (.op .add true (.v 3) (.k (.int 1)))) (.cons (.ifs (.cmp .gt (.v 3) (.v 2)) (yh "long") .nil) (.cons (.ifs (.cmp .gt (.v 6) (.k (.int 12))) (yh "deep") .nil) .nil))
noncomputable def cIt:Src:=.gS (.k (.int 2)) (.op .add true (.k (.int 3)) (.mx true (.k (.int 0)) (.v 1)))
noncomputable def NO:Ss:=.cons (.for [6] cIt Mf) .nil
noncomputable def NP:Ss:=.cons (.set 3 (.op .add true (.v 3) (.k (.int 1)))) (.cons (.ifs (.cmp .gt (.v 3) (.v 2)) (yh "long") .nil) (.cons (.for [5] (.eE (.k (.int 7))) NO) .nil))
noncomputable abbrev sC (many:Nat) (i m b:Int) (x y z:Option D):Sg:=[some (.int (many:Int)),some (.int i),some (.int m),some (.int b),x,y,z]
noncomputable def Le (r:R Out) (M:MH) (P:Int->Sg->Prop):Oc Unit->Prop
 | .ok _ b=>∃ σ,r=.ok (.nx σ) M/\P b σ
 | .ex c=>r=.ok (.rt (xD c)) M
theorem Le.seq {body:Sg->MH->R Out} {v:Nat} {ch:MH->Bool} {d:D} {ds:List D} {σ:Sg} {P Q:Int->Sg->Prop} {o:Oc Unit} {g:Int->Oc Unit} (hc:ch M=true) (h:Le (body (σ.set v (some d)) M) M P o) (h2:∀ b σ',P b σ'->Le (aI body [v] ch ds σ' M) M Q (g b)):Le (aI body [v] ch (d::ds) σ M) M Q (o.bind fun _ b=>g b):=by
 rw [aI]
 simp only [sets]
 cases o with
 | ok a b =>
  obtain ⟨σ',e,p⟩:=h
  rw [e]
  show Le (if ch M then _ else _) M Q (g b)
  rw [if_pos hc]
  exact h2 b σ' p
 | ex c =>
  show _=_
  rw [h]
  rfl
theorem vh {x y:Option D} {ch:MH->Bool} (hch:ch M=true):∀ (c:Nat) (u b:Int) (z:Option D),Le (aI (exs Φ Mf) [6] ch (Jz c u) (sC many i m b x y z) M) M (fun b σ=>∃ z,σ=sC many i m b x y z) (dB m c u b)
 | 0,u,b,z=>⟨_,rfl,z,rfl⟩
 | c+1,u,b,z=>by
  have hd:dB m (c+1) u b=(if m<b+1 then .ex 4 else if 12<u+1 then .ex 5 else .ok () (b+1):Oc Unit).bind fun _ b=>dB m c (u+1) b:=by
   rw [dB]
   split
   ·rfl
   ·split <;> rfl
  rw [hd]
  refine Le.seq (P:=fun b σ=>∃ z,σ=sC many i m b x y z) hch ?_ (fun b' σ' ⟨z',e⟩=>by subst e;exact vh hch c (u+1) b' z')
  show Le (exs Φ Mf (sC many i m b x y (some (.int (u+1)))) M) M _ _
  have e1:ev Φ (.op .add true (.v 3) (.k (.int 1))) (sC many i m b x y (some (.int (u+1)))) M=.ok (.int (b+1)) M:=fY rfl rfl
  have e2:ev Φ (.cmp .gt (.v 3) (.v 2)) (sC many i m (b+1) x y (some (.int (u+1)))) M=.ok (.bl (decide (m<b+1))) M:=qp rfl rfl rfl
  have e3:ev Φ (.cmp .gt (.v 6) (.k (.int 12))) (sC many i m (b+1) x y (some (.int (u+1)))) M=.ok (.bl (decide (12<u+1))) M:=qp rfl rfl rfl
  rw [Mf,av e1]
  show Le (exs Φ _ (sC many i m (b+1) x y (some (.int (u+1)))) M) M _ _
  by_cases hm:m<b+1
  ·rw [decide_eq_true hm] at e2
   rw [if_pos hm,bY (x:=xD 4) e2 rfl]
   rfl
  ·rw [decide_eq_false hm] at e2
   rw [if_neg hm,aM e2]
   by_cases hu:12<u+1
   ·rw [decide_eq_true hu] at e3
    rw [if_pos hu,bY (x:=xD 5) e3 rfl]
    rfl
   ·rw [decide_eq_false hu] at e3
    rw [if_neg hu,aM e3]
    exact ⟨_,rfl,_,rfl⟩
theorem Io {σ:Sg} (h:σ[1]? = some (some (.int i))):ev Φ (.mx true (.k (.int 0)) (.v 1)) σ M=.ok (.int (i.toNat:Int)) M:=by
 rw [Ly,qg,R.aa,e_v h,R.aa]
 by_cases hi:0<i
 ·simp [hi];omega
 ·simp [hi];omega
theorem e_it {σ:Sg} {t:Nat} (h:σ[1]? = some (some (.int i))) (ht:i.toNat=t) (hl:t<=1000):aJ Φ cIt σ M=.ok (.ak,Jz (t+1) 1,false) M:=by
 have e1:ev Φ (.op .add true (.k (.int 3)) (.mx true (.k (.int 0)) (.v 1))) σ M=.ok (.int (3+(t:Int))) M:=by
  have:=Io (Φ:=Φ) (M:=M) h
  rw [ht] at this
  exact fY rfl this
 rw [cIt,zV,qg,R.aa,e1,R.aa]
 show (if gu 2&&gu (3+(t:Int)) then R.ok (D.ak,gq 2 (3+(t:Int)),false) M else .bad)=_
 rw [Ck (n:=3+(t:Int)) (by omega) (by omega),show gu 2=true by decide,Bool.and_self,if_pos rfl,<- xr]
 unfold gq
 rw [show (3+(t:Int)-2).toNat=t+1 by omega]
 rfl
theorem Le.Lk {tg:Nat} {it:Src} {ds:List D} {body:Ss} {σ:Sg} {P:Int->Sg->Prop} {o:Oc Unit} (hi:aJ Φ it σ M=.ok (.ak,ds,false) M) (h:Le (aI (exs Φ body) [tg] (aF M .ak) ds σ M) M P o):Le (exs Φ (.cons (.for [tg] it body) .nil) σ M) M P o:=by
 cases o with
 | ok a b =>
  obtain ⟨σ',e,p⟩:=h
  exact ⟨σ',(fj hi e).trans rfl,p⟩
 | ex c=>exact ja hi h
theorem vj {x:Option D} {t:Nat} {ch:MH->Bool} (hch:ch M=true) (ht:i.toNat=t) (hl:t<=1000):∀ (n j:Nat) (b:Int) (y z:Option D),Le (aI (exs Φ NO) [5] ch (nats (List.range' j n)) (sC many i m b x y z) M) M (fun b σ=>∃ y z,σ=sC many i m b x y z) (gU (fun b=>dB m (t+1) 1 b) n b)
 | 0,j,b,y,z=>⟨_,rfl,y,z,rfl⟩
 | n+1,j,b,y,z=>by
  rw [jb]
  refine Le.seq (P:=fun b σ=>∃ y z,σ=sC many i m b x y z) (o:=dB m (t+1) 1 b) (g:=fun b=>gU (fun b=>dB m (t+1) 1 b) n b) hch ?_ (fun b' σ' ⟨y',z',e⟩=>by subst e;exact vj hch ht hl n (j+1) b' y' z')
  show Le (exs Φ NO (sC many i m b x (some (.int (j:Int))) z) M) M _ _
  have:=Le.Lk (Φ:=Φ) (tg:=6) (body:=Mf) (e_it (Φ:=Φ) (M:=M) (σ:=sC many i m b x (some (.int (j:Int))) z) rfl ht hl) (vh (Φ:=Φ) (M:=M) (many:=many) (i:=i) (m:=m) (x:=x) (y:=some (.int (j:Int))) (ch:=aF M .ak) rfl (t+1) 1 b z)
  cases ho:dB m (t+1) 1 b with
  | ok a b' =>
   rw [ho] at this
   obtain ⟨σ',e,z',q⟩:=this
   exact ⟨σ',e,_,z',q⟩
  | ex c=>rw [ho] at this;exact this
theorem vm {t:Nat} {ch:MH->Bool} (hch:ch M=true) (ht:i.toNat=t) (hl:t<=1000):∀ (n j:Nat) (b:Int) (x y z:Option D),Le (aI (exs Φ NP) [4] ch (nats (List.range' j n)) (sC many i m b x y z) M) M (fun b σ=>∃ x y z,σ=sC many i m b x y z) (gU (fun b=>if m<b+1 then .ex 4 else AB m t (b+1)) n b)
 | 0,j,b,x,y,z=>⟨_,rfl,x,y,z,rfl⟩
 | n+1,j,b,x,y,z=>by
  rw [jb]
  refine Le.seq (P:=fun b σ=>∃ x y z,σ=sC many i m b x y z) (o:=if m<b+1 then .ex 4 else AB m t (b+1)) (g:=fun b=>gU (fun b=>if m<b+1 then .ex 4 else AB m t (b+1)) n b) hch ?_ (fun b' σ' ⟨x',y',z',e⟩=>by subst e;exact vm hch ht hl n (j+1) b' x' y' z')
  show Le (exs Φ NP (sC many i m b (some (.int (j:Int))) y z) M) M _ _
  have e1:ev Φ (.op .add true (.v 3) (.k (.int 1))) (sC many i m b (some (.int (j:Int))) y z) M=.ok (.int (b+1)) M:=fY rfl rfl
  have e2:ev Φ (.cmp .gt (.v 3) (.v 2)) (sC many i m (b+1) (some (.int (j:Int))) y z) M=.ok (.bl (decide (m<b+1))) M:=qp rfl rfl rfl
  rw [NP,av e1]
  show Le (exs Φ _ (sC many i m (b+1) (some (.int (j:Int))) y z) M) M _ _
  by_cases hm:m<b+1
  ·rw [decide_eq_true hm] at e2
   rw [if_pos hm,bY (x:=xD 4) e2 rfl]
   rfl
  ·rw [decide_eq_false hm] at e2
   rw [if_neg hm,aM e2]
   have:=Le.Lk (Φ:=Φ) (tg:=5) (body:=NO) (g9 (Φ:=Φ) (M:=M) (σ:=sC many i m (b+1) (some (.int (j:Int))) y z) (e:=.k (.int 7)) (n:=7) rfl (by decide)) (vj (Φ:=Φ) (M:=M) (many:=many) (i:=i) (m:=m) (x:=some (.int (j:Int))) (ch:=aF M .ak) rfl ht hl 7 0 (b+1) y z)
   cases ho:AB m t (b+1) with
   | ok a b' =>
    unfold AB at ho
    rw [ho] at this
    obtain ⟨σ',e,y',z',q⟩:=this
    exact ⟨σ',e,_,y',z',q⟩
   | ex c=>unfold AB at ho;rw [ho] at this;exact this
theorem IK {t:Nat} (hm:many<=1000) (ht:i.toNat=t) (hl:t<=1000):(af aq (k+1)).call 25 [.int (many:Int),.int i,.int m] M=.ok (dO (fun _:Unit=>D.int ((many:Int)*(7*zN t))) (rE m t many)) M:=by
 let Φ:=af aq k
 have hb:exs Φ cC.body [some (.int (many:Int)), some (.int i), some (.int m), none, none, none, none] M=exs Φ (.cons (.for [4] (.eE (.v 0)) NP) (.cons (.ret (.tup (.cons (.k (.str (w ""))) (.cons (.op .mul true (.op .mul true (.k (.int 7)) (.v 0)) (.qJ .int (.cmp .lt (.v 1) (.k (.int 1))))) .nil)))) .nil)) (sC many i m 0 none none none) M:=rfl
 have hi:aJ Φ (.eE (.v 0)) (sC many i m 0 none none none) M=.ok (.ak,nats (List.range' 0 many),false) M:=g9 (n:=many) rfl (by omega)
 have q:=vm (Φ:=Φ) (M:=M) (many:=many) (i:=i) (m:=m) (ch:=aF M .ak) rfl ht hl many 0 0 none none none
 show _=R.ok (dO _ (rE m t many)) M
 unfold rE
 cases ho:gU (fun b=>if m<b+1 then .ex 4 else AB m t (b+1)) many 0 with
 | ex c =>
  rw [ho] at q
  exact aQ Lm rfl (hb.trans (ja hi q)) (au (by simp [xD,nr,cG]) rfl)
 | ok a b' =>
  rw [ho] at q
  obtain ⟨σ',e,x,y,z,rfl⟩:=q
  have e1:ev Φ (.qJ .int (.cmp .lt (.v 1) (.k (.int 1)))) (sC many i m b' x y z) M=.ok (.int (zN t)) M:=by
   have h1:ev Φ (.cmp .lt (.v 1) (.k (.int 1))) (sC many i m b' x y z) M=.ok (.bl (decide (i<1))) M:=e_lt rfl rfl rfl
   rw [Ip h1]
   unfold zN
   by_cases h:i<1
   ·simp [h,show t=0 by omega]
   ·simp [h,show t≠0 by omega]
  have e2:ev Φ (.op .mul true (.op .mul true (.k (.int 7)) (.v 0)) (.qJ .int (.cmp .lt (.v 1) (.k (.int 1))))) (sC many i m b' x y z) M=.ok (.int ((many:Int)*(7*zN t))) M:=by
   have:=uS (fz:=true) (uS (Φ:=Φ) (M:=M) (σ:=sC many i m b' x y z) (fz:=true) (e:=.k (.int 7)) (e':=.v 0) (a:=7) (b:=(many:Int)) rfl rfl (by decide +kernel) (iJ (by omega))) e1 (iJ (by omega)) (iJ (by have:=xo (t:=t);omega))
   rw [this]
   congr 2
   rw [Int.mul_comm 7 (many:Int),Int.mul_assoc]
  exact aQ Lm rfl (hb.trans ((fj hi e).trans (bq (LJ rfl e2)))) (au (by simp [nr,cG]) rfl)
end
end bD
end
section
namespace bD
open Fg PySem
noncomputable def cells (ns:List Int):List Int:=0::dg ns none (some 12)
section
variable {k:Nat} {Φ:bz} {M:MH}
theorem wD {ns:List Int}:(cells ns).length<=13:=by
 simp only [cells,dg,List.length_cons,List.length_take,List.length_drop,six]
 have h2:¬ (12:Int)<0:=by decide
 rw [if_neg h2]
 show min (min 12 ns.length-0) _+1<=13
 omega
theorem L5 {α:Type} {v:α->D} (o:Oc α) (hv:∀ a,Fg.plain (v a)=true/\dep (v a)<=50):Fg.plain (dO v o)=true/\dep (dO v o)<=100/\w5 (dO v o) (dO v o)=none/\top M (dO v o)=dO v o:=by
 cases o with
 | ok a b =>
  have:=hv a
  refine ⟨by simp only [dO,Fg.plain,aL,this.1,Bool.and_self],by simp only [dO,dep,deps];omega,rfl,rfl⟩
 | ex c=>exact ⟨by simp [dO,Fg.plain,aL],by simp only [dO,dep,deps];omega,rfl,rfl⟩
theorem vL_p (xs:List Int):Fg.plain (vL xs)=true/\dep (vL xs)<=50:=by
 have:=zy xs
 exact ⟨by simp only [vL,Fg.plain,this.1],by simp only [vL,dep];omega⟩
noncomputable def swE:E:=.cmp .eq (.op .mod true (.v 2) (.k (.int 2))) (.k (.int 0))
noncomputable def yT (a b:Int):E:=.op .mod true (.op .fdiv true (.v 2) (.k (.int a))) (.k (.int b))
noncomputable def brA:Ss:=.cons (.set 4 (yT 2807 8)) (.cons (.set 5 (yT 22456 8)) (.cons (.set 6 (.call 26 (.cons (.call 22 (.cons (.v 4) (.cons (.v 5) .nil))) (.cons (.lst true .nil) (.cons (.v 3) .nil))))) (.cons (.set 7 (.call 24 (.cons (.v 4) (.cons (.v 5) (.cons (.v 3) .nil))))) .nil)))
noncomputable def brB:Ss:=.cons (.set 4 (.op .add true (.k (.int 1)) (yT 2807 5))) (.cons (.set 8 (.op .sub true (yT 14035 13) (.k (.int 1)))) (.cons (.set 6 (.call 26 (.cons (.call 23 (.cons (.v 4) .nil)) (.cons (.lst true (.cons (.v 8) .nil)) (.cons (.v 3) .nil))))) (.cons (.set 7 (.call 25 (.cons (.v 4) (.cons (.v 8) (.cons (.v 3) .nil))))) .nil)))
noncomputable def M5:Ss:=.cons (.set 2 (.call 19 (.cons (.v 1) .nil))) (.cons (.set 3 (yT 7 401)) (.cons (.ifs swE brA brB) (.cons (.ifs (.cmp .ne (.v 6) (.v 7)) (.cons (.ret (.k (.bl false))) .nil) .nil) .nil)))
theorem Cs:zM.body=.cons (.for [1] (.e (.op .add true (.lst true (.cons (.k (.int 0)) .nil)) (.sl true (.v 0) .none (.some (.k (.int 12)))))) M5) (.cons (.ret (.k (.bl true))) .nil):=rfl
theorem qo {σ:Sg} {n a b:Nat} (h:σ[2]? = some (some (.int (n:Int)))) (ha:0<a) (hb:0<b) (hs:a<1073741824):ev Φ (yT a b) σ M=.ok (.int ((n / a % b:Nat):Int)) M:=sI (Ir (e_v h) rfl ha hs) rfl hb
theorem JA {L:D} {c:Int} (x2 x3 x4 x5 x6 x7 x8:Option D):∃ y2 y3 y4 y5 y6 y7 y8,exs (af aq (k+8)) M5 [some L,some (.int c),x2,x3,x4,x5,x6,x7,x8] M=.ok (.nx [some L,some (.int c),y2,y3,y4,y5,y6,y7,y8]) M:=by
 let Φ:=af aq (k+8)
 let n:=GU c
 let m:=n / 7 % 401
 have hm:m<401:=Nat.mod_lt _ (by decide)
 have e1:ev Φ (.call 19 (.cons (.v 1) .nil)) [some L,some (.int c),x2,x3,x4,x5,x6,x7,x8] M=.ok (.int (n:Int)) M:=by
  rw [bW (d:=.int c) (M1:=M) rfl];exact Dt (k:=k+7)
 have e2:ev Φ (yT 7 401) [some L,some (.int c),some (.int (n:Int)),x3,x4,x5,x6,x7,x8] M=.ok (.int (m:Int)) M:=qo (a:=7) (b:=401) rfl (by decide) (by decide) (by decide)
 have e3:ev Φ swE [some L,some (.int c),some (.int (n:Int)),some (.int (m:Int)),x4,x5,x6,x7,x8] M=.ok (.bl (decide (n % 2=0))) M:=LR (b:=0) (sI (b:=2) rfl rfl (by decide)) rfl
 have fin:∀ {σ:Sg} {d:D},σ[6]? = some (some d)->σ[7]? = some (some d)->Fg.plain d=true->dep d<=100->w5 d d=none->top M d=d->exs Φ (.cons (.ifs (.cmp .ne (.v 6) (.v 7)) (.cons (.ret (.k (.bl false))) .nil) .nil) .nil) σ M=.ok (.nx σ) M:=fun h6 h7 hp hd hb ht=>by
  rw [aM (LU (e_v h6) (e_v h7) (Co hb ht hp hd))];rfl
 by_cases h2:n % 2=0
 ·rw [decide_eq_true h2] at e3
  let many:=n / 2807 % 8
  let few:=n / 22456 % 8
  have hmany:many<8:=Nat.mod_lt _ (by decide)
  have hfew:few<8:=Nat.mod_lt _ (by decide)
  let σ (x6 x7:Option D):Sg:=[some L,some (.int c),some (.int (n:Int)),some (.int (m:Int)),some (.int (many:Int)),some (.int (few:Int)),x6,x7,x8]
  have a4:ev Φ (yT 2807 8) [some L,some (.int c),some (.int (n:Int)),some (.int (m:Int)),x4,x5,x6,x7,x8] M=.ok (.int (many:Int)) M:=qo (a:=2807) (b:=8) rfl (by decide) (by decide) (by decide)
  have a5:ev Φ (yT 22456 8) [some L,some (.int c),some (.int (n:Int)),some (.int (m:Int)),some (.int (many:Int)),x5,x6,x7,x8] M=.ok (.int (few:Int)) M:=qo (a:=22456) (b:=8) rfl (by decide) (by decide) (by decide)
  let d:=dO vL (vK (m:Int) many few)
  have a6:ev Φ (.call 26 (.cons (.call 22 (.cons (.v 4) (.cons (.v 5) .nil))) (.cons (.lst true .nil) (.cons (.v 3) .nil)))) (σ x6 x7) M=.ok d M:=by
   refine sJ (x:=.lst ((wo many few).map Fd.d)) (y:=.lst []) (z:=.int (m:Int)) (Iw (x:=.int (many:Int)) (y:=.int (few:Int)) rfl rfl (Du (k:=k+6) (by omega) (by omega))) rfl rfl ?_
   exact Mn (k:=k) (nu:=[]) (m:=(m:Int)) KI CT (by show (0:Nat)<=1000;omega) (J1 (by omega) (by omega)) (by decide)
  have a7:ev Φ (.call 24 (.cons (.v 4) (.cons (.v 5) (.cons (.v 3) .nil)))) (σ (some d) x7) M=.ok d M:=by
   refine sJ (x:=.int (many:Int)) (y:=.int (few:Int)) (z:=.int (m:Int)) rfl rfl rfl ?_
   have:=IJ (k:=k+7) (M:=M) (many:=many) (few:=few) (m:=(m:Int)) (by omega) (by omega)
   rw [Dh] at this
   exact this
  obtain ⟨p1,p2,p3,p4⟩:=L5 (M:=M) (vK (m:Int) many few) vL_p
  have br:exs Φ brA [some L,some (.int c),some (.int (n:Int)),some (.int (m:Int)),x4,x5,x6,x7,x8] M=.ok (.nx (σ (some d) (some d))) M:=(av a4).trans ((av a5).trans ((av a6).trans ((av a7).trans rfl)))
  exact ⟨some (.int (n:Int)),some (.int (m:Int)),some (.int (many:Int)),some (.int (few:Int)),some d,some d,x8,(av e1).trans ((av e2).trans ((pq e3 br).trans (fin (σ:=σ (some d) (some d)) rfl rfl p1 p2 p3 p4)))⟩
 ·rw [decide_eq_false h2] at e3
  let q:=n / 2807 % 5
  have hq:q<5:=Nat.mod_lt _ (by decide)
  let g:=n / 14035 % 13
  have hg:g<13:=Nat.mod_lt _ (by decide)
  let i:Int:=(g:Int)-1
  let σ (x6 x7:Option D):Sg:=[some L,some (.int c),some (.int (n:Int)),some (.int (m:Int)),some (.int ((q+1:Nat):Int)),x5,x6,x7,some (.int i)]
  have a4:ev Φ (.op .add true (.k (.int 1)) (yT 2807 5)) [some L,some (.int c),some (.int (n:Int)),some (.int (m:Int)),x4,x5,x6,x7,x8] M=.ok (.int ((q+1:Nat):Int)) M:=by
   have:=Ae (fz:=true) (Φ:=Φ) (M:=M) (σ:=[some L,some (.int c),some (.int (n:Int)),some (.int (m:Int)),x4,x5,x6,x7,x8]) (e:=.k (.int 1)) (a:=1) (b:=q) rfl (qo (a:=2807) (b:=5) rfl (by decide) (by decide) (by decide))
   rw [Nat.add_comm] at this
   exact this
  have a8:ev Φ (.op .sub true (yT 14035 13) (.k (.int 1))) [some L,some (.int c),some (.int (n:Int)),some (.int (m:Int)),some (.int ((q+1:Nat):Int)),x5,x6,x7,x8] M=.ok (.int i) M:=qm (qo (a:=14035) (b:=13) rfl (by decide) (by decide) (by decide)) rfl
  let t:=i.toNat
  have ht:t<=12:=by show ((g:Int)-1).toNat<=12;omega
  let d:=dO (fun _:Unit=>D.int (((q+1:Nat):Int)*(7*zN t))) (rE (m:Int) t (q+1))
  have a6:ev Φ (.call 26 (.cons (.call 23 (.cons (.v 4) .nil)) (.cons (.lst true (.cons (.v 8) .nil)) (.cons (.v 3) .nil)))) (σ x6 x7) M=.ok d M:=by
   refine sJ (x:=.lst ((lK q).map Fd.d)) (y:=.lst [.int i]) (z:=.int (m:Int)) ?_ rfl rfl ?_
   ·rw [bW (d:=.int ((q+1:Nat):Int)) (M1:=M) rfl];exact Ax (k:=k+7) (by omega)
   ·exact Mp (k:=k) (nu:=[.int i]) (m:=(m:Int)) KJ Ib (by show (1:Nat)<=1000;omega) (FP (i:=i) rfl (by omega) (by show ((g:Int)-1).natAbs<=100;omega) (by omega)) (by decide)
  have a7:ev Φ (.call 25 (.cons (.v 4) (.cons (.v 8) (.cons (.v 3) .nil)))) (σ (some d) x7) M=.ok d M :=
   sJ (x:=.int ((q+1:Nat):Int)) (y:=.int i) (z:=.int (m:Int)) rfl rfl rfl (IK (k:=k+7) (by omega) rfl (by omega))
  obtain ⟨p1,p2,p3,p4⟩:=L5 (M:=M) (v:=fun _:Unit=>D.int (((q+1:Nat):Int)*(7*zN t))) (rE (m:Int) t (q+1)) (fun _=>⟨by simp [Fg.plain],by simp [dep]⟩)
  have br:exs Φ brB [some L,some (.int c),some (.int (n:Int)),some (.int (m:Int)),x4,x5,x6,x7,x8] M=.ok (.nx (σ (some d) (some d))) M:=(av a4).trans ((av a8).trans ((av a6).trans ((av a7).trans rfl)))
  exact ⟨some (.int (n:Int)),some (.int (m:Int)),some (.int ((q+1:Nat):Int)),x5,some d,some d,some (.int i),(av e1).trans ((av e2).trans ((m9 e3 br).trans (fin (σ:=σ (some d) (some d)) rfl rfl p1 p2 p3 p4)))⟩
theorem ux {L:D} {ch:MH->Bool} (hch:ch M=true):∀ (cs:List Int) (x1 x2 x3 x4 x5 x6 x7 x8:Option D),∃ σ',aI (exs (af aq (k+8)) M5) [1] ch (cs.map D.int) [some L,x1,x2,x3,x4,x5,x6,x7,x8] M=.ok (.nx σ') M
 | [],_,_,_,_,_,_,_,_=>⟨_,rfl⟩
 | c::cs,x1,x2,x3,x4,x5,x6,x7,x8=>by
  obtain ⟨y2,y3,y4,y5,y6,y7,y8,q⟩:=JA (k:=k) (M:=M) (L:=L) (c:=c) x2 x3 x4 x5 x6 x7 x8
  obtain ⟨σ',q'⟩:=ux (L:=L) hch cs (some (.int c)) y2 y3 y4 y5 y6 y7 y8
  refine ⟨σ',?_⟩
  rw [List.map_cons,aI]
  show ((exs (af aq (k+8)) M5 [some L,some (.int c),x2,x3,x4,x5,x6,x7,x8] M).bind _)=_
  rw [q]
  show (if ch M then _ else _)=_
  rw [if_pos hch]
  exact q'
theorem za {k:Nat} (ns:List Int) (hns:ns.length<=63):∃ M',(af aq (k+9)).call 27 [.lst (ns.map .int)] []=.ok (.bl true) M':=by
 let Φ:=af aq (k+8)
 let L:D:=.lst (ns.map D.int)
 have es:ev Φ (.sl true (.v 0) .none (.some (.k (.int 12)))) [some L,none,none,none,none,none,none,none,none] []=.ok (.lst ((dg ns none (some 12)).map D.int)) []:=by
  rw [Lv,e_v (d:=L) rfl,R.aa,zS,R.aa,zR,qg,R.aa]
  show R.ok (D.lst (dg (ns.map D.int) none (some 12))) []=_
  congr 2
  simp only [dg,List.length_map,List.map_take,List.map_drop]
 have hl:=wD (ns:=ns)
 have e1:ev Φ (.op .add true (.lst true (.cons (.k (.int 0)) .nil)) (.sl true (.v 0) .none (.some (.k (.int 12))))) [some L,none,none,none,none,none,none,none,none] []=.ok (.lst ((cells ns).map D.int)) []:=by
  rw [kX,show ev Φ (.lst true (.cons (.k (.int 0)) .nil)) [some L,none,none,none,none,none,none,none,none] []=.ok (.lst [.int 0]) [] from rfl,R.aa,es,R.aa]
  show (if decide ([D.int 0].length+((dg ns none (some 12)).map D.int).length<=line) then cH true _ [] else .bad)=_
  rw [if_pos (decide_eq_true (by
   rw [List.length_map]
   have:(dg ns none (some 12)).length+1<=13:=hl
   show 1+(dg ns none (some 12)).length<=1000000
   omega))]
  rfl
 have hi:aJ Φ (.e (.op .add true (.lst true (.cons (.k (.int 0)) .nil)) (.sl true (.v 0) .none (.some (.k (.int 12)))))) [some L,none,none,none,none,none,none,none,none] []=.ok (.lst ((cells ns).map D.int),(cells ns).map D.int,false) []:=by
  rw [zW,e1,R.aa]
  rfl
 obtain ⟨σ',q⟩:=ux (k:=k) (M:=[]) (L:=L) (ch:=aF [] (.lst ((cells ns).map D.int))) rfl (cells ns) none none none none none none none none
 exact ⟨[],aQ fn27 rfl (by rw [Cs];exact (fj hi q).trans (bq rfl)) rfl⟩
end
end bD
end
section
namespace bD
open Fg PySem PySem.Spec L2
theorem JC:tb.ok tb.gm aq=true:=by decide +kernel
theorem L8 {d:DefRec} (hd:d.params.defaults=[]) (hx:d.name=("law" : Str)) {XP:(Str->Option Value)->Heap->Prop}:W.WalkO HQ hdL XP (tb.hook aq).says PySem.Challenge.rw_fieldgate_k16_great_lists_and_many_calls.row.toRowW d [] (fun f vs=>PySem.call f vs) :=
 tb.walk aq (l:=PySem.Challenge.rw_fieldgate_k16_great_lists_and_many_calls) (r:=tb.fn[19]'(by decide)) (x:="_law_script") 8 rfl hd ⟨rfl, by decide, by decide⟩ JC (List.getElem_mem _) hx rfl rfl fun ns h=>za (k:=0) ns h
end bD
end
section
open PySem PySem.W PyProof.Rows
set_option maxRecDepth 100000 in
set_option maxHeartbeats 0 in
theorem PySem.Challenge.cw_fieldgate_k16_great_lists_and_many_calls_holds : PySem.Challenge.rw_fieldgate_k16_great_lists_and_many_calls.Holds := by
 w_on
 refine holds_law (by decide +kernel) fun said => ?_
 refine holds_open (XP := XL bD.HQ []) bD.lft (bD.tb.hook bD.aq).of (bD.tb.hook bD.aq).keeps
  (fun s e => xl_of s (Bool.and_eq_true_iff.mp e).1) XL.keeps (by rfl) (by rfl) (by rfl)
  (fun s e => recFacts_of (Bool.and_eq_true_iff.mp e).2) (by rfl) said (by decide +kernel)
  ⟨rfl,rfl,rfl,rfl,rfl,by decide +kernel⟩ ?hw (bD.L8 rfl rfl)
 w_witness2
end
