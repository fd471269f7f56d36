import PyProof.Rows.All
import Wide.All
import OpenK.AllK
import Wide.FinOn
import Lean
import PyProof.EqAt
import PyProof.EqKinds
import PyProof.TupleCall
import PyProof.NeKinds
import PyProof.CompFree
import PyProof.ListRange
import PyProof.Rows.FStr
import PyProof.ConsumeWalk
import PyProof.ZipIter
import PyProof.TableCode
import PySem.Challenge.RW_fieldgate_k41_rows_of_numbers
set_option maxRecDepth 100000
set_option linter.all false
set_option Elab.async false
section
namespace L2
open PySem
noncomputable def inClass (s:Stmt) (j:Nat):Stmt:=match s with
 | .ClassDef _ _ _ body _ _ _ _ _ _ _=>body.getD j (.Pass ⟨0,0,0,0⟩)
 | _=>.Pass ⟨0,0,0,0⟩
noncomputable def g7 (s:Stmt):Arguments:=match s with
 | .FunctionDef _ a _ _ _ _ _ _ _ _=>a
 | _=>{ posonlyargs:=[],args:=[],vararg:=none,kwonlyargs:=[],kw_defaults:=[],kwarg:=none,defaults:=[] }
noncomputable def bX (s:Stmt):List Stmt:=match s with
 | .FunctionDef _ _ b _ _ _ _ _ _ _=>b
 | _=>[]
noncomputable def aC (s:Stmt):Scope:=match s with
 | .FunctionDef _ _ _ _ _ _ sc _ _ _=>sc
 | _=>{ kind:=.function,names:=[],isGenerator:=false,isCoroutine:=false }
end L2
end
section
namespace Fg
open PySem
abbrev Ky:=Sum Int Str
inductive D where
 | ak
 | bl (b:Bool)
 | int (i:Int)
 | str (x:Str)
 | tup (ds:List D)
 | lst (ds:List D)
 | dct (ks:List Ky) (ds:List D)
 | ref (n:Nat)
mutual
def same (a b:D):Bool:=match a with
 | .ak=>match b with | .ak=>true | _=>false
 | .bl x=>match b with | .bl y=>decide (x=y) | _=>false
 | .int x=>match b with | .int y=>decide (x=y) | _=>false
 | .str x=>match b with | .str y=>decide (x=y) | _=>false
 | .tup x=>match b with | .tup y=>fk x y | _=>false
 | .lst x=>match b with | .lst y=>fk x y | _=>false
 | .dct k x=>match b with | .dct l y=>decide (k=l)&&fk x y | _=>false
 | .ref x=>match b with | .ref y=>decide (x=y) | _=>false
def fk (a b:List D):Bool:=match a with
 | []=>match b with | []=>true | _=>false
 | x::xs=>match b with | y::ys=>same x y&&fk xs ys | _=>false
end
mutual
theorem sj:∀ (a b:D),same a b=true->a=b
 | .ak,b,h=>by cases b <;> simp [same] at h ⊢
 | .bl x,b,h=>by cases b <;> simp [same] at h ⊢;exact h
 | .int x,b,h=>by cases b <;> simp [same] at h ⊢;exact h
 | .str x,b,h=>by cases b <;> simp [same] at h ⊢;exact h
 | .tup x,b,h=>by cases b <;> simp [same] at h ⊢;exact gG _ _ h
 | .lst x,b,h=>by cases b <;> simp [same] at h ⊢;exact gG _ _ h
 | .dct k x,b,h=>by cases b <;> simp [same] at h ⊢;exact ⟨h.1,gG _ _ h.2⟩
 | .ref x,b,h=>by cases b <;> simp [same] at h ⊢;exact h
theorem gG:∀ (a b:List D),fk a b=true->a=b
 | [],b,h=>by cases b <;> simp [fk] at h ⊢
 | x::xs,b,h=>by
  cases b with
  | nil=>simp [fk] at h
  | cons y ys=>simp only [fk,Bool.and_eq_true] at h;rw [sj x y h.1,gG xs ys h.2]
end
mutual
theorem same_refl:∀ (a:D),same a a=true
 | .ak=>by simp [same]
 | .bl x=>by simp [same]
 | .int x=>by simp [same]
 | .str x=>by simp [same]
 | .tup x=>by simp only [same];exact dY x
 | .lst x=>by simp only [same];exact dY x
 | .dct k x=>by simp only [same,dY x];simp
 | .ref x=>by simp [same]
theorem dY:∀ (a:List D),fk a a=true
 | []=>by simp [fk]
 | x::xs=>by simp only [fk,same_refl x,dY xs,Bool.and_self]
end
instance:DecidableEq D:=fun a b=>decidable_of_iff (same a b=true) ⟨sj a b,fun h=>h ▸ same_refl a⟩
inductive MO where
 | lst (ds:List D)
 | dct (kvs:List (Ky×D))
 | nE (kvs:List (Ky×D))
 | ins (c:Nat) (fs:List (Str×D))
 deriving DecidableEq
noncomputable abbrev MH:=List MO
noncomputable abbrev Sg:=List (Option D)
inductive R (α:Type) where
 | ok (a:α) (M:MH)
 | exc (c:Nat) (M:MH)
 | bad
noncomputable def R.bind {α β:Type} (x:R α) (f:α->MH->R β):R β :=
 match x with
 | .ok a M=>f a M
 | .exc c M=>.exc c M
 | .bad=>.bad
@[simp] theorem R.af {α β:Type} (a:α) (M:MH) (f:α->MH->R β):(R.ok a M).bind f=f a M:=rfl
@[simp] theorem R.ku {α β:Type} (c:Nat) (M:MH) (f:α->MH->R β):(R.exc c M:R α).bind f=.exc c M:=rfl
@[simp] theorem R.g9 {α β:Type} (f:α->MH->R β):(R.bad:R α).bind f=.bad:=rfl
inductive BL where
 | add | sub | mul | fdiv | mod | pow
inductive zk where
 | eq | ne | lt | le | gt | ge | isin | oE | y9 | qy
inductive Ty where
 | int | str | bool | list | tuple | dict
inductive Bl where
 | len | sum | tuple | list | dict | str | int | abs | max | min | sorted | all | any | repr
inductive Mt where
 | append | extend | pop | reverse | clear | get | join | startswith | replace | split | index | count
inductive F1 where
 | abs | int
mutual
inductive E where
 | v (i:Nat)
 | k (d:D)
 | g (i:Nat)
 | tup (es:Es)
 | lst (fz:Bool) (es:Es)
 | Bw
 | op (o:BL) (fz:Bool) (a b:E)
 | neg (a:E)
 | cmp (o:zk) (a b:E)
 | chain (o o':zk) (a b c:E)
 | and (a b:E)
 | or (a b:E)
 | not (a:E)
 | tru (a:E)
 | x6 (c a b:E)
 | idx (a b:E)
 | sl (fz:Bool) (a:E) (lo hi:O)
 | call (f:Nat) (es:Es)
 | lD (a:E) (t:Ty)
 | blt (b:Bl) (fz:Bool) (es:Es)
 | aK (m:Mt) (fz:Bool) (a:E) (es:Es)
 | comp (fz:Bool) (caps:List Nat) (tg:List Nat) (elt:E) (it:Src) (cond:O)
 | fld (a:E) (f:Str)
 | cY (c m:Nat) (nm:Str) (a:E) (es:Es)
 | new (c i:Nat) (es:Es)
 | mx (hi:Bool) (a b:E)
 | Ke (fz:Bool) (a b:E)
 | Kf (fz:Bool) (a:E)
 | rv (fz:Bool) (a:E)
 | all1 (a:E)
 | j3 (f:F1) (a:E)
 | uf (f:Nat) (es:Es) (d:Int)
 | bad
inductive Es where
 | nil
 | cons (e:E) (es:Es)
inductive O where
 | none
 | some (e:E)
inductive Src where
 | e (a:E)
 | eF (a:E)
 | DC (a b:E)
 | enum (a:E)
 | items (a:E)
 | rev (a:E)
 | zip (a b:E)
end
mutual
inductive S where
 | set (i:Nat) (e:E)
 | qi (a b e:E)
 | bK (a:E) (f:Str) (e:E)
 | BS (tg:List Nat) (e:E)
 | ex (e:E)
 | ret (e:E)
 | DE
 | ifs (c:E) (a b:Ss)
 | for (tg:List Nat) (it:Src) (b:Ss)
 | while (c:E) (b:Ss)
 | brk
 | cont
 | pass
 | raise (c:Nat) (es:Es)
 | try (b:Ss) (hs:Hs) (els:Ss)
 | bad
inductive Ss where
 | nil
 | cons (s:S) (ss:Ss)
inductive Hs where
 | nil
 | cons (cs:List Nat) (b:Ss) (hs:Hs)
end
inductive Out where
 | nx (Z:Sg)
 | rt (d:D)
 | bk (Z:Sg)
 | ct (Z:Sg)
 | xc (c:Nat) (Z:Sg)
noncomputable def R.use {α:Type} (x:R α) (Z:Sg) (f:α->MH->R Out):R Out :=
 match x with
 | .ok a M=>f a M
 | .exc c M=>.ok (.xc c Z) M
 | .bad=>.bad
@[simp] theorem R.fh {α:Type} (a:α) (M:MH) (Z:Sg) (f:α->MH->R Out):(R.ok a M).use Z f=f a M:=rfl
@[simp] theorem R.rQ {α:Type} (c:Nat) (M:MH) (Z:Sg) (f:α->MH->R Out):(R.exc c M:R α).use Z f=.ok (.xc c Z) M:=rfl
@[simp] theorem R.J0 {α:Type} (Z:Sg) (f:α->MH->R Out):(R.bad:R α).use Z f=.bad:=rfl
inductive Vw where
 | tup (ds:List D)
 | lst (ds:List D)
 | dct (kvs:List (Ky×D))
 | none
noncomputable def vw (M:MH):D->Vw
 | .tup ds=>.tup ds
 | .lst ds=>.lst ds
 | .dct ks ds=>.dct (ks.zip ds)
 | .ref n=>match M[n]? with
  | some (.lst ds)=>.lst ds
  | some (.dct kvs)=>.dct kvs
  | some (.nE kvs)=>.dct kvs
  | _=>.none
 | _=>.none
noncomputable def line:Nat:=1000000
noncomputable def small (i:Int):Bool:=decide (i.natAbs<18446744073709551616)
noncomputable def mid (i:Int):Bool:=decide (i.natAbs<10 ^ 200)
noncomputable def gn:BL->Int->Int->Option Int
 | .add,i,j=>some (i+j)
 | .sub,i,j=>some (i-j)
 | .mul,i,j=>if small i||small j then some (i*j) else if mid i&&mid j then some (i*j) else none
 | .fdiv,i,j=>if decide (0<j)&&decide (j.natAbs<1073741824) then some (i / j) else none
 | .mod,i,j=>if decide (0<j) then some (i % j) else none
 | .pow,i,j=>if decide (0<=j)&&(decide (j<=1000000)&&decide (i.natAbs<18446744073709551616)) then some (i ^ j.toNat) else none
noncomputable def bY (fz:Bool) (ds:List D) (M:MH):R D:=if fz then .ok (.lst ds) M else .ok (.ref M.length) (M++[.lst ds])
noncomputable def uR (o:BL) (fz:Bool) (M:MH):D->D->R D
 | .int i,.int j=>match gn o i j with
  | some k=>.ok (.int k) M
  | none=>.bad
 | .str x,.str y=>match o with
  | .add=>if decide (x.length+y.length<=line) then .ok (.str (x++y)) M else .bad
  | _=>.bad
 | a, b=>match o with
  | .add=>match vw M a,vw M b with
   | .lst xs,.lst ys=>if decide (xs.length+ys.length<=line) then bY fz (xs++ys) M else .bad
   | .tup xs,.tup ys=>if !xs.isEmpty&&decide (xs.length+ys.length<=line) then .ok (.tup (xs++ys)) M else .bad
   | _,_=>.bad
  | .mul=>match vw M a,b with
   | .lst xs,.int k=>if decide (xs.length*k.toNat<=line)&&decide (k.natAbs<=1000000) then bY fz (List.replicate k.toNat xs).flatten M else .bad
   | _,_=>.bad
  | _=>.bad
mutual
noncomputable def plain:D->Bool
 | .ak=>true
 | .bl _=>false
 | .int _=>true
 | .str _=>true
 | .tup ds=>au ds
 | .lst ds=>au ds
 | .dct _ _=>false
 | .ref _=>false
noncomputable def au:List D->Bool
 | []=>true
 | d::ds=>plain d&&au ds
end
mutual
noncomputable def dep:D->Nat
 | .tup ds=>deps ds+1
 | .lst ds=>deps ds+1
 | .dct _ ds=>deps ds+1
 | .ak=>0
 | .bl _=>0
 | .int _=>0
 | .str _=>0
 | .ref _=>0
noncomputable def deps:List D->Nat
 | []=>0
 | d::ds=>max (dep d) (deps ds)
end
mutual
noncomputable def aI:D->D->Bool
 | .ak,.ak=>true
 | .bl a,.bl b=>a == b
 | .int a,.int b=>decide (a=b)
 | .str a,.str b=>decide (a=b)
 | .tup a,.tup b=>dF a b
 | .lst a,.lst b=>dF a b
 | _,_=>false
noncomputable def dF:List D->List D->Bool
 | [],[]=>true
 | a::as,b::bs=>aI a b&&dF as bs
 | _,_=>false
end
noncomputable def keyOf:D->Option Ky
 | .int i=>some (.inl i)
 | .str x=>some (.inr x)
 | _=>none
noncomputable def Kh:Ky->D
 | .inl i=>.int i
 | .inr x=>.str x
noncomputable def look (kvs:List (Ky×D)) (k:Ky):Option D:=(kvs.find? fun kv=>decide (kv.1=k)).map (·.2)
noncomputable def put (kvs:List (Ky×D)) (k:Ky) (v:D):List (Ky×D) :=
 if kvs.any (fun kv=>decide (kv.1=k)) then kvs.map fun kv=>if kv.1=k then (kv.1,v) else kv else kvs++[(k,v)]
noncomputable def top (M:MH):D->D
 | .ref n=>match M[n]? with
  | some (.lst ds)=>.lst ds
  | _=>.ref n
 | d=>d
noncomputable def flat:D->Bool
 | .ak=>true
 | .int _=>true
 | .str _=>true
 | _=>false
noncomputable def aV (a b:D):Bool:=(plain a&&plain b)&&(decide (dep a<=100)||decide (dep b<=100))
noncomputable def jO (M:MH) (a b:D):Option Bool:=match vw M a,vw M b with
 | .lst xs,.lst ys=>if ys.isEmpty then some xs.isEmpty else none
 | _,_=>none
noncomputable def deep:Nat->MH->D->D
 | 0,_,d=>d
 | n+1,M,d=>match d with
  | .ref r=>(match M[r]? with
   | some (.lst ds)=>.lst (ds.map (deep n M))
   | _=>.ref r)
  | .tup ds=>.tup (ds.map (deep n M))
  | .lst ds=>.lst (ds.map (deep n M))
  | d=>d
noncomputable def Bo (M:MH) (neg:Bool) (a b:D):R D:=if aV (deep 5 M a) (deep 5 M b) then .ok (.bl (if neg then !aI (deep 5 M a) (deep 5 M b) else aI (deep 5 M a) (deep 5 M b))) M else .bad
noncomputable def yG (M:MH) (f:Int->Int->Bool) (a b:D):R D:=match a with
 | .int i=>(match b with | .int j=>.ok (.bl (f i j)) M | _=>.bad)
 | _=>.bad
noncomputable def GP (M:MH) (a b:D):R D:=if aV (top M a) (top M b) then .ok (.bl (aI (top M a) (top M b))) M else (match jO M a b with | some t=>.ok (.bl t) M | none=>Bo M false a b)
noncomputable def sR (M:MH) (a b:D):R D:=if aV (top M a) (top M b) then .ok (.bl (!aI (top M a) (top M b))) M else (match jO M a b with | some t=>.ok (.bl (!t)) M | none=>Bo M true a b)
noncomputable def dM:D->Bool
 | .ak=>true
 | _=>false
noncomputable def ug (a b:D):Option (Bool×Bool):=match a with
 | .bl x=>(match b with | .bl y=>some (x,y) | _=>none)
 | _=>none
noncomputable def FA (M:MH) (a b:D):Option Bool:=match vw M b with
 | .dct kvs=>(match keyOf a with | some k=>some (look kvs k).isSome | none=>none)
 | .lst ds=>if flat a&&ds.all flat then some (ds.any fun d=>aI d a) else none
 | .tup ds=>if flat a&&ds.all flat then some (ds.any fun d=>aI d a) else none
 | .none=>none
noncomputable def bh (o:zk) (M:MH) (a b:D):R D :=
 match o with
 | .lt=>yG M (fun i j=>decide (i<j)) a b
 | .le=>yG M (fun i j=>decide (i<=j)) a b
 | .gt=>yG M (fun i j=>decide (j<i)) a b
 | .ge=>yG M (fun i j=>decide (j<=i)) a b
 | .eq=>(match ug a b with | some p=>.ok (.bl (p.1 == p.2)) M | none=>GP M a b)
 | .ne=>(match ug a b with | some p=>.ok (.bl (!(p.1 == p.2))) M | none=>sR M a b)
 | .y9=>if dM b then .ok (.bl (dM a)) M else .bad
 | .qy=>if dM b then .ok (.bl (!dM a)) M else .bad
 | .isin=>(match FA M a b with | some t=>.ok (.bl t) M | none=>.bad)
 | .oE=>(match FA M a b with | some t=>.ok (.bl (!t)) M | none=>.bad)
noncomputable def yZ (n:Nat) (i:Int):Option Nat:=if 0<=i then (if i<n then some i.toNat else none) else if -(n:Int)<=i then some (i+n).toNat else none
noncomputable def dU {α:Type} (xs:List α) (i:Int):Option α:=(yZ xs.length i).bind fun j=>xs[j]?
noncomputable def six (n d:Nat):Option Int->Nat
 | none=>d
 | some v=>if v<0 then (v+(n:Int)).toNat else min v.toNat n
noncomputable def eU {α:Type} (xs:List α) (lo hi:Option Int):List α:=(xs.drop (six xs.length 0 lo)).take (six xs.length xs.length hi-six xs.length 0 lo)
noncomputable def cuts (x:Str) (lo hi:Option Int):Str:=⟨(eU x.cps.toList lo hi).toArray⟩
noncomputable def oS (M:MH) (a b:D):R D :=
 match a,b with
 | .str x,.int i=>if decide (x.length<=line) then (match dU x.cps.toList i with
  | some c=>.ok (.str ⟨#[c]⟩) M
  | none=>.bad) else .bad
 | a, b=>match vw M a, b with
  | .tup ds,.int i=>match dU ds i with
   | some d=>.ok d M
   | none=>.bad
  | .lst ds,.int i=>match dU ds i with
   | some d=>.ok d M
   | none=>.bad
  | .dct kvs,b=>match keyOf b with
   | some k=>match look kvs k with
    | some d=>.ok d M
    | none=>.bad
   | none=>.bad
  | _,_=>.bad
noncomputable def CB (n:Nat) (lo hi:Option Int):Bool:=decide (six n 0 lo=0)&&decide (six n n hi=n)
noncomputable def sl2 (fz:Bool) (M:MH) (a:D) (lo hi:Option Int):R D :=
 match a with
 | .str x=>if decide (x.length<=line) then .ok (.str (cuts x lo hi)) M else .bad
 | a=>match vw M a with
  | .tup ds=>if CB ds.length lo hi then .bad else .ok (.tup (eU ds lo hi)) M
  | .lst ds=>bY fz (eU ds lo hi) M
  | _=>.bad
noncomputable def Fy (M:MH) (t:Ty):D->Bool
 | .int _=>match t with | .int=>true | _=>false
 | .bl _=>match t with | .int=>true | .bool=>true | _=>false
 | .str _=>match t with | .str=>true | _=>false
 | .tup _=>match t with | .tuple=>true | _=>false
 | .lst _=>match t with | .list=>true | _=>false
 | .dct _ _=>match t with | .dict=>true | _=>false
 | .ak=>false
 | .ref n=>match M[n]? with
  | some (.lst _)=>(match t with | .list=>true | _=>false)
  | some (.dct _)=>(match t with | .dict=>true | _=>false)
  | some (.nE _)=>(match t with | .dict=>true | _=>false)
  | _=>false
noncomputable def vC (M:MH):D->Bool
 | .ref n=>match M[n]? with
  | some (.lst _)=>true
  | some (.dct _)=>true
  | some (.nE _)=>true
  | _=>false
 | _=>true
noncomputable def intsOf:List D->Option (List Int)
 | []=>some []
 | .int i::ds=>(intsOf ds).map (i::·)
 | _=>none
noncomputable def boolsOf:List D->Option (List Bool)
 | []=>some []
 | .bl b::ds=>(boolsOf ds).map (b::·)
 | _=>none
noncomputable def qR:F1->D->Option D
 | .abs,.int i=>some (.int (if i<0 then -i else i))
 | .int,.bl b=>some (.int (if b then 1 else 0))
 | .int,.int i=>some (.int i)
 | _,_=>none
noncomputable def itemsOf (M:MH) (d:D):Option (List D) :=
 match d with
 | .str _=>none
 | .dct _ _=>none
 | d=>match vw M d with
  | .tup ds=>some ds
  | .lst ds=>some ds
  | .dct kvs=>some (kvs.map fun kv=>Kh kv.1)
  | .none=>none
noncomputable def wk (M:MH):D->Bool
 | .ref n=>match M[n]? with
  | some (.dct _)=>true
  | _=>false
 | _=>false
noncomputable def walk (M:MH):D->MH
 | .ref n=>match M[n]? with
  | some (.dct kvs)=>M.set n (.nE kvs)
  | _=>M
 | _=>M
noncomputable def eO (b:Bool) (d:D) (M:MH):MH:=match b,d with
 | true,.ref n=>match M[n]? with
  | some (.nE kvs)=>M.set n (.dct kvs)
  | _=>M
 | _,_=>M
noncomputable def R.fin {α:Type} (x:R α) (f:MH->MH):R α:=match x with
 | .ok a M=>.ok a (f M)
 | .exc c M=>.exc c (f M)
 | .bad=>.bad
noncomputable def pR (b:Bl) (fz:Bool) (M:MH):List D->R D
 | [.str x]=>match b with
  | .len=>if decide (x.length<=line) then .ok (.int x.length) M else .bad
  | _=>.bad
 | [d]=>match b,vw M d with
  | .len,.tup ds=>.ok (.int ds.length) M
  | .len,.lst ds=>.ok (.int ds.length) M
  | .len,.dct kvs=>.ok (.int kvs.length) M
  | .sum,.lst ds=>match intsOf ds with
   | some ns=>.ok (.int ns.sum) M
   | none=>.bad
  | .tuple,.lst ds=>.ok (.tup ds) M
  | .tuple,.tup ds=>.ok (.tup ds) M
  | .list,.lst ds=>bY fz ds M
  | .list,.tup ds=>bY fz ds M
  | .dict,.dct kvs=>.ok (.ref M.length) (M++[.dct kvs])
  | _,_=>.bad
 | _=>.bad
noncomputable def A6:D->Option (List D)
 | .tup ds=>some ds
 | .lst ds=>some ds
 | _=>none
noncomputable def vJ:D->Option (List D)
 | .tup ds=>some ds
 | _=>none
noncomputable def sS:D->Option (List D)
 | .lst ds=>some ds
 | _=>none
theorem AN {d:D} {ds:List D} (h:sS d=some ds):d=.lst ds:=by
 cases d <;> first | (cases h;rfl) | cases h
theorem zm {d:D} {ds:List D} (h:vJ d=some ds):d=.tup ds:=by
 cases d <;> first | (cases h;rfl) | cases h
noncomputable def gg (M:MH) (a:D):Option (Nat×List D):=match a with
 | .ref n=>(match M[n]? with | some (.lst xs)=>some (n,xs) | _=>none)
 | _=>none
theorem cN {M:MH} {n:Nat} {xs:List D} (h:M[n]? = some (.lst xs)):gg M (.ref n)=some (n,xs):=by simp only [gg,h]
theorem ji {M:MH} {a:D} {p:Nat×List D} (h:gg M a=some p):a=.ref p.1/\M[p.1]? = some (.lst p.2):=by
 cases a with
 | ref n =>
  simp only [gg] at h
  split at h
  ·rename_i xs hx;cases h;exact ⟨rfl,hx⟩
  ·cases h
 | _=>cases h
noncomputable def uS (ds:List D) (k:D->R D):R D:=match ds with
 | d::r=>(match r with | []=>k d | _::_=>.bad)
 | []=>.bad
noncomputable def oH (m:Mt) (M:MH) (n:Nat) (xs ds:List D):R D:=match m with
 | .append=>uS ds fun d=>if decide (xs.length<line) then .ok .ak (M.set n (.lst (xs++[d]))) else .bad
 | .extend=>uS ds fun d=>(match vJ d with
  | some ys=>if decide (xs.length+ys.length<=line) then .ok .ak (M.set n (.lst (xs++ys))) else .bad
  | none=>.bad)
 | .pop=>if ds.isEmpty then (match xs[xs.length-1]? with
  | some d=>.ok d (M.set n (.lst xs.dropLast))
  | none=>.bad) else .bad
 | .reverse=>if ds.isEmpty then .ok .ak (M.set n (.lst xs.reverse)) else .bad
 | .clear=>if ds.isEmpty then .ok .ak (M.set n (.lst [])) else .bad
 | _=>.bad
noncomputable def gp (m:Mt) (fz:Bool) (M:MH) (a:D) (ds:List D):R D:=match gg M a with
 | some p=>oH m M p.1 p.2 ds
 | none=>.bad
noncomputable def oJ (m:Mt) (M:MH) (a:D):Bool:=(gg M a).isSome&&(match m with | .append=>true | .extend=>true | .pop=>true | .reverse=>true | .clear=>true | _=>false)
noncomputable def l7 (M:MH) (a b d:D):R Unit :=
 match a with
 | .ref n=>match M[n]?,b with
  | some (.lst xs),.int i=>match yZ xs.length i with
   | some j=>.ok () (M.set n (.lst (xs.set j d)))
   | none=>.bad
  | some (.dct kvs),b=>match keyOf b with
   | some k=>if decide (kvs.length<line) then .ok () (M.set n (.dct (put kvs k d))) else .bad
   | none=>.bad
  | _,_=>.bad
 | _=>.bad
noncomputable def iw {α:Type}:List Nat->List α->List (Option α)->List (Option α)
 | i::tg,x::xs,Z=>iw tg xs (Z.set i (some x))
 | _,_,Z=>Z
noncomputable def sets (tg:List Nat) (M:MH) (d:D) (Z:Sg):Option Sg :=
 match tg with
 | [i]=>some (Z.set i (some d))
 | [i,j]=>match d with
  | .tup [x,y]=>some ((Z.set i (some x)).set j (some y))
  | _=>none
 | []=>none
 | tg=>match d with
  | .tup xs=>if xs.length=tg.length then some (iw tg xs Z) else none
  | _=>none
noncomputable def aO (M:MH) (d:D) (M':MH):Bool:=match d with
 | .ref n=>decide (M'[n]? = M[n]?)
 | _=>true
noncomputable def bZ (body:Sg->MH->R Out) (tg:List Nat) (eY:MH->Bool):List D->Sg->MH->R Out
 | [],Z,M=>.ok (.nx Z) M
 | d::ds,Z,M=>match sets tg M d Z with
  | none=>.bad
  | some Z1=>(body Z1 M).bind fun o M1=>match o with
   | .nx Z2=>if eY M1 then bZ body tg eY ds Z2 M1 else .bad
   | .ct Z2=>if eY M1 then bZ body tg eY ds Z2 M1 else .bad
   | .bk Z2=>.ok (.nx Z2) M1
   | .rt r=>.ok (.rt r) M1
   | .xc c Z2=>.ok (.xc c Z2) M1
noncomputable def aP (c:Sg->MH->R D) (body:Sg->MH->R Out):Nat->Sg->MH->R Out
 | 0,_,_=>.bad
 | n+1,Z,M=>(c Z M).use Z fun t M0=>match t with
  | .bl false=>.ok (.nx Z) M0
  | .bl true=>(body Z M0).bind fun o M1=>match o with
   | .nx Z2=>aP c body n Z2 M1
   | .ct Z2=>aP c body n Z2 M1
   | .bk Z2=>.ok (.nx Z2) M1
   | .rt r=>.ok (.rt r) M1
   | .xc c Z2=>.ok (.xc c Z2) M1
  | _=>.bad
noncomputable def bz (cond:Sg->MH->R D) (elt:Sg->MH->R D) (tg:List Nat) (eY:MH->Bool):List D->Sg->MH->List D->R (List D)
 | [],_,M,acc=>.ok acc M
 | d::ds,Z,M,acc=>match sets tg M d Z with
  | none=>.bad
  | some Z1=>(cond Z1 M).bind fun t M1=>match t with
   | .bl true=>(elt Z1 M1).bind fun x M2=>if eY M2 then (if decide (acc.length<line) then bz cond elt tg eY ds Z1 M2 (acc++[x]) else .bad) else .bad
   | .bl false=>if eY M1 then bz cond elt tg eY ds Z1 M1 acc else .bad
   | _=>.bad
noncomputable def bI (f:Str) (v:D):List (Str×D)->List (Str×D)
 | []=>[(f,v)]
 | (g,x)::r=>if g=f then (g,v)::r else (g,x)::bI f v r
structure aQ where
 call:Nat->List D->MH->R D
 ini:Nat->List D->MH->R D
 glob:Nat->Option D
 turns:Nat
 sub:Nat->Nat->Bool
noncomputable def iM (Z:Sg) (caps:List Nat):Sg:=caps.map fun i=>(Z[i]?).join
noncomputable def uo:D->Option Int
 | .int i=>some i
 | _=>none
noncomputable def oB (j:Int):Bool:=decide (j.natAbs<=1000000)
noncomputable def dI (a b:Int):List D:=(List.range (b-a).toNat).map fun (i:Nat)=>D.int (a+(i:Int))
noncomputable def GS (ds es:List D):List D:=(ds.zip es).map fun p=>.tup [p.1,p.2]
mutual
noncomputable def ev (Φ:aQ):E->Sg->MH->R D
 | .v i,Z,M=>match Z[i]? with
  | some (some d)=>.ok d M
  | _=>.bad
 | .k d,_,M=>.ok d M
 | .g i,_,M=>match Φ.glob i with
  | some d=>.ok d M
  | none=>.bad
 | .tup es,Z,M=>(cJ Φ es Z M).bind fun ds M1=>.ok (.tup ds) M1
 | .lst fz es,Z,M=>(cJ Φ es Z M).bind fun ds M1=>bY fz ds M1
 | .Bw,_,M=>.ok (.ref M.length) (M++[.dct []])
 | .op o fz a b,Z,M=>(ev Φ a Z M).bind fun x M1=>(ev Φ b Z M1).bind fun y M2=>uR o fz M2 x y
 | .neg a,Z,M=>(ev Φ a Z M).bind fun x M1=>match x with
  | .int i=>.ok (.int (-i)) M1
  | _=>.bad
 | .cmp o a b,Z,M=>(ev Φ a Z M).bind fun x M1=>(ev Φ b Z M1).bind fun y M2=>bh o M2 x y
 | .chain o o' a b c,Z,M=>(ev Φ a Z M).bind fun x M1=>(ev Φ b Z M1).bind fun y M2=>(bh o M2 x y).bind fun t M3=>match t with
  | .bl true=>(ev Φ c Z M3).bind fun z M4=>bh o' M4 y z
  | .bl false=>.ok (.bl false) M3
  | _=>.bad
 | .and a b,Z,M=>(ev Φ a Z M).bind fun x M1=>match x with
  | .bl true=>(ev Φ b Z M1)
  | .bl false=>.ok (.bl false) M1
  | _=>.bad
 | .or a b,Z,M=>(ev Φ a Z M).bind fun x M1=>match x with
  | .bl true=>.ok (.bl true) M1
  | .bl false=>(ev Φ b Z M1)
  | _=>.bad
 | .not a,Z,M=>(ev Φ a Z M).bind fun x M1=>match x with
  | .bl b=>.ok (.bl (!b)) M1
  | _=>.bad
 | .tru a,Z,M=>.bad
 | .x6 c a b,Z,M=>(ev Φ c Z M).bind fun x M1=>match x with
  | .bl true=>ev Φ a Z M1
  | .bl false=>ev Φ b Z M1
  | _=>.bad
 | .idx a b,Z,M=>(ev Φ a Z M).bind fun x M1=>(ev Φ b Z M1).bind fun y M2=>oS M2 x y
 | .sl fz a lo hi,Z,M=>(ev Φ a Z M).bind fun x M1=>(Bh Φ lo Z M1).bind fun l M2=>(Bh Φ hi Z M2).bind fun h M3=>sl2 fz M3 x l h
 | .call f es,Z,M=>(cJ Φ es Z M).bind fun ds M1=>Φ.call f ds M1
 | .lD a t,Z,M=>(ev Φ a Z M).bind fun x M1=>if vC M1 x then .ok (.bl (Fy M1 t x)) M1 else .bad
 | .blt b fz es,Z,M=>(cJ Φ es Z M).bind fun ds M1=>pR b fz M1 ds
 | .aK m fz a es,Z,M=>(ev Φ a Z M).bind fun x M1=>if oJ m M1 x then (cJ Φ es Z M1).bind fun ds M2=>gp m fz M2 x ds else .bad
 | .comp fz caps tg elt it cond,Z,M=>(bQ Φ it Z M).bind fun p M1 =>
   ((bz (pB Φ cond) (ev Φ elt) tg (aO M1 p.1) p.2.1 (iM Z caps++List.replicate tg.length none) M1 []).fin (eO p.2.2 p.1)).bind fun ds M2=>bY fz ds M2
 | .fld a f,Z,M=>(ev Φ a Z M).bind fun x M1=>match x with
  | .ref n=>match M1[n]? with
   | some (.ins _ fs)=>match fs.lookup f with
    | some d=>.ok d M1
    | none=>.bad
   | _=>.bad
  | _=>.bad
 | .cY c m nm a es,Z,M=>(ev Φ a Z M).bind fun x M1=>match x with
  | .ref n=>match M1[n]? with
   | some (.ins c' fs)=>if decide (c'=c)&&(fs.lookup nm).isNone then (cJ Φ es Z M1).bind fun ds M2=>Φ.call m (.ref n::ds) M2 else .bad
   | _=>.bad
  | _=>.bad
 | .new c i es,Z,M=>(cJ Φ es Z M).bind fun ds M1=>(Φ.ini i (.ref M1.length::ds) (M1++[.ins c []])).bind fun r M2=>match r with
  | .ak=>.ok (.ref M1.length) M2
  | _=>.bad
 | .mx hi a b,Z,M=>(ev Φ a Z M).bind fun x M1=>(ev Φ b Z M1).bind fun y M2=>match x,y with
  | .int i,.int j=>.ok (.int (if hi then (if j > i then j else i) else (if j<i then j else i))) M2
  | _,_=>.bad
 | .Ke fz a b,Z,M=>(ev Φ a Z M).bind fun x M1=>(ev Φ b Z M1).bind fun y M2=>match x,y with
  | .int i,.int j=>if oB i&&(oB j&&decide ((j-i).toNat<=line)) then bY fz (dI i j) M2 else .bad
  | _,_=>.bad
 | .Kf fz a,Z,M=>(ev Φ a Z M).bind fun x M1=>match x with
  | .int j=>if oB j then bY fz (dI 0 j) M1 else .bad
  | _=>.bad
 | .rv fz a,Z,M=>(ev Φ a Z M).bind fun x M1=>match vw M1 x with
  | .lst ds=>bY fz ds.reverse M1
  | _=>.bad
 | .all1 a,Z,M=>(ev Φ a Z M).bind fun x M1=>match vw M1 x with
  | .lst ds=>match boolsOf ds with
   | some bs=>.ok (.bl (bs.all id)) M1
   | none=>.bad
  | _=>.bad
 | .j3 f a,Z,M=>(ev Φ a Z M).bind fun x M1=>match qR f x with
  | some d=>.ok d M1
  | none=>.bad
 | .uf f es d,Z,M=>(cJ Φ es Z M).bind fun ds M1=>Φ.call f (ds++[.int d]) M1
 | .bad,_,_=>.bad
noncomputable def cJ (Φ:aQ):Es->Sg->MH->R (List D)
 | .nil,_,M=>.ok [] M
 | .cons e es,Z,M=>(ev Φ e Z M).bind fun x M1=>(cJ Φ es Z M1).bind fun xs M2=>.ok (x::xs) M2
noncomputable def Bh (Φ:aQ):O->Sg->MH->R (Option Int)
 | .none,_,M=>.ok none M
 | .some e,Z,M=>(ev Φ e Z M).bind fun x M1=>match x with
  | .int i=>.ok (some i) M1
  | _=>.bad
noncomputable def pB (Φ:aQ):O->Sg->MH->R D
 | .none,_,M=>.ok (.bl true) M
 | .some e,Z,M=>ev Φ e Z M
noncomputable def bQ (Φ:aQ):Src->Sg->MH->R (D×List D×Bool)
 | .e a,Z,M=>(ev Φ a Z M).bind fun x M1=>match itemsOf M1 x with
  | some ds=>.ok (x,ds,wk M1 x) (walk M1 x)
  | none=>.bad
 | .eF a,Z,M=>(ev Φ a Z M).bind fun x M1=>match x with
  | .int j=>if oB j then .ok (.ak,dI 0 j,false) M1 else .bad
  | _=>.bad
 | .DC a b,Z,M=>(ev Φ a Z M).bind fun x M1=>(ev Φ b Z M1).bind fun y M2=>match uo x,uo y with
  | some i,some j=>if oB i&&oB j then .ok (.ak,dI i j,false) M2 else .bad
  | _,_=>.bad
 | .enum a,Z,M=>.bad
 | .items a,Z,M=>.bad
 | .rev a,Z,M=>(ev Φ a Z M).bind fun x M1=>match sS x with
  | some ds=>.ok (.ak,ds.reverse,false) M1
  | none=>.bad
 | .zip a b,Z,M=>(ev Φ a Z M).bind fun x M1=>(ev Φ b Z M1).bind fun y M2=>match A6 x,A6 y with
  | some ds,some es=>.ok (.ak,GS ds es,false) M2
  | _,_=>.bad
end
noncomputable def bS:D->Bool
 | .str x=>decide (x.length<=100000)
 | .int i=>decide (i.natAbs<18446744073709551616)
 | _=>false
noncomputable def Bk (Φ:aQ):Es->Sg->MH->R Unit
 | .nil,_,M=>.ok () M
 | .cons e es,Z,M=>(ev Φ e Z M).bind fun x M1=>if bS x then Bk Φ es Z M1 else .bad
mutual
noncomputable def ex (Φ:aQ):S->Sg->MH->R Out
 | .set i e,Z,M=>(ev Φ e Z M).use Z fun x M1=>.ok (.nx (Z.set i (some x))) M1
 | .qi a b e,Z,M=>(ev Φ e Z M).use Z fun x M1=>(ev Φ a Z M1).use Z fun y M2=>(ev Φ b Z M2).use Z fun z M3=>(l7 M3 y z x).use Z fun _ M4=>.ok (.nx Z) M4
 | .bK a f e,Z,M=>(ev Φ e Z M).use Z fun x M1=>(ev Φ a Z M1).use Z fun y M2=>match y with
  | .ref n=>match M2[n]? with
   | some (.ins c fs)=>if decide (fs.length<1000) then .ok (.nx Z) (M2.set n (.ins c (bI f x fs))) else .bad
   | _=>.bad
  | _=>.bad
 | .BS tg e,Z,M=>(ev Φ e Z M).use Z fun x M1=>match sets tg M1 x Z with
  | some Z1=>.ok (.nx Z1) M1
  | none=>.bad
 | .ex e,Z,M=>(ev Φ e Z M).use Z fun _ M1=>.ok (.nx Z) M1
 | .ret e,Z,M=>(ev Φ e Z M).use Z fun x M1=>.ok (.rt x) M1
 | .DE,_,M=>.ok (.rt .ak) M
 | .ifs c a b,Z,M=>(ev Φ c Z M).use Z fun t M1=>match t with
  | .bl true=>exs Φ a Z M1
  | .bl false=>exs Φ b Z M1
  | _=>.bad
 | .for tg it b,Z,M=>(bQ Φ it Z M).use Z fun p M1=>(bZ (exs Φ b) tg (aO M1 p.1) p.2.1 Z M1).fin (eO p.2.2 p.1)
 | .while c b,Z,M=>aP (ev Φ c) (exs Φ b) Φ.turns Z M
 | .brk,Z,M=>.ok (.bk Z) M
 | .cont,Z,M=>.ok (.ct Z) M
 | .pass,Z,M=>.ok (.nx Z) M
 | .raise c es,Z,M=>(Bk Φ es Z M).use Z fun _ M1=>.ok (.xc c Z) M1
 | .try b hs els,Z,M=>(exs Φ b Z M).bind fun o M1=>match o with
  | .nx Z1=>exs Φ els Z1 M1
  | .xc c Z1=>zc Φ hs c Z1 M1
  | o=>.ok o M1
 | .bad,_,_=>.bad
noncomputable def exs (Φ:aQ):Ss->Sg->MH->R Out
 | .nil,Z,M=>.ok (.nx Z) M
 | .cons s ss,Z,M=>(ex Φ s Z M).bind fun o M1=>match o with
  | .nx Z1=>exs Φ ss Z1 M1
  | o=>.ok o M1
noncomputable def zc (Φ:aQ):Hs->Nat->Sg->MH->R Out
 | .nil,_,_,_=>.bad
 | .cons cs b hs,c,Z,M=>if cs.any (fun d=>Φ.sub c d) then exs Φ b Z M else zc Φ hs c Z M
end
mutual
noncomputable def nr (m:Nat):D->Bool
 | .ref n=>decide (n<m)
 | .tup ds=>sP m ds
 | .lst ds=>sP m ds
 | .dct _ ds=>sP m ds
 | .ak=>true
 | .bl _=>true
 | .int _=>true
 | .str _=>true
noncomputable def sP (m:Nat):List D->Bool
 | []=>true
 | d::ds=>nr m d&&sP m ds
end
structure Fn where
 np:Nat
 ns:Nat
 kr:List D
 keep:Bool
 body:Ss
noncomputable def fU (keep:Bool) (M:MH) (d:D) (M':MH):R D :=
 if keep=false/\M'.take M.length=M then
  (if nr M.length d then .ok d M else match d with
   | .ref k=>match M'[k]? with
    | some (.lst ds)=>if sP M.length ds then .ok (.lst ds) M else .ok d M'
    | _=>.ok d M'
   | _=>.ok d M')
 else .ok d M'
noncomputable def om (M:MH) (c:Nat) (M':MH):R D:=if M'.take M.length=M then .exc c M else .exc c M'
structure lR where
 fn:Nat->Option Fn
 glob:Nat->Option D
 turns:Nat
 sub:Nat->Nat->Bool
noncomputable def qm (Φ:aQ) (f:Fn) (ds:List D) (M:MH):R D :=
 if decide (ds.length<=f.np)&&decide (f.np<=ds.length+f.kr.length) then
  match exs Φ f.body ((ds++f.kr.drop (ds.length+f.kr.length-f.np)).map some++List.replicate (f.ns-f.np) none) M with
  | .ok (.rt d) M'=>fU f.keep M d M'
  | .ok (.nx _) M'=>fU f.keep M .ak M'
  | .ok (.xc c _) M'=>om M c M'
  | _=>.bad
 else .bad
noncomputable def aa (P:lR):Nat->aQ
 | 0=>⟨fun _ _ _=>.bad,fun _ _ _=>.bad,P.glob,P.turns,P.sub⟩
 | k+1=>⟨fun f ds M=>match P.fn f with
  | some fn=>qm (aa P k) fn ds M
  | none=>.bad,(aa P k).call,P.glob,P.turns,P.sub⟩
end Fg
end
section
set_option autoImplicit false
namespace Fg
open PySem PySem.Spec L2
noncomputable def Ey:Nat->List Obj->W.Frag
 | _,[]=>[]
 | n,o::os=>bif o.alive then (n,o)::Ey (n+1) os else Ey (n+1) os
theorem wZ:∀ {os:List Obj} {n a:Nat} {o:Obj},(Ey n os).lookup a=some o->n<=a/\os[a-n]? = some o/\o.alive=true
 | [],_,_,_,h=>by cases h
 | x::os,n,a,o,h=>by
  have up:(Ey (n+1) os).lookup a=some o->n<=a/\(x::os)[a-n]? = some o/\o.alive=true:=fun h=>by
   obtain ⟨h1,h2,h3⟩:=wZ h
   refine ⟨by omega,?_,h3⟩
   rw [show a-n=(a-(n+1))+1 by omega,List.getElem?_cons_succ]
   exact h2
  unfold Ey at h
  cases hx:x.alive with
  | false=>rw [hx] at h;exact up h
  | true =>
   rw [hx] at h
   replace h:((n,x)::Ey (n+1) os).lookup a=some o:=h
   rw [List.lookup_cons] at h
   cases e:a == n with
   | true =>
    rw [e] at h
    cases h
    have:=beq_iff_eq.mp e
    subst this
    exact ⟨Nat.le_refl _,by simp,hx⟩
   | false =>
    rw [e] at h
    exact up h
noncomputable def allOf (h:Heap):W.Frag:=Ey 0 h.objs.toList
theorem yR (h:Heap):(allOf h).In h:=fun a o e=>by
 obtain ⟨_,h1,h2⟩:=wZ e
 rw [Nat.sub_zero,Array.getElem?_toList] at h1
 exact (Heap.get?_eq_some h a o).mpr ⟨h1,h2⟩
structure Row where
 x:Str
 ql:Str
 st:Stmt
 ps:List Str
 N:List Str
 i:Nat
 kr:Option Int:=none
structure Tb where
 fn:List Row
 cl:List Str
 mt:List (Nat×Row)
 xc:List Str
 cs:List (Str×Nat×Int)
 bl:List Str
 fl:List Str
 ct:List (Str×Nat×List Str):=[]
 cd:List (Str×Nat×List (Str×Int)):=[]
noncomputable def adr (K:W.Frag) (x:Str):Option Addr:=match W.nsIn K mainGlobals x with
 | some (some (.ref a))=>some a
 | _=>none
noncomputable def iL (K:W.Frag):Value->Option (Option Int)
 | .none=>some none
 | .ref T=>(match K.lookup T with
  | some ⟨_,_,.seq its _,_⟩=>(match its.toList with
   | [.int d _]=>some (some d)
   | _=>none)
  | _=>none)
 | _=>none
noncomputable abbrev yT:=Str×Str×Arguments×FuncBody×Scope×Addr×List (Str×Addr)×Addr×Option (Option Int)×Bool
noncomputable def oZ (K:W.Frag) (f:Addr):Option yT:=match K.lookup f with
 | some ⟨_,_,.func fd,_⟩=>some (fd.name,fd.qualname,fd.params,fd.body,fd.scope,fd.globals,fd.closure,fd.builtins,iL K fd.defaults,W.codeIn K fd.code fd.qualname)
 | _=>none
noncomputable def Row.good (r:Row):yT:=(r.x,r.ql,g7 r.st,.stmts (bX r.st),aC r.st,mainGlobals,[],builtinsNs,some r.kr,true)
noncomputable abbrev GF:=Bool×Bool×Bool×Option (Option Value)×Bool×Bool×List (Option (Option Value))
noncomputable def m9 (t:Tb) (K:W.Frag) (C:Addr):GF:=(W.plainGet K C Str.empty, W.hasDictIn K C, W.plainOver K C, W.findIn K (.ref C) "__setattr__", W.makesIn K C, W.keepIn K (.ref C), t.fl.map (W.findIn K (.ref C)))
noncomputable def jq (t:Tb):GF:=(true, true, true, some (some (.builtin "object.__setattr__")), true, true, t.fl.map fun _=>some none)
noncomputable def xr (t:Tb) (K:W.Frag) (r:Nat×Row):Option (yT×Bool):=((t.cl[r.1]?).bind (adr K)).bind fun C=>match W.findIn K (.ref C) r.2.x with
 | some (some (.ref f))=>(oZ K f).map fun z=>(z,W.isFn K (.ref f))
 | _=>none
noncomputable abbrev JM:=Bool×Option Bool×List (Option Bool)
noncomputable def BMV:List Value:=[.type "ValueError", .type "Exception", .type "BaseException", .type "object"]
noncomputable def yi (t:Tb) (K:W.Frag) (X:Addr):JM:=(W.excIn K X BMV "ValueError.__new__", W.mroIn K X (.type "BaseException"), t.xc.map fun y=>(adr K y).bind fun Y=>W.mroIn K X (.ref Y))
noncomputable def yD (K:W.Frag) (x:Str):Option Int:=match W.nsIn K mainGlobals x with
 | some (some (.int n _))=>some n
 | _=>none
noncomputable def strOf:Value->Option Str
 | .str x _=>some x
 | _=>none
noncomputable def intOf:Value->Option Int
 | .int n _=>some n
 | _=>none
noncomputable abbrev JN:=Value×List (Option Str)
noncomputable def vI (K:W.Frag) (a:Addr):Option JN:=match K.lookup a with
 | some ⟨c,_,.seq its _,_⟩=>some (c,its.toList.map strOf)
 | _=>none
noncomputable abbrev GD:=Value×Option Addr×Array (Option Value)×Bool×List (Int×Option Str×Option Int)
noncomputable def yC (K:W.Frag) (a:Addr):Option GD:=match K.lookup a with
 | some ⟨c,d,.dict es _,sl⟩=>some (c,d,sl,a == sysModules,es.toList.map fun e=>(e.hash,strOf e.key,intOf e.val))
 | _=>none
noncomputable def t9 (w:World) (kvs:List (Str×Int)):GD:=(.type "dict", none, #[], false, kvs.map fun z=>(PyData.keyHash w.params z.1, some z.1, some z.2))
noncomputable abbrev Gy:=List (Option yT)×List (Option GF)×List (Option (yT×Bool))×List (Option JM)×List (Option Int)×List (Option (Option Value))×List (Option JN)×List (Option GD)
noncomputable def Tb.sf (t:Tb) (K:W.Frag):Gy:=(t.fn.map fun r=>(adr K r.x).bind (oZ K),t.cl.map fun x=>(adr K x).map (m9 t K),t.mt.map (xr t K),t.xc.zipIdx.map fun x=>(adr K x.1).map (yi t K),t.cs.map fun c=>yD K c.1,t.bl.map (W.nsIn K mainGlobals),t.ct.map fun c=>(adr K c.1).bind (vI K),t.cd.map fun c=>(adr K c.1).bind (yC K))
noncomputable def Tb.good (t:Tb) (P:lR) (w:World):Gy:=(t.fn.map fun r=>some r.good, t.cl.map fun _=>some (jq t), t.mt.map fun r=>some (r.2.good, true), t.xc.zipIdx.map fun x=>some (true, some true, t.xc.zipIdx.map fun y=>some (P.sub x.2 y.2)), t.cs.map fun c=>some c.2.2, t.bl.map fun _=>some none, t.ct.map fun c=>some (.type "tuple", c.2.2.map some), t.cd.map fun c=>some (t9 w c.2.2))
noncomputable def Tb.hook (t:Tb) (P:lR):W.Hook:=⟨Gy,fun s=>t.sf (allOf s.heap),fun w=>t.good P w,fun w h=>∃ K:W.Frag,K.In h/\t.sf K=t.good P w,fun _ s e=>⟨_,yR s.heap,e⟩,fun _ _ _ ⟨K,X,e⟩ k=>⟨K,X.keeps k,e⟩⟩
end Fg
end
section
namespace bR
open Fg
noncomputable def ja:List PySem.Str:=["value"]
noncomputable def ve:Fn:=⟨1,1,[],false,
 (.cons (.ifs (.lD (.v 0) .tuple) (.cons (.ret (.idx (.v 0) (.k (.int 1))))
 .nil) .nil)
 (.cons (.ret (.k (.int 1)))
 .nil))⟩
noncomputable def je:List PySem.Str:=["word", "first", "second", "size"]
noncomputable def lG:Fn:=⟨3,4,[],false,
 (.cons (.set 3 (.op .add true (.op .add true (.k (.int 1)) (.call 0 (.cons (.v 1) .nil))) (.call 0 (.cons (.v 2) .nil))))
 (.cons (.ifs (.cmp .gt (.v 3) (.g 0)) (.cons (.raise 1 (.cons (.v 0) (.cons (.v 3) .nil)))
 .nil) .nil)
 (.cons (.ret (.tup (.cons (.v 0) (.cons (.v 3) (.cons (.v 1) (.cons (.v 2) .nil))))))
 .nil)))⟩
noncomputable def dB:List PySem.Str:=["number"]
noncomputable def cP:Fn:=⟨1,1,[],false,
 (.cons (.ifs (.cmp .ge (.j3 .abs (.v 0)) (.op .pow true (.k (.int 10)) (.k (.int 60)))) (.cons (.raise 1 .nil)
 .nil) .nil)
 .nil)⟩
noncomputable def iH:List PySem.Str:=["word", "first", "second", "number"]
noncomputable def gu:Fn:=⟨3,4,[],false,
 (.cons (.ifs (.cmp .eq (.v 0) (.k (.str "less"))) (.cons (.ret (.x6 (.cmp .lt (.v 1) (.v 2)) (.k (.int 1)) (.k (.int 0))))
 .nil) .nil)
 (.cons (.ifs (.cmp .eq (.v 0) (.k (.str "plus"))) (.cons (.set 3 (.op .add true (.v 1) (.v 2)))
 .nil) (.cons (.ifs (.cmp .eq (.v 0) (.k (.str "minus"))) (.cons (.set 3 (.op .sub true (.v 1) (.v 2)))
 .nil) (.cons (.set 3 (.op .mul true (.v 1) (.v 2)))
 .nil))
 .nil))
 (.cons (.ex (.call 2 (.cons (.v 3) .nil)))
 (.cons (.ret (.v 3))
 .nil))))⟩
noncomputable def gR:List PySem.Str:=["word", "value"]
noncomputable def o9:Fn:=⟨2,2,[],false,
 (.cons (.ifs (.cmp .y9 (.v 1) (.k .ak)) (.cons (.raise 2 (.cons (.v 0) .nil))
 .nil) .nil)
 (.cons (.ifs (.cmp .isin (.v 0) (.tup (.cons (.k (.str "first")) (.cons (.k (.str "head")) .nil)))) (.cons (.ret (.idx (.v 1) (.k (.int 2))))
 .nil) .nil)
 (.cons (.ret (.idx (.v 1) (.k (.int 3))))
 .nil)))⟩
noncomputable def mS:List PySem.Str:=["value", "members"]
noncomputable def yf:Fn:=⟨1,2,[],false,
 (.cons (.ifs (.lD (.v 0) .int) (.cons (.ret (.v 0))
 .nil) .nil)
 (.cons (.ifs (.and (.cmp .qy (.v 0) (.k .ak)) (.cmp .eq (.idx (.v 0) (.k (.int 0))) (.k (.str "pair")))) (.cons (.ret (.tup (.cons (.call 5 (.cons (.idx (.v 0) (.k (.int 2))) .nil)) (.cons (.call 5 (.cons (.idx (.v 0) (.k (.int 3))) .nil)) .nil))))
 .nil) .nil)
 (.cons (.set 1 (.lst false .nil))
 (.cons (.while (.cmp .qy (.v 0) (.k .ak)) (.cons (.ex (.aK .append true (.v 1) (.cons (.call 5 (.cons (.idx (.v 0) (.k (.int 2))) .nil)) .nil)))
 (.cons (.set 0 (.idx (.v 0) (.k (.int 3))))
 .nil)))
 (.cons (.ret (.v 1))
 .nil)))))⟩
noncomputable def d9:List PySem.Str:=["begun", "under_way", "most"]
noncomputable def iG:Fn:=⟨3,3,[],false,
 (.cons (.ifs (.cmp .gt (.op .add true (.v 0) (.k (.int 1))) (.v 2)) (.cons (.raise 3 .nil)
 .nil) .nil)
 (.cons (.ifs (.cmp .gt (.op .add true (.v 1) (.k (.int 1))) (.g 1)) (.cons (.raise 4 (.cons (.g 1) .nil))
 .nil) .nil)
 .nil))⟩
noncomputable def o7:List PySem.Str:=["code", "numbers", "most", "machine", "outer", "value", "field"]
noncomputable def o8:Fn:=⟨3,7,[],false,
 (.cons (.set 3 (.new 1 9 (.cons (.idx (.v 0) (.k (.int 0))) (.cons (.v 2) .nil))))
 (.cons (.set 4 (.comp true [3] [1] (.cY 1 10 "open_field" (.v 0) .nil) (.eF (.idx (.v 0) (.k (.int 2)))) .none))
 (.cons (.ex (.aK .append true (.fld (.v 3) "frames") (.cons (.new 0 8 (.cons (.blt .list false (.cons (.v 1) .nil)) (.cons (.blt .list false (.cons (.v 4) .nil)) (.cons (.k .ak) .nil)))) .nil)))
 (.cons (.bK (.v 3) "place" (.idx (.v 0) (.k (.int 1))))
 (.cons (.while (.cmp .ne (.fld (.v 3) "frames") (.lst true .nil)) (.cons (.ex (.cY 1 19 "step" (.v 3) .nil))
 .nil))
 (.cons (.set 5 (.cY 1 21 "answer" (.v 3) .nil))
 (.cons (.for [6] (.rev (.v 4)) (.cons (.ex (.cY 1 11 "shut_field" (.v 3) (.cons (.v 6) .nil)))
 .nil))
 (.cons (.ret (.tup (.cons (.v 5) (.cons (.fld (.v 3) "log") .nil))))
 .nil))))))))⟩
noncomputable def ek:List PySem.Str:=["self", "known", "fields", "behind_call"]
noncomputable def dR:Fn:=⟨4,4,[],false,
 (.cons (.bK (.v 0) "known" (.v 1))
 (.cons (.bK (.v 0) "fields" (.v 2))
 (.cons (.bK (.v 0) "behind_call" (.v 3))
 .nil)))⟩
noncomputable def dD:List PySem.Str:=["self", "rows", "most"]
noncomputable def cS:Fn:=⟨3,3,[],false,
 (.cons (.bK (.v 0) "rows" (.v 1))
 (.cons (.bK (.v 0) "most" (.v 2))
 (.cons (.bK (.v 0) "begun" (.k (.int 0)))
 (.cons (.bK (.v 0) "place" (.k (.int 0)))
 (.cons (.bK (.v 0) "pile" (.lst false .nil))
 (.cons (.bK (.v 0) "frames" (.lst false .nil))
 (.cons (.bK (.v 0) "lies_open" (.lst false .nil))
 (.cons (.bK (.v 0) "log" (.lst false .nil))
 .nil))))))))⟩
noncomputable def cR:List PySem.Str:=["self", "field"]
noncomputable def cj:Fn:=⟨1,2,[],false,
 (.cons (.set 1 (.blt .len true (.cons (.fld (.v 0) "lies_open") .nil)))
 (.cons (.ex (.aK .append true (.fld (.v 0) "lies_open") (.cons (.k (.bl true)) .nil)))
 (.cons (.ex (.aK .append true (.fld (.v 0) "log") (.cons (.tup (.cons (.k (.str "open")) (.cons (.v 1) .nil))) .nil)))
 (.cons (.ret (.v 1))
 .nil))))⟩
noncomputable def cQ:List PySem.Str:=["self", "field"]
noncomputable def cg:Fn:=⟨2,2,[],false,
 (.cons (.qi (.fld (.v 0) "lies_open") (.v 1) (.k (.bl false)))
 (.cons (.ex (.aK .append true (.fld (.v 0) "log") (.cons (.tup (.cons (.k (.str "shut")) (.cons (.v 1) .nil))) .nil)))
 .nil))⟩
noncomputable def cZ:List PySem.Str:=["self", "field"]
noncomputable def cD:Fn:=⟨2,2,[],false,
 (.cons (.ifs (.not (.idx (.fld (.v 0) "lies_open") (.v 1))) (.cons (.raise 5 (.cons (.v 1) .nil))
 .nil) .nil)
 .nil)⟩
noncomputable def fX:List PySem.Str:=["self", "word", "field", "second", "first", "cell"]
noncomputable def kK:Fn:=⟨3,6,[],false,
 (.cons (.set 3 (.aK .pop true (.fld (.v 0) "pile") .nil))
 (.cons (.set 4 (.aK .pop true (.fld (.v 0) "pile") .nil))
 (.cons (.set 5 (.call 1 (.cons (.v 1) (.cons (.v 4) (.cons (.v 3) .nil)))))
 (.cons (.ex (.cY 1 12 "want_open" (.v 0) (.cons (.v 2) .nil)))
 (.cons (.ex (.aK .append true (.fld (.v 0) "log") (.cons (.tup (.cons (.k (.str "lay")) (.cons (.v 2) .nil))) .nil)))
 (.cons (.ex (.aK .append true (.fld (.v 0) "pile") (.cons (.op .add true (.v 5) (.tup (.cons (.v 2) .nil))) .nil)))
 .nil))))))⟩
noncomputable def fG:List PySem.Str:=["self", "word", "cell", "found"]
noncomputable def j5:Fn:=⟨2,4,[],false,
 (.cons (.set 2 (.aK .pop true (.fld (.v 0) "pile") .nil))
 (.cons (.set 3 (.call 4 (.cons (.v 1) (.cons (.v 2) .nil))))
 (.cons (.ex (.cY 1 12 "want_open" (.v 0) (.cons (.idx (.v 2) (.k (.int 4))) .nil)))
 (.cons (.ex (.aK .append true (.fld (.v 0) "log") (.cons (.tup (.cons (.k (.str "look")) (.cons (.idx (.v 2) (.k (.int 4))) .nil))) .nil)))
 (.cons (.ex (.aK .append true (.fld (.v 0) "pile") (.cons (.v 3) .nil)))
 .nil)))))⟩
noncomputable def ee:List PySem.Str:=["self", "word", "second", "first"]
noncomputable def dP:Fn:=⟨2,4,[],false,
 (.cons (.set 2 (.aK .pop true (.fld (.v 0) "pile") .nil))
 (.cons (.set 3 (.aK .pop true (.fld (.v 0) "pile") .nil))
 (.cons (.ex (.aK .append true (.fld (.v 0) "pile") (.cons (.call 3 (.cons (.v 1) (.cons (.v 3) (.cons (.v 2) .nil)))) .nil)))
 .nil)))⟩
noncomputable def eT:List PySem.Str:=["self", "row", "frame"]
noncomputable def eL:Fn:=⟨2,3,[],false,
 (.cons (.set 2 (.idx (.fld (.v 0) "frames") (.neg (.k (.int 1)))))
 (.cons (.ifs (.cmp .eq (.idx (.v 1) (.k (.int 0))) (.k (.str "number"))) (.cons (.ex (.aK .append true (.fld (.v 0) "pile") (.cons (.idx (.v 1) (.k (.int 1))) .nil)))
 .nil) (.cons (.ifs (.cmp .eq (.idx (.v 1) (.k (.int 0))) (.k (.str "local"))) (.cons (.ex (.aK .append true (.fld (.v 0) "pile") (.cons (.idx (.fld (.v 2) "known") (.idx (.v 1) (.k (.int 1)))) .nil)))
 .nil) (.cons (.ifs (.cmp .eq (.idx (.v 1) (.k (.int 0))) (.k (.str "keep"))) (.cons (.ex (.aK .append true (.fld (.v 2) "known") (.cons (.aK .pop true (.fld (.v 0) "pile") .nil) .nil)))
 .nil) (.cons (.ex (.aK .pop true (.fld (.v 2) "known") .nil))
 .nil))
 .nil))
 .nil))
 .nil))⟩
noncomputable def gw:List PySem.Str:=["self", "row"]
noncomputable def gX:Fn:=⟨2,2,[],false,
 (.cons (.ifs (.cmp .eq (.idx (.v 1) (.k (.int 0))) (.k (.str "jump"))) (.cons (.bK (.v 0) "place" (.idx (.v 1) (.k (.int 1))))
 .nil) (.cons (.ifs (.cmp .eq (.idx (.v 1) (.k (.int 0))) (.k (.str "call"))) (.cons (.ex (.cY 1 18 "enter" (.v 0) (.cons (.idx (.v 1) (.k (.int 1))) (.cons (.idx (.v 1) (.k (.int 2))) (.cons (.idx (.v 1) (.k (.int 3))) .nil)))))
 .nil) (.cons (.ifs (.cmp .eq (.idx (.v 1) (.k (.int 0))) (.k (.str "back"))) (.cons (.bK (.v 0) "place" (.fld (.aK .pop true (.fld (.v 0) "frames") .nil) "behind_call"))
 .nil) (.cons (.ifs (.cmp .eq (.aK .pop true (.fld (.v 0) "pile") .nil) (.k (.int 0))) (.cons (.bK (.v 0) "place" (.idx (.v 1) (.k (.int 1))))
 .nil) .nil)
 .nil))
 .nil))
 .nil))
 .nil)⟩
noncomputable def eS:List PySem.Str:=["self", "begin", "many", "numbers", "given", "fields"]
noncomputable def jf:Fn:=⟨4,6,[],false,
 (.cons (.ex (.call 6 (.cons (.fld (.v 0) "begun") (.cons (.op .sub true (.blt .len true (.cons (.fld (.v 0) "frames") .nil)) (.k (.int 1))) (.cons (.fld (.v 0) "most") .nil)))))
 (.cons (.bK (.v 0) "begun" (.op .add false (.fld (.v 0) "begun") (.k (.int 1))))
 (.cons (.set 4 (.comp false [0] [1] (.aK .pop true (.fld (.v 0) "pile") .nil) (.eF (.v 2)) .none))
 (.cons (.ex (.aK .reverse true (.v 4) .nil))
 (.cons (.set 5 (.fld (.idx (.fld (.v 0) "frames") (.neg (.k (.int 1)))) "fields"))
 (.cons (.ex (.aK .append true (.fld (.v 0) "frames") (.cons (.new 0 8 (.cons (.v 4) (.cons (.comp false [5] [1] (.idx (.v 0) (.v 1)) (.e (.v 3)) .none) (.cons (.fld (.v 0) "place") .nil)))) .nil)))
 (.cons (.bK (.v 0) "place" (.v 1))
 .nil)))))))⟩
noncomputable def fF:List PySem.Str:=["self", "row", "word"]
noncomputable def bO:Fn:=⟨1,3,[],false,
 (.cons (.set 1 (.idx (.fld (.v 0) "rows") (.fld (.v 0) "place")))
 (.cons (.bK (.v 0) "place" (.op .add false (.fld (.v 0) "place") (.k (.int 1))))
 (.cons (.set 2 (.idx (.v 1) (.k (.int 0))))
 (.cons (.ifs (.cmp .isin (.v 2) (.tup (.cons (.k (.str "number")) (.cons (.k (.str "local")) (.cons (.k (.str "keep")) (.cons (.k (.str "drop")) .nil)))))) (.cons (.ex (.cY 1 16 "carry" (.v 0) (.cons (.v 1) .nil)))
 .nil) (.cons (.ifs (.cmp .isin (.v 2) (.tup (.cons (.k (.str "jump")) (.cons (.k (.str "unless")) (.cons (.k (.str "call")) (.cons (.k (.str "back")) .nil)))))) (.cons (.ex (.cY 1 17 "go" (.v 0) (.cons (.v 1) .nil)))
 .nil) (.cons (.ifs (.cmp .isin (.v 2) (.tup (.cons (.k (.str "pair")) (.cons (.k (.str "cons")) .nil)))) (.cons (.ex (.cY 1 13 "lay" (.v 0) (.cons (.v 2) (.cons (.idx (.fld (.idx (.fld (.v 0) "frames") (.neg (.k (.int 1)))) "fields") (.idx (.v 1) (.k (.int 1)))) .nil))))
 .nil) (.cons (.ifs (.cmp .isin (.v 2) (.tup (.cons (.k (.str "first")) (.cons (.k (.str "second")) (.cons (.k (.str "head")) (.cons (.k (.str "tail")) .nil)))))) (.cons (.ex (.cY 1 14 "look" (.v 0) (.cons (.v 2) .nil)))
 .nil) (.cons (.ifs (.cmp .eq (.v 2) (.k (.str "nil"))) (.cons (.ex (.aK .append true (.fld (.v 0) "pile") (.cons (.k .ak) .nil)))
 .nil) (.cons (.ifs (.cmp .eq (.v 2) (.k (.str "none"))) (.cons (.ex (.aK .append true (.fld (.v 0) "pile") (.cons (.x6 (.cmp .y9 (.aK .pop true (.fld (.v 0) "pile") .nil) (.k .ak)) (.k (.int 1)) (.k (.int 0))) .nil)))
 .nil) (.cons (.ifs (.cmp .eq (.v 2) (.k (.str "open"))) (.cons (.ex (.aK .append true (.fld (.idx (.fld (.v 0) "frames") (.neg (.k (.int 1)))) "fields") (.cons (.cY 1 10 "open_field" (.v 0) .nil) .nil)))
 .nil) (.cons (.ifs (.cmp .eq (.v 2) (.k (.str "shut"))) (.cons (.ex (.cY 1 11 "shut_field" (.v 0) (.cons (.aK .pop true (.fld (.idx (.fld (.v 0) "frames") (.neg (.k (.int 1)))) "fields") .nil) .nil)))
 .nil) (.cons (.ex (.cY 1 15 "reckon" (.v 0) (.cons (.v 2) .nil)))
 .nil))
 .nil))
 .nil))
 .nil))
 .nil))
 .nil))
 .nil))
 .nil))
 .nil))))⟩
noncomputable def b9:List PySem.Str:=["self", "value", "todo", "cell"]
noncomputable def bG:Fn:=⟨2,4,[],false,
 (.cons (.set 2 (.lst false (.cons (.v 1) .nil)))
 (.cons (.while (.cmp .ne (.v 2) (.lst true .nil)) (.cons (.set 3 (.aK .pop true (.v 2) .nil))
 (.cons (.ifs (.lD (.v 3) .tuple) (.cons (.ex (.cY 1 12 "want_open" (.v 0) (.cons (.idx (.v 3) (.k (.int 4))) .nil)))
 (.cons (.ex (.aK .extend true (.v 2) (.cons (.sl true (.v 3) (.some (.k (.int 2))) (.some (.k (.int 4)))) .nil)))
 .nil)) .nil)
 .nil)))
 .nil))⟩
noncomputable def ef:List PySem.Str:=["self", "value"]
noncomputable def dQ:Fn:=⟨1,2,[],false,
 (.cons (.set 1 (.aK .pop true (.fld (.v 0) "pile") .nil))
 (.cons (.ex (.cY 1 20 "want_all_open" (.v 0) (.cons (.v 1) .nil)))
 (.cons (.ret (.call 5 (.cons (.v 1) .nil)))
 .nil)))⟩
noncomputable def gU:List PySem.Str:=["_law_cell"]
noncomputable def iX:Fn:=⟨1,1,[],false,
 (.cons (.ret (.op .mod true (.op .mul true (.op .mul true (.op .add true (.op .mod true (.v 0) (.k (.int 2147483647))) (.k (.int 11))) (.k (.int 48271))) (.k (.int 69621))) (.k (.int 2147483629))))
 .nil)⟩
noncomputable def fW:List PySem.Str:=["_law_script", "_law_k"]
noncomputable def gi:Fn:=⟨2,2,[],false,
 (.cons (.ifs (.cmp .lt (.v 1) (.blt .len true (.cons (.v 0) .nil))) (.cons (.ret (.call 22 (.cons (.idx (.v 0) (.v 1)) .nil)))
 .nil) .nil)
 (.cons (.ret (.call 22 (.cons (.v 1) .nil)))
 .nil))⟩
noncomputable def gv:List PySem.Str:=["_law_number_here", "_law_third", "_law_far"]
noncomputable def gS:Fn:=⟨1,3,[],false,
 (.cons (.set 1 (.op .mul true (.op .mul true (.v 0) (.v 0)) (.v 0)))
 (.cons (.set 2 (.op .mod true (.op .mul true (.op .mul true (.v 1) (.v 1)) (.v 0)) (.op .pow true (.k (.int 10)) (.k (.int 60)))))
 (.cons (.ret (.idx (.lst true (.cons (.op .sub true (.op .mod true (.v 0) (.k (.int 7))) (.k (.int 2))) (.cons (.v 2) (.cons (.op .sub true (.k (.int 0)) (.v 2)) (.cons (.op .mod true (.v 0) (.k (.int 1000))) .nil))))) (.op .mod true (.op .fdiv true (.v 0) (.k (.int 7))) (.k (.int 4)))))
 .nil)))⟩
noncomputable def fu:List PySem.Str:=["_law_word", "_law_one", "_law_other"]
noncomputable def fE:Fn:=⟨3,3,[],false,
 (.cons (.ifs (.cmp .eq (.v 0) (.k (.str "plus"))) (.cons (.ret (.op .add true (.v 1) (.v 2)))
 .nil) .nil)
 (.cons (.ifs (.cmp .eq (.v 0) (.k (.str "minus"))) (.cons (.ret (.op .sub true (.v 1) (.v 2)))
 .nil) .nil)
 (.cons (.ifs (.cmp .eq (.v 0) (.k (.str "times"))) (.cons (.ret (.op .mul true (.v 1) (.v 2)))
 .nil) .nil)
 (.cons (.ret (.j3 .int (.cmp .lt (.v 1) (.v 2))))
 .nil))))⟩
noncomputable def jb:List PySem.Str:=["_law_rows", "_law_values", "_law_word", "_law_other", "_law_one"]
noncomputable def lE:Fn:=⟨3,5,[],false,
 (.cons (.ex (.aK .append true (.v 0) (.cons (.tup (.cons (.v 2) .nil)) .nil)))
 (.cons (.set 3 (.aK .pop true (.v 1) .nil))
 (.cons (.set 4 (.aK .pop true (.v 1) .nil))
 (.cons (.ex (.aK .append true (.v 1) (.cons (.call 25 (.cons (.v 2) (.cons (.v 4) (.cons (.v 3) .nil)))) .nil)))
 .nil))))⟩
noncomputable def iJ:List PySem.Str:=["_law_rows", "_law_values", "_law_number_here", "_law_many", "_law_k", "_law_asked"]
noncomputable def j4:Fn:=⟨3,6,[],false,
 (.cons (.set 3 (.op .add true (.k (.int 1)) (.op .mod true (.v 2) (.k (.int 3)))))
 (.cons (.ifs (.cmp .eq (.op .mod true (.op .fdiv true (.v 2) (.k (.int 3))) (.k (.int 2))) (.k (.int 0))) (.cons (.ex (.aK .append true (.v 0) (.cons (.tup (.cons (.k (.str "jump")) (.cons (.op .add true (.op .add true (.blt .len true (.cons (.v 0) .nil)) (.k (.int 1))) (.v 3)) .nil))) .nil)))
 (.cons (.for [4] (.eF (.v 3)) (.cons (.ex (.aK .append true (.v 0) (.cons (.idx (.lst true (.cons (.tup (.cons (.k (.str "drop")) .nil)) (.cons (.tup (.cons (.k (.str "plus")) .nil)) (.cons (.tup (.cons (.k (.str "back")) .nil)) .nil)))) (.op .mod true (.op .add true (.op .fdiv true (.v 2) (.k (.int 6))) (.v 4)) (.k (.int 3)))) .nil)))
 .nil))
 (.cons (.ret (.k .ak))
 .nil))) .nil)
 (.cons (.set 5 (.op .mod true (.op .fdiv true (.v 2) (.k (.int 6))) (.k (.int 3))))
 (.cons (.ex (.aK .append true (.v 0) (.cons (.tup (.cons (.k (.str "number")) (.cons (.v 5) .nil))) .nil)))
 (.cons (.ex (.aK .append true (.v 0) (.cons (.tup (.cons (.k (.str "unless")) (.cons (.op .add true (.blt .len true (.cons (.v 0) .nil)) (.k (.int 2))) .nil))) .nil)))
 (.cons (.ex (.aK .append true (.v 0) (.cons (.tup (.cons (.k (.str "number")) (.cons (.k (.int 5)) .nil))) .nil)))
 (.cons (.ifs (.cmp .ne (.v 5) (.k (.int 0))) (.cons (.ex (.aK .append true (.v 1) (.cons (.k (.int 5)) .nil)))
 .nil) .nil)
 (.cons (.ret (.k .ak))
 .nil))))))))⟩
noncomputable def jc:List PySem.Str:=["_law_rows", "_law_values", "_law_held", "_law_number_here", "_law_deed", "_law_more"]
noncomputable def iI:Fn:=⟨4,6,[],false,
 (.cons (.set 4 (.op .mod true (.v 3) (.k (.int 12))))
 (.cons (.set 5 (.op .fdiv true (.v 3) (.k (.int 12))))
 (.cons (.ifs (.and (.cmp .eq (.v 4) (.k (.int 2))) (.cmp .gt (.blt .len true (.cons (.v 2) .nil)) (.k (.int 0)))) (.cons (.ex (.aK .append true (.v 0) (.cons (.tup (.cons (.k (.str "local")) (.cons (.op .mod true (.v 5) (.blt .len true (.cons (.v 2) .nil))) .nil))) .nil)))
 (.cons (.ex (.aK .append true (.v 1) (.cons (.idx (.v 2) (.op .mod true (.v 5) (.blt .len true (.cons (.v 2) .nil)))) .nil)))
 .nil)) (.cons (.ifs (.and (.cmp .eq (.v 4) (.k (.int 3))) (.cmp .gt (.blt .len true (.cons (.v 1) .nil)) (.k (.int 0)))) (.cons (.ex (.aK .append true (.v 0) (.cons (.tup (.cons (.k (.str "keep")) .nil)) .nil)))
 (.cons (.ex (.aK .append true (.v 2) (.cons (.aK .pop true (.v 1) .nil) .nil)))
 .nil)) (.cons (.ifs (.and (.cmp .eq (.v 4) (.k (.int 4))) (.cmp .gt (.blt .len true (.cons (.v 2) .nil)) (.k (.int 0)))) (.cons (.ex (.aK .append true (.v 0) (.cons (.tup (.cons (.k (.str "drop")) .nil)) .nil)))
 (.cons (.ex (.aK .pop true (.v 2) .nil))
 .nil)) (.cons (.ifs (.and (.cmp .gt (.v 4) (.k (.int 4))) (.and (.cmp .lt (.v 4) (.k (.int 9))) (.cmp .gt (.blt .len true (.cons (.v 1) .nil)) (.k (.int 1))))) (.cons (.ex (.call 26 (.cons (.v 0) (.cons (.v 1) (.cons (.idx (.lst true (.cons (.k (.str "plus")) (.cons (.k (.str "minus")) (.cons (.k (.str "times")) (.cons (.k (.str "less")) .nil))))) (.op .sub true (.v 4) (.k (.int 5)))) .nil)))))
 .nil) (.cons (.ifs (.cmp .eq (.v 4) (.k (.int 9))) (.cons (.ex (.aK .append true (.v 0) (.cons (.tup (.cons (.k (.str "nil")) .nil)) .nil)))
 (.cons (.ex (.aK .append true (.v 0) (.cons (.tup (.cons (.k (.str "none")) .nil)) .nil)))
 (.cons (.ex (.aK .append true (.v 1) (.cons (.k (.int 1)) .nil)))
 .nil))) (.cons (.ifs (.cmp .gt (.v 4) (.k (.int 9))) (.cons (.ex (.call 27 (.cons (.v 0) (.cons (.v 1) (.cons (.v 5) .nil)))))
 .nil) (.cons (.ex (.aK .append true (.v 0) (.cons (.tup (.cons (.k (.str "number")) (.cons (.call 24 (.cons (.v 5) .nil)) .nil))) .nil)))
 (.cons (.ex (.aK .append true (.v 1) (.cons (.call 24 (.cons (.v 5) .nil)) .nil)))
 .nil)))
 .nil))
 .nil))
 .nil))
 .nil))
 .nil))
 .nil)))⟩
noncomputable def jd:List PySem.Str:=["_law_code", "_law_numbers", "_law_word", "_law_found"]
noncomputable def lF:Fn:=⟨2,4,[],false,
 (.cons (.set 2 (.k (.str "")))
 (.cons (.set 3 (.k .ak))
 (.cons (.try (.cons (.set 3 (.call 7 (.cons (.v 0) (.cons (.v 1) (.cons (.k (.int 5)) .nil)))))
 .nil) (.cons [1] (.cons (.set 2 (.k (.str "great")))
 .nil) (.cons [0] (.cons (.set 2 (.k (.str "other")))
 .nil) .nil)) .nil)
 (.cons (.ret (.tup (.cons (.v 2) (.cons (.v 3) .nil))))
 .nil))))⟩
noncomputable def pq:List PySem.Str:=["_law_script", "_law_more", "_law_outer", "_law_rows", "_law_begin", "_law_numbers", "_law_held", "_law_values", "_law_great", "_law_cell", "_law_code", "_law_given", "_law_word", "_law_found", "_law_due"]
noncomputable def CF:Fn:=⟨1,15,[],false,
 (.cons (.set 1 (.op .mul true (.k (.int 6)) (.j3 .int (.cmp .eq (.op .mod true (.op .fdiv true (.call 23 (.cons (.v 0) (.cons (.k (.int 0)) .nil))) (.k (.int 3))) (.k (.int 8))) (.k (.int 3))))))
 (.cons (.set 2 (.op .add true (.v 1) (.op .mod true (.call 23 (.cons (.v 0) (.cons (.k (.int 0)) .nil))) (.k (.int 3)))))
 (.cons (.set 3 (.comp false [] [0] (.idx (.lst true (.cons (.tup (.cons (.k (.str "back")) .nil)) (.cons (.tup (.cons (.k (.str "drop")) .nil)) (.cons (.tup (.cons (.k (.str "shut")) .nil)) .nil)))) (.op .mod true (.v 0) (.k (.int 3)))) (.eF (.op .mod true (.call 23 (.cons (.v 0) (.cons (.k (.int 1)) .nil))) (.k (.int 4)))) .none))
 (.cons (.set 4 (.blt .len true (.cons (.v 3) .nil)))
 (.cons (.set 5 (.comp true [0] [1] (.call 24 (.cons (.call 23 (.cons (.v 0) (.cons (.op .add true (.k (.int 2)) (.v 1)) .nil))) .nil)) (.eF (.op .add true (.v 1) (.op .mod true (.op .fdiv true (.call 23 (.cons (.v 0) (.cons (.k (.int 1)) .nil))) (.k (.int 4))) (.k (.int 4))))) .none))
 (.cons (.set 6 (.blt .list false (.cons (.v 5) .nil)))
 (.cons (.set 7 (.lst false .nil))
 (.cons (.set 8 (.k (.bl false)))
 (.cons (.for [9] (.e (.sl true (.v 0) (.some (.k (.int 5))) (.some (.k (.int 45))))) (.cons (.ifs (.not (.v 8)) (.cons (.ex (.call 28 (.cons (.v 3) (.cons (.v 7) (.cons (.v 6) (.cons (.call 22 (.cons (.v 9) .nil)) .nil))))))
 (.cons (.set 8 (.cmp .gt (.blt .len true (.cons (.comp true [] [0] (.v 0) (.e (.v 7)) (.some (.cmp .ge (.j3 .abs (.v 0)) (.op .pow true (.k (.int 10)) (.k (.int 60)))))) .nil)) (.k (.int 0))))
 .nil)) .nil)
 .nil))
 (.cons (.while (.and (.cmp .gt (.blt .len true (.cons (.v 7) .nil)) (.k (.int 1))) (.not (.v 8))) (.cons (.ex (.call 26 (.cons (.v 3) (.cons (.v 7) (.cons (.idx (.lst true (.cons (.k (.str "plus")) (.cons (.k (.str "minus")) .nil))) (.op .mod true (.blt .len true (.cons (.v 7) .nil)) (.k (.int 2)))) .nil)))))
 (.cons (.set 8 (.cmp .ge (.j3 .abs (.idx (.v 7) (.neg (.k (.int 1))))) (.op .pow true (.k (.int 10)) (.k (.int 60)))))
 .nil)))
 (.cons (.ifs (.cmp .eq (.blt .len true (.cons (.v 7) .nil)) (.k (.int 0))) (.cons (.ex (.aK .append true (.v 3) (.cons (.tup (.cons (.k (.str "number")) (.cons (.k (.int 0)) .nil))) .nil)))
 (.cons (.ex (.aK .append true (.v 7) (.cons (.k (.int 0)) .nil)))
 .nil)) .nil)
 (.cons (.ex (.aK .append true (.v 3) (.cons (.tup (.cons (.k (.str "back")) .nil)) .nil)))
 (.cons (.set 10 (.tup (.cons (.blt .list true (.cons (.v 3) .nil)) (.cons (.v 4) (.cons (.v 2) .nil)))))
 (.cons (.set 11 (.blt .list true (.cons (.v 5) .nil)))
 (.cons (.BS [12,13] (.call 29 (.cons (.v 10) (.cons (.v 11) .nil))))
 (.cons (.ifs (.or (.cmp .ne (.v 10) (.tup (.cons (.v 3) (.cons (.v 4) (.cons (.v 2) .nil))))) (.cmp .ne (.v 11) (.v 5))) (.cons (.ret (.k (.bl false)))
 .nil) .nil)
 (.cons (.ifs (.v 8) (.cons (.ret (.cmp .eq (.v 12) (.k (.str "great"))))
 .nil) .nil)
 (.cons (.set 14 (.op .add true (.comp true [] [0] (.tup (.cons (.k (.str "open")) (.cons (.v 0) .nil))) (.eF (.v 2)) .none) (.comp true [2] [1] (.tup (.cons (.k (.str "shut")) (.cons (.op .sub true (.op .sub true (.v 0) (.k (.int 1))) (.v 1)) .nil))) (.eF (.v 2)) .none)))
 (.cons (.ifs (.or (.cmp .ne (.v 12) (.k (.str ""))) (.or (.not (.lD (.v 13) .tuple)) (.cmp .ne (.v 13) (.tup (.cons (.idx (.v 7) (.k (.int 0))) (.cons (.v 14) .nil)))))) (.cons (.ret (.k (.bl false)))
 .nil) .nil)
 (.cons (.ifs (.or (.not (.lD (.idx (.v 13) (.k (.int 0))) .int)) (.or (.lD (.idx (.v 13) (.k (.int 0))) .bool) (.not (.lD (.idx (.v 13) (.k (.int 1))) .list)))) (.cons (.ret (.k (.bl false)))
 .nil) .nil)
 (.cons (.ex (.aK .append true (.idx (.v 13) (.k (.int 1))) (.cons (.k (.int 0)) .nil)))
 (.cons (.ret (.cmp .eq (.call 29 (.cons (.v 10) (.cons (.v 11) .nil))) (.tup (.cons (.k (.str "")) (.cons (.tup (.cons (.idx (.v 7) (.k (.int 0))) (.cons (.v 14) .nil))) .nil)))))
 .nil))))))))))))))))))))))⟩
noncomputable def fns:List Fn:=[ve,lG,cP,gu,o9,yf,iG,o8,dR,cS,cj,cg,cD,kK,j5,dP,eL,gX,jf,bO,bG,dQ,iX,gi,gS,fE,lE,j4,iI,lF,CF]
noncomputable def cst:List D:=[(.int 1000),(.int 12)]
noncomputable def subs:List (Nat×Nat):=[(0,0),(1,0),(1,1),(2,0),(2,2),(3,0),(3,3),(4,0),(4,4),(5,0),(5,5)]
noncomputable def ah:lR:=⟨fun i=>fns[i]?,fun i=>cst[i]?,100000,fun a b=>subs.contains (a,b)⟩
end bR
end
section
set_option maxHeartbeats 0
namespace bR
open Fg PySem PySem.Spec L2
noncomputable abbrev hdP:Program:=PySem.Challenge.pw_fieldgate_k41_rows_of_numbers
noncomputable def bD (i:Nat):Stmt:=hdP.main.body.getD i (.Pass ⟨0,0,0,0⟩)
noncomputable def tb:Tb:=⟨[
 ⟨"size_of", "size_of", bD 10, ["value"], ja, 0, none⟩,
 ⟨"cell_of", "cell_of", bD 11, ["word", "first", "second"], je, 1, none⟩,
 ⟨"want_few_figures", "want_few_figures", bD 12, ["number"], dB, 2, none⟩,
 ⟨"reckoned", "reckoned", bD 13, ["word", "first", "second"], iH, 3, none⟩,
 ⟨"looked_up", "looked_up", bD 14, ["word", "value"], gR, 4, none⟩,
 ⟨"told", "told", bD 15, ["value"], mS, 5, none⟩,
 ⟨"want_few_calls", "want_few_calls", bD 16, ["begun", "under_way", "most"], d9, 6, none⟩,
 ⟨"run", "run", bD 20, ["code", "numbers", "most"], o7, 7, some 200⟩,
 ⟨"_law_mixed", "_law_mixed", bD 22, ["_law_cell"], gU, 22, none⟩,
 ⟨"_law_cell_at", "_law_cell_at", bD 23, ["_law_script", "_law_k"], fW, 23, none⟩,
 ⟨"_law_number", "_law_number", bD 24, ["_law_number_here"], gv, 24, none⟩,
 ⟨"_law_reckoned", "_law_reckoned", bD 25, ["_law_word", "_law_one", "_law_other"], fu, 25, none⟩,
 ⟨"_law_two", "_law_two", bD 26, ["_law_rows", "_law_values", "_law_word"], jb, 26, none⟩,
 ⟨"_law_leap", "_law_leap", bD 27, ["_law_rows", "_law_values", "_law_number_here"], iJ, 27, none⟩,
 ⟨"_law_row", "_law_row", bD 28, ["_law_rows", "_law_values", "_law_held", "_law_number_here"], jc, 28, none⟩,
 ⟨"_law_ran", "_law_ran", bD 29, ["_law_code", "_law_numbers"], jd, 29, none⟩,
 ⟨"law", "law", bD 30, ["_law_script"], pq, 30, none⟩],
 ["Frame", "Machine"],
 [(0, ⟨"__init__", "Frame.__init__", inClass (bD 18) 0, ["self", "known", "fields", "behind_call"], ek, 8, none⟩),
 (1, ⟨"__init__", "Machine.__init__", inClass (bD 19) 0, ["self", "rows", "most"], dD, 9, none⟩),
 (1, ⟨"open_field", "Machine.open_field", inClass (bD 19) 1, ["self"], cR, 10, none⟩),
 (1, ⟨"shut_field", "Machine.shut_field", inClass (bD 19) 2, ["self", "field"], cQ, 11, none⟩),
 (1, ⟨"want_open", "Machine.want_open", inClass (bD 19) 3, ["self", "field"], cZ, 12, none⟩),
 (1, ⟨"lay", "Machine.lay", inClass (bD 19) 4, ["self", "word", "field"], fX, 13, none⟩),
 (1, ⟨"look", "Machine.look", inClass (bD 19) 5, ["self", "word"], fG, 14, none⟩),
 (1, ⟨"reckon", "Machine.reckon", inClass (bD 19) 6, ["self", "word"], ee, 15, none⟩),
 (1, ⟨"carry", "Machine.carry", inClass (bD 19) 7, ["self", "row"], eT, 16, none⟩),
 (1, ⟨"go", "Machine.go", inClass (bD 19) 8, ["self", "row"], gw, 17, none⟩),
 (1, ⟨"enter", "Machine.enter", inClass (bD 19) 9, ["self", "begin", "many", "numbers"], eS, 18, none⟩),
 (1, ⟨"step", "Machine.step", inClass (bD 19) 10, ["self"], fF, 19, none⟩),
 (1, ⟨"want_all_open", "Machine.want_all_open", inClass (bD 19) 11, ["self", "value"], b9, 20, none⟩),
 (1, ⟨"answer", "Machine.answer", inClass (bD 19) 12, ["self"], ef, 21, none⟩)],
 ["GateError", "TooGreat", "Empty", "TooLong", "TooDeep", "Gone"],
 [("MOST_SIZE", 0, 1000), ("MOST_UNDER_WAY", 1, 12)],
 ["len", "tuple", "list", "int", "abs", "range", "isinstance", "bool", "reversed"],
 ["place", "known", "fields", "behind_call", "rows", "most", "begun", "pile", "frames", "lies_open", "log"],
 [],
 []⟩
noncomputable def Ku:Program:=W.view hdP [30]
noncomputable def hdL:List Str:=["GateError", "TooGreat", "Empty", "TooLong", "TooDeep", "Gone", "MOST_SIZE", "MOST_UNDER_WAY", "size_of", "cell_of", "want_few_figures", "reckoned", "looked_up", "told", "want_few_calls", "Frame", "Machine", "run", "_law_mixed", "_law_cell_at", "_law_number", "_law_reckoned", "_law_two", "_law_leap", "_law_row", "_law_ran"]
noncomputable def hdX (s:Shared):Bool:=W.xlAt Ku [] s&&W.recOk (W.RowW.records PySem.Challenge.rw_fieldgate_k41_rows_of_numbers.row.toRowW) s
theorem lft:W.LeftO hdP Ku hdL hdX (tb.hook ah).obs (tb.hook ah).val 20000:=fun w=>by kernel_rfl
end bR
end
section
namespace L2
open PySem PySem.Spec PyProof.Rows
noncomputable abbrev Key:=Sum Int Str
noncomputable def jV:Key->Value->Bool
 | .inl k,v=>Value.isInt k v
 | .inr x,v=>Value.isStrOf x v
noncomputable def keyH (w:World):Key->Int
 | .inl k=>hashInt k
 | .inr x=>hashStr w x
theorem aM:∀ {k:Key} {v:Value},jV k v=true->(∃ i t,k=Sum.inl i/\v=Value.int i t)\/(∃ x t,k=Sum.inr x/\v=Value.str x t)
 | .inl i,v,h=>by
  obtain ⟨t,e⟩:=Value.isInt_shape (k:=i) (v:=v) h
  exact .inl ⟨i,t,rfl,e⟩
 | .inr x,v,h=>by
  obtain ⟨t,e⟩:=Value.isStrOf_shape (x:=x) (v:=v) h
  exact .inr ⟨x,t,rfl,e⟩
theorem uY (i:Int) (t:Tok):jV (.inl i) (.int i t)=true:=by simp [jV,Value.isInt]
theorem iD (x:Str) (t:Tok):jV (.inr x) (.str x t)=true:=by simp [jV,Value.isStrOf]
theorem ET (a b:Int):decide ((Sum.inl a:Key)=Sum.inl b)=(a == b):=by
 by_cases e:a=b
 ·subst e;simp
 ·have h:¬ (Sum.inl a:Key)=Sum.inl b:=fun q=>e (Sum.inl.inj q)
  rw [decide_eq_false h]
  exact (beq_eq_false_iff_ne.mpr e).symm
theorem EO (a b:Str):decide ((Sum.inr a:Key)=Sum.inr b)=decide (a=b):=by
 by_cases e:a=b
 ·subst e;simp
 ·have h:¬ (Sum.inr a:Key)=Sum.inr b:=fun q=>e (Sum.inr.inj q)
  rw [decide_eq_false h,decide_eq_false e]
theorem ES (a:Int) (b:Str):decide ((Sum.inl a:Key)=Sum.inr b)=false:=decide_eq_false (fun q=>nomatch q)
theorem ER (a:Str) (b:Int):decide ((Sum.inr a:Key)=Sum.inl b)=false:=decide_eq_false (fun q=>nomatch q)
noncomputable def aJ (prog:Program) (w:World):PySem.KeyKind prog w Key where
 is:=jV
 hash:=keyH w
 inj:=fun v a b ha hb=>by
  rcases aM ha with ⟨i,t,rfl,rfl⟩ | ⟨x,t,rfl,rfl⟩
  ·rcases aM hb with ⟨j,u,rfl,e⟩ | ⟨y,u,rfl,e⟩
   ·injection e with e1 _;rw [e1]
   ·exact nomatch e
  ·rcases aM hb with ⟨j,u,rfl,e⟩ | ⟨y,u,rfl,e⟩
   ·exact nomatch e
   ·injection e with e1 _;rw [e1]
 byValue:=fun k v h=>by
  rcases aM h with ⟨i,t,rfl,rfl⟩ | ⟨x,t,rfl,rfl⟩ <;> rfl
 pyHash:=fun hv h=>by
  rcases aM hv with ⟨i,t,rfl,rfl⟩ | ⟨x,t,rfl,rfl⟩
  ·exact wpAny_pyHash_int h
  ·exact wpAny_pyHash_str h
 eqBool:=fun hu hv h=>by
  rcases aM hu with ⟨i,t,rfl,rfl⟩ | ⟨x,t,rfl,rfl⟩
  ·rcases aM hv with ⟨j,u,rfl,rfl⟩ | ⟨y,u,rfl,rfl⟩
   ·rw [ET] at h;exact wpAny_eqBool_int h
   ·rw [ES] at h;exact SeqAt.EqAt.int_str i t y u _ _ _ _ h
  ·rcases aM hv with ⟨j,u,rfl,rfl⟩ | ⟨y,u,rfl,rfl⟩
   ·rw [ER] at h;exact SeqAt.EqAt.str_int x t j u _ _ _ _ h
   ·rw [EO] at h;exact wpAny_eqBool_str h
 «strs»:=fun k x t v h=>by
  rcases aM h with ⟨i,u,rfl,e⟩ | ⟨y,u,rfl,e⟩
  ·exact nomatch e
  ·injection e with e1 _
   subst e1
   cases v <;> rfl
theorem oM (prog:Program) (w:World) (i:Int) (t:Tok):(aJ prog w).is (.inl i) (.int i t)=true:=uY i t
theorem oK (prog:Program) (w:World) (x:Str) (t:Tok):(aJ prog w).is (.inr x) (.str x t)=true:=iD x t
inductive V where
 | ak | bl (b:Bool) | int (i:Int) | str (x:Str) | vD (b:Array UInt8) | KA (b:UInt64) | ref (a:Addr) | ty (n:String)
 deriving DecidableEq
noncomputable def RelV:V->Value->Prop
 | .ak,u=>u=Value.none
 | .bl b,u=>u=Value.bool b
 | .int i,u=>∃ t,u=Value.int i t
 | .str x,u=>∃ t,u=Value.str x t
 | .vD b,u=>∃ t,u=Value.bytes b t
 | .KA b,u=>∃ t,u=Value.float b t
 | .ref a,u=>u=Value.ref a
 | .ty n,u=>u=Value.type n
noncomputable abbrev Vals:List V->List Value->Prop:=Paired RelV
theorem Vals.length {xs:List V} {us:List Value} (r:Vals xs us):xs.length=us.length:=Paired.length r
theorem Vals.get:∀ {xs:List V} {us:List Value} {i:Nat} {x:V},Vals xs us->xs[i]? = some x->∃ u,us[i]? = some u/\RelV x u
 | _,_,_,_,.nil,e=>by simp at e
 | _,_,0,_,.cons r _,e=>by simp at e;subst e;exact ⟨_,rfl,r⟩
 | _,_,i+1,x,.cons _ t,e=>by
  obtain ⟨u,h1,h2⟩:=Vals.get (i:=i) (x:=x) t (by simpa using e)
  exact ⟨u,by simpa using h1,h2⟩
theorem Vals.set {x:V} {u:Value} (r:RelV x u):∀ {xs:List V} {us:List Value} (i:Nat),Vals xs us->Vals (xs.set i x) (us.set i u)
 | _,_,_,.nil=>.nil
 | _,_,0,.cons _ t=>.cons r t
 | _,_,i+1,.cons q t=>.cons q (Vals.set r i t)
theorem Vals.append:∀ {xs ys:List V} {us ws:List Value},Vals xs us->Vals ys ws->Vals (xs++ys) (us++ws)
 | _,_,_,_,.nil,s=>s
 | _,_,_,_,.cons r t,s=>.cons r (Vals.append t s)
theorem Vals.take:∀ {xs:List V} {us:List Value} (n:Nat),Vals xs us->Vals (xs.take n) (us.take n)
 | _,_,0,_=>.nil
 | _,_,_+1,.nil=>.nil
 | _,_,n+1,.cons r t=>.cons r (Vals.take n t)
theorem Vals.drop:∀ {xs:List V} {us:List Value} (n:Nat),Vals xs us->Vals (xs.drop n) (us.drop n)
 | _,_,0,r=>r
 | _,_,_+1,.nil=>.nil
 | _,_,n+1,.cons _ t=>Vals.drop n t
noncomputable def gz:Option V->Option Value->Prop
 | some v,some u=>RelV v u
 | none,none=>True
 | _,_=>False
noncomputable def KV {κ:Type}:List (κ×V)->List (κ×Value)->Prop:=Paired fun (p:κ×V) (q:κ×Value)=>p.1=q.1/\RelV p.2 q.2
noncomputable def kV:Key->V
 | .inl i=>.int i
 | .inr x=>.str x
inductive HO where
 | lst (xs:List V)
 | tup (xs:List V)
 | dK (kvs:List (Key×V)) | dT (kvs:List (List Key×V))
 | set (S:Int->Bool) (n:Nat)
 | ins (C dx:Addr) (fs:List (Str×V))
 | own (x:Addr)
 | xd (fs:List (Str×V))
 | met (f x:Addr)
 | eF (lo hi:Int)
 | fQ (o:Obj) (u:HO)
 | BX (ps:Array Value)
 | ext (φ:Heap->Prop)
noncomputable abbrev Hp:=Addr->Option HO
noncomputable def upd (H:Hp) (a:Addr) (o:HO):Hp:=fun b=>if b=a then some o else H b
theorem ay {H:Hp} {a:Addr} {o:HO}:upd H a o a=some o:=by unfold upd;rw [if_pos rfl]
theorem ao {H:Hp} {a b:Addr} {o:HO} (h:b≠a):upd H a o b=H b:=by unfold upd;rw [if_neg h]
theorem Iw {H:Hp} {a b:Addr} {o u:HO} (h:H a=some o) (h':H b=some u) (d:o≠u):a≠b:=by
 intro e;subst e;rw [h] at h';exact d (Option.some.inj h')
theorem cM {H:Hp} {a b:Addr} {o:HO} (h:H a=some o) (h':H b=none):a≠b:=by
 intro e;subst e;rw [h] at h';cases h'
section
variable (P:Program) (w:World)
noncomputable def aW (H:Hp) (h:Heap) (a:Addr):HO->Prop
 | .lst xs=>xs.length<=sizeLine/\∃ (its:List Value) (n:Nat), Vals xs its/\h.get? a=some { cls:=.type "list", data:=.seq its.toArray n }
 | .tup xs=>xs.length<=sizeLine/\∃ its:List Value,Vals xs its/\IsTup h a its.toArray
 | .dK kvs=>kvs.length<=sizeLine/\(a == sysModules)=false/\∃ vs,KV kvs vs/\h.DictOf (aJ P w) a vs
 | .dT kvs=>kvs.length<=sizeLine/\(a == sysModules)=false/\∃ xs:List (List Key×Addr×Value),
   Paired (fun (p:List Key×V) (q:List Key×Addr×Value)=>p.1=q.1/\H q.2.1=some (.tup (p.1.map kV))/\RelV p.2 q.2.2) kvs xs /\
   ∃ o es ep,h.get? a=some o/\o.ExactDict/\o.data=.dict es ep/\es.toList=xs.map (entryOfKey (tupleKind (aJ P w)))/\(xs.map (·.1)).Nodup
 | .set S n=>h.SetOf (intKind P w) a S n
 | .ins C dx fs=>H dx=some (.own a)/\fs.length<=1000/\dx≠a/\h.get? a=some (PySem.W.instObj C dx) /\
   ∃ mA,h.Ns1 dx mA/\(∀ f,gz (fs.lookup f) (mA f))/\PySem.Within mA (fs.map (·.1))
 | .own _=>∃ o,h.get? a=some o
 | .xd fs=>∃ mA,h.Ns1 a mA/\∀ f,gz (fs.lookup f) (mA f)
 | .eF lo hi=>∃ t u v, h.get? a=some { cls:=.type "range", data:=.fields #[.int lo t, .int hi u, .int 1 v] }
 | .fQ o u=>h.get? a=some o/\aW H h a u
 | .BX ps=>h.get? a=some { cls:=.none,data:=.fields ps }
 | .met f x=>h.get? a=some (PySem.W.methodObj (.ref f) (.ref x))
 | .ext φ=>φ h/\(∃ o,h.get? a=some o)/\∀ h1 h2:Heap,φ h1->(∀ o,h1.get? a=some o->h2.get? a=some o)->φ h2
noncomputable def gb (H:Hp) (h:Heap):Prop:=∀ a o,H a=some o->aW P w H h a o
end
section
variable {P:Program} {w:World} {H H':Hp} {h h':Heap} {a:Addr} {o:HO}
theorem aW.lt (x:aW P w H h a o):a<h.objs.size:=by
 cases o with
 | lst xs=>obtain ⟨_,_,_,_,e⟩:=x;exact Heap.lt_size e
 | tup xs=>obtain ⟨_,_,_,p⟩:=x;exact p.lt
 | dK kvs=>obtain ⟨_,_,_,_,o,_,_,e,_⟩:=x;exact Heap.lt_size e
 | dT kvs=>obtain ⟨_,_,_,_,o,_,_,e,_⟩:=x;exact Heap.lt_size e
 | set S n=>obtain ⟨o,_,_,_,e,_⟩:=x;exact Heap.lt_size e
 | ins C dx fs=>obtain ⟨_,_,_,e,_⟩:=x;exact Heap.lt_size e
 | own y=>obtain ⟨_,e⟩:=x;exact Heap.lt_size e
 | xd fs=>obtain ⟨_,⟨_,_,_,e,_⟩,_⟩:=x;exact Heap.lt_size e
 | eF lo hi=>obtain ⟨_,_,_,e⟩:=x;exact Heap.lt_size e
 | fQ ob u=>obtain ⟨e,_⟩:=x;exact Heap.lt_size e
 | BX ps=>exact Heap.lt_size (show h.get? a=some _ from x)
 | met f y=>exact Heap.lt_size (show h.get? a=some _ from x)
 | ext φ=>obtain ⟨_,⟨_,e⟩,_⟩:=x;exact Heap.lt_size e
theorem Paired.EE {α β:Type} {F G:α->β->Prop}:∀ {l₁:List α} {l₂:List β},Paired F l₁ l₂->(∀ a b,F a b->G a b)->Paired G l₁ l₂
 | _,_,.nil,_=>.nil
 | _,_,.cons r t,f=>.cons (f _ _ r) (Paired.EE t f)
theorem aW.stay (x:aW P w H h a o) (k:∀ b u,(b=a\/H b=some (.own a))->h.get? b=some u->h'.get? b=some u)
  (ho:∀ b,H b=some (.own a)->H' b=some (.own a)) (ht:∀ b xs,H b=some (.tup xs)->H' b=some (.tup xs)):aW P w H' h' a o:=by
 induction o with
 | lst xs=>obtain ⟨z,its,n,r,e⟩:=x;exact ⟨z,its,n,r,k _ _ (.inl rfl) e⟩
 | tup xs=>obtain ⟨z,its,r,ob,e,c⟩:=x;exact ⟨z,its,r,ob,k _ _ (.inl rfl) e,c⟩
 | dK kvs=>obtain ⟨z,y,vs,r,ob,es,ep,e,c⟩:=x;exact ⟨z,y,vs,r,ob,es,ep,k _ _ (.inl rfl) e,c⟩
 | dT kvs =>
  obtain ⟨z,y,xs,r,ob,es,ep,e,c⟩:=x
  exact ⟨z,y,xs,Paired.EE r fun p q z=>⟨z.1,ht _ _ z.2.1,z.2.2⟩,ob,es,ep,k _ _ (.inl rfl) e,c⟩
 | set S n=>obtain ⟨ob,es,ep,t,e,c⟩:=x;exact ⟨ob,es,ep,t,k _ _ (.inl rfl) e,c⟩
 | ins C dx fs =>
  obtain ⟨d,z,ne,e,mA,⟨od,es,ep,e2,c⟩,r⟩:=x
  exact ⟨ho _ d,z,ne,k _ _ (.inl rfl) e,mA,⟨od,es,ep,k _ _ (.inr d) e2,c⟩,r⟩
 | own y=>obtain ⟨ob,e⟩:=x;exact ⟨ob,k _ _ (.inl rfl) e⟩
 | xd fs=>obtain ⟨mA,⟨od,es,ep,e,c⟩,r⟩:=x;exact ⟨mA,⟨od,es,ep,k _ _ (.inl rfl) e,c⟩,r⟩
 | eF lo hi=>obtain ⟨t,u,v,e⟩:=x;exact ⟨t,u,v,k _ _ (.inl rfl) e⟩
 | fQ ob u ih=>obtain ⟨e,q⟩:=x;exact ⟨k _ _ (.inl rfl) e,ih q⟩
 | BX ps =>
  have e:h.get? a=some { cls:=.none,data:=.fields ps }:=x
  show h'.get? a=some { cls:=.none,data:=.fields ps }
  exact k a _ (.inl rfl) e
 | met f y =>
  have e:h.get? a=some (PySem.W.methodObj (.ref f) (.ref y)):=x
  show h'.get? a=some (PySem.W.methodObj (.ref f) (.ref y))
  exact k a _ (.inl rfl) e
 | ext φ=>obtain ⟨p,⟨o,e⟩,st⟩:=x;exact ⟨st _ _ p fun o q=>k _ _ (.inl rfl) q,⟨o,k _ _ (.inl rfl) e⟩,st⟩
theorem gb.lt (x:gb P w H h) (e:H a=some o):a<h.objs.size:=(x a o e).lt
theorem gb.fresh (x:gb P w H h) (e:h.objs.size<=a):H a=none:=by
 cases q:H a with
 | none=>rfl
 | some u=>exact absurd (Nat.lt_of_lt_of_le (x.lt q) e) (Nat.lt_irrefl _)
theorem gb.kept (x:gb P w H h) (k:∀ b u,h.get? b=some u->h'.get? b=some u):gb P w H h':=fun a o e =>
 (x a o e).stay (fun b u _ q=>k b u q) (fun _ q=>q) fun _ _ q=>q
theorem gb.laid (x:gb P w H h) (k:∀ b u,h.get? b=some u->h'.get? b=some u) (hp:h.objs.size<=a) (new:aW P w (upd H a o) h' a o):gb P w (upd H a o) h':=fun b u e=>by
 have hn:=x.fresh hp
 by_cases hb:b=a
 ·subst hb;rw [ay] at e;cases e;exact new
 ·rw [ao hb] at e
  exact (x b u e).stay (fun c v _ q=>k c v q) (fun c q=>by rw [ao (cM q hn)];exact q) fun c xs q=>by rw [ao (cM q hn)];exact q
end
noncomputable def Rd (H:Hp) (a:Addr) (u:HO):Prop:=H a=some u\/∃ o,H a=some (.fQ o u)
theorem Rd.ok {P:Program} {w:World} {H:Hp} {h:Heap} {a:Addr} {u:HO} (r:Rd H a u) (x:gb P w H h):aW P w H h a u:=by
 rcases r with r | ⟨o,r⟩
 ·exact x a u r
 ·obtain ⟨_,q⟩:=x a _ r
  exact q
noncomputable def JT:Option HO->Prop
 | some (.lst _)=>True
 | some (.dK _)=>True
 | some (.dT _)=>True
 | some (.set _ _)=>True
 | some (.ins _ _ _)=>True
 | some (.ext _)=>True
 | _=>False
section
variable {P:Program} {w:World} {H:Hp} {h h':Heap} {x e:Addr} {o':HO}
theorem gb.write (ok:gb P w H h) (mu:JT (H x)) (he:e=x\/H e=some (.own x)) (k:∀ b u,b≠e->h.get? b=some u->h'.get? b=some u) (Cy:∃ u,h'.get? e=some u)
  (new:aW P w (upd H x o') h' x o'):gb P w (upd H x o') h':=fun b u q=>by
 have Ip:∀ c y,H c=some (.own y)->c≠x:=fun c y r z=>by subst z;rw [r] at mu;exact mu
 have ntup:∀ c xs,H c=some (.tup xs)->c≠x:=fun c xs r z=>by subst z;rw [r] at mu;exact mu
 by_cases hb:b=x
 ·subst hb;rw [ay] at q;cases q;exact new
 ·rw [ao hb] at q
  by_cases FG:b=e
  ·have q':H b=some (.own x):=by
    rcases he with z | z
    ·exact absurd (FG.trans z) hb
    ·rw [FG];exact z
   rw [q] at q';cases q'
   obtain ⟨v,hv⟩:=Cy
   exact ⟨v,by rw [FG];exact hv⟩
  ·refine (ok b u q).stay (fun c v hc r=>k c v ?_ r) (fun c r=>by rw [ao (Ip c b r)];exact r) fun c xs r=>by rw [ao (ntup c xs r)];exact r
   rcases hc with rfl | hc
   ·exact FG
   ·rintro rfl
    rcases he with z | z
    ·exact Ip c b hc z
    ·rw [hc] at z;cases z;exact hb rfl
end
structure Un (fs ex:List Addr) (H H':Hp) (h h':Heap):Prop where
 keep:∀ b o,h.get? b=some o->H b=none->b∉fs->b∉ex->h'.get? b=some o
 slot:∀ b o,h.get? b=some o->H b=none->b∈fs->b∉ex->∃ sl,h'.get? b=some { o with slots:=sl }
 free:∀ b o,h.get? b=some o->H b=none->b∉ex->H' b=none
 there:∀ b o,h.get? b=some o->b∉ex->∃ o',h'.get? b=some o'
 tups:∀ b xs,H b=some (.tup xs)->H' b=some (.tup xs)
 fV:∀ b o u,H b=some (.fQ o u)->H' b=some (.fQ o u)
 gE:∀ b ps,H b=some (.BX ps)->∃ more,H' b=some (.BX (ps++more))
section
variable {fs fs' ex ex':List Addr} {H H1 H2:Hp} {h h1 h2 h':Heap} {a x e:Addr} {o:HO}
theorem Un.any (u:Un fs ex H H1 h h1) {b:Addr} {ob:Obj} (q:h.get? b=some ob) (n:H b=none) (hx:b∉ex):∃ sl,h1.get? b=some { ob with slots:=sl }:=by
 by_cases hb:b∈fs
 ·exact u.slot b ob q n hb hx
 ·exact ⟨ob.slots,u.keep b ob q n hb hx⟩
theorem Un.trans (a:Un fs ex H H1 h h1) (b:Un fs ex H1 H2 h1 h2):Un fs ex H H2 h h2 where
 keep:=fun c ob q n hc hx=>b.keep c ob (a.keep c ob q n hc hx) (a.free c ob q n hx) hc hx
 slot:=fun c ob q n hc hx=>by
  obtain ⟨sl,e1⟩:=a.slot c ob q n hc hx
  obtain ⟨B6,e2⟩:=b.slot c _ e1 (a.free c ob q n hx) hc hx
  exact ⟨B6,e2⟩
 free:=fun c ob q n hx=>by
  obtain ⟨o',e1⟩:=a.there c ob q hx
  exact b.free c o' e1 (a.free c ob q n hx) hx
 there:=fun c ob q hx=>by
  obtain ⟨o',e1⟩:=a.there c ob q hx
  exact b.there c o' e1 hx
 tups:=fun c xs q=>b.tups c xs (a.tups c xs q)
 fV:=fun c ob xs q=>b.fV c ob xs (a.fV c ob xs q)
 gE:=fun c ps q=>by
  obtain ⟨m1,e1⟩:=a.gE c ps q
  obtain ⟨m2,e2⟩:=b.gE c _ e1
  exact ⟨m1++m2,by rw [e2,Array.append_assoc]⟩
theorem Un.kept (k:∀ b u,h.get? b=some u->h'.get? b=some u):Un fs ex H H h h' :=
 ⟨fun b ob q _ _ _=>k b ob q,fun b ob q _ _ _=>⟨ob.slots,k b ob q⟩,fun _ _ _ n _=>n,fun b ob q _=>⟨ob,k b ob q⟩,fun _ _ q=>q,fun _ _ _ q=>q,fun _ ps q=>⟨#[],by rw [q];simp⟩⟩
theorem Un.refl:Un fs ex H H h h:=Un.kept fun _ _ q=>q
theorem Un.laid (k:∀ b u,h.get? b=some u->h'.get? b=some u) (hp:h.objs.size<=a) (hn:H a=none):Un fs ex H (upd H a o) h h' where
 keep:=fun b u q _ _ _=>k b u q
 slot:=fun b u q _ _ _=>⟨u.slots,k b u q⟩
 free:=fun b u q n _=>by rw [ao (Nat.ne_of_lt (Nat.lt_of_lt_of_le (Heap.lt_size q) hp))];exact n
 there:=fun b u q _=>⟨u,k b u q⟩
 tups:=fun b xs q=>by rw [ao (cM q hn)];exact q
 fV:=fun b u xs q=>by rw [ao (cM q hn)];exact q
 gE:=fun b ps q=>⟨#[],by rw [ao (cM q hn),q];simp⟩
theorem Un.write (mu:JT (H x)) (he:e=x\/H e=some (.own x)) (k:∀ b u,b≠e->h.get? b=some u->h'.get? b=some u) (Cy:∃ u,h'.get? e=some u):Un fs ex H (upd H x o) h h':=by
 have hx:∀ b,H b=none->b≠x:=fun b n z=>by subst z;rw [n] at mu;exact mu
 have hb:∀ b,H b=none->b≠e:=fun b n z=>by
  subst z
  rcases he with r | r
  ·exact hx b n r
  ·rw [n] at r;cases r
 have hm:∀ b u,H b=some u->¬ JT (some u)->b≠x:=fun b u q nm z=>by subst z;rw [q] at mu;exact nm mu
 refine ⟨fun b u q n _ _=>k b u (hb b n) q,fun b u q n _ _=>⟨u.slots,k b u (hb b n) q⟩,fun b u q n _=>by rw [ao (hx b n)];exact n,fun b u q _=>?_,
  fun b xs q=>by rw [ao (hm b _ q fun z=>z)];exact q,fun b u xs q=>by rw [ao (hm b _ q fun z=>z)];exact q,fun b ps q=>⟨#[],by rw [ao (hm b _ q fun z=>z),q];simp⟩⟩
 by_cases FG:b=e
 ·subst FG;exact Cy
 ·exact ⟨u,k b u FG q⟩
end
noncomputable def J3 (h:Heap) (H:Hp):List Addr:=(List.range h.objs.size).filter fun a=>(H a).isSome
noncomputable def mL (h:Heap) (H:Hp):Heap:=PySem.W.hideAll h (J3 h H)
theorem u7 (h:Heap) (H:Hp):(mL h H).objs.size=h.objs.size:=PySem.W.hideAll_size _ _
theorem ya {h:Heap} {H:Hp} {b:Addr} {o:Obj} (e:h.get? b=some o) (n:H b=none):(mL h H).get? b=some o :=
 PySem.W.hideAll_get _ e fun hm=>by
  have q:(H b).isSome=true:=(List.mem_filter.mp hm).2
  rw [n] at q;simp at q
theorem AG {h:Heap} {H:Hp} {b:Addr} {o:Obj} (e:(mL h H).get? b=some o):h.get? b=some o/\H b=none:=by
 have e':h.get? b=some o:=PySem.W.of_hideAll (J3 h H) e
 refine ⟨e',?_⟩
 cases q:H b with
 | none=>rfl
 | some x =>
  have hm:b∈J3 h H:=List.mem_filter.mpr ⟨List.mem_range.mpr (Heap.lt_size e'),by simp [q]⟩
  have z:(mL h H).get? b=none:=PySem.W.hideAll_none (J3 h H) hm
  rw [z] at e;cases e
noncomputable def BI (g h:Heap) (L:Addr):List (Addr×Obj):=(List.range h.objs.size).filterMap fun a=>if a=L\/(g.get? a).isSome=true then none else (h.get? a).map fun o=>(a,o)
noncomputable def rest (g h:Heap) (L d:Addr):List (Addr×Obj):=(BI g h L).filter fun p=>decide (p.1≠d)
structure Mod (K:PySem.W.Frag) (mg:Str->Option Value) (base:Heap):Prop where
 Cr:K.In base
 glob:base.Ns mainGlobals mg
 blt:∃ mb, base.Ns builtinsNs mb/\∀ x:Str, x≠"__name__"->mb x=bootBuiltins x
 nolimit:base.NoLimit
structure Cx where
 prog:Program
 w:World
 K:PySem.W.Frag
 mg:Str->Option Value
 base:Heap
 A:Around
 N:List Str
 s₀:Shared
 H₀:Hp
 env:Env
 outer:List Env
 stack:List Env
 ex:List Addr
 fn:Str->Bool
 calm:Bool
 pn:List (Addr×Obj)
 xe:Value->Shared->Prop
noncomputable def frs (l:List Env):List Addr:=l.filterMap (·.frame)
noncomputable abbrev Cx.fs (X:Cx):List Addr:=frs X.outer
noncomputable def KY (sc:Scope) (x:Str):Prop:=sc.names.lookup x=some .local\/sc.names.lookup x=some .cell\/sc.names.lookup x=some .free
noncomputable def Loc (sc:Scope) (x:Str):Prop:=sc.names.lookup x=some .local\/sc.names.lookup x=some .cell
noncomputable def Look (env:Env) (h:Heap) (m:Str->Option Value) (x:Str) (u:Value):Prop :=
 (env.kindOf x=some .local/\m x=some u)\/((env.kindOf x=some .cell\/env.kindOf x=some .free)/\∃ c,env.cells.lookup x=some c/\h.IsCell c (some u))
structure Cx.Ok (X:Cx):Prop where
 mod:Mod X.K X.mg X.base
 kind:X.env.scope.kind=.function
 glob:X.env.globals=mainGlobals
 blt:X.env.builtins=builtinsNs
 above:X.s₀.heap.objs.size<=X.env.locals
 inj:∀ x y c,X.env.cells.lookup x=some c->X.env.cells.lookup y=some c->x=y
 has:∀ x,(X.env.kindOf x=some .cell\/X.env.kindOf x=some .free)->∃ c,X.env.cells.lookup x=some c
 CO:∀ x c,X.fn x=true->X.env.cells.lookup x=some c->X.s₀.heap.objs.size<=c
 hd:X.calm=true->X.A.handled=none
 frames:X.A.frames=some X.stack
 stk:X.stack=X.outer\/(X.stack=X.env::X.outer/\X.env.frame=some X.env.locals)
 Jj:∀ b∈X.ex,b≠X.env.locals/\∀ x c,X.env.cells.lookup x=some c->c≠b
 bs:∀ b o,X.base.get? b=some o->X.s₀.heap.get? b=some o/\X.H₀ b=none
 vE:X.base.objs.size<=X.s₀.heap.objs.size
 oF:∀ b o,X.base.get? b=some o->b∉X.ex
 qT:∀ b∈X.ex,b∉X.fs
 gr:X.s₀.heap.FunFrames X.base X.outer
 zb:∀ b∈X.fs,X.H₀ b=none
structure Inv (X:Cx) (pins:List (Addr×Obj)) (Z:List (Option V)) (H:Hp) (s:Shared):Prop where
 ok:X.Ok
 os:s.os=X.s₀.os
 bare:AllBare s.gens
 base:Un X.fs X.ex X.H₀ H X.s₀.heap s.heap
 loc:∃ m,s.heap.Ns X.env.locals m/\∀ (i:Nat) (x:Str) (v:V),X.N[i]? = some x->Z[i]? = some (some v)->KY X.env.scope x->∃ u,RelV v u/\Look X.env s.heap m x u
 cell:∀ x c,X.env.cells.lookup x=some c->∃ v,s.heap.IsCell c v
 free:H X.env.locals=none
 b8:∀ x c,X.env.cells.lookup x=some c->H c=none
 pin:∀ p∈X.pn++pins,s.heap.get? p.1=some p.2/\H p.1=none/\p.1≠X.env.locals/\p.1∉X.fs/\∀ v,p.2.data≠.cell v
 hok:gb X.prog X.w H s.heap
 len:Z.length=X.N.length
section
variable {X:Cx} {pins:List (Addr×Obj)} {Z:List (Option V)} {H H':Hp} {s:Shared} {h':Heap}
theorem Cx.Ok.nofr (ok:X.Ok) {b:Addr} {o:Obj} (e:X.base.get? b=some o):b∉X.fs:=fun hb=>by
 have:=(ok.gr.mem hb).1
 rw [e] at this;cases this
theorem Inv.bs (I:Inv X pins Z H s):∀ b o,X.base.get? b=some o->s.heap.get? b=some o/\H b=none:=fun b o e =>
 ⟨I.base.keep b o (I.ok.bs b o e).1 (I.ok.bs b o e).2 (I.ok.nofr e) (I.ok.oF b o e),I.base.free b o (I.ok.bs b o e).1 (I.ok.bs b o e).2 (I.ok.oF b o e)⟩
theorem Inv.bk (I:Inv X pins Z H s):∀ b o,X.base.get? b=some o->s.heap.get? b=some o:=fun b o e=>(I.bs b o e).1
theorem Inv.mod (I:Inv X pins Z H s):Mod X.K X.mg X.base:=I.ok.mod
theorem Inv.gO (I:Inv X pins Z H s):X.K.In s.heap:=I.ok.mod.Cr.keeps I.bk
theorem Inv.lt (I:Inv X pins Z H s):X.env.locals<s.heap.objs.size:=let ⟨_,hn,_⟩:=I.loc;hn.lt
theorem Inv.sz (I:Inv X pins Z H s):X.s₀.heap.objs.size<=s.heap.objs.size:=Nat.le_trans I.ok.above (Nat.le_of_lt I.lt)
theorem Inv.Iq (I:Inv X pins Z H s) {a:Addr} (h:s.heap.objs.size<=a):a∉X.fs:=fun hb=>by
 obtain ⟨_,o,ho,_⟩:=I.ok.gr.mem hb
 exact absurd (Nat.lt_of_lt_of_le (Heap.lt_size ho) (Nat.le_trans I.sz h)) (Nat.lt_irrefl _)
theorem Inv.Gg (I:Inv X pins Z H s):∀ x c,X.env.cells.lookup x=some c->c≠X.env.locals:=fun x c e z=>by
 obtain ⟨v,o,ho,hd⟩:=I.cell x c e
 obtain ⟨m,⟨o',es,ep,ho',hd',_⟩,_⟩:=I.loc
 rw [z,ho'] at ho;cases ho;rw [hd'] at hd;cases hd
theorem Inv.gr (I:Inv X pins Z H s):s.heap.FunFrames X.base X.outer:=by
 have all:∀ (l:List Env),(∀ b∈frs l,b∈X.fs)->X.s₀.heap.FunFrames X.base l->s.heap.FunFrames X.base l:=by
  intro l
  induction l with
  | nil=>intro _ _;trivial
  | cons env r ih =>
   intro hs hl
   obtain ⟨hk,⟨L,o,hf,hn,ho,hd⟩,hr⟩:=hl
   have hL:L∈X.fs:=hs L (by unfold frs;rw [List.filterMap_cons,hf];exact List.mem_cons_self)
   obtain ⟨sl,e⟩:=I.base.slot L o ho (I.ok.zb L hL) hL fun z=>I.ok.qT L z hL
   exact ⟨hk,⟨L,_,hf,hn,e,hd⟩,ih (fun b hb=>hs b (by unfold frs;rw [List.filterMap_cons,hf];exact List.mem_cons_of_mem _ hb)) hr⟩
 exact all X.outer (fun _ hb=>hb) I.ok.gr
theorem Inv.stack (I:Inv X pins Z H s):s.heap.FunFrames X.base X.stack:=by
 rcases I.ok.stk with e | ⟨e,hf⟩
 ·rw [e];exact I.gr
 ·rw [e]
  obtain ⟨m,hn,_⟩:=I.loc
  refine .cons (by rw [I.ok.kind];decide) hf hn ?_ I.gr
  exact Heap.get?_none_of_le (Nat.le_trans I.ok.vE I.ok.above)
theorem Inv.dX (I:Inv X pins Z H s):∀ b∈frs X.stack,b∈X.env.locals::X.fs:=fun b hb=>by
 rcases I.ok.stk with e | ⟨e,hf⟩
 ·rw [e] at hb;exact List.mem_cons_of_mem _ hb
 ·rw [e] at hb
  unfold frs at hb
  rw [List.filterMap_cons,hf] at hb
  exact hb
theorem Inv.fL (I:Inv X pins Z H s):∀ b∈frs X.stack,H b=none:=fun b hb=>by
 rcases List.mem_cons.mp (I.dX b hb) with e | hb
 ·rw [e];exact I.free
 ·obtain ⟨_,o,ho,_⟩:=I.ok.gr.mem hb
  exact I.base.free b o ho (I.ok.zb b hb) fun z=>I.ok.qT b z hb
theorem Inv.step {g':Array GenState} {t':Nat} {d':Drawn} {ch:List Addr} (I:Inv X pins Z H s)
  (hch:∀ b∈ch,(b∈X.ex\/X.s₀.heap.objs.size<=b)/\b≠X.env.locals/\(∀ x c,X.env.cells.lookup x=some c->c≠b)/\∀ p∈X.pn++pins,p.1≠b)
  (keep:∀ b o,b≠X.env.locals->b∉X.fs->b∉ch->s.heap.get? b=some o->H b=none->h'.get? b=some o)
  (slot:∀ b o,b≠X.env.locals->b∈X.fs->b∉ch->s.heap.get? b=some o->H b=none->∃ sl,h'.get? b=some { o with slots:=sl }) (free:∀ b o,b∉ch->s.heap.get? b=some o->H b=none->H' b=none)
  (there:∀ b o,b∉ch->s.heap.get? b=some o->∃ o',h'.get? b=some o')
  (tups:∀ b xs,H b=some (.tup xs)->H' b=some (.tup xs)) (fV:∀ b o u,H b=some (.fQ o u)->H' b=some (.fQ o u)) (gE:∀ b ps,H b=some (.BX ps)->∃ more,H' b=some (.BX (ps++more)))
  (ns:∀ m,s.heap.Ns X.env.locals m->h'.Ns X.env.locals m) (hok:gb X.prog X.w H' h') (hg:AllBare g') :
  Inv X pins Z H' { s with heap:=h',gens:=g',drawn:=d',toks:=t' }:=by
 have neL:∀ b o,X.s₀.heap.get? b=some o->b≠X.env.locals:=fun b o e=>Nat.ne_of_lt (Nat.lt_of_lt_of_le (Heap.lt_size e) I.ok.above)
 have sR:∀ b o,X.s₀.heap.get? b=some o->b∉X.ex->b∉ch:=fun b o e hx hb=>by
  rcases (hch b hb).1 with z | z
  ·exact hx z
  ·exact absurd (Nat.lt_of_lt_of_le (Heap.lt_size e) z) (Nat.lt_irrefl _)
 have cellK:∀ x c,X.env.cells.lookup x=some c->∀ v,s.heap.IsCell c v->h'.IsCell c v:=fun x c e v ⟨o,ho,hd⟩=>by
  have Iz:c∉ch:=fun z=>(hch c z).2.2.1 x c e rfl
  by_cases hc:c∈X.fs
  ·obtain ⟨sl,q⟩:=slot c o (I.Gg x c e) hc Iz ho (I.b8 x c e)
   exact ⟨_,q,hd⟩
  ·exact ⟨o,keep c o (I.Gg x c e) hc Iz ho (I.b8 x c e),hd⟩
 refine ⟨I.ok,I.os,hg,⟨fun b o e n hb hx=>?_,fun b o e n hb hx=>?_,fun b o e n hx=>?_,fun b o e hx=>?_,fun b xs e=>tups b xs (I.base.tups b xs e),fun b o xs e=>fV b o xs (I.base.fV b o xs e),fun b ps e=>?_⟩,?_,fun x c e=>?_,?_,fun x c e=>?_,fun p hp=>?_,hok,I.len⟩
 ·exact keep b o (neL b o e) hb (sR b o e hx) (I.base.keep b o e n hb hx) (I.base.free b o e n hx)
 ·obtain ⟨sl,e1⟩:=I.base.slot b o e n hb hx
  obtain ⟨B6,e2⟩:=slot b _ (neL b o e) hb (sR b o e hx) e1 (I.base.free b o e n hx)
  exact ⟨B6,e2⟩
 ·obtain ⟨o',e1⟩:=I.base.there b o e hx
  exact free b o' (sR b o e hx) e1 (I.base.free b o e n hx)
 ·obtain ⟨o',e1⟩:=I.base.there b o e hx
  exact there b o' (sR b o e hx) e1
 ·obtain ⟨m1,e1⟩:=I.base.gE b ps e
  obtain ⟨m2,e2⟩:=gE b _ e1
  exact ⟨m1++m2,by rw [e2,Array.append_assoc]⟩
 ·obtain ⟨m,hn,hl⟩:=I.loc
  refine ⟨m,ns m hn,fun i x v e1 e2 e3=>?_⟩
  obtain ⟨u,r,l⟩:=hl i x v e1 e2 e3
  refine ⟨u,r,?_⟩
  rcases l with l | ⟨k,c,e,z⟩
  ·exact .inl l
  ·exact .inr ⟨k,c,e,cellK x c e _ z⟩
 ·obtain ⟨v,z⟩:=I.cell x c e
  exact ⟨v,cellK x c e v z⟩
 ·obtain ⟨m,⟨o,_,_,ho,_⟩,_⟩:=I.loc
  exact free _ o (fun z=>(hch _ z).2.1 rfl) ho I.free
 ·obtain ⟨v,o,ho,hd⟩:=I.cell x c e
  exact free c o (fun z=>(hch c z).2.2.1 x c e rfl) ho (I.b8 x c e)
 ·obtain ⟨e,n,ne,nf,d⟩:=I.pin p hp
  have Iz:p.1∉ch:=fun z=>(hch p.1 z).2.2.2 p hp rfl
  exact ⟨keep p.1 p.2 ne nf Iz e n,free p.1 p.2 Iz e n,ne,nf,d⟩
theorem Inv.un {t':Nat} (I:Inv X pins Z H s) (u:Un X.fs [] H H' s.heap h') (hok:gb X.prog X.w H' h'):Inv X pins Z H' { s with heap:=h',toks:=t' }:=by
 obtain ⟨m,⟨o,es,ep,ho,r⟩,_⟩:=id I.loc
 obtain ⟨sl,hL⟩:=u.any ho I.free (by simp)
 exact I.step (g':=s.gens) (d':=s.drawn) (ch:=[]) (fun _ z=>nomatch z) (fun b o _ hb _ e n=>u.keep b o e n hb (by simp)) (fun b o _ hb _ e n=>u.slot b o e n hb (by simp)) (fun b o _ e n=>u.free b o e n (by simp)) (fun b o _ e=>u.there b o e (by simp)) u.tups u.fV u.gE (fun m' hm=>by
  obtain ⟨o',es',Jt,ho',r'⟩:=hm
  rw [ho] at ho';cases ho'
  exact ⟨_,es',Jt,hL,r'⟩) hok I.bare
theorem Inv.call {g':Array GenState} {t':Nat} {d':Drawn} {ch:List Addr} (I:Inv X pins Z H s) (u:Un (frs X.stack) ch H H' s.heap h') (hok:gb X.prog X.w H' h') (hg:AllBare g')
  (hch:∀ b∈ch,(b∈X.ex\/X.s₀.heap.objs.size<=b)/\b≠X.env.locals/\(∀ x c,X.env.cells.lookup x=some c->c≠b)/\∀ p∈X.pn++pins,p.1≠b) :
  Inv X pins Z H' { s with heap:=h',gens:=g',drawn:=d',toks:=t' }:=by
 obtain ⟨m,⟨o,es,ep,ho,r⟩,_⟩:=id I.loc
 obtain ⟨sl,hL⟩:=u.any ho I.free fun z=>(hch _ z).2.1 rfl
 exact I.step (ch:=ch) hch (fun b o hL hb hc e n=>u.keep b o e n (fun z=>(List.mem_cons.mp (I.dX b z)).elim hL hb) hc) (fun b o _ _ hc e n=>u.any e n hc) (fun b o hc e n=>u.free b o e n hc) (fun b o hc e=>u.there b o e hc) u.tups u.fV u.gE (fun m' hm=>by
  obtain ⟨o',es',Jt,ho',r'⟩:=hm
  rw [ho] at ho';cases ho'
  exact ⟨_,es',Jt,hL,r'⟩) hok hg
theorem Inv.turned {t':Nat} {it:Addr} (I:Inv X pins Z H s) (k:∀ b o,b≠it->s.heap.get? b=some o->h'.get? b=some o) (hn:H it=none) (hL:it≠X.env.locals)
  (h1:it∈X.ex\/X.s₀.heap.objs.size<=it) (h2:∀ x c,X.env.cells.lookup x=some c->c≠it) (h3:∀ p∈X.pn++pins,p.1≠it):Inv X pins Z H { s with heap:=h',toks:=t' }:=by
 have nit:∀ b u,H b=some u->b≠it:=fun b u e z=>by rw [z,hn] at e;cases e
 refine I.step (g':=s.gens) (d':=s.drawn) (ch:=[it]) (fun b hb=>?_) (fun b o _ _ hc e _=>k b o (fun z=>hc (by simp [z])) e) (fun b o _ _ hc e _=>⟨o.slots,k b o (fun z=>hc (by simp [z])) e⟩) (fun _ _ _ _ n=>n)
  (fun b o hc e=>⟨o,k b o (fun z=>hc (by simp [z])) e⟩) (fun _ _ e=>e) (fun _ _ _ e=>e) (fun b ps e=>⟨#[],by rw [e];simp⟩) (fun m hm=>?_) (fun b u e=>?_) I.bare
 ·have e:b=it:=by simpa using hb
  subst e
  exact ⟨h1,hL,h2,h3⟩
 ·obtain ⟨o,es,ep,ho,r⟩:=hm
  exact ⟨o,es,ep,k _ o (Ne.symm hL) ho,r⟩
 ·refine (I.hok b u e).stay (fun c v hc q=>k c v ?_ q) (fun _ q=>q) fun _ _ q=>q
  rcases hc with z | z
  ·rw [z];exact nit b u e
  ·exact nit c _ z
theorem Inv.tok (I:Inv X pins Z H s) (t:Nat):Inv X pins Z H { s with toks:=t }:=I.un (h':=s.heap) (t':=t) Un.refl I.hok
theorem Inv.kept {t':Nat} (I:Inv X pins Z H s) (k:∀ b u,s.heap.get? b=some u->h'.get? b=some u):Inv X pins Z H { s with heap:=h',toks:=t' }:=I.un (Un.kept k) (I.hok.kept k)
theorem Inv.laid {a:Addr} {o:HO} {t':Nat} (I:Inv X pins Z H s) (k:∀ b u,s.heap.get? b=some u->h'.get? b=some u) (hp:s.heap.objs.size<=a) (new:aW X.prog X.w (upd H a o) h' a o) :
  Inv X pins Z (upd H a o) { s with heap:=h',toks:=t' }:=I.un (Un.laid k hp (I.hok.fresh hp)) (I.hok.laid k hp new)
theorem Inv.write {x e:Addr} {o:HO} {t':Nat} (I:Inv X pins Z H s) (mu:JT (H x)) (he:e=x\/H e=some (.own x)) (k:∀ b u,b≠e->s.heap.get? b=some u->h'.get? b=some u) (Cy:∃ u,h'.get? e=some u)
  (new:aW X.prog X.w (upd H x o) h' x o):Inv X pins Z (upd H x o) { s with heap:=h',toks:=t' }:=I.un (Un.write mu he k Cy) (I.hok.write mu he k Cy new)
theorem Inv.sH {jH:List (Addr×Obj)} (I:Inv X pins Z H s) (h:∀ p∈jH,s.heap.get? p.1=some p.2/\H p.1=none/\p.1≠X.env.locals/\p.1∉X.fs/\∀ v,p.2.data≠.cell v):Inv X jH Z H s :=
 ⟨I.ok,I.os,I.bare,I.base,I.loc,I.cell,I.free,I.b8,fun p hp=>(List.mem_append.mp hp).elim (fun z=>I.pin p (List.mem_append_left _ z)) (h p),I.hok,I.len⟩
theorem oG {N:List Str} (hN:N.Nodup) {i j:Nat} {x:Str} (a:N[i]? = some x) (b:N[j]? = some x):i=j:=by
 obtain ⟨h1,e1⟩:=List.getElem?_eq_some_iff.mp a
 obtain ⟨h2,e2⟩:=List.getElem?_eq_some_iff.mp b
 exact (List.getElem_inj hN).mp (e1.trans e2.symm)
theorem kW {M:Model} {A:Around} {E:Value->Shared->Prop} {i:Nat} {x:Str} {v:V} {u:Value} {Q:Unit->Shared->Prop} (I:Inv X pins Z H s) (hN:X.N.Nodup) (hi:X.N[i]? = some x) (hx:Loc X.env.scope x) (r:RelV v u)
  (h:∀ s',Inv X pins (Z.set i (some v)) H s'->(∃ a,Heap.SameBut a s.heap s'.heap/\(a=X.env.locals\/X.env.cells.lookup x=some a))->Q () s') (hf:X.fn x=true\/X.env.scope.names.lookup x=some .local:=by first | exact .inl rfl | exact .inr rfl | assumption):wpAny M A (storeName X.env x u) Q E s:=by
 obtain ⟨m,hn,hl⟩:=id I.loc
 have hcls:(X.env.scope.kind == .class||(X.env.scope.kind == .module&&X.env.locals != X.env.globals))=false:=by rw [I.ok.kind];rfl
 have hiZ:i<Z.length:=by rw [I.len];exact (List.getElem?_eq_some_iff.mp hi).1
 have Gg:=I.Gg
 have tracked:∀ {a:Addr} {h':Heap},(∃ o,s.heap.get? a=some o/\H a=none)->Heap.SameBut a s.heap h'->gb X.prog X.w H h':=fun {a h'} ha hs b ob e=>by
  obtain ⟨_,_,hfree⟩:=ha
  refine (I.hok b ob e).stay (fun c w' hc q=>(hs.2 c ?_).trans q) (fun _ q=>q) fun _ _ q=>q
  rintro rfl
  rcases hc with rfl | hc
  ·rw [hfree] at e;cases e
  ·rw [hfree] at hc;cases hc
 rcases hx with hk | hk
 ·refine wpAny_storeName_local hk hn (fun h' hn' hs=>?_) hcls
  obtain ⟨oL,_,_,hoL,_⟩:=id hn
  refine h _ ⟨I.ok,I.os,I.bare,⟨fun b o e n hb hx=>?_,fun b o e n hb hx=>?_,I.base.free,fun b o e hx=>?_,I.base.tups,I.base.fV,I.base.gE⟩,⟨_,hn',fun j y v' e1 e2 e3=>?_⟩,fun y c e=>?_,I.free,I.b8,fun p hp=>?_,tracked ⟨oL,hoL,I.free⟩ hs,by simpa using I.len⟩ ⟨_,hs,.inl rfl⟩
  ·exact (hs.2 b (Nat.ne_of_lt (Nat.lt_of_lt_of_le (Heap.lt_size e) I.ok.above))).trans (I.base.keep b o e n hb hx)
  ·obtain ⟨sl,e1⟩:=I.base.slot b o e n hb hx
   exact ⟨sl,(hs.2 b (Nat.ne_of_lt (Nat.lt_of_lt_of_le (Heap.lt_size e) I.ok.above))).trans e1⟩
  ·obtain ⟨o',e1⟩:=I.base.there b o e hx
   exact ⟨o',(hs.2 b (Nat.ne_of_lt (Nat.lt_of_lt_of_le (Heap.lt_size e) I.ok.above))).trans e1⟩
  ·by_cases hj:j=i
   ·subst hj
    rw [hi] at e1;cases e1
    rw [List.getElem?_set_self hiZ] at e2
    cases e2
    exact ⟨u,r,.inl ⟨hk,by simp⟩⟩
   ·rw [List.getElem?_set_ne (Ne.symm hj)] at e2
    obtain ⟨u',r',q⟩:=hl j y v' e1 e2 e3
    refine ⟨u',r',?_⟩
    rcases q with ⟨k,e⟩ | ⟨k,c,e,z⟩
    ·refine .inl ⟨k,?_⟩
     have:y≠x:=fun e=>hj (oG hN e1 (e ▸ hi))
     simp [this,e]
    ·exact .inr ⟨k,c,e,z.sameBut hs (Gg y c e)⟩
  ·obtain ⟨w',z⟩:=I.cell y c e
   exact ⟨w',z.sameBut hs (Gg y c e)⟩
  ·obtain ⟨e,n,ne,nf,d⟩:=I.pin p hp
   exact ⟨(hs.2 p.1 ne).trans e,n,ne,nf,d⟩
 ·have hfn:X.fn x=true:=by
   rcases hf with z | z
   ·exact z
   ·rw [z] at hk;cases hk
  obtain ⟨c,hc⟩:=I.ok.has x (.inl hk)
  obtain ⟨w',z⟩:=I.cell x c hc
  refine wpAny_storeName_cell I.ok.kind hk hc z (fun h' hc' hs=>?_)
  obtain ⟨oc,hoc,hocd⟩:=id z
  refine h { s with heap:=h' } ⟨I.ok,I.os,I.bare,⟨fun b o e n hb hx=>?_,fun b o e n hb hx=>?_,I.base.free,fun b o e hx=>?_,I.base.tups,I.base.fV,I.base.gE⟩,⟨m,hn.sameBut hs (Ne.symm (Gg x c hc)),fun j y v' e1 e2 e3=>?_⟩,fun y c' e=>?_,I.free,I.b8,fun p hp=>?_,tracked ⟨oc,hoc,I.b8 x c hc⟩ hs,by simpa using I.len⟩ ⟨c,hs,.inr hc⟩
  ·exact (hs.2 b (Nat.ne_of_lt (Nat.lt_of_lt_of_le (Heap.lt_size e) (I.ok.CO x c hfn hc)))).trans (I.base.keep b o e n hb hx)
  ·obtain ⟨sl,e1⟩:=I.base.slot b o e n hb hx
   exact ⟨sl,(hs.2 b (Nat.ne_of_lt (Nat.lt_of_lt_of_le (Heap.lt_size e) (I.ok.CO x c hfn hc)))).trans e1⟩
  ·obtain ⟨o',e1⟩:=I.base.there b o e hx
   exact ⟨o',(hs.2 b (Nat.ne_of_lt (Nat.lt_of_lt_of_le (Heap.lt_size e) (I.ok.CO x c hfn hc)))).trans e1⟩
  ·by_cases hj:j=i
   ·subst hj
    rw [hi] at e1;cases e1
    rw [List.getElem?_set_self hiZ] at e2
    cases e2
    exact ⟨u,r,.inr ⟨.inl hk,c,hc,hc'⟩⟩
   ·rw [List.getElem?_set_ne (Ne.symm hj)] at e2
    obtain ⟨u',r',q⟩:=hl j y v' e1 e2 e3
    refine ⟨u',r',?_⟩
    rcases q with q | ⟨k,c',e,z'⟩
    ·exact .inl q
    ·refine .inr ⟨k,c',e,z'.sameBut hs ?_⟩
     rintro rfl
     exact hj (oG hN e1 (I.ok.inj _ _ _ e hc ▸ hi))
  ·by_cases hcc:c'=c
   ·subst hcc;exact ⟨_,hc'⟩
   ·obtain ⟨w2,z2⟩:=I.cell y c' e
    exact ⟨w2,z2.sameBut hs hcc⟩
  ·obtain ⟨e,n,ne,nf,d⟩:=I.pin p hp
   refine ⟨(hs.2 p.1 ?_).trans e,n,ne,nf,d⟩
   intro q
   rw [q,hoc] at e
   have q':oc=p.2:=Option.some.inj e
   exact d w' (by rw [<- q'];exact hocd)
theorem nM {M:Model} {A:Around} {E:Value->Shared->Prop} {i:Nat} {x:Str} {v:V} {u:Value} {Q:Unit->Shared->Prop} (I:Inv X pins Z H s) (hN:X.N.Nodup) (hi:X.N[i]? = some x) (hx:Loc X.env.scope x) (r:RelV v u)
  (h:∀ s',Inv X pins (Z.set i (some v)) H s'->Q () s') (hf:X.fn x=true\/X.env.scope.names.lookup x=some .local:=by first | exact .inl rfl | exact .inr rfl | assumption):wpAny M A (storeName X.env x u) Q E s :=
 kW I hN hi hx r (fun s' I' _=>h s' I') hf
theorem Inv.yJ {s':Shared} {ch:List Addr} (I:Inv X pins Z H s) (ho:s'.os=s.os) (u:Un (frs X.stack) ch H H' s.heap s'.heap) (hok:gb X.prog X.w H' s'.heap) (hg:AllBare s'.gens)
  (hch:∀ b∈ch,(b∈X.ex\/X.s₀.heap.objs.size<=b)/\b≠X.env.locals/\(∀ x c,X.env.cells.lookup x=some c->c≠b)/\∀ p∈X.pn++pins,p.1≠b):Inv X pins Z H' s':=by
 obtain ⟨h',g',d',t',o'⟩:=s'
 have e:o'=s.os:=ho
 subst e
 exact I.call (g':=g') (t':=t') (d':=d') u hok hg hch
end
noncomputable abbrev XK:=Value->Option Addr->Hp->Prop
noncomputable abbrev St:=List (Option V)
noncomputable abbrev VK:=V->Hp->Prop
noncomputable abbrev TE:=St->Hp->VK->Prop
noncomputable abbrev TT:=St->Hp->(Bool->Hp->Prop)->Prop
noncomputable abbrev TA:=St->Hp->(List V->Hp->Prop)->Prop
structure Ends where
 nx:St->Hp->Prop
 rt:VK
 bk:St->Hp->Prop:=fun _ _=>False
 ct:St->Hp->Prop:=fun _ _=>False
noncomputable abbrev TS:=Ends->St->Hp->Prop
noncomputable def EP (X:Cx) (pins:List (Addr×Obj)) (Z:St) (Q:VK) (u:Value) (s':Shared):Prop:=∃ v H',Inv X pins Z H' s'/\RelV v u/\Q v H'
noncomputable def TP (X:Cx) (pins:List (Addr×Obj)) (Z:St) (Q:Bool->Hp->Prop) (b:Bool) (s':Shared):Prop:=∃ H',Inv X pins Z H' s'/\Q b H'
noncomputable def AP (X:Cx) (pins:List (Addr×Obj)) (Z:St) (Q:List V->Hp->Prop) (us:List Value) (s':Shared):Prop:=∃ vs H',Inv X pins Z H' s'/\Vals vs us/\Q vs H'
noncomputable def SP (X:Cx) (pins:List (Addr×Obj)) (D:Ends) (f:Flow) (s':Shared):Prop :=
 match f with
 | .next=>∃ Z' H',Inv X pins Z' H' s'/\D.nx Z' H'
 | .brk=>∃ Z' H',Inv X pins Z' H' s'/\D.bk Z' H'
 | .cont=>∃ Z' H',Inv X pins Z' H' s'/\D.ct Z' H'
 | .ret u=>∃ v Z' H',Inv X pins Z' H' s'/\RelV v u/\D.rt v H'
noncomputable def PE (X:Cx) (e:Expr) (t:TE):Prop :=
 ∀ (pins:List (Addr×Obj)) (s:Shared) (Z:St) (H:Hp) (Q:VK),Inv X pins Z H s->t Z H Q->wpAny (model X.prog X.w) X.A (eval e X.env) (EP X pins Z Q) X.xe s
noncomputable def PT (X:Cx) (e:Expr) (t:TT):Prop :=
 ∀ (pins:List (Addr×Obj)) (s:Shared) (Z:St) (H:Hp) (Q:Bool->Hp->Prop),Inv X pins Z H s->t Z H Q->wpAny (model X.prog X.w) X.A (isTrue e X.env (eval e X.env)) (TP X pins Z Q) X.xe s
noncomputable def PW (X:Cx) (e:Expr) (t:TT):Prop :=
 ∀ (whole:Sem Value) (pins:List (Addr×Obj)) (s:Shared) (Z:St) (H:Hp) (Q:Bool->Hp->Prop),Inv X pins Z H s->t Z H Q->wpAny (model X.prog X.w) X.A (isTrue e X.env whole) (TP X pins Z Q) X.xe s
theorem PW.pt {X:Cx} {e:Expr} {t:TT} (h:PW X e t):PT X e t:=h _
noncomputable def PA (X:Cx) (es:List Expr) (t:TA):Prop :=
 ∀ (pos:Pos) (pins:List (Addr×Obj)) (s:Shared) (Z:St) (H:Hp) (Q:List V->Hp->Prop),Inv X pins Z H s->t Z H Q->wpAny (model X.prog X.w) X.A (spliced (backTo pos (starEach es X.env))) (AP X pins Z Q) X.xe s
noncomputable def PS (X:Cx) (st:Stmt) (t:TS):Prop :=
 ∀ (pins:List (Addr×Obj)) (s:Shared) (Z:St) (H:Hp) (D:Ends),Inv X pins Z H s->t D Z H->wpAny (model X.prog X.w) X.A (exec st X.env) (SP X pins D) X.xe s
noncomputable def jt (X:Cx) (st:List Stmt) (t:TS):Prop :=
 ∀ (pins:List (Addr×Obj)) (s:Shared) (Z:St) (H:Hp) (D:Ends),Inv X pins Z H s->t D Z H->wpAny (model X.prog X.w) X.A (execs st X.env) (SP X pins D) X.xe s
theorem aY {α:Type} {t:Sem α} {Q Q':α->Shared->Prop} {M:Model} {A:Around} {E:Value->Shared->Prop} {s:Shared} (h:wpAny M A t Q E s) (hQ:∀ a s,Q a s->Q' a s):wpAny M A t Q' E s:=wpAny_mono h hQ fun _ _ x=>x
section
variable {X:Cx}
noncomputable def G1 (i:Nat):TE:=fun Z H Q=>∃ v,Z[i]? = some (some v)/\Q v H
noncomputable def tC (v:V):TE:=fun _ H Q=>Q v H
theorem D0 {i:Nat} {x:Str} {pos:Pos} (hN:X.N[i]? = some x) (hv:KY X.env.scope x) (hd:(x == ("__debug__" : Str))=false:=by decide) (hcd:(x == ("__classdict__" : Str))=false:=by decide):PE X (.Name x pos) (G1 i):=by
 intro pins s Z H Q I h
 obtain ⟨v,e,h⟩:=h
 obtain ⟨m,hn,hl⟩:=I.loc
 obtain ⟨u,r,l⟩:=hl i x v hN e hv
 have fin:EP X pins Z Q u s:=⟨v,H,I,r,h⟩
 rcases l with ⟨hk,hm⟩ | ⟨hk,c,hc,hcell⟩
 ·exact wpAny_Name (wpAny_loadName_local I.ok.kind hk hn hm fin) hd
 ·rcases hk with hk | hk
  ·exact wpAny_Name (wpAny_loadName_cell I.ok.kind hk hc hcell fin) hd
  ·exact wpAny_Name (wpAny_loadName_free I.ok.kind hk hc hcell fin hcd) hd
theorem D9 {i j pos}:PE X (.Constant (.int i) j pos) (tC (.int i)):=fun _ _ _ H _ I h=>wpAny_Constant_int ⟨.int i,H,I.tok _,⟨_,rfl⟩,h⟩
theorem Ib {b j pos}:PE X (.Constant (.bool b) j pos) (tC (.bl b)):=fun _ _ _ H _ I h=>Constant_bool ⟨.bl b,H,I,rfl,h⟩
theorem D6 {j pos}:PE X (.Constant .none j pos) (tC .ak):=fun _ _ _ H _ I h=>Constant_none ⟨.ak,H,I,rfl,h⟩
theorem qu {x j pos}:PE X (.Constant (.str x) j pos) (tC (.str x)):=fun _ _ _ H _ I h=>Calls.Constant_str ⟨.str x,H,I.tok _,⟨_,rfl⟩,h⟩
noncomputable def Gl (X:Cx) (x:Str):Prop:=X.env.kindOf x=some .globalImplicit
theorem fP {E:Value->Shared->Prop} {pins:List (Addr×Obj)} {s:Shared} {Z:St} {H:Hp} {x:Str} {u:Value} {pos:Pos} {Q:Value->Shared->Prop} (I:Inv X pins Z H s) (hg:Gl X x) (hm:X.mg x=some u) (h:Q u s)
  (hd:(x == ("__debug__" : Str))=false:=by decide):wpAny (model X.prog X.w) X.A (eval (.Name x pos) X.env) Q E s :=
 Calls.Name_function_global I.ok.kind hg (Calls.loadGlobal_global (by rw [I.ok.glob];exact I.mod.glob.keeps I.bk) hm h) hd
theorem jU {E:Value->Shared->Prop} {pins:List (Addr×Obj)} {s:Shared} {Z:St} {H:Hp} {x:Str} {u:Value} {pos:Pos} {Q:Value->Shared->Prop} (I:Inv X pins Z H s) (hg:Gl X x) (hm:X.mg x=none) (hv:bootBuiltins x=some u) (h:Q u s)
  (hn:x≠"__name__":=by decide) (hd:(x == ("__debug__" : Str))=false:=by decide):wpAny (model X.prog X.w) X.A (eval (.Name x pos) X.env) Q E s:=by
 obtain ⟨mb,h1,h2⟩:=I.mod.blt
 exact Calls.Name_function_global I.ok.kind hg (Calls.loadGlobal_builtin (by rw [I.ok.glob];exact I.mod.glob.keeps I.bk) hm (by rw [I.ok.blt];exact h1.keeps I.bk) ((h2 x hn).trans hv) h) hd
theorem Ao {x:Str} {v:V} {u:Value} {pos:Pos} (hg:Gl X x) (hm:X.mg x=some u) (r:RelV v u) (hd:(x == ("__debug__" : Str))=false:=by decide):PE X (.Name x pos) (tC v) :=
 fun _ _ _ H _ I h=>fP I hg hm ⟨v,H,I,r,h⟩ hd
theorem As {x:Str} {v:V} {u:Value} {pos:Pos} (hg:Gl X x) (hm:X.mg x=none) (hv:bootBuiltins x=some u) (r:RelV v u) (hn:x≠"__name__":=by decide) (hd:(x == ("__debug__" : Str))=false:=by decide):PE X (.Name x pos) (tC v) :=
 fun _ _ _ H _ I h=>jU I hg hm hv ⟨v,H,I,r,h⟩ hn hd
variable {a b:Expr} {ta tb:TE} {pos:Pos}
noncomputable def tB (t:TE):TT:=fun Z H Q=>t Z H fun x H1=>∃ c,x=.bl c/\Q c H1
theorem DM {e:Expr} {t:TE} (h:PE X e t) (he:∀ whole,isTrue e X.env whole=(do let v <- whole;standAt e.pos;holding [v] (truthy v)):=by intro _;rfl):PT X e (tB t):=by
 intro pins s Z H Q I hw
 refine isTrue_plain (aY (h pins s Z H _ I hw) fun v s1 ⟨x,H1,I1,r1,q1⟩=>?_) (he _)
 obtain ⟨d,rfl,q⟩:=q1
 cases r1
 exact wpAny_truthy_bool ⟨H1,I1,q⟩
variable {tA J4:TT} {rest:List Expr}
noncomputable def Hi (t u:TT):TT:=fun Z H Q=>t Z H fun c H1=>if c=true then u Z H1 Q else Q false H1
noncomputable def tOr (t u:TT):TT:=fun Z H Q=>t Z H fun c H1=>if c=true then Q true H1 else u Z H1 Q
noncomputable def G7 (t:TT):TT:=fun Z H Q=>t Z H fun c H1=>Q (!c) H1
theorem pw_and1 (ha:PT X a tA):PW X (.BoolOp .And [a] pos) tA:=by
 intro wh pins s Z H Q I h
 refine isTrue_and (aY (ha pins s Z H Q I h) fun c s1 e=>?_)
 cases c with
 | true=>exact isTrue_and_nil e
 | false=>exact e
theorem pw_or1 (ha:PT X a tA):PW X (.BoolOp .Or [a] pos) tA:=by
 intro wh pins s Z H Q I h
 refine isTrue_or (aY (ha pins s Z H Q I h) fun c s1 e=>?_)
 cases c with
 | false=>exact isTrue_or_nil e
 | true=>exact e
theorem pw_and (ha:PT X a tA) (hb:PW X (.BoolOp .And (b::rest) pos) J4):PW X (.BoolOp .And (a::b::rest) pos) (Hi tA J4):=by
 intro wh pins s Z H Q I h
 refine isTrue_and (aY (ha pins s Z H _ I h) fun c s1 ⟨H1,I1,q1⟩=>?_)
 cases c with
 | true=>exact hb wh pins s1 Z H1 Q I1 q1
 | false=>exact ⟨H1,I1,q1⟩
theorem pw_or (ha:PT X a tA) (hb:PW X (.BoolOp .Or (b::rest) pos) J4):PW X (.BoolOp .Or (a::b::rest) pos) (tOr tA J4):=by
 intro wh pins s Z H Q I h
 refine isTrue_or (aY (ha pins s Z H _ I h) fun c s1 ⟨H1,I1,q1⟩=>?_)
 cases c with
 | true=>exact ⟨H1,I1,q1⟩
 | false=>exact hb wh pins s1 Z H1 Q I1 q1
theorem DN (ha:PT X a tA):PT X (.UnaryOp .Not a pos) (G7 tA):=by
 intro pins s Z H Q I h
 exact isTrue_not (ha pins s Z H (fun c H1=>Q (!c) H1) I h)
noncomputable def B4 (ta tb:TE):TE:=fun Z H Q=>ta Z H fun x H1=>∃ c,x=.bl c/\if c=true then tb Z H1 Q else Q (.bl false) H1
noncomputable def G6 (ta tb:TE):TE:=fun Z H Q=>ta Z H fun x H1=>∃ c,x=.bl c/\if c=true then Q (.bl true) H1 else tb Z H1 Q
noncomputable def BZ (ta:TE):TE:=fun Z H Q=>ta Z H fun x H1=>∃ c,x=.bl c/\Q (.bl (!c)) H1
theorem D4 {op} {t:TE} (h:PE X a t):PE X (.BoolOp op [a] pos) t:=fun pins s Z H Q I hw=>BoolOp_one (h pins s Z H Q I hw)
theorem Eb (ha:PE X a ta) (hb:PE X (.BoolOp .And (b::rest) pos) tb):PE X (.BoolOp .And (a::b::rest) pos) (B4 ta tb):=by
 intro pins s Z H Q I h
 refine BoolOp_and (aY (ha pins s Z H _ I h) fun v s1 ⟨x,H1,I1,r1,q1⟩=>?_)
 obtain ⟨c,rfl,q1⟩:=q1
 cases r1
 refine wpAny_truthy_bool ?_
 cases c with
 | true=>exact hb pins s1 Z H1 Q I1 q1
 | false=>exact ⟨.bl false,H1,I1,rfl,q1⟩
theorem HY (ha:PE X a ta) (hb:PE X (.BoolOp .Or (b::rest) pos) tb):PE X (.BoolOp .Or (a::b::rest) pos) (G6 ta tb):=by
 intro pins s Z H Q I h
 refine BoolOp_or (aY (ha pins s Z H _ I h) fun v s1 ⟨x,H1,I1,r1,q1⟩=>?_)
 obtain ⟨c,rfl,q1⟩:=q1
 cases r1
 refine wpAny_truthy_bool ?_
 cases c with
 | false=>exact hb pins s1 Z H1 Q I1 q1
 | true=>exact ⟨.bl true,H1,I1,rfl,q1⟩
theorem D5 (ha:PE X a ta):PE X (.UnaryOp .Not a pos) (BZ ta):=by
 intro pins s Z H Q I h
 refine UnaryOp_ (aY (ha pins s Z H _ I h) fun v s1 ⟨x,H1,I1,r1,q1⟩=>?_)
 obtain ⟨c,rfl,q1⟩:=q1
 cases r1
 exact not_of (wpAny_truthy_bool ⟨.bl (!c),H1,I1,rfl,q1⟩)
noncomputable def tIf (t:TT) (ta tb:TE):TE:=fun Z H Q=>t Z H fun c H1=>if c=true then ta Z H1 Q else tb Z H1 Q
theorem wU {c:Expr} (hc:PT X c tA) (ha:PE X a ta) (hb:PE X b tb):PE X (.IfExp c a b pos) (tIf tA ta tb):=by
 intro pins s Z H Q I h
 refine wpAny_IfExp (aY (hc pins s Z H _ I h) fun d s1 ⟨H1,I1,q1⟩=>?_)
 cases d with
 | true=>exact ha pins s1 Z H1 Q I1 q1
 | false=>exact hb pins s1 Z H1 Q I1 q1
end
noncomputable def fc (K:PySem.W.Frag) (H:Hp) (a:Addr) (xs:List V):Prop :=
 Rd H a (.lst xs) \/
  ∃ (o:Obj) (its:Array Value) (n:Nat), K.lookup a=some o/\o.cls=.type "list"/\o.dict=none/\o.data=.seq its n/\its.size<=sizeLine/\Vals xs its.toList
noncomputable def iO (K:PySem.W.Frag) (H:Hp) (a:Addr) (xs:List V):Prop :=
 Rd H a (.tup xs) \/
  ∃ (o:Obj) (its:Array Value) (n:Nat), K.lookup a=some o/\o.cls=.type "tuple"/\o.data=.seq its n/\its.size<=sizeLine/\Vals xs its.toList
noncomputable def absV:Value->Option V
 | .none=>some .ak
 | .bool b=>some (.bl b)
 | .int i _=>some (.int i)
 | .str x _=>some (.str x)
 | .bytes b _=>some (.vD b)
 | .float b _=>some (.KA b)
 | .ref a=>some (.ref a)
 | .type n=>some (.ty n)
 | _=>none
theorem RelV.abs {x:V} {u:Value} (r:RelV x u):absV u=some x:=by
 cases x with
 | ak=>cases r;rfl
 | bl _=>cases r;rfl
 | int _=>obtain ⟨t,rfl⟩:=r;rfl
 | str _=>obtain ⟨t,rfl⟩:=r;rfl
 | vD _=>obtain ⟨t,rfl⟩:=r;rfl
 | KA _=>obtain ⟨t,rfl⟩:=r;rfl
 | ref _=>cases r;rfl
 | ty _=>cases r;rfl
theorem RelV.inj {x y:V} {u:Value} (r:RelV x u) (q:RelV y u):x=y:=Option.some.inj (r.abs.symm.trans q.abs)
theorem Vals.inj:∀ {xs ys:List V} {us:List Value},Vals xs us->Vals ys us->xs=ys
 | _,_,_,.nil,.nil=>rfl
 | _,_,_,.cons r t,.cons r' t'=>by rw [r.inj r',Vals.inj t t']
section
variable {X:Cx} {pins:List (Addr×Obj)} {Z:St} {H:Hp} {s:Shared} {a:Addr} {xs ys:List V}
theorem Inv.list (I:Inv X pins Z H s) (h:fc X.K H a xs):∃ its:List Value,Vals xs its/\PlainL s.heap a its.toArray/\xs.length<=sizeLine:=by
 rcases h with h | ⟨o,its,n,hk,hc,hd,hs,hz,r⟩
 ·obtain ⟨z,its,n,r,e⟩:=h.ok I.hok
  exact ⟨its,r,⟨_,n,e,rfl,rfl,rfl⟩,z⟩
 ·refine ⟨its.toList,r,⟨o,n,I.gO a o hk,hc,hd,by simpa using hs⟩,?_⟩
  have e:=r.length
  simp only [Array.length_toList] at e
  omega
theorem Inv.tuple (I:Inv X pins Z H s) (h:iO X.K H a xs):∃ its:List Value,Vals xs its/\IsTup s.heap a its.toArray/\xs.length<=sizeLine:=by
 rcases h with h | ⟨o,its,n,hk,hc,hs,hz,r⟩
 ·obtain ⟨z,its,r,p⟩:=h.ok I.hok
  exact ⟨its,r,p,z⟩
 ·refine ⟨its.toList,r,⟨o,I.gO a o hk,hc,n,by simpa using hs⟩,?_⟩
  have e:=r.length
  simp only [Array.length_toList] at e
  omega
theorem Inv.jS (I:Inv X pins Z H s) (h:fc X.K H a xs) (h':fc X.K H a ys):xs=ys:=by
 obtain ⟨its,r,⟨o,n,e,_,_,d⟩,_⟩:=I.list h
 obtain ⟨its',r',⟨o',n',e',_,_,d'⟩,_⟩:=I.list h'
 rw [e] at e';cases e'
 rw [d] at d'
 injection d' with d1 _
 have:its=its':=by simpa using congrArg Array.toList d1
 subst this
 exact r.inj r'
theorem Inv.kR (I:Inv X pins Z H s) (h:iO X.K H a xs) (h':iO X.K H a ys):xs=ys:=by
 obtain ⟨its,r,⟨o,e,_,n,d⟩,_⟩:=I.tuple h
 obtain ⟨its',r',⟨o',e',_,n',d'⟩,_⟩:=I.tuple h'
 rw [e] at e';cases e'
 rw [d] at d'
 injection d' with d1 _
 have:its=its':=by simpa using congrArg Array.toList d1
 subst this
 exact r.inj r'
end
noncomputable abbrev Cx.bH (X:Cx) (E:Value->Shared->Prop):Cx:={ X with xe:=E }
noncomputable abbrev Cx.Ck (X:Cx):Cx:=X.bH fun _ _=>False
theorem Cx.Ok.bH {X:Cx} (ok:X.Ok) (E:Value->Shared->Prop):(X.bH E).Ok :=
 ⟨ok.mod,ok.kind,ok.glob,ok.blt,ok.above,ok.inj,ok.has,ok.CO,ok.hd,ok.frames,ok.stk,ok.Jj,ok.bs,ok.vE,ok.oF,ok.qT,ok.gr,ok.zb⟩
theorem Cx.Ok.aX {X:Cx} {E:Value->Shared->Prop} (ok:(X.bH E).Ok):X.Ok :=
 ⟨ok.mod,ok.kind,ok.glob,ok.blt,ok.above,ok.inj,ok.has,ok.CO,ok.hd,ok.frames,ok.stk,ok.Jj,ok.bs,ok.vE,ok.oF,ok.qT,ok.gr,ok.zb⟩
section
variable {X:Cx} {pins:List (Addr×Obj)} {Z:St} {H:Hp} {s:Shared} {E:Value->Shared->Prop}
theorem Inv.bH (I:Inv X pins Z H s) (E:Value->Shared->Prop):Inv (X.bH E) pins Z H s:=⟨I.ok.bH E,I.os,I.bare,I.base,I.loc,I.cell,I.free,I.b8,I.pin,I.hok,I.len⟩
theorem Inv.aX (I:Inv (X.bH E) pins Z H s):Inv X pins Z H s:=⟨I.ok.aX,I.os,I.bare,I.base,I.loc,I.cell,I.free,I.b8,I.pin,I.hok,I.len⟩
theorem SP.aX {D:Ends} {f:Flow} {s':Shared} (h:SP (X.bH E) pins D f s'):SP X pins D f s':=by
 cases f with
 | next=>obtain ⟨Z',H',I,q⟩:=h;exact ⟨Z',H',I.aX,q⟩
 | brk=>obtain ⟨Z',H',I,q⟩:=h;exact ⟨Z',H',I.aX,q⟩
 | cont=>obtain ⟨Z',H',I,q⟩:=h;exact ⟨Z',H',I.aX,q⟩
 | ret u=>obtain ⟨v,Z',H',I,r,q⟩:=h;exact ⟨v,Z',H',I.aX,r,q⟩
theorem PE.Ck {e:Expr} {t:TE} (h:PE X.Ck e t):PE X e t:=fun pins s Z H Q I hw =>
 wpAny_mono (h pins s Z H Q (I.bH _) hw) (fun _ _ ⟨v,H',I',r,q⟩=>⟨v,H',I'.aX,r,q⟩) fun _ _ z=>False.elim z
theorem PT.Ck {e:Expr} {t:TT} (h:PT X.Ck e t):PT X e t:=fun pins s Z H Q I hw =>
 wpAny_mono (h pins s Z H Q (I.bH _) hw) (fun _ _ ⟨H',I',q⟩=>⟨H',I'.aX,q⟩) fun _ _ z=>False.elim z
theorem jt.Ck {st:List Stmt} {t:TS} (h:jt X.Ck st t):jt X st t:=fun pins s Z H D I hw =>
 wpAny_mono (h pins s Z H D (I.bH _) hw) (fun _ _ q=>q.aX) fun _ _ z=>False.elim z
end
section
variable {X:Cx} {st:Stmt} {rest:List Stmt} {t u:TS} {e:Expr} {te:TE} {pos:Pos}
noncomputable def B0:TS:=fun D Z H=>D.nx Z H
noncomputable def G4 (t u:TS):TS:=fun D Z H=>t { D with nx:=u D } Z H
theorem sy:jt X [] B0:=fun _ _ Z H _ I h=>wpAny_execs_nil ⟨Z,H,I,h⟩
theorem oz (h1:PS X st t) (h2:jt X rest u):jt X (st::rest) (G4 t u):=by
 intro pins s Z H D I h
 refine wpAny_execs_cons (aY (h1 pins s Z H { D with nx:=u D } I h) fun f s1 q=>?_)
 cases f with
 | next =>
  obtain ⟨Z',H',I',q⟩:=q
  exact h2 pins s1 Z' H' D I' q
 | ret v=>exact q
 | brk=>exact q
 | cont=>exact q
theorem Inv.quiet {pins:List (Addr×Obj)} {Z:St} {H:Hp} {s:Shared} (I:Inv X pins Z H s):interactive X.env=false:=by simp [interactive,I.ok.kind]
noncomputable def B3 (te:TE):TS:=fun D Z H=>te Z H fun _ H1=>D.nx Z H1
theorem Ag (he:PE X e te) (hs:swapsWith e none pos.line X.env=pure false:=by rfl):PS X (.Expr e pos) (B3 te):=by
 intro pins s Z H D I h
 exact wpAny_Expr_any (aY (he pins s Z H _ I h) fun v s1 ⟨x,H1,I1,r1,q1⟩=>⟨Z,H1,I1,q1⟩) I.quiet hs
noncomputable def G5 (te:TE):TS:=fun D Z H=>te Z H D.rt
theorem DP (he:PE X e te):PS X (.Return (some e) pos) (G5 te):=by
 intro pins s Z H D I h
 exact wpAny_Return_some (aY (he pins s Z H _ I h) fun v s1 ⟨x,H1,I1,r1,q1⟩=>⟨x,Z,H1,I1,r1,q1⟩)
noncomputable def G9 (c:TT) (t u:TS):TS:=fun D Z H=>c Z H fun b H1=>if b=true then t D Z H1 else u D Z H1
theorem HR {c:Expr} {a b:List Stmt} {tc:TT} (hc:PT X c tc) (ha:jt X a t) (hb:jt X b u):PS X (.If c a b pos) (G9 tc t u):=by
 intro pins s Z H D I h
 refine wpAny_If (aY (hc pins s Z H _ I h) fun d s1 ⟨H1,I1,q1⟩=>?_)
 cases d with
 | true=>exact ha pins s1 Z H1 D I1 q1
 | false=>exact hb pins s1 Z H1 D I1 q1
end
noncomputable abbrev TG:=V->St->Hp->(St->Hp->Prop)->Prop
noncomputable abbrev CW:=List V->St->Hp->(St->Hp->Prop)->Prop
noncomputable def PG (X:Cx) (target:Expr) (t:TG):Prop :=
 ∀ (pins:List (Addr×Obj)) (s:Shared) (Z:St) (H:Hp) (v:V) (u:Value) (Q:St->Hp->Prop),Inv X pins Z H s->RelV v u->t v Z H Q ->
  wpAny (model X.prog X.w) X.A (assign target X.env u) (fun _ s'=>∃ Z' H',Inv X pins Z' H' s'/\Q Z' H') X.xe s
noncomputable def JQ (X:Cx) (ts:List Expr) (t:CW):Prop :=
 ∀ (pins:List (Addr×Obj)) (s:Shared) (Z:St) (H:Hp) (vs:List V) (us:List Value) (Q:St->Hp->Prop),Inv X pins Z H s->Vals vs us->t vs Z H Q ->
  wpAny (model X.prog X.w) X.A (assignInOrder ((assignEach ts X.env).map (·.2)) us) (fun _ s'=>∃ Z' H',Inv X pins Z' H' s'/\Q Z' H') X.xe s
noncomputable abbrev TSet:=V->V->V->Hp->(Hp->Prop)->Prop
noncomputable def PSet (X:Cx) (t:TSet):Prop :=
 ∀ (pins:List (Addr×Obj)) (s:Shared) (Z:St) (H:Hp) (o i v:V) (ov iv u:Value) (Q:Hp->Prop),Inv X pins Z H s->RelV o ov->RelV i iv->RelV v u->t o i v H Q ->
  wpAny (model X.prog X.w) X.A (setItem ov iv u) (fun _ s'=>∃ H',Inv X pins Z H' s'/\Q H') X.xe s
section
variable {X:Cx} {pos:Pos}
noncomputable def j0 (i:Nat):TG:=fun v Z H Q=>Q (Z.set i (some v)) H
theorem Am {i:Nat} {x:Str} (hN:X.N.Nodup) (hi:X.N[i]? = some x) (hx:Loc X.env.scope x) (hf:X.fn x=true\/X.env.scope.names.lookup x=some .local:=by first | exact .inl rfl | exact .inr rfl | assumption):PG X (.Name x pos) (j0 i):=by
 intro pins s Z H v u Q I r h
 exact wpAny_assign_Name (nM I hN hi hx r (fun s' I'=>⟨_,H,I',h⟩) hf)
noncomputable def Ja:CW:=fun vs Z H Q=>vs=[]/\Q Z H
noncomputable def CA (t:TG) (u:CW):CW:=fun vs Z H Q=>∃ v r,vs=v::r/\t v Z H fun Z' H'=>u r Z' H' Q
theorem sI:JQ X [] Ja:=by
 intro pins s Z H vs us Q I r h
 obtain ⟨e,h⟩:=h
 subst e
 cases r
 exact assignInOrder_nil ⟨Z,H,I,h⟩
theorem jJ {e:Expr} {es:List Expr} {t:TG} {u:CW} (h1:PG X e t) (h2:JQ X es u)
  (hs:(assignEach (e::es) X.env).map (·.2)=assign e X.env::(assignEach es X.env).map (·.2):=by rfl):JQ X (e::es) (CA t u):=by
 intro pins s Z H vs us Q I r h
 obtain ⟨v,vr,e1,h⟩:=h
 subst e1
 cases r with
 | cons r rr =>
  rw [hs]
  refine assignInOrder_cons (aY (h1 pins s Z H _ _ _ I r h) fun _ s1 ⟨Z1,H1,I1,q1⟩=>?_)
  exact h2 pins s1 Z1 H1 _ _ Q I1 rr q1
noncomputable def gTup (K:PySem.W.Frag) (n:Nat) (t:CW):TG:=fun v Z H Q=>∃ a xs,v=.ref a/\iO K H a xs/\xs.length=n/\t xs Z H Q
theorem wM {es:List Expr} {k:Nat} {t:CW} {n:Nat} (hc:X.calm=true) (h:JQ X es t)
  (hn:(assignEach es X.env).length=n:=by rfl) (hst:(assignEach es X.env).findIdx? (·.1)=none:=by rfl):PG X (.Tuple es k pos) (gTup X.K n t):=by
 intro pins s Z H v u Q I r hw
 obtain ⟨a,xs,e1,hq,hl,hw⟩:=hw
 subst e1
 cases r
 obtain ⟨its,rv,ht,hz⟩:=I.tuple hq
 refine assign_Tuple_tuple (I.ok.hd hc) ht (by simp [hn,<- hl,rv.length]) hst fun h' hx=>?_
 have I1:Inv X pins Z H { s with heap:=h' }:=I.kept (t':=s.toks) fun b o e=>hx b o (Nat.ne_of_lt (Heap.lt_size e)) e
 exact h pins _ Z H xs _ Q I1 (by simpa using rv) hw
noncomputable def vN (te:TE) (g:TG):TS:=fun D Z H=>te Z H fun x H1=>g x Z H1 D.nx
theorem DS {tg e:Expr} {te:TE} {g:TG} (he:PE X e te) (hg:PG X tg g) (hs:swapsWithSole [tg] e pos.line X.env=pure false:=by rfl) (hw:swappedStores [tg] e X.env=pure none:=by rfl)
  (h1:(assignEach [tg] X.env).map (·.2)=[assign tg X.env]:=by rfl):PS X (.Assign [tg] e pos) (vN te g):=by
 intro pins s Z H D I h
 refine wpAny_Assign_stores (aY (he pins s Z H _ I h) fun v s1 ⟨x,H1,I1,r1,q1⟩=>?_) hs hw
 rw [h1]
 exact aY (hg pins s1 Z H1 x v _ I1 r1 q1) fun _ s2 q=>q
theorem wK {i:Nat} {x:Str} {e:Expr} {te:TE} {pos':Pos} (hN:X.N.Nodup) (hi:X.N[i]? = some x) (hx:Loc X.env.scope x) (he:PE X e te) (hs:swapsWith e (some (.Name x pos')) pos.line X.env=pure false:=by rfl) (hf:X.fn x=true\/X.env.scope.names.lookup x=some .local:=by first | exact .inl rfl | exact .inr rfl | assumption) :
  PS X (.Assign [.Name x pos'] e pos) (vN te (j0 i)):=by
 intro pins s Z H D I h
 refine wpAny_Assign_Name (aY (he pins s Z H _ I h) fun v s1 ⟨y,H1,I1,r1,q1⟩=>?_) hs
 exact nM I1 hN hi hx r1 (fun s2 I2=>⟨_,H1,I2,q1⟩) hf
end
section
variable {X:Cx} {pos:Pos}
noncomputable def vM (c:TT) (tb:TS):TS:=fun D Z H=>∃ W:Nat->St->Hp->Prop,(∃ m,W m Z H)/\∀ m Z H,W m Z H ->
 c Z H fun b H1=>if b=true then ∃ N:St->Hp->Prop,(∀ Z' H',N Z' H'->∃ m',m'<m/\W m' Z' H')/\tb { D with nx:=N,ct:=N,bk:=D.nx } Z H1 else D.nx Z H1
theorem wJ {c:Expr} {body:List Stmt} {tc:TT} {tb:TS} (hp:PassesOwn (model X.prog X.w) X.A X.env X.xe) (hc:PT X c tc) (hb:jt X body tb):PS X (.While c body [] pos) (vM tc tb):=by
 intro pins s Z H D I h
 obtain ⟨W,⟨m0,w0⟩,turn⟩:=h
 refine wpAny_While (codeAny_whileLoop (fun n s'=>∃ Z' H',Inv X pins Z' H' s'/\W n Z' H') ?_ m0 ⟨Z,H,I,w0⟩)
 rintro n s1 ⟨Z1,H1,I1,w1⟩
 refine wpAny_passesOwn hp (aY (hc pins s1 Z1 H1 _ I1 (turn n Z1 H1 w1)) fun b s2 ⟨H2,I2,q2⟩=>?_)
 cases b with
 | true =>
  obtain ⟨N,hN,q2⟩:=q2
  rw [if_pos rfl]
  refine wpAny_passesOwn hp (aY (hb pins s2 Z1 H2 _ I2 q2) fun f s3 q3=>?_)
  cases f with
  | next =>
   obtain ⟨Z3,H3,I3,n3⟩:=q3
   obtain ⟨m',hm,w3⟩:=hN Z3 H3 n3
   exact ⟨m',hm,Z3,H3,I3,w3⟩
  | cont =>
   obtain ⟨Z3,H3,I3,n3⟩:=q3
   obtain ⟨m',hm,w3⟩:=hN Z3 H3 n3
   exact ⟨m',hm,Z3,H3,I3,w3⟩
  | brk=>exact q3
  | ret v=>exact q3
 | false =>
  rw [if_neg Bool.false_ne_true]
  exact wpAny_execs_nil ⟨Z1,H2,I2,q2⟩
end
structure It where
 go:Nat->Hp->Prop
 JY:Nat->Hp->V->Hp->Prop
 stop:Nat->Hp->Prop
noncomputable def kG (X:Cx) (pins:List (Addr×Obj)) (H:Hp) (b:Addr):Prop :=
 H b=none/\b≠X.env.locals/\b∉X.fs/\(b∈X.ex\/X.s₀.heap.objs.size<=b)/\(∀ x c,X.env.cells.lookup x=some c->c≠b)/\∀ p∈X.pn++pins,p.1≠b
theorem Inv.vd {X:Cx} {pins:List (Addr×Obj)} {Z:St} {H H':Hp} {s:Shared} {b:Addr} (I:Inv X pins Z H s) (hb:s.heap.objs.size<=b) (hn:H' b=none):kG X pins H' b:=by
 refine ⟨hn,Nat.ne_of_gt (Nat.lt_of_lt_of_le I.lt hb),I.Iq hb,.inr (Nat.le_trans I.sz hb),fun x c e z=>?_,fun p hp z=>?_⟩
 ·obtain ⟨v,q⟩:=I.cell x c e
  exact absurd (Nat.lt_of_lt_of_le q.lt (by rw [z];exact hb)) (Nat.lt_irrefl _)
 ·exact absurd (Nat.lt_of_lt_of_le (Heap.lt_size (I.pin p hp).1) (by rw [z];exact hb)) (Nat.lt_irrefl _)
structure Turn (P:Program) (w:World) (K:PySem.W.Frag) (tg:Expr) (J:It) (fp:List Addr) (it:Addr) (tn:Nat->Heap->Prop):Prop where
 mem:it∈fp
 obj:∀ i h,tn i h->∀ b∈fp,∃ o,h.get? b=some o/\∀ v,o.data≠.cell v
 keep:∀ i h h',tn i h->(∀ b∈fp,∀ o,h.get? b=some o->h'.get? b=some o)->tn i h'
 item:∀ (X:Cx),X.prog=P->X.w=w->X.K=K->X.calm=true->∀ (i:Nat) (pins:List (Addr×Obj)) (s:Shared) (Z:St) (H:Hp) (E:Value->Shared->Prop),Inv X pins Z H s->(∀ b∈fp,kG X pins H b)->tn i s.heap->J.go i H ->
  wpAny (model P w) X.A (pyNext (.ref it)) (fun r s1=>∃ u,r=some u /\
   wpAny (model P w) X.A (letOwnedTupleGo tg (.ref it) u) (fun _ s2=>∃ x H',Inv X pins Z H' s2/\RelV x u/\J.JY i H x H'/\tn (i+1) s2.heap/\∀ b∈fp,H' b=none) E s1) E s
 done:∀ (X:Cx),X.prog=P->X.w=w->X.K=K->X.calm=true->∀ (i:Nat) (pins:List (Addr×Obj)) (s:Shared) (Z:St) (H:Hp) (E:Value->Shared->Prop),Inv X pins Z H s->(∀ b∈fp,kG X pins H b)->tn i s.heap->J.stop i H ->
  wpAny (model P w) X.A (pyNext (.ref it)) (fun r s1=>r=none/\Inv X pins Z H s1) E s
 self:∀ (A:Around) (i:Nat) (s:Shared) (Q:Value->Shared->Prop) (E:Value->Shared->Prop),tn i s.heap->Q (.ref it) s->wpAny (model P w) A (pyIter (.ref it)) Q E s
noncomputable abbrev TI:=St->Hp->(It->Hp->Prop)->Prop
noncomputable def PIE (X:Cx) (pins:List (Addr×Obj)) (Z:St) (tg:Expr) (R:It->Hp->Prop) (itv:Value) (s2:Shared):Prop :=
 ∃ (it:Addr) (fp:List Addr) (tn:Nat->Heap->Prop) (J:It) (H':Hp),itv=.ref it/\Inv X pins Z H' s2/\Turn X.prog X.w X.K tg J fp it tn/\tn 0 s2.heap/\(∀ b∈fp,kG X pins H' b)/\R J H'
noncomputable def PI (X:Cx) (tg iter:Expr) (wi:TI):Prop :=
 ∀ (pins:List (Addr×Obj)) (s:Shared) (Z:St) (H:Hp) (R:It->Hp->Prop),Inv X pins Z H s->wi Z H R ->
  wpAny (model X.prog X.w) X.A (eval iter X.env) (fun v s1=>wpAny (model X.prog X.w) X.A (pyIter v) (PIE X pins Z tg R) X.xe s1) X.xe s
theorem oV {M:Model} {A:Around} {E:Value->Shared->Prop} {s:Shared} {tg:Expr} {it:Addr} {u:Value} {o:Obj} {n:String} {vs:Array Value} {Q:Unit->Shared->Prop} (ho:s.heap.get? it=some o) (hc:o.cls=.type n) (hd:o.data=.fields vs)
    (hn:["enumerate", "zip", "dict_itemiterator", "dict_reverseitemiterator", "odict_iterator", "itertools.zip_longest", "itertools.pairwise"].contains n=false) (hQ:Q () s):wpAny M A (letOwnedTupleGo tg (.ref it) u) Q E s:=by
  unfold letOwnedTupleGo
  cases tg <;> first
    | exact wpAny_pure hQ
    | (cases u <;> first
        | exact wpAny_pure hQ
        | (refine wpAny_bind (wpAny_load ho ?_)
           rw [hc,hd]
           show wpAny M A (if (["enumerate", "zip", "dict_itemiterator", "dict_reverseitemiterator", "odict_iterator", "itertools.zip_longest", "itertools.pairwise"].contains n&&vs[0]? == some (rawInt _))=true then _ else _) Q E s
           rw [if_neg (by intro h;rw [hn,Bool.false_and] at h;cases h)]
           exact wpAny_pure hQ))
noncomputable def Itl (K:PySem.W.Frag) (a:Addr):It :=
 ⟨fun i H=>∃ xs x,fc K H a xs/\xs[i]? = some x,fun i H x H'=>H'=H/\∀ xs,fc K H a xs->xs[i]? = some x,fun i H=>∃ xs,fc K H a xs/\xs.length<=i⟩
noncomputable def Itt (K:PySem.W.Frag) (a:Addr):It :=
 ⟨fun i H=>∃ xs x,iO K H a xs/\xs[i]? = some x,fun i H x H'=>H'=H/\∀ xs,iO K H a xs->xs[i]? = some x,fun i H=>∃ xs,iO K H a xs/\xs.length<=i⟩
noncomputable def K1 (lo:Int) (n:Nat):It:=⟨fun i _=>i<n,fun i H x H'=>H'=H/\x=.int (lo+i),fun i _=>n<=i⟩
theorem uy {P:Program} {w:World} {K:PySem.W.Frag} {tg:Expr} (a it:Addr):Turn P w K tg (Itl K a) [it] it (fun i h=>h.IsListIter it a i) where
 mem:=by simp
 obj:=fun i h st b hb=>by
  have e:b=it:=by simpa using hb
  subst e
  obtain ⟨o,e,c,d⟩:=st
  exact ⟨o,e,fun v z=>by rw [d] at z;cases z⟩
 keep:=fun i h h' st k=>st.at fun o e=>k it (by simp) o e
 item:=by
  intro X hP hw hK hc i pins s Z H E I hf st hg
  subst hP hw hK
  obtain ⟨xs,x,hq,hx⟩:=hg
  obtain ⟨its,rv,p,hz⟩:=I.list hq
  obtain ⟨u,hu,ru⟩:=rv.get hx
  obtain ⟨f0,f1,f2,f3,f4,f5⟩:=hf it (by simp)
  refine wpAny_pyNext_list_item st p.isList (x:=u) (by simpa using hu) fun h' st' sb=>?_
  have I1:Inv X pins Z H { s with heap:=h' }:=I.turned (t':=s.toks) (fun b o hb e=>(sb.2 b hb).trans e) f0 f1 f3 f4 f5
  obtain ⟨o,e,c,d⟩:=id st'
  exact ⟨u,rfl,oV (s:={ s with heap:=h' }) e c d (by decide) ⟨x,H,I1,ru,⟨rfl,fun ys hy=>by rw [I.jS hy hq];exact hx⟩,st',fun b hb=>(hf b hb).1⟩⟩
 done:=by
  intro X hP hw hK hc i pins s Z H E I hf st hg
  subst hP hw hK
  obtain ⟨xs,hq,hx⟩:=hg
  obtain ⟨its,rv,p,hz⟩:=I.list hq
  obtain ⟨f0,f1,f2,f3,f4,f5⟩:=hf it (by simp)
  have hl:=rv.length
  exact wpAny_pyNext_list_end (I.ok.hd hc) st p.isList (by simp;omega) fun h' eb=>⟨rfl,I.turned (t':=s.toks) (fun b o hb e=>eb b o hb e) f0 f1 f3 f4 f5⟩
 self:=fun _ _ _ _ _ st h=>wpAny_pyIter_listiter st h
theorem p9 {P:Program} {w:World} {K:PySem.W.Frag} {tg:Expr} (a it:Addr):Turn P w K tg (Itt K a) [it] it (fun i h=>h.IsTupleIter it a i) where
 mem:=by simp
 obj:=fun i h st b hb=>by
  have e:b=it:=by simpa using hb
  subst e
  obtain ⟨o,e,c,d⟩:=st
  exact ⟨o,e,fun v z=>by rw [d] at z;cases z⟩
 keep:=fun i h h' st k=>st.at fun o e=>k it (by simp) o e
 item:=by
  intro X hP hw hK hc i pins s Z H E I hf st hg
  subst hP hw hK
  obtain ⟨xs,x,hq,hx⟩:=hg
  obtain ⟨its,rv,p,hz⟩:=I.tuple hq
  obtain ⟨u,hu,ru⟩:=rv.get hx
  obtain ⟨f0,f1,f2,f3,f4,f5⟩:=hf it (by simp)
  refine wpAny_pyNext_tuple_item st (show s.heap.IsTuple a its.toArray from p) (x:=u) (by simpa using hu) fun h' st' sb=>?_
  have I1:Inv X pins Z H { s with heap:=h' }:=I.turned (t':=s.toks) (fun b o hb e=>(sb.2 b hb).trans e) f0 f1 f3 f4 f5
  obtain ⟨o,e,c,d⟩:=id st'
  exact ⟨u,rfl,oV (s:={ s with heap:=h' }) e c d (by decide) ⟨x,H,I1,ru,⟨rfl,fun ys hy=>by rw [I.kR hy hq];exact hx⟩,st',fun b hb=>(hf b hb).1⟩⟩
 done:=by
  intro X hP hw hK hc i pins s Z H E I hf st hg
  subst hP hw hK
  obtain ⟨xs,hq,hx⟩:=hg
  obtain ⟨its,rv,p,hz⟩:=I.tuple hq
  obtain ⟨f0,f1,f2,f3,f4,f5⟩:=hf it (by simp)
  have hl:=rv.length
  exact wpAny_pyNext_tuple_end (I.ok.hd hc) st (show s.heap.IsTuple a its.toArray from p) (by simp;omega) fun h' eb=>⟨rfl,I.turned (t':=s.toks) (fun b o hb e=>eb b o hb e) f0 f1 f3 f4 f5⟩
 self:=fun _ _ _ _ _ st h=>wpAny_pyIter_tupleiter st h
theorem qa {P:Program} {w:World} {K:PySem.W.Frag} {tg:Expr} (it:Addr) (lo:Int) (n:Nat):Turn P w K tg (K1 lo n) [it] it (fun i h=>IsRangeIter h it (lo+(i:Nat)*1) ((n:Int)-(i:Nat)) 1) where
 mem:=by simp
 obj:=fun i h st b hb=>by
  have e:b=it:=by simpa using hb
  subst e
  exact ⟨_,st,fun v z=>by
   have z':Data.fields _=Data.cell v:=z
   cases z'⟩
 keep:=fun i h h' st k=>k it (by simp) _ st
 item:=by
  intro X hP hw hK hc i pins s Z H E I hf st hg
  subst hP hw hK
  obtain ⟨f0,f1,f2,f3,f4,f5⟩:=hf it (by simp)
  have W:=Walks.range (prog:=X.prog) (w:=X.w) (I.ok.hd hc) it lo 1 n
  refine W.item i s _ _ hg st fun v h' tk hv st' kk=>?_
  obtain ⟨t,rfl⟩:=hv
  have I1:Inv X pins Z H { s with heap:=h',toks:=tk }:=I.turned (fun b o hb e=>kk b o (by simpa using hb) e) f0 f1 f3 f4 f5
  refine ⟨_, rfl, oV (s:={ s with heap:=h', toks:=tk }) (n:="range_iterator") st' rfl rfl (by decide) ⟨.int (lo+i), H, I1, ⟨t, ?_⟩, ⟨rfl, rfl⟩, st', fun b hb=>(hf b hb).1⟩⟩
  rw [Int.mul_one]
 done:=by
  intro X hP hw hK hc i pins s Z H E I hf st hg
  subst hP hw hK
  obtain ⟨f0,f1,f2,f3,f4,f5⟩:=hf it (by simp)
  exact wpAny_pyNext_range_end (I.ok.hd hc) st (by have:n<=i:=hg;omega) fun h' eb=>⟨rfl,I.turned (t':=s.toks) (fun b o hb e=>eb b o hb e) f0 f1 f3 f4 f5⟩
 self:=fun _ _ _ _ _ st h=>wpAny_pyIter_rangeiter st h
section
variable {X:Cx} {tg:Expr}
theorem wF {pins:List (Addr×Obj)} {Z:St} {H:Hp} {s:Shared} {R:It->Hp->Prop} {E:Value->Shared->Prop} {lo hi:Int} {t u v:Tok} {tk:Nat} (I:Inv X pins Z H s) (h1:-(2 ^ 62)<=lo) (h2:lo<2 ^ 62) (h3:-(2 ^ 62)<=hi) (h4:hi<2 ^ 62)
  (q:R (K1 lo (hi-lo).toNat) H):wpAny (model X.prog X.w) X.A (pyIter (.ref s.heap.objs.size)) (PIE X pins Z tg R) E { s with heap:=s.heap.push { cls:=.type "range", data:=.fields #[.int lo t, .int hi u, .int 1 v] }, toks:=tk }:=by
 refine wpAny_pyIter_range (IsRange.new ..) (small_one h1 h2 h3 h4) ?_
 have I1:Inv X pins Z H { s with heap:=s.heap.push { cls:=.type "range", data:=.fields #[.int lo t, .int hi u, .int 1 v] }, toks:=tk }:=I.kept fun b o e=>Heap.get?_push_of_some _ e
 refine ⟨(s.heap.push { cls:=.type "range", data:=.fields #[.int lo t, .int hi u, .int 1 v] }).objs.size, [(s.heap.push { cls:=.type "range", data:=.fields #[.int lo t, .int hi u, .int 1 v] }).objs.size], _, _, H, rfl,
  I1.kept (t':=tk) fun b o e=>Heap.get?_push_of_some _ e,qa _ lo (hi-lo).toNat,?_,fun b hb=>?_,q⟩
 ·have e1:lo+((0:Nat):Int)*1=lo:=by simp
  have e2:(((hi-lo).toNat:Nat):Int)-((0:Nat):Int)=Builtin.Range.rangeSize lo hi 1:=by rw [rangeSize_one];split <;> omega
  show IsRangeIter _ _ (lo+((0:Nat):Int)*1) ((((hi-lo).toNat:Nat):Int)-((0:Nat):Int)) 1
  rw [e1,e2]
  exact Heap.get?_push_size _ rfl
 ·have e:b=(s.heap.push { cls:=.type "range", data:=.fields #[.int lo t, .int hi u, .int 1 v] }).objs.size:=by simpa using hb
  subst e
  exact I1.vd (Nat.le_refl _) (I1.hok.fresh (Nat.le_refl _))
noncomputable def Cw (ta:TA):TI:=fun Z H R=>ta Z H fun vs H1=>∃ j:Int,vs=[.int j]/\-(2 ^ 62)<=j/\j<2 ^ 62/\R (K1 0 j.toNat) H1
theorem uL {a:Expr} {ta:TA} {p pos:Pos} (hg:Gl X "range") (hm:X.mg "range" = none) (ha:PA X [a] ta) (hs:starEach [a] X.env=[(false, eval a X.env)]:=by rfl):PI X tg (.Call (.Name "range" p) [a] [] pos) (Cw ta):=by
 intro pins s Z H R I h
 refine Call_ (jU I hg hm boot_range (PyProof.Rows.callWith_type1 (aY (ha pos pins s Z H _ I h) fun us s1 ⟨vs,H1,I1,r1,q1⟩=>?_) hs rfl))
 obtain ⟨j,e,q1,q2,q⟩:=q1
 subst e
 cases r1 with
 | cons r rr =>
  cases rr
  obtain ⟨t,rfl⟩:=r
  exact call_range_1 (wF I1 (by omega) (by omega) q1 q2 (by simpa using q))
noncomputable def Hf (wi:TI) (g:TG) (tb:TS):TS:=fun D Z H=>wi Z H fun J H1=>∃ W:Nat->Nat->St->Hp->Prop,(∃ m,W 0 m Z H1)/\∀ i m Z H,W i m Z H ->
 (J.stop i H/\D.nx Z H)\/(J.go i H/\∃ N:St->Hp->Prop,(∀ Z' H',N Z' H'->∃ m',m'<m/\W (i+1) m' Z' H')/\∀ x H',J.JY i H x H'->g x Z H' fun Z2 H2=>tb { D with nx:=N,ct:=N,bk:=D.nx } Z2 H2)
noncomputable def jG (fp:List Addr) (h:Heap):List (Addr×Obj):=fp.filterMap fun b=>(h.get? b).map fun o=>(b,o)
theorem d7 {fp:List Addr} {h:Heap} {b:Addr} {o:Obj} (hb:b∈fp) (e:h.get? b=some o):(b,o)∈jG fp h:=List.mem_filterMap.mpr ⟨b,hb,by rw [e];rfl⟩
theorem uT {fp:List Addr} {h:Heap} {p:Addr×Obj} (hp:p∈jG fp h):p.1∈fp/\h.get? p.1=some p.2:=by
 obtain ⟨b,hb,e⟩:=List.mem_filterMap.mp hp
 cases q:h.get? b with
 | none=>rw [q] at e;cases e
 | some o =>
  rw [q] at e
  have e':(b,o)=p:=Option.some.inj e
  subst e'
  exact ⟨hb,q⟩
theorem Inv.pinned {pins:List (Addr×Obj)} {Z:St} {H:Hp} {s:Shared} {fp:List Addr} (I:Inv X pins Z H s) (hf:∀ b∈fp,kG X pins H b) (ho:∀ b∈fp,∃ o,s.heap.get? b=some o/\∀ v,o.data≠.cell v):Inv X (pins++jG fp s.heap) Z H s :=
 I.sH fun p hp=>(List.mem_append.mp hp).elim (fun z=>I.pin p (List.mem_append_right _ z)) fun z=>by
  obtain ⟨hb,e⟩:=uT z
  obtain ⟨f0,f1,f2,_⟩:=hf p.1 hb
  obtain ⟨o,e',d⟩:=ho p.1 hb
  rw [e] at e';cases e'
  exact ⟨e,f0,f1,f2,d⟩
theorem Inv.gC {pins pl:List (Addr×Obj)} {Z:St} {H:Hp} {s:Shared} (I:Inv X (pins++pl) Z H s):Inv X pins Z H s:=I.sH fun p hp=>I.pin p (List.mem_append_right _ (List.mem_append_left _ hp))
theorem DQ {iter:Expr} {body:List Stmt} {wi:TI} {g:TG} {tb:TS} {pos:Pos} (hp:PassesOwn (model X.prog X.w) X.A X.env X.xe) (hc:X.calm=true) (hi:PI X tg iter wi) (hg:PG X tg g) (hb:jt X body tb)
  (hs:∀ x,foldedSetIterable iter X.env x=pure x:=by intro _;rfl):PS X (.For tg iter body [] pos) (Hf wi g tb):=by
 intro pins s Z H D I h
 refine wpAny_For (aY (hi pins s Z H _ I h) fun v s1 h1=>aY h1 fun itv s2 h2=>?_) hs
 obtain ⟨it,fp,tn,J,H2,e,I2,T,st2,f2,W,⟨m0,w0⟩,turn⟩:=h2
 subst e
 have stat:∀ {H':Hp},(∀ b∈fp,H' b=none)->∀ b∈fp,kG X pins H' b:=fun hn b hb=>⟨hn b hb,(f2 b hb).2⟩
 refine codeAny_forLoop_any (fun n s'=>∃ i Z' H',Inv X pins Z' H' s'/\tn i s'.heap/\(∀ b∈fp,H' b=none)/\W i n Z' H') ?_ m0 ⟨0,Z,H2,I2,st2,fun b hb=>(f2 b hb).1,w0⟩
 rintro n s3 ⟨i,Z3,H3,I3,st3,Jb,w3⟩
 rcases turn i n Z3 H3 w3 with ⟨stop,qn⟩ | ⟨go,N,hN,step⟩
 ·refine wpAny_passesOwn hp (aY (T.done X rfl rfl rfl hc i pins s3 Z3 H3 X.xe I3 (stat Jb) st3 stop) fun r s4 ⟨hr,I4⟩=>?_)
  subst hr
  exact wpAny_execs_nil ⟨Z3,H3,I4,qn⟩
 ·refine wpAny_passesOwn hp (aY (T.item X rfl rfl rfl hc i pins s3 Z3 H3 X.xe I3 (stat Jb) st3 go) fun r s4 ⟨u,hr,h4⟩=>?_)
  subst hr
  refine wpAny_passesOwn hp (aY h4 fun _ s5 ⟨x,H5,I5,r5,y5,Dh,fr5⟩=>?_)
  have I5':=I5.pinned (stat fr5) (T.obj _ _ Dh)
  refine wpAny_passesOwn hp (aY (hg _ s5 Z3 H5 x u _ I5' r5 (step x H5 y5)) fun _ s6 ⟨Z6,H6,I6,q6⟩=>?_)
  refine wpAny_passesOwn hp (aY (hb _ s6 Z6 H6 _ I6 q6) fun f s7 q7=>?_)
  have again:∀ {Z7:St} {H7:Hp},Inv X (pins++jG fp s5.heap) Z7 H7 s7->N Z7 H7->∃ m,m<n/\∃ i Z' H',Inv X pins Z' H' s7/\tn i s7.heap/\(∀ b∈fp,H' b=none)/\W i m Z' H':=fun {Z7 H7} I7 n7=>by
   obtain ⟨m',hm,w7⟩:=hN Z7 H7 n7
   refine ⟨m',hm,i+1,Z7,H7,I7.gC,T.keep _ _ _ Dh fun b hb o e=>(I7.pin (b,o) (List.mem_append_right _ (List.mem_append_right _ (d7 hb e)))).1,fun b hb=>?_,w7⟩
   obtain ⟨o,e,d⟩:=T.obj _ _ Dh b hb
   exact (I7.pin (b,o) (List.mem_append_right _ (List.mem_append_right _ (d7 hb e)))).2.1
  cases f with
  | next=>obtain ⟨Z7,H7,I7,n7⟩:=q7;exact again I7 n7
  | cont=>obtain ⟨Z7,H7,I7,n7⟩:=q7;exact again I7 n7
  | brk=>obtain ⟨Z7,H7,I7,q7⟩:=q7;exact ⟨Z7,H7,I7.gC,q7⟩
  | ret v=>obtain ⟨x7,Z7,H7,I7,r7,q7⟩:=q7;exact ⟨x7,Z7,H7,I7.gC,r7,q7⟩
end
noncomputable abbrev R2:=V->V->Hp->VK->Prop
noncomputable def dW (X:Cx) (f:Value->Value->Sem Value) (r:R2):Prop :=
 ∀ (pins:List (Addr×Obj)) (s:Shared) (Z:St) (H:Hp) (x y:V) (v u:Value) (Q:VK),Inv X pins Z H s->RelV x v->RelV y u->r x y H Q ->
  wpAny (model X.prog X.w) X.A (f v u) (EP X pins Z Q) X.xe s
noncomputable def UnR (X:Cx) (f:Value->Sem Value) (r:V->Hp->VK->Prop):Prop :=
 ∀ (pins:List (Addr×Obj)) (s:Shared) (Z:St) (H:Hp) (x:V) (v:Value) (Q:VK),Inv X pins Z H s->RelV x v->r x H Q ->
  wpAny (model X.prog X.w) X.A (f v) (EP X pins Z Q) X.xe s
noncomputable def dm (X:Cx) (f:Value) (r:List V->Hp->VK->Prop):Prop :=
 ∀ (pins:List (Addr×Obj)) (s:Shared) (Z:St) (H:Hp) (xs:List V) (us:List Value) (Q:VK),Inv X pins Z H s->Vals xs us->r xs H Q ->
  wpAny (model X.prog X.w) X.A (call f us) (EP X pins Z Q) X.xe s
noncomputable def Dc (r:R2) (ta tb:TE):TE:=fun Z H Q=>ta Z H fun x H1=>tb Z H1 fun y H2=>r x y H2 Q
noncomputable def tUn (r:V->Hp->VK->Prop) (ta:TE):TE:=fun Z H Q=>ta Z H fun x H1=>r x H1 Q
noncomputable def rI (C:Int->Int->Prop) (g:Int->Int->V):R2:=fun x y H Q=>∃ i j,x=.int i/\y=.int j/\C i j/\Q (g i j) H
noncomputable def qp (g:Int->Int->V):R2:=fun x y H Q=>∃ i j,x=.int i/\y=.int j/\Q (g i j) H
noncomputable def rU (g:Int->V):V->Hp->VK->Prop:=fun x H Q=>∃ i,x=.int i/\Q (g i) H
section
variable {X:Cx} {a b c:Expr} {ta tb tc:TE} {pos:Pos}
theorem Gu (ha:PE X a ta) (hb:PE X b tb) {pins:List (Addr×Obj)} {s:Shared} {Z:St} {H:Hp} {R:V->V->Hp->Prop} (I:Inv X pins Z H s)
  (h:ta Z H fun x H1=>tb Z H1 fun y H2=>R x y H2) {Q:Value->Shared->Prop} {f:Value->Value->Sem Value}
  (hf:∀ v u s2 x y H2,Inv X pins Z H2 s2->RelV x v->RelV y u->R x y H2->wpAny (model X.prog X.w) X.A (f v u) Q X.xe s2) :
  wpAny (model X.prog X.w) X.A (eval a X.env) (fun v s₁=>wpAny (model X.prog X.w) X.A (eval b X.env) (fun u s₂=>wpAny (model X.prog X.w) X.A (f v u) Q X.xe s₂) X.xe s₁) X.xe s:=by
 refine aY (ha pins s Z H _ I h) fun v s1 ⟨x,H1,I1,r1,q1⟩=>?_
 refine aY (hb pins s1 Z H1 _ I1 q1) fun u s2 ⟨y,H2,I2,r2,q2⟩=>?_
 exact hf v u s2 x y H2 I2 r1 r2 q2
theorem HZ {op:Operator} {r:R2} (ho:dW X (binaryOp op) r) (ha:PE X a ta) (hb:PE X b tb):PE X (.BinOp a op b pos) (Dc r ta tb):=by
 intro pins s Z H Q I h
 exact wpAny_BinOp (Gu ha hb I h fun v u s2 x y H2 I2 rx ry q=>ho pins s2 Z H2 x y v u Q I2 rx ry q)
theorem HX {op:UnaryOp} {r:V->Hp->VK->Prop} (ho:UnR X (unaryOp op) r) (ha:PE X a ta):PE X (.UnaryOp op a pos) (tUn r ta):=by
 intro pins s Z H Q I h
 exact UnaryOp_ (aY (ha pins s Z H _ I h) fun v s1 ⟨x,H1,I1,r1,q1⟩=>ho pins s1 Z H1 x v Q I1 r1 q1)
theorem Il {f:Value->Value->Sem Value} {C:Int->Int->Prop} {g:Int->Int->Int}
  (rule:∀ (i j:Int) (t u:Tok) (s:Shared) (Q:Value->Shared->Prop) (E:Value->Shared->Prop),C i j->Q (.int (g i j) s.toks) { s with toks:=s.toks+1 }->wpAny (model X.prog X.w) X.A (f (.int i t) (.int j u)) Q E s) :
  dW X f (rI C fun i j=>.int (g i j)):=by
 intro pins s Z H x y v u Q I rx ry h
 obtain ⟨i,j,rfl,rfl,hc,q⟩:=h
 obtain ⟨t,rfl⟩:=rx
 obtain ⟨t',rfl⟩:=ry
 exact rule i j t t' s _ _ hc ⟨.int (g i j),H,I.tok _,⟨_,rfl⟩,q⟩
theorem Ik {f:Value->Value->Sem Value} {g:Int->Int->Int}
  (rule:∀ (i j:Int) (t u:Tok) (s:Shared) (Q:Value->Shared->Prop) (E:Value->Shared->Prop),Q (.int (g i j) s.toks) { s with toks:=s.toks+1 }->wpAny (model X.prog X.w) X.A (f (.int i t) (.int j u)) Q E s) :
  dW X f (qp fun i j=>.int (g i j)):=by
 intro pins s Z H x y v u Q I rx ry h
 obtain ⟨i,j,rfl,rfl,q⟩:=h
 obtain ⟨t,rfl⟩:=rx
 obtain ⟨t',rfl⟩:=ry
 exact rule i j t t' s _ _ ⟨.int (g i j),H,I.tok _,⟨_,rfl⟩,q⟩
theorem AD {f:Value->Value->Sem Value} {g:Int->Int->Bool}
  (rule:∀ (i j:Int) (t u:Tok) (s:Shared) (Q:Value->Shared->Prop) (E:Value->Shared->Prop),Q (.bool (g i j)) s->wpAny (model X.prog X.w) X.A (f (.int i t) (.int j u)) Q E s) :
  dW X f (qp fun i j=>.bl (g i j)):=by
 intro pins s Z H x y v u Q I rx ry h
 obtain ⟨i,j,rfl,rfl,q⟩:=h
 obtain ⟨t,rfl⟩:=rx
 obtain ⟨t',rfl⟩:=ry
 exact rule i j t t' s _ _ ⟨.bl (g i j),H,I,rfl,q⟩
noncomputable def JX (i j:Int):Prop:=0<j/\j<1073741824
noncomputable def JV (i j:Int):Prop:=0<=j/\j<=1000000/\i.natAbs<2 ^ 64
noncomputable def BR (i j:Int):Prop:=(-(2 ^ 64)<i/\i<2 ^ 64)\/(-(2 ^ 64)<j/\j<2 ^ 64)
theorem BR.ok {i j:Int} (h:BR i j):IntMulOk i j:=by
 rcases h with ⟨h1,h2⟩ | ⟨h1,h2⟩
 ·exact .of_left (intBits_le_64 h1 h2)
 ·exact .of_right (intBits_le_64 h1 h2)
theorem Eu:dW X (binaryOp .Add) (qp fun i j=>.int (i+j)):=Ik fun _ _ _ _ _ _ _ q=>add_int q
theorem Ef:dW X (binaryOp .Sub) (qp fun i j=>.int (i-j)):=Ik fun _ _ _ _ _ _ _ q=>sub_int q
theorem Ek:dW X (binaryOp .Mult) (rI BR fun i j=>.int (i*j)):=Il fun _ _ _ _ _ _ _ hc q=>mul_int q hc.ok
theorem Az:dW X (binaryOp .FloorDiv) (rI JX fun i j=>.int (i / j)):=Il fun i j _ _ _ _ _ hc q=>by
 have h1:(0:Int)<j:=hc.1
 have h2:j<1073741824:=hc.2
 exact floordiv_int (by omega) (by rw [Int.fdiv_eq_ediv_of_nonneg i (by omega)];exact q) (.inl (PyProof.noPylong_small (by omega)))
theorem El:dW X (binaryOp .Mod) (rI (fun _ j=>0<j) fun i j=>.int (i % j)):=Il fun i j _ _ _ _ _ hc q=>by
 have h1:(0:Int)<j:=hc
 exact mod_int' (by omega) (by rw [Int.fmod_eq_emod_of_nonneg i (by omega)];exact q)
theorem Eg:dW X (binaryOp .Pow) (rI JV fun i j=>.int (i ^ j.toNat)):=Il fun _ _ _ _ _ _ _ hc q=>pow_int_small hc.1 hc.2.1 hc.2.2 q
theorem unI {f:Value->Sem Value} {g:Int->Int}
  (rule:∀ (i:Int) (t:Tok) (s:Shared) (Q:Value->Shared->Prop) (E:Value->Shared->Prop),Q (.int (g i) s.toks) { s with toks:=s.toks+1 }->wpAny (model X.prog X.w) X.A (f (.int i t)) Q E s) :
  UnR X f (rU fun i=>.int (g i)):=by
 intro pins s Z H x v Q I rx h
 obtain ⟨i,rfl,q⟩:=h
 obtain ⟨t,rfl⟩:=rx
 exact rule i t s _ _ ⟨.int (g i),H,I.tok _,⟨_,rfl⟩,q⟩
theorem C6:UnR X (unaryOp .USub) (rU fun i=>.int (-i)):=unI fun _ _ _ _ _ q=>neg_int q
end
noncomputable def Hx:V->V->Bool
 | .ak,.ak=>true | .ak,.int _=>true | .int _,.ak=>true | .ak,.bl _=>true | .bl _,.ak=>true | .ak,.str _=>true | .str _,.ak=>true
 | .int _,.int _=>true | .bl _,.bl _=>true | .str _,.str _=>true | .vD _,.vD _=>true
 | .int _,.str _=>true | .str _,.int _=>true | .bl _,.str _=>true | .str _,.bl _=>true
 | _,_=>false
noncomputable def rEq:R2:=fun x y H Q=>Hx x y=true/\Q (.bl (decide (x=y))) H
noncomputable def rNe:R2:=fun x y H Q=>Hx x y=true/\Q (.bl (!decide (x=y))) H
theorem tX {i j:Int}:decide (V.int i=V.int j)=(i == j):=by
 rw [Bool.eq_iff_iff]
 simp
theorem m8 {i j:Bool}:decide (V.bl i=V.bl j)=(i == j):=by
 rw [Bool.eq_iff_iff]
 simp
theorem tW {i j:Str}:decide (V.str i=V.str j)=(i == j):=by
 rw [Bool.eq_iff_iff]
 simp
theorem tY {i j:Array UInt8}:decide (V.vD i=V.vD j)=(i.toList == j.toList):=by
 rw [Bool.eq_iff_iff]
 cases i
 cases j
 simp
section
variable {X:Cx} {a b c:Expr} {ta tb tc:TE} {pos:Pos}
theorem az {pins:List (Addr×Obj)} {Z:St} {H:Hp} {s:Shared} {Q:VK} {k k':Bool} (I:Inv X pins Z H s) (q:Q (.bl k) H) (e:k=k'):EP X pins Z Q (.bool k') s:=by
 subst e
 exact ⟨.bl k,H,I,rfl,q⟩
theorem Ij:dW X (compareOp .Eq) rEq:=by
 intro pins s Z H x y v u Q I rx ry h
 obtain ⟨hs,q⟩:=h
 cases x with
 | ak =>
  cases rx
  cases y with
  | ak=>cases ry;exact PySem.EqNone.eq_none_none (az I q (by simp))
  | bl j=>cases ry;exact PySem.EqNone.eq_none_bool (az I q (by simp))
  | int j=>obtain ⟨t',rfl⟩:=ry;exact PySem.EqNone.eq_none_int (az I q (by simp))
  | str j=>obtain ⟨t',rfl⟩:=ry;exact PySem.EqNone.eq_none_str (az I q (by simp))
  | _=>exact absurd (show false=true from hs) Bool.false_ne_true
 | bl i =>
  cases rx
  cases y with
  | ak=>cases ry;exact PySem.EqNone.eq_bool_none (az I q (by simp))
  | bl j=>cases ry;exact eq_bool (az I q m8)
  | str j=>obtain ⟨t',rfl⟩:=ry;exact PySem.EqMixed.eq_bool_str (az I q (by simp))
  | _=>exact absurd (show false=true from hs) Bool.false_ne_true
 | int i =>
  obtain ⟨t,rfl⟩:=rx
  cases y with
  | ak=>cases ry;exact PySem.EqNone.eq_int_none (az I q (by simp))
  | int j=>obtain ⟨t',rfl⟩:=ry;exact eq_int (az I q tX)
  | str j=>obtain ⟨t',rfl⟩:=ry;exact PySem.EqMixed.eq_int_str (az I q (by simp))
  | _=>exact absurd (show false=true from hs) Bool.false_ne_true
 | str i =>
  obtain ⟨t,rfl⟩:=rx
  cases y with
  | ak=>cases ry;exact PySem.EqNone.eq_str_none (az I q (by simp))
  | bl j=>cases ry;exact PySem.EqMixed.eq_str_bool (az I q (by simp))
  | int j=>obtain ⟨t',rfl⟩:=ry;exact PySem.EqMixed.eq_str_int (az I q (by simp))
  | str j=>obtain ⟨t',rfl⟩:=ry;exact eq_str (az I q tW)
  | _=>exact absurd (show false=true from hs) Bool.false_ne_true
 | vD i =>
  obtain ⟨t,rfl⟩:=rx
  cases y with
  | vD j=>obtain ⟨t',rfl⟩:=ry;exact PySem.W.eq_bytes (az I q tY)
  | _=>exact absurd (show false=true from hs) Bool.false_ne_true
 | _=>cases y <;> exact absurd (show false=true from hs) Bool.false_ne_true
theorem Ic:dW X (compareOp .NotEq) rNe:=by
 intro pins s Z H x y v u Q I rx ry h
 obtain ⟨hs,q⟩:=h
 cases x with
 | ak =>
  cases rx
  cases y with
  | ak=>cases ry;exact PySem.EqNone.ne_none_none (az I q (by simp))
  | bl j=>cases ry;exact PySem.EqNone.ne_none_bool (az I q (by simp))
  | int j=>obtain ⟨t',rfl⟩:=ry;exact PySem.EqNone.ne_none_int (az I q (by simp))
  | str j=>obtain ⟨t',rfl⟩:=ry;exact PySem.EqNone.ne_none_str (az I q (by simp))
  | _=>exact absurd (show false=true from hs) Bool.false_ne_true
 | bl i =>
  cases rx
  cases y with
  | ak=>cases ry;exact PySem.EqNone.ne_bool_none (az I q (by simp))
  | bl j=>cases ry;exact ne_bool (az I q (congrArg not m8))
  | str j=>obtain ⟨t',rfl⟩:=ry;exact PySem.EqMixed.ne_bool_str (az I q (by simp))
  | _=>exact absurd (show false=true from hs) Bool.false_ne_true
 | int i =>
  obtain ⟨t,rfl⟩:=rx
  cases y with
  | ak=>cases ry;exact PySem.EqNone.ne_int_none (az I q (by simp))
  | int j=>obtain ⟨t',rfl⟩:=ry;exact ne_int (az I q (congrArg not tX))
  | str j=>obtain ⟨t',rfl⟩:=ry;exact PySem.EqMixed.ne_int_str (az I q (by simp))
  | _=>exact absurd (show false=true from hs) Bool.false_ne_true
 | str i =>
  obtain ⟨t,rfl⟩:=rx
  cases y with
  | ak=>cases ry;exact PySem.EqNone.ne_str_none (az I q (by simp))
  | bl j=>cases ry;exact PySem.EqMixed.ne_str_bool (az I q (by simp))
  | int j=>obtain ⟨t',rfl⟩:=ry;exact PySem.EqMixed.ne_str_int (az I q (by simp))
  | str j=>obtain ⟨t',rfl⟩:=ry;exact ne_str (az I q (congrArg not tW))
  | _=>exact absurd (show false=true from hs) Bool.false_ne_true
 | vD i =>
  obtain ⟨t,rfl⟩:=rx
  cases y with
  | vD j=>obtain ⟨t',rfl⟩:=ry;exact PySem.W.ne_bytes (az I q (congrArg not tY))
  | _=>exact absurd (show false=true from hs) Bool.false_ne_true
 | _=>cases y <;> exact absurd (show false=true from hs) Bool.false_ne_true
theorem Ie:dW X (compareOp .Lt) (qp fun i j=>.bl (decide (i<j))):=AD fun _ _ _ _ _ _ _ q=>lt_int q
theorem Ig:dW X (compareOp .LtE) (qp fun i j=>.bl (decide (i<=j))):=AD fun _ _ _ _ _ _ _ q=>le_int q
theorem Ih:dW X (compareOp .Gt) (qp fun i j=>.bl (decide (j<i))):=AD fun _ _ _ _ _ _ _ q=>gt_int q
theorem Ii:dW X (compareOp .GtE) (qp fun i j=>.bl (decide (j<=i))):=AD fun _ _ _ _ _ _ _ q=>ge_int q
theorem Em:dW X (compareOp .Is) (fun x y H Q=>y=.ak/\Q (.bl (decide (x=.ak))) H):=by
 intro pins s Z H x y v u Q I rx ry h
 obtain ⟨rfl,q⟩:=h
 cases ry
 refine is_none_gen (az I q ?_)
 cases x <;> first
  | (cases rx;rfl)
  | (obtain ⟨t,rfl⟩:=rx;rfl)
theorem Aw:dW X (compareOp .IsNot) (fun x y H Q=>y=.ak/\Q (.bl (!decide (x=.ak))) H):=by
 intro pins s Z H x y v u Q I rx ry h
 obtain ⟨rfl,q⟩:=h
 cases ry
 refine isnot_none_gen (az I q ?_)
 cases x <;> first
  | (cases rx;rfl)
  | (obtain ⟨t,rfl⟩:=rx;rfl)
theorem dW.or {f:Value->Value->Sem Value} {r r':R2} (h:dW X f r) (h':dW X f r'):dW X f (fun x y H Q=>r x y H Q\/r' x y H Q):=by
 intro pins s Z H x y v u Q I rx ry q
 rcases q with q | q
 ·exact h pins s Z H x y v u Q I rx ry q
 ·exact h' pins s Z H x y v u Q I rx ry q
theorem Ar {op:CmpOp} {r:R2} (ho:dW X (compareOp op) r) (ha:PE X a ta) (hb:PE X b tb) (hm:behindInMarks op b=false):PE X (.Compare a [op] [b] pos) (Dc r ta tb):=by
 intro pins s Z H Q I h
 exact wpAny_Compare1 (Gu ha hb I h fun v u s2 x y H2 I2 rx ry q=>ho pins s2 Z H2 x y v u Q I2 rx ry q) hm
noncomputable def G3 (t:TE):TT:=fun Z H Q=>t Z H fun x H'=>∃ k,x=.bl k/\Q k H'
theorem Ad {op:CmpOp} {r:R2} (ho:dW X (compareOp op) r) (ha:PE X a ta) (hb:PE X b tb) (hm:behindInMarks op b=false):PT X (.Compare a [op] [b] pos) (G3 (Dc r ta tb)):=by
 intro pins s Z H Q I h
 refine wpAny_isTrue_Compare1 (aY (ha pins s Z H _ I h) fun v s1 ⟨x,H1,I1,r1,q1⟩=>aY (hb pins s1 Z H1 _ I1 q1) fun u s2 ⟨y,H2,I2,r2,q2⟩ =>
  aY (ho pins s2 Z H2 x y v u _ I2 r1 r2 q2) fun c s3 ⟨z,H3,I3,r3,k,e,q3⟩=>?_) hm
 subst e
 cases r3
 exact wpAny_truthy_bool ⟨H3,I3,q3⟩
theorem iz:(sizeLine:Nat)<2 ^ 63:=by rw [sizeLine_eq];decide
theorem qx:dW X (binaryOp .Add) (fun x y H Q=>∃ i j,x=.str i/\y=.str j/\i.length+j.length<=sizeLine/\Q (.str (i++j)) H):=by
 intro pins s Z H x y v u Q I rx ry h
 obtain ⟨i,j,rfl,rfl,hz,q⟩:=h
 obtain ⟨t,rfl⟩:=rx
 obtain ⟨t',rfl⟩:=ry
 exact add_str (fun t' tk=>⟨.str (i++j),H,I.tok _,⟨_,rfl⟩,q⟩) hz
theorem vals1 {x:V} {us:List Value} (r:Vals [x] us):∃ u,us=[u]/\RelV x u:=by
 cases r with
 | cons r1 r2=>cases r2;exact ⟨_,rfl,r1⟩
end
structure rK (h:Heap) (x dx C:Addr) (mA:Str->Option Value):Prop where
 obj:h.get? x=some (PySem.W.instObj C dx)
 ns:h.Ns1 dx mA
 ne:dx≠x
theorem uV {h:Heap} {dx:Addr} {mA:Str->Option Value} (n:h.Ns1 dx mA):∃ od,h.get? dx=some od/\∀ name,PySem.W.lookIn name od=some (mA name):=by
 obtain ⟨o,es,ep,ho,hd,hk,_,hm⟩:=n
 refine ⟨o,ho,fun name=>?_⟩
 have e:=hm name
 unfold nsFind findBy at e
 rw [<- Array.find?_toList] at e
 unfold PySem.W.lookIn
 rw [hd]
 dsimp only
 split
 ·rename_i y q
  rw [q] at e
  exact congrArg some e
 ·rename_i q
  rw [q] at e
  have a:es.toList.any (·.refKey)=false:=by
   rw [List.any_eq_false]
   intro y hy
   obtain ⟨z,t,hkey⟩:=hk y (Array.mem_toList_iff.mp hy)
   simp [DictEntry.refKey,hkey]
  have a':¬ es.toList.any (·.refKey)=true:=by rw [a];exact Bool.false_ne_true
  rw [if_neg a']
  exact congrArg some e
theorem rK.look {h:Heap} {x dx C:Addr} {mA:Str->Option Value} (I:rK h x dx C mA):∃ od,PySem.W.InstAt h x (PySem.W.instObj C dx) C (some od)/\∀ name,PySem.W.lookIn name od=some (mA name) :=
 let ⟨od,ho,hl⟩:=uV I.ns
 ⟨od,⟨I.obj,rfl,rfl,ho⟩,hl⟩
section
variable {prog:Program} {w:World} {A:Around} {E:Value->Shared->Prop} {s:Shared} {K:PySem.W.Frag} {x dx C f:Addr} {mA:Str->Option Value} {name:Str} {v:Value}
theorem get_map {expr:Bool} {Q:Value->Shared->Prop} (X:K.In s.heap) (I:rK s.heap x dx C mA) (hg:PySem.W.plainGet K C name=true) (hh:PySem.W.hasDictIn K C=true)
  (ha:PySem.W.findIn K (.ref C) name=some none) (hv:mA name=some v) (hv':PySem.W.handedIn v=true) (h:Q v { s with toks:=s.toks+1 }) :
  wpAny (model prog w) A (getAttr (.ref x) name expr) Q E s:=by
 obtain ⟨od,J,hl⟩:=I.look
 exact PySem.W.get_value X J (PySem.W.plainGet_of hg).1 (PySem.W.findObj_own hh ha rfl (by rw [hl,hv])) hv' h
theorem yb {pl:Sem Bool} {Q:Value×List Value->Shared->Prop} (X:K.In s.heap) (I:rK s.heap x dx C mA) (hg:PySem.W.plainGet K C name=true)
  (hf:PySem.W.findIn K (.ref C) name=some (some (.ref f))) (ht:PySem.W.isFn K (.ref f)=true) (hv:mA name=none) (h:Q (.ref f,[.ref x]) s) :
  wpAny (model prog w) A (getMethod (.ref x) name pl) Q E s:=by
 obtain ⟨od,J,hl⟩:=I.look
 exact PySem.W.method_fn X J (PySem.W.plainGet_of hg).1 (PySem.W.plainGet_of hg).2 hf (beq_iff_eq.mp ht) (by show (PySem.W.lookIn name od).map (·.isSome)=some false;rw [hl,hv];rfl) h
theorem zY {ns:List Str} {Q:Unit->Shared->Prop} (X:K.In s.heap) (I:rK s.heap x dx C mA)
  (hs:PySem.W.findIn K (.ref C) "__setattr__" = some (some (.builtin "object.__setattr__"))) (hp:PySem.W.plainOver K C=true) (ht:PySem.W.takerIn K C name=some none) (hh:PySem.W.hasDictIn K C=true)
  (hw:PySem.Within mA ns) (hsz:ns.length<=sizeLine)
  (h:∀ h',rK h' x dx C (fun y=>if y=name then some v else mA y)->Heap.SameBut dx s.heap h'->Q () { s with heap:=h',toks:=s.toks+2 }) :
  wpAny (model prog w) A (setAttr (.ref x) name v) Q E s:=by
 obtain ⟨od,J,hl⟩:=I.look
 refine PySem.W.set_plain X J hs (PySem.W.osa_open (s:={ s with toks:=s.toks+1 }) (r:=none) X J hp ht fun b=>?_)
 obtain ⟨cd,hc,hd'⟩:=PySem.W.any_some hh
 have hx:s.heap.get? x=some ⟨.ref C,some dx,.plain,#[]⟩:=I.obj
 refine wpAny_bind (wpAny_pure (wpAny_bind (wpAny_bind (wpAny_loadPart hx (wpAny_bind (PySem.W.Looks.here (s:={ s with toks:=s.toks+1 }) (PySem.W.looks_clsIn X hc) ?_))))))
 rw [hd']
 refine wpAny_pure (a:=some dx) (wpAny_bind (wpAny_pure (wpAny_bind ?_)))
 refine wpAny_nsSet1 (s:={ s with toks:=s.toks+1 }) I.ns fun h' hn2 hs2=>?_
 obtain ⟨oD,esD,epD,hoD,hdD,hcD⟩:=hn2.count (PySem.Within.cons name v hw)
 refine wpAny_bind (wpAny_lookBehind hoD (by rw [hdD];exact pastItsLine_dict (Nat.le_trans hcD (by rw [List.length_cons];omega))) ?_)
 exact wpAny_pure (h _ ⟨(hs2.2 _ (Ne.symm I.ne)).trans I.obj,hn2,I.ne⟩ hs2)
theorem xw {R:Result->Shared->Prop} {vs:List Value} {kw:List (Str×Value)} (X:K.In s.heap) (hm:PySem.W.makesIn K C=true)
  (hi:PySem.W.findIn K (.ref C) "__init__" = some (some (.ref f))) (hf:PySem.W.typeIn K (.ref f)=some (.type "function"))
  (h:codeAny (model prog w) (A.under (.builtin "type.__call__" ⟨.ref C::vs, kw⟩)) (.call (.ref f) ⟨.ref (s.heap.objs.size+1)::vs, kw⟩) (PySem.W.InitBack (s.heap.objs.size+1) R)
   { s with heap:=(s.heap.push PySem.W.emptyDict).push (PySem.W.instObj C s.heap.objs.size) }) :
  codeAny (model prog w) A (.call (.ref C) ⟨vs,kw⟩) R s:=by
 obtain ⟨hh,g,d,t,os⟩:=s
 exact PySem.W.make_core (PySem.W.makes_of X hm) (PySem.W.looks_findIn X hi) (fun self=>PySem.W.bind_fn X self hf) (.inl rfl) h
end
noncomputable def dw (f:Str) (v:V):List (Str×V)->List (Str×V)
 | []=>[(f,v)]
 | (g,x)::r=>if g=f then (g,v)::r else (g,x)::dw f v r
theorem iS (f g:Str) (v:V):∀ fs:List (Str×V),(dw f v fs).lookup g=if g=f then some v else fs.lookup g
 | []=>by
  show List.lookup g [(f,v)]=_
  by_cases h:g=f
  ·have hb:(g == f)=true:=beq_iff_eq.mpr h
   simp only [List.lookup,hb,if_pos h]
  ·have hb:(g == f)=false:=beq_eq_false_iff_ne.mpr h
   simp only [List.lookup,hb,if_neg h]
 | (k, x)::r=>by
  have ih:=iS f g v r
  rw [show dw f v ((k,x)::r)=(if k=f then (k,v)::r else (k,x)::dw f v r) from rfl]
  by_cases hk:k=f
  ·rw [if_pos hk]
   by_cases h:g=k
   ·have hb:(g == k)=true:=beq_iff_eq.mpr h
    simp only [List.lookup,hb,if_pos (h.trans hk)]
   ·have hb:(g == k)=false:=beq_eq_false_iff_ne.mpr h
    simp only [List.lookup,hb,if_neg (fun e:g=f=>h (e.trans hk.symm))]
  ·rw [if_neg hk]
   by_cases h:g=k
   ·have hb:(g == k)=true:=beq_iff_eq.mpr h
    simp only [List.lookup,hb,if_neg (fun e:g=f=>hk (h.symm.trans e))]
   ·have hb:(g == k)=false:=beq_eq_false_iff_ne.mpr h
    simp only [List.lookup,hb]
    exact ih
theorem iC (f:Str) (v:V):∀ fs:List (Str×V),f∈(dw f v fs).map (·.1)/\∀ g,g∈fs.map (·.1)->g∈(dw f v fs).map (·.1)
 | []=>⟨by simp [dw],fun g h=>by simp at h⟩
 | (k, x)::r=>by
  obtain ⟨i1,i2⟩:=iC f v r
  rw [show dw f v ((k,x)::r)=(if k=f then (k,v)::r else (k,x)::dw f v r) from rfl]
  by_cases hk:k=f
  ·rw [if_pos hk]
   subst hk
   exact ⟨by simp,fun g h=>by simpa using h⟩
  ·rw [if_neg hk]
   refine ⟨?_,fun g h=>?_⟩
   ·rw [List.map_cons]
    exact List.mem_cons_of_mem _ i1
   ·rw [List.map_cons] at h ⊢
    rcases List.mem_cons.mp h with e | e
    ·exact List.mem_cons.mpr (.inl e)
    ·exact List.mem_cons_of_mem _ (i2 g e)
theorem iU (f:Str) (v:V):∀ fs:List (Str×V),(dw f v fs).length<=fs.length+1
 | []=>by simp [dw]
 | (k,x)::r=>by
  have ih:=iU f v r
  rw [show dw f v ((k,x)::r)=(if k=f then (k,v)::r else (k,x)::dw f v r) from rfl]
  by_cases hk:k=f
  ·rw [if_pos hk,List.length_cons,List.length_cons];omega
  ·rw [if_neg hk,List.length_cons,List.length_cons];omega
theorem gz.some_of {v:V} {o:Option Value} (r:gz (some v) o):∃ u,o=some u/\RelV v u:=by
 cases o with
 | none=>exact (show False from r).elim
 | some u=>exact ⟨u,rfl,r⟩
theorem gz.none_of {o:Option Value} (r:gz none o):o=none:=by
 cases o with
 | none=>rfl
 | some u=>exact (show False from r).elim
theorem u9 {v:V} {u:Value} (r:RelV v u):PySem.W.handedIn u=true:=by
 cases v with
 | ak=>cases (show u=Value.none from r);rfl
 | bl b=>cases (show u=Value.bool b from r);rfl
 | int i=>obtain ⟨t,e⟩:=(show ∃ t,u=Value.int i t from r);cases e;rfl
 | str x=>obtain ⟨t,e⟩:=(show ∃ t,u=Value.str x t from r);cases e;rfl
 | vD b=>obtain ⟨t,e⟩:=(show ∃ t,u=Value.bytes b t from r);cases e;rfl
 | KA b=>obtain ⟨t,e⟩:=(show ∃ t,u=Value.float b t from r);cases e;rfl
 | ref a=>cases (show u=Value.ref a from r);rfl
 | ty n=>cases (show u=Value.type n from r);rfl
section
variable {P:Program} {w:World} {H H':Hp} {h h':Heap} {a C dx:Addr} {fs fs':List (Str×V)}
theorem mJ (hok:gb P w H h) (e:H a=some (.ins C dx fs)):∃ mA,rK h a dx C mA/\(∀ f,gz (fs.lookup f) (mA f))/\PySem.Within mA (fs.map (·.1))/\fs.length<=1000/\H dx=some (.own a):=by
 obtain ⟨d,z,ne,ob,mA,n,r,q⟩:=(show aW P w H h a (.ins C dx fs) from hok a _ e)
 exact ⟨mA,⟨ob,n,ne⟩,r,q,z,d⟩
end
structure vA (K:PySem.W.Frag) (C:Addr):Prop where
 pg:PySem.W.plainGet K C Str.empty=true
 hd:PySem.W.hasDictIn K C=true
 po:PySem.W.plainOver K C=true
 sa:PySem.W.findIn K (.ref C) "__setattr__" = some (some (.builtin "object.__setattr__"))
theorem vA.get {K:PySem.W.Frag} {C:Addr} (c:vA K C) (f:Str):PySem.W.plainGet K C f=true:=c.pg
noncomputable def dG (K:PySem.W.Frag) (C:Addr) (f:Str):Prop:=PySem.W.findIn K (.ref C) f=some none
theorem dG.G0 {K:PySem.W.Frag} {C:Addr} {f:Str} (n:dG K C f):PySem.W.takerIn K C f=some none:=by
 unfold PySem.W.takerIn
 rw [show PySem.W.findIn K (.ref C) f=some none from n]
 rfl
structure Meth (K:PySem.W.Frag) (C:Addr) (m:Str) (f:Addr):Prop where
 at_:PySem.W.findIn K (.ref C) m=some (some (.ref f))
 fn:PySem.W.isFn K (.ref f)=true
 kp:PySem.W.keepIn K (.ref f)=true
section
variable {X:Cx} {pins:List (Addr×Obj)} {Z:St} {H:Hp} {s:Shared} {a C dx:Addr} {fs:List (Str×V)} {f:Str} {v:V} {A:Around} {E:Value->Shared->Prop}
theorem qO {b:Bool} {Q:Value->Shared->Prop} (I:Inv X pins Z H s) (e:H a=some (.ins C dx fs)) (c:vA X.K C) (n:dG X.K C f) (l:fs.lookup f=some v)
  (h:∀ u s',Inv X pins Z H s'->RelV v u->Q u s'):wpAny (model X.prog X.w) A (getAttr (.ref a) f b) Q E s:=by
 obtain ⟨mA,O,r,_,_,_⟩:=mJ I.hok e
 obtain ⟨u,hu,ru⟩:=gz.some_of (v:=v) (o:=mA f) (by rw [<- l];exact r f)
 exact get_map I.gO O (c.get f) c.hd n hu (u9 ru) (h u _ (I.tok _) ru)
theorem jZ {m:Str} {g:Addr} {pl:Sem Bool} {Q:Value×List Value->Shared->Prop} (I:Inv X pins Z H s) (e:H a=some (.ins C dx fs)) (c:vA X.K C) (k:Meth X.K C m g) (l:fs.lookup m=none)
  (h:Q (.ref g,[.ref a]) s):wpAny (model X.prog X.w) A (getMethod (.ref a) m pl) Q E s:=by
 obtain ⟨mA,O,r,_,_,_⟩:=mJ I.hok e
 have hn:mA m=none:=gz.none_of (by rw [<- l];exact r m)
 exact yb I.gO O (c.get m) k.at_ k.fn hn h
theorem qj {y:V} {u:Value} {Q:Unit->Shared->Prop} (I:Inv X pins Z H s) (e:H a=some (.ins C dx fs)) (c:vA X.K C) (n:dG X.K C f) (hl:fs.length<1000) (ry:RelV y u)
  (h:∀ s',Inv X pins Z (upd H a (.ins C dx (dw f y fs))) s'->Q () s'):wpAny (model X.prog X.w) A (setAttr (.ref a) f u) Q E s:=by
 obtain ⟨mA,O,r,wi,_,ho⟩:=mJ I.hok e
 have hz:(fs.map (·.1)).length<=sizeLine:=by rw [List.length_map,sizeLine_eq];omega
 refine zY I.gO O c.sa c.po n.G0 c.hd wi hz fun h' O' sb=>h _ ?_
 have hd:∃ o,h'.get? dx=some o:=let ⟨o,_,_,e',_⟩:=O'.ns;⟨o,e'⟩
 refine I.write (x:=a) (e:=dx) (by rw [e];exact True.intro) (.inr ho) (fun b q hb z=>(sb.2 b hb).trans z) hd ?_
 refine ⟨by rw [ao O.ne];exact ho,?_,O.ne,O'.obj,_,O'.ns,fun g=>?_,fun g hg=>?_⟩
 ·have:=iU f y fs;omega
 ·show gz ((dw f y fs).lookup g) (if g=f then some u else mA g)
  rw [iS]
  by_cases q:g=f
  ·rw [if_pos q,if_pos q];exact ry
  ·rw [if_neg q,if_neg q];exact r g
 ·by_cases q:g=f
  ·rw [q];exact (iC f y fs).1
  ·refine (iC f y fs).2 g (wi g fun z=>hg ?_)
   show (if g=f then some u else mA g)=none
   rw [if_neg q];exact z
theorem Inv.made (I:Inv X pins Z H s):Inv X pins Z (upd (upd H s.heap.objs.size (.own (s.heap.objs.size+1))) (s.heap.objs.size+1) (.ins C s.heap.objs.size []))
  { s with heap:=(s.heap.push PySem.W.emptyDict).push (PySem.W.instObj C s.heap.objs.size) }:=by
 have e1:(s.heap.push PySem.W.emptyDict).get? s.heap.objs.size=some PySem.W.emptyDict:=Heap.get?_push_size s.heap rfl
 have e2:((s.heap.push PySem.W.emptyDict).push (PySem.W.instObj C s.heap.objs.size)).get? (s.heap.objs.size+1)=some (PySem.W.instObj C s.heap.objs.size):=by
  have:=Heap.get?_push_size (s.heap.push PySem.W.emptyDict) (o:=PySem.W.instObj C s.heap.objs.size) rfl
  rwa [Heap.size_push] at this
 have e3:(s.heap.push PySem.W.emptyDict).Ns s.heap.objs.size (fun _=>none):=⟨PySem.W.emptyDict,#[],_,e1,rfl,(fun e he=>absurd he (by simp)),fun _=>rfl⟩
 have I1:=I.laid (a:=s.heap.objs.size) (o:=.own (s.heap.objs.size+1)) (h':=s.heap.push PySem.W.emptyDict) (t':=s.toks) (fun b u q=>Heap.get?_push_of_some _ q) (Nat.le_refl _) ⟨_,e1⟩
 refine I1.laid (a:=s.heap.objs.size+1) (o:=.ins C s.heap.objs.size []) (t':=s.toks) (fun b u q=>Heap.get?_push_of_some _ q) (Nat.le_of_eq (Heap.size_push _ _)) ?_
 have ne:s.heap.objs.size≠s.heap.objs.size+1:=Nat.ne_of_lt (Nat.lt_succ_self _)
 refine ⟨by rw [ao ne,ay],Nat.zero_le _,ne,e2,fun _=>none,(Heap.Ns1.of_empty e3).at fun o q=>Heap.get?_push_of_some _ q,fun _=>True.intro,fun y hy=>absurd rfl hy⟩
theorem BH {prog:Program} {w:World} {env:Env} {e:Expr} {f:Str} {pos:Pos} {s:Shared} {Q:Value->Shared->Prop} (hb:attributeBase e f env (eval e env)=eval e env)
  (h:wpAny (model prog w) A (eval e env) (fun o s₁=>wpAny (model prog w) A (getAttr o f true) Q E s₁) E s):wpAny (model prog w) A (eval (.Attribute e f pos) env) Q E s :=
 Attribute_any_ h (by rw [arm_eval_Attribute,hb])
end
noncomputable def Hg (K:PySem.W.Frag) (ta:TE) (f:Str):TE:=fun Z H Q=>ta Z H fun x H1=>∃ a C dx fs v,x=.ref a/\H1 a=some (.ins C dx fs)/\vA K C/\dG K C f/\fs.lookup f=some v/\Q v H1
noncomputable def Hz (K:PySem.W.Frag) (ta tv:TE) (f:Str):TS:=fun D Z H=>tv Z H fun y H1=>ta Z H1 fun x H2=>∃ a C dx fs,x=.ref a/\H2 a=some (.ins C dx fs)/\vA K C/\dG K C f/\fs.length<1000 /\
 D.nx Z (upd H2 a (.ins C dx (dw f y fs)))
section
variable {X:Cx} {o e value:Expr} {f:Str} {pos pos' tpos:Pos} {ta tv:TE}
theorem Ea (he:PE X e ta) (hb:attributeBase e f X.env (eval e X.env)=eval e X.env):PE X (.Attribute e f pos) (Hg X.K ta f):=by
 intro pins s Z H Q I h
 refine BH hb (aY (he pins s Z H _ I h) fun u s1 ⟨x,H1,I1,rx,a,C,dx,fs,v,ex,ea,c,n,l,q⟩=>?_)
 subst ex
 obtain rfl:u=Value.ref a:=rx
 exact qO I1 ea c n l fun u' s2 I2 ru=>⟨v,H1,I2,ru,q⟩
theorem DR (ha:PE X o ta) (hv:PE X value tv) (hs:swapsWith value (some (.Attribute o f pos')) pos.line X.env=pure false):PS X (.Assign [.Attribute o f pos'] value pos) (Hz X.K ta tv f):=by
 intro pins s Z H D I h
 refine plainObj_wpAny_Assign_Attribute (aY (hv pins s Z H _ I h) fun u s1 ⟨y,H1,I1,ry,q⟩=>aY (ha pins s1 Z H1 _ I1 q) fun ov s2 ⟨x,H2,I2,rx,a,C,dx,fs,ex,ea,c,n,l,q2⟩=>?_) hs
 subst ex
 obtain rfl:ov=Value.ref a:=rx
 exact qj I2 ea c n l ry fun s3 I3=>⟨Z,_,I3,q2⟩
end
section
variable {X:Cx} {pins:List (Addr×Obj)} {Z:St} {H:Hp} {s:Shared} {A:Around} {E:Value->Shared->Prop} {Q:Value->Shared->Prop} {c:Value} {b:Bool}
end
structure cX (k:Nat) (A:Around):Prop where
 hd:A.handled=none
 dp:A.depth+3*k+5<recursionLimit
 un:A.units+16*k+200<cLine
theorem cX.deeper {k:Nat} {A:Around} (r:cX (k+1) A) (env:Env):cX k (A.deeper env) :=
 ⟨r.hd,by have:=r.dp;show A.depth+1+3*k+5<_;omega,by have:=r.un;show A.units+3+16*k+200<_;omega⟩
theorem qD {A:Around} {C:Addr} {us:List Value} {kw:List (Str×Value)}:(A.under (.builtin "type.__call__" ⟨.ref C::us, kw⟩)).depth=A.depth+1:=by
 first | rfl | simp [Around.under,Code.weight,Code.isCreation,Code.isGuard,Code.isCaller,Code.frames,Code.isFrame,guardIds]
theorem qC {A:Around} {C:Addr} {us:List Value} {kw:List (Str×Value)}:(A.under (.builtin "type.__call__" ⟨.ref C::us, kw⟩)).units=A.units+1:=by
 first | rfl | simp [Around.under,Code.cUnits,Code.frames,Code.isFrame]
theorem cX.make {k:Nat} {A:Around} (r:cX (k+1) A) (C:Addr) (us:List Value) (kw:List (Str×Value)):cX k (A.under (.builtin "type.__call__" ⟨.ref C::us, kw⟩)) :=
 ⟨r.hd,by have:=r.dp;rw [qD];omega,by have:=r.un;rw [qC];omega⟩
theorem cX.depth {k:Nat} {A:Around} (r:cX k A):A.depth<recursionLimit:=by have:=r.dp;omega
noncomputable def lU:TA:=fun _ H Q=>Q [] H
noncomputable def jy (ta:TE) (tr:TA):TA:=fun Z H Q=>ta Z H fun x H1=>tr Z H1 fun xs H2=>Q (x::xs) H2
section
variable {X:Cx} {e:Expr} {es:List Expr} {te:TE} {t:TA} {pos:Pos}
theorem gk:PA X [] lU:=fun _ _ _ _ H Q I h=>Calls.spliced_nil ⟨[],H,I,.nil,h⟩
theorem c7 (ha:PE X e te) (hr:PA X es t) (hs:starEach (e::es) X.env=(false,eval e X.env)::starEach es X.env:=by rfl):PA X (e::es) (jy te t):=by
 intro pos pins s Z H Q I h
 rw [hs]
 show wpAny _ _ (spliced ((false,eval e X.env)::backTo pos (starEach es X.env))) _ _ s
 refine Calls.spliced_cons (aY (ha pins s Z H _ I h) fun u s1 ⟨x,H1,I1,r1,q1⟩=>?_)
 exact aY (hr pos pins s1 Z H1 _ I1 q1) fun us s2 ⟨xs,H2,I2,r2,q2⟩=>⟨x::xs,H2,I2,.cons r1 r2,q2⟩
noncomputable def G2 (t:TA):TE:=fun Z H Q=>t Z H fun xs H1=>xs.length<=sizeLine/\∀ p,H1 p=none->Q (.ref p) (upd H1 p (.tup xs))
noncomputable def G8 (t:TA):TE:=fun Z H Q=>t Z H fun xs H1=>xs.length<=sizeLine/\∀ p,H1 p=none->Q (.ref p) (upd H1 p (.lst xs))
theorem D3 {x1} (h:PA X es t):PE X (.Tuple es x1 pos) (G2 t):=by
 intro pins s Z H Q I hq
 refine wpAny_Tuple_spliced (aY (h pos pins s Z H _ I hq) fun us s1 ⟨xs,H1,I1,r,z,q⟩=>⟨by rw [<- r.length];exact z,?_⟩)
 have hf:H1 s1.heap.objs.size=none:=I1.hok.fresh (Nat.le_refl _)
 refine ⟨.ref s1.heap.objs.size,upd H1 s1.heap.objs.size (.tup xs),I1.laid (t':=s1.toks) (fun b u e=>Heap.get?_push_of_some _ e) (Nat.le_refl _) ?_,rfl,q _ hf⟩
 exact ⟨z,us,r,⟨_,Heap.get?_push_size _ rfl,rfl,_,rfl⟩⟩
theorem D8 (h:PA X es t):PE X (.List es pos) (G8 t):=by
 intro pins s Z H Q I hq
 refine wpAny_List_spliced (aY (h pos pins s Z H _ I hq) fun us s1 ⟨xs,H1,I1,r,z,q⟩=>⟨by rw [<- r.length];exact z,?_⟩)
 have hf:H1 s1.heap.objs.size=none:=I1.hok.fresh (Nat.le_refl _)
 refine ⟨.ref s1.heap.objs.size,upd H1 s1.heap.objs.size (.lst xs),I1.laid (t':=s1.toks) (fun b u e=>Heap.get?_push_of_some _ e) (Nat.le_refl _) ?_,rfl,q _ hf⟩
 exact ⟨z,us,0,r,Heap.get?_push_size _ rfl⟩
end
noncomputable abbrev Sp:=List V->Hp->VK->XK->Prop
noncomputable abbrev yU:=List Env->Hp->Shared->XK->Value->Shared->Prop
structure rM (P:Program) (w:World) (K:PySem.W.Frag) (mg:Str->Option Value) (base:Heap) (A:Around) (outer:List Env) (s:Shared) (H:Hp):Prop where
 frames:A.frames=some outer
 mod:Mod K mg base
 bs:∀ b o,base.get? b=some o->s.heap.get? b=some o/\H b=none
 vE:base.objs.size<=s.heap.objs.size
 gr:s.heap.FunFrames base outer
 zb:∀ b∈frs outer,H b=none
 hok:gb P w H s.heap
 bare:AllBare s.gens
noncomputable def CE (outer:List Env) (P:Program) (w:World) (H:Hp) (s:Shared) (Q:VK) (u:Value) (s':Shared):Prop :=
 ∃ v H',s'.os=s.os/\AllBare s'.gens/\Un (frs outer) [] H H' s.heap s'.heap/\gb P w H' s'.heap/\RelV v u/\Q v H'
noncomputable def CR (CX:yU) (outer:List Env) (P:Program) (w:World) (H:Hp) (s:Shared) (Q:VK) (E:XK) (r:Result) (s':Shared):Prop :=
 match r with
 | .ok (.ret u)=>CE outer P w H s Q u s'
 | .ok _=>False
 | .error e=>CX outer H s E e s'
structure cG (P:Program) (w:World) (K:PySem.W.Frag) (mg:Str->Option Value) (base:Heap) (CX:yU) (k:Nat) (f:Addr) (fd:FuncData) (ps:List Str) (sp:Sp):Prop where
 len:∀ vs H Q E,sp vs H Q E->vs.length=ps.length
 run:∀ (A:Around) (outer:List Env) (s:Shared) (H:Hp) (args:Args) (us:List Value) (vs:List V) (Q:VK) (E:XK),cX k A->rM P w K mg base A outer s H->BindsTo s fd args (ps.zip us)->Vals vs us->sp vs H Q E ->
  codeAny (model P w) A (.call (.ref f) args) (CR CX outer P w H s Q E) s
theorem cG.imp {P:Program} {w:World} {K:PySem.W.Frag} {mg:Str->Option Value} {base:Heap} {CX:yU} {k:Nat} {f:Addr} {fd:FuncData} {ps:List Str} {sp sp':Sp} (F:cG P w K mg base CX k f fd ps sp)
  (h:∀ vs H Q E,sp' vs H Q E->sp vs H Q E):cG P w K mg base CX k f fd ps sp' :=
 ⟨fun vs H Q E q=>F.len vs H Q E (h _ _ _ _ q),fun A outer s H args us vs Q E hr he hb hv hs=>F.run A outer s H args us vs Q E hr he hb hv (h _ _ _ _ hs)⟩
theorem rM.make {P:Program} {w:World} {K:PySem.W.Frag} {mg:Str->Option Value} {base:Heap} {A:Around} {outer:List Env} {s:Shared} {H:Hp} (e:rM P w K mg base A outer s H) (C:Addr) (us:List Value) (kw:List (Str×Value)) :
  rM P w K mg base (A.under (.builtin "type.__call__" ⟨.ref C::us, kw⟩)) outer s H:=⟨by first | exact e.frames | (simpa [Around.under, Code.envs, Code.isFrame, pushEnvs] using e.frames), e.mod, e.bs, e.vE, e.gr, e.zb, e.hok, e.bare⟩
section
variable {X:Cx} {pins:List (Addr×Obj)} {Z:St} {H:Hp} {s s':Shared}
theorem Inv.kL (I:Inv X pins Z H s):rM X.prog X.w X.K X.mg X.base X.A X.stack s H :=
 ⟨I.ok.frames,I.ok.mod,I.bs,Nat.le_trans I.ok.vE I.sz,I.stack,I.fL,I.hok,I.bare⟩
theorem Inv.after {Q:VK} {u:Value} (I:Inv X pins Z H s) (h:CE X.stack X.prog X.w H s Q u s'):EP X pins Z Q u s':=by
 obtain ⟨v,H',os,bare,un,hok,r,q⟩:=h
 obtain ⟨hh,g,d,t,os'⟩:=s'
 obtain rfl:os'=s.os:=os
 exact ⟨v,H',I.call (h':=hh) (g':=g) (d':=d) (t':=t) (ch:=[]) un hok bare (fun b z=>absurd z (by simp)),r,q⟩
end
noncomputable def Binds (K:PySem.W.Frag) (fd:FuncData) (ps:List Str) (ds:List Value):Prop :=
 ∀ (s:Shared) (us:List Value),K.In s.heap->(us++ds).length=ps.length->BindsTo s fd ⟨us,[]⟩ (ps.zip (us++ds))
theorem Binds.all {K:PySem.W.Frag} {fd:FuncData} {ps:List Str} (h:∀ us:List Value,us.length=ps.length->bindArgs fd ⟨us,[]⟩=pure (ps.zip us)):Binds K fd ps []:=fun s us _ hl=>by
 rw [List.append_nil] at hl ⊢
 exact .of_eq (h us hl)
section
variable {X:Cx} {CX:yU} {k:Nat} {f C:Addr} {fd:FuncData} {ps:List Str} {sp:Sp} {dvs:List V} {ds:List Value} {E:XK} {x m:Str} {p pos apos:Pos} {e o:Expr} {es:List Expr} {ta:TE} {t:TA}
structure Mk (K:PySem.W.Frag) (C f:Addr):Prop where
 makes:PySem.W.makesIn K C=true
 init:PySem.W.findIn K (.ref C) "__init__" = some (some (.ref f))
 fn:PySem.W.isFn K (.ref f)=true
 kp:PySem.W.keepIn K (.ref C)=true
end
section
variable {X:Cx} {CX:yU} {k:Nat} {f C:Addr} {fd:FuncData} {ps ks:List Str} {sp:Sp} {E:XK} {x m:Str} {p pos apos kpos:Pos} {e o:Expr} {es:List Expr} {kws:List Keyword} {te ta:TE} {t tk:TA} {nm:Option Str}
variable {g:List Value->List Value->List Value} {gV:List V->List V->List V}
end
structure dj (N P:List Str) (sc:Scope):Prop where
 kind:sc.kind=.function
 co:sc.isCoroutine=false
 gen:sc.isGenerator=false
 nd:N.Nodup
 pre:N.take P.length=P
 par:∀ x∈P,sc.names.lookup x=some .local\/sc.names.lookup x=some .cell
 Ez:∀ y∈sc.names,y.2≠.free
theorem lN {kindOf:Str->Option NameKind} {x:Str}:∀ {binds:List (Str×Value)} {m:Str->Option Value},(∀ v,(x,v)∉binds)->bindL kindOf binds m x=m x
 | [],_,_=>rfl
 | (n, v)::r, m, h=>by
  unfold bindL
  rw [lN fun w hw=>h w (List.mem_cons_of_mem _ hw)]
  split
  ·have:x≠n:=by rintro rfl;exact h v List.mem_cons_self
   simp [this]
  ·rfl
theorem lP {kindOf:Str->Option NameKind} {x:Str}:∀ {binds:List (Str×Value)} {m:Str->Option Value},(∀ v,(x,v)∉binds)->bindC kindOf binds m x=m x
 | [],_,_=>rfl
 | (n, v)::r, m, h=>by
  unfold bindC
  rw [lP fun w hw=>h w (List.mem_cons_of_mem _ hw)]
  split
  ·rfl
  ·have:x≠n:=by rintro rfl;exact h v List.mem_cons_self
   simp [this]
theorem lO {kindOf:Str->Option NameKind} {x:Str} {v:Value}:∀ {P:List Str} {vs:List Value} {i:Nat} {m:Str->Option Value},P.Nodup->P[i]? = some x->vs[i]? = some v->kindOf x=some .local ->
  bindL kindOf (P.zip vs) m x=some v
 | [],_,_,_,_,h,_,_=>by simp at h
 | _::_,[],_,_,_,_,h,_=>by simp at h
 | p::P,w::vs,0,m,nd,h1,h2,hk=>by
  simp at h1 h2;subst h1;subst h2
  show bindL kindOf ((p,w)::P.zip vs) m p=_
  unfold bindL
  rw [lN fun v hv=>(List.nodup_cons.mp nd).1 (List.of_mem_zip hv).1,if_pos hk]
  simp
 | p::P,w::vs,i+1,m,nd,h1,h2,hk=>by
  show bindL kindOf ((p,w)::P.zip vs) m x=_
  unfold bindL
  exact lO (i:=i) (List.nodup_cons.mp nd).2 (by simpa using h1) (by simpa using h2) hk
theorem lQ {kindOf:Str->Option NameKind} {x:Str} {v:Value}:∀ {P:List Str} {vs:List Value} {i:Nat} {m:Str->Option Value},P.Nodup->P[i]? = some x->vs[i]? = some v->kindOf x≠some .local ->
  bindC kindOf (P.zip vs) m x=some v
 | [],_,_,_,_,h,_,_=>by simp at h
 | _::_,[],_,_,_,_,h,_=>by simp at h
 | p::P,w::vs,0,m,nd,h1,h2,hk=>by
  simp at h1 h2;subst h1;subst h2
  show bindC kindOf ((p,w)::P.zip vs) m p=_
  unfold bindC
  rw [lP fun v hv=>(List.nodup_cons.mp nd).1 (List.of_mem_zip hv).1,if_neg hk]
  simp
 | p::P,w::vs,i+1,m,nd,h1,h2,hk=>by
  show bindC kindOf ((p,w)::P.zip vs) m x=_
  unfold bindC
  exact lQ (i:=i) (List.nodup_cons.mp nd).2 (by simpa using h1) (by simpa using h2) hk
noncomputable def start (N:List Str) (vs:List V):St:=vs.map some++List.replicate (N.length-vs.length) none
noncomputable def g8 (CX:yU) (P:Program) (w:World) (K:PySem.W.Frag) (mg:Str->Option Value) (base:Heap) (N:List Str) (qual:Str) (scope:Scope) (f:Addr) (cd:Value) (A:Around) (outer:List Env) (s:Shared) (H:Hp) (E:XK):Cx where
 prog:=P
 w:=w
 K:=K
 mg:=mg
 base:=base
 A:=A.deeper (envOfC qual scope s.heap.objs.size f cd)
 N:=N
 s₀:=s
 H₀:=H
 env:=envOfC qual scope s.heap.objs.size f cd
 outer:=outer
 stack:=envOfC qual scope s.heap.objs.size f cd::outer
 ex:=[]
 calm:=true
 fn:=fun _=>true
 pn:=[]
 xe:=fun e s'=>wpAny (model P w) (A.deeper (envOfC qual scope s.heap.objs.size f cd)) (leaving (envOfC qual scope s.heap.objs.size f cd) e) (fun _ s''=>CX outer H s E e s'') (fun e' s''=>CX outer H s E e' s'') s'
theorem pO {sc:Scope} {n:Nat} {x:Str} (h:sc.names.lookup x=some .cell):∃ c,(cellsFrom n sc.names []).lookup x=some c:=by
 have q:=PySem.W.cellsFrom_some sc.names n [] (.inl h)
 exact Option.isSome_iff_exists.mp q
theorem u0 {CX:yU} {P:Program} {w:World} {K:PySem.W.Frag} {mg:Str->Option Value} {base:Heap} {N ps:List Str} {qual:Str} {scope:Scope} {f:Addr} {cd:Value} {A:Around} {outer:List Env} {s s1:Shared} {H:Hp} {E:XK} {us:List Value} {vs:List V}
  (S:dj N ps scope) (hd:A.handled=none) (e0:rM P w K mg base A outer s H) (hl:vs.length=ps.length) (r:Vals vs us)
  (x:InCallC s s.heap.objs.size (bindL (envOfC qual scope s.heap.objs.size f cd).kindOf (ps.zip us) fun _=>none) (cellsFrom (s.heap.objs.size+1) scope.names []) (bindC (envOfC qual scope s.heap.objs.size f cd).kindOf (ps.zip us) fun _=>none) s1) :
  Inv (g8 CX P w K mg base N qual scope f cd A outer s H E) [] (start N vs) H s1:=by
 have hpl:ps.length<=N.length:=by have:=congrArg List.length S.pre;rw [List.length_take] at this;omega
 obtain ⟨h1,tk,rfl,hk⟩:=x.done
 have Ir:∀ b:Addr,b∉(g8 CX P w K mg base N qual scope f cd A outer s H E).ex:=fun b z=>absurd (show b∈([]:List Addr) from z) (by simp)
 refine ⟨⟨e0.mod,S.kind,rfl,rfl,Nat.le_refl _,fun y z c h1 h2=>?_,fun y hy=>?_,fun y c _ h=>?_,fun _=>hd,Around.frames_deeper e0.frames,.inr ⟨rfl,rfl⟩,fun b z=>absurd z (Ir b),e0.bs,e0.vE,fun b _ _=>Ir b,fun b z=>absurd z (Ir b),e0.gr,e0.zb⟩,
  rfl,e0.bare,Un.kept hk,⟨_,x.toInCall.ns,fun i y v h1 h2 h3=>?_⟩,fun y c h=>⟨_,x.cell y c h⟩,e0.hok.fresh (Nat.le_refl _),fun y c h=>?_,fun p hp=>absurd (show p∈([]:List (Addr×Obj)) from hp) (by simp),e0.hok.kept hk,?_⟩
 ·exact name_of_addr x.apart (PySem.mem_of_lookup h1) (PySem.mem_of_lookup h2)
 ·have hy:scope.names.lookup y=some .cell\/scope.names.lookup y=some .free:=hy
  rcases hy with hy | hy
  ·exact pO hy
  ·exact absurd rfl (S.Ez _ (PySem.mem_of_lookup hy))
 ·exact Nat.le_of_lt (x.above y c (PySem.mem_of_lookup h))
 ·have hi:i<vs.length:=by
   unfold start at h2
   by_cases hi:i<vs.length
   ·exact hi
   ·rw [List.getElem?_append_right (by simpa using hi)] at h2
    rw [List.getElem?_replicate] at h2
    split at h2 <;> cases h2
  have ha:vs[i]? = some v:=by
   unfold start at h2
   rw [List.getElem?_append_left (by simpa using hi),List.getElem?_map] at h2
   cases e:vs[i]? with
   | none=>rw [e] at h2;cases h2
   | some a=>rw [e] at h2;cases h2;rfl
  obtain ⟨u,hu,rv⟩:=r.get ha
  have hp:ps[i]? = some y:=by
   rw [<- S.pre,List.getElem?_take_of_lt (by omega)];exact h1
  have ndP:ps.Nodup:=by rw [<- S.pre];exact S.nd.sublist (List.take_sublist _ _)
  refine ⟨u,rv,?_⟩
  rcases S.par y (List.mem_of_getElem? hp) with k | k
  ·exact .inl ⟨k,lO ndP hp hu k⟩
  ·obtain ⟨c,e⟩:=pO (n:=s.heap.objs.size+1) k
   refine .inr ⟨.inl k,c,e,?_⟩
   have q:=x.cell y c e
   rw [lQ ndP hp hu (by show scope.names.lookup y≠_;rw [k];decide)] at q
   exact q
 ·exact e0.hok.fresh (Nat.le_of_lt (x.above y c (PySem.mem_of_lookup h)))
 ·unfold start
  show _=N.length
  rw [List.length_append,List.length_map,List.length_replicate]
  omega
theorem CC {CX:yU} {P:Program} {w:World} {K:PySem.W.Frag} {mg:Str->Option Value} {base:Heap} {k:Nat} {f:Addr} {name qual:Str} {params:Arguments} {body:List Stmt} {scope:Scope} {dV kV doc pm cdv ct oc:Value} {an od:Option Addr}
  {osl:Array (Option Value)} {N ps:List Str} {sp:Sp} (lk:K.lookup f=some ⟨oc,od,.func (PySem.W.fnOf name qual params body scope dV kV doc pm an cdv ct),osl⟩) (hcd:PySem.W.codeIn K cdv qual=true) (S:dj N ps scope)
  (len:∀ vs H Q E,sp vs H Q E->vs.length=ps.length)
  (hbody:∀ (A:Around) (outer:List Env) (s:Shared) (H:Hp) (vs:List V) (Q:VK) (E:XK),cX k (A.deeper (envOfC qual scope s.heap.objs.size f cdv))->sp vs H Q E ->
   ∃ t,jt (g8 CX P w K mg base N qual scope f cdv A outer s H E) body t/\t { nx:=fun _ H'=>Q .ak H',rt:=Q } (start N vs) H) :
  cG P w K mg base CX (k+1) f (PySem.W.fnOf name qual params body scope dV kV doc pm an cdv ct) ps sp:=by
 refine ⟨len,fun A outer s H args us vs Q E hr e0 hb r GK=>?_⟩
 have hl:=len _ _ _ _ GK
 have KX:K.In s.heap:=e0.mod.Cr.keeps fun b o e=>(e0.bs b o e).1
 have lim:s.heap.NoLimit:=e0.mod.nolimit.keeps fun b o e=>(e0.bs b o e).1
 have hkind:∀ y∈ps.zip us,scope.names.lookup y.1=some .local\/(scope.names.lookup y.1=some .cell/\((cellsFrom (s.heap.objs.size+1) scope.names []).lookup y.1).isSome=true):=fun ⟨n,v⟩ hy=>by
  rcases S.par n (List.of_mem_zip hy).1 with q | q
  ·exact .inl q
  ·exact .inr ⟨q,PySem.W.cellsFrom_some _ _ _ (.inl q)⟩
 refine codeAny_call_function hr.depth (KX _ _ lk) rfl S.co S.gen rfl (PySem.W.codeRec_of KX hcd) (hb _ _ _ _ ?_)
 refine wpAny_newFunctionEnv_cells S.kind hkind fun env he s1 x=>?_
 subst he
 refine ⟨lim.keeps x.toInCall.keep,codeAny_func ?_⟩
 obtain ⟨t,ht,hq⟩:=hbody A outer s H vs Q E (hr.deeper _) GK
 have I:Inv (g8 CX P w K mg base N qual scope f cdv A outer s H E) [] (start N vs) H s1:=u0 S hr.hd e0 hl r x
 refine wpAny_mono (ht [] s1 (start N vs) H _ I hq) (fun fl s' hs=>?_) fun e s' hs=>hs
 have fin:∀ {Z':St} {H':Hp} {v:V} {u:Value},Inv (g8 CX P w K mg base N qual scope f cdv A outer s H E) [] Z' H' s'->RelV v u->Q v H'->CE outer P w H s Q u s' :=
  fun {Z' H' v u} J rv q=>⟨v,H',J.os,J.bare,J.base,J.hok,rv,q⟩
 cases fl with
 | ret u =>
  obtain ⟨v,Z',H',J,rv,q⟩:=hs
  exact fin J rv q
 | next =>
  obtain ⟨Z',H',J,q⟩:=hs
  exact fin (v:=V.ak) (u:=Value.none) J rfl q
 | brk =>
  obtain ⟨_,_,_,q⟩:=hs
  exact False.elim q
 | cont =>
  obtain ⟨_,_,_,q⟩:=hs
  exact False.elim q
section
variable {X:Cx} {x:Str} {p pos:Pos} {e:Expr} {es:List Expr} {t:TA} {id T:String} {r:List V->Hp->VK->Prop}
noncomputable def Hh (r:List V->Hp->VK->Prop) (t:TA):TE:=fun Z H Q=>t Z H fun vs H1=>r vs H1 Q
theorem jL (hc:dm X (.builtin id) r) (hg:Gl X x) (hm:X.mg x=none) (hv:bootBuiltins x=some (.builtin id)) (ha:PA X (e::es) t) (hn:x≠"__name__":=by decide) (hdb:(x == ("__debug__" : Str))=false:=by decide)
  (he:starEach (e::es) X.env=(false,eval e X.env)::starEach es X.env:=by rfl) (hpl:(backTo pos (starEach es X.env)).any (·.1)=false:=by rfl):PE X (.Call (.Name x p) (e::es) [] pos) (Hh r t):=by
 intro pins s Z H Q I h
 refine wpAny_Call_Name_kw (jU I hg hm hv ?_ hn hdb)
 exact PyProof.Rows.callWith_builtin1 (aY (ha pos pins s Z H _ I h) fun us s1 ⟨vs,H1,I1,r1,q1⟩=>hc pins s1 Z H1 vs us Q I1 r1 q1) he hpl
theorem lq (hc:dm X (.type T) r) (hg:Gl X x) (hm:X.mg x=none) (hv:bootBuiltins x=some (.type T)) (ha:PA X (e::es) t) (hn:x≠"__name__":=by decide) (hdb:(x == ("__debug__" : Str))=false:=by decide)
  (he:starEach (e::es) X.env=(false,eval e X.env)::starEach es X.env:=by rfl) (hpl:(backTo pos (starEach es X.env)).any (·.1)=false:=by rfl):PE X (.Call (.Name x p) (e::es) [] pos) (Hh r t):=by
 intro pins s Z H Q I h
 refine wpAny_Call_Name_kw (jU I hg hm hv ?_ hn hdb)
 exact PyProof.Rows.callWith_type1 (aY (ha pos pins s Z H _ I h) fun us s1 ⟨vs,H1,I1,r1,q1⟩=>hc pins s1 Z H1 vs us Q I1 r1 q1) he hpl
end
end L2
namespace HT
open PySem PyProof.Rows
section
open PySem.SeqAt
open PySem.AutoSeq1 (wpAny_loadPart')
open PySem.MeetsSeq PySem.MeetsSeq2 PySem.MeetsSeq3
end
section
variable {prog:Program} {w:World} {A:Around} {E:Value->Shared->Prop} {s:Shared}
theorem By {t b:Addr} {vs ws:List Value} {Q:Value->Shared->Prop} (ht:IsTup s.heap t vs.toArray) (hb:IsTup s.heap b ws.toArray) (hv:vs≠[])
  (h1:ws=[]->Q (.ref t) s) (h2:ws≠[]->Q (.ref s.heap.objs.size) { s with heap:=s.heap.push { cls:=.type "tuple", data:=.seq (vs++ws).toArray } })
  (hsz:vs.length+ws.length<=sizeLine):wpAny (model prog w) A (binaryOp .Add (.ref t) (.ref b)) Q E s:=by
 obtain ⟨⟨cls,dd,data,sl⟩,ho,hc,n,hd⟩:=id ht
 obtain ⟨⟨JB,dd2,data2,sl2⟩,ho2,hc2,n2,hd2⟩:=id hb
 simp only at hc hd hc2 hd2
 subst hc hd hc2 hd2
 have e:vs.toArray++ws.toArray=(vs++ws).toArray:=by simp
 by_cases hw:ws=[]
 ·exact concat_meets ⟨_,ho,rfl⟩ ⟨_,ho2,rfl⟩ noFill_tuple_add seq_tuple_add PySem.F.slot_tuple_add PySem.F.entry_tuple_add (PySem.F.args_tuple_add_2 _ _)
   (tuple_addW1 t b vs.toArray ws.toArray n n2 dd dd2 sl sl2 (by simpa using hv) (by simp [hw])) ⟨ho,ho2,h1 hw⟩
 ·refine concat_meets ⟨_,ho,rfl⟩ ⟨_,ho2,rfl⟩ noFill_tuple_add seq_tuple_add PySem.F.slot_tuple_add PySem.F.entry_tuple_add (PySem.F.args_tuple_add_2 _ _)
   (tuple_addW2 t b vs.toArray ws.toArray n n2 dd dd2 sl sl2 (by simpa using hv) (by simpa using hw) (by rw [List.size_toArray,List.size_toArray];exact hsz)) ⟨ho,ho2,?_⟩
  rw [e]
  exact h2 hw
noncomputable def cu (n d:Nat):Option Int->Nat
 | none=>d
 | some v=>if v<0 then (v+(n:Int)).toNat else min v.toNat n
theorem Dz (n d:Nat) (hd:d<=n) (o:Option Int):cu n d o<=n:=by
 cases o with
 | none=>exact hd
 | some v =>
  show (if v<0 then (v+(n:Int)).toNat else min v.toNat n)<=n
  by_cases hv:v<0
  ·rw [if_pos hv];omega
  ·rw [if_neg hv];exact Nat.min_le_right _ _
theorem ud (v:Int) (n d:Nat):(if v<0 then max (v+(n:Int)) 0 else min v (n:Int))=((cu n d (some v):Nat):Int):=by
 show (if v<0 then max (v+(n:Int)) 0 else min v (n:Int))=(((if v<0 then (v+(n:Int)).toNat else min v.toNat n):Nat):Int)
 by_cases hv:v<0
 ·simp only [if_pos hv];omega
 ·simp only [if_neg hv];omega
theorem rJ (lo hi:Option Int) (n:Nat):Builtin.Slice.sliceAdjust lo hi 1 (n:Int)=(((cu n 0 lo:Nat):Int),((cu n n hi:Nat):Int)):=by
 have h1:¬ ((1:Int)<0):=by omega
 unfold Builtin.Slice.sliceAdjust
 simp only [h1,if_false]
 refine Prod.ext ?_ ?_
 ·cases lo with
  | none=>rfl
  | some v=>exact ud v n 0
 ·cases hi with
  | none=>rfl
  | some v=>exact ud v n n
theorem qt (i j:Nat):Builtin.Slice.slicePlaces (i:Int) (j:Int) 1=j-i:=by
 unfold Builtin.Slice.slicePlaces
 have h1:(1:Int) > 0:=by omega
 simp only [h1,if_true,Int.ediv_one]
 split <;> omega
theorem jz {v:Value} {o:Option Int} {Q:Option Int->Shared->Prop} (p:IsPart v o) (h:Q o s):wpAny (model prog w) A (Builtin.Slice.slicePartIndex v) Q E s:=by
 cases p with
 | none=>exact slicePart_none h
 | int i t=>exact slicePart_int h
theorem iu {sl:Addr} {vl vu:Value} {lo hi:Option Int} {n:Nat} {Q:Int×Int×Nat->Shared->Prop} (hs:s.heap.IsSliceOf sl vl vu .none) (pl:IsPart vl lo) (pu:IsPart vu hi)
  (h:Q (((cu n 0 lo:Nat):Int),1,cu n n hi-cu n 0 lo) s):wpAny (model prog w) A (Builtin.Slice.sliceApplied (.ref sl) (pure (n:Int))) Q E s:=by
 obtain ⟨os,hos,hcs,hds⟩:=id hs
 unfold Builtin.Slice.sliceApplied Builtin.Slice.sliceFields
 refine wpAny_bind (wpAny_bind (wpAny_field hos hds (x:=vl) rfl (wpAny_bind (wpAny_field hos hds (x:=vu) rfl (wpAny_bind (wpAny_field hos hds (x:=.none) rfl (wpAny_pure ?_)))))))
 refine wpAny_bind (slicePart_none ?_)
 show wpAny _ _ (if ((1:Int) == 0)=true then _ else _) _ _ s
 rw [if_neg (by decide)]
 refine wpAny_bind (jz pl (wpAny_bind (jz pu (wpAny_bind (wpAny_pure ?_)))))
 show wpAny _ _ (match Builtin.Slice.sliceAdjust lo hi 1 (n:Int) with | (lo,hi)=>pure (lo,(1:Int),Builtin.Slice.slicePlaces lo hi 1)) _ _ s
 rw [rJ lo hi n]
 show wpAny _ _ (pure (((cu n 0 lo:Nat):Int),(1:Int),Builtin.Slice.slicePlaces ((cu n 0 lo:Nat):Int) ((cu n n hi:Nat):Int) 1)) _ _ s
 rw [qt]
 exact wpAny_pure h
theorem wL (xs:Array Value) (i k:Nat):((List.range k).filterMap fun (m:Nat)=>xs[((i:Int)+(m:Int)*1).toNat]?).toArray=((xs.toList.drop i).take k).toArray:=by
 have e:(fun (m:Nat)=>xs[((i:Int)+(m:Int)*1).toNat]?)=fun m=>xs[i+m]?:=by
  funext m
  have:((i:Int)+(m:Int)*1).toNat=i+m:=by omega
  rw [this]
 rw [e]
 have:=pick_run xs i k
 rw [List.filterMap_map] at this
 have e2:((fun x=>xs[x]?) ∘ fun x=>i+x)=fun m=>xs[i+m]?:=rfl
 rw [e2] at this
 rw [this]
theorem gQ {t sl:Addr} {items:Array Value} {vl vu:Value} {lo hi:Option Int} {Q:Value->Shared->Prop} (ht:IsTup s.heap t items) (hs:s.heap.IsSliceOf sl vl vu .none) (pl:IsPart vl lo) (pu:IsPart vu hi)
  (hw:¬ (cu items.size 0 lo=0/\cu items.size items.size hi=items.size))
  (h:Q (.ref s.heap.objs.size) { s with heap:=s.heap.push { cls:=.type "tuple", data:=.seq ((items.toList.drop (cu items.size 0 lo)).take (cu items.size items.size hi-cu items.size 0 lo)).toArray } })
  (hsz:items.size<=sizeLine):wpAny (model prog w) A (getItem (.ref t) (.ref sl)) Q E s:=by
 have tK:sizeOk (.seq ((items.toList.drop (cu items.size 0 lo)).take (cu items.size items.size hi-cu items.size 0 lo)).toArray):=by
  show ((items.toList.drop (cu items.size 0 lo)).take (cu items.size items.size hi-cu items.size 0 lo)).toArray.size<=sizeLine
  rw [List.size_toArray,List.length_take,List.length_drop,Array.length_toList]
  omega
 have hj:cu items.size items.size hi<=items.size:=Dz _ _ (Nat.le_refl _) hi
 obtain ⟨os,hos,hcs,hds⟩:=id hs
 have hTs:s.TypeIs (.ref sl) "slice":=⟨os, hos, hcs⟩
 unfold getItem
 try with_reducible refine wpAny_holding ?_
 first | refine wpAny_bind (wpAny_pure ?_) | skip
 refine wpAny_bind (wpAny_sequenceKey ht.typeIs (by decide) ?_)
 refine wpAny_bind (wpAny_callSpecial?_slot (name:=Str.ofString "__getitem__") ht.typeIs PyProof.Rows.slot_tuple_getitem
  (wpAny_call_entry PyProof.Rows.slot_tuple_getitem ht.typeIs entry_tuple_getitem ?_ (args_tuple_getitem _ _)))
 show wpAny _ _ (Builtin.Tuple.tupleItemsOf (.ref t) >>= _) _ _ s
 refine wpAny_bind (tupleItemsOf_ ht ?_)
 refine wpAny_bind (wpAny_typeOf hTs ?_)
 rw [if_pos (by decide)]
 refine wpAny_bind (iu hs pl pu ?_)
 have hno:¬ ((((cu items.size 0 lo:Nat):Int) == 0&&(1:Int) == 1&&(cu items.size items.size hi-cu items.size 0 lo) == items.size)=true):=by
  intro q
  rw [Bool.and_eq_true,Bool.and_eq_true] at q
  have q1:((cu items.size 0 lo:Nat):Int)=0:=eq_of_beq q.1.1
  have q2:cu items.size items.size hi-cu items.size 0 lo=items.size:=eq_of_beq q.2
  exact hw ⟨by omega,by omega⟩
 show wpAny _ _ (if (((cu items.size 0 lo:Nat):Int) == 0&&(1:Int) == 1&&(cu items.size items.size hi-cu items.size 0 lo) == items.size)=true then _ else _) _ _ s
 rw [if_neg hno,wL]
 first
  | exact wpAny_bind (m:=Builtin.Tuple.tupleExact _) (wpAny_newObj_type (wpAny_pure ⟨_,rfl,wpAny_pure h⟩) tK)
  | exact wpAny_bind (m:=Builtin.Tuple.tupleExact _) (wpAny_newObj_type (wpAny_bind (wpAny_pure (wpAny_pure ⟨_,rfl,wpAny_pure h⟩))) tK)
  | exact wpAny_bind (wpAny_bind (m:=Builtin.Tuple.tupleExact _) (wpAny_newObj_type (wpAny_pure (wpAny_pure ⟨_,rfl,wpAny_pure h⟩)) tK))
  | exact wpAny_bind (wpAny_bind (m:=Builtin.Tuple.tupleExact _) (wpAny_newObj_type (wpAny_pure ⟨_,rfl,wpAny_pure h⟩) tK))
end
end HT
namespace L2
open PySem PySem.Spec PyProof.Rows
noncomputable abbrev TO:=St->Hp->(Option Int->Hp->Prop)->Prop
noncomputable def PO (X:Cx) (e:Option Expr) (t:TO):Prop :=
 ∀ (pins:List (Addr×Obj)) (s:Shared) (Z:St) (H:Hp) (Q:Option Int->Hp->Prop),Inv X pins Z H s->t Z H Q ->
  wpAny (model X.prog X.w) X.A (evalPart e X.env) (fun u s'=>∃ o H',Inv X pins Z H' s'/\IsPart u o/\Q o H') X.xe s
noncomputable def rR:TO:=fun _ H Q=>Q none H
noncomputable def BY (t:TE):TO:=fun Z H Q=>t Z H fun x H1=>∃ i,x=.int i/\Q (some i) H1
section
variable {X:Cx} {e:Expr} {te:TE} {lo hi:Option Expr} {tl th:TO} {pos p2:Pos}
theorem Al:PO X none rR:=by
 intro pins s Z H Q I h
 rw [evalPart_none]
 exact wpAny_pure ⟨none,H,I,.none,h⟩
theorem Ak (h:PE X e te):PO X (some e) (BY te):=by
 intro pins s Z H Q I hw
 rw [evalPart_some]
 refine aY (h pins s Z H _ I hw) fun u s1 ⟨x,H1,I1,r1,q1⟩=>?_
 obtain ⟨i,rfl,q⟩:=q1
 obtain ⟨t,rfl⟩:=r1
 exact ⟨some i,H1,I1,.int i t,q⟩
noncomputable def BK (X:Cx) (r:V->Option Int->Option Int->Hp->VK->Prop):Prop :=
 ∀ (pins:List (Addr×Obj)) (s:Shared) (Z:St) (H:Hp) (x:V) (v vl vu:Value) (lo hi:Option Int) (sl:Addr) (Q:VK),Inv X pins Z H s->RelV x v->s.heap.IsSliceOf sl vl vu .none->IsPart vl lo->IsPart vu hi->r x lo hi H Q ->
  ∃ T id, typeLookup (.type T) "__getitem__" = pure (some (.builtin id))/\s.TypeIs v T/\wpAny (model X.prog X.w) X.A (getItem v (.ref sl)) (EP X pins Z Q) X.xe s
theorem BK.or {r r':V->Option Int->Option Int->Hp->VK->Prop} (h:BK X r) (h':BK X r'):BK X (fun x lo hi H Q=>r x lo hi H Q\/r' x lo hi H Q):=by
 intro pins s Z H x v vl vu lo hi sl Q I rx hs pl pu q
 rcases q with q | q
 ·exact h pins s Z H x v vl vu lo hi sl Q I rx hs pl pu q
 ·exact h' pins s Z H x v vl vu lo hi sl Q I rx hs pl pu q
noncomputable def tSl (r:V->Option Int->Option Int->Hp->VK->Prop) (te:TE) (tl th:TO):TE:=fun Z H Q=>te Z H fun x H1=>tl Z H1 fun l H2=>th Z H2 fun u H3=>r x l u H3 Q
theorem wN {r:V->Option Int->Option Int->Hp->VK->Prop} (hr:BK X r) (he:PE X e te) (hl:PO X lo tl) (hu:PO X hi th):PE X (.Subscript e (.Slice lo hi none p2) pos) (tSl r te tl th):=by
 intro pins s Z H Q I h
 refine Subscript_ (aY (he pins s Z H _ I h) fun v s1 ⟨x,H1,I1,r1,q1⟩=>?_)
 refine wpAny_Slice (aY (hl pins s1 Z H1 _ I1 q1) fun vl s2 ⟨l,H2,I2,pl,q2⟩=>aY (hu pins s2 Z H2 _ I2 q2) fun vu s3 ⟨u,H3,I3,pu,q3⟩=>?_)
 rw [evalPart_none]
 refine wpAny_pure ?_
 have I4:Inv X pins Z H3 { s3 with heap:=s3.heap.push { cls:=.type "slice", data:=.fields #[vl, vu, .none] } }:=I3.kept (t':=s3.toks) fun b ob q=>Heap.get?_push_of_some _ q
 obtain ⟨T, id, hT, ht, hg⟩:=hr pins { s3 with heap:=s3.heap.push { cls:=.type "slice", data:=.fields #[vl, vu, .none] } } Z H3 x v vl vu l u s3.heap.objs.size Q I4 r1 (Heap.IsSliceOf.new ..) pl pu q3
 show wpAny (model X.prog X.w) X.A (subscriptTail e (.Slice lo hi none p2) v (.ref s3.heap.objs.size)) (EP X pins Z Q) X.xe { s3 with heap:=s3.heap.push { cls:=.type "slice", data:=.fields #[vl, vu, .none] } }
 exact tail_any (ops:=[.ref s3.heap.objs.size,v]) ht hT hg (by with_unfolding_all rfl)
noncomputable def pM (xs:List V) (lo hi:Option Int):List V:=(xs.drop (HT.cu xs.length 0 lo)).take (HT.cu xs.length xs.length hi-HT.cu xs.length 0 lo)
theorem iZ (xs:List V) (lo hi:Option Int):(pM xs lo hi).length<=xs.length:=by
 unfold pM
 rw [List.length_take,List.length_drop]
 omega
noncomputable def HE (K:PySem.W.Frag):V->Option Int->Option Int->Hp->VK->Prop:=fun x lo hi H Q=>∃ a xs,x=.ref a/\iO K H a xs /\
 ¬ (HT.cu xs.length 0 lo=0/\HT.cu xs.length xs.length hi=xs.length)/\∀ p,H p=none->Q (.ref p) (upd H p (.tup (pM xs lo hi)))
theorem Di:BK X (HE X.K):=by
 intro pins s Z H x v vl vu lo hi sl Q I rx hs pl pu h
 obtain ⟨a,xs,rfl,hx,hw,q⟩:=h
 cases rx
 obtain ⟨its,r,ht,hz⟩:=I.tuple hx
 have hlen:its.toArray.size=xs.length:=by rw [List.size_toArray];exact r.length.symm
 refine ⟨"tuple", _, PyProof.Rows.slot_tuple_getitem.lookup, ht.typeIs, ?_⟩
 refine HT.gQ ht hs pl pu (by rw [hlen];exact hw) ?_ (by rw [hlen];exact hz)
 rw [hlen]
 refine ⟨.ref s.heap.objs.size,_,I.laid (t':=s.toks) (o:=.tup (pM xs lo hi)) (fun b ob q=>Heap.get?_push_of_some _ q) (Nat.le_refl _) ?_,rfl,q _ (I.hok.fresh (Nat.le_refl _))⟩
 exact ⟨Nat.le_trans (iZ xs lo hi) hz,_,(r.drop (HT.cu xs.length 0 lo)).take (HT.cu xs.length xs.length hi-HT.cu xs.length 0 lo),IsTup.new _ _⟩
noncomputable def Cf (K:PySem.W.Frag):R2:=fun x y H Q=>∃ a b xs ys,x=.ref a/\y=.ref b/\iO K H a xs/\iO K H b ys/\xs≠[]/\xs.length+ys.length<=sizeLine /\
 (ys=[]->Q (.ref a) H)/\(ys≠[]->∀ p,H p=none->Q (.ref p) (upd H p (.tup (xs++ys))))
theorem Vals.mC {xs:List V} {us:List Value} (r:Vals xs us):us=[]↔xs=[]:=by
 cases r with
 | nil=>simp
 | cons _ _=>simp
theorem AA:dW X (binaryOp .Add) (Cf X.K):=by
 intro pins s Z H x y v u Q I rx ry h
 obtain ⟨a,b,xs,ys,rfl,rfl,ha,hb,hx,hz,q1,q2⟩:=h
 cases rx
 cases ry
 obtain ⟨its,r1,p1,_⟩:=I.tuple ha
 obtain ⟨its2,r2,p2,_⟩:=I.tuple hb
 refine HT.By p1 p2 (fun z=>hx (r1.mC.mp z)) (fun z=>⟨.ref a,H,I,rfl,q1 (r2.mC.mp z)⟩) (fun z=>?_) (by rw [<- r1.length,<- r2.length];exact hz)
 refine ⟨.ref s.heap.objs.size,_,I.laid (t':=s.toks) (o:=.tup (xs++ys)) (fun b ob q=>Heap.get?_push_of_some _ q) (Nat.le_refl _) ?_,rfl,q2 (fun w=>z (r2.mC.mpr w)) _ (I.hok.fresh (Nat.le_refl _))⟩
 exact ⟨by rw [List.length_append];exact hz,_,r1.append r2,IsTup.new _ _⟩
end
noncomputable def GJ (n:Nat) (i:Int):Option Nat:=if 0<=i then (if i<n then some i.toNat else none) else if -(n:Int)<=i then some (i+n).toNat else none
noncomputable def Gv {α:Type} (xs:List α) (i:Int):Option α:=(GJ xs.length i).bind fun j=>xs[j]?
theorem tD {n:Nat} {i:Int} {j:Nat} (h:GJ n i=some j):seqIndex? i n=some j/\j<n/\-(n:Int)<=i/\i<n:=by
 unfold GJ at h
 by_cases h0:0<=i
 ·rw [if_pos h0] at h
  by_cases h1:i<n
  ·rw [if_pos h1] at h
   have e:i.toNat=j:=Option.some.inj h
   exact ⟨by rw [seqIndex_of h0 h1,e],by omega,by omega,h1⟩
  ·rw [if_neg h1] at h;cases h
 ·rw [if_neg h0] at h
  by_cases h1:-(n:Int)<=i
  ·rw [if_pos h1] at h
   have e:(i+n).toNat=j:=Option.some.inj h
   exact ⟨by rw [seqIndex_neg (by omega) h1,e],by omega,h1,by omega⟩
  ·rw [if_neg h1] at h;cases h
theorem nv {α:Type} {xs:List α} {i:Int} {v:α} (h:Gv xs i=some v):∃ j,seqIndex? i xs.length=some j/\xs[j]? = some v/\j<xs.length/\-(xs.length:Int)<=i/\i<xs.length:=by
 unfold Gv at h
 cases e:GJ xs.length i with
 | none=>rw [e] at h;cases h
 | some j =>
  rw [e] at h
  obtain ⟨h1,h2,h3,h4⟩:=tD e
  exact ⟨j,h1,h,h2,h3,h4⟩
noncomputable def ur (b:Expr):Prop:=∀ o i,subscripted b false o i=operate [o,i] (getItem o i)
noncomputable def zj (X:Cx) (r:R2):Prop :=
 ∀ (value slice:Expr) (pins:List (Addr×Obj)) (s:Shared) (Z:St) (H:Hp) (x y:V) (v u:Value) (Q:VK),Inv X pins Z H s->RelV x v->RelV y u->r x y H Q ->
  subscripted slice false v u=operate [v,u] (getItem v u)->wpAny (model X.prog X.w) X.A (subscriptTail value slice v u) (EP X pins Z Q) X.xe s
noncomputable def MtR (X:Cx) (id:String) (r:V->List V->Hp->VK->Prop):Prop :=
 ∀ (pins:List (Addr×Obj)) (s:Shared) (Z:St) (H:Hp) (x:V) (xs:List V) (v:Value) (us:List Value) (Q:VK),Inv X pins Z H s->RelV x v->Vals xs us->r x xs H Q ->
  wpAny (model X.prog X.w) X.A (call (.builtin id) (v::us)) (EP X pins Z Q) X.xe s
section
variable {X:Cx} {a b:Expr} {ta tb:TE} {pos:Pos}
theorem zj.or {r r':R2} (h:zj X r) (h':zj X r'):zj X (fun x y H Q=>r x y H Q\/r' x y H Q):=by
 intro value slice pins s Z H x y v u Q I rx ry q hs
 rcases q with q | q
 ·exact h value slice pins s Z H x y v u Q I rx ry q hs
 ·exact h' value slice pins s Z H x y v u Q I rx ry q hs
theorem Ia {r:R2} (hr:zj X r) (ha:PE X a ta) (hb:PE X b tb) (hs:ur b):PE X (.Subscript a b pos) (Dc r ta tb):=by
 intro pins s Z H Q I h
 exact Subscript_ (Gu ha hb I h fun v u s2 x y H2 I2 rx ry q=>hr a b pins s2 Z H2 x y v u Q I2 rx ry q (hs _ _))
noncomputable def HL (K:PySem.W.Frag):R2:=fun x y H Q=>∃ p xs i v,x=.ref p/\y=.int i/\fc K H p xs/\Gv xs i=some v/\Q v H
noncomputable def HJ (K:PySem.W.Frag):R2:=fun x y H Q=>∃ p xs i v,x=.ref p/\y=.int i/\iO K H p xs/\Gv xs i=some v/\Q v H
noncomputable def HK:R2:=fun x y H Q=>∃ z i c,x=.str z/\y=.int i/\z.length<=sizeLine/\Gv z.cps.toList i=some c/\Q (.str ⟨#[c]⟩) H
theorem A3:zj X (HL X.K):=by
 intro value slice pins s Z H x y v u Q I rx ry h hs
 obtain ⟨p,xs,i,z,rfl,rfl,hq,he,q⟩:=h
 cases rx
 obtain ⟨t,rfl⟩:=ry
 obtain ⟨its,r,pl,hz⟩:=I.list hq
 obtain ⟨j,h1,h2,h3,h4,h5⟩:=nv he
 obtain ⟨w,ew,rw'⟩:=r.get h2
 have hl:=r.length
 have hn:=iz
 have fin:EP X pins Z Q w s:=⟨z,H,I,rw',q⟩
 by_cases h0:0<=i
 ·have hj:i.toNat=j:=by
   rw [seqIndex_of h0 h5] at h1
   exact Option.some.inj h1
  exact item_listR pl.isList h0 (by omega) (by rw [hj];simpa using ew) fin hs
 ·have hj:(i+(its.toArray.size:Int)).toNat=j:=by
   rw [seqIndex_neg (by omega) h4] at h1
   rw [List.size_toArray,<- hl]
   exact Option.some.inj h1
  exact subscriptTail_builtinR (x:=w) pl.isList.typeIs slot_list_getitem.lookup
   (wpAny_getItem_list_neg (Q:=fun r s'=>r=w/\EP X pins Z Q r s') pl.isList (by omega) (by rw [List.size_toArray] <;> omega) (by omega) (by rw [hj];simpa using ew) ⟨rfl,fin⟩) hs
theorem Ft:zj X (HJ X.K):=by
 intro value slice pins s Z H x y v u Q I rx ry h hs
 obtain ⟨p,xs,i,z,rfl,rfl,hq,he,q⟩:=h
 cases rx
 obtain ⟨t,rfl⟩:=ry
 obtain ⟨its,r,pl,hz⟩:=I.tuple hq
 obtain ⟨j,h1,h2,h3,h4,h5⟩:=nv he
 obtain ⟨w,ew,rw'⟩:=r.get h2
 have hl:=r.length
 have hn:=iz
 have fin:EP X pins Z Q w s:=⟨z,H,I,rw',q⟩
 exact subscriptTail_builtinR (x:=w) pl.typeIs slot_tuple_getitem.lookup
  (getItem_tuple (j:=j) (Q:=fun r s'=>r=w/\EP X pins Z Q r s') pl (by omega) (by omega) (by rw [List.size_toArray,<- hl];exact h1) (by simpa using ew) ⟨rfl,fin⟩) hs
theorem Fv:zj X HK:=by
 intro value slice pins s Z H x y v u Q I rx ry h hs
 obtain ⟨z,i,c,rfl,rfl,hz,he,q⟩:=h
 obtain ⟨t,rfl⟩:=rx
 obtain ⟨t',rfl⟩:=ry
 obtain ⟨j,h1,h2,h3,h4,h5⟩:=nv he
 have hl:z.cps.toList.length=z.length:=by simp [Str.length]
 rw [hl] at h1 h4 h5
 have hn:=iz
 exact tail_any (typeIs_str s z t) slot_str_getitem.lookup (getItem_str (c:=c) (by
  have e1:decide (i < -(2 ^ 63:Int))=false:=decide_eq_false (by omega)
  have e2:decide (i ≥ 2 ^ 63)=false:=decide_eq_false (by omega)
  rw [e1,e2,Bool.or_false]) (by rw [h1];simpa using h2) ⟨.str ⟨#[c]⟩,H,I.tok _,⟨_,rfl⟩,q⟩) hs
theorem qB (its:List Value) (n j:Nat) (u:Value):Obj.mapSeq (·.setIfInBounds j u) { cls:=.type "list", data:=.seq its.toArray n }={ cls:=.type "list", data:=.seq (its.set j u).toArray n }:=by
 simp [Obj.mapSeq]
theorem Inv.lst {pins:List (Addr×Obj)} {Z:St} {H:Hp} {s:Shared} {p:Addr} {xs:List V} (I:Inv X pins Z H s) (h:H p=some (.lst xs)) :
  ∃ (its:List Value) (n:Nat), Vals xs its/\s.heap.get? p=some { cls:=.type "list", data:=.seq its.toArray n }/\xs.length<=sizeLine:=by
 obtain ⟨z,its,n,r,e⟩:=I.hok p _ h
 exact ⟨its,n,r,e,z⟩
theorem Inv.EJ {pins:List (Addr×Obj)} {Z:St} {H:Hp} {s:Shared} {p:Addr} {xs ys:List V} {its its':List Value} {n n':Nat} {f:Obj->Obj} (I:Inv X pins Z H s) (h:H p=some (.lst xs))
  (ho:s.heap.get? p=some { cls:=.type "list", data:=.seq its.toArray n }) (hf:f { cls:=.type "list", data:=.seq its.toArray n }={ cls:=.type "list", data:=.seq its'.toArray n' }) (r:Vals ys its') (hz:ys.length<=sizeLine) (t:Nat) :
  Inv X pins Z (upd H p (.lst ys)) { s with heap:=s.heap.update p f,toks:=t }:=by
 have e:(s.heap.update p f).get? p=some { cls:=.type "list", data:=.seq its'.toArray n' }:=by
  rw [Heap.get?_update_self f ho (by rw [hf] <;> rfl),hf]
 refine I.write (x:=p) (e:=p) (by rw [h];trivial) (.inl rfl) (fun b u hb q=>(Heap.get?_update_other _ _ (Ne.symm hb)).trans q) ⟨_,e⟩ ?_
 exact ⟨hz,its',n',r,e⟩
noncomputable def Cb:V->V->V->Hp->(Hp->Prop)->Prop:=fun o i v H Q=>∃ p xs k j,o=.ref p/\i=.int k/\H p=some (.lst xs)/\GJ xs.length k=some j/\Q (upd H p (.lst (xs.set j v)))
theorem set_list:PSet X Cb:=by
 intro pins s Z H o i v ov iv u Q I ro ri rv h
 obtain ⟨p,xs,k,j,rfl,rfl,hp,hj,q⟩:=h
 cases ro
 obtain ⟨t,rfl⟩:=ri
 obtain ⟨its,n,r,ho,hz⟩:=I.lst hp
 obtain ⟨h1,h2,h3,h4⟩:=tD hj
 have hl:=r.length
 have hn:=iz
 have I':Inv X pins Z (upd H p (.lst (xs.set j v))) { s with heap:=s.heap.update p (Obj.mapSeq (·.setIfInBounds j u)) } :=
  I.EJ hp ho (qB its n j u) (r.set rv j) (by rw [List.length_set];exact hz) s.toks
 by_cases h0:0<=k
 ·have hk:k.toNat=j:=by
   rw [seqIndex_of h0 h4] at h1
   exact Option.some.inj h1
  exact PySem.W.ki_setAt ho h0 (by omega) (by rw [List.size_toArray,<- hl];exact h4) (by rw [hk];exact ⟨_,I',q⟩)
 ·have hk:(k+(its.toArray.size:Int)).toNat=j:=by
   rw [seqIndex_neg (by omega) h3] at h1
   rw [List.size_toArray,<- hl]
   exact Option.some.inj h1
  exact PySem.W.ki_setBack ho (by omega) (by rw [List.size_toArray,<- hl];exact h3) (by omega) (by rw [hk];exact ⟨_,I',q⟩)
theorem lX (lo hi:Option Int) (n:Nat):(sliceBounds lo hi none n).1=((HT.cu n 0 lo:Nat):Int)/\(sliceBounds lo hi none n).2.1=((HT.cu n n hi:Nat):Int)/\(sliceBounds lo hi none n).2.2=1:=by
 refine ⟨?_,?_,rfl⟩
 ·cases lo with
  | none=>simp [sliceBounds,HT.cu]
  | some i =>
   simp only [sliceBounds,HT.cu,Option.getD_none,show (1:Int) > 0 by decide,if_true]
   by_cases h:i<0
   ·simp only [h,if_true] <;> omega
   ·simp only [h,if_false] <;> omega
 ·cases hi with
  | none=>simp [sliceBounds,HT.cu]
  | some i =>
   simp only [sliceBounds,HT.cu,Option.getD_none,show (1:Int) > 0 by decide,if_true]
   by_cases h:i<0
   ·simp only [h,if_true] <;> omega
   ·simp only [h,if_false] <;> omega
theorem kI (its:List Value) (lo hi:Option Int):slicePick its.toArray lo hi none=((its.drop (HT.cu its.length 0 lo)).take (HT.cu its.length its.length hi-HT.cu its.length 0 lo)).toArray:=by
 obtain ⟨h1,h2,h3⟩:=lX lo hi its.toArray.size
 unfold slicePick
 rw [h1,h2,h3]
 simp only [sliceRange_one,pick_run,List.size_toArray] <;> rfl
noncomputable def HG (K:PySem.W.Frag):V->Option Int->Option Int->Hp->VK->Prop:=fun x lo hi H Q=>∃ a xs,x=.ref a/\fc K H a xs/\∀ p,H p=none->Q (.ref p) (upd H p (.lst (pM xs lo hi)))
theorem zF:BK X (HG X.K):=by
 intro pins s Z H x v vl vu lo hi sl Q I rx hs pl pu h
 obtain ⟨a,xs,rfl,hx,q⟩:=h
 cases rx
 obtain ⟨its,r,ht,hz⟩:=I.list hx
 have hlen:=r.length
 refine ⟨"list", _, slot_list_getitem.lookup, ht.isList.typeIs, ?_⟩
 refine wpAny_getItem_list_slice ht.isList hs pl pu .none (by simp) ?_ (by rw [List.size_toArray] <;> omega)
 rw [kI,<- hlen]
 refine ⟨.ref s.heap.objs.size,_,I.laid (t':=s.toks) (o:=.lst (pM xs lo hi)) (fun b ob q=>Heap.get?_push_of_some _ q) (Nat.le_refl _) ?_,rfl,q _ (I.hok.fresh (Nat.le_refl _))⟩
 exact ⟨Nat.le_trans (iZ xs lo hi) hz,_,0,(r.drop (HT.cu xs.length 0 lo)).take (HT.cu xs.length xs.length hi-HT.cu xs.length 0 lo),Heap.get?_push_size _ rfl⟩
noncomputable def gh:V->Bool
 | .ak=>true
 | .bl _=>true
 | .int _=>true
 | .str _=>true
 | _=>false
noncomputable def zd:V->V->Bool
 | .ak,.ak=>true
 | .bl a,.bl b=>a == b
 | .bl a,.int b=>(if a then 1 else 0) == b
 | .int a,.bl b=>a == (if b then 1 else 0)
 | .int a,.int b=>a == b
 | .str a,.str b=>a == b
 | _,_=>false
theorem FZ {A:Around} {s:Shared} {y x:V} {u v:Value} (ry:RelV y u) (rx:RelV x v) (fy:gh y=true) (fx:gh x=true):SeqAt.EqAt A s u v (zd y x):=by
 cases y with
 | ak =>
  cases ry
  cases x with
  | ak=>cases rx;exact SeqAt.EqAt.same _
  | bl b=>cases rx;exact SeqAt.EqAt.none_bool b
  | int b=>obtain ⟨t,rfl⟩:=rx;exact SeqAt.EqAt.none_int b t
  | str b=>obtain ⟨t,rfl⟩:=rx;exact SeqAt.EqAt.none_str b t
  | _=>exact absurd (show false=true from fx) Bool.false_ne_true
 | bl a =>
  cases ry
  cases x with
  | ak=>cases rx;exact SeqAt.EqAt.bool_none a
  | bl b=>cases rx;exact SeqAt.EqAt.bool_bool a b
  | int b=>obtain ⟨t,rfl⟩:=rx;exact SeqAt.EqAt.bool_int a b t
  | str b=>obtain ⟨t,rfl⟩:=rx;exact SeqAt.EqAt.bool_str a b t
  | _=>exact absurd (show false=true from fx) Bool.false_ne_true
 | int a =>
  obtain ⟨t',rfl⟩:=ry
  cases x with
  | ak=>cases rx;exact SeqAt.EqAt.int_none a t'
  | bl b=>cases rx;exact SeqAt.EqAt.int_bool a t' b
  | int b=>obtain ⟨t,rfl⟩:=rx;exact SeqAt.EqAt.int_int a t' b t
  | str b=>obtain ⟨t,rfl⟩:=rx;exact SeqAt.EqAt.int_str a t' b t
  | _=>exact absurd (show false=true from fx) Bool.false_ne_true
 | str a =>
  obtain ⟨t',rfl⟩:=ry
  cases x with
  | ak=>cases rx;exact SeqAt.EqAt.str_none a t'
  | bl b=>cases rx;exact SeqAt.EqAt.str_bool a t' b
  | int b=>obtain ⟨t,rfl⟩:=rx;exact SeqAt.EqAt.str_int a t' b t
  | str b=>obtain ⟨t,rfl⟩:=rx;exact SeqAt.EqAt.str_str a t' b t
  | _=>exact absurd (show false=true from fx) Bool.false_ne_true
 | _=>exact absurd (show false=true from fy) Bool.false_ne_true
noncomputable def qY (x:V) (u:Value):Bool:=match u with
 | .none=>zd .ak x
 | .bool b=>zd (.bl b) x
 | .int i _=>zd (.int i) x
 | .str z _=>zd (.str z) x
 | _=>false
theorem yw {x y:V} {u:Value} (r:RelV y u) (f:gh y=true):qY x u=zd y x:=by
 cases y with
 | ak=>cases r;rfl
 | bl b=>cases r;rfl
 | int i=>obtain ⟨t,rfl⟩:=r;rfl
 | str z=>obtain ⟨t,rfl⟩:=r;rfl
 | _=>exact absurd (show false=true from f) Bool.false_ne_true
theorem ie {x:V}:∀ {xs:List V} {us:List Value},Vals xs us->xs.all gh=true->us.any (qY x)=xs.any fun y=>zd y x
 | _,_,.nil,_=>rfl
 | y::xs,u::us,.cons r t,f=>by
  rw [List.all_cons,Bool.and_eq_true] at f
  rw [List.any_cons,List.any_cons,yw r f.1,ie t f.2]
theorem fq {A:Around} {s:Shared} {x:V} {v:Value} (rx:RelV x v) (fx:gh x=true):∀ {xs:List V} {us:List Value},Vals xs us->xs.all gh=true->∀ u∈us,SeqAt.EqAt A s u v (qY x u)
 | _,_,.nil,_=>fun u hu=>by cases hu
 | y::xs,u::us,.cons r t,f=>fun u' hu=>by
  rw [List.all_cons,Bool.and_eq_true] at f
  rcases List.mem_cons.mp hu with rfl | hu
  ·rw [yw r f.1];exact FZ r rx f.1 fx
  ·exact fq rx fx t f.2 u' hu
noncomputable def IT (x:V) (xs:List V):Bool:=xs.any fun y=>zd y x
noncomputable def HP (K:PySem.W.Frag) (neg:Bool):R2:=fun x y H Q=>∃ p xs,y=.ref p/\(fc K H p xs\/iO K H p xs)/\gh x=true/\xs.all gh=true/\Q (.bl (if neg then !IT x xs else IT x xs)) H
theorem uQ:dW X (compareOp .In) (HP X.K false):=by
 intro pins s Z H x y v u Q I rx ry h
 obtain ⟨p,xs,rfl,hq,fx,fs,q⟩:=h
 cases ry
 rcases hq with hq | hq
 ·obtain ⟨its,r,pl,hz⟩:=I.list hq
  refine SeqAt.in_listAt (qY x) pl.isList (fun w hw=>fq rx fx r fs w (by simpa using hw)) ⟨.bl _,H,I,rfl,?_⟩
  rw [show its.toArray.any (qY x)=its.any (qY x) by simp,ie r fs]
  exact q
 ·obtain ⟨its,r,pl,hz⟩:=I.tuple hq
  refine SeqAt.in_tupleAt (qY x) pl (fun w hw=>fq rx fx r fs w (by simpa using hw)) ⟨.bl _,H,I,rfl,?_⟩
  rw [show its.toArray.any (qY x)=its.any (qY x) by simp,ie r fs]
  exact q
theorem mq:dW X (compareOp .NotIn) (HP X.K true):=by
 intro pins s Z H x y v u Q I rx ry h
 obtain ⟨p,xs,rfl,hq,fx,fs,q⟩:=h
 cases ry
 rcases hq with hq | hq
 ·obtain ⟨its,r,pl,hz⟩:=I.list hq
  refine SeqAt.notIn_listAt (qY x) pl.isList (fun w hw=>fq rx fx r fs w (by simpa using hw)) ⟨.bl _,H,I,rfl,?_⟩
  rw [show its.toArray.any (qY x)=its.any (qY x) by simp,ie r fs]
  exact q
 ·obtain ⟨its,r,pl,hz⟩:=I.tuple hq
  refine SeqAt.notIn_tupleAt (qY x) pl (fun w hw=>fq rx fx r fs w (by simpa using hw)) ⟨.bl _,H,I,rfl,?_⟩
  rw [show its.toArray.any (qY x)=its.any (qY x) by simp,ie r fs]
  exact q
theorem nj:dm X (.builtin "len") (fun xs H Q=>∃ p ys, xs=[.ref p]/\(fc X.K H p ys\/iO X.K H p ys)/\Q (.int ys.length) H):=by
 intro pins s Z H xs us Q I r h
 obtain ⟨p,ys,rfl,hq,q⟩:=h
 obtain ⟨u,rfl,rx⟩:=vals1 r
 cases rx
 have hn:=iz
 rcases hq with hq | hq
 ·obtain ⟨its,r',pl,hz⟩:=I.list hq
  have hlen:=r'.length
  exact Calls.call_len_list pl.isList (by simp only [List.size_toArray] <;> omega) ⟨.int ys.length,H,I.tok _,⟨s.toks+1,by rw [List.size_toArray,hlen]⟩,q⟩
 ·obtain ⟨its,r',pl,hz⟩:=I.tuple hq
  have hlen:=r'.length
  exact len_tuple pl (by simp only [List.size_toArray] <;> omega) ⟨.int ys.length,H,I.tok _,⟨s.toks+1,by rw [List.size_toArray,hlen]⟩,q⟩
theorem nh:dm X (.builtin "len") (fun xs H Q=>∃ z, xs=[.str z]/\z.length<=sizeLine/\Q (.int z.length) H):=by
 intro pins s Z H xs us Q I r h
 obtain ⟨z,rfl,hz,q⟩:=h
 obtain ⟨u,rfl,t,rfl⟩:=vals1 r
 have hn:=iz
 exact len_str (by omega) ⟨.int z.length,H,I.tok _,⟨_,rfl⟩,q⟩
theorem dm.or {f:Value} {r r':List V->Hp->VK->Prop} (h:dm X f r) (h':dm X f r'):dm X f (fun xs H Q=>r xs H Q\/r' xs H Q):=by
 intro pins s Z H xs us Q I rs q
 rcases q with q | q
 ·exact h pins s Z H xs us Q I rs q
 ·exact h' pins s Z H xs us Q I rs q
theorem ng:dm X (.type "list") (fun xs H Q=>∃ p ys, xs=[.ref p]/\(fc X.K H p ys\/iO X.K H p ys)/\∀ l, H l=none->Q (.ref l) (upd H l (.lst ys))):=by
 intro pins s Z H xs us Q I r h
 obtain ⟨p,ys,rfl,hq,q⟩:=h
 obtain ⟨u,rfl,rx⟩:=vals1 r
 cases rx
 have fin:∀ (its:List Value),Vals ys its->ys.length<=sizeLine->∀ (h':Heap) (c':Nat),(∀ b o',s.heap.get? b=some o'->h'.get? b=some o') ->
   h'.get? s.heap.objs.size=some { cls:=.type "list", dict:=none, data:=.seq its.toArray c', slots:=#[] }->EP X pins Z Q (.ref s.heap.objs.size) { s with heap:=h' }:=fun its r' hz h' c' kp e =>
  ⟨.ref s.heap.objs.size,_,I.laid (t':=s.toks) kp (Nat.le_refl _) (show aW X.prog X.w _ h' _ (.lst ys) from ⟨hz,its,c',r',e⟩),rfl,q _ (I.hok.fresh (Nat.le_refl _))⟩
 rcases hq with hq | hq
 ·obtain ⟨its,r',pl,hz⟩:=I.list hq
  have hlen:=r'.length
  obtain ⟨o,ho,hc,n,hd⟩:=pl.isList
  exact call_list_seq p (.inl rfl) ho hc hd (fun h' c' kp e=>fin its r' hz h' c' kp e) (by simp only [List.size_toArray] <;> omega)
 ·obtain ⟨its,r',pl,hz⟩:=I.tuple hq
  have hlen:=r'.length
  obtain ⟨o,ho,hc,n,hd⟩:=pl
  exact call_list_seq p (.inr rfl) ho hc hd (fun h' c' kp e=>fin its r' hz h' c' kp e) (by simp only [List.size_toArray] <;> omega)
noncomputable def J1 (K:PySem.W.Frag) (T:String) (x:V) (H:Hp):Prop:=match x with
 | .str _=>T = "str"
 | .int _=>T = "int"
 | .ref p=>(T = "list"/\∃ xs, fc K H p xs)\/(T = "tuple"/\∃ o, K.lookup p=some o/\o.cls=.type "tuple"/\o.dict=none) \/
   (T = "dict"/\((∃ kvs, H p=some (.dK kvs))\/∃ kvs, H p=some (.dT kvs)))\/(T = "set"/\∃ S n, H p=some (.set S n))
 | _=>False
theorem vG {pins:List (Addr×Obj)} {Z:St} {H:Hp} {s:Shared} {T:String} {x:V} {v:Value} (I:Inv X pins Z H s) (r:RelV x v) (ty:J1 X.K T x H) :
  s.TypeIs v T/\∀ a,v=.ref a->∃ ob,s.heap.get? a=some ob/\ob.dict=none:=by
 cases x with
 | str z =>
  obtain ⟨t,rfl⟩:=r
  cases (show T = "str" from ty)
  exact ⟨typeIs_str s z t,fun _ e=>nomatch e⟩
 | int i =>
  obtain ⟨t,rfl⟩:=r
  cases (show T = "int" from ty)
  exact ⟨typeIs_int s i t,fun _ e=>nomatch e⟩
 | ref p =>
  cases r
  rcases ty with ⟨rfl,xs,hq⟩ | ⟨rfl,o,hk,hc,hd⟩ | ⟨rfl,hk⟩ | ⟨rfl,S,n,hk⟩
  ·obtain ⟨its,_,pl,_⟩:=I.list hq
   refine ⟨pl.isList.typeIs,fun a e=>?_⟩
   cases e
   obtain ⟨o,n,e,c,hd,_⟩:=pl
   exact ⟨o,e,hd⟩
  ·refine ⟨⟨o,I.gO p o hk,hc⟩,fun a e=>?_⟩
   cases e
   exact ⟨o,I.gO _ o hk,hd⟩
  ·have z:∃ o,s.heap.get? p=some o/\o.ExactDict:=by
    rcases hk with ⟨kvs,hk⟩ | ⟨kvs,hk⟩
    ·obtain ⟨_,_,_,_,o,_,_,e,ex,_⟩:=I.hok p _ hk
     exact ⟨o,e,ex⟩
    ·obtain ⟨_,_,_,_,o,_,_,e,ex,_⟩:=I.hok p _ hk
     exact ⟨o,e,ex⟩
   obtain ⟨o,e,ex⟩:=z
   refine ⟨⟨o,e,ex.1⟩,fun a e2=>?_⟩
   cases e2
   exact ⟨o,e,ex.2.1⟩
  ·obtain ⟨o,_,_,_,e,ex,_⟩:=I.hok p _ hk
   refine ⟨⟨o,e,ex.1⟩,fun a e2=>?_⟩
   cases e2
   exact ⟨o,e,ex.2.1⟩
 | _=>exact False.elim ty
noncomputable def zu (K:PySem.W.Frag) (T:String) (r:V->List V->Hp->VK->Prop) (to:TE):TE:=fun Z H Q=>to Z H fun x H1=>J1 K T x H1/\r x [] H1 Q
noncomputable def tBM (K:PySem.W.Frag) (T:String) (r:V->List V->Hp->VK->Prop) (to:TE) (t:TA):TE:=fun Z H Q=>to Z H fun x H1=>J1 K T x H1/\t Z H1 fun xs H2=>r x xs H2 Q
variable {o e:Expr} {es:List Expr} {to:TE} {t:TA} {name:Str} {apos cpos:Pos} {T id:String} {r:V->List V->Hp->VK->Prop}
theorem wW (pa:PlainAttrs T) (slot:Slot T name id) (hty:typeOf (.builtin id)=pure (.type "method_descriptor")) (hm:MtR X id r) (ho:PE X o to)
  (hbase:attributeBase o name X.env (eval o X.env)=eval o X.env:=by rfl) (hline:(apos.endLine == cpos.line)=true:=by rfl):PE X (.Call (.Attribute o name apos) [] [] cpos) (zu X.K T r to):=by
 intro pins s Z H Q I h
 refine wpAny_Call_method0_late hbase hline (aY (ho pins s Z H _ I h) fun v s1 ⟨x,H1,I1,r1,ty,q1⟩=>?_)
 obtain ⟨h1,h2⟩:=vG I1 r1 ty
 exact ⟨T,id,pa,slot,hty,h1,h2,Calls.callWith_builtin rfl (PySem.evalArgs_none (hm pins s1 Z H1 x [] v [] Q I1 r1 .nil q1))⟩
theorem Cj (pa:PlainAttrs T) (slot:Slot T name id) (hty:typeOf (.builtin id)=pure (.type "method_descriptor")) (hm:MtR X id r) (ho:PE X o to) (ha:PA X (e::es) t)
  (hbase:attributeBase o name X.env (eval o X.env)=eval o X.env:=by rfl)
  (hfew:((backTo cpos (starEach (e::es) X.env)).all (fun x=>!x.1)&&(backToKw cpos (keywordEach [] X.env)).all (fun x=>x.1.isSome)
  &&decide ((e::es).length+([]:List Keyword).length+(if ([]:List Keyword).isEmpty then 0 else 1)<30))=true:=by rfl)
  (hline:(apos.endLine == cpos.line)=true:=by rfl) (hs:starEach (e::es) X.env=(false,eval e X.env)::starEach es X.env:=by rfl) (hplain:(backTo cpos (starEach es X.env)).any (·.1)=false:=by rfl) :
  PE X (.Call (.Attribute o name apos) (e::es) [] cpos) (tBM X.K T r to t):=by
 intro pins s Z H Q I h
 refine wpAny_Call_method_late hbase hfew hline rfl (aY (ho pins s Z H _ I h) fun v s1 ⟨x,H1,I1,r1,ty,q1⟩=>?_)
 obtain ⟨h1,h2⟩:=vG I1 r1 ty
 refine ⟨T,id,pa,slot,hty,h1,h2,?_⟩
 have hA:=ha cpos pins s1 Z H1 _ I1 q1
 rw [hs] at hA ⊢
 refine Calls.callWith_builtin (by show (false||(backTo cpos (starEach es X.env)).any (·.1))=false;rw [hplain] <;> rfl) (Calls.evalArgs_plain ?_)
 exact aY hA fun us s2 ⟨vs,H2,I2,r2,q2⟩=>hm pins s2 Z H2 x vs v us Q I2 r1 r2 q2
end
noncomputable def KZ (X:Cx) (id:String) (r:V->List V->Hp->VK->Prop):Prop :=
 ∀ (pins:List (Addr×Obj)) (s:Shared) (Z:St) (H:Hp) (x:V) (xs:List V) (v:Value) (us:List Value) (Q:VK),Inv X pins Z H s->RelV x v->Vals xs us->r x xs H Q ->
  wpAny (model X.prog X.w) X.A (call (.builtin id) (v::us)) (EP X pins Z Q) X.xe s
theorem Vals.one:∀ {x:V} {us:List Value},Vals [x] us->∃ u,us=[u]/\RelV x u
 | _,_,.cons r .nil=>⟨_,rfl,r⟩
theorem Vals.zero:∀ {us:List Value},Vals [] us->us=[]
 | _,.nil=>rfl
theorem Vals.dropLast {xs:List V} {us:List Value} (h:Vals xs us):Vals xs.dropLast us.dropLast:=by
 induction h with
 | nil=>exact .nil
 | cons r t ih =>
  cases t with
  | nil=>exact .nil
  | cons q t'=>exact .cons r ih
theorem Vals.reverse {xs:List V} {us:List Value} (h:Vals xs us):Vals xs.reverse us.reverse:=by
 induction h with
 | nil=>exact .nil
 | cons r t ih=>rw [List.reverse_cons,List.reverse_cons];exact Vals.append ih (.cons r .nil)
theorem qW {α:Type} (l:List α):l.eraseIdx (l.length-1)=l.dropLast:=by
 induction l with
 | nil=>rfl
 | cons a r ih =>
  cases r with
  | nil=>rfl
  | cons b r =>
   have e:(a::b::r).length-1=((b::r).length-1)+1:=by
    have h1:(a::b::r).length=r.length+2:=rfl
    have h2:(b::r).length=r.length+1:=rfl
    omega
   rw [e,List.eraseIdx_cons_succ,ih]
   all_goals rfl
section
variable {X:Cx} {pins:List (Addr×Obj)} {Z:St} {H:Hp} {s:Shared} {l b:Addr} {xs ys zs:List V}
theorem Inv.AQ {its its':List Value} {n:Nat} {f:Array Value->Array Value} {t':Nat} (I:Inv X pins Z H s) (hH:H l=some (.lst xs))
  (e:s.heap.get? l=some { cls:=.type "list", data:=.seq its.toArray n }) (hf:f its.toArray=its'.toArray) (hv:Vals ys its') (hz:ys.length<=sizeLine) :
  Inv X pins Z (upd H l (.lst ys)) { s with heap:=s.heap.update l (Obj.mapSeq f),toks:=t' }:=by
 have q:=PySem.IsL.update e f
 rw [hf] at q
 refine I.write (x:=l) (e:=l) (by rw [hH];exact trivial) (.inl rfl) (fun b' u hb hu=>(Heap.get?_update_other s.heap (Obj.mapSeq f) (Ne.symm hb)).trans hu) ⟨_,q⟩ ?_
 exact ⟨hz,its',_,hv,q⟩
theorem Inv.IF {its:List Value} {t':Nat} (I:Inv X pins Z H s) (hv:Vals ys its) (hz:ys.length<=sizeLine) :
  Inv X pins Z (upd H s.heap.objs.size (.lst ys)) { s with heap:=s.heap.push { cls:=.type "list", data:=.seq its.toArray }, toks:=t' } :=
 I.laid (fun _ _ q=>Heap.get?_push_of_some _ q) (Nat.le_refl _) ⟨hz,its,0,hv,Heap.get?_push_size _ rfl⟩
theorem Inv.fresh (I:Inv X pins Z H s):H s.heap.objs.size=none:=I.hok.fresh (Nat.le_refl _)
theorem Inv.AO (I:Inv X pins Z H s) (hH:H l=some (.lst xs)):xs.length<=sizeLine/\∃ (its:List Value) (n:Nat), Vals xs its/\xs.length=its.length/\s.heap.get? l=some { cls:=.type "list", data:=.seq its.toArray n }:=by
 obtain ⟨z,its,n,r,e⟩:=I.hok l _ hH
 exact ⟨z,its,n,r,r.length,e⟩
theorem w6 {n:Nat} (h:n<=sizeLine):Builtin.List.listTooLong n=false:=by
 unfold Builtin.List.listTooLong
 exact decide_eq_false (by omega)
end
section
variable {X:Cx}
noncomputable def mh:V->List V->Hp->VK->Prop:=fun x vs H Q=>∃ l xs y,x=.ref l/\vs=[y]/\H l=some (.lst xs)/\xs.length<sizeLine/\Q .ak (upd H l (.lst (xs++[y])))
theorem lz:KZ X "list.append" mh:=by
 intro pins s Z H x vs v us Q I rx rv h
 obtain ⟨l,xs,y,rfl,rfl,hH,hz,q⟩:=h
 cases rx
 obtain ⟨u,rfl,ru⟩:=rv.one
 obtain ⟨z,its,n,r,hl,e⟩:=I.AO hH
 refine call_meets F.slot_list_append ⟨_,e,rfl⟩ F.entry_list_append (F.args_list_append_2 _ _) (PySem.list_append l its.toArray n u (by rw [List.size_toArray];omega)) ⟨e,?_⟩
 refine ⟨.ak,_,I.AQ (its':=its++[u]) hH e (by simp) (r.append (.cons ru .nil)) ?_,rfl,q⟩
 rw [List.length_append,List.length_singleton]
 omega
noncomputable def DI:V->List V->Hp->VK->Prop:=fun x vs H Q=>∃ l xs y,x=.ref l/\vs=[]/\H l=some (.lst xs)/\xs[xs.length-1]? = some y/\Q y (upd H l (.lst xs.dropLast))
theorem ED:KZ X "list.pop" DI:=by
 intro pins s Z H x vs v us Q I rx rv h
 obtain ⟨l,xs,y,rfl,rfl,hH,hy,q⟩:=h
 cases rx
 have hus:=rv.zero
 subst hus
 obtain ⟨z,its,n,r,hl,e⟩:=I.AO hH
 obtain ⟨u,hu,ru⟩:=r.get hy
 have hy':its.toArray[its.toArray.size-1]? = some u:=by
  show its.toArray[its.length-1]? = some u
  rw [<- Array.getElem?_toList,<- hl]
  exact hu
 refine call_meets F.slot_list_pop ⟨_,e,rfl⟩ F.entry_list_pop (F.args_list_pop_1 _) (MeetsSeq.list_pop_last l its.toArray n u hy' (by rw [List.size_toArray];omega)) ⟨e,?_⟩
 refine ⟨y,_,I.AQ (its':=its.dropLast) hH e ?_ r.dropLast ?_,ru,q⟩
 ·show its.toArray.eraseIdxIfInBounds (its.toArray.size-1)=its.dropLast.toArray
  rw [List.size_toArray,List.eraseIdxIfInBounds_toArray,qW]
 ·rw [List.length_dropLast]
  omega
noncomputable def jE:V->List V->Hp->VK->Prop:=fun x vs H Q=>∃ l xs,x=.ref l/\vs=[]/\H l=some (.lst xs)/\Q .ak (upd H l (.lst xs.reverse))
theorem qA:KZ X "list.reverse" jE:=by
 intro pins s Z H x vs v us Q I rx rv h
 obtain ⟨l,xs,rfl,rfl,hH,q⟩:=h
 cases rx
 have hus:=rv.zero
 subst hus
 obtain ⟨z,its,n,r,hl,e⟩:=I.AO hH
 refine call_meets F.slot_list_reverse ⟨_,e,rfl⟩ F.entry_list_reverse (F.args_list_reverse_1 _) (AutoSeq1.list_reverse_list_0 l its.toArray n (by rw [List.size_toArray];omega)) ⟨e,?_⟩
 refine ⟨.ak,_,I.AQ (its':=its.reverse) hH e (by simp) r.reverse ?_,rfl,q⟩
 rw [List.length_reverse]
 omega
end
section
variable {prog:Program} {w:World} {A:Around} {E:Value->Shared->Prop} {s:Shared}
end
section
variable {X:Cx}
end
section
variable {κ:Type} [DecidableEq κ]
noncomputable def cE (kvs:List (κ×V)) (k:κ):Option V:=(kvs.find? fun kv=>decide (kv.1=k)).map (·.2)
noncomputable def putK (kvs:List (κ×V)) (k:κ) (v:V):List (κ×V) :=
 if (kvs.any fun kv=>decide (kv.1=k))=true then kvs.map (fun kv=>if kv.1=k then (kv.1,v) else kv) else kvs++[(k,v)]
theorem jw {p:κ×V} {r:List (κ×V)} {k:κ} (e:p.1=k):cE (p::r) k=some p.2:=by simp [cE,List.find?_cons,e]
theorem jx {p:κ×V} {r:List (κ×V)} {k:κ} (e:¬ p.1=k):cE (p::r) k=cE r k:=by simp [cE,List.find?_cons,e]
theorem nH (k:κ):∀ kvs:List (κ×V),(kvs.any fun kv=>decide (kv.1=k))=(cE kvs k).isSome
 | []=>rfl
 | p::r=>by
  rw [List.any_cons]
  by_cases e:p.1=k
  ·simp only [jw e,decide_eq_true e,Bool.true_or,Option.isSome_some]
  ·rw [jx e,decide_eq_false e,Bool.false_or];exact nH k r
theorem iT (kvs:List (κ×V)) (k:κ) (v:V):(putK kvs k v).length<=kvs.length+1:=by
 unfold putK
 split
 ·rw [List.length_map];omega
 ·rw [List.length_append,List.length_cons,List.length_nil];omega
theorem gz.iE {o:Option V} {u:Option Value} (r:gz o u):o.isSome=u.isSome:=by
 cases o with
 | none=>cases u with
  | none=>rfl
  | some _=>exact (show False from r).elim
 | some _=>cases u with
  | none=>exact (show False from r).elim
  | some _=>rfl
theorem KV.val {kvs:List (κ×V)} {vs:List (κ×Value)} (r:KV kvs vs) (k:κ):gz (cE kvs k) (valueAt vs k):=by
 unfold KV at r
 induction r with
 | nil=>exact True.intro
 | @cons p q ps qs h t ih =>
  obtain ⟨h1,h2⟩:=h
  by_cases e:p.1=k
  ·have e':q.1=k:=h1.symm.trans e
   have b:valueAt (q::qs) k=some q.2:=by simp [valueAt,List.find?_cons,e']
   rw [jw e,b];exact h2
  ·have e':¬ q.1=k:=fun z=>e (h1.trans z)
   have b:valueAt (q::qs) k=valueAt qs k:=by simp [valueAt,List.find?_cons,e']
   rw [jx e,b];exact ih
theorem KV.any {kvs:List (κ×V)} {vs:List (κ×Value)} (r:KV kvs vs) (k:κ):(kvs.any fun kv=>decide (kv.1=k))=vs.any fun kv=>decide (kv.1=k):=by
 unfold KV at r
 induction r with
 | nil=>rfl
 | cons h t ih=>rw [List.any_cons,List.any_cons,ih,h.1]
theorem KV.repl {kvs:List (κ×V)} {vs:List (κ×Value)} (r:KV kvs vs) (k:κ) {y:V} {u:Value} (ry:RelV y u) :
  KV (kvs.map fun kv=>if kv.1=k then (kv.1,y) else kv) (vs.map fun kv=>if kv.1=k then (kv.1,u) else kv):=by
 unfold KV at r ⊢
 induction r with
 | nil=>exact .nil
 | @cons p q ps qs h t ih =>
  rw [List.map_cons,List.map_cons]
  refine .cons ?_ ih
  obtain ⟨h1,h2⟩:=h
  by_cases e:p.1=k
  ·rw [if_pos e,if_pos (h1.symm.trans e)];exact ⟨h1,ry⟩
  ·rw [if_neg e,if_neg (fun z=>e (h1.trans z))];exact ⟨h1,h2⟩
theorem KV.put {kvs:List (κ×V)} {vs:List (κ×Value)} (r:KV kvs vs) (k:κ) {y:V} {u:Value} (ry:RelV y u):KV (putK kvs k y) (stored vs k u):=by
 unfold putK stored
 rw [r.any k]
 by_cases e:(vs.any fun kv=>decide (kv.1=k))=true
 ·rw [if_pos e,if_pos e];exact r.repl k ry
 ·rw [if_neg e,if_neg e];exact Paired.snoc r ⟨rfl,ry⟩
theorem KV.length {kvs:List (κ×V)} {vs:List (κ×Value)} (r:KV kvs vs):kvs.length=vs.length:=Paired.length r
end
theorem oR {P:Program} {w:World} {k:Key} {u:Value} (r:RelV (kV k) u):(aJ P w).is k u=true:=by
 cases k with
 | inl i=>obtain ⟨t,e⟩:=(show ∃ t,u=Value.int i t from r);subst e;exact oM P w i t
 | inr x=>obtain ⟨t,e⟩:=(show ∃ t,u=Value.str x t from r);subst e;exact oK P w x t
theorem lC {P:Program} {w:World}:∀ {ks:List Key} {us:List Value},Vals (ks.map kV) us->ItemsAre (aJ P w) ks us
 | [],_,r=>by rw [List.map_nil] at r;cases r;exact .nil
 | k::ks,_,r=>by
  rw [List.map_cons] at r
  cases r with
  | cons h t=>exact .cons (oR h) (lC t)
noncomputable abbrev KT (H:Hp):List (List Key×V)->List (List Key×Addr×Value)->Prop:=Paired fun p q=>p.1=q.1/\H q.2.1=some (.tup (p.1.map kV))/\RelV p.2 q.2.2
theorem KT.val {H:Hp} {kvs:List (List Key×V)} {xs:List (List Key×Addr×Value)} (r:KT H kvs xs) (k:List Key):gz (cE kvs k) ((atKey xs k).map (·.2)):=by
 induction r with
 | nil=>exact True.intro
 | @cons p q ps qs h t ih =>
  obtain ⟨h1,_,h2⟩:=h
  by_cases e:p.1=k
  ·have e':q.1=k:=h1.symm.trans e
   have b:atKey (q::qs) k=some q.2:=by simp [atKey,List.find?_cons,e']
   rw [jw e,b];exact h2
  ·have e':¬ q.1=k:=fun z=>e (h1.trans z)
   have b:atKey (q::qs) k=atKey qs k:=by simp [atKey,List.find?_cons,e']
   rw [jx e,b];exact ih
theorem KT.repl {H:Hp} {kvs:List (List Key×V)} {xs:List (List Key×Addr×Value)} (r:KT H kvs xs) (k:List Key) {y:V} {u:Value} (ry:RelV y u) :
  KT H (kvs.map fun kv=>if kv.1=k then (kv.1,y) else kv) (xs.map (putAt k u)):=by
 induction r with
 | nil=>exact .nil
 | @cons p q ps qs h t ih =>
  rw [List.map_cons,List.map_cons]
  refine .cons ?_ ih
  obtain ⟨h1,h2,h3⟩:=h
  unfold putAt
  by_cases e:p.1=k
  ·rw [if_pos e,if_pos (h1.symm.trans e)];exact ⟨h1,h2,ry⟩
  ·rw [if_neg e,if_neg (fun z=>e (h1.trans z))];exact ⟨h1,h2,h3⟩
theorem KT.put {H:Hp} {kvs:List (List Key×V)} {xs:List (List Key×Addr×Value)} (r:KT H kvs xs) (k:List Key) {b:Addr} {y:V} {u:Value} (hb:H b=some (.tup (k.map kV))) (ry:RelV y u) :
  KT H (putK kvs k y) (storedH xs k b u):=by
 have e:(kvs.any fun kv=>decide (kv.1=k))=(atKey xs k).isSome:=by
  rw [nH,(r.val k).iE,Option.isSome_map]
 unfold putK storedH
 rw [e]
 by_cases q:(atKey xs k).isSome=true
 ·rw [if_pos q,if_pos q];exact r.repl k ry
 ·rw [if_neg q,if_neg q];exact Paired.snoc r ⟨rfl,hb,ry⟩
theorem KT.keeps {H H':Hp} {kvs:List (List Key×V)} {xs:List (List Key×Addr×Value)} (r:KT H kvs xs) (ht:∀ b ys,H b=some (.tup ys)->H' b=some (.tup ys)):KT H' kvs xs :=
 Paired.EE r fun _ _ z=>⟨z.1,ht _ _ z.2.1,z.2.2⟩
section
variable {P:Program} {w:World} {H:Hp} {h:Heap} {a:Addr}
theorem B9 {u:HO} (ok:gb P w H h) (e:Rd H a u):aW P w H h a u:=e.ok ok
theorem CM {kvs:List (Key×V)} (ok:gb P w H h) (e:Rd H a (.dK kvs)):kvs.length<=sizeLine/\(a == sysModules)=false/\∃ vs,KV kvs vs/\h.DictOf (aJ P w) a vs :=
 show aW P w H h a (.dK kvs) from B9 ok e
theorem JA {kvs:List (Key×V)} (ok:gb P w H h) (e:H a=some (.dK kvs)):kvs.length<=sizeLine/\(a == sysModules)=false/\∃ vs,KV kvs vs/\h.DictOf (aJ P w) a vs:=CM ok (.inl e)
theorem xG {ks:List Key} (ok:gb P w H h) (e:H a=some (.tup (ks.map kV))):(tupleKind (aJ P w)).is h ks a:=by
 obtain ⟨_,its,r,o,h1,h2,n,h3⟩:=(show aW P w H h a (.tup (ks.map kV)) from ok a _ e)
 exact ⟨o,its.toArray,n,h1,h2,h3,by simpa using lC r⟩
theorem Jy {kvs:List (List Key×V)} (ok:gb P w H h) (e:Rd H a (.dT kvs)):kvs.length<=sizeLine/\(a == sysModules)=false /\
  ∃ xs,KT H kvs xs/\h.DictOfH (tupleKind (aJ P w)) a xs:=by
 obtain ⟨z,y,xs,r,o,es,ep,h1,h2,h3,h4,h5⟩:=(show aW P w H h a (.dT kvs) from B9 ok e)
 refine ⟨z,y,xs,r,o,es,ep,h1,h2,h3,h4,fun x hx=>?_,h5⟩
 have all:∀ {l:List (List Key×V)} {m:List (List Key×Addr×Value)},KT H l m->∀ x∈m,(tupleKind (aJ P w)).is h x.1 x.2.1:=by
  intro l m q
  induction q with
  | nil=>intro x hx;exact nomatch hx
  | @cons p q ps qs hq t ih =>
   intro x hx
   rcases List.mem_cons.mp hx with e | hx
   ·subst e
    exact xG ok (by rw [<- hq.1];exact hq.2.1)
   ·exact ih x hx
 exact all r x hx
theorem Jz {kvs:List (List Key×V)} (ok:gb P w H h) (e:H a=some (.dT kvs)):kvs.length<=sizeLine/\(a == sysModules)=false /\
  ∃ xs,KT H kvs xs/\h.DictOfH (tupleKind (aJ P w)) a xs:=Jy ok (.inl e)
end
noncomputable def BQ (H:Hp) (a:Addr) (y:V) (r:Option V):Prop :=
 (∃ kvs k,Rd H a (.dK kvs)/\y=kV k/\r=cE kvs k)\/∃ kvs k b,Rd H a (.dT kvs)/\y=.ref b/\H b=some (.tup (k.map kV))/\r=cE kvs k
noncomputable def rN (H:Hp) (a:Addr) (y v:V) (H':Hp):Prop :=
 (∃ kvs k,H a=some (.dK kvs)/\y=kV k/\kvs.length<sizeLine/\H'=upd H a (.dK (putK kvs k v))) \/
 ∃ kvs k b,H a=some (.dT kvs)/\y=.ref b/\H b=some (.tup (k.map kV))/\kvs.length<sizeLine/\H'=upd H a (.dT (putK kvs k v))
theorem BQ.k {H:Hp} {a:Addr} {kvs:List (Key×V)} {k:Key} (e:H a=some (.dK kvs)):BQ H a (kV k) (cE kvs k):=.inl ⟨kvs,k,.inl e,rfl,rfl⟩
theorem BQ.t {H:Hp} {a b:Addr} {kvs:List (List Key×V)} {k:List Key} (e:H a=some (.dT kvs)) (eb:H b=some (.tup (k.map kV))):BQ H a (.ref b) (cE kvs k):=.inr ⟨kvs,k,b,.inl e,rfl,eb,rfl⟩
theorem rN.k {H:Hp} {a:Addr} {kvs:List (Key×V)} {k:Key} {v:V} (e:H a=some (.dK kvs)) (hl:kvs.length<sizeLine):rN H a (kV k) v (upd H a (.dK (putK kvs k v))):=.inl ⟨kvs,k,e,rfl,hl,rfl⟩
theorem rN.t {H:Hp} {a b:Addr} {kvs:List (List Key×V)} {k:List Key} {v:V} (e:H a=some (.dT kvs)) (eb:H b=some (.tup (k.map kV))) (hl:kvs.length<sizeLine) :
  rN H a (.ref b) v (upd H a (.dT (putK kvs k v))):=.inr ⟨kvs,k,b,e,rfl,eb,hl,rfl⟩
section
variable {X:Cx} {pins:List (Addr×Obj)} {Z:St} {H:Hp} {s:Shared} {a:Addr} {y v:V} {u r:Value} {o:Option V} {A:Around} {E:Value->Shared->Prop}
theorem ua {h':Heap} {t':Nat} {ob:HO} (I:Inv X pins Z H s) (mu:JT (H a)) (hs:Heap.SameBut a s.heap h') (he:∃ q,h'.get? a=some q) (new:aW X.prog X.w (upd H a ob) h' a ob) :
  Inv X pins Z (upd H a ob) { s with heap:=h',toks:=t' } :=
 I.write (x:=a) (e:=a) mu (.inl rfl) (fun b q hb z=>(hs.2 b hb).trans z) he new
theorem Gb {P:Program} {w:World} {H':Hp} {h':Heap} {kvs:List (Key×V)} {vs:List (Key×Value)} (z:kvs.length<=sizeLine) (hd:(a == sysModules)=false) (rel:KV kvs vs) (dd:h'.DictOf (aJ P w) a vs) :
  aW P w H' h' a (.dK kvs):=⟨z,hd,vs,rel,dd⟩
theorem vf {H':Hp} {Q:Unit->Shared->Prop} (hu:A.units+1<cLine) (I:Inv X pins Z H s) (g:rN H a y v H') (ry:RelV y u) (rv:RelV v r) (h:∀ s',Inv X pins Z H' s'->Q () s') :
  wpAny (model X.prog X.w) A (setItem (.ref a) u r) Q E s:=by
 rcases g with ⟨kvs,k,e,ey,l,eH⟩ | ⟨kvs,k,b,e,ey,eb,l,eH⟩
 ·subst ey eH
  obtain ⟨z,hd,vs,rel,dd⟩:=JA I.hok e
  have hz:vs.length<=sizeLine:=by rw [<- rel.length];exact z
  have hl:(putK kvs k v).length<=sizeLine:=by have:=iT kvs k v;omega
  refine wpAny_setItem_pairs (hsz:=hz) (oR ry) dd fun h' Gf hs=>h _ ?_
  have he:∃ q,h'.get? a=some q:=let ⟨q,_,_,hq,_⟩:=Gf;⟨q,hq⟩
  exact ua I (by rw [e];exact True.intro) hs he (Gb hl hd (rel.put k rv) Gf)
 ·subst ey eH
  cases (show u=Value.ref b from ry)
  obtain ⟨z,hd,xs,rel,dd⟩:=Jz I.hok e
  have hz:xs.length<=sizeLine:=by rw [<- Paired.length rel];exact z
  have hl:(putK kvs k v).length<=sizeLine:=by have:=iT kvs k v;omega
  refine wpAny_setItem_heap (hsz:=hz) (tupleKind_room_in1 hu) (xG I.hok eb) dd fun h' Gf hs=>h _ ?_
  obtain ⟨q,es,ep,hq,h2,h3,h4,_,h5⟩:=Gf
  refine ua I (by rw [e];exact True.intro) hs ⟨q,hq⟩ ⟨hl,hd,_,(rel.put k eb rv).keeps fun c ys ec=>?_,q,es,ep,hq,h2,h3,h4,h5⟩
  rw [ao (Iw ec e (fun z=>nomatch z))]
  exact ec
end
section
variable {X:Cx} {pins:List (Addr×Obj)} {Z:St} {H:Hp} {s:Shared} {a:Addr} {kvs:List (Key×V)} {k:Key} {u:Value} {A:Around} {E:Value->Shared->Prop}
end
section
variable {X:Cx} {o i e value:Expr} {pos pos' tpos:Pos} {td ty tv:TE}
end
section
variable {X:Cx} {pos:Pos}
end
structure M1 (X:Cx) (o:Expr) (m:Str) (apos:Pos) (e:Expr) (cpos:Pos):Prop where
 base:attributeBase o m X.env (eval o X.env)=eval o X.env
 few:((backTo cpos (starEach [e] X.env)).all (fun x=>!x.1)&&(backToKw cpos (keywordEach [] X.env)).all (fun x=>x.1.isSome)
 &&decide (([e]:List Expr).length+([]:List Keyword).length+(if ([]:List Keyword).isEmpty then 0 else 1)<30))=true
 line:(apos.endLine == cpos.line)=true
 trees:backTo cpos (starEach [e] X.env)=[(false,eval e X.env)]
structure M2 (X:Cx) (o:Expr) (m:Str) (apos:Pos) (e f:Expr) (cpos:Pos):Prop where
 base:attributeBase o m X.env (eval o X.env)=eval o X.env
 few:((backTo cpos (starEach [e,f] X.env)).all (fun x=>!x.1)&&(backToKw cpos (keywordEach [] X.env)).all (fun x=>x.1.isSome)
 &&decide (([e,f]:List Expr).length+([]:List Keyword).length+(if ([]:List Keyword).isEmpty then 0 else 1)<30))=true
 line:(apos.endLine == cpos.line)=true
 trees:backTo cpos (starEach [e,f] X.env)=[(false,eval e X.env),(false,eval f X.env)]
section
variable {X:Cx} {pins:List (Addr×Obj)} {Z:St} {H:Hp} {s:Shared} {a:Addr} {y d:V} {u r:Value} {o:Option V} {A:Around} {E:Value->Shared->Prop}
end
section
variable {X:Cx} {o e f:Expr} {apos cpos:Pos} {td ty tx:TE}
end
section
variable {X:Cx} {pins:List (Addr×Obj)} {Z:St} {H:Hp} {s:Shared} {a:Addr} {kvs:List (Key×V)} {A:Around} {E:Value->Shared->Prop}
end
section
variable {X:Cx} {pins:List (Addr×Obj)} {Z:St} {H:Hp} {s:Shared} {a:Addr} {y:V} {u:Value} {A:Around} {E:Value->Shared->Prop}
end
end L2
namespace Att
open PySem PySem.W PySem.Calls PyProof.Rows
theorem i9 {P:Params} {h:Heap}:∀ (ns:List Int) (vs:List Value),WellAll P h vs (ns.map WData.int)->IntsAre vs ns:=by
 intro ns
 induction ns with
 | nil =>
  intro vs w
  rw [List.map_nil] at w
  cases w
  exact .nil
 | cons n ns ih =>
  intro vs w
  rw [List.map_cons] at w
  cases w with
  | cons a b =>
   cases a
   exact .cons _ _ (ih _ b)
theorem uF {l:OpenLaw} {n:Nat} (hn:l.most=some n) {P:Params} {h:Heap} {args:List WData} {vals:List Value}
  (hpre:l.row.toRowW.claim.pre args=true) (hwl:WellAll P h vals args) :
  ∃ a vs ns, vals=[Value.ref a]/\args=[WData.list (ns.map WData.int)]/\h.get? a=some { cls:=.type "list", data:=.seq vs.toArray }/\IntsAre vs ns/\ns.length<=n:=by
 have hsh:WShape.hasAll [] args [.list .int]=true:=(pre_splitW hpre).1
 have hc:l.pre.holds [] { args:=args }=true:=(pre_splitW hpre).2
 obtain ⟨d,r,rfl,h1,h2⟩:=hasAllW_cons hsh
 obtain rfl:=hasAllW_nil h2
 obtain ⟨xs,rfl,h3⟩:=hasW_list h1
 obtain ⟨ns,rfl⟩:=items_int h3
 have hlen:ns.length<=n:=by
  unfold OpenLaw.pre at hc
  have h4:(WTm.not (.lt (.lit (.int (n:Int))) (.len (.arg 0)))).holds [] { args:=[.list (ns.map .int)] }=true:=by
   have h4:=(holds_andW hc).1
   rw [hn] at h4
   exact h4
  have h5:=condW_of h4 (w_not (w_lt w_lit (w_len_list (w_arg rfl))))
  rw [List.length_map] at h5
  refine Nat.le_of_not_lt fun q=>?_
  have q':(n:Int)<((ns.length:Nat):Int):=by omega
  first
   | (rw [decide_eq_true q'] at h5;exact absurd h5 (by decide))
   | (simp at h5;omega)
 cases hwl with
 | cons w1 w2 =>
  cases w2
  cases w1 with
  | list ho hall=>exact ⟨_,_,ns,rfl,rfl,ho,i9 ns _ hall,hlen⟩
theorem uK (l:OpenLaw) (args:List WData):l.row.toRowW.claim.post args (.bool true) args=true :=
 postW_of (r:=l.row.toRowW) (X:=(true == true))
  (show WShape.has [] (.bool true) .bool=true by first | rfl | decide | simp [WShape.has,WShape.arms,WShape.armsAll])
  (show (WTm.eq .res (.lit (.bool true))).value [] { args:=args,res:=some (.bool true),after:=args }=some (.bool (true == true)) from w_eq_bool (w_res rfl) w_lit) rfl
theorem pS {l:OpenLaw} {n:Nat} {q:Program} {loose:List Str} {XP:(Str->Option Value)->Heap->Prop} {YP:World->Heap->Prop} {d:DefRec}
  (hn:l.most=some n) (hdf:d.params.defaults=[])
  (call:∀ (w:World) (s₀ s₁:Shared) (mg mb:Str->Option Value) (fa:Addr) (o:Obj) (pm cd doc:Value) (a:Addr) (vs:List Value) (ns:List Int),
   Ground q loose [] XP w s₀ mg mb s₁.heap->YP w s₁.heap ->
   s₁.heap.get? fa=some o->o.data=.func (docDef d.name d.params d.body d.scope pm cd doc)->s₁.heap.CodeRec cd d.name->mg d.name=some (.ref fa) ->
   s₁.heap.get? a=some { cls:=.type "list", data:=.seq vs.toArray }->IntsAre vs ns->ns.length<=n->s₁.gens=#[] ->
   codeAny (model l.prog w) callerA (.call (.ref fa) ⟨[.ref a],[]⟩) (fun r s'=>r=.ok (.ret (.bool true))/\OldK s₁.heap s'.heap/\s'.os=s₁.os/\AllBare s'.gens) s₁) :
  WalkO q loose XP YP l.row.toRowW d [] (fun f vs=>PySem.call f vs):=by
 intro w s₀ s₁ mg mb G Y fa o pm cd doc dV kV ho hd hcd hD hmg hg args vals as hpre hlay hrd hwl hlo
 obtain rfl:dV=.none:=Dflts.none hD hdf
 obtain rfl:kV=.none:=Dflts.noKw hD
 obtain ⟨a,vs,ns,rfl,rfl,hobj,hints,hlen⟩:=uF hn hpre hwl
 refine enter_call (codeAny_mono (call w s₀ s₁ mg mb fa o pm cd doc a vs ns G Y ho (fd_plain hd) hcd hmg hobj hints hlen hg) fun r s' hq=>?_)
 obtain ⟨rfl,h2,h3,h4⟩:=hq
 exact ⟨.inl ⟨.bool true,.bool true,[],rfl,fun _=>rfl,.bool true,uK l _,fun _=>⟨List.Pairwise.nil,fun _ hm=>(nomatch hm)⟩⟩,h2,h3,h4⟩
section
variable {prog:Program} {w:World} {A:Around} {E:Value->Shared->Prop} {s:Shared} {K:Frag}
end
end Att
namespace L2
open PySem PySem.Spec PyProof.Rows
theorem kQ:∀ {vs:List Value} {ns:List Int},IntsAre vs ns->Vals (ns.map V.int) vs
 | _,_,.nil=>.nil
 | _,_,.cons n t h=>.cons ⟨t,rfl⟩ (kQ h)
noncomputable def JS (H:Hp):Prop:=∀ b,H b=none\/∃ o xs,H b=some (.fQ o (.lst xs))
theorem xF {P:Program} {w:World} {K:PySem.W.Frag} {mg mb:Str->Option Value} {CX:yU} {k:Nat} {fa a:Addr} {fd:FuncData} {x:Str} {sp:Sp} {s₁:Shared} {vs:List Value} {ns:List Int}
  (KX:K.In s₁.heap) (hns:s₁.heap.Ns mainGlobals mg) (hb:s₁.heap.Ns builtinsNs mb) (hbb:∀ x:Str, x≠"__name__"->mb x=bootBuiltins x) (hlim:s₁.heap.NoLimit) (hg:s₁.gens=#[])
  (ha:s₁.heap.get? a=some { cls:=.type "list", data:=.seq vs.toArray }) (hi:IntsAre vs ns) (hl:ns.length<=sizeLine) (hr:cX k callerA)
  (F:∀ base:Heap,K.In base->base.Ns mainGlobals mg->cG P w K mg base CX k fa fd [x] sp) (hbind:∀ (s:Shared) (u:Value),BindsTo s fd ⟨[u],[]⟩ [(x,u)])
  (GK:∀ H:Hp,JS H->fc K H a (ns.map V.int)->sp [.ref a] H (fun v _=>v=.bl true) fun _ _ _=>False)
  (hCX:∀ H e s',CX [] H s₁ (fun _ _ _=>False) e s'->False) :
  codeAny (model P w) callerA (.call (.ref fa) ⟨[.ref a],[]⟩) (fun r s'=>r=.ok (.ret (.bool true))/\OldK s₁.heap s'.heap/\s'.os=s₁.os/\AllBare s'.gens) s₁:=by
 have rv:=kQ hi
 have oQ:=hi.length
 have core:∀ H:Hp,JS H->fc K H a (ns.map V.int)->gb P w H s₁.heap->(∀ b,H b≠none->b=a)->(H a≠none->K.lookup a=none) ->
   codeAny (model P w) callerA (.call (.ref fa) ⟨[.ref a],[]⟩) (fun r s'=>r=.ok (.ret (.bool true))/\OldK s₁.heap s'.heap/\s'.os=s₁.os/\AllBare s'.gens) s₁:=by
  intro H hO hS hok hA hK
  have jr:∀ {b:Addr} {o:Obj},s₁.heap.get? b=some o->H b=none->(mL s₁.heap H).get? b=some o:=fun e n=>ya e n
  have Ir:∀ {b:Addr} {o:Obj} {es:Array DictEntry} {ep:Nat},s₁.heap.get? b=some o->o.data=.dict es ep->H b=none:=fun {b o es ep} e d=>by
   cases q:H b with
   | none=>rfl
   | some u =>
    have e':b=a:=hA b (by rw [q];simp)
    subst e'
    rw [ha] at e;cases e
    have d':Data.seq vs.toArray _=Data.dict es ep:=d
    cases d'
  have Kd:∀ {b:Addr} {m:Str->Option Value},s₁.heap.Ns b m->(mL s₁.heap H).Ns b m:=fun {b m} ⟨o,es,ep,e,d,r⟩=>⟨o,es,ep,jr e (Ir e d),d,r⟩
  have hKb:K.In (mL s₁.heap H):=fun b o e=>jr (KX b o e) (by
   cases q:H b with
   | none=>rfl
   | some u =>
    have e':b=a:=hA b (by rw [q];simp)
    subst e'
    rw [hK (by rw [q];simp)] at e;cases e)
  have hM:Mod K mg (mL s₁.heap H):=⟨hKb,Kd hns,⟨mb,Kd hb,hbb⟩,let ⟨mc,h1,h2⟩:=hlim;⟨mc,Kd h1,h2⟩⟩
  have e0:rM P w K mg (mL s₁.heap H) callerA [] s₁ H:=⟨rfl,hM,fun b o e=>AG e,Nat.le_of_eq (u7 _ _),trivial,fun b hb=>absurd (show b∈([]:List Addr) from hb) (by simp),hok,.of_eq hg⟩
  refine codeAny_mono ((F _ hKb (Kd hns)).run callerA [] s₁ H ⟨[.ref a],[]⟩ [.ref a] [.ref a] _ _ hr e0 (hbind s₁ (.ref a)) (.cons rfl .nil) (GK H hO hS)) fun r s' h=>?_
  cases r with
  | error e=>exact (hCX H e s' h).elim
  | ok fl =>
   cases fl with
   | next=>exact False.elim h
   | brk=>exact False.elim h
   | cont=>exact False.elim h
   | ret u =>
    obtain ⟨v,H',os,bare,un,hok',r',q⟩:=h
    have q':v=.bl true:=q
    subst q'
    obtain rfl:u=Value.bool true:=r'
    refine ⟨rfl,OldK.of_keep fun b o e=>?_,os,bare⟩
    cases q:H b with
    | none=>exact un.keep b o e q (by intro z;exact absurd (show b∈([]:List Addr) from z) (by simp)) (by simp)
    | some u =>
     rcases hO b with z | ⟨ob,xs,z⟩
     ·rw [q] at z;cases z
     ·have z2:=un.fV b ob _ z
      obtain ⟨e1,_⟩:=hok b _ z
      obtain ⟨e2,_⟩:=hok' b _ z2
      rw [e] at e1;cases e1
      exact e2
 cases hk:K.lookup a with
 | some o =>
  have e:=KX a o hk
  rw [ha] at e
  cases e
  refine core (fun _=>none) (fun _=>.inl rfl) (.inr ⟨_,vs.toArray,_,hk,rfl,rfl,rfl,by rw [List.size_toArray,oQ];exact hl,by simpa using rv⟩) (fun b u z=>by have z':(none:Option HO)=some u:=z;cases z') (fun b z=>absurd rfl z) fun z=>absurd rfl z
 | none =>
  refine core (fun b=>if b=a then some (.fQ { cls:=.type "list", data:=.seq vs.toArray } (.lst (ns.map V.int))) else none) (fun b=>?_) (.inl (.inr ⟨{ cls:=.type "list", data:=.seq vs.toArray }, if_pos rfl⟩)) (fun b u z=>?_) (fun b z=>?_) fun _=>hk
  ·by_cases hb:b=a
   ·exact .inr ⟨_,_,if_pos hb⟩
   ·exact .inl (if_neg hb)
  ·by_cases hb:b=a
   ·have z':=(if_pos hb).symm.trans z
    cases z'
    subst hb
    exact ⟨ha,by rw [List.length_map];exact hl,vs,_,rv,ha⟩
   ·have z':=(if_neg hb).symm.trans z
    cases z'
  ·by_cases hb:b=a
   ·exact hb
   ·exact absurd (if_neg hb) z
noncomputable abbrev CX0:yU:=fun _ _ _ _ _ _=>False
structure Fun (K:PySem.W.Frag) (x qual:Str) (st:Stmt) (f:Addr) (fd:FuncData):Prop where
 ex:∃ (oc:Value) (od:Option Addr) (kV doc pm:Value) (an:Option Addr) (cdv ct:Value) (osl:Array (Option Value)),
  fd=PySem.W.fnOf x qual (g7 st) (bX st) (aC st) .none kV doc pm an cdv ct/\K.lookup f=some ⟨oc,od,.func fd,osl⟩/\PySem.W.codeIn K cdv qual=true
 kp:PySem.W.keepIn K (.ref f)=true
section
variable {P:Program} {w:World} {K:PySem.W.Frag} {mg:Str->Option Value} {base:Heap}
theorem Fun.ok {x qual:Str} {st:Stmt} {f:Addr} {fd:FuncData} {N ps:List Str} {k:Nat} {sp:Sp} (F:Fun K x qual st f fd) (S:dj N ps (aC st)) (len:∀ vs H Q E,sp vs H Q E->vs.length=ps.length)
  (hbody:∀ (cdv:Value) (A:Around) (outer:List Env) (s:Shared) (H:Hp) (vs:List V) (Q:VK) (E:XK),cX k (A.deeper (envOfC qual (aC st) s.heap.objs.size f cdv))->sp vs H Q E ->
   ∃ t,jt (g8 CX0 P w K mg base N qual (aC st) f cdv A outer s H E).Ck (bX st) t/\t { nx:=fun _ H'=>Q .ak H',rt:=Q } (start N vs) H):cG P w K mg base CX0 (k+1) f fd ps sp:=by
 obtain ⟨oc,od,kV,doc,pm,an,cdv,ct,osl,rfl,lk,hcd⟩:=F.ex
 refine CC lk hcd S len fun A outer s H vs Q E hr GK=>?_
 obtain ⟨t,h,q⟩:=hbody cdv A outer s H vs Q E hr GK
 exact ⟨t,h.Ck,q⟩
end
section
variable {X:Cx}
end
noncomputable def vz (H H':Hp):Prop:=∀ b o,H b=some o->H' b=some o
theorem vz.trans {H H1 H2:Hp} (a:vz H H1) (b:vz H1 H2):vz H H2:=fun c o h=>b c o (a c o h)
theorem vz.free {H H':Hp} (e:vz H H') {l:Addr} (h:H' l=Option.none):H l=Option.none:=by
 cases q:H l with
 | none=>rfl
 | some o =>
  rw [e l o q] at h
  cases h
section
variable {κ:Type} [DecidableEq κ]
end
end L2
end
section
namespace Fg
open PySem
section
variable {Φ:aQ} {Z:Sg} {M:MH}
@[simp] theorem j7 {i:Nat}:ev Φ (.v i) Z M=match Z[i]? with | some (some d)=>.ok d M | _=>.bad:=rfl
@[simp] theorem mW {d:D}:ev Φ (.k d) Z M=.ok d M:=rfl
@[simp] theorem ev_g {i:Nat}:ev Φ (.g i) Z M=match Φ.glob i with | some d=>.ok d M | none=>.bad:=rfl
@[simp] theorem cT {es:Es}:ev Φ (.tup es) Z M=(cJ Φ es Z M).bind fun ds M1=>.ok (.tup ds) M1:=rfl
@[simp] theorem yt {fz:Bool} {es:Es}:ev Φ (.lst fz es) Z M=(cJ Φ es Z M).bind fun ds M1=>bY fz ds M1:=rfl
@[simp] theorem KQ:ev Φ .Bw Z M=.ok (.ref M.length) (M++[.dct []]):=rfl
@[simp] theorem j8 {o:BL} {fz:Bool} {a b:E}:ev Φ (.op o fz a b) Z M=(ev Φ a Z M).bind fun x M1=>(ev Φ b Z M1).bind fun y M2=>uR o fz M2 x y:=rfl
@[simp] theorem FW {a:E}:ev Φ (.neg a) Z M=(ev Φ a Z M).bind fun x M1=>match x with | .int i=>.ok (.int (-i)) M1 | _=>.bad:=rfl
@[simp] theorem cz {o:zk} {a b:E}:ev Φ (.cmp o a b) Z M=(ev Φ a Z M).bind fun x M1=>(ev Φ b Z M1).bind fun y M2=>bh o M2 x y:=rfl
@[simp] theorem Jr {o o':zk} {a b c:E}:ev Φ (.chain o o' a b c) Z M=(ev Φ a Z M).bind fun x M1=>(ev Φ b Z M1).bind fun y M2=>(bh o M2 x y).bind fun t M3=>match t with
  | .bl true=>(ev Φ c Z M3).bind fun z M4=>bh o' M4 y z
  | .bl false=>.ok (.bl false) M3
  | _=>.bad:=rfl
@[simp] theorem FY {a b:E}:ev Φ (.and a b) Z M=(ev Φ a Z M).bind fun x M1=>match x with | .bl true=>(ev Φ b Z M1) | .bl false=>.ok (.bl false) M1 | _=>.bad:=rfl
@[simp] theorem Jq {a b:E}:ev Φ (.or a b) Z M=(ev Φ a Z M).bind fun x M1=>match x with | .bl true=>.ok (.bl true) M1 | .bl false=>(ev Φ b Z M1) | _=>.bad:=rfl
@[simp] theorem mV {a:E}:ev Φ (.not a) Z M=(ev Φ a Z M).bind fun x M1=>match x with | .bl b=>.ok (.bl (!b)) M1 | _=>.bad:=rfl
@[simp] theorem yu {c a b:E}:ev Φ (.x6 c a b) Z M=(ev Φ c Z M).bind fun x M1=>match x with | .bl true=>ev Φ a Z M1 | .bl false=>ev Φ b Z M1 | _=>.bad:=rfl
@[simp] theorem mX {a b:E}:ev Φ (.idx a b) Z M=(ev Φ a Z M).bind fun x M1=>(ev Φ b Z M1).bind fun y M2=>oS M2 x y:=rfl
@[simp] theorem Jp {fz:Bool} {a:E} {lo hi:O}:ev Φ (.sl fz a lo hi) Z M=(ev Φ a Z M).bind fun x M1=>(Bh Φ lo Z M1).bind fun l M2=>(Bh Φ hi Z M2).bind fun h M3=>sl2 fz M3 x l h:=rfl
@[simp] theorem c9 {f:Nat} {es:Es}:ev Φ (.call f es) Z M=(cJ Φ es Z M).bind fun ds M1=>Φ.call f ds M1:=rfl
@[simp] theorem qU {a:E} {t:Ty}:ev Φ (.lD a t) Z M=(ev Φ a Z M).bind fun x M1=>if vC M1 x then .ok (.bl (Fy M1 t x)) M1 else .bad:=rfl
@[simp] theorem mZ {b:Bl} {fz:Bool} {es:Es}:ev Φ (.blt b fz es) Z M=(cJ Φ es Z M).bind fun ds M1=>pR b fz M1 ds:=rfl
@[simp] theorem gy {m:Mt} {fz:Bool} {a:E} {es:Es}:ev Φ (.aK m fz a es) Z M=(ev Φ a Z M).bind fun x M1=>if oJ m M1 x then (cJ Φ es Z M1).bind fun ds M2=>gp m fz M2 x ds else .bad:=rfl
@[simp] theorem mY {fz:Bool} {caps tg:List Nat} {elt:E} {it:Src} {cond:O}:ev Φ (.comp fz caps tg elt it cond) Z M=(bQ Φ it Z M).bind fun p M1 =>
   ((bz (pB Φ cond) (ev Φ elt) tg (aO M1 p.1) p.2.1 (iM Z caps++List.replicate tg.length none) M1 []).fin (eO p.2.2 p.1)).bind fun ds M2=>bY fz ds M2:=rfl
@[simp] theorem fH {a:E} {f:Str}:ev Φ (.fld a f) Z M=(ev Φ a Z M).bind fun x M1=>match x with
  | .ref n=>match M1[n]? with
   | some (.ins _ fs)=>match fs.lookup f with
    | some d=>.ok d M1
    | none=>.bad
   | _=>.bad
  | _=>.bad:=rfl
@[simp] theorem FT {c m:Nat} {nm:Str} {a:E} {es:Es}:ev Φ (.cY c m nm a es) Z M=(ev Φ a Z M).bind fun x M1=>match x with
  | .ref n=>match M1[n]? with
   | some (.ins c' fs)=>if decide (c'=c)&&(fs.lookup nm).isNone then (cJ Φ es Z M1).bind fun ds M2=>Φ.call m (.ref n::ds) M2 else .bad
   | _=>.bad
  | _=>.bad:=rfl
@[simp] theorem FU {c i:Nat} {es:Es}:ev Φ (.new c i es) Z M=(cJ Φ es Z M).bind fun ds M1=>(Φ.ini i (.ref M1.length::ds) (M1++[.ins c []])).bind fun r M2=>match r with
  | .ak=>.ok (.ref M1.length) M2
  | _=>.bad:=rfl
@[simp] theorem ev_mx {hi:Bool} {a b:E}:ev Φ (.mx hi a b) Z M=(ev Φ a Z M).bind fun x M1=>(ev Φ b Z M1).bind fun y M2=>match x,y with
  | .int i,.int j=>.ok (.int (if hi then (if j > i then j else i) else (if j<i then j else i))) M2
  | _,_=>.bad:=rfl
@[simp] theorem ev_lrg {fz:Bool} {a b:E}:ev Φ (.Ke fz a b) Z M=(ev Φ a Z M).bind fun x M1=>(ev Φ b Z M1).bind fun y M2=>match x,y with
  | .int i,.int j=>if oB i&&(oB j&&decide ((j-i).toNat<=line)) then bY fz (dI i j) M2 else .bad
  | _,_=>.bad:=rfl
@[simp] theorem qV {f:F1} {a:E}:ev Φ (.j3 f a) Z M=(ev Φ a Z M).bind fun x M1=>match qR f x with
  | some d=>.ok d M1
  | none=>.bad:=rfl
@[simp] theorem ev_lr1 {fz:Bool} {a:E}:ev Φ (.Kf fz a) Z M=(ev Φ a Z M).bind fun x M1=>match x with
  | .int j=>if oB j then bY fz (dI 0 j) M1 else .bad
  | _=>.bad:=rfl
@[simp] theorem ev_rv {fz:Bool} {a:E}:ev Φ (.rv fz a) Z M=(ev Φ a Z M).bind fun x M1=>match vw M1 x with
  | .lst ds=>bY fz ds.reverse M1
  | _=>.bad:=rfl
@[simp] theorem KR {a:E}:ev Φ (.all1 a) Z M=(ev Φ a Z M).bind fun x M1=>match vw M1 x with
  | .lst ds=>match boolsOf ds with
   | some bs=>.ok (.bl (bs.all id)) M1
   | none=>.bad
  | _=>.bad:=rfl
@[simp] theorem bf:cJ Φ .nil Z M=.ok [] M:=rfl
@[simp] theorem aD {e:E} {es:Es}:cJ Φ (.cons e es) Z M=(ev Φ e Z M).bind fun x M1=>(cJ Φ es Z M1).bind fun xs M2=>.ok (x::xs) M2:=rfl
@[simp] theorem Jm:Bh Φ .none Z M=.ok none M:=rfl
@[simp] theorem yo {e:E}:Bh Φ (.some e) Z M=(ev Φ e Z M).bind fun x M1=>match x with | .int i=>.ok (some i) M1 | _=>.bad:=rfl
@[simp] theorem yr:pB Φ .none Z M=.ok (.bl true) M:=rfl
@[simp] theorem yq {e:E}:pB Φ (.some e) Z M=ev Φ e Z M:=rfl
@[simp] theorem CG {a:E}:bQ Φ (.e a) Z M=(ev Φ a Z M).bind fun x M1=>match itemsOf M1 x with | some ds=>.ok (x,ds,wk M1 x) (walk M1 x) | none=>.bad:=rfl
@[simp] theorem Bm {a:E}:bQ Φ (.eF a) Z M=(ev Φ a Z M).bind fun x M1=>match x with
  | .int j=>if oB j then .ok (.ak,dI 0 j,false) M1 else .bad
  | _=>.bad:=rfl
@[simp] theorem Jo {a b:E}:bQ Φ (.DC a b) Z M=(ev Φ a Z M).bind fun x M1=>(ev Φ b Z M1).bind fun y M2=>match uo x,uo y with
  | some i,some j=>if oB i&&oB j then .ok (.ak,dI i j,false) M2 else .bad
  | _,_=>.bad:=rfl
@[simp] theorem KP {a:E}:bQ Φ (.rev a) Z M=(ev Φ a Z M).bind fun x M1=>match sS x with
  | some ds=>.ok (.ak,ds.reverse,false) M1
  | none=>.bad:=rfl
@[simp] theorem Js {f:Nat} {es:Es} {d:Int}:ev Φ (.uf f es d) Z M=(cJ Φ es Z M).bind fun ds M1=>Φ.call f (ds++[.int d]) M1:=rfl
@[simp] theorem KO {a b:E}:bQ Φ (.zip a b) Z M=(ev Φ a Z M).bind fun x M1=>(ev Φ b Z M1).bind fun y M2=>match A6 x,A6 y with
  | some ds,some es=>.ok (.ak,GS ds es,false) M2
  | _,_=>.bad:=rfl
@[simp] theorem FP {i:Nat} {e:E}:ex Φ (.set i e) Z M=(ev Φ e Z M).use Z fun x M1=>.ok (.nx (Z.set i (some x))) M1:=rfl
@[simp] theorem Bg {a b e:E}:ex Φ (.qi a b e) Z M=(ev Φ e Z M).use Z fun x M1=>(ev Φ a Z M1).use Z fun y M2=>(ev Φ b Z M2).use Z fun z M3=>(l7 M3 y z x).use Z fun _ M4=>.ok (.nx Z) M4:=rfl
@[simp] theorem tN {a:E} {f:Str} {e:E}:ex Φ (.bK a f e) Z M=(ev Φ e Z M).use Z fun x M1=>(ev Φ a Z M1).use Z fun y M2=>match y with
  | .ref n=>match M2[n]? with
   | some (.ins c fs)=>if decide (fs.length<1000) then .ok (.nx Z) (M2.set n (.ins c (bI f x fs))) else .bad
   | _=>.bad
  | _=>.bad:=rfl
@[simp] theorem Bj:Bk Φ .nil Z M=.ok () M:=rfl
@[simp] theorem yp {e:E} {es:Es}:Bk Φ (.cons e es) Z M=(ev Φ e Z M).bind fun x M1=>if bS x then Bk Φ es Z M1 else .bad:=rfl
@[simp] theorem ym {c:Nat} {es:Es}:ex Φ (.raise c es) Z M=(Bk Φ es Z M).use Z fun _ M1=>.ok (.xc c Z) M1:=rfl
@[simp] theorem yk {b:Ss} {hs:Hs} {els:Ss}:ex Φ (.try b hs els) Z M=(exs Φ b Z M).bind fun o M1=>match o with
  | .nx Z1=>exs Φ els Z1 M1
  | .xc c Z1=>zc Φ hs c Z1 M1
  | o=>.ok o M1:=rfl
@[simp] theorem KI {c:Nat}:zc Φ .nil c Z M=.bad:=rfl
@[simp] theorem yh {cs:List Nat} {b:Ss} {hs:Hs} {c:Nat}:zc Φ (.cons cs b hs) c Z M=if cs.any (fun d=>Φ.sub c d) then exs Φ b Z M else zc Φ hs c Z M:=rfl
@[simp] theorem yj {tg:List Nat} {e:E}:ex Φ (.BS tg e) Z M=(ev Φ e Z M).use Z fun x M1=>match sets tg M1 x Z with | some Z1=>.ok (.nx Z1) M1 | none=>.bad:=rfl
@[simp] theorem Jk {e:E}:ex Φ (.ex e) Z M=(ev Φ e Z M).use Z fun _ M1=>.ok (.nx Z) M1:=rfl
@[simp] theorem ex_ret {e:E}:ex Φ (.ret e) Z M=(ev Φ e Z M).use Z fun x M1=>.ok (.rt x) M1:=rfl
@[simp] theorem KJ:ex Φ .DE Z M=.ok (.rt .ak) M:=rfl
@[simp] theorem j6 {c:E} {a b:Ss}:ex Φ (.ifs c a b) Z M=(ev Φ c Z M).use Z fun t M1=>match t with | .bl true=>exs Φ a Z M1 | .bl false=>exs Φ b Z M1 | _=>.bad:=rfl
@[simp] theorem FQ {tg:List Nat} {it:Src} {b:Ss}:ex Φ (.for tg it b) Z M=(bQ Φ it Z M).use Z fun p M1=>(bZ (exs Φ b) tg (aO M1 p.1) p.2.1 Z M1).fin (eO p.2.2 p.1):=rfl
@[simp] theorem gY {c:E} {b:Ss}:ex Φ (.while c b) Z M=aP (ev Φ c) (exs Φ b) Φ.turns Z M:=rfl
@[simp] theorem ex_brk:ex Φ .brk Z M=.ok (.bk Z) M:=rfl
@[simp] theorem KN:ex Φ .cont Z M=.ok (.ct Z) M:=rfl
@[simp] theorem KL:ex Φ .pass Z M=.ok (.nx Z) M:=rfl
@[simp] theorem KH:exs Φ .nil Z M=.ok (.nx Z) M:=rfl
@[simp] theorem ck {s:S} {ss:Ss}:exs Φ (.cons s ss) Z M=(ex Φ s Z M).bind fun o M1=>match o with | .nx Z1=>exs Φ ss Z1 M1 | o=>.ok o M1:=rfl
end
@[simp] theorem fin_ok {α:Type} {a:α} {M:MH} {f:MH->MH}:(R.ok a M).fin f=.ok a (f M):=rfl
@[simp] theorem KD {α:Type} {c:Nat} {M:MH} {f:MH->MH}:(R.exc c M:R α).fin f=.exc c (f M):=rfl
@[simp] theorem KG {α:Type} {f:MH->MH}:(R.bad:R α).fin f=.bad:=rfl
@[simp] theorem unwk_f {d:D} {M:MH}:eO false d M=M:=by cases d <;> rfl
@[simp] theorem tL {α:Type} {x:R α} {d:D}:x.fin (eO false d)=x:=by cases x <;> simp
@[simp] theorem wk_tup {M:MH} {ds:List D}:wk M (.tup ds)=false:=rfl
@[simp] theorem wk_lst {M:MH} {ds:List D}:wk M (.lst ds)=false:=rfl
@[simp] theorem wk_str {M:MH} {x:Str}:wk M (.str x)=false:=rfl
@[simp] theorem GU {M:MH} {ds:List D}:walk M (.tup ds)=M:=rfl
@[simp] theorem GW {M:MH} {ds:List D}:walk M (.lst ds)=M:=rfl
@[simp] theorem GV {M:MH} {x:Str}:walk M (.str x)=M:=rfl
theorem lZ {α:Type} {l:List α} {n:Nat} {a b:α} (h:l[n]? = some a):(l.set n b)[n]? = some b:=by
 obtain ⟨q,_⟩:=List.getElem?_eq_some_iff.mp h
 exact List.getElem?_set_self q
theorem iN {P:lR} {k i:Nat} {ds:List D} {M:MH} {fn:Fn} (h:P.fn i=some fn):(aa P (k+1)).call i ds M=qm (aa P k) fn ds M:=by simp only [aa,h]
@[simp] theorem dh {P:lR} {k:Nat}:(aa P k).turns=P.turns:=by cases k <;> rfl
@[simp] theorem vo {P:lR} {k:Nat}:(aa P k).sub=P.sub:=by cases k <;> rfl
theorem jQ {cond elt:Sg->MH->R D} {i:Nat} {eY:MH->Bool} {M:MH} {f:D->D} {p:D->Bool} (hc:eY M=true):∀ (ds acc:List D) (Z:Sg),(∀ d∈ds,cond (Z.set i (some d)) M=.ok (.bl (p d)) M/\(p d=true->elt (Z.set i (some d)) M=.ok (f d) M)) ->
  acc.length+ds.length<=line->bz cond elt [i] eY ds Z M acc=.ok (acc++(ds.filter p).map f) M
 | [],acc,Z,_,_=>by simp [bz]
 | d::ds,acc,Z,h,hl=>by
  obtain ⟨h1,h2⟩:=h d List.mem_cons_self
  have ih:=fun acc'=>jQ (cond:=cond) (elt:=elt) (i:=i) (eY:=eY) (M:=M) (f:=f) (p:=p) hc ds acc' (Z.set i (some d)) (fun e he=>by rw [List.set_set];exact h e (List.mem_cons_of_mem _ he))
  simp only [List.length_cons] at hl
  rw [bz]
  simp only [sets,h1,R.af]
  cases hp:p d with
  | true =>
   have hlt:acc.length<line:=by omega
   simp only [h2 hp,R.af,hc,if_true,hlt,decide_true]
   rw [ih (acc++[f d]) (by simp;omega)]
   simp [List.filter_cons,hp]
  | false =>
   simp only [hc,if_true]
   rw [ih acc (by omega)]
   simp [List.filter_cons,hp]
@[simp] theorem cU {α:Type} {a:α} {l:List α}:dU (a::l) 0=some a:=by
 have:(0:Int)<((a::l).length:Int):=by simp only [List.length_cons];omega
 simp only [dU,yZ,if_pos (Int.le_refl 0),if_pos this];rfl
@[simp] theorem kB {α:Type} {a b:α} {l:List α}:dU (a::b::l) 1=some b:=by
 have:(1:Int)<((a::b::l).length:Int):=by simp only [List.length_cons];omega
 simp only [dU,yZ,if_pos (show (0:Int)<=1 by decide),if_pos this];rfl
@[simp] theorem JK {α:Type} {a b c:α} {l:List α}:dU (a::b::c::l) 2=some c:=by
 have:(2:Int)<((a::b::c::l).length:Int):=by simp only [List.length_cons];omega
 simp only [dU,yZ,if_pos (show (0:Int)<=2 by decide),if_pos this];rfl
@[simp] theorem CJ:aI D.ak D.ak=true:=by simp only [aI]
@[simp] theorem CK {x:Int} {y:Int}:aI (D.int x) (D.int y)=decide (x=y):=by simp only [aI]
@[simp] theorem CI {x:Str} {y:Str}:aI (D.str x) (D.str y)=decide (x=y):=by simp only [aI]
@[simp] theorem pC {x:List D} {y:List D}:aI (D.tup x) (D.tup y)=dF x y:=by simp only [aI]
@[simp] theorem fJ {x:List D} {y:List D}:aI (D.lst x) (D.lst y)=dF x y:=by simp only [aI]
@[simp] theorem KS:dF [] []=true:=by simp only [dF]
@[simp] theorem Bp {a:D} {l:List D}:dF (a::l) []=false:=by simp only [dF]
@[simp] theorem Bq {a b:D} {l m:List D}:dF (a::l) (b::m)=(aI a b&&dF l m):=by simp only [dF]
section
variable {Φ:aQ} {Z Z':Sg} {M M1 M2:MH} {e c:E} {x:D} {ss a b:Ss} {i:Nat}
theorem aq (h:ev Φ e Z M=.ok x M1):exs Φ (.cons (.set i e) ss) Z M=exs Φ ss (Z.set i (some x)) M1:=by simp [h]
theorem aL (h:ev Φ e Z M=.ok x M1):exs Φ (.cons (.ex e) ss) Z M=exs Φ ss Z M1:=by simp [h]
theorem bL (h:ev Φ e Z M=.ok x M1):exs Φ (.cons (.ret e) ss) Z M=.ok (.rt x) M1:=by simp [h]
theorem bq (h:ev Φ c Z M=.ok (.bl false) M1):exs Φ (.cons (.ifs c a .nil) ss) Z M=exs Φ ss Z M1:=by simp [h]
theorem aZ (h:ev Φ c Z M=.ok (.bl false) M1) (hb:exs Φ b Z M1=.ok (.nx Z') M2):exs Φ (.cons (.ifs c a b) ss) Z M=exs Φ ss Z' M2:=by simp [h,hb]
theorem eB (h:ev Φ c Z M=.ok (.bl true) M1) (ha:exs Φ a Z M1=.ok (.nx Z') M2):exs Φ (.cons (.ifs c a b) ss) Z M=exs Φ ss Z' M2:=by simp [h,ha]
theorem iQ (h:ev Φ c Z M=.ok (.bl true) M1) (ha:exs Φ a Z M1=.ok (.rt x) M2):exs Φ (.cons (.ifs c a b) ss) Z M=.ok (.rt x) M2:=by simp [h,ha]
theorem B7 {tg:List Nat} {it:Src} {d:D} {ds:List D} (h:bQ Φ it Z M=.ok (d,ds,false) M1) (hl:bZ (exs Φ b) tg (aO M1 d) ds Z M1=.ok (.nx Z') M2):exs Φ (.cons (.for tg it b) ss) Z M=exs Φ ss Z' M2:=by simp [h,hl]
theorem bC {P:lR} {k f:Nat} {fn:Fn} {ds:List D} {d:D} {M':MH} {r:R D} (hf:P.fn f=some fn) (hn:ds.length=fn.np) (hb:exs (aa P k) fn.body (ds.map some++List.replicate (fn.ns-fn.np) none) M=.ok (.rt d) M') (hr:fU fn.keep M d M'=r):(aa P (k+1)).call f ds M=r:=by
 rw [iN hf]
 have h1:ds.length+fn.kr.length-fn.np=fn.kr.length:=by omega
 simp only [qm,h1,List.drop_length,List.append_nil,hb]
 rw [if_pos (by simp;omega)]
 exact hr
theorem jD {M:MH} {d:D} {M':MH} (h:nr M.length d=true) (ht:M'.take M.length=M):fU false M d M'=.ok d M:=by
 unfold fU;rw [if_pos ⟨rfl,ht⟩,if_pos h]
end
theorem AF {n:Nat} (h:n<=1000000):oB (n:Int)=true:=by simp only [oB,decide_eq_true_eq];omega
@[simp] theorem J7 {M:MH} {ds:List D}:vC M (.tup ds)=true:=rfl
@[simp] theorem Ka {M:MH} {ds:List D}:vC M (.lst ds)=true:=rfl
@[simp] theorem Kc {M:MH} {i:Int}:vC M (.int i)=true:=rfl
@[simp] theorem J8 {M:MH} {x:Str}:vC M (.str x)=true:=rfl
@[simp] theorem okT_bl {M:MH} {b:Bool}:vC M (.bl b)=true:=rfl
@[simp] theorem J9 {M:MH}:vC M .ak=true:=rfl
end Fg
end
section
namespace Fg
open PySem L2
structure Bd where
 K:W.Frag
 dk:Addr->List (Key×V)->Prop
 cls:Nat->Option Addr
 exc:Nat->Value->Prop
 JZ:Nat->Option Addr
noncomputable def KTup (K:W.Frag) (a:Addr) (xs:List V):Prop :=
 ∃ (o:Obj) (its:Array Value) (n:Nat), K.lookup a=some o/\o.cls=.type "tuple"/\o.data=.seq its n/\its.size<=sizeLine/\Vals xs its.toList
noncomputable def KLst (K:W.Frag) (a:Addr) (xs:List V):Prop :=
 ∃ (o:Obj) (its:Array Value) (n:Nat), K.lookup a=some o/\o.cls=.type "list"/\o.dict=none/\o.data=.seq its n/\its.size<=sizeLine/\Vals xs its.toList
noncomputable def FzT (B:Bd) (F:Addr->Prop) (H:Hp) (a:Addr) (xs:List V):Prop:=(F a/\Rd H a (.tup xs))\/KTup B.K a xs
noncomputable def FzL (B:Bd) (F:Addr->Prop) (H:Hp) (a:Addr) (xs:List V):Prop:=(F a/\Rd H a (.lst xs))\/KLst B.K a xs
noncomputable def FzD (B:Bd) (F:Addr->Prop) (H:Hp) (a:Addr) (kvs:List (Key×V)):Prop:=(F a/\Rd H a (.dK kvs))\/B.dk a kvs
theorem FzT.sq {B:Bd} {F:Addr->Prop} {H:Hp} {a:Addr} {xs:List V} (h:FzT B F H a xs):iO B.K H a xs:=by
 rcases h with ⟨_,h⟩ | h
 ·exact .inl h
 ·exact .inr h
theorem FzL.sq {B:Bd} {F:Addr->Prop} {H:Hp} {a:Addr} {xs:List V} (h:FzL B F H a xs):fc B.K H a xs:=by
 rcases h with ⟨_,h⟩ | h
 ·exact .inl h
 ·exact .inr h
mutual
noncomputable def RD (B:Bd) (F:Addr->Prop) (ρ:List Addr) (H:Hp):D->V->Prop
 | .ak,v=>v=.ak
 | .bl b,v=>v=.bl b
 | .int i,v=>v=.int i
 | .str x,v=>v=.str x
 | .tup ds,v=>∃ a vs,v=.ref a/\FzT B F H a vs/\aj B F ρ H ds vs
 | .lst ds,v=>∃ a vs,v=.ref a/\FzL B F H a vs/\aj B F ρ H ds vs
 | .dct ks ds,v=>∃ a kvs,v=.ref a/\FzD B F H a kvs/\kvs.map (·.1)=ks/\aj B F ρ H ds (kvs.map (·.2))
 | .ref n,v=>∃ a,ρ[n]? = some a/\v=.ref a
noncomputable def aj (B:Bd) (F:Addr->Prop) (ρ:List Addr) (H:Hp):List D->List V->Prop
 | [],vs=>vs=[]
 | d::ds,vs=>∃ v ws,vs=v::ws/\RD B F ρ H d v/\aj B F ρ H ds ws
end
structure Ext0 (F:Addr->Prop) (ρ:List Addr) (H:Hp) (F':Addr->Prop) (ρ':List Addr) (H':Hp):Prop where
 s:∀ a∈ρ,¬ F a
 f:∀ a,F a->F' a
 h:∀ a,H a≠none->a∉ρ->H' a=H a
 r:ρ <+: ρ'
 n:∀ a∈ρ',a∈ρ\/H a=none
 g:∀ a,F' a->F a\/(H a=none\/a∈ρ)
structure pX (F:Addr->Prop) (ρ:List Addr) (H:Hp) (F':Addr->Prop) (ρ':List Addr) (H':Hp):Prop where
 f:∀ a,F a->F' a
 k:∀ a,F a->H a≠none->H' a=H a
 r:ρ <+: ρ'
theorem Ext0.Jl {F F':Addr->Prop} {ρ ρ':List Addr} {H H':Hp} (e:Ext0 F ρ H F' ρ' H'):pX F ρ H F' ρ' H':=⟨e.f,fun a fa h=>e.h a h fun z=>e.s a z fa,e.r⟩
section
variable {B:Bd} {F F' F1:Addr->Prop} {ρ ρ' ρ1:List Addr} {H H' H1:Hp}
theorem Ca {a:Addr} {u:HO} (h:Rd H a u):H a≠none:=by
 rcases h with h | ⟨o,h⟩ <;> rw [h] <;> simp
theorem pX.rd (e:pX F ρ H F' ρ' H') {a:Addr} {u:HO} (f:F a) (h:Rd H a u):Rd H' a u:=by
 have q:=e.k a f (Ca h)
 rcases h with h | ⟨o,h⟩
 ·exact .inl (q.trans h)
 ·exact .inr ⟨o,q.trans h⟩
theorem pX.at (e:pX F ρ H F' ρ' H') {n:Nat} {a:Addr} (h:ρ[n]? = some a):ρ'[n]? = some a:=by
 obtain ⟨t,rfl⟩:=e.r
 have hn:n<ρ.length:=by
  rcases Nat.lt_or_ge n ρ.length with q | q
  ·exact q
  ·rw [List.getElem?_eq_none_iff.mpr q] at h;cases h
 rw [List.getElem?_append_left hn];exact h
mutual
theorem RD.aU (e:pX F ρ H F' ρ' H'):∀ (d:D) (v:V),RD B F ρ H d v->RD B F' ρ' H' d v
 | .ak,v,h=>h
 | .bl _,v,h=>h
 | .int _,v,h=>h
 | .str _,v,h=>h
 | .tup ds,v,h=>by
  simp only [RD] at h ⊢
  obtain ⟨a,vs,h1,h2,h3⟩:=h
  refine ⟨a,vs,h1,?_,aj.aU e ds vs h3⟩
  rcases h2 with ⟨f,r⟩ | h2
  ·exact .inl ⟨e.f a f,e.rd f r⟩
  ·exact .inr h2
 | .lst ds,v,h=>by
  simp only [RD] at h ⊢
  obtain ⟨a,vs,h1,h2,h3⟩:=h
  refine ⟨a,vs,h1,?_,aj.aU e ds vs h3⟩
  rcases h2 with ⟨f,r⟩ | h2
  ·exact .inl ⟨e.f a f,e.rd f r⟩
  ·exact .inr h2
 | .dct ks ds,v,h=>by
  simp only [RD] at h ⊢
  obtain ⟨a,kvs,h1,h2,h4,h3⟩:=h
  refine ⟨a,kvs,h1,?_,h4,aj.aU e ds _ h3⟩
  rcases h2 with ⟨f,r⟩ | h2
  ·exact .inl ⟨e.f a f,e.rd f r⟩
  ·exact .inr h2
 | .ref n,v,h=>by
  simp only [RD] at h ⊢
  obtain ⟨a,h1,h2⟩:=h
  exact ⟨a,e.at h1,h2⟩
theorem aj.aU (e:pX F ρ H F' ρ' H'):∀ (ds:List D) (vs:List V),aj B F ρ H ds vs->aj B F' ρ' H' ds vs
 | [],vs,h=>h
 | d::ds,vs,h=>by
  simp only [aj] at h ⊢
  obtain ⟨v,ws,h1,h2,h3⟩:=h
  exact ⟨v,ws,h1,RD.aU e d v h2,aj.aU e ds ws h3⟩
end
theorem Ext0.at (e:Ext0 F ρ H F' ρ' H') {n:Nat} {a:Addr} (h:ρ[n]? = some a):ρ'[n]? = some a:=e.Jl.at h
theorem RD.bx (e:Ext0 F ρ H F' ρ' H') (d:D) (v:V) (h:RD B F ρ H d v):RD B F' ρ' H' d v:=RD.aU e.Jl d v h
theorem aj.bx (e:Ext0 F ρ H F' ρ' H') (ds:List D) (vs:List V) (h:aj B F ρ H ds vs):aj B F' ρ' H' ds vs:=aj.aU e.Jl ds vs h
structure Ext (F:Addr->Prop) (ρ:List Addr) (H:Hp) (F':Addr->Prop) (ρ':List Addr) (H':Hp):Prop extends Ext0 F ρ H F' ρ' H' where
 z:∀ a o u,H a=some (.fQ o u)->H' a=some (.fQ o u)
theorem RD.mono (e:Ext F ρ H F' ρ' H') (d:D) (v:V) (h:RD B F ρ H d v):RD B F' ρ' H' d v:=RD.bx e.toExt0 d v h
theorem aj.mono (e:Ext F ρ H F' ρ' H') (ds:List D) (vs:List V) (h:aj B F ρ H ds vs):aj B F' ρ' H' ds vs:=aj.bx e.toExt0 ds vs h
theorem Ext.trans (a:Ext F ρ H F1 ρ1 H1) (b:Ext F1 ρ1 H1 F' ρ' H'):Ext F ρ H F' ρ' H' where
 s:=a.s
 f:=fun x h=>b.f x (a.f x h)
 h:=fun x h1 h2=>by
  have q:=a.h x h1 h2
  have n1:x∉ρ1:=fun z=>(a.n x z).elim h2 h1
  exact (b.h x (by rw [q];exact h1) n1).trans q
 r:=List.IsPrefix.trans a.r b.r
 n:=fun x hx=>by
  rcases b.n x hx with q | q
  ·exact a.n x q
  ·by_cases hr:x∈ρ
   ·exact .inl hr
   ·refine .inr ?_
    cases hh:H x with
    | none=>rfl
    | some u =>
     have:=a.h x (by rw [hh];simp) hr
     rw [q,hh] at this;cases this
 g:=fun x hx=>by
  rcases b.g x hx with q | q | q
  ·exact a.g x q
  ·by_cases hr:x∈ρ
   ·exact .inr (.inr hr)
   ·refine .inr (.inl ?_)
    cases hh:H x with
    | none=>rfl
    | some u =>
     have:=a.h x (by rw [hh];simp) hr
     rw [q,hh] at this;cases this
  ·rcases a.n x q with z | z
   ·exact .inr (.inr z)
   ·exact .inr (.inl z)
 z:=fun x o u h=>b.z x o u (a.z x o u h)
theorem Ext.refl (s:∀ a∈ρ,¬ F a):Ext F ρ H F ρ H:=⟨⟨s,fun _ h=>h,fun _ _ _=>rfl,List.prefix_refl _,fun _ h=>.inl h,fun _ h=>.inl h⟩,fun _ _ _ h=>h⟩
end
noncomputable def MR (B:Bd) (F:Addr->Prop) (ρ:List Addr) (H:Hp):MO->Addr->Prop
 | .lst ds,a=>∃ vs,H a=some (.lst vs)/\aj B F ρ H ds vs
 | .dct kvs,a=>∃ kws,H a=some (.dK kws)/\kws.map (·.1)=kvs.map (·.1)/\aj B F ρ H (kvs.map (·.2)) (kws.map (·.2))
 | .nE kvs,a=>∃ o kws,H a=some (.fQ o (.dK kws))/\kws.map (·.1)=kvs.map (·.1)/\aj B F ρ H (kvs.map (·.2)) (kws.map (·.2))
 | .ins c fs,a=>∃ C dx eK,B.cls c=some C/\H a=some (.ins C dx eK)/\eK.map (·.1)=fs.map (·.1)/\aj B F ρ H (fs.map (·.2)) (eK.map (·.2))
theorem MR.aU {B:Bd} {F F':Addr->Prop} {ρ ρ':List Addr} {H H':Hp} (e:pX F ρ H F' ρ' H') {a:Addr} (ha:H' a=H a):∀ {o:MO},MR B F ρ H o a->MR B F' ρ' H' o a
 | .lst ds,⟨vs,h1,h2⟩=>⟨vs,ha.trans h1,aj.aU e _ _ h2⟩
 | .dct kvs,⟨kws,h1,h2,h3⟩=>⟨kws,ha.trans h1,h2,aj.aU e _ _ h3⟩
 | .nE kvs,⟨o,kws,h1,h2,h3⟩=>⟨o,kws,ha.trans h1,h2,aj.aU e _ _ h3⟩
 | .ins c fs,⟨C,dx,eK,h0,h1,h2,h3⟩=>⟨C,dx,eK,h0,ha.trans h1,h2,aj.aU e _ _ h3⟩
theorem MR.bx {B:Bd} {F F':Addr->Prop} {ρ ρ':List Addr} {H H':Hp} (e:Ext0 F ρ H F' ρ' H') {a:Addr} (ha:H' a=H a) {o:MO} (h:MR B F ρ H o a):MR B F' ρ' H' o a:=h.aU e.Jl ha
theorem MR.mono {B:Bd} {F F':Addr->Prop} {ρ ρ':List Addr} {H H':Hp} (e:Ext F ρ H F' ρ' H') {a:Addr} (ha:H' a=H a) {o:MO} (h:MR B F ρ H o a):MR B F' ρ' H' o a:=h.bx e.toExt0 ha
theorem MR.ne {B:Bd} {F:Addr->Prop} {ρ:List Addr} {H:Hp} {a:Addr}:∀ {o:MO},MR B F ρ H o a->H a≠none
 | .lst ds,⟨vs,h1,h2⟩=>by rw [h1];simp
 | .dct kvs,⟨kws,h1,_⟩=>by rw [h1];simp
 | .nE kvs,⟨o,kws,h1,_⟩=>by rw [h1];simp
 | .ins c fs,⟨C,dx,eK,_,h1,_⟩=>by rw [h1];simp
structure SR (B:Bd) (F:Addr->Prop) (ρ:List Addr) (M:MH) (H:Hp):Prop where
 len:ρ.length=M.length
 nd:ρ.Nodup
 sep:∀ a∈ρ,¬ F a
 A7:∀ a,F a->H a≠none
 obj:∀ (n:Nat) (a:Addr) (o:MO),ρ[n]? = some a->M[n]? = some o->MR B F ρ H o a
section
variable {B:Bd} {F F' F1:Addr->Prop} {ρ ρ' ρ1:List Addr} {H H' H1:Hp} {M M':MH}
theorem SR.ne (S:SR B F ρ M H) {a:Addr} (h:a∈ρ):H a≠none:=by
 obtain ⟨n,hn,e⟩:=List.mem_iff_getElem.mp h
 have hm:n<M.length:=by rw [<- S.len];exact hn
 exact (S.obj n a M[n] (by rw [List.getElem?_eq_getElem hn,e]) (List.getElem?_eq_getElem hm)).ne
theorem SR.new (S:SR B F ρ M H) {p:Addr} (h:H p=none):p∉ρ/\¬ F p:=⟨fun z=>S.ne z h,fun z=>S.A7 p z h⟩
theorem SR.refl (S:SR B F ρ M H):Ext F ρ H F ρ H:=Ext.refl S.sep
theorem SR.fz (S:SR B F ρ M H) {p:Addr} (h:H p=none) (o:HO):SR B (fun a=>F a\/a=p) ρ M (upd H p o)/\Ext F ρ H (fun a=>F a\/a=p) ρ (upd H p o):=by
 obtain ⟨np,nf⟩:=S.new h
 have e:Ext F ρ H (fun a=>F a\/a=p) ρ (upd H p o):=⟨⟨S.sep,fun a q=>.inl q,fun a q _=>ao (by rintro rfl;exact q h),List.prefix_refl _,fun a q=>.inl q,fun a q=>q.elim .inl fun z=>.inr (.inl (z ▸ h))⟩,fun b w u q=>by rw [ao (by rintro rfl;rw [h] at q;cases q)];exact q⟩
 refine ⟨⟨S.len,S.nd,fun a ha z=>?_,fun a z=>?_,fun n a u h1 h2=>?_⟩,e⟩
 ·rcases z with z | z
  ·exact S.sep a ha z
  ·subst z;exact np ha
 ·by_cases q:a=p
  ·subst q;rw [ay];simp
  ·rw [ao q]
   rcases z with z | z
   ·exact S.A7 a z
   ·exact absurd z q
 ·have m:=S.obj n a u h1 h2
  exact m.mono e (ao (by rintro rfl;exact m.ne h))
theorem SR.lv (S:SR B F ρ M H) {p:Addr} (h:H p=none) {o:HO} {u:MO} (hu:MR B F (ρ++[p]) (upd H p o) u p):SR B F (ρ++[p]) (M++[u]) (upd H p o)/\Ext F ρ H F (ρ++[p]) (upd H p o):=by
 obtain ⟨np,nf⟩:=S.new h
 have e:Ext F ρ H F (ρ++[p]) (upd H p o):=⟨⟨S.sep,fun a q=>q,fun a q _=>ao (by rintro rfl;exact q h),List.prefix_append _ _,fun a q=>by
  rcases List.mem_append.mp q with q | q
  ·exact .inl q
  ·rw [List.mem_singleton.mp q];exact .inr h,fun _ q=>.inl q⟩,fun b w u q=>by rw [ao (by rintro rfl;rw [h] at q;cases q)];exact q⟩
 refine ⟨⟨by simp [S.len],?_,fun a ha z=>?_,fun a z=>?_,fun n a w h1 h2=>?_⟩,e⟩
 ·rw [List.nodup_append]
  refine ⟨S.nd,by simp,fun a ha b hb=>?_⟩
  rw [List.mem_singleton.mp hb]
  rintro rfl
  exact np ha
 ·rcases List.mem_append.mp ha with q | q
  ·exact S.sep a q z
  ·rw [List.mem_singleton.mp q] at z;exact nf z
 ·have q:a≠p:=by rintro rfl;exact nf z
  rw [ao q];exact S.A7 a z
 ·by_cases hn:n<ρ.length
  ·rw [List.getElem?_append_left hn] at h1
   rw [List.getElem?_append_left (by rw [<- S.len];exact hn)] at h2
   have m:=S.obj n a w h1 h2
   exact m.mono e (ao (by rintro rfl;exact m.ne h))
  ·have hn':ρ.length<=n:=Nat.le_of_not_lt hn
   rw [List.getElem?_append_right hn'] at h1
   rw [List.getElem?_append_right (by rw [<- S.len];exact hn'),<- S.len] at h2
   cases k:n-ρ.length with
   | zero =>
    rw [k] at h1 h2
    cases h1;cases h2
    exact hu
   | succ j=>rw [k] at h1;simp at h1
theorem SR.i8 (S:SR B F ρ M H) {n:Nat} {a:Addr} {o:HO} {u:MO} (hn:ρ[n]? = some a) (hu:MR B F ρ (upd H a o) u a):SR B F ρ (M.set n u) (upd H a o)/\Ext0 F ρ H F ρ (upd H a o):=by
 have ha:a∈ρ:=List.mem_of_getElem? hn
 have e:Ext0 F ρ H F ρ (upd H a o):=⟨S.sep,fun _ q=>q,fun b q nb=>ao (by rintro rfl;exact nb ha),List.prefix_refl _,fun _ q=>.inl q,fun _ q=>.inl q⟩
 refine ⟨⟨by simp [S.len],S.nd,S.sep,fun b z=>?_,fun m b w h1 h2=>?_⟩,e⟩
 ·have q:b≠a:=by rintro rfl;exact S.sep b ha z
  rw [ao q];exact S.A7 b z
 ·by_cases q:m=n
  ·subst q
   rw [hn] at h1;cases h1
   rw [List.getElem?_set] at h2
   split at h2
   ·split at h2
    ·cases h2;exact hu
    ·cases h2
   ·rename_i z;exact absurd rfl z
  ·rw [List.getElem?_set_ne (Ne.symm q)] at h2
   have ne:b≠a:=by
    rintro rfl
    obtain ⟨m1,e1⟩:=List.getElem?_eq_some_iff.mp h1
    obtain ⟨m2,e2⟩:=List.getElem?_eq_some_iff.mp hn
    exact q ((List.getElem_inj S.nd).mp (e1.trans e2.symm))
   exact (S.obj m b w h1 h2).bx e (ao ne)
theorem SR.st (S:SR B F ρ M H) {n:Nat} {a:Addr} {o:HO} {u:MO} (hn:ρ[n]? = some a) (hz:∀ w v,H a≠some (.fQ w v)) (hu:MR B F ρ (upd H a o) u a):SR B F ρ (M.set n u) (upd H a o)/\Ext F ρ H F ρ (upd H a o) :=
 ⟨(S.i8 hn hu).1,⟨(S.i8 hn hu).2,fun b w v q=>by rw [ao (by rintro rfl;exact hz w v q)];exact q⟩⟩
theorem Ext0.at_ (S:SR B F ρ M H) {n:Nat} {a:Addr} {o:HO} (hn:ρ[n]? = some a):Ext0 F ρ H F ρ (upd H a o) :=
 ⟨S.sep,fun _ q=>q,fun b q nb=>ao (by rintro rfl;exact nb (List.mem_of_getElem? hn)),List.prefix_refl _,fun _ q=>.inl q,fun _ q=>.inl q⟩
theorem pX.side {D:Addr} (hF:¬ F D) (o:HO):pX F ρ H F ρ (upd H D o):=⟨fun _ h=>h,fun a fa _=>ao (by rintro rfl;exact hF fa),List.prefix_refl _⟩
theorem SR.side (S:SR B F ρ M H) {D:Addr} (hD:D∉ρ) (hF:¬ F D) (o:HO):SR B F ρ M (upd H D o) :=
 ⟨S.len,S.nd,S.sep,fun a fa=>by rw [ao (by rintro rfl;exact hF fa)];exact S.A7 a fa,fun n a w h1 h2=>(S.obj n a w h1 h2).aU (pX.side hF o) (ao (by rintro rfl;exact hD (List.mem_of_getElem? h1)))⟩
theorem SR.take (S:SR B F ρ M H) {D:Addr} (hD:D∉ρ) (hn:H D≠none):SR B (fun a=>F a\/a=D) ρ M H :=
 ⟨S.len,S.nd,fun a ha z=>z.elim (S.sep a ha) fun e=>hD (e ▸ ha),fun a z=>z.elim (S.A7 a) fun e=>e ▸ hn,fun n a w h1 h2=>(S.obj n a w h1 h2).aU ⟨fun _ h=>.inl h,fun _ _ _=>rfl,List.prefix_refl _⟩ rfl⟩
theorem SR.hold (S:SR B F ρ M H) {D:Addr} {u:MO} (hD:D∉ρ) (hF:¬ F D) (hu:MR B F (ρ++[D]) H u D):SR B F (ρ++[D]) (M++[u]) H:=by
 refine ⟨by simp [S.len],?_,fun a ha z=>?_,S.A7,fun n a w h1 h2=>?_⟩
 ·rw [List.nodup_append]
  refine ⟨S.nd,by simp,fun a ha b hb=>?_⟩
  rw [List.mem_singleton.mp hb]
  rintro rfl
  exact hD ha
 ·rcases List.mem_append.mp ha with q | q
  ·exact S.sep a q z
  ·rw [List.mem_singleton.mp q] at z;exact hF z
 ·by_cases hn:n<ρ.length
  ·rw [List.getElem?_append_left hn] at h1
   rw [List.getElem?_append_left (by rw [<- S.len];exact hn)] at h2
   exact (S.obj n a w h1 h2).aU ⟨fun _ h=>h,fun _ _ _=>rfl,List.prefix_append _ _⟩ rfl
  ·have hn':ρ.length<=n:=Nat.le_of_not_lt hn
   rw [List.getElem?_append_right hn'] at h1
   rw [List.getElem?_append_right (by rw [<- S.len];exact hn'),<- S.len] at h2
   cases k:n-ρ.length with
   | zero =>
    rw [k] at h1 h2
    cases h1;cases h2
    exact hu
   | succ j=>rw [k] at h1;simp at h1
theorem SR.wk (S:SR B F ρ M H) {n:Nat} {a:Addr} {kvs:List (Ky×D)} {kws:List (Key×V)} (o:Obj) (hn:ρ[n]? = some a) (hM:M[n]? = some (.dct kvs)) (hH:H a=some (.dK kws)) :
  SR B F ρ (M.set n (.nE kvs)) (upd H a (.fQ o (.dK kws)))/\Ext F ρ H F ρ (upd H a (.fQ o (.dK kws))):=by
 obtain ⟨kws',h1,h2,h3⟩:=S.obj n a _ hn hM
 rw [hH] at h1;cases h1
 exact S.st (o:=.fQ o (.dK kws)) (u:=.nE kvs) hn (fun w v q=>by rw [hH] at q;cases q) ⟨o,kws,ay,h2,aj.bx (Ext0.at_ S hn) _ _ h3⟩
theorem SR.uw (S:SR B F ρ M H) {n:Nat} {a:Addr} {kvs:List (Ky×D)} (hn:ρ[n]? = some a) (hM:M[n]? = some (.nE kvs)):∃ o kws,H a=some (.fQ o (.dK kws)) /\
  SR B F ρ (M.set n (.dct kvs)) (upd H a (.dK kws)):=by
 obtain ⟨o,kws,h1,h2,h3⟩:=S.obj n a _ hn hM
 exact ⟨o,kws,h1,(S.i8 (o:=.dK kws) (u:=.dct kvs) hn ⟨kws,ay,h2,aj.bx (Ext0.at_ S hn) _ _ h3⟩).1⟩
theorem Ext.thaw (e:Ext F ρ H F' ρ' H') {a:Addr} {o:HO} (ha:a∈ρ') (hn:∀ w v,H a≠some (.fQ w v)) (hF:∀ b∈ρ',¬ F' b):Ext F ρ H F' ρ' (upd H' a o) :=
 ⟨⟨e.s,e.f,fun b q nb=>by
  by_cases hb:b=a
  ·subst hb
   rcases e.n b ha with z | z
   ·exact absurd z nb
   ·exact absurd z q
  ·rw [ao hb];exact e.h b q nb,e.r,e.n,e.g⟩,fun b w v q=>by rw [ao (by rintro rfl;exact hn w v q)];exact e.z b w v q⟩
end
section
variable {B:Bd} {F F' F1:Addr->Prop} {ρ ρ' ρ1:List Addr} {H H' H1:Hp} {M M':MH}
theorem aj.length:∀ {ds:List D} {vs:List V},aj B F ρ H ds vs->ds.length=vs.length
 | [],vs,h=>by simp only [aj] at h;subst h;rfl
 | d::ds,vs,h=>by
  simp only [aj] at h
  obtain ⟨v,ws,rfl,_,h3⟩:=h
  simp [aj.length h3]
theorem aj.cons {d:D} {v:V} {ds:List D} {vs:List V} (h:RD B F ρ H d v) (t:aj B F ρ H ds vs):aj B F ρ H (d::ds) (v::vs):=by
 simp only [aj];exact ⟨v,vs,rfl,h,t⟩
theorem aj.nil:aj B F ρ H [] []:=by simp only [aj]
theorem aj.append:∀ {ds es:List D} {vs ws:List V},aj B F ρ H ds vs->aj B F ρ H es ws->aj B F ρ H (ds++es) (vs++ws)
 | [],es,vs,ws,h,t=>by simp only [aj] at h;subst h;exact t
 | d::ds,es,vs,ws,h,t=>by
  simp only [aj] at h
  obtain ⟨v,us,rfl,h2,h3⟩:=h
  exact aj.cons h2 (aj.append h3 t)
theorem aj.get:∀ {ds:List D} {vs:List V} {i:Nat} {d:D},aj B F ρ H ds vs->ds[i]? = some d->∃ v,vs[i]? = some v/\RD B F ρ H d v
 | [],vs,i,d,h,e=>by simp at e
 | d::ds,vs,i,d',h,e=>by
  simp only [aj] at h
  obtain ⟨v,ws,rfl,h2,h3⟩:=h
  cases i with
  | zero=>simp at e;subst e;exact ⟨v,rfl,h2⟩
  | succ i=>simp at e;simpa using aj.get (i:=i) h3 e
theorem aj.take:∀ {ds:List D} {vs:List V} (n:Nat),aj B F ρ H ds vs->aj B F ρ H (ds.take n) (vs.take n)
 | [],vs,n,h=>by simp only [aj] at h;subst h;simp [aj]
 | d::ds,vs,n,h=>by
  simp only [aj] at h
  obtain ⟨v,ws,rfl,h2,h3⟩:=h
  cases n with
  | zero=>simp [aj]
  | succ n=>simp only [List.take_succ_cons];exact aj.cons h2 (aj.take n h3)
theorem aj.drop:∀ {ds:List D} {vs:List V} (n:Nat),aj B F ρ H ds vs->aj B F ρ H (ds.drop n) (vs.drop n)
 | [],vs,n,h=>by simp only [aj] at h;subst h;simp [aj]
 | d::ds,vs,n,h=>by
  cases n with
  | zero=>exact h
  | succ n =>
   simp only [aj] at h
   obtain ⟨v,ws,rfl,h2,h3⟩:=h
   simp only [List.drop_succ_cons];exact aj.drop n h3
theorem aj.set:∀ {ds:List D} {vs:List V} {d:D} {v:V} (i:Nat),aj B F ρ H ds vs->RD B F ρ H d v->aj B F ρ H (ds.set i d) (vs.set i v)
 | [],vs,d,v,i,h,q=>by simp only [aj] at h;subst h;simp [aj]
 | e::ds,vs,d,v,i,h,q=>by
  simp only [aj] at h
  obtain ⟨u,ws,rfl,h2,h3⟩:=h
  cases i with
  | zero=>simp only [List.set_cons_zero];exact aj.cons q h3
  | succ i=>simp only [List.set_cons_succ];exact aj.cons h2 (aj.set i h3 q)
mutual
theorem RD.nr:∀ {d:D} {v:V},RD B F ρ H d v->nr ρ.length d=true
 | .ak,v,h=>by simp [Fg.nr]
 | .bl _,v,h=>by simp [Fg.nr]
 | .int _,v,h=>by simp [Fg.nr]
 | .str _,v,h=>by simp [Fg.nr]
 | .tup ds,v,h=>by simp only [RD] at h;obtain ⟨a,vs,h1,h2,h3⟩:=h;simp only [Fg.nr];exact aj.nr h3
 | .lst ds,v,h=>by simp only [RD] at h;obtain ⟨a,vs,h1,h2,h3⟩:=h;simp only [Fg.nr];exact aj.nr h3
 | .dct ks ds,v,h=>by simp only [RD] at h;obtain ⟨a,vs,h1,h2,_,h3⟩:=h;simp only [Fg.nr];exact aj.nr h3
 | .ref n,v,h=>by
  simp only [RD] at h;obtain ⟨a,h1,h2⟩:=h;simp only [Fg.nr]
  obtain ⟨q,_⟩:=List.getElem?_eq_some_iff.mp h1
  exact decide_eq_true q
theorem aj.nr:∀ {ds:List D} {vs:List V},aj B F ρ H ds vs->sP ρ.length ds=true
 | [],vs,h=>by simp [sP]
 | d::ds,vs,h=>by
  simp only [aj] at h
  obtain ⟨v,ws,rfl,h2,h3⟩:=h
  simp only [sP,RD.nr h2,aj.nr h3,Bool.and_self]
end
mutual
theorem RD.cut (hp:ρ <+: ρ'):∀ {d:D} {v:V},Fg.nr ρ.length d=true->RD B F ρ' H d v->RD B F ρ H d v
 | .ak,v,_,h=>h
 | .bl _,v,_,h=>h
 | .int _,v,_,h=>h
 | .str _,v,_,h=>h
 | .tup ds,v,q,h=>by
  simp only [Fg.nr] at q;simp only [RD] at h ⊢
  obtain ⟨a,vs,h1,h2,h3⟩:=h
  exact ⟨a,vs,h1,h2,aj.cut hp q h3⟩
 | .lst ds,v,q,h=>by
  simp only [Fg.nr] at q;simp only [RD] at h ⊢
  obtain ⟨a,vs,h1,h2,h3⟩:=h
  exact ⟨a,vs,h1,h2,aj.cut hp q h3⟩
 | .dct ks ds,v,q,h=>by
  simp only [Fg.nr] at q;simp only [RD] at h ⊢
  obtain ⟨a,vs,h1,h2,h4,h3⟩:=h
  exact ⟨a,vs,h1,h2,h4,aj.cut hp q h3⟩
 | .ref n,v,q,h=>by
  simp only [Fg.nr] at q;simp only [RD] at h ⊢
  obtain ⟨a,h1,h2⟩:=h
  obtain ⟨t,rfl⟩:=hp
  rw [List.getElem?_append_left (of_decide_eq_true q)] at h1
  exact ⟨a,h1,h2⟩
theorem aj.cut (hp:ρ <+: ρ'):∀ {ds:List D} {vs:List V},sP ρ.length ds=true->aj B F ρ' H ds vs->aj B F ρ H ds vs
 | [],vs,_,h=>h
 | d::ds,vs,q,h=>by
  simp only [sP,Bool.and_eq_true] at q;simp only [aj] at h ⊢
  obtain ⟨v,ws,rfl,h2,h3⟩:=h
  exact ⟨v,ws,rfl,RD.cut hp q.1 h2,aj.cut hp q.2 h3⟩
end
theorem MR.cut (hp:ρ <+: ρ') {a:Addr} {F0:Addr->Prop} {H0:Hp} {a0:Addr}:∀ {o:MO},MR B F0 ρ H0 o a0->MR B F ρ' H o a->MR B F ρ H o a
 | .lst ds,⟨_,_,k⟩,⟨vs,h1,h2⟩=>⟨vs,h1,aj.cut hp (aj.nr k) h2⟩
 | .dct kvs,⟨_,_,_,k⟩,⟨kws,h1,h2,h3⟩=>⟨kws,h1,h2,aj.cut hp (aj.nr k) h3⟩
 | .nE kvs,⟨_,_,_,_,k⟩,⟨o,kws,h1,h2,h3⟩=>⟨o,kws,h1,h2,aj.cut hp (aj.nr k) h3⟩
 | .ins c fs,⟨_,_,_,_,_,_,k⟩,⟨C,dx,eK,h0,h1,h2,h3⟩=>⟨C,dx,eK,h0,h1,h2,aj.cut hp (aj.nr k) h3⟩
theorem SR.cut (S:SR B F ρ M H) (S':SR B F' ρ' M' H') (e:Ext F ρ H F' ρ' H') (hm:M'.take M.length=M):SR B F' ρ M H' where
 len:=S.len
 nd:=S.nd
 sep:=fun a ha=>S'.sep a (e.r.subset ha)
 A7:=S'.A7
 obj:=fun n a o h1 h2=>by
  have m':M'[n]? = some o:=by
   rw [<- hm] at h2
   rw [List.getElem?_take] at h2
   split at h2
   ·exact h2
   ·cases h2
  exact MR.cut e.r (S.obj n a o h1 h2) (S'.obj n a o (e.at h1) m')
theorem Ext.cut (e:Ext F ρ H F' ρ' H'):Ext F ρ H F' ρ H':=⟨⟨e.s,e.f,e.h,List.prefix_refl _,fun _ h=>.inl h,e.g⟩,e.z⟩
end
end Fg
end
section
namespace Fg
open PySem L2
noncomputable def zg (th:Addr->Prop) (H H':Hp):Prop:=H'=H\/∃ a o kvs,th a/\H a=some (.fQ o (.dK kvs))/\H'=upd H a (.dK kvs)
noncomputable abbrev XS:=Value->Option Addr->St->Hp->Prop
structure Gx where
 e:XS
 th:Addr->Prop
 cl:∀ cv x Z H H',zg th H H'->e cv x Z H'->e cv x Z H
noncomputable def ai {α β:Type} (rel:(Addr->Prop)->List Addr->Hp->α->β->Prop) (B:Bd) (r:R α) (F:Addr->Prop) (ρ:List Addr) (H:Hp) (Q:β->Hp->Prop) (E:XK):Prop :=
 match r with
 | .ok d M'=>∀ F' ρ' H' v,Ext F ρ H F' ρ' H'->SR B F' ρ' M' H'->rel F' ρ' H' d v->Q v H'
 | .exc c M'=>∀ F' ρ' H' cv x,Ext F ρ H F' ρ' H'->SR B F' ρ' M' H'->B.exc c cv->E cv x H'
 | .bad=>False
noncomputable abbrev Post (B:Bd):=ai (RD B) B
noncomputable abbrev JP (B:Bd):=ai (aj B) B
section
variable {B:Bd} {F F' F1:Addr->Prop} {ρ ρ' ρ1:List Addr} {H H' H1:Hp} {M M':MH} {E:XK}
theorem ai.weak {α β:Type} {rel:(Addr->Prop)->List Addr->Hp->α->β->Prop} {r:R α} {Q:β->Hp->Prop} (e:Ext F ρ H F1 ρ1 H1) (h:ai rel B r F ρ H Q E):ai rel B r F1 ρ1 H1 Q E:=by
 cases r with
 | ok d M'=>exact fun F' ρ' H' v e' S r=>h F' ρ' H' v (e.trans e') S r
 | exc c M'=>exact fun F' ρ' H' cv x e' S r=>h F' ρ' H' cv x (e.trans e') S r
 | bad=>exact h
theorem ai.imp {α β:Type} {rel:(Addr->Prop)->List Addr->Hp->α->β->Prop} {r:R α} {Q Q':β->Hp->Prop} (h:ai rel B r F ρ H Q E) (k:∀ v H',Q v H'->Q' v H'):ai rel B r F ρ H Q' E:=by
 cases r with
 | ok d M'=>exact fun F' ρ' H' v e' S r=>k _ _ (h F' ρ' H' v e' S r)
 | exc c M'=>exact h
 | bad=>exact h
theorem ai.bind {α β α' β':Type} {rel:(Addr->Prop)->List Addr->Hp->α->β->Prop} {rel':(Addr->Prop)->List Addr->Hp->α'->β'->Prop} {x:R α} {f:α->MH->R α'} {Q:β'->Hp->Prop} (h:ai rel' B (x.bind f) F ρ H Q E) :
  ai rel B x F ρ H (fun v H'=>∃ d M' F' ρ',Ext F ρ H F' ρ' H'/\SR B F' ρ' M' H'/\rel F' ρ' H' d v/\ai rel' B (f d M') F' ρ' H' Q E) E:=by
 cases x with
 | ok d M'=>exact fun F' ρ' H' v e S r=>⟨d,M',F',ρ',e,S,r,ai.weak e h⟩
 | exc c M'=>exact h
 | bad=>exact h
theorem ai.run {α β:Type} {rel:(Addr->Prop)->List Addr->Hp->α->β->Prop} {d:α} {Q:β->Hp->Prop} {v:β} (h:ai rel B (.ok d M) F ρ H Q E) (S:SR B F ρ M H) (r:rel F ρ H d v):Q v H :=
 h F ρ H v S.refl S r
end
structure RS (B:Bd) (F:Addr->Prop) (ρ:List Addr) (H:Hp) (ZD:Sg) (Z:St):Prop where
 len:Z.length=ZD.length
 get:∀ (i:Nat) (d:D),ZD[i]? = some (some d)->∃ v,Z[i]? = some (some v)/\RD B F ρ H d v
section
variable {B:Bd} {F F' F1:Addr->Prop} {ρ ρ' ρ1:List Addr} {H H' H1:Hp} {M M':MH} {ZD:Sg} {Z:St}
theorem RS.mono (e:Ext F ρ H F' ρ' H') (h:RS B F ρ H ZD Z):RS B F' ρ' H' ZD Z :=
 ⟨h.len,fun i d q=>let ⟨v,h1,h2⟩:=h.get i d q;⟨v,h1,RD.mono e d v h2⟩⟩
theorem RS.set (h:RS B F ρ H ZD Z) {d:D} {v:V} (r:RD B F ρ H d v) (i:Nat):RS B F ρ H (ZD.set i (some d)) (Z.set i (some v)):=by
 refine ⟨by simp [h.len],fun j d' q=>?_⟩
 rw [List.getElem?_set] at q ⊢
 split at q
 ·rename_i e
  split at q
  ·rename_i l
   cases q
   refine ⟨v,?_,r⟩
   rw [if_pos e,if_pos (by rw [h.len];exact l)]
  ·cases q
 ·rename_i e
  rw [if_neg e]
  exact h.get j d' q
end
noncomputable def T (B:Bd) (Φ:aQ) (E:Gx) (c:Fg.E):TE:=fun Z H Q=>∃ (ZD:Sg) (M:MH) (F:Addr->Prop) (ρ:List Addr),
 SR B F ρ M H/\RS B F ρ H ZD Z/\Post B (ev Φ c ZD M) F ρ H Q (fun cv x H'=>E.e cv x Z H')
noncomputable def TB (B:Bd) (Φ:aQ) (E:Gx) (c:Fg.E):TT:=fun Z H Q=>T B Φ E c Z H fun v H'=>∃ b,v=.bl b/\Q b H'
noncomputable def TL (B:Bd) (Φ:aQ) (E:Gx) (c:Es):TA:=fun Z H Q=>∃ (ZD:Sg) (M:MH) (F:Addr->Prop) (ρ:List Addr),
 SR B F ρ M H/\RS B F ρ H ZD Z/\JP B (cJ Φ c ZD M) F ρ H Q (fun cv x H'=>E.e cv x Z H')
noncomputable def TP (B:Bd) (Φ:aQ) (E:Gx) (c:O):TO:=fun Z H Q=>∃ (ZD:Sg) (M:MH) (F:Addr->Prop) (ρ:List Addr),
 SR B F ρ M H/\RS B F ρ H ZD Z/\ai (fun _ _ _ (a b:Option Int)=>a=b) B (Bh Φ c ZD M) F ρ H Q (fun cv x H'=>E.e cv x Z H')
section
variable {B:Bd} {Φ:aQ} {E:Gx} {F F' F1:Addr->Prop} {ρ ρ' ρ1:List Addr} {H H' H1:Hp} {M M':MH} {ZD:Sg} {Z:St} {Q:VK}
theorem T.one {a:Fg.E} {g:D->MH->R D} {W:V->Hp->Prop} {X:XK} (S:SR B F ρ M H) (r:RS B F ρ H ZD Z) (hX:X=fun cv x H'=>E.e cv x Z H') (h:Post B ((ev Φ a ZD M).bind g) F ρ H Q X)
  (k:∀ x M1 F1 ρ1 H1 v,Ext F ρ H F1 ρ1 H1->SR B F1 ρ1 M1 H1->RS B F1 ρ1 H1 ZD Z->RD B F1 ρ1 H1 x v->Post B (g x M1) F1 ρ1 H1 Q X->W v H1):T B Φ E a Z H W:=by
 subst hX
 refine ⟨ZD,M,F,ρ,S,r,ai.imp (ai.bind (rel:=RD B) h) fun v H1 ⟨x,M1,F1,ρ1,e,S1,rx,h1⟩=>?_⟩
 exact k x M1 F1 ρ1 H1 v e S1 (r.mono e) rx h1
theorem T.two {a b:Fg.E} {g:D->D->MH->R D} {W:V->V->Hp->Prop} {X:XK} (S:SR B F ρ M H) (r:RS B F ρ H ZD Z) (hX:X=fun cv x H'=>E.e cv x Z H')
  (h:Post B ((ev Φ a ZD M).bind fun x M1=>(ev Φ b ZD M1).bind fun y M2=>g x y M2) F ρ H Q X)
  (k:∀ x y M2 F2 ρ2 H2 v w,SR B F2 ρ2 M2 H2->RS B F2 ρ2 H2 ZD Z->RD B F2 ρ2 H2 x v->RD B F2 ρ2 H2 y w->Post B (g x y M2) F2 ρ2 H2 Q X->W v w H2) :
  T B Φ E a Z H fun v H1=>T B Φ E b Z H1 fun w H2=>W v w H2:=by
 refine T.one S r hX h fun x M1 F1 ρ1 H1 v e1 S1 r1 rx h1=>?_
 refine T.one S1 r1 hX h1 fun y M2 F2 ρ2 H2 w e2 S2 r2 ry h2=>?_
 exact k x y M2 F2 ρ2 H2 v w S2 r2 (RD.mono e2 _ _ rx) ry h2
theorem TL.one {a:Es} {g:List D->MH->R D} {W:List V->Hp->Prop} {X:XK} (S:SR B F ρ M H) (r:RS B F ρ H ZD Z) (hX:X=fun cv x H'=>E.e cv x Z H') (h:Post B ((cJ Φ a ZD M).bind g) F ρ H Q X)
  (k:∀ x M1 F1 ρ1 H1 v,Ext F ρ H F1 ρ1 H1->SR B F1 ρ1 M1 H1->RS B F1 ρ1 H1 ZD Z->aj B F1 ρ1 H1 x v->Post B (g x M1) F1 ρ1 H1 Q X->W v H1):TL B Φ E a Z H W:=by
 subst hX
 refine ⟨ZD,M,F,ρ,S,r,ai.imp (ai.bind (rel:=aj B) h) fun v H1 ⟨x,M1,F1,ρ1,e,S1,rx,h1⟩=>?_⟩
 exact k x M1 F1 ρ1 H1 v e S1 (r.mono e) rx h1
theorem Hv {i:Nat} (h:T B Φ E (.v i) Z H Q):G1 i Z H Q:=by
 obtain ⟨ZD,M,F,ρ,S,r,h⟩:=h
 simp only [ev] at h
 split at h
 ·rename_i d hd
  obtain ⟨v,h1,h2⟩:=r.get _ _ hd
  exact ⟨v,h1,ai.run h S h2⟩
 ·exact h.elim
noncomputable def scl:D->Option V
 | .ak=>some .ak
 | .bl b=>some (.bl b)
 | .int i=>some (.int i)
 | .str x=>some (.str x)
 | _=>none
theorem Du {d:D} {v:V} (h:scl d=some v):RD B F ρ H d v:=by
 cases d <;> simp only [scl] at h <;> first | (cases h;simp only [RD]) | cases h
theorem rY {d:D} {v:V} (hv:scl d=some v) (h:T B Φ E (.k d) Z H Q):tC v Z H Q:=by
 obtain ⟨ZD,M,F,ρ,S,r,h⟩:=h
 simp only [ev] at h
 exact ai.run h S (Du hv)
theorem dJ {fz:Bool} {ds:List D} {vs:List V} {X:XK} (S:SR B F ρ M H) (h:Post B (bY fz ds M) F ρ H Q X) (r:aj B F ρ H ds vs):∀ p,H p=none->Q (.ref p) (upd H p (.lst vs)):=by
 intro p hp
 cases fz with
 | true =>
  simp only [bY,if_true] at h
  obtain ⟨S',e⟩:=S.fz hp (.lst vs)
  refine h _ _ _ _ e S' ?_
  simp only [RD]
  exact ⟨p,vs,rfl,.inl ⟨.inr rfl,.inl ay⟩,aj.mono e _ _ r⟩
 | false =>
  simp only [bY,Bool.false_eq_true,if_false] at h
  have e0:Ext F ρ H F (ρ++[p]) (upd H p (.lst vs)):=⟨⟨S.sep,fun _ q=>q,fun a q _=>ao (by rintro rfl;exact q hp),List.prefix_append _ _,fun a q=>by
   rcases List.mem_append.mp q with q | q
   ·exact .inl q
   ·rw [List.mem_singleton.mp q];exact .inr hp,fun _ q=>.inl q⟩,fun b w u q=>by rw [ao (by rintro rfl;rw [hp] at q;cases q)];exact q⟩
  obtain ⟨S',e⟩:=S.lv (o:=.lst vs) (u:=.lst ds) hp ⟨vs,ay,aj.mono e0 _ _ r⟩
  refine h _ _ _ _ e S' ?_
  simp only [RD]
  refine ⟨p,?_,rfl⟩
  rw [<- S.len,List.getElem?_append_right (Nat.le_refl _),Nat.sub_self];rfl
theorem jh {ds:List D} {vs:List V} {X:XK} (S:SR B F ρ M H) (h:Post B (.ok (.tup ds) M) F ρ H Q X) (r:aj B F ρ H ds vs):∀ p,H p=none->Q (.ref p) (upd H p (.tup vs)):=by
 intro p hp
 obtain ⟨S',e⟩:=S.fz hp (.tup vs)
 refine h _ _ _ _ e S' ?_
 simp only [RD]
 exact ⟨p,vs,rfl,.inl ⟨.inr rfl,.inl ay⟩,aj.mono e _ _ r⟩
theorem zI {es:Es} (hz:∀ {Z:Sg} {M:MH} {ds M'},cJ Φ es Z M=.ok ds M'->ds.length<=sizeLine) (h:T B Φ E (.tup es) Z H Q):G2 (TL B Φ E es) Z H Q:=by
 obtain ⟨ZD,M,F,ρ,S,r,h⟩:=h
 simp only [ev] at h
 refine ⟨ZD,M,F,ρ,S,r,?_⟩
 cases hx:cJ Φ es ZD M with
 | ok ds M1 =>
  rw [hx] at h
  intro F1 ρ1 H1 vs e S1 rv
  refine ⟨by rw [<- aj.length rv];exact hz hx,jh (X:=fun cv x H'=>E.e cv x Z H') S1 (ai.weak e h) rv⟩
 | exc c M1=>rw [hx] at h;exact h
 | bad=>rw [hx] at h;exact h
theorem zP {fz:Bool} {es:Es} (hz:∀ {Z:Sg} {M:MH} {ds M'},cJ Φ es Z M=.ok ds M'->ds.length<=sizeLine) (h:T B Φ E (.lst fz es) Z H Q):G8 (TL B Φ E es) Z H Q:=by
 obtain ⟨ZD,M,F,ρ,S,r,h⟩:=h
 simp only [ev] at h
 refine ⟨ZD,M,F,ρ,S,r,?_⟩
 cases hx:cJ Φ es ZD M with
 | ok ds M1 =>
  rw [hx] at h
  intro F1 ρ1 H1 vs e S1 rv
  refine ⟨by rw [<- aj.length rv];exact hz hx,dJ (X:=fun cv x H'=>E.e cv x Z H') S1 (ai.weak e h) rv⟩
 | exc c M1=>rw [hx] at h;exact h
 | bad=>rw [hx] at h;exact h
theorem gF {Q:List V->Hp->Prop} (h:TL B Φ E .nil Z H Q):lU Z H Q:=by
 obtain ⟨ZD,M,F,ρ,S,r,h⟩:=h
 simp only [cJ] at h
 exact ai.run h S aj.nil
theorem v8 {e:Fg.E} {es:Es} {Q:List V->Hp->Prop} (h:TL B Φ E (.cons e es) Z H Q):jy (T B Φ E e) (TL B Φ E es) Z H Q:=by
 obtain ⟨ZD,M,F,ρ,S,r,h⟩:=h
 simp only [cJ] at h
 refine ⟨ZD,M,F,ρ,S,r,ai.imp (ai.bind (rel:=RD B) h) fun v H1 ⟨x,M1,F1,ρ1,e1,S1,rx,h1⟩=>?_⟩
 refine ⟨ZD,M1,F1,ρ1,S1,r.mono e1,ai.imp (ai.bind (rel:=aj B) h1) fun vs H2 ⟨xs,M2,F2,ρ2,e2,S2,rxs,h2⟩=>?_⟩
 exact ai.run h2 S2 (aj.cons (RD.mono e2 _ _ rx) rxs)
theorem se {a b:Fg.E} (h:T B Φ E (.and a b) Z H Q):B4 (T B Φ E a) (T B Φ E b) Z H Q:=by
 obtain ⟨ZD,M,F,ρ,S,r,h⟩:=h
 simp only [ev] at h
 refine T.one S r rfl h fun x M1 F1 ρ1 H1 v e1 S1 r1 rx h1=>?_
 split at h1
 ·simp only [RD] at rx;subst rx
  exact ⟨true,rfl,by rw [if_pos rfl];exact ⟨ZD,M1,F1,ρ1,S1,r1,h1⟩⟩
 ·simp only [RD] at rx;subst rx
  exact ⟨false,rfl,by rw [if_neg Bool.false_ne_true];exact ai.run h1 S1 (by simp only [RD])⟩
 ·exact h1.elim
theorem v7 {a b:Fg.E} (h:T B Φ E (.or a b) Z H Q):G6 (T B Φ E a) (T B Φ E b) Z H Q:=by
 obtain ⟨ZD,M,F,ρ,S,r,h⟩:=h
 simp only [ev] at h
 refine T.one S r rfl h fun x M1 F1 ρ1 H1 v e1 S1 r1 rx h1=>?_
 split at h1
 ·simp only [RD] at rx;subst rx
  exact ⟨true,rfl,by rw [if_pos rfl];exact ai.run h1 S1 (by simp only [RD])⟩
 ·simp only [RD] at rx;subst rx
  exact ⟨false,rfl,by rw [if_neg Bool.false_ne_true];exact ⟨ZD,M1,F1,ρ1,S1,r1,h1⟩⟩
 ·exact h1.elim
theorem rW {a:Fg.E} (h:T B Φ E (.not a) Z H Q):BZ (T B Φ E a) Z H Q:=by
 obtain ⟨ZD,M,F,ρ,S,r,h⟩:=h
 simp only [ev] at h
 refine T.one S r rfl h fun x M1 F1 ρ1 H1 v e1 S1 r1 rx h1=>?_
 split at h1
 ·simp only [RD] at rx;subst rx
  exact ⟨_,rfl,ai.run h1 S1 (by simp only [RD])⟩
 ·exact h1.elim
theorem wc {a b:Fg.E} {Q:Bool->Hp->Prop} (h:TB B Φ E (.and a b) Z H Q):Hi (TB B Φ E a) (TB B Φ E b) Z H Q:=by
 have h':=se h
 obtain ⟨ZD,M,F,ρ,S,r,h⟩:=h'
 refine ⟨ZD,M,F,ρ,S,r,ai.imp h fun v H' ⟨c,e,q⟩=>⟨c,e,?_⟩⟩
 cases c with
 | true=>rw [if_pos rfl] at q ⊢;exact q
 | false=>rw [if_neg Bool.false_ne_true] at q ⊢;obtain ⟨b,e,q⟩:=q;cases e;exact q
theorem zW {a b:Fg.E} {Q:Bool->Hp->Prop} (h:TB B Φ E (.or a b) Z H Q):tOr (TB B Φ E a) (TB B Φ E b) Z H Q:=by
 have h':=v7 h
 obtain ⟨ZD,M,F,ρ,S,r,h⟩:=h'
 refine ⟨ZD,M,F,ρ,S,r,ai.imp h fun v H' ⟨c,e,q⟩=>⟨c,e,?_⟩⟩
 cases c with
 | true=>rw [if_pos rfl] at q ⊢;obtain ⟨b,e,q⟩:=q;cases e;exact q
 | false=>rw [if_neg Bool.false_ne_true] at q ⊢;exact q
theorem v9 {a:Fg.E} {Q:Bool->Hp->Prop} (h:TB B Φ E (.not a) Z H Q):G7 (TB B Φ E a) Z H Q:=by
 have h':=rW h
 obtain ⟨ZD,M,F,ρ,S,r,h⟩:=h'
 refine ⟨ZD,M,F,ρ,S,r,ai.imp h fun v H' ⟨c,e,q⟩=>⟨c,e,?_⟩⟩
 obtain ⟨b,e,q⟩:=q;cases e;exact q
theorem zS {c a b:Fg.E} (h:T B Φ E (.x6 c a b) Z H Q):tIf (TB B Φ E c) (T B Φ E a) (T B Φ E b) Z H Q:=by
 obtain ⟨ZD,M,F,ρ,S,r,h⟩:=h
 simp only [ev] at h
 refine T.one S r rfl h fun x M1 F1 ρ1 H1 v e1 S1 r1 rx h1=>?_
 split at h1
 ·simp only [RD] at rx;subst rx
  exact ⟨true,rfl,by dsimp only;rw [if_pos rfl];exact ⟨ZD,M1,F1,ρ1,S1,r1,h1⟩⟩
 ·simp only [RD] at rx;subst rx
  exact ⟨false,rfl,by dsimp only;rw [if_neg Bool.false_ne_true];exact ⟨ZD,M1,F1,ρ1,S1,r1,h1⟩⟩
 ·exact h1.elim
theorem bJ {d:D} {v:V} {ds:List D} (S:SR B F ρ M H) (r:RD B F ρ H d v) (h:vw M d=.lst ds):∃ a vs,v=.ref a/\fc B.K H a vs/\aj B F ρ H ds vs:=by
 cases d with
 | lst xs=>simp only [vw] at h;cases h;simp only [RD] at r;obtain ⟨a,vs,e,z,q⟩:=r;exact ⟨a,vs,e,z.sq,q⟩
 | ref n =>
  simp only [vw] at h
  split at h
  ·rename_i xs hx
   cases h
   simp only [RD] at r
   obtain ⟨a,h1,h2⟩:=r
   obtain ⟨vs,h3,h4⟩:=S.obj n a _ h1 hx
   exact ⟨a,vs,h2,.inl (.inl h3),h4⟩
  ·cases h
  ·cases h
  ·cases h
 | tup _=>simp only [vw] at h;cases h
 | dct _ _=>simp only [vw] at h;cases h
 | ak=>simp only [vw] at h;cases h
 | bl _=>simp only [vw] at h;cases h
 | int _=>simp only [vw] at h;cases h
 | str _=>simp only [vw] at h;cases h
theorem jv {d:D} {v:V} {ds:List D} (S:SR B F ρ M H) (r:RD B F ρ H d v) (h:vw M d=.tup ds):∃ a vs,v=.ref a/\iO B.K H a vs/\aj B F ρ H ds vs:=by
 cases d with
 | tup xs=>simp only [vw] at h;cases h;simp only [RD] at r;obtain ⟨a,vs,e,z,q⟩:=r;exact ⟨a,vs,e,z.sq,q⟩
 | ref n =>
  simp only [vw] at h
  split at h <;> cases h
 | lst _=>simp only [vw] at h;cases h
 | dct _ _=>simp only [vw] at h;cases h
 | ak=>simp only [vw] at h;cases h
 | bl _=>simp only [vw] at h;cases h
 | int _=>simp only [vw] at h;cases h
 | str _=>simp only [vw] at h;cases h
noncomputable def GA (B:Bd) (H:Hp) (a:Addr) (kvs:List (Key×V)):Prop:=Rd H a (.dK kvs)\/B.dk a kvs
theorem nG {α β:Type}:∀ (ks:List α) (ds:List β),ks.length=ds.length->(ks.zip ds).map (·.1)=ks/\(ks.zip ds).map (·.2)=ds
 | [],[],_=>⟨rfl,rfl⟩
 | k::ks,d::ds,h=>by
  obtain ⟨a,b⟩:=nG ks ds (by simpa using h)
  simp only [List.zip_cons_cons,List.map_cons,a,b,and_self]
 | [],_::_,h=>by simp at h
 | _::_,[],h=>by simp at h
theorem lS {d:D} {v:V} {dH:List (Ky×D)} (S:SR B F ρ M H) (r:RD B F ρ H d v) (h:vw M d=.dct dH):∃ a kvs,v=.ref a/\GA B H a kvs/\kvs.map (·.1)=dH.map (·.1)/\aj B F ρ H (dH.map (·.2)) (kvs.map (·.2)):=by
 cases d with
 | dct ks ds =>
  simp only [vw] at h;cases h;simp only [RD] at r
  obtain ⟨a,kvs,e,z,q1,q2⟩:=r
  have hl:ks.length=ds.length:=by rw [<- q1,List.length_map,aj.length q2,List.length_map]
  obtain ⟨z1,z2⟩:=nG ks ds hl
  refine ⟨a,kvs,e,?_,by rw [q1,z1],by rw [z2];exact q2⟩
  rcases z with ⟨_,z⟩ | z
  ·exact .inl z
  ·exact .inr z
 | ref n =>
  simp only [vw] at h
  split at h
  ·cases h
  ·rename_i xs hx
   cases h
   simp only [RD] at r
   obtain ⟨a,h1,h2⟩:=r
   obtain ⟨kws,h3,h4,h5⟩:=S.obj n a _ h1 hx
   exact ⟨a,kws,h2,.inl (.inl h3),h4,h5⟩
  ·rename_i xs hx
   cases h
   simp only [RD] at r
   obtain ⟨a,h1,h2⟩:=r
   obtain ⟨o,kws,h3,h4,h5⟩:=S.obj n a _ h1 hx
   exact ⟨a,kws,h2,.inl (.inr ⟨o,h3⟩),h4,h5⟩
  ·cases h
 | tup _=>simp only [vw] at h;cases h
 | lst _=>simp only [vw] at h;cases h
 | ak=>simp only [vw] at h;cases h
 | bl _=>simp only [vw] at h;cases h
 | int _=>simp only [vw] at h;cases h
 | str _=>simp only [vw] at h;cases h
theorem jR {k:Key}:∀ {dH:List (Ky×D)} {kvs:List (Key×V)},kvs.map (·.1)=dH.map (·.1)->aj B F ρ H (dH.map (·.2)) (kvs.map (·.2)) ->
  (∀ d,look dH k=some d->∃ v,cE kvs k=some v/\RD B F ρ H d v)/\(look dH k=none->cE kvs k=none)/\((look dH k).isSome=(cE kvs k).isSome)
 | [],kvs,h1,h2=>by
  have:kvs=[]:=by cases kvs with | nil=>rfl | cons _ _=>simp at h1
  subst this
  exact ⟨fun d h=>by simp [look] at h,fun _=>by simp [cE],by simp [look,cE]⟩
 | (k', d')::dH, kvs, h1, h2=>by
  cases kvs with
  | nil=>simp at h1
  | cons p kvs =>
   obtain ⟨pk,pv⟩:=p
   simp only [List.map_cons,List.cons.injEq] at h1
   simp only [List.map_cons,aj] at h2
   obtain ⟨v,ws,e,r1,r2⟩:=h2
   cases e
   obtain ⟨e1,e2⟩:=h1
   subst e1
   have ih:=jR (k:=k) e2 r2
   by_cases hk:pk=k
   ·subst hk
    simp only [look,cE,List.find?_cons,decide_true]
    exact ⟨fun d h=>by cases h;exact ⟨_,rfl,r1⟩,fun h=>by simp at h,rfl⟩
   ·have hkd:decide (pk=k)=false:=decide_eq_false hk
    simp only [look,cE,List.find?_cons,hkd] at ih ⊢
    exact ih
theorem nS {i:Int} (h:small i=true):-(2 ^ 64)<i/\i<2 ^ 64:=by
 simp only [small,decide_eq_true_eq] at h
 omega
noncomputable def JW (i j:Int):Prop:=i.natAbs<10 ^ 200/\j.natAbs<10 ^ 200
noncomputable def rStr:R2:=fun x y H Q=>∃ i j,x=.str i/\y=.str j/\i.length+j.length<=sizeLine/\Q (.str (i++j)) H
noncomputable def Cg (K:W.Frag):R2:=fun x y H Q=>∃ l b xs zs,x=.ref l/\y=.ref b/\fc K H l xs/\fc K H b zs/\xs.length+zs.length<=sizeLine/\∀ p,H p=none->Q (.ref p) (upd H p (.lst (xs++zs)))
noncomputable def Cd (K:W.Frag):R2:=fun x y H Q=>∃ (l:Addr) (xs:List V) (k:Int),x=.ref l/\y=.int k/\fc K H l xs/\xs.length*k.toNat<=sizeLine/\k.natAbs<=1000000/\∀ p,H p=none->Q (.ref p) (upd H p (.lst (List.replicate k.toNat xs).flatten))
noncomputable def HH (K:W.Frag):BL->R2
 | .add=>fun x y H Q=>qp (fun i j=>.int (i+j)) x y H Q\/(rStr x y H Q\/(Cg K x y H Q\/Cf K x y H Q))
 | .sub=>qp fun i j=>.int (i-j)
 | .mul=>fun x y H Q=>rI BR (fun i j=>.int (i*j)) x y H Q\/(rI JW (fun i j=>.int (i*j)) x y H Q\/Cd K x y H Q)
 | .fdiv=>rI JX fun i j=>.int (i / j)
 | .mod=>rI (fun _ j=>0<j) fun i j=>.int (i % j)
 | .pow=>rI JV fun i j=>.int (i ^ j.toNat)
theorem bM:line<=sizeLine:=by decide
theorem aj.rep {ds:List D} {vs:List V} (r:aj B F ρ H ds vs):∀ k:Nat,aj B F ρ H (List.replicate k ds).flatten (List.replicate k vs).flatten
 | 0=>aj.nil
 | k+1=>by
  rw [List.replicate_succ,List.replicate_succ,List.flatten_cons,List.flatten_cons]
  exact r.append (aj.rep r k)
theorem AE {o:BL} {fz:Bool} {x y:D} {v w:V} {X:XK} (S:SR B F ρ M H) (rx:RD B F ρ H x v) (ry:RD B F ρ H y w) (h:Post B (uR o fz M x y) F ρ H Q X):HH B.K o v w H Q:=by
 unfold uR at h
 split at h
 ·rename_i i j
  simp only [RD] at rx ry
  subst rx ry
  cases o with
  | add=>simp only [gn] at h;exact .inl ⟨i,j,rfl,rfl,ai.run h S (by simp only [RD])⟩
  | sub=>simp only [gn] at h;exact ⟨i,j,rfl,rfl,ai.run h S (by simp only [RD])⟩
  | mul =>
   simp only [gn] at h
   split at h
   ·rename_i k hk
    split at hk
    ·rename_i hs
     cases hk
     refine .inl ⟨i,j,rfl,rfl,?_,ai.run h S (by simp only [RD])⟩
     simp only [Bool.or_eq_true] at hs
     rcases hs with hs | hs
     ·exact .inl (nS hs)
     ·exact .inr (nS hs)
    ·split at hk
     ·rename_i hs
      cases hk
      simp only [mid,Bool.and_eq_true,decide_eq_true_eq] at hs
      exact .inr (.inl ⟨i,j,rfl,rfl,hs,ai.run h S (by simp only [RD])⟩)
     ·cases hk
   ·exact h.elim
  | fdiv =>
   simp only [gn] at h
   split at h
   ·rename_i k hk
    split at hk
    ·rename_i hs
     cases hk
     simp only [Bool.and_eq_true,decide_eq_true_eq] at hs
     exact ⟨i,j,rfl,rfl,⟨hs.1,by have:=hs.2;omega⟩,ai.run h S (by simp only [RD])⟩
    ·cases hk
   ·exact h.elim
  | mod =>
   simp only [gn] at h
   split at h
   ·rename_i k hk
    split at hk
    ·rename_i hs
     cases hk
     exact ⟨i,j,rfl,rfl,of_decide_eq_true hs,ai.run h S (by simp only [RD])⟩
    ·cases hk
   ·exact h.elim
  | pow =>
   simp only [gn] at h
   split at h
   ·rename_i k hk
    split at hk
    ·rename_i hs
     cases hk
     simp only [Bool.and_eq_true,decide_eq_true_eq] at hs
     exact ⟨i,j,rfl,rfl,⟨hs.1,hs.2.1,hs.2.2⟩,ai.run h S (by simp only [RD])⟩
    ·cases hk
   ·exact h.elim
 ·rename_i a b
  simp only [RD] at rx ry
  subst rx ry
  cases o with
  | add =>
   simp only at h
   split at h
   ·rename_i hl
    exact .inr (.inl ⟨a,b,rfl,rfl,Nat.le_trans (of_decide_eq_true hl) bM,ai.run h S (by simp only [RD])⟩)
   ·exact h.elim
  | sub=>exact h.elim
  | mul=>exact h.elim
  | fdiv=>exact h.elim
  | mod=>exact h.elim
  | pow=>exact h.elim
 ·cases o with
  | add =>
   simp only at h
   split at h
   ·rename_i xs ys hx hy
    split at h
    ·rename_i hl
     obtain ⟨a,vs,rfl,q1,r1⟩:=bJ S rx hx
     obtain ⟨b,ws,rfl,q2,r2⟩:=bJ S ry hy
     refine .inr (.inr (.inl ⟨a,b,vs,ws,rfl,rfl,q1,q2,?_,dJ S h (r1.append r2)⟩))
     rw [<- aj.length r1,<- aj.length r2]
     exact Nat.le_trans (of_decide_eq_true hl) bM
    ·exact h.elim
   ·rename_i xs ys hx hy
    split at h
    ·rename_i hl
     simp only [Bool.and_eq_true,Bool.not_eq_true',decide_eq_true_eq] at hl
     cases x with
     | tup xs' =>
      simp only [vw] at hx;cases hx
      simp only [RD] at rx
      obtain ⟨a,vs,rfl,z1,r1⟩:=rx
      obtain ⟨b,ws,rfl,q2,r2⟩:=jv S ry hy
      refine .inr (.inr (.inr ⟨a,b,vs,ws,rfl,rfl,z1.sq,q2,?_,?_,fun e=>?_,fun _=>jh S h (r1.append r2)⟩))
      ·rintro rfl
       have:=aj.length r1
       cases xs with
       | nil=>simp at hl
       | cons _ _=>simp at this
      ·rw [<- aj.length r1,<- aj.length r2]
       exact Nat.le_trans hl.2 bM
      ·refine ai.run h S ?_
       simp only [RD]
       refine ⟨a,vs,rfl,z1,?_⟩
       have:=r1.append r2
       rw [e,List.append_nil] at this
       exact this
     | ref n=>simp only [vw] at hx;split at hx <;> cases hx
     | lst _=>simp only [vw] at hx;cases hx
     | dct _ _=>simp only [vw] at hx;cases hx
     | ak=>simp only [vw] at hx;cases hx
     | bl _=>simp only [vw] at hx;cases hx
     | int _=>simp only [vw] at hx;cases hx
     | str _=>simp only [vw] at hx;cases hx
    ·exact h.elim
   ·exact h.elim
  | sub=>exact h.elim
  | mul =>
   simp only at h
   split at h
   ·rename_i xs k hx _ _
    split at h
    ·rename_i hl
     simp only [Bool.and_eq_true,decide_eq_true_eq] at hl
     obtain ⟨a,vs,rfl,q1,r1⟩:=bJ S rx (by assumption)
     simp only [RD] at ry
     subst ry
     refine .inr (.inr ⟨a,vs,k,rfl,rfl,q1,?_,hl.2,dJ S h (aj.rep r1 _)⟩)
     rw [<- aj.length r1]
     exact Nat.le_trans hl.1 bM
    ·exact h.elim
   ·exact h.elim
  | fdiv=>exact h.elim
  | mod=>exact h.elim
  | pow=>exact h.elim
theorem Dp {o:BL} {fz:Bool} {a b:Fg.E} (h:T B Φ E (.op o fz a b) Z H Q):Dc (HH B.K o) (T B Φ E a) (T B Φ E b) Z H Q:=by
 obtain ⟨ZD,M,F,ρ,S,r,h⟩:=h
 simp only [ev] at h
 exact T.two S r rfl h fun x y M2 F2 ρ2 H2 v w S2 _ rx ry h2=>AE S2 rx ry h2
theorem zO {a:Fg.E} (h:T B Φ E (.neg a) Z H Q):tUn (rU fun i=>.int (-i)) (T B Φ E a) Z H Q:=by
 obtain ⟨ZD,M,F,ρ,S,r,h⟩:=h
 simp only [ev] at h
 refine T.one S r rfl h fun x M1 F1 ρ1 H1 v e1 S1 r1 rx h1=>?_
 split at h1
 ·simp only [RD] at rx;subst rx
  exact ⟨_,rfl,ai.run h1 S1 (by simp only [RD])⟩
 ·exact h1.elim
end
end Fg
end
section
namespace Fg
open PySem PySem.Spec L2
noncomputable def Up (B:Heap) (l:List Env) (a:Addr) (C a0:Value) (h:Heap):Prop:=B.StaysIn h/\B.get? a=none/\h.FunFrames B l/\∃ fl,h.TracedAtW B a C a0 fl
theorem Up.Ew {B h:Heap} {l:List Env} {a:Addr} {C a0:Value} (x:Heap.FlyingW B l a C a0 h):Up B l a C a0 h:=⟨x.1,x.2.1,x.2.2.1,_,x.2.2.2.at⟩
theorem Up.sN {B h:Heap} {l:List Env} {a L:Addr} {C a0:Value} (x:Heap.HeldW B l a C a0 L h):Up B l a C a0 h:=⟨x.1,x.2.1,x.2.2.1,_,x.2.2.2⟩
theorem mz {e:Value} {env env':Env} (h:env.frame=env'.frame):noteFrame e env=noteFrame e env':=by
 unfold noteFrame frameOf
 rw [h]
section
variable {M:Model} {A:Around} {E:Value->Shared->Prop} {s:Shared} {B:Heap} {env:Env} {outer:List Env} {L a:Addr} {C a0:Value}
theorem Up.note {Q:Unit->Shared->Prop} (hfr:A.frames=some (env::outer)) (hf:env.frame=some L) (up:Up B (env::outer) a C a0 s.heap) (k:∀ h',Heap.HeldW B (env::outer) a C a0 L h'->s.heap.UpToSlots h'->Q () { s with heap:=h' }) :
  wpAny M A (noteFrame (.ref a) env) Q E s:=by
 obtain ⟨st,ne,hl,fl,oe,vs,T,oT,ts,q1,⟨q2,q2'⟩,q3,q4,q5,q6,q7,q8,q9⟩:=up
 by_cases same:(fl == rawInt L)=true
 ·have e:fl=rawInt L:=by simpa using same
  subst e
  exact wpAny_noteFrame_againW hf ⟨oe,vs,T,oT,ts,q1,⟨q2,q2'⟩,q3,q4,q5,q6,q7,q8,q9⟩ (k s.heap ⟨st,ne,hl,oe,vs,T,oT,ts,q1,⟨q2,q2'⟩,q3,q4,q5,q6,q7,q8,q9⟩ (Heap.UpToSlots.refl _))
 ·subst q2
  unfold noteFrame
  simp only [hf]
  refine wpAny_bind (wpAny_field q1 q3 q4 ?_)
  rw [if_pos (by simp)]
  refine wpAny_bind (wpAny_field q7 q8 q9 ?_)
  rw [if_neg same]
  refine wpAny_bind (wpAny_setField q7 q8 (Array.getElem?_eq_some_iff.mp q9).1 ?_)
  have sJ:∀ b,b≠T->(s.heap.update T (Obj.mapFields (·.setIfInBounds 3 Value.none))).get? b=s.heap.get? b:=fun b hb=>Heap.get?_update_other _ _ fun z=>hb z.symm
  have oq:∀ b o,s.heap.get? b=some o->(∀ vs,o.data≠.fields vs)->b≠T:=fun b o hb hn z=>by
   subst z;rw [q7] at hb;cases hb;exact hn ts q8
  refine wpAny_entryW (base:=B) (a0:=a0) hfr ?_ hf ?_ ?_ ne q3 (Array.getElem?_eq_some_iff.mp q4).1 q2' fun h' nw=>?_
  ·exact hl.of_keeps fun b o hb hn=>⟨o,by rw [sJ b (oq b o hb hn),hb],rfl⟩
  ·rw [sJ a fun z=>q6 z.symm];exact q1
  ·intro b o e
   rw [sJ b (by rintro rfl;rw [q5] at e;cases e)]
   exact st b o e
  ·obtain ⟨x1,x2,x3,x4⟩:=nw
   exact k h' ⟨x1,ne,x2,x3⟩ fun b o hb hn=>x4 b o (by rw [sJ b (oq b o hb hn),hb]) hn
theorem Up.leave {Q:Unit->Shared->Prop} (hfr:A.frames=some (env::outer)) (hf:env.frame=some L) (up:Up B (env::outer) a C a0 s.heap) (k:∀ h',Heap.FlyingW B outer a C a0 h'->s.heap.UpToSlots h'->Q () { s with heap:=h' }) :
  wpAny M A (leaving env (.ref a)) Q E s :=
 wpAny_bind (up.note hfr hf fun h4 held vW=>wpAny_landsW held fun h5 fl zE=>k h5 ⟨fl.1,fl.2.1,fl.2.2.1.2.2,fl.2.2.2⟩ (vW.trans zE))
end
end Fg
end
section
namespace Fg
open PySem PySem.Spec L2
open PyProof.Rows (AllBare envOfC)
theorem lu {P:Program} {w:World} {H:Hp} {h:Heap} {a:Addr} {o:HO} (x:aW P w H h a o):∃ ob,h.get? a=some ob:=by
 cases o with
 | lst xs=>obtain ⟨_,_,_,_,e⟩:=x;exact ⟨_,e⟩
 | tup xs=>obtain ⟨_,_,_,_,e,_⟩:=x;exact ⟨_,e⟩
 | dK kvs=>obtain ⟨_,_,_,_,o,_,_,e,_⟩:=x;exact ⟨_,e⟩
 | dT kvs=>obtain ⟨_,_,_,_,o,_,_,e,_⟩:=x;exact ⟨_,e⟩
 | set S n=>obtain ⟨o,_,_,_,e,_⟩:=x;exact ⟨_,e⟩
 | ins C dx fs=>obtain ⟨_,_,_,e,_⟩:=x;exact ⟨_,e⟩
 | own y=>obtain ⟨_,e⟩:=x;exact ⟨_,e⟩
 | xd fs=>obtain ⟨_,⟨_,_,_,e,_⟩,_⟩:=x;exact ⟨_,e⟩
 | eF lo hi=>obtain ⟨_,_,_,e⟩:=x;exact ⟨_,e⟩
 | fQ ob u=>obtain ⟨e,_⟩:=x;exact ⟨_,e⟩
 | BX ps=>exact ⟨_,(show h.get? a=some _ from x)⟩
 | met f y=>exact ⟨_,(show h.get? a=some _ from x)⟩
 | ext φ=>obtain ⟨_,⟨_,e⟩,_⟩:=x;exact ⟨_,e⟩
noncomputable def Calm (B:Heap) (fr ex:List Addr) (H:Hp) (h₀:Heap):Prop:=∀ b,(H b≠none\/(∃ o,h₀.get? b=some o)/\b∉ex)->b∉fr->∃ o,B.get? b=some o
theorem Calm.at {B h:Heap} {fr ex:List Addr} {H:Hp} {h₀:Heap} (c:Calm B fr ex H h₀) (st:B.StaysIn h) {b:Addr} {o:Obj} (e:h.get? b=some o) (q:H b≠none\/(∃ o,h₀.get? b=some o)/\b∉ex) (hf:b∉fr):B.get? b=some o:=by
 obtain ⟨o',e'⟩:=c b q hf
 have:=st _ _ e'
 rw [e] at this;cases this
 exact e'
noncomputable def ir (P:Program) (w:World):yU:=fun outer H s E e s'=>∃ (H':Hp) (a:Addr) (a0 C:Value) (B:Heap),e=.ref a/\s'.os=s.os/\AllBare s'.gens/\Un (frs outer) [] H H' s.heap s'.heap/\gb P w H' s'.heap /\
 Heap.FlyingW B outer a C a0 s'.heap/\Calm B (frs outer) [] H' s.heap/\E C none H'
noncomputable def i7 (X:Cx) (E:XS) (e:Value) (s:Shared):Prop:=∃ (pins:List (Addr×Obj)) (Z:St) (H:Hp) (a:Addr) (a0 C:Value) (B:Heap),e=.ref a/\Inv X pins Z H s /\
 Up B X.stack a C a0 s.heap/\Calm B (frs X.stack) X.ex H X.s₀.heap/\(∀ p∈X.pn,B.get? p.1=some p.2)/\E C none Z H
noncomputable def CY (X:Cx) (E:XS) (e:Value) (s:Shared):Prop:=∃ (pins:List (Addr×Obj)) (Z:St) (H:Hp) (a:Addr) (C:Value) (vs:List Value) (h:Heap),e=.ref a/\Inv X pins Z H { s with heap:=h }/\Heap.MadeExcOf h s.heap a C vs/\E C none Z H
theorem mP {fs fr ex:List Addr} {H₀ H H₁:Hp} {h₀ h h' B:Heap} (u:Un fs ex H₀ H h₀ h) (eZ:Calm B fr ex H₁ h₀) (i8:B.StaysIn h) (st:B.StaysIn h') (sm:∀ b∈fr,∀ o,h.get? b=some o->∃ sl,h'.get? b=some { o with slots:=sl })
  (frd:∀ b∈fr,b<h₀.objs.size->b∈fs):Un fs ex H₀ H h₀ h' where
 keep:=fun b o e n0 hb hx=>st _ _ (eZ.at i8 (u.keep b o e n0 hb hx) (.inr ⟨⟨_,e⟩,hx⟩) fun z=>hb (frd b z (Heap.lt_size e)))
 slot:=fun b o e n0 hb hx=>by
  obtain ⟨sl,e1⟩:=u.slot b o e n0 hb hx
  by_cases z:b∈fr
  ·obtain ⟨B6,e2⟩:=sm b z _ e1
   exact ⟨B6,e2⟩
  ·exact ⟨sl,st _ _ (eZ.at i8 e1 (.inr ⟨⟨_,e⟩,hx⟩) z)⟩
 free:=u.free
 there:=fun b o e hx=>by
  obtain ⟨o',e1⟩:=u.there b o e hx
  by_cases z:b∈fr
  ·obtain ⟨B6,e2⟩:=sm b z _ e1
   exact ⟨_,e2⟩
  ·exact ⟨_,st _ _ (eZ.at i8 e1 (.inr ⟨⟨_,e⟩,hx⟩) z)⟩
 tups:=u.tups
 fV:=u.fV
 gE:=u.gE
theorem jl {P:Program} {w:World} {fr ex:List Addr} {H:Hp} {h₀ h h' B:Heap} (k:gb P w H h) (eZ:Calm B fr ex H h₀) (i8:B.StaysIn h) (st:B.StaysIn h') (free:∀ b∈fr,H b=none):gb P w H h':=fun a o e =>
 (k a o e).stay (fun b u hb e'=>by
  have tr:H b≠none:=by
   rcases hb with rfl | hb
   ·rw [e];simp
   ·rw [hb];simp
  exact st _ _ (eZ.at i8 e' (.inl tr) fun z=>tr (free b z))) (fun _ q=>q) fun _ _ q=>q
section
variable {X:Cx} {pins:List (Addr×Obj)} {Z:St} {H:Hp} {s:Shared}
theorem oY (I:Inv X pins Z H s):∀ b∈frs X.stack,∀ o,s.heap.get? b=some o->∀ vs,o.data≠.fields vs:=fun b hb o e vs=>by
 obtain ⟨_,o',e',d⟩:=I.stack.mem hb
 rw [e] at e';cases e'
 exact d vs
theorem qP {h':Heap} (I:Inv X pins Z H s) (sm:s.heap.UpToSlots h'):∀ b∈frs X.stack,∀ o,s.heap.get? b=some o->∃ sl,h'.get? b=some { o with slots:=sl }:=fun b hb o e=>sm b o e (oY I b hb o e)
theorem mO (I:Inv X pins Z H s):∀ b∈frs X.stack,b<X.s₀.heap.objs.size->b∈X.fs:=fun b hb hl=>by
 rcases List.mem_cons.mp (I.dX b hb) with e | z
 ·subst e;exact absurd (Nat.lt_of_lt_of_le hl I.ok.above) (Nat.lt_irrefl _)
 ·exact z
theorem fO (I:Inv X pins Z H s) {b:Addr} {o:Obj} (e:X.s₀.heap.get? b=some o) (hx:b∉X.ex):∃ o',s.heap.get? b=some o':=I.base.there b o e hx
theorem passes {E:XS} (hx:∀ e s,i7 X E e s->X.xe e s) (pins:List (Addr×Obj)) (Z:St) (H:Hp) (s:Shared) (e:Value) (s':Shared) (I:Inv X pins Z H s) (q:ir X.prog X.w X.stack H s (fun cv x H'=>E cv x Z H') e s'):X.xe e s':=by
 obtain ⟨H',a,a0,C,B,rfl,os,bare,un,hok,fl,eZ,q⟩:=q
 have I':=I.yJ (ch:=[]) os un hok bare (fun b z=>absurd z (by simp))
 refine hx _ _ ⟨pins,Z,H',a,a0,C,B,rfl,I',.Ew fl,fun b hb hf=>eZ b (hb.imp id fun ⟨⟨o,z⟩,n⟩=>⟨fO I z n,by simp⟩) hf,fun p hp=>?_,q⟩
 obtain ⟨p1,p2,p3,p4,_⟩:=I'.pin p (List.mem_append_left _ hp)
 refine eZ.at fl.1 p1 (.inr ⟨⟨_,(I.pin p (List.mem_append_left _ hp)).1⟩,by simp⟩) fun z=>?_
 rcases List.mem_cons.mp (I.dX _ z) with e | z
 ·exact p3 e
 ·exact p4 z
end
section
variable {P:Program} {w:World} {K:W.Frag} {mg:Str->Option Value} {base:Heap} {N:List Str} {qual:Str} {scope:Scope} {f:Addr} {cd:Value} {A:Around} {outer:List Env} {s:Shared} {H:Hp} {E:XK}
theorem oX (b:Addr) (h:b∈frs (envOfC qual scope s.heap.objs.size f cd::outer)):b=s.heap.objs.size\/b∈frs outer:=by
 unfold frs at h
 rw [List.filterMap_cons] at h
 exact List.mem_cons.mp h
theorem xA {pins:List (Addr×Obj)} {Z:St} {H':Hp} {s':Shared} {a:Addr} {a0 C:Value} {B h':Heap} (I:Inv (g8 (ir P w) P w K mg base N qual scope f cd A outer s H E) pins Z H' s') (i8:B.StaysIn s'.heap) (eZ:Calm B (frs (envOfC qual scope s.heap.objs.size f cd::outer)) [] H' s.heap)
  (q:E C none H') (Bc:Heap.FlyingW B outer a C a0 h') (sm:s'.heap.UpToSlots h'):ir P w outer H s E (.ref a) { s' with heap:=h' }:=by
 refine ⟨H',a,a0,C,B,rfl,I.os,I.bare,mP I.base eZ i8 Bc.1 (qP I sm) (mO I),jl I.hok eZ i8 Bc.1 I.fL,Bc,fun b hb hf=>eZ b hb fun z=>?_,q⟩
 rcases oX b z with e | z
 ·subst e
  rcases hb with hb | ⟨⟨o,hb⟩,_⟩
  ·exact hb I.free
  ·exact absurd (Heap.lt_size hb) (Nat.lt_irrefl _)
 ·exact hf z
theorem uX (e:Value) (s':Shared) (q:i7 (g8 (ir P w) P w K mg base N qual scope f cd A outer s H E) (fun cv x _ H'=>E cv x H') e s'):(g8 (ir P w) P w K mg base N qual scope f cd A outer s H E).xe e s':=by
 obtain ⟨pins,Z,H',a,a0,C,B,rfl,I,up,eZ,_,q⟩:=q
 exact up.leave (L:=s.heap.objs.size) I.ok.frames rfl fun h' Bc sm=>xA I up.1 eZ q Bc sm
theorem leave_new (e:Value) (s':Shared) (q:CY (g8 (ir P w) P w K mg base N qual scope f cd A outer s H E) (fun cv x _ H'=>E cv x H') e s'):(g8 (ir P w) P w K mg base N qual scope f cd A outer s H E).xe e s':=by
 obtain ⟨pins,Z,H',a,C,vs,h,rfl,I,made,q⟩:=q
 have hin:∀ env∈(envOfC qual scope s.heap.objs.size f cd::outer),∀ b,env.frame=some b->b∈frs (envOfC qual scope s.heap.objs.size f cd::outer):=fun env he b hb=>List.mem_filterMap.mpr ⟨env,he,hb⟩
 refine wpAny_leaves_madeW (base:=W.hideAll h (frs (envOfC qual scope s.heap.objs.size f cd::outer))) I.ok.frames rfl (fun b o q=>W.of_hideAll _ q) (W.funFrames_hide I.stack hin) made fun h' t Bc tup tn sm=>?_
 have i8:(W.hideAll h (frs (envOfC qual scope s.heap.objs.size f cd::outer))).StaysIn h:=fun b o q=>W.of_hideAll _ q
 have eZ:Calm (W.hideAll h (frs (envOfC qual scope s.heap.objs.size f cd::outer))) (frs (envOfC qual scope s.heap.objs.size f cd::outer)) [] H' s.heap:=fun b hb hf=>by
  have:∃ o,h.get? b=some o:=by
   rcases hb with hb | ⟨⟨o,hb⟩,_⟩
   ·cases e:H' b with
    | none=>exact absurd e hb
    | some o=>exact lu (I.hok b o e)
   ·exact fO I hb (by simp [g8])
  obtain ⟨o,e⟩:=this
  exact ⟨o,W.hideAll_get _ e hf⟩
 have sm':h.UpToSlots h':=(Heap.UpToSlots.of_keeps made.keeps).trans sm
 refine ⟨H',a,_,C,_,rfl,I.os,I.bare,mP I.base eZ i8 Bc.1 (qP I sm') (mO I),jl I.hok eZ i8 Bc.1 I.fL,Bc,fun b hb hf=>eZ b hb fun z=>?_,q⟩
 rcases oX b z with e | z
 ·subst e
  rcases hb with hb | ⟨⟨o,hb⟩,_⟩
  ·exact hb I.free
  ·exact absurd (Heap.lt_size hb) (Nat.lt_irrefl _)
 ·exact hf z
end
end Fg
end
section
namespace Fg
open PySem PySem.Spec L2
open PyProof.Rows (AllBare envOfC)
noncomputable def pW (K:W.Frag) (C:Addr) (bmB:List Value) (newId:String) (bm:List Value):Prop :=
 ∃ nm q N bs hdct sn sub ab col dd k0 k1 k2 k3 k5, K.lookup C=some (excClassObj nm q C N bs bm hdct sn sub ab col dd k0 k1 k2 k3 k5 newId)/\W.nsOkIn K N=true/\W.nsIn K N "__init__" = some none/\W.tailIn K bmB bm=true
variable {X:Cx} {E:XS}
theorem oA {x:Str} {C:Addr} {B newId initId:String} {bmB bm:List Value} {a:Expr} {t:TA} {np cpos pos:Pos} (hm:X.mg x=some (.ref C)) (hk:X.env.kindOf x=some .globalImplicit) (hd:(x == ("__debug__" : Str))=false)
  (EC:pW X.K C bmB newId bm) (FB:ExcBaseFacts B newId initId bmB) (calm:X.calm=true) (hs:starEach [a] X.env=[(false,eval a X.env)]) (ha:PA X [a] t) (hx:∀ e s,CY X E e s->X.xe e s) :
  PS X (.Raise (some (.Call (.Name x np) [a] [] cpos)) none pos) (fun D Z H=>t Z H fun vs H1=>vs.length<=sizeLine/\E (.ref C) none Z H1):=by
 obtain ⟨nm,q,N,bs,hdct,sn,sub,ab,col,dd,k0,k1,k2,k3,k5,lk,ok,ni,tl⟩:=EC
 intro pins s Z H D I ht
 have tail:∀ {h:Heap},X.K.In h->PySem.OwnTail h bmB bm:=fun KX=>W.tail_of_in KX tl
 refine wpAny_Raise_call_subT (C:=C) (nm:=nm) (q:=q) (N:=N) (bs:=bs) (bm:=bm) (hdct:=hdct) (sn:=sn) (sub:=sub) (ab:=ab) (col:=col) (dd:=dd) (k0:=k0) (k1:=k1) (k2:=k2) (k3:=k3) (k5:=k5) FB (mN:=X.base.nsMap N)
  ((tail I.gO).hasType FB.hasBase) (I.ok.hd calm) (by rw [hs];rfl) (W.nsMap_none_of_in I.mod.Cr ok ni)
  (Calls.Name_function_global I.ok.kind hk (Calls.loadGlobal_global (by rw [I.ok.glob];exact I.mod.glob.keeps I.bk) hm ⟨rfl,?_⟩) hd)
 have z:=ha cpos pins s Z H _ I ht
 rw [hs] at z ⊢
 refine Calls.evalArgs_plain (aY z fun us s2 y=>?_)
 obtain ⟨vs,H1,I1,r,hl,q⟩:=y
 refine ⟨rfl,by rw [<- r.length];exact hl,I1.gO _ _ lk,(Heap.Ns.of_isNs (W.isNs_of_in I.mod.Cr ok)).keeps I1.bk,tail I1.gO,fun h' e made=>hx _ _ ⟨pins,Z,H1,e,.ref C,us,s2.heap,rfl,I1,made,q⟩⟩
end Fg
end
section
namespace Fg
open PySem PySem.Spec L2
noncomputable abbrev fZ (X:Cx) (pins:List (Addr×Obj)):Cx:={ X with pn:=X.pn++pins }
theorem rO {X:Cx} {pins:List (Addr×Obj)} (ok:X.Ok):(fZ X pins).Ok :=
 ⟨ok.mod,ok.kind,ok.glob,ok.blt,ok.above,ok.inj,ok.has,ok.CO,ok.hd,ok.frames,ok.stk,ok.Jj,ok.bs,ok.vE,ok.oF,ok.qT,ok.gr,ok.zb⟩
theorem nB {X:Cx} {pins:List (Addr×Obj)} (ok:(fZ X pins).Ok):X.Ok :=
 ⟨ok.mod,ok.kind,ok.glob,ok.blt,ok.above,ok.inj,ok.has,ok.CO,ok.hd,ok.frames,ok.stk,ok.Jj,ok.bs,ok.vE,ok.oF,ok.qT,ok.gr,ok.zb⟩
section
variable {X:Cx} {pins jH:List (Addr×Obj)} {Z:St} {H:Hp} {s:Shared}
theorem xW (I:Inv X pins Z H s):Inv (fZ X pins) [] Z H s:=⟨rO I.ok,I.os,I.bare,I.base,I.loc,I.cell,I.free,I.b8,fun p hp=>I.pin p (by simpa using hp),I.hok,I.len⟩
theorem d8 (I:Inv (fZ X pins) jH Z H s):Inv X pins Z H s:=⟨nB I.ok,I.os,I.bare,I.base,I.loc,I.cell,I.free,I.b8,fun p hp=>I.pin p (List.mem_append_left _ hp),I.hok,I.len⟩
theorem kX {D:Ends} {f:Flow} {s':Shared} (h:SP (fZ X pins) jH D f s'):SP X pins D f s':=by
 cases f with
 | next=>obtain ⟨Z',H',I,q⟩:=h;exact ⟨Z',H',d8 I,q⟩
 | brk=>obtain ⟨Z',H',I,q⟩:=h;exact ⟨Z',H',d8 I,q⟩
 | cont=>obtain ⟨Z',H',I,q⟩:=h;exact ⟨Z',H',d8 I,q⟩
 | ret u=>obtain ⟨v,Z',H',I,r,q⟩:=h;exact ⟨v,Z',H',d8 I,r,q⟩
theorem jk {B h':Heap} (I:Inv X pins Z H s) (eZ:Calm B (frs X.stack) X.ex H X.s₀.heap) (hp:∀ p∈X.pn,B.get? p.1=some p.2) (i8:B.StaysIn s.heap) (st:B.StaysIn h') (sm:s.heap.UpToSlots h'):Inv X [] Z H { s with heap:=h' }:=by
 have cel:∀ c v,s.heap.IsCell c v->h'.IsCell c v:=fun c v ⟨o,e,d⟩=>by
  obtain ⟨sl,e'⟩:=sm c o e (fun vs z=>by rw [d] at z;cases z)
  exact ⟨_,e',d⟩
 refine ⟨I.ok,I.os,I.bare,mP I.base eZ i8 st (qP I sm) (mO I),?_,fun x c e=>?_,I.free,I.b8,fun p q=>?_,jl I.hok eZ i8 st I.fL,I.len⟩
 ·obtain ⟨m,hn,hv⟩:=I.loc
  refine ⟨m,sm.ns hn,fun i x v h1 h2 h3=>?_⟩
  obtain ⟨u,r,lk⟩:=hv i x v h1 h2 h3
  refine ⟨u,r,lk.imp id fun ⟨z,c,h4,h5⟩=>⟨z,c,h4,cel _ _ h5⟩⟩
 ·obtain ⟨v,h5⟩:=I.cell x c e
  exact ⟨v,cel _ _ h5⟩
 ·have q':p∈X.pn:=by simpa using q
  obtain ⟨_,p2⟩:=I.pin p (List.mem_append_left _ q')
  exact ⟨st _ _ (hp p q'),p2⟩
end
noncomputable abbrev suite (X:Cx) (e:Value):Cx:={ X with A:=X.A.mark (some e),calm:=false,xe:=fun _ _=>False }
section
variable {X:Cx} {pins jH:List (Addr×Obj)} {Z:St} {H:Hp} {s:Shared} {e:Value}
theorem vQ (ok:X.Ok):(suite X e).Ok :=
 ⟨ok.mod,ok.kind,ok.glob,ok.blt,ok.above,ok.inj,ok.has,ok.CO,(fun z=>by cases z),ok.frames,ok.stk,ok.Jj,ok.bs,ok.vE,ok.oF,ok.qT,ok.gr,ok.zb⟩
theorem uZ (I:Inv X pins Z H s):Inv (suite X e) pins Z H s:=⟨vQ I.ok,I.os,I.bare,I.base,I.loc,I.cell,I.free,I.b8,I.pin,I.hok,I.len⟩
theorem c8 (ok:X.Ok) (I:Inv (suite X e) pins Z H s):Inv X pins Z H s:=⟨ok,I.os,I.bare,I.base,I.loc,I.cell,I.free,I.b8,I.pin,I.hok,I.len⟩
theorem qe (ok:X.Ok) {D:Ends} {f:Flow} {s':Shared} (h:SP (suite X e) pins D f s'):SP X pins D f s':=by
 cases f with
 | next=>obtain ⟨Z',H',I,q⟩:=h;exact ⟨Z',H',c8 ok I,q⟩
 | brk=>obtain ⟨Z',H',I,q⟩:=h;exact ⟨Z',H',c8 ok I,q⟩
 | cont=>obtain ⟨Z',H',I,q⟩:=h;exact ⟨Z',H',c8 ok I,q⟩
 | ret u=>obtain ⟨v,Z',H',I,r,q⟩:=h;exact ⟨v,Z',H',c8 ok I,r,q⟩
end
section
variable {M:Model} {A:Around} {E:Value->Shared->Prop} {nm q:Str} {C N:Addr} {bs bm:List Value} {hdct:Bool} {sn:List Str} {sub:List Value} {ab:Bool} {col:Option Bool} {dd:Option Addr} {k0 k1 k2 k3 k5:Option Value} {newId:String}
 {nm' q':Str} {C' N':Addr} {bs' bm':List Value} {Cz:Bool} {sn':List Str} {sub':List Value} {ab':Bool} {col':Option Bool} {Gf:Option Addr} {l0 l1 l2 l3 l5:Option Value} {newId':String}
theorem pA {h:Heap} {g:Array GenState} {d:Drawn} {t:Nat} {os:OsState} {e:Addr} {oe:Obj} {b:Bool} {Q:Bool->Shared->Prop}
  (hC:h.get? C=some (excClassObj nm q C N bs bm hdct sn sub ab col dd k0 k1 k2 k3 k5 newId)) (hD:h.get? C'=some (excClassObj nm' q' C' N' bs' bm' Cz sn' sub' ab' col' Gf l0 l1 l2 l3 l5 newId')) (he:h.get? e=some oe) (hcls:oe.cls=.ref C)
  (hb':(Value.ref C'::bm').contains (.type "BaseException")=true) (hb:(Value.ref C::bm).contains (.ref C')=b) (hq:Q b ⟨h, g, d, t, os⟩):wpAny M A (excMatches (.ref e) (.ref C')) Q E ⟨h, g, d, t, os⟩:=by
 have f:=tc_notTuple
 unfold excMatches
 repeat (first | (with_reducible refine wpAny_loadPart_at he ?_;rw [hcls]) | with_reducible refine wpAny_loadPart_at hD ?_ | (with_reducible refine wpAny_isSubtype_exc hD ?_;rw [hb']) | (with_reducible refine wpAny_isSubtype_exc hC ?_;rw [hb]) | wp_step)
 cases b <;> (wp_walk;exact hq)
end
noncomputable def pick (mro:List Value):List (Addr×TS)->Option TS
 | []=>none
 | (C',t)::r=>if mro.contains (.ref C') then some t else pick mro r
noncomputable def EH (K:W.Frag) (rs:List (Addr×TS)) (D:Ends):XS:=fun cv x Z H=>∃ C bmB newId bm t,cv=.ref C/\pW K C bmB newId bm/\pick (.ref C::bm) rs=some t/\t D Z H
inductive PH (X:Cx):List ExceptHandler->List (Addr×TS)->Prop
 | nil:PH X [] []
 | cons {x:Str} {C':Addr} {bmB:List Value} {newId:String} {bm:List Value} {b₀:Stmt} {b:List Stmt} {t:TS} {np pos:Pos} {hs:List ExceptHandler} {rs:List (Addr×TS)} :
   X.mg x=some (.ref C')->Gl X x->(x == ("__debug__" : Str))=false->pW X.K C' bmB newId bm->bm.contains (.type "BaseException")=true->(∀ e, jt (suite X e) (b₀::b) t)->PH X hs rs ->
   PH X (.ExceptHandler (some (.Name x np)) none (b₀::b) pos::hs) ((C',t)::rs)
theorem handle {X:Cx} {hs:List ExceptHandler} {rs:List (Addr×TS)} (ph:PH X hs rs) {C a:Addr} {a0:Value} {B:Heap} {bmB:List Value} {newId:String} {bm:List Value} {t:TS} {D:Ends} {Z:St} {H:Hp} {s:Shared} (EC:pW X.K C bmB newId bm) (pk:pick (.ref C::bm) rs=some t)
  (I:Inv X [] Z H s) (fl:Heap.FlyingW B X.stack a (.ref C) a0 s.heap) (eZ:Calm B (frs X.stack) X.ex H X.s₀.heap) (hp:∀ p∈X.pn,B.get? p.1=some p.2) (ht:t D Z H) :
  wpAny (model X.prog X.w) X.A (handleBy (.ref a) X.env hs) (SP X [] D) X.xe s:=by
 induction ph with
 | nil=>cases pk
 | cons hm hg hd EC' hb' hsu ph ih =>
  obtain ⟨hp',g,d,tk,os⟩:=s
  obtain ⟨oe,Cy,hcl⟩:=fl.there
  obtain ⟨nm,q,N,bs,hdct,sn,sub,ab,col,dd,k0,k1,k2,k3,k5,lk,_⟩:=EC
  obtain ⟨nm',q',N',bs',Cz,sn',sub',ab',col',Gf,l0,l1,l2,l3,l5,lk',_⟩:=EC'
  refine wpAny_handleBy_cons (codeAny_handlers_test (Calls.Name_function_global I.ok.kind hg (Calls.loadGlobal_global (by rw [I.ok.glob];exact I.mod.glob.keeps I.bk) hm ?_) hd)) (by intro q;cases q)
  refine pA (I.gO _ _ lk) (I.gO _ _ lk') Cy hcl (by rw [List.contains_cons,hb',Bool.or_true]) rfl ?_
  simp only [pick] at pk
  cases hc:(Value.ref C::bm).contains (.ref _) with
  | true =>
   rw [hc] at pk
   simp only [if_true,Option.some.injEq] at pk
   subst pk
   refine codeAny_handlers_suite (PyProof.Rows.lands_againW fl fun h6 fl6 sm6=>?_)
   have I6:=jk I eZ hp fl.1 fl6.1 sm6
   exact wpAny_mono (hsu (.ref a) [] _ Z H D (uZ I6) ht) (fun f s2 z=>qe I.ok z) fun _ _ z=>z.elim
  | false =>
   rw [hc] at pk
   exact ih pk
theorem DO {X:Cx} {body:List Stmt} {h₀:ExceptHandler} {hs:List ExceptHandler} {pos:Pos} {rs:List (Addr×TS)} {t:Ends->TS} (stk:X.stack=X.env::X.outer) (hf:X.env.frame=some X.env.locals)
  (hb:∀ pins D,jt ((fZ X pins).bH (i7 (fZ X pins) (EH X.K rs D))) body (t D)) (ph:∀ pins,PH (fZ X pins) (h₀::hs) rs):PS X (.Try body (h₀::hs) [] [] pos) (fun D Z H=>t D D Z H):=by
 intro pins s Z H D I ht
 refine wpAny_Try_except (wpAny_mono (hb pins D [] s Z H D ((xW I).bH _) ht) (fun f s1 z=>?_) fun e s1 z=>?_)
 ·have z':=kX (SP.aX z)
  cases f with
  | next=>exact wpAny_execs_nil z'
  | brk=>exact z'
  | cont=>exact z'
  | ret u=>exact z'
 ·obtain ⟨jH,Z1,H1,a,a0,cv,B,rfl,I1,fl,eZ,hp,C,bmB,newId,bm,tt,rfl,EC,pk,hts⟩:=z
  have go:∀ h5,Heap.FlyingW B (X.env::X.outer) a (.ref C) a0 h5->s1.heap.UpToSlots h5->wpAny (model X.prog X.w) X.A (handleBy (.ref a) X.env (h₀::hs)) (SP X pins D) X.xe { s1 with heap:=h5 }:=fun h5 KC zE=>by
   have I5:=jk I1 eZ hp fl.1 KC.1 zE
   exact wpAny_mono (handle (ph pins) EC pk I5 (by show Heap.FlyingW B X.stack _ _ _ _;rw [stk];exact KC) eZ hp hts) (fun f s2 z=>kX z) fun _ _ z=>z
  exact Up.note (L:=X.env.locals) (env:=X.env) (outer:=X.outer) (by rw [I.ok.frames,stk]) hf (by rw [<- stk];exact fl) fun h4 held vW=>wpAny_landsW held fun h5 KC zE=>go h5 KC (vW.trans zE)
end Fg
end
section
namespace Fg
open PySem PySem.Spec L2
theorem Up.pass {M:Model} {A:Around} {E:Value->Shared->Prop} {s:Shared} {α:Type} {Q:α->Shared->Prop} {B:Heap} {l:List Env} {a:Addr} {C a0:Value} {env:Env} {what:String} (up:Up B l a C a0 s.heap)
  (k:∀ h',Up B l a C a0 h'->s.heap.UpToSlots h'->E (.ref a) { s with heap:=h' }):wpAny M A (passOn what (.ref a) env:Sem α) Q E s:=by
 obtain ⟨st,ne,hl,fl,oe,vs,T,oT,ts,q1,q2,q3,q4,q5,q6,q7,q8,q9⟩:=up
 have q0:3<ts.size:=(Array.getElem?_eq_some_iff.mp q9).1
 have sJ:∀ x b,b≠T->(s.heap.update T (Obj.mapFields (·.setIfInBounds 3 x))).get? b=s.heap.get? b:=fun x b hb=>Heap.get?_update_other _ _ (Ne.symm hb)
 have oq:∀ b o,s.heap.get? b=some o->(∀ vs,o.data≠.fields vs)->b≠T:=fun b o hb hn z=>by
  rw [z,q7] at hb
  cases hb
  exact hn ts q8
 unfold passOn
 refine wpAny_bind (wpAny_field q1 q3 q4 ?_)
 rw [if_neg (by simp)]
 refine wpAny_bind ?_
 unfold setFlight
 refine wpAny_bind (wpAny_field q1 q3 q4 ?_)
 rw [if_pos (by simp)]
 refine wpAny_setField q7 q8 q0 ?_
 refine wpAny_throw (k _ ⟨fun b o e=>?_,ne,hl.of_keeps fun b o hb hn=>⟨o,(sJ _ b (oq b o hb hn)).trans hb,rfl⟩,?_⟩ fun b o hb hn=>⟨o.slots,(sJ _ b (oq b o hb hn)).trans hb⟩)
 ·exact (sJ _ b (by rintro rfl;rw [q5] at e;cases e)).trans (st b o e)
 ·exact ⟨_,oe,vs,T,_,_,(sJ _ a (Ne.symm q6)).trans q1,q2,q3,q4,q5,q6,Heap.get?_update_self _ q7 (Obj.isFreed_of_fields (Obj.data_mapFields q8 _)),Obj.data_mapFields q8 _,Array.getElem?_setIfInBounds_self_of_lt q0⟩
theorem Up.hide {B h h':Heap} {l:List Env} {a c:Addr} {C a0:Value} (up:Up B l a C a0 h) (sb:Heap.SameBut c h h') (hc:∃ o,h.get? c=some o/\∀ vs,o.data≠.fields vs) (hfr:c∉frs l):Up (B.hide c) l a C a0 h':=by
 obtain ⟨st,ne,hl,fl,oe,vs,T,oT,ts,q1,q2,q3,q4,q5,q6,q7,q8,q9⟩:=up
 obtain ⟨oc,hoc,hd⟩:=hc
 have hn:∀ {b:Addr},B.get? b=none->(B.hide c).get? b=none:=fun {b} e=>by
  cases q:(B.hide c).get? b with
  | none=>rfl
  | some o=>rw [Heap.of_hide q] at e;cases e
 have hac:a≠c:=by rintro rfl;rw [hoc] at q1;cases q1;exact hd _ q3
 have hTc:T≠c:=by rintro rfl;rw [hoc] at q7;cases q7;exact hd _ q8
 have ff:∀ l',(∀ b∈frs l',b∈frs l)->h.FunFrames B l'->h'.FunFrames (B.hide c) l':=by
  intro l'
  induction l' with
  | nil=>intro _ _;trivial
  | cons env r ih =>
   intro hs hl'
   obtain ⟨hk,⟨L,o,hf,hnn,ho,hdd⟩,hr⟩:=hl'
   have hL:L∈frs l:=hs L (by unfold frs;rw [List.filterMap_cons,hf];exact List.mem_cons_self)
   exact ⟨hk,⟨L,o,hf,hn hnn,by rw [sb.2 L (by rintro rfl;exact hfr hL)];exact ho,hdd⟩,ih (fun b hb=>hs b (by unfold frs;rw [List.filterMap_cons,hf];exact List.mem_cons_of_mem _ hb)) hr⟩
 refine ⟨fun b o e=>?_,hn ne,ff l (fun _ z=>z) hl,fl,oe,vs,T,oT,ts,by rw [sb.2 a hac];exact q1,q2,q3,q4,hn q5,q6,by rw [sb.2 T hTc];exact q7,q8,q9⟩
 have hbc:b≠c:=by rintro rfl;rw [Heap.hide_self] at e;cases e
 rw [sb.2 b hbc]
 exact st b o (Heap.of_hide e)
noncomputable def pV (X:Cx):Prop:=∃ env outer L,X.stack=env::outer/\env.frame=some L/\X.env.frame=some L
end Fg
end
section
namespace Fg
open PySem PySem.Spec L2
noncomputable def qd (sp:Sp) (Ex:XS) (t:TA):TE:=fun Z H Q=>t Z H fun vs H1=>sp vs H1 Q fun cv x H'=>Ex cv x Z H'
section
variable {X:Cx} {Ex:XS} {k:Nat} {f:Addr} {fd:FuncData} {ps:List Str} {sp:Sp} {x:Str} {p pos:Pos} {e:Expr} {es:List Expr} {t:TA}
theorem z5 {pins:List (Addr×Obj)} {Z:St} {H:Hp} {s:Shared} {Q:VK} {us:List Value} {vs:List V} (F:cG X.prog X.w X.K X.mg X.base (ir X.prog X.w) k f fd ps sp) (hr:cX k X.A) (hb:Binds X.K fd ps []) (hx:∀ e s,i7 X Ex e s->X.xe e s)
  (I:Inv X pins Z H s) (r:Vals vs us) (h:sp vs H Q fun cv x H'=>Ex cv x Z H'):wpAny (model X.prog X.w) X.A (call (.ref f) us) (EP X pins Z Q) X.xe s:=by
 have hl:(us++[]).length=ps.length:=by rw [List.append_nil,<- r.length];exact F.len _ _ _ _ h
 have bd:=hb s us I.gO hl
 rw [List.append_nil] at bd
 refine wpAny_call (codeAny_mono (F.run X.A X.stack s H ⟨us,[]⟩ us vs Q _ hr I.kL bd r h) fun z s' hq=>?_)
 match z,hq with
 | .error e,hq=>exact passes hx pins Z H s e s' I hq
 | .ok (.ret u),hq=>exact I.after hq
 | .ok .next,hq=>exact hq.elim
 | .ok .brk,hq=>exact hq.elim
 | .ok .cont,hq=>exact hq.elim
theorem wV (F:cG X.prog X.w X.K X.mg X.base (ir X.prog X.w) k f fd ps sp) (hr:cX k X.A) (hg:Gl X x) (hm:X.mg x=some (.ref f)) (hk:W.keepIn X.K (.ref f)=true) (hb:Binds X.K fd ps []) (hx:∀ e s,i7 X Ex e s->X.xe e s)
  (ha:PA X (e::es) t) (hdb:(x == ("__debug__" : Str))=false) (he:starEach (e::es) X.env=(false, eval e X.env)::starEach es X.env) (hpl:(backTo pos (starEach es X.env)).any (·.1)=false) :
  PE X (.Call (.Name x p) (e::es) [] pos) (qd sp Ex t):=fun pins s Z H Q I h =>
 wpAny_Call_Name_kw (fP I hg hm (W.callWith_K (h₀:=X.base) I.ok.mod.Cr hk (aY (ha pos pins s Z H _ I h) fun us s1 ⟨vs,H1,I1,r,q⟩=>⟨I1.gO,z5 F hr hb hx I1 r q⟩) he hpl) hdb)
theorem uO (F:cG X.prog X.w X.K X.mg X.base (ir X.prog X.w) k f fd ps sp) (hr:cX k X.A) (hg:Gl X x) (hm:X.mg x=some (.ref f)) (hk:W.keepIn X.K (.ref f)=true) (hb:Binds X.K fd ps []) (hx:∀ e s, i7 X Ex e s->X.xe e s) (hdb:(x == ("__debug__" : Str))=false) :
  PE X (.Call (.Name x p) [] [] pos) (qd sp Ex lU):=fun pins s Z H Q I h =>
 wpAny_Call_Name_kw (fP I hg hm (W.callWith_K0 I.gO hk (z5 (us:=[]) F hr hb hx I .nil h)) hdb)
end
end Fg
end
section
namespace Fg
open PySem PySem.Spec L2
theorem Up.back {M:Model} {A:Around} {E:Value->Shared->Prop} {s:Shared} {B:Heap} {l:List Env} {a:Addr} {C a0:Value} {env:Env} (up:Up B l a C a0 s.heap)
  (k:∀ h',Up B l a C a0 h'->s.heap.UpToSlots h'->E (.ref a) { s with heap:=h' }):cameBackBy M A env E (.ref a) s:=by
 obtain ⟨st,ne,hl,fl,oe,vs,T,oT,ts,q1,q2,q3,q4,q5,q6,q7,q8,q9⟩:=up
 have q0:3<ts.size:=(Array.getElem?_eq_some_iff.mp q9).1
 have sJ:∀ x b,b≠T->(s.heap.update T (Obj.mapFields (·.setIfInBounds 3 x))).get? b=s.heap.get? b:=fun x b hb=>Heap.get?_update_other _ _ (Ne.symm hb)
 have oq:∀ b o,s.heap.get? b=some o->(∀ vs,o.data≠.fields vs)->b≠T:=fun b o hb hn z=>by
  rw [z,q7] at hb
  cases hb
  exact hn ts q8
 unfold cameBackBy
 refine wpAny_bind (wpAny_field q1 q3 q4 ?_)
 rw [if_neg (by simp)]
 unfold setFlight
 refine wpAny_bind (wpAny_field q1 q3 q4 ?_)
 rw [if_pos (by simp)]
 refine wpAny_setField q7 q8 q0 ?_
 refine k _ ⟨fun b o e=>?_,ne,hl.of_keeps fun b o hb hn=>⟨o,(sJ _ b (oq b o hb hn)).trans hb,rfl⟩,?_⟩ fun b o hb hn=>⟨o.slots,(sJ _ b (oq b o hb hn)).trans hb⟩
 ·exact (sJ _ b (by rintro rfl;rw [q5] at e;cases e)).trans (st b o e)
 ·exact ⟨_,oe,vs,T,_,_,(sJ _ a (Ne.symm q6)).trans q1,q2,q3,q4,q5,q6,Heap.get?_update_self _ q7 (Obj.isFreed_of_fields (Obj.data_mapFields q8 _)),Obj.data_mapFields q8 _,Array.getElem?_setIfInBounds_self_of_lt q0⟩
theorem xg {M:Model} {A:Around} {E:Value->Shared->Prop} {s:Shared} {h B:Heap} {env:Env} {outer:List Env} {L a:Addr} {C:Value} {vs:List Value} {Q:Unit->Shared->Prop} (hfr:A.frames=some (env::outer)) (hf:env.frame=some L)
  (made:Heap.MadeExcOf h s.heap a C vs) (st:B.StaysIn h) (hl:h.FunFrames B (env::outer)) (k:∀ a0 h',Up B (env::outer) a C a0 h'->s.heap.UpToSlots h'->Q () { s with heap:=h' }):wpAny M A (noteFrame (.ref a) env) Q E s:=by
 obtain ⟨t,he,_,_⟩:=made.there
 have ne:B.get? a=none:=by
  cases q:B.get? a with
  | none=>rfl
  | some o=>have:=st _ _ q;rw [made.new] at this;cases this
 unfold noteFrame
 simp only [hf]
 refine wpAny_bind (wpAny_field he rfl (x:=.none) rfl ?_)
 rw [if_neg (by simp)]
 refine wpAny_entryW (base:=B) (a0:=.ref t) hfr (hl.of_keeps fun b o hb _=>⟨o,made.keeps b o hb,rfl⟩) hf he (fun b o e=>made.keeps b o (st b o e)) ne rfl (show 1<6 by decide) rfl fun h' nw=>?_
 obtain ⟨x1,x2,x3,x4⟩:=nw
 exact k _ h' ⟨x1,ne,x2,_,x3⟩ x4
theorem qw {X:Cx} {E:XS} (fr:pV X) (fo:∀ e s,X.xe e s->i7 X E e s\/CY X E e s) (fx:∀ e s,i7 X E e s->X.xe e s):PassesOwn (model X.prog X.w) X.A X.env X.xe:=by
 intro e s q
 obtain ⟨kL,mj,L,hst,FF,Ks⟩:=fr
 rcases fo e s q with q | q
 ·obtain ⟨pins,Z,H,a,a0,C,B,rfl,I,up,eZ,hp,q⟩:=q
  show wpAny _ X.A (noteFrame (.ref a) X.env) _ _ s
  rw [mz (env:=X.env) (env':=kL) (Ks.trans FF.symm)]
  refine Up.note (env:=kL) (outer:=mj) (by rw [I.ok.frames,hst]) FF (by rw [<- hst];exact up) fun h4 held vW=>?_
  refine (Up.sN held).back fun h5 C5 zE=>fx _ _ ?_
  have J:=jk I eZ hp up.1 C5.1 (vW.trans zE)
  have up':Up B X.stack a C a0 h5:=by rw [hst];exact C5
  exact ⟨[],Z,H,a,a0,C,B,rfl,J,up',eZ,hp,q⟩
 ·obtain ⟨pins,Z,H,a,C,vs,h,rfl,I,made,q⟩:=q
  show wpAny _ X.A (noteFrame (.ref a) X.env) _ _ s
  rw [mz (env:=X.env) (env':=kL) (Ks.trans FF.symm)]
  have i8:(W.hideAll h (frs X.stack)).StaysIn h:=fun b o q=>W.of_hideAll _ q
  have eZ:Calm (W.hideAll h (frs X.stack)) (frs X.stack) X.ex H X.s₀.heap:=fun b hb hf=>by
   have:∃ o,h.get? b=some o:=by
    rcases hb with hb | ⟨⟨o,hb⟩,nx⟩
    ·cases e:H b with
     | none=>exact absurd e hb
     | some o=>exact lu (I.hok b o e)
    ·exact fO I hb nx
   obtain ⟨o,e⟩:=this
   exact ⟨o,W.hideAll_get _ e hf⟩
  have hp:∀ p∈X.pn,(W.hideAll h (frs X.stack)).get? p.1=some p.2:=fun p hp=>by
   obtain ⟨p1,p2,p3,p4,_⟩:=I.pin p (List.mem_append_left _ hp)
   refine W.hideAll_get _ p1 fun z=>?_
   rcases List.mem_cons.mp (I.dX _ z) with e | z
   ·exact p3 e
   ·exact p4 z
  have hl:h.FunFrames (W.hideAll h (frs X.stack)) X.stack:=W.funFrames_hide I.stack fun env he b hb=>List.mem_filterMap.mpr ⟨env,he,hb⟩
  refine xg (env:=kL) (outer:=mj) (by rw [show X.A.frames=some X.stack from I.ok.frames,hst]) FF made i8 (hst ▸ hl) fun a0 h4 up4 vW=>?_
  refine up4.back fun h5 C5 zE=>fx _ _ ?_
  have sm:h.UpToSlots h5:=(Heap.UpToSlots.of_keeps made.keeps).trans (vW.trans zE)
  have J:=jk I eZ hp i8 C5.1 sm
  have up':Up (W.hideAll h (frs X.stack)) X.stack a C a0 h5:=by
   have z:∀ l,l=X.stack->Up (W.hideAll h (frs X.stack)) l a C a0 h5->Up (W.hideAll h (frs X.stack)) X.stack a C a0 h5:=fun l e u=>e ▸ u
   exact z _ hst.symm C5
  exact ⟨[],Z,H,a,a0,C,_,rfl,J,up',eZ,hp,q⟩
end Fg
end
section
namespace Fg
open PySem L2
mutual
noncomputable def DV (K:W.Frag) (H:Hp):D->V->Prop
 | .ak,v=>v=.ak
 | .bl b,v=>v=.bl b
 | .int i,v=>v=.int i
 | .str x,v=>v=.str x
 | .tup ds,v=>∃ a vs,v=.ref a/\iO K H a vs/\gA K H ds vs
 | .lst ds,v=>∃ a vs,v=.ref a/\fc K H a vs/\gA K H ds vs
 | .dct _ _,_=>False
 | .ref _,_=>False
noncomputable def gA (K:W.Frag) (H:Hp):List D->List V->Prop
 | [],vs=>vs=[]
 | d::ds,vs=>∃ v ws,vs=v::ws/\DV K H d v/\gA K H ds ws
end
section
variable {B:Bd} {Φ:aQ} {E:Gx} {F F' F1:Addr->Prop} {ρ ρ' ρ1:List Addr} {H H' H1:Hp} {M M':MH} {ZD:Sg} {Z:St} {Q:VK}
mutual
theorem RD.dv:∀ {d:D} {v:V},plain d=true->RD B F ρ H d v->DV B.K H d v
 | .ak,v,_,h=>by simp only [RD] at h;simp only [DV];exact h
 | .bl _,v,_,h=>by simp only [RD] at h;simp only [DV];exact h
 | .int _,v,_,h=>by simp only [RD] at h;simp only [DV];exact h
 | .str _,v,_,h=>by simp only [RD] at h;simp only [DV];exact h
 | .tup ds,v,p,h=>by
  simp only [RD] at h;simp only [DV];simp only [plain] at p
  obtain ⟨a,vs,h1,h2,h3⟩:=h
  exact ⟨a,vs,h1,h2.sq,aj.dv p h3⟩
 | .lst ds,v,p,h=>by
  simp only [RD] at h;simp only [DV];simp only [plain] at p
  obtain ⟨a,vs,h1,h2,h3⟩:=h
  exact ⟨a,vs,h1,h2.sq,aj.dv p h3⟩
 | .dct _ _,v,p,h=>by simp [plain] at p
 | .ref _,v,p,h=>by simp [plain] at p
theorem aj.dv:∀ {ds:List D} {vs:List V},au ds=true->aj B F ρ H ds vs->gA B.K H ds vs
 | [],vs,_,h=>by simp only [aj] at h;simp only [gA];exact h
 | d::ds,vs,p,h=>by
  simp only [aj] at h;simp only [gA];simp only [au,Bool.and_eq_true] at p
  obtain ⟨v,ws,h1,h2,h3⟩:=h
  exact ⟨v,ws,h1,RD.dv p.1 h2,aj.dv p.2 h3⟩
end
theorem vK {d:D} {v:V} (S:SR B F ρ M H) (p:plain (top M d)=true) (h:RD B F ρ H d v):DV B.K H (top M d) v:=by
 cases d with
 | ref n =>
  cases hM:M[n]? with
  | none=>simp [top,hM,plain] at p
  | some o =>
   cases o with
   | lst ds =>
    obtain ⟨a,vs,e,q,r⟩:=bJ (ds:=ds) S h (by simp only [vw,hM])
    simp only [top,hM,plain] at p
    simp only [top,hM,DV]
    exact ⟨a,vs,e,q,aj.dv p r⟩
   | dct _=>simp [top,hM,plain] at p
   | nE _=>simp [top,hM,plain] at p
   | ins _ _=>simp [top,hM,plain] at p
 | tup ds=>exact RD.dv p h
 | lst ds=>exact RD.dv p h
 | dct _ _=>exact RD.dv p h
 | ak=>exact RD.dv p h
 | bl _=>exact RD.dv p h
 | int _=>exact RD.dv p h
 | str _=>exact RD.dv p h
noncomputable def wH (K:W.Frag) (neg:Bool):R2:=fun x y H Q=>∃ d e,DV K H d x/\DV K H e y/\aV d e=true/\Q (.bl (if neg then !aI d e else aI d e)) H
noncomputable def wG (K:W.Frag) (neg:Bool):R2:=fun x y H Q=>∃ l b xs,x=.ref l/\y=.ref b/\fc K H l xs/\fc K H b []/\Q (.bl (if neg then !xs.isEmpty else xs.isEmpty)) H
noncomputable def Aa (neg:Bool):R2:=fun x y H Q=>∃ a b,x=.bl a/\y=.bl b/\Q (.bl (if neg then !(a == b) else (a == b))) H
noncomputable def wI (B:Bd) (neg:Bool):R2:=fun x y H Q=>∃ a kvs k,y=.ref a/\x=kV k/\GA B H a kvs/\Q (.bl (if neg then !(cE kvs k).isSome else (cE kvs k).isSome)) H
noncomputable def qq (B:Bd):zk->R2
 | .lt=>qp fun i j=>.bl (decide (i<j))
 | .le=>qp fun i j=>.bl (decide (i<=j))
 | .gt=>qp fun i j=>.bl (decide (j<i))
 | .ge=>qp fun i j=>.bl (decide (j<=i))
 | .eq=>fun x y H Q=>Aa false x y H Q\/(wH B.K false x y H Q\/wG B.K false x y H Q)
 | .ne=>fun x y H Q=>Aa true x y H Q\/(wH B.K true x y H Q\/wG B.K true x y H Q)
 | .y9=>fun x y H Q=>y=.ak/\Q (.bl (decide (x=.ak))) H
 | .qy=>fun x y H Q=>y=.ak/\Q (.bl (!decide (x=.ak))) H
 | .isin=>fun x y H Q=>wI B false x y H Q\/HP B.K false x y H Q
 | .oE=>fun x y H Q=>wI B true x y H Q\/HP B.K true x y H Q
theorem qE {d:D} {v:V} {k:Ky} (h:keyOf d=some k) (r:RD B F ρ H d v):v=kV k:=by
 cases d with
 | int i=>simp only [keyOf] at h;cases h;simp only [RD] at r;exact r
 | str x=>simp only [keyOf] at h;cases h;simp only [RD] at r;exact r
 | ak=>simp only [keyOf] at h;cases h
 | bl _=>simp only [keyOf] at h;cases h
 | tup _=>simp only [keyOf] at h;cases h
 | lst _=>simp only [keyOf] at h;cases h
 | dct _ _=>simp only [keyOf] at h;cases h
 | ref _=>simp only [keyOf] at h;cases h
theorem mR {d:D} {v:V} (h:flat d=true) (r:RD B F ρ H d v):gh v=true:=by
 cases d <;> first | (simp only [RD] at r;subst r;rfl) | (simp only [flat] at h;cases h)
theorem o6 {ds:List D}:∀ {vs:List V},ds.all flat=true->aj B F ρ H ds vs->vs.all gh=true:=by
 induction ds with
 | nil=>intro vs _ r;simp only [aj] at r;subst r;rfl
 | cons d ds ih =>
  intro vs h r
  simp only [aj] at r
  obtain ⟨v,ws,rfl,r1,r2⟩:=r
  simp only [List.all_cons,Bool.and_eq_true] at h ⊢
  exact ⟨mR h.1 r1,ih h.2 r2⟩
theorem Br {d e:D} {v w:V} (h1:flat d=true) (h2:flat e=true) (r1:RD B F ρ H d v) (r2:RD B F ρ H e w):aI d e=zd v w:=by
 cases d <;> first | (simp only [flat] at h1;cases h1;done) | skip
 all_goals (cases e <;> first | (simp only [flat] at h2;cases h2;done) | skip)
 all_goals (simp only [RD] at r1 r2;subst r1 r2;simp only [aI,zd])
 all_goals first | rfl | simp [Bool.beq_eq_decide_eq]
theorem uq {d:D} {v:V} (h1:flat d=true) (r1:RD B F ρ H d v) {ds:List D}:∀ {vs:List V},ds.all flat=true->aj B F ρ H ds vs->(ds.any fun e=>aI e d)=IT v vs:=by
 induction ds with
 | nil=>intro vs _ r;simp only [aj] at r;subst r;rfl
 | cons e ds ih =>
  intro vs h r
  simp only [aj] at r
  obtain ⟨w,ws,rfl,q1,q2⟩:=r
  simp only [List.all_cons,Bool.and_eq_true] at h
  simp only [List.any_cons,IT,Br h.1 h1 q1 r1]
  have:=ih h.2 q2
  simp only [IT] at this
  rw [this]
theorem xZ {neg:Bool} {x y:D} {v w:V} {X:XK} {t:Bool} (S:SR B F ρ M H) (rx:RD B F ρ H x v) (ry:RD B F ρ H y w) (hi:FA M x y=some t)
  (h:Post B (.ok (.bl (if neg then !t else t)) M) F ρ H Q X):wI B neg v w H Q\/HP B.K neg v w H Q:=by
 unfold FA at hi
 split at hi
 ·rename_i dH hv
  split at hi
  ·rename_i k hk
   cases hi
   obtain ⟨a,kvs,rfl,q,e1,e2⟩:=lS S ry hv
   have:=(jR (k:=k) e1 e2).2.2
   refine .inl ⟨a,kvs,k,rfl,qE hk rx,q,?_⟩
   rw [<- this]
   exact ai.run h S (by simp only [RD])
  ·cases hi
 ·rename_i ds hv
  split at hi
  ·rename_i hf
   cases hi
   simp only [Bool.and_eq_true] at hf
   obtain ⟨a,vs,rfl,q,r⟩:=bJ S ry hv
   refine .inr ⟨a,vs,rfl,.inl q,mR hf.1 rx,o6 hf.2 r,?_⟩
   rw [<- uq hf.1 rx hf.2 r]
   exact ai.run h S (by simp only [RD])
  ·cases hi
 ·rename_i ds hv
  split at hi
  ·rename_i hf
   cases hi
   simp only [Bool.and_eq_true] at hf
   obtain ⟨a,vs,rfl,q,r⟩:=jv S ry hv
   refine .inr ⟨a,vs,rfl,.inr q,mR hf.1 rx,o6 hf.2 r,?_⟩
   rw [<- uq hf.1 rx hf.2 r]
   exact ai.run h S (by simp only [RD])
  ·cases hi
 ·cases hi
theorem jn {f:D->D} (ih:∀ (d:D) (v:V),plain (f d)=true->RD B F ρ H d v->DV B.K H (f d) v):∀ (ds:List D) (vs:List V),au (ds.map f)=true->aj B F ρ H ds vs->gA B.K H (ds.map f) vs
 | [],vs,p,h=>by simp only [aj] at h;simp only [List.map_nil,gA];exact h
 | d::ds,vs,p,h=>by
  simp only [aj] at h;simp only [List.map_cons,gA];simp only [List.map_cons,au,Bool.and_eq_true] at p
  obtain ⟨v,ws,h1,h2,h3⟩:=h
  exact ⟨v,ws,h1,ih d v p.1 h2,jn ih ds ws p.2 h3⟩
theorem tV (S:SR B F ρ M H) (n:Nat):∀ (d:D) (v:V),plain (deep n M d)=true->RD B F ρ H d v->DV B.K H (deep n M d) v:=by
 induction n with
 | zero=>intro d v p h;exact RD.dv p h
 | succ n ih =>
  intro d v p h
  cases d with
  | ref r =>
   cases hM:M[r]? with
   | none=>simp [deep,hM,plain] at p
   | some o =>
    cases o with
    | lst ds =>
     obtain ⟨a,vs,e,q,r⟩:=bJ (ds:=ds) S h (by simp only [vw,hM])
     simp only [deep,hM,plain] at p
     simp only [deep,hM,DV]
     exact ⟨a,vs,e,q,jn ih ds vs p r⟩
    | dct _=>simp [deep,hM,plain] at p
    | nE _=>simp [deep,hM,plain] at p
    | ins _ _=>simp [deep,hM,plain] at p
  | tup ds =>
   simp only [RD] at h;simp only [deep,plain] at p;simp only [deep,DV]
   obtain ⟨a,vs,h1,h2,h3⟩:=h
   exact ⟨a,vs,h1,h2.sq,jn ih ds vs p h3⟩
  | lst ds =>
   simp only [RD] at h;simp only [deep,plain] at p;simp only [deep,DV]
   obtain ⟨a,vs,h1,h2,h3⟩:=h
   exact ⟨a,vs,h1,h2.sq,jn ih ds vs p h3⟩
  | dct _ _=>simp [deep,plain] at p
  | ak=>exact RD.dv p h
  | bl _=>exact RD.dv p h
  | int _=>exact RD.dv p h
  | str _=>exact RD.dv p h
theorem tP (neg:Bool) {x y:D} {v w:V} {X:XK} (S:SR B F ρ M H) (rx:RD B F ρ H x v) (ry:RD B F ρ H y w) (h:Post B (if aV (top M x) (top M y) then .ok (.bl (if neg then !aI (top M x) (top M y) else aI (top M x) (top M y))) M else (match jO M x y with | some t=>.ok (.bl (if neg then !t else t)) M | none=>Bo M neg x y)) F ρ H Q X):wH B.K neg v w H Q\/wG B.K neg v w H Q:=by
 split at h
 ·rename_i hc
  have hc':=hc
  simp only [aV,Bool.and_eq_true] at hc'
  exact .inl ⟨_,_,vK S hc'.1.1 rx,vK S hc'.1.2 ry,hc,ai.run h S (by simp only [RD])⟩
 ·cases hn:jO M x y with
  | none =>
   rw [hn] at h
   replace h:Post B (Bo M neg x y) F ρ H Q X:=h
   unfold Bo at h
   split at h
   ·rename_i hc
    have hc':=hc
    simp only [aV,Bool.and_eq_true] at hc'
    exact .inl ⟨_,_,tV S 5 _ _ hc'.1.1 rx,tV S 5 _ _ hc'.1.2 ry,hc,ai.run h S (by simp only [RD])⟩
   ·exact h.elim
  | some t =>
   rw [hn] at h
   unfold jO at hn
   split at hn
   ·rename_i xs ys hx hy
    split at hn
    ·rename_i he
     cases hn
     obtain ⟨a,vs,rfl,q1,r1⟩:=bJ S rx hx
     obtain ⟨b,ws,rfl,q2,r2⟩:=bJ S ry hy
     have l1:=aj.length r1
     have l2:=aj.length r2
     have e2:ws=[]:=by
      rw [List.isEmpty_iff] at he
      subst he
      exact List.eq_nil_of_length_eq_zero l2.symm
     have e1:vs.isEmpty=xs.isEmpty:=by
      cases xs <;> cases vs <;> first | rfl | (simp at l1;done)
     subst e2
     refine .inr ⟨a,b,vs,rfl,rfl,q1,q2,?_⟩
     rw [e1]
     exact ai.run h S (by simp only [RD])
    ·cases hn
   ·cases hn
theorem jj {f:Int->Int->Bool} {x y:D} {v w:V} {X:XK} (S:SR B F ρ M H) (rx:RD B F ρ H x v) (ry:RD B F ρ H y w) (h:Post B (yG M f x y) F ρ H Q X):qp (fun i j=>.bl (f i j)) v w H Q:=by
 cases x with
 | int i=>cases y with
  | int j=>simp only [RD] at rx ry;subst rx ry;exact ⟨_,_,rfl,rfl,ai.run h S (by simp only [RD])⟩
  | _=>exact h.elim
 | _=>exact h.elim
theorem jY {x:D} {v:V} (r:RD B F ρ H x v):dM x=decide (v=.ak):=by
 cases x <;> first | (simp only [RD] at r;subst r;rfl) | (simp only [RD] at r;obtain ⟨_,r⟩:=r;first | (obtain ⟨_,rfl,_⟩:=r;rfl) | (obtain ⟨_,rfl⟩:=r;rfl) | (obtain ⟨_,_,rfl,_⟩:=r;rfl))
theorem yH {o:zk} {x y:D} {v w:V} {X:XK} (S:SR B F ρ M H) (rx:RD B F ρ H x v) (ry:RD B F ρ H y w) (h:Post B (bh o M x y) F ρ H Q X):qq B o v w H Q:=by
 have eb:∀ {p:Bool×Bool},ug x y=some p->x=.bl p.1/\y=.bl p.2:=fun {p} hb=>by
  cases x with
  | bl a=>cases y with
   | bl b=>cases hb;exact ⟨rfl,rfl⟩
   | _=>cases hb
  | _=>cases hb
 have nn:dM y=true->w=.ak:=fun q=>by
  have:=jY ry
  rw [q] at this
  exact of_decide_eq_true this.symm
 cases o with
 | lt=>exact jj S rx ry h
 | le=>exact jj S rx ry h
 | gt=>exact jj S rx ry h
 | ge=>exact jj S rx ry h
 | eq =>
  cases hb:ug x y with
  | some p =>
   obtain ⟨rfl,rfl⟩:=eb hb
   simp only [RD] at rx ry;subst rx ry
   exact .inl ⟨_,_,rfl,rfl,ai.run h S (by simp only [RD];rfl)⟩
  | none =>
   simp only [bh,hb] at h
   exact .inr (tP false S rx ry h)
 | ne =>
  cases hb:ug x y with
  | some p =>
   obtain ⟨rfl,rfl⟩:=eb hb
   simp only [RD] at rx ry;subst rx ry
   exact .inl ⟨_,_,rfl,rfl,ai.run h S (by simp only [RD];rfl)⟩
  | none =>
   simp only [bh,hb] at h
   exact .inr (tP true S rx ry h)
 | y9 =>
  cases hn:dM y with
  | false=>simp only [bh,hn] at h;exact h.elim
  | true =>
   simp only [bh,hn,if_true] at h
   refine ⟨nn hn,?_⟩
   rw [<- jY rx]
   exact ai.run h S (by simp only [RD])
 | qy =>
  cases hn:dM y with
  | false=>simp only [bh,hn] at h;exact h.elim
  | true =>
   simp only [bh,hn,if_true] at h
   refine ⟨nn hn,?_⟩
   rw [<- jY rx]
   exact ai.run h S (by simp only [RD])
 | isin =>
  cases hi:FA M x y with
  | none=>simp only [bh,hi] at h;exact h.elim
  | some t=>simp only [bh,hi] at h;exact xZ (neg:=false) S rx ry hi h
 | oE =>
  cases hi:FA M x y with
  | none=>simp only [bh,hi] at h;exact h.elim
  | some t=>simp only [bh,hi] at h;exact xZ (neg:=true) S rx ry hi h
theorem r9 {o:zk} {a b:Fg.E} (h:T B Φ E (.cmp o a b) Z H Q):Dc (qq B o) (T B Φ E a) (T B Φ E b) Z H Q:=by
 obtain ⟨ZD,M,F,ρ,S,r,h⟩:=h
 simp only [ev] at h
 exact T.two S r rfl h fun x y M2 F2 ρ2 H2 v w S2 _ rx ry h2=>yH S2 rx ry h2
theorem xT (n:Nat) (i:Int):yZ n i=GJ n i:=rfl
theorem yQ {ds:List D} {vs:List V} {i:Int} {d:D} (r:aj B F ρ H ds vs) (h:dU ds i=some d):∃ v,Gv vs i=some v/\RD B F ρ H d v:=by
 unfold dU at h
 unfold Gv
 rw [<- aj.length r]
 cases hx:yZ ds.length i with
 | none=>rw [hx] at h;cases h
 | some j =>
  rw [hx] at h
  rw [xT] at hx
  rw [hx]
  exact aj.get r h
noncomputable def HM (B:Bd):R2:=fun x y H Q=>∃ a kvs k v,x=.ref a/\y=kV k/\GA B H a kvs/\cE kvs k=some v/\Q v H
noncomputable def z9 (B:Bd):R2:=fun x y H Q=>HL B.K x y H Q\/(HJ B.K x y H Q\/(HK x y H Q\/HM B x y H Q))
theorem x8 {x y:D} {v w:V} {X:XK} (S:SR B F ρ M H) (rx:RD B F ρ H x v) (ry:RD B F ρ H y w) (h:Post B (oS M x y) F ρ H Q X):z9 B v w H Q:=by
 unfold oS at h
 split at h
 ·simp only [RD] at rx ry;subst rx ry
  split at h
  ·rename_i hl
   split at h
   ·rename_i c hc
    exact .inr (.inr (.inl ⟨_,_,c,rfl,rfl,Nat.le_trans (of_decide_eq_true hl) bM,hc,ai.run h S (by simp only [RD])⟩))
   ·exact h.elim
  ·exact h.elim
 ·split at h
  ·rename_i ds i hv _
   split at h
   ·rename_i d hd
    obtain ⟨a,vs,rfl,q,r⟩:=jv S rx hv
    simp only [RD] at ry;subst ry
    obtain ⟨u,h1,h2⟩:=yQ r hd
    exact .inr (.inl ⟨a,vs,i,u,rfl,rfl,q,h1,ai.run h S h2⟩)
   ·exact h.elim
  ·rename_i ds i hv _
   split at h
   ·rename_i d hd
    obtain ⟨a,vs,rfl,q,r⟩:=bJ S rx hv
    simp only [RD] at ry;subst ry
    obtain ⟨u,h1,h2⟩:=yQ r hd
    exact .inl ⟨a,vs,i,u,rfl,rfl,q,h1,ai.run h S h2⟩
   ·exact h.elim
  ·rename_i dH hv _
   split at h
   ·rename_i k hk
    split at h
    ·rename_i d hd
     obtain ⟨a,kvs,rfl,q,e1,e2⟩:=lS S rx hv
     obtain ⟨u,h1,h2⟩:=(jR (k:=k) e1 e2).1 d hd
     exact .inr (.inr (.inr ⟨a,kvs,k,u,rfl,qE hk ry,q,h1,ai.run h S h2⟩))
    ·exact h.elim
   ·exact h.elim
  ·exact h.elim
theorem zT {a b:Fg.E} (h:T B Φ E (.idx a b) Z H Q):Dc (z9 B) (T B Φ E a) (T B Φ E b) Z H Q:=by
 obtain ⟨ZD,M,F,ρ,S,r,h⟩:=h
 simp only [ev] at h
 exact T.two S r rfl h fun x y M2 F2 ρ2 H2 v w S2 _ rx ry h2=>x8 S2 rx ry h2
theorem vY (n d:Nat) (o:Option Int):six n d o=HT.cu n d o:=by cases o <;> rfl
theorem uc {ds:List D} {vs:List V} (r:aj B F ρ H ds vs) (lo hi:Option Int):aj B F ρ H (eU ds lo hi) (pM vs lo hi):=by
 unfold eU pM
 rw [aj.length r]
 simp only [vY]
 exact aj.take _ (aj.drop _ r)
noncomputable def HF:V->Option Int->Option Int->Hp->VK->Prop:=fun x lo hi H Q=>∃ z,x=.str z/\z.length<=sizeLine/\Q (.str (cuts z lo hi)) H
noncomputable def z8 (B:Bd):V->Option Int->Option Int->Hp->VK->Prop:=fun x lo hi H Q=>HG B.K x lo hi H Q\/(HE B.K x lo hi H Q\/HF x lo hi H Q)
theorem zG {fz:Bool} {x:D} {v:V} {lo hi:Option Int} {X:XK} (S:SR B F ρ M H) (rx:RD B F ρ H x v) (h:Post B (sl2 fz M x lo hi) F ρ H Q X):z8 B v lo hi H Q:=by
 unfold sl2 at h
 split at h
 ·simp only [RD] at rx;subst rx
  split at h
  ·rename_i hl
   exact .inr (.inr ⟨_,rfl,Nat.le_trans (of_decide_eq_true hl) bM,ai.run h S (by simp only [RD])⟩)
  ·exact h.elim
 ·split at h
  ·rename_i ds hv
   cases x with
   | tup xs =>
    simp only [vw] at hv;cases hv
    simp only [RD] at rx
    obtain ⟨a,vs,rfl,z,r⟩:=rx
    split at h
    ·exact h.elim
    ·rename_i hf
     refine .inr (.inl ⟨a,vs,rfl,z.sq,fun q=>hf ?_,jh S h (uc r lo hi)⟩)
     simp only [CB,Bool.and_eq_true,decide_eq_true_eq,vY,aj.length r]
     exact q
   | ref n=>simp only [vw] at hv;split at hv <;> cases hv
   | lst _=>simp only [vw] at hv;cases hv
   | dct _ _=>simp only [vw] at hv;cases hv
   | ak=>simp only [vw] at hv;cases hv
   | bl _=>simp only [vw] at hv;cases hv
   | int _=>simp only [vw] at hv;cases hv
   | str _=>simp only [vw] at hv;cases hv
  ·rename_i ds hv
   obtain ⟨a,vs,rfl,q,r⟩:=bJ S rx hv
   exact .inl ⟨a,vs,rfl,q,dJ S h (uc r lo hi)⟩
  ·exact h.elim
theorem Dr {Q:Option Int->Hp->Prop} (h:TP B Φ E .none Z H Q):rR Z H Q:=by
 obtain ⟨ZD,M,F,ρ,S,r,h⟩:=h
 simp only [Bh] at h
 exact ai.run h S rfl
theorem Dq {a:Fg.E} {Q:Option Int->Hp->Prop} (h:TP B Φ E (.some a) Z H Q):BY (T B Φ E a) Z H Q:=by
 obtain ⟨ZD,M,F,ρ,S,r,h⟩:=h
 simp only [Bh] at h
 refine ⟨ZD,M,F,ρ,S,r,ai.imp (ai.bind (rel:=RD B) h) fun v H1 ⟨x,M1,F1,ρ1,e1,S1,rx,h1⟩=>?_⟩
 split at h1
 ·simp only [RD] at rx;subst rx
  exact ⟨_,rfl,ai.run h1 S1 rfl⟩
 ·exact h1.elim
theorem Dm {fz:Bool} {a:Fg.E} {lo hi:O} (h:T B Φ E (.sl fz a lo hi) Z H Q):tSl (z8 B) (T B Φ E a) (TP B Φ E lo) (TP B Φ E hi) Z H Q:=by
 obtain ⟨ZD,M,F,ρ,S,r,h⟩:=h
 simp only [ev] at h
 refine T.one S r rfl h fun x M1 F1 ρ1 H1 v e1 S1 r1 rx h1=>?_
 refine ⟨ZD,M1,F1,ρ1,S1,r1,ai.imp (ai.bind (rel:=fun _ _ _ (a b:Option Int)=>a=b) h1) fun l H2 ⟨l',M2,F2,ρ2,e2,S2,el,h2⟩=>?_⟩
 refine ⟨ZD,M2,F2,ρ2,S2,r1.mono e2,ai.imp (ai.bind (rel:=fun _ _ _ (a b:Option Int)=>a=b) h2) fun u H3 ⟨u',M3,F3,ρ3,e3,S3,eu,h3⟩=>?_⟩
 subst el eu
 exact zG S3 (RD.mono e3 _ _ (RD.mono e2 _ _ rx)) h3
theorem ux {M:MH} {d:D} {ds:List D} (h:vw M d=.tup ds):d=.tup ds:=by
 cases d with
 | tup xs=>simp only [vw] at h;cases h;rfl
 | ref n=>simp only [vw] at h;split at h <;> cases h
 | lst _=>simp only [vw] at h;cases h
 | dct _ _=>simp only [vw] at h;cases h
 | ak=>simp only [vw] at h;cases h
 | bl _=>simp only [vw] at h;cases h
 | int _=>simp only [vw] at h;cases h
 | str _=>simp only [vw] at h;cases h
theorem tH:∀ {ds:List D} {vs:List V} {ns:List Int},aj B F ρ H ds vs->intsOf ds=some ns->vs=ns.map V.int
 | [],vs,ns,r,h=>by simp only [intsOf] at h;cases h;simp only [aj] at r;subst r;rfl
 | d::ds,vs,ns,r,h=>by
  cases d with
  | int i =>
   simp only [intsOf] at h
   cases hx:intsOf ds with
   | none=>rw [hx] at h;cases h
   | some ms =>
    rw [hx] at h;cases h
    simp only [aj] at r
    obtain ⟨v,ws,rfl,r1,r2⟩:=r
    simp only [RD] at r1;subst r1
    rw [tH r2 hx];rfl
  | _=>simp [intsOf] at h
noncomputable def DJ (B:Bd):List V->Hp->VK->Prop:=fun xs H Q=>(∃ z,xs=[.str z]/\z.length<=sizeLine/\Q (.int z.length) H)\/((∃ p ys,xs=[.ref p]/\(fc B.K H p ys\/iO B.K H p ys)/\Q (.int ys.length) H)\/(∃ a kvs,xs=[.ref a]/\GA B H a kvs/\Q (.int kvs.length) H))
noncomputable def rSum (B:Bd):List V->Hp->VK->Prop:=fun xs H Q=>∃ (p:Addr) (ns:List Int),xs=[.ref p]/\fc B.K H p (ns.map V.int)/\Q (.int ns.sum) H
noncomputable def DH (B:Bd):List V->Hp->VK->Prop:=fun xs H Q=>∃ p ys,xs=[.ref p]/\((fc B.K H p ys/\∀ l,H l=none->Q (.ref l) (upd H l (.tup ys)))\/(iO B.K H p ys/\Q (.ref p) H))
noncomputable def qo (B:Bd):List V->Hp->VK->Prop:=fun xs H Q=>∃ p ys,xs=[.ref p]/\(fc B.K H p ys\/iO B.K H p ys)/\∀ l,H l=none->Q (.ref l) (upd H l (.lst ys))
noncomputable def DK (B:Bd):List V->Hp->VK->Prop:=fun xs H Q=>∃ p kvs,xs=[.ref p]/\GA B H p kvs/\∀ l,H l=none->Q (.ref l) (upd H l (.dK kvs))
noncomputable def rBl (B:Bd):Bl->List V->Hp->VK->Prop
 | .len=>DJ B
 | .sum=>rSum B
 | .tuple=>DH B
 | .list=>qo B
 | .dict=>DK B
 | _=>fun _ _ _=>False
theorem DF {d:D} {vs:List V} (r:aj B F ρ H [d] vs):∃ v,vs=[v]/\RD B F ρ H d v:=by
 simp only [aj] at r
 obtain ⟨v,ws,rfl,r1,rfl⟩:=r
 exact ⟨v,rfl,r1⟩
theorem yO {b:Bl} {fz:Bool} {ds:List D} {vs:List V} {X:XK} (S:SR B F ρ M H) (r:aj B F ρ H ds vs) (h:Post B (pR b fz M ds) F ρ H Q X):rBl B b vs H Q:=by
  unfold pR at h
  split at h
  . obtain ⟨v,rfl,r1⟩:=DF r
    simp only [RD] at r1;subst r1
    cases b <;> simp only at h <;> first
      | exact h.elim
      | (split at h
         . rename_i hl
           exact .inl ⟨_,rfl,Nat.le_trans (of_decide_eq_true hl) bM,ai.run h S (by simp only [RD])⟩
         . exact h.elim)
  . obtain ⟨v,rfl,r1⟩:=DF r
    split at h
    . rename_i hv
      obtain ⟨a,ws,rfl,q,rr⟩:=jv S r1 hv
      exact .inr (.inl ⟨a,ws,rfl,.inr q,ai.run h S (by simp only [RD,aj.length rr])⟩)
    . rename_i hv
      obtain ⟨a,ws,rfl,q,rr⟩:=bJ S r1 hv
      exact .inr (.inl ⟨a,ws,rfl,.inl q,ai.run h S (by simp only [RD,aj.length rr])⟩)
    . rename_i hv
      obtain ⟨a,kvs,rfl,q,e1,e2⟩:=lS S r1 hv
      refine .inr (.inr ⟨a,kvs,rfl,q,ai.run h S ?_⟩)
      have:=congrArg List.length e1
      simp only [List.length_map] at this
      simp only [RD,this]
    . rename_i hv
      split at h
      . rename_i ns hn
        obtain ⟨a,ws,rfl,q,rr⟩:=bJ S r1 hv
        have:=tH rr hn
        subst this
        exact ⟨a,ns,rfl,q,ai.run h S (by simp only [RD])⟩
      . exact h.elim
    . rename_i hv
      obtain ⟨a,ws,rfl,q,rr⟩:=bJ S r1 hv
      exact ⟨a,ws,rfl,.inl ⟨q,jh S h rr⟩⟩
    . rename_i hv
      have ed:=ux hv
      subst ed
      have r1':=r1
      simp only [RD] at r1'
      obtain ⟨a,ws,rfl,q,rr⟩:=r1'
      exact ⟨a,ws,rfl,.inr ⟨q.sq,ai.run h S r1⟩⟩
    . rename_i hv
      obtain ⟨a,ws,rfl,q,rr⟩:=bJ S r1 hv
      exact ⟨a,ws,rfl,.inl q,dJ S h rr⟩
    . rename_i hv
      obtain ⟨a,ws,rfl,q,rr⟩:=jv S r1 hv
      exact ⟨a,ws,rfl,.inr q,dJ S h rr⟩
    . rename_i dH hv
      obtain ⟨a,kvs,rfl,q,e1,e2⟩:=lS S r1 hv
      refine ⟨a,kvs,rfl,q,fun p hp=>?_⟩
      have e0:Ext F ρ H F (ρ++[p]) (upd H p (.dK kvs)):=⟨⟨S.sep,fun _ q=>q,fun a q _=>ao (by rintro rfl;exact q hp),List.prefix_append _ _,fun a q=>by
        rcases List.mem_append.mp q with q | q
        . exact .inl q
        . rw [List.mem_singleton.mp q];exact .inr hp,fun _ q=>.inl q⟩,fun b w u q=>by rw [ao (by rintro rfl;rw [hp] at q;cases q)];exact q⟩
      obtain ⟨S',e⟩:=S.lv (o:=.dK kvs) (u:=.dct dH) hp ⟨kvs,ay,e1,aj.mono e0 _ _ e2⟩
      refine h _ _ _ _ e S' ?_
      simp only [RD]
      refine ⟨p,?_,rfl⟩
      rw [<- S.len,List.getElem?_append_right (Nat.le_refl _),Nat.sub_self];rfl
    . exact h.elim
  . exact h.elim
theorem sd {b:Bl} {fz:Bool} {es:Es} (h:T B Φ E (.blt b fz es) Z H Q):Hh (rBl B b) (TL B Φ E es) Z H Q:=by
 obtain ⟨ZD,M,F,ρ,S,r,h⟩:=h
 simp only [ev] at h
 exact TL.one S r rfl h fun x M1 F1 ρ1 H1 v _ S1 _ rx h1=>yO S1 rx h1
end
end Fg
end
section
namespace Fg
open PySem L2
noncomputable def JR (B:Bd) (o:Out) (F:Addr->Prop) (ρ:List Addr) (H:Hp) (Dn:Ends) (E:Gx):Prop :=
 match o with
 | .nx ZD=>∀ Z,RS B F ρ H ZD Z->Dn.nx Z H
 | .rt d=>∀ v,RD B F ρ H d v->Dn.rt v H
 | .bk ZD=>∀ Z,RS B F ρ H ZD Z->Dn.bk Z H
 | .ct ZD=>∀ Z,RS B F ρ H ZD Z->Dn.ct Z H
 | .xc c ZD=>∀ Z cv x,RS B F ρ H ZD Z->B.exc c cv->E.e cv x Z H
noncomputable def aN (B:Bd) (r:R Out) (F:Addr->Prop) (ρ:List Addr) (H:Hp) (Dn:Ends) (E:Gx):Prop :=
 match r with
 | .ok o M'=>∀ F' ρ' H',Ext F ρ H F' ρ' H'->SR B F' ρ' M' H'->JR B o F' ρ' H' Dn E
 | .exc _ _=>False
 | .bad=>False
noncomputable def TC (B:Bd) (Φ:aQ) (E:Gx) (s:S):TS:=fun Dn Z H=>∃ (ZD:Sg) (M:MH) (F:Addr->Prop) (ρ:List Addr),
 SR B F ρ M H/\RS B F ρ H ZD Z/\aN B (ex Φ s ZD M) F ρ H Dn E
noncomputable def vF (B:Bd) (Φ:aQ) (E:Gx) (s:Ss):TS:=fun Dn Z H=>∃ (ZD:Sg) (M:MH) (F:Addr->Prop) (ρ:List Addr),
 SR B F ρ M H/\RS B F ρ H ZD Z/\aN B (exs Φ s ZD M) F ρ H Dn E
section
variable {B:Bd} {Φ:aQ} {E:Gx} {F F' F1:Addr->Prop} {ρ ρ' ρ1:List Addr} {H H' H1:Hp} {M M':MH} {ZD:Sg} {Z:St} {Q:VK} {Dn:Ends}
theorem aN.weak {r:R Out} (e:Ext F ρ H F1 ρ1 H1) (h:aN B r F ρ H Dn E):aN B r F1 ρ1 H1 Dn E:=by
 cases r with
 | ok d M'=>exact fun F' ρ' H' e' S=>h F' ρ' H' (e.trans e') S
 | exc c M'=>exact h
 | bad=>exact h
theorem aN.use {α β:Type} {rel:(Addr->Prop)->List Addr->Hp->α->β->Prop} {x:R α} {f:α->MH->R Out} (r:RS B F ρ H ZD Z) (h:aN B (x.use ZD f) F ρ H Dn E) :
  ai rel B x F ρ H (fun v H'=>∃ d M' F' ρ',Ext F ρ H F' ρ' H'/\SR B F' ρ' M' H'/\rel F' ρ' H' d v/\aN B (f d M') F' ρ' H' Dn E) (fun cv x H'=>E.e cv x Z H'):=by
 cases x with
 | ok d M'=>exact fun F' ρ' H' v e S q=>⟨d,M',F',ρ',e,S,q,aN.weak e h⟩
 | exc c M'=>exact fun F' ρ' H' cv x e S q=>h F' ρ' H' e S Z cv x (r.mono e) q
 | bad=>exact h
theorem TC.one {a:Fg.E} {f:D->MH->R Out} {W:V->Hp->Prop} (S:SR B F ρ M H) (r:RS B F ρ H ZD Z) (h:aN B ((ev Φ a ZD M).use ZD f) F ρ H Dn E)
  (k:∀ x M1 F1 ρ1 H1 v,Ext F ρ H F1 ρ1 H1->SR B F1 ρ1 M1 H1->RS B F1 ρ1 H1 ZD Z->RD B F1 ρ1 H1 x v->aN B (f x M1) F1 ρ1 H1 Dn E->W v H1):T B Φ E a Z H W:=by
 refine ⟨ZD,M,F,ρ,S,r,ai.imp (aN.use (rel:=RD B) r h) fun v H1 ⟨x,M1,F1,ρ1,e,S1,rx,h1⟩=>?_⟩
 exact k x M1 F1 ρ1 H1 v e S1 (r.mono e) rx h1
theorem aN.run {o:Out} (h:aN B (.ok o M) F ρ H Dn E) (S:SR B F ρ M H):JR B o F ρ H Dn E:=h F ρ H S.refl S
theorem lY {i:Nat} {e:Fg.E} (h:TC B Φ E (.set i e) Dn Z H):vN (T B Φ E e) (j0 i) Dn Z H:=by
 obtain ⟨ZD,M,F,ρ,S,r,h⟩:=h
 simp only [ex] at h
 exact TC.one S r h fun x M1 F1 ρ1 H1 v e1 S1 r1 rx h1=>aN.run h1 S1 _ (r1.set rx i)
theorem Dt {e:Fg.E} (h:TC B Φ E (.ex e) Dn Z H):B3 (T B Φ E e) Dn Z H:=by
 obtain ⟨ZD,M,F,ρ,S,r,h⟩:=h
 simp only [ex] at h
 exact TC.one S r h fun x M1 F1 ρ1 H1 v e1 S1 r1 rx h1=>aN.run h1 S1 _ r1
theorem zM {e:Fg.E} (h:TC B Φ E (.ret e) Dn Z H):G5 (T B Φ E e) Dn Z H:=by
 obtain ⟨ZD,M,F,ρ,S,r,h⟩:=h
 simp only [ex] at h
 exact TC.one S r h fun x M1 F1 ρ1 H1 v e1 S1 r1 rx h1=>aN.run h1 S1 _ rx
theorem zR {c:Fg.E} {a b:Ss} (h:TC B Φ E (.ifs c a b) Dn Z H):G9 (TB B Φ E c) (vF B Φ E a) (vF B Φ E b) Dn Z H:=by
 obtain ⟨ZD,M,F,ρ,S,r,h⟩:=h
 simp only [ex] at h
 refine TC.one S r h fun x M1 F1 ρ1 H1 v e1 S1 r1 rx h1=>?_
 split at h1
 ·simp only [RD] at rx;subst rx
  exact ⟨true,rfl,by dsimp only;rw [if_pos rfl];exact ⟨ZD,M1,F1,ρ1,S1,r1,h1⟩⟩
 ·simp only [RD] at rx;subst rx
  exact ⟨false,rfl,by dsimp only;rw [if_neg Bool.false_ne_true];exact ⟨ZD,M1,F1,ρ1,S1,r1,h1⟩⟩
 ·exact h1.elim
theorem nT (h:vF B Φ E .nil Dn Z H):B0 Dn Z H:=by
 obtain ⟨ZD,M,F,ρ,S,r,h⟩:=h
 simp only [exs] at h
 exact aN.run h S _ r
theorem kY {s:S} {ss:Ss} (h:vF B Φ E (.cons s ss) Dn Z H):G4 (TC B Φ E s) (vF B Φ E ss) Dn Z H:=by
 obtain ⟨ZD,M,F,ρ,S,r,h⟩:=h
 simp only [exs] at h
 refine ⟨ZD,M,F,ρ,S,r,?_⟩
 cases hx:ex Φ s ZD M with
 | ok o M1 =>
  rw [hx] at h
  simp only [R.af] at h
  intro F' ρ' H' e S'
  cases o with
  | nx Z1=>exact fun Z' r'=>⟨Z1,M1,F',ρ',S',r',aN.weak e h⟩
  | rt d=>exact fun v q=>h F' ρ' H' e S' v q
  | bk Z1=>exact fun Z' q=>h F' ρ' H' e S' Z' q
  | ct Z1=>exact fun Z' q=>h F' ρ' H' e S' Z' q
  | xc c Z1=>exact fun Z' cv x q1 q2=>h F' ρ' H' e S' Z' cv x q1 q2
 | exc c M1=>rw [hx] at h;exact h
 | bad=>rw [hx] at h;exact h
theorem rH {fz:Bool} {x:D} {ds:List D} {v:V} {vs:List V} {X:XK} (S:SR B F ρ M H) (rx:RD B F ρ H x v) (r:aj B F ρ H ds vs) (h:Post B (gp .append fz M x ds) F ρ H Q X):mh v vs H Q:=by
 unfold gp at h
 cases hl:gg M x with
 | none=>rw [hl] at h;exact h.elim
 | some q =>
  rw [hl] at h
  obtain ⟨rfl,hx⟩:=ji hl
  cases ds with
  | nil=>exact h.elim
  | cons d t =>
   cases t with
   | cons _ _=>exact h.elim
   | nil =>
    simp only [oH,uS] at h
    split at h
    ·rename_i hlen
     obtain ⟨w,rfl,r1⟩:=DF r
     simp only [RD] at rx
     obtain ⟨a,h1,rfl⟩:=rx
     obtain ⟨ws,h2,h3⟩:=S.obj _ a _ h1 hx
     refine ⟨a,ws,w,rfl,rfl,h2,?_,?_⟩
     ·rw [<- aj.length h3];exact Nat.lt_of_lt_of_le (of_decide_eq_true hlen) bM
     ·obtain ⟨S',e⟩:=S.st (o:=.lst (ws++[w])) (u:=.lst (q.2++[d])) h1 (fun _ _ q=>by rw [h2] at q;cases q) ⟨_,ay,aj.bx (Ext0.at_ S h1) _ _ (h3.append (aj.cons r1 aj.nil))⟩
      exact h _ _ _ _ e S' (by simp only [RD])
    ·exact h.elim
theorem DL {k:Key} {d:D} {v:V} (rd:RD B F ρ H d v):∀ {dH:List (Ky×D)} {kvs:List (Key×V)},kvs.map (·.1)=dH.map (·.1)->aj B F ρ H (dH.map (·.2)) (kvs.map (·.2)) ->
  (putK kvs k v).map (·.1)=(put dH k d).map (·.1)/\aj B F ρ H ((put dH k d).map (·.2)) ((putK kvs k v).map (·.2)):=by
 have hmap:∀ {dH:List (Ky×D)} {kvs:List (Key×V)},kvs.map (·.1)=dH.map (·.1)->aj B F ρ H (dH.map (·.2)) (kvs.map (·.2)) ->
   (kvs.map fun kv=>if kv.1=k then (kv.1,v) else kv).map (·.1)=(dH.map fun kv=>if kv.1=k then (kv.1,d) else kv).map (·.1) /\
   aj B F ρ H ((dH.map fun kv=>if kv.1=k then (kv.1,d) else kv).map (·.2)) ((kvs.map fun kv=>if kv.1=k then (kv.1,v) else kv).map (·.2)):=by
  intro dH
  induction dH with
  | nil=>intro kvs h1 h2;cases kvs with | nil=>exact ⟨rfl,aj.nil⟩ | cons _ _=>simp at h1
  | cons p dH ih =>
   intro kvs h1 h2
   cases kvs with
   | nil=>simp at h1
   | cons q kvs =>
    obtain ⟨pk,pd⟩:=p
    obtain ⟨qk,qv⟩:=q
    simp only [List.map_cons,List.cons.injEq] at h1
    simp only [List.map_cons,aj] at h2
    obtain ⟨u,ws,e,r1,r2⟩:=h2
    cases e
    obtain ⟨e1,e2⟩:=h1
    subst e1
    obtain ⟨i1,i2⟩:=ih e2 r2
    by_cases hk:qk=k
    ·simp only [List.map_cons,if_pos hk,i1,true_and]
     exact aj.cons rd i2
    ·simp only [List.map_cons,if_neg hk,i1,true_and]
     exact aj.cons r1 i2
 have hany:∀ {dH:List (Ky×D)} {kvs:List (Key×V)},kvs.map (·.1)=dH.map (·.1)->(kvs.any fun kv=>decide (kv.1=k))=(dH.any fun kv=>decide (kv.1=k)):=by
  intro dH
  induction dH with
  | nil=>intro kvs h1;cases kvs with | nil=>rfl | cons _ _=>simp at h1
  | cons p dH ih =>
   intro kvs h1
   cases kvs with
   | nil=>simp at h1
   | cons q kvs =>
    simp only [List.map_cons,List.cons.injEq] at h1
    simp only [List.any_cons,h1.1,ih h1.2]
 intro dH kvs h1 h2
 unfold putK put
 rw [hany h1]
 split
 ·exact hmap h1 h2
 ·simp only [List.map_append,List.map_cons,List.map_nil,h1,true_and]
  exact h2.append (aj.cons rd aj.nil)
noncomputable def Walks (B:Bd) (J:It) (src:D) (ds:List D) (F0:Addr->Prop) (ρ0:List Addr) (M0:MH) (H0:Hp):Prop :=
 ∀ (i:Nat) F ρ M H,Ext F0 ρ0 H0 F ρ H->SR B F ρ M H->aO M0 src M=true ->
  (∀ d,ds[i]? = some d->J.go i H/\∀ x H',J.JY i H x H'->∃ F',Ext F ρ H F' ρ H'/\SR B F' ρ M H'/\RD B F' ρ H' d x)/\(ds.length<=i->J.stop i H)
noncomputable def CV (B:Bd) (Φ:aQ) (E:Gx) (c:Src):TI:=fun Z H R=>∃ (ZD:Sg) (M:MH) (F:Addr->Prop) (ρ:List Addr),
 SR B F ρ M H/\RS B F ρ H ZD Z/\ai (fun F' ρ' H' (p:D×List D×Bool) (J:It)=>∀ M',bQ Φ c ZD M=.ok p M'->SR B F' ρ' M' H'->Walks B J p.1 p.2.1 F' ρ' M' H' /\
  (p.2.2=true->∃ n a,p.1=.ref n/\ρ'[n]? = some a/\E.th a/\∀ w v,H a≠some (.fQ w v))) B (bQ Φ c ZD M) F ρ H R (fun cv x H'=>E.e cv x Z H')
noncomputable def thE (th:Addr->Prop) (D:Ends):Ends:=⟨fun Z H=>∃ H',zg th H H'/\D.nx Z H',fun v H=>∃ H',zg th H H'/\D.rt v H',fun Z H=>∃ H',zg th H H'/\D.bk Z H',fun Z H=>∃ H',zg th H H'/\D.ct Z H'⟩
theorem cL {F1:Addr->Prop} {ρ0 ρ1:List Addr} {H1:Hp} {M1:MH} {fl:Bool} {src:D} {th:Addr->Prop} (S:SR B F1 ρ1 M1 H1) (e:Ext F ρ H F1 ρ1 H1) (hp:ρ0 <+: ρ1) (wz:fl=true->∃ n a,src=.ref n/\ρ0[n]? = some a/\th a/\∀ w v,H a≠some (.fQ w v)) :
  ∃ H',zg th H1 H'/\SR B F1 ρ1 (eO fl src M1) H'/\Ext F ρ H F1 ρ1 H'/\Ext0 F1 ρ1 H1 F1 ρ1 H':=by
 have same:SR B F1 ρ1 M1 H1/\Ext F ρ H F1 ρ1 H1/\Ext0 F1 ρ1 H1 F1 ρ1 H1:=⟨S,e,S.refl.toExt0⟩
 cases fl with
 | false=>exact ⟨H1,.inl rfl,by cases src <;> exact same⟩
 | true =>
  obtain ⟨n,a,rfl,hn,ht,hz⟩:=wz rfl
  have hn1:ρ1[n]? = some a:=by
   obtain ⟨t,rfl⟩:=hp
   obtain ⟨q,_⟩:=List.getElem?_eq_some_iff.mp hn
   rw [List.getElem?_append_left q];exact hn
  cases hM:M1[n]? with
  | none=>refine ⟨H1,.inl rfl,?_⟩;simp only [eO,hM];exact same
  | some o =>
   cases o with
   | nE kvs =>
    obtain ⟨o,kws,h1,S'⟩:=S.uw hn1 hM
    refine ⟨upd H1 a (.dK kws),.inr ⟨a,o,kws,ht,h1,rfl⟩,?_,e.thaw (List.mem_of_getElem? hn1) hz S.sep,Ext0.at_ S hn1⟩
    simp only [eO,hM];exact S'
   | lst _=>refine ⟨H1,.inl rfl,?_⟩;simp only [eO,hM];exact same
   | dct _=>refine ⟨H1,.inl rfl,?_⟩;simp only [eO,hM];exact same
   | ins _ _=>refine ⟨H1,.inl rfl,?_⟩;simp only [eO,hM];exact same
theorem RS.bx {F':Addr->Prop} {ρ':List Addr} {H':Hp} (e:Ext0 F ρ H F' ρ' H') (h:RS B F ρ H ZD Z):RS B F' ρ' H' ZD Z :=
 ⟨h.len,fun i d q=>let ⟨v,h1,h2⟩:=h.get i d q;⟨v,h1,RD.bx e d v h2⟩⟩
noncomputable def GN (tg:List Nat) (K:W.Frag):TG:=match tg with
 | [i]=>j0 i
 | [i,j]=>fun v Z H Q=>∃ a x y,v=.ref a/\iO K H a [x,y]/\Q ((Z.set i (some x)).set j (some y)) H
 | []=>fun _ _ _ _=>False
 | tg=>fun v Z H Q=>∃ a xs,v=.ref a/\iO K H a xs/\xs.length=tg.length/\Q (iw tg xs Z) H
theorem RS.all:∀ {tg:List Nat} {ds:List D} {vs:List V} {ZD:Sg} {Z:St},RS B F ρ H ZD Z->aj B F ρ H ds vs->RS B F ρ H (iw tg ds ZD) (iw tg vs Z)
 | [],ds,vs,ZD,Z,r,q=>by cases ds <;> cases vs <;> exact r
 | i::tg,[],vs,ZD,Z,r,q=>by simp only [aj] at q;subst q;exact r
 | i::tg,d::ds,vs,ZD,Z,r,q=>by
  simp only [aj] at q
  obtain ⟨v,ws,rfl,h1,h2⟩:=q
  exact RS.all (tg:=tg) (ds:=ds) (vs:=ws) (ZD:=ZD.set i (some d)) (Z:=Z.set i (some v)) (r.set h1 i) h2
theorem jA {tg:List Nat} {d:D} {v:V} {Z1:Sg} {N:St->Hp->Prop} (r:RS B F ρ H ZD Z) (rd:RD B F ρ H d v) (h:sets tg M d ZD=some Z1) (k:∀ Z',RS B F ρ H Z1 Z'->N Z' H):GN tg B.K v Z H N:=by
 unfold sets at h
 split at h
 ·cases h;exact k _ (r.set rd _)
 ·split at h
  ·cases h
   simp only [RD] at rd
   obtain ⟨a,vs,rfl,z,q⟩:=rd
   simp only [aj] at q
   obtain ⟨x,ws,rfl,r1,y,us,rfl,r2,rfl⟩:=q
   exact ⟨a,x,y,rfl,z.sq,k _ ((r.set r1 _).set r2 _)⟩
  ·cases h
 ·cases h
 ·rename_i h1 h2 h3
  split at h
  ·rename_i xs
   split at h
   ·rename_i hl
    cases h
    simp only [RD] at rd
    obtain ⟨a,vs,rfl,z,q⟩:=rd
    have e:vs.length=tg.length:=by rw [<- aj.length q];exact hl
    match tg,h1,h2,h3,e,k with
    | i::j::l::tg,_,_,_,e,k=>exact ⟨a,vs,rfl,z.sq,e,k _ (r.all q)⟩
    | [i],h1,_,_,_,_=>exact absurd rfl (h1 i)
    | [i,j],_,h2,_,_,_=>exact absurd rfl (h2 i j)
    | [],_,_,h3,_,_=>exact absurd rfl h3
   ·cases h
  ·cases h
theorem zU {tg:List Nat} {it:Src} {b:Ss} (h:TC B Φ E (.for tg it b) Dn Z H):Hf (CV B Φ E it) (GN tg B.K) (vF B Φ E b) (thE E.th Dn) Z H:=by
 obtain ⟨ZD,M,F,ρ,S,r,h⟩:=h
 simp only [ex] at h
 refine ⟨ZD,M,F,ρ,S,r,?_⟩
 cases hx:bQ Φ it ZD M with
 | exc c M1=>rw [hx] at h;exact fun F' ρ' H' cv x e S q=>h F' ρ' H' e S Z cv x (r.mono e) q
 | bad=>rw [hx] at h;exact h
 | ok p M0 =>
  rw [hx] at h
  simp only [R.fh] at h
  intro F0 ρ0 H0 J e0 S0 hw
  obtain ⟨W,wz⟩:=hw M0 rfl S0
  obtain ⟨src,ds,fl⟩:=p
  dsimp only at h W wz
  refine ⟨fun i m Z H1=>m+i=ds.length/\∃ ZD M F1 ρ1,Ext F ρ H F1 ρ1 H1/\Ext F0 ρ0 H0 F1 ρ1 H1/\SR B F1 ρ1 M H1/\RS B F1 ρ1 H1 ZD Z/\aO M0 src M=true/\aN B ((bZ (exs Φ b) tg (aO M0 src) (ds.drop i) ZD M).fin (eO fl src)) F ρ H Dn E,⟨ds.length,by simp,ZD,M0,F0,ρ0,e0,S0.refl,S0,r.mono e0,?_,h⟩,?_⟩
  ·unfold aO;split <;> simp
  rintro i m Z1 H1 ⟨hm,KW,M1,F1,ρ1,eo,e1,S1,r1,st1,p1⟩
  obtain ⟨wgo,wst⟩:=W i F1 ρ1 M1 H1 e1 S1 st1
  by_cases hi:i<ds.length
  ·have hd:ds.drop i=ds[i]::ds.drop (i+1):=List.drop_eq_getElem_cons hi
   rw [hd] at p1
   unfold bZ at p1
   obtain ⟨go,yl⟩:=wgo ds[i] (List.getElem?_eq_getElem hi)
   refine .inr ⟨go,fun Z' H'=>∃ ZD M F1 ρ1,Ext F ρ H F1 ρ1 H'/\Ext F0 ρ0 H0 F1 ρ1 H'/\SR B F1 ρ1 M H'/\RS B F1 ρ1 H' ZD Z'/\aO M0 src M=true/\aN B ((bZ (exs Φ b) tg (aO M0 src) (ds.drop (i+1)) ZD M).fin (eO fl src)) F ρ H Dn E,fun Z' H' q=>⟨m-1,by omega,by omega,q⟩,fun x H' hy=>?_⟩
   obtain ⟨F',e2,S2,rd⟩:=yl x H' hy
   split at p1
   ·exact p1.elim
   ·rename_i Z2 hs
    refine jA (r1.mono e2) rd hs fun Z' r'=>⟨Z2,M1,F',ρ1,S2,r',?_⟩
    cases hb:exs Φ b Z2 M1 with
    | exc c M3=>rw [hb] at p1;exact p1.elim
    | bad=>rw [hb] at p1;exact p1.elim
    | ok o M3 =>
     rw [hb] at p1
     simp only [R.af] at p1
     intro F3 ρ3 H3 e3 S3
     have Ju:=(eo.trans e2).trans e3
     have Jx:=(e1.trans e2).trans e3
     cases o with
     | nx Z3 =>
      simp only at p1
      intro Z4 r4
      split at p1
      ·rename_i hst
       exact ⟨Z3,M3,F3,ρ3,Ju,Jx,S3,r4,hst,p1⟩
      ·exact p1.elim
     | ct Z3 =>
      simp only at p1
      intro Z4 r4
      split at p1
      ·rename_i hst
       exact ⟨Z3,M3,F3,ρ3,Ju,Jx,S3,r4,hst,p1⟩
      ·exact p1.elim
     | bk Z3 =>
      obtain ⟨H4,t4,S4,e4,x4⟩:=cL S3 Ju Jx.r wz
      exact fun Z4 r4=>⟨H4,t4,p1 F3 ρ3 H4 e4 S4 Z4 (r4.bx x4)⟩
     | rt d =>
      obtain ⟨H4,t4,S4,e4,x4⟩:=cL S3 Ju Jx.r wz
      exact fun v q=>⟨H4,t4,p1 F3 ρ3 H4 e4 S4 v (RD.bx x4 _ _ q)⟩
     | xc c Z3 =>
      obtain ⟨H4,t4,S4,e4,x4⟩:=cL S3 Ju Jx.r wz
      exact fun Z4 cv x q1 q2=>E.cl cv x Z4 H3 H4 t4 (p1 F3 ρ3 H4 e4 S4 Z4 cv x (q1.bx x4) q2)
  ·have hd:ds.drop i=[]:=List.drop_eq_nil_of_le (Nat.le_of_not_lt hi)
   rw [hd] at p1
   unfold bZ at p1
   obtain ⟨H4,t4,S4,e4,x4⟩:=cL S1 eo e1.r wz
   exact .inl ⟨wst (Nat.le_of_not_lt hi),H4,t4,p1 F1 ρ1 H4 e4 S4 Z1 (r1.bx x4)⟩
theorem uE {c:Fg.E} {b:Ss} (h:TC B Φ E (.while c b) Dn Z H):vM (TB B Φ E c) (vF B Φ E b) Dn Z H:=by
 obtain ⟨ZD,M,F,ρ,S,r,h⟩:=h
 simp only [ex] at h
 refine ⟨fun m Z H=>∃ ZD M F ρ,SR B F ρ M H/\RS B F ρ H ZD Z/\aN B (aP (ev Φ c) (exs Φ b) m ZD M) F ρ H Dn E,⟨Φ.turns,ZD,M,F,ρ,S,r,h⟩,?_⟩
 rintro m Z1 H1 ⟨KW,M1,F1,ρ1,S1,r1,p1⟩
 cases m with
 | zero=>simp only [aP] at p1;exact p1.elim
 | succ m =>
  simp only [aP] at p1
  refine TC.one S1 r1 p1 fun x M2 F2 ρ2 H2 v e2 S2 r2 rx h2=>?_
  split at h2
  ·simp only [RD] at rx;subst rx
   refine ⟨false,rfl,?_⟩
   exact aN.run h2 S2 _ r2
  ·simp only [RD] at rx;subst rx
   refine ⟨true,rfl,?_⟩
   refine ⟨fun Z' H'=>∃ ZD M F ρ,SR B F ρ M H'/\RS B F ρ H' ZD Z'/\aN B (aP (ev Φ c) (exs Φ b) m ZD M) F ρ H' Dn E,fun Z' H' q=>⟨m,Nat.lt_succ_self m,q⟩,KW,M2,F2,ρ2,S2,r2,?_⟩
   cases hb:exs Φ b KW M2 with
   | exc c M3=>rw [hb] at h2;exact h2
   | bad=>rw [hb] at h2;exact h2
   | ok o M3 =>
    rw [hb] at h2
    simp only [R.af] at h2
    intro F3 ρ3 H3 e3 S3
    cases o with
    | nx Z3=>exact fun Z4 r4=>⟨Z3,M3,F3,ρ3,S3,r4,aN.weak e3 h2⟩
    | ct Z3=>exact fun Z4 r4=>⟨Z3,M3,F3,ρ3,S3,r4,aN.weak e3 h2⟩
    | bk Z3=>exact fun Z4 r4=>h2 F3 ρ3 H3 e3 S3 Z4 r4
    | rt d=>exact fun v q=>h2 F3 ρ3 H3 e3 S3 v q
    | xc c Z3=>exact fun Z4 cv x q1 q2=>h2 F3 ρ3 H3 e3 S3 Z4 cv x q1 q2
  ·exact h2.elim
end
end Fg
end
section
namespace Fg
open PySem PySem.Spec L2
section
variable {X:Cx} {pins:List (Addr×Obj)} {Z:L2.St} {H:Hp} {s:Shared}
mutual
theorem DV.inj (I:Inv X pins Z H s):∀ {d e:D} {x:V},DV X.K H d x->DV X.K H e x->d=e
 | .ak,e,x,h,h'=>by
  simp only [DV] at h;subst h
  cases e <;> simp only [DV] at h' <;> first | rfl | (cases h';done) | (obtain ⟨_,_,q,_⟩:=h';cases q)
 | .bl b,e,x,h,h'=>by
  simp only [DV] at h;subst h
  cases e <;> simp only [DV] at h' <;> first | (cases h';rfl) | (cases h';done) | (obtain ⟨_,_,q,_⟩:=h';cases q)
 | .int b,e,x,h,h'=>by
  simp only [DV] at h;subst h
  cases e <;> simp only [DV] at h' <;> first | (cases h';rfl) | (cases h';done) | (obtain ⟨_,_,q,_⟩:=h';cases q)
 | .str b,e,x,h,h'=>by
  simp only [DV] at h;subst h
  cases e <;> simp only [DV] at h' <;> first | (cases h';rfl) | (cases h';done) | (obtain ⟨_,_,q,_⟩:=h';cases q)
 | .tup ds,e,x,h,h'=>by
  simp only [DV] at h
  obtain ⟨a,vs,rfl,h1,h2⟩:=h
  cases e with
  | tup es =>
   simp only [DV] at h'
   obtain ⟨b,ws,q,h3,h4⟩:=h'
   cases q
   have:=I.kR h1 h3
   subst this
   rw [gA.inj I h2 h4]
  | lst es =>
   simp only [DV] at h'
   obtain ⟨b,ws,q,h3,h4⟩:=h'
   cases q
   obtain ⟨its,_,t1,_⟩:=I.tuple h1
   obtain ⟨its',_,t2,_⟩:=I.list h3
   exact absurd rfl (SeqAt.ne_of_list_tuple t2.isList t1)
  | ak=>simp only [DV] at h';cases h'
  | bl _=>simp only [DV] at h';cases h'
  | int _=>simp only [DV] at h';cases h'
  | str _=>simp only [DV] at h';cases h'
  | dct _ _=>simp only [DV] at h'
  | ref _=>simp only [DV] at h'
 | .lst ds,e,x,h,h'=>by
  simp only [DV] at h
  obtain ⟨a,vs,rfl,h1,h2⟩:=h
  cases e with
  | lst es =>
   simp only [DV] at h'
   obtain ⟨b,ws,q,h3,h4⟩:=h'
   cases q
   have:=I.jS h1 h3
   subst this
   rw [gA.inj I h2 h4]
  | tup es =>
   simp only [DV] at h'
   obtain ⟨b,ws,q,h3,h4⟩:=h'
   cases q
   obtain ⟨its,_,t1,_⟩:=I.list h1
   obtain ⟨its',_,t2,_⟩:=I.tuple h3
   exact absurd rfl (SeqAt.ne_of_list_tuple t1.isList t2)
  | ak=>simp only [DV] at h';cases h'
  | bl _=>simp only [DV] at h';cases h'
  | int _=>simp only [DV] at h';cases h'
  | str _=>simp only [DV] at h';cases h'
  | dct _ _=>simp only [DV] at h'
  | ref _=>simp only [DV] at h'
 | .dct _ _,e,x,h,h'=>by simp only [DV] at h
 | .ref _,e,x,h,h'=>by simp only [DV] at h
theorem gA.inj (I:Inv X pins Z H s):∀ {ds es:List D} {xs:List V},gA X.K H ds xs->gA X.K H es xs->ds=es
 | [],es,xs,h,h'=>by
  simp only [gA] at h;subst h
  cases es with
  | nil=>rfl
  | cons _ _=>simp only [gA] at h';obtain ⟨_,_,q,_⟩:=h';cases q
 | d::ds,es,xs,h,h'=>by
  simp only [gA] at h
  obtain ⟨v,ws,rfl,h1,h2⟩:=h
  cases es with
  | nil=>simp only [gA] at h';cases h'
  | cons e es =>
   simp only [gA] at h'
   obtain ⟨v',ws',q,h3,h4⟩:=h'
   cases q
   rw [DV.inj I h1 h3,gA.inj I h2 h4]
end
mutual
theorem j9 {K:W.Frag} {H:Hp}:∀ {d:D} {x:V},DV K H d x->aI d d=true
 | .ak,_,_=>by simp only [aI]
 | .bl b,_,_=>by simp only [aI];simp
 | .int i,_,_=>by simp only [aI];simp
 | .str x,_,_=>by simp only [aI];simp
 | .tup ds,_,h=>by simp only [DV] at h;obtain ⟨_,_,_,_,q⟩:=h;simp only [aI];exact iK q
 | .lst ds,_,h=>by simp only [DV] at h;obtain ⟨_,_,_,_,q⟩:=h;simp only [aI];exact iK q
 | .dct _ _,_,h=>by simp only [DV] at h
 | .ref _,_,h=>by simp only [DV] at h
theorem iK {K:W.Frag} {H:Hp}:∀ {ds:List D} {xs:List V},gA K H ds xs->dF ds ds=true
 | [],_,_=>by simp only [dF]
 | d::ds,_,h=>by
  simp only [gA] at h
  obtain ⟨_,_,_,h1,h2⟩:=h
  simp only [dF,j9 h1,iK h2,Bool.and_self]
end
theorem gA.length {K:W.Frag} {H:Hp}:∀ {ds:List D} {xs:List V},gA K H ds xs->ds.length=xs.length
 | [],_,h=>by simp only [gA] at h;subst h;rfl
 | d::ds,_,h=>by
  simp only [gA] at h
  obtain ⟨_,_,rfl,_,h2⟩:=h
  simp [gA.length h2]
theorem gA.get {K:W.Frag} {H:Hp}:∀ {ds:List D} {xs:List V} {i:Nat} (h1:i<ds.length),gA K H ds xs->∃ v,xs[i]? = some v/\DV K H ds[i] v
 | [],_,i,h1,_=>by simp at h1
 | d::ds,_,i,h1,h=>by
  simp only [gA] at h
  obtain ⟨v,ws,rfl,q1,q2⟩:=h
  cases i with
  | zero=>exact ⟨v,rfl,q1⟩
  | succ i =>
   simp only [List.length_cons] at h1
   obtain ⟨u,a,b⟩:=gA.get (i:=i) (by omega) q2
   exact ⟨u,by simpa using a,by simpa using b⟩
theorem cF:∀ {ds:List D} {i:Nat} (h:i<ds.length),dep ds[i]<=deps ds
 | [],i,h=>by simp at h
 | d::ds,i,h=>by
  cases i with
  | zero=>simp only [List.getElem_cons_zero,deps];omega
  | succ i =>
   simp only [List.length_cons] at h
   have:=cF (ds:=ds) (i:=i) (by omega)
   simp only [List.getElem_cons_succ,deps];omega
theorem cW:∀ (ds es:List D),((List.range (min ds.length es.length)).all (fun j=>match ds[j]?,es[j]? with | some a,some b=>aI a b | _,_=>false)&&ds.length == es.length)=dF ds es
 | [],[]=>by simp [dF]
 | [],e::es=>by simp [dF]
 | d::ds,[]=>by simp [dF]
 | d::ds,e::es=>by
  have ih:=cW ds es
  simp only [dF,<- ih]
  simp only [List.length_cons,Nat.succ_min_succ,List.range_succ_eq_map,List.all_cons,List.all_map,Function.comp_def]
  simp [Bool.and_assoc]
noncomputable def EqB (s:Shared) (d e:D) (u w:Value) (n:Nat):Prop:=∀ A:Around,A.units+n<cLine->SeqAt.RcAt A s u w (aI d e)/\SeqAt.EqAt A s u w (aI d e)
theorem in1_units (A:Around):A.in1.units=A.units+1:=rfl
theorem aS:∀ {ds:List D} {i:Nat},au ds=true->∀ (h:i<ds.length),plain ds[i]=true
 | [],i,_,h=>by simp at h
 | d::ds,i,p,h=>by
  simp only [au,Bool.and_eq_true] at p
  cases i with
  | zero=>exact p.1
  | succ i=>simp only [List.length_cons] at h;simpa using aS p.2 (by omega)
theorem eq_data (I:Inv X pins Z H s):∀ (n:Nat) (d e:D) (x y:V) (u w:Value),dep d+dep e<n->DV X.K H d x->DV X.K H e y->plain d=true->plain e=true->RelV x u->RelV y w->EqB s d e u w (min (dep d) (dep e)+1)
 | 0,_,_,_,_,_,_,h,_,_,_,_,_,_=>absurd h (Nat.not_lt_zero _)
 | n+1, d, e, x, y, u, w, hn, hd, he, pd, pe, ru, rw'=>by
  have ih:=eq_data I n
  intro A hA
  have hu:A.units<cLine:=by omega
  cases d with
  | bl _=>simp [plain] at pd
  | dct _ _=>simp [plain] at pd
  | ref _=>simp [plain] at pd
  | ak =>
   simp only [DV] at hd;subst hd;cases (show u=Value.none from ru)
   cases e with
   | bl _=>simp [plain] at pe
   | dct _ _=>simp [plain] at pe
   | ref _=>simp [plain] at pe
   | ak =>
    simp only [DV] at he;subst he;cases (show w=Value.none from rw')
    simp only [aI];exact ⟨SeqAt.RcAt.none_none,SeqAt.EqAt.same _⟩
   | int j =>
    simp only [DV] at he;subst he;obtain ⟨t',rfl⟩:=(show ∃ t,w=Value.int j t from rw')
    simp only [aI];exact ⟨SeqAt.RcAt.none_int j t',SeqAt.EqAt.none_int j t'⟩
   | str j =>
    simp only [DV] at he;subst he;obtain ⟨t',rfl⟩:=(show ∃ t,w=Value.str j t from rw')
    simp only [aI];exact ⟨SeqAt.RcAt.none_str j t',SeqAt.EqAt.none_str j t'⟩
   | tup es =>
    simp only [DV] at he
    obtain ⟨b,ws,rfl,h3,h4⟩:=he
    cases (show w=Value.ref b from rw')
    obtain ⟨its,_,t1,_⟩:=I.tuple h3
    simp only [aI];exact ⟨SeqAt.RcAt.none_tuple  t1 hu,SeqAt.EqAt.none_tuple  t1 hu⟩
   | lst es =>
    simp only [DV] at he
    obtain ⟨b,ws,rfl,h3,h4⟩:=he
    cases (show w=Value.ref b from rw')
    obtain ⟨its,_,t1,_⟩:=I.list h3
    simp only [aI];exact ⟨SeqAt.RcAt.none_list  t1.isList hu,SeqAt.EqAt.none_list  t1.isList hu⟩
  | int i =>
   simp only [DV] at hd;subst hd;obtain ⟨t,rfl⟩:=(show ∃ t,u=Value.int i t from ru)
   cases e with
   | bl _=>simp [plain] at pe
   | dct _ _=>simp [plain] at pe
   | ref _=>simp [plain] at pe
   | ak =>
    simp only [DV] at he;subst he;cases (show w=Value.none from rw')
    simp only [aI];exact ⟨SeqAt.RcAt.int_none i t,SeqAt.EqAt.int_none i t⟩
   | int j =>
    simp only [DV] at he;subst he;obtain ⟨t',rfl⟩:=(show ∃ t,w=Value.int j t from rw')
    have z:aI (D.int i) (D.int j)=(i == j):=by simp only [aI];by_cases q:i=j <;> simp [q]
    rw [z];exact ⟨SeqAt.RcAt.int_int i t j t',SeqAt.EqAt.int_int i t j t'⟩
   | str j =>
    simp only [DV] at he;subst he;obtain ⟨t',rfl⟩:=(show ∃ t,w=Value.str j t from rw')
    simp only [aI];exact ⟨SeqAt.RcAt.int_str i t j t',SeqAt.EqAt.int_str i t j t'⟩
   | tup es =>
    simp only [DV] at he
    obtain ⟨b,ws,rfl,h3,h4⟩:=he
    cases (show w=Value.ref b from rw')
    obtain ⟨its,_,t1,_⟩:=I.tuple h3
    simp only [aI];exact ⟨SeqAt.RcAt.int_tuple i t t1 hu,SeqAt.EqAt.int_tuple i t t1 hu⟩
   | lst es =>
    simp only [DV] at he
    obtain ⟨b,ws,rfl,h3,h4⟩:=he
    cases (show w=Value.ref b from rw')
    obtain ⟨its,_,t1,_⟩:=I.list h3
    simp only [aI];exact ⟨SeqAt.RcAt.int_list i t t1.isList hu,SeqAt.EqAt.int_list i t t1.isList hu⟩
  | str i =>
   simp only [DV] at hd;subst hd;obtain ⟨t,rfl⟩:=(show ∃ t,u=Value.str i t from ru)
   cases e with
   | bl _=>simp [plain] at pe
   | dct _ _=>simp [plain] at pe
   | ref _=>simp [plain] at pe
   | ak =>
    simp only [DV] at he;subst he;cases (show w=Value.none from rw')
    simp only [aI];exact ⟨SeqAt.RcAt.str_none i t,SeqAt.EqAt.str_none i t⟩
   | int j =>
    simp only [DV] at he;subst he;obtain ⟨t',rfl⟩:=(show ∃ t,w=Value.int j t from rw')
    simp only [aI];exact ⟨SeqAt.RcAt.str_int i t j t',SeqAt.EqAt.str_int i t j t'⟩
   | str j =>
    simp only [DV] at he;subst he;obtain ⟨t',rfl⟩:=(show ∃ t,w=Value.str j t from rw')
    have z:aI (D.str i) (D.str j)=(i == j):=by simp only [aI];by_cases q:i=j <;> simp [q]
    rw [z];exact ⟨SeqAt.RcAt.str_str i t j t',SeqAt.EqAt.str_str i t j t'⟩
   | tup es =>
    simp only [DV] at he
    obtain ⟨b,ws,rfl,h3,h4⟩:=he
    cases (show w=Value.ref b from rw')
    obtain ⟨its,_,t1,_⟩:=I.tuple h3
    simp only [aI];exact ⟨SeqAt.RcAt.str_tuple i t t1 hu,SeqAt.EqAt.str_tuple i t t1 hu⟩
   | lst es =>
    simp only [DV] at he
    obtain ⟨b,ws,rfl,h3,h4⟩:=he
    cases (show w=Value.ref b from rw')
    obtain ⟨its,_,t1,_⟩:=I.list h3
    simp only [aI];exact ⟨SeqAt.RcAt.str_list i t t1.isList hu,SeqAt.EqAt.str_list i t t1.isList hu⟩
  | tup ds =>
   simp only [DV] at hd
   obtain ⟨a,vs,rfl,h1,h2⟩:=hd
   cases (show u=Value.ref a from ru)
   obtain ⟨its,r1,t1,_⟩:=I.tuple h1
   cases e with
   | bl _=>simp [plain] at pe
   | dct _ _=>simp [plain] at pe
   | ref _=>simp [plain] at pe
   | ak =>
    simp only [DV] at he;subst he;cases (show w=Value.none from rw')
    simp only [aI];exact ⟨SeqAt.RcAt.tuple_none  t1 hu,SeqAt.EqAt.tuple_none  t1 hu⟩
   | int j =>
    simp only [DV] at he;subst he;obtain ⟨t',rfl⟩:=(show ∃ t,w=Value.int j t from rw')
    simp only [aI];exact ⟨SeqAt.RcAt.tuple_int j t' t1 hu,SeqAt.EqAt.tuple_int j t' t1 hu⟩
   | str j =>
    simp only [DV] at he;subst he;obtain ⟨t',rfl⟩:=(show ∃ t,w=Value.str j t from rw')
    simp only [aI];exact ⟨SeqAt.RcAt.tuple_str j t' t1 hu,SeqAt.EqAt.tuple_str j t' t1 hu⟩
   | lst es =>
    simp only [DV] at he
    obtain ⟨b,ws,rfl,h3,h4⟩:=he
    cases (show w=Value.ref b from rw')
    obtain ⟨its2,r2,t2,_⟩:=I.list h3
    simp only [aI];exact ⟨SeqAt.RcAt.tuple_list t1 t2.isList hu,SeqAt.EqAt.of_refs (Ne.symm (SeqAt.ne_of_list_tuple t2.isList t1)) (SeqAt.RcAt.tuple_list t1 t2.isList hu)⟩
   | tup es =>
    simp only [DV] at he
    obtain ⟨b,ws,rfl,h3,h4⟩:=he
    cases (show w=Value.ref b from rw')
    obtain ⟨its2,r2,t2,_⟩:=I.tuple h3
    have Ed:au ds=true:=by simpa [plain] using pd
    have Ec:au es=true:=by simpa [plain] using pe
    have l1:its.length=ds.length:=by rw [<- r1.length,h2.length]
    have l2:its2.length=es.length:=by rw [<- r2.length,h4.length]
    let f:Nat->Bool:=fun j=>match ds[j]?,es[j]? with | some a,some b=>aI a b | _,_=>false
    have items:∀ j (h1:j<its.toArray.size) (h2:j<its2.toArray.size),SeqAt.EqAt A.in1 s its.toArray[j] its2.toArray[j] (f j):=by
     intro j j1 j2
     have mH:j<ds.length:=by rw [<- l1];simpa using j1
     have mG:j<es.length:=by rw [<- l2];simpa using j2
     obtain ⟨v,e1,q1⟩:=h2.get mH
     obtain ⟨v',e2,q2⟩:=h4.get mG
     obtain ⟨z,e3,q3⟩:=r1.get e1
     obtain ⟨z',e4,q4⟩:=r2.get e2
     have i1:its.toArray[j]=z:=by
      have:its[j]? = some its[j]:=List.getElem?_eq_getElem (by simpa using j1)
      rw [this] at e3;simpa using Option.some.inj e3
     have i2:its2.toArray[j]=z':=by
      have:its2[j]? = some its2[j]:=List.getElem?_eq_getElem (by simpa using j2)
      rw [this] at e4;simpa using Option.some.inj e4
     have g1:=cF mH
     have g2:=cF mG
     have hf:f j=aI ds[j] es[j]:=by simp only [f,List.getElem?_eq_getElem mH,List.getElem?_eq_getElem mG]
     rw [i1,i2,hf]
     simp only [dep] at hn hA
     exact (ih ds[j] es[j] v v' z z' (by omega) q1 q2 (aS Ed mH) (aS Ec mG) q3 q4 A.in1 (by rw [in1_units];omega)).2
    have vO:its.toArray.size=ds.length:=by simpa using l1
    have zv:its2.toArray.size=es.length:=by simpa using l2
    have rc:SeqAt.RcAt A s (.ref a) (.ref b) (aI (.tup ds) (.tup es)):=by
     have q:=SeqAt.RcAt.tuples t1 t2 hu items
     rw [vO,zv,cW] at q
     simp only [aI];exact q
    refine ⟨rc,?_⟩
    by_cases hab:a=b
    ·subst hab
     have i1:DV X.K H (.tup ds) (.ref a):=by simp only [DV];exact ⟨a,vs,rfl,h1,h2⟩
     have i2:DV X.K H (.tup es) (.ref a):=by simp only [DV];exact ⟨a,ws,rfl,h3,h4⟩
     rw [DV.inj I i1 i2,j9 i2]
     exact SeqAt.EqAt.same _
    ·exact SeqAt.EqAt.of_refs hab rc
  | lst ds =>
   simp only [DV] at hd
   obtain ⟨a,vs,rfl,h1,h2⟩:=hd
   cases (show u=Value.ref a from ru)
   obtain ⟨its,r1,t1,_⟩:=I.list h1
   cases e with
   | bl _=>simp [plain] at pe
   | dct _ _=>simp [plain] at pe
   | ref _=>simp [plain] at pe
   | ak =>
    simp only [DV] at he;subst he;cases (show w=Value.none from rw')
    simp only [aI];exact ⟨SeqAt.RcAt.list_none  t1.isList hu,SeqAt.EqAt.list_none  t1.isList hu⟩
   | int j =>
    simp only [DV] at he;subst he;obtain ⟨t',rfl⟩:=(show ∃ t,w=Value.int j t from rw')
    simp only [aI];exact ⟨SeqAt.RcAt.list_int j t' t1.isList hu,SeqAt.EqAt.list_int j t' t1.isList hu⟩
   | str j =>
    simp only [DV] at he;subst he;obtain ⟨t',rfl⟩:=(show ∃ t,w=Value.str j t from rw')
    simp only [aI];exact ⟨SeqAt.RcAt.list_str j t' t1.isList hu,SeqAt.EqAt.list_str j t' t1.isList hu⟩
   | tup es =>
    simp only [DV] at he
    obtain ⟨b,ws,rfl,h3,h4⟩:=he
    cases (show w=Value.ref b from rw')
    obtain ⟨its2,r2,t2,_⟩:=I.tuple h3
    simp only [aI];exact ⟨SeqAt.RcAt.list_tuple t1.isList t2 hu,SeqAt.EqAt.of_refs (SeqAt.ne_of_list_tuple t1.isList t2) (SeqAt.RcAt.list_tuple t1.isList t2 hu)⟩
   | lst es =>
    simp only [DV] at he
    obtain ⟨b,ws,rfl,h3,h4⟩:=he
    cases (show w=Value.ref b from rw')
    obtain ⟨its2,r2,t2,_⟩:=I.list h3
    have Ed:au ds=true:=by simpa [plain] using pd
    have Ec:au es=true:=by simpa [plain] using pe
    have l1:its.length=ds.length:=by rw [<- r1.length,h2.length]
    have l2:its2.length=es.length:=by rw [<- r2.length,h4.length]
    let f:Nat->Bool:=fun j=>match ds[j]?,es[j]? with | some a,some b=>aI a b | _,_=>false
    have items:∀ j (h1:j<its.toArray.size) (h2:j<its2.toArray.size),SeqAt.EqAt A.in1 s its.toArray[j] its2.toArray[j] (f j):=by
     intro j j1 j2
     have mH:j<ds.length:=by rw [<- l1];simpa using j1
     have mG:j<es.length:=by rw [<- l2];simpa using j2
     obtain ⟨v,e1,q1⟩:=h2.get mH
     obtain ⟨v',e2,q2⟩:=h4.get mG
     obtain ⟨z,e3,q3⟩:=r1.get e1
     obtain ⟨z',e4,q4⟩:=r2.get e2
     have i1:its.toArray[j]=z:=by
      have:its[j]? = some its[j]:=List.getElem?_eq_getElem (by simpa using j1)
      rw [this] at e3;simpa using Option.some.inj e3
     have i2:its2.toArray[j]=z':=by
      have:its2[j]? = some its2[j]:=List.getElem?_eq_getElem (by simpa using j2)
      rw [this] at e4;simpa using Option.some.inj e4
     have g1:=cF mH
     have g2:=cF mG
     have hf:f j=aI ds[j] es[j]:=by simp only [f,List.getElem?_eq_getElem mH,List.getElem?_eq_getElem mG]
     rw [i1,i2,hf]
     simp only [dep] at hn hA
     exact (ih ds[j] es[j] v v' z z' (by omega) q1 q2 (aS Ed mH) (aS Ec mG) q3 q4 A.in1 (by rw [in1_units];omega)).2
    have vO:its.toArray.size=ds.length:=by simpa using l1
    have zv:its2.toArray.size=es.length:=by simpa using l2
    have rc:SeqAt.RcAt A s (.ref a) (.ref b) (aI (.lst ds) (.lst es)):=by
     by_cases hz:ds.length=es.length
     ·have q:=SeqAt.RcAt.lists t1.isList t2.isList (by rw [vO,zv,hz]) hu items
      have z:=cW ds es
      rw [show min ds.length es.length=ds.length by omega,show (ds.length == es.length)=true by simpa using hz,Bool.and_true] at z
      rw [vO,z] at q
      simp only [aI];exact q
     ·have q:=SeqAt.RcAt.lists_lengths t1.isList t2.isList (by rw [vO,zv];simpa using hz) hu
      have z:=cW ds es
      rw [show (ds.length == es.length)=false by simpa using hz,Bool.and_false] at z
      simp only [aI,<- z];exact q
    refine ⟨rc,?_⟩
    by_cases hab:a=b
    ·subst hab
     have i1:DV X.K H (.lst ds) (.ref a):=by simp only [DV];exact ⟨a,vs,rfl,h1,h2⟩
     have i2:DV X.K H (.lst es) (.ref a):=by simp only [DV];exact ⟨a,ws,rfl,h3,h4⟩
     rw [DV.inj I i1 i2,j9 i2]
     exact SeqAt.EqAt.same _
    ·exact SeqAt.EqAt.of_refs hab rc
theorem ne_data (I:Inv X pins Z H s):∀ (d e:D) (x y:V) (u w:Value),DV X.K H d x->DV X.K H e y->plain d=true->plain e=true->RelV x u->RelV y w->∀ A:Around,A.units+(min (dep d) (dep e)+1)<cLine->SeqAt.RcNeAt A s u w (!aI d e)
 | d, e, x, y, u, w, hd, he, pd, pe, ru, rw'=>by
  have ih:=eq_data I (dep d+dep e)
  intro A hA
  have hu:A.units<cLine:=by omega
  cases d with
  | bl _=>simp [plain] at pd
  | dct _ _=>simp [plain] at pd
  | ref _=>simp [plain] at pd
  | ak =>
   simp only [DV] at hd;subst hd;cases (show u=Value.none from ru)
   cases e with
   | bl _=>simp [plain] at pe
   | dct _ _=>simp [plain] at pe
   | ref _=>simp [plain] at pe
   | ak =>
    simp only [DV] at he;subst he;cases (show w=Value.none from rw')
    simp only [aI,Bool.not_false,Bool.not_true];exact SeqAt.RcNeAt.none_none
   | int j =>
    simp only [DV] at he;subst he;obtain ⟨t',rfl⟩:=(show ∃ t,w=Value.int j t from rw')
    simp only [aI,Bool.not_false,Bool.not_true];exact SeqAt.RcNeAt.none_int j t'
   | str j =>
    simp only [DV] at he;subst he;obtain ⟨t',rfl⟩:=(show ∃ t,w=Value.str j t from rw')
    simp only [aI,Bool.not_false,Bool.not_true];exact SeqAt.RcNeAt.none_str j t'
   | tup es =>
    simp only [DV] at he
    obtain ⟨b,ws,rfl,h3,h4⟩:=he
    cases (show w=Value.ref b from rw')
    obtain ⟨its,_,t1,_⟩:=I.tuple h3
    simp only [aI,Bool.not_false,Bool.not_true];exact SeqAt.RcNeAt.none_tuple  t1 hu
   | lst es =>
    simp only [DV] at he
    obtain ⟨b,ws,rfl,h3,h4⟩:=he
    cases (show w=Value.ref b from rw')
    obtain ⟨its,_,t1,_⟩:=I.list h3
    simp only [aI,Bool.not_false,Bool.not_true];exact SeqAt.RcNeAt.none_list  t1.isList hu
  | int i =>
   simp only [DV] at hd;subst hd;obtain ⟨t,rfl⟩:=(show ∃ t,u=Value.int i t from ru)
   cases e with
   | bl _=>simp [plain] at pe
   | dct _ _=>simp [plain] at pe
   | ref _=>simp [plain] at pe
   | ak =>
    simp only [DV] at he;subst he;cases (show w=Value.none from rw')
    simp only [aI,Bool.not_false,Bool.not_true];exact SeqAt.RcNeAt.int_none i t
   | int j =>
    simp only [DV] at he;subst he;obtain ⟨t',rfl⟩:=(show ∃ t,w=Value.int j t from rw')
    have z:aI (D.int i) (D.int j)=(i == j):=by simp only [aI];by_cases q:i=j <;> simp [q]
    rw [z];exact SeqAt.RcNeAt.int_int i t j t'
   | str j =>
    simp only [DV] at he;subst he;obtain ⟨t',rfl⟩:=(show ∃ t,w=Value.str j t from rw')
    simp only [aI,Bool.not_false,Bool.not_true];exact SeqAt.RcNeAt.int_str i t j t'
   | tup es =>
    simp only [DV] at he
    obtain ⟨b,ws,rfl,h3,h4⟩:=he
    cases (show w=Value.ref b from rw')
    obtain ⟨its,_,t1,_⟩:=I.tuple h3
    simp only [aI,Bool.not_false,Bool.not_true];exact SeqAt.RcNeAt.int_tuple i t t1 hu
   | lst es =>
    simp only [DV] at he
    obtain ⟨b,ws,rfl,h3,h4⟩:=he
    cases (show w=Value.ref b from rw')
    obtain ⟨its,_,t1,_⟩:=I.list h3
    simp only [aI,Bool.not_false,Bool.not_true];exact SeqAt.RcNeAt.int_list i t t1.isList hu
  | str i =>
   simp only [DV] at hd;subst hd;obtain ⟨t,rfl⟩:=(show ∃ t,u=Value.str i t from ru)
   cases e with
   | bl _=>simp [plain] at pe
   | dct _ _=>simp [plain] at pe
   | ref _=>simp [plain] at pe
   | ak =>
    simp only [DV] at he;subst he;cases (show w=Value.none from rw')
    simp only [aI,Bool.not_false,Bool.not_true];exact SeqAt.RcNeAt.str_none i t
   | int j =>
    simp only [DV] at he;subst he;obtain ⟨t',rfl⟩:=(show ∃ t,w=Value.int j t from rw')
    simp only [aI,Bool.not_false,Bool.not_true];exact SeqAt.RcNeAt.str_int i t j t'
   | str j =>
    simp only [DV] at he;subst he;obtain ⟨t',rfl⟩:=(show ∃ t,w=Value.str j t from rw')
    have z:aI (D.str i) (D.str j)=(i == j):=by simp only [aI];by_cases q:i=j <;> simp [q]
    rw [z];exact SeqAt.RcNeAt.str_str i t j t'
   | tup es =>
    simp only [DV] at he
    obtain ⟨b,ws,rfl,h3,h4⟩:=he
    cases (show w=Value.ref b from rw')
    obtain ⟨its,_,t1,_⟩:=I.tuple h3
    simp only [aI,Bool.not_false,Bool.not_true];exact SeqAt.RcNeAt.str_tuple i t t1 hu
   | lst es =>
    simp only [DV] at he
    obtain ⟨b,ws,rfl,h3,h4⟩:=he
    cases (show w=Value.ref b from rw')
    obtain ⟨its,_,t1,_⟩:=I.list h3
    simp only [aI,Bool.not_false,Bool.not_true];exact SeqAt.RcNeAt.str_list i t t1.isList hu
  | tup ds =>
   simp only [DV] at hd
   obtain ⟨a,vs,rfl,h1,h2⟩:=hd
   cases (show u=Value.ref a from ru)
   obtain ⟨its,r1,t1,_⟩:=I.tuple h1
   cases e with
   | bl _=>simp [plain] at pe
   | dct _ _=>simp [plain] at pe
   | ref _=>simp [plain] at pe
   | ak =>
    simp only [DV] at he;subst he;cases (show w=Value.none from rw')
    simp only [aI,Bool.not_false,Bool.not_true];exact SeqAt.RcNeAt.tuple_none  t1 hu
   | int j =>
    simp only [DV] at he;subst he;obtain ⟨t',rfl⟩:=(show ∃ t,w=Value.int j t from rw')
    simp only [aI,Bool.not_false,Bool.not_true];exact SeqAt.RcNeAt.tuple_int j t' t1 hu
   | str j =>
    simp only [DV] at he;subst he;obtain ⟨t',rfl⟩:=(show ∃ t,w=Value.str j t from rw')
    simp only [aI,Bool.not_false,Bool.not_true];exact SeqAt.RcNeAt.tuple_str j t' t1 hu
   | lst es =>
    simp only [DV] at he
    obtain ⟨b,ws,rfl,h3,h4⟩:=he
    cases (show w=Value.ref b from rw')
    obtain ⟨its2,r2,t2,_⟩:=I.list h3
    simp only [aI,Bool.not_false,Bool.not_true];exact SeqAt.RcNeAt.tuple_list t1 t2.isList hu
   | tup es =>
    simp only [DV] at he
    obtain ⟨b,ws,rfl,h3,h4⟩:=he
    cases (show w=Value.ref b from rw')
    obtain ⟨its2,r2,t2,_⟩:=I.tuple h3
    have Ed:au ds=true:=by simpa [plain] using pd
    have Ec:au es=true:=by simpa [plain] using pe
    have l1:its.length=ds.length:=by rw [<- r1.length,h2.length]
    have l2:its2.length=es.length:=by rw [<- r2.length,h4.length]
    let f:Nat->Bool:=fun j=>match ds[j]?,es[j]? with | some a,some b=>aI a b | _,_=>false
    have items:∀ j (h1:j<its.toArray.size) (h2:j<its2.toArray.size),SeqAt.EqAt A.in1 s its.toArray[j] its2.toArray[j] (f j):=by
     intro j j1 j2
     have mH:j<ds.length:=by rw [<- l1];simpa using j1
     have mG:j<es.length:=by rw [<- l2];simpa using j2
     obtain ⟨v,e1,q1⟩:=h2.get mH
     obtain ⟨v',e2,q2⟩:=h4.get mG
     obtain ⟨z,e3,q3⟩:=r1.get e1
     obtain ⟨z',e4,q4⟩:=r2.get e2
     have i1:its.toArray[j]=z:=by
      have:its[j]? = some its[j]:=List.getElem?_eq_getElem (by simpa using j1)
      rw [this] at e3;simpa using Option.some.inj e3
     have i2:its2.toArray[j]=z':=by
      have:its2[j]? = some its2[j]:=List.getElem?_eq_getElem (by simpa using j2)
      rw [this] at e4;simpa using Option.some.inj e4
     have g1:=cF mH
     have g2:=cF mG
     have hf:f j=aI ds[j] es[j]:=by simp only [f,List.getElem?_eq_getElem mH,List.getElem?_eq_getElem mG]
     rw [i1,i2,hf]
     simp only [dep] at ih hA
     exact (ih ds[j] es[j] v v' z z' (by omega) q1 q2 (aS Ed mH) (aS Ec mG) q3 q4 A.in1 (by rw [in1_units];omega)).2
    have vO:its.toArray.size=ds.length:=by simpa using l1
    have zv:its2.toArray.size=es.length:=by simpa using l2
    have rc:SeqAt.RcNeAt A s (.ref a) (.ref b) (!aI (.tup ds) (.tup es)):=by
     have q:=SeqAt.RcNeAt.tuples t1 t2 hu items
     rw [vO,zv,cW] at q
     simp only [aI];exact q
    exact rc
  | lst ds =>
   simp only [DV] at hd
   obtain ⟨a,vs,rfl,h1,h2⟩:=hd
   cases (show u=Value.ref a from ru)
   obtain ⟨its,r1,t1,_⟩:=I.list h1
   cases e with
   | bl _=>simp [plain] at pe
   | dct _ _=>simp [plain] at pe
   | ref _=>simp [plain] at pe
   | ak =>
    simp only [DV] at he;subst he;cases (show w=Value.none from rw')
    simp only [aI,Bool.not_false,Bool.not_true];exact SeqAt.RcNeAt.list_none  t1.isList hu
   | int j =>
    simp only [DV] at he;subst he;obtain ⟨t',rfl⟩:=(show ∃ t,w=Value.int j t from rw')
    simp only [aI,Bool.not_false,Bool.not_true];exact SeqAt.RcNeAt.list_int j t' t1.isList hu
   | str j =>
    simp only [DV] at he;subst he;obtain ⟨t',rfl⟩:=(show ∃ t,w=Value.str j t from rw')
    simp only [aI,Bool.not_false,Bool.not_true];exact SeqAt.RcNeAt.list_str j t' t1.isList hu
   | tup es =>
    simp only [DV] at he
    obtain ⟨b,ws,rfl,h3,h4⟩:=he
    cases (show w=Value.ref b from rw')
    obtain ⟨its2,r2,t2,_⟩:=I.tuple h3
    simp only [aI,Bool.not_false,Bool.not_true];exact SeqAt.RcNeAt.list_tuple t1.isList t2 hu
   | lst es =>
    simp only [DV] at he
    obtain ⟨b,ws,rfl,h3,h4⟩:=he
    cases (show w=Value.ref b from rw')
    obtain ⟨its2,r2,t2,_⟩:=I.list h3
    have Ed:au ds=true:=by simpa [plain] using pd
    have Ec:au es=true:=by simpa [plain] using pe
    have l1:its.length=ds.length:=by rw [<- r1.length,h2.length]
    have l2:its2.length=es.length:=by rw [<- r2.length,h4.length]
    let f:Nat->Bool:=fun j=>match ds[j]?,es[j]? with | some a,some b=>aI a b | _,_=>false
    have items:∀ j (h1:j<its.toArray.size) (h2:j<its2.toArray.size),SeqAt.EqAt A.in1 s its.toArray[j] its2.toArray[j] (f j):=by
     intro j j1 j2
     have mH:j<ds.length:=by rw [<- l1];simpa using j1
     have mG:j<es.length:=by rw [<- l2];simpa using j2
     obtain ⟨v,e1,q1⟩:=h2.get mH
     obtain ⟨v',e2,q2⟩:=h4.get mG
     obtain ⟨z,e3,q3⟩:=r1.get e1
     obtain ⟨z',e4,q4⟩:=r2.get e2
     have i1:its.toArray[j]=z:=by
      have:its[j]? = some its[j]:=List.getElem?_eq_getElem (by simpa using j1)
      rw [this] at e3;simpa using Option.some.inj e3
     have i2:its2.toArray[j]=z':=by
      have:its2[j]? = some its2[j]:=List.getElem?_eq_getElem (by simpa using j2)
      rw [this] at e4;simpa using Option.some.inj e4
     have g1:=cF mH
     have g2:=cF mG
     have hf:f j=aI ds[j] es[j]:=by simp only [f,List.getElem?_eq_getElem mH,List.getElem?_eq_getElem mG]
     rw [i1,i2,hf]
     simp only [dep] at ih hA
     exact (ih ds[j] es[j] v v' z z' (by omega) q1 q2 (aS Ed mH) (aS Ec mG) q3 q4 A.in1 (by rw [in1_units];omega)).2
    have vO:its.toArray.size=ds.length:=by simpa using l1
    have zv:its2.toArray.size=es.length:=by simpa using l2
    have rc:SeqAt.RcNeAt A s (.ref a) (.ref b) (!aI (.lst ds) (.lst es)):=by
     by_cases hz:ds.length=es.length
     ·have q:=SeqAt.RcNeAt.lists t1.isList t2.isList (by rw [vO,zv,hz]) hu items
      have z:=cW ds es
      rw [show min ds.length es.length=ds.length by omega,show (ds.length == es.length)=true by simpa using hz,Bool.and_true] at z
      rw [vO,z] at q
      simp only [aI];exact q
     ·have q:=SeqAt.RcNeAt.lists_lengths t1.isList t2.isList (by rw [vO,zv];simpa using hz) hu
      have z:=cW ds es
      rw [show (ds.length == es.length)=false by simpa using hz,Bool.and_false] at z
      simp only [aI,<- z,Bool.not_false];exact q
    exact rc
end
end Fg
end
section
namespace Fg
open PySem PySem.Spec L2
section
variable {X:Cx} {B:Bd} {pins:List (Addr×Obj)} {Z:L2.St} {H:Hp} {s:Shared}
noncomputable def kM (B:Bd) (X:Cx):Prop:=∀ a kvs,B.dk a kvs->∀ h:Heap,X.K.In h->kvs.length<=sizeLine/\(a == sysModules)=false/\∃ vs,KV kvs vs/\h.DictOf (aJ X.prog X.w) a vs
theorem Ho {a:Addr} {kvs:List (Key×V)} (hB:kM B X) (I:Inv X pins Z H s) (h:GA B H a kvs):kvs.length<=sizeLine/\(a == sysModules)=false/\∃ vs,KV kvs vs/\s.heap.DictOf (aJ X.prog X.w) a vs:=by
 rcases h with h | h
 ·exact CM I.hok h
 ·exact hB a kvs h s.heap I.gO
noncomputable def Rm (X:Cx):Prop:=X.A.units+150<cLine
theorem Ep (hu:Rm X):dW X (compareOp .Eq) (wH X.K false):=by
 intro pins s Z H x y v u Q I rx ry h
 obtain ⟨d,e,hd,he,hc,q⟩:=h
 simp only [aV,Bool.and_eq_true,Bool.or_eq_true,decide_eq_true_eq] at hc
 have:=(eq_data I (dep d+dep e+1) d e x y v u (Nat.lt_succ_self _) hd he hc.1.1 hc.1.2 rx ry X.A (by unfold Rm at hu;omega)).1
 exact this X.prog X.w X.xe _ ⟨.bl (aI d e),H,I,rfl,q⟩
theorem Ei (hu:Rm X):dW X (compareOp .NotEq) (wH X.K true):=by
 intro pins s Z H x y v u Q I rx ry h
 obtain ⟨d,e,hd,he,hc,q⟩:=h
 simp only [aV,Bool.and_eq_true,Bool.or_eq_true,decide_eq_true_eq] at hc
 have:=ne_data I d e x y v u hd he hc.1.1 hc.1.2 rx ry X.A (by unfold Rm at hu;omega)
 exact this X.prog X.w X.xe _ ⟨.bl (!aI d e),H,I,rfl,q⟩
theorem Er:dW X (compareOp .Eq) (Aa false):=by
 intro pins s Z H x y v u Q I rx ry h
 obtain ⟨a,b,rfl,rfl,q⟩:=h
 refine Ij pins s Z H _ _ v u Q I rx ry ⟨rfl,?_⟩
 have e:decide (V.bl a=V.bl b)=(a == b):=m8
 rw [e];exact q
theorem Ej:dW X (compareOp .NotEq) (Aa true):=by
 intro pins s Z H x y v u Q I rx ry h
 obtain ⟨a,b,rfl,rfl,q⟩:=h
 refine Ic pins s Z H _ _ v u Q I rx ry ⟨rfl,?_⟩
 have e:decide (V.bl a=V.bl b)=(a == b):=m8
 rw [e];exact q
theorem Eo (hu:Rm X):dW X (compareOp .Eq) (wG X.K false):=by
 intro pins s Z H x y v u Q I rx ry h
 obtain ⟨l,b,xs,rfl,rfl,hH,hB,q⟩:=h
 cases rx
 cases ry
 have IW:X.A.units<cLine:=by unfold Rm at hu;omega
 obtain ⟨its,r,pl,z⟩:=I.list hH
 obtain ⟨its2,r2,DX,z2⟩:=I.list hB
 cases r2
 cases r with
 | nil=>exact SeqAt.eq_listAt (e:=fun _=>true) pl.isList DX.isList rfl IW (fun j h1=>by simp at h1) ⟨.bl true,H,I,rfl,q⟩
 | cons _ _=>exact SeqAt.eq_list_lengthsAt pl.isList DX.isList (by simp) IW ⟨.bl false,H,I,rfl,q⟩
theorem Eh (hu:Rm X):dW X (compareOp .NotEq) (wG X.K true):=by
 intro pins s Z H x y v u Q I rx ry h
 obtain ⟨l,b,xs,rfl,rfl,hH,hB,q⟩:=h
 cases rx
 cases ry
 have IW:X.A.units<cLine:=by unfold Rm at hu;omega
 obtain ⟨its,r,pl,z⟩:=I.list hH
 obtain ⟨its2,r2,DX,z2⟩:=I.list hB
 cases r2
 cases r with
 | nil=>exact SeqAt.RcNeAt.lists (e:=fun _=>true) pl.isList DX.isList rfl IW (fun j h1=>by simp at h1) X.prog X.w X.xe _ ⟨.bl false,H,I,rfl,q⟩
 | cons _ _=>exact SeqAt.RcNeAt.lists_lengths pl.isList DX.isList (by simp) IW X.prog X.w X.xe _ ⟨.bl true,H,I,rfl,q⟩
theorem En (hB:kM B X):dW X (compareOp .In) (wI B false):=by
 intro pins s Z H x y v u Q I rx ry h
 obtain ⟨a,kvs,k,rfl,rfl,hd,q⟩:=h
 obtain rfl:u=Value.ref a:=ry
 obtain ⟨z,hm,vs,rel,dd⟩:=Ho hB I hd
 refine wpAny_in_of (oR rx) hm dd.mapOf ?_
 rw [<- (rel.val k).iE]
 exact ⟨.bl (cE kvs k).isSome,H,I.tok _,rfl,q⟩
theorem uP (hB:kM B X):dW X (compareOp .NotIn) (wI B true):=by
 intro pins s Z H x y v u Q I rx ry h
 obtain ⟨a,kvs,k,rfl,rfl,hd,q⟩:=h
 obtain rfl:u=Value.ref a:=ry
 obtain ⟨z,hm,vs,rel,dd⟩:=Ho hB I hd
 refine wpAny_notIn_of (oR rx) hm dd.mapOf ?_
 rw [<- (rel.val k).iE]
 exact ⟨.bl (!(cE kvs k).isSome),H,I.tok _,rfl,q⟩
noncomputable def yF:zk->CmpOp
 | .eq=>.Eq | .ne=>.NotEq | .lt=>.Lt | .le=>.LtE | .gt=>.Gt | .ge=>.GtE | .isin=>.In | .oE=>.NotIn | .y9=>.Is | .qy=>.IsNot
theorem wX (hK:B.K=X.K) (hu:Rm X) (hB:kM B X):∀ o:zk,dW X (compareOp (yF o)) (qq B o)
 | .lt=>Ie
 | .le=>Ig
 | .gt=>Ih
 | .ge=>Ii
 | .eq=>by rw [qq,hK];exact Er.or ((Ep hu).or (Eo hu))
 | .ne=>by rw [qq,hK];exact Ej.or ((Ei hu).or (Eh hu))
 | .y9=>Em
 | .qy=>Aw
 | .isin=>by rw [qq,hK];exact (En hB).or uQ
 | .oE=>by rw [qq,hK];exact (uP hB).or mq
theorem AB:dW X (binaryOp .Add) (Cg X.K):=by
 intro pins s Z H x y v u Q I rx ry h
 obtain ⟨l,b,xs,zs,rfl,rfl,hH,hB,hz,q⟩:=h
 cases rx
 cases ry
 obtain ⟨its,r,pl,z⟩:=I.list hH
 obtain ⟨its2,r2,DX,z2⟩:=I.list hB
 obtain ⟨⟨cls,dd,data,sl⟩,ho,hc,n,hd⟩:=id pl.isList
 obtain ⟨⟨JB,dd2,data2,sl2⟩,ho2,hc2,n2,hd2⟩:=id DX.isList
 simp only at hc hd hc2 hd2
 subst hc hd hc2 hd2
 have l1:=r.length
 have l2:=r2.length
 have ea:its.toArray++its2.toArray=(its++its2).toArray:=by simp
 refine PySem.concat_meets ⟨_,ho,rfl⟩ ⟨_,ho2,rfl⟩ PySem.noFill_list_add PySem.seq_list_add PySem.F.slot_list_add PySem.F.entry_list_add (PySem.F.args_list_add_2 _ _) (PyProof.Rows.list_addW l b its.toArray its2.toArray n n2 dd dd2 sl sl2 (by simp only [List.size_toArray];omega)) ⟨ho,ho2,?_⟩
 rw [ea]
 exact ⟨.ref _,_,I.IF (t':=s.toks) (r.append r2) (by rw [List.length_append];omega),rfl,q _ I.fresh⟩
theorem Ay:dW X (binaryOp .Mult) (Cd X.K):=by
 intro pins s Z H x y v u Q I rx ry h
 obtain ⟨l,xs,k,rfl,rfl,hH,hz,hk,q⟩:=h
 cases rx
 obtain ⟨t,rfl⟩:=(show ∃ t,u=Value.int k t from ry)
 obtain ⟨its,r,pl,z⟩:=I.list hH
 obtain ⟨⟨cls,dd,data,sl⟩,ho,hc,n,hd⟩:=id pl.isList
 simp only at hc hd
 subst hc hd
 have l1:=r.length
 rw [l1] at hz
 refine wpAny_binaryOp_repeat_ref (T:="list") (U:="int") (by decide) ⟨_, ho, rfl⟩ (fun s'=>typeIs_int s' k t) noFill_list_mul PySem.F.fills_int_mul PySem.F.slot_int_rmul repeat_list PySem.F.slot_int_index.lookup
  (call_meets PySem.F.slot_int_rmul (typeIs_int s k t) PySem.F.entry_int_rmul (PySem.F.args_int_rmul_2 _ _) (PySem.lm_int_rmul_list_any k t l its.toArray n dd sl)
   ⟨ho,rfl,⟨_,ho,rfl⟩,call_meets PySem.F.slot_list_mul ⟨_,ho,rfl⟩ PySem.F.entry_list_mul (PySem.F.args_list_mul_2 _ _)
    (PySem.lm_list_mul_any l its.toArray n dd sl k t (by simp [Builtin.List.listFitsIndex];omega) (by rw [List.size_toArray];rw [sizeLine_eq] at hz;omega) (by rw [sizeLine_eq] at hz;simp [Builtin.List.listTooLong,sizeLine];omega))
    ⟨ho,?_⟩⟩)
 rw [PyProof.Rows.listMul_foldl_if]
 have rr:Vals (List.replicate k.toNat xs).flatten (List.replicate k.toNat its).flatten:=by
  generalize k.toNat=m
  induction m with
  | zero=>exact .nil
  | succ m ih=>rw [List.replicate_succ,List.replicate_succ,List.flatten_cons,List.flatten_cons];exact r.append ih
 exact ⟨.ref _,_,I.IF (t':=s.toks) rr (by rw [List.length_flatten];simp [List.sum_replicate_nat];rw [l1,Nat.mul_comm];exact hz),rfl,q _ I.fresh⟩
theorem oO {i:Int} (h:i.natAbs<10 ^ 200):Builtin.Int.intBits i<=2 ^ 20:=by
 unfold Builtin.Int.intBits
 split
 ·exact Nat.zero_le _
 ·have z:i.natAbs.log2<1000:=by
   by_cases h0:i.natAbs=0
   ·rw [h0];decide
   ·exact (Nat.log2_lt h0).mpr (Nat.lt_of_lt_of_le h (by decide +kernel))
  exact Nat.le_trans (Nat.succ_le_of_lt z) (by decide)
theorem Ax:dW X (binaryOp .Mult) (rI JW fun i j=>.int (i*j)):=Il fun _ _ _ _ _ _ _ hc q=>PyProof.Rows.mul_int q (.of_bits (oO hc.1) (oO hc.2))
noncomputable def binOp:BL->Operator
 | .add=>.Add | .sub=>.Sub | .mul=>.Mult | .fdiv=>.FloorDiv | .mod=>.Mod | .pow=>.Pow
theorem Et (hK:B.K=X.K):∀ o:BL,dW X (binaryOp (binOp o)) (HH B.K o)
 | .add=>by rw [HH,hK];exact Eu.or (qx.or (AB.or AA))
 | .sub=>Ef
 | .mul=>by rw [HH,hK];exact Ek.or (Ax.or Ay)
 | .fdiv=>Az
 | .mod=>El
 | .pow=>Eg
theorem Fw (hB:kM B X):zj X (HM B):=by
 intro value slice pins s Z H x y v u Q I rx ry h hs
 obtain ⟨a,kvs,k,w,rfl,rfl,hd,hv,q⟩:=h
 obtain rfl:v=Value.ref a:=rx
 obtain ⟨z,hm,vs,rel,dd⟩:=Ho hB I hd
 obtain ⟨w',hw,rw'⟩:=gz.some_of (v:=w) (o:=valueAt vs k) (by rw [<- hv];exact rel.val k)
 exact PyProof.Rows.tail_any dd.typeIs PySem.F.slot_dict_getitem.lookup (wpAny_getItem_of (oR ry) dd.mapOf hw ⟨w,H,I.tok _,rw',q⟩) hs
theorem Fx (hK:B.K=X.K) (hB:kM B X):zj X (z9 B):=by
 unfold z9;rw [hK];exact A3.or (Ft.or (Fv.or (Fw hB)))
theorem vj (hK:B.K=X.K) (hB:kM B X):dm X (.builtin "len") (DJ B):=by
 unfold DJ;rw [hK]
 refine nh.or (nj.or ?_)
 intro pins s Z H xs us Q I r h
 obtain ⟨a,kvs,rfl,ha,q⟩:=h
 obtain ⟨u,rfl,ru⟩:=vals1 r
 cases ru
 obtain ⟨z,hd,vs,rel,dd⟩:=Ho hB I ha
 refine call_len_dict hd dd (by rw [<- rel.length];rw [sizeLine_eq] at z;omega) ?_
 rw [<- rel.length]
 exact ⟨.int kvs.length,H,I.tok _,⟨_,rfl⟩,q⟩
theorem vh (hK:B.K=X.K):dm X (.type "list") (qo B):=by unfold qo;rw [hK];exact ng
inductive BJ (B:Bd) (H:Hp):V->String->Prop where
 | ak:BJ B H .ak "NoneType"
 | bl (b:Bool):BJ B H (.bl b) "bool"
 | int (i:Int):BJ B H (.int i) "int"
 | str (x:Str):BJ B H (.str x) "str"
 | lst {a:Addr} {xs:List V}:fc B.K H a xs->BJ B H (.ref a) "list"
 | tup {a:Addr} {xs:List V}:iO B.K H a xs->BJ B H (.ref a) "tuple"
 | dct {a:Addr} {kvs:List (Key×V)}:GA B H a kvs->BJ B H (.ref a) "dict"
noncomputable def nJ:Ty->String
 | .int=>"int" | .str=>"str" | .bool=>"bool" | .list=>"list" | .tuple=>"tuple" | .dict=>"dict"
noncomputable def tyB (T:String) (t:Ty):Bool:=T == nJ t||(T == "bool"&&match t with | .int=>true | _=>false)
noncomputable def HN (B:Bd):List V->Hp->VK->Prop:=fun xs H Q=>∃ x T t,xs=[x,.ty (nJ t)]/\BJ B H x T/\Q (.bl (tyB T t)) H
theorem AV (K:W.Frag):∀ t:Ty, W.kitOne K (.type "NoneType") (.type (nJ t))=some (tyB "NoneType" t)/\W.kitOne K (.type "bool") (.type (nJ t))=some (tyB "bool" t)/\W.kitOne K (.type "int") (.type (nJ t))=some (tyB "int" t)/\W.kitOne K (.type "str") (.type (nJ t))=some (tyB "str" t) /\
  W.kitOne K (.type "list") (.type (nJ t))=some (tyB "list" t)/\W.kitOne K (.type "tuple") (.type (nJ t))=some (tyB "tuple" t)/\W.kitOne K (.type "dict") (.type (nJ t))=some (tyB "dict" t):=by
 intro t
 cases t <;> (refine ⟨?_,?_,?_,?_,?_,?_,?_⟩ <;> kernel_rfl)
theorem yI (hK:B.K=X.K) (hB:kM B X):dm X (.builtin "isinstance") (HN B):=by
 intro pins s Z H xs us Q I r h
 obtain ⟨x,T,t,rfl,ty,q⟩:=h
 cases r with
 | cons rx r =>
  cases r with
  | cons rt r =>
   cases r
   obtain rfl:=(show _=Value.type (nJ t) from rt)
   have fin:∀ tk,EP X pins Z Q (.bool (tyB T t)) { s with toks:=tk }:=fun tk=>⟨.bl (tyB T t),H,I.tok _,rfl,q⟩
   obtain ⟨k1,k2,k3,k4,k5,k6,k7⟩:=AV X.K t
   cases ty with
   | ak=>cases (show _=Value.none from rx);exact W.kia_one W.kitx_none I.gO True.intro k1 (fun z=>nomatch z) fin
   | bl b=>cases (show _=Value.bool b from rx);exact W.kia_one W.kitx_bool I.gO True.intro k2 (fun z=>nomatch z) fin
   | int i=>obtain ⟨tk,q⟩:=(show ∃ t,_=Value.int i t from rx);cases q;exact W.kia_one W.kitx_int I.gO True.intro k3 (fun z=>nomatch z) fin
   | str y=>obtain ⟨tk,q⟩:=(show ∃ t,_=Value.str y t from rx);cases q;exact W.kia_one W.kitx_str I.gO True.intro k4 (fun z=>nomatch z) fin
   | lst hl =>
    cases rx
    rw [hK] at hl
    obtain ⟨its,_,pl,_⟩:=I.list hl
    obtain ⟨o,ho,hc,_⟩:=pl.isList
    exact W.kia_one W.kitx_list I.gO ⟨o,ho,hc⟩ k5 (fun z=>nomatch z) fin
   | tup hl =>
    cases rx
    rw [hK] at hl
    obtain ⟨its,_,pl,_⟩:=I.tuple hl
    obtain ⟨o,ho,hc,_⟩:=pl
    exact W.kia_one W.kitx_tuple I.gO ⟨o,ho,hc⟩ k6 (fun z=>nomatch z) fin
   | dct hd =>
    cases rx
    obtain ⟨z,hm,vs,rel,dd⟩:=Ho hB I hd
    obtain ⟨o,ho,hc⟩:=dd.typeIs
    exact W.kia_one W.kitx_dict I.gO ⟨o,ho,hc⟩ k7 (fun z=>nomatch z) fin
end
end Fg
end
section
namespace Fg
open PySem PySem.Spec L2
theorem jI {α:Type} (xs:List α) (a:Nat):∀ c:Nat,((List.range c).map fun k=>a+k).filterMap (fun i=>xs[i]?)=(xs.drop a).take c
 | 0=>by simp
 | c+1=>by
  rw [List.range_succ,List.map_append,List.filterMap_append,jI xs a c,List.take_add_one]
  simp [List.getElem?_drop]
  cases h:xs[a+c]? <;> simp [h]
theorem pN (n d:Nat) (hd:d<=n) (o:Option Int):(match o with
  | none=>((d:Nat):Int)
  | some i=>max 0 (min (if i<0 then i+(n:Int) else i) (n:Int)))=((six n d o:Nat):Int):=by
 cases o with
 | none=>rfl
 | some i=>simp only [six];split <;> omega
theorem Dl (n d:Nat) (hd:d<=n) (o:Option Int):six n d o<=n:=by
 cases o with
 | none=>exact hd
 | some i=>simp only [six];split <;> omega
theorem DB (a b:Nat):sliceRange (a:Int) (b:Int) 1=(List.range (b-a)).map fun k=>a+k:=by
 unfold sliceRange
 simp only [show (1:Int) > 0 by decide,if_true]
 have ec:(if (a:Int)<(b:Int) then ((b:Int)-(a:Int)+1-1) / 1 else 0).toNat=b-a:=by
  split <;> omega
 rw [ec]
 apply List.map_congr_left
 intro k _
 omega
theorem xY (l u:Option Int) (n:Nat):Builtin.Str.strSliceIndices l u 1 n=(List.range (six n n u-six n 0 l)).map fun k=>six n 0 l+k:=by
 rw [<- DB,<- pN n 0 (Nat.zero_le _) l,<- pN n n (Nat.le_refl _) u]
 unfold Builtin.Str.strSliceIndices
 cases l <;> cases u <;> rfl
theorem qf (x:Str) (l u:Option Int):Txt.slice x l u=cuts x l u:=by
 have hn:x.cps.toList.length=x.length:=by simp [Str.length]
 have key:(Builtin.Str.strSliceIndices l u 1 x.length).filterMap (x.cps[·]?)=eU x.cps.toList l u:=by
  rw [xY]
  have:=jI x.cps.toList (six x.length 0 l) (six x.length x.length u-six x.length 0 l)
  unfold eU
  rw [hn,<- this]
  congr 1
  funext i
  simp
 unfold Txt.slice
 split
 ·rename_i hc
  simp only [Bool.and_eq_true,beq_iff_eq] at hc
  have hc2:=hc.2
  rw [xY] at hc2
  simp only [List.length_map,List.length_range] at hc2
  have b1:=Dl x.length x.length (Nat.le_refl _) u
  unfold cuts eU
  rw [hn]
  by_cases h0:x.length=0
  ·obtain ⟨⟨l⟩⟩:=x
   simp [Str.length] at h0
   subst h0
   simp
  ·have a0:six x.length 0 l=0:=by omega
   rw [a0,List.drop_zero,List.take_of_length_le (by rw [hn];omega)]
 ·show Str.mk _=Str.mk _
  rw [key]
section
variable {X:Cx} {B:Bd}
theorem Dj:BK X HF:=by
 intro pins s Z H x v vl vu lo hi sl Q I rx hs pl pu h
 obtain ⟨z,rfl,hz,q⟩:=h
 obtain ⟨t,rfl⟩:=(show ∃ t,v=Value.str z t from rx)
 refine ⟨"str", _, PySem.F.slot_str_getitem.lookup, typeIs_str _ _ _, ?_⟩
 have fin:∀ (l u:Option Int) (t':Tok) (k:Nat),l=lo->u=hi->EP X pins Z Q (.str (Txt.slice z l u) t') { s with toks:=k }:=by
  intro l u t' k e3 e4
  exact ⟨.str (cuts z lo hi),H,I.tok _,⟨t',by rw [qf,e3,e4]⟩,q⟩
 obtain ⟨o,ho,hc,hd⟩:=hs
 cases pl with
 | none =>
  cases pu with
  | none=>exact wpAny_getItem_str_slice (l:=none) (u:=none) (st:=none) ⟨o,ho,hc,hd⟩ rfl (post_val_or_str ⟨Nat.le_trans (Txt.slice_le z none none) hz,fun t' k=>fin none none t' k rfl rfl⟩)
  | int j tj=>exact wpAny_getItem_str_slice (l:=none) (u:=some (j,tj)) (st:=none) ⟨o,ho,hc,hd⟩ rfl (post_val_or_str ⟨Nat.le_trans (Txt.slice_le z none (some j)) hz,fun t' k=>fin none (some j) t' k rfl rfl⟩)
 | int i ti =>
  cases pu with
  | none=>exact wpAny_getItem_str_slice (l:=some (i,ti)) (u:=none) (st:=none) ⟨o,ho,hc,hd⟩ rfl (post_val_or_str ⟨Nat.le_trans (Txt.slice_le z (some i) none) hz,fun t' k=>fin (some i) none t' k rfl rfl⟩)
  | int j tj=>exact wpAny_getItem_str_slice (l:=some (i,ti)) (u:=some (j,tj)) (st:=none) ⟨o,ho,hc,hd⟩ rfl (post_val_or_str ⟨Nat.le_trans (Txt.slice_le z (some i) (some j)) hz,fun t' k=>fin (some i) (some j) t' k rfl rfl⟩)
theorem Dk (hK:B.K=X.K):BK X (z8 B):=by
 unfold z8;rw [hK];exact zF.or (Di.or Dj)
end
end Fg
end
section
namespace Fg
open PySem PySem.Spec L2
theorem dO {α β:Type} (g:β->α->β):∀ {l:List α} {f:α->β->Sem (ForInStep β)} (_:∀ x∈l,∀ c,f x c=pure (.yield (g c x))) (c:β),forIn l c f=pure (l.foldl g c)
 | [],f,_,c=>rfl
 | x::l,f,h,c=>by
  rw [List.forIn_cons,h x List.mem_cons_self,pure_bind]
  exact dO g (fun y hy=>h y (List.mem_cons_of_mem _ hy)) _
noncomputable def aH (env:Env) (cs:List (Str×Addr)) (x:Str×NameKind):List (Str×Addr):=if x.2 == .free then (x.1,(env.cells.lookup x.1).getD 0)::cs else cs
theorem rB {scope:Scope} {env:Env} (h:∀ x,(x,NameKind.free)∈scope.names->∃ c,env.cells.lookup x=some c):closureFor scope env=pure (scope.names.foldl (aH env) []):=by
 unfold closureFor
 dsimp only
 rw [dO (aH env) (fun x hx c=>?_)]
 ·rfl
 obtain ⟨n,k⟩:=x
 by_cases hk:k=.free
 ·subst hk
  obtain ⟨a,ha⟩:=h n hx
  simp only [aH,cellOf,ha,beq_self_eq_true,if_true,Option.getD_some]
  rfl
 ·have hb:(k == NameKind.free)=false:=by simpa using hk
  simp only [aH,hb,Bool.false_eq_true,if_false]
theorem nc {env:Env}:∀ (names:List (Str×NameKind)) (cs:List (Str×Addr)) (p:Str×Addr),(∀ x,(x,NameKind.free)∈names->∃ c,env.cells.lookup x=some c)->p∈names.foldl (aH env) cs->p∈cs\/env.cells.lookup p.1=some p.2
 | [],cs,p,_,h=>.inl h
 | (n, k)::r, cs, p, hc, h=>by
  rw [List.foldl_cons] at h
  rcases nc r _ p (fun x hx=>hc x (List.mem_cons_of_mem _ hx)) h with q | q
  ·unfold aH at q
   split at q
   ·rename_i hk
    have hk':k=.free:=by simpa using hk
    subst hk'
    rcases List.mem_cons.mp q with q | q
    ·obtain ⟨a,ha⟩:=hc n List.mem_cons_self
     right
     rw [q]
     show env.cells.lookup n=some ((env.cells.lookup n).getD 0)
     rw [ha];rfl
    ·exact .inl q
   ·exact .inl q
  ·exact .inr q
theorem ue {env:Env}:∀ (names:List (Str×NameKind)) (cs:List (Str×Addr)) (x:Str),(∃ c,(x,c)∈cs)->∃ c,(x,c)∈names.foldl (aH env) cs
 | [],cs,x,h=>h
 | (n,k)::r,cs,x,⟨c,h⟩=>by
  rw [List.foldl_cons]
  refine ue r _ x ⟨c,?_⟩
  unfold aH
  split
  ·exact List.mem_cons_of_mem _ h
  ·exact h
theorem rC {env:Env}:∀ (names:List (Str×NameKind)) (cs:List (Str×Addr)) (x:Str),(x,NameKind.free)∈names->∃ c,(x,c)∈names.foldl (aH env) cs
 | (n, k)::r, cs, x, h=>by
  rw [List.foldl_cons]
  rcases List.mem_cons.mp h with h | h
  ·cases h
   refine ue r _ n ⟨(env.cells.lookup n).getD 0,?_⟩
   unfold aH
   rw [if_pos (by rfl)]
   exact List.mem_cons_self
  ·exact rC r _ x h
theorem dz {β:Type}:∀ {l:List (Str×β)} {x:Str} {c:β},(x,c)∈l->∃ d,l.lookup x=some d
 | (n, k)::r, x, c, h=>by
  rw [List.lookup_cons]
  cases e:x == n with
  | true=>exact ⟨k,rfl⟩
  | false =>
   rcases List.mem_cons.mp h with h | h
   ·cases h;simp at e
   ·exact dz h
theorem cO {env:Env}:∀ {names:List (Str×NameKind)} {x:Str},(names.map fun (n,k)=>if (k == NameKind.free&&env.scope.kind == .function&&env.kindOf n == some .cell) then (n,NameKind.cell) else (n,k)).lookup x =
  (names.lookup x).map fun k=>if (k == NameKind.free&&env.scope.kind == .function&&env.kindOf x == some .cell) then NameKind.cell else k
 | [],x=>rfl
 | (n, k)::r, x=>by
  have ih:=@cO env r x
  show List.lookup x ((if (k == NameKind.free&&env.scope.kind == .function&&env.kindOf n == some .cell)=true then (n,NameKind.cell) else (n,k))::_)=_
  cases hx:x == n with
  | true =>
   have e:x=n:=by simpa using hx
   subst e
   by_cases hc:(k == NameKind.free&&env.scope.kind == .function&&env.kindOf x == some .cell)=true
   ·rw [if_pos hc];simp only [List.lookup_cons,hx,Option.map_some,if_pos hc]
   ·rw [if_neg hc]
    simp only [List.lookup_cons,hx,Option.map_some,if_neg hc]
  | false =>
   by_cases hc:(k == NameKind.free&&env.scope.kind == .function&&env.kindOf n == some .cell)=true
   ·rw [if_pos hc];simp only [List.lookup_cons,hx];exact ih
   ·rw [if_neg hc];simp only [List.lookup_cons,hx];exact ih
noncomputable def CQ (X:Cx) (scope:Scope) (cl:List (Str×Addr)) (N:List Str) (fp:List Addr) (s:Shared) (H:Hp) (C:Addr):Cx :=
 { X with N:=N,s₀:=s,H₀:=H,env:=compEnvC scope cl C X.env,outer:=X.stack,stack:=X.stack,ex:=fp,fn:=fun _=>false,pn:=[],xe:=fun _ _=>False }
noncomputable abbrev dS (X:Cx) (scope:Scope) (cl:List (Str×Addr)) (N:List Str) (fp:List Addr) (s:Shared) (H:Hp) (C:Addr) (E:XK):Cx:=(CQ X scope cl N fp s H C).bH (i7 (CQ X scope cl N fp s H C) fun cv x _ H'=>E cv x H')
noncomputable def GQ (X:Cx) (ifs:List Expr) (t:TT):Prop :=
 ∀ (pins:List (Addr×Obj)) (s:Shared) (Z:St) (H:Hp) (Q:Bool->Hp->Prop),Inv X pins Z H s->t Z H Q ->
  wpAny (model X.prog X.w) X.A (forIn ifs true fun c r=>if r=true then do let ok <- isTrue c X.env (eval c X.env);pure (ForInStep.yield ok) else pure (ForInStep.yield r)) (L2.TP X pins Z Q) X.xe s
theorem Ac {X:Cx}:GQ X [] (fun _ H Q=>Q true H):=fun pins s Z H Q I h=>wpAny_tests_nil ⟨H,I,h⟩
theorem Ab {X:Cx} {c:Expr} {t:TT} (h:PT X c t):GQ X [c] t:=fun pins s Z H Q I q=>wpAny_tests_one (h pins s Z H Q I q)
noncomputable def pP (cp:List Nat) (n:Nat) (Z:St):St:=cp.map (fun i=>(Z[i]?).join)++List.replicate n none
noncomputable def rS (wi:TI) (g:TG) (tc:St->TT) (te:St->TE) (cp:List Nat) (n:Nat):TE:=fun Z H Q=>wi Z H fun J H1=>∀ D,H1 D=none->∃ W:Nat->Nat->St->Hp->Prop,(∃ m,W 0 m (pP cp n Z) (upd H1 D (.lst [])))/\∀ i m Z' H',W i m Z' H' ->
 (J.stop i H'/\Q (.ref D) H')\/(J.go i H'/\∀ x H2,J.JY i H' x H2->g x Z' H2 fun Z2 H3=>tc Z Z2 H3 fun b H4 =>
  if b=true then te Z Z2 H4 fun v H5=>∃ ys,H5 D=some (.lst ys)/\ys.length<sizeLine/\∃ m',m'<m/\W (i+1) m' Z2 (upd H5 D (.lst (ys++[v]))) else ∃ m',m'<m/\W (i+1) m' Z2 H4)
theorem fY {prog:Program} {w:World} {A:Around} {R:Result->Shared->Prop} {s:Shared} {elt target iter:Expr} {ifs:List Expr} {scope:Scope} {pos:Pos} {it acc:Value} {env:Env} (I:Nat->Shared->Prop) (EX:Value->Shared->Prop) (hE:∀ e s,EX e s->notedBy (model prog w) A env (fun x s'=>R (.error x) s') e s)
  (turn:∀ n s,I n s->wpAny (model prog w) A (pyNext it) (fun r s₁=>match r with
   | none=>R (.ok .next) s₁
   | some v=>wpAny (model prog w) A (letOwnedTupleGo target it v) (fun _ s₁'=>wpAny (model prog w) A (assign target env v) (fun _ s₂ =>
     wpAny (model prog w) A (forIn ifs true fun c r=>if r=true then do let ok <- isTrue c env (eval c env);pure (ForInStep.yield ok) else pure (ForInStep.yield r)) (fun ok s₃ =>
      if ok=true then wpAny (model prog w) A (eval elt env) (fun x s₄ =>
       wpAny (model prog w) A (call (.builtin "list.append") [acc, x]) (fun _ s₅=>∃ m, m<n/\I m s₅) EX s₄) EX s₃
      else ∃ m,m<n/\I m s₃) EX s₂) EX s₁') EX s₁) EX s)
  (n:Nat) (h:I n s):codeAny (model prog w) A (.compLoop (.ListComp elt [⟨target,iter,ifs,0⟩] scope pos) 0 it acc env) R s:=by
 refine codeAny_loop rfl I (fun n s hI=>?_) n h
 show wpAny _ A ((compTurn (.ListComp elt [⟨target,iter,ifs,0⟩] scope pos) 0 it acc env).onRaise (fun x=>do noteFrame x env;theTreesLotGoes x)) _ _ s
 refine wpAny_noted ?_
 rw [compTurn_list]
 refine wpAny_bind (wpAny_standAt (wpAny_bind (wpAny_mono (turn n s hI) (fun r s₁ h₁=>?_) hE)))
 cases r with
 | none=>exact wpAny_pure h₁
 | some v =>
  refine wpAny_bind (wpAny_mono h₁ (fun _ s₁' h₁'=>?_) hE)
  refine wpAny_bind (wpAny_mono h₁' (fun _ s₂ h₂=>wpAny_bind (wpAny_mono h₂ (fun ok s₃ h₃=>?_) hE)) hE)
  cases ok with
  | false=>exact wpAny_pure ⟨rfl,h₃⟩
  | true =>
   exact wpAny_bind (wpAny_bind (wpAny_mono h₃ (fun x s₄ h₄=>wpAny_bind (wpAny_mono h₄ (fun _ s₅ h₅=>wpAny_pure (wpAny_pure ⟨rfl,h₅⟩)) hE)) hE))
section
variable {X:Cx} {pins:List (Addr×Obj)} {Z:St} {H:Hp} {s:Shared}
structure gB (X:Cx) (scope:Scope) (N:List Str) (cp:List Nat) (n:Nat):Prop where
 free:∀ x,(x,NameKind.free)∈scope.names->X.env.kindOf x=some .cell\/X.env.kindOf x=some .free
 cell:∀ y∈scope.names,y.2≠.cell
 kind:scope.kind=.function
 names:∀ y∈scope.names,y.2=.local->scope.names.lookup y.1=some .local
 len:N.length=cp.length+n
 cap:∀ (i j:Nat) (x:Str),N[i]? = some x->cp[i]? = some j->X.N[j]? = some x/\scope.names.lookup x=some .free
theorem Gs {scope:Scope} {N:List Str} {cp:List Nat} {n:Nat} {fp:List Addr} {C:Addr} (S:gB X scope N cp n) (I:Inv X pins Z H s) (hf:∀ b∈fp,kG X pins H b) (hC:s.heap.objs.size<C) (FE:∀ b∈fp,b<s.heap.objs.size) :
  (CQ X scope (scope.names.foldl (aH X.env) []) N fp s H C).Ok:=by
 have hex:∀ x,(x,NameKind.free)∈scope.names->∃ c,X.env.cells.lookup x=some c:=fun x hx=>I.ok.has x (S.free x hx)
 have hcl:∀ x c,(scope.names.foldl (aH X.env) []).lookup x=some c->X.env.cells.lookup x=some c:=fun x c e=>by
  rcases nc scope.names [] (x,c) hex (PySem.mem_of_lookup e) with q | q
  ·cases q
  ·exact q
 refine ⟨I.ok.mod,S.kind,I.ok.glob,I.ok.blt,Nat.le_of_lt hC,fun x y c h1 h2=>I.ok.inj x y c (hcl x c h1) (hcl y c h2),fun x hx=>?_,fun x c h _=>(Bool.false_ne_true h).elim,I.ok.hd,I.ok.frames,.inl rfl,fun b hb=>⟨Nat.ne_of_lt (Nat.lt_trans (FE b hb) hC),fun x c e=>(hf b hb).2.2.2.2.1 x c (hcl x c e)⟩,
  fun b o e=>I.bs b o e,Nat.le_trans I.ok.vE I.sz,fun b o e hb=>?_,fun b hb hs=>?_,I.stack,I.fL⟩
 ·have q:(x,NameKind.free)∈scope.names:=by
   have hx:(relabel scope X.env).names.lookup x=some .cell\/(relabel scope X.env).names.lookup x=some .free:=hx
   unfold relabel at hx
   dsimp only at hx
   rw [cO] at hx
   cases e:scope.names.lookup x with
   | none=>rw [e] at hx;simp at hx
   | some k =>
    rw [e] at hx
    have hm:=PySem.mem_of_lookup e
    cases k with
    | free=>exact hm
    | cell=>exact (S.cell _ hm rfl).elim
    | «local»=>simp at hx
    | globalImplicit=>simp at hx
    | globalExplicit=>simp at hx
  obtain ⟨c,hc⟩:=rC (env:=X.env) scope.names [] x q
  exact dz hc
 ·rcases (hf b hb).2.2.2.1 with z | z
  ·exact I.ok.oF b o e z
  ·exact absurd (Nat.lt_of_lt_of_le (Heap.lt_size e) (Nat.le_trans I.ok.vE z)) (Nat.lt_irrefl _)
 ·rcases List.mem_cons.mp (I.dX b hs) with z | z
  ·exact (hf b hb).2.1 z
  ·exact (hf b hb).2.2.1 z
theorem vq {scope:Scope} {N:List Str} {cp:List Nat} {n:Nat} {fp:List Addr} {C D:Addr} {h1:Heap} {t1:Nat} (S:gB X scope N cp n) (I:Inv X pins Z H s) (hf:∀ b∈fp,kG X pins H b) (FE:∀ b∈fp,b<s.heap.objs.size)
  (hD:D=s.heap.objs.size) (hC:C=s.heap.objs.size+1) {m:Str->Option Value} (hns:h1.Ns C m) (old:∀ b o, s.heap.get? b=some o->h1.get? b=some o) (hacc:h1.get? D=some { cls:=.type "list", data:=.seq ([]:List Value).toArray 0 }) :
  Inv (CQ X scope (scope.names.foldl (aH X.env) []) N fp s H C) [] (pP cp n Z) (upd H D (.lst [])) { s with heap:=h1,toks:=t1 }:=by
 have hex:∀ x,(x,NameKind.free)∈scope.names->∃ c,X.env.cells.lookup x=some c:=fun x hx=>I.ok.has x (S.free x hx)
 have hcl:∀ x c,(scope.names.foldl (aH X.env) []).lookup x=some c->X.env.cells.lookup x=some c:=fun x c e=>by
  rcases nc scope.names [] (x,c) hex (PySem.mem_of_lookup e) with q | q
  ·cases q
  ·exact q
 have fD:H D=none:=I.hok.fresh (by rw [hD];exact Nat.le_refl _)
 have fC:H C=none:=I.hok.fresh (by rw [hC];exact Nat.le_succ _)
 have cellK:∀ x c v,X.env.cells.lookup x=some c->s.heap.IsCell c v->h1.IsCell c v:=fun x c v e ⟨o,ho,hd⟩=>⟨o,old c o ho,hd⟩
 refine ⟨Gs S I hf (by rw [hC];exact Nat.lt_succ_self _) FE,rfl,I.bare,?_,⟨m,hns,fun i x v e1 e2 e3=>?_⟩,fun x c e=>?_,?_,fun x c e=>?_,fun p hp=>absurd (show p∈([]:List (Addr×Obj)) from hp) (by simp),?_,?_⟩
 ·exact Un.laid (fun b u e=>old b u e) (by rw [hD];exact Nat.le_refl _) fD
 ·-- a JC name
  have hi:i<cp.length:=by
   by_cases hi:i<cp.length
   ·exact hi
   ·unfold pP at e2
    rw [List.getElem?_append_right (by simpa using hi),List.getElem?_replicate] at e2
    split at e2 <;> cases e2
  have hcp:cp[i]? = some cp[i]:=List.getElem?_eq_getElem hi
  obtain ⟨hX,hfr⟩:=S.cap i cp[i] x e1 hcp
  have e2':Z[cp[i]]? = some (some v):=by
   unfold pP at e2
   rw [List.getElem?_append_left (by simpa using hi),List.getElem?_map,hcp] at e2
   simp only [Option.map_some,Option.some.injEq] at e2
   cases q:Z[cp[i]]? with
   | none=>rw [q] at e2;cases e2
   | some o=>rw [q] at e2;simp only [Option.join_some] at e2;rw [e2]
  have hmem:=PySem.mem_of_lookup hfr
  have hk:=S.free x hmem
  obtain ⟨m0,_,hl⟩:=I.loc
  obtain ⟨u,r,lk⟩:=hl cp[i] x v hX e2' (by rcases hk with q | q;exact .inr (.inl q);exact .inr (.inr q))
  refine ⟨u,r,.inr ⟨?_,?_⟩⟩
  ·show (relabel scope X.env).names.lookup x=some .cell\/(relabel scope X.env).names.lookup x=some .free
   unfold relabel
   dsimp only
   rw [cO,hfr]
   simp only [Option.map_some]
   split
   ·exact .inl rfl
   ·exact .inr rfl
  ·obtain ⟨c,hc⟩:=rC (env:=X.env) scope.names [] x hmem
   obtain ⟨d,hd⟩:=dz hc
   refine ⟨d,hd,?_⟩
   rcases lk with ⟨k,_⟩ | ⟨_,c',hc',z⟩
   ·rcases hk with q | q <;> (rw [q] at k;cases k)
   ·have:=hcl x d hd
    rw [hc'] at this;cases this
    exact cellK x d _ hc' z
 ·obtain ⟨v,z⟩:=I.cell x c (hcl x c e)
  exact ⟨v,cellK x c v (hcl x c e) z⟩
 ·show upd H D (.lst []) C=none
  rw [ao (by rw [hC,hD];exact Nat.succ_ne_self _)];exact fC
 ·show upd H D (.lst []) c=none
  rw [ao (ne_of_lt' (I.cell x c (hcl x c e)) hD)]
  exact I.b8 x c (hcl x c e)
 ·exact I.hok.laid old (by rw [hD];exact Nat.le_refl _) ⟨Nat.zero_le _,[],0,.nil,hacc⟩
 ·unfold pP
  show _=N.length
  rw [List.length_append,List.length_map,List.length_replicate,S.len]
where
 ne_of_lt' {h:Heap} {c D:Addr} (z:∃ v,h.IsCell c v) (hD:D=h.objs.size):c≠D:=by
  obtain ⟨v,q⟩:=z
  rw [hD]
  exact Nat.ne_of_lt q.lt
variable {elt tg iter:Expr} {ifs:List Expr} {scope:Scope} {pos ppos:Pos} {wi:TI} {g:TG} {tc:St->TT} {te:St->TE} {Ex:XS} {cp:List Nat} {n:Nat} {N:List Str}
theorem lK {use:Option (Value->Sem Unit)} {Q':Value->Shared->Prop} {Q:VK} (hc:X.calm=true) (S:gB X scope N cp n) (hi:PI X tg iter wi)
  (hfr:pV X) (hx:∀ e s,i7 X Ex e s->X.xe e s) (hb:∀ Z cl fp s H C,PG (dS X scope cl N fp s H C fun cv x H'=>Ex cv x Z H') tg g/\GQ (dS X scope cl N fp s H C fun cv x H'=>Ex cv x Z H') ifs (tc Z)/\PE (dS X scope cl N fp s H C fun cv x H'=>Ex cv x Z H') elt (te Z)) (hs:∀ x,foldedSetIterable iter X.env x=pure x)
  (I:Inv X pins Z H s) (h:rS wi g tc te cp n Z H Q)
  (fin:∀ s' C D H' f,Inv X pins Z H' s'->kG X pins H' C->(∃ m,s'.heap.Ns C m)->Q (.ref D) H'->compPost (model X.prog X.w) X.A X.xe use Q' (.ref D) C (.ok f) s') :
  wpAny (model X.prog X.w) X.A (comprehension (.ListComp elt [⟨tg,iter,ifs,0⟩] scope pos) scope X.env ppos (newList []) false (eval iter X.env) use) Q' X.xe s:=by
 have hex:∀ x,(x,NameKind.free)∈scope.names->∃ c,X.env.cells.lookup x=some c:=fun x hx=>I.ok.has x (S.free x hx)
 refine wpAny_comprehension_free rfl hs (rB hex) S.kind S.names (aY (hi pins s Z H _ I h) fun v s1 h1=>aY h1 fun itv s2 h2=>?_)
 obtain ⟨it,fp,tn,J,H2,e,I2,T,st2,f2,hW⟩:=h2
 subst e
 refine wpAny_newObj_type (wpAny_newFunctionEnv S.cell (by intro y hy;simp at hy) (fun h₁ qM mK=>?_) S.kind)
 dsimp only at qM mK ⊢
 generalize hH2:s2.heap.push { cls:=.type "list", dict:=none, data:=.seq ([]:List Value).toArray }=G at qM mK ⊢
 have hC:G.objs.size=s2.heap.objs.size+1:=by rw [<- hH2,Heap.size_push]
 have FE:∀ b∈fp,b<s2.heap.objs.size:=fun b hb=>by
  obtain ⟨o,e,_⟩:=T.obj _ _ st2 b hb
  exact Heap.lt_size e
 have hDC:s2.heap.objs.size≠G.objs.size:=by rw [hC];exact Nat.ne_of_lt (Nat.lt_succ_self _)
 have old:∀ b o,s2.heap.get? b=some o->h₁.get? b=some o:=fun b o e=>mK.extBut b o (by rw [hC];exact Nat.ne_of_lt (Nat.lt_succ_of_lt (Heap.lt_size e))) (Heap.get?_push_of_some _ (hH2 ▸ Heap.get?_push_of_some _ e))
 have hacc:h₁.get? s2.heap.objs.size=some { cls:=.type "list", data:=.seq ([]:List Value).toArray 0 }:=mK.extBut _ _ hDC (Heap.get?_push_of_some _ (hH2 ▸ Heap.get?_push_size _ rfl))
 have st1:tn 0 h₁:=T.keep _ _ _ st2 fun b hb o e=>old b o e
 obtain ⟨W,⟨m0,w0⟩,turn⟩:=hW s2.heap.objs.size (I2.hok.fresh (Nat.le_refl _))
 have I0':=vq (t1:=s2.toks+([]:List (Str×Value)).length) S I2 f2 FE rfl hC qM old hacc
 have I0:=I0'.bH (i7 (CQ X scope (scope.names.foldl (aH X.env) []) N fp s2 H2 G.objs.size) fun cv x _ H'=>Ex cv x Z H')
 obtain ⟨hg,ht,he⟩:=hb Z (scope.names.foldl (aH X.env) []) fp s2 H2 G.objs.size
 have fp0:∀ b∈fp,upd H2 s2.heap.objs.size (.lst []) b=none:=fun b hb=>by rw [ao (Nat.ne_of_lt (FE b hb))];exact (f2 b hb).1
 have hex':∀ x c,(scope.names.foldl (aH X.env) []).lookup x=some c->X.env.cells.lookup x=some c:=fun x c e=>by
  rcases nc scope.names [] (x,c) hex (PySem.mem_of_lookup e) with q | q
  ·cases q
  ·exact q
 have stat:∀ {H':Hp},(∀ b∈fp,H' b=none)->∀ b∈fp,kG (dS X scope (scope.names.foldl (aH X.env) []) N fp s2 H2 G.objs.size (fun cv x H'=>Ex cv x Z H')) [] H' b:=fun {H'} hn b hb =>
  ⟨hn b hb,Nat.ne_of_lt (Nat.lt_trans (FE b hb) (by rw [hC];exact Nat.lt_succ_self _)),fun z=>(List.mem_cons.mp (I2.dX b z)).elim (f2 b hb).2.1 (f2 b hb).2.2.1,.inl hb,fun x c e=>(f2 b hb).2.2.2.2.1 x c (hex' x c e),fun p hp=>absurd (show p∈([]:List (Addr×Obj)) from hp) (by simp)⟩
 have loop:∀ s3:Shared,s3={ s2 with heap:=h₁,toks:=s2.toks+([]:List (Str×Value)).length }->codeAny (model X.prog X.w) X.A (.compLoop (.ListComp elt [⟨tg,iter,ifs,0⟩] scope pos) 0 (.ref it) (.ref s2.heap.objs.size) (compEnvC scope (scope.names.foldl (aH X.env) []) G.objs.size X.env))
   (compPost (model X.prog X.w) X.A X.xe use Q' (.ref s2.heap.objs.size) G.objs.size) s3:=by
  rintro s3 rfl
  refine fY (fun n s'=>∃ i Z' H',Inv (dS X scope (scope.names.foldl (aH X.env) []) N fp s2 H2 G.objs.size (fun cv x H'=>Ex cv x Z H')) [] Z' H' s'/\tn i s'.heap/\(∀ b∈fp,H' b=none)/\W i n Z' H') (i7 (CQ X scope (scope.names.foldl (aH X.env) []) N fp s2 H2 G.objs.size) fun cv x _ H'=>Ex cv x Z H') ?hE ?_ m0 ⟨0,_,_,I0,st1,fp0,w0⟩
  case hE =>
   rintro e s3 ⟨pins3,Z3,H3,a,a0,cv,B,rfl,I3,up,eZ,_,q⟩
   obtain ⟨kL,mj,L,hst,FF,Ks⟩:=hfr
   show wpAny (model X.prog X.w) X.A (noteFrame (.ref a) _) _ _ s3
   rw [mz (env:=compEnvC scope (scope.names.foldl (aH X.env) []) G.objs.size X.env) (env':=kL) (Ks.trans FF.symm)]
   have up':Up B (kL::mj) a cv a0 s3.heap:=by rw [<- hst];exact up
   refine up'.note (by rw [I.ok.frames,hst]) FF fun h4 held vW=>?_
   obtain ⟨m,hm,_⟩:=id I3.loc
   have hcC:G.objs.size∉frs X.stack:=fun z=>by
    rcases List.mem_cons.mp (I2.dX _ z) with e | z
    ·have z:=I2.lt
     rw [<- e,hC] at z
     exact absurd z (Nat.not_lt.mpr (Nat.le_succ _))
    ·exact I2.Iq (by rw [hC];exact Nat.le_succ _) z
   refine ⟨m,vW.ns hm,fun h5 sb5 cenv _=>?_⟩
   have hm4:=vW.ns hm
   have upH:Up B X.stack a cv a0 h4:=by rw [hst];exact .sN held
   have C5:=upH.hide sb5 (by
    obtain ⟨o,es,ep,ho,hd,_⟩:=hm4
    exact ⟨o,ho,fun vs z=>by rw [hd] at z;cases z⟩) hcC
   refine C5.pass fun h6 up6 sm6=>hx _ _ ?_
   have i8:(B.hide G.objs.size).StaysIn s3.heap:=fun b o e=>up.1 b o (Heap.of_hide e)
   have BA:Calm (B.hide G.objs.size) (frs X.stack) fp H3 s2.heap:=fun b hb hf=>by
    obtain ⟨o,e⟩:=eZ b hb hf
    refine ⟨o,?_⟩
    rw [Heap.hide_ne]
    ·exact e
    ·rintro rfl
     rcases hb with hb | ⟨⟨o',hb⟩,_⟩
     ·exact hb I3.free
     ·have z:=Heap.lt_size hb
      rw [hC] at z
      exact absurd z (Nat.not_lt.mpr (Nat.le_succ _))
   have fru:∀ b∈frs X.stack,∀ o,s3.heap.get? b=some o->∃ sl,h6.get? b=some { o with slots:=sl }:=fun b hb o e=>by
    have hd:=oY I3 b hb o e
    obtain ⟨sl,e4⟩:=vW b o e hd
    have e5:h5.get? b=some { o with slots:=sl }:=by rw [sb5.2 b (by rintro rfl;exact hcC hb)];exact e4
    obtain ⟨B6,e6⟩:=sm6 b _ e5 hd
    exact ⟨B6,e6⟩
   have un6:=mP I3.base BA i8 up6.1 fru (fun b hb _=>hb)
   have hok6:=jl I3.hok BA i8 up6.1 I3.fL
   have J:=I2.yJ (s':={ s3 with heap:=h6 }) I3.os un6 hok6 I3.bare fun b hb=>⟨(f2 b hb).2.2.2.1,(f2 b hb).2.1,(f2 b hb).2.2.2.2.1,(f2 b hb).2.2.2.2.2⟩
   have calX:Calm (B.hide G.objs.size) (frs X.stack) X.ex H3 X.s₀.heap:=by
    intro b hb hf
    refine BA b ?_ hf
    rcases hb with hb | ⟨⟨o,z⟩,nx⟩
    ·exact .inl hb
    ·refine .inr ⟨fO I2 z nx,fun zf=>?_⟩
     rcases (f2 b zf).2.2.2.1 with y | y
     ·exact nx y
     ·exact absurd (Nat.lt_of_lt_of_le (Heap.lt_size z) y) (Nat.lt_irrefl _)
   have pnX:∀ p∈X.pn,(B.hide G.objs.size).get? p.1=some p.2:=by
    intro p hp
    obtain ⟨p1,p2,p3,p4,_⟩:=I2.pin p (List.mem_append_left _ hp)
    have pf:p.1∉fp:=fun z=>(f2 _ z).2.2.2.2.2 p (List.mem_append_left _ hp) rfl
    have ps:p.1∉frs X.stack:=fun z=>by
     rcases List.mem_cons.mp (I2.dX _ z) with e | z
     ·exact p3 e
     ·exact p4 z
    exact BA.at i8 (I3.base.keep p.1 p.2 p1 p2 ps pf) (.inr ⟨⟨_,p1⟩,pf⟩) ps
   exact ⟨pins,Z,H3,a,a0,cv,B.hide G.objs.size,rfl,J,up6,calX,pnX,q⟩
  rintro n s3 ⟨i,Z3,H3,I3,st3,Jb,w3⟩
  rcases turn i n Z3 H3 w3 with ⟨stop,qn⟩ | ⟨go,step⟩
  ·refine aY (T.done (dS X scope (scope.names.foldl (aH X.env) []) N fp s2 H2 G.objs.size (fun cv x H'=>Ex cv x Z H')) rfl rfl rfl hc i [] s3 Z3 H3 _ I3 (stat Jb) st3 stop) fun r s4 ⟨hr,I4⟩=>?_
   subst hr
   refine fin s4 _ _ H3 _ (I2.yJ I4.os I4.base I4.hok I4.bare fun b hb=>⟨(f2 b hb).2.2.2.1,(f2 b hb).2.1,(f2 b hb).2.2.2.2.1,(f2 b hb).2.2.2.2.2⟩) (I2.vd (by rw [hC];exact Nat.le_succ _) I4.free) ?_ qn
   obtain ⟨m,hm,_⟩:=I4.loc
   exact ⟨m,hm⟩
  ·refine aY (T.item (dS X scope (scope.names.foldl (aH X.env) []) N fp s2 H2 G.objs.size (fun cv x H'=>Ex cv x Z H')) rfl rfl rfl hc i [] s3 Z3 H3 _ I3 (stat Jb) st3 go) fun r s4 ⟨u,hr,h4⟩=>?_
   subst hr
   refine aY h4 fun _ s5 ⟨x,H5,I5,r5,y5,Dh,fr5⟩=>?_
   have I5':=I5.pinned (stat fr5) (T.obj _ _ Dh)
   refine aY (hg _ s5 Z3 H5 x u _ I5' r5 (step x H5 y5)) fun _ s6 ⟨Z6,H6,I6,q6⟩=>?_
   refine aY (ht _ s6 Z6 H6 _ I6 q6) fun ok s7 ⟨H7,I7,q7⟩=>?_
   have again:∀ {Z8:St} {H8:Hp} {s8:Shared} {m':Nat},Inv (dS X scope (scope.names.foldl (aH X.env) []) N fp s2 H2 G.objs.size (fun cv x H'=>Ex cv x Z H')) ([]++jG fp s5.heap) Z8 H8 s8->m'<n->W (i+1) m' Z8 H8 ->
     ∃ m,m<n/\∃ i Z' H',Inv (dS X scope (scope.names.foldl (aH X.env) []) N fp s2 H2 G.objs.size (fun cv x H'=>Ex cv x Z H')) [] Z' H' s8/\tn i s8.heap/\(∀ b∈fp,H' b=none)/\W i m Z' H':=fun {Z8 H8 s8 m'} I8 hm w8=>by
    refine ⟨m',hm,i+1,Z8,H8,I8.gC,T.keep _ _ _ Dh fun b hb o e=>(I8.pin (b,o) (List.mem_append_right _ (List.mem_append_right _ (d7 hb e)))).1,fun b hb=>?_,w8⟩
    obtain ⟨o,e,d⟩:=T.obj _ _ Dh b hb
    exact (I8.pin (b,o) (List.mem_append_right _ (List.mem_append_right _ (d7 hb e)))).2.1
   cases ok with
   | false =>
    rw [if_neg Bool.false_ne_true] at q7 ⊢
    obtain ⟨m',hm,w7⟩:=q7
    exact again I7 hm w7
   | true =>
    rw [if_pos rfl] at q7 ⊢
    refine aY (he _ s7 Z6 H7 _ I7 q7) fun xv s8 ⟨v,H8,I8,r8,ys,hy,hz,m',hm,w8⟩=>?_
    refine aY (lz (X:=(dS X scope (scope.names.foldl (aH X.env) []) N fp s2 H2 G.objs.size (fun cv x H'=>Ex cv x Z H'))) _ s8 Z6 H8 (.ref s2.heap.objs.size) [v] (.ref s2.heap.objs.size) [xv] (fun _ H'=>H'=upd H8 s2.heap.objs.size (.lst (ys++[v]))) I8 rfl (.cons r8 .nil) ⟨_,ys,v,rfl,rfl,hy,hz,rfl⟩) fun a s9 ⟨_,H9,I9,_,e9⟩=>?_
    subst e9
    exact again I9 hm w8
 exact codeAny_compStart_list (loop _ rfl) (T.self X.A 0 _ _ _ st1 (loop _ rfl))
theorem Aq (hc:X.calm=true) (S:gB X scope N cp n) (hi:PI X tg iter wi)
  (hfr:pV X) (hx:∀ e s,i7 X Ex e s->X.xe e s) (hb:∀ Z cl fp s H C,PG (dS X scope cl N fp s H C fun cv x H'=>Ex cv x Z H') tg g/\GQ (dS X scope cl N fp s H C fun cv x H'=>Ex cv x Z H') ifs (tc Z)/\PE (dS X scope cl N fp s H C fun cv x H'=>Ex cv x Z H') elt (te Z)) (hs:∀ x,foldedSetIterable iter X.env x=pure x) :
  PE X (.ListComp elt [⟨tg,iter,ifs,0⟩] scope pos) (rS wi g tc te cp n):=by
 intro pins s Z H Q I h
 rw [eval_ListComp]
 refine lK (use:=none) hc S hi hfr hx hb hs I h fun s' C D H' f I' fC ⟨m,hm⟩ q=>⟨m,hm,fun h' hs'=>?_⟩
 exact ⟨.ref D,H',I'.turned (fun b o hb e=>(hs'.2 b hb).trans e) fC.1 fC.2.1 fC.2.2.2.1 fC.2.2.2.2.1 fC.2.2.2.2.2,rfl,q⟩
theorem Ae {i:Nat} {y:Str} {py spos:Pos} (hN:X.N.Nodup) (hy:X.N[i]? = some y) (hk:X.env.scope.names.lookup y=some .local) (hc:X.calm=true) (S:gB X scope N cp n) (hi:PI X tg iter wi)
  (hfr:pV X) (hx:∀ e s,i7 X Ex e s->X.xe e s) (hb:∀ Z cl fp s H C,PG (dS X scope cl N fp s H C fun cv x H'=>Ex cv x Z H') tg g/\GQ (dS X scope cl N fp s H C fun cv x H'=>Ex cv x Z H') ifs (tc Z)/\PE (dS X scope cl N fp s H C fun cv x H'=>Ex cv x Z H') elt (te Z)) (hs:∀ x,foldedSetIterable iter X.env x=pure x)
  (hsw:swapsWith (.ListComp elt [⟨tg,iter,ifs,0⟩] scope pos) (some (.Name y py)) spos.line X.env=pure true) :
  PS X (.Assign [.Name y py] (.ListComp elt [⟨tg,iter,ifs,0⟩] scope pos) spos) (vN (rS wi g tc te cp n) (j0 i)):=by
 intro pins s Z H Dn I h
 rw [exec_Assign_Name_used _ _ _ _ hsw]
 refine wpAny_bind (wpAny_standAt (wpAny_bind ?_))
 show wpAny _ X.A (do let _ <- comprehension (.ListComp elt [⟨tg,iter,ifs,0⟩] scope pos) scope X.env _ (newList []) false (eval iter X.env) (some (assign (.Name y py) X.env))) _ _ s
 refine wpAny_bind (wpAny_mono (lK (use:=some (assign (.Name y py) X.env)) (Q':=fun _ s'=>SP X pins Dn .next s') hc S hi hfr hx hb hs I h fun s' C D H' f I' fC ⟨m,hm⟩ q=>?_) (fun _ s' hq=>wpAny_pure (wpAny_pure hq)) fun _ _ e=>e)
 show wpAny _ X.A (assign (.Name y py) X.env (.ref D)) _ _ s'
 refine wpAny_assign_Name (kW I' hN hy (.inl hk) (v:=.ref D) rfl (fun s2 I2 ⟨a,hsb,ha⟩=>?_) (.inr hk))
 have hCa:C≠a:=by
  rcases ha with rfl | ha
  ·exact fC.2.1
  ·exact fun z=>fC.2.2.2.2.1 _ _ ha z.symm
 refine ⟨m,hm.sameBut hsb hCa,fun h' hs'=>⟨_,H',I2.turned (fun b o hb e=>(hs'.2 b hb).trans e) fC.1 fC.2.1 fC.2.2.2.1 fC.2.2.2.2.1 fC.2.2.2.2.2,q⟩⟩
end
end Fg
end
section
namespace Fg
open PySem L2
noncomputable def JU (a:Addr) (o:Obj) (kvs:List (Key×V)):It :=
 ⟨fun i H=>H a=some (.fQ o (.dK kvs))/\i<kvs.length,fun i H x H'=>H'=H/\∃ kv,kvs[i]? = some kv/\x=kV kv.1,fun i H=>H a=some (.fQ o (.dK kvs))/\kvs.length<=i⟩
noncomputable def IV (B:Bd) (th:Addr->Prop) (tl:TE):TI:=fun Z H R=>tl Z H fun x H1 =>
 (∃ a,x=.ref a/\(∃ xs,fc B.K H1 a xs)/\R (Itl B.K a) H1)\/(∃ a,x=.ref a/\(∃ xs,iO B.K H1 a xs)/\R (Itt B.K a) H1) \/
 (∃ a kvs,x=.ref a/\H1 a=some (.dK kvs)/\∀ o,th a->R (JU a o kvs) (upd H1 a (.fQ o (.dK kvs)))) \/
 (∃ a o kvs,x=.ref a/\H1 a=some (.fQ o (.dK kvs))/\R (JU a o kvs) H1)
section
variable {B:Bd} {Φ:aQ} {E:Gx} {F F' F0 F1:Addr->Prop} {ρ ρ' ρ0 ρ1:List Addr} {H H' H0 H1:Hp} {M M' M0:MH} {ZD:Sg} {Z:L2.St} {Q:VK} {Dn:Ends}
theorem kO {a:Addr} {src:D} {ds:List D} (h:∀ F ρ M H,Ext F0 ρ0 H0 F ρ H->SR B F ρ M H->aO M0 src M=true->∃ vs,fc B.K H a vs/\aj B F ρ H ds vs):Walks B (Itl B.K a) src ds F0 ρ0 M0 H0:=by
 intro i F ρ M H e S st
 obtain ⟨vs,q,rd⟩:=h F ρ M H e S st
 refine ⟨fun d hd=>?_,fun hl=>⟨vs,q,by rw [<- aj.length rd];exact hl⟩⟩
 obtain ⟨v,hv,rv⟩:=aj.get rd hd
 refine ⟨⟨vs,v,q,hv⟩,fun x H' ⟨e',hy⟩=>?_⟩
 subst e'
 have z:=hy vs q
 rw [hv] at z;cases z
 exact ⟨F,S.refl,S,rv⟩
theorem uu {a:Addr} {src:D} {ds:List D} (h:∀ F ρ M H,Ext F0 ρ0 H0 F ρ H->SR B F ρ M H->aO M0 src M=true->∃ vs,iO B.K H a vs/\aj B F ρ H ds vs):Walks B (Itt B.K a) src ds F0 ρ0 M0 H0:=by
 intro i F ρ M H e S st
 obtain ⟨vs,q,rd⟩:=h F ρ M H e S st
 refine ⟨fun d hd=>?_,fun hl=>⟨vs,q,by rw [<- aj.length rd];exact hl⟩⟩
 obtain ⟨v,hv,rv⟩:=aj.get rd hd
 refine ⟨⟨vs,v,q,hv⟩,fun x H' ⟨e',hy⟩=>?_⟩
 subst e'
 have z:=hy vs q
 rw [hv] at z;cases z
 exact ⟨F,S.refl,S,rv⟩
theorem EM {k:Key}:RD B F ρ H (Kh k) (kV k):=by cases k <;> simp only [Kh,kV,RD]
theorem kP {a:Addr} {o:Obj} {src:D} {dH:List (Ky×D)} {kws:List (Key×V)} (hz:H0 a=some (.fQ o (.dK kws))) (hk:kws.map (·.1)=dH.map (·.1)):Walks B (JU a o kws) src (dH.map fun kv=>Kh kv.1) F0 ρ0 M0 H0:=by
 intro i F ρ M H e S st
 have hl:kws.length=dH.length:=by have:=congrArg List.length hk;simpa using this
 have hH:=e.z a o _ hz
 refine ⟨fun d hd=>?_,fun hi=>⟨hH,by rw [hl];simpa using hi⟩⟩
 rw [List.getElem?_map] at hd
 cases hx:dH[i]? with
 | none=>rw [hx] at hd;cases hd
 | some kd =>
  rw [hx] at hd
  simp only [Option.map_some,Option.some.injEq] at hd
  subst hd
  obtain ⟨hi,_⟩:=List.getElem?_eq_some_iff.mp hx
  refine ⟨⟨hH,by rw [hl];exact hi⟩,fun x H' ⟨e',kw,hkw,hx'⟩=>?_⟩
  subst e' hx'
  have e1:(kws.map (·.1))[i]? = some kw.1:=by rw [List.getElem?_map,hkw];rfl
  rw [hk,List.getElem?_map,hx] at e1
  simp only [Option.map_some,Option.some.injEq] at e1
  rw [<- e1]
  exact ⟨F,S.refl,S,EM⟩
theorem Ds {a:Fg.E} {Rr:It->Hp->Prop} (h:CV B Φ E (.e a) Z H Rr):IV B E.th (T B Φ E a) Z H Rr:=by
 obtain ⟨ZD,M,F,ρ,S,r,h⟩:=h
 refine ⟨ZD,M,F,ρ,S,r,?_⟩
 cases hx:ev Φ a ZD M with
 | exc c M1 =>
  have he:bQ Φ (.e a) ZD M=.exc c M1:=by simp only [bQ,hx,R.ku]
  rw [he] at h;exact h
 | bad =>
  have he:bQ Φ (.e a) ZD M=.bad:=by simp only [bQ,hx,R.g9]
  rw [he] at h;exact h
 | ok d M1 =>
  intro F1 ρ1 H1 v e1 S1 rd
  cases hi:itemsOf M1 d with
  | none =>
   have he:bQ Φ (.e a) ZD M=.bad:=by simp only [bQ,hx,R.af,hi]
   rw [he] at h;exact h.elim
  | some ds =>
   have he:bQ Φ (.e a) ZD M=.ok (d,ds,wk M1 d) (walk M1 d):=by simp only [bQ,hx,R.af,hi]
   rw [he] at h
   cases d with
   | ak=>simp [itemsOf,vw] at hi
   | bl _=>simp [itemsOf,vw] at hi
   | int _=>simp [itemsOf,vw] at hi
   | str _=>simp [itemsOf] at hi
   | dct _ _=>simp [itemsOf] at hi
   | lst xs =>
    simp only [itemsOf,vw,Option.some.injEq] at hi;subst hi
    simp only [RD] at rd
    obtain ⟨b,vs,rfl,z,q⟩:=id rd
    refine .inl ⟨b,rfl,⟨vs,z.sq⟩,h F1 ρ1 H1 _ e1 S1 fun M' eq S'=>⟨?_,fun z=>by simp [wk] at z⟩⟩
    refine kO fun F ρ M H e S st=>?_
    have HC:=RD.mono e (.lst xs) (.ref b) (by simp only [RD];exact rd)
    simp only [RD] at HC
    obtain ⟨b',vs',eb,z',q'⟩:=HC
    cases eb
    exact ⟨vs',z'.sq,q'⟩
   | tup xs =>
    simp only [itemsOf,vw,Option.some.injEq] at hi;subst hi
    simp only [RD] at rd
    obtain ⟨b,vs,rfl,z,q⟩:=id rd
    refine .inr (.inl ⟨b,rfl,⟨vs,z.sq⟩,h F1 ρ1 H1 _ e1 S1 fun M' eq S'=>⟨?_,fun z=>by simp [wk] at z⟩⟩)
    refine uu fun F ρ M H e S st=>?_
    have HC:=RD.mono e (.tup xs) (.ref b) (by simp only [RD];exact rd)
    simp only [RD] at HC
    obtain ⟨b',vs',eb,z',q'⟩:=HC
    cases eb
    exact ⟨vs',z'.sq,q'⟩
   | ref n =>
    simp only [RD] at rd
    obtain ⟨b,hb,rfl⟩:=rd
    cases hM:M1[n]? with
    | none=>simp [itemsOf,vw,hM] at hi
    | some o =>
     cases o with
     | ins _ _=>simp [itemsOf,vw,hM] at hi
     | lst xs =>
      simp only [itemsOf,vw,hM,Option.some.injEq] at hi;subst hi
      have hw:walk M1 (.ref n)=M1:=by simp only [walk,hM]
      have hk:wk M1 (.ref n)=false:=by simp only [wk,hM]
      rw [hw,hk] at h
      obtain ⟨vs,h1,q⟩:=S1.obj n b _ hb hM
      refine .inl ⟨b,rfl,⟨vs,.inl (.inl h1)⟩,h F1 ρ1 H1 _ e1 S1 fun M' eq S'=>⟨?_,fun z=>by simp at z⟩⟩
      injection eq with eq1 eq2
      subst eq2
      refine kO fun F ρ M H e S st=>?_
      simp only [aO,decide_eq_true_eq] at st
      obtain ⟨vs',h1',q'⟩:=S.obj n b _ (e.at hb) (st.trans hM)
      exact ⟨vs',.inl (.inl h1'),q'⟩
     | dct dH =>
      simp only [itemsOf,vw,hM,Option.some.injEq] at hi;subst hi
      have hw:walk M1 (.ref n)=M1.set n (.nE dH):=by simp only [walk,hM]
      have hk:wk M1 (.ref n)=true:=by simp only [wk,hM]
      rw [hw,hk] at h
      obtain ⟨kws,h1,h2,q⟩:=S1.obj n b _ hb hM
      refine .inr (.inr (.inl ⟨b,kws,rfl,h1,fun ob hth=>?_⟩))
      obtain ⟨S2,e2⟩:=S1.wk ob hb hM h1
      refine h F1 ρ1 _ _ (e1.trans e2) S2 fun M' eq S'=>⟨kP ay h2,fun _=>⟨n,b,rfl,hb,hth,fun w v z=>?_⟩⟩
      have:=e1.z b w v z
      rw [h1] at this;cases this
     | nE dH =>
      simp only [itemsOf,vw,hM,Option.some.injEq] at hi;subst hi
      have hw:walk M1 (.ref n)=M1:=by simp only [walk,hM]
      have hk:wk M1 (.ref n)=false:=by simp only [wk,hM]
      rw [hw,hk] at h
      obtain ⟨ob,kws,h1,h2,q⟩:=S1.obj n b _ hb hM
      exact .inr (.inr (.inr ⟨b,ob,kws,rfl,h1,h F1 ρ1 H1 _ e1 S1 fun M' eq S'=>⟨kP h1 h2,fun z=>by simp at z⟩⟩))
theorem uv {lo:Int} {n:Nat} {src:D}:Walks B (K1 lo n) src ((List.range n).map fun (i:Nat)=>D.int (lo+(i:Int))) F0 ρ0 M0 H0:=by
 intro i F ρ M H e S st
 refine ⟨fun d hd=>?_,fun hi=>(show n<=i by simpa using hi)⟩
 have hi:i<n:=by
  obtain ⟨q,_⟩:=List.getElem?_eq_some_iff.mp hd
  simpa using q
 refine ⟨hi,fun x H' ⟨e',hx⟩=>?_⟩
 subst e' hx
 simp [hi] at hd
 subst hd
 exact ⟨F,S.refl,S,by simp only [RD]⟩
theorem Im {j:Int} (h:oB j=true):-(2 ^ 62)<=j/\j<2 ^ 62:=by
 simp only [oB,decide_eq_true_eq] at h;omega
theorem zK {a:Fg.E} {Rr:It->Hp->Prop} (h:CV B Φ E (.eF a) Z H Rr):Cw (jy (T B Φ E a) lU) Z H Rr:=by
 obtain ⟨ZD,M,F,ρ,S,r,h⟩:=h
 refine ⟨ZD,M,F,ρ,S,r,?_⟩
 cases hx:ev Φ a ZD M with
 | exc c M1 =>
  have he:bQ Φ (.eF a) ZD M=.exc c M1:=by simp only [bQ,hx,R.ku]
  rw [he] at h;exact h
 | bad =>
  have he:bQ Φ (.eF a) ZD M=.bad:=by simp only [bQ,hx,R.g9]
  rw [he] at h;exact h
 | ok d M1 =>
  intro F1 ρ1 H1 v e1 S1 rd
  cases d with
  | int j =>
   simp only [RD] at rd;subst rd
   cases hr:oB j with
   | false =>
    have he:bQ Φ (.eF a) ZD M=.bad:=by simp [bQ,hx,hr]
    rw [he] at h;exact h.elim
   | true =>
    have he:bQ Φ (.eF a) ZD M=.ok (.ak,dI 0 j,false) M1:=by simp [bQ,hx,hr]
    rw [he] at h
    obtain ⟨b1,b2⟩:=Im hr
    refine ⟨j,rfl,b1,b2,h F1 ρ1 H1 _ e1 S1 fun M' eq S'=>⟨?_,fun z=>by simp at z⟩⟩
    have q:dI 0 j=(List.range j.toNat).map fun (i:Nat)=>D.int (0+(i:Int)):=by simp [dI]
    dsimp only
    rw [q]
    exact uv
  | ak =>
   have he:bQ Φ (.eF a) ZD M=.bad:=by simp [bQ,hx]
   rw [he] at h;exact h.elim
  | bl _ =>
   have he:bQ Φ (.eF a) ZD M=.bad:=by simp [bQ,hx]
   rw [he] at h;exact h.elim
  | str _ =>
   have he:bQ Φ (.eF a) ZD M=.bad:=by simp [bQ,hx]
   rw [he] at h;exact h.elim
  | tup _ =>
   have he:bQ Φ (.eF a) ZD M=.bad:=by simp [bQ,hx]
   rw [he] at h;exact h.elim
  | lst _ =>
   have he:bQ Φ (.eF a) ZD M=.bad:=by simp [bQ,hx]
   rw [he] at h;exact h.elim
  | dct _ _ =>
   have he:bQ Φ (.eF a) ZD M=.bad:=by simp [bQ,hx]
   rw [he] at h;exact h.elim
  | ref _ =>
   have he:bQ Φ (.eF a) ZD M=.bad:=by simp [bQ,hx]
   rw [he] at h;exact h.elim
end
end Fg
end
section
namespace Fg
open PySem L2
noncomputable def EB (E:Gx) (Z:L2.St):Gx:=⟨fun cv x _ H=>E.e cv x Z H,fun _=>False,fun cv x _ H H' t h=>by
 rcases t with rfl | ⟨_,_,_,z,_⟩
 ·exact h
 ·exact z.elim⟩
noncomputable def TBo (B:Bd) (Φ:aQ) (E:Gx):O->TT
 | .none=>fun _ H Q=>Q true H
 | .some e=>TB B Φ E e
section
variable {B:Bd} {Φ:aQ} {E:Gx} {F F' F0 F1:Addr->Prop} {ρ ρ' ρ0 ρ1:List Addr} {H H' H0 H1:Hp} {M M' M0:MH} {ZD:Sg} {Z:L2.St} {Q:VK} {Dn:Ends}
theorem Ext.fresh (S:SR B F ρ M H) {p:Addr} (h:H p=none) (o:HO):Ext F ρ H F ρ (upd H p o) :=
 ⟨⟨S.sep,fun _ q=>q,fun a q _=>ao (by rintro rfl;exact q h),List.prefix_refl _,fun _ q=>.inl q,fun _ q=>.inl q⟩,fun b w u q=>by rw [ao (by rintro rfl;rw [h] at q;cases q)];exact q⟩
theorem Ext.over (e:Ext F ρ H F' ρ' H') {p:Addr} (h:H p=none) (o:HO):Ext F ρ H F' ρ' (upd H' p o) :=
 ⟨⟨e.s,e.f,fun a q nb=>by rw [ao (by rintro rfl;exact q h)];exact e.h a q nb,e.r,e.n,e.g⟩,fun b w u q=>by rw [ao (by rintro rfl;rw [h] at q;cases q)];exact e.z b w u q⟩
theorem RS.cap (r:RS B F ρ H ZD Z) (caps:List Nat) (n:Nat):RS B F ρ H (iM ZD caps++List.replicate n none) (pP caps n Z):=by
 refine ⟨by simp [iM,pP],fun i d q=>?_⟩
 by_cases hi:i<caps.length
 ·have hc:caps[i]? = some caps[i]:=List.getElem?_eq_getElem hi
  rw [List.getElem?_append_left (by simpa [iM] using hi)] at q
  simp only [iM,List.getElem?_map,hc,Option.map_some,Option.some.injEq] at q
  cases hs:ZD[caps[i]]? with
  | none=>rw [hs] at q;cases q
  | some o =>
   rw [hs] at q
   simp only [Option.join_some] at q
   subst q
   obtain ⟨v,h1,h2⟩:=r.get _ _ hs
   refine ⟨v,?_,h2⟩
   unfold pP
   rw [List.getElem?_append_left (by simpa using hi),List.getElem?_map,hc]
   simp [h1]
 ·rw [List.getElem?_append_right (by simpa [iM] using Nat.le_of_not_lt hi),List.getElem?_replicate] at q
  split at q <;> cases q
theorem RS.aU (e:pX F ρ H F' ρ' H') (h:RS B F ρ H ZD Z):RS B F' ρ' H' ZD Z :=
 ⟨h.len,fun i d q=>let ⟨v,h1,h2⟩:=h.get i d q;⟨v,h1,RD.aU e d v h2⟩⟩
theorem nX {fz:Bool} {caps tg:List Nat} {elt:Fg.E} {it:Src} {cond:O} (h:T B Φ E (.comp fz caps tg elt it cond) Z H Q) :
  rS (CV B Φ E it) (GN tg B.K) (fun Z=>TBo B Φ (EB E Z) cond) (fun Z=>T B Φ (EB E Z) elt) caps tg.length Z H (fun v H'=>∃ rL,zg E.th H' rL/\Q v rL):=by
 obtain ⟨ZD,M,F,ρ,S,r,h⟩:=h
 simp only [ev] at h
 refine ⟨ZD,M,F,ρ,S,r,?_⟩
 cases hx:bQ Φ it ZD M with
 | exc c M1=>rw [hx] at h;exact h
 | bad=>rw [hx] at h;exact h
 | ok p M0 =>
  rw [hx] at h
  simp only [R.af] at h
  intro F0 ρ0 H0 J e0 S0 hw
  obtain ⟨W,wz⟩:=hw M0 rfl S0
  obtain ⟨src,ds,fl⟩:=p
  dsimp only at h W wz
  intro Da Kw
  obtain ⟨nD,nF⟩:=S0.new Kw
  have Kv:H Da=none:=by
   cases q:H Da with
   | none=>rfl
   | some u =>
    exfalso
    by_cases hr:Da∈ρ
    ·exact nD (e0.r.subset hr)
    ·have:=e0.h Da (by rw [q];simp) hr
     rw [Kw,q] at this;cases this
  let loop:=fun (i:Nat) (Z':Sg) (M':MH) (acc:List D)=>((bz (pB Φ cond) (ev Φ elt) tg (aO M0 src) (ds.drop i) Z' M' acc).fin (eO fl src)).bind fun ds M2=>bY fz ds M2
  let WW:Nat->Nat->L2.St->Hp->Prop:=fun i m Z' H'=>m+i=ds.length/\∃ (ZD':Sg) (M1:MH) (F1:Addr->Prop) (ρ1:List Addr) (acc:List D) (vs:List V),Ext F ρ H F1 ρ1 H'/\Ext F0 ρ0 H0 F1 ρ1 H'/\SR B F1 ρ1 M1 H'/\RS B F1 ρ1 H' ZD' Z'/\aO M0 src M1=true/\Da∉ρ1/\¬ F1 Da/\H' Da=some (.lst vs)/\aj B F1 ρ1 H' acc vs /\
   Post B (loop i ZD' M1 acc) F ρ H Q (fun cv x H'=>E.e cv x Z H')
  have x0:=pX.side (ρ:=ρ0) (H:=H0) nF (.lst [])
  refine ⟨WW,⟨ds.length,by simp,_,M0,F0,ρ0,[],[],e0.over Kv _,Ext.fresh S0 Kw _,S0.side nD nF _,((r.mono e0).cap caps tg.length).aU x0,?_,nD,nF,ay,aj.nil,h⟩,?_⟩
  ·unfold aO;split <;> simp
  rintro i m Z1 H1 ⟨hm,KW,M1,F1,ρ1,acc,vs,eo,e1,S1,r1,st1,d1,f1,Kz,ra,p1⟩
  obtain ⟨wgo,wst⟩:=W i F1 ρ1 M1 H1 e1 S1 st1
  by_cases hi:i<ds.length
  ·have hd:ds.drop i=ds[i]::ds.drop (i+1):=List.drop_eq_getElem_cons hi
   simp only [loop] at p1
   rw [hd] at p1
   unfold bz at p1
   obtain ⟨go,yl⟩:=wgo ds[i] (List.getElem?_eq_getElem hi)
   refine .inr ⟨go,fun x H2 hy=>?_⟩
   obtain ⟨F2,e2,S2,rd⟩:=yl x H2 hy
   have keep:∀ {F3:Addr->Prop} {ρ3:List Addr} {H3:Hp},Ext F1 ρ1 H1 F3 ρ3 H3->Da∉ρ3/\¬ F3 Da/\H3 Da=some (.lst vs)/\aj B F3 ρ3 H3 acc vs:=fun {F3 ρ3 H3} e=>by
    have hne:H1 Da≠none:=by rw [Kz];simp
    refine ⟨fun z=>(e.n Da z).elim d1 hne,fun z=>?_,(e.h Da hne d1).trans Kz,aj.mono e _ _ ra⟩
    rcases e.g Da z with q | q | q
    ·exact f1 q
    ·exact hne q
    ·exact d1 q
   split at p1
   ·exact p1.elim
   ·rename_i Z2 hs
    refine jA (r1.mono e2) rd hs fun Z' r'=>?_
    have Jv:∀ {F3:Addr->Prop} {ρ3:List Addr} {H3:Hp} {M3:MH},Ext F1 ρ1 H1 F3 ρ3 H3->SR B F3 ρ3 M3 H3->RS B F3 ρ3 H3 Z2 Z' ->
      Post B ((((ev Φ elt Z2 M3).bind fun x M2=>if aO M0 src M2=true then (if decide (acc.length<line)=true then bz (pB Φ cond) (ev Φ elt) tg (aO M0 src) (ds.drop (i+1)) Z2 M2 (acc++[x]) else .bad) else .bad).fin (eO fl src)).bind fun ds M2=>bY fz ds M2) F ρ H Q (fun cv x H'=>E.e cv x Z H') ->
      T B Φ (EB E Z) elt Z' H3 fun v H5=>∃ ys,H5 Da=some (.lst ys)/\ys.length<sizeLine/\∃ m',m'<m/\WW (i+1) m' Z' (upd H5 Da (.lst (ys++[v]))):=by
     intro F3 ρ3 H3 M3 e3 S3 r3 p3
     refine ⟨Z2,M3,F3,ρ3,S3,r3,?_⟩
     cases hv:ev Φ elt Z2 M3 with
     | bad=>rw [hv] at p3;exact p3
     | exc c M4 =>
      rw [hv] at p3
      intro F4 ρ4 H4 cv x e4 S4 q4
      obtain ⟨H5,t5,S5,e5,x5⟩:=cL S4 ((eo.trans e3).trans e4) ((e1.trans e3).trans e4).r wz
      exact E.cl _ _ _ _ _ t5 (p3 F4 ρ4 H5 cv x e5 S5 q4)
     | ok d M4 =>
      rw [hv] at p3
      simp only [R.af] at p3
      intro F4 ρ4 H4 v e4 S4 q4
      split at p3
      ·rename_i hst
       split at p3
       ·rename_i hlt
        obtain ⟨k1,k2,k3,k4⟩:=keep (e3.trans e4)
        have hl4:=aj.length k4
        have x4:=pX.side (ρ:=ρ4) (H:=H4) k2 (.lst (vs++[v]))
        refine ⟨vs,k3,by rw [<- hl4];exact Nat.lt_of_lt_of_le (of_decide_eq_true hlt) bM,m-1,by omega,by omega,Z2,M4,F4,ρ4,acc++[d],vs++[v],((eo.trans e3).trans e4).over Kv _,((e1.trans e3).trans e4).over Kw _,S4.side k1 k2 _,((r3.mono e4)).aU x4,hst,k1,k2,ay,aj.aU x4 _ _ (k4.append (aj.cons q4 aj.nil)),p3⟩
       ·exact p3.elim
      ·exact p3.elim
    cases cond with
    | none =>
     have hc:pB Φ .none Z2 M1=.ok (.bl true) M1:=by simp only [pB]
     rw [hc] at p1
     simp only [R.af] at p1
     unfold TBo
     dsimp only
     rw [if_pos rfl]
     exact Jv e2 S2 r' p1
    | some c =>
     have hc0:pB Φ (.some c) Z2 M1=ev Φ c Z2 M1:=by simp only [pB]
     rw [hc0] at p1
     refine ⟨Z2,M1,F2,ρ1,S2,r',?_⟩
     cases hc:ev Φ c Z2 M1 with
     | bad=>rw [hc] at p1;exact p1
     | exc k M4 =>
      rw [hc] at p1
      intro F4 ρ4 H4 cv x e4 S4 q4
      obtain ⟨H5,t5,S5,e5,x5⟩:=cL S4 ((eo.trans e2).trans e4) ((e1.trans e2).trans e4).r wz
      exact E.cl _ _ _ _ _ t5 (p1 F4 ρ4 H5 cv x e5 S5 q4)
     | ok t M4 =>
      rw [hc] at p1
      simp only [R.af] at p1
      intro F4 ρ4 H4 v e4 S4 q4
      split at p1
      ·simp only [RD] at q4;subst q4
       refine ⟨true,rfl,?_⟩
       dsimp only
       rw [if_pos rfl]
       exact Jv (e2.trans e4) S4 (r'.mono e4) p1
      ·simp only [RD] at q4;subst q4
       refine ⟨false,rfl,?_⟩
       dsimp only
       rw [if_neg Bool.false_ne_true]
       split at p1
       ·rename_i hst
        obtain ⟨k1,k2,k3,k4⟩:=keep (e2.trans e4)
        exact ⟨m-1,by omega,by omega,Z2,M4,F4,ρ4,acc,vs,(eo.trans e2).trans e4,(e1.trans e2).trans e4,S4,r'.mono e4,hst,k1,k2,k3,k4,p1⟩
       ·exact p1.elim
      ·exact p1.elim
  ·have hd:ds.drop i=[]:=List.drop_eq_nil_of_le (Nat.le_of_not_lt hi)
   simp only [loop] at p1
   rw [hd] at p1
   unfold bz at p1
   obtain ⟨H4,t4,S4,e4,x4⟩:=cL S1 eo e1.r wz
   refine .inl ⟨wst (Nat.le_of_not_lt hi),H4,t4,?_⟩
   have p2:Post B (bY fz acc (eO fl src M1)) F ρ H Q (fun cv x H'=>E.e cv x Z H'):=p1
   have ra4:=aj.bx x4 _ _ ra
   have hD4:H4 Da=some (.lst vs):=by
    have:=x4.h Da (by rw [Kz];simp) d1
    exact this.trans Kz
   cases fz with
   | true =>
    simp only [bY,if_true] at p2
    have xt:pX F1 ρ1 H4 (fun a=>F1 a\/a=Da) ρ1 H4:=⟨fun _ q=>.inl q,fun _ _ _=>rfl,List.prefix_refl _⟩
    refine p2 (fun a=>F1 a\/a=Da) ρ1 H4 (.ref Da) ⟨⟨e4.s,fun a q=>.inl (e4.f a q),e4.h,e4.r,e4.n,fun a q=>q.elim (e4.g a) fun z=>.inr (.inl (z ▸ Kv))⟩,e4.z⟩ (S4.take d1 (by rw [hD4];simp)) ?_
    simp only [RD]
    exact ⟨Da,vs,rfl,.inl ⟨.inr rfl,.inl hD4⟩,aj.aU xt _ _ ra4⟩
   | false =>
    simp only [bY,Bool.false_eq_true,if_false] at p2
    have xt:pX F1 ρ1 H4 F1 (ρ1++[Da]) H4:=⟨fun _ q=>q,fun _ _ _=>rfl,List.prefix_append _ _⟩
    refine p2 F1 (ρ1++[Da]) H4 (.ref Da) ⟨⟨e4.s,e4.f,e4.h,e4.r.trans (List.prefix_append _ _),fun a q=>(List.mem_append.mp q).elim (e4.n a) fun z=>.inr (by rw [List.mem_singleton.mp z];exact Kv),e4.g⟩,e4.z⟩ (S4.hold (u:=.lst acc) d1 f1 ⟨vs,hD4,aj.aU xt _ _ ra4⟩) ?_
    simp only [RD]
    refine ⟨Da,?_,rfl⟩
    rw [<- S4.len,List.getElem?_append_right (Nat.le_refl _),Nat.sub_self];rfl
end
end Fg
end
section
namespace Fg
open PySem L2
section
variable {B:Bd} {Φ:aQ} {E:Gx} {F F' F0 F1:Addr->Prop} {ρ ρ' ρ0 ρ1:List Addr} {H H' H0 H1:Hp} {M M' M0:MH} {ZD:Sg} {Z:L2.St} {Q:VK} {Dn:Ends}
theorem Hw {i:Nat} {v:V} (hg:∀ d,Φ.glob i=some d->∀ F ρ H,RD B F ρ H d v) (h:T B Φ E (.g i) Z H Q):tC v Z H Q:=by
 obtain ⟨ZD,M,F,ρ,S,r,h⟩:=h
 simp only [ev] at h
 split at h
 ·rename_i d hd
  exact ai.run h S (hg d hd F ρ H)
 ·exact h.elim
noncomputable def yV (B:Bd) (Φ:aQ) (f n:Nat):Sp:=fun vs H Q E=>vs.length=n/\∃ ds M F ρ,SR B F ρ M H/\aj B F ρ H ds vs/\Post B (Φ.call f ds M) F ρ H Q E
theorem nY {f n:Nat} {es:Es} (hn:∀ {Z:Sg} {M:MH} {ds:List D} {M':MH},cJ Φ es Z M=.ok ds M'->ds.length=n) (h:T B Φ E (.call f es) Z H Q)  :qd (yV B Φ f n) E.e (TL B Φ E es) Z H Q:=by
 obtain ⟨ZD,M,F,ρ,S,r,h⟩:=h
 simp only [ev] at h
 refine ⟨ZD,M,F,ρ,S,r,?_⟩
 cases hx:cJ Φ es ZD M with
 | exc c M1=>rw [hx] at h;exact h
 | bad=>rw [hx] at h;exact h
 | ok ds M1 =>
  rw [hx] at h
  simp only [R.af] at h
  intro F1 ρ1 H1 vs e1 S1 q1
  exact ⟨by rw [<- aj.length q1];exact hn hx,ds,M1,F1,ρ1,S1,q1,ai.weak e1 h⟩
theorem C7 {x:D} {v:V} {t:Ty} (S:SR B F ρ M H) (rx:RD B F ρ H x v) (ho:vC M x=true):∃ T,BJ B H v T/\tyB T t=Fy M t x:=by
 cases x with
 | ak=>simp only [RD] at rx;subst rx;exact ⟨_,.ak,by cases t <;> rfl⟩
 | bl b=>simp only [RD] at rx;subst rx;exact ⟨_,.bl b,by cases t <;> rfl⟩
 | int i=>simp only [RD] at rx;subst rx;exact ⟨_,.int i,by cases t <;> rfl⟩
 | str x=>simp only [RD] at rx;subst rx;exact ⟨_,.str x,by cases t <;> rfl⟩
 | tup ds=>simp only [RD] at rx;obtain ⟨a,vs,rfl,z,_⟩:=rx;exact ⟨_,.tup z.sq,by cases t <;> rfl⟩
 | lst ds=>simp only [RD] at rx;obtain ⟨a,vs,rfl,z,_⟩:=rx;exact ⟨_,.lst z.sq,by cases t <;> rfl⟩
 | dct ks ds =>
  simp only [RD] at rx;obtain ⟨a,vs,rfl,z,_⟩:=rx
  refine ⟨_,.dct (kvs:=vs) ?_,by cases t <;> rfl⟩
  rcases z with ⟨_,z⟩ | z
  ·exact .inl z
  ·exact .inr z
 | ref n =>
  simp only [RD] at rx
  obtain ⟨a,h1,rfl⟩:=rx
  cases hM:M[n]? with
  | none=>simp [vC,hM] at ho
  | some o =>
   cases o with
   | lst ds=>obtain ⟨vs,h3,_⟩:=S.obj n a _ h1 hM;exact ⟨_,.lst (.inl (.inl h3)),by simp only [Fy,hM];cases t <;> rfl⟩
   | dct kvs=>obtain ⟨kws,h3,_⟩:=S.obj n a _ h1 hM;exact ⟨_,.dct (.inl (.inl h3)),by simp only [Fy,hM];cases t <;> rfl⟩
   | nE kvs=>obtain ⟨o,kws,h3,_⟩:=S.obj n a _ h1 hM;exact ⟨_,.dct (.inl (.inr ⟨o,h3⟩)),by simp only [Fy,hM];cases t <;> rfl⟩
   | ins _ _=>simp [vC,hM] at ho
theorem zQ {a:Fg.E} {t:Ty} (h:T B Φ E (.lD a t) Z H Q):Hh (HN B) (jy (T B Φ E a) (jy (tC (.ty (nJ t))) lU)) Z H Q:=by
 obtain ⟨ZD,M,F,ρ,S,r,h⟩:=h
 simp only [ev] at h
 refine T.one S r rfl h fun x M1 F1 ρ1 H1 v e1 S1 r1 rx h1=>?_
 split at h1
 ·rename_i ho
  obtain ⟨T',ty,e⟩:=C7 (t:=t) S1 rx ho
  refine ⟨v,T',t,rfl,ty,?_⟩
  rw [e]
  exact ai.run h1 S1 (by simp only [RD])
 ·exact h1.elim
theorem qh {fz:Bool} {a:Fg.E} {es:Es} (h:T B Φ E (.aK .append fz a es) Z H Q):tBM B.K "list" mh (T B Φ E a) (TL B Φ E es) Z H Q:=by
 obtain ⟨ZD,M,F,ρ,S,r,h⟩:=h
 simp only [ev] at h
 refine T.one S r rfl h fun x M1 F1 ρ1 H1 v e1 S1 r1 rx h1=>?_
 split at h1
 ·rename_i ho
  refine ⟨?_,TL.one S1 r1 rfl h1 fun ds M2 F2 ρ2 H2 vs e2 S2 r2 rds h2=>rH S2 (RD.mono e2 _ _ rx) rds h2⟩
  have h0:=((Bool.and_eq_true _ _).mp ho).1
  cases hl:gg M1 x with
  | none=>rw [hl] at h0;cases h0
  | some p =>
   obtain ⟨rfl,hM⟩:=ji hl
   simp only [RD] at rx
   obtain ⟨b,hb,rfl⟩:=rx
   obtain ⟨vs,h3,_⟩:=S1.obj p.1 b _ hb hM
   exact .inl ⟨rfl,vs,.inl (.inl h3)⟩
 ·exact h1.elim
noncomputable def Cc (x y v:V) (H:Hp) (Q:Hp->Prop):Prop:=Cb x y v H Q\/∃ a H4,x=.ref a/\rN H a y v H4/\Q H4
noncomputable def B8 (to ti tv:TE):TS:=fun D Z H=>tv Z H fun v H1=>to Z H1 fun x H2=>ti Z H2 fun y H3=>Cc x y v H3 fun H4=>D.nx Z H4
theorem zX {x y d:D} {v w u:V} (S:SR B F ρ M H) (rx:RD B F ρ H x v) (ry:RD B F ρ H y w) (rd:RD B F ρ H d u) {K:Hp->Prop} (h:∀ M',l7 M x y d=.ok () M'->∀ H',Ext F ρ H F ρ H'->SR B F ρ M' H'->K H') (hb:∃ M',l7 M x y d=.ok () M'):Cc v w u H K:=by
 obtain ⟨M',hb⟩:=hb
 have hK:=h M' hb
 unfold l7 at hb
 split at hb
 ·rename_i n
  simp only [RD] at rx
  obtain ⟨a,h1,rfl⟩:=rx
  split at hb
  ·rename_i xs i hM
   split at hb
   ·rename_i j hj
    cases hb
    simp only [RD] at ry;subst ry
    obtain ⟨vs,h2,h3⟩:=S.obj n a _ h1 hM
    refine .inl ⟨a,vs,i,j,rfl,rfl,h2,by rw [<- aj.length h3,<- xT];exact hj,?_⟩
    obtain ⟨S',e⟩:=S.st (o:=.lst (vs.set j u)) (u:=.lst (xs.set j d)) h1 (fun _ _ q=>by rw [h2] at q;cases q) ⟨_,ay,aj.bx (Ext0.at_ S h1) _ _ (h3.set j rd)⟩
    exact hK _ e S'
   ·cases hb
  ·rename_i kvs hM
   split at hb
   ·rename_i k hk
    split at hb
    ·rename_i hl
     cases hb
     obtain ⟨kws,h2,h3,h4⟩:=S.obj n a _ h1 hM
     have hlen:kws.length=kvs.length:=by have:=congrArg List.length h3;simpa using this
     rw [qE hk ry]
     refine .inr ⟨a,_,rfl,rN.k h2 (by rw [hlen];exact Nat.lt_of_lt_of_le (of_decide_eq_true hl) bM),?_⟩
     obtain ⟨p1,p2⟩:=DL (k:=k) rd h3 h4
     obtain ⟨S',e⟩:=S.st (o:=.dK (putK kws k u)) (u:=.dct (put kvs k d)) h1 (fun _ _ q=>by rw [h2] at q;cases q) ⟨_,ay,p1,aj.bx (Ext0.at_ S h1) _ _ p2⟩
     exact hK _ e S'
    ·cases hb
   ·cases hb
  ·cases hb
 ·cases hb
theorem zZ {x y d:D}:(∃ M',l7 M x y d=.ok () M')\/l7 M x y d=.bad:=by
 unfold l7
 split
 ·split
  ·split
   ·exact .inl ⟨_,rfl⟩
   ·exact .inr rfl
  ·split
   ·split
    ·exact .inl ⟨_,rfl⟩
    ·exact .inr rfl
   ·exact .inr rfl
  ·exact .inr rfl
 ·exact .inr rfl
theorem vZ {a b e:Fg.E} (h:TC B Φ E (.qi a b e) Dn Z H):B8 (T B Φ E a) (T B Φ E b) (T B Φ E e) Dn Z H:=by
 obtain ⟨ZD,M,F,ρ,S,r,h⟩:=h
 simp only [ex] at h
 refine TC.one S r h fun x M1 F1 ρ1 H1 v e1 S1 r1 rx h1=>?_
 refine TC.one S1 r1 h1 fun y M2 F2 ρ2 H2 w e2 S2 r2 ry h2=>?_
 refine TC.one S2 r2 h2 fun z M3 F3 ρ3 H3 u e3 S3 r3 rz h3=>?_
 have rx3:=RD.mono e3 _ _ (RD.mono e2 _ _ rx)
 have ry3:=RD.mono e3 _ _ ry
 rcases zZ (M:=M3) (x:=y) (y:=z) (d:=x) with ⟨M',hb⟩ | hb
 ·refine zX S3 ry3 rz rx3 (fun M4 hq H4 e4 S4=>?_) ⟨M',hb⟩
  rw [hq] at h3
  exact h3 F3 ρ3 H4 e4 S4 Z (r3.mono e4)
 ·rw [hb] at h3;exact h3.elim
end
end Fg
end
section
namespace Fg
open PySem PySem.Spec L2
noncomputable def qQ:F1->V->Option V
 | .abs,.int i=>some (.int (if i<0 then -i else i))
 | .int,.bl b=>some (.int (if b then 1 else 0))
 | .int,.int i=>some (.int i)
 | _,_=>none
noncomputable def rF1 (f:F1):List V->Hp->VK->Prop:=fun xs H Q=>∃ x y,xs=[x]/\qQ f x=some y/\Q y H
section
variable {X:Cx}
theorem vn:dm X (.builtin "abs") (rF1 .abs):=by
 intro pins s Z H xs us Q I r h
 obtain ⟨x,y,rfl,hf,q⟩:=h
 obtain ⟨u,rfl,ru⟩:=vals1 r
 cases x with
 | int i =>
  simp only [qQ] at hf
  cases hf
  obtain ⟨t,rfl⟩:=(show ∃ t,u=Value.int i t from ru)
  exact PyProof.Rows.call_abs_int fun u tk=>⟨.int _,H,I.tok _,⟨_,rfl⟩,q⟩
 | _=>simp [qQ] at hf
theorem vm:dm X (.type "int") (rF1 .int):=by
 intro pins s Z H xs us Q I r h
 obtain ⟨x,y,rfl,hf,q⟩:=h
 obtain ⟨u,rfl,ru⟩:=vals1 r
 cases x with
 | int i =>
  simp only [qQ] at hf
  cases hf
  obtain ⟨t,rfl⟩:=(show ∃ t,u=Value.int i t from ru)
  exact call_int_int ⟨.int _,H,I,⟨_,rfl⟩,q⟩
 | bl b =>
  simp only [qQ] at hf
  cases hf
  cases ru
  exact call_int_bool ⟨.int _,H,I.tok _,⟨_,rfl⟩,q⟩
 | _=>simp [qQ] at hf
end
section
variable {B:Bd} {Φ:aQ} {E:Gx} {F F' F0 F1:Addr->Prop} {ρ ρ' ρ0 ρ1:List Addr} {H H' H0 H1:Hp} {M M' M0:MH} {ZD:Sg} {Z:L2.St} {Q:VK}
theorem FJ {f:Fg.F1} {x d:D} {v:V} (h:qR f x=some d) (r:RD B F ρ H x v):∃ w,qQ f v=some w/\RD B F ρ H d w:=by
 cases x with
 | int i=>simp only [RD] at r;subst r;cases f <;> simp only [qR] at h <;> cases h <;> exact ⟨_,rfl,by simp only [RD]⟩
 | bl b=>simp only [RD] at r;subst r;cases f <;> simp only [qR] at h <;> cases h <;> exact ⟨_,rfl,by simp only [RD]⟩
 | _=>cases f <;> simp [qR] at h
theorem rZ {f:Fg.F1} {a:Fg.E} (h:T B Φ E (.j3 f a) Z H Q):Hh (rF1 f) (jy (T B Φ E a) lU) Z H Q:=by
 obtain ⟨ZD,M,F,ρ,S,r,h⟩:=h
 simp only [ev] at h
 refine T.one S r rfl h fun x M1 F1 ρ1 H1 v e1 S1 r1 rx h1=>?_
 split at h1
 ·rename_i d hd
  obtain ⟨w,hw,rw'⟩:=FJ hd rx
  exact ⟨v,w,rfl,hw,ai.run h1 S1 rw'⟩
 ·exact h1.elim
end
end Fg
end
section
namespace Fg
open PySem L2
section
variable {X:Cx}
theorem Bf (l:Addr) (items:Array Value) (n:Nat) (b:Addr) (items2:Array Value) (n2:Nat) (dd2:Option Addr) (sl2:Array (Option Value)) (hs0:¬(!items.isEmpty&&Builtin.List.listTooLong (items.size+items2.size))=true) (hs1:items.size<=sizeLine) (hs2:items.size+items2.size<=sizeLine+1) :
  Meets (Builtin.«list.extend» ⟨[.ref l, .ref b], []⟩) (fun _ R s=>s.heap.get? l=some { cls:=.type "list", dict:=none, data:=.seq items n, slots:=#[] }/\s.heap.get? b=some { cls:=.type "tuple", dict:=dd2, data:=.seq items2 n2, slots:=sl2 }/\R (.ok (.ret Value.none)) { s with heap:=s.heap.update l (Obj.mapSeq fun x=>x++items2), toks:=s.toks }) :=
 .of_wp fun prog w A R s h=>by
  obtain ⟨hp,g,d,tk,os⟩:=s;obtain ⟨hl,hb,h⟩:=h;have f1:=AutoSeq1.idx_int;have f2:=AutoSeq1.sub_tuple_tuple;have f3:=AutoSeq1.sub_list_list;have f4:=AutoSeq1.sub_tuple_list;have f5:=AutoSeq1.sub_list_tuple
  have hz':(items++items2).size<=sizeLine+1:=by rw [Array.size_append];exact hs2
  wp_walk using (wpAny_updateSeq hl rfl (hz:=hs1) (_hz':=hz')),AutoSeq1.wpAny_loadPart' hl,AutoSeq1.wpAny_loadPart' hb;exact ⟨_,rfl,h⟩
noncomputable def Ce (K:W.Frag):V->List V->Hp->VK->Prop:=fun x vs H Q=>∃ l b xs zs,x=.ref l/\vs=[.ref b]/\H l=some (.lst xs)/\iO K H b zs/\xs.length+zs.length<=sizeLine/\Q .ak (upd H l (.lst (xs++zs)))
theorem AL:KZ X "list.extend" (Ce X.K):=by
 intro pins s Z H x vs v us Q I rx rv h
 obtain ⟨l,b,xs,zs,rfl,rfl,hH,hB,hz,q⟩:=h
 cases rx
 obtain ⟨u,rfl,ru⟩:=rv.one
 cases ru
 obtain ⟨z,its,n,r,hl,e⟩:=I.AO hH
 obtain ⟨its2,r2,p2,z2⟩:=I.tuple hB
 obtain ⟨⟨JB,dd2,data2,sl2⟩,e2,hc2,n2,hd2⟩:=p2
 simp only at hc2 hd2
 subst hc2 hd2
 have l2:=r2.length
 have hsz:its.toArray.size+its2.toArray.size<=sizeLine:=by rw [List.size_toArray,List.size_toArray];omega
 have IX:¬ (!its.toArray.isEmpty&&Builtin.List.listTooLong (its.toArray.size+its2.toArray.size))=true:=by
  rw [w6 hsz,Bool.and_false]
  exact Bool.false_ne_true
 refine call_meets PySem.F.slot_list_extend ⟨_,e,rfl⟩ PySem.F.entry_list_extend (PySem.F.args_list_extend_2 _ _)
  (Bf l its.toArray n b its2.toArray n2 dd2 sl2 IX (by rw [List.size_toArray];omega) (by omega)) ⟨e,e2,?_⟩
 refine ⟨.ak,_,I.AQ (its':=its++its2) hH e (by simp) (r.append r2) ?_,rfl,q⟩
 rw [List.length_append]
 omega
end
section
variable {B:Bd} {Φ:aQ} {E:Gx} {F F' F0 F1:Addr->Prop} {ρ ρ' ρ0 ρ1:List Addr} {H H' H0 H1:Hp} {M M' M0:MH} {ZD:Sg} {Z:L2.St} {Q:VK}
theorem aj.rev:∀ {ds:List D} {vs:List V},aj B F ρ H ds vs->aj B F ρ H ds.reverse vs.reverse
 | [],vs,h=>by
  have:=aj.length h
  cases vs with
  | nil=>exact aj.nil
  | cons _ _=>simp at this
 | d::ds,vs,h=>by
  cases vs with
  | nil=>have:=aj.length h;simp at this
  | cons v vs =>
   obtain ⟨w,ws,h1,h2,h3⟩:∃ w ws,v::vs=w::ws/\RD B F ρ H d w/\aj B F ρ H ds ws:=by simpa only [aj] using h
   cases h1
   rw [List.reverse_cons,List.reverse_cons]
   exact aj.append (aj.rev h3) (aj.cons h2 aj.nil)
theorem aj.dropLast {ds:List D} {vs:List V} (h:aj B F ρ H ds vs):aj B F ρ H ds.dropLast vs.dropLast:=by
 rw [List.dropLast_eq_take,List.dropLast_eq_take,<- aj.length h];exact aj.take _ h
theorem wD {x:D} {v:V} {m:Mt} (S:SR B F ρ M H) (rx:RD B F ρ H x v) (ho:oJ m M x=true):∃ n xs, x=.ref n/\M[n]? = some (.lst xs)/\J1 B.K "list" v H:=by
 have h0:=((Bool.and_eq_true _ _).mp ho).1
 cases hl:gg M x with
 | none=>rw [hl] at h0;cases h0
 | some p =>
  obtain ⟨rfl,hM⟩:=ji hl
  simp only [RD] at rx
  obtain ⟨b,hb,rfl⟩:=rx
  obtain ⟨vs,h3,_⟩:=S.obj p.1 b _ hb hM
  exact ⟨p.1,p.2,rfl,hM,.inl ⟨rfl,vs,.inl (.inl h3)⟩⟩
theorem Aj {fz:Bool} {n:Nat} {xs:List D} {v:V} {X:XK} (S:SR B F ρ M H) (hx:M[n]? = some (.lst xs)) (rx:RD B F ρ H (.ref n) v) (h:Post B (gp .pop fz M (.ref n) []) F ρ H Q X):DI v [] H Q:=by
 simp only [gp,cN hx,oH,List.isEmpty_nil,if_true] at h
 split at h
 ·rename_i d hd
  simp only [RD] at rx
  obtain ⟨a,h1,rfl⟩:=rx
  obtain ⟨ws,h2,h3⟩:=S.obj n a _ h1 hx
  obtain ⟨w,hw,rw'⟩:=aj.get h3 hd
  refine ⟨a,ws,w,rfl,rfl,h2,by rw [<- aj.length h3];exact hw,?_⟩
  obtain ⟨S',e⟩:=S.st (o:=.lst ws.dropLast) (u:=.lst xs.dropLast) h1 (fun _ _ q=>by rw [h2] at q;cases q) ⟨_,ay,aj.bx (Ext0.at_ S h1) _ _ h3.dropLast⟩
  exact h _ _ _ _ e S' (RD.mono e _ _ rw')
 ·exact h.elim
theorem n9 {fz:Bool} {n:Nat} {xs:List D} {v:V} {X:XK} (S:SR B F ρ M H) (hx:M[n]? = some (.lst xs)) (rx:RD B F ρ H (.ref n) v) (h:Post B (gp .reverse fz M (.ref n) []) F ρ H Q X):jE v [] H Q:=by
 simp only [gp,cN hx,oH,List.isEmpty_nil,if_true] at h
 simp only [RD] at rx
 obtain ⟨a,h1,rfl⟩:=rx
 obtain ⟨ws,h2,h3⟩:=S.obj n a _ h1 hx
 refine ⟨a,ws,rfl,rfl,h2,?_⟩
 obtain ⟨S',e⟩:=S.st (o:=.lst ws.reverse) (u:=.lst xs.reverse) h1 (fun _ _ q=>by rw [h2] at q;cases q) ⟨_,ay,aj.bx (Ext0.at_ S h1) _ _ h3.rev⟩
 exact h _ _ _ _ e S' (by simp only [RD])
theorem qg {fz:Bool} {a:Fg.E} {es:Es} (h:T B Φ E (.aK .extend fz a es) Z H Q):tBM B.K "list" (Ce B.K) (T B Φ E a) (TL B Φ E es) Z H Q:=by
 obtain ⟨ZD,M,F,ρ,S,r,h⟩:=h
 simp only [ev] at h
 refine T.one S r rfl h fun x M1 F1 ρ1 H1 v e1 S1 r1 rx h1=>?_
 split at h1
 ·rename_i ho
  obtain ⟨n,xs,rfl,hM,ty⟩:=wD S1 rx ho
  refine ⟨ty,TL.one S1 r1 rfl h1 fun ds M2 F2 ρ2 H2 vs e2 S2 r2 rds h2=>?_⟩
  have J6:=RD.mono e2 _ _ rx
  unfold gp at h2
  cases hl:gg M2 (.ref n) with
  | none=>rw [hl] at h2;exact h2.elim
  | some q =>
   rw [hl] at h2
   obtain ⟨e0,hy⟩:=ji hl
   cases e0
   cases ds with
   | nil=>exact h2.elim
   | cons d ds=>cases ds with
    | cons _ _=>exact h2.elim
    | nil =>
     simp only [oH,uS] at h2
     split at h2
     ·rename_i zs hz
      split at h2
      ·rename_i hlen
       simp only [RD] at J6
       obtain ⟨a',h3,rfl⟩:=J6
       obtain ⟨ws,h4,h5⟩:=S2.obj _ a' _ h3 hy
       obtain ⟨w,us,rfl,rw',ru⟩:∃ w us,vs=w::us/\RD B F2 ρ2 H2 d w/\aj B F2 ρ2 H2 [] us:=by simpa only [aj] using rds
       have eu:us=[]:=List.eq_nil_of_length_eq_zero (aj.length ru).symm
       subst eu
       cases zm hz
       simp only [RD] at rw'
       obtain ⟨b,zs',rfl,z1,r3⟩:=rw'
       refine ⟨a',b,ws,zs',rfl,rfl,h4,z1.sq,?_,?_⟩
       ·rw [<- aj.length h5,<- aj.length r3];exact Nat.le_trans (of_decide_eq_true hlen) bM
       ·obtain ⟨S',e⟩:=S2.st (o:=.lst (ws++zs')) (u:=.lst (q.2++zs)) h3 (fun _ _ q=>by rw [h4] at q;cases q) ⟨_,ay,aj.bx (Ext0.at_ S2 h3) _ _ (h5.append r3)⟩
        exact h2 _ _ _ _ e S' (by simp only [RD])
      ·exact h2.elim
     ·exact h2.elim
 ·exact h1.elim
theorem nW {m:Mt} {fz:Bool} {a:Fg.E} {r:V->List V->Hp->VK->Prop}
  (hs:∀ (F:Addr->Prop) (ρ:List Addr) (H:Hp) (M:MH) (n:Nat) (xs:List D) (v:V) (Q:VK) (X:XK),SR B F ρ M H->M[n]? = some (.lst xs)->RD B F ρ H (.ref n) v->Post B (gp m fz M (.ref n) []) F ρ H Q X->r v [] H Q)
  (h:T B Φ E (.aK m fz a .nil) Z H Q):zu B.K "list" r (T B Φ E a) Z H Q:=by
 obtain ⟨ZD,M,F,ρ,S,r,h⟩:=h
 simp only [ev] at h
 refine T.one S r rfl h fun x M1 F1 ρ1 H1 v e1 S1 r1 rx h1=>?_
 split at h1
 ·rename_i ho
  obtain ⟨n,xs,rfl,hM,ty⟩:=wD S1 rx ho
  simp only [cJ,R.af] at h1
  exact ⟨ty,hs _ _ _ _ n xs v _ _ S1 hM rx h1⟩
 ·exact h1.elim
theorem zN {fz:Bool} {a:Fg.E} (h:T B Φ E (.aK .pop fz a .nil) Z H Q):zu B.K "list" DI (T B Φ E a) Z H Q:=nW (fun _ _ _ _ _ _ _ _ _ S hx rx h=>Aj S hx rx h) h
theorem nU {fz:Bool} {a:Fg.E} (h:T B Φ E (.aK .reverse fz a .nil) Z H Q):zu B.K "list" jE (T B Φ E a) Z H Q:=nW (fun _ _ _ _ _ _ _ _ _ S hx rx h=>n9 S hx rx h) h
end
end Fg
end
section
namespace Fg
open PySem PySem.Spec L2
section
variable {B:Bd} {Φ:aQ} {E:Gx} {F F' F0 F1:Addr->Prop} {ρ ρ' ρ0 ρ1:List Addr} {H H' H0 H1:Hp} {M M' M0:MH} {ZD:Sg} {Z:L2.St} {Q:VK} {Dn:Ends}
theorem mQ {f:Str}:∀ {fs:List (Str×D)} {eK:List (Str×V)},eK.map (·.1)=fs.map (·.1)->aj B F ρ H (fs.map (·.2)) (eK.map (·.2)) ->
  (∀ d,fs.lookup f=some d->∃ v,eK.lookup f=some v/\RD B F ρ H d v)/\(fs.lookup f=none->eK.lookup f=none)
 | [],eK,h1,h2=>by
  have:eK=[]:=by cases eK with | nil=>rfl | cons _ _=>simp at h1
  subst this
  exact ⟨fun d h=>by simp at h,fun _=>rfl⟩
 | (g, d')::fs, eK, h1, h2=>by
  cases eK with
  | nil=>simp at h1
  | cons p eK =>
   obtain ⟨pk,pv⟩:=p
   simp only [List.map_cons,List.cons.injEq] at h1
   simp only [List.map_cons,aj] at h2
   obtain ⟨v,ws,e,r1,r2⟩:=h2
   cases e
   obtain ⟨e1,e2⟩:=h1
   subst e1
   have ih:=mQ (f:=f) e2 r2
   by_cases hk:f=pk
   ·subst hk
    simp only [List.lookup,beq_self_eq_true]
    exact ⟨fun d h=>by cases h;exact ⟨_,rfl,r1⟩,fun h=>by cases h⟩
   ·have hb:(f == pk)=false:=beq_eq_false_iff_ne.mpr hk
    simp only [List.lookup,hb]
    exact ih
theorem su {f:Str} {d:D} {v:V} (r:RD B F ρ H d v):∀ {fs:List (Str×D)} {eK:List (Str×V)},eK.map (·.1)=fs.map (·.1)->aj B F ρ H (fs.map (·.2)) (eK.map (·.2)) ->
  (dw f v eK).map (·.1)=(bI f d fs).map (·.1)/\aj B F ρ H ((bI f d fs).map (·.2)) ((dw f v eK).map (·.2))
 | [],eK,h1,h2=>by
  have:eK=[]:=by cases eK with | nil=>rfl | cons _ _=>simp at h1
  subst this
  exact ⟨rfl,aj.cons r aj.nil⟩
 | (g, d')::fs, eK, h1, h2=>by
  cases eK with
  | nil=>simp at h1
  | cons p eK =>
   obtain ⟨pk,pv⟩:=p
   simp only [List.map_cons,List.cons.injEq] at h1
   simp only [List.map_cons,aj] at h2
   obtain ⟨w,ws,e,r1,r2⟩:=h2
   cases e
   obtain ⟨e1,e2⟩:=h1
   subst e1
   obtain ⟨i1,i2⟩:=su (f:=f) r e2 r2
   by_cases hk:pk=f
   ·simp only [dw,bI,if_pos hk,List.map_cons]
    exact ⟨by rw [e2],aj.cons r r2⟩
   ·simp only [dw,bI,if_neg hk,List.map_cons]
    exact ⟨by rw [i1],aj.cons r1 i2⟩
theorem zV {K:W.Frag} {a:Fg.E} {f:Str} (hC:∀ c C,B.cls c=some C->vA K C/\dG K C f) (h:T B Φ E (.fld a f) Z H Q):Hg K (T B Φ E a) f Z H Q:=by
 obtain ⟨ZD,M,F,ρ,S,r,h⟩:=h
 simp only [ev] at h
 refine T.one S r rfl h fun x M1 F1 ρ1 H1 v e1 S1 r1 rx h1=>?_
 split at h1
 ·rename_i n
  split at h1
  ·rename_i c fs hM
   split at h1
   ·rename_i d hd
    simp only [RD] at rx
    obtain ⟨b,hb,rfl⟩:=rx
    obtain ⟨C,dx,eK,hc,hH,hk,hr⟩:=S1.obj n b _ hb hM
    obtain ⟨w,hw,rw⟩:=(mQ hk hr).1 d hd
    exact ⟨b,C,dx,eK,w,rfl,hH,(hC c C hc).1,(hC c C hc).2,hw,ai.run h1 S1 rw⟩
   ·exact h1.elim
  ·exact h1.elim
 ·exact h1.elim
theorem v5 {K:W.Frag} {a e:Fg.E} {f:Str} (hC:∀ c C,B.cls c=some C->vA K C/\dG K C f) (h:TC B Φ E (.bK a f e) Dn Z H):Hz K (T B Φ E a) (T B Φ E e) f Dn Z H:=by
 obtain ⟨ZD,M,F,ρ,S,r,h⟩:=h
 simp only [ex] at h
 refine TC.one S r h fun x M1 F1 ρ1 H1 v e1 S1 r1 rx h1=>?_
 refine TC.one S1 r1 h1 fun y M2 F2 ρ2 H2 w e2 S2 r2 ry h2=>?_
 have J6:=RD.mono e2 _ _ rx
 split at h2
 ·rename_i n
  split at h2
  ·rename_i c fs hM
   split at h2
   ·rename_i hl
    simp only [RD] at ry
    obtain ⟨b,hb,rfl⟩:=ry
    obtain ⟨C,dx,eK,hc,hH,hk,hr⟩:=S2.obj n b _ hb hM
    have hlen:eK.length=fs.length:=by have:=congrArg List.length hk;simpa using this
    obtain ⟨p1,p2⟩:=su (f:=f) J6 hk hr
    obtain ⟨S',e⟩:=S2.st (o:=.ins C dx (dw f v eK)) (u:=.ins c (bI f x fs)) hb (fun _ _ q=>by rw [hH] at q;cases q) ⟨C,dx,_,hc,ay,p1,aj.bx (Ext0.at_ S2 hb) _ _ p2⟩
    exact ⟨b,C,dx,eK,rfl,hH,(hC c C hc).1,(hC c C hc).2,by rw [hlen];exact of_decide_eq_true hl,h2 F2 ρ2 _ e S' Z (r2.mono e)⟩
   ·exact h2.elim
  ·exact h2.elim
 ·exact h2.elim
noncomputable def qb (C:Addr) (m:Str) (sp:Sp) (Ex:XS) (ta:TE) (t:TA):TE:=fun Z H Q=>ta Z H fun x H1=>∃ a dx fs,x=.ref a/\H1 a=some (.ins C dx fs)/\fs.lookup m=none /\
 t Z H1 fun vs H2=>sp (x::vs) H2 Q fun cv y H'=>Ex cv y Z H'
noncomputable def qc (C:Addr) (sp:Sp) (Ex:XS) (t:TA):TE:=fun Z H Q=>t Z H fun vs H1=>∀ x dx,H1 x=none->H1 dx=none->dx≠x ->
 sp (.ref x::vs) (upd (upd H1 dx (.own x)) x (.ins C dx [])) (fun v H2=>v=.ak/\Q (.ref x) H2) fun cv y H'=>Ex cv y Z H'
theorem rV {c m n:Nat} {nm:Str} {a:Fg.E} {es:Es} {C:Addr} (hC:B.cls c=some C) (hn:∀ {Z:Sg} {M:MH} {ds:List D} {M':MH},cJ Φ es Z M=.ok ds M'->ds.length+1=n) (h:T B Φ E (.cY c m nm a es) Z H Q) :
  qb C nm (yV B Φ m n) E.e (T B Φ E a) (TL B Φ E es) Z H Q:=by
 obtain ⟨ZD,M,F,ρ,S,r,h⟩:=h
 simp only [ev] at h
 refine T.one S r rfl h fun x M1 F1 ρ1 H1 v e1 S1 r1 rx h1=>?_
 split at h1
 ·rename_i i
  split at h1
  ·rename_i c' fs hM
   split at h1
   ·rename_i hq
    simp only [Bool.and_eq_true,decide_eq_true_eq,Option.isNone_iff_eq_none] at hq
    obtain ⟨rfl,hno⟩:=hq
    have rx0:=rx
    simp only [RD] at rx
    obtain ⟨b,hb,rfl⟩:=rx
    obtain ⟨C',dx,eK,hc,hH,hk,hr⟩:=S1.obj i b _ hb hM
    rw [hC] at hc;cases hc
    refine ⟨b,dx,eK,rfl,hH,(mQ hk hr).2 hno,ZD,M1,F1,ρ1,S1,r1,?_⟩
    cases hx:cJ Φ es ZD M1 with
    | exc c M2=>rw [hx] at h1;exact h1
    | bad=>rw [hx] at h1;exact h1
    | ok ds M2 =>
     rw [hx] at h1
     simp only [R.af] at h1
     intro F2 ρ2 H2 vs e2 S2 q2
     exact ⟨by rw [List.length_cons,<- aj.length q2];exact hn hx,.ref i::ds,M2,F2,ρ2,S2,aj.cons (RD.mono e2 _ _ rx0) q2,ai.weak e2 h1⟩
   ·exact h1.elim
  ·exact h1.elim
 ·exact h1.elim
noncomputable def spI (B:Bd) (Φ:aQ) (f n:Nat):Sp:=fun vs H Q E=>vs.length=n/\∃ ds M F ρ,SR B F ρ M H/\aj B F ρ H ds vs/\Post B (Φ.ini f ds M) F ρ H Q E
theorem SR.own (S:SR B F ρ M H) {p:Addr} (h:H p=none) (o:HO):SR B F ρ M (upd H p o)/\Ext F ρ H F ρ (upd H p o):=by
 obtain ⟨np,nf⟩:=S.new h
 exact ⟨S.side np nf o,⟨⟨S.sep,fun a q=>q,fun a q _=>ao (by rintro rfl;exact q h),List.prefix_refl _,fun a q=>.inl q,fun a q=>.inl q⟩,fun b w u q=>by rw [ao (by rintro rfl;rw [h] at q;cases q)];exact q⟩⟩
theorem rX {c i n:Nat} {es:Es} {C:Addr} (hC:B.cls c=some C) (hn:∀ {Z:Sg} {M:MH} {ds:List D} {M':MH},cJ Φ es Z M=.ok ds M'->ds.length+1=n) (h:T B Φ E (.new c i es) Z H Q) :
  qc C (spI B Φ i n) E.e (TL B Φ E es) Z H Q:=by
 obtain ⟨ZD,M,F,ρ,S,r,h⟩:=h
 simp only [ev] at h
 refine ⟨ZD,M,F,ρ,S,r,?_⟩
 cases hx:cJ Φ es ZD M with
 | exc c M1=>rw [hx] at h;exact h
 | bad=>rw [hx] at h;exact h
 | ok ds M1 =>
  rw [hx] at h
  simp only [R.af] at h
  intro F1 ρ1 H1 vs e1 S1 q1 x dx hx0 hdx hne
  obtain ⟨S2,e2⟩:=S1.own hdx (.own x)
  have hx2:upd H1 dx (.own x) x=none:=by rw [ao (Ne.symm hne)];exact hx0
  obtain ⟨S3,e3⟩:=S2.lv (o:=.ins C dx []) (u:=.ins c []) hx2 ⟨C,dx,[],hC,ay,rfl,aj.nil⟩
  have at_:(ρ1++[x])[M1.length]? = some x:=by rw [<- S1.len,List.getElem?_append_right (Nat.le_refl _),Nat.sub_self];rfl
  have e23:=e2.trans e3
  refine ⟨by rw [List.length_cons,<- aj.length q1];exact hn hx,.ref M1.length::ds,M1++[.ins c []],F1,ρ1++[x],S3,aj.cons (by simp only [RD];exact ⟨x,at_,rfl⟩) (aj.mono e23 _ _ q1),?_⟩
  refine ai.imp (ai.bind (rel:=RD B) (ai.weak (e1.trans e23) h)) fun v H' ⟨d,M',F',ρ',ext,S',rd,h2⟩=>?_
  split at h2
  ·simp only [RD] at rd
   exact ⟨rd,ai.run h2 S' (by simp only [RD];exact ⟨x,ext.at at_,rfl⟩)⟩
  ·exact h2.elim
theorem nV {c i:Nat} {es:Es} (hb:∀ ds M,Φ.ini i ds M=.bad) (h:T B Φ E (.new c i es) Z H Q):TL B Φ E es Z H fun _ _=>False:=by
 obtain ⟨ZD,M,F,ρ,S,r,h⟩:=h
 simp only [ev] at h
 refine ⟨ZD,M,F,ρ,S,r,?_⟩
 cases hx:cJ Φ es ZD M with
 | exc c M1=>rw [hx] at h;exact h
 | bad=>rw [hx] at h;exact h
 | ok ds M1 =>
  rw [hx] at h
  simp only [R.af,hb,R.g9] at h
  exact h.elim
end
section
variable {X:Cx} {Ex:XS} {k:Nat} {f C:Addr} {fd:FuncData} {ps:List Str} {sp:Sp} {x m:Str} {p pos apos:Pos} {e o:Expr} {es:List Expr} {ta:TE} {t:TA}
theorem wO {pl:Sem Bool} (he:PE X o ta) (c:vA X.K C) (hm:Meth X.K C m f) (F:cG X.prog X.w X.K X.mg X.base (ir X.prog X.w) k f fd ps sp) (hr:cX k X.A) (hb:Binds X.K fd ps []) (hx:∀ e s,i7 X Ex e s->X.xe e s) (ha:PA X (e::es) t)
  (hst:starEach (e::es) X.env=(false,eval e X.env)::starEach es X.env) (hpl:(backTo pos (starEach es X.env)).any (·.1)=false)
  (ht:eval (.Call (.Attribute o m apos) (e::es) [] pos) X.env=(do
   let ov <- eval o X.env
   standAt apos.atName
   let (f,first) <- holding [ov] (getMethod ov m pl)
   callWith pos f first (backTo pos (starEach (e::es) X.env)) (backToKw pos (keywordEach [] X.env)))) :
  PE X (.Call (.Attribute o m apos) (e::es) [] pos) (qb C m sp Ex ta t):=by
 intro pins s Z H Q I h
 refine PySem.W.methodCall_KW (pl:=pl) (aY (he pins s Z H _ I h) fun u s1 ⟨x,H1,I1,rx,a,dx,fs,ex,ea,l,q⟩=>?_) ht
 subst ex
 obtain rfl:u=Value.ref a:=rx
 refine jZ I1 ea c hm l ?_
 refine PySem.W.callWith_K (first:=[.ref a]) (h₀:=X.base) I.ok.mod.Cr hm.kp (aY (ha pos pins s1 Z H1 _ I1 q) fun us s2 ⟨vs,H2,I2,r,q2⟩=>⟨I2.gO,?_⟩) hst hpl
 exact z5 (us:=.ref a::us) (vs:=.ref a::vs) F hr hb hx I2 (.cons rfl r) q2
theorem uM {pl:Sem Bool} (he:PE X o ta) (c:vA X.K C) (hm:Meth X.K C m f) (F:cG X.prog X.w X.K X.mg X.base (ir X.prog X.w) k f fd ps sp) (hr:cX k X.A) (hb:Binds X.K fd ps []) (hx:∀ e s,i7 X Ex e s->X.xe e s)
  (ht:eval (.Call (.Attribute o m apos) [] [] pos) X.env=(do
   let ov <- eval o X.env
   standAt apos.atName
   let (f,first) <- holding [ov] (getMethod ov m pl)
   callWith pos f first (backTo pos (starEach [] X.env)) (backToKw pos (keywordEach [] X.env)))) :
  PE X (.Call (.Attribute o m apos) [] [] pos) (qb C m sp Ex ta lU):=by
 intro pins s Z H Q I h
 refine PySem.W.methodCall_KW (pl:=pl) (aY (he pins s Z H _ I h) fun u s1 ⟨x,H1,I1,rx,a,dx,fs,ex,ea,l,q⟩=>?_) ht
 subst ex
 obtain rfl:u=Value.ref a:=rx
 refine jZ I1 ea c hm l ?_
 exact PySem.W.callWith_K0 (first:=[.ref a]) I1.gO hm.kp (z5 (us:=[.ref a]) (vs:=[.ref a]) F hr hb hx I1 (.cons rfl .nil) q)
theorem k8 {pins:List (Addr×Obj)} {Z:L2.St} {H:Hp} {s:Shared} {Q:VK} {us:List Value} {vs:List V} (M:Mk X.K C f) (F:cG X.prog X.w X.K X.mg X.base (ir X.prog X.w) k f fd ps sp) (hr:cX (k+1) X.A) (hb:Binds X.K fd ps [])
  (hx:∀ e s,i7 X Ex e s->X.xe e s) (I:Inv X pins Z H s) (r:Vals vs us)
  (h:∀ x dx,H x=none->H dx=none->dx≠x->sp (.ref x::vs) (upd (upd H dx (.own x)) x (.ins C dx [])) (fun v H2=>v=.ak/\Q (.ref x) H2) fun cv y H'=>Ex cv y Z H') :
  wpAny (model X.prog X.w) X.A (call (.ref C) us) (EP X pins Z Q) X.xe s:=by
 have hq:=h (s.heap.objs.size+1) s.heap.objs.size (I.hok.fresh (Nat.le_succ _)) (I.hok.fresh (Nat.le_refl _)) (Nat.ne_of_lt (Nat.lt_succ_self _))
 have I2:=Inv.made (C:=C) I
 have r2:Vals (V.ref (s.heap.objs.size+1)::vs) (Value.ref (s.heap.objs.size+1)::us):=.cons rfl r
 have hl:((Value.ref (s.heap.objs.size+1)::us)++[]).length=ps.length:=by
  rw [List.append_nil,<- r2.length];exact F.len _ _ _ _ hq
 have bd:=hb _ (Value.ref (s.heap.objs.size+1)::us) I2.gO hl
 rw [List.append_nil] at bd
 refine wpAny_call (xw (f:=f) I.gO M.makes M.init (beq_iff_eq.mp M.fn) (codeAny_mono (F.run _ X.stack _ _ ⟨Value.ref (s.heap.objs.size+1)::us,[]⟩ (Value.ref (s.heap.objs.size+1)::us) _ _ _ (hr.make C us [])
  (I2.kL.make C us []) bd r2 hq) fun r s' hq'=>?_))
 match r,hq' with
 | .error e,hq'=>exact passes hx pins Z _ _ e s' I2 hq'
 | .ok (.ret u),hq' =>
  obtain ⟨v,H',I3,rv,ev,q3⟩:=I2.after hq'
  subst ev
  exact ⟨rv,⟨V.ref (s.heap.objs.size+1),H',I3,rfl,q3⟩⟩
 | .ok .next,hq'=>exact hq'.elim
 | .ok .brk,hq'=>exact hq'.elim
 | .ok .cont,hq'=>exact hq'.elim
theorem wR (M:Mk X.K C f) (F:cG X.prog X.w X.K X.mg X.base (ir X.prog X.w) k f fd ps sp) (hr:cX (k+1) X.A) (hg:Gl X x) (hm:X.mg x=some (.ref C)) (hb:Binds X.K fd ps []) (hx:∀ e s,i7 X Ex e s->X.xe e s)
  (ha:PA X (e::es) t) (hdb:(x == ("__debug__" : Str))=false) (he:starEach (e::es) X.env=(false, eval e X.env)::starEach es X.env) (hpl:(backTo pos (starEach es X.env)).any (·.1)=false) :
  PE X (.Call (.Name x p) (e::es) [] pos) (qc C sp Ex t):=by
 intro pins s Z H Q I h
 refine wpAny_Call_Name_kw (fP I hg hm ?_ hdb)
 refine PySem.W.callWith_K (h₀:=X.base) I.ok.mod.Cr M.kp (aY (ha pos pins s Z H _ I h) fun us s1 ⟨vs,H1,I1,r,q⟩=>⟨I1.gO,?_⟩) he hpl
 exact k8 M F hr hb hx I1 r q
theorem uN (M:Mk X.K C f) (F:cG X.prog X.w X.K X.mg X.base (ir X.prog X.w) k f fd ps sp) (hr:cX (k+1) X.A) (hg:Gl X x) (hm:X.mg x=some (.ref C)) (hb:Binds X.K fd ps []) (hx:∀ e s, i7 X Ex e s->X.xe e s) (hdb:(x == ("__debug__" : Str))=false) :
  PE X (.Call (.Name x p) [] [] pos) (qc C sp Ex lU):=by
 intro pins s Z H Q I h
 refine wpAny_Call_Name_kw (fP I hg hm ?_ hdb)
 exact PySem.W.callWith_K0 I.gO M.kp (k8 (us:=[]) M F hr hb hx I .nil h)
theorem wQ {f:Addr} (M:Mk X.K C f) (hg:Gl X x) (hm:X.mg x=some (.ref C)) (ha:PA X (e::es) t) (hdb:(x == ("__debug__" : Str))=false) (he:starEach (e::es) X.env=(false, eval e X.env)::starEach es X.env) (hpl:(backTo pos (starEach es X.env)).any (·.1)=false) :
  PE X (.Call (.Name x p) (e::es) [] pos) (fun Z H _=>t Z H fun _ _=>False):=by
 intro pins s Z H Q I h
 refine wpAny_Call_Name_kw (fP I hg hm ?_ hdb)
 exact PySem.W.callWith_K (h₀:=X.base) I.ok.mod.Cr M.kp (aY (ha pos pins s Z H _ I h) fun us s1 ⟨vs,H1,I1,r,q⟩=>q.elim) he hpl
end
end Fg
end
section
namespace Fg
open PySem PySem.Spec L2
section
variable {B:Bd} {Φ:aQ} {E:Gx} {F F' F0 F1:Addr->Prop} {ρ ρ' ρ0 ρ1:List Addr} {H H' H0 H1:Hp} {M M' M0:MH} {ZD:Sg} {Z:L2.St} {Q:VK} {Dn:Ends}
end
end Fg
end
section
namespace Fg
open PySem PySem.Spec L2
section
variable {X:Cx} {B:Bd} {pins:List (Addr×Obj)} {Z:L2.St} {H H':Hp} {s:Shared}
noncomputable def BW (X:Cx):Addr->Prop:=fun a=>∀ o u,X.H₀ a≠some (.fQ o u)
theorem dN (I:Inv X pins Z H s) (h:zg (BW X) H H'):Inv X pins Z H' s:=by
 rcases h with rfl | ⟨a,o,kvs,th,ha,rfl⟩
 ·exact I
 have ne:∀ b,H b=none->b≠a:=fun b q z=>by subst z;rw [ha] at q;cases q
 refine ⟨I.ok,I.os,I.bare,⟨I.base.keep,I.base.slot,fun b ob e n hx=>?_,I.base.there,fun b xs e=>?_,fun b ob u e=>?_,fun b ps e=>?_⟩,I.loc,I.cell,?_,fun x c e=>?_,fun p hp=>?_,fun b u e=>?_,I.len⟩
 ·have:=I.base.free b ob e n hx
  rw [ao (ne b this)];exact this
 ·have:=I.base.tups b xs e
  rw [ao (by rintro rfl;rw [ha] at this;cases this)];exact this
 ·have:=I.base.fV b ob u e
  rw [ao (by rintro rfl;exact th ob u e)];exact this
 ·obtain ⟨more,q⟩:=I.base.gE b ps e
  exact ⟨more,by rw [ao (by rintro rfl;rw [ha] at q;cases q)];exact q⟩
 ·rw [ao (ne _ I.free)];exact I.free
 ·rw [ao (ne _ (I.b8 x c e))];exact I.b8 x c e
 ·obtain ⟨h1,h2,h3⟩:=I.pin p hp
  exact ⟨h1,by rw [ao (ne _ h2)];exact h2,h3⟩
 ·by_cases hb:b=a
  ·subst hb
   rw [ay] at e;cases e
   exact (I.hok b _ ha).2
  ·rw [ao hb] at e
   exact (I.hok b u e).stay (fun _ _ _ q=>q) (fun c q=>by rw [ao (by rintro rfl;rw [ha] at q;cases q)];exact q) fun c xs q=>by rw [ao (by rintro rfl;rw [ha] at q;cases q)];exact q
theorem An {e:Expr} {t:TE} (h:PE X e t):PE X e (fun Z H Q=>t Z H fun v H'=>∃ rL,zg (BW X) H' rL/\Q v rL):=by
 intro pins s Z H Q I q
 refine aY (h pins s Z H _ I q) fun u s' ⟨v,H',I',r,rL,t',q'⟩=>⟨v,rL,dN I' t',r,q'⟩
theorem sG {st:Stmt} {t:TS} (h:PS X st t):PS X st (fun D Z H=>t (thE (BW X) D) Z H):=by
 intro pins s Z H D I q
 refine aY (h pins s Z H _ I q) fun f s' q'=>?_
 cases f with
 | next=>obtain ⟨Z',H',I',rL,t',q'⟩:=q';exact ⟨Z',rL,dN I' t',q'⟩
 | brk=>obtain ⟨Z',H',I',rL,t',q'⟩:=q';exact ⟨Z',rL,dN I' t',q'⟩
 | cont=>obtain ⟨Z',H',I',rL,t',q'⟩:=q';exact ⟨Z',rL,dN I' t',q'⟩
 | ret u=>obtain ⟨v,Z',H',I',r,rL,t',q'⟩:=q';exact ⟨v,Z',rL,dN I' t',r,q'⟩
theorem AW {k:Key} {u:Value} (h:jV k u=true):RelV (kV k) u:=by
 rcases aM h with ⟨i,t,rfl,rfl⟩ | ⟨x,t,rfl,rfl⟩
 ·exact ⟨t,rfl⟩
 ·exact ⟨t,rfl⟩
theorem EN {kvs:List (Key×V)} {vs:List (Key×Value)} (h:KV kvs vs) {i:Nat} {kv:Key×V} (e:kvs[i]? = some kv):∃ w,vs[i]? = some (kv.1,w):=by
 induction h generalizing i with
 | nil=>simp at e
 | @cons p q ps qs hpq _ ih =>
  cases i with
  | zero =>
   simp only [List.getElem?_cons_zero,Option.some.injEq] at e ⊢
   subst e
   exact ⟨q.2,by rw [hpq.1]⟩
  | succ i=>simpa using ih (by simpa using e)
noncomputable def epO (o:Obj) (n:Nat):Prop:=∃ es,o.data=.dict es n
theorem uz {P:Program} {w:World} {K:PySem.W.Frag} {tg:Expr} (a it:Addr) (o:Obj) (kvs:List (Key×V)) (ep:Nat) (he:epO o ep):Turn P w K tg (JU a o kvs) [it] it (fun i h=>h.IsKeyIter it a i kvs.length ep) where
 mem:=by simp
 obj:=fun i h st b hb=>by
  have e:b=it:=by simpa using hb
  subst e
  obtain ⟨o,e,c,d⟩:=st
  exact ⟨o,e,fun v z=>by rw [d] at z;cases z⟩
 keep:=fun i h h' st k=>st.at fun o e=>k it (by simp) o e
 item:=by
  intro X hP hw hK hc i pins s Z H E I hf st hg
  subst hP hw hK
  obtain ⟨hH,hi⟩:=hg
  obtain ⟨ho,z,hm,vs,rel,dd⟩:=(show aW X.prog X.w H s.heap a (.fQ o (.dK kvs)) from I.hok a _ hH)
  obtain ⟨o',es,Jt,h1,h2,h3,h4⟩:=id dd
  rw [ho] at h1;cases h1
  obtain ⟨es',hd'⟩:=he
  rw [hd'] at h3;cases h3
  have dat:s.heap.DictAt (aJ X.prog X.w) a vs ep:=⟨o,es,ho,h2,hd',h4⟩
  have hx:kvs[i]? = some kvs[i]:=List.getElem?_eq_getElem hi
  obtain ⟨wv,hv⟩:=EN rel hx
  obtain ⟨f0,f1,f2,f3,f4,f5⟩:=hf it (by simp)
  have hl:kvs.length=vs.length:=rel.length
  rw [hl] at st
  refine wpAny_pyNext_dict_item st dat hv fun key h' hk st' sb=>?_
  have I1:Inv X pins Z H { s with heap:=h' }:=I.turned (t':=s.toks) (fun b o hb e=>(sb.2 b hb).trans e) f0 f1 f3 f4 f5
  obtain ⟨oi,e,c,d⟩:=id st'
  refine ⟨key,rfl,oV (s:={ s with heap:=h' }) e c d (by decide) ⟨kV kvs[i].1,H,I1,AW hk,⟨rfl,kvs[i],hx,rfl⟩,by rw [hl];exact st',fun b hb=>(hf b hb).1⟩⟩
 done:=by
  intro X hP hw hK hc i pins s Z H E I hf st hg
  subst hP hw hK
  obtain ⟨hH,hi⟩:=hg
  obtain ⟨ho,z,hm,vs,rel,dd⟩:=(show aW X.prog X.w H s.heap a (.fQ o (.dK kvs)) from I.hok a _ hH)
  obtain ⟨o',es,Jt,h1,h2,h3,h4⟩:=id dd
  rw [ho] at h1;cases h1
  obtain ⟨es',hd'⟩:=he
  rw [hd'] at h3;cases h3
  have dat:s.heap.DictAt (aJ X.prog X.w) a vs ep:=⟨o,es,ho,h2,hd',h4⟩
  have hl:kvs.length=vs.length:=rel.length
  rw [hl] at st
  obtain ⟨f0,f1,f2,f3,f4,f5⟩:=hf it (by simp)
  exact wpAny_pyNext_dict_end (I.ok.hd hc) st dat (List.getElem?_eq_none_iff.mpr (by omega)) fun h' eb=>⟨rfl,I.turned (t':=s.toks) (fun b o hb e=>eb b o hb e) f0 f1 f3 f4 f5⟩
 self:=fun _ _ _ _ _ st h=>wpAny_pyIter_keyiter st h
theorem tU {tg:Expr} {R:It->Hp->Prop} {a:Addr} {o:Obj} {kvs:List (Key×V)} {E:Value->Shared->Prop} (I:Inv X pins Z H s) (hH:H a=some (.fQ o (.dK kvs))) (q:R (JU a o kvs) H):wpAny (model X.prog X.w) X.A (pyIter (.ref a)) (PIE X pins Z tg R) E s:=by
 obtain ⟨ho,z,hm,vs,rel,dd⟩:=(show aW X.prog X.w H s.heap a (.fQ o (.dK kvs)) from I.hok a _ hH)
 obtain ⟨o',es,ep,h1,h2,h3,h4⟩:=id dd
 rw [ho] at h1;cases h1
 have dat:s.heap.DictAt (aJ X.prog X.w) a vs ep:=⟨o,es,ho,h2,h3,h4⟩
 have hl:kvs.length=vs.length:=rel.length
 refine wpAny_pyIter_dict hm dat ?_
 refine ⟨s.heap.objs.size,[s.heap.objs.size],_,_,H,rfl,I.kept (t':=s.toks) fun b o e=>Heap.get?_push_of_some _ e,uz a _ o kvs ep ⟨es,h3⟩,⟨_,Heap.get?_push_size _ rfl,rfl,by rw [hl];rfl⟩,fun b hb=>?_,q⟩
 have e:b=s.heap.objs.size:=by simpa using hb
 subst e
 exact I.vd (Nat.le_refl _) (I.hok.fresh (Nat.le_refl _))
theorem DZ {tg l:Expr} {tl:TE} (hK:B.K=X.K) (hl:PE X l tl):PI X tg l (IV B (BW X) tl):=by
 intro pins s Z H R I h
 refine aY (hl pins s Z H _ I h) fun v s1 ⟨x,H1,I1,r1,q1⟩=>?_
 rw [hK] at q1
 rcases q1 with ⟨a,e,⟨xs,hq⟩,q⟩ | ⟨a,e,⟨xs,hq⟩,q⟩ | ⟨a,kvs,e,hq,q⟩ | ⟨a,o,kvs,e,hq,q⟩
 ·subst e
  cases r1
  obtain ⟨its,rv,p,hz⟩:=I1.list hq
  refine wpAny_pyIter_list p.isList ?_
  refine ⟨s1.heap.objs.size,[s1.heap.objs.size],_,_,H1,rfl,I1.kept (t':=s1.toks) fun b o e=>Heap.get?_push_of_some _ e,uy a _,⟨_,Heap.get?_push_size _ rfl,rfl,rfl⟩,fun b hb=>?_,q⟩
  have e:b=s1.heap.objs.size:=by simpa using hb
  subst e
  exact I1.vd (Nat.le_refl _) (I1.hok.fresh (Nat.le_refl _))
 ·subst e
  cases r1
  obtain ⟨its,rv,p,hz⟩:=I1.tuple hq
  refine wpAny_pyIter_tuple (show s1.heap.IsTuple a its.toArray from p) ?_
  refine ⟨s1.heap.objs.size,[s1.heap.objs.size],_,_,H1,rfl,I1.kept (t':=s1.toks) fun b o e=>Heap.get?_push_of_some _ e,p9 a _,⟨_,Heap.get?_push_size _ rfl,rfl,rfl⟩,fun b hb=>?_,q⟩
  have e:b=s1.heap.objs.size:=by simpa using hb
  subst e
  exact I1.vd (Nat.le_refl _) (I1.hok.fresh (Nat.le_refl _))
 ·subst e
  cases r1
  have ob:=(show aW X.prog X.w H1 s1.heap a (.dK kvs) from I1.hok a _ hq)
  obtain ⟨z,hm,vs,rel,dd⟩:=id ob
  obtain ⟨o,es,ep,h1,h2,h3,h4⟩:=id dd
  have th:BW X a:=fun w u hz=>by
   have:=I1.base.fV a w u hz
   rw [hq] at this;cases this
  have I2:Inv X pins Z (upd H1 a (.fQ o (.dK kvs))) s1:=I1.write (x:=a) (e:=a) (t':=s1.toks) (h':=s1.heap) (by rw [hq];trivial) (.inl rfl) (fun b u _ e=>e) ⟨o,h1⟩ ⟨h1,ob⟩
  exact tU I2 ay (q o th)
 ·subst e
  cases r1
  exact tU I1 hq q
theorem Af {o i value:Expr} {to ti tv:TE} {pos pos':Pos} (hu:Rm X) (ho:PE X o to) (hi:PE X i ti) (hv:PE X value tv) (hs:swapsWith value (some (.Subscript o i pos')) pos.line X.env=pure false) :
  PS X (.Assign [.Subscript o i pos'] value pos) (B8 to ti tv):=by
 intro pins s Z H D I h
 refine wpAny_Assign_Subscript (aY (hv pins s Z H _ I h) fun r s1 ⟨v,H1,I1,rv,q1⟩=>aY (ho pins s1 Z H1 _ I1 q1) fun u s2 ⟨x,H2,I2,rx,q2⟩=>aY (hi pins s2 Z H2 _ I2 q2) fun iv s3 ⟨y,H3,I3,ry,q3⟩=>?_) hs
 rcases q3 with q3 | ⟨a,H4,ex,g,q3⟩
 ·exact aY (set_list pins s3 Z H3 x y v u iv r _ I3 rx ry rv q3) fun _ s4 ⟨H4,I4,q4⟩=>⟨Z,H4,I4,q4⟩
 ·subst ex
  obtain rfl:u=Value.ref a:=rx
  exact vf (by unfold Rm at hu;omega) I3 g ry rv fun s4 I4=>⟨Z,H4,I4,q3⟩
end
end Fg
end
section
namespace Fg
open PySem PySem.Spec L2
noncomputable def TM (B:Bd) (Φ:aQ) (E:Gx) (c:Es):L2.St->Hp->(Hp->Prop)->Prop:=fun Z H Q=>∃ (ZD:Sg) (M:MH) (F:Addr->Prop) (ρ:List Addr),
 SR B F ρ M H/\RS B F ρ H ZD Z/\ai (fun _ _ _ (_:Unit) (_:Unit)=>True) B (Bk Φ c ZD M) F ρ H (fun _ H'=>Q H') (fun cv x H'=>E.e cv x Z H')
section
variable {B:Bd} {Φ:aQ} {E:Gx} {F F' F0 F1:Addr->Prop} {ρ ρ' ρ0 ρ1:List Addr} {H H' H0 H1:Hp} {M M' M0:MH} {ZD:Sg} {Z:L2.St} {Dn:Ends}
theorem TM.nil {Q:Hp->Prop} (h:TM B Φ E .nil Z H Q):Q H:=by
 obtain ⟨ZD,M,F,ρ,S,r,h⟩:=h
 simp only [Bk] at h
 exact ai.run (v:=()) h S True.intro
theorem TM.cons {e:Fg.E} {es:Es} {Q:Hp->Prop} (h:TM B Φ E (.cons e es) Z H Q):T B Φ E e Z H fun v H1=>((∃ x:Str,v=.str x/\x.length<=100000)\/∃ i:Int,v=.int i/\i.natAbs<18446744073709551616)/\TM B Φ E es Z H1 Q:=by
 obtain ⟨ZD,M,F,ρ,S,r,h⟩:=h
 simp only [Bk] at h
 refine ⟨ZD,M,F,ρ,S,r,ai.imp (ai.bind (rel:=RD B) h) fun v H1 ⟨x,M1,F1,ρ1,e1,S1,rx,h1⟩=>?_⟩
 split at h1
 ·rename_i hs
  cases x with
  | str y =>
   simp only [RD] at rx
   simp only [bS,decide_eq_true_eq] at hs
   exact ⟨.inl ⟨y,rx,hs⟩,ZD,M1,F1,ρ1,S1,r.mono e1,h1⟩
  | ak=>simp [bS] at hs
  | bl _=>simp [bS] at hs
  | int i =>
   simp only [RD] at rx
   simp only [bS,decide_eq_true_eq] at hs
   exact ⟨.inr ⟨i,rx,hs⟩,ZD,M1,F1,ρ1,S1,r.mono e1,h1⟩
  | tup _=>simp [bS] at hs
  | lst _=>simp [bS] at hs
  | dct _ _=>simp [bS] at hs
  | ref _=>simp [bS] at hs
 ·exact h1.elim
end
inductive PJ (X:Cx) (B:Bd) (Φ:aQ) (E:Gx):List Expr->Es->Prop
 | nil:PJ X B Φ E [] .nil
 | lit {y:Str} {j:Nat} {p:Pos} {r:List Expr} {es:Es}:y.length<=100000->PJ X B Φ E r es->PJ X B Φ E (.Constant (.str y) j p::r) es
 | fld {v:Expr} {p:Pos} {r:List Expr} {e:Fg.E} {es:Es}:PE X v (T B Φ E e)->PJ X B Φ E r es->PJ X B Φ E (.FormattedValue v (-1) none p::r) (.cons e es)
theorem lB {i:Int} (h:i.natAbs<18446744073709551616):i.natAbs.log2<1920:=by
 by_cases h0:i.natAbs=0
 ·rw [h0];decide
 ·exact Nat.lt_of_lt_of_le ((Nat.log2_lt h0).mpr (show i.natAbs<2 ^ 64 from h)) (by decide)
theorem u5 {i:Int} (h:i.natAbs<18446744073709551616):(Str.ofString (toString i)).length<=100000:=by
 have e:=int_text_length_le (k:=1920) (by decide) (lB h)
 rw [ofString_length];omega
section
variable {X:Cx} {B:Bd} {Φ:aQ} {E:Gx}
theorem PJ.run {ps:List Expr} {es:Es} (h:PJ X B Φ E ps es):∀ {pins:List (Addr×Obj)} {s:Shared} {Z:L2.St} {H:Hp} {Q:Hp->Prop} {out:Str},Inv X pins Z H s->out.length+100000*ps.length<=sizeLine->TM B Φ E es Z H Q ->
  wpAny (model X.prog X.w) X.A (joinParts out (evalEach ps X.env)) (EP X pins Z fun v H'=>∃ y,v=.str y/\Q H') X.xe s:=by
 induction h with
 | nil =>
  intro pins s Z H Q out I hl q
  refine PyProof.Rows.joinParts_nil ⟨.str out,H,I.tok _,⟨_,rfl⟩,out,rfl,q.nil⟩ (by simpa using hl)
 | lit hy _ ih =>
  rename_i y j p r es _
  intro pins s Z H Q out I hl q
  simp only [List.length_cons] at hl
  refine PyProof.Rows.joinParts_cons ?_
  refine aY (qu pins s Z H (fun v H'=>v=.str y/\H'=H) I ⟨rfl,rfl⟩) fun u s1 ⟨v,H1,I1,rv,e1,e2⟩=>?_
  subst e1 e2
  obtain ⟨t,rfl⟩:=rv
  have hlen:(out++y).length<=out.length+100000:=by rw [strLen_append];omega
  exact ⟨by omega,ih I1 (by omega) q⟩
 | fld hv _ ih =>
  intro pins s Z H Q out I hl q
  simp only [List.length_cons] at hl
  refine PyProof.Rows.joinParts_cons (PyProof.Rows.FormattedValue_plain ?_)
  refine aY (hv pins s Z H _ I q.cons) fun u s1 ⟨v,H1,I1,rv,e0,q1⟩=>?_
  rcases e0 with ⟨x,e1,e2⟩ | ⟨i,e1,e2⟩
  ·subst e1
   obtain ⟨t,rfl⟩:=rv
   refine PyProof.Rows.formatField_str (fun t' tk=>?_) (by omega)
   have hlen:(out++x).length<=out.length+100000:=by rw [strLen_append];omega
   exact ⟨by omega,ih (I1.tok tk) (by omega) q1⟩
  ·subst e1
   obtain ⟨t,rfl⟩:=rv
   refine PyProof.Rows.formatField_int_small (lB e2) ?_
   have hlen:(out++Str.ofString (toString i)).length<=out.length+100000:=by rw [strLen_append];have:=u5 e2;omega
   exact ⟨by omega,ih (I1.tok _) (by omega) q1⟩
theorem D7 {ps:List Expr} {es:Es} {pos:Pos} (h:PJ X B Φ E ps es) (h2:2<=ps.length) (hl:ps.length<=100):PE X (.JoinedStr ps pos) (fun Z H Q=>TM B Φ E es Z H fun H'=>∀ y:Str,Q (.str y) H'):=by
 intro pins s Z H Q I q
 match ps,h2,h,hl with
 | v₁::v₂::rest,_,h,hl =>
  refine PyProof.Rows.JoinedStr_many ?_
  refine wpAny_mono (h.run (Q:=fun H'=>∀ y:Str,Q (.str y) H') I (by
   show 0+100000*(v₁::v₂::rest).length<=2 ^ 24
   omega) q) (fun u s1 ⟨v,H1,I1,rv,y,e,q1⟩=>⟨v,H1,I1,rv,by rw [e];exact q1 y⟩) fun _ _ z=>z
end
section
variable {B:Bd} {Φ:aQ} {E:Gx} {F F' F0 F1:Addr->Prop} {ρ ρ' ρ0 ρ1:List Addr} {H H' H0 H1:Hp} {M M' M0:MH} {ZD:Sg} {Z:L2.St} {Dn:Ends}
theorem kZ {c:Nat} {es:Es} {C:Addr} (hc:B.exc c (.ref C)) (h:TC B Φ E (.raise c es) Dn Z H):TM B Φ E es Z H fun H'=>E.e (.ref C) none Z H':=by
 obtain ⟨ZD,M,F,ρ,S,r,h⟩:=h
 simp only [ex] at h
 refine ⟨ZD,M,F,ρ,S,r,ai.imp (aN.use (rel:=fun _ _ _ (_:Unit) (_:Unit)=>True) r h) fun v H1 ⟨x,M1,F1,ρ1,e,S1,rx,h1⟩=>?_⟩
 exact aN.run h1 S1 Z _ none (r.mono e) hc
noncomputable def GR (B:Bd) (Φ:aQ) (E:Gx) (adr:Nat->Option Addr):Hs->Option (List (Addr×TS))
 | .nil=>some []
 | .cons [c] b hs=>match adr c,GR B Φ E adr hs with
  | some C,some r=>some ((C,vF B Φ E b)::r)
  | _,_=>none
 | .cons _ _ _=>none
theorem r6 {adr:Nat->Option Addr} {mro:List Value} {c:Nat} (hsub:∀ d D,adr d=some D->mro.contains (.ref D)=Φ.sub c d):∀ {hs:Hs} {rs:List (Addr×TS)},GR B Φ E adr hs=some rs->SR B F ρ M H->RS B F ρ H ZD Z->aN B (zc Φ hs c ZD M) F ρ H Dn E ->
  ∃ t,pick mro rs=some t/\t Dn Z H
 | .nil,rs,h,S,r,p=>by simp only [zc] at p;exact p.elim
 | .cons cs b hs,rs,h,S,r,p=>by
  unfold GR at h
  split at h
  ·rename_i heq;cases heq
  ·rename_i c' b' hs' heq
   cases heq
   split at h
   ·rename_i C r' hC hr
    cases h
    simp only [zc,List.any_cons,List.any_nil,Bool.or_false] at p
    simp only [pick,hsub _ _ hC]
    split at p
    ·rename_i hq
     rw [if_pos hq]
     exact ⟨_,rfl,ZD,M,F,ρ,S,r,p⟩
    ·rename_i hq
     rw [if_neg hq]
     exact r6 hsub hr S r p
   ·cases h
  ·cases h
end
end Fg
end
section
namespace Fg
open PySem PySem.Spec L2
noncomputable def GC (l:Bool) (h:Heap) (it a:Addr) (k:Nat):Prop:=match l with | true=>h.IsListIter it a k | false=>h.IsTupleIter it a k
noncomputable def BN (l:Bool) (h:Heap) (a:Addr) (xs:Array Value):Prop:=match l with | true=>h.IsList a xs | false=>h.IsTuple a xs
theorem GC.at {l:Bool} {h h':Heap} {it a:Addr} {k:Nat} (x:GC l h it a k) (e:∀ o,h.get? it=some o->h'.get? it=some o):GC l h' it a k:=by
 cases l <;> (obtain ⟨o,h1,h2⟩:=x;exact ⟨o,e o h1,h2⟩)
theorem BN.at {l:Bool} {h h':Heap} {a:Addr} {xs:Array Value} (x:BN l h a xs) (e:∀ o,h.get? a=some o->h'.get? a=some o):BN l h' a xs:=by
 cases l <;> (obtain ⟨o,h1,h2⟩:=x;exact ⟨o,e o h1,h2⟩)
section
variable {prog:Program} {w:World} {A:Around} {E:Value->Shared->Prop} {s:Shared}
end
end Fg
end
section
namespace Fg
open PySem PySem.Spec L2
section
variable {X:Cx} {pins:List (Addr×Obj)} {Z:L2.St} {H:Hp} {s:Shared} {h':Heap}
theorem BV {t':Nat} {ch:List Addr} (I:Inv X pins Z H s) (f:∀ b∈ch,kG X pins H b) (k:∀ b o,b∉ch->s.heap.get? b=some o->h'.get? b=some o):Inv X pins Z H { s with heap:=h',toks:=t' }:=by
 have off:∀ b u,H b=some u->b∉ch:=fun b u e z=>by rw [(f b z).1] at e;cases e
 refine I.step (g':=s.gens) (d':=s.drawn) (ch:=ch) (fun b hb=>?_) (fun b o _ _ hc e _=>k b o hc e) (fun b o _ _ hc e _=>⟨o.slots,k b o hc e⟩) (fun _ _ _ _ n=>n) (fun b o hc e=>⟨o,k b o hc e⟩) (fun _ _ e=>e) (fun _ _ _ e=>e) (fun b ps e=>⟨#[],by rw [e];simp⟩) (fun m hm=>?_) (fun b u e=>?_) I.bare
 ·obtain ⟨_,f1,_,f3,f4,f5⟩:=f b hb
  exact ⟨f3,f1,f4,f5⟩
 ·obtain ⟨o,es,ep,ho,r⟩:=hm
  exact ⟨o,es,ep,k _ o (fun z=>(f _ z).2.1 rfl) ho,r⟩
 ·refine (I.hok b u e).stay (fun c v hc q=>k c v ?_ q) (fun _ q=>q) fun _ _ q=>q
  rcases hc with z | z
  ·rw [z];exact off b u e
  ·exact off c _ z
end
section
variable {prog:Program} {w:World} {A:Around} {E:Value->Shared->Prop} {s:Shared}
end
noncomputable def SqB (l:Bool) (K:W.Frag) (H:Hp) (a:Addr) (xs:List V):Prop:=match l with | true=>fc K H a xs | false=>iO K H a xs
theorem SqB.at {l:Bool} {X:Cx} {pins:List (Addr×Obj)} {Z:L2.St} {H:Hp} {s:Shared} {a:Addr} {xs:List V} (I:Inv X pins Z H s) (q:SqB l X.K H a xs):∃ its:List Value,Vals xs its/\BN l s.heap a its.toArray:=by
 cases l with
 | true=>obtain ⟨its,rv,p,_⟩:=I.list q;exact ⟨its,rv,p.isList⟩
 | false=>obtain ⟨its,rv,p,_⟩:=I.tuple q;exact ⟨its,rv,p⟩
section
variable {B:Bd} {Φ:aQ} {E:Gx} {F F' F0 F1:Addr->Prop} {ρ ρ' ρ0 ρ1:List Addr} {H H' H0 H1:Hp} {M M' M0:MH} {ZD:Sg} {Z:L2.St} {Q:VK} {Dn:Ends}
end
end Fg
end
section
namespace Fg
open PySem PySem.Spec L2
noncomputable def GB (K:W.Frag) (a:Addr) (n:Nat):It :=
 ⟨fun i H=>i<n/\∃ xs x,fc K H a xs/\xs.length=n/\xs[n-1-i]? = some x,fun i H x H'=>H'=H/\∀ xs,fc K H a xs->xs[n-1-i]? = some x,fun i H=>n<=i⟩
theorem vH {P:Program} {w:World} {K:W.Frag} {tg:Expr} {a it:Addr} {n:Nat}:Turn P w K tg (GB K a n) [it] it (fun i h=>i<=n/\h.IsRevIter it a ((n:Int)-1-(i:Int))) where
 mem:=by simp
 obj:=fun i h st b hb=>by
  have e:b=it:=by simpa using hb
  subst e
  obtain ⟨_,o,e,c,d⟩:=st
  exact ⟨o,e,fun v z=>by rw [d] at z;cases z⟩
 keep:=fun i h h' st k=>⟨st.1,st.2.at fun o e=>k it (by simp) o e⟩
 item:=by
  intro X hP hw hK hc i pins s Z H E I hf st hg
  subst hP hw hK
  obtain ⟨hi,xs,x,q1,hn,hx⟩:=hg
  obtain ⟨its,rv,pl,z⟩:=I.list q1
  obtain ⟨u,hu,ru⟩:=rv.get hx
  have e:(n:Int)-1-(i:Int)=((n-1-i:Nat):Int):=by omega
  obtain ⟨_,st⟩:=st
  rw [e] at st
  refine wpAny_pyNext_rev_item st pl.isList (x:=u) (by simpa using hu) fun h' hit b=>⟨u,rfl,?_⟩
  have e2:((n-1-i:Nat):Int)-1=(n:Int)-1-((i+1:Nat):Int):=by omega
  rw [e2] at hit
  obtain ⟨o,ho,hcl,hd⟩:=id hit
  have I1:Inv X pins Z H { s with heap:=h' }:=BV (t':=s.toks) I (ch:=[it]) (fun c hc=>hf c hc) fun c o hc e=>b.extBut c o (by simpa using hc) e
  refine oV ho hcl hd (by decide) ⟨x,H,I1,ru,⟨rfl,fun ys q=>?_⟩,⟨by omega,hit⟩,fun c hc=>(hf c hc).1⟩
  rw [I.jS q q1];exact hx
 done:=by
  intro X hP hw hK hc i pins s Z H E I hf st hg
  subst hP hw hK
  obtain ⟨hi,st⟩:=st
  have hg':n<=i:=hg
  have e:(n:Int)-1-(i:Int)=-1:=by omega
  rw [e] at st
  exact wpAny_pyNext_rev_end (I.ok.hd hc) st fun h' b=>⟨rfl,BV (t':=s.toks) I (ch:=[it]) (fun c hc=>hf c hc) fun c o hc e=>b c o (by simpa using hc) e⟩
 self:=fun _ _ _ _ _ st h=>wpAny_pyIter_revIter st.2 h
noncomputable def IU (K:W.Frag) (t:TA):TI:=fun Z H R=>t Z H fun vs H1=>∃ a xs,vs=[.ref a]/\fc K H1 a xs/\R (GB K a xs.length) H1
theorem DY {X:Cx} {tg a:Expr} {t:TA} {p pos:Pos} (hg:Gl X "reversed") (hm:X.mg "reversed" = none) (ha:PA X [a] t) (hs:starEach [a] X.env=[(false, eval a X.env)]) :
  PI X tg (.Call (.Name "reversed" p) [a] [] pos) (IU X.K t):=by
 intro pins s Z H R I h
 refine PyProof.Rows.Call_ (jU I hg hm (show bootBuiltins ("reversed" : Str)=some (.type "reversed") by decide +kernel) (PyProof.Rows.callWith_type1 (aY (ha pos pins s Z H _ I h) fun us s1 ⟨vs, H1, I1, r1, q1⟩=>?_) (by rw [hs];rfl) (by rfl)))
 obtain ⟨c,xs,e,q,q2⟩:=q1
 subst e
 obtain ⟨u,rfl,ru⟩:=vals1 r1
 cases ru
 obtain ⟨its,rv,pl,z⟩:=I1.list q
 have l1:=rv.length
 refine call_reversed_list pl.isList ?_
 have I2:Inv X pins Z H1 { s1 with heap:=s1.heap.push (revObj c ((its.toArray.size:Int)-1)) }:=I1.kept (t':=s1.toks) fun c o e=>Heap.get?_push_of_some _ e
 have g0:(s1.heap.push (revObj c ((its.toArray.size:Int)-1))).IsRevIter s1.heap.objs.size c ((its.toArray.size:Int)-1):=⟨_,Heap.get?_push_size _ rfl,rfl,rfl⟩
 have g1:(s1.heap.push (revObj c ((its.toArray.size:Int)-1))).IsRevIter s1.heap.objs.size c ((xs.length:Int)-1-((0:Nat):Int)):=by
  have e:(xs.length:Int)-1-((0:Nat):Int)=(its.toArray.size:Int)-1:=by rw [List.size_toArray,l1];omega
  rw [e];exact g0
 refine wpAny_pyIter_revIter g0 ⟨_,[s1.heap.objs.size],_,_,H1,rfl,I2,vH,⟨Nat.zero_le _,g1⟩,fun x hx=>?_,q2⟩
 have e:x=s1.heap.objs.size:=by simpa using hx
 subst e
 exact I1.vd (Nat.le_refl _) (I1.hok.fresh (Nat.le_refl _))
section
variable {B:Bd} {Φ:aQ} {E:Gx} {F F' F0 F1:Addr->Prop} {ρ ρ' ρ0 ρ1:List Addr} {H H' H0 H1:Hp} {M M' M0:MH} {ZD:Sg} {Z:L2.St} {Q:VK} {Dn:Ends}
theorem zL {a:Fg.E} {Rr:It->Hp->Prop} (h:CV B Φ E (.rev a) Z H Rr):IU B.K (jy (T B Φ E a) lU) Z H Rr:=by
 obtain ⟨ZD,M,F,ρ,S,r,h⟩:=h
 show T B Φ E a Z H fun v H1=>∃ c xs,[v]=[.ref c]/\fc B.K H1 c xs/\Rr (GB B.K c xs.length) H1
 refine ⟨ZD,M,F,ρ,S,r,?_⟩
 cases hx:ev Φ a ZD M with
 | exc c M1 =>
  have he:bQ Φ (.rev a) ZD M=.exc c M1:=by simp only [bQ,hx,R.ku]
  rw [he] at h;exact h
 | bad =>
  have he:bQ Φ (.rev a) ZD M=.bad:=by simp only [bQ,hx,R.g9]
  rw [he] at h;exact h
 | ok x M1 =>
  intro F1 ρ1 H1 v e1 S1 rx
  cases hfx:sS x with
  | none =>
   have he:bQ Φ (.rev a) ZD M=.bad:=by simp only [bQ,hx,R.af,hfx]
   rw [he] at h;exact h.elim
  | some ds =>
   have he:bQ Φ (.rev a) ZD M=.ok (.ak,ds.reverse,false) M1:=by simp only [bQ,hx,R.af,hfx]
   rw [he] at h
   cases AN hfx
   simp only [RD] at rx
   obtain ⟨c,xs,rfl,z,q⟩:=rx
   have l1:=aj.length q
   refine ⟨c,xs,rfl,z.sq,h F1 ρ1 H1 _ e1 S1 fun M' hM S'=>?_⟩
   cases hM
   refine ⟨fun i F ρ M H ex S _=>⟨fun d0 hd=>?_,fun hl=>?_⟩,fun z=>by cases z⟩
   ·have zq:fc B.K H c xs:=by
     rcases z with ⟨f,z⟩ | z
     ·exact .inl (ex.toExt0.Jl.rd f z)
     ·exact .inr z
    have hi:i<ds.length:=by
     have:=(List.getElem?_eq_some_iff.mp hd).1
     simpa using this
    rw [List.getElem?_reverse hi,l1] at hd
    obtain ⟨v,hv,rv⟩:=aj.get (aj.mono ex _ _ q) hd
    refine ⟨⟨by omega,xs,v,zq,rfl,hv⟩,fun x H' ⟨e',hy⟩=>?_⟩
    subst e'
    have z2:=hy xs zq
    rw [hv] at z2
    cases z2
    exact ⟨F,S.refl,S,rv⟩
   ·rw [List.length_reverse,l1] at hl
    exact hl
end
end Fg
end
section
namespace Fg
open PySem PySem.Spec L2
section
variable {B:Bd} {Φ:aQ} {E:Gx} {F F' F1:Addr->Prop} {ρ ρ' ρ1:List Addr} {H H' H1:Hp} {M M':MH} {ZD:Sg} {Z:St} {Q:VK}
end
section
variable {X:Cx} {t:TA} {te ts:TE} {e st:Expr} {pos p2:Pos}
end
end Fg
end
section
namespace Fg
open PySem PySem.Spec L2
structure Gm where
 fns:List (Str×Nat×Nat)
 cst:List (Str×Nat)
 pQ:List Str
 cls:List (Str×Nat×Nat×Nat):=[]
 AK:List ((Nat×Str)×Nat×Nat):=[]
 Bb:List Str:=[]
 exc:List (Str×Nat):=[]
 Gd:List (Str×Nat×Nat×Int):=[]
 rz:Bool:=true
inductive Nd where
 | e (a:Expr) (c:E)
 | t (a:Expr) (c:E)
 | es (a:List Expr) (c:Es)
 | o (a:Option Expr) (c:O)
 | i (a:Expr) (c:Src)
 | s (a:Stmt) (c:S)
 | ss (a:List Stmt) (c:Ss)
 | m (a:List Expr) (c:Es)
noncomputable def nD (x:Str):Bool:=!(x == ("__debug__" : Str))&&!(x == ("__classdict__" : Str))
noncomputable def C0 (sc:Scope) (x:Str):Bool:=match sc.names.lookup x with | some .local=>true | some .cell=>true | some .free=>true | _=>false
noncomputable def AR (sc:Scope) (x:Str):Bool:=match sc.names.lookup x with | some .local=>true | some .cell=>true | _=>false
noncomputable def iF (sc:Scope) (x:Str):Bool:=match sc.names.lookup x with | some .globalImplicit=>true | _=>false
noncomputable def cB:Expr->Bool | .Starred _ _=>false | _=>true
noncomputable def ly:Expr->Bool | .ListComp _ _ _ _=>false | .SetComp _ _ _ _=>false | .DictComp _ _ _ _ _=>false | _=>true
noncomputable def xj:Expr->Bool | .Set _ _ _=>false | _=>true
noncomputable def nSl:Expr->Bool | .Slice _ _ _ _=>false | _=>true
noncomputable def qz:Expr->Bool | .UnaryOp _ _ _=>false | .BoolOp _ _ _=>false | .IfExp _ _ _ _=>false | .Compare _ _ _ _=>false | _=>true
noncomputable def xm:Expr->Bool | .Call (.Name _ _) _ _ _=>false | _=>true
noncomputable def Bx:Const->D->Bool
 | .int i,.int j=>decide (i=j)
 | .str x,.str y=>decide (x=y)
 | .bool a,.bl b=>decide (a=b)
 | .none,.ak=>true
 | _,_=>false
noncomputable def f1S:F1->Str
 | .abs=>"abs" | .int=>"int"
noncomputable def Cn:Mt->Option Str
 | .pop=>some "pop" | .reverse=>some "reverse" | _=>none
noncomputable def JH:Bl->Option Str
 | .len=>some "len" | .list=>some "list" | _=>none
noncomputable def wC (scope sc:Scope):Scope :=
 { scope with names:=scope.names.map fun (n,k)=>if (k == .free&&sc.kind == .function&&sc.names.lookup n == some .cell) then (n,.cell) else (n,k) }
noncomputable def AU (sc:Scope) (x:Str):Bool:=match sc.names.lookup x with | some .local=>true | _=>false
theorem aG {P:Prop} (h:false=true):P:=Bool.noConfusion h
@[irreducible] noncomputable def eG (a:Expr) (k:Str->Bool):Bool:=match a with | .Name x _=>k x | _=>false
theorem bN {a:Expr} {k:Str->Bool} (h:eG a k=true):∃ x p,a=.Name x p/\k x=true:=by
 unfold eG at h
 cases a <;> first | exact ⟨_,_,rfl,h⟩ | exact aG h
@[irreducible] noncomputable def kNm (a:Expr) (k:Str->Pos->Bool):Bool:=match a with | .Name x p=>k x p | _=>false
theorem IL {a:Expr} {k:Str->Pos->Bool} (h:kNm a k=true):∃ x p,a=.Name x p/\k x p=true:=by
 unfold kNm at h
 cases a <;> first | exact ⟨_,_,rfl,h⟩ | exact aG h
@[irreducible] noncomputable def AY (a:Expr) (k:Const->Bool):Bool:=match a with | .Constant c _ _=>k c | _=>false
theorem xM {a:Expr} {k:Const->Bool} (h:AY a k=true):∃ c j p,a=.Constant c j p/\k c=true:=by
 unfold AY at h
 cases a <;> first | exact ⟨_,_,_,rfl,h⟩ | exact aG h
@[irreducible] noncomputable def xJ (a:Expr) (k:List Expr->Bool):Bool:=match a with | .Tuple as _ _=>k as | _=>false
theorem jW {a:Expr} {k:List Expr->Bool} (h:xJ a k=true):∃ as c p,a=.Tuple as c p/\k as=true:=by
 unfold xJ at h
 cases a <;> first | exact ⟨_,_,_,rfl,h⟩ | exact aG h
@[irreducible] noncomputable def E8 (a:Expr) (k:List Expr->Bool):Bool:=match a with | .List as _=>k as | _=>false
theorem E7 {a:Expr} {k:List Expr->Bool} (h:E8 a k=true):∃ as p,a=.List as p/\k as=true:=by
 unfold E8 at h
 cases a <;> first | exact ⟨_,_,rfl,h⟩ | exact aG h
@[irreducible] noncomputable def Fl (a:Expr) (k:Expr->Operator->Expr->Bool):Bool:=match a with | .BinOp l p r _=>k l p r | _=>false
theorem Fj {a:Expr} {k:Expr->Operator->Expr->Bool} (h:Fl a k=true):∃ l o r p,a=.BinOp l o r p/\k l o r=true:=by
 unfold Fl at h
 cases a <;> first | exact ⟨_,_,_,_,rfl,h⟩ | exact aG h
@[irreducible] noncomputable def qJ:UnaryOp->Bool | .USub=>true | _=>false
@[irreducible] noncomputable def tF:UnaryOp->Bool | .Not=>true | _=>false
@[irreducible] noncomputable def IK (a:Expr) (k:UnaryOp->Expr->Bool):Bool:=match a with | .UnaryOp o l _=>k o l | _=>false
theorem xH {a:Expr} {k:UnaryOp->Expr->Bool} (h:IK a k=true):∃ o l p,a=.UnaryOp o l p/\k o l=true:=by
 unfold IK at h
 cases a <;> first | exact ⟨_,_,_,rfl,h⟩ | exact aG h
theorem xU {o:UnaryOp} (h:qJ o=true):o=.USub:=by
 unfold qJ at h
 cases o <;> first | rfl | exact aG h
theorem tE {o:UnaryOp} (h:tF o=true):o=.Not:=by
 unfold tF at h
 cases o <;> first | rfl | exact aG h
@[irreducible] noncomputable def iW:BoolOp->Bool | .And=>true | .Or=>false
theorem tG {o:BoolOp} (h:iW o=true):o=.And:=by
 unfold iW at h
 cases o <;> first | rfl | exact aG h
theorem xV {o:BoolOp} (h:iW o=false):o=.Or:=by
 unfold iW at h
 cases o <;> first | rfl | cases h
@[irreducible] noncomputable def GI (a:Expr) (k:BoolOp->Expr->Expr->Bool):Bool:=match a with
 | .BoolOp o vs p=>(match vs with
  | v::ws=>(match ws with
   | w::r=>k o v (.BoolOp o (w::r) p)
   | []=>false)
  | []=>false)
 | _=>false
theorem tu {a:Expr} {k:BoolOp->Expr->Expr->Bool} (h:GI a k=true):∃ o v w r p,a=.BoolOp o (v::w::r) p/\k o v (.BoolOp o (w::r) p)=true:=by
 unfold GI at h
 cases a with
 | BoolOp o vs p =>
  cases vs with
  | nil=>exact aG h
  | cons v ws=>cases ws with
   | nil=>exact aG h
   | cons w r=>exact ⟨_,_,_,_,_,rfl,h⟩
 | _=>exact aG h
@[irreducible] noncomputable def sM (a:Expr) (k:Expr->Bool) (d:Bool):Bool:=match a with
 | .BoolOp _ vs _=>(match vs with
  | v::ws=>(match ws with
   | []=>k v
   | _::_=>d)
  | []=>d)
 | _=>d
theorem sL {a:Expr} {k:Expr->Bool} {d:Bool} (h:sM a k d=true):(∃ o v p,a=.BoolOp o [v] p/\k v=true)\/d=true:=by
 unfold sM at h
 cases a with
 | BoolOp o vs p =>
  cases vs with
  | nil=>exact .inr h
  | cons v ws=>cases ws with
   | nil=>exact .inl ⟨_,_,_,rfl,h⟩
   | cons w r=>exact .inr h
 | _=>exact .inr h
@[irreducible] noncomputable def k1 {α:Type} (as:List α) (k:α->Bool):Bool:=match as with | l::r=>r.isEmpty&&k l | []=>false
theorem gP {α:Type} {as:List α} {k:α->Bool} (h:k1 as k=true):∃ l,as=[l]/\k l=true:=by
 unfold k1 at h
 cases as with
 | nil=>exact aG h
 | cons l r=>cases r with
  | nil=>exact ⟨_,rfl,h⟩
  | cons _ _=>exact aG h
@[irreducible] noncomputable def k2 {α:Type} (as:List α) (k:α->α->Bool):Bool:=match as with | l::r=>k1 r (k l) | []=>false
theorem Fo {α:Type} {as:List α} {k:α->α->Bool} (h:k2 as k=true):∃ l r,as=[l,r]/\k l r=true:=by
 unfold k2 at h
 cases as with
 | nil=>exact aG h
 | cons l r =>
  replace h:=gP h
  obtain ⟨x,rfl,h⟩:=h
  exact ⟨_,_,rfl,h⟩
@[irreducible] noncomputable def AZ (a:Expr) (k:Expr->CmpOp->Expr->Bool):Bool:=match a with | .Compare l ps rs _=>k1 ps fun p=>k1 rs fun r=>k l p r | _=>false
theorem xN {a:Expr} {k:Expr->CmpOp->Expr->Bool} (h:AZ a k=true):∃ l o r p,a=.Compare l [o] [r] p/\k l o r=true:=by
 unfold AZ at h
 cases a with
 | Compare l ps rs p =>
  replace h:=gP h
  obtain ⟨o,rfl,h⟩:=h
  replace h:=gP h
  obtain ⟨r,rfl,h⟩:=h
  exact ⟨_,_,_,_,rfl,h⟩
 | _=>exact aG h
@[irreducible] noncomputable def Fd (a:Expr) (k:Expr->Expr->Expr->Bool):Bool:=match a with | .IfExp u l r _=>k u l r | _=>false
theorem Fc {a:Expr} {k:Expr->Expr->Expr->Bool} (h:Fd a k=true):∃ u l r p,a=.IfExp u l r p/\k u l r=true:=by
 unfold Fd at h
 cases a <;> first | exact ⟨_,_,_,_,rfl,h⟩ | exact aG h
@[irreducible] noncomputable def xK (a:Expr) (k:Expr->Expr->Bool):Bool:=match a with | .Subscript l r _=>k l r | _=>false
theorem qF {a:Expr} {k:Expr->Expr->Bool} (h:xK a k=true):∃ l r p,a=.Subscript l r p/\k l r=true:=by
 unfold xK at h
 cases a <;> first | exact ⟨_,_,_,rfl,h⟩ | exact aG h
@[irreducible] noncomputable def EY (a:Expr) (k:Option Expr->Option Expr->Bool):Bool:=match a with | .Slice u v s _=>s.isNone&&k u v | _=>false
theorem EW {a:Expr} {k:Option Expr->Option Expr->Bool} (h:EY a k=true):∃ u v p,a=.Slice u v none p/\k u v=true:=by
 unfold EY at h
 cases a with
 | Slice u v s p=>cases s with
  | none=>exact ⟨_,_,_,rfl,h⟩
  | some _=>exact aG h
 | _=>exact aG h
@[irreducible] noncomputable def A0 (a:Expr) (k:Expr->List Expr->Pos->Bool):Bool:=match a with | .Call f as kw p=>kw.isEmpty&&k f as p | _=>false
theorem xO {a:Expr} {k:Expr->List Expr->Pos->Bool} (h:A0 a k=true):∃ f as p,a=.Call f as [] p/\k f as p=true:=by
 unfold A0 at h
 cases a with
 | Call f as kw p=>cases kw with
  | nil=>exact ⟨_,_,_,rfl,h⟩
  | cons _ _=>exact aG h
 | _=>exact aG h
@[irreducible] noncomputable def yY (a:Expr) (k:Str->List Expr->Bool):Bool:=A0 a fun f as _=>eG f fun x=>k x as
theorem iV {a:Expr} {k:Str->List Expr->Bool} (h:yY a k=true):∃ x q as p,a=.Call (.Name x q) as [] p/\k x as=true:=by
 unfold yY at h
 replace h:=xO h
 obtain ⟨f,as,p,rfl,h⟩:=h
 replace h:=bN h
 obtain ⟨x,q,rfl,h⟩:=h
 exact ⟨_,_,_,_,rfl,h⟩
@[irreducible] noncomputable def xP (a:Expr) (k:Expr->Str->Pos->Bool):Bool:=match a with | .Attribute o y p=>k o y p | _=>false
theorem qG {a:Expr} {k:Expr->Str->Pos->Bool} (h:xP a k=true):∃ o y p,a=.Attribute o y p/\k o y p=true:=by
 unfold xP at h
 cases a <;> first | exact ⟨_,_,_,rfl,h⟩ | exact aG h
@[irreducible] noncomputable def Km (a:Expr) (k:Expr->Str->Pos->List Expr->Pos->Bool):Bool:=A0 a fun f as p=>xP f fun o y q=>k o y q as p
theorem Ct {a:Expr} {k:Expr->Str->Pos->List Expr->Pos->Bool} (h:Km a k=true):∃ o y q as p,a=.Call (.Attribute o y q) as [] p/\k o y q as p=true:=by
 unfold Km at h
 replace h:=xO h
 obtain ⟨f,as,p,rfl,h⟩:=h
 replace h:=qG h
 obtain ⟨o,y,q,rfl,h⟩:=h
 exact ⟨_,_,_,_,_,rfl,h⟩
@[irreducible] noncomputable def Kl (a:Expr) (k:Expr->Expr->Expr->List Expr->Scope->Pos->Bool):Bool:=match a with
 | .ListComp el gs scope p=>k1 gs fun g=>decide (g.is_async=0)&&k el g.target g.iter g.ifs scope p
 | _=>false
theorem Cs {a:Expr} {k:Expr->Expr->Expr->List Expr->Scope->Pos->Bool} (h:Kl a k=true):∃ el tn it ifs sc p,a=.ListComp el [⟨tn,it,ifs,0⟩] sc p/\k el tn it ifs sc p=true:=by
 unfold Kl at h
 cases a with
 | ListComp el gs sc p =>
  replace h:=gP h
  obtain ⟨g,rfl,h⟩:=h
  obtain ⟨tn,it,ifs,j⟩:=g
  have h:=(Bool.and_eq_true _ _).mp h
  have e:j=0:=of_decide_eq_true h.1
  subst e
  exact ⟨_,_,_,_,_,_,rfl,h.2⟩
 | _=>exact aG h
@[irreducible] noncomputable def E6 (a:Expr) (d:Bool) (k:List Expr->Bool):Bool:=match a with
 | .Constant c _ _=>(match c with | .str _=>d | _=>false)
 | .JoinedStr vs _=>k vs
 | _=>false
theorem E5 {a:Expr} {d:Bool} {k:List Expr->Bool} (h:E6 a d k=true):(∃ x j p,a=.Constant (.str x) j p/\d=true)\/∃ vs p,a=.JoinedStr vs p/\k vs=true:=by
 unfold E6 at h
 cases a with
 | Constant c j p=>cases c with
  | str x=>exact .inl ⟨_,_,_,rfl,h⟩
  | _=>exact aG h
 | JoinedStr vs p=>exact .inr ⟨_,_,rfl,h⟩
 | _=>exact aG h
@[irreducible] noncomputable def E4 (a:Expr) (s:Str->Bool) (k:Expr->Int->Bool):Bool:=match a with
 | .Constant c _ _=>(match c with | .str y=>s y | _=>false)
 | .FormattedValue v j f _=>f.isNone&&k v j
 | _=>false
theorem E3 {a:Expr} {s:Str->Bool} {k:Expr->Int->Bool} (h:E4 a s k=true):(∃ y j p,a=.Constant (.str y) j p/\s y=true)\/∃ v j p,a=.FormattedValue v j none p/\k v j=true:=by
 unfold E4 at h
 cases a with
 | Constant c j p=>cases c with
  | str x=>exact .inl ⟨_,_,_,rfl,h⟩
  | _=>exact aG h
 | FormattedValue v j f p=>cases f with
  | none=>exact .inr ⟨_,_,_,rfl,h⟩
  | some _=>exact aG h
 | _=>exact aG h
@[irreducible] noncomputable def qH (a:Stmt) (k:Expr->Expr->Bool):Bool:=match a with | .Assign ts e _=>k1 ts fun t=>k t e | _=>false
theorem jX {a:Stmt} {k:Expr->Expr->Bool} (h:qH a k=true):∃ t e p,a=.Assign [t] e p/\k t e=true:=by
 unfold qH at h
 cases a with
 | Assign ts e p =>
  replace h:=gP h
  obtain ⟨t,rfl,h⟩:=h
  exact ⟨_,_,_,rfl,h⟩
 | _=>exact aG h
@[irreducible] noncomputable def Fi (a:Stmt) (k:Expr->Bool):Bool:=match a with | .Expr e _=>k e | _=>false
theorem Ff {a:Stmt} {k:Expr->Bool} (h:Fi a k=true):∃ e p,a=.Expr e p/\k e=true:=by
 unfold Fi at h
 cases a <;> first | exact ⟨_,_,rfl,h⟩ | exact aG h
@[irreducible] noncomputable def E0 (a:Stmt) (d:Bool) (k:Expr->Bool):Bool:=match a with
 | .Return o _=>(match o with | some e=>k e | none=>d)
 | _=>false
theorem EZ {a:Stmt} {d:Bool} {k:Expr->Bool} (h:E0 a d k=true):(∃ p,a=.Return none p/\d=true)\/∃ e p,a=.Return (some e) p/\k e=true:=by
 unfold E0 at h
 cases a with
 | Return o p=>cases o with
  | none=>exact .inl ⟨_,rfl,h⟩
  | some e=>exact .inr ⟨_,_,rfl,h⟩
 | _=>exact aG h
@[irreducible] noncomputable def Fb (a:Stmt) (k:Expr->List Stmt->List Stmt->Bool):Bool:=match a with | .If t l r _=>k t l r | _=>false
theorem E9 {a:Stmt} {k:Expr->List Stmt->List Stmt->Bool} (h:Fb a k=true):∃ t l r p,a=.If t l r p/\k t l r=true:=by
 unfold Fb at h
 cases a <;> first | exact ⟨_,_,_,_,rfl,h⟩ | exact aG h
@[irreducible] noncomputable def kFor (a:Stmt) (k:Expr->Expr->List Stmt->Bool):Bool:=match a with | .For t i b e _=>e.isEmpty&&k t i b | _=>false
theorem Fe {a:Stmt} {k:Expr->Expr->List Stmt->Bool} (h:kFor a k=true):∃ t i b p,a=.For t i b [] p/\k t i b=true:=by
 unfold kFor at h
 cases a with
 | For t i b e p=>cases e with
  | nil=>exact ⟨_,_,_,_,rfl,h⟩
  | cons _ _=>exact aG h
 | _=>exact aG h
@[irreducible] noncomputable def kWh (a:Stmt) (k:Expr->List Stmt->Bool):Bool:=match a with | .While t b e _=>e.isEmpty&&k t b | _=>false
theorem IJ {a:Stmt} {k:Expr->List Stmt->Bool} (h:kWh a k=true):∃ t b p,a=.While t b [] p/\k t b=true:=by
 unfold kWh at h
 cases a with
 | While t b e p=>cases e with
  | nil=>exact ⟨_,_,_,rfl,h⟩
  | cons _ _=>exact aG h
 | _=>exact aG h
@[irreducible] noncomputable def E2 (a:Stmt) (k:Expr->Bool):Bool:=match a with
 | .Raise o c _=>c.isNone&&(match o with | some e=>k e | none=>false)
 | _=>false
theorem E1 {a:Stmt} {k:Expr->Bool} (h:E2 a k=true):∃ e p,a=.Raise (some e) none p/\k e=true:=by
 unfold E2 at h
 cases a with
 | Raise o c p=>cases c with
  | none=>cases o with
   | none=>exact aG h
   | some e=>exact ⟨_,_,rfl,h⟩
  | some _=>exact aG h
 | _=>exact aG h
@[irreducible] noncomputable def EV (a:Stmt) (k:List Stmt->List ExceptHandler->Bool):Bool:=match a with
 | .Try bd hs e f _=>e.isEmpty&&(f.isEmpty&&(!hs.isEmpty&&k bd hs))
 | _=>false
theorem EU {a:Stmt} {k:List Stmt->List ExceptHandler->Bool} (h:EV a k=true):∃ bd h₀ hr p,a=.Try bd (h₀::hr) [] [] p/\k bd (h₀::hr)=true:=by
 unfold EV at h
 cases a with
 | Try bd hs e f p=>cases e with
  | nil=>cases f with
   | nil=>cases hs with
    | nil=>exact aG h
    | cons _ _=>exact ⟨_,_,_,_,rfl,h⟩
   | cons _ _=>exact aG h
  | cons _ _=>exact aG h
 | _=>exact aG h
@[irreducible] noncomputable def kHd (a:ExceptHandler) (k:Expr->List Stmt->Bool):Bool:=match a with
 | .ExceptHandler t n b _=>n.isNone&&(match t with | some t=>k t b | none=>false)
theorem IM {a:ExceptHandler} {k:Expr->List Stmt->Bool} (h:kHd a k=true):∃ t b p,a=.ExceptHandler (some t) none b p/\k t b=true:=by
 unfold kHd at h
 cases a with
 | ExceptHandler t n b p=>cases n with
  | none=>cases t with
   | none=>exact aG h
   | some t=>exact ⟨_,_,_,rfl,h⟩
  | some _=>exact aG h
@[irreducible] noncomputable def lH:Es->Bool | .nil=>true | .cons _ _=>false
theorem g5 {c:Es} (h:lH c=true):c=.nil:=by
 unfold lH at h
 cases c <;> first | rfl | exact aG h
@[irreducible] noncomputable def nQ:Ss->Bool | .nil=>true | .cons _ _=>false
theorem lW {c:Ss} (h:nQ c=true):c=.nil:=by
 unfold nQ at h
 cases c <;> first | rfl | exact aG h
@[irreducible] noncomputable def x9:Hs->Bool | .nil=>true | .cons _ _ _=>false
theorem A4 {c:Hs} (h:x9 c=true):c=.nil:=by
 unfold x9 at h
 cases c <;> first | rfl | exact aG h
@[irreducible] noncomputable def Ko (c:Es) (k:E->Es->Bool):Bool:=match c with | .cons e es=>k e es | .nil=>false
theorem xQ {c:Es} {k:E->Es->Bool} (h:Ko c k=true):∃ e es,c=.cons e es/\k e es=true:=by
 unfold Ko at h
 cases c <;> first | exact ⟨_,_,rfl,h⟩ | exact aG h
@[irreducible] noncomputable def Kn (c:Ss) (k:S->Ss->Bool):Bool:=match c with | .cons e es=>k e es | .nil=>false
theorem Cu {c:Ss} {k:S->Ss->Bool} (h:Kn c k=true):∃ e es,c=.cons e es/\k e es=true:=by
 unfold Kn at h
 cases c <;> first | exact ⟨_,_,rfl,h⟩ | exact aG h
@[irreducible] noncomputable def jHs (c:Hs) (k:List Nat->Ss->Hs->Bool):Bool:=match c with | .cons a b d=>k a b d | .nil=>false
theorem IP {c:Hs} {k:List Nat->Ss->Hs->Bool} (h:jHs c k=true):∃ a b d,c=.cons a b d/\k a b d=true:=by
 unfold jHs at h
 cases c <;> first | exact ⟨_,_,_,rfl,h⟩ | exact aG h
@[irreducible] noncomputable def Fq (c:S) (k:Nat->E->Bool):Bool:=match c with | .set i e=>k i e | _=>false
theorem Fp {c:S} {k:Nat->E->Bool} (h:Fq c k=true):∃ i e,c=.set i e/\k i e=true:=by
 unfold Fq at h
 cases c <;> first | exact ⟨_,_,rfl,h⟩ | exact aG h
@[irreducible] noncomputable def jK (c:E) (k:D->Bool):Bool:=match c with | .k d=>k d | _=>false
theorem jK_t {c:E} {k:D->Bool} (h:jK c k=true):∃ d,c=.k d/\k d=true:=by
 unfold jK at h
 cases c <;> first | exact ⟨_,rfl,h⟩ | exact aG h
@[irreducible] noncomputable def xR (c:E) (k:List Nat->List Nat->E->Src->O->Bool) (d:Bool):Bool:=match c with | .comp _ caps tg elt it cond=>k caps tg elt it cond | _=>d
theorem A2 {c:E} {k:List Nat->List Nat->E->Src->O->Bool} {d:Bool} (h:xR c k d=true):(∃ fz caps tg elt it cond,c=.comp fz caps tg elt it cond/\k caps tg elt it cond=true)\/d=true:=by
 unfold xR at h
 cases c <;> first | exact .inl ⟨_,_,_,_,_,_,rfl,h⟩ | exact .inr h
noncomputable def Iu (N:List Str) (sc:Scope) (i:Nat) (x:Str):Bool:=decide (N[i]? = some x)&&AU sc x
noncomputable def AI (N:List Str) (sc:Scope):List Expr->List Nat->Bool
 | [],[]=>true
 | a::as,i::is=>eG a (fun x=>Iu N sc i x)&&AI N sc as is
 | _,_=>false
noncomputable def GY (N:List Str) (sc:Scope) (t:Expr) (is:List Nat):Bool:=match is with
 | []=>false
 | i::r=>match r with
  | []=>eG t fun x=>Iu N sc i x
  | j::r=>match r with
   | []=>xJ t fun as=>k2 as fun l r=>eG l fun x=>eG r fun y=>Iu N sc i x&&Iu N sc j y
   | l::r=>xJ t fun as=>AI N sc as (i::j::l::r)
noncomputable def Kp:Src->Bool | .zip _ _=>true | _=>false
noncomputable def isTup:Expr->Bool | .Tuple _ _ _=>true | _=>false
noncomputable def IS:Expr->Bool | .Call _ _ _ _=>true | .Name _ _=>true | .Subscript _ _ _=>true | _=>false
noncomputable def eN (N:List Str) (caps:List Nat) (tn:List Str):List Str:=(caps.map fun i=>(N[i]?).getD ("" : Str))++tn
noncomputable def nmOf:Expr->Str
 | .Name x _=>x
 | _=>""
noncomputable def cK:Expr->List Str
 | .Name x _=>[x]
 | .Tuple as _ _=>as.map nmOf
 | _=>[]
noncomputable def yE (N:List Str) (sc scope:Scope) (caps:List Nat) (tn:List Str):Bool :=
 (scope.names.all fun y=>match y.2 with
  | .free=>(match sc.names.lookup y.1 with | some .cell=>true | some .free=>true | _=>false)
  | .cell=>false
  | .local=>(match scope.names.lookup y.1 with | some .local=>true | _=>false)
  | _=>true)&&(scope.kind == .function) &&
 (caps.all fun i=>match N[i]? with
  | some x=>(match scope.names.lookup x with | some .free=>true | _=>false)
  | none=>false)&&decide ((eN N caps tn).Nodup)
noncomputable def vP (sc scope:Scope) (x:Str) (px pv:Pos):Bool :=
 ((if sc.kind.isAnnotationScope then .function else sc.kind) == .function)&&sc.names.lookup x == some .local&&px.line == pv.line&&!(scope.names.any fun (n,k)=>n == x&&(k == .local||k == .cell))
noncomputable def hdB (G:Gm) (N:List Str) (sc:Scope):List ExceptHandler->Hs->Bool
 | [],hs=>x9 hs
 | h::r,hs=>kHd h fun t bd=>eG t fun x=>k1 bd fun st=>qH st fun ty e=>eG ty fun y=>AY e fun k=>jHs hs fun cs b hs=>k1 cs fun c=>Kn b fun s ss=>nQ ss&&Fq s fun i v=>jK v fun d =>
  iF sc x&&nD x&&decide (G.exc.lookup x=some c)&&decide (N[i]? = some y)&&AR sc y&&Bx k d&&hdB G N sc r hs
noncomputable abbrev Rec:=Gm->Bool->List Str->Scope->Nd->Bool
noncomputable def ifsB (ifs:List Expr) (cond:O) (k:Expr->E->Bool):Bool:=match cond with
 | .none=>ifs.isEmpty
 | .some d=>k1 ifs fun c=>k c d
noncomputable def Kg (r:Rec) (G:Gm) (b:Bool) (N:List Str) (sc:Scope) (caps tg:List Nat) (elt:E) (it:Src) (cond:O) (el tn iter:Expr) (ifs:List Expr) (scope:Scope):Bool :=
 (!Kp it||isTup tn)&&xj iter&&yE N sc scope caps (cK tn)&&r G b N sc (.i iter it) &&
  GY (eN N caps (cK tn)) (wC scope sc) tn tg&&r G true (eN N caps (cK tn)) (wC scope sc) (.e el elt) &&
  ifsB ifs cond fun c d=>r G true (eN N caps (cK tn)) (wC scope sc) (.t c d)
noncomputable def IQ:Mt->Bool | .append=>true | .extend=>true | _=>false
noncomputable def IB:Mt->Str | .append=>"append" | _=>"extend"
noncomputable def chkE (r:Rec) (G:Gm) (b:Bool) (N:List Str) (sc:Scope) (a:Expr) (c:E):Bool:=match c with
 | .bad=>true
 | .v i=>eG a fun x=>decide (N[i]? = some x)&&C0 sc x&&nD x
 | .k d=>AY a fun k=>Bx k d
 | .g i=>eG a fun x=>iF sc x&&decide (G.cst.lookup x=some i)&&nD x
 | .tup cs=>xJ a fun as=>decide (as.length<=100)&&r G b N sc (.es as cs)
 | .lst _ cs=>E8 a fun as=>decide (as.length<=100)&&r G b N sc (.es as cs)
 | .op o _ x y=>Fl a fun l p q=>decide (p=binOp o)&&r G b N sc (.e l x)&&r G b N sc (.e q y)
 | .neg x=>IK a fun o l=>qJ o&&r G b N sc (.e l x)
 | .not x=>IK a fun o l=>tF o&&r G b N sc (.e l x)
 | .and x y=>GI a fun o v w=>iW o&&r G b N sc (.e v x)&&r G b N sc (.e w y)
 | .or x y=>GI a fun o v w=>!iW o&&r G b N sc (.e v x)&&r G b N sc (.e w y)
 | .cmp o x y=>AZ a fun l p q=>decide (p=yF o)&&!(behindInMarks p q)&&r G b N sc (.e l x)&&r G b N sc (.e q y)
 | .x6 t x y=>Fd a fun u l q=>r G b N sc (.t u t)&&r G b N sc (.e l x)&&r G b N sc (.e q y)
 | .idx x y=>xK a fun l q=>nSl q&&r G b N sc (.e l x)&&r G b N sc (.e q y)
 | .sl _ x lo hi=>xK a fun l q=>EY q fun u v=>r G b N sc (.e l x)&&r G b N sc (.o u lo)&&r G b N sc (.o v hi)
 | .call f cs=>yY a fun x as=>iF sc x&&nD x&&decide (G.fns.lookup x=some (f,as.length))&&as.all cB&&r G b N sc (.es as cs)
 | .lD x t=>yY a fun y as=>k2 as fun l z'=>eG z' fun z=>decide (y = "isinstance")&&decide (z=Str.ofString (nJ t))&&iF sc y&&iF sc z&&G.pQ.contains y&&G.pQ.contains z&&cB l&&r G b N sc (.e l x)
 | .blt k _ cs=>yY a fun y as=>k1 as fun l=>decide (JH k=some y)&&iF sc y&&G.pQ.contains y&&cB l&&r G b N sc (.es [l] cs)
 | .aK m _ x cs=>Km a fun o y ap as cp=>xm o&&(ap.endLine == cp.line)&&r G b N sc (.e o x) &&
  bif IQ m then decide (IB m=y)&&k1 as fun l=>cB l&&r G b N sc (.es [l] cs)
  else decide (Cn m=some y)&&as.isEmpty&&lH cs
 | .comp _ caps tg elt it cond=>!b&&Kl a fun el tn iter ifs scope _=>Kg r G b N sc caps tg elt it cond el tn iter ifs scope
 | .fld x f=>xP a fun l y _=>decide (y=f)&&G.Bb.contains f&&xm l&&r G b N sc (.e l x)
 | .cY c m nm x cs=>Km a fun o y ap as cp=>decide (y=nm)&&xm o&&(ap.endLine == cp.line)&&decide (as.length<29)&&decide (G.AK.lookup (c,nm)=some (m,as.length+1))&&as.all cB&&r G b N sc (.e o x)&&r G b N sc (.es as cs)
 | .new c i cs=>yY a fun x as=>iF sc x&&nD x&&decide (G.cls.lookup x=some (c,i,as.length+1))&&as.all cB&&r G b N sc (.es as cs)
 | .j3 f x=>yY a fun y as=>k1 as fun l=>decide (f1S f=y)&&iF sc y&&G.pQ.contains y&&cB l&&r G b N sc (.e l x)
 | _=>false
noncomputable def chkT (r:Rec) (G:Gm) (b:Bool) (N:List Str) (sc:Scope) (a:Expr) (c:E):Bool:=match c with
 | .bad=>true
 | .cmp o x y=>AZ a fun l p q=>decide (p=yF o)&&!(behindInMarks p q)&&r G b N sc (.e l x)&&r G b N sc (.e q y)
 | .not x=>IK a fun o l=>tF o&&r G b N sc (.t l x)
 | .and x y=>GI a fun o v w=>iW o&&r G b N sc (.t v x)&&r G b N sc (.t w y)
 | .or x y=>GI a fun o v w=>!iW o&&r G b N sc (.t v x)&&r G b N sc (.t w y)
 | c=>qz a&&r G b N sc (.e a c)
noncomputable def chkI (r:Rec) (G:Gm) (b:Bool) (N:List Str) (sc:Scope) (a:Expr) (c:Src):Bool:=match c with
 | .e c=>xj a&&r G b N sc (.e a c)
 | .eF c=>yY a fun y as=>k1 as fun l=>decide (y = "range")&&iF sc y&&G.pQ.contains y&&cB l&&r G b N sc (.e l c)
 | .rev c=>yY a fun y as=>k1 as fun l=>decide (y = "reversed")&&iF sc y&&G.pQ.contains y&&cB l&&r G b N sc (.e l c)
 | _=>false
noncomputable def chkS (r:Rec) (G:Gm) (b:Bool) (N:List Str) (sc:Scope) (a:Stmt) (c:S):Bool:=match c with
 | .bad=>true
 | .set i c=>qH a fun t e=>kNm t fun x px=>!b&&decide (N[i]? = some x)&&AR sc x&&xR c (fun caps tg elt it cond=>Kl e fun el tn iter ifs scope lp =>
    bif vP sc scope x px lp then Kg r G b N sc caps tg elt it cond el tn iter ifs scope&&AU sc x else r G b N sc (.e e c)) (ly e&&r G b N sc (.e e c))
 | .qi x y c=>qH a fun t e=>xK t fun o i=>ly e&&r G b N sc (.e e c)&&r G b N sc (.e o x)&&r G b N sc (.e i y)
 | .BS tg c=>qH a fun tn e=>!b&&isTup tn&&GY N sc tn tg&&IS e&&r G b N sc (.e e c)
 | .bK x f c=>qH a fun t e=>xP t fun o y _=>decide (y=f)&&G.Bb.contains f&&ly e&&r G b N sc (.e e c)&&r G b N sc (.e o x)
 | .ex c=>Fi a fun e=>ly e&&r G b N sc (.e e c)
 | .ret c=>E0 a false fun e=>r G b N sc (.e e c)
 | .ifs c x y=>Fb a fun t l q=>r G b N sc (.t t c)&&r G b N sc (.ss l x)&&r G b N sc (.ss q y)
 | .for tg it x=>kFor a fun tn iter body=>!b&&(!Kp it||isTup tn)&&xj iter&&r G b N sc (.i iter it)&&GY N sc tn tg&&r G b N sc (.ss body x)
 | .while c x=>kWh a fun t body=>r G b N sc (.t t c)&&r G b N sc (.ss body x)
 | .raise c es=>!b&&G.rz&&E2 a fun e=>yY e fun x as=>k1 as fun m=>iF sc x&&nD x&&decide (G.exc.lookup x=some c) &&
   E6 m (lH es) fun vs=>decide (2<=vs.length)&&decide (vs.length<=100)&&r G b N sc (.m vs es)
 | .try x hs els=>!b&&nQ els&&EV a fun bd hds=>r { G with rz:=false } b N sc (.ss bd x)&&hdB G N sc hds hs
 | _=>false
noncomputable def stp (r:Rec) (G:Gm) (b:Bool) (N:List Str) (sc:Scope) (nd:Nd):Bool:=match nd with
 | .e a c=>sM a (fun v=>r G b N sc (.e v c)) (chkE r G b N sc a c)
 | .t a c=>sM a (fun v=>r G b N sc (.t v c)) (chkT r G b N sc a c)
 | .es as cs=>(match as with
  | []=>lH cs
  | a::as=>Ko cs fun c cs=>cB a&&r G b N sc (.e a c)&&r G b N sc (.es as cs))
 | .o a c=>(match c with
  | .none=>a.isNone
  | .some c=>(match a with
   | some a=>r G b N sc (.e a c)
   | none=>false))
 | .i a c=>chkI r G b N sc a c
 | .s a c=>chkS r G b N sc a c
 | .ss as cs=>(match as with
  | []=>nQ cs
  | a::as=>Kn cs fun c cs=>r G b N sc (.s a c)&&r G b N sc (.ss as cs))
 | .m as cs=>(match as with
  | []=>lH cs
  | a::as=>E4 a (fun y=>decide (y.length<=100000)&&r G b N sc (.m as cs)) fun v k=>Ko cs fun e es=>decide (k=-1)&&r G b N sc (.e v e)&&r G b N sc (.m as es))
noncomputable def Gh:Nat->Rec
 | 0=>fun _ _ _ _ _=>false
 | n+1=>stp (Gh n)
noncomputable abbrev eY (G:Gm) (n:Nat) (b:Bool) (N:List Str) (sc:Scope) (nd:Nd):Bool:=Gh n G b N sc nd
end Fg
end
section
namespace Fg
open PySem PySem.Spec L2
section
variable {X:Cx}
theorem PE.weak {e:Expr} {t t':TE} (h:PE X e t) (w:∀ Z H Q,t' Z H Q->t Z H Q):PE X e t':=fun pins s Z H Q I q=>h pins s Z H Q I (w Z H Q q)
theorem PT.weak {e:Expr} {t t':TT} (h:PT X e t) (w:∀ Z H Q,t' Z H Q->t Z H Q):PT X e t':=fun pins s Z H Q I q=>h pins s Z H Q I (w Z H Q q)
theorem PW.weak {e:Expr} {t t':TT} (h:PW X e t) (w:∀ Z H Q,t' Z H Q->t Z H Q):PW X e t':=fun wh pins s Z H Q I q=>h wh pins s Z H Q I (w Z H Q q)
theorem PA.weak {e:List Expr} {t t':TA} (h:PA X e t) (w:∀ Z H Q,t' Z H Q->t Z H Q):PA X e t':=fun pos pins s Z H Q I q=>h pos pins s Z H Q I (w Z H Q q)
theorem PO.weak {e:Option Expr} {t t':TO} (h:PO X e t) (w:∀ Z H Q,t' Z H Q->t Z H Q):PO X e t':=fun pins s Z H Q I q=>h pins s Z H Q I (w Z H Q q)
theorem PI.weak {tg e:Expr} {t t':TI} (h:PI X tg e t) (w:∀ Z H Q,t' Z H Q->t Z H Q):PI X tg e t':=fun pins s Z H Q I q=>h pins s Z H Q I (w Z H Q q)
theorem PS.weak {e:Stmt} {t t':TS} (h:PS X e t) (w:∀ D Z H,t' D Z H->t D Z H):PS X e t':=fun pins s Z H D I q=>h pins s Z H D I (w D Z H q)
theorem jt.weak {e:List Stmt} {t t':TS} (h:jt X e t) (w:∀ D Z H,t' D Z H->t D Z H):jt X e t':=fun pins s Z H D I q=>h pins s Z H D I (w D Z H q)
end
theorem av {e:Expr} {es:List Expr} {env:Env} (h:cB e=true):starEach (e::es) env=(false,eval e env)::starEach es env:=by
 cases e <;> first | rfl | (simp [cB] at h)
theorem fj {env:Env} {pos:Pos}:∀ {es:List Expr},es.all cB=true->(backTo pos (starEach es env)).any (·.1)=false
 | [],_=>rfl
 | e::es,h=>by
  simp only [List.all_cons,Bool.and_eq_true] at h
  rw [av h.1]
  have:=fj (env:=env) (pos:=pos) h.2
  simpa [backTo] using this
theorem nO {env:Env} {pos:Pos}:∀ {es:List Expr},es.all cB=true->(backTo pos (starEach es env)).all (fun x=>!x.1)=true
 | [],_=>rfl
 | e::es,h=>by
  simp only [List.all_cons,Bool.and_eq_true] at h
  rw [av h.1]
  have:=nO (env:=env) (pos:=pos) h.2
  simpa [backTo] using this
theorem lA {o:Expr} {name:Str} {apos pos:Pos} {args:List Expr} {env:Env} (hbase:attributeBase o name env (eval o env)=eval o env) (hst:args.all cB=true) (hl:args.length<29) (hline:(apos.endLine == pos.line)=true) :
  eval (.Call (.Attribute o name apos) args [] pos) env=(do
   let ov <- eval o env
   standAt apos.atName
   let (f,first) <- holding [ov] (getMethod ov name (do return (<- importBound o env).getD true))
   callWith pos f first (backTo pos (starEach args env)) (backToKw pos (keywordEach [] env))):=by
 have IY:methodCallForm (args.length+([]:List Keyword).length) (backTo pos (starEach args env)) (backToKw pos (keywordEach [] env))=true:=by
  unfold methodCallForm
  rw [nO hst]
  simp [backToKw,keywordEach]
  omega
 have hpos:methodCallPos true o env apos pos=pure pos:=by unfold methodCallPos;simp [hline]
 rw [arm_eval_Call,hbase]
 unfold methodCall
 rw [IY]
 simp only [hpos]
 rfl
theorem set_plain {e:Expr} {env:Env} (h:xj e=true):∀ x,foldedSetIterable e env x=pure x:=by
 intro x;cases e <;> first | rfl | (simp [xj] at h)
theorem vX {e:Expr} (h:nSl e=true):ur e:=by
 intro o i;cases e <;> first | rfl | (simp [nSl] at h)
theorem gH {e:Expr} {t:Option Expr} {l:Nat} {env:Env} (h:ly e=true):swapsWith e t l env=pure false:=by
 cases e <;> first | rfl | (simp [ly] at h)
theorem uA {e:Expr} {env:Env} (h:qz e=true):∀ whole,isTrue e env whole=(do let v <- whole;standAt e.pos;holding [v] (truthy v)):=by
 intro w;cases e <;> first | rfl | (simp [qz] at h)
theorem bF {e:Expr} {n:Str} {env:Env} (h:xm e=true):attributeBase e n env (eval e env)=eval e env:=by
 cases e <;> first | rfl | (rename_i f _ _ _;cases f <;> first | rfl | (simp [xm] at h))
theorem boot_list:bootBuiltins ("list" : Str)=some (.type "list"):=by decide +kernel
theorem boot_isinstance:bootBuiltins ("isinstance" : Str)=some (.builtin "isinstance"):=by decide +kernel
theorem BF:∀ t:Ty,bootBuiltins (Str.ofString (nJ t))=some (.type (nJ t)):=by
 intro t;cases t <;> decide +kernel
theorem BU:∀ t:Ty, Str.ofString (nJ t)≠("__name__" : Str)/\(Str.ofString (nJ t) == ("__debug__" : Str))=false:=by
 intro t;cases t <;> decide
noncomputable def iY:Es->Nat
 | .nil=>0
 | .cons _ es=>iY es+1
theorem bw {Φ:aQ}:∀ {es:Es} {Z:Sg} {M:MH} {ds:List D} {M':MH},cJ Φ es Z M=.ok ds M'->ds.length=iY es
 | .nil,Z,M,ds,M',h=>by simp only [cJ] at h;cases h;rfl
 | .cons e es,Z,M,ds,M',h=>by
  simp only [cJ] at h
  cases h1:ev Φ e Z M with
  | ok x M1 =>
   rw [h1] at h
   simp only [R.af] at h
   cases h2:cJ Φ es Z M1 with
   | ok xs M2 =>
    rw [h2] at h
    simp only [R.af] at h
    cases h
    simp [iY,bw h2]
   | exc c M2=>rw [h2] at h;cases h
   | bad=>rw [h2] at h;cases h
  | exc c M1=>rw [h1] at h;cases h
  | bad=>rw [h1] at h;cases h
theorem aF {a b:Bool} (h:(a&&b)=true):a=true/\b=true:=(Bool.and_eq_true a b).mp h
theorem fT {G:Gm} {b:Bool} {N:List Str} {sc:Scope}:∀ {n:Nat} {as:List Expr} {cs:Es},eY G n b N sc (.es as cs)=true->iY cs=as.length/\as.all cB=true
 | 0,_,_,h=>by cases h
 | n+1,[],cs,h=>by
  have:=g5 (c:=cs) h
  subst this
  exact ⟨rfl,rfl⟩
 | n+1,a::as,cs,h=>by
  replace h:=xQ (c:=cs) h
  obtain ⟨c,cs,rfl,h⟩:=h
  replace h:=aF h
  obtain ⟨h,h3⟩:=h
  replace h:=aF h
  obtain ⟨h1,h2⟩:=h
  obtain ⟨q1,q2⟩:=fT h3
  exact ⟨congrArg (·+1) q1,by rw [List.all_cons,h1,q2];rfl⟩
inductive vv (th:Addr->Prop):Hp->Hp->Prop
 | refl (H:Hp):vv th H H
 | step {H H1 H2:Hp}:zg th H H1->vv th H1 H2->vv th H H2
noncomputable def GX:Bool->Cx->XS->Gx
 | true,_,w=>⟨w,fun _=>False,fun cv x Z H H' t h=>by
  rcases t with rfl | ⟨_,_,_,z,_⟩
  ·exact h
  ·exact z.elim⟩
 | false,X,w=>⟨fun cv x Z H=>∃ H',vv (BW X) H H'/\w cv x Z H',BW X,fun cv x Z H H' t ⟨H2,h1,h2⟩=>⟨H2,.step t h1,h2⟩⟩
theorem nK {X:Cx} {pins:List (Addr×Obj)} {Z:L2.St} {H H':Hp} {s:Shared} (I:Inv X pins Z H s) (t:vv (BW X) H H'):Inv X pins Z H' s:=by
 induction t with
 | refl=>exact I
 | step t _ ih=>exact ih (dN I t)
theorem uB {th:Addr->Prop} {H H':Hp} (t:vv th H H') {b:Addr} (h:H' b≠none):H b≠none:=by
 induction t with
 | refl=>exact h
 | step t _ ih =>
  have:=ih h
  rcases t with rfl | ⟨a,o,kvs,_,h1,rfl⟩
  ·exact this
  ·by_cases e:b=a
   ·subst e;rw [h1];simp
   ·rw [ao e] at this;exact this
theorem o5 {X:Cx} {w:XS} {e:Value} {s:Shared} (h:i7 X (GX false X w).e e s):i7 X w e s:=by
 obtain ⟨pins,Z,H,a,a0,C,B,h1,I,up,eZ,hp,H',t,q⟩:=h
 exact ⟨pins,Z,H',a,a0,C,B,h1,nK I t,up,fun b hb hf=>eZ b (hb.imp (uB t) id) hf,hp,q⟩
theorem w9 {X:Cx} {w:XS} {e:Value} {s:Shared} (h:CY X (GX false X w).e e s):CY X w e s:=by
 obtain ⟨pins,Z,H,a,C,vs,hh,h1,I,made,H',t,q⟩:=h
 exact ⟨pins,Z,H',a,C,vs,hh,h1,nK I t,made,q⟩
structure eX (G:Gm) (B:Bd) (Φ:aQ) (k:Nat) (X:Cx) (N:List Str) (sc:Scope) (b:Bool) (w:XS):Prop where
 hN:X.N=N
 nd:N.Nodup
 hsc:X.env.scope=sc
 K:B.K=X.K
 calm:X.calm=true
 rm:cX k X.A
 dk:kM B X
 fo:∀ e s,X.xe e s->i7 X (GX b X w).e e s\/CY X (GX b X w).e e s
 fx:∀ e s,i7 X (GX b X w).e e s->X.xe e s
 nx:b=false->G.rz=true->∀ e s,CY X (GX b X w).e e s->X.xe e s
 fr:pV X
 fn:b=false->∀ x,X.fn x=true
 fns:∀ f i m,G.fns.lookup f=some (i,m)->∃ fa fd ps,X.mg f=some (.ref fa)/\W.keepIn X.K (.ref fa)=true/\Binds X.K fd ps []/\cG X.prog X.w X.K X.mg X.base (ir X.prog X.w) k fa fd ps (yV B Φ i m)
 cst:∀ x i,G.cst.lookup x=some i->∃ v u,X.mg x=some u/\RelV v u/\∀ d,Φ.glob i=some d->∀ F ρ H,RD B F ρ H d v
 blt:∀ x,G.pQ.contains x=true->X.mg x=none
 cls:∀ c C,B.cls c=some C->vA X.K C/\∀ f,G.Bb.contains f=true->dG X.K C f
 AK:∀ c nm i m,G.AK.lookup (c,nm)=some (i,m)->∃ C fa fd ps,B.cls c=some C/\Meth X.K C nm fa/\Binds X.K fd ps []/\cG X.prog X.w X.K X.mg X.base (ir X.prog X.w) k fa fd ps (yV B Φ i m)
 IC:∀ x c i m,G.cls.lookup x=some (c,i,m)->∃ C fa fd ps,X.mg x=some (.ref C)/\B.cls c=some C/\Mk X.K C fa/\Binds X.K fd ps [] /\
  ((∃ j,k=j+1/\cG X.prog X.w X.K X.mg X.base (ir X.prog X.w) j fa fd ps (spI B Φ i m))\/∀ ds M,Φ.ini i ds M=.bad)
 exc:∀ x c, G.exc.lookup x=some c->∃ C bmB newId bm base initId, X.mg x=some (.ref C)/\B.JZ c=some C/\B.exc c (.ref C)/\pW X.K C bmB newId bm/\ExcBaseFacts base newId initId bmB/\bm.contains (.type "BaseException")=true
 GO:∀ c cv,B.exc c cv->∃ C bmB newId bm,cv=.ref C/\pW X.K C bmB newId bm/\∀ d D,B.JZ d=some D->(Value.ref C::bm).contains (.ref D)=Φ.sub c d
 Gd:∀ x f m d,G.Gd.lookup x=some (f,m,d)->∃ fa fd ps du,X.mg x=some (.ref fa)/\W.keepIn X.K (.ref fa)=true/\Binds X.K fd ps [du]/\RelV (.int d) du/\cG X.prog X.w X.K X.mg X.base (ir X.prog X.w) k fa fd ps (yV B Φ f m)
 st:b=false->X.stack=X.env::X.outer/\X.env.frame=some X.env.locals
section
variable {G:Gm} {B:Bd} {Φ:aQ} {k:Nat} {X:Cx} {N:List Str} {sc:Scope} {b:Bool} {w:XS}
theorem eX.rm' (O:eX G B Φ k X N sc b w):Rm X:=by have:=O.rm.un;unfold Rm;omega
theorem eX.oW (O:eX G B Φ k X N sc b w) {x:Str} (h:iF sc x=true):Gl X x:=by
 show X.env.scope.names.lookup x=some .globalImplicit
 rw [O.hsc]
 unfold iF at h
 split at h
 ·assumption
 ·cases h
theorem eX.vis (O:eX G B Φ k X N sc b w) {x:Str} (h:C0 sc x=true):KY X.env.scope x:=by
 unfold KY
 rw [O.hsc]
 unfold C0 at h
 split at h
 ·rename_i q;exact .inl q
 ·rename_i q;exact .inr (.inl q)
 ·rename_i q;exact .inr (.inr q)
 ·cases h
theorem eX.loc (O:eX G B Φ k X N sc b w) {x:Str} (h:AR sc x=true):L2.Loc X.env.scope x:=by
 unfold L2.Loc
 rw [O.hsc]
 unfold AR at h
 split at h
 ·rename_i q;exact .inl q
 ·rename_i q;exact .inr q
 ·cases h
theorem fm {x:Str} (h:nD x=true):(x == ("__debug__" : Str))=false/\(x == ("__classdict__" : Str))=false:=by
 simp only [nD,Bool.and_eq_true,Bool.not_eq_true'] at h;exact h
theorem eX.CQ (O:eX G B Φ k X N sc b w) {scope:Scope} {N':List Str} (hn:N'.Nodup) (cl:List (Str×Addr)) (fp:List Addr) (s:Shared) (H:Hp) (C:Addr) (E:XK):eX G B Φ k (dS X scope cl N' fp s H C E) N' (wC scope sc) true (fun cv x _ H'=>E cv x H') :=
 ⟨rfl,hn,by show relabel scope X.env=wC scope sc;rw [<- O.hsc];rfl,O.K,O.calm,O.rm,O.dk,(fun e s ⟨p,Z,H,a,a0,C,B,h1,I,h⟩=>.inl ⟨p,Z,H,a,a0,C,B,h1,I.bH _,h⟩),(fun e s ⟨p,Z,H,a,a0,C,B,h1,I,h⟩=>⟨p,Z,H,a,a0,C,B,h1,I.aX,h⟩),(fun h=>by cases h),(by
  obtain ⟨env,outer,L,h1,h2,h3⟩:=O.fr
  exact ⟨env,outer,L,h1,h2,h3⟩),(fun h=>by cases h),O.fns,O.cst,O.blt,O.cls,O.AK,O.IC,O.exc,O.GO,O.Gd,(fun h=>by cases h)⟩
theorem eX.comp (O:eX G B Φ k X N sc b w) {scope:Scope} {caps:List Nat} {tn:List Str} {n:Nat} (h:yE N sc scope caps tn=true) (hn:tn.length=n):gB X scope (eN N caps tn) caps n/\(eN N caps tn).Nodup:=by
 simp only [yE,Bool.and_eq_true,List.all_eq_true,decide_eq_true_eq] at h
 obtain ⟨⟨⟨h1,h2⟩,h3⟩,h4⟩:=h
 refine ⟨⟨fun x hx=>?_,fun y hy z=>?_,by simpa using h2,fun y hy z=>?_,by simp [eN,hn],fun i j x e1 e2=>?_⟩,h4⟩
 ·have:=h1 _ hx
  show X.env.scope.names.lookup x=some .cell\/X.env.scope.names.lookup x=some .free
  rw [O.hsc]
  simp only at this
  split at this
  ·rename_i q;exact .inl q
  ·rename_i q;exact .inr q
  ·cases this
 ·have:=h1 _ hy
  rw [z] at this
  simp at this
 ·have:=h1 _ hy
  rw [z] at this
  simp only at this
  split at this
  ·assumption
  ·cases this
 ·have hj:j∈caps:=List.mem_of_getElem? e2
  have:=h3 j hj
  have hi:i<caps.length:=(List.getElem?_eq_some_iff.mp e2).1
  unfold eN at e1
  rw [List.getElem?_append_left (by simpa using hi),List.getElem?_map,e2] at e1
  simp only [Option.map_some,Option.some.injEq] at e1
  split at this
  ·rename_i y hy
   rw [hy] at e1
   simp only [Option.getD_some] at e1
   subst e1
   rw [O.hN]
   refine ⟨hy,?_⟩
   split at this
   ·assumption
   ·cases this
  ·cases this
theorem xB {x:Str} (h:AU sc x=true):sc.names.lookup x=some .local:=by
 unfold AU at h
 split at h
 ·assumption
 ·cases h
theorem eX.nm (O:eX G B Φ k X N sc b w) {i:Nat} {x:Str} {p:Pos} (h:Iu N sc i x=true):PG X (.Name x p) (j0 i):=by
 replace h:=aF h
 obtain ⟨h1,h2⟩:=h
 have hl:X.env.scope.names.lookup x=some .local:=by rw [O.hsc];exact xB h2
 exact Am (by rw [O.hN];exact O.nd) (by rw [O.hN];exact of_decide_eq_true h1) (.inl hl) (.inr hl)
noncomputable def gNs:List Nat->CW
 | []=>Ja
 | i::is=>CA (j0 i) (gNs is)
theorem yc:∀ {is:List Nat} {xs:List V} {Z:St} {H:Hp} {Q:St->Hp->Prop},xs.length=is.length->Q (iw is xs Z) H->gNs is xs Z H Q
 | [],[],Z,H,Q,_,q=>⟨rfl,q⟩
 | [],_::_,_,_,_,h,_=>by cases h
 | _::_,[],_,_,_,h,_=>by cases h
 | i::is,x::xs,Z,H,Q,h,q=>⟨x,xs,rfl,yc (is:=is) (xs:=xs) (Z:=Z.set i (some x)) (by simpa using h) q⟩
theorem eX.nms (O:eX G B Φ k X N sc b w):∀ {as:List Expr} {is:List Nat},AI N sc as is=true->(assignEach as X.env).length=is.length/\(assignEach as X.env).findIdx? (·.1)=none/\JQ X as (gNs is)/\as.length=is.length
 | [],[],_=>⟨rfl,rfl,sI,rfl⟩
 | [],_::_,h=>by cases h
 | _::_,[],h=>by cases h
 | a::as,i::is,h=>by
  replace h:=aF h
  obtain ⟨h1,h2⟩:=h
  replace h1:=bN h1
  obtain ⟨x,p,rfl,h1⟩:=h1
  obtain ⟨q1,q2,q3,q4⟩:=O.nms h2
  have e:assignEach (.Name x p::as) X.env=(false,assign (.Name x p) X.env)::assignEach as X.env:=rfl
  refine ⟨?_,?_,jJ (O.nm (p:=p) h1) q3 (by rw [e];rfl),by rw [List.length_cons,List.length_cons,q4]⟩
  ·rw [e,List.length_cons,List.length_cons,q1]
  ·rw [e,List.findIdx?_cons,q2];rfl
theorem eX.tg (O:eX G B Φ k X N sc b w) {tn:Expr} {tg:List Nat} (h:GY N sc tn tg=true):PG X tn (GN tg B.K)/\(cK tn).length=tg.length:=by
 cases tg with
 | nil=>cases h
 | cons i r=>cases r with
  | nil =>
   replace h:=bN h
   obtain ⟨x,p,rfl,h⟩:=h
   exact ⟨O.nm h,rfl⟩
  | cons j r=>cases r with
   | cons l r =>
    replace h:=jW h
    obtain ⟨as,k1,pt,rfl,h⟩:=h
    obtain ⟨q1,q2,q3,q4⟩:=O.nms h
    have p:=wM (X:=X) (pos:=pt) (k:=k1) (n:=(i::j::l::r).length) O.calm q3 q1 q2
    refine ⟨fun pins s Z H v u Q I r q=>p pins s Z H v u Q I r ?_,by rw [<- q4];exact List.length_map ..⟩
    obtain ⟨a,xs,e,sq,hl,q⟩:=q
    rw [O.K] at sq
    exact ⟨a,xs,e,sq,hl,yc hl q⟩
   | nil =>
    replace h:=jW h
    obtain ⟨as,k1,pt,rfl,h⟩:=h
    replace h:=Fo h
    obtain ⟨l,r,rfl,h⟩:=h
    replace h:=bN h
    obtain ⟨x,px,rfl,h⟩:=h
    replace h:=bN h
    obtain ⟨y,py,rfl,h⟩:=h
    replace h:=aF h
    obtain ⟨h1,h2⟩:=h
    have p:=wM (X:=X) (pos:=pt) (k:=k1) (n:=2) O.calm (jJ (O.nm (p:=px) h1) (jJ (O.nm (p:=py) h2) sI))
    refine ⟨fun pins s Z H v u Q I r q=>p pins s Z H v u Q I r ?_,rfl⟩
    obtain ⟨a,x',y',e,sq,q⟩:=q
    rw [O.K] at sq
    exact ⟨a,[x',y'],e,sq,rfl,x',[y'],rfl,y',[],rfl,rfl,q⟩
end
end Fg
end
section
namespace Fg
open PySem PySem.Spec L2
section
variable {G:Gm} {B:Bd} {Φ:aQ} {k:Nat}
structure zh (G:Gm) (B:Bd) (Φ:aQ) (k n:Nat) (X:Cx) (N:List Str) (sc:Scope) (b:Bool) (w:XS):Prop where
 e:∀ a c,eY G n b N sc (.e a c)=true->PE X a (T B Φ (GX b X w) c)
 t:∀ a c,eY G n b N sc (.t a c)=true->PT X a (TB B Φ (GX b X w) c)/\(∀ op v p,a=.BoolOp op v p->PW X a (TB B Φ (GX b X w) c))
 es:∀ a c,eY G n b N sc (.es a c)=true->PA X a (TL B Φ (GX b X w) c)
 o:∀ a c,eY G n b N sc (.o a c)=true->PO X a (TP B Φ (GX b X w) c)
 i:b=false->∀ a c tg,(!Kp c||isTup tg)=true->eY G n b N sc (.i a c)=true->PI X tg a (CV B Φ (GX b X w) c)
 s:∀ a c,eY G n b N sc (.s a c)=true->PS X a (TC B Φ (GX b X w) c)
 ss:∀ a c,eY G n b N sc (.ss a c)=true->jt X a (vF B Φ (GX b X w) c)
 m:∀ a c,eY G n b N sc (.m a c)=true->PJ X B Φ (GX b X w) a c
theorem yS {E:Gx} {Z:L2.St} {H:Hp} {Q:VK} (h:T B Φ E .bad Z H Q):False:=by
 obtain ⟨ZD,M,F,ρ,S,r,h⟩:=h
 simp only [ev] at h
 exact h
theorem Gz {E:Gx} {Dn:Ends} {Z:L2.St} {H:Hp} (h:TC B Φ E .bad Dn Z H):False:=by
 obtain ⟨ZD,M,F,ρ,S,r,h⟩:=h
 simp only [ex] at h
 exact h
variable {X:Cx} {N:List Str} {sc:Scope} {b:Bool} {n:Nat} {w:XS}
theorem rT {a:Const} {d:D} {j:Nat} {p:Pos} {E:Gx} (h:Bx a d=true):PE X (.Constant a j p) (T B Φ E (.k d)):=by
 unfold Bx at h
 split at h
 ·rw [of_decide_eq_true h];exact PE.weak D9 fun _ _ _=>rY rfl
 ·rw [of_decide_eq_true h];exact PE.weak qu fun _ _ _=>rY rfl
 ·rw [of_decide_eq_true h];exact PE.weak Ib fun _ _ _=>rY rfl
 ·exact PE.weak D6 fun _ _ _=>rY rfl
 ·cases h
theorem sQ:∀ {as:List Expr} {is:List Nat},AI N sc as is=true->as.length=is.length
 | [],[],_=>rfl
 | [],_::_,h=>by cases h
 | _::_,[],h=>by cases h
 | a::as,i::is,h=>by rw [List.length_cons,List.length_cons,sQ (aF h).2]
theorem C9 {tn:Expr} {tg:List Nat} (h:GY N sc tn tg=true):(cK tn).length=tg.length:=by
 cases tg with
 | nil=>cases h
 | cons i r=>cases r with
  | nil=>replace h:=bN h;obtain ⟨x,p,rfl,h⟩:=h;rfl
  | cons j r=>cases r with
   | cons l r =>
    replace h:=jW h
    obtain ⟨as,k1,pt,rfl,h⟩:=h
    exact (List.length_map ..).trans (sQ h)
   | nil =>
    replace h:=jW h
    obtain ⟨as,k1,pt,rfl,h⟩:=h
    replace h:=Fo h
    obtain ⟨l,r,rfl,h⟩:=h
    rfl
theorem nR (O:eX G B Φ k X N sc false w) (ih:zh G B Φ k n X N sc false w) (FD:∀ X' N' sc' w',eX G B Φ k X' N' sc' true w'->zh G B Φ k n X' N' sc' true w') {caps tg:List Nat} {elt:Fg.E} {it:Src} {cond:Fg.O} {el tn iter:Expr} {ifs:List Expr} {scope:Scope}
  (h:Kg (Gh n) G false N sc caps tg elt it cond el tn iter ifs scope=true) :
  gB X scope (eN N caps (cK tn)) caps tg.length/\PI X tn iter (CV B Φ (GX false X w) it) /\
   (∀ Z cl fp s H C,PG (dS X scope cl (eN N caps (cK tn)) fp s H C fun cv x H'=>(GX false X w).e cv x Z H') tn (GN tg B.K)/\GQ (dS X scope cl (eN N caps (cK tn)) fp s H C fun cv x H'=>(GX false X w).e cv x Z H') ifs (TBo B Φ (EB (GX false X w) Z) cond)/\PE (dS X scope cl (eN N caps (cK tn)) fp s H C fun cv x H'=>(GX false X w).e cv x Z H') el (T B Φ (EB (GX false X w) Z) elt))/\∀ x,foldedSetIterable iter X.env x=pure x:=by
 simp only [Kg,Bool.and_eq_true] at h
 obtain ⟨⟨⟨⟨⟨⟨h0,h1⟩,h2⟩,h3⟩,h4⟩,h5⟩,h6⟩:=h
 have hlen:(cK tn).length=tg.length:=C9 h4
 obtain ⟨C1,C2⟩:=O.comp h2 hlen
 refine ⟨C1,ih.i rfl iter it tn h0 h3,fun Z cl fp s H C=>?_,set_plain h1⟩
 have OB:=O.CQ (scope:=scope) C2 cl fp s H C fun cv x H'=>(GX false X w).e cv x Z H'
 have S:=FD _ _ _ _ OB
 refine ⟨(OB.tg h4).1,?_,S.e el elt h5⟩
 cases cond with
 | none=>cases ifs with
  | nil=>exact Ac
  | cons _ _=>cases h6
 | some d =>
  replace h6:=gP h6
  obtain ⟨c,rfl,h6⟩:=h6
  exact Ab (S.t c d h6).1
theorem Hu (O:eX G B Φ k X N sc b w) (ih:zh G B Φ k n X N sc b w) (FD:∀ X' N' sc' w',eX G B Φ k X' N' sc' true w'->zh G B Φ k n X' N' sc' true w') (a:Expr) (c:Fg.E) (h:eY G (n+1) b N sc (.e a c)=true):PE X a (T B Φ (GX b X w) c):=by
 replace h:=sL h
 rcases h with ⟨o,v,p,rfl,h⟩ | h
 ·exact D4 (ih.e _ _ h)
 ·cases c with
  | bad=>exact fun _ _ _ _ _ _ q=>(yS q).elim
  | v i =>
   replace h:=bN h
   obtain ⟨x,p,rfl,h⟩:=h
   simp only [Bool.and_eq_true,decide_eq_true_eq] at h
   exact PE.weak (D0 (by rw [O.hN];exact h.1.1) (O.vis h.1.2) (fm h.2).1 (fm h.2).2) fun _ _ _=>Hv
  | k d =>
   replace h:=xM h
   obtain ⟨x,j,p,rfl,h⟩:=h
   exact rT h
  | g i =>
   replace h:=bN h
   obtain ⟨x,p,rfl,h⟩:=h
   simp only [Bool.and_eq_true,decide_eq_true_eq] at h
   obtain ⟨v,u,q1,q2,q3⟩:=O.cst _ _ h.1.2
   exact PE.weak (Ao (O.oW h.1.1) q1 q2 (fm h.2).1) fun _ _ _=>Hw q3
  | tup cs =>
   replace h:=jW h
   obtain ⟨as,j,p,rfl,h⟩:=h
   simp only [Bool.and_eq_true,decide_eq_true_eq] at h
   obtain ⟨hl,_⟩:=fT h.2
   refine PE.weak (D3 (ih.es _ _ h.2)) fun _ _ _=>zI fun q=>?_
   rw [bw q,hl];exact Nat.le_trans h.1 (by decide)
  | lst fz cs =>
   replace h:=E7 h
   obtain ⟨as,p,rfl,h⟩:=h
   simp only [Bool.and_eq_true,decide_eq_true_eq] at h
   obtain ⟨hl,_⟩:=fT h.2
   refine PE.weak (D8 (ih.es _ _ h.2)) fun _ _ _=>zP fun q=>?_
   rw [bw q,hl];exact Nat.le_trans h.1 (by decide)
  | Bw=>cases h
  | op o fz x y =>
   replace h:=Fj h
   obtain ⟨l,p,q,pos,rfl,h⟩:=h
   simp only [Bool.and_eq_true,decide_eq_true_eq] at h
   obtain ⟨⟨h1,h2⟩,h3⟩:=h
   subst h1
   exact PE.weak (HZ (Et O.K o) (ih.e _ _ h2) (ih.e _ _ h3)) fun _ _ _=>Dp
  | neg x =>
   replace h:=xH h
   obtain ⟨o,l,p,rfl,h⟩:=h
   replace h:=aF h
   obtain ⟨ho,h⟩:=h
   cases xU ho
   exact PE.weak (HX C6 (ih.e _ _ h)) fun _ _ _=>zO
  | not x =>
   replace h:=xH h
   obtain ⟨o,l,p,rfl,h⟩:=h
   replace h:=aF h
   obtain ⟨ho,h⟩:=h
   cases tE ho
   exact PE.weak (D5 (ih.e _ _ h)) fun _ _ _=>rW
  | and x y =>
   replace h:=tu h
   obtain ⟨o,v,w,r,p,rfl,h⟩:=h
   replace h:=aF h
   obtain ⟨h,h3⟩:=h
   replace h:=aF h
   obtain ⟨h1,h2⟩:=h
   cases tG h1
   replace h:=And.intro h2 h3
   exact PE.weak (Eb (ih.e _ _ h.1) (ih.e _ _ h.2)) fun _ _ _=>se
  | or x y =>
   replace h:=tu h
   obtain ⟨o,v,w,r,p,rfl,h⟩:=h
   replace h:=aF h
   obtain ⟨h,h3⟩:=h
   replace h:=aF h
   obtain ⟨h1,h2⟩:=h
   cases xV (by simpa using h1)
   replace h:=And.intro h2 h3
   exact PE.weak (HY (ih.e _ _ h.1) (ih.e _ _ h.2)) fun _ _ _=>v7
  | cmp o x y =>
   replace h:=xN h
   obtain ⟨l,p,q,pos,rfl,h⟩:=h
   simp only [Bool.and_eq_true,decide_eq_true_eq,Bool.not_eq_true'] at h
   obtain ⟨⟨⟨h1,h2⟩,h3⟩,h4⟩:=h
   subst h1
   exact PE.weak (Ar (wX O.K O.rm' O.dk o) (ih.e _ _ h3) (ih.e _ _ h4) h2) fun _ _ _=>r9
  | x6 t x y =>
   replace h:=Fc h
   obtain ⟨u,l,q,pos,rfl,h⟩:=h
   simp only [Bool.and_eq_true] at h
   exact PE.weak (wU (ih.t _ _ h.1.1).1 (ih.e _ _ h.1.2) (ih.e _ _ h.2)) fun _ _ _=>zS
  | idx x y =>
   replace h:=qF h
   obtain ⟨l,q,pos,rfl,h⟩:=h
   simp only [Bool.and_eq_true] at h
   exact PE.weak (Ia (Fx O.K O.dk) (ih.e _ _ h.1.2) (ih.e _ _ h.2) (vX h.1.1)) fun _ _ _=>zT
  | sl fz x lo hi =>
   replace h:=qF h
   obtain ⟨l,q,pos,rfl,h⟩:=h
   replace h:=EW h
   obtain ⟨u,v,sp,rfl,h⟩:=h
   simp only [Bool.and_eq_true] at h
   exact PE.weak (wN (Dk O.K) (ih.e _ _ h.1.1) (ih.o _ _ h.1.2) (ih.o _ _ h.2)) fun _ _ _=>Dm
  | call f cs =>
   replace h:=iV h
   obtain ⟨x,p,as,pos,rfl,h⟩:=h
   simp only [Bool.and_eq_true,decide_eq_true_eq] at h
   obtain ⟨⟨⟨⟨h1,h2⟩,h3⟩,h4⟩,h5⟩:=h
   obtain ⟨fa,fd,ps,q1,q2,q3,q4⟩:=O.fns _ _ _ h3
   obtain ⟨hl,_⟩:=fT h5
   cases as with
   | nil =>
    refine PE.weak (uO q4 O.rm (O.oW h1) q1 q2 q3 O.fx (fm h2).1) fun _ _ _ q=>?_
    have:=nY (fun z=>by rw [bw z,hl]) q
    cases cs with
    | nil=>exact gF this
    | cons _ _=>simp [iY] at hl
   | cons e es =>
    simp only [List.all_cons,Bool.and_eq_true] at h4
    exact PE.weak (wV q4 O.rm (O.oW h1) q1 q2 q3 O.fx (ih.es _ _ h5) (fm h2).1 (av h4.1) (fj h4.2)) fun _ _ _=>nY (fun z=>by rw [bw z,hl])
  | uf f cs d=>cases h
  | lD x t =>
   replace h:=iV h
   obtain ⟨y,p,as,pos,rfl,h⟩:=h
   replace h:=Fo h
   obtain ⟨l,z0,rfl,h⟩:=h
   replace h:=bN h
   obtain ⟨z,zp,rfl,h⟩:=h
   simp only [Bool.and_eq_true,decide_eq_true_eq] at h
   obtain ⟨⟨⟨⟨⟨⟨⟨h1,h2⟩,h3⟩,h4⟩,h5⟩,h6⟩,h7⟩,h8⟩:=h
   subst h1 h2
   refine PE.weak (jL (yI O.K O.dk) (O.oW h3) (O.blt _ h5) boot_isinstance (c7 (ih.e _ _ h8) (c7 (As (v:=.ty (nJ t)) (O.oW h4) (O.blt _ h6) (BF t) rfl (BU t).1 (BU t).2) gk) (av h7)) (by decide) (by decide) (av h7)) fun _ _ _=>zQ
  | blt kd fz cs =>
   replace h:=iV h
   obtain ⟨y,p,as,pos,rfl,h⟩:=h
   replace h:=gP h
   obtain ⟨l,rfl,h⟩:=h
   simp only [Bool.and_eq_true,decide_eq_true_eq] at h
   obtain ⟨⟨⟨⟨h1,h2⟩,h3⟩,h4⟩,h5⟩:=h
   have pa:=ih.es _ _ h5
   cases kd <;> simp only [JH] at h1 <;> first | (cases h1;done) | cases h1
   ·exact PE.weak (jL (vj O.K O.dk) (O.oW h2) (O.blt _ h3) PySem.boot_len pa (by decide) (by decide) (av h4)) fun _ _ _=>sd
   ·exact PE.weak (lq (vh O.K) (O.oW h2) (O.blt _ h3) boot_list pa (by decide) (by decide) (av h4)) fun _ _ _=>sd
  | aK m fz x cs =>
   replace h:=Ct h
   obtain ⟨o,y,ap,as,cp,rfl,h⟩:=h
   simp only [Bool.and_eq_true] at h
   obtain ⟨⟨⟨h2,h4⟩,h5⟩,h⟩:=h
   cases hm:IQ m with
   | true =>
    rw [hm] at h
    replace h:=aF h
    obtain ⟨h1,h⟩:=h
    replace h:=gP h
    obtain ⟨l,rfl,h⟩:=h
    replace h:=aF h
    obtain ⟨h3,h6⟩:=h
    cases m <;> first | (cases hm;done) | skip
    all_goals cases of_decide_eq_true h1
    ·refine PE.weak (Cj PySem.F.plainAttrs_list PySem.F.slot_list_append PySem.F.type_list_append lz (ih.e _ _ h5) (ih.es _ _ h6) (bF h2) ?_ h4 (av h3)) fun _ _ _ q=>?_
     ·rw [av h3];rfl
     ·have:=qh q
      rw [O.K] at this
      exact this
    ·refine PE.weak (Cj PySem.F.plainAttrs_list PySem.F.slot_list_extend PySem.F.type_list_extend AL (ih.e _ _ h5) (ih.es _ _ h6) (bF h2) ?_ h4 (av h3)) fun _ _ _ q=>?_
     ·rw [av h3];rfl
     ·have:=qg q
      rw [O.K] at this
      exact this
   | false =>
    rw [hm] at h
    replace h:=aF h
    obtain ⟨h,h7⟩:=h
    replace h:=aF h
    obtain ⟨h1,h6⟩:=h
    cases List.isEmpty_iff.mp h6
    cases g5 h7
    replace h1:=of_decide_eq_true h1
    cases m <;> simp only [Cn] at h1 <;> first | (cases h1;done) | cases h1
    ·refine PE.weak (wW PySem.F.plainAttrs_list PySem.F.slot_list_pop PySem.F.type_list_pop ED (ih.e _ _ h5) (bF h2) h4) fun _ _ _ q=>?_
     have:=zN q
     rw [O.K] at this
     exact this
    ·refine PE.weak (wW PySem.F.plainAttrs_list PySem.F.slot_list_reverse PySem.F.type_list_reverse qA (ih.e _ _ h5) (bF h2) h4) fun _ _ _ q=>?_
     have:=nU q
     rw [O.K] at this
     exact this
  | comp fz caps tg elt it cond =>
   replace h:=aF h
   obtain ⟨h0,h⟩:=h
   cases b with
   | true=>cases h0
   | false =>
    replace h:=Cs h
    obtain ⟨el,tn,iter,ifs,scope,p,rfl,h⟩:=h
    obtain ⟨C1,C2,C3,C4⟩:=nR O ih FD h
    exact PE.weak (An (Aq O.calm C1 C2 O.fr O.fx C3 C4)) fun _ _ _=>nX
  | chain _ _ _ _ _=>cases h
  | tru _=>cases h
  | fld x f =>
   replace h:=qG h
   obtain ⟨l,y,p,rfl,h⟩:=h
   simp only [Bool.and_eq_true,decide_eq_true_eq] at h
   obtain ⟨⟨⟨h1,h2⟩,h3⟩,h4⟩:=h
   subst h1
   exact PE.weak (Ea (ih.e _ _ h4) (bF h3)) fun _ _ _=>zV fun c C hc=>⟨(O.cls c C hc).1,(O.cls c C hc).2 _ h2⟩
  | cY c m nm x cs =>
   replace h:=Ct h
   obtain ⟨o,y,ap,as,cp,rfl,h⟩:=h
   simp only [Bool.and_eq_true,decide_eq_true_eq] at h
   obtain ⟨⟨⟨⟨⟨⟨⟨h1,h2⟩,h3⟩,h4⟩,h5⟩,h6⟩,h7⟩,h8⟩:=h
   subst h1
   obtain ⟨C,fa,fd,ps,q1,q2,q3,q4⟩:=O.AK _ _ _ _ h5
   obtain ⟨hl,_⟩:=fT h8
   cases as with
   | nil =>
    refine PE.weak (uM (ih.e _ _ h7) (O.cls _ _ q1).1 q2 q4 O.rm q3 O.fx (lA (bF h2) h6 h4 h3)) fun _ _ _ q=>?_
    have:=rV (n:=1) q1 (fun z=>by rw [bw z,hl];rfl) q
    cases cs with
    | nil =>
     obtain ⟨ZD,M,F,ρ,S,r,z⟩:=this
     exact ⟨ZD,M,F,ρ,S,r,ai.imp z fun v H' ⟨a,dx,fs,z1,z2,z3,z4⟩=>⟨a,dx,fs,z1,z2,z3,gF z4⟩⟩
    | cons _ _=>simp [iY] at hl
   | cons e es =>
    simp only [List.all_cons,Bool.and_eq_true] at h6
    exact PE.weak (wO (ih.e _ _ h7) (O.cls _ _ q1).1 q2 q4 O.rm q3 O.fx (ih.es _ _ h8) (av h6.1) (fj h6.2) (lA (bF h2) (by simp [h6.1,h6.2]) h4 h3)) fun _ _ _=>rV q1 (fun z=>by rw [bw z,hl])
  | new c i cs =>
   replace h:=iV h
   obtain ⟨x,p,as,pos,rfl,h⟩:=h
   simp only [Bool.and_eq_true,decide_eq_true_eq] at h
   obtain ⟨⟨⟨⟨h1,h2⟩,h3⟩,h4⟩,h5⟩:=h
   obtain ⟨C,fa,fd,ps,q1,q2,q3,q4,q5⟩:=O.IC _ _ _ _ h3
   obtain ⟨hl,_⟩:=fT h5
   rcases q5 with ⟨j,rfl,q5⟩ | q5
   ·cases as with
    | nil =>
     refine PE.weak (uN q3 q5 O.rm (O.oW h1) q1 q4 O.fx (fm h2).1) fun _ _ _ q=>?_
     have:=rX (n:=1) q2 (fun z=>by rw [bw z,hl];rfl) q
     cases cs with
     | nil=>exact gF this
     | cons _ _=>simp [iY] at hl
    | cons e es =>
     simp only [List.all_cons,Bool.and_eq_true] at h4
     exact PE.weak (wR q3 q5 O.rm (O.oW h1) q1 q4 O.fx (ih.es _ _ h5) (fm h2).1 (av h4.1) (fj h4.2)) fun _ _ _=>rX q2 (fun z=>by rw [bw z,hl])
   ·cases as with
    | nil =>
     intro pins s Z H Q I q
     have:=nV q5 q
     cases cs with
     | nil=>exact (gF this).elim
     | cons _ _=>simp [iY] at hl
    | cons e es =>
     simp only [List.all_cons,Bool.and_eq_true] at h4
     exact PE.weak (wQ q3 (O.oW h1) q1 (ih.es _ _ h5) (fm h2).1 (av h4.1) (fj h4.2)) fun _ _ _=>nV q5
  | mx hi x y=>cases h
  | j3 f x =>
   replace h:=iV h
   obtain ⟨y,p,as,pos,rfl,h⟩:=h
   replace h:=gP h
   obtain ⟨l,rfl,h⟩:=h
   simp only [Bool.and_eq_true,decide_eq_true_eq] at h
   obtain ⟨⟨⟨⟨h1,h2⟩,h3⟩,h4⟩,h5⟩:=h
   subst h1
   have pa:=c7 (ih.e _ _ h5) gk (av h4)
   cases f
   ·exact PE.weak (jL vn (O.oW h2) (O.blt _ h3) PyProof.Rows.boot_abs pa (by decide) (by decide) (av h4)) fun _ _ _=>rZ
   ·exact PE.weak (lq vm (O.oW h2) (O.blt _ h3) (show bootBuiltins ("int" : Str)=some (.type "int") by decide +kernel) pa (by decide) (by decide) (av h4)) fun _ _ _=>rZ
  | all1 x=>cases h
  | Kf fz x=>cases h
  | rv fz x=>cases h
  | Ke fz x y=>cases h
end
end Fg
end
section
namespace Fg
open PySem PySem.Spec L2
section
variable {G:Gm} {B:Bd} {Φ:aQ} {k:Nat} {X:Cx} {N:List Str} {sc:Scope} {b:Bool} {n:Nat} {w:XS}
theorem Hq (O:eX G B Φ k X N sc b w) (ih:zh G B Φ k n X N sc b w) (a:Expr) (c:Fg.E) (h:eY G (n+1) b N sc (.t a c)=true) :
  PT X a (TB B Φ (GX b X w) c)/\(∀ op v p,a=.BoolOp op v p->PW X a (TB B Φ (GX b X w) c)):=by
 replace h:=sL h
 rcases h with ⟨op,v,p,rfl,h⟩ | h
 ·have pt:=(ih.t _ _ h).1
  have pw:PW X (.BoolOp op [v] p) (TB B Φ (GX b X w) c):=by
   cases op
   ·exact pw_and1 pt
   ·exact pw_or1 pt
  exact ⟨pw.pt,fun _ _ _ _=>pw⟩
 ·have notB:∀ {P:Prop},qz a=true->(∀ op v p,a=.BoolOp op v p->P):=fun hq op v p e=>by subst e;simp [qz] at hq
  have plain:qz a=true->eY G n b N sc (.e a c)=true->PT X a (TB B Φ (GX b X w) c)/\(∀ op v p,a=.BoolOp op v p->PW X a (TB B Φ (GX b X w) c)):=fun h1 h2 =>
   ⟨DM (ih.e _ _ h2) (uA h1),notB h1⟩
  have ig:(qz a&&eY G n b N sc (.e a c))=true->PT X a (TB B Φ (GX b X w) c)/\(∀ op v p,a=.BoolOp op v p->PW X a (TB B Φ (GX b X w) c)):=fun hq=>by
   simp only [Bool.and_eq_true] at hq;exact plain hq.1 hq.2
  cases c with
  | bad=>exact ⟨fun _ _ _ _ _ _ q=>(yS q).elim,fun _ _ _ _ _ _ _ _ _ _ _ q=>(yS q).elim⟩
  | cmp o x y =>
   replace h:=xN h
   obtain ⟨l,p,q,pos,rfl,h⟩:=h
   ·simp only [Bool.and_eq_true,decide_eq_true_eq,Bool.not_eq_true'] at h
    obtain ⟨⟨⟨h1,h2⟩,h3⟩,h4⟩:=h
    subst h1
    exact ⟨PT.weak (Ad (wX O.K O.rm' O.dk o) (ih.e _ _ h3) (ih.e _ _ h4) h2) fun _ _ _=>r9,fun _ _ _ e=>by cases e⟩
  | not x =>
   replace h:=xH h
   obtain ⟨o,l,p,rfl,h⟩:=h
   replace h:=aF h
   obtain ⟨ho,h⟩:=h
   cases tE ho
   exact ⟨PT.weak (DN (ih.t _ _ h).1) fun _ _ _=>v9,fun _ _ _ e=>by cases e⟩
  | and x y =>
   replace h:=tu h
   obtain ⟨o,v,w',r,p,rfl,h⟩:=h
   replace h:=aF h
   obtain ⟨h,h3⟩:=h
   replace h:=aF h
   obtain ⟨h1,h2⟩:=h
   cases tG h1
   have pw:=PW.weak (pw_and (ih.t _ _ h2).1 ((ih.t _ _ h3).2 _ _ _ rfl)) fun _ _ _=>wc
   exact ⟨pw.pt,fun _ _ _ _=>pw⟩
  | or x y =>
   replace h:=tu h
   obtain ⟨o,v,w',r,p,rfl,h⟩:=h
   replace h:=aF h
   obtain ⟨h,h3⟩:=h
   replace h:=aF h
   obtain ⟨h1,h2⟩:=h
   cases xV (by simpa using h1)
   have pw:=PW.weak (pw_or (ih.t _ _ h2).1 ((ih.t _ _ h3).2 _ _ _ rfl)) fun _ _ _=>zW
   exact ⟨pw.pt,fun _ _ _ _=>pw⟩
  | v i=>exact ig h
  | k d=>exact ig h
  | g i=>exact ig h
  | tup cs=>exact ig h
  | lst fz cs=>exact ig h
  | Bw=>exact ig h
  | op o fz x y=>exact ig h
  | neg x=>exact ig h
  | chain _ _ _ _ _=>exact ig h
  | tru _=>exact ig h
  | x6 _ _ _=>exact ig h
  | idx _ _=>exact ig h
  | sl _ _ _ _=>exact ig h
  | call _ _=>exact ig h
  | lD _ _=>exact ig h
  | blt _ _ _=>exact ig h
  | aK _ _ _ _=>exact ig h
  | comp _ _ _ _ _ _=>exact ig h
  | fld _ _=>exact ig h
  | cY _ _ _ _ _=>exact ig h
  | new _ _ _=>exact ig h
  | mx _ _ _=>exact ig h
  | Ke _ _ _=>exact ig h
  | Kf _ _=>exact ig h
  | rv _ _=>exact ig h
  | all1 _=>exact ig h
  | j3 _ _=>exact ig h
  | uf _ _ _=>exact ig h
theorem Ht (O:eX G B Φ k X N sc b w) (ih:zh G B Φ k n X N sc b w) (hb:b=false) (a:Expr) (c:Src) (tg:Expr) (hz:(!Kp c||isTup tg)=true) (h:eY G (n+1) b N sc (.i a c)=true):PI X tg a (CV B Φ (GX b X w) c):=by
 subst hb
 cases c with
 | e c =>
  replace h:=aF h
  obtain ⟨_,h⟩:=h
  exact PI.weak (DZ O.K (ih.e _ _ h)) fun _ _ _=>Ds
 | eF c =>
  replace h:=iV h
  obtain ⟨y,p,as,pos,rfl,h⟩:=h
  replace h:=gP h
  obtain ⟨l,rfl,h⟩:=h
  simp only [Bool.and_eq_true,decide_eq_true_eq] at h
  obtain ⟨⟨⟨⟨h1,h2⟩,h3⟩,h4⟩,h5⟩:=h
  subst h1
  exact PI.weak (uL (O.oW h2) (O.blt _ h3) (c7 (ih.e _ _ h5) gk (av h4)) (av h4)) fun _ _ _=>zK
 | DC c d=>cases h
 | enum _=>cases h
 | items _=>cases h
 | rev c =>
  replace h:=iV h
  obtain ⟨y,p,as,pos,rfl,h⟩:=h
  replace h:=gP h
  obtain ⟨l,rfl,h⟩:=h
  simp only [Bool.and_eq_true,decide_eq_true_eq] at h
  obtain ⟨⟨⟨⟨h1,h2⟩,h3⟩,h4⟩,h5⟩:=h
  subst h1
  refine PI.weak (DY (O.oW h2) (O.blt _ h3) (c7 (ih.e _ _ h5) gk (av h4)) (av h4)) fun _ _ _ q=>?_
  have:=zL q
  rw [O.K] at this
  exact this
 | zip c d=>cases h
theorem swap_eq (O:eX G B Φ k X N sc b w) {el tn iter:Expr} {ifs:List Expr} {scope:Scope} {lp px p:Pos} {x:Str}:swapsWith (.ListComp el [⟨tn,iter,ifs,0⟩] scope lp) (some (.Name x px)) p.line X.env=pure (vP sc scope x px lp):=by
 rw [<- O.hsc];rfl
theorem zH {E:Gx} {Dn:Ends} {Z:L2.St} {H:Hp} {tg:List Nat} {e:Fg.E} (h:TC B Φ E (.BS tg e) Dn Z H):vN (T B Φ E e) (GN tg B.K) Dn Z H:=by
 obtain ⟨ZD,M,F,ρ,S,r,h⟩:=h
 simp only [ex] at h
 refine TC.one S r h fun x M1 F1 ρ1 H1 v e1 S1 r1 rx h1=>?_
 split at h1
 ·rename_i Z1 hs
  exact jA r1 rx hs fun Z' q=>aN.run h1 S1 Z' q
 ·exact h1.elim
theorem vU (O:eX G B Φ k X N sc false w):∀ {hds:List ExceptHandler} {hs:Hs},hdB G N sc hds hs=true->∃ rs,GR B Φ (GX false X w) B.JZ hs=some rs/\∀ pins,PH (fZ X pins) hds rs
 | [],hs,h=>by
  cases A4 (c:=hs) h
  exact ⟨[],rfl,fun _=>.nil⟩
 | hd::r,hs,h=>by
  replace h:=IM h
  obtain ⟨t,bd,hp,rfl,h⟩:=h
  replace h:=bN h
  obtain ⟨x,np,rfl,h⟩:=h
  replace h:=gP h
  obtain ⟨st,rfl,h⟩:=h
  replace h:=jX h
  obtain ⟨ty,e,p,rfl,h⟩:=h
  replace h:=bN h
  obtain ⟨y,py,rfl,h⟩:=h
  replace h:=xM h
  obtain ⟨cst,j,kp,rfl,h⟩:=h
  replace h:=IP h
  obtain ⟨cs,b,hs',rfl,h⟩:=h
  replace h:=gP h
  obtain ⟨c,rfl,h⟩:=h
  replace h:=Cu h
  obtain ⟨s,ss,rfl,h⟩:=h
  replace h:=aF h
  obtain ⟨hss,h⟩:=h
  cases lW hss
  replace h:=Fp h
  obtain ⟨i,v,rfl,h⟩:=h
  replace h:=jK_t h
  obtain ⟨d,rfl,h⟩:=h
  simp only [Bool.and_eq_true,decide_eq_true_eq] at h
  obtain ⟨⟨⟨⟨⟨⟨h1,h2⟩,h3⟩,h4⟩,h5⟩,h6⟩,h7⟩:=h
  obtain ⟨rs,hrs,ph⟩:=vU O h7
  obtain ⟨C,bmB,newId,bm,base,initId,q1,q2,q3,q4,q5,q6⟩:=O.exc _ _ h3
  refine ⟨(C,vF B Φ (GX false X w) (.cons (.set i (.k d)) .nil))::rs,by simp only [GR,q2,hrs],fun pins=>.cons q1 (O.oW h1) (fm h2).1 q4 q6 (fun e=>?_) (ph pins)⟩
  have ps:PS (suite (fZ X pins) e) (.Assign [.Name y py] (.Constant cst j kp) p) (TC B Φ (GX false X w) (.set i (.k d))) :=
   PS.weak (wK (X:=suite (fZ X pins) e) (by show X.N.Nodup;rw [O.hN];exact O.nd) (by show X.N[i]? = some y;rw [O.hN];exact h4) (O.loc h5) (rT h6) (gH rfl) (.inl (O.fn rfl y))) fun _ _ _=>lY
  exact jt.weak (oz ps (jt.weak sy fun _ _ _=>nT)) fun _ _ _=>kY
theorem zB {Y:Cx} {E:Value->Shared->Prop} {pins:List (Addr×Obj)} {D:Ends} {f:Flow} {s':Shared} (h:SP Y pins D f s'):SP (Y.bH E) pins D f s':=by
 cases f with
 | next=>obtain ⟨Z',H',I,q⟩:=h;exact ⟨Z',H',I.bH _,q⟩
 | brk=>obtain ⟨Z',H',I,q⟩:=h;exact ⟨Z',H',I.bH _,q⟩
 | cont=>obtain ⟨Z',H',I,q⟩:=h;exact ⟨Z',H',I.bH _,q⟩
 | ret u=>obtain ⟨v,Z',H',I,r,q⟩:=h;exact ⟨v,Z',H',I.bH _,r,q⟩
theorem zC {rs:List (Addr×TS)} {pins:List (Addr×Obj)} {D:Ends} {x:Ss} {bd:List Stmt} (Kq:∀ G' X' N' sc' b' w',eX G' B Φ k X' N' sc' b' w'->zh G' B Φ k n X' N' sc' b' w') (O:eX G B Φ k X N sc false w) (h:eY { G with rz:=false } n false N sc (.ss bd x)=true) :
  jt ((fZ X pins).bH (i7 (fZ X pins) (EH X.K rs D))) bd (vF B Φ (GX false X (EH X.K rs D)) x):=by
 have O':eX { G with rz:=false } B Φ k ((fZ X pins).bH (i7 (fZ X pins) (GX false (fZ X pins) (EH X.K rs D)).e)) N sc false (EH X.K rs D) :=
  ⟨O.hN,O.nd,O.hsc,O.K,O.calm,O.rm,O.dk,(fun e s ⟨p,Z,H,a,a0,C,B,h1,I,h⟩=>.inl ⟨p,Z,H,a,a0,C,B,h1,I.bH _,h⟩),(fun e s ⟨p,Z,H,a,a0,C,B,h1,I,h⟩=>⟨p,Z,H,a,a0,C,B,h1,I.aX,h⟩),(fun _ h=>by cases h),(by
   obtain ⟨env,outer,L,h1,h2,h3⟩:=O.fr
   exact ⟨env,outer,L,h1,h2,h3⟩),O.fn,O.fns,O.cst,O.blt,O.cls,O.AK,O.IC,O.exc,O.GO,O.Gd,O.st⟩
 have P:=(Kq _ _ _ _ _ _ O').ss bd x h
 intro HW s Z H Dn I q
 exact wpAny_mono (P HW s Z H Dn (I.aX.bH _) q) (fun _ _ z=>zB (SP.aX z)) fun e s2 z=>o5 z
theorem zJ {rs:List (Addr×TS)} {hs:Hs} {x:Ss} {Dn:Ends} {Z:L2.St} {H:Hp} (O:eX G B Φ k X N sc false w) (hrs:GR B Φ (GX false X w) B.JZ hs=some rs) (h:TC B Φ (GX false X w) (.try x hs .nil) Dn Z H):vF B Φ (GX false X (EH X.K rs Dn)) x Dn Z H:=by
 obtain ⟨ZD,M,F,ρ,S,r,h⟩:=h
 simp only [ex] at h
 refine ⟨ZD,M,F,ρ,S,r,?_⟩
 cases hx:exs Φ x ZD M with
 | bad=>rw [hx] at h;exact h
 | exc c M1=>rw [hx] at h;exact h
 | ok o M1 =>
  rw [hx] at h
  simp only [R.af] at h
  intro F1 ρ1 H1 e1 S1
  cases o with
  | nx Z1=>simp only [exs] at h;exact h F1 ρ1 H1 e1 S1
  | rt d=>exact h F1 ρ1 H1 e1 S1
  | bk Z1=>exact h F1 ρ1 H1 e1 S1
  | ct Z1=>exact h F1 ρ1 H1 e1 S1
  | xc c Z1 =>
   intro Z' cv x' r1 hcv
   obtain ⟨C,bmB,newId,bm,rfl,EC,sub⟩:=O.GO c cv hcv
   obtain ⟨t,pk,ht⟩:=r6 (mro:=.ref C::bm) sub hrs S1 r1 (aN.weak e1 h)
   exact ⟨H1,.refl _,C,bmB,newId,bm,t,rfl,EC,pk,ht⟩
theorem Hr (O:eX G B Φ k X N sc b w) (ih:zh G B Φ k n X N sc b w) (Kq:∀ G' X' N' sc' b' w',eX G' B Φ k X' N' sc' b' w'->zh G' B Φ k n X' N' sc' b' w') (a:Stmt) (c:S) (h:eY G (n+1) b N sc (.s a c)=true):PS X a (TC B Φ (GX b X w) c):=by
 have FD:=fun X' N' sc' w' (O':eX G B Φ k X' N' sc' true w')=>Kq G X' N' sc' true w' O'
 have hp:PassesOwn (model X.prog X.w) X.A X.env X.xe:=qw O.fr O.fo O.fx
 cases c with
 | bad=>exact fun _ _ _ _ _ _ q=>(Gz q).elim
 | set i c =>
  replace h:=jX h
  obtain ⟨t,e,p,rfl,h⟩:=h
  replace h:=IL h
  obtain ⟨x,px,rfl,h⟩:=h
  simp only [Bool.and_eq_true,decide_eq_true_eq] at h
  obtain ⟨⟨⟨h3,h1⟩,h2⟩,h4⟩:=h
  cases b with
  | true=>cases h3
  | false =>
   have st:eY G n false N sc (.e e c)=true->swapsWith e (some (.Name x px)) p.line X.env=pure false->PS X (.Assign [.Name x px] e p) (TC B Φ (GX false X w) (.set i c)):=fun q w =>
    PS.weak (wK (by rw [O.hN];exact O.nd) (by rw [O.hN];exact h1) (O.loc h2) (ih.e _ _ q) w (.inl (O.fn rfl x))) fun _ _ _=>lY
   replace h4:=A2 h4
   rcases h4 with ⟨fz,caps,tg,elt,it,cond,rfl,h4⟩ | h4
   ·obtain ⟨el,tn,iter,ifs,scope,lp,rfl,h4⟩:=Cs h4
    cases hs:vP sc scope x px lp with
    | true =>
     rw [hs] at h4
     replace h4:=aF h4
     obtain ⟨h4,k7⟩:=h4
     obtain ⟨C1,C2,C3,C4⟩:=nR O ih FD h4
     have hl:X.env.scope.names.lookup x=some .local:=by rw [O.hsc];exact xB k7
     refine PS.weak (sG (Ae (by rw [O.hN];exact O.nd) (by rw [O.hN];exact h1) hl O.calm C1 C2 O.fr O.fx C3 C4 (by rw [swap_eq O,hs]))) fun D Z H q=>?_
     exact nX (lY q)
    | false =>
     rw [hs] at h4
     exact st h4 (by rw [swap_eq O,hs])
   ·replace h4:=aF h4
    obtain ⟨q1,q2⟩:=h4
    exact st q2 (gH q1)
 | qi x y c =>
  replace h:=jX h
  obtain ⟨t,e,p,rfl,h⟩:=h
  replace h:=qF h
  obtain ⟨o,i,q,rfl,h⟩:=h
  simp only [Bool.and_eq_true] at h
  obtain ⟨⟨⟨h1,h2⟩,h3⟩,h4⟩:=h
  exact PS.weak (Af O.rm' (ih.e _ _ h3) (ih.e _ _ h4) (ih.e _ _ h2) (gH h1)) fun _ _ _=>vZ
 | ex c =>
  replace h:=Ff h
  obtain ⟨e,p,rfl,h⟩:=h
  replace h:=aF h
  obtain ⟨h1,h2⟩:=h
  exact PS.weak (Ag (ih.e _ _ h2) (gH h1)) fun _ _ _=>Dt
 | ret c =>
  replace h:=EZ h
  rcases h with ⟨p,rfl,h⟩ | ⟨e,p,rfl,h⟩
  ·cases h
  ·exact PS.weak (DP (ih.e _ _ h)) fun _ _ _=>zM
 | DE=>cases h
 | ifs c x y =>
  replace h:=E9 h
  obtain ⟨t,l,q,p,rfl,h⟩:=h
  replace h:=aF h
  obtain ⟨h,h3⟩:=h
  replace h:=aF h
  obtain ⟨h1,h2⟩:=h
  exact PS.weak (HR (ih.t _ _ h1).1 (ih.ss _ _ h2) (ih.ss _ _ h3)) fun _ _ _=>zR
 | «for» tg it x =>
  replace h:=Fe h
  obtain ⟨tn,iter,body,p,rfl,h⟩:=h
  simp only [Bool.and_eq_true] at h
  obtain ⟨⟨⟨⟨⟨h0,hz⟩,h1⟩,h2⟩,h3⟩,h4⟩:=h
  cases b with
  | true=>cases h0
  | false=>exact PS.weak (sG (DQ hp O.calm (ih.i rfl _ _ _ hz h2) (O.tg h3).1 (ih.ss _ _ h4) (set_plain h1))) fun _ _ _=>zU
 | «while» c x =>
  replace h:=IJ h
  obtain ⟨t,body,p,rfl,h⟩:=h
  replace h:=aF h
  obtain ⟨h1,h2⟩:=h
  exact PS.weak (wJ hp (ih.t _ _ h1).1 (ih.ss _ _ h2)) fun _ _ _=>uE
 | brk=>cases h
 | cont=>cases h
 | pass=>cases h
 | bK x f c =>
  replace h:=jX h
  obtain ⟨t,e,p,rfl,h⟩:=h
  replace h:=qG h
  obtain ⟨o,y,q,rfl,h⟩:=h
  simp only [Bool.and_eq_true,decide_eq_true_eq] at h
  obtain ⟨⟨⟨⟨h1,h2⟩,h3⟩,h4⟩,h5⟩:=h
  subst h1
  exact PS.weak (DR (ih.e _ _ h5) (ih.e _ _ h4) (gH h3)) fun _ _ _=>v5 fun c C hc=>⟨(O.cls c C hc).1,(O.cls c C hc).2 _ h2⟩
 | BS tg c =>
  replace h:=jX h
  obtain ⟨tn,e,p,rfl,h⟩:=h
  simp only [Bool.and_eq_true] at h
  obtain ⟨⟨⟨⟨h0,h1⟩,h2⟩,h3⟩,h4⟩:=h
  cases tn <;> first | (cases h1;done) | skip
  cases e <;> first | (cases h3;done) | exact PS.weak (DS (ih.e _ _ h4) (O.tg h2).1 rfl rfl rfl) fun _ _ _=>zH
 | raise c es =>
  replace h:=aF h
  obtain ⟨h,h'⟩:=h
  replace h:=aF h
  obtain ⟨hb,hz⟩:=h
  cases b with
  | true=>cases hb
  | false =>
   replace h':=E1 h'
   obtain ⟨e,pos,rfl,h⟩:=h'
   replace h:=iV h
   obtain ⟨x,np,as,cp,rfl,h⟩:=h
   replace h:=gP h
   obtain ⟨m,rfl,h⟩:=h
   simp only [Bool.and_eq_true,decide_eq_true_eq] at h
   obtain ⟨⟨⟨h1,h2⟩,h3⟩,h4⟩:=h
   obtain ⟨C,bmB,newId,bm,base,initId,q1,q2,q3,q4,q5,q6⟩:=O.exc _ _ h3
   replace h4:=E5 h4
   rcases h4 with ⟨z,j,p,rfl,h4⟩ | ⟨vs,p,rfl,h4⟩
   ·cases g5 h4
    refine PS.weak (oA q1 (O.oW h1) (fm h2).1 q4 q5 O.calm rfl (c7 qu gk rfl) (O.nx rfl hz)) fun D Z H q=>?_
    exact ⟨by show 1<=2 ^ 24;decide,(kZ q3 q).nil⟩
   ·simp only [Bool.and_eq_true,decide_eq_true_eq] at h4
    refine PS.weak (oA q1 (O.oW h1) (fm h2).1 q4 q5 O.calm rfl (c7 (D7 (ih.m _ _ h4.2) h4.1.1 h4.1.2) gk rfl) (O.nx rfl hz)) fun D Z H q=>?_
    obtain ⟨ZD,M,F,ρ,S,r,z⟩:=kZ q3 q
    exact ⟨ZD,M,F,ρ,S,r,ai.imp z fun _ H' z y=>⟨by show 1<=2 ^ 24;decide,z⟩⟩
 | «try» x hs els =>
  replace h:=aF h
  obtain ⟨h,h'⟩:=h
  replace h:=aF h
  obtain ⟨hb,he⟩:=h
  cases b with
  | true=>cases hb
  | false =>
   cases lW he
   replace h':=EU h'
   obtain ⟨bd,h₀,hr,p,rfl,h⟩:=h'
   replace h:=aF h
   obtain ⟨h1,h2⟩:=h
   obtain ⟨rs,hrs,ph⟩:=vU O h2
   exact PS.weak (DO (O.st rfl).1 (O.st rfl).2 (fun pins D=>zC Kq O h1) ph) fun D Z H q=>zJ O hrs q
theorem sound:∀ (n:Nat) {G:Gm} {X:Cx} {N:List Str} {sc:Scope} {b:Bool} {w:XS},eX G B Φ k X N sc b w->zh G B Φ k n X N sc b w
 | 0,G,X,N,sc,b,w,O=>⟨fun _ _ h=>(by cases h),fun _ _ h=>(by cases h),fun _ _ h=>(by cases h),fun _ _ h=>(by cases h),fun _ _ _ _ _ h=>(by cases h),fun _ _ h=>(by cases h),fun _ _ h=>(by cases h),fun _ _ h=>(by cases h)⟩
 | n+1, G, X, N, sc, b, w, O=>by
  have ih:=sound n O
  have FD:=fun X' N' sc' w' (O':eX G B Φ k X' N' sc' true w')=>sound n O'
  refine ⟨Hu O ih FD,Hq O ih,fun a c h=>?_,fun a c h=>?_,fun hb=>Ht O ih hb,Hr O ih (fun G' X' N' sc' b' w' O'=>sound n O'),fun a c h=>?_,fun a c h=>?_⟩
  ·cases a with
   | nil =>
    cases g5 (c:=c) h
    exact PA.weak gk fun _ _ _=>gF
   | cons a as =>
    replace h:=xQ (c:=c) h
    obtain ⟨c,cs,rfl,h⟩:=h
    replace h:=aF h
    obtain ⟨h,h3⟩:=h
    replace h:=aF h
    obtain ⟨h1,h2⟩:=h
    exact PA.weak (c7 (ih.e _ _ h2) (ih.es _ _ h3) (av h1)) fun _ _ _=>v8
  ·cases c with
   | none =>
    cases a with
    | none=>exact PO.weak Al fun _ _ _=>Dr
    | some _=>cases h
   | some c =>
    cases a with
    | none=>cases h
    | some a=>exact PO.weak (Ak (ih.e _ _ h)) fun _ _ _=>Dq
  ·cases a with
   | nil =>
    cases lW (c:=c) h
    exact jt.weak sy fun _ _ _=>nT
   | cons a as =>
    replace h:=Cu (c:=c) h
    obtain ⟨c,cs,rfl,h⟩:=h
    replace h:=aF h
    obtain ⟨h1,h2⟩:=h
    exact jt.weak (oz (ih.s _ _ h1) (ih.ss _ _ h2)) fun _ _ _=>kY
  ·cases a with
   | nil =>
    cases g5 (c:=c) h
    exact .nil
   | cons a as =>
    replace h:=E3 h
    rcases h with ⟨y,j,p,rfl,h⟩ | ⟨v,j,p,rfl,h⟩
    ·replace h:=aF h
     obtain ⟨h1,h2⟩:=h
     exact .lit (of_decide_eq_true h1) (ih.m _ _ h2)
    ·replace h:=xQ h
     obtain ⟨e,es,rfl,h⟩:=h
     simp only [Bool.and_eq_true,decide_eq_true_eq] at h
     obtain ⟨⟨h1,h2⟩,h3⟩:=h
     subst h1
     exact .fld (ih.e _ _ h2) (ih.m _ _ h3)
end
end Fg
end
section
namespace Fg
open PySem PySem.Spec L2
inductive BP:List DictEntry->List (Key×V)->Prop
 | nil:BP [] []
 | cons {h:Int} {x:Str} {t:Tok} {u:Value} {v:V} {es:List DictEntry} {kvs:List (Key×V)}:RelV v u->BP es kvs->BP (⟨h,.str x t,u⟩::es) ((Sum.inr x,v)::kvs)
noncomputable def K0 (w:World) (K:W.Frag) (a:Addr) (kvs:List (Key×V)):Prop :=
 kvs.length<=sizeLine/\(a == sysModules)=false/\(kvs.map (·.1)).Nodup/\∃ es n, K.lookup a=some ⟨.type "dict", none, .dict es n, #[]⟩/\W.KeysLit w.params es.toList/\BP es.toList kvs
theorem BP.vs {prog:Program} {w:World}:∀ {es:List DictEntry} {kvs:List (Key×V)},BP es kvs->∃ vs,KV kvs vs/\Pairs (aJ prog w) es vs/\vs.map (·.1)=kvs.map (·.1)
 | _,_,.nil=>⟨[],.nil,.nil,rfl⟩
 | _,_,.cons (h:=h) (x:=x) (t:=t) (u:=u) r q=>by
  obtain ⟨vs,h1,h2,h3⟩:=BP.vs q
  exact ⟨(Sum.inr x,u)::vs,.cons ⟨rfl,r⟩ h1,.cons (iD x t) rfl h2,by simp [h3]⟩
theorem K0.ok {prog:Program} {w:World} {K:W.Frag} {a:Addr} {kvs:List (Key×V)} (d:K0 w K a kvs) (h:Heap) (X:K.In h):kvs.length<=sizeLine/\(a == sysModules)=false/\∃ vs,KV kvs vs/\h.DictOf (aJ prog w) a vs:=by
 obtain ⟨h1,h2,h3,es,n,h4,h5,h6⟩:=d
 obtain ⟨vs,q1,q2,q3⟩:=BP.vs (prog:=prog) (w:=w) h6
 refine ⟨h1,h2,vs,q1,_,es,n,X _ _ h4,⟨rfl,rfl,rfl⟩,rfl,fun e he=>?_,q2,by rw [q3];exact h3⟩
 obtain ⟨x,t,e1,e2⟩:=h5.all e (Array.mem_toList_iff.mpr he)
 exact ⟨Sum.inr x,by rw [e1];exact iD x t,e2⟩
theorem FO {K:W.Frag} {C:Addr} {bmB:List Value} {newId:String} (q:W.excIn K C bmB newId=true):∃ bm,pW K C bmB newId bm/\∀ v b,W.mroIn K C v=some b->(Value.ref C::bm).contains v=b:=by
 unfold W.excIn at q
 split at q
 ·rename_i dd cd sl lk
  split at q
  ·rename_i C2 bm a0 a1 a2 a3 n a5 hm hs
   simp only [beq_iff_eq,Bool.not_eq_true',Bool.and_eq_true] at q;obtain ⟨⟨⟨⟨⟨rfl,rfl⟩,dl⟩,ht⟩,hok⟩,hni⟩:=q
   obtain ⟨nm,bs,mr,ns,qn,hd,sn,sb,ab,cl,dl'⟩:=cd;dsimp only at hm dl hok hni;subst hm dl
   obtain ⟨l⟩:=sl
   simp only at hs
   subst hs
   refine ⟨bm,⟨nm,qn,ns,bs,hd,sn,sb,ab,cl,dd,a0,a1,a2,a3,a5,lk,hok,hni,ht⟩,fun v b e=>?_⟩
   unfold W.mroIn W.clsIn at e
   rw [lk] at e
   simpa using e
  ·cases q
 ·cases q
theorem jr {C:Addr} {bm:List Value} {s:String} (h:(Value.ref C::bm).contains (.type s)=true):bm.contains (.type s)=true:=by
 rw [List.contains_cons] at h
 simpa using h
noncomputable def kN (w:World) (K:W.Frag) (cl:Nat->Option Addr) (xc:Nat->Option Addr):Bd:=⟨K,K0 w K,cl,fun c cv=>∃ C,xc c=some C/\cv=.ref C,xc⟩
theorem JI {X:Cx} {cl xc:Nat->Option Addr}:kM (kN X.w X.K cl xc) X:=fun a kvs h hp KX=>K0.ok h hp KX
structure BO (K:W.Frag) (x qual:Str) (st:Stmt) (f:Addr) (fd:FuncData):Prop where
 ex:∃ (oc:Value) (od:Option Addr) (dV kV doc pm:Value) (an:Option Addr) (cdv ct:Value) (osl:Array (Option Value)),
  fd=W.fnOf x qual (g7 st) (bX st) (aC st) dV kV doc pm an cdv ct/\K.lookup f=some ⟨oc,od,.func fd,osl⟩/\W.codeIn K cdv qual=true
noncomputable def FnAt (G:Gm) (P:lR) (K:W.Frag) (i m:Nat) (fa:Addr) (fd:FuncData) (ps:List Str):Prop:=∃ x qual st N fn,BO K x qual st fa fd/\P.fn i=some fn/\dj N ps (aC st)/\ps.length=m/\fn.np=m/\fn.ns=N.length/\fn.kr=[]/\eY G 200 false N (aC st) (.ss (bX st) fn.body)=true
structure Md (G:Gm) (P:lR) (w:World) (K:W.Frag) (mg:Str->Option Value) (cl xc:Nat->Option Addr):Prop where
 cst:∀ x i,G.cst.lookup x=some i->∃ v u,mg x=some u/\RelV v u/\∀ d,P.glob i=some d->∀ F ρ H,RD (kN w K cl xc) F ρ H d v
 blt:∀ x,G.pQ.contains x=true->mg x=none
 fns:∀ f i m,G.fns.lookup f=some (i,m)->∃ fa fd ps,mg f=some (.ref fa)/\W.keepIn K (.ref fa)=true/\Binds K fd ps []/\FnAt G P K i m fa fd ps
 cls:∀ c C,cl c=some C->vA K C/\∀ f,G.Bb.contains f=true->dG K C f
 AK:∀ c nm i m,G.AK.lookup (c,nm)=some (i,m)->∃ C fa fd ps,cl c=some C/\Meth K C nm fa/\Binds K fd ps []/\FnAt G P K i m fa fd ps
 IC:∀ x c i m,G.cls.lookup x=some (c,i,m)->∃ C fa fd ps,mg x=some (.ref C)/\cl c=some C/\Mk K C fa/\Binds K fd ps []/\FnAt G P K i m fa fd ps
 exc:∀ x c,G.exc.lookup x=some c->∃ C,mg x=some (.ref C)/\xc c=some C
 GO:∀ c C, xc c=some C->∃ bmB newId bm base initId, pW K C bmB newId bm/\ExcBaseFacts base newId initId bmB/\bm.contains (.type "BaseException")=true/\∀ d D, xc d=some D->(Value.ref C::bm).contains (.ref D)=P.sub c d
 Gd:∀ x f m d,G.Gd.lookup x=some (f,m,d)->∃ fa fd ps du,mg x=some (.ref fa)/\W.keepIn K (.ref fa)=true/\Binds K fd ps [du]/\RelV (.int d) du/\FnAt G P K f m fa fd ps
 rz:G.rz=true
section
variable {G:Gm} {P:lR} {w:World} {K:W.Frag} {mg:Str->Option Value} {prog:Program} {base:Heap}
theorem vR {B:Bd} {F:Addr->Prop} {ρ:List Addr} {H:Hp} {N:List Str} {ds:List D} {vs:List V} {n:Nat} (r:aj B F ρ H ds vs) (hn:n=N.length-vs.length):RS B F ρ H (ds.map some++List.replicate n none) (L2.start N vs):=by
 subst hn
 refine ⟨by simp [L2.start,aj.length r],fun i d q=>?_⟩
 by_cases hi:i<ds.length
 ·rw [List.getElem?_append_left (by simpa using hi),List.getElem?_map] at q
  cases hd:ds[i]? with
  | none=>rw [hd] at q;cases q
  | some e =>
   rw [hd] at q
   simp only [Option.map_some,Option.some.injEq] at q
   subst q
   obtain ⟨v,h1,h2⟩:=aj.get r hd
   refine ⟨v,?_,h2⟩
   unfold L2.start
   rw [List.getElem?_append_left (by rw [List.length_map,<- aj.length r];exact hi),List.getElem?_map,h1];rfl
 ·rw [List.getElem?_append_right (by simpa using Nat.le_of_not_lt hi),List.getElem?_replicate] at q
  split at q <;> cases q
theorem k9 {B:Bd} {F F':Addr->Prop} {ρ ρ':List Addr} {H H':Hp} {M M':MH} {d:D} {v:V} {kp:Bool} {Q:VK} {X:XK} (S:SR B F ρ M H) (h:Post B (fU kp M d M') F ρ H Q X) (e:Ext F ρ H F' ρ' H') (S':SR B F' ρ' M' H') (rd:RD B F' ρ' H' d v):Q v H':=by
 unfold fU at h
 split at h
 ·rename_i hk
  split at h
  ·rename_i hn
   exact h F' ρ H' v e.cut (S.cut S' e hk.2) (RD.cut e.r (by rw [S.len];exact hn) rd)
  ·rename_i hn
   split at h
   ·rename_i n
    split at h
    ·rename_i ds hM
     split at h
     ·rename_i hns
      simp only [RD] at rd
      obtain ⟨a,h1,rfl⟩:=rd
      obtain ⟨vs,h2,h3⟩:=S'.obj n a _ h1 hM
      have hlt:¬ n<M.length:=by simpa [nr] using hn
      have ha:a∉ρ:=fun z=>by
       obtain ⟨j,hj,ej⟩:=List.mem_iff_getElem.mp z
       have q:ρ'[j]? = some a:=e.at (by rw [List.getElem?_eq_getElem hj,ej])
       obtain ⟨j1,q1⟩:=List.getElem?_eq_some_iff.mp q
       obtain ⟨j2,q2⟩:=List.getElem?_eq_some_iff.mp h1
       have:=(List.getElem_inj S'.nd).mp (q1.trans q2.symm)
       rw [S.len] at hj
       omega
      have hHa:H a=none:=(e.n a (List.mem_of_getElem? h1)).resolve_left ha
      have Sc:=S.cut S' e hk.2
      have r3:=aj.cut e.r (by rw [S.len];exact hns) h3
      have xt:pX F' ρ H' (fun b=>F' b\/b=a) ρ H':=⟨fun _ q=>.inl q,fun _ _ _=>rfl,List.prefix_refl _⟩
      have ec:=e.cut
      refine h (fun b=>F' b\/b=a) ρ H' (.ref a) ⟨⟨ec.s,fun b q=>.inl (ec.f b q),ec.h,ec.r,ec.n,fun b q=>q.elim (ec.g b) fun z=>.inr (.inl (z ▸ hHa))⟩,ec.z⟩ (Sc.take ha (by rw [h2];simp)) ?_
      simp only [RD]
      exact ⟨a,vs,rfl,.inl ⟨.inr rfl,.inl h2⟩,aj.aU xt _ _ r3⟩
     ·exact h F' ρ' H' v e S' rd
    ·exact h F' ρ' H' v e S' rd
   ·exact h F' ρ' H' v e S' rd
 ·exact h F' ρ' H' v e S' rd
theorem uJ {B:Bd} {F F':Addr->Prop} {ρ ρ':List Addr} {H H':Hp} {M M':MH} {c:Nat} {cv:Value} {x:Option Addr} {Q:VK} {X:XK} (S:SR B F ρ M H) (h:Post B (om M c M') F ρ H Q X) (e:Ext F ρ H F' ρ' H') (S':SR B F' ρ' M' H') (q:B.exc c cv):X cv x H':=by
 unfold om at h
 split at h
 ·rename_i hk
  exact h F' ρ H' cv x e.cut (S.cut S' e hk) q
 ·exact h F' ρ' H' cv x e S' q
noncomputable abbrev yN (X:Cx) (w:XS):Cx:=X.bH fun e s=>i7 X (GX false X w).e e s\/CY X (GX false X w).e e s
theorem A5 {x qual:Str} {st:Stmt} {f:Addr} {fd:FuncData} {N ps:List Str} {k:Nat} {sp:Sp} (F:BO K x qual st f fd) (S:dj N ps (aC st)) (len:∀ vs H Q E,sp vs H Q E->vs.length=ps.length)
  (hbody:∀ (cdv:Value) (A:Around) (outer:List Env) (s:Shared) (H:Hp) (vs:List V) (Q:VK) (E:XK),cX k (A.deeper (PyProof.Rows.envOfC qual (aC st) s.heap.objs.size f cdv))->sp vs H Q E ->
   ∃ t,jt (yN (g8 (ir prog w) prog w K mg base N qual (aC st) f cdv A outer s H E) fun cv x _ H'=>E cv x H') (bX st) t/\t { nx:=fun _ H'=>Q .ak H',rt:=Q } (L2.start N vs) H):cG prog w K mg base (ir prog w) (k+1) f fd ps sp:=by
 obtain ⟨oc,od,dV,kV,doc,pm,an,cdv,ct,osl,rfl,lk,hcd⟩:=F.ex
 refine CC lk hcd S len fun A outer s H vs Q E hr h=>?_
 obtain ⟨t,h1,h2⟩:=hbody cdv A outer s H vs Q E hr h
 refine ⟨t,fun pins s1 Z H1 D I q=>?_,h2⟩
 exact wpAny_mono (h1 pins s1 Z H1 D (I.bH _) q) (fun _ _ z=>z.aX) fun e s2 z=>z.elim (fun z=>uX e s2 (o5 z)) fun z=>leave_new e s2 (w9 z)
theorem lV {cl xc:Nat->Option Addr} (D:Md G P w K mg cl xc) {k:Nat} (ih:∀ (i m:Nat) (fa:Addr) (fd:FuncData) (ps:List Str),FnAt G P K i m fa fd ps->cG prog w K mg base (ir prog w) k fa fd ps (yV (kN w K cl xc) (aa P k) i m))
  (ih0:∀ j,k=j+1->∀ (i m:Nat) (fa:Addr) (fd:FuncData) (ps:List Str),FnAt G P K i m fa fd ps->cG prog w K mg base (ir prog w) j fa fd ps (yV (kN w K cl xc) (aa P j) i m))
  {f qual:Str} {i m:Nat} {fa:Addr} {fd:FuncData} {ps:List Str} {st:Stmt} {N:List Str} {fn:Fn} (h2:BO K f qual st fa fd) (h4:P.fn i=some fn) (h5:dj N ps (aC st)) (h6:ps.length=m) (h7:fn.np=m) (h8:fn.ns=N.length) (h9:fn.kr=[]) (za:eY G 200 false N (aC st) (.ss (bX st) fn.body)=true) :
  cG prog w K mg base (ir prog w) (k+1) fa fd ps (yV (kN w K cl xc) (aa P (k+1)) i m):=by
  refine A5 h2 h5 (fun vs H Q E q=>by rw [q.1,h6]) fun cdv A outer s H vs Q E hr q=>?_
  let X0:=g8 (ir prog w) prog w K mg base N qual (aC st) fa cdv A outer s H E
  obtain ⟨hl,ds,M,F,ρ,S,rd,post⟩:=q
  have O:eX G (kN w K cl xc) (aa P k) k (yN X0 fun cv x _ H'=>E cv x H') N (aC st) false (fun cv x _ H'=>E cv x H') :=
   ⟨rfl,h5.nd,rfl,rfl,rfl,hr,JI (X:=yN X0 fun cv x _ H'=>E cv x H') (cl:=cl) (xc:=xc),(fun e s z=>z.imp (fun ⟨p,Z,H,a,a0,C,B,h1,I,h⟩=>⟨p,Z,H,a,a0,C,B,h1,I.bH _,h⟩) fun ⟨p,Z,H,a,C,vs,hh,h1,I,h⟩=>⟨p,Z,H,a,C,vs,hh,h1,I.bH _,h⟩),
    (fun e s ⟨p,Z,H,a,a0,C,B,h1,I,h⟩=>.inl ⟨p,Z,H,a,a0,C,B,h1,I.aX,h⟩),(fun _ _ e s ⟨p,Z,H,a,C,vs,hh,h1,I,h⟩=>.inr ⟨p,Z,H,a,C,vs,hh,h1,I.aX,h⟩),⟨_,_,_,rfl,rfl,rfl⟩,fun _ _=>rfl,(fun g j n hg=>by
    obtain ⟨fa,fd,ps,a1,a2,a3,a4⟩:=D.fns g j n hg
    exact ⟨fa,fd,ps,a1,a2,a3,ih j n fa fd ps a4⟩),fun x j hx=>by
    obtain ⟨v,u,a1,a2,a3⟩:=D.cst x j hx
    refine ⟨v,u,a1,a2,fun d hd=>a3 d ?_⟩
    cases k <;> exact hd,D.blt,D.cls,(fun c nm j n hg=>by
    obtain ⟨C,fa,fd,ps,a1,a2,a3,a4⟩:=D.AK c nm j n hg
    exact ⟨C,fa,fd,ps,a1,a2,a3,ih j n fa fd ps a4⟩),(fun x c j n hg=>by
    obtain ⟨C,fa,fd,ps,a1,a2,a3,a4,a5⟩:=D.IC x c j n hg
    refine ⟨C,fa,fd,ps,a1,a2,a3,a4,?_⟩
    cases k with
    | zero=>exact .inr fun _ _=>rfl
    | succ k'=>exact .inl ⟨k',rfl,ih0 k' rfl j n fa fd ps a5⟩),(fun x c hx=>by
    obtain ⟨C,a1,a2⟩:=D.exc x c hx
    obtain ⟨bmB,newId,bm,base,initId,a3,a4,a5,_⟩:=D.GO c C a2
    exact ⟨C,bmB,newId,bm,base,initId,a1,a2,⟨C,a2,rfl⟩,a3,a4,a5⟩),(fun c cv hc=>by
    obtain ⟨C,a2,rfl⟩:=hc
    obtain ⟨bmB,newId,bm,base,initId,a3,a4,a5,a6⟩:=D.GO c C a2
    refine ⟨C,bmB,newId,bm,rfl,a3,fun d D' hd=>(a6 d D' hd).trans ?_⟩
    cases k <;> rfl),(fun x f m d hd=>by
    obtain ⟨fa,fd,ps,du,a1,a2,a3,a4,a5⟩:=D.Gd x f m d hd
    exact ⟨fa,fd,ps,du,a1,a2,a3,a4,ih f m fa fd ps a5⟩),fun _=>⟨rfl,rfl⟩⟩
  refine ⟨_,(sound 200 O).ss _ _ za,_,M,F,ρ,S,vR (n:=fn.ns-fn.np) rd (by rw [h8,h7,hl]),?_⟩
  have hds:ds.length=m:=by rw [aj.length rd,hl]
  have hc:(aa P (k+1)).call i ds M=qm (aa P k) fn ds M:=by simp only [aa,h4]
  rw [hc] at post
  have hz:ds.length+fn.kr.length-fn.np=0:=by rw [h9,h7,hds];simp
  unfold qm at post
  rw [if_pos (by rw [h9,h7,hds];simp),hz,h9] at post
  simp only [List.drop_nil,List.append_nil] at post
  cases hx:exs (aa P k) fn.body (ds.map some++List.replicate (fn.ns-fn.np) none) M with
  | bad=>rw [hx] at post;exact post
  | exc c M'=>rw [hx] at post;exact post
  | ok o M' =>
   rw [hx] at post
   intro F' ρ' H' e S'
   cases o with
   | rt d=>exact fun v q=>k9 S post e S' q
   | nx Z'=>exact fun Z q=>k9 S post e S' (d:=.ak) (v:=.ak) (by simp only [RD])
   | bk _=>exact post.elim
   | ct _=>exact post.elim
   | xc c Z' =>
    intro Z cv x q1 q2
    exact ⟨H',.refl _,uJ S post e S' q2⟩
theorem kD {cl xc:Nat->Option Addr} (D:Md G P w K mg cl xc):∀ (k:Nat) (i m:Nat) (fa:Addr) (fd:FuncData) (ps:List Str),FnAt G P K i m fa fd ps->cG prog w K mg base (ir prog w) k fa fd ps (yV (kN w K cl xc) (aa P k) i m)
 | 0, i, m, fa, fd, ps, h=>by
  have no:∀ vs H Q E,¬ yV (kN w K cl xc) (aa P 0) i m vs H Q E:=fun vs H Q E q=>by
   obtain ⟨_,ds,M,F,ρ,_,_,q⟩:=q
   exact q
  exact ⟨fun vs H Q E q=>absurd q (no vs H Q E),fun A outer s H args us vs Q E _ _ _ _ q=>absurd q (no vs H Q E)⟩
 | 1,i,m,fa,fd,ps,h=>by
  obtain ⟨x,qual,st,N,fn,h2,h4,h5,h6,h7,h8,h9,za⟩:=h
  exact lV D (kD D 0) (fun j e=>by cases e) h2 h4 h5 h6 h7 h8 h9 za
 | k+2,i,m,fa,fd,ps,h=>by
  obtain ⟨x,qual,st,N,fn,h2,h4,h5,h6,h7,h8,h9,za⟩:=h
  exact lV D (kD D (k+1)) (fun j e=>by cases e;exact kD D k) h2 h4 h5 h6 h7 h8 h9 za
noncomputable def B5 (K:W.Frag):Sp:=fun vs H Q _=>∃ (a:Addr) (ns:List Int),vs=[.ref a]/\fc K H a (ns.map V.int)/\ns.length<=63/\∀ H',Q (.bl true) H'
theorem EK {cl xc:Nat->Option Addr} (D:Md G P w K mg cl xc) {f qual:Str} {i k:Nat} (hP:∀ ns:List Int,ns.length<=63->∃ M',(aa P (k+1)).call i [.lst (ns.map .int)] []=.ok (.bl true) M')
  {fa:Addr} {fd:FuncData} {ps:List Str} {st:Stmt} {N:List Str} {fn:Fn} (h2:BO K f qual st fa fd) (h4:P.fn i=some fn) (h5:dj N ps (aC st)) (h6:ps.length=1) (h7:fn.np=1) (h8:fn.ns=N.length) (h9:fn.kr=[]) (za:eY G 200 false N (aC st) (.ss (bX st) fn.body)=true) :
  cG prog w K mg base (ir prog w) (k+1) fa fd ps (B5 K):=by
 refine (lV (prog:=prog) (base:=base) D (kD D k) (fun j _=>kD D j) h2 h4 h5 h6 h7 h8 h9 za).imp fun vs H Q E q=>?_
 obtain ⟨a,ns,rfl,hS,hl,q⟩:=q
 obtain ⟨M',hM⟩:=hP ns hl
 have Cv:∀ (F:Addr->Prop) (ns:List Int),aj (kN w K cl xc) F [] H (ns.map Fg.D.int) (ns.map V.int):=by
  intro F ns
  induction ns with
  | nil=>exact aj.nil
  | cons n ns ih=>exact aj.cons (by simp only [RD]) ih
 have fin:∀ F:Addr->Prop,Post (kN w K cl xc) ((aa P (k+1)).call i [.lst (ns.map .int)] []) F [] H Q E:=by
  intro F
  rw [hM]
  intro F' ρ' H' v e S' rd
  simp only [RD] at rd
  subst rd
  exact q H'
 rcases hS with hS | hS
 ·refine ⟨rfl,[.lst (ns.map .int)],[],fun b=>b=a,[],⟨rfl,List.nodup_nil,fun _ z=>by simp at z,fun b e=>by rw [e];exact Ca hS,fun n b o z=>by simp at z⟩,?_,fin _⟩
  refine aj.cons ?_ aj.nil
  simp only [RD]
  exact ⟨a,_,rfl,.inl ⟨rfl,hS⟩,Cv _ ns⟩
 ·refine ⟨rfl,[.lst (ns.map .int)],[],fun _=>False,[],⟨rfl,List.nodup_nil,fun _ z=>by simp at z,fun b e=>e.elim,fun n b o z=>by simp at z⟩,?_,fin _⟩
  refine aj.cons ?_ aj.nil
  simp only [RD]
  exact ⟨a,_,rfl,.inr hS,Cv _ ns⟩
end
end Fg
end
section
namespace Fg
open PySem PySem.Spec L2
theorem rP:∀ {ps:List Str} {us:List Value} {n:Str},n∉ps->(ps.zip us).lookup n=none
 | [],_,_,_=>rfl
 | _::_,[],_,_=>rfl
 | p::ps,u::us,n,h=>by
  rw [List.zip_cons_cons,List.lookup_cons,show (n == p)=false from beq_eq_false_iff_ne.mpr fun e=>h (e ▸ List.mem_cons_self)]
  exact rP fun z=>h (List.mem_cons_of_mem _ z)
theorem ju:∀ {ps:List Str} {us:List Value} {n:Str},n∈ps->ps.length<=us.length->((ps.zip us).lookup n).isNone=false
 | p::ps,[],n,_,hl=>by simp at hl
 | p::ps,u::us,n,h,hl=>by
  rw [List.zip_cons_cons,List.lookup_cons]
  cases e:n == p with
  | true=>rfl
  | false =>
   have e:=beq_eq_false_iff_ne.mp e
   exact ju ((List.mem_cons.mp h).resolve_left e) (by simpa using hl)
theorem o4 {α β:Type} {f g:α->Option β}:∀ {l:List α},(∀ n∈l,f n=g n)->l.filterMap f=l.filterMap g
 | [],_=>rfl
 | a::l,h=>by
  rw [List.filterMap_cons,List.filterMap_cons,h a List.mem_cons_self,o4 fun n hn=>h n (List.mem_cons_of_mem _ hn)]
theorem jg:∀ {ps:List Str} {us:List Value},ps.Nodup->us.length=ps.length->(ps.filterMap fun n=>((ps.zip us).lookup n).map (n,·))=ps.zip us
 | [],_,_,_=>rfl
 | p::ps,[],_,hl=>by simp at hl
 | p::ps,u::us,nd,hl=>by
  rw [List.nodup_cons] at nd
  rw [List.zip_cons_cons,List.filterMap_cons,List.lookup_cons,beq_self_eq_true]
  simp only [Option.map_some]
  congr 1
  refine Eq.trans ?_ (jg (us:=us) nd.2 (by simpa using hl))
  exact o4 fun n hn=>by rw [List.lookup_cons,show (n == p)=false from beq_eq_false_iff_ne.mpr fun e=>nd.1 (e ▸ hn)]
noncomputable def jF (a:Arguments) (ps:List Str):Bool:=a.posonlyargs.isEmpty&&a.kwonlyargs.isEmpty&&a.vararg.isNone&&a.kwarg.isNone&&decide (a.args.map (·.arg)=ps)
section
variable {s:Shared} {fd:FuncData} {ps:List Str} {us:List Value}
theorem iR {us:List Value} {qs:List Str} (h:∀ n∈qs,((ps.zip us).lookup n).isNone=false):(qs.filter fun n=>((ps.zip us).lookup n).isNone)=[]:=by
 rw [List.filter_eq_nil_iff]
 intro n hn
 rw [h n hn]
 decide
theorem i6 (hp:jF fd.params ps=true) (nd:ps.Nodup) (hd:fd.defaults=.none) (hl:us.length=ps.length):BindsTo s fd ⟨us,[]⟩ (ps.zip us):=by
 simp only [jF,Bool.and_eq_true,List.isEmpty_iff,Option.isNone_iff_eq_none,decide_eq_true_eq] at hp
 obtain ⟨⟨⟨⟨h1,h2⟩,h3⟩,h4⟩,h5⟩:=hp
 refine BindsTo.of_eq ?_
 unfold bindArgs
 simp only [h1,h2,h3,h4,h5,hd,List.map_nil,List.nil_append,List.append_nil,List.forIn_nil,Option.isNone_none,Bool.and_true,pure_bind]
 rw [show seqItems? Value.none=pure none from rfl,pure_bind]
 simp only [Option.getD_none,List.length_nil,Nat.zero_sub,List.drop_zero,Nat.sub_zero,List.take_length]
 rw [iR fun n hn=>ju hn (Nat.le_of_eq hl.symm),if_neg (by rw [hl];simp)]
 simp only [List.isEmpty_nil,Bool.not_true,Bool.false_eq_true,if_false,List.drop_length,List.zip_nil_left,List.forIn_nil,pure_bind]
 rw [jg nd hl]
theorem lM (hp:jF fd.params ps=true) (nd:ps.Nodup) {T:Addr} {o:Obj} {its:Array Value} {n:Nat} {du:Value} (hd:fd.defaults=.ref T) (ho:s.heap.get? T=some o) (hs:o.data=.seq its n) (hi:its.toList=[du])
  {ds:List Value} (hds:ds=[]\/ds=[du]) (hl:(us++ds).length=ps.length) (h0:ps≠[]):BindsTo s fd ⟨us,[]⟩ (ps.zip (us++ds)):=by
 simp only [jF,Bool.and_eq_true,List.isEmpty_iff,Option.isNone_iff_eq_none,decide_eq_true_eq] at hp
 obtain ⟨⟨⟨⟨h1,h2⟩,h3⟩,h4⟩,h5⟩:=hp
 obtain ⟨qs,z,rfl⟩:∃ qs z,ps=qs++[z]:=by
  rcases List.eq_nil_or_concat ps with e | ⟨qs,z,e⟩
  ·exact absurd e h0
  ·exact ⟨qs,z,by simpa using e⟩
 intro M A E Q hq
 unfold bindArgs
 simp only [h1,h2,h3,h4,h5,hd,List.map_nil,List.nil_append,List.append_nil,List.forIn_nil,Option.isNone_none,Bool.and_true,pure_bind]
 refine wpAny_bind (wpAny_seqItems ho hs ?_)
 simp only [Option.getD_some,hi,List.length_append,List.length_cons,List.length_nil] at hl ⊢
 have hz:z∉qs:=fun m=>by
  rw [List.nodup_append] at nd
  exact nd.2.2 z m z List.mem_cons_self rfl
 rw [show (0+1-(qs.length+(0+1)))=0 by omega,List.drop_zero,List.length_cons,List.length_nil,show qs.length+(0+1)-(0+1)=qs.length by omega,List.take_left,List.drop_left,
  iR (fun n hn=>?_),if_neg (by simp;rcases hds with rfl | rfl <;> simp at hl <;> omega)]
 ·simp only [List.isEmpty_nil,Bool.not_true,Bool.false_eq_true,if_false,List.zip_cons_cons,List.zip_nil_right,List.forIn_cons,List.forIn_nil,pure_bind]
  rcases hds with rfl | rfl
  ·rw [List.append_nil] at hq
   rw [ju (by simp) (by simp at hl ⊢;omega)]
   simp only [Bool.false_eq_true,if_false,pure_bind]
   rw [jg nd (by simpa using hl)]
   exact wpAny_pure hq
  ·have hl':us.length=qs.length:=by simp at hl;omega
   have e:(qs++[z]).zip us=qs.zip us:=by
    rw [show us=us++[] by simp,List.zip_append hl'.symm];simp
   have e2:(qs++[z]).zip (us++[du])=qs.zip us++[(z,du)]:=by
    rw [List.zip_append hl'.symm];simp
   rw [e,rP hz]
   simp only [Option.isNone_none,if_true,pure_bind]
   rw [<- e2,jg nd (by simpa using hl)]
   exact wpAny_pure hq
 ·rcases hds with rfl | rfl
  ·exact ju (by simp [hn]) (by simp at hl ⊢;omega)
  ·have hl':us.length=qs.length:=by simp at hl;omega
   have e:(qs++[z]).zip us=qs.zip us:=by
    rw [show us=us++[] by simp,List.zip_append hl'.symm];simp
   rw [e]
   exact ju hn (Nat.le_of_eq hl'.symm)
end
end Fg
end
section
namespace Fg
open PySem PySem.Spec L2
theorem CT {K:W.Frag} {x:Str} {a:Addr} (h:adr K x=some a):W.nsIn K mainGlobals x=some (some (.ref a)):=by
 unfold adr at h
 split at h
 ·rename_i e;cases h;exact e
 ·cases h
theorem pL {K:W.Frag} {v:Value} (h:iL K v=some none):v=.none:=by
 unfold iL at h
 split at h
 ·rfl
 ·split at h
  ·split at h <;> cases h
  ·cases h
 ·cases h
theorem pK {K:W.Frag} {v:Value} {d:Int} (h:iL K v=some (some d)):∃ T oc od its n sl tk,v=.ref T/\K.lookup T=some ⟨oc,od,.seq its n,sl⟩/\its.toList=[.int d tk]:=by
 unfold iL at h
 split at h
 ·cases h
 ·split at h
  ·rename_i T _ oc od its n sl lk
   split at h
   ·rename_i _ d' tk hi
    cases h
    exact ⟨T,oc,od,its,n,sl,tk,rfl,lk,hi⟩
   ·cases h
  ·cases h
 ·cases h
theorem ye {K:W.Frag} {f:Addr} {r:Row} (h:oZ K f=some r.good):∃ oc od dV kV doc pm an cdv ct osl,
  K.lookup f=some ⟨oc,od,.func (W.fnOf r.x r.ql (g7 r.st) (bX r.st) (aC r.st) dV kV doc pm an cdv ct),osl⟩/\W.codeIn K cdv r.ql=true/\iL K dV=some r.kr:=by
 unfold oZ at h
 split at h
 ·rename_i oc od fd osl lk
  simp only [Row.good,Option.some.injEq,Prod.mk.injEq] at h
  obtain ⟨h1,h2,h3,h4,h5,h6,h7,h8,h9,za⟩:=h
  obtain ⟨f1,f2,f3,f4,f5,f6,f7,f8,f9,f10,f11,f12,f13,f14,f15⟩:=fd
  dsimp only at h1 h2 h3 h4 h5 h6 h7 h8 h9 za
  subst h1 h2 h3 h4 h5 h6 h7 h8
  exact ⟨oc,od,f8,f9,f10,f11,f12,f13,f14,osl,lk,za,h9⟩
 ·cases h
noncomputable def scB (N P:List Str) (sc:Scope):Bool:=decide (sc.kind=.function)&&!sc.isCoroutine&&!sc.isGenerator&&decide N.Nodup&&decide (N.take P.length=P) &&
 (P.all fun x=>decide (sc.names.lookup x=some .local)||decide (sc.names.lookup x=some .cell))&&sc.names.all fun y=>decide (y.2≠.free)
theorem Hy {N P:List Str} {sc:Scope} (h:scB N P sc=true):dj N P sc:=by
 simp only [scB,Bool.and_eq_true,decide_eq_true_eq,Bool.not_eq_true',List.all_eq_true,Bool.or_eq_true] at h
 obtain ⟨⟨⟨⟨⟨⟨h1,h2⟩,h3⟩,h4⟩,h5⟩,h6⟩,h7⟩:=h
 exact ⟨h1,h2,h3,h4,h5,h6,h7⟩
noncomputable def Row.ok (G:Gm) (P:lR) (r:Row):Bool:=match P.fn r.i with
 | some fn=>scB r.N r.ps (aC r.st)&&jF (g7 r.st) r.ps&&decide (fn.np=r.ps.length)&&decide (fn.ns=r.N.length)&&fn.kr.isEmpty&&(r.kr.isNone||!r.ps.isEmpty)&&eY G 200 false r.N (aC r.st) (.ss (bX r.st) fn.body)
 | none=>false
structure Rw (G:Gm) (P:lR) (K:W.Frag) (r:Row) (f:Addr) (fd:FuncData):Prop where
 at_:FnAt G P K r.i r.ps.length f fd r.ps
 bd:Binds K fd r.ps []
 kp:W.keepIn K (.ref f)=true
 bn:r.kr=none->∀ (s:Shared) (us:List Value),us.length=r.ps.length->BindsTo s fd ⟨us,[]⟩ (r.ps.zip us)
 df:∀ d,r.kr=some d->∃ tk,Binds K fd r.ps [.int d tk]
theorem AX {K:W.Frag} {f:Addr} {oc:Value} {od:Option Addr} {fd:FuncData} {sl:Array (Option Value)} (h:K.lookup f=some ⟨oc,od,.func fd,sl⟩):W.keepIn K (.ref f)=true:=by
 simp only [W.keepIn,h]
theorem wo {G:Gm} {P:lR} {K:W.Frag} {r:Row} {f:Addr} (h:oZ K f=some r.good) (ok:r.ok G P=true):∃ fd,Rw G P K r f fd:=by
 obtain ⟨oc,od,dV,kV,doc,pm,an,cdv,ct,osl,lk,hc,hd⟩:=ye h
 unfold Row.ok at ok
 split at ok
 ·rename_i fn hf
  simp only [Bool.and_eq_true,decide_eq_true_eq,List.isEmpty_iff] at ok
  obtain ⟨⟨⟨⟨⟨⟨k1,k2⟩,k3⟩,k4⟩,k5⟩,k6⟩,k7⟩:=ok
  have S:=Hy k1
  have nd:r.ps.Nodup:=by rw [<- S.pre];exact S.nd.sublist (List.take_sublist _ _)
  refine ⟨_,⟨_,_,_,_,_,⟨⟨oc,od,dV,kV,doc,pm,an,cdv,ct,osl,rfl,lk,hc⟩⟩,hf,S,rfl,k3,k4,k5,k7⟩,?_,AX lk,fun e s us hl=>?_,fun d e=>?_⟩
  ·intro s us KX hl
   cases e:r.kr with
   | none =>
    rw [e] at hd
    rw [List.append_nil] at hl ⊢
    exact i6 k2 nd (pL hd) hl
   | some d =>
    rw [e] at hd k6
    obtain ⟨T,o1,o2,its,n,sl,tk,rfl,lT,hi⟩:=pK hd
    exact lM k2 nd rfl (KX _ _ lT) rfl hi (.inl rfl) hl (by simpa using k6)
  ·rw [e] at hd
   exact i6 k2 nd (pL hd) hl
  ·rw [e] at hd k6
   obtain ⟨T,o1,o2,its,n,sl,tk,rfl,lT,hi⟩:=pK hd
   exact ⟨tk,fun s us KX hl=>lM k2 nd rfl (KX _ _ lT) rfl hi (.inr rfl) hl (by simpa using k6)⟩
 ·cases ok
end Fg
end
section
namespace Fg
open PySem PySem.Spec L2
theorem mem_of_lookup {α β:Type} [BEq α] [LawfulBEq α] {x:α} {b:β}:∀ {l:List (α×β)},l.lookup x=some b->(x,b)∈l
 | [],h=>by cases h
 | (y, c)::l, h=>by
  rw [List.lookup_cons] at h
  by_cases e:x=y
  ·subst e;simp at h;subst h;exact List.mem_cons_self
  ·rw [show (x == y)=false from beq_eq_false_iff_ne.mpr e] at h
   exact List.mem_cons_of_mem _ (mem_of_lookup h)
theorem cy {α β:Type} {f g:α->β}:∀ {l:List α},l.map f=l.map g->∀ a∈l,f a=g a
 | [],_,_,h=>by cases h
 | b::l,e,a,h=>by
  rw [List.map_cons,List.map_cons,List.cons.injEq] at e
  rcases List.mem_cons.mp h with rfl | h
  ·exact e.1
  ·exact cy e.2 a h
noncomputable def Tb.gm (t:Tb):Gm:=⟨t.fn.map fun r=>(r.x,r.i,r.ps.length),(t.cs.map fun c=>(c.1,c.2.1))++(t.ct.map fun c=>(c.1,c.2.1))++(t.cd.map fun c=>(c.1,c.2.1)),t.bl,
 t.mt.filterMap fun r=>if r.2.x=("__init__" : Str) then (t.cl[r.1]?).map fun x=>(x, r.1, r.2.i, r.2.ps.length) else none,
 t.mt.filterMap fun r=>if r.2.x=("__init__" : Str) then none else some ((r.1, r.2.x), r.2.i, r.2.ps.length), t.fl, t.xc.zipIdx,
 t.fn.filterMap fun r=>r.kr.map fun d=>(r.x,r.i,r.ps.length,d),true⟩
noncomputable def Dd:D->Option Str
 | .str x=>some x
 | _=>none
noncomputable def intD:D->Option Int
 | .int x=>some x
 | _=>none
noncomputable def Tb.okC (t:Tb) (P:lR):Bool:=(t.cs.all fun c=>match P.glob c.2.1 with
 | some (.int n)=>decide (n=c.2.2)
 | _=>false)&&(t.ct.all fun c=>decide (c.2.2.length<=sizeLine)&&match P.glob c.2.1 with
 | some (.tup ds)=>decide (ds.map Dd=c.2.2.map some)
 | _=>false)&&t.cd.all fun c=>decide (c.2.2.length<=sizeLine)&&decide (c.2.2.map fun z=>z.1).Nodup&&match P.glob c.2.1 with
 | some (.dct ks ds)=>decide (ks=c.2.2.map fun z=>Sum.inr z.1)&&decide (ds.map intD=c.2.2.map fun z=>some z.2)
 | _=>false
noncomputable def Tb.ok (t:Tb) (G:Gm) (P:lR):Bool:=(t.fn.all fun r=>r.ok G P)&&(t.mt.all fun r=>r.2.ok G P)&&t.okC P
theorem kU:∀ {us:List Value} {xs:List Str},us.map strOf=xs.map some->Vals (xs.map .str) us
 | [],[],_=>.nil
 | [],_::_,h=>by cases h
 | _::_,[],h=>by cases h
 | u::us,x::xs,h=>by
  rw [List.map_cons,List.map_cons,List.cons.injEq] at h
  refine .cons ?_ (kU h.2)
  have h1:=h.1
  unfold strOf at h1
  split at h1
  ·cases h1;exact ⟨_,rfl⟩
  ·cases h1
theorem tZ {w:World}:∀ {es:List DictEntry} {kvs:List (Str×Int)},(es.map fun e=>(e.hash,strOf e.key,intOf e.val))=(kvs.map fun z=>(PyData.keyHash w.params z.1,some z.1,some z.2)) ->
  W.KeysLit w.params es/\BP es (kvs.map fun z=>(Sum.inr z.1,.int z.2))
 | [],[],_=>⟨trivial,.nil⟩
 | [],_::_,h=>by cases h
 | _::_,[],h=>by cases h
 | ⟨hh, k, v⟩::es, z::kvs, h=>by
  rw [List.map_cons,List.map_cons,List.cons.injEq,Prod.mk.injEq,Prod.mk.injEq] at h
  obtain ⟨⟨h1,h2,h3⟩,h4⟩:=h
  obtain ⟨q1,q2⟩:=tZ h4
  dsimp only at h1 h2 h3
  unfold strOf at h2
  unfold intOf at h3
  split at h2
  ·cases h2
   split at h3
   ·cases h3
    exact ⟨⟨⟨_,_,rfl,h1⟩,q1⟩,.cons ⟨_,rfl⟩ q2⟩
   ·cases h3
  ·cases h2
section
variable {B:Bd} {F:Addr->Prop} {ρ:List Addr} {H:Hp}
theorem ou:∀ {ds:List D} {xs:List Str},ds.map Dd=xs.map some->aj B F ρ H ds (xs.map .str)
 | [],[],_=>aj.nil
 | [],_::_,h=>by cases h
 | _::_,[],h=>by cases h
 | d::ds,x::xs,h=>by
  rw [List.map_cons,List.map_cons,List.cons.injEq] at h
  refine aj.cons ?_ (ou h.2)
  have h1:=h.1
  unfold Dd at h1
  split at h1
  ·cases h1;simp only [RD]
  ·cases h1
theorem ow:∀ {ds:List D} {kvs:List (Str×Int)},ds.map intD=(kvs.map fun z=>some z.2)->aj B F ρ H ds (kvs.map fun z=>.int z.2)
 | [],[],_=>aj.nil
 | [],_::_,h=>by cases h
 | _::_,[],h=>by cases h
 | d::ds,x::xs,h=>by
  rw [List.map_cons,List.map_cons,List.cons.injEq] at h
  refine aj.cons ?_ (ow h.2)
  have h1:=h.1
  unfold intD at h1
  split at h1
  ·cases h1;simp only [RD]
  ·cases h1
end
theorem kE {α:Type} {K:W.Frag} {x:Str} {f:Addr->Option α} {v:α} (h:(adr K x).bind f=some v):∃ a,adr K x=some a/\f a=some v:=Option.bind_eq_some_iff.mp h
theorem ny {α:Type} {K:W.Frag} {x:Str} {f:Addr->α} {v:α} (h:(adr K x).map f=some v):∃ a,adr K x=some a/\f a=v:=Option.map_eq_some_iff.mp h
section
variable {t:Tb} {P:lR} {w:World} {K:W.Frag} {h:Heap} {mg:Str->Option Value}
theorem xu (e:t.sf K=t.good P w) (ok:t.ok t.gm P=true) (r:Row) (hr:r∈t.fn):∃ f fd,adr K r.x=some f/\Rw t.gm P K r f fd:=by
 simp only [Tb.sf,Tb.good,Prod.mk.injEq] at e
 obtain ⟨f,h1,h2⟩:=kE (cy e.1 r hr)
 simp only [Tb.ok,Bool.and_eq_true,List.all_eq_true] at ok
 obtain ⟨fd,R⟩:=wo h2 (ok.1.1 r hr)
 exact ⟨f,fd,h1,R⟩
theorem Co (e:t.sf K=t.good P w) (ok:t.ok t.gm P=true) (r:Nat×Row) (hr:r∈t.mt):∃ x C f fd,t.cl[r.1]? = some x/\adr K x=some C/\W.findIn K (.ref C) r.2.x=some (some (.ref f))/\W.isFn K (.ref f)=true/\Rw t.gm P K r.2 f fd:=by
 simp only [Tb.sf,Tb.good,Prod.mk.injEq] at e
 have h1:=cy e.2.2.1 r hr
 unfold xr at h1
 obtain ⟨C,h2,h3⟩:=Option.bind_eq_some_iff.mp h1
 obtain ⟨x,h4,h5⟩:=Option.bind_eq_some_iff.mp h2
 simp only [Tb.ok,Bool.and_eq_true,List.all_eq_true] at ok
 split at h3
 ·rename_i f hf
  obtain ⟨z,h6,h7⟩:=Option.map_eq_some_iff.mp h3
  rw [Prod.mk.injEq] at h7
  rw [h7.1] at h6
  obtain ⟨fd,R⟩:=wo h6 (ok.1.2 r hr)
  exact ⟨x,C,f,fd,h4,h5,hf,h7.2,R⟩
 ·cases h3
theorem Cp (e:t.sf K=t.good P w) {c:Nat} {C:Addr} (hc:(t.cl[c]?).bind (adr K)=some C):m9 t K C=jq t:=by
 obtain ⟨x,h1,h2⟩:=Option.bind_eq_some_iff.mp hc
 simp only [Tb.sf,Tb.good,Prod.mk.injEq] at e
 obtain ⟨C',h3,h4⟩:=ny (cy e.2.1 x (List.mem_of_getElem? h1))
 rw [h2] at h3
 cases h3
 exact h4
theorem pZ {xs:List Str} {x:Str} {c:Nat} (h:xs[c]? = some x):(x,c)∈xs.zipIdx:=List.mk_mem_zipIdx_iff_getElem?.mpr h
theorem ID (e:t.sf K=t.good P w) {c:Nat} {X:Addr} (hc:(t.xc[c]?).bind (adr K)=some X):W.excIn K X BMV "ValueError.__new__" = true/\W.mroIn K X (.type "BaseException")=some true /\
  ∀ d D,(t.xc[d]?).bind (adr K)=some D->W.mroIn K X (.ref D)=some (P.sub c d):=by
 obtain ⟨x,h1,h2⟩:=Option.bind_eq_some_iff.mp hc
 simp only [Tb.sf,Tb.good,Prod.mk.injEq] at e
 obtain ⟨C',h3,h4⟩:=ny (cy e.2.2.2.1 (x,c) (pZ h1))
 rw [show adr K (x,c).1=some X from h2] at h3
 cases h3
 simp only [yi,Prod.mk.injEq] at h4
 refine ⟨h4.1,h4.2.1,fun d D hd=>?_⟩
 obtain ⟨y,h5,h6⟩:=Option.bind_eq_some_iff.mp hd
 have z:(t.xc.zipIdx.map fun y=>(adr K y.1).bind fun Y=>W.mroIn K X (.ref Y))=t.xc.zipIdx.map fun y=>some (P.sub c y.2):=by
  rw [<- h4.2.2]
  conv=>rhs;rw [<- List.zipIdx_map_fst 0 t.xc]
  rw [List.map_map]
  rfl
 have q:=cy z (y,d) (pZ h5)
 rw [show adr K (y,d).1=some D from h6] at q
 exact q
theorem Tb.md (X:K.In h) (G:h.Ns mainGlobals mg) (e:t.sf K=t.good P w) (ok:t.ok t.gm P=true):Md t.gm P w K mg (fun c=>(t.cl[c]?).bind (adr K)) (fun c=>(t.xc[c]?).bind (adr K)):=by
 have GH:∀ {x a},adr K x=some a->mg x=some (.ref a):=fun q=>W.mg_of X G (CT q)
 refine ⟨fun x i hx=>?_,fun x hx=>?_,fun f i m hx=>?_,fun c C hx=>?_,fun c nm i m hx=>?_,fun x c i m hx=>?_,fun x c hx=>?_,fun c C hx=>?_,fun x f m d hx=>?_,rfl⟩
 ·have e':=e
  simp only [Tb.sf,Tb.good,Prod.mk.injEq] at e'
  simp only [Tb.ok,Tb.okC,Bool.and_eq_true,List.all_eq_true] at ok
  obtain ⟨_,⟨ok1,ok2⟩,ok3⟩:=ok
  rcases List.mem_append.mp (mem_of_lookup hx) with hm | hm
  ·rcases List.mem_append.mp hm with hm | hm
   ·obtain ⟨c,hc,q⟩:=List.mem_map.mp hm
    cases q
    have h1:=cy e'.2.2.2.2.1 c hc
    unfold yD at h1
    split at h1
    ·rename_i n tk hn
     cases h1
     refine ⟨.int c.2.2,_,W.mg_of X G hn,⟨_,rfl⟩,fun d hd F ρ H=>?_⟩
     have h2:=ok1 c hc
     rw [hd] at h2
     split at h2
     ·rename_i n' hn'
      cases hn'
      rw [of_decide_eq_true h2]
      simp only [RD]
     ·cases h2
    ·cases h1
   ·obtain ⟨c,hc,q⟩:=List.mem_map.mp hm
    cases q
    obtain ⟨a,h1,h2⟩:=kE (cy e'.2.2.2.2.2.2.1 c hc)
    unfold vI at h2
    split at h2
    ·rename_i cl od its n sl lk
     rw [Option.some.injEq,Prod.mk.injEq] at h2
     obtain ⟨rfl,h2⟩:=h2
     have h3:=ok2 c hc
     refine ⟨.ref a,_,GH h1,rfl,fun d hd F ρ H=>?_⟩
     rw [hd] at h3
     obtain ⟨h3,h4⟩:=h3
     split at h4
     ·rename_i ds hn'
      cases hn'
      have v:=kU h2
      simp only [RD]
      exact ⟨a,_,rfl,.inr ⟨_,_,_,lk,rfl,rfl,by rw [<- Array.length_toList,<- v.length,List.length_map];exact of_decide_eq_true h3,v⟩,ou (of_decide_eq_true h4)⟩
     ·cases h4
    ·cases h2
  ·obtain ⟨c,hc,q⟩:=List.mem_map.mp hm
   cases q
   obtain ⟨a,h1,h2⟩:=kE (cy e'.2.2.2.2.2.2.2 c hc)
   unfold yC at h2
   split at h2
   ·rename_i cl od es n sl lk
    simp only [t9,Option.some.injEq,Prod.mk.injEq] at h2
    obtain ⟨rfl,rfl,rfl,hs,h2⟩:=h2
    have h3:=ok3 c hc
    refine ⟨.ref a,_,GH h1,rfl,fun d hd F ρ H=>?_⟩
    rw [hd] at h3
    obtain ⟨⟨h3,h5⟩,h4⟩:=h3
    split at h4
    ·rename_i ks ds hn'
     cases hn'
     simp only [Bool.and_eq_true,decide_eq_true_eq] at h4
     obtain ⟨q1,q2⟩:=tZ h2
     simp only [RD]
     refine ⟨a,_,rfl,.inr ⟨?_,hs,?_,es,n,lk,q1,q2⟩,?_,?_⟩
     ·rw [List.length_map];exact of_decide_eq_true h3
     ·rw [List.map_map]
      have:=of_decide_eq_true h5
      rw [show ((fun z:Key×V=>z.1) ∘ fun z:Str×Int=>((Sum.inr z.1:Key),V.int z.2))=(fun s=>(Sum.inr s:Key)) ∘ fun z:Str×Int=>z.1 from rfl,<- List.map_map]
      exact List.pairwise_map.mpr (this.imp fun h e=>h (Sum.inr.inj e))
     ·rw [List.map_map,h4.1];rfl
     ·rw [List.map_map];exact ow h4.2
    ·cases h4
   ·cases h2
 ·have e':=e
  simp only [Tb.sf,Tb.good,Prod.mk.injEq] at e'
  exact W.mg_none_of X G (cy e'.2.2.2.2.2.1 x (List.contains_iff_mem.mp hx))
 ·obtain ⟨r,hr,q⟩:=List.mem_map.mp (mem_of_lookup hx)
  cases q
  obtain ⟨fa,fd,h1,R⟩:=xu e ok r hr
  exact ⟨fa,fd,r.ps,GH h1,R.kp,R.bd,R.at_⟩
 ·have q:=Cp e hx
  simp only [m9,jq,Prod.mk.injEq] at q
  obtain ⟨q1,q2,q3,q4,q5,q6,q7⟩:=q
  exact ⟨⟨q1,q2,q3,q4⟩,fun f hf=>cy q7 f (List.contains_iff_mem.mp hf)⟩
 ·obtain ⟨r,hr,q⟩:=List.mem_filterMap.mp (mem_of_lookup hx)
  split at q
  ·cases q
  ·cases q
   obtain ⟨x,C,f,fd,h1,h2,h3,h4,R⟩:=Co e ok r hr
   exact ⟨C,f,fd,r.2.ps,by rw [h1];exact h2,⟨h3,h4,R.kp⟩,R.bd,R.at_⟩
 ·obtain ⟨r,hr,q⟩:=List.mem_filterMap.mp (mem_of_lookup hx)
  split at q
  ·rename_i hi
   obtain ⟨y,h0,q⟩:=Option.map_eq_some_iff.mp q
   cases q
   obtain ⟨x',C,f,fd,h1,h2,h3,h4,R⟩:=Co e ok r hr
   rw [h0] at h1
   cases h1
   have hC:(t.cl[r.1]?).bind (adr K)=some C:=by rw [h0];exact h2
   have q:=Cp e hC
   simp only [m9,jq,Prod.mk.injEq] at q
   rw [hi] at h3
   exact ⟨C,f,fd,r.2.ps,GH h2,hC,⟨q.2.2.2.2.1,h3,h4,q.2.2.2.2.2.1⟩,R.bd,R.at_⟩
  ·cases q
 ·have hm:=List.mk_mem_zipIdx_iff_getElem?.mp (mem_of_lookup hx)
  have e':=e
  simp only [Tb.sf,Tb.good,Prod.mk.injEq] at e'
  obtain ⟨C,h3,_⟩:=ny (cy e'.2.2.2.1 (x,c) (pZ hm))
  exact ⟨C,GH h3,by rw [hm];exact h3⟩
 ·obtain ⟨q1,q2,q3⟩:=ID e hx
  obtain ⟨bm,ec,em⟩:=FO q1
  exact ⟨_,_,bm,_,_,ec,PySem.F.excBase_ValueError,jr (em _ _ q2),fun d D hd=>em _ _ (q3 d D hd)⟩
 ·obtain ⟨r,hr,q⟩:=List.mem_filterMap.mp (mem_of_lookup hx)
  obtain ⟨d',hd,q⟩:=Option.map_eq_some_iff.mp q
  cases q
  obtain ⟨fa,fd,h1,R⟩:=xu e ok r hr
  obtain ⟨tk,hb⟩:=R.df _ hd
  exact ⟨fa,fd,r.ps,_,GH h1,R.kp,hb,⟨_,rfl⟩,R.at_⟩
theorem Tb.walk (t:Tb) (P:lR) {l:W.OpenLaw} {q:Program} {loose:List Str} {XP:(Str->Option Value)->Heap->Prop} {d:DefRec} {r:Row} {x:Str} (k:Nat) (hn:l.most=some 63) (hdf:d.params.defaults=[]) (hk:cX (k+1) callerA)
  (ok:t.ok t.gm P=true) (hr:r∈t.fn) (hx:d.name=r.x) (h0:r.kr=none) (hps:r.ps=[x])
  (hP:∀ ns:List Int,ns.length<=63->∃ M',(aa P (k+1)).call r.i [.lst (ns.map .int)] []=.ok (.bl true) M') :
  W.WalkO q loose XP (t.hook P).says l.row.toRowW d [] (fun f vs=>PySem.call f vs):=by
 refine Att.pS hn hdf fun w s₀ s₁ mg mb fa o pm cd doc a vs ns G Y ho hd hcd hmg hobj hints hlen hg=>?_
 obtain ⟨K,KX,e⟩:=Y
 obtain ⟨f,fd,h1,R⟩:=xu e ok r hr
 have hf:mg d.name=some (.ref f):=by rw [hx];exact W.mg_of KX G.T.g (CT h1)
 cases hmg.symm.trans hf
 obtain ⟨y,qual,st,N,fn,F,q1,q2,q3,q4,q5,q6,q7⟩:=R.at_
 have D:=Tb.md (w:=w) KX G.T.g e ok
 have bd:=R.bn h0
 rw [hps] at bd q2 q3 q4
 exact xF (CX:=ir l.prog w) (sp:=B5 K) (x:=x) (fd:=fd) KX G.T.g G.T.b G.T.builtins G.T.nolimit hg hobj hints (Nat.le_trans hlen (by decide)) hk (fun base _ _=>EK D hP F q1 q2 q3 q4 q5 q6 q7) (fun s u=>bd s [u] rfl)
  (fun H hO hS=>⟨a,ns,rfl,hS,hlen,fun _=>rfl⟩) fun H e s' ⟨_,_,_,_,_,_,_,_,_,_,_,_,z⟩=>z
end
end Fg
end
section
namespace bR
open Fg PySem
theorem j3:ah.fn 1=some lG:=rfl
theorem fn2:ah.fn 2=some cP:=rfl
theorem fn3:ah.fn 3=some gu:=rfl
theorem fn5:ah.fn 5=some yf:=rfl
theorem fn7:ah.fn 7=some o8:=rfl
theorem fn8:ah.fn 8=some dR:=rfl
theorem fn9:ah.fn 9=some cS:=rfl
theorem fn10:ah.fn 10=some cj:=rfl
theorem fn11:ah.fn 11=some cg:=rfl
theorem Ji:ah.fn 12=some cD:=rfl
theorem Jh:ah.fn 15=some dP:=rfl
theorem Ba:ah.fn 16=some eL:=rfl
theorem A9:ah.fn 17=some gX:=rfl
theorem Jg:ah.fn 19=some bO:=rfl
theorem Jf:ah.fn 20=some bG:=rfl
theorem fn21:ah.fn 21=some dQ:=rfl
noncomputable abbrev w (x:String):Str:=Str.ofString x
structure Mx where
 rows:D
 most:Int
 bg:Int
 pl:D
 pile:List D
 frs:List D
 aT:List D
 log:List D
 T:MH
noncomputable def Mx.o (s:Mx) (n:Nat):MO:=.ins 1 [(w "rows", s.rows), (w "most", .int s.most), (w "begun", .int s.bg), (w "place", s.pl), (w "pile", .ref (n+1)), (w "frames", .ref (n+2)), (w "lies_open", .ref (n+3)), (w "log", .ref (n+4))]
noncomputable def Mx.h (s:Mx) (M0:MH):MH:=M0++(s.o M0.length::.lst s.pile::.lst s.frs::.lst s.aT::.lst s.log::s.T)
section
variable {M0:MH} {s:Mx} {ds:List D} {t:Nat} {o:MO}
theorem off (i:Nat) (X:MH):(M0++X)[M0.length+i]? = X[i]?:=by
 rw [List.getElem?_append_right (Nat.le_add_right _ _),Nat.add_sub_cancel_left]
theorem offs (i:Nat) (X:MH) (o:MO):(M0++X).set (M0.length+i) o=M0++X.set i o:=by
 rw [List.set_append_right _ _ (Nat.le_add_right _ _),Nat.add_sub_cancel_left]
theorem g0:(s.h M0)[M0.length]? = some (s.o M0.length):=off 0 _
theorem g1:(s.h M0)[M0.length+1]? = some (.lst s.pile):=off 1 _
theorem g2:(s.h M0)[M0.length+2]? = some (.lst s.frs):=off 2 _
theorem g3:(s.h M0)[M0.length+3]? = some (.lst s.aT):=off 3 _
theorem g4:(s.h M0)[M0.length+4]? = some (.lst s.log):=off 4 _
theorem gT:(s.h M0)[M0.length+(t+5)]? = s.T[t]?:=off (t+5) _
theorem s0 {s':Mx}:(s.h M0).set M0.length (s'.o M0.length)=({ s with rows:=s'.rows,most:=s'.most,bg:=s'.bg,pl:=s'.pl }:Mx).h M0:=offs 0 _ _
theorem s1:(s.h M0).set (M0.length+1) (.lst ds)=({ s with pile:=ds }:Mx).h M0:=offs 1 _ _
theorem s2:(s.h M0).set (M0.length+2) (.lst ds)=({ s with frs:=ds }:Mx).h M0:=offs 2 _ _
theorem s3:(s.h M0).set (M0.length+3) (.lst ds)=({ s with aT:=ds }:Mx).h M0:=offs 3 _ _
theorem s4:(s.h M0).set (M0.length+4) (.lst ds)=({ s with log:=ds }:Mx).h M0:=offs 4 _ _
theorem sT:(s.h M0).set (M0.length+(t+5)) o=({ s with T:=s.T.set t o }:Mx).h M0:=offs (t+5) _ _
theorem len:(s.h M0).length=M0.length+(s.T.length+5):=by simp [Mx.h]
theorem app {X:MH}:s.h M0++X=({ s with T:=s.T++X }:Mx).h M0:=by simp [Mx.h,Mx.o]
theorem wz {a b:String} (h:decide (Str.ofString a=Str.ofString b)=false:=by decide +kernel):(Str.ofString a == Str.ofString b)=false:=by
 rw [beq_eq_false_iff_ne];exact of_decide_eq_false h
theorem wn {a b:String} (h:decide (Str.ofString a=Str.ofString b)=false:=by decide +kernel):(Str.ofString a=Str.ofString b)=False:=by
 simpa using h
theorem FN {Φ:aQ} {Z:Sg} {i:Nat} (h:Z[i]? = some (some (.ref M0.length))):ev Φ (.fld (.v i) (w "rows")) Z (s.h M0)=.ok s.rows (s.h M0):=by
 simp only [fH,j7,h,R.af,g0,Mx.o,List.lookup_cons,beq_self_eq_true]
theorem tM {Φ:aQ} {Z:Sg} {i:Nat} (h:Z[i]? = some (some (.ref M0.length))):ev Φ (.fld (.v i) (w "place")) Z (s.h M0)=.ok s.pl (s.h M0):=by
 simp only [fH, j7, h, R.af, g0, Mx.o, List.lookup_cons, beq_self_eq_true, wz (a:="place") (b:="rows"), wz (a:="place") (b:="most"), wz (a:="place") (b:="begun")]
theorem qS {Φ:aQ} {Z:Sg} {i:Nat} (h:Z[i]? = some (some (.ref M0.length))):ev Φ (.fld (.v i) (w "pile")) Z (s.h M0)=.ok (.ref (M0.length+1)) (s.h M0):=by
 simp only [fH, j7, h, R.af, g0, Mx.o, List.lookup_cons, beq_self_eq_true, wz (a:="pile") (b:="rows"), wz (a:="pile") (b:="most"), wz (a:="pile") (b:="begun"), wz (a:="pile") (b:="place")]
theorem gW {Φ:aQ} {Z:Sg} {i:Nat} (h:Z[i]? = some (some (.ref M0.length))):ev Φ (.fld (.v i) (w "frames")) Z (s.h M0)=.ok (.ref (M0.length+2)) (s.h M0):=by
 simp only [fH, j7, h, R.af, g0, Mx.o, List.lookup_cons, beq_self_eq_true, wz (a:="frames") (b:="rows"), wz (a:="frames") (b:="most"), wz (a:="frames") (b:="begun"), wz (a:="frames") (b:="place"), wz (a:="frames") (b:="pile")]
theorem mT {Φ:aQ} {Z:Sg} {i:Nat} (h:Z[i]? = some (some (.ref M0.length))):ev Φ (.fld (.v i) (w "lies_open")) Z (s.h M0)=.ok (.ref (M0.length+3)) (s.h M0):=by
 simp only [fH, j7, h, R.af, g0, Mx.o, List.lookup_cons, beq_self_eq_true, wz (a:="lies_open") (b:="rows"), wz (a:="lies_open") (b:="most"), wz (a:="lies_open") (b:="begun"), wz (a:="lies_open") (b:="place"), wz (a:="lies_open") (b:="pile"), wz (a:="lies_open") (b:="frames")]
theorem CD {Φ:aQ} {Z:Sg} {i:Nat} (h:Z[i]? = some (some (.ref M0.length))):ev Φ (.fld (.v i) (w "log")) Z (s.h M0)=.ok (.ref (M0.length+4)) (s.h M0):=by
 simp only [fH, j7, h, R.af, g0, Mx.o, List.lookup_cons, beq_self_eq_true, wz (a:="log") (b:="rows"), wz (a:="log") (b:="most"), wz (a:="log") (b:="begun"), wz (a:="log") (b:="place"), wz (a:="log") (b:="pile"), wz (a:="log") (b:="frames"), wz (a:="log") (b:="lies_open")]
theorem Au {d:D}:bI (w "place") d [(w "rows", s.rows), (w "most", .int s.most), (w "begun", .int s.bg), (w "place", s.pl), (w "pile", .ref (M0.length+1)), (w "frames", .ref (M0.length+2)), (w "lies_open", .ref (M0.length+3)), (w "log", .ref (M0.length+4))]=[(w "rows", s.rows), (w "most", .int s.most), (w "begun", .int s.bg), (w "place", d), (w "pile", .ref (M0.length+1)), (w "frames", .ref (M0.length+2)), (w "lies_open", .ref (M0.length+3)), (w "log", .ref (M0.length+4))]:=by
 simp only [bI, wn (a:="rows") (b:="place"), wn (a:="most") (b:="place"), wn (a:="begun") (b:="place"), if_true, if_false]
theorem g6 {Φ:aQ} {Z:Sg} {i:Nat} {e:E} {d:D} {s':Mx} (h:Z[i]? = some (some (.ref M0.length))) (he:ev Φ e Z (s.h M0)=.ok d (s'.h M0)):ex Φ (.bK (.v i) (w "place") e) Z (s.h M0)=.ok (.nx Z) (({ s' with pl:=d }:Mx).h M0):=by
 simp only [tN,he,R.fh,j7,h,g0,Mx.o,Au]
 exact congrArg (R.ok _) (s0 (s':={ s' with pl:=d }))
theorem u_ {Φ:aQ} {Z:Sg} {i m:Nat} {nm:Str} {es:Es} (h:Z[i]? = some (some (.ref M0.length))) (hn:([w "rows", w "most", w "begun", w "place", w "pile", w "frames", w "lies_open", w "log"].all fun x=>!(nm == x))=true):ev Φ (.cY 1 m nm (.v i) es) Z (s.h M0)=(cJ Φ es Z (s.h M0)).bind fun ds M2=>Φ.call m (.ref M0.length::ds) M2:=by
 simp only [List.all_cons,List.all_nil,Bool.and_true,Bool.and_eq_true,Bool.not_eq_true'] at hn
 obtain ⟨h1,h2,h3,h4,h5,h6,h7,h8⟩:=hn
 simp only [FT,j7,h,R.af,g0,Mx.o,List.lookup_cons,List.lookup_nil,h1,h2,h3,h4,h5,h6,h7,h8,Option.isNone_none,decide_true,Bool.and_self,if_true]
end
end bR
end
section
namespace bR
open Fg PySem
inductive Vl:D->Prop
 | int (i:Int):Vl (.int i)
 | ak:Vl .ak
 | cell {wd:Str} {sz:Int} {a b:D} {f:Nat}:1<=sz->sz<=1000->Vl a->Vl b->Vl (.tup [.str wd,.int sz,a,b,.int f])
theorem iy {M:MH} {c:Nat}:om M c M=.exc c M:=by simp [om]
theorem aA {kp:Bool} {M M':MH} {d:D} (h:nr M.length d=true) (hl:M'.length=M.length):fU kp M d M'=.ok d M':=by
 unfold fU
 by_cases hk:kp=false/\M'.take M.length=M
 ·rw [if_pos hk,if_pos h]
  have:M'=M:=by rw [<- hk.2,<- hl,List.take_length]
  rw [this]
 ·rw [if_neg hk]
theorem oj {M M':MH} {c:Nat} (hl:M'.length=M.length):om M c M'=.exc c M':=by
 unfold om
 by_cases hk:M'.take M.length=M
 ·rw [if_pos hk]
  have:M'=M:=by rw [<- hk,<- hl,List.take_length]
  rw [this]
 ·rw [if_neg hk]
section
variable {M:MH} {k:Nat}
end
end bR
end
section
namespace bR
open Fg PySem
theorem Vl.nr {v:D} (h:Vl v):∀ m,Fg.nr m v=true:=fun m=>by
 induction h with
 | int=>simp [Fg.nr]
 | ak=>simp [Fg.nr]
 | cell _ _ _ _ i j=>simp [Fg.nr,sP,i,j]
theorem pT {α:Type} {xs:List α} {x:α}:dU (xs++[x]) (-1)=some x:=by
 have h1:¬ (0:Int)<=-1:=by omega
 have h2:-(((xs++[x]).length:Nat):Int)<=-1:=by rw [List.length_append,List.length_singleton];omega
 have h3:((-1:Int)+(((xs++[x]).length:Nat):Int)).toNat=xs.length:=by rw [List.length_append,List.length_singleton];omega
 simp only [dU,yZ,if_neg h1,if_pos h2,h3,Option.bind_some]
 simp
theorem tw {n x:Nat} (h:x<n):yZ n (x:Int)=some x:=by
 have h1:(x:Int)<(n:Int):=by omega
 simp only [yZ,if_pos (show (0:Int)<=(x:Int) by omega),if_pos h1,Int.toNat_natCast]
theorem ia {α:Type} {xs:List α} {i:Nat} {x:α} (h:xs[i]? = some x):dU xs (i:Int)=some x:=by
 have hx:=(List.getElem?_eq_some_iff.mp h).1
 simp only [dU,tw hx,Option.bind_some,h]
theorem eV {P:lR} {k f:Nat} {fn:Fn} {ds:List D} {M M':MH} {Z':Sg} {r:R D} (hf:P.fn f=some fn) (hn:ds.length=fn.np) (hb:exs (aa P k) fn.body (ds.map some++List.replicate (fn.ns-fn.np) none) M=.ok (.nx Z') M') (hr:fU fn.keep M .ak M'=r):(aa P (k+1)).call f ds M=r:=by
 rw [iN hf]
 have h1:ds.length+fn.kr.length-fn.np=fn.kr.length:=by omega
 simp only [qm,h1,List.drop_length,List.append_nil,hb]
 rw [if_pos (by simp;omega)]
 exact hr
theorem rD {P:lR} {k f c:Nat} {fn:Fn} {ds:List D} {M M':MH} {Z':Sg} {r:R D} (hf:P.fn f=some fn) (hn:ds.length=fn.np) (hb:exs (aa P k) fn.body (ds.map some++List.replicate (fn.ns-fn.np) none) M=.ok (.xc c Z') M') (hr:om M c M'=r):(aa P (k+1)).call f ds M=r:=by
 rw [iN hf]
 have h1:ds.length+fn.kr.length-fn.np=fn.kr.length:=by omega
 simp only [qm,h1,List.drop_length,List.append_nil,hb]
 rw [if_pos (by simp;omega)]
 exact hr
section
variable {Φ:aQ} {Z Z':Sg} {M M1 M2 M3:MH} {e c a b:E} {x d:D} {ss sa sb:Ss} {i n j k:Nat} {xs:List D}
theorem Dy (he:ev Φ e Z M=.ok d M1) (ha:ev Φ a Z M1=.ok (.ref n) M2) (hb:ev Φ b Z M2=.ok (.int (j:Int)) M3) (h:M3[n]? = some (.lst xs)) (hj:j<xs.length):exs Φ (.cons (.qi a b e) ss) Z M=exs Φ ss Z (M3.set n (.lst (xs.set j d))):=by
 simp only [ck,Bg,he,R.fh,ha,hb,l7,h,tw hj,R.af]
theorem nZ (h:ev Φ e Z M=.exc k M1):exs Φ (.cons (.ex e) ss) Z M=.ok (.xc k Z) M1:=by simp only [ck,Jk,h,R.rQ,R.af]
theorem Dw (h:ev Φ e Z M=.exc k M1):exs Φ (.cons (.set i e) ss) Z M=.ok (.xc k Z) M1:=by simp only [ck,FP,h,R.rQ,R.af]
theorem wg (h:ev Φ c Z M=.ok (.bl true) M1) (ha:exs Φ sa Z M1=.ok (.xc k Z') M2):exs Φ (.cons (.ifs c sa sb) ss) Z M=.ok (.xc k Z') M2:=by simp only [ck,j6,h,R.fh,ha,R.af]
theorem we {f:Nat} (he:ev Φ e Z M=.ok d M1) (hs:bS d=true):exs Φ (.cons (.raise f (.cons e .nil)) ss) Z M=.ok (.xc f Z) M1:=by simp only [ck,ym,yp,Bj,he,R.af,hs,if_true,R.fh]
theorem bT {s:S} (h:ex Φ s Z M=.ok (.nx Z') M1):exs Φ (.cons s ss) Z M=exs Φ ss Z' M1:=by simp only [ck,h,R.af]
end
section
variable {M0:MH} {s s':Mx} {d x y:D} {xs p:List D} {t k i:Nat} {Φ:aQ} {Z:Sg} {e:E}
theorem HU {M:MH} {n:Nat} (h:M[n]? = some (.lst (p++[x]))):gp .pop true M (.ref n) []=.ok x (M.set n (.lst p)):=by
 simp [gp,cN h,oH]
theorem Gw {M:MH} {n:Nat} (h:M[n]? = some (.lst xs)) (hl:xs.length<line):gp .append true M (.ref n) [d]=.ok .ak (M.set n (.lst (xs++[d]))):=by
 simp only [gp,cN h,oH,uS,hl,decide_true,if_true]
theorem wY {M:MH} {n:Nat} (h:M[n]? = some (.lst xs)):oJ .pop M (.ref n)=true:=by simp only [oJ,cN h,Option.isSome_some,Bool.and_self]
theorem mw {M:MH} {n:Nat} (h:M[n]? = some (.lst xs)):oJ .append M (.ref n)=true:=by simp only [oJ,cN h,Option.isSome_some,Bool.and_self]
theorem e_v {M:MH} (h:Z[i]? = some (some d)):ev Φ (.v i) Z M=.ok d M:=by simp only [j7,h]
theorem e_len {M M1:MH} {n:Nat} {fz:Bool} (he:ev Φ e Z M=.ok (.ref n) M1) (h:M1[n]? = some (.lst xs)):ev Φ (.blt .len fz (.cons e .nil)) Z M=.ok (.int xs.length) M1:=by
 simp only [mZ,aD,he,R.af,bf,pR,vw,h]
theorem kq {M M1 M2:MH} {n:Nat} {e':E} {ys:List D} (he:ev Φ e Z M=.ok (.ref n) M1) (h:M1[n]? = some (.lst ys)) (hx:ev Φ e' Z M1=.ok d M2) (h2:M2[n]? = some (.lst xs)) (hl:xs.length<line):ev Φ (.aK .append true e (.cons e' .nil)) Z M=.ok .ak (M2.set n (.lst (xs++[d]))):=by
 simp only [gy,he,R.af,mw h,if_true,aD,hx,bf,Gw h2 hl]
theorem kg {M M1:MH} {n:Nat} (he:ev Φ e Z M=.ok (.ref n) M1) (h:M1[n]? = some (.lst (p++[x]))):ev Φ (.aK .pop true e .nil) Z M=.ok x (M1.set n (.lst p)):=by
 simp only [gy,he,R.af,wY h,if_true,bf,HU h]
theorem pH {M M1 M2:MH} {n:Nat} {e':E} {j:Int} (he:ev Φ e Z M=.ok (.ref n) M1) (hx:ev Φ e' Z M1=.ok (.int j) M2) (h:M2[n]? = some (.lst xs)) (ha:dU xs j=some d):ev Φ (.idx e e') Z M=.ok d M2:=by
 simp only [mX,he,R.af,hx,oS,vw,h,ha]
theorem ki {M M1 M2:MH} {e':E} {j:Int} (he:ev Φ e Z M=.ok (.lst xs) M1) (hx:ev Φ e' Z M1=.ok (.int j) M2) (ha:dU xs j=some d):ev Φ (.idx e e') Z M=.ok d M2:=by
 simp only [mX,he,R.af,hx,oS,vw,ha]
theorem bP {M M1 M2:MH} {e':E} {j:Int} (he:ev Φ e Z M=.ok (.tup xs) M1) (hx:ev Φ e' Z M1=.ok (.int j) M2) (ha:dU xs j=some d):ev Φ (.idx e e') Z M=.ok d M2:=by
 simp only [mX,he,R.af,hx,oS,vw,ha]
theorem fK {M M1 M2:MH} {e':E} {a b:Int} {fz:Bool} (he:ev Φ e Z M=.ok (.int a) M1) (hx:ev Φ e' Z M1=.ok (.int b) M2):ev Φ (.op .add fz e e') Z M=.ok (.int (a+b)) M2:=by
 simp only [j8,he,R.af,hx,uR,gn]
theorem pF {M M1 M2:MH} {e':E} {a b:Int} {fz:Bool} (he:ev Φ e Z M=.ok (.int a) M1) (hx:ev Φ e' Z M1=.ok (.int b) M2):ev Φ (.op .sub fz e e') Z M=.ok (.int (a-b)) M2:=by
 simp only [j8,he,R.af,hx,uR,gn]
theorem ez {M M1:MH} {f:Nat} (he:ev Φ e Z M=.ok d M1):ev Φ (.call f (.cons e .nil)) Z M=Φ.call f [d] M1:=by
 simp only [c9,aD,he,R.af,bf]
theorem tS {M M1:MH} {a b:Str} (he:ev Φ e Z M=.ok (.str a) M1):ev Φ (.cmp .eq e (.k (.str b))) Z M=.ok (.bl (decide (a=b))) M1:=by
 simp [he,bh,ug,GP,aV,top,Fg.plain,dep]
theorem lI (h:Z[i]? = some (some (.ref M0.length))) (hp:s.pile=p++[x]):ev Φ (.aK .pop true (.fld (.v i) (w "pile")) .nil) Z (s.h M0)=.ok x (({ s with pile:=p }:Mx).h M0):=by
 have g:(s.h M0)[M0.length+1]? = some (.lst (p++[x])):=by rw [g1,hp]
 simp only [gy,qS h,R.af,wY g,if_true,bf,HU g,s1]
theorem kc (h:Z[i]? = some (some (.ref M0.length))) (he:ev Φ e Z (s.h M0)=.ok d (s'.h M0)) (hl:s'.pile.length<line):ev Φ (.aK .append true (.fld (.v i) (w "pile")) (.cons e .nil)) Z (s.h M0)=.ok .ak (({ s' with pile:=s'.pile++[d] }:Mx).h M0):=by
 simp only [gy,qS h,R.af,mw g1,if_true,aD,bf,he,Gw g1 hl,s1]
theorem CL (h:Z[i]? = some (some (.ref M0.length))) (he:ev Φ e Z (s.h M0)=.ok d (s.h M0)) (hl:s.log.length<line):ev Φ (.aK .append true (.fld (.v i) (w "log")) (.cons e .nil)) Z (s.h M0)=.ok .ak (({ s with log:=s.log++[d] }:Mx).h M0):=by
 simp only [gy,CD h,R.af,mw g4,if_true,aD,bf,he,Gw g4 hl,s4]
theorem tQ (h:Z[i]? = some (some (.ref M0.length))) (hf:s.frs=p++[x]):ev Φ (.idx (.fld (.v i) (w "frames")) (.neg (.k (.int 1)))) Z (s.h M0)=.ok x (s.h M0):=by
 simp only [mX,gW h,R.af,FW,mW,oS,vw,g2,hf,pT]
end
structure kF (n:Nat) (T:MH) (t k l:Nat) (kn fl:List D) (bk:D):Prop where
 at_:T[t]? = some (.ins 0 [(w "known", .ref (n+(k+5))), (w "fields", .ref (n+(l+5))), (w "behind_call", bk)])
 kn:T[k]? = some (.lst kn)
 fl:T[l]? = some (.lst fl)
section
variable {M0:MH} {s s':Mx} {d x y bk:D} {xs p kn fl:List D} {t k l i:Nat} {Φ:aQ} {Z:Sg} {e:E}
theorem F7 (A:kF M0.length s.T t k l kn fl bk) (he:ev Φ e Z (s.h M0)=.ok (.ref (M0.length+(t+5))) (s.h M0)):ev Φ (.fld e (w "known")) Z (s.h M0)=.ok (.ref (M0.length+(k+5))) (s.h M0):=by
 simp only [fH,he,R.af,gT,A.at_,List.lookup_cons,beq_self_eq_true]
theorem e_bk {s0:Mx} (A:kF M0.length s.T t k l kn fl bk) (he:ev Φ e Z (s0.h M0)=.ok (.ref (M0.length+(t+5))) (s.h M0)):ev Φ (.fld e (w "behind_call")) Z (s0.h M0)=.ok bk (s.h M0):=by
 simp only [fH, he, R.af, gT, A.at_, List.lookup_cons, beq_self_eq_true, wz (a:="behind_call") (b:="known"), wz (a:="behind_call") (b:="fields")]
end
section
variable {M0:MH} {s:Mx} {v x y bk:D} {p kn fl:List D} {t k l f:Nat} {b:Bool}
theorem EI (h1:s.aT.length<line) (h2:s.log.length<line):(aa ah (k+1)).call 10 [.ref M0.length] (s.h M0)=.ok (.int s.aT.length) (({ s with aT:=s.aT++[.bl true], log:=s.log++[.tup [.str (w "open"), .int s.aT.length]] }:Mx).h M0):=by
 have e0:ev (aa ah k) (.blt .len true (.cons (.fld (.v 0) (w "lies_open")) .nil)) [some (.ref M0.length), none] (s.h M0)=.ok (.int s.aT.length) (s.h M0):=e_len (mT rfl) g3
 have e1:=kq (Φ:=aa ah k) (e:=.fld (.v 0) (w "lies_open")) (e':=.k (.bl true)) (Z:=[some (.ref M0.length), some (.int s.aT.length)]) (mT (s:=s) rfl) g3 rfl g3 h1
 rw [s3] at e1
 have e2:=CL (Φ:=aa ah k) (e:=.tup (.cons (.k (.str (w "open"))) (.cons (.v 1) .nil))) (Z:=[some (.ref M0.length), some (.int s.aT.length)]) (s:={ s with aT:=s.aT++[.bl true] }) (M0:=M0) (i:=0) rfl rfl h2
 exact bC fn10 rfl ((aq e0).trans ((aL e1).trans ((aL e2).trans (bL rfl)))) (aA (by simp [nr]) (by rw [len,len]))
theorem EG (hf:f<s.aT.length) (h2:s.log.length<line):(aa ah (k+1)).call 11 [.ref M0.length, .int f] (s.h M0)=.ok .ak (({ s with aT:=s.aT.set f (.bl false), log:=s.log++[.tup [.str (w "shut"), .int f]] }:Mx).h M0):=by
 have e2:=CL (Φ:=aa ah k) (e:=.tup (.cons (.k (.str (w "shut"))) (.cons (.v 1) .nil))) (Z:=[some (.ref M0.length), some (.int f)]) (s:={ s with aT:=s.aT.set f (.bl false) }) (M0:=M0) (i:=0) rfl rfl h2
 have e1:=Dy (Φ:=aa ah k) (e:=.k (.bl false)) (a:=.fld (.v 0) (w "lies_open")) (b:=.v 1) (Z:=[some (.ref M0.length), some (.int f)]) (ss:=.cons (.ex (.aK .append true (.fld (.v 0) (w "log")) (.cons (.tup (.cons (.k (.str (w "shut"))) (.cons (.v 1) .nil))) .nil))) .nil) rfl (mT (s:=s) (M0:=M0) rfl) rfl g3 hf
 rw [s3] at e1
 exact eV fn11 rfl (e1.trans ((aL e2).trans rfl)) (aA (by simp [nr]) (by rw [len,len]))
theorem EF (hf:s.aT[f]? = some (.bl b)) (hs:f<18446744073709551616):(aa ah (k+1)).call 12 [.ref M0.length,.int f] (s.h M0)=if b then .ok .ak (s.h M0) else .exc 5 (s.h M0):=by
 have e0:ev (aa ah k) (.not (.idx (.fld (.v 0) (w "lies_open")) (.v 1))) [some (.ref M0.length), some (.int f)] (s.h M0)=.ok (.bl (!b)) (s.h M0):=by
  rw [mV,pH (mT (s:=s) (M0:=M0) (i:=0) rfl) rfl g3 (ia hf)]
  rfl
 have hs':bS (.int (f:Int))=true:=by simp only [bS,decide_eq_true_eq];omega
 cases b with
 | true=>exact eV Ji rfl ((bq e0).trans rfl) (aA (by simp [nr]) rfl)
 | false=>exact rD Ji rfl (wg e0 (we rfl hs')) iy
end
end bR
end
section
namespace bR
open Fg PySem
section
variable {M0:MH} {s:Mx} {v x y bk a b:D} {p fs kn fl:List D} {t k l f:Nat} {bo:Bool} {wd:Str}
theorem F5 {e:E} {Z:Sg} {i:Nat} {Φ:aQ} (h:Z[i]? = some (some (.ref M0.length))) (he:ev Φ e Z (s.h M0)=.ok (.int f) (s.h M0)):ev Φ (.cY 1 12 (w "want_open") (.v i) (.cons e .nil)) Z (s.h M0)=Φ.call 12 [.ref M0.length, .int f] (s.h M0):=by
 rw [u_ h (by decide +kernel),aD,he];rfl
end
noncomputable def CH:List Str->Es
 | []=>.nil
 | b::bs=>.cons (.k (.str b)) (CH bs)
theorem tO {Φ:aQ} {Z:Sg} {M:MH}:∀ bs:List Str,cJ Φ (CH bs) Z M=.ok (bs.map D.str) M
 | []=>rfl
 | b::bs=>by rw [CH,aD,mW,R.af,tO bs];rfl
theorem tR {Φ:aQ} {Z:Sg} {M M1:MH} {e:E} {c:Str} {bs:List Str} {q:Bool} (he:ev Φ e Z M=.ok (.str c) M1) (hq:(bs.any fun z=>decide (z=c))=q):ev Φ (.cmp .isin e (.tup (CH bs))) Z M=.ok (.bl q) M1:=by
 have h1:(bs.map D.str).all flat=true:=by rw [List.all_map];exact List.all_eq_true.mpr fun _ _=>rfl
 have h2:((bs.map D.str).any fun d=>aI d (.str c))=q:=by
  rw [List.any_map,<- hq]
  congr 1
 rw [cz,he,R.af,cT,tO]
 simp only [R.af,bh,FA,vw,flat,h1,h2,Bool.and_self,if_true]
theorem dg {Φ:aQ} {Z:Sg} {M M1:MH} {e:E} {c z:Str} {q:Bool} (he:ev Φ e Z M=.ok (.str c) M1) (hq:decide (c=z)=q):ev Φ (.cmp .eq e (.k (.str z))) Z M=.ok (.bl q) M1:=by
 rw [tS he,hq]
section
variable {M0:MH} {s:Mx} {v x y bk a b:D} {p fs kn fl:List D} {t k l f:Nat} {bo:Bool} {wd c:Str} {sz:Int}
end
end bR
end
section
namespace bR
open Fg PySem
theorem mU {Φ:aQ} {s:S} {Z:Sg} {M:MH}:exs Φ (.cons s .nil) Z M=ex Φ s Z M:=by
 rw [ck]
 cases ex Φ s Z M with
 | ok o M1=>cases o <;> rfl
 | exc c M1=>rfl
 | bad=>rfl
section
variable {Φ:aQ} {Z:Sg} {M M1:MH} {c:E} {a b:Ss}
theorem selF (h:ev Φ c Z M=.ok (.bl false) M1):exs Φ (.cons (.ifs c a b) .nil) Z M=exs Φ b Z M1:=by rw [mU,j6,h];rfl
theorem selT (h:ev Φ c Z M=.ok (.bl true) M1):exs Φ (.cons (.ifs c a b) .nil) Z M=exs Φ a Z M1:=by rw [mU,j6,h];rfl
end
noncomputable def rF:Ss:=.cons (.ex (.cY 1 16 (w "carry") (.v 0) (.cons (.v 1) .nil))) .nil
noncomputable def bGo:Ss:=.cons (.ex (.cY 1 17 (w "go") (.v 0) (.cons (.v 1) .nil))) .nil
noncomputable def eFl:E:=.fld (.idx (.fld (.v 0) (w "frames")) (.neg (.k (.int 1)))) (w "fields")
noncomputable def JJ:Ss:=.cons (.ex (.cY 1 13 (w "lay") (.v 0) (.cons (.v 2) (.cons (.idx eFl (.idx (.v 1) (.k (.int 1)))) .nil)))) .nil
noncomputable def CS:Ss:=.cons (.ex (.cY 1 14 (w "look") (.v 0) (.cons (.v 2) .nil))) .nil
noncomputable def yz:E:=.fld (.v 0) (w "pile")
noncomputable def BG:Ss:=.cons (.ex (.aK .append true yz (.cons (.k .ak) .nil))) .nil
noncomputable def um:Ss:=.cons (.ex (.aK .append true yz (.cons (.x6 (.cmp .y9 (.aK .pop true yz .nil) (.k .ak)) (.k (.int 1)) (.k (.int 0))) .nil))) .nil
noncomputable def bOpen:Ss:=.cons (.ex (.aK .append true eFl (.cons (.cY 1 10 (w "open_field") (.v 0) .nil) .nil))) .nil
noncomputable def yP:Ss:=.cons (.ex (.cY 1 11 (w "shut_field") (.v 0) (.cons (.aK .pop true eFl .nil) .nil))) .nil
noncomputable def uh:Ss:=.cons (.ex (.cY 1 15 (w "reckon") (.v 0) (.cons (.v 2) .nil))) .nil
noncomputable def t8:Ss:=.cons (.ifs (.cmp .eq (.v 2) (.k (.str (w "shut")))) yP uh) .nil
noncomputable def t7:Ss:=.cons (.ifs (.cmp .eq (.v 2) (.k (.str (w "open")))) bOpen t8) .nil
noncomputable def t6:Ss:=.cons (.ifs (.cmp .eq (.v 2) (.k (.str (w "none")))) um t7) .nil
noncomputable def t5:Ss:=.cons (.ifs (.cmp .eq (.v 2) (.k (.str (w "nil")))) BG t6) .nil
noncomputable def w1:List Str:=[w "number", w "local", w "keep", w "drop"]
noncomputable def w2:List Str:=[w "jump", w "unless", w "call", w "back"]
noncomputable def w3:List Str:=[w "pair", w "cons"]
noncomputable def w4:List Str:=[w "first", w "second", w "head", w "tail"]
noncomputable def t4:Ss:=.cons (.ifs (.cmp .isin (.v 2) (.tup (CH w4))) CS t5) .nil
noncomputable def t3:Ss:=.cons (.ifs (.cmp .isin (.v 2) (.tup (CH w3))) JJ t4) .nil
noncomputable def t2:Ss:=.cons (.ifs (.cmp .isin (.v 2) (.tup (CH w2))) bGo t3) .nil
noncomputable def t1:Ss:=.cons (.ifs (.cmp .isin (.v 2) (.tup (CH w1))) rF t2) .nil
theorem uC:bO.body=.cons (.set 1 (.idx (.fld (.v 0) (w "rows")) (.fld (.v 0) (w "place")))) (.cons (.bK (.v 0) (w "place") (.op .add false (.fld (.v 0) (w "place")) (.k (.int 1)))) (.cons (.set 2 (.idx (.v 1) (.k (.int 0)))) t1)):=rfl
noncomputable def an (ws:List Str) (z:Str):Bool:=ws.any fun y=>decide (y=z)
noncomputable def br (z:Str):Ss :=
 if an w1 z then rF else if an w2 z then bGo else if an w3 z then JJ else if an w4 z then CS
 else if decide (z=w "nil") then BG else if decide (z=w "none") then um else if decide (z=w "open") then bOpen else if decide (z=w "shut") then yP else uh
theorem sel {Φ:aQ} {Z:Sg} {M:MH} {c:E} {a b b':Ss} {q:Bool} (h:ev Φ c Z M=.ok (.bl q) M) (hb:exs Φ b Z M=exs Φ b' Z M):exs Φ (.cons (.ifs c a b) .nil) Z M=exs Φ (if q then a else b') Z M:=by
 cases q with
 | true=>exact selT h
 | false=>exact (selF h).trans hb
theorem Hj {Φ:aQ} {M:MH} {r x:D} {z:Str}:exs Φ t1 [some r,some x,some (.str z)] M=exs Φ (br z) [some r,some x,some (.str z)] M :=
 sel (tR rfl rfl) (sel (tR rfl rfl) (sel (tR rfl rfl) (sel (tR rfl rfl) (sel (dg rfl rfl) (sel (dg rfl rfl) (sel (dg rfl rfl) (sel (dg rfl rfl) rfl)))))))
section
variable {M0:MH} {s:Mx} {rs rest:List D} {z:Str} {j k:Nat} {i:Int}
theorem nN {Φ:aQ} (hr:s.rows=.lst rs) (hp:s.pl=.int i) (ha:dU rs i=some (.tup (.str z::rest))) :
  exs Φ bO.body [some (.ref M0.length),none,none] (s.h M0)=exs Φ (br z) [some (.ref M0.length),some (.tup (.str z::rest)),some (.str z)] (({ s with pl:=.int (i+1) }:Mx).h M0):=by
 have e1:ev Φ (.idx (.fld (.v 0) (w "rows")) (.fld (.v 0) (w "place"))) [some (.ref M0.length), none, none] (s.h M0)=.ok (.tup (.str z::rest)) (s.h M0) :=
  ki ((FN (M0:=M0) (s:=s) (i:=0) rfl).trans (by rw [hr])) ((tM (M0:=M0) (s:=s) (i:=0) rfl).trans (by rw [hp])) ha
 have e2:=g6 (Φ:=Φ) (Z:=[some (.ref M0.length), some (.tup (.str z::rest)), none]) (e:=.op .add false (.fld (.v 0) (w "place")) (.k (.int 1))) (s:=s) (s':=s) (M0:=M0) (i:=0) rfl (fK ((tM (M0:=M0) (s:=s) (i:=0) rfl).trans (by rw [hp])) rfl)
 have e3:ev Φ (.idx (.v 1) (.k (.int 0))) [some (.ref M0.length),some (.tup (.str z::rest)),none] (({ s with pl:=.int (i+1) }:Mx).h M0)=.ok (.str z) (({ s with pl:=.int (i+1) }:Mx).h M0):=bP rfl rfl cU
 rw [uC]
 exact (aq e1).trans ((bT e2).trans ((aq e3).trans Hj))
theorem bV {s':Mx} (hr:s.rows=.lst rs) (hp:s.pl=.int i) (ha:dU rs i=some (.tup (.str z::rest))) (hb:exs (aa ah k) (br z) [some (.ref M0.length),some (.tup (.str z::rest)),some (.str z)] (({ s with pl:=.int (i+1) }:Mx).h M0)=.ok (.nx [some (.ref M0.length),some (.tup (.str z::rest)),some (.str z)]) (s'.h M0))
  (hn:fU false (s.h M0) .ak (s'.h M0)=.ok .ak (s'.h M0)):(aa ah (k+1)).call 19 [.ref M0.length] (s.h M0)=.ok .ak (s'.h M0):=eV Jg rfl ((nN hr hp ha).trans hb) hn
theorem AM {s':Mx} {c:Nat} (hr:s.rows=.lst rs) (hp:s.pl=.int i) (ha:dU rs i=some (.tup (.str z::rest))) (hb:exs (aa ah k) (br z) [some (.ref M0.length),some (.tup (.str z::rest)),some (.str z)] (({ s with pl:=.int (i+1) }:Mx).h M0)=.ok (.xc c [some (.ref M0.length),some (.tup (.str z::rest)),some (.str z)]) (s'.h M0))
  (hn:s'.T.length=s.T.length):(aa ah (k+1)).call 19 [.ref M0.length] (s.h M0)=.exc c (s'.h M0):=rD Jg rfl ((nN hr hp ha).trans hb) (oj (by rw [len,len,hn]))
theorem aR {s':Mx} (h:s'.T.length=s.T.length):fU false (s.h M0) .ak (s'.h M0)=.ok .ak (s'.h M0):=aA (by simp [nr]) (by rw [len,len,h])
end
end bR
end
section
namespace bR
open Fg PySem
section
variable {M0:MH} {s:Mx} {x y v bk:D} {rest fs kn fl p:List D} {z:Str} {t k l f j:Nat} {i:Int} {Φ:aQ} {Z:Sg}
theorem iP {m:Nat} {nm:Str} {es:Es} {ds:List D} {s':Mx} {M1:MH} {ss:Ss} (h:Z[0]? = some (some (.ref M0.length))) (hn:([w "rows", w "most", w "begun", w "place", w "pile", w "frames", w "lies_open", w "log"].all fun x=>!(nm == x))=true) (he:cJ Φ es Z (s.h M0)=.ok ds (s'.h M0)) (hc:Φ.call m (.ref M0.length::ds) (s'.h M0)=.ok y M1):exs Φ (.cons (.ex (.cY 1 m nm (.v 0) es)) ss) Z (s.h M0)=exs Φ ss Z M1 :=
 aL ((u_ h hn).trans (by rw [he];exact hc))
theorem Dv {m c:Nat} {nm:Str} {es:Es} {ds:List D} {s':Mx} {M1:MH} {ss:Ss} (h:Z[0]? = some (some (.ref M0.length))) (hn:([w "rows", w "most", w "begun", w "place", w "pile", w "frames", w "lies_open", w "log"].all fun x=>!(nm == x))=true) (he:cJ Φ es Z (s.h M0)=.ok ds (s'.h M0)) (hc:Φ.call m (.ref M0.length::ds) (s'.h M0)=.exc c M1):exs Φ (.cons (.ex (.cY 1 m nm (.v 0) es)) ss) Z (s.h M0)=.ok (.xc c Z) M1 :=
 nZ ((u_ h hn).trans (by rw [he];exact hc))
theorem yK (hf:s.frs=fs++[y]) (hl:s.pile.length<line):(aa ah (k+1)).call 16 [.ref M0.length, .tup [.str (w "number"), x]] (s.h M0)=.ok .ak (({ s with pile:=s.pile++[x] }:Mx).h M0):=by
 have e1:=tQ (Φ:=aa ah k) (Z:=[some (.ref M0.length), some (.tup [.str (w "number"), x]), none]) (M0:=M0) (s:=s) (i:=0) rfl hf
 have e2:ev (aa ah k) (.cmp .eq (.idx (.v 1) (.k (.int 0))) (.k (.str (w "number")))) [some (.ref M0.length), some (.tup [.str (w "number"), x]), some y] (s.h M0)=.ok (.bl true) (s.h M0):=dg (bP rfl rfl cU) (by decide +kernel)
 have e3:=kc (Φ:=aa ah k) (e:=.idx (.v 1) (.k (.int 1))) (d:=x) (Z:=[some (.ref M0.length), some (.tup [.str (w "number"), x]), some y]) (M0:=M0) (i:=0) (s:=s) (s':=s) rfl (bP rfl rfl kB) hl
 exact eV Ba rfl ((aq e1).trans (eB e2 ((aL e3).trans rfl))) (aR rfl)
theorem BC (hf:s.frs=fs++[.ref (M0.length+(t+5))]) (A:kF M0.length s.T t j l kn fl bk) (hx:dU kn i=some x) (hl:s.pile.length<line):(aa ah (k+1)).call 16 [.ref M0.length, .tup [.str (w "local"), .int i]] (s.h M0)=.ok .ak (({ s with pile:=s.pile++[x] }:Mx).h M0):=by
 have e1:=tQ (Φ:=aa ah k) (Z:=[some (.ref M0.length), some (.tup [.str (w "local"), .int i]), none]) (M0:=M0) (s:=s) (i:=0) rfl hf
 have e2:ev (aa ah k) (.cmp .eq (.idx (.v 1) (.k (.int 0))) (.k (.str (w "number")))) [some (.ref M0.length), some (.tup [.str (w "local"), .int i]), some (.ref (M0.length+(t+5)))] (s.h M0)=.ok (.bl false) (s.h M0):=dg (bP rfl rfl cU) (by decide +kernel)
 have e3:ev (aa ah k) (.cmp .eq (.idx (.v 1) (.k (.int 0))) (.k (.str (w "local")))) [some (.ref M0.length), some (.tup [.str (w "local"), .int i]), some (.ref (M0.length+(t+5)))] (s.h M0)=.ok (.bl true) (s.h M0):=dg (bP rfl rfl cU) (by decide +kernel)
 have e4:ev (aa ah k) (.idx (.fld (.v 2) (w "known")) (.idx (.v 1) (.k (.int 1)))) [some (.ref M0.length), some (.tup [.str (w "local"), .int i]), some (.ref (M0.length+(t+5)))] (s.h M0)=.ok x (s.h M0):=pH (F7 A rfl) (bP rfl rfl kB) (gT.trans A.kn) hx
 have e5:=kc (Φ:=aa ah k) (M0:=M0) (i:=0) (s:=s) (s':=s) rfl e4 hl
 exact eV Ba rfl ((aq e1).trans (aZ e2 ((eB e3 ((aL e5).trans rfl)).trans rfl))) (aR rfl)
theorem Gk (hf:s.frs=fs++[.ref (M0.length+(t+5))]) (A:kF M0.length s.T t j l kn fl bk) (hp:s.pile=p++[x]) (hl:kn.length<line):(aa ah (k+1)).call 16 [.ref M0.length, .tup [.str (w "keep")]] (s.h M0)=.ok .ak (({ s with pile:=p, T:=s.T.set j (.lst (kn++[x])) }:Mx).h M0):=by
 have e1:=tQ (Φ:=aa ah k) (Z:=[some (.ref M0.length), some (.tup [.str (w "keep")]), none]) (M0:=M0) (s:=s) (i:=0) rfl hf
 have q:∀ u:Str, decide (w "keep" = u)=false->ev (aa ah k) (.cmp .eq (.idx (.v 1) (.k (.int 0))) (.k (.str u))) [some (.ref M0.length), some (.tup [.str (w "keep")]), some (.ref (M0.length+(t+5)))] (s.h M0)=.ok (.bl false) (s.h M0):=fun u h=>dg (bP rfl rfl cU) h
 have e4:ev (aa ah k) (.cmp .eq (.idx (.v 1) (.k (.int 0))) (.k (.str (w "keep")))) [some (.ref M0.length), some (.tup [.str (w "keep")]), some (.ref (M0.length+(t+5)))] (s.h M0)=.ok (.bl true) (s.h M0):=dg (bP rfl rfl cU) (by decide +kernel)
 have e5:=lI (Φ:=aa ah k) (Z:=[some (.ref M0.length), some (.tup [.str (w "keep")]), some (.ref (M0.length+(t+5)))]) (M0:=M0) (i:=0) (s:=s) rfl hp
 have g:(({ s with pile:=p }:Mx).h M0)[M0.length+(j+5)]? = some (.lst kn):=gT.trans A.kn
 have e6:=kq (F7 (Φ:=aa ah k) (e:=.v 2) (Z:=[some (.ref M0.length), some (.tup [.str (w "keep")]), some (.ref (M0.length+(t+5)))]) A rfl) (gT.trans A.kn) e5 g hl
 rw [sT] at e6
 exact eV Ba rfl ((aq e1).trans (aZ (q _ (by decide +kernel)) ((aZ (q _ (by decide +kernel)) ((eB e4 ((aL e6).trans rfl)).trans rfl)).trans rfl))) (aR (by simp))
theorem Gp (hf:s.frs=fs++[.ref (M0.length+(t+5))]) (A:kF M0.length s.T t j l (kn++[x]) fl bk):(aa ah (k+1)).call 16 [.ref M0.length, .tup [.str (w "drop")]] (s.h M0)=.ok .ak (({ s with T:=s.T.set j (.lst kn) }:Mx).h M0):=by
 have e1:=tQ (Φ:=aa ah k) (Z:=[some (.ref M0.length), some (.tup [.str (w "drop")]), none]) (M0:=M0) (s:=s) (i:=0) rfl hf
 have q:∀ u:Str, decide (w "drop" = u)=false->ev (aa ah k) (.cmp .eq (.idx (.v 1) (.k (.int 0))) (.k (.str u))) [some (.ref M0.length), some (.tup [.str (w "drop")]), some (.ref (M0.length+(t+5)))] (s.h M0)=.ok (.bl false) (s.h M0):=fun u h=>dg (bP rfl rfl cU) h
 have e6:=kg (F7 (Φ:=aa ah k) (e:=.v 2) (Z:=[some (.ref M0.length), some (.tup [.str (w "drop")]), some (.ref (M0.length+(t+5)))]) A rfl) (gT.trans A.kn)
 rw [sT] at e6
 exact eV Ba rfl ((aq e1).trans (aZ (q _ (by decide +kernel)) ((aZ (q _ (by decide +kernel)) ((aZ (q _ (by decide +kernel)) ((aL e6).trans rfl)).trans rfl)).trans rfl))) (aR (by simp))
theorem Gn:(aa ah (k+1)).call 17 [.ref M0.length, .tup [.str (w "jump"), x]] (s.h M0)=.ok .ak (({ s with pl:=x }:Mx).h M0):=by
 have e1:ev (aa ah k) (.cmp .eq (.idx (.v 1) (.k (.int 0))) (.k (.str (w "jump")))) [some (.ref M0.length), some (.tup [.str (w "jump"), x])] (s.h M0)=.ok (.bl true) (s.h M0):=dg (bP rfl rfl cU) (by decide +kernel)
 have e2:=g6 (Φ:=aa ah k) (Z:=[some (.ref M0.length), some (.tup [.str (w "jump"), x])]) (e:=.idx (.v 1) (.k (.int 1))) (d:=x) (s:=s) (s':=s) (M0:=M0) (i:=0) rfl (bP rfl rfl kB)
 exact eV A9 rfl (eB e1 ((bT e2).trans rfl)) (aR rfl)
theorem Gq (hf:s.frs=fs++[.ref (M0.length+(t+5))]) (A:kF M0.length s.T t j l kn fl bk):(aa ah (k+1)).call 17 [.ref M0.length, .tup [.str (w "back")]] (s.h M0)=.ok .ak (({ s with frs:=fs, pl:=bk }:Mx).h M0):=by
 have q:∀ u:Str, decide (w "back" = u)=false->ev (aa ah k) (.cmp .eq (.idx (.v 1) (.k (.int 0))) (.k (.str u))) [some (.ref M0.length), some (.tup [.str (w "back")])] (s.h M0)=.ok (.bl false) (s.h M0):=fun u h=>dg (bP rfl rfl cU) h
 have e4:ev (aa ah k) (.cmp .eq (.idx (.v 1) (.k (.int 0))) (.k (.str (w "back")))) [some (.ref M0.length), some (.tup [.str (w "back")])] (s.h M0)=.ok (.bl true) (s.h M0):=dg (bP rfl rfl cU) (by decide +kernel)
 have e5:=kg (gW (Φ:=aa ah k) (Z:=[some (.ref M0.length), some (.tup [.str (w "back")])]) (M0:=M0) (s:=s) (i:=0) rfl) (g2.trans (by rw [hf]))
 rw [s2] at e5
 have e6:=g6 (Φ:=aa ah k) (Z:=[some (.ref M0.length), some (.tup [.str (w "back")])]) (s:=s) (s':={ s with frs:=fs }) (M0:=M0) (i:=0) rfl (e_bk (s:={ s with frs:=fs }) A e5)
 exact eV A9 rfl (aZ (q _ (by decide +kernel)) ((aZ (q _ (by decide +kernel)) ((eB e4 ((bT e6).trans rfl)).trans rfl)).trans rfl)) (aR rfl)
end
end bR
end
section
namespace bR
open Fg PySem
section
variable {M0:MH} {s:Mx} {x y v bk:D} {rest fs kn fl p:List D} {z:Str} {t k l f j:Nat} {i:Int} {Φ:aQ} {Z:Sg} {M:MH}
theorem pI {M1 M2:MH} {e e':E} {a b:Int} {q:Bool} (he:ev Φ e Z M=.ok (.int a) M1) (hx:ev Φ e' Z M1=.ok (.int b) M2) (hq:decide (b<a)=q):ev Φ (.cmp .gt e e') Z M=.ok (.bl q) M2:=by
 rw [cz,he,R.af,hx,<- hq];rfl
theorem m5 {M1 M2:MH} {e a:E} {d:D} {n c:Nat} {g:Str} {gs gs':List (Str×D)} (he:ev Φ e Z M=.ok d M1) (ha:ev Φ a Z M1=.ok (.ref n) M2) (h:M2[n]? = some (.ins c gs)) (hl:gs.length<1000) (hg:bI g d gs=gs'):ex Φ (.bK a g e) Z M=.ok (.nx Z) (M2.set n (.ins c gs')):=by
 simp only [tN,he,R.fh,ha,h,hl,decide_true,if_true,hg]
theorem BD {n:Nat} {x y z:D} (h:M[n]? = some (.ins 0 [])):(aa ah (k+1)).call 8 [.ref n, x, y, z] M=.ok .ak (M.set n (.ins 0 [(w "known", x), (w "fields", y), (w "behind_call", z)])):=by
 have p1:bI (w "fields") y [(w "known", x)]=[(w "known", x), (w "fields", y)]:=by simp only [bI, wn (a:="known") (b:="fields"), if_false]
 have p2:bI (w "behind_call") z [(w "known", x), (w "fields", y)]=[(w "known", x), (w "fields", y), (w "behind_call", z)]:=by simp only [bI, wn (a:="known") (b:="behind_call"), wn (a:="fields") (b:="behind_call"), if_false]
 have e1:=m5 (Φ:=aa ah k) (Z:=[some (.ref n), some x, some y, some z]) (e:=.v 1) (a:=.v 0) (g:=w "known") (gs':=[(w "known", x)]) rfl rfl h (by decide) rfl
 have e2:=m5 (Φ:=aa ah k) (Z:=[some (.ref n), some x, some y, some z]) (e:=.v 2) (a:=.v 0) (g:=w "fields") rfl rfl (lZ (b:=.ins 0 [(w "known", x)]) h) (by simp) p1
 rw [List.set_set] at e2
 have e3:=m5 (Φ:=aa ah k) (Z:=[some (.ref n), some x, some y, some z]) (e:=.v 3) (a:=.v 0) (g:=w "behind_call") rfl rfl (lZ (b:=.ins 0 [(w "known", x), (w "fields", y)]) h) (by simp) p2
 rw [List.set_set] at e3
 exact eV fn8 rfl ((bT e1).trans ((bT e2).trans ((bT e3).trans rfl))) (aA (by simp [nr]) (by simp))
theorem e_new {M1 M2:MH} {c g:Nat} {es:Es} {ds:List D} (he:cJ Φ es Z M=.ok ds M1) (hc:Φ.ini g (.ref M1.length::ds) (M1++[.ins c []])=.ok .ak M2):ev Φ (.new c g es) Z M=.ok (.ref M1.length) M2:=by
 rw [FU,he,R.af,hc];rfl
theorem Ga {M1 M2:MH} {caps tg:List Nat} {elt:E} {it:Src} {d:D} {ds out:List D} (hi:bQ Φ it Z M=.ok (d,ds,false) M1) (hl:bz (pB Φ .none) (ev Φ elt) tg (aO M1 d) ds (iM Z caps++List.replicate tg.length none) M1 []=.ok out M2):ev Φ (.comp false caps tg elt it .none) Z M=.ok (.ref M2.length) (M2++[.lst out]):=by
 rw [mY,hi,R.af,tL,hl];rfl
theorem jm {M1 M2:MH} {caps tg:List Nat} {elt:E} {it:Src} {d:D} {ds out:List D} (hi:bQ Φ it Z M=.ok (d,ds,false) M1) (hl:bz (pB Φ .none) (ev Φ elt) tg (aO M1 d) ds (iM Z caps++List.replicate tg.length none) M1 []=.ok out M2):ev Φ (.comp true caps tg elt it .none) Z M=.ok (.lst out) M2:=by
 rw [mY,hi,R.af,tL,hl];rfl
theorem xC {elt:Sg->MH->R D} {n:Nat} {ch:MH->Bool} {d x:D} {ds acc:List D} {M1:MH} (h:elt (Z.set n (some d)) M=.ok x M1) (hc:ch M1=true) (hl:acc.length<line):bz (pB Φ .none) elt [n] ch (d::ds) Z M acc=bz (pB Φ .none) elt [n] ch ds (Z.set n (some d)) M1 (acc++[x]):=by
 rw [bz]
 simp only [sets,yr,R.af,h,hc,if_true,hl,decide_true]
theorem pG {M1:MH} {e:E} {n:Nat} (he:ev Φ e Z M=.ok (.int n) M1) (hn:n<=1000000):bQ Φ (.eF e) Z M=.ok (.ak,dI 0 n,false) M1:=by
 rw [Bm,he,R.af]
 simp only [AF hn,if_true]
theorem wu {n:Nat}:(dI 0 (n:Int)).length=n:=by simp [dI]
end
theorem zo {M M':MH} {i:Nat} {a b:MO} (h1:M[i]? = some a) (h2:M'[i]? = some b) (hn:a≠b):M'.take M.length≠M:=fun h=>by
 have hi:=(List.getElem?_eq_some_iff.mp h1).1
 have:=List.getElem?_take_of_lt (l:=M') hi
 rw [h,h1,h2] at this
 exact hn (Option.some.inj this)
theorem z7 {M M':MH} {d:D} (h:M'.take M.length≠M):fU false M d M'=.ok d M':=by
 unfold fU;rw [if_neg fun z=>h z.2]
theorem jT {s:Mx} {M0:MH}:(s.h M0).length=M0.length+(s.T.length+5):=len
section
variable {M0:MH} {s:Mx} {bk:D} {fs kn fl p xs ys:List D} {t k l j:Nat} {is:List Int}
end
end bR
end
section
namespace bR
open Fg PySem
section
variable {z:Str}
theorem KU (h:an w1 z=true):br z=rF:=if_pos h
theorem br2 (h1:an w1 z=false) (h:an w2 z=true):br z=bGo:=by
 unfold br;rw [if_neg (by rw [h1];decide),if_pos h]
theorem br0 (h1:an w1 z=false) (h2:an w2 z=false) (h3:an w3 z=false) (h4:an w4 z=false):br z=if decide (z=w "nil") then BG else if decide (z=w "none") then um else if decide (z=w "open") then bOpen else if decide (z=w "shut") then yP else uh:=by
 unfold br;rw [if_neg (by rw [h1];decide),if_neg (by rw [h2];decide),if_neg (by rw [h3];decide),if_neg (by rw [h4];decide)]
theorem Gr:br (w "nil")=BG:=(br0 (by decide +kernel) (by decide +kernel) (by decide +kernel) (by decide +kernel)).trans (if_pos (by decide +kernel))
theorem BE:br (w "none")=um:=(br0 (by decide +kernel) (by decide +kernel) (by decide +kernel) (by decide +kernel)).trans ((if_neg (by decide +kernel)).trans (if_pos (by decide +kernel)))
end
section
variable {M0:MH} {s:Mx} {x y v bk a b:D} {rs fs kn fl p xs ys:List D} {z c:Str} {t k l f j:Nat} {i n sz:Int} {is:List Int}
theorem uD (hr:s.rows=.lst rs) (hp:s.pl=.int i) (ha:dU rs i=some (.tup [.str (w "number"), x])) (hf:s.frs=fs++[y]) (hl:s.pile.length<line):(aa ah (k+2)).call 19 [.ref M0.length] (s.h M0)=.ok .ak (({ s with pl:=.int (i+1), pile:=s.pile++[x] }:Mx).h M0):=by
 refine bV (s:=s) hr hp ha ?_ (aR rfl)
 rw [KU (by decide +kernel)]
 exact (iP (s:={ s with pl:=.int (i+1) }) (s':={ s with pl:=.int (i+1) }) rfl (by decide +kernel) rfl (yK hf hl)).trans rfl
theorem vS (hr:s.rows=.lst rs) (hp:s.pl=.int i) (ha:dU rs i=some (.tup [.str (w "local"), .int n])) (hf:s.frs=fs++[.ref (M0.length+(t+5))]) (A:kF M0.length s.T t j l kn fl bk) (hx:dU kn n=some x) (hl:s.pile.length<line):(aa ah (k+2)).call 19 [.ref M0.length] (s.h M0)=.ok .ak (({ s with pl:=.int (i+1), pile:=s.pile++[x] }:Mx).h M0):=by
 refine bV (s:=s) hr hp ha ?_ (aR rfl)
 rw [KU (by decide +kernel)]
 exact (iP (s:={ s with pl:=.int (i+1) }) (s':={ s with pl:=.int (i+1) }) rfl (by decide +kernel) rfl (BC (s:={ s with pl:=.int (i+1) }) hf A hx hl)).trans rfl
theorem zx (hr:s.rows=.lst rs) (hp:s.pl=.int i) (ha:dU rs i=some (.tup [.str (w "keep")])) (hf:s.frs=fs++[.ref (M0.length+(t+5))]) (A:kF M0.length s.T t j l kn fl bk) (hx:s.pile=p++[x]) (hl:kn.length<line):(aa ah (k+2)).call 19 [.ref M0.length] (s.h M0)=.ok .ak (({ s with pl:=.int (i+1), pile:=p, T:=s.T.set j (.lst (kn++[x])) }:Mx).h M0):=by
 refine bV (s:=s) hr hp ha ?_ (aR (by simp))
 rw [KU (by decide +kernel)]
 exact (iP (s:={ s with pl:=.int (i+1) }) (s':={ s with pl:=.int (i+1) }) rfl (by decide +kernel) rfl (Gk (s:={ s with pl:=.int (i+1) }) hf A hx hl)).trans rfl
theorem zz (hr:s.rows=.lst rs) (hp:s.pl=.int i) (ha:dU rs i=some (.tup [.str (w "drop")])) (hf:s.frs=fs++[.ref (M0.length+(t+5))]) (A:kF M0.length s.T t j l (kn++[x]) fl bk):(aa ah (k+2)).call 19 [.ref M0.length] (s.h M0)=.ok .ak (({ s with pl:=.int (i+1), T:=s.T.set j (.lst kn) }:Mx).h M0):=by
 refine bV (s:=s) hr hp ha ?_ (aR (by simp))
 rw [KU (by decide +kernel)]
 exact (iP (s:={ s with pl:=.int (i+1) }) (s':={ s with pl:=.int (i+1) }) rfl (by decide +kernel) rfl (Gp (s:={ s with pl:=.int (i+1) }) hf A)).trans rfl
theorem zy (hr:s.rows=.lst rs) (hp:s.pl=.int i) (ha:dU rs i=some (.tup [.str (w "jump"), x])):(aa ah (k+2)).call 19 [.ref M0.length] (s.h M0)=.ok .ak (({ s with pl:=x }:Mx).h M0):=by
 refine bV (s:=s) hr hp ha ?_ (aR rfl)
 rw [br2 (by decide +kernel) (by decide +kernel)]
 exact (iP (s:={ s with pl:=.int (i+1) }) (s':={ s with pl:=.int (i+1) }) rfl (by decide +kernel) rfl (Gn (s:={ s with pl:=.int (i+1) }))).trans rfl
theorem zA (hr:s.rows=.lst rs) (hp:s.pl=.int i) (ha:dU rs i=some (.tup [.str (w "back")])) (hf:s.frs=fs++[.ref (M0.length+(t+5))]) (A:kF M0.length s.T t j l kn fl bk):(aa ah (k+2)).call 19 [.ref M0.length] (s.h M0)=.ok .ak (({ s with pl:=bk, frs:=fs }:Mx).h M0):=by
 refine bV (s:=s) hr hp ha ?_ (aR rfl)
 rw [br2 (by decide +kernel) (by decide +kernel)]
 exact (iP (s:={ s with pl:=.int (i+1) }) (s':={ s with pl:=.int (i+1) }) rfl (by decide +kernel) rfl (Gq (s:={ s with pl:=.int (i+1) }) hf A)).trans rfl
theorem gZ {Φ:aQ} {Z:Sg} {M M1 M2:MH} {e e':E} (h:ev Φ e Z M=.ok x M1) (h':ev Φ e' Z M1=.ok y M2):cJ Φ (.cons e (.cons e' .nil)) Z M=.ok [x,y] M2:=by rw [aD,h,R.af,aD,h'];rfl
theorem evs1 {Φ:aQ} {Z:Sg} {M M1:MH} {e:E} (h:ev Φ e Z M=.ok x M1):cJ Φ (.cons e .nil) Z M=.ok [x] M1:=by rw [aD,h];rfl
theorem Dg (hr:s.rows=.lst rs) (hp:s.pl=.int i) (ha:dU rs i=some (.tup [.str (w "nil")])) (hl:s.pile.length<line):(aa ah (k+1)).call 19 [.ref M0.length] (s.h M0)=.ok .ak (({ s with pl:=.int (i+1), pile:=s.pile++[.ak] }:Mx).h M0):=by
 refine bV (s:=s) hr hp ha ?_ (aR rfl)
 rw [Gr]
 exact (aL (kc (s:={ s with pl:=.int (i+1) }) (s':={ s with pl:=.int (i+1) }) rfl rfl hl)).trans rfl
theorem Jw {Φ:aQ} {Z:Sg} {M M1:MH} {e:E} (h:ev Φ e Z M=.ok x M1):ev Φ (.x6 (.cmp .y9 e (.k .ak)) (.k (.int 1)) (.k (.int 0))) Z M=.ok (.int (if dM x then 1 else 0)) M1:=by
 rw [yu,cz,h,R.af,mW,R.af]
 have e:bh .y9 M1 x .ak=.ok (.bl (dM x)) M1:=rfl
 rw [e]
 cases dM x <;> rfl
theorem zw (hr:s.rows=.lst rs) (hp:s.pl=.int i) (ha:dU rs i=some (.tup [.str (w "none")])) (hx:s.pile=p++[x]) (hl:p.length<line):(aa ah (k+1)).call 19 [.ref M0.length] (s.h M0)=.ok .ak (({ s with pl:=.int (i+1), pile:=p++[.int (if dM x then 1 else 0)] }:Mx).h M0):=by
 refine bV (s:=s) hr hp ha ?_ (aR rfl)
 rw [BE]
 exact (aL (kc (s:={ s with pl:=.int (i+1) }) (s':={ s with pl:=.int (i+1),pile:=p }) rfl (Jw (lI (s:={ s with pl:=.int (i+1) }) rfl hx)) hl)).trans rfl
end
end bR
end
section
namespace bR
open Fg PySem
inductive Rk where
 | plus
 | minus
 | times
 | less
noncomputable def bE:Rk->Str
 | .plus=>w "plus"
 | .minus=>w "minus"
 | .times=>w "times"
 | .less=>w "less"
noncomputable def gj:Rk->Int->Int->Int
 | .plus,a,b=>a+b
 | .minus,a,b=>a-b
 | .times,a,b=>a*b
 | .less,a,b=>if a<b then 1 else 0
@[irreducible] noncomputable def nt:Int:=10 ^ 60
noncomputable def great (i:Int):Bool:=decide (nt<=(i.natAbs:Int))
noncomputable def Fz:Rk->Bool
 | .less=>true
 | _=>false
noncomputable def z6 (o:Rk) (a b:Int):Bool:=!Fz o&&great (gj o a b)
theorem HS:gn .pow 10 60=some nt:=by unfold nt;decide +kernel
section
variable {M M1 M2:MH} {k:Nat} {Φ:aQ} {Z:Sg} {e e':E}
theorem tT {fz:Bool}:ev Φ (.op .pow fz (.k (.int 10)) (.k (.int 60))) Z M=.ok (.int nt) M:=by
 rw [j8,mW,R.af,mW,R.af]
 simp only [uR,HS]
theorem yy {i:Int} (h:ev Φ e Z M=.ok (.int i) M1):ev Φ (.j3 .abs e) Z M=.ok (.int i.natAbs) M1:=by
 have z:(if i<0 then -i else i)=(i.natAbs:Int):=by split <;> omega
 rw [qV,h,R.af,<- z];rfl
theorem F9 {a b:Int} {q:Bool} (he:ev Φ e Z M=.ok (.int a) M1) (hx:ev Φ e' Z M1=.ok (.int b) M2) (hq:decide (b<=a)=q):ev Φ (.cmp .ge e e') Z M=.ok (.bl q) M2:=by
 rw [cz,he,R.af,hx,R.af,<- hq];rfl
theorem e_lt {a b:Int} {q:Bool} (he:ev Φ e Z M=.ok (.int a) M1) (hx:ev Φ e' Z M1=.ok (.int b) M2) (hq:decide (a<b)=q):ev Φ (.cmp .lt e e') Z M=.ok (.bl q) M2:=by
 rw [cz,he,R.af,hx,R.af,<- hq];rfl
theorem kh {a b:Int} {fz:Bool} (he:ev Φ e Z M=.ok (.int a) M1) (hx:ev Φ e' Z M1=.ok (.int b) M2) (ha:mid a=true) (hb:mid b=true):ev Φ (.op .mul fz e e') Z M=.ok (.int (a*b)) M2:=by
 rw [j8,he,R.af,hx,R.af]
 simp only [uR,gn]
 cases hs:small a||small b with
 | true=>rw [if_pos rfl]
 | false=>rw [if_neg (by decide),ha,hb,Bool.and_self,if_pos rfl]
theorem JG {i:Int}:(aa ah (k+1)).call 2 [.int i] M=if great i then .exc 1 M else .ok .ak M:=by
 have e1:ev (aa ah k) (.cmp .ge (.j3 .abs (.v 0)) (.op .pow true (.k (.int 10)) (.k (.int 60)))) [some (.int i)] M=.ok (.bl (great i)) M:=F9 (yy rfl) tT rfl
 cases hq:great i with
 | true=>rw [hq] at e1;exact rD fn2 rfl (wg e1 rfl) iy
 | false=>rw [hq] at e1;exact eV fn2 rfl ((bq e1).trans rfl) (aA rfl rfl)
theorem Gi {o:Rk} {a b:Int} (ha:mid a=true) (hb:mid b=true):(aa ah (k+2)).call 3 [.str (bE o),.int a,.int b] M=if z6 o a b then .exc 1 M else .ok (.int (gj o a b)) M:=by
 have z:∀ u:Str,ev (aa ah (k+1)) (.cmp .eq (.v 0) (.k (.str u))) [some (.str (bE o)),some (.int a),some (.int b),none] M=.ok (.bl (decide (bE o=u))) M:=fun u=>tS rfl
 have fin:∀ {v:Int},exs (aa ah (k+1)) (.cons (.ex (.call 2 (.cons (.v 3) .nil))) (.cons (.ret (.v 3)) .nil)) [some (.str (bE o)),some (.int a),some (.int b),some (.int v)] M=if great v then .ok (.xc 1 [some (.str (bE o)),some (.int a),some (.int b),some (.int v)]) M else .ok (.rt (.int v)) M:=fun {v}=>by
  have q:=(ez (Φ:=aa ah (k+1)) (f:=2) (e_v (M:=M) (Z:=[some (.str (bE o)),some (.int a),some (.int b),some (.int v)]) (i:=3) rfl)).trans JG
  cases hg:great v with
  | true=>rw [hg] at q;exact nZ q
  | false=>rw [hg] at q;exact (aL q).trans rfl
 have done:∀ {v:Int},exs (aa ah (k+1)) gu.body [some (.str (bE o)),some (.int a),some (.int b),none] M=exs (aa ah (k+1)) (.cons (.ex (.call 2 (.cons (.v 3) .nil))) (.cons (.ret (.v 3)) .nil)) [some (.str (bE o)),some (.int a),some (.int b),some (.int v)] M ->
   (aa ah (k+2)).call 3 [.str (bE o),.int a,.int b] M=if great v then .exc 1 M else .ok (.int v) M:=fun {v} h=>by
  rw [fin] at h
  cases hg:great v with
  | true=>rw [hg] at h;exact rD fn3 rfl h iy
  | false=>rw [hg] at h;exact bC fn3 rfl h (aA rfl rfl)
 cases o with
 | less =>
  have z1:=z (w "less")
  rw [show decide (bE .less=w "less")=true by decide +kernel] at z1
  have e2:ev (aa ah (k+1)) (.x6 (.cmp .lt (.v 1) (.v 2)) (.k (.int 1)) (.k (.int 0))) [some (.str (bE .less)),some (.int a),some (.int b),none] M=.ok (.int (gj .less a b)) M:=by
   rw [yu,e_lt (a:=a) (b:=b) rfl rfl rfl,R.af]
   by_cases h:a<b
   ·simp [h,gj]
   ·simp [h,gj]
  exact bC fn3 rfl (iQ z1 (bL e2)) (aA rfl rfl)
 | plus =>
  have z1:=z (w "less")
  rw [show decide (bE .plus=w "less")=false by decide +kernel] at z1
  have z2:=z (w "plus")
  rw [show decide (bE .plus=w "plus")=true by decide +kernel] at z2
  exact done ((bq z1).trans (eB z2 ((aq (fK rfl rfl)).trans rfl)))
 | minus =>
  have z1:=z (w "less")
  rw [show decide (bE .minus=w "less")=false by decide +kernel] at z1
  have z2:=z (w "plus")
  rw [show decide (bE .minus=w "plus")=false by decide +kernel] at z2
  have z3:=z (w "minus")
  rw [show decide (bE .minus=w "minus")=true by decide +kernel] at z3
  exact done ((bq z1).trans (aZ z2 ((eB z3 ((aq (pF rfl rfl)).trans rfl)).trans rfl)))
 | times =>
  have z1:=z (w "less")
  rw [show decide (bE .times=w "less")=false by decide +kernel] at z1
  have z2:=z (w "plus")
  rw [show decide (bE .times=w "plus")=false by decide +kernel] at z2
  have z3:=z (w "minus")
  rw [show decide (bE .times=w "minus")=false by decide +kernel] at z3
  exact done ((bq z1).trans (aZ z2 ((aZ z3 ((aq (kh rfl rfl ha hb)).trans rfl)).trans rfl)))
end
section
variable {M0:MH} {s:Mx} {x y v bk a b:D} {rs fs kn fl p xs ys:List D} {z c:Str} {t k l f j:Nat} {i n m sz:Int} {is:List Int} {o:Rk}
theorem F6 {g h:Int} {Φ:aQ} {Z:Sg} {M:MH} (h1:Z[1]? = some (some (.str z))) (h2:Z[2]? = some (some b)) (h3:Z[3]? = some (some a)):ev Φ (.call 3 (.cons (.v 1) (.cons (.v 3) (.cons (.v 2) .nil)))) Z M=Φ.call 3 [.str z,a,b] M:=by
 simp only [c9,aD,bf,j7,h1,h2,h3,R.af]
theorem Bs {Φ:aQ} {Z:Sg} {e:E} {c:Nat} {M1:MH} (h:Z[0]? = some (some (.ref M0.length))) (he:ev Φ e Z (s.h M0)=.exc c M1):ev Φ (.aK .append true (.fld (.v 0) (w "pile")) (.cons e .nil)) Z (s.h M0)=.exc c M1:=by
 rw [gy,qS h,R.af,mw g1,if_pos rfl,aD,he];rfl
theorem xx (hx:s.pile=p++[.int n]++[.int m]) (ha:mid n=true) (hb:mid m=true) (hl:p.length<line):(aa ah (k+3)).call 15 [.ref M0.length,.str (bE o)] (s.h M0) =
  if z6 o n m then .exc 1 (({ s with pile:=p }:Mx).h M0) else .ok .ak (({ s with pile:=p++[.int (gj o n m)] }:Mx).h M0):=by
 have e1:=lI (Φ:=aa ah (k+2)) (s:=s) (M0:=M0) (Z:=[some (.ref M0.length),some (.str (bE o)),none,none]) (i:=0) rfl hx
 have e2:=lI (Φ:=aa ah (k+2)) (s:={ s with pile:=p++[.int n] }) (M0:=M0) (Z:=[some (.ref M0.length),some (.str (bE o)),some (.int m),none]) (i:=0) (x:=.int n) (p:=p) rfl rfl
 have e3:=(F6 (g:=0) (h:=0) (Φ:=aa ah (k+2)) (z:=bE o) (a:=.int n) (b:=.int m) (Z:=[some (.ref M0.length),some (.str (bE o)),some (.int m),some (.int n)]) (M:=({ s with pile:=p }:Mx).h M0) rfl rfl rfl).trans (Gi ha hb)
 cases hg:z6 o n m with
 | true =>
  rw [hg] at e3
  exact rD Jh rfl ((aq e1).trans ((aq e2).trans (nZ (Bs (s:={ s with pile:=p }) rfl e3)))) (oj (by rw [len,len]))
 | false =>
  rw [hg] at e3
  exact eV Jh rfl ((aq e1).trans ((aq e2).trans ((aL (kc (s:={ s with pile:=p }) (s':={ s with pile:=p }) rfl e3 hl)).trans rfl))) (aR rfl)
theorem wA (o:Rk):an w1 (bE o)=false/\an w2 (bE o)=false/\an w3 (bE o)=false/\an w4 (bE o)=false/\br (bE o)=uh:=by
 have h:an w1 (bE o)=false/\an w2 (bE o)=false/\an w3 (bE o)=false/\an w4 (bE o)=false:=by cases o <;> decide +kernel
 have q:decide (bE o=w "nil")=false/\decide (bE o=w "none")=false/\decide (bE o=w "open")=false/\decide (bE o=w "shut")=false:=by cases o <;> decide +kernel
 refine ⟨h.1,h.2.1,h.2.2.1,h.2.2.2,?_⟩
 rw [br0 h.1 h.2.1 h.2.2.1 h.2.2.2,q.1,q.2.1,q.2.2.1,q.2.2.2]
 rfl
theorem Hl (hr:s.rows=.lst rs) (hp:s.pl=.int i) (ha:dU rs i=some (.tup [.str (bE o)])) (hx:s.pile=p++[.int n]++[.int m]) (h1:mid n=true) (h2:mid m=true) (hl:p.length<line) (hg:z6 o n m=false):(aa ah (k+4)).call 19 [.ref M0.length] (s.h M0)=.ok .ak (({ s with pl:=.int (i+1),pile:=p++[.int (gj o n m)] }:Mx).h M0):=by
 refine bV (s:=s) hr hp ha ?_ (aR rfl)
 rw [(wA o).2.2.2.2]
 have q:=xx (k:=k) (M0:=M0) (s:={ s with pl:=.int (i+1) }) (o:=o) hx h1 h2 hl
 rw [hg] at q
 exact (iP (s:={ s with pl:=.int (i+1) }) (s':={ s with pl:=.int (i+1) }) rfl (by decide +kernel) rfl q).trans rfl
theorem Df (hr:s.rows=.lst rs) (hp:s.pl=.int i) (ha:dU rs i=some (.tup [.str (bE o)])) (hx:s.pile=p++[.int n]++[.int m]) (h1:mid n=true) (h2:mid m=true) (hl:p.length<line) (hg:z6 o n m=true):(aa ah (k+4)).call 19 [.ref M0.length] (s.h M0)=.exc 1 (({ s with pl:=.int (i+1),pile:=p }:Mx).h M0):=by
 refine AM (s:=s) hr hp ha ?_ rfl
 rw [(wA o).2.2.2.2]
 have q:=xx (k:=k) (M0:=M0) (s:={ s with pl:=.int (i+1) }) (o:=o) hx h1 h2 hl
 rw [hg] at q
 exact Dv (s:={ s with pl:=.int (i+1) }) (s':={ s with pl:=.int (i+1) }) rfl (by decide +kernel) rfl q
theorem JE (hx:s.pile=p++[.int n]):(aa ah (k+1)).call 17 [.ref M0.length, .tup [.str (w "unless"), x]] (s.h M0)=.ok .ak (({ s with pile:=p, pl:=if n=0 then x else s.pl }:Mx).h M0):=by
 have q:∀ u:Str, decide (w "unless" = u)=false->ev (aa ah k) (.cmp .eq (.idx (.v 1) (.k (.int 0))) (.k (.str u))) [some (.ref M0.length), some (.tup [.str (w "unless"), x])] (s.h M0)=.ok (.bl false) (s.h M0):=fun u h=>dg (bP rfl rfl cU) h
 have e5:=lI (Φ:=aa ah k) (s:=s) (M0:=M0) (Z:=[some (.ref M0.length), some (.tup [.str (w "unless"), x])]) (i:=0) rfl hx
 have e6:ev (aa ah k) (.cmp .eq (.aK .pop true (.fld (.v 0) (w "pile")) .nil) (.k (.int 0))) [some (.ref M0.length), some (.tup [.str (w "unless"), x])] (s.h M0)=.ok (.bl (decide (n=0))) (({ s with pile:=p }:Mx).h M0):=by
  rw [cz,e5,R.af,mW,R.af]
  simp [bh,ug,GP,top,aV,Fg.plain,dep]
 by_cases h0:n=0
 ·rw [decide_eq_true h0] at e6
  have e7:=g6 (Φ:=aa ah k) (Z:=[some (.ref M0.length), some (.tup [.str (w "unless"), x])]) (e:=.idx (.v 1) (.k (.int 1))) (d:=x) (s:={ s with pile:=p }) (s':={ s with pile:=p }) (M0:=M0) (i:=0) rfl (bP rfl rfl kB)
  rw [if_pos h0]
  exact eV A9 rfl (aZ (q _ (by decide +kernel)) ((aZ (q _ (by decide +kernel)) ((aZ (q _ (by decide +kernel)) ((eB e6 ((bT e7).trans rfl)).trans rfl)).trans rfl)).trans rfl)) (aR rfl)
 ·rw [decide_eq_false h0] at e6
  rw [if_neg h0]
  exact eV A9 rfl (aZ (q _ (by decide +kernel)) ((aZ (q _ (by decide +kernel)) ((aZ (q _ (by decide +kernel)) ((bq e6).trans rfl)).trans rfl)).trans rfl)) (aR rfl)
theorem De (hr:s.rows=.lst rs) (hp:s.pl=.int i) (ha:dU rs i=some (.tup [.str (w "unless"), x])) (hx:s.pile=p++[.int n]):(aa ah (k+2)).call 19 [.ref M0.length] (s.h M0)=.ok .ak (({ s with pile:=p, pl:=if n=0 then x else .int (i+1) }:Mx).h M0):=by
 refine bV (s:=s) hr hp ha ?_ (aR rfl)
 rw [br2 (by decide +kernel) (by decide +kernel)]
 exact (iP (s:={ s with pl:=.int (i+1) }) (s':={ s with pl:=.int (i+1) }) rfl (by decide +kernel) rfl (JE (s:={ s with pl:=.int (i+1) }) hx)).trans rfl
end
end bR
end
section
namespace bR
open Fg PySem
structure Fm where
 kn:List D
 fl:List Nat
 bk:D
structure Ms where
 pile:List D
 frs:List Fm
 aT:List Bool
 log:List D
 bg:Int
 pl:D
inductive Rw where
 | num (i:Int)
 | loc (n:Nat)
 | keep
 | drop
 | nil
 | none
 | J5
 | jump (to:Int)
 | back
 | rk (o:Rk)
 | nI (to:Int)
noncomputable def Rw.d:Rw->D
 | .num i=>.tup [.str (w "number"), .int i]
 | .loc n=>.tup [.str (w "local"), .int n]
 | .keep=>.tup [.str (w "keep")]
 | .drop=>.tup [.str (w "drop")]
 | .nil=>.tup [.str (w "nil")]
 | .none=>.tup [.str (w "none")]
 | .J5=>.tup [.str (w "shut")]
 | .jump to=>.tup [.str (w "jump"), .int to]
 | .back=>.tup [.str (w "back")]
 | .rk o=>.tup [.str (bE o)]
 | .nI to=>.tup [.str (w "unless"), .int to]
inductive Rz where
 | ok (s:Ms)
 | exc (c:Nat)
 | bad
noncomputable def lim:Nat:=900000
noncomputable def sZ (xs:List D):Option (List D×D):=match xs.getLast? with
 | some x=>some (xs.dropLast,x)
 | none=>none
theorem EL {xs p:List D} {x:D} (h:sZ xs=some (p,x)):xs=p++[x]:=by
 unfold sZ at h
 split at h
 ·rename_i y hy
  cases h
  obtain ⟨ys,rfl⟩:=List.getLast?_eq_some_iff.mp hy
  simp
 ·cases h
noncomputable def gq {α:Type} (o:Option α) (k:α->Rz):Rz:=match o with | some a=>k a | none=>.bad
@[irreducible] noncomputable def cC (xs:List D) (k:List D->D->Rz):Rz:=gq (sZ xs) fun q=>k q.1 q.2
noncomputable def Sm (P:Ms->Prop) (X:Nat->Prop):Rz->Prop
 | .ok s=>P s
 | .exc c=>X c
 | .bad=>True
section
variable {P:Ms->Prop} {X:Nat->Prop}
theorem sm_get {α:Type} {o:Option α} {k:α->Rz} (h:∀ a,o=some a->Sm P X (k a)):Sm P X (gq o k):=by
 cases o with
 | none=>exact True.intro
 | some a=>exact h a rfl
theorem fM {xs:List D} {k:List D->D->Rz} (h:∀ p x,xs=p++[x]->Sm P X (k p x)):Sm P X (cC xs k):=by
 unfold cC
 exact sm_get fun q hq=>h q.1 q.2 (EL hq)
theorem vV {c:Prop} [Decidable c] {a b:Rz} (h1:c->Sm P X a) (h2:¬ c->Sm P X b):Sm P X (if c then a else b):=by
 by_cases h:c
 ·rw [if_pos h];exact h1 h
 ·rw [if_neg h];exact h2 h
end
noncomputable def u6:D->Option Int
 | .int i=>some i
 | _=>none
theorem qL {d:D} {i:Int} (h:u6 d=some i):d=.int i:=by
 unfold u6 at h
 split at h <;> cases h
 rfl
noncomputable def uU (most:Int) (r:Rw) (s:Ms) (f:Fm) (fs:List Fm):Rz:=match r with
 | .num i=>.ok { s with pile:=s.pile++[.int i] }
 | .loc n=>gq f.kn[n]? fun x=>.ok { s with pile:=s.pile++[x] }
 | .keep=>cC s.pile fun p x=>.ok { s with pile:=p,frs:={ f with kn:=f.kn++[x] }::fs }
 | .drop=>cC f.kn fun p _=>.ok { s with frs:={ f with kn:=p }::fs }
 | .nil=>.ok { s with pile:=s.pile++[.ak] }
 | .none=>cC s.pile fun p x=>.ok { s with pile:=p++[.int (if dM x then 1 else 0)] }
 | .J5=>.bad
 | .jump to=>.ok { s with pl:=.int to }
 | .back=>.ok { s with pl:=f.bk,frs:=fs }
 | .rk o=>cC s.pile fun p1 b=>cC p1 fun p a=>gq (u6 a) fun n=>gq (u6 b) fun m=>if mid n=true/\mid m=true then (if z6 o n m=true then .exc 1 else .ok { s with pile:=p++[.int (gj o n m)] }) else .bad
 | .nI to=>cC s.pile fun p a=>gq (u6 a) fun n=>.ok { s with pile:=p,pl:=if n=0 then .int to else s.pl }
noncomputable def fits (s:Ms) (f:Fm) (fs:List Fm):Prop:=s.pile.length<lim/\s.aT.length<lim/\s.log.length<lim/\f.kn.length<lim/\f.fl.length<lim/\fs.length<lim
noncomputable instance (s:Ms) (f:Fm) (fs:List Fm):Decidable (fits s f fs):=inferInstanceAs (Decidable (_/\_))
noncomputable def GG (most:Int) (r:Rw) (s:Ms):Rz:=match s.frs with
 | []=>.bad
 | f::fs=>if fits s f fs then uU most r s f fs else .bad
noncomputable abbrev ix:=Nat×Nat×Nat
noncomputable def nats (ns:List Nat):List D:=ns.map fun (n:Nat)=>D.int n
noncomputable def frR (n:Nat) (q:ix):D:=.ref (n+(q.1+5))
inductive Frs (n:Nat) (T:MH):List ix->List Fm->Prop
 | nil:Frs n T [] []
 | cons {q:ix} {qs:List ix} {f:Fm} {fs:List Fm}:kF n T q.1 q.2.1 q.2.2 f.kn (nats f.fl) f.bk->Frs n T qs fs->Frs n T (q::qs) (f::fs)
noncomputable def ixs (qs:List ix):List Nat:=qs.flatMap fun q=>[q.1,q.2.1,q.2.2]
structure Rep (n:Nat) (s:Ms) (x:Mx) (qs:List ix):Prop where
 pile:x.pile=s.pile
 aT:x.aT=s.aT.map D.bl
 log:x.log=s.log
 bg:x.bg=s.bg
 pl:x.pl=s.pl
 frs:x.frs=(qs.map (frR n)).reverse
 at_:Frs n x.T qs s.frs
 nd:(ixs qs).Nodup
 lt:∀ i∈ixs qs,i<x.T.length
 pv:∀ v∈s.pile,Vl v
 fv:∀ f∈s.frs,∀ v∈f.kn,Vl v
theorem Frs.set {n:Nat} {T:MH} {j:Nat} {o:MO} {qs:List ix} {fs:List Fm} (h:Frs n T qs fs) (hj:j∉ixs qs):Frs n (T.set j o) qs fs:=by
 induction h with
 | nil=>exact .nil
 | @cons q qs f fs a _ ih =>
  have h0:j≠q.1/\j≠q.2.1/\j≠q.2.2/\j∉ixs qs:=by
   simp only [ixs,List.flatMap_cons,List.mem_append,List.mem_cons,List.not_mem_nil,or_false,not_or] at hj
   exact ⟨hj.1.1,hj.1.2.1,hj.1.2.2,hj.2⟩
  exact .cons ⟨by rw [List.getElem?_set_ne h0.1];exact a.at_,by rw [List.getElem?_set_ne h0.2.1];exact a.kn,by rw [List.getElem?_set_ne h0.2.2.1];exact a.fl⟩ (ih h0.2.2.2)
theorem Frs.app {n:Nat} {T X:MH} {qs:List ix} {fs:List Fm} (h:Frs n T qs fs):Frs n (T++X) qs fs:=by
 have up:∀ {i:Nat} {o:MO},T[i]? = some o->(T++X)[i]? = some o:=fun {i o} e=>by rw [List.getElem?_append_left (List.getElem?_eq_some_iff.mp e).1];exact e
 induction h with
 | nil=>exact .nil
 | cons a _ ih=>exact .cons ⟨up a.at_,up a.kn,up a.fl⟩ ih
theorem Frs.len {n:Nat} {T:MH} {qs:List ix} {fs:List Fm} (h:Frs n T qs fs):qs.length=fs.length:=by
 induction h with
 | nil=>rfl
 | cons _ _ ih=>simp [ih]
theorem xS {q:ix} {qs:List ix}:ixs (q::qs)=q.1::q.2.1::q.2.2::ixs qs:=rfl
theorem Frs.kn {n:Nat} {T:MH} {q:ix} {qs:List ix} {f:Fm} {fs:List Fm} {kn:List D} (h:Frs n T (q::qs) (f::fs)) (nd:(ixs (q::qs)).Nodup):Frs n (T.set q.2.1 (.lst kn)) (q::qs) ({ f with kn:=kn }::fs):=by
 cases h with
 | cons a r =>
  rw [xS] at nd
  simp only [List.nodup_cons,List.mem_cons,not_or] at nd
  obtain ⟨⟨n1,n2,n3⟩,⟨n4,n5⟩,n6,n7⟩:=nd
  exact .cons ⟨by rw [List.getElem?_set_ne (Ne.symm n1)];exact a.at_,lZ a.kn,by rw [List.getElem?_set_ne n4];exact a.fl⟩ (r.set n5)
theorem Av {bs:List Bool} {i:Nat} {b:Bool} (h:bs[i]? = some b):(bs.map D.bl)[i]? = some (.bl b):=by rw [List.getElem?_map,h];rfl
theorem iA {n:Nat} (h:n<lim):n<line:=Nat.lt_of_lt_of_le h (by decide)
section
variable {M0:MH} {s:Mx} {a bk:D} {rs fs kn fl p xs ys:List D} {t k l j n:Nat} {i:Int} {is:List Int}
end
theorem sim {M0:MH} {s:Ms} {x:Mx} {qs:List ix} {rs:List Rw} {r:Rw} {i k:Nat} (R:Rep M0.length s x qs) (hr:x.rows=.lst (rs.map Rw.d)) (hi:s.pl=.int i) (hg:rs[i]? = some r) :
  Sm (fun s'=>∃ x' HQ,(aa ah (k+5)).call 19 [.ref M0.length] (x.h M0)=.ok .ak (x'.h M0)/\Rep M0.length s' x' HQ/\x'.rows=x.rows/\x'.most=x.most)
   (fun c=>∃ x':Mx,(aa ah (k+5)).call 19 [.ref M0.length] (x.h M0)=.exc c (x'.h M0)) (GG x.most r { s with pl:=.int ((i:Int)+1) }):=by
 obtain ⟨pile,frs,aT,log,bg,pl⟩:=s
 cases (show pl=.int i from hi)
 have ha:dU (rs.map Rw.d) (i:Int)=some r.d:=ia (by rw [List.getElem?_map,hg];rfl)
 have hp:x.pl=.int (i:Int):=R.pl
 cases frs with
 | nil=>exact True.intro
 | cons f fs =>
  obtain ⟨eE,jB,jC,yX,rpl,kJ,rat,vB,yW,wj,uH⟩:=R
  refine vV (fun hl=>?_) fun _=>True.intro
  obtain ⟨l1,l2,l3,l4,l5,l6⟩:=hl
  cases qs with
  | nil=>cases rat
  | cons q qs =>
   have l9:=rat
   cases rat with
   | cons A rr =>
    have hfr:x.frs=(qs.map (frR M0.length)).reverse++[.ref (M0.length+(q.1+5))]:=by rw [kJ,List.map_cons,List.reverse_cons];rfl
    have lp:x.pile.length<line:=by rw [eE];exact iA l1
    have ll:x.log.length<line:=by rw [jC];exact iA l3
    have lo:x.aT.length<line:=by rw [jB,List.length_map];exact iA l2
    have big:∀ {n:Nat} {b:Bool},aT[n]? = some b->n<18446744073709551616:=fun {n b} h =>
     Nat.lt_of_lt_of_le (Nat.lt_trans (List.getElem?_eq_some_iff.mp h).1 l2) (by decide)
    cases r with
    | num n=>exact ⟨_,q::qs,uD hr hp ha hfr lp,⟨congrArg (·++_) eE,jB,jC,yX,rfl,kJ,l9,vB,yW,fun v hv=>(List.mem_append.mp hv).elim (wj v) fun z=>by rw [List.mem_singleton.mp z];exact .int n,uH⟩,rfl,rfl⟩
    | loc n =>
     refine sm_get fun y hn=>?_
     exact ⟨_,q::qs,vS hr hp ha hfr A (ia hn) lp,⟨congrArg (·++_) eE,jB,jC,yX,rfl,kJ,l9,vB,yW,fun v hv=>(List.mem_append.mp hv).elim (wj v) fun z=>by rw [List.mem_singleton.mp z];exact uH f List.mem_cons_self y (List.mem_of_getElem? hn),uH⟩,rfl,rfl⟩
    | keep =>
     refine fM fun p y e=>?_
     cases (show pile=p++[y] from e)
     refine ⟨_,q::qs,zx hr hp ha hfr A eE (iA l4),⟨rfl,jB,jC,yX,rfl,kJ,l9.kn vB,vB,by simpa using yW,fun v hv=>wj v (List.mem_append_left _ hv),fun g hg v hv=>?_⟩,rfl,rfl⟩
     rcases List.mem_cons.mp hg with rfl | hg
     ·exact (List.mem_append.mp hv).elim (uH f List.mem_cons_self v) fun z=>wj v (List.mem_append_right _ z)
     ·exact uH g (List.mem_cons_of_mem _ hg) v hv
    | drop =>
     refine fM fun p y e=>?_
     rw [e] at A
     refine ⟨_,q::qs,zz hr hp ha hfr A,⟨eE,jB,jC,yX,rfl,kJ,l9.kn vB,vB,by simpa using yW,wj,fun g hg v hv=>?_⟩,rfl,rfl⟩
     rcases List.mem_cons.mp hg with rfl | hg
     ·exact uH f List.mem_cons_self v (by rw [e];exact List.mem_append_left _ hv)
     ·exact uH g (List.mem_cons_of_mem _ hg) v hv
    | jump to=>exact ⟨_,q::qs,zy hr hp ha,⟨eE,jB,jC,yX,rfl,kJ,l9,vB,yW,wj,uH⟩,rfl,rfl⟩
    | back=>exact ⟨_,qs,zA hr hp ha hfr A,⟨eE,jB,jC,yX,rfl,rfl,rr,(List.nodup_cons.mp (List.nodup_cons.mp (List.nodup_cons.mp vB).2).2).2,fun i hi=>yW i (List.mem_cons_of_mem _ (List.mem_cons_of_mem _ (List.mem_cons_of_mem _ hi))),wj,fun g hg=>uH g (List.mem_cons_of_mem _ hg)⟩,rfl,rfl⟩
    | nil=>exact ⟨_,q::qs,Dg hr hp ha lp,⟨congrArg (·++_) eE,jB,jC,yX,rfl,kJ,l9,vB,yW,fun v hv=>(List.mem_append.mp hv).elim (wj v) fun z=>by rw [List.mem_singleton.mp z];exact .ak,uH⟩,rfl,rfl⟩
    | none =>
     refine fM fun p y e=>?_
     cases (show pile=p++[y] from e)
     have Kr:p.length<line:=by have:=iA l1;rw [List.length_append] at this;omega
     exact ⟨_,q::qs,zw hr hp ha eE Kr,⟨rfl,jB,jC,yX,rfl,kJ,l9,vB,yW,fun v hv=>(List.mem_append.mp hv).elim (fun z=>wj v (List.mem_append_left _ z)) fun z=>by rw [List.mem_singleton.mp z];exact .int _,uH⟩,rfl,rfl⟩
    | J5=>exact True.intro
    | rk o =>
     refine fM fun p1 b e1=>fM fun p a e2=>sm_get fun n hn=>sm_get fun m hm=>vV (fun hmid=>?_) fun _=>True.intro
     cases qL hn
     cases qL hm
     cases e2
     cases (show pile=p++[.int n]++[.int m] from e1)
     have Kr:p.length<line:=by have:=iA l1;simp only [List.length_append] at this;omega
     refine vV (fun hg=>⟨_,Df (k:=k+1) hr hp ha eE hmid.1 hmid.2 Kr hg⟩) fun hg=>?_
     exact ⟨_,q::qs,Hl (k:=k+1) hr hp ha eE hmid.1 hmid.2 Kr (by simpa using hg),⟨rfl,jB,jC,yX,rfl,kJ,l9,vB,yW,fun v hv=>(List.mem_append.mp hv).elim (fun z=>wj v (by simp [z])) fun z=>by rw [List.mem_singleton.mp z];exact .int _,uH⟩,rfl,rfl⟩
    | nI to =>
     refine fM fun p a e1=>sm_get fun n hn=>?_
     cases qL hn
     cases (show pile=p++[.int n] from e1)
     exact ⟨_,q::qs,De (k:=k+3) hr hp ha eE,⟨rfl,jB,jC,yX,rfl,kJ,l9,vB,yW,fun v hv=>wj v (List.mem_append_left _ hv),uH⟩,rfl,rfl⟩
end bR
end
section
namespace bR
open Fg PySem
noncomputable def nL (r:Rz) (k:Ms->Rz):Rz:=match r with
 | .ok s=>k s
 | .exc c=>.exc c
 | .bad=>.bad
theorem zD {P P':Ms->Prop} {X X':Nat->Prop} {r:Rz} {k:Ms->Rz} (h:Sm P X r) (h1:∀ s,P s->Sm P' X' (k s)) (h2:∀ c,X c->X' c):Sm P' X' (nL r k):=by
 cases r with
 | ok s=>exact h1 s h
 | exc c=>exact h2 c h
 | bad=>exact True.intro
noncomputable def DW (d:D):Option Nat:=match d with
 | .int i=>if 0<=i then some i.toNat else none
 | _=>none
theorem HV {d:D} {j:Nat} (h:DW d=some j):d=.int j:=by
 cases d with
 | int i =>
  simp only [DW] at h
  split at h
  ·rename_i h0;cases h;rw [Int.toNat_of_nonneg h0]
  ·cases h
 | _=>cases h
noncomputable def go (rs:List Rw) (most:Int):Nat->Ms->Rz
 | 0,_=>.bad
 | n+1,s=>bif s.frs.isEmpty then .ok s else gq (DW s.pl) fun i=>gq rs[i]? fun r=>nL (GG most r { s with pl:=.int ((i:Int)+1) }) (go rs most n)
noncomputable def eW:E:=.cmp .ne (.fld (.v 3) (w "frames")) (.lst true .nil)
noncomputable def bW:Ss:=.cons (.ex (.cY 1 19 (w "step") (.v 3) .nil)) .nil
theorem cond {Φ:aQ} {Z:Sg} {M0:MH} {x:Mx} (h:Z[3]? = some (some (.ref M0.length))) (hr:∀ d∈x.frs,∃ n,d=.ref n):ev Φ eW Z (x.h M0)=.ok (.bl (!x.frs.isEmpty)) (x.h M0):=by
 unfold eW
 rw [cz,gW h,R.af,yt,bf,R.af]
 show bh .ne (x.h M0) (.ref (M0.length+2)) (.lst [])=_
 have e1:top (x.h M0) (.ref (M0.length+2))=.lst x.frs:=by simp only [top,g2]
 have e2:top (x.h M0) (.lst [])=.lst []:=rfl
 have e3:jO (x.h M0) (.ref (M0.length+2)) (.lst [])=some x.frs.isEmpty:=by simp only [jO,vw,g2];rfl
 show sR (x.h M0) (.ref (M0.length+2)) (.lst [])=_
 unfold sR
 rw [e1,e2,e3]
 cases hx:x.frs with
 | nil=>rfl
 | cons d ds =>
  obtain ⟨n,rfl⟩:=hr d (by rw [hx];exact List.mem_cons_self)
  rfl
theorem yd {n:Nat} {s:Ms} {x:Mx} {qs:List ix} (R:Rep n s x qs):∀ d∈x.frs,∃ m,d=.ref m:=by
 intro d hd
 rw [R.frs,List.mem_reverse,List.mem_map] at hd
 obtain ⟨q,_,rfl⟩:=hd
 exact ⟨_,rfl⟩
theorem vc {n:Nat} {s:Ms} {x:Mx} {qs:List ix} (R:Rep n s x qs):x.frs.isEmpty=s.frs.isEmpty:=by
 have e:=R.at_.len
 rw [R.frs]
 cases qs <;> cases hs:s.frs <;> rw [hs] at e <;> first | rfl | (simp at e;done) | simp
theorem loop {M0:MH} {rs:List Rw} {Z:Sg} {k:Nat} (hZ:Z[3]? = some (some (.ref M0.length))):∀ (n N:Nat) (s:Ms) (x:Mx) (qs:List ix),n<=N->Rep M0.length s x qs->x.rows=.lst (rs.map Rw.d) ->
  Sm (fun s'=>∃ x' HQ,aP (ev (aa ah (k+5)) eW) (exs (aa ah (k+5)) bW) N Z (x.h M0)=.ok (.nx Z) (x'.h M0)/\Rep M0.length s' x' HQ/\x'.most=x.most)
   (fun c=>∃ x':Mx,aP (ev (aa ah (k+5)) eW) (exs (aa ah (k+5)) bW) N Z (x.h M0)=.ok (.xc c Z) (x'.h M0)) (go rs x.most n s)
 | 0,N,s,x,qs,_,_,_=>True.intro
 | n+1,0,s,x,qs,h,_,_=>absurd h (by omega)
 | n+1, N+1, s, x, qs, h, Rp, hr=>by
  have hc:=cond (Φ:=aa ah (k+5)) hZ (yd Rp)
  rw [vc Rp] at hc
  have hg:go rs x.most (n+1) s=bif s.frs.isEmpty then .ok s else gq (DW s.pl) fun i=>gq rs[i]? fun r=>nL (GG x.most r { s with pl:=.int ((i:Int)+1) }) (go rs x.most n):=rfl
  rw [hg]
  cases hf:s.frs.isEmpty with
  | true =>
   rw [hf] at hc
   refine ⟨x,qs,?_,Rp,rfl⟩
   rw [aP,hc];rfl
  | false =>
   rw [hf] at hc
   have GL:aP (ev (aa ah (k+5)) eW) (exs (aa ah (k+5)) bW) (N+1) Z (x.h M0)=(exs (aa ah (k+5)) bW Z (x.h M0)).bind fun o M1=>match o with
    | .nx Z2=>aP (ev (aa ah (k+5)) eW) (exs (aa ah (k+5)) bW) N Z2 M1
    | .ct Z2=>aP (ev (aa ah (k+5)) eW) (exs (aa ah (k+5)) bW) N Z2 M1
    | .bk Z2=>.ok (.nx Z2) M1
    | .rt r=>.ok (.rt r) M1
    | .xc c Z2=>.ok (.xc c Z2) M1:=by rw [aP,hc];rfl
   have hb:∀ r:Fg.R D, (aa ah (k+5)).call 19 [.ref M0.length] (x.h M0)=r->ev (aa ah (k+5)) (.cY 1 19 (w "step") (.v 3) .nil) Z (x.h M0)=r:=fun r e=>(u_ (nm:=w "step") hZ (by decide +kernel)).trans e
   refine sm_get fun i hp=>sm_get fun r hg=>zD (sim (k:=k) Rp hr (HV hp) hg) (fun s' ⟨x',HQ,e,R',r1,r2⟩=>?_) fun c ⟨x',e⟩=>⟨x',?_⟩
   ·have ih:=loop (k:=k) hZ n N s' x' HQ (by omega) R' (r1.trans hr)
    rw [r2] at ih
    have e2:aP (ev (aa ah (k+5)) eW) (exs (aa ah (k+5)) bW) (N+1) Z (x.h M0)=aP (ev (aa ah (k+5)) eW) (exs (aa ah (k+5)) bW) N Z (x'.h M0):=by
     rw [GL,bW,aL (hb _ e)];rfl
    rw [e2]
    exact ih
   ·rw [GL,bW,nZ (hb _ e)];rfl
end bR
end
section
namespace bR
open Fg PySem
section
variable {M:MH} {k:Nat}
theorem vL {i:Int}:(aa ah (k+1)).call 5 [.int i] M=.ok (.int i) M:=bC fn5 rfl (iQ (x:=.int i) (M1:=M) rfl rfl) (aA rfl rfl)
end
end bR
end
section
namespace bR
open Fg PySem
inductive Wa (aT:List Bool):D->Nat->Bool->Prop
 | int (i:Int):Wa aT (.int i) 1 true
 | ak:Wa aT .ak 1 true
 | cell {c:Str} {sz:Int} {a b:D} {f n1 n2:Nat} {o b1 b2:Bool}:aT[f]? = some o->Wa aT a n1 b1->Wa aT b n2 b2->Wa aT (.tup [.str c,.int sz,a,b,.int f]) (n1+n2+1) (o&&(b1&&b2))
inductive CU (aT:List Bool):List D->Nat->Bool->Prop
 | nil:CU aT [] 0 true
 | snoc {v:D} {ds:List D} {n m:Nat} {b q:Bool}:CU aT ds n b->Wa aT v m q->CU aT (ds++[v]) (n+m) (q&&b)
noncomputable def aE:E:=.cmp .ne (.v 2) (.lst true .nil)
noncomputable def aB:Ss:=.cons (.set 3 (.aK .pop true (.v 2) .nil)) (.cons (.ifs (.lD (.v 3) .tuple) (.cons (.ex (.cY 1 12 (w "want_open") (.v 0) (.cons (.idx (.v 3) (.k (.int 4))) .nil))) (.cons (.ex (.aK .extend true (.v 2) (.cons (.sl true (.v 3) (.some (.k (.int 2))) (.some (.k (.int 4)))) .nil))) .nil)) .nil) .nil)
section
variable {M0:MH} {x:Mx} {aT:List Bool} {k:Nat}
noncomputable abbrev wT (x:Mx) (ds:List D):Mx:={ x with T:=x.T++[.lst ds] }
theorem gD {ds:List D}:((wT x ds).h M0)[M0.length+(x.T.length+5)]? = some (.lst ds):=gT.trans (by show (x.T++[MO.lst ds])[x.T.length]? = _;simp)
theorem sD {ds es:List D}:((wT x ds).h M0).set (M0.length+(x.T.length+5)) (.lst es)=(wT x es).h M0:=by
 rw [sT]
 show Mx.h { x with T:=(x.T++[MO.lst ds]).set x.T.length (.lst es) } M0=_
 rw [List.set_append_right _ _ (Nat.le_refl _),Nat.sub_self];rfl
theorem JL {Φ:aQ} {a v c:Option D} {ds:List D} (hv:∃ n b,CU aT ds n b):ev Φ aE [a,v,some (.ref (M0.length+(x.T.length+5))),c] ((wT x ds).h M0)=.ok (.bl (!ds.isEmpty)) ((wT x ds).h M0):=by
 show sR ((wT x ds).h M0) (.ref (M0.length+(x.T.length+5))) (.lst [])=_
 have e1:top ((wT x ds).h M0) (.ref (M0.length+(x.T.length+5)))=.lst ds:=by simp only [top,gD]
 have e2:top ((wT x ds).h M0) (.lst [])=.lst []:=rfl
 have e3:jO ((wT x ds).h M0) (.ref (M0.length+(x.T.length+5))) (.lst [])=some ds.isEmpty:=by simp only [jO,vw,gD];rfl
 unfold sR
 rw [e1,e2,e3]
 cases hd:ds with
 | nil=>rfl
 | cons d es =>
  by_cases hc:aV (.lst (d::es)) (.lst [])=true
  ·rw [if_pos hc,fJ,Bp];rfl
  ·rw [if_neg hc]
theorem zl (ho:x.aT=aT.map D.bl) (hl:aT.length<lim):∀ (n:Nat) (ds:List D) (q:Bool) (N:Nat) (v c:Option D),CU aT ds n q->n<N->n<lim->ds.length+n<lim ->
  ∃ c' es,aP (ev (aa ah (k+1)) aE) (exs (aa ah (k+1)) aB) N [some (.ref M0.length),v,some (.ref (M0.length+(x.T.length+5))),c] ((wT x ds).h M0) =
   .ok (if q then .nx [some (.ref M0.length),v,some (.ref (M0.length+(x.T.length+5))),c'] else .xc 5 [some (.ref M0.length),v,some (.ref (M0.length+(x.T.length+5))),c']) ((wT x es).h M0):=by
 intro n
 induction n using Nat.strongRecOn with
 | ind n ih =>
  intro ds q N v c h hN hn hd
  obtain ⟨N,rfl⟩:∃ m,N=m+1:=⟨N-1,by omega⟩
  have hc:=JL (Φ:=aa ah (k+1)) (M0:=M0) (x:=x) (a:=some (.ref M0.length)) (v:=v) (c:=c) ⟨n,q,h⟩
  cases h with
  | nil =>
   refine ⟨c,[],?_⟩
   rw [aP,hc];rfl
  | @snoc u ds n m b q h hu =>
   have hne:(ds++[u]).isEmpty=false:=by cases ds <;> rfl
   rw [hne] at hc
   have e1:=kg (Φ:=aa ah (k+1)) (e:=.v 2) (Z:=[some (.ref M0.length),v,some (.ref (M0.length+(x.T.length+5))),c]) rfl (gD (M0:=M0) (x:=x) (ds:=ds++[u]))
   rw [sD] at e1
   have GL:aP (ev (aa ah (k+1)) aE) (exs (aa ah (k+1)) aB) (N+1) [some (.ref M0.length),v,some (.ref (M0.length+(x.T.length+5))),c] ((wT x (ds++[u])).h M0)=(exs (aa ah (k+1)) aB [some (.ref M0.length),v,some (.ref (M0.length+(x.T.length+5))),c] ((wT x (ds++[u])).h M0)).bind fun o M1=>match o with
    | .nx Z2=>aP (ev (aa ah (k+1)) aE) (exs (aa ah (k+1)) aB) N Z2 M1
    | .ct Z2=>aP (ev (aa ah (k+1)) aE) (exs (aa ah (k+1)) aB) N Z2 M1
    | .bk Z2=>.ok (.nx Z2) M1
    | .rt r=>.ok (.rt r) M1
    | .xc c Z2=>.ok (.xc c Z2) M1:=by rw [aP,hc];rfl
   have flat:∀ (m0:Nat),m=m0+1->ev (aa ah (k+1)) (.lD (.v 3) .tuple) [some (.ref M0.length),v,some (.ref (M0.length+(x.T.length+5))),some u] ((wT x ds).h M0)=.ok (.bl false) ((wT x ds).h M0)->q=true ->
     ∃ c' es,aP (ev (aa ah (k+1)) aE) (exs (aa ah (k+1)) aB) (N+1) [some (.ref M0.length),v,some (.ref (M0.length+(x.T.length+5))),c] ((wT x (ds++[u])).h M0) =
      .ok (if (q&&b) then .nx [some (.ref M0.length),v,some (.ref (M0.length+(x.T.length+5))),c'] else .xc 5 [some (.ref M0.length),v,some (.ref (M0.length+(x.T.length+5))),c']) ((wT x es).h M0):=fun m0 hm e2 hq=>by
    subst hq
    obtain ⟨c',es,e3⟩:=ih n (by omega) ds b N v (some u) h (by omega) (by omega) (by rw [List.length_append] at hd;omega)
    refine ⟨c',es,?_⟩
    rw [GL,aB,(aq e1).trans ((bq e2).trans rfl)]
    exact e3
   cases hu with
   | int i=>exact flat 0 rfl rfl rfl
   | ak=>exact flat 0 rfl rfl rfl
   | @cell cw sz a b' f n1 n2 o b1 b2 hf ha hb =>
    have ho':(wT x ds).aT[f]? = some (.bl o):=by show x.aT[f]? = _;rw [ho];exact Av hf
    have hbig:f<18446744073709551616:=Nat.lt_of_lt_of_le (Nat.lt_trans (List.getElem?_eq_some_iff.mp hf).1 hl) (by decide)
    have e2:ev (aa ah (k+1)) (.lD (.v 3) .tuple) [some (.ref M0.length),v,some (.ref (M0.length+(x.T.length+5))),some (.tup [.str cw,.int sz,a,b',.int f])] ((wT x ds).h M0)=.ok (.bl true) ((wT x ds).h M0):=rfl
    have e3:=(F5 (Φ:=aa ah (k+1)) (e:=.idx (.v 3) (.k (.int 4))) (f:=f) (Z:=[some (.ref M0.length),v,some (.ref (M0.length+(x.T.length+5))),some (.tup [.str cw,.int sz,a,b',.int f])]) (M0:=M0) (i:=0) (s:=wT x ds) rfl rfl).trans (EF (k:=k) (s:=wT x ds) (b:=o) ho' hbig)
    cases o with
    | false =>
     refine ⟨some (.tup [.str cw,.int sz,a,b',.int f]),ds,?_⟩
     rw [GL,aB,(aq e1).trans (wg e2 (nZ e3))];rfl
    | true =>
     have e4:ev (aa ah (k+1)) (.aK .extend true (.v 2) (.cons (.sl true (.v 3) (.some (.k (.int 2))) (.some (.k (.int 4)))) .nil)) [some (.ref M0.length),v,some (.ref (M0.length+(x.T.length+5))),some (.tup [.str cw,.int sz,a,b',.int f])] ((wT x ds).h M0)=.ok .ak ((wT x (ds++[a]++[b'])).h M0):=by
      have es:ev (aa ah (k+1)) (.sl true (.v 3) (.some (.k (.int 2))) (.some (.k (.int 4)))) [some (.ref M0.length),v,some (.ref (M0.length+(x.T.length+5))),some (.tup [.str cw,.int sz,a,b',.int f])] ((wT x ds).h M0)=.ok (.tup [a,b']) ((wT x ds).h M0):=rfl
      have hlen:ds.length+2<=line:=by
       have h7:lim<line:=by decide
       rw [List.length_append] at hd
       simp only [List.length_singleton] at hd
       omega
      rw [gy,j7]
      simp only [List.getElem?_cons_succ,List.getElem?_cons_zero,R.af,oJ,cN gD,Option.isSome_some,Bool.and_self,if_true,aD,es,bf,gp,oH,uS,vJ,List.length_cons,List.length_nil,hlen,decide_true,sD]
      rw [List.append_assoc];rfl
     have hw:CU aT (ds++[a]++[b']) (n+n1+n2) (b2&&(b1&&b)):=.snoc (.snoc h ha) hb
     obtain ⟨c',es,e5⟩:=ih (n+n1+n2) (by omega) _ _ N v (some (.tup [.str cw,.int sz,a,b',.int f])) hw (by omega) (by omega) (by simp only [List.length_append,List.length_singleton] at hd ⊢;omega)
     refine ⟨c',es,?_⟩
     have eq:(true&&(b1&&b2)&&b)=(b2&&(b1&&b)):=by cases b1 <;> cases b2 <;> cases b <;> rfl
     rw [GL,aB,(aq e1).trans ((eB e2 ((aL e3).trans ((aL e4).trans rfl))).trans rfl),eq]
     exact e5
theorem IE {v:D} {n:Nat} {q:Bool} (ho:x.aT=aT.map D.bl) (hl:aT.length<lim) (h:Wa aT v n q) (hn:n<100000):(aa ah (k+2)).call 20 [.ref M0.length,v] (x.h M0)=if q then .ok .ak (x.h M0) else .exc 5 (x.h M0):=by
 have hw:CU aT [v] (0+n) (q&&true):=CU.snoc (ds:=[]) .nil h
 rw [Nat.zero_add,Bool.and_true] at hw
 have h1n:[v].length+n<lim:=Nat.lt_of_le_of_lt (Nat.add_le_add_left (Nat.le_of_lt hn) 1) (by decide)
 obtain ⟨c',es,e⟩:=zl (k:=k) (M0:=M0) (x:=x) ho hl n [v] q 100000 (some v) none hw hn (Nat.lt_of_lt_of_le hn (by decide)) h1n
 have e1:ev (aa ah (k+1)) (.lst false (.cons (.v 1) .nil)) [some (.ref M0.length),some v,none,none] (x.h M0)=.ok (.ref (M0.length+(x.T.length+5))) ((wT x [v]).h M0):=by
  show R.ok (D.ref (x.h M0).length) (x.h M0++[.lst [v]])=_
  rw [jT,app]
 have tk:∀ ds:List D,((wT x ds).h M0).take (x.h M0).length=x.h M0:=fun ds=>by
  have:(wT x ds).h M0=x.h M0++[.lst ds]:=app.symm
  rw [this];simp
 have e2:ex (aa ah (k+1)) (.while aE aB) [some (.ref M0.length),some v,some (.ref (M0.length+(x.T.length+5))),none] ((wT x [v]).h M0)=.ok (if q then .nx [some (.ref M0.length),some v,some (.ref (M0.length+(x.T.length+5))),c'] else .xc 5 [some (.ref M0.length),some v,some (.ref (M0.length+(x.T.length+5))),c']) ((wT x es).h M0):=by
  rw [gY,dh];exact e
 cases q with
 | true=>exact eV Jf rfl ((aq e1).trans ((bT e2).trans rfl)) (jD rfl (tk es))
 | false =>
  have e3:exs (aa ah (k+1)) (.cons (.while aE aB) .nil) [some (.ref M0.length),some v,some (.ref (M0.length+(x.T.length+5))),none] ((wT x [v]).h M0)=.ok (.xc 5 [some (.ref M0.length),some v,some (.ref (M0.length+(x.T.length+5))),c']) ((wT x es).h M0):=mU.trans e2
  exact rD Jf rfl ((aq e1).trans e3) (if_pos (tk es))
theorem xy {v y:D} {p:List D} {n:Nat} (hp:x.pile=p++[v]) (ho:x.aT=aT.map D.bl) (hl:aT.length<lim) (h:Wa aT v n true) (hn:n<100000) (ht:(aa ah (k+2)).call 5 [v] (({ x with pile:=p }:Mx).h M0)=.ok y (({ x with pile:=p }:Mx).h M0)) (hy:nr (x.h M0).length y=true):(aa ah (k+3)).call 21 [.ref M0.length] (x.h M0)=.ok y (({ x with pile:=p }:Mx).h M0):=by
 have e1:=lI (Φ:=aa ah (k+2)) (Z:=[some (.ref M0.length),none]) (M0:=M0) (i:=0) (s:=x) rfl hp
 have e2:=(u_ (Φ:=aa ah (k+2)) (Z:=[some (.ref M0.length), some v]) (m:=20) (nm:=w "want_all_open") (es:=.cons (.v 1) .nil) (s:={ x with pile:=p }) (M0:=M0) (i:=0) rfl (by decide +kernel)).trans (IE (k:=k) (x:={ x with pile:=p }) ho hl h hn)
 exact bC fn21 rfl ((aq e1).trans ((aL e2).trans (bL ((ez rfl).trans ht)))) (aA hy (by rw [len,len]))
end
end bR
end
section
namespace bR
open Fg PySem
noncomputable def IA (rows:D) (most:Int):Mx:=⟨rows,most,0,.int 0,[],[],[],[],[]⟩
section
variable {M0:MH} {x:Mx} {k:Nat} {rows:D} {most:Int}
theorem vp:(aa ah (k+1)).call 9 [.ref M0.length,rows,.int most] (M0++[.ins 1 []])=.ok .ak ((IA rows most).h M0):=by
 have g:∀ (o:MO) (X:MH),(M0++o::X)[M0.length]? = some o:=fun o X=>off 0 _
 have st:∀ (o o':MO) (X:MH),(M0++o::X).set M0.length o'=M0++o'::X:=fun o o' X=>offs 0 _ _
 have ln:∀ (X:MH) (n:Nat),X.length=n->(M0++X).length=M0.length+n:=fun X n h=>by rw [List.length_append,h]
 have nl:∀ {Z:Sg} (X:MH) (n:Nat),X.length=n->ev (aa ah k) (.lst false .nil) Z (M0++X)=.ok (.ref (M0.length+n)) (M0++(X++[.lst []])):=fun {Z} X n h=>by
  rw [yt,bf,R.af]
  show R.ok (D.ref (M0++X).length) ((M0++X)++[.lst []])=_
  rw [ln X n h,List.append_assoc]
 let Z:Sg:=[some (.ref M0.length),some rows,some (.int most)]
 have q:∀ {e:E} {d:D} {X:MH} {gs gs':List (Str×D)} {Y:MH} {f:Str},ev (aa ah k) e Z (M0++.ins 1 gs::X)=.ok d (M0++.ins 1 gs::Y)->gs.length<1000->bI f d gs=gs'->ex (aa ah k) (.bK (.v 0) f e) Z (M0++.ins 1 gs::X)=.ok (.nx Z) (M0++.ins 1 gs'::Y):=fun {e d X gs gs' Y f} he hl hp=>by
  rw [m5 he rfl (g _ _) hl hp,st]
 have p2:bI (w "most") (.int most) [(w "rows", rows)]=[(w "rows", rows), (w "most", .int most)]:=by simp only [bI, wn (a:="rows") (b:="most"), if_false]
 have p3:bI (w "begun") (.int 0) [(w "rows", rows), (w "most", .int most)]=[(w "rows", rows), (w "most", .int most), (w "begun", .int 0)]:=by simp only [bI, wn (a:="rows") (b:="begun"), wn (a:="most") (b:="begun"), if_false]
 have p4:bI (w "place") (.int 0) [(w "rows", rows), (w "most", .int most), (w "begun", .int 0)]=[(w "rows", rows), (w "most", .int most), (w "begun", .int 0), (w "place", .int 0)]:=by simp only [bI, wn (a:="rows") (b:="place"), wn (a:="most") (b:="place"), wn (a:="begun") (b:="place"), if_false]
 have p5:∀ d, bI (w "pile") d [(w "rows", rows), (w "most", .int most), (w "begun", .int 0), (w "place", .int 0)]=[(w "rows", rows), (w "most", .int most), (w "begun", .int 0), (w "place", .int 0), (w "pile", d)]:=fun d=>by simp only [bI, wn (a:="rows") (b:="pile"), wn (a:="most") (b:="pile"), wn (a:="begun") (b:="pile"), wn (a:="place") (b:="pile"), if_false]
 have p6:∀ a d, bI (w "frames") d [(w "rows", rows), (w "most", .int most), (w "begun", .int 0), (w "place", .int 0), (w "pile", a)]=[(w "rows", rows), (w "most", .int most), (w "begun", .int 0), (w "place", .int 0), (w "pile", a), (w "frames", d)]:=fun a d=>by simp only [bI, wn (a:="rows") (b:="frames"), wn (a:="most") (b:="frames"), wn (a:="begun") (b:="frames"), wn (a:="place") (b:="frames"), wn (a:="pile") (b:="frames"), if_false]
 have p7:∀ a b d, bI (w "lies_open") d [(w "rows", rows), (w "most", .int most), (w "begun", .int 0), (w "place", .int 0), (w "pile", a), (w "frames", b)]=[(w "rows", rows), (w "most", .int most), (w "begun", .int 0), (w "place", .int 0), (w "pile", a), (w "frames", b), (w "lies_open", d)]:=fun a b d=>by simp only [bI, wn (a:="rows") (b:="lies_open"), wn (a:="most") (b:="lies_open"), wn (a:="begun") (b:="lies_open"), wn (a:="place") (b:="lies_open"), wn (a:="pile") (b:="lies_open"), wn (a:="frames") (b:="lies_open"), if_false]
 have p8:∀ a b c d, bI (w "log") d [(w "rows", rows), (w "most", .int most), (w "begun", .int 0), (w "place", .int 0), (w "pile", a), (w "frames", b), (w "lies_open", c)]=[(w "rows", rows), (w "most", .int most), (w "begun", .int 0), (w "place", .int 0), (w "pile", a), (w "frames", b), (w "lies_open", c), (w "log", d)]:=fun a b c d=>by simp only [bI, wn (a:="rows") (b:="log"), wn (a:="most") (b:="log"), wn (a:="begun") (b:="log"), wn (a:="place") (b:="log"), wn (a:="pile") (b:="log"), wn (a:="frames") (b:="log"), wn (a:="lies_open") (b:="log"), if_false]
 refine eV fn9 rfl ((bT (q (X:=[]) (Y:=[]) (f:=w "rows") (e:=.v 1) (gs:=[]) rfl (by simp) rfl)).trans ((bT (q (X:=[]) (Y:=[]) (e:=.v 2) rfl (by simp) p2)).trans ((bT (q (X:=[]) (Y:=[]) (e:=.k (.int 0)) rfl (by simp) p3)).trans ((bT (q (X:=[]) (Y:=[]) (e:=.k (.int 0)) rfl (by simp) p4)).trans
  ((bT (q (nl [_] 1 rfl) (by simp) (p5 _))).trans ((bT (q (nl [_,_] 2 rfl) (by simp) (p6 _ _))).trans ((bT (q (nl [_,_,_] 3 rfl) (by simp) (p7 _ _ _))).trans ((bT (q (nl [_,_,_,_] 4 rfl) (by simp) (p8 _ _ _ _))).trans rfl)))))))) ?_
 refine z7 (zo (i:=M0.length) (g _ _) (g0 (s:=IA rows most)) fun h=>?_)
 have h:=congrArg (fun o=>match o with | MO.ins _ fs=>fs.length | _=>0) h
 simp [Mx.o] at h
noncomputable def opens (n:Nat):List D:=(List.range n).map fun (i:Nat)=>.tup [.str (w "open"), .int i]
noncomputable def nC (rows:D) (most:Int) (n:Nat):Mx:={ IA rows most with aT:=(List.replicate n true).map D.bl,log:=opens n }
theorem xo {n:Nat}:({ nC rows most n with aT:=(nC rows most n).aT++[.bl true], log:=(nC rows most n).log++[.tup [.str (w "open"), .int (nC rows most n).aT.length]] }:Mx)=nC rows most (n+1):=by
 simp only [nC,opens,List.range_succ,List.map_append,List.map_cons,List.map_nil,List.replicate_succ',List.length_map,List.length_replicate]
theorem sX {ch:MH->Bool} (hch:∀ M,ch M=true):∀ (ds:List D) (n:Nat) (o:Option D) (acc:List D),acc=nats (List.range n)->n+ds.length<lim ->
  bz (pB (aa ah (k+1)) .none) (ev (aa ah (k+1)) (.cY 1 10 (w "open_field") (.v 0) .nil)) [1] ch ds [some (.ref M0.length), o] ((nC rows most n).h M0) acc=.ok (nats (List.range (n+ds.length))) ((nC rows most (n+ds.length)).h M0)
 | [],n,o,acc,ha,_=>by rw [bz,ha];rfl
 | d::ds,n,o,acc,ha,hl=>by
  simp only [List.length_cons] at hl
  have hn:(nC rows most n).aT.length=n:=by simp [nC]
  have h7:lim<line:=by decide
  have e:=EI (M0:=M0) (k:=k) (s:=nC rows most n) (by rw [hn];omega) (by show (opens n).length<line;simp [opens];omega)
  rw [xo,hn] at e
  have eu:ev (aa ah (k+1)) (.cY 1 10 (w "open_field") (.v 0) .nil) (([some (.ref M0.length), o]:Sg).set 1 (some d)) ((nC rows most n).h M0)=.ok (.int n) ((nC rows most (n+1)).h M0):=(u_ (nm:=w "open_field") rfl (by decide +kernel)).trans e
  rw [xC eu (hch _) (by rw [ha];simp [nats];omega)]
  have:=sX hch ds (n+1) (some d) (acc++[.int n]) (by rw [ha,List.range_succ];simp [nats]) (by omega)
  rw [show n+1+ds.length=n+(d::ds).length by simp;omega] at this
  exact this
end
end bR
end
section
namespace bR
open Fg PySem
section
variable {M0:MH} {x:Mx} {k:Nat} {rows:D} {most:Int}
noncomputable def Cm (M0:MH) (rows:D) (most:Int) (o:Nat) (kn:List D) (pl:D):Mx:={ nC rows most o with pl:=pl, frs:=[.ref (M0.length+(2+5))], T:=[.lst kn, .lst (nats (List.range o)), .ins 0 [(w "known", .ref (M0.length+(0+5))), (w "fields", .ref (M0.length+(1+5))), (w "behind_call", .ak)]] }
noncomputable def ms1 (o:Nat) (kn:List D) (b:Nat):Ms:=⟨[],[⟨kn,List.range o,.ak⟩],List.replicate o true,opens o,0,.int b⟩
theorem rep1 {o b:Nat} {kn:List D} (hv:∀ v∈kn,Vl v):Rep M0.length (ms1 o kn b) (Cm M0 rows most o kn (.int b)) [(2,0,1)] where
 pile:=rfl
 aT:=rfl
 log:=rfl
 bg:=rfl
 pl:=rfl
 frs:=rfl
 at_:=.cons ⟨rfl,rfl,rfl⟩ .nil
 nd:=by decide
 lt:=fun i hi=>by
  have hi:i∈[2,0,1]:=hi
  simp only [List.mem_cons,List.not_mem_nil,or_false] at hi
  show i<3
  omega
 pv:=fun v hv=>by cases hv
 fv:=fun f hf v h=>by rw [List.mem_singleton.mp hf] at h;exact hv v h
noncomputable def rE:Ss:=.cons (.set 5 (.cY 1 21 (w "answer") (.v 3) .nil)) (.cons (.for [6] (.rev (.v 4)) (.cons (.ex (.cY 1 11 (w "shut_field") (.v 3) (.cons (.v 6) .nil))) .nil)) (.cons (.ret (.tup (.cons (.v 5) (.cons (.fld (.v 3) (w "log")) .nil)))) .nil))
theorem n8:o8.body=.cons (.set 3 (.new 1 9 (.cons (.idx (.v 0) (.k (.int 0))) (.cons (.v 2) .nil)))) (.cons (.set 4 (.comp true [3] [1] (.cY 1 10 (w "open_field") (.v 0) .nil) (.eF (.idx (.v 0) (.k (.int 2)))) .none))
  (.cons (.ex (.aK .append true (.fld (.v 3) (w "frames")) (.cons (.new 0 8 (.cons (.blt .list false (.cons (.v 1) .nil)) (.cons (.blt .list false (.cons (.v 4) .nil)) (.cons (.k .ak) .nil)))) .nil)))
  (.cons (.bK (.v 3) (w "place") (.idx (.v 0) (.k (.int 1)))) (.cons (.while eW bW) rE)))):=rfl
theorem sr {o b:Nat} {kn:List D} (ho:o<lim) {ss:Ss}:exs (aa ah (k+2)) (.cons (.set 3 (.new 1 9 (.cons (.idx (.v 0) (.k (.int 0))) (.cons (.v 2) .nil)))) (.cons (.set 4 (.comp true [3] [1] (.cY 1 10 (w "open_field") (.v 0) .nil) (.eF (.idx (.v 0) (.k (.int 2)))) .none))
  (.cons (.ex (.aK .append true (.fld (.v 3) (w "frames")) (.cons (.new 0 8 (.cons (.blt .list false (.cons (.v 1) .nil)) (.cons (.blt .list false (.cons (.v 4) .nil)) (.cons (.k .ak) .nil)))) .nil)))
  (.cons (.bK (.v 3) (w "place") (.idx (.v 0) (.k (.int 1)))) ss)))) [some (.tup [rows, .int b, .int o]), some (.lst kn), some (.int most), none, none, none, none] M0 =
  exs (aa ah (k+2)) ss [some (.tup [rows,.int b,.int o]),some (.lst kn),some (.int most),some (.ref M0.length),some (.lst (nats (List.range o))),none,none] ((Cm M0 rows most o kn (.int b)).h M0):=by
 have e1:ev (aa ah (k+2)) (.new 1 9 (.cons (.idx (.v 0) (.k (.int 0))) (.cons (.v 2) .nil))) [some (.tup [rows,.int b,.int o]),some (.lst kn),some (.int most),none,none,none,none] M0=.ok (.ref M0.length) ((IA rows most).h M0) :=
  e_new (gZ (bP rfl rfl cU) rfl) vp
 have h0:(IA rows most).h M0=(nC rows most 0).h M0:=rfl
 rw [h0] at e1
 have hl:(dI 0 (o:Int)).length=o:=wu
 have e2:=jm (Φ:=aa ah (k+2)) (Z:=[some (.tup [rows,.int b,.int o]),some (.lst kn),some (.int most),some (.ref M0.length),none,none,none]) (M:=(nC rows most 0).h M0) (caps:=[3]) (tg:=[1]) (it:=.eF (.idx (.v 0) (.k (.int 2)))) (pG (n:=o) (bP rfl rfl JK) (Nat.le_trans (Nat.le_of_lt ho) (by decide)))
  (sX (k:=k+1) (M0:=M0) (ch:=aO ((nC rows most 0).h M0) .ak) (fun _=>rfl) (dI 0 (o:Int)) 0 none [] rfl (by rw [hl];omega))
 rw [hl,Nat.zero_add] at e2
 let x1:Mx:=nC rows most o
 have hT:x1.T=[]:=rfl
 let fo:MO:=.ins 0 [(w "known", .ref (M0.length+(0+5))), (w "fields", .ref (M0.length+(1+5))), (w "behind_call", .ak)]
 let x2:Mx:={ x1 with T:=[.lst kn,.lst (nats (List.range o)),fo] }
 have e3:ev (aa ah (k+2)) (.new 0 8 (.cons (.blt .list false (.cons (.v 1) .nil)) (.cons (.blt .list false (.cons (.v 4) .nil)) (.cons (.k .ak) .nil)))) [some (.tup [rows,.int b,.int o]),some (.lst kn),some (.int most),some (.ref M0.length),some (.lst (nats (List.range o))),none,none] (x1.h M0)=.ok (.ref (M0.length+(2+5))) (x2.h M0):=by
  have ea:cJ (aa ah (k+2)) (.cons (.blt .list false (.cons (.v 1) .nil)) (.cons (.blt .list false (.cons (.v 4) .nil)) (.cons (.k .ak) .nil))) [some (.tup [rows,.int b,.int o]),some (.lst kn),some (.int most),some (.ref M0.length),some (.lst (nats (List.range o))),none,none] (x1.h M0)=.ok [.ref (M0.length+(0+5)),.ref (M0.length+(1+5)),.ak] (({ x1 with T:=[.lst kn,.lst (nats (List.range o))] }:Mx).h M0):=by
   have q1:ev (aa ah (k+2)) (.blt .list false (.cons (.v 1) .nil)) [some (.tup [rows,.int b,.int o]),some (.lst kn),some (.int most),some (.ref M0.length),some (.lst (nats (List.range o))),none,none] (x1.h M0)=.ok (.ref (M0.length+(0+5))) (({ x1 with T:=[.lst kn] }:Mx).h M0):=by
    show R.ok (D.ref (x1.h M0).length) (x1.h M0++[.lst kn])=_
    rw [jT,app];rfl
   have q2:ev (aa ah (k+2)) (.blt .list false (.cons (.v 4) .nil)) [some (.tup [rows,.int b,.int o]),some (.lst kn),some (.int most),some (.ref M0.length),some (.lst (nats (List.range o))),none,none] (({ x1 with T:=[.lst kn] }:Mx).h M0)=.ok (.ref (M0.length+(1+5))) (({ x1 with T:=[.lst kn,.lst (nats (List.range o))] }:Mx).h M0):=by
    show R.ok (D.ref (({ x1 with T:=[.lst kn] }:Mx).h M0).length) (({ x1 with T:=[.lst kn] }:Mx).h M0++[.lst (nats (List.range o))])=_
    rw [jT,app];rfl
   rw [aD,q1,R.af,aD,q2];rfl
  have en:=e_new (c:=0) (g:=8) (M2:=x2.h M0) ea (by
   rw [app,jT]
   refine (BD (k:=k) (gT (t:=2) (s:=({ x1 with T:=[.lst kn,.lst (nats (List.range o))]++[.ins 0 []] }:Mx)))).trans ?_
   exact congrArg (R.ok _) sT)
  rw [jT] at en
  exact en
 have e4:=kq (gW (Φ:=aa ah (k+2)) (Z:=[some (.tup [rows,.int b,.int o]),some (.lst kn),some (.int most),some (.ref M0.length),some (.lst (nats (List.range o))),none,none]) (M0:=M0) (s:=x1) (i:=3) rfl) g2 e3 (g2 (s:=x2)) (show ([]:List D).length<line by decide)
 rw [s2] at e4
 have e5:=g6 (Φ:=aa ah (k+2)) (Z:=[some (.tup [rows,.int b,.int o]),some (.lst kn),some (.int most),some (.ref M0.length),some (.lst (nats (List.range o))),none,none]) (e:=.idx (.v 0) (.k (.int 1))) (d:=.int b) (s:={ x2 with frs:=[]++[.ref (M0.length+(2+5))] }) (s':={ x2 with frs:=[]++[.ref (M0.length+(2+5))] }) (M0:=M0) (i:=3) rfl (bP rfl rfl kB)
 exact (aq e1).trans ((aq e2).trans ((aL e4).trans (bT e5)))
noncomputable def bA (o:Nat):List D:=(List.range o).reverse.map fun (i:Nat)=>.tup [.str (w "shut"), .int i]
theorem AS {a b c e f:Option D}:∀ (ns:List Nat) (x:Mx) (g:Option D),(∀ n∈ns,n<x.aT.length)->x.log.length+ns.length<line ->
  ∃ (x':Mx) (g':Option D), bZ (exs (aa ah (k+2)) (.cons (.ex (.cY 1 11 (w "shut_field") (.v 3) (.cons (.v 6) .nil))) .nil)) [6] (aO (x.h M0) .ak) (nats ns) [a, b, c, some (.ref M0.length), e, f, g] (x.h M0)=.ok (.nx [a, b, c, some (.ref M0.length), e, f, g']) (x'.h M0)/\x'.log=x.log++ns.map (fun (i:Nat)=>.tup [.str (w "shut"), .int i]):=by
 intro ns
 induction ns with
 | nil=>intro x g _ _;exact ⟨x,g,rfl,by simp⟩
 | cons n ns ih =>
  intro x g h hl
  have e1:=EG (M0:=M0) (k:=k+1) (s:=x) (f:=n) (h n List.mem_cons_self) (by simp only [List.length_cons] at hl;omega)
  have e2:=(u_ (Φ:=aa ah (k+2)) (Z:=[a, b, c, some (.ref M0.length), e, f, some (.int n)]) (m:=11) (nm:=w "shut_field") (es:=.cons (.v 6) .nil) (s:=x) (M0:=M0) (i:=3) rfl (by decide +kernel)).trans e1
  obtain ⟨x', g', e3, e4⟩:=ih { x with aT:=x.aT.set n (.bl false), log:=x.log++[.tup [.str (w "shut"), .int n]] } (some (.int n)) (fun m hm=>by show m<(x.aT.set n _).length;rw [List.length_set];exact h m (List.mem_cons_of_mem _ hm)) (by show (x.log++[_]).length+ns.length<line;rw [List.length_append];simp only [List.length_cons, List.length_nil] at hl ⊢;omega)
  refine ⟨x',g',?_,?_⟩
  ·have eb:exs (aa ah (k+2)) (.cons (.ex (.cY 1 11 (w "shut_field") (.v 3) (.cons (.v 6) .nil))) .nil) [a, b, c, some (.ref M0.length), e, f, some (.int n)] (x.h M0)=.ok (.nx [a, b, c, some (.ref M0.length), e, f, some (.int n)]) (({ x with aT:=x.aT.set n (.bl false), log:=x.log++[.tup [.str (w "shut"), .int n]] }:Mx).h M0):=(aL e2).trans rfl
   rw [nats,List.map_cons,bZ]
   show (exs (aa ah (k+2)) _ [a,b,c,some (.ref M0.length),e,f,some (.int n)] (x.h M0)).bind _=_
   rw [eb]
   exact e3
  ·rw [e4];show (x.log++[_])++_=_;rw [List.append_assoc];rfl
theorem DA {rs:List Rw} {o b N n:Nat} {kn p:List D} {s':Ms} {v y:D} (ho:o<1000) (hv:∀ v∈kn,Vl v) (hg:go rs most N (ms1 o kn b)=.ok s') (hN:N<=100000) (hp:s'.pile=p++[v]) (hw:Wa s'.aT v n true) (hn:n<100000) (hop:s'.aT.length<lim) (hoo:o<=s'.aT.length) (hlog:s'.log.length<lim)
  (ht:∀ M,(aa ah (k+5)).call 5 [v] M=.ok y M) (hy:∀ m,nr m y=true) :
  ∃ x':Mx,(aa ah (k+7)).call 7 [.tup [.lst (rs.map Rw.d),.int b,.int o],.lst kn,.int most] M0=.ok (.tup [y,.ref (M0.length+4)]) (x'.h M0)/\x'.log=s'.log++bA o:=by
 have lp:=loop (M0:=M0) (rs:=rs) (k:=k+1) (Z:=[some (.tup [.lst (rs.map Rw.d),.int b,.int o]),some (.lst kn),some (.int most),some (.ref M0.length),some (.lst (nats (List.range o))),none,none]) rfl N 100000 (ms1 o kn b) (Cm M0 (.lst (rs.map Rw.d)) most o kn (.int b)) [(2,0,1)] hN (rep1 hv) rfl
 have hm:(Cm M0 (.lst (rs.map Rw.d)) most o kn (.int b)).most=most:=rfl
 rw [hm,hg] at lp
 obtain ⟨x1,qs,e1,R1,_⟩:=lp
 have e2:=xy (M0:=M0) (k:=k+3) (x:=x1) (aT:=s'.aT) (R1.pile.trans hp) R1.aT hop hw hn (ht _) (hy _)
 have e3:=(u_ (Φ:=aa ah (k+6)) (Z:=[some (.tup [.lst (rs.map Rw.d), .int b, .int o]), some (.lst kn), some (.int most), some (.ref M0.length), some (.lst (nats (List.range o))), none, none]) (m:=21) (nm:=w "answer") (es:=.nil) (s:=x1) (M0:=M0) (i:=3) rfl (by decide +kernel)).trans e2
 let x2:Mx:={ x1 with pile:=p }
 have h7:lim+1000<line:=by decide
 obtain ⟨x3,g',e4,e5⟩:=AS (M0:=M0) (k:=k+4) (a:=some (.tup [.lst (rs.map Rw.d),.int b,.int o])) (b:=some (.lst kn)) (c:=some (.int most)) (e:=some (.lst (nats (List.range o)))) (f:=some y) (List.range o).reverse x2 none (fun n hn=>by
  show n<x1.aT.length
  rw [R1.aT,List.length_map]
  have:=List.mem_range.mp (List.mem_reverse.mp hn)
  omega) (by show x1.log.length+_<line;rw [R1.log,List.length_reverse,List.length_range];omega)
 have e6:ex (aa ah (k+6)) (.for [6] (.rev (.v 4)) (.cons (.ex (.cY 1 11 (w "shut_field") (.v 3) (.cons (.v 6) .nil))) .nil)) [some (.tup [.lst (rs.map Rw.d), .int b, .int o]), some (.lst kn), some (.int most), some (.ref M0.length), some (.lst (nats (List.range o))), some y, none] (x2.h M0)=.ok (.nx [some (.tup [.lst (rs.map Rw.d), .int b, .int o]), some (.lst kn), some (.int most), some (.ref M0.length), some (.lst (nats (List.range o))), some y, g']) (x3.h M0):=by
  have er:bQ (aa ah (k+6)) (.rev (.v 4)) [some (.tup [.lst (rs.map Rw.d),.int b,.int o]),some (.lst kn),some (.int most),some (.ref M0.length),some (.lst (nats (List.range o))),some y,none] (x2.h M0)=.ok (.ak,nats (List.range o).reverse,false) (x2.h M0):=by
   have:(nats (List.range o)).reverse=nats (List.range o).reverse:=by simp only [nats,List.map_reverse]
   rw [<- this];rfl
  rw [FQ,er]
  show (bZ _ _ _ _ _ _).fin (eO false .ak)=_
  rw [tL]
  exact e4
 have e7:ev (aa ah (k+6)) (.tup (.cons (.v 5) (.cons (.fld (.v 3) (w "log")) .nil))) [some (.tup [.lst (rs.map Rw.d), .int b, .int o]), some (.lst kn), some (.int most), some (.ref M0.length), some (.lst (nats (List.range o))), some y, g'] (x3.h M0)=.ok (.tup [y, .ref (M0.length+4)]) (x3.h M0):=by
  rw [cT,gZ rfl (CD (i:=3) rfl)];rfl
 have ew:ex (aa ah (k+6)) (.while eW bW) [some (.tup [.lst (rs.map Rw.d),.int b,.int o]),some (.lst kn),some (.int most),some (.ref M0.length),some (.lst (nats (List.range o))),none,none] ((Cm M0 (.lst (rs.map Rw.d)) most o kn (.int b)).h M0)=.ok (.nx [some (.tup [.lst (rs.map Rw.d),.int b,.int o]),some (.lst kn),some (.int most),some (.ref M0.length),some (.lst (nats (List.range o))),none,none]) (x1.h M0):=by
  rw [gY,dh];exact e1
 refine ⟨x3,?_,?_⟩
 ·have eb:exs (aa ah (k+6)) o8.body [some (.tup [.lst (rs.map Rw.d),.int b,.int o]),some (.lst kn),some (.int most),none,none,none,none] M0=.ok (.rt (.tup [y,.ref (M0.length+4)])) (x3.h M0):=by
   rw [n8,sr (k:=k+4) (Nat.lt_of_lt_of_le ho (by decide))]
   exact (bT ew).trans ((aq e3).trans ((bT e6).trans (bL e7)))
  have tk:(x3.h M0).take M0.length=M0:=by simp [Mx.h]
  have nn:¬ nr M0.length (.tup [y,.ref (M0.length+4)])=true:=by simp [nr,sP]
  exact bC fn7 rfl eb ((if_pos ⟨rfl,tk⟩).trans (if_neg nn))
 ·rw [e5]
  show x1.log++_=_
  rw [R1.log];rfl
theorem HA {rs:List Rw} {o b N c:Nat} {kn:List D} (ho:o<1000) (hv:∀ v∈kn,Vl v) (hg:go rs most N (ms1 o kn b)=.exc c) (hN:N<=100000):(aa ah (k+7)).call 7 [.tup [.lst (rs.map Rw.d),.int b,.int o],.lst kn,.int most] M0=.exc c M0:=by
 have lp:=loop (M0:=M0) (rs:=rs) (k:=k+1) (Z:=[some (.tup [.lst (rs.map Rw.d),.int b,.int o]),some (.lst kn),some (.int most),some (.ref M0.length),some (.lst (nats (List.range o))),none,none]) rfl N 100000 (ms1 o kn b) (Cm M0 (.lst (rs.map Rw.d)) most o kn (.int b)) [(2,0,1)] hN (rep1 hv) rfl
 have hm:(Cm M0 (.lst (rs.map Rw.d)) most o kn (.int b)).most=most:=rfl
 rw [hm,hg] at lp
 obtain ⟨x1,e1⟩:=lp
 have ew:∀ ss,exs (aa ah (k+6)) (.cons (.while eW bW) ss) [some (.tup [.lst (rs.map Rw.d),.int b,.int o]),some (.lst kn),some (.int most),some (.ref M0.length),some (.lst (nats (List.range o))),none,none] ((Cm M0 (.lst (rs.map Rw.d)) most o kn (.int b)).h M0)=.ok (.xc c [some (.tup [.lst (rs.map Rw.d),.int b,.int o]),some (.lst kn),some (.int most),some (.ref M0.length),some (.lst (nats (List.range o))),none,none]) (x1.h M0):=fun ss=>by
  rw [ck,gY,dh,show ah.turns=100000 from rfl,e1];rfl
 have tk:(x1.h M0).take M0.length=M0:=by simp [Mx.h]
 have eb:exs (aa ah (k+6)) o8.body [some (.tup [.lst (rs.map Rw.d),.int b,.int o]),some (.lst kn),some (.int most),none,none,none,none] M0=.ok (.xc c [some (.tup [.lst (rs.map Rw.d),.int b,.int o]),some (.lst kn),some (.int most),some (.ref M0.length),some (.lst (nats (List.range o))),none,none]) (x1.h M0):=by
  rw [n8,sr (k:=k+4) (Nat.lt_of_lt_of_le ho (by decide))]
  exact ew _
 exact rD fn7 rfl eb (if_pos tk)
end
end bR
end
section
namespace bR
open Fg PySem
noncomputable abbrev di (xs:List Int):List D:=xs.map D.int
noncomputable def pY (o L:Nat) (h v:List Int):Ms:=⟨di v,[⟨di h,List.range o,.ak⟩],List.replicate o true,opens o,0,.int (L:Int)⟩
noncomputable def Ok (xs:List Int):Prop:=∀ x∈xs,great x=false
theorem Ok.app {xs ys:List Int} (h:Ok xs) (h':Ok ys):Ok (xs++ys):=fun x hx=>(List.mem_append.mp hx).elim (h x) (h' x)
theorem Ok.l {xs ys:List Int} (h:Ok (xs++ys)):Ok xs:=fun x hx=>h x (List.mem_append_left _ hx)
theorem Ok.r {xs ys:List Int} (h:Ok (xs++ys)):Ok ys:=fun x hx=>h x (List.mem_append_right _ hx)
theorem Ok.one {x:Int} (h:great x=false):Ok [x]:=fun y hy=>by rw [List.mem_singleton.mp hy];exact h
theorem Ok.x {xs:List Int} {x:Int} (h:Ok (xs++[x])):great x=false:=h x (by simp)
theorem rG:nt=((10 ^ 60:Nat):Int):=by unfold nt;decide +kernel
theorem cI {x:Int} (h:great x=false):mid x=true:=by
 have h1:¬ nt<=(x.natAbs:Int):=of_decide_eq_false h
 rw [rG] at h1
 have h2:x.natAbs<10 ^ 60:=Nat.lt_of_not_le fun q=>h1 (Int.ofNat_le.mpr q)
 exact decide_eq_true (Nat.lt_of_lt_of_le h2 (by decide +kernel))
theorem bu {x:Int} (h:x.natAbs<1000000):great x=false:=by
 refine decide_eq_false ?_
 rw [rG]
 intro q
 exact absurd (Nat.lt_of_le_of_lt (Int.ofNat_le.mp q) h) (by decide +kernel)
inductive pU (L:Nat) (h v:List Int):List Rw->List Int->List Int->Prop
 | loc {i:Nat} {x:Int}:h[i]? = some x->pU L h v [.loc i] h (v++[x])
 | keep {x:Int} {v':List Int}:v=v'++[x]->pU L h v [.keep] (h++[x]) v'
 | drop {x:Int} {h':List Int}:h=h'++[x]->pU L h v [.drop] h' v
 | two {o:Rk} {a b:Int} {v':List Int}:v=v'++[a]++[b]->pU L h v [.rk o] h (v'++[gj o a b])
 | ak:pU L h v [.nil,.none] h (v++[1])
 | jump {js:List Rw}:pU L h v (.jump ((L:Int)+1+js.length)::js) h v
 | nI {a:Int}:pU L h v [.num a,.nI ((L:Int)+1+2),.num 5] h (if a=0 then v else v++[5])
 | num {x:Int}:great x=false->pU L h v [.num x] h (v++[x])
theorem pU.okh {L:Nat} {h v:List Int} {rs:List Rw} {h' v':List Int} (s:pU L h v rs h' v') (hh:Ok h) (hv:Ok v):Ok h':=by
 cases s with
 | keep e=>subst e;exact hh.app (Ok.one hv.x)
 | drop e=>subst e;exact hh.l
 | _=>exact hh
theorem pU.len {L:Nat} {h v:List Int} {rs:List Rw} {h' v':List Int} (s:pU L h v rs h' v'):h'.length<=h.length+1/\v'.length<=v.length+1:=by
 cases s with
 | keep e=>subst e;simp;omega
 | drop e=>subst e;simp;omega
 | two e=>subst e;simp
 | nI=>split <;> simp
 | _=>simp
section
variable {rs:List Rw} {o L n N:Nat} {h v:List Int} {r:Rw} {s:Ms} {f:Fm} {fs:List Fm} {most:Int}
theorem FH (hf:s.frs=f::fs) (hp:s.pl=.int (L:Int)) (hr:rs[L]? = some r):go rs most (n+1) s=nL (GG most r { s with pl:=.int ((L:Int)+1) }) (go rs most n):=by
 show (bif s.frs.isEmpty then Rz.ok s else _)=_
 rw [hf,hp]
 simp only [List.isEmpty_cons,cond_false,DW,gq]
 have e:DW (.int (L:Int))=some L:=by simp [DW]
 simp [hr]
theorem mD {pl:D} {p:List D} {kn:List D} {bg:Int} (hp:p.length<10000) (hk:kn.length<10000) (ho:o<1000):GG most r ⟨p,[⟨kn,List.range o,.ak⟩],List.replicate o true,opens o,bg,pl⟩=uU most r ⟨p,[⟨kn,List.range o,.ak⟩],List.replicate o true,opens o,bg,pl⟩ ⟨kn,List.range o,.ak⟩ []:=by
 refine if_pos ⟨?_,?_,?_,?_,?_,?_⟩
 ·exact Nat.lt_trans hp (by decide)
 ·show (List.replicate o true).length<lim
  rw [List.length_replicate];exact Nat.lt_trans ho (by decide)
 ·show (opens o).length<lim
  simp only [opens,List.length_map,List.length_range];exact Nat.lt_trans ho (by decide)
 ·exact Nat.lt_trans hk (by decide)
 ·show (List.range o).length<lim
  rw [List.length_range];exact Nat.lt_trans ho (by decide)
 ·exact (by decide:(0:Nat)<lim)
theorem iB {xs:List D} {x:D} {k:List D->D->Rz}:cC (xs++[x]) k=k xs x:=by
 unfold cC sZ
 simp [gq]
end
theorem gK {xs:List Int} {x:Int} {k:List D->D->Rz}:cC (di (xs++[x])) k=k (di xs) (.int x):=by
 rw [show di (xs++[x])=di xs++[.int x] by simp [di]];exact iB
noncomputable def nA (rs:List Rw) (s s':Ms) (n:Nat):Prop:=∀ N,go rs 5 (n+N) s=go rs 5 N s'
noncomputable def JO (rs:List Rw) (s:Ms) (n:Nat):Prop:=∀ N,go rs 5 (n+N) s=.exc 1
theorem nA.trans {rs:List Rw} {s s' s'':Ms} {n m:Nat} (h:nA rs s s' n) (h':nA rs s' s'' m):nA rs s s'' (n+m):=fun N=>by rw [Nat.add_assoc,h,h']
theorem nA.C8 {rs:List Rw} {s s':Ms} {n m:Nat} (h:nA rs s s' n) (h':JO rs s' m):JO rs s (n+m):=fun N=>by rw [Nat.add_assoc,h,h']
theorem nA.refl {rs:List Rw} {s:Ms}:nA rs s s 0:=fun N=>by rw [Nat.zero_add]
section
variable {rs:List Rw} {o L n N:Nat} {h v:List Int} {r:Rw} {p p' kn kn':List D}
noncomputable abbrev nP (o:Nat) (kn p:List D) (pl:D):Ms:=⟨p,[⟨kn,List.range o,.ak⟩],List.replicate o true,opens o,0,pl⟩
theorem jM {pl:D} (hp:p.length<10000) (hk:kn.length<10000) (ho:o<1000) (hr:rs[L]? = some r) (hm:uU 5 r (nP o kn p (.int ((L:Int)+1))) ⟨kn,List.range o,.ak⟩ []=.ok (nP o kn' p' pl)):nA rs (nP o kn p (.int (L:Int))) (nP o kn' p' pl) 1:=fun N=>by
 rw [Nat.add_comm,FH rfl rfl hr,mD hp hk ho,hm];rfl
theorem oneX {pl:D} (hp:p.length<10000) (hk:kn.length<10000) (ho:o<1000) (hr:rs[L]? = some r) (hm:uU 5 r (nP o kn p (.int ((L:Int)+1))) ⟨kn,List.range o,.ak⟩ []=.exc 1):JO rs (nP o kn p (.int (L:Int))) 1:=fun N=>by
 rw [Nat.add_comm,FH rfl rfl hr,mD hp hk ho,hm];rfl
end
theorem pU.run {rs:List Rw} {o L:Nat} {h v h' v':List Int} {ws:List Rw} (S:pU L h v ws h' v') (hh:Ok h) (hv:Ok v) (ho:o<1000) (lh:h.length<5000) (lv:v.length<5000) (hr:∀ i,i<ws.length->rs[L+i]? = ws[i]?) :
  (Ok v'->∃ n,n<=5/\nA rs (pY o L h v) (pY o (L+ws.length) h' v') n)/\(¬ Ok v'->∃ n,n<=5/\JO rs (pY o L h v) n):=by
 have c1:∀ {m:Nat},((L:Int)+1+(m:Int))=((L+1+m:Nat):Int):=fun {m}=>by omega
 have lp:(di v).length<10000:=by rw [List.length_map];omega
 have lk:(di h).length<10000:=by rw [List.length_map];omega
 have r0:∀ {r:Rw},ws[0]? = some r->rs[L]? = some r:=fun {r} e=>by
  have q:=hr 0 (List.getElem?_eq_some_iff.mp e).1
  rw [Nat.add_zero] at q
  rw [q,e]
 cases S with
 | @loc i x e =>
  refine ⟨fun _=>⟨1,by omega,?_⟩,fun q=>absurd (hv.app (Ok.one (hh x (List.mem_of_getElem? e)))) q⟩
  refine jM lp lk ho (r0 rfl) (pl:=.int ((L:Int)+1)) ?_
  show gq (di h)[i]? _=_
  rw [List.getElem?_map,e]
  simp [gq]
 | @keep x v1 e =>
  subst e
  refine ⟨fun _=>⟨1,by omega,?_⟩,fun q=>absurd hv.l q⟩
  refine jM lp lk ho (r0 rfl) (pl:=.int ((L:Int)+1)) ?_
  show cC (di (v'++[x])) _=_
  rw [gK]
  simp [di]
 | @drop x h1 e =>
  subst e
  refine ⟨fun _=>⟨1,by omega,?_⟩,fun q=>absurd hv q⟩
  refine jM lp lk ho (r0 rfl) (pl:=.int ((L:Int)+1)) ?_
  show cC (di (h'++[x])) _=_
  rw [gK]
 | @two ok a b v1 e =>
  subst e
  have ha:mid a=true:=cI (hv.l.x)
  have hb:mid b=true:=cI hv.x
  have step:uU 5 (.rk ok) (nP o (di h) (di (v1++[a]++[b])) (.int ((L:Int)+1))) ⟨di h,List.range o,.ak⟩ []=if z6 ok a b=true then .exc 1 else .ok (nP o (di h) (di (v1++[gj ok a b])) (.int ((L:Int)+1))):=by
   show cC (di (v1++[a]++[b])) _=_
   rw [gK,gK]
   simp [u6,gq,ha,hb,di]
  refine ⟨fun q=>⟨1,by omega,jM lp lk ho (r0 rfl) (pl:=.int ((L:Int)+1)) (step.trans (if_neg ?_))⟩,fun q=>⟨1,by omega,oneX (pl:=.ak) lp lk ho (r0 rfl) (step.trans (if_pos ?_))⟩⟩
  ·unfold z6
   rw [q.x,Bool.and_false];decide
  ·have g:great (gj ok a b)=true:=by
    cases z:great (gj ok a b) with
    | true=>rfl
    | false=>exact absurd (hv.l.l.app (Ok.one z)) q
   unfold z6
   rw [g,Bool.and_true]
   cases ok with
   | less =>
    exfalso
    have:great (gj .less a b)=false:=by
     refine bu ?_
     show (if a<b then (1:Int) else 0).natAbs<1000000
     by_cases z:a<b
     ·rw [if_pos z];decide
     ·rw [if_neg z];decide
    rw [this] at g;cases g
   | _=>rfl
 | ak =>
  refine ⟨fun _=>⟨2,by omega,?_⟩,fun q=>absurd (hv.app (Ok.one (bu (by decide)))) q⟩
  have a1:nA rs (pY o L h v) (nP o (di h) (di v++[.ak]) (.int ((L+1:Nat):Int))) 1:=jM lp lk ho (r0 rfl) rfl
  have a2:nA rs (nP o (di h) (di v++[.ak]) (.int ((L+1:Nat):Int))) (nP o (di h) (di v++[.int 1]) (.int (((L+1:Nat):Int)+1))) 1:=by
   refine jM (by rw [List.length_append];simp at lp ⊢;omega) lk ho (hr 1 (by simp)) ?_
   show cC (di v++[.ak]) _=_
   rw [iB];rfl
  have:=a1.trans a2
  unfold pY
  simp only [List.map_append,List.map_cons,List.map_nil]
  exact this
 | @jump js =>
  refine ⟨fun _=>⟨1,by omega,?_⟩,fun q=>absurd hv q⟩
  have a1:nA rs (pY o L h v) (nP o (di h) (di v) (.int ((L:Int)+1+js.length))) 1:=jM lp lk ho (r0 rfl) rfl
  have e:((L:Int)+1+js.length)=((L+(Rw.jump ((L:Int)+1+js.length)::js).length:Nat):Int):=by simp only [List.length_cons];omega
  unfold pY
  rw [<- e]
  exact a1
 | @nI a =>
  have a1:nA rs (pY o L h v) (nP o (di h) (di v++[.int a]) (.int ((L+1:Nat):Int))) 1:=jM lp lk ho (r0 rfl) rfl
  have a2:nA rs (nP o (di h) (di v++[.int a]) (.int ((L+1:Nat):Int))) (nP o (di h) (di v) (if a=0 then .int ((L:Int)+1+2) else .int (((L+1:Nat):Int)+1))) 1:=by
   refine jM (by rw [List.length_append];simp at lp ⊢;omega) lk ho (hr 1 (by simp)) ?_
   show cC (di v++[.int a]) _=_
   rw [iB];rfl
  by_cases h0:a=0
  ·rw [if_pos h0] at a2 ⊢
   refine ⟨fun _=>⟨2,by omega,?_⟩,fun q=>absurd hv q⟩
   have e:((L:Int)+1+2)=((L+[Rw.num a,.nI ((L:Int)+1+2),.num 5].length:Nat):Int):=by simp only [List.length_cons,List.length_nil];omega
   unfold pY
   rw [<- e]
   exact a1.trans a2
  ·rw [if_neg h0] at a2 ⊢
   refine ⟨fun _=>⟨3,by omega,?_⟩,fun q=>absurd (hv.app (Ok.one (bu (by decide)))) q⟩
   have e2:(((L+1:Nat):Int)+1)=((L+2:Nat):Int):=by omega
   rw [e2] at a2
   have a3:nA rs (nP o (di h) (di v) (.int ((L+2:Nat):Int))) (nP o (di h) (di v++[.int 5]) (.int (((L+2:Nat):Int)+1))) 1:=jM lp lk ho (hr 2 (by simp)) rfl
   have e3:(((L+2:Nat):Int)+1)=((L+[Rw.num a,.nI ((L:Int)+1+2),.num 5].length:Nat):Int):=by simp only [List.length_cons,List.length_nil];omega
   rw [e3] at a3
   unfold pY
   simp only [List.map_append,List.map_cons,List.map_nil]
   exact (a1.trans a2).trans a3
 | @num x g =>
  refine ⟨fun _=>⟨1,by omega,?_⟩,fun q=>absurd (hv.app (Ok.one g)) q⟩
  refine jM lp lk ho (r0 rfl) (pl:=.int ((L:Int)+1)) ?_
  simp [uU]
end bR
end
section
namespace bR
open Fg PySem
theorem fn22:ah.fn 22=some iX:=rfl
theorem Je:ah.fn 23=some gi:=rfl
theorem fn24:ah.fn 24=some gS:=rfl
theorem A8:ah.fn 25=some fE:=rfl
theorem fn26:ah.fn 26=some lE:=rfl
theorem FI:ah.fn 27=some j4:=rfl
theorem fn28:ah.fn 28=some iI:=rfl
theorem Jd:ah.fn 29=some lF:=rfl
theorem Jc:ah.fn 30=some CF:=rfl
noncomputable def mixed (c:Int):Int:=(c % 2147483647+11)*48271*69621 % 2147483629
theorem jP (c:Int):0<=mixed c/\mixed c<2147483629:=by unfold mixed;omega
section
variable {M M1 M2:MH} {k:Nat} {Φ:aQ} {Z:Sg} {e e':E}
theorem nk {c:Int}:(aa ah (k+1)).call 22 [.int c] M=.ok (.int (mixed c)) M:=by
 have e:ev (aa ah k) (.op .mod true (.op .mul true (.op .mul true (.op .add true (.op .mod true (.v 0) (.k (.int 2147483647))) (.k (.int 11))) (.k (.int 48271))) (.k (.int 69621))) (.k (.int 2147483629))) [some (.int c)] M=.ok (.int (mixed c)) M:=by
  simp [uR,gn,small,mixed]
 exact bC fn22 rfl (bL e) (aA rfl rfl)
noncomputable def cellAt (ns:List Int) (i:Nat):Int:=match ns[i]? with
 | some x=>mixed x
 | none=>mixed i
theorem vg {ns:List Int} {i:Nat}:0<=cellAt ns i/\cellAt ns i<2147483629:=by
 unfold cellAt
 split
 ·exact jP _
 ·exact jP _
theorem dc {a b:Int} {fz:Bool} (he:ev Φ e Z M=.ok (.int a) M1) (hx:ev Φ e' Z M1=.ok (.int b) M2) (hb:0<b):ev Φ (.op .mod fz e e') Z M=.ok (.int (a % b)) M2:=by
 rw [j8,he,R.af,hx,R.af]
 simp only [uR,gn,decide_eq_true hb,if_true]
theorem kj {a b:Int} {fz:Bool} (he:ev Φ e Z M=.ok (.int a) M1) (hx:ev Φ e' Z M1=.ok (.int b) M2) (hb:0<b) (hs:b.natAbs<1073741824):ev Φ (.op .fdiv fz e e') Z M=.ok (.int (a / b)) M2:=by
 rw [j8,he,R.af,hx,R.af]
 simp only [uR,gn,decide_eq_true hb,decide_eq_true hs,Bool.and_self,if_true]
theorem yM {ns:List Int} {i:Nat}:(aa ah (k+2)).call 23 [.lst (di ns),.int i] M=.ok (.int (cellAt ns i)) M:=by
 have e0:ev (aa ah (k+1)) (.blt .len true (.cons (.v 0) .nil)) [some (.lst (di ns)),some (.int i)] M=.ok (.int (ns.length:Int)) M:=by
  simp [mZ,pR,vw,di]
 have e1:ev (aa ah (k+1)) (.cmp .lt (.v 1) (.blt .len true (.cons (.v 0) .nil))) [some (.lst (di ns)),some (.int i)] M=.ok (.bl (decide ((i:Int)<ns.length))) M:=e_lt rfl e0 rfl
 by_cases hi:i<ns.length
 ·have hi':(i:Int)<ns.length:=by omega
  rw [decide_eq_true hi'] at e1
  have eg:ns[i]? = some ns[i]:=List.getElem?_eq_getElem hi
  have e2:ev (aa ah (k+1)) (.idx (.v 0) (.v 1)) [some (.lst (di ns)),some (.int i)] M=.ok (.int ns[i]) M:=ki (xs:=di ns) rfl rfl (ia (by rw [List.getElem?_map,eg];rfl))
  have ec:cellAt ns i=mixed ns[i]:=by unfold cellAt;rw [eg]
  rw [ec]
  exact bC Je rfl (iQ e1 (bL ((ez e2).trans nk))) (aA rfl rfl)
 ·have hi':¬ (i:Int)<ns.length:=by omega
  rw [decide_eq_false hi'] at e1
  have ec:cellAt ns i=mixed i:=by unfold cellAt;rw [List.getElem?_eq_none (by omega)]
  rw [ec]
  exact bC Je rfl ((bq e1).trans (bL ((ez (e_v rfl)).trans nk))) (aA rfl rfl)
noncomputable def jN (n:Int):Int :=
 if n / 7 % 4=0 then n % 7-2 else if n / 7 % 4=1 then n*n*n*(n*n*n)*n % nt else if n / 7 % 4=2 then 0-n*n*n*(n*n*n)*n % nt else n % 1000
theorem nq:0<nt:=by rw [rG];exact Int.ofNat_lt.mpr (by decide +kernel:0<10 ^ 60)
theorem oU {x:Int} (h1:x<nt) (h2:-nt<x):great x=false:=by
 refine decide_eq_false ?_
 have:=nq
 generalize nt=b at *
 omega
theorem sO (n:Int):great (jN n)=false:=by
 have hp:=nq
 unfold jN
 split
 ·exact bu (by omega)
 ·split
  ·refine oU (Int.emod_lt_of_pos _ hp) ?_
   have:=Int.emod_nonneg (n*n*n*(n*n*n)*n) (Int.ne_of_gt hp)
   generalize n*n*n*(n*n*n)*n % nt=z at *
   generalize nt=b at *
   omega
  ·split
   ·have h1:=Int.emod_lt_of_pos (n*n*n*(n*n*n)*n) hp
    have h2:=Int.emod_nonneg (n*n*n*(n*n*n)*n) (Int.ne_of_gt hp)
    refine oU ?_ ?_ <;> (generalize n*n*n*(n*n*n)*n % nt=z at *;generalize nt=b at *;omega)
   ·exact bu (by omega)
theorem mF {a b:Int} {p q:Nat} (ha:a.natAbs<2 ^ p) (hb:b.natAbs<2 ^ q):(a*b).natAbs<2 ^ (p+q):=by
 rw [Int.natAbs_mul,Nat.pow_add]
 exact Nat.mul_lt_mul'' ha hb
theorem mE {a:Int} {p:Nat} (ha:a.natAbs<2 ^ p) (hp:p<=600):mid a=true :=
 decide_eq_true (Nat.lt_of_lt_of_le ha (Nat.le_trans (Nat.pow_le_pow_right (by decide) hp) (by decide +kernel)))
theorem yL {n:Int} (h0:0<=n) (hn:n<2147483629):(aa ah (k+1)).call 24 [.int n] M=.ok (.int (jN n)) M:=by
 have a1:n.natAbs<2 ^ 31:=by
  have:(2:Nat) ^ 31=2147483648:=by decide
  omega
 have a2:=mF a1 a1
 have a3:=mF a2 a1
 have a6:=mF a3 a3
 have m1:=mE a1 (by decide)
 have m2:=mE a2 (by decide)
 have m3:=mE a3 (by decide)
 have m6:=mE a6 (by decide)
 have e1:ev (aa ah k) (.op .mul true (.op .mul true (.v 0) (.v 0)) (.v 0)) [some (.int n),none,none] M=.ok (.int (n*n*n)) M:=kh (kh rfl rfl m1 m1) rfl m2 m1
 have e2:ev (aa ah k) (.op .mod true (.op .mul true (.op .mul true (.v 1) (.v 1)) (.v 0)) (.op .pow true (.k (.int 10)) (.k (.int 60)))) [some (.int n),some (.int (n*n*n)),none] M=.ok (.int (n*n*n*(n*n*n)*n % nt)) M:=dc (kh (kh rfl rfl m3 m3) rfl m6 m1) tT nq
 generalize hz:n*n*n*(n*n*n)*n % nt=z at e2
 have e3:ev (aa ah k) (.lst true (.cons (.op .sub true (.op .mod true (.v 0) (.k (.int 7))) (.k (.int 2))) (.cons (.v 2) (.cons (.op .sub true (.k (.int 0)) (.v 2)) (.cons (.op .mod true (.v 0) (.k (.int 1000))) .nil))))) [some (.int n),some (.int (n*n*n)),some (.int z)] M=.ok (.lst [.int (n % 7-2),.int z,.int (0-z),.int (n % 1000)]) M:=by
  simp [uR,gn,bY]
 have e4:ev (aa ah k) (.op .mod true (.op .fdiv true (.v 0) (.k (.int 7))) (.k (.int 4))) [some (.int n),some (.int (n*n*n)),some (.int z)] M=.ok (.int (n / 7 % 4)) M:=dc (kj rfl rfl (by decide) (by decide)) rfl (by decide)
 have e5:dU [D.int (n % 7-2),.int z,.int (0-z),.int (n % 1000)] (n / 7 % 4)=some (.int (jN n)):=by
  have hr:n / 7 % 4=0\/n / 7 % 4=1\/n / 7 % 4=2\/n / 7 % 4=3:=by omega
  unfold jN
  rw [hz]
  rcases hr with h | h | h | h <;> rw [h]
  ·rfl
  ·rfl
  ·rfl
  ·rfl
 exact bC fn24 rfl ((aq e1).trans ((aq e2).trans (bL (ki e3 e4 e5)))) (aA rfl rfl)
theorem BB {o:Rk} {a b:Int} (ha:mid a=true) (hb:mid b=true):(aa ah (k+1)).call 25 [.str (bE o),.int a,.int b] M=.ok (.int (gj o a b)) M:=by
 have z:∀ u:Str,ev (aa ah k) (.cmp .eq (.v 0) (.k (.str u))) [some (.str (bE o)),some (.int a),some (.int b)] M=.ok (.bl (decide (bE o=u))) M:=fun u=>tS rfl
 have z1:=z (w "plus")
 have z2:=z (w "minus")
 have z3:=z (w "times")
 cases o with
 | plus =>
  rw [show decide (bE .plus=w "plus")=true by decide +kernel] at z1
  exact bC A8 rfl (iQ z1 (bL (fK rfl rfl))) (aA rfl rfl)
 | minus =>
  rw [show decide (bE .minus=w "plus")=false by decide +kernel] at z1
  rw [show decide (bE .minus=w "minus")=true by decide +kernel] at z2
  exact bC A8 rfl ((bq z1).trans (iQ z2 (bL (pF rfl rfl)))) (aA rfl rfl)
 | times =>
  rw [show decide (bE .times=w "plus")=false by decide +kernel] at z1
  rw [show decide (bE .times=w "minus")=false by decide +kernel] at z2
  rw [show decide (bE .times=w "times")=true by decide +kernel] at z3
  exact bC A8 rfl ((bq z1).trans ((bq z2).trans (iQ z3 (bL (kh rfl rfl ha hb))))) (aA rfl rfl)
 | less =>
  rw [show decide (bE .less=w "plus")=false by decide +kernel] at z1
  rw [show decide (bE .less=w "minus")=false by decide +kernel] at z2
  rw [show decide (bE .less=w "times")=false by decide +kernel] at z3
  have e2:ev (aa ah k) (.j3 .int (.cmp .lt (.v 1) (.v 2))) [some (.str (bE .less)),some (.int a),some (.int b)] M=.ok (.int (gj .less a b)) M:=by
   rw [qV,e_lt (a:=a) (b:=b) rfl rfl rfl,R.af]
   by_cases h:a<b <;> simp [h,gj,qR]
  exact bC A8 rfl ((bq z1).trans ((bq z2).trans ((bq z3).trans (bL e2)))) (aA rfl rfl)
end
end bR
end
section
namespace bR
open Fg PySem
noncomputable def MM (r:List Rw) (h v:List Int):MH:=[.lst (r.map Rw.d),.lst (di h),.lst (di v)]
section
variable {k:Nat} {Φ:aQ} {Z:Sg} {e e':E} {r r':List Rw} {h h' v v':List Int} {i:Nat} {n:Int} {x:Int}
theorem ic {a:Rw} (hi:Z[i]? = some (some (.ref 0))) (he:ev Φ e Z (MM r h v)=.ok a.d (MM r h v)) (hl:r.length<100000):ev Φ (.aK .append true (.v i) (.cons e .nil)) Z (MM r h v)=.ok .ak (MM (r++[a]) h v):=by
 have q:=kq (e_v (M:=MM r h v) hi) (ys:=r.map Rw.d) rfl he (xs:=r.map Rw.d) rfl (by rw [List.length_map];exact Nat.lt_of_lt_of_le hl (by decide))
 rw [q];simp [MM]
theorem vt (hi:Z[i]? = some (some (.ref 2))) (he:ev Φ e Z (MM r h v)=.ok (.int x) (MM r h v)) (hl:v.length<100000):ev Φ (.aK .append true (.v i) (.cons e .nil)) Z (MM r h v)=.ok .ak (MM r h (v++[x])):=by
 have q:=kq (e_v (M:=MM r h v) hi) (ys:=di v) rfl he (xs:=di v) rfl (by rw [List.length_map];exact Nat.lt_of_lt_of_le hl (by decide))
 rw [q];simp [MM,di]
theorem appH (hi:Z[i]? = some (some (.ref 1))) (he:ev Φ e Z (MM r h v)=.ok (.int x) (MM r h v')) (hl:h.length<100000):ev Φ (.aK .append true (.v i) (.cons e .nil)) Z (MM r h v)=.ok .ak (MM r (h++[x]) v'):=by
 have q:=kq (e_v (M:=MM r h v) hi) (ys:=di h) rfl he (xs:=di h) rfl (by rw [List.length_map];exact Nat.lt_of_lt_of_le hl (by decide))
 rw [q];simp [MM,di]
theorem DU (hi:Z[i]? = some (some (.ref 2))):ev Φ (.aK .pop true (.v i) .nil) Z (MM r h (v++[x]))=.ok (.int x) (MM r h v):=by
 have q:=kg (Φ:=Φ) (p:=di v) (x:=.int x) (e_v (M:=MM r h (v++[x])) hi) (by simp [MM,di])
 rw [q];simp [MM]
theorem popH (hi:Z[i]? = some (some (.ref 1))):ev Φ (.aK .pop true (.v i) .nil) Z (MM r (h++[x]) v)=.ok (.int x) (MM r h v):=by
 have q:=kg (Φ:=Φ) (p:=di h) (x:=.int x) (e_v (M:=MM r (h++[x]) v) hi) (by simp [MM,di])
 rw [q];simp [MM]
theorem IG (hi:Z[i]? = some (some (.ref 0))):ev Φ (.blt .len true (.cons (.v i) .nil)) Z (MM r h v)=.ok (.int (r.length:Int)) (MM r h v):=by
 rw [e_len (e_v hi) (xs:=r.map Rw.d) rfl,List.length_map]
theorem oQ (hi:Z[i]? = some (some (.ref 2))):ev Φ (.blt .len true (.cons (.v i) .nil)) Z (MM r h v)=.ok (.int (v.length:Int)) (MM r h v):=by
 rw [e_len (e_v hi) (xs:=di v) rfl,List.length_map]
theorem II (hi:Z[i]? = some (some (.ref 1))):ev Φ (.blt .len true (.cons (.v i) .nil)) Z (MM r h v)=.ok (.int (h.length:Int)) (MM r h v):=by
 rw [e_len (e_v hi) (xs:=di h) rfl,List.length_map]
theorem HB {r0:List Rw} {h0 v0:List Int}:fU false (MM r0 h0 v0) .ak (MM r h v)=.ok .ak (MM r h v):=aA rfl rfl
theorem fS {M:MH} {f:Nat} {a b c:E} {x y z:D} (h1:ev Φ a Z M=.ok x M) (h2:ev Φ b Z M=.ok y M) (h3:ev Φ c Z M=.ok z M):ev Φ (.call f (.cons a (.cons b (.cons c .nil)))) Z M=Φ.call f [x,y,z] M:=by
 simp only [c9,aD,bf,h1,h2,h3,R.af]
theorem CP {o:Rk} {a b:Int} (hr:r.length<100000) (hv:v.length<90000) (ha:mid a=true) (hb:mid b=true):(aa ah (k+2)).call 26 [.ref 0,.ref 2,.str (bE o)] (MM r h (v++[a]++[b]))=.ok .ak (MM (r++[.rk o]) h (v++[gj o a b])):=by
 have e1:ev (aa ah (k+1)) (.aK .append true (.v 0) (.cons (.tup (.cons (.v 2) .nil)) .nil)) [some (.ref 0),some (.ref 2),some (.str (bE o)),none,none] (MM r h (v++[a]++[b]))=.ok .ak (MM (r++[.rk o]) h (v++[a]++[b])):=ic rfl rfl hr
 have e2:ev (aa ah (k+1)) (.aK .pop true (.v 1) .nil) [some (.ref 0),some (.ref 2),some (.str (bE o)),none,none] (MM (r++[.rk o]) h (v++[a]++[b]))=.ok (.int b) (MM (r++[.rk o]) h (v++[a])):=DU rfl
 have e3:ev (aa ah (k+1)) (.aK .pop true (.v 1) .nil) [some (.ref 0),some (.ref 2),some (.str (bE o)),some (.int b),none] (MM (r++[.rk o]) h (v++[a]))=.ok (.int a) (MM (r++[.rk o]) h v):=DU rfl
 have e4:ev (aa ah (k+1)) (.call 25 (.cons (.v 2) (.cons (.v 4) (.cons (.v 3) .nil)))) [some (.ref 0),some (.ref 2),some (.str (bE o)),some (.int b),some (.int a)] (MM (r++[.rk o]) h v)=.ok (.int (gj o a b)) (MM (r++[.rk o]) h v):=(fS rfl rfl rfl).trans (BB ha hb)
 have e5:=vt (Φ:=aa ah (k+1)) (Z:=[some (.ref 0),some (.ref 2),some (.str (bE o)),some (.int b),some (.int a)]) (i:=1) rfl e4 (by omega)
 exact eV fn26 rfl ((aL e1).trans ((aq e2).trans ((aq e3).trans ((aL e5).trans rfl)))) HB
noncomputable def qI (x:Int):Rw:=if x % 3=0 then .drop else if x % 3=1 then .rk .plus else .back
noncomputable def lpB:Ss:=.cons (.ex (.aK .append true (.v 0) (.cons (.idx (.lst true (.cons (.tup (.cons (.k (.str (w "drop"))) .nil)) (.cons (.tup (.cons (.k (.str (w "plus"))) .nil)) (.cons (.tup (.cons (.k (.str (w "back"))) .nil)) .nil)))) (.op .mod true (.op .add true (.op .fdiv true (.v 2) (.k (.int 6))) (.v 4)) (.k (.int 3)))) .nil))) .nil
theorem A1 {x:Int}:dU [D.tup [.str (w "drop")], .tup [.str (w "plus")], .tup [.str (w "back")]] (x % 3)=some (qI x).d:=by
 have hr:x % 3=0\/x % 3=1\/x % 3=2:=by omega
 unfold qI
 rcases hr with h | h | h <;> rw [h] <;> rfl
theorem sV {m:Option D} {ch:MH->Bool} (hch:∀ M,ch M=true):∀ (ks:List Int) (r:List Rw) (b:Option D),r.length+ks.length<100000->∃ b',bZ (exs (aa ah k) lpB) [4] ch (di ks) [some (.ref 0),some (.ref 2),some (.int n),m,b,none] (MM r h v)=.ok (.nx [some (.ref 0),some (.ref 2),some (.int n),m,b',none]) (MM (r++ks.map fun j=>qI (n / 6+j)) h v)
 | [],r,b,_=>⟨b,by simp [bZ]⟩
 | j::ks,r,b,hl=>by
  obtain ⟨b',q⟩:=sV (m:=m) hch ks (r++[qI (n / 6+j)]) (some (.int j)) (by simp at hl ⊢;omega)
  refine ⟨b',?_⟩
  have e1:ev (aa ah k) (.idx (.lst true (.cons (.tup (.cons (.k (.str (w "drop"))) .nil)) (.cons (.tup (.cons (.k (.str (w "plus"))) .nil)) (.cons (.tup (.cons (.k (.str (w "back"))) .nil)) .nil)))) (.op .mod true (.op .add true (.op .fdiv true (.v 2) (.k (.int 6))) (.v 4)) (.k (.int 3)))) [some (.ref 0), some (.ref 2), some (.int n), m, some (.int j), none] (MM r h v)=.ok (qI (n / 6+j)).d (MM r h v) :=
   ki (xs:=[.tup [.str (w "drop")], .tup [.str (w "plus")], .tup [.str (w "back")]]) rfl (dc (fK (kj rfl rfl (by decide) (by decide)) rfl) rfl (by decide)) A1
  have e2:=ic (Φ:=aa ah k) (Z:=[some (.ref 0),some (.ref 2),some (.int n),m,some (.int j),none]) (i:=0) rfl e1 (by simp at hl;omega)
  have eb:exs (aa ah k) lpB [some (.ref 0),some (.ref 2),some (.int n),m,some (.int j),none] (MM r h v)=.ok (.nx [some (.ref 0),some (.ref 2),some (.int n),m,some (.int j),none]) (MM (r++[qI (n / 6+j)]) h v):=(aL e2).trans rfl
  rw [show di (j::ks)=.int j::di ks from rfl,bZ]
  show (exs (aa ah k) lpB [some (.ref 0),some (.ref 2),some (.int n),m,some (.int j),none] (MM r h v)).bind _=_
  rw [eb]
  simp only [R.af,hch,if_true]
  rw [q,List.map_cons,List.append_assoc];rfl
theorem Gj (h0:0<=n) (hr:r.length<90000) (hv:v.length<90000):∃ ws v',pU r.length h v ws h v'/\ws.length<=5/\(aa ah (k+1)).call 27 [.ref 0,.ref 2,.int n] (MM r h v)=.ok .ak (MM (r++ws) h v'):=by
 have e1:ev (aa ah k) (.op .add true (.k (.int 1)) (.op .mod true (.v 2) (.k (.int 3)))) [some (.ref 0),some (.ref 2),some (.int n),none,none,none] (MM r h v)=.ok (.int (1+n % 3)) (MM r h v):=fK rfl (dc rfl rfl (by decide))
 obtain ⟨m,hm⟩:∃ m:Nat,(m:Int)=1+n % 3:=⟨(1+n % 3).toNat,by omega⟩
 rw [<- hm] at e1
 have e2:ev (aa ah k) (.cmp .eq (.op .mod true (.op .fdiv true (.v 2) (.k (.int 3))) (.k (.int 2))) (.k (.int 0))) [some (.ref 0),some (.ref 2),some (.int n),some (.int m),none,none] (MM r h v)=.ok (.bl (decide (n / 3 % 2=0))) (MM r h v):=by
  rw [cz,dc (kj (a:=n) rfl rfl (by decide) (by decide)) rfl (by decide),R.af,mW,R.af]
  simp [bh,ug,GP,top,aV,Fg.plain,dep]
 by_cases hc:n / 3 % 2=0
 ·rw [decide_eq_true hc] at e2
  let js:List Rw:=((List.range m).map fun (i:Nat)=>(i:Int)).map fun j=>qI (n / 6+j)
  have hjs:js.length=m:=by simp [js]
  have e3:ev (aa ah k) (.tup (.cons (.k (.str (w "jump"))) (.cons (.op .add true (.op .add true (.blt .len true (.cons (.v 0) .nil)) (.k (.int 1))) (.v 3)) .nil))) [some (.ref 0), some (.ref 2), some (.int n), some (.int m), none, none] (MM r h v)=.ok (Rw.jump ((r.length:Int)+1+js.length)).d (MM r h v):=by
   rw [cT, gZ (x:=.str (w "jump")) (y:=.int ((r.length:Int)+1+m)) (M1:=MM r h v) (M2:=MM r h v) rfl (fK (fK (IG rfl) rfl) rfl), hjs];rfl
  have e4:=ic (Φ:=aa ah k) (Z:=[some (.ref 0),some (.ref 2),some (.int n),some (.int m),none,none]) (i:=0) rfl e3 (by omega)
  have hm3:m<=3:=by omega
  obtain ⟨b',q⟩:=sV (k:=k) (n:=n) (h:=h) (v:=v) (m:=some (.int m)) (ch:=aO (MM (r++[Rw.jump ((r.length:Int)+1+js.length)]) h v) .ak) (fun _=>rfl) ((List.range m).map fun (i:Nat)=>(i:Int)) (r++[Rw.jump ((r.length:Int)+1+js.length)]) none (by simp;omega)
  have er:dI 0 (m:Int)=di ((List.range m).map fun (i:Nat)=>(i:Int)):=by simp [dI,di,Function.comp_def]
  have ei:=pG (Φ:=aa ah k) (Z:=[some (.ref 0),some (.ref 2),some (.int n),some (.int m),none,none]) (M:=MM (r++[Rw.jump ((r.length:Int)+1+js.length)]) h v) (e:=.v 3) (n:=m) (M1:=MM (r++[Rw.jump ((r.length:Int)+1+js.length)]) h v) rfl (by omega)
  rw [er] at ei
  refine ⟨_,_,.jump (js:=js),by simp only [List.length_cons,hjs];omega,?_⟩
  refine bC FI rfl ((aq e1).trans (iQ e2 ((aL e4).trans ((B7 ei q).trans (bL rfl))))) ?_
  have ea:r++[Rw.jump ((r.length:Int)+1+js.length)]++js=r++(Rw.jump ((r.length:Int)+1+js.length)::js):=by rw [List.append_assoc];rfl
  show fU false (MM r h v) .ak (MM (r++[Rw.jump ((r.length:Int)+1+js.length)]++js) h v)=_
  rw [ea]
  exact HB
 ·rw [decide_eq_false hc] at e2
  have e3:ev (aa ah k) (.op .mod true (.op .fdiv true (.v 2) (.k (.int 6))) (.k (.int 3))) [some (.ref 0),some (.ref 2),some (.int n),some (.int m),none,none] (MM r h v)=.ok (.int (n / 6 % 3)) (MM r h v):=dc (kj rfl rfl (by decide) (by decide)) rfl (by decide)
  generalize hz:n / 6 % 3=z at e3
  have e4:=ic (Φ:=aa ah k) (r:=r) (h:=h) (v:=v) (Z:=[some (.ref 0), some (.ref 2), some (.int n), some (.int m), none, some (.int z)]) (i:=0) (a:=.num z) (e:=.tup (.cons (.k (.str (w "number"))) (.cons (.v 5) .nil))) rfl rfl (by omega)
  have e5':ev (aa ah k) (.tup (.cons (.k (.str (w "unless"))) (.cons (.op .add true (.blt .len true (.cons (.v 0) .nil)) (.k (.int 2))) .nil))) [some (.ref 0), some (.ref 2), some (.int n), some (.int m), none, some (.int z)] (MM (r++[.num z]) h v)=.ok (Rw.nI ((r.length:Int)+1+2)).d (MM (r++[.num z]) h v):=by
   have el:(((r++[Rw.num z]).length:Nat):Int)=(r.length:Int)+1:=by simp
   have e6:ev (aa ah k) (.op .add true (.blt .len true (.cons (.v 0) .nil)) (.k (.int 2))) [some (.ref 0),some (.ref 2),some (.int n),some (.int m),none,some (.int z)] (MM (r++[.num z]) h v)=.ok (.int ((((r++[Rw.num z]).length:Nat):Int)+2)) (MM (r++[.num z]) h v):=fK (IG rfl) rfl
   rw [el] at e6
   rw [cT, gZ (x:=.str (w "unless")) (M1:=MM (r++[.num z]) h v) rfl e6];rfl
  have e5:=ic (Φ:=aa ah k) (Z:=[some (.ref 0),some (.ref 2),some (.int n),some (.int m),none,some (.int z)]) (i:=0) rfl e5' (by simp;omega)
  have e6:=ic (Φ:=aa ah k) (r:=r++[.num z]++[.nI ((r.length:Int)+1+2)]) (h:=h) (v:=v) (Z:=[some (.ref 0), some (.ref 2), some (.int n), some (.int m), none, some (.int z)]) (i:=0) (a:=.num 5) (e:=.tup (.cons (.k (.str (w "number"))) (.cons (.k (.int 5)) .nil))) rfl rfl (by simp;omega)
  have ea:r++[Rw.num z]++[.nI ((r.length:Int)+1+2)]++[.num 5]=r++[Rw.num z,.nI ((r.length:Int)+1+2),.num 5]:=by simp
  rw [ea] at e6
  have e7:ev (aa ah k) (.cmp .ne (.v 5) (.k (.int 0))) [some (.ref 0),some (.ref 2),some (.int n),some (.int m),none,some (.int z)] (MM (r++[Rw.num z,.nI ((r.length:Int)+1+2),.num 5]) h v)=.ok (.bl (!decide (z=0))) (MM (r++[Rw.num z,.nI ((r.length:Int)+1+2),.num 5]) h v):=by
   simp [bh,ug,sR,top,aV,Fg.plain,dep]
  refine ⟨_,_,.nI (a:=z),by simp,?_⟩
  by_cases h0:z=0
  ·rw [decide_eq_true h0] at e7
   rw [if_pos h0]
   exact bC FI rfl ((aq e1).trans ((bq e2).trans ((aq e3).trans ((aL e4).trans ((aL e5).trans ((aL e6).trans ((bq e7).trans (bL rfl)))))))) HB
  ·rw [decide_eq_false h0] at e7
   rw [if_neg h0]
   have e8:=vt (Φ:=aa ah k) (r:=r++[Rw.num z,.nI ((r.length:Int)+1+2),.num 5]) (h:=h) (v:=v) (Z:=[some (.ref 0),some (.ref 2),some (.int n),some (.int m),none,some (.int z)]) (i:=1) (x:=5) (e:=.k (.int 5)) rfl rfl (by omega)
   exact bC FI rfl ((aq e1).trans ((bq e2).trans ((aq e3).trans ((aL e4).trans ((aL e5).trans ((aL e6).trans ((eB e7 ((aL e8).trans rfl)).trans (bL rfl)))))))) HB
end
end bR
end
section
namespace bR
open Fg PySem
section
variable {k:Nat} {Φ:aQ} {Z Z':Sg} {c e e':E} {a b:Ss} {M M':MH} {x y:Bool}
theorem lJ (h:ev Φ e Z M=.ok (.bl x) M) (h':ev Φ e' Z M=.ok (.bl y) M):ev Φ (.and e e') Z M=.ok (.bl (x&&y)) M:=by
 rw [FY,h,R.af]
 cases x with
 | true=>exact h'
 | false=>rfl
theorem bB (hc:ev Φ c Z M=.ok (.bl false) M) (h:exs Φ b Z M=.ok (.nx Z') M'):exs Φ (.cons (.ifs c a b) .nil) Z M=.ok (.nx Z') M':=(aZ hc h).trans rfl
theorem kT (hc:ev Φ c Z M=.ok (.bl true) M) (h:exs Φ a Z M=.ok (.nx Z') M'):exs Φ (.cons (.ifs c a b) .nil) Z M=.ok (.nx Z') M':=(eB hc h).trans rfl
theorem pJ {i n:Int} (h:ev Φ e Z M=.ok (.int i) M):ev Φ (.cmp .eq e (.k (.int n))) Z M=.ok (.bl (decide (i=n))) M:=by
 rw [cz,h,R.af,mW,R.af]
 simp [bh,ug,GP,top,aV,Fg.plain,dep]
end
noncomputable def cA (c:Int) (j:Nat):E:=.and (.cmp .eq (.v 4) (.k (.int c))) (.cmp .gt (.blt .len true (.cons (.v j) .nil)) (.k (.int 0)))
noncomputable def eM:E:=.op .mod true (.v 5) (.blt .len true (.cons (.v 2) .nil))
noncomputable def eW4:E:=.idx (.lst true (.cons (.k (.str (w "plus"))) (.cons (.k (.str (w "minus"))) (.cons (.k (.str (w "times"))) (.cons (.k (.str (w "less"))) .nil))))) (.op .sub true (.v 4) (.k (.int 5)))
noncomputable def ze (i:Nat) (e:E):S:=.ex (.aK .append true (.v i) (.cons e .nil))
noncomputable def b7:Ss:=.cons (ze 0 (.tup (.cons (.k (.str (w "number"))) (.cons (.call 24 (.cons (.v 5) .nil)) .nil)))) (.cons (ze 1 (.call 24 (.cons (.v 5) .nil))) .nil)
noncomputable def b6:Ss:=.cons (.ifs (.cmp .gt (.v 4) (.k (.int 9))) (.cons (.ex (.call 27 (.cons (.v 0) (.cons (.v 1) (.cons (.v 5) .nil))))) .nil) b7) .nil
noncomputable def b5:Ss:=.cons (.ifs (.cmp .eq (.v 4) (.k (.int 9))) (.cons (ze 0 (.tup (.cons (.k (.str (w "nil"))) .nil))) (.cons (ze 0 (.tup (.cons (.k (.str (w "none"))) .nil))) (.cons (ze 1 (.k (.int 1))) .nil))) b6) .nil
noncomputable def b4:Ss:=.cons (.ifs (.and (.cmp .gt (.v 4) (.k (.int 4))) (.and (.cmp .lt (.v 4) (.k (.int 9))) (.cmp .gt (.blt .len true (.cons (.v 1) .nil)) (.k (.int 1))))) (.cons (.ex (.call 26 (.cons (.v 0) (.cons (.v 1) (.cons eW4 .nil))))) .nil) b5) .nil
noncomputable def b3:Ss:=.cons (.ifs (cA 4 2) (.cons (ze 0 (.tup (.cons (.k (.str (w "drop"))) .nil))) (.cons (.ex (.aK .pop true (.v 2) .nil)) .nil)) b4) .nil
noncomputable def b2:Ss:=.cons (.ifs (cA 3 1) (.cons (ze 0 (.tup (.cons (.k (.str (w "keep"))) .nil))) (.cons (ze 2 (.aK .pop true (.v 1) .nil)) .nil)) b3) .nil
noncomputable def b1:Ss:=.cons (.ifs (cA 2 2) (.cons (ze 0 (.tup (.cons (.k (.str (w "local"))) (.cons eM .nil)))) (.cons (ze 1 (.idx (.v 2) eM)) .nil)) b2) .nil
theorem wm:iI.body=.cons (.set 4 (.op .mod true (.v 3) (.k (.int 12)))) (.cons (.set 5 (.op .fdiv true (.v 3) (.k (.int 12)))) b1):=rfl
theorem snoc {α:Type} {xs:List α} (h:0<xs.length):∃ ys y,xs=ys++[y]:=by
 cases hx:xs.reverse with
 | nil=>rw [List.reverse_eq_nil_iff] at hx;subst hx;exact absurd h (Nat.lt_irrefl 0)
 | cons y ys=>exact ⟨ys.reverse,y,by rw [<- List.reverse_reverse xs,hx];simp⟩
section
variable {k:Nat} {r:List Rw} {h v:List Int} {n:Int}
theorem JF (h0:0<=n) (hn:n<2147483629) (hh:Ok h) (hv:Ok v) (lr:r.length<80000) (lh:h.length<80000) (lv:v.length<80000) :
  ∃ ws h' v',pU r.length h v ws h' v'/\ws.length<=5/\(aa ah (k+4)).call 28 [.ref 0,.ref 2,.ref 1,.int n] (MM r h v)=.ok .ak (MM (r++ws) h' v'):=by
 have e1:ev (aa ah (k+3)) (.op .mod true (.v 3) (.k (.int 12))) [some (.ref 0),some (.ref 2),some (.ref 1),some (.int n),none,none] (MM r h v)=.ok (.int (n % 12)) (MM r h v):=dc rfl rfl (by decide)
 have e2:ev (aa ah (k+3)) (.op .fdiv true (.v 3) (.k (.int 12))) [some (.ref 0),some (.ref 2),some (.ref 1),some (.int n),some (.int (n % 12)),none] (MM r h v)=.ok (.int (n / 12)) (MM r h v):=kj rfl rfl (by decide) (by decide)
 have m0:0<=n / 12:=by omega
 have m1:n / 12<2147483629:=by omega
 have d0:0<=n % 12/\n % 12<12:=by omega
 generalize hd:n % 12=d at e1 e2 d0
 generalize hm:n / 12=m at e2 m0 m1
 let Z:Sg:=[some (.ref 0),some (.ref 2),some (.ref 1),some (.int n),some (.int d),some (.int m)]
 have fin:∀ {ws:List Rw} {h' v':List Int},exs (aa ah (k+3)) b1 Z (MM r h v)=.ok (.nx Z) (MM (r++ws) h' v')->(aa ah (k+4)).call 28 [.ref 0,.ref 2,.ref 1,.int n] (MM r h v)=.ok .ak (MM (r++ws) h' v'):=fun q =>
  eV fn28 rfl (by rw [wm];exact (aq e1).trans ((aq e2).trans q)) HB
 have cH:∀ c:Int,ev (aa ah (k+3)) (cA c 2) Z (MM r h v)=.ok (.bl (decide (d=c)&&decide ((0:Int)<h.length))) (MM r h v):=fun c=>lJ (pJ rfl) (pI (II rfl) rfl rfl)
 have cV:∀ c:Int,ev (aa ah (k+3)) (cA c 1) Z (MM r h v)=.ok (.bl (decide (d=c)&&decide ((0:Int)<v.length))) (MM r h v):=fun c=>lJ (pJ rfl) (pI (oQ rfl) rfl rfl)
 have c4:ev (aa ah (k+3)) (.and (.cmp .gt (.v 4) (.k (.int 4))) (.and (.cmp .lt (.v 4) (.k (.int 9))) (.cmp .gt (.blt .len true (.cons (.v 1) .nil)) (.k (.int 1))))) Z (MM r h v)=.ok (.bl (decide (4<d)&&(decide (d<9)&&decide ((1:Int)<v.length)))) (MM r h v):=lJ (pI rfl rfl rfl) (lJ (e_lt rfl rfl rfl) (pI (oQ rfl) rfl rfl))
 have c5:ev (aa ah (k+3)) (.cmp .eq (.v 4) (.k (.int 9))) Z (MM r h v)=.ok (.bl (decide (d=9))) (MM r h v):=pJ rfl
 have c6:ev (aa ah (k+3)) (.cmp .gt (.v 4) (.k (.int 9))) Z (MM r h v)=.ok (.bl (decide (9<d))) (MM r h v):=pI rfl rfl rfl
 cases q1:(decide (d=2)&&decide ((0:Int)<h.length)) with
 | true =>
  simp only [Bool.and_eq_true,decide_eq_true_eq] at q1
  have c1:=cH 2
  rw [decide_eq_true q1.1,decide_eq_true q1.2] at c1
  have hl:(m % (h.length:Int)).toNat<h.length:=by
   have:=Int.emod_lt_of_pos m q1.2
   have:=Int.emod_nonneg m (Int.ne_of_gt q1.2)
   omega
  have hi:(((m % (h.length:Int)).toNat:Nat):Int)=m % (h.length:Int):=Int.toNat_of_nonneg (Int.emod_nonneg m (Int.ne_of_gt q1.2))
  generalize (m % (h.length:Int)).toNat=i at hl hi
  have em:∀ {r':List Rw} {v':List Int},ev (aa ah (k+3)) eM Z (MM r' h v')=.ok (.int (i:Int)) (MM r' h v'):=fun {r' v'}=>by rw [hi];exact dc rfl (II rfl) q1.2
  have eg:h[i]? = some h[i]:=List.getElem?_eq_getElem hl
  have a1:=ic (Φ:=aa ah (k+3)) (r:=r) (h:=h) (v:=v) (Z:=Z) (i:=0) (a:=.loc i) (e:=.tup (.cons (.k (.str (w "local"))) (.cons eM .nil))) rfl (by rw [cT, gZ (x:=.str (w "local")) (M1:=MM r h v) rfl em];rfl) (by omega)
  have a2:=vt (Φ:=aa ah (k+3)) (r:=r++[.loc i]) (h:=h) (v:=v) (Z:=Z) (i:=1) (x:=h[i]) (e:=.idx (.v 2) eM) rfl (pH (n:=1) (xs:=di h) rfl em rfl (ia (by rw [List.getElem?_map,eg];rfl))) (by omega)
  exact ⟨_,_,_,.loc eg,by simp,fin (kT c1 ((aL a1).trans ((aL a2).trans rfl)))⟩
 | false =>
 have c1:=cH 2
 rw [q1] at c1
 cases q2:(decide (d=3)&&decide ((0:Int)<v.length)) with
 | true =>
  have c2:=cV 3
  rw [q2] at c2
  simp only [Bool.and_eq_true,decide_eq_true_eq] at q2
  obtain ⟨v',x,rfl⟩:=snoc (xs:=v) (by omega)
  have a1:=ic (Φ:=aa ah (k+3)) (r:=r) (h:=h) (v:=v'++[x]) (Z:=Z) (i:=0) (a:=.keep) (e:=.tup (.cons (.k (.str (w "keep"))) .nil)) rfl rfl (by omega)
  have a2:=appH (Φ:=aa ah (k+3)) (r:=r++[.keep]) (h:=h) (v:=v'++[x]) (v':=v') (Z:=Z) (i:=2) (x:=x) (e:=.aK .pop true (.v 1) .nil) rfl (DU rfl) (by omega)
  exact ⟨_,_,_,.keep rfl,by simp,fin (bB c1 (kT c2 ((aL a1).trans ((aL a2).trans rfl))))⟩
 | false =>
 have c2:=cV 3
 rw [q2] at c2
 cases q3:(decide (d=4)&&decide ((0:Int)<h.length)) with
 | true =>
  have c3:=cH 4
  rw [q3] at c3
  simp only [Bool.and_eq_true,decide_eq_true_eq] at q3
  obtain ⟨h',x,rfl⟩:=snoc (xs:=h) (by omega)
  have a1:=ic (Φ:=aa ah (k+3)) (r:=r) (h:=h'++[x]) (v:=v) (Z:=Z) (i:=0) (a:=.drop) (e:=.tup (.cons (.k (.str (w "drop"))) .nil)) rfl rfl (by omega)
  have a2:=popH (Φ:=aa ah (k+3)) (r:=r++[.drop]) (h:=h') (v:=v) (Z:=Z) (i:=2) (x:=x) rfl
  exact ⟨_,_,_,.drop rfl,by simp,fin (bB c1 (bB c2 (kT c3 ((aL a1).trans ((aL a2).trans rfl)))))⟩
 | false =>
 have c3:=cH 4
 rw [q3] at c3
 cases q4:(decide (4<d)&&(decide (d<9)&&decide ((1:Int)<v.length))) with
 | true =>
  rw [q4] at c4
  simp only [Bool.and_eq_true,decide_eq_true_eq] at q4
  obtain ⟨q41,q42,q43⟩:=q4
  obtain ⟨v1,b,rfl⟩:=snoc (xs:=v) (by omega)
  obtain ⟨v',a,rfl⟩:=snoc (xs:=v1) (by simp at q43;omega)
  obtain ⟨o, eo⟩:∃ o:Rk, dU [D.str (w "plus"), .str (w "minus"), .str (w "times"), .str (w "less")] (d-5)=some (.str (bE o)):=by
   have hr:d=5\/d=6\/d=7\/d=8:=by omega
   rcases hr with z | z | z | z <;> subst z
   ·exact ⟨.plus,rfl⟩
   ·exact ⟨.minus,rfl⟩
   ·exact ⟨.times,rfl⟩
   ·exact ⟨.less,rfl⟩
  have ew:ev (aa ah (k+3)) eW4 Z (MM r h (v'++[a]++[b]))=.ok (.str (bE o)) (MM r h (v'++[a]++[b])):=ki (xs:=[D.str (w "plus"), .str (w "minus"), .str (w "times"), .str (w "less")]) rfl (pF rfl rfl) eo
  have ec:=(fS (Φ:=aa ah (k+3)) (f:=26) (Z:=Z) (a:=.v 0) (b:=.v 1) (M:=MM r h (v'++[a]++[b])) rfl rfl ew).trans (CP (k:=k+1) (by omega) (by simp at lv;omega) (cI hv.l.x) (cI hv.x))
  exact ⟨_,_,_,.two rfl,by simp,fin (bB c1 (bB c2 (bB c3 (kT c4 ((aL ec).trans rfl)))))⟩
 | false =>
 rw [q4] at c4
 by_cases q5:d=9
 ·rw [decide_eq_true q5] at c5
  have a1:=ic (Φ:=aa ah (k+3)) (r:=r) (h:=h) (v:=v) (Z:=Z) (i:=0) (a:=.nil) (e:=.tup (.cons (.k (.str (w "nil"))) .nil)) rfl rfl (by omega)
  have a2:=ic (Φ:=aa ah (k+3)) (r:=r++[.nil]) (h:=h) (v:=v) (Z:=Z) (i:=0) (a:=.none) (e:=.tup (.cons (.k (.str (w "none"))) .nil)) rfl rfl (by simp;omega)
  have a3:=vt (Φ:=aa ah (k+3)) (r:=r++[.nil]++[.none]) (h:=h) (v:=v) (Z:=Z) (i:=1) (x:=1) (e:=.k (.int 1)) rfl rfl (by omega)
  have ea:r++[Rw.nil]++[Rw.none]=r++[.nil,.none]:=by simp
  rw [ea] at a2 a3
  exact ⟨_,_,_,.ak,by simp,fin (bB c1 (bB c2 (bB c3 (bB c4 (kT c5 ((aL a1).trans ((aL a2).trans ((aL a3).trans rfl))))))))⟩
 ·rw [decide_eq_false q5] at c5
  by_cases q6:9<d
  ·rw [decide_eq_true q6] at c6
   obtain ⟨ws,v',S,l,q⟩:=Gj (k:=k+2) (r:=r) (h:=h) (v:=v) m0 (by omega) (by omega)
   have ec:=(fS (Φ:=aa ah (k+3)) (f:=27) (Z:=Z) (a:=.v 0) (b:=.v 1) (c:=.v 5) (M:=MM r h v) rfl rfl rfl).trans q
   exact ⟨ws,h,v',S,l,fin (bB c1 (bB c2 (bB c3 (bB c4 (bB c5 (kT c6 ((aL ec).trans rfl)))))))⟩
  ·rw [decide_eq_false q6] at c6
   have en:∀ {r':List Rw} {v':List Int},ev (aa ah (k+3)) (.call 24 (.cons (.v 5) .nil)) Z (MM r' h v')=.ok (.int (jN m)) (MM r' h v'):=(ez rfl).trans (yL m0 m1)
   have a1:=ic (Φ:=aa ah (k+3)) (r:=r) (h:=h) (v:=v) (Z:=Z) (i:=0) (a:=.num (jN m)) (e:=.tup (.cons (.k (.str (w "number"))) (.cons (.call 24 (.cons (.v 5) .nil)) .nil))) rfl (by rw [cT, gZ (x:=.str (w "number")) (M1:=MM r h v) rfl en];rfl) (by omega)
   have a2:=vt (Φ:=aa ah (k+3)) (r:=r++[.num (jN m)]) (h:=h) (v:=v) (Z:=Z) (i:=1) (x:=jN m) (e:=.call 24 (.cons (.v 5) .nil)) rfl en (by omega)
   exact ⟨_,_,_,.num (sO m),by simp,fin (bB c1 (bB c2 (bB c3 (bB c4 (bB c5 (bB c6 ((aL a1).trans ((aL a2).trans rfl))))))))⟩
end
end bR
end
section
namespace bR
open Fg PySem
structure Inv (o b:Nat) (nums:List Int) (t:Nat) (r:List Rw) (h v:List Int) (g:Bool):Prop where
 lr:r.length<=10+5*t
 lh:h.length<=20+t
 lv:v.length<=t
 run:g=false->Ok h/\Ok v/\∀ kH:List Rw,∃ n,n<=5*t/\nA (r++kH) (pY o b nums []) (pY o r.length h v) n
 ex:g=true->∀ kH:List Rw,∃ n,n<=5*t/\JO (r++kH) (pY o b nums []) n
theorem kC {v:List Int}:v.any great=false↔Ok v:=by
 rw [List.any_eq_false]
 exact ⟨fun h x hx=>by simpa using h x hx,fun h x hx=>by simpa using h x hx⟩
section
variable {o b t:Nat} {nums h v h' v':List Int} {r ws:List Rw}
theorem Inv.step (I:Inv o b nums t r h v false) (ho:o<1000) (ht:t<=1000) (S:pU r.length h v ws h' v') (hw:ws.length<=5):Inv o b nums (t+1) (r++ws) h' v' (v'.any great):=by
 obtain ⟨oh,ov,run⟩:=I.run rfl
 have hl:=S.len
 have l1:=I.lr
 have l2:=I.lh
 have l3:=I.lv
 have rd:∀ (kH:List Rw) (i:Nat),i<ws.length->(r++ws++kH)[r.length+i]? = ws[i]?:=fun kH i hi=>by
  rw [List.append_assoc,List.getElem?_append_right (by omega),Nat.add_sub_cancel_left,List.getElem?_append_left hi]
 refine ⟨by rw [List.length_append];omega,by omega,by omega,fun hg=>?_,fun hg kH=>?_⟩
 ·refine ⟨S.okh oh ov,kC.mp hg,fun kH=>?_⟩
  obtain ⟨n,hn,R⟩:=run (ws++kH)
  rw [<- List.append_assoc] at R
  obtain ⟨m,hm,R'⟩:=(S.run (rs:=r++ws++kH) oh ov ho (by omega) (by omega) (rd kH)).1 (kC.mp hg)
  refine ⟨n+m,by omega,?_⟩
  rw [List.length_append]
  exact R.trans R'
 ·obtain ⟨n,hn,R⟩:=run (ws++kH)
  rw [<- List.append_assoc] at R
  obtain ⟨m,hm,R'⟩:=(S.run (rs:=r++ws++kH) oh ov ho (by omega) (by omega) (rd kH)).2 (fun z=>by rw [kC.mpr z] at hg;cases hg)
  exact ⟨n+m,by omega,R.C8 R'⟩
theorem Inv.more {g:Bool} (I:Inv o b nums t r h v g) {u:Nat} (hu:t<=u):Inv o b nums u r h v g :=
 ⟨Nat.le_trans I.lr (by omega),Nat.le_trans I.lh (by omega),Nat.le_trans I.lv hu,fun e=>⟨(I.run e).1,(I.run e).2.1,fun kH=>(by obtain ⟨n,h1,h2⟩:=(I.run e).2.2 kH;exact ⟨n,by omega,h2⟩)⟩,fun e kH=>(by obtain ⟨n,h1,h2⟩:=I.ex e kH;exact ⟨n,by omega,h2⟩)⟩
end
noncomputable def eGt:E:=.cmp .gt (.blt .len true (.cons (.comp true [] [0] (.v 0) (.e (.v 7)) (.some (.cmp .ge (.j3 .abs (.v 0)) (.op .pow true (.k (.int 10)) (.k (.int 60)))))) .nil)) (.k (.int 0))
noncomputable def fB:Ss:=.cons (.ifs (.not (.v 8)) (.cons (.ex (.call 28 (.cons (.v 3) (.cons (.v 7) (.cons (.v 6) (.cons (.call 22 (.cons (.v 9) .nil)) .nil)))))) (.cons (.set 8 eGt) .nil)) .nil) .nil
noncomputable abbrev sg (s0 s1 s2 s4 s5:Option D) (g:Bool) (c:Option D) (rest:List (Option D)):Sg:=[s0,s1,s2,some (.ref 0),s4,s5,some (.ref 1),some (.ref 2),some (.bl g),c]++rest
noncomputable def IZ:D->Bool
 | .int i=>great i
 | _=>false
section
variable {k:Nat} {Φ:aQ} {r:List Rw} {h v nums:List Int} {g:Bool} {o b t:Nat} {s0 s1 s2 s4 s5 c:Option D} {rest:List (Option D)}
theorem Be:(di v).filter IZ=di (v.filter great):=by
 induction v with
 | nil=>rfl
 | cons x v ih =>
  show (D.int x::di v).filter IZ=_
  by_cases hx:great x=true
  ·rw [List.filter_cons_of_pos (p:=IZ) (a:=.int x) hx,List.filter_cons_of_pos hx,ih];rfl
  ·rw [List.filter_cons_of_neg (p:=IZ) (a:=.int x) hx,List.filter_cons_of_neg hx,ih]
theorem Bu {Z:Sg} (h7:Z[7]? = some (some (.ref 2))) (hl:v.length<=100000):ev Φ eGt Z (MM r h v)=.ok (.bl (v.any great)) (MM r h v):=by
 have hi:bQ Φ (.e (.v 7)) Z (MM r h v)=.ok (.ref 2,di v,false) (MM r h v):=by
  rw [CG,e_v h7,R.af];rfl
 have hc:bz (pB Φ (.some (.cmp .ge (.j3 .abs (.v 0)) (.op .pow true (.k (.int 10)) (.k (.int 60)))))) (ev Φ (.v 0)) [0] (aO (MM r h v) (.ref 2)) (di v) [none] (MM r h v) []=.ok ([]++((di v).filter IZ).map fun d=>d) (MM r h v):=by
  refine jQ (by simp [aO]) (di v) [] [none] (fun d hd=>?_) (by simp;exact Nat.le_trans hl (by decide))
  obtain ⟨i,_,rfl⟩:=List.mem_map.mp hd
  exact ⟨by rw [yq];exact F9 (yy rfl) tT rfl,fun _=>rfl⟩
 have e1:ev Φ (.comp true [] [0] (.v 0) (.e (.v 7)) (.some (.cmp .ge (.j3 .abs (.v 0)) (.op .pow true (.k (.int 10)) (.k (.int 60)))))) Z (MM r h v)=.ok (.lst (di (v.filter great))) (MM r h v):=by
  rw [mY,hi,R.af,tL]
  show (bz _ _ [0] (aO (MM r h v) (.ref 2)) (di v) [none] (MM r h v) []).bind _=_
  rw [hc,Be]
  simp [bY]
 have e2:ev Φ (.blt .len true (.cons (.comp true [] [0] (.v 0) (.e (.v 7)) (.some (.cmp .ge (.j3 .abs (.v 0)) (.op .pow true (.k (.int 10)) (.k (.int 60)))))) .nil)) Z (MM r h v)=.ok (.int ((v.filter great).length:Int)) (MM r h v):=by
  rw [mZ,aD,e1,R.af,bf,R.af,R.af]
  simp [pR,vw,di]
 refine pI e2 rfl ?_
 cases hz:v.any great with
 | true =>
  obtain ⟨x,hx,gx⟩:=List.any_eq_true.mp hz
  have:=List.length_pos_of_mem (List.mem_filter.mpr ⟨hx,gx⟩)
  exact decide_eq_true (by omega)
 | false =>
  have:v.filter great=[]:=List.filter_eq_nil_iff.mpr (List.any_eq_false.mp hz)
  rw [this];rfl
theorem Bv {Z:Sg} {M:MH} {f:Nat} {a b c d:E} {x y z u:D} (h1:ev Φ a Z M=.ok x M) (h2:ev Φ b Z M=.ok y M) (h3:ev Φ c Z M=.ok z M) (h4:ev Φ d Z M=.ok u M):ev Φ (.call f (.cons a (.cons b (.cons c (.cons d .nil))))) Z M=Φ.call f [x,y,z,u] M:=by
 simp only [c9,aD,bf,h1,h2,h3,h4,R.af]
theorem qZ {Z:Sg} {M:MH} {e:E} {x:Bool} (h:ev Φ e Z M=.ok (.bl x) M):ev Φ (.not e) Z M=.ok (.bl (!x)) M:=by rw [mV,h];rfl
theorem FL {x:Int} (I:Inv o b nums t r h v g) (ho:o<1000) (ht:t<1000):∃ r' h' v' g',Inv o b nums (t+1) r' h' v' g'/\exs (aa ah (k+4)) fB (sg s0 s1 s2 s4 s5 g (some (.int x)) rest) (MM r h v)=.ok (.nx (sg s0 s1 s2 s4 s5 g' (some (.int x)) rest)) (MM r' h' v'):=by
 have e0:ev (aa ah (k+4)) (.not (.v 8)) (sg s0 s1 s2 s4 s5 g (some (.int x)) rest) (MM r h v)=.ok (.bl (!g)) (MM r h v):=qZ rfl
 cases g with
 | true=>exact ⟨r,h,v,true,I.more (by omega),(bq e0).trans rfl⟩
 | false =>
  obtain ⟨oh,ov,_⟩:=I.run rfl
  have l1:=I.lr
  have l2:=I.lh
  have l3:=I.lv
  have mx:=jP x
  obtain ⟨ws,h',v',S,hw,q⟩:=JF (k:=k) (r:=r) (h:=h) (v:=v) (n:=mixed x) mx.1 mx.2 oh ov (by omega) (by omega) (by omega)
  have J:=I.step ho (by omega) S hw
  have e1:=(Bv (Φ:=aa ah (k+4)) (f:=28) (Z:=sg s0 s1 s2 s4 s5 false (some (.int x)) rest) (a:=.v 3) (b:=.v 7) (c:=.v 6) (d:=.call 22 (.cons (.v 9) .nil)) (M:=MM r h v) rfl rfl rfl ((ez rfl).trans (nk (k:=k+3)))).trans q
  have e2:=Bu (Φ:=aa ah (k+4)) (Z:=sg s0 s1 s2 s4 s5 false (some (.int x)) rest) (r:=r++ws) (h:=h') (v:=v') rfl (Nat.le_trans J.lv (by omega))
  exact ⟨_,_,_,_,J,(eB e0 ((aL e1).trans ((aq e2).trans rfl))).trans rfl⟩
theorem yg {ch:MH->Bool} (hch:∀ M,ch M=true) (ho:o<1000):∀ (cs:List Int) (t:Nat) (r:List Rw) (h v:List Int) (g:Bool) (c:Option D),t+cs.length<1000->Inv o b nums t r h v g->∃ r' h' v' g' c',Inv o b nums (t+cs.length) r' h' v' g' /\
  bZ (exs (aa ah (k+4)) fB) [9] ch (di cs) (sg s0 s1 s2 s4 s5 g c rest) (MM r h v)=.ok (.nx (sg s0 s1 s2 s4 s5 g' c' rest)) (MM r' h' v')
 | [],t,r,h,v,g,c,_,I=>⟨r,h,v,g,c,I,rfl⟩
 | x::cs,t,r,h,v,g,c,hl,I=>by
  simp only [List.length_cons] at hl
  obtain ⟨r1,h1,v1,g1,J,q⟩:=FL (k:=k) (s0:=s0) (s1:=s1) (s2:=s2) (s4:=s4) (s5:=s5) (rest:=rest) (x:=x) I ho (by omega)
  obtain ⟨r2,h2,v2,g2,c2,J2,q2⟩:=yg hch ho cs (t+1) r1 h1 v1 g1 (some (.int x)) (by omega) J
  refine ⟨r2,h2,v2,g2,c2,J2.more (by simp;omega),?_⟩
  rw [show di (x::cs)=.int x::di cs from rfl,bZ]
  show (exs (aa ah (k+4)) fB (sg s0 s1 s2 s4 s5 g (some (.int x)) rest) (MM r h v)).bind _=_
  rw [q]
  simp only [R.af,hch,if_true]
  exact q2
noncomputable def wE:E:=.and (.cmp .gt (.blt .len true (.cons (.v 7) .nil)) (.k (.int 1))) (.not (.v 8))
noncomputable def wB:Ss:=.cons (.ex (.call 26 (.cons (.v 3) (.cons (.v 7) (.cons (.idx (.lst true (.cons (.k (.str (w "plus"))) (.cons (.k (.str (w "minus"))) .nil))) (.op .mod true (.blt .len true (.cons (.v 7) .nil)) (.k (.int 2)))) .nil))))) (.cons (.set 8 (.cmp .ge (.j3 .abs (.idx (.v 7) (.neg (.k (.int 1))))) (.op .pow true (.k (.int 10)) (.k (.int 60))))) .nil)
theorem CZ (ho:o<1000):∀ (m N t:Nat) (r:List Rw) (v:List Int) (g:Bool),v.length<=m->m<N->t+m<1000->Inv o b nums t r h v g->∃ r' v' g',Inv o b nums (t+m) r' h v' g'/\(g'=false->v'.length<=1) /\
  aP (ev (aa ah (k+4)) wE) (exs (aa ah (k+4)) wB) N (sg s0 s1 s2 s4 s5 g c rest) (MM r h v)=.ok (.nx (sg s0 s1 s2 s4 s5 g' c rest)) (MM r' h v'):=by
 intro m
 induction m with
 | zero =>
  intro N t r v g hv hN ht I
  obtain ⟨N,rfl⟩:∃ n,N=n+1:=⟨N-1,by omega⟩
  have e0:ev (aa ah (k+4)) wE (sg s0 s1 s2 s4 s5 g c rest) (MM r h v)=.ok (.bl (decide ((1:Int)<v.length)&&!g)) (MM r h v):=lJ (pI (oQ rfl) rfl rfl) (qZ rfl)
  rw [decide_eq_false (by omega),Bool.false_and] at e0
  refine ⟨r,v,g,I,fun _=>by omega,?_⟩
  rw [aP,e0];rfl
 | succ m ih =>
  intro N t r v g hv hN ht I
  obtain ⟨N,rfl⟩:∃ n,N=n+1:=⟨N-1,by omega⟩
  have e0:ev (aa ah (k+4)) wE (sg s0 s1 s2 s4 s5 g c rest) (MM r h v)=.ok (.bl (decide ((1:Int)<v.length)&&!g)) (MM r h v):=lJ (pI (oQ rfl) rfl rfl) (qZ rfl)
  cases hc:(decide ((1:Int)<v.length)&&!g) with
  | false =>
   rw [hc] at e0
   refine ⟨r,v,g,I.more (by omega),fun hg=>?_,?_⟩
   ·subst hg
    simp only [Bool.not_false,Bool.and_true,decide_eq_false_iff_not] at hc
    omega
   ·rw [aP,e0];rfl
  | true =>
   rw [hc] at e0
   simp only [Bool.and_eq_true,decide_eq_true_eq,Bool.not_eq_true'] at hc
   obtain ⟨h1,rfl⟩:=hc
   obtain ⟨oh,ov,_⟩:=I.run rfl
   have l1:=I.lr
   have l3:=I.lv
   obtain ⟨v1,y,rfl⟩:=snoc (xs:=v) (by omega)
   obtain ⟨v',x,rfl⟩:=snoc (xs:=v1) (by simp at h1;omega)
   obtain ⟨ok, eo⟩:∃ ok:Rk, dU [D.str (w "plus"), .str (w "minus")] (((v'++[x]++[y]).length:Int) % 2)=some (.str (bE ok)):=by
    generalize ((v'++[x]++[y]).length:Int)=z
    have hr:z % 2=0\/z % 2=1:=by omega
    rcases hr with q | q <;> rw [q]
    ·exact ⟨.plus,rfl⟩
    ·exact ⟨.minus,rfl⟩
   have ew:ev (aa ah (k+4)) (.idx (.lst true (.cons (.k (.str (w "plus"))) (.cons (.k (.str (w "minus"))) .nil))) (.op .mod true (.blt .len true (.cons (.v 7) .nil)) (.k (.int 2)))) (sg s0 s1 s2 s4 s5 false c rest) (MM r h (v'++[x]++[y]))=.ok (.str (bE ok)) (MM r h (v'++[x]++[y])):=ki (xs:=[D.str (w "plus"), .str (w "minus")]) rfl (dc (oQ rfl) rfl (by decide)) eo
   have ec:=(fS (Φ:=aa ah (k+4)) (f:=26) (Z:=sg s0 s1 s2 s4 s5 false c rest) (a:=.v 3) (b:=.v 7) (M:=MM r h (v'++[x]++[y])) rfl rfl ew).trans (CP (k:=k+2) (by omega) (by simp at l3;omega) (cI ov.l.x) (cI ov.x))
   have J:=I.step ho (by omega) (.two (o:=ok) rfl) (by simp)
   have ej:(v'++[gj ok x y]).any great=great (gj ok x y):=by
    rw [List.any_append,kC.mpr ov.l.l];simp
   rw [ej] at J
   have eg:ev (aa ah (k+4)) (.cmp .ge (.j3 .abs (.idx (.v 7) (.neg (.k (.int 1))))) (.op .pow true (.k (.int 10)) (.k (.int 60)))) (sg s0 s1 s2 s4 s5 false c rest) (MM (r++[.rk ok]) h (v'++[gj ok x y]))=.ok (.bl (great (gj ok x y))) (MM (r++[.rk ok]) h (v'++[gj ok x y])) :=
    F9 (yy (pH (n:=2) (xs:=di (v'++[gj ok x y])) (d:=.int (gj ok x y)) rfl rfl rfl (by rw [show di (v'++[gj ok x y])=di v'++[.int (gj ok x y)] by simp [di]];exact pT))) tT rfl
   obtain ⟨r2,v2,g2,J2,hl2,q2⟩:=ih N (t+1) (r++[.rk ok]) (v'++[gj ok x y]) (great (gj ok x y)) (by simp at hv ⊢;omega) (by omega) (by omega) J
   refine ⟨r2,v2,g2,J2.more (by omega),hl2,?_⟩
   have eb:exs (aa ah (k+4)) wB (sg s0 s1 s2 s4 s5 false c rest) (MM r h (v'++[x]++[y]))=.ok (.nx (sg s0 s1 s2 s4 s5 (great (gj ok x y)) c rest)) (MM (r++[.rk ok]) h (v'++[gj ok x y])):=(aL ec).trans ((aq eg).trans rfl)
   rw [aP,e0]
   show (exs (aa ah (k+4)) wB (sg s0 s1 s2 s4 s5 false c rest) (MM r h (v'++[x]++[y]))).bind _=_
   rw [eb]
   exact q2
end
end bR
end
section
namespace bR
open Fg PySem
mutual
theorem pD:∀ (d:D),Fg.plain d=true->aI d d=true
 | .ak,_=>by simp
 | .bl _,h=>by simp [Fg.plain] at h
 | .int _,_=>by simp
 | .str _,_=>by simp
 | .tup ds,h=>by simp only [Fg.plain] at h;rw [pC];exact fR ds h
 | .lst ds,h=>by simp only [Fg.plain] at h;rw [fJ];exact fR ds h
 | .dct _ _,h=>by simp [Fg.plain] at h
 | .ref _,h=>by simp [Fg.plain] at h
theorem fR:∀ (ds:List D),au ds=true->dF ds ds=true
 | [],_=>by simp
 | d::ds,h=>by
  simp only [au,Bool.and_eq_true] at h
  rw [Bq,pD d h.1,fR ds h.2];rfl
end
theorem dZ:∀ {ds:List D},au ds=true->∀ d∈ds,Fg.plain d=true
 | [],_,_,h=>by cases h
 | e::ds,p,d,h=>by
  simp only [au,Bool.and_eq_true] at p
  rcases List.mem_cons.mp h with rfl | h
  ·exact p.1
  ·exact dZ p.2 d h
theorem fN:∀ {ds:List D},(∀ d∈ds,Fg.plain d=true)->au ds=true
 | [],_=>by simp [au]
 | d::ds,h=>by simp only [au,h d List.mem_cons_self,fN fun e he=>h e (List.mem_cons_of_mem _ he),Bool.and_self]
theorem jo {n:Nat}:∀ {ds:List D},(∀ d∈ds,dep d<=n)->deps ds<=n
 | [],_=>by simp [deps]
 | d::ds,h=>by simp only [deps];exact Nat.max_le.mpr ⟨h d List.mem_cons_self,jo fun e he=>h e (List.mem_cons_of_mem _ he)⟩
theorem gI {α:Type} {f:α->α}:∀ {ds:List α},(∀ d∈ds,f d=d)->ds.map f=ds
 | [],_=>rfl
 | d::ds,h=>by rw [List.map_cons,h d List.mem_cons_self,gI fun e he=>h e (List.mem_cons_of_mem _ he)]
theorem bU {M:MH} (n:Nat):∀ d:D,Fg.plain d=true->deep n M d=d:=by
 induction n with
 | zero=>intro d _;rfl
 | succ n ih =>
  intro d h
  cases d with
  | tup ds=>simp only [Fg.plain] at h;simp only [deep];rw [gI fun d hd=>ih d (dZ h d hd)]
  | lst ds=>simp only [Fg.plain] at h;simp only [deep];rw [gI fun d hd=>ih d (dZ h d hd)]
  | ref _=>simp [Fg.plain] at h
  | _=>rfl
theorem qK {α:Type} {f:α->Int} {xs:List α}:au (xs.map fun n=>D.int (f n))=true:=fN fun d hd=>by
 obtain ⟨n,_,rfl⟩:=List.mem_map.mp hd;simp [Fg.plain]
theorem xX {α:Type} {f:α->Int} {xs:List α}:deps (xs.map fun n=>D.int (f n))<=0:=jo fun d hd=>by
 obtain ⟨n,_,rfl⟩:=List.mem_map.mp hd;simp [dep]
theorem rw_plain (r:Rw):Fg.plain r.d=true/\dep r.d<=2:=by
 cases r with
 | _=>simp [Rw.d,Fg.plain,au,dep,deps]
theorem uG {r:List Rw}:au (r.map Rw.d)=true/\deps (r.map Rw.d)<=2 :=
 ⟨fN fun d hd=>by obtain ⟨x,_,rfl⟩:=List.mem_map.mp hd;exact (rw_plain x).1,jo fun d hd=>by obtain ⟨x,_,rfl⟩:=List.mem_map.mp hd;exact (rw_plain x).2⟩
theorem qX {M:MH} {neg:Bool} {a b d:D} (ha:deep 5 M a=d) (hb:deep 5 M b=d) (hp:Fg.plain d=true) (hd:dep d<=100):Bo M neg a b=.ok (.bl (!neg)) M:=by
 have hc:aV d d=true:=by simp only [aV,hp,decide_eq_true hd,Bool.and_self,Bool.or_self]
 unfold Bo
 rw [ha,hb,if_pos hc,pD d hp]
 cases neg <;> rfl
theorem Iv {M:MH} {a b:D} (h1:ug a b=none) (h2:aV (top M a) (top M b)=false) (h3:jO M a b=none):bh .ne M a b=Bo M true a b:=by
 simp only [bh,h1,sR,h2,h3,Bool.false_eq_true,if_false]
theorem eq_x {M:MH} {a b:D} (h1:ug a b=none) (h2:aV (top M a) (top M b)=false) (h3:jO M a b=none):bh .eq M a b=Bo M false a b:=by
 simp only [bh,h1,GP,h2,h3,Bool.false_eq_true,if_false]
theorem EA {M:MH} {ds:List D} (hp:au ds=true) (hd:deps ds<=50):bh .ne M (.lst ds) (.lst ds)=.ok (.bl false) M:=by
 have h1:dep (.lst ds)<=100:=by simp only [dep];omega
 have hc:aV (.lst ds) (.lst ds)=true:=by
  simp only [aV,Fg.plain,hp,Bool.and_self,decide_eq_true h1,Bool.or_self]
 simp only [bh,ug,sR,top,hc,if_true,fJ,fR ds hp,Bool.not_true]
section
variable {M M1:MH} {k:Nat} {code nums y:D}
noncomputable def hs2:Hs:=.cons [1] (.cons (.set 2 (.k (.str (w "great")))) .nil) (.cons [0] (.cons (.set 2 (.k (.str (w "other")))) .nil) .nil)
theorem DG {n:Nat} (h:(aa ah k).call 7 [code, nums, .int 5] M=.ok (.tup [y, .ref n]) M1) (ht:M1.take M.length=M) (hn:M.length<=n):(aa ah (k+1)).call 29 [code, nums] M=.ok (.tup [.str (w ""), .tup [y, .ref n]]) M1:=by
 have et:ex (aa ah k) (.try (.cons (.set 3 (.call 7 (.cons (.v 0) (.cons (.v 1) (.cons (.k (.int 5)) .nil))))) .nil) hs2 .nil) [some code, some nums, some (.str (w "")), some .ak] M=.ok (.nx [some code, some nums, some (.str (w "")), some (.tup [y, .ref n])]) M1:=by
  rw [yk,aq ((fS rfl rfl rfl).trans h)];rfl
 have nn:¬ nr M.length (.tup [.str (w ""), .tup [y, .ref n]])=true:=by
  simp only [nr,sP,Bool.and_true,Bool.and_eq_true,decide_eq_true_eq,not_and,Nat.not_lt]
  exact fun _ _=>hn
 exact bC Jd rfl ((aq rfl).trans ((aq rfl).trans ((bT et).trans (bL rfl)))) ((if_pos ⟨rfl,ht⟩).trans (if_neg nn))
theorem HD (h:(aa ah k).call 7 [code, nums, .int 5] M=.exc 1 M):(aa ah (k+1)).call 29 [code, nums] M=.ok (.tup [.str (w "great"), .ak]) M:=by
 have sub:(aa ah k).sub=ah.sub:=vo
 have et:ex (aa ah k) (.try (.cons (.set 3 (.call 7 (.cons (.v 0) (.cons (.v 1) (.cons (.k (.int 5)) .nil))))) .nil) hs2 .nil) [some code, some nums, some (.str (w "")), some .ak] M=.ok (.nx [some code, some nums, some (.str (w "great")), some .ak]) M:=by
  rw [yk,Dw ((fS rfl rfl rfl).trans h),R.af]
  show zc (aa ah k) _ 1 _ M=_
  rw [hs2,yh,sub]
  rfl
 exact bC Jd rfl ((aq rfl).trans ((aq rfl).trans ((bT et).trans (bL rfl)))) (aA (by simp [nr,sP]) rfl)
end
section
variable {k:Nat} {M:MH} {o b t:Nat} {nums h v:List Int} {r:List Rw} {x:Int}
noncomputable def code (r:List Rw) (b o:Nat):D:=.tup [.lst (r.map Rw.d),.int (b:Int),.int (o:Int)]
theorem CN:∀ d∈di nums,Vl d:=fun d hd=>by obtain ⟨i,_,rfl⟩:=List.mem_map.mp hd;exact .int i
theorem sY (I:Inv o b nums t r h [x] false) (ho:o<1000) (ht:t<=1000):∃ x':Mx, (aa ah (k+8)).call 29 [code (r++[.back]) b o, .lst (di nums)] M=.ok (.tup [.str (w ""), .tup [.int x, .ref (M.length+4)]]) (x'.h M)/\x'.log=opens o++bA o:=by
 obtain ⟨oh,ov,run⟩:=I.run rfl
 obtain ⟨n,hn,R⟩:=run [.back]
 have lh:=I.lh
 have st:nA (r++[.back]) (pY o r.length h [x]) ⟨[.int x],[],List.replicate o true,opens o,0,.ak⟩ 1:=fun N=>by
  have hr:(r++[Rw.back])[r.length]? = some .back:=by rw [List.getElem?_append_right (Nat.le_refl _),Nat.sub_self];rfl
  rw [Nat.add_comm,FH (L:=r.length) rfl rfl hr]
  show nL (GG 5 .back ⟨[.int x],[⟨di h,List.range o,.ak⟩],List.replicate o true,opens o,0,_⟩) _=_
  rw [mD (by simp) (by simp;omega) ho]
  rfl
 have fin:go (r++[.back]) 5 (n+1+1) (pY o b nums [])=.ok ⟨[.int x],[],List.replicate o true,opens o,0,.ak⟩:=(R.trans st) 1
 have lo:(opens o).length=o:=by simp [opens]
 have fin':go (r++[.back]) 5 (n+1+1) (ms1 o (di nums) b)=.ok ⟨[.int x],[],List.replicate o true,opens o,0,.ak⟩:=fin
 have c1:(List.replicate o true).length<lim:=by rw [List.length_replicate];exact Nat.lt_trans ho (by decide)
 have c2:o<=(List.replicate o true).length:=by rw [List.length_replicate];exact Nat.le_refl _
 have c3:(opens o).length<lim:=by rw [lo];exact Nat.lt_trans ho (by decide)
 obtain ⟨x',q,ql⟩:=DA (M0:=M) (most:=5) (k:=k) (p:=[]) (n:=1) ho CN fin' (by omega) (List.nil_append _).symm (.int x) (by decide) c1 c2 c3 (fun _=>vL) (fun _=>rfl)
 exact ⟨x',DG q (by simp [Mx.h]) (by omega),ql⟩
theorem xE (I:Inv o b nums t r h v true) (ho:o<1000) (ht:t<=1000):(aa ah (k+8)).call 29 [code (r++[.back]) b o, .lst (di nums)] M=.ok (.tup [.str (w "great"), .ak]) M:=by
 obtain ⟨n,hn,R⟩:=I.ex rfl [.back]
 have e:pY o b nums []=ms1 o (di nums) b:=rfl
 have fin:go (r++[.back]) 5 (n+0) (ms1 o (di nums) b)=.exc 1:=by rw [<- e];exact R 0
 have q:=HA (M0:=M) (most:=5) (k:=k) ho CN fin (by omega)
 exact HD (k:=k+7) q
end
end bR
end
section
namespace bR
open Fg PySem
section
variable {k:Nat} {Φ:aQ} {Z:Sg} {M M1 M2:MH} {e e':E} {x y:Bool} {ns:List Int}
theorem yx (h:ev Φ e Z M=.ok (.bl x) M) (h':x=false->ev Φ e' Z M=.ok (.bl y) M):ev Φ (.or e e') Z M=.ok (.bl (x||y)) M:=by
 rw [Jq,h,R.af]
 cases x with
 | true=>rfl
 | false=>exact h' rfl
theorem F8 (h:ev Φ e Z M=.ok (.bl x) M):ev Φ (.j3 .int e) Z M=.ok (.int (if x then 1 else 0)) M:=by rw [qV,h,R.af];rfl
noncomputable def Cq (n:Nat):List Int:=(List.range n).map fun (i:Nat)=>(i:Int)
theorem gM {n:Nat}:(Cq n).length=n:=by simp [Cq]
theorem l8 {n:Nat}:dI 0 (n:Int)=di (Cq n):=by simp [dI,di,Cq,Function.comp_def]
theorem gJ {elt:E} {f:Int->D} {i:Nat} {ch:MH->Bool} (hc:ch M=true):∀ (ks:List Int) (Z:Sg) (acc:List D),(∀ j∈ks,ev Φ elt (Z.set i (some (.int j))) M=.ok (f j) M)->acc.length+ks.length<=1000->bz (pB Φ .none) (ev Φ elt) [i] ch (di ks) Z M acc=.ok (acc++ks.map f) M
 | [],Z,acc,_,_=>by simp [bz]
 | j::ks,Z,acc,h,hl=>by
  simp only [List.length_cons] at hl
  rw [show di (j::ks)=.int j::di ks from rfl,xC (h j List.mem_cons_self) hc (Nat.lt_of_lt_of_le (by omega) (by decide:1001<=line)),gJ hc ks _ (acc++[f j]) (fun a ha=>by rw [List.set_set];exact h a (List.mem_cons_of_mem _ ha)) (by simp;omega)]
  simp
theorem ko {j:Nat} (h0:Z[0]? = some (some (.lst (di ns)))) (he:ev (aa ah (k+2)) e Z M=.ok (.int (j:Int)) M):ev (aa ah (k+2)) (.call 23 (.cons (.v 0) (.cons e .nil))) Z M=.ok (.int (cellAt ns j)) M:=by
 rw [c9,gZ (e_v h0) he,R.af];exact yM
noncomputable def Ai (x:Int):Rw:=if x % 3=0 then .back else if x % 3=1 then .drop else .J5
theorem DT {x:Int}:dU [D.tup [.str (w "back")], .tup [.str (w "drop")], .tup [.str (w "shut")]] (x % 3)=some (Ai x).d:=by
 have hr:x % 3=0\/x % 3=1\/x % 3=2:=by omega
 unfold Ai
 rcases hr with h | h | h <;> rw [h] <;> rfl
noncomputable def gf (ns:List Int):Nat:=if cellAt ns 0 / 3 % 8=3 then 6 else 0
noncomputable def oN (ns:List Int):Nat:=gf ns+(cellAt ns 0 % 3).toNat
noncomputable def pre (ns:List Int):List Rw:=(Cq (cellAt ns 1 % 4).toNat).map Ai
noncomputable def qN (ns:List Int):Nat:=gf ns+(cellAt ns 1 / 4 % 4).toNat
noncomputable def nums (ns:List Int):List Int:=(List.range (qN ns)).map fun i=>jN (cellAt ns (2+i))
theorem xq:gf ns<=6:=by unfold gf;split <;> omega
theorem Io:oN ns<=8:=by have:=xq (ns:=ns);unfold oN;omega
theorem Ah:(pre ns).length<=3:=by unfold pre;rw [List.length_map,gM];omega
theorem Ci:qN ns<=9:=by have:=xq (ns:=ns);unfold qN;omega
theorem w5:(nums ns).length<=9:=by unfold nums;rw [List.length_map,List.length_range];exact Ci
theorem AH:Ok (nums ns):=fun x hx=>by obtain ⟨i,_,rfl⟩:=List.mem_map.mp hx;exact sO _
noncomputable def eMo:E:=.op .mul true (.k (.int 6)) (.j3 .int (.cmp .eq (.op .mod true (.op .fdiv true (.call 23 (.cons (.v 0) (.cons (.k (.int 0)) .nil))) (.k (.int 3))) (.k (.int 8))) (.k (.int 3))))
noncomputable def eOu:E:=.op .add true (.v 1) (.op .mod true (.call 23 (.cons (.v 0) (.cons (.k (.int 0)) .nil))) (.k (.int 3)))
noncomputable def eRo:E:=.comp false [] [0] (.idx (.lst true (.cons (.tup (.cons (.k (.str (w "back"))) .nil)) (.cons (.tup (.cons (.k (.str (w "drop"))) .nil)) (.cons (.tup (.cons (.k (.str (w "shut"))) .nil)) .nil)))) (.op .mod true (.v 0) (.k (.int 3)))) (.eF (.op .mod true (.call 23 (.cons (.v 0) (.cons (.k (.int 1)) .nil))) (.k (.int 4)))) .none
noncomputable def eNu:E:=.comp true [0] [1] (.call 24 (.cons (.call 23 (.cons (.v 0) (.cons (.op .add true (.k (.int 2)) (.v 1)) .nil))) .nil)) (.eF (.op .add true (.v 1) (.op .mod true (.op .fdiv true (.call 23 (.cons (.v 0) (.cons (.k (.int 1)) .nil))) (.k (.int 4))) (.k (.int 4))))) .none
theorem v_mo (h0:Z[0]? = some (some (.lst (di ns)))):ev (aa ah (k+2)) eMo Z M=.ok (.int (gf ns:Int)) M:=by
 have e1:ev (aa ah (k+2)) (.call 23 (.cons (.v 0) (.cons (.k (.int 0)) .nil))) Z M=.ok (.int (cellAt ns 0)) M:=ko (j:=0) h0 rfl
 have e2:=F8 (pJ (n:=3) (dc (fz:=true) (kj (fz:=true) e1 (b:=3) (e':=.k (.int 3)) rfl (by decide) (by decide)) (b:=8) (e':=.k (.int 8)) rfl (by decide)))
 have e3:ev (aa ah (k+2)) eMo Z M=.ok (.int (6*(if decide (cellAt ns 0 / 3 % 8=3)=true then 1 else 0))) M:=by
  refine kh rfl e2 (by decide +kernel) ?_
  split <;> decide +kernel
 rw [e3]
 unfold gf
 by_cases h:cellAt ns 0 / 3 % 8=3
 ·simp [h]
 ·simp [h]
theorem v_ou (h0:Z[0]? = some (some (.lst (di ns)))) (h1:Z[1]? = some (some (.int (gf ns:Int)))):ev (aa ah (k+2)) eOu Z M=.ok (.int (oN ns:Int)) M:=by
 have e1:ev (aa ah (k+2)) (.call 23 (.cons (.v 0) (.cons (.k (.int 0)) .nil))) Z M=.ok (.int (cellAt ns 0)) M:=ko (j:=0) h0 rfl
 have e3:ev (aa ah (k+2)) eOu Z M=.ok (.int ((gf ns:Int)+cellAt ns 0 % 3)) M:=fK (e_v h1) (dc e1 rfl (by decide))
 rw [e3]
 have:((oN ns:Nat):Int)=(gf ns:Int)+cellAt ns 0 % 3:=by unfold oN;omega
 rw [this]
theorem v_ro (h0:Z[0]? = some (some (.lst (di ns)))):ev (aa ah (k+2)) eRo Z []=.ok (.ref 0) [.lst ((pre ns).map Rw.d)]:=by
 have e1:ev (aa ah (k+2)) (.call 23 (.cons (.v 0) (.cons (.k (.int 1)) .nil))) Z []=.ok (.int (cellAt ns 1)) []:=ko (j:=1) h0 rfl
 have e2:ev (aa ah (k+2)) (.op .mod true (.call 23 (.cons (.v 0) (.cons (.k (.int 1)) .nil))) (.k (.int 4))) Z []=.ok (.int (((cellAt ns 1 % 4).toNat:Nat):Int)) []:=by
  rw [Int.toNat_of_nonneg (by omega)];exact dc e1 rfl (by decide)
 have hi:=pG e2 (by omega)
 rw [l8] at hi
 refine (Ga hi (gJ (f:=fun j=>(Ai j).d) rfl _ _ [] (fun j _=>?_) (by rw [gM];simp;omega))).trans ?_
 ·exact ki (xs:=[.tup [.str (w "back")], .tup [.str (w "drop")], .tup [.str (w "shut")]]) rfl (dc rfl rfl (by decide)) DT
 ·rw [pre,List.map_map];rfl
theorem v_nu (h0:Z[0]? = some (some (.lst (di ns)))) (h1:Z[1]? = some (some (.int (gf ns:Int)))):ev (aa ah (k+2)) eNu Z M=.ok (.lst (di (nums ns))) M:=by
 have e1:ev (aa ah (k+2)) (.call 23 (.cons (.v 0) (.cons (.k (.int 1)) .nil))) Z M=.ok (.int (cellAt ns 1)) M:=ko (j:=1) h0 rfl
 have e2:ev (aa ah (k+2)) (.op .add true (.v 1) (.op .mod true (.op .fdiv true (.call 23 (.cons (.v 0) (.cons (.k (.int 1)) .nil))) (.k (.int 4))) (.k (.int 4)))) Z M=.ok (.int ((qN ns:Nat):Int)) M:=by
  have:((qN ns:Nat):Int)=(gf ns:Int)+cellAt ns 1 / 4 % 4:=by unfold qN;omega
  rw [this];exact fK (e_v h1) (dc (kj e1 rfl (by decide) (by decide)) rfl (by decide))
 have hq:=Ci (ns:=ns)
 have hi:=pG e2 (by omega)
 rw [l8] at hi
 have ec:iM Z [0]++List.replicate [1].length none=[some (.lst (di ns)),none]:=by simp [iM,h0]
 refine (jm hi (gJ (f:=fun j=>.int (jN (cellAt ns (2+j.toNat)))) rfl _ _ [] (fun j hj=>?_) (by rw [gM];simp;omega))).trans ?_
 ·obtain ⟨i,_,rfl⟩:=List.mem_map.mp hj
  rw [ec]
  have e3:ev (aa ah (k+2)) (.op .add true (.k (.int 2)) (.v 1)) [some (.lst (di ns)),some (.int (i:Int))] M=.ok (.int ((2+i:Nat):Int)) M:=by
   have:((2+i:Nat):Int)=2+(i:Int):=by omega
   rw [this];exact fK rfl rfl
  have z:=vg (ns:=ns) (i:=2+i)
  exact (ez (ko (j:=2+i) rfl e3)).trans (yL z.1 z.2)
 ·rw [List.nil_append,nums,Cq,List.map_map,di,List.map_map]
  congr 2
theorem v_cs {n m:Nat} (h0:Z[0]? = some (some (.lst (di ns)))):bQ Φ (.e (.sl true (.v 0) (.some (.k (.int 5))) (.some (.k (.int 45))))) Z M=.ok (.lst (di (eU ns (some 5) (some 45))),di (eU ns (some 5) (some 45)),false) M:=by
 have e1:ev Φ (.sl true (.v 0) (.some (.k (.int 5))) (.some (.k (.int 45)))) Z M=.ok (.lst (di (eU ns (some 5) (some 45)))) M:=by
  rw [Jp,e_v h0,R.af,yo,mW,R.af]
  show R.ok (D.lst (eU (di ns) (some 5) (some 45))) M=_
  congr 2
  simp only [eU,di,List.length_map,List.map_take,List.map_drop]
 rw [CG,e1];rfl
end
end bR
end
section
namespace bR
open Fg PySem
section
variable {k:Nat} {Φ:aQ} {Z:Sg} {M M1 M2:MH} {e e':E} {ns:List Int} {o b t:Nat} {nu h v:List Int} {r:List Rw} {g:Bool}
theorem Bt {ds:List D} {n:Nat} (he:ev Φ e Z M=.ok (.ref n) M) (hv:M[n]? = some (.lst ds)):ev Φ (.blt .list true (.cons e .nil)) Z M=.ok (.lst ds) M:=by
 rw [mZ,evs1 he,R.af]
 simp only [pR,vw,hv];rfl
theorem rj {n:Nat} {ds:List D}:deep (n+1) M (.tup ds)=.tup (ds.map (deep n M)):=rfl
theorem rq {n r:Nat} {ds:List D} (h:M[r]? = some (.lst ds)) (hp:au ds=true):deep (n+1) M (.ref r)=.lst ds:=by
 have e:deep (n+1) M (.ref r)=.lst (ds.map (deep n M)):=by simp only [deep,h]
 rw [e,gI fun d hd=>bU n d (dZ hp d hd)]
theorem rA {n:Nat} {i:Int}:deep n M (.int i)=.int i:=bU n _ (by simp [Fg.plain])
theorem Ge {n:Nat} {i:Str}:deep n M (.str i)=.str i:=bU n _ (by simp [Fg.plain])
theorem AJ {ds:List D} (h0:M[0]? = some (.lst ds)) (hp:au ds=true) (hd:deps ds<=2) {i j:Int}:bh .ne M (.tup [.lst ds,.int i,.int j]) (.tup [.ref 0,.int i,.int j])=.ok (.bl false) M:=by
 have hP:Fg.plain (.tup [.lst ds,.int i,.int j])=true:=by simp only [Fg.plain,au,hp,Bool.and_self]
 rw [Iv rfl (by simp [aV,top,Fg.plain,au]) rfl]
 refine qX (d:=.tup [.lst ds,.int i,.int j]) (bU 5 _ hP) ?_ hP ?_
 ·simp only [rj,List.map_cons,List.map_nil,rq h0 hp,rA]
 ·simp only [dep,deps];omega
theorem uW {a:Nat}:au (opens o++bA o)=true/\deps (opens o++bA o)<=1:=by
 have h:∀ d∈opens o++bA o,Fg.plain d=true/\dep d<=1:=fun d hd=>by
  rcases List.mem_append.mp hd with hd | hd
  ·obtain ⟨i,_,rfl⟩:=List.mem_map.mp hd
   simp [Fg.plain,au,dep,deps]
  ·obtain ⟨i,_,rfl⟩:=List.mem_map.mp hd
   simp [Fg.plain,au,dep,deps]
 exact ⟨fN fun d hd=>(h d hd).1,jo fun d hd=>(h d hd).2⟩
theorem xh {ds:List D} {q:Nat} (h0:M[q]? = some (.lst ds)) (hp:au ds=true) (hd:deps ds<=2) {i:Int}:bh .ne M (.tup [.int i,.ref q]) (.tup [.int i,.lst ds])=.ok (.bl false) M:=by
 have hP:Fg.plain (.tup [.int i,.lst ds])=true:=by simp only [Fg.plain,au,hp,Bool.and_self]
 rw [Iv rfl (by simp [aV,top,Fg.plain,au]) rfl]
 refine qX (d:=.tup [.int i,.lst ds]) ?_ (bU 5 _ hP) hP ?_
 ·simp only [rj,List.map_cons,List.map_nil,rq h0 hp,rA]
 ·simp only [dep,deps];omega
theorem yv {ds:List D} {q:Nat} {s:Str} (h0:M[q]? = some (.lst ds)) (hp:au ds=true) (hd:deps ds<=2) {i:Int}:bh .eq M (.tup [.str s,.tup [.int i,.ref q]]) (.tup [.str s,.tup [.int i,.lst ds]])=.ok (.bl true) M:=by
 have hP:Fg.plain (.tup [.str s,.tup [.int i,.lst ds]])=true:=by simp only [Fg.plain,au,hp,Bool.and_self]
 rw [eq_x rfl (by simp [aV,top,Fg.plain,au]) rfl]
 refine qX (neg:=false) (d:=.tup [.str s,.tup [.int i,.lst ds]]) ?_ (bU 5 _ hP) hP ?_
 ·simp only [rj,List.map_cons,List.map_nil,rq h0 hp,rA,Ge]
 ·simp only [dep,deps];omega
theorem mend (ho:o<1000) (ht:t<1000) (I:Inv o b nu t r h v g) (hl:g=false->v.length<=1) (h3:Z[3]? = some (some (.ref 0))) (h7:Z[7]? = some (some (.ref 2))):∃ r' v',Inv o b nu (t+1) r' h v' g/\(g=false->∃ x,v'=[x]) /\
  ex Φ (.ifs (.cmp .eq (.blt .len true (.cons (.v 7) .nil)) (.k (.int 0))) (.cons (.ex (.aK .append true (.v 3) (.cons (.tup (.cons (.k (.str (w "number"))) (.cons (.k (.int 0)) .nil))) .nil))) (.cons (.ex (.aK .append true (.v 7) (.cons (.k (.int 0)) .nil))) .nil)) .nil) Z (MM r h v)=.ok (.nx Z) (MM r' h v'):=by
 have e0:ev Φ (.cmp .eq (.blt .len true (.cons (.v 7) .nil)) (.k (.int 0))) Z (MM r h v)=.ok (.bl (decide ((v.length:Int)=0))) (MM r h v):=pJ (oQ h7)
 have l1:=I.lr
 have l3:=I.lv
 cases v with
 | nil =>
  have a1:=ic (Φ:=Φ) (r:=r) (h:=h) (v:=[]) (Z:=Z) (i:=3) (a:=.num 0) (e:=.tup (.cons (.k (.str (w "number"))) (.cons (.k (.int 0)) .nil))) h3 rfl (by omega)
  have a2:=vt (Φ:=Φ) (r:=r++[.num 0]) (h:=h) (v:=[]) (Z:=Z) (i:=7) (x:=0) (e:=.k (.int 0)) h7 rfl (by simp)
  refine ⟨r++[.num 0],[0],?_,fun _=>⟨0,rfl⟩,?_⟩
  rotate_left
  ·rw [j6,e0,R.fh]
   exact (aL a1).trans ((aL a2).trans rfl)
  cases g with
  | false =>
   have J:=I.step ho (by omega) (.num (x:=0) (bu (by decide))) (by simp)
   rw [List.nil_append,kC.mpr (Ok.one (bu (by decide:(0:Int).natAbs<1000000)))] at J
   exact J
  | true =>
   refine ⟨by simp;omega,Nat.le_trans I.lh (by omega),by simp,(fun z=>by cases z),fun _ kH=>?_⟩
   obtain ⟨n,hn,R⟩:=I.ex rfl ([.num 0]++kH)
   rw [<- List.append_assoc] at R
   exact ⟨n,by omega,R⟩
 | cons x v =>
  have hz:¬ (((x::v).length:Nat):Int)=0:=by simp only [List.length_cons];omega
  rw [decide_eq_false hz] at e0
  refine ⟨r,x::v,I.more (by omega),fun hg=>⟨x,?_⟩,by rw [j6,e0,R.fh];rfl⟩
  have:=hl hg
  cases v with
  | nil=>rfl
  | cons y v=>simp at this
noncomputable def eDu:E:=.op .add true (.comp true [] [0] (.tup (.cons (.k (.str (w "open"))) (.cons (.v 0) .nil))) (.eF (.v 2)) .none) (.comp true [2] [1] (.tup (.cons (.k (.str (w "shut"))) (.cons (.op .sub true (.op .sub true (.v 0) (.k (.int 1))) (.v 1)) .nil))) (.eF (.v 2)) .none)
theorem uI:∀ n:Nat,(List.range n).map (fun i=>n-1-i)=(List.range n).reverse:=fun n=>by
 apply List.ext_getElem
 ·simp
 ·intro i h1 h2
  simp
theorem v_du (h2:Z[2]? = some (some (.int (o:Int)))) (ho:o<500):ev Φ eDu Z M=.ok (.lst (opens o++bA o)) M:=by
 have hi:=pG (Φ:=Φ) (Z:=Z) (M:=M) (e:=.v 2) (n:=o) (M1:=M) (e_v h2) (by omega)
 rw [l8] at hi
 have e1:ev Φ (.comp true [] [0] (.tup (.cons (.k (.str (w "open"))) (.cons (.v 0) .nil))) (.eF (.v 2)) .none) Z M=.ok (.lst (opens o)) M:=by
  refine (jm hi (gJ (f:=fun j=>.tup [.str (w "open"), .int j]) rfl _ _ [] (fun j _=>rfl) (by rw [gM];simp;omega))).trans ?_
  rw [List.nil_append,Cq,List.map_map,opens];rfl
 have ec:iM Z [2]++List.replicate [1].length none=[some (.int (o:Int)),none]:=by simp [iM,h2]
 have e2:ev Φ (.comp true [2] [1] (.tup (.cons (.k (.str (w "shut"))) (.cons (.op .sub true (.op .sub true (.v 0) (.k (.int 1))) (.v 1)) .nil))) (.eF (.v 2)) .none) Z M=.ok (.lst (bA o)) M:=by
  refine (jm hi (gJ (f:=fun j=>.tup [.str (w "shut"), .int ((o:Int)-1-j)]) rfl _ _ [] (fun j _=>?_) (by rw [gM];simp;omega))).trans ?_
  ·rw [ec]
   have e3:ev Φ (.op .sub true (.op .sub true (.v 0) (.k (.int 1))) (.v 1)) [some (.int (o:Int)),some (.int j)] M=.ok (.int ((o:Int)-1-j)) M:=pF (pF rfl rfl) rfl
   show ev Φ (.tup (.cons (.k (.str (w "shut"))) (.cons (.op .sub true (.op .sub true (.v 0) (.k (.int 1))) (.v 1)) .nil))) [some (.int (o:Int)), some (.int j)] M=_
   rw [cT, gZ (x:=.str (w "shut")) (M1:=M) rfl e3];rfl
  ·rw [List.nil_append,Cq,List.map_map,bA,<- uI,List.map_map]
   congr 2
   apply List.map_congr_left
   intro i hi'
   have:=List.mem_range.mp hi'
   simp only [Function.comp]
   have:(o:Int)-1-(i:Int)=((o-1-i:Nat):Int):=by omega
   rw [this]
 rw [eDu,j8,e1,R.af,e2,R.af]
 have:(opens o).length+(bA o).length<=line:=Nat.le_trans (by simp [opens,bA];omega) (by decide:1000<=line)
 simp [uR,vw,this,bY]
end
theorem xD {k:Nat} (ns:List Int) (hns:ns.length<=63):∃ M',(aa ah (k+9)).call 30 [.lst (ns.map .int)] []=.ok (.bl true) M':=by
 have hO:=Io (ns:=ns)
 have hP:=Ah (ns:=ns)
 have hN:=w5 (ns:=ns)
 have s1:=v_mo (k:=k+6) (ns:=ns) (M:=[]) (Z:=[some (.lst (di ns)),none,none,none,none,none,none,none,none,none,none,none,none,none,none]) rfl
 have s2:=v_ou (k:=k+6) (ns:=ns) (M:=[]) (Z:=[some (.lst (di ns)),some (.int (gf ns:Int)),none,none,none,none,none,none,none,none,none,none,none,none,none]) rfl rfl
 have s3:=v_ro (k:=k+6) (ns:=ns) (Z:=[some (.lst (di ns)),some (.int (gf ns:Int)),some (.int (oN ns:Int)),none,none,none,none,none,none,none,none,none,none,none,none]) rfl
 have s4:ev (aa ah (k+8)) (.blt .len true (.cons (.v 3) .nil)) [some (.lst (di ns)),some (.int (gf ns:Int)),some (.int (oN ns:Int)),some (.ref 0),none,none,none,none,none,none,none,none,none,none,none] [.lst ((pre ns).map Rw.d)]=.ok (.int ((pre ns).length:Int)) [.lst ((pre ns).map Rw.d)]:=by
  rw [e_len (xs:=(pre ns).map Rw.d) (e_v rfl) rfl,List.length_map]
 have s5:=v_nu (k:=k+6) (ns:=ns) (M:=[.lst ((pre ns).map Rw.d)]) (Z:=[some (.lst (di ns)),some (.int (gf ns:Int)),some (.int (oN ns:Int)),some (.ref 0),some (.int ((pre ns).length:Int)),none,none,none,none,none,none,none,none,none,none]) rfl rfl
 have s6:ev (aa ah (k+8)) (.blt .list false (.cons (.v 5) .nil)) [some (.lst (di ns)),some (.int (gf ns:Int)),some (.int (oN ns:Int)),some (.ref 0),some (.int ((pre ns).length:Int)),some (.lst (di (nums ns))),none,none,none,none,none,none,none,none,none] [.lst ((pre ns).map Rw.d)]=.ok (.ref 1) [.lst ((pre ns).map Rw.d),.lst (di (nums ns))]:=rfl
 have I0:Inv (oN ns) (pre ns).length (nums ns) 0 (pre ns) (nums ns) [] false:=⟨by omega,by omega,by simp,fun _=>⟨AH,(fun x hx=>by cases hx),fun kH=>⟨0,by omega,nA.refl⟩⟩,fun z=>by cases z⟩
 have hcs:(eU ns (some 5) (some 45)).length<=63:=by simp only [eU,List.length_take,List.length_drop];omega
 obtain ⟨r1,h1,v1,g1,c1,I1,l1⟩:=yg (k:=k+4) (s0:=some (.lst (di ns))) (s1:=some (.int (gf ns:Int))) (s2:=some (.int (oN ns:Int))) (s4:=some (.int ((pre ns).length:Int))) (s5:=some (.lst (di (nums ns)))) (rest:=[none,none,none,none,none]) (ch:=aO (MM (pre ns) (nums ns) []) (.lst (di (eU ns (some 5) (some 45))))) (fun _=>rfl) (by omega) (eU ns (some 5) (some 45)) 0 (pre ns) (nums ns) [] false none (by omega) I0
 have sF:=fun ss=>B7 (Φ:=aa ah (k+8)) (b:=fB) (ss:=ss) (v_cs (n:=0) (m:=0) (ns:=ns) (M:=MM (pre ns) (nums ns) []) (Z:=sg (some (.lst (di ns))) (some (.int (gf ns:Int))) (some (.int (oN ns:Int))) (some (.int ((pre ns).length:Int))) (some (.lst (di (nums ns)))) false none [none,none,none,none,none]) rfl) l1
 have lv1:=I1.lv
 obtain ⟨r2,v2,g2,I2,hl2,l2⟩:=CZ (k:=k+4) (h:=h1) (s0:=some (.lst (di ns))) (s1:=some (.int (gf ns:Int))) (s2:=some (.int (oN ns:Int))) (s4:=some (.int ((pre ns).length:Int))) (s5:=some (.lst (di (nums ns)))) (c:=c1) (rest:=[none,none,none,none,none]) (by omega) v1.length 100000 (0+(eU ns (some 5) (some 45)).length) r1 v1 g1 (Nat.le_refl _) (by omega) (by omega) I1
 have sW:ex (aa ah (k+8)) (.while wE wB) (sg (some (.lst (di ns))) (some (.int (gf ns:Int))) (some (.int (oN ns:Int))) (some (.int ((pre ns).length:Int))) (some (.lst (di (nums ns)))) g1 c1 [none,none,none,none,none]) (MM r1 h1 v1)=.ok (.nx (sg (some (.lst (di ns))) (some (.int (gf ns:Int))) (some (.int (oN ns:Int))) (some (.int ((pre ns).length:Int))) (some (.lst (di (nums ns)))) g2 c1 [none,none,none,none,none])) (MM r2 h1 v2):=by
  rw [gY,dh];exact l2
 obtain ⟨r3,v3,I3,hx3,l3⟩:=mend (Φ:=aa ah (k+8)) (Z:=sg (some (.lst (di ns))) (some (.int (gf ns:Int))) (some (.int (oN ns:Int))) (some (.int ((pre ns).length:Int))) (some (.lst (di (nums ns)))) g2 c1 [none,none,none,none,none]) (by omega) (by omega) I2 hl2 rfl rfl
 have lr3:=I3.lr
 have sB:=ic (Φ:=aa ah (k+8)) (r:=r3) (h:=h1) (v:=v3) (Z:=sg (some (.lst (di ns))) (some (.int (gf ns:Int))) (some (.int (oN ns:Int))) (some (.int ((pre ns).length:Int))) (some (.lst (di (nums ns)))) g2 c1 [none, none, none, none, none]) (i:=3) (a:=.back) (e:=.tup (.cons (.k (.str (w "back"))) .nil)) rfl rfl (by omega)
 have sC:ev (aa ah (k+8)) (.tup (.cons (.blt .list true (.cons (.v 3) .nil)) (.cons (.v 4) (.cons (.v 2) .nil)))) (sg (some (.lst (di ns))) (some (.int (gf ns:Int))) (some (.int (oN ns:Int))) (some (.int ((pre ns).length:Int))) (some (.lst (di (nums ns)))) g2 c1 [none,none,none,none,none]) (MM (r3++[.back]) h1 v3)=.ok (code (r3++[.back]) (pre ns).length (oN ns)) (MM (r3++[.back]) h1 v3):=by
  rw [cT,aD,Bt (ds:=(r3++[Rw.back]).map Rw.d) (n:=0) rfl rfl];rfl
 have hw:=uG (r:=r3++[Rw.back])
 have ca:∀ {M:MH} {s12 s13:Option D},M[0]? = some (.lst ((r3++[Rw.back]).map Rw.d))->ev (aa ah (k+8)) (.or (.cmp .ne (.v 10) (.tup (.cons (.v 3) (.cons (.v 4) (.cons (.v 2) .nil))))) (.cmp .ne (.v 11) (.v 5))) (sg (some (.lst (di ns))) (some (.int (gf ns:Int))) (some (.int (oN ns:Int))) (some (.int ((pre ns).length:Int))) (some (.lst (di (nums ns)))) g2 c1 [some (code (r3++[.back]) (pre ns).length (oN ns)),some (.lst (di (nums ns))),s12,s13,none]) M=.ok (.bl false) M:=fun {M s12 s13} hM =>
  yx (x:=false) (y:=false) (AJ hM hw.1 hw.2) fun _=>EA (qK (f:=fun i=>i)) (Nat.le_trans (xX (f:=fun i=>i)) (by decide))
 cases g2 with
 | true =>
  have q:=xE (k:=k) (M:=MM (r3++[.back]) h1 v3) I3 (by omega) (by omega)
  have sU:ex (aa ah (k+8)) (.BS [12, 13] (.call 29 (.cons (.v 10) (.cons (.v 11) .nil)))) (sg (some (.lst (di ns))) (some (.int (gf ns:Int))) (some (.int (oN ns:Int))) (some (.int ((pre ns).length:Int))) (some (.lst (di (nums ns)))) true c1 [some (code (r3++[.back]) (pre ns).length (oN ns)), some (.lst (di (nums ns))), none, none, none]) (MM (r3++[.back]) h1 v3)=.ok (.nx (sg (some (.lst (di ns))) (some (.int (gf ns:Int))) (some (.int (oN ns:Int))) (some (.int ((pre ns).length:Int))) (some (.lst (di (nums ns)))) true c1 [some (code (r3++[.back]) (pre ns).length (oN ns)), some (.lst (di (nums ns))), some (.str (w "great")), some .ak, none])) (MM (r3++[.back]) h1 v3):=by
   rw [yj,c9,gZ (x:=code (r3++[.back]) (pre ns).length (oN ns)) (y:=.lst (di (nums ns))) (M1:=MM (r3++[.back]) h1 v3) (M2:=MM (r3++[.back]) h1 v3) rfl rfl,R.af,q];rfl
  have sE:ev (aa ah (k+8)) (.cmp .eq (.v 12) (.k (.str (w "great")))) (sg (some (.lst (di ns))) (some (.int (gf ns:Int))) (some (.int (oN ns:Int))) (some (.int ((pre ns).length:Int))) (some (.lst (di (nums ns)))) true c1 [some (code (r3++[.back]) (pre ns).length (oN ns)), some (.lst (di (nums ns))), some (.str (w "great")), some .ak, none]) (MM (r3++[.back]) h1 v3)=.ok (.bl true) (MM (r3++[.back]) h1 v3):=(tS rfl).trans (by rw [decide_eq_true rfl])
  exact ⟨[],bC Jc rfl ((aq s1).trans ((aq s2).trans ((aq s3).trans ((aq s4).trans ((aq s5).trans ((aq s6).trans ((aq rfl).trans ((aq rfl).trans ((sF _).trans ((bT sW).trans ((bT l3).trans ((aL sB).trans ((aq sC).trans ((aq rfl).trans ((bT sU).trans ((bq (ca rfl)).trans (iQ rfl (bL sE)))))))))))))))))) (jD rfl rfl)⟩
 | false =>
  obtain ⟨x,rfl⟩:=hx3 rfl
  obtain ⟨x1,q1,ql1⟩:=sY (k:=k) (M:=MM (r3++[.back]) h1 [x]) I3 (by omega) (by omega)
  have lg:=uW (o:=oN ns) (a:=0)
  have m0:(x1.h (MM (r3++[.back]) h1 [x]))[0]? = some (.lst ((r3++[Rw.back]).map Rw.d)):=rfl
  have m2:(x1.h (MM (r3++[.back]) h1 [x]))[2]? = some (.lst (di [x])):=rfl
  have m7:(x1.h (MM (r3++[.back]) h1 [x]))[7]? = some (.lst (opens (oN ns)++bA (oN ns))):=by rw [<- ql1];rfl
  generalize hM1:x1.h (MM (r3++[.back]) h1 [x])=M1 at q1 m0 m2 m7
  have sU:ex (aa ah (k+8)) (.BS [12, 13] (.call 29 (.cons (.v 10) (.cons (.v 11) .nil)))) (sg (some (.lst (di ns))) (some (.int (gf ns:Int))) (some (.int (oN ns:Int))) (some (.int ((pre ns).length:Int))) (some (.lst (di (nums ns)))) false c1 [some (code (r3++[.back]) (pre ns).length (oN ns)), some (.lst (di (nums ns))), none, none, none]) (MM (r3++[.back]) h1 [x])=.ok (.nx (sg (some (.lst (di ns))) (some (.int (gf ns:Int))) (some (.int (oN ns:Int))) (some (.int ((pre ns).length:Int))) (some (.lst (di (nums ns)))) false c1 [some (code (r3++[.back]) (pre ns).length (oN ns)), some (.lst (di (nums ns))), some (.str (w "")), some (.tup [.int x, .ref 7]), none])) M1:=by
   rw [yj,c9,gZ (x:=code (r3++[.back]) (pre ns).length (oN ns)) (y:=.lst (di (nums ns))) (M1:=MM (r3++[.back]) h1 [x]) (M2:=MM (r3++[.back]) h1 [x]) rfl rfl,R.af,q1];rfl
  let Z7:Sg:=sg (some (.lst (di ns))) (some (.int (gf ns:Int))) (some (.int (oN ns:Int))) (some (.int ((pre ns).length:Int))) (some (.lst (di (nums ns)))) false c1 [some (code (r3++[.back]) (pre ns).length (oN ns)), some (.lst (di (nums ns))), some (.str (w "")), some (.tup [.int x, .ref 7]), some (.lst (opens (oN ns)++bA (oN ns)))]
  have sD:=v_du (Φ:=aa ah (k+8)) (Z:=sg (some (.lst (di ns))) (some (.int (gf ns:Int))) (some (.int (oN ns:Int))) (some (.int ((pre ns).length:Int))) (some (.lst (di (nums ns)))) false c1 [some (code (r3++[.back]) (pre ns).length (oN ns)), some (.lst (di (nums ns))), some (.str (w "")), some (.tup [.int x, .ref 7]), none]) (M:=M1) (o:=oN ns) rfl (by omega)
  have v0:∀ {M:MH},M[2]? = some (.lst (di [x]))->ev (aa ah (k+8)) (.idx (.v 7) (.k (.int 0))) Z7 M=.ok (.int x) M:=fun hM=>pH (n:=2) (xs:=di [x]) rfl rfl hM cU
  have e12:ev (aa ah (k+8)) (.cmp .ne (.v 12) (.k (.str (w "")))) Z7 M1=.ok (.bl false) M1:=by
   rw [cz]
   show bh .ne M1 (.str (w "")) (.str (w ""))=_
   simp [bh,ug,sR,top,aV,Fg.plain,dep]
  have e13:ev (aa ah (k+8)) (.not (.lD (.v 13) .tuple)) Z7 M1=.ok (.bl false) M1:=rfl
  have e14:ev (aa ah (k+8)) (.cmp .ne (.v 13) (.tup (.cons (.idx (.v 7) (.k (.int 0))) (.cons (.v 14) .nil)))) Z7 M1=.ok (.bl false) M1:=by
   rw [cz,e_v (d:=.tup [.int x,.ref 7]) rfl,R.af,cT,gZ (y:=.lst (opens (oN ns)++bA (oN ns))) (v0 m2) rfl,R.af,R.af]
   exact xh m7 lg.1 (Nat.le_trans lg.2 (by decide))
  have i0:∀ {n:Int} {d:D},dU [D.int x,.ref 7] n=some d->ev (aa ah (k+8)) (.idx (.v 13) (.k (.int n))) Z7 M1=.ok d M1:=fun h=>bP rfl rfl h
  have e15:ev (aa ah (k+8)) (.not (.lD (.idx (.v 13) (.k (.int 0))) .int)) Z7 M1=.ok (.bl false) M1:=by
   rw [mV,qU,i0 cU];rfl
  have e16:ev (aa ah (k+8)) (.lD (.idx (.v 13) (.k (.int 0))) .bool) Z7 M1=.ok (.bl false) M1:=by
   rw [qU,i0 cU];rfl
  have e17:ev (aa ah (k+8)) (.not (.lD (.idx (.v 13) (.k (.int 1))) .list)) Z7 M1=.ok (.bl false) M1:=by
   rw [mV,qU,i0 kB,R.af]
   simp [vC,Fy,m7]
  have sA:ev (aa ah (k+8)) (.aK .append true (.idx (.v 13) (.k (.int 1))) (.cons (.k (.int 0)) .nil)) Z7 M1=.ok .ak (M1.set 7 (.lst (opens (oN ns)++bA (oN ns)++[.int 0]))):=kq (i0 kB) m7 rfl m7 (Nat.lt_of_le_of_lt (by simp [opens,bA];omega:(opens (oN ns)++bA (oN ns)).length<=1000) (by decide))
  have m2':(M1.set 7 (.lst (opens (oN ns)++bA (oN ns)++[.int 0])))[2]? = some (.lst (di [x])):=by rw [List.getElem?_set_ne (by decide)];exact m2
  generalize M1.set 7 (.lst (opens (oN ns)++bA (oN ns)++[.int 0]))=M2 at sA m2'
  obtain ⟨x2,q2,ql2⟩:=sY (k:=k) (M:=M2) I3 (by omega) (by omega)
  have n7:(x2.h M2)[M2.length+4]? = some (.lst (opens (oN ns)++bA (oN ns))):=by rw [<- ql2];exact g4
  have n2:(x2.h M2)[2]? = some (.lst (di [x])):=by
   have:2<M2.length:=(List.getElem?_eq_some_iff.mp m2').1
   show (M2++_)[2]? = _
   rw [List.getElem?_append_left this];exact m2'
  have sE:ev (aa ah (k+8)) (.cmp .eq (.call 29 (.cons (.v 10) (.cons (.v 11) .nil))) (.tup (.cons (.k (.str (w ""))) (.cons (.tup (.cons (.idx (.v 7) (.k (.int 0))) (.cons (.v 14) .nil))) .nil)))) Z7 M2=.ok (.bl true) (x2.h M2):=by
   rw [cz, c9, gZ (x:=code (r3++[.back]) (pre ns).length (oN ns)) (y:=.lst (di (nums ns))) (M1:=M2) (M2:=M2) rfl rfl, R.af, q2, R.af, cT, gZ (x:=.str (w "")) (y:=.tup [.int x, .lst (opens (oN ns)++bA (oN ns))]) (M1:=x2.h M2) (M2:=x2.h M2) rfl (by rw [cT, gZ (y:=.lst (opens (oN ns)++bA (oN ns))) (v0 n2) rfl];rfl), R.af, R.af]
   exact yv n7 lg.1 (Nat.le_trans lg.2 (by decide))
  exact ⟨[],bC Jc rfl ((aq s1).trans ((aq s2).trans ((aq s3).trans ((aq s4).trans ((aq s5).trans ((aq s6).trans ((aq rfl).trans ((aq rfl).trans ((sF _).trans ((bT sW).trans ((bT l3).trans ((aL sB).trans ((aq sC).trans ((aq rfl).trans ((bT sU).trans ((bq (ca m0)).trans ((bq rfl).trans ((aq sD).trans ((bq (yx e12 fun _=>yx e13 fun _=>e14)).trans ((bq (yx e15 fun _=>yx e16 fun _=>e17)).trans ((aL sA).trans (bL sE)))))))))))))))))))))) (jD rfl rfl)⟩
end bR
end
section
namespace bR
open Fg PySem PySem.Spec L2
theorem GZ:tb.ok tb.gm ah=true:=by decide +kernel
theorem JD {d:DefRec} (hd:d.params.defaults=[]) (hx:d.name=("law" : Str)) {XP:(Str->Option Value)->Heap->Prop}:W.WalkO Ku hdL XP (tb.hook ah).says PySem.Challenge.rw_fieldgate_k41_rows_of_numbers.row.toRowW d [] (fun f vs=>PySem.call f vs) :=
 tb.walk ah (l:=PySem.Challenge.rw_fieldgate_k41_rows_of_numbers) (r:=tb.fn[16]'(by decide)) (x:="_law_script") 8 rfl hd ⟨rfl, by decide, by decide⟩ GZ (List.getElem_mem _) hx rfl rfl fun ns h=>xD (k:=0) ns h
end bR
end
section
open PySem PySem.W PyProof.Rows
set_option maxRecDepth 100000 in
set_option maxHeartbeats 0 in
theorem PySem.Challenge.cw_fieldgate_k41_rows_of_numbers_holds : PySem.Challenge.rw_fieldgate_k41_rows_of_numbers.Holds := by
 w_on
 refine holds_law (by decide +kernel) fun said => ?_
 refine holds_open (XP := XL bR.Ku []) bR.lft (bR.tb.hook bR.ah).of (bR.tb.hook bR.ah).keeps
  (fun s e => xl_of s (Bool.and_eq_true_iff.mp e).1) XL.keeps (by rfl) (by rfl) (by rfl)
  (fun s e => recFacts_of (Bool.and_eq_true_iff.mp e).2) (by rfl) said (by decide +kernel)
  ⟨rfl,rfl,rfl,rfl,rfl,by decide +kernel⟩ ?hw (bR.JD rfl rfl)
 w_witness2
end
