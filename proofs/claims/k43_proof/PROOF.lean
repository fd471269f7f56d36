import PyProof.Rows.All
import Wide.All
import OpenK.AllK
import Wide.FinOn
import Lean
import PyProof.EqAt
import PyProof.EqKinds
import PyProof.TupleCall
import PyProof.NeKinds
import PyProof.CompFree
import PyProof.ListRange
import PyProof.Rows.FStr
import PyProof.ConsumeWalk
import PyProof.ZipIter
import PyProof.TableCode
import PySem.Challenge.RW_fieldgate_k43_calls_of_rows
set_option maxRecDepth 100000
set_option linter.all false
set_option Elab.async false
section
namespace L2
open PySem
noncomputable def inClass (s:Stmt) (j:Nat):Stmt:=match s with
 | .ClassDef _ _ _ body _ _ _ _ _ _ _=>body.getD j (.Pass ⟨0,0,0,0⟩)
 | _=>.Pass ⟨0,0,0,0⟩
noncomputable def iX (s:Stmt):Arguments:=match s with
 | .FunctionDef _ a _ _ _ _ _ _ _ _=>a
 | _=>{ posonlyargs:=[],args:=[],vararg:=none,kwonlyargs:=[],kw_defaults:=[],kwarg:=none,defaults:=[] }
noncomputable def cg (s:Stmt):List Stmt:=match s with
 | .FunctionDef _ _ b _ _ _ _ _ _ _=>b
 | _=>[]
noncomputable def aF (s:Stmt):Scope:=match s with
 | .FunctionDef _ _ _ _ _ _ sc _ _ _=>sc
 | _=>{ kind:=.function,names:=[],isGenerator:=false,isCoroutine:=false }
end L2
end
section
namespace Fg
open PySem
abbrev Ky:=Sum Int Str
inductive D where
 | aq
 | bl (b:Bool)
 | int (i:Int)
 | str (x:Str)
 | tup (ds:List D)
 | lst (ds:List D)
 | dct (ks:List Ky) (ds:List D)
 | ref (n:Nat)
mutual
def same (a b:D):Bool:=match a with
 | .aq=>match b with | .aq=>true | _=>false
 | .bl x=>match b with | .bl y=>decide (x=y) | _=>false
 | .int x=>match b with | .int y=>decide (x=y) | _=>false
 | .str x=>match b with | .str y=>decide (x=y) | _=>false
 | .tup x=>match b with | .tup y=>gh x y | _=>false
 | .lst x=>match b with | .lst y=>gh x y | _=>false
 | .dct k x=>match b with | .dct l y=>decide (k=l)&&gh x y | _=>false
 | .ref x=>match b with | .ref y=>decide (x=y) | _=>false
def gh (a b:List D):Bool:=match a with
 | []=>match b with | []=>true | _=>false
 | x::xs=>match b with | y::ys=>same x y&&gh xs ys | _=>false
end
mutual
theorem t9:∀ (a b:D),same a b=true->a=b
 | .aq,b,h=>by cases b <;> simp [same] at h ⊢
 | .bl x,b,h=>by cases b <;> simp [same] at h ⊢;exact h
 | .int x,b,h=>by cases b <;> simp [same] at h ⊢;exact h
 | .str x,b,h=>by cases b <;> simp [same] at h ⊢;exact h
 | .tup x,b,h=>by cases b <;> simp [same] at h ⊢;exact iJ _ _ h
 | .lst x,b,h=>by cases b <;> simp [same] at h ⊢;exact iJ _ _ h
 | .dct k x,b,h=>by cases b <;> simp [same] at h ⊢;exact ⟨h.1,iJ _ _ h.2⟩
 | .ref x,b,h=>by cases b <;> simp [same] at h ⊢;exact h
theorem iJ:∀ (a b:List D),gh a b=true->a=b
 | [],b,h=>by cases b <;> simp [gh] at h ⊢
 | x::xs,b,h=>by
  cases b with
  | nil=>simp [gh] at h
  | cons y ys=>simp only [gh,Bool.and_eq_true] at h;rw [t9 x y h.1,iJ xs ys h.2]
end
mutual
theorem same_refl:∀ (a:D),same a a=true
 | .aq=>by simp [same]
 | .bl x=>by simp [same]
 | .int x=>by simp [same]
 | .str x=>by simp [same]
 | .tup x=>by simp only [same];exact fh x
 | .lst x=>by simp only [same];exact fh x
 | .dct k x=>by simp only [same,fh x];simp
 | .ref x=>by simp [same]
theorem fh:∀ (a:List D),gh a a=true
 | []=>by simp [gh]
 | x::xs=>by simp only [gh,same_refl x,fh xs,Bool.and_self]
end
instance:DecidableEq D:=fun a b=>decidable_of_iff (same a b=true) ⟨t9 a b,fun h=>h ▸ same_refl a⟩
inductive MO where
 | lst (ds:List D)
 | dct (kvs:List (Ky×D))
 | o7 (kvs:List (Ky×D))
 | ins (c:Nat) (fs:List (Str×D))
 deriving DecidableEq
noncomputable abbrev MH:=List MO
noncomputable abbrev Sg:=List (Option D)
inductive R (α:Type) where
 | ok (a:α) (M:MH)
 | exc (c:Nat) (M:MH)
 | bad
noncomputable def R.bind {α β:Type} (x:R α) (f:α->MH->R β):R β :=
 match x with
 | .ok a M=>f a M
 | .exc c M=>.exc c M
 | .bad=>.bad
@[simp] theorem R.af {α β:Type} (a:α) (M:MH) (f:α->MH->R β):(R.ok a M).bind f=f a M:=rfl
@[simp] theorem R.lV {α β:Type} (c:Nat) (M:MH) (f:α->MH->R β):(R.exc c M:R α).bind f=.exc c M:=rfl
@[simp] theorem R.iZ {α β:Type} (f:α->MH->R β):(R.bad:R α).bind f=.bad:=rfl
inductive Dm where
 | add | sub | mul | fdiv | mod | pow
inductive AH where
 | eq | ne | lt | le | gt | ge | isin | qb | CD | rN
inductive Ty where
 | int | str | bool | list | tuple | dict
inductive Bl where
 | len | sum | tuple | list | dict | str | int | abs | max | min | sorted | all | any | repr
inductive Mt where
 | append | extend | pop | reverse | clear | get | join | startswith | replace | split | index | count
inductive F1 where
 | abs | int
mutual
inductive E where
 | v (i:Nat)
 | k (d:D)
 | g (i:Nat)
 | tup (es:Es)
 | lst (fz:Bool) (es:Es)
 | sJ
 | op (o:Dm) (fz:Bool) (a b:E)
 | neg (a:E)
 | cmp (o:AH) (a b:E)
 | chain (o o':AH) (a b c:E)
 | and (a b:E)
 | or (a b:E)
 | not (a:E)
 | tru (a:E)
 | w9 (c a b:E)
 | idx (a b:E)
 | sl (fz:Bool) (a:E) (lo hi:O)
 | call (f:Nat) (es:Es)
 | uI (a:E) (t:Ty)
 | blt (b:Bl) (fz:Bool) (es:Es)
 | aW (m:Mt) (fz:Bool) (a:E) (es:Es)
 | comp (fz:Bool) (caps:List Nat) (tg:List Nat) (elt:E) (it:Src) (cond:O)
 | fld (a:E) (f:Str)
 | dm (c m:Nat) (nm:Str) (a:E) (es:Es)
 | new (c i:Nat) (es:Es)
 | mx (hi:Bool) (a b:E)
 | Cm (fz:Bool) (a b:E)
 | yS (fz:Bool) (a:E)
 | rv (fz:Bool) (a:E)
 | all1 (a:E)
 | ng (f:F1) (a:E)
 | jL (f:Nat) (es:Es) (d:Int)
 | bad
inductive Es where
 | nil
 | cons (e:E) (es:Es)
inductive O where
 | none
 | some (e:E)
inductive Src where
 | e (a:E)
 | cR (a:E)
 | E8 (a b:E)
 | enum (a:E)
 | items (a:E)
 | rev (a:E)
 | zip (a b:E)
end
mutual
inductive S where
 | set (i:Nat) (e:E)
 | mh (a b e:E)
 | bP (a:E) (f:Str) (e:E)
 | tu (tg:List Nat) (e:E)
 | ex (e:E)
 | ret (e:E)
 | Fb
 | ifs (c:E) (a b:Ss)
 | for (tg:List Nat) (it:Src) (b:Ss)
 | while (c:E) (b:Ss)
 | brk
 | cont
 | pass
 | raise (c:Nat) (es:Es)
 | try (b:Ss) (hs:Hs) (els:Ss)
 | bad
inductive Ss where
 | nil
 | cons (s:S) (ss:Ss)
inductive Hs where
 | nil
 | cons (cs:List Nat) (b:Ss) (hs:Hs)
end
inductive Out where
 | nx (Z:Sg)
 | rt (d:D)
 | bk (Z:Sg)
 | ct (Z:Sg)
 | xc (c:Nat) (Z:Sg)
noncomputable def R.use {α:Type} (x:R α) (Z:Sg) (f:α->MH->R Out):R Out :=
 match x with
 | .ok a M=>f a M
 | .exc c M=>.ok (.xc c Z) M
 | .bad=>.bad
@[simp] theorem R.aT {α:Type} (a:α) (M:MH) (Z:Sg) (f:α->MH->R Out):(R.ok a M).use Z f=f a M:=rfl
@[simp] theorem R.AK {α:Type} (c:Nat) (M:MH) (Z:Sg) (f:α->MH->R Out):(R.exc c M:R α).use Z f=.ok (.xc c Z) M:=rfl
@[simp] theorem R.LY {α:Type} (Z:Sg) (f:α->MH->R Out):(R.bad:R α).use Z f=.bad:=rfl
inductive Vw where
 | tup (ds:List D)
 | lst (ds:List D)
 | dct (kvs:List (Ky×D))
 | none
noncomputable def vw (M:MH):D->Vw
 | .tup ds=>.tup ds
 | .lst ds=>.lst ds
 | .dct ks ds=>.dct (ks.zip ds)
 | .ref n=>match M[n]? with
  | some (.lst ds)=>.lst ds
  | some (.dct kvs)=>.dct kvs
  | some (.o7 kvs)=>.dct kvs
  | _=>.none
 | _=>.none
noncomputable def line:Nat:=1000000
noncomputable def small (i:Int):Bool:=decide (i.natAbs<18446744073709551616)
noncomputable def mid (i:Int):Bool:=decide (i.natAbs<10 ^ 200)
noncomputable def fV:Dm->Int->Int->Option Int
 | .add,i,j=>some (i+j)
 | .sub,i,j=>some (i-j)
 | .mul,i,j=>if small i||small j then some (i*j) else if mid i&&mid j then some (i*j) else none
 | .fdiv,i,j=>if decide (0<j)&&decide (j.natAbs<1073741824) then some (i / j) else none
 | .mod,i,j=>if decide (0<j) then some (i % j) else none
 | .pow,i,j=>if decide (0<=j)&&(decide (j<=1000000)&&decide (i.natAbs<18446744073709551616)) then some (i ^ j.toNat) else none
noncomputable def b7 (fz:Bool) (ds:List D) (M:MH):R D:=if fz then .ok (.lst ds) M else .ok (.ref M.length) (M++[.lst ds])
noncomputable def qa (o:Dm) (fz:Bool) (M:MH):D->D->R D
 | .int i,.int j=>match fV o i j with
  | some k=>.ok (.int k) M
  | none=>.bad
 | .str x,.str y=>match o with
  | .add=>if decide (x.length+y.length<=line) then .ok (.str (x++y)) M else .bad
  | _=>.bad
 | a, b=>match o with
  | .add=>match vw M a,vw M b with
   | .lst xs,.lst ys=>if decide (xs.length+ys.length<=line) then b7 fz (xs++ys) M else .bad
   | .tup xs,.tup ys=>if !xs.isEmpty&&decide (xs.length+ys.length<=line) then .ok (.tup (xs++ys)) M else .bad
   | _,_=>.bad
  | .mul=>match vw M a,b with
   | .lst xs,.int k=>if decide (xs.length*k.toNat<=line)&&decide (k.natAbs<=1000000) then b7 fz (List.replicate k.toNat xs).flatten M else .bad
   | _,_=>.bad
  | _=>.bad
mutual
noncomputable def plain:D->Bool
 | .aq=>true
 | .bl _=>false
 | .int _=>true
 | .str _=>true
 | .tup ds=>ay ds
 | .lst ds=>ay ds
 | .dct _ _=>false
 | .ref _=>false
noncomputable def ay:List D->Bool
 | []=>true
 | d::ds=>plain d&&ay ds
end
mutual
noncomputable def dep:D->Nat
 | .tup ds=>deps ds+1
 | .lst ds=>deps ds+1
 | .dct _ ds=>deps ds+1
 | .aq=>0
 | .bl _=>0
 | .int _=>0
 | .str _=>0
 | .ref _=>0
noncomputable def deps:List D->Nat
 | []=>0
 | d::ds=>max (dep d) (deps ds)
end
mutual
noncomputable def aK:D->D->Bool
 | .aq,.aq=>true
 | .bl a,.bl b=>a == b
 | .int a,.int b=>decide (a=b)
 | .str a,.str b=>decide (a=b)
 | .tup a,.tup b=>dP a b
 | .lst a,.lst b=>dP a b
 | _,_=>false
noncomputable def dP:List D->List D->Bool
 | [],[]=>true
 | a::as,b::bs=>aK a b&&dP as bs
 | _,_=>false
end
noncomputable def keyOf:D->Option Ky
 | .int i=>some (.inl i)
 | .str x=>some (.inr x)
 | _=>none
noncomputable def Mi:Ky->D
 | .inl i=>.int i
 | .inr x=>.str x
noncomputable def look (kvs:List (Ky×D)) (k:Ky):Option D:=(kvs.find? fun kv=>decide (kv.1=k)).map (·.2)
noncomputable def put (kvs:List (Ky×D)) (k:Ky) (v:D):List (Ky×D) :=
 if kvs.any (fun kv=>decide (kv.1=k)) then kvs.map fun kv=>if kv.1=k then (kv.1,v) else kv else kvs++[(k,v)]
noncomputable def top (M:MH):D->D
 | .ref n=>match M[n]? with
  | some (.lst ds)=>.lst ds
  | _=>.ref n
 | d=>d
noncomputable def flat:D->Bool
 | .aq=>true
 | .int _=>true
 | .str _=>true
 | _=>false
noncomputable def bE (a b:D):Bool:=(plain a&&plain b)&&(decide (dep a<=100)||decide (dep b<=100))
noncomputable def kZ (M:MH) (a b:D):Option Bool:=match vw M a,vw M b with
 | .lst xs,.lst ys=>if ys.isEmpty then some xs.isEmpty else none
 | _,_=>none
noncomputable def deep:Nat->MH->D->D
 | 0,_,d=>d
 | n+1,M,d=>match d with
  | .ref r=>(match M[r]? with
   | some (.lst ds)=>.lst (ds.map (deep n M))
   | _=>.ref r)
  | .tup ds=>.tup (ds.map (deep n M))
  | .lst ds=>.lst (ds.map (deep n M))
  | d=>d
noncomputable def CQ (M:MH) (neg:Bool) (a b:D):R D:=if bE (deep 5 M a) (deep 5 M b) then .ok (.bl (if neg then !aK (deep 5 M a) (deep 5 M b) else aK (deep 5 M a) (deep 5 M b))) M else .bad
noncomputable def sL (M:MH) (f:Int->Int->Bool) (a b:D):R D:=match a with
 | .int i=>(match b with | .int j=>.ok (.bl (f i j)) M | _=>.bad)
 | _=>.bad
noncomputable def Lc (M:MH) (a b:D):R D:=if bE (top M a) (top M b) then .ok (.bl (aK (top M a) (top M b))) M else (match kZ M a b with | some t=>.ok (.bl t) M | none=>CQ M false a b)
noncomputable def wY (M:MH) (a b:D):R D:=if bE (top M a) (top M b) then .ok (.bl (!aK (top M a) (top M b))) M else (match kZ M a b with | some t=>.ok (.bl (!t)) M | none=>CQ M true a b)
noncomputable def jB:D->Bool
 | .aq=>true
 | _=>false
noncomputable def Aq (a b:D):Option (Bool×Bool):=match a with
 | .bl x=>(match b with | .bl y=>some (x,y) | _=>none)
 | _=>none
noncomputable def Hq (M:MH) (a b:D):Option Bool:=match vw M b with
 | .dct kvs=>(match keyOf a with | some k=>some (look kvs k).isSome | none=>none)
 | .lst ds=>if flat a&&ds.all flat then some (ds.any fun d=>aK d a) else none
 | .tup ds=>if flat a&&ds.all flat then some (ds.any fun d=>aK d a) else none
 | .none=>none
noncomputable def bG (o:AH) (M:MH) (a b:D):R D :=
 match o with
 | .lt=>sL M (fun i j=>decide (i<j)) a b
 | .le=>sL M (fun i j=>decide (i<=j)) a b
 | .gt=>sL M (fun i j=>decide (j<i)) a b
 | .ge=>sL M (fun i j=>decide (j<=i)) a b
 | .eq=>(match Aq a b with | some p=>.ok (.bl (p.1 == p.2)) M | none=>Lc M a b)
 | .ne=>(match Aq a b with | some p=>.ok (.bl (!(p.1 == p.2))) M | none=>wY M a b)
 | .CD=>if jB b then .ok (.bl (jB a)) M else .bad
 | .rN=>if jB b then .ok (.bl (!jB a)) M else .bad
 | .isin=>(match Hq M a b with | some t=>.ok (.bl t) M | none=>.bad)
 | .qb=>(match Hq M a b with | some t=>.ok (.bl (!t)) M | none=>.bad)
noncomputable def wZ (n:Nat) (i:Int):Option Nat:=if 0<=i then (if i<n then some i.toNat else none) else if -(n:Int)<=i then some (i+n).toNat else none
noncomputable def cQ {α:Type} (xs:List α) (i:Int):Option α:=(wZ xs.length i).bind fun j=>xs[j]?
noncomputable def six (n d:Nat):Option Int->Nat
 | none=>d
 | some v=>if v<0 then (v+(n:Int)).toNat else min v.toNat n
noncomputable def dg {α:Type} (xs:List α) (lo hi:Option Int):List α:=(xs.drop (six xs.length 0 lo)).take (six xs.length xs.length hi-six xs.length 0 lo)
noncomputable def cuts (x:Str) (lo hi:Option Int):Str:=⟨(dg x.cps.toList lo hi).toArray⟩
noncomputable def mC (M:MH) (a b:D):R D :=
 match a,b with
 | .str x,.int i=>if decide (x.length<=line) then (match cQ x.cps.toList i with
  | some c=>.ok (.str ⟨#[c]⟩) M
  | none=>.bad) else .bad
 | a, b=>match vw M a, b with
  | .tup ds,.int i=>match cQ ds i with
   | some d=>.ok d M
   | none=>.bad
  | .lst ds,.int i=>match cQ ds i with
   | some d=>.ok d M
   | none=>.bad
  | .dct kvs,b=>match keyOf b with
   | some k=>match look kvs k with
    | some d=>.ok d M
    | none=>.bad
   | none=>.bad
  | _,_=>.bad
noncomputable def D9 (n:Nat) (lo hi:Option Int):Bool:=decide (six n 0 lo=0)&&decide (six n n hi=n)
noncomputable def sl2 (fz:Bool) (M:MH) (a:D) (lo hi:Option Int):R D :=
 match a with
 | .str x=>if decide (x.length<=line) then .ok (.str (cuts x lo hi)) M else .bad
 | a=>match vw M a with
  | .tup ds=>if D9 ds.length lo hi then .bad else .ok (.tup (dg ds lo hi)) M
  | .lst ds=>b7 fz (dg ds lo hi) M
  | _=>.bad
noncomputable def Hj (M:MH) (t:Ty):D->Bool
 | .int _=>match t with | .int=>true | _=>false
 | .bl _=>match t with | .int=>true | .bool=>true | _=>false
 | .str _=>match t with | .str=>true | _=>false
 | .tup _=>match t with | .tuple=>true | _=>false
 | .lst _=>match t with | .list=>true | _=>false
 | .dct _ _=>match t with | .dict=>true | _=>false
 | .aq=>false
 | .ref n=>match M[n]? with
  | some (.lst _)=>(match t with | .list=>true | _=>false)
  | some (.dct _)=>(match t with | .dict=>true | _=>false)
  | some (.o7 _)=>(match t with | .dict=>true | _=>false)
  | _=>false
noncomputable def yw (M:MH):D->Bool
 | .ref n=>match M[n]? with
  | some (.lst _)=>true
  | some (.dct _)=>true
  | some (.o7 _)=>true
  | _=>false
 | _=>true
noncomputable def intsOf:List D->Option (List Int)
 | []=>some []
 | .int i::ds=>(intsOf ds).map (i::·)
 | _=>none
noncomputable def boolsOf:List D->Option (List Bool)
 | []=>some []
 | .bl b::ds=>(boolsOf ds).map (b::·)
 | _=>none
noncomputable def se:F1->D->Option D
 | .abs,.int i=>some (.int (if i<0 then -i else i))
 | .int,.bl b=>some (.int (if b then 1 else 0))
 | .int,.int i=>some (.int i)
 | _,_=>none
noncomputable def itemsOf (M:MH) (d:D):Option (List D) :=
 match d with
 | .str _=>none
 | .dct _ _=>none
 | d=>match vw M d with
  | .tup ds=>some ds
  | .lst ds=>some ds
  | .dct kvs=>some (kvs.map fun kv=>Mi kv.1)
  | .none=>none
noncomputable def wk (M:MH):D->Bool
 | .ref n=>match M[n]? with
  | some (.dct _)=>true
  | _=>false
 | _=>false
noncomputable def walk (M:MH):D->MH
 | .ref n=>match M[n]? with
  | some (.dct kvs)=>M.set n (.o7 kvs)
  | _=>M
 | _=>M
noncomputable def fU (b:Bool) (d:D) (M:MH):MH:=match b,d with
 | true,.ref n=>match M[n]? with
  | some (.o7 kvs)=>M.set n (.dct kvs)
  | _=>M
 | _,_=>M
noncomputable def R.fin {α:Type} (x:R α) (f:MH->MH):R α:=match x with
 | .ok a M=>.ok a (f M)
 | .exc c M=>.exc c (f M)
 | .bad=>.bad
noncomputable def wO (b:Bl) (fz:Bool) (M:MH):List D->R D
 | [.str x]=>match b with
  | .len=>if decide (x.length<=line) then .ok (.int x.length) M else .bad
  | _=>.bad
 | [d]=>match b,vw M d with
  | .len,.tup ds=>.ok (.int ds.length) M
  | .len,.lst ds=>.ok (.int ds.length) M
  | .len,.dct kvs=>.ok (.int kvs.length) M
  | .sum,.lst ds=>match intsOf ds with
   | some ns=>.ok (.int ns.sum) M
   | none=>.bad
  | .tuple,.lst ds=>.ok (.tup ds) M
  | .tuple,.tup ds=>.ok (.tup ds) M
  | .list,.lst ds=>b7 fz ds M
  | .list,.tup ds=>b7 fz ds M
  | .dict,.dct kvs=>.ok (.ref M.length) (M++[.dct kvs])
  | _,_=>.bad
 | _=>.bad
noncomputable def CG:D->Option (List D)
 | .tup ds=>some ds
 | .lst ds=>some ds
 | _=>none
noncomputable def xq:D->Option (List D)
 | .tup ds=>some ds
 | _=>none
noncomputable def uA:D->Option (List D)
 | .lst ds=>some ds
 | _=>none
theorem Ci {d:D} {ds:List D} (h:uA d=some ds):d=.lst ds:=by
 cases d <;> first | (cases h;rfl) | cases h
theorem AL {d:D} {ds:List D} (h:xq d=some ds):d=.tup ds:=by
 cases d <;> first | (cases h;rfl) | cases h
noncomputable def gY (M:MH) (a:D):Option (Nat×List D):=match a with
 | .ref n=>(match M[n]? with | some (.lst xs)=>some (n,xs) | _=>none)
 | _=>none
theorem cu {M:MH} {n:Nat} {xs:List D} (h:M[n]? = some (.lst xs)):gY M (.ref n)=some (n,xs):=by simp only [gY,h]
theorem kj {M:MH} {a:D} {p:Nat×List D} (h:gY M a=some p):a=.ref p.1/\M[p.1]? = some (.lst p.2):=by
 cases a with
 | ref n =>
  simp only [gY] at h
  split at h
  ·rename_i xs hx;cases h;exact ⟨rfl,hx⟩
  ·cases h
 | _=>cases h
noncomputable def vY (ds:List D) (k:D->R D):R D:=match ds with
 | d::r=>(match r with | []=>k d | _::_=>.bad)
 | []=>.bad
noncomputable def nT (m:Mt) (M:MH) (n:Nat) (xs ds:List D):R D:=match m with
 | .append=>vY ds fun d=>if decide (xs.length<line) then .ok .aq (M.set n (.lst (xs++[d]))) else .bad
 | .extend=>vY ds fun d=>(match xq d with
  | some ys=>if decide (xs.length+ys.length<=line) then .ok .aq (M.set n (.lst (xs++ys))) else .bad
  | none=>.bad)
 | .pop=>if ds.isEmpty then (match xs[xs.length-1]? with
  | some d=>.ok d (M.set n (.lst xs.dropLast))
  | none=>.bad) else .bad
 | .reverse=>if ds.isEmpty then .ok .aq (M.set n (.lst xs.reverse)) else .bad
 | .clear=>if ds.isEmpty then .ok .aq (M.set n (.lst [])) else .bad
 | _=>.bad
noncomputable def gM (m:Mt) (fz:Bool) (M:MH) (a:D) (ds:List D):R D:=match gY M a with
 | some p=>nT m M p.1 p.2 ds
 | none=>.bad
noncomputable def nU (m:Mt) (M:MH) (a:D):Bool:=(gY M a).isSome&&(match m with | .append=>true | .extend=>true | .pop=>true | .reverse=>true | .clear=>true | _=>false)
noncomputable def mj (M:MH) (a b d:D):R Unit :=
 match a with
 | .ref n=>match M[n]?,b with
  | some (.lst xs),.int i=>match wZ xs.length i with
   | some j=>.ok () (M.set n (.lst (xs.set j d)))
   | none=>.bad
  | some (.dct kvs),b=>match keyOf b with
   | some k=>if decide (kvs.length<line) then .ok () (M.set n (.dct (put kvs k d))) else .bad
   | none=>.bad
  | _,_=>.bad
 | _=>.bad
noncomputable def i9 {α:Type}:List Nat->List α->List (Option α)->List (Option α)
 | i::tg,x::xs,Z=>i9 tg xs (Z.set i (some x))
 | _,_,Z=>Z
noncomputable def sets (tg:List Nat) (M:MH) (d:D) (Z:Sg):Option Sg :=
 match tg with
 | [i]=>some (Z.set i (some d))
 | [i,j]=>match d with
  | .tup [x,y]=>some ((Z.set i (some x)).set j (some y))
  | _=>none
 | []=>none
 | tg=>match d with
  | .tup xs=>if xs.length=tg.length then some (i9 tg xs Z) else none
  | _=>none
noncomputable def aI (M:MH) (d:D) (M':MH):Bool:=match d with
 | .ref n=>decide (M'[n]? = M[n]?)
 | _=>true
noncomputable def aG (body:Sg->MH->R Out) (tg:List Nat) (iE:MH->Bool):List D->Sg->MH->R Out
 | [],Z,M=>.ok (.nx Z) M
 | d::ds,Z,M=>match sets tg M d Z with
  | none=>.bad
  | some Z1=>(body Z1 M).bind fun o M1=>match o with
   | .nx Z2=>if iE M1 then aG body tg iE ds Z2 M1 else .bad
   | .ct Z2=>if iE M1 then aG body tg iE ds Z2 M1 else .bad
   | .bk Z2=>.ok (.nx Z2) M1
   | .rt r=>.ok (.rt r) M1
   | .xc c Z2=>.ok (.xc c Z2) M1
noncomputable def bw (c:Sg->MH->R D) (body:Sg->MH->R Out):Nat->Sg->MH->R Out
 | 0,_,_=>.bad
 | n+1,Z,M=>(c Z M).use Z fun t M0=>match t with
  | .bl false=>.ok (.nx Z) M0
  | .bl true=>(body Z M0).bind fun o M1=>match o with
   | .nx Z2=>bw c body n Z2 M1
   | .ct Z2=>bw c body n Z2 M1
   | .bk Z2=>.ok (.nx Z2) M1
   | .rt r=>.ok (.rt r) M1
   | .xc c Z2=>.ok (.xc c Z2) M1
  | _=>.bad
noncomputable def bh (cond:Sg->MH->R D) (elt:Sg->MH->R D) (tg:List Nat) (iE:MH->Bool):List D->Sg->MH->List D->R (List D)
 | [],_,M,acc=>.ok acc M
 | d::ds,Z,M,acc=>match sets tg M d Z with
  | none=>.bad
  | some Z1=>(cond Z1 M).bind fun t M1=>match t with
   | .bl true=>(elt Z1 M1).bind fun x M2=>if iE M2 then (if decide (acc.length<line) then bh cond elt tg iE ds Z1 M2 (acc++[x]) else .bad) else .bad
   | .bl false=>if iE M1 then bh cond elt tg iE ds Z1 M1 acc else .bad
   | _=>.bad
noncomputable def bI (f:Str) (v:D):List (Str×D)->List (Str×D)
 | []=>[(f,v)]
 | (g,x)::r=>if g=f then (g,v)::r else (g,x)::bI f v r
structure aS where
 call:Nat->List D->MH->R D
 ini:Nat->List D->MH->R D
 glob:Nat->Option D
 turns:Nat
 sub:Nat->Nat->Bool
noncomputable def jv (Z:Sg) (caps:List Nat):Sg:=caps.map fun i=>(Z[i]?).join
noncomputable def vq:D->Option Int
 | .int i=>some i
 | _=>none
noncomputable def mz (j:Int):Bool:=decide (j.natAbs<=1000000)
noncomputable def cW (a b:Int):List D:=(List.range (b-a).toNat).map fun (i:Nat)=>D.int (a+(i:Int))
noncomputable def IL (ds es:List D):List D:=(ds.zip es).map fun p=>.tup [p.1,p.2]
mutual
noncomputable def ev (Φ:aS):E->Sg->MH->R D
 | .v i,Z,M=>match Z[i]? with
  | some (some d)=>.ok d M
  | _=>.bad
 | .k d,_,M=>.ok d M
 | .g i,_,M=>match Φ.glob i with
  | some d=>.ok d M
  | none=>.bad
 | .tup es,Z,M=>(cG Φ es Z M).bind fun ds M1=>.ok (.tup ds) M1
 | .lst fz es,Z,M=>(cG Φ es Z M).bind fun ds M1=>b7 fz ds M1
 | .sJ,_,M=>.ok (.ref M.length) (M++[.dct []])
 | .op o fz a b,Z,M=>(ev Φ a Z M).bind fun x M1=>(ev Φ b Z M1).bind fun y M2=>qa o fz M2 x y
 | .neg a,Z,M=>(ev Φ a Z M).bind fun x M1=>match x with
  | .int i=>.ok (.int (-i)) M1
  | _=>.bad
 | .cmp o a b,Z,M=>(ev Φ a Z M).bind fun x M1=>(ev Φ b Z M1).bind fun y M2=>bG o M2 x y
 | .chain o o' a b c,Z,M=>(ev Φ a Z M).bind fun x M1=>(ev Φ b Z M1).bind fun y M2=>(bG o M2 x y).bind fun t M3=>match t with
  | .bl true=>(ev Φ c Z M3).bind fun z M4=>bG o' M4 y z
  | .bl false=>.ok (.bl false) M3
  | _=>.bad
 | .and a b,Z,M=>(ev Φ a Z M).bind fun x M1=>match x with
  | .bl true=>(ev Φ b Z M1)
  | .bl false=>.ok (.bl false) M1
  | _=>.bad
 | .or a b,Z,M=>(ev Φ a Z M).bind fun x M1=>match x with
  | .bl true=>.ok (.bl true) M1
  | .bl false=>(ev Φ b Z M1)
  | _=>.bad
 | .not a,Z,M=>(ev Φ a Z M).bind fun x M1=>match x with
  | .bl b=>.ok (.bl (!b)) M1
  | _=>.bad
 | .tru a,Z,M=>.bad
 | .w9 c a b,Z,M=>(ev Φ c Z M).bind fun x M1=>match x with
  | .bl true=>ev Φ a Z M1
  | .bl false=>ev Φ b Z M1
  | _=>.bad
 | .idx a b,Z,M=>(ev Φ a Z M).bind fun x M1=>(ev Φ b Z M1).bind fun y M2=>mC M2 x y
 | .sl fz a lo hi,Z,M=>(ev Φ a Z M).bind fun x M1=>(CM Φ lo Z M1).bind fun l M2=>(CM Φ hi Z M2).bind fun h M3=>sl2 fz M3 x l h
 | .call f es,Z,M=>(cG Φ es Z M).bind fun ds M1=>Φ.call f ds M1
 | .uI a t,Z,M=>(ev Φ a Z M).bind fun x M1=>if yw M1 x then .ok (.bl (Hj M1 t x)) M1 else .bad
 | .blt b fz es,Z,M=>(cG Φ es Z M).bind fun ds M1=>wO b fz M1 ds
 | .aW m fz a es,Z,M=>(ev Φ a Z M).bind fun x M1=>if nU m M1 x then (cG Φ es Z M1).bind fun ds M2=>gM m fz M2 x ds else .bad
 | .comp fz caps tg elt it cond,Z,M=>(bZ Φ it Z M).bind fun p M1 =>
   ((bh (mE Φ cond) (ev Φ elt) tg (aI M1 p.1) p.2.1 (jv Z caps++List.replicate tg.length none) M1 []).fin (fU p.2.2 p.1)).bind fun ds M2=>b7 fz ds M2
 | .fld a f,Z,M=>(ev Φ a Z M).bind fun x M1=>match x with
  | .ref n=>match M1[n]? with
   | some (.ins _ fs)=>match fs.lookup f with
    | some d=>.ok d M1
    | none=>.bad
   | _=>.bad
  | _=>.bad
 | .dm c m nm a es,Z,M=>(ev Φ a Z M).bind fun x M1=>match x with
  | .ref n=>match M1[n]? with
   | some (.ins c' fs)=>if decide (c'=c)&&(fs.lookup nm).isNone then (cG Φ es Z M1).bind fun ds M2=>Φ.call m (.ref n::ds) M2 else .bad
   | _=>.bad
  | _=>.bad
 | .new c i es,Z,M=>(cG Φ es Z M).bind fun ds M1=>(Φ.ini i (.ref M1.length::ds) (M1++[.ins c []])).bind fun r M2=>match r with
  | .aq=>.ok (.ref M1.length) M2
  | _=>.bad
 | .mx hi a b,Z,M=>(ev Φ a Z M).bind fun x M1=>(ev Φ b Z M1).bind fun y M2=>match x,y with
  | .int i,.int j=>.ok (.int (if hi then (if j > i then j else i) else (if j<i then j else i))) M2
  | _,_=>.bad
 | .Cm fz a b,Z,M=>(ev Φ a Z M).bind fun x M1=>(ev Φ b Z M1).bind fun y M2=>match x,y with
  | .int i,.int j=>if mz i&&(mz j&&decide ((j-i).toNat<=line)) then b7 fz (cW i j) M2 else .bad
  | _,_=>.bad
 | .yS fz a,Z,M=>(ev Φ a Z M).bind fun x M1=>match x with
  | .int j=>if mz j then b7 fz (cW 0 j) M1 else .bad
  | _=>.bad
 | .rv fz a,Z,M=>(ev Φ a Z M).bind fun x M1=>match vw M1 x with
  | .lst ds=>b7 fz ds.reverse M1
  | _=>.bad
 | .all1 a,Z,M=>(ev Φ a Z M).bind fun x M1=>match vw M1 x with
  | .lst ds=>match boolsOf ds with
   | some bs=>.ok (.bl (bs.all id)) M1
   | none=>.bad
  | _=>.bad
 | .ng f a,Z,M=>(ev Φ a Z M).bind fun x M1=>match se f x with
  | some d=>.ok d M1
  | none=>.bad
 | .jL f es d,Z,M=>(cG Φ es Z M).bind fun ds M1=>Φ.call f (ds++[.int d]) M1
 | .bad,_,_=>.bad
noncomputable def cG (Φ:aS):Es->Sg->MH->R (List D)
 | .nil,_,M=>.ok [] M
 | .cons e es,Z,M=>(ev Φ e Z M).bind fun x M1=>(cG Φ es Z M1).bind fun xs M2=>.ok (x::xs) M2
noncomputable def CM (Φ:aS):O->Sg->MH->R (Option Int)
 | .none,_,M=>.ok none M
 | .some e,Z,M=>(ev Φ e Z M).bind fun x M1=>match x with
  | .int i=>.ok (some i) M1
  | _=>.bad
noncomputable def mE (Φ:aS):O->Sg->MH->R D
 | .none,_,M=>.ok (.bl true) M
 | .some e,Z,M=>ev Φ e Z M
noncomputable def bZ (Φ:aS):Src->Sg->MH->R (D×List D×Bool)
 | .e a,Z,M=>(ev Φ a Z M).bind fun x M1=>match itemsOf M1 x with
  | some ds=>.ok (x,ds,wk M1 x) (walk M1 x)
  | none=>.bad
 | .cR a,Z,M=>(ev Φ a Z M).bind fun x M1=>match x with
  | .int j=>if mz j then .ok (.aq,cW 0 j,false) M1 else .bad
  | _=>.bad
 | .E8 a b,Z,M=>(ev Φ a Z M).bind fun x M1=>(ev Φ b Z M1).bind fun y M2=>match vq x,vq y with
  | some i,some j=>if mz i&&mz j then .ok (.aq,cW i j,false) M2 else .bad
  | _,_=>.bad
 | .enum a,Z,M=>.bad
 | .items a,Z,M=>.bad
 | .rev a,Z,M=>(ev Φ a Z M).bind fun x M1=>match uA x with
  | some ds=>.ok (.aq,ds.reverse,false) M1
  | none=>.bad
 | .zip a b,Z,M=>(ev Φ a Z M).bind fun x M1=>(ev Φ b Z M1).bind fun y M2=>match CG x,CG y with
  | some ds,some es=>.ok (.aq,IL ds es,false) M2
  | _,_=>.bad
end
noncomputable def bT:D->Bool
 | .str x=>decide (x.length<=100000)
 | .int i=>decide (i.natAbs<18446744073709551616)
 | _=>false
noncomputable def CO (Φ:aS):Es->Sg->MH->R Unit
 | .nil,_,M=>.ok () M
 | .cons e es,Z,M=>(ev Φ e Z M).bind fun x M1=>if bT x then CO Φ es Z M1 else .bad
mutual
noncomputable def ex (Φ:aS):S->Sg->MH->R Out
 | .set i e,Z,M=>(ev Φ e Z M).use Z fun x M1=>.ok (.nx (Z.set i (some x))) M1
 | .mh a b e,Z,M=>(ev Φ e Z M).use Z fun x M1=>(ev Φ a Z M1).use Z fun y M2=>(ev Φ b Z M2).use Z fun z M3=>(mj M3 y z x).use Z fun _ M4=>.ok (.nx Z) M4
 | .bP a f e,Z,M=>(ev Φ e Z M).use Z fun x M1=>(ev Φ a Z M1).use Z fun y M2=>match y with
  | .ref n=>match M2[n]? with
   | some (.ins c fs)=>if decide (fs.length<1000) then .ok (.nx Z) (M2.set n (.ins c (bI f x fs))) else .bad
   | _=>.bad
  | _=>.bad
 | .tu tg e,Z,M=>(ev Φ e Z M).use Z fun x M1=>match sets tg M1 x Z with
  | some Z1=>.ok (.nx Z1) M1
  | none=>.bad
 | .ex e,Z,M=>(ev Φ e Z M).use Z fun _ M1=>.ok (.nx Z) M1
 | .ret e,Z,M=>(ev Φ e Z M).use Z fun x M1=>.ok (.rt x) M1
 | .Fb,_,M=>.ok (.rt .aq) M
 | .ifs c a b,Z,M=>(ev Φ c Z M).use Z fun t M1=>match t with
  | .bl true=>exs Φ a Z M1
  | .bl false=>exs Φ b Z M1
  | _=>.bad
 | .for tg it b,Z,M=>(bZ Φ it Z M).use Z fun p M1=>(aG (exs Φ b) tg (aI M1 p.1) p.2.1 Z M1).fin (fU p.2.2 p.1)
 | .while c b,Z,M=>bw (ev Φ c) (exs Φ b) Φ.turns Z M
 | .brk,Z,M=>.ok (.bk Z) M
 | .cont,Z,M=>.ok (.ct Z) M
 | .pass,Z,M=>.ok (.nx Z) M
 | .raise c es,Z,M=>(CO Φ es Z M).use Z fun _ M1=>.ok (.xc c Z) M1
 | .try b hs els,Z,M=>(exs Φ b Z M).bind fun o M1=>match o with
  | .nx Z1=>exs Φ els Z1 M1
  | .xc c Z1=>IG Φ hs c Z1 M1
  | o=>.ok o M1
 | .bad,_,_=>.bad
noncomputable def exs (Φ:aS):Ss->Sg->MH->R Out
 | .nil,Z,M=>.ok (.nx Z) M
 | .cons s ss,Z,M=>(ex Φ s Z M).bind fun o M1=>match o with
  | .nx Z1=>exs Φ ss Z1 M1
  | o=>.ok o M1
noncomputable def IG (Φ:aS):Hs->Nat->Sg->MH->R Out
 | .nil,_,_,_=>.bad
 | .cons cs b hs,c,Z,M=>if cs.any (fun d=>Φ.sub c d) then exs Φ b Z M else IG Φ hs c Z M
end
mutual
noncomputable def nr (m:Nat):D->Bool
 | .ref n=>decide (n<m)
 | .tup ds=>iN m ds
 | .lst ds=>iN m ds
 | .dct _ ds=>iN m ds
 | .aq=>true
 | .bl _=>true
 | .int _=>true
 | .str _=>true
noncomputable def iN (m:Nat):List D->Bool
 | []=>true
 | d::ds=>nr m d&&iN m ds
end
structure Fn where
 np:Nat
 ns:Nat
 lU:List D
 keep:Bool
 body:Ss
noncomputable def dZ (keep:Bool) (M:MH) (d:D) (M':MH):R D :=
 if keep=false/\M'.take M.length=M then
  (if nr M.length d then .ok d M else match d with
   | .ref k=>match M'[k]? with
    | some (.lst ds)=>if iN M.length ds then .ok (.lst ds) M else .ok d M'
    | _=>.ok d M'
   | _=>.ok d M')
 else .ok d M'
noncomputable def pU (M:MH) (c:Nat) (M':MH):R D:=if M'.take M.length=M then .exc c M else .exc c M'
structure nB where
 fn:Nat->Option Fn
 glob:Nat->Option D
 turns:Nat
 sub:Nat->Nat->Bool
noncomputable def mq (Φ:aS) (f:Fn) (ds:List D) (M:MH):R D :=
 if decide (ds.length<=f.np)&&decide (f.np<=ds.length+f.lU.length) then
  match exs Φ f.body ((ds++f.lU.drop (ds.length+f.lU.length-f.np)).map some++List.replicate (f.ns-f.np) none) M with
  | .ok (.rt d) M'=>dZ f.keep M d M'
  | .ok (.nx _) M'=>dZ f.keep M .aq M'
  | .ok (.xc c _) M'=>pU M c M'
  | _=>.bad
 else .bad
noncomputable def aa (P:nB):Nat->aS
 | 0=>⟨fun _ _ _=>.bad,fun _ _ _=>.bad,P.glob,P.turns,P.sub⟩
 | k+1=>⟨fun f ds M=>match P.fn f with
  | some fn=>mq (aa P k) fn ds M
  | none=>.bad,(aa P k).call,P.glob,P.turns,P.sub⟩
end Fg
end
section
set_option autoImplicit false
namespace Fg
open PySem PySem.Spec L2
noncomputable def Gk:Nat->List Obj->W.Frag
 | _,[]=>[]
 | n,o::os=>bif o.alive then (n,o)::Gk (n+1) os else Gk (n+1) os
theorem yx:∀ {os:List Obj} {n a:Nat} {o:Obj},(Gk n os).lookup a=some o->n<=a/\os[a-n]? = some o/\o.alive=true
 | [],_,_,_,h=>by cases h
 | x::os,n,a,o,h=>by
  have up:(Gk (n+1) os).lookup a=some o->n<=a/\(x::os)[a-n]? = some o/\o.alive=true:=fun h=>by
   obtain ⟨h1,h2,h3⟩:=yx h
   refine ⟨by omega,?_,h3⟩
   rw [show a-n=(a-(n+1))+1 by omega,List.getElem?_cons_succ]
   exact h2
  unfold Gk at h
  cases hx:x.alive with
  | false=>rw [hx] at h;exact up h
  | true =>
   rw [hx] at h
   replace h:((n,x)::Gk (n+1) os).lookup a=some o:=h
   rw [List.lookup_cons] at h
   cases e:a == n with
   | true =>
    rw [e] at h
    cases h
    have:=beq_iff_eq.mp e
    subst this
    exact ⟨Nat.le_refl _,by simp,hx⟩
   | false =>
    rw [e] at h
    exact up h
noncomputable def allOf (h:Heap):W.Frag:=Gk 0 h.objs.toList
theorem Aw (h:Heap):(allOf h).In h:=fun a o e=>by
 obtain ⟨_,h1,h2⟩:=yx e
 rw [Nat.sub_zero,Array.getElem?_toList] at h1
 exact (Heap.get?_eq_some h a o).mpr ⟨h1,h2⟩
structure Row where
 x:Str
 ql:Str
 st:Stmt
 ps:List Str
 N:List Str
 i:Nat
 lU:Option Int:=none
structure Tb where
 fn:List Row
 cl:List Str
 mt:List (Nat×Row)
 xc:List Str
 cs:List (Str×Nat×Int)
 bl:List Str
 fl:List Str
 ct:List (Str×Nat×List Str):=[]
 cd:List (Str×Nat×List (Str×Int)):=[]
noncomputable def adr (K:W.Frag) (x:Str):Option Addr:=match W.nsIn K mainGlobals x with
 | some (some (.ref a))=>some a
 | _=>none
noncomputable def ju (K:W.Frag):Value->Option (Option Int)
 | .none=>some none
 | .ref T=>(match K.lookup T with
  | some ⟨_,_,.seq its _,_⟩=>(match its.toList with
   | [.int d _]=>some (some d)
   | _=>none)
  | _=>none)
 | _=>none
noncomputable abbrev Az:=Str×Str×Arguments×FuncBody×Scope×Addr×List (Str×Addr)×Addr×Option (Option Int)×Bool
noncomputable def qu (K:W.Frag) (f:Addr):Option Az:=match K.lookup f with
 | some ⟨_,_,.func fd,_⟩=>some (fd.name,fd.qualname,fd.params,fd.body,fd.scope,fd.globals,fd.closure,fd.builtins,ju K fd.defaults,W.codeIn K fd.code fd.qualname)
 | _=>none
noncomputable def Row.good (r:Row):Az:=(r.x,r.ql,iX r.st,.stmts (cg r.st),aF r.st,mainGlobals,[],builtinsNs,some r.lU,true)
noncomputable abbrev Iv:=Bool×Bool×Bool×Option (Option Value)×Bool×Bool×List (Option (Option Value))
noncomputable def oQ (t:Tb) (K:W.Frag) (C:Addr):Iv:=(W.plainGet K C Str.empty, W.hasDictIn K C, W.plainOver K C, W.findIn K (.ref C) "__setattr__", W.makesIn K C, W.keepIn K (.ref C), t.fl.map (W.findIn K (.ref C)))
noncomputable def kC (t:Tb):Iv:=(true, true, true, some (some (.builtin "object.__setattr__")), true, true, t.fl.map fun _=>some none)
noncomputable def yK (t:Tb) (K:W.Frag) (r:Nat×Row):Option (Az×Bool):=((t.cl[r.1]?).bind (adr K)).bind fun C=>match W.findIn K (.ref C) r.2.x with
 | some (some (.ref f))=>(qu K f).map fun z=>(z,W.isFn K (.ref f))
 | _=>none
noncomputable abbrev LI:=Bool×Option Bool×List (Option Bool)
noncomputable def BMV:List Value:=[.type "ValueError", .type "Exception", .type "BaseException", .type "object"]
noncomputable def zL (t:Tb) (K:W.Frag) (X:Addr):LI:=(W.excIn K X BMV "ValueError.__new__", W.mroIn K X (.type "BaseException"), t.xc.map fun y=>(adr K y).bind fun Y=>W.mroIn K X (.ref Y))
noncomputable def Ad (K:W.Frag) (x:Str):Option Int:=match W.nsIn K mainGlobals x with
 | some (some (.int n _))=>some n
 | _=>none
noncomputable def strOf:Value->Option Str
 | .str x _=>some x
 | _=>none
noncomputable def intOf:Value->Option Int
 | .int n _=>some n
 | _=>none
noncomputable abbrev LJ:=Value×List (Option Str)
noncomputable def xo (K:W.Frag) (a:Addr):Option LJ:=match K.lookup a with
 | some ⟨c,_,.seq its _,_⟩=>some (c,its.toList.map strOf)
 | _=>none
noncomputable abbrev Iu:=Value×Option Addr×Array (Option Value)×Bool×List (Int×Option Str×Option Int)
noncomputable def Ac (K:W.Frag) (a:Addr):Option Iu:=match K.lookup a with
 | some ⟨c,d,.dict es _,sl⟩=>some (c,d,sl,a == sysModules,es.toList.map fun e=>(e.hash,strOf e.key,intOf e.val))
 | _=>none
noncomputable def vd (w:World) (kvs:List (Str×Int)):Iu:=(.type "dict", none, #[], false, kvs.map fun z=>(PyData.keyHash w.params z.1, some z.1, some z.2))
noncomputable abbrev Im:=List (Option Az)×List (Option Iv)×List (Option (Az×Bool))×List (Option LI)×List (Option Int)×List (Option (Option Value))×List (Option LJ)×List (Option Iu)
noncomputable def Tb.tZ (t:Tb) (K:W.Frag):Im:=(t.fn.map fun r=>(adr K r.x).bind (qu K),t.cl.map fun x=>(adr K x).map (oQ t K),t.mt.map (yK t K),t.xc.zipIdx.map fun x=>(adr K x.1).map (zL t K),t.cs.map fun c=>Ad K c.1,t.bl.map (W.nsIn K mainGlobals),t.ct.map fun c=>(adr K c.1).bind (xo K),t.cd.map fun c=>(adr K c.1).bind (Ac K))
noncomputable def Tb.good (t:Tb) (P:nB) (w:World):Im:=(t.fn.map fun r=>some r.good, t.cl.map fun _=>some (kC t), t.mt.map fun r=>some (r.2.good, true), t.xc.zipIdx.map fun x=>some (true, some true, t.xc.zipIdx.map fun y=>some (P.sub x.2 y.2)), t.cs.map fun c=>some c.2.2, t.bl.map fun _=>some none, t.ct.map fun c=>some (.type "tuple", c.2.2.map some), t.cd.map fun c=>some (vd w c.2.2))
noncomputable def Tb.hook (t:Tb) (P:nB):W.Hook:=⟨Im,fun s=>t.tZ (allOf s.heap),fun w=>t.good P w,fun w h=>∃ K:W.Frag,K.In h/\t.tZ K=t.good P w,fun _ s e=>⟨_,Aw s.heap,e⟩,fun _ _ _ ⟨K,X,e⟩ k=>⟨K,X.keeps k,e⟩⟩
end Fg
end
section
namespace bA
open Fg
noncomputable def jV:List PySem.Str:=["value"]
noncomputable def ji:Fn:=⟨1,1,[],false,
 (.cons (.ifs (.uI (.v 0) .tuple) (.cons (.ret (.idx (.v 0) (.k (.int 1))))
 .nil) .nil)
 (.cons (.ret (.k (.int 1)))
 .nil))⟩
noncomputable def jX:List PySem.Str:=["word", "first", "second", "size"]
noncomputable def gJ:Fn:=⟨3,4,[],false,
 (.cons (.set 3 (.op .add true (.op .add true (.k (.int 1)) (.call 0 (.cons (.v 1) .nil))) (.call 0 (.cons (.v 2) .nil))))
 (.cons (.ifs (.cmp .gt (.v 3) (.g 0)) (.cons (.raise 1 (.cons (.v 0) (.cons (.v 3) .nil)))
 .nil) .nil)
 (.cons (.ret (.tup (.cons (.v 0) (.cons (.v 3) (.cons (.v 1) (.cons (.v 2) .nil))))))
 .nil)))⟩
noncomputable def dN:List PySem.Str:=["number"]
noncomputable def cZ:Fn:=⟨1,1,[],false,
 (.cons (.ifs (.cmp .ge (.ng .abs (.v 0)) (.op .pow true (.k (.int 10)) (.k (.int 60)))) (.cons (.raise 1 .nil)
 .nil) .nil)
 .nil)⟩
noncomputable def jj:List PySem.Str:=["word", "first", "second", "number"]
noncomputable def iw:Fn:=⟨3,4,[],false,
 (.cons (.ifs (.cmp .eq (.v 0) (.k (.str "less"))) (.cons (.ret (.w9 (.cmp .lt (.v 1) (.v 2)) (.k (.int 1)) (.k (.int 0))))
 .nil) .nil)
 (.cons (.ifs (.cmp .eq (.v 0) (.k (.str "plus"))) (.cons (.set 3 (.op .add true (.v 1) (.v 2)))
 .nil) (.cons (.ifs (.cmp .eq (.v 0) (.k (.str "minus"))) (.cons (.set 3 (.op .sub true (.v 1) (.v 2)))
 .nil) (.cons (.set 3 (.op .mul true (.v 1) (.v 2)))
 .nil))
 .nil))
 (.cons (.ex (.call 2 (.cons (.v 3) .nil)))
 (.cons (.ret (.v 3))
 .nil))))⟩
noncomputable def iS:List PySem.Str:=["word", "value"]
noncomputable def jD:Fn:=⟨2,2,[],false,
 (.cons (.ifs (.cmp .CD (.v 1) (.k .aq)) (.cons (.raise 2 (.cons (.v 0) .nil))
 .nil) .nil)
 (.cons (.ifs (.cmp .isin (.v 0) (.tup (.cons (.k (.str "first")) (.cons (.k (.str "head")) .nil)))) (.cons (.ret (.idx (.v 1) (.k (.int 2))))
 .nil) .nil)
 (.cons (.ret (.idx (.v 1) (.k (.int 3))))
 .nil)))⟩
noncomputable def oz:List PySem.Str:=["value", "members"]
noncomputable def zK:Fn:=⟨1,2,[],false,
 (.cons (.ifs (.uI (.v 0) .int) (.cons (.ret (.v 0))
 .nil) .nil)
 (.cons (.ifs (.and (.cmp .rN (.v 0) (.k .aq)) (.cmp .eq (.idx (.v 0) (.k (.int 0))) (.k (.str "pair")))) (.cons (.ret (.tup (.cons (.call 5 (.cons (.idx (.v 0) (.k (.int 2))) .nil)) (.cons (.call 5 (.cons (.idx (.v 0) (.k (.int 3))) .nil)) .nil))))
 .nil) .nil)
 (.cons (.set 1 (.lst false .nil))
 (.cons (.while (.cmp .rN (.v 0) (.k .aq)) (.cons (.ex (.aW .append true (.v 1) (.cons (.call 5 (.cons (.idx (.v 0) (.k (.int 2))) .nil)) .nil)))
 (.cons (.set 0 (.idx (.v 0) (.k (.int 3))))
 .nil)))
 (.cons (.ret (.v 1))
 .nil)))))⟩
noncomputable def fH:List PySem.Str:=["begun", "under_way", "most"]
noncomputable def ez:Fn:=⟨3,3,[],false,
 (.cons (.ifs (.cmp .gt (.op .add true (.v 0) (.k (.int 1))) (.v 2)) (.cons (.raise 3 .nil)
 .nil) .nil)
 (.cons (.ifs (.cmp .gt (.op .add true (.v 1) (.k (.int 1))) (.g 1)) (.cons (.raise 4 (.cons (.g 1) .nil))
 .nil) .nil)
 .nil))⟩
noncomputable def qy:List PySem.Str:=["code", "numbers", "most", "machine", "outer", "value", "field"]
noncomputable def uS:Fn:=⟨3,7,[],false,
 (.cons (.set 3 (.new 1 9 (.cons (.idx (.v 0) (.k (.int 0))) (.cons (.v 2) .nil))))
 (.cons (.set 4 (.comp true [3] [1] (.dm 1 10 "open_field" (.v 0) .nil) (.cR (.idx (.v 0) (.k (.int 2)))) .none))
 (.cons (.ex (.aW .append true (.fld (.v 3) "frames") (.cons (.new 0 8 (.cons (.blt .list false (.cons (.v 1) .nil)) (.cons (.blt .list false (.cons (.v 4) .nil)) (.cons (.k .aq) .nil)))) .nil)))
 (.cons (.bP (.v 3) "place" (.idx (.v 0) (.k (.int 1))))
 (.cons (.while (.cmp .ne (.fld (.v 3) "frames") (.lst true .nil)) (.cons (.ex (.dm 1 19 "step" (.v 3) .nil))
 .nil))
 (.cons (.set 5 (.dm 1 21 "answer" (.v 3) .nil))
 (.cons (.for [6] (.rev (.v 4)) (.cons (.ex (.dm 1 11 "shut_field" (.v 3) (.cons (.v 6) .nil)))
 .nil))
 (.cons (.ret (.tup (.cons (.v 5) (.cons (.fld (.v 3) "log") .nil))))
 .nil))))))))⟩
noncomputable def fL:List PySem.Str:=["self", "known", "fields", "behind_call"]
noncomputable def eG:Fn:=⟨4,4,[],false,
 (.cons (.bP (.v 0) "known" (.v 1))
 (.cons (.bP (.v 0) "fields" (.v 2))
 (.cons (.bP (.v 0) "behind_call" (.v 3))
 .nil)))⟩
noncomputable def dO:List PySem.Str:=["self", "rows", "most"]
noncomputable def c9:Fn:=⟨3,3,[],false,
 (.cons (.bP (.v 0) "rows" (.v 1))
 (.cons (.bP (.v 0) "most" (.v 2))
 (.cons (.bP (.v 0) "begun" (.k (.int 0)))
 (.cons (.bP (.v 0) "place" (.k (.int 0)))
 (.cons (.bP (.v 0) "pile" (.lst false .nil))
 (.cons (.bP (.v 0) "frames" (.lst false .nil))
 (.cons (.bP (.v 0) "lies_open" (.lst false .nil))
 (.cons (.bP (.v 0) "log" (.lst false .nil))
 .nil))))))))⟩
noncomputable def c8:List PySem.Str:=["self", "field"]
noncomputable def cA:Fn:=⟨1,2,[],false,
 (.cons (.set 1 (.blt .len true (.cons (.fld (.v 0) "lies_open") .nil)))
 (.cons (.ex (.aW .append true (.fld (.v 0) "lies_open") (.cons (.k (.bl true)) .nil)))
 (.cons (.ex (.aW .append true (.fld (.v 0) "log") (.cons (.tup (.cons (.k (.str "open")) (.cons (.v 1) .nil))) .nil)))
 (.cons (.ret (.v 1))
 .nil))))⟩
noncomputable def c7:List PySem.Str:=["self", "field"]
noncomputable def cz:Fn:=⟨2,2,[],false,
 (.cons (.mh (.fld (.v 0) "lies_open") (.v 1) (.k (.bl false)))
 (.cons (.ex (.aW .append true (.fld (.v 0) "log") (.cons (.tup (.cons (.k (.str "shut")) (.cons (.v 1) .nil))) .nil)))
 .nil))⟩
noncomputable def dw:List PySem.Str:=["self", "field"]
noncomputable def cJ:Fn:=⟨2,2,[],false,
 (.cons (.ifs (.not (.idx (.fld (.v 0) "lies_open") (.v 1))) (.cons (.raise 5 (.cons (.v 1) .nil))
 .nil) .nil)
 .nil)⟩
noncomputable def gQ:List PySem.Str:=["self", "word", "field", "second", "first", "cell"]
noncomputable def g9:Fn:=⟨3,6,[],false,
 (.cons (.set 3 (.aW .pop true (.fld (.v 0) "pile") .nil))
 (.cons (.set 4 (.aW .pop true (.fld (.v 0) "pile") .nil))
 (.cons (.set 5 (.call 1 (.cons (.v 1) (.cons (.v 4) (.cons (.v 3) .nil)))))
 (.cons (.ex (.dm 1 12 "want_open" (.v 0) (.cons (.v 2) .nil)))
 (.cons (.ex (.aW .append true (.fld (.v 0) "log") (.cons (.tup (.cons (.k (.str "lay")) (.cons (.v 2) .nil))) .nil)))
 (.cons (.ex (.aW .append true (.fld (.v 0) "pile") (.cons (.op .add true (.v 5) (.tup (.cons (.v 2) .nil))) .nil)))
 .nil))))))⟩
noncomputable def gy:List PySem.Str:=["self", "word", "cell", "found"]
noncomputable def gz:Fn:=⟨2,4,[],false,
 (.cons (.set 2 (.aW .pop true (.fld (.v 0) "pile") .nil))
 (.cons (.set 3 (.call 4 (.cons (.v 1) (.cons (.v 2) .nil))))
 (.cons (.ex (.dm 1 12 "want_open" (.v 0) (.cons (.idx (.v 2) (.k (.int 4))) .nil)))
 (.cons (.ex (.aW .append true (.fld (.v 0) "log") (.cons (.tup (.cons (.k (.str "look")) (.cons (.idx (.v 2) (.k (.int 4))) .nil))) .nil)))
 (.cons (.ex (.aW .append true (.fld (.v 0) "pile") (.cons (.v 3) .nil)))
 .nil)))))⟩
noncomputable def fJ:List PySem.Str:=["self", "word", "second", "first"]
noncomputable def eE:Fn:=⟨2,4,[],false,
 (.cons (.set 2 (.aW .pop true (.fld (.v 0) "pile") .nil))
 (.cons (.set 3 (.aW .pop true (.fld (.v 0) "pile") .nil))
 (.cons (.ex (.aW .append true (.fld (.v 0) "pile") (.cons (.call 3 (.cons (.v 1) (.cons (.v 3) (.cons (.v 2) .nil)))) .nil)))
 .nil)))⟩
noncomputable def gb:List PySem.Str:=["self", "row", "frame"]
noncomputable def fQ:Fn:=⟨2,3,[],false,
 (.cons (.set 2 (.idx (.fld (.v 0) "frames") (.neg (.k (.int 1)))))
 (.cons (.ifs (.cmp .eq (.idx (.v 1) (.k (.int 0))) (.k (.str "number"))) (.cons (.ex (.aW .append true (.fld (.v 0) "pile") (.cons (.idx (.v 1) (.k (.int 1))) .nil)))
 .nil) (.cons (.ifs (.cmp .eq (.idx (.v 1) (.k (.int 0))) (.k (.str "local"))) (.cons (.ex (.aW .append true (.fld (.v 0) "pile") (.cons (.idx (.fld (.v 2) "known") (.idx (.v 1) (.k (.int 1)))) .nil)))
 .nil) (.cons (.ifs (.cmp .eq (.idx (.v 1) (.k (.int 0))) (.k (.str "keep"))) (.cons (.ex (.aW .append true (.fld (.v 2) "known") (.cons (.aW .pop true (.fld (.v 0) "pile") .nil) .nil)))
 .nil) (.cons (.ex (.aW .pop true (.fld (.v 2) "known") .nil))
 .nil))
 .nil))
 .nil))
 .nil))⟩
noncomputable def iy:List PySem.Str:=["self", "row"]
noncomputable def iU:Fn:=⟨2,2,[],false,
 (.cons (.ifs (.cmp .eq (.idx (.v 1) (.k (.int 0))) (.k (.str "jump"))) (.cons (.bP (.v 0) "place" (.idx (.v 1) (.k (.int 1))))
 .nil) (.cons (.ifs (.cmp .eq (.idx (.v 1) (.k (.int 0))) (.k (.str "call"))) (.cons (.ex (.dm 1 18 "enter" (.v 0) (.cons (.idx (.v 1) (.k (.int 1))) (.cons (.idx (.v 1) (.k (.int 2))) (.cons (.idx (.v 1) (.k (.int 3))) .nil)))))
 .nil) (.cons (.ifs (.cmp .eq (.idx (.v 1) (.k (.int 0))) (.k (.str "back"))) (.cons (.bP (.v 0) "place" (.fld (.aW .pop true (.fld (.v 0) "frames") .nil) "behind_call"))
 .nil) (.cons (.ifs (.cmp .eq (.aW .pop true (.fld (.v 0) "pile") .nil) (.k (.int 0))) (.cons (.bP (.v 0) "place" (.idx (.v 1) (.k (.int 1))))
 .nil) .nil)
 .nil))
 .nil))
 .nil))
 .nil)⟩
noncomputable def fZ:List PySem.Str:=["self", "begin", "many", "numbers", "given", "fields"]
noncomputable def fP:Fn:=⟨4,6,[],false,
 (.cons (.ex (.call 6 (.cons (.fld (.v 0) "begun") (.cons (.op .sub true (.blt .len true (.cons (.fld (.v 0) "frames") .nil)) (.k (.int 1))) (.cons (.fld (.v 0) "most") .nil)))))
 (.cons (.bP (.v 0) "begun" (.op .add false (.fld (.v 0) "begun") (.k (.int 1))))
 (.cons (.set 4 (.comp false [0] [1] (.aW .pop true (.fld (.v 0) "pile") .nil) (.cR (.v 2)) .none))
 (.cons (.ex (.aW .reverse true (.v 4) .nil))
 (.cons (.set 5 (.fld (.idx (.fld (.v 0) "frames") (.neg (.k (.int 1)))) "fields"))
 (.cons (.ex (.aW .append true (.fld (.v 0) "frames") (.cons (.new 0 8 (.cons (.v 4) (.cons (.comp false [5] [1] (.idx (.v 0) (.v 1)) (.e (.v 3)) .none) (.cons (.fld (.v 0) "place") .nil)))) .nil)))
 (.cons (.bP (.v 0) "place" (.v 1))
 .nil)))))))⟩
noncomputable def gx:List PySem.Str:=["self", "row", "word"]
noncomputable def bY:Fn:=⟨1,3,[],false,
 (.cons (.set 1 (.idx (.fld (.v 0) "rows") (.fld (.v 0) "place")))
 (.cons (.bP (.v 0) "place" (.op .add false (.fld (.v 0) "place") (.k (.int 1))))
 (.cons (.set 2 (.idx (.v 1) (.k (.int 0))))
 (.cons (.ifs (.cmp .isin (.v 2) (.tup (.cons (.k (.str "number")) (.cons (.k (.str "local")) (.cons (.k (.str "keep")) (.cons (.k (.str "drop")) .nil)))))) (.cons (.ex (.dm 1 16 "carry" (.v 0) (.cons (.v 1) .nil)))
 .nil) (.cons (.ifs (.cmp .isin (.v 2) (.tup (.cons (.k (.str "jump")) (.cons (.k (.str "unless")) (.cons (.k (.str "call")) (.cons (.k (.str "back")) .nil)))))) (.cons (.ex (.dm 1 17 "go" (.v 0) (.cons (.v 1) .nil)))
 .nil) (.cons (.ifs (.cmp .isin (.v 2) (.tup (.cons (.k (.str "pair")) (.cons (.k (.str "cons")) .nil)))) (.cons (.ex (.dm 1 13 "lay" (.v 0) (.cons (.v 2) (.cons (.idx (.fld (.idx (.fld (.v 0) "frames") (.neg (.k (.int 1)))) "fields") (.idx (.v 1) (.k (.int 1)))) .nil))))
 .nil) (.cons (.ifs (.cmp .isin (.v 2) (.tup (.cons (.k (.str "first")) (.cons (.k (.str "second")) (.cons (.k (.str "head")) (.cons (.k (.str "tail")) .nil)))))) (.cons (.ex (.dm 1 14 "look" (.v 0) (.cons (.v 2) .nil)))
 .nil) (.cons (.ifs (.cmp .eq (.v 2) (.k (.str "nil"))) (.cons (.ex (.aW .append true (.fld (.v 0) "pile") (.cons (.k .aq) .nil)))
 .nil) (.cons (.ifs (.cmp .eq (.v 2) (.k (.str "none"))) (.cons (.ex (.aW .append true (.fld (.v 0) "pile") (.cons (.w9 (.cmp .CD (.aW .pop true (.fld (.v 0) "pile") .nil) (.k .aq)) (.k (.int 1)) (.k (.int 0))) .nil)))
 .nil) (.cons (.ifs (.cmp .eq (.v 2) (.k (.str "open"))) (.cons (.ex (.aW .append true (.fld (.idx (.fld (.v 0) "frames") (.neg (.k (.int 1)))) "fields") (.cons (.dm 1 10 "open_field" (.v 0) .nil) .nil)))
 .nil) (.cons (.ifs (.cmp .eq (.v 2) (.k (.str "shut"))) (.cons (.ex (.dm 1 11 "shut_field" (.v 0) (.cons (.aW .pop true (.fld (.idx (.fld (.v 0) "frames") (.neg (.k (.int 1)))) "fields") .nil) .nil)))
 .nil) (.cons (.ex (.dm 1 15 "reckon" (.v 0) (.cons (.v 2) .nil)))
 .nil))
 .nil))
 .nil))
 .nil))
 .nil))
 .nil))
 .nil))
 .nil))
 .nil))))⟩
noncomputable def cy:List PySem.Str:=["self", "value", "todo", "cell"]
noncomputable def bO:Fn:=⟨2,4,[],false,
 (.cons (.set 2 (.lst false (.cons (.v 1) .nil)))
 (.cons (.while (.cmp .ne (.v 2) (.lst true .nil)) (.cons (.set 3 (.aW .pop true (.v 2) .nil))
 (.cons (.ifs (.uI (.v 3) .tuple) (.cons (.ex (.dm 1 12 "want_open" (.v 0) (.cons (.idx (.v 3) (.k (.int 4))) .nil)))
 (.cons (.ex (.aW .extend true (.v 2) (.cons (.sl true (.v 3) (.some (.k (.int 2))) (.some (.k (.int 4)))) .nil)))
 .nil)) .nil)
 .nil)))
 .nil))⟩
noncomputable def fK:List PySem.Str:=["self", "value"]
noncomputable def eF:Fn:=⟨1,2,[],false,
 (.cons (.set 1 (.aW .pop true (.fld (.v 0) "pile") .nil))
 (.cons (.ex (.dm 1 20 "want_all_open" (.v 0) (.cons (.v 1) .nil)))
 (.cons (.ret (.call 5 (.cons (.v 1) .nil)))
 .nil)))⟩
noncomputable def iT:List PySem.Str:=["_law_cell"]
noncomputable def jE:Fn:=⟨1,1,[],false,
 (.cons (.ret (.op .mod true (.op .mul true (.op .mul true (.op .add true (.op .mod true (.v 0) (.k (.int 2147483647))) (.k (.int 11))) (.k (.int 48271))) (.k (.int 69621))) (.k (.int 2147483629))))
 .nil)⟩
noncomputable def gP:List PySem.Str:=["_law_script", "_law_k"]
noncomputable def g7:Fn:=⟨2,2,[],false,
 (.cons (.ifs (.cmp .lt (.v 1) (.blt .len true (.cons (.v 0) .nil))) (.cons (.ret (.call 22 (.cons (.idx (.v 0) (.v 1)) .nil)))
 .nil) .nil)
 (.cons (.ret (.call 22 (.cons (.v 1) .nil)))
 .nil))⟩
noncomputable def jk:List PySem.Str:=["_law_number", "_law_many", "_law_outer", "_law_last", "_law_opens", "_law_width", "_law_more", "_law_handed", "_law_args"]
noncomputable def lI:Fn:=⟨4,9,[],false,
 (.cons (.set 4 (.op .mod true (.v 0) (.k (.int 2))))
 (.cons (.set 5 (.op .add true (.v 2) (.v 4)))
 (.cons (.set 6 (.op .mul true (.k (.int 6)) (.ng .int (.cmp .eq (.op .mod true (.op .fdiv true (.v 0) (.k (.int 7))) (.k (.int 8))) (.k (.int 3))))))
 (.cons (.set 7 (.w9 (.cmp .gt (.v 5) (.k (.int 0))) (.comp true [5,0] [2] (.op .mod true (.op .fdiv true (.v 1) (.op .add true (.k (.int 5)) (.v 2))) (.v 0)) (.cR (.op .add true (.v 6) (.op .mod true (.op .fdiv true (.v 0) (.k (.int 2))) (.k (.int 4))))) .none) (.lst true .nil)))
 (.cons (.set 8 (.comp true [0,1] [2] (.op .mod true (.op .fdiv true (.v 0) (.op .add true (.k (.int 11)) (.v 2))) (.op .add true (.v 1) (.k (.int 1)))) (.cR (.op .add true (.op .add true (.k (.int 1)) (.v 6)) (.op .mod true (.op .fdiv true (.v 0) (.k (.int 8))) (.k (.int 3))))) .none))
 (.cons (.ret (.tup (.cons (.v 4) (.cons (.v 7) (.cons (.v 8) (.cons (.op .mod true (.op .fdiv true (.v 0) (.k (.int 24))) (.k (.int 4))) (.cons (.op .fdiv true (.v 0) (.k (.int 96))) (.cons (.v 3) .nil))))))))
 .nil))))))⟩
noncomputable def fY:List PySem.Str:=["_law_numbers", "_law_many", "_law_outer", "_law_found", "_law_k", "_law_one"]
noncomputable def fO:Fn:=⟨3,6,[],false,
 (.cons (.set 3 (.lst false .nil))
 (.cons (.for [4] (.cR (.blt .len true (.cons (.v 0) .nil))) (.cons (.set 5 (.call 24 (.cons (.idx (.v 0) (.v 4)) (.cons (.v 1) (.cons (.v 2) (.cons (.cmp .eq (.v 4) (.op .sub true (.blt .len true (.cons (.v 0) .nil)) (.k (.int 1)))) .nil))))))
 (.cons (.ex (.aW .append true (.v 3) (.cons (.op .add true (.tup (.cons (.v 1) (.cons (.v 2) .nil))) (.v 5)) .nil)))
 (.cons (.set 1 (.blt .len true (.cons (.idx (.v 5) (.k (.int 2))) .nil)))
 (.cons (.set 2 (.blt .len true (.cons (.idx (.v 5) (.k (.int 1))) .nil)))
 .nil)))))
 (.cons (.ret (.v 3))
 .nil)))⟩
noncomputable def gv:List PySem.Str:=["_law_number", "_law_many", "_law_rows_here", "_law_k"]
noncomputable def gw:Fn:=⟨2,4,[],false,
 (.cons (.set 2 (.lst false (.cons (.tup (.cons (.k (.str "number")) (.cons (.op .mod true (.v 0) (.k (.int 1000))) .nil))) .nil)))
 (.cons (.for [3] (.cR (.v 1)) (.cons (.ex (.aW .append true (.v 2) (.cons (.tup (.cons (.k (.str "local")) (.cons (.v 3) .nil))) .nil)))
 (.cons (.ex (.aW .append true (.v 2) (.cons (.tup (.cons (.idx (.lst true (.cons (.k (.str "plus")) (.cons (.k (.str "minus")) (.cons (.k (.str "less")) .nil)))) (.op .mod true (.op .fdiv true (.v 0) (.op .add true (.v 3) (.k (.int 2)))) (.k (.int 3)))) .nil)) .nil)))
 .nil)))
 (.cons (.ret (.v 2))
 .nil)))⟩
noncomputable def jW:List PySem.Str:=["_law_number", "_law_held", "_law_found", "_law_k", "_law_word"]
noncomputable def nh:Fn:=⟨2,5,[],false,
 (.cons (.set 2 (.op .mod true (.v 0) (.k (.int 1000))))
 (.cons (.for [3] (.cR (.blt .len true (.cons (.v 1) .nil))) (.cons (.set 4 (.op .mod true (.op .fdiv true (.v 0) (.op .add true (.v 3) (.k (.int 2)))) (.k (.int 3))))
 (.cons (.set 2 (.idx (.lst true (.cons (.op .add true (.v 2) (.idx (.v 1) (.v 3))) (.cons (.op .sub true (.v 2) (.idx (.v 1) (.v 3))) (.cons (.ng .int (.cmp .lt (.v 2) (.idx (.v 1) (.v 3)))) .nil)))) (.v 4)))
 .nil)))
 (.cons (.ret (.v 2))
 .nil)))⟩
noncomputable def jl:List PySem.Str:=["_law_function", "_law_number", "_law_many", "_law_outer", "_law_opens", "_law_handed", "_law_args", "_law_lays", "_law_more", "_law_last", "_law_rows_here", "_law_k"]
noncomputable def lJ:Fn:=⟨2,12,[],false,
 (.cons (.tu [2,3,4,5,6,7,8,9] (.v 0))
 (.cons (.set 10 (.op .add true (.op .add true (.call 26 (.cons (.v 8) (.cons (.v 2) .nil))) (.lst true (.cons (.tup (.cons (.k (.str "keep")) .nil)) .nil))) (.op .mul true (.lst true (.cons (.tup (.cons (.k (.str "open")) .nil)) .nil)) (.v 4))))
 (.cons (.ifs (.cmp .gt (.op .add true (.v 3) (.v 4)) (.k (.int 0))) (.cons (.for [11] (.cR (.v 7)) (.cons (.set 10 (.op .add true (.v 10) (.lst true (.cons (.tup (.cons (.k (.str "local")) (.cons (.v 2) .nil))) (.cons (.tup (.cons (.k (.str "nil")) .nil)) (.cons (.tup (.cons (.k (.str "pair")) (.cons (.op .mod true (.op .add true (.v 8) (.v 11)) (.op .add true (.v 3) (.v 4))) .nil))) (.cons (.tup (.cons (.k (.str "first")) .nil)) (.cons (.tup (.cons (.k (.str "keep")) .nil)) .nil))))))))
 (.cons (.set 10 (.op .add true (.v 10) (.lst true (.cons (.tup (.cons (.k (.str "drop")) .nil)) .nil))))
 .nil)))
 .nil) .nil)
 (.cons (.set 10 (.op .add true (.v 10) (.lst true (.cons (.tup (.cons (.k (.str "local")) (.cons (.v 2) .nil))) .nil))))
 (.cons (.ifs (.not (.v 9)) (.cons (.set 10 (.op .add true (.op .add true (.v 10) (.comp true [] [0] (.tup (.cons (.k (.str "local")) (.cons (.v 0) .nil))) (.e (.v 6)) .none)) (.lst true (.cons (.tup (.cons (.k (.str "call")) (.cons (.op .add true (.v 1) (.k (.int 1))) (.cons (.blt .len true (.cons (.v 6) .nil)) (.cons (.blt .tuple true (.cons (.v 5) .nil)) .nil))))) (.cons (.tup (.cons (.k (.str "plus")) .nil)) .nil)))))
 .nil) .nil)
 (.cons (.ret (.op .add true (.op .add true (.v 10) (.op .mul true (.lst true (.cons (.tup (.cons (.k (.str "shut")) .nil)) .nil)) (.v 4))) (.lst true (.cons (.tup (.cons (.k (.str "back")) .nil)) .nil))))
 .nil))))))⟩
noncomputable def jn:List PySem.Str:=["_law_functions_here", "_law_turned", "_law_outer", "_law_begins", "_law_rows_here", "_law_order", "_law_k", "_law_laid", "_law_row"]
noncomputable def lM:Fn:=⟨3,9,[],false,
 (.cons (.set 3 .sJ)
 (.cons (.set 4 (.lst true .nil))
 (.cons (.set 5 (.yS true (.blt .len true (.cons (.v 0) .nil))))
 (.cons (.ifs (.v 1) (.cons (.set 5 (.rv true (.v 5)))
 .nil) .nil)
 (.cons (.for [6] (.e (.v 5)) (.cons (.mh (.v 3) (.v 6) (.blt .len true (.cons (.v 4) .nil)))
 (.cons (.set 4 (.op .add true (.v 4) (.call 28 (.cons (.idx (.v 0) (.v 6)) (.cons (.v 6) .nil)))))
 .nil)))
 (.cons (.set 7 (.lst false .nil))
 (.cons (.for [8] (.e (.v 4)) (.cons (.ifs (.cmp .eq (.idx (.v 8) (.k (.int 0))) (.k (.str "call"))) (.cons (.set 8 (.tup (.cons (.k (.str "call")) (.cons (.idx (.v 3) (.idx (.v 8) (.k (.int 1)))) (.cons (.idx (.v 8) (.k (.int 2))) (.cons (.idx (.v 8) (.k (.int 3))) .nil))))))
 .nil) .nil)
 (.cons (.ex (.aW .append true (.v 7) (.cons (.v 8) .nil)))
 .nil)))
 (.cons (.ret (.tup (.cons (.v 7) (.cons (.idx (.v 3) (.k (.int 0))) (.cons (.v 2) .nil)))))
 .nil))))))))⟩
noncomputable def jm:List PySem.Str:=["_law_functions_here", "_law_held", "_law_fields", "_law_log", "_law_opened", "_law_many", "_law_outer", "_law_opens", "_law_handed", "_law_args", "_law_lays", "_law_more", "_law_last", "_law_made_up", "_law_k", "_law_locals_handed", "_law_got"]
noncomputable def lK:Fn:=⟨5,17,[],false,
 (.cons (.tu [5,6,7,8,9,10,11,12] (.idx (.v 0) (.k (.int 0))))
 (.cons (.set 13 (.call 27 (.cons (.v 11) (.cons (.v 1) .nil))))
 (.cons (.set 1 (.op .add true (.v 1) (.lst true (.cons (.v 13) .nil))))
 (.cons (.set 2 (.op .add true (.v 2) (.Cm true (.v 4) (.op .add true (.v 4) (.v 7)))))
 (.cons (.for [14] (.cR (.v 7)) (.cons (.ex (.aW .append true (.v 3) (.cons (.tup (.cons (.k (.str "open")) (.cons (.op .add true (.v 4) (.v 14)) .nil))) .nil)))
 .nil))
 (.cons (.set 4 (.op .add true (.v 4) (.v 7)))
 (.cons (.ifs (.cmp .gt (.blt .len true (.cons (.v 2) .nil)) (.k (.int 0))) (.cons (.for [14] (.cR (.v 10)) (.cons (.ex (.aW .append true (.v 3) (.cons (.tup (.cons (.k (.str "lay")) (.cons (.idx (.v 2) (.op .mod true (.op .add true (.v 11) (.v 14)) (.blt .len true (.cons (.v 2) .nil)))) .nil))) .nil)))
 (.cons (.ex (.aW .append true (.v 3) (.cons (.tup (.cons (.k (.str "look")) (.cons (.idx (.v 2) (.op .mod true (.op .add true (.v 11) (.v 14)) (.blt .len true (.cons (.v 2) .nil)))) .nil))) .nil)))
 .nil)))
 .nil) .nil)
 (.cons (.ifs (.not (.v 12)) (.cons (.set 15 (.comp true [1] [1] (.idx (.v 0) (.v 1)) (.e (.v 9)) .none))
 (.cons (.tu [16,4] (.call 30 (.cons (.sl true (.v 0) (.some (.k (.int 1))) .none) (.cons (.v 15) (.cons (.comp true [2] [1] (.idx (.v 0) (.v 1)) (.e (.v 8)) .none) (.cons (.v 3) (.cons (.v 4) .nil)))))))
 (.cons (.set 13 (.op .add true (.v 13) (.v 16)))
 .nil))) .nil)
 (.cons (.for [14] (.cR (.v 7)) (.cons (.ex (.aW .append true (.v 3) (.cons (.tup (.cons (.k (.str "shut")) (.cons (.idx (.v 2) (.op .sub true (.neg (.k (.int 1))) (.v 14))) .nil))) .nil)))
 .nil))
 (.cons (.ret (.tup (.cons (.v 13) (.cons (.v 4) .nil))))
 .nil))))))))))⟩
noncomputable def qz:List PySem.Str:=["_law_script", "_law_more", "_law_outer", "_law_numbers", "_law_seeds", "_law_functions_here", "_law_code_here", "_law_log", "_law_value", "_law_opened", "_law_kept", "_law_given", "_law_found"]
noncomputable def Ec:Fn:=⟨1,13,[],false,
 (.cons (.set 1 (.op .mul true (.k (.int 6)) (.ng .int (.cmp .eq (.op .mod true (.op .fdiv true (.call 23 (.cons (.v 0) (.cons (.k (.int 0)) .nil))) (.k (.int 3))) (.k (.int 8))) (.k (.int 3))))))
 (.cons (.set 2 (.op .add true (.v 1) (.op .mod true (.call 23 (.cons (.v 0) (.cons (.k (.int 0)) .nil))) (.k (.int 3)))))
 (.cons (.set 3 (.comp true [0] [1] (.op .mod true (.call 23 (.cons (.v 0) (.cons (.op .add true (.k (.int 1)) (.v 1)) .nil))) (.op .pow true (.k (.int 10)) (.k (.int 6)))) (.cR (.op .add true (.v 1) (.op .mod true (.call 23 (.cons (.v 0) (.cons (.k (.int 1)) .nil))) (.k (.int 4))))) .none))
 (.cons (.set 4 (.comp true [] [0] (.call 22 (.cons (.v 0) .nil)) (.e (.sl true (.v 0) (.some (.k (.int 4))) (.some (.k (.int 10))))) .none))
 (.cons (.ifs (.cmp .eq (.v 4) (.lst true .nil)) (.cons (.set 4 (.lst true (.cons (.call 23 (.cons (.v 0) (.cons (.k (.int 3)) .nil))) .nil)))
 .nil) .nil)
 (.cons (.set 5 (.call 25 (.cons (.v 4) (.cons (.blt .len true (.cons (.v 3) .nil)) (.cons (.v 2) .nil)))))
 (.cons (.set 6 (.call 29 (.cons (.v 5) (.cons (.cmp .eq (.op .mod true (.call 23 (.cons (.v 0) (.cons (.k (.int 3)) .nil))) (.k (.int 2))) (.k (.int 1))) (.cons (.v 2) .nil)))))
 (.cons (.set 7 (.comp false [] [0] (.tup (.cons (.k (.str "open")) (.cons (.v 0) .nil))) (.cR (.v 2)) .none))
 (.cons (.tu [8,9] (.call 30 (.cons (.v 5) (.cons (.blt .list true (.cons (.v 3) .nil)) (.cons (.yS true (.v 2)) (.cons (.v 7) (.cons (.v 2) .nil)))))))
 (.cons (.set 7 (.op .add false (.v 7) (.comp true [2] [1] (.tup (.cons (.k (.str "shut")) (.cons (.op .sub true (.op .sub true (.v 0) (.k (.int 1))) (.v 1)) .nil))) (.cR (.v 2)) .none)))
 (.cons (.set 10 (.tup (.cons (.blt .list true (.cons (.idx (.v 6) (.k (.int 0))) .nil)) (.cons (.idx (.v 6) (.k (.int 1))) (.cons (.idx (.v 6) (.k (.int 2))) .nil)))))
 (.cons (.set 11 (.blt .list true (.cons (.v 3) .nil)))
 (.cons (.set 12 (.jL 7 (.cons (.v 6) (.cons (.v 11) .nil)) 200))
 (.cons (.ifs (.or (.cmp .ne (.v 6) (.v 10)) (.or (.cmp .ne (.v 11) (.v 3)) (.not (.uI (.v 12) .tuple)))) (.cons (.ret (.k (.bl false)))
 .nil) .nil)
 (.cons (.ret (.and (.cmp .eq (.v 12) (.tup (.cons (.v 8) (.cons (.v 7) .nil)))) (.cmp .eq (.call 7 (.cons (.v 6) (.cons (.v 11) (.cons (.op .sub true (.blt .len true (.cons (.v 5) .nil)) (.k (.int 1))) .nil)))) (.tup (.cons (.v 8) (.cons (.v 7) .nil))))))
 .nil)))))))))))))))⟩
noncomputable def fns:List Fn:=[ji,gJ,cZ,iw,jD,zK,ez,uS,eG,c9,cA,cz,cJ,g9,gz,eE,fQ,iU,fP,bY,bO,eF,jE,g7,lI,fO,gw,nh,lJ,lM,lK,Ec]
noncomputable def cst:List D:=[(.int 1000),(.int 12)]
noncomputable def subs:List (Nat×Nat):=[(0,0),(1,0),(1,1),(2,0),(2,2),(3,0),(3,3),(4,0),(4,4),(5,0),(5,5)]
noncomputable def ah:nB:=⟨fun i=>fns[i]?,fun i=>cst[i]?,100000,fun a b=>subs.contains (a,b)⟩
end bA
end
section
set_option maxHeartbeats 0
namespace bA
open Fg PySem PySem.Spec L2
noncomputable abbrev hdP:Program:=PySem.Challenge.pw_fieldgate_k43_calls_of_rows
noncomputable def bH (i:Nat):Stmt:=hdP.main.body.getD i (.Pass ⟨0,0,0,0⟩)
noncomputable def tb:Tb:=⟨[
 ⟨"size_of", "size_of", bH 10, ["value"], jV, 0, none⟩,
 ⟨"cell_of", "cell_of", bH 11, ["word", "first", "second"], jX, 1, none⟩,
 ⟨"want_few_figures", "want_few_figures", bH 12, ["number"], dN, 2, none⟩,
 ⟨"reckoned", "reckoned", bH 13, ["word", "first", "second"], jj, 3, none⟩,
 ⟨"looked_up", "looked_up", bH 14, ["word", "value"], iS, 4, none⟩,
 ⟨"told", "told", bH 15, ["value"], oz, 5, none⟩,
 ⟨"want_few_calls", "want_few_calls", bH 16, ["begun", "under_way", "most"], fH, 6, none⟩,
 ⟨"run", "run", bH 20, ["code", "numbers", "most"], qy, 7, some 200⟩,
 ⟨"_law_mixed", "_law_mixed", bH 22, ["_law_cell"], iT, 22, none⟩,
 ⟨"_law_cell_at", "_law_cell_at", bH 23, ["_law_script", "_law_k"], gP, 23, none⟩,
 ⟨"_law_told", "_law_told", bH 24, ["_law_number", "_law_many", "_law_outer", "_law_last"], jk, 24, none⟩,
 ⟨"_law_functions", "_law_functions", bH 25, ["_law_numbers", "_law_many", "_law_outer"], fY, 25, none⟩,
 ⟨"_law_sum_rows", "_law_sum_rows", bH 26, ["_law_number", "_law_many"], gv, 26, none⟩,
 ⟨"_law_sum", "_law_sum", bH 27, ["_law_number", "_law_held"], jW, 27, none⟩,
 ⟨"_law_rows", "_law_rows", bH 28, ["_law_function", "_law_number"], jl, 28, none⟩,
 ⟨"_law_code", "_law_code", bH 29, ["_law_functions_here", "_law_turned", "_law_outer"], jn, 29, none⟩,
 ⟨"_law_down", "_law_down", bH 30, ["_law_functions_here", "_law_held", "_law_fields", "_law_log", "_law_opened"], jm, 30, none⟩,
 ⟨"law", "law", bH 31, ["_law_script"], qz, 31, none⟩],
 ["Frame", "Machine"],
 [(0, ⟨"__init__", "Frame.__init__", inClass (bH 18) 0, ["self", "known", "fields", "behind_call"], fL, 8, none⟩),
 (1, ⟨"__init__", "Machine.__init__", inClass (bH 19) 0, ["self", "rows", "most"], dO, 9, none⟩),
 (1, ⟨"open_field", "Machine.open_field", inClass (bH 19) 1, ["self"], c8, 10, none⟩),
 (1, ⟨"shut_field", "Machine.shut_field", inClass (bH 19) 2, ["self", "field"], c7, 11, none⟩),
 (1, ⟨"want_open", "Machine.want_open", inClass (bH 19) 3, ["self", "field"], dw, 12, none⟩),
 (1, ⟨"lay", "Machine.lay", inClass (bH 19) 4, ["self", "word", "field"], gQ, 13, none⟩),
 (1, ⟨"look", "Machine.look", inClass (bH 19) 5, ["self", "word"], gy, 14, none⟩),
 (1, ⟨"reckon", "Machine.reckon", inClass (bH 19) 6, ["self", "word"], fJ, 15, none⟩),
 (1, ⟨"carry", "Machine.carry", inClass (bH 19) 7, ["self", "row"], gb, 16, none⟩),
 (1, ⟨"go", "Machine.go", inClass (bH 19) 8, ["self", "row"], iy, 17, none⟩),
 (1, ⟨"enter", "Machine.enter", inClass (bH 19) 9, ["self", "begin", "many", "numbers"], fZ, 18, none⟩),
 (1, ⟨"step", "Machine.step", inClass (bH 19) 10, ["self"], gx, 19, none⟩),
 (1, ⟨"want_all_open", "Machine.want_all_open", inClass (bH 19) 11, ["self", "value"], cy, 20, none⟩),
 (1, ⟨"answer", "Machine.answer", inClass (bH 19) 12, ["self"], fK, 21, none⟩)],
 ["GateError", "TooGreat", "Empty", "TooLong", "TooDeep", "Gone"],
 [("MOST_SIZE", 0, 1000), ("MOST_UNDER_WAY", 1, 12)],
 ["len", "tuple", "list", "int", "abs", "range", "isinstance", "reversed"],
 ["place", "known", "fields", "behind_call", "rows", "most", "begun", "pile", "frames", "lies_open", "log"],
 [],
 []⟩
noncomputable def Mq:Program:=W.view hdP [31]
noncomputable def hdL:List Str:=["GateError", "TooGreat", "Empty", "TooLong", "TooDeep", "Gone", "MOST_SIZE", "MOST_UNDER_WAY", "size_of", "cell_of", "want_few_figures", "reckoned", "looked_up", "told", "want_few_calls", "Frame", "Machine", "run", "_law_mixed", "_law_cell_at", "_law_told", "_law_functions", "_law_sum_rows", "_law_sum", "_law_rows", "_law_code", "_law_down"]
noncomputable def hdX (s:Shared):Bool:=W.xlAt Mq [] s&&W.recOk (W.RowW.records PySem.Challenge.rw_fieldgate_k43_calls_of_rows.row.toRowW) s
theorem lft:W.LeftO hdP Mq hdL hdX (tb.hook ah).obs (tb.hook ah).val 20000:=fun w=>by kernel_rfl
end bA
end
section
namespace L2
open PySem PySem.Spec PyProof.Rows
noncomputable abbrev Key:=Sum Int Str
noncomputable def lA:Key->Value->Bool
 | .inl k,v=>Value.isInt k v
 | .inr x,v=>Value.isStrOf x v
noncomputable def keyH (w:World):Key->Int
 | .inl k=>hashInt k
 | .inr x=>hashStr w x
theorem aN:∀ {k:Key} {v:Value},lA k v=true->(∃ i t,k=Sum.inl i/\v=Value.int i t)\/(∃ x t,k=Sum.inr x/\v=Value.str x t)
 | .inl i,v,h=>by
  obtain ⟨t,e⟩:=Value.isInt_shape (k:=i) (v:=v) h
  exact .inl ⟨i,t,rfl,e⟩
 | .inr x,v,h=>by
  obtain ⟨t,e⟩:=Value.isStrOf_shape (x:=x) (v:=v) h
  exact .inr ⟨x,t,rfl,e⟩
theorem v9 (i:Int) (t:Tok):lA (.inl i) (.int i t)=true:=by simp [lA,Value.isInt]
theorem jg (x:Str) (t:Tok):lA (.inr x) (.str x t)=true:=by simp [lA,Value.isStrOf]
theorem GJ (a b:Int):decide ((Sum.inl a:Key)=Sum.inl b)=(a == b):=by
 by_cases e:a=b
 ·subst e;simp
 ·have h:¬ (Sum.inl a:Key)=Sum.inl b:=fun q=>e (Sum.inl.inj q)
  rw [decide_eq_false h]
  exact (beq_eq_false_iff_ne.mpr e).symm
theorem GG (a b:Str):decide ((Sum.inr a:Key)=Sum.inr b)=decide (a=b):=by
 by_cases e:a=b
 ·subst e;simp
 ·have h:¬ (Sum.inr a:Key)=Sum.inr b:=fun q=>e (Sum.inr.inj q)
  rw [decide_eq_false h,decide_eq_false e]
theorem GI (a:Int) (b:Str):decide ((Sum.inl a:Key)=Sum.inr b)=false:=decide_eq_false (fun q=>nomatch q)
theorem GH (a:Str) (b:Int):decide ((Sum.inr a:Key)=Sum.inl b)=false:=decide_eq_false (fun q=>nomatch q)
noncomputable def aM (prog:Program) (w:World):PySem.KeyKind prog w Key where
 is:=lA
 hash:=keyH w
 inj:=fun v a b ha hb=>by
  rcases aN ha with ⟨i,t,rfl,rfl⟩ | ⟨x,t,rfl,rfl⟩
  ·rcases aN hb with ⟨j,u,rfl,e⟩ | ⟨y,u,rfl,e⟩
   ·injection e with e1 _;rw [e1]
   ·exact nomatch e
  ·rcases aN hb with ⟨j,u,rfl,e⟩ | ⟨y,u,rfl,e⟩
   ·exact nomatch e
   ·injection e with e1 _;rw [e1]
 byValue:=fun k v h=>by
  rcases aN h with ⟨i,t,rfl,rfl⟩ | ⟨x,t,rfl,rfl⟩ <;> rfl
 pyHash:=fun hv h=>by
  rcases aN hv with ⟨i,t,rfl,rfl⟩ | ⟨x,t,rfl,rfl⟩
  ·exact wpAny_pyHash_int h
  ·exact wpAny_pyHash_str h
 eqBool:=fun hu hv h=>by
  rcases aN hu with ⟨i,t,rfl,rfl⟩ | ⟨x,t,rfl,rfl⟩
  ·rcases aN hv with ⟨j,u,rfl,rfl⟩ | ⟨y,u,rfl,rfl⟩
   ·rw [GJ] at h;exact wpAny_eqBool_int h
   ·rw [GI] at h;exact SeqAt.EqAt.int_str i t y u _ _ _ _ h
  ·rcases aN hv with ⟨j,u,rfl,rfl⟩ | ⟨y,u,rfl,rfl⟩
   ·rw [GH] at h;exact SeqAt.EqAt.str_int x t j u _ _ _ _ h
   ·rw [GG] at h;exact wpAny_eqBool_str h
 «strs»:=fun k x t v h=>by
  rcases aN h with ⟨i,u,rfl,e⟩ | ⟨y,u,rfl,e⟩
  ·exact nomatch e
  ·injection e with e1 _
   subst e1
   cases v <;> rfl
theorem qf (prog:Program) (w:World) (i:Int) (t:Tok):(aM prog w).is (.inl i) (.int i t)=true:=v9 i t
theorem qe (prog:Program) (w:World) (x:Str) (t:Tok):(aM prog w).is (.inr x) (.str x t)=true:=jg x t
inductive V where
 | aq | bl (b:Bool) | int (i:Int) | str (x:Str) | xh (b:Array UInt8) | My (b:UInt64) | ref (a:Addr) | ty (n:String)
 deriving DecidableEq
noncomputable def RelV:V->Value->Prop
 | .aq,u=>u=Value.none
 | .bl b,u=>u=Value.bool b
 | .int i,u=>∃ t,u=Value.int i t
 | .str x,u=>∃ t,u=Value.str x t
 | .xh b,u=>∃ t,u=Value.bytes b t
 | .My b,u=>∃ t,u=Value.float b t
 | .ref a,u=>u=Value.ref a
 | .ty n,u=>u=Value.type n
noncomputable abbrev Vals:List V->List Value->Prop:=Paired RelV
theorem Vals.length {xs:List V} {us:List Value} (r:Vals xs us):xs.length=us.length:=Paired.length r
theorem Vals.get:∀ {xs:List V} {us:List Value} {i:Nat} {x:V},Vals xs us->xs[i]? = some x->∃ u,us[i]? = some u/\RelV x u
 | _,_,_,_,.nil,e=>by simp at e
 | _,_,0,_,.cons r _,e=>by simp at e;subst e;exact ⟨_,rfl,r⟩
 | _,_,i+1,x,.cons _ t,e=>by
  obtain ⟨u,h1,h2⟩:=Vals.get (i:=i) (x:=x) t (by simpa using e)
  exact ⟨u,by simpa using h1,h2⟩
theorem Vals.set {x:V} {u:Value} (r:RelV x u):∀ {xs:List V} {us:List Value} (i:Nat),Vals xs us->Vals (xs.set i x) (us.set i u)
 | _,_,_,.nil=>.nil
 | _,_,0,.cons _ t=>.cons r t
 | _,_,i+1,.cons q t=>.cons q (Vals.set r i t)
theorem Vals.append:∀ {xs ys:List V} {us ws:List Value},Vals xs us->Vals ys ws->Vals (xs++ys) (us++ws)
 | _,_,_,_,.nil,s=>s
 | _,_,_,_,.cons r t,s=>.cons r (Vals.append t s)
theorem Vals.take:∀ {xs:List V} {us:List Value} (n:Nat),Vals xs us->Vals (xs.take n) (us.take n)
 | _,_,0,_=>.nil
 | _,_,_+1,.nil=>.nil
 | _,_,n+1,.cons r t=>.cons r (Vals.take n t)
theorem Vals.drop:∀ {xs:List V} {us:List Value} (n:Nat),Vals xs us->Vals (xs.drop n) (us.drop n)
 | _,_,0,r=>r
 | _,_,_+1,.nil=>.nil
 | _,_,n+1,.cons _ t=>Vals.drop n t
noncomputable def gE:Option V->Option Value->Prop
 | some v,some u=>RelV v u
 | none,none=>True
 | _,_=>False
noncomputable def KV {κ:Type}:List (κ×V)->List (κ×Value)->Prop:=Paired fun (p:κ×V) (q:κ×Value)=>p.1=q.1/\RelV p.2 q.2
noncomputable def kV:Key->V
 | .inl i=>.int i
 | .inr x=>.str x
inductive HO where
 | lst (xs:List V)
 | tup (xs:List V)
 | dK (kvs:List (Key×V)) | dT (kvs:List (List Key×V))
 | set (S:Int->Bool) (n:Nat)
 | ins (C dx:Addr) (fs:List (Str×V))
 | own (x:Addr)
 | xd (fs:List (Str×V))
 | met (f x:Addr)
 | cR (lo hi:Int)
 | gI (o:Obj) (u:HO)
 | Dz (ps:Array Value)
 | ext (φ:Heap->Prop)
noncomputable abbrev Hp:=Addr->Option HO
noncomputable def upd (H:Hp) (a:Addr) (o:HO):Hp:=fun b=>if b=a then some o else H b
theorem aA {H:Hp} {a:Addr} {o:HO}:upd H a o a=some o:=by unfold upd;rw [if_pos rfl]
theorem ao {H:Hp} {a b:Addr} {o:HO} (h:b≠a):upd H a o b=H b:=by unfold upd;rw [if_neg h]
theorem Kn {H:Hp} {a b:Addr} {o u:HO} (h:H a=some o) (h':H b=some u) (d:o≠u):a≠b:=by
 intro e;subst e;rw [h] at h';exact d (Option.some.inj h')
theorem cX {H:Hp} {a b:Addr} {o:HO} (h:H a=some o) (h':H b=none):a≠b:=by
 intro e;subst e;rw [h] at h';cases h'
section
variable (P:Program) (w:World)
noncomputable def aV (H:Hp) (h:Heap) (a:Addr):HO->Prop
 | .lst xs=>xs.length<=sizeLine/\∃ (its:List Value) (n:Nat), Vals xs its/\h.get? a=some { cls:=.type "list", data:=.seq its.toArray n }
 | .tup xs=>xs.length<=sizeLine/\∃ its:List Value,Vals xs its/\IsTup h a its.toArray
 | .dK kvs=>kvs.length<=sizeLine/\(a == sysModules)=false/\∃ vs,KV kvs vs/\h.DictOf (aM P w) a vs
 | .dT kvs=>kvs.length<=sizeLine/\(a == sysModules)=false/\∃ xs:List (List Key×Addr×Value),
   Paired (fun (p:List Key×V) (q:List Key×Addr×Value)=>p.1=q.1/\H q.2.1=some (.tup (p.1.map kV))/\RelV p.2 q.2.2) kvs xs /\
   ∃ o es ep,h.get? a=some o/\o.ExactDict/\o.data=.dict es ep/\es.toList=xs.map (entryOfKey (tupleKind (aM P w)))/\(xs.map (·.1)).Nodup
 | .set S n=>h.SetOf (intKind P w) a S n
 | .ins C dx fs=>H dx=some (.own a)/\fs.length<=1000/\dx≠a/\h.get? a=some (PySem.W.instObj C dx) /\
   ∃ mA,h.Ns1 dx mA/\(∀ f,gE (fs.lookup f) (mA f))/\PySem.Within mA (fs.map (·.1))
 | .own _=>∃ o,h.get? a=some o
 | .xd fs=>∃ mA,h.Ns1 a mA/\∀ f,gE (fs.lookup f) (mA f)
 | .cR lo hi=>∃ t u v, h.get? a=some { cls:=.type "range", data:=.fields #[.int lo t, .int hi u, .int 1 v] }
 | .gI o u=>h.get? a=some o/\aV H h a u
 | .Dz ps=>h.get? a=some { cls:=.none,data:=.fields ps }
 | .met f x=>h.get? a=some (PySem.W.methodObj (.ref f) (.ref x))
 | .ext φ=>φ h/\(∃ o,h.get? a=some o)/\∀ h1 h2:Heap,φ h1->(∀ o,h1.get? a=some o->h2.get? a=some o)->φ h2
noncomputable def gU (H:Hp) (h:Heap):Prop:=∀ a o,H a=some o->aV P w H h a o
end
section
variable {P:Program} {w:World} {H H':Hp} {h h':Heap} {a:Addr} {o:HO}
theorem aV.lt (x:aV P w H h a o):a<h.objs.size:=by
 cases o with
 | lst xs=>obtain ⟨_,_,_,_,e⟩:=x;exact Heap.lt_size e
 | tup xs=>obtain ⟨_,_,_,p⟩:=x;exact p.lt
 | dK kvs=>obtain ⟨_,_,_,_,o,_,_,e,_⟩:=x;exact Heap.lt_size e
 | dT kvs=>obtain ⟨_,_,_,_,o,_,_,e,_⟩:=x;exact Heap.lt_size e
 | set S n=>obtain ⟨o,_,_,_,e,_⟩:=x;exact Heap.lt_size e
 | ins C dx fs=>obtain ⟨_,_,_,e,_⟩:=x;exact Heap.lt_size e
 | own y=>obtain ⟨_,e⟩:=x;exact Heap.lt_size e
 | xd fs=>obtain ⟨_,⟨_,_,_,e,_⟩,_⟩:=x;exact Heap.lt_size e
 | cR lo hi=>obtain ⟨_,_,_,e⟩:=x;exact Heap.lt_size e
 | gI ob u=>obtain ⟨e,_⟩:=x;exact Heap.lt_size e
 | Dz ps=>exact Heap.lt_size (show h.get? a=some _ from x)
 | met f y=>exact Heap.lt_size (show h.get? a=some _ from x)
 | ext φ=>obtain ⟨_,⟨_,e⟩,_⟩:=x;exact Heap.lt_size e
theorem Paired.Gu {α β:Type} {F G:α->β->Prop}:∀ {l₁:List α} {l₂:List β},Paired F l₁ l₂->(∀ a b,F a b->G a b)->Paired G l₁ l₂
 | _,_,.nil,_=>.nil
 | _,_,.cons r t,f=>.cons (f _ _ r) (Paired.Gu t f)
theorem aV.stay (x:aV P w H h a o) (k:∀ b u,(b=a\/H b=some (.own a))->h.get? b=some u->h'.get? b=some u)
  (ho:∀ b,H b=some (.own a)->H' b=some (.own a)) (ht:∀ b xs,H b=some (.tup xs)->H' b=some (.tup xs)):aV P w H' h' a o:=by
 induction o with
 | lst xs=>obtain ⟨z,its,n,r,e⟩:=x;exact ⟨z,its,n,r,k _ _ (.inl rfl) e⟩
 | tup xs=>obtain ⟨z,its,r,ob,e,c⟩:=x;exact ⟨z,its,r,ob,k _ _ (.inl rfl) e,c⟩
 | dK kvs=>obtain ⟨z,y,vs,r,ob,es,ep,e,c⟩:=x;exact ⟨z,y,vs,r,ob,es,ep,k _ _ (.inl rfl) e,c⟩
 | dT kvs =>
  obtain ⟨z,y,xs,r,ob,es,ep,e,c⟩:=x
  exact ⟨z,y,xs,Paired.Gu r fun p q z=>⟨z.1,ht _ _ z.2.1,z.2.2⟩,ob,es,ep,k _ _ (.inl rfl) e,c⟩
 | set S n=>obtain ⟨ob,es,ep,t,e,c⟩:=x;exact ⟨ob,es,ep,t,k _ _ (.inl rfl) e,c⟩
 | ins C dx fs =>
  obtain ⟨d,z,ne,e,mA,⟨od,es,ep,e2,c⟩,r⟩:=x
  exact ⟨ho _ d,z,ne,k _ _ (.inl rfl) e,mA,⟨od,es,ep,k _ _ (.inr d) e2,c⟩,r⟩
 | own y=>obtain ⟨ob,e⟩:=x;exact ⟨ob,k _ _ (.inl rfl) e⟩
 | xd fs=>obtain ⟨mA,⟨od,es,ep,e,c⟩,r⟩:=x;exact ⟨mA,⟨od,es,ep,k _ _ (.inl rfl) e,c⟩,r⟩
 | cR lo hi=>obtain ⟨t,u,v,e⟩:=x;exact ⟨t,u,v,k _ _ (.inl rfl) e⟩
 | gI ob u ih=>obtain ⟨e,q⟩:=x;exact ⟨k _ _ (.inl rfl) e,ih q⟩
 | Dz ps =>
  have e:h.get? a=some { cls:=.none,data:=.fields ps }:=x
  show h'.get? a=some { cls:=.none,data:=.fields ps }
  exact k a _ (.inl rfl) e
 | met f y =>
  have e:h.get? a=some (PySem.W.methodObj (.ref f) (.ref y)):=x
  show h'.get? a=some (PySem.W.methodObj (.ref f) (.ref y))
  exact k a _ (.inl rfl) e
 | ext φ=>obtain ⟨p,⟨o,e⟩,st⟩:=x;exact ⟨st _ _ p fun o q=>k _ _ (.inl rfl) q,⟨o,k _ _ (.inl rfl) e⟩,st⟩
theorem gU.lt (x:gU P w H h) (e:H a=some o):a<h.objs.size:=(x a o e).lt
theorem gU.fresh (x:gU P w H h) (e:h.objs.size<=a):H a=none:=by
 cases q:H a with
 | none=>rfl
 | some u=>exact absurd (Nat.lt_of_lt_of_le (x.lt q) e) (Nat.lt_irrefl _)
theorem gU.kept (x:gU P w H h) (k:∀ b u,h.get? b=some u->h'.get? b=some u):gU P w H h':=fun a o e =>
 (x a o e).stay (fun b u _ q=>k b u q) (fun _ q=>q) fun _ _ q=>q
theorem gU.laid (x:gU P w H h) (k:∀ b u,h.get? b=some u->h'.get? b=some u) (hp:h.objs.size<=a) (new:aV P w (upd H a o) h' a o):gU P w (upd H a o) h':=fun b u e=>by
 have hn:=x.fresh hp
 by_cases hb:b=a
 ·subst hb;rw [aA] at e;cases e;exact new
 ·rw [ao hb] at e
  exact (x b u e).stay (fun c v _ q=>k c v q) (fun c q=>by rw [ao (cX q hn)];exact q) fun c xs q=>by rw [ao (cX q hn)];exact q
end
noncomputable def Rd (H:Hp) (a:Addr) (u:HO):Prop:=H a=some u\/∃ o,H a=some (.gI o u)
theorem Rd.ok {P:Program} {w:World} {H:Hp} {h:Heap} {a:Addr} {u:HO} (r:Rd H a u) (x:gU P w H h):aV P w H h a u:=by
 rcases r with r | ⟨o,r⟩
 ·exact x a u r
 ·obtain ⟨_,q⟩:=x a _ r
  exact q
noncomputable def LO:Option HO->Prop
 | some (.lst _)=>True
 | some (.dK _)=>True
 | some (.dT _)=>True
 | some (.set _ _)=>True
 | some (.ins _ _ _)=>True
 | some (.ext _)=>True
 | _=>False
section
variable {P:Program} {w:World} {H:Hp} {h h':Heap} {x e:Addr} {o':HO}
theorem gU.write (ok:gU P w H h) (mu:LO (H x)) (he:e=x\/H e=some (.own x)) (k:∀ b u,b≠e->h.get? b=some u->h'.get? b=some u) (IE:∃ u,h'.get? e=some u)
  (new:aV P w (upd H x o') h' x o'):gU P w (upd H x o') h':=fun b u q=>by
 have Kg:∀ c y,H c=some (.own y)->c≠x:=fun c y r z=>by subst z;rw [r] at mu;exact mu
 have ntup:∀ c xs,H c=some (.tup xs)->c≠x:=fun c xs r z=>by subst z;rw [r] at mu;exact mu
 by_cases hb:b=x
 ·subst hb;rw [aA] at q;cases q;exact new
 ·rw [ao hb] at q
  by_cases Hv:b=e
  ·have q':H b=some (.own x):=by
    rcases he with z | z
    ·exact absurd (Hv.trans z) hb
    ·rw [Hv];exact z
   rw [q] at q';cases q'
   obtain ⟨v,hv⟩:=IE
   exact ⟨v,by rw [Hv];exact hv⟩
  ·refine (ok b u q).stay (fun c v hc r=>k c v ?_ r) (fun c r=>by rw [ao (Kg c b r)];exact r) fun c xs r=>by rw [ao (ntup c xs r)];exact r
   rcases hc with rfl | hc
   ·exact Hv
   ·rintro rfl
    rcases he with z | z
    ·exact Kg c b hc z
    ·rw [hc] at z;cases z;exact hb rfl
end
structure Un (fs ex:List Addr) (H H':Hp) (h h':Heap):Prop where
 keep:∀ b o,h.get? b=some o->H b=none->b∉fs->b∉ex->h'.get? b=some o
 slot:∀ b o,h.get? b=some o->H b=none->b∈fs->b∉ex->∃ sl,h'.get? b=some { o with slots:=sl }
 free:∀ b o,h.get? b=some o->H b=none->b∉ex->H' b=none
 there:∀ b o,h.get? b=some o->b∉ex->∃ o',h'.get? b=some o'
 tups:∀ b xs,H b=some (.tup xs)->H' b=some (.tup xs)
 gO:∀ b o u,H b=some (.gI o u)->H' b=some (.gI o u)
 iH:∀ b ps,H b=some (.Dz ps)->∃ more,H' b=some (.Dz (ps++more))
section
variable {fs fs' ex ex':List Addr} {H H1 H2:Hp} {h h1 h2 h':Heap} {a x e:Addr} {o:HO}
theorem Un.any (u:Un fs ex H H1 h h1) {b:Addr} {ob:Obj} (q:h.get? b=some ob) (n:H b=none) (hx:b∉ex):∃ sl,h1.get? b=some { ob with slots:=sl }:=by
 by_cases hb:b∈fs
 ·exact u.slot b ob q n hb hx
 ·exact ⟨ob.slots,u.keep b ob q n hb hx⟩
theorem Un.trans (a:Un fs ex H H1 h h1) (b:Un fs ex H1 H2 h1 h2):Un fs ex H H2 h h2 where
 keep:=fun c ob q n hc hx=>b.keep c ob (a.keep c ob q n hc hx) (a.free c ob q n hx) hc hx
 slot:=fun c ob q n hc hx=>by
  obtain ⟨sl,e1⟩:=a.slot c ob q n hc hx
  obtain ⟨DH,e2⟩:=b.slot c _ e1 (a.free c ob q n hx) hc hx
  exact ⟨DH,e2⟩
 free:=fun c ob q n hx=>by
  obtain ⟨o',e1⟩:=a.there c ob q hx
  exact b.free c o' e1 (a.free c ob q n hx) hx
 there:=fun c ob q hx=>by
  obtain ⟨o',e1⟩:=a.there c ob q hx
  exact b.there c o' e1 hx
 tups:=fun c xs q=>b.tups c xs (a.tups c xs q)
 gO:=fun c ob xs q=>b.gO c ob xs (a.gO c ob xs q)
 iH:=fun c ps q=>by
  obtain ⟨m1,e1⟩:=a.iH c ps q
  obtain ⟨m2,e2⟩:=b.iH c _ e1
  exact ⟨m1++m2,by rw [e2,Array.append_assoc]⟩
theorem Un.kept (k:∀ b u,h.get? b=some u->h'.get? b=some u):Un fs ex H H h h' :=
 ⟨fun b ob q _ _ _=>k b ob q,fun b ob q _ _ _=>⟨ob.slots,k b ob q⟩,fun _ _ _ n _=>n,fun b ob q _=>⟨ob,k b ob q⟩,fun _ _ q=>q,fun _ _ _ q=>q,fun _ ps q=>⟨#[],by rw [q];simp⟩⟩
theorem Un.refl:Un fs ex H H h h:=Un.kept fun _ _ q=>q
theorem Un.laid (k:∀ b u,h.get? b=some u->h'.get? b=some u) (hp:h.objs.size<=a) (hn:H a=none):Un fs ex H (upd H a o) h h' where
 keep:=fun b u q _ _ _=>k b u q
 slot:=fun b u q _ _ _=>⟨u.slots,k b u q⟩
 free:=fun b u q n _=>by rw [ao (Nat.ne_of_lt (Nat.lt_of_lt_of_le (Heap.lt_size q) hp))];exact n
 there:=fun b u q _=>⟨u,k b u q⟩
 tups:=fun b xs q=>by rw [ao (cX q hn)];exact q
 gO:=fun b u xs q=>by rw [ao (cX q hn)];exact q
 iH:=fun b ps q=>⟨#[],by rw [ao (cX q hn),q];simp⟩
theorem Un.write (mu:LO (H x)) (he:e=x\/H e=some (.own x)) (k:∀ b u,b≠e->h.get? b=some u->h'.get? b=some u) (IE:∃ u,h'.get? e=some u):Un fs ex H (upd H x o) h h':=by
 have hx:∀ b,H b=none->b≠x:=fun b n z=>by subst z;rw [n] at mu;exact mu
 have hb:∀ b,H b=none->b≠e:=fun b n z=>by
  subst z
  rcases he with r | r
  ·exact hx b n r
  ·rw [n] at r;cases r
 have hm:∀ b u,H b=some u->¬ LO (some u)->b≠x:=fun b u q nm z=>by subst z;rw [q] at mu;exact nm mu
 refine ⟨fun b u q n _ _=>k b u (hb b n) q,fun b u q n _ _=>⟨u.slots,k b u (hb b n) q⟩,fun b u q n _=>by rw [ao (hx b n)];exact n,fun b u q _=>?_,
  fun b xs q=>by rw [ao (hm b _ q fun z=>z)];exact q,fun b u xs q=>by rw [ao (hm b _ q fun z=>z)];exact q,fun b ps q=>⟨#[],by rw [ao (hm b _ q fun z=>z),q];simp⟩⟩
 by_cases Hv:b=e
 ·subst Hv;exact IE
 ·exact ⟨u,k b u Hv q⟩
end
noncomputable def L3 (h:Heap) (H:Hp):List Addr:=(List.range h.objs.size).filter fun a=>(H a).isSome
noncomputable def oh (h:Heap) (H:Hp):Heap:=PySem.W.hideAll h (L3 h H)
theorem wo (h:Heap) (H:Hp):(oh h H).objs.size=h.objs.size:=PySem.W.hideAll_size _ _
theorem zB {h:Heap} {H:Hp} {b:Addr} {o:Obj} (e:h.get? b=some o) (n:H b=none):(oh h H).get? b=some o :=
 PySem.W.hideAll_get _ e fun hm=>by
  have q:(H b).isSome=true:=(List.mem_filter.mp hm).2
  rw [n] at q;simp at q
theorem Cc {h:Heap} {H:Hp} {b:Addr} {o:Obj} (e:(oh h H).get? b=some o):h.get? b=some o/\H b=none:=by
 have e':h.get? b=some o:=PySem.W.of_hideAll (L3 h H) e
 refine ⟨e',?_⟩
 cases q:H b with
 | none=>rfl
 | some x =>
  have hm:b∈L3 h H:=List.mem_filter.mpr ⟨List.mem_range.mpr (Heap.lt_size e'),by simp [q]⟩
  have z:(oh h H).get? b=none:=PySem.W.hideAll_none (L3 h H) hm
  rw [z] at e;cases e
noncomputable def Di (g h:Heap) (L:Addr):List (Addr×Obj):=(List.range h.objs.size).filterMap fun a=>if a=L\/(g.get? a).isSome=true then none else (h.get? a).map fun o=>(a,o)
noncomputable def rest (g h:Heap) (L d:Addr):List (Addr×Obj):=(Di g h L).filter fun p=>decide (p.1≠d)
structure Mod (K:PySem.W.Frag) (mg:Str->Option Value) (base:Heap):Prop where
 Ct:K.In base
 glob:base.Ns mainGlobals mg
 blt:∃ mb, base.Ns builtinsNs mb/\∀ x:Str, x≠"__name__"->mb x=bootBuiltins x
 nolimit:base.NoLimit
structure Cx where
 prog:Program
 w:World
 K:PySem.W.Frag
 mg:Str->Option Value
 base:Heap
 A:Around
 N:List Str
 s₀:Shared
 H₀:Hp
 env:Env
 outer:List Env
 stack:List Env
 ex:List Addr
 fn:Str->Bool
 calm:Bool
 pn:List (Addr×Obj)
 xe:Value->Shared->Prop
noncomputable def frs (l:List Env):List Addr:=l.filterMap (·.frame)
noncomputable abbrev Cx.fs (X:Cx):List Addr:=frs X.outer
noncomputable def MU (sc:Scope) (x:Str):Prop:=sc.names.lookup x=some .local\/sc.names.lookup x=some .cell\/sc.names.lookup x=some .free
noncomputable def Loc (sc:Scope) (x:Str):Prop:=sc.names.lookup x=some .local\/sc.names.lookup x=some .cell
noncomputable def Look (env:Env) (h:Heap) (m:Str->Option Value) (x:Str) (u:Value):Prop :=
 (env.kindOf x=some .local/\m x=some u)\/((env.kindOf x=some .cell\/env.kindOf x=some .free)/\∃ c,env.cells.lookup x=some c/\h.IsCell c (some u))
structure Cx.Ok (X:Cx):Prop where
 mod:Mod X.K X.mg X.base
 kind:X.env.scope.kind=.function
 glob:X.env.globals=mainGlobals
 blt:X.env.builtins=builtinsNs
 above:X.s₀.heap.objs.size<=X.env.locals
 inj:∀ x y c,X.env.cells.lookup x=some c->X.env.cells.lookup y=some c->x=y
 has:∀ x,(X.env.kindOf x=some .cell\/X.env.kindOf x=some .free)->∃ c,X.env.cells.lookup x=some c
 Lx:∀ x c,X.fn x=true->X.env.cells.lookup x=some c->X.s₀.heap.objs.size<=c
 hd:X.calm=true->X.A.handled=none
 frames:X.A.frames=some X.stack
 stk:X.stack=X.outer\/(X.stack=X.env::X.outer/\X.env.frame=some X.env.locals)
 exf:∀ b∈X.ex,b≠X.env.locals/\∀ x c,X.env.cells.lookup x=some c->c≠b
 bs:∀ b o,X.base.get? b=some o->X.s₀.heap.get? b=some o/\X.H₀ b=none
 Dc:X.base.objs.size<=X.s₀.heap.objs.size
 yz:∀ b o,X.base.get? b=some o->b∉X.ex
 CL:∀ b∈X.ex,b∉X.fs
 jU:X.s₀.heap.FunFrames X.base X.outer
 Hw:∀ b∈X.fs,X.H₀ b=none
structure Inv (X:Cx) (pins:List (Addr×Obj)) (Z:List (Option V)) (H:Hp) (s:Shared):Prop where
 ok:X.Ok
 os:s.os=X.s₀.os
 bare:AllBare s.gens
 base:Un X.fs X.ex X.H₀ H X.s₀.heap s.heap
 loc:∃ m,s.heap.Ns X.env.locals m/\∀ (i:Nat) (x:Str) (v:V),X.N[i]? = some x->Z[i]? = some (some v)->MU X.env.scope x->∃ u,RelV v u/\Look X.env s.heap m x u
 cell:∀ x c,X.env.cells.lookup x=some c->∃ v,s.heap.IsCell c v
 free:H X.env.locals=none
 ee:∀ x c,X.env.cells.lookup x=some c->H c=none
 pin:∀ p∈X.pn++pins,s.heap.get? p.1=some p.2/\H p.1=none/\p.1≠X.env.locals/\p.1∉X.fs/\∀ v,p.2.data≠.cell v
 hok:gU X.prog X.w H s.heap
 len:Z.length=X.N.length
section
variable {X:Cx} {pins:List (Addr×Obj)} {Z:List (Option V)} {H H':Hp} {s:Shared} {h':Heap}
theorem Cx.Ok.nofr (ok:X.Ok) {b:Addr} {o:Obj} (e:X.base.get? b=some o):b∉X.fs:=fun hb=>by
 have:=(ok.jU.mem hb).1
 rw [e] at this;cases this
theorem Inv.bs (I:Inv X pins Z H s):∀ b o,X.base.get? b=some o->s.heap.get? b=some o/\H b=none:=fun b o e =>
 ⟨I.base.keep b o (I.ok.bs b o e).1 (I.ok.bs b o e).2 (I.ok.nofr e) (I.ok.yz b o e),I.base.free b o (I.ok.bs b o e).1 (I.ok.bs b o e).2 (I.ok.yz b o e)⟩
theorem Inv.bk (I:Inv X pins Z H s):∀ b o,X.base.get? b=some o->s.heap.get? b=some o:=fun b o e=>(I.bs b o e).1
theorem Inv.mod (I:Inv X pins Z H s):Mod X.K X.mg X.base:=I.ok.mod
theorem Inv.iQ (I:Inv X pins Z H s):X.K.In s.heap:=I.ok.mod.Ct.keeps I.bk
theorem Inv.lt (I:Inv X pins Z H s):X.env.locals<s.heap.objs.size:=let ⟨_,hn,_⟩:=I.loc;hn.lt
theorem Inv.sz (I:Inv X pins Z H s):X.s₀.heap.objs.size<=s.heap.objs.size:=Nat.le_trans I.ok.above (Nat.le_of_lt I.lt)
theorem Inv.Kh (I:Inv X pins Z H s) {a:Addr} (h:s.heap.objs.size<=a):a∉X.fs:=fun hb=>by
 obtain ⟨_,o,ho,_⟩:=I.ok.jU.mem hb
 exact absurd (Nat.lt_of_lt_of_le (Heap.lt_size ho) (Nat.le_trans I.sz h)) (Nat.lt_irrefl _)
theorem Inv.HQ (I:Inv X pins Z H s):∀ x c,X.env.cells.lookup x=some c->c≠X.env.locals:=fun x c e z=>by
 obtain ⟨v,o,ho,hd⟩:=I.cell x c e
 obtain ⟨m,⟨o',es,ep,ho',hd',_⟩,_⟩:=I.loc
 rw [z,ho'] at ho;cases ho;rw [hd'] at hd;cases hd
theorem Inv.jU (I:Inv X pins Z H s):s.heap.FunFrames X.base X.outer:=by
 have all:∀ (l:List Env),(∀ b∈frs l,b∈X.fs)->X.s₀.heap.FunFrames X.base l->s.heap.FunFrames X.base l:=by
  intro l
  induction l with
  | nil=>intro _ _;trivial
  | cons env r ih =>
   intro hs hl
   obtain ⟨hk,⟨L,o,hf,hn,ho,hd⟩,hr⟩:=hl
   have hL:L∈X.fs:=hs L (by unfold frs;rw [List.filterMap_cons,hf];exact List.mem_cons_self)
   obtain ⟨sl,e⟩:=I.base.slot L o ho (I.ok.Hw L hL) hL fun z=>I.ok.CL L z hL
   exact ⟨hk,⟨L,_,hf,hn,e,hd⟩,ih (fun b hb=>hs b (by unfold frs;rw [List.filterMap_cons,hf];exact List.mem_cons_of_mem _ hb)) hr⟩
 exact all X.outer (fun _ hb=>hb) I.ok.jU
theorem Inv.stack (I:Inv X pins Z H s):s.heap.FunFrames X.base X.stack:=by
 rcases I.ok.stk with e | ⟨e,hf⟩
 ·rw [e];exact I.jU
 ·rw [e]
  obtain ⟨m,hn,_⟩:=I.loc
  refine .cons (by rw [I.ok.kind];decide) hf hn ?_ I.jU
  exact Heap.get?_none_of_le (Nat.le_trans I.ok.Dc I.ok.above)
theorem Inv.eZ (I:Inv X pins Z H s):∀ b∈frs X.stack,b∈X.env.locals::X.fs:=fun b hb=>by
 rcases I.ok.stk with e | ⟨e,hf⟩
 ·rw [e] at hb;exact List.mem_cons_of_mem _ hb
 ·rw [e] at hb
  unfold frs at hb
  rw [List.filterMap_cons,hf] at hb
  exact hb
theorem Inv.gF (I:Inv X pins Z H s):∀ b∈frs X.stack,H b=none:=fun b hb=>by
 rcases List.mem_cons.mp (I.eZ b hb) with e | hb
 ·rw [e];exact I.free
 ·obtain ⟨_,o,ho,_⟩:=I.ok.jU.mem hb
  exact I.base.free b o ho (I.ok.Hw b hb) fun z=>I.ok.CL b z hb
theorem Inv.step {g':Array GenState} {t':Nat} {d':Drawn} {ch:List Addr} (I:Inv X pins Z H s)
  (hch:∀ b∈ch,(b∈X.ex\/X.s₀.heap.objs.size<=b)/\b≠X.env.locals/\(∀ x c,X.env.cells.lookup x=some c->c≠b)/\∀ p∈X.pn++pins,p.1≠b)
  (keep:∀ b o,b≠X.env.locals->b∉X.fs->b∉ch->s.heap.get? b=some o->H b=none->h'.get? b=some o)
  (slot:∀ b o,b≠X.env.locals->b∈X.fs->b∉ch->s.heap.get? b=some o->H b=none->∃ sl,h'.get? b=some { o with slots:=sl }) (free:∀ b o,b∉ch->s.heap.get? b=some o->H b=none->H' b=none)
  (there:∀ b o,b∉ch->s.heap.get? b=some o->∃ o',h'.get? b=some o')
  (tups:∀ b xs,H b=some (.tup xs)->H' b=some (.tup xs)) (gO:∀ b o u,H b=some (.gI o u)->H' b=some (.gI o u)) (iH:∀ b ps,H b=some (.Dz ps)->∃ more,H' b=some (.Dz (ps++more)))
  (ns:∀ m,s.heap.Ns X.env.locals m->h'.Ns X.env.locals m) (hok:gU X.prog X.w H' h') (hg:AllBare g') :
  Inv X pins Z H' { s with heap:=h',gens:=g',drawn:=d',toks:=t' }:=by
 have neL:∀ b o,X.s₀.heap.get? b=some o->b≠X.env.locals:=fun b o e=>Nat.ne_of_lt (Nat.lt_of_lt_of_le (Heap.lt_size e) I.ok.above)
 have wY:∀ b o,X.s₀.heap.get? b=some o->b∉X.ex->b∉ch:=fun b o e hx hb=>by
  rcases (hch b hb).1 with z | z
  ·exact hx z
  ·exact absurd (Nat.lt_of_lt_of_le (Heap.lt_size e) z) (Nat.lt_irrefl _)
 have cellK:∀ x c,X.env.cells.lookup x=some c->∀ v,s.heap.IsCell c v->h'.IsCell c v:=fun x c e v ⟨o,ho,hd⟩=>by
  have Ko:c∉ch:=fun z=>(hch c z).2.2.1 x c e rfl
  by_cases hc:c∈X.fs
  ·obtain ⟨sl,q⟩:=slot c o (I.HQ x c e) hc Ko ho (I.ee x c e)
   exact ⟨_,q,hd⟩
  ·exact ⟨o,keep c o (I.HQ x c e) hc Ko ho (I.ee x c e),hd⟩
 refine ⟨I.ok,I.os,hg,⟨fun b o e n hb hx=>?_,fun b o e n hb hx=>?_,fun b o e n hx=>?_,fun b o e hx=>?_,fun b xs e=>tups b xs (I.base.tups b xs e),fun b o xs e=>gO b o xs (I.base.gO b o xs e),fun b ps e=>?_⟩,?_,fun x c e=>?_,?_,fun x c e=>?_,fun p hp=>?_,hok,I.len⟩
 ·exact keep b o (neL b o e) hb (wY b o e hx) (I.base.keep b o e n hb hx) (I.base.free b o e n hx)
 ·obtain ⟨sl,e1⟩:=I.base.slot b o e n hb hx
  obtain ⟨DH,e2⟩:=slot b _ (neL b o e) hb (wY b o e hx) e1 (I.base.free b o e n hx)
  exact ⟨DH,e2⟩
 ·obtain ⟨o',e1⟩:=I.base.there b o e hx
  exact free b o' (wY b o e hx) e1 (I.base.free b o e n hx)
 ·obtain ⟨o',e1⟩:=I.base.there b o e hx
  exact there b o' (wY b o e hx) e1
 ·obtain ⟨m1,e1⟩:=I.base.iH b ps e
  obtain ⟨m2,e2⟩:=iH b _ e1
  exact ⟨m1++m2,by rw [e2,Array.append_assoc]⟩
 ·obtain ⟨m,hn,hl⟩:=I.loc
  refine ⟨m,ns m hn,fun i x v e1 e2 e3=>?_⟩
  obtain ⟨u,r,l⟩:=hl i x v e1 e2 e3
  refine ⟨u,r,?_⟩
  rcases l with l | ⟨k,c,e,z⟩
  ·exact .inl l
  ·exact .inr ⟨k,c,e,cellK x c e _ z⟩
 ·obtain ⟨v,z⟩:=I.cell x c e
  exact ⟨v,cellK x c e v z⟩
 ·obtain ⟨m,⟨o,_,_,ho,_⟩,_⟩:=I.loc
  exact free _ o (fun z=>(hch _ z).2.1 rfl) ho I.free
 ·obtain ⟨v,o,ho,hd⟩:=I.cell x c e
  exact free c o (fun z=>(hch c z).2.2.1 x c e rfl) ho (I.ee x c e)
 ·obtain ⟨e,n,ne,nf,d⟩:=I.pin p hp
  have Ko:p.1∉ch:=fun z=>(hch p.1 z).2.2.2 p hp rfl
  exact ⟨keep p.1 p.2 ne nf Ko e n,free p.1 p.2 Ko e n,ne,nf,d⟩
theorem Inv.un {t':Nat} (I:Inv X pins Z H s) (u:Un X.fs [] H H' s.heap h') (hok:gU X.prog X.w H' h'):Inv X pins Z H' { s with heap:=h',toks:=t' }:=by
 obtain ⟨m,⟨o,es,ep,ho,r⟩,_⟩:=id I.loc
 obtain ⟨sl,hL⟩:=u.any ho I.free (by simp)
 exact I.step (g':=s.gens) (d':=s.drawn) (ch:=[]) (fun _ z=>nomatch z) (fun b o _ hb _ e n=>u.keep b o e n hb (by simp)) (fun b o _ hb _ e n=>u.slot b o e n hb (by simp)) (fun b o _ e n=>u.free b o e n (by simp)) (fun b o _ e=>u.there b o e (by simp)) u.tups u.gO u.iH (fun m' hm=>by
  obtain ⟨o',es',Ld,ho',r'⟩:=hm
  rw [ho] at ho';cases ho'
  exact ⟨_,es',Ld,hL,r'⟩) hok I.bare
theorem Inv.call {g':Array GenState} {t':Nat} {d':Drawn} {ch:List Addr} (I:Inv X pins Z H s) (u:Un (frs X.stack) ch H H' s.heap h') (hok:gU X.prog X.w H' h') (hg:AllBare g')
  (hch:∀ b∈ch,(b∈X.ex\/X.s₀.heap.objs.size<=b)/\b≠X.env.locals/\(∀ x c,X.env.cells.lookup x=some c->c≠b)/\∀ p∈X.pn++pins,p.1≠b) :
  Inv X pins Z H' { s with heap:=h',gens:=g',drawn:=d',toks:=t' }:=by
 obtain ⟨m,⟨o,es,ep,ho,r⟩,_⟩:=id I.loc
 obtain ⟨sl,hL⟩:=u.any ho I.free fun z=>(hch _ z).2.1 rfl
 exact I.step (ch:=ch) hch (fun b o hL hb hc e n=>u.keep b o e n (fun z=>(List.mem_cons.mp (I.eZ b z)).elim hL hb) hc) (fun b o _ _ hc e n=>u.any e n hc) (fun b o hc e n=>u.free b o e n hc) (fun b o hc e=>u.there b o e hc) u.tups u.gO u.iH (fun m' hm=>by
  obtain ⟨o',es',Ld,ho',r'⟩:=hm
  rw [ho] at ho';cases ho'
  exact ⟨_,es',Ld,hL,r'⟩) hok hg
theorem Inv.turned {t':Nat} {it:Addr} (I:Inv X pins Z H s) (k:∀ b o,b≠it->s.heap.get? b=some o->h'.get? b=some o) (hn:H it=none) (hL:it≠X.env.locals)
  (h1:it∈X.ex\/X.s₀.heap.objs.size<=it) (h2:∀ x c,X.env.cells.lookup x=some c->c≠it) (h3:∀ p∈X.pn++pins,p.1≠it):Inv X pins Z H { s with heap:=h',toks:=t' }:=by
 have nit:∀ b u,H b=some u->b≠it:=fun b u e z=>by rw [z,hn] at e;cases e
 refine I.step (g':=s.gens) (d':=s.drawn) (ch:=[it]) (fun b hb=>?_) (fun b o _ _ hc e _=>k b o (fun z=>hc (by simp [z])) e) (fun b o _ _ hc e _=>⟨o.slots,k b o (fun z=>hc (by simp [z])) e⟩) (fun _ _ _ _ n=>n)
  (fun b o hc e=>⟨o,k b o (fun z=>hc (by simp [z])) e⟩) (fun _ _ e=>e) (fun _ _ _ e=>e) (fun b ps e=>⟨#[],by rw [e];simp⟩) (fun m hm=>?_) (fun b u e=>?_) I.bare
 ·have e:b=it:=by simpa using hb
  subst e
  exact ⟨h1,hL,h2,h3⟩
 ·obtain ⟨o,es,ep,ho,r⟩:=hm
  exact ⟨o,es,ep,k _ o (Ne.symm hL) ho,r⟩
 ·refine (I.hok b u e).stay (fun c v hc q=>k c v ?_ q) (fun _ q=>q) fun _ _ q=>q
  rcases hc with z | z
  ·rw [z];exact nit b u e
  ·exact nit c _ z
theorem Inv.tok (I:Inv X pins Z H s) (t:Nat):Inv X pins Z H { s with toks:=t }:=I.un (h':=s.heap) (t':=t) Un.refl I.hok
theorem Inv.kept {t':Nat} (I:Inv X pins Z H s) (k:∀ b u,s.heap.get? b=some u->h'.get? b=some u):Inv X pins Z H { s with heap:=h',toks:=t' }:=I.un (Un.kept k) (I.hok.kept k)
theorem Inv.laid {a:Addr} {o:HO} {t':Nat} (I:Inv X pins Z H s) (k:∀ b u,s.heap.get? b=some u->h'.get? b=some u) (hp:s.heap.objs.size<=a) (new:aV X.prog X.w (upd H a o) h' a o) :
  Inv X pins Z (upd H a o) { s with heap:=h',toks:=t' }:=I.un (Un.laid k hp (I.hok.fresh hp)) (I.hok.laid k hp new)
theorem Inv.write {x e:Addr} {o:HO} {t':Nat} (I:Inv X pins Z H s) (mu:LO (H x)) (he:e=x\/H e=some (.own x)) (k:∀ b u,b≠e->s.heap.get? b=some u->h'.get? b=some u) (IE:∃ u,h'.get? e=some u)
  (new:aV X.prog X.w (upd H x o) h' x o):Inv X pins Z (upd H x o) { s with heap:=h',toks:=t' }:=I.un (Un.write mu he k IE) (I.hok.write mu he k IE new)
theorem Inv.ug {uh:List (Addr×Obj)} (I:Inv X pins Z H s) (h:∀ p∈uh,s.heap.get? p.1=some p.2/\H p.1=none/\p.1≠X.env.locals/\p.1∉X.fs/\∀ v,p.2.data≠.cell v):Inv X uh Z H s :=
 ⟨I.ok,I.os,I.bare,I.base,I.loc,I.cell,I.free,I.ee,fun p hp=>(List.mem_append.mp hp).elim (fun z=>I.pin p (List.mem_append_left _ z)) (h p),I.hok,I.len⟩
theorem qc {N:List Str} (hN:N.Nodup) {i j:Nat} {x:Str} (a:N[i]? = some x) (b:N[j]? = some x):i=j:=by
 obtain ⟨h1,e1⟩:=List.getElem?_eq_some_iff.mp a
 obtain ⟨h2,e2⟩:=List.getElem?_eq_some_iff.mp b
 exact (List.getElem_inj hN).mp (e1.trans e2.symm)
theorem mR {M:Model} {A:Around} {E:Value->Shared->Prop} {i:Nat} {x:Str} {v:V} {u:Value} {Q:Unit->Shared->Prop} (I:Inv X pins Z H s) (hN:X.N.Nodup) (hi:X.N[i]? = some x) (hx:Loc X.env.scope x) (r:RelV v u)
  (h:∀ s',Inv X pins (Z.set i (some v)) H s'->(∃ a,Heap.SameBut a s.heap s'.heap/\(a=X.env.locals\/X.env.cells.lookup x=some a))->Q () s') (hf:X.fn x=true\/X.env.scope.names.lookup x=some .local:=by first | exact .inl rfl | exact .inr rfl | assumption):wpAny M A (storeName X.env x u) Q E s:=by
 obtain ⟨m,hn,hl⟩:=id I.loc
 have hcls:(X.env.scope.kind == .class||(X.env.scope.kind == .module&&X.env.locals != X.env.globals))=false:=by rw [I.ok.kind];rfl
 have hiZ:i<Z.length:=by rw [I.len];exact (List.getElem?_eq_some_iff.mp hi).1
 have HQ:=I.HQ
 have tracked:∀ {a:Addr} {h':Heap},(∃ o,s.heap.get? a=some o/\H a=none)->Heap.SameBut a s.heap h'->gU X.prog X.w H h':=fun {a h'} ha hs b ob e=>by
  obtain ⟨_,_,hfree⟩:=ha
  refine (I.hok b ob e).stay (fun c w' hc q=>(hs.2 c ?_).trans q) (fun _ q=>q) fun _ _ q=>q
  rintro rfl
  rcases hc with rfl | hc
  ·rw [hfree] at e;cases e
  ·rw [hfree] at hc;cases hc
 rcases hx with hk | hk
 ·refine wpAny_storeName_local hk hn (fun h' hn' hs=>?_) hcls
  obtain ⟨oL,_,_,hoL,_⟩:=id hn
  refine h _ ⟨I.ok,I.os,I.bare,⟨fun b o e n hb hx=>?_,fun b o e n hb hx=>?_,I.base.free,fun b o e hx=>?_,I.base.tups,I.base.gO,I.base.iH⟩,⟨_,hn',fun j y v' e1 e2 e3=>?_⟩,fun y c e=>?_,I.free,I.ee,fun p hp=>?_,tracked ⟨oL,hoL,I.free⟩ hs,by simpa using I.len⟩ ⟨_,hs,.inl rfl⟩
  ·exact (hs.2 b (Nat.ne_of_lt (Nat.lt_of_lt_of_le (Heap.lt_size e) I.ok.above))).trans (I.base.keep b o e n hb hx)
  ·obtain ⟨sl,e1⟩:=I.base.slot b o e n hb hx
   exact ⟨sl,(hs.2 b (Nat.ne_of_lt (Nat.lt_of_lt_of_le (Heap.lt_size e) I.ok.above))).trans e1⟩
  ·obtain ⟨o',e1⟩:=I.base.there b o e hx
   exact ⟨o',(hs.2 b (Nat.ne_of_lt (Nat.lt_of_lt_of_le (Heap.lt_size e) I.ok.above))).trans e1⟩
  ·by_cases hj:j=i
   ·subst hj
    rw [hi] at e1;cases e1
    rw [List.getElem?_set_self hiZ] at e2
    cases e2
    exact ⟨u,r,.inl ⟨hk,by simp⟩⟩
   ·rw [List.getElem?_set_ne (Ne.symm hj)] at e2
    obtain ⟨u',r',q⟩:=hl j y v' e1 e2 e3
    refine ⟨u',r',?_⟩
    rcases q with ⟨k,e⟩ | ⟨k,c,e,z⟩
    ·refine .inl ⟨k,?_⟩
     have:y≠x:=fun e=>hj (qc hN e1 (e ▸ hi))
     simp [this,e]
    ·exact .inr ⟨k,c,e,z.sameBut hs (HQ y c e)⟩
  ·obtain ⟨w',z⟩:=I.cell y c e
   exact ⟨w',z.sameBut hs (HQ y c e)⟩
  ·obtain ⟨e,n,ne,nf,d⟩:=I.pin p hp
   exact ⟨(hs.2 p.1 ne).trans e,n,ne,nf,d⟩
 ·have hfn:X.fn x=true:=by
   rcases hf with z | z
   ·exact z
   ·rw [z] at hk;cases hk
  obtain ⟨c,hc⟩:=I.ok.has x (.inl hk)
  obtain ⟨w',z⟩:=I.cell x c hc
  refine wpAny_storeName_cell I.ok.kind hk hc z (fun h' hc' hs=>?_)
  obtain ⟨oc,hoc,hocd⟩:=id z
  refine h { s with heap:=h' } ⟨I.ok,I.os,I.bare,⟨fun b o e n hb hx=>?_,fun b o e n hb hx=>?_,I.base.free,fun b o e hx=>?_,I.base.tups,I.base.gO,I.base.iH⟩,⟨m,hn.sameBut hs (Ne.symm (HQ x c hc)),fun j y v' e1 e2 e3=>?_⟩,fun y c' e=>?_,I.free,I.ee,fun p hp=>?_,tracked ⟨oc,hoc,I.ee x c hc⟩ hs,by simpa using I.len⟩ ⟨c,hs,.inr hc⟩
  ·exact (hs.2 b (Nat.ne_of_lt (Nat.lt_of_lt_of_le (Heap.lt_size e) (I.ok.Lx x c hfn hc)))).trans (I.base.keep b o e n hb hx)
  ·obtain ⟨sl,e1⟩:=I.base.slot b o e n hb hx
   exact ⟨sl,(hs.2 b (Nat.ne_of_lt (Nat.lt_of_lt_of_le (Heap.lt_size e) (I.ok.Lx x c hfn hc)))).trans e1⟩
  ·obtain ⟨o',e1⟩:=I.base.there b o e hx
   exact ⟨o',(hs.2 b (Nat.ne_of_lt (Nat.lt_of_lt_of_le (Heap.lt_size e) (I.ok.Lx x c hfn hc)))).trans e1⟩
  ·by_cases hj:j=i
   ·subst hj
    rw [hi] at e1;cases e1
    rw [List.getElem?_set_self hiZ] at e2
    cases e2
    exact ⟨u,r,.inr ⟨.inl hk,c,hc,hc'⟩⟩
   ·rw [List.getElem?_set_ne (Ne.symm hj)] at e2
    obtain ⟨u',r',q⟩:=hl j y v' e1 e2 e3
    refine ⟨u',r',?_⟩
    rcases q with q | ⟨k,c',e,z'⟩
    ·exact .inl q
    ·refine .inr ⟨k,c',e,z'.sameBut hs ?_⟩
     rintro rfl
     exact hj (qc hN e1 (I.ok.inj _ _ _ e hc ▸ hi))
  ·by_cases hcc:c'=c
   ·subst hcc;exact ⟨_,hc'⟩
   ·obtain ⟨w2,z2⟩:=I.cell y c' e
    exact ⟨w2,z2.sameBut hs hcc⟩
  ·obtain ⟨e,n,ne,nf,d⟩:=I.pin p hp
   refine ⟨(hs.2 p.1 ?_).trans e,n,ne,nf,d⟩
   intro q
   rw [q,hoc] at e
   have q':oc=p.2:=Option.some.inj e
   exact d w' (by rw [<- q'];exact hocd)
theorem pC {M:Model} {A:Around} {E:Value->Shared->Prop} {i:Nat} {x:Str} {v:V} {u:Value} {Q:Unit->Shared->Prop} (I:Inv X pins Z H s) (hN:X.N.Nodup) (hi:X.N[i]? = some x) (hx:Loc X.env.scope x) (r:RelV v u)
  (h:∀ s',Inv X pins (Z.set i (some v)) H s'->Q () s') (hf:X.fn x=true\/X.env.scope.names.lookup x=some .local:=by first | exact .inl rfl | exact .inr rfl | assumption):wpAny M A (storeName X.env x u) Q E s :=
 mR I hN hi hx r (fun s' I' _=>h s' I') hf
theorem Inv.Aj {s':Shared} {ch:List Addr} (I:Inv X pins Z H s) (ho:s'.os=s.os) (u:Un (frs X.stack) ch H H' s.heap s'.heap) (hok:gU X.prog X.w H' s'.heap) (hg:AllBare s'.gens)
  (hch:∀ b∈ch,(b∈X.ex\/X.s₀.heap.objs.size<=b)/\b≠X.env.locals/\(∀ x c,X.env.cells.lookup x=some c->c≠b)/\∀ p∈X.pn++pins,p.1≠b):Inv X pins Z H' s':=by
 obtain ⟨h',g',d',t',o'⟩:=s'
 have e:o'=s.os:=ho
 subst e
 exact I.call (g':=g') (t':=t') (d':=d') u hok hg hch
end
noncomputable abbrev XK:=Value->Option Addr->Hp->Prop
noncomputable abbrev St:=List (Option V)
noncomputable abbrev VK:=V->Hp->Prop
noncomputable abbrev TE:=St->Hp->VK->Prop
noncomputable abbrev TT:=St->Hp->(Bool->Hp->Prop)->Prop
noncomputable abbrev TA:=St->Hp->(List V->Hp->Prop)->Prop
structure Ends where
 nx:St->Hp->Prop
 rt:VK
 bk:St->Hp->Prop:=fun _ _=>False
 ct:St->Hp->Prop:=fun _ _=>False
noncomputable abbrev TS:=Ends->St->Hp->Prop
noncomputable def EP (X:Cx) (pins:List (Addr×Obj)) (Z:St) (Q:VK) (u:Value) (s':Shared):Prop:=∃ v H',Inv X pins Z H' s'/\RelV v u/\Q v H'
noncomputable def TP (X:Cx) (pins:List (Addr×Obj)) (Z:St) (Q:Bool->Hp->Prop) (b:Bool) (s':Shared):Prop:=∃ H',Inv X pins Z H' s'/\Q b H'
noncomputable def AP (X:Cx) (pins:List (Addr×Obj)) (Z:St) (Q:List V->Hp->Prop) (us:List Value) (s':Shared):Prop:=∃ vs H',Inv X pins Z H' s'/\Vals vs us/\Q vs H'
noncomputable def SP (X:Cx) (pins:List (Addr×Obj)) (D:Ends) (f:Flow) (s':Shared):Prop :=
 match f with
 | .next=>∃ Z' H',Inv X pins Z' H' s'/\D.nx Z' H'
 | .brk=>∃ Z' H',Inv X pins Z' H' s'/\D.bk Z' H'
 | .cont=>∃ Z' H',Inv X pins Z' H' s'/\D.ct Z' H'
 | .ret u=>∃ v Z' H',Inv X pins Z' H' s'/\RelV v u/\D.rt v H'
noncomputable def PE (X:Cx) (e:Expr) (t:TE):Prop :=
 ∀ (pins:List (Addr×Obj)) (s:Shared) (Z:St) (H:Hp) (Q:VK),Inv X pins Z H s->t Z H Q->wpAny (model X.prog X.w) X.A (eval e X.env) (EP X pins Z Q) X.xe s
noncomputable def PT (X:Cx) (e:Expr) (t:TT):Prop :=
 ∀ (pins:List (Addr×Obj)) (s:Shared) (Z:St) (H:Hp) (Q:Bool->Hp->Prop),Inv X pins Z H s->t Z H Q->wpAny (model X.prog X.w) X.A (isTrue e X.env (eval e X.env)) (TP X pins Z Q) X.xe s
noncomputable def PW (X:Cx) (e:Expr) (t:TT):Prop :=
 ∀ (whole:Sem Value) (pins:List (Addr×Obj)) (s:Shared) (Z:St) (H:Hp) (Q:Bool->Hp->Prop),Inv X pins Z H s->t Z H Q->wpAny (model X.prog X.w) X.A (isTrue e X.env whole) (TP X pins Z Q) X.xe s
theorem PW.pt {X:Cx} {e:Expr} {t:TT} (h:PW X e t):PT X e t:=h _
noncomputable def PA (X:Cx) (es:List Expr) (t:TA):Prop :=
 ∀ (pos:Pos) (pins:List (Addr×Obj)) (s:Shared) (Z:St) (H:Hp) (Q:List V->Hp->Prop),Inv X pins Z H s->t Z H Q->wpAny (model X.prog X.w) X.A (spliced (backTo pos (starEach es X.env))) (AP X pins Z Q) X.xe s
noncomputable def PS (X:Cx) (st:Stmt) (t:TS):Prop :=
 ∀ (pins:List (Addr×Obj)) (s:Shared) (Z:St) (H:Hp) (D:Ends),Inv X pins Z H s->t D Z H->wpAny (model X.prog X.w) X.A (exec st X.env) (SP X pins D) X.xe s
noncomputable def o5 (X:Cx) (st:List Stmt) (t:TS):Prop :=
 ∀ (pins:List (Addr×Obj)) (s:Shared) (Z:St) (H:Hp) (D:Ends),Inv X pins Z H s->t D Z H->wpAny (model X.prog X.w) X.A (execs st X.env) (SP X pins D) X.xe s
theorem aX {α:Type} {t:Sem α} {Q Q':α->Shared->Prop} {M:Model} {A:Around} {E:Value->Shared->Prop} {s:Shared} (h:wpAny M A t Q E s) (hQ:∀ a s,Q a s->Q' a s):wpAny M A t Q' E s:=wpAny_mono h hQ fun _ _ x=>x
section
variable {X:Cx}
noncomputable def Jc (i:Nat):TE:=fun Z H Q=>∃ v,Z[i]? = some (some v)/\Q v H
noncomputable def tC (v:V):TE:=fun _ H Q=>Q v H
theorem FD {i:Nat} {x:Str} {pos:Pos} (hN:X.N[i]? = some x) (hv:MU X.env.scope x) (hd:(x == ("__debug__" : Str))=false:=by decide) (hcd:(x == ("__classdict__" : Str))=false:=by decide):PE X (.Name x pos) (Jc i):=by
 intro pins s Z H Q I h
 obtain ⟨v,e,h⟩:=h
 obtain ⟨m,hn,hl⟩:=I.loc
 obtain ⟨u,r,l⟩:=hl i x v hN e hv
 have fin:EP X pins Z Q u s:=⟨v,H,I,r,h⟩
 rcases l with ⟨hk,hm⟩ | ⟨hk,c,hc,hcell⟩
 ·exact wpAny_Name (wpAny_loadName_local I.ok.kind hk hn hm fin) hd
 ·rcases hk with hk | hk
  ·exact wpAny_Name (wpAny_loadName_cell I.ok.kind hk hc hcell fin) hd
  ·exact wpAny_Name (wpAny_loadName_free I.ok.kind hk hc hcell fin hcd) hd
theorem FO {i j pos}:PE X (.Constant (.int i) j pos) (tC (.int i)):=fun _ _ _ H _ I h=>wpAny_Constant_int ⟨.int i,H,I.tok _,⟨_,rfl⟩,h⟩
theorem J3 {b j pos}:PE X (.Constant (.bool b) j pos) (tC (.bl b)):=fun _ _ _ H _ I h=>Constant_bool ⟨.bl b,H,I,rfl,h⟩
theorem FH {j pos}:PE X (.Constant .none j pos) (tC .aq):=fun _ _ _ H _ I h=>Constant_none ⟨.aq,H,I,rfl,h⟩
theorem rK {x j pos}:PE X (.Constant (.str x) j pos) (tC (.str x)):=fun _ _ _ H _ I h=>Calls.Constant_str ⟨.str x,H,I.tok _,⟨_,rfl⟩,h⟩
noncomputable def Gl (X:Cx) (x:Str):Prop:=X.env.kindOf x=some .globalImplicit
theorem fE {E:Value->Shared->Prop} {pins:List (Addr×Obj)} {s:Shared} {Z:St} {H:Hp} {x:Str} {u:Value} {pos:Pos} {Q:Value->Shared->Prop} (I:Inv X pins Z H s) (hg:Gl X x) (hm:X.mg x=some u) (h:Q u s)
  (hd:(x == ("__debug__" : Str))=false:=by decide):wpAny (model X.prog X.w) X.A (eval (.Name x pos) X.env) Q E s :=
 Calls.Name_function_global I.ok.kind hg (Calls.loadGlobal_global (by rw [I.ok.glob];exact I.mod.glob.keeps I.bk) hm h) hd
theorem fF {E:Value->Shared->Prop} {pins:List (Addr×Obj)} {s:Shared} {Z:St} {H:Hp} {x:Str} {u:Value} {pos:Pos} {Q:Value->Shared->Prop} (I:Inv X pins Z H s) (hg:Gl X x) (hm:X.mg x=none) (hv:bootBuiltins x=some u) (h:Q u s)
  (hn:x≠"__name__":=by decide) (hd:(x == ("__debug__" : Str))=false:=by decide):wpAny (model X.prog X.w) X.A (eval (.Name x pos) X.env) Q E s:=by
 obtain ⟨mb,h1,h2⟩:=I.mod.blt
 exact Calls.Name_function_global I.ok.kind hg (Calls.loadGlobal_builtin (by rw [I.ok.glob];exact I.mod.glob.keeps I.bk) hm (by rw [I.ok.blt];exact h1.keeps I.bk) ((h2 x hn).trans hv) h) hd
theorem BW {x:Str} {v:V} {u:Value} {pos:Pos} (hg:Gl X x) (hm:X.mg x=some u) (r:RelV v u) (hd:(x == ("__debug__" : Str))=false:=by decide):PE X (.Name x pos) (tC v) :=
 fun _ _ _ H _ I h=>fE I hg hm ⟨v,H,I,r,h⟩ hd
theorem BZ {x:Str} {v:V} {u:Value} {pos:Pos} (hg:Gl X x) (hm:X.mg x=none) (hv:bootBuiltins x=some u) (r:RelV v u) (hn:x≠"__name__":=by decide) (hd:(x == ("__debug__" : Str))=false:=by decide):PE X (.Name x pos) (tC v) :=
 fun _ _ _ H _ I h=>fF I hg hm hv ⟨v,H,I,r,h⟩ hn hd
variable {a b:Expr} {ta tb:TE} {pos:Pos}
noncomputable def tB (t:TE):TT:=fun Z H Q=>t Z H fun x H1=>∃ c,x=.bl c/\Q c H1
theorem Fl {e:Expr} {t:TE} (h:PE X e t) (he:∀ whole,isTrue e X.env whole=(do let v <- whole;standAt e.pos;holding [v] (truthy v)):=by intro _;rfl):PT X e (tB t):=by
 intro pins s Z H Q I hw
 refine isTrue_plain (aX (h pins s Z H _ I hw) fun v s1 ⟨x,H1,I1,r1,q1⟩=>?_) (he _)
 obtain ⟨d,rfl,q⟩:=q1
 cases r1
 exact wpAny_truthy_bool ⟨H1,I1,q⟩
variable {tA L4:TT} {rest:List Expr}
noncomputable def Jr (t u:TT):TT:=fun Z H Q=>t Z H fun c H1=>if c=true then u Z H1 Q else Q false H1
noncomputable def tOr (t u:TT):TT:=fun Z H Q=>t Z H fun c H1=>if c=true then Q true H1 else u Z H1 Q
noncomputable def Ji (t:TT):TT:=fun Z H Q=>t Z H fun c H1=>Q (!c) H1
theorem pw_and1 (ha:PT X a tA):PW X (.BoolOp .And [a] pos) tA:=by
 intro wh pins s Z H Q I h
 refine isTrue_and (aX (ha pins s Z H Q I h) fun c s1 e=>?_)
 cases c with
 | true=>exact isTrue_and_nil e
 | false=>exact e
theorem pw_or1 (ha:PT X a tA):PW X (.BoolOp .Or [a] pos) tA:=by
 intro wh pins s Z H Q I h
 refine isTrue_or (aX (ha pins s Z H Q I h) fun c s1 e=>?_)
 cases c with
 | false=>exact isTrue_or_nil e
 | true=>exact e
theorem pw_and (ha:PT X a tA) (hb:PW X (.BoolOp .And (b::rest) pos) L4):PW X (.BoolOp .And (a::b::rest) pos) (Jr tA L4):=by
 intro wh pins s Z H Q I h
 refine isTrue_and (aX (ha pins s Z H _ I h) fun c s1 ⟨H1,I1,q1⟩=>?_)
 cases c with
 | true=>exact hb wh pins s1 Z H1 Q I1 q1
 | false=>exact ⟨H1,I1,q1⟩
theorem pw_or (ha:PT X a tA) (hb:PW X (.BoolOp .Or (b::rest) pos) L4):PW X (.BoolOp .Or (a::b::rest) pos) (tOr tA L4):=by
 intro wh pins s Z H Q I h
 refine isTrue_or (aX (ha pins s Z H _ I h) fun c s1 ⟨H1,I1,q1⟩=>?_)
 cases c with
 | true=>exact ⟨H1,I1,q1⟩
 | false=>exact hb wh pins s1 Z H1 Q I1 q1
theorem Fo (ha:PT X a tA):PT X (.UnaryOp .Not a pos) (Ji tA):=by
 intro pins s Z H Q I h
 exact isTrue_not (ha pins s Z H (fun c H1=>Q (!c) H1) I h)
noncomputable def DF (ta tb:TE):TE:=fun Z H Q=>ta Z H fun x H1=>∃ c,x=.bl c/\if c=true then tb Z H1 Q else Q (.bl false) H1
noncomputable def Jh (ta tb:TE):TE:=fun Z H Q=>ta Z H fun x H1=>∃ c,x=.bl c/\if c=true then Q (.bl true) H1 else tb Z H1 Q
noncomputable def DB (ta:TE):TE:=fun Z H Q=>ta Z H fun x H1=>∃ c,x=.bl c/\Q (.bl (!c)) H1
theorem FF {op} {t:TE} (h:PE X a t):PE X (.BoolOp op [a] pos) t:=fun pins s Z H Q I hw=>BoolOp_one (h pins s Z H Q I hw)
theorem FQ (ha:PE X a ta) (hb:PE X (.BoolOp .And (b::rest) pos) tb):PE X (.BoolOp .And (a::b::rest) pos) (DF ta tb):=by
 intro pins s Z H Q I h
 refine BoolOp_and (aX (ha pins s Z H _ I h) fun v s1 ⟨x,H1,I1,r1,q1⟩=>?_)
 obtain ⟨c,rfl,q1⟩:=q1
 cases r1
 refine wpAny_truthy_bool ?_
 cases c with
 | true=>exact hb pins s1 Z H1 Q I1 q1
 | false=>exact ⟨.bl false,H1,I1,rfl,q1⟩
theorem J0 (ha:PE X a ta) (hb:PE X (.BoolOp .Or (b::rest) pos) tb):PE X (.BoolOp .Or (a::b::rest) pos) (Jh ta tb):=by
 intro pins s Z H Q I h
 refine BoolOp_or (aX (ha pins s Z H _ I h) fun v s1 ⟨x,H1,I1,r1,q1⟩=>?_)
 obtain ⟨c,rfl,q1⟩:=q1
 cases r1
 refine wpAny_truthy_bool ?_
 cases c with
 | false=>exact hb pins s1 Z H1 Q I1 q1
 | true=>exact ⟨.bl true,H1,I1,rfl,q1⟩
theorem FG (ha:PE X a ta):PE X (.UnaryOp .Not a pos) (DB ta):=by
 intro pins s Z H Q I h
 refine UnaryOp_ (aX (ha pins s Z H _ I h) fun v s1 ⟨x,H1,I1,r1,q1⟩=>?_)
 obtain ⟨c,rfl,q1⟩:=q1
 cases r1
 exact not_of (wpAny_truthy_bool ⟨.bl (!c),H1,I1,rfl,q1⟩)
noncomputable def tIf (t:TT) (ta tb:TE):TE:=fun Z H Q=>t Z H fun c H1=>if c=true then ta Z H1 Q else tb Z H1 Q
theorem yo {c:Expr} (hc:PT X c tA) (ha:PE X a ta) (hb:PE X b tb):PE X (.IfExp c a b pos) (tIf tA ta tb):=by
 intro pins s Z H Q I h
 refine wpAny_IfExp (aX (hc pins s Z H _ I h) fun d s1 ⟨H1,I1,q1⟩=>?_)
 cases d with
 | true=>exact ha pins s1 Z H1 Q I1 q1
 | false=>exact hb pins s1 Z H1 Q I1 q1
end
noncomputable def fT (K:PySem.W.Frag) (H:Hp) (a:Addr) (xs:List V):Prop :=
 Rd H a (.lst xs) \/
  ∃ (o:Obj) (its:Array Value) (n:Nat), K.lookup a=some o/\o.cls=.type "list"/\o.dict=none/\o.data=.seq its n/\its.size<=sizeLine/\Vals xs its.toList
noncomputable def i7 (K:PySem.W.Frag) (H:Hp) (a:Addr) (xs:List V):Prop :=
 Rd H a (.tup xs) \/
  ∃ (o:Obj) (its:Array Value) (n:Nat), K.lookup a=some o/\o.cls=.type "tuple"/\o.data=.seq its n/\its.size<=sizeLine/\Vals xs its.toList
noncomputable def absV:Value->Option V
 | .none=>some .aq
 | .bool b=>some (.bl b)
 | .int i _=>some (.int i)
 | .str x _=>some (.str x)
 | .bytes b _=>some (.xh b)
 | .float b _=>some (.My b)
 | .ref a=>some (.ref a)
 | .type n=>some (.ty n)
 | _=>none
theorem RelV.abs {x:V} {u:Value} (r:RelV x u):absV u=some x:=by
 cases x with
 | aq=>cases r;rfl
 | bl _=>cases r;rfl
 | int _=>obtain ⟨t,rfl⟩:=r;rfl
 | str _=>obtain ⟨t,rfl⟩:=r;rfl
 | xh _=>obtain ⟨t,rfl⟩:=r;rfl
 | My _=>obtain ⟨t,rfl⟩:=r;rfl
 | ref _=>cases r;rfl
 | ty _=>cases r;rfl
theorem RelV.inj {x y:V} {u:Value} (r:RelV x u) (q:RelV y u):x=y:=Option.some.inj (r.abs.symm.trans q.abs)
theorem Vals.inj:∀ {xs ys:List V} {us:List Value},Vals xs us->Vals ys us->xs=ys
 | _,_,_,.nil,.nil=>rfl
 | _,_,_,.cons r t,.cons r' t'=>by rw [r.inj r',Vals.inj t t']
section
variable {X:Cx} {pins:List (Addr×Obj)} {Z:St} {H:Hp} {s:Shared} {a:Addr} {xs ys:List V}
theorem Inv.list (I:Inv X pins Z H s) (h:fT X.K H a xs):∃ its:List Value,Vals xs its/\PlainL s.heap a its.toArray/\xs.length<=sizeLine:=by
 rcases h with h | ⟨o,its,n,hk,hc,hd,hs,hz,r⟩
 ·obtain ⟨z,its,n,r,e⟩:=h.ok I.hok
  exact ⟨its,r,⟨_,n,e,rfl,rfl,rfl⟩,z⟩
 ·refine ⟨its.toList,r,⟨o,n,I.iQ a o hk,hc,hd,by simpa using hs⟩,?_⟩
  have e:=r.length
  simp only [Array.length_toList] at e
  omega
theorem Inv.tuple (I:Inv X pins Z H s) (h:i7 X.K H a xs):∃ its:List Value,Vals xs its/\IsTup s.heap a its.toArray/\xs.length<=sizeLine:=by
 rcases h with h | ⟨o,its,n,hk,hc,hs,hz,r⟩
 ·obtain ⟨z,its,r,p⟩:=h.ok I.hok
  exact ⟨its,r,p,z⟩
 ·refine ⟨its.toList,r,⟨o,I.iQ a o hk,hc,n,by simpa using hs⟩,?_⟩
  have e:=r.length
  simp only [Array.length_toList] at e
  omega
theorem Inv.lq (I:Inv X pins Z H s) (h:fT X.K H a xs) (h':fT X.K H a ys):xs=ys:=by
 obtain ⟨its,r,⟨o,n,e,_,_,d⟩,_⟩:=I.list h
 obtain ⟨its',r',⟨o',n',e',_,_,d'⟩,_⟩:=I.list h'
 rw [e] at e';cases e'
 rw [d] at d'
 injection d' with d1 _
 have:its=its':=by simpa using congrArg Array.toList d1
 subst this
 exact r.inj r'
theorem Inv.mP (I:Inv X pins Z H s) (h:i7 X.K H a xs) (h':i7 X.K H a ys):xs=ys:=by
 obtain ⟨its,r,⟨o,e,_,n,d⟩,_⟩:=I.tuple h
 obtain ⟨its',r',⟨o',e',_,n',d'⟩,_⟩:=I.tuple h'
 rw [e] at e';cases e'
 rw [d] at d'
 injection d' with d1 _
 have:its=its':=by simpa using congrArg Array.toList d1
 subst this
 exact r.inj r'
end
noncomputable abbrev Cx.eX (X:Cx) (E:Value->Shared->Prop):Cx:={ X with xe:=E }
noncomputable abbrev Cx.DU (X:Cx):Cx:=X.eX fun _ _=>False
theorem Cx.Ok.eX {X:Cx} (ok:X.Ok) (E:Value->Shared->Prop):(X.eX E).Ok :=
 ⟨ok.mod,ok.kind,ok.glob,ok.blt,ok.above,ok.inj,ok.has,ok.Lx,ok.hd,ok.frames,ok.stk,ok.exf,ok.bs,ok.Dc,ok.yz,ok.CL,ok.jU,ok.Hw⟩
theorem Cx.Ok.bS {X:Cx} {E:Value->Shared->Prop} (ok:(X.eX E).Ok):X.Ok :=
 ⟨ok.mod,ok.kind,ok.glob,ok.blt,ok.above,ok.inj,ok.has,ok.Lx,ok.hd,ok.frames,ok.stk,ok.exf,ok.bs,ok.Dc,ok.yz,ok.CL,ok.jU,ok.Hw⟩
section
variable {X:Cx} {pins:List (Addr×Obj)} {Z:St} {H:Hp} {s:Shared} {E:Value->Shared->Prop}
theorem Inv.eX (I:Inv X pins Z H s) (E:Value->Shared->Prop):Inv (X.eX E) pins Z H s:=⟨I.ok.eX E,I.os,I.bare,I.base,I.loc,I.cell,I.free,I.ee,I.pin,I.hok,I.len⟩
theorem Inv.bS (I:Inv (X.eX E) pins Z H s):Inv X pins Z H s:=⟨I.ok.bS,I.os,I.bare,I.base,I.loc,I.cell,I.free,I.ee,I.pin,I.hok,I.len⟩
theorem SP.bS {D:Ends} {f:Flow} {s':Shared} (h:SP (X.eX E) pins D f s'):SP X pins D f s':=by
 cases f with
 | next=>obtain ⟨Z',H',I,q⟩:=h;exact ⟨Z',H',I.bS,q⟩
 | brk=>obtain ⟨Z',H',I,q⟩:=h;exact ⟨Z',H',I.bS,q⟩
 | cont=>obtain ⟨Z',H',I,q⟩:=h;exact ⟨Z',H',I.bS,q⟩
 | ret u=>obtain ⟨v,Z',H',I,r,q⟩:=h;exact ⟨v,Z',H',I.bS,r,q⟩
theorem PE.DU {e:Expr} {t:TE} (h:PE X.DU e t):PE X e t:=fun pins s Z H Q I hw =>
 wpAny_mono (h pins s Z H Q (I.eX _) hw) (fun _ _ ⟨v,H',I',r,q⟩=>⟨v,H',I'.bS,r,q⟩) fun _ _ z=>False.elim z
theorem PT.DU {e:Expr} {t:TT} (h:PT X.DU e t):PT X e t:=fun pins s Z H Q I hw =>
 wpAny_mono (h pins s Z H Q (I.eX _) hw) (fun _ _ ⟨H',I',q⟩=>⟨H',I'.bS,q⟩) fun _ _ z=>False.elim z
theorem o5.DU {st:List Stmt} {t:TS} (h:o5 X.DU st t):o5 X st t:=fun pins s Z H D I hw =>
 wpAny_mono (h pins s Z H D (I.eX _) hw) (fun _ _ q=>q.bS) fun _ _ z=>False.elim z
end
section
variable {X:Cx} {st:Stmt} {rest:List Stmt} {t u:TS} {e:Expr} {te:TE} {pos:Pos}
noncomputable def DC:TS:=fun D Z H=>D.nx Z H
noncomputable def Jf (t u:TS):TS:=fun D Z H=>t { D with nx:=u D } Z H
theorem BL:o5 X [] DC:=fun _ _ Z H _ I h=>wpAny_execs_nil ⟨Z,H,I,h⟩
theorem yc (h1:PS X st t) (h2:o5 X rest u):o5 X (st::rest) (Jf t u):=by
 intro pins s Z H D I h
 refine wpAny_execs_cons (aX (h1 pins s Z H { D with nx:=u D } I h) fun f s1 q=>?_)
 cases f with
 | next =>
  obtain ⟨Z',H',I',q⟩:=q
  exact h2 pins s1 Z' H' D I' q
 | ret v=>exact q
 | brk=>exact q
 | cont=>exact q
theorem Inv.quiet {pins:List (Addr×Obj)} {Z:St} {H:Hp} {s:Shared} (I:Inv X pins Z H s):interactive X.env=false:=by simp [interactive,I.ok.kind]
noncomputable def DE (te:TE):TS:=fun D Z H=>te Z H fun _ H1=>D.nx Z H1
theorem BP (he:PE X e te) (hs:swapsWith e none pos.line X.env=pure false:=by rfl):PS X (.Expr e pos) (DE te):=by
 intro pins s Z H D I h
 exact wpAny_Expr_any (aX (he pins s Z H _ I h) fun v s1 ⟨x,H1,I1,r1,q1⟩=>⟨Z,H1,I1,q1⟩) I.quiet hs
noncomputable def Jg (te:TE):TS:=fun D Z H=>te Z H D.rt
theorem Fq (he:PE X e te):PS X (.Return (some e) pos) (Jg te):=by
 intro pins s Z H D I h
 exact wpAny_Return_some (aX (he pins s Z H _ I h) fun v s1 ⟨x,H1,I1,r1,q1⟩=>⟨x,Z,H1,I1,r1,q1⟩)
noncomputable def Jm (c:TT) (t u:TS):TS:=fun D Z H=>c Z H fun b H1=>if b=true then t D Z H1 else u D Z H1
theorem JU {c:Expr} {a b:List Stmt} {tc:TT} (hc:PT X c tc) (ha:o5 X a t) (hb:o5 X b u):PS X (.If c a b pos) (Jm tc t u):=by
 intro pins s Z H D I h
 refine wpAny_If (aX (hc pins s Z H _ I h) fun d s1 ⟨H1,I1,q1⟩=>?_)
 cases d with
 | true=>exact ha pins s1 Z H1 D I1 q1
 | false=>exact hb pins s1 Z H1 D I1 q1
end
noncomputable abbrev TG:=V->St->Hp->(St->Hp->Prop)->Prop
noncomputable abbrev Et:=List V->St->Hp->(St->Hp->Prop)->Prop
noncomputable def PG (X:Cx) (target:Expr) (t:TG):Prop :=
 ∀ (pins:List (Addr×Obj)) (s:Shared) (Z:St) (H:Hp) (v:V) (u:Value) (Q:St->Hp->Prop),Inv X pins Z H s->RelV v u->t v Z H Q ->
  wpAny (model X.prog X.w) X.A (assign target X.env u) (fun _ s'=>∃ Z' H',Inv X pins Z' H' s'/\Q Z' H') X.xe s
noncomputable def LL (X:Cx) (ts:List Expr) (t:Et):Prop :=
 ∀ (pins:List (Addr×Obj)) (s:Shared) (Z:St) (H:Hp) (vs:List V) (us:List Value) (Q:St->Hp->Prop),Inv X pins Z H s->Vals vs us->t vs Z H Q ->
  wpAny (model X.prog X.w) X.A (assignInOrder ((assignEach ts X.env).map (·.2)) us) (fun _ s'=>∃ Z' H',Inv X pins Z' H' s'/\Q Z' H') X.xe s
noncomputable abbrev TSet:=V->V->V->Hp->(Hp->Prop)->Prop
noncomputable def PSet (X:Cx) (t:TSet):Prop :=
 ∀ (pins:List (Addr×Obj)) (s:Shared) (Z:St) (H:Hp) (o i v:V) (ov iv u:Value) (Q:Hp->Prop),Inv X pins Z H s->RelV o ov->RelV i iv->RelV v u->t o i v H Q ->
  wpAny (model X.prog X.w) X.A (setItem ov iv u) (fun _ s'=>∃ H',Inv X pins Z H' s'/\Q H') X.xe s
section
variable {X:Cx} {pos:Pos}
noncomputable def lG (i:Nat):TG:=fun v Z H Q=>Q (Z.set i (some v)) H
theorem BU {i:Nat} {x:Str} (hN:X.N.Nodup) (hi:X.N[i]? = some x) (hx:Loc X.env.scope x) (hf:X.fn x=true\/X.env.scope.names.lookup x=some .local:=by first | exact .inl rfl | exact .inr rfl | assumption):PG X (.Name x pos) (lG i):=by
 intro pins s Z H v u Q I r h
 exact wpAny_assign_Name (pC I hN hi hx r (fun s' I'=>⟨_,H,I',h⟩) hf)
noncomputable def KS:Et:=fun vs Z H Q=>vs=[]/\Q Z H
noncomputable def D8 (t:TG) (u:Et):Et:=fun vs Z H Q=>∃ v r,vs=v::r/\t v Z H fun Z' H'=>u r Z' H' Q
theorem um:LL X [] KS:=by
 intro pins s Z H vs us Q I r h
 obtain ⟨e,h⟩:=h
 subst e
 cases r
 exact assignInOrder_nil ⟨Z,H,I,h⟩
theorem kX {e:Expr} {es:List Expr} {t:TG} {u:Et} (h1:PG X e t) (h2:LL X es u)
  (hs:(assignEach (e::es) X.env).map (·.2)=assign e X.env::(assignEach es X.env).map (·.2):=by rfl):LL X (e::es) (D8 t u):=by
 intro pins s Z H vs us Q I r h
 obtain ⟨v,vr,e1,h⟩:=h
 subst e1
 cases r with
 | cons r rr =>
  rw [hs]
  refine assignInOrder_cons (aX (h1 pins s Z H _ _ _ I r h) fun _ s1 ⟨Z1,H1,I1,q1⟩=>?_)
  exact h2 pins s1 Z1 H1 _ _ Q I1 rr q1
noncomputable def gTup (K:PySem.W.Frag) (n:Nat) (t:Et):TG:=fun v Z H Q=>∃ a xs,v=.ref a/\i7 K H a xs/\xs.length=n/\t xs Z H Q
theorem yh {es:List Expr} {k:Nat} {t:Et} {n:Nat} (hc:X.calm=true) (h:LL X es t)
  (hn:(assignEach es X.env).length=n:=by rfl) (hst:(assignEach es X.env).findIdx? (·.1)=none:=by rfl):PG X (.Tuple es k pos) (gTup X.K n t):=by
 intro pins s Z H v u Q I r hw
 obtain ⟨a,xs,e1,hq,hl,hw⟩:=hw
 subst e1
 cases r
 obtain ⟨its,rv,ht,hz⟩:=I.tuple hq
 refine assign_Tuple_tuple (I.ok.hd hc) ht (by simp [hn,<- hl,rv.length]) hst fun h' hx=>?_
 have I1:Inv X pins Z H { s with heap:=h' }:=I.kept (t':=s.toks) fun b o e=>hx b o (Nat.ne_of_lt (Heap.lt_size e)) e
 exact h pins _ Z H xs _ Q I1 (by simpa using rv) hw
noncomputable def xB (te:TE) (g:TG):TS:=fun D Z H=>te Z H fun x H1=>g x Z H1 D.nx
theorem Fw {tg e:Expr} {te:TE} {g:TG} (he:PE X e te) (hg:PG X tg g) (hs:swapsWithSole [tg] e pos.line X.env=pure false:=by rfl) (hw:swappedStores [tg] e X.env=pure none:=by rfl)
  (h1:(assignEach [tg] X.env).map (·.2)=[assign tg X.env]:=by rfl):PS X (.Assign [tg] e pos) (xB te g):=by
 intro pins s Z H D I h
 refine wpAny_Assign_stores (aX (he pins s Z H _ I h) fun v s1 ⟨x,H1,I1,r1,q1⟩=>?_) hs hw
 rw [h1]
 exact aX (hg pins s1 Z H1 x v _ I1 r1 q1) fun _ s2 q=>q
theorem Fp {i:Nat} {x:Str} {e:Expr} {te:TE} {pos':Pos} (hN:X.N.Nodup) (hi:X.N[i]? = some x) (hx:Loc X.env.scope x) (he:PE X e te) (hs:swapsWith e (some (.Name x pos')) pos.line X.env=pure false:=by rfl) (hf:X.fn x=true\/X.env.scope.names.lookup x=some .local:=by first | exact .inl rfl | exact .inr rfl | assumption) :
  PS X (.Assign [.Name x pos'] e pos) (xB te (lG i)):=by
 intro pins s Z H D I h
 refine wpAny_Assign_Name (aX (he pins s Z H _ I h) fun v s1 ⟨y,H1,I1,r1,q1⟩=>?_) hs
 exact pC I1 hN hi hx r1 (fun s2 I2=>⟨_,H1,I2,q1⟩) hf
end
section
variable {X:Cx} {pos:Pos}
noncomputable def xx (c:TT) (tb:TS):TS:=fun D Z H=>∃ W:Nat->St->Hp->Prop,(∃ m,W m Z H)/\∀ m Z H,W m Z H ->
 c Z H fun b H1=>if b=true then ∃ N:St->Hp->Prop,(∀ Z' H',N Z' H'->∃ m',m'<m/\W m' Z' H')/\tb { D with nx:=N,ct:=N,bk:=D.nx } Z H1 else D.nx Z H1
theorem yd {c:Expr} {body:List Stmt} {tc:TT} {tb:TS} (hp:PassesOwn (model X.prog X.w) X.A X.env X.xe) (hc:PT X c tc) (hb:o5 X body tb):PS X (.While c body [] pos) (xx tc tb):=by
 intro pins s Z H D I h
 obtain ⟨W,⟨m0,w0⟩,turn⟩:=h
 refine wpAny_While (codeAny_whileLoop (fun n s'=>∃ Z' H',Inv X pins Z' H' s'/\W n Z' H') ?_ m0 ⟨Z,H,I,w0⟩)
 rintro n s1 ⟨Z1,H1,I1,w1⟩
 refine wpAny_passesOwn hp (aX (hc pins s1 Z1 H1 _ I1 (turn n Z1 H1 w1)) fun b s2 ⟨H2,I2,q2⟩=>?_)
 cases b with
 | true =>
  obtain ⟨N,hN,q2⟩:=q2
  rw [if_pos rfl]
  refine wpAny_passesOwn hp (aX (hb pins s2 Z1 H2 _ I2 q2) fun f s3 q3=>?_)
  cases f with
  | next =>
   obtain ⟨Z3,H3,I3,n3⟩:=q3
   obtain ⟨m',hm,w3⟩:=hN Z3 H3 n3
   exact ⟨m',hm,Z3,H3,I3,w3⟩
  | cont =>
   obtain ⟨Z3,H3,I3,n3⟩:=q3
   obtain ⟨m',hm,w3⟩:=hN Z3 H3 n3
   exact ⟨m',hm,Z3,H3,I3,w3⟩
  | brk=>exact q3
  | ret v=>exact q3
 | false =>
  rw [if_neg Bool.false_ne_true]
  exact wpAny_execs_nil ⟨Z1,H2,I2,q2⟩
end
structure It where
 go:Nat->Hp->Prop
 LU:Nat->Hp->V->Hp->Prop
 stop:Nat->Hp->Prop
noncomputable def lZ (X:Cx) (pins:List (Addr×Obj)) (H:Hp) (b:Addr):Prop :=
 H b=none/\b≠X.env.locals/\b∉X.fs/\(b∈X.ex\/X.s₀.heap.objs.size<=b)/\(∀ x c,X.env.cells.lookup x=some c->c≠b)/\∀ p∈X.pn++pins,p.1≠b
theorem Inv.wC {X:Cx} {pins:List (Addr×Obj)} {Z:St} {H H':Hp} {s:Shared} {b:Addr} (I:Inv X pins Z H s) (hb:s.heap.objs.size<=b) (hn:H' b=none):lZ X pins H' b:=by
 refine ⟨hn,Nat.ne_of_gt (Nat.lt_of_lt_of_le I.lt hb),I.Kh hb,.inr (Nat.le_trans I.sz hb),fun x c e z=>?_,fun p hp z=>?_⟩
 ·obtain ⟨v,q⟩:=I.cell x c e
  exact absurd (Nat.lt_of_lt_of_le q.lt (by rw [z];exact hb)) (Nat.lt_irrefl _)
 ·exact absurd (Nat.lt_of_lt_of_le (Heap.lt_size (I.pin p hp).1) (by rw [z];exact hb)) (Nat.lt_irrefl _)
structure Turn (P:Program) (w:World) (K:PySem.W.Frag) (tg:Expr) (J:It) (fp:List Addr) (it:Addr) (tn:Nat->Heap->Prop):Prop where
 mem:it∈fp
 obj:∀ i h,tn i h->∀ b∈fp,∃ o,h.get? b=some o/\∀ v,o.data≠.cell v
 keep:∀ i h h',tn i h->(∀ b∈fp,∀ o,h.get? b=some o->h'.get? b=some o)->tn i h'
 item:∀ (X:Cx),X.prog=P->X.w=w->X.K=K->X.calm=true->∀ (i:Nat) (pins:List (Addr×Obj)) (s:Shared) (Z:St) (H:Hp) (E:Value->Shared->Prop),Inv X pins Z H s->(∀ b∈fp,lZ X pins H b)->tn i s.heap->J.go i H ->
  wpAny (model P w) X.A (pyNext (.ref it)) (fun r s1=>∃ u,r=some u /\
   wpAny (model P w) X.A (letOwnedTupleGo tg (.ref it) u) (fun _ s2=>∃ x H',Inv X pins Z H' s2/\RelV x u/\J.LU i H x H'/\tn (i+1) s2.heap/\∀ b∈fp,H' b=none) E s1) E s
 done:∀ (X:Cx),X.prog=P->X.w=w->X.K=K->X.calm=true->∀ (i:Nat) (pins:List (Addr×Obj)) (s:Shared) (Z:St) (H:Hp) (E:Value->Shared->Prop),Inv X pins Z H s->(∀ b∈fp,lZ X pins H b)->tn i s.heap->J.stop i H ->
  wpAny (model P w) X.A (pyNext (.ref it)) (fun r s1=>r=none/\Inv X pins Z H s1) E s
 self:∀ (A:Around) (i:Nat) (s:Shared) (Q:Value->Shared->Prop) (E:Value->Shared->Prop),tn i s.heap->Q (.ref it) s->wpAny (model P w) A (pyIter (.ref it)) Q E s
noncomputable abbrev TI:=St->Hp->(It->Hp->Prop)->Prop
noncomputable def PIE (X:Cx) (pins:List (Addr×Obj)) (Z:St) (tg:Expr) (R:It->Hp->Prop) (itv:Value) (s2:Shared):Prop :=
 ∃ (it:Addr) (fp:List Addr) (tn:Nat->Heap->Prop) (J:It) (H':Hp),itv=.ref it/\Inv X pins Z H' s2/\Turn X.prog X.w X.K tg J fp it tn/\tn 0 s2.heap/\(∀ b∈fp,lZ X pins H' b)/\R J H'
noncomputable def PI (X:Cx) (tg iter:Expr) (wi:TI):Prop :=
 ∀ (pins:List (Addr×Obj)) (s:Shared) (Z:St) (H:Hp) (R:It->Hp->Prop),Inv X pins Z H s->wi Z H R ->
  wpAny (model X.prog X.w) X.A (eval iter X.env) (fun v s1=>wpAny (model X.prog X.w) X.A (pyIter v) (PIE X pins Z tg R) X.xe s1) X.xe s
theorem qo {M:Model} {A:Around} {E:Value->Shared->Prop} {s:Shared} {tg:Expr} {it:Addr} {u:Value} {o:Obj} {n:String} {vs:Array Value} {Q:Unit->Shared->Prop} (ho:s.heap.get? it=some o) (hc:o.cls=.type n) (hd:o.data=.fields vs)
    (hn:["enumerate", "zip", "dict_itemiterator", "dict_reverseitemiterator", "odict_iterator", "itertools.zip_longest", "itertools.pairwise"].contains n=false) (hQ:Q () s):wpAny M A (letOwnedTupleGo tg (.ref it) u) Q E s:=by
  unfold letOwnedTupleGo
  cases tg <;> first
    | exact wpAny_pure hQ
    | (cases u <;> first
        | exact wpAny_pure hQ
        | (refine wpAny_bind (wpAny_load ho ?_)
           rw [hc,hd]
           show wpAny M A (if (["enumerate", "zip", "dict_itemiterator", "dict_reverseitemiterator", "odict_iterator", "itertools.zip_longest", "itertools.pairwise"].contains n&&vs[0]? == some (rawInt _))=true then _ else _) Q E s
           rw [if_neg (by intro h;rw [hn,Bool.false_and] at h;cases h)]
           exact wpAny_pure hQ))
noncomputable def Itl (K:PySem.W.Frag) (a:Addr):It :=
 ⟨fun i H=>∃ xs x,fT K H a xs/\xs[i]? = some x,fun i H x H'=>H'=H/\∀ xs,fT K H a xs->xs[i]? = some x,fun i H=>∃ xs,fT K H a xs/\xs.length<=i⟩
noncomputable def Itt (K:PySem.W.Frag) (a:Addr):It :=
 ⟨fun i H=>∃ xs x,i7 K H a xs/\xs[i]? = some x,fun i H x H'=>H'=H/\∀ xs,i7 K H a xs->xs[i]? = some x,fun i H=>∃ xs,i7 K H a xs/\xs.length<=i⟩
noncomputable def MX (lo:Int) (n:Nat):It:=⟨fun i _=>i<n,fun i H x H'=>H'=H/\x=.int (lo+i),fun i _=>n<=i⟩
theorem vC {P:Program} {w:World} {K:PySem.W.Frag} {tg:Expr} (a it:Addr):Turn P w K tg (Itl K a) [it] it (fun i h=>h.IsListIter it a i) where
 mem:=by simp
 obj:=fun i h st b hb=>by
  have e:b=it:=by simpa using hb
  subst e
  obtain ⟨o,e,c,d⟩:=st
  exact ⟨o,e,fun v z=>by rw [d] at z;cases z⟩
 keep:=fun i h h' st k=>st.at fun o e=>k it (by simp) o e
 item:=by
  intro X hP hw hK hc i pins s Z H E I hf st hg
  subst hP hw hK
  obtain ⟨xs,x,hq,hx⟩:=hg
  obtain ⟨its,rv,p,hz⟩:=I.list hq
  obtain ⟨u,hu,ru⟩:=rv.get hx
  obtain ⟨f0,f1,f2,f3,f4,f5⟩:=hf it (by simp)
  refine wpAny_pyNext_list_item st p.isList (x:=u) (by simpa using hu) fun h' st' sb=>?_
  have I1:Inv X pins Z H { s with heap:=h' }:=I.turned (t':=s.toks) (fun b o hb e=>(sb.2 b hb).trans e) f0 f1 f3 f4 f5
  obtain ⟨o,e,c,d⟩:=id st'
  exact ⟨u,rfl,qo (s:={ s with heap:=h' }) e c d (by decide) ⟨x,H,I1,ru,⟨rfl,fun ys hy=>by rw [I.lq hy hq];exact hx⟩,st',fun b hb=>(hf b hb).1⟩⟩
 done:=by
  intro X hP hw hK hc i pins s Z H E I hf st hg
  subst hP hw hK
  obtain ⟨xs,hq,hx⟩:=hg
  obtain ⟨its,rv,p,hz⟩:=I.list hq
  obtain ⟨f0,f1,f2,f3,f4,f5⟩:=hf it (by simp)
  have hl:=rv.length
  exact wpAny_pyNext_list_end (I.ok.hd hc) st p.isList (by simp;omega) fun h' eb=>⟨rfl,I.turned (t':=s.toks) (fun b o hb e=>eb b o hb e) f0 f1 f3 f4 f5⟩
 self:=fun _ _ _ _ _ st h=>wpAny_pyIter_listiter st h
theorem qU {P:Program} {w:World} {K:PySem.W.Frag} {tg:Expr} (a it:Addr):Turn P w K tg (Itt K a) [it] it (fun i h=>h.IsTupleIter it a i) where
 mem:=by simp
 obj:=fun i h st b hb=>by
  have e:b=it:=by simpa using hb
  subst e
  obtain ⟨o,e,c,d⟩:=st
  exact ⟨o,e,fun v z=>by rw [d] at z;cases z⟩
 keep:=fun i h h' st k=>st.at fun o e=>k it (by simp) o e
 item:=by
  intro X hP hw hK hc i pins s Z H E I hf st hg
  subst hP hw hK
  obtain ⟨xs,x,hq,hx⟩:=hg
  obtain ⟨its,rv,p,hz⟩:=I.tuple hq
  obtain ⟨u,hu,ru⟩:=rv.get hx
  obtain ⟨f0,f1,f2,f3,f4,f5⟩:=hf it (by simp)
  refine wpAny_pyNext_tuple_item st (show s.heap.IsTuple a its.toArray from p) (x:=u) (by simpa using hu) fun h' st' sb=>?_
  have I1:Inv X pins Z H { s with heap:=h' }:=I.turned (t':=s.toks) (fun b o hb e=>(sb.2 b hb).trans e) f0 f1 f3 f4 f5
  obtain ⟨o,e,c,d⟩:=id st'
  exact ⟨u,rfl,qo (s:={ s with heap:=h' }) e c d (by decide) ⟨x,H,I1,ru,⟨rfl,fun ys hy=>by rw [I.mP hy hq];exact hx⟩,st',fun b hb=>(hf b hb).1⟩⟩
 done:=by
  intro X hP hw hK hc i pins s Z H E I hf st hg
  subst hP hw hK
  obtain ⟨xs,hq,hx⟩:=hg
  obtain ⟨its,rv,p,hz⟩:=I.tuple hq
  obtain ⟨f0,f1,f2,f3,f4,f5⟩:=hf it (by simp)
  have hl:=rv.length
  exact wpAny_pyNext_tuple_end (I.ok.hd hc) st (show s.heap.IsTuple a its.toArray from p) (by simp;omega) fun h' eb=>⟨rfl,I.turned (t':=s.toks) (fun b o hb e=>eb b o hb e) f0 f1 f3 f4 f5⟩
 self:=fun _ _ _ _ _ st h=>wpAny_pyIter_tupleiter st h
theorem qV {P:Program} {w:World} {K:PySem.W.Frag} {tg:Expr} (it:Addr) (lo:Int) (n:Nat):Turn P w K tg (MX lo n) [it] it (fun i h=>IsRangeIter h it (lo+(i:Nat)*1) ((n:Int)-(i:Nat)) 1) where
 mem:=by simp
 obj:=fun i h st b hb=>by
  have e:b=it:=by simpa using hb
  subst e
  exact ⟨_,st,fun v z=>by
   have z':Data.fields _=Data.cell v:=z
   cases z'⟩
 keep:=fun i h h' st k=>k it (by simp) _ st
 item:=by
  intro X hP hw hK hc i pins s Z H E I hf st hg
  subst hP hw hK
  obtain ⟨f0,f1,f2,f3,f4,f5⟩:=hf it (by simp)
  have W:=Walks.range (prog:=X.prog) (w:=X.w) (I.ok.hd hc) it lo 1 n
  refine W.item i s _ _ hg st fun v h' tk hv st' kk=>?_
  obtain ⟨t,rfl⟩:=hv
  have I1:Inv X pins Z H { s with heap:=h',toks:=tk }:=I.turned (fun b o hb e=>kk b o (by simpa using hb) e) f0 f1 f3 f4 f5
  refine ⟨_, rfl, qo (s:={ s with heap:=h', toks:=tk }) (n:="range_iterator") st' rfl rfl (by decide) ⟨.int (lo+i), H, I1, ⟨t, ?_⟩, ⟨rfl, rfl⟩, st', fun b hb=>(hf b hb).1⟩⟩
  rw [Int.mul_one]
 done:=by
  intro X hP hw hK hc i pins s Z H E I hf st hg
  subst hP hw hK
  obtain ⟨f0,f1,f2,f3,f4,f5⟩:=hf it (by simp)
  exact wpAny_pyNext_range_end (I.ok.hd hc) st (by have:n<=i:=hg;omega) fun h' eb=>⟨rfl,I.turned (t':=s.toks) (fun b o hb e=>eb b o hb e) f0 f1 f3 f4 f5⟩
 self:=fun _ _ _ _ _ st h=>wpAny_pyIter_rangeiter st h
section
variable {X:Cx} {tg:Expr}
theorem x8 {pins:List (Addr×Obj)} {Z:St} {H:Hp} {s:Shared} {R:It->Hp->Prop} {E:Value->Shared->Prop} {lo hi:Int} {t u v:Tok} {tk:Nat} (I:Inv X pins Z H s) (h1:-(2 ^ 62)<=lo) (h2:lo<2 ^ 62) (h3:-(2 ^ 62)<=hi) (h4:hi<2 ^ 62)
  (q:R (MX lo (hi-lo).toNat) H):wpAny (model X.prog X.w) X.A (pyIter (.ref s.heap.objs.size)) (PIE X pins Z tg R) E { s with heap:=s.heap.push { cls:=.type "range", data:=.fields #[.int lo t, .int hi u, .int 1 v] }, toks:=tk }:=by
 refine wpAny_pyIter_range (IsRange.new ..) (small_one h1 h2 h3 h4) ?_
 have I1:Inv X pins Z H { s with heap:=s.heap.push { cls:=.type "range", data:=.fields #[.int lo t, .int hi u, .int 1 v] }, toks:=tk }:=I.kept fun b o e=>Heap.get?_push_of_some _ e
 refine ⟨(s.heap.push { cls:=.type "range", data:=.fields #[.int lo t, .int hi u, .int 1 v] }).objs.size, [(s.heap.push { cls:=.type "range", data:=.fields #[.int lo t, .int hi u, .int 1 v] }).objs.size], _, _, H, rfl,
  I1.kept (t':=tk) fun b o e=>Heap.get?_push_of_some _ e,qV _ lo (hi-lo).toNat,?_,fun b hb=>?_,q⟩
 ·have e1:lo+((0:Nat):Int)*1=lo:=by simp
  have e2:(((hi-lo).toNat:Nat):Int)-((0:Nat):Int)=Builtin.Range.rangeSize lo hi 1:=by rw [rangeSize_one];split <;> omega
  show IsRangeIter _ _ (lo+((0:Nat):Int)*1) ((((hi-lo).toNat:Nat):Int)-((0:Nat):Int)) 1
  rw [e1,e2]
  exact Heap.get?_push_size _ rfl
 ·have e:b=(s.heap.push { cls:=.type "range", data:=.fields #[.int lo t, .int hi u, .int 1 v] }).objs.size:=by simpa using hb
  subst e
  exact I1.wC (Nat.le_refl _) (I1.hok.fresh (Nat.le_refl _))
noncomputable def D7 (ta:TA):TI:=fun Z H R=>ta Z H fun vs H1=>∃ j:Int,vs=[.int j]/\-(2 ^ 62)<=j/\j<2 ^ 62/\R (MX 0 j.toNat) H1
theorem vR {a:Expr} {ta:TA} {p pos:Pos} (hg:Gl X "range") (hm:X.mg "range" = none) (ha:PA X [a] ta) (hs:starEach [a] X.env=[(false, eval a X.env)]:=by rfl):PI X tg (.Call (.Name "range" p) [a] [] pos) (D7 ta):=by
 intro pins s Z H R I h
 refine Call_ (fF I hg hm boot_range (PyProof.Rows.callWith_type1 (aX (ha pos pins s Z H _ I h) fun us s1 ⟨vs,H1,I1,r1,q1⟩=>?_) hs rfl))
 obtain ⟨j,e,q1,q2,q⟩:=q1
 subst e
 cases r1 with
 | cons r rr =>
  cases rr
  obtain ⟨t,rfl⟩:=r
  exact call_range_1 (x8 I1 (by omega) (by omega) q1 q2 (by simpa using q))
noncomputable def Jo (wi:TI) (g:TG) (tb:TS):TS:=fun D Z H=>wi Z H fun J H1=>∃ W:Nat->Nat->St->Hp->Prop,(∃ m,W 0 m Z H1)/\∀ i m Z H,W i m Z H ->
 (J.stop i H/\D.nx Z H)\/(J.go i H/\∃ N:St->Hp->Prop,(∀ Z' H',N Z' H'->∃ m',m'<m/\W (i+1) m' Z' H')/\∀ x H',J.LU i H x H'->g x Z H' fun Z2 H2=>tb { D with nx:=N,ct:=N,bk:=D.nx } Z2 H2)
noncomputable def kU (fp:List Addr) (h:Heap):List (Addr×Obj):=fp.filterMap fun b=>(h.get? b).map fun o=>(b,o)
theorem fq {fp:List Addr} {h:Heap} {b:Addr} {o:Obj} (hb:b∈fp) (e:h.get? b=some o):(b,o)∈kU fp h:=List.mem_filterMap.mpr ⟨b,hb,by rw [e];rfl⟩
theorem vZ {fp:List Addr} {h:Heap} {p:Addr×Obj} (hp:p∈kU fp h):p.1∈fp/\h.get? p.1=some p.2:=by
 obtain ⟨b,hb,e⟩:=List.mem_filterMap.mp hp
 cases q:h.get? b with
 | none=>rw [q] at e;cases e
 | some o =>
  rw [q] at e
  have e':(b,o)=p:=Option.some.inj e
  subst e'
  exact ⟨hb,q⟩
theorem Inv.pinned {pins:List (Addr×Obj)} {Z:St} {H:Hp} {s:Shared} {fp:List Addr} (I:Inv X pins Z H s) (hf:∀ b∈fp,lZ X pins H b) (ho:∀ b∈fp,∃ o,s.heap.get? b=some o/\∀ v,o.data≠.cell v):Inv X (pins++kU fp s.heap) Z H s :=
 I.ug fun p hp=>(List.mem_append.mp hp).elim (fun z=>I.pin p (List.mem_append_right _ z)) fun z=>by
  obtain ⟨hb,e⟩:=vZ z
  obtain ⟨f0,f1,f2,_⟩:=hf p.1 hb
  obtain ⟨o,e',d⟩:=ho p.1 hb
  rw [e] at e';cases e'
  exact ⟨e,f0,f1,f2,d⟩
theorem Inv.iG {pins pl:List (Addr×Obj)} {Z:St} {H:Hp} {s:Shared} (I:Inv X (pins++pl) Z H s):Inv X pins Z H s:=I.ug fun p hp=>I.pin p (List.mem_append_right _ (List.mem_append_left _ hp))
theorem Ft {iter:Expr} {body:List Stmt} {wi:TI} {g:TG} {tb:TS} {pos:Pos} (hp:PassesOwn (model X.prog X.w) X.A X.env X.xe) (hc:X.calm=true) (hi:PI X tg iter wi) (hg:PG X tg g) (hb:o5 X body tb)
  (hs:∀ x,foldedSetIterable iter X.env x=pure x:=by intro _;rfl):PS X (.For tg iter body [] pos) (Jo wi g tb):=by
 intro pins s Z H D I h
 refine wpAny_For (aX (hi pins s Z H _ I h) fun v s1 h1=>aX h1 fun itv s2 h2=>?_) hs
 obtain ⟨it,fp,tn,J,H2,e,I2,T,st2,f2,W,⟨m0,w0⟩,turn⟩:=h2
 subst e
 have stat:∀ {H':Hp},(∀ b∈fp,H' b=none)->∀ b∈fp,lZ X pins H' b:=fun hn b hb=>⟨hn b hb,(f2 b hb).2⟩
 refine codeAny_forLoop_any (fun n s'=>∃ i Z' H',Inv X pins Z' H' s'/\tn i s'.heap/\(∀ b∈fp,H' b=none)/\W i n Z' H') ?_ m0 ⟨0,Z,H2,I2,st2,fun b hb=>(f2 b hb).1,w0⟩
 rintro n s3 ⟨i,Z3,H3,I3,st3,KU,w3⟩
 rcases turn i n Z3 H3 w3 with ⟨stop,qn⟩ | ⟨go,N,hN,step⟩
 ·refine wpAny_passesOwn hp (aX (T.done X rfl rfl rfl hc i pins s3 Z3 H3 X.xe I3 (stat KU) st3 stop) fun r s4 ⟨hr,I4⟩=>?_)
  subst hr
  exact wpAny_execs_nil ⟨Z3,H3,I4,qn⟩
 ·refine wpAny_passesOwn hp (aX (T.item X rfl rfl rfl hc i pins s3 Z3 H3 X.xe I3 (stat KU) st3 go) fun r s4 ⟨u,hr,h4⟩=>?_)
  subst hr
  refine wpAny_passesOwn hp (aX h4 fun _ s5 ⟨x,H5,I5,r5,y5,EN,fr5⟩=>?_)
  have I5':=I5.pinned (stat fr5) (T.obj _ _ EN)
  refine wpAny_passesOwn hp (aX (hg _ s5 Z3 H5 x u _ I5' r5 (step x H5 y5)) fun _ s6 ⟨Z6,H6,I6,q6⟩=>?_)
  refine wpAny_passesOwn hp (aX (hb _ s6 Z6 H6 _ I6 q6) fun f s7 q7=>?_)
  have again:∀ {Z7:St} {H7:Hp},Inv X (pins++kU fp s5.heap) Z7 H7 s7->N Z7 H7->∃ m,m<n/\∃ i Z' H',Inv X pins Z' H' s7/\tn i s7.heap/\(∀ b∈fp,H' b=none)/\W i m Z' H':=fun {Z7 H7} I7 n7=>by
   obtain ⟨m',hm,w7⟩:=hN Z7 H7 n7
   refine ⟨m',hm,i+1,Z7,H7,I7.iG,T.keep _ _ _ EN fun b hb o e=>(I7.pin (b,o) (List.mem_append_right _ (List.mem_append_right _ (fq hb e)))).1,fun b hb=>?_,w7⟩
   obtain ⟨o,e,d⟩:=T.obj _ _ EN b hb
   exact (I7.pin (b,o) (List.mem_append_right _ (List.mem_append_right _ (fq hb e)))).2.1
  cases f with
  | next=>obtain ⟨Z7,H7,I7,n7⟩:=q7;exact again I7 n7
  | cont=>obtain ⟨Z7,H7,I7,n7⟩:=q7;exact again I7 n7
  | brk=>obtain ⟨Z7,H7,I7,q7⟩:=q7;exact ⟨Z7,H7,I7.iG,q7⟩
  | ret v=>obtain ⟨x7,Z7,H7,I7,r7,q7⟩:=q7;exact ⟨x7,Z7,H7,I7.iG,r7,q7⟩
end
noncomputable abbrev R2:=V->V->Hp->VK->Prop
noncomputable def eS (X:Cx) (f:Value->Value->Sem Value) (r:R2):Prop :=
 ∀ (pins:List (Addr×Obj)) (s:Shared) (Z:St) (H:Hp) (x y:V) (v u:Value) (Q:VK),Inv X pins Z H s->RelV x v->RelV y u->r x y H Q ->
  wpAny (model X.prog X.w) X.A (f v u) (EP X pins Z Q) X.xe s
noncomputable def UnR (X:Cx) (f:Value->Sem Value) (r:V->Hp->VK->Prop):Prop :=
 ∀ (pins:List (Addr×Obj)) (s:Shared) (Z:St) (H:Hp) (x:V) (v:Value) (Q:VK),Inv X pins Z H s->RelV x v->r x H Q ->
  wpAny (model X.prog X.w) X.A (f v) (EP X pins Z Q) X.xe s
noncomputable def cK (X:Cx) (f:Value) (r:List V->Hp->VK->Prop):Prop :=
 ∀ (pins:List (Addr×Obj)) (s:Shared) (Z:St) (H:Hp) (xs:List V) (us:List Value) (Q:VK),Inv X pins Z H s->Vals xs us->r xs H Q ->
  wpAny (model X.prog X.w) X.A (call f us) (EP X pins Z Q) X.xe s
noncomputable def EJ (r:R2) (ta tb:TE):TE:=fun Z H Q=>ta Z H fun x H1=>tb Z H1 fun y H2=>r x y H2 Q
noncomputable def tUn (r:V->Hp->VK->Prop) (ta:TE):TE:=fun Z H Q=>ta Z H fun x H1=>r x H1 Q
noncomputable def rI (C:Int->Int->Prop) (g:Int->Int->V):R2:=fun x y H Q=>∃ i j,x=.int i/\y=.int j/\C i j/\Q (g i j) H
noncomputable def rG (g:Int->Int->V):R2:=fun x y H Q=>∃ i j,x=.int i/\y=.int j/\Q (g i j) H
noncomputable def rU (g:Int->V):V->Hp->VK->Prop:=fun x H Q=>∃ i,x=.int i/\Q (g i) H
section
variable {X:Cx} {a b c:Expr} {ta tb tc:TE} {pos:Pos}
theorem Ih (ha:PE X a ta) (hb:PE X b tb) {pins:List (Addr×Obj)} {s:Shared} {Z:St} {H:Hp} {R:V->V->Hp->Prop} (I:Inv X pins Z H s)
  (h:ta Z H fun x H1=>tb Z H1 fun y H2=>R x y H2) {Q:Value->Shared->Prop} {f:Value->Value->Sem Value}
  (hf:∀ v u s2 x y H2,Inv X pins Z H2 s2->RelV x v->RelV y u->R x y H2->wpAny (model X.prog X.w) X.A (f v u) Q X.xe s2) :
  wpAny (model X.prog X.w) X.A (eval a X.env) (fun v s₁=>wpAny (model X.prog X.w) X.A (eval b X.env) (fun u s₂=>wpAny (model X.prog X.w) X.A (f v u) Q X.xe s₂) X.xe s₁) X.xe s:=by
 refine aX (ha pins s Z H _ I h) fun v s1 ⟨x,H1,I1,r1,q1⟩=>?_
 refine aX (hb pins s1 Z H1 _ I1 q1) fun u s2 ⟨y,H2,I2,r2,q2⟩=>?_
 exact hf v u s2 x y H2 I2 r1 r2 q2
theorem J1 {op:Operator} {r:R2} (ho:eS X (binaryOp op) r) (ha:PE X a ta) (hb:PE X b tb):PE X (.BinOp a op b pos) (EJ r ta tb):=by
 intro pins s Z H Q I h
 exact wpAny_BinOp (Ih ha hb I h fun v u s2 x y H2 I2 rx ry q=>ho pins s2 Z H2 x y v u Q I2 rx ry q)
theorem JY {op:UnaryOp} {r:V->Hp->VK->Prop} (ho:UnR X (unaryOp op) r) (ha:PE X a ta):PE X (.UnaryOp op a pos) (tUn r ta):=by
 intro pins s Z H Q I h
 exact UnaryOp_ (aX (ha pins s Z H _ I h) fun v s1 ⟨x,H1,I1,r1,q1⟩=>ho pins s1 Z H1 x v Q I1 r1 q1)
theorem Kd {f:Value->Value->Sem Value} {C:Int->Int->Prop} {g:Int->Int->Int}
  (rule:∀ (i j:Int) (t u:Tok) (s:Shared) (Q:Value->Shared->Prop) (E:Value->Shared->Prop),C i j->Q (.int (g i j) s.toks) { s with toks:=s.toks+1 }->wpAny (model X.prog X.w) X.A (f (.int i t) (.int j u)) Q E s) :
  eS X f (rI C fun i j=>.int (g i j)):=by
 intro pins s Z H x y v u Q I rx ry h
 obtain ⟨i,j,rfl,rfl,hc,q⟩:=h
 obtain ⟨t,rfl⟩:=rx
 obtain ⟨t',rfl⟩:=ry
 exact rule i j t t' s _ _ hc ⟨.int (g i j),H,I.tok _,⟨_,rfl⟩,q⟩
theorem Kc {f:Value->Value->Sem Value} {g:Int->Int->Int}
  (rule:∀ (i j:Int) (t u:Tok) (s:Shared) (Q:Value->Shared->Prop) (E:Value->Shared->Prop),Q (.int (g i j) s.toks) { s with toks:=s.toks+1 }->wpAny (model X.prog X.w) X.A (f (.int i t) (.int j u)) Q E s) :
  eS X f (rG fun i j=>.int (g i j)):=by
 intro pins s Z H x y v u Q I rx ry h
 obtain ⟨i,j,rfl,rfl,q⟩:=h
 obtain ⟨t,rfl⟩:=rx
 obtain ⟨t',rfl⟩:=ry
 exact rule i j t t' s _ _ ⟨.int (g i j),H,I.tok _,⟨_,rfl⟩,q⟩
theorem Ca {f:Value->Value->Sem Value} {g:Int->Int->Bool}
  (rule:∀ (i j:Int) (t u:Tok) (s:Shared) (Q:Value->Shared->Prop) (E:Value->Shared->Prop),Q (.bool (g i j)) s->wpAny (model X.prog X.w) X.A (f (.int i t) (.int j u)) Q E s) :
  eS X f (rG fun i j=>.bl (g i j)):=by
 intro pins s Z H x y v u Q I rx ry h
 obtain ⟨i,j,rfl,rfl,q⟩:=h
 obtain ⟨t,rfl⟩:=rx
 obtain ⟨t',rfl⟩:=ry
 exact rule i j t t' s _ _ ⟨.bl (g i j),H,I,rfl,q⟩
noncomputable def LS (i j:Int):Prop:=0<j/\j<1073741824
noncomputable def LQ (i j:Int):Prop:=0<=j/\j<=1000000/\i.natAbs<2 ^ 64
noncomputable def Dt (i j:Int):Prop:=(-(2 ^ 64)<i/\i<2 ^ 64)\/(-(2 ^ 64)<j/\j<2 ^ 64)
theorem Dt.ok {i j:Int} (h:Dt i j):IntMulOk i j:=by
 rcases h with ⟨h1,h2⟩ | ⟨h1,h2⟩
 ·exact .of_left (intBits_le_64 h1 h2)
 ·exact .of_right (intBits_le_64 h1 h2)
theorem Gg:eS X (binaryOp .Add) (rG fun i j=>.int (i+j)):=Kc fun _ _ _ _ _ _ _ q=>add_int q
theorem FW:eS X (binaryOp .Sub) (rG fun i j=>.int (i-j)):=Kc fun _ _ _ _ _ _ _ q=>sub_int q
theorem F7:eS X (binaryOp .Mult) (rI Dt fun i j=>.int (i*j)):=Kd fun _ _ _ _ _ _ _ hc q=>mul_int q hc.ok
theorem B7:eS X (binaryOp .FloorDiv) (rI LS fun i j=>.int (i / j)):=Kd fun i j _ _ _ _ _ hc q=>by
 have h1:(0:Int)<j:=hc.1
 have h2:j<1073741824:=hc.2
 exact floordiv_int (by omega) (by rw [Int.fdiv_eq_ediv_of_nonneg i (by omega)];exact q) (.inl (PyProof.noPylong_small (by omega)))
theorem F8:eS X (binaryOp .Mod) (rI (fun _ j=>0<j) fun i j=>.int (i % j)):=Kd fun i j _ _ _ _ _ hc q=>by
 have h1:(0:Int)<j:=hc
 exact mod_int' (by omega) (by rw [Int.fmod_eq_emod_of_nonneg i (by omega)];exact q)
theorem FY:eS X (binaryOp .Pow) (rI LQ fun i j=>.int (i ^ j.toNat)):=Kd fun _ _ _ _ _ _ _ hc q=>pow_int_small hc.1 hc.2.1 hc.2.2 q
theorem unI {f:Value->Sem Value} {g:Int->Int}
  (rule:∀ (i:Int) (t:Tok) (s:Shared) (Q:Value->Shared->Prop) (E:Value->Shared->Prop),Q (.int (g i) s.toks) { s with toks:=s.toks+1 }->wpAny (model X.prog X.w) X.A (f (.int i t)) Q E s) :
  UnR X f (rU fun i=>.int (g i)):=by
 intro pins s Z H x v Q I rx h
 obtain ⟨i,rfl,q⟩:=h
 obtain ⟨t,rfl⟩:=rx
 exact rule i t s _ _ ⟨.int (g i),H,I.tok _,⟨_,rfl⟩,q⟩
theorem EA:UnR X (unaryOp .USub) (rU fun i=>.int (-i)):=unI fun _ _ _ _ _ q=>neg_int q
end
noncomputable def JE:V->V->Bool
 | .aq,.aq=>true | .aq,.int _=>true | .int _,.aq=>true | .aq,.bl _=>true | .bl _,.aq=>true | .aq,.str _=>true | .str _,.aq=>true
 | .int _,.int _=>true | .bl _,.bl _=>true | .str _,.str _=>true | .xh _,.xh _=>true
 | .int _,.str _=>true | .str _,.int _=>true | .bl _,.str _=>true | .str _,.bl _=>true
 | _,_=>false
noncomputable def rEq:R2:=fun x y H Q=>JE x y=true/\Q (.bl (decide (x=y))) H
noncomputable def rNe:R2:=fun x y H Q=>JE x y=true/\Q (.bl (!decide (x=y))) H
theorem u7 {i j:Int}:decide (V.int i=V.int j)=(i == j):=by
 rw [Bool.eq_iff_iff]
 simp
theorem oO {i j:Bool}:decide (V.bl i=V.bl j)=(i == j):=by
 rw [Bool.eq_iff_iff]
 simp
theorem u6 {i j:Str}:decide (V.str i=V.str j)=(i == j):=by
 rw [Bool.eq_iff_iff]
 simp
theorem u9 {i j:Array UInt8}:decide (V.xh i=V.xh j)=(i.toList == j.toList):=by
 rw [Bool.eq_iff_iff]
 cases i
 cases j
 simp
section
variable {X:Cx} {a b c:Expr} {ta tb tc:TE} {pos:Pos}
theorem aD {pins:List (Addr×Obj)} {Z:St} {H:Hp} {s:Shared} {Q:VK} {k k':Bool} (I:Inv X pins Z H s) (q:Q (.bl k) H) (e:k=k'):EP X pins Z Q (.bool k') s:=by
 subst e
 exact ⟨.bl k,H,I,rfl,q⟩
theorem Ka:eS X (compareOp .Eq) rEq:=by
 intro pins s Z H x y v u Q I rx ry h
 obtain ⟨hs,q⟩:=h
 cases x with
 | aq =>
  cases rx
  cases y with
  | aq=>cases ry;exact PySem.EqNone.eq_none_none (aD I q (by simp))
  | bl j=>cases ry;exact PySem.EqNone.eq_none_bool (aD I q (by simp))
  | int j=>obtain ⟨t',rfl⟩:=ry;exact PySem.EqNone.eq_none_int (aD I q (by simp))
  | str j=>obtain ⟨t',rfl⟩:=ry;exact PySem.EqNone.eq_none_str (aD I q (by simp))
  | _=>exact absurd (show false=true from hs) Bool.false_ne_true
 | bl i =>
  cases rx
  cases y with
  | aq=>cases ry;exact PySem.EqNone.eq_bool_none (aD I q (by simp))
  | bl j=>cases ry;exact eq_bool (aD I q oO)
  | str j=>obtain ⟨t',rfl⟩:=ry;exact PySem.EqMixed.eq_bool_str (aD I q (by simp))
  | _=>exact absurd (show false=true from hs) Bool.false_ne_true
 | int i =>
  obtain ⟨t,rfl⟩:=rx
  cases y with
  | aq=>cases ry;exact PySem.EqNone.eq_int_none (aD I q (by simp))
  | int j=>obtain ⟨t',rfl⟩:=ry;exact eq_int (aD I q u7)
  | str j=>obtain ⟨t',rfl⟩:=ry;exact PySem.EqMixed.eq_int_str (aD I q (by simp))
  | _=>exact absurd (show false=true from hs) Bool.false_ne_true
 | str i =>
  obtain ⟨t,rfl⟩:=rx
  cases y with
  | aq=>cases ry;exact PySem.EqNone.eq_str_none (aD I q (by simp))
  | bl j=>cases ry;exact PySem.EqMixed.eq_str_bool (aD I q (by simp))
  | int j=>obtain ⟨t',rfl⟩:=ry;exact PySem.EqMixed.eq_str_int (aD I q (by simp))
  | str j=>obtain ⟨t',rfl⟩:=ry;exact eq_str (aD I q u6)
  | _=>exact absurd (show false=true from hs) Bool.false_ne_true
 | xh i =>
  obtain ⟨t,rfl⟩:=rx
  cases y with
  | xh j=>obtain ⟨t',rfl⟩:=ry;exact PySem.W.eq_bytes (aD I q u9)
  | _=>exact absurd (show false=true from hs) Bool.false_ne_true
 | _=>cases y <;> exact absurd (show false=true from hs) Bool.false_ne_true
theorem J5:eS X (compareOp .NotEq) rNe:=by
 intro pins s Z H x y v u Q I rx ry h
 obtain ⟨hs,q⟩:=h
 cases x with
 | aq =>
  cases rx
  cases y with
  | aq=>cases ry;exact PySem.EqNone.ne_none_none (aD I q (by simp))
  | bl j=>cases ry;exact PySem.EqNone.ne_none_bool (aD I q (by simp))
  | int j=>obtain ⟨t',rfl⟩:=ry;exact PySem.EqNone.ne_none_int (aD I q (by simp))
  | str j=>obtain ⟨t',rfl⟩:=ry;exact PySem.EqNone.ne_none_str (aD I q (by simp))
  | _=>exact absurd (show false=true from hs) Bool.false_ne_true
 | bl i =>
  cases rx
  cases y with
  | aq=>cases ry;exact PySem.EqNone.ne_bool_none (aD I q (by simp))
  | bl j=>cases ry;exact ne_bool (aD I q (congrArg not oO))
  | str j=>obtain ⟨t',rfl⟩:=ry;exact PySem.EqMixed.ne_bool_str (aD I q (by simp))
  | _=>exact absurd (show false=true from hs) Bool.false_ne_true
 | int i =>
  obtain ⟨t,rfl⟩:=rx
  cases y with
  | aq=>cases ry;exact PySem.EqNone.ne_int_none (aD I q (by simp))
  | int j=>obtain ⟨t',rfl⟩:=ry;exact ne_int (aD I q (congrArg not u7))
  | str j=>obtain ⟨t',rfl⟩:=ry;exact PySem.EqMixed.ne_int_str (aD I q (by simp))
  | _=>exact absurd (show false=true from hs) Bool.false_ne_true
 | str i =>
  obtain ⟨t,rfl⟩:=rx
  cases y with
  | aq=>cases ry;exact PySem.EqNone.ne_str_none (aD I q (by simp))
  | bl j=>cases ry;exact PySem.EqMixed.ne_str_bool (aD I q (by simp))
  | int j=>obtain ⟨t',rfl⟩:=ry;exact PySem.EqMixed.ne_str_int (aD I q (by simp))
  | str j=>obtain ⟨t',rfl⟩:=ry;exact ne_str (aD I q (congrArg not u6))
  | _=>exact absurd (show false=true from hs) Bool.false_ne_true
 | xh i =>
  obtain ⟨t,rfl⟩:=rx
  cases y with
  | xh j=>obtain ⟨t',rfl⟩:=ry;exact PySem.W.ne_bytes (aD I q (congrArg not u9))
  | _=>exact absurd (show false=true from hs) Bool.false_ne_true
 | _=>cases y <;> exact absurd (show false=true from hs) Bool.false_ne_true
theorem J6:eS X (compareOp .Lt) (rG fun i j=>.bl (decide (i<j))):=Ca fun _ _ _ _ _ _ _ q=>lt_int q
theorem J7:eS X (compareOp .LtE) (rG fun i j=>.bl (decide (i<=j))):=Ca fun _ _ _ _ _ _ _ q=>le_int q
theorem J8:eS X (compareOp .Gt) (rG fun i j=>.bl (decide (j<i))):=Ca fun _ _ _ _ _ _ _ q=>gt_int q
theorem J9:eS X (compareOp .GtE) (rG fun i j=>.bl (decide (j<=i))):=Ca fun _ _ _ _ _ _ _ q=>ge_int q
theorem F9:eS X (compareOp .Is) (fun x y H Q=>y=.aq/\Q (.bl (decide (x=.aq))) H):=by
 intro pins s Z H x y v u Q I rx ry h
 obtain ⟨rfl,q⟩:=h
 cases ry
 refine is_none_gen (aD I q ?_)
 cases x <;> first
  | (cases rx;rfl)
  | (obtain ⟨t,rfl⟩:=rx;rfl)
theorem B4:eS X (compareOp .IsNot) (fun x y H Q=>y=.aq/\Q (.bl (!decide (x=.aq))) H):=by
 intro pins s Z H x y v u Q I rx ry h
 obtain ⟨rfl,q⟩:=h
 cases ry
 refine isnot_none_gen (aD I q ?_)
 cases x <;> first
  | (cases rx;rfl)
  | (obtain ⟨t,rfl⟩:=rx;rfl)
theorem eS.or {f:Value->Value->Sem Value} {r r':R2} (h:eS X f r) (h':eS X f r'):eS X f (fun x y H Q=>r x y H Q\/r' x y H Q):=by
 intro pins s Z H x y v u Q I rx ry q
 rcases q with q | q
 ·exact h pins s Z H x y v u Q I rx ry q
 ·exact h' pins s Z H x y v u Q I rx ry q
theorem BY {op:CmpOp} {r:R2} (ho:eS X (compareOp op) r) (ha:PE X a ta) (hb:PE X b tb) (hm:behindInMarks op b=false):PE X (.Compare a [op] [b] pos) (EJ r ta tb):=by
 intro pins s Z H Q I h
 exact wpAny_Compare1 (Ih ha hb I h fun v u s2 x y H2 I2 rx ry q=>ho pins s2 Z H2 x y v u Q I2 rx ry q) hm
noncomputable def Je (t:TE):TT:=fun Z H Q=>t Z H fun x H'=>∃ k,x=.bl k/\Q k H'
theorem BK {op:CmpOp} {r:R2} (ho:eS X (compareOp op) r) (ha:PE X a ta) (hb:PE X b tb) (hm:behindInMarks op b=false):PT X (.Compare a [op] [b] pos) (Je (EJ r ta tb)):=by
 intro pins s Z H Q I h
 refine wpAny_isTrue_Compare1 (aX (ha pins s Z H _ I h) fun v s1 ⟨x,H1,I1,r1,q1⟩=>aX (hb pins s1 Z H1 _ I1 q1) fun u s2 ⟨y,H2,I2,r2,q2⟩ =>
  aX (ho pins s2 Z H2 x y v u _ I2 r1 r2 q2) fun c s3 ⟨z,H3,I3,r3,k,e,q3⟩=>?_) hm
 subst e
 cases r3
 exact wpAny_truthy_bool ⟨H3,I3,q3⟩
theorem je:(sizeLine:Nat)<2 ^ 63:=by rw [sizeLine_eq];decide
theorem rM:eS X (binaryOp .Add) (fun x y H Q=>∃ i j,x=.str i/\y=.str j/\i.length+j.length<=sizeLine/\Q (.str (i++j)) H):=by
 intro pins s Z H x y v u Q I rx ry h
 obtain ⟨i,j,rfl,rfl,hz,q⟩:=h
 obtain ⟨t,rfl⟩:=rx
 obtain ⟨t',rfl⟩:=ry
 exact add_str (fun t' tk=>⟨.str (i++j),H,I.tok _,⟨_,rfl⟩,q⟩) hz
theorem vals1 {x:V} {us:List Value} (r:Vals [x] us):∃ u,us=[u]/\RelV x u:=by
 cases r with
 | cons r1 r2=>cases r2;exact ⟨_,rfl,r1⟩
end
structure sU (h:Heap) (x dx C:Addr) (mA:Str->Option Value):Prop where
 obj:h.get? x=some (PySem.W.instObj C dx)
 ns:h.Ns1 dx mA
 ne:dx≠x
theorem v7 {h:Heap} {dx:Addr} {mA:Str->Option Value} (n:h.Ns1 dx mA):∃ od,h.get? dx=some od/\∀ name,PySem.W.lookIn name od=some (mA name):=by
 obtain ⟨o,es,ep,ho,hd,hk,_,hm⟩:=n
 refine ⟨o,ho,fun name=>?_⟩
 have e:=hm name
 unfold nsFind findBy at e
 rw [<- Array.find?_toList] at e
 unfold PySem.W.lookIn
 rw [hd]
 dsimp only
 split
 ·rename_i y q
  rw [q] at e
  exact congrArg some e
 ·rename_i q
  rw [q] at e
  have a:es.toList.any (·.refKey)=false:=by
   rw [List.any_eq_false]
   intro y hy
   obtain ⟨z,t,hkey⟩:=hk y (Array.mem_toList_iff.mp hy)
   simp [DictEntry.refKey,hkey]
  have a':¬ es.toList.any (·.refKey)=true:=by rw [a];exact Bool.false_ne_true
  rw [if_neg a']
  exact congrArg some e
theorem sU.look {h:Heap} {x dx C:Addr} {mA:Str->Option Value} (I:sU h x dx C mA):∃ od,PySem.W.InstAt h x (PySem.W.instObj C dx) C (some od)/\∀ name,PySem.W.lookIn name od=some (mA name) :=
 let ⟨od,ho,hl⟩:=v7 I.ns
 ⟨od,⟨I.obj,rfl,rfl,ho⟩,hl⟩
section
variable {prog:Program} {w:World} {A:Around} {E:Value->Shared->Prop} {s:Shared} {K:PySem.W.Frag} {x dx C f:Addr} {mA:Str->Option Value} {name:Str} {v:Value}
theorem get_map {expr:Bool} {Q:Value->Shared->Prop} (X:K.In s.heap) (I:sU s.heap x dx C mA) (hg:PySem.W.plainGet K C name=true) (hh:PySem.W.hasDictIn K C=true)
  (ha:PySem.W.findIn K (.ref C) name=some none) (hv:mA name=some v) (hv':PySem.W.handedIn v=true) (h:Q v { s with toks:=s.toks+1 }) :
  wpAny (model prog w) A (getAttr (.ref x) name expr) Q E s:=by
 obtain ⟨od,J,hl⟩:=I.look
 exact PySem.W.get_value X J (PySem.W.plainGet_of hg).1 (PySem.W.findObj_own hh ha rfl (by rw [hl,hv])) hv' h
theorem zC {pl:Sem Bool} {Q:Value×List Value->Shared->Prop} (X:K.In s.heap) (I:sU s.heap x dx C mA) (hg:PySem.W.plainGet K C name=true)
  (hf:PySem.W.findIn K (.ref C) name=some (some (.ref f))) (ht:PySem.W.isFn K (.ref f)=true) (hv:mA name=none) (h:Q (.ref f,[.ref x]) s) :
  wpAny (model prog w) A (getMethod (.ref x) name pl) Q E s:=by
 obtain ⟨od,J,hl⟩:=I.look
 exact PySem.W.method_fn X J (PySem.W.plainGet_of hg).1 (PySem.W.plainGet_of hg).2 hf (beq_iff_eq.mp ht) (by show (PySem.W.lookIn name od).map (·.isSome)=some false;rw [hl,hv];rfl) h
theorem Bw {ns:List Str} {Q:Unit->Shared->Prop} (X:K.In s.heap) (I:sU s.heap x dx C mA)
  (hs:PySem.W.findIn K (.ref C) "__setattr__" = some (some (.builtin "object.__setattr__"))) (hp:PySem.W.plainOver K C=true) (ht:PySem.W.takerIn K C name=some none) (hh:PySem.W.hasDictIn K C=true)
  (hw:PySem.Within mA ns) (hsz:ns.length<=sizeLine)
  (h:∀ h',sU h' x dx C (fun y=>if y=name then some v else mA y)->Heap.SameBut dx s.heap h'->Q () { s with heap:=h',toks:=s.toks+2 }) :
  wpAny (model prog w) A (setAttr (.ref x) name v) Q E s:=by
 obtain ⟨od,J,hl⟩:=I.look
 refine PySem.W.set_plain X J hs (PySem.W.osa_open (s:={ s with toks:=s.toks+1 }) (r:=none) X J hp ht fun b=>?_)
 obtain ⟨cd,hc,hd'⟩:=PySem.W.any_some hh
 have hx:s.heap.get? x=some ⟨.ref C,some dx,.plain,#[]⟩:=I.obj
 refine wpAny_bind (wpAny_pure (wpAny_bind (wpAny_bind (wpAny_loadPart hx (wpAny_bind (PySem.W.Looks.here (s:={ s with toks:=s.toks+1 }) (PySem.W.looks_clsIn X hc) ?_))))))
 rw [hd']
 refine wpAny_pure (a:=some dx) (wpAny_bind (wpAny_pure (wpAny_bind ?_)))
 refine wpAny_nsSet1 (s:={ s with toks:=s.toks+1 }) I.ns fun h' hn2 hs2=>?_
 obtain ⟨oD,esD,epD,hoD,hdD,hcD⟩:=hn2.count (PySem.Within.cons name v hw)
 refine wpAny_bind (wpAny_lookBehind hoD (by rw [hdD];exact pastItsLine_dict (Nat.le_trans hcD (by rw [List.length_cons];omega))) ?_)
 exact wpAny_pure (h _ ⟨(hs2.2 _ (Ne.symm I.ne)).trans I.obj,hn2,I.ne⟩ hs2)
theorem yN {R:Result->Shared->Prop} {vs:List Value} {kw:List (Str×Value)} (X:K.In s.heap) (hm:PySem.W.makesIn K C=true)
  (hi:PySem.W.findIn K (.ref C) "__init__" = some (some (.ref f))) (hf:PySem.W.typeIn K (.ref f)=some (.type "function"))
  (h:codeAny (model prog w) (A.under (.builtin "type.__call__" ⟨.ref C::vs, kw⟩)) (.call (.ref f) ⟨.ref (s.heap.objs.size+1)::vs, kw⟩) (PySem.W.InitBack (s.heap.objs.size+1) R)
   { s with heap:=(s.heap.push PySem.W.emptyDict).push (PySem.W.instObj C s.heap.objs.size) }) :
  codeAny (model prog w) A (.call (.ref C) ⟨vs,kw⟩) R s:=by
 obtain ⟨hh,g,d,t,os⟩:=s
 exact PySem.W.make_core (PySem.W.makes_of X hm) (PySem.W.looks_findIn X hi) (fun self=>PySem.W.bind_fn X self hf) (.inl rfl) h
end
noncomputable def dJ (f:Str) (v:V):List (Str×V)->List (Str×V)
 | []=>[(f,v)]
 | (g,x)::r=>if g=f then (g,v)::r else (g,x)::dJ f v r
theorem jy (f g:Str) (v:V):∀ fs:List (Str×V),(dJ f v fs).lookup g=if g=f then some v else fs.lookup g
 | []=>by
  show List.lookup g [(f,v)]=_
  by_cases h:g=f
  ·have hb:(g == f)=true:=beq_iff_eq.mpr h
   simp only [List.lookup,hb,if_pos h]
  ·have hb:(g == f)=false:=beq_eq_false_iff_ne.mpr h
   simp only [List.lookup,hb,if_neg h]
 | (k, x)::r=>by
  have ih:=jy f g v r
  rw [show dJ f v ((k,x)::r)=(if k=f then (k,v)::r else (k,x)::dJ f v r) from rfl]
  by_cases hk:k=f
  ·rw [if_pos hk]
   by_cases h:g=k
   ·have hb:(g == k)=true:=beq_iff_eq.mpr h
    simp only [List.lookup,hb,if_pos (h.trans hk)]
   ·have hb:(g == k)=false:=beq_eq_false_iff_ne.mpr h
    simp only [List.lookup,hb,if_neg (fun e:g=f=>h (e.trans hk.symm))]
  ·rw [if_neg hk]
   by_cases h:g=k
   ·have hb:(g == k)=true:=beq_iff_eq.mpr h
    simp only [List.lookup,hb,if_neg (fun e:g=f=>hk (h.symm.trans e))]
   ·have hb:(g == k)=false:=beq_eq_false_iff_ne.mpr h
    simp only [List.lookup,hb]
    exact ih
theorem jf (f:Str) (v:V):∀ fs:List (Str×V),f∈(dJ f v fs).map (·.1)/\∀ g,g∈fs.map (·.1)->g∈(dJ f v fs).map (·.1)
 | []=>⟨by simp [dJ],fun g h=>by simp at h⟩
 | (k, x)::r=>by
  obtain ⟨i1,i2⟩:=jf f v r
  rw [show dJ f v ((k,x)::r)=(if k=f then (k,v)::r else (k,x)::dJ f v r) from rfl]
  by_cases hk:k=f
  ·rw [if_pos hk]
   subst hk
   exact ⟨by simp,fun g h=>by simpa using h⟩
  ·rw [if_neg hk]
   refine ⟨?_,fun g h=>?_⟩
   ·rw [List.map_cons]
    exact List.mem_cons_of_mem _ i1
   ·rw [List.map_cons] at h ⊢
    rcases List.mem_cons.mp h with e | e
    ·exact List.mem_cons.mpr (.inl e)
    ·exact List.mem_cons_of_mem _ (i2 g e)
theorem jA (f:Str) (v:V):∀ fs:List (Str×V),(dJ f v fs).length<=fs.length+1
 | []=>by simp [dJ]
 | (k,x)::r=>by
  have ih:=jA f v r
  rw [show dJ f v ((k,x)::r)=(if k=f then (k,v)::r else (k,x)::dJ f v r) from rfl]
  by_cases hk:k=f
  ·rw [if_pos hk,List.length_cons,List.length_cons];omega
  ·rw [if_neg hk,List.length_cons,List.length_cons];omega
theorem gE.some_of {v:V} {o:Option Value} (r:gE (some v) o):∃ u,o=some u/\RelV v u:=by
 cases o with
 | none=>exact (show False from r).elim
 | some u=>exact ⟨u,rfl,r⟩
theorem gE.none_of {o:Option Value} (r:gE none o):o=none:=by
 cases o with
 | none=>rfl
 | some u=>exact (show False from r).elim
theorem wA {v:V} {u:Value} (r:RelV v u):PySem.W.handedIn u=true:=by
 cases v with
 | aq=>cases (show u=Value.none from r);rfl
 | bl b=>cases (show u=Value.bool b from r);rfl
 | int i=>obtain ⟨t,e⟩:=(show ∃ t,u=Value.int i t from r);cases e;rfl
 | str x=>obtain ⟨t,e⟩:=(show ∃ t,u=Value.str x t from r);cases e;rfl
 | xh b=>obtain ⟨t,e⟩:=(show ∃ t,u=Value.bytes b t from r);cases e;rfl
 | My b=>obtain ⟨t,e⟩:=(show ∃ t,u=Value.float b t from r);cases e;rfl
 | ref a=>cases (show u=Value.ref a from r);rfl
 | ty n=>cases (show u=Value.type n from r);rfl
section
variable {P:Program} {w:World} {H H':Hp} {h h':Heap} {a C dx:Addr} {fs fs':List (Str×V)}
theorem n8 (hok:gU P w H h) (e:H a=some (.ins C dx fs)):∃ mA,sU h a dx C mA/\(∀ f,gE (fs.lookup f) (mA f))/\PySem.Within mA (fs.map (·.1))/\fs.length<=1000/\H dx=some (.own a):=by
 obtain ⟨d,z,ne,ob,mA,n,r,q⟩:=(show aV P w H h a (.ins C dx fs) from hok a _ e)
 exact ⟨mA,⟨ob,n,ne⟩,r,q,z,d⟩
end
structure wU (K:PySem.W.Frag) (C:Addr):Prop where
 pg:PySem.W.plainGet K C Str.empty=true
 hd:PySem.W.hasDictIn K C=true
 po:PySem.W.plainOver K C=true
 sa:PySem.W.findIn K (.ref C) "__setattr__" = some (some (.builtin "object.__setattr__"))
theorem wU.get {K:PySem.W.Frag} {C:Addr} (c:wU K C) (f:Str):PySem.W.plainGet K C f=true:=c.pg
noncomputable def dS (K:PySem.W.Frag) (C:Addr) (f:Str):Prop:=PySem.W.findIn K (.ref C) f=some none
theorem dS.IV {K:PySem.W.Frag} {C:Addr} {f:Str} (n:dS K C f):PySem.W.takerIn K C f=some none:=by
 unfold PySem.W.takerIn
 rw [show PySem.W.findIn K (.ref C) f=some none from n]
 rfl
structure Meth (K:PySem.W.Frag) (C:Addr) (m:Str) (f:Addr):Prop where
 at_:PySem.W.findIn K (.ref C) m=some (some (.ref f))
 fn:PySem.W.isFn K (.ref f)=true
 kp:PySem.W.keepIn K (.ref f)=true
section
variable {X:Cx} {pins:List (Addr×Obj)} {Z:St} {H:Hp} {s:Shared} {a C dx:Addr} {fs:List (Str×V)} {f:Str} {v:V} {A:Around} {E:Value->Shared->Prop}
theorem r6 {b:Bool} {Q:Value->Shared->Prop} (I:Inv X pins Z H s) (e:H a=some (.ins C dx fs)) (c:wU X.K C) (n:dS X.K C f) (l:fs.lookup f=some v)
  (h:∀ u s',Inv X pins Z H s'->RelV v u->Q u s'):wpAny (model X.prog X.w) A (getAttr (.ref a) f b) Q E s:=by
 obtain ⟨mA,O,r,_,_,_⟩:=n8 I.hok e
 obtain ⟨u,hu,ru⟩:=gE.some_of (v:=v) (o:=mA f) (by rw [<- l];exact r f)
 exact get_map I.iQ O (c.get f) c.hd n hu (wA ru) (h u _ (I.tok _) ru)
theorem lF {m:Str} {g:Addr} {pl:Sem Bool} {Q:Value×List Value->Shared->Prop} (I:Inv X pins Z H s) (e:H a=some (.ins C dx fs)) (c:wU X.K C) (k:Meth X.K C m g) (l:fs.lookup m=none)
  (h:Q (.ref g,[.ref a]) s):wpAny (model X.prog X.w) A (getMethod (.ref a) m pl) Q E s:=by
 obtain ⟨mA,O,r,_,_,_⟩:=n8 I.hok e
 have hn:mA m=none:=gE.none_of (by rw [<- l];exact r m)
 exact zC I.iQ O (c.get m) k.at_ k.fn hn h
theorem rB {y:V} {u:Value} {Q:Unit->Shared->Prop} (I:Inv X pins Z H s) (e:H a=some (.ins C dx fs)) (c:wU X.K C) (n:dS X.K C f) (hl:fs.length<1000) (ry:RelV y u)
  (h:∀ s',Inv X pins Z (upd H a (.ins C dx (dJ f y fs))) s'->Q () s'):wpAny (model X.prog X.w) A (setAttr (.ref a) f u) Q E s:=by
 obtain ⟨mA,O,r,wi,_,ho⟩:=n8 I.hok e
 have hz:(fs.map (·.1)).length<=sizeLine:=by rw [List.length_map,sizeLine_eq];omega
 refine Bw I.iQ O c.sa c.po n.IV c.hd wi hz fun h' O' sb=>h _ ?_
 have hd:∃ o,h'.get? dx=some o:=let ⟨o,_,_,e',_⟩:=O'.ns;⟨o,e'⟩
 refine I.write (x:=a) (e:=dx) (by rw [e];exact True.intro) (.inr ho) (fun b q hb z=>(sb.2 b hb).trans z) hd ?_
 refine ⟨by rw [ao O.ne];exact ho,?_,O.ne,O'.obj,_,O'.ns,fun g=>?_,fun g hg=>?_⟩
 ·have:=jA f y fs;omega
 ·show gE ((dJ f y fs).lookup g) (if g=f then some u else mA g)
  rw [jy]
  by_cases q:g=f
  ·rw [if_pos q,if_pos q];exact ry
  ·rw [if_neg q,if_neg q];exact r g
 ·by_cases q:g=f
  ·rw [q];exact (jf f y fs).1
  ·refine (jf f y fs).2 g (wi g fun z=>hg ?_)
   show (if g=f then some u else mA g)=none
   rw [if_neg q];exact z
theorem Inv.made (I:Inv X pins Z H s):Inv X pins Z (upd (upd H s.heap.objs.size (.own (s.heap.objs.size+1))) (s.heap.objs.size+1) (.ins C s.heap.objs.size []))
  { s with heap:=(s.heap.push PySem.W.emptyDict).push (PySem.W.instObj C s.heap.objs.size) }:=by
 have e1:(s.heap.push PySem.W.emptyDict).get? s.heap.objs.size=some PySem.W.emptyDict:=Heap.get?_push_size s.heap rfl
 have e2:((s.heap.push PySem.W.emptyDict).push (PySem.W.instObj C s.heap.objs.size)).get? (s.heap.objs.size+1)=some (PySem.W.instObj C s.heap.objs.size):=by
  have:=Heap.get?_push_size (s.heap.push PySem.W.emptyDict) (o:=PySem.W.instObj C s.heap.objs.size) rfl
  rwa [Heap.size_push] at this
 have e3:(s.heap.push PySem.W.emptyDict).Ns s.heap.objs.size (fun _=>none):=⟨PySem.W.emptyDict,#[],_,e1,rfl,(fun e he=>absurd he (by simp)),fun _=>rfl⟩
 have I1:=I.laid (a:=s.heap.objs.size) (o:=.own (s.heap.objs.size+1)) (h':=s.heap.push PySem.W.emptyDict) (t':=s.toks) (fun b u q=>Heap.get?_push_of_some _ q) (Nat.le_refl _) ⟨_,e1⟩
 refine I1.laid (a:=s.heap.objs.size+1) (o:=.ins C s.heap.objs.size []) (t':=s.toks) (fun b u q=>Heap.get?_push_of_some _ q) (Nat.le_of_eq (Heap.size_push _ _)) ?_
 have ne:s.heap.objs.size≠s.heap.objs.size+1:=Nat.ne_of_lt (Nat.lt_succ_self _)
 refine ⟨by rw [ao ne,aA],Nat.zero_le _,ne,e2,fun _=>none,(Heap.Ns1.of_empty e3).at fun o q=>Heap.get?_push_of_some _ q,fun _=>True.intro,fun y hy=>absurd rfl hy⟩
theorem Dh {prog:Program} {w:World} {env:Env} {e:Expr} {f:Str} {pos:Pos} {s:Shared} {Q:Value->Shared->Prop} (hb:attributeBase e f env (eval e env)=eval e env)
  (h:wpAny (model prog w) A (eval e env) (fun o s₁=>wpAny (model prog w) A (getAttr o f true) Q E s₁) E s):wpAny (model prog w) A (eval (.Attribute e f pos) env) Q E s :=
 Attribute_any_ h (by rw [arm_eval_Attribute,hb])
end
noncomputable def Jp (K:PySem.W.Frag) (ta:TE) (f:Str):TE:=fun Z H Q=>ta Z H fun x H1=>∃ a C dx fs v,x=.ref a/\H1 a=some (.ins C dx fs)/\wU K C/\dS K C f/\fs.lookup f=some v/\Q v H1
noncomputable def JG (K:PySem.W.Frag) (ta tv:TE) (f:Str):TS:=fun D Z H=>tv Z H fun y H1=>ta Z H1 fun x H2=>∃ a C dx fs,x=.ref a/\H2 a=some (.ins C dx fs)/\wU K C/\dS K C f/\fs.length<1000 /\
 D.nx Z (upd H2 a (.ins C dx (dJ f y fs)))
section
variable {X:Cx} {o e value:Expr} {f:Str} {pos pos' tpos:Pos} {ta tv:TE}
theorem FP (he:PE X e ta) (hb:attributeBase e f X.env (eval e X.env)=eval e X.env):PE X (.Attribute e f pos) (Jp X.K ta f):=by
 intro pins s Z H Q I h
 refine Dh hb (aX (he pins s Z H _ I h) fun u s1 ⟨x,H1,I1,rx,a,C,dx,fs,v,ex,ea,c,n,l,q⟩=>?_)
 subst ex
 obtain rfl:u=Value.ref a:=rx
 exact r6 I1 ea c n l fun u' s2 I2 ru=>⟨v,H1,I2,ru,q⟩
theorem Fv (ha:PE X o ta) (hv:PE X value tv) (hs:swapsWith value (some (.Attribute o f pos')) pos.line X.env=pure false):PS X (.Assign [.Attribute o f pos'] value pos) (JG X.K ta tv f):=by
 intro pins s Z H D I h
 refine plainObj_wpAny_Assign_Attribute (aX (hv pins s Z H _ I h) fun u s1 ⟨y,H1,I1,ry,q⟩=>aX (ha pins s1 Z H1 _ I1 q) fun ov s2 ⟨x,H2,I2,rx,a,C,dx,fs,ex,ea,c,n,l,q2⟩=>?_) hs
 subst ex
 obtain rfl:ov=Value.ref a:=rx
 exact rB I2 ea c n l ry fun s3 I3=>⟨Z,_,I3,q2⟩
end
section
variable {X:Cx} {pins:List (Addr×Obj)} {Z:St} {H:Hp} {s:Shared} {A:Around} {E:Value->Shared->Prop} {Q:Value->Shared->Prop} {c:Value} {b:Bool}
end
structure cI (k:Nat) (A:Around):Prop where
 hd:A.handled=none
 dp:A.depth+3*k+5<recursionLimit
 un:A.units+16*k+200<cLine
theorem cI.deeper {k:Nat} {A:Around} (r:cI (k+1) A) (env:Env):cI k (A.deeper env) :=
 ⟨r.hd,by have:=r.dp;show A.depth+1+3*k+5<_;omega,by have:=r.un;show A.units+3+16*k+200<_;omega⟩
theorem rS {A:Around} {C:Addr} {us:List Value} {kw:List (Str×Value)}:(A.under (.builtin "type.__call__" ⟨.ref C::us, kw⟩)).depth=A.depth+1:=by
 first | rfl | simp [Around.under,Code.weight,Code.isCreation,Code.isGuard,Code.isCaller,Code.frames,Code.isFrame,guardIds]
theorem rR {A:Around} {C:Addr} {us:List Value} {kw:List (Str×Value)}:(A.under (.builtin "type.__call__" ⟨.ref C::us, kw⟩)).units=A.units+1:=by
 first | rfl | simp [Around.under,Code.cUnits,Code.frames,Code.isFrame]
theorem cI.make {k:Nat} {A:Around} (r:cI (k+1) A) (C:Addr) (us:List Value) (kw:List (Str×Value)):cI k (A.under (.builtin "type.__call__" ⟨.ref C::us, kw⟩)) :=
 ⟨r.hd,by have:=r.dp;rw [rS];omega,by have:=r.un;rw [rR];omega⟩
theorem cI.depth {k:Nat} {A:Around} (r:cI k A):A.depth<recursionLimit:=by have:=r.dp;omega
noncomputable def kM:TA:=fun _ H Q=>Q [] H
noncomputable def gW (ta:TE) (tr:TA):TA:=fun Z H Q=>ta Z H fun x H1=>tr Z H1 fun xs H2=>Q (x::xs) H2
section
variable {X:Cx} {e:Expr} {es:List Expr} {te:TE} {t:TA} {pos:Pos}
theorem fk:PA X [] kM:=fun _ _ _ _ H Q I h=>Calls.spliced_nil ⟨[],H,I,.nil,h⟩
theorem bV (ha:PE X e te) (hr:PA X es t) (hs:starEach (e::es) X.env=(false,eval e X.env)::starEach es X.env:=by rfl):PA X (e::es) (gW te t):=by
 intro pos pins s Z H Q I h
 rw [hs]
 show wpAny _ _ (spliced ((false,eval e X.env)::backTo pos (starEach es X.env))) _ _ s
 refine Calls.spliced_cons (aX (ha pins s Z H _ I h) fun u s1 ⟨x,H1,I1,r1,q1⟩=>?_)
 exact aX (hr pos pins s1 Z H1 _ I1 q1) fun us s2 ⟨xs,H2,I2,r2,q2⟩=>⟨x::xs,H2,I2,.cons r1 r2,q2⟩
noncomputable def Jd (t:TA):TE:=fun Z H Q=>t Z H fun xs H1=>xs.length<=sizeLine/\∀ p,H1 p=none->Q (.ref p) (upd H1 p (.tup xs))
noncomputable def Jj (t:TA):TE:=fun Z H Q=>t Z H fun xs H1=>xs.length<=sizeLine/\∀ p,H1 p=none->Q (.ref p) (upd H1 p (.lst xs))
theorem FE {x1} (h:PA X es t):PE X (.Tuple es x1 pos) (Jd t):=by
 intro pins s Z H Q I hq
 refine wpAny_Tuple_spliced (aX (h pos pins s Z H _ I hq) fun us s1 ⟨xs,H1,I1,r,z,q⟩=>⟨by rw [<- r.length];exact z,?_⟩)
 have hf:H1 s1.heap.objs.size=none:=I1.hok.fresh (Nat.le_refl _)
 refine ⟨.ref s1.heap.objs.size,upd H1 s1.heap.objs.size (.tup xs),I1.laid (t':=s1.toks) (fun b u e=>Heap.get?_push_of_some _ e) (Nat.le_refl _) ?_,rfl,q _ hf⟩
 exact ⟨z,us,r,⟨_,Heap.get?_push_size _ rfl,rfl,_,rfl⟩⟩
theorem FJ (h:PA X es t):PE X (.List es pos) (Jj t):=by
 intro pins s Z H Q I hq
 refine wpAny_List_spliced (aX (h pos pins s Z H _ I hq) fun us s1 ⟨xs,H1,I1,r,z,q⟩=>⟨by rw [<- r.length];exact z,?_⟩)
 have hf:H1 s1.heap.objs.size=none:=I1.hok.fresh (Nat.le_refl _)
 refine ⟨.ref s1.heap.objs.size,upd H1 s1.heap.objs.size (.lst xs),I1.laid (t':=s1.toks) (fun b u e=>Heap.get?_push_of_some _ e) (Nat.le_refl _) ?_,rfl,q _ hf⟩
 exact ⟨z,us,0,r,Heap.get?_push_size _ rfl⟩
end
noncomputable abbrev Sp:=List V->Hp->VK->XK->Prop
noncomputable abbrev AB:=List Env->Hp->Shared->XK->Value->Shared->Prop
structure sW (P:Program) (w:World) (K:PySem.W.Frag) (mg:Str->Option Value) (base:Heap) (A:Around) (outer:List Env) (s:Shared) (H:Hp):Prop where
 frames:A.frames=some outer
 mod:Mod K mg base
 bs:∀ b o,base.get? b=some o->s.heap.get? b=some o/\H b=none
 Dc:base.objs.size<=s.heap.objs.size
 jU:s.heap.FunFrames base outer
 Hw:∀ b∈frs outer,H b=none
 hok:gU P w H s.heap
 bare:AllBare s.gens
noncomputable def CE (outer:List Env) (P:Program) (w:World) (H:Hp) (s:Shared) (Q:VK) (u:Value) (s':Shared):Prop :=
 ∃ v H',s'.os=s.os/\AllBare s'.gens/\Un (frs outer) [] H H' s.heap s'.heap/\gU P w H' s'.heap/\RelV v u/\Q v H'
noncomputable def CR (CX:AB) (outer:List Env) (P:Program) (w:World) (H:Hp) (s:Shared) (Q:VK) (E:XK) (r:Result) (s':Shared):Prop :=
 match r with
 | .ok (.ret u)=>CE outer P w H s Q u s'
 | .ok _=>False
 | .error e=>CX outer H s E e s'
structure cB (P:Program) (w:World) (K:PySem.W.Frag) (mg:Str->Option Value) (base:Heap) (CX:AB) (k:Nat) (f:Addr) (fd:FuncData) (ps:List Str) (sp:Sp):Prop where
 len:∀ vs H Q E,sp vs H Q E->vs.length=ps.length
 run:∀ (A:Around) (outer:List Env) (s:Shared) (H:Hp) (args:Args) (us:List Value) (vs:List V) (Q:VK) (E:XK),cI k A->sW P w K mg base A outer s H->BindsTo s fd args (ps.zip us)->Vals vs us->sp vs H Q E ->
  codeAny (model P w) A (.call (.ref f) args) (CR CX outer P w H s Q E) s
theorem cB.imp {P:Program} {w:World} {K:PySem.W.Frag} {mg:Str->Option Value} {base:Heap} {CX:AB} {k:Nat} {f:Addr} {fd:FuncData} {ps:List Str} {sp sp':Sp} (F:cB P w K mg base CX k f fd ps sp)
  (h:∀ vs H Q E,sp' vs H Q E->sp vs H Q E):cB P w K mg base CX k f fd ps sp' :=
 ⟨fun vs H Q E q=>F.len vs H Q E (h _ _ _ _ q),fun A outer s H args us vs Q E hr he hb hv hs=>F.run A outer s H args us vs Q E hr he hb hv (h _ _ _ _ hs)⟩
theorem sW.make {P:Program} {w:World} {K:PySem.W.Frag} {mg:Str->Option Value} {base:Heap} {A:Around} {outer:List Env} {s:Shared} {H:Hp} (e:sW P w K mg base A outer s H) (C:Addr) (us:List Value) (kw:List (Str×Value)) :
  sW P w K mg base (A.under (.builtin "type.__call__" ⟨.ref C::us, kw⟩)) outer s H:=⟨by first | exact e.frames | (simpa [Around.under, Code.envs, Code.isFrame, pushEnvs] using e.frames), e.mod, e.bs, e.Dc, e.jU, e.Hw, e.hok, e.bare⟩
section
variable {X:Cx} {pins:List (Addr×Obj)} {Z:St} {H:Hp} {s s':Shared}
theorem Inv.lP (I:Inv X pins Z H s):sW X.prog X.w X.K X.mg X.base X.A X.stack s H :=
 ⟨I.ok.frames,I.ok.mod,I.bs,Nat.le_trans I.ok.Dc I.sz,I.stack,I.gF,I.hok,I.bare⟩
theorem Inv.after {Q:VK} {u:Value} (I:Inv X pins Z H s) (h:CE X.stack X.prog X.w H s Q u s'):EP X pins Z Q u s':=by
 obtain ⟨v,H',os,bare,un,hok,r,q⟩:=h
 obtain ⟨hh,g,d,t,os'⟩:=s'
 obtain rfl:os'=s.os:=os
 exact ⟨v,H',I.call (h':=hh) (g':=g) (d':=d) (t':=t) (ch:=[]) un hok bare (fun b z=>absurd z (by simp)),r,q⟩
end
noncomputable def Binds (K:PySem.W.Frag) (fd:FuncData) (ps:List Str) (ds:List Value):Prop :=
 ∀ (s:Shared) (us:List Value),K.In s.heap->(us++ds).length=ps.length->BindsTo s fd ⟨us,[]⟩ (ps.zip (us++ds))
theorem Binds.all {K:PySem.W.Frag} {fd:FuncData} {ps:List Str} (h:∀ us:List Value,us.length=ps.length->bindArgs fd ⟨us,[]⟩=pure (ps.zip us)):Binds K fd ps []:=fun s us _ hl=>by
 rw [List.append_nil] at hl ⊢
 exact .of_eq (h us hl)
section
variable {X:Cx} {CX:AB} {k:Nat} {f C:Addr} {fd:FuncData} {ps:List Str} {sp:Sp} {dvs:List V} {ds:List Value} {E:XK} {x m:Str} {p pos apos:Pos} {e o:Expr} {es:List Expr} {ta:TE} {t:TA}
structure Mk (K:PySem.W.Frag) (C f:Addr):Prop where
 makes:PySem.W.makesIn K C=true
 init:PySem.W.findIn K (.ref C) "__init__" = some (some (.ref f))
 fn:PySem.W.isFn K (.ref f)=true
 kp:PySem.W.keepIn K (.ref C)=true
end
section
variable {X:Cx} {CX:AB} {k:Nat} {f C:Addr} {fd:FuncData} {ps ks:List Str} {sp:Sp} {E:XK} {x m:Str} {p pos apos kpos:Pos} {e o:Expr} {es:List Expr} {kws:List Keyword} {te ta:TE} {t tk:TA} {nm:Option Str}
variable {g:List Value->List Value->List Value} {gV:List V->List V->List V}
end
structure dH (N P:List Str) (sc:Scope):Prop where
 kind:sc.kind=.function
 co:sc.isCoroutine=false
 gen:sc.isGenerator=false
 nd:N.Nodup
 pre:N.take P.length=P
 par:∀ x∈P,sc.names.lookup x=some .local\/sc.names.lookup x=some .cell
 Gn:∀ y∈sc.names,y.2≠.free
theorem nt {kindOf:Str->Option NameKind} {x:Str}:∀ {binds:List (Str×Value)} {m:Str->Option Value},(∀ v,(x,v)∉binds)->bindL kindOf binds m x=m x
 | [],_,_=>rfl
 | (n, v)::r, m, h=>by
  unfold bindL
  rw [nt fun w hw=>h w (List.mem_cons_of_mem _ hw)]
  split
  ·have:x≠n:=by rintro rfl;exact h v List.mem_cons_self
   simp [this]
  ·rfl
theorem ny {kindOf:Str->Option NameKind} {x:Str}:∀ {binds:List (Str×Value)} {m:Str->Option Value},(∀ v,(x,v)∉binds)->bindC kindOf binds m x=m x
 | [],_,_=>rfl
 | (n, v)::r, m, h=>by
  unfold bindC
  rw [ny fun w hw=>h w (List.mem_cons_of_mem _ hw)]
  split
  ·rfl
  ·have:x≠n:=by rintro rfl;exact h v List.mem_cons_self
   simp [this]
theorem nv {kindOf:Str->Option NameKind} {x:Str} {v:Value}:∀ {P:List Str} {vs:List Value} {i:Nat} {m:Str->Option Value},P.Nodup->P[i]? = some x->vs[i]? = some v->kindOf x=some .local ->
  bindL kindOf (P.zip vs) m x=some v
 | [],_,_,_,_,h,_,_=>by simp at h
 | _::_,[],_,_,_,_,h,_=>by simp at h
 | p::P,w::vs,0,m,nd,h1,h2,hk=>by
  simp at h1 h2;subst h1;subst h2
  show bindL kindOf ((p,w)::P.zip vs) m p=_
  unfold bindL
  rw [nt fun v hv=>(List.nodup_cons.mp nd).1 (List.of_mem_zip hv).1,if_pos hk]
  simp
 | p::P,w::vs,i+1,m,nd,h1,h2,hk=>by
  show bindL kindOf ((p,w)::P.zip vs) m x=_
  unfold bindL
  exact nv (i:=i) (List.nodup_cons.mp nd).2 (by simpa using h1) (by simpa using h2) hk
theorem nA {kindOf:Str->Option NameKind} {x:Str} {v:Value}:∀ {P:List Str} {vs:List Value} {i:Nat} {m:Str->Option Value},P.Nodup->P[i]? = some x->vs[i]? = some v->kindOf x≠some .local ->
  bindC kindOf (P.zip vs) m x=some v
 | [],_,_,_,_,h,_,_=>by simp at h
 | _::_,[],_,_,_,_,h,_=>by simp at h
 | p::P,w::vs,0,m,nd,h1,h2,hk=>by
  simp at h1 h2;subst h1;subst h2
  show bindC kindOf ((p,w)::P.zip vs) m p=_
  unfold bindC
  rw [ny fun v hv=>(List.nodup_cons.mp nd).1 (List.of_mem_zip hv).1,if_neg hk]
  simp
 | p::P,w::vs,i+1,m,nd,h1,h2,hk=>by
  show bindC kindOf ((p,w)::P.zip vs) m x=_
  unfold bindC
  exact nA (i:=i) (List.nodup_cons.mp nd).2 (by simpa using h1) (by simpa using h2) hk
noncomputable def start (N:List Str) (vs:List V):St:=vs.map some++List.replicate (N.length-vs.length) none
noncomputable def iY (CX:AB) (P:Program) (w:World) (K:PySem.W.Frag) (mg:Str->Option Value) (base:Heap) (N:List Str) (qual:Str) (scope:Scope) (f:Addr) (cd:Value) (A:Around) (outer:List Env) (s:Shared) (H:Hp) (E:XK):Cx where
 prog:=P
 w:=w
 K:=K
 mg:=mg
 base:=base
 A:=A.deeper (envOfC qual scope s.heap.objs.size f cd)
 N:=N
 s₀:=s
 H₀:=H
 env:=envOfC qual scope s.heap.objs.size f cd
 outer:=outer
 stack:=envOfC qual scope s.heap.objs.size f cd::outer
 ex:=[]
 calm:=true
 fn:=fun _=>true
 pn:=[]
 xe:=fun e s'=>wpAny (model P w) (A.deeper (envOfC qual scope s.heap.objs.size f cd)) (leaving (envOfC qual scope s.heap.objs.size f cd) e) (fun _ s''=>CX outer H s E e s'') (fun e' s''=>CX outer H s E e' s'') s'
theorem qL {sc:Scope} {n:Nat} {x:Str} (h:sc.names.lookup x=some .cell):∃ c,(cellsFrom n sc.names []).lookup x=some c:=by
 have q:=PySem.W.cellsFrom_some sc.names n [] (.inl h)
 exact Option.isSome_iff_exists.mp q
theorem wj {CX:AB} {P:Program} {w:World} {K:PySem.W.Frag} {mg:Str->Option Value} {base:Heap} {N ps:List Str} {qual:Str} {scope:Scope} {f:Addr} {cd:Value} {A:Around} {outer:List Env} {s s1:Shared} {H:Hp} {E:XK} {us:List Value} {vs:List V}
  (S:dH N ps scope) (hd:A.handled=none) (e0:sW P w K mg base A outer s H) (hl:vs.length=ps.length) (r:Vals vs us)
  (x:InCallC s s.heap.objs.size (bindL (envOfC qual scope s.heap.objs.size f cd).kindOf (ps.zip us) fun _=>none) (cellsFrom (s.heap.objs.size+1) scope.names []) (bindC (envOfC qual scope s.heap.objs.size f cd).kindOf (ps.zip us) fun _=>none) s1) :
  Inv (iY CX P w K mg base N qual scope f cd A outer s H E) [] (start N vs) H s1:=by
 have hpl:ps.length<=N.length:=by have:=congrArg List.length S.pre;rw [List.length_take] at this;omega
 obtain ⟨h1,tk,rfl,hk⟩:=x.done
 have Kl:∀ b:Addr,b∉(iY CX P w K mg base N qual scope f cd A outer s H E).ex:=fun b z=>absurd (show b∈([]:List Addr) from z) (by simp)
 refine ⟨⟨e0.mod,S.kind,rfl,rfl,Nat.le_refl _,fun y z c h1 h2=>?_,fun y hy=>?_,fun y c _ h=>?_,fun _=>hd,Around.frames_deeper e0.frames,.inr ⟨rfl,rfl⟩,fun b z=>absurd z (Kl b),e0.bs,e0.Dc,fun b _ _=>Kl b,fun b z=>absurd z (Kl b),e0.jU,e0.Hw⟩,
  rfl,e0.bare,Un.kept hk,⟨_,x.toInCall.ns,fun i y v h1 h2 h3=>?_⟩,fun y c h=>⟨_,x.cell y c h⟩,e0.hok.fresh (Nat.le_refl _),fun y c h=>?_,fun p hp=>absurd (show p∈([]:List (Addr×Obj)) from hp) (by simp),e0.hok.kept hk,?_⟩
 ·exact name_of_addr x.apart (PySem.mem_of_lookup h1) (PySem.mem_of_lookup h2)
 ·have hy:scope.names.lookup y=some .cell\/scope.names.lookup y=some .free:=hy
  rcases hy with hy | hy
  ·exact qL hy
  ·exact absurd rfl (S.Gn _ (PySem.mem_of_lookup hy))
 ·exact Nat.le_of_lt (x.above y c (PySem.mem_of_lookup h))
 ·have hi:i<vs.length:=by
   unfold start at h2
   by_cases hi:i<vs.length
   ·exact hi
   ·rw [List.getElem?_append_right (by simpa using hi)] at h2
    rw [List.getElem?_replicate] at h2
    split at h2 <;> cases h2
  have ha:vs[i]? = some v:=by
   unfold start at h2
   rw [List.getElem?_append_left (by simpa using hi),List.getElem?_map] at h2
   cases e:vs[i]? with
   | none=>rw [e] at h2;cases h2
   | some a=>rw [e] at h2;cases h2;rfl
  obtain ⟨u,hu,rv⟩:=r.get ha
  have hp:ps[i]? = some y:=by
   rw [<- S.pre,List.getElem?_take_of_lt (by omega)];exact h1
  have ndP:ps.Nodup:=by rw [<- S.pre];exact S.nd.sublist (List.take_sublist _ _)
  refine ⟨u,rv,?_⟩
  rcases S.par y (List.mem_of_getElem? hp) with k | k
  ·exact .inl ⟨k,nv ndP hp hu k⟩
  ·obtain ⟨c,e⟩:=qL (n:=s.heap.objs.size+1) k
   refine .inr ⟨.inl k,c,e,?_⟩
   have q:=x.cell y c e
   rw [nA ndP hp hu (by show scope.names.lookup y≠_;rw [k];decide)] at q
   exact q
 ·exact e0.hok.fresh (Nat.le_of_lt (x.above y c (PySem.mem_of_lookup h)))
 ·unfold start
  show _=N.length
  rw [List.length_append,List.length_map,List.length_replicate]
  omega
theorem Ea {CX:AB} {P:Program} {w:World} {K:PySem.W.Frag} {mg:Str->Option Value} {base:Heap} {k:Nat} {f:Addr} {name qual:Str} {params:Arguments} {body:List Stmt} {scope:Scope} {dV kV doc pm cdv ct oc:Value} {an od:Option Addr}
  {osl:Array (Option Value)} {N ps:List Str} {sp:Sp} (lk:K.lookup f=some ⟨oc,od,.func (PySem.W.fnOf name qual params body scope dV kV doc pm an cdv ct),osl⟩) (hcd:PySem.W.codeIn K cdv qual=true) (S:dH N ps scope)
  (len:∀ vs H Q E,sp vs H Q E->vs.length=ps.length)
  (hbody:∀ (A:Around) (outer:List Env) (s:Shared) (H:Hp) (vs:List V) (Q:VK) (E:XK),cI k (A.deeper (envOfC qual scope s.heap.objs.size f cdv))->sp vs H Q E ->
   ∃ t,o5 (iY CX P w K mg base N qual scope f cdv A outer s H E) body t/\t { nx:=fun _ H'=>Q .aq H',rt:=Q } (start N vs) H) :
  cB P w K mg base CX (k+1) f (PySem.W.fnOf name qual params body scope dV kV doc pm an cdv ct) ps sp:=by
 refine ⟨len,fun A outer s H args us vs Q E hr e0 hb r IC=>?_⟩
 have hl:=len _ _ _ _ IC
 have KX:K.In s.heap:=e0.mod.Ct.keeps fun b o e=>(e0.bs b o e).1
 have lim:s.heap.NoLimit:=e0.mod.nolimit.keeps fun b o e=>(e0.bs b o e).1
 have hkind:∀ y∈ps.zip us,scope.names.lookup y.1=some .local\/(scope.names.lookup y.1=some .cell/\((cellsFrom (s.heap.objs.size+1) scope.names []).lookup y.1).isSome=true):=fun ⟨n,v⟩ hy=>by
  rcases S.par n (List.of_mem_zip hy).1 with q | q
  ·exact .inl q
  ·exact .inr ⟨q,PySem.W.cellsFrom_some _ _ _ (.inl q)⟩
 refine codeAny_call_function hr.depth (KX _ _ lk) rfl S.co S.gen rfl (PySem.W.codeRec_of KX hcd) (hb _ _ _ _ ?_)
 refine wpAny_newFunctionEnv_cells S.kind hkind fun env he s1 x=>?_
 subst he
 refine ⟨lim.keeps x.toInCall.keep,codeAny_func ?_⟩
 obtain ⟨t,ht,hq⟩:=hbody A outer s H vs Q E (hr.deeper _) IC
 have I:Inv (iY CX P w K mg base N qual scope f cdv A outer s H E) [] (start N vs) H s1:=wj S hr.hd e0 hl r x
 refine wpAny_mono (ht [] s1 (start N vs) H _ I hq) (fun fl s' hs=>?_) fun e s' hs=>hs
 have fin:∀ {Z':St} {H':Hp} {v:V} {u:Value},Inv (iY CX P w K mg base N qual scope f cdv A outer s H E) [] Z' H' s'->RelV v u->Q v H'->CE outer P w H s Q u s' :=
  fun {Z' H' v u} J rv q=>⟨v,H',J.os,J.bare,J.base,J.hok,rv,q⟩
 cases fl with
 | ret u =>
  obtain ⟨v,Z',H',J,rv,q⟩:=hs
  exact fin J rv q
 | next =>
  obtain ⟨Z',H',J,q⟩:=hs
  exact fin (v:=V.aq) (u:=Value.none) J rfl q
 | brk =>
  obtain ⟨_,_,_,q⟩:=hs
  exact False.elim q
 | cont =>
  obtain ⟨_,_,_,q⟩:=hs
  exact False.elim q
section
variable {X:Cx} {x:Str} {p pos:Pos} {e:Expr} {es:List Expr} {t:TA} {id T:String} {r:List V->Hp->VK->Prop}
noncomputable def Jq (r:List V->Hp->VK->Prop) (t:TA):TE:=fun Z H Q=>t Z H fun vs H1=>r vs H1 Q
theorem kY (hc:cK X (.builtin id) r) (hg:Gl X x) (hm:X.mg x=none) (hv:bootBuiltins x=some (.builtin id)) (ha:PA X (e::es) t) (hn:x≠"__name__":=by decide) (hdb:(x == ("__debug__" : Str))=false:=by decide)
  (he:starEach (e::es) X.env=(false,eval e X.env)::starEach es X.env:=by rfl) (hpl:(backTo pos (starEach es X.env)).any (·.1)=false:=by rfl):PE X (.Call (.Name x p) (e::es) [] pos) (Jq r t):=by
 intro pins s Z H Q I h
 refine wpAny_Call_Name_kw (fF I hg hm hv ?_ hn hdb)
 exact PyProof.Rows.callWith_builtin1 (aX (ha pos pins s Z H _ I h) fun us s1 ⟨vs,H1,I1,r1,q1⟩=>hc pins s1 Z H1 vs us Q I1 r1 q1) he hpl
theorem jd (hc:cK X (.type T) r) (hg:Gl X x) (hm:X.mg x=none) (hv:bootBuiltins x=some (.type T)) (ha:PA X (e::es) t) (hn:x≠"__name__":=by decide) (hdb:(x == ("__debug__" : Str))=false:=by decide)
  (he:starEach (e::es) X.env=(false,eval e X.env)::starEach es X.env:=by rfl) (hpl:(backTo pos (starEach es X.env)).any (·.1)=false:=by rfl):PE X (.Call (.Name x p) (e::es) [] pos) (Jq r t):=by
 intro pins s Z H Q I h
 refine wpAny_Call_Name_kw (fF I hg hm hv ?_ hn hdb)
 exact PyProof.Rows.callWith_type1 (aX (ha pos pins s Z H _ I h) fun us s1 ⟨vs,H1,I1,r1,q1⟩=>hc pins s1 Z H1 vs us Q I1 r1 q1) he hpl
end
end L2
namespace HT
open PySem PyProof.Rows
section
open PySem.SeqAt
open PySem.AutoSeq1 (wpAny_loadPart')
open PySem.MeetsSeq PySem.MeetsSeq2 PySem.MeetsSeq3
end
section
variable {prog:Program} {w:World} {A:Around} {E:Value->Shared->Prop} {s:Shared}
theorem C5 {t b:Addr} {vs ws:List Value} {Q:Value->Shared->Prop} (ht:IsTup s.heap t vs.toArray) (hb:IsTup s.heap b ws.toArray) (hv:vs≠[])
  (h1:ws=[]->Q (.ref t) s) (h2:ws≠[]->Q (.ref s.heap.objs.size) { s with heap:=s.heap.push { cls:=.type "tuple", data:=.seq (vs++ws).toArray } })
  (hsz:vs.length+ws.length<=sizeLine):wpAny (model prog w) A (binaryOp .Add (.ref t) (.ref b)) Q E s:=by
 obtain ⟨⟨cls,dd,data,sl⟩,ho,hc,n,hd⟩:=id ht
 obtain ⟨⟨Lu,dd2,data2,sl2⟩,ho2,hc2,n2,hd2⟩:=id hb
 simp only at hc hd hc2 hd2
 subst hc hd hc2 hd2
 have e:vs.toArray++ws.toArray=(vs++ws).toArray:=by simp
 by_cases hw:ws=[]
 ·exact concat_meets ⟨_,ho,rfl⟩ ⟨_,ho2,rfl⟩ noFill_tuple_add seq_tuple_add PySem.F.slot_tuple_add PySem.F.entry_tuple_add (PySem.F.args_tuple_add_2 _ _)
   (tuple_addW1 t b vs.toArray ws.toArray n n2 dd dd2 sl sl2 (by simpa using hv) (by simp [hw])) ⟨ho,ho2,h1 hw⟩
 ·refine concat_meets ⟨_,ho,rfl⟩ ⟨_,ho2,rfl⟩ noFill_tuple_add seq_tuple_add PySem.F.slot_tuple_add PySem.F.entry_tuple_add (PySem.F.args_tuple_add_2 _ _)
   (tuple_addW2 t b vs.toArray ws.toArray n n2 dd dd2 sl sl2 (by simpa using hv) (by simpa using hw) (by rw [List.size_toArray,List.size_toArray];exact hsz)) ⟨ho,ho2,?_⟩
  rw [e]
  exact h2 hw
noncomputable def cC (n d:Nat):Option Int->Nat
 | none=>d
 | some v=>if v<0 then (v+(n:Int)).toNat else min v.toNat n
theorem E5 (n d:Nat) (hd:d<=n) (o:Option Int):cC n d o<=n:=by
 cases o with
 | none=>exact hd
 | some v =>
  show (if v<0 then (v+(n:Int)).toNat else min v.toNat n)<=n
  by_cases hv:v<0
  ·rw [if_pos hv];omega
  ·rw [if_neg hv];exact Nat.min_le_right _ _
theorem vg (v:Int) (n d:Nat):(if v<0 then max (v+(n:Int)) 0 else min v (n:Int))=((cC n d (some v):Nat):Int):=by
 show (if v<0 then max (v+(n:Int)) 0 else min v (n:Int))=(((if v<0 then (v+(n:Int)).toNat else min v.toNat n):Nat):Int)
 by_cases hv:v<0
 ·simp only [if_pos hv];omega
 ·simp only [if_neg hv];omega
theorem sS (lo hi:Option Int) (n:Nat):Builtin.Slice.sliceAdjust lo hi 1 (n:Int)=(((cC n 0 lo:Nat):Int),((cC n n hi:Nat):Int)):=by
 have h1:¬ ((1:Int)<0):=by omega
 unfold Builtin.Slice.sliceAdjust
 simp only [h1,if_false]
 refine Prod.ext ?_ ?_
 ·cases lo with
  | none=>rfl
  | some v=>exact vg v n 0
 ·cases hi with
  | none=>rfl
  | some v=>exact vg v n n
theorem rJ (i j:Nat):Builtin.Slice.slicePlaces (i:Int) (j:Int) 1=j-i:=by
 unfold Builtin.Slice.slicePlaces
 have h1:(1:Int) > 0:=by omega
 simp only [h1,if_true,Int.ediv_one]
 split <;> omega
theorem kO {v:Value} {o:Option Int} {Q:Option Int->Shared->Prop} (p:IsPart v o) (h:Q o s):wpAny (model prog w) A (Builtin.Slice.slicePartIndex v) Q E s:=by
 cases p with
 | none=>exact slicePart_none h
 | int i t=>exact slicePart_int h
theorem i8 {sl:Addr} {vl vu:Value} {lo hi:Option Int} {n:Nat} {Q:Int×Int×Nat->Shared->Prop} (hs:s.heap.IsSliceOf sl vl vu .none) (pl:IsPart vl lo) (pu:IsPart vu hi)
  (h:Q (((cC n 0 lo:Nat):Int),1,cC n n hi-cC n 0 lo) s):wpAny (model prog w) A (Builtin.Slice.sliceApplied (.ref sl) (pure (n:Int))) Q E s:=by
 obtain ⟨os,hos,hcs,hds⟩:=id hs
 unfold Builtin.Slice.sliceApplied Builtin.Slice.sliceFields
 refine wpAny_bind (wpAny_bind (wpAny_field hos hds (x:=vl) rfl (wpAny_bind (wpAny_field hos hds (x:=vu) rfl (wpAny_bind (wpAny_field hos hds (x:=.none) rfl (wpAny_pure ?_)))))))
 refine wpAny_bind (slicePart_none ?_)
 show wpAny _ _ (if ((1:Int) == 0)=true then _ else _) _ _ s
 rw [if_neg (by decide)]
 refine wpAny_bind (kO pl (wpAny_bind (kO pu (wpAny_bind (wpAny_pure ?_)))))
 show wpAny _ _ (match Builtin.Slice.sliceAdjust lo hi 1 (n:Int) with | (lo,hi)=>pure (lo,(1:Int),Builtin.Slice.slicePlaces lo hi 1)) _ _ s
 rw [sS lo hi n]
 show wpAny _ _ (pure (((cC n 0 lo:Nat):Int),(1:Int),Builtin.Slice.slicePlaces ((cC n 0 lo:Nat):Int) ((cC n n hi:Nat):Int) 1)) _ _ s
 rw [rJ]
 exact wpAny_pure h
theorem yg (xs:Array Value) (i k:Nat):((List.range k).filterMap fun (m:Nat)=>xs[((i:Int)+(m:Int)*1).toNat]?).toArray=((xs.toList.drop i).take k).toArray:=by
 have e:(fun (m:Nat)=>xs[((i:Int)+(m:Int)*1).toNat]?)=fun m=>xs[i+m]?:=by
  funext m
  have:((i:Int)+(m:Int)*1).toNat=i+m:=by omega
  rw [this]
 rw [e]
 have:=pick_run xs i k
 rw [List.filterMap_map] at this
 have e2:((fun x=>xs[x]?) ∘ fun x=>i+x)=fun m=>xs[i+m]?:=rfl
 rw [e2] at this
 rw [this]
theorem iR {t sl:Addr} {items:Array Value} {vl vu:Value} {lo hi:Option Int} {Q:Value->Shared->Prop} (ht:IsTup s.heap t items) (hs:s.heap.IsSliceOf sl vl vu .none) (pl:IsPart vl lo) (pu:IsPart vu hi)
  (hw:¬ (cC items.size 0 lo=0/\cC items.size items.size hi=items.size))
  (h:Q (.ref s.heap.objs.size) { s with heap:=s.heap.push { cls:=.type "tuple", data:=.seq ((items.toList.drop (cC items.size 0 lo)).take (cC items.size items.size hi-cC items.size 0 lo)).toArray } })
  (hsz:items.size<=sizeLine):wpAny (model prog w) A (getItem (.ref t) (.ref sl)) Q E s:=by
 have uN:sizeOk (.seq ((items.toList.drop (cC items.size 0 lo)).take (cC items.size items.size hi-cC items.size 0 lo)).toArray):=by
  show ((items.toList.drop (cC items.size 0 lo)).take (cC items.size items.size hi-cC items.size 0 lo)).toArray.size<=sizeLine
  rw [List.size_toArray,List.length_take,List.length_drop,Array.length_toList]
  omega
 have hj:cC items.size items.size hi<=items.size:=E5 _ _ (Nat.le_refl _) hi
 obtain ⟨os,hos,hcs,hds⟩:=id hs
 have hTs:s.TypeIs (.ref sl) "slice":=⟨os, hos, hcs⟩
 unfold getItem
 try with_reducible refine wpAny_holding ?_
 first | refine wpAny_bind (wpAny_pure ?_) | skip
 refine wpAny_bind (wpAny_sequenceKey ht.typeIs (by decide) ?_)
 refine wpAny_bind (wpAny_callSpecial?_slot (name:=Str.ofString "__getitem__") ht.typeIs PyProof.Rows.slot_tuple_getitem
  (wpAny_call_entry PyProof.Rows.slot_tuple_getitem ht.typeIs entry_tuple_getitem ?_ (args_tuple_getitem _ _)))
 show wpAny _ _ (Builtin.Tuple.tupleItemsOf (.ref t) >>= _) _ _ s
 refine wpAny_bind (tupleItemsOf_ ht ?_)
 refine wpAny_bind (wpAny_typeOf hTs ?_)
 rw [if_pos (by decide)]
 refine wpAny_bind (i8 hs pl pu ?_)
 have hno:¬ ((((cC items.size 0 lo:Nat):Int) == 0&&(1:Int) == 1&&(cC items.size items.size hi-cC items.size 0 lo) == items.size)=true):=by
  intro q
  rw [Bool.and_eq_true,Bool.and_eq_true] at q
  have q1:((cC items.size 0 lo:Nat):Int)=0:=eq_of_beq q.1.1
  have q2:cC items.size items.size hi-cC items.size 0 lo=items.size:=eq_of_beq q.2
  exact hw ⟨by omega,by omega⟩
 show wpAny _ _ (if (((cC items.size 0 lo:Nat):Int) == 0&&(1:Int) == 1&&(cC items.size items.size hi-cC items.size 0 lo) == items.size)=true then _ else _) _ _ s
 rw [if_neg hno,yg]
 first
  | exact wpAny_bind (m:=Builtin.Tuple.tupleExact _) (wpAny_newObj_type (wpAny_pure ⟨_,rfl,wpAny_pure h⟩) uN)
  | exact wpAny_bind (m:=Builtin.Tuple.tupleExact _) (wpAny_newObj_type (wpAny_bind (wpAny_pure (wpAny_pure ⟨_,rfl,wpAny_pure h⟩))) uN)
  | exact wpAny_bind (wpAny_bind (m:=Builtin.Tuple.tupleExact _) (wpAny_newObj_type (wpAny_pure (wpAny_pure ⟨_,rfl,wpAny_pure h⟩)) uN))
  | exact wpAny_bind (wpAny_bind (m:=Builtin.Tuple.tupleExact _) (wpAny_newObj_type (wpAny_pure ⟨_,rfl,wpAny_pure h⟩) uN))
end
end HT
namespace L2
open PySem PySem.Spec PyProof.Rows
noncomputable abbrev TO:=St->Hp->(Option Int->Hp->Prop)->Prop
noncomputable def PO (X:Cx) (e:Option Expr) (t:TO):Prop :=
 ∀ (pins:List (Addr×Obj)) (s:Shared) (Z:St) (H:Hp) (Q:Option Int->Hp->Prop),Inv X pins Z H s->t Z H Q ->
  wpAny (model X.prog X.w) X.A (evalPart e X.env) (fun u s'=>∃ o H',Inv X pins Z H' s'/\IsPart u o/\Q o H') X.xe s
noncomputable def tE:TO:=fun _ H Q=>Q none H
noncomputable def DA (t:TE):TO:=fun Z H Q=>t Z H fun x H1=>∃ i,x=.int i/\Q (some i) H1
section
variable {X:Cx} {e:Expr} {te:TE} {lo hi:Option Expr} {tl th:TO} {pos p2:Pos}
theorem BS:PO X none tE:=by
 intro pins s Z H Q I h
 rw [evalPart_none]
 exact wpAny_pure ⟨none,H,I,.none,h⟩
theorem BR (h:PE X e te):PO X (some e) (DA te):=by
 intro pins s Z H Q I hw
 rw [evalPart_some]
 refine aX (h pins s Z H _ I hw) fun u s1 ⟨x,H1,I1,r1,q1⟩=>?_
 obtain ⟨i,rfl,q⟩:=q1
 obtain ⟨t,rfl⟩:=r1
 exact ⟨some i,H1,I1,.int i t,q⟩
noncomputable def Dl (X:Cx) (r:V->Option Int->Option Int->Hp->VK->Prop):Prop :=
 ∀ (pins:List (Addr×Obj)) (s:Shared) (Z:St) (H:Hp) (x:V) (v vl vu:Value) (lo hi:Option Int) (sl:Addr) (Q:VK),Inv X pins Z H s->RelV x v->s.heap.IsSliceOf sl vl vu .none->IsPart vl lo->IsPart vu hi->r x lo hi H Q ->
  ∃ T id, typeLookup (.type T) "__getitem__" = pure (some (.builtin id))/\s.TypeIs v T/\wpAny (model X.prog X.w) X.A (getItem v (.ref sl)) (EP X pins Z Q) X.xe s
theorem Dl.or {r r':V->Option Int->Option Int->Hp->VK->Prop} (h:Dl X r) (h':Dl X r'):Dl X (fun x lo hi H Q=>r x lo hi H Q\/r' x lo hi H Q):=by
 intro pins s Z H x v vl vu lo hi sl Q I rx hs pl pu q
 rcases q with q | q
 ·exact h pins s Z H x v vl vu lo hi sl Q I rx hs pl pu q
 ·exact h' pins s Z H x v vl vu lo hi sl Q I rx hs pl pu q
noncomputable def tSl (r:V->Option Int->Option Int->Hp->VK->Prop) (te:TE) (tl th:TO):TE:=fun Z H Q=>te Z H fun x H1=>tl Z H1 fun l H2=>th Z H2 fun u H3=>r x l u H3 Q
theorem yi {r:V->Option Int->Option Int->Hp->VK->Prop} (hr:Dl X r) (he:PE X e te) (hl:PO X lo tl) (hu:PO X hi th):PE X (.Subscript e (.Slice lo hi none p2) pos) (tSl r te tl th):=by
 intro pins s Z H Q I h
 refine Subscript_ (aX (he pins s Z H _ I h) fun v s1 ⟨x,H1,I1,r1,q1⟩=>?_)
 refine wpAny_Slice (aX (hl pins s1 Z H1 _ I1 q1) fun vl s2 ⟨l,H2,I2,pl,q2⟩=>aX (hu pins s2 Z H2 _ I2 q2) fun vu s3 ⟨u,H3,I3,pu,q3⟩=>?_)
 rw [evalPart_none]
 refine wpAny_pure ?_
 have I4:Inv X pins Z H3 { s3 with heap:=s3.heap.push { cls:=.type "slice", data:=.fields #[vl, vu, .none] } }:=I3.kept (t':=s3.toks) fun b ob q=>Heap.get?_push_of_some _ q
 obtain ⟨T, id, hT, ht, hg⟩:=hr pins { s3 with heap:=s3.heap.push { cls:=.type "slice", data:=.fields #[vl, vu, .none] } } Z H3 x v vl vu l u s3.heap.objs.size Q I4 r1 (Heap.IsSliceOf.new ..) pl pu q3
 show wpAny (model X.prog X.w) X.A (subscriptTail e (.Slice lo hi none p2) v (.ref s3.heap.objs.size)) (EP X pins Z Q) X.xe { s3 with heap:=s3.heap.push { cls:=.type "slice", data:=.fields #[vl, vu, .none] } }
 exact tail_any (ops:=[.ref s3.heap.objs.size,v]) ht hT hg (by with_unfolding_all rfl)
noncomputable def qJ (xs:List V) (lo hi:Option Int):List V:=(xs.drop (HT.cC xs.length 0 lo)).take (HT.cC xs.length xs.length hi-HT.cC xs.length 0 lo)
theorem jJ (xs:List V) (lo hi:Option Int):(qJ xs lo hi).length<=xs.length:=by
 unfold qJ
 rw [List.length_take,List.length_drop]
 omega
noncomputable def JJ (K:PySem.W.Frag):V->Option Int->Option Int->Hp->VK->Prop:=fun x lo hi H Q=>∃ a xs,x=.ref a/\i7 K H a xs /\
 ¬ (HT.cC xs.length 0 lo=0/\HT.cC xs.length xs.length hi=xs.length)/\∀ p,H p=none->Q (.ref p) (upd H p (.tup (qJ xs lo hi)))
theorem ER:Dl X (JJ X.K):=by
 intro pins s Z H x v vl vu lo hi sl Q I rx hs pl pu h
 obtain ⟨a,xs,rfl,hx,hw,q⟩:=h
 cases rx
 obtain ⟨its,r,ht,hz⟩:=I.tuple hx
 have hlen:its.toArray.size=xs.length:=by rw [List.size_toArray];exact r.length.symm
 refine ⟨"tuple", _, PyProof.Rows.slot_tuple_getitem.lookup, ht.typeIs, ?_⟩
 refine HT.iR ht hs pl pu (by rw [hlen];exact hw) ?_ (by rw [hlen];exact hz)
 rw [hlen]
 refine ⟨.ref s.heap.objs.size,_,I.laid (t':=s.toks) (o:=.tup (qJ xs lo hi)) (fun b ob q=>Heap.get?_push_of_some _ q) (Nat.le_refl _) ?_,rfl,q _ (I.hok.fresh (Nat.le_refl _))⟩
 exact ⟨Nat.le_trans (jJ xs lo hi) hz,_,(r.drop (HT.cC xs.length 0 lo)).take (HT.cC xs.length xs.length hi-HT.cC xs.length 0 lo),IsTup.new _ _⟩
noncomputable def DP (K:PySem.W.Frag):R2:=fun x y H Q=>∃ a b xs ys,x=.ref a/\y=.ref b/\i7 K H a xs/\i7 K H b ys/\xs≠[]/\xs.length+ys.length<=sizeLine /\
 (ys=[]->Q (.ref a) H)/\(ys≠[]->∀ p,H p=none->Q (.ref p) (upd H p (.tup (xs++ys))))
theorem Vals.nR {xs:List V} {us:List Value} (r:Vals xs us):us=[]↔xs=[]:=by
 cases r with
 | nil=>simp
 | cons _ _=>simp
theorem B8:eS X (binaryOp .Add) (DP X.K):=by
 intro pins s Z H x y v u Q I rx ry h
 obtain ⟨a,b,xs,ys,rfl,rfl,ha,hb,hx,hz,q1,q2⟩:=h
 cases rx
 cases ry
 obtain ⟨its,r1,p1,_⟩:=I.tuple ha
 obtain ⟨its2,r2,p2,_⟩:=I.tuple hb
 refine HT.C5 p1 p2 (fun z=>hx (r1.nR.mp z)) (fun z=>⟨.ref a,H,I,rfl,q1 (r2.nR.mp z)⟩) (fun z=>?_) (by rw [<- r1.length,<- r2.length];exact hz)
 refine ⟨.ref s.heap.objs.size,_,I.laid (t':=s.toks) (o:=.tup (xs++ys)) (fun b ob q=>Heap.get?_push_of_some _ q) (Nat.le_refl _) ?_,rfl,q2 (fun w=>z (r2.nR.mpr w)) _ (I.hok.fresh (Nat.le_refl _))⟩
 exact ⟨by rw [List.length_append];exact hz,_,r1.append r2,IsTup.new _ _⟩
end
noncomputable def IB (n:Nat) (i:Int):Option Nat:=if 0<=i then (if i<n then some i.toNat else none) else if -(n:Int)<=i then some (i+n).toNat else none
noncomputable def Ik {α:Type} (xs:List α) (i:Int):Option α:=(IB xs.length i).bind fun j=>xs[j]?
theorem uH {n:Nat} {i:Int} {j:Nat} (h:IB n i=some j):seqIndex? i n=some j/\j<n/\-(n:Int)<=i/\i<n:=by
 unfold IB at h
 by_cases h0:0<=i
 ·rw [if_pos h0] at h
  by_cases h1:i<n
  ·rw [if_pos h1] at h
   have e:i.toNat=j:=Option.some.inj h
   exact ⟨by rw [seqIndex_of h0 h1,e],by omega,by omega,h1⟩
  ·rw [if_neg h1] at h;cases h
 ·rw [if_neg h0] at h
  by_cases h1:-(n:Int)<=i
  ·rw [if_pos h1] at h
   have e:(i+n).toNat=j:=Option.some.inj h
   exact ⟨by rw [seqIndex_neg (by omega) h1,e],by omega,h1,by omega⟩
  ·rw [if_neg h1] at h;cases h
theorem oY {α:Type} {xs:List α} {i:Int} {v:α} (h:Ik xs i=some v):∃ j,seqIndex? i xs.length=some j/\xs[j]? = some v/\j<xs.length/\-(xs.length:Int)<=i/\i<xs.length:=by
 unfold Ik at h
 cases e:IB xs.length i with
 | none=>rw [e] at h;cases h
 | some j =>
  rw [e] at h
  obtain ⟨h1,h2,h3,h4⟩:=uH e
  exact ⟨j,h1,h,h2,h3,h4⟩
noncomputable def vv (b:Expr):Prop:=∀ o i,subscripted b false o i=operate [o,i] (getItem o i)
noncomputable def AG (X:Cx) (r:R2):Prop :=
 ∀ (value slice:Expr) (pins:List (Addr×Obj)) (s:Shared) (Z:St) (H:Hp) (x y:V) (v u:Value) (Q:VK),Inv X pins Z H s->RelV x v->RelV y u->r x y H Q ->
  subscripted slice false v u=operate [v,u] (getItem v u)->wpAny (model X.prog X.w) X.A (subscriptTail value slice v u) (EP X pins Z Q) X.xe s
noncomputable def MtR (X:Cx) (id:String) (r:V->List V->Hp->VK->Prop):Prop :=
 ∀ (pins:List (Addr×Obj)) (s:Shared) (Z:St) (H:Hp) (x:V) (xs:List V) (v:Value) (us:List Value) (Q:VK),Inv X pins Z H s->RelV x v->Vals xs us->r x xs H Q ->
  wpAny (model X.prog X.w) X.A (call (.builtin id) (v::us)) (EP X pins Z Q) X.xe s
section
variable {X:Cx} {a b:Expr} {ta tb:TE} {pos:Pos}
theorem AG.or {r r':R2} (h:AG X r) (h':AG X r'):AG X (fun x y H Q=>r x y H Q\/r' x y H Q):=by
 intro value slice pins s Z H x y v u Q I rx ry q hs
 rcases q with q | q
 ·exact h value slice pins s Z H x y v u Q I rx ry q hs
 ·exact h' value slice pins s Z H x y v u Q I rx ry q hs
theorem J2 {r:R2} (hr:AG X r) (ha:PE X a ta) (hb:PE X b tb) (hs:vv b):PE X (.Subscript a b pos) (EJ r ta tb):=by
 intro pins s Z H Q I h
 exact Subscript_ (Ih ha hb I h fun v u s2 x y H2 I2 rx ry q=>hr a b pins s2 Z H2 x y v u Q I2 rx ry q (hs _ _))
noncomputable def JP (K:PySem.W.Frag):R2:=fun x y H Q=>∃ p xs i v,x=.ref p/\y=.int i/\fT K H p xs/\Ik xs i=some v/\Q v H
noncomputable def JN (K:PySem.W.Frag):R2:=fun x y H Q=>∃ p xs i v,x=.ref p/\y=.int i/\i7 K H p xs/\Ik xs i=some v/\Q v H
noncomputable def JO:R2:=fun x y H Q=>∃ z i c,x=.str z/\y=.int i/\z.length<=sizeLine/\Ik z.cps.toList i=some c/\Q (.str ⟨#[c]⟩) H
theorem CC:AG X (JP X.K):=by
 intro value slice pins s Z H x y v u Q I rx ry h hs
 obtain ⟨p,xs,i,z,rfl,rfl,hq,he,q⟩:=h
 cases rx
 obtain ⟨t,rfl⟩:=ry
 obtain ⟨its,r,pl,hz⟩:=I.list hq
 obtain ⟨j,h1,h2,h3,h4,h5⟩:=oY he
 obtain ⟨w,ew,rw'⟩:=r.get h2
 have hl:=r.length
 have hn:=je
 have fin:EP X pins Z Q w s:=⟨z,H,I,rw',q⟩
 by_cases h0:0<=i
 ·have hj:i.toNat=j:=by
   rw [seqIndex_of h0 h5] at h1
   exact Option.some.inj h1
  exact item_listR pl.isList h0 (by omega) (by rw [hj];simpa using ew) fin hs
 ·have hj:(i+(its.toArray.size:Int)).toNat=j:=by
   rw [seqIndex_neg (by omega) h4] at h1
   rw [List.size_toArray,<- hl]
   exact Option.some.inj h1
  exact subscriptTail_builtinR (x:=w) pl.isList.typeIs slot_list_getitem.lookup
   (wpAny_getItem_list_neg (Q:=fun r s'=>r=w/\EP X pins Z Q r s') pl.isList (by omega) (by rw [List.size_toArray] <;> omega) (by omega) (by rw [hj];simpa using ew) ⟨rfl,fin⟩) hs
theorem Hf:AG X (JN X.K):=by
 intro value slice pins s Z H x y v u Q I rx ry h hs
 obtain ⟨p,xs,i,z,rfl,rfl,hq,he,q⟩:=h
 cases rx
 obtain ⟨t,rfl⟩:=ry
 obtain ⟨its,r,pl,hz⟩:=I.tuple hq
 obtain ⟨j,h1,h2,h3,h4,h5⟩:=oY he
 obtain ⟨w,ew,rw'⟩:=r.get h2
 have hl:=r.length
 have hn:=je
 have fin:EP X pins Z Q w s:=⟨z,H,I,rw',q⟩
 exact subscriptTail_builtinR (x:=w) pl.typeIs slot_tuple_getitem.lookup
  (getItem_tuple (j:=j) (Q:=fun r s'=>r=w/\EP X pins Z Q r s') pl (by omega) (by omega) (by rw [List.size_toArray,<- hl];exact h1) (by simpa using ew) ⟨rfl,fin⟩) hs
theorem Hg:AG X JO:=by
 intro value slice pins s Z H x y v u Q I rx ry h hs
 obtain ⟨z,i,c,rfl,rfl,hz,he,q⟩:=h
 obtain ⟨t,rfl⟩:=rx
 obtain ⟨t',rfl⟩:=ry
 obtain ⟨j,h1,h2,h3,h4,h5⟩:=oY he
 have hl:z.cps.toList.length=z.length:=by simp [Str.length]
 rw [hl] at h1 h4 h5
 have hn:=je
 exact tail_any (typeIs_str s z t) slot_str_getitem.lookup (getItem_str (c:=c) (by
  have e1:decide (i < -(2 ^ 63:Int))=false:=decide_eq_false (by omega)
  have e2:decide (i ≥ 2 ^ 63)=false:=decide_eq_false (by omega)
  rw [e1,e2,Bool.or_false]) (by rw [h1];simpa using h2) ⟨.str ⟨#[c]⟩,H,I.tok _,⟨_,rfl⟩,q⟩) hs
theorem rQ (its:List Value) (n j:Nat) (u:Value):Obj.mapSeq (·.setIfInBounds j u) { cls:=.type "list", data:=.seq its.toArray n }={ cls:=.type "list", data:=.seq (its.set j u).toArray n }:=by
 simp [Obj.mapSeq]
theorem Inv.lst {pins:List (Addr×Obj)} {Z:St} {H:Hp} {s:Shared} {p:Addr} {xs:List V} (I:Inv X pins Z H s) (h:H p=some (.lst xs)) :
  ∃ (its:List Value) (n:Nat), Vals xs its/\s.heap.get? p=some { cls:=.type "list", data:=.seq its.toArray n }/\xs.length<=sizeLine:=by
 obtain ⟨z,its,n,r,e⟩:=I.hok p _ h
 exact ⟨its,n,r,e,z⟩
theorem Inv.Gy {pins:List (Addr×Obj)} {Z:St} {H:Hp} {s:Shared} {p:Addr} {xs ys:List V} {its its':List Value} {n n':Nat} {f:Obj->Obj} (I:Inv X pins Z H s) (h:H p=some (.lst xs))
  (ho:s.heap.get? p=some { cls:=.type "list", data:=.seq its.toArray n }) (hf:f { cls:=.type "list", data:=.seq its.toArray n }={ cls:=.type "list", data:=.seq its'.toArray n' }) (r:Vals ys its') (hz:ys.length<=sizeLine) (t:Nat) :
  Inv X pins Z (upd H p (.lst ys)) { s with heap:=s.heap.update p f,toks:=t }:=by
 have e:(s.heap.update p f).get? p=some { cls:=.type "list", data:=.seq its'.toArray n' }:=by
  rw [Heap.get?_update_self f ho (by rw [hf] <;> rfl),hf]
 refine I.write (x:=p) (e:=p) (by rw [h];trivial) (.inl rfl) (fun b u hb q=>(Heap.get?_update_other _ _ (Ne.symm hb)).trans q) ⟨_,e⟩ ?_
 exact ⟨hz,its',n',r,e⟩
noncomputable def DL:V->V->V->Hp->(Hp->Prop)->Prop:=fun o i v H Q=>∃ p xs k j,o=.ref p/\i=.int k/\H p=some (.lst xs)/\IB xs.length k=some j/\Q (upd H p (.lst (xs.set j v)))
theorem set_list:PSet X DL:=by
 intro pins s Z H o i v ov iv u Q I ro ri rv h
 obtain ⟨p,xs,k,j,rfl,rfl,hp,hj,q⟩:=h
 cases ro
 obtain ⟨t,rfl⟩:=ri
 obtain ⟨its,n,r,ho,hz⟩:=I.lst hp
 obtain ⟨h1,h2,h3,h4⟩:=uH hj
 have hl:=r.length
 have hn:=je
 have I':Inv X pins Z (upd H p (.lst (xs.set j v))) { s with heap:=s.heap.update p (Obj.mapSeq (·.setIfInBounds j u)) } :=
  I.Gy hp ho (rQ its n j u) (r.set rv j) (by rw [List.length_set];exact hz) s.toks
 by_cases h0:0<=k
 ·have hk:k.toNat=j:=by
   rw [seqIndex_of h0 h4] at h1
   exact Option.some.inj h1
  exact PySem.W.ki_setAt ho h0 (by omega) (by rw [List.size_toArray,<- hl];exact h4) (by rw [hk];exact ⟨_,I',q⟩)
 ·have hk:(k+(its.toArray.size:Int)).toNat=j:=by
   rw [seqIndex_neg (by omega) h3] at h1
   rw [List.size_toArray,<- hl]
   exact Option.some.inj h1
  exact PySem.W.ki_setBack ho (by omega) (by rw [List.size_toArray,<- hl];exact h3) (by omega) (by rw [hk];exact ⟨_,I',q⟩)
theorem nI (lo hi:Option Int) (n:Nat):(sliceBounds lo hi none n).1=((HT.cC n 0 lo:Nat):Int)/\(sliceBounds lo hi none n).2.1=((HT.cC n n hi:Nat):Int)/\(sliceBounds lo hi none n).2.2=1:=by
 refine ⟨?_,?_,rfl⟩
 ·cases lo with
  | none=>simp [sliceBounds,HT.cC]
  | some i =>
   simp only [sliceBounds,HT.cC,Option.getD_none,show (1:Int) > 0 by decide,if_true]
   by_cases h:i<0
   ·simp only [h,if_true] <;> omega
   ·simp only [h,if_false] <;> omega
 ·cases hi with
  | none=>simp [sliceBounds,HT.cC]
  | some i =>
   simp only [sliceBounds,HT.cC,Option.getD_none,show (1:Int) > 0 by decide,if_true]
   by_cases h:i<0
   ·simp only [h,if_true] <;> omega
   ·simp only [h,if_false] <;> omega
theorem l8 (its:List Value) (lo hi:Option Int):slicePick its.toArray lo hi none=((its.drop (HT.cC its.length 0 lo)).take (HT.cC its.length its.length hi-HT.cC its.length 0 lo)).toArray:=by
 obtain ⟨h1,h2,h3⟩:=nI lo hi its.toArray.size
 unfold slicePick
 rw [h1,h2,h3]
 simp only [sliceRange_one,pick_run,List.size_toArray] <;> rfl
noncomputable def JL (K:PySem.W.Frag):V->Option Int->Option Int->Hp->VK->Prop:=fun x lo hi H Q=>∃ a xs,x=.ref a/\fT K H a xs/\∀ p,H p=none->Q (.ref p) (upd H p (.lst (qJ xs lo hi)))
theorem A7:Dl X (JL X.K):=by
 intro pins s Z H x v vl vu lo hi sl Q I rx hs pl pu h
 obtain ⟨a,xs,rfl,hx,q⟩:=h
 cases rx
 obtain ⟨its,r,ht,hz⟩:=I.list hx
 have hlen:=r.length
 refine ⟨"list", _, slot_list_getitem.lookup, ht.isList.typeIs, ?_⟩
 refine wpAny_getItem_list_slice ht.isList hs pl pu .none (by simp) ?_ (by rw [List.size_toArray] <;> omega)
 rw [l8,<- hlen]
 refine ⟨.ref s.heap.objs.size,_,I.laid (t':=s.toks) (o:=.lst (qJ xs lo hi)) (fun b ob q=>Heap.get?_push_of_some _ q) (Nat.le_refl _) ?_,rfl,q _ (I.hok.fresh (Nat.le_refl _))⟩
 exact ⟨Nat.le_trans (jJ xs lo hi) hz,_,0,(r.drop (HT.cC xs.length 0 lo)).take (HT.cC xs.length xs.length hi-HT.cC xs.length 0 lo),Heap.get?_push_size _ rfl⟩
noncomputable def g6:V->Bool
 | .aq=>true
 | .bl _=>true
 | .int _=>true
 | .str _=>true
 | _=>false
noncomputable def AE:V->V->Bool
 | .aq,.aq=>true
 | .bl a,.bl b=>a == b
 | .bl a,.int b=>(if a then 1 else 0) == b
 | .int a,.bl b=>a == (if b then 1 else 0)
 | .int a,.int b=>a == b
 | .str a,.str b=>a == b
 | _,_=>false
theorem HH {A:Around} {s:Shared} {y x:V} {u v:Value} (ry:RelV y u) (rx:RelV x v) (fy:g6 y=true) (fx:g6 x=true):SeqAt.EqAt A s u v (AE y x):=by
 cases y with
 | aq =>
  cases ry
  cases x with
  | aq=>cases rx;exact SeqAt.EqAt.same _
  | bl b=>cases rx;exact SeqAt.EqAt.none_bool b
  | int b=>obtain ⟨t,rfl⟩:=rx;exact SeqAt.EqAt.none_int b t
  | str b=>obtain ⟨t,rfl⟩:=rx;exact SeqAt.EqAt.none_str b t
  | _=>exact absurd (show false=true from fx) Bool.false_ne_true
 | bl a =>
  cases ry
  cases x with
  | aq=>cases rx;exact SeqAt.EqAt.bool_none a
  | bl b=>cases rx;exact SeqAt.EqAt.bool_bool a b
  | int b=>obtain ⟨t,rfl⟩:=rx;exact SeqAt.EqAt.bool_int a b t
  | str b=>obtain ⟨t,rfl⟩:=rx;exact SeqAt.EqAt.bool_str a b t
  | _=>exact absurd (show false=true from fx) Bool.false_ne_true
 | int a =>
  obtain ⟨t',rfl⟩:=ry
  cases x with
  | aq=>cases rx;exact SeqAt.EqAt.int_none a t'
  | bl b=>cases rx;exact SeqAt.EqAt.int_bool a t' b
  | int b=>obtain ⟨t,rfl⟩:=rx;exact SeqAt.EqAt.int_int a t' b t
  | str b=>obtain ⟨t,rfl⟩:=rx;exact SeqAt.EqAt.int_str a t' b t
  | _=>exact absurd (show false=true from fx) Bool.false_ne_true
 | str a =>
  obtain ⟨t',rfl⟩:=ry
  cases x with
  | aq=>cases rx;exact SeqAt.EqAt.str_none a t'
  | bl b=>cases rx;exact SeqAt.EqAt.str_bool a t' b
  | int b=>obtain ⟨t,rfl⟩:=rx;exact SeqAt.EqAt.str_int a t' b t
  | str b=>obtain ⟨t,rfl⟩:=rx;exact SeqAt.EqAt.str_str a t' b t
  | _=>exact absurd (show false=true from fx) Bool.false_ne_true
 | _=>exact absurd (show false=true from fy) Bool.false_ne_true
noncomputable def sy (x:V) (u:Value):Bool:=match u with
 | .none=>AE .aq x
 | .bool b=>AE (.bl b) x
 | .int i _=>AE (.int i) x
 | .str z _=>AE (.str z) x
 | _=>false
theorem zV {x y:V} {u:Value} (r:RelV y u) (f:g6 y=true):sy x u=AE y x:=by
 cases y with
 | aq=>cases r;rfl
 | bl b=>cases r;rfl
 | int i=>obtain ⟨t,rfl⟩:=r;rfl
 | str z=>obtain ⟨t,rfl⟩:=r;rfl
 | _=>exact absurd (show false=true from f) Bool.false_ne_true
theorem i0 {x:V}:∀ {xs:List V} {us:List Value},Vals xs us->xs.all g6=true->us.any (sy x)=xs.any fun y=>AE y x
 | _,_,.nil,_=>rfl
 | y::xs,u::us,.cons r t,f=>by
  rw [List.all_cons,Bool.and_eq_true] at f
  rw [List.any_cons,List.any_cons,zV r f.1,i0 t f.2]
theorem gq {A:Around} {s:Shared} {x:V} {v:Value} (rx:RelV x v) (fx:g6 x=true):∀ {xs:List V} {us:List Value},Vals xs us->xs.all g6=true->∀ u∈us,SeqAt.EqAt A s u v (sy x u)
 | _,_,.nil,_=>fun u hu=>by cases hu
 | y::xs,u::us,.cons r t,f=>fun u' hu=>by
  rw [List.all_cons,Bool.and_eq_true] at f
  rcases List.mem_cons.mp hu with rfl | hu
  ·rw [zV r f.1];exact HH r rx f.1 fx
  ·exact gq rx fx t f.2 u' hu
noncomputable def KJ (x:V) (xs:List V):Bool:=xs.any fun y=>AE y x
noncomputable def JS (K:PySem.W.Frag) (neg:Bool):R2:=fun x y H Q=>∃ p xs,y=.ref p/\(fT K H p xs\/i7 K H p xs)/\g6 x=true/\xs.all g6=true/\Q (.bl (if neg then !KJ x xs else KJ x xs)) H
theorem vX:eS X (compareOp .In) (JS X.K false):=by
 intro pins s Z H x y v u Q I rx ry h
 obtain ⟨p,xs,rfl,hq,fx,fs,q⟩:=h
 cases ry
 rcases hq with hq | hq
 ·obtain ⟨its,r,pl,hz⟩:=I.list hq
  refine SeqAt.in_listAt (sy x) pl.isList (fun w hw=>gq rx fx r fs w (by simpa using hw)) ⟨.bl _,H,I,rfl,?_⟩
  rw [show its.toArray.any (sy x)=its.any (sy x) by simp,i0 r fs]
  exact q
 ·obtain ⟨its,r,pl,hz⟩:=I.tuple hq
  refine SeqAt.in_tupleAt (sy x) pl (fun w hw=>gq rx fx r fs w (by simpa using hw)) ⟨.bl _,H,I,rfl,?_⟩
  rw [show its.toArray.any (sy x)=its.any (sy x) by simp,i0 r fs]
  exact q
theorem nO:eS X (compareOp .NotIn) (JS X.K true):=by
 intro pins s Z H x y v u Q I rx ry h
 obtain ⟨p,xs,rfl,hq,fx,fs,q⟩:=h
 cases ry
 rcases hq with hq | hq
 ·obtain ⟨its,r,pl,hz⟩:=I.list hq
  refine SeqAt.notIn_listAt (sy x) pl.isList (fun w hw=>gq rx fx r fs w (by simpa using hw)) ⟨.bl _,H,I,rfl,?_⟩
  rw [show its.toArray.any (sy x)=its.any (sy x) by simp,i0 r fs]
  exact q
 ·obtain ⟨its,r,pl,hz⟩:=I.tuple hq
  refine SeqAt.notIn_tupleAt (sy x) pl (fun w hw=>gq rx fx r fs w (by simpa using hw)) ⟨.bl _,H,I,rfl,?_⟩
  rw [show its.toArray.any (sy x)=its.any (sy x) by simp,i0 r fs]
  exact q
theorem oV:cK X (.builtin "len") (fun xs H Q=>∃ p ys, xs=[.ref p]/\(fT X.K H p ys\/i7 X.K H p ys)/\Q (.int ys.length) H):=by
 intro pins s Z H xs us Q I r h
 obtain ⟨p,ys,rfl,hq,q⟩:=h
 obtain ⟨u,rfl,rx⟩:=vals1 r
 cases rx
 have hn:=je
 rcases hq with hq | hq
 ·obtain ⟨its,r',pl,hz⟩:=I.list hq
  have hlen:=r'.length
  exact Calls.call_len_list pl.isList (by simp only [List.size_toArray] <;> omega) ⟨.int ys.length,H,I.tok _,⟨s.toks+1,by rw [List.size_toArray,hlen]⟩,q⟩
 ·obtain ⟨its,r',pl,hz⟩:=I.tuple hq
  have hlen:=r'.length
  exact len_tuple pl (by simp only [List.size_toArray] <;> omega) ⟨.int ys.length,H,I.tok _,⟨s.toks+1,by rw [List.size_toArray,hlen]⟩,q⟩
theorem oU:cK X (.builtin "len") (fun xs H Q=>∃ z, xs=[.str z]/\z.length<=sizeLine/\Q (.int z.length) H):=by
 intro pins s Z H xs us Q I r h
 obtain ⟨z,rfl,hz,q⟩:=h
 obtain ⟨u,rfl,t,rfl⟩:=vals1 r
 have hn:=je
 exact len_str (by omega) ⟨.int z.length,H,I.tok _,⟨_,rfl⟩,q⟩
theorem cK.or {f:Value} {r r':List V->Hp->VK->Prop} (h:cK X f r) (h':cK X f r'):cK X f (fun xs H Q=>r xs H Q\/r' xs H Q):=by
 intro pins s Z H xs us Q I rs q
 rcases q with q | q
 ·exact h pins s Z H xs us Q I rs q
 ·exact h' pins s Z H xs us Q I rs q
theorem oS:cK X (.type "list") (fun xs H Q=>∃ p ys, xs=[.ref p]/\(fT X.K H p ys\/i7 X.K H p ys)/\∀ l, H l=none->Q (.ref l) (upd H l (.lst ys))):=by
 intro pins s Z H xs us Q I r h
 obtain ⟨p,ys,rfl,hq,q⟩:=h
 obtain ⟨u,rfl,rx⟩:=vals1 r
 cases rx
 have fin:∀ (its:List Value),Vals ys its->ys.length<=sizeLine->∀ (h':Heap) (c':Nat),(∀ b o',s.heap.get? b=some o'->h'.get? b=some o') ->
   h'.get? s.heap.objs.size=some { cls:=.type "list", dict:=none, data:=.seq its.toArray c', slots:=#[] }->EP X pins Z Q (.ref s.heap.objs.size) { s with heap:=h' }:=fun its r' hz h' c' kp e =>
  ⟨.ref s.heap.objs.size,_,I.laid (t':=s.toks) kp (Nat.le_refl _) (show aV X.prog X.w _ h' _ (.lst ys) from ⟨hz,its,c',r',e⟩),rfl,q _ (I.hok.fresh (Nat.le_refl _))⟩
 rcases hq with hq | hq
 ·obtain ⟨its,r',pl,hz⟩:=I.list hq
  have hlen:=r'.length
  obtain ⟨o,ho,hc,n,hd⟩:=pl.isList
  exact call_list_seq p (.inl rfl) ho hc hd (fun h' c' kp e=>fin its r' hz h' c' kp e) (by simp only [List.size_toArray] <;> omega)
 ·obtain ⟨its,r',pl,hz⟩:=I.tuple hq
  have hlen:=r'.length
  obtain ⟨o,ho,hc,n,hd⟩:=pl
  exact call_list_seq p (.inr rfl) ho hc hd (fun h' c' kp e=>fin its r' hz h' c' kp e) (by simp only [List.size_toArray] <;> omega)
theorem mF:cK X (.type "tuple") (fun xs H Q=>∃ p ys, xs=[.ref p]/\((fT X.K H p ys/\∀ l, H l=none->Q (.ref l) (upd H l (.tup ys)))\/(i7 X.K H p ys/\Q (.ref p) H))):=by
 intro pins s Z H xs us Q I r h
 obtain ⟨p,ys,rfl,h⟩:=h
 obtain ⟨u,rfl,rx⟩:=vals1 r
 cases rx
 rcases h with ⟨hq,q⟩ | ⟨hq,q⟩
 ·obtain ⟨its,r',pl,hz⟩:=I.list hq
  have hlen:=r'.length
  refine call_tuple_list pl.isList (fun h' kp=>?_) (by simp only [List.size_toArray] <;> omega)
  have I1:Inv X pins Z H { s with heap:=h' }:=I.kept (t':=s.toks) kp
  have I2:Inv X pins Z (upd H h'.objs.size (.tup ys)) { s with heap:=h'.push { cls:=.type "tuple", data:=.seq its.toArray } } :=
   I1.laid (t':=s.toks) (fun b o e=>Heap.get?_push_of_some _ e) (Nat.le_refl _) (show aV X.prog X.w _ _ _ (.tup ys) from ⟨hz,its,r',IsTup.new _ _⟩)
  exact ⟨.ref h'.objs.size,_,I2,rfl,q _ (I1.hok.fresh (Nat.le_refl _))⟩
 ·obtain ⟨its,r',pl,hz⟩:=I.tuple hq
  exact call_tuple_same pl ⟨.ref p,H,I,rfl,q⟩
noncomputable def LZ (K:PySem.W.Frag) (T:String) (x:V) (H:Hp):Prop:=match x with
 | .str _=>T = "str"
 | .int _=>T = "int"
 | .ref p=>(T = "list"/\∃ xs, fT K H p xs)\/(T = "tuple"/\∃ o, K.lookup p=some o/\o.cls=.type "tuple"/\o.dict=none) \/
   (T = "dict"/\((∃ kvs, H p=some (.dK kvs))\/∃ kvs, H p=some (.dT kvs)))\/(T = "set"/\∃ S n, H p=some (.set S n))
 | _=>False
theorem xj {pins:List (Addr×Obj)} {Z:St} {H:Hp} {s:Shared} {T:String} {x:V} {v:Value} (I:Inv X pins Z H s) (r:RelV x v) (ty:LZ X.K T x H) :
  s.TypeIs v T/\∀ a,v=.ref a->∃ ob,s.heap.get? a=some ob/\ob.dict=none:=by
 cases x with
 | str z =>
  obtain ⟨t,rfl⟩:=r
  cases (show T = "str" from ty)
  exact ⟨typeIs_str s z t,fun _ e=>nomatch e⟩
 | int i =>
  obtain ⟨t,rfl⟩:=r
  cases (show T = "int" from ty)
  exact ⟨typeIs_int s i t,fun _ e=>nomatch e⟩
 | ref p =>
  cases r
  rcases ty with ⟨rfl,xs,hq⟩ | ⟨rfl,o,hk,hc,hd⟩ | ⟨rfl,hk⟩ | ⟨rfl,S,n,hk⟩
  ·obtain ⟨its,_,pl,_⟩:=I.list hq
   refine ⟨pl.isList.typeIs,fun a e=>?_⟩
   cases e
   obtain ⟨o,n,e,c,hd,_⟩:=pl
   exact ⟨o,e,hd⟩
  ·refine ⟨⟨o,I.iQ p o hk,hc⟩,fun a e=>?_⟩
   cases e
   exact ⟨o,I.iQ _ o hk,hd⟩
  ·have z:∃ o,s.heap.get? p=some o/\o.ExactDict:=by
    rcases hk with ⟨kvs,hk⟩ | ⟨kvs,hk⟩
    ·obtain ⟨_,_,_,_,o,_,_,e,ex,_⟩:=I.hok p _ hk
     exact ⟨o,e,ex⟩
    ·obtain ⟨_,_,_,_,o,_,_,e,ex,_⟩:=I.hok p _ hk
     exact ⟨o,e,ex⟩
   obtain ⟨o,e,ex⟩:=z
   refine ⟨⟨o,e,ex.1⟩,fun a e2=>?_⟩
   cases e2
   exact ⟨o,e,ex.2.1⟩
  ·obtain ⟨o,_,_,_,e,ex,_⟩:=I.hok p _ hk
   refine ⟨⟨o,e,ex.1⟩,fun a e2=>?_⟩
   cases e2
   exact ⟨o,e,ex.2.1⟩
 | _=>exact False.elim ty
noncomputable def AM (K:PySem.W.Frag) (T:String) (r:V->List V->Hp->VK->Prop) (to:TE):TE:=fun Z H Q=>to Z H fun x H1=>LZ K T x H1/\r x [] H1 Q
noncomputable def tBM (K:PySem.W.Frag) (T:String) (r:V->List V->Hp->VK->Prop) (to:TE) (t:TA):TE:=fun Z H Q=>to Z H fun x H1=>LZ K T x H1/\t Z H1 fun xs H2=>r x xs H2 Q
variable {o e:Expr} {es:List Expr} {to:TE} {t:TA} {name:Str} {apos cpos:Pos} {T id:String} {r:V->List V->Hp->VK->Prop}
theorem yt (pa:PlainAttrs T) (slot:Slot T name id) (hty:typeOf (.builtin id)=pure (.type "method_descriptor")) (hm:MtR X id r) (ho:PE X o to)
  (hbase:attributeBase o name X.env (eval o X.env)=eval o X.env:=by rfl) (hline:(apos.endLine == cpos.line)=true:=by rfl):PE X (.Call (.Attribute o name apos) [] [] cpos) (AM X.K T r to):=by
 intro pins s Z H Q I h
 refine wpAny_Call_method0_late hbase hline (aX (ho pins s Z H _ I h) fun v s1 ⟨x,H1,I1,r1,ty,q1⟩=>?_)
 obtain ⟨h1,h2⟩:=xj I1 r1 ty
 exact ⟨T,id,pa,slot,hty,h1,h2,Calls.callWith_builtin rfl (PySem.evalArgs_none (hm pins s1 Z H1 x [] v [] Q I1 r1 .nil q1))⟩
theorem DT (pa:PlainAttrs T) (slot:Slot T name id) (hty:typeOf (.builtin id)=pure (.type "method_descriptor")) (hm:MtR X id r) (ho:PE X o to) (ha:PA X (e::es) t)
  (hbase:attributeBase o name X.env (eval o X.env)=eval o X.env:=by rfl)
  (hfew:((backTo cpos (starEach (e::es) X.env)).all (fun x=>!x.1)&&(backToKw cpos (keywordEach [] X.env)).all (fun x=>x.1.isSome)
  &&decide ((e::es).length+([]:List Keyword).length+(if ([]:List Keyword).isEmpty then 0 else 1)<30))=true:=by rfl)
  (hline:(apos.endLine == cpos.line)=true:=by rfl) (hs:starEach (e::es) X.env=(false,eval e X.env)::starEach es X.env:=by rfl) (hplain:(backTo cpos (starEach es X.env)).any (·.1)=false:=by rfl) :
  PE X (.Call (.Attribute o name apos) (e::es) [] cpos) (tBM X.K T r to t):=by
 intro pins s Z H Q I h
 refine wpAny_Call_method_late hbase hfew hline rfl (aX (ho pins s Z H _ I h) fun v s1 ⟨x,H1,I1,r1,ty,q1⟩=>?_)
 obtain ⟨h1,h2⟩:=xj I1 r1 ty
 refine ⟨T,id,pa,slot,hty,h1,h2,?_⟩
 have hA:=ha cpos pins s1 Z H1 _ I1 q1
 rw [hs] at hA ⊢
 refine Calls.callWith_builtin (by show (false||(backTo cpos (starEach es X.env)).any (·.1))=false;rw [hplain] <;> rfl) (Calls.evalArgs_plain ?_)
 exact aX hA fun us s2 ⟨vs,H2,I2,r2,q2⟩=>hm pins s2 Z H2 x vs v us Q I2 r1 r2 q2
end
noncomputable def MV (X:Cx) (id:String) (r:V->List V->Hp->VK->Prop):Prop :=
 ∀ (pins:List (Addr×Obj)) (s:Shared) (Z:St) (H:Hp) (x:V) (xs:List V) (v:Value) (us:List Value) (Q:VK),Inv X pins Z H s->RelV x v->Vals xs us->r x xs H Q ->
  wpAny (model X.prog X.w) X.A (call (.builtin id) (v::us)) (EP X pins Z Q) X.xe s
theorem Vals.one:∀ {x:V} {us:List Value},Vals [x] us->∃ u,us=[u]/\RelV x u
 | _,_,.cons r .nil=>⟨_,rfl,r⟩
theorem Vals.zero:∀ {us:List Value},Vals [] us->us=[]
 | _,.nil=>rfl
theorem Vals.dropLast {xs:List V} {us:List Value} (h:Vals xs us):Vals xs.dropLast us.dropLast:=by
 induction h with
 | nil=>exact .nil
 | cons r t ih =>
  cases t with
  | nil=>exact .nil
  | cons q t'=>exact .cons r ih
theorem Vals.reverse {xs:List V} {us:List Value} (h:Vals xs us):Vals xs.reverse us.reverse:=by
 induction h with
 | nil=>exact .nil
 | cons r t ih=>rw [List.reverse_cons,List.reverse_cons];exact Vals.append ih (.cons r .nil)
theorem su {α:Type} (l:List α):l.eraseIdx (l.length-1)=l.dropLast:=by
 induction l with
 | nil=>rfl
 | cons a r ih =>
  cases r with
  | nil=>rfl
  | cons b r =>
   have e:(a::b::r).length-1=((b::r).length-1)+1:=by
    have h1:(a::b::r).length=r.length+2:=rfl
    have h2:(b::r).length=r.length+1:=rfl
    omega
   rw [e,List.eraseIdx_cons_succ,ih]
   all_goals rfl
section
variable {X:Cx} {pins:List (Addr×Obj)} {Z:St} {H:Hp} {s:Shared} {l b:Addr} {xs ys zs:List V}
theorem Inv.Ck {its its':List Value} {n:Nat} {f:Array Value->Array Value} {t':Nat} (I:Inv X pins Z H s) (hH:H l=some (.lst xs))
  (e:s.heap.get? l=some { cls:=.type "list", data:=.seq its.toArray n }) (hf:f its.toArray=its'.toArray) (hv:Vals ys its') (hz:ys.length<=sizeLine) :
  Inv X pins Z (upd H l (.lst ys)) { s with heap:=s.heap.update l (Obj.mapSeq f),toks:=t' }:=by
 have q:=PySem.IsL.update e f
 rw [hf] at q
 refine I.write (x:=l) (e:=l) (by rw [hH];exact trivial) (.inl rfl) (fun b' u hb hu=>(Heap.get?_update_other s.heap (Obj.mapSeq f) (Ne.symm hb)).trans hu) ⟨_,q⟩ ?_
 exact ⟨hz,its',_,hv,q⟩
theorem Inv.Kw {its:List Value} {t':Nat} (I:Inv X pins Z H s) (hv:Vals ys its) (hz:ys.length<=sizeLine) :
  Inv X pins Z (upd H s.heap.objs.size (.lst ys)) { s with heap:=s.heap.push { cls:=.type "list", data:=.seq its.toArray }, toks:=t' } :=
 I.laid (fun _ _ q=>Heap.get?_push_of_some _ q) (Nat.le_refl _) ⟨hz,its,0,hv,Heap.get?_push_size _ rfl⟩
theorem Inv.fresh (I:Inv X pins Z H s):H s.heap.objs.size=none:=I.hok.fresh (Nat.le_refl _)
theorem Inv.Cj (I:Inv X pins Z H s) (hH:H l=some (.lst xs)):xs.length<=sizeLine/\∃ (its:List Value) (n:Nat), Vals xs its/\xs.length=its.length/\s.heap.get? l=some { cls:=.type "list", data:=.seq its.toArray n }:=by
 obtain ⟨z,its,n,r,e⟩:=I.hok l _ hH
 exact ⟨z,its,n,r,r.length,e⟩
theorem yy {n:Nat} (h:n<=sizeLine):Builtin.List.listTooLong n=false:=by
 unfold Builtin.List.listTooLong
 exact decide_eq_false (by omega)
end
section
variable {X:Cx}
noncomputable def nL:V->List V->Hp->VK->Prop:=fun x vs H Q=>∃ l xs y,x=.ref l/\vs=[y]/\H l=some (.lst xs)/\xs.length<sizeLine/\Q .aq (upd H l (.lst (xs++[y])))
theorem mZ:MV X "list.append" nL:=by
 intro pins s Z H x vs v us Q I rx rv h
 obtain ⟨l,xs,y,rfl,rfl,hH,hz,q⟩:=h
 cases rx
 obtain ⟨u,rfl,ru⟩:=rv.one
 obtain ⟨z,its,n,r,hl,e⟩:=I.Cj hH
 refine call_meets F.slot_list_append ⟨_,e,rfl⟩ F.entry_list_append (F.args_list_append_2 _ _) (PySem.list_append l its.toArray n u (by rw [List.size_toArray];omega)) ⟨e,?_⟩
 refine ⟨.aq,_,I.Ck (its':=its++[u]) hH e (by simp) (r.append (.cons ru .nil)) ?_,rfl,q⟩
 rw [List.length_append,List.length_singleton]
 omega
noncomputable def Fe:V->List V->Hp->VK->Prop:=fun x vs H Q=>∃ l xs y,x=.ref l/\vs=[]/\H l=some (.lst xs)/\xs[xs.length-1]? = some y/\Q y (upd H l (.lst xs.dropLast))
theorem Gq:MV X "list.pop" Fe:=by
 intro pins s Z H x vs v us Q I rx rv h
 obtain ⟨l,xs,y,rfl,rfl,hH,hy,q⟩:=h
 cases rx
 have hus:=rv.zero
 subst hus
 obtain ⟨z,its,n,r,hl,e⟩:=I.Cj hH
 obtain ⟨u,hu,ru⟩:=r.get hy
 have hy':its.toArray[its.toArray.size-1]? = some u:=by
  show its.toArray[its.length-1]? = some u
  rw [<- Array.getElem?_toList,<- hl]
  exact hu
 refine call_meets F.slot_list_pop ⟨_,e,rfl⟩ F.entry_list_pop (F.args_list_pop_1 _) (MeetsSeq.list_pop_last l its.toArray n u hy' (by rw [List.size_toArray];omega)) ⟨e,?_⟩
 refine ⟨y,_,I.Ck (its':=its.dropLast) hH e ?_ r.dropLast ?_,ru,q⟩
 ·show its.toArray.eraseIdxIfInBounds (its.toArray.size-1)=its.dropLast.toArray
  rw [List.size_toArray,List.eraseIdxIfInBounds_toArray,su]
 ·rw [List.length_dropLast]
  omega
noncomputable def kR:V->List V->Hp->VK->Prop:=fun x vs H Q=>∃ l xs,x=.ref l/\vs=[]/\H l=some (.lst xs)/\Q .aq (upd H l (.lst xs.reverse))
theorem rP:MV X "list.reverse" kR:=by
 intro pins s Z H x vs v us Q I rx rv h
 obtain ⟨l,xs,rfl,rfl,hH,q⟩:=h
 cases rx
 have hus:=rv.zero
 subst hus
 obtain ⟨z,its,n,r,hl,e⟩:=I.Cj hH
 refine call_meets F.slot_list_reverse ⟨_,e,rfl⟩ F.entry_list_reverse (F.args_list_reverse_1 _) (AutoSeq1.list_reverse_list_0 l its.toArray n (by rw [List.size_toArray];omega)) ⟨e,?_⟩
 refine ⟨.aq,_,I.Ck (its':=its.reverse) hH e (by simp) r.reverse ?_,rfl,q⟩
 rw [List.length_reverse]
 omega
end
section
variable {prog:Program} {w:World} {A:Around} {E:Value->Shared->Prop} {s:Shared}
end
section
variable {X:Cx}
end
section
variable {κ:Type} [DecidableEq κ]
noncomputable def cL (kvs:List (κ×V)) (k:κ):Option V:=(kvs.find? fun kv=>decide (kv.1=k)).map (·.2)
noncomputable def putK (kvs:List (κ×V)) (k:κ) (v:V):List (κ×V) :=
 if (kvs.any fun kv=>decide (kv.1=k))=true then kvs.map (fun kv=>if kv.1=k then (kv.1,v) else kv) else kvs++[(k,v)]
theorem kJ {p:κ×V} {r:List (κ×V)} {k:κ} (e:p.1=k):cL (p::r) k=some p.2:=by simp [cL,List.find?_cons,e]
theorem kK {p:κ×V} {r:List (κ×V)} {k:κ} (e:¬ p.1=k):cL (p::r) k=cL r k:=by simp [cL,List.find?_cons,e]
theorem pq (k:κ):∀ kvs:List (κ×V),(kvs.any fun kv=>decide (kv.1=k))=(cL kvs k).isSome
 | []=>rfl
 | p::r=>by
  rw [List.any_cons]
  by_cases e:p.1=k
  ·simp only [kJ e,decide_eq_true e,Bool.true_or,Option.isSome_some]
  ·rw [kK e,decide_eq_false e,Bool.false_or];exact pq k r
theorem jz (kvs:List (κ×V)) (k:κ) (v:V):(putK kvs k v).length<=kvs.length+1:=by
 unfold putK
 split
 ·rw [List.length_map];omega
 ·rw [List.length_append,List.length_cons,List.length_nil];omega
theorem gE.jh {o:Option V} {u:Option Value} (r:gE o u):o.isSome=u.isSome:=by
 cases o with
 | none=>cases u with
  | none=>rfl
  | some _=>exact (show False from r).elim
 | some _=>cases u with
  | none=>exact (show False from r).elim
  | some _=>rfl
theorem gE.getD {o:Option V} {u:Option Value} {d:V} {d':Value} (r:gE o u) (rd:RelV d d'):RelV (o.getD d) (u.getD d'):=by
 cases o with
 | none=>cases u with
  | none=>exact rd
  | some _=>exact (show False from r).elim
 | some _=>cases u with
  | none=>exact (show False from r).elim
  | some _=>exact r
theorem KV.val {kvs:List (κ×V)} {vs:List (κ×Value)} (r:KV kvs vs) (k:κ):gE (cL kvs k) (valueAt vs k):=by
 unfold KV at r
 induction r with
 | nil=>exact True.intro
 | @cons p q ps qs h t ih =>
  obtain ⟨h1,h2⟩:=h
  by_cases e:p.1=k
  ·have e':q.1=k:=h1.symm.trans e
   have b:valueAt (q::qs) k=some q.2:=by simp [valueAt,List.find?_cons,e']
   rw [kJ e,b];exact h2
  ·have e':¬ q.1=k:=fun z=>e (h1.trans z)
   have b:valueAt (q::qs) k=valueAt qs k:=by simp [valueAt,List.find?_cons,e']
   rw [kK e,b];exact ih
theorem KV.any {kvs:List (κ×V)} {vs:List (κ×Value)} (r:KV kvs vs) (k:κ):(kvs.any fun kv=>decide (kv.1=k))=vs.any fun kv=>decide (kv.1=k):=by
 unfold KV at r
 induction r with
 | nil=>rfl
 | cons h t ih=>rw [List.any_cons,List.any_cons,ih,h.1]
theorem KV.repl {kvs:List (κ×V)} {vs:List (κ×Value)} (r:KV kvs vs) (k:κ) {y:V} {u:Value} (ry:RelV y u) :
  KV (kvs.map fun kv=>if kv.1=k then (kv.1,y) else kv) (vs.map fun kv=>if kv.1=k then (kv.1,u) else kv):=by
 unfold KV at r ⊢
 induction r with
 | nil=>exact .nil
 | @cons p q ps qs h t ih =>
  rw [List.map_cons,List.map_cons]
  refine .cons ?_ ih
  obtain ⟨h1,h2⟩:=h
  by_cases e:p.1=k
  ·rw [if_pos e,if_pos (h1.symm.trans e)];exact ⟨h1,ry⟩
  ·rw [if_neg e,if_neg (fun z=>e (h1.trans z))];exact ⟨h1,h2⟩
theorem KV.put {kvs:List (κ×V)} {vs:List (κ×Value)} (r:KV kvs vs) (k:κ) {y:V} {u:Value} (ry:RelV y u):KV (putK kvs k y) (stored vs k u):=by
 unfold putK stored
 rw [r.any k]
 by_cases e:(vs.any fun kv=>decide (kv.1=k))=true
 ·rw [if_pos e,if_pos e];exact r.repl k ry
 ·rw [if_neg e,if_neg e];exact Paired.snoc r ⟨rfl,ry⟩
theorem KV.length {kvs:List (κ×V)} {vs:List (κ×Value)} (r:KV kvs vs):kvs.length=vs.length:=Paired.length r
end
theorem qm {P:Program} {w:World} {k:Key} {u:Value} (r:RelV (kV k) u):(aM P w).is k u=true:=by
 cases k with
 | inl i=>obtain ⟨t,e⟩:=(show ∃ t,u=Value.int i t from r);subst e;exact qf P w i t
 | inr x=>obtain ⟨t,e⟩:=(show ∃ t,u=Value.str x t from r);subst e;exact qe P w x t
theorem m9 {P:Program} {w:World}:∀ {ks:List Key} {us:List Value},Vals (ks.map kV) us->ItemsAre (aM P w) ks us
 | [],_,r=>by rw [List.map_nil] at r;cases r;exact .nil
 | k::ks,_,r=>by
  rw [List.map_cons] at r
  cases r with
  | cons h t=>exact .cons (qm h) (m9 t)
noncomputable abbrev KT (H:Hp):List (List Key×V)->List (List Key×Addr×Value)->Prop:=Paired fun p q=>p.1=q.1/\H q.2.1=some (.tup (p.1.map kV))/\RelV p.2 q.2.2
theorem KT.val {H:Hp} {kvs:List (List Key×V)} {xs:List (List Key×Addr×Value)} (r:KT H kvs xs) (k:List Key):gE (cL kvs k) ((atKey xs k).map (·.2)):=by
 induction r with
 | nil=>exact True.intro
 | @cons p q ps qs h t ih =>
  obtain ⟨h1,_,h2⟩:=h
  by_cases e:p.1=k
  ·have e':q.1=k:=h1.symm.trans e
   have b:atKey (q::qs) k=some q.2:=by simp [atKey,List.find?_cons,e']
   rw [kJ e,b];exact h2
  ·have e':¬ q.1=k:=fun z=>e (h1.trans z)
   have b:atKey (q::qs) k=atKey qs k:=by simp [atKey,List.find?_cons,e']
   rw [kK e,b];exact ih
theorem KT.repl {H:Hp} {kvs:List (List Key×V)} {xs:List (List Key×Addr×Value)} (r:KT H kvs xs) (k:List Key) {y:V} {u:Value} (ry:RelV y u) :
  KT H (kvs.map fun kv=>if kv.1=k then (kv.1,y) else kv) (xs.map (putAt k u)):=by
 induction r with
 | nil=>exact .nil
 | @cons p q ps qs h t ih =>
  rw [List.map_cons,List.map_cons]
  refine .cons ?_ ih
  obtain ⟨h1,h2,h3⟩:=h
  unfold putAt
  by_cases e:p.1=k
  ·rw [if_pos e,if_pos (h1.symm.trans e)];exact ⟨h1,h2,ry⟩
  ·rw [if_neg e,if_neg (fun z=>e (h1.trans z))];exact ⟨h1,h2,h3⟩
theorem KT.put {H:Hp} {kvs:List (List Key×V)} {xs:List (List Key×Addr×Value)} (r:KT H kvs xs) (k:List Key) {b:Addr} {y:V} {u:Value} (hb:H b=some (.tup (k.map kV))) (ry:RelV y u) :
  KT H (putK kvs k y) (storedH xs k b u):=by
 have e:(kvs.any fun kv=>decide (kv.1=k))=(atKey xs k).isSome:=by
  rw [pq,(r.val k).jh,Option.isSome_map]
 unfold putK storedH
 rw [e]
 by_cases q:(atKey xs k).isSome=true
 ·rw [if_pos q,if_pos q];exact r.repl k ry
 ·rw [if_neg q,if_neg q];exact Paired.snoc r ⟨rfl,hb,ry⟩
theorem KT.keeps {H H':Hp} {kvs:List (List Key×V)} {xs:List (List Key×Addr×Value)} (r:KT H kvs xs) (ht:∀ b ys,H b=some (.tup ys)->H' b=some (.tup ys)):KT H' kvs xs :=
 Paired.Gu r fun _ _ z=>⟨z.1,ht _ _ z.2.1,z.2.2⟩
section
variable {P:Program} {w:World} {H:Hp} {h:Heap} {a:Addr}
theorem DJ {u:HO} (ok:gU P w H h) (e:Rd H a u):aV P w H h a u:=e.ok ok
theorem Ek {kvs:List (Key×V)} (ok:gU P w H h) (e:Rd H a (.dK kvs)):kvs.length<=sizeLine/\(a == sysModules)=false/\∃ vs,KV kvs vs/\h.DictOf (aM P w) a vs :=
 show aV P w H h a (.dK kvs) from DJ ok e
theorem Lr {kvs:List (Key×V)} (ok:gU P w H h) (e:H a=some (.dK kvs)):kvs.length<=sizeLine/\(a == sysModules)=false/\∃ vs,KV kvs vs/\h.DictOf (aM P w) a vs:=Ek ok (.inl e)
theorem zc {ks:List Key} (ok:gU P w H h) (e:H a=some (.tup (ks.map kV))):(tupleKind (aM P w)).is h ks a:=by
 obtain ⟨_,its,r,o,h1,h2,n,h3⟩:=(show aV P w H h a (.tup (ks.map kV)) from ok a _ e)
 exact ⟨o,its.toArray,n,h1,h2,h3,by simpa using m9 r⟩
theorem Lp {kvs:List (List Key×V)} (ok:gU P w H h) (e:Rd H a (.dT kvs)):kvs.length<=sizeLine/\(a == sysModules)=false /\
  ∃ xs,KT H kvs xs/\h.DictOfH (tupleKind (aM P w)) a xs:=by
 obtain ⟨z,y,xs,r,o,es,ep,h1,h2,h3,h4,h5⟩:=(show aV P w H h a (.dT kvs) from DJ ok e)
 refine ⟨z,y,xs,r,o,es,ep,h1,h2,h3,h4,fun x hx=>?_,h5⟩
 have all:∀ {l:List (List Key×V)} {m:List (List Key×Addr×Value)},KT H l m->∀ x∈m,(tupleKind (aM P w)).is h x.1 x.2.1:=by
  intro l m q
  induction q with
  | nil=>intro x hx;exact nomatch hx
  | @cons p q ps qs hq t ih =>
   intro x hx
   rcases List.mem_cons.mp hx with e | hx
   ·subst e
    exact zc ok (by rw [<- hq.1];exact hq.2.1)
   ·exact ih x hx
 exact all r x hx
theorem Lq {kvs:List (List Key×V)} (ok:gU P w H h) (e:H a=some (.dT kvs)):kvs.length<=sizeLine/\(a == sysModules)=false /\
  ∃ xs,KT H kvs xs/\h.DictOfH (tupleKind (aM P w)) a xs:=Lp ok (.inl e)
end
noncomputable def Ds (H:Hp) (a:Addr) (y:V) (r:Option V):Prop :=
 (∃ kvs k,Rd H a (.dK kvs)/\y=kV k/\r=cL kvs k)\/∃ kvs k b,Rd H a (.dT kvs)/\y=.ref b/\H b=some (.tup (k.map kV))/\r=cL kvs k
noncomputable def sX (H:Hp) (a:Addr) (y v:V) (H':Hp):Prop :=
 (∃ kvs k,H a=some (.dK kvs)/\y=kV k/\kvs.length<sizeLine/\H'=upd H a (.dK (putK kvs k v))) \/
 ∃ kvs k b,H a=some (.dT kvs)/\y=.ref b/\H b=some (.tup (k.map kV))/\kvs.length<sizeLine/\H'=upd H a (.dT (putK kvs k v))
theorem Ds.k {H:Hp} {a:Addr} {kvs:List (Key×V)} {k:Key} (e:H a=some (.dK kvs)):Ds H a (kV k) (cL kvs k):=.inl ⟨kvs,k,.inl e,rfl,rfl⟩
theorem Ds.t {H:Hp} {a b:Addr} {kvs:List (List Key×V)} {k:List Key} (e:H a=some (.dT kvs)) (eb:H b=some (.tup (k.map kV))):Ds H a (.ref b) (cL kvs k):=.inr ⟨kvs,k,b,.inl e,rfl,eb,rfl⟩
theorem sX.k {H:Hp} {a:Addr} {kvs:List (Key×V)} {k:Key} {v:V} (e:H a=some (.dK kvs)) (hl:kvs.length<sizeLine):sX H a (kV k) v (upd H a (.dK (putK kvs k v))):=.inl ⟨kvs,k,e,rfl,hl,rfl⟩
theorem sX.t {H:Hp} {a b:Addr} {kvs:List (List Key×V)} {k:List Key} {v:V} (e:H a=some (.dT kvs)) (eb:H b=some (.tup (k.map kV))) (hl:kvs.length<sizeLine) :
  sX H a (.ref b) v (upd H a (.dT (putK kvs k v))):=.inr ⟨kvs,k,b,e,rfl,eb,hl,rfl⟩
section
variable {X:Cx} {pins:List (Addr×Obj)} {Z:St} {H:Hp} {s:Shared} {a:Addr} {y v:V} {u r:Value} {o:Option V} {A:Around} {E:Value->Shared->Prop}
theorem Inv.big (I:Inv X pins Z H s):sysModules<s.heap.objs.size:=by
 have h:mainGlobals<s.heap.objs.size:=(I.mod.glob.keeps I.bk).lt
 exact Nat.lt_trans (by decide) h
theorem ve {h':Heap} {t':Nat} {ob:HO} (I:Inv X pins Z H s) (mu:LO (H a)) (hs:Heap.SameBut a s.heap h') (he:∃ q,h'.get? a=some q) (new:aV X.prog X.w (upd H a ob) h' a ob) :
  Inv X pins Z (upd H a ob) { s with heap:=h',toks:=t' } :=
 I.write (x:=a) (e:=a) mu (.inl rfl) (fun b q hb z=>(hs.2 b hb).trans z) he new
theorem HM {P:Program} {w:World} {H':Hp} {h':Heap} {kvs:List (Key×V)} {vs:List (Key×Value)} (z:kvs.length<=sizeLine) (hd:(a == sysModules)=false) (rel:KV kvs vs) (dd:h'.DictOf (aM P w) a vs) :
  aV P w H' h' a (.dK kvs):=⟨z,hd,vs,rel,dd⟩
theorem wF {H':Hp} {Q:Unit->Shared->Prop} (hu:A.units+1<cLine) (I:Inv X pins Z H s) (g:sX H a y v H') (ry:RelV y u) (rv:RelV v r) (h:∀ s',Inv X pins Z H' s'->Q () s') :
  wpAny (model X.prog X.w) A (setItem (.ref a) u r) Q E s:=by
 rcases g with ⟨kvs,k,e,ey,l,eH⟩ | ⟨kvs,k,b,e,ey,eb,l,eH⟩
 ·subst ey eH
  obtain ⟨z,hd,vs,rel,dd⟩:=Lr I.hok e
  have hz:vs.length<=sizeLine:=by rw [<- rel.length];exact z
  have hl:(putK kvs k v).length<=sizeLine:=by have:=jz kvs k v;omega
  refine wpAny_setItem_pairs (hsz:=hz) (qm ry) dd fun h' Ls hs=>h _ ?_
  have he:∃ q,h'.get? a=some q:=let ⟨q,_,_,hq,_⟩:=Ls;⟨q,hq⟩
  exact ve I (by rw [e];exact True.intro) hs he (HM hl hd (rel.put k rv) Ls)
 ·subst ey eH
  cases (show u=Value.ref b from ry)
  obtain ⟨z,hd,xs,rel,dd⟩:=Lq I.hok e
  have hz:xs.length<=sizeLine:=by rw [<- Paired.length rel];exact z
  have hl:(putK kvs k v).length<=sizeLine:=by have:=jz kvs k v;omega
  refine wpAny_setItem_heap (hsz:=hz) (tupleKind_room_in1 hu) (zc I.hok eb) dd fun h' Ls hs=>h _ ?_
  obtain ⟨q,es,ep,hq,h2,h3,h4,_,h5⟩:=Ls
  refine ve I (by rw [e];exact True.intro) hs ⟨q,hq⟩ ⟨hl,hd,_,(rel.put k eb rv).keeps fun c ys ec=>?_,q,es,ep,hq,h2,h3,h4,h5⟩
  rw [ao (Kn ec e (fun z=>nomatch z))]
  exact ec
end
section
variable {X:Cx} {pins:List (Addr×Obj)} {Z:St} {H:Hp} {s:Shared} {a:Addr} {kvs:List (Key×V)} {k:Key} {u:Value} {A:Around} {E:Value->Shared->Prop}
end
section
variable {X:Cx} {o i e value:Expr} {pos pos' tpos:Pos} {td ty tv:TE}
end
theorem Ab {P:Program} {w:World} {H:Hp} (h:Heap) (hb:sysModules<h.objs.size):aV P w H (h.push { cls:=.type "dict", data:=.dict #[] }) h.objs.size (.dK []) :=
 ⟨Nat.zero_le _,beq_eq_false_iff_ne.mpr (Ne.symm (Nat.ne_of_lt hb)),[],.nil,Heap.DictOf.new h⟩
noncomputable def xy:TE:=fun _ H Q=>∀ p,H p=none->Q (.ref p) (upd H p (.dK []))
section
variable {X:Cx} {pos:Pos}
theorem yp:PE X (.Dict [] [] pos) xy:=fun pins s Z H Q I h =>
 wpAny_Dict_empty ⟨.ref s.heap.objs.size,_,I.laid (a:=s.heap.objs.size) (o:=.dK []) (t':=s.toks) (fun _ _ q=>Heap.get?_push_of_some _ q) (Nat.le_refl _) (Ab s.heap I.big),rfl,h _ (I.hok.fresh (Nat.le_refl _))⟩
end
structure M1 (X:Cx) (o:Expr) (m:Str) (apos:Pos) (e:Expr) (cpos:Pos):Prop where
 base:attributeBase o m X.env (eval o X.env)=eval o X.env
 few:((backTo cpos (starEach [e] X.env)).all (fun x=>!x.1)&&(backToKw cpos (keywordEach [] X.env)).all (fun x=>x.1.isSome)
 &&decide (([e]:List Expr).length+([]:List Keyword).length+(if ([]:List Keyword).isEmpty then 0 else 1)<30))=true
 line:(apos.endLine == cpos.line)=true
 trees:backTo cpos (starEach [e] X.env)=[(false,eval e X.env)]
structure M2 (X:Cx) (o:Expr) (m:Str) (apos:Pos) (e f:Expr) (cpos:Pos):Prop where
 base:attributeBase o m X.env (eval o X.env)=eval o X.env
 few:((backTo cpos (starEach [e,f] X.env)).all (fun x=>!x.1)&&(backToKw cpos (keywordEach [] X.env)).all (fun x=>x.1.isSome)
 &&decide (([e,f]:List Expr).length+([]:List Keyword).length+(if ([]:List Keyword).isEmpty then 0 else 1)<30))=true
 line:(apos.endLine == cpos.line)=true
 trees:backTo cpos (starEach [e,f] X.env)=[(false,eval e X.env),(false,eval f X.env)]
section
variable {X:Cx} {pins:List (Addr×Obj)} {Z:St} {H:Hp} {s:Shared} {a:Addr} {y d:V} {u r:Value} {o:Option V} {A:Around} {E:Value->Shared->Prop}
end
section
variable {X:Cx} {o e f:Expr} {apos cpos:Pos} {td ty tx:TE}
end
section
variable {X:Cx} {pins:List (Addr×Obj)} {Z:St} {H:Hp} {s:Shared} {a:Addr} {kvs:List (Key×V)} {A:Around} {E:Value->Shared->Prop}
end
section
variable {X:Cx} {pins:List (Addr×Obj)} {Z:St} {H:Hp} {s:Shared} {a:Addr} {y:V} {u:Value} {A:Around} {E:Value->Shared->Prop}
end
end L2
namespace Att
open PySem PySem.W PySem.Calls PyProof.Rows
theorem jT {P:Params} {h:Heap}:∀ (ns:List Int) (vs:List Value),WellAll P h vs (ns.map WData.int)->IntsAre vs ns:=by
 intro ns
 induction ns with
 | nil =>
  intro vs w
  rw [List.map_nil] at w
  cases w
  exact .nil
 | cons n ns ih =>
  intro vs w
  rw [List.map_cons] at w
  cases w with
  | cons a b =>
   cases a
   exact .cons _ _ (ih _ b)
theorem vL {l:OpenLaw} {n:Nat} (hn:l.most=some n) {P:Params} {h:Heap} {args:List WData} {vals:List Value}
  (hpre:l.row.toRowW.claim.pre args=true) (hwl:WellAll P h vals args) :
  ∃ a vs ns, vals=[Value.ref a]/\args=[WData.list (ns.map WData.int)]/\h.get? a=some { cls:=.type "list", data:=.seq vs.toArray }/\IntsAre vs ns/\ns.length<=n:=by
 have hsh:WShape.hasAll [] args [.list .int]=true:=(pre_splitW hpre).1
 have hc:l.pre.holds [] { args:=args }=true:=(pre_splitW hpre).2
 obtain ⟨d,r,rfl,h1,h2⟩:=hasAllW_cons hsh
 obtain rfl:=hasAllW_nil h2
 obtain ⟨xs,rfl,h3⟩:=hasW_list h1
 obtain ⟨ns,rfl⟩:=items_int h3
 have hlen:ns.length<=n:=by
  unfold OpenLaw.pre at hc
  have h4:(WTm.not (.lt (.lit (.int (n:Int))) (.len (.arg 0)))).holds [] { args:=[.list (ns.map .int)] }=true:=by
   have h4:=(holds_andW hc).1
   rw [hn] at h4
   exact h4
  have h5:=condW_of h4 (w_not (w_lt w_lit (w_len_list (w_arg rfl))))
  rw [List.length_map] at h5
  refine Nat.le_of_not_lt fun q=>?_
  have q':(n:Int)<((ns.length:Nat):Int):=by omega
  first
   | (rw [decide_eq_true q'] at h5;exact absurd h5 (by decide))
   | (simp at h5;omega)
 cases hwl with
 | cons w1 w2 =>
  cases w2
  cases w1 with
  | list ho hall=>exact ⟨_,_,ns,rfl,rfl,ho,jT ns _ hall,hlen⟩
theorem vQ (l:OpenLaw) (args:List WData):l.row.toRowW.claim.post args (.bool true) args=true :=
 postW_of (r:=l.row.toRowW) (X:=(true == true))
  (show WShape.has [] (.bool true) .bool=true by first | rfl | decide | simp [WShape.has,WShape.arms,WShape.armsAll])
  (show (WTm.eq .res (.lit (.bool true))).value [] { args:=args,res:=some (.bool true),after:=args }=some (.bool (true == true)) from w_eq_bool (w_res rfl) w_lit) rfl
theorem qO {l:OpenLaw} {n:Nat} {q:Program} {loose:List Str} {XP:(Str->Option Value)->Heap->Prop} {YP:World->Heap->Prop} {d:DefRec}
  (hn:l.most=some n) (hdf:d.params.defaults=[])
  (call:∀ (w:World) (s₀ s₁:Shared) (mg mb:Str->Option Value) (fa:Addr) (o:Obj) (pm cd doc:Value) (a:Addr) (vs:List Value) (ns:List Int),
   Ground q loose [] XP w s₀ mg mb s₁.heap->YP w s₁.heap ->
   s₁.heap.get? fa=some o->o.data=.func (docDef d.name d.params d.body d.scope pm cd doc)->s₁.heap.CodeRec cd d.name->mg d.name=some (.ref fa) ->
   s₁.heap.get? a=some { cls:=.type "list", data:=.seq vs.toArray }->IntsAre vs ns->ns.length<=n->s₁.gens=#[] ->
   codeAny (model l.prog w) callerA (.call (.ref fa) ⟨[.ref a],[]⟩) (fun r s'=>r=.ok (.ret (.bool true))/\OldK s₁.heap s'.heap/\s'.os=s₁.os/\AllBare s'.gens) s₁) :
  WalkO q loose XP YP l.row.toRowW d [] (fun f vs=>PySem.call f vs):=by
 intro w s₀ s₁ mg mb G Y fa o pm cd doc dV kV ho hd hcd hD hmg hg args vals as hpre hlay hrd hwl hlo
 obtain rfl:dV=.none:=Dflts.none hD hdf
 obtain rfl:kV=.none:=Dflts.noKw hD
 obtain ⟨a,vs,ns,rfl,rfl,hobj,hints,hlen⟩:=vL hn hpre hwl
 refine enter_call (codeAny_mono (call w s₀ s₁ mg mb fa o pm cd doc a vs ns G Y ho (fd_plain hd) hcd hmg hobj hints hlen hg) fun r s' hq=>?_)
 obtain ⟨rfl,h2,h3,h4⟩:=hq
 exact ⟨.inl ⟨.bool true,.bool true,[],rfl,fun _=>rfl,.bool true,vQ l _,fun _=>⟨List.Pairwise.nil,fun _ hm=>(nomatch hm)⟩⟩,h2,h3,h4⟩
section
variable {prog:Program} {w:World} {A:Around} {E:Value->Shared->Prop} {s:Shared} {K:Frag}
end
end Att
namespace L2
open PySem PySem.Spec PyProof.Rows
theorem mO:∀ {vs:List Value} {ns:List Int},IntsAre vs ns->Vals (ns.map V.int) vs
 | _,_,.nil=>.nil
 | _,_,.cons n t h=>.cons ⟨t,rfl⟩ (mO h)
noncomputable def LN (H:Hp):Prop:=∀ b,H b=none\/∃ o xs,H b=some (.gI o (.lst xs))
theorem zb {P:Program} {w:World} {K:PySem.W.Frag} {mg mb:Str->Option Value} {CX:AB} {k:Nat} {fa a:Addr} {fd:FuncData} {x:Str} {sp:Sp} {s₁:Shared} {vs:List Value} {ns:List Int}
  (KX:K.In s₁.heap) (hns:s₁.heap.Ns mainGlobals mg) (hb:s₁.heap.Ns builtinsNs mb) (hbb:∀ x:Str, x≠"__name__"->mb x=bootBuiltins x) (hlim:s₁.heap.NoLimit) (hg:s₁.gens=#[])
  (ha:s₁.heap.get? a=some { cls:=.type "list", data:=.seq vs.toArray }) (hi:IntsAre vs ns) (hl:ns.length<=sizeLine) (hr:cI k callerA)
  (F:∀ base:Heap,K.In base->base.Ns mainGlobals mg->cB P w K mg base CX k fa fd [x] sp) (hbind:∀ (s:Shared) (u:Value),BindsTo s fd ⟨[u],[]⟩ [(x,u)])
  (IC:∀ H:Hp,LN H->fT K H a (ns.map V.int)->sp [.ref a] H (fun v _=>v=.bl true) fun _ _ _=>False)
  (hCX:∀ H e s',CX [] H s₁ (fun _ _ _=>False) e s'->False) :
  codeAny (model P w) callerA (.call (.ref fa) ⟨[.ref a],[]⟩) (fun r s'=>r=.ok (.ret (.bool true))/\OldK s₁.heap s'.heap/\s'.os=s₁.os/\AllBare s'.gens) s₁:=by
 have rv:=mO hi
 have lenV:=hi.length
 have core:∀ H:Hp,LN H->fT K H a (ns.map V.int)->gU P w H s₁.heap->(∀ b,H b≠none->b=a)->(H a≠none->K.lookup a=none) ->
   codeAny (model P w) callerA (.call (.ref fa) ⟨[.ref a],[]⟩) (fun r s'=>r=.ok (.ret (.bool true))/\OldK s₁.heap s'.heap/\s'.os=s₁.os/\AllBare s'.gens) s₁:=by
  intro H hO hS hok hA hK
  have kD:∀ {b:Addr} {o:Obj},s₁.heap.get? b=some o->H b=none->(oh s₁.heap H).get? b=some o:=fun e n=>zB e n
  have Kl:∀ {b:Addr} {o:Obj} {es:Array DictEntry} {ep:Nat},s₁.heap.get? b=some o->o.data=.dict es ep->H b=none:=fun {b o es ep} e d=>by
   cases q:H b with
   | none=>rfl
   | some u =>
    have e':b=a:=hA b (by rw [q];simp)
    subst e'
    rw [ha] at e;cases e
    have d':Data.seq vs.toArray _=Data.dict es ep:=d
    cases d'
  have Mc:∀ {b:Addr} {m:Str->Option Value},s₁.heap.Ns b m->(oh s₁.heap H).Ns b m:=fun {b m} ⟨o,es,ep,e,d,r⟩=>⟨o,es,ep,kD e (Kl e d),d,r⟩
  have hKb:K.In (oh s₁.heap H):=fun b o e=>kD (KX b o e) (by
   cases q:H b with
   | none=>rfl
   | some u =>
    have e':b=a:=hA b (by rw [q];simp)
    subst e'
    rw [hK (by rw [q];simp)] at e;cases e)
  have hM:Mod K mg (oh s₁.heap H):=⟨hKb,Mc hns,⟨mb,Mc hb,hbb⟩,let ⟨mc,h1,h2⟩:=hlim;⟨mc,Mc h1,h2⟩⟩
  have e0:sW P w K mg (oh s₁.heap H) callerA [] s₁ H:=⟨rfl,hM,fun b o e=>Cc e,Nat.le_of_eq (wo _ _),trivial,fun b hb=>absurd (show b∈([]:List Addr) from hb) (by simp),hok,.of_eq hg⟩
  refine codeAny_mono ((F _ hKb (Mc hns)).run callerA [] s₁ H ⟨[.ref a],[]⟩ [.ref a] [.ref a] _ _ hr e0 (hbind s₁ (.ref a)) (.cons rfl .nil) (IC H hO hS)) fun r s' h=>?_
  cases r with
  | error e=>exact (hCX H e s' h).elim
  | ok fl =>
   cases fl with
   | next=>exact False.elim h
   | brk=>exact False.elim h
   | cont=>exact False.elim h
   | ret u =>
    obtain ⟨v,H',os,bare,un,hok',r',q⟩:=h
    have q':v=.bl true:=q
    subst q'
    obtain rfl:u=Value.bool true:=r'
    refine ⟨rfl,OldK.of_keep fun b o e=>?_,os,bare⟩
    cases q:H b with
    | none=>exact un.keep b o e q (by intro z;exact absurd (show b∈([]:List Addr) from z) (by simp)) (by simp)
    | some u =>
     rcases hO b with z | ⟨ob,xs,z⟩
     ·rw [q] at z;cases z
     ·have z2:=un.gO b ob _ z
      obtain ⟨e1,_⟩:=hok b _ z
      obtain ⟨e2,_⟩:=hok' b _ z2
      rw [e] at e1;cases e1
      exact e2
 cases hk:K.lookup a with
 | some o =>
  have e:=KX a o hk
  rw [ha] at e
  cases e
  refine core (fun _=>none) (fun _=>.inl rfl) (.inr ⟨_,vs.toArray,_,hk,rfl,rfl,rfl,by rw [List.size_toArray,lenV];exact hl,by simpa using rv⟩) (fun b u z=>by have z':(none:Option HO)=some u:=z;cases z') (fun b z=>absurd rfl z) fun z=>absurd rfl z
 | none =>
  refine core (fun b=>if b=a then some (.gI { cls:=.type "list", data:=.seq vs.toArray } (.lst (ns.map V.int))) else none) (fun b=>?_) (.inl (.inr ⟨{ cls:=.type "list", data:=.seq vs.toArray }, if_pos rfl⟩)) (fun b u z=>?_) (fun b z=>?_) fun _=>hk
  ·by_cases hb:b=a
   ·exact .inr ⟨_,_,if_pos hb⟩
   ·exact .inl (if_neg hb)
  ·by_cases hb:b=a
   ·have z':=(if_pos hb).symm.trans z
    cases z'
    subst hb
    exact ⟨ha,by rw [List.length_map];exact hl,vs,_,rv,ha⟩
   ·have z':=(if_neg hb).symm.trans z
    cases z'
  ·by_cases hb:b=a
   ·exact hb
   ·exact absurd (if_neg hb) z
noncomputable abbrev CX0:AB:=fun _ _ _ _ _ _=>False
structure Fun (K:PySem.W.Frag) (x qual:Str) (st:Stmt) (f:Addr) (fd:FuncData):Prop where
 ex:∃ (oc:Value) (od:Option Addr) (kV doc pm:Value) (an:Option Addr) (cdv ct:Value) (osl:Array (Option Value)),
  fd=PySem.W.fnOf x qual (iX st) (cg st) (aF st) .none kV doc pm an cdv ct/\K.lookup f=some ⟨oc,od,.func fd,osl⟩/\PySem.W.codeIn K cdv qual=true
 kp:PySem.W.keepIn K (.ref f)=true
section
variable {P:Program} {w:World} {K:PySem.W.Frag} {mg:Str->Option Value} {base:Heap}
theorem Fun.ok {x qual:Str} {st:Stmt} {f:Addr} {fd:FuncData} {N ps:List Str} {k:Nat} {sp:Sp} (F:Fun K x qual st f fd) (S:dH N ps (aF st)) (len:∀ vs H Q E,sp vs H Q E->vs.length=ps.length)
  (hbody:∀ (cdv:Value) (A:Around) (outer:List Env) (s:Shared) (H:Hp) (vs:List V) (Q:VK) (E:XK),cI k (A.deeper (envOfC qual (aF st) s.heap.objs.size f cdv))->sp vs H Q E ->
   ∃ t,o5 (iY CX0 P w K mg base N qual (aF st) f cdv A outer s H E).DU (cg st) t/\t { nx:=fun _ H'=>Q .aq H',rt:=Q } (start N vs) H):cB P w K mg base CX0 (k+1) f fd ps sp:=by
 obtain ⟨oc,od,kV,doc,pm,an,cdv,ct,osl,rfl,lk,hcd⟩:=F.ex
 refine Ea lk hcd S len fun A outer s H vs Q E hr IC=>?_
 obtain ⟨t,h,q⟩:=hbody cdv A outer s H vs Q E hr IC
 exact ⟨t,h.DU,q⟩
end
section
variable {X:Cx}
end
noncomputable def qP (H H':Hp):Prop:=∀ b o,H b=some o->H' b=some o
theorem qP.refl (H:Hp):qP H H:=fun _ _ h=>h
theorem qP.trans {H H1 H2:Hp} (a:qP H H1) (b:qP H1 H2):qP H H2:=fun c o h=>b c o (a c o h)
theorem qP.free {H H':Hp} (e:qP H H') {l:Addr} (h:H' l=Option.none):H l=Option.none:=by
 cases q:H l with
 | none=>rfl
 | some o =>
  rw [e l o q] at h
  cases h
section
variable {κ:Type} [DecidableEq κ]
end
end L2
end
section
namespace Fg
open PySem
section
variable {Φ:aS} {Z:Sg} {M:MH}
@[simp] theorem gR {i:Nat}:ev Φ (.v i) Z M=match Z[i]? with | some (some d)=>.ok d M | _=>.bad:=rfl
@[simp] theorem oG {d:D}:ev Φ (.k d) Z M=.ok d M:=rfl
@[simp] theorem ev_g {i:Nat}:ev Φ (.g i) Z M=match Φ.glob i with | some d=>.ok d M | none=>.bad:=rfl
@[simp] theorem bL {es:Es}:ev Φ (.tup es) Z M=(cG Φ es Z M).bind fun ds M1=>.ok (.tup ds) M1:=rfl
@[simp] theorem iz {fz:Bool} {es:Es}:ev Φ (.lst fz es) Z M=(cG Φ es Z M).bind fun ds M1=>b7 fz ds M1:=rfl
@[simp] theorem MK:ev Φ .sJ Z M=.ok (.ref M.length) (M++[.dct []]):=rfl
@[simp] theorem eL {o:Dm} {fz:Bool} {a b:E}:ev Φ (.op o fz a b) Z M=(ev Φ a Z M).bind fun x M1=>(ev Φ b Z M1).bind fun y M2=>qa o fz M2 x y:=rfl
@[simp] theorem HE {a:E}:ev Φ (.neg a) Z M=(ev Φ a Z M).bind fun x M1=>match x with | .int i=>.ok (.int (-i)) M1 | _=>.bad:=rfl
@[simp] theorem gB {o:AH} {a b:E}:ev Φ (.cmp o a b) Z M=(ev Φ a Z M).bind fun x M1=>(ev Φ b Z M1).bind fun y M2=>bG o M2 x y:=rfl
@[simp] theorem Lb {o o':AH} {a b c:E}:ev Φ (.chain o o' a b c) Z M=(ev Φ a Z M).bind fun x M1=>(ev Φ b Z M1).bind fun y M2=>(bG o M2 x y).bind fun t M3=>match t with
  | .bl true=>(ev Φ c Z M3).bind fun z M4=>bG o' M4 y z
  | .bl false=>.ok (.bl false) M3
  | _=>.bad:=rfl
@[simp] theorem HG {a b:E}:ev Φ (.and a b) Z M=(ev Φ a Z M).bind fun x M1=>match x with | .bl true=>(ev Φ b Z M1) | .bl false=>.ok (.bl false) M1 | _=>.bad:=rfl
@[simp] theorem La {a b:E}:ev Φ (.or a b) Z M=(ev Φ a Z M).bind fun x M1=>match x with | .bl true=>.ok (.bl true) M1 | .bl false=>(ev Φ b Z M1) | _=>.bad:=rfl
@[simp] theorem zQ {a:E}:ev Φ (.not a) Z M=(ev Φ a Z M).bind fun x M1=>match x with | .bl b=>.ok (.bl (!b)) M1 | _=>.bad:=rfl
@[simp] theorem zS {c a b:E}:ev Φ (.w9 c a b) Z M=(ev Φ c Z M).bind fun x M1=>match x with | .bl true=>ev Φ a Z M1 | .bl false=>ev Φ b Z M1 | _=>.bad:=rfl
@[simp] theorem lN {a b:E}:ev Φ (.idx a b) Z M=(ev Φ a Z M).bind fun x M1=>(ev Φ b Z M1).bind fun y M2=>mC M2 x y:=rfl
@[simp] theorem Ed {fz:Bool} {a:E} {lo hi:O}:ev Φ (.sl fz a lo hi) Z M=(ev Φ a Z M).bind fun x M1=>(CM Φ lo Z M1).bind fun l M2=>(CM Φ hi Z M2).bind fun h M3=>sl2 fz M3 x l h:=rfl
@[simp] theorem bC {f:Nat} {es:Es}:ev Φ (.call f es) Z M=(cG Φ es Z M).bind fun ds M1=>Φ.call f ds M1:=rfl
@[simp] theorem ev_isi {a:E} {t:Ty}:ev Φ (.uI a t) Z M=(ev Φ a Z M).bind fun x M1=>if yw M1 x then .ok (.bl (Hj M1 t x)) M1 else .bad:=rfl
@[simp] theorem oH {b:Bl} {fz:Bool} {es:Es}:ev Φ (.blt b fz es) Z M=(cG Φ es Z M).bind fun ds M1=>wO b fz M1 ds:=rfl
@[simp] theorem gA {m:Mt} {fz:Bool} {a:E} {es:Es}:ev Φ (.aW m fz a es) Z M=(ev Φ a Z M).bind fun x M1=>if nU m M1 x then (cG Φ es Z M1).bind fun ds M2=>gM m fz M2 x ds else .bad:=rfl
@[simp] theorem uW {fz:Bool} {caps tg:List Nat} {elt:E} {it:Src} {cond:O}:ev Φ (.comp fz caps tg elt it cond) Z M=(bZ Φ it Z M).bind fun p M1 =>
   ((bh (mE Φ cond) (ev Φ elt) tg (aI M1 p.1) p.2.1 (jv Z caps++List.replicate tg.length none) M1 []).fin (fU p.2.2 p.1)).bind fun ds M2=>b7 fz ds M2:=rfl
@[simp] theorem dc {a:E} {f:Str}:ev Φ (.fld a f) Z M=(ev Φ a Z M).bind fun x M1=>match x with
  | .ref n=>match M1[n]? with
   | some (.ins _ fs)=>match fs.lookup f with
    | some d=>.ok d M1
    | none=>.bad
   | _=>.bad
  | _=>.bad:=rfl
@[simp] theorem HC {c m:Nat} {nm:Str} {a:E} {es:Es}:ev Φ (.dm c m nm a es) Z M=(ev Φ a Z M).bind fun x M1=>match x with
  | .ref n=>match M1[n]? with
   | some (.ins c' fs)=>if decide (c'=c)&&(fs.lookup nm).isNone then (cG Φ es Z M1).bind fun ds M2=>Φ.call m (.ref n::ds) M2 else .bad
   | _=>.bad
  | _=>.bad:=rfl
@[simp] theorem HD {c i:Nat} {es:Es}:ev Φ (.new c i es) Z M=(cG Φ es Z M).bind fun ds M1=>(Φ.ini i (.ref M1.length::ds) (M1++[.ins c []])).bind fun r M2=>match r with
  | .aq=>.ok (.ref M1.length) M2
  | _=>.bad:=rfl
@[simp] theorem ev_mx {hi:Bool} {a b:E}:ev Φ (.mx hi a b) Z M=(ev Φ a Z M).bind fun x M1=>(ev Φ b Z M1).bind fun y M2=>match x,y with
  | .int i,.int j=>.ok (.int (if hi then (if j > i then j else i) else (if j<i then j else i))) M2
  | _,_=>.bad:=rfl
@[simp] theorem HF {fz:Bool} {a b:E}:ev Φ (.Cm fz a b) Z M=(ev Φ a Z M).bind fun x M1=>(ev Φ b Z M1).bind fun y M2=>match x,y with
  | .int i,.int j=>if mz i&&(mz j&&decide ((j-i).toNat<=line)) then b7 fz (cW i j) M2 else .bad
  | _,_=>.bad:=rfl
@[simp] theorem sr {f:F1} {a:E}:ev Φ (.ng f a) Z M=(ev Φ a Z M).bind fun x M1=>match se f x with
  | some d=>.ok d M1
  | none=>.bad:=rfl
@[simp] theorem zR {fz:Bool} {a:E}:ev Φ (.yS fz a) Z M=(ev Φ a Z M).bind fun x M1=>match x with
  | .int j=>if mz j then b7 fz (cW 0 j) M1 else .bad
  | _=>.bad:=rfl
@[simp] theorem K9 {fz:Bool} {a:E}:ev Φ (.rv fz a) Z M=(ev Φ a Z M).bind fun x M1=>match vw M1 x with
  | .lst ds=>b7 fz ds.reverse M1
  | _=>.bad:=rfl
@[simp] theorem MM {a:E}:ev Φ (.all1 a) Z M=(ev Φ a Z M).bind fun x M1=>match vw M1 x with
  | .lst ds=>match boolsOf ds with
   | some bs=>.ok (.bl (bs.all id)) M1
   | none=>.bad
  | _=>.bad:=rfl
@[simp] theorem aP:cG Φ .nil Z M=.ok [] M:=rfl
@[simp] theorem az {e:E} {es:Es}:cG Φ (.cons e es) Z M=(ev Φ e Z M).bind fun x M1=>(cG Φ es Z M1).bind fun xs M2=>.ok (x::xs) M2:=rfl
@[simp] theorem K5:CM Φ .none Z M=.ok none M:=rfl
@[simp] theorem zN {e:E}:CM Φ (.some e) Z M=(ev Φ e Z M).bind fun x M1=>match x with | .int i=>.ok (some i) M1 | _=>.bad:=rfl
@[simp] theorem zP:mE Φ .none Z M=.ok (.bl true) M:=rfl
@[simp] theorem K8 {e:E}:mE Φ (.some e) Z M=ev Φ e Z M:=rfl
@[simp] theorem K7 {a:E}:bZ Φ (.e a) Z M=(ev Φ a Z M).bind fun x M1=>match itemsOf M1 x with | some ds=>.ok (x,ds,wk M1 x) (walk M1 x) | none=>.bad:=rfl
@[simp] theorem CP {a:E}:bZ Φ (.cR a) Z M=(ev Φ a Z M).bind fun x M1=>match x with
  | .int j=>if mz j then .ok (.aq,cW 0 j,false) M1 else .bad
  | _=>.bad:=rfl
@[simp] theorem K6 {a b:E}:bZ Φ (.E8 a b) Z M=(ev Φ a Z M).bind fun x M1=>(ev Φ b Z M1).bind fun y M2=>match vq x,vq y with
  | some i,some j=>if mz i&&mz j then .ok (.aq,cW i j,false) M2 else .bad
  | _,_=>.bad:=rfl
@[simp] theorem MJ {a:E}:bZ Φ (.rev a) Z M=(ev Φ a Z M).bind fun x M1=>match uA x with
  | some ds=>.ok (.aq,ds.reverse,false) M1
  | none=>.bad:=rfl
@[simp] theorem zT {f:Nat} {es:Es} {d:Int}:ev Φ (.jL f es d) Z M=(cG Φ es Z M).bind fun ds M1=>Φ.call f (ds++[.int d]) M1:=rfl
@[simp] theorem MI {a b:E}:bZ Φ (.zip a b) Z M=(ev Φ a Z M).bind fun x M1=>(ev Φ b Z M1).bind fun y M2=>match CG x,CG y with
  | some ds,some es=>.ok (.aq,IL ds es,false) M2
  | _,_=>.bad:=rfl
@[simp] theorem ex_set {i:Nat} {e:E}:ex Φ (.set i e) Z M=(ev Φ e Z M).use Z fun x M1=>.ok (.nx (Z.set i (some x))) M1:=rfl
@[simp] theorem uU {a b e:E}:ex Φ (.mh a b e) Z M=(ev Φ e Z M).use Z fun x M1=>(ev Φ a Z M1).use Z fun y M2=>(ev Φ b Z M2).use Z fun z M3=>(mj M3 y z x).use Z fun _ M4=>.ok (.nx Z) M4:=rfl
@[simp] theorem oF {a:E} {f:Str} {e:E}:ex Φ (.bP a f e) Z M=(ev Φ e Z M).use Z fun x M1=>(ev Φ a Z M1).use Z fun y M2=>match y with
  | .ref n=>match M2[n]? with
   | some (.ins c fs)=>if decide (fs.length<1000) then .ok (.nx Z) (M2.set n (.ins c (bI f x fs))) else .bad
   | _=>.bad
  | _=>.bad:=rfl
@[simp] theorem CN:CO Φ .nil Z M=.ok () M:=rfl
@[simp] theorem zO {e:E} {es:Es}:CO Φ (.cons e es) Z M=(ev Φ e Z M).bind fun x M1=>if bT x then CO Φ es Z M1 else .bad:=rfl
@[simp] theorem zM {c:Nat} {es:Es}:ex Φ (.raise c es) Z M=(CO Φ es Z M).use Z fun _ M1=>.ok (.xc c Z) M1:=rfl
@[simp] theorem ex_try {b:Ss} {hs:Hs} {els:Ss}:ex Φ (.try b hs els) Z M=(exs Φ b Z M).bind fun o M1=>match o with
  | .nx Z1=>exs Φ els Z1 M1
  | .xc c Z1=>IG Φ hs c Z1 M1
  | o=>.ok o M1:=rfl
@[simp] theorem MD {c:Nat}:IG Φ .nil c Z M=.bad:=rfl
@[simp] theorem K2 {cs:List Nat} {b:Ss} {hs:Hs} {c:Nat}:IG Φ (.cons cs b hs) c Z M=if cs.any (fun d=>Φ.sub c d) then exs Φ b Z M else IG Φ hs c Z M:=rfl
@[simp] theorem sj {tg:List Nat} {e:E}:ex Φ (.tu tg e) Z M=(ev Φ e Z M).use Z fun x M1=>match sets tg M1 x Z with | some Z1=>.ok (.nx Z1) M1 | none=>.bad:=rfl
@[simp] theorem K3 {e:E}:ex Φ (.ex e) Z M=(ev Φ e Z M).use Z fun _ M1=>.ok (.nx Z) M1:=rfl
@[simp] theorem ex_ret {e:E}:ex Φ (.ret e) Z M=(ev Φ e Z M).use Z fun x M1=>.ok (.rt x) M1:=rfl
@[simp] theorem ME:ex Φ .Fb Z M=.ok (.rt .aq) M:=rfl
@[simp] theorem cF {c:E} {a b:Ss}:ex Φ (.ifs c a b) Z M=(ev Φ c Z M).use Z fun t M1=>match t with | .bl true=>exs Φ a Z M1 | .bl false=>exs Φ b Z M1 | _=>.bad:=rfl
@[simp] theorem HB {tg:List Nat} {it:Src} {b:Ss}:ex Φ (.for tg it b) Z M=(bZ Φ it Z M).use Z fun p M1=>(aG (exs Φ b) tg (aI M1 p.1) p.2.1 Z M1).fin (fU p.2.2 p.1):=rfl
@[simp] theorem qA {c:E} {b:Ss}:ex Φ (.while c b) Z M=bw (ev Φ c) (exs Φ b) Φ.turns Z M:=rfl
@[simp] theorem ex_brk:ex Φ .brk Z M=.ok (.bk Z) M:=rfl
@[simp] theorem MG:ex Φ .cont Z M=.ok (.ct Z) M:=rfl
@[simp] theorem MF:ex Φ .pass Z M=.ok (.nx Z) M:=rfl
@[simp] theorem MB:exs Φ .nil Z M=.ok (.nx Z) M:=rfl
@[simp] theorem eK {s:S} {ss:Ss}:exs Φ (.cons s ss) Z M=(ex Φ s Z M).bind fun o M1=>match o with | .nx Z1=>exs Φ ss Z1 M1 | o=>.ok o M1:=rfl
end
@[simp] theorem fin_ok {α:Type} {a:α} {M:MH} {f:MH->MH}:(R.ok a M).fin f=.ok a (f M):=rfl
@[simp] theorem Mz {α:Type} {c:Nat} {M:MH} {f:MH->MH}:(R.exc c M:R α).fin f=.exc c (f M):=rfl
@[simp] theorem MA {α:Type} {f:MH->MH}:(R.bad:R α).fin f=.bad:=rfl
@[simp] theorem unwk_f {d:D} {M:MH}:fU false d M=M:=by cases d <;> rfl
@[simp] theorem zJ {α:Type} {x:R α} {d:D}:x.fin (fU false d)=x:=by cases x <;> simp
@[simp] theorem wk_tup {M:MH} {ds:List D}:wk M (.tup ds)=false:=rfl
@[simp] theorem wk_lst {M:MH} {ds:List D}:wk M (.lst ds)=false:=rfl
@[simp] theorem wk_str {M:MH} {x:Str}:wk M (.str x)=false:=rfl
@[simp] theorem IP {M:MH} {ds:List D}:walk M (.tup ds)=M:=rfl
@[simp] theorem IS {M:MH} {ds:List D}:walk M (.lst ds)=M:=rfl
@[simp] theorem IQ {M:MH} {x:Str}:walk M (.str x)=M:=rfl
theorem j9 {α:Type} {l:List α} {n:Nat} {a b:α} (h:l[n]? = some a):(l.set n b)[n]? = some b:=by
 obtain ⟨q,_⟩:=List.getElem?_eq_some_iff.mp h
 exact List.getElem?_set_self q
theorem eN {P:nB} {k i:Nat} {ds:List D} {M:MH} {fn:Fn} (h:P.fn i=some fn):(aa P (k+1)).call i ds M=mq (aa P k) fn ds M:=by simp only [aa,h]
@[simp] theorem sO {P:nB} {k:Nat}:(aa P k).glob=P.glob:=by cases k <;> rfl
@[simp] theorem jK {P:nB} {k:Nat}:(aa P k).turns=P.turns:=by cases k <;> rfl
@[simp] theorem HN {α:Type} {a:α} {l:List α}:dg (a::l) (some 1) none=l:=by
 simp [dg,six]
@[simp] theorem dh {α:Type} {a:α} {l:List α}:cQ (a::l) 0=some a:=by
 have:(0:Int)<((a::l).length:Int):=by simp only [List.length_cons];omega
 simp only [cQ,wZ,if_pos (Int.le_refl 0),if_pos this];rfl
@[simp] theorem lW {α:Type} {a b:α} {l:List α}:cQ (a::b::l) 1=some b:=by
 have:(1:Int)<((a::b::l).length:Int):=by simp only [List.length_cons];omega
 simp only [cQ,wZ,if_pos (show (0:Int)<=1 by decide),if_pos this];rfl
@[simp] theorem vp {α:Type} {a b c:α} {l:List α}:cQ (a::b::c::l) 2=some c:=by
 have:(2:Int)<((a::b::c::l).length:Int):=by simp only [List.length_cons];omega
 simp only [cQ,wZ,if_pos (show (0:Int)<=2 by decide),if_pos this];rfl
@[simp] theorem LF {α:Type} {a b c d:α} {l:List α}:cQ (a::b::c::d::l) 3=some d:=by
 have:(3:Int)<((a::b::c::d::l).length:Int):=by simp only [List.length_cons];omega
 simp only [cQ,wZ,if_pos (show (0:Int)<=3 by decide),if_pos this];rfl
@[simp] theorem Eh:aK D.aq D.aq=true:=by simp only [aK]
@[simp] theorem qE {x:Int} {y:Int}:aK (D.int x) (D.int y)=decide (x=y):=by simp only [aK]
@[simp] theorem Eg {x:Str} {y:Str}:aK (D.str x) (D.str y)=decide (x=y):=by simp only [aK]
@[simp] theorem qC {x:List D} {y:List D}:aK (D.tup x) (D.tup y)=dP x y:=by simp only [aK]
@[simp] theorem dD {x:List D} {y:List D}:aK (D.lst x) (D.lst y)=dP x y:=by simp only [aK]
@[simp] theorem MN:dP [] []=true:=by simp only [dP]
@[simp] theorem CS {a:D} {l:List D}:dP (a::l) []=false:=by simp only [dP]
@[simp] theorem CT {a b:D} {l m:List D}:dP (a::l) (b::m)=(aK a b&&dP l m):=by simp only [dP]
section
variable {Φ:aS} {Z Z':Sg} {M M1 M2:MH} {e c:E} {x:D} {ss a b:Ss} {i:Nat}
theorem av (h:ev Φ e Z M=.ok x M1):exs Φ (.cons (.set i e) ss) Z M=exs Φ ss (Z.set i (some x)) M1:=by simp [h]
theorem bx (h:ev Φ e Z M=.ok x M1):exs Φ (.cons (.ex e) ss) Z M=exs Φ ss Z M1:=by simp [h]
theorem ck (h:ev Φ e Z M=.ok x M1):exs Φ (.cons (.ret e) ss) Z M=.ok (.rt x) M1:=by simp [h]
theorem cV (h:ev Φ c Z M=.ok (.bl false) M1):exs Φ (.cons (.ifs c a .nil) ss) Z M=exs Φ ss Z M1:=by simp [h]
theorem cD (h:ev Φ c Z M=.ok (.bl false) M1) (hb:exs Φ b Z M1=.ok (.nx Z') M2):exs Φ (.cons (.ifs c a b) ss) Z M=exs Φ ss Z' M2:=by simp [h,hb]
theorem iK (h:ev Φ c Z M=.ok (.bl true) M1) (ha:exs Φ a Z M1=.ok (.nx Z') M2):exs Φ (.cons (.ifs c a b) ss) Z M=exs Φ ss Z' M2:=by simp [h,ha]
theorem ua (h:ev Φ c Z M=.ok (.bl true) M1) (ha:exs Φ a Z M1=.ok (.rt x) M2):exs Φ (.cons (.ifs c a b) ss) Z M=.ok (.rt x) M2:=by simp [h,ha]
theorem iL {tg:List Nat} {it:Src} {d:D} {ds:List D} (h:bZ Φ it Z M=.ok (d,ds,false) M1) (hl:aG (exs Φ b) tg (aI M1 d) ds Z M1=.ok (.nx Z') M2):exs Φ (.cons (.for tg it b) ss) Z M=exs Φ ss Z' M2:=by simp [h,hl]
theorem b6 {P:nB} {k f:Nat} {fn:Fn} {ds:List D} {d:D} {M':MH} {r:R D} (hf:P.fn f=some fn) (hn:ds.length=fn.np) (hb:exs (aa P k) fn.body (ds.map some++List.replicate (fn.ns-fn.np) none) M=.ok (.rt d) M') (hr:dZ fn.keep M d M'=r):(aa P (k+1)).call f ds M=r:=by
 rw [eN hf]
 have h1:ds.length+fn.lU.length-fn.np=fn.lU.length:=by omega
 simp only [mq,h1,List.drop_length,List.append_nil,hb]
 rw [if_pos (by simp;omega)]
 exact hr
theorem pV {M:MH} {d:D} {M':MH} (h:nr M.length d=true) (ht:M'.take M.length=M):dZ false M d M'=.ok d M:=by
 unfold dZ;rw [if_pos ⟨rfl,ht⟩,if_pos h]
end
theorem iM {n:Nat} (h:n<=1000000):mz (n:Int)=true:=by simp only [mz,decide_eq_true_eq];omega
@[simp] theorem L6 {M:MH} {ds:List D}:yw M (.tup ds)=true:=rfl
@[simp] theorem Ma {M:MH} {ds:List D}:yw M (.lst ds)=true:=rfl
@[simp] theorem Mb {M:MH} {i:Int}:yw M (.int i)=true:=rfl
@[simp] theorem L7 {M:MH} {x:Str}:yw M (.str x)=true:=rfl
@[simp] theorem okT_bl {M:MH} {b:Bool}:yw M (.bl b)=true:=rfl
@[simp] theorem L8 {M:MH}:yw M .aq=true:=rfl
end Fg
end
section
namespace Fg
open PySem L2
structure Bd where
 K:W.Frag
 dk:Addr->List (Key×V)->Prop
 cls:Nat->Option Addr
 exc:Nat->Value->Prop
 xad:Nat->Option Addr
noncomputable def KTup (K:W.Frag) (a:Addr) (xs:List V):Prop :=
 ∃ (o:Obj) (its:Array Value) (n:Nat), K.lookup a=some o/\o.cls=.type "tuple"/\o.data=.seq its n/\its.size<=sizeLine/\Vals xs its.toList
noncomputable def KLst (K:W.Frag) (a:Addr) (xs:List V):Prop :=
 ∃ (o:Obj) (its:Array Value) (n:Nat), K.lookup a=some o/\o.cls=.type "list"/\o.dict=none/\o.data=.seq its n/\its.size<=sizeLine/\Vals xs its.toList
noncomputable def FzT (B:Bd) (F:Addr->Prop) (H:Hp) (a:Addr) (xs:List V):Prop:=(F a/\Rd H a (.tup xs))\/KTup B.K a xs
noncomputable def FzL (B:Bd) (F:Addr->Prop) (H:Hp) (a:Addr) (xs:List V):Prop:=(F a/\Rd H a (.lst xs))\/KLst B.K a xs
noncomputable def FzD (B:Bd) (F:Addr->Prop) (H:Hp) (a:Addr) (kvs:List (Key×V)):Prop:=(F a/\Rd H a (.dK kvs))\/B.dk a kvs
theorem FzT.sq {B:Bd} {F:Addr->Prop} {H:Hp} {a:Addr} {xs:List V} (h:FzT B F H a xs):i7 B.K H a xs:=by
 rcases h with ⟨_,h⟩ | h
 ·exact .inl h
 ·exact .inr h
theorem FzL.sq {B:Bd} {F:Addr->Prop} {H:Hp} {a:Addr} {xs:List V} (h:FzL B F H a xs):fT B.K H a xs:=by
 rcases h with ⟨_,h⟩ | h
 ·exact .inl h
 ·exact .inr h
mutual
noncomputable def RD (B:Bd) (F:Addr->Prop) (ρ:List Addr) (H:Hp):D->V->Prop
 | .aq,v=>v=.aq
 | .bl b,v=>v=.bl b
 | .int i,v=>v=.int i
 | .str x,v=>v=.str x
 | .tup ds,v=>∃ a vs,v=.ref a/\FzT B F H a vs/\ak B F ρ H ds vs
 | .lst ds,v=>∃ a vs,v=.ref a/\FzL B F H a vs/\ak B F ρ H ds vs
 | .dct ks ds,v=>∃ a kvs,v=.ref a/\FzD B F H a kvs/\kvs.map (·.1)=ks/\ak B F ρ H ds (kvs.map (·.2))
 | .ref n,v=>∃ a,ρ[n]? = some a/\v=.ref a
noncomputable def ak (B:Bd) (F:Addr->Prop) (ρ:List Addr) (H:Hp):List D->List V->Prop
 | [],vs=>vs=[]
 | d::ds,vs=>∃ v ws,vs=v::ws/\RD B F ρ H d v/\ak B F ρ H ds ws
end
structure Ext0 (F:Addr->Prop) (ρ:List Addr) (H:Hp) (F':Addr->Prop) (ρ':List Addr) (H':Hp):Prop where
 s:∀ a∈ρ,¬ F a
 f:∀ a,F a->F' a
 h:∀ a,H a≠none->a∉ρ->H' a=H a
 r:ρ <+: ρ'
 n:∀ a∈ρ',a∈ρ\/H a=none
 g:∀ a,F' a->F a\/(H a=none\/a∈ρ)
structure qR (F:Addr->Prop) (ρ:List Addr) (H:Hp) (F':Addr->Prop) (ρ':List Addr) (H':Hp):Prop where
 f:∀ a,F a->F' a
 k:∀ a,F a->H a≠none->H' a=H a
 r:ρ <+: ρ'
theorem Ext0.K4 {F F':Addr->Prop} {ρ ρ':List Addr} {H H':Hp} (e:Ext0 F ρ H F' ρ' H'):qR F ρ H F' ρ' H':=⟨e.f,fun a fa h=>e.h a h fun z=>e.s a z fa,e.r⟩
section
variable {B:Bd} {F F' F1:Addr->Prop} {ρ ρ' ρ1:List Addr} {H H' H1:Hp}
theorem DK {a:Addr} {u:HO} (h:Rd H a u):H a≠none:=by
 rcases h with h | ⟨o,h⟩ <;> rw [h] <;> simp
theorem qR.rd (e:qR F ρ H F' ρ' H') {a:Addr} {u:HO} (f:F a) (h:Rd H a u):Rd H' a u:=by
 have q:=e.k a f (DK h)
 rcases h with h | ⟨o,h⟩
 ·exact .inl (q.trans h)
 ·exact .inr ⟨o,q.trans h⟩
theorem qR.at (e:qR F ρ H F' ρ' H') {n:Nat} {a:Addr} (h:ρ[n]? = some a):ρ'[n]? = some a:=by
 obtain ⟨t,rfl⟩:=e.r
 have hn:n<ρ.length:=by
  rcases Nat.lt_or_ge n ρ.length with q | q
  ·exact q
  ·rw [List.getElem?_eq_none_iff.mpr q] at h;cases h
 rw [List.getElem?_append_left hn];exact h
mutual
theorem RD.bf (e:qR F ρ H F' ρ' H'):∀ (d:D) (v:V),RD B F ρ H d v->RD B F' ρ' H' d v
 | .aq,v,h=>h
 | .bl _,v,h=>h
 | .int _,v,h=>h
 | .str _,v,h=>h
 | .tup ds,v,h=>by
  simp only [RD] at h ⊢
  obtain ⟨a,vs,h1,h2,h3⟩:=h
  refine ⟨a,vs,h1,?_,ak.bf e ds vs h3⟩
  rcases h2 with ⟨f,r⟩ | h2
  ·exact .inl ⟨e.f a f,e.rd f r⟩
  ·exact .inr h2
 | .lst ds,v,h=>by
  simp only [RD] at h ⊢
  obtain ⟨a,vs,h1,h2,h3⟩:=h
  refine ⟨a,vs,h1,?_,ak.bf e ds vs h3⟩
  rcases h2 with ⟨f,r⟩ | h2
  ·exact .inl ⟨e.f a f,e.rd f r⟩
  ·exact .inr h2
 | .dct ks ds,v,h=>by
  simp only [RD] at h ⊢
  obtain ⟨a,kvs,h1,h2,h4,h3⟩:=h
  refine ⟨a,kvs,h1,?_,h4,ak.bf e ds _ h3⟩
  rcases h2 with ⟨f,r⟩ | h2
  ·exact .inl ⟨e.f a f,e.rd f r⟩
  ·exact .inr h2
 | .ref n,v,h=>by
  simp only [RD] at h ⊢
  obtain ⟨a,h1,h2⟩:=h
  exact ⟨a,e.at h1,h2⟩
theorem ak.bf (e:qR F ρ H F' ρ' H'):∀ (ds:List D) (vs:List V),ak B F ρ H ds vs->ak B F' ρ' H' ds vs
 | [],vs,h=>h
 | d::ds,vs,h=>by
  simp only [ak] at h ⊢
  obtain ⟨v,ws,h1,h2,h3⟩:=h
  exact ⟨v,ws,h1,RD.bf e d v h2,ak.bf e ds ws h3⟩
end
theorem Ext0.at (e:Ext0 F ρ H F' ρ' H') {n:Nat} {a:Addr} (h:ρ[n]? = some a):ρ'[n]? = some a:=e.K4.at h
theorem RD.bD (e:Ext0 F ρ H F' ρ' H') (d:D) (v:V) (h:RD B F ρ H d v):RD B F' ρ' H' d v:=RD.bf e.K4 d v h
theorem ak.bD (e:Ext0 F ρ H F' ρ' H') (ds:List D) (vs:List V) (h:ak B F ρ H ds vs):ak B F' ρ' H' ds vs:=ak.bf e.K4 ds vs h
structure Ext (F:Addr->Prop) (ρ:List Addr) (H:Hp) (F':Addr->Prop) (ρ':List Addr) (H':Hp):Prop extends Ext0 F ρ H F' ρ' H' where
 z:∀ a o u,H a=some (.gI o u)->H' a=some (.gI o u)
theorem RD.mono (e:Ext F ρ H F' ρ' H') (d:D) (v:V) (h:RD B F ρ H d v):RD B F' ρ' H' d v:=RD.bD e.toExt0 d v h
theorem ak.mono (e:Ext F ρ H F' ρ' H') (ds:List D) (vs:List V) (h:ak B F ρ H ds vs):ak B F' ρ' H' ds vs:=ak.bD e.toExt0 ds vs h
theorem Ext.trans (a:Ext F ρ H F1 ρ1 H1) (b:Ext F1 ρ1 H1 F' ρ' H'):Ext F ρ H F' ρ' H' where
 s:=a.s
 f:=fun x h=>b.f x (a.f x h)
 h:=fun x h1 h2=>by
  have q:=a.h x h1 h2
  have n1:x∉ρ1:=fun z=>(a.n x z).elim h2 h1
  exact (b.h x (by rw [q];exact h1) n1).trans q
 r:=List.IsPrefix.trans a.r b.r
 n:=fun x hx=>by
  rcases b.n x hx with q | q
  ·exact a.n x q
  ·by_cases hr:x∈ρ
   ·exact .inl hr
   ·refine .inr ?_
    cases hh:H x with
    | none=>rfl
    | some u =>
     have:=a.h x (by rw [hh];simp) hr
     rw [q,hh] at this;cases this
 g:=fun x hx=>by
  rcases b.g x hx with q | q | q
  ·exact a.g x q
  ·by_cases hr:x∈ρ
   ·exact .inr (.inr hr)
   ·refine .inr (.inl ?_)
    cases hh:H x with
    | none=>rfl
    | some u =>
     have:=a.h x (by rw [hh];simp) hr
     rw [q,hh] at this;cases this
  ·rcases a.n x q with z | z
   ·exact .inr (.inr z)
   ·exact .inr (.inl z)
 z:=fun x o u h=>b.z x o u (a.z x o u h)
theorem Ext.refl (s:∀ a∈ρ,¬ F a):Ext F ρ H F ρ H:=⟨⟨s,fun _ h=>h,fun _ _ _=>rfl,List.prefix_refl _,fun _ h=>.inl h,fun _ h=>.inl h⟩,fun _ _ _ h=>h⟩
end
noncomputable def MR (B:Bd) (F:Addr->Prop) (ρ:List Addr) (H:Hp):MO->Addr->Prop
 | .lst ds,a=>∃ vs,H a=some (.lst vs)/\ak B F ρ H ds vs
 | .dct kvs,a=>∃ kws,H a=some (.dK kws)/\kws.map (·.1)=kvs.map (·.1)/\ak B F ρ H (kvs.map (·.2)) (kws.map (·.2))
 | .o7 kvs,a=>∃ o kws,H a=some (.gI o (.dK kws))/\kws.map (·.1)=kvs.map (·.1)/\ak B F ρ H (kvs.map (·.2)) (kws.map (·.2))
 | .ins c fs,a=>∃ C dx fN,B.cls c=some C/\H a=some (.ins C dx fN)/\fN.map (·.1)=fs.map (·.1)/\ak B F ρ H (fs.map (·.2)) (fN.map (·.2))
theorem MR.bf {B:Bd} {F F':Addr->Prop} {ρ ρ':List Addr} {H H':Hp} (e:qR F ρ H F' ρ' H') {a:Addr} (ha:H' a=H a):∀ {o:MO},MR B F ρ H o a->MR B F' ρ' H' o a
 | .lst ds,⟨vs,h1,h2⟩=>⟨vs,ha.trans h1,ak.bf e _ _ h2⟩
 | .dct kvs,⟨kws,h1,h2,h3⟩=>⟨kws,ha.trans h1,h2,ak.bf e _ _ h3⟩
 | .o7 kvs,⟨o,kws,h1,h2,h3⟩=>⟨o,kws,ha.trans h1,h2,ak.bf e _ _ h3⟩
 | .ins c fs,⟨C,dx,fN,h0,h1,h2,h3⟩=>⟨C,dx,fN,h0,ha.trans h1,h2,ak.bf e _ _ h3⟩
theorem MR.bD {B:Bd} {F F':Addr->Prop} {ρ ρ':List Addr} {H H':Hp} (e:Ext0 F ρ H F' ρ' H') {a:Addr} (ha:H' a=H a) {o:MO} (h:MR B F ρ H o a):MR B F' ρ' H' o a:=h.bf e.K4 ha
theorem MR.mono {B:Bd} {F F':Addr->Prop} {ρ ρ':List Addr} {H H':Hp} (e:Ext F ρ H F' ρ' H') {a:Addr} (ha:H' a=H a) {o:MO} (h:MR B F ρ H o a):MR B F' ρ' H' o a:=h.bD e.toExt0 ha
theorem MR.ne {B:Bd} {F:Addr->Prop} {ρ:List Addr} {H:Hp} {a:Addr}:∀ {o:MO},MR B F ρ H o a->H a≠none
 | .lst ds,⟨vs,h1,h2⟩=>by rw [h1];simp
 | .dct kvs,⟨kws,h1,_⟩=>by rw [h1];simp
 | .o7 kvs,⟨o,kws,h1,_⟩=>by rw [h1];simp
 | .ins c fs,⟨C,dx,fN,_,h1,_⟩=>by rw [h1];simp
structure SR (B:Bd) (F:Addr->Prop) (ρ:List Addr) (M:MH) (H:Hp):Prop where
 len:ρ.length=M.length
 nd:ρ.Nodup
 sep:∀ a∈ρ,¬ F a
 CH:∀ a,F a->H a≠none
 obj:∀ (n:Nat) (a:Addr) (o:MO),ρ[n]? = some a->M[n]? = some o->MR B F ρ H o a
section
variable {B:Bd} {F F' F1:Addr->Prop} {ρ ρ' ρ1:List Addr} {H H' H1:Hp} {M M':MH}
theorem SR.ne (S:SR B F ρ M H) {a:Addr} (h:a∈ρ):H a≠none:=by
 obtain ⟨n,hn,e⟩:=List.mem_iff_getElem.mp h
 have hm:n<M.length:=by rw [<- S.len];exact hn
 exact (S.obj n a M[n] (by rw [List.getElem?_eq_getElem hn,e]) (List.getElem?_eq_getElem hm)).ne
theorem SR.new (S:SR B F ρ M H) {p:Addr} (h:H p=none):p∉ρ/\¬ F p:=⟨fun z=>S.ne z h,fun z=>S.CH p z h⟩
theorem SR.refl (S:SR B F ρ M H):Ext F ρ H F ρ H:=Ext.refl S.sep
theorem SR.fz (S:SR B F ρ M H) {p:Addr} (h:H p=none) (o:HO):SR B (fun a=>F a\/a=p) ρ M (upd H p o)/\Ext F ρ H (fun a=>F a\/a=p) ρ (upd H p o):=by
 obtain ⟨np,nf⟩:=S.new h
 have e:Ext F ρ H (fun a=>F a\/a=p) ρ (upd H p o):=⟨⟨S.sep,fun a q=>.inl q,fun a q _=>ao (by rintro rfl;exact q h),List.prefix_refl _,fun a q=>.inl q,fun a q=>q.elim .inl fun z=>.inr (.inl (z ▸ h))⟩,fun b w u q=>by rw [ao (by rintro rfl;rw [h] at q;cases q)];exact q⟩
 refine ⟨⟨S.len,S.nd,fun a ha z=>?_,fun a z=>?_,fun n a u h1 h2=>?_⟩,e⟩
 ·rcases z with z | z
  ·exact S.sep a ha z
  ·subst z;exact np ha
 ·by_cases q:a=p
  ·subst q;rw [aA];simp
  ·rw [ao q]
   rcases z with z | z
   ·exact S.CH a z
   ·exact absurd z q
 ·have m:=S.obj n a u h1 h2
  exact m.mono e (ao (by rintro rfl;exact m.ne h))
theorem SR.lv (S:SR B F ρ M H) {p:Addr} (h:H p=none) {o:HO} {u:MO} (hu:MR B F (ρ++[p]) (upd H p o) u p):SR B F (ρ++[p]) (M++[u]) (upd H p o)/\Ext F ρ H F (ρ++[p]) (upd H p o):=by
 obtain ⟨np,nf⟩:=S.new h
 have e:Ext F ρ H F (ρ++[p]) (upd H p o):=⟨⟨S.sep,fun a q=>q,fun a q _=>ao (by rintro rfl;exact q h),List.prefix_append _ _,fun a q=>by
  rcases List.mem_append.mp q with q | q
  ·exact .inl q
  ·rw [List.mem_singleton.mp q];exact .inr h,fun _ q=>.inl q⟩,fun b w u q=>by rw [ao (by rintro rfl;rw [h] at q;cases q)];exact q⟩
 refine ⟨⟨by simp [S.len],?_,fun a ha z=>?_,fun a z=>?_,fun n a w h1 h2=>?_⟩,e⟩
 ·rw [List.nodup_append]
  refine ⟨S.nd,by simp,fun a ha b hb=>?_⟩
  rw [List.mem_singleton.mp hb]
  rintro rfl
  exact np ha
 ·rcases List.mem_append.mp ha with q | q
  ·exact S.sep a q z
  ·rw [List.mem_singleton.mp q] at z;exact nf z
 ·have q:a≠p:=by rintro rfl;exact nf z
  rw [ao q];exact S.CH a z
 ·by_cases hn:n<ρ.length
  ·rw [List.getElem?_append_left hn] at h1
   rw [List.getElem?_append_left (by rw [<- S.len];exact hn)] at h2
   have m:=S.obj n a w h1 h2
   exact m.mono e (ao (by rintro rfl;exact m.ne h))
  ·have hn':ρ.length<=n:=Nat.le_of_not_lt hn
   rw [List.getElem?_append_right hn'] at h1
   rw [List.getElem?_append_right (by rw [<- S.len];exact hn'),<- S.len] at h2
   cases k:n-ρ.length with
   | zero =>
    rw [k] at h1 h2
    cases h1;cases h2
    exact hu
   | succ j=>rw [k] at h1;simp at h1
theorem SR.jN (S:SR B F ρ M H) {n:Nat} {a:Addr} {o:HO} {u:MO} (hn:ρ[n]? = some a) (hu:MR B F ρ (upd H a o) u a):SR B F ρ (M.set n u) (upd H a o)/\Ext0 F ρ H F ρ (upd H a o):=by
 have ha:a∈ρ:=List.mem_of_getElem? hn
 have e:Ext0 F ρ H F ρ (upd H a o):=⟨S.sep,fun _ q=>q,fun b q nb=>ao (by rintro rfl;exact nb ha),List.prefix_refl _,fun _ q=>.inl q,fun _ q=>.inl q⟩
 refine ⟨⟨by simp [S.len],S.nd,S.sep,fun b z=>?_,fun m b w h1 h2=>?_⟩,e⟩
 ·have q:b≠a:=by rintro rfl;exact S.sep b ha z
  rw [ao q];exact S.CH b z
 ·by_cases q:m=n
  ·subst q
   rw [hn] at h1;cases h1
   rw [List.getElem?_set] at h2
   split at h2
   ·split at h2
    ·cases h2;exact hu
    ·cases h2
   ·rename_i z;exact absurd rfl z
  ·rw [List.getElem?_set_ne (Ne.symm q)] at h2
   have ne:b≠a:=by
    rintro rfl
    obtain ⟨m1,e1⟩:=List.getElem?_eq_some_iff.mp h1
    obtain ⟨m2,e2⟩:=List.getElem?_eq_some_iff.mp hn
    exact q ((List.getElem_inj S.nd).mp (e1.trans e2.symm))
   exact (S.obj m b w h1 h2).bD e (ao ne)
theorem SR.st (S:SR B F ρ M H) {n:Nat} {a:Addr} {o:HO} {u:MO} (hn:ρ[n]? = some a) (hz:∀ w v,H a≠some (.gI w v)) (hu:MR B F ρ (upd H a o) u a):SR B F ρ (M.set n u) (upd H a o)/\Ext F ρ H F ρ (upd H a o) :=
 ⟨(S.jN hn hu).1,⟨(S.jN hn hu).2,fun b w v q=>by rw [ao (by rintro rfl;exact hz w v q)];exact q⟩⟩
theorem Ext0.at_ (S:SR B F ρ M H) {n:Nat} {a:Addr} {o:HO} (hn:ρ[n]? = some a):Ext0 F ρ H F ρ (upd H a o) :=
 ⟨S.sep,fun _ q=>q,fun b q nb=>ao (by rintro rfl;exact nb (List.mem_of_getElem? hn)),List.prefix_refl _,fun _ q=>.inl q,fun _ q=>.inl q⟩
theorem qR.side {D:Addr} (hF:¬ F D) (o:HO):qR F ρ H F ρ (upd H D o):=⟨fun _ h=>h,fun a fa _=>ao (by rintro rfl;exact hF fa),List.prefix_refl _⟩
theorem SR.side (S:SR B F ρ M H) {D:Addr} (hD:D∉ρ) (hF:¬ F D) (o:HO):SR B F ρ M (upd H D o) :=
 ⟨S.len,S.nd,S.sep,fun a fa=>by rw [ao (by rintro rfl;exact hF fa)];exact S.CH a fa,fun n a w h1 h2=>(S.obj n a w h1 h2).bf (qR.side hF o) (ao (by rintro rfl;exact hD (List.mem_of_getElem? h1)))⟩
theorem SR.take (S:SR B F ρ M H) {D:Addr} (hD:D∉ρ) (hn:H D≠none):SR B (fun a=>F a\/a=D) ρ M H :=
 ⟨S.len,S.nd,fun a ha z=>z.elim (S.sep a ha) fun e=>hD (e ▸ ha),fun a z=>z.elim (S.CH a) fun e=>e ▸ hn,fun n a w h1 h2=>(S.obj n a w h1 h2).bf ⟨fun _ h=>.inl h,fun _ _ _=>rfl,List.prefix_refl _⟩ rfl⟩
theorem SR.hold (S:SR B F ρ M H) {D:Addr} {u:MO} (hD:D∉ρ) (hF:¬ F D) (hu:MR B F (ρ++[D]) H u D):SR B F (ρ++[D]) (M++[u]) H:=by
 refine ⟨by simp [S.len],?_,fun a ha z=>?_,S.CH,fun n a w h1 h2=>?_⟩
 ·rw [List.nodup_append]
  refine ⟨S.nd,by simp,fun a ha b hb=>?_⟩
  rw [List.mem_singleton.mp hb]
  rintro rfl
  exact hD ha
 ·rcases List.mem_append.mp ha with q | q
  ·exact S.sep a q z
  ·rw [List.mem_singleton.mp q] at z;exact hF z
 ·by_cases hn:n<ρ.length
  ·rw [List.getElem?_append_left hn] at h1
   rw [List.getElem?_append_left (by rw [<- S.len];exact hn)] at h2
   exact (S.obj n a w h1 h2).bf ⟨fun _ h=>h,fun _ _ _=>rfl,List.prefix_append _ _⟩ rfl
  ·have hn':ρ.length<=n:=Nat.le_of_not_lt hn
   rw [List.getElem?_append_right hn'] at h1
   rw [List.getElem?_append_right (by rw [<- S.len];exact hn'),<- S.len] at h2
   cases k:n-ρ.length with
   | zero =>
    rw [k] at h1 h2
    cases h1;cases h2
    exact hu
   | succ j=>rw [k] at h1;simp at h1
theorem SR.wk (S:SR B F ρ M H) {n:Nat} {a:Addr} {kvs:List (Ky×D)} {kws:List (Key×V)} (o:Obj) (hn:ρ[n]? = some a) (hM:M[n]? = some (.dct kvs)) (hH:H a=some (.dK kws)) :
  SR B F ρ (M.set n (.o7 kvs)) (upd H a (.gI o (.dK kws)))/\Ext F ρ H F ρ (upd H a (.gI o (.dK kws))):=by
 obtain ⟨kws',h1,h2,h3⟩:=S.obj n a _ hn hM
 rw [hH] at h1;cases h1
 exact S.st (o:=.gI o (.dK kws)) (u:=.o7 kvs) hn (fun w v q=>by rw [hH] at q;cases q) ⟨o,kws,aA,h2,ak.bD (Ext0.at_ S hn) _ _ h3⟩
theorem SR.uw (S:SR B F ρ M H) {n:Nat} {a:Addr} {kvs:List (Ky×D)} (hn:ρ[n]? = some a) (hM:M[n]? = some (.o7 kvs)):∃ o kws,H a=some (.gI o (.dK kws)) /\
  SR B F ρ (M.set n (.dct kvs)) (upd H a (.dK kws)):=by
 obtain ⟨o,kws,h1,h2,h3⟩:=S.obj n a _ hn hM
 exact ⟨o,kws,h1,(S.jN (o:=.dK kws) (u:=.dct kvs) hn ⟨kws,aA,h2,ak.bD (Ext0.at_ S hn) _ _ h3⟩).1⟩
theorem Ext.thaw (e:Ext F ρ H F' ρ' H') {a:Addr} {o:HO} (ha:a∈ρ') (hn:∀ w v,H a≠some (.gI w v)) (hF:∀ b∈ρ',¬ F' b):Ext F ρ H F' ρ' (upd H' a o) :=
 ⟨⟨e.s,e.f,fun b q nb=>by
  by_cases hb:b=a
  ·subst hb
   rcases e.n b ha with z | z
   ·exact absurd z nb
   ·exact absurd z q
  ·rw [ao hb];exact e.h b q nb,e.r,e.n,e.g⟩,fun b w v q=>by rw [ao (by rintro rfl;exact hn w v q)];exact e.z b w v q⟩
end
section
variable {B:Bd} {F F' F1:Addr->Prop} {ρ ρ' ρ1:List Addr} {H H' H1:Hp} {M M':MH}
theorem ak.length:∀ {ds:List D} {vs:List V},ak B F ρ H ds vs->ds.length=vs.length
 | [],vs,h=>by simp only [ak] at h;subst h;rfl
 | d::ds,vs,h=>by
  simp only [ak] at h
  obtain ⟨v,ws,rfl,_,h3⟩:=h
  simp [ak.length h3]
theorem ak.cons {d:D} {v:V} {ds:List D} {vs:List V} (h:RD B F ρ H d v) (t:ak B F ρ H ds vs):ak B F ρ H (d::ds) (v::vs):=by
 simp only [ak];exact ⟨v,vs,rfl,h,t⟩
theorem ak.nil:ak B F ρ H [] []:=by simp only [ak]
theorem ak.append:∀ {ds es:List D} {vs ws:List V},ak B F ρ H ds vs->ak B F ρ H es ws->ak B F ρ H (ds++es) (vs++ws)
 | [],es,vs,ws,h,t=>by simp only [ak] at h;subst h;exact t
 | d::ds,es,vs,ws,h,t=>by
  simp only [ak] at h
  obtain ⟨v,us,rfl,h2,h3⟩:=h
  exact ak.cons h2 (ak.append h3 t)
theorem ak.get:∀ {ds:List D} {vs:List V} {i:Nat} {d:D},ak B F ρ H ds vs->ds[i]? = some d->∃ v,vs[i]? = some v/\RD B F ρ H d v
 | [],vs,i,d,h,e=>by simp at e
 | d::ds,vs,i,d',h,e=>by
  simp only [ak] at h
  obtain ⟨v,ws,rfl,h2,h3⟩:=h
  cases i with
  | zero=>simp at e;subst e;exact ⟨v,rfl,h2⟩
  | succ i=>simp at e;simpa using ak.get (i:=i) h3 e
theorem ak.take:∀ {ds:List D} {vs:List V} (n:Nat),ak B F ρ H ds vs->ak B F ρ H (ds.take n) (vs.take n)
 | [],vs,n,h=>by simp only [ak] at h;subst h;simp [ak]
 | d::ds,vs,n,h=>by
  simp only [ak] at h
  obtain ⟨v,ws,rfl,h2,h3⟩:=h
  cases n with
  | zero=>simp [ak]
  | succ n=>simp only [List.take_succ_cons];exact ak.cons h2 (ak.take n h3)
theorem ak.drop:∀ {ds:List D} {vs:List V} (n:Nat),ak B F ρ H ds vs->ak B F ρ H (ds.drop n) (vs.drop n)
 | [],vs,n,h=>by simp only [ak] at h;subst h;simp [ak]
 | d::ds,vs,n,h=>by
  cases n with
  | zero=>exact h
  | succ n =>
   simp only [ak] at h
   obtain ⟨v,ws,rfl,h2,h3⟩:=h
   simp only [List.drop_succ_cons];exact ak.drop n h3
theorem ak.set:∀ {ds:List D} {vs:List V} {d:D} {v:V} (i:Nat),ak B F ρ H ds vs->RD B F ρ H d v->ak B F ρ H (ds.set i d) (vs.set i v)
 | [],vs,d,v,i,h,q=>by simp only [ak] at h;subst h;simp [ak]
 | e::ds,vs,d,v,i,h,q=>by
  simp only [ak] at h
  obtain ⟨u,ws,rfl,h2,h3⟩:=h
  cases i with
  | zero=>simp only [List.set_cons_zero];exact ak.cons q h3
  | succ i=>simp only [List.set_cons_succ];exact ak.cons h2 (ak.set i h3 q)
mutual
theorem RD.nr:∀ {d:D} {v:V},RD B F ρ H d v->nr ρ.length d=true
 | .aq,v,h=>by simp [Fg.nr]
 | .bl _,v,h=>by simp [Fg.nr]
 | .int _,v,h=>by simp [Fg.nr]
 | .str _,v,h=>by simp [Fg.nr]
 | .tup ds,v,h=>by simp only [RD] at h;obtain ⟨a,vs,h1,h2,h3⟩:=h;simp only [Fg.nr];exact ak.nr h3
 | .lst ds,v,h=>by simp only [RD] at h;obtain ⟨a,vs,h1,h2,h3⟩:=h;simp only [Fg.nr];exact ak.nr h3
 | .dct ks ds,v,h=>by simp only [RD] at h;obtain ⟨a,vs,h1,h2,_,h3⟩:=h;simp only [Fg.nr];exact ak.nr h3
 | .ref n,v,h=>by
  simp only [RD] at h;obtain ⟨a,h1,h2⟩:=h;simp only [Fg.nr]
  obtain ⟨q,_⟩:=List.getElem?_eq_some_iff.mp h1
  exact decide_eq_true q
theorem ak.nr:∀ {ds:List D} {vs:List V},ak B F ρ H ds vs->iN ρ.length ds=true
 | [],vs,h=>by simp [iN]
 | d::ds,vs,h=>by
  simp only [ak] at h
  obtain ⟨v,ws,rfl,h2,h3⟩:=h
  simp only [iN,RD.nr h2,ak.nr h3,Bool.and_self]
end
mutual
theorem RD.cut (hp:ρ <+: ρ'):∀ {d:D} {v:V},Fg.nr ρ.length d=true->RD B F ρ' H d v->RD B F ρ H d v
 | .aq,v,_,h=>h
 | .bl _,v,_,h=>h
 | .int _,v,_,h=>h
 | .str _,v,_,h=>h
 | .tup ds,v,q,h=>by
  simp only [Fg.nr] at q;simp only [RD] at h ⊢
  obtain ⟨a,vs,h1,h2,h3⟩:=h
  exact ⟨a,vs,h1,h2,ak.cut hp q h3⟩
 | .lst ds,v,q,h=>by
  simp only [Fg.nr] at q;simp only [RD] at h ⊢
  obtain ⟨a,vs,h1,h2,h3⟩:=h
  exact ⟨a,vs,h1,h2,ak.cut hp q h3⟩
 | .dct ks ds,v,q,h=>by
  simp only [Fg.nr] at q;simp only [RD] at h ⊢
  obtain ⟨a,vs,h1,h2,h4,h3⟩:=h
  exact ⟨a,vs,h1,h2,h4,ak.cut hp q h3⟩
 | .ref n,v,q,h=>by
  simp only [Fg.nr] at q;simp only [RD] at h ⊢
  obtain ⟨a,h1,h2⟩:=h
  obtain ⟨t,rfl⟩:=hp
  rw [List.getElem?_append_left (of_decide_eq_true q)] at h1
  exact ⟨a,h1,h2⟩
theorem ak.cut (hp:ρ <+: ρ'):∀ {ds:List D} {vs:List V},iN ρ.length ds=true->ak B F ρ' H ds vs->ak B F ρ H ds vs
 | [],vs,_,h=>h
 | d::ds,vs,q,h=>by
  simp only [iN,Bool.and_eq_true] at q;simp only [ak] at h ⊢
  obtain ⟨v,ws,rfl,h2,h3⟩:=h
  exact ⟨v,ws,rfl,RD.cut hp q.1 h2,ak.cut hp q.2 h3⟩
end
theorem MR.cut (hp:ρ <+: ρ') {a:Addr} {F0:Addr->Prop} {H0:Hp} {a0:Addr}:∀ {o:MO},MR B F0 ρ H0 o a0->MR B F ρ' H o a->MR B F ρ H o a
 | .lst ds,⟨_,_,k⟩,⟨vs,h1,h2⟩=>⟨vs,h1,ak.cut hp (ak.nr k) h2⟩
 | .dct kvs,⟨_,_,_,k⟩,⟨kws,h1,h2,h3⟩=>⟨kws,h1,h2,ak.cut hp (ak.nr k) h3⟩
 | .o7 kvs,⟨_,_,_,_,k⟩,⟨o,kws,h1,h2,h3⟩=>⟨o,kws,h1,h2,ak.cut hp (ak.nr k) h3⟩
 | .ins c fs,⟨_,_,_,_,_,_,k⟩,⟨C,dx,fN,h0,h1,h2,h3⟩=>⟨C,dx,fN,h0,h1,h2,ak.cut hp (ak.nr k) h3⟩
theorem SR.cut (S:SR B F ρ M H) (S':SR B F' ρ' M' H') (e:Ext F ρ H F' ρ' H') (hm:M'.take M.length=M):SR B F' ρ M H' where
 len:=S.len
 nd:=S.nd
 sep:=fun a ha=>S'.sep a (e.r.subset ha)
 CH:=S'.CH
 obj:=fun n a o h1 h2=>by
  have m':M'[n]? = some o:=by
   rw [<- hm] at h2
   rw [List.getElem?_take] at h2
   split at h2
   ·exact h2
   ·cases h2
  exact MR.cut e.r (S.obj n a o h1 h2) (S'.obj n a o (e.at h1) m')
theorem Ext.cut (e:Ext F ρ H F' ρ' H'):Ext F ρ H F' ρ H':=⟨⟨e.s,e.f,e.h,List.prefix_refl _,fun _ h=>.inl h,e.g⟩,e.z⟩
end
end Fg
end
section
namespace Fg
open PySem L2
noncomputable def AF (th:Addr->Prop) (H H':Hp):Prop:=H'=H\/∃ a o kvs,th a/\H a=some (.gI o (.dK kvs))/\H'=upd H a (.dK kvs)
noncomputable abbrev XS:=Value->Option Addr->St->Hp->Prop
structure Gx where
 e:XS
 th:Addr->Prop
 cl:∀ cv x Z H H',AF th H H'->e cv x Z H'->e cv x Z H
noncomputable def aj {α β:Type} (rel:(Addr->Prop)->List Addr->Hp->α->β->Prop) (B:Bd) (r:R α) (F:Addr->Prop) (ρ:List Addr) (H:Hp) (Q:β->Hp->Prop) (E:XK):Prop :=
 match r with
 | .ok d M'=>∀ F' ρ' H' v,Ext F ρ H F' ρ' H'->SR B F' ρ' M' H'->rel F' ρ' H' d v->Q v H'
 | .exc c M'=>∀ F' ρ' H' cv x,Ext F ρ H F' ρ' H'->SR B F' ρ' M' H'->B.exc c cv->E cv x H'
 | .bad=>False
noncomputable abbrev Post (B:Bd):=aj (RD B) B
noncomputable abbrev LK (B:Bd):=aj (ak B) B
section
variable {B:Bd} {F F' F1:Addr->Prop} {ρ ρ' ρ1:List Addr} {H H' H1:Hp} {M M':MH} {E:XK}
theorem aj.weak {α β:Type} {rel:(Addr->Prop)->List Addr->Hp->α->β->Prop} {r:R α} {Q:β->Hp->Prop} (e:Ext F ρ H F1 ρ1 H1) (h:aj rel B r F ρ H Q E):aj rel B r F1 ρ1 H1 Q E:=by
 cases r with
 | ok d M'=>exact fun F' ρ' H' v e' S r=>h F' ρ' H' v (e.trans e') S r
 | exc c M'=>exact fun F' ρ' H' cv x e' S r=>h F' ρ' H' cv x (e.trans e') S r
 | bad=>exact h
theorem aj.imp {α β:Type} {rel:(Addr->Prop)->List Addr->Hp->α->β->Prop} {r:R α} {Q Q':β->Hp->Prop} (h:aj rel B r F ρ H Q E) (k:∀ v H',Q v H'->Q' v H'):aj rel B r F ρ H Q' E:=by
 cases r with
 | ok d M'=>exact fun F' ρ' H' v e' S r=>k _ _ (h F' ρ' H' v e' S r)
 | exc c M'=>exact h
 | bad=>exact h
theorem aj.bind {α β α' β':Type} {rel:(Addr->Prop)->List Addr->Hp->α->β->Prop} {rel':(Addr->Prop)->List Addr->Hp->α'->β'->Prop} {x:R α} {f:α->MH->R α'} {Q:β'->Hp->Prop} (h:aj rel' B (x.bind f) F ρ H Q E) :
  aj rel B x F ρ H (fun v H'=>∃ d M' F' ρ',Ext F ρ H F' ρ' H'/\SR B F' ρ' M' H'/\rel F' ρ' H' d v/\aj rel' B (f d M') F' ρ' H' Q E) E:=by
 cases x with
 | ok d M'=>exact fun F' ρ' H' v e S r=>⟨d,M',F',ρ',e,S,r,aj.weak e h⟩
 | exc c M'=>exact h
 | bad=>exact h
theorem aj.run {α β:Type} {rel:(Addr->Prop)->List Addr->Hp->α->β->Prop} {d:α} {Q:β->Hp->Prop} {v:β} (h:aj rel B (.ok d M) F ρ H Q E) (S:SR B F ρ M H) (r:rel F ρ H d v):Q v H :=
 h F ρ H v S.refl S r
end
structure RS (B:Bd) (F:Addr->Prop) (ρ:List Addr) (H:Hp) (ZD:Sg) (Z:St):Prop where
 len:Z.length=ZD.length
 get:∀ (i:Nat) (d:D),ZD[i]? = some (some d)->∃ v,Z[i]? = some (some v)/\RD B F ρ H d v
section
variable {B:Bd} {F F' F1:Addr->Prop} {ρ ρ' ρ1:List Addr} {H H' H1:Hp} {M M':MH} {ZD:Sg} {Z:St}
theorem RS.mono (e:Ext F ρ H F' ρ' H') (h:RS B F ρ H ZD Z):RS B F' ρ' H' ZD Z :=
 ⟨h.len,fun i d q=>let ⟨v,h1,h2⟩:=h.get i d q;⟨v,h1,RD.mono e d v h2⟩⟩
theorem RS.set (h:RS B F ρ H ZD Z) {d:D} {v:V} (r:RD B F ρ H d v) (i:Nat):RS B F ρ H (ZD.set i (some d)) (Z.set i (some v)):=by
 refine ⟨by simp [h.len],fun j d' q=>?_⟩
 rw [List.getElem?_set] at q ⊢
 split at q
 ·rename_i e
  split at q
  ·rename_i l
   cases q
   refine ⟨v,?_,r⟩
   rw [if_pos e,if_pos (by rw [h.len];exact l)]
  ·cases q
 ·rename_i e
  rw [if_neg e]
  exact h.get j d' q
end
noncomputable def T (B:Bd) (Φ:aS) (E:Gx) (c:Fg.E):TE:=fun Z H Q=>∃ (ZD:Sg) (M:MH) (F:Addr->Prop) (ρ:List Addr),
 SR B F ρ M H/\RS B F ρ H ZD Z/\Post B (ev Φ c ZD M) F ρ H Q (fun cv x H'=>E.e cv x Z H')
noncomputable def TB (B:Bd) (Φ:aS) (E:Gx) (c:Fg.E):TT:=fun Z H Q=>T B Φ E c Z H fun v H'=>∃ b,v=.bl b/\Q b H'
noncomputable def TL (B:Bd) (Φ:aS) (E:Gx) (c:Es):TA:=fun Z H Q=>∃ (ZD:Sg) (M:MH) (F:Addr->Prop) (ρ:List Addr),
 SR B F ρ M H/\RS B F ρ H ZD Z/\LK B (cG Φ c ZD M) F ρ H Q (fun cv x H'=>E.e cv x Z H')
noncomputable def TP (B:Bd) (Φ:aS) (E:Gx) (c:O):TO:=fun Z H Q=>∃ (ZD:Sg) (M:MH) (F:Addr->Prop) (ρ:List Addr),
 SR B F ρ M H/\RS B F ρ H ZD Z/\aj (fun _ _ _ (a b:Option Int)=>a=b) B (CM Φ c ZD M) F ρ H Q (fun cv x H'=>E.e cv x Z H')
section
variable {B:Bd} {Φ:aS} {E:Gx} {F F' F1:Addr->Prop} {ρ ρ' ρ1:List Addr} {H H' H1:Hp} {M M':MH} {ZD:Sg} {Z:St} {Q:VK}
theorem T.one {a:Fg.E} {g:D->MH->R D} {W:V->Hp->Prop} {X:XK} (S:SR B F ρ M H) (r:RS B F ρ H ZD Z) (hX:X=fun cv x H'=>E.e cv x Z H') (h:Post B ((ev Φ a ZD M).bind g) F ρ H Q X)
  (k:∀ x M1 F1 ρ1 H1 v,Ext F ρ H F1 ρ1 H1->SR B F1 ρ1 M1 H1->RS B F1 ρ1 H1 ZD Z->RD B F1 ρ1 H1 x v->Post B (g x M1) F1 ρ1 H1 Q X->W v H1):T B Φ E a Z H W:=by
 subst hX
 refine ⟨ZD,M,F,ρ,S,r,aj.imp (aj.bind (rel:=RD B) h) fun v H1 ⟨x,M1,F1,ρ1,e,S1,rx,h1⟩=>?_⟩
 exact k x M1 F1 ρ1 H1 v e S1 (r.mono e) rx h1
theorem T.two {a b:Fg.E} {g:D->D->MH->R D} {W:V->V->Hp->Prop} {X:XK} (S:SR B F ρ M H) (r:RS B F ρ H ZD Z) (hX:X=fun cv x H'=>E.e cv x Z H')
  (h:Post B ((ev Φ a ZD M).bind fun x M1=>(ev Φ b ZD M1).bind fun y M2=>g x y M2) F ρ H Q X)
  (k:∀ x y M2 F2 ρ2 H2 v w,SR B F2 ρ2 M2 H2->RS B F2 ρ2 H2 ZD Z->RD B F2 ρ2 H2 x v->RD B F2 ρ2 H2 y w->Post B (g x y M2) F2 ρ2 H2 Q X->W v w H2) :
  T B Φ E a Z H fun v H1=>T B Φ E b Z H1 fun w H2=>W v w H2:=by
 refine T.one S r hX h fun x M1 F1 ρ1 H1 v e1 S1 r1 rx h1=>?_
 refine T.one S1 r1 hX h1 fun y M2 F2 ρ2 H2 w e2 S2 r2 ry h2=>?_
 exact k x y M2 F2 ρ2 H2 v w S2 r2 (RD.mono e2 _ _ rx) ry h2
theorem TL.one {a:Es} {g:List D->MH->R D} {W:List V->Hp->Prop} {X:XK} (S:SR B F ρ M H) (r:RS B F ρ H ZD Z) (hX:X=fun cv x H'=>E.e cv x Z H') (h:Post B ((cG Φ a ZD M).bind g) F ρ H Q X)
  (k:∀ x M1 F1 ρ1 H1 v,Ext F ρ H F1 ρ1 H1->SR B F1 ρ1 M1 H1->RS B F1 ρ1 H1 ZD Z->ak B F1 ρ1 H1 x v->Post B (g x M1) F1 ρ1 H1 Q X->W v H1):TL B Φ E a Z H W:=by
 subst hX
 refine ⟨ZD,M,F,ρ,S,r,aj.imp (aj.bind (rel:=ak B) h) fun v H1 ⟨x,M1,F1,ρ1,e,S1,rx,h1⟩=>?_⟩
 exact k x M1 F1 ρ1 H1 v e S1 (r.mono e) rx h1
theorem JC {i:Nat} (h:T B Φ E (.v i) Z H Q):Jc i Z H Q:=by
 obtain ⟨ZD,M,F,ρ,S,r,h⟩:=h
 simp only [ev] at h
 split at h
 ·rename_i d hd
  obtain ⟨v,h1,h2⟩:=r.get _ _ hd
  exact ⟨v,h1,aj.run h S h2⟩
 ·exact h.elim
noncomputable def scl:D->Option V
 | .aq=>some .aq
 | .bl b=>some (.bl b)
 | .int i=>some (.int i)
 | .str x=>some (.str x)
 | _=>none
theorem E3 {d:D} {v:V} (h:scl d=some v):RD B F ρ H d v:=by
 cases d <;> simp only [scl] at h <;> first | (cases h;simp only [RD]) | cases h
theorem tP {d:D} {v:V} (hv:scl d=some v) (h:T B Φ E (.k d) Z H Q):tC v Z H Q:=by
 obtain ⟨ZD,M,F,ρ,S,r,h⟩:=h
 simp only [ev] at h
 exact aj.run h S (E3 hv)
theorem bX {fz:Bool} {ds:List D} {vs:List V} {X:XK} (S:SR B F ρ M H) (h:Post B (b7 fz ds M) F ρ H Q X) (r:ak B F ρ H ds vs):∀ p,H p=none->Q (.ref p) (upd H p (.lst vs)):=by
 intro p hp
 cases fz with
 | true =>
  simp only [b7,if_true] at h
  obtain ⟨S',e⟩:=S.fz hp (.lst vs)
  refine h _ _ _ _ e S' ?_
  simp only [RD]
  exact ⟨p,vs,rfl,.inl ⟨.inr rfl,.inl aA⟩,ak.mono e _ _ r⟩
 | false =>
  simp only [b7,Bool.false_eq_true,if_false] at h
  have e0:Ext F ρ H F (ρ++[p]) (upd H p (.lst vs)):=⟨⟨S.sep,fun _ q=>q,fun a q _=>ao (by rintro rfl;exact q hp),List.prefix_append _ _,fun a q=>by
   rcases List.mem_append.mp q with q | q
   ·exact .inl q
   ·rw [List.mem_singleton.mp q];exact .inr hp,fun _ q=>.inl q⟩,fun b w u q=>by rw [ao (by rintro rfl;rw [hp] at q;cases q)];exact q⟩
  obtain ⟨S',e⟩:=S.lv (o:=.lst vs) (u:=.lst ds) hp ⟨vs,aA,ak.mono e0 _ _ r⟩
  refine h _ _ _ _ e S' ?_
  simp only [RD]
  refine ⟨p,?_,rfl⟩
  rw [<- S.len,List.getElem?_append_right (Nat.le_refl _),Nat.sub_self];rfl
theorem j7 {ds:List D} {vs:List V} {X:XK} (S:SR B F ρ M H) (h:Post B (.ok (.tup ds) M) F ρ H Q X) (r:ak B F ρ H ds vs):∀ p,H p=none->Q (.ref p) (upd H p (.tup vs)):=by
 intro p hp
 obtain ⟨S',e⟩:=S.fz hp (.tup vs)
 refine h _ _ _ _ e S' ?_
 simp only [RD]
 exact ⟨p,vs,rfl,.inl ⟨.inr rfl,.inl aA⟩,ak.mono e _ _ r⟩
theorem Ba {es:Es} (hz:∀ {Z:Sg} {M:MH} {ds M'},cG Φ es Z M=.ok ds M'->ds.length<=sizeLine) (h:T B Φ E (.tup es) Z H Q):Jd (TL B Φ E es) Z H Q:=by
 obtain ⟨ZD,M,F,ρ,S,r,h⟩:=h
 simp only [ev] at h
 refine ⟨ZD,M,F,ρ,S,r,?_⟩
 cases hx:cG Φ es ZD M with
 | ok ds M1 =>
  rw [hx] at h
  intro F1 ρ1 H1 vs e S1 rv
  refine ⟨by rw [<- ak.length rv];exact hz hx,j7 (X:=fun cv x H'=>E.e cv x Z H') S1 (aj.weak e h) rv⟩
 | exc c M1=>rw [hx] at h;exact h
 | bad=>rw [hx] at h;exact h
theorem Bh {fz:Bool} {es:Es} (hz:∀ {Z:Sg} {M:MH} {ds M'},cG Φ es Z M=.ok ds M'->ds.length<=sizeLine) (h:T B Φ E (.lst fz es) Z H Q):Jj (TL B Φ E es) Z H Q:=by
 obtain ⟨ZD,M,F,ρ,S,r,h⟩:=h
 simp only [ev] at h
 refine ⟨ZD,M,F,ρ,S,r,?_⟩
 cases hx:cG Φ es ZD M with
 | ok ds M1 =>
  rw [hx] at h
  intro F1 ρ1 H1 vs e S1 rv
  refine ⟨by rw [<- ak.length rv];exact hz hx,bX (X:=fun cv x H'=>E.e cv x Z H') S1 (aj.weak e h) rv⟩
 | exc c M1=>rw [hx] at h;exact h
 | bad=>rw [hx] at h;exact h
theorem xR (h:T B Φ E .sJ Z H Q):xy Z H Q:=by
 obtain ⟨ZD,M,F,ρ,S,r,h⟩:=h
 simp only [ev] at h
 intro p hp
 obtain ⟨S',e⟩:=S.lv (o:=.dK []) (u:=.dct []) hp ⟨[],aA,rfl,by simp [ak]⟩
 refine h _ _ _ _ e S' ?_
 simp only [RD]
 refine ⟨p,?_,rfl⟩
 rw [<- S.len,List.getElem?_append_right (Nat.le_refl _),Nat.sub_self];rfl
theorem iI {Q:List V->Hp->Prop} (h:TL B Φ E .nil Z H Q):kM Z H Q:=by
 obtain ⟨ZD,M,F,ρ,S,r,h⟩:=h
 simp only [cG] at h
 exact aj.run h S ak.nil
theorem xS {e:Fg.E} {es:Es} {Q:List V->Hp->Prop} (h:TL B Φ E (.cons e es) Z H Q):gW (T B Φ E e) (TL B Φ E es) Z H Q:=by
 obtain ⟨ZD,M,F,ρ,S,r,h⟩:=h
 simp only [cG] at h
 refine ⟨ZD,M,F,ρ,S,r,aj.imp (aj.bind (rel:=RD B) h) fun v H1 ⟨x,M1,F1,ρ1,e1,S1,rx,h1⟩=>?_⟩
 refine ⟨ZD,M1,F1,ρ1,S1,r.mono e1,aj.imp (aj.bind (rel:=ak B) h1) fun vs H2 ⟨xs,M2,F2,ρ2,e2,S2,rxs,h2⟩=>?_⟩
 exact aj.run h2 S2 (ak.cons (RD.mono e2 _ _ rx) rxs)
theorem tS {a b:Fg.E} (h:T B Φ E (.and a b) Z H Q):DF (T B Φ E a) (T B Φ E b) Z H Q:=by
 obtain ⟨ZD,M,F,ρ,S,r,h⟩:=h
 simp only [ev] at h
 refine T.one S r rfl h fun x M1 F1 ρ1 H1 v e1 S1 r1 rx h1=>?_
 split at h1
 ·simp only [RD] at rx;subst rx
  exact ⟨true,rfl,by rw [if_pos rfl];exact ⟨ZD,M1,F1,ρ1,S1,r1,h1⟩⟩
 ·simp only [RD] at rx;subst rx
  exact ⟨false,rfl,by rw [if_neg Bool.false_ne_true];exact aj.run h1 S1 (by simp only [RD])⟩
 ·exact h1.elim
theorem xQ {a b:Fg.E} (h:T B Φ E (.or a b) Z H Q):Jh (T B Φ E a) (T B Φ E b) Z H Q:=by
 obtain ⟨ZD,M,F,ρ,S,r,h⟩:=h
 simp only [ev] at h
 refine T.one S r rfl h fun x M1 F1 ρ1 H1 v e1 S1 r1 rx h1=>?_
 split at h1
 ·simp only [RD] at rx;subst rx
  exact ⟨true,rfl,by rw [if_pos rfl];exact aj.run h1 S1 (by simp only [RD])⟩
 ·simp only [RD] at rx;subst rx
  exact ⟨false,rfl,by rw [if_neg Bool.false_ne_true];exact ⟨ZD,M1,F1,ρ1,S1,r1,h1⟩⟩
 ·exact h1.elim
theorem tN {a:Fg.E} (h:T B Φ E (.not a) Z H Q):DB (T B Φ E a) Z H Q:=by
 obtain ⟨ZD,M,F,ρ,S,r,h⟩:=h
 simp only [ev] at h
 refine T.one S r rfl h fun x M1 F1 ρ1 H1 v e1 S1 r1 rx h1=>?_
 split at h1
 ·simp only [RD] at rx;subst rx
  exact ⟨_,rfl,aj.run h1 S1 (by simp only [RD])⟩
 ·exact h1.elim
theorem xU {a b:Fg.E} {Q:Bool->Hp->Prop} (h:TB B Φ E (.and a b) Z H Q):Jr (TB B Φ E a) (TB B Φ E b) Z H Q:=by
 have h':=tS h
 obtain ⟨ZD,M,F,ρ,S,r,h⟩:=h'
 refine ⟨ZD,M,F,ρ,S,r,aj.imp h fun v H' ⟨c,e,q⟩=>⟨c,e,?_⟩⟩
 cases c with
 | true=>rw [if_pos rfl] at q ⊢;exact q
 | false=>rw [if_neg Bool.false_ne_true] at q ⊢;obtain ⟨b,e,q⟩:=q;cases e;exact q
theorem Bu {a b:Fg.E} {Q:Bool->Hp->Prop} (h:TB B Φ E (.or a b) Z H Q):tOr (TB B Φ E a) (TB B Φ E b) Z H Q:=by
 have h':=xQ h
 obtain ⟨ZD,M,F,ρ,S,r,h⟩:=h'
 refine ⟨ZD,M,F,ρ,S,r,aj.imp h fun v H' ⟨c,e,q⟩=>⟨c,e,?_⟩⟩
 cases c with
 | true=>rw [if_pos rfl] at q ⊢;obtain ⟨b,e,q⟩:=q;cases e;exact q
 | false=>rw [if_neg Bool.false_ne_true] at q ⊢;exact q
theorem xT {a:Fg.E} {Q:Bool->Hp->Prop} (h:TB B Φ E (.not a) Z H Q):Ji (TB B Φ E a) Z H Q:=by
 have h':=tN h
 obtain ⟨ZD,M,F,ρ,S,r,h⟩:=h'
 refine ⟨ZD,M,F,ρ,S,r,aj.imp h fun v H' ⟨c,e,q⟩=>⟨c,e,?_⟩⟩
 obtain ⟨b,e,q⟩:=q;cases e;exact q
theorem Bq {c a b:Fg.E} (h:T B Φ E (.w9 c a b) Z H Q):tIf (TB B Φ E c) (T B Φ E a) (T B Φ E b) Z H Q:=by
 obtain ⟨ZD,M,F,ρ,S,r,h⟩:=h
 simp only [ev] at h
 refine T.one S r rfl h fun x M1 F1 ρ1 H1 v e1 S1 r1 rx h1=>?_
 split at h1
 ·simp only [RD] at rx;subst rx
  exact ⟨true,rfl,by dsimp only;rw [if_pos rfl];exact ⟨ZD,M1,F1,ρ1,S1,r1,h1⟩⟩
 ·simp only [RD] at rx;subst rx
  exact ⟨false,rfl,by dsimp only;rw [if_neg Bool.false_ne_true];exact ⟨ZD,M1,F1,ρ1,S1,r1,h1⟩⟩
 ·exact h1.elim
theorem bF {d:D} {v:V} {ds:List D} (S:SR B F ρ M H) (r:RD B F ρ H d v) (h:vw M d=.lst ds):∃ a vs,v=.ref a/\fT B.K H a vs/\ak B F ρ H ds vs:=by
 cases d with
 | lst xs=>simp only [vw] at h;cases h;simp only [RD] at r;obtain ⟨a,vs,e,z,q⟩:=r;exact ⟨a,vs,e,z.sq,q⟩
 | ref n =>
  simp only [vw] at h
  split at h
  ·rename_i xs hx
   cases h
   simp only [RD] at r
   obtain ⟨a,h1,h2⟩:=r
   obtain ⟨vs,h3,h4⟩:=S.obj n a _ h1 hx
   exact ⟨a,vs,h2,.inl (.inl h3),h4⟩
  ·cases h
  ·cases h
  ·cases h
 | tup _=>simp only [vw] at h;cases h
 | dct _ _=>simp only [vw] at h;cases h
 | aq=>simp only [vw] at h;cases h
 | bl _=>simp only [vw] at h;cases h
 | int _=>simp only [vw] at h;cases h
 | str _=>simp only [vw] at h;cases h
theorem kH {d:D} {v:V} {ds:List D} (S:SR B F ρ M H) (r:RD B F ρ H d v) (h:vw M d=.tup ds):∃ a vs,v=.ref a/\i7 B.K H a vs/\ak B F ρ H ds vs:=by
 cases d with
 | tup xs=>simp only [vw] at h;cases h;simp only [RD] at r;obtain ⟨a,vs,e,z,q⟩:=r;exact ⟨a,vs,e,z.sq,q⟩
 | ref n =>
  simp only [vw] at h
  split at h <;> cases h
 | lst _=>simp only [vw] at h;cases h
 | dct _ _=>simp only [vw] at h;cases h
 | aq=>simp only [vw] at h;cases h
 | bl _=>simp only [vw] at h;cases h
 | int _=>simp only [vw] at h;cases h
 | str _=>simp only [vw] at h;cases h
noncomputable def Ip (B:Bd) (H:Hp) (a:Addr) (kvs:List (Key×V)):Prop:=Rd H a (.dK kvs)\/B.dk a kvs
theorem o8 {α β:Type}:∀ (ks:List α) (ds:List β),ks.length=ds.length->(ks.zip ds).map (·.1)=ks/\(ks.zip ds).map (·.2)=ds
 | [],[],_=>⟨rfl,rfl⟩
 | k::ks,d::ds,h=>by
  obtain ⟨a,b⟩:=o8 ks ds (by simpa using h)
  simp only [List.zip_cons_cons,List.map_cons,a,b,and_self]
 | [],_::_,h=>by simp at h
 | _::_,[],h=>by simp at h
theorem nC {d:D} {v:V} {dW:List (Ky×D)} (S:SR B F ρ M H) (r:RD B F ρ H d v) (h:vw M d=.dct dW):∃ a kvs,v=.ref a/\Ip B H a kvs/\kvs.map (·.1)=dW.map (·.1)/\ak B F ρ H (dW.map (·.2)) (kvs.map (·.2)):=by
 cases d with
 | dct ks ds =>
  simp only [vw] at h;cases h;simp only [RD] at r
  obtain ⟨a,kvs,e,z,q1,q2⟩:=r
  have hl:ks.length=ds.length:=by rw [<- q1,List.length_map,ak.length q2,List.length_map]
  obtain ⟨z1,z2⟩:=o8 ks ds hl
  refine ⟨a,kvs,e,?_,by rw [q1,z1],by rw [z2];exact q2⟩
  rcases z with ⟨_,z⟩ | z
  ·exact .inl z
  ·exact .inr z
 | ref n =>
  simp only [vw] at h
  split at h
  ·cases h
  ·rename_i xs hx
   cases h
   simp only [RD] at r
   obtain ⟨a,h1,h2⟩:=r
   obtain ⟨kws,h3,h4,h5⟩:=S.obj n a _ h1 hx
   exact ⟨a,kws,h2,.inl (.inl h3),h4,h5⟩
  ·rename_i xs hx
   cases h
   simp only [RD] at r
   obtain ⟨a,h1,h2⟩:=r
   obtain ⟨o,kws,h3,h4,h5⟩:=S.obj n a _ h1 hx
   exact ⟨a,kws,h2,.inl (.inr ⟨o,h3⟩),h4,h5⟩
  ·cases h
 | tup _=>simp only [vw] at h;cases h
 | lst _=>simp only [vw] at h;cases h
 | aq=>simp only [vw] at h;cases h
 | bl _=>simp only [vw] at h;cases h
 | int _=>simp only [vw] at h;cases h
 | str _=>simp only [vw] at h;cases h
theorem k8 {k:Key}:∀ {dW:List (Ky×D)} {kvs:List (Key×V)},kvs.map (·.1)=dW.map (·.1)->ak B F ρ H (dW.map (·.2)) (kvs.map (·.2)) ->
  (∀ d,look dW k=some d->∃ v,cL kvs k=some v/\RD B F ρ H d v)/\(look dW k=none->cL kvs k=none)/\((look dW k).isSome=(cL kvs k).isSome)
 | [],kvs,h1,h2=>by
  have:kvs=[]:=by cases kvs with | nil=>rfl | cons _ _=>simp at h1
  subst this
  exact ⟨fun d h=>by simp [look] at h,fun _=>by simp [cL],by simp [look,cL]⟩
 | (k', d')::dW, kvs, h1, h2=>by
  cases kvs with
  | nil=>simp at h1
  | cons p kvs =>
   obtain ⟨pk,pv⟩:=p
   simp only [List.map_cons,List.cons.injEq] at h1
   simp only [List.map_cons,ak] at h2
   obtain ⟨v,ws,e,r1,r2⟩:=h2
   cases e
   obtain ⟨e1,e2⟩:=h1
   subst e1
   have ih:=k8 (k:=k) e2 r2
   by_cases hk:pk=k
   ·subst hk
    simp only [look,cL,List.find?_cons,decide_true]
    exact ⟨fun d h=>by cases h;exact ⟨_,rfl,r1⟩,fun h=>by simp at h,rfl⟩
   ·have hkd:decide (pk=k)=false:=decide_eq_false hk
    simp only [look,cL,List.find?_cons,hkd] at ih ⊢
    exact ih
theorem pG {i:Int} (h:small i=true):-(2 ^ 64)<i/\i<2 ^ 64:=by
 simp only [small,decide_eq_true_eq] at h
 omega
noncomputable def LR (i j:Int):Prop:=i.natAbs<10 ^ 200/\j.natAbs<10 ^ 200
noncomputable def rStr:R2:=fun x y H Q=>∃ i j,x=.str i/\y=.str j/\i.length+j.length<=sizeLine/\Q (.str (i++j)) H
noncomputable def DQ (K:W.Frag):R2:=fun x y H Q=>∃ l b xs zs,x=.ref l/\y=.ref b/\fT K H l xs/\fT K H b zs/\xs.length+zs.length<=sizeLine/\∀ p,H p=none->Q (.ref p) (upd H p (.lst (xs++zs)))
noncomputable def DN (K:W.Frag):R2:=fun x y H Q=>∃ (l:Addr) (xs:List V) (k:Int),x=.ref l/\y=.int k/\fT K H l xs/\xs.length*k.toNat<=sizeLine/\k.natAbs<=1000000/\∀ p,H p=none->Q (.ref p) (upd H p (.lst (List.replicate k.toNat xs).flatten))
noncomputable def JM (K:W.Frag):Dm->R2
 | .add=>fun x y H Q=>rG (fun i j=>.int (i+j)) x y H Q\/(rStr x y H Q\/(DQ K x y H Q\/DP K x y H Q))
 | .sub=>rG fun i j=>.int (i-j)
 | .mul=>fun x y H Q=>rI Dt (fun i j=>.int (i*j)) x y H Q\/(rI LR (fun i j=>.int (i*j)) x y H Q\/DN K x y H Q)
 | .fdiv=>rI LS fun i j=>.int (i / j)
 | .mod=>rI (fun _ j=>0<j) fun i j=>.int (i % j)
 | .pow=>rI LQ fun i j=>.int (i ^ j.toNat)
theorem bB:line<=sizeLine:=by decide
theorem ak.rep {ds:List D} {vs:List V} (r:ak B F ρ H ds vs):∀ k:Nat,ak B F ρ H (List.replicate k ds).flatten (List.replicate k vs).flatten
 | 0=>ak.nil
 | k+1=>by
  rw [List.replicate_succ,List.replicate_succ,List.flatten_cons,List.flatten_cons]
  exact r.append (ak.rep r k)
theorem Cb {o:Dm} {fz:Bool} {x y:D} {v w:V} {X:XK} (S:SR B F ρ M H) (rx:RD B F ρ H x v) (ry:RD B F ρ H y w) (h:Post B (qa o fz M x y) F ρ H Q X):JM B.K o v w H Q:=by
 unfold qa at h
 split at h
 ·rename_i i j
  simp only [RD] at rx ry
  subst rx ry
  cases o with
  | add=>simp only [fV] at h;exact .inl ⟨i,j,rfl,rfl,aj.run h S (by simp only [RD])⟩
  | sub=>simp only [fV] at h;exact ⟨i,j,rfl,rfl,aj.run h S (by simp only [RD])⟩
  | mul =>
   simp only [fV] at h
   split at h
   ·rename_i k hk
    split at hk
    ·rename_i hs
     cases hk
     refine .inl ⟨i,j,rfl,rfl,?_,aj.run h S (by simp only [RD])⟩
     simp only [Bool.or_eq_true] at hs
     rcases hs with hs | hs
     ·exact .inl (pG hs)
     ·exact .inr (pG hs)
    ·split at hk
     ·rename_i hs
      cases hk
      simp only [mid,Bool.and_eq_true,decide_eq_true_eq] at hs
      exact .inr (.inl ⟨i,j,rfl,rfl,hs,aj.run h S (by simp only [RD])⟩)
     ·cases hk
   ·exact h.elim
  | fdiv =>
   simp only [fV] at h
   split at h
   ·rename_i k hk
    split at hk
    ·rename_i hs
     cases hk
     simp only [Bool.and_eq_true,decide_eq_true_eq] at hs
     exact ⟨i,j,rfl,rfl,⟨hs.1,by have:=hs.2;omega⟩,aj.run h S (by simp only [RD])⟩
    ·cases hk
   ·exact h.elim
  | mod =>
   simp only [fV] at h
   split at h
   ·rename_i k hk
    split at hk
    ·rename_i hs
     cases hk
     exact ⟨i,j,rfl,rfl,of_decide_eq_true hs,aj.run h S (by simp only [RD])⟩
    ·cases hk
   ·exact h.elim
  | pow =>
   simp only [fV] at h
   split at h
   ·rename_i k hk
    split at hk
    ·rename_i hs
     cases hk
     simp only [Bool.and_eq_true,decide_eq_true_eq] at hs
     exact ⟨i,j,rfl,rfl,⟨hs.1,hs.2.1,hs.2.2⟩,aj.run h S (by simp only [RD])⟩
    ·cases hk
   ·exact h.elim
 ·rename_i a b
  simp only [RD] at rx ry
  subst rx ry
  cases o with
  | add =>
   simp only at h
   split at h
   ·rename_i hl
    exact .inr (.inl ⟨a,b,rfl,rfl,Nat.le_trans (of_decide_eq_true hl) bB,aj.run h S (by simp only [RD])⟩)
   ·exact h.elim
  | sub=>exact h.elim
  | mul=>exact h.elim
  | fdiv=>exact h.elim
  | mod=>exact h.elim
  | pow=>exact h.elim
 ·cases o with
  | add =>
   simp only at h
   split at h
   ·rename_i xs ys hx hy
    split at h
    ·rename_i hl
     obtain ⟨a,vs,rfl,q1,r1⟩:=bF S rx hx
     obtain ⟨b,ws,rfl,q2,r2⟩:=bF S ry hy
     refine .inr (.inr (.inl ⟨a,b,vs,ws,rfl,rfl,q1,q2,?_,bX S h (r1.append r2)⟩))
     rw [<- ak.length r1,<- ak.length r2]
     exact Nat.le_trans (of_decide_eq_true hl) bB
    ·exact h.elim
   ·rename_i xs ys hx hy
    split at h
    ·rename_i hl
     simp only [Bool.and_eq_true,Bool.not_eq_true',decide_eq_true_eq] at hl
     cases x with
     | tup xs' =>
      simp only [vw] at hx;cases hx
      simp only [RD] at rx
      obtain ⟨a,vs,rfl,z1,r1⟩:=rx
      obtain ⟨b,ws,rfl,q2,r2⟩:=kH S ry hy
      refine .inr (.inr (.inr ⟨a,b,vs,ws,rfl,rfl,z1.sq,q2,?_,?_,fun e=>?_,fun _=>j7 S h (r1.append r2)⟩))
      ·rintro rfl
       have:=ak.length r1
       cases xs with
       | nil=>simp at hl
       | cons _ _=>simp at this
      ·rw [<- ak.length r1,<- ak.length r2]
       exact Nat.le_trans hl.2 bB
      ·refine aj.run h S ?_
       simp only [RD]
       refine ⟨a,vs,rfl,z1,?_⟩
       have:=r1.append r2
       rw [e,List.append_nil] at this
       exact this
     | ref n=>simp only [vw] at hx;split at hx <;> cases hx
     | lst _=>simp only [vw] at hx;cases hx
     | dct _ _=>simp only [vw] at hx;cases hx
     | aq=>simp only [vw] at hx;cases hx
     | bl _=>simp only [vw] at hx;cases hx
     | int _=>simp only [vw] at hx;cases hx
     | str _=>simp only [vw] at hx;cases hx
    ·exact h.elim
   ·exact h.elim
  | sub=>exact h.elim
  | mul =>
   simp only at h
   split at h
   ·rename_i xs k hx _ _
    split at h
    ·rename_i hl
     simp only [Bool.and_eq_true,decide_eq_true_eq] at hl
     obtain ⟨a,vs,rfl,q1,r1⟩:=bF S rx (by assumption)
     simp only [RD] at ry
     subst ry
     refine .inr (.inr ⟨a,vs,k,rfl,rfl,q1,?_,hl.2,bX S h (ak.rep r1 _)⟩)
     rw [<- ak.length r1]
     exact Nat.le_trans hl.1 bB
    ·exact h.elim
   ·exact h.elim
  | fdiv=>exact h.elim
  | mod=>exact h.elim
  | pow=>exact h.elim
theorem EY {o:Dm} {fz:Bool} {a b:Fg.E} (h:T B Φ E (.op o fz a b) Z H Q):EJ (JM B.K o) (T B Φ E a) (T B Φ E b) Z H Q:=by
 obtain ⟨ZD,M,F,ρ,S,r,h⟩:=h
 simp only [ev] at h
 exact T.two S r rfl h fun x y M2 F2 ρ2 H2 v w S2 _ rx ry h2=>Cb S2 rx ry h2
theorem Bg {a:Fg.E} (h:T B Φ E (.neg a) Z H Q):tUn (rU fun i=>.int (-i)) (T B Φ E a) Z H Q:=by
 obtain ⟨ZD,M,F,ρ,S,r,h⟩:=h
 simp only [ev] at h
 refine T.one S r rfl h fun x M1 F1 ρ1 H1 v e1 S1 r1 rx h1=>?_
 split at h1
 ·simp only [RD] at rx;subst rx
  exact ⟨_,rfl,aj.run h1 S1 (by simp only [RD])⟩
 ·exact h1.elim
end
end Fg
end
section
namespace Fg
open PySem PySem.Spec L2
noncomputable def Up (B:Heap) (l:List Env) (a:Addr) (C a0:Value) (h:Heap):Prop:=B.StaysIn h/\B.get? a=none/\h.FunFrames B l/\∃ fl,h.TracedAtW B a C a0 fl
theorem Up.Gj {B h:Heap} {l:List Env} {a:Addr} {C a0:Value} (x:Heap.FlyingW B l a C a0 h):Up B l a C a0 h:=⟨x.1,x.2.1,x.2.2.1,_,x.2.2.2.at⟩
theorem Up.ux {B h:Heap} {l:List Env} {a L:Addr} {C a0:Value} (x:Heap.HeldW B l a C a0 L h):Up B l a C a0 h:=⟨x.1,x.2.1,x.2.2.1,_,x.2.2.2⟩
theorem nQ {e:Value} {env env':Env} (h:env.frame=env'.frame):noteFrame e env=noteFrame e env':=by
 unfold noteFrame frameOf
 rw [h]
section
variable {M:Model} {A:Around} {E:Value->Shared->Prop} {s:Shared} {B:Heap} {env:Env} {outer:List Env} {L a:Addr} {C a0:Value}
theorem Up.note {Q:Unit->Shared->Prop} (hfr:A.frames=some (env::outer)) (hf:env.frame=some L) (up:Up B (env::outer) a C a0 s.heap) (k:∀ h',Heap.HeldW B (env::outer) a C a0 L h'->s.heap.UpToSlots h'->Q () { s with heap:=h' }) :
  wpAny M A (noteFrame (.ref a) env) Q E s:=by
 obtain ⟨st,ne,hl,fl,oe,vs,T,oT,ts,q1,⟨q2,q2'⟩,q3,q4,q5,q6,q7,q8,q9⟩:=up
 by_cases same:(fl == rawInt L)=true
 ·have e:fl=rawInt L:=by simpa using same
  subst e
  exact wpAny_noteFrame_againW hf ⟨oe,vs,T,oT,ts,q1,⟨q2,q2'⟩,q3,q4,q5,q6,q7,q8,q9⟩ (k s.heap ⟨st,ne,hl,oe,vs,T,oT,ts,q1,⟨q2,q2'⟩,q3,q4,q5,q6,q7,q8,q9⟩ (Heap.UpToSlots.refl _))
 ·subst q2
  unfold noteFrame
  simp only [hf]
  refine wpAny_bind (wpAny_field q1 q3 q4 ?_)
  rw [if_pos (by simp)]
  refine wpAny_bind (wpAny_field q7 q8 q9 ?_)
  rw [if_neg same]
  refine wpAny_bind (wpAny_setField q7 q8 (Array.getElem?_eq_some_iff.mp q9).1 ?_)
  have uo:∀ b,b≠T->(s.heap.update T (Obj.mapFields (·.setIfInBounds 3 Value.none))).get? b=s.heap.get? b:=fun b hb=>Heap.get?_update_other _ _ fun z=>hb z.symm
  have pW:∀ b o,s.heap.get? b=some o->(∀ vs,o.data≠.fields vs)->b≠T:=fun b o hb hn z=>by
   subst z;rw [q7] at hb;cases hb;exact hn ts q8
  refine wpAny_entryW (base:=B) (a0:=a0) hfr ?_ hf ?_ ?_ ne q3 (Array.getElem?_eq_some_iff.mp q4).1 q2' fun h' nw=>?_
  ·exact hl.of_keeps fun b o hb hn=>⟨o,by rw [uo b (pW b o hb hn),hb],rfl⟩
  ·rw [uo a fun z=>q6 z.symm];exact q1
  ·intro b o e
   rw [uo b (by rintro rfl;rw [q5] at e;cases e)]
   exact st b o e
  ·obtain ⟨x1,x2,x3,x4⟩:=nw
   exact k h' ⟨x1,ne,x2,x3⟩ fun b o hb hn=>x4 b o (by rw [uo b (pW b o hb hn),hb]) hn
theorem Up.leave {Q:Unit->Shared->Prop} (hfr:A.frames=some (env::outer)) (hf:env.frame=some L) (up:Up B (env::outer) a C a0 s.heap) (k:∀ h',Heap.FlyingW B outer a C a0 h'->s.heap.UpToSlots h'->Q () { s with heap:=h' }) :
  wpAny M A (leaving env (.ref a)) Q E s :=
 wpAny_bind (up.note hfr hf fun h4 held A0=>wpAny_landsW held fun h5 fl JB=>k h5 ⟨fl.1,fl.2.1,fl.2.2.1.2.2,fl.2.2.2⟩ (A0.trans JB))
end
end Fg
end
section
namespace Fg
open PySem PySem.Spec L2
open PyProof.Rows (AllBare envOfC)
theorem mX {P:Program} {w:World} {H:Hp} {h:Heap} {a:Addr} {o:HO} (x:aV P w H h a o):∃ ob,h.get? a=some ob:=by
 cases o with
 | lst xs=>obtain ⟨_,_,_,_,e⟩:=x;exact ⟨_,e⟩
 | tup xs=>obtain ⟨_,_,_,_,e,_⟩:=x;exact ⟨_,e⟩
 | dK kvs=>obtain ⟨_,_,_,_,o,_,_,e,_⟩:=x;exact ⟨_,e⟩
 | dT kvs=>obtain ⟨_,_,_,_,o,_,_,e,_⟩:=x;exact ⟨_,e⟩
 | set S n=>obtain ⟨o,_,_,_,e,_⟩:=x;exact ⟨_,e⟩
 | ins C dx fs=>obtain ⟨_,_,_,e,_⟩:=x;exact ⟨_,e⟩
 | own y=>obtain ⟨_,e⟩:=x;exact ⟨_,e⟩
 | xd fs=>obtain ⟨_,⟨_,_,_,e,_⟩,_⟩:=x;exact ⟨_,e⟩
 | cR lo hi=>obtain ⟨_,_,_,e⟩:=x;exact ⟨_,e⟩
 | gI ob u=>obtain ⟨e,_⟩:=x;exact ⟨_,e⟩
 | Dz ps=>exact ⟨_,(show h.get? a=some _ from x)⟩
 | met f y=>exact ⟨_,(show h.get? a=some _ from x)⟩
 | ext φ=>obtain ⟨_,⟨_,e⟩,_⟩:=x;exact ⟨_,e⟩
noncomputable def Calm (B:Heap) (fr ex:List Addr) (H:Hp) (h₀:Heap):Prop:=∀ b,(H b≠none\/(∃ o,h₀.get? b=some o)/\b∉ex)->b∉fr->∃ o,B.get? b=some o
theorem Calm.at {B h:Heap} {fr ex:List Addr} {H:Hp} {h₀:Heap} (c:Calm B fr ex H h₀) (st:B.StaysIn h) {b:Addr} {o:Obj} (e:h.get? b=some o) (q:H b≠none\/(∃ o,h₀.get? b=some o)/\b∉ex) (hf:b∉fr):B.get? b=some o:=by
 obtain ⟨o',e'⟩:=c b q hf
 have:=st _ _ e'
 rw [e] at this;cases this
 exact e'
noncomputable def iF (P:Program) (w:World):AB:=fun outer H s E e s'=>∃ (H':Hp) (a:Addr) (a0 C:Value) (B:Heap),e=.ref a/\s'.os=s.os/\AllBare s'.gens/\Un (frs outer) [] H H' s.heap s'.heap/\gU P w H' s'.heap /\
 Heap.FlyingW B outer a C a0 s'.heap/\Calm B (frs outer) [] H' s.heap/\E C none H'
noncomputable def j5 (X:Cx) (E:XS) (e:Value) (s:Shared):Prop:=∃ (pins:List (Addr×Obj)) (Z:St) (H:Hp) (a:Addr) (a0 C:Value) (B:Heap),e=.ref a/\Inv X pins Z H s /\
 Up B X.stack a C a0 s.heap/\Calm B (frs X.stack) X.ex H X.s₀.heap/\(∀ p∈X.pn,B.get? p.1=some p.2)/\E C none Z H
noncomputable def Ew (X:Cx) (E:XS) (e:Value) (s:Shared):Prop:=∃ (pins:List (Addr×Obj)) (Z:St) (H:Hp) (a:Addr) (C:Value) (vs:List Value) (h:Heap),e=.ref a/\Inv X pins Z H { s with heap:=h }/\Heap.MadeExcOf h s.heap a C vs/\E C none Z H
theorem oq {fs fr ex:List Addr} {H₀ H H₁:Hp} {h₀ h h' B:Heap} (u:Un fs ex H₀ H h₀ h) (iB:Calm B fr ex H₁ h₀) (jN:B.StaysIn h) (st:B.StaysIn h') (sm:∀ b∈fr,∀ o,h.get? b=some o->∃ sl,h'.get? b=some { o with slots:=sl })
  (frd:∀ b∈fr,b<h₀.objs.size->b∈fs):Un fs ex H₀ H h₀ h' where
 keep:=fun b o e n0 hb hx=>st _ _ (iB.at jN (u.keep b o e n0 hb hx) (.inr ⟨⟨_,e⟩,hx⟩) fun z=>hb (frd b z (Heap.lt_size e)))
 slot:=fun b o e n0 hb hx=>by
  obtain ⟨sl,e1⟩:=u.slot b o e n0 hb hx
  by_cases z:b∈fr
  ·obtain ⟨DH,e2⟩:=sm b z _ e1
   exact ⟨DH,e2⟩
  ·exact ⟨sl,st _ _ (iB.at jN e1 (.inr ⟨⟨_,e⟩,hx⟩) z)⟩
 free:=u.free
 there:=fun b o e hx=>by
  obtain ⟨o',e1⟩:=u.there b o e hx
  by_cases z:b∈fr
  ·obtain ⟨DH,e2⟩:=sm b z _ e1
   exact ⟨_,e2⟩
  ·exact ⟨_,st _ _ (iB.at jN e1 (.inr ⟨⟨_,e⟩,hx⟩) z)⟩
 tups:=u.tups
 gO:=u.gO
 iH:=u.iH
theorem kq {P:Program} {w:World} {fr ex:List Addr} {H:Hp} {h₀ h h' B:Heap} (k:gU P w H h) (iB:Calm B fr ex H h₀) (jN:B.StaysIn h) (st:B.StaysIn h') (free:∀ b∈fr,H b=none):gU P w H h':=fun a o e =>
 (k a o e).stay (fun b u hb e'=>by
  have tr:H b≠none:=by
   rcases hb with rfl | hb
   ·rw [e];simp
   ·rw [hb];simp
  exact st _ _ (iB.at jN e' (.inl tr) fun z=>tr (free b z))) (fun _ q=>q) fun _ _ q=>q
section
variable {X:Cx} {pins:List (Addr×Obj)} {Z:St} {H:Hp} {s:Shared}
theorem qq (I:Inv X pins Z H s):∀ b∈frs X.stack,∀ o,s.heap.get? b=some o->∀ vs,o.data≠.fields vs:=fun b hb o e vs=>by
 obtain ⟨_,o',e',d⟩:=I.stack.mem hb
 rw [e] at e';cases e'
 exact d vs
theorem r9 {h':Heap} (I:Inv X pins Z H s) (sm:s.heap.UpToSlots h'):∀ b∈frs X.stack,∀ o,s.heap.get? b=some o->∃ sl,h'.get? b=some { o with slots:=sl }:=fun b hb o e=>sm b o e (qq I b hb o e)
theorem oj (I:Inv X pins Z H s):∀ b∈frs X.stack,b<X.s₀.heap.objs.size->b∈X.fs:=fun b hb hl=>by
 rcases List.mem_cons.mp (I.eZ b hb) with e | z
 ·subst e;exact absurd (Nat.lt_of_lt_of_le hl I.ok.above) (Nat.lt_irrefl _)
 ·exact z
theorem gH (I:Inv X pins Z H s) {b:Addr} {o:Obj} (e:X.s₀.heap.get? b=some o) (hx:b∉X.ex):∃ o',s.heap.get? b=some o':=I.base.there b o e hx
theorem passes {E:XS} (hx:∀ e s,j5 X E e s->X.xe e s) (pins:List (Addr×Obj)) (Z:St) (H:Hp) (s:Shared) (e:Value) (s':Shared) (I:Inv X pins Z H s) (q:iF X.prog X.w X.stack H s (fun cv x H'=>E cv x Z H') e s'):X.xe e s':=by
 obtain ⟨H',a,a0,C,B,rfl,os,bare,un,hok,fl,iB,q⟩:=q
 have I':=I.Aj (ch:=[]) os un hok bare (fun b z=>absurd z (by simp))
 refine hx _ _ ⟨pins,Z,H',a,a0,C,B,rfl,I',.Gj fl,fun b hb hf=>iB b (hb.imp id fun ⟨⟨o,z⟩,n⟩=>⟨gH I z n,by simp⟩) hf,fun p hp=>?_,q⟩
 obtain ⟨p1,p2,p3,p4,_⟩:=I'.pin p (List.mem_append_left _ hp)
 refine iB.at fl.1 p1 (.inr ⟨⟨_,(I.pin p (List.mem_append_left _ hp)).1⟩,by simp⟩) fun z=>?_
 rcases List.mem_cons.mp (I.eZ _ z) with e | z
 ·exact p3 e
 ·exact p4 z
end
section
variable {P:Program} {w:World} {K:W.Frag} {mg:Str->Option Value} {base:Heap} {N:List Str} {qual:Str} {scope:Scope} {f:Addr} {cd:Value} {A:Around} {outer:List Env} {s:Shared} {H:Hp} {E:XK}
theorem qp (b:Addr) (h:b∈frs (envOfC qual scope s.heap.objs.size f cd::outer)):b=s.heap.objs.size\/b∈frs outer:=by
 unfold frs at h
 rw [List.filterMap_cons] at h
 exact List.mem_cons.mp h
theorem yW {pins:List (Addr×Obj)} {Z:St} {H':Hp} {s':Shared} {a:Addr} {a0 C:Value} {B h':Heap} (I:Inv (iY (iF P w) P w K mg base N qual scope f cd A outer s H E) pins Z H' s') (jN:B.StaysIn s'.heap) (iB:Calm B (frs (envOfC qual scope s.heap.objs.size f cd::outer)) [] H' s.heap)
  (q:E C none H') (b9:Heap.FlyingW B outer a C a0 h') (sm:s'.heap.UpToSlots h'):iF P w outer H s E (.ref a) { s' with heap:=h' }:=by
 refine ⟨H',a,a0,C,B,rfl,I.os,I.bare,oq I.base iB jN b9.1 (r9 I sm) (oj I),kq I.hok iB jN b9.1 I.gF,b9,fun b hb hf=>iB b hb fun z=>?_,q⟩
 rcases qp b z with e | z
 ·subst e
  rcases hb with hb | ⟨⟨o,hb⟩,_⟩
  ·exact hb I.free
  ·exact absurd (Heap.lt_size hb) (Nat.lt_irrefl _)
 ·exact hf z
theorem v8 (e:Value) (s':Shared) (q:j5 (iY (iF P w) P w K mg base N qual scope f cd A outer s H E) (fun cv x _ H'=>E cv x H') e s'):(iY (iF P w) P w K mg base N qual scope f cd A outer s H E).xe e s':=by
 obtain ⟨pins,Z,H',a,a0,C,B,rfl,I,up,iB,_,q⟩:=q
 exact up.leave (L:=s.heap.objs.size) I.ok.frames rfl fun h' b9 sm=>yW I up.1 iB q b9 sm
theorem leave_new (e:Value) (s':Shared) (q:Ew (iY (iF P w) P w K mg base N qual scope f cd A outer s H E) (fun cv x _ H'=>E cv x H') e s'):(iY (iF P w) P w K mg base N qual scope f cd A outer s H E).xe e s':=by
 obtain ⟨pins,Z,H',a,C,vs,h,rfl,I,made,q⟩:=q
 have hin:∀ env∈(envOfC qual scope s.heap.objs.size f cd::outer),∀ b,env.frame=some b->b∈frs (envOfC qual scope s.heap.objs.size f cd::outer):=fun env he b hb=>List.mem_filterMap.mpr ⟨env,he,hb⟩
 refine wpAny_leaves_madeW (base:=W.hideAll h (frs (envOfC qual scope s.heap.objs.size f cd::outer))) I.ok.frames rfl (fun b o q=>W.of_hideAll _ q) (W.funFrames_hide I.stack hin) made fun h' t b9 tup tn sm=>?_
 have jN:(W.hideAll h (frs (envOfC qual scope s.heap.objs.size f cd::outer))).StaysIn h:=fun b o q=>W.of_hideAll _ q
 have iB:Calm (W.hideAll h (frs (envOfC qual scope s.heap.objs.size f cd::outer))) (frs (envOfC qual scope s.heap.objs.size f cd::outer)) [] H' s.heap:=fun b hb hf=>by
  have:∃ o,h.get? b=some o:=by
   rcases hb with hb | ⟨⟨o,hb⟩,_⟩
   ·cases e:H' b with
    | none=>exact absurd e hb
    | some o=>exact mX (I.hok b o e)
   ·exact gH I hb (by simp [iY])
  obtain ⟨o,e⟩:=this
  exact ⟨o,W.hideAll_get _ e hf⟩
 have sm':h.UpToSlots h':=(Heap.UpToSlots.of_keeps made.keeps).trans sm
 refine ⟨H',a,_,C,_,rfl,I.os,I.bare,oq I.base iB jN b9.1 (r9 I sm') (oj I),kq I.hok iB jN b9.1 I.gF,b9,fun b hb hf=>iB b hb fun z=>?_,q⟩
 rcases qp b z with e | z
 ·subst e
  rcases hb with hb | ⟨⟨o,hb⟩,_⟩
  ·exact hb I.free
  ·exact absurd (Heap.lt_size hb) (Nat.lt_irrefl _)
 ·exact hf z
end
end Fg
end
section
namespace Fg
open PySem PySem.Spec L2
open PyProof.Rows (AllBare envOfC)
noncomputable def AA (K:W.Frag) (C:Addr) (bmB:List Value) (newId:String) (bm:List Value):Prop :=
 ∃ nm q N bs hdct sn sub ab col dd k0 k1 k2 k3 k5, K.lookup C=some (excClassObj nm q C N bs bm hdct sn sub ab col dd k0 k1 k2 k3 k5 newId)/\W.nsOkIn K N=true/\W.nsIn K N "__init__" = some none/\W.tailIn K bmB bm=true
variable {X:Cx} {E:XS}
theorem pZ {x:Str} {C:Addr} {B newId initId:String} {bmB bm:List Value} {a:Expr} {t:TA} {np cpos pos:Pos} (hm:X.mg x=some (.ref C)) (hk:X.env.kindOf x=some .globalImplicit) (hd:(x == ("__debug__" : Str))=false)
  (EC:AA X.K C bmB newId bm) (FB:ExcBaseFacts B newId initId bmB) (calm:X.calm=true) (hs:starEach [a] X.env=[(false,eval a X.env)]) (ha:PA X [a] t) (hx:∀ e s,Ew X E e s->X.xe e s) :
  PS X (.Raise (some (.Call (.Name x np) [a] [] cpos)) none pos) (fun D Z H=>t Z H fun vs H1=>vs.length<=sizeLine/\E (.ref C) none Z H1):=by
 obtain ⟨nm,q,N,bs,hdct,sn,sub,ab,col,dd,k0,k1,k2,k3,k5,lk,ok,ni,tl⟩:=EC
 intro pins s Z H D I ht
 have tail:∀ {h:Heap},X.K.In h->PySem.OwnTail h bmB bm:=fun KX=>W.tail_of_in KX tl
 refine wpAny_Raise_call_subT (C:=C) (nm:=nm) (q:=q) (N:=N) (bs:=bs) (bm:=bm) (hdct:=hdct) (sn:=sn) (sub:=sub) (ab:=ab) (col:=col) (dd:=dd) (k0:=k0) (k1:=k1) (k2:=k2) (k3:=k3) (k5:=k5) FB (mN:=X.base.nsMap N)
  ((tail I.iQ).hasType FB.hasBase) (I.ok.hd calm) (by rw [hs];rfl) (W.nsMap_none_of_in I.mod.Ct ok ni)
  (Calls.Name_function_global I.ok.kind hk (Calls.loadGlobal_global (by rw [I.ok.glob];exact I.mod.glob.keeps I.bk) hm ⟨rfl,?_⟩) hd)
 have z:=ha cpos pins s Z H _ I ht
 rw [hs] at z ⊢
 refine Calls.evalArgs_plain (aX z fun us s2 y=>?_)
 obtain ⟨vs,H1,I1,r,hl,q⟩:=y
 refine ⟨rfl,by rw [<- r.length];exact hl,I1.iQ _ _ lk,(Heap.Ns.of_isNs (W.isNs_of_in I.mod.Ct ok)).keeps I1.bk,tail I1.iQ,fun h' e made=>hx _ _ ⟨pins,Z,H1,e,.ref C,us,s2.heap,rfl,I1,made,q⟩⟩
end Fg
end
section
namespace Fg
open PySem PySem.Spec L2
section
variable {X:Cx} {pins uh:List (Addr×Obj)} {Z:St} {H:Hp} {s:Shared}
theorem uR {B h':Heap} (I:Inv X pins Z H s) (iB:Calm B (frs X.stack) X.ex H X.s₀.heap) (hp:∀ p∈X.pn,B.get? p.1=some p.2) (jN:B.StaysIn s.heap) (st:B.StaysIn h') (sm:s.heap.UpToSlots h'):Inv X [] Z H { s with heap:=h' }:=by
 have cel:∀ c v,s.heap.IsCell c v->h'.IsCell c v:=fun c v ⟨o,e,d⟩=>by
  obtain ⟨sl,e'⟩:=sm c o e (fun vs z=>by rw [d] at z;cases z)
  exact ⟨_,e',d⟩
 refine ⟨I.ok,I.os,I.bare,oq I.base iB jN st (r9 I sm) (oj I),?_,fun x c e=>?_,I.free,I.ee,fun p q=>?_,kq I.hok iB jN st I.gF,I.len⟩
 ·obtain ⟨m,hn,hv⟩:=I.loc
  refine ⟨m,sm.ns hn,fun i x v h1 h2 h3=>?_⟩
  obtain ⟨u,r,lk⟩:=hv i x v h1 h2 h3
  refine ⟨u,r,lk.imp id fun ⟨z,c,h4,h5⟩=>⟨z,c,h4,cel _ _ h5⟩⟩
 ·obtain ⟨v,h5⟩:=I.cell x c e
  exact ⟨v,cel _ _ h5⟩
 ·have q':p∈X.pn:=by simpa using q
  obtain ⟨_,p2⟩:=I.pin p (List.mem_append_left _ q')
  exact ⟨st _ _ (hp p q'),p2⟩
end
section
variable {X:Cx} {pins uh:List (Addr×Obj)} {Z:St} {H:Hp} {s:Shared} {e:Value}
end
section
variable {M:Model} {A:Around} {E:Value->Shared->Prop} {nm q:Str} {C N:Addr} {bs bm:List Value} {hdct:Bool} {sn:List Str} {sub:List Value} {ab:Bool} {col:Option Bool} {dd:Option Addr} {k0 k1 k2 k3 k5:Option Value} {newId:String}
 {nm' q':Str} {C' N':Addr} {bs' bm':List Value} {hdct':Bool} {sn':List Str} {sub':List Value} {ab':Bool} {col':Option Bool} {Ls:Option Addr} {l0 l1 l2 l3 l5:Option Value} {newId':String}
end
end Fg
end
section
namespace Fg
open PySem PySem.Spec L2
theorem Up.pass {M:Model} {A:Around} {E:Value->Shared->Prop} {s:Shared} {α:Type} {Q:α->Shared->Prop} {B:Heap} {l:List Env} {a:Addr} {C a0:Value} {env:Env} {what:String} (up:Up B l a C a0 s.heap)
  (k:∀ h',Up B l a C a0 h'->s.heap.UpToSlots h'->E (.ref a) { s with heap:=h' }):wpAny M A (passOn what (.ref a) env:Sem α) Q E s:=by
 obtain ⟨st,ne,hl,fl,oe,vs,T,oT,ts,q1,q2,q3,q4,q5,q6,q7,q8,q9⟩:=up
 have q0:3<ts.size:=(Array.getElem?_eq_some_iff.mp q9).1
 have uo:∀ x b,b≠T->(s.heap.update T (Obj.mapFields (·.setIfInBounds 3 x))).get? b=s.heap.get? b:=fun x b hb=>Heap.get?_update_other _ _ (Ne.symm hb)
 have pW:∀ b o,s.heap.get? b=some o->(∀ vs,o.data≠.fields vs)->b≠T:=fun b o hb hn z=>by
  rw [z,q7] at hb
  cases hb
  exact hn ts q8
 unfold passOn
 refine wpAny_bind (wpAny_field q1 q3 q4 ?_)
 rw [if_neg (by simp)]
 refine wpAny_bind ?_
 unfold setFlight
 refine wpAny_bind (wpAny_field q1 q3 q4 ?_)
 rw [if_pos (by simp)]
 refine wpAny_setField q7 q8 q0 ?_
 refine wpAny_throw (k _ ⟨fun b o e=>?_,ne,hl.of_keeps fun b o hb hn=>⟨o,(uo _ b (pW b o hb hn)).trans hb,rfl⟩,?_⟩ fun b o hb hn=>⟨o.slots,(uo _ b (pW b o hb hn)).trans hb⟩)
 ·exact (uo _ b (by rintro rfl;rw [q5] at e;cases e)).trans (st b o e)
 ·exact ⟨_,oe,vs,T,_,_,(uo _ a (Ne.symm q6)).trans q1,q2,q3,q4,q5,q6,Heap.get?_update_self _ q7 (Obj.isFreed_of_fields (Obj.data_mapFields q8 _)),Obj.data_mapFields q8 _,Array.getElem?_setIfInBounds_self_of_lt q0⟩
theorem Up.hide {B h h':Heap} {l:List Env} {a c:Addr} {C a0:Value} (up:Up B l a C a0 h) (sb:Heap.SameBut c h h') (hc:∃ o,h.get? c=some o/\∀ vs,o.data≠.fields vs) (hfr:c∉frs l):Up (B.hide c) l a C a0 h':=by
 obtain ⟨st,ne,hl,fl,oe,vs,T,oT,ts,q1,q2,q3,q4,q5,q6,q7,q8,q9⟩:=up
 obtain ⟨oc,hoc,hd⟩:=hc
 have hn:∀ {b:Addr},B.get? b=none->(B.hide c).get? b=none:=fun {b} e=>by
  cases q:(B.hide c).get? b with
  | none=>rfl
  | some o=>rw [Heap.of_hide q] at e;cases e
 have hac:a≠c:=by rintro rfl;rw [hoc] at q1;cases q1;exact hd _ q3
 have hTc:T≠c:=by rintro rfl;rw [hoc] at q7;cases q7;exact hd _ q8
 have ff:∀ l',(∀ b∈frs l',b∈frs l)->h.FunFrames B l'->h'.FunFrames (B.hide c) l':=by
  intro l'
  induction l' with
  | nil=>intro _ _;trivial
  | cons env r ih =>
   intro hs hl'
   obtain ⟨hk,⟨L,o,hf,hnn,ho,hdd⟩,hr⟩:=hl'
   have hL:L∈frs l:=hs L (by unfold frs;rw [List.filterMap_cons,hf];exact List.mem_cons_self)
   exact ⟨hk,⟨L,o,hf,hn hnn,by rw [sb.2 L (by rintro rfl;exact hfr hL)];exact ho,hdd⟩,ih (fun b hb=>hs b (by unfold frs;rw [List.filterMap_cons,hf];exact List.mem_cons_of_mem _ hb)) hr⟩
 refine ⟨fun b o e=>?_,hn ne,ff l (fun _ z=>z) hl,fl,oe,vs,T,oT,ts,by rw [sb.2 a hac];exact q1,q2,q3,q4,hn q5,q6,by rw [sb.2 T hTc];exact q7,q8,q9⟩
 have hbc:b≠c:=by rintro rfl;rw [Heap.hide_self] at e;cases e
 rw [sb.2 b hbc]
 exact st b o (Heap.of_hide e)
noncomputable def qQ (X:Cx):Prop:=∃ env outer L,X.stack=env::outer/\env.frame=some L/\X.env.frame=some L
end Fg
end
section
namespace Fg
open PySem PySem.Spec L2
noncomputable def qY (sp:Sp) (Ex:XS) (t:TA):TE:=fun Z H Q=>t Z H fun vs H1=>sp vs H1 Q fun cv x H'=>Ex cv x Z H'
section
variable {X:Cx} {Ex:XS} {k:Nat} {f:Addr} {fd:FuncData} {ps:List Str} {sp:Sp} {x:Str} {p pos:Pos} {e:Expr} {es:List Expr} {t:TA}
theorem BA {pins:List (Addr×Obj)} {Z:St} {H:Hp} {s:Shared} {Q:VK} {us:List Value} {vs:List V} (F:cB X.prog X.w X.K X.mg X.base (iF X.prog X.w) k f fd ps sp) (hr:cI k X.A) (hb:Binds X.K fd ps []) (hx:∀ e s,j5 X Ex e s->X.xe e s)
  (I:Inv X pins Z H s) (r:Vals vs us) (h:sp vs H Q fun cv x H'=>Ex cv x Z H'):wpAny (model X.prog X.w) X.A (call (.ref f) us) (EP X pins Z Q) X.xe s:=by
 have hl:(us++[]).length=ps.length:=by rw [List.append_nil,<- r.length];exact F.len _ _ _ _ h
 have bd:=hb s us I.iQ hl
 rw [List.append_nil] at bd
 refine wpAny_call (codeAny_mono (F.run X.A X.stack s H ⟨us,[]⟩ us vs Q _ hr I.lP bd r h) fun z s' hq=>?_)
 match z,hq with
 | .error e,hq=>exact passes hx pins Z H s e s' I hq
 | .ok (.ret u),hq=>exact I.after hq
 | .ok .next,hq=>exact hq.elim
 | .ok .brk,hq=>exact hq.elim
 | .ok .cont,hq=>exact hq.elim
theorem yq (F:cB X.prog X.w X.K X.mg X.base (iF X.prog X.w) k f fd ps sp) (hr:cI k X.A) (hg:Gl X x) (hm:X.mg x=some (.ref f)) (hk:W.keepIn X.K (.ref f)=true) (hb:Binds X.K fd ps []) (hx:∀ e s,j5 X Ex e s->X.xe e s)
  (ha:PA X (e::es) t) (hdb:(x == ("__debug__" : Str))=false) (he:starEach (e::es) X.env=(false, eval e X.env)::starEach es X.env) (hpl:(backTo pos (starEach es X.env)).any (·.1)=false) :
  PE X (.Call (.Name x p) (e::es) [] pos) (qY sp Ex t):=fun pins s Z H Q I h =>
 wpAny_Call_Name_kw (fE I hg hm (W.callWith_K (h₀:=X.base) I.ok.mod.Ct hk (aX (ha pos pins s Z H _ I h) fun us s1 ⟨vs,H1,I1,r,q⟩=>⟨I1.iQ,BA F hr hb hx I1 r q⟩) he hpl) hdb)
theorem vV (F:cB X.prog X.w X.K X.mg X.base (iF X.prog X.w) k f fd ps sp) (hr:cI k X.A) (hg:Gl X x) (hm:X.mg x=some (.ref f)) (hk:W.keepIn X.K (.ref f)=true) (hb:Binds X.K fd ps []) (hx:∀ e s, j5 X Ex e s->X.xe e s) (hdb:(x == ("__debug__" : Str))=false) :
  PE X (.Call (.Name x p) [] [] pos) (qY sp Ex kM):=fun pins s Z H Q I h =>
 wpAny_Call_Name_kw (fE I hg hm (W.callWith_K0 I.iQ hk (BA (us:=[]) F hr hb hx I .nil h)) hdb)
noncomputable def xA (sp:Sp) (dv:V) (Ex:XS) (t:TA):TE:=fun Z H Q=>t Z H fun vs H1=>sp (vs++[dv]) H1 Q fun cv x H'=>Ex cv x Z H'
theorem runD {pins:List (Addr×Obj)} {Z:St} {H:Hp} {s:Shared} {Q:VK} {us:List Value} {vs:List V} {dv:V} {du:Value} (F:cB X.prog X.w X.K X.mg X.base (iF X.prog X.w) k f fd ps sp) (hr:cI k X.A) (hb:Binds X.K fd ps [du]) (hd:RelV dv du) (hx:∀ e s,j5 X Ex e s->X.xe e s)
  (I:Inv X pins Z H s) (r:Vals vs us) (h:sp (vs++[dv]) H Q fun cv x H'=>Ex cv x Z H'):wpAny (model X.prog X.w) X.A (call (.ref f) us) (EP X pins Z Q) X.xe s:=by
 have r2:Vals (vs++[dv]) (us++[du]):=r.append (.cons hd .nil)
 have hl:(us++[du]).length=ps.length:=by rw [<- r2.length];exact F.len _ _ _ _ h
 have bd:=hb s us I.iQ hl
 refine wpAny_call (codeAny_mono (F.run X.A X.stack s H ⟨us,[]⟩ (us++[du]) (vs++[dv]) Q _ hr I.lP bd r2 h) fun z s' hq=>?_)
 match z,hq with
 | .error e,hq=>exact passes hx pins Z H s e s' I hq
 | .ok (.ret u),hq=>exact I.after hq
 | .ok .next,hq=>exact hq.elim
 | .ok .brk,hq=>exact hq.elim
 | .ok .cont,hq=>exact hq.elim
theorem yr {dv:V} {du:Value} (F:cB X.prog X.w X.K X.mg X.base (iF X.prog X.w) k f fd ps sp) (hr:cI k X.A) (hg:Gl X x) (hm:X.mg x=some (.ref f)) (hk:W.keepIn X.K (.ref f)=true) (hb:Binds X.K fd ps [du]) (hd:RelV dv du) (hx:∀ e s,j5 X Ex e s->X.xe e s)
  (ha:PA X (e::es) t) (hdb:(x == ("__debug__" : Str))=false) (he:starEach (e::es) X.env=(false, eval e X.env)::starEach es X.env) (hpl:(backTo pos (starEach es X.env)).any (·.1)=false) :
  PE X (.Call (.Name x p) (e::es) [] pos) (xA sp dv Ex t):=fun pins s Z H Q I h =>
 wpAny_Call_Name_kw (fE I hg hm (W.callWith_K (h₀:=X.base) I.ok.mod.Ct hk (aX (ha pos pins s Z H _ I h) fun us s1 ⟨vs,H1,I1,r,q⟩=>⟨I1.iQ,runD F hr hb hd hx I1 r q⟩) he hpl) hdb)
end
end Fg
end
section
namespace Fg
open PySem PySem.Spec L2
theorem Up.back {M:Model} {A:Around} {E:Value->Shared->Prop} {s:Shared} {B:Heap} {l:List Env} {a:Addr} {C a0:Value} {env:Env} (up:Up B l a C a0 s.heap)
  (k:∀ h',Up B l a C a0 h'->s.heap.UpToSlots h'->E (.ref a) { s with heap:=h' }):cameBackBy M A env E (.ref a) s:=by
 obtain ⟨st,ne,hl,fl,oe,vs,T,oT,ts,q1,q2,q3,q4,q5,q6,q7,q8,q9⟩:=up
 have q0:3<ts.size:=(Array.getElem?_eq_some_iff.mp q9).1
 have uo:∀ x b,b≠T->(s.heap.update T (Obj.mapFields (·.setIfInBounds 3 x))).get? b=s.heap.get? b:=fun x b hb=>Heap.get?_update_other _ _ (Ne.symm hb)
 have pW:∀ b o,s.heap.get? b=some o->(∀ vs,o.data≠.fields vs)->b≠T:=fun b o hb hn z=>by
  rw [z,q7] at hb
  cases hb
  exact hn ts q8
 unfold cameBackBy
 refine wpAny_bind (wpAny_field q1 q3 q4 ?_)
 rw [if_neg (by simp)]
 unfold setFlight
 refine wpAny_bind (wpAny_field q1 q3 q4 ?_)
 rw [if_pos (by simp)]
 refine wpAny_setField q7 q8 q0 ?_
 refine k _ ⟨fun b o e=>?_,ne,hl.of_keeps fun b o hb hn=>⟨o,(uo _ b (pW b o hb hn)).trans hb,rfl⟩,?_⟩ fun b o hb hn=>⟨o.slots,(uo _ b (pW b o hb hn)).trans hb⟩
 ·exact (uo _ b (by rintro rfl;rw [q5] at e;cases e)).trans (st b o e)
 ·exact ⟨_,oe,vs,T,_,_,(uo _ a (Ne.symm q6)).trans q1,q2,q3,q4,q5,q6,Heap.get?_update_self _ q7 (Obj.isFreed_of_fields (Obj.data_mapFields q8 _)),Obj.data_mapFields q8 _,Array.getElem?_setIfInBounds_self_of_lt q0⟩
theorem yD {M:Model} {A:Around} {E:Value->Shared->Prop} {s:Shared} {h B:Heap} {env:Env} {outer:List Env} {L a:Addr} {C:Value} {vs:List Value} {Q:Unit->Shared->Prop} (hfr:A.frames=some (env::outer)) (hf:env.frame=some L)
  (made:Heap.MadeExcOf h s.heap a C vs) (st:B.StaysIn h) (hl:h.FunFrames B (env::outer)) (k:∀ a0 h',Up B (env::outer) a C a0 h'->s.heap.UpToSlots h'->Q () { s with heap:=h' }):wpAny M A (noteFrame (.ref a) env) Q E s:=by
 obtain ⟨t,he,_,_⟩:=made.there
 have ne:B.get? a=none:=by
  cases q:B.get? a with
  | none=>rfl
  | some o=>have:=st _ _ q;rw [made.new] at this;cases this
 unfold noteFrame
 simp only [hf]
 refine wpAny_bind (wpAny_field he rfl (x:=.none) rfl ?_)
 rw [if_neg (by simp)]
 refine wpAny_entryW (base:=B) (a0:=.ref t) hfr (hl.of_keeps fun b o hb _=>⟨o,made.keeps b o hb,rfl⟩) hf he (fun b o e=>made.keeps b o (st b o e)) ne rfl (show 1<6 by decide) rfl fun h' nw=>?_
 obtain ⟨x1,x2,x3,x4⟩:=nw
 exact k _ h' ⟨x1,ne,x2,_,x3⟩ x4
theorem rL {X:Cx} {E:XS} (fr:qQ X) (fo:∀ e s,X.xe e s->j5 X E e s\/Ew X E e s) (fx:∀ e s,j5 X E e s->X.xe e s):PassesOwn (model X.prog X.w) X.A X.env X.xe:=by
 intro e s q
 obtain ⟨lP,nM,L,hst,Hu,Mp⟩:=fr
 rcases fo e s q with q | q
 ·obtain ⟨pins,Z,H,a,a0,C,B,rfl,I,up,iB,hp,q⟩:=q
  show wpAny _ X.A (noteFrame (.ref a) X.env) _ _ s
  rw [nQ (env:=X.env) (env':=lP) (Mp.trans Hu.symm)]
  refine Up.note (env:=lP) (outer:=nM) (by rw [I.ok.frames,hst]) Hu (by rw [<- hst];exact up) fun h4 held A0=>?_
  refine (Up.ux held).back fun h5 Ez JB=>fx _ _ ?_
  have J:=uR I iB hp up.1 Ez.1 (A0.trans JB)
  have up':Up B X.stack a C a0 h5:=by rw [hst];exact Ez
  exact ⟨[],Z,H,a,a0,C,B,rfl,J,up',iB,hp,q⟩
 ·obtain ⟨pins,Z,H,a,C,vs,h,rfl,I,made,q⟩:=q
  show wpAny _ X.A (noteFrame (.ref a) X.env) _ _ s
  rw [nQ (env:=X.env) (env':=lP) (Mp.trans Hu.symm)]
  have jN:(W.hideAll h (frs X.stack)).StaysIn h:=fun b o q=>W.of_hideAll _ q
  have iB:Calm (W.hideAll h (frs X.stack)) (frs X.stack) X.ex H X.s₀.heap:=fun b hb hf=>by
   have:∃ o,h.get? b=some o:=by
    rcases hb with hb | ⟨⟨o,hb⟩,nx⟩
    ·cases e:H b with
     | none=>exact absurd e hb
     | some o=>exact mX (I.hok b o e)
    ·exact gH I hb nx
   obtain ⟨o,e⟩:=this
   exact ⟨o,W.hideAll_get _ e hf⟩
  have hp:∀ p∈X.pn,(W.hideAll h (frs X.stack)).get? p.1=some p.2:=fun p hp=>by
   obtain ⟨p1,p2,p3,p4,_⟩:=I.pin p (List.mem_append_left _ hp)
   refine W.hideAll_get _ p1 fun z=>?_
   rcases List.mem_cons.mp (I.eZ _ z) with e | z
   ·exact p3 e
   ·exact p4 z
  have hl:h.FunFrames (W.hideAll h (frs X.stack)) X.stack:=W.funFrames_hide I.stack fun env he b hb=>List.mem_filterMap.mpr ⟨env,he,hb⟩
  refine yD (env:=lP) (outer:=nM) (by rw [show X.A.frames=some X.stack from I.ok.frames,hst]) Hu made jN (hst ▸ hl) fun a0 h4 up4 A0=>?_
  refine up4.back fun h5 Ez JB=>fx _ _ ?_
  have sm:h.UpToSlots h5:=(Heap.UpToSlots.of_keeps made.keeps).trans (A0.trans JB)
  have J:=uR I iB hp jN Ez.1 sm
  have up':Up (W.hideAll h (frs X.stack)) X.stack a C a0 h5:=by
   have z:∀ l,l=X.stack->Up (W.hideAll h (frs X.stack)) l a C a0 h5->Up (W.hideAll h (frs X.stack)) X.stack a C a0 h5:=fun l e u=>e ▸ u
   exact z _ hst.symm Ez
  exact ⟨[],Z,H,a,a0,C,_,rfl,J,up',iB,hp,q⟩
end Fg
end
section
namespace Fg
open PySem L2
mutual
noncomputable def DV (K:W.Frag) (H:Hp):D->V->Prop
 | .aq,v=>v=.aq
 | .bl b,v=>v=.bl b
 | .int i,v=>v=.int i
 | .str x,v=>v=.str x
 | .tup ds,v=>∃ a vs,v=.ref a/\i7 K H a vs/\iC K H ds vs
 | .lst ds,v=>∃ a vs,v=.ref a/\fT K H a vs/\iC K H ds vs
 | .dct _ _,_=>False
 | .ref _,_=>False
noncomputable def iC (K:W.Frag) (H:Hp):List D->List V->Prop
 | [],vs=>vs=[]
 | d::ds,vs=>∃ v ws,vs=v::ws/\DV K H d v/\iC K H ds ws
end
section
variable {B:Bd} {Φ:aS} {E:Gx} {F F' F1:Addr->Prop} {ρ ρ' ρ1:List Addr} {H H' H1:Hp} {M M':MH} {ZD:Sg} {Z:St} {Q:VK}
mutual
theorem RD.dv:∀ {d:D} {v:V},plain d=true->RD B F ρ H d v->DV B.K H d v
 | .aq,v,_,h=>by simp only [RD] at h;simp only [DV];exact h
 | .bl _,v,_,h=>by simp only [RD] at h;simp only [DV];exact h
 | .int _,v,_,h=>by simp only [RD] at h;simp only [DV];exact h
 | .str _,v,_,h=>by simp only [RD] at h;simp only [DV];exact h
 | .tup ds,v,p,h=>by
  simp only [RD] at h;simp only [DV];simp only [plain] at p
  obtain ⟨a,vs,h1,h2,h3⟩:=h
  exact ⟨a,vs,h1,h2.sq,ak.dv p h3⟩
 | .lst ds,v,p,h=>by
  simp only [RD] at h;simp only [DV];simp only [plain] at p
  obtain ⟨a,vs,h1,h2,h3⟩:=h
  exact ⟨a,vs,h1,h2.sq,ak.dv p h3⟩
 | .dct _ _,v,p,h=>by simp [plain] at p
 | .ref _,v,p,h=>by simp [plain] at p
theorem ak.dv:∀ {ds:List D} {vs:List V},ay ds=true->ak B F ρ H ds vs->iC B.K H ds vs
 | [],vs,_,h=>by simp only [ak] at h;simp only [iC];exact h
 | d::ds,vs,p,h=>by
  simp only [ak] at h;simp only [iC];simp only [ay,Bool.and_eq_true] at p
  obtain ⟨v,ws,h1,h2,h3⟩:=h
  exact ⟨v,ws,h1,RD.dv p.1 h2,ak.dv p.2 h3⟩
end
theorem xr {d:D} {v:V} (S:SR B F ρ M H) (p:plain (top M d)=true) (h:RD B F ρ H d v):DV B.K H (top M d) v:=by
 cases d with
 | ref n =>
  cases hM:M[n]? with
  | none=>simp [top,hM,plain] at p
  | some o =>
   cases o with
   | lst ds =>
    obtain ⟨a,vs,e,q,r⟩:=bF (ds:=ds) S h (by simp only [vw,hM])
    simp only [top,hM,plain] at p
    simp only [top,hM,DV]
    exact ⟨a,vs,e,q,ak.dv p r⟩
   | dct _=>simp [top,hM,plain] at p
   | o7 _=>simp [top,hM,plain] at p
   | ins _ _=>simp [top,hM,plain] at p
 | tup ds=>exact RD.dv p h
 | lst ds=>exact RD.dv p h
 | dct _ _=>exact RD.dv p h
 | aq=>exact RD.dv p h
 | bl _=>exact RD.dv p h
 | int _=>exact RD.dv p h
 | str _=>exact RD.dv p h
noncomputable def ya (K:W.Frag) (neg:Bool):R2:=fun x y H Q=>∃ d e,DV K H d x/\DV K H e y/\bE d e=true/\Q (.bl (if neg then !aK d e else aK d e)) H
noncomputable def x9 (K:W.Frag) (neg:Bool):R2:=fun x y H Q=>∃ l b xs,x=.ref l/\y=.ref b/\fT K H l xs/\fT K H b []/\Q (.bl (if neg then !xs.isEmpty else xs.isEmpty)) H
noncomputable def BG (neg:Bool):R2:=fun x y H Q=>∃ a b,x=.bl a/\y=.bl b/\Q (.bl (if neg then !(a == b) else (a == b))) H
noncomputable def yb (B:Bd) (neg:Bool):R2:=fun x y H Q=>∃ a kvs k,y=.ref a/\x=kV k/\Ip B H a kvs/\Q (.bl (if neg then !(cL kvs k).isSome else (cL kvs k).isSome)) H
noncomputable def rH (B:Bd):AH->R2
 | .lt=>rG fun i j=>.bl (decide (i<j))
 | .le=>rG fun i j=>.bl (decide (i<=j))
 | .gt=>rG fun i j=>.bl (decide (j<i))
 | .ge=>rG fun i j=>.bl (decide (j<=i))
 | .eq=>fun x y H Q=>BG false x y H Q\/(ya B.K false x y H Q\/x9 B.K false x y H Q)
 | .ne=>fun x y H Q=>BG true x y H Q\/(ya B.K true x y H Q\/x9 B.K true x y H Q)
 | .CD=>fun x y H Q=>y=.aq/\Q (.bl (decide (x=.aq))) H
 | .rN=>fun x y H Q=>y=.aq/\Q (.bl (!decide (x=.aq))) H
 | .isin=>fun x y H Q=>yb B false x y H Q\/JS B.K false x y H Q
 | .qb=>fun x y H Q=>yb B true x y H Q\/JS B.K true x y H Q
theorem rV {d:D} {v:V} {k:Ky} (h:keyOf d=some k) (r:RD B F ρ H d v):v=kV k:=by
 cases d with
 | int i=>simp only [keyOf] at h;cases h;simp only [RD] at r;exact r
 | str x=>simp only [keyOf] at h;cases h;simp only [RD] at r;exact r
 | aq=>simp only [keyOf] at h;cases h
 | bl _=>simp only [keyOf] at h;cases h
 | tup _=>simp only [keyOf] at h;cases h
 | lst _=>simp only [keyOf] at h;cases h
 | dct _ _=>simp only [keyOf] at h;cases h
 | ref _=>simp only [keyOf] at h;cases h
theorem ow {d:D} {v:V} (h:flat d=true) (r:RD B F ρ H d v):g6 v=true:=by
 cases d <;> first | (simp only [RD] at r;subst r;rfl) | (simp only [flat] at h;cases h)
theorem qx {ds:List D}:∀ {vs:List V},ds.all flat=true->ak B F ρ H ds vs->vs.all g6=true:=by
 induction ds with
 | nil=>intro vs _ r;simp only [ak] at r;subst r;rfl
 | cons d ds ih =>
  intro vs h r
  simp only [ak] at r
  obtain ⟨v,ws,rfl,r1,r2⟩:=r
  simp only [List.all_cons,Bool.and_eq_true] at h ⊢
  exact ⟨ow h.1 r1,ih h.2 r2⟩
theorem CU {d e:D} {v w:V} (h1:flat d=true) (h2:flat e=true) (r1:RD B F ρ H d v) (r2:RD B F ρ H e w):aK d e=AE v w:=by
 cases d <;> first | (simp only [flat] at h1;cases h1;done) | skip
 all_goals (cases e <;> first | (simp only [flat] at h2;cases h2;done) | skip)
 all_goals (simp only [RD] at r1 r2;subst r1 r2;simp only [aK,AE])
 all_goals first | rfl | simp [Bool.beq_eq_decide_eq]
theorem vt {d:D} {v:V} (h1:flat d=true) (r1:RD B F ρ H d v) {ds:List D}:∀ {vs:List V},ds.all flat=true->ak B F ρ H ds vs->(ds.any fun e=>aK e d)=KJ v vs:=by
 induction ds with
 | nil=>intro vs _ r;simp only [ak] at r;subst r;rfl
 | cons e ds ih =>
  intro vs h r
  simp only [ak] at r
  obtain ⟨w,ws,rfl,q1,q2⟩:=r
  simp only [List.all_cons,Bool.and_eq_true] at h
  simp only [List.any_cons,KJ,CU h.1 h1 q1 r1]
  have:=ih h.2 q2
  simp only [KJ] at this
  rw [this]
theorem zz {neg:Bool} {x y:D} {v w:V} {X:XK} {t:Bool} (S:SR B F ρ M H) (rx:RD B F ρ H x v) (ry:RD B F ρ H y w) (hi:Hq M x y=some t)
  (h:Post B (.ok (.bl (if neg then !t else t)) M) F ρ H Q X):yb B neg v w H Q\/JS B.K neg v w H Q:=by
 unfold Hq at hi
 split at hi
 ·rename_i dW hv
  split at hi
  ·rename_i k hk
   cases hi
   obtain ⟨a,kvs,rfl,q,e1,e2⟩:=nC S ry hv
   have:=(k8 (k:=k) e1 e2).2.2
   refine .inl ⟨a,kvs,k,rfl,rV hk rx,q,?_⟩
   rw [<- this]
   exact aj.run h S (by simp only [RD])
  ·cases hi
 ·rename_i ds hv
  split at hi
  ·rename_i hf
   cases hi
   simp only [Bool.and_eq_true] at hf
   obtain ⟨a,vs,rfl,q,r⟩:=bF S ry hv
   refine .inr ⟨a,vs,rfl,.inl q,ow hf.1 rx,qx hf.2 r,?_⟩
   rw [<- vt hf.1 rx hf.2 r]
   exact aj.run h S (by simp only [RD])
  ·cases hi
 ·rename_i ds hv
  split at hi
  ·rename_i hf
   cases hi
   simp only [Bool.and_eq_true] at hf
   obtain ⟨a,vs,rfl,q,r⟩:=kH S ry hv
   refine .inr ⟨a,vs,rfl,.inr q,ow hf.1 rx,qx hf.2 r,?_⟩
   rw [<- vt hf.1 rx hf.2 r]
   exact aj.run h S (by simp only [RD])
  ·cases hi
 ·cases hi
theorem ku {f:D->D} (ih:∀ (d:D) (v:V),plain (f d)=true->RD B F ρ H d v->DV B.K H (f d) v):∀ (ds:List D) (vs:List V),ay (ds.map f)=true->ak B F ρ H ds vs->iC B.K H (ds.map f) vs
 | [],vs,p,h=>by simp only [ak] at h;simp only [List.map_nil,iC];exact h
 | d::ds,vs,p,h=>by
  simp only [ak] at h;simp only [List.map_cons,iC];simp only [List.map_cons,ay,Bool.and_eq_true] at p
  obtain ⟨v,ws,h1,h2,h3⟩:=h
  exact ⟨v,ws,h1,ih d v p.1 h2,ku ih ds ws p.2 h3⟩
theorem u5 (S:SR B F ρ M H) (n:Nat):∀ (d:D) (v:V),plain (deep n M d)=true->RD B F ρ H d v->DV B.K H (deep n M d) v:=by
 induction n with
 | zero=>intro d v p h;exact RD.dv p h
 | succ n ih =>
  intro d v p h
  cases d with
  | ref r =>
   cases hM:M[r]? with
   | none=>simp [deep,hM,plain] at p
   | some o =>
    cases o with
    | lst ds =>
     obtain ⟨a,vs,e,q,r⟩:=bF (ds:=ds) S h (by simp only [vw,hM])
     simp only [deep,hM,plain] at p
     simp only [deep,hM,DV]
     exact ⟨a,vs,e,q,ku ih ds vs p r⟩
    | dct _=>simp [deep,hM,plain] at p
    | o7 _=>simp [deep,hM,plain] at p
    | ins _ _=>simp [deep,hM,plain] at p
  | tup ds =>
   simp only [RD] at h;simp only [deep,plain] at p;simp only [deep,DV]
   obtain ⟨a,vs,h1,h2,h3⟩:=h
   exact ⟨a,vs,h1,h2.sq,ku ih ds vs p h3⟩
  | lst ds =>
   simp only [RD] at h;simp only [deep,plain] at p;simp only [deep,DV]
   obtain ⟨a,vs,h1,h2,h3⟩:=h
   exact ⟨a,vs,h1,h2.sq,ku ih ds vs p h3⟩
  | dct _ _=>simp [deep,plain] at p
  | aq=>exact RD.dv p h
  | bl _=>exact RD.dv p h
  | int _=>exact RD.dv p h
  | str _=>exact RD.dv p h
theorem uX (neg:Bool) {x y:D} {v w:V} {X:XK} (S:SR B F ρ M H) (rx:RD B F ρ H x v) (ry:RD B F ρ H y w) (h:Post B (if bE (top M x) (top M y) then .ok (.bl (if neg then !aK (top M x) (top M y) else aK (top M x) (top M y))) M else (match kZ M x y with | some t=>.ok (.bl (if neg then !t else t)) M | none=>CQ M neg x y)) F ρ H Q X):ya B.K neg v w H Q\/x9 B.K neg v w H Q:=by
 split at h
 ·rename_i hc
  have hc':=hc
  simp only [bE,Bool.and_eq_true] at hc'
  exact .inl ⟨_,_,xr S hc'.1.1 rx,xr S hc'.1.2 ry,hc,aj.run h S (by simp only [RD])⟩
 ·cases hn:kZ M x y with
  | none =>
   rw [hn] at h
   replace h:Post B (CQ M neg x y) F ρ H Q X:=h
   unfold CQ at h
   split at h
   ·rename_i hc
    have hc':=hc
    simp only [bE,Bool.and_eq_true] at hc'
    exact .inl ⟨_,_,u5 S 5 _ _ hc'.1.1 rx,u5 S 5 _ _ hc'.1.2 ry,hc,aj.run h S (by simp only [RD])⟩
   ·exact h.elim
  | some t =>
   rw [hn] at h
   unfold kZ at hn
   split at hn
   ·rename_i xs ys hx hy
    split at hn
    ·rename_i he
     cases hn
     obtain ⟨a,vs,rfl,q1,r1⟩:=bF S rx hx
     obtain ⟨b,ws,rfl,q2,r2⟩:=bF S ry hy
     have l1:=ak.length r1
     have l2:=ak.length r2
     have e2:ws=[]:=by
      rw [List.isEmpty_iff] at he
      subst he
      exact List.eq_nil_of_length_eq_zero l2.symm
     have e1:vs.isEmpty=xs.isEmpty:=by
      cases xs <;> cases vs <;> first | rfl | (simp at l1;done)
     subst e2
     refine .inr ⟨a,b,vs,rfl,rfl,q1,q2,?_⟩
     rw [e1]
     exact aj.run h S (by simp only [RD])
    ·cases hn
   ·cases hn
theorem ko {f:Int->Int->Bool} {x y:D} {v w:V} {X:XK} (S:SR B F ρ M H) (rx:RD B F ρ H x v) (ry:RD B F ρ H y w) (h:Post B (sL M f x y) F ρ H Q X):rG (fun i j=>.bl (f i j)) v w H Q:=by
 cases x with
 | int i=>cases y with
  | int j=>simp only [RD] at rx ry;subst rx ry;exact ⟨_,_,rfl,rfl,aj.run h S (by simp only [RD])⟩
  | _=>exact h.elim
 | _=>exact h.elim
theorem lD {x:D} {v:V} (r:RD B F ρ H x v):jB x=decide (v=.aq):=by
 cases x <;> first | (simp only [RD] at r;subst r;rfl) | (simp only [RD] at r;obtain ⟨_,r⟩:=r;first | (obtain ⟨_,rfl,_⟩:=r;rfl) | (obtain ⟨_,rfl⟩:=r;rfl) | (obtain ⟨_,_,rfl,_⟩:=r;rfl))
theorem Ag {o:AH} {x y:D} {v w:V} {X:XK} (S:SR B F ρ M H) (rx:RD B F ρ H x v) (ry:RD B F ρ H y w) (h:Post B (bG o M x y) F ρ H Q X):rH B o v w H Q:=by
 have eb:∀ {p:Bool×Bool},Aq x y=some p->x=.bl p.1/\y=.bl p.2:=fun {p} hb=>by
  cases x with
  | bl a=>cases y with
   | bl b=>cases hb;exact ⟨rfl,rfl⟩
   | _=>cases hb
  | _=>cases hb
 have nn:jB y=true->w=.aq:=fun q=>by
  have:=lD ry
  rw [q] at this
  exact of_decide_eq_true this.symm
 cases o with
 | lt=>exact ko S rx ry h
 | le=>exact ko S rx ry h
 | gt=>exact ko S rx ry h
 | ge=>exact ko S rx ry h
 | eq =>
  cases hb:Aq x y with
  | some p =>
   obtain ⟨rfl,rfl⟩:=eb hb
   simp only [RD] at rx ry;subst rx ry
   exact .inl ⟨_,_,rfl,rfl,aj.run h S (by simp only [RD];rfl)⟩
  | none =>
   simp only [bG,hb] at h
   exact .inr (uX false S rx ry h)
 | ne =>
  cases hb:Aq x y with
  | some p =>
   obtain ⟨rfl,rfl⟩:=eb hb
   simp only [RD] at rx ry;subst rx ry
   exact .inl ⟨_,_,rfl,rfl,aj.run h S (by simp only [RD];rfl)⟩
  | none =>
   simp only [bG,hb] at h
   exact .inr (uX true S rx ry h)
 | CD =>
  cases hn:jB y with
  | false=>simp only [bG,hn] at h;exact h.elim
  | true =>
   simp only [bG,hn,if_true] at h
   refine ⟨nn hn,?_⟩
   rw [<- lD rx]
   exact aj.run h S (by simp only [RD])
 | rN =>
  cases hn:jB y with
  | false=>simp only [bG,hn] at h;exact h.elim
  | true =>
   simp only [bG,hn,if_true] at h
   refine ⟨nn hn,?_⟩
   rw [<- lD rx]
   exact aj.run h S (by simp only [RD])
 | isin =>
  cases hi:Hq M x y with
  | none=>simp only [bG,hi] at h;exact h.elim
  | some t=>simp only [bG,hi] at h;exact zz (neg:=false) S rx ry hi h
 | qb =>
  cases hi:Hq M x y with
  | none=>simp only [bG,hi] at h;exact h.elim
  | some t=>simp only [bG,hi] at h;exact zz (neg:=true) S rx ry hi h
theorem tR {o:AH} {a b:Fg.E} (h:T B Φ E (.cmp o a b) Z H Q):EJ (rH B o) (T B Φ E a) (T B Φ E b) Z H Q:=by
 obtain ⟨ZD,M,F,ρ,S,r,h⟩:=h
 simp only [ev] at h
 exact T.two S r rfl h fun x y M2 F2 ρ2 H2 v w S2 _ rx ry h2=>Ag S2 rx ry h2
theorem zo (n:Nat) (i:Int):wZ n i=IB n i:=rfl
theorem Au {ds:List D} {vs:List V} {i:Int} {d:D} (r:ak B F ρ H ds vs) (h:cQ ds i=some d):∃ v,Ik vs i=some v/\RD B F ρ H d v:=by
 unfold cQ at h
 unfold Ik
 rw [<- ak.length r]
 cases hx:wZ ds.length i with
 | none=>rw [hx] at h;cases h
 | some j =>
  rw [hx] at h
  rw [zo] at hx
  rw [hx]
  exact ak.get r h
noncomputable def JQ (B:Bd):R2:=fun x y H Q=>∃ a kvs k v,x=.ref a/\y=kV k/\Ip B H a kvs/\cL kvs k=some v/\Q v H
noncomputable def BF (B:Bd):R2:=fun x y H Q=>JP B.K x y H Q\/(JN B.K x y H Q\/(JO x y H Q\/JQ B x y H Q))
theorem zA {x y:D} {v w:V} {X:XK} (S:SR B F ρ M H) (rx:RD B F ρ H x v) (ry:RD B F ρ H y w) (h:Post B (mC M x y) F ρ H Q X):BF B v w H Q:=by
 unfold mC at h
 split at h
 ·simp only [RD] at rx ry;subst rx ry
  split at h
  ·rename_i hl
   split at h
   ·rename_i c hc
    exact .inr (.inr (.inl ⟨_,_,c,rfl,rfl,Nat.le_trans (of_decide_eq_true hl) bB,hc,aj.run h S (by simp only [RD])⟩))
   ·exact h.elim
  ·exact h.elim
 ·split at h
  ·rename_i ds i hv _
   split at h
   ·rename_i d hd
    obtain ⟨a,vs,rfl,q,r⟩:=kH S rx hv
    simp only [RD] at ry;subst ry
    obtain ⟨u,h1,h2⟩:=Au r hd
    exact .inr (.inl ⟨a,vs,i,u,rfl,rfl,q,h1,aj.run h S h2⟩)
   ·exact h.elim
  ·rename_i ds i hv _
   split at h
   ·rename_i d hd
    obtain ⟨a,vs,rfl,q,r⟩:=bF S rx hv
    simp only [RD] at ry;subst ry
    obtain ⟨u,h1,h2⟩:=Au r hd
    exact .inl ⟨a,vs,i,u,rfl,rfl,q,h1,aj.run h S h2⟩
   ·exact h.elim
  ·rename_i dW hv _
   split at h
   ·rename_i k hk
    split at h
    ·rename_i d hd
     obtain ⟨a,kvs,rfl,q,e1,e2⟩:=nC S rx hv
     obtain ⟨u,h1,h2⟩:=(k8 (k:=k) e1 e2).1 d hd
     exact .inr (.inr (.inr ⟨a,kvs,k,u,rfl,rV hk ry,q,h1,aj.run h S h2⟩))
    ·exact h.elim
   ·exact h.elim
  ·exact h.elim
theorem Br {a b:Fg.E} (h:T B Φ E (.idx a b) Z H Q):EJ (BF B) (T B Φ E a) (T B Φ E b) Z H Q:=by
 obtain ⟨ZD,M,F,ρ,S,r,h⟩:=h
 simp only [ev] at h
 exact T.two S r rfl h fun x y M2 F2 ρ2 H2 v w S2 _ rx ry h2=>zA S2 rx ry h2
theorem xM (n d:Nat) (o:Option Int):six n d o=HT.cC n d o:=by cases o <;> rfl
theorem vf {ds:List D} {vs:List V} (r:ak B F ρ H ds vs) (lo hi:Option Int):ak B F ρ H (dg ds lo hi) (qJ vs lo hi):=by
 unfold dg qJ
 rw [ak.length r]
 simp only [xM]
 exact ak.take _ (ak.drop _ r)
noncomputable def JK:V->Option Int->Option Int->Hp->VK->Prop:=fun x lo hi H Q=>∃ z,x=.str z/\z.length<=sizeLine/\Q (.str (cuts z lo hi)) H
noncomputable def BE (B:Bd):V->Option Int->Option Int->Hp->VK->Prop:=fun x lo hi H Q=>JL B.K x lo hi H Q\/(JJ B.K x lo hi H Q\/JK x lo hi H Q)
theorem A8 {fz:Bool} {x:D} {v:V} {lo hi:Option Int} {X:XK} (S:SR B F ρ M H) (rx:RD B F ρ H x v) (h:Post B (sl2 fz M x lo hi) F ρ H Q X):BE B v lo hi H Q:=by
 unfold sl2 at h
 split at h
 ·simp only [RD] at rx;subst rx
  split at h
  ·rename_i hl
   exact .inr (.inr ⟨_,rfl,Nat.le_trans (of_decide_eq_true hl) bB,aj.run h S (by simp only [RD])⟩)
  ·exact h.elim
 ·split at h
  ·rename_i ds hv
   cases x with
   | tup xs =>
    simp only [vw] at hv;cases hv
    simp only [RD] at rx
    obtain ⟨a,vs,rfl,z,r⟩:=rx
    split at h
    ·exact h.elim
    ·rename_i hf
     refine .inr (.inl ⟨a,vs,rfl,z.sq,fun q=>hf ?_,j7 S h (vf r lo hi)⟩)
     simp only [D9,Bool.and_eq_true,decide_eq_true_eq,xM,ak.length r]
     exact q
   | ref n=>simp only [vw] at hv;split at hv <;> cases hv
   | lst _=>simp only [vw] at hv;cases hv
   | dct _ _=>simp only [vw] at hv;cases hv
   | aq=>simp only [vw] at hv;cases hv
   | bl _=>simp only [vw] at hv;cases hv
   | int _=>simp only [vw] at hv;cases hv
   | str _=>simp only [vw] at hv;cases hv
  ·rename_i ds hv
   obtain ⟨a,vs,rfl,q,r⟩:=bF S rx hv
   exact .inl ⟨a,vs,rfl,q,bX S h (vf r lo hi)⟩
  ·exact h.elim
theorem E0 {Q:Option Int->Hp->Prop} (h:TP B Φ E .none Z H Q):tE Z H Q:=by
 obtain ⟨ZD,M,F,ρ,S,r,h⟩:=h
 simp only [CM] at h
 exact aj.run h S rfl
theorem EZ {a:Fg.E} {Q:Option Int->Hp->Prop} (h:TP B Φ E (.some a) Z H Q):DA (T B Φ E a) Z H Q:=by
 obtain ⟨ZD,M,F,ρ,S,r,h⟩:=h
 simp only [CM] at h
 refine ⟨ZD,M,F,ρ,S,r,aj.imp (aj.bind (rel:=RD B) h) fun v H1 ⟨x,M1,F1,ρ1,e1,S1,rx,h1⟩=>?_⟩
 split at h1
 ·simp only [RD] at rx;subst rx
  exact ⟨_,rfl,aj.run h1 S1 rfl⟩
 ·exact h1.elim
theorem EV {fz:Bool} {a:Fg.E} {lo hi:O} (h:T B Φ E (.sl fz a lo hi) Z H Q):tSl (BE B) (T B Φ E a) (TP B Φ E lo) (TP B Φ E hi) Z H Q:=by
 obtain ⟨ZD,M,F,ρ,S,r,h⟩:=h
 simp only [ev] at h
 refine T.one S r rfl h fun x M1 F1 ρ1 H1 v e1 S1 r1 rx h1=>?_
 refine ⟨ZD,M1,F1,ρ1,S1,r1,aj.imp (aj.bind (rel:=fun _ _ _ (a b:Option Int)=>a=b) h1) fun l H2 ⟨l',M2,F2,ρ2,e2,S2,el,h2⟩=>?_⟩
 refine ⟨ZD,M2,F2,ρ2,S2,r1.mono e2,aj.imp (aj.bind (rel:=fun _ _ _ (a b:Option Int)=>a=b) h2) fun u H3 ⟨u',M3,F3,ρ3,e3,S3,eu,h3⟩=>?_⟩
 subst el eu
 exact A8 S3 (RD.mono e3 _ _ (RD.mono e2 _ _ rx)) h3
theorem vB {M:MH} {d:D} {ds:List D} (h:vw M d=.tup ds):d=.tup ds:=by
 cases d with
 | tup xs=>simp only [vw] at h;cases h;rfl
 | ref n=>simp only [vw] at h;split at h <;> cases h
 | lst _=>simp only [vw] at h;cases h
 | dct _ _=>simp only [vw] at h;cases h
 | aq=>simp only [vw] at h;cases h
 | bl _=>simp only [vw] at h;cases h
 | int _=>simp only [vw] at h;cases h
 | str _=>simp only [vw] at h;cases h
theorem uM:∀ {ds:List D} {vs:List V} {ns:List Int},ak B F ρ H ds vs->intsOf ds=some ns->vs=ns.map V.int
 | [],vs,ns,r,h=>by simp only [intsOf] at h;cases h;simp only [ak] at r;subst r;rfl
 | d::ds,vs,ns,r,h=>by
  cases d with
  | int i =>
   simp only [intsOf] at h
   cases hx:intsOf ds with
   | none=>rw [hx] at h;cases h
   | some ms =>
    rw [hx] at h;cases h
    simp only [ak] at r
    obtain ⟨v,ws,rfl,r1,r2⟩:=r
    simp only [RD] at r1;subst r1
    rw [uM r2 hx];rfl
  | _=>simp [intsOf] at h
noncomputable def Ff (B:Bd):List V->Hp->VK->Prop:=fun xs H Q=>(∃ z,xs=[.str z]/\z.length<=sizeLine/\Q (.int z.length) H)\/((∃ p ys,xs=[.ref p]/\(fT B.K H p ys\/i7 B.K H p ys)/\Q (.int ys.length) H)\/(∃ a kvs,xs=[.ref a]/\Ip B H a kvs/\Q (.int kvs.length) H))
noncomputable def rSum (B:Bd):List V->Hp->VK->Prop:=fun xs H Q=>∃ (p:Addr) (ns:List Int),xs=[.ref p]/\fT B.K H p (ns.map V.int)/\Q (.int ns.sum) H
noncomputable def rD (B:Bd):List V->Hp->VK->Prop:=fun xs H Q=>∃ p ys,xs=[.ref p]/\((fT B.K H p ys/\∀ l,H l=none->Q (.ref l) (upd H l (.tup ys)))\/(i7 B.K H p ys/\Q (.ref p) H))
noncomputable def rF (B:Bd):List V->Hp->VK->Prop:=fun xs H Q=>∃ p ys,xs=[.ref p]/\(fT B.K H p ys\/i7 B.K H p ys)/\∀ l,H l=none->Q (.ref l) (upd H l (.lst ys))
noncomputable def Fi (B:Bd):List V->Hp->VK->Prop:=fun xs H Q=>∃ p kvs,xs=[.ref p]/\Ip B H p kvs/\∀ l,H l=none->Q (.ref l) (upd H l (.dK kvs))
noncomputable def rBl (B:Bd):Bl->List V->Hp->VK->Prop
 | .len=>Ff B
 | .sum=>rSum B
 | .tuple=>rD B
 | .list=>rF B
 | .dict=>Fi B
 | _=>fun _ _ _=>False
theorem Fd {d:D} {vs:List V} (r:ak B F ρ H [d] vs):∃ v,vs=[v]/\RD B F ρ H d v:=by
 simp only [ak] at r
 obtain ⟨v,ws,rfl,r1,rfl⟩:=r
 exact ⟨v,rfl,r1⟩
theorem Ao {b:Bl} {fz:Bool} {ds:List D} {vs:List V} {X:XK} (S:SR B F ρ M H) (r:ak B F ρ H ds vs) (h:Post B (wO b fz M ds) F ρ H Q X):rBl B b vs H Q:=by
  unfold wO at h
  split at h
  . obtain ⟨v,rfl,r1⟩:=Fd r
    simp only [RD] at r1;subst r1
    cases b <;> simp only at h <;> first
      | exact h.elim
      | (split at h
         . rename_i hl
           exact .inl ⟨_,rfl,Nat.le_trans (of_decide_eq_true hl) bB,aj.run h S (by simp only [RD])⟩
         . exact h.elim)
  . obtain ⟨v,rfl,r1⟩:=Fd r
    split at h
    . rename_i hv
      obtain ⟨a,ws,rfl,q,rr⟩:=kH S r1 hv
      exact .inr (.inl ⟨a,ws,rfl,.inr q,aj.run h S (by simp only [RD,ak.length rr])⟩)
    . rename_i hv
      obtain ⟨a,ws,rfl,q,rr⟩:=bF S r1 hv
      exact .inr (.inl ⟨a,ws,rfl,.inl q,aj.run h S (by simp only [RD,ak.length rr])⟩)
    . rename_i hv
      obtain ⟨a,kvs,rfl,q,e1,e2⟩:=nC S r1 hv
      refine .inr (.inr ⟨a,kvs,rfl,q,aj.run h S ?_⟩)
      have:=congrArg List.length e1
      simp only [List.length_map] at this
      simp only [RD,this]
    . rename_i hv
      split at h
      . rename_i ns hn
        obtain ⟨a,ws,rfl,q,rr⟩:=bF S r1 hv
        have:=uM rr hn
        subst this
        exact ⟨a,ns,rfl,q,aj.run h S (by simp only [RD])⟩
      . exact h.elim
    . rename_i hv
      obtain ⟨a,ws,rfl,q,rr⟩:=bF S r1 hv
      exact ⟨a,ws,rfl,.inl ⟨q,j7 S h rr⟩⟩
    . rename_i hv
      have ed:=vB hv
      subst ed
      have r1':=r1
      simp only [RD] at r1'
      obtain ⟨a,ws,rfl,q,rr⟩:=r1'
      exact ⟨a,ws,rfl,.inr ⟨q.sq,aj.run h S r1⟩⟩
    . rename_i hv
      obtain ⟨a,ws,rfl,q,rr⟩:=bF S r1 hv
      exact ⟨a,ws,rfl,.inl q,bX S h rr⟩
    . rename_i hv
      obtain ⟨a,ws,rfl,q,rr⟩:=kH S r1 hv
      exact ⟨a,ws,rfl,.inr q,bX S h rr⟩
    . rename_i dW hv
      obtain ⟨a,kvs,rfl,q,e1,e2⟩:=nC S r1 hv
      refine ⟨a,kvs,rfl,q,fun p hp=>?_⟩
      have e0:Ext F ρ H F (ρ++[p]) (upd H p (.dK kvs)):=⟨⟨S.sep,fun _ q=>q,fun a q _=>ao (by rintro rfl;exact q hp),List.prefix_append _ _,fun a q=>by
        rcases List.mem_append.mp q with q | q
        . exact .inl q
        . rw [List.mem_singleton.mp q];exact .inr hp,fun _ q=>.inl q⟩,fun b w u q=>by rw [ao (by rintro rfl;rw [hp] at q;cases q)];exact q⟩
      obtain ⟨S',e⟩:=S.lv (o:=.dK kvs) (u:=.dct dW) hp ⟨kvs,aA,e1,ak.mono e0 _ _ e2⟩
      refine h _ _ _ _ e S' ?_
      simp only [RD]
      refine ⟨p,?_,rfl⟩
      rw [<- S.len,List.getElem?_append_right (Nat.le_refl _),Nat.sub_self];rfl
    . exact h.elim
  . exact h.elim
theorem nJ {b:Bl} {fz:Bool} {es:Es} (h:T B Φ E (.blt b fz es) Z H Q):Jq (rBl B b) (TL B Φ E es) Z H Q:=by
 obtain ⟨ZD,M,F,ρ,S,r,h⟩:=h
 simp only [ev] at h
 exact TL.one S r rfl h fun x M1 F1 ρ1 H1 v _ S1 _ rx h1=>Ao S1 rx h1
end
end Fg
end
section
namespace Fg
open PySem L2
noncomputable def LM (B:Bd) (o:Out) (F:Addr->Prop) (ρ:List Addr) (H:Hp) (Dn:Ends) (E:Gx):Prop :=
 match o with
 | .nx ZD=>∀ Z,RS B F ρ H ZD Z->Dn.nx Z H
 | .rt d=>∀ v,RD B F ρ H d v->Dn.rt v H
 | .bk ZD=>∀ Z,RS B F ρ H ZD Z->Dn.bk Z H
 | .ct ZD=>∀ Z,RS B F ρ H ZD Z->Dn.ct Z H
 | .xc c ZD=>∀ Z cv x,RS B F ρ H ZD Z->B.exc c cv->E.e cv x Z H
noncomputable def aR (B:Bd) (r:R Out) (F:Addr->Prop) (ρ:List Addr) (H:Hp) (Dn:Ends) (E:Gx):Prop :=
 match r with
 | .ok o M'=>∀ F' ρ' H',Ext F ρ H F' ρ' H'->SR B F' ρ' M' H'->LM B o F' ρ' H' Dn E
 | .exc _ _=>False
 | .bad=>False
noncomputable def TC (B:Bd) (Φ:aS) (E:Gx) (s:S):TS:=fun Dn Z H=>∃ (ZD:Sg) (M:MH) (F:Addr->Prop) (ρ:List Addr),
 SR B F ρ M H/\RS B F ρ H ZD Z/\aR B (ex Φ s ZD M) F ρ H Dn E
noncomputable def Eu (B:Bd) (Φ:aS) (E:Gx) (s:Ss):TS:=fun Dn Z H=>∃ (ZD:Sg) (M:MH) (F:Addr->Prop) (ρ:List Addr),
 SR B F ρ M H/\RS B F ρ H ZD Z/\aR B (exs Φ s ZD M) F ρ H Dn E
section
variable {B:Bd} {Φ:aS} {E:Gx} {F F' F1:Addr->Prop} {ρ ρ' ρ1:List Addr} {H H' H1:Hp} {M M':MH} {ZD:Sg} {Z:St} {Q:VK} {Dn:Ends}
theorem aR.weak {r:R Out} (e:Ext F ρ H F1 ρ1 H1) (h:aR B r F ρ H Dn E):aR B r F1 ρ1 H1 Dn E:=by
 cases r with
 | ok d M'=>exact fun F' ρ' H' e' S=>h F' ρ' H' (e.trans e') S
 | exc c M'=>exact h
 | bad=>exact h
theorem aR.use {α β:Type} {rel:(Addr->Prop)->List Addr->Hp->α->β->Prop} {x:R α} {f:α->MH->R Out} (r:RS B F ρ H ZD Z) (h:aR B (x.use ZD f) F ρ H Dn E) :
  aj rel B x F ρ H (fun v H'=>∃ d M' F' ρ',Ext F ρ H F' ρ' H'/\SR B F' ρ' M' H'/\rel F' ρ' H' d v/\aR B (f d M') F' ρ' H' Dn E) (fun cv x H'=>E.e cv x Z H'):=by
 cases x with
 | ok d M'=>exact fun F' ρ' H' v e S q=>⟨d,M',F',ρ',e,S,q,aR.weak e h⟩
 | exc c M'=>exact fun F' ρ' H' cv x e S q=>h F' ρ' H' e S Z cv x (r.mono e) q
 | bad=>exact h
theorem TC.one {a:Fg.E} {f:D->MH->R Out} {W:V->Hp->Prop} (S:SR B F ρ M H) (r:RS B F ρ H ZD Z) (h:aR B ((ev Φ a ZD M).use ZD f) F ρ H Dn E)
  (k:∀ x M1 F1 ρ1 H1 v,Ext F ρ H F1 ρ1 H1->SR B F1 ρ1 M1 H1->RS B F1 ρ1 H1 ZD Z->RD B F1 ρ1 H1 x v->aR B (f x M1) F1 ρ1 H1 Dn E->W v H1):T B Φ E a Z H W:=by
 refine ⟨ZD,M,F,ρ,S,r,aj.imp (aR.use (rel:=RD B) r h) fun v H1 ⟨x,M1,F1,ρ1,e,S1,rx,h1⟩=>?_⟩
 exact k x M1 F1 ρ1 H1 v e S1 (r.mono e) rx h1
theorem aR.run {o:Out} (h:aR B (.ok o M) F ρ H Dn E) (S:SR B F ρ M H):LM B o F ρ H Dn E:=h F ρ H S.refl S
theorem tM {i:Nat} {e:Fg.E} (h:TC B Φ E (.set i e) Dn Z H):xB (T B Φ E e) (lG i) Dn Z H:=by
 obtain ⟨ZD,M,F,ρ,S,r,h⟩:=h
 simp only [ex] at h
 exact TC.one S r h fun x M1 F1 ρ1 H1 v e1 S1 r1 rx h1=>aR.run h1 S1 _ (r1.set rx i)
theorem E2 {e:Fg.E} (h:TC B Φ E (.ex e) Dn Z H):DE (T B Φ E e) Dn Z H:=by
 obtain ⟨ZD,M,F,ρ,S,r,h⟩:=h
 simp only [ex] at h
 exact TC.one S r h fun x M1 F1 ρ1 H1 v e1 S1 r1 rx h1=>aR.run h1 S1 _ r1
theorem Be {e:Fg.E} (h:TC B Φ E (.ret e) Dn Z H):Jg (T B Φ E e) Dn Z H:=by
 obtain ⟨ZD,M,F,ρ,S,r,h⟩:=h
 simp only [ex] at h
 exact TC.one S r h fun x M1 F1 ρ1 H1 v e1 S1 r1 rx h1=>aR.run h1 S1 _ rx
theorem Bp {c:Fg.E} {a b:Ss} (h:TC B Φ E (.ifs c a b) Dn Z H):Jm (TB B Φ E c) (Eu B Φ E a) (Eu B Φ E b) Dn Z H:=by
 obtain ⟨ZD,M,F,ρ,S,r,h⟩:=h
 simp only [ex] at h
 refine TC.one S r h fun x M1 F1 ρ1 H1 v e1 S1 r1 rx h1=>?_
 split at h1
 ·simp only [RD] at rx;subst rx
  exact ⟨true,rfl,by dsimp only;rw [if_pos rfl];exact ⟨ZD,M1,F1,ρ1,S1,r1,h1⟩⟩
 ·simp only [RD] at rx;subst rx
  exact ⟨false,rfl,by dsimp only;rw [if_neg Bool.false_ne_true];exact ⟨ZD,M1,F1,ρ1,S1,r1,h1⟩⟩
 ·exact h1.elim
theorem xN (h:Eu B Φ E .nil Dn Z H):DC Dn Z H:=by
 obtain ⟨ZD,M,F,ρ,S,r,h⟩:=h
 simp only [exs] at h
 exact aR.run h S _ r
theorem vJ {s:S} {ss:Ss} (h:Eu B Φ E (.cons s ss) Dn Z H):Jf (TC B Φ E s) (Eu B Φ E ss) Dn Z H:=by
 obtain ⟨ZD,M,F,ρ,S,r,h⟩:=h
 simp only [exs] at h
 refine ⟨ZD,M,F,ρ,S,r,?_⟩
 cases hx:ex Φ s ZD M with
 | ok o M1 =>
  rw [hx] at h
  simp only [R.af] at h
  intro F' ρ' H' e S'
  cases o with
  | nx Z1=>exact fun Z' r'=>⟨Z1,M1,F',ρ',S',r',aR.weak e h⟩
  | rt d=>exact fun v q=>h F' ρ' H' e S' v q
  | bk Z1=>exact fun Z' q=>h F' ρ' H' e S' Z' q
  | ct Z1=>exact fun Z' q=>h F' ρ' H' e S' Z' q
  | xc c Z1=>exact fun Z' cv x q1 q2=>h F' ρ' H' e S' Z' cv x q1 q2
 | exc c M1=>rw [hx] at h;exact h
 | bad=>rw [hx] at h;exact h
theorem sR {fz:Bool} {x:D} {ds:List D} {v:V} {vs:List V} {X:XK} (S:SR B F ρ M H) (rx:RD B F ρ H x v) (r:ak B F ρ H ds vs) (h:Post B (gM .append fz M x ds) F ρ H Q X):nL v vs H Q:=by
 unfold gM at h
 cases hl:gY M x with
 | none=>rw [hl] at h;exact h.elim
 | some q =>
  rw [hl] at h
  obtain ⟨rfl,hx⟩:=kj hl
  cases ds with
  | nil=>exact h.elim
  | cons d t =>
   cases t with
   | cons _ _=>exact h.elim
   | nil =>
    simp only [nT,vY] at h
    split at h
    ·rename_i hlen
     obtain ⟨w,rfl,r1⟩:=Fd r
     simp only [RD] at rx
     obtain ⟨a,h1,rfl⟩:=rx
     obtain ⟨ws,h2,h3⟩:=S.obj _ a _ h1 hx
     refine ⟨a,ws,w,rfl,rfl,h2,?_,?_⟩
     ·rw [<- ak.length h3];exact Nat.lt_of_lt_of_le (of_decide_eq_true hlen) bB
     ·obtain ⟨S',e⟩:=S.st (o:=.lst (ws++[w])) (u:=.lst (q.2++[d])) h1 (fun _ _ q=>by rw [h2] at q;cases q) ⟨_,aA,ak.bD (Ext0.at_ S h1) _ _ (h3.append (ak.cons r1 ak.nil))⟩
      exact h _ _ _ _ e S' (by simp only [RD])
    ·exact h.elim
theorem Fj {k:Key} {d:D} {v:V} (rd:RD B F ρ H d v):∀ {dW:List (Ky×D)} {kvs:List (Key×V)},kvs.map (·.1)=dW.map (·.1)->ak B F ρ H (dW.map (·.2)) (kvs.map (·.2)) ->
  (putK kvs k v).map (·.1)=(put dW k d).map (·.1)/\ak B F ρ H ((put dW k d).map (·.2)) ((putK kvs k v).map (·.2)):=by
 have hmap:∀ {dW:List (Ky×D)} {kvs:List (Key×V)},kvs.map (·.1)=dW.map (·.1)->ak B F ρ H (dW.map (·.2)) (kvs.map (·.2)) ->
   (kvs.map fun kv=>if kv.1=k then (kv.1,v) else kv).map (·.1)=(dW.map fun kv=>if kv.1=k then (kv.1,d) else kv).map (·.1) /\
   ak B F ρ H ((dW.map fun kv=>if kv.1=k then (kv.1,d) else kv).map (·.2)) ((kvs.map fun kv=>if kv.1=k then (kv.1,v) else kv).map (·.2)):=by
  intro dW
  induction dW with
  | nil=>intro kvs h1 h2;cases kvs with | nil=>exact ⟨rfl,ak.nil⟩ | cons _ _=>simp at h1
  | cons p dW ih =>
   intro kvs h1 h2
   cases kvs with
   | nil=>simp at h1
   | cons q kvs =>
    obtain ⟨pk,pd⟩:=p
    obtain ⟨qk,qv⟩:=q
    simp only [List.map_cons,List.cons.injEq] at h1
    simp only [List.map_cons,ak] at h2
    obtain ⟨u,ws,e,r1,r2⟩:=h2
    cases e
    obtain ⟨e1,e2⟩:=h1
    subst e1
    obtain ⟨i1,i2⟩:=ih e2 r2
    by_cases hk:qk=k
    ·simp only [List.map_cons,if_pos hk,i1,true_and]
     exact ak.cons rd i2
    ·simp only [List.map_cons,if_neg hk,i1,true_and]
     exact ak.cons r1 i2
 have hany:∀ {dW:List (Ky×D)} {kvs:List (Key×V)},kvs.map (·.1)=dW.map (·.1)->(kvs.any fun kv=>decide (kv.1=k))=(dW.any fun kv=>decide (kv.1=k)):=by
  intro dW
  induction dW with
  | nil=>intro kvs h1;cases kvs with | nil=>rfl | cons _ _=>simp at h1
  | cons p dW ih =>
   intro kvs h1
   cases kvs with
   | nil=>simp at h1
   | cons q kvs =>
    simp only [List.map_cons,List.cons.injEq] at h1
    simp only [List.any_cons,h1.1,ih h1.2]
 intro dW kvs h1 h2
 unfold putK put
 rw [hany h1]
 split
 ·exact hmap h1 h2
 ·simp only [List.map_append,List.map_cons,List.map_nil,h1,true_and]
  exact h2.append (ak.cons rd ak.nil)
noncomputable def Walks (B:Bd) (J:It) (src:D) (ds:List D) (F0:Addr->Prop) (ρ0:List Addr) (M0:MH) (H0:Hp):Prop :=
 ∀ (i:Nat) F ρ M H,Ext F0 ρ0 H0 F ρ H->SR B F ρ M H->aI M0 src M=true ->
  (∀ d,ds[i]? = some d->J.go i H/\∀ x H',J.LU i H x H'->∃ F',Ext F ρ H F' ρ H'/\SR B F' ρ M H'/\RD B F' ρ H' d x)/\(ds.length<=i->J.stop i H)
noncomputable def Er (B:Bd) (Φ:aS) (E:Gx) (c:Src):TI:=fun Z H R=>∃ (ZD:Sg) (M:MH) (F:Addr->Prop) (ρ:List Addr),
 SR B F ρ M H/\RS B F ρ H ZD Z/\aj (fun F' ρ' H' (p:D×List D×Bool) (J:It)=>∀ M',bZ Φ c ZD M=.ok p M'->SR B F' ρ' M' H'->Walks B J p.1 p.2.1 F' ρ' M' H' /\
  (p.2.2=true->∃ n a,p.1=.ref n/\ρ'[n]? = some a/\E.th a/\∀ w v,H a≠some (.gI w v))) B (bZ Φ c ZD M) F ρ H R (fun cv x H'=>E.e cv x Z H')
noncomputable def thE (th:Addr->Prop) (D:Ends):Ends:=⟨fun Z H=>∃ H',AF th H H'/\D.nx Z H',fun v H=>∃ H',AF th H H'/\D.rt v H',fun Z H=>∃ H',AF th H H'/\D.bk Z H',fun Z H=>∃ H',AF th H H'/\D.ct Z H'⟩
theorem cU {F1:Addr->Prop} {ρ0 ρ1:List Addr} {H1:Hp} {M1:MH} {fl:Bool} {src:D} {th:Addr->Prop} (S:SR B F1 ρ1 M1 H1) (e:Ext F ρ H F1 ρ1 H1) (hp:ρ0 <+: ρ1) (wz:fl=true->∃ n a,src=.ref n/\ρ0[n]? = some a/\th a/\∀ w v,H a≠some (.gI w v)) :
  ∃ H',AF th H1 H'/\SR B F1 ρ1 (fU fl src M1) H'/\Ext F ρ H F1 ρ1 H'/\Ext0 F1 ρ1 H1 F1 ρ1 H':=by
 have same:SR B F1 ρ1 M1 H1/\Ext F ρ H F1 ρ1 H1/\Ext0 F1 ρ1 H1 F1 ρ1 H1:=⟨S,e,S.refl.toExt0⟩
 cases fl with
 | false=>exact ⟨H1,.inl rfl,by cases src <;> exact same⟩
 | true =>
  obtain ⟨n,a,rfl,hn,ht,hz⟩:=wz rfl
  have hn1:ρ1[n]? = some a:=by
   obtain ⟨t,rfl⟩:=hp
   obtain ⟨q,_⟩:=List.getElem?_eq_some_iff.mp hn
   rw [List.getElem?_append_left q];exact hn
  cases hM:M1[n]? with
  | none=>refine ⟨H1,.inl rfl,?_⟩;simp only [fU,hM];exact same
  | some o =>
   cases o with
   | o7 kvs =>
    obtain ⟨o,kws,h1,S'⟩:=S.uw hn1 hM
    refine ⟨upd H1 a (.dK kws),.inr ⟨a,o,kws,ht,h1,rfl⟩,?_,e.thaw (List.mem_of_getElem? hn1) hz S.sep,Ext0.at_ S hn1⟩
    simp only [fU,hM];exact S'
   | lst _=>refine ⟨H1,.inl rfl,?_⟩;simp only [fU,hM];exact same
   | dct _=>refine ⟨H1,.inl rfl,?_⟩;simp only [fU,hM];exact same
   | ins _ _=>refine ⟨H1,.inl rfl,?_⟩;simp only [fU,hM];exact same
theorem RS.bD {F':Addr->Prop} {ρ':List Addr} {H':Hp} (e:Ext0 F ρ H F' ρ' H') (h:RS B F ρ H ZD Z):RS B F' ρ' H' ZD Z :=
 ⟨h.len,fun i d q=>let ⟨v,h1,h2⟩:=h.get i d q;⟨v,h1,RD.bD e d v h2⟩⟩
noncomputable def IF (tg:List Nat) (K:W.Frag):TG:=match tg with
 | [i]=>lG i
 | [i,j]=>fun v Z H Q=>∃ a x y,v=.ref a/\i7 K H a [x,y]/\Q ((Z.set i (some x)).set j (some y)) H
 | []=>fun _ _ _ _=>False
 | tg=>fun v Z H Q=>∃ a xs,v=.ref a/\i7 K H a xs/\xs.length=tg.length/\Q (i9 tg xs Z) H
theorem RS.all:∀ {tg:List Nat} {ds:List D} {vs:List V} {ZD:Sg} {Z:St},RS B F ρ H ZD Z->ak B F ρ H ds vs->RS B F ρ H (i9 tg ds ZD) (i9 tg vs Z)
 | [],ds,vs,ZD,Z,r,q=>by cases ds <;> cases vs <;> exact r
 | i::tg,[],vs,ZD,Z,r,q=>by simp only [ak] at q;subst q;exact r
 | i::tg,d::ds,vs,ZD,Z,r,q=>by
  simp only [ak] at q
  obtain ⟨v,ws,rfl,h1,h2⟩:=q
  exact RS.all (tg:=tg) (ds:=ds) (vs:=ws) (ZD:=ZD.set i (some d)) (Z:=Z.set i (some v)) (r.set h1 i) h2
theorem kP {tg:List Nat} {d:D} {v:V} {Z1:Sg} {N:St->Hp->Prop} (r:RS B F ρ H ZD Z) (rd:RD B F ρ H d v) (h:sets tg M d ZD=some Z1) (k:∀ Z',RS B F ρ H Z1 Z'->N Z' H):IF tg B.K v Z H N:=by
 unfold sets at h
 split at h
 ·cases h;exact k _ (r.set rd _)
 ·split at h
  ·cases h
   simp only [RD] at rd
   obtain ⟨a,vs,rfl,z,q⟩:=rd
   simp only [ak] at q
   obtain ⟨x,ws,rfl,r1,y,us,rfl,r2,rfl⟩:=q
   exact ⟨a,x,y,rfl,z.sq,k _ ((r.set r1 _).set r2 _)⟩
  ·cases h
 ·cases h
 ·rename_i h1 h2 h3
  split at h
  ·rename_i xs
   split at h
   ·rename_i hl
    cases h
    simp only [RD] at rd
    obtain ⟨a,vs,rfl,z,q⟩:=rd
    have e:vs.length=tg.length:=by rw [<- ak.length q];exact hl
    match tg,h1,h2,h3,e,k with
    | i::j::l::tg,_,_,_,e,k=>exact ⟨a,vs,rfl,z.sq,e,k _ (r.all q)⟩
    | [i],h1,_,_,_,_=>exact absurd rfl (h1 i)
    | [i,j],_,h2,_,_,_=>exact absurd rfl (h2 i j)
    | [],_,_,h3,_,_=>exact absurd rfl h3
   ·cases h
  ·cases h
theorem Bs {tg:List Nat} {it:Src} {b:Ss} (h:TC B Φ E (.for tg it b) Dn Z H):Jo (Er B Φ E it) (IF tg B.K) (Eu B Φ E b) (thE E.th Dn) Z H:=by
 obtain ⟨ZD,M,F,ρ,S,r,h⟩:=h
 simp only [ex] at h
 refine ⟨ZD,M,F,ρ,S,r,?_⟩
 cases hx:bZ Φ it ZD M with
 | exc c M1=>rw [hx] at h;exact fun F' ρ' H' cv x e S q=>h F' ρ' H' e S Z cv x (r.mono e) q
 | bad=>rw [hx] at h;exact h
 | ok p M0 =>
  rw [hx] at h
  simp only [R.aT] at h
  intro F0 ρ0 H0 J e0 S0 hw
  obtain ⟨W,wz⟩:=hw M0 rfl S0
  obtain ⟨src,ds,fl⟩:=p
  dsimp only at h W wz
  refine ⟨fun i m Z H1=>m+i=ds.length/\∃ ZD M F1 ρ1,Ext F ρ H F1 ρ1 H1/\Ext F0 ρ0 H0 F1 ρ1 H1/\SR B F1 ρ1 M H1/\RS B F1 ρ1 H1 ZD Z/\aI M0 src M=true/\aR B ((aG (exs Φ b) tg (aI M0 src) (ds.drop i) ZD M).fin (fU fl src)) F ρ H Dn E,⟨ds.length,by simp,ZD,M0,F0,ρ0,e0,S0.refl,S0,r.mono e0,?_,h⟩,?_⟩
  ·unfold aI;split <;> simp
  rintro i m Z1 H1 ⟨hm,MT,M1,F1,ρ1,eo,e1,S1,r1,st1,p1⟩
  obtain ⟨wgo,wst⟩:=W i F1 ρ1 M1 H1 e1 S1 st1
  by_cases hi:i<ds.length
  ·have hd:ds.drop i=ds[i]::ds.drop (i+1):=List.drop_eq_getElem_cons hi
   rw [hd] at p1
   unfold aG at p1
   obtain ⟨go,yl⟩:=wgo ds[i] (List.getElem?_eq_getElem hi)
   refine .inr ⟨go,fun Z' H'=>∃ ZD M F1 ρ1,Ext F ρ H F1 ρ1 H'/\Ext F0 ρ0 H0 F1 ρ1 H'/\SR B F1 ρ1 M H'/\RS B F1 ρ1 H' ZD Z'/\aI M0 src M=true/\aR B ((aG (exs Φ b) tg (aI M0 src) (ds.drop (i+1)) ZD M).fin (fU fl src)) F ρ H Dn E,fun Z' H' q=>⟨m-1,by omega,by omega,q⟩,fun x H' hy=>?_⟩
   obtain ⟨F',e2,S2,rd⟩:=yl x H' hy
   split at p1
   ·exact p1.elim
   ·rename_i Z2 hs
    refine kP (r1.mono e2) rd hs fun Z' r'=>⟨Z2,M1,F',ρ1,S2,r',?_⟩
    cases hb:exs Φ b Z2 M1 with
    | exc c M3=>rw [hb] at p1;exact p1.elim
    | bad=>rw [hb] at p1;exact p1.elim
    | ok o M3 =>
     rw [hb] at p1
     simp only [R.af] at p1
     intro F3 ρ3 H3 e3 S3
     have Le:=(eo.trans e2).trans e3
     have Lo:=(e1.trans e2).trans e3
     cases o with
     | nx Z3 =>
      simp only at p1
      intro Z4 r4
      split at p1
      ·rename_i hst
       exact ⟨Z3,M3,F3,ρ3,Le,Lo,S3,r4,hst,p1⟩
      ·exact p1.elim
     | ct Z3 =>
      simp only at p1
      intro Z4 r4
      split at p1
      ·rename_i hst
       exact ⟨Z3,M3,F3,ρ3,Le,Lo,S3,r4,hst,p1⟩
      ·exact p1.elim
     | bk Z3 =>
      obtain ⟨H4,t4,S4,e4,x4⟩:=cU S3 Le Lo.r wz
      exact fun Z4 r4=>⟨H4,t4,p1 F3 ρ3 H4 e4 S4 Z4 (r4.bD x4)⟩
     | rt d =>
      obtain ⟨H4,t4,S4,e4,x4⟩:=cU S3 Le Lo.r wz
      exact fun v q=>⟨H4,t4,p1 F3 ρ3 H4 e4 S4 v (RD.bD x4 _ _ q)⟩
     | xc c Z3 =>
      obtain ⟨H4,t4,S4,e4,x4⟩:=cU S3 Le Lo.r wz
      exact fun Z4 cv x q1 q2=>E.cl cv x Z4 H3 H4 t4 (p1 F3 ρ3 H4 e4 S4 Z4 cv x (q1.bD x4) q2)
  ·have hd:ds.drop i=[]:=List.drop_eq_nil_of_le (Nat.le_of_not_lt hi)
   rw [hd] at p1
   unfold aG at p1
   obtain ⟨H4,t4,S4,e4,x4⟩:=cU S1 eo e1.r wz
   exact .inl ⟨wst (Nat.le_of_not_lt hi),H4,t4,p1 F1 ρ1 H4 e4 S4 Z1 (r1.bD x4)⟩
theorem vI {c:Fg.E} {b:Ss} (h:TC B Φ E (.while c b) Dn Z H):xx (TB B Φ E c) (Eu B Φ E b) Dn Z H:=by
 obtain ⟨ZD,M,F,ρ,S,r,h⟩:=h
 simp only [ex] at h
 refine ⟨fun m Z H=>∃ ZD M F ρ,SR B F ρ M H/\RS B F ρ H ZD Z/\aR B (bw (ev Φ c) (exs Φ b) m ZD M) F ρ H Dn E,⟨Φ.turns,ZD,M,F,ρ,S,r,h⟩,?_⟩
 rintro m Z1 H1 ⟨MT,M1,F1,ρ1,S1,r1,p1⟩
 cases m with
 | zero=>simp only [bw] at p1;exact p1.elim
 | succ m =>
  simp only [bw] at p1
  refine TC.one S1 r1 p1 fun x M2 F2 ρ2 H2 v e2 S2 r2 rx h2=>?_
  split at h2
  ·simp only [RD] at rx;subst rx
   refine ⟨false,rfl,?_⟩
   exact aR.run h2 S2 _ r2
  ·simp only [RD] at rx;subst rx
   refine ⟨true,rfl,?_⟩
   refine ⟨fun Z' H'=>∃ ZD M F ρ,SR B F ρ M H'/\RS B F ρ H' ZD Z'/\aR B (bw (ev Φ c) (exs Φ b) m ZD M) F ρ H' Dn E,fun Z' H' q=>⟨m,Nat.lt_succ_self m,q⟩,MT,M2,F2,ρ2,S2,r2,?_⟩
   cases hb:exs Φ b MT M2 with
   | exc c M3=>rw [hb] at h2;exact h2
   | bad=>rw [hb] at h2;exact h2
   | ok o M3 =>
    rw [hb] at h2
    simp only [R.af] at h2
    intro F3 ρ3 H3 e3 S3
    cases o with
    | nx Z3=>exact fun Z4 r4=>⟨Z3,M3,F3,ρ3,S3,r4,aR.weak e3 h2⟩
    | ct Z3=>exact fun Z4 r4=>⟨Z3,M3,F3,ρ3,S3,r4,aR.weak e3 h2⟩
    | bk Z3=>exact fun Z4 r4=>h2 F3 ρ3 H3 e3 S3 Z4 r4
    | rt d=>exact fun v q=>h2 F3 ρ3 H3 e3 S3 v q
    | xc c Z3=>exact fun Z4 cv x q1 q2=>h2 F3 ρ3 H3 e3 S3 Z4 cv x q1 q2
  ·exact h2.elim
end
end Fg
end
section
namespace Fg
open PySem PySem.Spec L2
section
variable {X:Cx} {pins:List (Addr×Obj)} {Z:L2.St} {H:Hp} {s:Shared}
mutual
theorem DV.inj (I:Inv X pins Z H s):∀ {d e:D} {x:V},DV X.K H d x->DV X.K H e x->d=e
 | .aq,e,x,h,h'=>by
  simp only [DV] at h;subst h
  cases e <;> simp only [DV] at h' <;> first | rfl | (cases h';done) | (obtain ⟨_,_,q,_⟩:=h';cases q)
 | .bl b,e,x,h,h'=>by
  simp only [DV] at h;subst h
  cases e <;> simp only [DV] at h' <;> first | (cases h';rfl) | (cases h';done) | (obtain ⟨_,_,q,_⟩:=h';cases q)
 | .int b,e,x,h,h'=>by
  simp only [DV] at h;subst h
  cases e <;> simp only [DV] at h' <;> first | (cases h';rfl) | (cases h';done) | (obtain ⟨_,_,q,_⟩:=h';cases q)
 | .str b,e,x,h,h'=>by
  simp only [DV] at h;subst h
  cases e <;> simp only [DV] at h' <;> first | (cases h';rfl) | (cases h';done) | (obtain ⟨_,_,q,_⟩:=h';cases q)
 | .tup ds,e,x,h,h'=>by
  simp only [DV] at h
  obtain ⟨a,vs,rfl,h1,h2⟩:=h
  cases e with
  | tup es =>
   simp only [DV] at h'
   obtain ⟨b,ws,q,h3,h4⟩:=h'
   cases q
   have:=I.mP h1 h3
   subst this
   rw [iC.inj I h2 h4]
  | lst es =>
   simp only [DV] at h'
   obtain ⟨b,ws,q,h3,h4⟩:=h'
   cases q
   obtain ⟨its,_,t1,_⟩:=I.tuple h1
   obtain ⟨its',_,t2,_⟩:=I.list h3
   exact absurd rfl (SeqAt.ne_of_list_tuple t2.isList t1)
  | aq=>simp only [DV] at h';cases h'
  | bl _=>simp only [DV] at h';cases h'
  | int _=>simp only [DV] at h';cases h'
  | str _=>simp only [DV] at h';cases h'
  | dct _ _=>simp only [DV] at h'
  | ref _=>simp only [DV] at h'
 | .lst ds,e,x,h,h'=>by
  simp only [DV] at h
  obtain ⟨a,vs,rfl,h1,h2⟩:=h
  cases e with
  | lst es =>
   simp only [DV] at h'
   obtain ⟨b,ws,q,h3,h4⟩:=h'
   cases q
   have:=I.lq h1 h3
   subst this
   rw [iC.inj I h2 h4]
  | tup es =>
   simp only [DV] at h'
   obtain ⟨b,ws,q,h3,h4⟩:=h'
   cases q
   obtain ⟨its,_,t1,_⟩:=I.list h1
   obtain ⟨its',_,t2,_⟩:=I.tuple h3
   exact absurd rfl (SeqAt.ne_of_list_tuple t1.isList t2)
  | aq=>simp only [DV] at h';cases h'
  | bl _=>simp only [DV] at h';cases h'
  | int _=>simp only [DV] at h';cases h'
  | str _=>simp only [DV] at h';cases h'
  | dct _ _=>simp only [DV] at h'
  | ref _=>simp only [DV] at h'
 | .dct _ _,e,x,h,h'=>by simp only [DV] at h
 | .ref _,e,x,h,h'=>by simp only [DV] at h
theorem iC.inj (I:Inv X pins Z H s):∀ {ds es:List D} {xs:List V},iC X.K H ds xs->iC X.K H es xs->ds=es
 | [],es,xs,h,h'=>by
  simp only [iC] at h;subst h
  cases es with
  | nil=>rfl
  | cons _ _=>simp only [iC] at h';obtain ⟨_,_,q,_⟩:=h';cases q
 | d::ds,es,xs,h,h'=>by
  simp only [iC] at h
  obtain ⟨v,ws,rfl,h1,h2⟩:=h
  cases es with
  | nil=>simp only [iC] at h';cases h'
  | cons e es =>
   simp only [iC] at h'
   obtain ⟨v',ws',q,h3,h4⟩:=h'
   cases q
   rw [DV.inj I h1 h3,iC.inj I h2 h4]
end
mutual
theorem lO {K:W.Frag} {H:Hp}:∀ {d:D} {x:V},DV K H d x->aK d d=true
 | .aq,_,_=>by simp only [aK]
 | .bl b,_,_=>by simp only [aK];simp
 | .int i,_,_=>by simp only [aK];simp
 | .str x,_,_=>by simp only [aK];simp
 | .tup ds,_,h=>by simp only [DV] at h;obtain ⟨_,_,_,_,q⟩:=h;simp only [aK];exact jo q
 | .lst ds,_,h=>by simp only [DV] at h;obtain ⟨_,_,_,_,q⟩:=h;simp only [aK];exact jo q
 | .dct _ _,_,h=>by simp only [DV] at h
 | .ref _,_,h=>by simp only [DV] at h
theorem jo {K:W.Frag} {H:Hp}:∀ {ds:List D} {xs:List V},iC K H ds xs->dP ds ds=true
 | [],_,_=>by simp only [dP]
 | d::ds,_,h=>by
  simp only [iC] at h
  obtain ⟨_,_,_,h1,h2⟩:=h
  simp only [dP,lO h1,jo h2,Bool.and_self]
end
theorem iC.length {K:W.Frag} {H:Hp}:∀ {ds:List D} {xs:List V},iC K H ds xs->ds.length=xs.length
 | [],_,h=>by simp only [iC] at h;subst h;rfl
 | d::ds,_,h=>by
  simp only [iC] at h
  obtain ⟨_,_,rfl,_,h2⟩:=h
  simp [iC.length h2]
theorem iC.get {K:W.Frag} {H:Hp}:∀ {ds:List D} {xs:List V} {i:Nat} (h1:i<ds.length),iC K H ds xs->∃ v,xs[i]? = some v/\DV K H ds[i] v
 | [],_,i,h1,_=>by simp at h1
 | d::ds,_,i,h1,h=>by
  simp only [iC] at h
  obtain ⟨v,ws,rfl,q1,q2⟩:=h
  cases i with
  | zero=>exact ⟨v,rfl,q1⟩
  | succ i =>
   simp only [List.length_cons] at h1
   obtain ⟨u,a,b⟩:=iC.get (i:=i) (by omega) q2
   exact ⟨u,by simpa using a,by simpa using b⟩
theorem cP:∀ {ds:List D} {i:Nat} (h:i<ds.length),dep ds[i]<=deps ds
 | [],i,h=>by simp at h
 | d::ds,i,h=>by
  cases i with
  | zero=>simp only [List.getElem_cons_zero,deps];omega
  | succ i =>
   simp only [List.length_cons] at h
   have:=cP (ds:=ds) (i:=i) (by omega)
   simp only [List.getElem_cons_succ,deps];omega
theorem dj:∀ (ds es:List D),((List.range (min ds.length es.length)).all (fun j=>match ds[j]?,es[j]? with | some a,some b=>aK a b | _,_=>false)&&ds.length == es.length)=dP ds es
 | [],[]=>by simp [dP]
 | [],e::es=>by simp [dP]
 | d::ds,[]=>by simp [dP]
 | d::ds,e::es=>by
  have ih:=dj ds es
  simp only [dP,<- ih]
  simp only [List.length_cons,Nat.succ_min_succ,List.range_succ_eq_map,List.all_cons,List.all_map,Function.comp_def]
  simp [Bool.and_assoc]
noncomputable def EqB (s:Shared) (d e:D) (u w:Value) (n:Nat):Prop:=∀ A:Around,A.units+n<cLine->SeqAt.RcAt A s u w (aK d e)/\SeqAt.EqAt A s u w (aK d e)
theorem in1_units (A:Around):A.in1.units=A.units+1:=rfl
theorem aZ:∀ {ds:List D} {i:Nat},ay ds=true->∀ (h:i<ds.length),plain ds[i]=true
 | [],i,_,h=>by simp at h
 | d::ds,i,p,h=>by
  simp only [ay,Bool.and_eq_true] at p
  cases i with
  | zero=>exact p.1
  | succ i=>simp only [List.length_cons] at h;simpa using aZ p.2 (by omega)
theorem eq_data (I:Inv X pins Z H s):∀ (n:Nat) (d e:D) (x y:V) (u w:Value),dep d+dep e<n->DV X.K H d x->DV X.K H e y->plain d=true->plain e=true->RelV x u->RelV y w->EqB s d e u w (min (dep d) (dep e)+1)
 | 0,_,_,_,_,_,_,h,_,_,_,_,_,_=>absurd h (Nat.not_lt_zero _)
 | n+1, d, e, x, y, u, w, hn, hd, he, pd, pe, ru, rw'=>by
  have ih:=eq_data I n
  intro A hA
  have hu:A.units<cLine:=by omega
  cases d with
  | bl _=>simp [plain] at pd
  | dct _ _=>simp [plain] at pd
  | ref _=>simp [plain] at pd
  | aq =>
   simp only [DV] at hd;subst hd;cases (show u=Value.none from ru)
   cases e with
   | bl _=>simp [plain] at pe
   | dct _ _=>simp [plain] at pe
   | ref _=>simp [plain] at pe
   | aq =>
    simp only [DV] at he;subst he;cases (show w=Value.none from rw')
    simp only [aK];exact ⟨SeqAt.RcAt.none_none,SeqAt.EqAt.same _⟩
   | int j =>
    simp only [DV] at he;subst he;obtain ⟨t',rfl⟩:=(show ∃ t,w=Value.int j t from rw')
    simp only [aK];exact ⟨SeqAt.RcAt.none_int j t',SeqAt.EqAt.none_int j t'⟩
   | str j =>
    simp only [DV] at he;subst he;obtain ⟨t',rfl⟩:=(show ∃ t,w=Value.str j t from rw')
    simp only [aK];exact ⟨SeqAt.RcAt.none_str j t',SeqAt.EqAt.none_str j t'⟩
   | tup es =>
    simp only [DV] at he
    obtain ⟨b,ws,rfl,h3,h4⟩:=he
    cases (show w=Value.ref b from rw')
    obtain ⟨its,_,t1,_⟩:=I.tuple h3
    simp only [aK];exact ⟨SeqAt.RcAt.none_tuple  t1 hu,SeqAt.EqAt.none_tuple  t1 hu⟩
   | lst es =>
    simp only [DV] at he
    obtain ⟨b,ws,rfl,h3,h4⟩:=he
    cases (show w=Value.ref b from rw')
    obtain ⟨its,_,t1,_⟩:=I.list h3
    simp only [aK];exact ⟨SeqAt.RcAt.none_list  t1.isList hu,SeqAt.EqAt.none_list  t1.isList hu⟩
  | int i =>
   simp only [DV] at hd;subst hd;obtain ⟨t,rfl⟩:=(show ∃ t,u=Value.int i t from ru)
   cases e with
   | bl _=>simp [plain] at pe
   | dct _ _=>simp [plain] at pe
   | ref _=>simp [plain] at pe
   | aq =>
    simp only [DV] at he;subst he;cases (show w=Value.none from rw')
    simp only [aK];exact ⟨SeqAt.RcAt.int_none i t,SeqAt.EqAt.int_none i t⟩
   | int j =>
    simp only [DV] at he;subst he;obtain ⟨t',rfl⟩:=(show ∃ t,w=Value.int j t from rw')
    have z:aK (D.int i) (D.int j)=(i == j):=by simp only [aK];by_cases q:i=j <;> simp [q]
    rw [z];exact ⟨SeqAt.RcAt.int_int i t j t',SeqAt.EqAt.int_int i t j t'⟩
   | str j =>
    simp only [DV] at he;subst he;obtain ⟨t',rfl⟩:=(show ∃ t,w=Value.str j t from rw')
    simp only [aK];exact ⟨SeqAt.RcAt.int_str i t j t',SeqAt.EqAt.int_str i t j t'⟩
   | tup es =>
    simp only [DV] at he
    obtain ⟨b,ws,rfl,h3,h4⟩:=he
    cases (show w=Value.ref b from rw')
    obtain ⟨its,_,t1,_⟩:=I.tuple h3
    simp only [aK];exact ⟨SeqAt.RcAt.int_tuple i t t1 hu,SeqAt.EqAt.int_tuple i t t1 hu⟩
   | lst es =>
    simp only [DV] at he
    obtain ⟨b,ws,rfl,h3,h4⟩:=he
    cases (show w=Value.ref b from rw')
    obtain ⟨its,_,t1,_⟩:=I.list h3
    simp only [aK];exact ⟨SeqAt.RcAt.int_list i t t1.isList hu,SeqAt.EqAt.int_list i t t1.isList hu⟩
  | str i =>
   simp only [DV] at hd;subst hd;obtain ⟨t,rfl⟩:=(show ∃ t,u=Value.str i t from ru)
   cases e with
   | bl _=>simp [plain] at pe
   | dct _ _=>simp [plain] at pe
   | ref _=>simp [plain] at pe
   | aq =>
    simp only [DV] at he;subst he;cases (show w=Value.none from rw')
    simp only [aK];exact ⟨SeqAt.RcAt.str_none i t,SeqAt.EqAt.str_none i t⟩
   | int j =>
    simp only [DV] at he;subst he;obtain ⟨t',rfl⟩:=(show ∃ t,w=Value.int j t from rw')
    simp only [aK];exact ⟨SeqAt.RcAt.str_int i t j t',SeqAt.EqAt.str_int i t j t'⟩
   | str j =>
    simp only [DV] at he;subst he;obtain ⟨t',rfl⟩:=(show ∃ t,w=Value.str j t from rw')
    have z:aK (D.str i) (D.str j)=(i == j):=by simp only [aK];by_cases q:i=j <;> simp [q]
    rw [z];exact ⟨SeqAt.RcAt.str_str i t j t',SeqAt.EqAt.str_str i t j t'⟩
   | tup es =>
    simp only [DV] at he
    obtain ⟨b,ws,rfl,h3,h4⟩:=he
    cases (show w=Value.ref b from rw')
    obtain ⟨its,_,t1,_⟩:=I.tuple h3
    simp only [aK];exact ⟨SeqAt.RcAt.str_tuple i t t1 hu,SeqAt.EqAt.str_tuple i t t1 hu⟩
   | lst es =>
    simp only [DV] at he
    obtain ⟨b,ws,rfl,h3,h4⟩:=he
    cases (show w=Value.ref b from rw')
    obtain ⟨its,_,t1,_⟩:=I.list h3
    simp only [aK];exact ⟨SeqAt.RcAt.str_list i t t1.isList hu,SeqAt.EqAt.str_list i t t1.isList hu⟩
  | tup ds =>
   simp only [DV] at hd
   obtain ⟨a,vs,rfl,h1,h2⟩:=hd
   cases (show u=Value.ref a from ru)
   obtain ⟨its,r1,t1,_⟩:=I.tuple h1
   cases e with
   | bl _=>simp [plain] at pe
   | dct _ _=>simp [plain] at pe
   | ref _=>simp [plain] at pe
   | aq =>
    simp only [DV] at he;subst he;cases (show w=Value.none from rw')
    simp only [aK];exact ⟨SeqAt.RcAt.tuple_none  t1 hu,SeqAt.EqAt.tuple_none  t1 hu⟩
   | int j =>
    simp only [DV] at he;subst he;obtain ⟨t',rfl⟩:=(show ∃ t,w=Value.int j t from rw')
    simp only [aK];exact ⟨SeqAt.RcAt.tuple_int j t' t1 hu,SeqAt.EqAt.tuple_int j t' t1 hu⟩
   | str j =>
    simp only [DV] at he;subst he;obtain ⟨t',rfl⟩:=(show ∃ t,w=Value.str j t from rw')
    simp only [aK];exact ⟨SeqAt.RcAt.tuple_str j t' t1 hu,SeqAt.EqAt.tuple_str j t' t1 hu⟩
   | lst es =>
    simp only [DV] at he
    obtain ⟨b,ws,rfl,h3,h4⟩:=he
    cases (show w=Value.ref b from rw')
    obtain ⟨its2,r2,t2,_⟩:=I.list h3
    simp only [aK];exact ⟨SeqAt.RcAt.tuple_list t1 t2.isList hu,SeqAt.EqAt.of_refs (Ne.symm (SeqAt.ne_of_list_tuple t2.isList t1)) (SeqAt.RcAt.tuple_list t1 t2.isList hu)⟩
   | tup es =>
    simp only [DV] at he
    obtain ⟨b,ws,rfl,h3,h4⟩:=he
    cases (show w=Value.ref b from rw')
    obtain ⟨its2,r2,t2,_⟩:=I.tuple h3
    have FU:ay ds=true:=by simpa [plain] using pd
    have FT:ay es=true:=by simpa [plain] using pe
    have l1:its.length=ds.length:=by rw [<- r1.length,h2.length]
    have l2:its2.length=es.length:=by rw [<- r2.length,h4.length]
    let f:Nat->Bool:=fun j=>match ds[j]?,es[j]? with | some a,some b=>aK a b | _,_=>false
    have items:∀ j (h1:j<its.toArray.size) (h2:j<its2.toArray.size),SeqAt.EqAt A.in1 s its.toArray[j] its2.toArray[j] (f j):=by
     intro j j1 j2
     have nZ:j<ds.length:=by rw [<- l1];simpa using j1
     have nY:j<es.length:=by rw [<- l2];simpa using j2
     obtain ⟨v,e1,q1⟩:=h2.get nZ
     obtain ⟨v',e2,q2⟩:=h4.get nY
     obtain ⟨z,e3,q3⟩:=r1.get e1
     obtain ⟨z',e4,q4⟩:=r2.get e2
     have i1:its.toArray[j]=z:=by
      have:its[j]? = some its[j]:=List.getElem?_eq_getElem (by simpa using j1)
      rw [this] at e3;simpa using Option.some.inj e3
     have i2:its2.toArray[j]=z':=by
      have:its2[j]? = some its2[j]:=List.getElem?_eq_getElem (by simpa using j2)
      rw [this] at e4;simpa using Option.some.inj e4
     have g1:=cP nZ
     have g2:=cP nY
     have hf:f j=aK ds[j] es[j]:=by simp only [f,List.getElem?_eq_getElem nZ,List.getElem?_eq_getElem nY]
     rw [i1,i2,hf]
     simp only [dep] at hn hA
     exact (ih ds[j] es[j] v v' z z' (by omega) q1 q2 (aZ FU nZ) (aZ FT nY) q3 q4 A.in1 (by rw [in1_units];omega)).2
    have xC:its.toArray.size=ds.length:=by simpa using l1
    have AN:its2.toArray.size=es.length:=by simpa using l2
    have rc:SeqAt.RcAt A s (.ref a) (.ref b) (aK (.tup ds) (.tup es)):=by
     have q:=SeqAt.RcAt.tuples t1 t2 hu items
     rw [xC,AN,dj] at q
     simp only [aK];exact q
    refine ⟨rc,?_⟩
    by_cases hab:a=b
    ·subst hab
     have i1:DV X.K H (.tup ds) (.ref a):=by simp only [DV];exact ⟨a,vs,rfl,h1,h2⟩
     have i2:DV X.K H (.tup es) (.ref a):=by simp only [DV];exact ⟨a,ws,rfl,h3,h4⟩
     rw [DV.inj I i1 i2,lO i2]
     exact SeqAt.EqAt.same _
    ·exact SeqAt.EqAt.of_refs hab rc
  | lst ds =>
   simp only [DV] at hd
   obtain ⟨a,vs,rfl,h1,h2⟩:=hd
   cases (show u=Value.ref a from ru)
   obtain ⟨its,r1,t1,_⟩:=I.list h1
   cases e with
   | bl _=>simp [plain] at pe
   | dct _ _=>simp [plain] at pe
   | ref _=>simp [plain] at pe
   | aq =>
    simp only [DV] at he;subst he;cases (show w=Value.none from rw')
    simp only [aK];exact ⟨SeqAt.RcAt.list_none  t1.isList hu,SeqAt.EqAt.list_none  t1.isList hu⟩
   | int j =>
    simp only [DV] at he;subst he;obtain ⟨t',rfl⟩:=(show ∃ t,w=Value.int j t from rw')
    simp only [aK];exact ⟨SeqAt.RcAt.list_int j t' t1.isList hu,SeqAt.EqAt.list_int j t' t1.isList hu⟩
   | str j =>
    simp only [DV] at he;subst he;obtain ⟨t',rfl⟩:=(show ∃ t,w=Value.str j t from rw')
    simp only [aK];exact ⟨SeqAt.RcAt.list_str j t' t1.isList hu,SeqAt.EqAt.list_str j t' t1.isList hu⟩
   | tup es =>
    simp only [DV] at he
    obtain ⟨b,ws,rfl,h3,h4⟩:=he
    cases (show w=Value.ref b from rw')
    obtain ⟨its2,r2,t2,_⟩:=I.tuple h3
    simp only [aK];exact ⟨SeqAt.RcAt.list_tuple t1.isList t2 hu,SeqAt.EqAt.of_refs (SeqAt.ne_of_list_tuple t1.isList t2) (SeqAt.RcAt.list_tuple t1.isList t2 hu)⟩
   | lst es =>
    simp only [DV] at he
    obtain ⟨b,ws,rfl,h3,h4⟩:=he
    cases (show w=Value.ref b from rw')
    obtain ⟨its2,r2,t2,_⟩:=I.list h3
    have FU:ay ds=true:=by simpa [plain] using pd
    have FT:ay es=true:=by simpa [plain] using pe
    have l1:its.length=ds.length:=by rw [<- r1.length,h2.length]
    have l2:its2.length=es.length:=by rw [<- r2.length,h4.length]
    let f:Nat->Bool:=fun j=>match ds[j]?,es[j]? with | some a,some b=>aK a b | _,_=>false
    have items:∀ j (h1:j<its.toArray.size) (h2:j<its2.toArray.size),SeqAt.EqAt A.in1 s its.toArray[j] its2.toArray[j] (f j):=by
     intro j j1 j2
     have nZ:j<ds.length:=by rw [<- l1];simpa using j1
     have nY:j<es.length:=by rw [<- l2];simpa using j2
     obtain ⟨v,e1,q1⟩:=h2.get nZ
     obtain ⟨v',e2,q2⟩:=h4.get nY
     obtain ⟨z,e3,q3⟩:=r1.get e1
     obtain ⟨z',e4,q4⟩:=r2.get e2
     have i1:its.toArray[j]=z:=by
      have:its[j]? = some its[j]:=List.getElem?_eq_getElem (by simpa using j1)
      rw [this] at e3;simpa using Option.some.inj e3
     have i2:its2.toArray[j]=z':=by
      have:its2[j]? = some its2[j]:=List.getElem?_eq_getElem (by simpa using j2)
      rw [this] at e4;simpa using Option.some.inj e4
     have g1:=cP nZ
     have g2:=cP nY
     have hf:f j=aK ds[j] es[j]:=by simp only [f,List.getElem?_eq_getElem nZ,List.getElem?_eq_getElem nY]
     rw [i1,i2,hf]
     simp only [dep] at hn hA
     exact (ih ds[j] es[j] v v' z z' (by omega) q1 q2 (aZ FU nZ) (aZ FT nY) q3 q4 A.in1 (by rw [in1_units];omega)).2
    have xC:its.toArray.size=ds.length:=by simpa using l1
    have AN:its2.toArray.size=es.length:=by simpa using l2
    have rc:SeqAt.RcAt A s (.ref a) (.ref b) (aK (.lst ds) (.lst es)):=by
     by_cases hz:ds.length=es.length
     ·have q:=SeqAt.RcAt.lists t1.isList t2.isList (by rw [xC,AN,hz]) hu items
      have z:=dj ds es
      rw [show min ds.length es.length=ds.length by omega,show (ds.length == es.length)=true by simpa using hz,Bool.and_true] at z
      rw [xC,z] at q
      simp only [aK];exact q
     ·have q:=SeqAt.RcAt.lists_lengths t1.isList t2.isList (by rw [xC,AN];simpa using hz) hu
      have z:=dj ds es
      rw [show (ds.length == es.length)=false by simpa using hz,Bool.and_false] at z
      simp only [aK,<- z];exact q
    refine ⟨rc,?_⟩
    by_cases hab:a=b
    ·subst hab
     have i1:DV X.K H (.lst ds) (.ref a):=by simp only [DV];exact ⟨a,vs,rfl,h1,h2⟩
     have i2:DV X.K H (.lst es) (.ref a):=by simp only [DV];exact ⟨a,ws,rfl,h3,h4⟩
     rw [DV.inj I i1 i2,lO i2]
     exact SeqAt.EqAt.same _
    ·exact SeqAt.EqAt.of_refs hab rc
theorem ne_data (I:Inv X pins Z H s):∀ (d e:D) (x y:V) (u w:Value),DV X.K H d x->DV X.K H e y->plain d=true->plain e=true->RelV x u->RelV y w->∀ A:Around,A.units+(min (dep d) (dep e)+1)<cLine->SeqAt.RcNeAt A s u w (!aK d e)
 | d, e, x, y, u, w, hd, he, pd, pe, ru, rw'=>by
  have ih:=eq_data I (dep d+dep e)
  intro A hA
  have hu:A.units<cLine:=by omega
  cases d with
  | bl _=>simp [plain] at pd
  | dct _ _=>simp [plain] at pd
  | ref _=>simp [plain] at pd
  | aq =>
   simp only [DV] at hd;subst hd;cases (show u=Value.none from ru)
   cases e with
   | bl _=>simp [plain] at pe
   | dct _ _=>simp [plain] at pe
   | ref _=>simp [plain] at pe
   | aq =>
    simp only [DV] at he;subst he;cases (show w=Value.none from rw')
    simp only [aK,Bool.not_false,Bool.not_true];exact SeqAt.RcNeAt.none_none
   | int j =>
    simp only [DV] at he;subst he;obtain ⟨t',rfl⟩:=(show ∃ t,w=Value.int j t from rw')
    simp only [aK,Bool.not_false,Bool.not_true];exact SeqAt.RcNeAt.none_int j t'
   | str j =>
    simp only [DV] at he;subst he;obtain ⟨t',rfl⟩:=(show ∃ t,w=Value.str j t from rw')
    simp only [aK,Bool.not_false,Bool.not_true];exact SeqAt.RcNeAt.none_str j t'
   | tup es =>
    simp only [DV] at he
    obtain ⟨b,ws,rfl,h3,h4⟩:=he
    cases (show w=Value.ref b from rw')
    obtain ⟨its,_,t1,_⟩:=I.tuple h3
    simp only [aK,Bool.not_false,Bool.not_true];exact SeqAt.RcNeAt.none_tuple  t1 hu
   | lst es =>
    simp only [DV] at he
    obtain ⟨b,ws,rfl,h3,h4⟩:=he
    cases (show w=Value.ref b from rw')
    obtain ⟨its,_,t1,_⟩:=I.list h3
    simp only [aK,Bool.not_false,Bool.not_true];exact SeqAt.RcNeAt.none_list  t1.isList hu
  | int i =>
   simp only [DV] at hd;subst hd;obtain ⟨t,rfl⟩:=(show ∃ t,u=Value.int i t from ru)
   cases e with
   | bl _=>simp [plain] at pe
   | dct _ _=>simp [plain] at pe
   | ref _=>simp [plain] at pe
   | aq =>
    simp only [DV] at he;subst he;cases (show w=Value.none from rw')
    simp only [aK,Bool.not_false,Bool.not_true];exact SeqAt.RcNeAt.int_none i t
   | int j =>
    simp only [DV] at he;subst he;obtain ⟨t',rfl⟩:=(show ∃ t,w=Value.int j t from rw')
    have z:aK (D.int i) (D.int j)=(i == j):=by simp only [aK];by_cases q:i=j <;> simp [q]
    rw [z];exact SeqAt.RcNeAt.int_int i t j t'
   | str j =>
    simp only [DV] at he;subst he;obtain ⟨t',rfl⟩:=(show ∃ t,w=Value.str j t from rw')
    simp only [aK,Bool.not_false,Bool.not_true];exact SeqAt.RcNeAt.int_str i t j t'
   | tup es =>
    simp only [DV] at he
    obtain ⟨b,ws,rfl,h3,h4⟩:=he
    cases (show w=Value.ref b from rw')
    obtain ⟨its,_,t1,_⟩:=I.tuple h3
    simp only [aK,Bool.not_false,Bool.not_true];exact SeqAt.RcNeAt.int_tuple i t t1 hu
   | lst es =>
    simp only [DV] at he
    obtain ⟨b,ws,rfl,h3,h4⟩:=he
    cases (show w=Value.ref b from rw')
    obtain ⟨its,_,t1,_⟩:=I.list h3
    simp only [aK,Bool.not_false,Bool.not_true];exact SeqAt.RcNeAt.int_list i t t1.isList hu
  | str i =>
   simp only [DV] at hd;subst hd;obtain ⟨t,rfl⟩:=(show ∃ t,u=Value.str i t from ru)
   cases e with
   | bl _=>simp [plain] at pe
   | dct _ _=>simp [plain] at pe
   | ref _=>simp [plain] at pe
   | aq =>
    simp only [DV] at he;subst he;cases (show w=Value.none from rw')
    simp only [aK,Bool.not_false,Bool.not_true];exact SeqAt.RcNeAt.str_none i t
   | int j =>
    simp only [DV] at he;subst he;obtain ⟨t',rfl⟩:=(show ∃ t,w=Value.int j t from rw')
    simp only [aK,Bool.not_false,Bool.not_true];exact SeqAt.RcNeAt.str_int i t j t'
   | str j =>
    simp only [DV] at he;subst he;obtain ⟨t',rfl⟩:=(show ∃ t,w=Value.str j t from rw')
    have z:aK (D.str i) (D.str j)=(i == j):=by simp only [aK];by_cases q:i=j <;> simp [q]
    rw [z];exact SeqAt.RcNeAt.str_str i t j t'
   | tup es =>
    simp only [DV] at he
    obtain ⟨b,ws,rfl,h3,h4⟩:=he
    cases (show w=Value.ref b from rw')
    obtain ⟨its,_,t1,_⟩:=I.tuple h3
    simp only [aK,Bool.not_false,Bool.not_true];exact SeqAt.RcNeAt.str_tuple i t t1 hu
   | lst es =>
    simp only [DV] at he
    obtain ⟨b,ws,rfl,h3,h4⟩:=he
    cases (show w=Value.ref b from rw')
    obtain ⟨its,_,t1,_⟩:=I.list h3
    simp only [aK,Bool.not_false,Bool.not_true];exact SeqAt.RcNeAt.str_list i t t1.isList hu
  | tup ds =>
   simp only [DV] at hd
   obtain ⟨a,vs,rfl,h1,h2⟩:=hd
   cases (show u=Value.ref a from ru)
   obtain ⟨its,r1,t1,_⟩:=I.tuple h1
   cases e with
   | bl _=>simp [plain] at pe
   | dct _ _=>simp [plain] at pe
   | ref _=>simp [plain] at pe
   | aq =>
    simp only [DV] at he;subst he;cases (show w=Value.none from rw')
    simp only [aK,Bool.not_false,Bool.not_true];exact SeqAt.RcNeAt.tuple_none  t1 hu
   | int j =>
    simp only [DV] at he;subst he;obtain ⟨t',rfl⟩:=(show ∃ t,w=Value.int j t from rw')
    simp only [aK,Bool.not_false,Bool.not_true];exact SeqAt.RcNeAt.tuple_int j t' t1 hu
   | str j =>
    simp only [DV] at he;subst he;obtain ⟨t',rfl⟩:=(show ∃ t,w=Value.str j t from rw')
    simp only [aK,Bool.not_false,Bool.not_true];exact SeqAt.RcNeAt.tuple_str j t' t1 hu
   | lst es =>
    simp only [DV] at he
    obtain ⟨b,ws,rfl,h3,h4⟩:=he
    cases (show w=Value.ref b from rw')
    obtain ⟨its2,r2,t2,_⟩:=I.list h3
    simp only [aK,Bool.not_false,Bool.not_true];exact SeqAt.RcNeAt.tuple_list t1 t2.isList hu
   | tup es =>
    simp only [DV] at he
    obtain ⟨b,ws,rfl,h3,h4⟩:=he
    cases (show w=Value.ref b from rw')
    obtain ⟨its2,r2,t2,_⟩:=I.tuple h3
    have FU:ay ds=true:=by simpa [plain] using pd
    have FT:ay es=true:=by simpa [plain] using pe
    have l1:its.length=ds.length:=by rw [<- r1.length,h2.length]
    have l2:its2.length=es.length:=by rw [<- r2.length,h4.length]
    let f:Nat->Bool:=fun j=>match ds[j]?,es[j]? with | some a,some b=>aK a b | _,_=>false
    have items:∀ j (h1:j<its.toArray.size) (h2:j<its2.toArray.size),SeqAt.EqAt A.in1 s its.toArray[j] its2.toArray[j] (f j):=by
     intro j j1 j2
     have nZ:j<ds.length:=by rw [<- l1];simpa using j1
     have nY:j<es.length:=by rw [<- l2];simpa using j2
     obtain ⟨v,e1,q1⟩:=h2.get nZ
     obtain ⟨v',e2,q2⟩:=h4.get nY
     obtain ⟨z,e3,q3⟩:=r1.get e1
     obtain ⟨z',e4,q4⟩:=r2.get e2
     have i1:its.toArray[j]=z:=by
      have:its[j]? = some its[j]:=List.getElem?_eq_getElem (by simpa using j1)
      rw [this] at e3;simpa using Option.some.inj e3
     have i2:its2.toArray[j]=z':=by
      have:its2[j]? = some its2[j]:=List.getElem?_eq_getElem (by simpa using j2)
      rw [this] at e4;simpa using Option.some.inj e4
     have g1:=cP nZ
     have g2:=cP nY
     have hf:f j=aK ds[j] es[j]:=by simp only [f,List.getElem?_eq_getElem nZ,List.getElem?_eq_getElem nY]
     rw [i1,i2,hf]
     simp only [dep] at ih hA
     exact (ih ds[j] es[j] v v' z z' (by omega) q1 q2 (aZ FU nZ) (aZ FT nY) q3 q4 A.in1 (by rw [in1_units];omega)).2
    have xC:its.toArray.size=ds.length:=by simpa using l1
    have AN:its2.toArray.size=es.length:=by simpa using l2
    have rc:SeqAt.RcNeAt A s (.ref a) (.ref b) (!aK (.tup ds) (.tup es)):=by
     have q:=SeqAt.RcNeAt.tuples t1 t2 hu items
     rw [xC,AN,dj] at q
     simp only [aK];exact q
    exact rc
  | lst ds =>
   simp only [DV] at hd
   obtain ⟨a,vs,rfl,h1,h2⟩:=hd
   cases (show u=Value.ref a from ru)
   obtain ⟨its,r1,t1,_⟩:=I.list h1
   cases e with
   | bl _=>simp [plain] at pe
   | dct _ _=>simp [plain] at pe
   | ref _=>simp [plain] at pe
   | aq =>
    simp only [DV] at he;subst he;cases (show w=Value.none from rw')
    simp only [aK,Bool.not_false,Bool.not_true];exact SeqAt.RcNeAt.list_none  t1.isList hu
   | int j =>
    simp only [DV] at he;subst he;obtain ⟨t',rfl⟩:=(show ∃ t,w=Value.int j t from rw')
    simp only [aK,Bool.not_false,Bool.not_true];exact SeqAt.RcNeAt.list_int j t' t1.isList hu
   | str j =>
    simp only [DV] at he;subst he;obtain ⟨t',rfl⟩:=(show ∃ t,w=Value.str j t from rw')
    simp only [aK,Bool.not_false,Bool.not_true];exact SeqAt.RcNeAt.list_str j t' t1.isList hu
   | tup es =>
    simp only [DV] at he
    obtain ⟨b,ws,rfl,h3,h4⟩:=he
    cases (show w=Value.ref b from rw')
    obtain ⟨its2,r2,t2,_⟩:=I.tuple h3
    simp only [aK,Bool.not_false,Bool.not_true];exact SeqAt.RcNeAt.list_tuple t1.isList t2 hu
   | lst es =>
    simp only [DV] at he
    obtain ⟨b,ws,rfl,h3,h4⟩:=he
    cases (show w=Value.ref b from rw')
    obtain ⟨its2,r2,t2,_⟩:=I.list h3
    have FU:ay ds=true:=by simpa [plain] using pd
    have FT:ay es=true:=by simpa [plain] using pe
    have l1:its.length=ds.length:=by rw [<- r1.length,h2.length]
    have l2:its2.length=es.length:=by rw [<- r2.length,h4.length]
    let f:Nat->Bool:=fun j=>match ds[j]?,es[j]? with | some a,some b=>aK a b | _,_=>false
    have items:∀ j (h1:j<its.toArray.size) (h2:j<its2.toArray.size),SeqAt.EqAt A.in1 s its.toArray[j] its2.toArray[j] (f j):=by
     intro j j1 j2
     have nZ:j<ds.length:=by rw [<- l1];simpa using j1
     have nY:j<es.length:=by rw [<- l2];simpa using j2
     obtain ⟨v,e1,q1⟩:=h2.get nZ
     obtain ⟨v',e2,q2⟩:=h4.get nY
     obtain ⟨z,e3,q3⟩:=r1.get e1
     obtain ⟨z',e4,q4⟩:=r2.get e2
     have i1:its.toArray[j]=z:=by
      have:its[j]? = some its[j]:=List.getElem?_eq_getElem (by simpa using j1)
      rw [this] at e3;simpa using Option.some.inj e3
     have i2:its2.toArray[j]=z':=by
      have:its2[j]? = some its2[j]:=List.getElem?_eq_getElem (by simpa using j2)
      rw [this] at e4;simpa using Option.some.inj e4
     have g1:=cP nZ
     have g2:=cP nY
     have hf:f j=aK ds[j] es[j]:=by simp only [f,List.getElem?_eq_getElem nZ,List.getElem?_eq_getElem nY]
     rw [i1,i2,hf]
     simp only [dep] at ih hA
     exact (ih ds[j] es[j] v v' z z' (by omega) q1 q2 (aZ FU nZ) (aZ FT nY) q3 q4 A.in1 (by rw [in1_units];omega)).2
    have xC:its.toArray.size=ds.length:=by simpa using l1
    have AN:its2.toArray.size=es.length:=by simpa using l2
    have rc:SeqAt.RcNeAt A s (.ref a) (.ref b) (!aK (.lst ds) (.lst es)):=by
     by_cases hz:ds.length=es.length
     ·have q:=SeqAt.RcNeAt.lists t1.isList t2.isList (by rw [xC,AN,hz]) hu items
      have z:=dj ds es
      rw [show min ds.length es.length=ds.length by omega,show (ds.length == es.length)=true by simpa using hz,Bool.and_true] at z
      rw [xC,z] at q
      simp only [aK];exact q
     ·have q:=SeqAt.RcNeAt.lists_lengths t1.isList t2.isList (by rw [xC,AN];simpa using hz) hu
      have z:=dj ds es
      rw [show (ds.length == es.length)=false by simpa using hz,Bool.and_false] at z
      simp only [aK,<- z,Bool.not_false];exact q
    exact rc
end
end Fg
end
section
namespace Fg
open PySem PySem.Spec L2
section
variable {X:Cx} {B:Bd} {pins:List (Addr×Obj)} {Z:L2.St} {H:Hp} {s:Shared}
noncomputable def mH (B:Bd) (X:Cx):Prop:=∀ a kvs,B.dk a kvs->∀ h:Heap,X.K.In h->kvs.length<=sizeLine/\(a == sysModules)=false/\∃ vs,KV kvs vs/\h.DictOf (aM X.prog X.w) a vs
theorem Jw {a:Addr} {kvs:List (Key×V)} (hB:mH B X) (I:Inv X pins Z H s) (h:Ip B H a kvs):kvs.length<=sizeLine/\(a == sysModules)=false/\∃ vs,KV kvs vs/\s.heap.DictOf (aM X.prog X.w) a vs:=by
 rcases h with h | h
 ·exact Ek I.hok h
 ·exact hB a kvs h s.heap I.iQ
noncomputable def Rm (X:Cx):Prop:=X.A.units+150<cLine
theorem Gd (hu:Rm X):eS X (compareOp .Eq) (ya X.K false):=by
 intro pins s Z H x y v u Q I rx ry h
 obtain ⟨d,e,hd,he,hc,q⟩:=h
 simp only [bE,Bool.and_eq_true,Bool.or_eq_true,decide_eq_true_eq] at hc
 have:=(eq_data I (dep d+dep e+1) d e x y v u (Nat.lt_succ_self _) hd he hc.1.1 hc.1.2 rx ry X.A (by unfold Rm at hu;omega)).1
 exact this X.prog X.w X.xe _ ⟨.bl (aK d e),H,I,rfl,q⟩
theorem F5 (hu:Rm X):eS X (compareOp .NotEq) (ya X.K true):=by
 intro pins s Z H x y v u Q I rx ry h
 obtain ⟨d,e,hd,he,hc,q⟩:=h
 simp only [bE,Bool.and_eq_true,Bool.or_eq_true,decide_eq_true_eq] at hc
 have:=ne_data I d e x y v u hd he hc.1.1 hc.1.2 rx ry X.A (by unfold Rm at hu;omega)
 exact this X.prog X.w X.xe _ ⟨.bl (!aK d e),H,I,rfl,q⟩
theorem Ge:eS X (compareOp .Eq) (BG false):=by
 intro pins s Z H x y v u Q I rx ry h
 obtain ⟨a,b,rfl,rfl,q⟩:=h
 refine Ka pins s Z H _ _ v u Q I rx ry ⟨rfl,?_⟩
 have e:decide (V.bl a=V.bl b)=(a == b):=oO
 rw [e];exact q
theorem F6:eS X (compareOp .NotEq) (BG true):=by
 intro pins s Z H x y v u Q I rx ry h
 obtain ⟨a,b,rfl,rfl,q⟩:=h
 refine J5 pins s Z H _ _ v u Q I rx ry ⟨rfl,?_⟩
 have e:decide (V.bl a=V.bl b)=(a == b):=oO
 rw [e];exact q
theorem Gb (hu:Rm X):eS X (compareOp .Eq) (x9 X.K false):=by
 intro pins s Z H x y v u Q I rx ry h
 obtain ⟨l,b,xs,rfl,rfl,hH,hB,q⟩:=h
 cases rx
 cases ry
 have KP:X.A.units<cLine:=by unfold Rm at hu;omega
 obtain ⟨its,r,pl,z⟩:=I.list hH
 obtain ⟨its2,r2,Fy,z2⟩:=I.list hB
 cases r2
 cases r with
 | nil=>exact SeqAt.eq_listAt (e:=fun _=>true) pl.isList Fy.isList rfl KP (fun j h1=>by simp at h1) ⟨.bl true,H,I,rfl,q⟩
 | cons _ _=>exact SeqAt.eq_list_lengthsAt pl.isList Fy.isList (by simp) KP ⟨.bl false,H,I,rfl,q⟩
theorem FZ (hu:Rm X):eS X (compareOp .NotEq) (x9 X.K true):=by
 intro pins s Z H x y v u Q I rx ry h
 obtain ⟨l,b,xs,rfl,rfl,hH,hB,q⟩:=h
 cases rx
 cases ry
 have KP:X.A.units<cLine:=by unfold Rm at hu;omega
 obtain ⟨its,r,pl,z⟩:=I.list hH
 obtain ⟨its2,r2,Fy,z2⟩:=I.list hB
 cases r2
 cases r with
 | nil=>exact SeqAt.RcNeAt.lists (e:=fun _=>true) pl.isList Fy.isList rfl KP (fun j h1=>by simp at h1) X.prog X.w X.xe _ ⟨.bl false,H,I,rfl,q⟩
 | cons _ _=>exact SeqAt.RcNeAt.lists_lengths pl.isList Fy.isList (by simp) KP X.prog X.w X.xe _ ⟨.bl true,H,I,rfl,q⟩
theorem Ga (hB:mH B X):eS X (compareOp .In) (yb B false):=by
 intro pins s Z H x y v u Q I rx ry h
 obtain ⟨a,kvs,k,rfl,rfl,hd,q⟩:=h
 obtain rfl:u=Value.ref a:=ry
 obtain ⟨z,hm,vs,rel,dd⟩:=Jw hB I hd
 refine wpAny_in_of (qm rx) hm dd.mapOf ?_
 rw [<- (rel.val k).jh]
 exact ⟨.bl (cL kvs k).isSome,H,I.tok _,rfl,q⟩
theorem vW (hB:mH B X):eS X (compareOp .NotIn) (yb B true):=by
 intro pins s Z H x y v u Q I rx ry h
 obtain ⟨a,kvs,k,rfl,rfl,hd,q⟩:=h
 obtain rfl:u=Value.ref a:=ry
 obtain ⟨z,hm,vs,rel,dd⟩:=Jw hB I hd
 refine wpAny_notIn_of (qm rx) hm dd.mapOf ?_
 rw [<- (rel.val k).jh]
 exact ⟨.bl (!(cL kvs k).isSome),H,I.tok _,rfl,q⟩
noncomputable def Af:AH->CmpOp
 | .eq=>.Eq | .ne=>.NotEq | .lt=>.Lt | .le=>.LtE | .gt=>.Gt | .ge=>.GtE | .isin=>.In | .qb=>.NotIn | .CD=>.Is | .rN=>.IsNot
theorem yu (hK:B.K=X.K) (hu:Rm X) (hB:mH B X):∀ o:AH,eS X (compareOp (Af o)) (rH B o)
 | .lt=>J6
 | .le=>J7
 | .gt=>J8
 | .ge=>J9
 | .eq=>by rw [rH,hK];exact Ge.or ((Gd hu).or (Gb hu))
 | .ne=>by rw [rH,hK];exact F6.or ((F5 hu).or (FZ hu))
 | .CD=>F9
 | .rN=>B4
 | .isin=>by rw [rH,hK];exact (Ga hB).or vX
 | .qb=>by rw [rH,hK];exact (vW hB).or nO
theorem B9:eS X (binaryOp .Add) (DQ X.K):=by
 intro pins s Z H x y v u Q I rx ry h
 obtain ⟨l,b,xs,zs,rfl,rfl,hH,hB,hz,q⟩:=h
 cases rx
 cases ry
 obtain ⟨its,r,pl,z⟩:=I.list hH
 obtain ⟨its2,r2,Fy,z2⟩:=I.list hB
 obtain ⟨⟨cls,dd,data,sl⟩,ho,hc,n,hd⟩:=id pl.isList
 obtain ⟨⟨Lu,dd2,data2,sl2⟩,ho2,hc2,n2,hd2⟩:=id Fy.isList
 simp only at hc hd hc2 hd2
 subst hc hd hc2 hd2
 have l1:=r.length
 have l2:=r2.length
 have ea:its.toArray++its2.toArray=(its++its2).toArray:=by simp
 refine PySem.concat_meets ⟨_,ho,rfl⟩ ⟨_,ho2,rfl⟩ PySem.noFill_list_add PySem.seq_list_add PySem.F.slot_list_add PySem.F.entry_list_add (PySem.F.args_list_add_2 _ _) (PyProof.Rows.list_addW l b its.toArray its2.toArray n n2 dd dd2 sl sl2 (by simp only [List.size_toArray];omega)) ⟨ho,ho2,?_⟩
 rw [ea]
 exact ⟨.ref _,_,I.Kw (t':=s.toks) (r.append r2) (by rw [List.length_append];omega),rfl,q _ I.fresh⟩
theorem B6:eS X (binaryOp .Mult) (DN X.K):=by
 intro pins s Z H x y v u Q I rx ry h
 obtain ⟨l,xs,k,rfl,rfl,hH,hz,hk,q⟩:=h
 cases rx
 obtain ⟨t,rfl⟩:=(show ∃ t,u=Value.int k t from ry)
 obtain ⟨its,r,pl,z⟩:=I.list hH
 obtain ⟨⟨cls,dd,data,sl⟩,ho,hc,n,hd⟩:=id pl.isList
 simp only at hc hd
 subst hc hd
 have l1:=r.length
 rw [l1] at hz
 refine wpAny_binaryOp_repeat_ref (T:="list") (U:="int") (by decide) ⟨_, ho, rfl⟩ (fun s'=>typeIs_int s' k t) noFill_list_mul PySem.F.fills_int_mul PySem.F.slot_int_rmul repeat_list PySem.F.slot_int_index.lookup
  (call_meets PySem.F.slot_int_rmul (typeIs_int s k t) PySem.F.entry_int_rmul (PySem.F.args_int_rmul_2 _ _) (PySem.lm_int_rmul_list_any k t l its.toArray n dd sl)
   ⟨ho,rfl,⟨_,ho,rfl⟩,call_meets PySem.F.slot_list_mul ⟨_,ho,rfl⟩ PySem.F.entry_list_mul (PySem.F.args_list_mul_2 _ _)
    (PySem.lm_list_mul_any l its.toArray n dd sl k t (by simp [Builtin.List.listFitsIndex];omega) (by rw [List.size_toArray];rw [sizeLine_eq] at hz;omega) (by rw [sizeLine_eq] at hz;simp [Builtin.List.listTooLong,sizeLine];omega))
    ⟨ho,?_⟩⟩)
 rw [PyProof.Rows.listMul_foldl_if]
 have rr:Vals (List.replicate k.toNat xs).flatten (List.replicate k.toNat its).flatten:=by
  generalize k.toNat=m
  induction m with
  | zero=>exact .nil
  | succ m ih=>rw [List.replicate_succ,List.replicate_succ,List.flatten_cons,List.flatten_cons];exact r.append ih
 exact ⟨.ref _,_,I.Kw (t':=s.toks) rr (by rw [List.length_flatten];simp [List.sum_replicate_nat];rw [l1,Nat.mul_comm];exact hz),rfl,q _ I.fresh⟩
theorem qg {i:Int} (h:i.natAbs<10 ^ 200):Builtin.Int.intBits i<=2 ^ 20:=by
 unfold Builtin.Int.intBits
 split
 ·exact Nat.zero_le _
 ·have z:i.natAbs.log2<1000:=by
   by_cases h0:i.natAbs=0
   ·rw [h0];decide
   ·exact (Nat.log2_lt h0).mpr (Nat.lt_of_lt_of_le h (by decide +kernel))
  exact Nat.le_trans (Nat.succ_le_of_lt z) (by decide)
theorem B5:eS X (binaryOp .Mult) (rI LR fun i j=>.int (i*j)):=Kd fun _ _ _ _ _ _ _ hc q=>PyProof.Rows.mul_int q (.of_bits (qg hc.1) (qg hc.2))
noncomputable def binOp:Dm->Operator
 | .add=>.Add | .sub=>.Sub | .mul=>.Mult | .fdiv=>.FloorDiv | .mod=>.Mod | .pow=>.Pow
theorem Gf (hK:B.K=X.K):∀ o:Dm,eS X (binaryOp (binOp o)) (JM B.K o)
 | .add=>by rw [JM,hK];exact Gg.or (rM.or (B9.or B8))
 | .sub=>FW
 | .mul=>by rw [JM,hK];exact F7.or (B5.or B6)
 | .fdiv=>B7
 | .mod=>F8
 | .pow=>FY
theorem Hh (hB:mH B X):AG X (JQ B):=by
 intro value slice pins s Z H x y v u Q I rx ry h hs
 obtain ⟨a,kvs,k,w,rfl,rfl,hd,hv,q⟩:=h
 obtain rfl:v=Value.ref a:=rx
 obtain ⟨z,hm,vs,rel,dd⟩:=Jw hB I hd
 obtain ⟨w',hw,rw'⟩:=gE.some_of (v:=w) (o:=valueAt vs k) (by rw [<- hv];exact rel.val k)
 exact PyProof.Rows.tail_any dd.typeIs PySem.F.slot_dict_getitem.lookup (wpAny_getItem_of (qm ry) dd.mapOf hw ⟨w,H,I.tok _,rw',q⟩) hs
theorem Hi (hK:B.K=X.K) (hB:mH B X):AG X (BF B):=by
 unfold BF;rw [hK];exact CC.or (Hf.or (Hg.or (Hh hB)))
theorem wJ (hK:B.K=X.K) (hB:mH B X):cK X (.builtin "len") (Ff B):=by
 unfold Ff;rw [hK]
 refine oU.or (oV.or ?_)
 intro pins s Z H xs us Q I r h
 obtain ⟨a,kvs,rfl,ha,q⟩:=h
 obtain ⟨u,rfl,ru⟩:=vals1 r
 cases ru
 obtain ⟨z,hd,vs,rel,dd⟩:=Jw hB I ha
 refine call_len_dict hd dd (by rw [<- rel.length];rw [sizeLine_eq] at z;omega) ?_
 rw [<- rel.length]
 exact ⟨.int kvs.length,H,I.tok _,⟨_,rfl⟩,q⟩
theorem wH (hK:B.K=X.K):cK X (.type "tuple") (rD B):=by unfold rD;rw [hK];exact mF
theorem wI (hK:B.K=X.K):cK X (.type "list") (rF B):=by unfold rF;rw [hK];exact oS
inductive Dj (B:Bd) (H:Hp):V->String->Prop where
 | aq:Dj B H .aq "NoneType"
 | bl (b:Bool):Dj B H (.bl b) "bool"
 | int (i:Int):Dj B H (.int i) "int"
 | str (x:Str):Dj B H (.str x) "str"
 | lst {a:Addr} {xs:List V}:fT B.K H a xs->Dj B H (.ref a) "list"
 | tup {a:Addr} {xs:List V}:i7 B.K H a xs->Dj B H (.ref a) "tuple"
 | dct {a:Addr} {kvs:List (Key×V)}:Ip B H a kvs->Dj B H (.ref a) "dict"
noncomputable def pA:Ty->String
 | .int=>"int" | .str=>"str" | .bool=>"bool" | .list=>"list" | .tuple=>"tuple" | .dict=>"dict"
noncomputable def tyB (T:String) (t:Ty):Bool:=T == pA t||(T == "bool"&&match t with | .int=>true | _=>false)
noncomputable def JR (B:Bd):List V->Hp->VK->Prop:=fun xs H Q=>∃ x T t,xs=[x,.ty (pA t)]/\Dj B H x T/\Q (.bl (tyB T t)) H
theorem Cs (K:W.Frag):∀ t:Ty, W.kitOne K (.type "NoneType") (.type (pA t))=some (tyB "NoneType" t)/\W.kitOne K (.type "bool") (.type (pA t))=some (tyB "bool" t)/\W.kitOne K (.type "int") (.type (pA t))=some (tyB "int" t)/\W.kitOne K (.type "str") (.type (pA t))=some (tyB "str" t) /\
  W.kitOne K (.type "list") (.type (pA t))=some (tyB "list" t)/\W.kitOne K (.type "tuple") (.type (pA t))=some (tyB "tuple" t)/\W.kitOne K (.type "dict") (.type (pA t))=some (tyB "dict" t):=by
 intro t
 cases t <;> (refine ⟨?_,?_,?_,?_,?_,?_,?_⟩ <;> kernel_rfl)
theorem Ai (hK:B.K=X.K) (hB:mH B X):cK X (.builtin "isinstance") (JR B):=by
 intro pins s Z H xs us Q I r h
 obtain ⟨x,T,t,rfl,ty,q⟩:=h
 cases r with
 | cons rx r =>
  cases r with
  | cons rt r =>
   cases r
   obtain rfl:=(show _=Value.type (pA t) from rt)
   have fin:∀ tk,EP X pins Z Q (.bool (tyB T t)) { s with toks:=tk }:=fun tk=>⟨.bl (tyB T t),H,I.tok _,rfl,q⟩
   obtain ⟨k1,k2,k3,k4,k5,k6,k7⟩:=Cs X.K t
   cases ty with
   | aq=>cases (show _=Value.none from rx);exact W.kia_one W.kitx_none I.iQ True.intro k1 (fun z=>nomatch z) fin
   | bl b=>cases (show _=Value.bool b from rx);exact W.kia_one W.kitx_bool I.iQ True.intro k2 (fun z=>nomatch z) fin
   | int i=>obtain ⟨tk,q⟩:=(show ∃ t,_=Value.int i t from rx);cases q;exact W.kia_one W.kitx_int I.iQ True.intro k3 (fun z=>nomatch z) fin
   | str y=>obtain ⟨tk,q⟩:=(show ∃ t,_=Value.str y t from rx);cases q;exact W.kia_one W.kitx_str I.iQ True.intro k4 (fun z=>nomatch z) fin
   | lst hl =>
    cases rx
    rw [hK] at hl
    obtain ⟨its,_,pl,_⟩:=I.list hl
    obtain ⟨o,ho,hc,_⟩:=pl.isList
    exact W.kia_one W.kitx_list I.iQ ⟨o,ho,hc⟩ k5 (fun z=>nomatch z) fin
   | tup hl =>
    cases rx
    rw [hK] at hl
    obtain ⟨its,_,pl,_⟩:=I.tuple hl
    obtain ⟨o,ho,hc,_⟩:=pl
    exact W.kia_one W.kitx_tuple I.iQ ⟨o,ho,hc⟩ k6 (fun z=>nomatch z) fin
   | dct hd =>
    cases rx
    obtain ⟨z,hm,vs,rel,dd⟩:=Jw hB I hd
    obtain ⟨o,ho,hc⟩:=dd.typeIs
    exact W.kia_one W.kitx_dict I.iQ ⟨o,ho,hc⟩ k7 (fun z=>nomatch z) fin
end
end Fg
end
section
namespace Fg
open PySem PySem.Spec L2
theorem kW {α:Type} (xs:List α) (a:Nat):∀ c:Nat,((List.range c).map fun k=>a+k).filterMap (fun i=>xs[i]?)=(xs.drop a).take c
 | 0=>by simp
 | c+1=>by
  rw [List.range_succ,List.map_append,List.filterMap_append,kW xs a c,List.take_add_one]
  simp [List.getElem?_drop]
  cases h:xs[a+c]? <;> simp [h]
theorem qK (n d:Nat) (hd:d<=n) (o:Option Int):(match o with
  | none=>((d:Nat):Int)
  | some i=>max 0 (min (if i<0 then i+(n:Int) else i) (n:Int)))=((six n d o:Nat):Int):=by
 cases o with
 | none=>rfl
 | some i=>simp only [six];split <;> omega
theorem EU (n d:Nat) (hd:d<=n) (o:Option Int):six n d o<=n:=by
 cases o with
 | none=>exact hd
 | some i=>simp only [six];split <;> omega
theorem E7 (a b:Nat):sliceRange (a:Int) (b:Int) 1=(List.range (b-a)).map fun k=>a+k:=by
 unfold sliceRange
 simp only [show (1:Int) > 0 by decide,if_true]
 have ec:(if (a:Int)<(b:Int) then ((b:Int)-(a:Int)+1-1) / 1 else 0).toNat=b-a:=by
  split <;> omega
 rw [ec]
 apply List.map_congr_left
 intro k _
 omega
theorem zy (l u:Option Int) (n:Nat):Builtin.Str.strSliceIndices l u 1 n=(List.range (six n n u-six n 0 l)).map fun k=>six n 0 l+k:=by
 rw [<- E7,<- qK n 0 (Nat.zero_le _) l,<- qK n n (Nat.le_refl _) u]
 unfold Builtin.Str.strSliceIndices
 cases l <;> cases u <;> rfl
theorem qZ (x:Str) (l u:Option Int):Txt.slice x l u=cuts x l u:=by
 have hn:x.cps.toList.length=x.length:=by simp [Str.length]
 have key:(Builtin.Str.strSliceIndices l u 1 x.length).filterMap (x.cps[·]?)=dg x.cps.toList l u:=by
  rw [zy]
  have:=kW x.cps.toList (six x.length 0 l) (six x.length x.length u-six x.length 0 l)
  unfold dg
  rw [hn,<- this]
  congr 1
  funext i
  simp
 unfold Txt.slice
 split
 ·rename_i hc
  simp only [Bool.and_eq_true,beq_iff_eq] at hc
  have hc2:=hc.2
  rw [zy] at hc2
  simp only [List.length_map,List.length_range] at hc2
  have b1:=EU x.length x.length (Nat.le_refl _) u
  unfold cuts dg
  rw [hn]
  by_cases h0:x.length=0
  ·obtain ⟨⟨l⟩⟩:=x
   simp [Str.length] at h0
   subst h0
   simp
  ·have a0:six x.length 0 l=0:=by omega
   rw [a0,List.drop_zero,List.take_of_length_le (by rw [hn];omega)]
 ·show Str.mk _=Str.mk _
  rw [key]
section
variable {X:Cx} {B:Bd}
theorem ES:Dl X JK:=by
 intro pins s Z H x v vl vu lo hi sl Q I rx hs pl pu h
 obtain ⟨z,rfl,hz,q⟩:=h
 obtain ⟨t,rfl⟩:=(show ∃ t,v=Value.str z t from rx)
 refine ⟨"str", _, PySem.F.slot_str_getitem.lookup, typeIs_str _ _ _, ?_⟩
 have fin:∀ (l u:Option Int) (t':Tok) (k:Nat),l=lo->u=hi->EP X pins Z Q (.str (Txt.slice z l u) t') { s with toks:=k }:=by
  intro l u t' k e3 e4
  exact ⟨.str (cuts z lo hi),H,I.tok _,⟨t',by rw [qZ,e3,e4]⟩,q⟩
 obtain ⟨o,ho,hc,hd⟩:=hs
 cases pl with
 | none =>
  cases pu with
  | none=>exact wpAny_getItem_str_slice (l:=none) (u:=none) (st:=none) ⟨o,ho,hc,hd⟩ rfl (post_val_or_str ⟨Nat.le_trans (Txt.slice_le z none none) hz,fun t' k=>fin none none t' k rfl rfl⟩)
  | int j tj=>exact wpAny_getItem_str_slice (l:=none) (u:=some (j,tj)) (st:=none) ⟨o,ho,hc,hd⟩ rfl (post_val_or_str ⟨Nat.le_trans (Txt.slice_le z none (some j)) hz,fun t' k=>fin none (some j) t' k rfl rfl⟩)
 | int i ti =>
  cases pu with
  | none=>exact wpAny_getItem_str_slice (l:=some (i,ti)) (u:=none) (st:=none) ⟨o,ho,hc,hd⟩ rfl (post_val_or_str ⟨Nat.le_trans (Txt.slice_le z (some i) none) hz,fun t' k=>fin (some i) none t' k rfl rfl⟩)
  | int j tj=>exact wpAny_getItem_str_slice (l:=some (i,ti)) (u:=some (j,tj)) (st:=none) ⟨o,ho,hc,hd⟩ rfl (post_val_or_str ⟨Nat.le_trans (Txt.slice_le z (some i) (some j)) hz,fun t' k=>fin (some i) (some j) t' k rfl rfl⟩)
theorem ET (hK:B.K=X.K):Dl X (BE B):=by
 unfold BE;rw [hK];exact A7.or (ER.or ES)
end
end Fg
end
section
namespace Fg
open PySem PySem.Spec L2
theorem ef {α β:Type} (g:β->α->β):∀ {l:List α} {f:α->β->Sem (ForInStep β)} (_:∀ x∈l,∀ c,f x c=pure (.yield (g c x))) (c:β),forIn l c f=pure (l.foldl g c)
 | [],f,_,c=>rfl
 | x::l,f,h,c=>by
  rw [List.forIn_cons,h x List.mem_cons_self,pure_bind]
  exact ef g (fun y hy=>h y (List.mem_cons_of_mem _ hy)) _
noncomputable def aH (env:Env) (cs:List (Str×Addr)) (x:Str×NameKind):List (Str×Addr):=if x.2 == .free then (x.1,(env.cells.lookup x.1).getD 0)::cs else cs
theorem sM {scope:Scope} {env:Env} (h:∀ x,(x,NameKind.free)∈scope.names->∃ c,env.cells.lookup x=some c):closureFor scope env=pure (scope.names.foldl (aH env) []):=by
 unfold closureFor
 dsimp only
 rw [ef (aH env) (fun x hx c=>?_)]
 ·rfl
 obtain ⟨n,k⟩:=x
 by_cases hk:k=.free
 ·subst hk
  obtain ⟨a,ha⟩:=h n hx
  simp only [aH,cellOf,ha,beq_self_eq_true,if_true,Option.getD_some]
  rfl
 ·have hb:(k == NameKind.free)=false:=by simpa using hk
  simp only [aH,hb,Bool.false_eq_true,if_false]
theorem oR {env:Env}:∀ (names:List (Str×NameKind)) (cs:List (Str×Addr)) (p:Str×Addr),(∀ x,(x,NameKind.free)∈names->∃ c,env.cells.lookup x=some c)->p∈names.foldl (aH env) cs->p∈cs\/env.cells.lookup p.1=some p.2
 | [],cs,p,_,h=>.inl h
 | (n, k)::r, cs, p, hc, h=>by
  rw [List.foldl_cons] at h
  rcases oR r _ p (fun x hx=>hc x (List.mem_cons_of_mem _ hx)) h with q | q
  ·unfold aH at q
   split at q
   ·rename_i hk
    have hk':k=.free:=by simpa using hk
    subst hk'
    rcases List.mem_cons.mp q with q | q
    ·obtain ⟨a,ha⟩:=hc n List.mem_cons_self
     right
     rw [q]
     show env.cells.lookup n=some ((env.cells.lookup n).getD 0)
     rw [ha];rfl
    ·exact .inl q
   ·exact .inl q
  ·exact .inr q
theorem vh {env:Env}:∀ (names:List (Str×NameKind)) (cs:List (Str×Addr)) (x:Str),(∃ c,(x,c)∈cs)->∃ c,(x,c)∈names.foldl (aH env) cs
 | [],cs,x,h=>h
 | (n,k)::r,cs,x,⟨c,h⟩=>by
  rw [List.foldl_cons]
  refine vh r _ x ⟨c,?_⟩
  unfold aH
  split
  ·exact List.mem_cons_of_mem _ h
  ·exact h
theorem sN {env:Env}:∀ (names:List (Str×NameKind)) (cs:List (Str×Addr)) (x:Str),(x,NameKind.free)∈names->∃ c,(x,c)∈names.foldl (aH env) cs
 | (n, k)::r, cs, x, h=>by
  rw [List.foldl_cons]
  rcases List.mem_cons.mp h with h | h
  ·cases h
   refine vh r _ n ⟨(env.cells.lookup n).getD 0,?_⟩
   unfold aH
   rw [if_pos (by rfl)]
   exact List.mem_cons_self
  ·exact sN r _ x h
theorem dM {β:Type}:∀ {l:List (Str×β)} {x:Str} {c:β},(x,c)∈l->∃ d,l.lookup x=some d
 | (n, k)::r, x, c, h=>by
  rw [List.lookup_cons]
  cases e:x == n with
  | true=>exact ⟨k,rfl⟩
  | false =>
   rcases List.mem_cons.mp h with h | h
   ·cases h;simp at e
   ·exact dM h
theorem cY {env:Env}:∀ {names:List (Str×NameKind)} {x:Str},(names.map fun (n,k)=>if (k == NameKind.free&&env.scope.kind == .function&&env.kindOf n == some .cell) then (n,NameKind.cell) else (n,k)).lookup x =
  (names.lookup x).map fun k=>if (k == NameKind.free&&env.scope.kind == .function&&env.kindOf x == some .cell) then NameKind.cell else k
 | [],x=>rfl
 | (n, k)::r, x=>by
  have ih:=@cY env r x
  show List.lookup x ((if (k == NameKind.free&&env.scope.kind == .function&&env.kindOf n == some .cell)=true then (n,NameKind.cell) else (n,k))::_)=_
  cases hx:x == n with
  | true =>
   have e:x=n:=by simpa using hx
   subst e
   by_cases hc:(k == NameKind.free&&env.scope.kind == .function&&env.kindOf x == some .cell)=true
   ·rw [if_pos hc];simp only [List.lookup_cons,hx,Option.map_some,if_pos hc]
   ·rw [if_neg hc]
    simp only [List.lookup_cons,hx,Option.map_some,if_neg hc]
  | false =>
   by_cases hc:(k == NameKind.free&&env.scope.kind == .function&&env.kindOf n == some .cell)=true
   ·rw [if_pos hc];simp only [List.lookup_cons,hx];exact ih
   ·rw [if_neg hc];simp only [List.lookup_cons,hx];exact ih
noncomputable def Em (X:Cx) (scope:Scope) (cl:List (Str×Addr)) (N:List Str) (fp:List Addr) (s:Shared) (H:Hp) (C:Addr):Cx :=
 { X with N:=N,s₀:=s,H₀:=H,env:=compEnvC scope cl C X.env,outer:=X.stack,stack:=X.stack,ex:=fp,fn:=fun _=>false,pn:=[],xe:=fun _ _=>False }
noncomputable abbrev eO (X:Cx) (scope:Scope) (cl:List (Str×Addr)) (N:List Str) (fp:List Addr) (s:Shared) (H:Hp) (C:Addr) (E:XK):Cx:=(Em X scope cl N fp s H C).eX (j5 (Em X scope cl N fp s H C) fun cv x _ H'=>E cv x H')
noncomputable def IK (X:Cx) (ifs:List Expr) (t:TT):Prop :=
 ∀ (pins:List (Addr×Obj)) (s:Shared) (Z:St) (H:Hp) (Q:Bool->Hp->Prop),Inv X pins Z H s->t Z H Q ->
  wpAny (model X.prog X.w) X.A (forIn ifs true fun c r=>if r=true then do let ok <- isTrue c X.env (eval c X.env);pure (ForInStep.yield ok) else pure (ForInStep.yield r)) (L2.TP X pins Z Q) X.xe s
theorem BJ {X:Cx}:IK X [] (fun _ H Q=>Q true H):=fun pins s Z H Q I h=>wpAny_tests_nil ⟨H,I,h⟩
theorem BI {X:Cx} {c:Expr} {t:TT} (h:PT X c t):IK X [c] t:=fun pins s Z H Q I q=>wpAny_tests_one (h pins s Z H Q I q)
noncomputable def qM (cp:List Nat) (n:Nat) (Z:St):St:=cp.map (fun i=>(Z[i]?).join)++List.replicate n none
noncomputable def tF (wi:TI) (g:TG) (tc:St->TT) (te:St->TE) (cp:List Nat) (n:Nat):TE:=fun Z H Q=>wi Z H fun J H1=>∀ D,H1 D=none->∃ W:Nat->Nat->St->Hp->Prop,(∃ m,W 0 m (qM cp n Z) (upd H1 D (.lst [])))/\∀ i m Z' H',W i m Z' H' ->
 (J.stop i H'/\Q (.ref D) H')\/(J.go i H'/\∀ x H2,J.LU i H' x H2->g x Z' H2 fun Z2 H3=>tc Z Z2 H3 fun b H4 =>
  if b=true then te Z Z2 H4 fun v H5=>∃ ys,H5 D=some (.lst ys)/\ys.length<sizeLine/\∃ m',m'<m/\W (i+1) m' Z2 (upd H5 D (.lst (ys++[v]))) else ∃ m',m'<m/\W (i+1) m' Z2 H4)
theorem gS {prog:Program} {w:World} {A:Around} {R:Result->Shared->Prop} {s:Shared} {elt target iter:Expr} {ifs:List Expr} {scope:Scope} {pos:Pos} {it acc:Value} {env:Env} (I:Nat->Shared->Prop) (EX:Value->Shared->Prop) (hE:∀ e s,EX e s->notedBy (model prog w) A env (fun x s'=>R (.error x) s') e s)
  (turn:∀ n s,I n s->wpAny (model prog w) A (pyNext it) (fun r s₁=>match r with
   | none=>R (.ok .next) s₁
   | some v=>wpAny (model prog w) A (letOwnedTupleGo target it v) (fun _ s₁'=>wpAny (model prog w) A (assign target env v) (fun _ s₂ =>
     wpAny (model prog w) A (forIn ifs true fun c r=>if r=true then do let ok <- isTrue c env (eval c env);pure (ForInStep.yield ok) else pure (ForInStep.yield r)) (fun ok s₃ =>
      if ok=true then wpAny (model prog w) A (eval elt env) (fun x s₄ =>
       wpAny (model prog w) A (call (.builtin "list.append") [acc, x]) (fun _ s₅=>∃ m, m<n/\I m s₅) EX s₄) EX s₃
      else ∃ m,m<n/\I m s₃) EX s₂) EX s₁') EX s₁) EX s)
  (n:Nat) (h:I n s):codeAny (model prog w) A (.compLoop (.ListComp elt [⟨target,iter,ifs,0⟩] scope pos) 0 it acc env) R s:=by
 refine codeAny_loop rfl I (fun n s hI=>?_) n h
 show wpAny _ A ((compTurn (.ListComp elt [⟨target,iter,ifs,0⟩] scope pos) 0 it acc env).onRaise (fun x=>do noteFrame x env;theTreesLotGoes x)) _ _ s
 refine wpAny_noted ?_
 rw [compTurn_list]
 refine wpAny_bind (wpAny_standAt (wpAny_bind (wpAny_mono (turn n s hI) (fun r s₁ h₁=>?_) hE)))
 cases r with
 | none=>exact wpAny_pure h₁
 | some v =>
  refine wpAny_bind (wpAny_mono h₁ (fun _ s₁' h₁'=>?_) hE)
  refine wpAny_bind (wpAny_mono h₁' (fun _ s₂ h₂=>wpAny_bind (wpAny_mono h₂ (fun ok s₃ h₃=>?_) hE)) hE)
  cases ok with
  | false=>exact wpAny_pure ⟨rfl,h₃⟩
  | true =>
   exact wpAny_bind (wpAny_bind (wpAny_mono h₃ (fun x s₄ h₄=>wpAny_bind (wpAny_mono h₄ (fun _ s₅ h₅=>wpAny_pure (wpAny_pure ⟨rfl,h₅⟩)) hE)) hE))
section
variable {X:Cx} {pins:List (Addr×Obj)} {Z:St} {H:Hp} {s:Shared}
structure iD (X:Cx) (scope:Scope) (N:List Str) (cp:List Nat) (n:Nat):Prop where
 free:∀ x,(x,NameKind.free)∈scope.names->X.env.kindOf x=some .cell\/X.env.kindOf x=some .free
 cell:∀ y∈scope.names,y.2≠.cell
 kind:scope.kind=.function
 names:∀ y∈scope.names,y.2=.local->scope.names.lookup y.1=some .local
 len:N.length=cp.length+n
 cap:∀ (i j:Nat) (x:Str),N[i]? = some x->cp[i]? = some j->X.N[j]? = some x/\scope.names.lookup x=some .free
theorem Ig {scope:Scope} {N:List Str} {cp:List Nat} {n:Nat} {fp:List Addr} {C:Addr} (S:iD X scope N cp n) (I:Inv X pins Z H s) (hf:∀ b∈fp,lZ X pins H b) (hC:s.heap.objs.size<C) (Ht:∀ b∈fp,b<s.heap.objs.size) :
  (Em X scope (scope.names.foldl (aH X.env) []) N fp s H C).Ok:=by
 have hex:∀ x,(x,NameKind.free)∈scope.names->∃ c,X.env.cells.lookup x=some c:=fun x hx=>I.ok.has x (S.free x hx)
 have hcl:∀ x c,(scope.names.foldl (aH X.env) []).lookup x=some c->X.env.cells.lookup x=some c:=fun x c e=>by
  rcases oR scope.names [] (x,c) hex (PySem.mem_of_lookup e) with q | q
  ·cases q
  ·exact q
 refine ⟨I.ok.mod,S.kind,I.ok.glob,I.ok.blt,Nat.le_of_lt hC,fun x y c h1 h2=>I.ok.inj x y c (hcl x c h1) (hcl y c h2),fun x hx=>?_,fun x c h _=>(Bool.false_ne_true h).elim,I.ok.hd,I.ok.frames,.inl rfl,fun b hb=>⟨Nat.ne_of_lt (Nat.lt_trans (Ht b hb) hC),fun x c e=>(hf b hb).2.2.2.2.1 x c (hcl x c e)⟩,
  fun b o e=>I.bs b o e,Nat.le_trans I.ok.Dc I.sz,fun b o e hb=>?_,fun b hb hs=>?_,I.stack,I.gF⟩
 ·have q:(x,NameKind.free)∈scope.names:=by
   have hx:(relabel scope X.env).names.lookup x=some .cell\/(relabel scope X.env).names.lookup x=some .free:=hx
   unfold relabel at hx
   dsimp only at hx
   rw [cY] at hx
   cases e:scope.names.lookup x with
   | none=>rw [e] at hx;simp at hx
   | some k =>
    rw [e] at hx
    have hm:=PySem.mem_of_lookup e
    cases k with
    | free=>exact hm
    | cell=>exact (S.cell _ hm rfl).elim
    | «local»=>simp at hx
    | globalImplicit=>simp at hx
    | globalExplicit=>simp at hx
  obtain ⟨c,hc⟩:=sN (env:=X.env) scope.names [] x q
  exact dM hc
 ·rcases (hf b hb).2.2.2.1 with z | z
  ·exact I.ok.yz b o e z
  ·exact absurd (Nat.lt_of_lt_of_le (Heap.lt_size e) (Nat.le_trans I.ok.Dc z)) (Nat.lt_irrefl _)
 ·rcases List.mem_cons.mp (I.eZ b hs) with z | z
  ·exact (hf b hb).2.1 z
  ·exact (hf b hb).2.2.1 z
theorem wQ {scope:Scope} {N:List Str} {cp:List Nat} {n:Nat} {fp:List Addr} {C D:Addr} {h1:Heap} {t1:Nat} (S:iD X scope N cp n) (I:Inv X pins Z H s) (hf:∀ b∈fp,lZ X pins H b) (Ht:∀ b∈fp,b<s.heap.objs.size)
  (hD:D=s.heap.objs.size) (hC:C=s.heap.objs.size+1) {m:Str->Option Value} (hns:h1.Ns C m) (old:∀ b o, s.heap.get? b=some o->h1.get? b=some o) (hacc:h1.get? D=some { cls:=.type "list", data:=.seq ([]:List Value).toArray 0 }) :
  Inv (Em X scope (scope.names.foldl (aH X.env) []) N fp s H C) [] (qM cp n Z) (upd H D (.lst [])) { s with heap:=h1,toks:=t1 }:=by
 have hex:∀ x,(x,NameKind.free)∈scope.names->∃ c,X.env.cells.lookup x=some c:=fun x hx=>I.ok.has x (S.free x hx)
 have hcl:∀ x c,(scope.names.foldl (aH X.env) []).lookup x=some c->X.env.cells.lookup x=some c:=fun x c e=>by
  rcases oR scope.names [] (x,c) hex (PySem.mem_of_lookup e) with q | q
  ·cases q
  ·exact q
 have fD:H D=none:=I.hok.fresh (by rw [hD];exact Nat.le_refl _)
 have fC:H C=none:=I.hok.fresh (by rw [hC];exact Nat.le_succ _)
 have cellK:∀ x c v,X.env.cells.lookup x=some c->s.heap.IsCell c v->h1.IsCell c v:=fun x c v e ⟨o,ho,hd⟩=>⟨o,old c o ho,hd⟩
 refine ⟨Ig S I hf (by rw [hC];exact Nat.lt_succ_self _) Ht,rfl,I.bare,?_,⟨m,hns,fun i x v e1 e2 e3=>?_⟩,fun x c e=>?_,?_,fun x c e=>?_,fun p hp=>absurd (show p∈([]:List (Addr×Obj)) from hp) (by simp),?_,?_⟩
 ·exact Un.laid (fun b u e=>old b u e) (by rw [hD];exact Nat.le_refl _) fD
 ·-- a Lv name
  have hi:i<cp.length:=by
   by_cases hi:i<cp.length
   ·exact hi
   ·unfold qM at e2
    rw [List.getElem?_append_right (by simpa using hi),List.getElem?_replicate] at e2
    split at e2 <;> cases e2
  have hcp:cp[i]? = some cp[i]:=List.getElem?_eq_getElem hi
  obtain ⟨hX,hfr⟩:=S.cap i cp[i] x e1 hcp
  have e2':Z[cp[i]]? = some (some v):=by
   unfold qM at e2
   rw [List.getElem?_append_left (by simpa using hi),List.getElem?_map,hcp] at e2
   simp only [Option.map_some,Option.some.injEq] at e2
   cases q:Z[cp[i]]? with
   | none=>rw [q] at e2;cases e2
   | some o=>rw [q] at e2;simp only [Option.join_some] at e2;rw [e2]
  have hmem:=PySem.mem_of_lookup hfr
  have hk:=S.free x hmem
  obtain ⟨m0,_,hl⟩:=I.loc
  obtain ⟨u,r,lk⟩:=hl cp[i] x v hX e2' (by rcases hk with q | q;exact .inr (.inl q);exact .inr (.inr q))
  refine ⟨u,r,.inr ⟨?_,?_⟩⟩
  ·show (relabel scope X.env).names.lookup x=some .cell\/(relabel scope X.env).names.lookup x=some .free
   unfold relabel
   dsimp only
   rw [cY,hfr]
   simp only [Option.map_some]
   split
   ·exact .inl rfl
   ·exact .inr rfl
  ·obtain ⟨c,hc⟩:=sN (env:=X.env) scope.names [] x hmem
   obtain ⟨d,hd⟩:=dM hc
   refine ⟨d,hd,?_⟩
   rcases lk with ⟨k,_⟩ | ⟨_,c',hc',z⟩
   ·rcases hk with q | q <;> (rw [q] at k;cases k)
   ·have:=hcl x d hd
    rw [hc'] at this;cases this
    exact cellK x d _ hc' z
 ·obtain ⟨v,z⟩:=I.cell x c (hcl x c e)
  exact ⟨v,cellK x c v (hcl x c e) z⟩
 ·show upd H D (.lst []) C=none
  rw [ao (by rw [hC,hD];exact Nat.succ_ne_self _)];exact fC
 ·show upd H D (.lst []) c=none
  rw [ao (ne_of_lt' (I.cell x c (hcl x c e)) hD)]
  exact I.ee x c (hcl x c e)
 ·exact I.hok.laid old (by rw [hD];exact Nat.le_refl _) ⟨Nat.zero_le _,[],0,.nil,hacc⟩
 ·unfold qM
  show _=N.length
  rw [List.length_append,List.length_map,List.length_replicate,S.len]
where
 ne_of_lt' {h:Heap} {c D:Addr} (z:∃ v,h.IsCell c v) (hD:D=h.objs.size):c≠D:=by
  obtain ⟨v,q⟩:=z
  rw [hD]
  exact Nat.ne_of_lt q.lt
variable {elt tg iter:Expr} {ifs:List Expr} {scope:Scope} {pos ppos:Pos} {wi:TI} {g:TG} {tc:St->TT} {te:St->TE} {Ex:XS} {cp:List Nat} {n:Nat} {N:List Str}
theorem nk {use:Option (Value->Sem Unit)} {Q':Value->Shared->Prop} {Q:VK} (hc:X.calm=true) (S:iD X scope N cp n) (hi:PI X tg iter wi)
  (hfr:qQ X) (hx:∀ e s,j5 X Ex e s->X.xe e s) (hb:∀ Z cl fp s H C,PG (eO X scope cl N fp s H C fun cv x H'=>Ex cv x Z H') tg g/\IK (eO X scope cl N fp s H C fun cv x H'=>Ex cv x Z H') ifs (tc Z)/\PE (eO X scope cl N fp s H C fun cv x H'=>Ex cv x Z H') elt (te Z)) (hs:∀ x,foldedSetIterable iter X.env x=pure x)
  (I:Inv X pins Z H s) (h:tF wi g tc te cp n Z H Q)
  (fin:∀ s' C D H' f,Inv X pins Z H' s'->lZ X pins H' C->(∃ m,s'.heap.Ns C m)->Q (.ref D) H'->compPost (model X.prog X.w) X.A X.xe use Q' (.ref D) C (.ok f) s') :
  wpAny (model X.prog X.w) X.A (comprehension (.ListComp elt [⟨tg,iter,ifs,0⟩] scope pos) scope X.env ppos (newList []) false (eval iter X.env) use) Q' X.xe s:=by
 have hex:∀ x,(x,NameKind.free)∈scope.names->∃ c,X.env.cells.lookup x=some c:=fun x hx=>I.ok.has x (S.free x hx)
 refine wpAny_comprehension_free rfl hs (sM hex) S.kind S.names (aX (hi pins s Z H _ I h) fun v s1 h1=>aX h1 fun itv s2 h2=>?_)
 obtain ⟨it,fp,tn,J,H2,e,I2,T,st2,f2,hW⟩:=h2
 subst e
 refine wpAny_newObj_type (wpAny_newFunctionEnv S.cell (by intro y hy;simp at hy) (fun h₁ rZ n9=>?_) S.kind)
 dsimp only at rZ n9 ⊢
 generalize hH2:s2.heap.push { cls:=.type "list", dict:=none, data:=.seq ([]:List Value).toArray }=G at rZ n9 ⊢
 have hC:G.objs.size=s2.heap.objs.size+1:=by rw [<- hH2,Heap.size_push]
 have Ht:∀ b∈fp,b<s2.heap.objs.size:=fun b hb=>by
  obtain ⟨o,e,_⟩:=T.obj _ _ st2 b hb
  exact Heap.lt_size e
 have hDC:s2.heap.objs.size≠G.objs.size:=by rw [hC];exact Nat.ne_of_lt (Nat.lt_succ_self _)
 have old:∀ b o,s2.heap.get? b=some o->h₁.get? b=some o:=fun b o e=>n9.extBut b o (by rw [hC];exact Nat.ne_of_lt (Nat.lt_succ_of_lt (Heap.lt_size e))) (Heap.get?_push_of_some _ (hH2 ▸ Heap.get?_push_of_some _ e))
 have hacc:h₁.get? s2.heap.objs.size=some { cls:=.type "list", data:=.seq ([]:List Value).toArray 0 }:=n9.extBut _ _ hDC (Heap.get?_push_of_some _ (hH2 ▸ Heap.get?_push_size _ rfl))
 have st1:tn 0 h₁:=T.keep _ _ _ st2 fun b hb o e=>old b o e
 obtain ⟨W,⟨m0,w0⟩,turn⟩:=hW s2.heap.objs.size (I2.hok.fresh (Nat.le_refl _))
 have I0':=wQ (t1:=s2.toks+([]:List (Str×Value)).length) S I2 f2 Ht rfl hC rZ old hacc
 have I0:=I0'.eX (j5 (Em X scope (scope.names.foldl (aH X.env) []) N fp s2 H2 G.objs.size) fun cv x _ H'=>Ex cv x Z H')
 obtain ⟨hg,ht,he⟩:=hb Z (scope.names.foldl (aH X.env) []) fp s2 H2 G.objs.size
 have fp0:∀ b∈fp,upd H2 s2.heap.objs.size (.lst []) b=none:=fun b hb=>by rw [ao (Nat.ne_of_lt (Ht b hb))];exact (f2 b hb).1
 have hex':∀ x c,(scope.names.foldl (aH X.env) []).lookup x=some c->X.env.cells.lookup x=some c:=fun x c e=>by
  rcases oR scope.names [] (x,c) hex (PySem.mem_of_lookup e) with q | q
  ·cases q
  ·exact q
 have stat:∀ {H':Hp},(∀ b∈fp,H' b=none)->∀ b∈fp,lZ (eO X scope (scope.names.foldl (aH X.env) []) N fp s2 H2 G.objs.size (fun cv x H'=>Ex cv x Z H')) [] H' b:=fun {H'} hn b hb =>
  ⟨hn b hb,Nat.ne_of_lt (Nat.lt_trans (Ht b hb) (by rw [hC];exact Nat.lt_succ_self _)),fun z=>(List.mem_cons.mp (I2.eZ b z)).elim (f2 b hb).2.1 (f2 b hb).2.2.1,.inl hb,fun x c e=>(f2 b hb).2.2.2.2.1 x c (hex' x c e),fun p hp=>absurd (show p∈([]:List (Addr×Obj)) from hp) (by simp)⟩
 have loop:∀ s3:Shared,s3={ s2 with heap:=h₁,toks:=s2.toks+([]:List (Str×Value)).length }->codeAny (model X.prog X.w) X.A (.compLoop (.ListComp elt [⟨tg,iter,ifs,0⟩] scope pos) 0 (.ref it) (.ref s2.heap.objs.size) (compEnvC scope (scope.names.foldl (aH X.env) []) G.objs.size X.env))
   (compPost (model X.prog X.w) X.A X.xe use Q' (.ref s2.heap.objs.size) G.objs.size) s3:=by
  rintro s3 rfl
  refine gS (fun n s'=>∃ i Z' H',Inv (eO X scope (scope.names.foldl (aH X.env) []) N fp s2 H2 G.objs.size (fun cv x H'=>Ex cv x Z H')) [] Z' H' s'/\tn i s'.heap/\(∀ b∈fp,H' b=none)/\W i n Z' H') (j5 (Em X scope (scope.names.foldl (aH X.env) []) N fp s2 H2 G.objs.size) fun cv x _ H'=>Ex cv x Z H') ?hE ?_ m0 ⟨0,_,_,I0,st1,fp0,w0⟩
  case hE =>
   rintro e s3 ⟨pins3,Z3,H3,a,a0,cv,B,rfl,I3,up,iB,_,q⟩
   obtain ⟨lP,nM,L,hst,Hu,Mp⟩:=hfr
   show wpAny (model X.prog X.w) X.A (noteFrame (.ref a) _) _ _ s3
   rw [nQ (env:=compEnvC scope (scope.names.foldl (aH X.env) []) G.objs.size X.env) (env':=lP) (Mp.trans Hu.symm)]
   have up':Up B (lP::nM) a cv a0 s3.heap:=by rw [<- hst];exact up
   refine up'.note (by rw [I.ok.frames,hst]) Hu fun h4 held A0=>?_
   obtain ⟨m,hm,_⟩:=id I3.loc
   have hcC:G.objs.size∉frs X.stack:=fun z=>by
    rcases List.mem_cons.mp (I2.eZ _ z) with e | z
    ·have z:=I2.lt
     rw [<- e,hC] at z
     exact absurd z (Nat.not_lt.mpr (Nat.le_succ _))
    ·exact I2.Kh (by rw [hC];exact Nat.le_succ _) z
   refine ⟨m,A0.ns hm,fun h5 sb5 cenv _=>?_⟩
   have hm4:=A0.ns hm
   have upH:Up B X.stack a cv a0 h4:=by rw [hst];exact .ux held
   have Ez:=upH.hide sb5 (by
    obtain ⟨o,es,ep,ho,hd,_⟩:=hm4
    exact ⟨o,ho,fun vs z=>by rw [hd] at z;cases z⟩) hcC
   refine Ez.pass fun h6 up6 sm6=>hx _ _ ?_
   have jN:(B.hide G.objs.size).StaysIn s3.heap:=fun b o e=>up.1 b o (Heap.of_hide e)
   have C6:Calm (B.hide G.objs.size) (frs X.stack) fp H3 s2.heap:=fun b hb hf=>by
    obtain ⟨o,e⟩:=iB b hb hf
    refine ⟨o,?_⟩
    rw [Heap.hide_ne]
    ·exact e
    ·rintro rfl
     rcases hb with hb | ⟨⟨o',hb⟩,_⟩
     ·exact hb I3.free
     ·have z:=Heap.lt_size hb
      rw [hC] at z
      exact absurd z (Nat.not_lt.mpr (Nat.le_succ _))
   have fru:∀ b∈frs X.stack,∀ o,s3.heap.get? b=some o->∃ sl,h6.get? b=some { o with slots:=sl }:=fun b hb o e=>by
    have hd:=qq I3 b hb o e
    obtain ⟨sl,e4⟩:=A0 b o e hd
    have e5:h5.get? b=some { o with slots:=sl }:=by rw [sb5.2 b (by rintro rfl;exact hcC hb)];exact e4
    obtain ⟨DH,e6⟩:=sm6 b _ e5 hd
    exact ⟨DH,e6⟩
   have un6:=oq I3.base C6 jN up6.1 fru (fun b hb _=>hb)
   have hok6:=kq I3.hok C6 jN up6.1 I3.gF
   have J:=I2.Aj (s':={ s3 with heap:=h6 }) I3.os un6 hok6 I3.bare fun b hb=>⟨(f2 b hb).2.2.2.1,(f2 b hb).2.1,(f2 b hb).2.2.2.2.1,(f2 b hb).2.2.2.2.2⟩
   have calX:Calm (B.hide G.objs.size) (frs X.stack) X.ex H3 X.s₀.heap:=by
    intro b hb hf
    refine C6 b ?_ hf
    rcases hb with hb | ⟨⟨o,z⟩,nx⟩
    ·exact .inl hb
    ·refine .inr ⟨gH I2 z nx,fun zf=>?_⟩
     rcases (f2 b zf).2.2.2.1 with y | y
     ·exact nx y
     ·exact absurd (Nat.lt_of_lt_of_le (Heap.lt_size z) y) (Nat.lt_irrefl _)
   have pnX:∀ p∈X.pn,(B.hide G.objs.size).get? p.1=some p.2:=by
    intro p hp
    obtain ⟨p1,p2,p3,p4,_⟩:=I2.pin p (List.mem_append_left _ hp)
    have pf:p.1∉fp:=fun z=>(f2 _ z).2.2.2.2.2 p (List.mem_append_left _ hp) rfl
    have ps:p.1∉frs X.stack:=fun z=>by
     rcases List.mem_cons.mp (I2.eZ _ z) with e | z
     ·exact p3 e
     ·exact p4 z
    exact C6.at jN (I3.base.keep p.1 p.2 p1 p2 ps pf) (.inr ⟨⟨_,p1⟩,pf⟩) ps
   exact ⟨pins,Z,H3,a,a0,cv,B.hide G.objs.size,rfl,J,up6,calX,pnX,q⟩
  rintro n s3 ⟨i,Z3,H3,I3,st3,KU,w3⟩
  rcases turn i n Z3 H3 w3 with ⟨stop,qn⟩ | ⟨go,step⟩
  ·refine aX (T.done (eO X scope (scope.names.foldl (aH X.env) []) N fp s2 H2 G.objs.size (fun cv x H'=>Ex cv x Z H')) rfl rfl rfl hc i [] s3 Z3 H3 _ I3 (stat KU) st3 stop) fun r s4 ⟨hr,I4⟩=>?_
   subst hr
   refine fin s4 _ _ H3 _ (I2.Aj I4.os I4.base I4.hok I4.bare fun b hb=>⟨(f2 b hb).2.2.2.1,(f2 b hb).2.1,(f2 b hb).2.2.2.2.1,(f2 b hb).2.2.2.2.2⟩) (I2.wC (by rw [hC];exact Nat.le_succ _) I4.free) ?_ qn
   obtain ⟨m,hm,_⟩:=I4.loc
   exact ⟨m,hm⟩
  ·refine aX (T.item (eO X scope (scope.names.foldl (aH X.env) []) N fp s2 H2 G.objs.size (fun cv x H'=>Ex cv x Z H')) rfl rfl rfl hc i [] s3 Z3 H3 _ I3 (stat KU) st3 go) fun r s4 ⟨u,hr,h4⟩=>?_
   subst hr
   refine aX h4 fun _ s5 ⟨x,H5,I5,r5,y5,EN,fr5⟩=>?_
   have I5':=I5.pinned (stat fr5) (T.obj _ _ EN)
   refine aX (hg _ s5 Z3 H5 x u _ I5' r5 (step x H5 y5)) fun _ s6 ⟨Z6,H6,I6,q6⟩=>?_
   refine aX (ht _ s6 Z6 H6 _ I6 q6) fun ok s7 ⟨H7,I7,q7⟩=>?_
   have again:∀ {Z8:St} {H8:Hp} {s8:Shared} {m':Nat},Inv (eO X scope (scope.names.foldl (aH X.env) []) N fp s2 H2 G.objs.size (fun cv x H'=>Ex cv x Z H')) ([]++kU fp s5.heap) Z8 H8 s8->m'<n->W (i+1) m' Z8 H8 ->
     ∃ m,m<n/\∃ i Z' H',Inv (eO X scope (scope.names.foldl (aH X.env) []) N fp s2 H2 G.objs.size (fun cv x H'=>Ex cv x Z H')) [] Z' H' s8/\tn i s8.heap/\(∀ b∈fp,H' b=none)/\W i m Z' H':=fun {Z8 H8 s8 m'} I8 hm w8=>by
    refine ⟨m',hm,i+1,Z8,H8,I8.iG,T.keep _ _ _ EN fun b hb o e=>(I8.pin (b,o) (List.mem_append_right _ (List.mem_append_right _ (fq hb e)))).1,fun b hb=>?_,w8⟩
    obtain ⟨o,e,d⟩:=T.obj _ _ EN b hb
    exact (I8.pin (b,o) (List.mem_append_right _ (List.mem_append_right _ (fq hb e)))).2.1
   cases ok with
   | false =>
    rw [if_neg Bool.false_ne_true] at q7 ⊢
    obtain ⟨m',hm,w7⟩:=q7
    exact again I7 hm w7
   | true =>
    rw [if_pos rfl] at q7 ⊢
    refine aX (he _ s7 Z6 H7 _ I7 q7) fun xv s8 ⟨v,H8,I8,r8,ys,hy,hz,m',hm,w8⟩=>?_
    refine aX (mZ (X:=(eO X scope (scope.names.foldl (aH X.env) []) N fp s2 H2 G.objs.size (fun cv x H'=>Ex cv x Z H'))) _ s8 Z6 H8 (.ref s2.heap.objs.size) [v] (.ref s2.heap.objs.size) [xv] (fun _ H'=>H'=upd H8 s2.heap.objs.size (.lst (ys++[v]))) I8 rfl (.cons r8 .nil) ⟨_,ys,v,rfl,rfl,hy,hz,rfl⟩) fun a s9 ⟨_,H9,I9,_,e9⟩=>?_
    subst e9
    exact again I9 hm w8
 exact codeAny_compStart_list (loop _ rfl) (T.self X.A 0 _ _ _ st1 (loop _ rfl))
theorem BX (hc:X.calm=true) (S:iD X scope N cp n) (hi:PI X tg iter wi)
  (hfr:qQ X) (hx:∀ e s,j5 X Ex e s->X.xe e s) (hb:∀ Z cl fp s H C,PG (eO X scope cl N fp s H C fun cv x H'=>Ex cv x Z H') tg g/\IK (eO X scope cl N fp s H C fun cv x H'=>Ex cv x Z H') ifs (tc Z)/\PE (eO X scope cl N fp s H C fun cv x H'=>Ex cv x Z H') elt (te Z)) (hs:∀ x,foldedSetIterable iter X.env x=pure x) :
  PE X (.ListComp elt [⟨tg,iter,ifs,0⟩] scope pos) (tF wi g tc te cp n):=by
 intro pins s Z H Q I h
 rw [eval_ListComp]
 refine nk (use:=none) hc S hi hfr hx hb hs I h fun s' C D H' f I' fC ⟨m,hm⟩ q=>⟨m,hm,fun h' hs'=>?_⟩
 exact ⟨.ref D,H',I'.turned (fun b o hb e=>(hs'.2 b hb).trans e) fC.1 fC.2.1 fC.2.2.2.1 fC.2.2.2.2.1 fC.2.2.2.2.2,rfl,q⟩
theorem BN {i:Nat} {y:Str} {py spos:Pos} (hN:X.N.Nodup) (hy:X.N[i]? = some y) (hk:X.env.scope.names.lookup y=some .local) (hc:X.calm=true) (S:iD X scope N cp n) (hi:PI X tg iter wi)
  (hfr:qQ X) (hx:∀ e s,j5 X Ex e s->X.xe e s) (hb:∀ Z cl fp s H C,PG (eO X scope cl N fp s H C fun cv x H'=>Ex cv x Z H') tg g/\IK (eO X scope cl N fp s H C fun cv x H'=>Ex cv x Z H') ifs (tc Z)/\PE (eO X scope cl N fp s H C fun cv x H'=>Ex cv x Z H') elt (te Z)) (hs:∀ x,foldedSetIterable iter X.env x=pure x)
  (hsw:swapsWith (.ListComp elt [⟨tg,iter,ifs,0⟩] scope pos) (some (.Name y py)) spos.line X.env=pure true) :
  PS X (.Assign [.Name y py] (.ListComp elt [⟨tg,iter,ifs,0⟩] scope pos) spos) (xB (tF wi g tc te cp n) (lG i)):=by
 intro pins s Z H Dn I h
 rw [exec_Assign_Name_used _ _ _ _ hsw]
 refine wpAny_bind (wpAny_standAt (wpAny_bind ?_))
 show wpAny _ X.A (do let _ <- comprehension (.ListComp elt [⟨tg,iter,ifs,0⟩] scope pos) scope X.env _ (newList []) false (eval iter X.env) (some (assign (.Name y py) X.env))) _ _ s
 refine wpAny_bind (wpAny_mono (nk (use:=some (assign (.Name y py) X.env)) (Q':=fun _ s'=>SP X pins Dn .next s') hc S hi hfr hx hb hs I h fun s' C D H' f I' fC ⟨m,hm⟩ q=>?_) (fun _ s' hq=>wpAny_pure (wpAny_pure hq)) fun _ _ e=>e)
 show wpAny _ X.A (assign (.Name y py) X.env (.ref D)) _ _ s'
 refine wpAny_assign_Name (mR I' hN hy (.inl hk) (v:=.ref D) rfl (fun s2 I2 ⟨a,hsb,ha⟩=>?_) (.inr hk))
 have hCa:C≠a:=by
  rcases ha with rfl | ha
  ·exact fC.2.1
  ·exact fun z=>fC.2.2.2.2.1 _ _ ha z.symm
 refine ⟨m,hm.sameBut hsb hCa,fun h' hs'=>⟨_,H',I2.turned (fun b o hb e=>(hs'.2 b hb).trans e) fC.1 fC.2.1 fC.2.2.2.1 fC.2.2.2.2.1 fC.2.2.2.2.2,q⟩⟩
end
end Fg
end
section
namespace Fg
open PySem L2
noncomputable def LP (a:Addr) (o:Obj) (kvs:List (Key×V)):It :=
 ⟨fun i H=>H a=some (.gI o (.dK kvs))/\i<kvs.length,fun i H x H'=>H'=H/\∃ kv,kvs[i]? = some kv/\x=kV kv.1,fun i H=>H a=some (.gI o (.dK kvs))/\kvs.length<=i⟩
noncomputable def KO (B:Bd) (th:Addr->Prop) (tl:TE):TI:=fun Z H R=>tl Z H fun x H1 =>
 (∃ a,x=.ref a/\(∃ xs,fT B.K H1 a xs)/\R (Itl B.K a) H1)\/(∃ a,x=.ref a/\(∃ xs,i7 B.K H1 a xs)/\R (Itt B.K a) H1) \/
 (∃ a kvs,x=.ref a/\H1 a=some (.dK kvs)/\∀ o,th a->R (LP a o kvs) (upd H1 a (.gI o (.dK kvs)))) \/
 (∃ a o kvs,x=.ref a/\H1 a=some (.gI o (.dK kvs))/\R (LP a o kvs) H1)
section
variable {B:Bd} {Φ:aS} {E:Gx} {F F' F0 F1:Addr->Prop} {ρ ρ' ρ0 ρ1:List Addr} {H H' H0 H1:Hp} {M M' M0:MH} {ZD:Sg} {Z:L2.St} {Q:VK} {Dn:Ends}
theorem mK {a:Addr} {src:D} {ds:List D} (h:∀ F ρ M H,Ext F0 ρ0 H0 F ρ H->SR B F ρ M H->aI M0 src M=true->∃ vs,fT B.K H a vs/\ak B F ρ H ds vs):Walks B (Itl B.K a) src ds F0 ρ0 M0 H0:=by
 intro i F ρ M H e S st
 obtain ⟨vs,q,rd⟩:=h F ρ M H e S st
 refine ⟨fun d hd=>?_,fun hl=>⟨vs,q,by rw [<- ak.length rd];exact hl⟩⟩
 obtain ⟨v,hv,rv⟩:=ak.get rd hd
 refine ⟨⟨vs,v,q,hv⟩,fun x H' ⟨e',hy⟩=>?_⟩
 subst e'
 have z:=hy vs q
 rw [hv] at z;cases z
 exact ⟨F,S.refl,S,rv⟩
theorem vz {a:Addr} {src:D} {ds:List D} (h:∀ F ρ M H,Ext F0 ρ0 H0 F ρ H->SR B F ρ M H->aI M0 src M=true->∃ vs,i7 B.K H a vs/\ak B F ρ H ds vs):Walks B (Itt B.K a) src ds F0 ρ0 M0 H0:=by
 intro i F ρ M H e S st
 obtain ⟨vs,q,rd⟩:=h F ρ M H e S st
 refine ⟨fun d hd=>?_,fun hl=>⟨vs,q,by rw [<- ak.length rd];exact hl⟩⟩
 obtain ⟨v,hv,rv⟩:=ak.get rd hd
 refine ⟨⟨vs,v,q,hv⟩,fun x H' ⟨e',hy⟩=>?_⟩
 subst e'
 have z:=hy vs q
 rw [hv] at z;cases z
 exact ⟨F,S.refl,S,rv⟩
theorem GD {k:Key}:RD B F ρ H (Mi k) (kV k):=by cases k <;> simp only [Mi,kV,RD]
theorem mL {a:Addr} {o:Obj} {src:D} {dW:List (Ky×D)} {kws:List (Key×V)} (hz:H0 a=some (.gI o (.dK kws))) (hk:kws.map (·.1)=dW.map (·.1)):Walks B (LP a o kws) src (dW.map fun kv=>Mi kv.1) F0 ρ0 M0 H0:=by
 intro i F ρ M H e S st
 have hl:kws.length=dW.length:=by have:=congrArg List.length hk;simpa using this
 have hH:=e.z a o _ hz
 refine ⟨fun d hd=>?_,fun hi=>⟨hH,by rw [hl];simpa using hi⟩⟩
 rw [List.getElem?_map] at hd
 cases hx:dW[i]? with
 | none=>rw [hx] at hd;cases hd
 | some kd =>
  rw [hx] at hd
  simp only [Option.map_some,Option.some.injEq] at hd
  subst hd
  obtain ⟨hi,_⟩:=List.getElem?_eq_some_iff.mp hx
  refine ⟨⟨hH,by rw [hl];exact hi⟩,fun x H' ⟨e',kw,hkw,hx'⟩=>?_⟩
  subst e' hx'
  have e1:(kws.map (·.1))[i]? = some kw.1:=by rw [List.getElem?_map,hkw];rfl
  rw [hk,List.getElem?_map,hx] at e1
  simp only [Option.map_some,Option.some.injEq] at e1
  rw [<- e1]
  exact ⟨F,S.refl,S,GD⟩
theorem E1 {a:Fg.E} {Rr:It->Hp->Prop} (h:Er B Φ E (.e a) Z H Rr):KO B E.th (T B Φ E a) Z H Rr:=by
 obtain ⟨ZD,M,F,ρ,S,r,h⟩:=h
 refine ⟨ZD,M,F,ρ,S,r,?_⟩
 cases hx:ev Φ a ZD M with
 | exc c M1 =>
  have he:bZ Φ (.e a) ZD M=.exc c M1:=by simp only [bZ,hx,R.lV]
  rw [he] at h;exact h
 | bad =>
  have he:bZ Φ (.e a) ZD M=.bad:=by simp only [bZ,hx,R.iZ]
  rw [he] at h;exact h
 | ok d M1 =>
  intro F1 ρ1 H1 v e1 S1 rd
  cases hi:itemsOf M1 d with
  | none =>
   have he:bZ Φ (.e a) ZD M=.bad:=by simp only [bZ,hx,R.af,hi]
   rw [he] at h;exact h.elim
  | some ds =>
   have he:bZ Φ (.e a) ZD M=.ok (d,ds,wk M1 d) (walk M1 d):=by simp only [bZ,hx,R.af,hi]
   rw [he] at h
   cases d with
   | aq=>simp [itemsOf,vw] at hi
   | bl _=>simp [itemsOf,vw] at hi
   | int _=>simp [itemsOf,vw] at hi
   | str _=>simp [itemsOf] at hi
   | dct _ _=>simp [itemsOf] at hi
   | lst xs =>
    simp only [itemsOf,vw,Option.some.injEq] at hi;subst hi
    simp only [RD] at rd
    obtain ⟨b,vs,rfl,z,q⟩:=id rd
    refine .inl ⟨b,rfl,⟨vs,z.sq⟩,h F1 ρ1 H1 _ e1 S1 fun M' eq S'=>⟨?_,fun z=>by simp [wk] at z⟩⟩
    refine mK fun F ρ M H e S st=>?_
    have JI:=RD.mono e (.lst xs) (.ref b) (by simp only [RD];exact rd)
    simp only [RD] at JI
    obtain ⟨b',vs',eb,z',q'⟩:=JI
    cases eb
    exact ⟨vs',z'.sq,q'⟩
   | tup xs =>
    simp only [itemsOf,vw,Option.some.injEq] at hi;subst hi
    simp only [RD] at rd
    obtain ⟨b,vs,rfl,z,q⟩:=id rd
    refine .inr (.inl ⟨b,rfl,⟨vs,z.sq⟩,h F1 ρ1 H1 _ e1 S1 fun M' eq S'=>⟨?_,fun z=>by simp [wk] at z⟩⟩)
    refine vz fun F ρ M H e S st=>?_
    have JI:=RD.mono e (.tup xs) (.ref b) (by simp only [RD];exact rd)
    simp only [RD] at JI
    obtain ⟨b',vs',eb,z',q'⟩:=JI
    cases eb
    exact ⟨vs',z'.sq,q'⟩
   | ref n =>
    simp only [RD] at rd
    obtain ⟨b,hb,rfl⟩:=rd
    cases hM:M1[n]? with
    | none=>simp [itemsOf,vw,hM] at hi
    | some o =>
     cases o with
     | ins _ _=>simp [itemsOf,vw,hM] at hi
     | lst xs =>
      simp only [itemsOf,vw,hM,Option.some.injEq] at hi;subst hi
      have hw:walk M1 (.ref n)=M1:=by simp only [walk,hM]
      have hk:wk M1 (.ref n)=false:=by simp only [wk,hM]
      rw [hw,hk] at h
      obtain ⟨vs,h1,q⟩:=S1.obj n b _ hb hM
      refine .inl ⟨b,rfl,⟨vs,.inl (.inl h1)⟩,h F1 ρ1 H1 _ e1 S1 fun M' eq S'=>⟨?_,fun z=>by simp at z⟩⟩
      injection eq with eq1 eq2
      subst eq2
      refine mK fun F ρ M H e S st=>?_
      simp only [aI,decide_eq_true_eq] at st
      obtain ⟨vs',h1',q'⟩:=S.obj n b _ (e.at hb) (st.trans hM)
      exact ⟨vs',.inl (.inl h1'),q'⟩
     | dct dW =>
      simp only [itemsOf,vw,hM,Option.some.injEq] at hi;subst hi
      have hw:walk M1 (.ref n)=M1.set n (.o7 dW):=by simp only [walk,hM]
      have hk:wk M1 (.ref n)=true:=by simp only [wk,hM]
      rw [hw,hk] at h
      obtain ⟨kws,h1,h2,q⟩:=S1.obj n b _ hb hM
      refine .inr (.inr (.inl ⟨b,kws,rfl,h1,fun ob hth=>?_⟩))
      obtain ⟨S2,e2⟩:=S1.wk ob hb hM h1
      refine h F1 ρ1 _ _ (e1.trans e2) S2 fun M' eq S'=>⟨mL aA h2,fun _=>⟨n,b,rfl,hb,hth,fun w v z=>?_⟩⟩
      have:=e1.z b w v z
      rw [h1] at this;cases this
     | o7 dW =>
      simp only [itemsOf,vw,hM,Option.some.injEq] at hi;subst hi
      have hw:walk M1 (.ref n)=M1:=by simp only [walk,hM]
      have hk:wk M1 (.ref n)=false:=by simp only [wk,hM]
      rw [hw,hk] at h
      obtain ⟨ob,kws,h1,h2,q⟩:=S1.obj n b _ hb hM
      exact .inr (.inr (.inr ⟨b,ob,kws,rfl,h1,h F1 ρ1 H1 _ e1 S1 fun M' eq S'=>⟨mL h1 h2,fun z=>by simp at z⟩⟩))
theorem vA {lo:Int} {n:Nat} {src:D}:Walks B (MX lo n) src ((List.range n).map fun (i:Nat)=>D.int (lo+(i:Int))) F0 ρ0 M0 H0:=by
 intro i F ρ M H e S st
 refine ⟨fun d hd=>?_,fun hi=>(show n<=i by simpa using hi)⟩
 have hi:i<n:=by
  obtain ⟨q,_⟩:=List.getElem?_eq_some_iff.mp hd
  simpa using q
 refine ⟨hi,fun x H' ⟨e',hx⟩=>?_⟩
 subst e' hx
 simp [hi] at hd
 subst hd
 exact ⟨F,S.refl,S,by simp only [RD]⟩
theorem Ke {j:Int} (h:mz j=true):-(2 ^ 62)<=j/\j<2 ^ 62:=by
 simp only [mz,decide_eq_true_eq] at h;omega
theorem Bb {a:Fg.E} {Rr:It->Hp->Prop} (h:Er B Φ E (.cR a) Z H Rr):D7 (gW (T B Φ E a) kM) Z H Rr:=by
 obtain ⟨ZD,M,F,ρ,S,r,h⟩:=h
 refine ⟨ZD,M,F,ρ,S,r,?_⟩
 cases hx:ev Φ a ZD M with
 | exc c M1 =>
  have he:bZ Φ (.cR a) ZD M=.exc c M1:=by simp only [bZ,hx,R.lV]
  rw [he] at h;exact h
 | bad =>
  have he:bZ Φ (.cR a) ZD M=.bad:=by simp only [bZ,hx,R.iZ]
  rw [he] at h;exact h
 | ok d M1 =>
  intro F1 ρ1 H1 v e1 S1 rd
  cases d with
  | int j =>
   simp only [RD] at rd;subst rd
   cases hr:mz j with
   | false =>
    have he:bZ Φ (.cR a) ZD M=.bad:=by simp [bZ,hx,hr]
    rw [he] at h;exact h.elim
   | true =>
    have he:bZ Φ (.cR a) ZD M=.ok (.aq,cW 0 j,false) M1:=by simp [bZ,hx,hr]
    rw [he] at h
    obtain ⟨b1,b2⟩:=Ke hr
    refine ⟨j,rfl,b1,b2,h F1 ρ1 H1 _ e1 S1 fun M' eq S'=>⟨?_,fun z=>by simp at z⟩⟩
    have q:cW 0 j=(List.range j.toNat).map fun (i:Nat)=>D.int (0+(i:Int)):=by simp [cW]
    dsimp only
    rw [q]
    exact vA
  | aq =>
   have he:bZ Φ (.cR a) ZD M=.bad:=by simp [bZ,hx]
   rw [he] at h;exact h.elim
  | bl _ =>
   have he:bZ Φ (.cR a) ZD M=.bad:=by simp [bZ,hx]
   rw [he] at h;exact h.elim
  | str _ =>
   have he:bZ Φ (.cR a) ZD M=.bad:=by simp [bZ,hx]
   rw [he] at h;exact h.elim
  | tup _ =>
   have he:bZ Φ (.cR a) ZD M=.bad:=by simp [bZ,hx]
   rw [he] at h;exact h.elim
  | lst _ =>
   have he:bZ Φ (.cR a) ZD M=.bad:=by simp [bZ,hx]
   rw [he] at h;exact h.elim
  | dct _ _ =>
   have he:bZ Φ (.cR a) ZD M=.bad:=by simp [bZ,hx]
   rw [he] at h;exact h.elim
  | ref _ =>
   have he:bZ Φ (.cR a) ZD M=.bad:=by simp [bZ,hx]
   rw [he] at h;exact h.elim
end
end Fg
end
section
namespace Fg
open PySem L2
noncomputable def EB (E:Gx) (Z:L2.St):Gx:=⟨fun cv x _ H=>E.e cv x Z H,fun _=>False,fun cv x _ H H' t h=>by
 rcases t with rfl | ⟨_,_,_,z,_⟩
 ·exact h
 ·exact z.elim⟩
noncomputable def TBo (B:Bd) (Φ:aS) (E:Gx):O->TT
 | .none=>fun _ H Q=>Q true H
 | .some e=>TB B Φ E e
section
variable {B:Bd} {Φ:aS} {E:Gx} {F F' F0 F1:Addr->Prop} {ρ ρ' ρ0 ρ1:List Addr} {H H' H0 H1:Hp} {M M' M0:MH} {ZD:Sg} {Z:L2.St} {Q:VK} {Dn:Ends}
theorem Ext.fresh (S:SR B F ρ M H) {p:Addr} (h:H p=none) (o:HO):Ext F ρ H F ρ (upd H p o) :=
 ⟨⟨S.sep,fun _ q=>q,fun a q _=>ao (by rintro rfl;exact q h),List.prefix_refl _,fun _ q=>.inl q,fun _ q=>.inl q⟩,fun b w u q=>by rw [ao (by rintro rfl;rw [h] at q;cases q)];exact q⟩
theorem Ext.over (e:Ext F ρ H F' ρ' H') {p:Addr} (h:H p=none) (o:HO):Ext F ρ H F' ρ' (upd H' p o) :=
 ⟨⟨e.s,e.f,fun a q nb=>by rw [ao (by rintro rfl;exact q h)];exact e.h a q nb,e.r,e.n,e.g⟩,fun b w u q=>by rw [ao (by rintro rfl;rw [h] at q;cases q)];exact e.z b w u q⟩
theorem RS.cap (r:RS B F ρ H ZD Z) (caps:List Nat) (n:Nat):RS B F ρ H (jv ZD caps++List.replicate n none) (qM caps n Z):=by
 refine ⟨by simp [jv,qM],fun i d q=>?_⟩
 by_cases hi:i<caps.length
 ·have hc:caps[i]? = some caps[i]:=List.getElem?_eq_getElem hi
  rw [List.getElem?_append_left (by simpa [jv] using hi)] at q
  simp only [jv,List.getElem?_map,hc,Option.map_some,Option.some.injEq] at q
  cases hs:ZD[caps[i]]? with
  | none=>rw [hs] at q;cases q
  | some o =>
   rw [hs] at q
   simp only [Option.join_some] at q
   subst q
   obtain ⟨v,h1,h2⟩:=r.get _ _ hs
   refine ⟨v,?_,h2⟩
   unfold qM
   rw [List.getElem?_append_left (by simpa using hi),List.getElem?_map,hc]
   simp [h1]
 ·rw [List.getElem?_append_right (by simpa [jv] using Nat.le_of_not_lt hi),List.getElem?_replicate] at q
  split at q <;> cases q
theorem RS.bf (e:qR F ρ H F' ρ' H') (h:RS B F ρ H ZD Z):RS B F' ρ' H' ZD Z :=
 ⟨h.len,fun i d q=>let ⟨v,h1,h2⟩:=h.get i d q;⟨v,h1,RD.bf e d v h2⟩⟩
theorem pK {fz:Bool} {caps tg:List Nat} {elt:Fg.E} {it:Src} {cond:O} (h:T B Φ E (.comp fz caps tg elt it cond) Z H Q) :
  tF (Er B Φ E it) (IF tg B.K) (fun Z=>TBo B Φ (EB E Z) cond) (fun Z=>T B Φ (EB E Z) elt) caps tg.length Z H (fun v H'=>∃ sV,AF E.th H' sV/\Q v sV):=by
 obtain ⟨ZD,M,F,ρ,S,r,h⟩:=h
 simp only [ev] at h
 refine ⟨ZD,M,F,ρ,S,r,?_⟩
 cases hx:bZ Φ it ZD M with
 | exc c M1=>rw [hx] at h;exact h
 | bad=>rw [hx] at h;exact h
 | ok p M0 =>
  rw [hx] at h
  simp only [R.af] at h
  intro F0 ρ0 H0 J e0 S0 hw
  obtain ⟨W,wz⟩:=hw M0 rfl S0
  obtain ⟨src,ds,fl⟩:=p
  dsimp only at h W wz
  intro Da Mv
  obtain ⟨nD,nF⟩:=S0.new Mv
  have Mu:H Da=none:=by
   cases q:H Da with
   | none=>rfl
   | some u =>
    exfalso
    by_cases hr:Da∈ρ
    ·exact nD (e0.r.subset hr)
    ·have:=e0.h Da (by rw [q];simp) hr
     rw [Mv,q] at this;cases this
  let loop:=fun (i:Nat) (Z':Sg) (M':MH) (acc:List D)=>((bh (mE Φ cond) (ev Φ elt) tg (aI M0 src) (ds.drop i) Z' M' acc).fin (fU fl src)).bind fun ds M2=>b7 fz ds M2
  let WW:Nat->Nat->L2.St->Hp->Prop:=fun i m Z' H'=>m+i=ds.length/\∃ (ZD':Sg) (M1:MH) (F1:Addr->Prop) (ρ1:List Addr) (acc:List D) (vs:List V),Ext F ρ H F1 ρ1 H'/\Ext F0 ρ0 H0 F1 ρ1 H'/\SR B F1 ρ1 M1 H'/\RS B F1 ρ1 H' ZD' Z'/\aI M0 src M1=true/\Da∉ρ1/\¬ F1 Da/\H' Da=some (.lst vs)/\ak B F1 ρ1 H' acc vs /\
   Post B (loop i ZD' M1 acc) F ρ H Q (fun cv x H'=>E.e cv x Z H')
  have x0:=qR.side (ρ:=ρ0) (H:=H0) nF (.lst [])
  refine ⟨WW,⟨ds.length,by simp,_,M0,F0,ρ0,[],[],e0.over Mu _,Ext.fresh S0 Mv _,S0.side nD nF _,((r.mono e0).cap caps tg.length).bf x0,?_,nD,nF,aA,ak.nil,h⟩,?_⟩
  ·unfold aI;split <;> simp
  rintro i m Z1 H1 ⟨hm,MT,M1,F1,ρ1,acc,vs,eo,e1,S1,r1,st1,d1,f1,Mw,ra,p1⟩
  obtain ⟨wgo,wst⟩:=W i F1 ρ1 M1 H1 e1 S1 st1
  by_cases hi:i<ds.length
  ·have hd:ds.drop i=ds[i]::ds.drop (i+1):=List.drop_eq_getElem_cons hi
   simp only [loop] at p1
   rw [hd] at p1
   unfold bh at p1
   obtain ⟨go,yl⟩:=wgo ds[i] (List.getElem?_eq_getElem hi)
   refine .inr ⟨go,fun x H2 hy=>?_⟩
   obtain ⟨F2,e2,S2,rd⟩:=yl x H2 hy
   have keep:∀ {F3:Addr->Prop} {ρ3:List Addr} {H3:Hp},Ext F1 ρ1 H1 F3 ρ3 H3->Da∉ρ3/\¬ F3 Da/\H3 Da=some (.lst vs)/\ak B F3 ρ3 H3 acc vs:=fun {F3 ρ3 H3} e=>by
    have hne:H1 Da≠none:=by rw [Mw];simp
    refine ⟨fun z=>(e.n Da z).elim d1 hne,fun z=>?_,(e.h Da hne d1).trans Mw,ak.mono e _ _ ra⟩
    rcases e.g Da z with q | q | q
    ·exact f1 q
    ·exact hne q
    ·exact d1 q
   split at p1
   ·exact p1.elim
   ·rename_i Z2 hs
    refine kP (r1.mono e2) rd hs fun Z' r'=>?_
    have Lf:∀ {F3:Addr->Prop} {ρ3:List Addr} {H3:Hp} {M3:MH},Ext F1 ρ1 H1 F3 ρ3 H3->SR B F3 ρ3 M3 H3->RS B F3 ρ3 H3 Z2 Z' ->
      Post B ((((ev Φ elt Z2 M3).bind fun x M2=>if aI M0 src M2=true then (if decide (acc.length<line)=true then bh (mE Φ cond) (ev Φ elt) tg (aI M0 src) (ds.drop (i+1)) Z2 M2 (acc++[x]) else .bad) else .bad).fin (fU fl src)).bind fun ds M2=>b7 fz ds M2) F ρ H Q (fun cv x H'=>E.e cv x Z H') ->
      T B Φ (EB E Z) elt Z' H3 fun v H5=>∃ ys,H5 Da=some (.lst ys)/\ys.length<sizeLine/\∃ m',m'<m/\WW (i+1) m' Z' (upd H5 Da (.lst (ys++[v]))):=by
     intro F3 ρ3 H3 M3 e3 S3 r3 p3
     refine ⟨Z2,M3,F3,ρ3,S3,r3,?_⟩
     cases hv:ev Φ elt Z2 M3 with
     | bad=>rw [hv] at p3;exact p3
     | exc c M4 =>
      rw [hv] at p3
      intro F4 ρ4 H4 cv x e4 S4 q4
      obtain ⟨H5,t5,S5,e5,x5⟩:=cU S4 ((eo.trans e3).trans e4) ((e1.trans e3).trans e4).r wz
      exact E.cl _ _ _ _ _ t5 (p3 F4 ρ4 H5 cv x e5 S5 q4)
     | ok d M4 =>
      rw [hv] at p3
      simp only [R.af] at p3
      intro F4 ρ4 H4 v e4 S4 q4
      split at p3
      ·rename_i hst
       split at p3
       ·rename_i hlt
        obtain ⟨k1,k2,k3,k4⟩:=keep (e3.trans e4)
        have hl4:=ak.length k4
        have x4:=qR.side (ρ:=ρ4) (H:=H4) k2 (.lst (vs++[v]))
        refine ⟨vs,k3,by rw [<- hl4];exact Nat.lt_of_lt_of_le (of_decide_eq_true hlt) bB,m-1,by omega,by omega,Z2,M4,F4,ρ4,acc++[d],vs++[v],((eo.trans e3).trans e4).over Mu _,((e1.trans e3).trans e4).over Mv _,S4.side k1 k2 _,((r3.mono e4)).bf x4,hst,k1,k2,aA,ak.bf x4 _ _ (k4.append (ak.cons q4 ak.nil)),p3⟩
       ·exact p3.elim
      ·exact p3.elim
    cases cond with
    | none =>
     have hc:mE Φ .none Z2 M1=.ok (.bl true) M1:=by simp only [mE]
     rw [hc] at p1
     simp only [R.af] at p1
     unfold TBo
     dsimp only
     rw [if_pos rfl]
     exact Lf e2 S2 r' p1
    | some c =>
     have hc0:mE Φ (.some c) Z2 M1=ev Φ c Z2 M1:=by simp only [mE]
     rw [hc0] at p1
     refine ⟨Z2,M1,F2,ρ1,S2,r',?_⟩
     cases hc:ev Φ c Z2 M1 with
     | bad=>rw [hc] at p1;exact p1
     | exc k M4 =>
      rw [hc] at p1
      intro F4 ρ4 H4 cv x e4 S4 q4
      obtain ⟨H5,t5,S5,e5,x5⟩:=cU S4 ((eo.trans e2).trans e4) ((e1.trans e2).trans e4).r wz
      exact E.cl _ _ _ _ _ t5 (p1 F4 ρ4 H5 cv x e5 S5 q4)
     | ok t M4 =>
      rw [hc] at p1
      simp only [R.af] at p1
      intro F4 ρ4 H4 v e4 S4 q4
      split at p1
      ·simp only [RD] at q4;subst q4
       refine ⟨true,rfl,?_⟩
       dsimp only
       rw [if_pos rfl]
       exact Lf (e2.trans e4) S4 (r'.mono e4) p1
      ·simp only [RD] at q4;subst q4
       refine ⟨false,rfl,?_⟩
       dsimp only
       rw [if_neg Bool.false_ne_true]
       split at p1
       ·rename_i hst
        obtain ⟨k1,k2,k3,k4⟩:=keep (e2.trans e4)
        exact ⟨m-1,by omega,by omega,Z2,M4,F4,ρ4,acc,vs,(eo.trans e2).trans e4,(e1.trans e2).trans e4,S4,r'.mono e4,hst,k1,k2,k3,k4,p1⟩
       ·exact p1.elim
      ·exact p1.elim
  ·have hd:ds.drop i=[]:=List.drop_eq_nil_of_le (Nat.le_of_not_lt hi)
   simp only [loop] at p1
   rw [hd] at p1
   unfold bh at p1
   obtain ⟨H4,t4,S4,e4,x4⟩:=cU S1 eo e1.r wz
   refine .inl ⟨wst (Nat.le_of_not_lt hi),H4,t4,?_⟩
   have p2:Post B (b7 fz acc (fU fl src M1)) F ρ H Q (fun cv x H'=>E.e cv x Z H'):=p1
   have ra4:=ak.bD x4 _ _ ra
   have hD4:H4 Da=some (.lst vs):=by
    have:=x4.h Da (by rw [Mw];simp) d1
    exact this.trans Mw
   cases fz with
   | true =>
    simp only [b7,if_true] at p2
    have xt:qR F1 ρ1 H4 (fun a=>F1 a\/a=Da) ρ1 H4:=⟨fun _ q=>.inl q,fun _ _ _=>rfl,List.prefix_refl _⟩
    refine p2 (fun a=>F1 a\/a=Da) ρ1 H4 (.ref Da) ⟨⟨e4.s,fun a q=>.inl (e4.f a q),e4.h,e4.r,e4.n,fun a q=>q.elim (e4.g a) fun z=>.inr (.inl (z ▸ Mu))⟩,e4.z⟩ (S4.take d1 (by rw [hD4];simp)) ?_
    simp only [RD]
    exact ⟨Da,vs,rfl,.inl ⟨.inr rfl,.inl hD4⟩,ak.bf xt _ _ ra4⟩
   | false =>
    simp only [b7,Bool.false_eq_true,if_false] at p2
    have xt:qR F1 ρ1 H4 F1 (ρ1++[Da]) H4:=⟨fun _ q=>q,fun _ _ _=>rfl,List.prefix_append _ _⟩
    refine p2 F1 (ρ1++[Da]) H4 (.ref Da) ⟨⟨e4.s,e4.f,e4.h,e4.r.trans (List.prefix_append _ _),fun a q=>(List.mem_append.mp q).elim (e4.n a) fun z=>.inr (by rw [List.mem_singleton.mp z];exact Mu),e4.g⟩,e4.z⟩ (S4.hold (u:=.lst acc) d1 f1 ⟨vs,hD4,ak.bf xt _ _ ra4⟩) ?_
    simp only [RD]
    refine ⟨Da,?_,rfl⟩
    rw [<- S4.len,List.getElem?_append_right (Nat.le_refl _),Nat.sub_self];rfl
end
end Fg
end
section
namespace Fg
open PySem L2
section
variable {B:Bd} {Φ:aS} {E:Gx} {F F' F0 F1:Addr->Prop} {ρ ρ' ρ0 ρ1:List Addr} {H H' H0 H1:Hp} {M M' M0:MH} {ZD:Sg} {Z:L2.St} {Q:VK} {Dn:Ends}
theorem JD {i:Nat} {v:V} (hg:∀ d,Φ.glob i=some d->∀ F ρ H,RD B F ρ H d v) (h:T B Φ E (.g i) Z H Q):tC v Z H Q:=by
 obtain ⟨ZD,M,F,ρ,S,r,h⟩:=h
 simp only [ev] at h
 split at h
 ·rename_i d hd
  exact aj.run h S (hg d hd F ρ H)
 ·exact h.elim
noncomputable def xJ (B:Bd) (Φ:aS) (f n:Nat):Sp:=fun vs H Q E=>vs.length=n/\∃ ds M F ρ,SR B F ρ M H/\ak B F ρ H ds vs/\Post B (Φ.call f ds M) F ρ H Q E
theorem pL {f n:Nat} {es:Es} (hn:∀ {Z:Sg} {M:MH} {ds:List D} {M':MH},cG Φ es Z M=.ok ds M'->ds.length=n) (h:T B Φ E (.call f es) Z H Q)  :qY (xJ B Φ f n) E.e (TL B Φ E es) Z H Q:=by
 obtain ⟨ZD,M,F,ρ,S,r,h⟩:=h
 simp only [ev] at h
 refine ⟨ZD,M,F,ρ,S,r,?_⟩
 cases hx:cG Φ es ZD M with
 | exc c M1=>rw [hx] at h;exact h
 | bad=>rw [hx] at h;exact h
 | ok ds M1 =>
  rw [hx] at h
  simp only [R.af] at h
  intro F1 ρ1 H1 vs e1 S1 q1
  exact ⟨by rw [<- ak.length q1];exact hn hx,ds,M1,F1,ρ1,S1,q1,aj.weak e1 h⟩
theorem vK {f n:Nat} {es:Es} {d:Int} (hn:∀ {Z:Sg} {M:MH} {ds:List D} {M':MH},cG Φ es Z M=.ok ds M'->ds.length+1=n) (h:T B Φ E (.jL f es d) Z H Q):xA (xJ B Φ f n) (.int d) E.e (TL B Φ E es) Z H Q:=by
 obtain ⟨ZD,M,F,ρ,S,r,h⟩:=h
 simp only [ev] at h
 refine ⟨ZD,M,F,ρ,S,r,?_⟩
 cases hx:cG Φ es ZD M with
 | exc c M1=>rw [hx] at h;exact h
 | bad=>rw [hx] at h;exact h
 | ok ds M1 =>
  rw [hx] at h
  simp only [R.af] at h
  intro F1 ρ1 H1 vs e1 S1 q1
  exact ⟨by rw [List.length_append,<- ak.length q1];exact hn hx,ds++[.int d],M1,F1,ρ1,S1,q1.append (ak.cons (by simp only [RD]) ak.nil),aj.weak e1 h⟩
theorem ED {x:D} {v:V} {t:Ty} (S:SR B F ρ M H) (rx:RD B F ρ H x v) (ho:yw M x=true):∃ T,Dj B H v T/\tyB T t=Hj M t x:=by
 cases x with
 | aq=>simp only [RD] at rx;subst rx;exact ⟨_,.aq,by cases t <;> rfl⟩
 | bl b=>simp only [RD] at rx;subst rx;exact ⟨_,.bl b,by cases t <;> rfl⟩
 | int i=>simp only [RD] at rx;subst rx;exact ⟨_,.int i,by cases t <;> rfl⟩
 | str x=>simp only [RD] at rx;subst rx;exact ⟨_,.str x,by cases t <;> rfl⟩
 | tup ds=>simp only [RD] at rx;obtain ⟨a,vs,rfl,z,_⟩:=rx;exact ⟨_,.tup z.sq,by cases t <;> rfl⟩
 | lst ds=>simp only [RD] at rx;obtain ⟨a,vs,rfl,z,_⟩:=rx;exact ⟨_,.lst z.sq,by cases t <;> rfl⟩
 | dct ks ds =>
  simp only [RD] at rx;obtain ⟨a,vs,rfl,z,_⟩:=rx
  refine ⟨_,.dct (kvs:=vs) ?_,by cases t <;> rfl⟩
  rcases z with ⟨_,z⟩ | z
  ·exact .inl z
  ·exact .inr z
 | ref n =>
  simp only [RD] at rx
  obtain ⟨a,h1,rfl⟩:=rx
  cases hM:M[n]? with
  | none=>simp [yw,hM] at ho
  | some o =>
   cases o with
   | lst ds=>obtain ⟨vs,h3,_⟩:=S.obj n a _ h1 hM;exact ⟨_,.lst (.inl (.inl h3)),by simp only [Hj,hM];cases t <;> rfl⟩
   | dct kvs=>obtain ⟨kws,h3,_⟩:=S.obj n a _ h1 hM;exact ⟨_,.dct (.inl (.inl h3)),by simp only [Hj,hM];cases t <;> rfl⟩
   | o7 kvs=>obtain ⟨o,kws,h3,_⟩:=S.obj n a _ h1 hM;exact ⟨_,.dct (.inl (.inr ⟨o,h3⟩)),by simp only [Hj,hM];cases t <;> rfl⟩
   | ins _ _=>simp [yw,hM] at ho
theorem Bo {a:Fg.E} {t:Ty} (h:T B Φ E (.uI a t) Z H Q):Jq (JR B) (gW (T B Φ E a) (gW (tC (.ty (pA t))) kM)) Z H Q:=by
 obtain ⟨ZD,M,F,ρ,S,r,h⟩:=h
 simp only [ev] at h
 refine T.one S r rfl h fun x M1 F1 ρ1 H1 v e1 S1 r1 rx h1=>?_
 split at h1
 ·rename_i ho
  obtain ⟨T',ty,e⟩:=ED (t:=t) S1 rx ho
  refine ⟨v,T',t,rfl,ty,?_⟩
  rw [e]
  exact aj.run h1 S1 (by simp only [RD])
 ·exact h1.elim
theorem rq {fz:Bool} {a:Fg.E} {es:Es} (h:T B Φ E (.aW .append fz a es) Z H Q):tBM B.K "list" nL (T B Φ E a) (TL B Φ E es) Z H Q:=by
 obtain ⟨ZD,M,F,ρ,S,r,h⟩:=h
 simp only [ev] at h
 refine T.one S r rfl h fun x M1 F1 ρ1 H1 v e1 S1 r1 rx h1=>?_
 split at h1
 ·rename_i ho
  refine ⟨?_,TL.one S1 r1 rfl h1 fun ds M2 F2 ρ2 H2 vs e2 S2 r2 rds h2=>sR S2 (RD.mono e2 _ _ rx) rds h2⟩
  have h0:=((Bool.and_eq_true _ _).mp ho).1
  cases hl:gY M1 x with
  | none=>rw [hl] at h0;cases h0
  | some p =>
   obtain ⟨rfl,hM⟩:=kj hl
   simp only [RD] at rx
   obtain ⟨b,hb,rfl⟩:=rx
   obtain ⟨vs,h3,_⟩:=S1.obj p.1 b _ hb hM
   exact .inl ⟨rfl,vs,.inl (.inl h3)⟩
 ·exact h1.elim
noncomputable def DM (x y v:V) (H:Hp) (Q:Hp->Prop):Prop:=DL x y v H Q\/∃ a H4,x=.ref a/\sX H a y v H4/\Q H4
noncomputable def DI (to ti tv:TE):TS:=fun D Z H=>tv Z H fun v H1=>to Z H1 fun x H2=>ti Z H2 fun y H3=>DM x y v H3 fun H4=>D.nx Z H4
theorem Bv {x y d:D} {v w u:V} (S:SR B F ρ M H) (rx:RD B F ρ H x v) (ry:RD B F ρ H y w) (rd:RD B F ρ H d u) {K:Hp->Prop} (h:∀ M',mj M x y d=.ok () M'->∀ H',Ext F ρ H F ρ H'->SR B F ρ M' H'->K H') (hb:∃ M',mj M x y d=.ok () M'):DM v w u H K:=by
 obtain ⟨M',hb⟩:=hb
 have hK:=h M' hb
 unfold mj at hb
 split at hb
 ·rename_i n
  simp only [RD] at rx
  obtain ⟨a,h1,rfl⟩:=rx
  split at hb
  ·rename_i xs i hM
   split at hb
   ·rename_i j hj
    cases hb
    simp only [RD] at ry;subst ry
    obtain ⟨vs,h2,h3⟩:=S.obj n a _ h1 hM
    refine .inl ⟨a,vs,i,j,rfl,rfl,h2,by rw [<- ak.length h3,<- zo];exact hj,?_⟩
    obtain ⟨S',e⟩:=S.st (o:=.lst (vs.set j u)) (u:=.lst (xs.set j d)) h1 (fun _ _ q=>by rw [h2] at q;cases q) ⟨_,aA,ak.bD (Ext0.at_ S h1) _ _ (h3.set j rd)⟩
    exact hK _ e S'
   ·cases hb
  ·rename_i kvs hM
   split at hb
   ·rename_i k hk
    split at hb
    ·rename_i hl
     cases hb
     obtain ⟨kws,h2,h3,h4⟩:=S.obj n a _ h1 hM
     have hlen:kws.length=kvs.length:=by have:=congrArg List.length h3;simpa using this
     rw [rV hk ry]
     refine .inr ⟨a,_,rfl,sX.k h2 (by rw [hlen];exact Nat.lt_of_lt_of_le (of_decide_eq_true hl) bB),?_⟩
     obtain ⟨p1,p2⟩:=Fj (k:=k) rd h3 h4
     obtain ⟨S',e⟩:=S.st (o:=.dK (putK kws k u)) (u:=.dct (put kvs k d)) h1 (fun _ _ q=>by rw [h2] at q;cases q) ⟨_,aA,p1,ak.bD (Ext0.at_ S h1) _ _ p2⟩
     exact hK _ e S'
    ·cases hb
   ·cases hb
  ·cases hb
 ·cases hb
theorem Bx {x y d:D}:(∃ M',mj M x y d=.ok () M')\/mj M x y d=.bad:=by
 unfold mj
 split
 ·split
  ·split
   ·exact .inl ⟨_,rfl⟩
   ·exact .inr rfl
  ·split
   ·split
    ·exact .inl ⟨_,rfl⟩
    ·exact .inr rfl
   ·exact .inr rfl
  ·exact .inr rfl
 ·exact .inr rfl
theorem xO {a b e:Fg.E} (h:TC B Φ E (.mh a b e) Dn Z H):DI (T B Φ E a) (T B Φ E b) (T B Φ E e) Dn Z H:=by
 obtain ⟨ZD,M,F,ρ,S,r,h⟩:=h
 simp only [ex] at h
 refine TC.one S r h fun x M1 F1 ρ1 H1 v e1 S1 r1 rx h1=>?_
 refine TC.one S1 r1 h1 fun y M2 F2 ρ2 H2 w e2 S2 r2 ry h2=>?_
 refine TC.one S2 r2 h2 fun z M3 F3 ρ3 H3 u e3 S3 r3 rz h3=>?_
 have rx3:=RD.mono e3 _ _ (RD.mono e2 _ _ rx)
 have ry3:=RD.mono e3 _ _ ry
 rcases Bx (M:=M3) (x:=y) (y:=z) (d:=x) with ⟨M',hb⟩ | hb
 ·refine Bv S3 ry3 rz rx3 (fun M4 hq H4 e4 S4=>?_) ⟨M',hb⟩
  rw [hq] at h3
  exact h3 F3 ρ3 H4 e4 S4 Z (r3.mono e4)
 ·rw [hb] at h3;exact h3.elim
end
end Fg
end
section
namespace Fg
open PySem PySem.Spec L2
noncomputable def sd:F1->V->Option V
 | .abs,.int i=>some (.int (if i<0 then -i else i))
 | .int,.bl b=>some (.int (if b then 1 else 0))
 | .int,.int i=>some (.int i)
 | _,_=>none
noncomputable def rF1 (f:F1):List V->Hp->VK->Prop:=fun xs H Q=>∃ x y,xs=[x]/\sd f x=some y/\Q y H
section
variable {X:Cx}
theorem wL:cK X (.builtin "abs") (rF1 .abs):=by
 intro pins s Z H xs us Q I r h
 obtain ⟨x,y,rfl,hf,q⟩:=h
 obtain ⟨u,rfl,ru⟩:=vals1 r
 cases x with
 | int i =>
  simp only [sd] at hf
  cases hf
  obtain ⟨t,rfl⟩:=(show ∃ t,u=Value.int i t from ru)
  exact PyProof.Rows.call_abs_int fun u tk=>⟨.int _,H,I.tok _,⟨_,rfl⟩,q⟩
 | _=>simp [sd] at hf
theorem wK:cK X (.type "int") (rF1 .int):=by
 intro pins s Z H xs us Q I r h
 obtain ⟨x,y,rfl,hf,q⟩:=h
 obtain ⟨u,rfl,ru⟩:=vals1 r
 cases x with
 | int i =>
  simp only [sd] at hf
  cases hf
  obtain ⟨t,rfl⟩:=(show ∃ t,u=Value.int i t from ru)
  exact call_int_int ⟨.int _,H,I,⟨_,rfl⟩,q⟩
 | bl b =>
  simp only [sd] at hf
  cases hf
  cases ru
  exact call_int_bool ⟨.int _,H,I.tok _,⟨_,rfl⟩,q⟩
 | _=>simp [sd] at hf
end
section
variable {B:Bd} {Φ:aS} {E:Gx} {F F' F0 F1:Addr->Prop} {ρ ρ' ρ0 ρ1:List Addr} {H H' H0 H1:Hp} {M M' M0:MH} {ZD:Sg} {Z:L2.St} {Q:VK}
theorem Hx {f:Fg.F1} {x d:D} {v:V} (h:se f x=some d) (r:RD B F ρ H x v):∃ w,sd f v=some w/\RD B F ρ H d w:=by
 cases x with
 | int i=>simp only [RD] at r;subst r;cases f <;> simp only [se] at h <;> cases h <;> exact ⟨_,rfl,by simp only [RD]⟩
 | bl b=>simp only [RD] at r;subst r;cases f <;> simp only [se] at h <;> cases h <;> exact ⟨_,rfl,by simp only [RD]⟩
 | _=>cases f <;> simp [se] at h
theorem tQ {f:Fg.F1} {a:Fg.E} (h:T B Φ E (.ng f a) Z H Q):Jq (rF1 f) (gW (T B Φ E a) kM) Z H Q:=by
 obtain ⟨ZD,M,F,ρ,S,r,h⟩:=h
 simp only [ev] at h
 refine T.one S r rfl h fun x M1 F1 ρ1 H1 v e1 S1 r1 rx h1=>?_
 split at h1
 ·rename_i d hd
  obtain ⟨w,hw,rw'⟩:=Hx hd rx
  exact ⟨v,w,rfl,hw,aj.run h1 S1 rw'⟩
 ·exact h1.elim
end
end Fg
end
section
namespace Fg
open PySem L2
section
variable {X:Cx}
theorem CK (l:Addr) (items:Array Value) (n:Nat) (b:Addr) (items2:Array Value) (n2:Nat) (dd2:Option Addr) (sl2:Array (Option Value)) (hs0:¬(!items.isEmpty&&Builtin.List.listTooLong (items.size+items2.size))=true) (hs1:items.size<=sizeLine) (hs2:items.size+items2.size<=sizeLine+1) :
  Meets (Builtin.«list.extend» ⟨[.ref l, .ref b], []⟩) (fun _ R s=>s.heap.get? l=some { cls:=.type "list", dict:=none, data:=.seq items n, slots:=#[] }/\s.heap.get? b=some { cls:=.type "tuple", dict:=dd2, data:=.seq items2 n2, slots:=sl2 }/\R (.ok (.ret Value.none)) { s with heap:=s.heap.update l (Obj.mapSeq fun x=>x++items2), toks:=s.toks }) :=
 .of_wp fun prog w A R s h=>by
  obtain ⟨hp,g,d,tk,os⟩:=s;obtain ⟨hl,hb,h⟩:=h;have f1:=AutoSeq1.idx_int;have f2:=AutoSeq1.sub_tuple_tuple;have f3:=AutoSeq1.sub_list_list;have f4:=AutoSeq1.sub_tuple_list;have f5:=AutoSeq1.sub_list_tuple
  have hz':(items++items2).size<=sizeLine+1:=by rw [Array.size_append];exact hs2
  wp_walk using (wpAny_updateSeq hl rfl (hz:=hs1) (_hz':=hz')),AutoSeq1.wpAny_loadPart' hl,AutoSeq1.wpAny_loadPart' hb;exact ⟨_,rfl,h⟩
noncomputable def DO (K:W.Frag):V->List V->Hp->VK->Prop:=fun x vs H Q=>∃ l b xs zs,x=.ref l/\vs=[.ref b]/\H l=some (.lst xs)/\i7 K H b zs/\xs.length+zs.length<=sizeLine/\Q .aq (upd H l (.lst (xs++zs)))
theorem Cf:MV X "list.extend" (DO X.K):=by
 intro pins s Z H x vs v us Q I rx rv h
 obtain ⟨l,b,xs,zs,rfl,rfl,hH,hB,hz,q⟩:=h
 cases rx
 obtain ⟨u,rfl,ru⟩:=rv.one
 cases ru
 obtain ⟨z,its,n,r,hl,e⟩:=I.Cj hH
 obtain ⟨its2,r2,p2,z2⟩:=I.tuple hB
 obtain ⟨⟨Lu,dd2,data2,sl2⟩,e2,hc2,n2,hd2⟩:=p2
 simp only at hc2 hd2
 subst hc2 hd2
 have l2:=r2.length
 have hsz:its.toArray.size+its2.toArray.size<=sizeLine:=by rw [List.size_toArray,List.size_toArray];omega
 have KQ:¬ (!its.toArray.isEmpty&&Builtin.List.listTooLong (its.toArray.size+its2.toArray.size))=true:=by
  rw [yy hsz,Bool.and_false]
  exact Bool.false_ne_true
 refine call_meets PySem.F.slot_list_extend ⟨_,e,rfl⟩ PySem.F.entry_list_extend (PySem.F.args_list_extend_2 _ _)
  (CK l its.toArray n b its2.toArray n2 dd2 sl2 KQ (by rw [List.size_toArray];omega) (by omega)) ⟨e,e2,?_⟩
 refine ⟨.aq,_,I.Ck (its':=its++its2) hH e (by simp) (r.append r2) ?_,rfl,q⟩
 rw [List.length_append]
 omega
end
section
variable {B:Bd} {Φ:aS} {E:Gx} {F F' F0 F1:Addr->Prop} {ρ ρ' ρ0 ρ1:List Addr} {H H' H0 H1:Hp} {M M' M0:MH} {ZD:Sg} {Z:L2.St} {Q:VK}
theorem ak.rev:∀ {ds:List D} {vs:List V},ak B F ρ H ds vs->ak B F ρ H ds.reverse vs.reverse
 | [],vs,h=>by
  have:=ak.length h
  cases vs with
  | nil=>exact ak.nil
  | cons _ _=>simp at this
 | d::ds,vs,h=>by
  cases vs with
  | nil=>have:=ak.length h;simp at this
  | cons v vs =>
   obtain ⟨w,ws,h1,h2,h3⟩:∃ w ws,v::vs=w::ws/\RD B F ρ H d w/\ak B F ρ H ds ws:=by simpa only [ak] using h
   cases h1
   rw [List.reverse_cons,List.reverse_cons]
   exact ak.append (ak.rev h3) (ak.cons h2 ak.nil)
theorem ak.dropLast {ds:List D} {vs:List V} (h:ak B F ρ H ds vs):ak B F ρ H ds.dropLast vs.dropLast:=by
 rw [List.dropLast_eq_take,List.dropLast_eq_take,<- ak.length h];exact ak.take _ h
theorem x6 {x:D} {v:V} {m:Mt} (S:SR B F ρ M H) (rx:RD B F ρ H x v) (ho:nU m M x=true):∃ n xs, x=.ref n/\M[n]? = some (.lst xs)/\LZ B.K "list" v H:=by
 have h0:=((Bool.and_eq_true _ _).mp ho).1
 cases hl:gY M x with
 | none=>rw [hl] at h0;cases h0
 | some p =>
  obtain ⟨rfl,hM⟩:=kj hl
  simp only [RD] at rx
  obtain ⟨b,hb,rfl⟩:=rx
  obtain ⟨vs,h3,_⟩:=S.obj p.1 b _ hb hM
  exact ⟨p.1,p.2,rfl,hM,.inl ⟨rfl,vs,.inl (.inl h3)⟩⟩
theorem BQ {fz:Bool} {n:Nat} {xs:List D} {v:V} {X:XK} (S:SR B F ρ M H) (hx:M[n]? = some (.lst xs)) (rx:RD B F ρ H (.ref n) v) (h:Post B (gM .pop fz M (.ref n) []) F ρ H Q X):Fe v [] H Q:=by
 simp only [gM,cu hx,nT,List.isEmpty_nil,if_true] at h
 split at h
 ·rename_i d hd
  simp only [RD] at rx
  obtain ⟨a,h1,rfl⟩:=rx
  obtain ⟨ws,h2,h3⟩:=S.obj n a _ h1 hx
  obtain ⟨w,hw,rw'⟩:=ak.get h3 hd
  refine ⟨a,ws,w,rfl,rfl,h2,by rw [<- ak.length h3];exact hw,?_⟩
  obtain ⟨S',e⟩:=S.st (o:=.lst ws.dropLast) (u:=.lst xs.dropLast) h1 (fun _ _ q=>by rw [h2] at q;cases q) ⟨_,aA,ak.bD (Ext0.at_ S h1) _ _ h3.dropLast⟩
  exact h _ _ _ _ e S' (RD.mono e _ _ rw')
 ·exact h.elim
theorem pT {fz:Bool} {n:Nat} {xs:List D} {v:V} {X:XK} (S:SR B F ρ M H) (hx:M[n]? = some (.lst xs)) (rx:RD B F ρ H (.ref n) v) (h:Post B (gM .reverse fz M (.ref n) []) F ρ H Q X):kR v [] H Q:=by
 simp only [gM,cu hx,nT,List.isEmpty_nil,if_true] at h
 simp only [RD] at rx
 obtain ⟨a,h1,rfl⟩:=rx
 obtain ⟨ws,h2,h3⟩:=S.obj n a _ h1 hx
 refine ⟨a,ws,rfl,rfl,h2,?_⟩
 obtain ⟨S',e⟩:=S.st (o:=.lst ws.reverse) (u:=.lst xs.reverse) h1 (fun _ _ q=>by rw [h2] at q;cases q) ⟨_,aA,ak.bD (Ext0.at_ S h1) _ _ h3.rev⟩
 exact h _ _ _ _ e S' (by simp only [RD])
theorem rj {fz:Bool} {a:Fg.E} {es:Es} (h:T B Φ E (.aW .extend fz a es) Z H Q):tBM B.K "list" (DO B.K) (T B Φ E a) (TL B Φ E es) Z H Q:=by
 obtain ⟨ZD,M,F,ρ,S,r,h⟩:=h
 simp only [ev] at h
 refine T.one S r rfl h fun x M1 F1 ρ1 H1 v e1 S1 r1 rx h1=>?_
 split at h1
 ·rename_i ho
  obtain ⟨n,xs,rfl,hM,ty⟩:=x6 S1 rx ho
  refine ⟨ty,TL.one S1 r1 rfl h1 fun ds M2 F2 ρ2 H2 vs e2 S2 r2 rds h2=>?_⟩
  have L5:=RD.mono e2 _ _ rx
  unfold gM at h2
  cases hl:gY M2 (.ref n) with
  | none=>rw [hl] at h2;exact h2.elim
  | some q =>
   rw [hl] at h2
   obtain ⟨e0,hy⟩:=kj hl
   cases e0
   cases ds with
   | nil=>exact h2.elim
   | cons d ds=>cases ds with
    | cons _ _=>exact h2.elim
    | nil =>
     simp only [nT,vY] at h2
     split at h2
     ·rename_i zs hz
      split at h2
      ·rename_i hlen
       simp only [RD] at L5
       obtain ⟨a',h3,rfl⟩:=L5
       obtain ⟨ws,h4,h5⟩:=S2.obj _ a' _ h3 hy
       obtain ⟨w,us,rfl,rw',ru⟩:∃ w us,vs=w::us/\RD B F2 ρ2 H2 d w/\ak B F2 ρ2 H2 [] us:=by simpa only [ak] using rds
       have eu:us=[]:=List.eq_nil_of_length_eq_zero (ak.length ru).symm
       subst eu
       cases AL hz
       simp only [RD] at rw'
       obtain ⟨b,zs',rfl,z1,r3⟩:=rw'
       refine ⟨a',b,ws,zs',rfl,rfl,h4,z1.sq,?_,?_⟩
       ·rw [<- ak.length h5,<- ak.length r3];exact Nat.le_trans (of_decide_eq_true hlen) bB
       ·obtain ⟨S',e⟩:=S2.st (o:=.lst (ws++zs')) (u:=.lst (q.2++zs)) h3 (fun _ _ q=>by rw [h4] at q;cases q) ⟨_,aA,ak.bD (Ext0.at_ S2 h3) _ _ (h5.append r3)⟩
        exact h2 _ _ _ _ e S' (by simp only [RD])
      ·exact h2.elim
     ·exact h2.elim
 ·exact h1.elim
theorem pJ {m:Mt} {fz:Bool} {a:Fg.E} {r:V->List V->Hp->VK->Prop}
  (hs:∀ (F:Addr->Prop) (ρ:List Addr) (H:Hp) (M:MH) (n:Nat) (xs:List D) (v:V) (Q:VK) (X:XK),SR B F ρ M H->M[n]? = some (.lst xs)->RD B F ρ H (.ref n) v->Post B (gM m fz M (.ref n) []) F ρ H Q X->r v [] H Q)
  (h:T B Φ E (.aW m fz a .nil) Z H Q):AM B.K "list" r (T B Φ E a) Z H Q:=by
 obtain ⟨ZD,M,F,ρ,S,r,h⟩:=h
 simp only [ev] at h
 refine T.one S r rfl h fun x M1 F1 ρ1 H1 v e1 S1 r1 rx h1=>?_
 split at h1
 ·rename_i ho
  obtain ⟨n,xs,rfl,hM,ty⟩:=x6 S1 rx ho
  simp only [cG,R.af] at h1
  exact ⟨ty,hs _ _ _ _ n xs v _ _ S1 hM rx h1⟩
 ·exact h1.elim
theorem Bf {fz:Bool} {a:Fg.E} (h:T B Φ E (.aW .pop fz a .nil) Z H Q):AM B.K "list" Fe (T B Φ E a) Z H Q:=pJ (fun _ _ _ _ _ _ _ _ _ S hx rx h=>BQ S hx rx h) h
theorem pH {fz:Bool} {a:Fg.E} (h:T B Φ E (.aW .reverse fz a .nil) Z H Q):AM B.K "list" kR (T B Φ E a) Z H Q:=pJ (fun _ _ _ _ _ _ _ _ _ S hx rx h=>pT S hx rx h) h
end
end Fg
end
section
namespace Fg
open PySem PySem.Spec L2
section
variable {B:Bd} {Φ:aS} {E:Gx} {F F' F0 F1:Addr->Prop} {ρ ρ' ρ0 ρ1:List Addr} {H H' H0 H1:Hp} {M M' M0:MH} {ZD:Sg} {Z:L2.St} {Q:VK} {Dn:Ends}
theorem ou {f:Str}:∀ {fs:List (Str×D)} {fN:List (Str×V)},fN.map (·.1)=fs.map (·.1)->ak B F ρ H (fs.map (·.2)) (fN.map (·.2)) ->
  (∀ d,fs.lookup f=some d->∃ v,fN.lookup f=some v/\RD B F ρ H d v)/\(fs.lookup f=none->fN.lookup f=none)
 | [],fN,h1,h2=>by
  have:fN=[]:=by cases fN with | nil=>rfl | cons _ _=>simp at h1
  subst this
  exact ⟨fun d h=>by simp at h,fun _=>rfl⟩
 | (g, d')::fs, fN, h1, h2=>by
  cases fN with
  | nil=>simp at h1
  | cons p fN =>
   obtain ⟨pk,pv⟩:=p
   simp only [List.map_cons,List.cons.injEq] at h1
   simp only [List.map_cons,ak] at h2
   obtain ⟨v,ws,e,r1,r2⟩:=h2
   cases e
   obtain ⟨e1,e2⟩:=h1
   subst e1
   have ih:=ou (f:=f) e2 r2
   by_cases hk:f=pk
   ·subst hk
    simp only [List.lookup,beq_self_eq_true]
    exact ⟨fun d h=>by cases h;exact ⟨_,rfl,r1⟩,fun h=>by cases h⟩
   ·have hb:(f == pk)=false:=beq_eq_false_iff_ne.mpr hk
    simp only [List.lookup,hb]
    exact ih
theorem ue {f:Str} {d:D} {v:V} (r:RD B F ρ H d v):∀ {fs:List (Str×D)} {fN:List (Str×V)},fN.map (·.1)=fs.map (·.1)->ak B F ρ H (fs.map (·.2)) (fN.map (·.2)) ->
  (dJ f v fN).map (·.1)=(bI f d fs).map (·.1)/\ak B F ρ H ((bI f d fs).map (·.2)) ((dJ f v fN).map (·.2))
 | [],fN,h1,h2=>by
  have:fN=[]:=by cases fN with | nil=>rfl | cons _ _=>simp at h1
  subst this
  exact ⟨rfl,ak.cons r ak.nil⟩
 | (g, d')::fs, fN, h1, h2=>by
  cases fN with
  | nil=>simp at h1
  | cons p fN =>
   obtain ⟨pk,pv⟩:=p
   simp only [List.map_cons,List.cons.injEq] at h1
   simp only [List.map_cons,ak] at h2
   obtain ⟨w,ws,e,r1,r2⟩:=h2
   cases e
   obtain ⟨e1,e2⟩:=h1
   subst e1
   obtain ⟨i1,i2⟩:=ue (f:=f) r e2 r2
   by_cases hk:pk=f
   ·simp only [dJ,bI,if_pos hk,List.map_cons]
    exact ⟨by rw [e2],ak.cons r r2⟩
   ·simp only [dJ,bI,if_neg hk,List.map_cons]
    exact ⟨by rw [i1],ak.cons r1 i2⟩
theorem Bt {K:W.Frag} {a:Fg.E} {f:Str} (hC:∀ c C,B.cls c=some C->wU K C/\dS K C f) (h:T B Φ E (.fld a f) Z H Q):Jp K (T B Φ E a) f Z H Q:=by
 obtain ⟨ZD,M,F,ρ,S,r,h⟩:=h
 simp only [ev] at h
 refine T.one S r rfl h fun x M1 F1 ρ1 H1 v e1 S1 r1 rx h1=>?_
 split at h1
 ·rename_i n
  split at h1
  ·rename_i c fs hM
   split at h1
   ·rename_i d hd
    simp only [RD] at rx
    obtain ⟨b,hb,rfl⟩:=rx
    obtain ⟨C,dx,fN,hc,hH,hk,hr⟩:=S1.obj n b _ hb hM
    obtain ⟨w,hw,rw⟩:=(ou hk hr).1 d hd
    exact ⟨b,C,dx,fN,w,rfl,hH,(hC c C hc).1,(hC c C hc).2,hw,aj.run h1 S1 rw⟩
   ·exact h1.elim
  ·exact h1.elim
 ·exact h1.elim
theorem xP {K:W.Frag} {a e:Fg.E} {f:Str} (hC:∀ c C,B.cls c=some C->wU K C/\dS K C f) (h:TC B Φ E (.bP a f e) Dn Z H):JG K (T B Φ E a) (T B Φ E e) f Dn Z H:=by
 obtain ⟨ZD,M,F,ρ,S,r,h⟩:=h
 simp only [ex] at h
 refine TC.one S r h fun x M1 F1 ρ1 H1 v e1 S1 r1 rx h1=>?_
 refine TC.one S1 r1 h1 fun y M2 F2 ρ2 H2 w e2 S2 r2 ry h2=>?_
 have L5:=RD.mono e2 _ _ rx
 split at h2
 ·rename_i n
  split at h2
  ·rename_i c fs hM
   split at h2
   ·rename_i hl
    simp only [RD] at ry
    obtain ⟨b,hb,rfl⟩:=ry
    obtain ⟨C,dx,fN,hc,hH,hk,hr⟩:=S2.obj n b _ hb hM
    have hlen:fN.length=fs.length:=by have:=congrArg List.length hk;simpa using this
    obtain ⟨p1,p2⟩:=ue (f:=f) L5 hk hr
    obtain ⟨S',e⟩:=S2.st (o:=.ins C dx (dJ f v fN)) (u:=.ins c (bI f x fs)) hb (fun _ _ q=>by rw [hH] at q;cases q) ⟨C,dx,_,hc,aA,p1,ak.bD (Ext0.at_ S2 hb) _ _ p2⟩
    exact ⟨b,C,dx,fN,rfl,hH,(hC c C hc).1,(hC c C hc).2,by rw [hlen];exact of_decide_eq_true hl,h2 F2 ρ2 _ e S' Z (r2.mono e)⟩
   ·exact h2.elim
  ·exact h2.elim
 ·exact h2.elim
noncomputable def qW (C:Addr) (m:Str) (sp:Sp) (Ex:XS) (ta:TE) (t:TA):TE:=fun Z H Q=>ta Z H fun x H1=>∃ a dx fs,x=.ref a/\H1 a=some (.ins C dx fs)/\fs.lookup m=none /\
 t Z H1 fun vs H2=>sp (x::vs) H2 Q fun cv y H'=>Ex cv y Z H'
noncomputable def qX (C:Addr) (sp:Sp) (Ex:XS) (t:TA):TE:=fun Z H Q=>t Z H fun vs H1=>∀ x dx,H1 x=none->H1 dx=none->dx≠x ->
 sp (.ref x::vs) (upd (upd H1 dx (.own x)) x (.ins C dx [])) (fun v H2=>v=.aq/\Q (.ref x) H2) fun cv y H'=>Ex cv y Z H'
theorem tL {c m n:Nat} {nm:Str} {a:Fg.E} {es:Es} {C:Addr} (hC:B.cls c=some C) (hn:∀ {Z:Sg} {M:MH} {ds:List D} {M':MH},cG Φ es Z M=.ok ds M'->ds.length+1=n) (h:T B Φ E (.dm c m nm a es) Z H Q) :
  qW C nm (xJ B Φ m n) E.e (T B Φ E a) (TL B Φ E es) Z H Q:=by
 obtain ⟨ZD,M,F,ρ,S,r,h⟩:=h
 simp only [ev] at h
 refine T.one S r rfl h fun x M1 F1 ρ1 H1 v e1 S1 r1 rx h1=>?_
 split at h1
 ·rename_i i
  split at h1
  ·rename_i c' fs hM
   split at h1
   ·rename_i hq
    simp only [Bool.and_eq_true,decide_eq_true_eq,Option.isNone_iff_eq_none] at hq
    obtain ⟨rfl,hno⟩:=hq
    have rx0:=rx
    simp only [RD] at rx
    obtain ⟨b,hb,rfl⟩:=rx
    obtain ⟨C',dx,fN,hc,hH,hk,hr⟩:=S1.obj i b _ hb hM
    rw [hC] at hc;cases hc
    refine ⟨b,dx,fN,rfl,hH,(ou hk hr).2 hno,ZD,M1,F1,ρ1,S1,r1,?_⟩
    cases hx:cG Φ es ZD M1 with
    | exc c M2=>rw [hx] at h1;exact h1
    | bad=>rw [hx] at h1;exact h1
    | ok ds M2 =>
     rw [hx] at h1
     simp only [R.af] at h1
     intro F2 ρ2 H2 vs e2 S2 q2
     exact ⟨by rw [List.length_cons,<- ak.length q2];exact hn hx,.ref i::ds,M2,F2,ρ2,S2,ak.cons (RD.mono e2 _ _ rx0) q2,aj.weak e2 h1⟩
   ·exact h1.elim
  ·exact h1.elim
 ·exact h1.elim
noncomputable def spI (B:Bd) (Φ:aS) (f n:Nat):Sp:=fun vs H Q E=>vs.length=n/\∃ ds M F ρ,SR B F ρ M H/\ak B F ρ H ds vs/\Post B (Φ.ini f ds M) F ρ H Q E
theorem SR.own (S:SR B F ρ M H) {p:Addr} (h:H p=none) (o:HO):SR B F ρ M (upd H p o)/\Ext F ρ H F ρ (upd H p o):=by
 obtain ⟨np,nf⟩:=S.new h
 exact ⟨S.side np nf o,⟨⟨S.sep,fun a q=>q,fun a q _=>ao (by rintro rfl;exact q h),List.prefix_refl _,fun a q=>.inl q,fun a q=>.inl q⟩,fun b w u q=>by rw [ao (by rintro rfl;rw [h] at q;cases q)];exact q⟩⟩
theorem tO {c i n:Nat} {es:Es} {C:Addr} (hC:B.cls c=some C) (hn:∀ {Z:Sg} {M:MH} {ds:List D} {M':MH},cG Φ es Z M=.ok ds M'->ds.length+1=n) (h:T B Φ E (.new c i es) Z H Q) :
  qX C (spI B Φ i n) E.e (TL B Φ E es) Z H Q:=by
 obtain ⟨ZD,M,F,ρ,S,r,h⟩:=h
 simp only [ev] at h
 refine ⟨ZD,M,F,ρ,S,r,?_⟩
 cases hx:cG Φ es ZD M with
 | exc c M1=>rw [hx] at h;exact h
 | bad=>rw [hx] at h;exact h
 | ok ds M1 =>
  rw [hx] at h
  simp only [R.af] at h
  intro F1 ρ1 H1 vs e1 S1 q1 x dx hx0 hdx hne
  obtain ⟨S2,e2⟩:=S1.own hdx (.own x)
  have hx2:upd H1 dx (.own x) x=none:=by rw [ao (Ne.symm hne)];exact hx0
  obtain ⟨S3,e3⟩:=S2.lv (o:=.ins C dx []) (u:=.ins c []) hx2 ⟨C,dx,[],hC,aA,rfl,ak.nil⟩
  have at_:(ρ1++[x])[M1.length]? = some x:=by rw [<- S1.len,List.getElem?_append_right (Nat.le_refl _),Nat.sub_self];rfl
  have e23:=e2.trans e3
  refine ⟨by rw [List.length_cons,<- ak.length q1];exact hn hx,.ref M1.length::ds,M1++[.ins c []],F1,ρ1++[x],S3,ak.cons (by simp only [RD];exact ⟨x,at_,rfl⟩) (ak.mono e23 _ _ q1),?_⟩
  refine aj.imp (aj.bind (rel:=RD B) (aj.weak (e1.trans e23) h)) fun v H' ⟨d,M',F',ρ',ext,S',rd,h2⟩=>?_
  split at h2
  ·simp only [RD] at rd
   exact ⟨rd,aj.run h2 S' (by simp only [RD];exact ⟨x,ext.at at_,rfl⟩)⟩
  ·exact h2.elim
theorem pI {c i:Nat} {es:Es} (hb:∀ ds M,Φ.ini i ds M=.bad) (h:T B Φ E (.new c i es) Z H Q):TL B Φ E es Z H fun _ _=>False:=by
 obtain ⟨ZD,M,F,ρ,S,r,h⟩:=h
 simp only [ev] at h
 refine ⟨ZD,M,F,ρ,S,r,?_⟩
 cases hx:cG Φ es ZD M with
 | exc c M1=>rw [hx] at h;exact h
 | bad=>rw [hx] at h;exact h
 | ok ds M1 =>
  rw [hx] at h
  simp only [R.af,hb,R.iZ] at h
  exact h.elim
noncomputable def D3 (i j:Int):List V:=(List.range (j-i).toNat).map fun (n:Nat)=>V.int (i+(n:Int))
noncomputable def Jk (t:TA):TE:=fun Z H Q=>t Z H fun vs H1=>∃ i j:Int,vs=[.int i,.int j]/\(-(2 ^ 62)<=i/\i<2 ^ 62/\-(2 ^ 62)<=j/\j<2 ^ 62)/\(j-i).toNat<=sizeLine/\∀ p,H1 p=none->Q (.ref p) (upd H1 p (.lst (D3 i j)))
theorem ud {i j:Int}:ak B F ρ H (cW i j) (D3 i j):=by
 unfold cW D3
 generalize List.range (j-i).toNat=l
 induction l with
 | nil=>exact ak.nil
 | cons n l ih=>exact ak.cons (by simp only [RD]) ih
theorem Bj {fz:Bool} {a b:Fg.E} (h:T B Φ E (.Cm fz a b) Z H Q):Jk (gW (T B Φ E a) (gW (T B Φ E b) kM)) Z H Q:=by
 obtain ⟨ZD,M,F,ρ,S,r,h⟩:=h
 simp only [ev] at h
 refine T.two S r rfl h fun x y M2 F2 ρ2 H2 v w S2 _ rx ry h2=>?_
 split at h2
 ·rename_i i j
  split at h2
  ·rename_i hq
   simp only [mz,Bool.and_eq_true,decide_eq_true_eq] at hq
   simp only [RD] at rx ry
   subst rx ry
   exact ⟨i,j,rfl,⟨by omega,by omega,by omega,by omega⟩,Nat.le_trans hq.2.2 bB,bX S2 h2 ud⟩
  ·exact h2.elim
 ·exact h2.elim
end
section
variable {X:Cx} {Ex:XS} {k:Nat} {f C:Addr} {fd:FuncData} {ps:List Str} {sp:Sp} {x m:Str} {p pos apos:Pos} {e o:Expr} {es:List Expr} {ta:TE} {t:TA}
theorem yj {pl:Sem Bool} (he:PE X o ta) (c:wU X.K C) (hm:Meth X.K C m f) (F:cB X.prog X.w X.K X.mg X.base (iF X.prog X.w) k f fd ps sp) (hr:cI k X.A) (hb:Binds X.K fd ps []) (hx:∀ e s,j5 X Ex e s->X.xe e s) (ha:PA X (e::es) t)
  (hst:starEach (e::es) X.env=(false,eval e X.env)::starEach es X.env) (hpl:(backTo pos (starEach es X.env)).any (·.1)=false)
  (ht:eval (.Call (.Attribute o m apos) (e::es) [] pos) X.env=(do
   let ov <- eval o X.env
   standAt apos.atName
   let (f,first) <- holding [ov] (getMethod ov m pl)
   callWith pos f first (backTo pos (starEach (e::es) X.env)) (backToKw pos (keywordEach [] X.env)))) :
  PE X (.Call (.Attribute o m apos) (e::es) [] pos) (qW C m sp Ex ta t):=by
 intro pins s Z H Q I h
 refine PySem.W.methodCall_KW (pl:=pl) (aX (he pins s Z H _ I h) fun u s1 ⟨x,H1,I1,rx,a,dx,fs,ex,ea,l,q⟩=>?_) ht
 subst ex
 obtain rfl:u=Value.ref a:=rx
 refine lF I1 ea c hm l ?_
 refine PySem.W.callWith_K (first:=[.ref a]) (h₀:=X.base) I.ok.mod.Ct hm.kp (aX (ha pos pins s1 Z H1 _ I1 q) fun us s2 ⟨vs,H2,I2,r,q2⟩=>⟨I2.iQ,?_⟩) hst hpl
 exact BA (us:=.ref a::us) (vs:=.ref a::vs) F hr hb hx I2 (.cons rfl r) q2
theorem vS {pl:Sem Bool} (he:PE X o ta) (c:wU X.K C) (hm:Meth X.K C m f) (F:cB X.prog X.w X.K X.mg X.base (iF X.prog X.w) k f fd ps sp) (hr:cI k X.A) (hb:Binds X.K fd ps []) (hx:∀ e s,j5 X Ex e s->X.xe e s)
  (ht:eval (.Call (.Attribute o m apos) [] [] pos) X.env=(do
   let ov <- eval o X.env
   standAt apos.atName
   let (f,first) <- holding [ov] (getMethod ov m pl)
   callWith pos f first (backTo pos (starEach [] X.env)) (backToKw pos (keywordEach [] X.env)))) :
  PE X (.Call (.Attribute o m apos) [] [] pos) (qW C m sp Ex ta kM):=by
 intro pins s Z H Q I h
 refine PySem.W.methodCall_KW (pl:=pl) (aX (he pins s Z H _ I h) fun u s1 ⟨x,H1,I1,rx,a,dx,fs,ex,ea,l,q⟩=>?_) ht
 subst ex
 obtain rfl:u=Value.ref a:=rx
 refine lF I1 ea c hm l ?_
 exact PySem.W.callWith_K0 (first:=[.ref a]) I1.iQ hm.kp (BA (us:=[.ref a]) (vs:=[.ref a]) F hr hb hx I1 (.cons rfl .nil) q)
theorem mU {pins:List (Addr×Obj)} {Z:L2.St} {H:Hp} {s:Shared} {Q:VK} {us:List Value} {vs:List V} (M:Mk X.K C f) (F:cB X.prog X.w X.K X.mg X.base (iF X.prog X.w) k f fd ps sp) (hr:cI (k+1) X.A) (hb:Binds X.K fd ps [])
  (hx:∀ e s,j5 X Ex e s->X.xe e s) (I:Inv X pins Z H s) (r:Vals vs us)
  (h:∀ x dx,H x=none->H dx=none->dx≠x->sp (.ref x::vs) (upd (upd H dx (.own x)) x (.ins C dx [])) (fun v H2=>v=.aq/\Q (.ref x) H2) fun cv y H'=>Ex cv y Z H') :
  wpAny (model X.prog X.w) X.A (call (.ref C) us) (EP X pins Z Q) X.xe s:=by
 have hq:=h (s.heap.objs.size+1) s.heap.objs.size (I.hok.fresh (Nat.le_succ _)) (I.hok.fresh (Nat.le_refl _)) (Nat.ne_of_lt (Nat.lt_succ_self _))
 have I2:=Inv.made (C:=C) I
 have r2:Vals (V.ref (s.heap.objs.size+1)::vs) (Value.ref (s.heap.objs.size+1)::us):=.cons rfl r
 have hl:((Value.ref (s.heap.objs.size+1)::us)++[]).length=ps.length:=by
  rw [List.append_nil,<- r2.length];exact F.len _ _ _ _ hq
 have bd:=hb _ (Value.ref (s.heap.objs.size+1)::us) I2.iQ hl
 rw [List.append_nil] at bd
 refine wpAny_call (yN (f:=f) I.iQ M.makes M.init (beq_iff_eq.mp M.fn) (codeAny_mono (F.run _ X.stack _ _ ⟨Value.ref (s.heap.objs.size+1)::us,[]⟩ (Value.ref (s.heap.objs.size+1)::us) _ _ _ (hr.make C us [])
  (I2.lP.make C us []) bd r2 hq) fun r s' hq'=>?_))
 match r,hq' with
 | .error e,hq'=>exact passes hx pins Z _ _ e s' I2 hq'
 | .ok (.ret u),hq' =>
  obtain ⟨v,H',I3,rv,ev,q3⟩:=I2.after hq'
  subst ev
  exact ⟨rv,⟨V.ref (s.heap.objs.size+1),H',I3,rfl,q3⟩⟩
 | .ok .next,hq'=>exact hq'.elim
 | .ok .brk,hq'=>exact hq'.elim
 | .ok .cont,hq'=>exact hq'.elim
theorem ym (M:Mk X.K C f) (F:cB X.prog X.w X.K X.mg X.base (iF X.prog X.w) k f fd ps sp) (hr:cI (k+1) X.A) (hg:Gl X x) (hm:X.mg x=some (.ref C)) (hb:Binds X.K fd ps []) (hx:∀ e s,j5 X Ex e s->X.xe e s)
  (ha:PA X (e::es) t) (hdb:(x == ("__debug__" : Str))=false) (he:starEach (e::es) X.env=(false, eval e X.env)::starEach es X.env) (hpl:(backTo pos (starEach es X.env)).any (·.1)=false) :
  PE X (.Call (.Name x p) (e::es) [] pos) (qX C sp Ex t):=by
 intro pins s Z H Q I h
 refine wpAny_Call_Name_kw (fE I hg hm ?_ hdb)
 refine PySem.W.callWith_K (h₀:=X.base) I.ok.mod.Ct M.kp (aX (ha pos pins s Z H _ I h) fun us s1 ⟨vs,H1,I1,r,q⟩=>⟨I1.iQ,?_⟩) he hpl
 exact mU M F hr hb hx I1 r q
theorem vU (M:Mk X.K C f) (F:cB X.prog X.w X.K X.mg X.base (iF X.prog X.w) k f fd ps sp) (hr:cI (k+1) X.A) (hg:Gl X x) (hm:X.mg x=some (.ref C)) (hb:Binds X.K fd ps []) (hx:∀ e s, j5 X Ex e s->X.xe e s) (hdb:(x == ("__debug__" : Str))=false) :
  PE X (.Call (.Name x p) [] [] pos) (qX C sp Ex kM):=by
 intro pins s Z H Q I h
 refine wpAny_Call_Name_kw (fE I hg hm ?_ hdb)
 exact PySem.W.callWith_K0 I.iQ M.kp (mU (us:=[]) M F hr hb hx I .nil h)
theorem yk {f:Addr} (M:Mk X.K C f) (hg:Gl X x) (hm:X.mg x=some (.ref C)) (ha:PA X (e::es) t) (hdb:(x == ("__debug__" : Str))=false) (he:starEach (e::es) X.env=(false, eval e X.env)::starEach es X.env) (hpl:(backTo pos (starEach es X.env)).any (·.1)=false) :
  PE X (.Call (.Name x p) (e::es) [] pos) (fun Z H _=>t Z H fun _ _=>False):=by
 intro pins s Z H Q I h
 refine wpAny_Call_Name_kw (fE I hg hm ?_ hdb)
 exact PySem.W.callWith_K (h₀:=X.base) I.ok.mod.Ct M.kp (aX (ha pos pins s Z H _ I h) fun us s1 ⟨vs,H1,I1,r,q⟩=>q.elim) he hpl
theorem kI {i:Int} {acc:Array Value} {n:Nat} (h:ItemsOf (fun (j:Nat) v=>∃ t,v=.int (i+(j:Int)*1) t) acc n):Vals ((List.range n).map fun (j:Nat)=>V.int (i+(j:Int))) acc.toList:=by
 obtain ⟨h1,h2⟩:=h
 have gen:∀ (l:List Value) (a:Nat),(∀ (j:Nat) v,l[j]? = some v->∃ t,v=.int (i+((a+j:Nat):Int)*1) t)->Vals ((List.range' a l.length).map fun (j:Nat)=>V.int (i+(j:Int))) l:=by
  intro l
  induction l with
  | nil=>intro a _;exact .nil
  | cons v l ih =>
   intro a q
   obtain ⟨t,e⟩:=q 0 v rfl
   refine .cons ⟨t,?_⟩ (ih (a+1) fun j w hw=>?_)
   ·rw [e];simp
   ·obtain ⟨t,e⟩:=q (j+1) w (by simpa using hw)
    exact ⟨t,by rw [e];congr 3;omega⟩
 have:=gen acc.toList 0 fun j v hv=>by
  have:=h2 j v (by simpa using hv)
  simpa using this
 rw [<- h1,List.range_eq_range']
 simpa using this
theorem FL {a b:Expr} {p1 p2 q1 q2:Pos} (hc:X.calm=true) (hgl:Gl X "list") (hml:X.mg "list" = none) (hgr:Gl X "range") (hmr:X.mg "range" = none) (ha:PA X [a, b] t) (hs:starEach [a, b] X.env=[(false, eval a X.env), (false, eval b X.env)]) (hs2:starEach [b] X.env=[(false, eval b X.env)]) :
  PE X (.Call (.Name "list" p1) [.Call (.Name "range" p2) [a, b] [] q2] [] q1) (Jk t):=by
 intro pins s Z H Q I h
 refine wpAny_Call_Name_kw (fF I hgl hml (show bootBuiltins ("list" : Str)=some (.type "list") by decide +kernel) ?_ (by decide) (by decide))
 refine PyProof.Rows.callWith_type1 ?_ rfl rfl
 show wpAny _ _ (spliced ((false, eval (.Call (.Name "range" p2) [a, b] [] q2) X.env)::backTo q1 (starEach [] X.env))) _ _ s
 refine Calls.spliced_cons ?_
 refine wpAny_Call_Name_kw (fF I hgr hmr PyProof.Rows.boot_range (PyProof.Rows.callWith_type1 (aX (ha q2 pins s Z H _ I h) fun us s1 ⟨vs,H1,I1,r1,q1⟩=>?_) (by rw [hs,hs2]) (by rw [hs2];rfl)) (by decide) (by decide))
 obtain ⟨i,j,e,⟨b1,b2,b3,b4⟩,hz,q⟩:=q1
 subst e
 cases r1 with
 | cons r rr =>
  cases rr with
  | cons r' rr =>
   cases rr
   obtain ⟨t,rfl⟩:=r
   obtain ⟨t',rfl⟩:=r'
   refine call_range_2 ?_
   refine Calls.spliced_nil ?_
   have I2:Inv X pins Z H1 { s1 with heap:=s1.heap.push { cls:=.type "range", data:=.fields #[.int i t, .int j t', .int 1 s1.toks] }, toks:=s1.toks+1 }:=I1.kept fun b o e=>Heap.get?_push_of_some _ e
   have hn:Builtin.Range.rangeSize i j 1=(((j-i).toNat:Nat):Int):=by rw [rangeSize_one];split <;> omega
   refine call_list_range (n:=(j-i).toNat) (I2.ok.hd hc) (IsRange.new ..) (small_one b1 b2 b3 b4) hn hz fun h' tk acc' c' hk hS' hacc=>?_
   have va:=kI hacc
   refine ⟨.ref _,_,I2.laid (h':=h') (t':=tk) (o:=.lst (D3 i j)) hk (Nat.le_refl _) ⟨by unfold D3;rw [List.length_map,List.length_range];exact hz,acc'.toList,c',va,by simpa using hS'⟩,rfl,q _ (I2.hok.fresh (Nat.le_refl _))⟩
end
end Fg
end
section
namespace Fg
open PySem PySem.Spec L2
section
variable {B:Bd} {Φ:aS} {E:Gx} {F F' F0 F1:Addr->Prop} {ρ ρ' ρ0 ρ1:List Addr} {H H' H0 H1:Hp} {M M' M0:MH} {ZD:Sg} {Z:L2.St} {Q:VK} {Dn:Ends}
end
end Fg
end
section
namespace Fg
open PySem PySem.Spec L2
section
variable {X:Cx} {B:Bd} {pins:List (Addr×Obj)} {Z:L2.St} {H H':Hp} {s:Shared}
noncomputable def Dy (X:Cx):Addr->Prop:=fun a=>∀ o u,X.H₀ a≠some (.gI o u)
theorem d9 (I:Inv X pins Z H s) (h:AF (Dy X) H H'):Inv X pins Z H' s:=by
 rcases h with rfl | ⟨a,o,kvs,th,ha,rfl⟩
 ·exact I
 have ne:∀ b,H b=none->b≠a:=fun b q z=>by subst z;rw [ha] at q;cases q
 refine ⟨I.ok,I.os,I.bare,⟨I.base.keep,I.base.slot,fun b ob e n hx=>?_,I.base.there,fun b xs e=>?_,fun b ob u e=>?_,fun b ps e=>?_⟩,I.loc,I.cell,?_,fun x c e=>?_,fun p hp=>?_,fun b u e=>?_,I.len⟩
 ·have:=I.base.free b ob e n hx
  rw [ao (ne b this)];exact this
 ·have:=I.base.tups b xs e
  rw [ao (by rintro rfl;rw [ha] at this;cases this)];exact this
 ·have:=I.base.gO b ob u e
  rw [ao (by rintro rfl;exact th ob u e)];exact this
 ·obtain ⟨more,q⟩:=I.base.iH b ps e
  exact ⟨more,by rw [ao (by rintro rfl;rw [ha] at q;cases q)];exact q⟩
 ·rw [ao (ne _ I.free)];exact I.free
 ·rw [ao (ne _ (I.ee x c e))];exact I.ee x c e
 ·obtain ⟨h1,h2,h3⟩:=I.pin p hp
  exact ⟨h1,by rw [ao (ne _ h2)];exact h2,h3⟩
 ·by_cases hb:b=a
  ·subst hb
   rw [aA] at e;cases e
   exact (I.hok b _ ha).2
  ·rw [ao hb] at e
   exact (I.hok b u e).stay (fun _ _ _ q=>q) (fun c q=>by rw [ao (by rintro rfl;rw [ha] at q;cases q)];exact q) fun c xs q=>by rw [ao (by rintro rfl;rw [ha] at q;cases q)];exact q
theorem BV {e:Expr} {t:TE} (h:PE X e t):PE X e (fun Z H Q=>t Z H fun v H'=>∃ sV,AF (Dy X) H' sV/\Q v sV):=by
 intro pins s Z H Q I q
 refine aX (h pins s Z H _ I q) fun u s' ⟨v,H',I',r,sV,t',q'⟩=>⟨v,sV,d9 I' t',r,q'⟩
theorem uf {st:Stmt} {t:TS} (h:PS X st t):PS X st (fun D Z H=>t (thE (Dy X) D) Z H):=by
 intro pins s Z H D I q
 refine aX (h pins s Z H _ I q) fun f s' q'=>?_
 cases f with
 | next=>obtain ⟨Z',H',I',sV,t',q'⟩:=q';exact ⟨Z',sV,d9 I' t',q'⟩
 | brk=>obtain ⟨Z',H',I',sV,t',q'⟩:=q';exact ⟨Z',sV,d9 I' t',q'⟩
 | cont=>obtain ⟨Z',H',I',sV,t',q'⟩:=q';exact ⟨Z',sV,d9 I' t',q'⟩
 | ret u=>obtain ⟨v,Z',H',I',r,sV,t',q'⟩:=q';exact ⟨v,Z',sV,d9 I' t',r,q'⟩
theorem Cu {k:Key} {u:Value} (h:lA k u=true):RelV (kV k) u:=by
 rcases aN h with ⟨i,t,rfl,rfl⟩ | ⟨x,t,rfl,rfl⟩
 ·exact ⟨t,rfl⟩
 ·exact ⟨t,rfl⟩
theorem GF {kvs:List (Key×V)} {vs:List (Key×Value)} (h:KV kvs vs) {i:Nat} {kv:Key×V} (e:kvs[i]? = some kv):∃ w,vs[i]? = some (kv.1,w):=by
 induction h generalizing i with
 | nil=>simp at e
 | @cons p q ps qs hpq _ ih =>
  cases i with
  | zero =>
   simp only [List.getElem?_cons_zero,Option.some.injEq] at e ⊢
   subst e
   exact ⟨q.2,by rw [hpq.1]⟩
  | succ i=>simpa using ih (by simpa using e)
noncomputable def epO (o:Obj) (n:Nat):Prop:=∃ es,o.data=.dict es n
theorem vD {P:Program} {w:World} {K:PySem.W.Frag} {tg:Expr} (a it:Addr) (o:Obj) (kvs:List (Key×V)) (ep:Nat) (he:epO o ep):Turn P w K tg (LP a o kvs) [it] it (fun i h=>h.IsKeyIter it a i kvs.length ep) where
 mem:=by simp
 obj:=fun i h st b hb=>by
  have e:b=it:=by simpa using hb
  subst e
  obtain ⟨o,e,c,d⟩:=st
  exact ⟨o,e,fun v z=>by rw [d] at z;cases z⟩
 keep:=fun i h h' st k=>st.at fun o e=>k it (by simp) o e
 item:=by
  intro X hP hw hK hc i pins s Z H E I hf st hg
  subst hP hw hK
  obtain ⟨hH,hi⟩:=hg
  obtain ⟨ho,z,hm,vs,rel,dd⟩:=(show aV X.prog X.w H s.heap a (.gI o (.dK kvs)) from I.hok a _ hH)
  obtain ⟨o',es,Ld,h1,h2,h3,h4⟩:=id dd
  rw [ho] at h1;cases h1
  obtain ⟨es',hd'⟩:=he
  rw [hd'] at h3;cases h3
  have dat:s.heap.DictAt (aM X.prog X.w) a vs ep:=⟨o,es,ho,h2,hd',h4⟩
  have hx:kvs[i]? = some kvs[i]:=List.getElem?_eq_getElem hi
  obtain ⟨wv,hv⟩:=GF rel hx
  obtain ⟨f0,f1,f2,f3,f4,f5⟩:=hf it (by simp)
  have hl:kvs.length=vs.length:=rel.length
  rw [hl] at st
  refine wpAny_pyNext_dict_item st dat hv fun key h' hk st' sb=>?_
  have I1:Inv X pins Z H { s with heap:=h' }:=I.turned (t':=s.toks) (fun b o hb e=>(sb.2 b hb).trans e) f0 f1 f3 f4 f5
  obtain ⟨oi,e,c,d⟩:=id st'
  refine ⟨key,rfl,qo (s:={ s with heap:=h' }) e c d (by decide) ⟨kV kvs[i].1,H,I1,Cu hk,⟨rfl,kvs[i],hx,rfl⟩,by rw [hl];exact st',fun b hb=>(hf b hb).1⟩⟩
 done:=by
  intro X hP hw hK hc i pins s Z H E I hf st hg
  subst hP hw hK
  obtain ⟨hH,hi⟩:=hg
  obtain ⟨ho,z,hm,vs,rel,dd⟩:=(show aV X.prog X.w H s.heap a (.gI o (.dK kvs)) from I.hok a _ hH)
  obtain ⟨o',es,Ld,h1,h2,h3,h4⟩:=id dd
  rw [ho] at h1;cases h1
  obtain ⟨es',hd'⟩:=he
  rw [hd'] at h3;cases h3
  have dat:s.heap.DictAt (aM X.prog X.w) a vs ep:=⟨o,es,ho,h2,hd',h4⟩
  have hl:kvs.length=vs.length:=rel.length
  rw [hl] at st
  obtain ⟨f0,f1,f2,f3,f4,f5⟩:=hf it (by simp)
  exact wpAny_pyNext_dict_end (I.ok.hd hc) st dat (List.getElem?_eq_none_iff.mpr (by omega)) fun h' eb=>⟨rfl,I.turned (t':=s.toks) (fun b o hb e=>eb b o hb e) f0 f1 f3 f4 f5⟩
 self:=fun _ _ _ _ _ st h=>wpAny_pyIter_keyiter st h
theorem u0 {tg:Expr} {R:It->Hp->Prop} {a:Addr} {o:Obj} {kvs:List (Key×V)} {E:Value->Shared->Prop} (I:Inv X pins Z H s) (hH:H a=some (.gI o (.dK kvs))) (q:R (LP a o kvs) H):wpAny (model X.prog X.w) X.A (pyIter (.ref a)) (PIE X pins Z tg R) E s:=by
 obtain ⟨ho,z,hm,vs,rel,dd⟩:=(show aV X.prog X.w H s.heap a (.gI o (.dK kvs)) from I.hok a _ hH)
 obtain ⟨o',es,ep,h1,h2,h3,h4⟩:=id dd
 rw [ho] at h1;cases h1
 have dat:s.heap.DictAt (aM X.prog X.w) a vs ep:=⟨o,es,ho,h2,h3,h4⟩
 have hl:kvs.length=vs.length:=rel.length
 refine wpAny_pyIter_dict hm dat ?_
 refine ⟨s.heap.objs.size,[s.heap.objs.size],_,_,H,rfl,I.kept (t':=s.toks) fun b o e=>Heap.get?_push_of_some _ e,vD a _ o kvs ep ⟨es,h3⟩,⟨_,Heap.get?_push_size _ rfl,rfl,by rw [hl];rfl⟩,fun b hb=>?_,q⟩
 have e:b=s.heap.objs.size:=by simpa using hb
 subst e
 exact I.wC (Nat.le_refl _) (I.hok.fresh (Nat.le_refl _))
theorem FA {tg l:Expr} {tl:TE} (hK:B.K=X.K) (hl:PE X l tl):PI X tg l (KO B (Dy X) tl):=by
 intro pins s Z H R I h
 refine aX (hl pins s Z H _ I h) fun v s1 ⟨x,H1,I1,r1,q1⟩=>?_
 rw [hK] at q1
 rcases q1 with ⟨a,e,⟨xs,hq⟩,q⟩ | ⟨a,e,⟨xs,hq⟩,q⟩ | ⟨a,kvs,e,hq,q⟩ | ⟨a,o,kvs,e,hq,q⟩
 ·subst e
  cases r1
  obtain ⟨its,rv,p,hz⟩:=I1.list hq
  refine wpAny_pyIter_list p.isList ?_
  refine ⟨s1.heap.objs.size,[s1.heap.objs.size],_,_,H1,rfl,I1.kept (t':=s1.toks) fun b o e=>Heap.get?_push_of_some _ e,vC a _,⟨_,Heap.get?_push_size _ rfl,rfl,rfl⟩,fun b hb=>?_,q⟩
  have e:b=s1.heap.objs.size:=by simpa using hb
  subst e
  exact I1.wC (Nat.le_refl _) (I1.hok.fresh (Nat.le_refl _))
 ·subst e
  cases r1
  obtain ⟨its,rv,p,hz⟩:=I1.tuple hq
  refine wpAny_pyIter_tuple (show s1.heap.IsTuple a its.toArray from p) ?_
  refine ⟨s1.heap.objs.size,[s1.heap.objs.size],_,_,H1,rfl,I1.kept (t':=s1.toks) fun b o e=>Heap.get?_push_of_some _ e,qU a _,⟨_,Heap.get?_push_size _ rfl,rfl,rfl⟩,fun b hb=>?_,q⟩
  have e:b=s1.heap.objs.size:=by simpa using hb
  subst e
  exact I1.wC (Nat.le_refl _) (I1.hok.fresh (Nat.le_refl _))
 ·subst e
  cases r1
  have ob:=(show aV X.prog X.w H1 s1.heap a (.dK kvs) from I1.hok a _ hq)
  obtain ⟨z,hm,vs,rel,dd⟩:=id ob
  obtain ⟨o,es,ep,h1,h2,h3,h4⟩:=id dd
  have th:Dy X a:=fun w u hz=>by
   have:=I1.base.gO a w u hz
   rw [hq] at this;cases this
  have I2:Inv X pins Z (upd H1 a (.gI o (.dK kvs))) s1:=I1.write (x:=a) (e:=a) (t':=s1.toks) (h':=s1.heap) (by rw [hq];trivial) (.inl rfl) (fun b u _ e=>e) ⟨o,h1⟩ ⟨h1,ob⟩
  exact u0 I2 aA (q o th)
 ·subst e
  cases r1
  exact u0 I1 hq q
theorem BO {o i value:Expr} {to ti tv:TE} {pos pos':Pos} (hu:Rm X) (ho:PE X o to) (hi:PE X i ti) (hv:PE X value tv) (hs:swapsWith value (some (.Subscript o i pos')) pos.line X.env=pure false) :
  PS X (.Assign [.Subscript o i pos'] value pos) (DI to ti tv):=by
 intro pins s Z H D I h
 refine wpAny_Assign_Subscript (aX (hv pins s Z H _ I h) fun r s1 ⟨v,H1,I1,rv,q1⟩=>aX (ho pins s1 Z H1 _ I1 q1) fun u s2 ⟨x,H2,I2,rx,q2⟩=>aX (hi pins s2 Z H2 _ I2 q2) fun iv s3 ⟨y,H3,I3,ry,q3⟩=>?_) hs
 rcases q3 with q3 | ⟨a,H4,ex,g,q3⟩
 ·exact aX (set_list pins s3 Z H3 x y v u iv r _ I3 rx ry rv q3) fun _ s4 ⟨H4,I4,q4⟩=>⟨Z,H4,I4,q4⟩
 ·subst ex
  obtain rfl:u=Value.ref a:=rx
  exact wF (by unfold Rm at hu;omega) I3 g ry rv fun s4 I4=>⟨Z,H4,I4,q3⟩
end
end Fg
end
section
namespace Fg
open PySem PySem.Spec L2
noncomputable def TM (B:Bd) (Φ:aS) (E:Gx) (c:Es):L2.St->Hp->(Hp->Prop)->Prop:=fun Z H Q=>∃ (ZD:Sg) (M:MH) (F:Addr->Prop) (ρ:List Addr),
 SR B F ρ M H/\RS B F ρ H ZD Z/\aj (fun _ _ _ (_:Unit) (_:Unit)=>True) B (CO Φ c ZD M) F ρ H (fun _ H'=>Q H') (fun cv x H'=>E.e cv x Z H')
section
variable {B:Bd} {Φ:aS} {E:Gx} {F F' F0 F1:Addr->Prop} {ρ ρ' ρ0 ρ1:List Addr} {H H' H0 H1:Hp} {M M' M0:MH} {ZD:Sg} {Z:L2.St} {Dn:Ends}
theorem TM.nil {Q:Hp->Prop} (h:TM B Φ E .nil Z H Q):Q H:=by
 obtain ⟨ZD,M,F,ρ,S,r,h⟩:=h
 simp only [CO] at h
 exact aj.run (v:=()) h S True.intro
theorem TM.cons {e:Fg.E} {es:Es} {Q:Hp->Prop} (h:TM B Φ E (.cons e es) Z H Q):T B Φ E e Z H fun v H1=>((∃ x:Str,v=.str x/\x.length<=100000)\/∃ i:Int,v=.int i/\i.natAbs<18446744073709551616)/\TM B Φ E es Z H1 Q:=by
 obtain ⟨ZD,M,F,ρ,S,r,h⟩:=h
 simp only [CO] at h
 refine ⟨ZD,M,F,ρ,S,r,aj.imp (aj.bind (rel:=RD B) h) fun v H1 ⟨x,M1,F1,ρ1,e1,S1,rx,h1⟩=>?_⟩
 split at h1
 ·rename_i hs
  cases x with
  | str y =>
   simp only [RD] at rx
   simp only [bT,decide_eq_true_eq] at hs
   exact ⟨.inl ⟨y,rx,hs⟩,ZD,M1,F1,ρ1,S1,r.mono e1,h1⟩
  | aq=>simp [bT] at hs
  | bl _=>simp [bT] at hs
  | int i =>
   simp only [RD] at rx
   simp only [bT,decide_eq_true_eq] at hs
   exact ⟨.inr ⟨i,rx,hs⟩,ZD,M1,F1,ρ1,S1,r.mono e1,h1⟩
  | tup _=>simp [bT] at hs
  | lst _=>simp [bT] at hs
  | dct _ _=>simp [bT] at hs
  | ref _=>simp [bT] at hs
 ·exact h1.elim
end
inductive PJ (X:Cx) (B:Bd) (Φ:aS) (E:Gx):List Expr->Es->Prop
 | nil:PJ X B Φ E [] .nil
 | lit {y:Str} {j:Nat} {p:Pos} {r:List Expr} {es:Es}:y.length<=100000->PJ X B Φ E r es->PJ X B Φ E (.Constant (.str y) j p::r) es
 | fld {v:Expr} {p:Pos} {r:List Expr} {e:Fg.E} {es:Es}:PE X v (T B Φ E e)->PJ X B Φ E r es->PJ X B Φ E (.FormattedValue v (-1) none p::r) (.cons e es)
theorem m8 {i:Int} (h:i.natAbs<18446744073709551616):i.natAbs.log2<1920:=by
 by_cases h0:i.natAbs=0
 ·rw [h0];decide
 ·exact Nat.lt_of_lt_of_le ((Nat.log2_lt h0).mpr (show i.natAbs<2 ^ 64 from h)) (by decide)
theorem wm {i:Int} (h:i.natAbs<18446744073709551616):(Str.ofString (toString i)).length<=100000:=by
 have e:=int_text_length_le (k:=1920) (by decide) (m8 h)
 rw [ofString_length];omega
section
variable {X:Cx} {B:Bd} {Φ:aS} {E:Gx}
theorem PJ.run {ps:List Expr} {es:Es} (h:PJ X B Φ E ps es):∀ {pins:List (Addr×Obj)} {s:Shared} {Z:L2.St} {H:Hp} {Q:Hp->Prop} {out:Str},Inv X pins Z H s->out.length+100000*ps.length<=sizeLine->TM B Φ E es Z H Q ->
  wpAny (model X.prog X.w) X.A (joinParts out (evalEach ps X.env)) (EP X pins Z fun v H'=>∃ y,v=.str y/\Q H') X.xe s:=by
 induction h with
 | nil =>
  intro pins s Z H Q out I hl q
  refine PyProof.Rows.joinParts_nil ⟨.str out,H,I.tok _,⟨_,rfl⟩,out,rfl,q.nil⟩ (by simpa using hl)
 | lit hy _ ih =>
  rename_i y j p r es _
  intro pins s Z H Q out I hl q
  simp only [List.length_cons] at hl
  refine PyProof.Rows.joinParts_cons ?_
  refine aX (rK pins s Z H (fun v H'=>v=.str y/\H'=H) I ⟨rfl,rfl⟩) fun u s1 ⟨v,H1,I1,rv,e1,e2⟩=>?_
  subst e1 e2
  obtain ⟨t,rfl⟩:=rv
  have hlen:(out++y).length<=out.length+100000:=by rw [strLen_append];omega
  exact ⟨by omega,ih I1 (by omega) q⟩
 | fld hv _ ih =>
  intro pins s Z H Q out I hl q
  simp only [List.length_cons] at hl
  refine PyProof.Rows.joinParts_cons (PyProof.Rows.FormattedValue_plain ?_)
  refine aX (hv pins s Z H _ I q.cons) fun u s1 ⟨v,H1,I1,rv,e0,q1⟩=>?_
  rcases e0 with ⟨x,e1,e2⟩ | ⟨i,e1,e2⟩
  ·subst e1
   obtain ⟨t,rfl⟩:=rv
   refine PyProof.Rows.formatField_str (fun t' tk=>?_) (by omega)
   have hlen:(out++x).length<=out.length+100000:=by rw [strLen_append];omega
   exact ⟨by omega,ih (I1.tok tk) (by omega) q1⟩
  ·subst e1
   obtain ⟨t,rfl⟩:=rv
   refine PyProof.Rows.formatField_int_small (m8 e2) ?_
   have hlen:(out++Str.ofString (toString i)).length<=out.length+100000:=by rw [strLen_append];have:=wm e2;omega
   exact ⟨by omega,ih (I1.tok _) (by omega) q1⟩
theorem FI {ps:List Expr} {es:Es} {pos:Pos} (h:PJ X B Φ E ps es) (h2:2<=ps.length) (hl:ps.length<=100):PE X (.JoinedStr ps pos) (fun Z H Q=>TM B Φ E es Z H fun H'=>∀ y:Str,Q (.str y) H'):=by
 intro pins s Z H Q I q
 match ps,h2,h,hl with
 | v₁::v₂::rest,_,h,hl =>
  refine PyProof.Rows.JoinedStr_many ?_
  refine wpAny_mono (h.run (Q:=fun H'=>∀ y:Str,Q (.str y) H') I (by
   show 0+100000*(v₁::v₂::rest).length<=2 ^ 24
   omega) q) (fun u s1 ⟨v,H1,I1,rv,y,e,q1⟩=>⟨v,H1,I1,rv,by rw [e];exact q1 y⟩) fun _ _ z=>z
end
section
variable {B:Bd} {Φ:aS} {E:Gx} {F F' F0 F1:Addr->Prop} {ρ ρ' ρ0 ρ1:List Addr} {H H' H0 H1:Hp} {M M' M0:MH} {ZD:Sg} {Z:L2.St} {Dn:Ends}
theorem mS {c:Nat} {es:Es} {C:Addr} (hc:B.exc c (.ref C)) (h:TC B Φ E (.raise c es) Dn Z H):TM B Φ E es Z H fun H'=>E.e (.ref C) none Z H':=by
 obtain ⟨ZD,M,F,ρ,S,r,h⟩:=h
 simp only [ex] at h
 refine ⟨ZD,M,F,ρ,S,r,aj.imp (aR.use (rel:=fun _ _ _ (_:Unit) (_:Unit)=>True) r h) fun v H1 ⟨x,M1,F1,ρ1,e,S1,rx,h1⟩=>?_⟩
 exact aR.run h1 S1 Z _ none (r.mono e) hc
end
end Fg
end
section
namespace Fg
open PySem PySem.Spec L2
noncomputable def Ir (l:Bool) (h:Heap) (it a:Addr) (k:Nat):Prop:=match l with | true=>h.IsListIter it a k | false=>h.IsTupleIter it a k
noncomputable def Dp (l:Bool) (h:Heap) (a:Addr) (xs:Array Value):Prop:=match l with | true=>h.IsList a xs | false=>h.IsTuple a xs
theorem Ir.at {l:Bool} {h h':Heap} {it a:Addr} {k:Nat} (x:Ir l h it a k) (e:∀ o,h.get? it=some o->h'.get? it=some o):Ir l h' it a k:=by
 cases l <;> (obtain ⟨o,h1,h2⟩:=x;exact ⟨o,e o h1,h2⟩)
theorem Dp.at {l:Bool} {h h':Heap} {a:Addr} {xs:Array Value} (x:Dp l h a xs) (e:∀ o,h.get? a=some o->h'.get? a=some o):Dp l h' a xs:=by
 cases l <;> (obtain ⟨o,h1,h2⟩:=x;exact ⟨o,e o h1,h2⟩)
section
variable {prog:Program} {w:World} {A:Around} {E:Value->Shared->Prop} {s:Shared}
end
end Fg
end
section
namespace Fg
open PySem PySem.Spec L2
section
variable {X:Cx} {pins:List (Addr×Obj)} {Z:L2.St} {H:Hp} {s:Shared} {h':Heap}
theorem Dv {t':Nat} {ch:List Addr} (I:Inv X pins Z H s) (f:∀ b∈ch,lZ X pins H b) (k:∀ b o,b∉ch->s.heap.get? b=some o->h'.get? b=some o):Inv X pins Z H { s with heap:=h',toks:=t' }:=by
 have off:∀ b u,H b=some u->b∉ch:=fun b u e z=>by rw [(f b z).1] at e;cases e
 refine I.step (g':=s.gens) (d':=s.drawn) (ch:=ch) (fun b hb=>?_) (fun b o _ _ hc e _=>k b o hc e) (fun b o _ _ hc e _=>⟨o.slots,k b o hc e⟩) (fun _ _ _ _ n=>n) (fun b o hc e=>⟨o,k b o hc e⟩) (fun _ _ e=>e) (fun _ _ _ e=>e) (fun b ps e=>⟨#[],by rw [e];simp⟩) (fun m hm=>?_) (fun b u e=>?_) I.bare
 ·obtain ⟨_,f1,_,f3,f4,f5⟩:=f b hb
  exact ⟨f3,f1,f4,f5⟩
 ·obtain ⟨o,es,ep,ho,r⟩:=hm
  exact ⟨o,es,ep,k _ o (fun z=>(f _ z).2.1 rfl) ho,r⟩
 ·refine (I.hok b u e).stay (fun c v hc q=>k c v ?_ q) (fun _ q=>q) fun _ _ q=>q
  rcases hc with z | z
  ·rw [z];exact off b u e
  ·exact off c _ z
end
section
variable {prog:Program} {w:World} {A:Around} {E:Value->Shared->Prop} {s:Shared}
end
noncomputable def SqB (l:Bool) (K:W.Frag) (H:Hp) (a:Addr) (xs:List V):Prop:=match l with | true=>fT K H a xs | false=>i7 K H a xs
theorem SqB.at {l:Bool} {X:Cx} {pins:List (Addr×Obj)} {Z:L2.St} {H:Hp} {s:Shared} {a:Addr} {xs:List V} (I:Inv X pins Z H s) (q:SqB l X.K H a xs):∃ its:List Value,Vals xs its/\Dp l s.heap a its.toArray:=by
 cases l with
 | true=>obtain ⟨its,rv,p,_⟩:=I.list q;exact ⟨its,rv,p.isList⟩
 | false=>obtain ⟨its,rv,p,_⟩:=I.tuple q;exact ⟨its,rv,p⟩
section
variable {B:Bd} {Φ:aS} {E:Gx} {F F' F0 F1:Addr->Prop} {ρ ρ' ρ0 ρ1:List Addr} {H H' H0 H1:Hp} {M M' M0:MH} {ZD:Sg} {Z:L2.St} {Q:VK} {Dn:Ends}
end
end Fg
end
section
namespace Fg
open PySem PySem.Spec L2
noncomputable def Iq (K:W.Frag) (a:Addr) (n:Nat):It :=
 ⟨fun i H=>i<n/\∃ xs x,fT K H a xs/\xs.length=n/\xs[n-1-i]? = some x,fun i H x H'=>H'=H/\∀ xs,fT K H a xs->xs[n-1-i]? = some x,fun i H=>n<=i⟩
theorem xm {P:Program} {w:World} {K:W.Frag} {tg:Expr} {a it:Addr} {n:Nat}:Turn P w K tg (Iq K a n) [it] it (fun i h=>i<=n/\h.IsRevIter it a ((n:Int)-1-(i:Int))) where
 mem:=by simp
 obj:=fun i h st b hb=>by
  have e:b=it:=by simpa using hb
  subst e
  obtain ⟨_,o,e,c,d⟩:=st
  exact ⟨o,e,fun v z=>by rw [d] at z;cases z⟩
 keep:=fun i h h' st k=>⟨st.1,st.2.at fun o e=>k it (by simp) o e⟩
 item:=by
  intro X hP hw hK hc i pins s Z H E I hf st hg
  subst hP hw hK
  obtain ⟨hi,xs,x,q1,hn,hx⟩:=hg
  obtain ⟨its,rv,pl,z⟩:=I.list q1
  obtain ⟨u,hu,ru⟩:=rv.get hx
  have e:(n:Int)-1-(i:Int)=((n-1-i:Nat):Int):=by omega
  obtain ⟨_,st⟩:=st
  rw [e] at st
  refine wpAny_pyNext_rev_item st pl.isList (x:=u) (by simpa using hu) fun h' hit b=>⟨u,rfl,?_⟩
  have e2:((n-1-i:Nat):Int)-1=(n:Int)-1-((i+1:Nat):Int):=by omega
  rw [e2] at hit
  obtain ⟨o,ho,hcl,hd⟩:=id hit
  have I1:Inv X pins Z H { s with heap:=h' }:=Dv (t':=s.toks) I (ch:=[it]) (fun c hc=>hf c hc) fun c o hc e=>b.extBut c o (by simpa using hc) e
  refine qo ho hcl hd (by decide) ⟨x,H,I1,ru,⟨rfl,fun ys q=>?_⟩,⟨by omega,hit⟩,fun c hc=>(hf c hc).1⟩
  rw [I.lq q q1];exact hx
 done:=by
  intro X hP hw hK hc i pins s Z H E I hf st hg
  subst hP hw hK
  obtain ⟨hi,st⟩:=st
  have hg':n<=i:=hg
  have e:(n:Int)-1-(i:Int)=-1:=by omega
  rw [e] at st
  exact wpAny_pyNext_rev_end (I.ok.hd hc) st fun h' b=>⟨rfl,Dv (t':=s.toks) I (ch:=[it]) (fun c hc=>hf c hc) fun c o hc e=>b c o (by simpa using hc) e⟩
 self:=fun _ _ _ _ _ st h=>wpAny_pyIter_revIter st.2 h
noncomputable def KN (K:W.Frag) (t:TA):TI:=fun Z H R=>t Z H fun vs H1=>∃ a xs,vs=[.ref a]/\fT K H1 a xs/\R (Iq K a xs.length) H1
theorem Fz {X:Cx} {tg a:Expr} {t:TA} {p pos:Pos} (hg:Gl X "reversed") (hm:X.mg "reversed" = none) (ha:PA X [a] t) (hs:starEach [a] X.env=[(false, eval a X.env)]) :
  PI X tg (.Call (.Name "reversed" p) [a] [] pos) (KN X.K t):=by
 intro pins s Z H R I h
 refine PyProof.Rows.Call_ (fF I hg hm (show bootBuiltins ("reversed" : Str)=some (.type "reversed") by decide +kernel) (PyProof.Rows.callWith_type1 (aX (ha pos pins s Z H _ I h) fun us s1 ⟨vs, H1, I1, r1, q1⟩=>?_) (by rw [hs];rfl) (by rfl)))
 obtain ⟨c,xs,e,q,q2⟩:=q1
 subst e
 obtain ⟨u,rfl,ru⟩:=vals1 r1
 cases ru
 obtain ⟨its,rv,pl,z⟩:=I1.list q
 have l1:=rv.length
 refine call_reversed_list pl.isList ?_
 have I2:Inv X pins Z H1 { s1 with heap:=s1.heap.push (revObj c ((its.toArray.size:Int)-1)) }:=I1.kept (t':=s1.toks) fun c o e=>Heap.get?_push_of_some _ e
 have g0:(s1.heap.push (revObj c ((its.toArray.size:Int)-1))).IsRevIter s1.heap.objs.size c ((its.toArray.size:Int)-1):=⟨_,Heap.get?_push_size _ rfl,rfl,rfl⟩
 have g1:(s1.heap.push (revObj c ((its.toArray.size:Int)-1))).IsRevIter s1.heap.objs.size c ((xs.length:Int)-1-((0:Nat):Int)):=by
  have e:(xs.length:Int)-1-((0:Nat):Int)=(its.toArray.size:Int)-1:=by rw [List.size_toArray,l1];omega
  rw [e];exact g0
 refine wpAny_pyIter_revIter g0 ⟨_,[s1.heap.objs.size],_,_,H1,rfl,I2,xm,⟨Nat.zero_le _,g1⟩,fun x hx=>?_,q2⟩
 have e:x=s1.heap.objs.size:=by simpa using hx
 subst e
 exact I1.wC (Nat.le_refl _) (I1.hok.fresh (Nat.le_refl _))
section
variable {B:Bd} {Φ:aS} {E:Gx} {F F' F0 F1:Addr->Prop} {ρ ρ' ρ0 ρ1:List Addr} {H H' H0 H1:Hp} {M M' M0:MH} {ZD:Sg} {Z:L2.St} {Q:VK} {Dn:Ends}
theorem Bc {a:Fg.E} {Rr:It->Hp->Prop} (h:Er B Φ E (.rev a) Z H Rr):KN B.K (gW (T B Φ E a) kM) Z H Rr:=by
 obtain ⟨ZD,M,F,ρ,S,r,h⟩:=h
 show T B Φ E a Z H fun v H1=>∃ c xs,[v]=[.ref c]/\fT B.K H1 c xs/\Rr (Iq B.K c xs.length) H1
 refine ⟨ZD,M,F,ρ,S,r,?_⟩
 cases hx:ev Φ a ZD M with
 | exc c M1 =>
  have he:bZ Φ (.rev a) ZD M=.exc c M1:=by simp only [bZ,hx,R.lV]
  rw [he] at h;exact h
 | bad =>
  have he:bZ Φ (.rev a) ZD M=.bad:=by simp only [bZ,hx,R.iZ]
  rw [he] at h;exact h
 | ok x M1 =>
  intro F1 ρ1 H1 v e1 S1 rx
  cases hfx:uA x with
  | none =>
   have he:bZ Φ (.rev a) ZD M=.bad:=by simp only [bZ,hx,R.af,hfx]
   rw [he] at h;exact h.elim
  | some ds =>
   have he:bZ Φ (.rev a) ZD M=.ok (.aq,ds.reverse,false) M1:=by simp only [bZ,hx,R.af,hfx]
   rw [he] at h
   cases Ci hfx
   simp only [RD] at rx
   obtain ⟨c,xs,rfl,z,q⟩:=rx
   have l1:=ak.length q
   refine ⟨c,xs,rfl,z.sq,h F1 ρ1 H1 _ e1 S1 fun M' hM S'=>?_⟩
   cases hM
   refine ⟨fun i F ρ M H ex S _=>⟨fun d0 hd=>?_,fun hl=>?_⟩,fun z=>by cases z⟩
   ·have zq:fT B.K H c xs:=by
     rcases z with ⟨f,z⟩ | z
     ·exact .inl (ex.toExt0.K4.rd f z)
     ·exact .inr z
    have hi:i<ds.length:=by
     have:=(List.getElem?_eq_some_iff.mp hd).1
     simpa using this
    rw [List.getElem?_reverse hi,l1] at hd
    obtain ⟨v,hv,rv⟩:=ak.get (ak.mono ex _ _ q) hd
    refine ⟨⟨by omega,xs,v,zq,rfl,hv⟩,fun x H' ⟨e',hy⟩=>?_⟩
    subst e'
    have z2:=hy xs zq
    rw [hv] at z2
    cases z2
    exact ⟨F,S.refl,S,rv⟩
   ·rw [List.length_reverse,l1] at hl
    exact hl
end
end Fg
end
section
namespace Fg
open PySem PySem.Spec L2
section
variable {B:Bd} {Φ:aS} {E:Gx} {F F' F1:Addr->Prop} {ρ ρ' ρ1:List Addr} {H H' H1:Hp} {M M':MH} {ZD:Sg} {Z:St} {Q:VK}
noncomputable def Jl (t:TA):TE:=fun Z H Q=>t Z H fun vs H1=>∃ j:Int,vs=[.int j]/\(-(2 ^ 62)<=j/\j<2 ^ 62)/\j.toNat<=sizeLine/\∀ p,H1 p=none->Q (.ref p) (upd H1 p (.lst (D3 0 j)))
theorem Bm {fz:Bool} {a:Fg.E} (h:T B Φ E (.yS fz a) Z H Q):Jl (gW (T B Φ E a) kM) Z H Q:=by
 obtain ⟨ZD,M,F,ρ,S,r,h⟩:=h
 simp only [ev] at h
 refine T.one S r rfl h fun x M1 F1 ρ1 H1 v e1 S1 r1 rx h1=>?_
 split at h1
 ·rename_i j
  split at h1
  ·rename_i hq
   simp only [mz,decide_eq_true_eq] at hq
   simp only [RD] at rx
   subst rx
   exact ⟨j,rfl,⟨by omega,by omega⟩,Nat.le_trans (by unfold line;omega) bB,bX S1 h1 ud⟩
  ·exact h1.elim
 ·exact h1.elim
noncomputable def tRv (K:W.Frag) (te ts:TE):TE:=fun Z H Q=>te Z H fun x H1=>ts Z H1 fun y H2=>∃ l xs,x=.ref l/\y=.int (-1)/\fT K H2 l xs/\∀ p,H2 p=none->Q (.ref p) (upd H2 p (.lst xs.reverse))
theorem EW {fz:Bool} {a:Fg.E} (h:T B Φ E (.rv fz a) Z H Q):tRv B.K (T B Φ E a) (T B Φ E (.neg (.k (.int 1)))) Z H Q:=by
 obtain ⟨ZD,M,F,ρ,S,r,h⟩:=h
 simp only [ev] at h
 refine T.one S r rfl h fun x M1 F1 ρ1 H1 v e1 S1 r1 rx h1=>?_
 split at h1
 ·rename_i ds hv
  obtain ⟨l,vs,rfl,q,rr⟩:=bF S1 rx hv
  refine ⟨ZD,M1,F1,ρ1,S1,r1,?_⟩
  simp only [ev,R.af]
  show aj (RD B) B (R.ok (D.int (-1)) M1) F1 ρ1 H1 _ _
  intro F' ρ' H' y e2 S2 r2
  simp only [RD] at r2
  subst r2
  obtain ⟨l2,vs2,q2,q3,rr2⟩:=bF S2 (RD.mono e2 _ _ rx) hv
  exact ⟨l2,vs2,q2,rfl,q3,bX S2 (aj.weak e2 h1) rr2.rev⟩
 ·exact h1.elim
end
section
variable {X:Cx} {t:TA} {te ts:TE} {e st:Expr} {pos p2:Pos}
theorem FN {a:Expr} {p1 p2 q1 q2:Pos} (hc:X.calm=true) (hgl:Gl X "list") (hml:X.mg "list" = none) (hgr:Gl X "range") (hmr:X.mg "range" = none) (ha:PA X [a] t) (hs:starEach [a] X.env=[(false, eval a X.env)]) :
  PE X (.Call (.Name "list" p1) [.Call (.Name "range" p2) [a] [] q2] [] q1) (Jl t):=by
 intro pins s Z H Q I h
 refine wpAny_Call_Name_kw (fF I hgl hml (show bootBuiltins ("list" : Str)=some (.type "list") by decide +kernel) ?_ (by decide) (by decide))
 refine PyProof.Rows.callWith_type1 ?_ rfl rfl
 show wpAny _ _ (spliced ((false, eval (.Call (.Name "range" p2) [a] [] q2) X.env)::backTo q1 (starEach [] X.env))) _ _ s
 refine Calls.spliced_cons ?_
 refine wpAny_Call_Name_kw (fF I hgr hmr PyProof.Rows.boot_range (PyProof.Rows.callWith_type1 (aX (ha q2 pins s Z H _ I h) fun us s1 ⟨vs,H1,I1,r1,q1⟩=>?_) (by rw [hs];rfl) (by rfl)) (by decide) (by decide))
 obtain ⟨j,e,⟨b3,b4⟩,hz,q⟩:=q1
 subst e
 cases r1 with
 | cons r rr =>
  cases rr
  obtain ⟨t',rfl⟩:=r
  refine call_range_1 ?_
  refine Calls.spliced_nil ?_
  have I2:Inv X pins Z H1 { s1 with heap:=s1.heap.push { cls:=.type "range", data:=.fields #[.int 0 s1.toks, .int j t', .int 1 (s1.toks+1)] }, toks:=s1.toks+1+1 }:=I1.kept fun b o e=>Heap.get?_push_of_some _ e
  have hn:Builtin.Range.rangeSize 0 j 1=(((j-0).toNat:Nat):Int):=by rw [rangeSize_one];split <;> omega
  refine call_list_range (n:=(j-0).toNat) (I2.ok.hd hc) (IsRange.new ..) (small_one (by decide) (by decide) b3 b4) hn (by rw [Int.sub_zero];exact hz) fun h' tk acc' c' hk hS' hacc=>?_
  have va:=kI hacc
  refine ⟨.ref _,_,I2.laid (h':=h') (t':=tk) (o:=.lst (D3 0 j)) hk (Nat.le_refl _) ⟨by unfold D3;rw [List.length_map,List.length_range,Int.sub_zero];exact hz,acc'.toList,c',va,by simpa using hS'⟩,rfl,q _ (I2.hok.fresh (Nat.le_refl _))⟩
theorem BB (n:Nat):sliceRange ((n:Int)-1) (-1) (-1)=(List.range n).reverse:=by
 unfold sliceRange
 have hc:(if (-1:Int) > 0 then (if (n:Int)-1 < -1 then ((-1)-((n:Int)-1)+(-1)-1) / (-1) else 0) else (if (n:Int)-1 > -1 then ((n:Int)-1-(-1)-(-1)-1) / (-(-1)) else 0))=(n:Int):=by
  rw [if_neg (by decide)]
  split
  ·rw [show -(-1:Int)=1 from rfl,Int.ediv_one];omega
  ·omega
 simp only [hc,Int.toNat_natCast]
 apply List.ext_getElem
 ·simp
 ·intro i h1 h2
  simp only [List.getElem_map,List.getElem_range,List.getElem_reverse,List.length_range]
  simp at h1
  omega
theorem yf (its:Array Value):slicePick its none none (some (-1))=its.toList.reverse.toArray:=by
 have e:sliceBounds none none (some (-1)) its.size=((its.size:Int)-1,-1,-1):=by
  simp [sliceBounds]
 unfold slicePick
 rw [e]
 simp only
 rw [BB,List.filterMap_reverse]
 have:=pick_run its 0 its.size
 simp only [Nat.zero_add,List.map_id',List.drop_zero] at this
 rw [this]
 congr 2
 rw [List.take_of_length_le (by simp)]
theorem o9:∀ {xs:List V} {us:List Value},Vals xs us->Vals xs.reverse us.reverse
 | _,_,.nil=>.nil
 | _,_,.cons a r=>by rw [List.reverse_cons,List.reverse_cons];exact (o9 r).append (.cons a .nil)
theorem JZ (he:PE X e te) (hs:PE X st ts):PE X (.Subscript e (.Slice none none (some st) p2) pos) (tRv X.K te ts):=by
 intro pins s Z H Q I h
 refine PyProof.Rows.Subscript_ (aX (he pins s Z H _ I h) fun v s1 ⟨x,H1,I1,r1,q1⟩=>?_)
 refine wpAny_Slice ?_
 rw [evalPart_none]
 refine wpAny_pure (wpAny_pure ?_)
 rw [evalPart_some]
 refine aX (hs pins s1 Z H1 _ I1 q1) fun vs s2 ⟨y,H2,I2,r2,q2⟩=>?_
 obtain ⟨l,xs,rfl,rfl,hx,q⟩:=q2
 obtain ⟨ty,rfl⟩:=r2
 cases r1
 have I4:Inv X pins Z H2 { s2 with heap:=s2.heap.push { cls:=.type "slice", data:=.fields #[.none, .none, .int (-1) ty] } }:=I2.kept (t':=s2.toks) fun b ob q=>Heap.get?_push_of_some _ q
 obtain ⟨its,r,ht,hz⟩:=I4.list hx
 show wpAny (model X.prog X.w) X.A (PyProof.Rows.subscriptTail e (.Slice none none (some st) p2) (.ref l) (.ref s2.heap.objs.size)) (EP X pins Z Q) X.xe { s2 with heap:=s2.heap.push { cls:=.type "slice", data:=.fields #[.none, .none, .int (-1) ty] } }
 refine PyProof.Rows.tail_any (ops:=[.ref l,.ref s2.heap.objs.size]) ht.isList.typeIs slot_list_getitem.lookup ?_ (by with_unfolding_all rfl)
 refine wpAny_getItem_list_slice ht.isList (Heap.IsSliceOf.new ..) .none .none (.int (-1) ty) (by simp) ?_ (by rw [List.size_toArray];have:=r.length;omega)
 rw [yf]
 refine ⟨.ref _,_,I4.laid (t':=s2.toks) (o:=.lst xs.reverse) (fun b ob q=>Heap.get?_push_of_some _ q) (Nat.le_refl _) ?_,rfl,q _ (I4.hok.fresh (Nat.le_refl _))⟩
 refine ⟨by rw [List.length_reverse];exact hz,its.reverse,0,?_,Heap.get?_push_size _ rfl⟩
 exact o9 r
end
end Fg
end
section
namespace Fg
open PySem PySem.Spec L2
structure Gm where
 fns:List (Str×Nat×Nat)
 cst:List (Str×Nat)
 jY:List Str
 cls:List (Str×Nat×Nat×Nat):=[]
 DW:List ((Nat×Str)×Nat×Nat):=[]
 CJ:List Str:=[]
 exc:List (Str×Nat):=[]
 El:List (Str×Nat×Nat×Int):=[]
 rz:Bool:=true
inductive Nd where
 | e (a:Expr) (c:E)
 | t (a:Expr) (c:E)
 | es (a:List Expr) (c:Es)
 | o (a:Option Expr) (c:O)
 | i (a:Expr) (c:Src)
 | s (a:Stmt) (c:S)
 | ss (a:List Stmt) (c:Ss)
 | m (a:List Expr) (c:Es)
noncomputable def nD (x:Str):Bool:=!(x == ("__debug__" : Str))&&!(x == ("__classdict__" : Str))
noncomputable def Ey (sc:Scope) (x:Str):Bool:=match sc.names.lookup x with | some .local=>true | some .cell=>true | some .free=>true | _=>false
noncomputable def Gz (sc:Scope) (x:Str):Bool:=match sc.names.lookup x with | some .local=>true | some .cell=>true | _=>false
noncomputable def gr (sc:Scope) (x:Str):Bool:=match sc.names.lookup x with | some .globalImplicit=>true | _=>false
noncomputable def bN:Expr->Bool | .Starred _ _=>false | _=>true
noncomputable def mY:Expr->Bool | .ListComp _ _ _ _=>false | .SetComp _ _ _ _=>false | .DictComp _ _ _ _ _=>false | _=>true
noncomputable def yF:Expr->Bool | .Set _ _ _=>false | _=>true
noncomputable def nSl:Expr->Bool | .Slice _ _ _ _=>false | _=>true
noncomputable def rO:Expr->Bool | .UnaryOp _ _ _=>false | .BoolOp _ _ _=>false | .IfExp _ _ _ _=>false | .Compare _ _ _ _=>false | _=>true
noncomputable def yG:Expr->Bool | .Call (.Name _ _) _ _ _=>false | _=>true
noncomputable def HP:Const->D->Bool
 | .int i,.int j=>decide (i=j)
 | .str x,.str y=>decide (x=y)
 | .bool a,.bl b=>decide (a=b)
 | .none,.aq=>true
 | _,_=>false
noncomputable def f1S:F1->Str
 | .abs=>"abs" | .int=>"int"
noncomputable def DX:Mt->Option Str
 | .pop=>some "pop" | .reverse=>some "reverse" | _=>none
noncomputable def LC:Bl->Option Str
 | .len=>some "len" | .tuple=>some "tuple" | .list=>some "list" | _=>none
noncomputable def xZ (scope sc:Scope):Scope :=
 { scope with names:=scope.names.map fun (n,k)=>if (k == .free&&sc.kind == .function&&sc.names.lookup n == some .cell) then (n,.cell) else (n,k) }
noncomputable def Cp (sc:Scope) (x:Str):Bool:=match sc.names.lookup x with | some .local=>true | _=>false
theorem aO {P:Prop} (h:false=true):P:=Bool.noConfusion h
@[irreducible] noncomputable def gZ (a:Expr) (k:Str->Bool):Bool:=match a with | .Name x _=>k x | _=>false
theorem cN {a:Expr} {k:Str->Bool} (h:gZ a k=true):∃ x p,a=.Name x p/\k x=true:=by
 unfold gZ at h
 cases a <;> first | exact ⟨_,_,rfl,h⟩ | exact aO h
@[irreducible] noncomputable def kNm (a:Expr) (k:Str->Pos->Bool):Bool:=match a with | .Name x p=>k x p | _=>false
theorem KD {a:Expr} {k:Str->Pos->Bool} (h:kNm a k=true):∃ x p,a=.Name x p/\k x p=true:=by
 unfold kNm at h
 cases a <;> first | exact ⟨_,_,rfl,h⟩ | exact aO h
@[irreducible] noncomputable def G7 (a:Expr) (k:Const->Bool):Bool:=match a with | .Constant c _ _=>k c | _=>false
theorem G6 {a:Expr} {k:Const->Bool} (h:G7 a k=true):∃ c j p,a=.Constant c j p/\k c=true:=by
 unfold G7 at h
 cases a <;> first | exact ⟨_,_,_,rfl,h⟩ | exact aO h
@[irreducible] noncomputable def ze (a:Expr) (k:List Expr->Bool):Bool:=match a with | .Tuple as _ _=>k as | _=>false
theorem lB {a:Expr} {k:List Expr->Bool} (h:ze a k=true):∃ as c p,a=.Tuple as c p/\k as=true:=by
 unfold ze at h
 cases a <;> first | exact ⟨_,_,_,rfl,h⟩ | exact aO h
@[irreducible] noncomputable def GY (a:Expr) (k:List Expr->Bool):Bool:=match a with | .List as _=>k as | _=>false
theorem GW {a:Expr} {k:List Expr->Bool} (h:GY a k=true):∃ as p,a=.List as p/\k as=true:=by
 unfold GY at h
 cases a <;> first | exact ⟨_,_,rfl,h⟩ | exact aO h
@[irreducible] noncomputable def zg (a:Expr):Bool:=match a with | .Dict as bs _=>as.isEmpty&&bs.isEmpty | _=>false
theorem Cw {a:Expr} (h:zg a=true):∃ p,a=.Dict [] [] p:=by
 unfold zg at h
 cases a with
 | Dict as bs p =>
  cases as with
  | nil=>cases bs with
   | nil=>exact ⟨_,rfl⟩
   | cons _ _=>exact aO h
  | cons _ _=>exact aO h
 | _=>exact aO h
@[irreducible] noncomputable def G9 (a:Expr) (k:Expr->Operator->Expr->Bool):Bool:=match a with | .BinOp l p r _=>k l p r | _=>false
theorem G8 {a:Expr} {k:Expr->Operator->Expr->Bool} (h:G9 a k=true):∃ l o r p,a=.BinOp l o r p/\k l o r=true:=by
 unfold G9 at h
 cases a <;> first | exact ⟨_,_,_,_,rfl,h⟩ | exact aO h
@[irreducible] noncomputable def rY:UnaryOp->Bool | .USub=>true | _=>false
@[irreducible] noncomputable def uK:UnaryOp->Bool | .Not=>true | _=>false
@[irreducible] noncomputable def KA (a:Expr) (k:UnaryOp->Expr->Bool):Bool:=match a with | .UnaryOp o l _=>k o l | _=>false
theorem zd {a:Expr} {k:UnaryOp->Expr->Bool} (h:KA a k=true):∃ o l p,a=.UnaryOp o l p/\k o l=true:=by
 unfold KA at h
 cases a <;> first | exact ⟨_,_,_,rfl,h⟩ | exact aO h
theorem zu {o:UnaryOp} (h:rY o=true):o=.USub:=by
 unfold rY at h
 cases o <;> first | rfl | exact aO h
theorem uJ {o:UnaryOp} (h:uK o=true):o=.Not:=by
 unfold uK at h
 cases o <;> first | rfl | exact aO h
@[irreducible] noncomputable def jC:BoolOp->Bool | .And=>true | .Or=>false
theorem uL {o:BoolOp} (h:jC o=true):o=.And:=by
 unfold jC at h
 cases o <;> first | rfl | exact aO h
theorem zv {o:BoolOp} (h:jC o=false):o=.Or:=by
 unfold jC at h
 cases o <;> first | rfl | cases h
@[irreducible] noncomputable def IA (a:Expr) (k:BoolOp->Expr->Expr->Bool):Bool:=match a with
 | .BoolOp o vs p=>(match vs with
  | v::ws=>(match ws with
   | w::r=>k o v (.BoolOp o (w::r) p)
   | []=>false)
  | []=>false)
 | _=>false
theorem uF {a:Expr} {k:BoolOp->Expr->Expr->Bool} (h:IA a k=true):∃ o v w r p,a=.BoolOp o (v::w::r) p/\k o v (.BoolOp o (w::r) p)=true:=by
 unfold IA at h
 cases a with
 | BoolOp o vs p =>
  cases vs with
  | nil=>exact aO h
  | cons v ws=>cases ws with
   | nil=>exact aO h
   | cons w r=>exact ⟨_,_,_,_,_,rfl,h⟩
 | _=>exact aO h
@[irreducible] noncomputable def uv (a:Expr) (k:Expr->Bool) (d:Bool):Bool:=match a with
 | .BoolOp _ vs _=>(match vs with
  | v::ws=>(match ws with
   | []=>k v
   | _::_=>d)
  | []=>d)
 | _=>d
theorem uu {a:Expr} {k:Expr->Bool} {d:Bool} (h:uv a k d=true):(∃ o v p,a=.BoolOp o [v] p/\k v=true)\/d=true:=by
 unfold uv at h
 cases a with
 | BoolOp o vs p =>
  cases vs with
  | nil=>exact .inr h
  | cons v ws=>cases ws with
   | nil=>exact .inl ⟨_,_,_,rfl,h⟩
   | cons w r=>exact .inr h
 | _=>exact .inr h
@[irreducible] noncomputable def k1 {α:Type} (as:List α) (k:α->Bool):Bool:=match as with | l::r=>r.isEmpty&&k l | []=>false
theorem ir {α:Type} {as:List α} {k:α->Bool} (h:k1 as k=true):∃ l,as=[l]/\k l=true:=by
 unfold k1 at h
 cases as with
 | nil=>exact aO h
 | cons l r=>cases r with
  | nil=>exact ⟨_,rfl,h⟩
  | cons _ _=>exact aO h
@[irreducible] noncomputable def k2 {α:Type} (as:List α) (k:α->α->Bool):Bool:=match as with | l::r=>k1 r (k l) | []=>false
theorem CA {α:Type} {as:List α} {k:α->α->Bool} (h:k2 as k=true):∃ l r,as=[l,r]/\k l r=true:=by
 unfold k2 at h
 cases as with
 | nil=>exact aO h
 | cons l r =>
  replace h:=ir h
  obtain ⟨x,rfl,h⟩:=h
  exact ⟨_,_,rfl,h⟩
@[irreducible] noncomputable def Cy (a:Expr) (k:Expr->CmpOp->Expr->Bool):Bool:=match a with | .Compare l ps rs _=>k1 ps fun p=>k1 rs fun r=>k l p r | _=>false
theorem zh {a:Expr} {k:Expr->CmpOp->Expr->Bool} (h:Cy a k=true):∃ l o r p,a=.Compare l [o] [r] p/\k l o r=true:=by
 unfold Cy at h
 cases a with
 | Compare l ps rs p =>
  replace h:=ir h
  obtain ⟨o,rfl,h⟩:=h
  replace h:=ir h
  obtain ⟨r,rfl,h⟩:=h
  exact ⟨_,_,_,_,rfl,h⟩
 | _=>exact aO h
@[irreducible] noncomputable def G2 (a:Expr) (k:Expr->Expr->Expr->Bool):Bool:=match a with | .IfExp u l r _=>k u l r | _=>false
theorem G1 {a:Expr} {k:Expr->Expr->Expr->Bool} (h:G2 a k=true):∃ u l r p,a=.IfExp u l r p/\k u l r=true:=by
 unfold G2 at h
 cases a <;> first | exact ⟨_,_,_,_,rfl,h⟩ | exact aO h
@[irreducible] noncomputable def wc (a:Expr) (k:Expr->Expr->Bool):Bool:=match a with | .Subscript l r _=>k l r | _=>false
theorem nW {a:Expr} {k:Expr->Expr->Bool} (h:wc a k=true):∃ l r p,a=.Subscript l r p/\k l r=true:=by
 unfold wc at h
 cases a <;> first | exact ⟨_,_,_,rfl,h⟩ | exact aO h
@[irreducible] noncomputable def kRv (a:Expr) (k:Expr->Bool):Bool:=match a with | .Slice none none (some u) _=>k u | _=>false
theorem KC {a:Expr} {k:Expr->Bool} (h:kRv a k=true):∃ u p,a=.Slice none none (some u) p/\k u=true:=by
 unfold kRv at h
 split at h
 ·exact ⟨_,_,rfl,h⟩
 ·cases h
@[irreducible] noncomputable def GL (a:Expr) (k:Option Expr->Option Expr->Bool):Bool:=match a with | .Slice u v s _=>s.isNone&&k u v | _=>false
theorem GK {a:Expr} {k:Option Expr->Option Expr->Bool} (h:GL a k=true):∃ u v p,a=.Slice u v none p/\k u v=true:=by
 unfold GL at h
 cases a with
 | Slice u v s p=>cases s with
  | none=>exact ⟨_,_,_,rfl,h⟩
  | some _=>exact aO h
 | _=>exact aO h
@[irreducible] noncomputable def Cz (a:Expr) (k:Expr->List Expr->Pos->Bool):Bool:=match a with | .Call f as kw p=>kw.isEmpty&&k f as p | _=>false
theorem zj {a:Expr} {k:Expr->List Expr->Pos->Bool} (h:Cz a k=true):∃ f as p,a=.Call f as [] p/\k f as p=true:=by
 unfold Cz at h
 cases a with
 | Call f as kw p=>cases kw with
  | nil=>exact ⟨_,_,_,rfl,h⟩
  | cons _ _=>exact aO h
 | _=>exact aO h
@[irreducible] noncomputable def rW (a:Expr) (k:Str->List Expr->Bool):Bool:=Cz a fun f as _=>gZ f fun x=>k x as
theorem d8 {a:Expr} {k:Str->List Expr->Bool} (h:rW a k=true):∃ x q as p,a=.Call (.Name x q) as [] p/\k x as=true:=by
 unfold rW at h
 replace h:=zj h
 obtain ⟨f,as,p,rfl,h⟩:=h
 replace h:=cN h
 obtain ⟨x,q,rfl,h⟩:=h
 exact ⟨_,_,_,_,rfl,h⟩
@[irreducible] noncomputable def zk (a:Expr) (k:Expr->Str->Pos->Bool):Bool:=match a with | .Attribute o y p=>k o y p | _=>false
theorem rX {a:Expr} {k:Expr->Str->Pos->Bool} (h:zk a k=true):∃ o y p,a=.Attribute o y p/\k o y p=true:=by
 unfold zk at h
 cases a <;> first | exact ⟨_,_,_,rfl,h⟩ | exact aO h
@[irreducible] noncomputable def Ml (a:Expr) (k:Expr->Str->Pos->List Expr->Pos->Bool):Bool:=Cz a fun f as p=>zk f fun o y q=>k o y q as p
theorem D5 {a:Expr} {k:Expr->Str->Pos->List Expr->Pos->Bool} (h:Ml a k=true):∃ o y q as p,a=.Call (.Attribute o y q) as [] p/\k o y q as p=true:=by
 unfold Ml at h
 replace h:=zj h
 obtain ⟨f,as,p,rfl,h⟩:=h
 replace h:=rX h
 obtain ⟨o,y,q,rfl,h⟩:=h
 exact ⟨_,_,_,_,_,rfl,h⟩
@[irreducible] noncomputable def Mj (a:Expr) (k:Expr->Expr->Expr->List Expr->Scope->Pos->Bool):Bool:=match a with
 | .ListComp el gs scope p=>k1 gs fun g=>decide (g.is_async=0)&&k el g.target g.iter g.ifs scope p
 | _=>false
theorem D4 {a:Expr} {k:Expr->Expr->Expr->List Expr->Scope->Pos->Bool} (h:Mj a k=true):∃ el tn it ifs sc p,a=.ListComp el [⟨tn,it,ifs,0⟩] sc p/\k el tn it ifs sc p=true:=by
 unfold Mj at h
 cases a with
 | ListComp el gs sc p =>
  replace h:=ir h
  obtain ⟨g,rfl,h⟩:=h
  obtain ⟨tn,it,ifs,j⟩:=g
  have h:=(Bool.and_eq_true _ _).mp h
  have e:j=0:=of_decide_eq_true h.1
  subst e
  exact ⟨_,_,_,_,_,_,rfl,h.2⟩
 | _=>exact aO h
@[irreducible] noncomputable def GV (a:Expr) (d:Bool) (k:List Expr->Bool):Bool:=match a with
 | .Constant c _ _=>(match c with | .str _=>d | _=>false)
 | .JoinedStr vs _=>k vs
 | _=>false
theorem GU {a:Expr} {d:Bool} {k:List Expr->Bool} (h:GV a d k=true):(∃ x j p,a=.Constant (.str x) j p/\d=true)\/∃ vs p,a=.JoinedStr vs p/\k vs=true:=by
 unfold GV at h
 cases a with
 | Constant c j p=>cases c with
  | str x=>exact .inl ⟨_,_,_,rfl,h⟩
  | _=>exact aO h
 | JoinedStr vs p=>exact .inr ⟨_,_,rfl,h⟩
 | _=>exact aO h
@[irreducible] noncomputable def GS (a:Expr) (s:Str->Bool) (k:Expr->Int->Bool):Bool:=match a with
 | .Constant c _ _=>(match c with | .str y=>s y | _=>false)
 | .FormattedValue v j f _=>f.isNone&&k v j
 | _=>false
theorem GR {a:Expr} {s:Str->Bool} {k:Expr->Int->Bool} (h:GS a s k=true):(∃ y j p,a=.Constant (.str y) j p/\s y=true)\/∃ v j p,a=.FormattedValue v j none p/\k v j=true:=by
 unfold GS at h
 cases a with
 | Constant c j p=>cases c with
  | str x=>exact .inl ⟨_,_,_,rfl,h⟩
  | _=>exact aO h
 | FormattedValue v j f p=>cases f with
  | none=>exact .inr ⟨_,_,_,rfl,h⟩
  | some _=>exact aO h
 | _=>exact aO h
@[irreducible] noncomputable def we (a:Stmt) (k:Expr->Expr->Bool):Bool:=match a with | .Assign ts e _=>k1 ts fun t=>k t e | _=>false
theorem nX {a:Stmt} {k:Expr->Expr->Bool} (h:we a k=true):∃ t e p,a=.Assign [t] e p/\k t e=true:=by
 unfold we at h
 cases a with
 | Assign ts e p =>
  replace h:=ir h
  obtain ⟨t,rfl,h⟩:=h
  exact ⟨_,_,_,rfl,h⟩
 | _=>exact aO h
@[irreducible] noncomputable def G5 (a:Stmt) (k:Expr->Bool):Bool:=match a with | .Expr e _=>k e | _=>false
theorem G4 {a:Stmt} {k:Expr->Bool} (h:G5 a k=true):∃ e p,a=.Expr e p/\k e=true:=by
 unfold G5 at h
 cases a <;> first | exact ⟨_,_,rfl,h⟩ | exact aO h
@[irreducible] noncomputable def GO (a:Stmt) (d:Bool) (k:Expr->Bool):Bool:=match a with
 | .Return o _=>(match o with | some e=>k e | none=>d)
 | _=>false
theorem GN {a:Stmt} {d:Bool} {k:Expr->Bool} (h:GO a d k=true):(∃ p,a=.Return none p/\d=true)\/∃ e p,a=.Return (some e) p/\k e=true:=by
 unfold GO at h
 cases a with
 | Return o p=>cases o with
  | none=>exact .inl ⟨_,rfl,h⟩
  | some e=>exact .inr ⟨_,_,rfl,h⟩
 | _=>exact aO h
@[irreducible] noncomputable def G0 (a:Stmt) (k:Expr->List Stmt->List Stmt->Bool):Bool:=match a with | .If t l r _=>k t l r | _=>false
theorem GZ {a:Stmt} {k:Expr->List Stmt->List Stmt->Bool} (h:G0 a k=true):∃ t l r p,a=.If t l r p/\k t l r=true:=by
 unfold G0 at h
 cases a <;> first | exact ⟨_,_,_,_,rfl,h⟩ | exact aO h
@[irreducible] noncomputable def kFor (a:Stmt) (k:Expr->Expr->List Stmt->Bool):Bool:=match a with | .For t i b e _=>e.isEmpty&&k t i b | _=>false
theorem G3 {a:Stmt} {k:Expr->Expr->List Stmt->Bool} (h:kFor a k=true):∃ t i b p,a=.For t i b [] p/\k t i b=true:=by
 unfold kFor at h
 cases a with
 | For t i b e p=>cases e with
  | nil=>exact ⟨_,_,_,_,rfl,h⟩
  | cons _ _=>exact aO h
 | _=>exact aO h
@[irreducible] noncomputable def kWh (a:Stmt) (k:Expr->List Stmt->Bool):Bool:=match a with | .While t b e _=>e.isEmpty&&k t b | _=>false
theorem Kz {a:Stmt} {k:Expr->List Stmt->Bool} (h:kWh a k=true):∃ t b p,a=.While t b [] p/\k t b=true:=by
 unfold kWh at h
 cases a with
 | While t b e p=>cases e with
  | nil=>exact ⟨_,_,_,rfl,h⟩
  | cons _ _=>exact aO h
 | _=>exact aO h
@[irreducible] noncomputable def GQ (a:Stmt) (k:Expr->Bool):Bool:=match a with
 | .Raise o c _=>c.isNone&&(match o with | some e=>k e | none=>false)
 | _=>false
theorem GP {a:Stmt} {k:Expr->Bool} (h:GQ a k=true):∃ e p,a=.Raise (some e) none p/\k e=true:=by
 unfold GQ at h
 cases a with
 | Raise o c p=>cases c with
  | none=>cases o with
   | none=>exact aO h
   | some e=>exact ⟨_,_,rfl,h⟩
  | some _=>exact aO h
 | _=>exact aO h
@[irreducible] noncomputable def nj:Es->Bool | .nil=>true | .cons _ _=>false
theorem iV {c:Es} (h:nj c=true):c=.nil:=by
 unfold nj at h
 cases c <;> first | rfl | exact aO h
@[irreducible] noncomputable def xH:Ss->Bool | .nil=>true | .cons _ _=>false
theorem AX {c:Ss} (h:xH c=true):c=.nil:=by
 unfold xH at h
 cases c <;> first | rfl | exact aO h
@[irreducible] noncomputable def Mm (c:Es) (k:E->Es->Bool):Bool:=match c with | .cons e es=>k e es | .nil=>false
theorem zl {c:Es} {k:E->Es->Bool} (h:Mm c k=true):∃ e es,c=.cons e es/\k e es=true:=by
 unfold Mm at h
 cases c <;> first | exact ⟨_,_,rfl,h⟩ | exact aO h
@[irreducible] noncomputable def jSs (c:Ss) (k:S->Ss->Bool):Bool:=match c with | .cons e es=>k e es | .nil=>false
theorem KG {c:Ss} {k:S->Ss->Bool} (h:jSs c k=true):∃ e es,c=.cons e es/\k e es=true:=by
 unfold jSs at h
 cases c <;> first | exact ⟨_,_,rfl,h⟩ | exact aO h
@[irreducible] noncomputable def zm (c:E) (k:List Nat->List Nat->E->Src->O->Bool) (d:Bool):Bool:=match c with | .comp _ caps tg elt it cond=>k caps tg elt it cond | _=>d
theorem CB {c:E} {k:List Nat->List Nat->E->Src->O->Bool} {d:Bool} (h:zm c k d=true):(∃ fz caps tg elt it cond,c=.comp fz caps tg elt it cond/\k caps tg elt it cond=true)\/d=true:=by
 unfold zm at h
 cases c <;> first | exact .inl ⟨_,_,_,_,_,_,rfl,h⟩ | exact .inr h
noncomputable def Km (N:List Str) (sc:Scope) (i:Nat) (x:Str):Bool:=decide (N[i]? = some x)&&Cp sc x
noncomputable def Cd (N:List Str) (sc:Scope):List Expr->List Nat->Bool
 | [],[]=>true
 | a::as,i::is=>gZ a (fun x=>Km N sc i x)&&Cd N sc as is
 | _,_=>false
noncomputable def IT (N:List Str) (sc:Scope) (t:Expr) (is:List Nat):Bool:=match is with
 | []=>false
 | i::r=>match r with
  | []=>gZ t fun x=>Km N sc i x
  | j::r=>match r with
   | []=>ze t fun as=>k2 as fun l r=>gZ l fun x=>gZ r fun y=>Km N sc i x&&Km N sc j y
   | l::r=>ze t fun as=>Cd N sc as (i::j::l::r)
noncomputable def Mn:Src->Bool | .zip _ _=>true | _=>false
noncomputable def isTup:Expr->Bool | .Tuple _ _ _=>true | _=>false
noncomputable def KI:Expr->Bool | .Call _ _ _ _=>true | .Name _ _=>true | .Subscript _ _ _=>true | _=>false
noncomputable def fS (N:List Str) (caps:List Nat) (tn:List Str):List Str:=(caps.map fun i=>(N[i]?).getD ("" : Str))++tn
noncomputable def nmOf:Expr->Str
 | .Name x _=>x
 | _=>""
noncomputable def cT:Expr->List Str
 | .Name x _=>[x]
 | .Tuple as _ _=>as.map nmOf
 | _=>[]
noncomputable def Ae (N:List Str) (sc scope:Scope) (caps:List Nat) (tn:List Str):Bool :=
 (scope.names.all fun y=>match y.2 with
  | .free=>(match sc.names.lookup y.1 with | some .cell=>true | some .free=>true | _=>false)
  | .cell=>false
  | .local=>(match scope.names.lookup y.1 with | some .local=>true | _=>false)
  | _=>true)&&(scope.kind == .function) &&
 (caps.all fun i=>match N[i]? with
  | some x=>(match scope.names.lookup x with | some .free=>true | _=>false)
  | none=>false)&&decide ((fS N caps tn).Nodup)
noncomputable def xD (sc scope:Scope) (x:Str) (px pv:Pos):Bool :=
 ((if sc.kind.isAnnotationScope then .function else sc.kind) == .function)&&sc.names.lookup x == some .local&&px.line == pv.line&&!(scope.names.any fun (n,k)=>n == x&&(k == .local||k == .cell))
noncomputable abbrev Rec:=Gm->Bool->List Str->Scope->Nd->Bool
noncomputable def ifsB (ifs:List Expr) (cond:O) (k:Expr->E->Bool):Bool:=match cond with
 | .none=>ifs.isEmpty
 | .some d=>k1 ifs fun c=>k c d
noncomputable def Mg (r:Rec) (G:Gm) (b:Bool) (N:List Str) (sc:Scope) (caps tg:List Nat) (elt:E) (it:Src) (cond:O) (el tn iter:Expr) (ifs:List Expr) (scope:Scope):Bool :=
 (!Mn it||isTup tn)&&yF iter&&Ae N sc scope caps (cT tn)&&r G b N sc (.i iter it) &&
  IT (fS N caps (cT tn)) (xZ scope sc) tn tg&&r G true (fS N caps (cT tn)) (xZ scope sc) (.e el elt) &&
  ifsB ifs cond fun c d=>r G true (fS N caps (cT tn)) (xZ scope sc) (.t c d)
noncomputable def KH:Mt->Bool | .append=>true | .extend=>true | _=>false
noncomputable def Kr:Mt->Str | .append=>"append" | _=>"extend"
noncomputable def chkE (r:Rec) (G:Gm) (b:Bool) (N:List Str) (sc:Scope) (a:Expr) (c:E):Bool:=match c with
 | .bad=>true
 | .v i=>gZ a fun x=>decide (N[i]? = some x)&&Ey sc x&&nD x
 | .k d=>G7 a fun k=>HP k d
 | .g i=>gZ a fun x=>gr sc x&&decide (G.cst.lookup x=some i)&&nD x
 | .tup cs=>ze a fun as=>decide (as.length<=100)&&r G b N sc (.es as cs)
 | .lst _ cs=>GY a fun as=>decide (as.length<=100)&&r G b N sc (.es as cs)
 | .sJ=>zg a
 | .op o _ x y=>G9 a fun l p q=>decide (p=binOp o)&&r G b N sc (.e l x)&&r G b N sc (.e q y)
 | .neg x=>KA a fun o l=>rY o&&r G b N sc (.e l x)
 | .not x=>KA a fun o l=>uK o&&r G b N sc (.e l x)
 | .and x y=>IA a fun o v w=>jC o&&r G b N sc (.e v x)&&r G b N sc (.e w y)
 | .or x y=>IA a fun o v w=>!jC o&&r G b N sc (.e v x)&&r G b N sc (.e w y)
 | .cmp o x y=>Cy a fun l p q=>decide (p=Af o)&&!(behindInMarks p q)&&r G b N sc (.e l x)&&r G b N sc (.e q y)
 | .w9 t x y=>G2 a fun u l q=>r G b N sc (.t u t)&&r G b N sc (.e l x)&&r G b N sc (.e q y)
 | .idx x y=>wc a fun l q=>nSl q&&r G b N sc (.e l x)&&r G b N sc (.e q y)
 | .sl _ x lo hi=>wc a fun l q=>GL q fun u v=>r G b N sc (.e l x)&&r G b N sc (.o u lo)&&r G b N sc (.o v hi)
 | .call f cs=>rW a fun x as=>gr sc x&&nD x&&decide (G.fns.lookup x=some (f,as.length))&&as.all bN&&r G b N sc (.es as cs)
 | .jL f cs d=>rW a fun x as=>gr sc x&&nD x&&decide (G.El.lookup x=some (f,as.length+1,d))&&!as.isEmpty&&as.all bN&&r G b N sc (.es as cs)
 | .uI x t=>rW a fun y as=>k2 as fun l z'=>gZ z' fun z=>decide (y = "isinstance")&&decide (z=Str.ofString (pA t))&&gr sc y&&gr sc z&&G.jY.contains y&&G.jY.contains z&&bN l&&r G b N sc (.e l x)
 | .blt k _ cs=>rW a fun y as=>k1 as fun l=>decide (LC k=some y)&&gr sc y&&G.jY.contains y&&bN l&&r G b N sc (.es [l] cs)
 | .aW m _ x cs=>Ml a fun o y ap as cp=>yG o&&(ap.endLine == cp.line)&&r G b N sc (.e o x) &&
  bif KH m then decide (Kr m=y)&&k1 as fun l=>bN l&&r G b N sc (.es [l] cs)
  else decide (DX m=some y)&&as.isEmpty&&nj cs
 | .comp _ caps tg elt it cond=>!b&&Mj a fun el tn iter ifs scope _=>Mg r G b N sc caps tg elt it cond el tn iter ifs scope
 | .fld x f=>zk a fun l y _=>decide (y=f)&&G.CJ.contains f&&yG l&&r G b N sc (.e l x)
 | .dm c m nm x cs=>Ml a fun o y ap as cp=>decide (y=nm)&&yG o&&(ap.endLine == cp.line)&&decide (as.length<29)&&decide (G.DW.lookup (c,nm)=some (m,as.length+1))&&as.all bN&&r G b N sc (.e o x)&&r G b N sc (.es as cs)
 | .new c i cs=>rW a fun x as=>gr sc x&&nD x&&decide (G.cls.lookup x=some (c,i,as.length+1))&&as.all bN&&r G b N sc (.es as cs)
 | .ng f x=>rW a fun y as=>k1 as fun l=>decide (f1S f=y)&&gr sc y&&G.jY.contains y&&bN l&&r G b N sc (.e l x)
 | .yS _ x=>rW a fun z as=>k1 as fun a'=>rW a' fun u as=>k1 as fun l=>decide (z = "list")&&decide (u = "range")&&gr sc z&&gr sc u&&G.jY.contains z&&G.jY.contains u&&bN l&&r G b N sc (.e l x)
 | .rv _ x=>wc a fun l q=>kRv q fun u=>r G b N sc (.e l x)&&r G b N sc (.e u (.neg (.k (.int 1))))
 | .Cm _ x y=>rW a fun z as=>k1 as fun a'=>rW a' fun u as=>k2 as fun l q=>decide (z = "list")&&decide (u = "range")&&gr sc z&&gr sc u&&G.jY.contains z&&G.jY.contains u&&bN l&&bN q&&r G b N sc (.e l x)&&r G b N sc (.e q y)
 | _=>false
noncomputable def chkT (r:Rec) (G:Gm) (b:Bool) (N:List Str) (sc:Scope) (a:Expr) (c:E):Bool:=match c with
 | .bad=>true
 | .cmp o x y=>Cy a fun l p q=>decide (p=Af o)&&!(behindInMarks p q)&&r G b N sc (.e l x)&&r G b N sc (.e q y)
 | .not x=>KA a fun o l=>uK o&&r G b N sc (.t l x)
 | .and x y=>IA a fun o v w=>jC o&&r G b N sc (.t v x)&&r G b N sc (.t w y)
 | .or x y=>IA a fun o v w=>!jC o&&r G b N sc (.t v x)&&r G b N sc (.t w y)
 | c=>rO a&&r G b N sc (.e a c)
noncomputable def chkI (r:Rec) (G:Gm) (b:Bool) (N:List Str) (sc:Scope) (a:Expr) (c:Src):Bool:=match c with
 | .e c=>yF a&&r G b N sc (.e a c)
 | .cR c=>rW a fun y as=>k1 as fun l=>decide (y = "range")&&gr sc y&&G.jY.contains y&&bN l&&r G b N sc (.e l c)
 | .rev c=>rW a fun y as=>k1 as fun l=>decide (y = "reversed")&&gr sc y&&G.jY.contains y&&bN l&&r G b N sc (.e l c)
 | _=>false
noncomputable def chkS (r:Rec) (G:Gm) (b:Bool) (N:List Str) (sc:Scope) (a:Stmt) (c:S):Bool:=match c with
 | .bad=>true
 | .set i c=>we a fun t e=>kNm t fun x px=>!b&&decide (N[i]? = some x)&&Gz sc x&&zm c (fun caps tg elt it cond=>Mj e fun el tn iter ifs scope lp =>
    bif xD sc scope x px lp then Mg r G b N sc caps tg elt it cond el tn iter ifs scope&&Cp sc x else r G b N sc (.e e c)) (mY e&&r G b N sc (.e e c))
 | .mh x y c=>we a fun t e=>wc t fun o i=>mY e&&r G b N sc (.e e c)&&r G b N sc (.e o x)&&r G b N sc (.e i y)
 | .tu tg c=>we a fun tn e=>!b&&isTup tn&&IT N sc tn tg&&KI e&&r G b N sc (.e e c)
 | .bP x f c=>we a fun t e=>zk t fun o y _=>decide (y=f)&&G.CJ.contains f&&mY e&&r G b N sc (.e e c)&&r G b N sc (.e o x)
 | .ex c=>G5 a fun e=>mY e&&r G b N sc (.e e c)
 | .ret c=>GO a false fun e=>r G b N sc (.e e c)
 | .ifs c x y=>G0 a fun t l q=>r G b N sc (.t t c)&&r G b N sc (.ss l x)&&r G b N sc (.ss q y)
 | .for tg it x=>kFor a fun tn iter body=>!b&&(!Mn it||isTup tn)&&yF iter&&r G b N sc (.i iter it)&&IT N sc tn tg&&r G b N sc (.ss body x)
 | .while c x=>kWh a fun t body=>r G b N sc (.t t c)&&r G b N sc (.ss body x)
 | .raise c es=>!b&&G.rz&&GQ a fun e=>rW e fun x as=>k1 as fun m=>gr sc x&&nD x&&decide (G.exc.lookup x=some c) &&
   GV m (nj es) fun vs=>decide (2<=vs.length)&&decide (vs.length<=100)&&r G b N sc (.m vs es)
 | _=>false
noncomputable def stp (r:Rec) (G:Gm) (b:Bool) (N:List Str) (sc:Scope) (nd:Nd):Bool:=match nd with
 | .e a c=>uv a (fun v=>r G b N sc (.e v c)) (chkE r G b N sc a c)
 | .t a c=>uv a (fun v=>r G b N sc (.t v c)) (chkT r G b N sc a c)
 | .es as cs=>(match as with
  | []=>nj cs
  | a::as=>Mm cs fun c cs=>bN a&&r G b N sc (.e a c)&&r G b N sc (.es as cs))
 | .o a c=>(match c with
  | .none=>a.isNone
  | .some c=>(match a with
   | some a=>r G b N sc (.e a c)
   | none=>false))
 | .i a c=>chkI r G b N sc a c
 | .s a c=>chkS r G b N sc a c
 | .ss as cs=>(match as with
  | []=>xH cs
  | a::as=>jSs cs fun c cs=>r G b N sc (.s a c)&&r G b N sc (.ss as cs))
 | .m as cs=>(match as with
  | []=>nj cs
  | a::as=>GS a (fun y=>decide (y.length<=100000)&&r G b N sc (.m as cs)) fun v k=>Mm cs fun e es=>decide (k=-1)&&r G b N sc (.e v e)&&r G b N sc (.m as es))
noncomputable def HR:Nat->Rec
 | 0=>fun _ _ _ _ _=>false
 | n+1=>stp (HR n)
noncomputable abbrev iE (G:Gm) (n:Nat) (b:Bool) (N:List Str) (sc:Scope) (nd:Nd):Bool:=HR n G b N sc nd
end Fg
end
section
namespace Fg
open PySem PySem.Spec L2
section
variable {X:Cx}
theorem PE.weak {e:Expr} {t t':TE} (h:PE X e t) (w:∀ Z H Q,t' Z H Q->t Z H Q):PE X e t':=fun pins s Z H Q I q=>h pins s Z H Q I (w Z H Q q)
theorem PT.weak {e:Expr} {t t':TT} (h:PT X e t) (w:∀ Z H Q,t' Z H Q->t Z H Q):PT X e t':=fun pins s Z H Q I q=>h pins s Z H Q I (w Z H Q q)
theorem PW.weak {e:Expr} {t t':TT} (h:PW X e t) (w:∀ Z H Q,t' Z H Q->t Z H Q):PW X e t':=fun wh pins s Z H Q I q=>h wh pins s Z H Q I (w Z H Q q)
theorem PA.weak {e:List Expr} {t t':TA} (h:PA X e t) (w:∀ Z H Q,t' Z H Q->t Z H Q):PA X e t':=fun pos pins s Z H Q I q=>h pos pins s Z H Q I (w Z H Q q)
theorem PO.weak {e:Option Expr} {t t':TO} (h:PO X e t) (w:∀ Z H Q,t' Z H Q->t Z H Q):PO X e t':=fun pins s Z H Q I q=>h pins s Z H Q I (w Z H Q q)
theorem PI.weak {tg e:Expr} {t t':TI} (h:PI X tg e t) (w:∀ Z H Q,t' Z H Q->t Z H Q):PI X tg e t':=fun pins s Z H Q I q=>h pins s Z H Q I (w Z H Q q)
theorem PS.weak {e:Stmt} {t t':TS} (h:PS X e t) (w:∀ D Z H,t' D Z H->t D Z H):PS X e t':=fun pins s Z H D I q=>h pins s Z H D I (w D Z H q)
theorem o5.weak {e:List Stmt} {t t':TS} (h:o5 X e t) (w:∀ D Z H,t' D Z H->t D Z H):o5 X e t':=fun pins s Z H D I q=>h pins s Z H D I (w D Z H q)
end
theorem au {e:Expr} {es:List Expr} {env:Env} (h:bN e=true):starEach (e::es) env=(false,eval e env)::starEach es env:=by
 cases e <;> first | rfl | (simp [bN] at h)
theorem dX {env:Env} {pos:Pos}:∀ {es:List Expr},es.all bN=true->(backTo pos (starEach es env)).any (·.1)=false
 | [],_=>rfl
 | e::es,h=>by
  simp only [List.all_cons,Bool.and_eq_true] at h
  rw [au h.1]
  have:=dX (env:=env) (pos:=pos) h.2
  simpa [backTo] using this
theorem pD {env:Env} {pos:Pos}:∀ {es:List Expr},es.all bN=true->(backTo pos (starEach es env)).all (fun x=>!x.1)=true
 | [],_=>rfl
 | e::es,h=>by
  simp only [List.all_cons,Bool.and_eq_true] at h
  rw [au h.1]
  have:=pD (env:=env) (pos:=pos) h.2
  simpa [backTo] using this
theorem m7 {o:Expr} {name:Str} {apos pos:Pos} {args:List Expr} {env:Env} (hbase:attributeBase o name env (eval o env)=eval o env) (hst:args.all bN=true) (hl:args.length<29) (hline:(apos.endLine == pos.line)=true) :
  eval (.Call (.Attribute o name apos) args [] pos) env=(do
   let ov <- eval o env
   standAt apos.atName
   let (f,first) <- holding [ov] (getMethod ov name (do return (<- importBound o env).getD true))
   callWith pos f first (backTo pos (starEach args env)) (backToKw pos (keywordEach [] env))):=by
 have KR:methodCallForm (args.length+([]:List Keyword).length) (backTo pos (starEach args env)) (backToKw pos (keywordEach [] env))=true:=by
  unfold methodCallForm
  rw [pD hst]
  simp [backToKw,keywordEach]
  omega
 have hpos:methodCallPos true o env apos pos=pure pos:=by unfold methodCallPos;simp [hline]
 rw [arm_eval_Call,hbase]
 unfold methodCall
 rw [KR]
 simp only [hpos]
 rfl
theorem set_plain {e:Expr} {env:Env} (h:yF e=true):∀ x,foldedSetIterable e env x=pure x:=by
 intro x;cases e <;> first | rfl | (simp [yF] at h)
theorem xK {e:Expr} (h:nSl e=true):vv e:=by
 intro o i;cases e <;> first | rfl | (simp [nSl] at h)
theorem kh {e:Expr} {t:Option Expr} {l:Nat} {env:Env} (h:mY e=true):swapsWith e t l env=pure false:=by
 cases e <;> first | rfl | (simp [mY] at h)
theorem vE {e:Expr} {env:Env} (h:rO e=true):∀ whole,isTrue e env whole=(do let v <- whole;standAt e.pos;holding [v] (truthy v)):=by
 intro w;cases e <;> first | rfl | (simp [rO] at h)
theorem bM {e:Expr} {n:Str} {env:Env} (h:yG e=true):attributeBase e n env (eval e env)=eval e env:=by
 cases e <;> first | rfl | (rename_i f _ _ _;cases f <;> first | rfl | (simp [yG] at h))
theorem boot_tuple:bootBuiltins ("tuple" : Str)=some (.type "tuple"):=by decide +kernel
theorem boot_list:bootBuiltins ("list" : Str)=some (.type "list"):=by decide +kernel
theorem boot_isinstance:bootBuiltins ("isinstance" : Str)=some (.builtin "isinstance"):=by decide +kernel
theorem Df:∀ t:Ty,bootBuiltins (Str.ofString (pA t))=some (.type (pA t)):=by
 intro t;cases t <;> decide +kernel
theorem Du:∀ t:Ty, Str.ofString (pA t)≠("__name__" : Str)/\(Str.ofString (pA t) == ("__debug__" : Str))=false:=by
 intro t;cases t <;> decide
noncomputable def jF:Es->Nat
 | .nil=>0
 | .cons _ es=>jF es+1
theorem bq {Φ:aS}:∀ {es:Es} {Z:Sg} {M:MH} {ds:List D} {M':MH},cG Φ es Z M=.ok ds M'->ds.length=jF es
 | .nil,Z,M,ds,M',h=>by simp only [cG] at h;cases h;rfl
 | .cons e es,Z,M,ds,M',h=>by
  simp only [cG] at h
  cases h1:ev Φ e Z M with
  | ok x M1 =>
   rw [h1] at h
   simp only [R.af] at h
   cases h2:cG Φ es Z M1 with
   | ok xs M2 =>
    rw [h2] at h
    simp only [R.af] at h
    cases h
    simp [jF,bq h2]
   | exc c M2=>rw [h2] at h;cases h
   | bad=>rw [h2] at h;cases h
  | exc c M1=>rw [h1] at h;cases h
  | bad=>rw [h1] at h;cases h
theorem aL {a b:Bool} (h:(a&&b)=true):a=true/\b=true:=(Bool.and_eq_true a b).mp h
theorem fM {G:Gm} {b:Bool} {N:List Str} {sc:Scope}:∀ {n:Nat} {as:List Expr} {cs:Es},iE G n b N sc (.es as cs)=true->jF cs=as.length/\as.all bN=true
 | 0,_,_,h=>by cases h
 | n+1,[],cs,h=>by
  have:=iV (c:=cs) h
  subst this
  exact ⟨rfl,rfl⟩
 | n+1,a::as,cs,h=>by
  replace h:=zl (c:=cs) h
  obtain ⟨c,cs,rfl,h⟩:=h
  replace h:=aL h
  obtain ⟨h,h3⟩:=h
  replace h:=aL h
  obtain ⟨h1,h2⟩:=h
  obtain ⟨q1,q2⟩:=fM h3
  exact ⟨congrArg (·+1) q1,by rw [List.all_cons,h1,q2];rfl⟩
inductive wR (th:Addr->Prop):Hp->Hp->Prop
 | refl (H:Hp):wR th H H
 | step {H H1 H2:Hp}:AF th H H1->wR th H1 H2->wR th H H2
noncomputable def GX:Bool->Cx->XS->Gx
 | true,_,w=>⟨w,fun _=>False,fun cv x Z H H' t h=>by
  rcases t with rfl | ⟨_,_,_,z,_⟩
  ·exact h
  ·exact z.elim⟩
 | false,X,w=>⟨fun cv x Z H=>∃ H',wR (Dy X) H H'/\w cv x Z H',Dy X,fun cv x Z H H' t ⟨H2,h1,h2⟩=>⟨H2,.step t h1,h2⟩⟩
theorem pB {X:Cx} {pins:List (Addr×Obj)} {Z:L2.St} {H H':Hp} {s:Shared} (I:Inv X pins Z H s) (t:wR (Dy X) H H'):Inv X pins Z H' s:=by
 induction t with
 | refl=>exact I
 | step t _ ih=>exact ih (d9 I t)
theorem vF {th:Addr->Prop} {H H':Hp} (t:wR th H H') {b:Addr} (h:H' b≠none):H b≠none:=by
 induction t with
 | refl=>exact h
 | step t _ ih =>
  have:=ih h
  rcases t with rfl | ⟨a,o,kvs,_,h1,rfl⟩
  ·exact this
  ·by_cases e:b=a
   ·subst e;rw [h1];simp
   ·rw [ao e] at this;exact this
theorem zI {X:Cx} {w:XS} {e:Value} {s:Shared} (h:j5 X (GX false X w).e e s):j5 X w e s:=by
 obtain ⟨pins,Z,H,a,a0,C,B,h1,I,up,iB,hp,H',t,q⟩:=h
 exact ⟨pins,Z,H',a,a0,C,B,h1,pB I t,up,fun b hb hf=>iB b (hb.imp (vF t) id) hf,hp,q⟩
theorem yC {X:Cx} {w:XS} {e:Value} {s:Shared} (h:Ew X (GX false X w).e e s):Ew X w e s:=by
 obtain ⟨pins,Z,H,a,C,vs,hh,h1,I,made,H',t,q⟩:=h
 exact ⟨pins,Z,H',a,C,vs,hh,h1,pB I t,made,q⟩
structure ic (G:Gm) (B:Bd) (Φ:aS) (k:Nat) (X:Cx) (N:List Str) (sc:Scope) (b:Bool) (w:XS):Prop where
 hN:X.N=N
 nd:N.Nodup
 hsc:X.env.scope=sc
 K:B.K=X.K
 calm:X.calm=true
 rm:cI k X.A
 dk:mH B X
 fo:∀ e s,X.xe e s->j5 X (GX b X w).e e s\/Ew X (GX b X w).e e s
 fx:∀ e s,j5 X (GX b X w).e e s->X.xe e s
 nx:b=false->G.rz=true->∀ e s,Ew X (GX b X w).e e s->X.xe e s
 fr:qQ X
 fn:b=false->∀ x,X.fn x=true
 fns:∀ f i m,G.fns.lookup f=some (i,m)->∃ fa fd ps,X.mg f=some (.ref fa)/\W.keepIn X.K (.ref fa)=true/\Binds X.K fd ps []/\cB X.prog X.w X.K X.mg X.base (iF X.prog X.w) k fa fd ps (xJ B Φ i m)
 cst:∀ x i,G.cst.lookup x=some i->∃ v u,X.mg x=some u/\RelV v u/\∀ d,Φ.glob i=some d->∀ F ρ H,RD B F ρ H d v
 blt:∀ x,G.jY.contains x=true->X.mg x=none
 cls:∀ c C,B.cls c=some C->wU X.K C/\∀ f,G.CJ.contains f=true->dS X.K C f
 DW:∀ c nm i m,G.DW.lookup (c,nm)=some (i,m)->∃ C fa fd ps,B.cls c=some C/\Meth X.K C nm fa/\Binds X.K fd ps []/\cB X.prog X.w X.K X.mg X.base (iF X.prog X.w) k fa fd ps (xJ B Φ i m)
 Me:∀ x c i m,G.cls.lookup x=some (c,i,m)->∃ C fa fd ps,X.mg x=some (.ref C)/\B.cls c=some C/\Mk X.K C fa/\Binds X.K fd ps [] /\
  ((∃ j,k=j+1/\cB X.prog X.w X.K X.mg X.base (iF X.prog X.w) j fa fd ps (spI B Φ i m))\/∀ ds M,Φ.ini i ds M=.bad)
 exc:∀ x c, G.exc.lookup x=some c->∃ C bmB newId bm base initId, X.mg x=some (.ref C)/\B.xad c=some C/\B.exc c (.ref C)/\AA X.K C bmB newId bm/\ExcBaseFacts base newId initId bmB/\bm.contains (.type "BaseException")=true
 MC:∀ c cv,B.exc c cv->∃ C bmB newId bm,cv=.ref C/\AA X.K C bmB newId bm/\∀ d D,B.xad d=some D->(Value.ref C::bm).contains (.ref D)=Φ.sub c d
 El:∀ x f m d,G.El.lookup x=some (f,m,d)->∃ fa fd ps du,X.mg x=some (.ref fa)/\W.keepIn X.K (.ref fa)=true/\Binds X.K fd ps [du]/\RelV (.int d) du/\cB X.prog X.w X.K X.mg X.base (iF X.prog X.w) k fa fd ps (xJ B Φ f m)
 st:b=false->X.stack=X.env::X.outer/\X.env.frame=some X.env.locals
section
variable {G:Gm} {B:Bd} {Φ:aS} {k:Nat} {X:Cx} {N:List Str} {sc:Scope} {b:Bool} {w:XS}
theorem ic.rm' (O:ic G B Φ k X N sc b w):Rm X:=by have:=O.rm.un;unfold Rm;omega
theorem ic.l7 (O:ic G B Φ k X N sc b w) {x:Str} (h:gr sc x=true):Gl X x:=by
 show X.env.scope.names.lookup x=some .globalImplicit
 rw [O.hsc]
 unfold gr at h
 split at h
 ·assumption
 ·cases h
theorem ic.vis (O:ic G B Φ k X N sc b w) {x:Str} (h:Ey sc x=true):MU X.env.scope x:=by
 unfold MU
 rw [O.hsc]
 unfold Ey at h
 split at h
 ·rename_i q;exact .inl q
 ·rename_i q;exact .inr (.inl q)
 ·rename_i q;exact .inr (.inr q)
 ·cases h
theorem ic.loc (O:ic G B Φ k X N sc b w) {x:Str} (h:Gz sc x=true):L2.Loc X.env.scope x:=by
 unfold L2.Loc
 rw [O.hsc]
 unfold Gz at h
 split at h
 ·rename_i q;exact .inl q
 ·rename_i q;exact .inr q
 ·cases h
theorem gp {x:Str} (h:nD x=true):(x == ("__debug__" : Str))=false/\(x == ("__classdict__" : Str))=false:=by
 simp only [nD,Bool.and_eq_true,Bool.not_eq_true'] at h;exact h
theorem ic.Em (O:ic G B Φ k X N sc b w) {scope:Scope} {N':List Str} (hn:N'.Nodup) (cl:List (Str×Addr)) (fp:List Addr) (s:Shared) (H:Hp) (C:Addr) (E:XK):ic G B Φ k (eO X scope cl N' fp s H C E) N' (xZ scope sc) true (fun cv x _ H'=>E cv x H') :=
 ⟨rfl,hn,by show relabel scope X.env=xZ scope sc;rw [<- O.hsc];rfl,O.K,O.calm,O.rm,O.dk,(fun e s ⟨p,Z,H,a,a0,C,B,h1,I,h⟩=>.inl ⟨p,Z,H,a,a0,C,B,h1,I.eX _,h⟩),(fun e s ⟨p,Z,H,a,a0,C,B,h1,I,h⟩=>⟨p,Z,H,a,a0,C,B,h1,I.bS,h⟩),(fun h=>by cases h),(by
  obtain ⟨env,outer,L,h1,h2,h3⟩:=O.fr
  exact ⟨env,outer,L,h1,h2,h3⟩),(fun h=>by cases h),O.fns,O.cst,O.blt,O.cls,O.DW,O.Me,O.exc,O.MC,O.El,(fun h=>by cases h)⟩
theorem ic.comp (O:ic G B Φ k X N sc b w) {scope:Scope} {caps:List Nat} {tn:List Str} {n:Nat} (h:Ae N sc scope caps tn=true) (hn:tn.length=n):iD X scope (fS N caps tn) caps n/\(fS N caps tn).Nodup:=by
 simp only [Ae,Bool.and_eq_true,List.all_eq_true,decide_eq_true_eq] at h
 obtain ⟨⟨⟨h1,h2⟩,h3⟩,h4⟩:=h
 refine ⟨⟨fun x hx=>?_,fun y hy z=>?_,by simpa using h2,fun y hy z=>?_,by simp [fS,hn],fun i j x e1 e2=>?_⟩,h4⟩
 ·have:=h1 _ hx
  show X.env.scope.names.lookup x=some .cell\/X.env.scope.names.lookup x=some .free
  rw [O.hsc]
  simp only at this
  split at this
  ·rename_i q;exact .inl q
  ·rename_i q;exact .inr q
  ·cases this
 ·have:=h1 _ hy
  rw [z] at this
  simp at this
 ·have:=h1 _ hy
  rw [z] at this
  simp only at this
  split at this
  ·assumption
  ·cases this
 ·have hj:j∈caps:=List.mem_of_getElem? e2
  have:=h3 j hj
  have hi:i<caps.length:=(List.getElem?_eq_some_iff.mp e2).1
  unfold fS at e1
  rw [List.getElem?_append_left (by simpa using hi),List.getElem?_map,e2] at e1
  simp only [Option.map_some,Option.some.injEq] at e1
  split at this
  ·rename_i y hy
   rw [hy] at e1
   simp only [Option.getD_some] at e1
   subst e1
   rw [O.hN]
   refine ⟨hy,?_⟩
   split at this
   ·assumption
   ·cases this
  ·cases this
theorem yX {x:Str} (h:Cp sc x=true):sc.names.lookup x=some .local:=by
 unfold Cp at h
 split at h
 ·assumption
 ·cases h
theorem ic.nm (O:ic G B Φ k X N sc b w) {i:Nat} {x:Str} {p:Pos} (h:Km N sc i x=true):PG X (.Name x p) (lG i):=by
 replace h:=aL h
 obtain ⟨h1,h2⟩:=h
 have hl:X.env.scope.names.lookup x=some .local:=by rw [O.hsc];exact yX h2
 exact BU (by rw [O.hN];exact O.nd) (by rw [O.hN];exact of_decide_eq_true h1) (.inl hl) (.inr hl)
noncomputable def gNs:List Nat->Et
 | []=>KS
 | i::is=>D8 (lG i) (gNs is)
theorem zD:∀ {is:List Nat} {xs:List V} {Z:St} {H:Hp} {Q:St->Hp->Prop},xs.length=is.length->Q (i9 is xs Z) H->gNs is xs Z H Q
 | [],[],Z,H,Q,_,q=>⟨rfl,q⟩
 | [],_::_,_,_,_,h,_=>by cases h
 | _::_,[],_,_,_,h,_=>by cases h
 | i::is,x::xs,Z,H,Q,h,q=>⟨x,xs,rfl,zD (is:=is) (xs:=xs) (Z:=Z.set i (some x)) (by simpa using h) q⟩
theorem ic.nms (O:ic G B Φ k X N sc b w):∀ {as:List Expr} {is:List Nat},Cd N sc as is=true->(assignEach as X.env).length=is.length/\(assignEach as X.env).findIdx? (·.1)=none/\LL X as (gNs is)/\as.length=is.length
 | [],[],_=>⟨rfl,rfl,um,rfl⟩
 | [],_::_,h=>by cases h
 | _::_,[],h=>by cases h
 | a::as,i::is,h=>by
  replace h:=aL h
  obtain ⟨h1,h2⟩:=h
  replace h1:=cN h1
  obtain ⟨x,p,rfl,h1⟩:=h1
  obtain ⟨q1,q2,q3,q4⟩:=O.nms h2
  have e:assignEach (.Name x p::as) X.env=(false,assign (.Name x p) X.env)::assignEach as X.env:=rfl
  refine ⟨?_,?_,kX (O.nm (p:=p) h1) q3 (by rw [e];rfl),by rw [List.length_cons,List.length_cons,q4]⟩
  ·rw [e,List.length_cons,List.length_cons,q1]
  ·rw [e,List.findIdx?_cons,q2];rfl
theorem ic.tg (O:ic G B Φ k X N sc b w) {tn:Expr} {tg:List Nat} (h:IT N sc tn tg=true):PG X tn (IF tg B.K)/\(cT tn).length=tg.length:=by
 cases tg with
 | nil=>cases h
 | cons i r=>cases r with
  | nil =>
   replace h:=cN h
   obtain ⟨x,p,rfl,h⟩:=h
   exact ⟨O.nm h,rfl⟩
  | cons j r=>cases r with
   | cons l r =>
    replace h:=lB h
    obtain ⟨as,k1,pt,rfl,h⟩:=h
    obtain ⟨q1,q2,q3,q4⟩:=O.nms h
    have p:=yh (X:=X) (pos:=pt) (k:=k1) (n:=(i::j::l::r).length) O.calm q3 q1 q2
    refine ⟨fun pins s Z H v u Q I r q=>p pins s Z H v u Q I r ?_,by rw [<- q4];exact List.length_map ..⟩
    obtain ⟨a,xs,e,sq,hl,q⟩:=q
    rw [O.K] at sq
    exact ⟨a,xs,e,sq,hl,zD hl q⟩
   | nil =>
    replace h:=lB h
    obtain ⟨as,k1,pt,rfl,h⟩:=h
    replace h:=CA h
    obtain ⟨l,r,rfl,h⟩:=h
    replace h:=cN h
    obtain ⟨x,px,rfl,h⟩:=h
    replace h:=cN h
    obtain ⟨y,py,rfl,h⟩:=h
    replace h:=aL h
    obtain ⟨h1,h2⟩:=h
    have p:=yh (X:=X) (pos:=pt) (k:=k1) (n:=2) O.calm (kX (O.nm (p:=px) h1) (kX (O.nm (p:=py) h2) um))
    refine ⟨fun pins s Z H v u Q I r q=>p pins s Z H v u Q I r ?_,rfl⟩
    obtain ⟨a,x',y',e,sq,q⟩:=q
    rw [O.K] at sq
    exact ⟨a,[x',y'],e,sq,rfl,x',[y'],rfl,y',[],rfl,rfl,q⟩
end
end Fg
end
section
namespace Fg
open PySem PySem.Spec L2
section
variable {G:Gm} {B:Bd} {Φ:aS} {k:Nat}
structure Dk (G:Gm) (B:Bd) (Φ:aS) (k n:Nat) (X:Cx) (N:List Str) (sc:Scope) (b:Bool) (w:XS):Prop where
 e:∀ a c,iE G n b N sc (.e a c)=true->PE X a (T B Φ (GX b X w) c)
 t:∀ a c,iE G n b N sc (.t a c)=true->PT X a (TB B Φ (GX b X w) c)/\(∀ op v p,a=.BoolOp op v p->PW X a (TB B Φ (GX b X w) c))
 es:∀ a c,iE G n b N sc (.es a c)=true->PA X a (TL B Φ (GX b X w) c)
 o:∀ a c,iE G n b N sc (.o a c)=true->PO X a (TP B Φ (GX b X w) c)
 i:b=false->∀ a c tg,(!Mn c||isTup tg)=true->iE G n b N sc (.i a c)=true->PI X tg a (Er B Φ (GX b X w) c)
 s:∀ a c,iE G n b N sc (.s a c)=true->PS X a (TC B Φ (GX b X w) c)
 ss:∀ a c,iE G n b N sc (.ss a c)=true->o5 X a (Eu B Φ (GX b X w) c)
 m:∀ a c,iE G n b N sc (.m a c)=true->PJ X B Φ (GX b X w) a c
theorem Ax {E:Gx} {Z:L2.St} {H:Hp} {Q:VK} (h:T B Φ E .bad Z H Q):False:=by
 obtain ⟨ZD,M,F,ρ,S,r,h⟩:=h
 simp only [ev] at h
 exact h
theorem Io {E:Gx} {Dn:Ends} {Z:L2.St} {H:Hp} (h:TC B Φ E .bad Dn Z H):False:=by
 obtain ⟨ZD,M,F,ρ,S,r,h⟩:=h
 simp only [ex] at h
 exact h
variable {X:Cx} {N:List Str} {sc:Scope} {b:Bool} {n:Nat} {w:XS}
theorem AY {a:Const} {d:D} {j:Nat} {p:Pos} {E:Gx} (h:HP a d=true):PE X (.Constant a j p) (T B Φ E (.k d)):=by
 unfold HP at h
 split at h
 ·rw [of_decide_eq_true h];exact PE.weak FO fun _ _ _=>tP rfl
 ·rw [of_decide_eq_true h];exact PE.weak rK fun _ _ _=>tP rfl
 ·rw [of_decide_eq_true h];exact PE.weak J3 fun _ _ _=>tP rfl
 ·exact PE.weak FH fun _ _ _=>tP rfl
 ·cases h
theorem uy:∀ {as:List Expr} {is:List Nat},Cd N sc as is=true->as.length=is.length
 | [],[],_=>rfl
 | [],_::_,h=>by cases h
 | _::_,[],h=>by cases h
 | a::as,i::is,h=>by rw [List.length_cons,List.length_cons,uy (aL h).2]
theorem EE {tn:Expr} {tg:List Nat} (h:IT N sc tn tg=true):(cT tn).length=tg.length:=by
 cases tg with
 | nil=>cases h
 | cons i r=>cases r with
  | nil=>replace h:=cN h;obtain ⟨x,p,rfl,h⟩:=h;rfl
  | cons j r=>cases r with
   | cons l r =>
    replace h:=lB h
    obtain ⟨as,k1,pt,rfl,h⟩:=h
    exact (List.length_map ..).trans (uy h)
   | nil =>
    replace h:=lB h
    obtain ⟨as,k1,pt,rfl,h⟩:=h
    replace h:=CA h
    obtain ⟨l,r,rfl,h⟩:=h
    rfl
theorem pF (O:ic G B Φ k X N sc false w) (ih:Dk G B Φ k n X N sc false w) (Hr:∀ X' N' sc' w',ic G B Φ k X' N' sc' true w'->Dk G B Φ k n X' N' sc' true w') {caps tg:List Nat} {elt:Fg.E} {it:Src} {cond:Fg.O} {el tn iter:Expr} {ifs:List Expr} {scope:Scope}
  (h:Mg (HR n) G false N sc caps tg elt it cond el tn iter ifs scope=true) :
  iD X scope (fS N caps (cT tn)) caps tg.length/\PI X tn iter (Er B Φ (GX false X w) it) /\
   (∀ Z cl fp s H C,PG (eO X scope cl (fS N caps (cT tn)) fp s H C fun cv x H'=>(GX false X w).e cv x Z H') tn (IF tg B.K)/\IK (eO X scope cl (fS N caps (cT tn)) fp s H C fun cv x H'=>(GX false X w).e cv x Z H') ifs (TBo B Φ (EB (GX false X w) Z) cond)/\PE (eO X scope cl (fS N caps (cT tn)) fp s H C fun cv x H'=>(GX false X w).e cv x Z H') el (T B Φ (EB (GX false X w) Z) elt))/\∀ x,foldedSetIterable iter X.env x=pure x:=by
 simp only [Mg,Bool.and_eq_true] at h
 obtain ⟨⟨⟨⟨⟨⟨h0,h1⟩,h2⟩,h3⟩,h4⟩,h5⟩,h6⟩:=h
 have hlen:(cT tn).length=tg.length:=EE h4
 obtain ⟨C1,C2⟩:=O.comp h2 hlen
 refine ⟨C1,ih.i rfl iter it tn h0 h3,fun Z cl fp s H C=>?_,set_plain h1⟩
 have OB:=O.Em (scope:=scope) C2 cl fp s H C fun cv x H'=>(GX false X w).e cv x Z H'
 have S:=Hr _ _ _ _ OB
 refine ⟨(OB.tg h4).1,?_,S.e el elt h5⟩
 cases cond with
 | none=>cases ifs with
  | nil=>exact BJ
  | cons _ _=>cases h6
 | some d =>
  replace h6:=ir h6
  obtain ⟨c,rfl,h6⟩:=h6
  exact BI (S.t c d h6).1
theorem JA (O:ic G B Φ k X N sc b w) (ih:Dk G B Φ k n X N sc b w) (Hr:∀ X' N' sc' w',ic G B Φ k X' N' sc' true w'->Dk G B Φ k n X' N' sc' true w') (a:Expr) (c:Fg.E) (h:iE G (n+1) b N sc (.e a c)=true):PE X a (T B Φ (GX b X w) c):=by
 replace h:=uu h
 rcases h with ⟨o,v,p,rfl,h⟩ | h
 ·exact FF (ih.e _ _ h)
 ·cases c with
  | bad=>exact fun _ _ _ _ _ _ q=>(Ax q).elim
  | v i =>
   replace h:=cN h
   obtain ⟨x,p,rfl,h⟩:=h
   simp only [Bool.and_eq_true,decide_eq_true_eq] at h
   exact PE.weak (FD (by rw [O.hN];exact h.1.1) (O.vis h.1.2) (gp h.2).1 (gp h.2).2) fun _ _ _=>JC
  | k d =>
   replace h:=G6 h
   obtain ⟨x,j,p,rfl,h⟩:=h
   exact AY h
  | g i =>
   replace h:=cN h
   obtain ⟨x,p,rfl,h⟩:=h
   simp only [Bool.and_eq_true,decide_eq_true_eq] at h
   obtain ⟨v,u,q1,q2,q3⟩:=O.cst _ _ h.1.2
   exact PE.weak (BW (O.l7 h.1.1) q1 q2 (gp h.2).1) fun _ _ _=>JD q3
  | tup cs =>
   replace h:=lB h
   obtain ⟨as,j,p,rfl,h⟩:=h
   simp only [Bool.and_eq_true,decide_eq_true_eq] at h
   obtain ⟨hl,_⟩:=fM h.2
   refine PE.weak (FE (ih.es _ _ h.2)) fun _ _ _=>Ba fun q=>?_
   rw [bq q,hl];exact Nat.le_trans h.1 (by decide)
  | lst fz cs =>
   replace h:=GW h
   obtain ⟨as,p,rfl,h⟩:=h
   simp only [Bool.and_eq_true,decide_eq_true_eq] at h
   obtain ⟨hl,_⟩:=fM h.2
   refine PE.weak (FJ (ih.es _ _ h.2)) fun _ _ _=>Bh fun q=>?_
   rw [bq q,hl];exact Nat.le_trans h.1 (by decide)
  | sJ =>
   obtain ⟨p,rfl⟩:=Cw h
   exact PE.weak yp fun _ _ _=>xR
  | op o fz x y =>
   replace h:=G8 h
   obtain ⟨l,p,q,pos,rfl,h⟩:=h
   simp only [Bool.and_eq_true,decide_eq_true_eq] at h
   obtain ⟨⟨h1,h2⟩,h3⟩:=h
   subst h1
   exact PE.weak (J1 (Gf O.K o) (ih.e _ _ h2) (ih.e _ _ h3)) fun _ _ _=>EY
  | neg x =>
   replace h:=zd h
   obtain ⟨o,l,p,rfl,h⟩:=h
   replace h:=aL h
   obtain ⟨ho,h⟩:=h
   cases zu ho
   exact PE.weak (JY EA (ih.e _ _ h)) fun _ _ _=>Bg
  | not x =>
   replace h:=zd h
   obtain ⟨o,l,p,rfl,h⟩:=h
   replace h:=aL h
   obtain ⟨ho,h⟩:=h
   cases uJ ho
   exact PE.weak (FG (ih.e _ _ h)) fun _ _ _=>tN
  | and x y =>
   replace h:=uF h
   obtain ⟨o,v,w,r,p,rfl,h⟩:=h
   replace h:=aL h
   obtain ⟨h,h3⟩:=h
   replace h:=aL h
   obtain ⟨h1,h2⟩:=h
   cases uL h1
   replace h:=And.intro h2 h3
   exact PE.weak (FQ (ih.e _ _ h.1) (ih.e _ _ h.2)) fun _ _ _=>tS
  | or x y =>
   replace h:=uF h
   obtain ⟨o,v,w,r,p,rfl,h⟩:=h
   replace h:=aL h
   obtain ⟨h,h3⟩:=h
   replace h:=aL h
   obtain ⟨h1,h2⟩:=h
   cases zv (by simpa using h1)
   replace h:=And.intro h2 h3
   exact PE.weak (J0 (ih.e _ _ h.1) (ih.e _ _ h.2)) fun _ _ _=>xQ
  | cmp o x y =>
   replace h:=zh h
   obtain ⟨l,p,q,pos,rfl,h⟩:=h
   simp only [Bool.and_eq_true,decide_eq_true_eq,Bool.not_eq_true'] at h
   obtain ⟨⟨⟨h1,h2⟩,h3⟩,h4⟩:=h
   subst h1
   exact PE.weak (BY (yu O.K O.rm' O.dk o) (ih.e _ _ h3) (ih.e _ _ h4) h2) fun _ _ _=>tR
  | w9 t x y =>
   replace h:=G1 h
   obtain ⟨u,l,q,pos,rfl,h⟩:=h
   simp only [Bool.and_eq_true] at h
   exact PE.weak (yo (ih.t _ _ h.1.1).1 (ih.e _ _ h.1.2) (ih.e _ _ h.2)) fun _ _ _=>Bq
  | idx x y =>
   replace h:=nW h
   obtain ⟨l,q,pos,rfl,h⟩:=h
   simp only [Bool.and_eq_true] at h
   exact PE.weak (J2 (Hi O.K O.dk) (ih.e _ _ h.1.2) (ih.e _ _ h.2) (xK h.1.1)) fun _ _ _=>Br
  | sl fz x lo hi =>
   replace h:=nW h
   obtain ⟨l,q,pos,rfl,h⟩:=h
   replace h:=GK h
   obtain ⟨u,v,sp,rfl,h⟩:=h
   simp only [Bool.and_eq_true] at h
   exact PE.weak (yi (ET O.K) (ih.e _ _ h.1.1) (ih.o _ _ h.1.2) (ih.o _ _ h.2)) fun _ _ _=>EV
  | call f cs =>
   replace h:=d8 h
   obtain ⟨x,p,as,pos,rfl,h⟩:=h
   simp only [Bool.and_eq_true,decide_eq_true_eq] at h
   obtain ⟨⟨⟨⟨h1,h2⟩,h3⟩,h4⟩,h5⟩:=h
   obtain ⟨fa,fd,ps,q1,q2,q3,q4⟩:=O.fns _ _ _ h3
   obtain ⟨hl,_⟩:=fM h5
   cases as with
   | nil =>
    refine PE.weak (vV q4 O.rm (O.l7 h1) q1 q2 q3 O.fx (gp h2).1) fun _ _ _ q=>?_
    have:=pL (fun z=>by rw [bq z,hl]) q
    cases cs with
    | nil=>exact iI this
    | cons _ _=>simp [jF] at hl
   | cons e es =>
    simp only [List.all_cons,Bool.and_eq_true] at h4
    exact PE.weak (yq q4 O.rm (O.l7 h1) q1 q2 q3 O.fx (ih.es _ _ h5) (gp h2).1 (au h4.1) (dX h4.2)) fun _ _ _=>pL (fun z=>by rw [bq z,hl])
  | jL f cs d =>
   replace h:=d8 h
   obtain ⟨x,p,as,pos,rfl,h⟩:=h
   simp only [Bool.and_eq_true,decide_eq_true_eq] at h
   obtain ⟨⟨⟨⟨⟨h1,h2⟩,h3⟩,h6⟩,h4⟩,h5⟩:=h
   obtain ⟨fa,fd,ps,du,q1,q2,q3,q5,q4⟩:=O.El _ _ _ _ h3
   obtain ⟨hl,_⟩:=fM h5
   cases as with
   | nil=>cases h6
   | cons e es =>
    simp only [List.all_cons,Bool.and_eq_true] at h4
    exact PE.weak (yr q4 O.rm (O.l7 h1) q1 q2 q3 q5 O.fx (ih.es _ _ h5) (gp h2).1 (au h4.1) (dX h4.2)) fun _ _ _=>vK (fun z=>by rw [bq z,hl])
  | uI x t =>
   replace h:=d8 h
   obtain ⟨y,p,as,pos,rfl,h⟩:=h
   replace h:=CA h
   obtain ⟨l,z0,rfl,h⟩:=h
   replace h:=cN h
   obtain ⟨z,zp,rfl,h⟩:=h
   simp only [Bool.and_eq_true,decide_eq_true_eq] at h
   obtain ⟨⟨⟨⟨⟨⟨⟨h1,h2⟩,h3⟩,h4⟩,h5⟩,h6⟩,h7⟩,h8⟩:=h
   subst h1 h2
   refine PE.weak (kY (Ai O.K O.dk) (O.l7 h3) (O.blt _ h5) boot_isinstance (bV (ih.e _ _ h8) (bV (BZ (v:=.ty (pA t)) (O.l7 h4) (O.blt _ h6) (Df t) rfl (Du t).1 (Du t).2) fk) (au h7)) (by decide) (by decide) (au h7)) fun _ _ _=>Bo
  | blt kd fz cs =>
   replace h:=d8 h
   obtain ⟨y,p,as,pos,rfl,h⟩:=h
   replace h:=ir h
   obtain ⟨l,rfl,h⟩:=h
   simp only [Bool.and_eq_true,decide_eq_true_eq] at h
   obtain ⟨⟨⟨⟨h1,h2⟩,h3⟩,h4⟩,h5⟩:=h
   have pa:=ih.es _ _ h5
   cases kd <;> simp only [LC] at h1 <;> first | (cases h1;done) | cases h1
   ·exact PE.weak (kY (wJ O.K O.dk) (O.l7 h2) (O.blt _ h3) PySem.boot_len pa (by decide) (by decide) (au h4)) fun _ _ _=>nJ
   ·exact PE.weak (jd (wH O.K) (O.l7 h2) (O.blt _ h3) boot_tuple pa (by decide) (by decide) (au h4)) fun _ _ _=>nJ
   ·exact PE.weak (jd (wI O.K) (O.l7 h2) (O.blt _ h3) boot_list pa (by decide) (by decide) (au h4)) fun _ _ _=>nJ
  | aW m fz x cs =>
   replace h:=D5 h
   obtain ⟨o,y,ap,as,cp,rfl,h⟩:=h
   simp only [Bool.and_eq_true] at h
   obtain ⟨⟨⟨h2,h4⟩,h5⟩,h⟩:=h
   cases hm:KH m with
   | true =>
    rw [hm] at h
    replace h:=aL h
    obtain ⟨h1,h⟩:=h
    replace h:=ir h
    obtain ⟨l,rfl,h⟩:=h
    replace h:=aL h
    obtain ⟨h3,h6⟩:=h
    cases m <;> first | (cases hm;done) | skip
    all_goals cases of_decide_eq_true h1
    ·refine PE.weak (DT PySem.F.plainAttrs_list PySem.F.slot_list_append PySem.F.type_list_append mZ (ih.e _ _ h5) (ih.es _ _ h6) (bM h2) ?_ h4 (au h3)) fun _ _ _ q=>?_
     ·rw [au h3];rfl
     ·have:=rq q
      rw [O.K] at this
      exact this
    ·refine PE.weak (DT PySem.F.plainAttrs_list PySem.F.slot_list_extend PySem.F.type_list_extend Cf (ih.e _ _ h5) (ih.es _ _ h6) (bM h2) ?_ h4 (au h3)) fun _ _ _ q=>?_
     ·rw [au h3];rfl
     ·have:=rj q
      rw [O.K] at this
      exact this
   | false =>
    rw [hm] at h
    replace h:=aL h
    obtain ⟨h,h7⟩:=h
    replace h:=aL h
    obtain ⟨h1,h6⟩:=h
    cases List.isEmpty_iff.mp h6
    cases iV h7
    replace h1:=of_decide_eq_true h1
    cases m <;> simp only [DX] at h1 <;> first | (cases h1;done) | cases h1
    ·refine PE.weak (yt PySem.F.plainAttrs_list PySem.F.slot_list_pop PySem.F.type_list_pop Gq (ih.e _ _ h5) (bM h2) h4) fun _ _ _ q=>?_
     have:=Bf q
     rw [O.K] at this
     exact this
    ·refine PE.weak (yt PySem.F.plainAttrs_list PySem.F.slot_list_reverse PySem.F.type_list_reverse rP (ih.e _ _ h5) (bM h2) h4) fun _ _ _ q=>?_
     have:=pH q
     rw [O.K] at this
     exact this
  | comp fz caps tg elt it cond =>
   replace h:=aL h
   obtain ⟨h0,h⟩:=h
   cases b with
   | true=>cases h0
   | false =>
    replace h:=D4 h
    obtain ⟨el,tn,iter,ifs,scope,p,rfl,h⟩:=h
    obtain ⟨C1,C2,C3,C4⟩:=pF O ih Hr h
    exact PE.weak (BV (BX O.calm C1 C2 O.fr O.fx C3 C4)) fun _ _ _=>pK
  | chain _ _ _ _ _=>cases h
  | tru _=>cases h
  | fld x f =>
   replace h:=rX h
   obtain ⟨l,y,p,rfl,h⟩:=h
   simp only [Bool.and_eq_true,decide_eq_true_eq] at h
   obtain ⟨⟨⟨h1,h2⟩,h3⟩,h4⟩:=h
   subst h1
   exact PE.weak (FP (ih.e _ _ h4) (bM h3)) fun _ _ _=>Bt fun c C hc=>⟨(O.cls c C hc).1,(O.cls c C hc).2 _ h2⟩
  | dm c m nm x cs =>
   replace h:=D5 h
   obtain ⟨o,y,ap,as,cp,rfl,h⟩:=h
   simp only [Bool.and_eq_true,decide_eq_true_eq] at h
   obtain ⟨⟨⟨⟨⟨⟨⟨h1,h2⟩,h3⟩,h4⟩,h5⟩,h6⟩,h7⟩,h8⟩:=h
   subst h1
   obtain ⟨C,fa,fd,ps,q1,q2,q3,q4⟩:=O.DW _ _ _ _ h5
   obtain ⟨hl,_⟩:=fM h8
   cases as with
   | nil =>
    refine PE.weak (vS (ih.e _ _ h7) (O.cls _ _ q1).1 q2 q4 O.rm q3 O.fx (m7 (bM h2) h6 h4 h3)) fun _ _ _ q=>?_
    have:=tL (n:=1) q1 (fun z=>by rw [bq z,hl];rfl) q
    cases cs with
    | nil =>
     obtain ⟨ZD,M,F,ρ,S,r,z⟩:=this
     exact ⟨ZD,M,F,ρ,S,r,aj.imp z fun v H' ⟨a,dx,fs,z1,z2,z3,z4⟩=>⟨a,dx,fs,z1,z2,z3,iI z4⟩⟩
    | cons _ _=>simp [jF] at hl
   | cons e es =>
    simp only [List.all_cons,Bool.and_eq_true] at h6
    exact PE.weak (yj (ih.e _ _ h7) (O.cls _ _ q1).1 q2 q4 O.rm q3 O.fx (ih.es _ _ h8) (au h6.1) (dX h6.2) (m7 (bM h2) (by simp [h6.1,h6.2]) h4 h3)) fun _ _ _=>tL q1 (fun z=>by rw [bq z,hl])
  | new c i cs =>
   replace h:=d8 h
   obtain ⟨x,p,as,pos,rfl,h⟩:=h
   simp only [Bool.and_eq_true,decide_eq_true_eq] at h
   obtain ⟨⟨⟨⟨h1,h2⟩,h3⟩,h4⟩,h5⟩:=h
   obtain ⟨C,fa,fd,ps,q1,q2,q3,q4,q5⟩:=O.Me _ _ _ _ h3
   obtain ⟨hl,_⟩:=fM h5
   rcases q5 with ⟨j,rfl,q5⟩ | q5
   ·cases as with
    | nil =>
     refine PE.weak (vU q3 q5 O.rm (O.l7 h1) q1 q4 O.fx (gp h2).1) fun _ _ _ q=>?_
     have:=tO (n:=1) q2 (fun z=>by rw [bq z,hl];rfl) q
     cases cs with
     | nil=>exact iI this
     | cons _ _=>simp [jF] at hl
    | cons e es =>
     simp only [List.all_cons,Bool.and_eq_true] at h4
     exact PE.weak (ym q3 q5 O.rm (O.l7 h1) q1 q4 O.fx (ih.es _ _ h5) (gp h2).1 (au h4.1) (dX h4.2)) fun _ _ _=>tO q2 (fun z=>by rw [bq z,hl])
   ·cases as with
    | nil =>
     intro pins s Z H Q I q
     have:=pI q5 q
     cases cs with
     | nil=>exact (iI this).elim
     | cons _ _=>simp [jF] at hl
    | cons e es =>
     simp only [List.all_cons,Bool.and_eq_true] at h4
     exact PE.weak (yk q3 (O.l7 h1) q1 (ih.es _ _ h5) (gp h2).1 (au h4.1) (dX h4.2)) fun _ _ _=>pI q5
  | mx hi x y=>cases h
  | ng f x =>
   replace h:=d8 h
   obtain ⟨y,p,as,pos,rfl,h⟩:=h
   replace h:=ir h
   obtain ⟨l,rfl,h⟩:=h
   simp only [Bool.and_eq_true,decide_eq_true_eq] at h
   obtain ⟨⟨⟨⟨h1,h2⟩,h3⟩,h4⟩,h5⟩:=h
   subst h1
   have pa:=bV (ih.e _ _ h5) fk (au h4)
   cases f
   ·exact PE.weak (kY wL (O.l7 h2) (O.blt _ h3) PyProof.Rows.boot_abs pa (by decide) (by decide) (au h4)) fun _ _ _=>tQ
   ·exact PE.weak (jd wK (O.l7 h2) (O.blt _ h3) (show bootBuiltins ("int" : Str)=some (.type "int") by decide +kernel) pa (by decide) (by decide) (au h4)) fun _ _ _=>tQ
  | all1 x=>cases h
  | yS fz x =>
   replace h:=d8 h
   obtain ⟨z,p,as,pos,rfl,h⟩:=h
   replace h:=ir h
   obtain ⟨a1,rfl,h⟩:=h
   replace h:=d8 h
   obtain ⟨u,p2,as2,pos2,rfl,h⟩:=h
   replace h:=ir h
   obtain ⟨l,rfl,h⟩:=h
   simp only [Bool.and_eq_true,decide_eq_true_eq] at h
   obtain ⟨⟨⟨⟨⟨⟨⟨h1,h2⟩,h3⟩,h4⟩,h5⟩,h6⟩,h7⟩,h9⟩:=h
   subst h1 h2
   have pa:=bV (ih.e _ _ h9) fk (au h7)
   exact PE.weak (FN O.calm (O.l7 h3) (O.blt _ h5) (O.l7 h4) (O.blt _ h6) pa (by rw [au h7];rfl)) fun _ _ _=>Bm
  | rv fz x =>
   replace h:=nW h
   obtain ⟨l,q,pos,rfl,h⟩:=h
   replace h:=KC h
   obtain ⟨u,p2,rfl,h⟩:=h
   simp only [Bool.and_eq_true] at h
   refine PE.weak (JZ (ih.e _ _ h.1) (ih.e _ _ h.2)) fun _ _ _ q=>?_
   have:=EW q
   rw [O.K] at this
   exact this
  | Cm fz x y =>
   replace h:=d8 h
   obtain ⟨z,p,as,pos,rfl,h⟩:=h
   replace h:=ir h
   obtain ⟨a1,rfl,h⟩:=h
   replace h:=d8 h
   obtain ⟨u,p2,as2,pos2,rfl,h⟩:=h
   replace h:=CA h
   obtain ⟨l,q,rfl,h⟩:=h
   simp only [Bool.and_eq_true,decide_eq_true_eq] at h
   obtain ⟨⟨⟨⟨⟨⟨⟨⟨⟨h1,h2⟩,h3⟩,h4⟩,h5⟩,h6⟩,h7⟩,h8⟩,h9⟩,xg⟩:=h
   subst h1 h2
   have pa:=bV (ih.e _ _ h9) (bV (ih.e _ _ xg) fk (au h8)) (au h7)
   exact PE.weak (FL O.calm (O.l7 h3) (O.blt _ h5) (O.l7 h4) (O.blt _ h6) pa (by rw [au h7,au h8];rfl) (by rw [au h8];rfl)) fun _ _ _=>Bj
end
end Fg
end
section
namespace Fg
open PySem PySem.Spec L2
section
variable {G:Gm} {B:Bd} {Φ:aS} {k:Nat} {X:Cx} {N:List Str} {sc:Scope} {b:Bool} {n:Nat} {w:XS}
theorem Jx (O:ic G B Φ k X N sc b w) (ih:Dk G B Φ k n X N sc b w) (a:Expr) (c:Fg.E) (h:iE G (n+1) b N sc (.t a c)=true) :
  PT X a (TB B Φ (GX b X w) c)/\(∀ op v p,a=.BoolOp op v p->PW X a (TB B Φ (GX b X w) c)):=by
 replace h:=uu h
 rcases h with ⟨op,v,p,rfl,h⟩ | h
 ·have pt:=(ih.t _ _ h).1
  have pw:PW X (.BoolOp op [v] p) (TB B Φ (GX b X w) c):=by
   cases op
   ·exact pw_and1 pt
   ·exact pw_or1 pt
  exact ⟨pw.pt,fun _ _ _ _=>pw⟩
 ·have notB:∀ {P:Prop},rO a=true->(∀ op v p,a=.BoolOp op v p->P):=fun hq op v p e=>by subst e;simp [rO] at hq
  have plain:rO a=true->iE G n b N sc (.e a c)=true->PT X a (TB B Φ (GX b X w) c)/\(∀ op v p,a=.BoolOp op v p->PW X a (TB B Φ (GX b X w) c)):=fun h1 h2 =>
   ⟨Fl (ih.e _ _ h2) (vE h1),notB h1⟩
  have i6:(rO a&&iE G n b N sc (.e a c))=true->PT X a (TB B Φ (GX b X w) c)/\(∀ op v p,a=.BoolOp op v p->PW X a (TB B Φ (GX b X w) c)):=fun hq=>by
   simp only [Bool.and_eq_true] at hq;exact plain hq.1 hq.2
  cases c with
  | bad=>exact ⟨fun _ _ _ _ _ _ q=>(Ax q).elim,fun _ _ _ _ _ _ _ _ _ _ _ q=>(Ax q).elim⟩
  | cmp o x y =>
   replace h:=zh h
   obtain ⟨l,p,q,pos,rfl,h⟩:=h
   ·simp only [Bool.and_eq_true,decide_eq_true_eq,Bool.not_eq_true'] at h
    obtain ⟨⟨⟨h1,h2⟩,h3⟩,h4⟩:=h
    subst h1
    exact ⟨PT.weak (BK (yu O.K O.rm' O.dk o) (ih.e _ _ h3) (ih.e _ _ h4) h2) fun _ _ _=>tR,fun _ _ _ e=>by cases e⟩
  | not x =>
   replace h:=zd h
   obtain ⟨o,l,p,rfl,h⟩:=h
   replace h:=aL h
   obtain ⟨ho,h⟩:=h
   cases uJ ho
   exact ⟨PT.weak (Fo (ih.t _ _ h).1) fun _ _ _=>xT,fun _ _ _ e=>by cases e⟩
  | and x y =>
   replace h:=uF h
   obtain ⟨o,v,w',r,p,rfl,h⟩:=h
   replace h:=aL h
   obtain ⟨h,h3⟩:=h
   replace h:=aL h
   obtain ⟨h1,h2⟩:=h
   cases uL h1
   have pw:=PW.weak (pw_and (ih.t _ _ h2).1 ((ih.t _ _ h3).2 _ _ _ rfl)) fun _ _ _=>xU
   exact ⟨pw.pt,fun _ _ _ _=>pw⟩
  | or x y =>
   replace h:=uF h
   obtain ⟨o,v,w',r,p,rfl,h⟩:=h
   replace h:=aL h
   obtain ⟨h,h3⟩:=h
   replace h:=aL h
   obtain ⟨h1,h2⟩:=h
   cases zv (by simpa using h1)
   have pw:=PW.weak (pw_or (ih.t _ _ h2).1 ((ih.t _ _ h3).2 _ _ _ rfl)) fun _ _ _=>Bu
   exact ⟨pw.pt,fun _ _ _ _=>pw⟩
  | v i=>exact i6 h
  | k d=>exact i6 h
  | g i=>exact i6 h
  | tup cs=>exact i6 h
  | lst fz cs=>exact i6 h
  | sJ=>exact i6 h
  | op o fz x y=>exact i6 h
  | neg x=>exact i6 h
  | chain _ _ _ _ _=>exact i6 h
  | tru _=>exact i6 h
  | w9 _ _ _=>exact i6 h
  | idx _ _=>exact i6 h
  | sl _ _ _ _=>exact i6 h
  | call _ _=>exact i6 h
  | uI _ _=>exact i6 h
  | blt _ _ _=>exact i6 h
  | aW _ _ _ _=>exact i6 h
  | comp _ _ _ _ _ _=>exact i6 h
  | fld _ _=>exact i6 h
  | dm _ _ _ _ _=>exact i6 h
  | new _ _ _=>exact i6 h
  | mx _ _ _=>exact i6 h
  | Cm _ _ _=>exact i6 h
  | yS _ _=>exact i6 h
  | rv _ _=>exact i6 h
  | all1 _=>exact i6 h
  | ng _ _=>exact i6 h
  | jL _ _ _=>exact i6 h
theorem Jz (O:ic G B Φ k X N sc b w) (ih:Dk G B Φ k n X N sc b w) (hb:b=false) (a:Expr) (c:Src) (tg:Expr) (hz:(!Mn c||isTup tg)=true) (h:iE G (n+1) b N sc (.i a c)=true):PI X tg a (Er B Φ (GX b X w) c):=by
 subst hb
 cases c with
 | e c =>
  replace h:=aL h
  obtain ⟨_,h⟩:=h
  exact PI.weak (FA O.K (ih.e _ _ h)) fun _ _ _=>E1
 | cR c =>
  replace h:=d8 h
  obtain ⟨y,p,as,pos,rfl,h⟩:=h
  replace h:=ir h
  obtain ⟨l,rfl,h⟩:=h
  simp only [Bool.and_eq_true,decide_eq_true_eq] at h
  obtain ⟨⟨⟨⟨h1,h2⟩,h3⟩,h4⟩,h5⟩:=h
  subst h1
  exact PI.weak (vR (O.l7 h2) (O.blt _ h3) (bV (ih.e _ _ h5) fk (au h4)) (au h4)) fun _ _ _=>Bb
 | E8 c d=>cases h
 | enum _=>cases h
 | items _=>cases h
 | rev c =>
  replace h:=d8 h
  obtain ⟨y,p,as,pos,rfl,h⟩:=h
  replace h:=ir h
  obtain ⟨l,rfl,h⟩:=h
  simp only [Bool.and_eq_true,decide_eq_true_eq] at h
  obtain ⟨⟨⟨⟨h1,h2⟩,h3⟩,h4⟩,h5⟩:=h
  subst h1
  refine PI.weak (Fz (O.l7 h2) (O.blt _ h3) (bV (ih.e _ _ h5) fk (au h4)) (au h4)) fun _ _ _ q=>?_
  have:=Bc q
  rw [O.K] at this
  exact this
 | zip c d=>cases h
theorem swap_eq (O:ic G B Φ k X N sc b w) {el tn iter:Expr} {ifs:List Expr} {scope:Scope} {lp px p:Pos} {x:Str}:swapsWith (.ListComp el [⟨tn,iter,ifs,0⟩] scope lp) (some (.Name x px)) p.line X.env=pure (xD sc scope x px lp):=by
 rw [<- O.hsc];rfl
theorem A9 {E:Gx} {Dn:Ends} {Z:L2.St} {H:Hp} {tg:List Nat} {e:Fg.E} (h:TC B Φ E (.tu tg e) Dn Z H):xB (T B Φ E e) (IF tg B.K) Dn Z H:=by
 obtain ⟨ZD,M,F,ρ,S,r,h⟩:=h
 simp only [ex] at h
 refine TC.one S r h fun x M1 F1 ρ1 H1 v e1 S1 r1 rx h1=>?_
 split at h1
 ·rename_i Z1 hs
  exact kP r1 rx hs fun Z' q=>aR.run h1 S1 Z' q
 ·exact h1.elim
theorem Jy (O:ic G B Φ k X N sc b w) (ih:Dk G B Φ k n X N sc b w) (ihG:∀ G' X' N' sc' b' w',ic G' B Φ k X' N' sc' b' w'->Dk G' B Φ k n X' N' sc' b' w') (a:Stmt) (c:S) (h:iE G (n+1) b N sc (.s a c)=true):PS X a (TC B Φ (GX b X w) c):=by
 have Hr:=fun X' N' sc' w' (O':ic G B Φ k X' N' sc' true w')=>ihG G X' N' sc' true w' O'
 have hp:PassesOwn (model X.prog X.w) X.A X.env X.xe:=rL O.fr O.fo O.fx
 cases c with
 | bad=>exact fun _ _ _ _ _ _ q=>(Io q).elim
 | set i c =>
  replace h:=nX h
  obtain ⟨t,e,p,rfl,h⟩:=h
  replace h:=KD h
  obtain ⟨x,px,rfl,h⟩:=h
  simp only [Bool.and_eq_true,decide_eq_true_eq] at h
  obtain ⟨⟨⟨h3,h1⟩,h2⟩,h4⟩:=h
  cases b with
  | true=>cases h3
  | false =>
   have st:iE G n false N sc (.e e c)=true->swapsWith e (some (.Name x px)) p.line X.env=pure false->PS X (.Assign [.Name x px] e p) (TC B Φ (GX false X w) (.set i c)):=fun q w =>
    PS.weak (Fp (by rw [O.hN];exact O.nd) (by rw [O.hN];exact h1) (O.loc h2) (ih.e _ _ q) w (.inl (O.fn rfl x))) fun _ _ _=>tM
   replace h4:=CB h4
   rcases h4 with ⟨fz,caps,tg,elt,it,cond,rfl,h4⟩ | h4
   ·obtain ⟨el,tn,iter,ifs,scope,lp,rfl,h4⟩:=D4 h4
    cases hs:xD sc scope x px lp with
    | true =>
     rw [hs] at h4
     replace h4:=aL h4
     obtain ⟨h4,k7⟩:=h4
     obtain ⟨C1,C2,C3,C4⟩:=pF O ih Hr h4
     have hl:X.env.scope.names.lookup x=some .local:=by rw [O.hsc];exact yX k7
     refine PS.weak (uf (BN (by rw [O.hN];exact O.nd) (by rw [O.hN];exact h1) hl O.calm C1 C2 O.fr O.fx C3 C4 (by rw [swap_eq O,hs]))) fun D Z H q=>?_
     exact pK (tM q)
    | false =>
     rw [hs] at h4
     exact st h4 (by rw [swap_eq O,hs])
   ·replace h4:=aL h4
    obtain ⟨q1,q2⟩:=h4
    exact st q2 (kh q1)
 | mh x y c =>
  replace h:=nX h
  obtain ⟨t,e,p,rfl,h⟩:=h
  replace h:=nW h
  obtain ⟨o,i,q,rfl,h⟩:=h
  simp only [Bool.and_eq_true] at h
  obtain ⟨⟨⟨h1,h2⟩,h3⟩,h4⟩:=h
  exact PS.weak (BO O.rm' (ih.e _ _ h3) (ih.e _ _ h4) (ih.e _ _ h2) (kh h1)) fun _ _ _=>xO
 | ex c =>
  replace h:=G4 h
  obtain ⟨e,p,rfl,h⟩:=h
  replace h:=aL h
  obtain ⟨h1,h2⟩:=h
  exact PS.weak (BP (ih.e _ _ h2) (kh h1)) fun _ _ _=>E2
 | ret c =>
  replace h:=GN h
  rcases h with ⟨p,rfl,h⟩ | ⟨e,p,rfl,h⟩
  ·cases h
  ·exact PS.weak (Fq (ih.e _ _ h)) fun _ _ _=>Be
 | Fb=>cases h
 | ifs c x y =>
  replace h:=GZ h
  obtain ⟨t,l,q,p,rfl,h⟩:=h
  replace h:=aL h
  obtain ⟨h,h3⟩:=h
  replace h:=aL h
  obtain ⟨h1,h2⟩:=h
  exact PS.weak (JU (ih.t _ _ h1).1 (ih.ss _ _ h2) (ih.ss _ _ h3)) fun _ _ _=>Bp
 | «for» tg it x =>
  replace h:=G3 h
  obtain ⟨tn,iter,body,p,rfl,h⟩:=h
  simp only [Bool.and_eq_true] at h
  obtain ⟨⟨⟨⟨⟨h0,hz⟩,h1⟩,h2⟩,h3⟩,h4⟩:=h
  cases b with
  | true=>cases h0
  | false=>exact PS.weak (uf (Ft hp O.calm (ih.i rfl _ _ _ hz h2) (O.tg h3).1 (ih.ss _ _ h4) (set_plain h1))) fun _ _ _=>Bs
 | «while» c x =>
  replace h:=Kz h
  obtain ⟨t,body,p,rfl,h⟩:=h
  replace h:=aL h
  obtain ⟨h1,h2⟩:=h
  exact PS.weak (yd hp (ih.t _ _ h1).1 (ih.ss _ _ h2)) fun _ _ _=>vI
 | brk=>cases h
 | cont=>cases h
 | pass=>cases h
 | bP x f c =>
  replace h:=nX h
  obtain ⟨t,e,p,rfl,h⟩:=h
  replace h:=rX h
  obtain ⟨o,y,q,rfl,h⟩:=h
  simp only [Bool.and_eq_true,decide_eq_true_eq] at h
  obtain ⟨⟨⟨⟨h1,h2⟩,h3⟩,h4⟩,h5⟩:=h
  subst h1
  exact PS.weak (Fv (ih.e _ _ h5) (ih.e _ _ h4) (kh h3)) fun _ _ _=>xP fun c C hc=>⟨(O.cls c C hc).1,(O.cls c C hc).2 _ h2⟩
 | tu tg c =>
  replace h:=nX h
  obtain ⟨tn,e,p,rfl,h⟩:=h
  simp only [Bool.and_eq_true] at h
  obtain ⟨⟨⟨⟨h0,h1⟩,h2⟩,h3⟩,h4⟩:=h
  cases tn <;> first | (cases h1;done) | skip
  cases e <;> first | (cases h3;done) | exact PS.weak (Fw (ih.e _ _ h4) (O.tg h2).1 rfl rfl rfl) fun _ _ _=>A9
 | raise c es =>
  replace h:=aL h
  obtain ⟨h,h'⟩:=h
  replace h:=aL h
  obtain ⟨hb,hz⟩:=h
  cases b with
  | true=>cases hb
  | false =>
   replace h':=GP h'
   obtain ⟨e,pos,rfl,h⟩:=h'
   replace h:=d8 h
   obtain ⟨x,np,as,cp,rfl,h⟩:=h
   replace h:=ir h
   obtain ⟨m,rfl,h⟩:=h
   simp only [Bool.and_eq_true,decide_eq_true_eq] at h
   obtain ⟨⟨⟨h1,h2⟩,h3⟩,h4⟩:=h
   obtain ⟨C,bmB,newId,bm,base,initId,q1,q2,q3,q4,q5,q6⟩:=O.exc _ _ h3
   replace h4:=GU h4
   rcases h4 with ⟨z,j,p,rfl,h4⟩ | ⟨vs,p,rfl,h4⟩
   ·cases iV h4
    refine PS.weak (pZ q1 (O.l7 h1) (gp h2).1 q4 q5 O.calm rfl (bV rK fk rfl) (O.nx rfl hz)) fun D Z H q=>?_
    exact ⟨by show 1<=2 ^ 24;decide,(mS q3 q).nil⟩
   ·simp only [Bool.and_eq_true,decide_eq_true_eq] at h4
    refine PS.weak (pZ q1 (O.l7 h1) (gp h2).1 q4 q5 O.calm rfl (bV (FI (ih.m _ _ h4.2) h4.1.1 h4.1.2) fk rfl) (O.nx rfl hz)) fun D Z H q=>?_
    obtain ⟨ZD,M,F,ρ,S,r,z⟩:=mS q3 q
    exact ⟨ZD,M,F,ρ,S,r,aj.imp z fun _ H' z y=>⟨by show 1<=2 ^ 24;decide,z⟩⟩
 | «try» x hs els=>cases h
theorem sound:∀ (n:Nat) {G:Gm} {X:Cx} {N:List Str} {sc:Scope} {b:Bool} {w:XS},ic G B Φ k X N sc b w->Dk G B Φ k n X N sc b w
 | 0,G,X,N,sc,b,w,O=>⟨fun _ _ h=>(by cases h),fun _ _ h=>(by cases h),fun _ _ h=>(by cases h),fun _ _ h=>(by cases h),fun _ _ _ _ _ h=>(by cases h),fun _ _ h=>(by cases h),fun _ _ h=>(by cases h),fun _ _ h=>(by cases h)⟩
 | n+1, G, X, N, sc, b, w, O=>by
  have ih:=sound n O
  have Hr:=fun X' N' sc' w' (O':ic G B Φ k X' N' sc' true w')=>sound n O'
  refine ⟨JA O ih Hr,Jx O ih,fun a c h=>?_,fun a c h=>?_,fun hb=>Jz O ih hb,Jy O ih (fun G' X' N' sc' b' w' O'=>sound n O'),fun a c h=>?_,fun a c h=>?_⟩
  ·cases a with
   | nil =>
    cases iV (c:=c) h
    exact PA.weak fk fun _ _ _=>iI
   | cons a as =>
    replace h:=zl (c:=c) h
    obtain ⟨c,cs,rfl,h⟩:=h
    replace h:=aL h
    obtain ⟨h,h3⟩:=h
    replace h:=aL h
    obtain ⟨h1,h2⟩:=h
    exact PA.weak (bV (ih.e _ _ h2) (ih.es _ _ h3) (au h1)) fun _ _ _=>xS
  ·cases c with
   | none =>
    cases a with
    | none=>exact PO.weak BS fun _ _ _=>E0
    | some _=>cases h
   | some c =>
    cases a with
    | none=>cases h
    | some a=>exact PO.weak (BR (ih.e _ _ h)) fun _ _ _=>EZ
  ·cases a with
   | nil =>
    cases AX (c:=c) h
    exact o5.weak BL fun _ _ _=>xN
   | cons a as =>
    replace h:=KG (c:=c) h
    obtain ⟨c,cs,rfl,h⟩:=h
    replace h:=aL h
    obtain ⟨h1,h2⟩:=h
    exact o5.weak (yc (ih.s _ _ h1) (ih.ss _ _ h2)) fun _ _ _=>vJ
  ·cases a with
   | nil =>
    cases iV (c:=c) h
    exact .nil
   | cons a as =>
    replace h:=GR h
    rcases h with ⟨y,j,p,rfl,h⟩ | ⟨v,j,p,rfl,h⟩
    ·replace h:=aL h
     obtain ⟨h1,h2⟩:=h
     exact .lit (of_decide_eq_true h1) (ih.m _ _ h2)
    ·replace h:=zl h
     obtain ⟨e,es,rfl,h⟩:=h
     simp only [Bool.and_eq_true,decide_eq_true_eq] at h
     obtain ⟨⟨h1,h2⟩,h3⟩:=h
     subst h1
     exact .fld (ih.e _ _ h2) (ih.m _ _ h3)
end
end Fg
end
section
namespace Fg
open PySem PySem.Spec L2
inductive Dr:List DictEntry->List (Key×V)->Prop
 | nil:Dr [] []
 | cons {h:Int} {x:Str} {t:Tok} {u:Value} {v:V} {es:List DictEntry} {kvs:List (Key×V)}:RelV v u->Dr es kvs->Dr (⟨h,.str x t,u⟩::es) ((Sum.inr x,v)::kvs)
noncomputable def MW (w:World) (K:W.Frag) (a:Addr) (kvs:List (Key×V)):Prop :=
 kvs.length<=sizeLine/\(a == sysModules)=false/\(kvs.map (·.1)).Nodup/\∃ es n, K.lookup a=some ⟨.type "dict", none, .dict es n, #[]⟩/\W.KeysLit w.params es.toList/\Dr es.toList kvs
theorem Dr.vs {prog:Program} {w:World}:∀ {es:List DictEntry} {kvs:List (Key×V)},Dr es kvs->∃ vs,KV kvs vs/\Pairs (aM prog w) es vs/\vs.map (·.1)=kvs.map (·.1)
 | _,_,.nil=>⟨[],.nil,.nil,rfl⟩
 | _,_,.cons (h:=h) (x:=x) (t:=t) (u:=u) r q=>by
  obtain ⟨vs,h1,h2,h3⟩:=Dr.vs q
  exact ⟨(Sum.inr x,u)::vs,.cons ⟨rfl,r⟩ h1,.cons (jg x t) rfl h2,by simp [h3]⟩
theorem MW.ok {prog:Program} {w:World} {K:W.Frag} {a:Addr} {kvs:List (Key×V)} (d:MW w K a kvs) (h:Heap) (X:K.In h):kvs.length<=sizeLine/\(a == sysModules)=false/\∃ vs,KV kvs vs/\h.DictOf (aM prog w) a vs:=by
 obtain ⟨h1,h2,h3,es,n,h4,h5,h6⟩:=d
 obtain ⟨vs,q1,q2,q3⟩:=Dr.vs (prog:=prog) (w:=w) h6
 refine ⟨h1,h2,vs,q1,_,es,n,X _ _ h4,⟨rfl,rfl,rfl⟩,rfl,fun e he=>?_,q2,by rw [q3];exact h3⟩
 obtain ⟨x,t,e1,e2⟩:=h5.all e (Array.mem_toList_iff.mpr he)
 exact ⟨Sum.inr x,by rw [e1];exact jg x t,e2⟩
theorem HA {K:W.Frag} {C:Addr} {bmB:List Value} {newId:String} (q:W.excIn K C bmB newId=true):∃ bm,AA K C bmB newId bm/\∀ v b,W.mroIn K C v=some b->(Value.ref C::bm).contains v=b:=by
 unfold W.excIn at q
 split at q
 ·rename_i dd cd sl lk
  split at q
  ·rename_i C2 bm a0 a1 a2 a3 n a5 hm hs
   simp only [beq_iff_eq,Bool.not_eq_true',Bool.and_eq_true] at q;obtain ⟨⟨⟨⟨⟨rfl,rfl⟩,dl⟩,ht⟩,hok⟩,hni⟩:=q
   obtain ⟨nm,bs,mr,ns,qn,hd,sn,sb,ab,cl,dl'⟩:=cd;dsimp only at hm dl hok hni;subst hm dl
   obtain ⟨l⟩:=sl
   simp only at hs
   subst hs
   refine ⟨bm,⟨nm,qn,ns,bs,hd,sn,sb,ab,cl,dd,a0,a1,a2,a3,a5,lk,hok,hni,ht⟩,fun v b e=>?_⟩
   unfold W.mroIn W.clsIn at e
   rw [lk] at e
   simpa using e
  ·cases q
 ·cases q
theorem kD {C:Addr} {bm:List Value} {s:String} (h:(Value.ref C::bm).contains (.type s)=true):bm.contains (.type s)=true:=by
 rw [List.contains_cons] at h
 simpa using h
noncomputable def mJ (w:World) (K:W.Frag) (cl:Nat->Option Addr) (xc:Nat->Option Addr):Bd:=⟨K,MW w K,cl,fun c cv=>∃ C,xc c=some C/\cv=.ref C,xc⟩
theorem LD {X:Cx} {cl xc:Nat->Option Addr}:mH (mJ X.w X.K cl xc) X:=fun a kvs h hp KX=>MW.ok h hp KX
structure Dq (K:W.Frag) (x qual:Str) (st:Stmt) (f:Addr) (fd:FuncData):Prop where
 ex:∃ (oc:Value) (od:Option Addr) (dV kV doc pm:Value) (an:Option Addr) (cdv ct:Value) (osl:Array (Option Value)),
  fd=W.fnOf x qual (iX st) (cg st) (aF st) dV kV doc pm an cdv ct/\K.lookup f=some ⟨oc,od,.func fd,osl⟩/\W.codeIn K cdv qual=true
noncomputable def FnAt (G:Gm) (P:nB) (K:W.Frag) (i m:Nat) (fa:Addr) (fd:FuncData) (ps:List Str):Prop:=∃ x qual st N fn,Dq K x qual st fa fd/\P.fn i=some fn/\dH N ps (aF st)/\ps.length=m/\fn.np=m/\fn.ns=N.length/\fn.lU=[]/\iE G 200 false N (aF st) (.ss (cg st) fn.body)=true
structure Md (G:Gm) (P:nB) (w:World) (K:W.Frag) (mg:Str->Option Value) (cl xc:Nat->Option Addr):Prop where
 cst:∀ x i,G.cst.lookup x=some i->∃ v u,mg x=some u/\RelV v u/\∀ d,P.glob i=some d->∀ F ρ H,RD (mJ w K cl xc) F ρ H d v
 blt:∀ x,G.jY.contains x=true->mg x=none
 fns:∀ f i m,G.fns.lookup f=some (i,m)->∃ fa fd ps,mg f=some (.ref fa)/\W.keepIn K (.ref fa)=true/\Binds K fd ps []/\FnAt G P K i m fa fd ps
 cls:∀ c C,cl c=some C->wU K C/\∀ f,G.CJ.contains f=true->dS K C f
 DW:∀ c nm i m,G.DW.lookup (c,nm)=some (i,m)->∃ C fa fd ps,cl c=some C/\Meth K C nm fa/\Binds K fd ps []/\FnAt G P K i m fa fd ps
 Me:∀ x c i m,G.cls.lookup x=some (c,i,m)->∃ C fa fd ps,mg x=some (.ref C)/\cl c=some C/\Mk K C fa/\Binds K fd ps []/\FnAt G P K i m fa fd ps
 exc:∀ x c,G.exc.lookup x=some c->∃ C,mg x=some (.ref C)/\xc c=some C
 MC:∀ c C, xc c=some C->∃ bmB newId bm base initId, AA K C bmB newId bm/\ExcBaseFacts base newId initId bmB/\bm.contains (.type "BaseException")=true/\∀ d D, xc d=some D->(Value.ref C::bm).contains (.ref D)=P.sub c d
 El:∀ x f m d,G.El.lookup x=some (f,m,d)->∃ fa fd ps du,mg x=some (.ref fa)/\W.keepIn K (.ref fa)=true/\Binds K fd ps [du]/\RelV (.int d) du/\FnAt G P K f m fa fd ps
 rz:G.rz=true
section
variable {G:Gm} {P:nB} {w:World} {K:W.Frag} {mg:Str->Option Value} {prog:Program} {base:Heap}
theorem xF {B:Bd} {F:Addr->Prop} {ρ:List Addr} {H:Hp} {N:List Str} {ds:List D} {vs:List V} {n:Nat} (r:ak B F ρ H ds vs) (hn:n=N.length-vs.length):RS B F ρ H (ds.map some++List.replicate n none) (L2.start N vs):=by
 subst hn
 refine ⟨by simp [L2.start,ak.length r],fun i d q=>?_⟩
 by_cases hi:i<ds.length
 ·rw [List.getElem?_append_left (by simpa using hi),List.getElem?_map] at q
  cases hd:ds[i]? with
  | none=>rw [hd] at q;cases q
  | some e =>
   rw [hd] at q
   simp only [Option.map_some,Option.some.injEq] at q
   subst q
   obtain ⟨v,h1,h2⟩:=ak.get r hd
   refine ⟨v,?_,h2⟩
   unfold L2.start
   rw [List.getElem?_append_left (by rw [List.length_map,<- ak.length r];exact hi),List.getElem?_map,h1];rfl
 ·rw [List.getElem?_append_right (by simpa using Nat.le_of_not_lt hi),List.getElem?_replicate] at q
  split at q <;> cases q
theorem mW {B:Bd} {F F':Addr->Prop} {ρ ρ':List Addr} {H H':Hp} {M M':MH} {d:D} {v:V} {kp:Bool} {Q:VK} {X:XK} (S:SR B F ρ M H) (h:Post B (dZ kp M d M') F ρ H Q X) (e:Ext F ρ H F' ρ' H') (S':SR B F' ρ' M' H') (rd:RD B F' ρ' H' d v):Q v H':=by
 unfold dZ at h
 split at h
 ·rename_i hk
  split at h
  ·rename_i hn
   exact h F' ρ H' v e.cut (S.cut S' e hk.2) (RD.cut e.r (by rw [S.len];exact hn) rd)
  ·rename_i hn
   split at h
   ·rename_i n
    split at h
    ·rename_i ds hM
     split at h
     ·rename_i hns
      simp only [RD] at rd
      obtain ⟨a,h1,rfl⟩:=rd
      obtain ⟨vs,h2,h3⟩:=S'.obj n a _ h1 hM
      have hlt:¬ n<M.length:=by simpa [nr] using hn
      have ha:a∉ρ:=fun z=>by
       obtain ⟨j,hj,ej⟩:=List.mem_iff_getElem.mp z
       have q:ρ'[j]? = some a:=e.at (by rw [List.getElem?_eq_getElem hj,ej])
       obtain ⟨j1,q1⟩:=List.getElem?_eq_some_iff.mp q
       obtain ⟨j2,q2⟩:=List.getElem?_eq_some_iff.mp h1
       have:=(List.getElem_inj S'.nd).mp (q1.trans q2.symm)
       rw [S.len] at hj
       omega
      have hHa:H a=none:=(e.n a (List.mem_of_getElem? h1)).resolve_left ha
      have Sc:=S.cut S' e hk.2
      have r3:=ak.cut e.r (by rw [S.len];exact hns) h3
      have xt:qR F' ρ H' (fun b=>F' b\/b=a) ρ H':=⟨fun _ q=>.inl q,fun _ _ _=>rfl,List.prefix_refl _⟩
      have ec:=e.cut
      refine h (fun b=>F' b\/b=a) ρ H' (.ref a) ⟨⟨ec.s,fun b q=>.inl (ec.f b q),ec.h,ec.r,ec.n,fun b q=>q.elim (ec.g b) fun z=>.inr (.inl (z ▸ hHa))⟩,ec.z⟩ (Sc.take ha (by rw [h2];simp)) ?_
      simp only [RD]
      exact ⟨a,vs,rfl,.inl ⟨.inr rfl,.inl h2⟩,ak.bf xt _ _ r3⟩
     ·exact h F' ρ' H' v e S' rd
    ·exact h F' ρ' H' v e S' rd
   ·exact h F' ρ' H' v e S' rd
 ·exact h F' ρ' H' v e S' rd
theorem vO {B:Bd} {F F':Addr->Prop} {ρ ρ':List Addr} {H H':Hp} {M M':MH} {c:Nat} {cv:Value} {x:Option Addr} {Q:VK} {X:XK} (S:SR B F ρ M H) (h:Post B (pU M c M') F ρ H Q X) (e:Ext F ρ H F' ρ' H') (S':SR B F' ρ' M' H') (q:B.exc c cv):X cv x H':=by
 unfold pU at h
 split at h
 ·rename_i hk
  exact h F' ρ H' cv x e.cut (S.cut S' e hk) q
 ·exact h F' ρ' H' cv x e S' q
noncomputable abbrev An (X:Cx) (w:XS):Cx:=X.eX fun e s=>j5 X (GX false X w).e e s\/Ew X (GX false X w).e e s
theorem CF {x qual:Str} {st:Stmt} {f:Addr} {fd:FuncData} {N ps:List Str} {k:Nat} {sp:Sp} (F:Dq K x qual st f fd) (S:dH N ps (aF st)) (len:∀ vs H Q E,sp vs H Q E->vs.length=ps.length)
  (hbody:∀ (cdv:Value) (A:Around) (outer:List Env) (s:Shared) (H:Hp) (vs:List V) (Q:VK) (E:XK),cI k (A.deeper (PyProof.Rows.envOfC qual (aF st) s.heap.objs.size f cdv))->sp vs H Q E ->
   ∃ t,o5 (An (iY (iF prog w) prog w K mg base N qual (aF st) f cdv A outer s H E) fun cv x _ H'=>E cv x H') (cg st) t/\t { nx:=fun _ H'=>Q .aq H',rt:=Q } (L2.start N vs) H):cB prog w K mg base (iF prog w) (k+1) f fd ps sp:=by
 obtain ⟨oc,od,dV,kV,doc,pm,an,cdv,ct,osl,rfl,lk,hcd⟩:=F.ex
 refine Ea lk hcd S len fun A outer s H vs Q E hr h=>?_
 obtain ⟨t,h1,h2⟩:=hbody cdv A outer s H vs Q E hr h
 refine ⟨t,fun pins s1 Z H1 D I q=>?_,h2⟩
 exact wpAny_mono (h1 pins s1 Z H1 D (I.eX _) q) (fun _ _ z=>z.bS) fun e s2 z=>z.elim (fun z=>v8 e s2 (zI z)) fun z=>leave_new e s2 (yC z)
theorem nH {cl xc:Nat->Option Addr} (D:Md G P w K mg cl xc) {k:Nat} (ih:∀ (i m:Nat) (fa:Addr) (fd:FuncData) (ps:List Str),FnAt G P K i m fa fd ps->cB prog w K mg base (iF prog w) k fa fd ps (xJ (mJ w K cl xc) (aa P k) i m))
  (ih0:∀ j,k=j+1->∀ (i m:Nat) (fa:Addr) (fd:FuncData) (ps:List Str),FnAt G P K i m fa fd ps->cB prog w K mg base (iF prog w) j fa fd ps (xJ (mJ w K cl xc) (aa P j) i m))
  {f qual:Str} {i m:Nat} {fa:Addr} {fd:FuncData} {ps:List Str} {st:Stmt} {N:List Str} {fn:Fn} (h2:Dq K f qual st fa fd) (h4:P.fn i=some fn) (h5:dH N ps (aF st)) (h6:ps.length=m) (h7:fn.np=m) (h8:fn.ns=N.length) (h9:fn.lU=[]) (xg:iE G 200 false N (aF st) (.ss (cg st) fn.body)=true) :
  cB prog w K mg base (iF prog w) (k+1) fa fd ps (xJ (mJ w K cl xc) (aa P (k+1)) i m):=by
  refine CF h2 h5 (fun vs H Q E q=>by rw [q.1,h6]) fun cdv A outer s H vs Q E hr q=>?_
  let X0:=iY (iF prog w) prog w K mg base N qual (aF st) fa cdv A outer s H E
  obtain ⟨hl,ds,M,F,ρ,S,rd,post⟩:=q
  have O:ic G (mJ w K cl xc) (aa P k) k (An X0 fun cv x _ H'=>E cv x H') N (aF st) false (fun cv x _ H'=>E cv x H') :=
   ⟨rfl,h5.nd,rfl,rfl,rfl,hr,LD (X:=An X0 fun cv x _ H'=>E cv x H') (cl:=cl) (xc:=xc),(fun e s z=>z.imp (fun ⟨p,Z,H,a,a0,C,B,h1,I,h⟩=>⟨p,Z,H,a,a0,C,B,h1,I.eX _,h⟩) fun ⟨p,Z,H,a,C,vs,hh,h1,I,h⟩=>⟨p,Z,H,a,C,vs,hh,h1,I.eX _,h⟩),
    (fun e s ⟨p,Z,H,a,a0,C,B,h1,I,h⟩=>.inl ⟨p,Z,H,a,a0,C,B,h1,I.bS,h⟩),(fun _ _ e s ⟨p,Z,H,a,C,vs,hh,h1,I,h⟩=>.inr ⟨p,Z,H,a,C,vs,hh,h1,I.bS,h⟩),⟨_,_,_,rfl,rfl,rfl⟩,fun _ _=>rfl,(fun g j n hg=>by
    obtain ⟨fa,fd,ps,a1,a2,a3,a4⟩:=D.fns g j n hg
    exact ⟨fa,fd,ps,a1,a2,a3,ih j n fa fd ps a4⟩),fun x j hx=>by
    obtain ⟨v,u,a1,a2,a3⟩:=D.cst x j hx
    refine ⟨v,u,a1,a2,fun d hd=>a3 d ?_⟩
    cases k <;> exact hd,D.blt,D.cls,(fun c nm j n hg=>by
    obtain ⟨C,fa,fd,ps,a1,a2,a3,a4⟩:=D.DW c nm j n hg
    exact ⟨C,fa,fd,ps,a1,a2,a3,ih j n fa fd ps a4⟩),(fun x c j n hg=>by
    obtain ⟨C,fa,fd,ps,a1,a2,a3,a4,a5⟩:=D.Me x c j n hg
    refine ⟨C,fa,fd,ps,a1,a2,a3,a4,?_⟩
    cases k with
    | zero=>exact .inr fun _ _=>rfl
    | succ k'=>exact .inl ⟨k',rfl,ih0 k' rfl j n fa fd ps a5⟩),(fun x c hx=>by
    obtain ⟨C,a1,a2⟩:=D.exc x c hx
    obtain ⟨bmB,newId,bm,base,initId,a3,a4,a5,_⟩:=D.MC c C a2
    exact ⟨C,bmB,newId,bm,base,initId,a1,a2,⟨C,a2,rfl⟩,a3,a4,a5⟩),(fun c cv hc=>by
    obtain ⟨C,a2,rfl⟩:=hc
    obtain ⟨bmB,newId,bm,base,initId,a3,a4,a5,a6⟩:=D.MC c C a2
    refine ⟨C,bmB,newId,bm,rfl,a3,fun d D' hd=>(a6 d D' hd).trans ?_⟩
    cases k <;> rfl),(fun x f m d hd=>by
    obtain ⟨fa,fd,ps,du,a1,a2,a3,a4,a5⟩:=D.El x f m d hd
    exact ⟨fa,fd,ps,du,a1,a2,a3,a4,ih f m fa fd ps a5⟩),fun _=>⟨rfl,rfl⟩⟩
  refine ⟨_,(sound 200 O).ss _ _ xg,_,M,F,ρ,S,xF (n:=fn.ns-fn.np) rd (by rw [h8,h7,hl]),?_⟩
  have hds:ds.length=m:=by rw [ak.length rd,hl]
  have hc:(aa P (k+1)).call i ds M=mq (aa P k) fn ds M:=by simp only [aa,h4]
  rw [hc] at post
  have hz:ds.length+fn.lU.length-fn.np=0:=by rw [h9,h7,hds];simp
  unfold mq at post
  rw [if_pos (by rw [h9,h7,hds];simp),hz,h9] at post
  simp only [List.drop_nil,List.append_nil] at post
  cases hx:exs (aa P k) fn.body (ds.map some++List.replicate (fn.ns-fn.np) none) M with
  | bad=>rw [hx] at post;exact post
  | exc c M'=>rw [hx] at post;exact post
  | ok o M' =>
   rw [hx] at post
   intro F' ρ' H' e S'
   cases o with
   | rt d=>exact fun v q=>mW S post e S' q
   | nx Z'=>exact fun Z q=>mW S post e S' (d:=.aq) (v:=.aq) (by simp only [RD])
   | bk _=>exact post.elim
   | ct _=>exact post.elim
   | xc c Z' =>
    intro Z cv x q1 q2
    exact ⟨H',.refl _,vO S post e S' q2⟩
theorem lX {cl xc:Nat->Option Addr} (D:Md G P w K mg cl xc):∀ (k:Nat) (i m:Nat) (fa:Addr) (fd:FuncData) (ps:List Str),FnAt G P K i m fa fd ps->cB prog w K mg base (iF prog w) k fa fd ps (xJ (mJ w K cl xc) (aa P k) i m)
 | 0, i, m, fa, fd, ps, h=>by
  have no:∀ vs H Q E,¬ xJ (mJ w K cl xc) (aa P 0) i m vs H Q E:=fun vs H Q E q=>by
   obtain ⟨_,ds,M,F,ρ,_,_,q⟩:=q
   exact q
  exact ⟨fun vs H Q E q=>absurd q (no vs H Q E),fun A outer s H args us vs Q E _ _ _ _ q=>absurd q (no vs H Q E)⟩
 | 1,i,m,fa,fd,ps,h=>by
  obtain ⟨x,qual,st,N,fn,h2,h4,h5,h6,h7,h8,h9,xg⟩:=h
  exact nH D (lX D 0) (fun j e=>by cases e) h2 h4 h5 h6 h7 h8 h9 xg
 | k+2,i,m,fa,fd,ps,h=>by
  obtain ⟨x,qual,st,N,fn,h2,h4,h5,h6,h7,h8,h9,xg⟩:=h
  exact nH D (lX D (k+1)) (fun j e=>by cases e;exact lX D k) h2 h4 h5 h6 h7 h8 h9 xg
noncomputable def DG (K:W.Frag):Sp:=fun vs H Q _=>∃ (a:Addr) (ns:List Int),vs=[.ref a]/\fT K H a (ns.map V.int)/\ns.length<=63/\∀ H',Q (.bl true) H'
theorem GB {cl xc:Nat->Option Addr} (D:Md G P w K mg cl xc) {f qual:Str} {i k:Nat} (hP:∀ ns:List Int,ns.length<=63->∃ M',(aa P (k+1)).call i [.lst (ns.map .int)] []=.ok (.bl true) M')
  {fa:Addr} {fd:FuncData} {ps:List Str} {st:Stmt} {N:List Str} {fn:Fn} (h2:Dq K f qual st fa fd) (h4:P.fn i=some fn) (h5:dH N ps (aF st)) (h6:ps.length=1) (h7:fn.np=1) (h8:fn.ns=N.length) (h9:fn.lU=[]) (xg:iE G 200 false N (aF st) (.ss (cg st) fn.body)=true) :
  cB prog w K mg base (iF prog w) (k+1) fa fd ps (DG K):=by
 refine (nH (prog:=prog) (base:=base) D (lX D k) (fun j _=>lX D j) h2 h4 h5 h6 h7 h8 h9 xg).imp fun vs H Q E q=>?_
 obtain ⟨a,ns,rfl,hS,hl,q⟩:=q
 obtain ⟨M',hM⟩:=hP ns hl
 have D6:∀ (F:Addr->Prop) (ns:List Int),ak (mJ w K cl xc) F [] H (ns.map Fg.D.int) (ns.map V.int):=by
  intro F ns
  induction ns with
  | nil=>exact ak.nil
  | cons n ns ih=>exact ak.cons (by simp only [RD]) ih
 have fin:∀ F:Addr->Prop,Post (mJ w K cl xc) ((aa P (k+1)).call i [.lst (ns.map .int)] []) F [] H Q E:=by
  intro F
  rw [hM]
  intro F' ρ' H' v e S' rd
  simp only [RD] at rd
  subst rd
  exact q H'
 rcases hS with hS | hS
 ·refine ⟨rfl,[.lst (ns.map .int)],[],fun b=>b=a,[],⟨rfl,List.nodup_nil,fun _ z=>by simp at z,fun b e=>by rw [e];exact DK hS,fun n b o z=>by simp at z⟩,?_,fin _⟩
  refine ak.cons ?_ ak.nil
  simp only [RD]
  exact ⟨a,_,rfl,.inl ⟨rfl,hS⟩,D6 _ ns⟩
 ·refine ⟨rfl,[.lst (ns.map .int)],[],fun _=>False,[],⟨rfl,List.nodup_nil,fun _ z=>by simp at z,fun b e=>e.elim,fun n b o z=>by simp at z⟩,?_,fin _⟩
  refine ak.cons ?_ ak.nil
  simp only [RD]
  exact ⟨a,_,rfl,.inr hS,D6 _ ns⟩
end
end Fg
end
section
namespace Fg
open PySem PySem.Spec L2
theorem sY:∀ {ps:List Str} {us:List Value} {n:Str},n∉ps->(ps.zip us).lookup n=none
 | [],_,_,_=>rfl
 | _::_,[],_,_=>rfl
 | p::ps,u::us,n,h=>by
  rw [List.zip_cons_cons,List.lookup_cons,show (n == p)=false from beq_eq_false_iff_ne.mpr fun e=>h (e ▸ List.mem_cons_self)]
  exact sY fun z=>h (List.mem_cons_of_mem _ z)
theorem kG:∀ {ps:List Str} {us:List Value} {n:Str},n∈ps->ps.length<=us.length->((ps.zip us).lookup n).isNone=false
 | p::ps,[],n,_,hl=>by simp at hl
 | p::ps,u::us,n,h,hl=>by
  rw [List.zip_cons_cons,List.lookup_cons]
  cases e:n == p with
  | true=>rfl
  | false =>
   have e:=beq_eq_false_iff_ne.mp e
   exact kG ((List.mem_cons.mp h).resolve_left e) (by simpa using hl)
theorem qw {α β:Type} {f g:α->Option β}:∀ {l:List α},(∀ n∈l,f n=g n)->l.filterMap f=l.filterMap g
 | [],_=>rfl
 | a::l,h=>by
  rw [List.filterMap_cons,List.filterMap_cons,h a List.mem_cons_self,qw fun n hn=>h n (List.mem_cons_of_mem _ hn)]
theorem j6:∀ {ps:List Str} {us:List Value},ps.Nodup->us.length=ps.length->(ps.filterMap fun n=>((ps.zip us).lookup n).map (n,·))=ps.zip us
 | [],_,_,_=>rfl
 | p::ps,[],_,hl=>by simp at hl
 | p::ps,u::us,nd,hl=>by
  rw [List.nodup_cons] at nd
  rw [List.zip_cons_cons,List.filterMap_cons,List.lookup_cons,beq_self_eq_true]
  simp only [Option.map_some]
  congr 1
  refine Eq.trans ?_ (j6 (us:=us) nd.2 (by simpa using hl))
  exact qw fun n hn=>by rw [List.lookup_cons,show (n == p)=false from beq_eq_false_iff_ne.mpr fun e=>nd.1 (e ▸ hn)]
noncomputable def kT (a:Arguments) (ps:List Str):Bool:=a.posonlyargs.isEmpty&&a.kwonlyargs.isEmpty&&a.vararg.isNone&&a.kwarg.isNone&&decide (a.args.map (·.arg)=ps)
section
variable {s:Shared} {fd:FuncData} {ps:List Str} {us:List Value}
theorem jx {us:List Value} {qs:List Str} (h:∀ n∈qs,((ps.zip us).lookup n).isNone=false):(qs.filter fun n=>((ps.zip us).lookup n).isNone)=[]:=by
 rw [List.filter_eq_nil_iff]
 intro n hn
 rw [h n hn]
 decide
theorem jM (hp:kT fd.params ps=true) (nd:ps.Nodup) (hd:fd.defaults=.none) (hl:us.length=ps.length):BindsTo s fd ⟨us,[]⟩ (ps.zip us):=by
 simp only [kT,Bool.and_eq_true,List.isEmpty_iff,Option.isNone_iff_eq_none,decide_eq_true_eq] at hp
 obtain ⟨⟨⟨⟨h1,h2⟩,h3⟩,h4⟩,h5⟩:=hp
 refine BindsTo.of_eq ?_
 unfold bindArgs
 simp only [h1,h2,h3,h4,h5,hd,List.map_nil,List.nil_append,List.append_nil,List.forIn_nil,Option.isNone_none,Bool.and_true,pure_bind]
 rw [show seqItems? Value.none=pure none from rfl,pure_bind]
 simp only [Option.getD_none,List.length_nil,Nat.zero_sub,List.drop_zero,Nat.sub_zero,List.take_length]
 rw [jx fun n hn=>kG hn (Nat.le_of_eq hl.symm),if_neg (by rw [hl];simp)]
 simp only [List.isEmpty_nil,Bool.not_true,Bool.false_eq_true,if_false,List.drop_length,List.zip_nil_left,List.forIn_nil,pure_bind]
 rw [j6 nd hl]
theorem nq (hp:kT fd.params ps=true) (nd:ps.Nodup) {T:Addr} {o:Obj} {its:Array Value} {n:Nat} {du:Value} (hd:fd.defaults=.ref T) (ho:s.heap.get? T=some o) (hs:o.data=.seq its n) (hi:its.toList=[du])
  {ds:List Value} (hds:ds=[]\/ds=[du]) (hl:(us++ds).length=ps.length) (h0:ps≠[]):BindsTo s fd ⟨us,[]⟩ (ps.zip (us++ds)):=by
 simp only [kT,Bool.and_eq_true,List.isEmpty_iff,Option.isNone_iff_eq_none,decide_eq_true_eq] at hp
 obtain ⟨⟨⟨⟨h1,h2⟩,h3⟩,h4⟩,h5⟩:=hp
 obtain ⟨qs,z,rfl⟩:∃ qs z,ps=qs++[z]:=by
  rcases List.eq_nil_or_concat ps with e | ⟨qs,z,e⟩
  ·exact absurd e h0
  ·exact ⟨qs,z,by simpa using e⟩
 intro M A E Q hq
 unfold bindArgs
 simp only [h1,h2,h3,h4,h5,hd,List.map_nil,List.nil_append,List.append_nil,List.forIn_nil,Option.isNone_none,Bool.and_true,pure_bind]
 refine wpAny_bind (wpAny_seqItems ho hs ?_)
 simp only [Option.getD_some,hi,List.length_append,List.length_cons,List.length_nil] at hl ⊢
 have hz:z∉qs:=fun m=>by
  rw [List.nodup_append] at nd
  exact nd.2.2 z m z List.mem_cons_self rfl
 rw [show (0+1-(qs.length+(0+1)))=0 by omega,List.drop_zero,List.length_cons,List.length_nil,show qs.length+(0+1)-(0+1)=qs.length by omega,List.take_left,List.drop_left,
  jx (fun n hn=>?_),if_neg (by simp;rcases hds with rfl | rfl <;> simp at hl <;> omega)]
 ·simp only [List.isEmpty_nil,Bool.not_true,Bool.false_eq_true,if_false,List.zip_cons_cons,List.zip_nil_right,List.forIn_cons,List.forIn_nil,pure_bind]
  rcases hds with rfl | rfl
  ·rw [List.append_nil] at hq
   rw [kG (by simp) (by simp at hl ⊢;omega)]
   simp only [Bool.false_eq_true,if_false,pure_bind]
   rw [j6 nd (by simpa using hl)]
   exact wpAny_pure hq
  ·have hl':us.length=qs.length:=by simp at hl;omega
   have e:(qs++[z]).zip us=qs.zip us:=by
    rw [show us=us++[] by simp,List.zip_append hl'.symm];simp
   have e2:(qs++[z]).zip (us++[du])=qs.zip us++[(z,du)]:=by
    rw [List.zip_append hl'.symm];simp
   rw [e,sY hz]
   simp only [Option.isNone_none,if_true,pure_bind]
   rw [<- e2,j6 nd (by simpa using hl)]
   exact wpAny_pure hq
 ·rcases hds with rfl | rfl
  ·exact kG (by simp [hn]) (by simp at hl ⊢;omega)
  ·have hl':us.length=qs.length:=by simp at hl;omega
   have e:(qs++[z]).zip us=qs.zip us:=by
    rw [show us=us++[] by simp,List.zip_append hl'.symm];simp
   rw [e]
   exact kG hn (Nat.le_of_eq hl'.symm)
end
end Fg
end
section
namespace Fg
open PySem PySem.Spec L2
theorem Eo {K:W.Frag} {x:Str} {a:Addr} (h:adr K x=some a):W.nsIn K mainGlobals x=some (some (.ref a)):=by
 unfold adr at h
 split at h
 ·rename_i e;cases h;exact e
 ·cases h
theorem qI {K:W.Frag} {v:Value} (h:ju K v=some none):v=.none:=by
 unfold ju at h
 split at h
 ·rfl
 ·split at h
  ·split at h <;> cases h
  ·cases h
 ·cases h
theorem qH {K:W.Frag} {v:Value} {d:Int} (h:ju K v=some (some d)):∃ T oc od its n sl tk,v=.ref T/\K.lookup T=some ⟨oc,od,.seq its n,sl⟩/\its.toList=[.int d tk]:=by
 unfold ju at h
 split at h
 ·cases h
 ·split at h
  ·rename_i T _ oc od its n sl lk
   split at h
   ·rename_i _ d' tk hi
    cases h
    exact ⟨T,oc,od,its,n,sl,tk,rfl,lk,hi⟩
   ·cases h
  ·cases h
 ·cases h
theorem zH {K:W.Frag} {f:Addr} {r:Row} (h:qu K f=some r.good):∃ oc od dV kV doc pm an cdv ct osl,
  K.lookup f=some ⟨oc,od,.func (W.fnOf r.x r.ql (iX r.st) (cg r.st) (aF r.st) dV kV doc pm an cdv ct),osl⟩/\W.codeIn K cdv r.ql=true/\ju K dV=some r.lU:=by
 unfold qu at h
 split at h
 ·rename_i oc od fd osl lk
  simp only [Row.good,Option.some.injEq,Prod.mk.injEq] at h
  obtain ⟨h1,h2,h3,h4,h5,h6,h7,h8,h9,xg⟩:=h
  obtain ⟨f1,f2,f3,f4,f5,f6,f7,f8,f9,f10,f11,f12,f13,f14,f15⟩:=fd
  dsimp only at h1 h2 h3 h4 h5 h6 h7 h8 h9 xg
  subst h1 h2 h3 h4 h5 h6 h7 h8
  exact ⟨oc,od,f8,f9,f10,f11,f12,f13,f14,osl,lk,xg,h9⟩
 ·cases h
noncomputable def scB (N P:List Str) (sc:Scope):Bool:=decide (sc.kind=.function)&&!sc.isCoroutine&&!sc.isGenerator&&decide N.Nodup&&decide (N.take P.length=P) &&
 (P.all fun x=>decide (sc.names.lookup x=some .local)||decide (sc.names.lookup x=some .cell))&&sc.names.all fun y=>decide (y.2≠.free)
theorem JF {N P:List Str} {sc:Scope} (h:scB N P sc=true):dH N P sc:=by
 simp only [scB,Bool.and_eq_true,decide_eq_true_eq,Bool.not_eq_true',List.all_eq_true,Bool.or_eq_true] at h
 obtain ⟨⟨⟨⟨⟨⟨h1,h2⟩,h3⟩,h4⟩,h5⟩,h6⟩,h7⟩:=h
 exact ⟨h1,h2,h3,h4,h5,h6,h7⟩
noncomputable def Row.ok (G:Gm) (P:nB) (r:Row):Bool:=match P.fn r.i with
 | some fn=>scB r.N r.ps (aF r.st)&&kT (iX r.st) r.ps&&decide (fn.np=r.ps.length)&&decide (fn.ns=r.N.length)&&fn.lU.isEmpty&&(r.lU.isNone||!r.ps.isEmpty)&&iE G 200 false r.N (aF r.st) (.ss (cg r.st) fn.body)
 | none=>false
structure Rw (G:Gm) (P:nB) (K:W.Frag) (r:Row) (f:Addr) (fd:FuncData):Prop where
 at_:FnAt G P K r.i r.ps.length f fd r.ps
 bd:Binds K fd r.ps []
 kp:W.keepIn K (.ref f)=true
 bn:r.lU=none->∀ (s:Shared) (us:List Value),us.length=r.ps.length->BindsTo s fd ⟨us,[]⟩ (r.ps.zip us)
 df:∀ d,r.lU=some d->∃ tk,Binds K fd r.ps [.int d tk]
theorem Cv {K:W.Frag} {f:Addr} {oc:Value} {od:Option Addr} {fd:FuncData} {sl:Array (Option Value)} (h:K.lookup f=some ⟨oc,od,.func fd,sl⟩):W.keepIn K (.ref f)=true:=by
 simp only [W.keepIn,h]
theorem xX {G:Gm} {P:nB} {K:W.Frag} {r:Row} {f:Addr} (h:qu K f=some r.good) (ok:r.ok G P=true):∃ fd,Rw G P K r f fd:=by
 obtain ⟨oc,od,dV,kV,doc,pm,an,cdv,ct,osl,lk,hc,hd⟩:=zH h
 unfold Row.ok at ok
 split at ok
 ·rename_i fn hf
  simp only [Bool.and_eq_true,decide_eq_true_eq,List.isEmpty_iff] at ok
  obtain ⟨⟨⟨⟨⟨⟨k1,k2⟩,k3⟩,k4⟩,k5⟩,k6⟩,k7⟩:=ok
  have S:=JF k1
  have nd:r.ps.Nodup:=by rw [<- S.pre];exact S.nd.sublist (List.take_sublist _ _)
  refine ⟨_,⟨_,_,_,_,_,⟨⟨oc,od,dV,kV,doc,pm,an,cdv,ct,osl,rfl,lk,hc⟩⟩,hf,S,rfl,k3,k4,k5,k7⟩,?_,Cv lk,fun e s us hl=>?_,fun d e=>?_⟩
  ·intro s us KX hl
   cases e:r.lU with
   | none =>
    rw [e] at hd
    rw [List.append_nil] at hl ⊢
    exact jM k2 nd (qI hd) hl
   | some d =>
    rw [e] at hd k6
    obtain ⟨T,o1,o2,its,n,sl,tk,rfl,lT,hi⟩:=qH hd
    exact nq k2 nd rfl (KX _ _ lT) rfl hi (.inl rfl) hl (by simpa using k6)
  ·rw [e] at hd
   exact jM k2 nd (qI hd) hl
  ·rw [e] at hd k6
   obtain ⟨T,o1,o2,its,n,sl,tk,rfl,lT,hi⟩:=qH hd
   exact ⟨tk,fun s us KX hl=>nq k2 nd rfl (KX _ _ lT) rfl hi (.inr rfl) hl (by simpa using k6)⟩
 ·cases ok
end Fg
end
section
namespace Fg
open PySem PySem.Spec L2
theorem mem_of_lookup {α β:Type} [BEq α] [LawfulBEq α] {x:α} {b:β}:∀ {l:List (α×β)},l.lookup x=some b->(x,b)∈l
 | [],h=>by cases h
 | (y, c)::l, h=>by
  rw [List.lookup_cons] at h
  by_cases e:x=y
  ·subst e;simp at h;subst h;exact List.mem_cons_self
  ·rw [show (x == y)=false from beq_eq_false_iff_ne.mpr e] at h
   exact List.mem_cons_of_mem _ (mem_of_lookup h)
theorem cE {α β:Type} {f g:α->β}:∀ {l:List α},l.map f=l.map g->∀ a∈l,f a=g a
 | [],_,_,h=>by cases h
 | b::l,e,a,h=>by
  rw [List.map_cons,List.map_cons,List.cons.injEq] at e
  rcases List.mem_cons.mp h with rfl | h
  ·exact e.1
  ·exact cE e.2 a h
noncomputable def Tb.gm (t:Tb):Gm:=⟨t.fn.map fun r=>(r.x,r.i,r.ps.length),(t.cs.map fun c=>(c.1,c.2.1))++(t.ct.map fun c=>(c.1,c.2.1))++(t.cd.map fun c=>(c.1,c.2.1)),t.bl,
 t.mt.filterMap fun r=>if r.2.x=("__init__" : Str) then (t.cl[r.1]?).map fun x=>(x, r.1, r.2.i, r.2.ps.length) else none,
 t.mt.filterMap fun r=>if r.2.x=("__init__" : Str) then none else some ((r.1, r.2.x), r.2.i, r.2.ps.length), t.fl, t.xc.zipIdx,
 t.fn.filterMap fun r=>r.lU.map fun d=>(r.x,r.i,r.ps.length,d),true⟩
noncomputable def EK:D->Option Str
 | .str x=>some x
 | _=>none
noncomputable def intD:D->Option Int
 | .int x=>some x
 | _=>none
noncomputable def Tb.okC (t:Tb) (P:nB):Bool:=(t.cs.all fun c=>match P.glob c.2.1 with
 | some (.int n)=>decide (n=c.2.2)
 | _=>false)&&(t.ct.all fun c=>decide (c.2.2.length<=sizeLine)&&match P.glob c.2.1 with
 | some (.tup ds)=>decide (ds.map EK=c.2.2.map some)
 | _=>false)&&t.cd.all fun c=>decide (c.2.2.length<=sizeLine)&&decide (c.2.2.map fun z=>z.1).Nodup&&match P.glob c.2.1 with
 | some (.dct ks ds)=>decide (ks=c.2.2.map fun z=>Sum.inr z.1)&&decide (ds.map intD=c.2.2.map fun z=>some z.2)
 | _=>false
noncomputable def Tb.ok (t:Tb) (G:Gm) (P:nB):Bool:=(t.fn.all fun r=>r.ok G P)&&(t.mt.all fun r=>r.2.ok G P)&&t.okC P
theorem mQ:∀ {us:List Value} {xs:List Str},us.map strOf=xs.map some->Vals (xs.map .str) us
 | [],[],_=>.nil
 | [],_::_,h=>by cases h
 | _::_,[],h=>by cases h
 | u::us,x::xs,h=>by
  rw [List.map_cons,List.map_cons,List.cons.injEq] at h
  refine .cons ?_ (mQ h.2)
  have h1:=h.1
  unfold strOf at h1
  split at h1
  ·cases h1;exact ⟨_,rfl⟩
  ·cases h1
theorem vc {w:World}:∀ {es:List DictEntry} {kvs:List (Str×Int)},(es.map fun e=>(e.hash,strOf e.key,intOf e.val))=(kvs.map fun z=>(PyData.keyHash w.params z.1,some z.1,some z.2)) ->
  W.KeysLit w.params es/\Dr es (kvs.map fun z=>(Sum.inr z.1,.int z.2))
 | [],[],_=>⟨trivial,.nil⟩
 | [],_::_,h=>by cases h
 | _::_,[],h=>by cases h
 | ⟨hh, k, v⟩::es, z::kvs, h=>by
  rw [List.map_cons,List.map_cons,List.cons.injEq,Prod.mk.injEq,Prod.mk.injEq] at h
  obtain ⟨⟨h1,h2,h3⟩,h4⟩:=h
  obtain ⟨q1,q2⟩:=vc h4
  dsimp only at h1 h2 h3
  unfold strOf at h2
  unfold intOf at h3
  split at h2
  ·cases h2
   split at h3
   ·cases h3
    exact ⟨⟨⟨_,_,rfl,h1⟩,q1⟩,.cons ⟨_,rfl⟩ q2⟩
   ·cases h3
  ·cases h2
section
variable {B:Bd} {F:Addr->Prop} {ρ:List Addr} {H:Hp}
theorem pX:∀ {ds:List D} {xs:List Str},ds.map EK=xs.map some->ak B F ρ H ds (xs.map .str)
 | [],[],_=>ak.nil
 | [],_::_,h=>by cases h
 | _::_,[],h=>by cases h
 | d::ds,x::xs,h=>by
  rw [List.map_cons,List.map_cons,List.cons.injEq] at h
  refine ak.cons ?_ (pX h.2)
  have h1:=h.1
  unfold EK at h1
  split at h1
  ·cases h1;simp only [RD]
  ·cases h1
theorem pY:∀ {ds:List D} {kvs:List (Str×Int)},ds.map intD=(kvs.map fun z=>some z.2)->ak B F ρ H ds (kvs.map fun z=>.int z.2)
 | [],[],_=>ak.nil
 | [],_::_,h=>by cases h
 | _::_,[],h=>by cases h
 | d::ds,x::xs,h=>by
  rw [List.map_cons,List.map_cons,List.cons.injEq] at h
  refine ak.cons ?_ (pY h.2)
  have h1:=h.1
  unfold intD at h1
  split at h1
  ·cases h1;simp only [RD]
  ·cases h1
end
theorem lY {α:Type} {K:W.Frag} {x:Str} {f:Addr->Option α} {v:α} (h:(adr K x).bind f=some v):∃ a,adr K x=some a/\f a=some v:=Option.bind_eq_some_iff.mp h
theorem o4 {α:Type} {K:W.Frag} {x:Str} {f:Addr->α} {v:α} (h:(adr K x).map f=some v):∃ a,adr K x=some a/\f a=v:=Option.map_eq_some_iff.mp h
section
variable {t:Tb} {P:nB} {w:World} {K:W.Frag} {h:Heap} {mg:Str->Option Value}
theorem yL (e:t.tZ K=t.good P w) (ok:t.ok t.gm P=true) (r:Row) (hr:r∈t.fn):∃ f fd,adr K r.x=some f/\Rw t.gm P K r f fd:=by
 simp only [Tb.tZ,Tb.good,Prod.mk.injEq] at e
 obtain ⟨f,h1,h2⟩:=lY (cE e.1 r hr)
 simp only [Tb.ok,Bool.and_eq_true,List.all_eq_true] at ok
 obtain ⟨fd,R⟩:=xX h2 (ok.1.1 r hr)
 exact ⟨f,fd,h1,R⟩
theorem DY (e:t.tZ K=t.good P w) (ok:t.ok t.gm P=true) (r:Nat×Row) (hr:r∈t.mt):∃ x C f fd,t.cl[r.1]? = some x/\adr K x=some C/\W.findIn K (.ref C) r.2.x=some (some (.ref f))/\W.isFn K (.ref f)=true/\Rw t.gm P K r.2 f fd:=by
 simp only [Tb.tZ,Tb.good,Prod.mk.injEq] at e
 have h1:=cE e.2.2.1 r hr
 unfold yK at h1
 obtain ⟨C,h2,h3⟩:=Option.bind_eq_some_iff.mp h1
 obtain ⟨x,h4,h5⟩:=Option.bind_eq_some_iff.mp h2
 simp only [Tb.ok,Bool.and_eq_true,List.all_eq_true] at ok
 split at h3
 ·rename_i f hf
  obtain ⟨z,h6,h7⟩:=Option.map_eq_some_iff.mp h3
  rw [Prod.mk.injEq] at h7
  rw [h7.1] at h6
  obtain ⟨fd,R⟩:=xX h6 (ok.1.2 r hr)
  exact ⟨x,C,f,fd,h4,h5,hf,h7.2,R⟩
 ·cases h3
theorem DZ (e:t.tZ K=t.good P w) {c:Nat} {C:Addr} (hc:(t.cl[c]?).bind (adr K)=some C):oQ t K C=kC t:=by
 obtain ⟨x,h1,h2⟩:=Option.bind_eq_some_iff.mp hc
 simp only [Tb.tZ,Tb.good,Prod.mk.injEq] at e
 obtain ⟨C',h3,h4⟩:=o4 (cE e.2.1 x (List.mem_of_getElem? h1))
 rw [h2] at h3
 cases h3
 exact h4
theorem qT {xs:List Str} {x:Str} {c:Nat} (h:xs[c]? = some x):(x,c)∈xs.zipIdx:=List.mk_mem_zipIdx_iff_getElem?.mpr h
theorem Ks (e:t.tZ K=t.good P w) {c:Nat} {X:Addr} (hc:(t.xc[c]?).bind (adr K)=some X):W.excIn K X BMV "ValueError.__new__" = true/\W.mroIn K X (.type "BaseException")=some true /\
  ∀ d D,(t.xc[d]?).bind (adr K)=some D->W.mroIn K X (.ref D)=some (P.sub c d):=by
 obtain ⟨x,h1,h2⟩:=Option.bind_eq_some_iff.mp hc
 simp only [Tb.tZ,Tb.good,Prod.mk.injEq] at e
 obtain ⟨C',h3,h4⟩:=o4 (cE e.2.2.2.1 (x,c) (qT h1))
 rw [show adr K (x,c).1=some X from h2] at h3
 cases h3
 simp only [zL,Prod.mk.injEq] at h4
 refine ⟨h4.1,h4.2.1,fun d D hd=>?_⟩
 obtain ⟨y,h5,h6⟩:=Option.bind_eq_some_iff.mp hd
 have z:(t.xc.zipIdx.map fun y=>(adr K y.1).bind fun Y=>W.mroIn K X (.ref Y))=t.xc.zipIdx.map fun y=>some (P.sub c y.2):=by
  rw [<- h4.2.2]
  conv=>rhs;rw [<- List.zipIdx_map_fst 0 t.xc]
  rw [List.map_map]
  rfl
 have q:=cE z (y,d) (qT h5)
 rw [show adr K (y,d).1=some D from h6] at q
 exact q
theorem Tb.md (X:K.In h) (G:h.Ns mainGlobals mg) (e:t.tZ K=t.good P w) (ok:t.ok t.gm P=true):Md t.gm P w K mg (fun c=>(t.cl[c]?).bind (adr K)) (fun c=>(t.xc[c]?).bind (adr K)):=by
 have Iz:∀ {x a},adr K x=some a->mg x=some (.ref a):=fun q=>W.mg_of X G (Eo q)
 refine ⟨fun x i hx=>?_,fun x hx=>?_,fun f i m hx=>?_,fun c C hx=>?_,fun c nm i m hx=>?_,fun x c i m hx=>?_,fun x c hx=>?_,fun c C hx=>?_,fun x f m d hx=>?_,rfl⟩
 ·have e':=e
  simp only [Tb.tZ,Tb.good,Prod.mk.injEq] at e'
  simp only [Tb.ok,Tb.okC,Bool.and_eq_true,List.all_eq_true] at ok
  obtain ⟨_,⟨ok1,ok2⟩,ok3⟩:=ok
  rcases List.mem_append.mp (mem_of_lookup hx) with hm | hm
  ·rcases List.mem_append.mp hm with hm | hm
   ·obtain ⟨c,hc,q⟩:=List.mem_map.mp hm
    cases q
    have h1:=cE e'.2.2.2.2.1 c hc
    unfold Ad at h1
    split at h1
    ·rename_i n tk hn
     cases h1
     refine ⟨.int c.2.2,_,W.mg_of X G hn,⟨_,rfl⟩,fun d hd F ρ H=>?_⟩
     have h2:=ok1 c hc
     rw [hd] at h2
     split at h2
     ·rename_i n' hn'
      cases hn'
      rw [of_decide_eq_true h2]
      simp only [RD]
     ·cases h2
    ·cases h1
   ·obtain ⟨c,hc,q⟩:=List.mem_map.mp hm
    cases q
    obtain ⟨a,h1,h2⟩:=lY (cE e'.2.2.2.2.2.2.1 c hc)
    unfold xo at h2
    split at h2
    ·rename_i cl od its n sl lk
     rw [Option.some.injEq,Prod.mk.injEq] at h2
     obtain ⟨rfl,h2⟩:=h2
     have h3:=ok2 c hc
     refine ⟨.ref a,_,Iz h1,rfl,fun d hd F ρ H=>?_⟩
     rw [hd] at h3
     obtain ⟨h3,h4⟩:=h3
     split at h4
     ·rename_i ds hn'
      cases hn'
      have v:=mQ h2
      simp only [RD]
      exact ⟨a,_,rfl,.inr ⟨_,_,_,lk,rfl,rfl,by rw [<- Array.length_toList,<- v.length,List.length_map];exact of_decide_eq_true h3,v⟩,pX (of_decide_eq_true h4)⟩
     ·cases h4
    ·cases h2
  ·obtain ⟨c,hc,q⟩:=List.mem_map.mp hm
   cases q
   obtain ⟨a,h1,h2⟩:=lY (cE e'.2.2.2.2.2.2.2 c hc)
   unfold Ac at h2
   split at h2
   ·rename_i cl od es n sl lk
    simp only [vd,Option.some.injEq,Prod.mk.injEq] at h2
    obtain ⟨rfl,rfl,rfl,hs,h2⟩:=h2
    have h3:=ok3 c hc
    refine ⟨.ref a,_,Iz h1,rfl,fun d hd F ρ H=>?_⟩
    rw [hd] at h3
    obtain ⟨⟨h3,h5⟩,h4⟩:=h3
    split at h4
    ·rename_i ks ds hn'
     cases hn'
     simp only [Bool.and_eq_true,decide_eq_true_eq] at h4
     obtain ⟨q1,q2⟩:=vc h2
     simp only [RD]
     refine ⟨a,_,rfl,.inr ⟨?_,hs,?_,es,n,lk,q1,q2⟩,?_,?_⟩
     ·rw [List.length_map];exact of_decide_eq_true h3
     ·rw [List.map_map]
      have:=of_decide_eq_true h5
      rw [show ((fun z:Key×V=>z.1) ∘ fun z:Str×Int=>((Sum.inr z.1:Key),V.int z.2))=(fun s=>(Sum.inr s:Key)) ∘ fun z:Str×Int=>z.1 from rfl,<- List.map_map]
      exact List.pairwise_map.mpr (this.imp fun h e=>h (Sum.inr.inj e))
     ·rw [List.map_map,h4.1];rfl
     ·rw [List.map_map];exact pY h4.2
    ·cases h4
   ·cases h2
 ·have e':=e
  simp only [Tb.tZ,Tb.good,Prod.mk.injEq] at e'
  exact W.mg_none_of X G (cE e'.2.2.2.2.2.1 x (List.contains_iff_mem.mp hx))
 ·obtain ⟨r,hr,q⟩:=List.mem_map.mp (mem_of_lookup hx)
  cases q
  obtain ⟨fa,fd,h1,R⟩:=yL e ok r hr
  exact ⟨fa,fd,r.ps,Iz h1,R.kp,R.bd,R.at_⟩
 ·have q:=DZ e hx
  simp only [oQ,kC,Prod.mk.injEq] at q
  obtain ⟨q1,q2,q3,q4,q5,q6,q7⟩:=q
  exact ⟨⟨q1,q2,q3,q4⟩,fun f hf=>cE q7 f (List.contains_iff_mem.mp hf)⟩
 ·obtain ⟨r,hr,q⟩:=List.mem_filterMap.mp (mem_of_lookup hx)
  split at q
  ·cases q
  ·cases q
   obtain ⟨x,C,f,fd,h1,h2,h3,h4,R⟩:=DY e ok r hr
   exact ⟨C,f,fd,r.2.ps,by rw [h1];exact h2,⟨h3,h4,R.kp⟩,R.bd,R.at_⟩
 ·obtain ⟨r,hr,q⟩:=List.mem_filterMap.mp (mem_of_lookup hx)
  split at q
  ·rename_i hi
   obtain ⟨y,h0,q⟩:=Option.map_eq_some_iff.mp q
   cases q
   obtain ⟨x',C,f,fd,h1,h2,h3,h4,R⟩:=DY e ok r hr
   rw [h0] at h1
   cases h1
   have hC:(t.cl[r.1]?).bind (adr K)=some C:=by rw [h0];exact h2
   have q:=DZ e hC
   simp only [oQ,kC,Prod.mk.injEq] at q
   rw [hi] at h3
   exact ⟨C,f,fd,r.2.ps,Iz h2,hC,⟨q.2.2.2.2.1,h3,h4,q.2.2.2.2.2.1⟩,R.bd,R.at_⟩
  ·cases q
 ·have hm:=List.mk_mem_zipIdx_iff_getElem?.mp (mem_of_lookup hx)
  have e':=e
  simp only [Tb.tZ,Tb.good,Prod.mk.injEq] at e'
  obtain ⟨C,h3,_⟩:=o4 (cE e'.2.2.2.1 (x,c) (qT hm))
  exact ⟨C,Iz h3,by rw [hm];exact h3⟩
 ·obtain ⟨q1,q2,q3⟩:=Ks e hx
  obtain ⟨bm,ec,em⟩:=HA q1
  exact ⟨_,_,bm,_,_,ec,PySem.F.excBase_ValueError,kD (em _ _ q2),fun d D hd=>em _ _ (q3 d D hd)⟩
 ·obtain ⟨r,hr,q⟩:=List.mem_filterMap.mp (mem_of_lookup hx)
  obtain ⟨d',hd,q⟩:=Option.map_eq_some_iff.mp q
  cases q
  obtain ⟨fa,fd,h1,R⟩:=yL e ok r hr
  obtain ⟨tk,hb⟩:=R.df _ hd
  exact ⟨fa,fd,r.ps,_,Iz h1,R.kp,hb,⟨_,rfl⟩,R.at_⟩
theorem Tb.walk (t:Tb) (P:nB) {l:W.OpenLaw} {q:Program} {loose:List Str} {XP:(Str->Option Value)->Heap->Prop} {d:DefRec} {r:Row} {x:Str} (k:Nat) (hn:l.most=some 63) (hdf:d.params.defaults=[]) (hk:cI (k+1) callerA)
  (ok:t.ok t.gm P=true) (hr:r∈t.fn) (hx:d.name=r.x) (h0:r.lU=none) (hps:r.ps=[x])
  (hP:∀ ns:List Int,ns.length<=63->∃ M',(aa P (k+1)).call r.i [.lst (ns.map .int)] []=.ok (.bl true) M') :
  W.WalkO q loose XP (t.hook P).says l.row.toRowW d [] (fun f vs=>PySem.call f vs):=by
 refine Att.qO hn hdf fun w s₀ s₁ mg mb fa o pm cd doc a vs ns G Y ho hd hcd hmg hobj hints hlen hg=>?_
 obtain ⟨K,KX,e⟩:=Y
 obtain ⟨f,fd,h1,R⟩:=yL e ok r hr
 have hf:mg d.name=some (.ref f):=by rw [hx];exact W.mg_of KX G.T.g (Eo h1)
 cases hmg.symm.trans hf
 obtain ⟨y,qual,st,N,fn,F,q1,q2,q3,q4,q5,q6,q7⟩:=R.at_
 have D:=Tb.md (w:=w) KX G.T.g e ok
 have bd:=R.bn h0
 rw [hps] at bd q2 q3 q4
 exact zb (CX:=iF l.prog w) (sp:=DG K) (x:=x) (fd:=fd) KX G.T.g G.T.b G.T.builtins G.T.nolimit hg hobj hints (Nat.le_trans hlen (by decide)) hk (fun base _ _=>GB D hP F q1 q2 q3 q4 q5 q6 q7) (fun s u=>bd s [u] rfl)
  (fun H hO hS=>⟨a,ns,rfl,hS,hlen,fun _=>rfl⟩) fun H e s' ⟨_,_,_,_,_,_,_,_,_,_,_,_,z⟩=>z
end
end Fg
end
section
namespace bA
open Fg PySem
theorem fn0:ah.fn 0=some ji:=rfl
theorem ng:ah.fn 1=some gJ:=rfl
theorem fn2:ah.fn 2=some cZ:=rfl
theorem fn3:ah.fn 3=some iw:=rfl
theorem fn4:ah.fn 4=some jD:=rfl
theorem fn5:ah.fn 5=some zK:=rfl
theorem fn6:ah.fn 6=some ez:=rfl
theorem fn7:ah.fn 7=some uS:=rfl
theorem fn8:ah.fn 8=some eG:=rfl
theorem fn9:ah.fn 9=some c9:=rfl
theorem fn10:ah.fn 10=some cA:=rfl
theorem fn11:ah.fn 11=some cz:=rfl
theorem K1:ah.fn 12=some cJ:=rfl
theorem fn13:ah.fn 13=some g9:=rfl
theorem fn14:ah.fn 14=some gz:=rfl
theorem K0:ah.fn 15=some eE:=rfl
theorem CI:ah.fn 16=some fQ:=rfl
theorem KZ:ah.fn 17=some iU:=rfl
theorem fn18:ah.fn 18=some fP:=rfl
theorem fn19:ah.fn 19=some bY:=rfl
theorem KY:ah.fn 20=some bO:=rfl
theorem fn21:ah.fn 21=some eF:=rfl
noncomputable abbrev w (x:String):Str:=Str.ofString x
structure Mx where
 rows:D
 most:Int
 bg:Int
 pl:D
 pile:List D
 frs:List D
 ai:List D
 log:List D
 T:MH
noncomputable def Mx.o (s:Mx) (n:Nat):MO:=.ins 1 [(w "rows", s.rows), (w "most", .int s.most), (w "begun", .int s.bg), (w "place", s.pl), (w "pile", .ref (n+1)), (w "frames", .ref (n+2)), (w "lies_open", .ref (n+3)), (w "log", .ref (n+4))]
noncomputable def Mx.h (s:Mx) (M0:MH):MH:=M0++(s.o M0.length::.lst s.pile::.lst s.frs::.lst s.ai::.lst s.log::s.T)
section
variable {M0:MH} {s:Mx} {ds:List D} {t:Nat} {o:MO}
theorem off (i:Nat) (X:MH):(M0++X)[M0.length+i]? = X[i]?:=by
 rw [List.getElem?_append_right (Nat.le_add_right _ _),Nat.add_sub_cancel_left]
theorem offs (i:Nat) (X:MH) (o:MO):(M0++X).set (M0.length+i) o=M0++X.set i o:=by
 rw [List.set_append_right _ _ (Nat.le_add_right _ _),Nat.add_sub_cancel_left]
theorem g0:(s.h M0)[M0.length]? = some (s.o M0.length):=off 0 _
theorem g1:(s.h M0)[M0.length+1]? = some (.lst s.pile):=off 1 _
theorem g2:(s.h M0)[M0.length+2]? = some (.lst s.frs):=off 2 _
theorem g3:(s.h M0)[M0.length+3]? = some (.lst s.ai):=off 3 _
theorem g4:(s.h M0)[M0.length+4]? = some (.lst s.log):=off 4 _
theorem gT:(s.h M0)[M0.length+(t+5)]? = s.T[t]?:=off (t+5) _
theorem s0 {s':Mx}:(s.h M0).set M0.length (s'.o M0.length)=({ s with rows:=s'.rows,most:=s'.most,bg:=s'.bg,pl:=s'.pl }:Mx).h M0:=offs 0 _ _
theorem s1:(s.h M0).set (M0.length+1) (.lst ds)=({ s with pile:=ds }:Mx).h M0:=offs 1 _ _
theorem s2:(s.h M0).set (M0.length+2) (.lst ds)=({ s with frs:=ds }:Mx).h M0:=offs 2 _ _
theorem s3:(s.h M0).set (M0.length+3) (.lst ds)=({ s with ai:=ds }:Mx).h M0:=offs 3 _ _
theorem s4:(s.h M0).set (M0.length+4) (.lst ds)=({ s with log:=ds }:Mx).h M0:=offs 4 _ _
theorem sT:(s.h M0).set (M0.length+(t+5)) o=({ s with T:=s.T.set t o }:Mx).h M0:=offs (t+5) _ _
theorem len:(s.h M0).length=M0.length+(s.T.length+5):=by simp [Mx.h]
theorem app {X:MH}:s.h M0++X=({ s with T:=s.T++X }:Mx).h M0:=by simp [Mx.h,Mx.o]
theorem wz {a b:String} (h:decide (Str.ofString a=Str.ofString b)=false:=by decide +kernel):(Str.ofString a == Str.ofString b)=false:=by
 rw [beq_eq_false_iff_ne];exact of_decide_eq_false h
theorem wn {a b:String} (h:decide (Str.ofString a=Str.ofString b)=false:=by decide +kernel):(Str.ofString a=Str.ofString b)=False:=by
 simpa using h
theorem Hy {Φ:aS} {Z:Sg} {i:Nat} (h:Z[i]? = some (some (.ref M0.length))):ev Φ (.fld (.v i) (w "rows")) Z (s.h M0)=.ok s.rows (s.h M0):=by
 simp only [dc,gR,h,R.af,g0,Mx.o,List.lookup_cons,beq_self_eq_true]
theorem Hz {Φ:aS} {Z:Sg} {i:Nat} (h:Z[i]? = some (some (.ref M0.length))):ev Φ (.fld (.v i) (w "most")) Z (s.h M0)=.ok (.int s.most) (s.h M0):=by
 simp only [dc, gR, h, R.af, g0, Mx.o, List.lookup_cons, beq_self_eq_true, wz (a:="most") (b:="rows")]
theorem uT {Φ:aS} {Z:Sg} {i:Nat} (h:Z[i]? = some (some (.ref M0.length))):ev Φ (.fld (.v i) (w "begun")) Z (s.h M0)=.ok (.int s.bg) (s.h M0):=by
 simp only [dc, gR, h, R.af, g0, Mx.o, List.lookup_cons, beq_self_eq_true, wz (a:="begun") (b:="rows"), wz (a:="begun") (b:="most")]
theorem oA {Φ:aS} {Z:Sg} {i:Nat} (h:Z[i]? = some (some (.ref M0.length))):ev Φ (.fld (.v i) (w "place")) Z (s.h M0)=.ok s.pl (s.h M0):=by
 simp only [dc, gR, h, R.af, g0, Mx.o, List.lookup_cons, beq_self_eq_true, wz (a:="place") (b:="rows"), wz (a:="place") (b:="most"), wz (a:="place") (b:="begun")]
theorem sf {Φ:aS} {Z:Sg} {i:Nat} (h:Z[i]? = some (some (.ref M0.length))):ev Φ (.fld (.v i) (w "pile")) Z (s.h M0)=.ok (.ref (M0.length+1)) (s.h M0):=by
 simp only [dc, gR, h, R.af, g0, Mx.o, List.lookup_cons, beq_self_eq_true, wz (a:="pile") (b:="rows"), wz (a:="pile") (b:="most"), wz (a:="pile") (b:="begun"), wz (a:="pile") (b:="place")]
theorem eB {Φ:aS} {Z:Sg} {i:Nat} (h:Z[i]? = some (some (.ref M0.length))):ev Φ (.fld (.v i) (w "frames")) Z (s.h M0)=.ok (.ref (M0.length+2)) (s.h M0):=by
 simp only [dc, gR, h, R.af, g0, Mx.o, List.lookup_cons, beq_self_eq_true, wz (a:="frames") (b:="rows"), wz (a:="frames") (b:="most"), wz (a:="frames") (b:="begun"), wz (a:="frames") (b:="place"), wz (a:="frames") (b:="pile")]
theorem oB {Φ:aS} {Z:Sg} {i:Nat} (h:Z[i]? = some (some (.ref M0.length))):ev Φ (.fld (.v i) (w "lies_open")) Z (s.h M0)=.ok (.ref (M0.length+3)) (s.h M0):=by
 simp only [dc, gR, h, R.af, g0, Mx.o, List.lookup_cons, beq_self_eq_true, wz (a:="lies_open") (b:="rows"), wz (a:="lies_open") (b:="most"), wz (a:="lies_open") (b:="begun"), wz (a:="lies_open") (b:="place"), wz (a:="lies_open") (b:="pile"), wz (a:="lies_open") (b:="frames")]
theorem Eb {Φ:aS} {Z:Sg} {i:Nat} (h:Z[i]? = some (some (.ref M0.length))):ev Φ (.fld (.v i) (w "log")) Z (s.h M0)=.ok (.ref (M0.length+4)) (s.h M0):=by
 simp only [dc, gR, h, R.af, g0, Mx.o, List.lookup_cons, beq_self_eq_true, wz (a:="log") (b:="rows"), wz (a:="log") (b:="most"), wz (a:="log") (b:="begun"), wz (a:="log") (b:="place"), wz (a:="log") (b:="pile"), wz (a:="log") (b:="frames"), wz (a:="log") (b:="lies_open")]
theorem B3 {i:Int}:bI (w "begun") (.int i) [(w "rows", s.rows), (w "most", .int s.most), (w "begun", .int s.bg), (w "place", s.pl), (w "pile", .ref (M0.length+1)), (w "frames", .ref (M0.length+2)), (w "lies_open", .ref (M0.length+3)), (w "log", .ref (M0.length+4))]=[(w "rows", s.rows), (w "most", .int s.most), (w "begun", .int i), (w "place", s.pl), (w "pile", .ref (M0.length+1)), (w "frames", .ref (M0.length+2)), (w "lies_open", .ref (M0.length+3)), (w "log", .ref (M0.length+4))]:=by
 simp only [bI, wn (a:="rows") (b:="begun"), wn (a:="most") (b:="begun"), if_true, if_false]
theorem B0 {d:D}:bI (w "place") d [(w "rows", s.rows), (w "most", .int s.most), (w "begun", .int s.bg), (w "place", s.pl), (w "pile", .ref (M0.length+1)), (w "frames", .ref (M0.length+2)), (w "lies_open", .ref (M0.length+3)), (w "log", .ref (M0.length+4))]=[(w "rows", s.rows), (w "most", .int s.most), (w "begun", .int s.bg), (w "place", d), (w "pile", .ref (M0.length+1)), (w "frames", .ref (M0.length+2)), (w "lies_open", .ref (M0.length+3)), (w "log", .ref (M0.length+4))]:=by
 simp only [bI, wn (a:="rows") (b:="place"), wn (a:="most") (b:="place"), wn (a:="begun") (b:="place"), if_true, if_false]
theorem C0 {Φ:aS} {Z:Sg} {i:Nat} {e:E} {n:Int} (h:Z[i]? = some (some (.ref M0.length))) (he:ev Φ e Z (s.h M0)=.ok (.int n) (s.h M0)):ex Φ (.bP (.v i) (w "begun") e) Z (s.h M0)=.ok (.nx Z) (({ s with bg:=n }:Mx).h M0):=by
 simp only [oF,he,R.aT,gR,h,g0,Mx.o,B3]
 exact congrArg (R.ok _) (s0 (s':={ s with bg:=n }))
theorem kr {Φ:aS} {Z:Sg} {i:Nat} {e:E} {d:D} {s':Mx} (h:Z[i]? = some (some (.ref M0.length))) (he:ev Φ e Z (s.h M0)=.ok d (s'.h M0)):ex Φ (.bP (.v i) (w "place") e) Z (s.h M0)=.ok (.nx Z) (({ s' with pl:=d }:Mx).h M0):=by
 simp only [oF,he,R.aT,gR,h,g0,Mx.o,B0]
 exact congrArg (R.ok _) (s0 (s':={ s' with pl:=d }))
theorem u_ {Φ:aS} {Z:Sg} {i m:Nat} {nm:Str} {es:Es} (h:Z[i]? = some (some (.ref M0.length))) (hn:([w "rows", w "most", w "begun", w "place", w "pile", w "frames", w "lies_open", w "log"].all fun x=>!(nm == x))=true):ev Φ (.dm 1 m nm (.v i) es) Z (s.h M0)=(cG Φ es Z (s.h M0)).bind fun ds M2=>Φ.call m (.ref M0.length::ds) M2:=by
 simp only [List.all_cons,List.all_nil,Bool.and_true,Bool.and_eq_true,Bool.not_eq_true'] at hn
 obtain ⟨h1,h2,h3,h4,h5,h6,h7,h8⟩:=hn
 simp only [HC,gR,h,R.af,g0,Mx.o,List.lookup_cons,List.lookup_nil,h1,h2,h3,h4,h5,h6,h7,h8,Option.isNone_none,decide_true,Bool.and_self,if_true]
end
end bA
end
section
namespace bA
open Fg PySem
inductive Vl:D->Prop
 | int (i:Int):Vl (.int i)
 | aq:Vl .aq
 | cell {wd:Str} {sz:Int} {a b:D} {f:Nat}:1<=sz->sz<=1000->Vl a->Vl b->Vl (.tup [.str wd,.int sz,a,b,.int f])
noncomputable def eV:D->Int
 | .tup (_::.int n::_)=>n
 | _=>1
theorem Vl.sz {v:D} (h:Vl v):1<=eV v/\eV v<=1000:=by
 cases h with
 | int i=>simp [eV]
 | aq=>simp [eV]
 | cell h1 h2 _ _=>exact ⟨h1,h2⟩
theorem cS {M:MH} {c:Nat}:pU M c M=.exc c M:=by simp [pU]
theorem aC {kp:Bool} {M M':MH} {d:D} (h:nr M.length d=true) (hl:M'.length=M.length):dZ kp M d M'=.ok d M':=by
 unfold dZ
 by_cases hk:kp=false/\M'.take M.length=M
 ·rw [if_pos hk,if_pos h]
  have:M'=M:=by rw [<- hk.2,<- hl,List.take_length]
  rw [this]
 ·rw [if_neg hk]
theorem xY {M M':MH} {c:Nat} (hl:M'.length=M.length):pU M c M'=.exc c M':=by
 unfold pU
 by_cases hk:M'.take M.length=M
 ·rw [if_pos hk]
  have:M'=M:=by rw [<- hk,<- hl,List.take_length]
  rw [this]
 ·rw [if_neg hk]
section
variable {M:MH} {k:Nat}
theorem oW {v:D} (hv:Vl v):(aa ah (k+1)).call 0 [v] M=.ok (.int (eV v)) M:=by
 rw [eN fn0]
 cases hv <;> simp [mq,ji,Hj,mC,vw,eV,dZ,nr]
theorem gl0:ah.glob 0=some (.int 1000):=rfl
theorem Ib {wd:Str} {a b:D} (hw:wd.length<=100000) (ha:Vl a) (hb:Vl b):(aa ah (k+2)).call 1 [.str wd,a,b] M=if 1000<1+eV a+eV b then .exc 1 M else .ok (.tup [.str wd,.int (1+eV a+eV b),a,b]) M:=by
 rw [eN ng]
 have h1:=ha.sz
 have h2:=hb.sz
 have h3:(1+eV a+eV b).natAbs<18446744073709551616:=by omega
 have n1:∀ {v:D},Vl v->∀ m,nr m v=true:=fun h m=>by
  induction h with
  | int=>simp [nr]
  | aq=>simp [nr]
  | cell _ _ _ _ i j=>simp [nr,iN,i,j]
 by_cases hq:1000<1+eV a+eV b
 ·simp [mq,gJ,oW ha,oW hb,qa,fV,gl0,bG,sL,hq,bT,hw,h3,cS]
 ·simp [mq,gJ,oW ha,oW hb,qa,fV,gl0,bG,sL,hq,dZ,nr,iN,n1 ha,n1 hb]
end
end bA
end
section
namespace bA
open Fg PySem
theorem Vl.nr {v:D} (h:Vl v):∀ m,Fg.nr m v=true:=fun m=>by
 induction h with
 | int=>simp [Fg.nr]
 | aq=>simp [Fg.nr]
 | cell _ _ _ _ i j=>simp [Fg.nr,iN,i,j]
theorem Av {α:Type} {xs:List α} {x:α}:cQ (xs++[x]) (-1)=some x:=by
 have h1:¬ (0:Int)<=-1:=by omega
 have h2:-(((xs++[x]).length:Nat):Int)<=-1:=by rw [List.length_append,List.length_singleton];omega
 have h3:((-1:Int)+(((xs++[x]).length:Nat):Int)).toNat=xs.length:=by rw [List.length_append,List.length_singleton];omega
 simp only [cQ,wZ,if_neg h1,if_pos h2,h3,Option.bind_some]
 simp
theorem uG {n x:Nat} (h:x<n):wZ n (x:Int)=some x:=by
 have h1:(x:Int)<(n:Int):=by omega
 simp only [wZ,if_pos (show (0:Int)<=(x:Int) by omega),if_pos h1,Int.toNat_natCast]
theorem dG {α:Type} {xs:List α} {i:Nat} {x:α} (h:xs[i]? = some x):cQ xs (i:Int)=some x:=by
 have hx:=(List.getElem?_eq_some_iff.mp h).1
 simp only [cQ,uG hx,Option.bind_some,h]
theorem gf {P:nB} {k f:Nat} {fn:Fn} {ds:List D} {M M':MH} {Z':Sg} {r:R D} (hf:P.fn f=some fn) (hn:ds.length=fn.np) (hb:exs (aa P k) fn.body (ds.map some++List.replicate (fn.ns-fn.np) none) M=.ok (.nx Z') M') (hr:dZ fn.keep M .aq M'=r):(aa P (k+1)).call f ds M=r:=by
 rw [eN hf]
 have h1:ds.length+fn.lU.length-fn.np=fn.lU.length:=by omega
 simp only [mq,h1,List.drop_length,List.append_nil,hb]
 rw [if_pos (by simp;omega)]
 exact hr
theorem sP {P:nB} {k f c:Nat} {fn:Fn} {ds:List D} {M M':MH} {Z':Sg} {r:R D} (hf:P.fn f=some fn) (hn:ds.length=fn.np) (hb:exs (aa P k) fn.body (ds.map some++List.replicate (fn.ns-fn.np) none) M=.ok (.xc c Z') M') (hr:pU M c M'=r):(aa P (k+1)).call f ds M=r:=by
 rw [eN hf]
 have h1:ds.length+fn.lU.length-fn.np=fn.lU.length:=by omega
 simp only [mq,h1,List.drop_length,List.append_nil,hb]
 rw [if_pos (by simp;omega)]
 exact hr
section
variable {Φ:aS} {Z Z':Sg} {M M1 M2 M3:MH} {e c a b:E} {x d:D} {ss sa sb:Ss} {i n j k:Nat} {xs:List D}
theorem E4 (he:ev Φ e Z M=.ok d M1) (ha:ev Φ a Z M1=.ok (.ref n) M2) (hb:ev Φ b Z M2=.ok (.int (j:Int)) M3) (h:M3[n]? = some (.lst xs)) (hj:j<xs.length):exs Φ (.cons (.mh a b e) ss) Z M=exs Φ ss Z (M3.set n (.lst (xs.set j d))):=by
 simp only [eK,uU,he,R.aT,ha,hb,mj,h,uG hj,R.af]
theorem uc (h:ev Φ e Z M=.exc k M1):exs Φ (.cons (.ex e) ss) Z M=.ok (.xc k Z) M1:=by simp only [eK,K3,h,R.AK,R.af]
theorem pP (h:ev Φ c Z M=.ok (.bl true) M1) (ha:exs Φ sa Z M1=.ok (.xc k Z') M2):exs Φ (.cons (.ifs c sa sb) ss) Z M=.ok (.xc k Z') M2:=by simp only [eK,cF,h,R.aT,ha,R.af]
theorem pO {f:Nat} (he:ev Φ e Z M=.ok d M1) (hs:bT d=true):exs Φ (.cons (.raise f (.cons e .nil)) ss) Z M=.ok (.xc f Z) M1:=by simp only [eK,zM,zO,CN,he,R.af,hs,if_true,R.aT]
theorem bQ {s:S} (h:ex Φ s Z M=.ok (.nx Z') M1):exs Φ (.cons s ss) Z M=exs Φ ss Z' M1:=by simp only [eK,h,R.af]
end
section
variable {M0:MH} {s s':Mx} {d x y:D} {xs p:List D} {t k i:Nat} {Φ:aS} {Z:Sg} {e:E}
theorem JW {M:MH} {n:Nat} (h:M[n]? = some (.lst (p++[x]))):gM .pop true M (.ref n) []=.ok x (M.set n (.lst p)):=by
 simp [gM,cu h,nT]
theorem Il {M:MH} {n:Nat} (h:M[n]? = some (.lst xs)) (hl:xs.length<line):gM .append true M (.ref n) [d]=.ok .aq (M.set n (.lst (xs++[d]))):=by
 simp only [gM,cu h,nT,vY,hl,decide_true,if_true]
theorem yv {M:MH} {n:Nat} (h:M[n]? = some (.lst xs)):nU .pop M (.ref n)=true:=by simp only [nU,cu h,Option.isSome_some,Bool.and_self]
theorem nP {M:MH} {n:Nat} (h:M[n]? = some (.lst xs)):nU .append M (.ref n)=true:=by simp only [nU,cu h,Option.isSome_some,Bool.and_self]
theorem e_v {M:MH} (h:Z[i]? = some (some d)):ev Φ (.v i) Z M=.ok d M:=by simp only [gR,h]
theorem e_len {M M1:MH} {n:Nat} {fz:Bool} (he:ev Φ e Z M=.ok (.ref n) M1) (h:M1[n]? = some (.lst xs)):ev Φ (.blt .len fz (.cons e .nil)) Z M=.ok (.int xs.length) M1:=by
 simp only [oH,az,he,R.af,aP,wO,vw,h]
theorem lS {M M1 M2:MH} {n:Nat} {e':E} {ys:List D} (he:ev Φ e Z M=.ok (.ref n) M1) (h:M1[n]? = some (.lst ys)) (hx:ev Φ e' Z M1=.ok d M2) (h2:M2[n]? = some (.lst xs)) (hl:xs.length<line):ev Φ (.aW .append true e (.cons e' .nil)) Z M=.ok .aq (M2.set n (.lst (xs++[d]))):=by
 simp only [gA,he,R.af,nP h,if_true,az,hx,aP,Il h2 hl]
theorem oK {M M1:MH} {n:Nat} (he:ev Φ e Z M=.ok (.ref n) M1) (h:M1[n]? = some (.lst (p++[x]))):ev Φ (.aW .pop true e .nil) Z M=.ok x (M1.set n (.lst p)):=by
 simp only [gA,he,R.af,yv h,if_true,aP,JW h]
theorem qF {M M1 M2:MH} {n:Nat} {e':E} {j:Int} (he:ev Φ e Z M=.ok (.ref n) M1) (hx:ev Φ e' Z M1=.ok (.int j) M2) (h:M2[n]? = some (.lst xs)) (ha:cQ xs j=some d):ev Φ (.idx e e') Z M=.ok d M2:=by
 simp only [lN,he,R.af,hx,mC,vw,h,ha]
theorem fR {M M1 M2:MH} {e':E} {j:Int} (he:ev Φ e Z M=.ok (.lst xs) M1) (hx:ev Φ e' Z M1=.ok (.int j) M2) (ha:cQ xs j=some d):ev Φ (.idx e e') Z M=.ok d M2:=by
 simp only [lN,he,R.af,hx,mC,vw,ha]
theorem aY {M M1 M2:MH} {e':E} {j:Int} (he:ev Φ e Z M=.ok (.tup xs) M1) (hx:ev Φ e' Z M1=.ok (.int j) M2) (ha:cQ xs j=some d):ev Φ (.idx e e') Z M=.ok d M2:=by
 simp only [lN,he,R.af,hx,mC,vw,ha]
theorem jI {M M1 M2:MH} {e':E} {a b:Int} {fz:Bool} (he:ev Φ e Z M=.ok (.int a) M1) (hx:ev Φ e' Z M1=.ok (.int b) M2):ev Φ (.op .add fz e e') Z M=.ok (.int (a+b)) M2:=by
 simp only [eL,he,R.af,hx,qa,fV]
theorem lQ {M M1 M2:MH} {e':E} {a b:Int} {fz:Bool} (he:ev Φ e Z M=.ok (.int a) M1) (hx:ev Φ e' Z M1=.ok (.int b) M2):ev Φ (.op .sub fz e e') Z M=.ok (.int (a-b)) M2:=by
 simp only [eL,he,R.af,hx,qa,fV]
theorem iW {M M1:MH} {f:Nat} (he:ev Φ e Z M=.ok d M1):ev Φ (.call f (.cons e .nil)) Z M=Φ.call f [d] M1:=by
 simp only [bC,az,he,R.af,aP]
theorem z8 {M M1:MH} {a b:Str} (he:ev Φ e Z M=.ok (.str a) M1):ev Φ (.cmp .eq e (.k (.str b))) Z M=.ok (.bl (decide (a=b))) M1:=by
 simp [he,bG,Aq,Lc,bE,top,Fg.plain,dep]
theorem jH (h:Z[i]? = some (some (.ref M0.length))) (hp:s.pile=p++[x]):ev Φ (.aW .pop true (.fld (.v i) (w "pile")) .nil) Z (s.h M0)=.ok x (({ s with pile:=p }:Mx).h M0):=by
 have g:(s.h M0)[M0.length+1]? = some (.lst (p++[x])):=by rw [g1,hp]
 simp only [gA,sf h,R.af,yv g,if_true,aP,JW g,s1]
theorem jq (h:Z[i]? = some (some (.ref M0.length))) (he:ev Φ e Z (s.h M0)=.ok d (s'.h M0)) (hl:s'.pile.length<line):ev Φ (.aW .append true (.fld (.v i) (w "pile")) (.cons e .nil)) Z (s.h M0)=.ok .aq (({ s' with pile:=s'.pile++[d] }:Mx).h M0):=by
 simp only [gA,sf h,R.af,nP g1,if_true,az,aP,he,Il g1 hl,s1]
theorem uY (h:Z[i]? = some (some (.ref M0.length))) (he:ev Φ e Z (s.h M0)=.ok d (s.h M0)) (hl:s.log.length<line):ev Φ (.aW .append true (.fld (.v i) (w "log")) (.cons e .nil)) Z (s.h M0)=.ok .aq (({ s with log:=s.log++[d] }:Mx).h M0):=by
 simp only [gA,Eb h,R.af,nP g4,if_true,az,aP,he,Il g4 hl,s4]
theorem jG (h:Z[i]? = some (some (.ref M0.length))) (hf:s.frs=p++[x]):ev Φ (.idx (.fld (.v i) (w "frames")) (.neg (.k (.int 1)))) Z (s.h M0)=.ok x (s.h M0):=by
 simp only [lN,eB h,R.af,HE,oG,mC,vw,g2,hf,Av]
end
structure eU (n:Nat) (T:MH) (t k l:Nat) (kn fl:List D) (bk:D):Prop where
 at_:T[t]? = some (.ins 0 [(w "known", .ref (n+(k+5))), (w "fields", .ref (n+(l+5))), (w "behind_call", bk)])
 kn:T[k]? = some (.lst kn)
 fl:T[l]? = some (.lst fl)
section
variable {M0:MH} {s s':Mx} {d x y bk:D} {xs p kn fl:List D} {t k l i:Nat} {Φ:aS} {Z:Sg} {e:E}
theorem HK (A:eU M0.length s.T t k l kn fl bk) (he:ev Φ e Z (s.h M0)=.ok (.ref (M0.length+(t+5))) (s.h M0)):ev Φ (.fld e (w "known")) Z (s.h M0)=.ok (.ref (M0.length+(k+5))) (s.h M0):=by
 simp only [dc,he,R.af,gT,A.at_,List.lookup_cons,beq_self_eq_true]
theorem CW (A:eU M0.length s.T t k l kn fl bk) (he:ev Φ e Z (s.h M0)=.ok (.ref (M0.length+(t+5))) (s.h M0)):ev Φ (.fld e (w "fields")) Z (s.h M0)=.ok (.ref (M0.length+(l+5))) (s.h M0):=by
 simp only [dc, he, R.af, gT, A.at_, List.lookup_cons, beq_self_eq_true, wz (a:="fields") (b:="known")]
theorem e_bk {s0:Mx} (A:eU M0.length s.T t k l kn fl bk) (he:ev Φ e Z (s0.h M0)=.ok (.ref (M0.length+(t+5))) (s.h M0)):ev Φ (.fld e (w "behind_call")) Z (s0.h M0)=.ok bk (s.h M0):=by
 simp only [dc, he, R.af, gT, A.at_, List.lookup_cons, beq_self_eq_true, wz (a:="behind_call") (b:="known"), wz (a:="behind_call") (b:="fields")]
end
section
variable {M0:MH} {s:Mx} {v x y bk:D} {p kn fl:List D} {t k l f:Nat} {b:Bool}
theorem yP (h1:s.ai.length<line) (h2:s.log.length<line):(aa ah (k+1)).call 10 [.ref M0.length] (s.h M0)=.ok (.int s.ai.length) (({ s with ai:=s.ai++[.bl true], log:=s.log++[.tup [.str (w "open"), .int s.ai.length]] }:Mx).h M0):=by
 have e0:ev (aa ah k) (.blt .len true (.cons (.fld (.v 0) (w "lies_open")) .nil)) [some (.ref M0.length), none] (s.h M0)=.ok (.int s.ai.length) (s.h M0):=e_len (oB rfl) g3
 have e1:=lS (Φ:=aa ah k) (e:=.fld (.v 0) (w "lies_open")) (e':=.k (.bl true)) (Z:=[some (.ref M0.length), some (.int s.ai.length)]) (oB (s:=s) rfl) g3 rfl g3 h1
 rw [s3] at e1
 have e2:=uY (Φ:=aa ah k) (e:=.tup (.cons (.k (.str (w "open"))) (.cons (.v 1) .nil))) (Z:=[some (.ref M0.length), some (.int s.ai.length)]) (s:={ s with ai:=s.ai++[.bl true] }) (M0:=M0) (i:=0) rfl rfl h2
 exact b6 fn10 rfl ((av e0).trans ((bx e1).trans ((bx e2).trans (ck rfl)))) (aC (by simp [nr]) (by rw [len,len]))
theorem yO (hf:f<s.ai.length) (h2:s.log.length<line):(aa ah (k+1)).call 11 [.ref M0.length, .int f] (s.h M0)=.ok .aq (({ s with ai:=s.ai.set f (.bl false), log:=s.log++[.tup [.str (w "shut"), .int f]] }:Mx).h M0):=by
 have e2:=uY (Φ:=aa ah k) (e:=.tup (.cons (.k (.str (w "shut"))) (.cons (.v 1) .nil))) (Z:=[some (.ref M0.length), some (.int f)]) (s:={ s with ai:=s.ai.set f (.bl false) }) (M0:=M0) (i:=0) rfl rfl h2
 have e1:=E4 (Φ:=aa ah k) (e:=.k (.bl false)) (a:=.fld (.v 0) (w "lies_open")) (b:=.v 1) (Z:=[some (.ref M0.length), some (.int f)]) (ss:=.cons (.ex (.aW .append true (.fld (.v 0) (w "log")) (.cons (.tup (.cons (.k (.str (w "shut"))) (.cons (.v 1) .nil))) .nil))) .nil) rfl (oB (s:=s) (M0:=M0) rfl) rfl g3 hf
 rw [s3] at e1
 exact gf fn11 rfl (e1.trans ((bx e2).trans rfl)) (aC (by simp [nr]) (by rw [len,len]))
theorem rT (hf:s.ai[f]? = some (.bl b)) (hs:f<18446744073709551616):(aa ah (k+1)).call 12 [.ref M0.length,.int f] (s.h M0)=if b then .ok .aq (s.h M0) else .exc 5 (s.h M0):=by
 have e0:ev (aa ah k) (.not (.idx (.fld (.v 0) (w "lies_open")) (.v 1))) [some (.ref M0.length), some (.int f)] (s.h M0)=.ok (.bl (!b)) (s.h M0):=by
  rw [zQ,qF (oB (s:=s) (M0:=M0) (i:=0) rfl) rfl g3 (dG hf)]
  rfl
 have hs':bT (.int (f:Int))=true:=by simp only [bT,decide_eq_true_eq];omega
 cases b with
 | true=>exact gf K1 rfl ((cV e0).trans rfl) (aC (by simp [nr]) rfl)
 | false=>exact sP K1 rfl (pP e0 (pO rfl hs')) cS
end
end bA
end
section
namespace bA
open Fg PySem
section
variable {M0:MH} {s:Mx} {v x y bk a b:D} {p fs kn fl:List D} {t k l f:Nat} {bo:Bool} {wd:Str}
theorem C9 {M:MH} (hw:wd.length<=100000) (ha:Vl a) (hb:Vl b) (h:¬ 1000<1+eV a+eV b):(aa ah (k+2)).call 1 [.str wd,a,b] M=.ok (.tup [.str wd,.int (1+eV a+eV b),a,b]) M:=by rw [Ib hw ha hb,if_neg h]
theorem sA {e:E} {Z:Sg} {i:Nat} {Φ:aS} (h:Z[i]? = some (some (.ref M0.length))) (he:ev Φ e Z (s.h M0)=.ok (.int f) (s.h M0)):ev Φ (.dm 1 12 (w "want_open") (.v i) (.cons e .nil)) Z (s.h M0)=Φ.call 12 [.ref M0.length, .int f] (s.h M0):=by
 rw [u_ h (by decide +kernel),az,he];rfl
theorem Ku (hw:wd.length<=100000) (ha:Vl a) (hb:Vl b) (hp:s.pile=p++[a]++[b]) (h:¬ 1000<1+eV a+eV b) (hf:s.ai[f]? = some (.bl true)) (hs:f<18446744073709551616) (h2:s.log.length<line) (h3:p.length<line):(aa ah (k+3)).call 13 [.ref M0.length,.str wd,.int f] (s.h M0) =
  .ok .aq (({ s with pile:=p++[.tup [.str wd, .int (1+eV a+eV b), a, b, .int f]], log:=s.log++[.tup [.str (w "lay"), .int f]] }:Mx).h M0):=by
 have e1:=jH (Φ:=aa ah (k+2)) (Z:=[some (.ref M0.length),some (.str wd),some (.int f),none,none,none]) (M0:=M0) (i:=0) (s:=s) rfl hp
 have e2:=jH (Φ:=aa ah (k+2)) (Z:=[some (.ref M0.length),some (.str wd),some (.int f),some b,none,none]) (M0:=M0) (i:=0) (s:={ s with pile:=p++[a] }) rfl rfl
 have ec:ev (aa ah (k+2)) (.call 1 (.cons (.v 1) (.cons (.v 4) (.cons (.v 3) .nil)))) [some (.ref M0.length),some (.str wd),some (.int f),some b,some a,none] (({ s with pile:=p }:Mx).h M0)=.ok (.tup [.str wd,.int (1+eV a+eV b),a,b]) (({ s with pile:=p }:Mx).h M0):=C9 hw ha hb h
 have e3:=sA (Φ:=aa ah (k+2)) (e:=.v 2) (f:=f) (Z:=[some (.ref M0.length),some (.str wd),some (.int f),some b,some a,some (.tup [.str wd,.int (1+eV a+eV b),a,b])]) (M0:=M0) (i:=0) (s:={ s with pile:=p }) rfl rfl
 replace e3:=e3.trans (rT (s:={ s with pile:=p }) (b:=true) hf hs)
 have e4:=uY (Φ:=aa ah (k+2)) (e:=.tup (.cons (.k (.str (w "lay"))) (.cons (.v 2) .nil))) (Z:=[some (.ref M0.length), some (.str wd), some (.int f), some b, some a, some (.tup [.str wd, .int (1+eV a+eV b), a, b])]) (s:={ s with pile:=p }) (M0:=M0) (i:=0) rfl rfl h2
 have e6:ev (aa ah (k+2)) (.op .add true (.v 5) (.tup (.cons (.v 2) .nil))) [some (.ref M0.length), some (.str wd), some (.int f), some b, some a, some (.tup [.str wd, .int (1+eV a+eV b), a, b])] (({ s with pile:=p, log:=s.log++[.tup [.str (w "lay"), .int f]] }:Mx).h M0) =
  .ok (.tup [.str wd, .int (1+eV a+eV b), a, b, .int f]) (({ s with pile:=p, log:=s.log++[.tup [.str (w "lay"), .int f]] }:Mx).h M0):=rfl
 have e5:=jq (Φ:=aa ah (k+2)) (M0:=M0) (i:=0) (s:={ s with pile:=p, log:=s.log++[.tup [.str (w "lay"), .int f]] }) (s':={ s with pile:=p, log:=s.log++[.tup [.str (w "lay"), .int f]] }) rfl e6 h3
 exact gf fn13 rfl ((av e1).trans ((av e2).trans ((av ec).trans ((bx e3).trans ((bx e4).trans ((bx e5).trans rfl)))))) (aC (by simp [nr]) (by rw [len,len]))
end
noncomputable def Ef:List Str->Es
 | []=>.nil
 | b::bs=>.cons (.k (.str b)) (Ef bs)
theorem uV {Φ:aS} {Z:Sg} {M:MH}:∀ bs:List Str,cG Φ (Ef bs) Z M=.ok (bs.map D.str) M
 | []=>rfl
 | b::bs=>by rw [Ef,az,oG,R.af,uV bs];rfl
theorem qG {Φ:aS} {Z:Sg} {M M1:MH} {e:E} {c:Str} {bs:List Str} {q:Bool} (he:ev Φ e Z M=.ok (.str c) M1) (hq:(bs.any fun z=>decide (z=c))=q):ev Φ (.cmp .isin e (.tup (Ef bs))) Z M=.ok (.bl q) M1:=by
 have h1:(bs.map D.str).all flat=true:=by rw [List.all_map];exact List.all_eq_true.mpr fun _ _=>rfl
 have h2:((bs.map D.str).any fun d=>aK d (.str c))=q:=by
  rw [List.any_map,<- hq]
  congr 1
 rw [gB,he,R.af,bL,uV]
 simp only [R.af,bG,Hq,vw,flat,h1,h2,Bool.and_self,if_true]
theorem dF {Φ:aS} {Z:Sg} {M M1:MH} {e:E} {c z:Str} {q:Bool} (he:ev Φ e Z M=.ok (.str c) M1) (hq:decide (c=z)=q):ev Φ (.cmp .eq e (.k (.str z))) Z M=.ok (.bl q) M1:=by
 rw [z8 he,hq]
section
variable {M0:MH} {s:Mx} {v x y bk a b:D} {p fs kn fl:List D} {t k l f:Nat} {bo:Bool} {wd c:Str} {sz:Int}
theorem lu {M:MH} {q:Bool} (hq:([w "first", w "head"].any fun z=>decide (z=wd))=q) (ha:Vl a) (hb:Vl b):(aa ah (k+1)).call 4 [.str wd, .tup [.str c, .int sz, a, b, .int f]] M=.ok (if q then a else b) M:=by
 have e1:ev (aa ah k) (.cmp .CD (.v 1) (.k .aq)) [some (.str wd),some (.tup [.str c,.int sz,a,b,.int f])] M=.ok (.bl false) M:=rfl
 have e2:=qG (Φ:=aa ah k) (e:=.v 0) (Z:=[some (.str wd),some (.tup [.str c,.int sz,a,b,.int f])]) (M:=M) (M1:=M) rfl hq
 cases q with
 | true=>exact b6 fn4 rfl ((cV e1).trans (ua e2 (ck rfl))) (aC (ha.nr _) rfl)
 | false=>exact b6 fn4 rfl ((cV e1).trans ((cV e2).trans (ck rfl))) (aC (hb.nr _) rfl)
theorem Gw {q:Bool} (hq:([w "first", w "head"].any fun z=>decide (z=wd))=q) (ha:Vl a) (hb:Vl b) (hp:s.pile=p++[.tup [.str c, .int sz, a, b, .int f]]) (hf:s.ai[f]? = some (.bl true)) (hs:f<18446744073709551616) (h2:s.log.length<line) (h3:p.length<line):(aa ah (k+3)).call 14 [.ref M0.length, .str wd] (s.h M0) =
  .ok .aq (({ s with pile:=p++[if q then a else b], log:=s.log++[.tup [.str (w "look"), .int f]] }:Mx).h M0):=by
 have e1:=jH (Φ:=aa ah (k+2)) (Z:=[some (.ref M0.length),some (.str wd),none,none]) (M0:=M0) (i:=0) (s:=s) rfl hp
 have ec:ev (aa ah (k+2)) (.call 4 (.cons (.v 1) (.cons (.v 2) .nil))) [some (.ref M0.length),some (.str wd),some (.tup [.str c,.int sz,a,b,.int f]),none] (({ s with pile:=p }:Mx).h M0)=.ok (if q then a else b) (({ s with pile:=p }:Mx).h M0):=lu hq ha hb
 have e3:=(sA (Φ:=aa ah (k+2)) (e:=.idx (.v 2) (.k (.int 4))) (f:=f) (Z:=[some (.ref M0.length),some (.str wd),some (.tup [.str c,.int sz,a,b,.int f]),some (if q then a else b)]) (M0:=M0) (i:=0) (s:={ s with pile:=p }) rfl rfl).trans (rT (s:={ s with pile:=p }) (b:=true) hf hs)
 have e4:=uY (Φ:=aa ah (k+2)) (e:=.tup (.cons (.k (.str (w "look"))) (.cons (.idx (.v 2) (.k (.int 4))) .nil))) (Z:=[some (.ref M0.length), some (.str wd), some (.tup [.str c, .int sz, a, b, .int f]), some (if q then a else b)]) (s:={ s with pile:=p }) (M0:=M0) (i:=0) rfl rfl h2
 have e5:=jq (Φ:=aa ah (k+2)) (e:=.v 3) (d:=if q then a else b) (Z:=[some (.ref M0.length), some (.str wd), some (.tup [.str c, .int sz, a, b, .int f]), some (if q then a else b)]) (M0:=M0) (i:=0) (s:={ s with pile:=p, log:=s.log++[.tup [.str (w "look"), .int f]] }) (s':={ s with pile:=p, log:=s.log++[.tup [.str (w "look"), .int f]] }) rfl rfl h3
 exact gf fn14 rfl ((av e1).trans ((av ec).trans ((bx e3).trans ((bx e4).trans ((bx e5).trans rfl))))) (aC (by simp [nr]) (by rw [len,len]))
end
end bA
end
section
namespace bA
open Fg PySem
theorem oE {Φ:aS} {s:S} {Z:Sg} {M:MH}:exs Φ (.cons s .nil) Z M=ex Φ s Z M:=by
 rw [eK]
 cases ex Φ s Z M with
 | ok o M1=>cases o <;> rfl
 | exc c M1=>rfl
 | bad=>rfl
section
variable {Φ:aS} {Z:Sg} {M M1:MH} {c:E} {a b:Ss}
theorem selF (h:ev Φ c Z M=.ok (.bl false) M1):exs Φ (.cons (.ifs c a b) .nil) Z M=exs Φ b Z M1:=by rw [oE,cF,h];rfl
theorem selT (h:ev Φ c Z M=.ok (.bl true) M1):exs Φ (.cons (.ifs c a b) .nil) Z M=exs Φ a Z M1:=by rw [oE,cF,h];rfl
end
noncomputable def sQ:Ss:=.cons (.ex (.dm 1 16 (w "carry") (.v 0) (.cons (.v 1) .nil))) .nil
noncomputable def bGo:Ss:=.cons (.ex (.dm 1 17 (w "go") (.v 0) (.cons (.v 1) .nil))) .nil
noncomputable def II:E:=.fld (.idx (.fld (.v 0) (w "frames")) (.neg (.k (.int 1)))) (w "fields")
noncomputable def Ii:Ss:=.cons (.ex (.dm 1 13 (w "lay") (.v 0) (.cons (.v 2) (.cons (.idx II (.idx (.v 1) (.k (.int 1)))) .nil)))) .nil
noncomputable def As:Ss:=.cons (.ex (.dm 1 14 (w "look") (.v 0) (.cons (.v 2) .nil))) .nil
noncomputable def Aa:E:=.fld (.v 0) (w "pile")
noncomputable def Dg:Ss:=.cons (.ex (.aW .append true Aa (.cons (.k .aq) .nil))) .nil
noncomputable def Ar:Ss:=.cons (.ex (.aW .append true Aa (.cons (.w9 (.cmp .CD (.aW .pop true Aa .nil) (.k .aq)) (.k (.int 1)) (.k (.int 0))) .nil))) .nil
noncomputable def bOpen:Ss:=.cons (.ex (.aW .append true II (.cons (.dm 1 10 (w "open_field") (.v 0) .nil) .nil))) .nil
noncomputable def vn:Ss:=.cons (.ex (.dm 1 11 (w "shut_field") (.v 0) (.cons (.aW .pop true II .nil) .nil))) .nil
noncomputable def vo:Ss:=.cons (.ex (.dm 1 15 (w "reckon") (.v 0) (.cons (.v 2) .nil))) .nil
noncomputable def t8:Ss:=.cons (.ifs (.cmp .eq (.v 2) (.k (.str (w "shut")))) vn vo) .nil
noncomputable def t7:Ss:=.cons (.ifs (.cmp .eq (.v 2) (.k (.str (w "open")))) bOpen t8) .nil
noncomputable def t6:Ss:=.cons (.ifs (.cmp .eq (.v 2) (.k (.str (w "none")))) Ar t7) .nil
noncomputable def t5:Ss:=.cons (.ifs (.cmp .eq (.v 2) (.k (.str (w "nil")))) Dg t6) .nil
noncomputable def w1:List Str:=[w "number", w "local", w "keep", w "drop"]
noncomputable def w2:List Str:=[w "jump", w "unless", w "call", w "back"]
noncomputable def w3:List Str:=[w "pair", w "cons"]
noncomputable def w4:List Str:=[w "first", w "second", w "head", w "tail"]
noncomputable def t4:Ss:=.cons (.ifs (.cmp .isin (.v 2) (.tup (Ef w4))) As t5) .nil
noncomputable def t3:Ss:=.cons (.ifs (.cmp .isin (.v 2) (.tup (Ef w3))) Ii t4) .nil
noncomputable def t2:Ss:=.cons (.ifs (.cmp .isin (.v 2) (.tup (Ef w2))) bGo t3) .nil
noncomputable def t1:Ss:=.cons (.ifs (.cmp .isin (.v 2) (.tup (Ef w1))) sQ t2) .nil
theorem vG:bY.body=.cons (.set 1 (.idx (.fld (.v 0) (w "rows")) (.fld (.v 0) (w "place")))) (.cons (.bP (.v 0) (w "place") (.op .add false (.fld (.v 0) (w "place")) (.k (.int 1)))) (.cons (.set 2 (.idx (.v 1) (.k (.int 0)))) t1)):=rfl
noncomputable def an (ws:List Str) (z:Str):Bool:=ws.any fun y=>decide (y=z)
noncomputable def br (z:Str):Ss :=
 if an w1 z then sQ else if an w2 z then bGo else if an w3 z then Ii else if an w4 z then As
 else if decide (z=w "nil") then Dg else if decide (z=w "none") then Ar else if decide (z=w "open") then bOpen else if decide (z=w "shut") then vn else vo
theorem sel {Φ:aS} {Z:Sg} {M:MH} {c:E} {a b b':Ss} {q:Bool} (h:ev Φ c Z M=.ok (.bl q) M) (hb:exs Φ b Z M=exs Φ b' Z M):exs Φ (.cons (.ifs c a b) .nil) Z M=exs Φ (if q then a else b') Z M:=by
 cases q with
 | true=>exact selT h
 | false=>exact (selF h).trans hb
theorem Js {Φ:aS} {M:MH} {r x:D} {z:Str}:exs Φ t1 [some r,some x,some (.str z)] M=exs Φ (br z) [some r,some x,some (.str z)] M :=
 sel (qG rfl rfl) (sel (qG rfl rfl) (sel (qG rfl rfl) (sel (qG rfl rfl) (sel (dF rfl rfl) (sel (dF rfl rfl) (sel (dF rfl rfl) (sel (dF rfl rfl) rfl)))))))
section
variable {M0:MH} {s:Mx} {rs rest:List D} {z:Str} {j k:Nat} {i:Int}
noncomputable def mG (M0:MH) (d:D) (rs:List D):Prop:=d=.lst rs\/∃ n,d=.ref n/\M0[n]? = some (.lst rs)
theorem Lg {Φ:aS} {Z:Sg} {e e':E} {d y:D} {j:Int} (hr:mG M0 d rs) (he:ev Φ e Z (s.h M0)=.ok d (s.h M0)) (hx:ev Φ e' Z (s.h M0)=.ok (.int j) (s.h M0)) (ha:cQ rs j=some y):ev Φ (.idx e e') Z (s.h M0)=.ok y (s.h M0):=by
 rcases hr with rfl | ⟨n,rfl,hn⟩
 ·exact fR he hx ha
 ·refine qF he hx ?_ ha
  show (M0++_)[n]? = _
  rw [List.getElem?_append_left (List.getElem?_eq_some_iff.mp hn).1];exact hn
theorem xE {Φ:aS} (hr:mG M0 s.rows rs) (hp:s.pl=.int i) (ha:cQ rs i=some (.tup (.str z::rest))) :
  exs Φ bY.body [some (.ref M0.length),none,none] (s.h M0)=exs Φ (br z) [some (.ref M0.length),some (.tup (.str z::rest)),some (.str z)] (({ s with pl:=.int (i+1) }:Mx).h M0):=by
 have e1:ev Φ (.idx (.fld (.v 0) (w "rows")) (.fld (.v 0) (w "place"))) [some (.ref M0.length), none, none] (s.h M0)=.ok (.tup (.str z::rest)) (s.h M0) :=
  Lg hr (Hy (M0:=M0) (s:=s) (i:=0) rfl) ((oA (M0:=M0) (s:=s) (i:=0) rfl).trans (by rw [hp])) ha
 have e2:=kr (Φ:=Φ) (Z:=[some (.ref M0.length), some (.tup (.str z::rest)), none]) (e:=.op .add false (.fld (.v 0) (w "place")) (.k (.int 1))) (s:=s) (s':=s) (M0:=M0) (i:=0) rfl (jI ((oA (M0:=M0) (s:=s) (i:=0) rfl).trans (by rw [hp])) rfl)
 have e3:ev Φ (.idx (.v 1) (.k (.int 0))) [some (.ref M0.length),some (.tup (.str z::rest)),none] (({ s with pl:=.int (i+1) }:Mx).h M0)=.ok (.str z) (({ s with pl:=.int (i+1) }:Mx).h M0):=aY rfl rfl dh
 rw [vG]
 exact (av e1).trans ((bQ e2).trans ((av e3).trans Js))
theorem bK {s':Mx} (hr:mG M0 s.rows rs) (hp:s.pl=.int i) (ha:cQ rs i=some (.tup (.str z::rest))) (hb:exs (aa ah k) (br z) [some (.ref M0.length),some (.tup (.str z::rest)),some (.str z)] (({ s with pl:=.int (i+1) }:Mx).h M0)=.ok (.nx [some (.ref M0.length),some (.tup (.str z::rest)),some (.str z)]) (s'.h M0))
  (hn:dZ false (s.h M0) .aq (s'.h M0)=.ok .aq (s'.h M0)):(aa ah (k+1)).call 19 [.ref M0.length] (s.h M0)=.ok .aq (s'.h M0):=gf fn19 rfl ((xE hr hp ha).trans hb) hn
theorem bz {s':Mx} (h:s'.T.length=s.T.length):dZ false (s.h M0) .aq (s'.h M0)=.ok .aq (s'.h M0):=aC (by simp [nr]) (by rw [len,len,h])
end
end bA
end
section
namespace bA
open Fg PySem
section
variable {M0:MH} {s:Mx} {x y v bk:D} {rest fs kn fl p:List D} {z:Str} {t k l f j:Nat} {i:Int} {Φ:aS} {Z:Sg}
theorem gi {m:Nat} {nm:Str} {es:Es} {ds:List D} {s':Mx} {M1:MH} {ss:Ss} (h:Z[0]? = some (some (.ref M0.length))) (hn:([w "rows", w "most", w "begun", w "place", w "pile", w "frames", w "lies_open", w "log"].all fun x=>!(nm == x))=true) (he:cG Φ es Z (s.h M0)=.ok ds (s'.h M0)) (hc:Φ.call m (.ref M0.length::ds) (s'.h M0)=.ok y M1):exs Φ (.cons (.ex (.dm 1 m nm (.v 0) es)) ss) Z (s.h M0)=exs Φ ss Z M1 :=
 bx ((u_ h hn).trans (by rw [he];exact hc))
theorem Ak (hf:s.frs=fs++[y]) (hl:s.pile.length<line):(aa ah (k+1)).call 16 [.ref M0.length, .tup [.str (w "number"), x]] (s.h M0)=.ok .aq (({ s with pile:=s.pile++[x] }:Mx).h M0):=by
 have e1:=jG (Φ:=aa ah k) (Z:=[some (.ref M0.length), some (.tup [.str (w "number"), x]), none]) (M0:=M0) (s:=s) (i:=0) rfl hf
 have e2:ev (aa ah k) (.cmp .eq (.idx (.v 1) (.k (.int 0))) (.k (.str (w "number")))) [some (.ref M0.length), some (.tup [.str (w "number"), x]), some y] (s.h M0)=.ok (.bl true) (s.h M0):=dF (aY rfl rfl dh) (by decide +kernel)
 have e3:=jq (Φ:=aa ah k) (e:=.idx (.v 1) (.k (.int 1))) (d:=x) (Z:=[some (.ref M0.length), some (.tup [.str (w "number"), x]), some y]) (M0:=M0) (i:=0) (s:=s) (s':=s) rfl (aY rfl rfl lW) hl
 exact gf CI rfl ((av e1).trans (iK e2 ((bx e3).trans rfl))) (bz rfl)
theorem C7 (hf:s.frs=fs++[.ref (M0.length+(t+5))]) (A:eU M0.length s.T t j l kn fl bk) (hx:cQ kn i=some x) (hl:s.pile.length<line):(aa ah (k+1)).call 16 [.ref M0.length, .tup [.str (w "local"), .int i]] (s.h M0)=.ok .aq (({ s with pile:=s.pile++[x] }:Mx).h M0):=by
 have e1:=jG (Φ:=aa ah k) (Z:=[some (.ref M0.length), some (.tup [.str (w "local"), .int i]), none]) (M0:=M0) (s:=s) (i:=0) rfl hf
 have e2:ev (aa ah k) (.cmp .eq (.idx (.v 1) (.k (.int 0))) (.k (.str (w "number")))) [some (.ref M0.length), some (.tup [.str (w "local"), .int i]), some (.ref (M0.length+(t+5)))] (s.h M0)=.ok (.bl false) (s.h M0):=dF (aY rfl rfl dh) (by decide +kernel)
 have e3:ev (aa ah k) (.cmp .eq (.idx (.v 1) (.k (.int 0))) (.k (.str (w "local")))) [some (.ref M0.length), some (.tup [.str (w "local"), .int i]), some (.ref (M0.length+(t+5)))] (s.h M0)=.ok (.bl true) (s.h M0):=dF (aY rfl rfl dh) (by decide +kernel)
 have e4:ev (aa ah k) (.idx (.fld (.v 2) (w "known")) (.idx (.v 1) (.k (.int 1)))) [some (.ref M0.length), some (.tup [.str (w "local"), .int i]), some (.ref (M0.length+(t+5)))] (s.h M0)=.ok x (s.h M0):=qF (HK A rfl) (aY rfl rfl lW) (gT.trans A.kn) hx
 have e5:=jq (Φ:=aa ah k) (M0:=M0) (i:=0) (s:=s) (s':=s) rfl e4 hl
 exact gf CI rfl ((av e1).trans (cD e2 ((iK e3 ((bx e5).trans rfl)).trans rfl))) (bz rfl)
theorem HX (hf:s.frs=fs++[.ref (M0.length+(t+5))]) (A:eU M0.length s.T t j l kn fl bk) (hp:s.pile=p++[x]) (hl:kn.length<line):(aa ah (k+1)).call 16 [.ref M0.length, .tup [.str (w "keep")]] (s.h M0)=.ok .aq (({ s with pile:=p, T:=s.T.set j (.lst (kn++[x])) }:Mx).h M0):=by
 have e1:=jG (Φ:=aa ah k) (Z:=[some (.ref M0.length), some (.tup [.str (w "keep")]), none]) (M0:=M0) (s:=s) (i:=0) rfl hf
 have q:∀ u:Str, decide (w "keep" = u)=false->ev (aa ah k) (.cmp .eq (.idx (.v 1) (.k (.int 0))) (.k (.str u))) [some (.ref M0.length), some (.tup [.str (w "keep")]), some (.ref (M0.length+(t+5)))] (s.h M0)=.ok (.bl false) (s.h M0):=fun u h=>dF (aY rfl rfl dh) h
 have e4:ev (aa ah k) (.cmp .eq (.idx (.v 1) (.k (.int 0))) (.k (.str (w "keep")))) [some (.ref M0.length), some (.tup [.str (w "keep")]), some (.ref (M0.length+(t+5)))] (s.h M0)=.ok (.bl true) (s.h M0):=dF (aY rfl rfl dh) (by decide +kernel)
 have e5:=jH (Φ:=aa ah k) (Z:=[some (.ref M0.length), some (.tup [.str (w "keep")]), some (.ref (M0.length+(t+5)))]) (M0:=M0) (i:=0) (s:=s) rfl hp
 have g:(({ s with pile:=p }:Mx).h M0)[M0.length+(j+5)]? = some (.lst kn):=gT.trans A.kn
 have e6:=lS (HK (Φ:=aa ah k) (e:=.v 2) (Z:=[some (.ref M0.length), some (.tup [.str (w "keep")]), some (.ref (M0.length+(t+5)))]) A rfl) (gT.trans A.kn) e5 g hl
 rw [sT] at e6
 exact gf CI rfl ((av e1).trans (cD (q _ (by decide +kernel)) ((cD (q _ (by decide +kernel)) ((iK e4 ((bx e6).trans rfl)).trans rfl)).trans rfl))) (bz (by simp))
theorem HY (hf:s.frs=fs++[.ref (M0.length+(t+5))]) (A:eU M0.length s.T t j l (kn++[x]) fl bk):(aa ah (k+1)).call 16 [.ref M0.length, .tup [.str (w "drop")]] (s.h M0)=.ok .aq (({ s with T:=s.T.set j (.lst kn) }:Mx).h M0):=by
 have e1:=jG (Φ:=aa ah k) (Z:=[some (.ref M0.length), some (.tup [.str (w "drop")]), none]) (M0:=M0) (s:=s) (i:=0) rfl hf
 have q:∀ u:Str, decide (w "drop" = u)=false->ev (aa ah k) (.cmp .eq (.idx (.v 1) (.k (.int 0))) (.k (.str u))) [some (.ref M0.length), some (.tup [.str (w "drop")]), some (.ref (M0.length+(t+5)))] (s.h M0)=.ok (.bl false) (s.h M0):=fun u h=>dF (aY rfl rfl dh) h
 have e6:=oK (HK (Φ:=aa ah k) (e:=.v 2) (Z:=[some (.ref M0.length), some (.tup [.str (w "drop")]), some (.ref (M0.length+(t+5)))]) A rfl) (gT.trans A.kn)
 rw [sT] at e6
 exact gf CI rfl ((av e1).trans (cD (q _ (by decide +kernel)) ((cD (q _ (by decide +kernel)) ((cD (q _ (by decide +kernel)) ((bx e6).trans rfl)).trans rfl)).trans rfl))) (bz (by simp))
theorem Ic (hf:s.frs=fs++[.ref (M0.length+(t+5))]) (A:eU M0.length s.T t j l kn fl bk):(aa ah (k+1)).call 17 [.ref M0.length, .tup [.str (w "back")]] (s.h M0)=.ok .aq (({ s with frs:=fs, pl:=bk }:Mx).h M0):=by
 have q:∀ u:Str, decide (w "back" = u)=false->ev (aa ah k) (.cmp .eq (.idx (.v 1) (.k (.int 0))) (.k (.str u))) [some (.ref M0.length), some (.tup [.str (w "back")])] (s.h M0)=.ok (.bl false) (s.h M0):=fun u h=>dF (aY rfl rfl dh) h
 have e4:ev (aa ah k) (.cmp .eq (.idx (.v 1) (.k (.int 0))) (.k (.str (w "back")))) [some (.ref M0.length), some (.tup [.str (w "back")])] (s.h M0)=.ok (.bl true) (s.h M0):=dF (aY rfl rfl dh) (by decide +kernel)
 have e5:=oK (eB (Φ:=aa ah k) (Z:=[some (.ref M0.length), some (.tup [.str (w "back")])]) (M0:=M0) (s:=s) (i:=0) rfl) (g2.trans (by rw [hf]))
 rw [s2] at e5
 have e6:=kr (Φ:=aa ah k) (Z:=[some (.ref M0.length), some (.tup [.str (w "back")])]) (s:=s) (s':={ s with frs:=fs }) (M0:=M0) (i:=0) rfl (e_bk (s:={ s with frs:=fs }) A e5)
 exact gf KZ rfl (cD (q _ (by decide +kernel)) ((cD (q _ (by decide +kernel)) ((iK e4 ((bQ e6).trans rfl)).trans rfl)).trans rfl)) (bz rfl)
end
end bA
end
section
namespace bA
open Fg PySem
section
variable {M0:MH} {s:Mx} {x y v bk:D} {rest fs kn fl p:List D} {z:Str} {t k l f j:Nat} {i:Int} {Φ:aS} {Z:Sg} {M:MH}
theorem HL {M1 M2:MH} {e e':E} {a b:Int} {q:Bool} (he:ev Φ e Z M=.ok (.int a) M1) (hx:ev Φ e' Z M1=.ok (.int b) M2) (hq:decide (b<a)=q):ev Φ (.cmp .gt e e') Z M=.ok (.bl q) M2:=by
 rw [gB,he,R.af,hx,<- hq];rfl
theorem LB {b u m:Int}:(aa ah (k+1)).call 6 [.int b,.int u,.int m] M=if m<b+1 then .exc 3 M else if 12<u+1 then .exc 4 M else .ok .aq M:=by
 have e1:∀ q,decide (m<b+1)=q->ev (aa ah k) (.cmp .gt (.op .add true (.v 0) (.k (.int 1))) (.v 2)) [some (.int b),some (.int u),some (.int m)] M=.ok (.bl q) M:=fun q h=>HL (jI rfl rfl) rfl h
 have g:ev (aa ah k) (.g 1) [some (.int b),some (.int u),some (.int m)] M=.ok (.int 12) M:=by rw [ev_g,sO];rfl
 have e2:∀ q,decide (12<u+1)=q->ev (aa ah k) (.cmp .gt (.op .add true (.v 1) (.k (.int 1))) (.g 1)) [some (.int b),some (.int u),some (.int m)] M=.ok (.bl q) M:=fun q h=>HL (jI rfl rfl) g h
 by_cases h1:m<b+1
 ·rw [if_pos h1]
  exact sP fn6 rfl (pP (e1 true (decide_eq_true h1)) rfl) cS
 ·rw [if_neg h1]
  by_cases h2:12<u+1
  ·rw [if_pos h2]
   exact sP fn6 rfl ((cV (e1 false (decide_eq_false h1))).trans (pP (e2 true (decide_eq_true h2)) (pO g (by decide)))) cS
  ·rw [if_neg h2]
   exact gf fn6 rfl ((cV (e1 false (decide_eq_false h1))).trans ((cV (e2 false (decide_eq_false h2))).trans rfl)) (aC (by simp [nr]) rfl)
theorem oJ {M1 M2:MH} {e a:E} {d:D} {n c:Nat} {g:Str} {gs gs':List (Str×D)} (he:ev Φ e Z M=.ok d M1) (ha:ev Φ a Z M1=.ok (.ref n) M2) (h:M2[n]? = some (.ins c gs)) (hl:gs.length<1000) (hg:bI g d gs=gs'):ex Φ (.bP a g e) Z M=.ok (.nx Z) (M2.set n (.ins c gs')):=by
 simp only [oF,he,R.aT,ha,h,hl,decide_true,if_true,hg]
theorem vm {n:Nat} {x y z:D} (h:M[n]? = some (.ins 0 [])):(aa ah (k+1)).call 8 [.ref n, x, y, z] M=.ok .aq (M.set n (.ins 0 [(w "known", x), (w "fields", y), (w "behind_call", z)])):=by
 have p1:bI (w "fields") y [(w "known", x)]=[(w "known", x), (w "fields", y)]:=by simp only [bI, wn (a:="known") (b:="fields"), if_false]
 have p2:bI (w "behind_call") z [(w "known", x), (w "fields", y)]=[(w "known", x), (w "fields", y), (w "behind_call", z)]:=by simp only [bI, wn (a:="known") (b:="behind_call"), wn (a:="fields") (b:="behind_call"), if_false]
 have e1:=oJ (Φ:=aa ah k) (Z:=[some (.ref n), some x, some y, some z]) (e:=.v 1) (a:=.v 0) (g:=w "known") (gs':=[(w "known", x)]) rfl rfl h (by decide) rfl
 have e2:=oJ (Φ:=aa ah k) (Z:=[some (.ref n), some x, some y, some z]) (e:=.v 2) (a:=.v 0) (g:=w "fields") rfl rfl (j9 (b:=.ins 0 [(w "known", x)]) h) (by simp) p1
 rw [List.set_set] at e2
 have e3:=oJ (Φ:=aa ah k) (Z:=[some (.ref n), some x, some y, some z]) (e:=.v 3) (a:=.v 0) (g:=w "behind_call") rfl rfl (j9 (b:=.ins 0 [(w "known", x), (w "fields", y)]) h) (by simp) p2
 rw [List.set_set] at e3
 exact gf fn8 rfl ((bQ e1).trans ((bQ e2).trans ((bQ e3).trans rfl))) (aC (by simp [nr]) (by simp))
theorem e_new {M1 M2:MH} {c g:Nat} {es:Es} {ds:List D} (he:cG Φ es Z M=.ok ds M1) (hc:Φ.ini g (.ref M1.length::ds) (M1++[.ins c []])=.ok .aq M2):ev Φ (.new c g es) Z M=.ok (.ref M1.length) M2:=by
 rw [HD,he,R.af,hc];rfl
theorem sE {M1 M2:MH} {caps tg:List Nat} {elt:E} {it:Src} {d:D} {ds out:List D} (hi:bZ Φ it Z M=.ok (d,ds,false) M1) (hl:bh (mE Φ .none) (ev Φ elt) tg (aI M1 d) ds (jv Z caps++List.replicate tg.length none) M1 []=.ok out M2):ev Φ (.comp false caps tg elt it .none) Z M=.ok (.ref M2.length) (M2++[.lst out]):=by
 rw [uW,hi,R.af,zJ,hl];rfl
theorem cO {M1 M2:MH} {caps tg:List Nat} {elt:E} {it:Src} {d:D} {ds out:List D} (hi:bZ Φ it Z M=.ok (d,ds,false) M1) (hl:bh (mE Φ .none) (ev Φ elt) tg (aI M1 d) ds (jv Z caps++List.replicate tg.length none) M1 []=.ok out M2):ev Φ (.comp true caps tg elt it .none) Z M=.ok (.lst out) M2:=by
 rw [uW,hi,R.af,zJ,hl];rfl
theorem ly {elt:Sg->MH->R D} {n:Nat} {ch:MH->Bool} {d x:D} {ds acc:List D} {M1:MH} (h:elt (Z.set n (some d)) M=.ok x M1) (hc:ch M1=true) (hl:acc.length<line):bh (mE Φ .none) elt [n] ch (d::ds) Z M acc=bh (mE Φ .none) elt [n] ch ds (Z.set n (some d)) M1 (acc++[x]):=by
 rw [bh]
 simp only [sets,zP,R.af,h,hc,if_true,hl,decide_true]
theorem yY {ch:MH->Bool} (hch:∀ M,ch M=true):∀ (xs ds:List D) (s:Mx) (o:Option D) (acc:List D),ds.length=xs.length->s.pile=p++xs.reverse->acc.length+xs.length<=line ->
  bh (mE Φ .none) (ev Φ (.aW .pop true (.fld (.v 0) (w "pile")) .nil)) [1] ch ds [some (.ref M0.length), o] (s.h M0) acc=.ok (acc++xs) (({ s with pile:=p }:Mx).h M0)
 | [],[],s,o,acc,_,hp,_=>by
  rw [List.reverse_nil,List.append_nil] at hp
  rw [List.append_nil,bh,<- hp]
 | x::xs,d::ds,s,o,acc,hd,hp,hl=>by
  rw [List.reverse_cons,<- List.append_assoc] at hp
  simp only [List.length_cons] at hd hl
  rw [ly (Φ:=Φ) (Z:=[some (.ref M0.length),o]) (jH (Φ:=Φ) (Z:=[some (.ref M0.length),some d]) (M0:=M0) (i:=0) rfl hp) (hch _) (by omega)]
  rw [show ([some (.ref M0.length),o]:Sg).set 1 (some d)=[some (.ref M0.length),some d] from rfl,yY hch xs ds { s with pile:=p++xs.reverse } (some d) (acc++[x]) (by omega) rfl (by simp;omega)]
  rw [List.append_assoc];rfl
 | [],_::_,_,_,_,hd,_,_=>by simp at hd
 | _::_,[],_,_,_,hd,_,_=>by simp at hd
theorem yZ {a:Nat} {ch:MH->Bool} (hch:ch M=true) (hM:M[a]? = some (.lst fl)):∀ (is:List Int) (ys:List D) (o:Option D) (acc:List D),is.map (cQ fl)=ys.map some->acc.length+is.length<=line ->
  bh (mE Φ .none) (ev Φ (.idx (.v 0) (.v 1))) [1] ch (is.map D.int) [some (.ref a),o] M acc=.ok (acc++ys) M
 | [],[],o,acc,_,_=>by rw [List.append_nil,List.map_nil,bh]
 | i::is,y::ys,o,acc,h,hl=>by
  simp only [List.map_cons,List.cons.injEq] at h
  simp only [List.length_cons] at hl
  rw [List.map_cons,ly (Φ:=Φ) (Z:=[some (.ref a),o]) (x:=y) (M1:=M) (qF rfl rfl hM h.1) hch (by omega)]
  rw [show ([some (.ref a),o]:Sg).set 1 (some (.int i))=[some (.ref a),some (.int i)] from rfl,yZ hch hM is ys (some (.int i)) (acc++[y]) h.2 (by simp;omega)]
  rw [List.append_assoc];rfl
 | [],_::_,_,_,h,_=>by simp at h
 | _::_,[],_,_,h,_=>by simp at h
theorem zW {M1:MH} {e:E} {n:Nat} (he:ev Φ e Z M=.ok (.int n) M1) (hn:n<=1000000):bZ Φ (.cR e) Z M=.ok (.aq,cW 0 n,false) M1:=by
 rw [CP,he,R.af]
 simp only [iM hn,if_true]
theorem pR {n:Nat}:(cW 0 (n:Int)).length=n:=by simp [cW]
end
theorem nE {M M':MH} {i:Nat} {a b:MO} (h1:M[i]? = some a) (h2:M'[i]? = some b) (hn:a≠b):M'.take M.length≠M:=fun h=>by
 have hi:=(List.getElem?_eq_some_iff.mp h1).1
 have:=List.getElem?_take_of_lt (l:=M') hi
 rw [h,h1,h2] at this
 exact hn (Option.some.inj this)
theorem nK {M M':MH} {d:D} (h:M'.take M.length≠M):dZ false M d M'=.ok d M':=by
 unfold dZ;rw [if_neg fun z=>h z.2]
theorem fB {s:Mx} {M0:MH}:(s.h M0).length=M0.length+(s.T.length+5):=len
section
variable {M0:MH} {s:Mx} {bk:D} {fs kn fl p xs ys:List D} {t k l j:Nat} {is:List Int}
theorem C8 {a pl:D} (hf:s.frs=fs++[.ref (M0.length+(t+5))]) (A:eU M0.length s.T t j l kn fl bk) (h1:¬ s.most<s.bg+1) (h2:¬ 12<((s.frs.length:Int)-1)+1) (hp:s.pile=p++xs) (hx:xs.length<=1000000) (hy:is.map (cQ fl)=ys.map some) (hi:is.length<=line) (hpl:s.pl=pl) (hfl:s.frs.length<line) :
  (aa ah (k+3)).call 18 [.ref M0.length,a,.int xs.length,.tup (is.map D.int)] (s.h M0) =
   .ok .aq (({ s with bg:=s.bg+1, pile:=p, pl:=a, frs:=s.frs++[.ref (M0.length+(s.T.length+2+5))], T:=s.T++[.lst xs, .lst ys, .ins 0 [(w "known", .ref (M0.length+(s.T.length+5))), (w "fields", .ref (M0.length+(s.T.length+1+5))), (w "behind_call", pl)]] }:Mx).h M0):=by
 have hlt:t<s.T.length:=(List.getElem?_eq_some_iff.mp A.at_).1
 have hll:l<s.T.length:=(List.getElem?_eq_some_iff.mp A.fl).1
 have e1:ev (aa ah (k+2)) (.call 6 (.cons (.fld (.v 0) (w "begun")) (.cons (.op .sub true (.blt .len true (.cons (.fld (.v 0) (w "frames")) .nil)) (.k (.int 1))) (.cons (.fld (.v 0) (w "most")) .nil)))) [some (.ref M0.length), some a, some (.int xs.length), some (.tup (is.map D.int)), none, none] (s.h M0)=.ok .aq (s.h M0):=by
  rw [bC,az,uT (s:=s) (M0:=M0) (i:=0) rfl,R.af,az,lQ (e_len (eB (s:=s) (M0:=M0) (i:=0) rfl) g2) rfl,R.af,az,Hz (s:=s) (M0:=M0) (i:=0) rfl,R.af,aP]
  exact LB.trans (by rw [if_neg h1,if_neg h2])
 have e2:=C0 (Φ:=aa ah (k+2)) (Z:=[some (.ref M0.length), some a, some (.int xs.length), some (.tup (is.map D.int)), none, none]) (e:=.op .add false (.fld (.v 0) (w "begun")) (.k (.int 1))) (s:=s) (M0:=M0) (i:=0) rfl (jI (uT (s:=s) (M0:=M0) (i:=0) rfl) rfl)
 let s1:Mx:={ s with bg:=s.bg+1 }
 let s2':Mx:={ s with bg:=s.bg+1,pile:=p }
 have e3:=sE (Φ:=aa ah (k+2)) (Z:=[some (.ref M0.length),some a,some (.int xs.length),some (.tup (is.map D.int)),none,none]) (M:=s1.h M0) (caps:=[0]) (tg:=[1]) (it:=.cR (.v 2)) (zW (n:=xs.length) rfl hx)
  (yY (Φ:=aa ah (k+2)) (M0:=M0) (ch:=aI (s1.h M0) .aq) (fun _=>rfl) xs.reverse (cW 0 (xs.length:Int)) s1 none [] (by rw [pR,List.length_reverse]) (by rw [List.reverse_reverse];exact hp) (by rw [List.length_reverse];exact Nat.le_trans (by simp) hx))
 rw [List.nil_append,app] at e3
 rw [show ({ s1 with pile:=p }:Mx)=s2' from rfl,fB] at e3
 let s3':Mx:={ s2' with T:=s2'.T++[.lst xs.reverse] }
 have g4':(s3'.h M0)[M0.length+(s.T.length+5)]? = some (.lst xs.reverse):=gT.trans (by show (s.T++[MO.lst xs.reverse])[s.T.length]? = _;simp)
 have e4:ev (aa ah (k+2)) (.aW .reverse true (.v 4) .nil) [some (.ref M0.length),some a,some (.int xs.length),some (.tup (is.map D.int)),some (.ref (M0.length+(s.T.length+5))),none] (s3'.h M0)=.ok .aq (({ s2' with T:=s.T++[.lst xs] }:Mx).h M0):=by
  rw [gA,gR]
  simp only [List.getElem?_cons_succ,List.getElem?_cons_zero,R.af,nU,cu g4',Option.isSome_some,Bool.and_self,if_true,aP,gM,nT,List.isEmpty_nil,List.reverse_reverse]
  rw [sT]
  show R.ok D.aq (({ s2' with T:=(s.T++[MO.lst xs.reverse]).set s.T.length (.lst xs) }:Mx).h M0)=_
  rw [List.set_append_right _ _ (Nat.le_refl _),Nat.sub_self];rfl
 let wW:Mx:={ s2' with T:=s.T++[.lst xs] }
 have up:∀ {i:Nat} {o:MO},i<s.T.length->s.T[i]? = some o->wW.T[i]? = some o:=fun {i o} h e=>by show (s.T++[MO.lst xs])[i]? = _;rw [List.getElem?_append_left h];exact e
 have A4:eU M0.length wW.T t j l kn fl bk:=⟨up hlt A.at_,up ((List.getElem?_eq_some_iff.mp A.kn).1) A.kn,up hll A.fl⟩
 have e5:ev (aa ah (k+2)) (.fld (.idx (.fld (.v 0) (w "frames")) (.neg (.k (.int 1)))) (w "fields")) [some (.ref M0.length), some a, some (.int xs.length), some (.tup (is.map D.int)), some (.ref (M0.length+(s.T.length+5))), none] (wW.h M0)=.ok (.ref (M0.length+(l+5))) (wW.h M0):=CW A4 (jG rfl hf)
 have e6:=sE (Φ:=aa ah (k+2)) (Z:=[some (.ref M0.length),some a,some (.int xs.length),some (.tup (is.map D.int)),some (.ref (M0.length+(s.T.length+5))),some (.ref (M0.length+(l+5)))]) (M:=wW.h M0) (M1:=wW.h M0) (caps:=[5]) (tg:=[1]) (it:=.e (.v 3)) (d:=.tup (is.map D.int)) (ds:=is.map D.int) rfl
  (yZ (Φ:=aa ah (k+2)) (ch:=aI (wW.h M0) (.tup (is.map D.int))) (a:=M0.length+(l+5)) rfl (gT.trans A4.fl) is ys none [] hy (by simpa using hi))
 rw [List.nil_append,app,fB] at e6
 have l4:wW.T.length=s.T.length+1:=by show (s.T++[MO.lst xs]).length=_;simp
 let wV:Mx:={ wW with T:=wW.T++[.lst ys] }
 have l5:wV.T.length=s.T.length+2:=by show (s.T++[MO.lst xs]++[MO.lst ys]).length=_;simp
 let fo:MO:=.ins 0 [(w "known", .ref (M0.length+(s.T.length+5))), (w "fields", .ref (M0.length+(s.T.length+1+5))), (w "behind_call", pl)]
 let JH:Mx:={ wV with T:=wV.T++[fo] }
 have e7:ev (aa ah (k+2)) (.new 0 8 (.cons (.v 4) (.cons (.comp false [5] [1] (.idx (.v 0) (.v 1)) (.e (.v 3)) .none) (.cons (.fld (.v 0) (w "place")) .nil)))) [some (.ref M0.length), some a, some (.int xs.length), some (.tup (is.map D.int)), some (.ref (M0.length+(s.T.length+5))), some (.ref (M0.length+(l+5)))] (wW.h M0)=.ok (.ref (wV.h M0).length) (JH.h M0):=by
  refine e_new (M1:=wV.h M0) (ds:=[.ref (M0.length+(s.T.length+5)),.ref (M0.length+(s.T.length+1+5)),pl]) ?_ ?_
  ·rw [az,gR]
   simp only [List.getElem?_cons_succ,List.getElem?_cons_zero,R.af]
   rw [az,e6,R.af,az,oA (s:=wV) (M0:=M0) (i:=0) rfl,R.af,aP,R.af,l4]
   show R.ok [_,_,s.pl] _=_
   rw [hpl]
  ·rw [app,fB,l5]
   have gn:(({ wV with T:=wV.T++[.ins 0 []] }:Mx).h M0)[M0.length+(s.T.length+2+5)]? = some (.ins 0 []):=gT.trans (by rw [<- l5];show (wV.T++[MO.ins 0 []])[wV.T.length]? = _;simp)
   refine (vm (k:=k) gn).trans ?_
   rw [sT]
   show R.ok D.aq (({ wV with T:=(wV.T++[MO.ins 0 []]).set (s.T.length+2) fo }:Mx).h M0)=_
   rw [<- l5,List.set_append_right _ _ (Nat.le_refl _),Nat.sub_self];rfl
 have e8:=lS (eB (Φ:=aa ah (k+2)) (Z:=[some (.ref M0.length),some a,some (.int xs.length),some (.tup (is.map D.int)),some (.ref (M0.length+(s.T.length+5))),some (.ref (M0.length+(l+5)))]) (M0:=M0) (s:=wW) (i:=0) rfl) g2 e7 (g2 (s:=JH)) hfl
 rw [s2,fB,l5] at e8
 have e9:=kr (Φ:=aa ah (k+2)) (Z:=[some (.ref M0.length),some a,some (.int xs.length),some (.tup (is.map D.int)),some (.ref (M0.length+(s.T.length+5))),some (.ref (M0.length+(l+5)))]) (e:=.v 1) (d:=a) (s:={ JH with frs:=s.frs++[.ref (M0.length+(s.T.length+2+5))] }) (s':={ JH with frs:=s.frs++[.ref (M0.length+(s.T.length+2+5))] }) (M0:=M0) (i:=0) rfl rfl
 refine gf fn18 rfl ((bx e1).trans ((bQ e2).trans ((av e3).trans ((bx e4).trans ((av e5).trans ((bx e8).trans ((bQ e9).trans rfl))))))) ?_
 have eT:({ s with bg:=s.bg+1,pile:=p,pl:=a,frs:=s.frs++[.ref (M0.length+(s.T.length+2+5))],T:=s.T++[.lst xs,.lst ys,fo] }:Mx)={ JH with frs:=s.frs++[.ref (M0.length+(s.T.length+2+5))],pl:=a }:=by
  exact congrArg (Mx.mk _ _ _ _ _ _ _ _) (show s.T++[MO.lst xs,MO.lst ys,fo]=s.T++[MO.lst xs]++[MO.lst ys]++[fo] by simp)
 rw [eT]
 refine nK (nE (i:=M0.length+2) g2 g2 fun h=>?_)
 have h:=congrArg (fun o=>match o with | MO.lst xs=>xs.length | _=>0) h
 simp at h
end
end bA
end
section
namespace bA
open Fg PySem
section
variable {z:Str}
theorem MQ (h:an w1 z=true):br z=sQ:=if_pos h
theorem br2 (h1:an w1 z=false) (h:an w2 z=true):br z=bGo:=by
 unfold br;rw [if_neg (by rw [h1];decide),if_pos h]
theorem br3 (h1:an w1 z=false) (h2:an w2 z=false) (h:an w3 z=true):br z=Ii:=by
 unfold br;rw [if_neg (by rw [h1];decide),if_neg (by rw [h2];decide),if_pos h]
theorem br4 (h1:an w1 z=false) (h2:an w2 z=false) (h3:an w3 z=false) (h:an w4 z=true):br z=As:=by
 unfold br;rw [if_neg (by rw [h1];decide),if_neg (by rw [h2];decide),if_neg (by rw [h3];decide),if_pos h]
theorem MS (h1:an w1 z=false) (h2:an w2 z=false) (h3:an w3 z=false) (h4:an w4 z=false):br z=if decide (z=w "nil") then Dg else if decide (z=w "none") then Ar else if decide (z=w "open") then bOpen else if decide (z=w "shut") then vn else vo:=by
 unfold br;rw [if_neg (by rw [h1];decide),if_neg (by rw [h2];decide),if_neg (by rw [h3];decide),if_neg (by rw [h4];decide)]
theorem Ie:br (w "nil")=Dg:=(MS (by decide +kernel) (by decide +kernel) (by decide +kernel) (by decide +kernel)).trans (if_pos (by decide +kernel))
theorem De:br (w "open")=bOpen:=(MS (by decide +kernel) (by decide +kernel) (by decide +kernel) (by decide +kernel)).trans ((if_neg (by decide +kernel)).trans ((if_neg (by decide +kernel)).trans (if_pos (by decide +kernel))))
theorem Dd:br (w "shut")=vn:=(MS (by decide +kernel) (by decide +kernel) (by decide +kernel) (by decide +kernel)).trans ((if_neg (by decide +kernel)).trans ((if_neg (by decide +kernel)).trans ((if_neg (by decide +kernel)).trans (if_pos (by decide +kernel)))))
end
section
variable {M0:MH} {s:Mx} {x y v bk a b:D} {rs fs kn fl p xs ys:List D} {z c:Str} {t k l f j:Nat} {i n sz:Int} {is:List Int}
theorem vH (hr:mG M0 s.rows rs) (hp:s.pl=.int i) (ha:cQ rs i=some (.tup [.str (w "number"), x])) (hf:s.frs=fs++[y]) (hl:s.pile.length<line):(aa ah (k+2)).call 19 [.ref M0.length] (s.h M0)=.ok .aq (({ s with pl:=.int (i+1), pile:=s.pile++[x] }:Mx).h M0):=by
 refine bK (s:=s) hr hp ha ?_ (bz rfl)
 rw [MQ (by decide +kernel)]
 exact (gi (s:={ s with pl:=.int (i+1) }) (s':={ s with pl:=.int (i+1) }) rfl (by decide +kernel) rfl (Ak hf hl)).trans rfl
theorem xG (hr:mG M0 s.rows rs) (hp:s.pl=.int i) (ha:cQ rs i=some (.tup [.str (w "local"), .int n])) (hf:s.frs=fs++[.ref (M0.length+(t+5))]) (A:eU M0.length s.T t j l kn fl bk) (hx:cQ kn n=some x) (hl:s.pile.length<line):(aa ah (k+2)).call 19 [.ref M0.length] (s.h M0)=.ok .aq (({ s with pl:=.int (i+1), pile:=s.pile++[x] }:Mx).h M0):=by
 refine bK (s:=s) hr hp ha ?_ (bz rfl)
 rw [MQ (by decide +kernel)]
 exact (gi (s:={ s with pl:=.int (i+1) }) (s':={ s with pl:=.int (i+1) }) rfl (by decide +kernel) rfl (C7 (s:={ s with pl:=.int (i+1) }) hf A hx hl)).trans rfl
theorem AS (hr:mG M0 s.rows rs) (hp:s.pl=.int i) (ha:cQ rs i=some (.tup [.str (w "keep")])) (hf:s.frs=fs++[.ref (M0.length+(t+5))]) (A:eU M0.length s.T t j l kn fl bk) (hx:s.pile=p++[x]) (hl:kn.length<line):(aa ah (k+2)).call 19 [.ref M0.length] (s.h M0)=.ok .aq (({ s with pl:=.int (i+1), pile:=p, T:=s.T.set j (.lst (kn++[x])) }:Mx).h M0):=by
 refine bK (s:=s) hr hp ha ?_ (bz (by simp))
 rw [MQ (by decide +kernel)]
 exact (gi (s:={ s with pl:=.int (i+1) }) (s':={ s with pl:=.int (i+1) }) rfl (by decide +kernel) rfl (HX (s:={ s with pl:=.int (i+1) }) hf A hx hl)).trans rfl
theorem AU (hr:mG M0 s.rows rs) (hp:s.pl=.int i) (ha:cQ rs i=some (.tup [.str (w "drop")])) (hf:s.frs=fs++[.ref (M0.length+(t+5))]) (A:eU M0.length s.T t j l (kn++[x]) fl bk):(aa ah (k+2)).call 19 [.ref M0.length] (s.h M0)=.ok .aq (({ s with pl:=.int (i+1), T:=s.T.set j (.lst kn) }:Mx).h M0):=by
 refine bK (s:=s) hr hp ha ?_ (bz (by simp))
 rw [MQ (by decide +kernel)]
 exact (gi (s:={ s with pl:=.int (i+1) }) (s':={ s with pl:=.int (i+1) }) rfl (by decide +kernel) rfl (HY (s:={ s with pl:=.int (i+1) }) hf A)).trans rfl
theorem AW (hr:mG M0 s.rows rs) (hp:s.pl=.int i) (ha:cQ rs i=some (.tup [.str (w "back")])) (hf:s.frs=fs++[.ref (M0.length+(t+5))]) (A:eU M0.length s.T t j l kn fl bk):(aa ah (k+2)).call 19 [.ref M0.length] (s.h M0)=.ok .aq (({ s with pl:=bk, frs:=fs }:Mx).h M0):=by
 refine bK (s:=s) hr hp ha ?_ (bz rfl)
 rw [br2 (by decide +kernel) (by decide +kernel)]
 exact (gi (s:={ s with pl:=.int (i+1) }) (s':={ s with pl:=.int (i+1) }) rfl (by decide +kernel) rfl (Ic (s:={ s with pl:=.int (i+1) }) hf A)).trans rfl
theorem CY {Φ:aS} {Z:Sg} (h0:Z[0]? = some (some (.ref M0.length))) (h1:Z[1]? = some (some (.tup [.str z,.int n]))) (hf:s.frs=fs++[.ref (M0.length+(t+5))]) (A:eU M0.length s.T t j l kn fl bk) (hn:cQ fl n=some x):ev Φ (.idx II (.idx (.v 1) (.k (.int 1)))) Z (s.h M0)=.ok x (s.h M0) :=
 qF (CW A (jG h0 hf)) (aY (e_v h1) rfl lW) (gT.trans A.fl) hn
theorem mD {Φ:aS} {Z:Sg} {M M1 M2:MH} {e e':E} (h:ev Φ e Z M=.ok x M1) (h':ev Φ e' Z M1=.ok y M2):cG Φ (.cons e (.cons e' .nil)) Z M=.ok [x,y] M2:=by rw [az,h,R.af,az,h'];rfl
theorem wD {Φ:aS} {Z:Sg} {M M1:MH} {e:E} (h:ev Φ e Z M=.ok x M1):cG Φ (.cons e .nil) Z M=.ok [x] M1:=by rw [az,h];rfl
theorem EM (hz:an w3 z=true) (hz1:an w1 z=false) (hz2:an w2 z=false) (hw:z.length<=100000) (hr:mG M0 s.rows rs) (hp:s.pl=.int i) (ha:cQ rs i=some (.tup [.str z,.int n])) (hf:s.frs=fs++[.ref (M0.length+(t+5))]) (A:eU M0.length s.T t j l kn fl bk) (hn:cQ fl n=some (.int f)) (va:Vl a) (vb:Vl b) (hx:s.pile=p++[a]++[b])
  (h:¬ 1000<1+eV a+eV b) (ho:s.ai[f]? = some (.bl true)) (hs:f<18446744073709551616) (h2:s.log.length<line) (h3:p.length<line):(aa ah (k+4)).call 19 [.ref M0.length] (s.h M0)=.ok .aq (({ s with pl:=.int (i+1), pile:=p++[.tup [.str z, .int (1+eV a+eV b), a, b, .int f]], log:=s.log++[.tup [.str (w "lay"), .int f]] }:Mx).h M0):=by
 refine bK (s:=s) hr hp ha ?_ (bz rfl)
 rw [br3 hz1 hz2 hz]
 exact (gi (s:={ s with pl:=.int (i+1) }) (s':={ s with pl:=.int (i+1) }) rfl (by decide +kernel) (mD rfl (CY (s:={ s with pl:=.int (i+1) }) rfl rfl hf A hn)) (Ku (s:={ s with pl:=.int (i+1) }) hw va vb hx h ho hs h2 h3)).trans rfl
theorem AR {q:Bool} (hz:an w4 z=true) (hz1:an w1 z=false) (hz2:an w2 z=false) (hz3:an w3 z=false) (hq:([w "first", w "head"].any fun y=>decide (y=z))=q) (hr:mG M0 s.rows rs) (hp:s.pl=.int i) (ha:cQ rs i=some (.tup [.str z])) (va:Vl a) (vb:Vl b) (hx:s.pile=p++[.tup [.str c, .int sz, a, b, .int f]])
  (ho:s.ai[f]? = some (.bl true)) (hs:f<18446744073709551616) (h2:s.log.length<line) (h3:p.length<line):(aa ah (k+4)).call 19 [.ref M0.length] (s.h M0)=.ok .aq (({ s with pl:=.int (i+1), pile:=p++[if q then a else b], log:=s.log++[.tup [.str (w "look"), .int f]] }:Mx).h M0):=by
 refine bK (s:=s) hr hp ha ?_ (bz rfl)
 rw [br4 hz1 hz2 hz3 hz]
 exact (gi (s:={ s with pl:=.int (i+1) }) (s':={ s with pl:=.int (i+1) }) rfl (by decide +kernel) rfl (Gw (s:={ s with pl:=.int (i+1) }) hq va vb hx ho hs h2 h3)).trans rfl
theorem EL (hr:mG M0 s.rows rs) (hp:s.pl=.int i) (ha:cQ rs i=some (.tup [.str (w "nil")])) (hl:s.pile.length<line):(aa ah (k+1)).call 19 [.ref M0.length] (s.h M0)=.ok .aq (({ s with pl:=.int (i+1), pile:=s.pile++[.aq] }:Mx).h M0):=by
 refine bK (s:=s) hr hp ha ?_ (bz rfl)
 rw [Ie]
 exact (bx (jq (s:={ s with pl:=.int (i+1) }) (s':={ s with pl:=.int (i+1) }) rfl rfl hl)).trans rfl
theorem AQ (hr:mG M0 s.rows rs) (hp:s.pl=.int i) (ha:cQ rs i=some (.tup [.str (w "open")])) (hf:s.frs=fs++[.ref (M0.length+(t+5))]) (A:eU M0.length s.T t j l kn fl bk) (h1:s.ai.length<line) (h2:s.log.length<line) (h3:fl.length<line) :
  (aa ah (k+2)).call 19 [.ref M0.length] (s.h M0)=.ok .aq (({ s with pl:=.int (i+1), ai:=s.ai++[.bl true], log:=s.log++[.tup [.str (w "open"), .int s.ai.length]], T:=s.T.set l (.lst (fl++[.int s.ai.length])) }:Mx).h M0):=by
 refine bK (s:=s) hr hp ha ?_ (bz (by simp))
 rw [De]
 have e1:ev (aa ah (k+1)) II [some (.ref M0.length), some (.tup [.str (w "open")]), some (.str (w "open"))] (({ s with pl:=.int (i+1) }:Mx).h M0)=.ok (.ref (M0.length+(l+5))) (({ s with pl:=.int (i+1) }:Mx).h M0):=CW (s:={ s with pl:=.int (i+1) }) A (jG rfl hf)
 have e2:ev (aa ah (k+1)) (.dm 1 10 (w "open_field") (.v 0) .nil) [some (.ref M0.length), some (.tup [.str (w "open")]), some (.str (w "open"))] (({ s with pl:=.int (i+1) }:Mx).h M0)=.ok (.int s.ai.length) (({ s with pl:=.int (i+1), ai:=s.ai++[.bl true], log:=s.log++[.tup [.str (w "open"), .int s.ai.length]] }:Mx).h M0) :=
  (u_ (s:={ s with pl:=.int (i+1) }) rfl (by decide +kernel)).trans (yP (s:={ s with pl:=.int (i+1) }) h1 h2)
 have e3:=lS e1 (gT.trans A.fl) e2 (gT.trans A.fl) h3
 rw [sT] at e3
 exact (bx e3).trans rfl
theorem AO (hr:mG M0 s.rows rs) (hp:s.pl=.int i) (ha:cQ rs i=some (.tup [.str (w "shut")])) (hf:s.frs=fs++[.ref (M0.length+(t+5))]) (A:eU M0.length s.T t j l kn (fl++[.int f]) bk) (h1:f<s.ai.length) (h2:s.log.length<line) :
  (aa ah (k+2)).call 19 [.ref M0.length] (s.h M0)=.ok .aq (({ s with pl:=.int (i+1), ai:=s.ai.set f (.bl false), log:=s.log++[.tup [.str (w "shut"), .int f]], T:=s.T.set l (.lst fl) }:Mx).h M0):=by
 refine bK (s:=s) hr hp ha ?_ (bz (by simp))
 rw [Dd]
 have e1:ev (aa ah (k+1)) II [some (.ref M0.length), some (.tup [.str (w "shut")]), some (.str (w "shut"))] (({ s with pl:=.int (i+1) }:Mx).h M0)=.ok (.ref (M0.length+(l+5))) (({ s with pl:=.int (i+1) }:Mx).h M0):=CW (s:={ s with pl:=.int (i+1) }) A (jG rfl hf)
 have e2:=oK e1 (gT.trans A.fl)
 rw [sT] at e2
 exact (gi (s:={ s with pl:=.int (i+1) }) (s':={ s with pl:=.int (i+1),T:=s.T.set l (.lst fl) }) rfl (by decide +kernel) (wD e2) (yO (s:={ s with pl:=.int (i+1),T:=s.T.set l (.lst fl) }) h1 h2)).trans rfl
theorem Al {r:List D} {M1:MH} {d:D} (hd:(aa ah k).call 18 [.ref M0.length, a, b, x] (s.h M0)=.ok d M1) (hn:dZ false (s.h M0) .aq M1=.ok .aq M1):(aa ah (k+1)).call 17 [.ref M0.length, .tup [.str (w "call"), a, b, x]] (s.h M0)=.ok .aq M1:=by
 have q1:ev (aa ah k) (.cmp .eq (.idx (.v 1) (.k (.int 0))) (.k (.str (w "jump")))) [some (.ref M0.length), some (.tup [.str (w "call"), a, b, x])] (s.h M0)=.ok (.bl false) (s.h M0):=dF (aY rfl rfl dh) (by decide +kernel)
 have q2:ev (aa ah k) (.cmp .eq (.idx (.v 1) (.k (.int 0))) (.k (.str (w "call")))) [some (.ref M0.length), some (.tup [.str (w "call"), a, b, x])] (s.h M0)=.ok (.bl true) (s.h M0):=dF (aY rfl rfl dh) (by decide +kernel)
 have q3:exs (aa ah k) (.cons (.ex (.dm 1 18 (w "enter") (.v 0) (.cons (.idx (.v 1) (.k (.int 1))) (.cons (.idx (.v 1) (.k (.int 2))) (.cons (.idx (.v 1) (.k (.int 3))) .nil))))) .nil) [some (.ref M0.length), some (.tup [.str (w "call"), a, b, x])] (s.h M0)=.ok (.nx [some (.ref M0.length), some (.tup [.str (w "call"), a, b, x])]) M1 :=
  (gi rfl (by decide +kernel) rfl hd).trans rfl
 exact gf KZ rfl (cD q1 ((iK q2 q3).trans rfl)) hn
end
end bA
end
section
namespace bA
open Fg PySem
inductive Rk where
 | plus
 | minus
 | times
 | less
noncomputable def dU:Rk->Str
 | .plus=>w "plus"
 | .minus=>w "minus"
 | .times=>w "times"
 | .less=>w "less"
noncomputable def kc:Rk->Int->Int->Int
 | .plus,a,b=>a+b
 | .minus,a,b=>a-b
 | .times,a,b=>a*b
 | .less,a,b=>if a<b then 1 else 0
@[irreducible] noncomputable def IJ:Int:=10 ^ 60
noncomputable def great (i:Int):Bool:=decide (IJ<=(i.natAbs:Int))
noncomputable def Hl:Rk->Bool
 | .less=>true
 | _=>false
noncomputable def BC (o:Rk) (a b:Int):Bool:=!Hl o&&great (kc o a b)
theorem JV:fV .pow 10 60=some IJ:=by unfold IJ;decide +kernel
section
variable {M M1 M2:MH} {k:Nat} {Φ:aS} {Z:Sg} {e e':E}
theorem Ll {fz:Bool}:ev Φ (.op .pow fz (.k (.int 10)) (.k (.int 60))) Z M=.ok (.int IJ) M:=by
 rw [eL,oG,R.af,oG,R.af]
 simp only [qa,JV]
theorem Ln {i:Int} (h:ev Φ e Z M=.ok (.int i) M1):ev Φ (.ng .abs e) Z M=.ok (.int i.natAbs) M1:=by
 have z:(if i<0 then -i else i)=(i.natAbs:Int):=by split <;> omega
 rw [sr,h,R.af,<- z];rfl
theorem e_ge {a b:Int} {q:Bool} (he:ev Φ e Z M=.ok (.int a) M1) (hx:ev Φ e' Z M1=.ok (.int b) M2) (hq:decide (b<=a)=q):ev Φ (.cmp .ge e e') Z M=.ok (.bl q) M2:=by
 rw [gB,he,R.af,hx,R.af,<- hq];rfl
theorem e_lt {a b:Int} {q:Bool} (he:ev Φ e Z M=.ok (.int a) M1) (hx:ev Φ e' Z M1=.ok (.int b) M2) (hq:decide (a<b)=q):ev Φ (.cmp .lt e e') Z M=.ok (.bl q) M2:=by
 rw [gB,he,R.af,hx,R.af,<- hq];rfl
theorem Li {a b:Int} {fz:Bool} (he:ev Φ e Z M=.ok (.int a) M1) (hx:ev Φ e' Z M1=.ok (.int b) M2) (ha:mid a=true) (hb:mid b=true):ev Φ (.op .mul fz e e') Z M=.ok (.int (a*b)) M2:=by
 rw [eL,he,R.af,hx,R.af]
 simp only [qa,fV]
 cases hs:small a||small b with
 | true=>rw [if_pos rfl]
 | false=>rw [if_neg (by decide),ha,hb,Bool.and_self,if_pos rfl]
theorem LA {i:Int}:(aa ah (k+1)).call 2 [.int i] M=if great i then .exc 1 M else .ok .aq M:=by
 have e1:ev (aa ah k) (.cmp .ge (.ng .abs (.v 0)) (.op .pow true (.k (.int 10)) (.k (.int 60)))) [some (.int i)] M=.ok (.bl (great i)) M:=e_ge (Ln rfl) Ll rfl
 cases hq:great i with
 | true=>rw [hq] at e1;exact sP fn2 rfl (pP e1 rfl) cS
 | false=>rw [hq] at e1;exact gf fn2 rfl ((cV e1).trans rfl) (aC rfl rfl)
theorem HW {o:Rk} {a b:Int} (ha:mid a=true) (hb:mid b=true):(aa ah (k+2)).call 3 [.str (dU o),.int a,.int b] M=if BC o a b then .exc 1 M else .ok (.int (kc o a b)) M:=by
 have z:∀ u:Str,ev (aa ah (k+1)) (.cmp .eq (.v 0) (.k (.str u))) [some (.str (dU o)),some (.int a),some (.int b),none] M=.ok (.bl (decide (dU o=u))) M:=fun u=>z8 rfl
 have fin:∀ {v:Int},exs (aa ah (k+1)) (.cons (.ex (.call 2 (.cons (.v 3) .nil))) (.cons (.ret (.v 3)) .nil)) [some (.str (dU o)),some (.int a),some (.int b),some (.int v)] M=if great v then .ok (.xc 1 [some (.str (dU o)),some (.int a),some (.int b),some (.int v)]) M else .ok (.rt (.int v)) M:=fun {v}=>by
  have q:=(iW (Φ:=aa ah (k+1)) (f:=2) (e_v (M:=M) (Z:=[some (.str (dU o)),some (.int a),some (.int b),some (.int v)]) (i:=3) rfl)).trans LA
  cases hg:great v with
  | true=>rw [hg] at q;exact uc q
  | false=>rw [hg] at q;exact (bx q).trans rfl
 have done:∀ {v:Int},exs (aa ah (k+1)) iw.body [some (.str (dU o)),some (.int a),some (.int b),none] M=exs (aa ah (k+1)) (.cons (.ex (.call 2 (.cons (.v 3) .nil))) (.cons (.ret (.v 3)) .nil)) [some (.str (dU o)),some (.int a),some (.int b),some (.int v)] M ->
   (aa ah (k+2)).call 3 [.str (dU o),.int a,.int b] M=if great v then .exc 1 M else .ok (.int v) M:=fun {v} h=>by
  rw [fin] at h
  cases hg:great v with
  | true=>rw [hg] at h;exact sP fn3 rfl h cS
  | false=>rw [hg] at h;exact b6 fn3 rfl h (aC rfl rfl)
 cases o with
 | less =>
  have z1:=z (w "less")
  rw [show decide (dU .less=w "less")=true by decide +kernel] at z1
  have e2:ev (aa ah (k+1)) (.w9 (.cmp .lt (.v 1) (.v 2)) (.k (.int 1)) (.k (.int 0))) [some (.str (dU .less)),some (.int a),some (.int b),none] M=.ok (.int (kc .less a b)) M:=by
   rw [zS,e_lt (a:=a) (b:=b) rfl rfl rfl,R.af]
   by_cases h:a<b
   ·simp [h,kc]
   ·simp [h,kc]
  exact b6 fn3 rfl (ua z1 (ck e2)) (aC rfl rfl)
 | plus =>
  have z1:=z (w "less")
  rw [show decide (dU .plus=w "less")=false by decide +kernel] at z1
  have z2:=z (w "plus")
  rw [show decide (dU .plus=w "plus")=true by decide +kernel] at z2
  exact done ((cV z1).trans (iK z2 ((av (jI rfl rfl)).trans rfl)))
 | minus =>
  have z1:=z (w "less")
  rw [show decide (dU .minus=w "less")=false by decide +kernel] at z1
  have z2:=z (w "plus")
  rw [show decide (dU .minus=w "plus")=false by decide +kernel] at z2
  have z3:=z (w "minus")
  rw [show decide (dU .minus=w "minus")=true by decide +kernel] at z3
  exact done ((cV z1).trans (cD z2 ((iK z3 ((av (lQ rfl rfl)).trans rfl)).trans rfl)))
 | times =>
  have z1:=z (w "less")
  rw [show decide (dU .times=w "less")=false by decide +kernel] at z1
  have z2:=z (w "plus")
  rw [show decide (dU .times=w "plus")=false by decide +kernel] at z2
  have z3:=z (w "minus")
  rw [show decide (dU .times=w "minus")=false by decide +kernel] at z3
  exact done ((cV z1).trans (cD z2 ((cD z3 ((av (Li rfl rfl ha hb)).trans rfl)).trans rfl)))
end
section
variable {M0:MH} {s:Mx} {x y v bk a b:D} {rs fs kn fl p xs ys:List D} {z c:Str} {t k l f j:Nat} {i n m sz:Int} {is:List Int} {o:Rk}
theorem HJ {g h:Int} {Φ:aS} {Z:Sg} {M:MH} (h1:Z[1]? = some (some (.str z))) (h2:Z[2]? = some (some b)) (h3:Z[3]? = some (some a)):ev Φ (.call 3 (.cons (.v 1) (.cons (.v 3) (.cons (.v 2) .nil)))) Z M=Φ.call 3 [.str z,a,b] M:=by
 simp only [bC,az,aP,gR,h1,h2,h3,R.af]
theorem CV {Φ:aS} {Z:Sg} {e:E} {c:Nat} {M1:MH} (h:Z[0]? = some (some (.ref M0.length))) (he:ev Φ e Z (s.h M0)=.exc c M1):ev Φ (.aW .append true (.fld (.v 0) (w "pile")) (.cons e .nil)) Z (s.h M0)=.exc c M1:=by
 rw [gA,sf h,R.af,nP g1,if_pos rfl,az,he];rfl
theorem Gv (hx:s.pile=p++[.int n]++[.int m]) (ha:mid n=true) (hb:mid m=true) (hl:p.length<line):(aa ah (k+3)).call 15 [.ref M0.length,.str (dU o)] (s.h M0) =
  if BC o n m then .exc 1 (({ s with pile:=p }:Mx).h M0) else .ok .aq (({ s with pile:=p++[.int (kc o n m)] }:Mx).h M0):=by
 have e1:=jH (Φ:=aa ah (k+2)) (s:=s) (M0:=M0) (Z:=[some (.ref M0.length),some (.str (dU o)),none,none]) (i:=0) rfl hx
 have e2:=jH (Φ:=aa ah (k+2)) (s:={ s with pile:=p++[.int n] }) (M0:=M0) (Z:=[some (.ref M0.length),some (.str (dU o)),some (.int m),none]) (i:=0) (x:=.int n) (p:=p) rfl rfl
 have e3:=(HJ (g:=0) (h:=0) (Φ:=aa ah (k+2)) (z:=dU o) (a:=.int n) (b:=.int m) (Z:=[some (.ref M0.length),some (.str (dU o)),some (.int m),some (.int n)]) (M:=({ s with pile:=p }:Mx).h M0) rfl rfl rfl).trans (HW ha hb)
 cases hg:BC o n m with
 | true =>
  rw [hg] at e3
  exact sP K0 rfl ((av e1).trans ((av e2).trans (uc (CV (s:={ s with pile:=p }) rfl e3)))) (xY (by rw [len,len]))
 | false =>
  rw [hg] at e3
  exact gf K0 rfl ((av e1).trans ((av e2).trans ((bx (jq (s:={ s with pile:=p }) (s':={ s with pile:=p }) rfl e3 hl)).trans rfl))) (bz rfl)
theorem E9 (o:Rk):an w1 (dU o)=false/\an w2 (dU o)=false/\an w3 (dU o)=false/\an w4 (dU o)=false/\br (dU o)=vo:=by
 have h:an w1 (dU o)=false/\an w2 (dU o)=false/\an w3 (dU o)=false/\an w4 (dU o)=false:=by cases o <;> decide +kernel
 have q:decide (dU o=w "nil")=false/\decide (dU o=w "none")=false/\decide (dU o=w "open")=false/\decide (dU o=w "shut")=false:=by cases o <;> decide +kernel
 refine ⟨h.1,h.2.1,h.2.2.1,h.2.2.2,?_⟩
 rw [MS h.1 h.2.1 h.2.2.1 h.2.2.2,q.1,q.2.1,q.2.2.1,q.2.2.2]
 rfl
theorem Jt (hr:mG M0 s.rows rs) (hp:s.pl=.int i) (ha:cQ rs i=some (.tup [.str (dU o)])) (hx:s.pile=p++[.int n]++[.int m]) (h1:mid n=true) (h2:mid m=true) (hl:p.length<line) (hg:BC o n m=false):(aa ah (k+4)).call 19 [.ref M0.length] (s.h M0)=.ok .aq (({ s with pl:=.int (i+1),pile:=p++[.int (kc o n m)] }:Mx).h M0):=by
 refine bK (s:=s) hr hp ha ?_ (bz rfl)
 rw [(E9 o).2.2.2.2]
 have q:=Gv (k:=k) (M0:=M0) (s:={ s with pl:=.int (i+1) }) (o:=o) hx h1 h2 hl
 rw [hg] at q
 exact (gi (s:={ s with pl:=.int (i+1) }) (s':={ s with pl:=.int (i+1) }) rfl (by decide +kernel) rfl q).trans rfl
end
end bA
end
section
namespace bA
open Fg PySem
structure Fm where
 kn:List D
 fl:List Nat
 bk:D
structure Ms where
 pile:List D
 frs:List Fm
 ai:List Bool
 log:List D
 bg:Int
 pl:D
inductive Rw where
 | num (i:Int)
 | loc (n:Nat)
 | keep
 | drop
 | lay (c:Bool) (i:Nat)
 | look (h t:Bool)
 | nil
 | ai
 | rA
 | call (to:Int) (many:Nat) (is:List Nat)
 | back
 | rk (o:Rk)
noncomputable def layW (c:Bool):Str:=if c then w "cons" else w "pair"
noncomputable def k9 (h t:Bool):Str:=if h then (if t then w "tail" else w "head") else (if t then w "second" else w "first")
noncomputable def Rw.d:Rw->D
 | .num i=>.tup [.str (w "number"), .int i]
 | .loc n=>.tup [.str (w "local"), .int n]
 | .keep=>.tup [.str (w "keep")]
 | .drop=>.tup [.str (w "drop")]
 | .lay c i=>.tup [.str (layW c),.int i]
 | .look h t=>.tup [.str (k9 h t)]
 | .nil=>.tup [.str (w "nil")]
 | .ai=>.tup [.str (w "open")]
 | .rA=>.tup [.str (w "shut")]
 | .call to many is=>.tup [.str (w "call"), .int to, .int many, .tup (is.map fun (n:Nat)=>D.int n)]
 | .back=>.tup [.str (w "back")]
 | .rk o=>.tup [.str (dU o)]
inductive Rz where
 | ok (s:Ms)
 | exc (c:Nat)
 | bad
noncomputable def lim:Nat:=900000
noncomputable def iP (xs:List D):Option (List D×D):=match xs.getLast? with
 | some x=>some (xs.dropLast,x)
 | none=>none
theorem GC {xs p:List D} {x:D} (h:iP xs=some (p,x)):xs=p++[x]:=by
 unfold iP at h
 split at h
 ·rename_i y hy
  cases h
  obtain ⟨ys,rfl⟩:=List.getLast?_eq_some_iff.mp hy
  simp
 ·cases h
noncomputable def Ah:D->Option (D×D×Nat)
 | .tup [_,_,a,b,.int f]=>some (a,b,f.toNat)
 | _=>none
theorem Cr {xs:List Nat} {x:Nat} (h:xs.getLast? = some x):xs=xs.dropLast++[x]:=by
 obtain ⟨ys,rfl⟩:=List.getLast?_eq_some_iff.mp h
 simp
noncomputable def bR {α:Type} (o:Option α) (k:α->Rz):Rz:=match o with | some a=>k a | none=>.bad
@[irreducible] noncomputable def bJ (xs:List D) (k:List D->D->Rz):Rz:=bR (iP xs) fun q=>k q.1 q.2
noncomputable def Sm (P:Ms->Prop) (X:Nat->Prop):Rz->Prop
 | .ok s=>P s
 | .exc c=>X c
 | .bad=>True
section
variable {P:Ms->Prop} {X:Nat->Prop}
theorem sm_get {α:Type} {o:Option α} {k:α->Rz} (h:∀ a,o=some a->Sm P X (k a)):Sm P X (bR o k):=by
 cases o with
 | none=>exact True.intro
 | some a=>exact h a rfl
theorem fc {xs:List D} {k:List D->D->Rz} (h:∀ p x,xs=p++[x]->Sm P X (k p x)):Sm P X (bJ xs k):=by
 unfold bJ
 exact sm_get fun q hq=>h q.1 q.2 (GC hq)
theorem gX {c:Prop} [Decidable c] {a b:Rz} (h1:c->Sm P X a) (h2:¬ c->Sm P X b):Sm P X (if c then a else b):=by
 by_cases h:c
 ·rw [if_pos h];exact h1 h
 ·rw [if_neg h];exact h2 h
end
noncomputable def zx:D->Option Int
 | .int i=>some i
 | _=>none
theorem zw {d:D} {i:Int} (h:zx d=some i):d=.int i:=by
 unfold zx at h
 split at h <;> cases h
 rfl
noncomputable def jQ (most:Int) (r:Rw) (s:Ms) (f:Fm) (fs:List Fm):Rz:=match r with
 | .num i=>.ok { s with pile:=s.pile++[.int i] }
 | .loc n=>bR f.kn[n]? fun x=>.ok { s with pile:=s.pile++[x] }
 | .keep=>bJ s.pile fun p x=>.ok { s with pile:=p,frs:={ f with kn:=f.kn++[x] }::fs }
 | .drop=>bJ f.kn fun p _=>.ok { s with frs:={ f with kn:=p }::fs }
 | .lay c i=>bJ s.pile fun p1 b=>bJ p1 fun p a=>bR f.fl[i]? fun n=>bR s.ai[n]? fun o =>
   if 1000<1+eV a+eV b then .bad else if o=true then .ok { s with pile:=p++[.tup [.str (layW c), .int (1+eV a+eV b), a, b, .int n]], log:=s.log++[.tup [.str (w "lay"), .int n]] } else .bad
 | .look h t=>bJ s.pile fun p v=>bR (Ah v) fun q=>bR s.ai[q.2.2]? fun o =>
   if o=true then .ok { s with pile:=p++[if t then q.2.1 else q.1], log:=s.log++[.tup [.str (w "look"), .int q.2.2]] } else .bad
 | .nil=>.ok { s with pile:=s.pile++[.aq] }
 | .ai=>.ok { s with ai:=s.ai++[true], log:=s.log++[.tup [.str (w "open"), .int s.ai.length]], frs:={ f with fl:=f.fl++[s.ai.length] }::fs }
 | .rA=>bR f.fl.getLast? fun n=>if n<s.ai.length then .ok { s with ai:=s.ai.set n false, log:=s.log++[.tup [.str (w "shut"), .int n]], frs:={ f with fl:=f.fl.dropLast }::fs } else .bad
 | .call to many is=>if most<s.bg+1 then .bad else if 12<fs.length+1 then .bad else
   if many<=s.pile.length/\(is.all fun i=>decide (i<f.fl.length))=true/\is.length<lim then .ok { s with bg:=s.bg+1,pile:=s.pile.take (s.pile.length-many),pl:=.int to,frs:=⟨s.pile.drop (s.pile.length-many),is.map fun i=>f.fl.getD i 0,s.pl⟩::f::fs } else .bad
 | .back=>.ok { s with pl:=f.bk,frs:=fs }
 | .rk o=>bJ s.pile fun p1 b=>bJ p1 fun p a=>bR (zx a) fun n=>bR (zx b) fun m=>if mid n=true/\mid m=true then (if BC o n m=true then .bad else .ok { s with pile:=p++[.int (kc o n m)] }) else .bad
noncomputable def fits (s:Ms) (f:Fm) (fs:List Fm):Prop:=s.pile.length<lim/\s.ai.length<lim/\s.log.length<lim/\f.kn.length<lim/\f.fl.length<lim/\fs.length<lim
noncomputable instance (s:Ms) (f:Fm) (fs:List Fm):Decidable (fits s f fs):=inferInstanceAs (Decidable (_/\_))
noncomputable def Iw (most:Int) (r:Rw) (s:Ms):Rz:=match s.frs with
 | []=>.bad
 | f::fs=>if fits s f fs then jQ most r s f fs else .bad
noncomputable abbrev ix:=Nat×Nat×Nat
noncomputable def nats (ns:List Nat):List D:=ns.map fun (n:Nat)=>D.int n
noncomputable def frR (n:Nat) (q:ix):D:=.ref (n+(q.1+5))
inductive Frs (n:Nat) (T:MH):List ix->List Fm->Prop
 | nil:Frs n T [] []
 | cons {q:ix} {qs:List ix} {f:Fm} {fs:List Fm}:eU n T q.1 q.2.1 q.2.2 f.kn (nats f.fl) f.bk->Frs n T qs fs->Frs n T (q::qs) (f::fs)
noncomputable def ixs (qs:List ix):List Nat:=qs.flatMap fun q=>[q.1,q.2.1,q.2.2]
structure Rep (n:Nat) (s:Ms) (x:Mx) (qs:List ix):Prop where
 pile:x.pile=s.pile
 ai:x.ai=s.ai.map D.bl
 log:x.log=s.log
 bg:x.bg=s.bg
 pl:x.pl=s.pl
 frs:x.frs=(qs.map (frR n)).reverse
 at_:Frs n x.T qs s.frs
 nd:(ixs qs).Nodup
 lt:∀ i∈ixs qs,i<x.T.length
 pv:∀ v∈s.pile,Vl v
 fv:∀ f∈s.frs,∀ v∈f.kn,Vl v
theorem Frs.set {n:Nat} {T:MH} {j:Nat} {o:MO} {qs:List ix} {fs:List Fm} (h:Frs n T qs fs) (hj:j∉ixs qs):Frs n (T.set j o) qs fs:=by
 induction h with
 | nil=>exact .nil
 | @cons q qs f fs a _ ih =>
  have h0:j≠q.1/\j≠q.2.1/\j≠q.2.2/\j∉ixs qs:=by
   simp only [ixs,List.flatMap_cons,List.mem_append,List.mem_cons,List.not_mem_nil,or_false,not_or] at hj
   exact ⟨hj.1.1,hj.1.2.1,hj.1.2.2,hj.2⟩
  exact .cons ⟨by rw [List.getElem?_set_ne h0.1];exact a.at_,by rw [List.getElem?_set_ne h0.2.1];exact a.kn,by rw [List.getElem?_set_ne h0.2.2.1];exact a.fl⟩ (ih h0.2.2.2)
theorem Frs.app {n:Nat} {T X:MH} {qs:List ix} {fs:List Fm} (h:Frs n T qs fs):Frs n (T++X) qs fs:=by
 have up:∀ {i:Nat} {o:MO},T[i]? = some o->(T++X)[i]? = some o:=fun {i o} e=>by rw [List.getElem?_append_left (List.getElem?_eq_some_iff.mp e).1];exact e
 induction h with
 | nil=>exact .nil
 | cons a _ ih=>exact .cons ⟨up a.at_,up a.kn,up a.fl⟩ ih
theorem Frs.len {n:Nat} {T:MH} {qs:List ix} {fs:List Fm} (h:Frs n T qs fs):qs.length=fs.length:=by
 induction h with
 | nil=>rfl
 | cons _ _ ih=>simp [ih]
theorem lC {q:ix} {qs:List ix}:ixs (q::qs)=q.1::q.2.1::q.2.2::ixs qs:=rfl
theorem Frs.kn {n:Nat} {T:MH} {q:ix} {qs:List ix} {f:Fm} {fs:List Fm} {kn:List D} (h:Frs n T (q::qs) (f::fs)) (nd:(ixs (q::qs)).Nodup):Frs n (T.set q.2.1 (.lst kn)) (q::qs) ({ f with kn:=kn }::fs):=by
 cases h with
 | cons a r =>
  rw [lC] at nd
  simp only [List.nodup_cons,List.mem_cons,not_or] at nd
  obtain ⟨⟨n1,n2,n3⟩,⟨n4,n5⟩,n6,n7⟩:=nd
  exact .cons ⟨by rw [List.getElem?_set_ne (Ne.symm n1)];exact a.at_,j9 a.kn,by rw [List.getElem?_set_ne n4];exact a.fl⟩ (r.set n5)
theorem Frs.fl {n:Nat} {T:MH} {q:ix} {qs:List ix} {f:Fm} {fs:List Fm} {fl:List Nat} (h:Frs n T (q::qs) (f::fs)) (nd:(ixs (q::qs)).Nodup):Frs n (T.set q.2.2 (.lst (nats fl))) (q::qs) ({ f with fl:=fl }::fs):=by
 cases h with
 | cons a r =>
  rw [lC] at nd
  simp only [List.nodup_cons,List.mem_cons,not_or] at nd
  obtain ⟨⟨n1,n2,n3⟩,⟨n4,n5⟩,n6,n7⟩:=nd
  exact .cons ⟨by rw [List.getElem?_set_ne (Ne.symm n2)];exact a.at_,by rw [List.getElem?_set_ne (Ne.symm n4)];exact a.kn,j9 a.fl⟩ (r.set n6)
theorem gk {ns:List Nat} {i n:Nat} (h:ns[i]? = some n):cQ (nats ns) (i:Int)=some (.int n):=dG (by rw [nats,List.getElem?_map,h];rfl)
theorem yE {fl is:List Nat} (h:(is.all fun i=>decide (i<fl.length))=true):(is.map fun (n:Nat)=>(n:Int)).map (cQ (nats fl))=(nats (is.map fun i=>fl.getD i 0)).map some:=by
 induction is with
 | nil=>rfl
 | cons j is ih =>
  simp only [List.all_cons,Bool.and_eq_true,decide_eq_true_eq] at h
  have e:fl[j]? = some (fl.getD j 0):=by rw [List.getD_eq_getElem?_getD,List.getElem?_eq_getElem h.1];rfl
  rw [List.map_cons,List.map_cons,ih h.2,gk e];rfl
theorem nN {bs:List Bool} {i:Nat} {b:Bool} (h:bs[i]? = some b):(bs.map D.bl)[i]? = some (.bl b):=by rw [List.getElem?_map,h];rfl
theorem HS {v a b:D} {n:Nat} (hv:Vl v) (h:Ah v=some (a,b,n)):∃ c sz,v=.tup [.str c,.int sz,a,b,.int n]/\Vl a/\Vl b:=by
 cases hv with
 | int i=>cases h
 | aq=>cases h
 | cell h1 h2 va vb =>
  simp only [Ah,Int.toNat_natCast,Option.some.injEq,Prod.mk.injEq] at h
  obtain ⟨rfl,rfl,rfl⟩:=h
  exact ⟨_,_,rfl,va,vb⟩
theorem Cq (c:Bool):an w3 (layW c)=true/\an w1 (layW c)=false/\an w2 (layW c)=false/\(layW c).length<=100000:=by cases c <;> decide +kernel
theorem yT (h t:Bool):an w4 (k9 h t)=true/\an w1 (k9 h t)=false/\an w2 (k9 h t)=false/\an w3 (k9 h t)=false/\([w "first", w "head"].any fun y=>decide (y=k9 h t))=!t:=by cases h <;> cases t <;> decide +kernel
theorem fu {n:Nat} (h:n<lim):n<line:=Nat.lt_of_lt_of_le h (by decide)
theorem wg {qs:List ix} {m:Nat} (h:∀ i∈ixs qs,i<m) (nd:(ixs qs).Nodup):(ixs ((m+2,m,m+1)::qs)).Nodup/\∀ i∈ixs ((m+2,m,m+1)::qs),i<m+3:=by
 rw [lC]
 refine ⟨?_,fun i hi=>?_⟩
 ·simp only [List.nodup_cons,List.mem_cons,not_or]
  refine ⟨⟨by omega,by omega,fun z=>?_⟩,⟨by omega,fun z=>?_⟩,fun z=>?_,nd⟩ <;> (have:=h _ z;omega)
 ·simp only [List.mem_cons] at hi
  rcases hi with rfl | rfl | rfl | hi
  ·omega
  ·omega
  ·omega
  ·have:=h _ hi;omega
theorem kL {xs:List D} {n:Nat}:xs=xs.take (xs.length-n)++xs.drop (xs.length-n):=(List.take_append_drop _ _).symm
section
variable {M0:MH} {s:Mx} {a bk:D} {rs fs kn fl p xs ys:List D} {t k l j n:Nat} {i:Int} {is:List Int}
theorem AV {b:D} (hr:mG M0 s.rows rs) (hp:s.pl=.int i) (ha:cQ rs i=some (.tup [.str (w "call"), a, .int n, b])) (hf:s.frs=fs++[.ref (M0.length+(t+5))]) (A:eU M0.length s.T t j l kn fl bk) (h1:¬ s.most<s.bg+1) (h2:¬ 12<((s.frs.length:Int)-1)+1) (hx:s.pile=p++xs) (hn:xs.length=n) (hm:n<=1000000) (hy:is.map (cQ fl)=ys.map some) (hi:is.length<=line) (hfl:s.frs.length<line) (hb:b=.tup (is.map D.int)) :
  (aa ah (k+5)).call 19 [.ref M0.length] (s.h M0) =
   .ok .aq (({ s with bg:=s.bg+1, pile:=p, pl:=a, frs:=s.frs++[.ref (M0.length+(s.T.length+2+5))], T:=s.T++[.lst xs, .lst ys, .ins 0 [(w "known", .ref (M0.length+(s.T.length+5))), (w "fields", .ref (M0.length+(s.T.length+1+5))), (w "behind_call", .int (i+1))]] }:Mx).h M0):=by
 subst hn hb
 have ne:∀ M':MH,M'[M0.length+2]? = some (.lst (s.frs++[.ref (M0.length+(s.T.length+2+5))]))->∀ s1:Mx,s1.frs=s.frs->dZ false (s1.h M0) .aq M'=.ok .aq M':=fun M' h s1 e=>nK (nE (i:=M0.length+2) g2 h fun q=>by
  rw [e] at q
  have q:=congrArg (fun o=>match o with | MO.lst xs=>xs.length | _=>0) q
  simp at q)
 refine bK (s:=s) hr hp ha ?_ (ne _ g2 _ rfl)
 rw [br2 (by decide +kernel) (by decide +kernel)]
 have en:=C8 (M0:=M0) (k:=k) (s:={ s with pl:=.int (i+1) }) (a:=a) hf A h1 h2 hx hm hy hi rfl hfl
 exact (gi (s:={ s with pl:=.int (i+1) }) (s':={ s with pl:=.int (i+1) }) rfl (by decide +kernel) rfl (Al (r:=[]) (s:={ s with pl:=.int (i+1) }) en (ne _ g2 _ rfl))).trans rfl
end
theorem sim {M0:MH} {s:Ms} {x:Mx} {qs:List ix} {rs:List Rw} {r:Rw} {i k:Nat} (R:Rep M0.length s x qs) (hr:mG M0 x.rows (rs.map Rw.d)) (hi:s.pl=.int i) (hg:rs[i]? = some r) :
  Sm (fun s'=>∃ x' JT,(aa ah (k+5)).call 19 [.ref M0.length] (x.h M0)=.ok .aq (x'.h M0)/\Rep M0.length s' x' JT/\x'.rows=x.rows/\x'.most=x.most)
   (fun c=>∃ x':Mx,(aa ah (k+5)).call 19 [.ref M0.length] (x.h M0)=.exc c (x'.h M0)) (Iw x.most r { s with pl:=.int ((i:Int)+1) }):=by
 obtain ⟨pile,frs,ai,log,bg,pl⟩:=s
 cases (show pl=.int i from hi)
 have ha:cQ (rs.map Rw.d) (i:Int)=some r.d:=dG (by rw [List.getElem?_map,hg];rfl)
 have hp:x.pl=.int (i:Int):=R.pl
 cases frs with
 | nil=>exact True.intro
 | cons f fs =>
  obtain ⟨dY,gj,jb,vP,rpl,jc,rat,qS,wX,pQ,pS⟩:=R
  refine gX (fun hl=>?_) fun _=>True.intro
  obtain ⟨l1,l2,l3,l4,l5,l6⟩:=hl
  cases qs with
  | nil=>cases rat
  | cons q qs =>
   have jP:=rat
   cases rat with
   | cons A rr =>
    have hfr:x.frs=(qs.map (frR M0.length)).reverse++[.ref (M0.length+(q.1+5))]:=by rw [jc,List.map_cons,List.reverse_cons];rfl
    have lp:x.pile.length<line:=by rw [dY];exact fu l1
    have ll:x.log.length<line:=by rw [jb];exact fu l3
    have lo:x.ai.length<line:=by rw [gj,List.length_map];exact fu l2
    have big:∀ {n:Nat} {b:Bool},ai[n]? = some b->n<18446744073709551616:=fun {n b} h =>
     Nat.lt_of_lt_of_le (Nat.lt_trans (List.getElem?_eq_some_iff.mp h).1 l2) (by decide)
    cases r with
    | num n=>exact ⟨_,q::qs,vH hr hp ha hfr lp,⟨congrArg (·++_) dY,gj,jb,vP,rfl,jc,jP,qS,wX,fun v hv=>(List.mem_append.mp hv).elim (pQ v) fun z=>by rw [List.mem_singleton.mp z];exact .int n,pS⟩,rfl,rfl⟩
    | loc n =>
     refine sm_get fun y hn=>?_
     exact ⟨_,q::qs,xG hr hp ha hfr A (dG hn) lp,⟨congrArg (·++_) dY,gj,jb,vP,rfl,jc,jP,qS,wX,fun v hv=>(List.mem_append.mp hv).elim (pQ v) fun z=>by rw [List.mem_singleton.mp z];exact pS f List.mem_cons_self y (List.mem_of_getElem? hn),pS⟩,rfl,rfl⟩
    | keep =>
     refine fc fun p y e=>?_
     cases (show pile=p++[y] from e)
     refine ⟨_,q::qs,AS hr hp ha hfr A dY (fu l4),⟨rfl,gj,jb,vP,rfl,jc,jP.kn qS,qS,by simpa using wX,fun v hv=>pQ v (List.mem_append_left _ hv),fun g hg v hv=>?_⟩,rfl,rfl⟩
     rcases List.mem_cons.mp hg with rfl | hg
     ·exact (List.mem_append.mp hv).elim (pS f List.mem_cons_self v) fun z=>pQ v (List.mem_append_right _ z)
     ·exact pS g (List.mem_cons_of_mem _ hg) v hv
    | drop =>
     refine fc fun p y e=>?_
     rw [e] at A
     refine ⟨_,q::qs,AU hr hp ha hfr A,⟨dY,gj,jb,vP,rfl,jc,jP.kn qS,qS,by simpa using wX,pQ,fun g hg v hv=>?_⟩,rfl,rfl⟩
     rcases List.mem_cons.mp hg with rfl | hg
     ·exact pS f List.mem_cons_self v (by rw [e];exact List.mem_append_left _ hv)
     ·exact pS g (List.mem_cons_of_mem _ hg) v hv
    | back=>exact ⟨_,qs,AW hr hp ha hfr A,⟨dY,gj,jb,vP,rfl,rfl,rr,(List.nodup_cons.mp (List.nodup_cons.mp (List.nodup_cons.mp qS).2).2).2,fun i hi=>wX i (List.mem_cons_of_mem _ (List.mem_cons_of_mem _ (List.mem_cons_of_mem _ hi))),pQ,fun g hg=>pS g (List.mem_cons_of_mem _ hg)⟩,rfl,rfl⟩
    | nil=>exact ⟨_,q::qs,EL hr hp ha lp,⟨congrArg (·++_) dY,gj,jb,vP,rfl,jc,jP,qS,wX,fun v hv=>(List.mem_append.mp hv).elim (pQ v) fun z=>by rw [List.mem_singleton.mp z];exact .aq,pS⟩,rfl,rfl⟩
    | ai =>
     have hlo:x.ai.length=ai.length:=by rw [gj,List.length_map]
     have e:nats (f.fl++[ai.length])=nats f.fl++[.int (x.ai.length:Nat)]:=by rw [hlo];simp [nats]
     have st:=AQ (k:=k+3) hr hp ha hfr A lo ll (by rw [nats,List.length_map];exact fu l5)
     rw [<- e] at st
     exact ⟨_,q::qs,st,⟨dY,by rw [gj];simp,by rw [hlo,jb],vP,rfl,jc,jP.fl qS,qS,by simpa using wX,pQ,fun g hg v hv=>by
      rcases List.mem_cons.mp hg with rfl | hg
      ·exact pS f List.mem_cons_self v hv
      ·exact pS g (List.mem_cons_of_mem _ hg) v hv⟩,rfl,rfl⟩
    | rA =>
     refine sm_get fun n hn=>gX (fun hlt=>?_) fun _=>True.intro
     have e:=Cr hn
     have A':eU M0.length x.T q.1 q.2.1 q.2.2 f.kn (nats f.fl.dropLast++[.int n]) f.bk:=by
      have e2:nats f.fl=nats f.fl.dropLast++[.int n]:=by rw [e];simp [nats]
      rw [e2] at A;exact A
     have st:=AO (k:=k+3) hr hp ha hfr A' (by rw [gj,List.length_map];exact hlt) ll
     exact ⟨_,q::qs,st,⟨dY,by rw [gj,List.map_set],by rw [jb],vP,rfl,jc,jP.fl qS,qS,by simpa using wX,pQ,fun g hg v hv=>by
      rcases List.mem_cons.mp hg with rfl | hg
      ·exact pS f List.mem_cons_self v hv
      ·exact pS g (List.mem_cons_of_mem _ hg) v hv⟩,rfl,rfl⟩
    | lay c n =>
     refine fc fun p1 b e1=>fc fun p a e2=>sm_get fun m hm=>sm_get fun o ho=>?_
     cases e2
     cases (show pile=p++[a]++[b] from e1)
     obtain ⟨z1,z2,z3,z4⟩:=Cq c
     have va:Vl a:=pQ a (by simp)
     have vb:Vl b:=pQ b (by simp)
     have ho':=nN ho
     rw [<- gj] at ho'
     have AD:p.length<line:=by have:=fu l1;simp only [List.length_append] at this;omega
     refine gX (fun _=>True.intro) fun hs=>gX (fun h1=>?_) fun _=>True.intro
     ·subst h1
      have sa:=va.sz
      have sb:=vb.sz
      refine ⟨_,q::qs,EM (k:=k+1) z1 z2 z3 z4 hr hp ha hfr A (gk hm) va vb dY hs ho' (big ho) ll AD,⟨rfl,gj,by rw [jb],vP,rfl,jc,jP,qS,wX,fun v hv=>(List.mem_append.mp hv).elim (fun z=>pQ v (by simp [z])) fun z=>?_,pS⟩,rfl,rfl⟩
      rw [List.mem_singleton.mp z]
      exact .cell (by omega) (by omega) va vb
    | look h t =>
     refine fc fun p v e1=>sm_get fun ab hab=>sm_get fun o ho=>?_
     cases (show pile=p++[v] from e1)
     obtain ⟨a,b,m⟩:=ab
     obtain ⟨c,sz,rfl,va,vb⟩:=HS (pQ v (by simp)) hab
     obtain ⟨z1,z2,z3,z4,z5⟩:=yT h t
     have ho':=nN ho
     rw [<- gj] at ho'
     have AD:p.length<line:=by have:=fu l1;simp only [List.length_append] at this;omega
     refine gX (fun h1=>?_) fun _=>True.intro
     ·subst h1
      have st:=AR (M0:=M0) (k:=k+1) z1 z2 z3 z4 z5 hr hp ha va vb dY ho' (big ho) ll AD
      have e:(if (!t)=true then a else b)=if t=true then b else a:=by cases t <;> rfl
      rw [e] at st
      refine ⟨_,q::qs,st,⟨rfl,gj,by rw [jb],vP,rfl,jc,jP,qS,wX,fun v hv=>(List.mem_append.mp hv).elim (fun z=>pQ v (List.mem_append_left _ z)) fun z=>?_,pS⟩,rfl,rfl⟩
      rw [List.mem_singleton.mp z]
      cases t
      ·exact va
      ·exact vb
    | rk o =>
     refine fc fun p1 b e1=>fc fun p a e2=>sm_get fun n hn=>sm_get fun m hm=>gX (fun hmid=>?_) fun _=>True.intro
     cases zw hn
     cases zw hm
     cases e2
     cases (show pile=p++[.int n]++[.int m] from e1)
     have AD:p.length<line:=by have:=fu l1;simp only [List.length_append] at this;omega
     refine gX (fun _=>True.intro) fun hg=>?_
     exact ⟨_,q::qs,Jt (k:=k+1) hr hp ha dY hmid.1 hmid.2 AD (by simpa using hg),⟨rfl,gj,jb,vP,rfl,jc,jP,qS,wX,fun v hv=>(List.mem_append.mp hv).elim (fun z=>pQ v (by simp [z])) fun z=>by rw [List.mem_singleton.mp z];exact .int _,pS⟩,rfl,rfl⟩
    | call to many is =>
     have hlf:(x.frs.length:Int)=(fs.length:Int)+1:=by
      have e:=jP.len
      rw [jc,List.length_reverse,List.length_map,e];simp
     refine gX (fun _=>True.intro) fun h1=>gX (fun _=>True.intro) fun h2=>gX (fun h3=>?_) fun _=>True.intro
     ·obtain ⟨h3,h4,h5⟩:=h3
      have hm0:many<=pile.length:=h3
      have h60:pile.length<lim:=l1
      have h61:fs.length<lim:=l6
      have h62:¬ 12<fs.length+1:=h2
      have h1':¬ x.most<x.bg+1:=by rw [vP];exact h1
      have h2'':¬ 12<((x.frs.length:Int)-1)+1:=by rw [hlf];omega
      have hm:(pile.drop (pile.length-many)).length=many:=by rw [List.length_drop];omega
      have hmm:many<=1000000:=Nat.le_trans hm0 (Nat.le_trans (Nat.le_of_lt h60) (by decide))
      have hlen:x.frs.length<line:=by
       have e:x.frs.length=fs.length+1:=by omega
       rw [e];exact Nat.lt_of_le_of_lt h61 (by decide)
      have hy:=yE (fl:=f.fl) h4
      have e1:x.pile=pile.take (pile.length-many)++pile.drop (pile.length-many):=dY.trans kL
      have hb:D.tup (is.map fun (n:Nat)=>D.int n)=.tup ((is.map fun (n:Nat)=>(n:Int)).map D.int):=by rw [List.map_map];rfl
      have st:=AV (M0:=M0) (k:=k) (n:=many) (a:=.int to) (b:=D.tup (is.map fun (n:Nat)=>D.int n)) hr hp ha hfr A h1' h2'' e1 hm hmm hy (by rw [List.length_map];exact Nat.le_of_lt (fu h5)) hlen hb
      obtain ⟨n1,n2⟩:=wg wX qS
      refine ⟨_,(x.T.length+2,x.T.length,x.T.length+1)::q::qs,st,⟨rfl,gj,jb,congrArg (·+1) vP,rfl,?_,.cons ⟨?_,?_,?_⟩ jP.app,n1,fun i hi=>?_,fun v hv=>pQ v (List.mem_of_mem_take hv),fun g hg v hv=>?_⟩,rfl,rfl⟩
      ·show x.frs++_=_
       rw [List.map_cons,List.reverse_cons,<- jc];rfl
      ·show (x.T++_)[x.T.length+2]? = _
       rw [List.getElem?_append_right (by omega),Nat.add_sub_cancel_left];rfl
      ·show (x.T++_)[x.T.length]? = _
       rw [List.getElem?_append_right (Nat.le_refl _),Nat.sub_self];rfl
      ·show (x.T++_)[x.T.length+1]? = _
       rw [List.getElem?_append_right (by omega),Nat.add_sub_cancel_left];rfl
      ·show i<(x.T++_).length
       rw [List.length_append];exact n2 i hi
      ·rcases List.mem_cons.mp hg with rfl | hg
       ·exact pQ v (List.mem_of_mem_drop hv)
       ·exact pS g hg v hv
end bA
end
section
namespace bA
open Fg PySem
noncomputable def tw (r:Rz) (k:Ms->Rz):Rz:=match r with
 | .ok s=>k s
 | .exc c=>.exc c
 | .bad=>.bad
theorem AZ {P P':Ms->Prop} {X X':Nat->Prop} {r:Rz} {k:Ms->Rz} (h:Sm P X r) (h1:∀ s,P s->Sm P' X' (k s)) (h2:∀ c,X c->X' c):Sm P' X' (tw r k):=by
 cases r with
 | ok s=>exact h1 s h
 | exc c=>exact h2 c h
 | bad=>exact True.intro
noncomputable def Fx (d:D):Option Nat:=match d with
 | .int i=>if 0<=i then some i.toNat else none
 | _=>none
theorem JX {d:D} {j:Nat} (h:Fx d=some j):d=.int j:=by
 cases d with
 | int i =>
  simp only [Fx] at h
  split at h
  ·rename_i h0;cases h;rw [Int.toNat_of_nonneg h0]
  ·cases h
 | _=>cases h
noncomputable def go (rs:List Rw) (most:Int):Nat->Ms->Rz
 | 0,_=>.bad
 | n+1,s=>bif s.frs.isEmpty then .ok s else bR (Fx s.pl) fun i=>bR rs[i]? fun r=>tw (Iw most r { s with pl:=.int ((i:Int)+1) }) (go rs most n)
noncomputable def eW:E:=.cmp .ne (.fld (.v 3) (w "frames")) (.lst true .nil)
noncomputable def bW:Ss:=.cons (.ex (.dm 1 19 (w "step") (.v 3) .nil)) .nil
theorem cond {Φ:aS} {Z:Sg} {M0:MH} {x:Mx} (h:Z[3]? = some (some (.ref M0.length))) (hr:∀ d∈x.frs,∃ n,d=.ref n):ev Φ eW Z (x.h M0)=.ok (.bl (!x.frs.isEmpty)) (x.h M0):=by
 unfold eW
 rw [gB,eB h,R.af,iz,aP,R.af]
 show bG .ne (x.h M0) (.ref (M0.length+2)) (.lst [])=_
 have e1:top (x.h M0) (.ref (M0.length+2))=.lst x.frs:=by simp only [top,g2]
 have e2:top (x.h M0) (.lst [])=.lst []:=rfl
 have e3:kZ (x.h M0) (.ref (M0.length+2)) (.lst [])=some x.frs.isEmpty:=by simp only [kZ,vw,g2];rfl
 show wY (x.h M0) (.ref (M0.length+2)) (.lst [])=_
 unfold wY
 rw [e1,e2,e3]
 cases hx:x.frs with
 | nil=>rfl
 | cons d ds =>
  obtain ⟨n,rfl⟩:=hr d (by rw [hx];exact List.mem_cons_self)
  rfl
theorem zE {n:Nat} {s:Ms} {x:Mx} {qs:List ix} (R:Rep n s x qs):∀ d∈x.frs,∃ m,d=.ref m:=by
 intro d hd
 rw [R.frs,List.mem_reverse,List.mem_map] at hd
 obtain ⟨q,_,rfl⟩:=hd
 exact ⟨_,rfl⟩
theorem wB {n:Nat} {s:Ms} {x:Mx} {qs:List ix} (R:Rep n s x qs):x.frs.isEmpty=s.frs.isEmpty:=by
 have e:=R.at_.len
 rw [R.frs]
 cases qs <;> cases hs:s.frs <;> rw [hs] at e <;> first | rfl | (simp at e;done) | simp
theorem loop {M0:MH} {rs:List Rw} {Z:Sg} {k:Nat} (hZ:Z[3]? = some (some (.ref M0.length))):∀ (n N:Nat) (s:Ms) (x:Mx) (qs:List ix),n<=N->Rep M0.length s x qs->mG M0 x.rows (rs.map Rw.d) ->
  Sm (fun s'=>∃ x' JT,bw (ev (aa ah (k+5)) eW) (exs (aa ah (k+5)) bW) N Z (x.h M0)=.ok (.nx Z) (x'.h M0)/\Rep M0.length s' x' JT/\x'.most=x.most)
   (fun c=>∃ x':Mx,bw (ev (aa ah (k+5)) eW) (exs (aa ah (k+5)) bW) N Z (x.h M0)=.ok (.xc c Z) (x'.h M0)) (go rs x.most n s)
 | 0,N,s,x,qs,_,_,_=>True.intro
 | n+1,0,s,x,qs,h,_,_=>absurd h (by omega)
 | n+1, N+1, s, x, qs, h, Rp, hr=>by
  have hc:=cond (Φ:=aa ah (k+5)) hZ (zE Rp)
  rw [wB Rp] at hc
  have hg:go rs x.most (n+1) s=bif s.frs.isEmpty then .ok s else bR (Fx s.pl) fun i=>bR rs[i]? fun r=>tw (Iw x.most r { s with pl:=.int ((i:Int)+1) }) (go rs x.most n):=rfl
  rw [hg]
  cases hf:s.frs.isEmpty with
  | true =>
   rw [hf] at hc
   refine ⟨x,qs,?_,Rp,rfl⟩
   rw [bw,hc];rfl
  | false =>
   rw [hf] at hc
   have ID:bw (ev (aa ah (k+5)) eW) (exs (aa ah (k+5)) bW) (N+1) Z (x.h M0)=(exs (aa ah (k+5)) bW Z (x.h M0)).bind fun o M1=>match o with
    | .nx Z2=>bw (ev (aa ah (k+5)) eW) (exs (aa ah (k+5)) bW) N Z2 M1
    | .ct Z2=>bw (ev (aa ah (k+5)) eW) (exs (aa ah (k+5)) bW) N Z2 M1
    | .bk Z2=>.ok (.nx Z2) M1
    | .rt r=>.ok (.rt r) M1
    | .xc c Z2=>.ok (.xc c Z2) M1:=by rw [bw,hc];rfl
   have hb:∀ r:Fg.R D, (aa ah (k+5)).call 19 [.ref M0.length] (x.h M0)=r->ev (aa ah (k+5)) (.dm 1 19 (w "step") (.v 3) .nil) Z (x.h M0)=r:=fun r e=>(u_ (nm:=w "step") hZ (by decide +kernel)).trans e
   refine sm_get fun i hp=>sm_get fun r hg=>AZ (sim (k:=k) Rp hr (JX hp) hg) (fun s' ⟨x',JT,e,R',r1,r2⟩=>?_) fun c ⟨x',e⟩=>⟨x',?_⟩
   ·have ih:=loop (k:=k) hZ n N s' x' JT (by omega) R' (by rw [r1];exact hr)
    rw [r2] at ih
    have e2:bw (ev (aa ah (k+5)) eW) (exs (aa ah (k+5)) bW) (N+1) Z (x.h M0)=bw (ev (aa ah (k+5)) eW) (exs (aa ah (k+5)) bW) N Z (x'.h M0):=by
     rw [ID,bW,bx (hb _ e)];rfl
    rw [e2]
    exact ih
   ·rw [ID,bW,uc (hb _ e)];rfl
end bA
end
section
namespace bA
open Fg PySem
section
variable {M:MH} {k:Nat}
theorem xu {i:Int}:(aa ah (k+1)).call 5 [.int i] M=.ok (.int i) M:=b6 fn5 rfl (ua (x:=.int i) (M1:=M) rfl rfl) (aC rfl rfl)
end
end bA
end
section
namespace bA
open Fg PySem
inductive Wa (ai:List Bool):D->Nat->Bool->Prop
 | int (i:Int):Wa ai (.int i) 1 true
 | aq:Wa ai .aq 1 true
 | cell {c:Str} {sz:Int} {a b:D} {f n1 n2:Nat} {o b1 b2:Bool}:ai[f]? = some o->Wa ai a n1 b1->Wa ai b n2 b2->Wa ai (.tup [.str c,.int sz,a,b,.int f]) (n1+n2+1) (o&&(b1&&b2))
inductive Ep (ai:List Bool):List D->Nat->Bool->Prop
 | nil:Ep ai [] 0 true
 | snoc {v:D} {ds:List D} {n m:Nat} {b q:Bool}:Ep ai ds n b->Wa ai v m q->Ep ai (ds++[v]) (n+m) (q&&b)
noncomputable def aE:E:=.cmp .ne (.v 2) (.lst true .nil)
noncomputable def aB:Ss:=.cons (.set 3 (.aW .pop true (.v 2) .nil)) (.cons (.ifs (.uI (.v 3) .tuple) (.cons (.ex (.dm 1 12 (w "want_open") (.v 0) (.cons (.idx (.v 3) (.k (.int 4))) .nil))) (.cons (.ex (.aW .extend true (.v 2) (.cons (.sl true (.v 3) (.some (.k (.int 2))) (.some (.k (.int 4)))) .nil))) .nil)) .nil) .nil)
section
variable {M0:MH} {x:Mx} {ai:List Bool} {k:Nat}
noncomputable abbrev wT (x:Mx) (ds:List D):Mx:={ x with T:=x.T++[.lst ds] }
theorem gD {ds:List D}:((wT x ds).h M0)[M0.length+(x.T.length+5)]? = some (.lst ds):=gT.trans (by show (x.T++[MO.lst ds])[x.T.length]? = _;simp)
theorem sD {ds es:List D}:((wT x ds).h M0).set (M0.length+(x.T.length+5)) (.lst es)=(wT x es).h M0:=by
 rw [sT]
 show Mx.h { x with T:=(x.T++[MO.lst ds]).set x.T.length (.lst es) } M0=_
 rw [List.set_append_right _ _ (Nat.le_refl _),Nat.sub_self];rfl
theorem LG {Φ:aS} {a v c:Option D} {ds:List D} (hv:∃ n b,Ep ai ds n b):ev Φ aE [a,v,some (.ref (M0.length+(x.T.length+5))),c] ((wT x ds).h M0)=.ok (.bl (!ds.isEmpty)) ((wT x ds).h M0):=by
 show wY ((wT x ds).h M0) (.ref (M0.length+(x.T.length+5))) (.lst [])=_
 have e1:top ((wT x ds).h M0) (.ref (M0.length+(x.T.length+5)))=.lst ds:=by simp only [top,gD]
 have e2:top ((wT x ds).h M0) (.lst [])=.lst []:=rfl
 have e3:kZ ((wT x ds).h M0) (.ref (M0.length+(x.T.length+5))) (.lst [])=some ds.isEmpty:=by simp only [kZ,vw,gD];rfl
 unfold wY
 rw [e1,e2,e3]
 cases hd:ds with
 | nil=>rfl
 | cons d es =>
  by_cases hc:bE (.lst (d::es)) (.lst [])=true
  ·rw [if_pos hc,dD,CS];rfl
  ·rw [if_neg hc]
theorem AJ (ho:x.ai=ai.map D.bl) (hl:ai.length<lim):∀ (n:Nat) (ds:List D) (q:Bool) (N:Nat) (v c:Option D),Ep ai ds n q->n<N->n<lim->ds.length+n<lim ->
  ∃ c' es,bw (ev (aa ah (k+1)) aE) (exs (aa ah (k+1)) aB) N [some (.ref M0.length),v,some (.ref (M0.length+(x.T.length+5))),c] ((wT x ds).h M0) =
   .ok (if q then .nx [some (.ref M0.length),v,some (.ref (M0.length+(x.T.length+5))),c'] else .xc 5 [some (.ref M0.length),v,some (.ref (M0.length+(x.T.length+5))),c']) ((wT x es).h M0):=by
 intro n
 induction n using Nat.strongRecOn with
 | ind n ih =>
  intro ds q N v c h hN hn hd
  obtain ⟨N,rfl⟩:∃ m,N=m+1:=⟨N-1,by omega⟩
  have hc:=LG (Φ:=aa ah (k+1)) (M0:=M0) (x:=x) (a:=some (.ref M0.length)) (v:=v) (c:=c) ⟨n,q,h⟩
  cases h with
  | nil =>
   refine ⟨c,[],?_⟩
   rw [bw,hc];rfl
  | @snoc u ds n m b q h hu =>
   have hne:(ds++[u]).isEmpty=false:=by cases ds <;> rfl
   rw [hne] at hc
   have e1:=oK (Φ:=aa ah (k+1)) (e:=.v 2) (Z:=[some (.ref M0.length),v,some (.ref (M0.length+(x.T.length+5))),c]) rfl (gD (M0:=M0) (x:=x) (ds:=ds++[u]))
   rw [sD] at e1
   have ID:bw (ev (aa ah (k+1)) aE) (exs (aa ah (k+1)) aB) (N+1) [some (.ref M0.length),v,some (.ref (M0.length+(x.T.length+5))),c] ((wT x (ds++[u])).h M0)=(exs (aa ah (k+1)) aB [some (.ref M0.length),v,some (.ref (M0.length+(x.T.length+5))),c] ((wT x (ds++[u])).h M0)).bind fun o M1=>match o with
    | .nx Z2=>bw (ev (aa ah (k+1)) aE) (exs (aa ah (k+1)) aB) N Z2 M1
    | .ct Z2=>bw (ev (aa ah (k+1)) aE) (exs (aa ah (k+1)) aB) N Z2 M1
    | .bk Z2=>.ok (.nx Z2) M1
    | .rt r=>.ok (.rt r) M1
    | .xc c Z2=>.ok (.xc c Z2) M1:=by rw [bw,hc];rfl
   have flat:∀ (m0:Nat),m=m0+1->ev (aa ah (k+1)) (.uI (.v 3) .tuple) [some (.ref M0.length),v,some (.ref (M0.length+(x.T.length+5))),some u] ((wT x ds).h M0)=.ok (.bl false) ((wT x ds).h M0)->q=true ->
     ∃ c' es,bw (ev (aa ah (k+1)) aE) (exs (aa ah (k+1)) aB) (N+1) [some (.ref M0.length),v,some (.ref (M0.length+(x.T.length+5))),c] ((wT x (ds++[u])).h M0) =
      .ok (if (q&&b) then .nx [some (.ref M0.length),v,some (.ref (M0.length+(x.T.length+5))),c'] else .xc 5 [some (.ref M0.length),v,some (.ref (M0.length+(x.T.length+5))),c']) ((wT x es).h M0):=fun m0 hm e2 hq=>by
    subst hq
    obtain ⟨c',es,e3⟩:=ih n (by omega) ds b N v (some u) h (by omega) (by omega) (by rw [List.length_append] at hd;omega)
    refine ⟨c',es,?_⟩
    rw [ID,aB,(av e1).trans ((cV e2).trans rfl)]
    exact e3
   cases hu with
   | int i=>exact flat 0 rfl rfl rfl
   | aq=>exact flat 0 rfl rfl rfl
   | @cell cw sz a b' f n1 n2 o b1 b2 hf ha hb =>
    have ho':(wT x ds).ai[f]? = some (.bl o):=by show x.ai[f]? = _;rw [ho];exact nN hf
    have hbig:f<18446744073709551616:=Nat.lt_of_lt_of_le (Nat.lt_trans (List.getElem?_eq_some_iff.mp hf).1 hl) (by decide)
    have e2:ev (aa ah (k+1)) (.uI (.v 3) .tuple) [some (.ref M0.length),v,some (.ref (M0.length+(x.T.length+5))),some (.tup [.str cw,.int sz,a,b',.int f])] ((wT x ds).h M0)=.ok (.bl true) ((wT x ds).h M0):=rfl
    have e3:=(sA (Φ:=aa ah (k+1)) (e:=.idx (.v 3) (.k (.int 4))) (f:=f) (Z:=[some (.ref M0.length),v,some (.ref (M0.length+(x.T.length+5))),some (.tup [.str cw,.int sz,a,b',.int f])]) (M0:=M0) (i:=0) (s:=wT x ds) rfl rfl).trans (rT (k:=k) (s:=wT x ds) (b:=o) ho' hbig)
    cases o with
    | false =>
     refine ⟨some (.tup [.str cw,.int sz,a,b',.int f]),ds,?_⟩
     rw [ID,aB,(av e1).trans (pP e2 (uc e3))];rfl
    | true =>
     have e4:ev (aa ah (k+1)) (.aW .extend true (.v 2) (.cons (.sl true (.v 3) (.some (.k (.int 2))) (.some (.k (.int 4)))) .nil)) [some (.ref M0.length),v,some (.ref (M0.length+(x.T.length+5))),some (.tup [.str cw,.int sz,a,b',.int f])] ((wT x ds).h M0)=.ok .aq ((wT x (ds++[a]++[b'])).h M0):=by
      have es:ev (aa ah (k+1)) (.sl true (.v 3) (.some (.k (.int 2))) (.some (.k (.int 4)))) [some (.ref M0.length),v,some (.ref (M0.length+(x.T.length+5))),some (.tup [.str cw,.int sz,a,b',.int f])] ((wT x ds).h M0)=.ok (.tup [a,b']) ((wT x ds).h M0):=rfl
      have hlen:ds.length+2<=line:=by
       have h7:lim<line:=by decide
       rw [List.length_append] at hd
       simp only [List.length_singleton] at hd
       omega
      rw [gA,gR]
      simp only [List.getElem?_cons_succ,List.getElem?_cons_zero,R.af,nU,cu gD,Option.isSome_some,Bool.and_self,if_true,az,es,aP,gM,nT,vY,xq,List.length_cons,List.length_nil,hlen,decide_true,sD]
      rw [List.append_assoc];rfl
     have hw:Ep ai (ds++[a]++[b']) (n+n1+n2) (b2&&(b1&&b)):=.snoc (.snoc h ha) hb
     obtain ⟨c',es,e5⟩:=ih (n+n1+n2) (by omega) _ _ N v (some (.tup [.str cw,.int sz,a,b',.int f])) hw (by omega) (by omega) (by simp only [List.length_append,List.length_singleton] at hd ⊢;omega)
     refine ⟨c',es,?_⟩
     have eq:(true&&(b1&&b2)&&b)=(b2&&(b1&&b)):=by cases b1 <;> cases b2 <;> cases b <;> rfl
     rw [ID,aB,(av e1).trans ((iK e2 ((bx e3).trans ((bx e4).trans rfl))).trans rfl),eq]
     exact e5
theorem Kv {v:D} {n:Nat} {q:Bool} (ho:x.ai=ai.map D.bl) (hl:ai.length<lim) (h:Wa ai v n q) (hn:n<100000):(aa ah (k+2)).call 20 [.ref M0.length,v] (x.h M0)=if q then .ok .aq (x.h M0) else .exc 5 (x.h M0):=by
 have hw:Ep ai [v] (0+n) (q&&true):=Ep.snoc (ds:=[]) .nil h
 rw [Nat.zero_add,Bool.and_true] at hw
 have h1n:[v].length+n<lim:=Nat.lt_of_le_of_lt (Nat.add_le_add_left (Nat.le_of_lt hn) 1) (by decide)
 obtain ⟨c',es,e⟩:=AJ (k:=k) (M0:=M0) (x:=x) ho hl n [v] q 100000 (some v) none hw hn (Nat.lt_of_lt_of_le hn (by decide)) h1n
 have e1:ev (aa ah (k+1)) (.lst false (.cons (.v 1) .nil)) [some (.ref M0.length),some v,none,none] (x.h M0)=.ok (.ref (M0.length+(x.T.length+5))) ((wT x [v]).h M0):=by
  show R.ok (D.ref (x.h M0).length) (x.h M0++[.lst [v]])=_
  rw [fB,app]
 have tk:∀ ds:List D,((wT x ds).h M0).take (x.h M0).length=x.h M0:=fun ds=>by
  have:(wT x ds).h M0=x.h M0++[.lst ds]:=app.symm
  rw [this];simp
 have e2:ex (aa ah (k+1)) (.while aE aB) [some (.ref M0.length),some v,some (.ref (M0.length+(x.T.length+5))),none] ((wT x [v]).h M0)=.ok (if q then .nx [some (.ref M0.length),some v,some (.ref (M0.length+(x.T.length+5))),c'] else .xc 5 [some (.ref M0.length),some v,some (.ref (M0.length+(x.T.length+5))),c']) ((wT x es).h M0):=by
  rw [qA,jK];exact e
 cases q with
 | true=>exact gf KY rfl ((av e1).trans ((bQ e2).trans rfl)) (pV rfl (tk es))
 | false =>
  have e3:exs (aa ah (k+1)) (.cons (.while aE aB) .nil) [some (.ref M0.length),some v,some (.ref (M0.length+(x.T.length+5))),none] ((wT x [v]).h M0)=.ok (.xc 5 [some (.ref M0.length),some v,some (.ref (M0.length+(x.T.length+5))),c']) ((wT x es).h M0):=oE.trans e2
  exact sP KY rfl ((av e1).trans e3) (if_pos (tk es))
theorem yQ {v y:D} {p:List D} {n:Nat} (hp:x.pile=p++[v]) (ho:x.ai=ai.map D.bl) (hl:ai.length<lim) (h:Wa ai v n true) (hn:n<100000) (ht:(aa ah (k+2)).call 5 [v] (({ x with pile:=p }:Mx).h M0)=.ok y (({ x with pile:=p }:Mx).h M0)) (hy:nr (x.h M0).length y=true):(aa ah (k+3)).call 21 [.ref M0.length] (x.h M0)=.ok y (({ x with pile:=p }:Mx).h M0):=by
 have e1:=jH (Φ:=aa ah (k+2)) (Z:=[some (.ref M0.length),none]) (M0:=M0) (i:=0) (s:=x) rfl hp
 have e2:=(u_ (Φ:=aa ah (k+2)) (Z:=[some (.ref M0.length), some v]) (m:=20) (nm:=w "want_all_open") (es:=.cons (.v 1) .nil) (s:={ x with pile:=p }) (M0:=M0) (i:=0) rfl (by decide +kernel)).trans (Kv (k:=k) (x:={ x with pile:=p }) ho hl h hn)
 exact b6 fn21 rfl ((av e1).trans ((bx e2).trans (ck ((iW rfl).trans ht)))) (aC hy (by rw [len,len]))
end
end bA
end
section
namespace bA
open Fg PySem
noncomputable def Kq (rows:D) (most:Int):Mx:=⟨rows,most,0,.int 0,[],[],[],[],[]⟩
section
variable {M0:MH} {x:Mx} {k:Nat} {rows:D} {most:Int}
theorem wN:(aa ah (k+1)).call 9 [.ref M0.length,rows,.int most] (M0++[.ins 1 []])=.ok .aq ((Kq rows most).h M0):=by
 have g:∀ (o:MO) (X:MH),(M0++o::X)[M0.length]? = some o:=fun o X=>off 0 _
 have st:∀ (o o':MO) (X:MH),(M0++o::X).set M0.length o'=M0++o'::X:=fun o o' X=>offs 0 _ _
 have ln:∀ (X:MH) (n:Nat),X.length=n->(M0++X).length=M0.length+n:=fun X n h=>by rw [List.length_append,h]
 have nl:∀ {Z:Sg} (X:MH) (n:Nat),X.length=n->ev (aa ah k) (.lst false .nil) Z (M0++X)=.ok (.ref (M0.length+n)) (M0++(X++[.lst []])):=fun {Z} X n h=>by
  rw [iz,aP,R.af]
  show R.ok (D.ref (M0++X).length) ((M0++X)++[.lst []])=_
  rw [ln X n h,List.append_assoc]
 let Z:Sg:=[some (.ref M0.length),some rows,some (.int most)]
 have q:∀ {e:E} {d:D} {X:MH} {gs gs':List (Str×D)} {Y:MH} {f:Str},ev (aa ah k) e Z (M0++.ins 1 gs::X)=.ok d (M0++.ins 1 gs::Y)->gs.length<1000->bI f d gs=gs'->ex (aa ah k) (.bP (.v 0) f e) Z (M0++.ins 1 gs::X)=.ok (.nx Z) (M0++.ins 1 gs'::Y):=fun {e d X gs gs' Y f} he hl hp=>by
  rw [oJ he rfl (g _ _) hl hp,st]
 have p2:bI (w "most") (.int most) [(w "rows", rows)]=[(w "rows", rows), (w "most", .int most)]:=by simp only [bI, wn (a:="rows") (b:="most"), if_false]
 have p3:bI (w "begun") (.int 0) [(w "rows", rows), (w "most", .int most)]=[(w "rows", rows), (w "most", .int most), (w "begun", .int 0)]:=by simp only [bI, wn (a:="rows") (b:="begun"), wn (a:="most") (b:="begun"), if_false]
 have p4:bI (w "place") (.int 0) [(w "rows", rows), (w "most", .int most), (w "begun", .int 0)]=[(w "rows", rows), (w "most", .int most), (w "begun", .int 0), (w "place", .int 0)]:=by simp only [bI, wn (a:="rows") (b:="place"), wn (a:="most") (b:="place"), wn (a:="begun") (b:="place"), if_false]
 have p5:∀ d, bI (w "pile") d [(w "rows", rows), (w "most", .int most), (w "begun", .int 0), (w "place", .int 0)]=[(w "rows", rows), (w "most", .int most), (w "begun", .int 0), (w "place", .int 0), (w "pile", d)]:=fun d=>by simp only [bI, wn (a:="rows") (b:="pile"), wn (a:="most") (b:="pile"), wn (a:="begun") (b:="pile"), wn (a:="place") (b:="pile"), if_false]
 have p6:∀ a d, bI (w "frames") d [(w "rows", rows), (w "most", .int most), (w "begun", .int 0), (w "place", .int 0), (w "pile", a)]=[(w "rows", rows), (w "most", .int most), (w "begun", .int 0), (w "place", .int 0), (w "pile", a), (w "frames", d)]:=fun a d=>by simp only [bI, wn (a:="rows") (b:="frames"), wn (a:="most") (b:="frames"), wn (a:="begun") (b:="frames"), wn (a:="place") (b:="frames"), wn (a:="pile") (b:="frames"), if_false]
 have p7:∀ a b d, bI (w "lies_open") d [(w "rows", rows), (w "most", .int most), (w "begun", .int 0), (w "place", .int 0), (w "pile", a), (w "frames", b)]=[(w "rows", rows), (w "most", .int most), (w "begun", .int 0), (w "place", .int 0), (w "pile", a), (w "frames", b), (w "lies_open", d)]:=fun a b d=>by simp only [bI, wn (a:="rows") (b:="lies_open"), wn (a:="most") (b:="lies_open"), wn (a:="begun") (b:="lies_open"), wn (a:="place") (b:="lies_open"), wn (a:="pile") (b:="lies_open"), wn (a:="frames") (b:="lies_open"), if_false]
 have p8:∀ a b c d, bI (w "log") d [(w "rows", rows), (w "most", .int most), (w "begun", .int 0), (w "place", .int 0), (w "pile", a), (w "frames", b), (w "lies_open", c)]=[(w "rows", rows), (w "most", .int most), (w "begun", .int 0), (w "place", .int 0), (w "pile", a), (w "frames", b), (w "lies_open", c), (w "log", d)]:=fun a b c d=>by simp only [bI, wn (a:="rows") (b:="log"), wn (a:="most") (b:="log"), wn (a:="begun") (b:="log"), wn (a:="place") (b:="log"), wn (a:="pile") (b:="log"), wn (a:="frames") (b:="log"), wn (a:="lies_open") (b:="log"), if_false]
 refine gf fn9 rfl ((bQ (q (X:=[]) (Y:=[]) (f:=w "rows") (e:=.v 1) (gs:=[]) rfl (by simp) rfl)).trans ((bQ (q (X:=[]) (Y:=[]) (e:=.v 2) rfl (by simp) p2)).trans ((bQ (q (X:=[]) (Y:=[]) (e:=.k (.int 0)) rfl (by simp) p3)).trans ((bQ (q (X:=[]) (Y:=[]) (e:=.k (.int 0)) rfl (by simp) p4)).trans
  ((bQ (q (nl [_] 1 rfl) (by simp) (p5 _))).trans ((bQ (q (nl [_,_] 2 rfl) (by simp) (p6 _ _))).trans ((bQ (q (nl [_,_,_] 3 rfl) (by simp) (p7 _ _ _))).trans ((bQ (q (nl [_,_,_,_] 4 rfl) (by simp) (p8 _ _ _ _))).trans rfl)))))))) ?_
 refine nK (nE (i:=M0.length) (g _ _) (g0 (s:=Kq rows most)) fun h=>?_)
 have h:=congrArg (fun o=>match o with | MO.ins _ fs=>fs.length | _=>0) h
 simp [Mx.o] at h
noncomputable def opens (n:Nat):List D:=(List.range n).map fun (i:Nat)=>.tup [.str (w "open"), .int i]
noncomputable def o6 (rows:D) (most:Int) (n:Nat):Mx:={ Kq rows most with ai:=(List.replicate n true).map D.bl,log:=opens n }
theorem yH {n:Nat}:({ o6 rows most n with ai:=(o6 rows most n).ai++[.bl true], log:=(o6 rows most n).log++[.tup [.str (w "open"), .int (o6 rows most n).ai.length]] }:Mx)=o6 rows most (n+1):=by
 simp only [o6,opens,List.range_succ,List.map_append,List.map_cons,List.map_nil,List.replicate_succ',List.length_map,List.length_replicate]
theorem uB {ch:MH->Bool} (hch:∀ M,ch M=true):∀ (ds:List D) (n:Nat) (o:Option D) (acc:List D),acc=nats (List.range n)->n+ds.length<lim ->
  bh (mE (aa ah (k+1)) .none) (ev (aa ah (k+1)) (.dm 1 10 (w "open_field") (.v 0) .nil)) [1] ch ds [some (.ref M0.length), o] ((o6 rows most n).h M0) acc=.ok (nats (List.range (n+ds.length))) ((o6 rows most (n+ds.length)).h M0)
 | [],n,o,acc,ha,_=>by rw [bh,ha];rfl
 | d::ds,n,o,acc,ha,hl=>by
  simp only [List.length_cons] at hl
  have hn:(o6 rows most n).ai.length=n:=by simp [o6]
  have h7:lim<line:=by decide
  have e:=yP (M0:=M0) (k:=k) (s:=o6 rows most n) (by rw [hn];omega) (by show (opens n).length<line;simp [opens];omega)
  rw [yH,hn] at e
  have eu:ev (aa ah (k+1)) (.dm 1 10 (w "open_field") (.v 0) .nil) (([some (.ref M0.length), o]:Sg).set 1 (some d)) ((o6 rows most n).h M0)=.ok (.int n) ((o6 rows most (n+1)).h M0):=(u_ (nm:=w "open_field") rfl (by decide +kernel)).trans e
  rw [ly eu (hch _) (by rw [ha];simp [nats];omega)]
  have:=uB hch ds (n+1) (some d) (acc++[.int n]) (by rw [ha,List.range_succ];simp [nats]) (by omega)
  rw [show n+1+ds.length=n+(d::ds).length by simp;omega] at this
  exact this
end
end bA
end
section
namespace bA
open Fg PySem
section
variable {M0:MH} {x:Mx} {k:Nat} {rows:D} {most:Int}
noncomputable def Kp (M0:MH) (rows:D) (most:Int) (o:Nat) (kn:List D) (pl:D):Mx:={ o6 rows most o with pl:=pl, frs:=[.ref (M0.length+(2+5))], T:=[.lst kn, .lst (nats (List.range o)), .ins 0 [(w "known", .ref (M0.length+(0+5))), (w "fields", .ref (M0.length+(1+5))), (w "behind_call", .aq)]] }
noncomputable def ms1 (o:Nat) (kn:List D) (b:Nat):Ms:=⟨[],[⟨kn,List.range o,.aq⟩],List.replicate o true,opens o,0,.int b⟩
theorem rep1 {o b:Nat} {kn:List D} (hv:∀ v∈kn,Vl v):Rep M0.length (ms1 o kn b) (Kp M0 rows most o kn (.int b)) [(2,0,1)] where
 pile:=rfl
 ai:=rfl
 log:=rfl
 bg:=rfl
 pl:=rfl
 frs:=rfl
 at_:=.cons ⟨rfl,rfl,rfl⟩ .nil
 nd:=by decide
 lt:=fun i hi=>by
  have hi:i∈[2,0,1]:=hi
  simp only [List.mem_cons,List.not_mem_nil,or_false] at hi
  show i<3
  omega
 pv:=fun v hv=>by cases hv
 fv:=fun f hf v h=>by rw [List.mem_singleton.mp hf] at h;exact hv v h
noncomputable def rE:Ss:=.cons (.set 5 (.dm 1 21 (w "answer") (.v 3) .nil)) (.cons (.for [6] (.rev (.v 4)) (.cons (.ex (.dm 1 11 (w "shut_field") (.v 3) (.cons (.v 6) .nil))) .nil)) (.cons (.ret (.tup (.cons (.v 5) (.cons (.fld (.v 3) (w "log")) .nil)))) .nil))
theorem xW:uS.body=.cons (.set 3 (.new 1 9 (.cons (.idx (.v 0) (.k (.int 0))) (.cons (.v 2) .nil)))) (.cons (.set 4 (.comp true [3] [1] (.dm 1 10 (w "open_field") (.v 0) .nil) (.cR (.idx (.v 0) (.k (.int 2)))) .none))
  (.cons (.ex (.aW .append true (.fld (.v 3) (w "frames")) (.cons (.new 0 8 (.cons (.blt .list false (.cons (.v 1) .nil)) (.cons (.blt .list false (.cons (.v 4) .nil)) (.cons (.k .aq) .nil)))) .nil)))
  (.cons (.bP (.v 3) (w "place") (.idx (.v 0) (.k (.int 1)))) (.cons (.while eW bW) rE)))):=rfl
theorem By {o b:Nat} {kn:List D} (ho:o<lim) {ss:Ss}:exs (aa ah (k+2)) (.cons (.set 3 (.new 1 9 (.cons (.idx (.v 0) (.k (.int 0))) (.cons (.v 2) .nil)))) (.cons (.set 4 (.comp true [3] [1] (.dm 1 10 (w "open_field") (.v 0) .nil) (.cR (.idx (.v 0) (.k (.int 2)))) .none))
  (.cons (.ex (.aW .append true (.fld (.v 3) (w "frames")) (.cons (.new 0 8 (.cons (.blt .list false (.cons (.v 1) .nil)) (.cons (.blt .list false (.cons (.v 4) .nil)) (.cons (.k .aq) .nil)))) .nil)))
  (.cons (.bP (.v 3) (w "place") (.idx (.v 0) (.k (.int 1)))) ss)))) [some (.tup [rows, .int b, .int o]), some (.lst kn), some (.int most), none, none, none, none] M0 =
  exs (aa ah (k+2)) ss [some (.tup [rows,.int b,.int o]),some (.lst kn),some (.int most),some (.ref M0.length),some (.lst (nats (List.range o))),none,none] ((Kp M0 rows most o kn (.int b)).h M0):=by
 have e1:ev (aa ah (k+2)) (.new 1 9 (.cons (.idx (.v 0) (.k (.int 0))) (.cons (.v 2) .nil))) [some (.tup [rows,.int b,.int o]),some (.lst kn),some (.int most),none,none,none,none] M0=.ok (.ref M0.length) ((Kq rows most).h M0) :=
  e_new (mD (aY rfl rfl dh) rfl) wN
 have h0:(Kq rows most).h M0=(o6 rows most 0).h M0:=rfl
 rw [h0] at e1
 have hl:(cW 0 (o:Int)).length=o:=pR
 have e2:=cO (Φ:=aa ah (k+2)) (Z:=[some (.tup [rows,.int b,.int o]),some (.lst kn),some (.int most),some (.ref M0.length),none,none,none]) (M:=(o6 rows most 0).h M0) (caps:=[3]) (tg:=[1]) (it:=.cR (.idx (.v 0) (.k (.int 2)))) (zW (n:=o) (aY rfl rfl vp) (Nat.le_trans (Nat.le_of_lt ho) (by decide)))
  (uB (k:=k+1) (M0:=M0) (ch:=aI ((o6 rows most 0).h M0) .aq) (fun _=>rfl) (cW 0 (o:Int)) 0 none [] rfl (by rw [hl];omega))
 rw [hl,Nat.zero_add] at e2
 let x1:Mx:=o6 rows most o
 have hT:x1.T=[]:=rfl
 let fo:MO:=.ins 0 [(w "known", .ref (M0.length+(0+5))), (w "fields", .ref (M0.length+(1+5))), (w "behind_call", .aq)]
 let x2:Mx:={ x1 with T:=[.lst kn,.lst (nats (List.range o)),fo] }
 have e3:ev (aa ah (k+2)) (.new 0 8 (.cons (.blt .list false (.cons (.v 1) .nil)) (.cons (.blt .list false (.cons (.v 4) .nil)) (.cons (.k .aq) .nil)))) [some (.tup [rows,.int b,.int o]),some (.lst kn),some (.int most),some (.ref M0.length),some (.lst (nats (List.range o))),none,none] (x1.h M0)=.ok (.ref (M0.length+(2+5))) (x2.h M0):=by
  have ea:cG (aa ah (k+2)) (.cons (.blt .list false (.cons (.v 1) .nil)) (.cons (.blt .list false (.cons (.v 4) .nil)) (.cons (.k .aq) .nil))) [some (.tup [rows,.int b,.int o]),some (.lst kn),some (.int most),some (.ref M0.length),some (.lst (nats (List.range o))),none,none] (x1.h M0)=.ok [.ref (M0.length+(0+5)),.ref (M0.length+(1+5)),.aq] (({ x1 with T:=[.lst kn,.lst (nats (List.range o))] }:Mx).h M0):=by
   have q1:ev (aa ah (k+2)) (.blt .list false (.cons (.v 1) .nil)) [some (.tup [rows,.int b,.int o]),some (.lst kn),some (.int most),some (.ref M0.length),some (.lst (nats (List.range o))),none,none] (x1.h M0)=.ok (.ref (M0.length+(0+5))) (({ x1 with T:=[.lst kn] }:Mx).h M0):=by
    show R.ok (D.ref (x1.h M0).length) (x1.h M0++[.lst kn])=_
    rw [fB,app];rfl
   have q2:ev (aa ah (k+2)) (.blt .list false (.cons (.v 4) .nil)) [some (.tup [rows,.int b,.int o]),some (.lst kn),some (.int most),some (.ref M0.length),some (.lst (nats (List.range o))),none,none] (({ x1 with T:=[.lst kn] }:Mx).h M0)=.ok (.ref (M0.length+(1+5))) (({ x1 with T:=[.lst kn,.lst (nats (List.range o))] }:Mx).h M0):=by
    show R.ok (D.ref (({ x1 with T:=[.lst kn] }:Mx).h M0).length) (({ x1 with T:=[.lst kn] }:Mx).h M0++[.lst (nats (List.range o))])=_
    rw [fB,app];rfl
   rw [az,q1,R.af,az,q2];rfl
  have en:=e_new (c:=0) (g:=8) (M2:=x2.h M0) ea (by
   rw [app,fB]
   refine (vm (k:=k) (gT (t:=2) (s:=({ x1 with T:=[.lst kn,.lst (nats (List.range o))]++[.ins 0 []] }:Mx)))).trans ?_
   exact congrArg (R.ok _) sT)
  rw [fB] at en
  exact en
 have e4:=lS (eB (Φ:=aa ah (k+2)) (Z:=[some (.tup [rows,.int b,.int o]),some (.lst kn),some (.int most),some (.ref M0.length),some (.lst (nats (List.range o))),none,none]) (M0:=M0) (s:=x1) (i:=3) rfl) g2 e3 (g2 (s:=x2)) (show ([]:List D).length<line by decide)
 rw [s2] at e4
 have e5:=kr (Φ:=aa ah (k+2)) (Z:=[some (.tup [rows,.int b,.int o]),some (.lst kn),some (.int most),some (.ref M0.length),some (.lst (nats (List.range o))),none,none]) (e:=.idx (.v 0) (.k (.int 1))) (d:=.int b) (s:={ x2 with frs:=[]++[.ref (M0.length+(2+5))] }) (s':={ x2 with frs:=[]++[.ref (M0.length+(2+5))] }) (M0:=M0) (i:=3) rfl (aY rfl rfl lW)
 exact (av e1).trans ((av e2).trans ((bx e4).trans (bQ e5)))
noncomputable def cj (o:Nat):List D:=(List.range o).reverse.map fun (i:Nat)=>.tup [.str (w "shut"), .int i]
theorem Co {a b c e f:Option D}:∀ (ns:List Nat) (x:Mx) (g:Option D),(∀ n∈ns,n<x.ai.length)->x.log.length+ns.length<line ->
  ∃ (x':Mx) (g':Option D), aG (exs (aa ah (k+2)) (.cons (.ex (.dm 1 11 (w "shut_field") (.v 3) (.cons (.v 6) .nil))) .nil)) [6] (aI (x.h M0) .aq) (nats ns) [a, b, c, some (.ref M0.length), e, f, g] (x.h M0)=.ok (.nx [a, b, c, some (.ref M0.length), e, f, g']) (x'.h M0)/\x'.log=x.log++ns.map (fun (i:Nat)=>.tup [.str (w "shut"), .int i]):=by
 intro ns
 induction ns with
 | nil=>intro x g _ _;exact ⟨x,g,rfl,by simp⟩
 | cons n ns ih =>
  intro x g h hl
  have e1:=yO (M0:=M0) (k:=k+1) (s:=x) (f:=n) (h n List.mem_cons_self) (by simp only [List.length_cons] at hl;omega)
  have e2:=(u_ (Φ:=aa ah (k+2)) (Z:=[a, b, c, some (.ref M0.length), e, f, some (.int n)]) (m:=11) (nm:=w "shut_field") (es:=.cons (.v 6) .nil) (s:=x) (M0:=M0) (i:=3) rfl (by decide +kernel)).trans e1
  obtain ⟨x', g', e3, e4⟩:=ih { x with ai:=x.ai.set n (.bl false), log:=x.log++[.tup [.str (w "shut"), .int n]] } (some (.int n)) (fun m hm=>by show m<(x.ai.set n _).length;rw [List.length_set];exact h m (List.mem_cons_of_mem _ hm)) (by show (x.log++[_]).length+ns.length<line;rw [List.length_append];simp only [List.length_cons, List.length_nil] at hl ⊢;omega)
  refine ⟨x',g',?_,?_⟩
  ·have eb:exs (aa ah (k+2)) (.cons (.ex (.dm 1 11 (w "shut_field") (.v 3) (.cons (.v 6) .nil))) .nil) [a, b, c, some (.ref M0.length), e, f, some (.int n)] (x.h M0)=.ok (.nx [a, b, c, some (.ref M0.length), e, f, some (.int n)]) (({ x with ai:=x.ai.set n (.bl false), log:=x.log++[.tup [.str (w "shut"), .int n]] }:Mx).h M0):=(bx e2).trans rfl
   rw [nats,List.map_cons,aG]
   show (exs (aa ah (k+2)) _ [a,b,c,some (.ref M0.length),e,f,some (.int n)] (x.h M0)).bind _=_
   rw [eb]
   exact e3
  ·rw [e4];show (x.log++[_])++_=_;rw [List.append_assoc];rfl
theorem E6 {rs:List Rw} {o b N n:Nat} {kn p:List D} {s':Ms} {v y:D} (hR:mG M0 rows (rs.map Rw.d)) (ho:o<1000) (hv:∀ v∈kn,Vl v) (hg:go rs most N (ms1 o kn b)=.ok s') (hN:N<=100000) (hp:s'.pile=p++[v]) (hw:Wa s'.ai v n true) (hn:n<100000) (hop:s'.ai.length<lim) (hoo:o<=s'.ai.length) (hlog:s'.log.length<lim)
  (ht:∀ M,(aa ah (k+5)).call 5 [v] M=.ok y M) (hy:∀ m,nr m y=true) :
  ∃ x':Mx,(aa ah (k+7)).call 7 [.tup [rows,.int b,.int o],.lst kn,.int most] M0=.ok (.tup [y,.ref (M0.length+4)]) (x'.h M0)/\x'.log=s'.log++cj o:=by
 have lp:=loop (M0:=M0) (rs:=rs) (k:=k+1) (Z:=[some (.tup [rows,.int b,.int o]),some (.lst kn),some (.int most),some (.ref M0.length),some (.lst (nats (List.range o))),none,none]) rfl N 100000 (ms1 o kn b) (Kp M0 rows most o kn (.int b)) [(2,0,1)] hN (rep1 hv) hR
 have hm:(Kp M0 rows most o kn (.int b)).most=most:=rfl
 rw [hm,hg] at lp
 obtain ⟨x1,qs,e1,R1,_⟩:=lp
 have e2:=yQ (M0:=M0) (k:=k+3) (x:=x1) (ai:=s'.ai) (R1.pile.trans hp) R1.ai hop hw hn (ht _) (hy _)
 have e3:=(u_ (Φ:=aa ah (k+6)) (Z:=[some (.tup [rows, .int b, .int o]), some (.lst kn), some (.int most), some (.ref M0.length), some (.lst (nats (List.range o))), none, none]) (m:=21) (nm:=w "answer") (es:=.nil) (s:=x1) (M0:=M0) (i:=3) rfl (by decide +kernel)).trans e2
 let x2:Mx:={ x1 with pile:=p }
 have h7:lim+1000<line:=by decide
 obtain ⟨x3,g',e4,e5⟩:=Co (M0:=M0) (k:=k+4) (a:=some (.tup [rows,.int b,.int o])) (b:=some (.lst kn)) (c:=some (.int most)) (e:=some (.lst (nats (List.range o)))) (f:=some y) (List.range o).reverse x2 none (fun n hn=>by
  show n<x1.ai.length
  rw [R1.ai,List.length_map]
  have:=List.mem_range.mp (List.mem_reverse.mp hn)
  omega) (by show x1.log.length+_<line;rw [R1.log,List.length_reverse,List.length_range];omega)
 have e6:ex (aa ah (k+6)) (.for [6] (.rev (.v 4)) (.cons (.ex (.dm 1 11 (w "shut_field") (.v 3) (.cons (.v 6) .nil))) .nil)) [some (.tup [rows, .int b, .int o]), some (.lst kn), some (.int most), some (.ref M0.length), some (.lst (nats (List.range o))), some y, none] (x2.h M0)=.ok (.nx [some (.tup [rows, .int b, .int o]), some (.lst kn), some (.int most), some (.ref M0.length), some (.lst (nats (List.range o))), some y, g']) (x3.h M0):=by
  have er:bZ (aa ah (k+6)) (.rev (.v 4)) [some (.tup [rows,.int b,.int o]),some (.lst kn),some (.int most),some (.ref M0.length),some (.lst (nats (List.range o))),some y,none] (x2.h M0)=.ok (.aq,nats (List.range o).reverse,false) (x2.h M0):=by
   have:(nats (List.range o)).reverse=nats (List.range o).reverse:=by simp only [nats,List.map_reverse]
   rw [<- this];rfl
  rw [HB,er]
  show (aG _ _ _ _ _ _).fin (fU false .aq)=_
  rw [zJ]
  exact e4
 have e7:ev (aa ah (k+6)) (.tup (.cons (.v 5) (.cons (.fld (.v 3) (w "log")) .nil))) [some (.tup [rows, .int b, .int o]), some (.lst kn), some (.int most), some (.ref M0.length), some (.lst (nats (List.range o))), some y, g'] (x3.h M0)=.ok (.tup [y, .ref (M0.length+4)]) (x3.h M0):=by
  rw [bL,mD rfl (Eb (i:=3) rfl)];rfl
 have ew:ex (aa ah (k+6)) (.while eW bW) [some (.tup [rows,.int b,.int o]),some (.lst kn),some (.int most),some (.ref M0.length),some (.lst (nats (List.range o))),none,none] ((Kp M0 rows most o kn (.int b)).h M0)=.ok (.nx [some (.tup [rows,.int b,.int o]),some (.lst kn),some (.int most),some (.ref M0.length),some (.lst (nats (List.range o))),none,none]) (x1.h M0):=by
  rw [qA,jK];exact e1
 refine ⟨x3,?_,?_⟩
 ·have eb:exs (aa ah (k+6)) uS.body [some (.tup [rows,.int b,.int o]),some (.lst kn),some (.int most),none,none,none,none] M0=.ok (.rt (.tup [y,.ref (M0.length+4)])) (x3.h M0):=by
   rw [xW,By (k:=k+4) (Nat.lt_of_lt_of_le ho (by decide))]
   exact (bQ ew).trans ((av e3).trans ((bQ e6).trans (ck e7)))
  have tk:(x3.h M0).take M0.length=M0:=by simp [Mx.h]
  have nn:¬ nr M0.length (.tup [y,.ref (M0.length+4)])=true:=by simp [nr,iN]
  exact b6 fn7 rfl eb ((if_pos ⟨rfl,tk⟩).trans (if_neg nn))
 ·rw [e5]
  show x1.log++_=_
  rw [R1.log];rfl
end
end bA
end
section
namespace bA
open Fg PySem
theorem b8 {xs:List D} {x:D} {k:List D->D->Rz}:bJ (xs++[x]) k=k xs x:=by
 unfold bJ iP
 simp [bR]
structure Lm (s:Ms) (n:Nat):Prop where
 p:s.pile.length+n<lim
 o:s.ai.length+n<lim
 l:s.log.length+n<lim
 f:s.frs.length+n<lim
 k:∀ f∈s.frs,f.kn.length+n<lim/\f.fl.length+n<lim
theorem Lm.fit {s:Ms} {n:Nat} {f:Fm} {fs:List Fm} (h:Lm s n) (e:s.frs=f::fs):fits s f fs:=by
 have h1:=h.k f (by rw [e];exact List.mem_cons_self)
 have h2:=h.f
 have h3:=h.p
 have h4:=h.o
 have h5:=h.l
 rw [e,List.length_cons] at h2
 exact ⟨by omega,by omega,by omega,by omega,by omega,by omega⟩
noncomputable def rOk:Rw->Prop
 | .call _ _ is=>is.length<=1000
 | _=>True
theorem GA {most:Int} {r:Rw} {s s':Ms} {f:Fm} {fs:List Fm} {n:Nat} (h:Lm s (1+n)) (e:s.frs=f::fs) (hr:rOk r) (hn:n<=10000) (q:jQ most r s f fs=.ok s'):Lm s' n:=by
 obtain ⟨h1,h2,h3,h4,h5⟩:=h
 have h6:=h5 f (by rw [e];exact List.mem_cons_self)
 have h7:∀ g∈fs,g.kn.length+n<lim/\g.fl.length+n<lim:=fun g hg=>by
  have:=h5 g (by rw [e];exact List.mem_cons_of_mem _ hg)
  exact ⟨by omega,by omega⟩
 have h8:∀ g∈s.frs,g.kn.length+n<lim/\g.fl.length+n<lim:=fun g hg=>by
  have:=h5 g hg
  exact ⟨by omega,by omega⟩
 have h4':=h4
 rw [e,List.length_cons] at h4'
 have top:∀ {g:Fm},g.kn.length+n<lim/\g.fl.length+n<lim->∀ x∈g::fs,x.kn.length+n<lim/\x.fl.length+n<lim:=fun hg x hx=>by
  rcases List.mem_cons.mp hx with rfl | hx
  ·exact hg
  ·exact h7 x hx
 cases r with
 | num i=>cases q;exact ⟨by simp;omega,by simpa using by omega,by simpa using by omega,by simpa using by omega,h8⟩
 | loc m =>
  simp only [jQ,bR] at q
  split at q
  ·cases q;exact ⟨by simp;omega,by simpa using by omega,by simpa using by omega,by simpa using by omega,h8⟩
  ·cases q
 | keep =>
  simp only [jQ,bJ,bR,iP] at q
  split at q
  ·rename_i z hz
   split at hz
   ·cases hz;cases q
    exact ⟨by simp;omega,by simpa using by omega,by simpa using by omega,by simpa using by omega,top ⟨by simp;omega,by simpa using by omega⟩⟩
   ·cases hz
  ·cases q
 | drop =>
  simp only [jQ,bJ,bR,iP] at q
  split at q
  ·rename_i z hz
   split at hz
   ·cases hz;cases q
    exact ⟨by simpa using by omega,by simpa using by omega,by simpa using by omega,by simpa using by omega,top ⟨by simp;omega,by simpa using by omega⟩⟩
   ·cases hz
  ·cases q
 | lay c i =>
  simp only [jQ,bJ,bR,iP] at q
  split at q
  ·rename_i z hz
   split at hz
   ·cases hz
    split at q
    ·rename_i z2 hz2
     split at hz2
     ·cases hz2
      split at q
      ·split at q
       ·split at q
        ·cases q
        ·split at q
         ·cases q
          exact ⟨by simp;omega,by simpa using by omega,by simp;omega,by simpa using by omega,h8⟩
         ·cases q
       ·cases q
      ·cases q
     ·cases hz2
    ·cases q
   ·cases hz
  ·cases q
 | look h t =>
  simp only [jQ,bJ,bR,iP] at q
  split at q
  ·rename_i z hz
   split at hz
   ·cases hz
    split at q
    ·split at q
     ·split at q
      ·cases q
       exact ⟨by simp;omega,by simpa using by omega,by simp;omega,by simpa using by omega,h8⟩
      ·cases q
     ·cases q
    ·cases q
   ·cases hz
  ·cases q
 | nil=>cases q;exact ⟨by simp;omega,by simpa using by omega,by simpa using by omega,by simpa using by omega,h8⟩
 | ai=>cases q;exact ⟨by simpa using by omega,by simp;omega,by simp;omega,by simpa using by omega,top ⟨by simpa using by omega,by simp;omega⟩⟩
 | rA =>
  simp only [jQ,bR] at q
  split at q
  ·split at q
   ·cases q;exact ⟨by simpa using by omega,by simp;omega,by simp;omega,by simpa using by omega,top ⟨by simpa using by omega,by simp;omega⟩⟩
   ·cases q
  ·cases q
 | call to many is =>
  simp only [jQ] at q
  split at q
  ·cases q
  ·split at q
   ·cases q
   ·split at q
    ·cases q
     have hr':is.length<=1000:=hr
     have hl:lim=900000:=rfl
     refine ⟨by simp;omega,by simpa using by omega,by simpa using by omega,by simp;omega,fun x hx=>?_⟩
     rcases List.mem_cons.mp hx with rfl | hx
     ·exact ⟨by simp;omega,by simp;omega⟩
     ·exact top ⟨by omega,by omega⟩ x hx
    ·cases q
 | back=>cases q;exact ⟨by simpa using by omega,by simpa using by omega,by simpa using by omega,by simpa using by omega,h7⟩
 | rk o =>
  simp only [jQ,bJ,bR,iP] at q
  split at q
  ·rename_i z hz
   split at hz
   ·cases hz
    split at q
    ·rename_i z2 hz2
     split at hz2
     ·cases hz2
      split at q
      ·split at q
       ·split at q
        ·split at q
         ·cases q
         ·cases q
          exact ⟨by simp;omega,by simpa using by omega,by simpa using by omega,by simpa using by omega,h8⟩
        ·cases q
       ·cases q
      ·cases q
     ·cases hz2
    ·cases q
   ·cases hz
  ·cases q
noncomputable def Seg (rs:List Rw) (most:Int) (s s':Ms) (n:Nat):Prop:=∀ N,n+N<=10000->Lm s (n+N)->Lm s' N/\∀ K,go rs most (n+K) s=go rs most K s'
section
variable {rs:List Rw} {most:Int} {s s' s'':Ms} {n m L:Nat} {r:Rw} {f:Fm} {fs:List Fm}
theorem Seg.refl:Seg rs most s s 0:=fun N _ h=>⟨by rwa [Nat.zero_add] at h,fun K=>by rw [Nat.zero_add]⟩
theorem Seg.trans (h:Seg rs most s s' n) (h':Seg rs most s' s'' m):Seg rs most s s'' (n+m):=fun N hN hl=>by
 rw [Nat.add_assoc] at hN hl
 obtain ⟨l1,g1⟩:=h (m+N) hN hl
 obtain ⟨l2,g2⟩:=h' N (by omega) l1
 exact ⟨l2,fun K=>by rw [Nat.add_assoc,g1,g2]⟩
theorem go_s (hf:s.frs=f::fs) (hp:s.pl=.int (L:Int)) (hr:rs[L]? = some r):go rs most (n+1) s=tw (Iw most r { s with pl:=.int ((L:Int)+1) }) (go rs most n):=by
 show (bif s.frs.isEmpty then Rz.ok s else _)=_
 rw [hf,hp]
 simp only [List.isEmpty_cons,cond_false,Fx,bR]
 have e:Fx (.int (L:Int))=some L:=by simp [Fx]
 simp [hr]
theorem Lm.pl {d:D} (h:Lm s n):Lm { s with pl:=d } n:=⟨h.p,h.o,h.l,h.f,h.k⟩
theorem jO (hf:s.frs=f::fs) (hp:s.pl=.int (L:Int)) (hr:rs[L]? = some r) (ho:rOk r) (hm:jQ most r { s with pl:=.int ((L:Int)+1) } f fs=.ok s'):Seg rs most s s' 1:=fun N hN hl=>by
 have hl':Lm { s with pl:=.int ((L:Int)+1) } (1+N):=hl.pl
 refine ⟨GA hl' hf ho (by omega) hm,fun K=>?_⟩
 have e:Iw most r { s with pl:=.int ((L:Int)+1) }=jQ most r { s with pl:=.int ((L:Int)+1) } f fs:=by
  unfold Iw
  simp only [hf]
  exact if_pos (hl'.fit hf)
 rw [Nat.add_comm,go_s hf hp hr,e,hm];rfl
end
end bA
end
section
namespace bA
open Fg PySem
noncomputable abbrev di (xs:List Int):List D:=xs.map D.int
noncomputable def st (p kn:List D) (fl:List Nat) (bk:D) (fs:List Fm) (ai:List Bool) (log:List D) (bg:Int) (L:Nat):Ms:=⟨p,⟨kn,fl,bk⟩::fs,ai,log,bg,.int (L:Int)⟩
noncomputable def At (rs:List Rw) (L:Nat) (ws:List Rw):Prop:=∀ i r,ws[i]? = some r->rs[L+i]? = some r
theorem At.hd {rs ws:List Rw} {L:Nat} {r:Rw} (h:At rs L (r::ws)):rs[L]? = some r:=h 0 r rfl
theorem At.tl {rs ws:List Rw} {L:Nat} {r:Rw} (h:At rs L (r::ws)):At rs (L+1) ws:=fun i x e=>by
 have:=h (i+1) x (by simpa using e)
 rwa [show L+1+i=L+(i+1) by omega]
theorem At.l {rs a b:List Rw} {L:Nat} (h:At rs L (a++b)):At rs L a:=fun i x e=>h i x (by rw [List.getElem?_append_left (List.getElem?_eq_some_iff.mp e).1];exact e)
theorem At.r {rs a b:List Rw} {L:Nat} (h:At rs L (a++b)):At rs (L+a.length) b:=fun i x e=>by
 have:=h (a.length+i) x (by rw [List.getElem?_append_right (by omega),Nat.add_sub_cancel_left];exact e)
 rwa [Nat.add_assoc]
section
variable {rs:List Rw} {most bg:Int} {p kn log:List D} {fl:List Nat} {bk x y:D} {fs:List Fm} {ai:List Bool} {L n m:Nat} {i:Int}
theorem IZ (hr:rs[L]? = some (.num i)):Seg rs most (st p kn fl bk fs ai log bg L) (st (p++[.int i]) kn fl bk fs ai log bg (L+1)) 1:=jO rfl rfl hr trivial rfl
theorem tD (hr:rs[L]? = some (.loc n)) (hx:kn[n]? = some x):Seg rs most (st p kn fl bk fs ai log bg L) (st (p++[x]) kn fl bk fs ai log bg (L+1)) 1:=jO rfl rfl hr trivial (by
 show bR kn[n]? _=_
 rw [hx];rfl)
theorem Ja (hr:rs[L]? = some .nil):Seg rs most (st p kn fl bk fs ai log bg L) (st (p++[.aq]) kn fl bk fs ai log bg (L+1)) 1:=jO rfl rfl hr trivial rfl
theorem xw (hr:rs[L]? = some .keep):Seg rs most (st (p++[x]) kn fl bk fs ai log bg L) (st p (kn++[x]) fl bk fs ai log bg (L+1)) 1:=jO rfl rfl hr trivial (by
 show bJ (p++[x]) _=_
 rw [b8];rfl)
theorem EG (hr:rs[L]? = some .drop):Seg rs most (st p (kn++[x]) fl bk fs ai log bg L) (st p kn fl bk fs ai log bg (L+1)) 1:=jO rfl rfl hr trivial (by
 show bJ (kn++[x]) _=_
 rw [b8];rfl)
theorem IX {o:Rk} {a b:Int} (hr:rs[L]? = some (.rk o)) (ha:mid a=true) (hb:mid b=true) (hg:BC o a b=false):Seg rs most (st (p++[.int a]++[.int b]) kn fl bk fs ai log bg L) (st (p++[.int (kc o a b)]) kn fl bk fs ai log bg (L+1)) 1:=jO rfl rfl hr trivial (by
 show bJ (p++[.int a]++[.int b]) _=_
 rw [b8,b8]
 simp only [zx,bR,ha,hb,hg,and_self,if_true,Bool.false_eq_true,if_false];rfl)
noncomputable def kg (n:Nat):D:=.tup [.str (w "open"), .int (n:Int)]
noncomputable def l9 (n:Nat):D:=.tup [.str (w "shut"), .int (n:Int)]
noncomputable def v5 (n:Nat):D:=.tup [.str (w "lay"), .int (n:Int)]
noncomputable def yU (n:Nat):D:=.tup [.str (w "look"), .int (n:Int)]
theorem IY (hr:rs[L]? = some .ai):Seg rs most (st p kn fl bk fs ai log bg L) (st p kn (fl++[ai.length]) bk fs (ai++[true]) (log++[kg ai.length]) bg (L+1)) 1:=jO rfl rfl hr trivial rfl
theorem IW (hr:rs[L]? = some .rA) (hn:n<ai.length):Seg rs most (st p kn (fl++[n]) bk fs ai log bg L) (st p kn fl bk fs (ai.set n false) (log++[l9 n]) bg (L+1)) 1:=jO rfl rfl hr trivial (by
 show bR (fl++[n]).getLast? _=_
 rw [List.getLast?_append]
 simp only [List.getLast?_singleton,Option.some_or,bR]
 show (if n<ai.length then _ else _)=_
 rw [if_pos hn]
 simp only [List.dropLast_concat];rfl)
theorem Jb {v:Int} (hr:rs[L]? = some (.lay false m)) (hm:fl[m]? = some n) (ho:ai[n]? = some true):Seg rs most (st (p++[.int v]++[.aq]) kn fl bk fs ai log bg L) (st (p++[.tup [.str (layW false),.int 3,.int v,.aq,.int n]]) kn fl bk fs ai (log++[v5 n]) bg (L+1)) 1:=jO rfl rfl hr trivial (by
 show bJ (p++[.int v]++[.aq]) _=_
 rw [b8,b8]
 show bR fl[m]? _=_
 rw [hm]
 show bR ai[n]? _=_
 rw [ho]
 rfl)
theorem EF {v:Int} (hr:rs[L]? = some (.look false false)) (ho:ai[n]? = some true):Seg rs most (st (p++[.tup [.str (layW false),.int 3,.int v,.aq,.int n]]) kn fl bk fs ai log bg L) (st (p++[.int v]) kn fl bk fs ai (log++[yU n]) bg (L+1)) 1:=jO rfl rfl hr trivial (by
 show bJ (p++[.tup [.str (layW false),.int 3,.int v,.aq,.int n]]) _=_
 rw [b8]
 show bR ai[(n:Int).toNat]? _=_
 rw [Int.toNat_natCast,ho]
 rfl)
theorem EI (hr:rs[L]? = some .back):Seg rs most (st p kn fl bk fs ai log bg L) ⟨p,fs,ai,log,bg,bk⟩ 1:=jO rfl rfl hr trivial rfl
theorem EH {q:List D} {to:Nat} {is:List Nat} (hr:rs[L]? = some (.call to q.length is)) (hi:is.length<=1000) (h1:bg+1<=most) (h2:fs.length+1<=12) (h3:∀ i∈is,i<fl.length) :
  Seg rs most (st (p++q) kn fl bk fs ai log bg L) (st p q (is.map fun i=>fl.getD i 0) (.int ((L+1:Nat):Int)) (⟨kn,fl,bk⟩::fs) ai log (bg+1) to) 1:=jO rfl rfl hr hi (by
 have a1:¬ most<bg+1:=by omega
 have a2:¬ 12<fs.length+1:=by omega
 have a3:q.length<=(p++q).length/\(is.all fun i=>decide (i<fl.length))=true/\is.length<lim:=⟨by simp,List.all_eq_true.mpr fun i hi=>decide_eq_true (h3 i hi),Nat.lt_of_le_of_lt hi (by decide)⟩
 show (if most<bg+1 then Rz.bad else if 12<fs.length+1 then .bad else if q.length<=(p++q).length/\(is.all fun i=>decide (i<fl.length))=true/\is.length<lim then _ else .bad)=_
 rw [if_neg a1,if_neg a2,if_pos a3]
 have e1:(p++q).length-q.length=p.length:=by simp
 simp only [st,e1,List.take_left',List.drop_left',List.take_left,List.drop_left]
 rfl)
end
end bA
end
section
namespace bA
open Fg PySem
structure Fc where
 many:Nat
 outer:Nat
 opens:Nat
 handed:List Nat
 args:List Nat
 ie:Nat
 more:Nat
 last:Bool
noncomputable def mw (z:Nat):Rk:=if z % 3=0 then .plus else if z % 3=1 then .minus else .less
noncomputable def dI (more:Nat) (ks:List Nat):List Rw:=ks.flatMap fun k=>[.loc k,.rk (mw (more / (k+2)))]
noncomputable def fG (f:Fc) (ks:List Nat):List Rw:=ks.flatMap fun k=>[.loc f.many,.nil,.lay false ((f.more+k) % (f.outer+f.opens)),.look false false,.keep,.drop]
noncomputable def fX (f:Fc):List Rw:=if 0<f.outer+f.opens then fG f (List.range f.ie) else []
noncomputable def dz (f:Fc) (to:Nat):List Rw:=if f.last then [] else f.args.map .loc++[.call (to:Int) f.args.length f.handed,.rk .plus]
noncomputable def bU (f:Fc) (to:Nat):List Rw:=.num ((f.more % 1000:Nat):Int)::(dI f.more (List.range f.many)++(.keep::(List.replicate f.opens .ai++(fX f++(.loc f.many::(dz f to++(List.replicate f.opens .rA++[.back])))))))
noncomputable def nG (more:Nat) (held:List Int) (ks:List Nat) (acc:Int):Int:=ks.foldl (fun a k=>kc (mw (more / (k+2))) a (held.getD k 0)) acc
noncomputable def eY (more:Nat) (held:List Int):Int:=nG more held (List.range held.length) ((more % 1000:Nat):Int)
noncomputable def ig (f:Fc) (fl:List Nat):List D:=(List.range f.ie).flatMap fun k=>[v5 (fl.getD ((f.more+k) % fl.length) 0),yU (fl.getD ((f.more+k) % fl.length) 0)]
noncomputable def aJ:List Fc->List Int->List Nat->Nat->Int×Nat×List D
 | [],_,_,o=>(0,o,[])
 | f::rest,held,fl,o =>
  let v:=eY f.more held
  let b9:=fl++List.range' o f.opens
  let r:=if f.last then (0,o+f.opens,[]) else aJ rest (f.args.map fun a=>(held++[v]).getD a 0) (f.handed.map fun a=>b9.getD a 0) (o+f.opens)
  (v+r.1,r.2.1,(List.range' o f.opens).map kg++(if 0<b9.length then ig f b9 else [])++r.2.2++(List.range' o f.opens).reverse.map l9)
theorem Ij:IJ=((10 ^ 60:Nat):Int):=by unfold IJ;decide +kernel
theorem nc {x:Int} {P:Nat} (h:x.natAbs<=P) (hP:P<=10 ^ 30):great x=false:=by
 refine decide_eq_false ?_
 rw [Ij]
 intro q
 exact absurd (Nat.le_trans (Nat.le_trans (Int.ofNat_le.mp q) h) hP) (by decide +kernel)
theorem ki {x:Int} {P:Nat} (h:x.natAbs<=P) (hP:P<=10 ^ 30):mid x=true :=
 decide_eq_true (Nat.lt_of_le_of_lt (Nat.le_trans h hP) (by decide +kernel))
theorem ur (z:Nat) (a b:Int):(kc (mw z) a b).natAbs<=a.natAbs+b.natAbs+1:=by
 unfold mw
 split
 ·simp only [kc];omega
 ·split
  ·simp only [kc];omega
  ·simp only [kc];split <;> simp <;> omega
theorem Gh {z:Nat} {a b:Int} {P:Nat} (h:a.natAbs+b.natAbs+1<=P) (hP:P<=10 ^ 30):BC (mw z) a b=false:=by
 unfold BC
 rw [nc (Nat.le_trans (ur z a b) h) hP,Bool.and_false]
section
variable {rs:List Rw} {most bg:Int} {p kn log:List D} {fl:List Nat} {bk x y:D} {fs:List Fm} {ai:List Bool} {L n m:Nat} {i:Int} {held:List Int} {more:Nat}
theorem Seg.to {s s' s'':Ms} (h:Seg rs most s s' n) (e:s'=s'') (hn:n=m):Seg rs most s s'' m:=by subst e hn;exact h
theorem tU {B P:Nat} (hP:P<=10 ^ 30) (hk:∀ k,k<held.length->kn[k]? = some (.int (held.getD k 0))/\(held.getD k 0).natAbs<=B):∀ (ks:List Nat) (acc:Int) (L:Nat),(∀ k∈ks,k<held.length)->At rs L (dI more ks)->acc.natAbs+ks.length*(B+1)<=P ->
  Seg rs most (st (p++[.int acc]) kn fl bk fs ai log bg L) (st (p++[.int (nG more held ks acc)]) kn fl bk fs ai log bg (L+(dI more ks).length)) (2*ks.length)/\(nG more held ks acc).natAbs<=acc.natAbs+ks.length*(B+1)
 | [],acc,L,_,_,_=>⟨Seg.refl,by simp [nG]⟩
 | k::ks,acc,L,hks,ha,hl=>by
  obtain ⟨h1,h2⟩:=hk k (hks k List.mem_cons_self)
  have e:dI more (k::ks)=.loc k::.rk (mw (more / (k+2)))::dI more ks:=rfl
  rw [e] at ha
  have hl':(k::ks).length*(B+1)=ks.length*(B+1)+(B+1):=by rw [List.length_cons,Nat.succ_mul]
  rw [hl'] at hl
  have hab:=ur (more / (k+2)) acc (held.getD k 0)
  have a1:=tD (most:=most) (p:=p++[.int acc]) (fl:=fl) (bk:=bk) (fs:=fs) (ai:=ai) (log:=log) (bg:=bg) ha.hd h1
  have a2:=IX (most:=most) (p:=p) (kn:=kn) (fl:=fl) (bk:=bk) (fs:=fs) (ai:=ai) (log:=log) (bg:=bg) (a:=acc) (b:=held.getD k 0) ha.tl.hd (ki (P:=P) (by omega) hP) (ki (P:=P) (by omega) hP) (Gh (P:=P) (by omega) hP)
  obtain ⟨a3,a4⟩:=tU hP hk ks (kc (mw (more / (k+2))) acc (held.getD k 0)) (L+1+1) (fun j hj=>hks j (List.mem_cons_of_mem _ hj)) ha.tl.tl (by omega)
  refine ⟨((a1.trans a2).trans a3).to ?_ (by simp;omega),?_⟩
  ·rw [e,List.length_cons,List.length_cons,show L+1+1+(dI more ks).length=L+((dI more ks).length+1+1) by omega];rfl
  ·show (nG more held ks (kc (mw (more / (k+2))) acc (held.getD k 0))).natAbs<=_
   rw [hl'];omega
theorem tX:∀ (k:Nat) (fl:List Nat) (ai:List Bool) (log:List D) (L:Nat),At rs L (List.replicate k .ai)->Seg rs most (st p kn fl bk fs ai log bg L) (st p kn (fl++List.range' ai.length k) bk fs (ai++List.replicate k true) (log++(List.range' ai.length k).map kg) bg (L+k)) k
 | 0,fl,ai,log,L,_=>by simpa using Seg.refl
 | k+1,fl,ai,log,L,h=>by
  rw [List.replicate_succ] at h
  have a1:=IY (most:=most) (p:=p) (kn:=kn) (fl:=fl) (bk:=bk) (fs:=fs) (ai:=ai) (log:=log) (bg:=bg) h.hd
  have a2:=tX k (fl++[ai.length]) (ai++[true]) (log++[kg ai.length]) (L+1) h.tl
  refine (a1.trans a2).to ?_ (by omega)
  rw [show (ai++[true]).length=ai.length+1 by simp,List.range'_succ,List.replicate_succ]
  simp only [List.append_assoc,List.singleton_append,List.map_cons,show L+1+k=L+(k+1) by omega]
theorem tY {f:Fc} {v:Int} (hv:kn[f.many]? = some (.int v)) (hl:fl.length=f.outer+f.opens) (h0:0<fl.length) (ho:∀ n∈fl,ai[n]? = some true):∀ (ks:List Nat) (log:List D) (L:Nat),At rs L (fG f ks) ->
  Seg rs most (st p kn fl bk fs ai log bg L) (st p kn fl bk fs ai (log++ks.flatMap fun k=>[v5 (fl.getD ((f.more+k) % fl.length) 0),yU (fl.getD ((f.more+k) % fl.length) 0)]) bg (L+(fG f ks).length)) (6*ks.length)
 | [],log,L,_=>by simpa [fG] using Seg.refl
 | k::ks,log,L,h=>by
  have e:fG f (k::ks)=.loc f.many::.nil::.lay false ((f.more+k) % (f.outer+f.opens))::.look false false::.keep::.drop::fG f ks:=rfl
  rw [e] at h
  have hm:(f.more+k) % fl.length<fl.length:=Nat.mod_lt _ h0
  have hg:fl[(f.more+k) % (f.outer+f.opens)]? = some (fl.getD ((f.more+k) % fl.length) 0):=by
   rw [<- hl,List.getElem?_eq_getElem hm,List.getD_eq_getElem?_getD,List.getElem?_eq_getElem hm];rfl
  have ho':=ho _ (List.mem_of_getElem? hg)
  have a1:=tD (most:=most) (p:=p) (fl:=fl) (bk:=bk) (fs:=fs) (ai:=ai) (log:=log) (bg:=bg) h.hd hv
  have a2:=Ja (most:=most) (p:=p++[.int v]) (kn:=kn) (fl:=fl) (bk:=bk) (fs:=fs) (ai:=ai) (log:=log) (bg:=bg) h.tl.hd
  have a3:=Jb (most:=most) (p:=p) (kn:=kn) (bk:=bk) (fs:=fs) (log:=log) (bg:=bg) (v:=v) h.tl.tl.hd hg ho'
  have a4:=EF (most:=most) (p:=p) (kn:=kn) (fl:=fl) (bk:=bk) (fs:=fs) (log:=log++[v5 (fl.getD ((f.more+k) % fl.length) 0)]) (bg:=bg) (v:=v) h.tl.tl.tl.hd ho'
  have a5:=xw (most:=most) (p:=p) (kn:=kn) (x:=.int v) (fl:=fl) (bk:=bk) (fs:=fs) (ai:=ai) (log:=log++[v5 (fl.getD ((f.more+k) % fl.length) 0)]++[yU (fl.getD ((f.more+k) % fl.length) 0)]) (bg:=bg) h.tl.tl.tl.tl.hd
  have a6:=EG (most:=most) (p:=p) (kn:=kn) (x:=.int v) (fl:=fl) (bk:=bk) (fs:=fs) (ai:=ai) (log:=log++[v5 (fl.getD ((f.more+k) % fl.length) 0)]++[yU (fl.getD ((f.more+k) % fl.length) 0)]) (bg:=bg) h.tl.tl.tl.tl.tl.hd
  have a7:=tY hv hl h0 ho ks (log++[v5 (fl.getD ((f.more+k) % fl.length) 0)]++[yU (fl.getD ((f.more+k) % fl.length) 0)]) (L+1+1+1+1+1+1) h.tl.tl.tl.tl.tl.tl
  refine ((((((a1.trans a2).trans a3).trans a4).trans a5).trans a6).trans a7).to ?_ (by simp;omega)
  rw [e]
  simp only [List.length_cons,List.flatMap_cons,List.append_assoc,List.cons_append,List.nil_append,show L+1+1+1+1+1+1+(fG f ks).length=L+((fG f ks).length+1+1+1+1+1+1) by omega]
theorem pN:∀ (as:List Nat) (vs:List D) (p:List D) (L:Nat),At rs L (as.map .loc)->as.map (kn[·]?)=vs.map some->Seg rs most (st p kn fl bk fs ai log bg L) (st (p++vs) kn fl bk fs ai log bg (L+as.length)) as.length
 | [],[],p,L,_,_=>by simpa using Seg.refl
 | [],_::_,_,_,_,h=>by cases h
 | _::_,[],_,_,_,h=>by cases h
 | a::as,v::vs,p,L,h,e=>by
  rw [List.map_cons,List.map_cons,List.cons.injEq] at e
  rw [List.map_cons] at h
  have a1:=tD (most:=most) (p:=p) (fl:=fl) (bk:=bk) (fs:=fs) (ai:=ai) (log:=log) (bg:=bg) h.hd e.1
  have a2:=pN as vs (p++[v]) (L+1) h.tl e.2
  refine (a1.trans a2).to ?_ (by simp;omega)
  rw [List.append_assoc,List.singleton_append,List.length_cons,show L+1+as.length=L+(as.length+1) by omega]
theorem tV:∀ (ns:List Nat) (ai:List Bool) (log:List D) (L:Nat),At rs L (List.replicate ns.length .rA)->(∀ n∈ns,n<ai.length)->∃ cM:List Bool,Seg rs most (st p kn (fl++ns.reverse) bk fs ai log bg L) (st p kn fl bk fs cM (log++ns.map l9) bg (L+ns.length)) ns.length/\cM.length=ai.length/\∀ i,i∉ns->cM[i]? = ai[i]?
 | [],ai,log,L,_,_=>⟨ai,by simpa using Seg.refl,rfl,fun _ _=>rfl⟩
 | n::ns,ai,log,L,h,hn=>by
  rw [List.length_cons,List.replicate_succ] at h
  have a1:=IW (most:=most) (p:=p) (kn:=kn) (fl:=fl++ns.reverse) (bk:=bk) (fs:=fs) (ai:=ai) (log:=log) (bg:=bg) (n:=n) h.hd (hn n List.mem_cons_self)
  obtain ⟨cM,a2,l2,q⟩:=tV ns (ai.set n false) (log++[l9 n]) (L+1) h.tl (fun j hj=>by rw [List.length_set];exact hn j (List.mem_cons_of_mem _ hj))
  refine ⟨cM,?_,by rw [l2,List.length_set],fun i hi=>?_⟩
  ·have:=(a1.trans a2).to (s'':=st p kn fl bk fs cM (log++(n::ns).map l9) bg (L+(n::ns).length)) (by
    rw [List.map_cons,List.append_assoc,List.singleton_append,List.length_cons,show L+1+ns.length=L+(ns.length+1) by omega]) (m:=(n::ns).length) (by simp;omega)
   rw [List.reverse_cons,<- List.append_assoc]
   exact this
  ·rw [q i (fun z=>hi (List.mem_cons_of_mem _ z)),List.getElem?_set_ne (fun z=>hi (by rw [z];exact List.mem_cons_self))]
end
end bA
end
section
namespace bA
open Fg PySem
noncomputable def Sz (f:Fc):Prop:=f.many<=9/\f.opens<=1/\f.ie<=3/\f.args.length<=9/\f.handed.length<=9
inductive Wf:List Fc->Nat->Nat->Prop
 | last {f:Fc} {a b:Nat}:f.last=true->f.many=a->f.outer=b->Wf [f] a b
 | cons {f g:Fc} {fs:List Fc} {a b:Nat}:f.last=false->f.many=a->f.outer=b->(∀ x∈f.args,x<=f.many)->(∀ x∈f.handed,x<f.outer+f.opens)->Wf (g::fs) f.args.length f.handed.length->Wf (f::g::fs) a b
inductive Lay (rs:List Rw):List Fc->Nat->Prop
 | last {f:Fc} {b to:Nat}:At rs b (bU f to)->Lay rs [f] b
 | cons {f g:Fc} {fs:List Fc} {b b':Nat}:At rs b (bU f b')->Lay rs (g::fs) b'->Lay rs (f::g::fs) b
section
variable {rs:List Rw} {most bg:Int} {p kn log:List D} {fl:List Nat} {bk x y:D} {g5:List Fm} {ai:List Bool} {L n m to:Nat} {i:Int} {held:List Int} {f:Fc} {B:Nat}
theorem oM {k:Nat} (h:k<held.length):(di held)[k]? = some (.int (held.getD k 0)):=by
 rw [List.getElem?_map,List.getElem?_eq_getElem h,List.getD_eq_getElem?_getD,List.getElem?_eq_getElem h];rfl
theorem uP (hB:∀ x∈held,x.natAbs<=B) (k:Nat):(held.getD k 0).natAbs<=B:=by
 by_cases h:k<held.length
 ·rw [List.getD_eq_getElem?_getD,List.getElem?_eq_getElem h];exact hB _ (List.getElem_mem h)
 ·rw [List.getD_eq_getElem?_getD,List.getElem?_eq_none (by omega)];simp
theorem tW (hm:f.many=held.length) (ho:f.outer=fl.length) (hz:Sz f) (hf:∀ n∈fl,ai[n]? = some true) (hB:∀ x∈held,x.natAbs<=B) (h1:1000<=B) (hP:B*20<=10 ^ 30) (hA:At rs L (bU f to)) :
  ∃ n L',n<=40+f.opens/\At rs L' (dz f to++(List.replicate f.opens .rA++[.back]))/\(eY f.more held).natAbs<=B*20/\(∀ n∈fl++List.range' ai.length f.opens,(ai++List.replicate f.opens true)[n]? = some true) /\
   Seg rs most (st p (di held) fl bk g5 ai log bg L) (st (p++[.int (eY f.more held)]) (di held++[.int (eY f.more held)]) (fl++List.range' ai.length f.opens) bk g5 (ai++List.replicate f.opens true)
    (log++(List.range' ai.length f.opens).map kg++(if 0<(fl++List.range' ai.length f.opens).length then ig f (fl++List.range' ai.length f.opens) else [])) bg L') n:=by
 obtain ⟨z1,z2,z3,z4,z5⟩:=hz
 unfold bU at hA
 have a1:=IZ (most:=most) (p:=p) (kn:=di held) (fl:=fl) (bk:=bk) (fs:=g5) (ai:=ai) (log:=log) (bg:=bg) hA.hd
 have A2:=hA.tl
 have hmm:f.many<=9:=z1
 have hb:held.length*(B+1)<=9*(B+1):=Nat.mul_le_mul_right _ (by omega)
 obtain ⟨a2,b2⟩:=tU (rs:=rs) (most:=most) (p:=p) (kn:=di held) (fl:=fl) (bk:=bk) (fs:=g5) (ai:=ai) (log:=log) (bg:=bg) (held:=held) (more:=f.more) (P:=B*20) hP (fun k hk=>⟨oM hk,uP hB k⟩) (List.range f.many) ((f.more % 1000:Nat):Int) (L+1) (fun k hk=>by rw [<- hm];exact List.mem_range.mp hk) A2.l (by rw [List.length_range,hm];omega)
 rw [List.length_range] at b2
 have A3:=A2.r
 have ev:nG f.more held (List.range f.many) ((f.more % 1000:Nat):Int)=eY f.more held:=by rw [hm];rfl
 rw [ev] at a2 b2
 have bv:(eY f.more held).natAbs<=B*20:=Nat.le_trans b2 (by rw [hm];omega)
 have a3:=xw (most:=most) (p:=p) (kn:=di held) (x:=.int (eY f.more held)) (fl:=fl) (bk:=bk) (fs:=g5) (ai:=ai) (log:=log) (bg:=bg) A3.hd
 have A4:=A3.tl
 have a4:=tX (rs:=rs) (most:=most) (p:=p) (kn:=di held++[.int (eY f.more held)]) (bk:=bk) (fs:=g5) (bg:=bg) f.opens fl ai log _ A4.l
 have A5:=A4.r
 rw [List.length_replicate] at A5
 have hfl:(fl++List.range' ai.length f.opens).length=f.outer+f.opens:=by rw [List.length_append,List.length_range',ho]
 have hop:∀ n∈fl++List.range' ai.length f.opens,(ai++List.replicate f.opens true)[n]? = some true:=fun n hn=>by
  rcases List.mem_append.mp hn with hn | hn
  ·have q:=hf n hn
   rw [List.getElem?_append_left (List.getElem?_eq_some_iff.mp q).1];exact q
  ·have q:=List.mem_range'_1.mp hn
   rw [List.getElem?_append_right q.1,List.getElem?_replicate,if_pos (by omega)]
 have hv:(di held++[.int (eY f.more held)])[f.many]? = some (.int (eY f.more held)):=by
  rw [hm,List.getElem?_append_right (by simp)];simp
 have a5:∃ k,k<=18/\Seg rs most (st p (di held++[.int (eY f.more held)]) (fl++List.range' ai.length f.opens) bk g5 (ai++List.replicate f.opens true) (log++(List.range' ai.length f.opens).map kg) bg (L+1+(dI f.more (List.range f.many)).length+1+f.opens))
   (st p (di held++[.int (eY f.more held)]) (fl++List.range' ai.length f.opens) bk g5 (ai++List.replicate f.opens true) (log++(List.range' ai.length f.opens).map kg++(if 0<(fl++List.range' ai.length f.opens).length then ig f (fl++List.range' ai.length f.opens) else [])) bg (L+1+(dI f.more (List.range f.many)).length+1+f.opens+(fX f).length)) k:=by
  by_cases h0:0<f.outer+f.opens
  ·have e:fX f=fG f (List.range f.ie):=if_pos h0
   have A6:=A5.l
   rw [e] at A6
   have q:=tY (rs:=rs) (most:=most) (p:=p) (bk:=bk) (fs:=g5) (bg:=bg) hv hfl (by omega) hop (List.range f.ie) (log++(List.range' ai.length f.opens).map kg) _ A6
   rw [if_pos (by rw [hfl];exact h0),e]
   exact ⟨_,by rw [List.length_range];omega,q⟩
  ·have e:fX f=[]:=if_neg h0
   rw [if_neg (by rw [hfl];exact h0),e,List.append_nil]
   exact ⟨0,by omega,Seg.refl⟩
 obtain ⟨k5,hk5,a5⟩:=a5
 have A6:=A5.r
 have a6:=tD (most:=most) (p:=p) (fl:=fl++List.range' ai.length f.opens) (bk:=bk) (fs:=g5) (ai:=ai++List.replicate f.opens true) (log:=log++(List.range' ai.length f.opens).map kg++(if 0<(fl++List.range' ai.length f.opens).length then ig f (fl++List.range' ai.length f.opens) else [])) (bg:=bg) A6.hd hv
 exact ⟨_,_,by rw [List.length_range];omega,A6.tl,bv,hop,((((a1.trans a2).trans a3).trans a4).trans a5).trans a6⟩
theorem pM {o:Nat} (hz:f.opens<=1) (hA:At rs L (List.replicate f.opens .rA++[.back])) (hl:o+f.opens<=ai.length):∃ n cM ,n<=2/\Seg rs most (st p kn (fl++List.range' o f.opens) bk g5 ai log bg L) ⟨p,g5,cM,log++(List.range' o f.opens).reverse.map l9,bg,bk⟩ n/\cM.length=ai.length/\∀ i,i<o->cM[i]? = ai[i]?:=by
 have A1:=hA.l
 have e:((List.range' o f.opens).reverse).length=f.opens:=by simp
 have A1':At rs L (List.replicate ((List.range' o f.opens).reverse).length .rA):=by rw [e];exact A1
 obtain ⟨cM,a1,l1,q⟩:=tV (rs:=rs) (most:=most) (p:=p) (kn:=kn) (fl:=fl) (bk:=bk) (fs:=g5) (bg:=bg) (List.range' o f.opens).reverse ai log L A1' (fun n hn=>by
  have:=List.mem_range'_1.mp (List.mem_reverse.mp hn);omega)
 rw [List.reverse_reverse,e] at a1
 have A2:=hA.r
 rw [List.length_replicate] at A2
 have a2:=EI (most:=most) (p:=p) (kn:=kn) (fl:=fl) (bk:=bk) (fs:=g5) (ai:=cM) (log:=log++(List.range' o f.opens).reverse.map l9) (bg:=bg) A2.hd
 exact ⟨_,cM,by omega,a1.trans a2,l1,fun i hi=>q i fun z=>by have:=List.mem_range'_1.mp (List.mem_reverse.mp z);omega⟩
theorem DS {B k:Nat}:B*20 ^ (k+1)=B*20*20 ^ k:=by rw [Nat.pow_succ,Nat.mul_comm (20 ^ k) 20,<- Nat.mul_assoc]
theorem ye {B k:Nat}:B<=B*20 ^ k:=Nat.le_mul_of_pos_right _ (Nat.pow_pos (by decide))
theorem xV:∀ (fs:List Fc) (b:Nat) (held:List Int) (fl:List Nat) (p:List D) (bk:D) (g5:List Fm) (ai:List Bool) (log:List D) (bg:Int) (B:Nat),
  Wf fs held.length fl.length->(∀ f∈fs,Sz f)->Lay rs fs b->(∀ n∈fl,ai[n]? = some true)->(∀ x∈held,x.natAbs<=B)->1000<=B->B*20 ^ fs.length<=10 ^ 28->g5.length+fs.length<=12->bg+(fs.length:Int)<=most+1 ->
  ∃ n cM,n<=60*fs.length/\Seg rs most (st p (di held) fl bk g5 ai log bg b) ⟨p++[.int (aJ fs held fl ai.length).1],g5,cM,log++(aJ fs held fl ai.length).2.2,bg+((fs.length:Int)-1),bk⟩ n /\
   cM.length=(aJ fs held fl ai.length).2.1/\ai.length<=cM.length/\(∀ i,i<ai.length->cM[i]? = ai[i]?)/\(aJ fs held fl ai.length).1.natAbs<=fs.length*(B*20 ^ fs.length):=by
 intro fs
 induction fs with
 | nil=>intro b held fl p bk g5 ai log bg B hw;cases hw
 | cons f rest ih =>
  intro b held fl p bk g5 ai log bg B hw hs hL hf hB h1 hP hd hc
  rw [List.length_cons,DS] at hP
  have Mr:B*20<=10 ^ 28:=Nat.le_trans ye hP
  have hsz:=hs f List.mem_cons_self
  have z2:=hsz.2.1
  cases hw with
  | last w1 w2 w3 =>
   cases hL with
   | last hA =>
    rename_i to
    obtain ⟨n1,L',hn1,A',bv,hop,s1⟩:=tW (most:=most) (p:=p) (bk:=bk) (g5:=g5) (log:=log) (bg:=bg) w2 w3 hsz hf hB h1 (Nat.le_trans Mr (by decide +kernel)) hA
    have e:dz f to=[]:=by unfold dz;rw [w1];rfl
    rw [e,List.nil_append] at A'
    obtain ⟨n2,cM,hn2,s2,l2,q2⟩:=pM (most:=most) (p:=p++[.int (eY f.more held)]) (kn:=di held++[.int (eY f.more held)]) (fl:=fl) (bk:=bk) (g5:=g5) (ai:=ai++List.replicate f.opens true) (log:=log++(List.range' ai.length f.opens).map kg++(if 0<(fl++List.range' ai.length f.opens).length then ig f (fl++List.range' ai.length f.opens) else [])) (bg:=bg) (o:=ai.length) z2 A' (by simp)
    have ed:aJ [f] held fl ai.length=(eY f.more held+0,ai.length+f.opens,(List.range' ai.length f.opens).map kg++(if 0<(fl++List.range' ai.length f.opens).length then ig f (fl++List.range' ai.length f.opens) else [])++[]++(List.range' ai.length f.opens).reverse.map l9):=by
     simp only [aJ,w1,if_true]
    rw [ed]
    refine ⟨n1+n2,cM,by simp;omega,(s1.trans s2).to ?_ rfl,by rw [l2];simp,by rw [l2];simp,fun i hi=>?_,?_⟩
    ·simp only [Int.add_zero,List.append_nil,List.append_assoc,List.length_cons,List.length_nil]
     congr 1
     omega
    ·rw [q2 i hi,List.getElem?_append_left hi]
    ·simp only [Int.add_zero,List.length_cons,List.length_nil,Nat.zero_add,Nat.one_mul,Nat.pow_one];exact bv
  | cons w1 w2 w3 w4 w5 w6 =>
   rename_i g fs
   cases hL with
   | cons hA hL' =>
    rename_i b'
    obtain ⟨n1,L',hn1,A',bv,hop,s1⟩:=tW (most:=most) (p:=p) (bk:=bk) (g5:=g5) (log:=log) (bg:=bg) w2 w3 hsz hf hB h1 (Nat.le_trans Mr (by decide +kernel)) hA
    have e:dz f b'=f.args.map .loc++[.call (b':Int) f.args.length f.handed,.rk .plus]:=by unfold dz;rw [w1];rfl
    rw [e,List.append_assoc] at A'
    have hfl:(fl++List.range' ai.length f.opens).length=f.outer+f.opens:=by rw [List.length_append,List.length_range',w3]
    generalize hv:eY f.more held=v at s1 bv
    generalize hl1:log++(List.range' ai.length f.opens).map kg++(if 0<(fl++List.range' ai.length f.opens).length then ig f (fl++List.range' ai.length f.opens) else [])=fW at s1
    have hga:∀ a,a<=f.many->(di held++[D.int v])[a]? = some (.int ((held++[v]).getD a 0)):=fun a ha=>by
     rw [show di held++[D.int v]=di (held++[v]) by simp [di]]
     exact oM (by rw [List.length_append];simp;omega)
    have a2:=pN (rs:=rs) (most:=most) (kn:=di held++[.int v]) (fl:=fl++List.range' ai.length f.opens) (bk:=bk) (fs:=g5) (ai:=ai++List.replicate f.opens true) (log:=fW) (bg:=bg) f.args (di (f.args.map fun a=>(held++[v]).getD a 0)) (p++[.int v]) L' A'.l (by
     rw [di,List.map_map,List.map_map]
     apply List.map_congr_left
     intro a ha
     exact hga a (w4 a ha))
    have A3:=A'.r
    rw [List.length_map,List.cons_append] at A3
    have a3:=EH (rs:=rs) (most:=most) (p:=p++[.int v]) (q:=di (f.args.map fun a=>(held++[v]).getD a 0)) (kn:=di held++[.int v]) (fl:=fl++List.range' ai.length f.opens) (bk:=bk) (fs:=g5) (ai:=ai++List.replicate f.opens true) (log:=fW) (bg:=bg) (to:=b') (is:=f.handed) (L:=L'+f.args.length) (by rw [List.length_map,List.length_map];exact A3.hd) (by have:=hsz.2.2.2.2;omega) (by simp at hc;omega) (by simp at hd;omega) (fun i hi=>by rw [hfl];exact w5 i hi)
    have hbd:∀ x∈f.args.map (fun a=>(held++[v]).getD a 0),x.natAbs<=B*20:=fun x hx=>by
     obtain ⟨a,_,rfl⟩:=List.mem_map.mp hx
     refine uP (held:=held++[v]) (fun y hy=>?_) a
     rcases List.mem_append.mp hy with hy | hy
     ·exact Nat.le_trans (hB y hy) (by omega)
     ·rw [List.mem_singleton.mp hy];exact bv
    have hfl2:∀ n∈f.handed.map (fun i=>(fl++List.range' ai.length f.opens).getD i 0),(ai++List.replicate f.opens true)[n]? = some true:=fun n hn=>by
     obtain ⟨i,hi,rfl⟩:=List.mem_map.mp hn
     have hlt:i<(fl++List.range' ai.length f.opens).length:=by rw [hfl];exact w5 i hi
     refine hop _ ?_
     rw [List.getD_eq_getElem?_getD,List.getElem?_eq_getElem hlt]
     exact List.getElem_mem hlt
    obtain ⟨n4,J4,hn4,s4,l4,m4,q4,b4⟩:=ih b' (f.args.map fun a=>(held++[v]).getD a 0) (f.handed.map fun i=>(fl++List.range' ai.length f.opens).getD i 0) (p++[.int v]) (.int ((L'+f.args.length+1:Nat):Int)) (⟨di held++[.int v],fl++List.range' ai.length f.opens,bk⟩::g5) (ai++List.replicate f.opens true) fW (bg+1) (B*20)
     (by rw [List.length_map,List.length_map];exact w6) (fun g hg=>hs g (List.mem_cons_of_mem _ hg)) hL' hfl2 hbd (by omega) hP (by simp at hd ⊢;omega) (by simp at hc ⊢;omega)
    have ho1:(ai++List.replicate f.opens true).length=ai.length+f.opens:=by simp
    rw [ho1] at s4 l4 m4 q4 b4
    have ed:aJ (f::g::fs) held fl ai.length=(v+(aJ (g::fs) (f.args.map fun a=>(held++[v]).getD a 0) (f.handed.map fun i=>(fl++List.range' ai.length f.opens).getD i 0) (ai.length+f.opens)).1,(aJ (g::fs) (f.args.map fun a=>(held++[v]).getD a 0) (f.handed.map fun i=>(fl++List.range' ai.length f.opens).getD i 0) (ai.length+f.opens)).2.1,(List.range' ai.length f.opens).map kg++(if 0<(fl++List.range' ai.length f.opens).length then ig f (fl++List.range' ai.length f.opens) else [])++(aJ (g::fs) (f.args.map fun a=>(held++[v]).getD a 0) (f.handed.map fun i=>(fl++List.range' ai.length f.opens).getD i 0) (ai.length+f.opens)).2.2++(List.range' ai.length f.opens).reverse.map l9):=by
     rw [aJ.eq_2]
     simp only [w1,hv]
     rfl
    rw [ed]
    generalize aJ (g::fs) (f.args.map fun a=>(held++[v]).getD a 0) (f.handed.map fun i=>(fl++List.range' ai.length f.opens).getD i 0) (ai.length+f.opens)=dn at s4 l4 b4
    have hPm:(g::fs).length*(B*20*20 ^ (g::fs).length)<=12*10 ^ 28:=Nat.mul_le_mul (by simp at hd ⊢;omega) hP
    have bg1:dn.1.natAbs<=12*10 ^ 28:=Nat.le_trans b4 hPm
    have a5:=IX (rs:=rs) (most:=most) (p:=p) (kn:=di held++[.int v]) (fl:=fl++List.range' ai.length f.opens) (bk:=bk) (fs:=g5) (ai:=J4) (log:=fW++dn.2.2) (bg:=bg+1+(((g::fs).length:Int)-1)) (L:=L'+f.args.length+1) (o:=.plus) (a:=v) (b:=dn.1) A3.tl.hd (ki bv (Nat.le_trans Mr (by decide +kernel))) (ki bg1 (by decide +kernel)) (by
     unfold BC
     rw [nc (P:=13*10 ^ 28) (x:=kc .plus v dn.1) ?_ (by decide +kernel),Bool.and_false]
     have:(v+dn.1).natAbs<=v.natAbs+dn.1.natAbs:=Int.natAbs_add_le ..
     exact Nat.le_trans this (Nat.le_trans (Nat.add_le_add (Nat.le_trans bv Mr) bg1) (by decide +kernel)))
    have A6:At rs (L'+f.args.length+1+1) (List.replicate f.opens .rA++[.back]):=A3.tl.tl
    obtain ⟨n6,opn6,hn6,s6,l6,q6⟩:=pM (most:=most) (p:=p++[.int (v+dn.1)]) (kn:=di held++[.int v]) (fl:=fl) (bk:=bk) (g5:=g5) (ai:=J4) (log:=fW++dn.2.2) (bg:=bg+1+(((g::fs).length:Int)-1)) (o:=ai.length) z2 A6 m4
    have hal:=hsz.2.2.2.1
    refine ⟨n1+f.args.length+1+n4+1+n6,opn6,by simp at hn4 ⊢;omega,(((((s1.trans a2).trans a3).trans s4).trans a5).trans s6).to ?_ rfl,by rw [l6,l4],by rw [l6];omega,fun i hi=>?_,?_⟩
    ·rw [<- hl1]
     simp only [List.append_assoc,List.length_cons]
     congr 1
     omega
    ·rw [q6 i hi,q4 i (by omega),List.getElem?_append_left hi]
    ·have h1:(v+dn.1).natAbs<=v.natAbs+dn.1.natAbs:=Int.natAbs_add_le ..
     have h2:B*20<=B*20*20 ^ (g::fs).length:=ye
     rw [List.length_cons (a:=f),DS,Nat.succ_mul]
     exact Nat.le_trans h1 (by rw [Nat.add_comm];exact Nat.add_le_add b4 (Nat.le_trans bv h2))
end
end bA
end
section
namespace bA
open Fg PySem
theorem fn22:ah.fn 22=some jE:=rfl
theorem KW:ah.fn 23=some g7:=rfl
theorem fn24:ah.fn 24=some lI:=rfl
theorem fn25:ah.fn 25=some fO:=rfl
theorem fn26:ah.fn 26=some gw:=rfl
theorem fn27:ah.fn 27=some nh:=rfl
theorem fn28:ah.fn 28=some lJ:=rfl
theorem fn29:ah.fn 29=some lM:=rfl
theorem fn30:ah.fn 30=some lK:=rfl
theorem fn31:ah.fn 31=some Ec:=rfl
noncomputable def mixed (c:Int):Int:=(c % 2147483647+11)*48271*69621 % 2147483629
theorem qd (c:Int):0<=mixed c/\mixed c<2147483629:=by unfold mixed;omega
noncomputable def jS (c:Int):Nat:=(mixed c).toNat
theorem Cg (c:Int):mixed c=(jS c:Int):=(Int.toNat_of_nonneg (qd c).1).symm
section
variable {M M1 M2:MH} {k:Nat} {Φ:aS} {Z:Sg} {e e':E}
theorem oX {c:Int}:(aa ah (k+1)).call 22 [.int c] M=.ok (.int (jS c:Int)) M:=by
 have e:ev (aa ah k) (.op .mod true (.op .mul true (.op .mul true (.op .add true (.op .mod true (.v 0) (.k (.int 2147483647))) (.k (.int 11))) (.k (.int 48271))) (.k (.int 69621))) (.k (.int 2147483629))) [some (.int c)] M=.ok (.int (mixed c)) M:=by
  simp [qa,fV,small,mixed]
 rw [<- Cg]
 exact b6 fn22 rfl (ck e) (aC rfl rfl)
noncomputable def cellAt (ns:List Int) (i:Nat):Nat:=match ns[i]? with
 | some x=>jS x
 | none=>jS i
theorem Lj {a b:Int} {fz:Bool} (he:ev Φ e Z M=.ok (.int a) M1) (hx:ev Φ e' Z M1=.ok (.int b) M2) (hb:0<b):ev Φ (.op .mod fz e e') Z M=.ok (.int (a % b)) M2:=by
 rw [eL,he,R.af,hx,R.af]
 simp only [qa,fV,decide_eq_true hb,if_true]
theorem Lk {a b:Int} {fz:Bool} (he:ev Φ e Z M=.ok (.int a) M1) (hx:ev Φ e' Z M1=.ok (.int b) M2) (hb:0<b) (hs:b.natAbs<1073741824):ev Φ (.op .fdiv fz e e') Z M=.ok (.int (a / b)) M2:=by
 rw [eL,he,R.af,hx,R.af]
 simp only [qa,fV,decide_eq_true hb,decide_eq_true hs,Bool.and_self,if_true]
theorem bu {a b:Nat} {fz:Bool} (he:ev Φ e Z M=.ok (.int (a:Int)) M1) (hx:ev Φ e' Z M1=.ok (.int (b:Int)) M2) (hb:0<b):ev Φ (.op .mod fz e e') Z M=.ok (.int ((a % b:Nat):Int)) M2:=by
 rw [Lj he hx (by omega),Int.natCast_emod]
theorem dQ {a b:Nat} {fz:Bool} (he:ev Φ e Z M=.ok (.int (a:Int)) M1) (hx:ev Φ e' Z M1=.ok (.int (b:Int)) M2) (hb:0<b) (hs:b<1073741824):ev Φ (.op .fdiv fz e e') Z M=.ok (.int ((a / b:Nat):Int)) M2:=by
 rw [Lk he hx (by omega) (by omega),Int.natCast_ediv]
theorem aU {a b:Nat} {fz:Bool} (he:ev Φ e Z M=.ok (.int (a:Int)) M1) (hx:ev Φ e' Z M1=.ok (.int (b:Int)) M2):ev Φ (.op .add fz e e') Z M=.ok (.int ((a+b:Nat):Int)) M2:=by
 rw [jI he hx];rfl
theorem uZ {a b:Nat} (he:ev Φ e Z M=.ok (.int (a:Int)) M1) (hx:ev Φ e' Z M1=.ok (.int (b:Int)) M2):ev Φ (.cmp .eq e e') Z M=.ok (.bl (decide (a=b))) M2:=by
 rw [gB,he,R.af,hx,R.af]
 have:decide ((a:Int)=(b:Int))=decide (a=b):=by
  by_cases h:a=b
  ·simp [h]
  ·rw [decide_eq_false h,decide_eq_false (by omega)]
 simp only [bG,Aq,Lc,top,bE,Fg.plain,dep,Bool.and_self,Nat.zero_le,decide_true,Bool.or_self,if_true,qE,this]
theorem z7 {a b:Nat} (he:ev Φ e Z M=.ok (.int (a:Int)) M1) (hx:ev Φ e' Z M1=.ok (.int (b:Int)) M2):ev Φ (.cmp .gt e e') Z M=.ok (.bl (decide (b<a))) M2:=by
 refine HL he hx ?_
 by_cases h:b<a
 ·rw [decide_eq_true h,decide_eq_true (by omega)]
 ·rw [decide_eq_false h,decide_eq_false (by omega)]
theorem z6 {x:Bool} (h:ev Φ e Z M=.ok (.bl x) M):ev Φ (.ng .int e) Z M=.ok (.int ((if x then 1 else 0:Nat):Int)) M:=by
 rw [sr,h,R.af];cases x <;> rfl
theorem zZ {x:Nat} {fz:Bool} (hx:ev Φ e Z M=.ok (.int (x:Int)) M):ev Φ (.op .mul fz (.k (.int 6)) e) Z M=.ok (.int ((6*x:Nat):Int)) M:=by
 rw [eL,oG,R.af,hx,R.af]
 have:small 6=true:=by decide +kernel
 simp only [qa,fV,this,Bool.true_or,if_true];rfl
theorem Am {ns:List Int} {i:Nat}:(aa ah (k+2)).call 23 [.lst (di ns),.int i] M=.ok (.int (cellAt ns i:Int)) M:=by
 have e0:ev (aa ah (k+1)) (.blt .len true (.cons (.v 0) .nil)) [some (.lst (di ns)),some (.int i)] M=.ok (.int (ns.length:Int)) M:=by
  simp [oH,wO,vw,di]
 have e1:ev (aa ah (k+1)) (.cmp .lt (.v 1) (.blt .len true (.cons (.v 0) .nil))) [some (.lst (di ns)),some (.int i)] M=.ok (.bl (decide ((i:Int)<ns.length))) M:=e_lt rfl e0 rfl
 by_cases hi:i<ns.length
 ·have hi':(i:Int)<ns.length:=by omega
  rw [decide_eq_true hi'] at e1
  have eg:ns[i]? = some ns[i]:=List.getElem?_eq_getElem hi
  have e2:ev (aa ah (k+1)) (.idx (.v 0) (.v 1)) [some (.lst (di ns)),some (.int i)] M=.ok (.int ns[i]) M:=fR (xs:=di ns) rfl rfl (dG (by rw [List.getElem?_map,eg];rfl))
  have ec:cellAt ns i=jS ns[i]:=by unfold cellAt;rw [eg]
  rw [ec]
  exact b6 KW rfl (ua e1 (ck ((iW e2).trans oX))) (aC rfl rfl)
 ·have hi':¬ (i:Int)<ns.length:=by omega
  rw [decide_eq_false hi'] at e1
  have ec:cellAt ns i=jS i:=by unfold cellAt;rw [List.getElem?_eq_none (by omega)]
  rw [ec]
  exact b6 KW rfl ((cV e1).trans (ck ((iW (e_v rfl)).trans oX))) (aC rfl rfl)
theorem ja {n:Nat}:cW 0 (n:Int)=nats (List.range n):=by simp [cW,nats]
theorem cH {n:Nat} (he:ev Φ e Z M=.ok (.int (n:Int)) M1) (hn:n<=1000000):bZ Φ (.cR e) Z M=.ok (.aq,nats (List.range n),false) M1:=by
 rw [<- ja];exact zW he hn
theorem iO {elt:E} {f:Nat->D} {i:Nat} {ch:MH->Bool} (hc:ch M=true):∀ (ks:List Nat) (Z:Sg) (acc:List D),(∀ j∈ks,ev Φ elt (Z.set i (some (.int (j:Int)))) M=.ok (f j) M)->acc.length+ks.length<=1000->bh (mE Φ .none) (ev Φ elt) [i] ch (nats ks) Z M acc=.ok (acc++ks.map f) M
 | [],Z,acc,_,_=>by simp [bh,nats]
 | j::ks,Z,acc,h,hl=>by
  simp only [List.length_cons] at hl
  rw [show nats (j::ks)=.int (j:Int)::nats ks from rfl,ly (h j List.mem_cons_self) hc (Nat.lt_of_lt_of_le (by omega) (by decide:1001<=line)),iO hc ks _ (acc++[f j]) (fun a ha=>by rw [List.set_set];exact h a (List.mem_cons_of_mem _ ha)) (by simp;omega)]
  simp
noncomputable def wu (n width:Nat):List Nat:=if 0<width then (List.range (6*(if n / 7 % 8=3 then 1 else 0)+n / 2 % 4)).map fun k=>n / (5+k) % width else []
noncomputable def En (n many:Nat):List Nat:=(List.range (1+6*(if n / 7 % 8=3 then 1 else 0)+n / 8 % 3)).map fun k=>n / (11+k) % (many+1)
noncomputable def lH (n many outer:Nat) (last:Bool):Fc:=⟨many,outer,n % 2,wu n (outer+n % 2),En n many,n / 24 % 4,n / 96,last⟩
noncomputable def Fc.tl (f:Fc):D:=.tup [.int (f.opens:Int),.lst (nats f.handed),.lst (nats f.args),.int (f.ie:Int),.int (f.more:Int),.bl f.last]
noncomputable def Fc.d (f:Fc):D:=.tup [.int (f.many:Int),.int (f.outer:Int),.int (f.opens:Int),.lst (nats f.handed),.lst (nats f.args),.int (f.ie:Int),.int (f.more:Int),.bl f.last]
theorem nS {m:Nat} {ns:List Nat}:iN m (nats ns)=true:=by
 induction ns with
 | nil=>simp [nats,iN]
 | cons n ns ih=>simp only [nats,List.map_cons,iN,nr,Bool.true_and];exact ih
theorem HU {n many outer:Nat} {last:Bool} (hn:n<2147483648) (h1:many<=1000) (h2:outer<=1000):(aa ah (k+1)).call 24 [.int (n:Int),.int (many:Int),.int (outer:Int),.bl last] M=.ok (lH n many outer last).tl M:=by
 let Z0:Sg:=[some (.int (n:Int)),some (.int (many:Int)),some (.int (outer:Int)),some (.bl last)]
 have e1:ev (aa ah k) (.op .mod true (.v 0) (.k (.int 2))) (Z0++[none,none,none,none,none]) M=.ok (.int ((n % 2:Nat):Int)) M:=bu (b:=2) rfl rfl (by decide)
 have e2:ev (aa ah k) (.op .add true (.v 2) (.v 4)) (Z0++[some (.int ((n % 2:Nat):Int)),none,none,none,none]) M=.ok (.int ((outer+n % 2:Nat):Int)) M:=aU rfl rfl
 have e3:ev (aa ah k) (.op .mul true (.k (.int 6)) (.ng .int (.cmp .eq (.op .mod true (.op .fdiv true (.v 0) (.k (.int 7))) (.k (.int 8))) (.k (.int 3))))) (Z0++[some (.int ((n % 2:Nat):Int)),some (.int ((outer+n % 2:Nat):Int)),none,none,none]) M=.ok (.int ((6*(if n / 7 % 8=3 then 1 else 0):Nat):Int)) M:=by
  have q:=zZ (fz:=true) (z6 (uZ (b:=3) (e':=.k (.int 3)) (bu (fz:=true) (b:=8) (e':=.k (.int 8)) (dQ (fz:=true) (b:=7) (e':=.k (.int 7)) (e:=.v 0) (Φ:=aa ah k) (Z:=Z0++[some (.int ((n % 2:Nat):Int)),some (.int ((outer+n % 2:Nat):Int)),none,none,none]) (M:=M) (a:=n) rfl rfl (by decide) (by decide)) rfl (by decide)) rfl))
  simpa using q
 have hmo:6*(if n / 7 % 8=3 then 1 else 0)<=6:=by split <;> omega
 generalize hw:outer+n % 2=wd at e2 e3
 generalize hm:6*(if n / 7 % 8=3 then 1 else 0)=mo at e3 hmo
 have e4:ev (aa ah k) (.w9 (.cmp .gt (.v 5) (.k (.int 0))) (.comp true [5,0] [2] (.op .mod true (.op .fdiv true (.v 1) (.op .add true (.k (.int 5)) (.v 2))) (.v 0)) (.cR (.op .add true (.v 6) (.op .mod true (.op .fdiv true (.v 0) (.k (.int 2))) (.k (.int 4))))) .none) (.lst true .nil)) (Z0++[some (.int ((n % 2:Nat):Int)),some (.int (wd:Int)),some (.int (mo:Int)),none,none]) M=.ok (.lst (nats (wu n wd))) M:=by
  have c1:ev (aa ah k) (.cmp .gt (.v 5) (.k (.int 0))) (Z0++[some (.int ((n % 2:Nat):Int)),some (.int (wd:Int)),some (.int (mo:Int)),none,none]) M=.ok (.bl (decide (0<wd))) M:=z7 (b:=0) rfl rfl
  rw [zS,c1,R.af]
  by_cases h0:0<wd
  ·rw [decide_eq_true h0]
   have ei:=cH (Φ:=aa ah k) (Z:=Z0++[some (.int ((n % 2:Nat):Int)),some (.int (wd:Int)),some (.int (mo:Int)),none,none]) (M:=M) (M1:=M) (e:=.op .add true (.v 6) (.op .mod true (.op .fdiv true (.v 0) (.k (.int 2))) (.k (.int 4)))) (n:=mo+n / 2 % 4) (aU rfl (bu (b:=4) (dQ (b:=2) rfl rfl (by decide) (by decide)) rfl (by decide))) (by omega)
   refine (cO ei (iO (f:=fun j=>.int ((n / (5+j) % wd:Nat):Int)) rfl _ _ [] (fun j hj=>?_) (by simp;omega))).trans ?_
   ·have hj':=List.mem_range.mp hj
    exact bu (dQ rfl (aU (a:=5) rfl rfl) (by omega) (by omega)) rfl h0
   ·unfold wu;rw [if_pos h0,hm,List.nil_append,nats,List.map_map];rfl
  ·rw [decide_eq_false h0]
   unfold wu;rw [if_neg h0];rfl
 have e5:ev (aa ah k) (.comp true [0,1] [2] (.op .mod true (.op .fdiv true (.v 0) (.op .add true (.k (.int 11)) (.v 2))) (.op .add true (.v 1) (.k (.int 1)))) (.cR (.op .add true (.op .add true (.k (.int 1)) (.v 6)) (.op .mod true (.op .fdiv true (.v 0) (.k (.int 8))) (.k (.int 3))))) .none) (Z0++[some (.int ((n % 2:Nat):Int)),some (.int (wd:Int)),some (.int (mo:Int)),some (.lst (nats (wu n wd))),none]) M=.ok (.lst (nats (En n many))) M:=by
  have ei:=cH (Φ:=aa ah k) (Z:=Z0++[some (.int ((n % 2:Nat):Int)),some (.int (wd:Int)),some (.int (mo:Int)),some (.lst (nats (wu n wd))),none]) (M:=M) (M1:=M) (e:=.op .add true (.op .add true (.k (.int 1)) (.v 6)) (.op .mod true (.op .fdiv true (.v 0) (.k (.int 8))) (.k (.int 3)))) (n:=1+mo+n / 8 % 3) (aU (aU (a:=1) rfl rfl) (bu (b:=3) (dQ (b:=8) rfl rfl (by decide) (by decide)) rfl (by decide))) (by omega)
  refine (cO ei (iO (f:=fun j=>.int ((n / (11+j) % (many+1):Nat):Int)) rfl _ _ [] (fun j hj=>?_) (by simp;omega))).trans ?_
  ·have hj':=List.mem_range.mp hj
   exact bu (dQ rfl (aU (a:=11) rfl rfl) (by omega) (by omega)) (aU (b:=1) rfl rfl) (by omega)
  ·unfold En;rw [hm,List.nil_append,nats,List.map_map];rfl
 have e6:ev (aa ah k) (.op .mod true (.op .fdiv true (.v 0) (.k (.int 24))) (.k (.int 4))) (Z0++[some (.int ((n % 2:Nat):Int)),some (.int (wd:Int)),some (.int (mo:Int)),some (.lst (nats (wu n wd))),some (.lst (nats (En n many)))]) M=.ok (.int ((n / 24 % 4:Nat):Int)) M:=bu (b:=4) (dQ (b:=24) rfl rfl (by decide) (by decide)) rfl (by decide)
 have e7:ev (aa ah k) (.op .fdiv true (.v 0) (.k (.int 96))) (Z0++[some (.int ((n % 2:Nat):Int)),some (.int (wd:Int)),some (.int (mo:Int)),some (.lst (nats (wu n wd))),some (.lst (nats (En n many)))]) M=.ok (.int ((n / 96:Nat):Int)) M:=dQ (b:=96) rfl rfl (by decide) (by decide)
 have e8:ev (aa ah k) (.tup (.cons (.v 4) (.cons (.v 7) (.cons (.v 8) (.cons (.op .mod true (.op .fdiv true (.v 0) (.k (.int 24))) (.k (.int 4))) (.cons (.op .fdiv true (.v 0) (.k (.int 96))) (.cons (.v 3) .nil))))))) (Z0++[some (.int ((n % 2:Nat):Int)),some (.int (wd:Int)),some (.int (mo:Int)),some (.lst (nats (wu n wd))),some (.lst (nats (En n many)))]) M=.ok (lH n many outer last).tl M:=by
  simp only [bL,az,aP,e6,e7,R.af]
  unfold lH
  rw [hw]
  rfl
 refine b6 fn24 rfl ((av e1).trans ((av e2).trans ((av e3).trans ((av e4).trans ((av e5).trans (ck e8)))))) (aC ?_ rfl)
 simp [Fc.tl,nr,iN,nS]
end
end bA
end
section
namespace bA
open Fg PySem
noncomputable def gu:List Nat->Nat->Nat->List Fc
 | [],_,_=>[]
 | s::ss,many,outer=>lH s many outer ss.isEmpty::gu ss (lH s many outer ss.isEmpty).args.length (lH s many outer ss.isEmpty).handed.length
theorem uO {n wd:Nat}:(wu n wd).length<=9:=by
 unfold wu
 split
 ·simp only [List.length_map,List.length_range];split <;> omega
 ·simp
theorem oZ {n many:Nat}:(En n many).length<=9:=by
 unfold En
 simp only [List.length_map,List.length_range];split <;> omega
section
variable {M M1 M2:MH} {k:Nat} {Φ:aS} {Z:Sg} {e e':E}
theorem CZ {f:Nat} {a b c d:E} {x y z u:D} (h1:ev Φ a Z M=.ok x M) (h2:ev Φ b Z M=.ok y M) (h3:ev Φ c Z M=.ok z M) (h4:ev Φ d Z M=.ok u M):ev Φ (.call f (.cons a (.cons b (.cons c (.cons d .nil))))) Z M=Φ.call f [x,y,z,u] M:=by
 simp only [bC,az,aP,h1,h2,h3,h4,R.af]
theorem lR {ds:List D} (he:ev Φ e Z M=.ok (.lst ds) M):ev Φ (.blt .len true (.cons e .nil)) Z M=.ok (.int (ds.length:Int)) M:=by
 rw [oH,wD he,R.af];rfl
theorem gC {ns:List Nat} (he:ev Φ e Z M=.ok (.lst (nats ns)) M):ev Φ (.blt .len true (.cons e .nil)) Z M=.ok (.int (ns.length:Int)) M:=by
 rw [lR he,nats,List.length_map]
theorem zX {n:Nat} {fz:Bool} (he:ev Φ e Z M=.ok (.int (n:Int)) M) (hn:0<n):ev Φ (.op .sub fz e (.k (.int 1))) Z M=.ok (.int ((n-1:Nat):Int)) M:=by
 rw [lQ he rfl]
 congr 2
 omega
theorem d_nr {m:Nat} {f:Fc}:nr m f.d=true:=by simp [Fc.d,nr,iN,nS]
theorem Ej {m:Nat}:∀ {fs:List Fc},iN m (fs.map Fc.d)=true
 | []=>by simp [iN]
 | f::fs=>by simp only [List.map_cons,iN,d_nr,Bool.true_and];exact Ej
theorem rw_nr {m:Nat} {r:Rw}:nr m r.d=true:=by
 cases r <;> simp [Rw.d,nr,iN]
 exact nS
theorem rC {m:Nat}:∀ {rs:List Rw},iN m (rs.map Rw.d)=true
 | []=>by simp [iN]
 | r::rs=>by simp only [List.map_cons,iN,rw_nr,Bool.true_and];exact rC
theorem kQ {ds:List D} (hn:iN M.length ds=true):dZ false M (.ref M.length) (M++[.lst ds])=.ok (.lst ds) M:=by
 have g:(M++[MO.lst ds])[M.length]? = some (.lst ds):=by simp
 unfold dZ
 rw [if_pos ⟨rfl,by simp⟩,if_neg (by simp [nr])]
 simp only [g,hn,if_true]
theorem kE {acc:List D} {d:D} {i:Nat} (hi:Z[i]? = some (some (.ref M.length))) (he:ev Φ e Z (M++[.lst acc])=.ok d (M++[.lst acc])) (hl:acc.length<100000):ev Φ (.aW .append true (.v i) (.cons e .nil)) Z (M++[.lst acc])=.ok .aq (M++[.lst (acc++[d])]):=by
 have g:(M++[MO.lst acc])[M.length]? = some (.lst acc):=by simp
 rw [lS (e_v hi) g he g (Nat.lt_of_lt_of_le hl (by decide))]
 congr 1
 simp [List.set_append_right]
noncomputable def fnB:Ss:=.cons (.set 5 (.call 24 (.cons (.idx (.v 0) (.v 4)) (.cons (.v 1) (.cons (.v 2) (.cons (.cmp .eq (.v 4) (.op .sub true (.blt .len true (.cons (.v 0) .nil)) (.k (.int 1)))) .nil)))))) (.cons (.ex (.aW .append true (.v 3) (.cons (.op .add true (.tup (.cons (.v 1) (.cons (.v 2) .nil))) (.v 5)) .nil))) (.cons (.set 1 (.blt .len true (.cons (.idx (.v 5) (.k (.int 2))) .nil))) (.cons (.set 2 (.blt .len true (.cons (.idx (.v 5) (.k (.int 1))) .nil))) .nil)))
theorem tl_d {f:Fc}:ev Φ e Z M=.ok (.tup [.int (f.many:Int),.int (f.outer:Int)]) M->ev Φ e' Z M=.ok f.tl M->ev Φ (.op .add true e e') Z M=.ok f.d M:=fun h h'=>by
 rw [eL,h,R.af,h',R.af]
 simp only [Fc.tl,qa,vw]
 rfl
theorem uQ {ss:List Nat} {ch:MH->Bool} (hch:∀ M,ch M=true) (hb:∀ s∈ss,s<2147483648) (hs:ss.length<=1000):∀ (rest pre:List Nat) (many outer:Nat) (acc:List D) (a b:Option D),ss=pre++rest->many<=1000->outer<=1000->acc.length+rest.length<=1000 ->
  ∃ x y a' b',aG (exs (aa ah (k+1)) fnB) [4] ch (nats (List.range' pre.length rest.length)) [some (.lst (nats ss)),some (.int (many:Int)),some (.int (outer:Int)),some (.ref M.length),a,b] (M++[.lst acc])=.ok (.nx [some (.lst (nats ss)),x,y,some (.ref M.length),a',b']) (M++[.lst (acc++(gu rest many outer).map Fc.d)])
 | [],pre,many,outer,acc,a,b,_,_,_,_=>⟨some (.int (many:Int)),some (.int (outer:Int)),a,b,by simp [aG,nats,gu]⟩
 | s::rest,pre,many,outer,acc,a,b,he,h1,h2,hl=>by
  have hlen:ss.length=pre.length+(rest.length+1):=by rw [he];simp
  have hg:ss[pre.length]? = some s:=by rw [he];simp
  have hsb:s<2147483648:=hb s (by rw [he];simp)
  have el:decide (pre.length=ss.length-1)=rest.isEmpty:=by
   cases rest with
   | nil=>exact decide_eq_true (by simp at hlen;omega)
   | cons _ _=>exact decide_eq_false (by simp at hlen;omega)
  generalize hf:lH s many outer rest.isEmpty=f
  have fl1:f.args.length<=9:=by rw [<- hf];exact oZ
  have fl2:f.handed.length<=9:=by rw [<- hf];exact uO
  have fm:f.many=many/\f.outer=outer:=by rw [<- hf];exact ⟨rfl,rfl⟩
  obtain ⟨x,y,a',b',q⟩:=uQ hch hb hs rest (pre++[s]) f.args.length f.handed.length (acc++[f.d]) (some (.int (pre.length:Int))) (some f.tl) (by rw [he];simp) (by omega) (by omega) (by simp at hl ⊢;omega)
  refine ⟨x,y,a',b',?_⟩
  let Z1:Sg:=[some (.lst (nats ss)),some (.int (many:Int)),some (.int (outer:Int)),some (.ref M.length),some (.int (pre.length:Int)),b]
  let M1:=M++[MO.lst acc]
  have c1:ev (aa ah (k+1)) (.idx (.v 0) (.v 4)) Z1 M1=.ok (.int (s:Int)) M1:=fR (xs:=nats ss) rfl rfl (gk hg)
  have c2:ev (aa ah (k+1)) (.cmp .eq (.v 4) (.op .sub true (.blt .len true (.cons (.v 0) .nil)) (.k (.int 1)))) Z1 M1=.ok (.bl rest.isEmpty) M1:=by
   rw [<- el];exact uZ rfl (zX (gC rfl) (by omega))
  have c3:=(CZ (f:=24) c1 (b:=.v 1) (c:=.v 2) rfl rfl c2).trans (HU (k:=k) hsb h1 h2)
  rw [hf] at c3
  let Z2:Sg:=[some (.lst (nats ss)),some (.int (many:Int)),some (.int (outer:Int)),some (.ref M.length),some (.int (pre.length:Int)),some f.tl]
  have c4:=kE (Φ:=aa ah (k+1)) (M:=M) (acc:=acc) (Z:=Z2) (i:=3) (e:=.op .add true (.tup (.cons (.v 1) (.cons (.v 2) .nil))) (.v 5)) (d:=f.d) rfl (tl_d (by rw [fm.1,fm.2];rfl) rfl) (by simp at hl;omega)
  have c5:ev (aa ah (k+1)) (.blt .len true (.cons (.idx (.v 5) (.k (.int 2))) .nil)) Z2 (M++[.lst (acc++[f.d])])=.ok (.int (f.args.length:Int)) (M++[.lst (acc++[f.d])]):=gC (aY rfl rfl vp)
  have c6:ev (aa ah (k+1)) (.blt .len true (.cons (.idx (.v 5) (.k (.int 1))) .nil)) [some (.lst (nats ss)),some (.int (f.args.length:Int)),some (.int (outer:Int)),some (.ref M.length),some (.int (pre.length:Int)),some f.tl] (M++[.lst (acc++[f.d])])=.ok (.int (f.handed.length:Int)) (M++[.lst (acc++[f.d])]):=gC (aY rfl rfl lW)
  have eb:exs (aa ah (k+1)) fnB Z1 M1=.ok (.nx [some (.lst (nats ss)),some (.int (f.args.length:Int)),some (.int (f.handed.length:Int)),some (.ref M.length),some (.int (pre.length:Int)),some f.tl]) (M++[.lst (acc++[f.d])]):=(av c3).trans ((bx c4).trans ((av c5).trans ((av c6).trans rfl)))
  rw [List.length_cons,List.range'_succ,show nats (pre.length::List.range' (pre.length+1) rest.length)=.int (pre.length:Int)::nats (List.range' (pre.length+1) rest.length) from rfl,aG]
  show (exs (aa ah (k+1)) fnB Z1 M1).bind _=_
  rw [eb]
  simp only [R.af,hch,if_true]
  rw [List.length_append,List.length_singleton] at q
  rw [q]
  simp only [gu,hf,List.map_cons,List.append_assoc,List.singleton_append]
theorem Lz {ss:List Nat} {many outer:Nat} (hb:∀ s∈ss,s<2147483648) (hs:ss.length<=100) (h1:many<=1000) (h2:outer<=1000):(aa ah (k+2)).call 25 [.lst (nats ss),.int (many:Int),.int (outer:Int)] M=.ok (.lst ((gu ss many outer).map Fc.d)) M:=by
 obtain ⟨x,y,a,b,q⟩:=uQ (k:=k) (M:=M) (ss:=ss) (ch:=aI (M++[.lst []]) .aq) (fun _=>rfl) hb (by omega) ss [] many outer [] none none rfl h1 h2 (by simp;omega)
 have ei:=cH (Φ:=aa ah (k+1)) (Z:=[some (.lst (nats ss)),some (.int (many:Int)),some (.int (outer:Int)),some (.ref M.length),none,none]) (M:=M++[.lst []]) (M1:=M++[.lst []]) (e:=.blt .len true (.cons (.v 0) .nil)) (n:=ss.length) (gC rfl) (by omega)
 rw [List.range_eq_range'] at ei
 exact b6 fn25 rfl ((av rfl).trans ((iL ei q).trans (ck rfl))) (by rw [List.nil_append];exact kQ Ej)
noncomputable def srB:Ss:=.cons (.ex (.aW .append true (.v 2) (.cons (.tup (.cons (.k (.str (w "local"))) (.cons (.v 3) .nil))) .nil))) (.cons (.ex (.aW .append true (.v 2) (.cons (.tup (.cons (.idx (.lst true (.cons (.k (.str (w "plus"))) (.cons (.k (.str (w "minus"))) (.cons (.k (.str (w "less"))) .nil)))) (.op .mod true (.op .fdiv true (.v 0) (.op .add true (.v 3) (.k (.int 2)))) (.k (.int 3)))) .nil)) .nil))) .nil)
theorem Gi {z:Nat}:cQ [D.str (w "plus"), .str (w "minus"), .str (w "less")] ((z % 3:Nat):Int)=some (.str (dU (mw z))):=by
 have hr:z % 3=0\/z % 3=1\/z % 3=2:=by omega
 unfold mw
 rcases hr with h | h | h <;> rw [h] <;> rfl
theorem tH {more many:Nat} {ch:MH->Bool} (hch:∀ M,ch M=true):∀ (ks:List Nat) (acc:List Rw) (b:Option D),(∀ x∈ks,x<1000)->acc.length+2*ks.length<=1000->∃ b',aG (exs (aa ah k) srB) [3] ch (nats ks) [some (.int (more:Int)),some (.int (many:Int)),some (.ref M.length),b] (M++[.lst (acc.map Rw.d)])=.ok (.nx [some (.int (more:Int)),some (.int (many:Int)),some (.ref M.length),b']) (M++[.lst ((acc++dI more ks).map Rw.d)])
 | [],acc,b,_,_=>⟨b,by simp [aG,nats,dI]⟩
 | j::ks,acc,b,hk,hl=>by
  have hj:=hk j List.mem_cons_self
  obtain ⟨b',q⟩:=tH (many:=many) hch ks (acc++[.loc j,.rk (mw (more / (j+2)))]) (some (.int (j:Int))) (fun x hx=>hk x (List.mem_cons_of_mem _ hx)) (by simp at hl ⊢;omega)
  refine ⟨b',?_⟩
  let Z1:Sg:=[some (.int (more:Int)),some (.int (many:Int)),some (.ref M.length),some (.int (j:Int))]
  have c1:=kE (Φ:=aa ah k) (M:=M) (acc:=acc.map Rw.d) (Z:=Z1) (i:=2) (e:=.tup (.cons (.k (.str (w "local"))) (.cons (.v 3) .nil))) (d:=(Rw.loc j).d) rfl rfl (by simp at hl ⊢;omega)
  have cw:ev (aa ah k) (.idx (.lst true (.cons (.k (.str (w "plus"))) (.cons (.k (.str (w "minus"))) (.cons (.k (.str (w "less"))) .nil)))) (.op .mod true (.op .fdiv true (.v 0) (.op .add true (.v 3) (.k (.int 2)))) (.k (.int 3)))) Z1 (M++[.lst (acc.map Rw.d++[(Rw.loc j).d])])=.ok (.str (dU (mw (more / (j+2))))) (M++[.lst (acc.map Rw.d++[(Rw.loc j).d])]) :=
   fR (xs:=[D.str (w "plus"), .str (w "minus"), .str (w "less")]) rfl (bu (b:=3) (dQ rfl (aU (b:=2) rfl rfl) (by omega) (by omega)) rfl (by decide)) Gi
  have c2:=kE (Φ:=aa ah k) (M:=M) (acc:=acc.map Rw.d++[(Rw.loc j).d]) (Z:=Z1) (i:=2) (e:=.tup (.cons (.idx (.lst true (.cons (.k (.str (w "plus"))) (.cons (.k (.str (w "minus"))) (.cons (.k (.str (w "less"))) .nil)))) (.op .mod true (.op .fdiv true (.v 0) (.op .add true (.v 3) (.k (.int 2)))) (.k (.int 3)))) .nil)) (d:=(Rw.rk (mw (more / (j+2)))).d) rfl (by rw [bL, wD cw];rfl) (by simp at hl ⊢;omega)
  have eb:exs (aa ah k) srB Z1 (M++[.lst (acc.map Rw.d)])=.ok (.nx Z1) (M++[.lst ((acc++[Rw.loc j,Rw.rk (mw (more / (j+2)))]).map Rw.d)]):=by
   have:(acc++[Rw.loc j,.rk (mw (more / (j+2)))]).map Rw.d=acc.map Rw.d++[(Rw.loc j).d]++[(Rw.rk (mw (more / (j+2)))).d]:=by simp
   rw [this]
   exact (bx c1).trans ((bx c2).trans rfl)
  rw [show nats (j::ks)=.int (j:Int)::nats ks from rfl,aG]
  show (exs (aa ah k) srB Z1 (M++[.lst (acc.map Rw.d)])).bind _=_
  rw [eb]
  simp only [R.af,hch,if_true]
  rw [q,List.append_assoc];rfl
theorem wM {more many:Nat} (hm:many<=100):(aa ah (k+1)).call 26 [.int (more:Int),.int (many:Int)] M=.ok (.lst ((Rw.num ((more % 1000:Nat):Int)::dI more (List.range many)).map Rw.d)) M:=by
 have e1:ev (aa ah k) (.lst false (.cons (.tup (.cons (.k (.str (w "number"))) (.cons (.op .mod true (.v 0) (.k (.int 1000))) .nil))) .nil)) [some (.int (more:Int)), some (.int (many:Int)), none, none] M=.ok (.ref M.length) (M++[.lst ([Rw.num ((more % 1000:Nat):Int)].map Rw.d)]):=by
  have z:ev (aa ah k) (.op .mod true (.v 0) (.k (.int 1000))) [some (.int (more:Int)),some (.int (many:Int)),none,none] M=.ok (.int ((more % 1000:Nat):Int)) M:=bu (b:=1000) rfl rfl (by decide)
  rw [iz, wD (x:=(Rw.num ((more % 1000:Nat):Int)).d) (by rw [bL, mD (x:=.str (w "number")) (M1:=M) rfl z];rfl)];rfl
 obtain ⟨b',q⟩:=tH (k:=k) (M:=M) (more:=more) (many:=many) (ch:=aI (M++[.lst ([Rw.num ((more % 1000:Nat):Int)].map Rw.d)]) .aq) (fun _=>rfl) (List.range many) [Rw.num ((more % 1000:Nat):Int)] none (fun x hx=>by have:=List.mem_range.mp hx;omega) (by simp;omega)
 have ei:=cH (Φ:=aa ah k) (Z:=[some (.int (more:Int)),some (.int (many:Int)),some (.ref M.length),none]) (M:=M++[.lst ([Rw.num ((more % 1000:Nat):Int)].map Rw.d)]) (M1:=M++[.lst ([Rw.num ((more % 1000:Nat):Int)].map Rw.d)]) (e:=.v 1) (n:=many) rfl (by omega)
 exact b6 fn26 rfl ((av e1).trans ((iL ei q).trans (ck rfl))) (kQ rC)
noncomputable def smB:Ss:=.cons (.set 4 (.op .mod true (.op .fdiv true (.v 0) (.op .add true (.v 3) (.k (.int 2)))) (.k (.int 3)))) (.cons (.set 2 (.idx (.lst true (.cons (.op .add true (.v 2) (.idx (.v 1) (.v 3))) (.cons (.op .sub true (.v 2) (.idx (.v 1) (.v 3))) (.cons (.ng .int (.cmp .lt (.v 2) (.idx (.v 1) (.v 3)))) .nil)))) (.v 4))) .nil)
theorem tK {more:Nat} {held:List Int} {ch:MH->Bool} (hch:ch M=true) (hh:held.length<=1000):∀ (ks:List Nat) (acc:Int) (a b:Option D),(∀ x∈ks,x<held.length)->∃ a' b',aG (exs (aa ah k) smB) [3] ch (nats ks) [some (.int (more:Int)),some (.lst (di held)),some (.int acc),a,b] M=.ok (.nx [some (.int (more:Int)),some (.lst (di held)),some (.int (nG more held ks acc)),a',b']) M
 | [],acc,a,b,_=>⟨a,b,by simp [aG,nats,nG]⟩
 | j::ks,acc,a,b,hk=>by
  have hj:=hk j List.mem_cons_self
  generalize hx:held.getD j 0=x
  obtain ⟨a',b',q⟩:=tK (more:=more) hch hh ks (kc (mw (more / (j+2))) acc x) (some (.int (j:Int))) (some (.int ((more / (j+2) % 3:Nat):Int))) (fun x hx=>hk x (List.mem_cons_of_mem _ hx))
  refine ⟨a',b',?_⟩
  let Z1:Sg:=[some (.int (more:Int)),some (.lst (di held)),some (.int acc),some (.int (j:Int)),b]
  let Z2:Sg:=[some (.int (more:Int)),some (.lst (di held)),some (.int acc),some (.int (j:Int)),some (.int ((more / (j+2) % 3:Nat):Int))]
  have c1:ev (aa ah k) (.op .mod true (.op .fdiv true (.v 0) (.op .add true (.v 3) (.k (.int 2)))) (.k (.int 3))) Z1 M=.ok (.int ((more / (j+2) % 3:Nat):Int)) M:=bu (b:=3) (dQ rfl (aU (b:=2) rfl rfl) (by omega) (by omega)) rfl (by decide)
  have cx:ev (aa ah k) (.idx (.v 1) (.v 3)) Z2 M=.ok (.int x) M:=by rw [<- hx];exact fR (xs:=di held) rfl rfl (dG (oM hj))
  have c3:ev (aa ah k) (.lst true (.cons (.op .add true (.v 2) (.idx (.v 1) (.v 3))) (.cons (.op .sub true (.v 2) (.idx (.v 1) (.v 3))) (.cons (.ng .int (.cmp .lt (.v 2) (.idx (.v 1) (.v 3)))) .nil)))) Z2 M=.ok (.lst [.int (acc+x),.int (acc-x),.int (kc .less acc x)]) M:=by
   have f1:ev (aa ah k) (.op .add true (.v 2) (.idx (.v 1) (.v 3))) Z2 M=.ok (.int (acc+x)) M:=jI rfl cx
   have f2:ev (aa ah k) (.op .sub true (.v 2) (.idx (.v 1) (.v 3))) Z2 M=.ok (.int (acc-x)) M:=lQ rfl cx
   have f3:ev (aa ah k) (.ng .int (.cmp .lt (.v 2) (.idx (.v 1) (.v 3)))) Z2 M=.ok (.int (kc .less acc x)) M:=by
    rw [sr,e_lt (a:=acc) (b:=x) rfl cx rfl,R.af]
    by_cases h:acc<x <;> simp [h,kc,se]
   simp only [iz,az,aP,f1,f2,f3,R.af];rfl
  have c4:cQ [D.int (acc+x),.int (acc-x),.int (kc .less acc x)] ((more / (j+2) % 3:Nat):Int)=some (.int (kc (mw (more / (j+2))) acc x)):=by
   generalize more / (j+2)=z
   have hr:z % 3=0\/z % 3=1\/z % 3=2:=by omega
   unfold mw
   rcases hr with h | h | h <;> rw [h] <;> rfl
  have c5:=fR (Φ:=aa ah k) (Z:=Z2) (e':=.v 4) c3 rfl c4
  have eb:exs (aa ah k) smB Z1 M=.ok (.nx [some (.int (more:Int)),some (.lst (di held)),some (.int (kc (mw (more / (j+2))) acc x)),some (.int (j:Int)),some (.int ((more / (j+2) % 3:Nat):Int))]) M:=(av c1).trans ((av c5).trans rfl)
  rw [show nats (j::ks)=.int (j:Int)::nats ks from rfl,aG]
  show (exs (aa ah k) smB Z1 M).bind _=_
  rw [eb]
  simp only [R.af,hch,if_true]
  rw [q]
  simp only [nG,List.foldl_cons,hx]
theorem Ly {more:Nat} {held:List Int} (hh:held.length<=1000):(aa ah (k+1)).call 27 [.int (more:Int),.lst (di held)] M=.ok (.int (eY more held)) M:=by
 have e1:ev (aa ah k) (.op .mod true (.v 0) (.k (.int 1000))) [some (.int (more:Int)),some (.lst (di held)),none,none,none] M=.ok (.int ((more % 1000:Nat):Int)) M:=bu (b:=1000) rfl rfl (by decide)
 obtain ⟨a',b',q⟩:=tK (k:=k) (M:=M) (more:=more) (held:=held) (ch:=aI M .aq) rfl hh (List.range held.length) ((more % 1000:Nat):Int) none none (fun x hx=>List.mem_range.mp hx)
 have el:ev (aa ah k) (.blt .len true (.cons (.v 1) .nil)) [some (.int (more:Int)),some (.lst (di held)),some (.int ((more % 1000:Nat):Int)),none,none] M=.ok (.int (held.length:Int)) M:=by
  rw [lR (ds:=di held) rfl,List.length_map]
 have ei:=cH el (by omega)
 exact b6 fn27 rfl ((av e1).trans ((iL ei q).trans (ck rfl))) (aC rfl rfl)
end
end bA
end
section
namespace bA
open Fg PySem
noncomputable abbrev dR (rs:List Rw):D:=.lst (rs.map Rw.d)
section
variable {M M1 M2:MH} {k:Nat} {Φ:aS} {Z:Sg} {e e':E}
theorem aQ {es:Es} {x:D} {xs:List D} (h:ev Φ e Z M=.ok x M) (h':cG Φ es Z M=.ok xs M):cG Φ (.cons e es) Z M=.ok (x::xs) M:=by rw [az,h,R.af,h'];rfl
theorem ia {xs ys:List Rw} (h:ev Φ e Z M=.ok (dR xs) M) (h':ev Φ e' Z M=.ok (dR ys) M) (hl:xs.length+ys.length<=5000):ev Φ (.op .add true e e') Z M=.ok (dR (xs++ys)) M:=by
 rw [eL,h,R.af,h',R.af]
 show (if decide ((xs.map Rw.d).length+(ys.map Rw.d).length<=line) then b7 true (xs.map Rw.d++ys.map Rw.d) M else .bad)=_
 rw [if_pos (decide_eq_true (by rw [List.length_map,List.length_map];exact Nat.le_trans hl (by decide))),<- List.map_append];rfl
theorem Ei {r:Rw} {m:Nat} (h:ev Φ e Z M=.ok (.lst [r.d]) M) (h':ev Φ e' Z M=.ok (.int (m:Int)) M) (hm:m<=100):ev Φ (.op .mul true e e') Z M=.ok (dR (List.replicate m r)) M:=by
 rw [eL,h,R.af,h',R.af]
 have h1:decide (1*m<=line)=true:=decide_eq_true (by rw [Nat.one_mul];exact Nat.le_trans hm (by decide))
 have h2:decide ((m:Int).natAbs<=1000000)=true:=decide_eq_true (by omega)
 simp only [qa,vw,List.length_singleton,Int.toNat_natCast,h1,h2,Bool.and_self,if_true,b7,dR,List.map_replicate]
 congr 2
 induction m with
 | zero=>rfl
 | succ m ih=>
  rw [List.replicate_succ,List.flatten_cons,List.replicate_succ]
  congr 1
  clear h1 h2 ih h'
  induction m with
  | zero=>rfl
  | succ m ih=>rw [List.replicate_succ,List.flatten_cons,List.replicate_succ,ih (by omega)];rfl
theorem kN {more:Nat}:∀ {ks:List Nat},(dI more ks).length=2*ks.length
 | []=>rfl
 | k::ks=>by
  have:dI more (k::ks)=.loc k::.rk (mw (more / (k+2)))::dI more ks:=rfl
  rw [this,List.length_cons,List.length_cons,kN,List.length_cons];omega
theorem lz {f:Fc}:∀ {ks:List Nat},(fG f ks).length=6*ks.length
 | []=>rfl
 | k::ks=>by
  have:fG f (k::ks)=.loc f.many::.nil::.lay false ((f.more+k) % (f.outer+f.opens))::.look false false::.keep::.drop::fG f ks:=rfl
  simp only [this,List.length_cons,lz];omega
noncomputable def Mf:Ss:=.cons (.set 10 (.op .add true (.v 10) (.lst true (.cons (.tup (.cons (.k (.str (w "local"))) (.cons (.v 2) .nil))) (.cons (.tup (.cons (.k (.str (w "nil"))) .nil)) (.cons (.tup (.cons (.k (.str (w "pair"))) (.cons (.op .mod true (.op .add true (.v 8) (.v 11)) (.op .add true (.v 3) (.v 4))) .nil))) (.cons (.tup (.cons (.k (.str (w "first"))) .nil)) (.cons (.tup (.cons (.k (.str (w "keep"))) .nil)) .nil)))))))) (.cons (.set 10 (.op .add true (.v 10) (.lst true (.cons (.tup (.cons (.k (.str (w "drop"))) .nil)) .nil)))) .nil)
noncomputable abbrev sF (f:Fc) (num:Nat) (r j:Option D):Sg:=[some f.d,some (.int (num:Int)),some (.int (f.many:Int)),some (.int (f.outer:Int)),some (.int (f.opens:Int)),some (.lst (nats f.handed)),some (.lst (nats f.args)),some (.int (f.ie:Int)),some (.int (f.more:Int)),some (.bl f.last),r,j]
theorem uz {f:Fc} {num:Nat} {ch:MH->Bool} (hch:ch M=true) (h0:0<f.outer+f.opens):∀ (ks:List Nat) (acc:List Rw) (b:Option D),acc.length+6*ks.length<=1000->∃ b',aG (exs (aa ah k) Mf) [11] ch (nats ks) (sF f num (some (dR acc)) b) M=.ok (.nx (sF f num (some (dR (acc++fG f ks))) b')) M
 | [],acc,b,_=>⟨b,by simp [aG,nats,fG]⟩
 | j::ks,acc,b,hl=>by
  obtain ⟨b',q⟩:=uz (num:=num) hch h0 ks (acc++[.loc f.many,.nil,.lay false ((f.more+j) % (f.outer+f.opens)),.look false false,.keep]++[.drop]) (some (.int (j:Int))) (by simp at hl ⊢;omega)
  refine ⟨b',?_⟩
  have c1:ev (aa ah k) (.op .mod true (.op .add true (.v 8) (.v 11)) (.op .add true (.v 3) (.v 4))) (sF f num (some (dR acc)) (some (.int (j:Int)))) M=.ok (.int (((f.more+j) % (f.outer+f.opens):Nat):Int)) M:=bu (aU rfl rfl) (aU rfl rfl) h0
  have c2:ev (aa ah k) (.lst true (.cons (.tup (.cons (.k (.str (w "local"))) (.cons (.v 2) .nil))) (.cons (.tup (.cons (.k (.str (w "nil"))) .nil)) (.cons (.tup (.cons (.k (.str (w "pair"))) (.cons (.op .mod true (.op .add true (.v 8) (.v 11)) (.op .add true (.v 3) (.v 4))) .nil))) (.cons (.tup (.cons (.k (.str (w "first"))) .nil)) (.cons (.tup (.cons (.k (.str (w "keep"))) .nil)) .nil)))))) (sF f num (some (dR acc)) (some (.int (j:Int)))) M=.ok (dR [.loc f.many, .nil, .lay false ((f.more+j) % (f.outer+f.opens)), .look false false, .keep]) M:=by
   have c3:ev (aa ah k) (.tup (.cons (.k (.str (w "pair"))) (.cons (.op .mod true (.op .add true (.v 8) (.v 11)) (.op .add true (.v 3) (.v 4))) .nil))) (sF f num (some (dR acc)) (some (.int (j:Int)))) M=.ok (Rw.lay false ((f.more+j) % (f.outer+f.opens))).d M:=by
    rw [bL, mD (x:=.str (w "pair")) (M1:=M) rfl c1];rfl
   rw [iz,aQ (x:=(Rw.loc f.many).d) rfl (aQ (x:=Rw.nil.d) rfl (aQ c3 (aQ (x:=(Rw.look false false).d) rfl (aQ (x:=Rw.keep.d) rfl rfl))))];rfl
  have c4:=ia (Φ:=aa ah k) (Z:=sF f num (some (dR acc)) (some (.int (j:Int)))) (e:=.v 10) (xs:=acc) rfl c2 (by simp at hl ⊢;omega)
  have c5:=ia (Φ:=aa ah k) (M:=M) (Z:=sF f num (some (dR (acc++[.loc f.many, .nil, .lay false ((f.more+j) % (f.outer+f.opens)), .look false false, .keep]))) (some (.int (j:Int)))) (e:=.v 10) (e':=.lst true (.cons (.tup (.cons (.k (.str (w "drop"))) .nil)) .nil)) (xs:=acc++[.loc f.many, .nil, .lay false ((f.more+j) % (f.outer+f.opens)), .look false false, .keep]) (ys:=[.drop]) rfl rfl (by simp at hl ⊢;omega)
  have eb:exs (aa ah k) Mf (sF f num (some (dR acc)) (some (.int (j:Int)))) M=.ok (.nx (sF f num (some (dR (acc++[.loc f.many,.nil,.lay false ((f.more+j) % (f.outer+f.opens)),.look false false,.keep]++[.drop]))) (some (.int (j:Int))))) M:=(av c4).trans ((av c5).trans rfl)
  rw [show nats (j::ks)=.int (j:Int)::nats ks from rfl,aG]
  show (exs (aa ah k) Mf (sF f num (some (dR acc)) (some (.int (j:Int)))) M).bind _=_
  rw [eb]
  simp only [R.af,hch,if_true]
  rw [q]
  have:acc++[Rw.loc f.many,.nil,.lay false ((f.more+j) % (f.outer+f.opens)),.look false false,.keep]++[.drop]++fG f ks=acc++fG f (j::ks):=by
   have:fG f (j::ks)=.loc f.many::.nil::.lay false ((f.more+j) % (f.outer+f.opens))::.look false false::.keep::.drop::fG f ks:=rfl
   rw [this];simp
  rw [this]
theorem zY {x:Bool} (h:ev Φ e Z M=.ok (.bl x) M):ev Φ (.not e) Z M=.ok (.bl (!x)) M:=by rw [zQ,h];rfl
theorem HV {f:Fc} {num:Nat} (hz:Sz f):(aa ah (k+2)).call 28 [f.d,.int (num:Int)] M=.ok (dR (bU f (num+1))) M:=by
 obtain ⟨z1,z2,z3,z4,z5⟩:=hz
 have u1:ex (aa ah (k+1)) (.tu [2,3,4,5,6,7,8,9] (.v 0)) [some f.d,some (.int (num:Int)),none,none,none,none,none,none,none,none,none,none] M=.ok (.nx (sF f num none none)) M:=rfl
 have a1:ev (aa ah (k+1)) (.call 26 (.cons (.v 8) (.cons (.v 2) .nil))) (sF f num none none) M=.ok (dR (.num ((f.more % 1000:Nat):Int)::dI f.more (List.range f.many))) M:=by
  rw [bC,mD (x:=.int (f.more:Int)) (y:=.int (f.many:Int)) (M1:=M) (M2:=M) rfl rfl,R.af];exact wM (by omega)
 have l1:(Rw.num ((f.more % 1000:Nat):Int)::dI f.more (List.range f.many)).length<=19:=by rw [List.length_cons,kN,List.length_range];omega
 have a2:=ia (e':=.lst true (.cons (.tup (.cons (.k (.str (w "keep"))) .nil)) .nil)) (ys:=[.keep]) a1 rfl (by simp at l1 ⊢;omega)
 have a3:ev (aa ah (k+1)) (.op .mul true (.lst true (.cons (.tup (.cons (.k (.str (w "open"))) .nil)) .nil)) (.v 4)) (sF f num none none) M=.ok (dR (List.replicate f.opens .ai)) M:=Ei (r:=.ai) rfl rfl (by omega)
 have a4:=ia a2 a3 (by simp at l1 ⊢;omega)
 generalize hr1:Rw.num ((f.more % 1000:Nat):Int)::dI f.more (List.range f.many)++[Rw.keep]++List.replicate f.opens Rw.ai=r1 at a4
 have l2:r1.length<=21:=by rw [<- hr1];simp at l1 ⊢;omega
 have c0:ev (aa ah (k+1)) (.cmp .gt (.op .add true (.v 3) (.v 4)) (.k (.int 0))) (sF f num (some (dR r1)) none) M=.ok (.bl (decide (0<f.outer+f.opens))) M:=z7 (b:=0) (aU rfl rfl) rfl
 have i1:∃ b',ex (aa ah (k+1)) (.ifs (.cmp .gt (.op .add true (.v 3) (.v 4)) (.k (.int 0))) (.cons (.for [11] (.cR (.v 7)) Mf) .nil) .nil) (sF f num (some (dR r1)) none) M=.ok (.nx (sF f num (some (dR (r1++fX f))) b')) M:=by
  by_cases h0:0<f.outer+f.opens
  ·rw [decide_eq_true h0] at c0
   obtain ⟨b',q⟩:=uz (k:=k+1) (M:=M) (f:=f) (num:=num) (ch:=aI M .aq) rfl h0 (List.range f.ie) r1 none (by simp;omega)
   have ei:=cH (Φ:=aa ah (k+1)) (Z:=sF f num (some (dR r1)) none) (M:=M) (M1:=M) (e:=.v 7) (n:=f.ie) rfl (by omega)
   refine ⟨b',?_⟩
   rw [cF,c0,R.aT]
   have e:fX f=fG f (List.range f.ie):=if_pos h0
   rw [e]
   exact (iL ei q).trans rfl
  ·rw [decide_eq_false h0] at c0
   refine ⟨none,?_⟩
   rw [cF,c0,R.aT]
   have e:fX f=[]:=if_neg h0
   rw [e,List.append_nil];rfl
 obtain ⟨b',i1⟩:=i1
 have ll:(fX f).length<=18:=by
  unfold fX
  split
  ·rw [lz,List.length_range];omega
  ·simp
 have a5:=ia (Φ:=aa ah (k+1)) (M:=M) (Z:=sF f num (some (dR (r1++fX f))) b') (e:=.v 10) (e':=.lst true (.cons (.tup (.cons (.k (.str (w "local"))) (.cons (.v 2) .nil))) .nil)) (xs:=r1++fX f) (ys:=[.loc f.many]) rfl rfl (by simp;omega)
 generalize hr2:r1++fX f++[Rw.loc f.many]=r2 at a5
 have l3:r2.length<=40:=by rw [<- hr2];simp;omega
 have i2:ex (aa ah (k+1)) (.ifs (.not (.v 9)) (.cons (.set 10 (.op .add true (.op .add true (.v 10) (.comp true [] [0] (.tup (.cons (.k (.str (w "local"))) (.cons (.v 0) .nil))) (.e (.v 6)) .none)) (.lst true (.cons (.tup (.cons (.k (.str (w "call"))) (.cons (.op .add true (.v 1) (.k (.int 1))) (.cons (.blt .len true (.cons (.v 6) .nil)) (.cons (.blt .tuple true (.cons (.v 5) .nil)) .nil))))) (.cons (.tup (.cons (.k (.str (w "plus"))) .nil)) .nil))))) .nil) .nil) (sF f num (some (dR r2)) b') M=.ok (.nx (sF f num (some (dR (r2++dz f (num+1)))) b')) M:=by
  have c1:ev (aa ah (k+1)) (.not (.v 9)) (sF f num (some (dR r2)) b') M=.ok (.bl (!f.last)) M:=zY rfl
  rw [cF,c1,R.aT]
  cases hla:f.last with
  | true =>
   have e:dz f (num+1)=[]:=by unfold dz;rw [hla];rfl
   rw [e,List.append_nil];rfl
  | false =>
   have e:dz f (num+1)=f.args.map .loc++[.call ((num+1:Nat):Int) f.args.length f.handed,.rk .plus]:=by unfold dz;rw [hla];rfl
   have hi:bZ (aa ah (k+1)) (.e (.v 6)) (sF f num (some (dR r2)) b') M=.ok (.lst (nats f.args),nats f.args,false) M:=rfl
   have c2:ev (aa ah (k+1)) (.comp true [] [0] (.tup (.cons (.k (.str (w "local"))) (.cons (.v 0) .nil))) (.e (.v 6)) .none) (sF f num (some (dR r2)) b') M=.ok (dR (f.args.map .loc)) M:=by
    refine (cO hi (iO (f:=fun j=>(Rw.loc j).d) rfl f.args _ [] (fun j _=>rfl) (by simp;omega))).trans ?_
    rw [List.nil_append,dR,List.map_map];rfl
   have c3:=ia (e:=.v 10) (xs:=r2) rfl c2 (by simp;omega)
   have c4:ev (aa ah (k+1)) (.lst true (.cons (.tup (.cons (.k (.str (w "call"))) (.cons (.op .add true (.v 1) (.k (.int 1))) (.cons (.blt .len true (.cons (.v 6) .nil)) (.cons (.blt .tuple true (.cons (.v 5) .nil)) .nil))))) (.cons (.tup (.cons (.k (.str (w "plus"))) .nil)) .nil))) (sF f num (some (dR r2)) b') M=.ok (dR [.call ((num+1:Nat):Int) f.args.length f.handed, .rk .plus]) M:=by
    have f1:ev (aa ah (k+1)) (.op .add true (.v 1) (.k (.int 1))) (sF f num (some (dR r2)) b') M=.ok (.int ((num+1:Nat):Int)) M:=aU (b:=1) rfl rfl
    have f2:ev (aa ah (k+1)) (.blt .len true (.cons (.v 6) .nil)) (sF f num (some (dR r2)) b') M=.ok (.int (f.args.length:Int)) M:=gC rfl
    have f3:ev (aa ah (k+1)) (.blt .tuple true (.cons (.v 5) .nil)) (sF f num (some (dR r2)) b') M=.ok (.tup (nats f.handed)) M:=rfl
    simp only [iz,az,aP,bL,f1,f2,f3,oG,R.af];rfl
   have c5:=ia c3 c4 (by simp;omega)
   rw [List.append_assoc,<- e] at c5
   exact (av c5).trans rfl
 have lc:(dz f (num+1)).length<=11:=by
  unfold dz
  split
  ·simp
  ·simp;omega
 have a6:ev (aa ah (k+1)) (.op .mul true (.lst true (.cons (.tup (.cons (.k (.str (w "shut"))) .nil)) .nil)) (.v 4)) (sF f num (some (dR (r2++dz f (num+1)))) b') M=.ok (dR (List.replicate f.opens .rA)) M:=Ei (r:=.rA) rfl rfl (by omega)
 have a7:=ia (e:=.v 10) (xs:=r2++dz f (num+1)) rfl a6 (by simp;omega)
 have a8:=ia (e':=.lst true (.cons (.tup (.cons (.k (.str (w "back"))) .nil)) .nil)) (ys:=[.back]) a7 rfl (by simp;omega)
 have er:r2++dz f (num+1)++List.replicate f.opens Rw.rA++[Rw.back]=bU f (num+1):=by
  rw [<- hr2,<- hr1];unfold bU;simp
 rw [er] at a8
 exact b6 fn28 rfl ((bQ u1).trans ((av a4).trans ((bQ i1).trans ((av a5).trans ((bQ i2).trans (ck a8)))))) (aC (by simp only [nr];exact rC) rfl)
theorem mV {f:Fc} {to:Nat} (hz:Sz f):(bU f to).length<=60:=by
 obtain ⟨z1,z2,z3,z4,z5⟩:=hz
 have ll:(fX f).length<=18:=by
  unfold fX
  split
  ·rw [lz,List.length_range];omega
  ·simp
 have lc:(dz f to).length<=11:=by
  unfold dz
  split
  ·simp
  ·simp;omega
 unfold bU
 simp only [List.length_cons,List.length_append,kN,List.length_range,List.length_replicate,List.length_nil]
 omega
end
end bA
end
section
namespace bA
open Fg PySem
theorem qh {kvs:List (Ky×D)} {a b:Ky} {v:D}:look (put kvs a v) b=if a=b then some v else look kvs b:=by
 unfold look put
 split
 ·rename_i h
  induction kvs with
  | nil=>simp at h
  | cons x kvs ih =>
   simp only [List.map_cons,List.find?_cons]
   by_cases hx:x.1=a
   ·simp only [hx,if_true]
    by_cases hb:a=b
    ·simp [hb]
    ·simp only [hb,decide_false,if_false]
     by_cases h2:kvs.any (fun kv=>decide (kv.1=a))=true
     ·have:=ih h2
      rw [if_neg hb] at this
      exact this
     ·have e:(kvs.map fun kv=>if kv.1=a then (kv.1,v) else kv)=kvs:=by
       clear ih h
       induction kvs with
       | nil=>rfl
       | cons y kvs ih2 =>
        simp only [List.any_cons,Bool.or_eq_true,decide_eq_true_eq,not_or] at h2
        rw [List.map_cons,if_neg h2.1,ih2 h2.2]
      rw [e]
   ·simp only [hx,if_false]
    simp only [List.any_cons,hx,decide_false,Bool.false_or] at h
    have:=ih h
    by_cases hb:x.1=b
    ·have:a≠b:=fun z=>hx (by rw [hb,z])
     simp [hb,this]
    ·simp only [hb,decide_false]
     exact this
 ·rename_i h
  rw [List.find?_append]
  by_cases hb:a=b
  ·have:kvs.find? (fun kv=>decide (kv.1=b))=none:=by
    rw [List.find?_eq_none]
    intro x hx
    simp only [List.any_eq_true,not_exists,not_and,Bool.not_eq_true] at h
    rw [<- hb]
    simpa using h x hx
   rw [this]
   simp [hb]
  ·simp [hb]
noncomputable def tr (kvs:List (Ky×D)):Rw->Rw
 | .call to m is=>match look kvs (.inl to) with
  | some (.int b)=>.call b m is
  | _=>.call to m is
 | r=>r
theorem At.app {rs ws xs:List Rw} {L:Nat} (h:At rs L ws):At (rs++xs) L ws:=fun i r e=>by
 have:=h i r e
 rw [List.getElem?_append_left (List.getElem?_eq_some_iff.mp this).1];exact this
theorem At.map {rs ws:List Rw} {L:Nat} {g:Rw->Rw} (h:At rs L ws):At (rs.map g) L (ws.map g):=fun i r e=>by
 rw [List.getElem?_map] at e ⊢
 cases hw:ws[i]? with
 | none=>rw [hw] at e;cases e
 | some x=>rw [hw] at e;rw [h i x hw];exact e
theorem At.here {rs ws:List Rw}:At (rs++ws) rs.length ws:=fun i r e=>by
 rw [List.getElem?_append_right (by omega),Nat.add_sub_cancel_left];exact e
section
variable {M M1 M2:MH} {k:Nat} {Φ:aS} {Z:Sg} {e e':E} {fs:List Fc}
structure Bk (fs:List Fc) (ks:List Nat) (kvs:List (Ky×D)) (acc:List Rw):Prop where
 at_:∀ j∈ks,∃ f b,fs[j]? = some f/\look kvs (.inl (j:Int))=some (.int ((b:Nat):Int))/\At acc b (bU f (j+1))
 mem:∀ r∈acc,∃ j f,j∈ks/\fs[j]? = some f/\r∈bU f (j+1)
 len:acc.length<=60*ks.length
 kl:kvs.length<=ks.length
theorem BH {kvs:List (Ky×D)} {a:Ky} {v:D}:(put kvs a v).length<=kvs.length+1:=by
 unfold put;split
 ·rw [List.length_map];omega
 ·simp
noncomputable def MP:Ss:=.cons (.mh (.v 3) (.v 6) (.blt .len true (.cons (.v 4) .nil))) (.cons (.set 4 (.op .add true (.v 4) (.call 28 (.cons (.idx (.v 0) (.v 6)) (.cons (.v 6) .nil))))) .nil)
noncomputable abbrev sC (fs:List Fc) (M:MH) (t o r od j l w:Option D):Sg:=[some (.lst (fs.map Fc.d)),t,o,some (.ref M.length),r,od,j,l,w]
theorem vj {ch:MH->Bool} {t o od l w:Option D} (hch:∀ M,ch M=true) (hz:∀ f∈fs,Sz f):∀ (ks done:List Nat) (kvs:List (Ky×D)) (acc:List Rw) (b:Option D),(∀ j∈ks,j<fs.length)->(∀ j∈ks,j∉done)->ks.Nodup->done.length+ks.length<=60->Bk fs done kvs acc ->
  ∃ kvs' acc' b',Bk fs (done++ks) kvs' acc'/\aG (exs (aa ah (k+2)) MP) [6] ch (nats ks) (sC fs M t o (some (dR acc)) od b l w) (M++[.dct kvs])=.ok (.nx (sC fs M t o (some (dR acc')) od b' l w)) (M++[.dct kvs'])
 | [],done,kvs,acc,b,_,_,_,_,B=>⟨kvs,acc,b,by rw [List.append_nil];exact B,rfl⟩
 | j::ks,done,kvs,acc,b,hk,hd,hn,hl,B=>by
  have hj:=hk j List.mem_cons_self
  have hjd:=hd j List.mem_cons_self
  have hg:fs[j]? = some fs[j]:=List.getElem?_eq_getElem hj
  have hzf:=hz fs[j] (List.getElem_mem hj)
  have hla:=B.len
  have hlk:=B.kl
  simp only [List.length_cons] at hl
  have B':Bk fs (done++[j]) (put kvs (.inl (j:Int)) (.int ((acc.length:Nat):Int))) (acc++bU fs[j] (j+1)):=by
   refine ⟨fun i hi=>?_,fun r hr=>?_,?_,?_⟩
   ·rcases List.mem_append.mp hi with hi | hi
    ·obtain ⟨f,b,h1,h2,h3⟩:=B.at_ i hi
     refine ⟨f,b,h1,?_,h3.app⟩
     rw [qh,if_neg (fun z=>hjd (by cases z;exact hi))]
     exact h2
    ·rw [List.mem_singleton.mp hi]
     exact ⟨fs[j],acc.length,hg,by rw [qh,if_pos rfl],At.here⟩
   ·rcases List.mem_append.mp hr with hr | hr
    ·obtain ⟨i,f,h1,h2,h3⟩:=B.mem r hr
     exact ⟨i,f,List.mem_append_left _ h1,h2,h3⟩
    ·exact ⟨j,fs[j],List.mem_append_right _ (List.mem_singleton.mpr rfl),hg,hr⟩
   ·have:=mV (to:=j+1) hzf
    rw [List.length_append,List.length_append,List.length_singleton];omega
   ·have:=BH (kvs:=kvs) (a:=.inl (j:Int)) (v:=.int ((acc.length:Nat):Int))
    rw [List.length_append,List.length_singleton];omega
  obtain ⟨kvs',acc',b',B2,q⟩:=vj (t:=t) (o:=o) (od:=od) (l:=l) (w:=w) hch hz ks (done++[j]) _ _ (some (.int (j:Int))) (fun i hi=>hk i (List.mem_cons_of_mem _ hi)) (fun i hi z=>by
   rcases List.mem_append.mp z with z | z
   ·exact hd i (List.mem_cons_of_mem _ hi) z
   ·rw [List.mem_singleton.mp z] at hi;exact (List.nodup_cons.mp hn).1 hi) (List.nodup_cons.mp hn).2 (by simp;omega) B'
  refine ⟨kvs',acc',b',by rw [List.append_assoc] at B2;exact B2,?_⟩
  have gm:(M++[MO.dct kvs])[M.length]? = some (.dct kvs):=by simp
  have c0:ev (aa ah (k+2)) (.blt .len true (.cons (.v 4) .nil)) (sC fs M t o (some (dR acc)) od (some (.int (j:Int))) l w) (M++[.dct kvs])=.ok (.int ((acc.length:Nat):Int)) (M++[.dct kvs]):=by
   rw [lR (ds:=acc.map Rw.d) rfl,List.length_map]
  have c1:ex (aa ah (k+2)) (.mh (.v 3) (.v 6) (.blt .len true (.cons (.v 4) .nil))) (sC fs M t o (some (dR acc)) od (some (.int (j:Int))) l w) (M++[.dct kvs])=.ok (.nx (sC fs M t o (some (dR acc)) od (some (.int (j:Int))) l w)) (M++[.dct (put kvs (.inl (j:Int)) (.int ((acc.length:Nat):Int)))]):=by
   rw [uU,c0,R.aT,e_v (d:=.ref M.length) rfl,R.aT,e_v (d:=.int (j:Int)) rfl,R.aT]
   have hq:decide (kvs.length<line)=true:=decide_eq_true (Nat.lt_of_le_of_lt (by omega:kvs.length<=60) (by decide))
   simp only [mj,gm,keyOf,hq,if_true,R.aT]
   congr 1
   simp [List.set_append_right]
  have c2:ev (aa ah (k+2)) (.idx (.v 0) (.v 6)) (sC fs M t o (some (dR acc)) od (some (.int (j:Int))) l w) (M++[.dct (put kvs (.inl (j:Int)) (.int ((acc.length:Nat):Int)))])=.ok fs[j].d (M++[.dct (put kvs (.inl (j:Int)) (.int ((acc.length:Nat):Int)))]):=fR (xs:=fs.map Fc.d) rfl rfl (dG (by rw [List.getElem?_map,hg];rfl))
  have c3:ev (aa ah (k+2)) (.call 28 (.cons (.idx (.v 0) (.v 6)) (.cons (.v 6) .nil))) (sC fs M t o (some (dR acc)) od (some (.int (j:Int))) l w) (M++[.dct (put kvs (.inl (j:Int)) (.int ((acc.length:Nat):Int)))])=.ok (dR (bU fs[j] (j+1))) (M++[.dct (put kvs (.inl (j:Int)) (.int ((acc.length:Nat):Int)))]):=by
   rw [bC,mD (y:=.int (j:Int)) c2 rfl,R.af];exact HV hzf
  have c4:=ia (e:=.v 4) (xs:=acc) rfl c3 (by have:=mV (to:=j+1) hzf;omega)
  have eb:exs (aa ah (k+2)) MP (sC fs M t o (some (dR acc)) od (some (.int (j:Int))) l w) (M++[.dct kvs])=.ok (.nx (sC fs M t o (some (dR (acc++bU fs[j] (j+1)))) od (some (.int (j:Int))) l w)) (M++[.dct (put kvs (.inl (j:Int)) (.int ((acc.length:Nat):Int)))]):=(bQ c1).trans ((av c4).trans rfl)
  rw [show nats (j::ks)=.int (j:Int)::nats ks from rfl,aG]
  show (exs (aa ah (k+2)) MP (sC fs M t o (some (dR acc)) od (some (.int (j:Int))) l w) (M++[.dct kvs])).bind _=_
  rw [eb]
  simp only [R.af,hch,if_true]
  exact q
noncomputable def Mh:Ss:=.cons (.ifs (.cmp .eq (.idx (.v 8) (.k (.int 0))) (.k (.str (w "call")))) (.cons (.set 8 (.tup (.cons (.k (.str (w "call"))) (.cons (.idx (.v 3) (.idx (.v 8) (.k (.int 1)))) (.cons (.idx (.v 8) (.k (.int 2))) (.cons (.idx (.v 8) (.k (.int 3))) .nil)))))) .nil) .nil) (.cons (.ex (.aW .append true (.v 7) (.cons (.v 8) .nil))) .nil)
noncomputable def Ho:Rw->Bool
 | .call _ _ _=>true
 | _=>false
theorem AI (r:Rw):∃ z rest, r.d=.tup (.str z::rest)/\decide (z=w "call")=Ho r:=by
 cases r with
 | lay c i=>exact ⟨_, _, rfl, (by cases c <;> decide +kernel:decide (layW c=w "call")=false)⟩
 | look h t=>exact ⟨_, _, rfl, (by cases h <;> cases t <;> decide +kernel:decide (k9 h t=w "call")=false)⟩
 | rk o=>exact ⟨_, _, rfl, (by cases o <;> decide +kernel:decide (dU o=w "call")=false)⟩
 | call _ _ _=>exact ⟨_, _, rfl, (by decide +kernel:decide (w "call" = w "call")=true)⟩
 | num _=>exact ⟨_, _, rfl, (by decide +kernel:decide (w "number" = w "call")=false)⟩
 | loc _=>exact ⟨_, _, rfl, (by decide +kernel:decide (w "local" = w "call")=false)⟩
 | keep=>exact ⟨_, _, rfl, (by decide +kernel:decide (w "keep" = w "call")=false)⟩
 | drop=>exact ⟨_, _, rfl, (by decide +kernel:decide (w "drop" = w "call")=false)⟩
 | nil=>exact ⟨_, _, rfl, (by decide +kernel:decide (w "nil" = w "call")=false)⟩
 | ai=>exact ⟨_, _, rfl, (by decide +kernel:decide (w "open" = w "call")=false)⟩
 | rA=>exact ⟨_, _, rfl, (by decide +kernel:decide (w "shut" = w "call")=false)⟩
 | back=>exact ⟨_, _, rfl, (by decide +kernel:decide (w "back" = w "call")=false)⟩
theorem KL {kvs:List (Ky×D)} {n:Nat} {j:Int} {v:D} (he:ev Φ e Z M=.ok (.ref n) M) (hx:ev Φ e' Z M=.ok (.int j) M) (h:M[n]? = some (.dct kvs)) (hl:look kvs (.inl j)=some v):ev Φ (.idx e e') Z M=.ok v M:=by
 rw [lN,he,R.af,hx,R.af]
 simp only [mC,vw,h,keyOf,hl]
theorem uE {ch:MH->Bool} {t o od b r:Option D} {kvs:List (Ky×D)} (hch:∀ M,ch M=true):∀ (rs acc:List Rw) (x:Option D),(∀ r∈rs,∀ to m is,r=.call to m is->∃ b:Int,look kvs (.inl to)=some (.int b))->acc.length+rs.length<=90000 ->
  ∃ x',aG (exs (aa ah (k+2)) Mh) [8] ch (rs.map Rw.d) (sC fs M t o r od b (some (.ref (M.length+1))) x) (M++[.dct kvs]++[.lst (acc.map Rw.d)])=.ok (.nx (sC fs M t o r od b (some (.ref (M.length+1))) x')) (M++[.dct kvs]++[.lst ((acc++rs.map (tr kvs)).map Rw.d)])
 | [],acc,x,_,_=>⟨x,by simp [aG]⟩
 | a::rs, acc, x, hc, hl=>by
  simp only [List.length_cons] at hl
  obtain ⟨x',q⟩:=uE (t:=t) (o:=o) (od:=od) (b:=b) (r:=r) hch rs (acc++[tr kvs a]) (some (tr kvs a).d) (fun r hr=>hc r (List.mem_cons_of_mem _ hr)) (by simp;omega)
  refine ⟨x',?_⟩
  obtain ⟨z,rest,hd,hw⟩:=AI a
  let Ay:MH:=M++[.dct kvs]++[.lst (acc.map Rw.d)]
  have gd:Ay[M.length]? = some (.dct kvs):=by simp [Ay]
  have c1:ev (aa ah (k+2)) (.cmp .eq (.idx (.v 8) (.k (.int 0))) (.k (.str (w "call")))) (sC fs M t o r od b (some (.ref (M.length+1))) (some a.d)) Ay=.ok (.bl (Ho a)) Ay:=by
   rw [<- hw]
   exact z8 (aY (xs:=.str z::rest) (by rw [<- hd];rfl) rfl dh)
  have hML:(M++[MO.dct kvs]).length=M.length+1:=by simp
  have fin:∀ {d:D},ev (aa ah (k+2)) (.aW .append true (.v 7) (.cons (.v 8) .nil)) (sC fs M t o r od b (some (.ref (M.length+1))) (some d)) Ay=.ok .aq (M++[.dct kvs]++[.lst (acc.map Rw.d++[d])]):=fun {d}=>kE (M:=M++[.dct kvs]) (acc:=acc.map Rw.d) (by rw [hML];rfl) rfl (by rw [List.length_map];omega)
  have eb:exs (aa ah (k+2)) Mh (sC fs M t o r od b (some (.ref (M.length+1))) (some a.d)) Ay=.ok (.nx (sC fs M t o r od b (some (.ref (M.length+1))) (some (tr kvs a).d))) (M++[.dct kvs]++[.lst ((acc++[tr kvs a]).map Rw.d)]):=by
   have em:(acc++[tr kvs a]).map Rw.d=acc.map Rw.d++[(tr kvs a).d]:=by simp
   rw [em]
   cases hi:Ho a with
   | false =>
    have et:tr kvs a=a:=by cases a <;> first | rfl | cases hi
    rw [et]
    rw [hi] at c1
    exact (cV c1).trans ((bx fin).trans rfl)
   | true =>
    rw [hi] at c1
    cases a with
    | call to m is =>
     obtain ⟨bb,hb⟩:=hc _ List.mem_cons_self to m is rfl
     have et:tr kvs (.call to m is)=.call bb m is:=by simp only [tr,hb]
     rw [et]
     have c2:ev (aa ah (k+2)) (.idx (.v 3) (.idx (.v 8) (.k (.int 1)))) (sC fs M t o r od b (some (.ref (M.length+1))) (some (Rw.call to m is).d)) Ay=.ok (.int bb) Ay:=KL rfl (aY rfl rfl lW) gd hb
     have c3:ev (aa ah (k+2)) (.tup (.cons (.k (.str (w "call"))) (.cons (.idx (.v 3) (.idx (.v 8) (.k (.int 1)))) (.cons (.idx (.v 8) (.k (.int 2))) (.cons (.idx (.v 8) (.k (.int 3))) .nil))))) (sC fs M t o r od b (some (.ref (M.length+1))) (some (Rw.call to m is).d)) Ay=.ok (Rw.call bb m is).d Ay:=by
      rw [bL, aQ (x:=.str (w "call")) rfl (aQ c2 (aQ (x:=.int (m:Int)) (aY rfl rfl vp) (aQ (x:=.tup (is.map fun (n:Nat)=>D.int n)) (aY rfl rfl LF) rfl)))];rfl
     exact (iK c1 ((av c3).trans rfl)).trans ((bx fin).trans rfl)
    | _=>cases hi
  rw [List.map_cons,aG]
  show (exs (aa ah (k+2)) Mh (sC fs M t o r od b (some (.ref (M.length+1))) (some a.d)) Ay).bind _=_
  rw [eb]
  simp only [R.af,hch,if_true]
  rw [q]
  simp
end
end bA
end
section
namespace bA
open Fg PySem
theorem d7 {α:Type} {f:α->α}:∀ {ds:List α},(∀ d∈ds,f d=d)->ds.map f=ds
 | [],_=>rfl
 | d::ds,h=>by rw [List.map_cons,h d List.mem_cons_self,d7 fun e he=>h e (List.mem_cons_of_mem _ he)]
theorem tG {more:Nat} {ks:List Nat} {r:Rw} (h:r∈dI more ks):Ho r=false:=by
 obtain ⟨k,_,hk⟩:=List.mem_flatMap.mp h
 simp only [List.mem_cons,List.not_mem_nil,or_false] at hk
 rcases hk with rfl | rfl <;> rfl
theorem uC {f:Fc} {r:Rw} (h:r∈fX f):Ho r=false:=by
 unfold fX at h
 split at h
 ·obtain ⟨k,_,hk⟩:=List.mem_flatMap.mp h
  simp only [List.mem_cons,List.not_mem_nil,or_false] at hk
  rcases hk with rfl | rfl | rfl | rfl | rfl | rfl <;> rfl
 ·cases h
theorem Dw {kvs:List (Ky×D)} {r:Rw} (h:Ho r=false):tr kvs r=r:=by cases r <;> first | rfl | cases h
section
variable {kvs:List (Ky×D)} {f:Fc} {x b:Nat}
theorem call_in {to:Int} {m:Nat} {is:List Nat} (h:Rw.call to m is∈bU f x):f.last=false/\to=(x:Int):=by
 have hc:∀ {l:List Rw},(∀ r∈l,Ho r=false)->Rw.call to m is∈l->False:=fun hl hm=>by cases hl _ hm
 unfold bU at h
 rcases List.mem_cons.mp h with h | h
 ·cases h
 rcases List.mem_append.mp h with h | h
 ·exact (hc (fun r hr=>tG hr) h).elim
 rcases List.mem_cons.mp h with h | h
 ·cases h
 rcases List.mem_append.mp h with h | h
 ·exact (hc (fun r hr=>by rw [(List.mem_replicate.mp hr).2];rfl) h).elim
 rcases List.mem_append.mp h with h | h
 ·exact (hc (fun r hr=>uC hr) h).elim
 rcases List.mem_cons.mp h with h | h
 ·cases h
 rcases List.mem_append.mp h with h | h
 ·unfold dz at h
  cases hl:f.last with
  | true=>rw [hl] at h;cases h
  | false =>
   rw [hl] at h
   rcases List.mem_append.mp h with h | h
   ·obtain ⟨_,_,q⟩:=List.mem_map.mp h;cases q
   ·simp only [List.mem_cons,List.not_mem_nil,or_false] at h
    rcases h with h | h
    ·cases h;exact ⟨rfl,rfl⟩
    ·cases h
 rcases List.mem_append.mp h with h | h
 ·exact (hc (fun r hr=>by rw [(List.mem_replicate.mp hr).2];rfl) h).elim
 ·simp only [List.mem_cons,List.not_mem_nil,or_false] at h
  cases h
theorem yM (h:f.last=true\/look kvs (.inl (x:Int))=some (.int (b:Int))):(bU f x).map (tr kvs)=bU f b:=by
 have h1:(dI f.more (List.range f.many)).map (tr kvs)=dI f.more (List.range f.many):=d7 fun r hr=>Dw (tG hr)
 have h2:(fX f).map (tr kvs)=fX f:=d7 fun r hr=>Dw (uC hr)
 have h3:(dz f x).map (tr kvs)=dz f b:=by
  unfold dz
  cases hl:f.last with
  | true=>rfl
  | false =>
   rcases h with h | h
   ·rw [hl] at h;cases h
   ·simp only [Bool.false_eq_true,if_false,List.map_append,List.map_map,List.map_cons,List.map_nil]
    congr 1
    simp only [tr,h]
 unfold bU
 simp only [List.map_cons,List.map_append,h1,h2,h3,List.map_replicate,List.map_nil]
 rfl
end
section
variable {M M1 M2:MH} {k:Nat} {Φ:aS} {Z:Sg} {e e':E} {fs:List Fc}
theorem y9 {kvs:List (Ky×D)} {acc:List Rw} {ks:List Nat} (B:Bk fs ks kvs acc) (hk:∀ j,j<fs.length->j∈ks) (hla:∀ j f,fs[j]? = some f->f.last=decide (j+1=fs.length)):∀ (rest pre:List Fc),fs=pre++rest->rest≠[]->∃ b:Nat,look kvs (.inl (pre.length:Int))=some (.int (b:Int))/\Lay (acc.map (tr kvs)) rest b
 | [],_,_,h=>absurd rfl h
 | [f],pre,he,_=>by
  have hg:fs[pre.length]? = some f:=by rw [he];simp
  obtain ⟨f',b,h1,h2,h3⟩:=B.at_ pre.length (hk _ (List.getElem?_eq_some_iff.mp hg).1)
  rw [hg] at h1;cases h1
  have hl:f.last=true:=by rw [hla _ _ hg];exact decide_eq_true (by rw [he];simp)
  have:=h3.map (g:=tr kvs)
  rw [yM (b:=0) (.inl hl)] at this
  exact ⟨b,h2,.last this⟩
 | f::g::rest,pre,he,_=>by
  have hg:fs[pre.length]? = some f:=by rw [he];simp
  obtain ⟨f',b,h1,h2,h3⟩:=B.at_ pre.length (hk _ (List.getElem?_eq_some_iff.mp hg).1)
  rw [hg] at h1;cases h1
  obtain ⟨b',q1,q2⟩:=y9 B hk hla (g::rest) (pre++[f]) (by rw [he];simp) (by simp)
  rw [List.length_append,List.length_singleton] at q1
  have:=h3.map (g:=tr kvs)
  rw [yM (b:=b') (.inr q1)] at this
  exact ⟨b,h2,.cons this q2⟩
theorem Ia {turned:Bool} {outer:Nat} (hz:∀ f∈fs,Sz f) (hn:fs.length<=50) (h0:fs≠[]) (hla:∀ j f,fs[j]? = some f->f.last=decide (j+1=fs.length)) :
  ∃ (rs:List Rw) (b:Nat) (kvs:List (Ky×D)),(aa ah (k+3)).call 29 [.lst (fs.map Fc.d),.bl turned,.int (outer:Int)] M=.ok (.tup [.ref (M.length+1),.int (b:Int),.int (outer:Int)]) (M++[.dct kvs]++[.lst (rs.map Rw.d)])/\Lay rs fs b/\rs.length<=3000:=by
 have e3:ev (aa ah (k+2)) (.yS true (.blt .len true (.cons (.v 0) .nil))) (sC fs M (some (.bl turned)) (some (.int (outer:Int))) (some (dR [])) none none none none) (M++[.dct []])=.ok (.lst (nats (List.range fs.length))) (M++[.dct []]):=by
  have q:ev (aa ah (k+2)) (.blt .len true (.cons (.v 0) .nil)) (sC fs M (some (.bl turned)) (some (.int (outer:Int))) (some (dR [])) none none none none) (M++[.dct []])=.ok (.int (fs.length:Int)) (M++[.dct []]):=by
   rw [lR (ds:=fs.map Fc.d) rfl,List.length_map]
  rw [zR,q,R.af]
  simp only [iM (by omega:fs.length<=1000000),if_true,ja];rfl
 let ks:List Nat:=if turned then (List.range fs.length).reverse else List.range fs.length
 have hks:∀ j,j∈ks↔j<fs.length:=fun j=>by simp only [ks];split <;> simp
 have hkn:ks.Nodup:=by
  simp only [ks];split
  ·exact List.pairwise_reverse.mpr (List.nodup_range.imp fun h=>h.symm)
  ·exact List.nodup_range
 have hkl:ks.length=fs.length:=by simp only [ks];split <;> simp
 have e4:ex (aa ah (k+2)) (.ifs (.v 1) (.cons (.set 5 (.rv true (.v 5))) .nil) .nil) (sC fs M (some (.bl turned)) (some (.int (outer:Int))) (some (dR [])) (some (.lst (nats (List.range fs.length)))) none none none) (M++[.dct []])=.ok (.nx (sC fs M (some (.bl turned)) (some (.int (outer:Int))) (some (dR [])) (some (.lst (nats ks))) none none none)) (M++[.dct []]):=by
  rw [cF,e_v (d:=.bl turned) rfl,R.aT]
  cases turned with
  | false=>rfl
  | true =>
   have:ev (aa ah (k+2)) (.rv true (.v 5)) (sC fs M (some (.bl true)) (some (.int (outer:Int))) (some (dR [])) (some (.lst (nats (List.range fs.length)))) none none none) (M++[.dct []])=.ok (.lst (nats ks)) (M++[.dct []]):=by
    rw [K9,e_v (d:=.lst (nats (List.range fs.length))) rfl,R.af]
    show R.ok (D.lst (nats (List.range fs.length)).reverse) (M++[.dct []])=_
    simp only [ks,nats,if_true,List.map_reverse]
   exact (av this).trans rfl
 obtain ⟨kvs,acc,b5,B,q5⟩:=vj (k:=k) (M:=M) (fs:=fs) (t:=some (.bl turned)) (o:=some (.int (outer:Int))) (od:=some (.lst (nats ks))) (l:=none) (w:=none) (ch:=aI (M++[.dct []]) (.lst (nats ks))) (fun _=>rfl) hz ks [] [] [] none (fun j hj=>(hks j).mp hj) (fun j _=>by simp) hkn (by rw [hkl];simp;omega) ⟨fun j hj=>(by cases hj),fun r hr=>(by cases hr),by simp,by simp⟩
 rw [List.nil_append] at B
 have e5:=fun ss=>iL (Φ:=aa ah (k+2)) (ss:=ss) (Z:=sC fs M (some (.bl turned)) (some (.int (outer:Int))) (some (dR [])) (some (.lst (nats ks))) none none none) (M:=M++[.dct []]) (it:=.e (.v 5)) (tg:=[6]) (b:=MP) (d:=.lst (nats ks)) (ds:=nats ks) (M1:=M++[.dct []]) rfl q5
 have hcal:∀ r∈acc,∀ to m is,r=Rw.call to m is->∃ b:Int,look kvs (.inl to)=some (.int b):=fun r hr to m is e=>by
  subst e
  obtain ⟨j,f,h1,h2,h3⟩:=B.mem _ hr
  obtain ⟨q1,q2⟩:=call_in h3
  have hj:=(hks j).mp h1
  rw [hla j f h2] at q1
  have q1':=of_decide_eq_false q1
  obtain ⟨_,b,_,h5,_⟩:=B.at_ (j+1) ((hks (j+1)).mpr (by omega))
  exact ⟨b,by rw [q2];exact h5⟩
 have hal:=B.len
 rw [hkl] at hal
 obtain ⟨x',q7⟩:=uE (k:=k) (M:=M) (fs:=fs) (t:=some (.bl turned)) (o:=some (.int (outer:Int))) (od:=some (.lst (nats ks))) (b:=b5) (r:=some (dR acc)) (kvs:=kvs) (ch:=aI (M++[.dct kvs]++[.lst []]) (dR acc)) (fun _=>rfl) acc [] none hcal (by simp;omega)
 have hML:(M++[MO.dct kvs]).length=M.length+1:=by simp
 have e6:ev (aa ah (k+2)) (.lst false .nil) (sC fs M (some (.bl turned)) (some (.int (outer:Int))) (some (dR acc)) (some (.lst (nats ks))) b5 none none) (M++[.dct kvs])=.ok (.ref (M.length+1)) (M++[.dct kvs]++[.lst []]):=by
  rw [<- hML];rfl
 have e7:=fun ss=>iL (Φ:=aa ah (k+2)) (ss:=ss) (Z:=sC fs M (some (.bl turned)) (some (.int (outer:Int))) (some (dR acc)) (some (.lst (nats ks))) b5 (some (.ref (M.length+1))) none) (M:=M++[.dct kvs]++[.lst []]) (it:=.e (.v 4)) (tg:=[8]) (b:=Mh) (d:=dR acc) (ds:=acc.map Rw.d) (M1:=M++[.dct kvs]++[.lst []]) rfl q7
 rw [List.nil_append] at e7
 obtain ⟨b,hb,L⟩:=y9 B (fun j hj=>(hks j).mpr hj) hla fs [] rfl h0
 have gd:(M++[MO.dct kvs]++[MO.lst ((acc.map (tr kvs)).map Rw.d)])[M.length]? = some (.dct kvs):=by simp
 have e8:ev (aa ah (k+2)) (.tup (.cons (.v 7) (.cons (.idx (.v 3) (.k (.int 0))) (.cons (.v 2) .nil)))) (sC fs M (some (.bl turned)) (some (.int (outer:Int))) (some (dR acc)) (some (.lst (nats ks))) b5 (some (.ref (M.length+1))) x') (M++[.dct kvs]++[.lst ((acc.map (tr kvs)).map Rw.d)])=.ok (.tup [.ref (M.length+1),.int (b:Int),.int (outer:Int)]) (M++[.dct kvs]++[.lst ((acc.map (tr kvs)).map Rw.d)]):=by
  rw [bL,aQ (x:=.ref (M.length+1)) rfl (aQ (x:=.int (b:Int)) (KL rfl rfl gd hb) (aQ (x:=.int (outer:Int)) rfl rfl))];rfl
 refine ⟨acc.map (tr kvs),b,kvs,b6 fn29 rfl ((av rfl).trans ((av rfl).trans ((av e3).trans ((bQ e4).trans ((e5 _).trans ((av e6).trans ((e7 _).trans (ck e8)))))))) ?_,L,by rw [List.length_map];omega⟩
 have nn:¬ nr M.length (.tup [.ref (M.length+1),.int (b:Int),.int (outer:Int)])=true:=by simp [nr,iN]
 exact (if_pos ⟨rfl,by simp⟩).trans (if_neg nn)
end
end bA
end
section
namespace bA
open Fg PySem
noncomputable def ML (A B:MH) (log:List D):MH:=A++.lst log::B
noncomputable abbrev dB (fs hd fl lg op:Option D) (f:Fc) (mu kk lh got:Option D):Sg:=[fs,hd,fl,lg,op,some (.int (f.many:Int)),some (.int (f.outer:Int)),some (.int (f.opens:Int)),some (.lst (nats f.handed)),some (.lst (nats f.args)),some (.int (f.ie:Int)),some (.int (f.more:Int)),some (.bl f.last),mu,kk,lh,got]
section
variable {A B:MH} {k:Nat} {Φ:aS} {Z:Sg} {e e':E} {fs:List Fc} {log:List D} {f:Fc} {a0 a1 a2 j4 j0 jZ:Option D}
theorem yJ:(ML A B log)[A.length]? = some (.lst log):=by simp [ML]
theorem Gr {Cn:List D}:(ML A B log).set A.length (.lst Cn)=ML A B Cn:=by simp [ML,List.set_append_right]
theorem Gs {Cn:List D}:(ML A B log).length=(ML A B Cn).length:=by simp [ML]
theorem kF {d:D} {i:Nat} (hi:Z[i]? = some (some (.ref A.length))) (he:ev Φ e Z (ML A B log)=.ok d (ML A B log)) (hl:log.length<100000):ev Φ (.aW .append true (.v i) (.cons e .nil)) Z (ML A B log)=.ok .aq (ML A B (log++[d])):=by
 rw [lS (e_v hi) yJ he yJ (Nat.lt_of_lt_of_le hl (by decide)),Gr]
noncomputable def opB:Ss:=.cons (.ex (.aW .append true (.v 3) (.cons (.tup (.cons (.k (.str (w "open"))) (.cons (.op .add true (.v 4) (.v 14)) .nil))) .nil))) .nil
theorem uq {o:Nat} {ch:MH->Bool} (hch:∀ M,ch M=true):∀ (ks:List Nat) (log:List D) (b:Option D),log.length+ks.length<=90000->∃ b',aG (exs (aa ah k) opB) [14] ch (nats ks) (dB a0 a1 a2 (some (.ref A.length)) (some (.int (o:Int))) f j4 b j0 jZ) (ML A B log)=.ok (.nx (dB a0 a1 a2 (some (.ref A.length)) (some (.int (o:Int))) f j4 b' j0 jZ)) (ML A B (log++ks.map fun j=>kg (o+j)))
 | [],log,b,_=>⟨b,by simp [aG,nats]⟩
 | j::ks,log,b,hl=>by
  simp only [List.length_cons] at hl
  obtain ⟨b',q⟩:=uq (o:=o) hch ks (log++[kg (o+j)]) (some (.int (j:Int))) (by simp;omega)
  refine ⟨b',?_⟩
  have c1:ev (aa ah k) (.op .add true (.v 4) (.v 14)) (dB a0 a1 a2 (some (.ref A.length)) (some (.int (o:Int))) f j4 (some (.int (j:Int))) j0 jZ) (ML A B log)=.ok (.int ((o+j:Nat):Int)) (ML A B log):=aU rfl rfl
  have c2:=kF (Φ:=aa ah k) (A:=A) (B:=B) (log:=log) (Z:=dB a0 a1 a2 (some (.ref A.length)) (some (.int (o:Int))) f j4 (some (.int (j:Int))) j0 jZ) (i:=3) (e:=.tup (.cons (.k (.str (w "open"))) (.cons (.op .add true (.v 4) (.v 14)) .nil))) (d:=kg (o+j)) rfl (by rw [bL, aQ (x:=.str (w "open")) rfl (aQ c1 rfl)];rfl) (by omega)
  have eb:exs (aa ah k) opB (dB a0 a1 a2 (some (.ref A.length)) (some (.int (o:Int))) f j4 (some (.int (j:Int))) j0 jZ) (ML A B log)=.ok (.nx (dB a0 a1 a2 (some (.ref A.length)) (some (.int (o:Int))) f j4 (some (.int (j:Int))) j0 jZ)) (ML A B (log++[kg (o+j)])):=(bx c2).trans rfl
  rw [show nats (j::ks)=.int (j:Int)::nats ks from rfl,aG]
  show (exs (aa ah k) opB (dB a0 a1 a2 (some (.ref A.length)) (some (.int (o:Int))) f j4 (some (.int (j:Int))) j0 jZ) (ML A B log)).bind _=_
  rw [eb]
  simp only [R.af,hch,if_true]
  rw [q];simp
noncomputable def IM:E:=.idx (.v 2) (.op .mod true (.op .add true (.v 11) (.v 14)) (.blt .len true (.cons (.v 2) .nil)))
noncomputable def LV:Ss:=.cons (.ex (.aW .append true (.v 3) (.cons (.tup (.cons (.k (.str (w "lay"))) (.cons IM .nil))) .nil))) (.cons (.ex (.aW .append true (.v 3) (.cons (.tup (.cons (.k (.str (w "look"))) (.cons IM .nil))) .nil))) .nil)
theorem sZ {op:Option D} {fl:List Nat} {ch:MH->Bool} (hch:∀ M,ch M=true) (h0:0<fl.length):∀ (ks:List Nat) (log:List D) (b:Option D),log.length+2*ks.length<=90000->∃ b',aG (exs (aa ah k) LV) [14] ch (nats ks) (dB a0 a1 (some (.lst (nats fl))) (some (.ref A.length)) op f j4 b j0 jZ) (ML A B log)=.ok (.nx (dB a0 a1 (some (.lst (nats fl))) (some (.ref A.length)) op f j4 b' j0 jZ)) (ML A B (log++ks.flatMap fun j=>[v5 (fl.getD ((f.more+j) % fl.length) 0),yU (fl.getD ((f.more+j) % fl.length) 0)]))
 | [],log,b,_=>⟨b,by simp [aG,nats]⟩
 | j::ks,log,b,hl=>by
  simp only [List.length_cons] at hl
  generalize hx:fl.getD ((f.more+j) % fl.length) 0=x
  obtain ⟨b',q⟩:=sZ (op:=op) hch h0 ks (log++[v5 x]++[yU x]) (some (.int (j:Int))) (by simp;omega)
  refine ⟨b',?_⟩
  have hm:(f.more+j) % fl.length<fl.length:=Nat.mod_lt _ h0
  have hg:fl[(f.more+j) % fl.length]? = some x:=by
   rw [<- hx,List.getElem?_eq_getElem hm,List.getD_eq_getElem?_getD,List.getElem?_eq_getElem hm];rfl
  have c1:∀ {lg:List D},ev (aa ah k) IM (dB a0 a1 (some (.lst (nats fl))) (some (.ref A.length)) op f j4 (some (.int (j:Int))) j0 jZ) (ML A B lg)=.ok (.int (x:Int)) (ML A B lg):=fun {lg}=>fR (xs:=nats fl) rfl (bu (aU rfl rfl) (gC rfl) h0) (gk hg)
  have c2:=kF (Φ:=aa ah k) (A:=A) (B:=B) (log:=log) (Z:=dB a0 a1 (some (.lst (nats fl))) (some (.ref A.length)) op f j4 (some (.int (j:Int))) j0 jZ) (i:=3) (e:=.tup (.cons (.k (.str (w "lay"))) (.cons IM .nil))) (d:=v5 x) rfl (by rw [bL, aQ (x:=.str (w "lay")) rfl (aQ c1 rfl)];rfl) (by omega)
  have c3:=kF (Φ:=aa ah k) (A:=A) (B:=B) (log:=log++[v5 x]) (Z:=dB a0 a1 (some (.lst (nats fl))) (some (.ref A.length)) op f j4 (some (.int (j:Int))) j0 jZ) (i:=3) (e:=.tup (.cons (.k (.str (w "look"))) (.cons IM .nil))) (d:=yU x) rfl (by rw [bL, aQ (x:=.str (w "look")) rfl (aQ c1 rfl)];rfl) (by simp;omega)
  have eb:exs (aa ah k) LV (dB a0 a1 (some (.lst (nats fl))) (some (.ref A.length)) op f j4 (some (.int (j:Int))) j0 jZ) (ML A B log)=.ok (.nx (dB a0 a1 (some (.lst (nats fl))) (some (.ref A.length)) op f j4 (some (.int (j:Int))) j0 jZ)) (ML A B (log++[v5 x]++[yU x])):=(bx c2).trans ((bx c3).trans rfl)
  rw [show nats (j::ks)=.int (j:Int)::nats ks from rfl,aG]
  show (exs (aa ah k) LV (dB a0 a1 (some (.lst (nats fl))) (some (.ref A.length)) op f j4 (some (.int (j:Int))) j0 jZ) (ML A B log)).bind _=_
  rw [eb]
  simp only [R.af,hch,if_true]
  rw [q];simp only [List.flatMap_cons,hx,List.append_assoc,List.cons_append,List.nil_append]
noncomputable def shB:Ss:=.cons (.ex (.aW .append true (.v 3) (.cons (.tup (.cons (.k (.str (w "shut"))) (.cons (.idx (.v 2) (.op .sub true (.neg (.k (.int 1))) (.v 14))) .nil))) .nil))) .nil
theorem tT {op:Option D} {fl:List Nat} {ch:MH->Bool} (hch:∀ M,ch M=true):∀ (ks:List Nat) (log:List D) (b:Option D),(∀ j∈ks,j<fl.length)->log.length+ks.length<=90000->∃ b',aG (exs (aa ah k) shB) [14] ch (nats ks) (dB a0 a1 (some (.lst (nats fl))) (some (.ref A.length)) op f j4 b j0 jZ) (ML A B log)=.ok (.nx (dB a0 a1 (some (.lst (nats fl))) (some (.ref A.length)) op f j4 b' j0 jZ)) (ML A B (log++ks.map fun j=>l9 (fl.getD (fl.length-1-j) 0)))
 | [],log,b,_,_=>⟨b,by simp [aG,nats]⟩
 | j::ks,log,b,hk,hl=>by
  simp only [List.length_cons] at hl
  have hj:=hk j List.mem_cons_self
  generalize hx:fl.getD (fl.length-1-j) 0=x
  obtain ⟨b',q⟩:=tT (op:=op) hch ks (log++[l9 x]) (some (.int (j:Int))) (fun i hi=>hk i (List.mem_cons_of_mem _ hi)) (by simp;omega)
  refine ⟨b',?_⟩
  have hm:fl.length-1-j<fl.length:=by omega
  have hg:fl[fl.length-1-j]? = some x:=by
   rw [<- hx,List.getElem?_eq_getElem hm,List.getD_eq_getElem?_getD,List.getElem?_eq_getElem hm];rfl
  have ha:cQ (nats fl) (-1-(j:Int))=some (.int (x:Int)):=by
   have hn:(nats fl).length=fl.length:=by simp [nats]
   unfold cQ wZ
   rw [hn,if_neg (by omega),if_pos (by omega)]
   show (nats fl)[((-1-(j:Int))+(fl.length:Int)).toNat]? = _
   have:((-1-(j:Int))+(fl.length:Int)).toNat=fl.length-1-j:=by omega
   rw [this,nats,List.getElem?_map,hg];rfl
  have c1:ev (aa ah k) (.idx (.v 2) (.op .sub true (.neg (.k (.int 1))) (.v 14))) (dB a0 a1 (some (.lst (nats fl))) (some (.ref A.length)) op f j4 (some (.int (j:Int))) j0 jZ) (ML A B log)=.ok (.int (x:Int)) (ML A B log):=fR (xs:=nats fl) rfl (lQ (a:=-1) rfl rfl) ha
  have c2:=kF (Φ:=aa ah k) (A:=A) (B:=B) (log:=log) (Z:=dB a0 a1 (some (.lst (nats fl))) (some (.ref A.length)) op f j4 (some (.int (j:Int))) j0 jZ) (i:=3) (e:=.tup (.cons (.k (.str (w "shut"))) (.cons (.idx (.v 2) (.op .sub true (.neg (.k (.int 1))) (.v 14))) .nil))) (d:=l9 x) rfl (by rw [bL, aQ (x:=.str (w "shut")) rfl (aQ c1 rfl)];rfl) (by omega)
  have eb:exs (aa ah k) shB (dB a0 a1 (some (.lst (nats fl))) (some (.ref A.length)) op f j4 (some (.int (j:Int))) j0 jZ) (ML A B log)=.ok (.nx (dB a0 a1 (some (.lst (nats fl))) (some (.ref A.length)) op f j4 (some (.int (j:Int))) j0 jZ)) (ML A B (log++[l9 x])):=(bx c2).trans rfl
  rw [show nats (j::ks)=.int (j:Int)::nats ks from rfl,aG]
  show (exs (aa ah k) shB (dB a0 a1 (some (.lst (nats fl))) (some (.ref A.length)) op f j4 (some (.int (j:Int))) j0 jZ) (ML A B log)).bind _=_
  rw [eb]
  simp only [R.af,hch,if_true]
  rw [q];simp only [List.map_cons,hx,List.append_assoc,List.singleton_append]
end
end bA
end
section
namespace bA
open Fg PySem
section
variable {A B:MH} {k:Nat} {Φ:aS} {Z:Sg} {e e':E} {M:MH}
theorem z9 {xs ys:List D} (h:ev Φ e Z M=.ok (.lst xs) M) (h':ev Φ e' Z M=.ok (.lst ys) M) (hl:xs.length+ys.length<=5000):ev Φ (.op .add true e e') Z M=.ok (.lst (xs++ys)) M:=by
 rw [eL,h,R.af,h',R.af]
 show (if decide (xs.length+ys.length<=line) then b7 true (xs++ys) M else .bad)=_
 rw [if_pos (decide_eq_true (Nat.le_trans hl (by decide)))];rfl
theorem yR {o n:Nat} (h:o+n<=100000) {e e':E} (h1:ev Φ e Z M=.ok (.int (o:Int)) M) (h2:ev Φ e' Z M=.ok (.int ((o+n:Nat):Int)) M):ev Φ (.Cm true e e') Z M=.ok (.lst (nats (List.range' o n))) M:=by
 rw [HF,h1,R.af,h2,R.af]
 have a1:mz (o:Int)=true:=iM (by omega)
 have a2:mz ((o+n:Nat):Int)=true:=iM (by omega)
 have a3:decide ((((o+n:Nat):Int)-(o:Int)).toNat<=line)=true:=decide_eq_true (Nat.le_trans (by omega:(((o+n:Nat):Int)-(o:Int)).toNat<=100000) (by decide))
 simp only [a1,a2,a3,Bool.and_self,if_true]
 show R.ok (D.lst (cW (o:Int) ((o+n:Nat):Int))) M=_
 congr 2
 unfold cW
 have:(((o+n:Nat):Int)-(o:Int)).toNat=n:=by omega
 rw [this,List.range'_eq_map_range,nats,List.map_map]
 apply List.map_congr_left
 intro i _
 simp only [Function.comp]
 congr 1
theorem qi {elt:E} {f:Nat->D} {i:Nat} {ch:MH->Bool} (hc:ch M=true) {ks:List Nat} {Z:Sg} (h:∀ j∈ks,ev Φ elt (Z.set i (some (.int (j:Int)))) M=.ok (f j) M) (hl:ks.length<=1000):bh (mE Φ .none) (ev Φ elt) [i] ch (nats ks) Z M []=.ok (ks.map f) M:=by
 have:=iO (Φ:=Φ) (M:=M) (elt:=elt) (f:=f) (i:=i) (ch:=ch) hc ks Z [] h (by simpa using hl)
 simpa using this
theorem BD {fl:List Nat} {o n:Nat}:(List.range n).map (fun j=>l9 ((fl++List.range' o n).getD ((fl++List.range' o n).length-1-j) 0))=(List.range' o n).reverse.map l9:=by
 apply List.ext_getElem
 ·simp
 ·intro i h1 h2
  have hi:i<n:=by simpa using h1
  have hlen:(fl++List.range' o n).length=fl.length+n:=by simp
  simp only [List.getElem_map,List.getElem_range,List.getElem_reverse,List.length_range',List.getElem_range',List.getD_eq_getElem?_getD]
  rw [hlen,List.getElem?_append_right (by omega),List.getElem?_eq_getElem (by simp;omega)]
  simp only [Option.getD_some,List.getElem_range']
  congr 1
  omega
theorem p9 {g h:Nat->D}:∀ (ks:List Nat),(ks.flatMap fun j=>[g j,h j]).length=2*ks.length
 | []=>rfl
 | j::ks=>by rw [List.flatMap_cons,List.length_append,p9 ks];simp;omega
theorem qj {f:Fc} {fl:List Nat}:(ig f fl).length=2*f.ie:=by
 unfold ig
 rw [p9 (g:=fun k=>v5 (fl.getD ((f.more+k) % fl.length) 0)) (h:=fun k=>yU (fl.getD ((f.more+k) % fl.length) 0)),List.length_range]
theorem jt:∀ (fs:List Fc) (held:List Int) (fl:List Nat) (o:Nat),(∀ f∈fs,Sz f)->(aJ fs held fl o).2.2.length<=8*fs.length
 | [],_,_,_,_=>by simp [aJ]
 | f::rest,held,fl,o,hs=>by
  obtain ⟨z1,z2,z3,z4,z5⟩:=hs f List.mem_cons_self
  rw [aJ.eq_2]
  simp only [List.length_append,List.length_map,List.length_range',List.length_reverse,List.length_cons]
  have h1:(if 0<fl.length+f.opens then ig f (fl++List.range' o f.opens) else []).length<=6:=by
   split
   ·rw [qj];omega
   ·simp
  have h2:(if f.last=true then ((0:Int),o+f.opens,([]:List D)) else aJ rest (f.args.map fun a=>(held++[eY f.more held]).getD a 0) (f.handed.map fun a=>(fl++List.range' o f.opens).getD a 0) (o+f.opens)).2.2.length<=8*rest.length:=by
   split
   ·simp
   ·exact jt rest _ _ _ fun g hg=>hs g (List.mem_cons_of_mem _ hg)
  omega
theorem HZ:∀ (fs:List Fc) (held:List Int) (fl:List Nat) (o:Nat) (log:List D),Wf fs held.length fl.length->(∀ f∈fs,Sz f)->held.length<=9->fl.length<=9->o+fs.length<=1000->log.length+20*fs.length<=80000 ->
  (aa ah (k+fs.length+2)).call 30 [.lst (fs.map Fc.d),.lst (di held),.lst (nats fl),.ref A.length,.int (o:Int)] (ML A B log)=.ok (.tup [.int (aJ fs held fl o).1,.int ((aJ fs held fl o).2.1:Int)]) (ML A B (log++(aJ fs held fl o).2.2)):=by
 intro fs
 induction fs with
 | nil=>intro held fl o log hw;cases hw
 | cons f rest ih =>
  intro held fl o log hw hs hh hf ho hl
  obtain ⟨z1,z2,z3,z4,z5⟩:=hs f List.mem_cons_self
  simp only [List.length_cons] at ho hl
  have hmo:f.many=held.length/\f.outer=fl.length:=by
   cases hw with
   | last _ w2 w3=>exact ⟨w2,w3⟩
   | cons _ w2 w3 _ _ _=>exact ⟨w2,w3⟩
  generalize hk:k+rest.length+2=kk at ih
  have ek:k+(f::rest).length+2=kk+1:=by rw [<- hk,List.length_cons];omega
  rw [ek]
  let D0:Option D:=some (.lst ((f::rest).map Fc.d))
  let lg:Option D:=some (.ref A.length)
  have u1:ex (aa ah kk) (.tu [5,6,7,8,9,10,11,12] (.idx (.v 0) (.k (.int 0)))) [D0,some (.lst (di held)),some (.lst (nats fl)),lg,some (.int (o:Int)),none,none,none,none,none,none,none,none,none,none,none,none] (ML A B log)=.ok (.nx (dB D0 (some (.lst (di held))) (some (.lst (nats fl))) lg (some (.int (o:Int))) f none none none none)) (ML A B log):=by
   rw [sj,fR (xs:=(f::rest).map Fc.d) (d:=f.d) rfl rfl dh];rfl
  generalize hv:eY f.more held=v
  have c1:ev (aa ah kk) (.call 27 (.cons (.v 11) (.cons (.v 1) .nil))) (dB D0 (some (.lst (di held))) (some (.lst (nats fl))) lg (some (.int (o:Int))) f none none none none) (ML A B log)=.ok (.int v) (ML A B log):=by
   rw [bC,aQ (x:=.int (f.more:Int)) rfl (aQ (x:=.lst (di held)) rfl rfl),R.af,<- hk,<- hv];exact Ly (by omega)
  have c2:ev (aa ah kk) (.op .add true (.v 1) (.lst true (.cons (.v 13) .nil))) (dB D0 (some (.lst (di held))) (some (.lst (nats fl))) lg (some (.int (o:Int))) f (some (.int v)) none none none) (ML A B log)=.ok (.lst (di (held++[v]))) (ML A B log):=by
   have:=z9 (Φ:=aa ah kk) (Z:=dB D0 (some (.lst (di held))) (some (.lst (nats fl))) lg (some (.int (o:Int))) f (some (.int v)) none none none) (M:=ML A B log) (e:=.v 1) (e':=.lst true (.cons (.v 13) .nil)) (xs:=di held) (ys:=[.int v]) rfl rfl (by simp;omega)
   rw [this];simp [di]
  generalize hfl:fl++List.range' o f.opens=b9
  have lfl:b9.length=f.outer+f.opens:=by rw [<- hfl];simp [hmo.2]
  have c3:ev (aa ah kk) (.op .add true (.v 2) (.Cm true (.v 4) (.op .add true (.v 4) (.v 7)))) (dB D0 (some (.lst (di (held++[v])))) (some (.lst (nats fl))) lg (some (.int (o:Int))) f (some (.int v)) none none none) (ML A B log)=.ok (.lst (nats b9)) (ML A B log):=by
   have:=z9 (Φ:=aa ah kk) (Z:=dB D0 (some (.lst (di (held++[v])))) (some (.lst (nats fl))) lg (some (.int (o:Int))) f (some (.int v)) none none none) (M:=ML A B log) (e:=.v 2) (xs:=nats fl) (ys:=nats (List.range' o f.opens)) rfl (yR (e:=.v 4) (e':=.op .add true (.v 4) (.v 7)) (by omega) rfl (aU rfl rfl)) (by simp [nats];omega)
   rw [this,<- hfl];simp [nats]
  obtain ⟨b1,q1⟩:=uq (k:=kk) (A:=A) (B:=B) (f:=f) (a0:=D0) (a1:=some (.lst (di (held++[v])))) (a2:=some (.lst (nats b9))) (j4:=some (.int v)) (j0:=none) (jZ:=none) (o:=o) (ch:=aI (ML A B log) .aq) (fun _=>rfl) (List.range f.opens) log none (by simp;omega)
  have i1:=cH (Φ:=aa ah kk) (Z:=dB D0 (some (.lst (di (held++[v])))) (some (.lst (nats b9))) lg (some (.int (o:Int))) f (some (.int v)) none none none) (M:=ML A B log) (M1:=ML A B log) (e:=.v 7) (n:=f.opens) rfl (by omega)
  have eop:(List.range f.opens).map (fun j=>kg (o+j))=(List.range' o f.opens).map kg:=by rw [List.range'_eq_map_range,List.map_map];rfl
  rw [eop] at q1
  generalize hl1:log++(List.range' o f.opens).map kg=fW at q1
  have ll1:fW.length<=log.length+1:=by rw [<- hl1];simp;omega
  have c4:ev (aa ah kk) (.op .add true (.v 4) (.v 7)) (dB D0 (some (.lst (di (held++[v])))) (some (.lst (nats b9))) lg (some (.int (o:Int))) f (some (.int v)) b1 none none) (ML A B fW)=.ok (.int ((o+f.opens:Nat):Int)) (ML A B fW):=aU rfl rfl
  have c5:ev (aa ah kk) (.cmp .gt (.blt .len true (.cons (.v 2) .nil)) (.k (.int 0))) (dB D0 (some (.lst (di (held++[v])))) (some (.lst (nats b9))) lg (some (.int ((o+f.opens:Nat):Int))) f (some (.int v)) b1 none none) (ML A B fW)=.ok (.bl (decide (0<b9.length))) (ML A B fW):=z7 (b:=0) (gC rfl) rfl
  generalize hl2:fW++(if 0<b9.length then ig f b9 else [])=log2
  have ll2:log2.length<=fW.length+6:=by
   rw [<- hl2];split
   ·rw [List.length_append,qj];omega
   ·simp
  have i2:∃ b2,ex (aa ah kk) (.ifs (.cmp .gt (.blt .len true (.cons (.v 2) .nil)) (.k (.int 0))) (.cons (.for [14] (.cR (.v 10)) LV) .nil) .nil) (dB D0 (some (.lst (di (held++[v])))) (some (.lst (nats b9))) lg (some (.int ((o+f.opens:Nat):Int))) f (some (.int v)) b1 none none) (ML A B fW)=.ok (.nx (dB D0 (some (.lst (di (held++[v])))) (some (.lst (nats b9))) lg (some (.int ((o+f.opens:Nat):Int))) f (some (.int v)) b2 none none)) (ML A B log2):=by
   by_cases h0:0<b9.length
   ·rw [decide_eq_true h0] at c5
    obtain ⟨b2,q2⟩:=sZ (k:=kk) (A:=A) (B:=B) (f:=f) (a0:=D0) (a1:=some (.lst (di (held++[v])))) (j4:=some (.int v)) (j0:=none) (jZ:=none) (op:=some (.int ((o+f.opens:Nat):Int))) (fl:=b9) (ch:=aI (ML A B fW) .aq) (fun _=>rfl) h0 (List.range f.ie) fW b1 (by simp;omega)
    have i3:=cH (Φ:=aa ah kk) (Z:=dB D0 (some (.lst (di (held++[v])))) (some (.lst (nats b9))) lg (some (.int ((o+f.opens:Nat):Int))) f (some (.int v)) b1 none none) (M:=ML A B fW) (M1:=ML A B fW) (e:=.v 10) (n:=f.ie) rfl (by omega)
    refine ⟨b2,?_⟩
    rw [cF,c5,R.aT,<- hl2,if_pos h0]
    exact (iL i3 q2).trans rfl
   ·rw [decide_eq_false h0] at c5
    refine ⟨b1,?_⟩
    rw [cF,c5,R.aT,<- hl2,if_neg h0,List.append_nil];rfl
  obtain ⟨b2,i2⟩:=i2
  let r:Int×Nat×List D:=if f.last then (0,o+f.opens,[]) else aJ rest (f.args.map fun a=>(held++[v]).getD a 0) (f.handed.map fun a=>b9.getD a 0) (o+f.opens)
  have ed:aJ (f::rest) held fl o=(v+r.1,r.2.1,(List.range' o f.opens).map kg++(if 0<b9.length then ig f b9 else [])++r.2.2++(List.range' o f.opens).reverse.map l9):=by
   rw [aJ.eq_2]
   simp only [hv,hfl,r]
  have i3:∃ LX LW,ex (aa ah kk) (.ifs (.not (.v 12)) (.cons (.set 15 (.comp true [1] [1] (.idx (.v 0) (.v 1)) (.e (.v 9)) .none)) (.cons (.tu [16,4] (.call 30 (.cons (.sl true (.v 0) (.some (.k (.int 1))) .none) (.cons (.v 15) (.cons (.comp true [2] [1] (.idx (.v 0) (.v 1)) (.e (.v 8)) .none) (.cons (.v 3) (.cons (.v 4) .nil))))))) (.cons (.set 13 (.op .add true (.v 13) (.v 16))) .nil))) .nil) (dB D0 (some (.lst (di (held++[v])))) (some (.lst (nats b9))) lg (some (.int ((o+f.opens:Nat):Int))) f (some (.int v)) b2 none none) (ML A B log2)=.ok (.nx (dB D0 (some (.lst (di (held++[v])))) (some (.lst (nats b9))) lg (some (.int (r.2.1:Int))) f (some (.int (v+r.1))) b2 LX LW)) (ML A B (log2++r.2.2)):=by
   have n1:ev (aa ah kk) (.not (.v 12)) (dB D0 (some (.lst (di (held++[v])))) (some (.lst (nats b9))) lg (some (.int ((o+f.opens:Nat):Int))) f (some (.int v)) b2 none none) (ML A B log2)=.ok (.bl (!f.last)) (ML A B log2):=zY rfl
   cases hla:f.last with
   | true =>
    have er:r=(0,o+f.opens,[]):=by simp only [r,hla,if_true]
    refine ⟨none,none,?_⟩
    rw [cF,n1,R.aT,er,hla,Int.add_zero,List.append_nil];rfl
   | false =>
    have er:r=aJ rest (f.args.map fun a=>(held++[v]).getD a 0) (f.handed.map fun a=>b9.getD a 0) (o+f.opens):=by simp only [r,hla];rfl
    cases hw with
    | last w1 _ _=>rw [hla] at w1;cases w1
    | cons w1 w2 w3 w4 w5 w6 =>
     rename_i g fs
     have m1:ev (aa ah kk) (.comp true [1] [1] (.idx (.v 0) (.v 1)) (.e (.v 9)) .none) (dB D0 (some (.lst (di (held++[v])))) (some (.lst (nats b9))) lg (some (.int ((o+f.opens:Nat):Int))) f (some (.int v)) b2 none none) (ML A B log2)=.ok (.lst (di (f.args.map fun a=>(held++[v]).getD a 0))) (ML A B log2):=by
      refine (cO (d:=.lst (nats f.args)) (ds:=nats f.args) (M1:=ML A B log2) rfl (qi (f:=fun j=>.int ((held++[v]).getD j 0)) rfl (fun j hj=>?_) (by omega))).trans ?_
      ·exact fR (xs:=di (held++[v])) rfl rfl (dG (oM (by have:=w4 j hj;simp;omega)))
      ·rw [di,List.map_map];rfl
     have m2:ev (aa ah kk) (.comp true [2] [1] (.idx (.v 0) (.v 1)) (.e (.v 8)) .none) (dB D0 (some (.lst (di (held++[v])))) (some (.lst (nats b9))) lg (some (.int ((o+f.opens:Nat):Int))) f (some (.int v)) b2 (some (.lst (di (f.args.map fun a=>(held++[v]).getD a 0)))) none) (ML A B log2)=.ok (.lst (nats (f.handed.map fun a=>b9.getD a 0))) (ML A B log2):=by
      refine (cO (d:=.lst (nats f.handed)) (ds:=nats f.handed) (M1:=ML A B log2) rfl (qi (f:=fun j=>.int ((b9.getD j 0:Nat):Int)) rfl (fun j hj=>?_) (by omega))).trans ?_
      ·have hlt:j<b9.length:=by rw [lfl];exact w5 j hj
       exact fR (xs:=nats b9) rfl rfl (gk (by rw [List.getElem?_eq_getElem hlt,List.getD_eq_getElem?_getD,List.getElem?_eq_getElem hlt];rfl))
      ·rw [nats,List.map_map];rfl
     have m3:ev (aa ah kk) (.sl true (.v 0) (.some (.k (.int 1))) .none) (dB D0 (some (.lst (di (held++[v])))) (some (.lst (nats b9))) lg (some (.int ((o+f.opens:Nat):Int))) f (some (.int v)) b2 (some (.lst (di (f.args.map fun a=>(held++[v]).getD a 0)))) none) (ML A B log2)=.ok (.lst ((g::fs).map Fc.d)) (ML A B log2):=by
      rw [Ed,e_v (d:=.lst ((f::g::fs).map Fc.d)) rfl,R.af]
      show R.ok (D.lst (dg (f.d::(g::fs).map Fc.d) (some 1) none)) (ML A B log2)=_
      rw [HN]
     have m4:=ih (f.args.map fun a=>(held++[v]).getD a 0) (f.handed.map fun a=>b9.getD a 0) (o+f.opens) log2 (by rw [List.length_map,List.length_map];exact w6) (fun g hg=>hs g (List.mem_cons_of_mem _ hg)) (by rw [List.length_map];omega) (by rw [List.length_map];omega) (by simp at ho ⊢;omega) (by simp at hl ⊢;omega)
     rw [<- er] at m4
     have m5:ex (aa ah kk) (.tu [16,4] (.call 30 (.cons (.sl true (.v 0) (.some (.k (.int 1))) .none) (.cons (.v 15) (.cons (.comp true [2] [1] (.idx (.v 0) (.v 1)) (.e (.v 8)) .none) (.cons (.v 3) (.cons (.v 4) .nil))))))) (dB D0 (some (.lst (di (held++[v])))) (some (.lst (nats b9))) lg (some (.int ((o+f.opens:Nat):Int))) f (some (.int v)) b2 (some (.lst (di (f.args.map fun a=>(held++[v]).getD a 0)))) none) (ML A B log2)=.ok (.nx (dB D0 (some (.lst (di (held++[v])))) (some (.lst (nats b9))) lg (some (.int (r.2.1:Int))) f (some (.int v)) b2 (some (.lst (di (f.args.map fun a=>(held++[v]).getD a 0)))) (some (.int r.1)))) (ML A B (log2++r.2.2)):=by
      rw [sj,bC,aQ m3 (aQ (x:=.lst (di (f.args.map fun a=>(held++[v]).getD a 0))) rfl (aQ m2 (aQ (x:=.ref A.length) rfl (aQ (x:=.int ((o+f.opens:Nat):Int)) rfl rfl)))),R.af,m4];rfl
     have m6:ev (aa ah kk) (.op .add true (.v 13) (.v 16)) (dB D0 (some (.lst (di (held++[v])))) (some (.lst (nats b9))) lg (some (.int (r.2.1:Int))) f (some (.int v)) b2 (some (.lst (di (f.args.map fun a=>(held++[v]).getD a 0)))) (some (.int r.1))) (ML A B (log2++r.2.2))=.ok (.int (v+r.1)) (ML A B (log2++r.2.2)):=jI rfl rfl
     refine ⟨some (.lst (di (f.args.map fun a=>(held++[v]).getD a 0))),some (.int r.1),?_⟩
     rw [cF,n1,R.aT,hla]
     exact (av m1).trans ((bQ m5).trans ((av m6).trans rfl))
  obtain ⟨LX,LW,i3⟩:=i3
  have lr:(log2++r.2.2).length<=89000:=by
   have:r.2.2.length<=8*rest.length:=by
    simp only [r]
    split
    ·simp
    ·exact jt rest _ _ _ fun g hg=>hs g (List.mem_cons_of_mem _ hg)
   rw [List.length_append];omega
  obtain ⟨b4,q4⟩:=tT (k:=kk) (A:=A) (B:=B) (f:=f) (a0:=D0) (a1:=some (.lst (di (held++[v])))) (j4:=some (.int (v+r.1))) (j0:=LX) (jZ:=LW) (op:=some (.int (r.2.1:Int))) (fl:=b9) (ch:=aI (ML A B (log2++r.2.2)) .aq) (fun _=>rfl) (List.range f.opens) (log2++r.2.2) b2 (fun j hj=>by have:=List.mem_range.mp hj;rw [lfl];omega) (by simp at lr ⊢;omega)
  have i4:=cH (Φ:=aa ah kk) (Z:=dB D0 (some (.lst (di (held++[v])))) (some (.lst (nats b9))) lg (some (.int (r.2.1:Int))) f (some (.int (v+r.1))) b2 LX LW) (M:=ML A B (log2++r.2.2)) (M1:=ML A B (log2++r.2.2)) (e:=.v 7) (n:=f.opens) rfl (by omega)
  have esh:(List.range f.opens).map (fun j=>l9 (b9.getD (b9.length-1-j) 0))=(List.range' o f.opens).reverse.map l9:=by rw [<- hfl];exact BD
  rw [esh] at q4
  rw [ed]
  have elog:log++((List.range' o f.opens).map kg++(if 0<b9.length then ig f b9 else [])++r.2.2++(List.range' o f.opens).reverse.map l9)=log2++r.2.2++(List.range' o f.opens).reverse.map l9:=by
   rw [<- hl2,<- hl1];simp only [List.append_assoc]
  show _=R.ok (D.tup [.int (v+r.1),.int (r.2.1:Int)]) (ML A B (log++((List.range' o f.opens).map kg++(if 0<b9.length then ig f b9 else [])++r.2.2++(List.range' o f.opens).reverse.map l9)))
  rw [elog]
  exact b6 fn30 rfl ((bQ u1).trans ((av c1).trans ((av c2).trans ((av c3).trans ((iL i1 q1).trans ((av c4).trans ((bQ i2).trans ((bQ i3).trans ((iL i4 q4).trans (ck rfl)))))))))) (aC (by simp [nr,iN]) Gs)
end
end bA
end
section
namespace bA
open Fg PySem
mutual
theorem qD:∀ (d:D),Fg.plain d=true->aK d d=true
 | .aq,_=>by simp
 | .bl _,h=>by simp [Fg.plain] at h
 | .int _,_=>by simp
 | .str _,_=>by simp
 | .tup ds,h=>by simp only [Fg.plain] at h;rw [qC];exact gK ds h
 | .lst ds,h=>by simp only [Fg.plain] at h;rw [dD];exact gK ds h
 | .dct _ _,h=>by simp [Fg.plain] at h
 | .ref _,h=>by simp [Fg.plain] at h
theorem gK:∀ (ds:List D),ay ds=true->dP ds ds=true
 | [],_=>by simp
 | d::ds,h=>by
  simp only [ay,Bool.and_eq_true] at h
  rw [CT,qD d h.1,gK ds h.2];rfl
end
theorem fj:∀ {ds:List D},ay ds=true->∀ d∈ds,Fg.plain d=true
 | [],_,_,h=>by cases h
 | e::ds,p,d,h=>by
  simp only [ay,Bool.and_eq_true] at p
  rcases List.mem_cons.mp h with rfl | h
  ·exact p.1
  ·exact fj p.2 d h
theorem gG:∀ {ds:List D},(∀ d∈ds,Fg.plain d=true)->ay ds=true
 | [],_=>by simp [ay]
 | d::ds,h=>by simp only [ay,h d List.mem_cons_self,gG fun e he=>h e (List.mem_cons_of_mem _ he),Bool.and_self]
theorem kB {n:Nat}:∀ {ds:List D},(∀ d∈ds,dep d<=n)->deps ds<=n
 | [],_=>by simp [deps]
 | d::ds,h=>by simp only [deps];exact Nat.max_le.mpr ⟨h d List.mem_cons_self,kB fun e he=>h e (List.mem_cons_of_mem _ he)⟩
theorem iA {M:MH} (n:Nat):∀ d:D,Fg.plain d=true->deep n M d=d:=by
 induction n with
 | zero=>intro d _;rfl
 | succ n ih =>
  intro d h
  cases d with
  | tup ds=>simp only [Fg.plain] at h;simp only [deep];rw [d7 fun d hd=>ih d (fj h d hd)]
  | lst ds=>simp only [Fg.plain] at h;simp only [deep];rw [d7 fun d hd=>ih d (fj h d hd)]
  | ref _=>simp [Fg.plain] at h
  | _=>rfl
theorem iu {α:Type} {f:α->Int} {xs:List α}:ay (xs.map fun n=>D.int (f n))=true:=gG fun d hd=>by
 obtain ⟨n,_,rfl⟩:=List.mem_map.mp hd;simp [Fg.plain]
theorem lE {α:Type} {f:α->Int} {xs:List α}:deps (xs.map fun n=>D.int (f n))<=0:=kB fun d hd=>by
 obtain ⟨n,_,rfl⟩:=List.mem_map.mp hd;simp [dep]
theorem rw_plain (r:Rw):Fg.plain r.d=true/\dep r.d<=2:=by
 cases r with
 | call to many is =>
  have h:=iu (f:=fun (n:Nat)=>(n:Int)) (xs:=is)
  have h2:=lE (f:=fun (n:Nat)=>(n:Int)) (xs:=is)
  simp only [Rw.d,Fg.plain,ay,h,dep,deps,Bool.and_self,true_and]
  omega
 | _=>simp [Rw.d,Fg.plain,ay,dep,deps]
theorem vM {r:List Rw}:ay (r.map Rw.d)=true/\deps (r.map Rw.d)<=2 :=
 ⟨gG fun d hd=>by obtain ⟨x,_,rfl⟩:=List.mem_map.mp hd;exact (rw_plain x).1,kB fun d hd=>by obtain ⟨x,_,rfl⟩:=List.mem_map.mp hd;exact (rw_plain x).2⟩
theorem zU {M:MH} {neg:Bool} {a b d:D} (ha:deep 5 M a=d) (hb:deep 5 M b=d) (hp:Fg.plain d=true) (hd:dep d<=100):CQ M neg a b=.ok (.bl (!neg)) M:=by
 have hc:bE d d=true:=by simp only [bE,hp,decide_eq_true hd,Bool.and_self,Bool.or_self]
 unfold CQ
 rw [ha,hb,if_pos hc,qD d hp]
 cases neg <;> rfl
theorem ne_x {M:MH} {a b:D} (h1:Aq a b=none) (h2:bE (top M a) (top M b)=false) (h3:kZ M a b=none):bG .ne M a b=CQ M true a b:=by
 simp only [bG,h1,wY,h2,h3,Bool.false_eq_true,if_false]
theorem eq_x {M:MH} {a b:D} (h1:Aq a b=none) (h2:bE (top M a) (top M b)=false) (h3:kZ M a b=none):bG .eq M a b=CQ M false a b:=by
 simp only [bG,h1,Lc,h2,h3,Bool.false_eq_true,if_false]
theorem Gp {M:MH} {ds:List D} (hp:ay ds=true) (hd:deps ds<=50):bG .ne M (.lst ds) (.lst ds)=.ok (.bl false) M:=by
 have h1:dep (.lst ds)<=100:=by simp only [dep];omega
 have hc:bE (.lst ds) (.lst ds)=true:=by
  simp only [bE,Fg.plain,hp,Bool.and_self,decide_eq_true h1,Bool.or_self]
 simp only [bG,Aq,wY,top,hc,if_true,dD,gK ds hp,Bool.not_true]
section
variable {M:MH}
theorem sG {n:Nat} {ds:List D}:deep (n+1) M (.tup ds)=.tup (ds.map (deep n M)):=rfl
theorem sH {n r:Nat} {ds:List D} (h:M[r]? = some (.lst ds)) (hp:ay ds=true):deep (n+1) M (.ref r)=.lst ds:=by
 have e:deep (n+1) M (.ref r)=.lst (ds.map (deep n M)):=by simp only [deep,h]
 rw [e,d7 fun d hd=>iA n d (fj hp d hd)]
theorem sI {n:Nat} {i:Int}:deep n M (.int i)=.int i:=iA n _ (by simp [Fg.plain])
end
section
variable {M:MH}
theorem Ce {ds:List D} {q:Nat} (h0:M[q]? = some (.lst ds)) (hp:ay ds=true) (hd:deps ds<=2) {i j:Int}:bG .ne M (.tup [.ref q,.int i,.int j]) (.tup [.lst ds,.int i,.int j])=.ok (.bl false) M:=by
 have hP:Fg.plain (.tup [.lst ds,.int i,.int j])=true:=by simp only [Fg.plain,ay,hp,Bool.and_self]
 rw [ne_x rfl (by simp [bE,top,Fg.plain,ay]) rfl]
 refine zU (d:=.tup [.lst ds,.int i,.int j]) ?_ (iA 5 _ hP) hP ?_
 ·simp only [sG,List.map_cons,List.map_nil,sH h0 hp,sI]
 ·simp only [dep,deps];omega
theorem qB {ds:List D} {q q':Nat} (h0:M[q]? = some (.lst ds)) (h1:M[q']? = some (.lst ds)) (hp:ay ds=true) (hd:deps ds<=2) {i:Int}:bG .eq M (.tup [.int i,.ref q]) (.tup [.int i,.ref q'])=.ok (.bl true) M:=by
 have hP:Fg.plain (.tup [.int i,.lst ds])=true:=by simp only [Fg.plain,ay,hp,Bool.and_self]
 rw [eq_x rfl (by simp [bE,top,Fg.plain,ay]) rfl]
 refine zU (neg:=false) (d:=.tup [.int i,.lst ds]) ?_ ?_ hP ?_
 ·simp only [sG,List.map_cons,List.map_nil,sH h0 hp,sI]
 ·simp only [sG,List.map_cons,List.map_nil,sH h1 hp,sI]
 ·simp only [dep,deps];omega
end
theorem zF:∀ (ss:List Nat) (many outer:Nat),ss≠[]->Wf (gu ss many outer) many outer
 | [],_,_,h=>absurd rfl h
 | [s],many,outer,_=>.last rfl rfl rfl
 | s::s'::ss,many,outer,_=>by
  have ih:=zF (s'::ss) (lH s many outer false).args.length (lH s many outer false).handed.length (by simp)
  show Wf (lH s many outer false::gu (s'::ss) (lH s many outer false).args.length (lH s many outer false).handed.length) many outer
  have e:gu (s'::ss) (lH s many outer false).args.length (lH s many outer false).handed.length=lH s' (lH s many outer false).args.length (lH s many outer false).handed.length ss.isEmpty::gu ss (lH s' (lH s many outer false).args.length (lH s many outer false).handed.length ss.isEmpty).args.length (lH s' (lH s many outer false).args.length (lH s many outer false).handed.length ss.isEmpty).handed.length:=rfl
  rw [e] at ih ⊢
  refine .cons rfl rfl rfl (fun x hx=>?_) (fun x hx=>?_) ih
  ·obtain ⟨k,_,rfl⟩:=List.mem_map.mp hx
   exact Nat.le_of_lt_succ (Nat.mod_lt _ (Nat.succ_pos _))
  ·have hx':x∈wu s (outer+s % 2):=hx
   unfold wu at hx'
   split at hx'
   ·rename_i h0
    obtain ⟨k,_,rfl⟩:=List.mem_map.mp hx'
    exact Nat.mod_lt _ h0
   ·cases hx'
theorem zG:∀ (ss:List Nat) (many outer:Nat),many<=9->∀ f∈gu ss many outer,Sz f
 | [],_,_,_,f,h=>by cases h
 | s::ss,many,outer,hm,f,h=>by
  rcases List.mem_cons.mp h with rfl | h
  ·exact ⟨hm,(by show s % 2<=1;omega),(by show s / 24 % 4<=3;omega),oZ,uO⟩
  ·exact zG ss _ _ oZ f h
theorem om:∀ (ss:List Nat) (many outer:Nat),(gu ss many outer).length=ss.length
 | [],_,_=>rfl
 | s::ss,many,outer=>by simp only [gu,List.length_cons,om ss]
theorem qt:∀ (ss:List Nat) (many outer:Nat) (j:Nat) (f:Fc),(gu ss many outer)[j]? = some f->f.last=decide (j+1=ss.length)
 | [],_,_,_,_,h=>by simp [gu] at h
 | s::ss,many,outer,j,f,h=>by
  cases j with
  | zero =>
   simp only [gu,List.getElem?_cons_zero,Option.some.injEq] at h
   rw [<- h]
   show ss.isEmpty=_
   cases ss with
   | nil=>rfl
   | cons _ _=>exact (decide_eq_false (by simp)).symm
  | succ j =>
   simp only [gu,List.getElem?_cons_succ] at h
   rw [qt ss _ _ j f h]
   simp
end bA
end
section
namespace bA
open Fg PySem
section
variable {k:Nat} {Φ:aS} {Z:Sg} {M M1 M2:MH} {e e':E} {x y:Bool} {ns:List Int}
theorem Lh (h:ev Φ e Z M=.ok (.bl x) M) (h':x=false->ev Φ e' Z M=.ok (.bl y) M):ev Φ (.or e e') Z M=.ok (.bl (x||y)) M:=by
 rw [La,h,R.af]
 cases x with
 | true=>rfl
 | false=>exact h' rfl
theorem jr {j:Nat} (h0:Z[0]? = some (some (.lst (di ns)))) (he:ev (aa ah (k+2)) e Z M=.ok (.int (j:Int)) M):ev (aa ah (k+2)) (.call 23 (.cons (.v 0) (.cons e .nil))) Z M=.ok (.int (cellAt ns j:Int)) M:=by
 rw [bC,mD (e_v h0) he,R.af];exact Am
theorem nV (c:Int):jS c<2147483648:=by have:=qd c;unfold jS;omega
theorem wG {i:Nat}:cellAt ns i<2147483648:=by
 unfold cellAt
 split
 ·exact nV _
 ·exact nV _
noncomputable def jR (ns:List Int):Nat:=6*(if cellAt ns 0 / 3 % 8=3 then 1 else 0)
noncomputable def oN (ns:List Int):Nat:=jR ns+cellAt ns 0 % 3
noncomputable def qN (ns:List Int):Nat:=jR ns+cellAt ns 1 % 4
noncomputable def gg (ns:List Int):List Nat:=(List.range (qN ns)).map fun i=>cellAt ns (1+i) % 1000000
noncomputable def mT (ns:List Int):List Nat:=(dg ns (some 4) (some 10)).map jS
noncomputable def jw (ns:List Int):List Nat:=if (mT ns).isEmpty then [cellAt ns 3] else mT ns
theorem yI:jR ns<=6:=by unfold jR;split <;> omega
theorem Kf:oN ns<=8:=by have:=yI (ns:=ns);unfold oN;omega
theorem DR:qN ns<=9:=by have:=yI (ns:=ns);unfold qN;omega
theorem Ju:jw ns≠[]:=by
 unfold jw
 split
 ·simp
 ·rename_i h;intro z;rw [z] at h;exact h rfl
theorem Jv:∀ s∈jw ns,s<2147483648:=fun s hs=>by
 unfold jw at hs
 split at hs
 ·rw [List.mem_singleton.mp hs];exact wG
 ·obtain ⟨c,_,rfl⟩:=List.mem_map.mp hs;exact nV c
theorem EO:(jw ns).length<=6:=by
 unfold jw
 split
 ·simp
 ·unfold mT
  rw [List.length_map]
  simp only [dg,List.length_take,six]
  simp
  omega
noncomputable def eMo:E:=.op .mul true (.k (.int 6)) (.ng .int (.cmp .eq (.op .mod true (.op .fdiv true (.call 23 (.cons (.v 0) (.cons (.k (.int 0)) .nil))) (.k (.int 3))) (.k (.int 8))) (.k (.int 3))))
noncomputable def eOu:E:=.op .add true (.v 1) (.op .mod true (.call 23 (.cons (.v 0) (.cons (.k (.int 0)) .nil))) (.k (.int 3)))
noncomputable def eNu:E:=.comp true [0] [1] (.op .mod true (.call 23 (.cons (.v 0) (.cons (.op .add true (.k (.int 1)) (.v 1)) .nil))) (.op .pow true (.k (.int 10)) (.k (.int 6)))) (.cR (.op .add true (.v 1) (.op .mod true (.call 23 (.cons (.v 0) (.cons (.k (.int 1)) .nil))) (.k (.int 4))))) .none
noncomputable def eSd:E:=.comp true [] [0] (.call 22 (.cons (.v 0) .nil)) (.e (.sl true (.v 0) (.some (.k (.int 4))) (.some (.k (.int 10))))) .none
theorem v_mo (h0:Z[0]? = some (some (.lst (di ns)))):ev (aa ah (k+2)) eMo Z M=.ok (.int (jR ns:Int)) M:=by
 have e1:ev (aa ah (k+2)) (.call 23 (.cons (.v 0) (.cons (.k (.int 0)) .nil))) Z M=.ok (.int (cellAt ns 0:Int)) M:=jr (j:=0) h0 rfl
 have q:=zZ (fz:=true) (z6 (uZ (b:=3) (e':=.k (.int 3)) (bu (fz:=true) (b:=8) (e':=.k (.int 8)) (dQ (fz:=true) (b:=3) (e':=.k (.int 3)) e1 rfl (by decide) (by decide)) rfl (by decide)) rfl))
 simpa [jR,eMo] using q
theorem v_ou (h0:Z[0]? = some (some (.lst (di ns)))) (h1:Z[1]? = some (some (.int (jR ns:Int)))):ev (aa ah (k+2)) eOu Z M=.ok (.int (oN ns:Int)) M :=
 aU (e_v h1) (bu (b:=3) (jr (j:=0) h0 rfl) rfl (by decide))
theorem e_p6 {fz:Bool}:ev Φ (.op .pow fz (.k (.int 10)) (.k (.int 6))) Z M=.ok (.int ((1000000:Nat):Int)) M:=by
 have:fV .pow 10 6=some 1000000:=by decide +kernel
 rw [eL,oG,R.af,oG,R.af]
 simp only [qa,this];rfl
theorem v_nu (h0:Z[0]? = some (some (.lst (di ns)))) (h1:Z[1]? = some (some (.int (jR ns:Int)))):ev (aa ah (k+2)) eNu Z M=.ok (.lst (nats (gg ns))) M:=by
 have hq:=DR (ns:=ns)
 have hi:=cH (n:=qN ns) (aU (fz:=true) (e_v h1) (bu (fz:=true) (b:=4) (e':=.k (.int 4)) (jr (k:=k) (M:=M) (j:=1) (e:=.k (.int 1)) h0 rfl) rfl (by decide))) (by omega)
 have ec:jv Z [0]++List.replicate [1].length none=[some (.lst (di ns)),none]:=by simp [jv,h0]
 refine (cO hi (qi (f:=fun j=>.int ((cellAt ns (1+j) % 1000000:Nat):Int)) rfl (fun j _=>?_) (by simp;omega))).trans ?_
 ·rw [ec]
  exact bu (jr (j:=1+j) rfl (aU (a:=1) rfl rfl)) e_p6 (by decide)
 ·rw [gg,nats,List.map_map];rfl
theorem v_sd (h0:Z[0]? = some (some (.lst (di ns)))) (hn:ns.length<=63):ev (aa ah (k+2)) eSd Z M=.ok (.lst (nats (mT ns))) M:=by
 have e1:ev (aa ah (k+2)) (.sl true (.v 0) (.some (.k (.int 4))) (.some (.k (.int 10)))) Z M=.ok (.lst (di (dg ns (some 4) (some 10)))) M:=by
  rw [Ed,e_v h0,R.af,zN,oG,R.af]
  show R.ok (D.lst (dg (di ns) (some 4) (some 10))) M=_
  congr 2
  simp only [dg,di,List.length_map,List.map_take,List.map_drop]
 have hi:bZ (aa ah (k+2)) (.e (.sl true (.v 0) (.some (.k (.int 4))) (.some (.k (.int 10))))) Z M=.ok (.lst (di (dg ns (some 4) (some 10))),di (dg ns (some 4) (some 10)),false) M:=by rw [K7,e1];rfl
 have hl:(dg ns (some 4) (some 10)).length<=63:=by simp only [dg,List.length_take,List.length_drop];omega
 have lp:∀ (cs:List Int) (Z:Sg) (acc:List D),acc.length+cs.length<=1000->bh (mE (aa ah (k+2)) .none) (ev (aa ah (k+2)) (.call 22 (.cons (.v 0) .nil))) [0] (aI M (.lst (di (dg ns (some 4) (some 10))))) (di cs) (Z.take 0++[none]) M acc=.ok (acc++nats (cs.map jS)) M:=by
  intro cs
  have gen:∀ (cs:List Int) (o:Option D) (acc:List D),acc.length+cs.length<=1000->bh (mE (aa ah (k+2)) .none) (ev (aa ah (k+2)) (.call 22 (.cons (.v 0) .nil))) [0] (aI M (.lst (di (dg ns (some 4) (some 10))))) (di cs) [o] M acc=.ok (acc++nats (cs.map jS)) M:=by
   intro cs
   induction cs with
   | nil=>intro o acc _;simp [bh,nats]
   | cons c cs ih =>
    intro o acc ha
    simp only [List.length_cons] at ha
    rw [show di (c::cs)=.int c::di cs from rfl,ly (x:=.int (jS c:Int)) (M1:=M) ((iW rfl).trans oX) rfl (Nat.lt_of_lt_of_le (by omega) (by decide:1001<=line))]
    rw [show ([o].set 0 (some (D.int c)))=[some (.int c)] from rfl,ih _ _ (by simp;omega)]
    simp [nats]
  intro Z acc ha
  exact gen cs none acc ha
 refine (cO hi (lp _ [] [] (by simp;omega))).trans ?_
 rw [List.nil_append];rfl
theorem v_ss (h0:Z[0]? = some (some (.lst (di ns)))) (h4:Z[4]? = some (some (.lst (nats (mT ns))))) (hs:(mT ns).length<=63):∃ Z',Z'=Z.set 4 (some (.lst (nats (jw ns))))/\ex (aa ah (k+2)) (.ifs (.cmp .eq (.v 4) (.lst true .nil)) (.cons (.set 4 (.lst true (.cons (.call 23 (.cons (.v 0) (.cons (.k (.int 3)) .nil))) .nil))) .nil) .nil) Z M=.ok (.nx Z') M:=by
 have hp:=iu (f:=fun (n:Nat)=>(n:Int)) (xs:=mT ns)
 have hd:=lE (f:=fun (n:Nat)=>(n:Int)) (xs:=mT ns)
 have hp':Fg.plain (.lst (nats (mT ns)))=true:=by simp only [Fg.plain];exact hp
 have hd':dep (.lst (nats (mT ns)))<=100:=by simp only [dep];exact Nat.le_trans (Nat.add_le_add_right hd 1) (by decide)
 have c1:ev (aa ah (k+2)) (.cmp .eq (.v 4) (.lst true .nil)) Z M=.ok (.bl (mT ns).isEmpty) M:=by
  rw [gB,e_v h4,R.af]
  show bG .eq M (.lst (nats (mT ns))) (.lst [])=_
  have hq:Fg.plain (.lst [])=true:=by simp [Fg.plain,ay]
  have hc:bE (.lst (nats (mT ns))) (.lst [])=true:=by unfold bE;rw [hp',hq,decide_eq_true hd'];rfl
  simp only [bG,Aq,Lc,top,hc,if_true,dD]
  clear hc hp hd hp' hd' hs h4
  cases mT ns with
  | nil=>simp [nats]
  | cons _ _=>simp [nats]
 refine ⟨_,rfl,?_⟩
 rw [cF,c1,R.aT]
 cases he:(mT ns).isEmpty with
 | true =>
  have e:jw ns=[cellAt ns 3]:=by unfold jw;rw [he];rfl
  have c2:ev (aa ah (k+2)) (.lst true (.cons (.call 23 (.cons (.v 0) (.cons (.k (.int 3)) .nil))) .nil)) Z M=.ok (.lst (nats [cellAt ns 3])) M:=by
   rw [iz,wD (jr (j:=3) h0 rfl)];rfl
  rw [e]
  exact (av c2).trans rfl
 | false =>
  have e:jw ns=mT ns:=by unfold jw;rw [he];rfl
  rw [e]
  have:Z.set 4 (some (.lst (nats (mT ns))))=Z:=by
   apply List.ext_getElem?
   intro i
   by_cases hi:i=4
   ·subst hi
    have hl:=(List.getElem?_eq_some_iff.mp h4).1
    rw [List.getElem?_set_self hl,h4]
   ·rw [List.getElem?_set_ne (fun z=>hi z.symm)]
  rw [this];rfl
noncomputable def eSh:E:=.comp true [2] [1] (.tup (.cons (.k (.str (w "shut"))) (.cons (.op .sub true (.op .sub true (.v 0) (.k (.int 1))) (.v 1)) .nil))) (.cR (.v 2)) .none
theorem vN:∀ n:Nat,(List.range n).map (fun i=>n-1-i)=(List.range n).reverse:=fun n=>by
 apply List.ext_getElem
 ·simp
 ·intro i h1 h2
  simp
theorem v_sh {o:Nat} (h2:Z[2]? = some (some (.int (o:Int)))) (ho:o<500):ev Φ eSh Z M=.ok (.lst (cj o)) M:=by
 have hi:=cH (Φ:=Φ) (Z:=Z) (M:=M) (e:=.v 2) (n:=o) (M1:=M) (e_v h2) (by omega)
 have ec:jv Z [2]++List.replicate [1].length none=[some (.int (o:Int)),none]:=by simp [jv,h2]
 refine (cO hi (qi (f:=fun j=>.tup [.str (w "shut"), .int ((o:Int)-1-(j:Int))]) rfl (fun j _=>?_) (by simp;omega))).trans ?_
 ·rw [ec]
  have e3:ev Φ (.op .sub true (.op .sub true (.v 0) (.k (.int 1))) (.v 1)) [some (.int (o:Int)),some (.int (j:Int))] M=.ok (.int ((o:Int)-1-(j:Int))) M:=lQ (lQ rfl rfl) rfl
  show ev Φ (.tup (.cons (.k (.str (w "shut"))) (.cons (.op .sub true (.op .sub true (.v 0) (.k (.int 1))) (.v 1)) .nil))) [some (.int (o:Int)), some (.int (j:Int))] M=_
  rw [bL, mD (x:=.str (w "shut")) (M1:=M) rfl e3];rfl
 ·rw [cj,<- vN,List.map_map]
  congr 2
  apply List.map_congr_left
  intro i hi'
  have:=List.mem_range.mp hi'
  simp only [Function.comp]
  have:(o:Int)-1-(i:Int)=((o-1-i:Nat):Int):=by omega
  rw [this]
theorem v_op {o:Nat} (h2:Z[2]? = some (some (.int (o:Int)))) (ho:o<500):ev Φ (.comp false [] [0] (.tup (.cons (.k (.str (w "open"))) (.cons (.v 0) .nil))) (.cR (.v 2)) .none) Z M=.ok (.ref M.length) (M++[.lst (opens o)]):=by
 have hi:=cH (Φ:=Φ) (Z:=Z) (M:=M) (e:=.v 2) (n:=o) (M1:=M) (e_v h2) (by omega)
 exact sE hi (qi (f:=kg) rfl (fun j _=>rfl) (by simp;omega))
end
theorem yV {fs:List Fc} {held:List Int} {fl:List Nat} {o:Nat}:∀ d∈(aJ fs held fl o).2.2,Fg.plain d=true/\dep d<=1:=by
 induction fs generalizing held fl o with
 | nil=>intro d hd;simp [aJ] at hd
 | cons f rest ih =>
  intro d hd
  rw [aJ.eq_2] at hd
  simp only [List.mem_append] at hd
  have pl:∀ {s:Str} {n:Nat},Fg.plain (.tup [.str s,.int (n:Int)])=true/\dep (.tup [.str s,.int (n:Int)])<=1:=fun {s n}=>by simp [Fg.plain,ay,dep,deps]
  rcases hd with ((hd | hd) | hd) | hd
  ·obtain ⟨i,_,rfl⟩:=List.mem_map.mp hd;exact pl
  ·split at hd
   ·obtain ⟨i,_,hi⟩:=List.mem_flatMap.mp hd
    simp only [List.mem_cons,List.not_mem_nil,or_false] at hi
    rcases hi with rfl | rfl <;> exact pl
   ·cases hd
  ·split at hd
   ·cases hd
   ·exact ih d hd
  ·obtain ⟨i,_,rfl⟩:=List.mem_map.mp hd;exact pl
theorem uD {M0:MH} {k:Nat} {rs:List Rw} {fs:List Fc} {b o:Nat} {nu:List Nat} {rows:D} {most:Int} (hR:mG M0 rows (rs.map Rw.d)) (hL:Lay rs fs b) (hw:Wf fs nu.length o) (hs:∀ f∈fs,Sz f) (hf:fs.length<=6) (ho:o<100) (hn:∀ x∈nu,x<=1000000) (hnl:nu.length<=9) (hm:(fs.length:Int)<=most+1) :
  ∃ x':Mx,(aa ah (k+7)).call 7 [.tup [rows,.int (b:Int),.int (o:Int)],.lst (nats nu),.int most] M0=.ok (.tup [.int (aJ fs (nu.map fun (n:Nat)=>(n:Int)) (List.range o) o).1,.ref (M0.length+4)]) (x'.h M0)/\x'.log=opens o++(aJ fs (nu.map fun (n:Nat)=>(n:Int)) (List.range o) o).2.2++cj o:=by
 let held:List Int:=nu.map fun (n:Nat)=>(n:Int)
 have hd:di held=nats nu:=by simp [held,di,nats,Function.comp_def]
 have hP:1000000*20 ^ fs.length<=10 ^ 28:=Nat.le_trans (Nat.mul_le_mul_left _ (Nat.pow_le_pow_right (by decide) hf)) (by decide +kernel)
 obtain ⟨n,cM,hn1,S,l1,l2,_,_⟩:=xV (rs:=rs) (most:=most) fs b held (List.range o) [] .aq [] (List.replicate o true) (opens o) 0 1000000 (by simp only [held,List.length_map,List.length_range];exact hw) hs hL (fun m hm=>by
  rw [List.getElem?_replicate,if_pos (List.mem_range.mp hm)]) (fun x hx=>by obtain ⟨y,hy,rfl⟩:=List.mem_map.mp hx;have:=hn y hy;omega) (by decide) hP (by simp;omega) (by omega)
 have lo:(opens o).length=o:=by simp [opens]
 rw [List.length_replicate] at S l1 l2
 have hlim:lim=900000:=rfl
 have L0:Lm (st [] (di held) (List.range o) .aq [] (List.replicate o true) (opens o) 0 b) (n+1):=by
  refine ⟨by simp [st];omega,by simp [st];omega,by simp [st,lo];omega,by simp [st];omega,fun f hf'=>?_⟩
  simp only [st,List.mem_singleton] at hf'
  subst hf'
  exact ⟨by simp [held];omega,by simp;omega⟩
 obtain ⟨L1,G⟩:=S 1 (by omega) L0
 have g:=G 1
 have fin:go rs most (n+1) (ms1 o (nats nu) b)=.ok ⟨[]++[.int (aJ fs held (List.range o) o).1],[],cM,opens o++(aJ fs held (List.range o) o).2.2,0+((fs.length:Int)-1),.aq⟩:=by
  rw [<- hd];exact g
 have c1':cM.length+1<lim:=L1.o
 have c3':(opens o++(aJ fs held (List.range o) o).2.2).length+1<lim:=L1.l
 have c1:cM.length<lim:=by omega
 have c3:(opens o++(aJ fs held (List.range o) o).2.2).length<lim:=by omega
 exact E6 (M0:=M0) (most:=most) (k:=k) (p:=[]) (n:=1) hR (by omega) (fun v hv=>by obtain ⟨y,_,rfl⟩:=List.mem_map.mp hv;exact .int _) fin (by omega) rfl (.int _) (by decide) c1 l2 c3 (fun _=>xu) (fun _=>rfl)
end bA
end
section
namespace bA
open Fg PySem
theorem za {k:Nat} (ns:List Int) (hns:ns.length<=63):∃ M',(aa ah (k+12)).call 31 [.lst (ns.map .int)] []=.ok (.bl true) M':=by
 have hO:=Kf (ns:=ns)
 have hQ:=DR (ns:=ns)
 have hS:=EO (ns:=ns)
 have hnl:(gg ns).length<=9:=by simp only [gg,List.length_map,List.length_range];exact hQ
 have hnb:∀ x∈gg ns,x<=1000000:=fun x hx=>by obtain ⟨i,_,rfl⟩:=List.mem_map.mp hx;omega
 have s1:=v_mo (k:=k+9) (ns:=ns) (M:=[]) (Z:=[some (.lst (di ns)),none,none,none,none,none,none,none,none,none,none,none,none]) rfl
 have s2:=v_ou (k:=k+9) (ns:=ns) (M:=[]) (Z:=[some (.lst (di ns)),some (.int (jR ns:Int)),none,none,none,none,none,none,none,none,none,none,none]) rfl rfl
 have s3:=v_nu (k:=k+9) (ns:=ns) (M:=[]) (Z:=[some (.lst (di ns)),some (.int (jR ns:Int)),some (.int (oN ns:Int)),none,none,none,none,none,none,none,none,none,none]) rfl rfl
 have s4:=v_sd (k:=k+9) (ns:=ns) (M:=[]) (Z:=[some (.lst (di ns)),some (.int (jR ns:Int)),some (.int (oN ns:Int)),some (.lst (nats (gg ns))),none,none,none,none,none,none,none,none,none]) rfl hns
 have hsd:(mT ns).length<=63:=by simp only [mT,List.length_map,dg,List.length_take,List.length_drop];omega
 obtain ⟨Z5,e5,s5⟩:=v_ss (k:=k+9) (ns:=ns) (M:=[]) (Z:=[some (.lst (di ns)),some (.int (jR ns:Int)),some (.int (oN ns:Int)),some (.lst (nats (gg ns))),some (.lst (nats (mT ns))),none,none,none,none,none,none,none,none]) rfl rfl hsd
 subst e5
 replace s5:ex (aa ah (k+11)) _ _ []=.ok (.nx [some (.lst (di ns)),some (.int (jR ns:Int)),some (.int (oN ns:Int)),some (.lst (nats (gg ns))),some (.lst (nats (jw ns))),none,none,none,none,none,none,none,none]) []:=s5
 generalize hfs:gu (jw ns) (gg ns).length (oN ns)=fs
 have hfl:fs.length<=6:=by rw [<- hfs,om];exact hS
 have hwf:Wf fs (gg ns).length (oN ns):=by rw [<- hfs];exact zF _ _ _ Ju
 have hsz:∀ f∈fs,Sz f:=by rw [<- hfs];exact zG _ _ _ hnl
 have hne:fs≠[]:=fun z=>by rw [z] at hwf;cases hwf
 have hla:∀ j f,fs[j]? = some f->f.last=decide (j+1=fs.length):=by rw [<- hfs];intro j f h;rw [om];exact qt _ _ _ j f h
 have s6:ev (aa ah (k+11)) (.call 25 (.cons (.v 4) (.cons (.blt .len true (.cons (.v 3) .nil)) (.cons (.v 2) .nil)))) [some (.lst (di ns)),some (.int (jR ns:Int)),some (.int (oN ns:Int)),some (.lst (nats (gg ns))),some (.lst (nats (jw ns))),none,none,none,none,none,none,none,none] []=.ok (.lst (fs.map Fc.d)) []:=by
  rw [bC,aQ (x:=.lst (nats (jw ns))) rfl (aQ (x:=.int ((gg ns).length:Int)) (gC rfl) (aQ (x:=.int (oN ns:Int)) rfl rfl)),R.af,<- hfs]
  exact Lz (k:=k+9) Jv (by omega) (by omega) (by omega)
 obtain ⟨rs,b,kvs,q7,hL,hrl⟩:=Ia (k:=k+8) (M:=[]) (fs:=fs) (turned:=decide (cellAt ns 3 % 2=1)) (outer:=oN ns) hsz (by omega) hne hla
 have s7:ev (aa ah (k+11)) (.call 29 (.cons (.v 5) (.cons (.cmp .eq (.op .mod true (.call 23 (.cons (.v 0) (.cons (.k (.int 3)) .nil))) (.k (.int 2))) (.k (.int 1))) (.cons (.v 2) .nil)))) [some (.lst (di ns)),some (.int (jR ns:Int)),some (.int (oN ns:Int)),some (.lst (nats (gg ns))),some (.lst (nats (jw ns))),some (.lst (fs.map Fc.d)),none,none,none,none,none,none,none] []=.ok (.tup [.ref 1,.int (b:Int),.int (oN ns:Int)]) [.dct kvs,.lst (rs.map Rw.d)]:=by
  have c:ev (aa ah (k+11)) (.cmp .eq (.op .mod true (.call 23 (.cons (.v 0) (.cons (.k (.int 3)) .nil))) (.k (.int 2))) (.k (.int 1))) [some (.lst (di ns)),some (.int (jR ns:Int)),some (.int (oN ns:Int)),some (.lst (nats (gg ns))),some (.lst (nats (jw ns))),some (.lst (fs.map Fc.d)),none,none,none,none,none,none,none] []=.ok (.bl (decide (cellAt ns 3 % 2=1))) []:=uZ (b:=1) (bu (b:=2) (jr (k:=k+9) (j:=3) rfl rfl) rfl (by decide)) rfl
  rw [bC,aQ (x:=.lst (fs.map Fc.d)) rfl (aQ c (aQ (x:=.int (oN ns:Int)) rfl rfl)),R.af]
  exact q7
 let A:MH:=[.dct kvs,.lst (rs.map Rw.d)]
 let cd:D:=.tup [.ref 1,.int (b:Int),.int (oN ns:Int)]
 have s8:=v_op (Φ:=aa ah (k+11)) (M:=A) (Z:=[some (.lst (di ns)),some (.int (jR ns:Int)),some (.int (oN ns:Int)),some (.lst (nats (gg ns))),some (.lst (nats (jw ns))),some (.lst (fs.map Fc.d)),some cd,none,none,none,none,none,none]) (o:=oN ns) rfl (by omega)
 let held:List Int:=(gg ns).map fun (n:Nat)=>(n:Int)
 have hd:di held=nats (gg ns):=by simp [held,di,nats,Function.comp_def]
 have lo:(opens (oN ns)).length=oN ns:=by simp [opens]
 have q9:=HZ (A:=A) (B:=[]) (k:=k+9-fs.length) fs held (List.range (oN ns)) (oN ns) (opens (oN ns)) (by simp only [held,List.length_map,List.length_range];exact hwf) hsz (by simp only [held,List.length_map];omega) (by simp;omega) (by omega) (by omega)
 rw [show k+9-fs.length+fs.length+2=k+11 by omega,hd] at q9
 generalize hdn:aJ fs held (List.range (oN ns)) (oN ns)=dn at q9
 let L1:List D:=opens (oN ns)++dn.2.2
 have s9:ex (aa ah (k+11)) (.tu [8,9] (.call 30 (.cons (.v 5) (.cons (.blt .list true (.cons (.v 3) .nil)) (.cons (.yS true (.v 2)) (.cons (.v 7) (.cons (.v 2) .nil))))))) [some (.lst (di ns)),some (.int (jR ns:Int)),some (.int (oN ns:Int)),some (.lst (nats (gg ns))),some (.lst (nats (jw ns))),some (.lst (fs.map Fc.d)),some cd,some (.ref 2),none,none,none,none,none] (ML A [] (opens (oN ns)))=.ok (.nx [some (.lst (di ns)),some (.int (jR ns:Int)),some (.int (oN ns:Int)),some (.lst (nats (gg ns))),some (.lst (nats (jw ns))),some (.lst (fs.map Fc.d)),some cd,some (.ref 2),some (.int dn.1),some (.int (dn.2.1:Int)),none,none,none]) (ML A [] L1):=by
  have c:ev (aa ah (k+11)) (.yS true (.v 2)) [some (.lst (di ns)),some (.int (jR ns:Int)),some (.int (oN ns:Int)),some (.lst (nats (gg ns))),some (.lst (nats (jw ns))),some (.lst (fs.map Fc.d)),some cd,some (.ref 2),none,none,none,none,none] (ML A [] (opens (oN ns)))=.ok (.lst (nats (List.range (oN ns)))) (ML A [] (opens (oN ns))):=by
   rw [zR,e_v (d:=.int (oN ns:Int)) rfl,R.af]
   simp only [iM (by omega:oN ns<=1000000),if_true,ja];rfl
  rw [sj,bC,aQ (x:=.lst (fs.map Fc.d)) rfl (aQ (x:=.lst (nats (gg ns))) rfl (aQ c (aQ (x:=.ref 2) rfl (aQ (x:=.int (oN ns:Int)) rfl rfl)))),R.af]
  rw [show (aa ah (k+11)).call 30 [.lst (fs.map Fc.d),.lst (nats (gg ns)),.lst (nats (List.range (oN ns))),.ref 2,.int (oN ns:Int)] (ML A [] (opens (oN ns)))=_ from q9];rfl
 have lgl:dn.2.2.length<=48:=by rw [<- hdn];exact Nat.le_trans (jt fs held _ _ hsz) (by omega)
 have lsh:(cj (oN ns)).length=oN ns:=by simp [cj]
 let M3:MH:=ML A [] L1++[.lst (L1++cj (oN ns))]
 have s10:ev (aa ah (k+11)) (.op .add false (.v 7) eSh) [some (.lst (di ns)),some (.int (jR ns:Int)),some (.int (oN ns:Int)),some (.lst (nats (gg ns))),some (.lst (nats (jw ns))),some (.lst (fs.map Fc.d)),some cd,some (.ref 2),some (.int dn.1),some (.int (dn.2.1:Int)),none,none,none] (ML A [] L1)=.ok (.ref 3) M3:=by
  rw [eL,e_v (d:=.ref 2) rfl,R.af,v_sh (o:=oN ns) rfl (by omega),R.af]
  have hq:decide (L1.length+(cj (oN ns)).length<=line)=true:=decide_eq_true (Nat.le_trans (by simp only [L1,List.length_append,lo,lsh];omega) (by decide:1000<=line))
  show (if decide (L1.length+(cj (oN ns)).length<=line) then b7 false (L1++cj (oN ns)) (ML A [] L1) else .bad)=_
  rw [if_pos hq];rfl
 let kp:D:=.tup [.lst (rs.map Rw.d),.int (b:Int),.int (oN ns:Int)]
 have s11:ev (aa ah (k+11)) (.tup (.cons (.blt .list true (.cons (.idx (.v 6) (.k (.int 0))) .nil)) (.cons (.idx (.v 6) (.k (.int 1))) (.cons (.idx (.v 6) (.k (.int 2))) .nil)))) [some (.lst (di ns)),some (.int (jR ns:Int)),some (.int (oN ns:Int)),some (.lst (nats (gg ns))),some (.lst (nats (jw ns))),some (.lst (fs.map Fc.d)),some cd,some (.ref 3),some (.int dn.1),some (.int (dn.2.1:Int)),none,none,none] M3=.ok kp M3:=by
  have c:ev (aa ah (k+11)) (.blt .list true (.cons (.idx (.v 6) (.k (.int 0))) .nil)) [some (.lst (di ns)),some (.int (jR ns:Int)),some (.int (oN ns:Int)),some (.lst (nats (gg ns))),some (.lst (nats (jw ns))),some (.lst (fs.map Fc.d)),some cd,some (.ref 3),some (.int dn.1),some (.int (dn.2.1:Int)),none,none,none] M3=.ok (.lst (rs.map Rw.d)) M3:=by
   rw [oH,wD (x:=.ref 1) (aY rfl rfl dh)];rfl
  rw [bL,aQ c (aQ (x:=.int (b:Int)) (aY rfl rfl lW) (aQ (x:=.int (oN ns:Int)) (aY rfl rfl vp) rfl))];rfl
 have hR:mG M3 (.ref 1) (rs.map Rw.d):=.inr ⟨1,rfl,rfl⟩
 obtain ⟨x1,q1,ql1⟩:=uD (M0:=M3) (k:=k+4) (rs:=rs) (fs:=fs) (b:=b) (o:=oN ns) (nu:=gg ns) (rows:=.ref 1) (most:=200) hR hL hwf hsz hfl (by omega) hnb hnl (by omega)
 rw [show aJ fs ((gg ns).map fun (n:Nat)=>(n:Int)) (List.range (oN ns)) (oN ns)=dn from hdn] at q1 ql1
 have M3l:M3.length=4:=rfl
 let LH:Sg:=[some (.lst (di ns)),some (.int (jR ns:Int)),some (.int (oN ns:Int)),some (.lst (nats (gg ns))),some (.lst (nats (jw ns))),some (.lst (fs.map Fc.d)),some cd,some (.ref 3),some (.int dn.1),some (.int (dn.2.1:Int)),some kp,some (.lst (nats (gg ns))),some (.tup [.int dn.1,.ref 8])]
 have s13:ev (aa ah (k+11)) (.jL 7 (.cons (.v 6) (.cons (.v 11) .nil)) 200) [some (.lst (di ns)),some (.int (jR ns:Int)),some (.int (oN ns:Int)),some (.lst (nats (gg ns))),some (.lst (nats (jw ns))),some (.lst (fs.map Fc.d)),some cd,some (.ref 3),some (.int dn.1),some (.int (dn.2.1:Int)),some kp,some (.lst (nats (gg ns))),none] M3=.ok (.tup [.int dn.1,.ref 8]) (x1.h M3):=by
  rw [zT,mD (x:=cd) (y:=.lst (nats (gg ns))) (M1:=M3) (M2:=M3) rfl rfl,R.af];exact q1
 have AD:ay (L1++cj (oN ns))=true/\deps (L1++cj (oN ns))<=1:=by
  have h:∀ d∈L1++cj (oN ns),Fg.plain d=true/\dep d<=1:=fun d hd=>by
   rcases List.mem_append.mp hd with hd | hd
   ·rcases List.mem_append.mp hd with hd | hd
    ·obtain ⟨i,_,rfl⟩:=List.mem_map.mp hd
     simp [Fg.plain,ay,dep,deps]
    ·rw [<- hdn] at hd;exact yV d hd
   ·obtain ⟨i,_,rfl⟩:=List.mem_map.mp hd
    simp [Fg.plain,ay,dep,deps]
  exact ⟨gG fun d hd=>(h d hd).1,kB fun d hd=>(h d hd).2⟩
 have g1:(x1.h M3)[1]? = some (.lst (rs.map Rw.d)):=rfl
 have g3:(x1.h M3)[3]? = some (.lst (L1++cj (oN ns))):=rfl
 have g8:(x1.h M3)[8]? = some (.lst (L1++cj (oN ns))):=by rw [<- ql1];rfl
 have n1:9<=(x1.h M3).length:=(List.getElem?_eq_some_iff.mp g8).1
 have hw:=vM (r:=rs)
 have c14:ev (aa ah (k+11)) (.or (.cmp .ne (.v 6) (.v 10)) (.or (.cmp .ne (.v 11) (.v 3)) (.not (.uI (.v 12) .tuple)))) LH (x1.h M3)=.ok (.bl false) (x1.h M3) :=
  Lh (x:=false) (y:=false) (Ce g1 hw.1 hw.2) fun _=>Lh (x:=false) (y:=false) (Gp (iu (f:=fun (n:Nat)=>(n:Int))) (Nat.le_trans (lE (f:=fun (n:Nat)=>(n:Int))) (by decide))) fun _=>rfl
 have c15:ev (aa ah (k+11)) (.cmp .eq (.v 12) (.tup (.cons (.v 8) (.cons (.v 7) .nil)))) LH (x1.h M3)=.ok (.bl true) (x1.h M3):=qB g8 g3 AD.1 (Nat.le_trans AD.2 (by decide))
 have hR2:mG (x1.h M3) (.ref 1) (rs.map Rw.d):=.inr ⟨1,rfl,g1⟩
 obtain ⟨x2,q2,ql2⟩:=uD (M0:=x1.h M3) (k:=k+4) (rs:=rs) (fs:=fs) (b:=b) (o:=oN ns) (nu:=gg ns) (rows:=.ref 1) (most:=((fs.length-1:Nat):Int)) hR2 hL hwf hsz hfl (by omega) hnb hnl (by omega)
 rw [show aJ fs ((gg ns).map fun (n:Nat)=>(n:Int)) (List.range (oN ns)) (oN ns)=dn from hdn] at q2 ql2
 have h0f:0<fs.length:=List.length_pos_iff.mpr hne
 have j3:(x2.h (x1.h M3))[3]? = some (.lst (L1++cj (oN ns))):=by
  show (x1.h M3++_)[3]? = _
  rw [List.getElem?_append_left (by omega)];exact g3
 have j8:(x2.h (x1.h M3))[(x1.h M3).length+4]? = some (.lst (L1++cj (oN ns))):=by rw [<- ql2];exact g4
 have c16:ev (aa ah (k+11)) (.cmp .eq (.call 7 (.cons (.v 6) (.cons (.v 11) (.cons (.op .sub true (.blt .len true (.cons (.v 5) .nil)) (.k (.int 1))) .nil)))) (.tup (.cons (.v 8) (.cons (.v 7) .nil)))) LH (x1.h M3)=.ok (.bl true) (x2.h (x1.h M3)):=by
  have c:ev (aa ah (k+11)) (.op .sub true (.blt .len true (.cons (.v 5) .nil)) (.k (.int 1))) LH (x1.h M3)=.ok (.int ((fs.length-1:Nat):Int)) (x1.h M3):=zX (by rw [lR (ds:=fs.map Fc.d) rfl,List.length_map]) h0f
  rw [gB,bC,aQ (x:=cd) rfl (aQ (x:=.lst (nats (gg ns))) rfl (aQ c rfl)),R.af]
  rw [show (aa ah (k+11)).call 7 [cd,.lst (nats (gg ns)),.int ((fs.length-1:Nat):Int)] (x1.h M3)=_ from q2,R.af]
  exact qB j8 j3 AD.1 (Nat.le_trans AD.2 (by decide))
 have c17:ev (aa ah (k+11)) (.and (.cmp .eq (.v 12) (.tup (.cons (.v 8) (.cons (.v 7) .nil)))) (.cmp .eq (.call 7 (.cons (.v 6) (.cons (.v 11) (.cons (.op .sub true (.blt .len true (.cons (.v 5) .nil)) (.k (.int 1))) .nil)))) (.tup (.cons (.v 8) (.cons (.v 7) .nil))))) LH (x1.h M3)=.ok (.bl true) (x2.h (x1.h M3)):=by
  rw [HG,c15,R.af];exact c16
 exact ⟨[],b6 fn31 rfl ((av s1).trans ((av s2).trans ((av s3).trans ((av s4).trans ((bQ s5).trans ((av s6).trans ((av s7).trans ((av s8).trans ((bQ s9).trans ((av s10).trans ((av s11).trans ((av rfl).trans ((av s13).trans ((cV c14).trans (ck c17))))))))))))))) (pV rfl rfl)⟩
end bA
end
section
namespace bA
open Fg PySem PySem.Spec L2
theorem IU:tb.ok tb.gm ah=true:=by decide +kernel
theorem Lw {d:DefRec} (hd:d.params.defaults=[]) (hx:d.name=("law" : Str)) {XP:(Str->Option Value)->Heap->Prop}:W.WalkO Mq hdL XP (tb.hook ah).says PySem.Challenge.rw_fieldgate_k43_calls_of_rows.row.toRowW d [] (fun f vs=>PySem.call f vs) :=
 tb.walk ah (l:=PySem.Challenge.rw_fieldgate_k43_calls_of_rows) (r:=tb.fn[17]'(by decide)) (x:="_law_script") 11 rfl hd ⟨rfl, by decide, by decide⟩ IU (List.getElem_mem _) hx rfl rfl fun ns h=>za (k:=0) ns h
end bA
end
section
open PySem PySem.W PyProof.Rows
set_option maxRecDepth 100000 in
set_option maxHeartbeats 0 in
theorem PySem.Challenge.cw_fieldgate_k43_calls_of_rows_holds : PySem.Challenge.rw_fieldgate_k43_calls_of_rows.Holds := by
 w_on
 refine holds_law (by decide +kernel) fun said => ?_
 refine holds_open (XP := XL bA.Mq []) bA.lft (bA.tb.hook bA.ah).of (bA.tb.hook bA.ah).keeps
  (fun s e => xl_of s (Bool.and_eq_true_iff.mp e).1) XL.keeps (by rfl) (by rfl) (by rfl)
  (fun s e => recFacts_of (Bool.and_eq_true_iff.mp e).2) (by rfl) said (by decide +kernel)
  ⟨rfl,rfl,rfl,rfl,rfl,by decide +kernel⟩ ?hw (bA.Lw rfl rfl)
 w_witness2
end
