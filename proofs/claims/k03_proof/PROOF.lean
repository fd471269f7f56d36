import PyProof.Rows.All
import Wide.All
import OpenK.AllK
import Wide.FinOn
import Lean
import PyProof.EqAt
import PyProof.EqKinds
import PyProof.TupleCall
import PyProof.NeKinds
import PyProof.CompFree
import PyProof.ListRange
import PyProof.Rows.FStr
import PyProof.ConsumeWalk
import PyProof.ZipIter
import PyProof.TableCode
import PySem.Challenge.RW_fieldgate_k03_kind_of
set_option maxRecDepth 100000
set_option linter.all false
set_option Elab.async false
section
namespace L2
open PySem
noncomputable def gO (s:Stmt):Arguments:=match s with
 | .FunctionDef _ a _ _ _ _ _ _ _ _=>a
 | _=>{ posonlyargs:=[],args:=[],vararg:=none,kwonlyargs:=[],kw_defaults:=[],kwarg:=none,defaults:=[] }
noncomputable def cG (s:Stmt):List Stmt:=match s with
 | .FunctionDef _ _ b _ _ _ _ _ _ _=>b
 | _=>[]
noncomputable def aO (s:Stmt):Scope:=match s with
 | .FunctionDef _ _ _ _ _ _ sc _ _ _=>sc
 | _=>{ kind:=.function,names:=[],isGenerator:=false,isCoroutine:=false }
end L2
end
section
namespace Fg
open PySem
abbrev Ky:=Sum Int Str
inductive D where
 | aE
 | bl (b:Bool)
 | int (i:Int)
 | str (x:Str)
 | tup (ds:List D)
 | lst (ds:List D)
 | dct (ks:List Ky) (ds:List D)
 | ref (n:Nat)
mutual
def same (a b:D):Bool:=match a with
 | .aE=>match b with | .aE=>true | _=>false
 | .bl x=>match b with | .bl y=>decide (x=y) | _=>false
 | .int x=>match b with | .int y=>decide (x=y) | _=>false
 | .str x=>match b with | .str y=>decide (x=y) | _=>false
 | .tup x=>match b with | .tup y=>eX x y | _=>false
 | .lst x=>match b with | .lst y=>eX x y | _=>false
 | .dct k x=>match b with | .dct l y=>decide (k=l)&&eX x y | _=>false
 | .ref x=>match b with | .ref y=>decide (x=y) | _=>false
def eX (a b:List D):Bool:=match a with
 | []=>match b with | []=>true | _=>false
 | x::xs=>match b with | y::ys=>same x y&&eX xs ys | _=>false
end
mutual
theorem qx:∀ (a b:D),same a b=true->a=b
 | .aE,b,h=>by cases b <;> simp [same] at h ⊢
 | .bl x,b,h=>by cases b <;> simp [same] at h ⊢;exact h
 | .int x,b,h=>by cases b <;> simp [same] at h ⊢;exact h
 | .str x,b,h=>by cases b <;> simp [same] at h ⊢;exact h
 | .tup x,b,h=>by cases b <;> simp [same] at h ⊢;exact gu _ _ h
 | .lst x,b,h=>by cases b <;> simp [same] at h ⊢;exact gu _ _ h
 | .dct k x,b,h=>by cases b <;> simp [same] at h ⊢;exact ⟨h.1,gu _ _ h.2⟩
 | .ref x,b,h=>by cases b <;> simp [same] at h ⊢;exact h
theorem gu:∀ (a b:List D),eX a b=true->a=b
 | [],b,h=>by cases b <;> simp [eX] at h ⊢
 | x::xs,b,h=>by
  cases b with
  | nil=>simp [eX] at h
  | cons y ys=>simp only [eX,Bool.and_eq_true] at h;rw [qx x y h.1,gu xs ys h.2]
end
mutual
theorem same_refl:∀ (a:D),same a a=true
 | .aE=>by simp [same]
 | .bl x=>by simp [same]
 | .int x=>by simp [same]
 | .str x=>by simp [same]
 | .tup x=>by simp only [same];exact d7 x
 | .lst x=>by simp only [same];exact d7 x
 | .dct k x=>by simp only [same,d7 x];simp
 | .ref x=>by simp [same]
theorem d7:∀ (a:List D),eX a a=true
 | []=>by simp [eX]
 | x::xs=>by simp only [eX,same_refl x,d7 xs,Bool.and_self]
end
instance:DecidableEq D:=fun a b=>decidable_of_iff (same a b=true) ⟨qx a b,fun h=>h ▸ same_refl a⟩
inductive MO where
 | lst (ds:List D)
 | dct (kvs:List (Ky×D))
 | gM (kvs:List (Ky×D))
 | ins (c:Nat) (fs:List (Str×D))
 deriving DecidableEq
noncomputable abbrev MH:=List MO
noncomputable abbrev Sg:=List (Option D)
inductive R (α:Type) where
 | ok (a:α) (M:MH)
 | exc (c:Nat) (M:MH)
 | bad
noncomputable def R.bind {α β:Type} (x:R α) (f:α->MH->R β):R β :=
 match x with
 | .ok a M=>f a M
 | .exc c M=>.exc c M
 | .bad=>.bad
@[simp] theorem R.aD {α β:Type} (a:α) (M:MH) (f:α->MH->R β):(R.ok a M).bind f=f a M:=rfl
@[simp] theorem R.fJ {α β:Type} (c:Nat) (M:MH) (f:α->MH->R β):(R.exc c M:R α).bind f=.exc c M:=rfl
@[simp] theorem R.gS {α β:Type} (f:α->MH->R β):(R.bad:R α).bind f=.bad:=rfl
inductive B4 where
 | add | sub | mul | fdiv | mod | pow
inductive yZ where
 | eq | ne | lt | le | gt | ge | isin | nq | Jg | vg
inductive Ty where
 | int | str | bool | list | tuple | dict
inductive Bl where
 | len | sum | tuple | list | dict | str | int | abs | max | min | sorted | all | any | repr
inductive Mt where
 | append | extend | pop | reverse | clear | get | join | startswith | replace | split | index | count
inductive F1 where
 | abs | int
mutual
inductive E where
 | v (i:Nat)
 | k (d:D)
 | g (i:Nat)
 | tup (es:Es)
 | lst (fz:Bool) (es:Es)
 | nZ
 | op (o:B4) (fz:Bool) (a b:E)
 | neg (a:E)
 | cmp (o:yZ) (a b:E)
 | chain (o o':yZ) (a b c:E)
 | and (a b:E)
 | or (a b:E)
 | not (a:E)
 | tru (a:E)
 | KO (c a b:E)
 | idx (a b:E)
 | sl (fz:Bool) (a:E) (lo hi:O)
 | call (f:Nat) (es:Es)
 | pG (a:E) (t:Ty)
 | blt (b:Bl) (fz:Bool) (es:Es)
 | o9 (m:Mt) (fz:Bool) (a:E) (es:Es)
 | comp (fz:Bool) (caps:List Nat) (tg:List Nat) (elt:E) (it:Src) (cond:O)
 | fld (a:E) (f:Str)
 | Kh (c m:Nat) (nm:Str) (a:E) (es:Es)
 | new (c i:Nat) (es:Es)
 | mx (hi:Bool) (a b:E)
 | KA (fz:Bool) (a b:E)
 | KC (fz:Bool) (a:E)
 | rv (fz:Bool) (a:E)
 | all1 (a:E)
 | Hh (f:F1) (a:E)
 | rP (f:Nat) (es:Es) (d:Int)
 | bad
inductive Es where
 | nil
 | cons (e:E) (es:Es)
inductive O where
 | none
 | some (e:E)
inductive Src where
 | e (a:E)
 | gv (a:E)
 | Ef (a b:E)
 | enum (a:E)
 | items (a:E)
 | rev (a:E)
 | zip (a b:E)
end
mutual
inductive S where
 | set (i:Nat) (e:E)
 | j3 (a b e:E)
 | D7 (a:E) (f:Str) (e:E)
 | DM (tg:List Nat) (e:E)
 | ex (e:E)
 | ret (e:E)
 | Eh
 | ifs (c:E) (a b:Ss)
 | for (tg:List Nat) (it:Src) (b:Ss)
 | while (c:E) (b:Ss)
 | brk
 | cont
 | pass
 | raise (c:Nat) (es:Es)
 | try (b:Ss) (hs:Hs) (els:Ss)
 | bad
inductive Ss where
 | nil
 | cons (s:S) (ss:Ss)
inductive Hs where
 | nil
 | cons (cs:List Nat) (b:Ss) (hs:Hs)
end
inductive Out where
 | nx (σ:Sg)
 | rt (d:D)
 | bk (σ:Sg)
 | ct (σ:Sg)
 | xc (c:Nat) (σ:Sg)
noncomputable def R.use {α:Type} (x:R α) (σ:Sg) (f:α->MH->R Out):R Out :=
 match x with
 | .ok a M=>f a M
 | .exc c M=>.ok (.xc c σ) M
 | .bad=>.bad
@[simp] theorem R.oH {α:Type} (a:α) (M:MH) (σ:Sg) (f:α->MH->R Out):(R.ok a M).use σ f=f a M:=rfl
@[simp] theorem R.Kf {α:Type} (c:Nat) (M:MH) (σ:Sg) (f:α->MH->R Out):(R.exc c M:R α).use σ f=.ok (.xc c σ) M:=rfl
@[simp] theorem R.Kg {α:Type} (σ:Sg) (f:α->MH->R Out):(R.bad:R α).use σ f=.bad:=rfl
inductive Vw where
 | tup (ds:List D)
 | lst (ds:List D)
 | dct (kvs:List (Ky×D))
 | none
noncomputable def vw (M:MH):D->Vw
 | .tup ds=>.tup ds
 | .lst ds=>.lst ds
 | .dct ks ds=>.dct (ks.zip ds)
 | .ref n=>match M[n]? with
  | some (.lst ds)=>.lst ds
  | some (.dct kvs)=>.dct kvs
  | some (.gM kvs)=>.dct kvs
  | _=>.none
 | _=>.none
noncomputable def line:Nat:=1000000
noncomputable def small (i:Int):Bool:=decide (i.natAbs<18446744073709551616)
noncomputable def mid (i:Int):Bool:=decide (i.natAbs<10 ^ 200)
noncomputable def aJ:B4->Int->Int->Option Int
 | .add,i,j=>some (i+j)
 | .sub,i,j=>some (i-j)
 | .mul,i,j=>if small i||small j then some (i*j) else if mid i&&mid j then some (i*j) else none
 | .fdiv,i,j=>if decide (0<j)&&decide (j.natAbs<1073741824) then some (i / j) else none
 | .mod,i,j=>if decide (0<j) then some (i % j) else none
 | .pow,i,j=>if decide (0<=j)&&(decide (j<=1000000)&&decide (i.natAbs<18446744073709551616)) then some (i ^ j.toNat) else none
noncomputable def aR (fz:Bool) (ds:List D) (M:MH):R D:=if fz then .ok (.lst ds) M else .ok (.ref M.length) (M++[.lst ds])
noncomputable def bC (o:B4) (fz:Bool) (M:MH):D->D->R D
 | .int i,.int j=>match aJ o i j with
  | some k=>.ok (.int k) M
  | none=>.bad
 | .str x,.str y=>match o with
  | .add=>if decide (x.length+y.length<=line) then .ok (.str (x++y)) M else .bad
  | _=>.bad
 | a, b=>match o with
  | .add=>match vw M a,vw M b with
   | .lst xs,.lst ys=>if decide (xs.length+ys.length<=line) then aR fz (xs++ys) M else .bad
   | .tup xs,.tup ys=>if !xs.isEmpty&&decide (xs.length+ys.length<=line) then .ok (.tup (xs++ys)) M else .bad
   | _,_=>.bad
  | .mul=>match vw M a,b with
   | .lst xs,.int k=>if decide (xs.length*k.toNat<=line)&&decide (k.natAbs<=1000000) then aR fz (List.replicate k.toNat xs).flatten M else .bad
   | _,_=>.bad
  | _=>.bad
mutual
noncomputable def plain:D->Bool
 | .aE=>true
 | .bl _=>false
 | .int _=>true
 | .str _=>true
 | .tup ds=>ay ds
 | .lst ds=>ay ds
 | .dct _ _=>false
 | .ref _=>false
noncomputable def ay:List D->Bool
 | []=>true
 | d::ds=>plain d&&ay ds
end
mutual
noncomputable def dep:D->Nat
 | .tup ds=>deps ds+1
 | .lst ds=>deps ds+1
 | .dct _ ds=>deps ds+1
 | .aE=>0
 | .bl _=>0
 | .int _=>0
 | .str _=>0
 | .ref _=>0
noncomputable def deps:List D->Nat
 | []=>0
 | d::ds=>max (dep d) (deps ds)
end
mutual
noncomputable def aP:D->D->Bool
 | .aE,.aE=>true
 | .bl a,.bl b=>a == b
 | .int a,.int b=>decide (a=b)
 | .str a,.str b=>decide (a=b)
 | .tup a,.tup b=>cT a b
 | .lst a,.lst b=>cT a b
 | _,_=>false
noncomputable def cT:List D->List D->Bool
 | [],[]=>true
 | a::as,b::bs=>aP a b&&cT as bs
 | _,_=>false
end
noncomputable def keyOf:D->Option Ky
 | .int i=>some (.inl i)
 | .str x=>some (.inr x)
 | _=>none
noncomputable def Bh:Ky->D
 | .inl i=>.int i
 | .inr x=>.str x
noncomputable def look (kvs:List (Ky×D)) (k:Ky):Option D:=(kvs.find? fun kv=>decide (kv.1=k)).map (·.2)
noncomputable def put (kvs:List (Ky×D)) (k:Ky) (v:D):List (Ky×D) :=
 if kvs.any (fun kv=>decide (kv.1=k)) then kvs.map fun kv=>if kv.1=k then (kv.1,v) else kv else kvs++[(k,v)]
noncomputable def top (M:MH):D->D
 | .ref n=>match M[n]? with
  | some (.lst ds)=>.lst ds
  | _=>.ref n
 | d=>d
noncomputable def flat:D->Bool
 | .aE=>true
 | .int _=>true
 | .str _=>true
 | _=>false
noncomputable def az (a b:D):Bool:=(plain a&&plain b)&&(decide (dep a<=100)||decide (dep b<=100))
noncomputable def vn (M:MH) (a b:D):Option Bool:=match vw M a,vw M b with
 | .lst xs,.lst ys=>if ys.isEmpty then some xs.isEmpty else none
 | _,_=>none
noncomputable def deep:Nat->MH->D->D
 | 0,_,d=>d
 | n+1,M,d=>match d with
  | .ref r=>(match M[r]? with
   | some (.lst ds)=>.lst (ds.map (deep n M))
   | _=>.ref r)
  | .tup ds=>.tup (ds.map (deep n M))
  | .lst ds=>.lst (ds.map (deep n M))
  | d=>d
noncomputable def JL (M:MH) (neg:Bool) (a b:D):R D:=if az (deep 120 M a) (deep 120 M b) then .ok (.bl (if neg then !aP (deep 120 M a) (deep 120 M b) else aP (deep 120 M a) (deep 120 M b))) M else .bad
noncomputable def aC (M:MH) (f:Int->Int->Bool) (a b:D):R D:=match a with
 | .int i=>(match b with | .int j=>.ok (.bl (f i j)) M | _=>.bad)
 | _=>.bad
noncomputable def bD (M:MH) (a b:D):R D:=if az (top M a) (top M b) then .ok (.bl (aP (top M a) (top M b))) M else (match vn M a b with | some t=>.ok (.bl t) M | none=>JL M false a b)
noncomputable def bz (M:MH) (a b:D):R D:=if az (top M a) (top M b) then .ok (.bl (!aP (top M a) (top M b))) M else (match vn M a b with | some t=>.ok (.bl (!t)) M | none=>JL M true a b)
noncomputable def ai:D->Bool
 | .aE=>true
 | _=>false
noncomputable def bB (a b:D):Option (Bool×Bool):=match a with
 | .bl x=>(match b with | .bl y=>some (x,y) | _=>none)
 | _=>none
noncomputable def bA (M:MH) (a b:D):Option Bool:=match vw M b with
 | .dct kvs=>(match keyOf a with | some k=>some (look kvs k).isSome | none=>none)
 | .lst ds=>if flat a&&ds.all flat then some (ds.any fun d=>aP d a) else none
 | .tup ds=>if flat a&&ds.all flat then some (ds.any fun d=>aP d a) else none
 | .none=>none
noncomputable def av (o:yZ) (M:MH) (a b:D):R D :=
 match o with
 | .lt=>aC M (fun i j=>decide (i<j)) a b
 | .le=>aC M (fun i j=>decide (i<=j)) a b
 | .gt=>aC M (fun i j=>decide (j<i)) a b
 | .ge=>aC M (fun i j=>decide (j<=i)) a b
 | .eq=>(match bB a b with | some p=>.ok (.bl (p.1 == p.2)) M | none=>bD M a b)
 | .ne=>(match bB a b with | some p=>.ok (.bl (!(p.1 == p.2))) M | none=>bz M a b)
 | .Jg=>if ai b then .ok (.bl (ai a)) M else .bad
 | .vg=>if ai b then .ok (.bl (!ai a)) M else .bad
 | .isin=>(match bA M a b with | some t=>.ok (.bl t) M | none=>.bad)
 | .nq=>(match bA M a b with | some t=>.ok (.bl (!t)) M | none=>.bad)
noncomputable def qQ (n:Nat) (i:Int):Option Nat:=if 0<=i then (if i<n then some i.toNat else none) else if -(n:Int)<=i then some (i+n).toNat else none
noncomputable def jl {α:Type} (xs:List α) (i:Int):Option α:=(qQ xs.length i).bind fun j=>xs[j]?
noncomputable def six (n d:Nat):Option Int->Nat
 | none=>d
 | some v=>if v<0 then (v+(n:Int)).toNat else min v.toNat n
noncomputable def c8 {α:Type} (xs:List α) (lo hi:Option Int):List α:=(xs.drop (six xs.length 0 lo)).take (six xs.length xs.length hi-six xs.length 0 lo)
noncomputable def cuts (x:Str) (lo hi:Option Int):Str:=⟨(c8 x.cps.toList lo hi).toArray⟩
noncomputable def aH (M:MH) (a b:D):R D :=
 match a,b with
 | .str x,.int i=>if decide (x.length<=line) then (match jl x.cps.toList i with
  | some c=>.ok (.str ⟨#[c]⟩) M
  | none=>.bad) else .bad
 | a, b=>match vw M a, b with
  | .tup ds,.int i=>match jl ds i with
   | some d=>.ok d M
   | none=>.bad
  | .lst ds,.int i=>match jl ds i with
   | some d=>.ok d M
   | none=>.bad
  | .dct kvs,b=>match keyOf b with
   | some k=>match look kvs k with
    | some d=>.ok d M
    | none=>.bad
   | none=>.bad
  | _,_=>.bad
noncomputable def kP (n:Nat) (lo hi:Option Int):Bool:=decide (six n 0 lo=0)&&decide (six n n hi=n)
noncomputable def sl2 (fz:Bool) (M:MH) (a:D) (lo hi:Option Int):R D :=
 match a with
 | .str x=>if decide (x.length<=line) then .ok (.str (cuts x lo hi)) M else .bad
 | a=>match vw M a with
  | .tup ds=>if kP ds.length lo hi then .bad else .ok (.tup (c8 ds lo hi)) M
  | .lst ds=>aR fz (c8 ds lo hi) M
  | _=>.bad
noncomputable def yQ (M:MH) (t:Ty):D->Bool
 | .int _=>match t with | .int=>true | _=>false
 | .bl _=>match t with | .int=>true | .bool=>true | _=>false
 | .str _=>match t with | .str=>true | _=>false
 | .tup _=>match t with | .tuple=>true | _=>false
 | .lst _=>match t with | .list=>true | _=>false
 | .dct _ _=>match t with | .dict=>true | _=>false
 | .aE=>false
 | .ref n=>match M[n]? with
  | some (.lst _)=>(match t with | .list=>true | _=>false)
  | some (.dct _)=>(match t with | .dict=>true | _=>false)
  | some (.gM _)=>(match t with | .dict=>true | _=>false)
  | _=>false
noncomputable def o6 (M:MH):D->Bool
 | .ref n=>match M[n]? with
  | some (.lst _)=>true
  | some (.dct _)=>true
  | some (.gM _)=>true
  | _=>false
 | _=>true
noncomputable def intsOf:List D->Option (List Int)
 | []=>some []
 | .int i::ds=>(intsOf ds).map (i::·)
 | _=>none
noncomputable def boolsOf:List D->Option (List Bool)
 | []=>some []
 | .bl b::ds=>(boolsOf ds).map (b::·)
 | _=>none
noncomputable def Jv:F1->D->Option D
 | .abs,.int i=>some (.int (if i<0 then -i else i))
 | .int,.bl b=>some (.int (if b then 1 else 0))
 | .int,.int i=>some (.int i)
 | _,_=>none
noncomputable def itemsOf (M:MH) (d:D):Option (List D) :=
 match d with
 | .str _=>none
 | .dct _ _=>none
 | d=>match vw M d with
  | .tup ds=>some ds
  | .lst ds=>some ds
  | .dct kvs=>some (kvs.map fun kv=>Bh kv.1)
  | .none=>none
noncomputable def wk (M:MH):D->Bool
 | .ref n=>match M[n]? with
  | some (.dct _)=>true
  | _=>false
 | _=>false
noncomputable def walk (M:MH):D->MH
 | .ref n=>match M[n]? with
  | some (.dct kvs)=>M.set n (.gM kvs)
  | _=>M
 | _=>M
noncomputable def dY (b:Bool) (d:D) (M:MH):MH:=match b,d with
 | true,.ref n=>match M[n]? with
  | some (.gM kvs)=>M.set n (.dct kvs)
  | _=>M
 | _,_=>M
noncomputable def R.fin {α:Type} (x:R α) (f:MH->MH):R α:=match x with
 | .ok a M=>.ok a (f M)
 | .exc c M=>.exc c (f M)
 | .bad=>.bad
noncomputable def cz (b:Bl) (fz:Bool) (M:MH):List D->R D
 | [.str x]=>match b with
  | .len=>if decide (x.length<=line) then .ok (.int x.length) M else .bad
  | _=>.bad
 | [d]=>match b,vw M d with
  | .len,.tup ds=>.ok (.int ds.length) M
  | .len,.lst ds=>.ok (.int ds.length) M
  | .len,.dct kvs=>.ok (.int kvs.length) M
  | .sum,.lst ds=>match intsOf ds with
   | some ns=>.ok (.int ns.sum) M
   | none=>.bad
  | .tuple,.lst ds=>.ok (.tup ds) M
  | .tuple,.tup ds=>.ok (.tup ds) M
  | .list,.lst ds=>aR fz ds M
  | .list,.tup ds=>aR fz ds M
  | .dict,.dct kvs=>.ok (.ref M.length) (M++[.dct kvs])
  | _,_=>.bad
 | _=>.bad
noncomputable def j5:D->Option (List D)
 | .tup ds=>some ds
 | .lst ds=>some ds
 | _=>none
noncomputable def Cc:D->Option (List D)
 | .tup ds=>some ds
 | _=>none
noncomputable def CZ:D->Option (List D)
 | .lst ds=>some ds
 | _=>none
theorem za {d:D} {ds:List D} (h:Cc d=some ds):d=.tup ds:=by
 cases d <;> first | (cases h;rfl) | cases h
noncomputable def dw (M:MH) (a:D):Option (Nat×List D):=match a with
 | .ref n=>(match M[n]? with | some (.lst xs)=>some (n,xs) | _=>none)
 | _=>none
theorem vW {M:MH} {n:Nat} {xs:List D} (h:M[n]? = some (.lst xs)):dw M (.ref n)=some (n,xs):=by simp only [dw,h]
theorem ja {M:MH} {a:D} {p:Nat×List D} (h:dw M a=some p):a=.ref p.1/\M[p.1]? = some (.lst p.2):=by
 cases a with
 | ref n =>
  simp only [dw] at h
  split at h
  ·rename_i xs hx;cases h;exact ⟨rfl,hx⟩
  ·cases h
 | _=>cases h
noncomputable def nj (ds:List D) (k:D->R D):R D:=match ds with
 | d::r=>(match r with | []=>k d | _::_=>.bad)
 | []=>.bad
noncomputable def nA (m:Mt) (M:MH) (n:Nat) (xs ds:List D):R D:=match m with
 | .append=>nj ds fun d=>if decide (xs.length<line) then .ok .aE (M.set n (.lst (xs++[d]))) else .bad
 | .extend=>nj ds fun d=>(match Cc d with
  | some ys=>if decide (xs.length+ys.length<=line) then .ok .aE (M.set n (.lst (xs++ys))) else .bad
  | none=>.bad)
 | .pop=>if ds.isEmpty then (match xs[xs.length-1]? with
  | some d=>.ok d (M.set n (.lst xs.dropLast))
  | none=>.bad) else .bad
 | .reverse=>if ds.isEmpty then .ok .aE (M.set n (.lst xs.reverse)) else .bad
 | .clear=>if ds.isEmpty then .ok .aE (M.set n (.lst [])) else .bad
 | _=>.bad
noncomputable def iS (m:Mt) (fz:Bool) (M:MH) (a:D) (ds:List D):R D:=match dw M a with
 | some p=>nA m M p.1 p.2 ds
 | none=>.bad
noncomputable def pq (m:Mt) (M:MH) (a:D):Bool:=(dw M a).isSome&&(match m with | .append=>true | .extend=>true | .pop=>true | .reverse=>true | .clear=>true | _=>false)
noncomputable def jv (M:MH) (a b d:D):R Unit :=
 match a with
 | .ref n=>match M[n]?,b with
  | some (.lst xs),.int i=>match qQ xs.length i with
   | some j=>.ok () (M.set n (.lst (xs.set j d)))
   | none=>.bad
  | some (.dct kvs),b=>match keyOf b with
   | some k=>if decide (kvs.length<line) then .ok () (M.set n (.dct (put kvs k d))) else .bad
   | none=>.bad
  | _,_=>.bad
 | _=>.bad
noncomputable def g6 {α:Type}:List Nat->List α->List (Option α)->List (Option α)
 | i::tg,x::xs,σ=>g6 tg xs (σ.set i (some x))
 | _,_,σ=>σ
noncomputable def sets (tg:List Nat) (M:MH) (d:D) (σ:Sg):Option Sg :=
 match tg with
 | [i]=>some (σ.set i (some d))
 | [i,j]=>match d with
  | .tup [x,y]=>some ((σ.set i (some x)).set j (some y))
  | _=>none
 | []=>none
 | tg=>match d with
  | .tup xs=>if xs.length=tg.length then some (g6 tg xs σ) else none
  | _=>none
noncomputable def aG (M:MH) (d:D) (M':MH):Bool:=match d with
 | .ref n=>decide (M'[n]? = M[n]?)
 | _=>true
noncomputable def bS (body:Sg->MH->R Out) (tg:List Nat) (cC:MH->Bool):List D->Sg->MH->R Out
 | [],σ,M=>.ok (.nx σ) M
 | d::ds,σ,M=>match sets tg M d σ with
  | none=>.bad
  | some σ1=>(body σ1 M).bind fun o M1=>match o with
   | .nx σ2=>if cC M1 then bS body tg cC ds σ2 M1 else .bad
   | .ct σ2=>if cC M1 then bS body tg cC ds σ2 M1 else .bad
   | .bk σ2=>.ok (.nx σ2) M1
   | .rt r=>.ok (.rt r) M1
   | .xc c σ2=>.ok (.xc c σ2) M1
noncomputable def qO (c:Sg->MH->R D) (body:Sg->MH->R Out):Nat->Sg->MH->R Out
 | 0,_,_=>.bad
 | n+1,σ,M=>(c σ M).use σ fun t M0=>match t with
  | .bl false=>.ok (.nx σ) M0
  | .bl true=>(body σ M0).bind fun o M1=>match o with
   | .nx σ2=>qO c body n σ2 M1
   | .ct σ2=>qO c body n σ2 M1
   | .bk σ2=>.ok (.nx σ2) M1
   | .rt r=>.ok (.rt r) M1
   | .xc c σ2=>.ok (.xc c σ2) M1
  | _=>.bad
noncomputable def bN (cond:Sg->MH->R D) (elt:Sg->MH->R D) (tg:List Nat) (cC:MH->Bool):List D->Sg->MH->List D->R (List D)
 | [],_,M,acc=>.ok acc M
 | d::ds,σ,M,acc=>match sets tg M d σ with
  | none=>.bad
  | some σ1=>(cond σ1 M).bind fun t M1=>match t with
   | .bl true=>(elt σ1 M1).bind fun x M2=>if cC M2 then (if decide (acc.length<line) then bN cond elt tg cC ds σ1 M2 (acc++[x]) else .bad) else .bad
   | .bl false=>if cC M1 then bN cond elt tg cC ds σ1 M1 acc else .bad
   | _=>.bad
noncomputable def Eo (f:Str) (v:D):List (Str×D)->List (Str×D)
 | []=>[(f,v)]
 | (g,x)::r=>if g=f then (g,v)::r else (g,x)::Eo f v r
structure cM where
 call:Nat->List D->MH->R D
 ini:Nat->List D->MH->R D
 glob:Nat->Option D
 turns:Nat
 sub:Nat->Nat->Bool
noncomputable def dH (σ:Sg) (caps:List Nat):Sg:=caps.map fun i=>(σ[i]?).join
noncomputable def rT:D->Option Int
 | .int i=>some i
 | _=>none
noncomputable def j4 (j:Int):Bool:=decide (j.natAbs<=1000000)
noncomputable def aW (a b:Int):List D:=(List.range (b-a).toNat).map fun (i:Nat)=>D.int (a+(i:Int))
noncomputable def k8 (ds es:List D):List D:=(ds.zip es).map fun p=>.tup [p.1,p.2]
mutual
noncomputable def ev (Φ:cM):E->Sg->MH->R D
 | .v i,σ,M=>match σ[i]? with
  | some (some d)=>.ok d M
  | _=>.bad
 | .k d,_,M=>.ok d M
 | .g i,_,M=>match Φ.glob i with
  | some d=>.ok d M
  | none=>.bad
 | .tup es,σ,M=>(fF Φ es σ M).bind fun ds M1=>.ok (.tup ds) M1
 | .lst fz es,σ,M=>(fF Φ es σ M).bind fun ds M1=>aR fz ds M1
 | .nZ,_,M=>.ok (.ref M.length) (M++[.dct []])
 | .op o fz a b,σ,M=>(ev Φ a σ M).bind fun x M1=>(ev Φ b σ M1).bind fun y M2=>bC o fz M2 x y
 | .neg a,σ,M=>(ev Φ a σ M).bind fun x M1=>match x with
  | .int i=>.ok (.int (-i)) M1
  | _=>.bad
 | .cmp o a b,σ,M=>(ev Φ a σ M).bind fun x M1=>(ev Φ b σ M1).bind fun y M2=>av o M2 x y
 | .chain o o' a b c,σ,M=>(ev Φ a σ M).bind fun x M1=>(ev Φ b σ M1).bind fun y M2=>(av o M2 x y).bind fun t M3=>match t with
  | .bl true=>(ev Φ c σ M3).bind fun z M4=>av o' M4 y z
  | .bl false=>.ok (.bl false) M3
  | _=>.bad
 | .and a b,σ,M=>(ev Φ a σ M).bind fun x M1=>match x with
  | .bl true=>(ev Φ b σ M1)
  | .bl false=>.ok (.bl false) M1
  | _=>.bad
 | .or a b,σ,M=>(ev Φ a σ M).bind fun x M1=>match x with
  | .bl true=>.ok (.bl true) M1
  | .bl false=>(ev Φ b σ M1)
  | _=>.bad
 | .not a,σ,M=>(ev Φ a σ M).bind fun x M1=>match x with
  | .bl b=>.ok (.bl (!b)) M1
  | _=>.bad
 | .tru a,σ,M=>.bad
 | .KO c a b,σ,M=>(ev Φ c σ M).bind fun x M1=>match x with
  | .bl true=>ev Φ a σ M1
  | .bl false=>ev Φ b σ M1
  | _=>.bad
 | .idx a b,σ,M=>(ev Φ a σ M).bind fun x M1=>(ev Φ b σ M1).bind fun y M2=>aH M2 x y
 | .sl fz a lo hi,σ,M=>(ev Φ a σ M).bind fun x M1=>(BJ Φ lo σ M1).bind fun l M2=>(BJ Φ hi σ M2).bind fun h M3=>sl2 fz M3 x l h
 | .call f es,σ,M=>(fF Φ es σ M).bind fun ds M1=>Φ.call f ds M1
 | .pG a t,σ,M=>(ev Φ a σ M).bind fun x M1=>if o6 M1 x then .ok (.bl (yQ M1 t x)) M1 else .bad
 | .blt b fz es,σ,M=>(fF Φ es σ M).bind fun ds M1=>cz b fz M1 ds
 | .o9 m fz a es,σ,M=>(ev Φ a σ M).bind fun x M1=>if pq m M1 x then (fF Φ es σ M1).bind fun ds M2=>iS m fz M2 x ds else .bad
 | .comp fz caps tg elt it cond,σ,M=>(cu Φ it σ M).bind fun p M1 =>
   ((bN (lW Φ cond) (ev Φ elt) tg (aG M1 p.1) p.2.1 (dH σ caps++List.replicate tg.length none) M1 []).fin (dY p.2.2 p.1)).bind fun ds M2=>aR fz ds M2
 | .fld a f,σ,M=>(ev Φ a σ M).bind fun x M1=>match x with
  | .ref n=>match M1[n]? with
   | some (.ins _ fs)=>match fs.lookup f with
    | some d=>.ok d M1
    | none=>.bad
   | _=>.bad
  | _=>.bad
 | .Kh c m nm a es,σ,M=>(ev Φ a σ M).bind fun x M1=>match x with
  | .ref n=>match M1[n]? with
   | some (.ins c' fs)=>if decide (c'=c)&&(fs.lookup nm).isNone then (fF Φ es σ M1).bind fun ds M2=>Φ.call m (.ref n::ds) M2 else .bad
   | _=>.bad
  | _=>.bad
 | .new c i es,σ,M=>(fF Φ es σ M).bind fun ds M1=>(Φ.ini i (.ref M1.length::ds) (M1++[.ins c []])).bind fun r M2=>match r with
  | .aE=>.ok (.ref M1.length) M2
  | _=>.bad
 | .mx hi a b,σ,M=>(ev Φ a σ M).bind fun x M1=>(ev Φ b σ M1).bind fun y M2=>match x,y with
  | .int i,.int j=>.ok (.int (if hi then (if j > i then j else i) else (if j<i then j else i))) M2
  | _,_=>.bad
 | .KA fz a b,σ,M=>(ev Φ a σ M).bind fun x M1=>(ev Φ b σ M1).bind fun y M2=>match x,y with
  | .int i,.int j=>if j4 i&&(j4 j&&decide ((j-i).toNat<=line)) then aR fz (aW i j) M2 else .bad
  | _,_=>.bad
 | .KC fz a,σ,M=>(ev Φ a σ M).bind fun x M1=>match x with
  | .int j=>if j4 j then aR fz (aW 0 j) M1 else .bad
  | _=>.bad
 | .rv fz a,σ,M=>(ev Φ a σ M).bind fun x M1=>match vw M1 x with
  | .lst ds=>aR fz ds.reverse M1
  | _=>.bad
 | .all1 a,σ,M=>(ev Φ a σ M).bind fun x M1=>match vw M1 x with
  | .lst ds=>match boolsOf ds with
   | some bs=>.ok (.bl (bs.all id)) M1
   | none=>.bad
  | _=>.bad
 | .Hh f a,σ,M=>(ev Φ a σ M).bind fun x M1=>match Jv f x with
  | some d=>.ok d M1
  | none=>.bad
 | .rP f es d,σ,M=>(fF Φ es σ M).bind fun ds M1=>Φ.call f (ds++[.int d]) M1
 | .bad,_,_=>.bad
noncomputable def fF (Φ:cM):Es->Sg->MH->R (List D)
 | .nil,_,M=>.ok [] M
 | .cons e es,σ,M=>(ev Φ e σ M).bind fun x M1=>(fF Φ es σ M1).bind fun xs M2=>.ok (x::xs) M2
noncomputable def BJ (Φ:cM):O->Sg->MH->R (Option Int)
 | .none,_,M=>.ok none M
 | .some e,σ,M=>(ev Φ e σ M).bind fun x M1=>match x with
  | .int i=>.ok (some i) M1
  | _=>.bad
noncomputable def lW (Φ:cM):O->Sg->MH->R D
 | .none,_,M=>.ok (.bl true) M
 | .some e,σ,M=>ev Φ e σ M
noncomputable def cu (Φ:cM):Src->Sg->MH->R (D×List D×Bool)
 | .e a,σ,M=>(ev Φ a σ M).bind fun x M1=>match itemsOf M1 x with
  | some ds=>.ok (x,ds,wk M1 x) (walk M1 x)
  | none=>.bad
 | .gv a,σ,M=>(ev Φ a σ M).bind fun x M1=>match x with
  | .int j=>if j4 j then .ok (.aE,aW 0 j,false) M1 else .bad
  | _=>.bad
 | .Ef a b,σ,M=>(ev Φ a σ M).bind fun x M1=>(ev Φ b σ M1).bind fun y M2=>match rT x,rT y with
  | some i,some j=>if j4 i&&j4 j then .ok (.aE,aW i j,false) M2 else .bad
  | _,_=>.bad
 | .enum a,σ,M=>.bad
 | .items a,σ,M=>.bad
 | .rev a,σ,M=>(ev Φ a σ M).bind fun x M1=>match CZ x with
  | some ds=>.ok (.aE,ds.reverse,false) M1
  | none=>.bad
 | .zip a b,σ,M=>(ev Φ a σ M).bind fun x M1=>(ev Φ b σ M1).bind fun y M2=>match j5 x,j5 y with
  | some ds,some es=>.ok (.aE,k8 ds es,false) M2
  | _,_=>.bad
end
noncomputable def cY:D->Bool
 | .str x=>decide (x.length<=100000)
 | .int i=>decide (i.natAbs<18446744073709551616)
 | _=>false
noncomputable def BK (Φ:cM):Es->Sg->MH->R Unit
 | .nil,_,M=>.ok () M
 | .cons e es,σ,M=>(ev Φ e σ M).bind fun x M1=>if cY x then BK Φ es σ M1 else .bad
mutual
noncomputable def ex (Φ:cM):S->Sg->MH->R Out
 | .set i e,σ,M=>(ev Φ e σ M).use σ fun x M1=>.ok (.nx (σ.set i (some x))) M1
 | .j3 a b e,σ,M=>(ev Φ e σ M).use σ fun x M1=>(ev Φ a σ M1).use σ fun y M2=>(ev Φ b σ M2).use σ fun z M3=>(jv M3 y z x).use σ fun _ M4=>.ok (.nx σ) M4
 | .D7 a f e,σ,M=>(ev Φ e σ M).use σ fun x M1=>(ev Φ a σ M1).use σ fun y M2=>match y with
  | .ref n=>match M2[n]? with
   | some (.ins c fs)=>if decide (fs.length<1000) then .ok (.nx σ) (M2.set n (.ins c (Eo f x fs))) else .bad
   | _=>.bad
  | _=>.bad
 | .DM tg e,σ,M=>(ev Φ e σ M).use σ fun x M1=>match sets tg M1 x σ with
  | some σ1=>.ok (.nx σ1) M1
  | none=>.bad
 | .ex e,σ,M=>(ev Φ e σ M).use σ fun _ M1=>.ok (.nx σ) M1
 | .ret e,σ,M=>(ev Φ e σ M).use σ fun x M1=>.ok (.rt x) M1
 | .Eh,_,M=>.ok (.rt .aE) M
 | .ifs c a b,σ,M=>(ev Φ c σ M).use σ fun t M1=>match t with
  | .bl true=>exs Φ a σ M1
  | .bl false=>exs Φ b σ M1
  | _=>.bad
 | .for tg it b,σ,M=>(cu Φ it σ M).use σ fun p M1=>(bS (exs Φ b) tg (aG M1 p.1) p.2.1 σ M1).fin (dY p.2.2 p.1)
 | .while c b,σ,M=>qO (ev Φ c) (exs Φ b) Φ.turns σ M
 | .brk,σ,M=>.ok (.bk σ) M
 | .cont,σ,M=>.ok (.ct σ) M
 | .pass,σ,M=>.ok (.nx σ) M
 | .raise c es,σ,M=>(BK Φ es σ M).use σ fun _ M1=>.ok (.xc c σ) M1
 | .try b hs els,σ,M=>(exs Φ b σ M).bind fun o M1=>match o with
  | .nx σ1=>exs Φ els σ1 M1
  | .xc c σ1=>BI Φ hs c σ1 M1
  | o=>.ok o M1
 | .bad,_,_=>.bad
noncomputable def exs (Φ:cM):Ss->Sg->MH->R Out
 | .nil,σ,M=>.ok (.nx σ) M
 | .cons s ss,σ,M=>(ex Φ s σ M).bind fun o M1=>match o with
  | .nx σ1=>exs Φ ss σ1 M1
  | o=>.ok o M1
noncomputable def BI (Φ:cM):Hs->Nat->Sg->MH->R Out
 | .nil,_,_,_=>.bad
 | .cons cs b hs,c,σ,M=>if cs.any (fun d=>Φ.sub c d) then exs Φ b σ M else BI Φ hs c σ M
end
mutual
noncomputable def nr (m:Nat):D->Bool
 | .ref n=>decide (n<m)
 | .tup ds=>aY m ds
 | .lst ds=>aY m ds
 | .dct _ ds=>aY m ds
 | .aE=>true
 | .bl _=>true
 | .int _=>true
 | .str _=>true
noncomputable def aY (m:Nat):List D->Bool
 | []=>true
 | d::ds=>nr m d&&aY m ds
end
structure Fn where
 np:Nat
 ns:Nat
 j7:List D
 keep:Bool
 body:Ss
noncomputable def bh (keep:Bool) (M:MH) (d:D) (M':MH):R D :=
 if keep=false/\M'.take M.length=M then
  (if nr M.length d then .ok d M else match d with
   | .ref k=>match M'[k]? with
    | some (.lst ds)=>if aY M.length ds then .ok (.lst ds) M else .ok d M'
    | _=>.ok d M'
   | _=>.ok d M')
 else .ok d M'
noncomputable def d8 (M:MH) (c:Nat) (M':MH):R D:=if M'.take M.length=M then .exc c M else .exc c M'
structure mL where
 fn:Nat->Option Fn
 glob:Nat->Option D
 turns:Nat
 sub:Nat->Nat->Bool
noncomputable def aT (Φ:cM) (f:Fn) (ds:List D) (M:MH):R D :=
 if decide (ds.length<=f.np)&&decide (f.np<=ds.length+f.j7.length) then
  match exs Φ f.body ((ds++f.j7.drop (ds.length+f.j7.length-f.np)).map some++List.replicate (f.ns-f.np) none) M with
  | .ok (.rt d) M'=>bh f.keep M d M'
  | .ok (.nx _) M'=>bh f.keep M .aE M'
  | .ok (.xc c _) M'=>d8 M c M'
  | _=>.bad
 else .bad
noncomputable def aa (P:mL):Nat->cM
 | 0=>⟨fun _ _ _=>.bad,fun _ _ _=>.bad,P.glob,P.turns,P.sub⟩
 | k+1=>⟨fun f ds M=>match P.fn f with
  | some fn=>aT (aa P k) fn ds M
  | none=>.bad,(aa P k).call,P.glob,P.turns,P.sub⟩
end Fg
end
section
set_option autoImplicit false
namespace Fg
open PySem PySem.Spec L2
noncomputable def E9:Nat->List Obj->W.Frag
 | _,[]=>[]
 | n,o::os=>bif o.alive then (n,o)::E9 (n+1) os else E9 (n+1) os
theorem vf:∀ {os:List Obj} {n a:Nat} {o:Obj},(E9 n os).lookup a=some o->n<=a/\os[a-n]? = some o/\o.alive=true
 | [],_,_,_,h=>by cases h
 | x::os,n,a,o,h=>by
  have up:(E9 (n+1) os).lookup a=some o->n<=a/\(x::os)[a-n]? = some o/\o.alive=true:=fun h=>by
   obtain ⟨h1,h2,h3⟩:=vf h
   refine ⟨by omega,?_,h3⟩
   rw [show a-n=(a-(n+1))+1 by omega,List.getElem?_cons_succ]
   exact h2
  unfold E9 at h
  cases hx:x.alive with
  | false=>rw [hx] at h;exact up h
  | true =>
   rw [hx] at h
   replace h:((n,x)::E9 (n+1) os).lookup a=some o:=h
   rw [List.lookup_cons] at h
   cases e:a == n with
   | true =>
    rw [e] at h
    cases h
    have:=beq_iff_eq.mp e
    subst this
    exact ⟨Nat.le_refl _,by simp,hx⟩
   | false =>
    rw [e] at h
    exact up h
noncomputable def allOf (h:Heap):W.Frag:=E9 0 h.objs.toList
theorem xK (h:Heap):(allOf h).In h:=fun a o e=>by
 obtain ⟨_,h1,h2⟩:=vf e
 rw [Nat.sub_zero,Array.getElem?_toList] at h1
 exact (Heap.get?_eq_some h a o).mpr ⟨h1,h2⟩
structure Row where
 x:Str
 ql:Str
 st:Stmt
 ps:List Str
 N:List Str
 i:Nat
 j7:Option Int:=none
structure Tb where
 fn:List Row
 cl:List Str
 mt:List (Nat×Row)
 xc:List Str
 cs:List (Str×Nat×Int)
 bl:List Str
 fl:List Str
 ct:List (Str×Nat×List Str):=[]
 cd:List (Str×Nat×List (Str×Int)):=[]
noncomputable def adr (K:W.Frag) (x:Str):Option Addr:=match W.nsIn K mainGlobals x with
 | some (some (.ref a))=>some a
 | _=>none
noncomputable def iF (K:W.Frag):Value->Option (Option Int)
 | .none=>some none
 | .ref T=>(match K.lookup T with
  | some ⟨_,_,.seq its _,_⟩=>(match its.toList with
   | [.int d _]=>some (some d)
   | _=>none)
  | _=>none)
 | _=>none
noncomputable abbrev xQ:=Str×Str×Arguments×FuncBody×Scope×Addr×List (Str×Addr)×Addr×Option (Option Int)×Bool
noncomputable def nN (K:W.Frag) (f:Addr):Option xQ:=match K.lookup f with
 | some ⟨_,_,.func fd,_⟩=>some (fd.name,fd.qualname,fd.params,fd.body,fd.scope,fd.globals,fd.closure,fd.builtins,iF K fd.defaults,W.codeIn K fd.code fd.qualname)
 | _=>none
noncomputable def Row.good (r:Row):xQ:=(r.x,r.ql,gO r.st,.stmts (cG r.st),aO r.st,mainGlobals,[],builtinsNs,some r.j7,true)
noncomputable abbrev G1:=Bool×Bool×Bool×Option (Option Value)×Bool×Bool×List (Option (Option Value))
noncomputable def mq (t:Tb) (K:W.Frag) (C:Addr):G1:=(W.plainGet K C Str.empty, W.hasDictIn K C, W.plainOver K C, W.findIn K (.ref C) "__setattr__", W.makesIn K C, W.keepIn K (.ref C), t.fl.map (W.findIn K (.ref C)))
noncomputable def jh (t:Tb):G1:=(true, true, true, some (some (.builtin "object.__setattr__")), true, true, t.fl.map fun _=>some none)
noncomputable def vS (t:Tb) (K:W.Frag) (r:Nat×Row):Option (xQ×Bool):=((t.cl[r.1]?).bind (adr K)).bind fun C=>match W.findIn K (.ref C) r.2.x with
 | some (some (.ref f))=>(nN K f).map fun z=>(z,W.isFn K (.ref f))
 | _=>none
noncomputable abbrev JZ:=Bool×Option Bool×List (Option Bool)
noncomputable def BMV:List Value:=[.type "ValueError", .type "Exception", .type "BaseException", .type "object"]
noncomputable def wV (t:Tb) (K:W.Frag) (X:Addr):JZ:=(W.excIn K X BMV "ValueError.__new__", W.mroIn K X (.type "BaseException"), t.xc.map fun y=>(adr K y).bind fun Y=>W.mroIn K X (.ref Y))
noncomputable def xh (K:W.Frag) (x:Str):Option Int:=match W.nsIn K mainGlobals x with
 | some (some (.int n _))=>some n
 | _=>none
noncomputable def strOf:Value->Option Str
 | .str x _=>some x
 | _=>none
noncomputable def intOf:Value->Option Int
 | .int n _=>some n
 | _=>none
noncomputable abbrev J0:=Value×List (Option Str)
noncomputable def um (K:W.Frag) (a:Addr):Option J0:=match K.lookup a with
 | some ⟨c,_,.seq its _,_⟩=>some (c,its.toList.map strOf)
 | _=>none
noncomputable abbrev G0:=Value×Option Addr×Array (Option Value)×Bool×List (Int×Option Str×Option Int)
noncomputable def xg (K:W.Frag) (a:Addr):Option G0:=match K.lookup a with
 | some ⟨c,d,.dict es _,sl⟩=>some (c,d,sl,a == sysModules,es.toList.map fun e=>(e.hash,strOf e.key,intOf e.val))
 | _=>none
noncomputable def rH (w:World) (kvs:List (Str×Int)):G0:=(.type "dict", none, #[], false, kvs.map fun z=>(PyData.keyHash w.params z.1, some z.1, some z.2))
noncomputable abbrev GW:=List (Option xQ)×List (Option G1)×List (Option (xQ×Bool))×List (Option JZ)×List (Option Int)×List (Option (Option Value))×List (Option J0)×List (Option G0)
noncomputable def Tb.qw (t:Tb) (K:W.Frag):GW:=(t.fn.map fun r=>(adr K r.x).bind (nN K),t.cl.map fun x=>(adr K x).map (mq t K),t.mt.map (vS t K),t.xc.zipIdx.map fun x=>(adr K x.1).map (wV t K),t.cs.map fun c=>xh K c.1,t.bl.map (W.nsIn K mainGlobals),t.ct.map fun c=>(adr K c.1).bind (um K),t.cd.map fun c=>(adr K c.1).bind (xg K))
noncomputable def Tb.good (t:Tb) (P:mL) (w:World):GW:=(t.fn.map fun r=>some r.good, t.cl.map fun _=>some (jh t), t.mt.map fun r=>some (r.2.good, true), t.xc.zipIdx.map fun x=>some (true, some true, t.xc.zipIdx.map fun y=>some (P.sub x.2 y.2)), t.cs.map fun c=>some c.2.2, t.bl.map fun _=>some none, t.ct.map fun c=>some (.type "tuple", c.2.2.map some), t.cd.map fun c=>some (rH w c.2.2))
noncomputable def Tb.hook (t:Tb) (P:mL):W.Hook:=⟨GW,fun s=>t.qw (allOf s.heap),fun w=>t.good P w,fun w h=>∃ K:W.Frag,K.In h/\t.qw K=t.good P w,fun _ s e=>⟨_,xK s.heap,e⟩,fun _ _ _ ⟨K,X,e⟩ k=>⟨K,X.keeps k,e⟩⟩
end Fg
end
section
namespace dI
open Fg PySem
noncomputable def j6:List Str:=["part", "word"]
noncomputable def jf:Fn:=⟨1,2,[],false,
 (.cons (.set 1 (.idx (.v 0) (.k (.int 0))))
 (.cons (.ifs (.cmp .isin (.v 1) (.g 0)) (.cons (.ret (.sl true (.v 0) (.some (.k (.int 1))) .none))
 .nil) .nil)
 (.cons (.ifs (.cmp .isin (.v 1) (.tup (.cons (.k (.str "let")) (.cons (.k (.str "call")) .nil)))) (.cons (.ret (.sl true (.v 0) (.some (.k (.int 2))) .none))
 .nil) .nil)
 (.cons (.ret (.tup .nil))
 .nil))))⟩
noncomputable def dR:List Str:=["program", "name", "function"]
noncomputable def dD:Fn:=⟨2,3,[],false,
 (.cons (.for [2] (.e (.v 0)) (.cons (.ifs (.cmp .eq (.idx (.v 2) (.k (.int 0))) (.v 1)) (.cons (.ret (.v 2))
 .nil) .nil)
 .nil))
 (.cons (.raise 1 (.cons (.v 1) .nil))
 .nil))⟩
noncomputable def gC:List Str:=["kind", "wanted"]
noncomputable def fj:Fn:=⟨2,2,[],false,
 (.cons (.ifs (.cmp .ne (.v 0) (.v 1)) (.cons (.raise 2 .nil)
 .nil) .nil)
 .nil)⟩
noncomputable def fh:List Str:=["kind", "word"]
noncomputable def cg:Fn:=⟨2,2,[],false,
 (.cons (.ifs (.cmp .ne (.idx (.v 0) (.k (.int 0))) (.v 1)) (.cons (.raise 2 (.cons (.v 1) .nil))
 .nil) .nil)
 .nil)⟩
noncomputable def fE:List Str:=["program", "name", "kinds", "function"]
noncomputable def ck:Fn:=⟨3,4,[],false,
 (.cons (.set 3 (.call 1 (.cons (.v 0) (.cons (.v 1) .nil))))
 (.cons (.ex (.call 2 (.cons (.v 2) (.cons (.comp true [] [0] (.idx (.v 0) (.k (.int 1))) (.e (.idx (.v 3) (.k (.int 1)))) .none) .nil))))
 (.cons (.ret (.idx (.v 3) (.k (.int 2))))
 .nil)))⟩
noncomputable def dh:List Str:=["word", "kinds"]
noncomputable def aQ:Fn:=⟨2,2,[],false,
 (.cons (.ifs (.cmp .eq (.v 0) (.k (.str "pair"))) (.cons (.ret (.tup (.cons (.k (.str "pair")) (.cons (.idx (.v 1) (.k (.int 0))) (.cons (.idx (.v 1) (.k (.int 1))) .nil)))))
 .nil) .nil)
 (.cons (.ex (.call 3 (.cons (.idx (.v 1) (.k (.int 0))) (.cons (.k (.str "pair")) .nil))))
 (.cons (.ifs (.cmp .eq (.v 0) (.k (.str "first"))) (.cons (.ret (.idx (.idx (.v 1) (.k (.int 0))) (.k (.int 1))))
 .nil) .nil)
 (.cons (.ret (.idx (.idx (.v 1) (.k (.int 0))) (.k (.int 2))))
 .nil))))⟩
noncomputable def dj:List Str:=["word", "kinds"]
noncomputable def aK:Fn:=⟨2,2,[],false,
 (.cons (.ifs (.cmp .eq (.v 0) (.k (.str "cons"))) (.cons (.ex (.call 2 (.cons (.idx (.v 1) (.k (.int 1))) (.cons (.tup (.cons (.k (.str "list")) (.cons (.idx (.v 1) (.k (.int 0))) .nil))) .nil))))
 (.cons (.ret (.idx (.v 1) (.k (.int 1))))
 .nil)) .nil)
 (.cons (.ex (.call 3 (.cons (.idx (.v 1) (.k (.int 0))) (.cons (.k (.str "list")) .nil))))
 (.cons (.ifs (.cmp .eq (.v 0) (.k (.str "head"))) (.cons (.ret (.idx (.idx (.v 1) (.k (.int 0))) (.k (.int 1))))
 .nil) .nil)
 (.cons (.ifs (.cmp .eq (.v 0) (.k (.str "tail"))) (.cons (.ret (.idx (.v 1) (.k (.int 0))))
 .nil) .nil)
 (.cons (.ret (.g 1))
 .nil)))))⟩
noncomputable def fu:List Str:=["word", "kinds"]
noncomputable def au:Fn:=⟨2,2,[],false,
 (.cons (.ifs (.cmp .isin (.v 0) (.tup (.cons (.k (.str "pair")) (.cons (.k (.str "first")) (.cons (.k (.str "second")) .nil))))) (.cons (.ret (.call 5 (.cons (.v 0) (.cons (.v 1) .nil))))
 .nil) .nil)
 (.cons (.ifs (.cmp .isin (.v 0) (.tup (.cons (.k (.str "cons")) (.cons (.k (.str "head")) (.cons (.k (.str "tail")) (.cons (.k (.str "none")) .nil)))))) (.cons (.ret (.call 6 (.cons (.v 0) (.cons (.v 1) .nil))))
 .nil) .nil)
 (.cons (.ex (.call 2 (.cons (.idx (.v 1) (.k (.int 0))) (.cons (.g 1) .nil))))
 (.cons (.ifs (.cmp .eq (.v 0) (.k (.str "if"))) (.cons (.ex (.call 2 (.cons (.idx (.v 1) (.k (.int 2))) (.cons (.idx (.v 1) (.k (.int 1))) .nil))))
 (.cons (.ret (.idx (.v 1) (.k (.int 1))))
 .nil)) .nil)
 (.cons (.ex (.call 2 (.cons (.idx (.v 1) (.k (.int 1))) (.cons (.g 1) .nil))))
 (.cons (.ret (.g 1))
 .nil))))))⟩
noncomputable def fP:List Str:=["program", "names", "part", "known"]
noncomputable def cF:Fn:=⟨3,4,[],false,
 (.cons (.set 3 (.blt .dict false (.cons (.v 1) .nil)))
 (.cons (.j3 (.v 3) (.idx (.v 2) (.k (.int 1))) (.call 9 (.cons (.v 0) (.cons (.v 1) (.cons (.idx (.v 2) (.k (.int 2))) .nil)))))
 (.cons (.ret (.call 9 (.cons (.v 0) (.cons (.v 3) (.cons (.idx (.v 2) (.k (.int 3))) .nil)))))
 .nil)))⟩
noncomputable def iW:List Str:=["program", "names", "part", "word", "kinds"]
noncomputable def iD:Fn:=⟨3,5,[],false,
 (.cons (.set 3 (.idx (.v 2) (.k (.int 0))))
 (.cons (.ifs (.cmp .eq (.v 3) (.k (.str "number"))) (.cons (.ret (.g 1))
 .nil) .nil)
 (.cons (.ifs (.cmp .eq (.v 3) (.k (.str "name"))) (.cons (.ret (.idx (.v 1) (.idx (.v 2) (.k (.int 1)))))
 .nil) .nil)
 (.cons (.ifs (.cmp .eq (.v 3) (.k (.str "nil"))) (.cons (.ret (.tup (.cons (.k (.str "list")) (.cons (.idx (.v 2) (.k (.int 1))) .nil))))
 .nil) .nil)
 (.cons (.ifs (.cmp .eq (.v 3) (.k (.str "let"))) (.cons (.ret (.call 8 (.cons (.v 0) (.cons (.v 1) (.cons (.v 2) .nil)))))
 .nil) .nil)
 (.cons (.set 4 (.comp true [0,1] [2] (.call 9 (.cons (.v 0) (.cons (.v 1) (.cons (.v 2) .nil)))) (.e (.call 0 (.cons (.v 2) .nil))) .none))
 (.cons (.ifs (.cmp .eq (.v 3) (.k (.str "call"))) (.cons (.ret (.call 4 (.cons (.v 0) (.cons (.idx (.v 2) (.k (.int 1))) (.cons (.v 4) .nil)))))
 .nil) .nil)
 (.cons (.ret (.call 7 (.cons (.v 3) (.cons (.v 4) .nil))))
 .nil))))))))⟩
noncomputable def gD:List Str:=["_law_cell"]
noncomputable def fm:Fn:=⟨1,1,[],false,
 (.cons (.ret (.op .mod true (.op .mul true (.op .mul true (.op .add true (.op .mod true (.v 0) (.k (.int 2147483647))) (.k (.int 11))) (.k (.int 48271))) (.k (.int 69621))) (.k (.int 2147483629))))
 .nil)⟩
noncomputable def jM:List Str:=["_law_script", "_law_k"]
noncomputable def gH:Fn:=⟨2,2,[],false,
 (.cons (.ifs (.cmp .lt (.v 1) (.blt .len true (.cons (.v 0) .nil))) (.cons (.ret (.call 10 (.cons (.idx (.v 0) (.v 1)) .nil)))
 .nil) .nil)
 (.cons (.ret (.call 10 (.cons (.k (.int 0)) .nil)))
 .nil))⟩
noncomputable def iw:List Str:=["_law_seed", "_law_k"]
noncomputable def gf:Fn:=⟨2,2,[],false,
 (.cons (.ret (.op .mod true (.op .add true (.op .mul true (.v 0) (.k (.int 48271))) (.op .mul true (.k (.int 69621)) (.op .add true (.v 1) (.k (.int 1))))) (.k (.int 2147483629))))
 .nil)⟩
noncomputable def iA:List Str:=["_law_pick", "_law_num", "_law_some"]
noncomputable def gh:Fn:=⟨1,3,[],false,
 (.cons (.set 1 (.tup (.cons (.k (.str "num")) .nil)))
 (.cons (.set 2 (.lst true (.cons (.v 1) (.cons (.v 1) (.cons (.tup (.cons (.k (.str "list")) (.cons (.v 1) .nil))) (.cons (.tup (.cons (.k (.str "pair")) (.cons (.v 1) (.cons (.v 1) .nil)))) (.cons (.tup (.cons (.k (.str "list")) (.cons (.tup (.cons (.k (.str "pair")) (.cons (.v 1) (.cons (.v 1) .nil)))) .nil))) .nil)))))))
 (.cons (.set 2 (.op .add true (.v 2) (.lst true (.cons (.tup (.cons (.k (.str "pair")) (.cons (.v 1) (.cons (.tup (.cons (.k (.str "list")) (.cons (.v 1) .nil))) .nil)))) (.cons (.tup (.cons (.k (.str "list")) (.cons (.tup (.cons (.k (.str "list")) (.cons (.v 1) .nil))) .nil))) (.cons (.tup (.cons (.k (.str "pair")) (.cons (.tup (.cons (.k (.str "list")) (.cons (.v 1) .nil))) (.cons (.tup (.cons (.k (.str "list")) (.cons (.v 1) .nil))) .nil)))) .nil))))))
 (.cons (.set 2 (.op .add true (.v 2) (.lst true (.cons (.tup (.cons (.k (.str "pair")) (.cons (.tup (.cons (.k (.str "pair")) (.cons (.v 1) (.cons (.v 1) .nil)))) (.cons (.tup (.cons (.k (.str "list")) (.cons (.v 1) .nil))) .nil)))) (.cons (.tup (.cons (.k (.str "pair")) (.cons (.tup (.cons (.k (.str "list")) (.cons (.tup (.cons (.k (.str "list")) (.cons (.v 1) .nil))) .nil))) (.cons (.tup (.cons (.k (.str "list")) (.cons (.v 1) .nil))) .nil)))) .nil)))))
 (.cons (.ret (.idx (.v 2) (.op .mod true (.v 0) (.k (.int 10)))))
 .nil)))))⟩
noncomputable def ig:List Str:=["_law_kind_here"]
noncomputable def c7:Fn:=⟨1,1,[],false,
 (.cons (.ret (.op .add true (.k (.int 1)) (.blt .sum true (.cons (.comp true [] [0] (.call 14 (.cons (.v 0) .nil)) (.e (.sl true (.v 0) (.some (.k (.int 1))) .none)) .none) .nil))))
 .nil)⟩
noncomputable def iy:List Str:=["_law_seed", "_law_k", "_law_base", "_law_at_here"]
noncomputable def gg:Fn:=⟨2,4,[],false,
 (.cons (.set 2 (.sl true (.k (.str "anchor")) .none (.some (.op .mod true (.v 0) (.k (.int 6))))))
 (.cons (.set 3 (.op .mod true (.op .fdiv true (.v 0) (.k (.int 6))) (.op .add true (.blt .len true (.cons (.v 2) .nil)) (.k (.int 1)))))
 (.cons (.ret (.op .add true (.op .add true (.sl true (.v 2) .none (.some (.v 3))) (.idx (.k (.str "bgjkqvwxyz")) (.op .mod true (.op .add true (.op .fdiv true (.v 0) (.k (.int 60))) (.op .mul true (.k (.int 3)) (.v 1))) (.k (.int 10))))) (.sl true (.v 2) (.some (.v 3)) .none)))
 .nil)))⟩
noncomputable def gF:List Str:=["_law_kind_here", "_law_seed"]
noncomputable def cJ:Fn:=⟨2,2,[],false,
 (.cons (.ifs (.cmp .eq (.idx (.v 0) (.k (.int 0))) (.k (.str "num"))) (.cons (.ret (.tup (.cons (.k (.str "number")) (.cons (.idx (.lst true (.cons (.op .mod true (.v 1) (.k (.int 1000))) (.cons (.op .mod true (.v 1) (.k (.int 7))) (.cons (.op .sub true (.neg (.k (.int 1))) (.op .mod true (.v 1) (.k (.int 99)))) (.cons (.op .mod true (.op .mul true (.v 1) (.op .pow true (.k (.int 10)) (.k (.int 20)))) (.op .pow true (.k (.int 10)) (.k (.int 30)))) .nil))))) (.op .mod true (.op .fdiv true (.v 1) (.k (.int 1000))) (.k (.int 4)))) .nil))))
 .nil) .nil)
 (.cons (.ifs (.cmp .eq (.idx (.v 0) (.k (.int 0))) (.k (.str "list"))) (.cons (.ret (.tup (.cons (.k (.str "nil")) (.cons (.idx (.v 0) (.k (.int 1))) .nil))))
 .nil) .nil)
 (.cons (.ret (.tup (.cons (.k (.str "pair")) (.cons (.call 16 (.cons (.idx (.v 0) (.k (.int 1))) (.cons (.v 1) .nil))) (.cons (.call 16 (.cons (.idx (.v 0) (.k (.int 2))) (.cons (.call 12 (.cons (.v 1) (.cons (.k (.int 1)) .nil))) .nil))) .nil)))))
 .nil)))⟩
noncomputable def iz:List Str:=["_law_kind_here", "_law_seed", "_law_names", "_law_some"]
noncomputable def eE:Fn:=⟨3,4,[],false,
 (.cons (.set 3 (.comp true [0,2] [2] (.v 2) (.e (.v 2)) (.some (.cmp .eq (.idx (.v 1) (.v 2)) (.v 0)))))
 (.cons (.ifs (.and (.cmp .gt (.blt .len true (.cons (.v 3) .nil)) (.k (.int 0))) (.cmp .gt (.op .mod true (.v 1) (.k (.int 4))) (.k (.int 0)))) (.cons (.ret (.tup (.cons (.k (.str "name")) (.cons (.idx (.v 3) (.op .mod true (.op .fdiv true (.v 1) (.k (.int 4))) (.blt .len true (.cons (.v 3) .nil)))) .nil))))
 .nil) .nil)
 (.cons (.ret (.call 16 (.cons (.v 0) (.cons (.op .fdiv true (.v 1) (.k (.int 4))) .nil))))
 .nil)))⟩
noncomputable def iB:List Str:=["_law_kind_here", "_law_seed", "_law_names", "_law_functions", "_law_depth", "_law_some", "_law_one", "_law_found", "_law_k"]
noncomputable def eF:Fn:=⟨5,9,[],false,
 (.cons (.set 5 (.comp true [0] [1] (.v 1) (.e (.v 3)) (.some (.cmp .eq (.idx (.v 1) (.k (.int 2))) (.v 0)))))
 (.cons (.ifs (.cmp .eq (.blt .len true (.cons (.v 5) .nil)) (.k (.int 0))) (.cons (.ret (.call 17 (.cons (.v 0) (.cons (.v 1) (.cons (.v 2) .nil)))))
 .nil) .nil)
 (.cons (.set 6 (.idx (.v 5) (.op .mod true (.op .fdiv true (.v 1) (.k (.int 11))) (.blt .len true (.cons (.v 5) .nil)))))
 (.cons (.set 7 (.lst false (.cons (.k (.str "call")) (.cons (.idx (.v 6) (.k (.int 0))) .nil))))
 (.cons (.for [8] (.gv (.blt .len true (.cons (.idx (.v 6) (.k (.int 1))) .nil))) (.cons (.ex (.o9 .append true (.v 7) (.cons (.call 20 (.cons (.idx (.idx (.idx (.v 6) (.k (.int 1))) (.v 8)) (.k (.int 1))) (.cons (.call 12 (.cons (.v 1) (.cons (.v 8) .nil))) (.cons (.v 2) (.cons (.v 3) (.cons (.op .sub true (.v 4) (.k (.int 1))) .nil)))))) .nil)))
 .nil))
 (.cons (.ret (.blt .tuple true (.cons (.v 7) .nil)))
 .nil))))))⟩
noncomputable def gE:List Str:=["_law_kind_here", "_law_seed", "_law_names", "_law_functions", "_law_depth", "_law_other", "_law_one", "_law_two", "_law_word", "_law_first"]
noncomputable def bQ:Fn:=⟨5,10,[],false,
 (.cons (.set 5 (.call 13 (.cons (.op .fdiv true (.v 1) (.k (.int 7))) .nil)))
 (.cons (.set 6 (.call 12 (.cons (.v 1) (.cons (.k (.int 11)) .nil))))
 (.cons (.set 7 (.call 12 (.cons (.v 1) (.cons (.k (.int 12)) .nil))))
 (.cons (.ifs (.and (.cmp .eq (.idx (.v 0) (.k (.int 0))) (.k (.str "num"))) (.cmp .eq (.op .mod true (.v 1) (.k (.int 3))) (.k (.int 0)))) (.cons (.ret (.tup (.cons (.k (.str "none")) (.cons (.call 20 (.cons (.tup (.cons (.k (.str "list")) (.cons (.v 5) .nil))) (.cons (.v 6) (.cons (.v 2) (.cons (.v 3) (.cons (.op .sub true (.v 4) (.k (.int 1))) .nil)))))) .nil))))
 .nil) .nil)
 (.cons (.ifs (.cmp .eq (.idx (.v 0) (.k (.int 0))) (.k (.str "num"))) (.cons (.set 8 (.idx (.lst true (.cons (.k (.str "plus")) (.cons (.k (.str "minus")) (.cons (.k (.str "times")) (.cons (.k (.str "less")) .nil))))) (.op .mod true (.op .fdiv true (.v 1) (.k (.int 3))) (.k (.int 4)))))
 (.cons (.set 9 (.call 20 (.cons (.v 0) (.cons (.v 6) (.cons (.v 2) (.cons (.v 3) (.cons (.op .sub true (.v 4) (.k (.int 1))) .nil)))))))
 (.cons (.ret (.tup (.cons (.v 8) (.cons (.v 9) (.cons (.call 20 (.cons (.v 0) (.cons (.v 7) (.cons (.v 2) (.cons (.v 3) (.cons (.op .sub true (.v 4) (.k (.int 1))) .nil)))))) .nil)))))
 .nil))) .nil)
 (.cons (.ifs (.cmp .eq (.idx (.v 0) (.k (.int 0))) (.k (.str "pair"))) (.cons (.set 9 (.call 20 (.cons (.idx (.v 0) (.k (.int 1))) (.cons (.v 6) (.cons (.v 2) (.cons (.v 3) (.cons (.op .sub true (.v 4) (.k (.int 1))) .nil)))))))
 (.cons (.ret (.tup (.cons (.k (.str "pair")) (.cons (.v 9) (.cons (.call 20 (.cons (.idx (.v 0) (.k (.int 2))) (.cons (.v 7) (.cons (.v 2) (.cons (.v 3) (.cons (.op .sub true (.v 4) (.k (.int 1))) .nil)))))) .nil)))))
 .nil)) .nil)
 (.cons (.ifs (.cmp .eq (.op .mod true (.v 1) (.k (.int 3))) (.k (.int 0))) (.cons (.ret (.tup (.cons (.k (.str "tail")) (.cons (.call 20 (.cons (.v 0) (.cons (.v 6) (.cons (.v 2) (.cons (.v 3) (.cons (.op .sub true (.v 4) (.k (.int 1))) .nil)))))) .nil))))
 .nil) .nil)
 (.cons (.set 9 (.call 20 (.cons (.idx (.v 0) (.k (.int 1))) (.cons (.v 6) (.cons (.v 2) (.cons (.v 3) (.cons (.op .sub true (.v 4) (.k (.int 1))) .nil)))))))
 (.cons (.ret (.tup (.cons (.k (.str "cons")) (.cons (.v 9) (.cons (.call 20 (.cons (.v 0) (.cons (.v 7) (.cons (.v 2) (.cons (.v 3) (.cons (.op .sub true (.v 4) (.k (.int 1))) .nil)))))) .nil)))))
 .nil)))))))))⟩
noncomputable def iu:List Str:=["_law_kind_here", "_law_seed", "_law_names", "_law_functions", "_law_depth", "_law_lot", "_law_one", "_law_test", "_law_first"]
noncomputable def bI:Fn:=⟨5,9,[],false,
 (.cons (.ifs (.cmp .le (.v 4) (.k (.int 0))) (.cons (.ret (.call 17 (.cons (.v 0) (.cons (.v 1) (.cons (.v 2) .nil)))))
 .nil) .nil)
 (.cons (.set 5 (.op .mod true (.v 1) (.k (.int 12))))
 (.cons (.set 6 (.call 12 (.cons (.v 1) (.cons (.k (.int 21)) .nil))))
 (.cons (.ifs (.and (.cmp .le (.v 5) (.k (.int 2))) (.cmp .gt (.call 14 (.cons (.v 0) .nil)) (.k (.int 4)))) (.cons (.set 5 (.k (.int 9)))
 .nil) .nil)
 (.cons (.ifs (.cmp .eq (.v 5) (.k (.int 0))) (.cons (.ret (.tup (.cons (.k (.str "head")) (.cons (.call 20 (.cons (.tup (.cons (.k (.str "list")) (.cons (.v 0) .nil))) (.cons (.v 6) (.cons (.v 2) (.cons (.v 3) (.cons (.op .sub true (.v 4) (.k (.int 1))) .nil)))))) .nil))))
 .nil) .nil)
 (.cons (.ifs (.cmp .eq (.v 5) (.k (.int 1))) (.cons (.ret (.tup (.cons (.k (.str "first")) (.cons (.call 20 (.cons (.tup (.cons (.k (.str "pair")) (.cons (.v 0) (.cons (.tup (.cons (.k (.str "num")) .nil)) .nil)))) (.cons (.v 6) (.cons (.v 2) (.cons (.v 3) (.cons (.op .sub true (.v 4) (.k (.int 1))) .nil)))))) .nil))))
 .nil) .nil)
 (.cons (.ifs (.cmp .eq (.v 5) (.k (.int 2))) (.cons (.ret (.tup (.cons (.k (.str "second")) (.cons (.call 20 (.cons (.tup (.cons (.k (.str "pair")) (.cons (.tup (.cons (.k (.str "num")) .nil)) (.cons (.v 0) .nil)))) (.cons (.v 6) (.cons (.v 2) (.cons (.v 3) (.cons (.op .sub true (.v 4) (.k (.int 1))) .nil)))))) .nil))))
 .nil) .nil)
 (.cons (.ifs (.cmp .eq (.v 5) (.k (.int 3))) (.cons (.set 7 (.call 20 (.cons (.tup (.cons (.k (.str "num")) .nil)) (.cons (.v 6) (.cons (.v 2) (.cons (.v 3) (.cons (.op .sub true (.v 4) (.k (.int 1))) .nil)))))))
 (.cons (.set 8 (.call 20 (.cons (.v 0) (.cons (.call 12 (.cons (.v 1) (.cons (.k (.int 22)) .nil))) (.cons (.v 2) (.cons (.v 3) (.cons (.op .sub true (.v 4) (.k (.int 1))) .nil)))))))
 (.cons (.ret (.tup (.cons (.k (.str "if")) (.cons (.v 7) (.cons (.v 8) (.cons (.call 20 (.cons (.v 0) (.cons (.call 12 (.cons (.v 1) (.cons (.k (.int 23)) .nil))) (.cons (.v 2) (.cons (.v 3) (.cons (.op .sub true (.v 4) (.k (.int 1))) .nil)))))) .nil))))))
 .nil))) .nil)
 (.cons (.ifs (.cmp .le (.v 5) (.k (.int 6))) (.cons (.ret (.call 18 (.cons (.v 0) (.cons (.op .fdiv true (.v 1) (.k (.int 12))) (.cons (.v 2) (.cons (.v 3) (.cons (.v 4) .nil)))))))
 .nil) .nil)
 (.cons (.ifs (.cmp .eq (.v 5) (.k (.int 7))) (.cons (.ret (.call 17 (.cons (.v 0) (.cons (.v 6) (.cons (.v 2) .nil)))))
 .nil) .nil)
 (.cons (.ret (.call 19 (.cons (.v 0) (.cons (.op .fdiv true (.v 1) (.k (.int 12))) (.cons (.v 2) (.cons (.v 3) (.cons (.v 4) .nil)))))))
 .nil)))))))))))⟩
noncomputable def gI:List Str:=["_law_found", "_law_due"]
noncomputable def bX:Fn:=⟨2,2,[],false,
 (.cons (.ifs (.pG (.v 1) .str) (.cons (.ret (.and (.pG (.v 0) .str) (.cmp .eq (.v 0) (.v 1))))
 .nil) .nil)
 (.cons (.ifs (.pG (.v 1) .int) (.cons (.ret (.and (.pG (.v 0) .int) (.and (.not (.pG (.v 0) .bool)) (.cmp .eq (.v 0) (.v 1)))))
 .nil) .nil)
 (.cons (.ifs (.and (.pG (.v 1) .list) (.not (.pG (.v 0) .list))) (.cons (.ret (.k (.bl false)))
 .nil) .nil)
 (.cons (.ifs (.and (.pG (.v 1) .tuple) (.not (.pG (.v 0) .tuple))) (.cons (.ret (.k (.bl false)))
 .nil) .nil)
 (.cons (.ifs (.cmp .ne (.blt .len true (.cons (.v 0) .nil)) (.blt .len true (.cons (.v 1) .nil))) (.cons (.ret (.k (.bl false)))
 .nil) .nil)
 (.cons (.ret (.all1 (.comp true [] [0,1] (.call 21 (.cons (.v 0) (.cons (.v 1) .nil))) (.zip (.v 0) (.v 1)) .none)))
 .nil))))))⟩
noncomputable def gG:List Str:=["_law_seed", "_law_program", "_law_k", "_law_one", "_law_takers", "_law_kind_here", "_law_name_here"]
noncomputable def iO:Fn:=⟨1,7,[],false,
 (.cons (.set 1 (.lst false .nil))
 (.cons (.for [2] (.gv (.k (.int 4))) (.cons (.set 3 (.call 12 (.cons (.v 0) (.cons (.v 2) .nil))))
 (.cons (.set 4 (.comp true [3] [1] (.tup (.cons (.call 15 (.cons (.v 0) (.cons (.v 1) .nil))) (.cons (.call 13 (.cons (.call 12 (.cons (.v 0) (.cons (.v 1) .nil))) .nil)) .nil))) (.gv (.op .mod true (.op .fdiv true (.v 3) (.k (.int 5))) (.k (.int 5)))) .none))
 (.cons (.set 5 (.call 13 (.cons (.op .fdiv true (.v 3) (.k (.int 35))) .nil)))
 (.cons (.set 6 (.call 15 (.cons (.v 0) (.cons (.op .add true (.k (.int 5)) (.v 2)) .nil))))
 (.cons (.ifs (.cmp .eq (.v 2) (.op .mod true (.op .fdiv true (.v 0) (.k (.int 3))) (.k (.int 4)))) (.cons (.set 6 (.k (.str "main")))
 (.cons (.set 4 (.comp true [] [0, 1] (.tup (.cons (.v 0) (.cons (.tup (.cons (.k (.str "num")) .nil)) .nil))) (.e (.v 4)) .none))
 .nil)) .nil)
 (.cons (.ex (.o9 .append true (.v 1) (.cons (.tup (.cons (.v 6) (.cons (.v 4) (.cons (.v 5) (.cons (.call 16 (.cons (.v 5) (.cons (.v 3) .nil))) .nil))))) .nil)))
 .nil)))))))
 (.cons (.ret (.v 1))
 .nil)))⟩
noncomputable def fq:List Str:=["_law_program", "_law_seed", "_law_names", "_law_one", "_law_made", "_law_at_here"]
noncomputable def cj:Fn:=⟨3,6,[],false,
 (.cons (.set 3 (.idx (.v 0) (.op .mod true (.v 1) (.k (.int 4)))))
 (.cons (.set 4 (.comp false [2,1] [2] (.call 17 (.cons (.idx (.v 2) (.k (.int 1))) (.cons (.call 12 (.cons (.v 1) (.cons (.k (.int 3)) .nil))) (.cons (.v 0) .nil)))) (.e (.idx (.v 3) (.k (.int 1)))) .none))
 (.cons (.ifs (.and (.or (.cmp .eq (.op .mod true (.op .fdiv true (.v 1) (.k (.int 4))) (.k (.int 3))) (.k (.int 0))) (.cmp .eq (.blt .len true (.cons (.v 4) .nil)) (.k (.int 0)))) (.cmp .lt (.blt .len true (.cons (.v 4) .nil)) (.k (.int 4)))) (.cons (.ex (.o9 .append true (.v 4) (.cons (.tup (.cons (.k (.str "number")) (.cons (.k (.int 1)) .nil))) .nil)))
 .nil) (.cons (.ifs (.cmp .lt (.op .mod true (.op .fdiv true (.v 1) (.k (.int 4))) (.k (.int 3))) (.k (.int 2))) (.cons (.set 4 (.sl false (.v 4) (.some (.k (.int 1))) .none))
 .nil) (.cons (.set 5 (.op .mod true (.op .fdiv true (.v 1) (.k (.int 12))) (.blt .len true (.cons (.v 4) .nil))))
 (.cons (.j3 (.v 4) (.v 5) (.tup (.cons (.k (.str "nil")) (.cons (.idx (.idx (.idx (.v 3) (.k (.int 1))) (.v 5)) (.k (.int 1))) .nil))))
 .nil)))
 .nil))
 (.cons (.ret (.blt .tuple true (.cons (.op .add true (.lst true (.cons (.k (.str "call")) (.cons (.idx (.v 3) (.k (.int 0))) .nil))) (.v 4)) .nil)))
 .nil))))⟩
noncomputable def iV:List Str:=["_law_program", "_law_seed", "_law_names", "_law_num", "_law_kind_here", "_law_one", "_law_some", "_law_made"]
noncomputable def iC:Fn:=⟨3,8,[],false,
 (.cons (.set 3 (.tup (.cons (.k (.str "num")) .nil)))
 (.cons (.set 4 (.call 13 (.cons (.op .add true (.k (.int 2)) (.op .mod true (.op .fdiv true (.v 1) (.k (.int 13))) (.k (.int 8)))) .nil)))
 (.cons (.set 5 (.call 20 (.cons (.v 4) (.cons (.call 12 (.cons (.v 1) (.cons (.k (.int 1)) .nil))) (.cons (.v 2) (.cons (.v 0) (.cons (.k (.int 1)) .nil)))))))
 (.cons (.set 6 (.call 20 (.cons (.v 3) (.cons (.call 12 (.cons (.v 1) (.cons (.k (.int 2)) .nil))) (.cons (.v 2) (.cons (.v 0) (.cons (.k (.int 1)) .nil)))))))
 (.cons (.set 7 (.lst true (.cons (.tup (.cons (.k (.str "plus")) (.cons (.v 5) (.cons (.v 6) .nil)))) (.cons (.tup (.cons (.k (.str "less")) (.cons (.v 6) (.cons (.v 5) .nil)))) (.cons (.tup (.cons (.k (.str "times")) (.cons (.tup (.cons (.k (.str "nil")) (.cons (.v 3) .nil))) (.cons (.v 6) .nil)))) .nil)))))
 (.cons (.set 7 (.op .add true (.v 7) (.lst true (.cons (.tup (.cons (.k (.str "minus")) (.cons (.v 6) (.cons (.tup (.cons (.k (.str "pair")) (.cons (.v 6) (.cons (.v 6) .nil)))) .nil)))) .nil))))
 (.cons (.set 7 (.op .add true (.v 7) (.lst true (.cons (.tup (.cons (.k (.str "if")) (.cons (.v 5) (.cons (.v 6) (.cons (.v 6) .nil))))) (.cons (.tup (.cons (.k (.str "if")) (.cons (.v 6) (.cons (.v 6) (.cons (.v 5) .nil))))) (.cons (.tup (.cons (.k (.str "if")) (.cons (.v 6) (.cons (.v 5) (.cons (.v 6) .nil))))) (.cons (.tup (.cons (.k (.str "cons")) (.cons (.v 5) (.cons (.v 5) .nil)))) .nil)))))))
 (.cons (.set 7 (.op .add true (.v 7) (.lst true (.cons (.tup (.cons (.k (.str "cons")) (.cons (.v 6) (.cons (.v 6) .nil)))) (.cons (.tup (.cons (.k (.str "cons")) (.cons (.v 6) (.cons (.tup (.cons (.k (.str "nil")) (.cons (.tup (.cons (.k (.str "list")) (.cons (.v 3) .nil))) .nil))) .nil)))) (.cons (.tup (.cons (.k (.str "head")) (.cons (.v 6) .nil))) (.cons (.tup (.cons (.k (.str "tail")) (.cons (.v 6) .nil))) .nil)))))))
 (.cons (.set 7 (.op .add true (.v 7) (.lst true (.cons (.tup (.cons (.k (.str "head")) (.cons (.tup (.cons (.k (.str "pair")) (.cons (.v 5) (.cons (.v 5) .nil)))) .nil))) (.cons (.tup (.cons (.k (.str "none")) (.cons (.v 6) .nil))) (.cons (.tup (.cons (.k (.str "first")) (.cons (.v 6) .nil))) (.cons (.tup (.cons (.k (.str "second")) (.cons (.tup (.cons (.k (.str "nil")) (.cons (.v 3) .nil))) .nil))) .nil)))))))
 (.cons (.set 7 (.op .add true (.v 7) (.lst true (.cons (.tup (.cons (.k (.str "none")) (.cons (.tup (.cons (.k (.str "pair")) (.cons (.v 6) (.cons (.v 5) .nil)))) .nil))) (.cons (.call 23 (.cons (.v 0) (.cons (.op .fdiv true (.v 1) (.k (.int 23))) (.cons (.v 2) .nil)))) .nil)))))
 (.cons (.ret (.idx (.v 7) (.op .mod true (.v 1) (.k (.int 18)))))
 .nil)))))))))))⟩
noncomputable def gb:List Str:=["_law_bad_here", "_law_seed", "_law_names", "_law_program", "_law_num", "_law_some", "_law_made"]
noncomputable def ez:Fn:=⟨4,7,[],false,
 (.cons (.set 4 (.tup (.cons (.k (.str "num")) .nil)))
 (.cons (.set 5 (.call 20 (.cons (.v 4) (.cons (.call 12 (.cons (.v 1) (.cons (.k (.int 4)) .nil))) (.cons (.v 2) (.cons (.v 3) (.cons (.k (.int 1)) .nil)))))))
 (.cons (.set 6 (.lst true (.cons (.v 0) (.cons (.tup (.cons (.k (.str "let")) (.cons (.k (.str "zq")) (.cons (.v 0) (.cons (.v 5) .nil))))) (.cons (.tup (.cons (.k (.str "let")) (.cons (.k (.str "zq")) (.cons (.v 5) (.cons (.v 0) .nil))))) (.cons (.tup (.cons (.k (.str "if")) (.cons (.v 5) (.cons (.v 0) (.cons (.v 0) .nil))))) .nil))))))
 (.cons (.set 6 (.op .add true (.v 6) (.lst true (.cons (.tup (.cons (.k (.str "none")) (.cons (.tup (.cons (.k (.str "cons")) (.cons (.v 0) (.cons (.v 5) .nil)))) .nil))) .nil))))
 (.cons (.ret (.idx (.op .add true (.v 6) (.lst true (.cons (.tup (.cons (.k (.str "pair")) (.cons (.v 5) (.cons (.v 0) .nil)))) (.cons (.tup (.cons (.k (.str "first")) (.cons (.tup (.cons (.k (.str "pair")) (.cons (.v 5) (.cons (.v 0) .nil)))) .nil))) .nil)))) (.op .mod true (.v 1) (.k (.int 7)))))
 .nil)))))⟩
noncomputable def ir:List Str:=["_law_program", "_law_names", "_law_part_here", "_law_word", "_law_found"]
noncomputable def eB:Fn:=⟨3,5,[],false,
 (.cons (.set 3 (.k (.str "none")))
 (.cons (.set 4 (.k .aE))
 (.cons (.try (.cons (.set 4 (.call 9 (.cons (.v 0) (.cons (.v 1) (.cons (.v 2) .nil)))))
 .nil) (.cons [2] (.cons (.set 3 (.k (.str "kind")))
 .nil) .nil) .nil)
 (.cons (.ret (.tup (.cons (.v 3) (.cons (.v 4) .nil))))
 .nil))))⟩
noncomputable def nR:List Str:=["_law_script", "_law_seed", "_law_program", "_law_names", "_law_k", "_law_cell", "_law_one", "_law_kind_here", "_law_part_here", "_law_word", "_law_found"]
noncomputable def Dk:Fn:=⟨1,11,[],false,
 (.cons (.set 1 (.call 11 (.cons (.v 0) (.cons (.k (.int 0)) .nil))))
 (.cons (.set 2 (.call 22 (.cons (.v 1) .nil)))
 (.cons (.set 3 .nZ)
 (.cons (.for [4] (.gv (.k (.int 4))) (.cons (.j3 (.v 3) (.call 15 (.cons (.op .fdiv true (.v 1) (.k (.int 11))) (.cons (.v 4) .nil))) (.call 13 (.cons (.op .add true (.op .fdiv true (.v 1) (.k (.int 13))) (.v 4)) .nil)))
 .nil))
 (.cons (.for [5] (.e (.op .add true (.lst true (.cons (.k (.int 1)) .nil)) (.sl true (.v 0) .none (.some (.k (.int 12)))))) (.cons (.set 6 (.call 10 (.cons (.v 5) .nil)))
 (.cons (.set 7 (.call 13 (.cons (.op .fdiv true (.v 6) (.k (.int 3))) .nil)))
 (.cons (.set 8 (.call 20 (.cons (.v 7) (.cons (.call 12 (.cons (.v 6) (.cons (.k (.int 1)) .nil))) (.cons (.v 3) (.cons (.v 2) (.cons (.k (.int 2)) .nil)))))))
 (.cons (.ifs (.cmp .eq (.op .mod true (.v 6) (.k (.int 3))) (.k (.int 0))) (.cons (.set 8 (.call 25 (.cons (.call 24 (.cons (.v 2) (.cons (.op .fdiv true (.v 6) (.k (.int 21))) (.cons (.v 3) .nil)))) (.cons (.op .fdiv true (.v 6) (.k (.int 7))) (.cons (.v 3) (.cons (.v 2) .nil))))))
 .nil) .nil)
 (.cons (.DM [9,10] (.call 26 (.cons (.v 2) (.cons (.v 3) (.cons (.v 8) .nil)))))
 (.cons (.ifs (.or (.cmp .ne (.v 2) (.call 22 (.cons (.v 1) .nil))) (.cmp .ne (.blt .len true (.cons (.v 3) .nil)) (.k (.int 4)))) (.cons (.ret (.k (.bl false)))
 .nil) .nil)
 (.cons (.ifs (.and (.cmp .eq (.op .mod true (.v 6) (.k (.int 3))) (.k (.int 0))) (.cmp .ne (.v 9) (.k (.str "kind")))) (.cons (.ret (.k (.bl false)))
 .nil) .nil)
 (.cons (.ifs (.and (.cmp .gt (.op .mod true (.v 6) (.k (.int 3))) (.k (.int 0))) (.or (.cmp .ne (.v 9) (.k (.str "none"))) (.not (.call 21 (.cons (.v 10) (.cons (.v 7) .nil)))))) (.cons (.ret (.k (.bl false)))
 .nil) .nil)
 .nil)))))))))
 (.cons (.ret (.k (.bl true)))
 .nil))))))⟩
noncomputable def fns:List Fn:=[jf,dD,fj,cg,ck,aQ,aK,au,cF,iD,fm,gH,gf,gh,c7,gg,cJ,eE,eF,bQ,bI,bX,iO,cj,iC,ez,eB,Dk]
noncomputable def cst:List D:=[(.dct [(.inr "plus"), (.inr "minus"), (.inr "times"), (.inr "less"), (.inr "pair"), (.inr "first"), (.inr "second"), (.inr "cons"), (.inr "head"), (.inr "tail"), (.inr "none"), (.inr "if")] [(.int 2), (.int 2), (.int 2), (.int 2), (.int 2), (.int 1), (.int 1), (.int 2), (.int 1), (.int 1), (.int 1), (.int 3)]), (.tup [(.str "num")])]
noncomputable def subs:List (Nat×Nat):=[(0,0),(1,0),(1,1),(2,0),(2,2)]
noncomputable def aq:mL:=⟨fun i=>fns[i]?,fun i=>cst[i]?,100000,fun a b=>subs.contains (a,b)⟩
end dI
end
section
set_option maxHeartbeats 0
namespace dI
open Fg PySem PySem.Spec L2
noncomputable abbrev hdP:Program:=PySem.Challenge.pw_fieldgate_k03_kind_of
noncomputable def cA (i:Nat):Stmt:=hdP.main.body.getD i (.Pass ⟨0,0,0,0⟩)
noncomputable def tb:Tb:=⟨[
 ⟨"inner", "inner", cA 6, ["part"], j6, 0, none⟩,
 ⟨"function_called", "function_called", cA 9, ["program", "name"], dR, 1, none⟩,
 ⟨"want_kind", "want_kind", cA 10, ["kind", "wanted"], gC, 2, none⟩,
 ⟨"want_made_by", "want_made_by", cA 11, ["kind", "word"], fh, 3, none⟩,
 ⟨"kind_of_call", "kind_of_call", cA 12, ["program", "name", "kinds"], fE, 4, none⟩,
 ⟨"kind_of_pair_word", "kind_of_pair_word", cA 13, ["word", "kinds"], dh, 5, none⟩,
 ⟨"kind_of_list_word", "kind_of_list_word", cA 14, ["word", "kinds"], dj, 6, none⟩,
 ⟨"kind_of_word", "kind_of_word", cA 15, ["word", "kinds"], fu, 7, none⟩,
 ⟨"kind_of_let", "kind_of_let", cA 16, ["program", "names", "part"], fP, 8, none⟩,
 ⟨"kind_of", "kind_of", cA 17, ["program", "names", "part"], iW, 9, none⟩,
 ⟨"_law_mixed", "_law_mixed", cA 19, ["_law_cell"], gD, 10, none⟩,
 ⟨"_law_at", "_law_at", cA 20, ["_law_script", "_law_k"], jM, 11, none⟩,
 ⟨"_law_next", "_law_next", cA 21, ["_law_seed", "_law_k"], iw, 12, none⟩,
 ⟨"_law_kind", "_law_kind", cA 22, ["_law_pick"], iA, 13, none⟩,
 ⟨"_law_wide", "_law_wide", cA 23, ["_law_kind_here"], ig, 14, none⟩,
 ⟨"_law_name", "_law_name", cA 24, ["_law_seed", "_law_k"], iy, 15, none⟩,
 ⟨"_law_least", "_law_least", cA 25, ["_law_kind_here", "_law_seed"], gF, 16, none⟩,
 ⟨"_law_leaf", "_law_leaf", cA 26, ["_law_kind_here", "_law_seed", "_law_names"], iz, 17, none⟩,
 ⟨"_law_call", "_law_call", cA 27, ["_law_kind_here", "_law_seed", "_law_names", "_law_functions", "_law_depth"], iB, 18, none⟩,
 ⟨"_law_maker", "_law_maker", cA 28, ["_law_kind_here", "_law_seed", "_law_names", "_law_functions", "_law_depth"], gE, 19, none⟩,
 ⟨"_law_part", "_law_part", cA 29, ["_law_kind_here", "_law_seed", "_law_names", "_law_functions", "_law_depth"], iu, 20, none⟩,
 ⟨"_law_alike", "_law_alike", cA 30, ["_law_found", "_law_due"], gI, 21, none⟩,
 ⟨"_law_heads", "_law_heads", cA 31, ["_law_seed"], gG, 22, none⟩,
 ⟨"_law_bad_call", "_law_bad_call", cA 32, ["_law_program", "_law_seed", "_law_names"], fq, 23, none⟩,
 ⟨"_law_bad", "_law_bad", cA 33, ["_law_program", "_law_seed", "_law_names"], iV, 24, none⟩,
 ⟨"_law_within", "_law_within", cA 34, ["_law_bad_here", "_law_seed", "_law_names", "_law_program"], gb, 25, none⟩,
 ⟨"_law_told", "_law_told", cA 35, ["_law_program", "_law_names", "_law_part_here"], ir, 26, none⟩,
 ⟨"law", "law", cA 36, ["_law_script"], nR, 27, none⟩],
 [],
 [],
 ["GateError", "NoName", "NoKind"],
 [],
 ["len", "sum", "tuple", "list", "dict", "str", "int", "all", "range", "isinstance", "bool", "zip"],
 [],
 [("NUM", 1, ["num"])],
 [("PARTS_BEHIND", 0, [("plus", 2), ("minus", 2), ("times", 2), ("less", 2), ("pair", 2), ("first", 1), ("second", 1), ("cons", 2), ("head", 1), ("tail", 1), ("none", 1), ("if", 3)])]⟩
noncomputable def KQ:Program:=W.view hdP [36]
noncomputable def hdL:List Str:=["GateError", "NoName", "NoKind", "PARTS_BEHIND", "inner", "NUM", "function_called", "want_kind", "want_made_by", "kind_of_call", "kind_of_pair_word", "kind_of_list_word", "kind_of_word", "kind_of_let", "kind_of", "_law_mixed", "_law_at", "_law_next", "_law_kind", "_law_wide", "_law_name", "_law_least", "_law_leaf", "_law_call", "_law_maker", "_law_part", "_law_alike", "_law_heads", "_law_bad_call", "_law_bad", "_law_within", "_law_told"]
noncomputable def hdX (s:Shared):Bool:=W.xlAt KQ [] s&&W.recOk (W.RowW.records PySem.Challenge.rw_fieldgate_k03_kind_of.row.toRowW) s
theorem lft:W.LeftO hdP KQ hdL hdX (tb.hook aq).obs (tb.hook aq).val 20000:=W.LeftO.of_split "special-get-raises" fun w=>by kernel_rfl
end dI
end
section
namespace L2
open PySem PySem.Spec PyProof.Rows
noncomputable abbrev Key:=Sum Int Str
noncomputable def jE:Key->Value->Bool
 | .inl k,v=>Value.isInt k v
 | .inr x,v=>Value.isStrOf x v
noncomputable def keyH (w:World):Key->Int
 | .inl k=>hashInt k
 | .inr x=>hashStr w x
theorem br:∀ {k:Key} {v:Value},jE k v=true->(∃ i t,k=Sum.inl i/\v=Value.int i t)\/(∃ x t,k=Sum.inr x/\v=Value.str x t)
 | .inl i,v,h=>by
  obtain ⟨t,e⟩:=Value.isInt_shape (k:=i) (v:=v) h
  exact .inl ⟨i,t,rfl,e⟩
 | .inr x,v,h=>by
  obtain ⟨t,e⟩:=Value.isStrOf_shape (x:=x) (v:=v) h
  exact .inr ⟨x,t,rfl,e⟩
theorem sN (i:Int) (t:Tok):jE (.inl i) (.int i t)=true:=by simp [jE,Value.isInt]
theorem g9 (x:Str) (t:Tok):jE (.inr x) (.str x t)=true:=by simp [jE,Value.isStrOf]
theorem FJ (a b:Int):decide ((Sum.inl a:Key)=Sum.inl b)=(a == b):=by
 by_cases e:a=b
 ·subst e;simp
 ·have h:¬ (Sum.inl a:Key)=Sum.inl b:=fun q=>e (Sum.inl.inj q)
  rw [decide_eq_false h]
  exact (beq_eq_false_iff_ne.mpr e).symm
theorem FG (a b:Str):decide ((Sum.inr a:Key)=Sum.inr b)=decide (a=b):=by
 by_cases e:a=b
 ·subst e;simp
 ·have h:¬ (Sum.inr a:Key)=Sum.inr b:=fun q=>e (Sum.inr.inj q)
  rw [decide_eq_false h,decide_eq_false e]
theorem FI (a:Int) (b:Str):decide ((Sum.inl a:Key)=Sum.inr b)=false:=decide_eq_false (fun q=>nomatch q)
theorem FH (a:Str) (b:Int):decide ((Sum.inr a:Key)=Sum.inl b)=false:=decide_eq_false (fun q=>nomatch q)
noncomputable def aZ (prog:Program) (w:World):PySem.KeyKind prog w Key where
 is:=jE
 hash:=keyH w
 inj:=fun v a b ha hb=>by
  rcases br ha with ⟨i,t,rfl,rfl⟩ | ⟨x,t,rfl,rfl⟩
  ·rcases br hb with ⟨j,u,rfl,e⟩ | ⟨y,u,rfl,e⟩
   ·injection e with e1 _;rw [e1]
   ·exact nomatch e
  ·rcases br hb with ⟨j,u,rfl,e⟩ | ⟨y,u,rfl,e⟩
   ·exact nomatch e
   ·injection e with e1 _;rw [e1]
 byValue:=fun k v h=>by
  rcases br h with ⟨i,t,rfl,rfl⟩ | ⟨x,t,rfl,rfl⟩ <;> rfl
 pyHash:=fun hv h=>by
  rcases br hv with ⟨i,t,rfl,rfl⟩ | ⟨x,t,rfl,rfl⟩
  ·exact wpAny_pyHash_int h
  ·exact wpAny_pyHash_str h
 eqBool:=fun hu hv h=>by
  rcases br hu with ⟨i,t,rfl,rfl⟩ | ⟨x,t,rfl,rfl⟩
  ·rcases br hv with ⟨j,u,rfl,rfl⟩ | ⟨y,u,rfl,rfl⟩
   ·rw [FJ] at h;exact wpAny_eqBool_int h
   ·rw [FI] at h;exact SeqAt.EqAt.int_str i t y u _ _ _ _ h
  ·rcases br hv with ⟨j,u,rfl,rfl⟩ | ⟨y,u,rfl,rfl⟩
   ·rw [FH] at h;exact SeqAt.EqAt.str_int x t j u _ _ _ _ h
   ·rw [FG] at h;exact wpAny_eqBool_str h
 «strs»:=fun k x t v h=>by
  rcases br h with ⟨i,u,rfl,e⟩ | ⟨y,u,rfl,e⟩
  ·exact nomatch e
  ·injection e with e1 _
   subst e1
   cases v <;> rfl
theorem nE (prog:Program) (w:World) (i:Int) (t:Tok):(aZ prog w).is (.inl i) (.int i t)=true:=sN i t
theorem nC (prog:Program) (w:World) (x:Str) (t:Tok):(aZ prog w).is (.inr x) (.str x t)=true:=g9 x t
inductive V where
 | aE | bl (b:Bool) | int (i:Int) | str (x:Str) | xA (b:Array UInt8) | flt (b:UInt64) | ref (a:Addr) | ty (n:String)
 deriving DecidableEq
noncomputable def RelV:V->Value->Prop
 | .aE,u=>u=Value.none
 | .bl b,u=>u=Value.bool b
 | .int i,u=>∃ t,u=Value.int i t
 | .str x,u=>∃ t,u=Value.str x t
 | .xA b,u=>∃ t,u=Value.bytes b t
 | .flt b,u=>∃ t,u=Value.float b t
 | .ref a,u=>u=Value.ref a
 | .ty n,u=>u=Value.type n
noncomputable abbrev Vals:List V->List Value->Prop:=Paired RelV
theorem Vals.length {xs:List V} {us:List Value} (r:Vals xs us):xs.length=us.length:=Paired.length r
theorem Vals.get:∀ {xs:List V} {us:List Value} {i:Nat} {x:V},Vals xs us->xs[i]? = some x->∃ u,us[i]? = some u/\RelV x u
 | _,_,_,_,.nil,e=>by simp at e
 | _,_,0,_,.cons r _,e=>by simp at e;subst e;exact ⟨_,rfl,r⟩
 | _,_,i+1,x,.cons _ t,e=>by
  obtain ⟨u,h1,h2⟩:=Vals.get (i:=i) (x:=x) t (by simpa using e)
  exact ⟨u,by simpa using h1,h2⟩
theorem Vals.set {x:V} {u:Value} (r:RelV x u):∀ {xs:List V} {us:List Value} (i:Nat),Vals xs us->Vals (xs.set i x) (us.set i u)
 | _,_,_,.nil=>.nil
 | _,_,0,.cons _ t=>.cons r t
 | _,_,i+1,.cons q t=>.cons q (Vals.set r i t)
theorem Vals.append:∀ {xs ys:List V} {us ws:List Value},Vals xs us->Vals ys ws->Vals (xs++ys) (us++ws)
 | _,_,_,_,.nil,s=>s
 | _,_,_,_,.cons r t,s=>.cons r (Vals.append t s)
theorem Vals.take:∀ {xs:List V} {us:List Value} (n:Nat),Vals xs us->Vals (xs.take n) (us.take n)
 | _,_,0,_=>.nil
 | _,_,_+1,.nil=>.nil
 | _,_,n+1,.cons r t=>.cons r (Vals.take n t)
theorem Vals.drop:∀ {xs:List V} {us:List Value} (n:Nat),Vals xs us->Vals (xs.drop n) (us.drop n)
 | _,_,0,r=>r
 | _,_,_+1,.nil=>.nil
 | _,_,n+1,.cons _ t=>Vals.drop n t
noncomputable def mH:Option V->Option Value->Prop
 | some v,some u=>RelV v u
 | none,none=>True
 | _,_=>False
noncomputable def KV {κ:Type}:List (κ×V)->List (κ×Value)->Prop:=Paired fun (p:κ×V) (q:κ×Value)=>p.1=q.1/\RelV p.2 q.2
noncomputable def kV:Key->V
 | .inl i=>.int i
 | .inr x=>.str x
inductive HO where
 | lst (xs:List V)
 | tup (xs:List V)
 | dK (kvs:List (Key×V)) | dT (kvs:List (List Key×V))
 | set (S:Int->Bool) (n:Nat)
 | ins (C dx:Addr) (fs:List (Str×V))
 | own (x:Addr)
 | xd (fs:List (Str×V))
 | met (f x:Addr)
 | gv (lo hi:Int)
 | fN (o:Obj) (u:HO)
 | Ce (ps:Array Value)
 | ext (φ:Heap->Prop)
noncomputable abbrev Hp:=Addr->Option HO
noncomputable def upd (H:Hp) (a:Addr) (o:HO):Hp:=fun b=>if b=a then some o else H b
theorem aL {H:Hp} {a:Addr} {o:HO}:upd H a o a=some o:=by unfold upd;rw [if_pos rfl]
theorem ak {H:Hp} {a b:Addr} {o:HO} (h:b≠a):upd H a o b=H b:=by unfold upd;rw [if_neg h]
theorem IU {H:Hp} {a b:Addr} {o u:HO} (h:H a=some o) (h':H b=some u) (d:o≠u):a≠b:=by
 intro e;subst e;rw [h] at h';exact d (Option.some.inj h')
theorem cZ {H:Hp} {a b:Addr} {o:HO} (h:H a=some o) (h':H b=none):a≠b:=by
 intro e;subst e;rw [h] at h';cases h'
section
variable (P:Program) (w:World)
noncomputable def bF (H:Hp) (h:Heap) (a:Addr):HO->Prop
 | .lst xs=>xs.length<=sizeLine/\∃ (its:List Value) (n:Nat), Vals xs its/\h.get? a=some { cls:=.type "list", data:=.seq its.toArray n }
 | .tup xs=>xs.length<=sizeLine/\∃ its:List Value,Vals xs its/\IsTup h a its.toArray
 | .dK kvs=>kvs.length<=sizeLine/\(a == sysModules)=false/\∃ vs,KV kvs vs/\h.DictOf (aZ P w) a vs
 | .dT kvs=>kvs.length<=sizeLine/\(a == sysModules)=false/\∃ xs:List (List Key×Addr×Value),
   Paired (fun (p:List Key×V) (q:List Key×Addr×Value)=>p.1=q.1/\H q.2.1=some (.tup (p.1.map kV))/\RelV p.2 q.2.2) kvs xs /\
   ∃ o es ep,h.get? a=some o/\o.ExactDict/\o.data=.dict es ep/\es.toList=xs.map (entryOfKey (tupleKind (aZ P w)))/\(xs.map (·.1)).Nodup
 | .set S n=>h.SetOf (intKind P w) a S n
 | .ins C dx fs=>H dx=some (.own a)/\fs.length<=1000/\dx≠a/\h.get? a=some (PySem.W.instObj C dx) /\
   ∃ mA,h.Ns1 dx mA/\(∀ f,mH (fs.lookup f) (mA f))/\PySem.Within mA (fs.map (·.1))
 | .own _=>∃ o,h.get? a=some o
 | .xd fs=>∃ mA,h.Ns1 a mA/\∀ f,mH (fs.lookup f) (mA f)
 | .gv lo hi=>∃ t u v, h.get? a=some { cls:=.type "range", data:=.fields #[.int lo t, .int hi u, .int 1 v] }
 | .fN o u=>h.get? a=some o/\bF H h a u
 | .Ce ps=>h.get? a=some { cls:=.none,data:=.fields ps }
 | .met f x=>h.get? a=some (PySem.W.methodObj (.ref f) (.ref x))
 | .ext φ=>φ h/\(∃ o,h.get? a=some o)/\∀ h1 h2:Heap,φ h1->(∀ o,h1.get? a=some o->h2.get? a=some o)->φ h2
noncomputable def fV (H:Hp) (h:Heap):Prop:=∀ a o,H a=some o->bF P w H h a o
end
section
variable {P:Program} {w:World} {H H':Hp} {h h':Heap} {a:Addr} {o:HO}
theorem bF.lt (x:bF P w H h a o):a<h.objs.size:=by
 cases o with
 | lst xs=>obtain ⟨_,_,_,_,e⟩:=x;exact Heap.lt_size e
 | tup xs=>obtain ⟨_,_,_,p⟩:=x;exact p.lt
 | dK kvs=>obtain ⟨_,_,_,_,o,_,_,e,_⟩:=x;exact Heap.lt_size e
 | dT kvs=>obtain ⟨_,_,_,_,o,_,_,e,_⟩:=x;exact Heap.lt_size e
 | set S n=>obtain ⟨o,_,_,_,e,_⟩:=x;exact Heap.lt_size e
 | ins C dx fs=>obtain ⟨_,_,_,e,_⟩:=x;exact Heap.lt_size e
 | own y=>obtain ⟨_,e⟩:=x;exact Heap.lt_size e
 | xd fs=>obtain ⟨_,⟨_,_,_,e,_⟩,_⟩:=x;exact Heap.lt_size e
 | gv lo hi=>obtain ⟨_,_,_,e⟩:=x;exact Heap.lt_size e
 | fN ob u=>obtain ⟨e,_⟩:=x;exact Heap.lt_size e
 | Ce ps=>exact Heap.lt_size (show h.get? a=some _ from x)
 | met f y=>exact Heap.lt_size (show h.get? a=some _ from x)
 | ext φ=>obtain ⟨_,⟨_,e⟩,_⟩:=x;exact Heap.lt_size e
theorem Paired.Fj {α β:Type} {F G:α->β->Prop}:∀ {l₁:List α} {l₂:List β},Paired F l₁ l₂->(∀ a b,F a b->G a b)->Paired G l₁ l₂
 | _,_,.nil,_=>.nil
 | _,_,.cons r t,f=>.cons (f _ _ r) (Paired.Fj t f)
theorem bF.stay (x:bF P w H h a o) (k:∀ b u,(b=a\/H b=some (.own a))->h.get? b=some u->h'.get? b=some u)
  (ho:∀ b,H b=some (.own a)->H' b=some (.own a)) (ht:∀ b xs,H b=some (.tup xs)->H' b=some (.tup xs)):bF P w H' h' a o:=by
 induction o with
 | lst xs=>obtain ⟨z,its,n,r,e⟩:=x;exact ⟨z,its,n,r,k _ _ (.inl rfl) e⟩
 | tup xs=>obtain ⟨z,its,r,ob,e,c⟩:=x;exact ⟨z,its,r,ob,k _ _ (.inl rfl) e,c⟩
 | dK kvs=>obtain ⟨z,y,vs,r,ob,es,ep,e,c⟩:=x;exact ⟨z,y,vs,r,ob,es,ep,k _ _ (.inl rfl) e,c⟩
 | dT kvs =>
  obtain ⟨z,y,xs,r,ob,es,ep,e,c⟩:=x
  exact ⟨z,y,xs,Paired.Fj r fun p q z=>⟨z.1,ht _ _ z.2.1,z.2.2⟩,ob,es,ep,k _ _ (.inl rfl) e,c⟩
 | set S n=>obtain ⟨ob,es,ep,t,e,c⟩:=x;exact ⟨ob,es,ep,t,k _ _ (.inl rfl) e,c⟩
 | ins C dx fs =>
  obtain ⟨d,z,ne,e,mA,⟨od,es,ep,e2,c⟩,r⟩:=x
  exact ⟨ho _ d,z,ne,k _ _ (.inl rfl) e,mA,⟨od,es,ep,k _ _ (.inr d) e2,c⟩,r⟩
 | own y=>obtain ⟨ob,e⟩:=x;exact ⟨ob,k _ _ (.inl rfl) e⟩
 | xd fs=>obtain ⟨mA,⟨od,es,ep,e,c⟩,r⟩:=x;exact ⟨mA,⟨od,es,ep,k _ _ (.inl rfl) e,c⟩,r⟩
 | gv lo hi=>obtain ⟨t,u,v,e⟩:=x;exact ⟨t,u,v,k _ _ (.inl rfl) e⟩
 | fN ob u ih=>obtain ⟨e,q⟩:=x;exact ⟨k _ _ (.inl rfl) e,ih q⟩
 | Ce ps =>
  have e:h.get? a=some { cls:=.none,data:=.fields ps }:=x
  show h'.get? a=some { cls:=.none,data:=.fields ps }
  exact k a _ (.inl rfl) e
 | met f y =>
  have e:h.get? a=some (PySem.W.methodObj (.ref f) (.ref y)):=x
  show h'.get? a=some (PySem.W.methodObj (.ref f) (.ref y))
  exact k a _ (.inl rfl) e
 | ext φ=>obtain ⟨p,⟨o,e⟩,st⟩:=x;exact ⟨st _ _ p fun o q=>k _ _ (.inl rfl) q,⟨o,k _ _ (.inl rfl) e⟩,st⟩
theorem fV.lt (x:fV P w H h) (e:H a=some o):a<h.objs.size:=(x a o e).lt
theorem fV.fresh (x:fV P w H h) (e:h.objs.size<=a):H a=none:=by
 cases q:H a with
 | none=>rfl
 | some u=>exact absurd (Nat.lt_of_lt_of_le (x.lt q) e) (Nat.lt_irrefl _)
theorem fV.kept (x:fV P w H h) (k:∀ b u,h.get? b=some u->h'.get? b=some u):fV P w H h':=fun a o e =>
 (x a o e).stay (fun b u _ q=>k b u q) (fun _ q=>q) fun _ _ q=>q
theorem fV.laid (x:fV P w H h) (k:∀ b u,h.get? b=some u->h'.get? b=some u) (hp:h.objs.size<=a) (new:bF P w (upd H a o) h' a o):fV P w (upd H a o) h':=fun b u e=>by
 have hn:=x.fresh hp
 by_cases hb:b=a
 ·subst hb;rw [aL] at e;cases e;exact new
 ·rw [ak hb] at e
  exact (x b u e).stay (fun c v _ q=>k c v q) (fun c q=>by rw [ak (cZ q hn)];exact q) fun c xs q=>by rw [ak (cZ q hn)];exact q
end
noncomputable def Rd (H:Hp) (a:Addr) (u:HO):Prop:=H a=some u\/∃ o,H a=some (.fN o u)
theorem Rd.ok {P:Program} {w:World} {H:Hp} {h:Heap} {a:Addr} {u:HO} (r:Rd H a u) (x:fV P w H h):bF P w H h a u:=by
 rcases r with r | ⟨o,r⟩
 ·exact x a u r
 ·obtain ⟨_,q⟩:=x a _ r
  exact q
noncomputable def J6:Option HO->Prop
 | some (.lst _)=>True
 | some (.dK _)=>True
 | some (.dT _)=>True
 | some (.set _ _)=>True
 | some (.ins _ _ _)=>True
 | some (.ext _)=>True
 | _=>False
section
variable {P:Program} {w:World} {H:Hp} {h h':Heap} {x e:Addr} {o':HO}
theorem fV.write (ok:fV P w H h) (mu:J6 (H x)) (he:e=x\/H e=some (.own x)) (k:∀ b u,b≠e->h.get? b=some u->h'.get? b=some u) (Df:∃ u,h'.get? e=some u)
  (new:bF P w (upd H x o') h' x o'):fV P w (upd H x o') h':=fun b u q=>by
 have IM:∀ c y,H c=some (.own y)->c≠x:=fun c y r z=>by subst z;rw [r] at mu;exact mu
 have ntup:∀ c xs,H c=some (.tup xs)->c≠x:=fun c xs r z=>by subst z;rw [r] at mu;exact mu
 by_cases hb:b=x
 ·subst hb;rw [aL] at q;cases q;exact new
 ·rw [ak hb] at q
  by_cases Gy:b=e
  ·have q':H b=some (.own x):=by
    rcases he with z | z
    ·exact absurd (Gy.trans z) hb
    ·rw [Gy];exact z
   rw [q] at q';cases q'
   obtain ⟨v,hv⟩:=Df
   exact ⟨v,by rw [Gy];exact hv⟩
  ·refine (ok b u q).stay (fun c v hc r=>k c v ?_ r) (fun c r=>by rw [ak (IM c b r)];exact r) fun c xs r=>by rw [ak (ntup c xs r)];exact r
   rcases hc with rfl | hc
   ·exact Gy
   ·rintro rfl
    rcases he with z | z
    ·exact IM c b hc z
    ·rw [hc] at z;cases z;exact hb rfl
end
structure Un (fs ex:List Addr) (H H':Hp) (h h':Heap):Prop where
 keep:∀ b o,h.get? b=some o->H b=none->b∉fs->b∉ex->h'.get? b=some o
 slot:∀ b o,h.get? b=some o->H b=none->b∈fs->b∉ex->∃ sl,h'.get? b=some { o with slots:=sl }
 free:∀ b o,h.get? b=some o->H b=none->b∉ex->H' b=none
 there:∀ b o,h.get? b=some o->b∉ex->∃ o',h'.get? b=some o'
 tups:∀ b xs,H b=some (.tup xs)->H' b=some (.tup xs)
 fO:∀ b o u,H b=some (.fN o u)->H' b=some (.fN o u)
 gr:∀ b ps,H b=some (.Ce ps)->∃ more,H' b=some (.Ce (ps++more))
section
variable {fs fs' ex ex':List Addr} {H H1 H2:Hp} {h h1 h2 h':Heap} {a x e:Addr} {o:HO}
theorem Un.any (u:Un fs ex H H1 h h1) {b:Addr} {ob:Obj} (q:h.get? b=some ob) (n:H b=none) (hx:b∉ex):∃ sl,h1.get? b=some { ob with slots:=sl }:=by
 by_cases hb:b∈fs
 ·exact u.slot b ob q n hb hx
 ·exact ⟨ob.slots,u.keep b ob q n hb hx⟩
theorem Un.trans (a:Un fs ex H H1 h h1) (b:Un fs ex H1 H2 h1 h2):Un fs ex H H2 h h2 where
 keep:=fun c ob q n hc hx=>b.keep c ob (a.keep c ob q n hc hx) (a.free c ob q n hx) hc hx
 slot:=fun c ob q n hc hx=>by
  obtain ⟨sl,e1⟩:=a.slot c ob q n hc hx
  obtain ⟨Co,e2⟩:=b.slot c _ e1 (a.free c ob q n hx) hc hx
  exact ⟨Co,e2⟩
 free:=fun c ob q n hx=>by
  obtain ⟨o',e1⟩:=a.there c ob q hx
  exact b.free c o' e1 (a.free c ob q n hx) hx
 there:=fun c ob q hx=>by
  obtain ⟨o',e1⟩:=a.there c ob q hx
  exact b.there c o' e1 hx
 tups:=fun c xs q=>b.tups c xs (a.tups c xs q)
 fO:=fun c ob xs q=>b.fO c ob xs (a.fO c ob xs q)
 gr:=fun c ps q=>by
  obtain ⟨m1,e1⟩:=a.gr c ps q
  obtain ⟨m2,e2⟩:=b.gr c _ e1
  exact ⟨m1++m2,by rw [e2,Array.append_assoc]⟩
theorem Un.kept (k:∀ b u,h.get? b=some u->h'.get? b=some u):Un fs ex H H h h' :=
 ⟨fun b ob q _ _ _=>k b ob q,fun b ob q _ _ _=>⟨ob.slots,k b ob q⟩,fun _ _ _ n _=>n,fun b ob q _=>⟨ob,k b ob q⟩,fun _ _ q=>q,fun _ _ _ q=>q,fun _ ps q=>⟨#[],by rw [q];simp⟩⟩
theorem Un.refl:Un fs ex H H h h:=Un.kept fun _ _ q=>q
theorem Un.laid (k:∀ b u,h.get? b=some u->h'.get? b=some u) (hp:h.objs.size<=a) (hn:H a=none):Un fs ex H (upd H a o) h h' where
 keep:=fun b u q _ _ _=>k b u q
 slot:=fun b u q _ _ _=>⟨u.slots,k b u q⟩
 free:=fun b u q n _=>by rw [ak (Nat.ne_of_lt (Nat.lt_of_lt_of_le (Heap.lt_size q) hp))];exact n
 there:=fun b u q _=>⟨u,k b u q⟩
 tups:=fun b xs q=>by rw [ak (cZ q hn)];exact q
 fO:=fun b u xs q=>by rw [ak (cZ q hn)];exact q
 gr:=fun b ps q=>⟨#[],by rw [ak (cZ q hn),q];simp⟩
theorem Un.write (mu:J6 (H x)) (he:e=x\/H e=some (.own x)) (k:∀ b u,b≠e->h.get? b=some u->h'.get? b=some u) (Df:∃ u,h'.get? e=some u):Un fs ex H (upd H x o) h h':=by
 have hx:∀ b,H b=none->b≠x:=fun b n z=>by subst z;rw [n] at mu;exact mu
 have hb:∀ b,H b=none->b≠e:=fun b n z=>by
  subst z
  rcases he with r | r
  ·exact hx b n r
  ·rw [n] at r;cases r
 have hm:∀ b u,H b=some u->¬ J6 (some u)->b≠x:=fun b u q nm z=>by subst z;rw [q] at mu;exact nm mu
 refine ⟨fun b u q n _ _=>k b u (hb b n) q,fun b u q n _ _=>⟨u.slots,k b u (hb b n) q⟩,fun b u q n _=>by rw [ak (hx b n)];exact n,fun b u q _=>?_,
  fun b xs q=>by rw [ak (hm b _ q fun z=>z)];exact q,fun b u xs q=>by rw [ak (hm b _ q fun z=>z)];exact q,fun b ps q=>⟨#[],by rw [ak (hm b _ q fun z=>z),q];simp⟩⟩
 by_cases Gy:b=e
 ·subst Gy;exact Df
 ·exact ⟨u,k b u Gy q⟩
end
noncomputable def Km (h:Heap) (H:Hp):List Addr:=(List.range h.objs.size).filter fun a=>(H a).isSome
noncomputable def lQ (h:Heap) (H:Hp):Heap:=PySem.W.hideAll h (Km h H)
theorem sU (h:Heap) (H:Hp):(lQ h H).objs.size=h.objs.size:=PySem.W.hideAll_size _ _
theorem wN {h:Heap} {H:Hp} {b:Addr} {o:Obj} (e:h.get? b=some o) (n:H b=none):(lQ h H).get? b=some o :=
 PySem.W.hideAll_get _ e fun hm=>by
  have q:(H b).isSome=true:=(List.mem_filter.mp hm).2
  rw [n] at q;simp at q
theorem Aj {h:Heap} {H:Hp} {b:Addr} {o:Obj} (e:(lQ h H).get? b=some o):h.get? b=some o/\H b=none:=by
 have e':h.get? b=some o:=PySem.W.of_hideAll (Km h H) e
 refine ⟨e',?_⟩
 cases q:H b with
 | none=>rfl
 | some x =>
  have hm:b∈Km h H:=List.mem_filter.mpr ⟨List.mem_range.mpr (Heap.lt_size e'),by simp [q]⟩
  have z:(lQ h H).get? b=none:=PySem.W.hideAll_none (Km h H) hm
  rw [z] at e;cases e
noncomputable def BZ (g h:Heap) (L:Addr):List (Addr×Obj):=(List.range h.objs.size).filterMap fun a=>if a=L\/(g.get? a).isSome=true then none else (h.get? a).map fun o=>(a,o)
noncomputable def rest (g h:Heap) (L d:Addr):List (Addr×Obj):=(BZ g h L).filter fun p=>decide (p.1≠d)
structure Mod (K:PySem.W.Frag) (mg:Str->Option Value) (base:Heap):Prop where
 IZ:K.In base
 glob:base.Ns mainGlobals mg
 blt:∃ mb, base.Ns builtinsNs mb/\∀ x:Str, x≠"__name__"->mb x=bootBuiltins x
 nolimit:base.NoLimit
structure Cx where
 prog:Program
 w:World
 K:PySem.W.Frag
 mg:Str->Option Value
 base:Heap
 A:Around
 N:List Str
 s₀:Shared
 H₀:Hp
 env:Env
 outer:List Env
 stack:List Env
 ex:List Addr
 fn:Str->Bool
 calm:Bool
 pn:List (Addr×Obj)
 xe:Value->Shared->Prop
noncomputable def frs (l:List Env):List Addr:=l.filterMap (·.frame)
noncomputable abbrev Cx.fs (X:Cx):List Addr:=frs X.outer
noncomputable def Lj (sc:Scope) (x:Str):Prop:=sc.names.lookup x=some .local\/sc.names.lookup x=some .cell\/sc.names.lookup x=some .free
noncomputable def Loc (sc:Scope) (x:Str):Prop:=sc.names.lookup x=some .local\/sc.names.lookup x=some .cell
noncomputable def Look (env:Env) (h:Heap) (m:Str->Option Value) (x:Str) (u:Value):Prop :=
 (env.kindOf x=some .local/\m x=some u)\/((env.kindOf x=some .cell\/env.kindOf x=some .free)/\∃ c,env.cells.lookup x=some c/\h.IsCell c (some u))
structure Cx.Ok (X:Cx):Prop where
 mod:Mod X.K X.mg X.base
 kind:X.env.scope.kind=.function
 glob:X.env.globals=mainGlobals
 blt:X.env.builtins=builtinsNs
 above:X.s₀.heap.objs.size<=X.env.locals
 inj:∀ x y c,X.env.cells.lookup x=some c->X.env.cells.lookup y=some c->x=y
 has:∀ x,(X.env.kindOf x=some .cell\/X.env.kindOf x=some .free)->∃ c,X.env.cells.lookup x=some c
 Du:∀ x c,X.fn x=true->X.env.cells.lookup x=some c->X.s₀.heap.objs.size<=c
 hd:X.calm=true->X.A.handled=none
 frames:X.A.frames=some X.stack
 stk:X.stack=X.outer\/(X.stack=X.env::X.outer/\X.env.frame=some X.env.locals)
 JB:∀ b∈X.ex,b≠X.env.locals/\∀ x c,X.env.cells.lookup x=some c->c≠b
 bs:∀ b o,X.base.get? b=some o->X.s₀.heap.get? b=some o/\X.H₀ b=none
 tS:X.base.objs.size<=X.s₀.heap.objs.size
 nu:∀ b o,X.base.get? b=some o->b∉X.ex
 pO:∀ b∈X.ex,b∉X.fs
 fZ:X.s₀.heap.FunFrames X.base X.outer
 yS:∀ b∈X.fs,X.H₀ b=none
structure Inv (X:Cx) (pins:List (Addr×Obj)) (σ:List (Option V)) (H:Hp) (s:Shared):Prop where
 ok:X.Ok
 os:s.os=X.s₀.os
 bare:AllBare s.gens
 base:Un X.fs X.ex X.H₀ H X.s₀.heap s.heap
 loc:∃ m,s.heap.Ns X.env.locals m/\∀ (i:Nat) (x:Str) (v:V),X.N[i]? = some x->σ[i]? = some (some v)->Lj X.env.scope x->∃ u,RelV v u/\Look X.env s.heap m x u
 cell:∀ x c,X.env.cells.lookup x=some c->∃ v,s.heap.IsCell c v
 free:H X.env.locals=none
 cI:∀ x c,X.env.cells.lookup x=some c->H c=none
 pin:∀ p∈X.pn++pins,s.heap.get? p.1=some p.2/\H p.1=none/\p.1≠X.env.locals/\p.1∉X.fs/\∀ v,p.2.data≠.cell v
 hok:fV X.prog X.w H s.heap
 len:σ.length=X.N.length
section
variable {X:Cx} {pins:List (Addr×Obj)} {σ:List (Option V)} {H H':Hp} {s:Shared} {h':Heap}
theorem Cx.Ok.nofr (ok:X.Ok) {b:Addr} {o:Obj} (e:X.base.get? b=some o):b∉X.fs:=fun hb=>by
 have:=(ok.fZ.mem hb).1
 rw [e] at this;cases this
theorem Inv.bs (I:Inv X pins σ H s):∀ b o,X.base.get? b=some o->s.heap.get? b=some o/\H b=none:=fun b o e =>
 ⟨I.base.keep b o (I.ok.bs b o e).1 (I.ok.bs b o e).2 (I.ok.nofr e) (I.ok.nu b o e),I.base.free b o (I.ok.bs b o e).1 (I.ok.bs b o e).2 (I.ok.nu b o e)⟩
theorem Inv.bk (I:Inv X pins σ H s):∀ b o,X.base.get? b=some o->s.heap.get? b=some o:=fun b o e=>(I.bs b o e).1
theorem Inv.mod (I:Inv X pins σ H s):Mod X.K X.mg X.base:=I.ok.mod
theorem Inv.kN (I:Inv X pins σ H s):X.K.In s.heap:=I.ok.mod.IZ.keeps I.bk
theorem Inv.lt (I:Inv X pins σ H s):X.env.locals<s.heap.objs.size:=let ⟨_,hn,_⟩:=I.loc;hn.lt
theorem Inv.sz (I:Inv X pins σ H s):X.s₀.heap.objs.size<=s.heap.objs.size:=Nat.le_trans I.ok.above (Nat.le_of_lt I.lt)
theorem Inv.IP (I:Inv X pins σ H s) {a:Addr} (h:s.heap.objs.size<=a):a∉X.fs:=fun hb=>by
 obtain ⟨_,o,ho,_⟩:=I.ok.fZ.mem hb
 exact absurd (Nat.lt_of_lt_of_le (Heap.lt_size ho) (Nat.le_trans I.sz h)) (Nat.lt_irrefl _)
theorem Inv.GL (I:Inv X pins σ H s):∀ x c,X.env.cells.lookup x=some c->c≠X.env.locals:=fun x c e z=>by
 obtain ⟨v,o,ho,hd⟩:=I.cell x c e
 obtain ⟨m,⟨o',es,ep,ho',hd',_⟩,_⟩:=I.loc
 rw [z,ho'] at ho;cases ho;rw [hd'] at hd;cases hd
theorem Inv.fZ (I:Inv X pins σ H s):s.heap.FunFrames X.base X.outer:=by
 have all:∀ (l:List Env),(∀ b∈frs l,b∈X.fs)->X.s₀.heap.FunFrames X.base l->s.heap.FunFrames X.base l:=by
  intro l
  induction l with
  | nil=>intro _ _;trivial
  | cons env r ih =>
   intro hs hl
   obtain ⟨hk,⟨L,o,hf,hn,ho,hd⟩,hr⟩:=hl
   have hL:L∈X.fs:=hs L (by unfold frs;rw [List.filterMap_cons,hf];exact List.mem_cons_self)
   obtain ⟨sl,e⟩:=I.base.slot L o ho (I.ok.yS L hL) hL fun z=>I.ok.pO L z hL
   exact ⟨hk,⟨L,_,hf,hn,e,hd⟩,ih (fun b hb=>hs b (by unfold frs;rw [List.filterMap_cons,hf];exact List.mem_cons_of_mem _ hb)) hr⟩
 exact all X.outer (fun _ hb=>hb) I.ok.fZ
theorem Inv.stack (I:Inv X pins σ H s):s.heap.FunFrames X.base X.stack:=by
 rcases I.ok.stk with e | ⟨e,hf⟩
 ·rw [e];exact I.fZ
 ·rw [e]
  obtain ⟨m,hn,_⟩:=I.loc
  refine .cons (by rw [I.ok.kind];decide) hf hn ?_ I.fZ
  exact Heap.get?_none_of_le (Nat.le_trans I.ok.tS I.ok.above)
theorem Inv.dZ (I:Inv X pins σ H s):∀ b∈frs X.stack,b∈X.env.locals::X.fs:=fun b hb=>by
 rcases I.ok.stk with e | ⟨e,hf⟩
 ·rw [e] at hb;exact List.mem_cons_of_mem _ hb
 ·rw [e] at hb
  unfold frs at hb
  rw [List.filterMap_cons,hf] at hb
  exact hb
theorem Inv.fK (I:Inv X pins σ H s):∀ b∈frs X.stack,H b=none:=fun b hb=>by
 rcases List.mem_cons.mp (I.dZ b hb) with e | hb
 ·rw [e];exact I.free
 ·obtain ⟨_,o,ho,_⟩:=I.ok.fZ.mem hb
  exact I.base.free b o ho (I.ok.yS b hb) fun z=>I.ok.pO b z hb
theorem Inv.step {g':Array GenState} {t':Nat} {d':Drawn} {ch:List Addr} (I:Inv X pins σ H s)
  (hch:∀ b∈ch,(b∈X.ex\/X.s₀.heap.objs.size<=b)/\b≠X.env.locals/\(∀ x c,X.env.cells.lookup x=some c->c≠b)/\∀ p∈X.pn++pins,p.1≠b)
  (keep:∀ b o,b≠X.env.locals->b∉X.fs->b∉ch->s.heap.get? b=some o->H b=none->h'.get? b=some o)
  (slot:∀ b o,b≠X.env.locals->b∈X.fs->b∉ch->s.heap.get? b=some o->H b=none->∃ sl,h'.get? b=some { o with slots:=sl }) (free:∀ b o,b∉ch->s.heap.get? b=some o->H b=none->H' b=none)
  (there:∀ b o,b∉ch->s.heap.get? b=some o->∃ o',h'.get? b=some o')
  (tups:∀ b xs,H b=some (.tup xs)->H' b=some (.tup xs)) (fO:∀ b o u,H b=some (.fN o u)->H' b=some (.fN o u)) (gr:∀ b ps,H b=some (.Ce ps)->∃ more,H' b=some (.Ce (ps++more)))
  (ns:∀ m,s.heap.Ns X.env.locals m->h'.Ns X.env.locals m) (hok:fV X.prog X.w H' h') (hg:AllBare g') :
  Inv X pins σ H' { s with heap:=h',gens:=g',drawn:=d',toks:=t' }:=by
 have neL:∀ b o,X.s₀.heap.get? b=some o->b≠X.env.locals:=fun b o e=>Nat.ne_of_lt (Nat.lt_of_lt_of_le (Heap.lt_size e) I.ok.above)
 have bz:∀ b o,X.s₀.heap.get? b=some o->b∉X.ex->b∉ch:=fun b o e hx hb=>by
  rcases (hch b hb).1 with z | z
  ·exact hx z
  ·exact absurd (Nat.lt_of_lt_of_le (Heap.lt_size e) z) (Nat.lt_irrefl _)
 have cellK:∀ x c,X.env.cells.lookup x=some c->∀ v,s.heap.IsCell c v->h'.IsCell c v:=fun x c e v ⟨o,ho,hd⟩=>by
  have IV:c∉ch:=fun z=>(hch c z).2.2.1 x c e rfl
  by_cases hc:c∈X.fs
  ·obtain ⟨sl,q⟩:=slot c o (I.GL x c e) hc IV ho (I.cI x c e)
   exact ⟨_,q,hd⟩
  ·exact ⟨o,keep c o (I.GL x c e) hc IV ho (I.cI x c e),hd⟩
 refine ⟨I.ok,I.os,hg,⟨fun b o e n hb hx=>?_,fun b o e n hb hx=>?_,fun b o e n hx=>?_,fun b o e hx=>?_,fun b xs e=>tups b xs (I.base.tups b xs e),fun b o xs e=>fO b o xs (I.base.fO b o xs e),fun b ps e=>?_⟩,?_,fun x c e=>?_,?_,fun x c e=>?_,fun p hp=>?_,hok,I.len⟩
 ·exact keep b o (neL b o e) hb (bz b o e hx) (I.base.keep b o e n hb hx) (I.base.free b o e n hx)
 ·obtain ⟨sl,e1⟩:=I.base.slot b o e n hb hx
  obtain ⟨Co,e2⟩:=slot b _ (neL b o e) hb (bz b o e hx) e1 (I.base.free b o e n hx)
  exact ⟨Co,e2⟩
 ·obtain ⟨o',e1⟩:=I.base.there b o e hx
  exact free b o' (bz b o e hx) e1 (I.base.free b o e n hx)
 ·obtain ⟨o',e1⟩:=I.base.there b o e hx
  exact there b o' (bz b o e hx) e1
 ·obtain ⟨m1,e1⟩:=I.base.gr b ps e
  obtain ⟨m2,e2⟩:=gr b _ e1
  exact ⟨m1++m2,by rw [e2,Array.append_assoc]⟩
 ·obtain ⟨m,hn,hl⟩:=I.loc
  refine ⟨m,ns m hn,fun i x v e1 e2 e3=>?_⟩
  obtain ⟨u,r,l⟩:=hl i x v e1 e2 e3
  refine ⟨u,r,?_⟩
  rcases l with l | ⟨k,c,e,z⟩
  ·exact .inl l
  ·exact .inr ⟨k,c,e,cellK x c e _ z⟩
 ·obtain ⟨v,z⟩:=I.cell x c e
  exact ⟨v,cellK x c e v z⟩
 ·obtain ⟨m,⟨o,_,_,ho,_⟩,_⟩:=I.loc
  exact free _ o (fun z=>(hch _ z).2.1 rfl) ho I.free
 ·obtain ⟨v,o,ho,hd⟩:=I.cell x c e
  exact free c o (fun z=>(hch c z).2.2.1 x c e rfl) ho (I.cI x c e)
 ·obtain ⟨e,n,ne,nf,d⟩:=I.pin p hp
  have IV:p.1∉ch:=fun z=>(hch p.1 z).2.2.2 p hp rfl
  exact ⟨keep p.1 p.2 ne nf IV e n,free p.1 p.2 IV e n,ne,nf,d⟩
theorem Inv.un {t':Nat} (I:Inv X pins σ H s) (u:Un X.fs [] H H' s.heap h') (hok:fV X.prog X.w H' h'):Inv X pins σ H' { s with heap:=h',toks:=t' }:=by
 obtain ⟨m,⟨o,es,ep,ho,r⟩,_⟩:=id I.loc
 obtain ⟨sl,hL⟩:=u.any ho I.free (by simp)
 exact I.step (g':=s.gens) (d':=s.drawn) (ch:=[]) (fun _ z=>nomatch z) (fun b o _ hb _ e n=>u.keep b o e n hb (by simp)) (fun b o _ hb _ e n=>u.slot b o e n hb (by simp)) (fun b o _ e n=>u.free b o e n (by simp)) (fun b o _ e=>u.there b o e (by simp)) u.tups u.fO u.gr (fun m' hm=>by
  obtain ⟨o',es',yU,ho',r'⟩:=hm
  rw [ho] at ho';cases ho'
  exact ⟨_,es',yU,hL,r'⟩) hok I.bare
theorem Inv.call {g':Array GenState} {t':Nat} {d':Drawn} {ch:List Addr} (I:Inv X pins σ H s) (u:Un (frs X.stack) ch H H' s.heap h') (hok:fV X.prog X.w H' h') (hg:AllBare g')
  (hch:∀ b∈ch,(b∈X.ex\/X.s₀.heap.objs.size<=b)/\b≠X.env.locals/\(∀ x c,X.env.cells.lookup x=some c->c≠b)/\∀ p∈X.pn++pins,p.1≠b) :
  Inv X pins σ H' { s with heap:=h',gens:=g',drawn:=d',toks:=t' }:=by
 obtain ⟨m,⟨o,es,ep,ho,r⟩,_⟩:=id I.loc
 obtain ⟨sl,hL⟩:=u.any ho I.free fun z=>(hch _ z).2.1 rfl
 exact I.step (ch:=ch) hch (fun b o hL hb hc e n=>u.keep b o e n (fun z=>(List.mem_cons.mp (I.dZ b z)).elim hL hb) hc) (fun b o _ _ hc e n=>u.any e n hc) (fun b o hc e n=>u.free b o e n hc) (fun b o hc e=>u.there b o e hc) u.tups u.fO u.gr (fun m' hm=>by
  obtain ⟨o',es',yU,ho',r'⟩:=hm
  rw [ho] at ho';cases ho'
  exact ⟨_,es',yU,hL,r'⟩) hok hg
theorem Inv.turned {t':Nat} {it:Addr} (I:Inv X pins σ H s) (k:∀ b o,b≠it->s.heap.get? b=some o->h'.get? b=some o) (hn:H it=none) (hL:it≠X.env.locals)
  (h1:it∈X.ex\/X.s₀.heap.objs.size<=it) (h2:∀ x c,X.env.cells.lookup x=some c->c≠it) (h3:∀ p∈X.pn++pins,p.1≠it):Inv X pins σ H { s with heap:=h',toks:=t' }:=by
 have nit:∀ b u,H b=some u->b≠it:=fun b u e z=>by rw [z,hn] at e;cases e
 refine I.step (g':=s.gens) (d':=s.drawn) (ch:=[it]) (fun b hb=>?_) (fun b o _ _ hc e _=>k b o (fun z=>hc (by simp [z])) e) (fun b o _ _ hc e _=>⟨o.slots,k b o (fun z=>hc (by simp [z])) e⟩) (fun _ _ _ _ n=>n)
  (fun b o hc e=>⟨o,k b o (fun z=>hc (by simp [z])) e⟩) (fun _ _ e=>e) (fun _ _ _ e=>e) (fun b ps e=>⟨#[],by rw [e];simp⟩) (fun m hm=>?_) (fun b u e=>?_) I.bare
 ·have e:b=it:=by simpa using hb
  subst e
  exact ⟨h1,hL,h2,h3⟩
 ·obtain ⟨o,es,ep,ho,r⟩:=hm
  exact ⟨o,es,ep,k _ o (Ne.symm hL) ho,r⟩
 ·refine (I.hok b u e).stay (fun c v hc q=>k c v ?_ q) (fun _ q=>q) fun _ _ q=>q
  rcases hc with z | z
  ·rw [z];exact nit b u e
  ·exact nit c _ z
theorem Inv.tok (I:Inv X pins σ H s) (t:Nat):Inv X pins σ H { s with toks:=t }:=I.un (h':=s.heap) (t':=t) Un.refl I.hok
theorem Inv.kept {t':Nat} (I:Inv X pins σ H s) (k:∀ b u,s.heap.get? b=some u->h'.get? b=some u):Inv X pins σ H { s with heap:=h',toks:=t' }:=I.un (Un.kept k) (I.hok.kept k)
theorem Inv.laid {a:Addr} {o:HO} {t':Nat} (I:Inv X pins σ H s) (k:∀ b u,s.heap.get? b=some u->h'.get? b=some u) (hp:s.heap.objs.size<=a) (new:bF X.prog X.w (upd H a o) h' a o) :
  Inv X pins σ (upd H a o) { s with heap:=h',toks:=t' }:=I.un (Un.laid k hp (I.hok.fresh hp)) (I.hok.laid k hp new)
theorem Inv.write {x e:Addr} {o:HO} {t':Nat} (I:Inv X pins σ H s) (mu:J6 (H x)) (he:e=x\/H e=some (.own x)) (k:∀ b u,b≠e->s.heap.get? b=some u->h'.get? b=some u) (Df:∃ u,h'.get? e=some u)
  (new:bF X.prog X.w (upd H x o) h' x o):Inv X pins σ (upd H x o) { s with heap:=h',toks:=t' }:=I.un (Un.write mu he k Df) (I.hok.write mu he k Df new)
theorem Inv.qC {jy:List (Addr×Obj)} (I:Inv X pins σ H s) (h:∀ p∈jy,s.heap.get? p.1=some p.2/\H p.1=none/\p.1≠X.env.locals/\p.1∉X.fs/\∀ v,p.2.data≠.cell v):Inv X jy σ H s :=
 ⟨I.ok,I.os,I.bare,I.base,I.loc,I.cell,I.free,I.cI,fun p hp=>(List.mem_append.mp hp).elim (fun z=>I.pin p (List.mem_append_left _ z)) (h p),I.hok,I.len⟩
theorem nv {N:List Str} (hN:N.Nodup) {i j:Nat} {x:Str} (a:N[i]? = some x) (b:N[j]? = some x):i=j:=by
 obtain ⟨h1,e1⟩:=List.getElem?_eq_some_iff.mp a
 obtain ⟨h2,e2⟩:=List.getElem?_eq_some_iff.mp b
 exact (List.getElem_inj hN).mp (e1.trans e2.symm)
theorem kr {M:Model} {A:Around} {E:Value->Shared->Prop} {i:Nat} {x:Str} {v:V} {u:Value} {Q:Unit->Shared->Prop} (I:Inv X pins σ H s) (hN:X.N.Nodup) (hi:X.N[i]? = some x) (hx:Loc X.env.scope x) (r:RelV v u)
  (h:∀ s',Inv X pins (σ.set i (some v)) H s'->(∃ a,Heap.SameBut a s.heap s'.heap/\(a=X.env.locals\/X.env.cells.lookup x=some a))->Q () s') (hf:X.fn x=true\/X.env.scope.names.lookup x=some .local:=by first | exact .inl rfl | exact .inr rfl | assumption):wpAny M A (storeName X.env x u) Q E s:=by
 obtain ⟨m,hn,hl⟩:=id I.loc
 have hcls:(X.env.scope.kind == .class||(X.env.scope.kind == .module&&X.env.locals != X.env.globals))=false:=by rw [I.ok.kind];rfl
 have Jp:i<σ.length:=by rw [I.len];exact (List.getElem?_eq_some_iff.mp hi).1
 have GL:=I.GL
 have tracked:∀ {a:Addr} {h':Heap},(∃ o,s.heap.get? a=some o/\H a=none)->Heap.SameBut a s.heap h'->fV X.prog X.w H h':=fun {a h'} ha hs b ob e=>by
  obtain ⟨_,_,hfree⟩:=ha
  refine (I.hok b ob e).stay (fun c w' hc q=>(hs.2 c ?_).trans q) (fun _ q=>q) fun _ _ q=>q
  rintro rfl
  rcases hc with rfl | hc
  ·rw [hfree] at e;cases e
  ·rw [hfree] at hc;cases hc
 rcases hx with hk | hk
 ·refine wpAny_storeName_local hk hn (fun h' hn' hs=>?_) hcls
  obtain ⟨oL,_,_,hoL,_⟩:=id hn
  refine h _ ⟨I.ok,I.os,I.bare,⟨fun b o e n hb hx=>?_,fun b o e n hb hx=>?_,I.base.free,fun b o e hx=>?_,I.base.tups,I.base.fO,I.base.gr⟩,⟨_,hn',fun j y v' e1 e2 e3=>?_⟩,fun y c e=>?_,I.free,I.cI,fun p hp=>?_,tracked ⟨oL,hoL,I.free⟩ hs,by simpa using I.len⟩ ⟨_,hs,.inl rfl⟩
  ·exact (hs.2 b (Nat.ne_of_lt (Nat.lt_of_lt_of_le (Heap.lt_size e) I.ok.above))).trans (I.base.keep b o e n hb hx)
  ·obtain ⟨sl,e1⟩:=I.base.slot b o e n hb hx
   exact ⟨sl,(hs.2 b (Nat.ne_of_lt (Nat.lt_of_lt_of_le (Heap.lt_size e) I.ok.above))).trans e1⟩
  ·obtain ⟨o',e1⟩:=I.base.there b o e hx
   exact ⟨o',(hs.2 b (Nat.ne_of_lt (Nat.lt_of_lt_of_le (Heap.lt_size e) I.ok.above))).trans e1⟩
  ·by_cases hj:j=i
   ·subst hj
    rw [hi] at e1;cases e1
    rw [List.getElem?_set_self Jp] at e2
    cases e2
    exact ⟨u,r,.inl ⟨hk,by simp⟩⟩
   ·rw [List.getElem?_set_ne (Ne.symm hj)] at e2
    obtain ⟨u',r',q⟩:=hl j y v' e1 e2 e3
    refine ⟨u',r',?_⟩
    rcases q with ⟨k,e⟩ | ⟨k,c,e,z⟩
    ·refine .inl ⟨k,?_⟩
     have:y≠x:=fun e=>hj (nv hN e1 (e ▸ hi))
     simp [this,e]
    ·exact .inr ⟨k,c,e,z.sameBut hs (GL y c e)⟩
  ·obtain ⟨w',z⟩:=I.cell y c e
   exact ⟨w',z.sameBut hs (GL y c e)⟩
  ·obtain ⟨e,n,ne,nf,d⟩:=I.pin p hp
   exact ⟨(hs.2 p.1 ne).trans e,n,ne,nf,d⟩
 ·have hfn:X.fn x=true:=by
   rcases hf with z | z
   ·exact z
   ·rw [z] at hk;cases hk
  obtain ⟨c,hc⟩:=I.ok.has x (.inl hk)
  obtain ⟨w',z⟩:=I.cell x c hc
  refine wpAny_storeName_cell I.ok.kind hk hc z (fun h' hc' hs=>?_)
  obtain ⟨oc,hoc,hocd⟩:=id z
  refine h { s with heap:=h' } ⟨I.ok,I.os,I.bare,⟨fun b o e n hb hx=>?_,fun b o e n hb hx=>?_,I.base.free,fun b o e hx=>?_,I.base.tups,I.base.fO,I.base.gr⟩,⟨m,hn.sameBut hs (Ne.symm (GL x c hc)),fun j y v' e1 e2 e3=>?_⟩,fun y c' e=>?_,I.free,I.cI,fun p hp=>?_,tracked ⟨oc,hoc,I.cI x c hc⟩ hs,by simpa using I.len⟩ ⟨c,hs,.inr hc⟩
  ·exact (hs.2 b (Nat.ne_of_lt (Nat.lt_of_lt_of_le (Heap.lt_size e) (I.ok.Du x c hfn hc)))).trans (I.base.keep b o e n hb hx)
  ·obtain ⟨sl,e1⟩:=I.base.slot b o e n hb hx
   exact ⟨sl,(hs.2 b (Nat.ne_of_lt (Nat.lt_of_lt_of_le (Heap.lt_size e) (I.ok.Du x c hfn hc)))).trans e1⟩
  ·obtain ⟨o',e1⟩:=I.base.there b o e hx
   exact ⟨o',(hs.2 b (Nat.ne_of_lt (Nat.lt_of_lt_of_le (Heap.lt_size e) (I.ok.Du x c hfn hc)))).trans e1⟩
  ·by_cases hj:j=i
   ·subst hj
    rw [hi] at e1;cases e1
    rw [List.getElem?_set_self Jp] at e2
    cases e2
    exact ⟨u,r,.inr ⟨.inl hk,c,hc,hc'⟩⟩
   ·rw [List.getElem?_set_ne (Ne.symm hj)] at e2
    obtain ⟨u',r',q⟩:=hl j y v' e1 e2 e3
    refine ⟨u',r',?_⟩
    rcases q with q | ⟨k,c',e,z'⟩
    ·exact .inl q
    ·refine .inr ⟨k,c',e,z'.sameBut hs ?_⟩
     rintro rfl
     exact hj (nv hN e1 (I.ok.inj _ _ _ e hc ▸ hi))
  ·by_cases hcc:c'=c
   ·subst hcc;exact ⟨_,hc'⟩
   ·obtain ⟨w2,z2⟩:=I.cell y c' e
    exact ⟨w2,z2.sameBut hs hcc⟩
  ·obtain ⟨e,n,ne,nf,d⟩:=I.pin p hp
   refine ⟨(hs.2 p.1 ?_).trans e,n,ne,nf,d⟩
   intro q
   rw [q,hoc] at e
   have q':oc=p.2:=Option.some.inj e
   exact d w' (by rw [<- q'];exact hocd)
theorem mT {M:Model} {A:Around} {E:Value->Shared->Prop} {i:Nat} {x:Str} {v:V} {u:Value} {Q:Unit->Shared->Prop} (I:Inv X pins σ H s) (hN:X.N.Nodup) (hi:X.N[i]? = some x) (hx:Loc X.env.scope x) (r:RelV v u)
  (h:∀ s',Inv X pins (σ.set i (some v)) H s'->Q () s') (hf:X.fn x=true\/X.env.scope.names.lookup x=some .local:=by first | exact .inl rfl | exact .inr rfl | assumption):wpAny M A (storeName X.env x u) Q E s :=
 kr I hN hi hx r (fun s' I' _=>h s' I') hf
theorem Inv.xu {s':Shared} {ch:List Addr} (I:Inv X pins σ H s) (ho:s'.os=s.os) (u:Un (frs X.stack) ch H H' s.heap s'.heap) (hok:fV X.prog X.w H' s'.heap) (hg:AllBare s'.gens)
  (hch:∀ b∈ch,(b∈X.ex\/X.s₀.heap.objs.size<=b)/\b≠X.env.locals/\(∀ x c,X.env.cells.lookup x=some c->c≠b)/\∀ p∈X.pn++pins,p.1≠b):Inv X pins σ H' s':=by
 obtain ⟨h',g',d',t',o'⟩:=s'
 have e:o'=s.os:=ho
 subst e
 exact I.call (g':=g') (t':=t') (d':=d') u hok hg hch
end
noncomputable abbrev XK:=Value->Option Addr->Hp->Prop
noncomputable abbrev St:=List (Option V)
noncomputable abbrev VK:=V->Hp->Prop
noncomputable abbrev TE:=St->Hp->VK->Prop
noncomputable abbrev TT:=St->Hp->(Bool->Hp->Prop)->Prop
noncomputable abbrev TA:=St->Hp->(List V->Hp->Prop)->Prop
structure Ends where
 nx:St->Hp->Prop
 rt:VK
 bk:St->Hp->Prop:=fun _ _=>False
 ct:St->Hp->Prop:=fun _ _=>False
noncomputable abbrev TS:=Ends->St->Hp->Prop
noncomputable def EP (X:Cx) (pins:List (Addr×Obj)) (σ:St) (Q:VK) (u:Value) (s':Shared):Prop:=∃ v H',Inv X pins σ H' s'/\RelV v u/\Q v H'
noncomputable def TP (X:Cx) (pins:List (Addr×Obj)) (σ:St) (Q:Bool->Hp->Prop) (b:Bool) (s':Shared):Prop:=∃ H',Inv X pins σ H' s'/\Q b H'
noncomputable def AP (X:Cx) (pins:List (Addr×Obj)) (σ:St) (Q:List V->Hp->Prop) (us:List Value) (s':Shared):Prop:=∃ vs H',Inv X pins σ H' s'/\Vals vs us/\Q vs H'
noncomputable def SP (X:Cx) (pins:List (Addr×Obj)) (D:Ends) (f:Flow) (s':Shared):Prop :=
 match f with
 | .next=>∃ σ' H',Inv X pins σ' H' s'/\D.nx σ' H'
 | .brk=>∃ σ' H',Inv X pins σ' H' s'/\D.bk σ' H'
 | .cont=>∃ σ' H',Inv X pins σ' H' s'/\D.ct σ' H'
 | .ret u=>∃ v σ' H',Inv X pins σ' H' s'/\RelV v u/\D.rt v H'
noncomputable def PE (X:Cx) (e:Expr) (t:TE):Prop :=
 ∀ (pins:List (Addr×Obj)) (s:Shared) (σ:St) (H:Hp) (Q:VK),Inv X pins σ H s->t σ H Q->wpAny (model X.prog X.w) X.A (eval e X.env) (EP X pins σ Q) X.xe s
noncomputable def PT (X:Cx) (e:Expr) (t:TT):Prop :=
 ∀ (pins:List (Addr×Obj)) (s:Shared) (σ:St) (H:Hp) (Q:Bool->Hp->Prop),Inv X pins σ H s->t σ H Q->wpAny (model X.prog X.w) X.A (isTrue e X.env (eval e X.env)) (TP X pins σ Q) X.xe s
noncomputable def PW (X:Cx) (e:Expr) (t:TT):Prop :=
 ∀ (whole:Sem Value) (pins:List (Addr×Obj)) (s:Shared) (σ:St) (H:Hp) (Q:Bool->Hp->Prop),Inv X pins σ H s->t σ H Q->wpAny (model X.prog X.w) X.A (isTrue e X.env whole) (TP X pins σ Q) X.xe s
theorem PW.pt {X:Cx} {e:Expr} {t:TT} (h:PW X e t):PT X e t:=h _
noncomputable def PA (X:Cx) (es:List Expr) (t:TA):Prop :=
 ∀ (pos:Pos) (pins:List (Addr×Obj)) (s:Shared) (σ:St) (H:Hp) (Q:List V->Hp->Prop),Inv X pins σ H s->t σ H Q->wpAny (model X.prog X.w) X.A (spliced (backTo pos (starEach es X.env))) (AP X pins σ Q) X.xe s
noncomputable def PS (X:Cx) (st:Stmt) (t:TS):Prop :=
 ∀ (pins:List (Addr×Obj)) (s:Shared) (σ:St) (H:Hp) (D:Ends),Inv X pins σ H s->t D σ H->wpAny (model X.prog X.w) X.A (exec st X.env) (SP X pins D) X.xe s
noncomputable def jX (X:Cx) (st:List Stmt) (t:TS):Prop :=
 ∀ (pins:List (Addr×Obj)) (s:Shared) (σ:St) (H:Hp) (D:Ends),Inv X pins σ H s->t D σ H->wpAny (model X.prog X.w) X.A (execs st X.env) (SP X pins D) X.xe s
theorem bT {α:Type} {t:Sem α} {Q Q':α->Shared->Prop} {M:Model} {A:Around} {E:Value->Shared->Prop} {s:Shared} (h:wpAny M A t Q E s) (hQ:∀ a s,Q a s->Q' a s):wpAny M A t Q' E s:=wpAny_mono h hQ fun _ _ x=>x
section
variable {X:Cx}
noncomputable def HD (i:Nat):TE:=fun σ H Q=>∃ v,σ[i]? = some (some v)/\Q v H
noncomputable def tC (v:V):TE:=fun _ H Q=>Q v H
theorem EE {i:Nat} {x:Str} {pos:Pos} (hN:X.N[i]? = some x) (hv:Lj X.env.scope x) (hd:(x == ("__debug__" : Str))=false:=by decide) (hcd:(x == ("__classdict__" : Str))=false:=by decide):PE X (.Name x pos) (HD i):=by
 intro pins s σ H Q I h
 obtain ⟨v,e,h⟩:=h
 obtain ⟨m,hn,hl⟩:=I.loc
 obtain ⟨u,r,l⟩:=hl i x v hN e hv
 have fin:EP X pins σ Q u s:=⟨v,H,I,r,h⟩
 rcases l with ⟨hk,hm⟩ | ⟨hk,c,hc,hcell⟩
 ·exact wpAny_Name (wpAny_loadName_local I.ok.kind hk hn hm fin) hd
 ·rcases hk with hk | hk
  ·exact wpAny_Name (wpAny_loadName_cell I.ok.kind hk hc hcell fin) hd
  ·exact wpAny_Name (wpAny_loadName_free I.ok.kind hk hc hcell fin hcd) hd
theorem EM {i j pos}:PE X (.Constant (.int i) j pos) (tC (.int i)):=fun _ _ _ H _ I h=>wpAny_Constant_int ⟨.int i,H,I.tok _,⟨_,rfl⟩,h⟩
theorem IB {b j pos}:PE X (.Constant (.bool b) j pos) (tC (.bl b)):=fun _ _ _ H _ I h=>Constant_bool ⟨.bl b,H,I,rfl,h⟩
theorem EJ {j pos}:PE X (.Constant .none j pos) (tC .aE):=fun _ _ _ H _ I h=>Constant_none ⟨.aE,H,I,rfl,h⟩
theorem oZ {x j pos}:PE X (.Constant (.str x) j pos) (tC (.str x)):=fun _ _ _ H _ I h=>Calls.Constant_str ⟨.str x,H,I.tok _,⟨_,rfl⟩,h⟩
noncomputable def Gl (X:Cx) (x:Str):Prop:=X.env.kindOf x=some .globalImplicit
theorem lI {E:Value->Shared->Prop} {pins:List (Addr×Obj)} {s:Shared} {σ:St} {H:Hp} {x:Str} {u:Value} {pos:Pos} {Q:Value->Shared->Prop} (I:Inv X pins σ H s) (hg:Gl X x) (hm:X.mg x=some u) (h:Q u s)
  (hd:(x == ("__debug__" : Str))=false:=by decide):wpAny (model X.prog X.w) X.A (eval (.Name x pos) X.env) Q E s :=
 Calls.Name_function_global I.ok.kind hg (Calls.loadGlobal_global (by rw [I.ok.glob];exact I.mod.glob.keeps I.bk) hm h) hd
theorem jD {E:Value->Shared->Prop} {pins:List (Addr×Obj)} {s:Shared} {σ:St} {H:Hp} {x:Str} {u:Value} {pos:Pos} {Q:Value->Shared->Prop} (I:Inv X pins σ H s) (hg:Gl X x) (hm:X.mg x=none) (hv:bootBuiltins x=some u) (h:Q u s)
  (hn:x≠"__name__":=by decide) (hd:(x == ("__debug__" : Str))=false:=by decide):wpAny (model X.prog X.w) X.A (eval (.Name x pos) X.env) Q E s:=by
 obtain ⟨mb,h1,h2⟩:=I.mod.blt
 exact Calls.Name_function_global I.ok.kind hg (Calls.loadGlobal_builtin (by rw [I.ok.glob];exact I.mod.glob.keeps I.bk) hm (by rw [I.ok.blt];exact h1.keeps I.bk) ((h2 x hn).trans hv) h) hd
theorem zT {x:Str} {v:V} {u:Value} {pos:Pos} (hg:Gl X x) (hm:X.mg x=some u) (r:RelV v u) (hd:(x == ("__debug__" : Str))=false:=by decide):PE X (.Name x pos) (tC v) :=
 fun _ _ _ H _ I h=>lI I hg hm ⟨v,H,I,r,h⟩ hd
theorem zW {x:Str} {v:V} {u:Value} {pos:Pos} (hg:Gl X x) (hm:X.mg x=none) (hv:bootBuiltins x=some u) (r:RelV v u) (hn:x≠"__name__":=by decide) (hd:(x == ("__debug__" : Str))=false:=by decide):PE X (.Name x pos) (tC v) :=
 fun _ _ _ H _ I h=>jD I hg hm hv ⟨v,H,I,r,h⟩ hn hd
variable {a b:Expr} {ta tb:TE} {pos:Pos}
noncomputable def tB (t:TE):TT:=fun σ H Q=>t σ H fun x H1=>∃ c,x=.bl c/\Q c H1
theorem Ep {e:Expr} {t:TE} (h:PE X e t) (he:∀ whole,isTrue e X.env whole=(do let v <- whole;standAt e.pos;holding [v] (truthy v)):=by intro _;rfl):PT X e (tB t):=by
 intro pins s σ H Q I hw
 refine isTrue_plain (bT (h pins s σ H _ I hw) fun v s1 ⟨x,H1,I1,r1,q1⟩=>?_) (he _)
 obtain ⟨d,rfl,q⟩:=q1
 cases r1
 exact wpAny_truthy_bool ⟨H1,I1,q⟩
variable {tA Kn:TT} {rest:List Expr}
noncomputable def HQ (t u:TT):TT:=fun σ H Q=>t σ H fun c H1=>if c=true then u σ H1 Q else Q false H1
noncomputable def tOr (t u:TT):TT:=fun σ H Q=>t σ H fun c H1=>if c=true then Q true H1 else u σ H1 Q
noncomputable def HK (t:TT):TT:=fun σ H Q=>t σ H fun c H1=>Q (!c) H1
theorem pw_and1 (ha:PT X a tA):PW X (.BoolOp .And [a] pos) tA:=by
 intro wh pins s σ H Q I h
 refine isTrue_and (bT (ha pins s σ H Q I h) fun c s1 e=>?_)
 cases c with
 | true=>exact isTrue_and_nil e
 | false=>exact e
theorem pw_or1 (ha:PT X a tA):PW X (.BoolOp .Or [a] pos) tA:=by
 intro wh pins s σ H Q I h
 refine isTrue_or (bT (ha pins s σ H Q I h) fun c s1 e=>?_)
 cases c with
 | false=>exact isTrue_or_nil e
 | true=>exact e
theorem pw_and (ha:PT X a tA) (hb:PW X (.BoolOp .And (b::rest) pos) Kn):PW X (.BoolOp .And (a::b::rest) pos) (HQ tA Kn):=by
 intro wh pins s σ H Q I h
 refine isTrue_and (bT (ha pins s σ H _ I h) fun c s1 ⟨H1,I1,q1⟩=>?_)
 cases c with
 | true=>exact hb wh pins s1 σ H1 Q I1 q1
 | false=>exact ⟨H1,I1,q1⟩
theorem pw_or (ha:PT X a tA) (hb:PW X (.BoolOp .Or (b::rest) pos) Kn):PW X (.BoolOp .Or (a::b::rest) pos) (tOr tA Kn):=by
 intro wh pins s σ H Q I h
 refine isTrue_or (bT (ha pins s σ H _ I h) fun c s1 ⟨H1,I1,q1⟩=>?_)
 cases c with
 | true=>exact ⟨H1,I1,q1⟩
 | false=>exact hb wh pins s1 σ H1 Q I1 q1
theorem Er (ha:PT X a tA):PT X (.UnaryOp .Not a pos) (HK tA):=by
 intro pins s σ H Q I h
 exact isTrue_not (ha pins s σ H (fun c H1=>Q (!c) H1) I h)
noncomputable def Ck (ta tb:TE):TE:=fun σ H Q=>ta σ H fun x H1=>∃ c,x=.bl c/\if c=true then tb σ H1 Q else Q (.bl false) H1
noncomputable def HJ (ta tb:TE):TE:=fun σ H Q=>ta σ H fun x H1=>∃ c,x=.bl c/\if c=true then Q (.bl true) H1 else tb σ H1 Q
noncomputable def Cg (ta:TE):TE:=fun σ H Q=>ta σ H fun x H1=>∃ c,x=.bl c/\Q (.bl (!c)) H1
theorem EG {op} {t:TE} (h:PE X a t):PE X (.BoolOp op [a] pos) t:=fun pins s σ H Q I hw=>BoolOp_one (h pins s σ H Q I hw)
theorem EO (ha:PE X a ta) (hb:PE X (.BoolOp .And (b::rest) pos) tb):PE X (.BoolOp .And (a::b::rest) pos) (Ck ta tb):=by
 intro pins s σ H Q I h
 refine BoolOp_and (bT (ha pins s σ H _ I h) fun v s1 ⟨x,H1,I1,r1,q1⟩=>?_)
 obtain ⟨c,rfl,q1⟩:=q1
 cases r1
 refine wpAny_truthy_bool ?_
 cases c with
 | true=>exact hb pins s1 σ H1 Q I1 q1
 | false=>exact ⟨.bl false,H1,I1,rfl,q1⟩
theorem Iw (ha:PE X a ta) (hb:PE X (.BoolOp .Or (b::rest) pos) tb):PE X (.BoolOp .Or (a::b::rest) pos) (HJ ta tb):=by
 intro pins s σ H Q I h
 refine BoolOp_or (bT (ha pins s σ H _ I h) fun v s1 ⟨x,H1,I1,r1,q1⟩=>?_)
 obtain ⟨c,rfl,q1⟩:=q1
 cases r1
 refine wpAny_truthy_bool ?_
 cases c with
 | false=>exact hb pins s1 σ H1 Q I1 q1
 | true=>exact ⟨.bl true,H1,I1,rfl,q1⟩
theorem EI (ha:PE X a ta):PE X (.UnaryOp .Not a pos) (Cg ta):=by
 intro pins s σ H Q I h
 refine UnaryOp_ (bT (ha pins s σ H _ I h) fun v s1 ⟨x,H1,I1,r1,q1⟩=>?_)
 obtain ⟨c,rfl,q1⟩:=q1
 cases r1
 exact not_of (wpAny_truthy_bool ⟨.bl (!c),H1,I1,rfl,q1⟩)
end
noncomputable def fU (K:PySem.W.Frag) (H:Hp) (a:Addr) (xs:List V):Prop :=
 Rd H a (.lst xs) \/
  ∃ (o:Obj) (its:Array Value) (n:Nat), K.lookup a=some o/\o.cls=.type "list"/\o.dict=none/\o.data=.seq its n/\its.size<=sizeLine/\Vals xs its.toList
noncomputable def iH (K:PySem.W.Frag) (H:Hp) (a:Addr) (xs:List V):Prop :=
 Rd H a (.tup xs) \/
  ∃ (o:Obj) (its:Array Value) (n:Nat), K.lookup a=some o/\o.cls=.type "tuple"/\o.data=.seq its n/\its.size<=sizeLine/\Vals xs its.toList
noncomputable def absV:Value->Option V
 | .none=>some .aE
 | .bool b=>some (.bl b)
 | .int i _=>some (.int i)
 | .str x _=>some (.str x)
 | .bytes b _=>some (.xA b)
 | .float b _=>some (.flt b)
 | .ref a=>some (.ref a)
 | .type n=>some (.ty n)
 | _=>none
theorem RelV.abs {x:V} {u:Value} (r:RelV x u):absV u=some x:=by
 cases x with
 | aE=>cases r;rfl
 | bl _=>cases r;rfl
 | int _=>obtain ⟨t,rfl⟩:=r;rfl
 | str _=>obtain ⟨t,rfl⟩:=r;rfl
 | xA _=>obtain ⟨t,rfl⟩:=r;rfl
 | flt _=>obtain ⟨t,rfl⟩:=r;rfl
 | ref _=>cases r;rfl
 | ty _=>cases r;rfl
theorem RelV.inj {x y:V} {u:Value} (r:RelV x u) (q:RelV y u):x=y:=Option.some.inj (r.abs.symm.trans q.abs)
theorem Vals.inj:∀ {xs ys:List V} {us:List Value},Vals xs us->Vals ys us->xs=ys
 | _,_,_,.nil,.nil=>rfl
 | _,_,_,.cons r t,.cons r' t'=>by rw [r.inj r',Vals.inj t t']
section
variable {X:Cx} {pins:List (Addr×Obj)} {σ:St} {H:Hp} {s:Shared} {a:Addr} {xs ys:List V}
theorem Inv.list (I:Inv X pins σ H s) (h:fU X.K H a xs):∃ its:List Value,Vals xs its/\PlainL s.heap a its.toArray/\xs.length<=sizeLine:=by
 rcases h with h | ⟨o,its,n,hk,hc,hd,hs,hz,r⟩
 ·obtain ⟨z,its,n,r,e⟩:=h.ok I.hok
  exact ⟨its,r,⟨_,n,e,rfl,rfl,rfl⟩,z⟩
 ·refine ⟨its.toList,r,⟨o,n,I.kN a o hk,hc,hd,by simpa using hs⟩,?_⟩
  have e:=r.length
  simp only [Array.length_toList] at e
  omega
theorem Inv.tuple (I:Inv X pins σ H s) (h:iH X.K H a xs):∃ its:List Value,Vals xs its/\IsTup s.heap a its.toArray/\xs.length<=sizeLine:=by
 rcases h with h | ⟨o,its,n,hk,hc,hs,hz,r⟩
 ·obtain ⟨z,its,r,p⟩:=h.ok I.hok
  exact ⟨its,r,p,z⟩
 ·refine ⟨its.toList,r,⟨o,I.kN a o hk,hc,n,by simpa using hs⟩,?_⟩
  have e:=r.length
  simp only [Array.length_toList] at e
  omega
theorem Inv.jC (I:Inv X pins σ H s) (h:fU X.K H a xs) (h':fU X.K H a ys):xs=ys:=by
 obtain ⟨its,r,⟨o,n,e,_,_,d⟩,_⟩:=I.list h
 obtain ⟨its',r',⟨o',n',e',_,_,d'⟩,_⟩:=I.list h'
 rw [e] at e';cases e'
 rw [d] at d'
 injection d' with d1 _
 have:its=its':=by simpa using congrArg Array.toList d1
 subst this
 exact r.inj r'
theorem Inv.gY (I:Inv X pins σ H s) (h:iH X.K H a xs) (h':iH X.K H a ys):xs=ys:=by
 obtain ⟨its,r,⟨o,e,_,n,d⟩,_⟩:=I.tuple h
 obtain ⟨its',r',⟨o',e',_,n',d'⟩,_⟩:=I.tuple h'
 rw [e] at e';cases e'
 rw [d] at d'
 injection d' with d1 _
 have:its=its':=by simpa using congrArg Array.toList d1
 subst this
 exact r.inj r'
end
noncomputable abbrev Cx.bZ (X:Cx) (E:Value->Shared->Prop):Cx:={ X with xe:=E }
noncomputable abbrev Cx.CA (X:Cx):Cx:=X.bZ fun _ _=>False
theorem Cx.Ok.bZ {X:Cx} (ok:X.Ok) (E:Value->Shared->Prop):(X.bZ E).Ok :=
 ⟨ok.mod,ok.kind,ok.glob,ok.blt,ok.above,ok.inj,ok.has,ok.Du,ok.hd,ok.frames,ok.stk,ok.JB,ok.bs,ok.tS,ok.nu,ok.pO,ok.fZ,ok.yS⟩
theorem Cx.Ok.bL {X:Cx} {E:Value->Shared->Prop} (ok:(X.bZ E).Ok):X.Ok :=
 ⟨ok.mod,ok.kind,ok.glob,ok.blt,ok.above,ok.inj,ok.has,ok.Du,ok.hd,ok.frames,ok.stk,ok.JB,ok.bs,ok.tS,ok.nu,ok.pO,ok.fZ,ok.yS⟩
section
variable {X:Cx} {pins:List (Addr×Obj)} {σ:St} {H:Hp} {s:Shared} {E:Value->Shared->Prop}
theorem Inv.bZ (I:Inv X pins σ H s) (E:Value->Shared->Prop):Inv (X.bZ E) pins σ H s:=⟨I.ok.bZ E,I.os,I.bare,I.base,I.loc,I.cell,I.free,I.cI,I.pin,I.hok,I.len⟩
theorem Inv.bL (I:Inv (X.bZ E) pins σ H s):Inv X pins σ H s:=⟨I.ok.bL,I.os,I.bare,I.base,I.loc,I.cell,I.free,I.cI,I.pin,I.hok,I.len⟩
theorem SP.bL {D:Ends} {f:Flow} {s':Shared} (h:SP (X.bZ E) pins D f s'):SP X pins D f s':=by
 cases f with
 | next=>obtain ⟨σ',H',I,q⟩:=h;exact ⟨σ',H',I.bL,q⟩
 | brk=>obtain ⟨σ',H',I,q⟩:=h;exact ⟨σ',H',I.bL,q⟩
 | cont=>obtain ⟨σ',H',I,q⟩:=h;exact ⟨σ',H',I.bL,q⟩
 | ret u=>obtain ⟨v,σ',H',I,r,q⟩:=h;exact ⟨v,σ',H',I.bL,r,q⟩
theorem PE.CA {e:Expr} {t:TE} (h:PE X.CA e t):PE X e t:=fun pins s σ H Q I hw =>
 wpAny_mono (h pins s σ H Q (I.bZ _) hw) (fun _ _ ⟨v,H',I',r,q⟩=>⟨v,H',I'.bL,r,q⟩) fun _ _ z=>False.elim z
theorem PT.CA {e:Expr} {t:TT} (h:PT X.CA e t):PT X e t:=fun pins s σ H Q I hw =>
 wpAny_mono (h pins s σ H Q (I.bZ _) hw) (fun _ _ ⟨H',I',q⟩=>⟨H',I'.bL,q⟩) fun _ _ z=>False.elim z
theorem jX.CA {st:List Stmt} {t:TS} (h:jX X.CA st t):jX X st t:=fun pins s σ H D I hw =>
 wpAny_mono (h pins s σ H D (I.bZ _) hw) (fun _ _ q=>q.bL) fun _ _ z=>False.elim z
end
section
variable {X:Cx} {st:Stmt} {rest:List Stmt} {t u:TS} {e:Expr} {te:TE} {pos:Pos}
noncomputable def Ci:TS:=fun D σ H=>D.nx σ H
noncomputable def HG (t u:TS):TS:=fun D σ H=>t { D with nx:=u D } σ H
theorem qA:jX X [] Ci:=fun _ _ σ H _ I h=>wpAny_execs_nil ⟨σ,H,I,h⟩
theorem ng (h1:PS X st t) (h2:jX X rest u):jX X (st::rest) (HG t u):=by
 intro pins s σ H D I h
 refine wpAny_execs_cons (bT (h1 pins s σ H { D with nx:=u D } I h) fun f s1 q=>?_)
 cases f with
 | next =>
  obtain ⟨σ',H',I',q⟩:=q
  exact h2 pins s1 σ' H' D I' q
 | ret v=>exact q
 | brk=>exact q
 | cont=>exact q
theorem Inv.quiet {pins:List (Addr×Obj)} {σ:St} {H:Hp} {s:Shared} (I:Inv X pins σ H s):interactive X.env=false:=by simp [interactive,I.ok.kind]
noncomputable def Cj (te:TE):TS:=fun D σ H=>te σ H fun _ H1=>D.nx σ H1
theorem zN (he:PE X e te) (hs:swapsWith e none pos.line X.env=pure false:=by rfl):PS X (.Expr e pos) (Cj te):=by
 intro pins s σ H D I h
 exact wpAny_Expr_any (bT (he pins s σ H _ I h) fun v s1 ⟨x,H1,I1,r1,q1⟩=>⟨σ,H1,I1,q1⟩) I.quiet hs
noncomputable def HH (te:TE):TS:=fun D σ H=>te σ H D.rt
theorem Eu (he:PE X e te):PS X (.Return (some e) pos) (HH te):=by
 intro pins s σ H D I h
 exact wpAny_Return_some (bT (he pins s σ H _ I h) fun v s1 ⟨x,H1,I1,r1,q1⟩=>⟨x,σ,H1,I1,r1,q1⟩)
noncomputable def HM (c:TT) (t u:TS):TS:=fun D σ H=>c σ H fun b H1=>if b=true then t D σ H1 else u D σ H1
theorem Ir {c:Expr} {a b:List Stmt} {tc:TT} (hc:PT X c tc) (ha:jX X a t) (hb:jX X b u):PS X (.If c a b pos) (HM tc t u):=by
 intro pins s σ H D I h
 refine wpAny_If (bT (hc pins s σ H _ I h) fun d s1 ⟨H1,I1,q1⟩=>?_)
 cases d with
 | true=>exact ha pins s1 σ H1 D I1 q1
 | false=>exact hb pins s1 σ H1 D I1 q1
end
noncomputable abbrev TG:=V->St->Hp->(St->Hp->Prop)->Prop
noncomputable abbrev DA:=List V->St->Hp->(St->Hp->Prop)->Prop
noncomputable def PG (X:Cx) (target:Expr) (t:TG):Prop :=
 ∀ (pins:List (Addr×Obj)) (s:Shared) (σ:St) (H:Hp) (v:V) (u:Value) (Q:St->Hp->Prop),Inv X pins σ H s->RelV v u->t v σ H Q ->
  wpAny (model X.prog X.w) X.A (assign target X.env u) (fun _ s'=>∃ σ' H',Inv X pins σ' H' s'/\Q σ' H') X.xe s
noncomputable def J2 (X:Cx) (ts:List Expr) (t:DA):Prop :=
 ∀ (pins:List (Addr×Obj)) (s:Shared) (σ:St) (H:Hp) (vs:List V) (us:List Value) (Q:St->Hp->Prop),Inv X pins σ H s->Vals vs us->t vs σ H Q ->
  wpAny (model X.prog X.w) X.A (assignInOrder ((assignEach ts X.env).map (·.2)) us) (fun _ s'=>∃ σ' H',Inv X pins σ' H' s'/\Q σ' H') X.xe s
noncomputable abbrev TSet:=V->V->V->Hp->(Hp->Prop)->Prop
noncomputable def PSet (X:Cx) (t:TSet):Prop :=
 ∀ (pins:List (Addr×Obj)) (s:Shared) (σ:St) (H:Hp) (o i v:V) (ov iv u:Value) (Q:Hp->Prop),Inv X pins σ H s->RelV o ov->RelV i iv->RelV v u->t o i v H Q ->
  wpAny (model X.prog X.w) X.A (setItem ov iv u) (fun _ s'=>∃ H',Inv X pins σ H' s'/\Q H') X.xe s
section
variable {X:Cx} {pos:Pos}
noncomputable def jL (i:Nat):TG:=fun v σ H Q=>Q (σ.set i (some v)) H
theorem zR {i:Nat} {x:Str} (hN:X.N.Nodup) (hi:X.N[i]? = some x) (hx:Loc X.env.scope x) (hf:X.fn x=true\/X.env.scope.names.lookup x=some .local:=by first | exact .inl rfl | exact .inr rfl | assumption):PG X (.Name x pos) (jL i):=by
 intro pins s σ H v u Q I r h
 exact wpAny_assign_Name (mT I hN hi hx r (fun s' I'=>⟨_,H,I',h⟩) hf)
noncomputable def Jr:DA:=fun vs σ H Q=>vs=[]/\Q σ H
noncomputable def Dh (t:TG) (u:DA):DA:=fun vs σ H Q=>∃ v r,vs=v::r/\t v σ H fun σ' H'=>u r σ' H' Q
theorem qD:J2 X [] Jr:=by
 intro pins s σ H vs us Q I r h
 obtain ⟨e,h⟩:=h
 subst e
 cases r
 exact assignInOrder_nil ⟨σ,H,I,h⟩
theorem jA {e:Expr} {es:List Expr} {t:TG} {u:DA} (h1:PG X e t) (h2:J2 X es u)
  (hs:(assignEach (e::es) X.env).map (·.2)=assign e X.env::(assignEach es X.env).map (·.2):=by rfl):J2 X (e::es) (Dh t u):=by
 intro pins s σ H vs us Q I r h
 obtain ⟨v,vr,e1,h⟩:=h
 subst e1
 cases r with
 | cons r rr =>
  rw [hs]
  refine assignInOrder_cons (bT (h1 pins s σ H _ _ _ I r h) fun _ s1 ⟨σ1,H1,I1,q1⟩=>?_)
  exact h2 pins s1 σ1 H1 _ _ Q I1 rr q1
noncomputable def gTup (K:PySem.W.Frag) (n:Nat) (t:DA):TG:=fun v σ H Q=>∃ a xs,v=.ref a/\iH K H a xs/\xs.length=n/\t xs σ H Q
theorem uY {es:List Expr} {k:Nat} {t:DA} {n:Nat} (hc:X.calm=true) (h:J2 X es t)
  (hn:(assignEach es X.env).length=n:=by rfl) (hst:(assignEach es X.env).findIdx? (·.1)=none:=by rfl):PG X (.Tuple es k pos) (gTup X.K n t):=by
 intro pins s σ H v u Q I r hw
 obtain ⟨a,xs,e1,hq,hl,hw⟩:=hw
 subst e1
 cases r
 obtain ⟨its,rv,ht,hz⟩:=I.tuple hq
 refine assign_Tuple_tuple (I.ok.hd hc) ht (by simp [hn,<- hl,rv.length]) hst fun h' hx=>?_
 have I1:Inv X pins σ H { s with heap:=h' }:=I.kept (t':=s.toks) fun b o e=>hx b o (Nat.ne_of_lt (Heap.lt_size e)) e
 exact h pins _ σ H xs _ Q I1 (by simpa using rv) hw
noncomputable def ur (te:TE) (g:TG):TS:=fun D σ H=>te σ H fun x H1=>g x σ H1 D.nx
theorem Ey {tg e:Expr} {te:TE} {g:TG} (he:PE X e te) (hg:PG X tg g) (hs:swapsWithSole [tg] e pos.line X.env=pure false:=by rfl) (hw:swappedStores [tg] e X.env=pure none:=by rfl)
  (h1:(assignEach [tg] X.env).map (·.2)=[assign tg X.env]:=by rfl):PS X (.Assign [tg] e pos) (ur te g):=by
 intro pins s σ H D I h
 refine wpAny_Assign_stores (bT (he pins s σ H _ I h) fun v s1 ⟨x,H1,I1,r1,q1⟩=>?_) hs hw
 rw [h1]
 exact bT (hg pins s1 σ H1 x v _ I1 r1 q1) fun _ s2 q=>q
theorem uW {i:Nat} {x:Str} {e:Expr} {te:TE} {pos':Pos} (hN:X.N.Nodup) (hi:X.N[i]? = some x) (hx:Loc X.env.scope x) (he:PE X e te) (hs:swapsWith e (some (.Name x pos')) pos.line X.env=pure false:=by rfl) (hf:X.fn x=true\/X.env.scope.names.lookup x=some .local:=by first | exact .inl rfl | exact .inr rfl | assumption) :
  PS X (.Assign [.Name x pos'] e pos) (ur te (jL i)):=by
 intro pins s σ H D I h
 refine wpAny_Assign_Name (bT (he pins s σ H _ I h) fun v s1 ⟨y,H1,I1,r1,q1⟩=>?_) hs
 exact mT I1 hN hi hx r1 (fun s2 I2=>⟨_,H1,I2,q1⟩) hf
end
section
variable {X:Cx} {pos:Pos}
end
structure It where
 go:Nat->Hp->Prop
 Kc:Nat->Hp->V->Hp->Prop
 stop:Nat->Hp->Prop
noncomputable def iI (X:Cx) (pins:List (Addr×Obj)) (H:Hp) (b:Addr):Prop :=
 H b=none/\b≠X.env.locals/\b∉X.fs/\(b∈X.ex\/X.s₀.heap.objs.size<=b)/\(∀ x c,X.env.cells.lookup x=some c->c≠b)/\∀ p∈X.pn++pins,p.1≠b
theorem Inv.pM {X:Cx} {pins:List (Addr×Obj)} {σ:St} {H H':Hp} {s:Shared} {b:Addr} (I:Inv X pins σ H s) (hb:s.heap.objs.size<=b) (hn:H' b=none):iI X pins H' b:=by
 refine ⟨hn,Nat.ne_of_gt (Nat.lt_of_lt_of_le I.lt hb),I.IP hb,.inr (Nat.le_trans I.sz hb),fun x c e z=>?_,fun p hp z=>?_⟩
 ·obtain ⟨v,q⟩:=I.cell x c e
  exact absurd (Nat.lt_of_lt_of_le q.lt (by rw [z];exact hb)) (Nat.lt_irrefl _)
 ·exact absurd (Nat.lt_of_lt_of_le (Heap.lt_size (I.pin p hp).1) (by rw [z];exact hb)) (Nat.lt_irrefl _)
structure Turn (P:Program) (w:World) (K:PySem.W.Frag) (tg:Expr) (J:It) (fp:List Addr) (it:Addr) (tn:Nat->Heap->Prop):Prop where
 mem:it∈fp
 obj:∀ i h,tn i h->∀ b∈fp,∃ o,h.get? b=some o/\∀ v,o.data≠.cell v
 keep:∀ i h h',tn i h->(∀ b∈fp,∀ o,h.get? b=some o->h'.get? b=some o)->tn i h'
 item:∀ (X:Cx),X.prog=P->X.w=w->X.K=K->X.calm=true->∀ (i:Nat) (pins:List (Addr×Obj)) (s:Shared) (σ:St) (H:Hp) (E:Value->Shared->Prop),Inv X pins σ H s->(∀ b∈fp,iI X pins H b)->tn i s.heap->J.go i H ->
  wpAny (model P w) X.A (pyNext (.ref it)) (fun r s1=>∃ u,r=some u /\
   wpAny (model P w) X.A (letOwnedTupleGo tg (.ref it) u) (fun _ s2=>∃ x H',Inv X pins σ H' s2/\RelV x u/\J.Kc i H x H'/\tn (i+1) s2.heap/\∀ b∈fp,H' b=none) E s1) E s
 done:∀ (X:Cx),X.prog=P->X.w=w->X.K=K->X.calm=true->∀ (i:Nat) (pins:List (Addr×Obj)) (s:Shared) (σ:St) (H:Hp) (E:Value->Shared->Prop),Inv X pins σ H s->(∀ b∈fp,iI X pins H b)->tn i s.heap->J.stop i H ->
  wpAny (model P w) X.A (pyNext (.ref it)) (fun r s1=>r=none/\Inv X pins σ H s1) E s
 self:∀ (A:Around) (i:Nat) (s:Shared) (Q:Value->Shared->Prop) (E:Value->Shared->Prop),tn i s.heap->Q (.ref it) s->wpAny (model P w) A (pyIter (.ref it)) Q E s
noncomputable abbrev TI:=St->Hp->(It->Hp->Prop)->Prop
noncomputable def PIE (X:Cx) (pins:List (Addr×Obj)) (σ:St) (tg:Expr) (R:It->Hp->Prop) (itv:Value) (s2:Shared):Prop :=
 ∃ (it:Addr) (fp:List Addr) (tn:Nat->Heap->Prop) (J:It) (H':Hp),itv=.ref it/\Inv X pins σ H' s2/\Turn X.prog X.w X.K tg J fp it tn/\tn 0 s2.heap/\(∀ b∈fp,iI X pins H' b)/\R J H'
noncomputable def PI (X:Cx) (tg iter:Expr) (wi:TI):Prop :=
 ∀ (pins:List (Addr×Obj)) (s:Shared) (σ:St) (H:Hp) (R:It->Hp->Prop),Inv X pins σ H s->wi σ H R ->
  wpAny (model X.prog X.w) X.A (eval iter X.env) (fun v s1=>wpAny (model X.prog X.w) X.A (pyIter v) (PIE X pins σ tg R) X.xe s1) X.xe s
theorem qZ {M:Model} {A:Around} {E:Value->Shared->Prop} {s:Shared} {tg:Expr} {it:Addr} {u:Value} {o:Obj} {n:String} {vs:Array Value} {Q:Unit->Shared->Prop} (ho:s.heap.get? it=some o) (hc:o.cls=.type n) (hd:o.data=.fields vs)
    (hn:["enumerate", "zip", "dict_itemiterator", "dict_reverseitemiterator", "odict_iterator", "itertools.zip_longest", "itertools.pairwise"].contains n=false) (hQ:Q () s):wpAny M A (letOwnedTupleGo tg (.ref it) u) Q E s:=by
  unfold letOwnedTupleGo
  cases tg <;> first
    | exact wpAny_pure hQ
    | (cases u <;> first
        | exact wpAny_pure hQ
        | (refine wpAny_bind (wpAny_load ho ?_)
           rw [hc,hd]
           show wpAny M A (if (["enumerate", "zip", "dict_itemiterator", "dict_reverseitemiterator", "odict_iterator", "itertools.zip_longest", "itertools.pairwise"].contains n&&vs[0]? == some (rawInt _))=true then _ else _) Q E s
           rw [if_neg (by intro h;rw [hn,Bool.false_and] at h;cases h)]
           exact wpAny_pure hQ))
noncomputable def Itl (K:PySem.W.Frag) (a:Addr):It :=
 ⟨fun i H=>∃ xs x,fU K H a xs/\xs[i]? = some x,fun i H x H'=>H'=H/\∀ xs,fU K H a xs->xs[i]? = some x,fun i H=>∃ xs,fU K H a xs/\xs.length<=i⟩
noncomputable def Itt (K:PySem.W.Frag) (a:Addr):It :=
 ⟨fun i H=>∃ xs x,iH K H a xs/\xs[i]? = some x,fun i H x H'=>H'=H/\∀ xs,iH K H a xs->xs[i]? = some x,fun i H=>∃ xs,iH K H a xs/\xs.length<=i⟩
noncomputable def Ll (lo:Int) (n:Nat):It:=⟨fun i _=>i<n,fun i H x H'=>H'=H/\x=.int (lo+i),fun i _=>n<=i⟩
theorem sd {P:Program} {w:World} {K:PySem.W.Frag} {tg:Expr} (a it:Addr):Turn P w K tg (Itl K a) [it] it (fun i h=>h.IsListIter it a i) where
 mem:=by simp
 obj:=fun i h st b hb=>by
  have e:b=it:=by simpa using hb
  subst e
  obtain ⟨o,e,c,d⟩:=st
  exact ⟨o,e,fun v z=>by rw [d] at z;cases z⟩
 keep:=fun i h h' st k=>st.at fun o e=>k it (by simp) o e
 item:=by
  intro X hP hw hK hc i pins s σ H E I hf st hg
  subst hP hw hK
  obtain ⟨xs,x,hq,hx⟩:=hg
  obtain ⟨its,rv,p,hz⟩:=I.list hq
  obtain ⟨u,hu,ru⟩:=rv.get hx
  obtain ⟨f0,f1,f2,f3,f4,f5⟩:=hf it (by simp)
  refine wpAny_pyNext_list_item st p.isList (x:=u) (by simpa using hu) fun h' st' sb=>?_
  have I1:Inv X pins σ H { s with heap:=h' }:=I.turned (t':=s.toks) (fun b o hb e=>(sb.2 b hb).trans e) f0 f1 f3 f4 f5
  obtain ⟨o,e,c,d⟩:=id st'
  exact ⟨u,rfl,qZ (s:={ s with heap:=h' }) e c d (by decide) ⟨x,H,I1,ru,⟨rfl,fun ys hy=>by rw [I.jC hy hq];exact hx⟩,st',fun b hb=>(hf b hb).1⟩⟩
 done:=by
  intro X hP hw hK hc i pins s σ H E I hf st hg
  subst hP hw hK
  obtain ⟨xs,hq,hx⟩:=hg
  obtain ⟨its,rv,p,hz⟩:=I.list hq
  obtain ⟨f0,f1,f2,f3,f4,f5⟩:=hf it (by simp)
  have hl:=rv.length
  exact wpAny_pyNext_list_end (I.ok.hd hc) st p.isList (by simp;omega) fun h' eb=>⟨rfl,I.turned (t':=s.toks) (fun b o hb e=>eb b o hb e) f0 f1 f3 f4 f5⟩
 self:=fun _ _ _ _ _ st h=>wpAny_pyIter_listiter st h
theorem oJ {P:Program} {w:World} {K:PySem.W.Frag} {tg:Expr} (a it:Addr):Turn P w K tg (Itt K a) [it] it (fun i h=>h.IsTupleIter it a i) where
 mem:=by simp
 obj:=fun i h st b hb=>by
  have e:b=it:=by simpa using hb
  subst e
  obtain ⟨o,e,c,d⟩:=st
  exact ⟨o,e,fun v z=>by rw [d] at z;cases z⟩
 keep:=fun i h h' st k=>st.at fun o e=>k it (by simp) o e
 item:=by
  intro X hP hw hK hc i pins s σ H E I hf st hg
  subst hP hw hK
  obtain ⟨xs,x,hq,hx⟩:=hg
  obtain ⟨its,rv,p,hz⟩:=I.tuple hq
  obtain ⟨u,hu,ru⟩:=rv.get hx
  obtain ⟨f0,f1,f2,f3,f4,f5⟩:=hf it (by simp)
  refine wpAny_pyNext_tuple_item st (show s.heap.IsTuple a its.toArray from p) (x:=u) (by simpa using hu) fun h' st' sb=>?_
  have I1:Inv X pins σ H { s with heap:=h' }:=I.turned (t':=s.toks) (fun b o hb e=>(sb.2 b hb).trans e) f0 f1 f3 f4 f5
  obtain ⟨o,e,c,d⟩:=id st'
  exact ⟨u,rfl,qZ (s:={ s with heap:=h' }) e c d (by decide) ⟨x,H,I1,ru,⟨rfl,fun ys hy=>by rw [I.gY hy hq];exact hx⟩,st',fun b hb=>(hf b hb).1⟩⟩
 done:=by
  intro X hP hw hK hc i pins s σ H E I hf st hg
  subst hP hw hK
  obtain ⟨xs,hq,hx⟩:=hg
  obtain ⟨its,rv,p,hz⟩:=I.tuple hq
  obtain ⟨f0,f1,f2,f3,f4,f5⟩:=hf it (by simp)
  have hl:=rv.length
  exact wpAny_pyNext_tuple_end (I.ok.hd hc) st (show s.heap.IsTuple a its.toArray from p) (by simp;omega) fun h' eb=>⟨rfl,I.turned (t':=s.toks) (fun b o hb e=>eb b o hb e) f0 f1 f3 f4 f5⟩
 self:=fun _ _ _ _ _ st h=>wpAny_pyIter_tupleiter st h
theorem oK {P:Program} {w:World} {K:PySem.W.Frag} {tg:Expr} (it:Addr) (lo:Int) (n:Nat):Turn P w K tg (Ll lo n) [it] it (fun i h=>IsRangeIter h it (lo+(i:Nat)*1) ((n:Int)-(i:Nat)) 1) where
 mem:=by simp
 obj:=fun i h st b hb=>by
  have e:b=it:=by simpa using hb
  subst e
  exact ⟨_,st,fun v z=>by
   have z':Data.fields _=Data.cell v:=z
   cases z'⟩
 keep:=fun i h h' st k=>k it (by simp) _ st
 item:=by
  intro X hP hw hK hc i pins s σ H E I hf st hg
  subst hP hw hK
  obtain ⟨f0,f1,f2,f3,f4,f5⟩:=hf it (by simp)
  have W:=Walks.range (prog:=X.prog) (w:=X.w) (I.ok.hd hc) it lo 1 n
  refine W.item i s _ _ hg st fun v h' tk hv st' kk=>?_
  obtain ⟨t,rfl⟩:=hv
  have I1:Inv X pins σ H { s with heap:=h',toks:=tk }:=I.turned (fun b o hb e=>kk b o (by simpa using hb) e) f0 f1 f3 f4 f5
  refine ⟨_, rfl, qZ (s:={ s with heap:=h', toks:=tk }) (n:="range_iterator") st' rfl rfl (by decide) ⟨.int (lo+i), H, I1, ⟨t, ?_⟩, ⟨rfl, rfl⟩, st', fun b hb=>(hf b hb).1⟩⟩
  rw [Int.mul_one]
 done:=by
  intro X hP hw hK hc i pins s σ H E I hf st hg
  subst hP hw hK
  obtain ⟨f0,f1,f2,f3,f4,f5⟩:=hf it (by simp)
  exact wpAny_pyNext_range_end (I.ok.hd hc) st (by have:n<=i:=hg;omega) fun h' eb=>⟨rfl,I.turned (t':=s.toks) (fun b o hb e=>eb b o hb e) f0 f1 f3 f4 f5⟩
 self:=fun _ _ _ _ _ st h=>wpAny_pyIter_rangeiter st h
section
variable {X:Cx} {tg:Expr}
theorem uR {pins:List (Addr×Obj)} {σ:St} {H:Hp} {s:Shared} {R:It->Hp->Prop} {E:Value->Shared->Prop} {lo hi:Int} {t u v:Tok} {tk:Nat} (I:Inv X pins σ H s) (h1:-(2 ^ 62)<=lo) (h2:lo<2 ^ 62) (h3:-(2 ^ 62)<=hi) (h4:hi<2 ^ 62)
  (q:R (Ll lo (hi-lo).toNat) H):wpAny (model X.prog X.w) X.A (pyIter (.ref s.heap.objs.size)) (PIE X pins σ tg R) E { s with heap:=s.heap.push { cls:=.type "range", data:=.fields #[.int lo t, .int hi u, .int 1 v] }, toks:=tk }:=by
 refine wpAny_pyIter_range (IsRange.new ..) (small_one h1 h2 h3 h4) ?_
 have I1:Inv X pins σ H { s with heap:=s.heap.push { cls:=.type "range", data:=.fields #[.int lo t, .int hi u, .int 1 v] }, toks:=tk }:=I.kept fun b o e=>Heap.get?_push_of_some _ e
 refine ⟨(s.heap.push { cls:=.type "range", data:=.fields #[.int lo t, .int hi u, .int 1 v] }).objs.size, [(s.heap.push { cls:=.type "range", data:=.fields #[.int lo t, .int hi u, .int 1 v] }).objs.size], _, _, H, rfl,
  I1.kept (t':=tk) fun b o e=>Heap.get?_push_of_some _ e,oK _ lo (hi-lo).toNat,?_,fun b hb=>?_,q⟩
 ·have e1:lo+((0:Nat):Int)*1=lo:=by simp
  have e2:(((hi-lo).toNat:Nat):Int)-((0:Nat):Int)=Builtin.Range.rangeSize lo hi 1:=by rw [rangeSize_one];split <;> omega
  show IsRangeIter _ _ (lo+((0:Nat):Int)*1) ((((hi-lo).toNat:Nat):Int)-((0:Nat):Int)) 1
  rw [e1,e2]
  exact Heap.get?_push_size _ rfl
 ·have e:b=(s.heap.push { cls:=.type "range", data:=.fields #[.int lo t, .int hi u, .int 1 v] }).objs.size:=by simpa using hb
  subst e
  exact I1.pM (Nat.le_refl _) (I1.hok.fresh (Nat.le_refl _))
noncomputable def Dd (ta:TA):TI:=fun σ H R=>ta σ H fun vs H1=>∃ j:Int,vs=[.int j]/\-(2 ^ 62)<=j/\j<2 ^ 62/\R (Ll 0 j.toNat) H1
theorem sC {a:Expr} {ta:TA} {p pos:Pos} (hg:Gl X "range") (hm:X.mg "range" = none) (ha:PA X [a] ta) (hs:starEach [a] X.env=[(false, eval a X.env)]:=by rfl):PI X tg (.Call (.Name "range" p) [a] [] pos) (Dd ta):=by
 intro pins s σ H R I h
 refine Call_ (jD I hg hm boot_range (PyProof.Rows.callWith_type1 (bT (ha pos pins s σ H _ I h) fun us s1 ⟨vs,H1,I1,r1,q1⟩=>?_) hs rfl))
 obtain ⟨j,e,q1,q2,q⟩:=q1
 subst e
 cases r1 with
 | cons r rr =>
  cases rr
  obtain ⟨t,rfl⟩:=r
  exact call_range_1 (uR I1 (by omega) (by omega) q1 q2 (by simpa using q))
noncomputable def HN (wi:TI) (g:TG) (tb:TS):TS:=fun D σ H=>wi σ H fun J H1=>∃ W:Nat->Nat->St->Hp->Prop,(∃ m,W 0 m σ H1)/\∀ i m σ H,W i m σ H ->
 (J.stop i H/\D.nx σ H)\/(J.go i H/\∃ N:St->Hp->Prop,(∀ σ' H',N σ' H'->∃ m',m'<m/\W (i+1) m' σ' H')/\∀ x H',J.Kc i H x H'->g x σ H' fun σ2 H2=>tb { D with nx:=N,ct:=N,bk:=D.nx } σ2 H2)
noncomputable def jx (fp:List Addr) (h:Heap):List (Addr×Obj):=fp.filterMap fun b=>(h.get? b).map fun o=>(b,o)
theorem d9 {fp:List Addr} {h:Heap} {b:Addr} {o:Obj} (hb:b∈fp) (e:h.get? b=some o):(b,o)∈jx fp h:=List.mem_filterMap.mpr ⟨b,hb,by rw [e];rfl⟩
theorem sH {fp:List Addr} {h:Heap} {p:Addr×Obj} (hp:p∈jx fp h):p.1∈fp/\h.get? p.1=some p.2:=by
 obtain ⟨b,hb,e⟩:=List.mem_filterMap.mp hp
 cases q:h.get? b with
 | none=>rw [q] at e;cases e
 | some o =>
  rw [q] at e
  have e':(b,o)=p:=Option.some.inj e
  subst e'
  exact ⟨hb,q⟩
theorem Inv.pinned {pins:List (Addr×Obj)} {σ:St} {H:Hp} {s:Shared} {fp:List Addr} (I:Inv X pins σ H s) (hf:∀ b∈fp,iI X pins H b) (ho:∀ b∈fp,∃ o,s.heap.get? b=some o/\∀ v,o.data≠.cell v):Inv X (pins++jx fp s.heap) σ H s :=
 I.qC fun p hp=>(List.mem_append.mp hp).elim (fun z=>I.pin p (List.mem_append_right _ z)) fun z=>by
  obtain ⟨hb,e⟩:=sH z
  obtain ⟨f0,f1,f2,_⟩:=hf p.1 hb
  obtain ⟨o,e',d⟩:=ho p.1 hb
  rw [e] at e';cases e'
  exact ⟨e,f0,f1,f2,d⟩
theorem Inv.gq {pins pl:List (Addr×Obj)} {σ:St} {H:Hp} {s:Shared} (I:Inv X (pins++pl) σ H s):Inv X pins σ H s:=I.qC fun p hp=>I.pin p (List.mem_append_right _ (List.mem_append_left _ hp))
theorem Ew {iter:Expr} {body:List Stmt} {wi:TI} {g:TG} {tb:TS} {pos:Pos} (hp:PassesOwn (model X.prog X.w) X.A X.env X.xe) (hc:X.calm=true) (hi:PI X tg iter wi) (hg:PG X tg g) (hb:jX X body tb)
  (hs:∀ x,foldedSetIterable iter X.env x=pure x:=by intro _;rfl):PS X (.For tg iter body [] pos) (HN wi g tb):=by
 intro pins s σ H D I h
 refine wpAny_For (bT (hi pins s σ H _ I h) fun v s1 h1=>bT h1 fun itv s2 h2=>?_) hs
 obtain ⟨it,fp,tn,J,H2,e,I2,T,st2,f2,W,⟨m0,w0⟩,turn⟩:=h2
 subst e
 have stat:∀ {H':Hp},(∀ b∈fp,H' b=none)->∀ b∈fp,iI X pins H' b:=fun hn b hb=>⟨hn b hb,(f2 b hb).2⟩
 refine codeAny_forLoop_any (fun n s'=>∃ i σ' H',Inv X pins σ' H' s'/\tn i s'.heap/\(∀ b∈fp,H' b=none)/\W i n σ' H') ?_ m0 ⟨0,σ,H2,I2,st2,fun b hb=>(f2 b hb).1,w0⟩
 rintro n s3 ⟨i,σ3,H3,I3,st3,Js,w3⟩
 rcases turn i n σ3 H3 w3 with ⟨stop,qn⟩ | ⟨go,N,hN,step⟩
 ·refine wpAny_passesOwn hp (bT (T.done X rfl rfl rfl hc i pins s3 σ3 H3 X.xe I3 (stat Js) st3 stop) fun r s4 ⟨hr,I4⟩=>?_)
  subst hr
  exact wpAny_execs_nil ⟨σ3,H3,I4,qn⟩
 ·refine wpAny_passesOwn hp (bT (T.item X rfl rfl rfl hc i pins s3 σ3 H3 X.xe I3 (stat Js) st3 go) fun r s4 ⟨u,hr,h4⟩=>?_)
  subst hr
  refine wpAny_passesOwn hp (bT h4 fun _ s5 ⟨x,H5,I5,r5,y5,DT,fr5⟩=>?_)
  have I5':=I5.pinned (stat fr5) (T.obj _ _ DT)
  refine wpAny_passesOwn hp (bT (hg _ s5 σ3 H5 x u _ I5' r5 (step x H5 y5)) fun _ s6 ⟨σ6,H6,I6,q6⟩=>?_)
  refine wpAny_passesOwn hp (bT (hb _ s6 σ6 H6 _ I6 q6) fun f s7 q7=>?_)
  have again:∀ {σ7:St} {H7:Hp},Inv X (pins++jx fp s5.heap) σ7 H7 s7->N σ7 H7->∃ m,m<n/\∃ i σ' H',Inv X pins σ' H' s7/\tn i s7.heap/\(∀ b∈fp,H' b=none)/\W i m σ' H':=fun {σ7 H7} I7 n7=>by
   obtain ⟨m',hm,w7⟩:=hN σ7 H7 n7
   refine ⟨m',hm,i+1,σ7,H7,I7.gq,T.keep _ _ _ DT fun b hb o e=>(I7.pin (b,o) (List.mem_append_right _ (List.mem_append_right _ (d9 hb e)))).1,fun b hb=>?_,w7⟩
   obtain ⟨o,e,d⟩:=T.obj _ _ DT b hb
   exact (I7.pin (b,o) (List.mem_append_right _ (List.mem_append_right _ (d9 hb e)))).2.1
  cases f with
  | next=>obtain ⟨σ7,H7,I7,n7⟩:=q7;exact again I7 n7
  | cont=>obtain ⟨σ7,H7,I7,n7⟩:=q7;exact again I7 n7
  | brk=>obtain ⟨σ7,H7,I7,q7⟩:=q7;exact ⟨σ7,H7,I7.gq,q7⟩
  | ret v=>obtain ⟨x7,σ7,H7,I7,r7,q7⟩:=q7;exact ⟨x7,σ7,H7,I7.gq,r7,q7⟩
end
noncomputable abbrev R2:=V->V->Hp->VK->Prop
noncomputable def dW (X:Cx) (f:Value->Value->Sem Value) (r:R2):Prop :=
 ∀ (pins:List (Addr×Obj)) (s:Shared) (σ:St) (H:Hp) (x y:V) (v u:Value) (Q:VK),Inv X pins σ H s->RelV x v->RelV y u->r x y H Q ->
  wpAny (model X.prog X.w) X.A (f v u) (EP X pins σ Q) X.xe s
noncomputable def UnR (X:Cx) (f:Value->Sem Value) (r:V->Hp->VK->Prop):Prop :=
 ∀ (pins:List (Addr×Obj)) (s:Shared) (σ:St) (H:Hp) (x:V) (v:Value) (Q:VK),Inv X pins σ H s->RelV x v->r x H Q ->
  wpAny (model X.prog X.w) X.A (f v) (EP X pins σ Q) X.xe s
noncomputable def dc (X:Cx) (f:Value) (r:List V->Hp->VK->Prop):Prop :=
 ∀ (pins:List (Addr×Obj)) (s:Shared) (σ:St) (H:Hp) (xs:List V) (us:List Value) (Q:VK),Inv X pins σ H s->Vals xs us->r xs H Q ->
  wpAny (model X.prog X.w) X.A (call f us) (EP X pins σ Q) X.xe s
noncomputable def DQ (r:R2) (ta tb:TE):TE:=fun σ H Q=>ta σ H fun x H1=>tb σ H1 fun y H2=>r x y H2 Q
noncomputable def tUn (r:V->Hp->VK->Prop) (ta:TE):TE:=fun σ H Q=>ta σ H fun x H1=>r x H1 Q
noncomputable def rI (C:Int->Int->Prop) (g:Int->Int->V):R2:=fun x y H Q=>∃ i j,x=.int i/\y=.int j/\C i j/\Q (g i j) H
noncomputable def oW (g:Int->Int->V):R2:=fun x y H Q=>∃ i j,x=.int i/\y=.int j/\Q (g i j) H
noncomputable def rU (g:Int->V):V->Hp->VK->Prop:=fun x H Q=>∃ i,x=.int i/\Q (g i) H
section
variable {X:Cx} {a b c:Expr} {ta tb tc:TE} {pos:Pos}
theorem GU (ha:PE X a ta) (hb:PE X b tb) {pins:List (Addr×Obj)} {s:Shared} {σ:St} {H:Hp} {R:V->V->Hp->Prop} (I:Inv X pins σ H s)
  (h:ta σ H fun x H1=>tb σ H1 fun y H2=>R x y H2) {Q:Value->Shared->Prop} {f:Value->Value->Sem Value}
  (hf:∀ v u s2 x y H2,Inv X pins σ H2 s2->RelV x v->RelV y u->R x y H2->wpAny (model X.prog X.w) X.A (f v u) Q X.xe s2) :
  wpAny (model X.prog X.w) X.A (eval a X.env) (fun v s₁=>wpAny (model X.prog X.w) X.A (eval b X.env) (fun u s₂=>wpAny (model X.prog X.w) X.A (f v u) Q X.xe s₂) X.xe s₁) X.xe s:=by
 refine bT (ha pins s σ H _ I h) fun v s1 ⟨x,H1,I1,r1,q1⟩=>?_
 refine bT (hb pins s1 σ H1 _ I1 q1) fun u s2 ⟨y,H2,I2,r2,q2⟩=>?_
 exact hf v u s2 x y H2 I2 r1 r2 q2
theorem Iz {op:Operator} {r:R2} (ho:dW X (binaryOp op) r) (ha:PE X a ta) (hb:PE X b tb):PE X (.BinOp a op b pos) (DQ r ta tb):=by
 intro pins s σ H Q I h
 exact wpAny_BinOp (GU ha hb I h fun v u s2 x y H2 I2 rx ry q=>ho pins s2 σ H2 x y v u Q I2 rx ry q)
theorem Iv {op:UnaryOp} {r:V->Hp->VK->Prop} (ho:UnR X (unaryOp op) r) (ha:PE X a ta):PE X (.UnaryOp op a pos) (tUn r ta):=by
 intro pins s σ H Q I h
 exact UnaryOp_ (bT (ha pins s σ H _ I h) fun v s1 ⟨x,H1,I1,r1,q1⟩=>ho pins s1 σ H1 x v Q I1 r1 q1)
theorem IK {f:Value->Value->Sem Value} {C:Int->Int->Prop} {g:Int->Int->Int}
  (rule:∀ (i j:Int) (t u:Tok) (s:Shared) (Q:Value->Shared->Prop) (E:Value->Shared->Prop),C i j->Q (.int (g i j) s.toks) { s with toks:=s.toks+1 }->wpAny (model X.prog X.w) X.A (f (.int i t) (.int j u)) Q E s) :
  dW X f (rI C fun i j=>.int (g i j)):=by
 intro pins s σ H x y v u Q I rx ry h
 obtain ⟨i,j,rfl,rfl,hc,q⟩:=h
 obtain ⟨t,rfl⟩:=rx
 obtain ⟨t',rfl⟩:=ry
 exact rule i j t t' s _ _ hc ⟨.int (g i j),H,I.tok _,⟨_,rfl⟩,q⟩
theorem IJ {f:Value->Value->Sem Value} {g:Int->Int->Int}
  (rule:∀ (i j:Int) (t u:Tok) (s:Shared) (Q:Value->Shared->Prop) (E:Value->Shared->Prop),Q (.int (g i j) s.toks) { s with toks:=s.toks+1 }->wpAny (model X.prog X.w) X.A (f (.int i t) (.int j u)) Q E s) :
  dW X f (oW fun i j=>.int (g i j)):=by
 intro pins s σ H x y v u Q I rx ry h
 obtain ⟨i,j,rfl,rfl,q⟩:=h
 obtain ⟨t,rfl⟩:=rx
 obtain ⟨t',rfl⟩:=ry
 exact rule i j t t' s _ _ ⟨.int (g i j),H,I.tok _,⟨_,rfl⟩,q⟩
theorem Af {f:Value->Value->Sem Value} {g:Int->Int->Bool}
  (rule:∀ (i j:Int) (t u:Tok) (s:Shared) (Q:Value->Shared->Prop) (E:Value->Shared->Prop),Q (.bool (g i j)) s->wpAny (model X.prog X.w) X.A (f (.int i t) (.int j u)) Q E s) :
  dW X f (oW fun i j=>.bl (g i j)):=by
 intro pins s σ H x y v u Q I rx ry h
 obtain ⟨i,j,rfl,rfl,q⟩:=h
 obtain ⟨t,rfl⟩:=rx
 obtain ⟨t',rfl⟩:=ry
 exact rule i j t t' s _ _ ⟨.bl (g i j),H,I,rfl,q⟩
noncomputable def Ka (i j:Int):Prop:=0<j/\j<1073741824
noncomputable def J8 (i j:Int):Prop:=0<=j/\j<=1000000/\i.natAbs<2 ^ 64
noncomputable def B8 (i j:Int):Prop:=(-(2 ^ 64)<i/\i<2 ^ 64)\/(-(2 ^ 64)<j/\j<2 ^ 64)
theorem B8.ok {i j:Int} (h:B8 i j):IntMulOk i j:=by
 rcases h with ⟨h1,h2⟩ | ⟨h1,h2⟩
 ·exact .of_left (intBits_le_64 h1 h2)
 ·exact .of_right (intBits_le_64 h1 h2)
theorem E7:dW X (binaryOp .Add) (oW fun i j=>.int (i+j)):=IJ fun _ _ _ _ _ _ _ q=>add_int q
theorem ET:dW X (binaryOp .Sub) (oW fun i j=>.int (i-j)):=IJ fun _ _ _ _ _ _ _ q=>sub_int q
theorem EZ:dW X (binaryOp .Mult) (rI B8 fun i j=>.int (i*j)):=IK fun _ _ _ _ _ _ _ hc q=>mul_int q hc.ok
theorem Ac:dW X (binaryOp .FloorDiv) (rI Ka fun i j=>.int (i / j)):=IK fun i j _ _ _ _ _ hc q=>by
 have h1:(0:Int)<j:=hc.1
 have h2:j<1073741824:=hc.2
 exact floordiv_int (by omega) (by rw [Int.fdiv_eq_ediv_of_nonneg i (by omega)];exact q) (.inl (PyProof.noPylong_small (by omega)))
theorem E0:dW X (binaryOp .Mod) (rI (fun _ j=>0<j) fun i j=>.int (i % j)):=IK fun i j _ _ _ _ _ hc q=>by
 have h1:(0:Int)<j:=hc
 exact mod_int' (by omega) (by rw [Int.fmod_eq_emod_of_nonneg i (by omega)];exact q)
theorem EU:dW X (binaryOp .Pow) (rI J8 fun i j=>.int (i ^ j.toNat)):=IK fun _ _ _ _ _ _ _ hc q=>pow_int_small hc.1 hc.2.1 hc.2.2 q
theorem unI {f:Value->Sem Value} {g:Int->Int}
  (rule:∀ (i:Int) (t:Tok) (s:Shared) (Q:Value->Shared->Prop) (E:Value->Shared->Prop),Q (.int (g i) s.toks) { s with toks:=s.toks+1 }->wpAny (model X.prog X.w) X.A (f (.int i t)) Q E s) :
  UnR X f (rU fun i=>.int (g i)):=by
 intro pins s σ H x v Q I rx h
 obtain ⟨i,rfl,q⟩:=h
 obtain ⟨t,rfl⟩:=rx
 exact rule i t s _ _ ⟨.int (g i),H,I.tok _,⟨_,rfl⟩,q⟩
theorem DN:UnR X (unaryOp .USub) (rU fun i=>.int (-i)):=unI fun _ _ _ _ _ q=>neg_int q
end
noncomputable def HY:V->V->Bool
 | .aE,.aE=>true | .aE,.int _=>true | .int _,.aE=>true | .aE,.bl _=>true | .bl _,.aE=>true | .aE,.str _=>true | .str _,.aE=>true
 | .int _,.int _=>true | .bl _,.bl _=>true | .str _,.str _=>true | .xA _,.xA _=>true
 | .int _,.str _=>true | .str _,.int _=>true | .bl _,.str _=>true | .str _,.bl _=>true
 | _,_=>false
noncomputable def rEq:R2:=fun x y H Q=>HY x y=true/\Q (.bl (decide (x=y))) H
noncomputable def rNe:R2:=fun x y H Q=>HY x y=true/\Q (.bl (!decide (x=y))) H
theorem rE {i j:Int}:decide (V.int i=V.int j)=(i == j):=by
 rw [Bool.eq_iff_iff]
 simp
theorem mh {i j:Bool}:decide (V.bl i=V.bl j)=(i == j):=by
 rw [Bool.eq_iff_iff]
 simp
theorem rD {i j:Str}:decide (V.str i=V.str j)=(i == j):=by
 rw [Bool.eq_iff_iff]
 simp
theorem rF {i j:Array UInt8}:decide (V.xA i=V.xA j)=(i.toList == j.toList):=by
 rw [Bool.eq_iff_iff]
 cases i
 cases j
 simp
section
variable {X:Cx} {a b c:Expr} {ta tb tc:TE} {pos:Pos}
theorem aM {pins:List (Addr×Obj)} {σ:St} {H:Hp} {s:Shared} {Q:VK} {k k':Bool} (I:Inv X pins σ H s) (q:Q (.bl k) H) (e:k=k'):EP X pins σ Q (.bool k') s:=by
 subst e
 exact ⟨.bl k,H,I,rfl,q⟩
theorem II:dW X (compareOp .Eq) rEq:=by
 intro pins s σ H x y v u Q I rx ry h
 obtain ⟨hs,q⟩:=h
 cases x with
 | aE =>
  cases rx
  cases y with
  | aE=>cases ry;exact PySem.EqNone.eq_none_none (aM I q (by simp))
  | bl j=>cases ry;exact PySem.EqNone.eq_none_bool (aM I q (by simp))
  | int j=>obtain ⟨t',rfl⟩:=ry;exact PySem.EqNone.eq_none_int (aM I q (by simp))
  | str j=>obtain ⟨t',rfl⟩:=ry;exact PySem.EqNone.eq_none_str (aM I q (by simp))
  | _=>exact absurd (show false=true from hs) Bool.false_ne_true
 | bl i =>
  cases rx
  cases y with
  | aE=>cases ry;exact PySem.EqNone.eq_bool_none (aM I q (by simp))
  | bl j=>cases ry;exact eq_bool (aM I q mh)
  | str j=>obtain ⟨t',rfl⟩:=ry;exact PySem.EqMixed.eq_bool_str (aM I q (by simp))
  | _=>exact absurd (show false=true from hs) Bool.false_ne_true
 | int i =>
  obtain ⟨t,rfl⟩:=rx
  cases y with
  | aE=>cases ry;exact PySem.EqNone.eq_int_none (aM I q (by simp))
  | int j=>obtain ⟨t',rfl⟩:=ry;exact eq_int (aM I q rE)
  | str j=>obtain ⟨t',rfl⟩:=ry;exact PySem.EqMixed.eq_int_str (aM I q (by simp))
  | _=>exact absurd (show false=true from hs) Bool.false_ne_true
 | str i =>
  obtain ⟨t,rfl⟩:=rx
  cases y with
  | aE=>cases ry;exact PySem.EqNone.eq_str_none (aM I q (by simp))
  | bl j=>cases ry;exact PySem.EqMixed.eq_str_bool (aM I q (by simp))
  | int j=>obtain ⟨t',rfl⟩:=ry;exact PySem.EqMixed.eq_str_int (aM I q (by simp))
  | str j=>obtain ⟨t',rfl⟩:=ry;exact eq_str (aM I q rD)
  | _=>exact absurd (show false=true from hs) Bool.false_ne_true
 | xA i =>
  obtain ⟨t,rfl⟩:=rx
  cases y with
  | xA j=>obtain ⟨t',rfl⟩:=ry;exact PySem.W.eq_bytes (aM I q rF)
  | _=>exact absurd (show false=true from hs) Bool.false_ne_true
 | _=>cases y <;> exact absurd (show false=true from hs) Bool.false_ne_true
theorem IC:dW X (compareOp .NotEq) rNe:=by
 intro pins s σ H x y v u Q I rx ry h
 obtain ⟨hs,q⟩:=h
 cases x with
 | aE =>
  cases rx
  cases y with
  | aE=>cases ry;exact PySem.EqNone.ne_none_none (aM I q (by simp))
  | bl j=>cases ry;exact PySem.EqNone.ne_none_bool (aM I q (by simp))
  | int j=>obtain ⟨t',rfl⟩:=ry;exact PySem.EqNone.ne_none_int (aM I q (by simp))
  | str j=>obtain ⟨t',rfl⟩:=ry;exact PySem.EqNone.ne_none_str (aM I q (by simp))
  | _=>exact absurd (show false=true from hs) Bool.false_ne_true
 | bl i =>
  cases rx
  cases y with
  | aE=>cases ry;exact PySem.EqNone.ne_bool_none (aM I q (by simp))
  | bl j=>cases ry;exact ne_bool (aM I q (congrArg not mh))
  | str j=>obtain ⟨t',rfl⟩:=ry;exact PySem.EqMixed.ne_bool_str (aM I q (by simp))
  | _=>exact absurd (show false=true from hs) Bool.false_ne_true
 | int i =>
  obtain ⟨t,rfl⟩:=rx
  cases y with
  | aE=>cases ry;exact PySem.EqNone.ne_int_none (aM I q (by simp))
  | int j=>obtain ⟨t',rfl⟩:=ry;exact ne_int (aM I q (congrArg not rE))
  | str j=>obtain ⟨t',rfl⟩:=ry;exact PySem.EqMixed.ne_int_str (aM I q (by simp))
  | _=>exact absurd (show false=true from hs) Bool.false_ne_true
 | str i =>
  obtain ⟨t,rfl⟩:=rx
  cases y with
  | aE=>cases ry;exact PySem.EqNone.ne_str_none (aM I q (by simp))
  | bl j=>cases ry;exact PySem.EqMixed.ne_str_bool (aM I q (by simp))
  | int j=>obtain ⟨t',rfl⟩:=ry;exact PySem.EqMixed.ne_str_int (aM I q (by simp))
  | str j=>obtain ⟨t',rfl⟩:=ry;exact ne_str (aM I q (congrArg not rD))
  | _=>exact absurd (show false=true from hs) Bool.false_ne_true
 | xA i =>
  obtain ⟨t,rfl⟩:=rx
  cases y with
  | xA j=>obtain ⟨t',rfl⟩:=ry;exact PySem.W.ne_bytes (aM I q (congrArg not rF))
  | _=>exact absurd (show false=true from hs) Bool.false_ne_true
 | _=>cases y <;> exact absurd (show false=true from hs) Bool.false_ne_true
theorem ID:dW X (compareOp .Lt) (oW fun i j=>.bl (decide (i<j))):=Af fun _ _ _ _ _ _ _ q=>lt_int q
theorem IE:dW X (compareOp .LtE) (oW fun i j=>.bl (decide (i<=j))):=Af fun _ _ _ _ _ _ _ q=>le_int q
theorem IF:dW X (compareOp .Gt) (oW fun i j=>.bl (decide (j<i))):=Af fun _ _ _ _ _ _ _ q=>gt_int q
theorem IG:dW X (compareOp .GtE) (oW fun i j=>.bl (decide (j<=i))):=Af fun _ _ _ _ _ _ _ q=>ge_int q
theorem E1:dW X (compareOp .Is) (fun x y H Q=>y=.aE/\Q (.bl (decide (x=.aE))) H):=by
 intro pins s σ H x y v u Q I rx ry h
 obtain ⟨rfl,q⟩:=h
 cases ry
 refine is_none_gen (aM I q ?_)
 cases x <;> first
  | (cases rx;rfl)
  | (obtain ⟨t,rfl⟩:=rx;rfl)
theorem zZ:dW X (compareOp .IsNot) (fun x y H Q=>y=.aE/\Q (.bl (!decide (x=.aE))) H):=by
 intro pins s σ H x y v u Q I rx ry h
 obtain ⟨rfl,q⟩:=h
 cases ry
 refine isnot_none_gen (aM I q ?_)
 cases x <;> first
  | (cases rx;rfl)
  | (obtain ⟨t,rfl⟩:=rx;rfl)
theorem dW.or {f:Value->Value->Sem Value} {r r':R2} (h:dW X f r) (h':dW X f r'):dW X f (fun x y H Q=>r x y H Q\/r' x y H Q):=by
 intro pins s σ H x y v u Q I rx ry q
 rcases q with q | q
 ·exact h pins s σ H x y v u Q I rx ry q
 ·exact h' pins s σ H x y v u Q I rx ry q
theorem zV {op:CmpOp} {r:R2} (ho:dW X (compareOp op) r) (ha:PE X a ta) (hb:PE X b tb) (hm:behindInMarks op b=false):PE X (.Compare a [op] [b] pos) (DQ r ta tb):=by
 intro pins s σ H Q I h
 exact wpAny_Compare1 (GU ha hb I h fun v u s2 x y H2 I2 rx ry q=>ho pins s2 σ H2 x y v u Q I2 rx ry q) hm
noncomputable def HF (t:TE):TT:=fun σ H Q=>t σ H fun x H'=>∃ k,x=.bl k/\Q k H'
theorem zK {op:CmpOp} {r:R2} (ho:dW X (compareOp op) r) (ha:PE X a ta) (hb:PE X b tb) (hm:behindInMarks op b=false):PT X (.Compare a [op] [b] pos) (HF (DQ r ta tb)):=by
 intro pins s σ H Q I h
 refine wpAny_isTrue_Compare1 (bT (ha pins s σ H _ I h) fun v s1 ⟨x,H1,I1,r1,q1⟩=>bT (hb pins s1 σ H1 _ I1 q1) fun u s2 ⟨y,H2,I2,r2,q2⟩ =>
  bT (ho pins s2 σ H2 x y v u _ I2 r1 r2 q2) fun c s3 ⟨z,H3,I3,r3,k,e,q3⟩=>?_) hm
 subst e
 cases r3
 exact wpAny_truthy_bool ⟨H3,I3,q3⟩
theorem g8:(sizeLine:Nat)<2 ^ 63:=by rw [sizeLine_eq];decide
theorem o5:dW X (binaryOp .Add) (fun x y H Q=>∃ i j,x=.str i/\y=.str j/\i.length+j.length<=sizeLine/\Q (.str (i++j)) H):=by
 intro pins s σ H x y v u Q I rx ry h
 obtain ⟨i,j,rfl,rfl,hz,q⟩:=h
 obtain ⟨t,rfl⟩:=rx
 obtain ⟨t',rfl⟩:=ry
 exact add_str (fun t' tk=>⟨.str (i++j),H,I.tok _,⟨_,rfl⟩,q⟩) hz
theorem vals1 {x:V} {us:List Value} (r:Vals [x] us):∃ u,us=[u]/\RelV x u:=by
 cases r with
 | cons r1 r2=>cases r2;exact ⟨_,rfl,r1⟩
end
structure J5 (h:Heap) (x dx C:Addr) (mA:Str->Option Value):Prop where
 obj:h.get? x=some (PySem.W.instObj C dx)
 ns:h.Ns1 dx mA
 ne:dx≠x
theorem sI {h:Heap} {dx:Addr} {mA:Str->Option Value} (n:h.Ns1 dx mA):∃ od,h.get? dx=some od/\∀ name,PySem.W.lookIn name od=some (mA name):=by
 obtain ⟨o,es,ep,ho,hd,hk,_,hm⟩:=n
 refine ⟨o,ho,fun name=>?_⟩
 have e:=hm name
 unfold nsFind findBy at e
 rw [<- Array.find?_toList] at e
 unfold PySem.W.lookIn
 rw [hd]
 dsimp only
 split
 ·rename_i y q
  rw [q] at e
  exact congrArg some e
 ·rename_i q
  rw [q] at e
  have a:es.toList.any (·.refKey)=false:=by
   rw [List.any_eq_false]
   intro y hy
   obtain ⟨z,t,hkey⟩:=hk y (Array.mem_toList_iff.mp hy)
   simp [DictEntry.refKey,hkey]
  have a':¬ es.toList.any (·.refKey)=true:=by rw [a];exact Bool.false_ne_true
  rw [if_neg a']
  exact congrArg some e
theorem J5.look {h:Heap} {x dx C:Addr} {mA:Str->Option Value} (I:J5 h x dx C mA):∃ od,PySem.W.InstAt h x (PySem.W.instObj C dx) C (some od)/\∀ name,PySem.W.lookIn name od=some (mA name) :=
 let ⟨od,ho,hl⟩:=sI I.ns
 ⟨od,⟨I.obj,rfl,rfl,ho⟩,hl⟩
section
variable {prog:Program} {w:World} {A:Around} {E:Value->Shared->Prop} {s:Shared} {K:PySem.W.Frag} {x dx C f:Addr} {mA:Str->Option Value} {name:Str} {v:Value}
end
theorem mH.some_of {v:V} {o:Option Value} (r:mH (some v) o):∃ u,o=some u/\RelV v u:=by
 cases o with
 | none=>exact (show False from r).elim
 | some u=>exact ⟨u,rfl,r⟩
section
variable {P:Program} {w:World} {H H':Hp} {h h':Heap} {a C dx:Addr} {fs fs':List (Str×V)}
end
structure Lm (K:PySem.W.Frag) (C:Addr):Prop where
 pg:PySem.W.plainGet K C Str.empty=true
 hd:PySem.W.hasDictIn K C=true
 po:PySem.W.plainOver K C=true
 sa:PySem.W.findIn K (.ref C) "__setattr__" = some (some (.builtin "object.__setattr__"))
theorem Lm.get {K:PySem.W.Frag} {C:Addr} (c:Lm K C) (f:Str):PySem.W.plainGet K C f=true:=c.pg
noncomputable def xP (K:PySem.W.Frag) (C:Addr) (f:Str):Prop:=PySem.W.findIn K (.ref C) f=some none
structure Meth (K:PySem.W.Frag) (C:Addr) (m:Str) (f:Addr):Prop where
 at_:PySem.W.findIn K (.ref C) m=some (some (.ref f))
 fn:PySem.W.isFn K (.ref f)=true
 kp:PySem.W.keepIn K (.ref f)=true
section
variable {X:Cx} {pins:List (Addr×Obj)} {σ:St} {H:Hp} {s:Shared} {a C dx:Addr} {fs:List (Str×V)} {f:Str} {v:V} {A:Around} {E:Value->Shared->Prop}
theorem Inv.made (I:Inv X pins σ H s):Inv X pins σ (upd (upd H s.heap.objs.size (.own (s.heap.objs.size+1))) (s.heap.objs.size+1) (.ins C s.heap.objs.size []))
  { s with heap:=(s.heap.push PySem.W.emptyDict).push (PySem.W.instObj C s.heap.objs.size) }:=by
 have e1:(s.heap.push PySem.W.emptyDict).get? s.heap.objs.size=some PySem.W.emptyDict:=Heap.get?_push_size s.heap rfl
 have e2:((s.heap.push PySem.W.emptyDict).push (PySem.W.instObj C s.heap.objs.size)).get? (s.heap.objs.size+1)=some (PySem.W.instObj C s.heap.objs.size):=by
  have:=Heap.get?_push_size (s.heap.push PySem.W.emptyDict) (o:=PySem.W.instObj C s.heap.objs.size) rfl
  rwa [Heap.size_push] at this
 have e3:(s.heap.push PySem.W.emptyDict).Ns s.heap.objs.size (fun _=>none):=⟨PySem.W.emptyDict,#[],_,e1,rfl,(fun e he=>absurd he (by simp)),fun _=>rfl⟩
 have I1:=I.laid (a:=s.heap.objs.size) (o:=.own (s.heap.objs.size+1)) (h':=s.heap.push PySem.W.emptyDict) (t':=s.toks) (fun b u q=>Heap.get?_push_of_some _ q) (Nat.le_refl _) ⟨_,e1⟩
 refine I1.laid (a:=s.heap.objs.size+1) (o:=.ins C s.heap.objs.size []) (t':=s.toks) (fun b u q=>Heap.get?_push_of_some _ q) (Nat.le_of_eq (Heap.size_push _ _)) ?_
 have ne:s.heap.objs.size≠s.heap.objs.size+1:=Nat.ne_of_lt (Nat.lt_succ_self _)
 refine ⟨by rw [ak ne,aL],Nat.zero_le _,ne,e2,fun _=>none,(Heap.Ns1.of_empty e3).at fun o q=>Heap.get?_push_of_some _ q,fun _=>True.intro,fun y hy=>absurd rfl hy⟩
end
section
variable {X:Cx} {o e value:Expr} {f:Str} {pos pos' tpos:Pos} {ta tv:TE}
end
section
variable {X:Cx} {pins:List (Addr×Obj)} {σ:St} {H:Hp} {s:Shared} {A:Around} {E:Value->Shared->Prop} {Q:Value->Shared->Prop} {c:Value} {b:Bool}
end
structure eU (k:Nat) (A:Around):Prop where
 hd:A.handled=none
 dp:A.depth+3*k+5<recursionLimit
 un:A.units+16*k+200<cLine
theorem eU.deeper {k:Nat} {A:Around} (r:eU (k+1) A) (env:Env):eU k (A.deeper env) :=
 ⟨r.hd,by have:=r.dp;show A.depth+1+3*k+5<_;omega,by have:=r.un;show A.units+3+16*k+200<_;omega⟩
theorem eU.in1 {k:Nat} {A:Around} (r:eU (k+1) A):eU k A.in1 :=
 ⟨r.hd,by have:=r.dp;show A.depth+3*k+5<_;omega,by have:=r.un;show A.units+1+16*k+200<_;omega⟩
theorem eU.depth {k:Nat} {A:Around} (r:eU k A):A.depth<recursionLimit:=by have:=r.dp;omega
noncomputable def oM:TA:=fun _ H Q=>Q [] H
noncomputable def iJ (ta:TE) (tr:TA):TA:=fun σ H Q=>ta σ H fun x H1=>tr σ H1 fun xs H2=>Q (x::xs) H2
section
variable {X:Cx} {e:Expr} {es:List Expr} {te:TE} {t:TA} {pos:Pos}
theorem fY:PA X [] oM:=fun _ _ _ _ H Q I h=>Calls.spliced_nil ⟨[],H,I,.nil,h⟩
theorem cQ (ha:PE X e te) (hr:PA X es t) (hs:starEach (e::es) X.env=(false,eval e X.env)::starEach es X.env:=by rfl):PA X (e::es) (iJ te t):=by
 intro pos pins s σ H Q I h
 rw [hs]
 show wpAny _ _ (spliced ((false,eval e X.env)::backTo pos (starEach es X.env))) _ _ s
 refine Calls.spliced_cons (bT (ha pins s σ H _ I h) fun u s1 ⟨x,H1,I1,r1,q1⟩=>?_)
 exact bT (hr pos pins s1 σ H1 _ I1 q1) fun us s2 ⟨xs,H2,I2,r2,q2⟩=>⟨x::xs,H2,I2,.cons r1 r2,q2⟩
noncomputable def HE (t:TA):TE:=fun σ H Q=>t σ H fun xs H1=>xs.length<=sizeLine/\∀ p,H1 p=none->Q (.ref p) (upd H1 p (.tup xs))
noncomputable def HL (t:TA):TE:=fun σ H Q=>t σ H fun xs H1=>xs.length<=sizeLine/\∀ p,H1 p=none->Q (.ref p) (upd H1 p (.lst xs))
theorem EF {x1} (h:PA X es t):PE X (.Tuple es x1 pos) (HE t):=by
 intro pins s σ H Q I hq
 refine wpAny_Tuple_spliced (bT (h pos pins s σ H _ I hq) fun us s1 ⟨xs,H1,I1,r,z,q⟩=>⟨by rw [<- r.length];exact z,?_⟩)
 have hf:H1 s1.heap.objs.size=none:=I1.hok.fresh (Nat.le_refl _)
 refine ⟨.ref s1.heap.objs.size,upd H1 s1.heap.objs.size (.tup xs),I1.laid (t':=s1.toks) (fun b u e=>Heap.get?_push_of_some _ e) (Nat.le_refl _) ?_,rfl,q _ hf⟩
 exact ⟨z,us,r,⟨_,Heap.get?_push_size _ rfl,rfl,_,rfl⟩⟩
theorem EL (h:PA X es t):PE X (.List es pos) (HL t):=by
 intro pins s σ H Q I hq
 refine wpAny_List_spliced (bT (h pos pins s σ H _ I hq) fun us s1 ⟨xs,H1,I1,r,z,q⟩=>⟨by rw [<- r.length];exact z,?_⟩)
 have hf:H1 s1.heap.objs.size=none:=I1.hok.fresh (Nat.le_refl _)
 refine ⟨.ref s1.heap.objs.size,upd H1 s1.heap.objs.size (.lst xs),I1.laid (t':=s1.toks) (fun b u e=>Heap.get?_push_of_some _ e) (Nat.le_refl _) ?_,rfl,q _ hf⟩
 exact ⟨z,us,0,r,Heap.get?_push_size _ rfl⟩
end
noncomputable abbrev Sp:=List V->Hp->VK->XK->Prop
noncomputable abbrev xR:=List Env->Hp->Shared->XK->Value->Shared->Prop
structure p9 (P:Program) (w:World) (K:PySem.W.Frag) (mg:Str->Option Value) (base:Heap) (A:Around) (outer:List Env) (s:Shared) (H:Hp):Prop where
 frames:A.frames=some outer
 mod:Mod K mg base
 bs:∀ b o,base.get? b=some o->s.heap.get? b=some o/\H b=none
 tS:base.objs.size<=s.heap.objs.size
 fZ:s.heap.FunFrames base outer
 yS:∀ b∈frs outer,H b=none
 hok:fV P w H s.heap
 bare:AllBare s.gens
noncomputable def CE (outer:List Env) (P:Program) (w:World) (H:Hp) (s:Shared) (Q:VK) (u:Value) (s':Shared):Prop :=
 ∃ v H',s'.os=s.os/\AllBare s'.gens/\Un (frs outer) [] H H' s.heap s'.heap/\fV P w H' s'.heap/\RelV v u/\Q v H'
noncomputable def CR (CX:xR) (outer:List Env) (P:Program) (w:World) (H:Hp) (s:Shared) (Q:VK) (E:XK) (r:Result) (s':Shared):Prop :=
 match r with
 | .ok (.ret u)=>CE outer P w H s Q u s'
 | .ok _=>False
 | .error e=>CX outer H s E e s'
structure eN (P:Program) (w:World) (K:PySem.W.Frag) (mg:Str->Option Value) (base:Heap) (CX:xR) (k:Nat) (f:Addr) (fd:FuncData) (ps:List Str) (sp:Sp):Prop where
 len:∀ vs H Q E,sp vs H Q E->vs.length=ps.length
 run:∀ (A:Around) (outer:List Env) (s:Shared) (H:Hp) (args:Args) (us:List Value) (vs:List V) (Q:VK) (E:XK),eU k A->p9 P w K mg base A outer s H->BindsTo s fd args (ps.zip us)->Vals vs us->sp vs H Q E ->
  codeAny (model P w) A (.call (.ref f) args) (CR CX outer P w H s Q E) s
theorem eN.imp {P:Program} {w:World} {K:PySem.W.Frag} {mg:Str->Option Value} {base:Heap} {CX:xR} {k:Nat} {f:Addr} {fd:FuncData} {ps:List Str} {sp sp':Sp} (F:eN P w K mg base CX k f fd ps sp)
  (h:∀ vs H Q E,sp' vs H Q E->sp vs H Q E):eN P w K mg base CX k f fd ps sp' :=
 ⟨fun vs H Q E q=>F.len vs H Q E (h _ _ _ _ q),fun A outer s H args us vs Q E hr he hb hv hs=>F.run A outer s H args us vs Q E hr he hb hv (h _ _ _ _ hs)⟩
theorem p9.in1 {P:Program} {w:World} {K:PySem.W.Frag} {mg:Str->Option Value} {base:Heap} {A:Around} {outer:List Env} {s:Shared} {H:Hp} (e:p9 P w K mg base A outer s H) :
  p9 P w K mg base A.in1 outer s H:=⟨e.frames,e.mod,e.bs,e.tS,e.fZ,e.yS,e.hok,e.bare⟩
section
variable {X:Cx} {pins:List (Addr×Obj)} {σ:St} {H:Hp} {s s':Shared}
theorem Inv.l9 (I:Inv X pins σ H s):p9 X.prog X.w X.K X.mg X.base X.A X.stack s H :=
 ⟨I.ok.frames,I.ok.mod,I.bs,Nat.le_trans I.ok.tS I.sz,I.stack,I.fK,I.hok,I.bare⟩
theorem Inv.after {Q:VK} {u:Value} (I:Inv X pins σ H s) (h:CE X.stack X.prog X.w H s Q u s'):EP X pins σ Q u s':=by
 obtain ⟨v,H',os,bare,un,hok,r,q⟩:=h
 obtain ⟨hh,g,d,t,os'⟩:=s'
 obtain rfl:os'=s.os:=os
 exact ⟨v,H',I.call (h':=hh) (g':=g) (d':=d) (t':=t) (ch:=[]) un hok bare (fun b z=>absurd z (by simp)),r,q⟩
end
noncomputable def Binds (K:PySem.W.Frag) (fd:FuncData) (ps:List Str) (ds:List Value):Prop :=
 ∀ (s:Shared) (us:List Value),K.In s.heap->(us++ds).length=ps.length->BindsTo s fd ⟨us,[]⟩ (ps.zip (us++ds))
theorem Binds.all {K:PySem.W.Frag} {fd:FuncData} {ps:List Str} (h:∀ us:List Value,us.length=ps.length->bindArgs fd ⟨us,[]⟩=pure (ps.zip us)):Binds K fd ps []:=fun s us _ hl=>by
 rw [List.append_nil] at hl ⊢
 exact .of_eq (h us hl)
section
variable {X:Cx} {CX:xR} {k:Nat} {f C:Addr} {fd:FuncData} {ps:List Str} {sp:Sp} {dvs:List V} {ds:List Value} {E:XK} {x m:Str} {p pos apos:Pos} {e o:Expr} {es:List Expr} {ta:TE} {t:TA}
structure Mk (K:PySem.W.Frag) (C f:Addr):Prop where
 makes:PySem.W.makesIn K C=true
 init:PySem.W.findIn K (.ref C) "__init__" = some (some (.ref f))
 fn:PySem.W.isFn K (.ref f)=true
 kp:PySem.W.keepIn K (.ref C)=true
end
section
variable {X:Cx} {CX:xR} {k:Nat} {f C:Addr} {fd:FuncData} {ps ks:List Str} {sp:Sp} {E:XK} {x m:Str} {p pos apos kpos:Pos} {e o:Expr} {es:List Expr} {kws:List Keyword} {te ta:TE} {t tk:TA} {nm:Option Str}
variable {g:List Value->List Value->List Value} {gV:List V->List V->List V}
end
structure dF (N P:List Str) (sc:Scope):Prop where
 kind:sc.kind=.function
 co:sc.isCoroutine=false
 gen:sc.isGenerator=false
 nd:N.Nodup
 pre:N.take P.length=P
 par:∀ x∈P,sc.names.lookup x=some .local\/sc.names.lookup x=some .cell
 Fb:∀ y∈sc.names,y.2≠.free
theorem kW {kindOf:Str->Option NameKind} {x:Str}:∀ {binds:List (Str×Value)} {m:Str->Option Value},(∀ v,(x,v)∉binds)->bindL kindOf binds m x=m x
 | [],_,_=>rfl
 | (n, v)::r, m, h=>by
  unfold bindL
  rw [kW fun w hw=>h w (List.mem_cons_of_mem _ hw)]
  split
  ·have:x≠n:=by rintro rfl;exact h v List.mem_cons_self
   simp [this]
  ·rfl
theorem kY {kindOf:Str->Option NameKind} {x:Str}:∀ {binds:List (Str×Value)} {m:Str->Option Value},(∀ v,(x,v)∉binds)->bindC kindOf binds m x=m x
 | [],_,_=>rfl
 | (n, v)::r, m, h=>by
  unfold bindC
  rw [kY fun w hw=>h w (List.mem_cons_of_mem _ hw)]
  split
  ·rfl
  ·have:x≠n:=by rintro rfl;exact h v List.mem_cons_self
   simp [this]
theorem kX {kindOf:Str->Option NameKind} {x:Str} {v:Value}:∀ {P:List Str} {vs:List Value} {i:Nat} {m:Str->Option Value},P.Nodup->P[i]? = some x->vs[i]? = some v->kindOf x=some .local ->
  bindL kindOf (P.zip vs) m x=some v
 | [],_,_,_,_,h,_,_=>by simp at h
 | _::_,[],_,_,_,_,h,_=>by simp at h
 | p::P,w::vs,0,m,nd,h1,h2,hk=>by
  simp at h1 h2;subst h1;subst h2
  show bindL kindOf ((p,w)::P.zip vs) m p=_
  unfold bindL
  rw [kW fun v hv=>(List.nodup_cons.mp nd).1 (List.of_mem_zip hv).1,if_pos hk]
  simp
 | p::P,w::vs,i+1,m,nd,h1,h2,hk=>by
  show bindL kindOf ((p,w)::P.zip vs) m x=_
  unfold bindL
  exact kX (i:=i) (List.nodup_cons.mp nd).2 (by simpa using h1) (by simpa using h2) hk
theorem kZ {kindOf:Str->Option NameKind} {x:Str} {v:Value}:∀ {P:List Str} {vs:List Value} {i:Nat} {m:Str->Option Value},P.Nodup->P[i]? = some x->vs[i]? = some v->kindOf x≠some .local ->
  bindC kindOf (P.zip vs) m x=some v
 | [],_,_,_,_,h,_,_=>by simp at h
 | _::_,[],_,_,_,_,h,_=>by simp at h
 | p::P,w::vs,0,m,nd,h1,h2,hk=>by
  simp at h1 h2;subst h1;subst h2
  show bindC kindOf ((p,w)::P.zip vs) m p=_
  unfold bindC
  rw [kY fun v hv=>(List.nodup_cons.mp nd).1 (List.of_mem_zip hv).1,if_neg hk]
  simp
 | p::P,w::vs,i+1,m,nd,h1,h2,hk=>by
  show bindC kindOf ((p,w)::P.zip vs) m x=_
  unfold bindC
  exact kZ (i:=i) (List.nodup_cons.mp nd).2 (by simpa using h1) (by simpa using h2) hk
noncomputable def start (N:List Str) (vs:List V):St:=vs.map some++List.replicate (N.length-vs.length) none
noncomputable def gP (CX:xR) (P:Program) (w:World) (K:PySem.W.Frag) (mg:Str->Option Value) (base:Heap) (N:List Str) (qual:Str) (scope:Scope) (f:Addr) (cd:Value) (A:Around) (outer:List Env) (s:Shared) (H:Hp) (E:XK):Cx where
 prog:=P
 w:=w
 K:=K
 mg:=mg
 base:=base
 A:=A.deeper (envOfC qual scope s.heap.objs.size f cd)
 N:=N
 s₀:=s
 H₀:=H
 env:=envOfC qual scope s.heap.objs.size f cd
 outer:=outer
 stack:=envOfC qual scope s.heap.objs.size f cd::outer
 ex:=[]
 calm:=true
 fn:=fun _=>true
 pn:=[]
 xe:=fun e s'=>wpAny (model P w) (A.deeper (envOfC qual scope s.heap.objs.size f cd)) (leaving (envOfC qual scope s.heap.objs.size f cd) e) (fun _ s''=>CX outer H s E e s'') (fun e' s''=>CX outer H s E e' s'') s'
theorem oh {sc:Scope} {n:Nat} {x:Str} (h:sc.names.lookup x=some .cell):∃ c,(cellsFrom n sc.names []).lookup x=some c:=by
 have q:=PySem.W.cellsFrom_some sc.names n [] (.inl h)
 exact Option.isSome_iff_exists.mp q
theorem sR {CX:xR} {P:Program} {w:World} {K:PySem.W.Frag} {mg:Str->Option Value} {base:Heap} {N ps:List Str} {qual:Str} {scope:Scope} {f:Addr} {cd:Value} {A:Around} {outer:List Env} {s s1:Shared} {H:Hp} {E:XK} {us:List Value} {vs:List V}
  (S:dF N ps scope) (hd:A.handled=none) (e0:p9 P w K mg base A outer s H) (hl:vs.length=ps.length) (r:Vals vs us)
  (x:InCallC s s.heap.objs.size (bindL (envOfC qual scope s.heap.objs.size f cd).kindOf (ps.zip us) fun _=>none) (cellsFrom (s.heap.objs.size+1) scope.names []) (bindC (envOfC qual scope s.heap.objs.size f cd).kindOf (ps.zip us) fun _=>none) s1) :
  Inv (gP CX P w K mg base N qual scope f cd A outer s H E) [] (start N vs) H s1:=by
 have hpl:ps.length<=N.length:=by have:=congrArg List.length S.pre;rw [List.length_take] at this;omega
 obtain ⟨h1,tk,rfl,hk⟩:=x.done
 have IQ:∀ b:Addr,b∉(gP CX P w K mg base N qual scope f cd A outer s H E).ex:=fun b z=>absurd (show b∈([]:List Addr) from z) (by simp)
 refine ⟨⟨e0.mod,S.kind,rfl,rfl,Nat.le_refl _,fun y z c h1 h2=>?_,fun y hy=>?_,fun y c _ h=>?_,fun _=>hd,Around.frames_deeper e0.frames,.inr ⟨rfl,rfl⟩,fun b z=>absurd z (IQ b),e0.bs,e0.tS,fun b _ _=>IQ b,fun b z=>absurd z (IQ b),e0.fZ,e0.yS⟩,
  rfl,e0.bare,Un.kept hk,⟨_,x.toInCall.ns,fun i y v h1 h2 h3=>?_⟩,fun y c h=>⟨_,x.cell y c h⟩,e0.hok.fresh (Nat.le_refl _),fun y c h=>?_,fun p hp=>absurd (show p∈([]:List (Addr×Obj)) from hp) (by simp),e0.hok.kept hk,?_⟩
 ·exact name_of_addr x.apart (PySem.mem_of_lookup h1) (PySem.mem_of_lookup h2)
 ·have hy:scope.names.lookup y=some .cell\/scope.names.lookup y=some .free:=hy
  rcases hy with hy | hy
  ·exact oh hy
  ·exact absurd rfl (S.Fb _ (PySem.mem_of_lookup hy))
 ·exact Nat.le_of_lt (x.above y c (PySem.mem_of_lookup h))
 ·have hi:i<vs.length:=by
   unfold start at h2
   by_cases hi:i<vs.length
   ·exact hi
   ·rw [List.getElem?_append_right (by simpa using hi)] at h2
    rw [List.getElem?_replicate] at h2
    split at h2 <;> cases h2
  have ha:vs[i]? = some v:=by
   unfold start at h2
   rw [List.getElem?_append_left (by simpa using hi),List.getElem?_map] at h2
   cases e:vs[i]? with
   | none=>rw [e] at h2;cases h2
   | some a=>rw [e] at h2;cases h2;rfl
  obtain ⟨u,hu,rv⟩:=r.get ha
  have hp:ps[i]? = some y:=by
   rw [<- S.pre,List.getElem?_take_of_lt (by omega)];exact h1
  have ndP:ps.Nodup:=by rw [<- S.pre];exact S.nd.sublist (List.take_sublist _ _)
  refine ⟨u,rv,?_⟩
  rcases S.par y (List.mem_of_getElem? hp) with k | k
  ·exact .inl ⟨k,kX ndP hp hu k⟩
  ·obtain ⟨c,e⟩:=oh (n:=s.heap.objs.size+1) k
   refine .inr ⟨.inl k,c,e,?_⟩
   have q:=x.cell y c e
   rw [kZ ndP hp hu (by show scope.names.lookup y≠_;rw [k];decide)] at q
   exact q
 ·exact e0.hok.fresh (Nat.le_of_lt (x.above y c (PySem.mem_of_lookup h)))
 ·unfold start
  show _=N.length
  rw [List.length_append,List.length_map,List.length_replicate]
  omega
theorem Dj {CX:xR} {P:Program} {w:World} {K:PySem.W.Frag} {mg:Str->Option Value} {base:Heap} {k:Nat} {f:Addr} {name qual:Str} {params:Arguments} {body:List Stmt} {scope:Scope} {dV kV doc pm cdv ct oc:Value} {an od:Option Addr}
  {osl:Array (Option Value)} {N ps:List Str} {sp:Sp} (lk:K.lookup f=some ⟨oc,od,.func (PySem.W.fnOf name qual params body scope dV kV doc pm an cdv ct),osl⟩) (hcd:PySem.W.codeIn K cdv qual=true) (S:dF N ps scope)
  (len:∀ vs H Q E,sp vs H Q E->vs.length=ps.length)
  (hbody:∀ (A:Around) (outer:List Env) (s:Shared) (H:Hp) (vs:List V) (Q:VK) (E:XK),eU k (A.deeper (envOfC qual scope s.heap.objs.size f cdv))->sp vs H Q E ->
   ∃ t,jX (gP CX P w K mg base N qual scope f cdv A outer s H E) body t/\t { nx:=fun _ H'=>Q .aE H',rt:=Q } (start N vs) H) :
  eN P w K mg base CX (k+1) f (PySem.W.fnOf name qual params body scope dV kV doc pm an cdv ct) ps sp:=by
 refine ⟨len,fun A outer s H args us vs Q E hr e0 hb r G6=>?_⟩
 have hl:=len _ _ _ _ G6
 have KX:K.In s.heap:=e0.mod.IZ.keeps fun b o e=>(e0.bs b o e).1
 have lim:s.heap.NoLimit:=e0.mod.nolimit.keeps fun b o e=>(e0.bs b o e).1
 have hkind:∀ y∈ps.zip us,scope.names.lookup y.1=some .local\/(scope.names.lookup y.1=some .cell/\((cellsFrom (s.heap.objs.size+1) scope.names []).lookup y.1).isSome=true):=fun ⟨n,v⟩ hy=>by
  rcases S.par n (List.of_mem_zip hy).1 with q | q
  ·exact .inl q
  ·exact .inr ⟨q,PySem.W.cellsFrom_some _ _ _ (.inl q)⟩
 refine codeAny_call_function hr.depth (KX _ _ lk) rfl S.co S.gen rfl (PySem.W.codeRec_of KX hcd) (hb _ _ _ _ ?_)
 refine wpAny_newFunctionEnv_cells S.kind hkind fun env he s1 x=>?_
 subst he
 refine ⟨lim.keeps x.toInCall.keep,codeAny_func ?_⟩
 obtain ⟨t,ht,hq⟩:=hbody A outer s H vs Q E (hr.deeper _) G6
 have I:Inv (gP CX P w K mg base N qual scope f cdv A outer s H E) [] (start N vs) H s1:=sR S hr.hd e0 hl r x
 refine wpAny_mono (ht [] s1 (start N vs) H _ I hq) (fun fl s' hs=>?_) fun e s' hs=>hs
 have fin:∀ {σ':St} {H':Hp} {v:V} {u:Value},Inv (gP CX P w K mg base N qual scope f cdv A outer s H E) [] σ' H' s'->RelV v u->Q v H'->CE outer P w H s Q u s' :=
  fun {σ' H' v u} J rv q=>⟨v,H',J.os,J.bare,J.base,J.hok,rv,q⟩
 cases fl with
 | ret u =>
  obtain ⟨v,σ',H',J,rv,q⟩:=hs
  exact fin J rv q
 | next =>
  obtain ⟨σ',H',J,q⟩:=hs
  exact fin (v:=V.aE) (u:=Value.none) J rfl q
 | brk =>
  obtain ⟨_,_,_,q⟩:=hs
  exact False.elim q
 | cont =>
  obtain ⟨_,_,_,q⟩:=hs
  exact False.elim q
section
variable {X:Cx} {x:Str} {p pos:Pos} {e:Expr} {es:List Expr} {t:TA} {id T:String} {r:List V->Hp->VK->Prop}
noncomputable def HP (r:List V->Hp->VK->Prop) (t:TA):TE:=fun σ H Q=>t σ H fun vs H1=>r vs H1 Q
theorem gw (hc:dc X (.builtin id) r) (hg:Gl X x) (hm:X.mg x=none) (hv:bootBuiltins x=some (.builtin id)) (ha:PA X (e::es) t) (hn:x≠"__name__":=by decide) (hdb:(x == ("__debug__" : Str))=false:=by decide)
  (he:starEach (e::es) X.env=(false,eval e X.env)::starEach es X.env:=by rfl) (hpl:(backTo pos (starEach es X.env)).any (·.1)=false:=by rfl):PE X (.Call (.Name x p) (e::es) [] pos) (HP r t):=by
 intro pins s σ H Q I h
 refine wpAny_Call_Name_kw (jD I hg hm hv ?_ hn hdb)
 exact PyProof.Rows.callWith_builtin1 (bT (ha pos pins s σ H _ I h) fun us s1 ⟨vs,H1,I1,r1,q1⟩=>hc pins s1 σ H1 vs us Q I1 r1 q1) he hpl
theorem kE (hc:dc X (.type T) r) (hg:Gl X x) (hm:X.mg x=none) (hv:bootBuiltins x=some (.type T)) (ha:PA X (e::es) t) (hn:x≠"__name__":=by decide) (hdb:(x == ("__debug__" : Str))=false:=by decide)
  (he:starEach (e::es) X.env=(false,eval e X.env)::starEach es X.env:=by rfl) (hpl:(backTo pos (starEach es X.env)).any (·.1)=false:=by rfl):PE X (.Call (.Name x p) (e::es) [] pos) (HP r t):=by
 intro pins s σ H Q I h
 refine wpAny_Call_Name_kw (jD I hg hm hv ?_ hn hdb)
 exact PyProof.Rows.callWith_type1 (bT (ha pos pins s σ H _ I h) fun us s1 ⟨vs,H1,I1,r1,q1⟩=>hc pins s1 σ H1 vs us Q I1 r1 q1) he hpl
end
end L2
namespace HT
open PySem PyProof.Rows
section
open PySem.SeqAt
open PySem.AutoSeq1 (wpAny_loadPart')
open PySem.MeetsSeq PySem.MeetsSeq2 PySem.MeetsSeq3
end
section
variable {prog:Program} {w:World} {A:Around} {E:Value->Shared->Prop} {s:Shared}
theorem BQ {t b:Addr} {vs ws:List Value} {Q:Value->Shared->Prop} (ht:IsTup s.heap t vs.toArray) (hb:IsTup s.heap b ws.toArray) (hv:vs≠[])
  (h1:ws=[]->Q (.ref t) s) (h2:ws≠[]->Q (.ref s.heap.objs.size) { s with heap:=s.heap.push { cls:=.type "tuple", data:=.seq (vs++ws).toArray } })
  (hsz:vs.length+ws.length<=sizeLine):wpAny (model prog w) A (binaryOp .Add (.ref t) (.ref b)) Q E s:=by
 obtain ⟨⟨cls,dd,data,sl⟩,ho,hc,n,hd⟩:=id ht
 obtain ⟨⟨JS,dd2,data2,sl2⟩,ho2,hc2,n2,hd2⟩:=id hb
 simp only at hc hd hc2 hd2
 subst hc hd hc2 hd2
 have e:vs.toArray++ws.toArray=(vs++ws).toArray:=by simp
 by_cases hw:ws=[]
 ·exact concat_meets ⟨_,ho,rfl⟩ ⟨_,ho2,rfl⟩ noFill_tuple_add seq_tuple_add PySem.F.slot_tuple_add PySem.F.entry_tuple_add (PySem.F.args_tuple_add_2 _ _)
   (tuple_addW1 t b vs.toArray ws.toArray n n2 dd dd2 sl sl2 (by simpa using hv) (by simp [hw])) ⟨ho,ho2,h1 hw⟩
 ·refine concat_meets ⟨_,ho,rfl⟩ ⟨_,ho2,rfl⟩ noFill_tuple_add seq_tuple_add PySem.F.slot_tuple_add PySem.F.entry_tuple_add (PySem.F.args_tuple_add_2 _ _)
   (tuple_addW2 t b vs.toArray ws.toArray n n2 dd dd2 sl sl2 (by simpa using hv) (by simpa using hw) (by rw [List.size_toArray,List.size_toArray];exact hsz)) ⟨ho,ho2,?_⟩
  rw [e]
  exact h2 hw
noncomputable def cL (n d:Nat):Option Int->Nat
 | none=>d
 | some v=>if v<0 then (v+(n:Int)).toNat else min v.toNat n
theorem Ec (n d:Nat) (hd:d<=n) (o:Option Int):cL n d o<=n:=by
 cases o with
 | none=>exact hd
 | some v =>
  show (if v<0 then (v+(n:Int)).toNat else min v.toNat n)<=n
  by_cases hv:v<0
  ·rw [if_pos hv];omega
  ·rw [if_neg hv];exact Nat.min_le_right _ _
theorem rN (v:Int) (n d:Nat):(if v<0 then max (v+(n:Int)) 0 else min v (n:Int))=((cL n d (some v):Nat):Int):=by
 show (if v<0 then max (v+(n:Int)) 0 else min v (n:Int))=(((if v<0 then (v+(n:Int)).toNat else min v.toNat n):Nat):Int)
 by_cases hv:v<0
 ·simp only [if_pos hv];omega
 ·simp only [if_neg hv];omega
theorem p6 (lo hi:Option Int) (n:Nat):Builtin.Slice.sliceAdjust lo hi 1 (n:Int)=(((cL n 0 lo:Nat):Int),((cL n n hi:Nat):Int)):=by
 have h1:¬ ((1:Int)<0):=by omega
 unfold Builtin.Slice.sliceAdjust
 simp only [h1,if_false]
 refine Prod.ext ?_ ?_
 ·cases lo with
  | none=>rfl
  | some v=>exact rN v n 0
 ·cases hi with
  | none=>rfl
  | some v=>exact rN v n n
theorem oY (i j:Nat):Builtin.Slice.slicePlaces (i:Int) (j:Int) 1=j-i:=by
 unfold Builtin.Slice.slicePlaces
 have h1:(1:Int) > 0:=by omega
 simp only [h1,if_true,Int.ediv_one]
 split <;> omega
theorem jt {v:Value} {o:Option Int} {Q:Option Int->Shared->Prop} (p:IsPart v o) (h:Q o s):wpAny (model prog w) A (Builtin.Slice.slicePartIndex v) Q E s:=by
 cases p with
 | none=>exact slicePart_none h
 | int i t=>exact slicePart_int h
theorem gZ {sl:Addr} {vl vu:Value} {lo hi:Option Int} {n:Nat} {Q:Int×Int×Nat->Shared->Prop} (hs:s.heap.IsSliceOf sl vl vu .none) (pl:IsPart vl lo) (pu:IsPart vu hi)
  (h:Q (((cL n 0 lo:Nat):Int),1,cL n n hi-cL n 0 lo) s):wpAny (model prog w) A (Builtin.Slice.sliceApplied (.ref sl) (pure (n:Int))) Q E s:=by
 obtain ⟨os,hos,hcs,hds⟩:=id hs
 unfold Builtin.Slice.sliceApplied Builtin.Slice.sliceFields
 refine wpAny_bind (wpAny_bind (wpAny_field hos hds (x:=vl) rfl (wpAny_bind (wpAny_field hos hds (x:=vu) rfl (wpAny_bind (wpAny_field hos hds (x:=.none) rfl (wpAny_pure ?_)))))))
 refine wpAny_bind (slicePart_none ?_)
 show wpAny _ _ (if ((1:Int) == 0)=true then _ else _) _ _ s
 rw [if_neg (by decide)]
 refine wpAny_bind (jt pl (wpAny_bind (jt pu (wpAny_bind (wpAny_pure ?_)))))
 show wpAny _ _ (match Builtin.Slice.sliceAdjust lo hi 1 (n:Int) with | (lo,hi)=>pure (lo,(1:Int),Builtin.Slice.slicePlaces lo hi 1)) _ _ s
 rw [p6 lo hi n]
 show wpAny _ _ (pure (((cL n 0 lo:Nat):Int),(1:Int),Builtin.Slice.slicePlaces ((cL n 0 lo:Nat):Int) ((cL n n hi:Nat):Int) 1)) _ _ s
 rw [oY]
 exact wpAny_pure h
theorem uX (xs:Array Value) (i k:Nat):((List.range k).filterMap fun (m:Nat)=>xs[((i:Int)+(m:Int)*1).toNat]?).toArray=((xs.toList.drop i).take k).toArray:=by
 have e:(fun (m:Nat)=>xs[((i:Int)+(m:Int)*1).toNat]?)=fun m=>xs[i+m]?:=by
  funext m
  have:((i:Int)+(m:Int)*1).toNat=i+m:=by omega
  rw [this]
 rw [e]
 have:=pick_run xs i k
 rw [List.filterMap_map] at this
 have e2:((fun x=>xs[x]?) ∘ fun x=>i+x)=fun m=>xs[i+m]?:=rfl
 rw [e2] at this
 rw [this]
theorem gB {t sl:Addr} {items:Array Value} {vl vu:Value} {lo hi:Option Int} {Q:Value->Shared->Prop} (ht:IsTup s.heap t items) (hs:s.heap.IsSliceOf sl vl vu .none) (pl:IsPart vl lo) (pu:IsPart vu hi)
  (hw:¬ (cL items.size 0 lo=0/\cL items.size items.size hi=items.size))
  (h:Q (.ref s.heap.objs.size) { s with heap:=s.heap.push { cls:=.type "tuple", data:=.seq ((items.toList.drop (cL items.size 0 lo)).take (cL items.size items.size hi-cL items.size 0 lo)).toArray } })
  (hsz:items.size<=sizeLine):wpAny (model prog w) A (getItem (.ref t) (.ref sl)) Q E s:=by
 have qW:sizeOk (.seq ((items.toList.drop (cL items.size 0 lo)).take (cL items.size items.size hi-cL items.size 0 lo)).toArray):=by
  show ((items.toList.drop (cL items.size 0 lo)).take (cL items.size items.size hi-cL items.size 0 lo)).toArray.size<=sizeLine
  rw [List.size_toArray,List.length_take,List.length_drop,Array.length_toList]
  omega
 have hj:cL items.size items.size hi<=items.size:=Ec _ _ (Nat.le_refl _) hi
 obtain ⟨os,hos,hcs,hds⟩:=id hs
 have hTs:s.TypeIs (.ref sl) "slice":=⟨os, hos, hcs⟩
 unfold getItem
 try with_reducible refine wpAny_holding ?_
 first | refine wpAny_bind (wpAny_pure ?_) | skip
 refine wpAny_bind (wpAny_sequenceKey ht.typeIs (by decide) ?_)
 refine wpAny_bind (wpAny_callSpecial?_slot (name:=Str.ofString "__getitem__") ht.typeIs PyProof.Rows.slot_tuple_getitem
  (wpAny_call_entry PyProof.Rows.slot_tuple_getitem ht.typeIs entry_tuple_getitem ?_ (args_tuple_getitem _ _)))
 show wpAny _ _ (Builtin.Tuple.tupleItemsOf (.ref t) >>= _) _ _ s
 refine wpAny_bind (tupleItemsOf_ ht ?_)
 refine wpAny_bind (wpAny_typeOf hTs ?_)
 rw [if_pos (by decide)]
 refine wpAny_bind (gZ hs pl pu ?_)
 have hno:¬ ((((cL items.size 0 lo:Nat):Int) == 0&&(1:Int) == 1&&(cL items.size items.size hi-cL items.size 0 lo) == items.size)=true):=by
  intro q
  rw [Bool.and_eq_true,Bool.and_eq_true] at q
  have q1:((cL items.size 0 lo:Nat):Int)=0:=eq_of_beq q.1.1
  have q2:cL items.size items.size hi-cL items.size 0 lo=items.size:=eq_of_beq q.2
  exact hw ⟨by omega,by omega⟩
 show wpAny _ _ (if (((cL items.size 0 lo:Nat):Int) == 0&&(1:Int) == 1&&(cL items.size items.size hi-cL items.size 0 lo) == items.size)=true then _ else _) _ _ s
 rw [if_neg hno,uX]
 first
  | exact wpAny_bind (m:=Builtin.Tuple.tupleExact _) (wpAny_newObj_type (wpAny_pure ⟨_,rfl,wpAny_pure h⟩) qW)
  | exact wpAny_bind (m:=Builtin.Tuple.tupleExact _) (wpAny_newObj_type (wpAny_bind (wpAny_pure (wpAny_pure ⟨_,rfl,wpAny_pure h⟩))) qW)
  | exact wpAny_bind (wpAny_bind (m:=Builtin.Tuple.tupleExact _) (wpAny_newObj_type (wpAny_pure (wpAny_pure ⟨_,rfl,wpAny_pure h⟩)) qW))
  | exact wpAny_bind (wpAny_bind (m:=Builtin.Tuple.tupleExact _) (wpAny_newObj_type (wpAny_pure ⟨_,rfl,wpAny_pure h⟩) qW))
end
end HT
namespace L2
open PySem PySem.Spec PyProof.Rows
noncomputable abbrev TO:=St->Hp->(Option Int->Hp->Prop)->Prop
noncomputable def PO (X:Cx) (e:Option Expr) (t:TO):Prop :=
 ∀ (pins:List (Addr×Obj)) (s:Shared) (σ:St) (H:Hp) (Q:Option Int->Hp->Prop),Inv X pins σ H s->t σ H Q ->
  wpAny (model X.prog X.w) X.A (evalPart e X.env) (fun u s'=>∃ o H',Inv X pins σ H' s'/\IsPart u o/\Q o H') X.xe s
noncomputable def qe:TO:=fun _ H Q=>Q none H
noncomputable def Cf (t:TE):TO:=fun σ H Q=>t σ H fun x H1=>∃ i,x=.int i/\Q (some i) H1
section
variable {X:Cx} {e:Expr} {te:TE} {lo hi:Option Expr} {tl th:TO} {pos p2:Pos}
theorem zQ:PO X none qe:=by
 intro pins s σ H Q I h
 rw [evalPart_none]
 exact wpAny_pure ⟨none,H,I,.none,h⟩
theorem zP (h:PE X e te):PO X (some e) (Cf te):=by
 intro pins s σ H Q I hw
 rw [evalPart_some]
 refine bT (h pins s σ H _ I hw) fun u s1 ⟨x,H1,I1,r1,q1⟩=>?_
 obtain ⟨i,rfl,q⟩:=q1
 obtain ⟨t,rfl⟩:=r1
 exact ⟨some i,H1,I1,.int i t,q⟩
noncomputable def B3 (X:Cx) (r:V->Option Int->Option Int->Hp->VK->Prop):Prop :=
 ∀ (pins:List (Addr×Obj)) (s:Shared) (σ:St) (H:Hp) (x:V) (v vl vu:Value) (lo hi:Option Int) (sl:Addr) (Q:VK),Inv X pins σ H s->RelV x v->s.heap.IsSliceOf sl vl vu .none->IsPart vl lo->IsPart vu hi->r x lo hi H Q ->
  ∃ T id, typeLookup (.type T) "__getitem__" = pure (some (.builtin id))/\s.TypeIs v T/\wpAny (model X.prog X.w) X.A (getItem v (.ref sl)) (EP X pins σ Q) X.xe s
theorem B3.or {r r':V->Option Int->Option Int->Hp->VK->Prop} (h:B3 X r) (h':B3 X r'):B3 X (fun x lo hi H Q=>r x lo hi H Q\/r' x lo hi H Q):=by
 intro pins s σ H x v vl vu lo hi sl Q I rx hs pl pu q
 rcases q with q | q
 ·exact h pins s σ H x v vl vu lo hi sl Q I rx hs pl pu q
 ·exact h' pins s σ H x v vl vu lo hi sl Q I rx hs pl pu q
noncomputable def tSl (r:V->Option Int->Option Int->Hp->VK->Prop) (te:TE) (tl th:TO):TE:=fun σ H Q=>te σ H fun x H1=>tl σ H1 fun l H2=>th σ H2 fun u H3=>r x l u H3 Q
theorem uZ {r:V->Option Int->Option Int->Hp->VK->Prop} (hr:B3 X r) (he:PE X e te) (hl:PO X lo tl) (hu:PO X hi th):PE X (.Subscript e (.Slice lo hi none p2) pos) (tSl r te tl th):=by
 intro pins s σ H Q I h
 refine Subscript_ (bT (he pins s σ H _ I h) fun v s1 ⟨x,H1,I1,r1,q1⟩=>?_)
 refine wpAny_Slice (bT (hl pins s1 σ H1 _ I1 q1) fun vl s2 ⟨l,H2,I2,pl,q2⟩=>bT (hu pins s2 σ H2 _ I2 q2) fun vu s3 ⟨u,H3,I3,pu,q3⟩=>?_)
 rw [evalPart_none]
 refine wpAny_pure ?_
 have I4:Inv X pins σ H3 { s3 with heap:=s3.heap.push { cls:=.type "slice", data:=.fields #[vl, vu, .none] } }:=I3.kept (t':=s3.toks) fun b ob q=>Heap.get?_push_of_some _ q
 obtain ⟨T, id, hT, ht, hg⟩:=hr pins { s3 with heap:=s3.heap.push { cls:=.type "slice", data:=.fields #[vl, vu, .none] } } σ H3 x v vl vu l u s3.heap.objs.size Q I4 r1 (Heap.IsSliceOf.new ..) pl pu q3
 show wpAny (model X.prog X.w) X.A (subscriptTail e (.Slice lo hi none p2) v (.ref s3.heap.objs.size)) (EP X pins σ Q) X.xe { s3 with heap:=s3.heap.push { cls:=.type "slice", data:=.fields #[vl, vu, .none] } }
 exact tail_any (ops:=[.ref s3.heap.objs.size,v]) ht hT hg (by with_unfolding_all rfl)
noncomputable def n6 (xs:List V) (lo hi:Option Int):List V:=(xs.drop (HT.cL xs.length 0 lo)).take (HT.cL xs.length xs.length hi-HT.cL xs.length 0 lo)
theorem iP (xs:List V) (lo hi:Option Int):(n6 xs lo hi).length<=xs.length:=by
 unfold n6
 rw [List.length_take,List.length_drop]
 omega
noncomputable def Ie (K:PySem.W.Frag):V->Option Int->Option Int->Hp->VK->Prop:=fun x lo hi H Q=>∃ a xs,x=.ref a/\iH K H a xs /\
 ¬ (HT.cL xs.length 0 lo=0/\HT.cL xs.length xs.length hi=xs.length)/\∀ p,H p=none->Q (.ref p) (upd H p (.tup (n6 xs lo hi)))
theorem DU:B3 X (Ie X.K):=by
 intro pins s σ H x v vl vu lo hi sl Q I rx hs pl pu h
 obtain ⟨a,xs,rfl,hx,hw,q⟩:=h
 cases rx
 obtain ⟨its,r,ht,hz⟩:=I.tuple hx
 have hlen:its.toArray.size=xs.length:=by rw [List.size_toArray];exact r.length.symm
 refine ⟨"tuple", _, PyProof.Rows.slot_tuple_getitem.lookup, ht.typeIs, ?_⟩
 refine HT.gB ht hs pl pu (by rw [hlen];exact hw) ?_ (by rw [hlen];exact hz)
 rw [hlen]
 refine ⟨.ref s.heap.objs.size,_,I.laid (t':=s.toks) (o:=.tup (n6 xs lo hi)) (fun b ob q=>Heap.get?_push_of_some _ q) (Nat.le_refl _) ?_,rfl,q _ (I.hok.fresh (Nat.le_refl _))⟩
 exact ⟨Nat.le_trans (iP xs lo hi) hz,_,(r.drop (HT.cL xs.length 0 lo)).take (HT.cL xs.length xs.length hi-HT.cL xs.length 0 lo),IsTup.new _ _⟩
noncomputable def Cw (K:PySem.W.Frag):R2:=fun x y H Q=>∃ a b xs ys,x=.ref a/\y=.ref b/\iH K H a xs/\iH K H b ys/\xs≠[]/\xs.length+ys.length<=sizeLine /\
 (ys=[]->Q (.ref a) H)/\(ys≠[]->∀ p,H p=none->Q (.ref p) (upd H p (.tup (xs++ys))))
theorem Vals.lG {xs:List V} {us:List Value} (r:Vals xs us):us=[]↔xs=[]:=by
 cases r with
 | nil=>simp
 | cons _ _=>simp
theorem Ad:dW X (binaryOp .Add) (Cw X.K):=by
 intro pins s σ H x y v u Q I rx ry h
 obtain ⟨a,b,xs,ys,rfl,rfl,ha,hb,hx,hz,q1,q2⟩:=h
 cases rx
 cases ry
 obtain ⟨its,r1,p1,_⟩:=I.tuple ha
 obtain ⟨its2,r2,p2,_⟩:=I.tuple hb
 refine HT.BQ p1 p2 (fun z=>hx (r1.lG.mp z)) (fun z=>⟨.ref a,H,I,rfl,q1 (r2.lG.mp z)⟩) (fun z=>?_) (by rw [<- r1.length,<- r2.length];exact hz)
 refine ⟨.ref s.heap.objs.size,_,I.laid (t':=s.toks) (o:=.tup (xs++ys)) (fun b ob q=>Heap.get?_push_of_some _ q) (Nat.le_refl _) ?_,rfl,q2 (fun w=>z (r2.lG.mpr w)) _ (I.hok.fresh (Nat.le_refl _))⟩
 exact ⟨by rw [List.length_append];exact hz,_,r1.append r2,IsTup.new _ _⟩
end
noncomputable def G5 (n:Nat) (i:Int):Option Nat:=if 0<=i then (if i<n then some i.toNat else none) else if -(n:Int)<=i then some (i+n).toNat else none
noncomputable def GV {α:Type} (xs:List α) (i:Int):Option α:=(G5 xs.length i).bind fun j=>xs[j]?
theorem qR {n:Nat} {i:Int} {j:Nat} (h:G5 n i=some j):seqIndex? i n=some j/\j<n/\-(n:Int)<=i/\i<n:=by
 unfold G5 at h
 by_cases h0:0<=i
 ·rw [if_pos h0] at h
  by_cases h1:i<n
  ·rw [if_pos h1] at h
   have e:i.toNat=j:=Option.some.inj h
   exact ⟨by rw [seqIndex_of h0 h1,e],by omega,by omega,h1⟩
  ·rw [if_neg h1] at h;cases h
 ·rw [if_neg h0] at h
  by_cases h1:-(n:Int)<=i
  ·rw [if_pos h1] at h
   have e:(i+n).toNat=j:=Option.some.inj h
   exact ⟨by rw [seqIndex_neg (by omega) h1,e],by omega,h1,by omega⟩
  ·rw [if_neg h1] at h;cases h
theorem mF {α:Type} {xs:List α} {i:Int} {v:α} (h:GV xs i=some v):∃ j,seqIndex? i xs.length=some j/\xs[j]? = some v/\j<xs.length/\-(xs.length:Int)<=i/\i<xs.length:=by
 unfold GV at h
 cases e:G5 xs.length i with
 | none=>rw [e] at h;cases h
 | some j =>
  rw [e] at h
  obtain ⟨h1,h2,h3,h4⟩:=qR e
  exact ⟨j,h1,h,h2,h3,h4⟩
noncomputable def rX (b:Expr):Prop:=∀ o i,subscripted b false o i=operate [o,i] (getItem o i)
noncomputable def yY (X:Cx) (r:R2):Prop :=
 ∀ (value slice:Expr) (pins:List (Addr×Obj)) (s:Shared) (σ:St) (H:Hp) (x y:V) (v u:Value) (Q:VK),Inv X pins σ H s->RelV x v->RelV y u->r x y H Q ->
  subscripted slice false v u=operate [v,u] (getItem v u)->wpAny (model X.prog X.w) X.A (subscriptTail value slice v u) (EP X pins σ Q) X.xe s
noncomputable def MtR (X:Cx) (id:String) (r:V->List V->Hp->VK->Prop):Prop :=
 ∀ (pins:List (Addr×Obj)) (s:Shared) (σ:St) (H:Hp) (x:V) (xs:List V) (v:Value) (us:List Value) (Q:VK),Inv X pins σ H s->RelV x v->Vals xs us->r x xs H Q ->
  wpAny (model X.prog X.w) X.A (call (.builtin id) (v::us)) (EP X pins σ Q) X.xe s
section
variable {X:Cx} {a b:Expr} {ta tb:TE} {pos:Pos}
theorem yY.or {r r':R2} (h:yY X r) (h':yY X r'):yY X (fun x y H Q=>r x y H Q\/r' x y H Q):=by
 intro value slice pins s σ H x y v u Q I rx ry q hs
 rcases q with q | q
 ·exact h value slice pins s σ H x y v u Q I rx ry q hs
 ·exact h' value slice pins s σ H x y v u Q I rx ry q hs
theorem IA {r:R2} (hr:yY X r) (ha:PE X a ta) (hb:PE X b tb) (hs:rX b):PE X (.Subscript a b pos) (DQ r ta tb):=by
 intro pins s σ H Q I h
 exact Subscript_ (GU ha hb I h fun v u s2 x y H2 I2 rx ry q=>hr a b pins s2 σ H2 x y v u Q I2 rx ry q (hs _ _))
noncomputable def Il (K:PySem.W.Frag):R2:=fun x y H Q=>∃ p xs i v,x=.ref p/\y=.int i/\fU K H p xs/\GV xs i=some v/\Q v H
noncomputable def Ij (K:PySem.W.Frag):R2:=fun x y H Q=>∃ p xs i v,x=.ref p/\y=.int i/\iH K H p xs/\GV xs i=some v/\Q v H
noncomputable def Ik:R2:=fun x y H Q=>∃ z i c,x=.str z/\y=.int i/\z.length<=sizeLine/\GV z.cps.toList i=some c/\Q (.str ⟨#[c]⟩) H
theorem Bw:yY X (Il X.K):=by
 intro value slice pins s σ H x y v u Q I rx ry h hs
 obtain ⟨p,xs,i,z,rfl,rfl,hq,he,q⟩:=h
 cases rx
 obtain ⟨t,rfl⟩:=ry
 obtain ⟨its,r,pl,hz⟩:=I.list hq
 obtain ⟨j,h1,h2,h3,h4,h5⟩:=mF he
 obtain ⟨w,ew,rw'⟩:=r.get h2
 have hl:=r.length
 have hn:=g8
 have fin:EP X pins σ Q w s:=⟨z,H,I,rw',q⟩
 by_cases h0:0<=i
 ·have hj:i.toNat=j:=by
   rw [seqIndex_of h0 h5] at h1
   exact Option.some.inj h1
  exact item_listR pl.isList h0 (by omega) (by rw [hj];simpa using ew) fin hs
 ·have hj:(i+(its.toArray.size:Int)).toNat=j:=by
   rw [seqIndex_neg (by omega) h4] at h1
   rw [List.size_toArray,<- hl]
   exact Option.some.inj h1
  exact subscriptTail_builtinR (x:=w) pl.isList.typeIs slot_list_getitem.lookup
   (wpAny_getItem_list_neg (Q:=fun r s'=>r=w/\EP X pins σ Q r s') pl.isList (by omega) (by rw [List.size_toArray] <;> omega) (by omega) (by rw [hj];simpa using ew) ⟨rfl,fin⟩) hs
theorem Gp:yY X (Ij X.K):=by
 intro value slice pins s σ H x y v u Q I rx ry h hs
 obtain ⟨p,xs,i,z,rfl,rfl,hq,he,q⟩:=h
 cases rx
 obtain ⟨t,rfl⟩:=ry
 obtain ⟨its,r,pl,hz⟩:=I.tuple hq
 obtain ⟨j,h1,h2,h3,h4,h5⟩:=mF he
 obtain ⟨w,ew,rw'⟩:=r.get h2
 have hl:=r.length
 have hn:=g8
 have fin:EP X pins σ Q w s:=⟨z,H,I,rw',q⟩
 exact subscriptTail_builtinR (x:=w) pl.typeIs slot_tuple_getitem.lookup
  (getItem_tuple (j:=j) (Q:=fun r s'=>r=w/\EP X pins σ Q r s') pl (by omega) (by omega) (by rw [List.size_toArray,<- hl];exact h1) (by simpa using ew) ⟨rfl,fin⟩) hs
theorem Gq:yY X Ik:=by
 intro value slice pins s σ H x y v u Q I rx ry h hs
 obtain ⟨z,i,c,rfl,rfl,hz,he,q⟩:=h
 obtain ⟨t,rfl⟩:=rx
 obtain ⟨t',rfl⟩:=ry
 obtain ⟨j,h1,h2,h3,h4,h5⟩:=mF he
 have hl:z.cps.toList.length=z.length:=by simp [Str.length]
 rw [hl] at h1 h4 h5
 have hn:=g8
 exact tail_any (typeIs_str s z t) slot_str_getitem.lookup (getItem_str (c:=c) (by
  have e1:decide (i < -(2 ^ 63:Int))=false:=decide_eq_false (by omega)
  have e2:decide (i ≥ 2 ^ 63)=false:=decide_eq_false (by omega)
  rw [e1,e2,Bool.or_false]) (by rw [h1];simpa using h2) ⟨.str ⟨#[c]⟩,H,I.tok _,⟨_,rfl⟩,q⟩) hs
theorem pA (its:List Value) (n j:Nat) (u:Value):Obj.mapSeq (·.setIfInBounds j u) { cls:=.type "list", data:=.seq its.toArray n }={ cls:=.type "list", data:=.seq (its.set j u).toArray n }:=by
 simp [Obj.mapSeq]
theorem Inv.lst {pins:List (Addr×Obj)} {σ:St} {H:Hp} {s:Shared} {p:Addr} {xs:List V} (I:Inv X pins σ H s) (h:H p=some (.lst xs)) :
  ∃ (its:List Value) (n:Nat), Vals xs its/\s.heap.get? p=some { cls:=.type "list", data:=.seq its.toArray n }/\xs.length<=sizeLine:=by
 obtain ⟨z,its,n,r,e⟩:=I.hok p _ h
 exact ⟨its,n,r,e,z⟩
theorem Inv.Fp {pins:List (Addr×Obj)} {σ:St} {H:Hp} {s:Shared} {p:Addr} {xs ys:List V} {its its':List Value} {n n':Nat} {f:Obj->Obj} (I:Inv X pins σ H s) (h:H p=some (.lst xs))
  (ho:s.heap.get? p=some { cls:=.type "list", data:=.seq its.toArray n }) (hf:f { cls:=.type "list", data:=.seq its.toArray n }={ cls:=.type "list", data:=.seq its'.toArray n' }) (r:Vals ys its') (hz:ys.length<=sizeLine) (t:Nat) :
  Inv X pins σ (upd H p (.lst ys)) { s with heap:=s.heap.update p f,toks:=t }:=by
 have e:(s.heap.update p f).get? p=some { cls:=.type "list", data:=.seq its'.toArray n' }:=by
  rw [Heap.get?_update_self f ho (by rw [hf] <;> rfl),hf]
 refine I.write (x:=p) (e:=p) (by rw [h];trivial) (.inl rfl) (fun b u hb q=>(Heap.get?_update_other _ _ (Ne.symm hb)).trans q) ⟨_,e⟩ ?_
 exact ⟨hz,its',n',r,e⟩
noncomputable def Cs:V->V->V->Hp->(Hp->Prop)->Prop:=fun o i v H Q=>∃ p xs k j,o=.ref p/\i=.int k/\H p=some (.lst xs)/\G5 xs.length k=some j/\Q (upd H p (.lst (xs.set j v)))
theorem set_list:PSet X Cs:=by
 intro pins s σ H o i v ov iv u Q I ro ri rv h
 obtain ⟨p,xs,k,j,rfl,rfl,hp,hj,q⟩:=h
 cases ro
 obtain ⟨t,rfl⟩:=ri
 obtain ⟨its,n,r,ho,hz⟩:=I.lst hp
 obtain ⟨h1,h2,h3,h4⟩:=qR hj
 have hl:=r.length
 have hn:=g8
 have I':Inv X pins σ (upd H p (.lst (xs.set j v))) { s with heap:=s.heap.update p (Obj.mapSeq (·.setIfInBounds j u)) } :=
  I.Fp hp ho (pA its n j u) (r.set rv j) (by rw [List.length_set];exact hz) s.toks
 by_cases h0:0<=k
 ·have hk:k.toNat=j:=by
   rw [seqIndex_of h0 h4] at h1
   exact Option.some.inj h1
  exact PySem.W.ki_setAt ho h0 (by omega) (by rw [List.size_toArray,<- hl];exact h4) (by rw [hk];exact ⟨_,I',q⟩)
 ·have hk:(k+(its.toArray.size:Int)).toNat=j:=by
   rw [seqIndex_neg (by omega) h3] at h1
   rw [List.size_toArray,<- hl]
   exact Option.some.inj h1
  exact PySem.W.ki_setBack ho (by omega) (by rw [List.size_toArray,<- hl];exact h3) (by omega) (by rw [hk];exact ⟨_,I',q⟩)
theorem lA (lo hi:Option Int) (n:Nat):(sliceBounds lo hi none n).1=((HT.cL n 0 lo:Nat):Int)/\(sliceBounds lo hi none n).2.1=((HT.cL n n hi:Nat):Int)/\(sliceBounds lo hi none n).2.2=1:=by
 refine ⟨?_,?_,rfl⟩
 ·cases lo with
  | none=>simp [sliceBounds,HT.cL]
  | some i =>
   simp only [sliceBounds,HT.cL,Option.getD_none,show (1:Int) > 0 by decide,if_true]
   by_cases h:i<0
   ·simp only [h,if_true] <;> omega
   ·simp only [h,if_false] <;> omega
 ·cases hi with
  | none=>simp [sliceBounds,HT.cL]
  | some i =>
   simp only [sliceBounds,HT.cL,Option.getD_none,show (1:Int) > 0 by decide,if_true]
   by_cases h:i<0
   ·simp only [h,if_true] <;> omega
   ·simp only [h,if_false] <;> omega
theorem j0 (its:List Value) (lo hi:Option Int):slicePick its.toArray lo hi none=((its.drop (HT.cL its.length 0 lo)).take (HT.cL its.length its.length hi-HT.cL its.length 0 lo)).toArray:=by
 obtain ⟨h1,h2,h3⟩:=lA lo hi its.toArray.size
 unfold slicePick
 rw [h1,h2,h3]
 simp only [sliceRange_one,pick_run,List.size_toArray] <;> rfl
noncomputable def Ih (K:PySem.W.Frag):V->Option Int->Option Int->Hp->VK->Prop:=fun x lo hi H Q=>∃ a xs,x=.ref a/\fU K H a xs/\∀ p,H p=none->Q (.ref p) (upd H p (.lst (n6 xs lo hi)))
theorem i6:B3 X (Ih X.K):=by
 intro pins s σ H x v vl vu lo hi sl Q I rx hs pl pu h
 obtain ⟨a,xs,rfl,hx,q⟩:=h
 cases rx
 obtain ⟨its,r,ht,hz⟩:=I.list hx
 have hlen:=r.length
 refine ⟨"list", _, slot_list_getitem.lookup, ht.isList.typeIs, ?_⟩
 refine wpAny_getItem_list_slice ht.isList hs pl pu .none (by simp) ?_ (by rw [List.size_toArray] <;> omega)
 rw [j0,<- hlen]
 refine ⟨.ref s.heap.objs.size,_,I.laid (t':=s.toks) (o:=.lst (n6 xs lo hi)) (fun b ob q=>Heap.get?_push_of_some _ q) (Nat.le_refl _) ?_,rfl,q _ (I.hok.fresh (Nat.le_refl _))⟩
 exact ⟨Nat.le_trans (iP xs lo hi) hz,_,0,(r.drop (HT.cL xs.length 0 lo)).take (HT.cL xs.length xs.length hi-HT.cL xs.length 0 lo),Heap.get?_push_size _ rfl⟩
noncomputable def fS:V->Bool
 | .aE=>true
 | .bl _=>true
 | .int _=>true
 | .str _=>true
 | _=>false
noncomputable def yT:V->V->Bool
 | .aE,.aE=>true
 | .bl a,.bl b=>a == b
 | .bl a,.int b=>(if a then 1 else 0) == b
 | .int a,.bl b=>a == (if b then 1 else 0)
 | .int a,.int b=>a == b
 | .str a,.str b=>a == b
 | _,_=>false
theorem GJ {A:Around} {s:Shared} {y x:V} {u v:Value} (ry:RelV y u) (rx:RelV x v) (fy:fS y=true) (fx:fS x=true):SeqAt.EqAt A s u v (yT y x):=by
 cases y with
 | aE =>
  cases ry
  cases x with
  | aE=>cases rx;exact SeqAt.EqAt.same _
  | bl b=>cases rx;exact SeqAt.EqAt.none_bool b
  | int b=>obtain ⟨t,rfl⟩:=rx;exact SeqAt.EqAt.none_int b t
  | str b=>obtain ⟨t,rfl⟩:=rx;exact SeqAt.EqAt.none_str b t
  | _=>exact absurd (show false=true from fx) Bool.false_ne_true
 | bl a =>
  cases ry
  cases x with
  | aE=>cases rx;exact SeqAt.EqAt.bool_none a
  | bl b=>cases rx;exact SeqAt.EqAt.bool_bool a b
  | int b=>obtain ⟨t,rfl⟩:=rx;exact SeqAt.EqAt.bool_int a b t
  | str b=>obtain ⟨t,rfl⟩:=rx;exact SeqAt.EqAt.bool_str a b t
  | _=>exact absurd (show false=true from fx) Bool.false_ne_true
 | int a =>
  obtain ⟨t',rfl⟩:=ry
  cases x with
  | aE=>cases rx;exact SeqAt.EqAt.int_none a t'
  | bl b=>cases rx;exact SeqAt.EqAt.int_bool a t' b
  | int b=>obtain ⟨t,rfl⟩:=rx;exact SeqAt.EqAt.int_int a t' b t
  | str b=>obtain ⟨t,rfl⟩:=rx;exact SeqAt.EqAt.int_str a t' b t
  | _=>exact absurd (show false=true from fx) Bool.false_ne_true
 | str a =>
  obtain ⟨t',rfl⟩:=ry
  cases x with
  | aE=>cases rx;exact SeqAt.EqAt.str_none a t'
  | bl b=>cases rx;exact SeqAt.EqAt.str_bool a t' b
  | int b=>obtain ⟨t,rfl⟩:=rx;exact SeqAt.EqAt.str_int a t' b t
  | str b=>obtain ⟨t,rfl⟩:=rx;exact SeqAt.EqAt.str_str a t' b t
  | _=>exact absurd (show false=true from fx) Bool.false_ne_true
 | _=>exact absurd (show false=true from fy) Bool.false_ne_true
noncomputable def pQ (x:V) (u:Value):Bool:=match u with
 | .none=>yT .aE x
 | .bool b=>yT (.bl b) x
 | .int i _=>yT (.int i) x
 | .str z _=>yT (.str z) x
 | _=>false
theorem w5 {x y:V} {u:Value} (r:RelV y u) (f:fS y=true):pQ x u=yT y x:=by
 cases y with
 | aE=>cases r;rfl
 | bl b=>cases r;rfl
 | int i=>obtain ⟨t,rfl⟩:=r;rfl
 | str z=>obtain ⟨t,rfl⟩:=r;rfl
 | _=>exact absurd (show false=true from f) Bool.false_ne_true
theorem gU {x:V}:∀ {xs:List V} {us:List Value},Vals xs us->xs.all fS=true->us.any (pQ x)=xs.any fun y=>yT y x
 | _,_,.nil,_=>rfl
 | y::xs,u::us,.cons r t,f=>by
  rw [List.all_cons,Bool.and_eq_true] at f
  rw [List.any_cons,List.any_cons,w5 r f.1,gU t f.2]
theorem eZ {A:Around} {s:Shared} {x:V} {v:Value} (rx:RelV x v) (fx:fS x=true):∀ {xs:List V} {us:List Value},Vals xs us->xs.all fS=true->∀ u∈us,SeqAt.EqAt A s u v (pQ x u)
 | _,_,.nil,_=>fun u hu=>by cases hu
 | y::xs,u::us,.cons r t,f=>fun u' hu=>by
  rw [List.all_cons,Bool.and_eq_true] at f
  rcases List.mem_cons.mp hu with rfl | hu
  ·rw [w5 r f.1];exact GJ r rx f.1 fx
  ·exact eZ rx fx t f.2 u' hu
noncomputable def Jj (x:V) (xs:List V):Bool:=xs.any fun y=>yT y x
noncomputable def Ip (K:PySem.W.Frag) (neg:Bool):R2:=fun x y H Q=>∃ p xs,y=.ref p/\(fU K H p xs\/iH K H p xs)/\fS x=true/\xs.all fS=true/\Q (.bl (if neg then !Jj x xs else Jj x xs)) H
theorem sG:dW X (compareOp .In) (Ip X.K false):=by
 intro pins s σ H x y v u Q I rx ry h
 obtain ⟨p,xs,rfl,hq,fx,fs,q⟩:=h
 cases ry
 rcases hq with hq | hq
 ·obtain ⟨its,r,pl,hz⟩:=I.list hq
  refine SeqAt.in_listAt (pQ x) pl.isList (fun w hw=>eZ rx fx r fs w (by simpa using hw)) ⟨.bl _,H,I,rfl,?_⟩
  rw [show its.toArray.any (pQ x)=its.any (pQ x) by simp,gU r fs]
  exact q
 ·obtain ⟨its,r,pl,hz⟩:=I.tuple hq
  refine SeqAt.in_tupleAt (pQ x) pl (fun w hw=>eZ rx fx r fs w (by simpa using hw)) ⟨.bl _,H,I,rfl,?_⟩
  rw [show its.toArray.any (pQ x)=its.any (pQ x) by simp,gU r fs]
  exact q
theorem lE:dW X (compareOp .NotIn) (Ip X.K true):=by
 intro pins s σ H x y v u Q I rx ry h
 obtain ⟨p,xs,rfl,hq,fx,fs,q⟩:=h
 cases ry
 rcases hq with hq | hq
 ·obtain ⟨its,r,pl,hz⟩:=I.list hq
  refine SeqAt.notIn_listAt (pQ x) pl.isList (fun w hw=>eZ rx fx r fs w (by simpa using hw)) ⟨.bl _,H,I,rfl,?_⟩
  rw [show its.toArray.any (pQ x)=its.any (pQ x) by simp,gU r fs]
  exact q
 ·obtain ⟨its,r,pl,hz⟩:=I.tuple hq
  refine SeqAt.notIn_tupleAt (pQ x) pl (fun w hw=>eZ rx fx r fs w (by simpa using hw)) ⟨.bl _,H,I,rfl,?_⟩
  rw [show its.toArray.any (pQ x)=its.any (pQ x) by simp,gU r fs]
  exact q
theorem mC:dc X (.builtin "len") (fun xs H Q=>∃ p ys, xs=[.ref p]/\(fU X.K H p ys\/iH X.K H p ys)/\Q (.int ys.length) H):=by
 intro pins s σ H xs us Q I r h
 obtain ⟨p,ys,rfl,hq,q⟩:=h
 obtain ⟨u,rfl,rx⟩:=vals1 r
 cases rx
 have hn:=g8
 rcases hq with hq | hq
 ·obtain ⟨its,r',pl,hz⟩:=I.list hq
  have hlen:=r'.length
  exact Calls.call_len_list pl.isList (by simp only [List.size_toArray] <;> omega) ⟨.int ys.length,H,I.tok _,⟨s.toks+1,by rw [List.size_toArray,hlen]⟩,q⟩
 ·obtain ⟨its,r',pl,hz⟩:=I.tuple hq
  have hlen:=r'.length
  exact len_tuple pl (by simp only [List.size_toArray] <;> omega) ⟨.int ys.length,H,I.tok _,⟨s.toks+1,by rw [List.size_toArray,hlen]⟩,q⟩
theorem mz:dc X (.builtin "len") (fun xs H Q=>∃ z, xs=[.str z]/\z.length<=sizeLine/\Q (.int z.length) H):=by
 intro pins s σ H xs us Q I r h
 obtain ⟨z,rfl,hz,q⟩:=h
 obtain ⟨u,rfl,t,rfl⟩:=vals1 r
 have hn:=g8
 exact len_str (by omega) ⟨.int z.length,H,I.tok _,⟨_,rfl⟩,q⟩
theorem dc.or {f:Value} {r r':List V->Hp->VK->Prop} (h:dc X f r) (h':dc X f r'):dc X f (fun xs H Q=>r xs H Q\/r' xs H Q):=by
 intro pins s σ H xs us Q I rs q
 rcases q with q | q
 ·exact h pins s σ H xs us Q I rs q
 ·exact h' pins s σ H xs us Q I rs q
theorem j8:dc X (.type "tuple") (fun xs H Q=>∃ p ys, xs=[.ref p]/\((fU X.K H p ys/\∀ l, H l=none->Q (.ref l) (upd H l (.tup ys)))\/(iH X.K H p ys/\Q (.ref p) H))):=by
 intro pins s σ H xs us Q I r h
 obtain ⟨p,ys,rfl,h⟩:=h
 obtain ⟨u,rfl,rx⟩:=vals1 r
 cases rx
 rcases h with ⟨hq,q⟩ | ⟨hq,q⟩
 ·obtain ⟨its,r',pl,hz⟩:=I.list hq
  have hlen:=r'.length
  refine call_tuple_list pl.isList (fun h' kp=>?_) (by simp only [List.size_toArray] <;> omega)
  have I1:Inv X pins σ H { s with heap:=h' }:=I.kept (t':=s.toks) kp
  have I2:Inv X pins σ (upd H h'.objs.size (.tup ys)) { s with heap:=h'.push { cls:=.type "tuple", data:=.seq its.toArray } } :=
   I1.laid (t':=s.toks) (fun b o e=>Heap.get?_push_of_some _ e) (Nat.le_refl _) (show bF X.prog X.w _ _ _ (.tup ys) from ⟨hz,its,r',IsTup.new _ _⟩)
  exact ⟨.ref h'.objs.size,_,I2,rfl,q _ (I1.hok.fresh (Nat.le_refl _))⟩
 ·obtain ⟨its,r',pl,hz⟩:=I.tuple hq
  exact call_tuple_same pl ⟨.ref p,H,I,rfl,q⟩
noncomputable def Kl (K:PySem.W.Frag) (T:String) (x:V) (H:Hp):Prop:=match x with
 | .str _=>T = "str"
 | .int _=>T = "int"
 | .ref p=>(T = "list"/\∃ xs, fU K H p xs)\/(T = "tuple"/\∃ o, K.lookup p=some o/\o.cls=.type "tuple"/\o.dict=none) \/
   (T = "dict"/\((∃ kvs, H p=some (.dK kvs))\/∃ kvs, H p=some (.dT kvs)))\/(T = "set"/\∃ S n, H p=some (.set S n))
 | _=>False
theorem ue {pins:List (Addr×Obj)} {σ:St} {H:Hp} {s:Shared} {T:String} {x:V} {v:Value} (I:Inv X pins σ H s) (r:RelV x v) (ty:Kl X.K T x H) :
  s.TypeIs v T/\∀ a,v=.ref a->∃ ob,s.heap.get? a=some ob/\ob.dict=none:=by
 cases x with
 | str z =>
  obtain ⟨t,rfl⟩:=r
  cases (show T = "str" from ty)
  exact ⟨typeIs_str s z t,fun _ e=>nomatch e⟩
 | int i =>
  obtain ⟨t,rfl⟩:=r
  cases (show T = "int" from ty)
  exact ⟨typeIs_int s i t,fun _ e=>nomatch e⟩
 | ref p =>
  cases r
  rcases ty with ⟨rfl,xs,hq⟩ | ⟨rfl,o,hk,hc,hd⟩ | ⟨rfl,hk⟩ | ⟨rfl,S,n,hk⟩
  ·obtain ⟨its,_,pl,_⟩:=I.list hq
   refine ⟨pl.isList.typeIs,fun a e=>?_⟩
   cases e
   obtain ⟨o,n,e,c,hd,_⟩:=pl
   exact ⟨o,e,hd⟩
  ·refine ⟨⟨o,I.kN p o hk,hc⟩,fun a e=>?_⟩
   cases e
   exact ⟨o,I.kN _ o hk,hd⟩
  ·have z:∃ o,s.heap.get? p=some o/\o.ExactDict:=by
    rcases hk with ⟨kvs,hk⟩ | ⟨kvs,hk⟩
    ·obtain ⟨_,_,_,_,o,_,_,e,ex,_⟩:=I.hok p _ hk
     exact ⟨o,e,ex⟩
    ·obtain ⟨_,_,_,_,o,_,_,e,ex,_⟩:=I.hok p _ hk
     exact ⟨o,e,ex⟩
   obtain ⟨o,e,ex⟩:=z
   refine ⟨⟨o,e,ex.1⟩,fun a e2=>?_⟩
   cases e2
   exact ⟨o,e,ex.2.1⟩
  ·obtain ⟨o,_,_,_,e,ex,_⟩:=I.hok p _ hk
   refine ⟨⟨o,e,ex.1⟩,fun a e2=>?_⟩
   cases e2
   exact ⟨o,e,ex.2.1⟩
 | _=>exact False.elim ty
noncomputable def DR (K:PySem.W.Frag) (T:String) (r:V->List V->Hp->VK->Prop) (to:TE):TE:=fun σ H Q=>to σ H fun x H1=>Kl K T x H1/\r x [] H1 Q
noncomputable def tBM (K:PySem.W.Frag) (T:String) (r:V->List V->Hp->VK->Prop) (to:TE) (t:TA):TE:=fun σ H Q=>to σ H fun x H1=>Kl K T x H1/\t σ H1 fun xs H2=>r x xs H2 Q
variable {o e:Expr} {es:List Expr} {to:TE} {t:TA} {name:Str} {apos cpos:Pos} {T id:String} {r:V->List V->Hp->VK->Prop}
theorem EN (pa:PlainAttrs T) (slot:Slot T name id) (hty:typeOf (.builtin id)=pure (.type "method_descriptor")) (hm:MtR X id r) (ho:PE X o to)
  (hbase:attributeBase o name X.env (eval o X.env)=eval o X.env:=by rfl) (hline:(apos.endLine == cpos.line)=true:=by rfl):PE X (.Call (.Attribute o name apos) [] [] cpos) (DR X.K T r to):=by
 intro pins s σ H Q I h
 refine wpAny_Call_method0_late hbase hline (bT (ho pins s σ H _ I h) fun v s1 ⟨x,H1,I1,r1,ty,q1⟩=>?_)
 obtain ⟨h1,h2⟩:=ue I1 r1 ty
 exact ⟨T,id,pa,slot,hty,h1,h2,Calls.callWith_builtin rfl (PySem.evalArgs_none (hm pins s1 σ H1 x [] v [] Q I1 r1 .nil q1))⟩
theorem Cz (pa:PlainAttrs T) (slot:Slot T name id) (hty:typeOf (.builtin id)=pure (.type "method_descriptor")) (hm:MtR X id r) (ho:PE X o to) (ha:PA X (e::es) t)
  (hbase:attributeBase o name X.env (eval o X.env)=eval o X.env:=by rfl)
  (hfew:((backTo cpos (starEach (e::es) X.env)).all (fun x=>!x.1)&&(backToKw cpos (keywordEach [] X.env)).all (fun x=>x.1.isSome)
  &&decide ((e::es).length+([]:List Keyword).length+(if ([]:List Keyword).isEmpty then 0 else 1)<30))=true:=by rfl)
  (hline:(apos.endLine == cpos.line)=true:=by rfl) (hs:starEach (e::es) X.env=(false,eval e X.env)::starEach es X.env:=by rfl) (hplain:(backTo cpos (starEach es X.env)).any (·.1)=false:=by rfl) :
  PE X (.Call (.Attribute o name apos) (e::es) [] cpos) (tBM X.K T r to t):=by
 intro pins s σ H Q I h
 refine wpAny_Call_method_late hbase hfew hline rfl (bT (ho pins s σ H _ I h) fun v s1 ⟨x,H1,I1,r1,ty,q1⟩=>?_)
 obtain ⟨h1,h2⟩:=ue I1 r1 ty
 refine ⟨T,id,pa,slot,hty,h1,h2,?_⟩
 have hA:=ha cpos pins s1 σ H1 _ I1 q1
 rw [hs] at hA ⊢
 refine Calls.callWith_builtin (by show (false||(backTo cpos (starEach es X.env)).any (·.1))=false;rw [hplain] <;> rfl) (Calls.evalArgs_plain ?_)
 exact bT hA fun us s2 ⟨vs,H2,I2,r2,q2⟩=>hm pins s2 σ H2 x vs v us Q I2 r1 r2 q2
end
noncomputable def MtM (X:Cx) (id:String) (r:V->List V->Hp->VK->Prop):Prop :=
 ∀ (pins:List (Addr×Obj)) (s:Shared) (σ:St) (H:Hp) (x:V) (xs:List V) (v:Value) (us:List Value) (Q:VK),Inv X pins σ H s->RelV x v->Vals xs us->r x xs H Q ->
  wpAny (model X.prog X.w) X.A (call (.builtin id) (v::us)) (EP X pins σ Q) X.xe s
theorem Vals.one:∀ {x:V} {us:List Value},Vals [x] us->∃ u,us=[u]/\RelV x u
 | _,_,.cons r .nil=>⟨_,rfl,r⟩
theorem Vals.zero:∀ {us:List Value},Vals [] us->us=[]
 | _,.nil=>rfl
theorem Vals.dropLast {xs:List V} {us:List Value} (h:Vals xs us):Vals xs.dropLast us.dropLast:=by
 induction h with
 | nil=>exact .nil
 | cons r t ih =>
  cases t with
  | nil=>exact .nil
  | cons q t'=>exact .cons r ih
theorem Vals.reverse {xs:List V} {us:List Value} (h:Vals xs us):Vals xs.reverse us.reverse:=by
 induction h with
 | nil=>exact .nil
 | cons r t ih=>rw [List.reverse_cons,List.reverse_cons];exact Vals.append ih (.cons r .nil)
theorem pP {α:Type} (l:List α):l.eraseIdx (l.length-1)=l.dropLast:=by
 induction l with
 | nil=>rfl
 | cons a r ih =>
  cases r with
  | nil=>rfl
  | cons b r =>
   have e:(a::b::r).length-1=((b::r).length-1)+1:=by
    have h1:(a::b::r).length=r.length+2:=rfl
    have h2:(b::r).length=r.length+1:=rfl
    omega
   rw [e,List.eraseIdx_cons_succ,ih]
   all_goals rfl
section
variable {X:Cx} {pins:List (Addr×Obj)} {σ:St} {H:Hp} {s:Shared} {l b:Addr} {xs ys zs:List V}
theorem Inv.Ft {its its':List Value} {n:Nat} {f:Array Value->Array Value} {t':Nat} (I:Inv X pins σ H s) (hH:H l=some (.lst xs))
  (e:s.heap.get? l=some { cls:=.type "list", data:=.seq its.toArray n }) (hf:f its.toArray=its'.toArray) (hv:Vals ys its') (hz:ys.length<=sizeLine) :
  Inv X pins σ (upd H l (.lst ys)) { s with heap:=s.heap.update l (Obj.mapSeq f),toks:=t' }:=by
 have q:=PySem.IsL.update e f
 rw [hf] at q
 refine I.write (x:=l) (e:=l) (by rw [hH];exact trivial) (.inl rfl) (fun b' u hb hu=>(Heap.get?_update_other s.heap (Obj.mapSeq f) (Ne.symm hb)).trans hu) ⟨_,q⟩ ?_
 exact ⟨hz,its',_,hv,q⟩
theorem Inv.IY {its:List Value} {t':Nat} (I:Inv X pins σ H s) (hv:Vals ys its) (hz:ys.length<=sizeLine) :
  Inv X pins σ (upd H s.heap.objs.size (.lst ys)) { s with heap:=s.heap.push { cls:=.type "list", data:=.seq its.toArray }, toks:=t' } :=
 I.laid (fun _ _ q=>Heap.get?_push_of_some _ q) (Nat.le_refl _) ⟨hz,its,0,hv,Heap.get?_push_size _ rfl⟩
theorem Inv.fresh (I:Inv X pins σ H s):H s.heap.objs.size=none:=I.hok.fresh (Nat.le_refl _)
theorem Inv.Fq (I:Inv X pins σ H s) (hH:H l=some (.lst xs)):xs.length<=sizeLine/\∃ (its:List Value) (n:Nat), Vals xs its/\xs.length=its.length/\s.heap.get? l=some { cls:=.type "list", data:=.seq its.toArray n }:=by
 obtain ⟨z,its,n,r,e⟩:=I.hok l _ hH
 exact ⟨z,its,n,r,r.length,e⟩
theorem vh {n:Nat} (h:n<=sizeLine):Builtin.List.listTooLong n=false:=by
 unfold Builtin.List.listTooLong
 exact decide_eq_false (by omega)
end
section
variable {X:Cx}
noncomputable def lC:V->List V->Hp->VK->Prop:=fun x vs H Q=>∃ l xs y,x=.ref l/\vs=[y]/\H l=some (.lst xs)/\xs.length<sizeLine/\Q .aE (upd H l (.lst (xs++[y])))
theorem kI:MtM X "list.append" lC:=by
 intro pins s σ H x vs v us Q I rx rv h
 obtain ⟨l,xs,y,rfl,rfl,hH,hz,q⟩:=h
 cases rx
 obtain ⟨u,rfl,ru⟩:=rv.one
 obtain ⟨z,its,n,r,hl,e⟩:=I.Fq hH
 refine call_meets F.slot_list_append ⟨_,e,rfl⟩ F.entry_list_append (F.args_list_append_2 _ _) (PySem.list_append l its.toArray n u (by rw [List.size_toArray];omega)) ⟨e,?_⟩
 refine ⟨.aE,_,I.Ft (its':=its++[u]) hH e (by simp) (r.append (.cons ru .nil)) ?_,rfl,q⟩
 rw [List.length_append,List.length_singleton]
 omega
noncomputable def Ej:V->List V->Hp->VK->Prop:=fun x vs H Q=>∃ l xs y,x=.ref l/\vs=[]/\H l=some (.lst xs)/\xs[xs.length-1]? = some y/\Q y (upd H l (.lst xs.dropLast))
theorem Fi:MtM X "list.pop" Ej:=by
 intro pins s σ H x vs v us Q I rx rv h
 obtain ⟨l,xs,y,rfl,rfl,hH,hy,q⟩:=h
 cases rx
 have hus:=rv.zero
 subst hus
 obtain ⟨z,its,n,r,hl,e⟩:=I.Fq hH
 obtain ⟨u,hu,ru⟩:=r.get hy
 have hy':its.toArray[its.toArray.size-1]? = some u:=by
  show its.toArray[its.length-1]? = some u
  rw [<- Array.getElem?_toList,<- hl]
  exact hu
 refine call_meets F.slot_list_pop ⟨_,e,rfl⟩ F.entry_list_pop (F.args_list_pop_1 _) (MeetsSeq.list_pop_last l its.toArray n u hy' (by rw [List.size_toArray];omega)) ⟨e,?_⟩
 refine ⟨y,_,I.Ft (its':=its.dropLast) hH e ?_ r.dropLast ?_,ru,q⟩
 ·show its.toArray.eraseIdxIfInBounds (its.toArray.size-1)=its.dropLast.toArray
  rw [List.size_toArray,List.eraseIdxIfInBounds_toArray,pP]
 ·rw [List.length_dropLast]
  omega
end
section
variable {prog:Program} {w:World} {A:Around} {E:Value->Shared->Prop} {s:Shared}
end
section
variable {X:Cx}
end
section
variable {κ:Type} [DecidableEq κ]
noncomputable def cP (kvs:List (κ×V)) (k:κ):Option V:=(kvs.find? fun kv=>decide (kv.1=k)).map (·.2)
noncomputable def putK (kvs:List (κ×V)) (k:κ) (v:V):List (κ×V) :=
 if (kvs.any fun kv=>decide (kv.1=k))=true then kvs.map (fun kv=>if kv.1=k then (kv.1,v) else kv) else kvs++[(k,v)]
theorem jq {p:κ×V} {r:List (κ×V)} {k:κ} (e:p.1=k):cP (p::r) k=some p.2:=by simp [cP,List.find?_cons,e]
theorem jr {p:κ×V} {r:List (κ×V)} {k:κ} (e:¬ p.1=k):cP (p::r) k=cP r k:=by simp [cP,List.find?_cons,e]
theorem mP (k:κ):∀ kvs:List (κ×V),(kvs.any fun kv=>decide (kv.1=k))=(cP kvs k).isSome
 | []=>rfl
 | p::r=>by
  rw [List.any_cons]
  by_cases e:p.1=k
  ·simp only [jq e,decide_eq_true e,Bool.true_or,Option.isSome_some]
  ·rw [jr e,decide_eq_false e,Bool.false_or];exact mP k r
theorem iM (kvs:List (κ×V)) (k:κ) (v:V):(putK kvs k v).length<=kvs.length+1:=by
 unfold putK
 split
 ·rw [List.length_map];omega
 ·rw [List.length_append,List.length_cons,List.length_nil];omega
theorem mH.ic {o:Option V} {u:Option Value} (r:mH o u):o.isSome=u.isSome:=by
 cases o with
 | none=>cases u with
  | none=>rfl
  | some _=>exact (show False from r).elim
 | some _=>cases u with
  | none=>exact (show False from r).elim
  | some _=>rfl
theorem KV.val {kvs:List (κ×V)} {vs:List (κ×Value)} (r:KV kvs vs) (k:κ):mH (cP kvs k) (valueAt vs k):=by
 unfold KV at r
 induction r with
 | nil=>exact True.intro
 | @cons p q ps qs h t ih =>
  obtain ⟨h1,h2⟩:=h
  by_cases e:p.1=k
  ·have e':q.1=k:=h1.symm.trans e
   have b:valueAt (q::qs) k=some q.2:=by simp [valueAt,List.find?_cons,e']
   rw [jq e,b];exact h2
  ·have e':¬ q.1=k:=fun z=>e (h1.trans z)
   have b:valueAt (q::qs) k=valueAt qs k:=by simp [valueAt,List.find?_cons,e']
   rw [jr e,b];exact ih
theorem KV.any {kvs:List (κ×V)} {vs:List (κ×Value)} (r:KV kvs vs) (k:κ):(kvs.any fun kv=>decide (kv.1=k))=vs.any fun kv=>decide (kv.1=k):=by
 unfold KV at r
 induction r with
 | nil=>rfl
 | cons h t ih=>rw [List.any_cons,List.any_cons,ih,h.1]
theorem KV.repl {kvs:List (κ×V)} {vs:List (κ×Value)} (r:KV kvs vs) (k:κ) {y:V} {u:Value} (ry:RelV y u) :
  KV (kvs.map fun kv=>if kv.1=k then (kv.1,y) else kv) (vs.map fun kv=>if kv.1=k then (kv.1,u) else kv):=by
 unfold KV at r ⊢
 induction r with
 | nil=>exact .nil
 | @cons p q ps qs h t ih =>
  rw [List.map_cons,List.map_cons]
  refine .cons ?_ ih
  obtain ⟨h1,h2⟩:=h
  by_cases e:p.1=k
  ·rw [if_pos e,if_pos (h1.symm.trans e)];exact ⟨h1,ry⟩
  ·rw [if_neg e,if_neg (fun z=>e (h1.trans z))];exact ⟨h1,h2⟩
theorem KV.put {kvs:List (κ×V)} {vs:List (κ×Value)} (r:KV kvs vs) (k:κ) {y:V} {u:Value} (ry:RelV y u):KV (putK kvs k y) (stored vs k u):=by
 unfold putK stored
 rw [r.any k]
 by_cases e:(vs.any fun kv=>decide (kv.1=k))=true
 ·rw [if_pos e,if_pos e];exact r.repl k ry
 ·rw [if_neg e,if_neg e];exact Paired.snoc r ⟨rfl,ry⟩
theorem KV.length {kvs:List (κ×V)} {vs:List (κ×Value)} (r:KV kvs vs):kvs.length=vs.length:=Paired.length r
end
theorem nK {P:Program} {w:World} {k:Key} {u:Value} (r:RelV (kV k) u):(aZ P w).is k u=true:=by
 cases k with
 | inl i=>obtain ⟨t,e⟩:=(show ∃ t,u=Value.int i t from r);subst e;exact nE P w i t
 | inr x=>obtain ⟨t,e⟩:=(show ∃ t,u=Value.str x t from r);subst e;exact nC P w x t
theorem kO {P:Program} {w:World}:∀ {ks:List Key} {us:List Value},Vals (ks.map kV) us->ItemsAre (aZ P w) ks us
 | [],_,r=>by rw [List.map_nil] at r;cases r;exact .nil
 | k::ks,_,r=>by
  rw [List.map_cons] at r
  cases r with
  | cons h t=>exact .cons (nK h) (kO t)
noncomputable abbrev KT (H:Hp):List (List Key×V)->List (List Key×Addr×Value)->Prop:=Paired fun p q=>p.1=q.1/\H q.2.1=some (.tup (p.1.map kV))/\RelV p.2 q.2.2
theorem KT.val {H:Hp} {kvs:List (List Key×V)} {xs:List (List Key×Addr×Value)} (r:KT H kvs xs) (k:List Key):mH (cP kvs k) ((atKey xs k).map (·.2)):=by
 induction r with
 | nil=>exact True.intro
 | @cons p q ps qs h t ih =>
  obtain ⟨h1,_,h2⟩:=h
  by_cases e:p.1=k
  ·have e':q.1=k:=h1.symm.trans e
   have b:atKey (q::qs) k=some q.2:=by simp [atKey,List.find?_cons,e']
   rw [jq e,b];exact h2
  ·have e':¬ q.1=k:=fun z=>e (h1.trans z)
   have b:atKey (q::qs) k=atKey qs k:=by simp [atKey,List.find?_cons,e']
   rw [jr e,b];exact ih
theorem KT.repl {H:Hp} {kvs:List (List Key×V)} {xs:List (List Key×Addr×Value)} (r:KT H kvs xs) (k:List Key) {y:V} {u:Value} (ry:RelV y u) :
  KT H (kvs.map fun kv=>if kv.1=k then (kv.1,y) else kv) (xs.map (putAt k u)):=by
 induction r with
 | nil=>exact .nil
 | @cons p q ps qs h t ih =>
  rw [List.map_cons,List.map_cons]
  refine .cons ?_ ih
  obtain ⟨h1,h2,h3⟩:=h
  unfold putAt
  by_cases e:p.1=k
  ·rw [if_pos e,if_pos (h1.symm.trans e)];exact ⟨h1,h2,ry⟩
  ·rw [if_neg e,if_neg (fun z=>e (h1.trans z))];exact ⟨h1,h2,h3⟩
theorem KT.put {H:Hp} {kvs:List (List Key×V)} {xs:List (List Key×Addr×Value)} (r:KT H kvs xs) (k:List Key) {b:Addr} {y:V} {u:Value} (hb:H b=some (.tup (k.map kV))) (ry:RelV y u) :
  KT H (putK kvs k y) (storedH xs k b u):=by
 have e:(kvs.any fun kv=>decide (kv.1=k))=(atKey xs k).isSome:=by
  rw [mP,(r.val k).ic,Option.isSome_map]
 unfold putK storedH
 rw [e]
 by_cases q:(atKey xs k).isSome=true
 ·rw [if_pos q,if_pos q];exact r.repl k ry
 ·rw [if_neg q,if_neg q];exact Paired.snoc r ⟨rfl,hb,ry⟩
theorem KT.keeps {H H':Hp} {kvs:List (List Key×V)} {xs:List (List Key×Addr×Value)} (r:KT H kvs xs) (ht:∀ b ys,H b=some (.tup ys)->H' b=some (.tup ys)):KT H' kvs xs :=
 Paired.Fj r fun _ _ z=>⟨z.1,ht _ _ z.2.1,z.2.2⟩
section
variable {P:Program} {w:World} {H:Hp} {h:Heap} {a:Addr}
theorem Cq {u:HO} (ok:fV P w H h) (e:Rd H a u):bF P w H h a u:=e.ok ok
theorem Dt {kvs:List (Key×V)} (ok:fV P w H h) (e:Rd H a (.dK kvs)):kvs.length<=sizeLine/\(a == sysModules)=false/\∃ vs,KV kvs vs/\h.DictOf (aZ P w) a vs :=
 show bF P w H h a (.dK kvs) from Cq ok e
theorem JR {kvs:List (Key×V)} (ok:fV P w H h) (e:H a=some (.dK kvs)):kvs.length<=sizeLine/\(a == sysModules)=false/\∃ vs,KV kvs vs/\h.DictOf (aZ P w) a vs:=Dt ok (.inl e)
theorem v9 {ks:List Key} (ok:fV P w H h) (e:H a=some (.tup (ks.map kV))):(tupleKind (aZ P w)).is h ks a:=by
 obtain ⟨_,its,r,o,h1,h2,n,h3⟩:=(show bF P w H h a (.tup (ks.map kV)) from ok a _ e)
 exact ⟨o,its.toArray,n,h1,h2,h3,by simpa using kO r⟩
theorem JP {kvs:List (List Key×V)} (ok:fV P w H h) (e:Rd H a (.dT kvs)):kvs.length<=sizeLine/\(a == sysModules)=false /\
  ∃ xs,KT H kvs xs/\h.DictOfH (tupleKind (aZ P w)) a xs:=by
 obtain ⟨z,y,xs,r,o,es,ep,h1,h2,h3,h4,h5⟩:=(show bF P w H h a (.dT kvs) from Cq ok e)
 refine ⟨z,y,xs,r,o,es,ep,h1,h2,h3,h4,fun x hx=>?_,h5⟩
 have all:∀ {l:List (List Key×V)} {m:List (List Key×Addr×Value)},KT H l m->∀ x∈m,(tupleKind (aZ P w)).is h x.1 x.2.1:=by
  intro l m q
  induction q with
  | nil=>intro x hx;exact nomatch hx
  | @cons p q ps qs hq t ih =>
   intro x hx
   rcases List.mem_cons.mp hx with e | hx
   ·subst e
    exact v9 ok (by rw [<- hq.1];exact hq.2.1)
   ·exact ih x hx
 exact all r x hx
theorem JQ {kvs:List (List Key×V)} (ok:fV P w H h) (e:H a=some (.dT kvs)):kvs.length<=sizeLine/\(a == sysModules)=false /\
  ∃ xs,KT H kvs xs/\h.DictOfH (tupleKind (aZ P w)) a xs:=JP ok (.inl e)
end
noncomputable def B7 (H:Hp) (a:Addr) (y:V) (r:Option V):Prop :=
 (∃ kvs k,Rd H a (.dK kvs)/\y=kV k/\r=cP kvs k)\/∃ kvs k b,Rd H a (.dT kvs)/\y=.ref b/\H b=some (.tup (k.map kV))/\r=cP kvs k
noncomputable def qa (H:Hp) (a:Addr) (y v:V) (H':Hp):Prop :=
 (∃ kvs k,H a=some (.dK kvs)/\y=kV k/\kvs.length<sizeLine/\H'=upd H a (.dK (putK kvs k v))) \/
 ∃ kvs k b,H a=some (.dT kvs)/\y=.ref b/\H b=some (.tup (k.map kV))/\kvs.length<sizeLine/\H'=upd H a (.dT (putK kvs k v))
theorem B7.k {H:Hp} {a:Addr} {kvs:List (Key×V)} {k:Key} (e:H a=some (.dK kvs)):B7 H a (kV k) (cP kvs k):=.inl ⟨kvs,k,.inl e,rfl,rfl⟩
theorem B7.t {H:Hp} {a b:Addr} {kvs:List (List Key×V)} {k:List Key} (e:H a=some (.dT kvs)) (eb:H b=some (.tup (k.map kV))):B7 H a (.ref b) (cP kvs k):=.inr ⟨kvs,k,b,.inl e,rfl,eb,rfl⟩
theorem qa.k {H:Hp} {a:Addr} {kvs:List (Key×V)} {k:Key} {v:V} (e:H a=some (.dK kvs)) (hl:kvs.length<sizeLine):qa H a (kV k) v (upd H a (.dK (putK kvs k v))):=.inl ⟨kvs,k,e,rfl,hl,rfl⟩
theorem qa.t {H:Hp} {a b:Addr} {kvs:List (List Key×V)} {k:List Key} {v:V} (e:H a=some (.dT kvs)) (eb:H b=some (.tup (k.map kV))) (hl:kvs.length<sizeLine) :
  qa H a (.ref b) v (upd H a (.dT (putK kvs k v))):=.inr ⟨kvs,k,b,e,rfl,eb,hl,rfl⟩
section
variable {X:Cx} {pins:List (Addr×Obj)} {σ:St} {H:Hp} {s:Shared} {a:Addr} {y v:V} {u r:Value} {o:Option V} {A:Around} {E:Value->Shared->Prop}
theorem Inv.big (I:Inv X pins σ H s):sysModules<s.heap.objs.size:=by
 have h:mainGlobals<s.heap.objs.size:=(I.mod.glob.keeps I.bk).lt
 exact Nat.lt_trans (by decide) h
theorem rJ {h':Heap} {t':Nat} {ob:HO} (I:Inv X pins σ H s) (mu:J6 (H a)) (hs:Heap.SameBut a s.heap h') (he:∃ q,h'.get? a=some q) (new:bF X.prog X.w (upd H a ob) h' a ob) :
  Inv X pins σ (upd H a ob) { s with heap:=h',toks:=t' } :=
 I.write (x:=a) (e:=a) mu (.inl rfl) (fun b q hb z=>(hs.2 b hb).trans z) he new
theorem w6 {P:Program} {w:World} {H':Hp} {h':Heap} {kvs:List (Key×V)} {vs:List (Key×Value)} (z:kvs.length<=sizeLine) (hd:(a == sysModules)=false) (rel:KV kvs vs) (dd:h'.DictOf (aZ P w) a vs) :
  bF P w H' h' a (.dK kvs):=⟨z,hd,vs,rel,dd⟩
theorem sY {H':Hp} {Q:Unit->Shared->Prop} (hu:A.units+1<cLine) (I:Inv X pins σ H s) (g:qa H a y v H') (ry:RelV y u) (rv:RelV v r) (h:∀ s',Inv X pins σ H' s'->Q () s') :
  wpAny (model X.prog X.w) A (setItem (.ref a) u r) Q E s:=by
 rcases g with ⟨kvs,k,e,ey,l,eH⟩ | ⟨kvs,k,b,e,ey,eb,l,eH⟩
 ·subst ey eH
  obtain ⟨z,hd,vs,rel,dd⟩:=JR I.hok e
  have hz:vs.length<=sizeLine:=by rw [<- rel.length];exact z
  have hl:(putK kvs k v).length<=sizeLine:=by have:=iM kvs k v;omega
  refine wpAny_setItem_pairs (hsz:=hz) (nK ry) dd fun h' BO hs=>h _ ?_
  have he:∃ q,h'.get? a=some q:=let ⟨q,_,_,hq,_⟩:=BO;⟨q,hq⟩
  exact rJ I (by rw [e];exact True.intro) hs he (w6 hl hd (rel.put k rv) BO)
 ·subst ey eH
  cases (show u=Value.ref b from ry)
  obtain ⟨z,hd,xs,rel,dd⟩:=JQ I.hok e
  have hz:xs.length<=sizeLine:=by rw [<- Paired.length rel];exact z
  have hl:(putK kvs k v).length<=sizeLine:=by have:=iM kvs k v;omega
  refine wpAny_setItem_heap (hsz:=hz) (tupleKind_room_in1 hu) (v9 I.hok eb) dd fun h' BO hs=>h _ ?_
  obtain ⟨q,es,ep,hq,h2,h3,h4,_,h5⟩:=BO
  refine rJ I (by rw [e];exact True.intro) hs ⟨q,hq⟩ ⟨hl,hd,_,(rel.put k eb rv).keeps fun c ys ec=>?_,q,es,ep,hq,h2,h3,h4,h5⟩
  rw [ak (IU ec e (fun z=>nomatch z))]
  exact ec
end
section
variable {X:Cx} {pins:List (Addr×Obj)} {σ:St} {H:Hp} {s:Shared} {a:Addr} {kvs:List (Key×V)} {k:Key} {u:Value} {A:Around} {E:Value->Shared->Prop}
end
section
variable {X:Cx} {o i e value:Expr} {pos pos' tpos:Pos} {td ty tv:TE}
end
theorem w9 {P:Program} {w:World} {H:Hp} (h:Heap) (hb:sysModules<h.objs.size):bF P w H (h.push { cls:=.type "dict", data:=.dict #[] }) h.objs.size (.dK []) :=
 ⟨Nat.zero_le _,beq_eq_false_iff_ne.mpr (Ne.symm (Nat.ne_of_lt hb)),[],.nil,Heap.DictOf.new h⟩
noncomputable def uq:TE:=fun _ H Q=>∀ p,H p=none->Q (.ref p) (upd H p (.dK []))
section
variable {X:Cx} {pos:Pos}
theorem u0:PE X (.Dict [] [] pos) uq:=fun pins s σ H Q I h =>
 wpAny_Dict_empty ⟨.ref s.heap.objs.size,_,I.laid (a:=s.heap.objs.size) (o:=.dK []) (t':=s.toks) (fun _ _ q=>Heap.get?_push_of_some _ q) (Nat.le_refl _) (w9 s.heap I.big),rfl,h _ (I.hok.fresh (Nat.le_refl _))⟩
end
structure M1 (X:Cx) (o:Expr) (m:Str) (apos:Pos) (e:Expr) (cpos:Pos):Prop where
 base:attributeBase o m X.env (eval o X.env)=eval o X.env
 few:((backTo cpos (starEach [e] X.env)).all (fun x=>!x.1)&&(backToKw cpos (keywordEach [] X.env)).all (fun x=>x.1.isSome)
 &&decide (([e]:List Expr).length+([]:List Keyword).length+(if ([]:List Keyword).isEmpty then 0 else 1)<30))=true
 line:(apos.endLine == cpos.line)=true
 trees:backTo cpos (starEach [e] X.env)=[(false,eval e X.env)]
structure M2 (X:Cx) (o:Expr) (m:Str) (apos:Pos) (e f:Expr) (cpos:Pos):Prop where
 base:attributeBase o m X.env (eval o X.env)=eval o X.env
 few:((backTo cpos (starEach [e,f] X.env)).all (fun x=>!x.1)&&(backToKw cpos (keywordEach [] X.env)).all (fun x=>x.1.isSome)
 &&decide (([e,f]:List Expr).length+([]:List Keyword).length+(if ([]:List Keyword).isEmpty then 0 else 1)<30))=true
 line:(apos.endLine == cpos.line)=true
 trees:backTo cpos (starEach [e,f] X.env)=[(false,eval e X.env),(false,eval f X.env)]
section
variable {X:Cx} {pins:List (Addr×Obj)} {σ:St} {H:Hp} {s:Shared} {a:Addr} {y d:V} {u r:Value} {o:Option V} {A:Around} {E:Value->Shared->Prop}
end
section
variable {X:Cx} {o e f:Expr} {apos cpos:Pos} {td ty tx:TE}
end
section
variable {X:Cx} {pins:List (Addr×Obj)} {σ:St} {H:Hp} {s:Shared} {a:Addr} {kvs:List (Key×V)} {A:Around} {E:Value->Shared->Prop}
end
section
variable {X:Cx} {pins:List (Addr×Obj)} {σ:St} {H:Hp} {s:Shared} {a:Addr} {y:V} {u:Value} {A:Around} {E:Value->Shared->Prop}
end
end L2
namespace Att
open PySem PySem.W PySem.Calls PyProof.Rows
theorem iT {P:Params} {h:Heap}:∀ (ns:List Int) (vs:List Value),WellAll P h vs (ns.map WData.int)->IntsAre vs ns:=by
 intro ns
 induction ns with
 | nil =>
  intro vs w
  rw [List.map_nil] at w
  cases w
  exact .nil
 | cons n ns ih =>
  intro vs w
  rw [List.map_cons] at w
  cases w with
  | cons a b =>
   cases a
   exact .cons _ _ (ih _ b)
theorem sr {l:OpenLaw} {n:Nat} (hn:l.most=some n) {P:Params} {h:Heap} {args:List WData} {vals:List Value}
  (hpre:l.row.toRowW.claim.pre args=true) (hwl:WellAll P h vals args) :
  ∃ a vs ns, vals=[Value.ref a]/\args=[WData.list (ns.map WData.int)]/\h.get? a=some { cls:=.type "list", data:=.seq vs.toArray }/\IntsAre vs ns/\ns.length<=n:=by
 have hsh:WShape.hasAll [] args [.list .int]=true:=(pre_splitW hpre).1
 have hc:l.pre.holds [] { args:=args }=true:=(pre_splitW hpre).2
 obtain ⟨d,r,rfl,h1,h2⟩:=hasAllW_cons hsh
 obtain rfl:=hasAllW_nil h2
 obtain ⟨xs,rfl,h3⟩:=hasW_list h1
 obtain ⟨ns,rfl⟩:=items_int h3
 have hlen:ns.length<=n:=by
  unfold OpenLaw.pre at hc
  have h4:(WTm.not (.lt (.lit (.int (n:Int))) (.len (.arg 0)))).holds [] { args:=[.list (ns.map .int)] }=true:=by
   have h4:=(holds_andW hc).1
   rw [hn] at h4
   exact h4
  have h5:=condW_of h4 (w_not (w_lt w_lit (w_len_list (w_arg rfl))))
  rw [List.length_map] at h5
  refine Nat.le_of_not_lt fun q=>?_
  have q':(n:Int)<((ns.length:Nat):Int):=by omega
  first
   | (rw [decide_eq_true q'] at h5;exact absurd h5 (by decide))
   | (simp at h5;omega)
 cases hwl with
 | cons w1 w2 =>
  cases w2
  cases w1 with
  | list ho hall=>exact ⟨_,_,ns,rfl,rfl,ho,iT ns _ hall,hlen⟩
theorem sA (l:OpenLaw) (args:List WData):l.row.toRowW.claim.post args (.bool true) args=true :=
 postW_of (r:=l.row.toRowW) (X:=(true == true))
  (show WShape.has [] (.bool true) .bool=true by first | rfl | decide | simp [WShape.has,WShape.arms,WShape.armsAll])
  (show (WTm.eq .res (.lit (.bool true))).value [] { args:=args,res:=some (.bool true),after:=args }=some (.bool (true == true)) from w_eq_bool (w_res rfl) w_lit) rfl
theorem ow {l:OpenLaw} {n:Nat} {q:Program} {loose:List Str} {XP:(Str->Option Value)->Heap->Prop} {YP:World->Heap->Prop} {d:DefRec}
  (hn:l.most=some n) (hdf:d.params.defaults=[])
  (call:∀ (w:World) (s₀ s₁:Shared) (mg mb:Str->Option Value) (fa:Addr) (o:Obj) (pm cd doc:Value) (a:Addr) (vs:List Value) (ns:List Int),
   Ground q loose [] XP w s₀ mg mb s₁.heap->YP w s₁.heap ->
   s₁.heap.get? fa=some o->o.data=.func (docDef d.name d.params d.body d.scope pm cd doc)->s₁.heap.CodeRec cd d.name->mg d.name=some (.ref fa) ->
   s₁.heap.get? a=some { cls:=.type "list", data:=.seq vs.toArray }->IntsAre vs ns->ns.length<=n->s₁.gens=#[] ->
   codeAny (model l.prog w) callerA (.call (.ref fa) ⟨[.ref a],[]⟩) (fun r s'=>r=.ok (.ret (.bool true))/\OldK s₁.heap s'.heap/\s'.os=s₁.os/\AllBare s'.gens) s₁) :
  WalkO q loose XP YP l.row.toRowW d [] (fun f vs=>PySem.call f vs):=by
 intro w s₀ s₁ mg mb G Y fa o pm cd doc dV kV ho hd hcd hD hmg hg args vals as hpre hlay hrd hwl hlo
 obtain rfl:dV=.none:=Dflts.none hD hdf
 obtain rfl:kV=.none:=Dflts.noKw hD
 obtain ⟨a,vs,ns,rfl,rfl,hobj,hints,hlen⟩:=sr hn hpre hwl
 refine enter_call (codeAny_mono (call w s₀ s₁ mg mb fa o pm cd doc a vs ns G Y ho (fd_plain hd) hcd hmg hobj hints hlen hg) fun r s' hq=>?_)
 obtain ⟨rfl,h2,h3,h4⟩:=hq
 exact ⟨.inl ⟨.bool true,.bool true,[],rfl,fun _=>rfl,.bool true,sA l _,fun _=>⟨List.Pairwise.nil,fun _ hm=>(nomatch hm)⟩⟩,h2,h3,h4⟩
section
variable {prog:Program} {w:World} {A:Around} {E:Value->Shared->Prop} {s:Shared} {K:Frag}
end
end Att
namespace L2
open PySem PySem.Spec PyProof.Rows
theorem dJ:∀ {vs:List Value} {ns:List Int},IntsAre vs ns->Vals (ns.map V.int) vs
 | _,_,.nil=>.nil
 | _,_,.cons n t h=>.cons ⟨t,rfl⟩ (dJ h)
noncomputable def J4 (H:Hp):Prop:=∀ b,H b=none\/∃ o xs,H b=some (.fN o (.lst xs))
theorem v8 {P:Program} {w:World} {K:PySem.W.Frag} {mg mb:Str->Option Value} {CX:xR} {k:Nat} {fa a:Addr} {fd:FuncData} {x:Str} {sp:Sp} {s₁:Shared} {vs:List Value} {ns:List Int}
  (KX:K.In s₁.heap) (hns:s₁.heap.Ns mainGlobals mg) (hb:s₁.heap.Ns builtinsNs mb) (hbb:∀ x:Str, x≠"__name__"->mb x=bootBuiltins x) (hlim:s₁.heap.NoLimit) (hg:s₁.gens=#[])
  (ha:s₁.heap.get? a=some { cls:=.type "list", data:=.seq vs.toArray }) (hi:IntsAre vs ns) (hl:ns.length<=sizeLine) (hr:eU k callerA)
  (F:∀ base:Heap,K.In base->base.Ns mainGlobals mg->eN P w K mg base CX k fa fd [x] sp) (hbind:∀ (s:Shared) (u:Value),BindsTo s fd ⟨[u],[]⟩ [(x,u)])
  (G6:∀ H:Hp,J4 H->fU K H a (ns.map V.int)->sp [.ref a] H (fun v _=>v=.bl true) fun _ _ _=>False)
  (hCX:∀ H e s',CX [] H s₁ (fun _ _ _=>False) e s'->False) :
  codeAny (model P w) callerA (.call (.ref fa) ⟨[.ref a],[]⟩) (fun r s'=>r=.ok (.ret (.bool true))/\OldK s₁.heap s'.heap/\s'.os=s₁.os/\AllBare s'.gens) s₁:=by
 have rv:=dJ hi
 have lenV:=hi.length
 have core:∀ H:Hp,J4 H->fU K H a (ns.map V.int)->fV P w H s₁.heap->(∀ b,H b≠none->b=a)->(H a≠none->K.lookup a=none) ->
   codeAny (model P w) callerA (.call (.ref fa) ⟨[.ref a],[]⟩) (fun r s'=>r=.ok (.ret (.bool true))/\OldK s₁.heap s'.heap/\s'.os=s₁.os/\AllBare s'.gens) s₁:=by
  intro H hO hS hok hA hK
  have jk:∀ {b:Addr} {o:Obj},s₁.heap.get? b=some o->H b=none->(lQ s₁.heap H).get? b=some o:=fun e n=>wN e n
  have IQ:∀ {b:Addr} {o:Obj} {es:Array DictEntry} {ep:Nat},s₁.heap.get? b=some o->o.data=.dict es ep->H b=none:=fun {b o es ep} e d=>by
   cases q:H b with
   | none=>rfl
   | some u =>
    have e':b=a:=hA b (by rw [q];simp)
    subst e'
    rw [ha] at e;cases e
    have d':Data.seq vs.toArray _=Data.dict es ep:=d
    cases d'
  have Kw:∀ {b:Addr} {m:Str->Option Value},s₁.heap.Ns b m->(lQ s₁.heap H).Ns b m:=fun {b m} ⟨o,es,ep,e,d,r⟩=>⟨o,es,ep,jk e (IQ e d),d,r⟩
  have hKb:K.In (lQ s₁.heap H):=fun b o e=>jk (KX b o e) (by
   cases q:H b with
   | none=>rfl
   | some u =>
    have e':b=a:=hA b (by rw [q];simp)
    subst e'
    rw [hK (by rw [q];simp)] at e;cases e)
  have hM:Mod K mg (lQ s₁.heap H):=⟨hKb,Kw hns,⟨mb,Kw hb,hbb⟩,let ⟨mc,h1,h2⟩:=hlim;⟨mc,Kw h1,h2⟩⟩
  have e0:p9 P w K mg (lQ s₁.heap H) callerA [] s₁ H:=⟨rfl,hM,fun b o e=>Aj e,Nat.le_of_eq (sU _ _),trivial,fun b hb=>absurd (show b∈([]:List Addr) from hb) (by simp),hok,.of_eq hg⟩
  refine codeAny_mono ((F _ hKb (Kw hns)).run callerA [] s₁ H ⟨[.ref a],[]⟩ [.ref a] [.ref a] _ _ hr e0 (hbind s₁ (.ref a)) (.cons rfl .nil) (G6 H hO hS)) fun r s' h=>?_
  cases r with
  | error e=>exact (hCX H e s' h).elim
  | ok fl =>
   cases fl with
   | next=>exact False.elim h
   | brk=>exact False.elim h
   | cont=>exact False.elim h
   | ret u =>
    obtain ⟨v,H',os,bare,un,hok',r',q⟩:=h
    have q':v=.bl true:=q
    subst q'
    obtain rfl:u=Value.bool true:=r'
    refine ⟨rfl,OldK.of_keep fun b o e=>?_,os,bare⟩
    cases q:H b with
    | none=>exact un.keep b o e q (by intro z;exact absurd (show b∈([]:List Addr) from z) (by simp)) (by simp)
    | some u =>
     rcases hO b with z | ⟨ob,xs,z⟩
     ·rw [q] at z;cases z
     ·have z2:=un.fO b ob _ z
      obtain ⟨e1,_⟩:=hok b _ z
      obtain ⟨e2,_⟩:=hok' b _ z2
      rw [e] at e1;cases e1
      exact e2
 cases hk:K.lookup a with
 | some o =>
  have e:=KX a o hk
  rw [ha] at e
  cases e
  refine core (fun _=>none) (fun _=>.inl rfl) (.inr ⟨_,vs.toArray,_,hk,rfl,rfl,rfl,by rw [List.size_toArray,lenV];exact hl,by simpa using rv⟩) (fun b u z=>by have z':(none:Option HO)=some u:=z;cases z') (fun b z=>absurd rfl z) fun z=>absurd rfl z
 | none =>
  refine core (fun b=>if b=a then some (.fN { cls:=.type "list", data:=.seq vs.toArray } (.lst (ns.map V.int))) else none) (fun b=>?_) (.inl (.inr ⟨{ cls:=.type "list", data:=.seq vs.toArray }, if_pos rfl⟩)) (fun b u z=>?_) (fun b z=>?_) fun _=>hk
  ·by_cases hb:b=a
   ·exact .inr ⟨_,_,if_pos hb⟩
   ·exact .inl (if_neg hb)
  ·by_cases hb:b=a
   ·have z':=(if_pos hb).symm.trans z
    cases z'
    subst hb
    exact ⟨ha,by rw [List.length_map];exact hl,vs,_,rv,ha⟩
   ·have z':=(if_neg hb).symm.trans z
    cases z'
  ·by_cases hb:b=a
   ·exact hb
   ·exact absurd (if_neg hb) z
noncomputable abbrev CX0:xR:=fun _ _ _ _ _ _=>False
structure Fun (K:PySem.W.Frag) (x qual:Str) (st:Stmt) (f:Addr) (fd:FuncData):Prop where
 ex:∃ (oc:Value) (od:Option Addr) (kV doc pm:Value) (an:Option Addr) (cdv ct:Value) (osl:Array (Option Value)),
  fd=PySem.W.fnOf x qual (gO st) (cG st) (aO st) .none kV doc pm an cdv ct/\K.lookup f=some ⟨oc,od,.func fd,osl⟩/\PySem.W.codeIn K cdv qual=true
 kp:PySem.W.keepIn K (.ref f)=true
section
variable {P:Program} {w:World} {K:PySem.W.Frag} {mg:Str->Option Value} {base:Heap}
theorem Fun.ok {x qual:Str} {st:Stmt} {f:Addr} {fd:FuncData} {N ps:List Str} {k:Nat} {sp:Sp} (F:Fun K x qual st f fd) (S:dF N ps (aO st)) (len:∀ vs H Q E,sp vs H Q E->vs.length=ps.length)
  (hbody:∀ (cdv:Value) (A:Around) (outer:List Env) (s:Shared) (H:Hp) (vs:List V) (Q:VK) (E:XK),eU k (A.deeper (envOfC qual (aO st) s.heap.objs.size f cdv))->sp vs H Q E ->
   ∃ t,jX (gP CX0 P w K mg base N qual (aO st) f cdv A outer s H E).CA (cG st) t/\t { nx:=fun _ H'=>Q .aE H',rt:=Q } (start N vs) H):eN P w K mg base CX0 (k+1) f fd ps sp:=by
 obtain ⟨oc,od,kV,doc,pm,an,cdv,ct,osl,rfl,lk,hcd⟩:=F.ex
 refine Dj lk hcd S len fun A outer s H vs Q E hr G6=>?_
 obtain ⟨t,h,q⟩:=hbody cdv A outer s H vs Q E hr G6
 exact ⟨t,h.CA,q⟩
end
section
variable {X:Cx}
end
noncomputable def tK (H H':Hp):Prop:=∀ b o,H b=some o->H' b=some o
theorem tK.trans {H H1 H2:Hp} (a:tK H H1) (b:tK H1 H2):tK H H2:=fun c o h=>b c o (a c o h)
theorem tK.free {H H':Hp} (e:tK H H') {l:Addr} (h:H' l=Option.none):H l=Option.none:=by
 cases q:H l with
 | none=>rfl
 | some o =>
  rw [e l o q] at h
  cases h
section
variable {κ:Type} [DecidableEq κ]
end
end L2
end
section
namespace Fg
open PySem
section
variable {Φ:cM} {σ:Sg} {M:MH}
@[simp] theorem sW {i:Nat}:ev Φ (.v i) σ M=match σ[i]? with | some (some d)=>.ok d M | _=>.bad:=rfl
@[simp] theorem sX {d:D}:ev Φ (.k d) σ M=.ok d M:=rfl
@[simp] theorem ev_g {i:Nat}:ev Φ (.g i) σ M=match Φ.glob i with | some d=>.ok d M | none=>.bad:=rfl
@[simp] theorem GG {es:Es}:ev Φ (.tup es) σ M=(fF Φ es σ M).bind fun ds M1=>.ok (.tup ds) M1:=rfl
@[simp] theorem ev_lst {fz:Bool} {es:Es}:ev Φ (.lst fz es) σ M=(fF Φ es σ M).bind fun ds M1=>aR fz ds M1:=rfl
@[simp] theorem Ld:ev Φ .nZ σ M=.ok (.ref M.length) (M++[.dct []]):=rfl
@[simp] theorem w4 {o:B4} {fz:Bool} {a b:E}:ev Φ (.op o fz a b) σ M=(ev Φ a σ M).bind fun x M1=>(ev Φ b σ M1).bind fun y M2=>bC o fz M2 x y:=rfl
@[simp] theorem ev_neg {a:E}:ev Φ (.neg a) σ M=(ev Φ a σ M).bind fun x M1=>match x with | .int i=>.ok (.int (-i)) M1 | _=>.bad:=rfl
@[simp] theorem iE {o:yZ} {a b:E}:ev Φ (.cmp o a b) σ M=(ev Φ a σ M).bind fun x M1=>(ev Φ b σ M1).bind fun y M2=>av o M2 x y:=rfl
@[simp] theorem JJ {o o':yZ} {a b c:E}:ev Φ (.chain o o' a b c) σ M=(ev Φ a σ M).bind fun x M1=>(ev Φ b σ M1).bind fun y M2=>(av o M2 x y).bind fun t M3=>match t with
  | .bl true=>(ev Φ c σ M3).bind fun z M4=>av o' M4 y z
  | .bl false=>.ok (.bl false) M3
  | _=>.bad:=rfl
@[simp] theorem GI {a b:E}:ev Φ (.and a b) σ M=(ev Φ a σ M).bind fun x M1=>match x with | .bl true=>(ev Φ b σ M1) | .bl false=>.ok (.bl false) M1 | _=>.bad:=rfl
@[simp] theorem Dl {a b:E}:ev Φ (.or a b) σ M=(ev Φ a σ M).bind fun x M1=>match x with | .bl true=>.ok (.bl true) M1 | .bl false=>(ev Φ b σ M1) | _=>.bad:=rfl
@[simp] theorem ev_not {a:E}:ev Φ (.not a) σ M=(ev Φ a σ M).bind fun x M1=>match x with | .bl b=>.ok (.bl (!b)) M1 | _=>.bad:=rfl
@[simp] theorem ev_ife {c a b:E}:ev Φ (.KO c a b) σ M=(ev Φ c σ M).bind fun x M1=>match x with | .bl true=>ev Φ a σ M1 | .bl false=>ev Φ b σ M1 | _=>.bad:=rfl
@[simp] theorem lX {a b:E}:ev Φ (.idx a b) σ M=(ev Φ a σ M).bind fun x M1=>(ev Φ b σ M1).bind fun y M2=>aH M2 x y:=rfl
@[simp] theorem JI {fz:Bool} {a:E} {lo hi:O}:ev Φ (.sl fz a lo hi) σ M=(ev Φ a σ M).bind fun x M1=>(BJ Φ lo σ M1).bind fun l M2=>(BJ Φ hi σ M2).bind fun h M3=>sl2 fz M3 x l h:=rfl
@[simp] theorem lY {f:Nat} {es:Es}:ev Φ (.call f es) σ M=(fF Φ es σ M).bind fun ds M1=>Φ.call f ds M1:=rfl
@[simp] theorem ev_isi {a:E} {t:Ty}:ev Φ (.pG a t) σ M=(ev Φ a σ M).bind fun x M1=>if o6 M1 x then .ok (.bl (yQ M1 t x)) M1 else .bad:=rfl
@[simp] theorem GH {b:Bl} {fz:Bool} {es:Es}:ev Φ (.blt b fz es) σ M=(fF Φ es σ M).bind fun ds M1=>cz b fz M1 ds:=rfl
@[simp] theorem ev_mth {m:Mt} {fz:Bool} {a:E} {es:Es}:ev Φ (.o9 m fz a es) σ M=(ev Φ a σ M).bind fun x M1=>if pq m M1 x then (fF Φ es σ M1).bind fun ds M2=>iS m fz M2 x ds else .bad:=rfl
@[simp] theorem cS {fz:Bool} {caps tg:List Nat} {elt:E} {it:Src} {cond:O}:ev Φ (.comp fz caps tg elt it cond) σ M=(cu Φ it σ M).bind fun p M1 =>
   ((bN (lW Φ cond) (ev Φ elt) tg (aG M1 p.1) p.2.1 (dH σ caps++List.replicate tg.length none) M1 []).fin (dY p.2.2 p.1)).bind fun ds M2=>aR fz ds M2:=rfl
@[simp] theorem ev_fld {a:E} {f:Str}:ev Φ (.fld a f) σ M=(ev Φ a σ M).bind fun x M1=>match x with
  | .ref n=>match M1[n]? with
   | some (.ins _ fs)=>match fs.lookup f with
    | some d=>.ok d M1
    | none=>.bad
   | _=>.bad
  | _=>.bad:=rfl
@[simp] theorem ev_umt {c m:Nat} {nm:Str} {a:E} {es:Es}:ev Φ (.Kh c m nm a es) σ M=(ev Φ a σ M).bind fun x M1=>match x with
  | .ref n=>match M1[n]? with
   | some (.ins c' fs)=>if decide (c'=c)&&(fs.lookup nm).isNone then (fF Φ es σ M1).bind fun ds M2=>Φ.call m (.ref n::ds) M2 else .bad
   | _=>.bad
  | _=>.bad:=rfl
@[simp] theorem ev_new {c i:Nat} {es:Es}:ev Φ (.new c i es) σ M=(fF Φ es σ M).bind fun ds M1=>(Φ.ini i (.ref M1.length::ds) (M1++[.ins c []])).bind fun r M2=>match r with
  | .aE=>.ok (.ref M1.length) M2
  | _=>.bad:=rfl
@[simp] theorem ev_mx {hi:Bool} {a b:E}:ev Φ (.mx hi a b) σ M=(ev Φ a σ M).bind fun x M1=>(ev Φ b σ M1).bind fun y M2=>match x,y with
  | .int i,.int j=>.ok (.int (if hi then (if j > i then j else i) else (if j<i then j else i))) M2
  | _,_=>.bad:=rfl
@[simp] theorem ev_lrg {fz:Bool} {a b:E}:ev Φ (.KA fz a b) σ M=(ev Φ a σ M).bind fun x M1=>(ev Φ b σ M1).bind fun y M2=>match x,y with
  | .int i,.int j=>if j4 i&&(j4 j&&decide ((j-i).toNat<=line)) then aR fz (aW i j) M2 else .bad
  | _,_=>.bad:=rfl
@[simp] theorem ev_fn1 {f:F1} {a:E}:ev Φ (.Hh f a) σ M=(ev Φ a σ M).bind fun x M1=>match Jv f x with
  | some d=>.ok d M1
  | none=>.bad:=rfl
@[simp] theorem ev_lr1 {fz:Bool} {a:E}:ev Φ (.KC fz a) σ M=(ev Φ a σ M).bind fun x M1=>match x with
  | .int j=>if j4 j then aR fz (aW 0 j) M1 else .bad
  | _=>.bad:=rfl
@[simp] theorem ev_rv {fz:Bool} {a:E}:ev Φ (.rv fz a) σ M=(ev Φ a σ M).bind fun x M1=>match vw M1 x with
  | .lst ds=>aR fz ds.reverse M1
  | _=>.bad:=rfl
@[simp] theorem Le {a:E}:ev Φ (.all1 a) σ M=(ev Φ a σ M).bind fun x M1=>match vw M1 x with
  | .lst ds=>match boolsOf ds with
   | some bs=>.ok (.bl (bs.all id)) M1
   | none=>.bad
  | _=>.bad:=rfl
@[simp] theorem lV:fF Φ .nil σ M=.ok [] M:=rfl
@[simp] theorem jP {e:E} {es:Es}:fF Φ (.cons e es) σ M=(ev Φ e σ M).bind fun x M1=>(fF Φ es σ M1).bind fun xs M2=>.ok (x::xs) M2:=rfl
@[simp] theorem wZ:BJ Φ .none σ M=.ok none M:=rfl
@[simp] theorem wY {e:E}:BJ Φ (.some e) σ M=(ev Φ e σ M).bind fun x M1=>match x with | .int i=>.ok (some i) M1 | _=>.bad:=rfl
@[simp] theorem fG:lW Φ .none σ M=.ok (.bl true) M:=rfl
@[simp] theorem JH {e:E}:lW Φ (.some e) σ M=ev Φ e σ M:=rfl
@[simp] theorem jQ {a:E}:cu Φ (.e a) σ M=(ev Φ a σ M).bind fun x M1=>match itemsOf M1 x with | some ds=>.ok (x,ds,wk M1 x) (walk M1 x) | none=>.bad:=rfl
@[simp] theorem BL {a:E}:cu Φ (.gv a) σ M=(ev Φ a σ M).bind fun x M1=>match x with
  | .int j=>if j4 j then .ok (.aE,aW 0 j,false) M1 else .bad
  | _=>.bad:=rfl
@[simp] theorem JG {a b:E}:cu Φ (.Ef a b) σ M=(ev Φ a σ M).bind fun x M1=>(ev Φ b σ M1).bind fun y M2=>match rT x,rT y with
  | some i,some j=>if j4 i&&j4 j then .ok (.aE,aW i j,false) M2 else .bad
  | _,_=>.bad:=rfl
@[simp] theorem Lc {a:E}:cu Φ (.rev a) σ M=(ev Φ a σ M).bind fun x M1=>match CZ x with
  | some ds=>.ok (.aE,ds.reverse,false) M1
  | none=>.bad:=rfl
@[simp] theorem JK {f:Nat} {es:Es} {d:Int}:ev Φ (.rP f es d) σ M=(fF Φ es σ M).bind fun ds M1=>Φ.call f (ds++[.int d]) M1:=rfl
@[simp] theorem Lb {a b:E}:cu Φ (.zip a b) σ M=(ev Φ a σ M).bind fun x M1=>(ev Φ b σ M1).bind fun y M2=>match j5 x,j5 y with
  | some ds,some es=>.ok (.aE,k8 ds es,false) M2
  | _,_=>.bad:=rfl
@[simp] theorem jN {i:Nat} {e:E}:ex Φ (.set i e) σ M=(ev Φ e σ M).use σ fun x M1=>.ok (.nx (σ.set i (some x))) M1:=rfl
@[simp] theorem rq {a b e:E}:ex Φ (.j3 a b e) σ M=(ev Φ e σ M).use σ fun x M1=>(ev Φ a σ M1).use σ fun y M2=>(ev Φ b σ M2).use σ fun z M3=>(jv M3 y z x).use σ fun _ M4=>.ok (.nx σ) M4:=rfl
@[simp] theorem K6 {a:E} {f:Str} {e:E}:ex Φ (.D7 a f e) σ M=(ev Φ e σ M).use σ fun x M1=>(ev Φ a σ M1).use σ fun y M2=>match y with
  | .ref n=>match M2[n]? with
   | some (.ins c fs)=>if decide (fs.length<1000) then .ok (.nx σ) (M2.set n (.ins c (Eo f x fs))) else .bad
   | _=>.bad
  | _=>.bad:=rfl
@[simp] theorem La:BK Φ .nil σ M=.ok () M:=rfl
@[simp] theorem JF {e:E} {es:Es}:BK Φ (.cons e es) σ M=(ev Φ e σ M).bind fun x M1=>if cY x then BK Φ es σ M1 else .bad:=rfl
@[simp] theorem JD {c:Nat} {es:Es}:ex Φ (.raise c es) σ M=(BK Φ es σ M).use σ fun _ M1=>.ok (.xc c σ) M1:=rfl
@[simp] theorem ex_try {b:Ss} {hs:Hs} {els:Ss}:ex Φ (.try b hs els) σ M=(exs Φ b σ M).bind fun o M1=>match o with
  | .nx σ1=>exs Φ els σ1 M1
  | .xc c σ1=>BI Φ hs c σ1 M1
  | o=>.ok o M1:=rfl
@[simp] theorem K5 {c:Nat}:BI Φ .nil c σ M=.bad:=rfl
@[simp] theorem JA {cs:List Nat} {b:Ss} {hs:Hs} {c:Nat}:BI Φ (.cons cs b hs) c σ M=if cs.any (fun d=>Φ.sub c d) then exs Φ b σ M else BI Φ hs c σ M:=rfl
@[simp] theorem wW {tg:List Nat} {e:E}:ex Φ (.DM tg e) σ M=(ev Φ e σ M).use σ fun x M1=>match sets tg M1 x σ with | some σ1=>.ok (.nx σ1) M1 | none=>.bad:=rfl
@[simp] theorem JE {e:E}:ex Φ (.ex e) σ M=(ev Φ e σ M).use σ fun _ M1=>.ok (.nx σ) M1:=rfl
@[simp] theorem wX {e:E}:ex Φ (.ret e) σ M=(ev Φ e σ M).use σ fun x M1=>.ok (.rt x) M1:=rfl
@[simp] theorem K7:ex Φ .Eh σ M=.ok (.rt .aE) M:=rfl
@[simp] theorem jO {c:E} {a b:Ss}:ex Φ (.ifs c a b) σ M=(ev Φ c σ M).use σ fun t M1=>match t with | .bl true=>exs Φ a σ M1 | .bl false=>exs Φ b σ M1 | _=>.bad:=rfl
@[simp] theorem ex_for {tg:List Nat} {it:Src} {b:Ss}:ex Φ (.for tg it b) σ M=(cu Φ it σ M).use σ fun p M1=>(bS (exs Φ b) tg (aG M1 p.1) p.2.1 σ M1).fin (dY p.2.2 p.1):=rfl
@[simp] theorem JC {c:E} {b:Ss}:ex Φ (.while c b) σ M=qO (ev Φ c) (exs Φ b) Φ.turns σ M:=rfl
@[simp] theorem ex_brk:ex Φ .brk σ M=.ok (.bk σ) M:=rfl
@[simp] theorem K9:ex Φ .cont σ M=.ok (.ct σ) M:=rfl
@[simp] theorem K8:ex Φ .pass σ M=.ok (.nx σ) M:=rfl
@[simp] theorem gJ:exs Φ .nil σ M=.ok (.nx σ) M:=rfl
@[simp] theorem bK {s:S} {ss:Ss}:exs Φ (.cons s ss) σ M=(ex Φ s σ M).bind fun o M1=>match o with | .nx σ1=>exs Φ ss σ1 M1 | o=>.ok o M1:=rfl
end
@[simp] theorem fin_ok {α:Type} {a:α} {M:MH} {f:MH->MH}:(R.ok a M).fin f=.ok a (f M):=rfl
@[simp] theorem K3 {α:Type} {c:Nat} {M:MH} {f:MH->MH}:(R.exc c M:R α).fin f=.exc c (f M):=rfl
@[simp] theorem K4 {α:Type} {f:MH->MH}:(R.bad:R α).fin f=.bad:=rfl
@[simp] theorem unwk_f {d:D} {M:MH}:dY false d M=M:=by cases d <;> rfl
@[simp] theorem fin_f {α:Type} {x:R α} {d:D}:x.fin (dY false d)=x:=by cases x <;> simp
@[simp] theorem wk_tup {M:MH} {ds:List D}:wk M (.tup ds)=false:=rfl
@[simp] theorem wk_lst {M:MH} {ds:List D}:wk M (.lst ds)=false:=rfl
@[simp] theorem wk_str {M:MH} {x:Str}:wk M (.str x)=false:=rfl
@[simp] theorem Hw {M:MH} {ds:List D}:walk M (.tup ds)=M:=rfl
@[simp] theorem Hy {M:MH} {ds:List D}:walk M (.lst ds)=M:=rfl
@[simp] theorem Hx {M:MH} {x:Str}:walk M (.str x)=M:=rfl
theorem wk_d {M:MH} {n:Nat} {kvs:List (Ky×D)} (h:M[n]? = some (.dct kvs)):wk M (.ref n)=true:=by simp only [wk,h]
theorem DC {M:MH} {n:Nat} {kvs:List (Ky×D)} (h:M[n]? = some (.dct kvs)):walk M (.ref n)=M.set n (.gM kvs):=by simp only [walk,h]
theorem qu {α:Type} {l:List α} {n:Nat} {a b:α} (h:l[n]? = some a):(l.set n b)[n]? = some b:=by
 obtain ⟨q,_⟩:=List.getElem?_eq_some_iff.mp h
 exact List.getElem?_set_self q
theorem uL {α:Type} {l:List α} {n:Nat} {a b:α} (h:l[n]? = some a):(l.set n b).set n a=l:=by
 obtain ⟨q,e⟩:=List.getElem?_eq_some_iff.mp h
 rw [List.set_set]
 apply List.ext_getElem?
 intro i
 by_cases hi:n=i
 ·subst hi;rw [List.getElem?_set_self q,h]
 ·rw [List.getElem?_set_ne hi]
theorem DL {M:MH} {n:Nat} {kvs:List (Ky×D)} (h:M[n]? = some (.dct kvs)):dY true (.ref n) (M.set n (.gM kvs))=M:=by
 simp only [dY,qu h]
 exact uL h
theorem af {P:mL} {k i:Nat} {ds:List D} {M:MH} {fn:Fn} (h:P.fn i=some fn):(aa P (k+1)).call i ds M=aT (aa P k) fn ds M:=by simp only [aa,h]
@[simp] theorem GO {P:mL} {k:Nat}:(aa P k).glob=P.glob:=by cases k <;> rfl
@[simp] theorem Hl {P:mL} {k:Nat}:(aa P k).sub=P.sub:=by cases k <;> rfl
theorem aI {keep:Bool} {M:MH} {d:D} (h:nr M.length d=true):bh keep M d M=.ok d M:=by
 unfold bh
 by_cases hk:keep=false/\M.take M.length=M
 ·rw [if_pos hk,if_pos h]
 ·rw [if_neg hk]
theorem bV {cond elt:Sg->MH->R D} {i:Nat} {cC:MH->Bool} {M:MH} {f:D->D} {p:D->Bool} (hc:cC M=true):∀ (ds acc:List D) (σ:Sg),(∀ d∈ds,cond (σ.set i (some d)) M=.ok (.bl (p d)) M/\(p d=true->elt (σ.set i (some d)) M=.ok (f d) M)) ->
  acc.length+ds.length<=line->bN cond elt [i] cC ds σ M acc=.ok (acc++(ds.filter p).map f) M
 | [],acc,σ,_,_=>by simp [bN]
 | d::ds,acc,σ,h,hl=>by
  obtain ⟨h1,h2⟩:=h d List.mem_cons_self
  have ih:=fun acc'=>bV (cond:=cond) (elt:=elt) (i:=i) (cC:=cC) (M:=M) (f:=f) (p:=p) hc ds acc' (σ.set i (some d)) (fun e he=>by rw [List.set_set];exact h e (List.mem_cons_of_mem _ he))
  simp only [List.length_cons] at hl
  rw [bN]
  simp only [sets,h1,R.aD]
  cases hp:p d with
  | true =>
   have hlt:acc.length<line:=by omega
   simp only [h2 hp,R.aD,hc,if_true,hlt,decide_true]
   rw [ih (acc++[f d]) (by simp;omega)]
   simp [List.filter_cons,hp]
  | false =>
   simp only [hc,if_true]
   rw [ih acc (by omega)]
   simp [List.filter_cons,hp]
theorem fM {body:Sg->MH->R Out} {i:Nat} {cC:MH->Bool} (I:List D->Sg->MH->Prop) {Q:R Out->Prop}:∀ (ds:List D) (σ:Sg) (M:MH),I ds σ M ->
  (∀ d ds σ M,I (d::ds) σ M->∃ σ' M',(body (σ.set i (some d)) M=.ok (.nx σ') M'\/body (σ.set i (some d)) M=.ok (.ct σ') M')/\cC M'=true/\I ds σ' M') ->
  (∀ σ M,I [] σ M->Q (.ok (.nx σ) M))->Q (bS body [i] cC ds σ M)
 | [],σ,M,h,_,fin=>by simp only [bS];exact fin σ M h
 | d::ds,σ,M,h,step,fin=>by
  obtain ⟨σ',M',hb,hc,hI⟩:=step d ds σ M h
  rw [bS]
  simp only [sets]
  rcases hb with hb | hb <;> (simp only [hb,R.aD,hc,if_true];exact fM I ds σ' M' hI step fin)
@[simp] theorem cutl_1 {α:Type} {a:α} {l:List α}:c8 (a::l) (some 1) none=l:=by
 simp [c8,six]
@[simp] theorem cutl_2 {α:Type} {a b:α} {l:List α}:c8 (a::b::l) (some 2) none=l:=by
 simp [c8,six]
@[simp] theorem ati_0 {α:Type} {a:α} {l:List α}:jl (a::l) 0=some a:=by
 have:(0:Int)<((a::l).length:Int):=by simp only [List.length_cons];omega
 simp only [jl,qQ,if_pos (Int.le_refl 0),if_pos this];rfl
@[simp] theorem ati_1 {α:Type} {a b:α} {l:List α}:jl (a::b::l) 1=some b:=by
 have:(1:Int)<((a::b::l).length:Int):=by simp only [List.length_cons];omega
 simp only [jl,qQ,if_pos (show (0:Int)<=1 by decide),if_pos this];rfl
@[simp] theorem ati_2 {α:Type} {a b c:α} {l:List α}:jl (a::b::c::l) 2=some c:=by
 have:(2:Int)<((a::b::c::l).length:Int):=by simp only [List.length_cons];omega
 simp only [jl,qQ,if_pos (show (0:Int)<=2 by decide),if_pos this];rfl
@[simp] theorem ati_3 {α:Type} {a b c d:α} {l:List α}:jl (a::b::c::d::l) 3=some d:=by
 have:(3:Int)<((a::b::c::d::l).length:Int):=by simp only [List.length_cons];omega
 simp only [jl,qQ,if_pos (show (0:Int)<=3 by decide),if_pos this];rfl
@[simp] theorem Dq:aP D.aE D.aE=true:=by simp only [aP]
@[simp] theorem Ds {x:Int} {y:Int}:aP (D.int x) (D.int y)=decide (x=y):=by simp only [aP]
@[simp] theorem Dp {x:Str} {y:Str}:aP (D.str x) (D.str y)=decide (x=y):=by simp only [aP]
@[simp] theorem Dm {x:List D} {y:List D}:aP (D.tup x) (D.tup y)=cT x y:=by simp only [aP]
@[simp] theorem Dr {x:List D} {y:List D}:aP (D.lst x) (D.lst y)=cT x y:=by simp only [aP]
@[simp] theorem Lf:cT [] []=true:=by simp only [cT]
@[simp] theorem Lh {a:D} {l:List D}:cT (a::l) []=false:=by simp only [cT]
@[simp] theorem Lg {a:D} {l:List D}:cT [] (a::l)=false:=by simp only [cT]
@[simp] theorem Li {a b:D} {l m:List D}:cT (a::l) (b::m)=(aP a b&&cT l m):=by simp only [cT]
section
variable {Φ:cM} {σ σ':Sg} {M M1 M2:MH} {e c:E} {x:D} {ss a b:Ss} {i:Nat}
theorem ao (h:ev Φ e σ M=.ok x M1):exs Φ (.cons (.set i e) ss) σ M=exs Φ ss (σ.set i (some x)) M1:=by simp [h]
theorem Eb (h:ev Φ e σ M=.ok x M1):exs Φ (.cons (.ex e) ss) σ M=exs Φ ss σ M1:=by simp [h]
theorem bu (h:ev Φ e σ M=.ok x M1):exs Φ (.cons (.ret e) ss) σ M=.ok (.rt x) M1:=by simp [h]
theorem D9 {k:Nat} (h:ev Φ e σ M=.exc k M1):exs Φ (.cons (.ret e) ss) σ M=.ok (.xc k σ) M1:=by simp [h]
theorem aB (h:ev Φ c σ M=.ok (.bl false) M1):exs Φ (.cons (.ifs c a .nil) ss) σ M=exs Φ ss σ M1:=by simp [h]
theorem oU (h:ev Φ c σ M=.ok (.bl false) M1) (hb:exs Φ b σ M1=.ok (.nx σ') M2):exs Φ (.cons (.ifs c a b) ss) σ M=exs Φ ss σ' M2:=by simp [h,hb]
theorem qy (h:ev Φ c σ M=.ok (.bl true) M1) (ha:exs Φ a σ M1=.ok (.nx σ') M2):exs Φ (.cons (.ifs c a b) ss) σ M=exs Φ ss σ' M2:=by simp [h,ha]
theorem cH (h:ev Φ c σ M=.ok (.bl true) M1) (ha:exs Φ a σ M1=.ok (.rt x) M2):exs Φ (.cons (.ifs c a b) ss) σ M=.ok (.rt x) M2:=by simp [h,ha]
theorem qz {tg:List Nat} {it:Src} {d:D} {ds:List D} (h:cu Φ it σ M=.ok (d,ds,false) M1) (hl:bS (exs Φ b) tg (aG M1 d) ds σ M1=.ok (.nx σ') M2):exs Φ (.cons (.for tg it b) ss) σ M=exs Φ ss σ' M2:=by simp [h,hl]
theorem Ea {tg:List Nat} {it:Src} {d:D} {ds:List D} (h:cu Φ it σ M=.ok (d,ds,false) M1) (hl:bS (exs Φ b) tg (aG M1 d) ds σ M1=.ok (.rt x) M2):exs Φ (.cons (.for tg it b) ss) σ M=.ok (.rt x) M2:=by simp [h,hl]
theorem bY {P:mL} {k f:Nat} {fn:Fn} {ds:List D} {d:D} {M':MH} {r:R D} (hf:P.fn f=some fn) (hn:ds.length=fn.np) (hb:exs (aa P k) fn.body (ds.map some++List.replicate (fn.ns-fn.np) none) M=.ok (.rt d) M') (hr:bh fn.keep M d M'=r):(aa P (k+1)).call f ds M=r:=by
 rw [af hf]
 have h1:ds.length+fn.j7.length-fn.np=fn.j7.length:=by omega
 simp only [aT,h1,List.drop_length,List.append_nil,hb]
 rw [if_pos (by simp;omega)]
 exact hr
theorem eY {M:MH} {d:D} {M':MH} (h:nr M.length d=true) (ht:M'.take M.length=M):bh false M d M'=.ok d M:=by
 unfold bh;rw [if_pos ⟨rfl,ht⟩,if_pos h]
end
theorem Ah {n:Nat} (h:n<=1000000):j4 (n:Int)=true:=by simp only [j4,decide_eq_true_eq];omega
theorem Ai {n:Int} (h0:-1000000<=n) (h:n<=1000000):j4 n=true:=by simp only [j4,decide_eq_true_eq];omega
@[simp] theorem Kq {M:MH} {ds:List D}:o6 M (.tup ds)=true:=rfl
@[simp] theorem Ku {M:MH} {ds:List D}:o6 M (.lst ds)=true:=rfl
@[simp] theorem Kv {M:MH} {i:Int}:o6 M (.int i)=true:=rfl
@[simp] theorem Kr {M:MH} {x:Str}:o6 M (.str x)=true:=rfl
@[simp] theorem okT_bl {M:MH} {b:Bool}:o6 M (.bl b)=true:=rfl
@[simp] theorem Ks {M:MH}:o6 M .aE=true:=rfl
@[simp] theorem K0 {n:Nat}:kP (n+1) (some 1) none=false:=by simp [kP,six]
@[simp] theorem KZ {n:Nat}:kP (n+1+1) (some 2) none=false:=by simp [kP,six]
end Fg
end
section
namespace Fg
open PySem L2
structure Bd where
 K:W.Frag
 dk:Addr->List (Key×V)->Prop
 cls:Nat->Option Addr
 exc:Nat->Value->Prop
 Ke:Nat->Option Addr
noncomputable def KTup (K:W.Frag) (a:Addr) (xs:List V):Prop :=
 ∃ (o:Obj) (its:Array Value) (n:Nat), K.lookup a=some o/\o.cls=.type "tuple"/\o.data=.seq its n/\its.size<=sizeLine/\Vals xs its.toList
noncomputable def KLst (K:W.Frag) (a:Addr) (xs:List V):Prop :=
 ∃ (o:Obj) (its:Array Value) (n:Nat), K.lookup a=some o/\o.cls=.type "list"/\o.dict=none/\o.data=.seq its n/\its.size<=sizeLine/\Vals xs its.toList
noncomputable def FzT (B:Bd) (F:Addr->Prop) (H:Hp) (a:Addr) (xs:List V):Prop:=(F a/\Rd H a (.tup xs))\/KTup B.K a xs
noncomputable def FzL (B:Bd) (F:Addr->Prop) (H:Hp) (a:Addr) (xs:List V):Prop:=(F a/\Rd H a (.lst xs))\/KLst B.K a xs
noncomputable def FzD (B:Bd) (F:Addr->Prop) (H:Hp) (a:Addr) (kvs:List (Key×V)):Prop:=(F a/\Rd H a (.dK kvs))\/B.dk a kvs
theorem FzT.sq {B:Bd} {F:Addr->Prop} {H:Hp} {a:Addr} {xs:List V} (h:FzT B F H a xs):iH B.K H a xs:=by
 rcases h with ⟨_,h⟩ | h
 ·exact .inl h
 ·exact .inr h
theorem FzL.sq {B:Bd} {F:Addr->Prop} {H:Hp} {a:Addr} {xs:List V} (h:FzL B F H a xs):fU B.K H a xs:=by
 rcases h with ⟨_,h⟩ | h
 ·exact .inl h
 ·exact .inr h
mutual
noncomputable def RD (B:Bd) (F:Addr->Prop) (ρ:List Addr) (H:Hp):D->V->Prop
 | .aE,v=>v=.aE
 | .bl b,v=>v=.bl b
 | .int i,v=>v=.int i
 | .str x,v=>v=.str x
 | .tup ds,v=>∃ a vs,v=.ref a/\FzT B F H a vs/\aj B F ρ H ds vs
 | .lst ds,v=>∃ a vs,v=.ref a/\FzL B F H a vs/\aj B F ρ H ds vs
 | .dct ks ds,v=>∃ a kvs,v=.ref a/\FzD B F H a kvs/\kvs.map (·.1)=ks/\aj B F ρ H ds (kvs.map (·.2))
 | .ref n,v=>∃ a,ρ[n]? = some a/\v=.ref a
noncomputable def aj (B:Bd) (F:Addr->Prop) (ρ:List Addr) (H:Hp):List D->List V->Prop
 | [],vs=>vs=[]
 | d::ds,vs=>∃ v ws,vs=v::ws/\RD B F ρ H d v/\aj B F ρ H ds ws
end
structure Ext0 (F:Addr->Prop) (ρ:List Addr) (H:Hp) (F':Addr->Prop) (ρ':List Addr) (H':Hp):Prop where
 s:∀ a∈ρ,¬ F a
 f:∀ a,F a->F' a
 h:∀ a,H a≠none->a∉ρ->H' a=H a
 r:ρ <+: ρ'
 n:∀ a∈ρ',a∈ρ\/H a=none
 g:∀ a,F' a->F a\/(H a=none\/a∈ρ)
structure oE (F:Addr->Prop) (ρ:List Addr) (H:Hp) (F':Addr->Prop) (ρ':List Addr) (H':Hp):Prop where
 f:∀ a,F a->F' a
 k:∀ a,F a->H a≠none->H' a=H a
 r:ρ <+: ρ'
theorem Ext0.Hj {F F':Addr->Prop} {ρ ρ':List Addr} {H H':Hp} (e:Ext0 F ρ H F' ρ' H'):oE F ρ H F' ρ' H':=⟨e.f,fun a fa h=>e.h a h fun z=>e.s a z fa,e.r⟩
section
variable {B:Bd} {F F' F1:Addr->Prop} {ρ ρ' ρ1:List Addr} {H H' H1:Hp}
theorem Cr {a:Addr} {u:HO} (h:Rd H a u):H a≠none:=by
 rcases h with h | ⟨o,h⟩ <;> rw [h] <;> simp
theorem oE.rd (e:oE F ρ H F' ρ' H') {a:Addr} {u:HO} (f:F a) (h:Rd H a u):Rd H' a u:=by
 have q:=e.k a f (Cr h)
 rcases h with h | ⟨o,h⟩
 ·exact .inl (q.trans h)
 ·exact .inr ⟨o,q.trans h⟩
theorem oE.at (e:oE F ρ H F' ρ' H') {n:Nat} {a:Addr} (h:ρ[n]? = some a):ρ'[n]? = some a:=by
 obtain ⟨t,rfl⟩:=e.r
 have hn:n<ρ.length:=by
  rcases Nat.lt_or_ge n ρ.length with q | q
  ·exact q
  ·rw [List.getElem?_eq_none_iff.mpr q] at h;cases h
 rw [List.getElem?_append_left hn];exact h
mutual
theorem RD.bJ (e:oE F ρ H F' ρ' H'):∀ (d:D) (v:V),RD B F ρ H d v->RD B F' ρ' H' d v
 | .aE,v,h=>h
 | .bl _,v,h=>h
 | .int _,v,h=>h
 | .str _,v,h=>h
 | .tup ds,v,h=>by
  simp only [RD] at h ⊢
  obtain ⟨a,vs,h1,h2,h3⟩:=h
  refine ⟨a,vs,h1,?_,aj.bJ e ds vs h3⟩
  rcases h2 with ⟨f,r⟩ | h2
  ·exact .inl ⟨e.f a f,e.rd f r⟩
  ·exact .inr h2
 | .lst ds,v,h=>by
  simp only [RD] at h ⊢
  obtain ⟨a,vs,h1,h2,h3⟩:=h
  refine ⟨a,vs,h1,?_,aj.bJ e ds vs h3⟩
  rcases h2 with ⟨f,r⟩ | h2
  ·exact .inl ⟨e.f a f,e.rd f r⟩
  ·exact .inr h2
 | .dct ks ds,v,h=>by
  simp only [RD] at h ⊢
  obtain ⟨a,kvs,h1,h2,h4,h3⟩:=h
  refine ⟨a,kvs,h1,?_,h4,aj.bJ e ds _ h3⟩
  rcases h2 with ⟨f,r⟩ | h2
  ·exact .inl ⟨e.f a f,e.rd f r⟩
  ·exact .inr h2
 | .ref n,v,h=>by
  simp only [RD] at h ⊢
  obtain ⟨a,h1,h2⟩:=h
  exact ⟨a,e.at h1,h2⟩
theorem aj.bJ (e:oE F ρ H F' ρ' H'):∀ (ds:List D) (vs:List V),aj B F ρ H ds vs->aj B F' ρ' H' ds vs
 | [],vs,h=>h
 | d::ds,vs,h=>by
  simp only [aj] at h ⊢
  obtain ⟨v,ws,h1,h2,h3⟩:=h
  exact ⟨v,ws,h1,RD.bJ e d v h2,aj.bJ e ds ws h3⟩
end
theorem Ext0.at (e:Ext0 F ρ H F' ρ' H') {n:Nat} {a:Addr} (h:ρ[n]? = some a):ρ'[n]? = some a:=e.Hj.at h
theorem RD.bW (e:Ext0 F ρ H F' ρ' H') (d:D) (v:V) (h:RD B F ρ H d v):RD B F' ρ' H' d v:=RD.bJ e.Hj d v h
theorem aj.bW (e:Ext0 F ρ H F' ρ' H') (ds:List D) (vs:List V) (h:aj B F ρ H ds vs):aj B F' ρ' H' ds vs:=aj.bJ e.Hj ds vs h
structure Ext (F:Addr->Prop) (ρ:List Addr) (H:Hp) (F':Addr->Prop) (ρ':List Addr) (H':Hp):Prop extends Ext0 F ρ H F' ρ' H' where
 z:∀ a o u,H a=some (.fN o u)->H' a=some (.fN o u)
theorem RD.mono (e:Ext F ρ H F' ρ' H') (d:D) (v:V) (h:RD B F ρ H d v):RD B F' ρ' H' d v:=RD.bW e.toExt0 d v h
theorem aj.mono (e:Ext F ρ H F' ρ' H') (ds:List D) (vs:List V) (h:aj B F ρ H ds vs):aj B F' ρ' H' ds vs:=aj.bW e.toExt0 ds vs h
theorem Ext.trans (a:Ext F ρ H F1 ρ1 H1) (b:Ext F1 ρ1 H1 F' ρ' H'):Ext F ρ H F' ρ' H' where
 s:=a.s
 f:=fun x h=>b.f x (a.f x h)
 h:=fun x h1 h2=>by
  have q:=a.h x h1 h2
  have n1:x∉ρ1:=fun z=>(a.n x z).elim h2 h1
  exact (b.h x (by rw [q];exact h1) n1).trans q
 r:=List.IsPrefix.trans a.r b.r
 n:=fun x hx=>by
  rcases b.n x hx with q | q
  ·exact a.n x q
  ·by_cases hr:x∈ρ
   ·exact .inl hr
   ·refine .inr ?_
    cases hh:H x with
    | none=>rfl
    | some u =>
     have:=a.h x (by rw [hh];simp) hr
     rw [q,hh] at this;cases this
 g:=fun x hx=>by
  rcases b.g x hx with q | q | q
  ·exact a.g x q
  ·by_cases hr:x∈ρ
   ·exact .inr (.inr hr)
   ·refine .inr (.inl ?_)
    cases hh:H x with
    | none=>rfl
    | some u =>
     have:=a.h x (by rw [hh];simp) hr
     rw [q,hh] at this;cases this
  ·rcases a.n x q with z | z
   ·exact .inr (.inr z)
   ·exact .inr (.inl z)
 z:=fun x o u h=>b.z x o u (a.z x o u h)
theorem Ext.refl (s:∀ a∈ρ,¬ F a):Ext F ρ H F ρ H:=⟨⟨s,fun _ h=>h,fun _ _ _=>rfl,List.prefix_refl _,fun _ h=>.inl h,fun _ h=>.inl h⟩,fun _ _ _ h=>h⟩
end
noncomputable def MR (B:Bd) (F:Addr->Prop) (ρ:List Addr) (H:Hp):MO->Addr->Prop
 | .lst ds,a=>∃ vs,H a=some (.lst vs)/\aj B F ρ H ds vs
 | .dct kvs,a=>∃ kws,H a=some (.dK kws)/\kws.map (·.1)=kvs.map (·.1)/\aj B F ρ H (kvs.map (·.2)) (kws.map (·.2))
 | .gM kvs,a=>∃ o kws,H a=some (.fN o (.dK kws))/\kws.map (·.1)=kvs.map (·.1)/\aj B F ρ H (kvs.map (·.2)) (kws.map (·.2))
 | .ins c fs,a=>∃ C dx Di,B.cls c=some C/\H a=some (.ins C dx Di)/\Di.map (·.1)=fs.map (·.1)/\aj B F ρ H (fs.map (·.2)) (Di.map (·.2))
theorem MR.bJ {B:Bd} {F F':Addr->Prop} {ρ ρ':List Addr} {H H':Hp} (e:oE F ρ H F' ρ' H') {a:Addr} (ha:H' a=H a):∀ {o:MO},MR B F ρ H o a->MR B F' ρ' H' o a
 | .lst ds,⟨vs,h1,h2⟩=>⟨vs,ha.trans h1,aj.bJ e _ _ h2⟩
 | .dct kvs,⟨kws,h1,h2,h3⟩=>⟨kws,ha.trans h1,h2,aj.bJ e _ _ h3⟩
 | .gM kvs,⟨o,kws,h1,h2,h3⟩=>⟨o,kws,ha.trans h1,h2,aj.bJ e _ _ h3⟩
 | .ins c fs,⟨C,dx,Di,h0,h1,h2,h3⟩=>⟨C,dx,Di,h0,ha.trans h1,h2,aj.bJ e _ _ h3⟩
theorem MR.bW {B:Bd} {F F':Addr->Prop} {ρ ρ':List Addr} {H H':Hp} (e:Ext0 F ρ H F' ρ' H') {a:Addr} (ha:H' a=H a) {o:MO} (h:MR B F ρ H o a):MR B F' ρ' H' o a:=h.bJ e.Hj ha
theorem MR.mono {B:Bd} {F F':Addr->Prop} {ρ ρ':List Addr} {H H':Hp} (e:Ext F ρ H F' ρ' H') {a:Addr} (ha:H' a=H a) {o:MO} (h:MR B F ρ H o a):MR B F' ρ' H' o a:=h.bW e.toExt0 ha
theorem MR.ne {B:Bd} {F:Addr->Prop} {ρ:List Addr} {H:Hp} {a:Addr}:∀ {o:MO},MR B F ρ H o a->H a≠none
 | .lst ds,⟨vs,h1,h2⟩=>by rw [h1];simp
 | .dct kvs,⟨kws,h1,_⟩=>by rw [h1];simp
 | .gM kvs,⟨o,kws,h1,_⟩=>by rw [h1];simp
 | .ins c fs,⟨C,dx,Di,_,h1,_⟩=>by rw [h1];simp
structure SR (B:Bd) (F:Addr->Prop) (ρ:List Addr) (M:MH) (H:Hp):Prop where
 len:ρ.length=M.length
 nd:ρ.Nodup
 sep:∀ a∈ρ,¬ F a
 BD:∀ a,F a->H a≠none
 obj:∀ (n:Nat) (a:Addr) (o:MO),ρ[n]? = some a->M[n]? = some o->MR B F ρ H o a
section
variable {B:Bd} {F F' F1:Addr->Prop} {ρ ρ' ρ1:List Addr} {H H' H1:Hp} {M M':MH}
theorem SR.ne (S:SR B F ρ M H) {a:Addr} (h:a∈ρ):H a≠none:=by
 obtain ⟨n,hn,e⟩:=List.mem_iff_getElem.mp h
 have hm:n<M.length:=by rw [<- S.len];exact hn
 exact (S.obj n a M[n] (by rw [List.getElem?_eq_getElem hn,e]) (List.getElem?_eq_getElem hm)).ne
theorem SR.new (S:SR B F ρ M H) {p:Addr} (h:H p=none):p∉ρ/\¬ F p:=⟨fun z=>S.ne z h,fun z=>S.BD p z h⟩
theorem SR.refl (S:SR B F ρ M H):Ext F ρ H F ρ H:=Ext.refl S.sep
theorem SR.fz (S:SR B F ρ M H) {p:Addr} (h:H p=none) (o:HO):SR B (fun a=>F a\/a=p) ρ M (upd H p o)/\Ext F ρ H (fun a=>F a\/a=p) ρ (upd H p o):=by
 obtain ⟨np,nf⟩:=S.new h
 have e:Ext F ρ H (fun a=>F a\/a=p) ρ (upd H p o):=⟨⟨S.sep,fun a q=>.inl q,fun a q _=>ak (by rintro rfl;exact q h),List.prefix_refl _,fun a q=>.inl q,fun a q=>q.elim .inl fun z=>.inr (.inl (z ▸ h))⟩,fun b w u q=>by rw [ak (by rintro rfl;rw [h] at q;cases q)];exact q⟩
 refine ⟨⟨S.len,S.nd,fun a ha z=>?_,fun a z=>?_,fun n a u h1 h2=>?_⟩,e⟩
 ·rcases z with z | z
  ·exact S.sep a ha z
  ·subst z;exact np ha
 ·by_cases q:a=p
  ·subst q;rw [aL];simp
  ·rw [ak q]
   rcases z with z | z
   ·exact S.BD a z
   ·exact absurd z q
 ·have m:=S.obj n a u h1 h2
  exact m.mono e (ak (by rintro rfl;exact m.ne h))
theorem SR.lv (S:SR B F ρ M H) {p:Addr} (h:H p=none) {o:HO} {u:MO} (hu:MR B F (ρ++[p]) (upd H p o) u p):SR B F (ρ++[p]) (M++[u]) (upd H p o)/\Ext F ρ H F (ρ++[p]) (upd H p o):=by
 obtain ⟨np,nf⟩:=S.new h
 have e:Ext F ρ H F (ρ++[p]) (upd H p o):=⟨⟨S.sep,fun a q=>q,fun a q _=>ak (by rintro rfl;exact q h),List.prefix_append _ _,fun a q=>by
  rcases List.mem_append.mp q with q | q
  ·exact .inl q
  ·rw [List.mem_singleton.mp q];exact .inr h,fun _ q=>.inl q⟩,fun b w u q=>by rw [ak (by rintro rfl;rw [h] at q;cases q)];exact q⟩
 refine ⟨⟨by simp [S.len],?_,fun a ha z=>?_,fun a z=>?_,fun n a w h1 h2=>?_⟩,e⟩
 ·rw [List.nodup_append]
  refine ⟨S.nd,by simp,fun a ha b hb=>?_⟩
  rw [List.mem_singleton.mp hb]
  rintro rfl
  exact np ha
 ·rcases List.mem_append.mp ha with q | q
  ·exact S.sep a q z
  ·rw [List.mem_singleton.mp q] at z;exact nf z
 ·have q:a≠p:=by rintro rfl;exact nf z
  rw [ak q];exact S.BD a z
 ·by_cases hn:n<ρ.length
  ·rw [List.getElem?_append_left hn] at h1
   rw [List.getElem?_append_left (by rw [<- S.len];exact hn)] at h2
   have m:=S.obj n a w h1 h2
   exact m.mono e (ak (by rintro rfl;exact m.ne h))
  ·have hn':ρ.length<=n:=Nat.le_of_not_lt hn
   rw [List.getElem?_append_right hn'] at h1
   rw [List.getElem?_append_right (by rw [<- S.len];exact hn'),<- S.len] at h2
   cases k:n-ρ.length with
   | zero =>
    rw [k] at h1 h2
    cases h1;cases h2
    exact hu
   | succ j=>rw [k] at h1;simp at h1
theorem SR.iR (S:SR B F ρ M H) {n:Nat} {a:Addr} {o:HO} {u:MO} (hn:ρ[n]? = some a) (hu:MR B F ρ (upd H a o) u a):SR B F ρ (M.set n u) (upd H a o)/\Ext0 F ρ H F ρ (upd H a o):=by
 have ha:a∈ρ:=List.mem_of_getElem? hn
 have e:Ext0 F ρ H F ρ (upd H a o):=⟨S.sep,fun _ q=>q,fun b q nb=>ak (by rintro rfl;exact nb ha),List.prefix_refl _,fun _ q=>.inl q,fun _ q=>.inl q⟩
 refine ⟨⟨by simp [S.len],S.nd,S.sep,fun b z=>?_,fun m b w h1 h2=>?_⟩,e⟩
 ·have q:b≠a:=by rintro rfl;exact S.sep b ha z
  rw [ak q];exact S.BD b z
 ·by_cases q:m=n
  ·subst q
   rw [hn] at h1;cases h1
   rw [List.getElem?_set] at h2
   split at h2
   ·split at h2
    ·cases h2;exact hu
    ·cases h2
   ·rename_i z;exact absurd rfl z
  ·rw [List.getElem?_set_ne (Ne.symm q)] at h2
   have ne:b≠a:=by
    rintro rfl
    obtain ⟨m1,e1⟩:=List.getElem?_eq_some_iff.mp h1
    obtain ⟨m2,e2⟩:=List.getElem?_eq_some_iff.mp hn
    exact q ((List.getElem_inj S.nd).mp (e1.trans e2.symm))
   exact (S.obj m b w h1 h2).bW e (ak ne)
theorem SR.st (S:SR B F ρ M H) {n:Nat} {a:Addr} {o:HO} {u:MO} (hn:ρ[n]? = some a) (hz:∀ w v,H a≠some (.fN w v)) (hu:MR B F ρ (upd H a o) u a):SR B F ρ (M.set n u) (upd H a o)/\Ext F ρ H F ρ (upd H a o) :=
 ⟨(S.iR hn hu).1,⟨(S.iR hn hu).2,fun b w v q=>by rw [ak (by rintro rfl;exact hz w v q)];exact q⟩⟩
theorem Ext0.at_ (S:SR B F ρ M H) {n:Nat} {a:Addr} {o:HO} (hn:ρ[n]? = some a):Ext0 F ρ H F ρ (upd H a o) :=
 ⟨S.sep,fun _ q=>q,fun b q nb=>ak (by rintro rfl;exact nb (List.mem_of_getElem? hn)),List.prefix_refl _,fun _ q=>.inl q,fun _ q=>.inl q⟩
theorem oE.side {D:Addr} (hF:¬ F D) (o:HO):oE F ρ H F ρ (upd H D o):=⟨fun _ h=>h,fun a fa _=>ak (by rintro rfl;exact hF fa),List.prefix_refl _⟩
theorem SR.side (S:SR B F ρ M H) {D:Addr} (hD:D∉ρ) (hF:¬ F D) (o:HO):SR B F ρ M (upd H D o) :=
 ⟨S.len,S.nd,S.sep,fun a fa=>by rw [ak (by rintro rfl;exact hF fa)];exact S.BD a fa,fun n a w h1 h2=>(S.obj n a w h1 h2).bJ (oE.side hF o) (ak (by rintro rfl;exact hD (List.mem_of_getElem? h1)))⟩
theorem SR.take (S:SR B F ρ M H) {D:Addr} (hD:D∉ρ) (hn:H D≠none):SR B (fun a=>F a\/a=D) ρ M H :=
 ⟨S.len,S.nd,fun a ha z=>z.elim (S.sep a ha) fun e=>hD (e ▸ ha),fun a z=>z.elim (S.BD a) fun e=>e ▸ hn,fun n a w h1 h2=>(S.obj n a w h1 h2).bJ ⟨fun _ h=>.inl h,fun _ _ _=>rfl,List.prefix_refl _⟩ rfl⟩
theorem SR.hold (S:SR B F ρ M H) {D:Addr} {u:MO} (hD:D∉ρ) (hF:¬ F D) (hu:MR B F (ρ++[D]) H u D):SR B F (ρ++[D]) (M++[u]) H:=by
 refine ⟨by simp [S.len],?_,fun a ha z=>?_,S.BD,fun n a w h1 h2=>?_⟩
 ·rw [List.nodup_append]
  refine ⟨S.nd,by simp,fun a ha b hb=>?_⟩
  rw [List.mem_singleton.mp hb]
  rintro rfl
  exact hD ha
 ·rcases List.mem_append.mp ha with q | q
  ·exact S.sep a q z
  ·rw [List.mem_singleton.mp q] at z;exact hF z
 ·by_cases hn:n<ρ.length
  ·rw [List.getElem?_append_left hn] at h1
   rw [List.getElem?_append_left (by rw [<- S.len];exact hn)] at h2
   exact (S.obj n a w h1 h2).bJ ⟨fun _ h=>h,fun _ _ _=>rfl,List.prefix_append _ _⟩ rfl
  ·have hn':ρ.length<=n:=Nat.le_of_not_lt hn
   rw [List.getElem?_append_right hn'] at h1
   rw [List.getElem?_append_right (by rw [<- S.len];exact hn'),<- S.len] at h2
   cases k:n-ρ.length with
   | zero =>
    rw [k] at h1 h2
    cases h1;cases h2
    exact hu
   | succ j=>rw [k] at h1;simp at h1
theorem SR.wk (S:SR B F ρ M H) {n:Nat} {a:Addr} {kvs:List (Ky×D)} {kws:List (Key×V)} (o:Obj) (hn:ρ[n]? = some a) (hM:M[n]? = some (.dct kvs)) (hH:H a=some (.dK kws)) :
  SR B F ρ (M.set n (.gM kvs)) (upd H a (.fN o (.dK kws)))/\Ext F ρ H F ρ (upd H a (.fN o (.dK kws))):=by
 obtain ⟨kws',h1,h2,h3⟩:=S.obj n a _ hn hM
 rw [hH] at h1;cases h1
 exact S.st (o:=.fN o (.dK kws)) (u:=.gM kvs) hn (fun w v q=>by rw [hH] at q;cases q) ⟨o,kws,aL,h2,aj.bW (Ext0.at_ S hn) _ _ h3⟩
theorem SR.uw (S:SR B F ρ M H) {n:Nat} {a:Addr} {kvs:List (Ky×D)} (hn:ρ[n]? = some a) (hM:M[n]? = some (.gM kvs)):∃ o kws,H a=some (.fN o (.dK kws)) /\
  SR B F ρ (M.set n (.dct kvs)) (upd H a (.dK kws)):=by
 obtain ⟨o,kws,h1,h2,h3⟩:=S.obj n a _ hn hM
 exact ⟨o,kws,h1,(S.iR (o:=.dK kws) (u:=.dct kvs) hn ⟨kws,aL,h2,aj.bW (Ext0.at_ S hn) _ _ h3⟩).1⟩
theorem Ext.thaw (e:Ext F ρ H F' ρ' H') {a:Addr} {o:HO} (ha:a∈ρ') (hn:∀ w v,H a≠some (.fN w v)) (hF:∀ b∈ρ',¬ F' b):Ext F ρ H F' ρ' (upd H' a o) :=
 ⟨⟨e.s,e.f,fun b q nb=>by
  by_cases hb:b=a
  ·subst hb
   rcases e.n b ha with z | z
   ·exact absurd z nb
   ·exact absurd z q
  ·rw [ak hb];exact e.h b q nb,e.r,e.n,e.g⟩,fun b w v q=>by rw [ak (by rintro rfl;exact hn w v q)];exact e.z b w v q⟩
end
section
variable {B:Bd} {F F' F1:Addr->Prop} {ρ ρ' ρ1:List Addr} {H H' H1:Hp} {M M':MH}
theorem aj.length:∀ {ds:List D} {vs:List V},aj B F ρ H ds vs->ds.length=vs.length
 | [],vs,h=>by simp only [aj] at h;subst h;rfl
 | d::ds,vs,h=>by
  simp only [aj] at h
  obtain ⟨v,ws,rfl,_,h3⟩:=h
  simp [aj.length h3]
theorem aj.cons {d:D} {v:V} {ds:List D} {vs:List V} (h:RD B F ρ H d v) (t:aj B F ρ H ds vs):aj B F ρ H (d::ds) (v::vs):=by
 simp only [aj];exact ⟨v,vs,rfl,h,t⟩
theorem aj.nil:aj B F ρ H [] []:=by simp only [aj]
theorem aj.append:∀ {ds es:List D} {vs ws:List V},aj B F ρ H ds vs->aj B F ρ H es ws->aj B F ρ H (ds++es) (vs++ws)
 | [],es,vs,ws,h,t=>by simp only [aj] at h;subst h;exact t
 | d::ds,es,vs,ws,h,t=>by
  simp only [aj] at h
  obtain ⟨v,us,rfl,h2,h3⟩:=h
  exact aj.cons h2 (aj.append h3 t)
theorem aj.get:∀ {ds:List D} {vs:List V} {i:Nat} {d:D},aj B F ρ H ds vs->ds[i]? = some d->∃ v,vs[i]? = some v/\RD B F ρ H d v
 | [],vs,i,d,h,e=>by simp at e
 | d::ds,vs,i,d',h,e=>by
  simp only [aj] at h
  obtain ⟨v,ws,rfl,h2,h3⟩:=h
  cases i with
  | zero=>simp at e;subst e;exact ⟨v,rfl,h2⟩
  | succ i=>simp at e;simpa using aj.get (i:=i) h3 e
theorem aj.take:∀ {ds:List D} {vs:List V} (n:Nat),aj B F ρ H ds vs->aj B F ρ H (ds.take n) (vs.take n)
 | [],vs,n,h=>by simp only [aj] at h;subst h;simp [aj]
 | d::ds,vs,n,h=>by
  simp only [aj] at h
  obtain ⟨v,ws,rfl,h2,h3⟩:=h
  cases n with
  | zero=>simp [aj]
  | succ n=>simp only [List.take_succ_cons];exact aj.cons h2 (aj.take n h3)
theorem aj.drop:∀ {ds:List D} {vs:List V} (n:Nat),aj B F ρ H ds vs->aj B F ρ H (ds.drop n) (vs.drop n)
 | [],vs,n,h=>by simp only [aj] at h;subst h;simp [aj]
 | d::ds,vs,n,h=>by
  cases n with
  | zero=>exact h
  | succ n =>
   simp only [aj] at h
   obtain ⟨v,ws,rfl,h2,h3⟩:=h
   simp only [List.drop_succ_cons];exact aj.drop n h3
theorem aj.set:∀ {ds:List D} {vs:List V} {d:D} {v:V} (i:Nat),aj B F ρ H ds vs->RD B F ρ H d v->aj B F ρ H (ds.set i d) (vs.set i v)
 | [],vs,d,v,i,h,q=>by simp only [aj] at h;subst h;simp [aj]
 | e::ds,vs,d,v,i,h,q=>by
  simp only [aj] at h
  obtain ⟨u,ws,rfl,h2,h3⟩:=h
  cases i with
  | zero=>simp only [List.set_cons_zero];exact aj.cons q h3
  | succ i=>simp only [List.set_cons_succ];exact aj.cons h2 (aj.set i h3 q)
mutual
theorem RD.nr:∀ {d:D} {v:V},RD B F ρ H d v->nr ρ.length d=true
 | .aE,v,h=>by simp [Fg.nr]
 | .bl _,v,h=>by simp [Fg.nr]
 | .int _,v,h=>by simp [Fg.nr]
 | .str _,v,h=>by simp [Fg.nr]
 | .tup ds,v,h=>by simp only [RD] at h;obtain ⟨a,vs,h1,h2,h3⟩:=h;simp only [Fg.nr];exact aj.nr h3
 | .lst ds,v,h=>by simp only [RD] at h;obtain ⟨a,vs,h1,h2,h3⟩:=h;simp only [Fg.nr];exact aj.nr h3
 | .dct ks ds,v,h=>by simp only [RD] at h;obtain ⟨a,vs,h1,h2,_,h3⟩:=h;simp only [Fg.nr];exact aj.nr h3
 | .ref n,v,h=>by
  simp only [RD] at h;obtain ⟨a,h1,h2⟩:=h;simp only [Fg.nr]
  obtain ⟨q,_⟩:=List.getElem?_eq_some_iff.mp h1
  exact decide_eq_true q
theorem aj.nr:∀ {ds:List D} {vs:List V},aj B F ρ H ds vs->aY ρ.length ds=true
 | [],vs,h=>by simp [aY]
 | d::ds,vs,h=>by
  simp only [aj] at h
  obtain ⟨v,ws,rfl,h2,h3⟩:=h
  simp only [aY,RD.nr h2,aj.nr h3,Bool.and_self]
end
mutual
theorem RD.cut (hp:ρ <+: ρ'):∀ {d:D} {v:V},Fg.nr ρ.length d=true->RD B F ρ' H d v->RD B F ρ H d v
 | .aE,v,_,h=>h
 | .bl _,v,_,h=>h
 | .int _,v,_,h=>h
 | .str _,v,_,h=>h
 | .tup ds,v,q,h=>by
  simp only [Fg.nr] at q;simp only [RD] at h ⊢
  obtain ⟨a,vs,h1,h2,h3⟩:=h
  exact ⟨a,vs,h1,h2,aj.cut hp q h3⟩
 | .lst ds,v,q,h=>by
  simp only [Fg.nr] at q;simp only [RD] at h ⊢
  obtain ⟨a,vs,h1,h2,h3⟩:=h
  exact ⟨a,vs,h1,h2,aj.cut hp q h3⟩
 | .dct ks ds,v,q,h=>by
  simp only [Fg.nr] at q;simp only [RD] at h ⊢
  obtain ⟨a,vs,h1,h2,h4,h3⟩:=h
  exact ⟨a,vs,h1,h2,h4,aj.cut hp q h3⟩
 | .ref n,v,q,h=>by
  simp only [Fg.nr] at q;simp only [RD] at h ⊢
  obtain ⟨a,h1,h2⟩:=h
  obtain ⟨t,rfl⟩:=hp
  rw [List.getElem?_append_left (of_decide_eq_true q)] at h1
  exact ⟨a,h1,h2⟩
theorem aj.cut (hp:ρ <+: ρ'):∀ {ds:List D} {vs:List V},aY ρ.length ds=true->aj B F ρ' H ds vs->aj B F ρ H ds vs
 | [],vs,_,h=>h
 | d::ds,vs,q,h=>by
  simp only [aY,Bool.and_eq_true] at q;simp only [aj] at h ⊢
  obtain ⟨v,ws,rfl,h2,h3⟩:=h
  exact ⟨v,ws,rfl,RD.cut hp q.1 h2,aj.cut hp q.2 h3⟩
end
theorem MR.cut (hp:ρ <+: ρ') {a:Addr} {F0:Addr->Prop} {H0:Hp} {a0:Addr}:∀ {o:MO},MR B F0 ρ H0 o a0->MR B F ρ' H o a->MR B F ρ H o a
 | .lst ds,⟨_,_,k⟩,⟨vs,h1,h2⟩=>⟨vs,h1,aj.cut hp (aj.nr k) h2⟩
 | .dct kvs,⟨_,_,_,k⟩,⟨kws,h1,h2,h3⟩=>⟨kws,h1,h2,aj.cut hp (aj.nr k) h3⟩
 | .gM kvs,⟨_,_,_,_,k⟩,⟨o,kws,h1,h2,h3⟩=>⟨o,kws,h1,h2,aj.cut hp (aj.nr k) h3⟩
 | .ins c fs,⟨_,_,_,_,_,_,k⟩,⟨C,dx,Di,h0,h1,h2,h3⟩=>⟨C,dx,Di,h0,h1,h2,aj.cut hp (aj.nr k) h3⟩
theorem SR.cut (S:SR B F ρ M H) (S':SR B F' ρ' M' H') (e:Ext F ρ H F' ρ' H') (hm:M'.take M.length=M):SR B F' ρ M H' where
 len:=S.len
 nd:=S.nd
 sep:=fun a ha=>S'.sep a (e.r.subset ha)
 BD:=S'.BD
 obj:=fun n a o h1 h2=>by
  have m':M'[n]? = some o:=by
   rw [<- hm] at h2
   rw [List.getElem?_take] at h2
   split at h2
   ·exact h2
   ·cases h2
  exact MR.cut e.r (S.obj n a o h1 h2) (S'.obj n a o (e.at h1) m')
theorem Ext.cut (e:Ext F ρ H F' ρ' H'):Ext F ρ H F' ρ H':=⟨⟨e.s,e.f,e.h,List.prefix_refl _,fun _ h=>.inl h,e.g⟩,e.z⟩
end
end Fg
end
section
namespace Fg
open PySem L2
noncomputable def yW (th:Addr->Prop) (H H':Hp):Prop:=H'=H\/∃ a o kvs,th a/\H a=some (.fN o (.dK kvs))/\H'=upd H a (.dK kvs)
noncomputable abbrev XS:=Value->Option Addr->St->Hp->Prop
structure Gx where
 e:XS
 th:Addr->Prop
 cl:∀ cv x σ H H',yW th H H'->e cv x σ H'->e cv x σ H
noncomputable def ah {α β:Type} (rel:(Addr->Prop)->List Addr->Hp->α->β->Prop) (B:Bd) (r:R α) (F:Addr->Prop) (ρ:List Addr) (H:Hp) (Q:β->Hp->Prop) (E:XK):Prop :=
 match r with
 | .ok d M'=>∀ F' ρ' H' v,Ext F ρ H F' ρ' H'->SR B F' ρ' M' H'->rel F' ρ' H' d v->Q v H'
 | .exc c M'=>∀ F' ρ' H' cv x,Ext F ρ H F' ρ' H'->SR B F' ρ' M' H'->B.exc c cv->E cv x H'
 | .bad=>False
noncomputable abbrev Post (B:Bd):=ah (RD B) B
noncomputable abbrev J1 (B:Bd):=ah (aj B) B
section
variable {B:Bd} {F F' F1:Addr->Prop} {ρ ρ' ρ1:List Addr} {H H' H1:Hp} {M M':MH} {E:XK}
theorem ah.weak {α β:Type} {rel:(Addr->Prop)->List Addr->Hp->α->β->Prop} {r:R α} {Q:β->Hp->Prop} (e:Ext F ρ H F1 ρ1 H1) (h:ah rel B r F ρ H Q E):ah rel B r F1 ρ1 H1 Q E:=by
 cases r with
 | ok d M'=>exact fun F' ρ' H' v e' S r=>h F' ρ' H' v (e.trans e') S r
 | exc c M'=>exact fun F' ρ' H' cv x e' S r=>h F' ρ' H' cv x (e.trans e') S r
 | bad=>exact h
theorem ah.imp {α β:Type} {rel:(Addr->Prop)->List Addr->Hp->α->β->Prop} {r:R α} {Q Q':β->Hp->Prop} (h:ah rel B r F ρ H Q E) (k:∀ v H',Q v H'->Q' v H'):ah rel B r F ρ H Q' E:=by
 cases r with
 | ok d M'=>exact fun F' ρ' H' v e' S r=>k _ _ (h F' ρ' H' v e' S r)
 | exc c M'=>exact h
 | bad=>exact h
theorem ah.bind {α β α' β':Type} {rel:(Addr->Prop)->List Addr->Hp->α->β->Prop} {rel':(Addr->Prop)->List Addr->Hp->α'->β'->Prop} {x:R α} {f:α->MH->R α'} {Q:β'->Hp->Prop} (h:ah rel' B (x.bind f) F ρ H Q E) :
  ah rel B x F ρ H (fun v H'=>∃ d M' F' ρ',Ext F ρ H F' ρ' H'/\SR B F' ρ' M' H'/\rel F' ρ' H' d v/\ah rel' B (f d M') F' ρ' H' Q E) E:=by
 cases x with
 | ok d M'=>exact fun F' ρ' H' v e S r=>⟨d,M',F',ρ',e,S,r,ah.weak e h⟩
 | exc c M'=>exact h
 | bad=>exact h
theorem ah.run {α β:Type} {rel:(Addr->Prop)->List Addr->Hp->α->β->Prop} {d:α} {Q:β->Hp->Prop} {v:β} (h:ah rel B (.ok d M) F ρ H Q E) (S:SR B F ρ M H) (r:rel F ρ H d v):Q v H :=
 h F ρ H v S.refl S r
end
structure RS (B:Bd) (F:Addr->Prop) (ρ:List Addr) (H:Hp) (σD:Sg) (σ:St):Prop where
 len:σ.length=σD.length
 get:∀ (i:Nat) (d:D),σD[i]? = some (some d)->∃ v,σ[i]? = some (some v)/\RD B F ρ H d v
section
variable {B:Bd} {F F' F1:Addr->Prop} {ρ ρ' ρ1:List Addr} {H H' H1:Hp} {M M':MH} {σD:Sg} {σ:St}
theorem RS.mono (e:Ext F ρ H F' ρ' H') (h:RS B F ρ H σD σ):RS B F' ρ' H' σD σ :=
 ⟨h.len,fun i d q=>let ⟨v,h1,h2⟩:=h.get i d q;⟨v,h1,RD.mono e d v h2⟩⟩
theorem RS.set (h:RS B F ρ H σD σ) {d:D} {v:V} (r:RD B F ρ H d v) (i:Nat):RS B F ρ H (σD.set i (some d)) (σ.set i (some v)):=by
 refine ⟨by simp [h.len],fun j d' q=>?_⟩
 rw [List.getElem?_set] at q ⊢
 split at q
 ·rename_i e
  split at q
  ·rename_i l
   cases q
   refine ⟨v,?_,r⟩
   rw [if_pos e,if_pos (by rw [h.len];exact l)]
  ·cases q
 ·rename_i e
  rw [if_neg e]
  exact h.get j d' q
end
noncomputable def T (B:Bd) (Φ:cM) (E:Gx) (c:Fg.E):TE:=fun σ H Q=>∃ (σD:Sg) (M:MH) (F:Addr->Prop) (ρ:List Addr),
 SR B F ρ M H/\RS B F ρ H σD σ/\Post B (ev Φ c σD M) F ρ H Q (fun cv x H'=>E.e cv x σ H')
noncomputable def TB (B:Bd) (Φ:cM) (E:Gx) (c:Fg.E):TT:=fun σ H Q=>T B Φ E c σ H fun v H'=>∃ b,v=.bl b/\Q b H'
noncomputable def TL (B:Bd) (Φ:cM) (E:Gx) (c:Es):TA:=fun σ H Q=>∃ (σD:Sg) (M:MH) (F:Addr->Prop) (ρ:List Addr),
 SR B F ρ M H/\RS B F ρ H σD σ/\J1 B (fF Φ c σD M) F ρ H Q (fun cv x H'=>E.e cv x σ H')
noncomputable def TP (B:Bd) (Φ:cM) (E:Gx) (c:O):TO:=fun σ H Q=>∃ (σD:Sg) (M:MH) (F:Addr->Prop) (ρ:List Addr),
 SR B F ρ M H/\RS B F ρ H σD σ/\ah (fun _ _ _ (a b:Option Int)=>a=b) B (BJ Φ c σD M) F ρ H Q (fun cv x H'=>E.e cv x σ H')
section
variable {B:Bd} {Φ:cM} {E:Gx} {F F' F1:Addr->Prop} {ρ ρ' ρ1:List Addr} {H H' H1:Hp} {M M':MH} {σD:Sg} {σ:St} {Q:VK}
theorem T.one {a:Fg.E} {g:D->MH->R D} {W:V->Hp->Prop} {X:XK} (S:SR B F ρ M H) (r:RS B F ρ H σD σ) (hX:X=fun cv x H'=>E.e cv x σ H') (h:Post B ((ev Φ a σD M).bind g) F ρ H Q X)
  (k:∀ x M1 F1 ρ1 H1 v,Ext F ρ H F1 ρ1 H1->SR B F1 ρ1 M1 H1->RS B F1 ρ1 H1 σD σ->RD B F1 ρ1 H1 x v->Post B (g x M1) F1 ρ1 H1 Q X->W v H1):T B Φ E a σ H W:=by
 subst hX
 refine ⟨σD,M,F,ρ,S,r,ah.imp (ah.bind (rel:=RD B) h) fun v H1 ⟨x,M1,F1,ρ1,e,S1,rx,h1⟩=>?_⟩
 exact k x M1 F1 ρ1 H1 v e S1 (r.mono e) rx h1
theorem T.two {a b:Fg.E} {g:D->D->MH->R D} {W:V->V->Hp->Prop} {X:XK} (S:SR B F ρ M H) (r:RS B F ρ H σD σ) (hX:X=fun cv x H'=>E.e cv x σ H')
  (h:Post B ((ev Φ a σD M).bind fun x M1=>(ev Φ b σD M1).bind fun y M2=>g x y M2) F ρ H Q X)
  (k:∀ x y M2 F2 ρ2 H2 v w,SR B F2 ρ2 M2 H2->RS B F2 ρ2 H2 σD σ->RD B F2 ρ2 H2 x v->RD B F2 ρ2 H2 y w->Post B (g x y M2) F2 ρ2 H2 Q X->W v w H2) :
  T B Φ E a σ H fun v H1=>T B Φ E b σ H1 fun w H2=>W v w H2:=by
 refine T.one S r hX h fun x M1 F1 ρ1 H1 v e1 S1 r1 rx h1=>?_
 refine T.one S1 r1 hX h1 fun y M2 F2 ρ2 H2 w e2 S2 r2 ry h2=>?_
 exact k x y M2 F2 ρ2 H2 v w S2 r2 (RD.mono e2 _ _ rx) ry h2
theorem TL.one {a:Es} {g:List D->MH->R D} {W:List V->Hp->Prop} {X:XK} (S:SR B F ρ M H) (r:RS B F ρ H σD σ) (hX:X=fun cv x H'=>E.e cv x σ H') (h:Post B ((fF Φ a σD M).bind g) F ρ H Q X)
  (k:∀ x M1 F1 ρ1 H1 v,Ext F ρ H F1 ρ1 H1->SR B F1 ρ1 M1 H1->RS B F1 ρ1 H1 σD σ->aj B F1 ρ1 H1 x v->Post B (g x M1) F1 ρ1 H1 Q X->W v H1):TL B Φ E a σ H W:=by
 subst hX
 refine ⟨σD,M,F,ρ,S,r,ah.imp (ah.bind (rel:=aj B) h) fun v H1 ⟨x,M1,F1,ρ1,e,S1,rx,h1⟩=>?_⟩
 exact k x M1 F1 ρ1 H1 v e S1 (r.mono e) rx h1
theorem HW {i:Nat} (h:T B Φ E (.v i) σ H Q):HD i σ H Q:=by
 obtain ⟨σD,M,F,ρ,S,r,h⟩:=h
 simp only [ev] at h
 split at h
 ·rename_i d hd
  obtain ⟨v,h1,h2⟩:=r.get _ _ hd
  exact ⟨v,h1,ah.run h S h2⟩
 ·exact h.elim
noncomputable def scl:D->Option V
 | .aE=>some .aE
 | .bl b=>some (.bl b)
 | .int i=>some (.int i)
 | .str x=>some (.str x)
 | _=>none
theorem D8 {d:D} {v:V} (h:scl d=some v):RD B F ρ H d v:=by
 cases d <;> simp only [scl] at h <;> first | (cases h;simp only [RD]) | cases h
theorem qo {d:D} {v:V} (hv:scl d=some v) (h:T B Φ E (.k d) σ H Q):tC v σ H Q:=by
 obtain ⟨σD,M,F,ρ,S,r,h⟩:=h
 simp only [ev] at h
 exact ah.run h S (D8 hv)
theorem dN {fz:Bool} {ds:List D} {vs:List V} {X:XK} (S:SR B F ρ M H) (h:Post B (aR fz ds M) F ρ H Q X) (r:aj B F ρ H ds vs):∀ p,H p=none->Q (.ref p) (upd H p (.lst vs)):=by
 intro p hp
 cases fz with
 | true =>
  simp only [aR,if_true] at h
  obtain ⟨S',e⟩:=S.fz hp (.lst vs)
  refine h _ _ _ _ e S' ?_
  simp only [RD]
  exact ⟨p,vs,rfl,.inl ⟨.inr rfl,.inl aL⟩,aj.mono e _ _ r⟩
 | false =>
  simp only [aR,Bool.false_eq_true,if_false] at h
  have e0:Ext F ρ H F (ρ++[p]) (upd H p (.lst vs)):=⟨⟨S.sep,fun _ q=>q,fun a q _=>ak (by rintro rfl;exact q hp),List.prefix_append _ _,fun a q=>by
   rcases List.mem_append.mp q with q | q
   ·exact .inl q
   ·rw [List.mem_singleton.mp q];exact .inr hp,fun _ q=>.inl q⟩,fun b w u q=>by rw [ak (by rintro rfl;rw [hp] at q;cases q)];exact q⟩
  obtain ⟨S',e⟩:=S.lv (o:=.lst vs) (u:=.lst ds) hp ⟨vs,aL,aj.mono e0 _ _ r⟩
  refine h _ _ _ _ e S' ?_
  simp only [RD]
  refine ⟨p,?_,rfl⟩
  rw [<- S.len,List.getElem?_append_right (Nat.le_refl _),Nat.sub_self];rfl
theorem i0 {ds:List D} {vs:List V} {X:XK} (S:SR B F ρ M H) (h:Post B (.ok (.tup ds) M) F ρ H Q X) (r:aj B F ρ H ds vs):∀ p,H p=none->Q (.ref p) (upd H p (.tup vs)):=by
 intro p hp
 obtain ⟨S',e⟩:=S.fz hp (.tup vs)
 refine h _ _ _ _ e S' ?_
 simp only [RD]
 exact ⟨p,vs,rfl,.inl ⟨.inr rfl,.inl aL⟩,aj.mono e _ _ r⟩
theorem zm {es:Es} (hz:∀ {σ:Sg} {M:MH} {ds M'},fF Φ es σ M=.ok ds M'->ds.length<=sizeLine) (h:T B Φ E (.tup es) σ H Q):HE (TL B Φ E es) σ H Q:=by
 obtain ⟨σD,M,F,ρ,S,r,h⟩:=h
 simp only [ev] at h
 refine ⟨σD,M,F,ρ,S,r,?_⟩
 cases hx:fF Φ es σD M with
 | ok ds M1 =>
  rw [hx] at h
  intro F1 ρ1 H1 vs e S1 rv
  refine ⟨by rw [<- aj.length rv];exact hz hx,i0 (X:=fun cv x H'=>E.e cv x σ H') S1 (ah.weak e h) rv⟩
 | exc c M1=>rw [hx] at h;exact h
 | bad=>rw [hx] at h;exact h
theorem zx {fz:Bool} {es:Es} (hz:∀ {σ:Sg} {M:MH} {ds M'},fF Φ es σ M=.ok ds M'->ds.length<=sizeLine) (h:T B Φ E (.lst fz es) σ H Q):HL (TL B Φ E es) σ H Q:=by
 obtain ⟨σD,M,F,ρ,S,r,h⟩:=h
 simp only [ev] at h
 refine ⟨σD,M,F,ρ,S,r,?_⟩
 cases hx:fF Φ es σD M with
 | ok ds M1 =>
  rw [hx] at h
  intro F1 ρ1 H1 vs e S1 rv
  refine ⟨by rw [<- aj.length rv];exact hz hx,dN (X:=fun cv x H'=>E.e cv x σ H') S1 (ah.weak e h) rv⟩
 | exc c M1=>rw [hx] at h;exact h
 | bad=>rw [hx] at h;exact h
theorem uG (h:T B Φ E .nZ σ H Q):uq σ H Q:=by
 obtain ⟨σD,M,F,ρ,S,r,h⟩:=h
 simp only [ev] at h
 intro p hp
 obtain ⟨S',e⟩:=S.lv (o:=.dK []) (u:=.dct []) hp ⟨[],aL,rfl,by simp [aj]⟩
 refine h _ _ _ _ e S' ?_
 simp only [RD]
 refine ⟨p,?_,rfl⟩
 rw [<- S.len,List.getElem?_append_right (Nat.le_refl _),Nat.sub_self];rfl
theorem qm {Q:List V->Hp->Prop} (h:TL B Φ E .nil σ H Q):oM σ H Q:=by
 obtain ⟨σD,M,F,ρ,S,r,h⟩:=h
 simp only [fF] at h
 exact ah.run h S aj.nil
theorem uH {e:Fg.E} {es:Es} {Q:List V->Hp->Prop} (h:TL B Φ E (.cons e es) σ H Q):iJ (T B Φ E e) (TL B Φ E es) σ H Q:=by
 obtain ⟨σD,M,F,ρ,S,r,h⟩:=h
 simp only [fF] at h
 refine ⟨σD,M,F,ρ,S,r,ah.imp (ah.bind (rel:=RD B) h) fun v H1 ⟨x,M1,F1,ρ1,e1,S1,rx,h1⟩=>?_⟩
 refine ⟨σD,M1,F1,ρ1,S1,r.mono e1,ah.imp (ah.bind (rel:=aj B) h1) fun vs H2 ⟨xs,M2,F2,ρ2,e2,S2,rxs,h2⟩=>?_⟩
 exact ah.run h2 S2 (aj.cons (RD.mono e2 _ _ rx) rxs)
theorem qt {a b:Fg.E} (h:T B Φ E (.and a b) σ H Q):Ck (T B Φ E a) (T B Φ E b) σ H Q:=by
 obtain ⟨σD,M,F,ρ,S,r,h⟩:=h
 simp only [ev] at h
 refine T.one S r rfl h fun x M1 F1 ρ1 H1 v e1 S1 r1 rx h1=>?_
 split at h1
 ·simp only [RD] at rx;subst rx
  exact ⟨true,rfl,by rw [if_pos rfl];exact ⟨σD,M1,F1,ρ1,S1,r1,h1⟩⟩
 ·simp only [RD] at rx;subst rx
  exact ⟨false,rfl,by rw [if_neg Bool.false_ne_true];exact ah.run h1 S1 (by simp only [RD])⟩
 ·exact h1.elim
theorem uE {a b:Fg.E} (h:T B Φ E (.or a b) σ H Q):HJ (T B Φ E a) (T B Φ E b) σ H Q:=by
 obtain ⟨σD,M,F,ρ,S,r,h⟩:=h
 simp only [ev] at h
 refine T.one S r rfl h fun x M1 F1 ρ1 H1 v e1 S1 r1 rx h1=>?_
 split at h1
 ·simp only [RD] at rx;subst rx
  exact ⟨true,rfl,by rw [if_pos rfl];exact ah.run h1 S1 (by simp only [RD])⟩
 ·simp only [RD] at rx;subst rx
  exact ⟨false,rfl,by rw [if_neg Bool.false_ne_true];exact ⟨σD,M1,F1,ρ1,S1,r1,h1⟩⟩
 ·exact h1.elim
theorem qj {a:Fg.E} (h:T B Φ E (.not a) σ H Q):Cg (T B Φ E a) σ H Q:=by
 obtain ⟨σD,M,F,ρ,S,r,h⟩:=h
 simp only [ev] at h
 refine T.one S r rfl h fun x M1 F1 ρ1 H1 v e1 S1 r1 rx h1=>?_
 split at h1
 ·simp only [RD] at rx;subst rx
  exact ⟨_,rfl,ah.run h1 S1 (by simp only [RD])⟩
 ·exact h1.elim
theorem uK {a b:Fg.E} {Q:Bool->Hp->Prop} (h:TB B Φ E (.and a b) σ H Q):HQ (TB B Φ E a) (TB B Φ E b) σ H Q:=by
 have h':=qt h
 obtain ⟨σD,M,F,ρ,S,r,h⟩:=h'
 refine ⟨σD,M,F,ρ,S,r,ah.imp h fun v H' ⟨c,e,q⟩=>⟨c,e,?_⟩⟩
 cases c with
 | true=>rw [if_pos rfl] at q ⊢;exact q
 | false=>rw [if_neg Bool.false_ne_true] at q ⊢;obtain ⟨b,e,q⟩:=q;cases e;exact q
theorem zC {a b:Fg.E} {Q:Bool->Hp->Prop} (h:TB B Φ E (.or a b) σ H Q):tOr (TB B Φ E a) (TB B Φ E b) σ H Q:=by
 have h':=uE h
 obtain ⟨σD,M,F,ρ,S,r,h⟩:=h'
 refine ⟨σD,M,F,ρ,S,r,ah.imp h fun v H' ⟨c,e,q⟩=>⟨c,e,?_⟩⟩
 cases c with
 | true=>rw [if_pos rfl] at q ⊢;obtain ⟨b,e,q⟩:=q;cases e;exact q
 | false=>rw [if_neg Bool.false_ne_true] at q ⊢;exact q
theorem uJ {a:Fg.E} {Q:Bool->Hp->Prop} (h:TB B Φ E (.not a) σ H Q):HK (TB B Φ E a) σ H Q:=by
 have h':=qj h
 obtain ⟨σD,M,F,ρ,S,r,h⟩:=h'
 refine ⟨σD,M,F,ρ,S,r,ah.imp h fun v H' ⟨c,e,q⟩=>⟨c,e,?_⟩⟩
 obtain ⟨b,e,q⟩:=q;cases e;exact q
theorem bU {d:D} {v:V} {ds:List D} (S:SR B F ρ M H) (r:RD B F ρ H d v) (h:vw M d=.lst ds):∃ a vs,v=.ref a/\fU B.K H a vs/\aj B F ρ H ds vs:=by
 cases d with
 | lst xs=>simp only [vw] at h;cases h;simp only [RD] at r;obtain ⟨a,vs,e,z,q⟩:=r;exact ⟨a,vs,e,z.sq,q⟩
 | ref n =>
  simp only [vw] at h
  split at h
  ·rename_i xs hx
   cases h
   simp only [RD] at r
   obtain ⟨a,h1,h2⟩:=r
   obtain ⟨vs,h3,h4⟩:=S.obj n a _ h1 hx
   exact ⟨a,vs,h2,.inl (.inl h3),h4⟩
  ·cases h
  ·cases h
  ·cases h
 | tup _=>simp only [vw] at h;cases h
 | dct _ _=>simp only [vw] at h;cases h
 | aE=>simp only [vw] at h;cases h
 | bl _=>simp only [vw] at h;cases h
 | int _=>simp only [vw] at h;cases h
 | str _=>simp only [vw] at h;cases h
theorem jn {d:D} {v:V} {ds:List D} (S:SR B F ρ M H) (r:RD B F ρ H d v) (h:vw M d=.tup ds):∃ a vs,v=.ref a/\iH B.K H a vs/\aj B F ρ H ds vs:=by
 cases d with
 | tup xs=>simp only [vw] at h;cases h;simp only [RD] at r;obtain ⟨a,vs,e,z,q⟩:=r;exact ⟨a,vs,e,z.sq,q⟩
 | ref n =>
  simp only [vw] at h
  split at h <;> cases h
 | lst _=>simp only [vw] at h;cases h
 | dct _ _=>simp only [vw] at h;cases h
 | aE=>simp only [vw] at h;cases h
 | bl _=>simp only [vw] at h;cases h
 | int _=>simp only [vw] at h;cases h
 | str _=>simp only [vw] at h;cases h
noncomputable def GZ (B:Bd) (H:Hp) (a:Addr) (kvs:List (Key×V)):Prop:=Rd H a (.dK kvs)\/B.dk a kvs
theorem mO {α β:Type}:∀ (ks:List α) (ds:List β),ks.length=ds.length->(ks.zip ds).map (·.1)=ks/\(ks.zip ds).map (·.2)=ds
 | [],[],_=>⟨rfl,rfl⟩
 | k::ks,d::ds,h=>by
  obtain ⟨a,b⟩:=mO ks ds (by simpa using h)
  simp only [List.zip_cons_cons,List.map_cons,a,b,and_self]
 | [],_::_,h=>by simp at h
 | _::_,[],h=>by simp at h
theorem k9 {d:D} {v:V} {dg:List (Ky×D)} (S:SR B F ρ M H) (r:RD B F ρ H d v) (h:vw M d=.dct dg):∃ a kvs,v=.ref a/\GZ B H a kvs/\kvs.map (·.1)=dg.map (·.1)/\aj B F ρ H (dg.map (·.2)) (kvs.map (·.2)):=by
 cases d with
 | dct ks ds =>
  simp only [vw] at h;cases h;simp only [RD] at r
  obtain ⟨a,kvs,e,z,q1,q2⟩:=r
  have hl:ks.length=ds.length:=by rw [<- q1,List.length_map,aj.length q2,List.length_map]
  obtain ⟨z1,z2⟩:=mO ks ds hl
  refine ⟨a,kvs,e,?_,by rw [q1,z1],by rw [z2];exact q2⟩
  rcases z with ⟨_,z⟩ | z
  ·exact .inl z
  ·exact .inr z
 | ref n =>
  simp only [vw] at h
  split at h
  ·cases h
  ·rename_i xs hx
   cases h
   simp only [RD] at r
   obtain ⟨a,h1,h2⟩:=r
   obtain ⟨kws,h3,h4,h5⟩:=S.obj n a _ h1 hx
   exact ⟨a,kws,h2,.inl (.inl h3),h4,h5⟩
  ·rename_i xs hx
   cases h
   simp only [RD] at r
   obtain ⟨a,h1,h2⟩:=r
   obtain ⟨o,kws,h3,h4,h5⟩:=S.obj n a _ h1 hx
   exact ⟨a,kws,h2,.inl (.inr ⟨o,h3⟩),h4,h5⟩
  ·cases h
 | tup _=>simp only [vw] at h;cases h
 | lst _=>simp only [vw] at h;cases h
 | aE=>simp only [vw] at h;cases h
 | bl _=>simp only [vw] at h;cases h
 | int _=>simp only [vw] at h;cases h
 | str _=>simp only [vw] at h;cases h
theorem jB {k:Key}:∀ {dg:List (Ky×D)} {kvs:List (Key×V)},kvs.map (·.1)=dg.map (·.1)->aj B F ρ H (dg.map (·.2)) (kvs.map (·.2)) ->
  (∀ d,look dg k=some d->∃ v,cP kvs k=some v/\RD B F ρ H d v)/\(look dg k=none->cP kvs k=none)/\((look dg k).isSome=(cP kvs k).isSome)
 | [],kvs,h1,h2=>by
  have:kvs=[]:=by cases kvs with | nil=>rfl | cons _ _=>simp at h1
  subst this
  exact ⟨fun d h=>by simp [look] at h,fun _=>by simp [cP],by simp [look,cP]⟩
 | (k', d')::dg, kvs, h1, h2=>by
  cases kvs with
  | nil=>simp at h1
  | cons p kvs =>
   obtain ⟨pk,pv⟩:=p
   simp only [List.map_cons,List.cons.injEq] at h1
   simp only [List.map_cons,aj] at h2
   obtain ⟨v,ws,e,r1,r2⟩:=h2
   cases e
   obtain ⟨e1,e2⟩:=h1
   subst e1
   have ih:=jB (k:=k) e2 r2
   by_cases hk:pk=k
   ·subst hk
    simp only [look,cP,List.find?_cons,decide_true]
    exact ⟨fun d h=>by cases h;exact ⟨_,rfl,r1⟩,fun h=>by simp at h,rfl⟩
   ·have hkd:decide (pk=k)=false:=decide_eq_false hk
    simp only [look,cP,List.find?_cons,hkd] at ih ⊢
    exact ih
theorem mX {i:Int} (h:small i=true):-(2 ^ 64)<i/\i<2 ^ 64:=by
 simp only [small,decide_eq_true_eq] at h
 omega
noncomputable def J9 (i j:Int):Prop:=i.natAbs<10 ^ 200/\j.natAbs<10 ^ 200
noncomputable def rStr:R2:=fun x y H Q=>∃ i j,x=.str i/\y=.str j/\i.length+j.length<=sizeLine/\Q (.str (i++j)) H
noncomputable def Cy (K:W.Frag):R2:=fun x y H Q=>∃ l b xs zs,x=.ref l/\y=.ref b/\fU K H l xs/\fU K H b zs/\xs.length+zs.length<=sizeLine/\∀ p,H p=none->Q (.ref p) (upd H p (.lst (xs++zs)))
noncomputable def Cu (K:W.Frag):R2:=fun x y H Q=>∃ (l:Addr) (xs:List V) (k:Int),x=.ref l/\y=.int k/\fU K H l xs/\xs.length*k.toNat<=sizeLine/\k.natAbs<=1000000/\∀ p,H p=none->Q (.ref p) (upd H p (.lst (List.replicate k.toNat xs).flatten))
noncomputable def Ii (K:W.Frag):B4->R2
 | .add=>fun x y H Q=>oW (fun i j=>.int (i+j)) x y H Q\/(rStr x y H Q\/(Cy K x y H Q\/Cw K x y H Q))
 | .sub=>oW fun i j=>.int (i-j)
 | .mul=>fun x y H Q=>rI B8 (fun i j=>.int (i*j)) x y H Q\/(rI J9 (fun i j=>.int (i*j)) x y H Q\/Cu K x y H Q)
 | .fdiv=>rI Ka fun i j=>.int (i / j)
 | .mod=>rI (fun _ j=>0<j) fun i j=>.int (i % j)
 | .pow=>rI J8 fun i j=>.int (i ^ j.toNat)
theorem b6:line<=sizeLine:=by decide
theorem aj.rep {ds:List D} {vs:List V} (r:aj B F ρ H ds vs):∀ k:Nat,aj B F ρ H (List.replicate k ds).flatten (List.replicate k vs).flatten
 | 0=>aj.nil
 | k+1=>by
  rw [List.replicate_succ,List.replicate_succ,List.flatten_cons,List.flatten_cons]
  exact r.append (aj.rep r k)
theorem Ag {o:B4} {fz:Bool} {x y:D} {v w:V} {X:XK} (S:SR B F ρ M H) (rx:RD B F ρ H x v) (ry:RD B F ρ H y w) (h:Post B (bC o fz M x y) F ρ H Q X):Ii B.K o v w H Q:=by
 unfold bC at h
 split at h
 ·rename_i i j
  simp only [RD] at rx ry
  subst rx ry
  cases o with
  | add=>simp only [aJ] at h;exact .inl ⟨i,j,rfl,rfl,ah.run h S (by simp only [RD])⟩
  | sub=>simp only [aJ] at h;exact ⟨i,j,rfl,rfl,ah.run h S (by simp only [RD])⟩
  | mul =>
   simp only [aJ] at h
   split at h
   ·rename_i k hk
    split at hk
    ·rename_i hs
     cases hk
     refine .inl ⟨i,j,rfl,rfl,?_,ah.run h S (by simp only [RD])⟩
     simp only [Bool.or_eq_true] at hs
     rcases hs with hs | hs
     ·exact .inl (mX hs)
     ·exact .inr (mX hs)
    ·split at hk
     ·rename_i hs
      cases hk
      simp only [mid,Bool.and_eq_true,decide_eq_true_eq] at hs
      exact .inr (.inl ⟨i,j,rfl,rfl,hs,ah.run h S (by simp only [RD])⟩)
     ·cases hk
   ·exact h.elim
  | fdiv =>
   simp only [aJ] at h
   split at h
   ·rename_i k hk
    split at hk
    ·rename_i hs
     cases hk
     simp only [Bool.and_eq_true,decide_eq_true_eq] at hs
     exact ⟨i,j,rfl,rfl,⟨hs.1,by have:=hs.2;omega⟩,ah.run h S (by simp only [RD])⟩
    ·cases hk
   ·exact h.elim
  | mod =>
   simp only [aJ] at h
   split at h
   ·rename_i k hk
    split at hk
    ·rename_i hs
     cases hk
     exact ⟨i,j,rfl,rfl,of_decide_eq_true hs,ah.run h S (by simp only [RD])⟩
    ·cases hk
   ·exact h.elim
  | pow =>
   simp only [aJ] at h
   split at h
   ·rename_i k hk
    split at hk
    ·rename_i hs
     cases hk
     simp only [Bool.and_eq_true,decide_eq_true_eq] at hs
     exact ⟨i,j,rfl,rfl,⟨hs.1,hs.2.1,hs.2.2⟩,ah.run h S (by simp only [RD])⟩
    ·cases hk
   ·exact h.elim
 ·rename_i a b
  simp only [RD] at rx ry
  subst rx ry
  cases o with
  | add =>
   simp only at h
   split at h
   ·rename_i hl
    exact .inr (.inl ⟨a,b,rfl,rfl,Nat.le_trans (of_decide_eq_true hl) b6,ah.run h S (by simp only [RD])⟩)
   ·exact h.elim
  | sub=>exact h.elim
  | mul=>exact h.elim
  | fdiv=>exact h.elim
  | mod=>exact h.elim
  | pow=>exact h.elim
 ·cases o with
  | add =>
   simp only at h
   split at h
   ·rename_i xs ys hx hy
    split at h
    ·rename_i hl
     obtain ⟨a,vs,rfl,q1,r1⟩:=bU S rx hx
     obtain ⟨b,ws,rfl,q2,r2⟩:=bU S ry hy
     refine .inr (.inr (.inl ⟨a,b,vs,ws,rfl,rfl,q1,q2,?_,dN S h (r1.append r2)⟩))
     rw [<- aj.length r1,<- aj.length r2]
     exact Nat.le_trans (of_decide_eq_true hl) b6
    ·exact h.elim
   ·rename_i xs ys hx hy
    split at h
    ·rename_i hl
     simp only [Bool.and_eq_true,Bool.not_eq_true',decide_eq_true_eq] at hl
     cases x with
     | tup xs' =>
      simp only [vw] at hx;cases hx
      simp only [RD] at rx
      obtain ⟨a,vs,rfl,z1,r1⟩:=rx
      obtain ⟨b,ws,rfl,q2,r2⟩:=jn S ry hy
      refine .inr (.inr (.inr ⟨a,b,vs,ws,rfl,rfl,z1.sq,q2,?_,?_,fun e=>?_,fun _=>i0 S h (r1.append r2)⟩))
      ·rintro rfl
       have:=aj.length r1
       cases xs with
       | nil=>simp at hl
       | cons _ _=>simp at this
      ·rw [<- aj.length r1,<- aj.length r2]
       exact Nat.le_trans hl.2 b6
      ·refine ah.run h S ?_
       simp only [RD]
       refine ⟨a,vs,rfl,z1,?_⟩
       have:=r1.append r2
       rw [e,List.append_nil] at this
       exact this
     | ref n=>simp only [vw] at hx;split at hx <;> cases hx
     | lst _=>simp only [vw] at hx;cases hx
     | dct _ _=>simp only [vw] at hx;cases hx
     | aE=>simp only [vw] at hx;cases hx
     | bl _=>simp only [vw] at hx;cases hx
     | int _=>simp only [vw] at hx;cases hx
     | str _=>simp only [vw] at hx;cases hx
    ·exact h.elim
   ·exact h.elim
  | sub=>exact h.elim
  | mul =>
   simp only at h
   split at h
   ·rename_i xs k hx _ _
    split at h
    ·rename_i hl
     simp only [Bool.and_eq_true,decide_eq_true_eq] at hl
     obtain ⟨a,vs,rfl,q1,r1⟩:=bU S rx (by assumption)
     simp only [RD] at ry
     subst ry
     refine .inr (.inr ⟨a,vs,k,rfl,rfl,q1,?_,hl.2,dN S h (aj.rep r1 _)⟩)
     rw [<- aj.length r1]
     exact Nat.le_trans hl.1 b6
    ·exact h.elim
   ·exact h.elim
  | fdiv=>exact h.elim
  | mod=>exact h.elim
  | pow=>exact h.elim
theorem D0 {o:B4} {fz:Bool} {a b:Fg.E} (h:T B Φ E (.op o fz a b) σ H Q):DQ (Ii B.K o) (T B Φ E a) (T B Φ E b) σ H Q:=by
 obtain ⟨σD,M,F,ρ,S,r,h⟩:=h
 simp only [ev] at h
 exact T.two S r rfl h fun x y M2 F2 ρ2 H2 v w S2 _ rx ry h2=>Ag S2 rx ry h2
theorem zw {a:Fg.E} (h:T B Φ E (.neg a) σ H Q):tUn (rU fun i=>.int (-i)) (T B Φ E a) σ H Q:=by
 obtain ⟨σD,M,F,ρ,S,r,h⟩:=h
 simp only [ev] at h
 refine T.one S r rfl h fun x M1 F1 ρ1 H1 v e1 S1 r1 rx h1=>?_
 split at h1
 ·simp only [RD] at rx;subst rx
  exact ⟨_,rfl,ah.run h1 S1 (by simp only [RD])⟩
 ·exact h1.elim
end
end Fg
end
section
namespace Fg
open PySem PySem.Spec L2
noncomputable def Up (B:Heap) (l:List Env) (a:Addr) (C a0:Value) (h:Heap):Prop:=B.StaysIn h/\B.get? a=none/\h.FunFrames B l/\∃ fl,h.TracedAtW B a C a0 fl
theorem Up.E8 {B h:Heap} {l:List Env} {a:Addr} {C a0:Value} (x:Heap.FlyingW B l a C a0 h):Up B l a C a0 h:=⟨x.1,x.2.1,x.2.2.1,_,x.2.2.2.at⟩
theorem Up.qH {B h:Heap} {l:List Env} {a L:Addr} {C a0:Value} (x:Heap.HeldW B l a C a0 L h):Up B l a C a0 h:=⟨x.1,x.2.1,x.2.2.1,_,x.2.2.2⟩
theorem lF {e:Value} {env env':Env} (h:env.frame=env'.frame):noteFrame e env=noteFrame e env':=by
 unfold noteFrame frameOf
 rw [h]
section
variable {M:Model} {A:Around} {E:Value->Shared->Prop} {s:Shared} {B:Heap} {env:Env} {outer:List Env} {L a:Addr} {C a0:Value}
theorem Up.note {Q:Unit->Shared->Prop} (hfr:A.frames=some (env::outer)) (hf:env.frame=some L) (up:Up B (env::outer) a C a0 s.heap) (k:∀ h',Heap.HeldW B (env::outer) a C a0 L h'->s.heap.UpToSlots h'->Q () { s with heap:=h' }) :
  wpAny M A (noteFrame (.ref a) env) Q E s:=by
 obtain ⟨st,ne,hl,fl,oe,vs,T,oT,ts,q1,⟨q2,sy⟩,q3,q4,q5,q6,q7,q8,q9⟩:=up
 by_cases same:(fl == rawInt L)=true
 ·have e:fl=rawInt L:=by simpa using same
  subst e
  exact wpAny_noteFrame_againW hf ⟨oe,vs,T,oT,ts,q1,⟨q2,sy⟩,q3,q4,q5,q6,q7,q8,q9⟩ (k s.heap ⟨st,ne,hl,oe,vs,T,oT,ts,q1,⟨q2,sy⟩,q3,q4,q5,q6,q7,q8,q9⟩ (Heap.UpToSlots.refl _))
 ·subst q2
  unfold noteFrame
  simp only [hf]
  refine wpAny_bind (wpAny_field q1 q3 q4 ?_)
  rw [if_pos (by simp)]
  refine wpAny_bind (wpAny_field q7 q8 q9 ?_)
  rw [if_neg same]
  refine wpAny_bind (wpAny_setField q7 q8 (Array.getElem?_eq_some_iff.mp q9).1 ?_)
  have qE:∀ b,b≠T->(s.heap.update T (Obj.mapFields (·.setIfInBounds 3 Value.none))).get? b=s.heap.get? b:=fun b hb=>Heap.get?_update_other _ _ fun z=>hb z.symm
  have m8:∀ b o,s.heap.get? b=some o->(∀ vs,o.data≠.fields vs)->b≠T:=fun b o hb hn z=>by
   subst z;rw [q7] at hb;cases hb;exact hn ts q8
  refine wpAny_entryW (base:=B) (a0:=a0) hfr ?_ hf ?_ ?_ ne q3 (Array.getElem?_eq_some_iff.mp q4).1 sy fun h' nw=>?_
  ·exact hl.of_keeps fun b o hb hn=>⟨o,by rw [qE b (m8 b o hb hn),hb],rfl⟩
  ·rw [qE a fun z=>q6 z.symm];exact q1
  ·intro b o e
   rw [qE b (by rintro rfl;rw [q5] at e;cases e)]
   exact st b o e
  ·obtain ⟨x1,x2,x3,x4⟩:=nw
   exact k h' ⟨x1,ne,x2,x3⟩ fun b o hb hn=>x4 b o (by rw [qE b (m8 b o hb hn),hb]) hn
theorem Up.leave {Q:Unit->Shared->Prop} (hfr:A.frames=some (env::outer)) (hf:env.frame=some L) (up:Up B (env::outer) a C a0 s.heap) (k:∀ h',Heap.FlyingW B outer a C a0 h'->s.heap.UpToSlots h'->Q () { s with heap:=h' }) :
  wpAny M A (leaving env (.ref a)) Q E s :=
 wpAny_bind (up.note hfr hf fun h4 held uA=>wpAny_landsW held fun h5 fl zg=>k h5 ⟨fl.1,fl.2.1,fl.2.2.1.2.2,fl.2.2.2⟩ (uA.trans zg))
end
end Fg
end
section
namespace Fg
open PySem PySem.Spec L2
open PyProof.Rows (AllBare envOfC)
theorem kG {P:Program} {w:World} {H:Hp} {h:Heap} {a:Addr} {o:HO} (x:bF P w H h a o):∃ ob,h.get? a=some ob:=by
 cases o with
 | lst xs=>obtain ⟨_,_,_,_,e⟩:=x;exact ⟨_,e⟩
 | tup xs=>obtain ⟨_,_,_,_,e,_⟩:=x;exact ⟨_,e⟩
 | dK kvs=>obtain ⟨_,_,_,_,o,_,_,e,_⟩:=x;exact ⟨_,e⟩
 | dT kvs=>obtain ⟨_,_,_,_,o,_,_,e,_⟩:=x;exact ⟨_,e⟩
 | set S n=>obtain ⟨o,_,_,_,e,_⟩:=x;exact ⟨_,e⟩
 | ins C dx fs=>obtain ⟨_,_,_,e,_⟩:=x;exact ⟨_,e⟩
 | own y=>obtain ⟨_,e⟩:=x;exact ⟨_,e⟩
 | xd fs=>obtain ⟨_,⟨_,_,_,e,_⟩,_⟩:=x;exact ⟨_,e⟩
 | gv lo hi=>obtain ⟨_,_,_,e⟩:=x;exact ⟨_,e⟩
 | fN ob u=>obtain ⟨e,_⟩:=x;exact ⟨_,e⟩
 | Ce ps=>exact ⟨_,(show h.get? a=some _ from x)⟩
 | met f y=>exact ⟨_,(show h.get? a=some _ from x)⟩
 | ext φ=>obtain ⟨_,⟨_,e⟩,_⟩:=x;exact ⟨_,e⟩
noncomputable def Calm (B:Heap) (fr ex:List Addr) (H:Hp) (h₀:Heap):Prop:=∀ b,(H b≠none\/(∃ o,h₀.get? b=some o)/\b∉ex)->b∉fr->∃ o,B.get? b=some o
theorem Calm.at {B h:Heap} {fr ex:List Addr} {H:Hp} {h₀:Heap} (c:Calm B fr ex H h₀) (st:B.StaysIn h) {b:Addr} {o:Obj} (e:h.get? b=some o) (q:H b≠none\/(∃ o,h₀.get? b=some o)/\b∉ex) (hf:b∉fr):B.get? b=some o:=by
 obtain ⟨o',e'⟩:=c b q hf
 have:=st _ _ e'
 rw [e] at this;cases this
 exact e'
noncomputable def jZ (P:Program) (w:World):xR:=fun outer H s E e s'=>∃ (H':Hp) (a:Addr) (a0 C:Value) (B:Heap),e=.ref a/\s'.os=s.os/\AllBare s'.gens/\Un (frs outer) [] H H' s.heap s'.heap/\fV P w H' s'.heap /\
 Heap.FlyingW B outer a C a0 s'.heap/\Calm B (frs outer) [] H' s.heap/\E C none H'
noncomputable def j9 (X:Cx) (E:XS) (e:Value) (s:Shared):Prop:=∃ (pins:List (Addr×Obj)) (σ:St) (H:Hp) (a:Addr) (a0 C:Value) (B:Heap),e=.ref a/\Inv X pins σ H s /\
 Up B X.stack a C a0 s.heap/\Calm B (frs X.stack) X.ex H X.s₀.heap/\(∀ p∈X.pn,B.get? p.1=some p.2)/\E C none σ H
noncomputable def DB (X:Cx) (E:XS) (e:Value) (s:Shared):Prop:=∃ (pins:List (Addr×Obj)) (σ:St) (H:Hp) (a:Addr) (C:Value) (vs:List Value) (h:Heap),e=.ref a/\Inv X pins σ H { s with heap:=h }/\Heap.MadeExcOf h s.heap a C vs/\E C none σ H
theorem lS {fs fr ex:List Addr} {H₀ H H₁:Hp} {h₀ h h' B:Heap} (u:Un fs ex H₀ H h₀ h) (eW:Calm B fr ex H₁ h₀) (iR:B.StaysIn h) (st:B.StaysIn h') (sm:∀ b∈fr,∀ o,h.get? b=some o->∃ sl,h'.get? b=some { o with slots:=sl })
  (frd:∀ b∈fr,b<h₀.objs.size->b∈fs):Un fs ex H₀ H h₀ h' where
 keep:=fun b o e n0 hb hx=>st _ _ (eW.at iR (u.keep b o e n0 hb hx) (.inr ⟨⟨_,e⟩,hx⟩) fun z=>hb (frd b z (Heap.lt_size e)))
 slot:=fun b o e n0 hb hx=>by
  obtain ⟨sl,e1⟩:=u.slot b o e n0 hb hx
  by_cases z:b∈fr
  ·obtain ⟨Co,e2⟩:=sm b z _ e1
   exact ⟨Co,e2⟩
  ·exact ⟨sl,st _ _ (eW.at iR e1 (.inr ⟨⟨_,e⟩,hx⟩) z)⟩
 free:=u.free
 there:=fun b o e hx=>by
  obtain ⟨o',e1⟩:=u.there b o e hx
  by_cases z:b∈fr
  ·obtain ⟨Co,e2⟩:=sm b z _ e1
   exact ⟨_,e2⟩
  ·exact ⟨_,st _ _ (eW.at iR e1 (.inr ⟨⟨_,e⟩,hx⟩) z)⟩
 tups:=u.tups
 fO:=u.fO
 gr:=u.gr
theorem je {P:Program} {w:World} {fr ex:List Addr} {H:Hp} {h₀ h h' B:Heap} (k:fV P w H h) (eW:Calm B fr ex H h₀) (iR:B.StaysIn h) (st:B.StaysIn h') (free:∀ b∈fr,H b=none):fV P w H h':=fun a o e =>
 (k a o e).stay (fun b u hb e'=>by
  have tr:H b≠none:=by
   rcases hb with rfl | hb
   ·rw [e];simp
   ·rw [hb];simp
  exact st _ _ (eW.at iR e' (.inl tr) fun z=>tr (free b z))) (fun _ q=>q) fun _ _ q=>q
section
variable {X:Cx} {pins:List (Addr×Obj)} {σ:St} {H:Hp} {s:Shared}
theorem nM (I:Inv X pins σ H s):∀ b∈frs X.stack,∀ o,s.heap.get? b=some o->∀ vs,o.data≠.fields vs:=fun b hb o e vs=>by
 obtain ⟨_,o',e',d⟩:=I.stack.mem hb
 rw [e] at e';cases e'
 exact d vs
theorem pL {h':Heap} (I:Inv X pins σ H s) (sm:s.heap.UpToSlots h'):∀ b∈frs X.stack,∀ o,s.heap.get? b=some o->∃ sl,h'.get? b=some { o with slots:=sl }:=fun b hb o e=>sm b o e (nM I b hb o e)
theorem lR (I:Inv X pins σ H s):∀ b∈frs X.stack,b<X.s₀.heap.objs.size->b∈X.fs:=fun b hb hl=>by
 rcases List.mem_cons.mp (I.dZ b hb) with e | z
 ·subst e;exact absurd (Nat.lt_of_lt_of_le hl I.ok.above) (Nat.lt_irrefl _)
 ·exact z
theorem fL (I:Inv X pins σ H s) {b:Addr} {o:Obj} (e:X.s₀.heap.get? b=some o) (hx:b∉X.ex):∃ o',s.heap.get? b=some o':=I.base.there b o e hx
theorem passes {E:XS} (hx:∀ e s,j9 X E e s->X.xe e s) (pins:List (Addr×Obj)) (σ:St) (H:Hp) (s:Shared) (e:Value) (s':Shared) (I:Inv X pins σ H s) (q:jZ X.prog X.w X.stack H s (fun cv x H'=>E cv x σ H') e s'):X.xe e s':=by
 obtain ⟨H',a,a0,C,B,rfl,os,bare,un,hok,fl,eW,q⟩:=q
 have I':=I.xu (ch:=[]) os un hok bare (fun b z=>absurd z (by simp))
 refine hx _ _ ⟨pins,σ,H',a,a0,C,B,rfl,I',.E8 fl,fun b hb hf=>eW b (hb.imp id fun ⟨⟨o,z⟩,n⟩=>⟨fL I z n,by simp⟩) hf,fun p hp=>?_,q⟩
 obtain ⟨p1,p2,p3,p4,_⟩:=I'.pin p (List.mem_append_left _ hp)
 refine eW.at fl.1 p1 (.inr ⟨⟨_,(I.pin p (List.mem_append_left _ hp)).1⟩,by simp⟩) fun z=>?_
 rcases List.mem_cons.mp (I.dZ _ z) with e | z
 ·exact p3 e
 ·exact p4 z
end
section
variable {P:Program} {w:World} {K:W.Frag} {mg:Str->Option Value} {base:Heap} {N:List Str} {qual:Str} {scope:Scope} {f:Addr} {cd:Value} {A:Around} {outer:List Env} {s:Shared} {H:Hp} {E:XK}
theorem nL (b:Addr) (h:b∈frs (envOfC qual scope s.heap.objs.size f cd::outer)):b=s.heap.objs.size\/b∈frs outer:=by
 unfold frs at h
 rw [List.filterMap_cons] at h
 exact List.mem_cons.mp h
theorem vZ {pins:List (Addr×Obj)} {σ:St} {H':Hp} {s':Shared} {a:Addr} {a0 C:Value} {B h':Heap} (I:Inv (gP (jZ P w) P w K mg base N qual scope f cd A outer s H E) pins σ H' s') (iR:B.StaysIn s'.heap) (eW:Calm B (frs (envOfC qual scope s.heap.objs.size f cd::outer)) [] H' s.heap)
  (q:E C none H') (BG:Heap.FlyingW B outer a C a0 h') (sm:s'.heap.UpToSlots h'):jZ P w outer H s E (.ref a) { s' with heap:=h' }:=by
 refine ⟨H',a,a0,C,B,rfl,I.os,I.bare,lS I.base eW iR BG.1 (pL I sm) (lR I),je I.hok eW iR BG.1 I.fK,BG,fun b hb hf=>eW b hb fun z=>?_,q⟩
 rcases nL b z with e | z
 ·subst e
  rcases hb with hb | ⟨⟨o,hb⟩,_⟩
  ·exact hb I.free
  ·exact absurd (Heap.lt_size hb) (Nat.lt_irrefl _)
 ·exact hf z
theorem sJ (e:Value) (s':Shared) (q:j9 (gP (jZ P w) P w K mg base N qual scope f cd A outer s H E) (fun cv x _ H'=>E cv x H') e s'):(gP (jZ P w) P w K mg base N qual scope f cd A outer s H E).xe e s':=by
 obtain ⟨pins,σ,H',a,a0,C,B,rfl,I,up,eW,_,q⟩:=q
 exact up.leave (L:=s.heap.objs.size) I.ok.frames rfl fun h' BG sm=>vZ I up.1 eW q BG sm
theorem leave_new (e:Value) (s':Shared) (q:DB (gP (jZ P w) P w K mg base N qual scope f cd A outer s H E) (fun cv x _ H'=>E cv x H') e s'):(gP (jZ P w) P w K mg base N qual scope f cd A outer s H E).xe e s':=by
 obtain ⟨pins,σ,H',a,C,vs,h,rfl,I,made,q⟩:=q
 have hin:∀ env∈(envOfC qual scope s.heap.objs.size f cd::outer),∀ b,env.frame=some b->b∈frs (envOfC qual scope s.heap.objs.size f cd::outer):=fun env he b hb=>List.mem_filterMap.mpr ⟨env,he,hb⟩
 refine wpAny_leaves_madeW (base:=W.hideAll h (frs (envOfC qual scope s.heap.objs.size f cd::outer))) I.ok.frames rfl (fun b o q=>W.of_hideAll _ q) (W.funFrames_hide I.stack hin) made fun h' t BG tup tn sm=>?_
 have iR:(W.hideAll h (frs (envOfC qual scope s.heap.objs.size f cd::outer))).StaysIn h:=fun b o q=>W.of_hideAll _ q
 have eW:Calm (W.hideAll h (frs (envOfC qual scope s.heap.objs.size f cd::outer))) (frs (envOfC qual scope s.heap.objs.size f cd::outer)) [] H' s.heap:=fun b hb hf=>by
  have:∃ o,h.get? b=some o:=by
   rcases hb with hb | ⟨⟨o,hb⟩,_⟩
   ·cases e:H' b with
    | none=>exact absurd e hb
    | some o=>exact kG (I.hok b o e)
   ·exact fL I hb (by simp [gP])
  obtain ⟨o,e⟩:=this
  exact ⟨o,W.hideAll_get _ e hf⟩
 have sm':h.UpToSlots h':=(Heap.UpToSlots.of_keeps made.keeps).trans sm
 refine ⟨H',a,_,C,_,rfl,I.os,I.bare,lS I.base eW iR BG.1 (pL I sm') (lR I),je I.hok eW iR BG.1 I.fK,BG,fun b hb hf=>eW b hb fun z=>?_,q⟩
 rcases nL b z with e | z
 ·subst e
  rcases hb with hb | ⟨⟨o,hb⟩,_⟩
  ·exact hb I.free
  ·exact absurd (Heap.lt_size hb) (Nat.lt_irrefl _)
 ·exact hf z
end
end Fg
end
section
namespace Fg
open PySem PySem.Spec L2
open PyProof.Rows (AllBare envOfC)
noncomputable def oB (K:W.Frag) (C:Addr) (bmB:List Value) (newId:String) (bm:List Value):Prop :=
 ∃ nm q N bs hdct sn sub ab col dd k0 k1 k2 k3 k5, K.lookup C=some (excClassObj nm q C N bs bm hdct sn sub ab col dd k0 k1 k2 k3 k5 newId)/\W.nsOkIn K N=true/\W.nsIn K N "__init__" = some none/\W.tailIn K bmB bm=true
variable {X:Cx} {E:XS}
theorem nh {x:Str} {C:Addr} {B newId initId:String} {bmB bm:List Value} {a:Expr} {t:TA} {np cpos pos:Pos} (hm:X.mg x=some (.ref C)) (hk:X.env.kindOf x=some .globalImplicit) (hd:(x == ("__debug__" : Str))=false)
  (EC:oB X.K C bmB newId bm) (FB:ExcBaseFacts B newId initId bmB) (calm:X.calm=true) (hs:starEach [a] X.env=[(false,eval a X.env)]) (ha:PA X [a] t) (hx:∀ e s,DB X E e s->X.xe e s) :
  PS X (.Raise (some (.Call (.Name x np) [a] [] cpos)) none pos) (fun D σ H=>t σ H fun vs H1=>vs.length<=sizeLine/\E (.ref C) none σ H1):=by
 obtain ⟨nm,q,N,bs,hdct,sn,sub,ab,col,dd,k0,k1,k2,k3,k5,lk,ok,ni,tl⟩:=EC
 intro pins s σ H D I ht
 have tail:∀ {h:Heap},X.K.In h->PySem.OwnTail h bmB bm:=fun KX=>W.tail_of_in KX tl
 refine wpAny_Raise_call_subT (C:=C) (nm:=nm) (q:=q) (N:=N) (bs:=bs) (bm:=bm) (hdct:=hdct) (sn:=sn) (sub:=sub) (ab:=ab) (col:=col) (dd:=dd) (k0:=k0) (k1:=k1) (k2:=k2) (k3:=k3) (k5:=k5) FB (mN:=X.base.nsMap N)
  ((tail I.kN).hasType FB.hasBase) (I.ok.hd calm) (by rw [hs];rfl) (W.nsMap_none_of_in I.mod.IZ ok ni)
  (Calls.Name_function_global I.ok.kind hk (Calls.loadGlobal_global (by rw [I.ok.glob];exact I.mod.glob.keeps I.bk) hm ⟨rfl,?_⟩) hd)
 have z:=ha cpos pins s σ H _ I ht
 rw [hs] at z ⊢
 refine Calls.evalArgs_plain (bT z fun us s2 y=>?_)
 obtain ⟨vs,H1,I1,r,hl,q⟩:=y
 refine ⟨rfl,by rw [<- r.length];exact hl,I1.kN _ _ lk,(Heap.Ns.of_isNs (W.isNs_of_in I.mod.IZ ok)).keeps I1.bk,tail I1.kN,fun h' e made=>hx _ _ ⟨pins,σ,H1,e,.ref C,us,s2.heap,rfl,I1,made,q⟩⟩
end Fg
end
section
namespace Fg
open PySem PySem.Spec L2
noncomputable abbrev fR (X:Cx) (pins:List (Addr×Obj)):Cx:={ X with pn:=X.pn++pins }
theorem qb {X:Cx} {pins:List (Addr×Obj)} (ok:X.Ok):(fR X pins).Ok :=
 ⟨ok.mod,ok.kind,ok.glob,ok.blt,ok.above,ok.inj,ok.has,ok.Du,ok.hd,ok.frames,ok.stk,ok.JB,ok.bs,ok.tS,ok.nu,ok.pO,ok.fZ,ok.yS⟩
theorem mJ {X:Cx} {pins:List (Addr×Obj)} (ok:(fR X pins).Ok):X.Ok :=
 ⟨ok.mod,ok.kind,ok.glob,ok.blt,ok.above,ok.inj,ok.has,ok.Du,ok.hd,ok.frames,ok.stk,ok.JB,ok.bs,ok.tS,ok.nu,ok.pO,ok.fZ,ok.yS⟩
section
variable {X:Cx} {pins jy:List (Addr×Obj)} {σ:St} {H:Hp} {s:Shared}
theorem wI (I:Inv X pins σ H s):Inv (fR X pins) [] σ H s:=⟨qb I.ok,I.os,I.bare,I.base,I.loc,I.cell,I.free,I.cI,fun p hp=>I.pin p (by simpa using hp),I.hok,I.len⟩
theorem er (I:Inv (fR X pins) jy σ H s):Inv X pins σ H s:=⟨mJ I.ok,I.os,I.bare,I.base,I.loc,I.cell,I.free,I.cI,fun p hp=>I.pin p (List.mem_append_left _ hp),I.hok,I.len⟩
theorem ku {D:Ends} {f:Flow} {s':Shared} (h:SP (fR X pins) jy D f s'):SP X pins D f s':=by
 cases f with
 | next=>obtain ⟨σ',H',I,q⟩:=h;exact ⟨σ',H',er I,q⟩
 | brk=>obtain ⟨σ',H',I,q⟩:=h;exact ⟨σ',H',er I,q⟩
 | cont=>obtain ⟨σ',H',I,q⟩:=h;exact ⟨σ',H',er I,q⟩
 | ret u=>obtain ⟨v,σ',H',I,r,q⟩:=h;exact ⟨v,σ',H',er I,r,q⟩
theorem jd {B h':Heap} (I:Inv X pins σ H s) (eW:Calm B (frs X.stack) X.ex H X.s₀.heap) (hp:∀ p∈X.pn,B.get? p.1=some p.2) (iR:B.StaysIn s.heap) (st:B.StaysIn h') (sm:s.heap.UpToSlots h'):Inv X [] σ H { s with heap:=h' }:=by
 have cel:∀ c v,s.heap.IsCell c v->h'.IsCell c v:=fun c v ⟨o,e,d⟩=>by
  obtain ⟨sl,e'⟩:=sm c o e (fun vs z=>by rw [d] at z;cases z)
  exact ⟨_,e',d⟩
 refine ⟨I.ok,I.os,I.bare,lS I.base eW iR st (pL I sm) (lR I),?_,fun x c e=>?_,I.free,I.cI,fun p q=>?_,je I.hok eW iR st I.fK,I.len⟩
 ·obtain ⟨m,hn,hv⟩:=I.loc
  refine ⟨m,sm.ns hn,fun i x v h1 h2 h3=>?_⟩
  obtain ⟨u,r,lk⟩:=hv i x v h1 h2 h3
  refine ⟨u,r,lk.imp id fun ⟨z,c,h4,h5⟩=>⟨z,c,h4,cel _ _ h5⟩⟩
 ·obtain ⟨v,h5⟩:=I.cell x c e
  exact ⟨v,cel _ _ h5⟩
 ·have q':p∈X.pn:=by simpa using q
  obtain ⟨_,p2⟩:=I.pin p (List.mem_append_left _ q')
  exact ⟨st _ _ (hp p q'),p2⟩
end
noncomputable abbrev suite (X:Cx) (e:Value):Cx:={ X with A:=X.A.mark (some e),calm:=false,xe:=fun _ _=>False }
section
variable {X:Cx} {pins jy:List (Addr×Obj)} {σ:St} {H:Hp} {s:Shared} {e:Value}
theorem ux (ok:X.Ok):(suite X e).Ok :=
 ⟨ok.mod,ok.kind,ok.glob,ok.blt,ok.above,ok.inj,ok.has,ok.Du,(fun z=>by cases z),ok.frames,ok.stk,ok.JB,ok.bs,ok.tS,ok.nu,ok.pO,ok.fZ,ok.yS⟩
theorem sQ (I:Inv X pins σ H s):Inv (suite X e) pins σ H s:=⟨ux I.ok,I.os,I.bare,I.base,I.loc,I.cell,I.free,I.cI,I.pin,I.hok,I.len⟩
theorem dB (ok:X.Ok) (I:Inv (suite X e) pins σ H s):Inv X pins σ H s:=⟨ok,I.os,I.bare,I.base,I.loc,I.cell,I.free,I.cI,I.pin,I.hok,I.len⟩
theorem oO (ok:X.Ok) {D:Ends} {f:Flow} {s':Shared} (h:SP (suite X e) pins D f s'):SP X pins D f s':=by
 cases f with
 | next=>obtain ⟨σ',H',I,q⟩:=h;exact ⟨σ',H',dB ok I,q⟩
 | brk=>obtain ⟨σ',H',I,q⟩:=h;exact ⟨σ',H',dB ok I,q⟩
 | cont=>obtain ⟨σ',H',I,q⟩:=h;exact ⟨σ',H',dB ok I,q⟩
 | ret u=>obtain ⟨v,σ',H',I,r,q⟩:=h;exact ⟨v,σ',H',dB ok I,r,q⟩
end
section
variable {M:Model} {A:Around} {E:Value->Shared->Prop} {nm q:Str} {C N:Addr} {bs bm:List Value} {hdct:Bool} {sn:List Str} {sub:List Value} {ab:Bool} {col:Option Bool} {dd:Option Addr} {k0 k1 k2 k3 k5:Option Value} {newId:String}
 {nm' q':Str} {C' N':Addr} {bs' bm':List Value} {Dg:Bool} {sn':List Str} {sub':List Value} {ab':Bool} {col':Option Bool} {BO:Option Addr} {l0 l1 l2 l3 l5:Option Value} {newId':String}
theorem nS {h:Heap} {g:Array GenState} {d:Drawn} {t:Nat} {os:OsState} {e:Addr} {oe:Obj} {b:Bool} {Q:Bool->Shared->Prop}
  (hC:h.get? C=some (excClassObj nm q C N bs bm hdct sn sub ab col dd k0 k1 k2 k3 k5 newId)) (hD:h.get? C'=some (excClassObj nm' q' C' N' bs' bm' Dg sn' sub' ab' col' BO l0 l1 l2 l3 l5 newId')) (he:h.get? e=some oe) (hcls:oe.cls=.ref C)
  (hb':(Value.ref C'::bm').contains (.type "BaseException")=true) (hb:(Value.ref C::bm).contains (.ref C')=b) (hq:Q b ⟨h, g, d, t, os⟩):wpAny M A (excMatches (.ref e) (.ref C')) Q E ⟨h, g, d, t, os⟩:=by
 have f:=tc_notTuple
 unfold excMatches
 repeat (first | (with_reducible refine wpAny_loadPart_at he ?_;rw [hcls]) | with_reducible refine wpAny_loadPart_at hD ?_ | (with_reducible refine wpAny_isSubtype_exc hD ?_;rw [hb']) | (with_reducible refine wpAny_isSubtype_exc hC ?_;rw [hb]) | wp_step)
 cases b <;> (wp_walk;exact hq)
end
noncomputable def pick (mro:List Value):List (Addr×TS)->Option TS
 | []=>none
 | (C',t)::r=>if mro.contains (.ref C') then some t else pick mro r
noncomputable def EH (K:W.Frag) (rs:List (Addr×TS)) (D:Ends):XS:=fun cv x σ H=>∃ C bmB newId bm t,cv=.ref C/\oB K C bmB newId bm/\pick (.ref C::bm) rs=some t/\t D σ H
inductive PH (X:Cx):List ExceptHandler->List (Addr×TS)->Prop
 | nil:PH X [] []
 | cons {x:Str} {C':Addr} {bmB:List Value} {newId:String} {bm:List Value} {b₀:Stmt} {b:List Stmt} {t:TS} {np pos:Pos} {hs:List ExceptHandler} {rs:List (Addr×TS)} :
   X.mg x=some (.ref C')->Gl X x->(x == ("__debug__" : Str))=false->oB X.K C' bmB newId bm->bm.contains (.type "BaseException")=true->(∀ e, jX (suite X e) (b₀::b) t)->PH X hs rs ->
   PH X (.ExceptHandler (some (.Name x np)) none (b₀::b) pos::hs) ((C',t)::rs)
theorem handle {X:Cx} {hs:List ExceptHandler} {rs:List (Addr×TS)} (ph:PH X hs rs) {C a:Addr} {a0:Value} {B:Heap} {bmB:List Value} {newId:String} {bm:List Value} {t:TS} {D:Ends} {σ:St} {H:Hp} {s:Shared} (EC:oB X.K C bmB newId bm) (pk:pick (.ref C::bm) rs=some t)
  (I:Inv X [] σ H s) (fl:Heap.FlyingW B X.stack a (.ref C) a0 s.heap) (eW:Calm B (frs X.stack) X.ex H X.s₀.heap) (hp:∀ p∈X.pn,B.get? p.1=some p.2) (ht:t D σ H) :
  wpAny (model X.prog X.w) X.A (handleBy (.ref a) X.env hs) (SP X [] D) X.xe s:=by
 induction ph with
 | nil=>cases pk
 | cons hm hg hd EC' hb' hsu ph ih =>
  obtain ⟨hp',g,d,tk,os⟩:=s
  obtain ⟨oe,Df,hcl⟩:=fl.there
  obtain ⟨nm,q,N,bs,hdct,sn,sub,ab,col,dd,k0,k1,k2,k3,k5,lk,_⟩:=EC
  obtain ⟨nm',q',N',bs',Dg,sn',sub',ab',col',BO,l0,l1,l2,l3,l5,lk',_⟩:=EC'
  refine wpAny_handleBy_cons (codeAny_handlers_test (Calls.Name_function_global I.ok.kind hg (Calls.loadGlobal_global (by rw [I.ok.glob];exact I.mod.glob.keeps I.bk) hm ?_) hd)) (by intro q;cases q)
  refine nS (I.kN _ _ lk) (I.kN _ _ lk') Df hcl (by rw [List.contains_cons,hb',Bool.or_true]) rfl ?_
  simp only [pick] at pk
  cases hc:(Value.ref C::bm).contains (.ref _) with
  | true =>
   rw [hc] at pk
   simp only [if_true,Option.some.injEq] at pk
   subst pk
   refine codeAny_handlers_suite (PyProof.Rows.lands_againW fl fun h6 fl6 sm6=>?_)
   have I6:=jd I eW hp fl.1 fl6.1 sm6
   exact wpAny_mono (hsu (.ref a) [] _ σ H D (sQ I6) ht) (fun f s2 z=>oO I.ok z) fun _ _ z=>z.elim
  | false =>
   rw [hc] at pk
   exact ih pk
theorem Et {X:Cx} {body:List Stmt} {h₀:ExceptHandler} {hs:List ExceptHandler} {pos:Pos} {rs:List (Addr×TS)} {t:Ends->TS} (stk:X.stack=X.env::X.outer) (hf:X.env.frame=some X.env.locals)
  (hb:∀ pins D,jX ((fR X pins).bZ (j9 (fR X pins) (EH X.K rs D))) body (t D)) (ph:∀ pins,PH (fR X pins) (h₀::hs) rs):PS X (.Try body (h₀::hs) [] [] pos) (fun D σ H=>t D D σ H):=by
 intro pins s σ H D I ht
 refine wpAny_Try_except (wpAny_mono (hb pins D [] s σ H D ((wI I).bZ _) ht) (fun f s1 z=>?_) fun e s1 z=>?_)
 ·have z':=ku (SP.bL z)
  cases f with
  | next=>exact wpAny_execs_nil z'
  | brk=>exact z'
  | cont=>exact z'
  | ret u=>exact z'
 ·obtain ⟨jy,σ1,H1,a,a0,cv,B,rfl,I1,fl,eW,hp,C,bmB,newId,bm,tt,rfl,EC,pk,hts⟩:=z
  have go:∀ h5,Heap.FlyingW B (X.env::X.outer) a (.ref C) a0 h5->s1.heap.UpToSlots h5->wpAny (model X.prog X.w) X.A (handleBy (.ref a) X.env (h₀::hs)) (SP X pins D) X.xe { s1 with heap:=h5 }:=fun h5 K2 zg=>by
   have I5:=jd I1 eW hp fl.1 K2.1 zg
   exact wpAny_mono (handle (ph pins) EC pk I5 (by show Heap.FlyingW B X.stack _ _ _ _;rw [stk];exact K2) eW hp hts) (fun f s2 z=>ku z) fun _ _ z=>z
  exact Up.note (L:=X.env.locals) (env:=X.env) (outer:=X.outer) (by rw [I.ok.frames,stk]) hf (by rw [<- stk];exact fl) fun h4 held uA=>wpAny_landsW held fun h5 K2 zg=>go h5 K2 (uA.trans zg)
end Fg
end
section
namespace Fg
open PySem PySem.Spec L2
theorem Up.pass {M:Model} {A:Around} {E:Value->Shared->Prop} {s:Shared} {α:Type} {Q:α->Shared->Prop} {B:Heap} {l:List Env} {a:Addr} {C a0:Value} {env:Env} {what:String} (up:Up B l a C a0 s.heap)
  (k:∀ h',Up B l a C a0 h'->s.heap.UpToSlots h'->E (.ref a) { s with heap:=h' }):wpAny M A (passOn what (.ref a) env:Sem α) Q E s:=by
 obtain ⟨st,ne,hl,fl,oe,vs,T,oT,ts,q1,q2,q3,q4,q5,q6,q7,q8,q9⟩:=up
 have q0:3<ts.size:=(Array.getElem?_eq_some_iff.mp q9).1
 have qE:∀ x b,b≠T->(s.heap.update T (Obj.mapFields (·.setIfInBounds 3 x))).get? b=s.heap.get? b:=fun x b hb=>Heap.get?_update_other _ _ (Ne.symm hb)
 have m8:∀ b o,s.heap.get? b=some o->(∀ vs,o.data≠.fields vs)->b≠T:=fun b o hb hn z=>by
  rw [z,q7] at hb
  cases hb
  exact hn ts q8
 unfold passOn
 refine wpAny_bind (wpAny_field q1 q3 q4 ?_)
 rw [if_neg (by simp)]
 refine wpAny_bind ?_
 unfold setFlight
 refine wpAny_bind (wpAny_field q1 q3 q4 ?_)
 rw [if_pos (by simp)]
 refine wpAny_setField q7 q8 q0 ?_
 refine wpAny_throw (k _ ⟨fun b o e=>?_,ne,hl.of_keeps fun b o hb hn=>⟨o,(qE _ b (m8 b o hb hn)).trans hb,rfl⟩,?_⟩ fun b o hb hn=>⟨o.slots,(qE _ b (m8 b o hb hn)).trans hb⟩)
 ·exact (qE _ b (by rintro rfl;rw [q5] at e;cases e)).trans (st b o e)
 ·exact ⟨_,oe,vs,T,_,_,(qE _ a (Ne.symm q6)).trans q1,q2,q3,q4,q5,q6,Heap.get?_update_self _ q7 (Obj.isFreed_of_fields (Obj.data_mapFields q8 _)),Obj.data_mapFields q8 _,Array.getElem?_setIfInBounds_self_of_lt q0⟩
theorem Up.hide {B h h':Heap} {l:List Env} {a c:Addr} {C a0:Value} (up:Up B l a C a0 h) (sb:Heap.SameBut c h h') (hc:∃ o,h.get? c=some o/\∀ vs,o.data≠.fields vs) (hfr:c∉frs l):Up (B.hide c) l a C a0 h':=by
 obtain ⟨st,ne,hl,fl,oe,vs,T,oT,ts,q1,q2,q3,q4,q5,q6,q7,q8,q9⟩:=up
 obtain ⟨oc,hoc,hd⟩:=hc
 have hn:∀ {b:Addr},B.get? b=none->(B.hide c).get? b=none:=fun {b} e=>by
  cases q:(B.hide c).get? b with
  | none=>rfl
  | some o=>rw [Heap.of_hide q] at e;cases e
 have hac:a≠c:=by rintro rfl;rw [hoc] at q1;cases q1;exact hd _ q3
 have hTc:T≠c:=by rintro rfl;rw [hoc] at q7;cases q7;exact hd _ q8
 have ff:∀ l',(∀ b∈frs l',b∈frs l)->h.FunFrames B l'->h'.FunFrames (B.hide c) l':=by
  intro l'
  induction l' with
  | nil=>intro _ _;trivial
  | cons env r ih =>
   intro hs hl'
   obtain ⟨hk,⟨L,o,hf,hnn,ho,hdd⟩,hr⟩:=hl'
   have hL:L∈frs l:=hs L (by unfold frs;rw [List.filterMap_cons,hf];exact List.mem_cons_self)
   exact ⟨hk,⟨L,o,hf,hn hnn,by rw [sb.2 L (by rintro rfl;exact hfr hL)];exact ho,hdd⟩,ih (fun b hb=>hs b (by unfold frs;rw [List.filterMap_cons,hf];exact List.mem_cons_of_mem _ hb)) hr⟩
 refine ⟨fun b o e=>?_,hn ne,ff l (fun _ z=>z) hl,fl,oe,vs,T,oT,ts,by rw [sb.2 a hac];exact q1,q2,q3,q4,hn q5,q6,by rw [sb.2 T hTc];exact q7,q8,q9⟩
 have hbc:b≠c:=by rintro rfl;rw [Heap.hide_self] at e;cases e
 rw [sb.2 b hbc]
 exact st b o (Heap.of_hide e)
noncomputable def oA (X:Cx):Prop:=∃ env outer L,X.stack=env::outer/\env.frame=some L/\X.env.frame=some L
end Fg
end
section
namespace Fg
open PySem PySem.Spec L2
noncomputable def oN (sp:Sp) (Ex:XS) (t:TA):TE:=fun σ H Q=>t σ H fun vs H1=>sp vs H1 Q fun cv x H'=>Ex cv x σ H'
section
variable {X:Cx} {Ex:XS} {k:Nat} {f:Addr} {fd:FuncData} {ps:List Str} {sp:Sp} {x:Str} {p pos:Pos} {e:Expr} {es:List Expr} {t:TA}
theorem Ia {pins:List (Addr×Obj)} {σ:St} {H:Hp} {s:Shared} {Q:VK} {us:List Value} {vs:List V} (F:eN X.prog X.w X.K X.mg X.base (jZ X.prog X.w) k f fd ps sp) (hr:eU k X.A) (hb:Binds X.K fd ps []) (hx:∀ e s,j9 X Ex e s->X.xe e s)
  (I:Inv X pins σ H s) (r:Vals vs us) (h:sp vs H Q fun cv x H'=>Ex cv x σ H'):wpAny (model X.prog X.w) X.A (call (.ref f) us) (EP X pins σ Q) X.xe s:=by
 have hl:(us++[]).length=ps.length:=by rw [List.append_nil,<- r.length];exact F.len _ _ _ _ h
 have bd:=hb s us I.kN hl
 rw [List.append_nil] at bd
 refine wpAny_call (codeAny_mono (F.run X.A X.stack s H ⟨us,[]⟩ us vs Q _ hr I.l9 bd r h) fun z s' hq=>?_)
 match z,hq with
 | .error e,hq=>exact passes hx pins σ H s e s' I hq
 | .ok (.ret u),hq=>exact I.after hq
 | .ok .next,hq=>exact hq.elim
 | .ok .brk,hq=>exact hq.elim
 | .ok .cont,hq=>exact hq.elim
theorem vc (F:eN X.prog X.w X.K X.mg X.base (jZ X.prog X.w) k f fd ps sp) (hr:eU k X.A) (hg:Gl X x) (hm:X.mg x=some (.ref f)) (hk:W.keepIn X.K (.ref f)=true) (hb:Binds X.K fd ps []) (hx:∀ e s,j9 X Ex e s->X.xe e s)
  (ha:PA X (e::es) t) (hdb:(x == ("__debug__" : Str))=false) (he:starEach (e::es) X.env=(false, eval e X.env)::starEach es X.env) (hpl:(backTo pos (starEach es X.env)).any (·.1)=false) :
  PE X (.Call (.Name x p) (e::es) [] pos) (oN sp Ex t):=fun pins s σ H Q I h =>
 wpAny_Call_Name_kw (lI I hg hm (W.callWith_K (h₀:=X.base) I.ok.mod.IZ hk (bT (ha pos pins s σ H _ I h) fun us s1 ⟨vs,H1,I1,r,q⟩=>⟨I1.kN,Ia F hr hb hx I1 r q⟩) he hpl) hdb)
theorem sD (F:eN X.prog X.w X.K X.mg X.base (jZ X.prog X.w) k f fd ps sp) (hr:eU k X.A) (hg:Gl X x) (hm:X.mg x=some (.ref f)) (hk:W.keepIn X.K (.ref f)=true) (hb:Binds X.K fd ps []) (hx:∀ e s, j9 X Ex e s->X.xe e s) (hdb:(x == ("__debug__" : Str))=false) :
  PE X (.Call (.Name x p) [] [] pos) (oN sp Ex oM):=fun pins s σ H Q I h =>
 wpAny_Call_Name_kw (lI I hg hm (W.callWith_K0 I.kN hk (Ia (us:=[]) F hr hb hx I .nil h)) hdb)
end
end Fg
end
section
namespace Fg
open PySem PySem.Spec L2
theorem Up.back {M:Model} {A:Around} {E:Value->Shared->Prop} {s:Shared} {B:Heap} {l:List Env} {a:Addr} {C a0:Value} {env:Env} (up:Up B l a C a0 s.heap)
  (k:∀ h',Up B l a C a0 h'->s.heap.UpToSlots h'->E (.ref a) { s with heap:=h' }):cameBackBy M A env E (.ref a) s:=by
 obtain ⟨st,ne,hl,fl,oe,vs,T,oT,ts,q1,q2,q3,q4,q5,q6,q7,q8,q9⟩:=up
 have q0:3<ts.size:=(Array.getElem?_eq_some_iff.mp q9).1
 have qE:∀ x b,b≠T->(s.heap.update T (Obj.mapFields (·.setIfInBounds 3 x))).get? b=s.heap.get? b:=fun x b hb=>Heap.get?_update_other _ _ (Ne.symm hb)
 have m8:∀ b o,s.heap.get? b=some o->(∀ vs,o.data≠.fields vs)->b≠T:=fun b o hb hn z=>by
  rw [z,q7] at hb
  cases hb
  exact hn ts q8
 unfold cameBackBy
 refine wpAny_bind (wpAny_field q1 q3 q4 ?_)
 rw [if_neg (by simp)]
 unfold setFlight
 refine wpAny_bind (wpAny_field q1 q3 q4 ?_)
 rw [if_pos (by simp)]
 refine wpAny_setField q7 q8 q0 ?_
 refine k _ ⟨fun b o e=>?_,ne,hl.of_keeps fun b o hb hn=>⟨o,(qE _ b (m8 b o hb hn)).trans hb,rfl⟩,?_⟩ fun b o hb hn=>⟨o.slots,(qE _ b (m8 b o hb hn)).trans hb⟩
 ·exact (qE _ b (by rintro rfl;rw [q5] at e;cases e)).trans (st b o e)
 ·exact ⟨_,oe,vs,T,_,_,(qE _ a (Ne.symm q6)).trans q1,q2,q3,q4,q5,q6,Heap.get?_update_self _ q7 (Obj.isFreed_of_fields (Obj.data_mapFields q8 _)),Obj.data_mapFields q8 _,Array.getElem?_setIfInBounds_self_of_lt q0⟩
theorem vp {M:Model} {A:Around} {E:Value->Shared->Prop} {s:Shared} {h B:Heap} {env:Env} {outer:List Env} {L a:Addr} {C:Value} {vs:List Value} {Q:Unit->Shared->Prop} (hfr:A.frames=some (env::outer)) (hf:env.frame=some L)
  (made:Heap.MadeExcOf h s.heap a C vs) (st:B.StaysIn h) (hl:h.FunFrames B (env::outer)) (k:∀ a0 h',Up B (env::outer) a C a0 h'->s.heap.UpToSlots h'->Q () { s with heap:=h' }):wpAny M A (noteFrame (.ref a) env) Q E s:=by
 obtain ⟨t,he,_,_⟩:=made.there
 have ne:B.get? a=none:=by
  cases q:B.get? a with
  | none=>rfl
  | some o=>have:=st _ _ q;rw [made.new] at this;cases this
 unfold noteFrame
 simp only [hf]
 refine wpAny_bind (wpAny_field he rfl (x:=.none) rfl ?_)
 rw [if_neg (by simp)]
 refine wpAny_entryW (base:=B) (a0:=.ref t) hfr (hl.of_keeps fun b o hb _=>⟨o,made.keeps b o hb,rfl⟩) hf he (fun b o e=>made.keeps b o (st b o e)) ne rfl (show 1<6 by decide) rfl fun h' nw=>?_
 obtain ⟨x1,x2,x3,x4⟩:=nw
 exact k _ h' ⟨x1,ne,x2,_,x3⟩ x4
theorem o4 {X:Cx} {E:XS} (fr:oA X) (fo:∀ e s,X.xe e s->j9 X E e s\/DB X E e s) (fx:∀ e s,j9 X E e s->X.xe e s):PassesOwn (model X.prog X.w) X.A X.env X.xe:=by
 intro e s q
 obtain ⟨l9,lD,L,hst,Gw,KP⟩:=fr
 rcases fo e s q with q | q
 ·obtain ⟨pins,σ,H,a,a0,C,B,rfl,I,up,eW,hp,q⟩:=q
  show wpAny _ X.A (noteFrame (.ref a) X.env) _ _ s
  rw [lF (env:=X.env) (env':=l9) (KP.trans Gw.symm)]
  refine Up.note (env:=l9) (outer:=lD) (by rw [I.ok.frames,hst]) Gw (by rw [<- hst];exact up) fun h4 held uA=>?_
  refine (Up.qH held).back fun h5 DK zg=>fx _ _ ?_
  have J:=jd I eW hp up.1 DK.1 (uA.trans zg)
  have up':Up B X.stack a C a0 h5:=by rw [hst];exact DK
  exact ⟨[],σ,H,a,a0,C,B,rfl,J,up',eW,hp,q⟩
 ·obtain ⟨pins,σ,H,a,C,vs,h,rfl,I,made,q⟩:=q
  show wpAny _ X.A (noteFrame (.ref a) X.env) _ _ s
  rw [lF (env:=X.env) (env':=l9) (KP.trans Gw.symm)]
  have iR:(W.hideAll h (frs X.stack)).StaysIn h:=fun b o q=>W.of_hideAll _ q
  have eW:Calm (W.hideAll h (frs X.stack)) (frs X.stack) X.ex H X.s₀.heap:=fun b hb hf=>by
   have:∃ o,h.get? b=some o:=by
    rcases hb with hb | ⟨⟨o,hb⟩,nx⟩
    ·cases e:H b with
     | none=>exact absurd e hb
     | some o=>exact kG (I.hok b o e)
    ·exact fL I hb nx
   obtain ⟨o,e⟩:=this
   exact ⟨o,W.hideAll_get _ e hf⟩
  have hp:∀ p∈X.pn,(W.hideAll h (frs X.stack)).get? p.1=some p.2:=fun p hp=>by
   obtain ⟨p1,p2,p3,p4,_⟩:=I.pin p (List.mem_append_left _ hp)
   refine W.hideAll_get _ p1 fun z=>?_
   rcases List.mem_cons.mp (I.dZ _ z) with e | z
   ·exact p3 e
   ·exact p4 z
  have hl:h.FunFrames (W.hideAll h (frs X.stack)) X.stack:=W.funFrames_hide I.stack fun env he b hb=>List.mem_filterMap.mpr ⟨env,he,hb⟩
  refine vp (env:=l9) (outer:=lD) (by rw [show X.A.frames=some X.stack from I.ok.frames,hst]) Gw made iR (hst ▸ hl) fun a0 h4 up4 uA=>?_
  refine up4.back fun h5 DK zg=>fx _ _ ?_
  have sm:h.UpToSlots h5:=(Heap.UpToSlots.of_keeps made.keeps).trans (uA.trans zg)
  have J:=jd I eW hp iR DK.1 sm
  have up':Up (W.hideAll h (frs X.stack)) X.stack a C a0 h5:=by
   have z:∀ l,l=X.stack->Up (W.hideAll h (frs X.stack)) l a C a0 h5->Up (W.hideAll h (frs X.stack)) X.stack a C a0 h5:=fun l e u=>e ▸ u
   exact z _ hst.symm DK
  exact ⟨[],σ,H,a,a0,C,_,rfl,J,up',eW,hp,q⟩
end Fg
end
section
namespace Fg
open PySem L2
mutual
noncomputable def DV (K:W.Frag) (H:Hp):D->V->Prop
 | .aE,v=>v=.aE
 | .bl b,v=>v=.bl b
 | .int i,v=>v=.int i
 | .str x,v=>v=.str x
 | .tup ds,v=>∃ a vs,v=.ref a/\iH K H a vs/\gn K H ds vs
 | .lst ds,v=>∃ a vs,v=.ref a/\fU K H a vs/\gn K H ds vs
 | .dct _ _,_=>False
 | .ref _,_=>False
noncomputable def gn (K:W.Frag) (H:Hp):List D->List V->Prop
 | [],vs=>vs=[]
 | d::ds,vs=>∃ v ws,vs=v::ws/\DV K H d v/\gn K H ds ws
end
section
variable {B:Bd} {Φ:cM} {E:Gx} {F F' F1:Addr->Prop} {ρ ρ' ρ1:List Addr} {H H' H1:Hp} {M M':MH} {σD:Sg} {σ:St} {Q:VK}
mutual
theorem RD.dv:∀ {d:D} {v:V},plain d=true->RD B F ρ H d v->DV B.K H d v
 | .aE,v,_,h=>by simp only [RD] at h;simp only [DV];exact h
 | .bl _,v,_,h=>by simp only [RD] at h;simp only [DV];exact h
 | .int _,v,_,h=>by simp only [RD] at h;simp only [DV];exact h
 | .str _,v,_,h=>by simp only [RD] at h;simp only [DV];exact h
 | .tup ds,v,p,h=>by
  simp only [RD] at h;simp only [DV];simp only [plain] at p
  obtain ⟨a,vs,h1,h2,h3⟩:=h
  exact ⟨a,vs,h1,h2.sq,aj.dv p h3⟩
 | .lst ds,v,p,h=>by
  simp only [RD] at h;simp only [DV];simp only [plain] at p
  obtain ⟨a,vs,h1,h2,h3⟩:=h
  exact ⟨a,vs,h1,h2.sq,aj.dv p h3⟩
 | .dct _ _,v,p,h=>by simp [plain] at p
 | .ref _,v,p,h=>by simp [plain] at p
theorem aj.dv:∀ {ds:List D} {vs:List V},ay ds=true->aj B F ρ H ds vs->gn B.K H ds vs
 | [],vs,_,h=>by simp only [aj] at h;simp only [gn];exact h
 | d::ds,vs,p,h=>by
  simp only [aj] at h;simp only [gn];simp only [ay,Bool.and_eq_true] at p
  obtain ⟨v,ws,h1,h2,h3⟩:=h
  exact ⟨v,ws,h1,RD.dv p.1 h2,aj.dv p.2 h3⟩
end
theorem uo {d:D} {v:V} (S:SR B F ρ M H) (p:plain (top M d)=true) (h:RD B F ρ H d v):DV B.K H (top M d) v:=by
 cases d with
 | ref n =>
  cases hM:M[n]? with
  | none=>simp [top,hM,plain] at p
  | some o =>
   cases o with
   | lst ds =>
    obtain ⟨a,vs,e,q,r⟩:=bU (ds:=ds) S h (by simp only [vw,hM])
    simp only [top,hM,plain] at p
    simp only [top,hM,DV]
    exact ⟨a,vs,e,q,aj.dv p r⟩
   | dct _=>simp [top,hM,plain] at p
   | gM _=>simp [top,hM,plain] at p
   | ins _ _=>simp [top,hM,plain] at p
 | tup ds=>exact RD.dv p h
 | lst ds=>exact RD.dv p h
 | dct _ _=>exact RD.dv p h
 | aE=>exact RD.dv p h
 | bl _=>exact RD.dv p h
 | int _=>exact RD.dv p h
 | str _=>exact RD.dv p h
noncomputable def uT (K:W.Frag) (neg:Bool):R2:=fun x y H Q=>∃ d e,DV K H d x/\DV K H e y/\az d e=true/\Q (.bl (if neg then !aP d e else aP d e)) H
noncomputable def uS (K:W.Frag) (neg:Bool):R2:=fun x y H Q=>∃ l b xs,x=.ref l/\y=.ref b/\fU K H l xs/\fU K H b []/\Q (.bl (if neg then !xs.isEmpty else xs.isEmpty)) H
noncomputable def zH (neg:Bool):R2:=fun x y H Q=>∃ a b,x=.bl a/\y=.bl b/\Q (.bl (if neg then !(a == b) else (a == b))) H
noncomputable def uU (B:Bd) (neg:Bool):R2:=fun x y H Q=>∃ a kvs k,y=.ref a/\x=kV k/\GZ B H a kvs/\Q (.bl (if neg then !(cP kvs k).isSome else (cP kvs k).isSome)) H
noncomputable def oX (B:Bd):yZ->R2
 | .lt=>oW fun i j=>.bl (decide (i<j))
 | .le=>oW fun i j=>.bl (decide (i<=j))
 | .gt=>oW fun i j=>.bl (decide (j<i))
 | .ge=>oW fun i j=>.bl (decide (j<=i))
 | .eq=>fun x y H Q=>zH false x y H Q\/(uT B.K false x y H Q\/uS B.K false x y H Q)
 | .ne=>fun x y H Q=>zH true x y H Q\/(uT B.K true x y H Q\/uS B.K true x y H Q)
 | .Jg=>fun x y H Q=>y=.aE/\Q (.bl (decide (x=.aE))) H
 | .vg=>fun x y H Q=>y=.aE/\Q (.bl (!decide (x=.aE))) H
 | .isin=>fun x y H Q=>uU B false x y H Q\/Ip B.K false x y H Q
 | .nq=>fun x y H Q=>uU B true x y H Q\/Ip B.K true x y H Q
theorem pD {d:D} {v:V} {k:Ky} (h:keyOf d=some k) (r:RD B F ρ H d v):v=kV k:=by
 cases d with
 | int i=>simp only [keyOf] at h;cases h;simp only [RD] at r;exact r
 | str x=>simp only [keyOf] at h;cases h;simp only [RD] at r;exact r
 | aE=>simp only [keyOf] at h;cases h
 | bl _=>simp only [keyOf] at h;cases h
 | tup _=>simp only [keyOf] at h;cases h
 | lst _=>simp only [keyOf] at h;cases h
 | dct _ _=>simp only [keyOf] at h;cases h
 | ref _=>simp only [keyOf] at h;cases h
theorem lU {d:D} {v:V} (h:flat d=true) (r:RD B F ρ H d v):fS v=true:=by
 cases d <;> first | (simp only [RD] at r;subst r;rfl) | (simp only [flat] at h;cases h)
theorem nQ {ds:List D}:∀ {vs:List V},ds.all flat=true->aj B F ρ H ds vs->vs.all fS=true:=by
 induction ds with
 | nil=>intro vs _ r;simp only [aj] at r;subst r;rfl
 | cons d ds ih =>
  intro vs h r
  simp only [aj] at r
  obtain ⟨v,ws,rfl,r1,r2⟩:=r
  simp only [List.all_cons,Bool.and_eq_true] at h ⊢
  exact ⟨lU h.1 r1,ih h.2 r2⟩
theorem BN {d e:D} {v w:V} (h1:flat d=true) (h2:flat e=true) (r1:RD B F ρ H d v) (r2:RD B F ρ H e w):aP d e=yT v w:=by
 cases d <;> first | (simp only [flat] at h1;cases h1;done) | skip
 all_goals (cases e <;> first | (simp only [flat] at h2;cases h2;done) | skip)
 all_goals (simp only [RD] at r1 r2;subst r1 r2;simp only [aP,yT])
 all_goals first | rfl | simp [Bool.beq_eq_decide_eq]
theorem rW {d:D} {v:V} (h1:flat d=true) (r1:RD B F ρ H d v) {ds:List D}:∀ {vs:List V},ds.all flat=true->aj B F ρ H ds vs->(ds.any fun e=>aP e d)=Jj v vs:=by
 induction ds with
 | nil=>intro vs _ r;simp only [aj] at r;subst r;rfl
 | cons e ds ih =>
  intro vs h r
  simp only [aj] at r
  obtain ⟨w,ws,rfl,q1,q2⟩:=r
  simp only [List.all_cons,Bool.and_eq_true] at h
  simp only [List.any_cons,Jj,BN h.1 h1 q1 r1]
  have:=ih h.2 q2
  simp only [Jj] at this
  rw [this]
theorem wK {neg:Bool} {x y:D} {v w:V} {X:XK} {t:Bool} (S:SR B F ρ M H) (rx:RD B F ρ H x v) (ry:RD B F ρ H y w) (hi:bA M x y=some t)
  (h:Post B (.ok (.bl (if neg then !t else t)) M) F ρ H Q X):uU B neg v w H Q\/Ip B.K neg v w H Q:=by
 unfold bA at hi
 split at hi
 ·rename_i dg hv
  split at hi
  ·rename_i k hk
   cases hi
   obtain ⟨a,kvs,rfl,q,e1,e2⟩:=k9 S ry hv
   have:=(jB (k:=k) e1 e2).2.2
   refine .inl ⟨a,kvs,k,rfl,pD hk rx,q,?_⟩
   rw [<- this]
   exact ah.run h S (by simp only [RD])
  ·cases hi
 ·rename_i ds hv
  split at hi
  ·rename_i hf
   cases hi
   simp only [Bool.and_eq_true] at hf
   obtain ⟨a,vs,rfl,q,r⟩:=bU S ry hv
   refine .inr ⟨a,vs,rfl,.inl q,lU hf.1 rx,nQ hf.2 r,?_⟩
   rw [<- rW hf.1 rx hf.2 r]
   exact ah.run h S (by simp only [RD])
  ·cases hi
 ·rename_i ds hv
  split at hi
  ·rename_i hf
   cases hi
   simp only [Bool.and_eq_true] at hf
   obtain ⟨a,vs,rfl,q,r⟩:=jn S ry hv
   refine .inr ⟨a,vs,rfl,.inr q,lU hf.1 rx,nQ hf.2 r,?_⟩
   rw [<- rW hf.1 rx hf.2 r]
   exact ah.run h S (by simp only [RD])
  ·cases hi
 ·cases hi
theorem jg {f:D->D} (ih:∀ (d:D) (v:V),plain (f d)=true->RD B F ρ H d v->DV B.K H (f d) v):∀ (ds:List D) (vs:List V),ay (ds.map f)=true->aj B F ρ H ds vs->gn B.K H (ds.map f) vs
 | [],vs,p,h=>by simp only [aj] at h;simp only [List.map_nil,gn];exact h
 | d::ds,vs,p,h=>by
  simp only [aj] at h;simp only [List.map_cons,gn];simp only [List.map_cons,ay,Bool.and_eq_true] at p
  obtain ⟨v,ws,h1,h2,h3⟩:=h
  exact ⟨v,ws,h1,ih d v p.1 h2,jg ih ds ws p.2 h3⟩
theorem rC (S:SR B F ρ M H) (n:Nat):∀ (d:D) (v:V),plain (deep n M d)=true->RD B F ρ H d v->DV B.K H (deep n M d) v:=by
 induction n with
 | zero=>intro d v p h;exact RD.dv p h
 | succ n ih =>
  intro d v p h
  cases d with
  | ref r =>
   cases hM:M[r]? with
   | none=>simp [deep,hM,plain] at p
   | some o =>
    cases o with
    | lst ds =>
     obtain ⟨a,vs,e,q,r⟩:=bU (ds:=ds) S h (by simp only [vw,hM])
     simp only [deep,hM,plain] at p
     simp only [deep,hM,DV]
     exact ⟨a,vs,e,q,jg ih ds vs p r⟩
    | dct _=>simp [deep,hM,plain] at p
    | gM _=>simp [deep,hM,plain] at p
    | ins _ _=>simp [deep,hM,plain] at p
  | tup ds =>
   simp only [RD] at h;simp only [deep,plain] at p;simp only [deep,DV]
   obtain ⟨a,vs,h1,h2,h3⟩:=h
   exact ⟨a,vs,h1,h2.sq,jg ih ds vs p h3⟩
  | lst ds =>
   simp only [RD] at h;simp only [deep,plain] at p;simp only [deep,DV]
   obtain ⟨a,vs,h1,h2,h3⟩:=h
   exact ⟨a,vs,h1,h2.sq,jg ih ds vs p h3⟩
  | dct _ _=>simp [deep,plain] at p
  | aE=>exact RD.dv p h
  | bl _=>exact RD.dv p h
  | int _=>exact RD.dv p h
  | str _=>exact RD.dv p h
theorem rA (neg:Bool) {x y:D} {v w:V} {X:XK} (S:SR B F ρ M H) (rx:RD B F ρ H x v) (ry:RD B F ρ H y w) (h:Post B (if az (top M x) (top M y) then .ok (.bl (if neg then !aP (top M x) (top M y) else aP (top M x) (top M y))) M else (match vn M x y with | some t=>.ok (.bl (if neg then !t else t)) M | none=>JL M neg x y)) F ρ H Q X):uT B.K neg v w H Q\/uS B.K neg v w H Q:=by
 split at h
 ·rename_i hc
  have hc':=hc
  simp only [az,Bool.and_eq_true] at hc'
  exact .inl ⟨_,_,uo S hc'.1.1 rx,uo S hc'.1.2 ry,hc,ah.run h S (by simp only [RD])⟩
 ·cases hn:vn M x y with
  | none =>
   rw [hn] at h
   replace h:Post B (JL M neg x y) F ρ H Q X:=h
   unfold JL at h
   split at h
   ·rename_i hc
    have hc':=hc
    simp only [az,Bool.and_eq_true] at hc'
    exact .inl ⟨_,_,rC S 120 _ _ hc'.1.1 rx,rC S 120 _ _ hc'.1.2 ry,hc,ah.run h S (by simp only [RD])⟩
   ·exact h.elim
  | some t =>
   rw [hn] at h
   unfold vn at hn
   split at hn
   ·rename_i xs ys hx hy
    split at hn
    ·rename_i he
     cases hn
     obtain ⟨a,vs,rfl,q1,r1⟩:=bU S rx hx
     obtain ⟨b,ws,rfl,q2,r2⟩:=bU S ry hy
     have l1:=aj.length r1
     have l2:=aj.length r2
     have e2:ws=[]:=by
      rw [List.isEmpty_iff] at he
      subst he
      exact List.eq_nil_of_length_eq_zero l2.symm
     have e1:vs.isEmpty=xs.isEmpty:=by
      cases xs <;> cases vs <;> first | rfl | (simp at l1;done)
     subst e2
     refine .inr ⟨a,b,vs,rfl,rfl,q1,q2,?_⟩
     rw [e1]
     exact ah.run h S (by simp only [RD])
    ·cases hn
   ·cases hn
theorem jc {f:Int->Int->Bool} {x y:D} {v w:V} {X:XK} (S:SR B F ρ M H) (rx:RD B F ρ H x v) (ry:RD B F ρ H y w) (h:Post B (aC M f x y) F ρ H Q X):oW (fun i j=>.bl (f i j)) v w H Q:=by
 cases x with
 | int i=>cases y with
  | int j=>simp only [RD] at rx ry;subst rx ry;exact ⟨_,_,rfl,rfl,ah.run h S (by simp only [RD])⟩
  | _=>exact h.elim
 | _=>exact h.elim
theorem jH {x:D} {v:V} (r:RD B F ρ H x v):ai x=decide (v=.aE):=by
 cases x <;> first | (simp only [RD] at r;subst r;rfl) | (simp only [RD] at r;obtain ⟨_,r⟩:=r;first | (obtain ⟨_,rfl,_⟩:=r;rfl) | (obtain ⟨_,rfl⟩:=r;rfl) | (obtain ⟨_,_,rfl,_⟩:=r;rfl))
theorem xo {o:yZ} {x y:D} {v w:V} {X:XK} (S:SR B F ρ M H) (rx:RD B F ρ H x v) (ry:RD B F ρ H y w) (h:Post B (av o M x y) F ρ H Q X):oX B o v w H Q:=by
 have eb:∀ {p:Bool×Bool},bB x y=some p->x=.bl p.1/\y=.bl p.2:=fun {p} hb=>by
  cases x with
  | bl a=>cases y with
   | bl b=>cases hb;exact ⟨rfl,rfl⟩
   | _=>cases hb
  | _=>cases hb
 have nn:ai y=true->w=.aE:=fun q=>by
  have:=jH ry
  rw [q] at this
  exact of_decide_eq_true this.symm
 cases o with
 | lt=>exact jc S rx ry h
 | le=>exact jc S rx ry h
 | gt=>exact jc S rx ry h
 | ge=>exact jc S rx ry h
 | eq =>
  cases hb:bB x y with
  | some p =>
   obtain ⟨rfl,rfl⟩:=eb hb
   simp only [RD] at rx ry;subst rx ry
   exact .inl ⟨_,_,rfl,rfl,ah.run h S (by simp only [RD];rfl)⟩
  | none =>
   simp only [av,hb] at h
   exact .inr (rA false S rx ry h)
 | ne =>
  cases hb:bB x y with
  | some p =>
   obtain ⟨rfl,rfl⟩:=eb hb
   simp only [RD] at rx ry;subst rx ry
   exact .inl ⟨_,_,rfl,rfl,ah.run h S (by simp only [RD];rfl)⟩
  | none =>
   simp only [av,hb] at h
   exact .inr (rA true S rx ry h)
 | Jg =>
  cases hn:ai y with
  | false=>simp only [av,hn] at h;exact h.elim
  | true =>
   simp only [av,hn,if_true] at h
   refine ⟨nn hn,?_⟩
   rw [<- jH rx]
   exact ah.run h S (by simp only [RD])
 | vg =>
  cases hn:ai y with
  | false=>simp only [av,hn] at h;exact h.elim
  | true =>
   simp only [av,hn,if_true] at h
   refine ⟨nn hn,?_⟩
   rw [<- jH rx]
   exact ah.run h S (by simp only [RD])
 | isin =>
  cases hi:bA M x y with
  | none=>simp only [av,hi] at h;exact h.elim
  | some t=>simp only [av,hi] at h;exact wK (neg:=false) S rx ry hi h
 | nq =>
  cases hi:bA M x y with
  | none=>simp only [av,hi] at h;exact h.elim
  | some t=>simp only [av,hi] at h;exact wK (neg:=true) S rx ry hi h
theorem qq {o:yZ} {a b:Fg.E} (h:T B Φ E (.cmp o a b) σ H Q):DQ (oX B o) (T B Φ E a) (T B Φ E b) σ H Q:=by
 obtain ⟨σD,M,F,ρ,S,r,h⟩:=h
 simp only [ev] at h
 exact T.two S r rfl h fun x y M2 F2 ρ2 H2 v w S2 _ rx ry h2=>xo S2 rx ry h2
theorem wF (n:Nat) (i:Int):qQ n i=G5 n i:=rfl
theorem xH {ds:List D} {vs:List V} {i:Int} {d:D} (r:aj B F ρ H ds vs) (h:jl ds i=some d):∃ v,GV vs i=some v/\RD B F ρ H d v:=by
 unfold jl at h
 unfold GV
 rw [<- aj.length r]
 cases hx:qQ ds.length i with
 | none=>rw [hx] at h;cases h
 | some j =>
  rw [hx] at h
  rw [wF] at hx
  rw [hx]
  exact aj.get r h
noncomputable def Im (B:Bd):R2:=fun x y H Q=>∃ a kvs k v,x=.ref a/\y=kV k/\GZ B H a kvs/\cP kvs k=some v/\Q v H
noncomputable def zG (B:Bd):R2:=fun x y H Q=>Il B.K x y H Q\/(Ij B.K x y H Q\/(Ik x y H Q\/Im B x y H Q))
theorem wL {x y:D} {v w:V} {X:XK} (S:SR B F ρ M H) (rx:RD B F ρ H x v) (ry:RD B F ρ H y w) (h:Post B (aH M x y) F ρ H Q X):zG B v w H Q:=by
 unfold aH at h
 split at h
 ·simp only [RD] at rx ry;subst rx ry
  split at h
  ·rename_i hl
   split at h
   ·rename_i c hc
    exact .inr (.inr (.inl ⟨_,_,c,rfl,rfl,Nat.le_trans (of_decide_eq_true hl) b6,hc,ah.run h S (by simp only [RD])⟩))
   ·exact h.elim
  ·exact h.elim
 ·split at h
  ·rename_i ds i hv _
   split at h
   ·rename_i d hd
    obtain ⟨a,vs,rfl,q,r⟩:=jn S rx hv
    simp only [RD] at ry;subst ry
    obtain ⟨u,h1,h2⟩:=xH r hd
    exact .inr (.inl ⟨a,vs,i,u,rfl,rfl,q,h1,ah.run h S h2⟩)
   ·exact h.elim
  ·rename_i ds i hv _
   split at h
   ·rename_i d hd
    obtain ⟨a,vs,rfl,q,r⟩:=bU S rx hv
    simp only [RD] at ry;subst ry
    obtain ⟨u,h1,h2⟩:=xH r hd
    exact .inl ⟨a,vs,i,u,rfl,rfl,q,h1,ah.run h S h2⟩
   ·exact h.elim
  ·rename_i dg hv _
   split at h
   ·rename_i k hk
    split at h
    ·rename_i d hd
     obtain ⟨a,kvs,rfl,q,e1,e2⟩:=k9 S rx hv
     obtain ⟨u,h1,h2⟩:=(jB (k:=k) e1 e2).1 d hd
     exact .inr (.inr (.inr ⟨a,kvs,k,u,rfl,pD hk ry,q,h1,ah.run h S h2⟩))
    ·exact h.elim
   ·exact h.elim
  ·exact h.elim
theorem zA {a b:Fg.E} (h:T B Φ E (.idx a b) σ H Q):DQ (zG B) (T B Φ E a) (T B Φ E b) σ H Q:=by
 obtain ⟨σD,M,F,ρ,S,r,h⟩:=h
 simp only [ev] at h
 exact T.two S r rfl h fun x y M2 F2 ρ2 H2 v w S2 _ rx ry h2=>wL S2 rx ry h2
theorem uC (n d:Nat) (o:Option Int):six n d o=HT.cL n d o:=by cases o <;> rfl
theorem rK {ds:List D} {vs:List V} (r:aj B F ρ H ds vs) (lo hi:Option Int):aj B F ρ H (c8 ds lo hi) (n6 vs lo hi):=by
 unfold c8 n6
 rw [aj.length r]
 simp only [uC]
 exact aj.take _ (aj.drop _ r)
noncomputable def Ig:V->Option Int->Option Int->Hp->VK->Prop:=fun x lo hi H Q=>∃ z,x=.str z/\z.length<=sizeLine/\Q (.str (cuts z lo hi)) H
noncomputable def zF (B:Bd):V->Option Int->Option Int->Hp->VK->Prop:=fun x lo hi H Q=>Ih B.K x lo hi H Q\/(Ie B.K x lo hi H Q\/Ig x lo hi H Q)
theorem zh {fz:Bool} {x:D} {v:V} {lo hi:Option Int} {X:XK} (S:SR B F ρ M H) (rx:RD B F ρ H x v) (h:Post B (sl2 fz M x lo hi) F ρ H Q X):zF B v lo hi H Q:=by
 unfold sl2 at h
 split at h
 ·simp only [RD] at rx;subst rx
  split at h
  ·rename_i hl
   exact .inr (.inr ⟨_,rfl,Nat.le_trans (of_decide_eq_true hl) b6,ah.run h S (by simp only [RD])⟩)
  ·exact h.elim
 ·split at h
  ·rename_i ds hv
   cases x with
   | tup xs =>
    simp only [vw] at hv;cases hv
    simp only [RD] at rx
    obtain ⟨a,vs,rfl,z,r⟩:=rx
    split at h
    ·exact h.elim
    ·rename_i hf
     refine .inr (.inl ⟨a,vs,rfl,z.sq,fun q=>hf ?_,i0 S h (rK r lo hi)⟩)
     simp only [kP,Bool.and_eq_true,decide_eq_true_eq,uC,aj.length r]
     exact q
   | ref n=>simp only [vw] at hv;split at hv <;> cases hv
   | lst _=>simp only [vw] at hv;cases hv
   | dct _ _=>simp only [vw] at hv;cases hv
   | aE=>simp only [vw] at hv;cases hv
   | bl _=>simp only [vw] at hv;cases hv
   | int _=>simp only [vw] at hv;cases hv
   | str _=>simp only [vw] at hv;cases hv
  ·rename_i ds hv
   obtain ⟨a,vs,rfl,q,r⟩:=bU S rx hv
   exact .inl ⟨a,vs,rfl,q,dN S h (rK r lo hi)⟩
  ·exact h.elim
theorem D4 {Q:Option Int->Hp->Prop} (h:TP B Φ E .none σ H Q):qe σ H Q:=by
 obtain ⟨σD,M,F,ρ,S,r,h⟩:=h
 simp only [BJ] at h
 exact ah.run h S rfl
theorem D3 {a:Fg.E} {Q:Option Int->Hp->Prop} (h:TP B Φ E (.some a) σ H Q):Cf (T B Φ E a) σ H Q:=by
 obtain ⟨σD,M,F,ρ,S,r,h⟩:=h
 simp only [BJ] at h
 refine ⟨σD,M,F,ρ,S,r,ah.imp (ah.bind (rel:=RD B) h) fun v H1 ⟨x,M1,F1,ρ1,e1,S1,rx,h1⟩=>?_⟩
 split at h1
 ·simp only [RD] at rx;subst rx
  exact ⟨_,rfl,ah.run h1 S1 rfl⟩
 ·exact h1.elim
theorem DZ {fz:Bool} {a:Fg.E} {lo hi:O} (h:T B Φ E (.sl fz a lo hi) σ H Q):tSl (zF B) (T B Φ E a) (TP B Φ E lo) (TP B Φ E hi) σ H Q:=by
 obtain ⟨σD,M,F,ρ,S,r,h⟩:=h
 simp only [ev] at h
 refine T.one S r rfl h fun x M1 F1 ρ1 H1 v e1 S1 r1 rx h1=>?_
 refine ⟨σD,M1,F1,ρ1,S1,r1,ah.imp (ah.bind (rel:=fun _ _ _ (a b:Option Int)=>a=b) h1) fun l H2 ⟨l',M2,F2,ρ2,e2,S2,el,h2⟩=>?_⟩
 refine ⟨σD,M2,F2,ρ2,S2,r1.mono e2,ah.imp (ah.bind (rel:=fun _ _ _ (a b:Option Int)=>a=b) h2) fun u H3 ⟨u',M3,F3,ρ3,e3,S3,eu,h3⟩=>?_⟩
 subst el eu
 exact zh S3 (RD.mono e3 _ _ (RD.mono e2 _ _ rx)) h3
theorem r9 {M:MH} {d:D} {ds:List D} (h:vw M d=.tup ds):d=.tup ds:=by
 cases d with
 | tup xs=>simp only [vw] at h;cases h;rfl
 | ref n=>simp only [vw] at h;split at h <;> cases h
 | lst _=>simp only [vw] at h;cases h
 | dct _ _=>simp only [vw] at h;cases h
 | aE=>simp only [vw] at h;cases h
 | bl _=>simp only [vw] at h;cases h
 | int _=>simp only [vw] at h;cases h
 | str _=>simp only [vw] at h;cases h
theorem qV:∀ {ds:List D} {vs:List V} {ns:List Int},aj B F ρ H ds vs->intsOf ds=some ns->vs=ns.map V.int
 | [],vs,ns,r,h=>by simp only [intsOf] at h;cases h;simp only [aj] at r;subst r;rfl
 | d::ds,vs,ns,r,h=>by
  cases d with
  | int i =>
   simp only [intsOf] at h
   cases hx:intsOf ds with
   | none=>rw [hx] at h;cases h
   | some ms =>
    rw [hx] at h;cases h
    simp only [aj] at r
    obtain ⟨v,ws,rfl,r1,r2⟩:=r
    simp only [RD] at r1;subst r1
    rw [qV r2 hx];rfl
  | _=>simp [intsOf] at h
noncomputable def El (B:Bd):List V->Hp->VK->Prop:=fun xs H Q=>(∃ z,xs=[.str z]/\z.length<=sizeLine/\Q (.int z.length) H)\/((∃ p ys,xs=[.ref p]/\(fU B.K H p ys\/iH B.K H p ys)/\Q (.int ys.length) H)\/(∃ a kvs,xs=[.ref a]/\GZ B H a kvs/\Q (.int kvs.length) H))
noncomputable def Ic (B:Bd):List V->Hp->VK->Prop:=fun xs H Q=>∃ (p:Addr) (ns:List Int),xs=[.ref p]/\fU B.K H p (ns.map V.int)/\Q (.int ns.sum) H
noncomputable def oV (B:Bd):List V->Hp->VK->Prop:=fun xs H Q=>∃ p ys,xs=[.ref p]/\((fU B.K H p ys/\∀ l,H l=none->Q (.ref l) (upd H l (.tup ys)))\/(iH B.K H p ys/\Q (.ref p) H))
noncomputable def Ek (B:Bd):List V->Hp->VK->Prop:=fun xs H Q=>∃ p ys,xs=[.ref p]/\(fU B.K H p ys\/iH B.K H p ys)/\∀ l,H l=none->Q (.ref l) (upd H l (.lst ys))
noncomputable def uV (B:Bd):List V->Hp->VK->Prop:=fun xs H Q=>∃ p kvs,xs=[.ref p]/\GZ B H p kvs/\∀ l,H l=none->Q (.ref l) (upd H l (.dK kvs))
noncomputable def rBl (B:Bd):Bl->List V->Hp->VK->Prop
 | .len=>El B
 | .sum=>Ic B
 | .tuple=>oV B
 | .list=>Ek B
 | .dict=>uV B
 | _=>fun _ _ _=>False
theorem Ei {d:D} {vs:List V} (r:aj B F ρ H [d] vs):∃ v,vs=[v]/\RD B F ρ H d v:=by
 simp only [aj] at r
 obtain ⟨v,ws,rfl,r1,rfl⟩:=r
 exact ⟨v,rfl,r1⟩
theorem xC {b:Bl} {fz:Bool} {ds:List D} {vs:List V} {X:XK} (S:SR B F ρ M H) (r:aj B F ρ H ds vs) (h:Post B (cz b fz M ds) F ρ H Q X):rBl B b vs H Q:=by
  unfold cz at h
  split at h
  . obtain ⟨v,rfl,r1⟩:=Ei r
    simp only [RD] at r1;subst r1
    cases b <;> simp only at h <;> first
      | exact h.elim
      | (split at h
         . rename_i hl
           exact .inl ⟨_,rfl,Nat.le_trans (of_decide_eq_true hl) b6,ah.run h S (by simp only [RD])⟩
         . exact h.elim)
  . obtain ⟨v,rfl,r1⟩:=Ei r
    split at h
    . rename_i hv
      obtain ⟨a,ws,rfl,q,rr⟩:=jn S r1 hv
      exact .inr (.inl ⟨a,ws,rfl,.inr q,ah.run h S (by simp only [RD,aj.length rr])⟩)
    . rename_i hv
      obtain ⟨a,ws,rfl,q,rr⟩:=bU S r1 hv
      exact .inr (.inl ⟨a,ws,rfl,.inl q,ah.run h S (by simp only [RD,aj.length rr])⟩)
    . rename_i hv
      obtain ⟨a,kvs,rfl,q,e1,e2⟩:=k9 S r1 hv
      refine .inr (.inr ⟨a,kvs,rfl,q,ah.run h S ?_⟩)
      have:=congrArg List.length e1
      simp only [List.length_map] at this
      simp only [RD,this]
    . rename_i hv
      split at h
      . rename_i ns hn
        obtain ⟨a,ws,rfl,q,rr⟩:=bU S r1 hv
        have:=qV rr hn
        subst this
        exact ⟨a,ns,rfl,q,ah.run h S (by simp only [RD])⟩
      . exact h.elim
    . rename_i hv
      obtain ⟨a,ws,rfl,q,rr⟩:=bU S r1 hv
      exact ⟨a,ws,rfl,.inl ⟨q,i0 S h rr⟩⟩
    . rename_i hv
      have ed:=r9 hv
      subst ed
      have r1':=r1
      simp only [RD] at r1'
      obtain ⟨a,ws,rfl,q,rr⟩:=r1'
      exact ⟨a,ws,rfl,.inr ⟨q.sq,ah.run h S r1⟩⟩
    . rename_i hv
      obtain ⟨a,ws,rfl,q,rr⟩:=bU S r1 hv
      exact ⟨a,ws,rfl,.inl q,dN S h rr⟩
    . rename_i hv
      obtain ⟨a,ws,rfl,q,rr⟩:=jn S r1 hv
      exact ⟨a,ws,rfl,.inr q,dN S h rr⟩
    . rename_i dg hv
      obtain ⟨a,kvs,rfl,q,e1,e2⟩:=k9 S r1 hv
      refine ⟨a,kvs,rfl,q,fun p hp=>?_⟩
      have e0:Ext F ρ H F (ρ++[p]) (upd H p (.dK kvs)):=⟨⟨S.sep,fun _ q=>q,fun a q _=>ak (by rintro rfl;exact q hp),List.prefix_append _ _,fun a q=>by
        rcases List.mem_append.mp q with q | q
        . exact .inl q
        . rw [List.mem_singleton.mp q];exact .inr hp,fun _ q=>.inl q⟩,fun b w u q=>by rw [ak (by rintro rfl;rw [hp] at q;cases q)];exact q⟩
      obtain ⟨S',e⟩:=S.lv (o:=.dK kvs) (u:=.dct dg) hp ⟨kvs,aL,e1,aj.mono e0 _ _ e2⟩
      refine h _ _ _ _ e S' ?_
      simp only [RD]
      refine ⟨p,?_,rfl⟩
      rw [<- S.len,List.getElem?_append_right (Nat.le_refl _),Nat.sub_self];rfl
    . exact h.elim
  . exact h.elim
theorem i7 {b:Bl} {fz:Bool} {es:Es} (h:T B Φ E (.blt b fz es) σ H Q):HP (rBl B b) (TL B Φ E es) σ H Q:=by
 obtain ⟨σD,M,F,ρ,S,r,h⟩:=h
 simp only [ev] at h
 exact TL.one S r rfl h fun x M1 F1 ρ1 H1 v _ S1 _ rx h1=>xC S1 rx h1
end
end Fg
end
section
namespace Fg
open PySem L2
noncomputable def J3 (B:Bd) (o:Out) (F:Addr->Prop) (ρ:List Addr) (H:Hp) (Dn:Ends) (E:Gx):Prop :=
 match o with
 | .nx σD=>∀ σ,RS B F ρ H σD σ->Dn.nx σ H
 | .rt d=>∀ v,RD B F ρ H d v->Dn.rt v H
 | .bk σD=>∀ σ,RS B F ρ H σD σ->Dn.bk σ H
 | .ct σD=>∀ σ,RS B F ρ H σD σ->Dn.ct σ H
 | .xc c σD=>∀ σ cv x,RS B F ρ H σD σ->B.exc c cv->E.e cv x σ H
noncomputable def bE (B:Bd) (r:R Out) (F:Addr->Prop) (ρ:List Addr) (H:Hp) (Dn:Ends) (E:Gx):Prop :=
 match r with
 | .ok o M'=>∀ F' ρ' H',Ext F ρ H F' ρ' H'->SR B F' ρ' M' H'->J3 B o F' ρ' H' Dn E
 | .exc _ _=>False
 | .bad=>False
noncomputable def TC (B:Bd) (Φ:cM) (E:Gx) (s:S):TS:=fun Dn σ H=>∃ (σD:Sg) (M:MH) (F:Addr->Prop) (ρ:List Addr),
 SR B F ρ M H/\RS B F ρ H σD σ/\bE B (ex Φ s σD M) F ρ H Dn E
noncomputable def xN (B:Bd) (Φ:cM) (E:Gx) (s:Ss):TS:=fun Dn σ H=>∃ (σD:Sg) (M:MH) (F:Addr->Prop) (ρ:List Addr),
 SR B F ρ M H/\RS B F ρ H σD σ/\bE B (exs Φ s σD M) F ρ H Dn E
section
variable {B:Bd} {Φ:cM} {E:Gx} {F F' F1:Addr->Prop} {ρ ρ' ρ1:List Addr} {H H' H1:Hp} {M M':MH} {σD:Sg} {σ:St} {Q:VK} {Dn:Ends}
theorem bE.weak {r:R Out} (e:Ext F ρ H F1 ρ1 H1) (h:bE B r F ρ H Dn E):bE B r F1 ρ1 H1 Dn E:=by
 cases r with
 | ok d M'=>exact fun F' ρ' H' e' S=>h F' ρ' H' (e.trans e') S
 | exc c M'=>exact h
 | bad=>exact h
theorem bE.use {α β:Type} {rel:(Addr->Prop)->List Addr->Hp->α->β->Prop} {x:R α} {f:α->MH->R Out} (r:RS B F ρ H σD σ) (h:bE B (x.use σD f) F ρ H Dn E) :
  ah rel B x F ρ H (fun v H'=>∃ d M' F' ρ',Ext F ρ H F' ρ' H'/\SR B F' ρ' M' H'/\rel F' ρ' H' d v/\bE B (f d M') F' ρ' H' Dn E) (fun cv x H'=>E.e cv x σ H'):=by
 cases x with
 | ok d M'=>exact fun F' ρ' H' v e S q=>⟨d,M',F',ρ',e,S,q,bE.weak e h⟩
 | exc c M'=>exact fun F' ρ' H' cv x e S q=>h F' ρ' H' e S σ cv x (r.mono e) q
 | bad=>exact h
theorem TC.one {a:Fg.E} {f:D->MH->R Out} {W:V->Hp->Prop} (S:SR B F ρ M H) (r:RS B F ρ H σD σ) (h:bE B ((ev Φ a σD M).use σD f) F ρ H Dn E)
  (k:∀ x M1 F1 ρ1 H1 v,Ext F ρ H F1 ρ1 H1->SR B F1 ρ1 M1 H1->RS B F1 ρ1 H1 σD σ->RD B F1 ρ1 H1 x v->bE B (f x M1) F1 ρ1 H1 Dn E->W v H1):T B Φ E a σ H W:=by
 refine ⟨σD,M,F,ρ,S,r,ah.imp (bE.use (rel:=RD B) r h) fun v H1 ⟨x,M1,F1,ρ1,e,S1,rx,h1⟩=>?_⟩
 exact k x M1 F1 ρ1 H1 v e S1 (r.mono e) rx h1
theorem bE.run {o:Out} (h:bE B (.ok o M) F ρ H Dn E) (S:SR B F ρ M H):J3 B o F ρ H Dn E:=h F ρ H S.refl S
theorem lB {i:Nat} {e:Fg.E} (h:TC B Φ E (.set i e) Dn σ H):ur (T B Φ E e) (jL i) Dn σ H:=by
 obtain ⟨σD,M,F,ρ,S,r,h⟩:=h
 simp only [ex] at h
 exact TC.one S r h fun x M1 F1 ρ1 H1 v e1 S1 r1 rx h1=>bE.run h1 S1 _ (r1.set rx i)
theorem D6 {e:Fg.E} (h:TC B Φ E (.ex e) Dn σ H):Cj (T B Φ E e) Dn σ H:=by
 obtain ⟨σD,M,F,ρ,S,r,h⟩:=h
 simp only [ex] at h
 exact TC.one S r h fun x M1 F1 ρ1 H1 v e1 S1 r1 rx h1=>bE.run h1 S1 _ r1
theorem zu {e:Fg.E} (h:TC B Φ E (.ret e) Dn σ H):HH (T B Φ E e) Dn σ H:=by
 obtain ⟨σD,M,F,ρ,S,r,h⟩:=h
 simp only [ex] at h
 exact TC.one S r h fun x M1 F1 ρ1 H1 v e1 S1 r1 rx h1=>bE.run h1 S1 _ rx
theorem zz {c:Fg.E} {a b:Ss} (h:TC B Φ E (.ifs c a b) Dn σ H):HM (TB B Φ E c) (xN B Φ E a) (xN B Φ E b) Dn σ H:=by
 obtain ⟨σD,M,F,ρ,S,r,h⟩:=h
 simp only [ex] at h
 refine TC.one S r h fun x M1 F1 ρ1 H1 v e1 S1 r1 rx h1=>?_
 split at h1
 ·simp only [RD] at rx;subst rx
  exact ⟨true,rfl,by dsimp only;rw [if_pos rfl];exact ⟨σD,M1,F1,ρ1,S1,r1,h1⟩⟩
 ·simp only [RD] at rx;subst rx
  exact ⟨false,rfl,by dsimp only;rw [if_neg Bool.false_ne_true];exact ⟨σD,M1,F1,ρ1,S1,r1,h1⟩⟩
 ·exact h1.elim
theorem mY (h:xN B Φ E .nil Dn σ H):Ci Dn σ H:=by
 obtain ⟨σD,M,F,ρ,S,r,h⟩:=h
 simp only [exs] at h
 exact bE.run h S _ r
theorem kB {s:S} {ss:Ss} (h:xN B Φ E (.cons s ss) Dn σ H):HG (TC B Φ E s) (xN B Φ E ss) Dn σ H:=by
 obtain ⟨σD,M,F,ρ,S,r,h⟩:=h
 simp only [exs] at h
 refine ⟨σD,M,F,ρ,S,r,?_⟩
 cases hx:ex Φ s σD M with
 | ok o M1 =>
  rw [hx] at h
  simp only [R.aD] at h
  intro F' ρ' H' e S'
  cases o with
  | nx σ1=>exact fun σ' r'=>⟨σ1,M1,F',ρ',S',r',bE.weak e h⟩
  | rt d=>exact fun v q=>h F' ρ' H' e S' v q
  | bk σ1=>exact fun σ' q=>h F' ρ' H' e S' σ' q
  | ct σ1=>exact fun σ' q=>h F' ρ' H' e S' σ' q
  | xc c σ1=>exact fun σ' cv x q1 q2=>h F' ρ' H' e S' σ' cv x q1 q2
 | exc c M1=>rw [hx] at h;exact h
 | bad=>rw [hx] at h;exact h
theorem pY {fz:Bool} {x:D} {ds:List D} {v:V} {vs:List V} {X:XK} (S:SR B F ρ M H) (rx:RD B F ρ H x v) (r:aj B F ρ H ds vs) (h:Post B (iS .append fz M x ds) F ρ H Q X):lC v vs H Q:=by
 unfold iS at h
 cases hl:dw M x with
 | none=>rw [hl] at h;exact h.elim
 | some q =>
  rw [hl] at h
  obtain ⟨rfl,hx⟩:=ja hl
  cases ds with
  | nil=>exact h.elim
  | cons d t =>
   cases t with
   | cons _ _=>exact h.elim
   | nil =>
    simp only [nA,nj] at h
    split at h
    ·rename_i hlen
     obtain ⟨w,rfl,r1⟩:=Ei r
     simp only [RD] at rx
     obtain ⟨a,h1,rfl⟩:=rx
     obtain ⟨ws,h2,h3⟩:=S.obj _ a _ h1 hx
     refine ⟨a,ws,w,rfl,rfl,h2,?_,?_⟩
     ·rw [<- aj.length h3];exact Nat.lt_of_lt_of_le (of_decide_eq_true hlen) b6
     ·obtain ⟨S',e⟩:=S.st (o:=.lst (ws++[w])) (u:=.lst (q.2++[d])) h1 (fun _ _ q=>by rw [h2] at q;cases q) ⟨_,aL,aj.bW (Ext0.at_ S h1) _ _ (h3.append (aj.cons r1 aj.nil))⟩
      exact h _ _ _ _ e S' (by simp only [RD])
    ·exact h.elim
theorem Em {k:Key} {d:D} {v:V} (rd:RD B F ρ H d v):∀ {dg:List (Ky×D)} {kvs:List (Key×V)},kvs.map (·.1)=dg.map (·.1)->aj B F ρ H (dg.map (·.2)) (kvs.map (·.2)) ->
  (putK kvs k v).map (·.1)=(put dg k d).map (·.1)/\aj B F ρ H ((put dg k d).map (·.2)) ((putK kvs k v).map (·.2)):=by
 have hmap:∀ {dg:List (Ky×D)} {kvs:List (Key×V)},kvs.map (·.1)=dg.map (·.1)->aj B F ρ H (dg.map (·.2)) (kvs.map (·.2)) ->
   (kvs.map fun kv=>if kv.1=k then (kv.1,v) else kv).map (·.1)=(dg.map fun kv=>if kv.1=k then (kv.1,d) else kv).map (·.1) /\
   aj B F ρ H ((dg.map fun kv=>if kv.1=k then (kv.1,d) else kv).map (·.2)) ((kvs.map fun kv=>if kv.1=k then (kv.1,v) else kv).map (·.2)):=by
  intro dg
  induction dg with
  | nil=>intro kvs h1 h2;cases kvs with | nil=>exact ⟨rfl,aj.nil⟩ | cons _ _=>simp at h1
  | cons p dg ih =>
   intro kvs h1 h2
   cases kvs with
   | nil=>simp at h1
   | cons q kvs =>
    obtain ⟨pk,pd⟩:=p
    obtain ⟨qk,qv⟩:=q
    simp only [List.map_cons,List.cons.injEq] at h1
    simp only [List.map_cons,aj] at h2
    obtain ⟨u,ws,e,r1,r2⟩:=h2
    cases e
    obtain ⟨e1,e2⟩:=h1
    subst e1
    obtain ⟨i1,i2⟩:=ih e2 r2
    by_cases hk:qk=k
    ·simp only [List.map_cons,if_pos hk,i1,true_and]
     exact aj.cons rd i2
    ·simp only [List.map_cons,if_neg hk,i1,true_and]
     exact aj.cons r1 i2
 have hany:∀ {dg:List (Ky×D)} {kvs:List (Key×V)},kvs.map (·.1)=dg.map (·.1)->(kvs.any fun kv=>decide (kv.1=k))=(dg.any fun kv=>decide (kv.1=k)):=by
  intro dg
  induction dg with
  | nil=>intro kvs h1;cases kvs with | nil=>rfl | cons _ _=>simp at h1
  | cons p dg ih =>
   intro kvs h1
   cases kvs with
   | nil=>simp at h1
   | cons q kvs =>
    simp only [List.map_cons,List.cons.injEq] at h1
    simp only [List.any_cons,h1.1,ih h1.2]
 intro dg kvs h1 h2
 unfold putK put
 rw [hany h1]
 split
 ·exact hmap h1 h2
 ·simp only [List.map_append,List.map_cons,List.map_nil,h1,true_and]
  exact h2.append (aj.cons rd aj.nil)
noncomputable def Walks (B:Bd) (J:It) (src:D) (ds:List D) (F0:Addr->Prop) (ρ0:List Addr) (M0:MH) (H0:Hp):Prop :=
 ∀ (i:Nat) F ρ M H,Ext F0 ρ0 H0 F ρ H->SR B F ρ M H->aG M0 src M=true ->
  (∀ d,ds[i]? = some d->J.go i H/\∀ x H',J.Kc i H x H'->∃ F',Ext F ρ H F' ρ H'/\SR B F' ρ M H'/\RD B F' ρ H' d x)/\(ds.length<=i->J.stop i H)
noncomputable def Dz (B:Bd) (Φ:cM) (E:Gx) (c:Src):TI:=fun σ H R=>∃ (σD:Sg) (M:MH) (F:Addr->Prop) (ρ:List Addr),
 SR B F ρ M H/\RS B F ρ H σD σ/\ah (fun F' ρ' H' (p:D×List D×Bool) (J:It)=>∀ M',cu Φ c σD M=.ok p M'->SR B F' ρ' M' H'->Walks B J p.1 p.2.1 F' ρ' M' H' /\
  (p.2.2=true->∃ n a,p.1=.ref n/\ρ'[n]? = some a/\E.th a/\∀ w v,H a≠some (.fN w v))) B (cu Φ c σD M) F ρ H R (fun cv x H'=>E.e cv x σ H')
noncomputable def thE (th:Addr->Prop) (D:Ends):Ends:=⟨fun σ H=>∃ H',yW th H H'/\D.nx σ H',fun v H=>∃ H',yW th H H'/\D.rt v H',fun σ H=>∃ H',yW th H H'/\D.bk σ H',fun σ H=>∃ H',yW th H H'/\D.ct σ H'⟩
theorem cX {F1:Addr->Prop} {ρ0 ρ1:List Addr} {H1:Hp} {M1:MH} {fl:Bool} {src:D} {th:Addr->Prop} (S:SR B F1 ρ1 M1 H1) (e:Ext F ρ H F1 ρ1 H1) (hp:ρ0 <+: ρ1) (wz:fl=true->∃ n a,src=.ref n/\ρ0[n]? = some a/\th a/\∀ w v,H a≠some (.fN w v)) :
  ∃ H',yW th H1 H'/\SR B F1 ρ1 (dY fl src M1) H'/\Ext F ρ H F1 ρ1 H'/\Ext0 F1 ρ1 H1 F1 ρ1 H':=by
 have same:SR B F1 ρ1 M1 H1/\Ext F ρ H F1 ρ1 H1/\Ext0 F1 ρ1 H1 F1 ρ1 H1:=⟨S,e,S.refl.toExt0⟩
 cases fl with
 | false=>exact ⟨H1,.inl rfl,by cases src <;> exact same⟩
 | true =>
  obtain ⟨n,a,rfl,hn,ht,hz⟩:=wz rfl
  have hn1:ρ1[n]? = some a:=by
   obtain ⟨t,rfl⟩:=hp
   obtain ⟨q,_⟩:=List.getElem?_eq_some_iff.mp hn
   rw [List.getElem?_append_left q];exact hn
  cases hM:M1[n]? with
  | none=>refine ⟨H1,.inl rfl,?_⟩;simp only [dY,hM];exact same
  | some o =>
   cases o with
   | gM kvs =>
    obtain ⟨o,kws,h1,S'⟩:=S.uw hn1 hM
    refine ⟨upd H1 a (.dK kws),.inr ⟨a,o,kws,ht,h1,rfl⟩,?_,e.thaw (List.mem_of_getElem? hn1) hz S.sep,Ext0.at_ S hn1⟩
    simp only [dY,hM];exact S'
   | lst _=>refine ⟨H1,.inl rfl,?_⟩;simp only [dY,hM];exact same
   | dct _=>refine ⟨H1,.inl rfl,?_⟩;simp only [dY,hM];exact same
   | ins _ _=>refine ⟨H1,.inl rfl,?_⟩;simp only [dY,hM];exact same
theorem RS.bW {F':Addr->Prop} {ρ':List Addr} {H':Hp} (e:Ext0 F ρ H F' ρ' H') (h:RS B F ρ H σD σ):RS B F' ρ' H' σD σ :=
 ⟨h.len,fun i d q=>let ⟨v,h1,h2⟩:=h.get i d q;⟨v,h1,RD.bW e d v h2⟩⟩
noncomputable def Hf (tg:List Nat) (K:W.Frag):TG:=match tg with
 | [i]=>jL i
 | [i,j]=>fun v σ H Q=>∃ a x y,v=.ref a/\iH K H a [x,y]/\Q ((σ.set i (some x)).set j (some y)) H
 | []=>fun _ _ _ _=>False
 | tg=>fun v σ H Q=>∃ a xs,v=.ref a/\iH K H a xs/\xs.length=tg.length/\Q (g6 tg xs σ) H
theorem RS.all:∀ {tg:List Nat} {ds:List D} {vs:List V} {σD:Sg} {σ:St},RS B F ρ H σD σ->aj B F ρ H ds vs->RS B F ρ H (g6 tg ds σD) (g6 tg vs σ)
 | [],ds,vs,σD,σ,r,q=>by cases ds <;> cases vs <;> exact r
 | i::tg,[],vs,σD,σ,r,q=>by simp only [aj] at q;subst q;exact r
 | i::tg,d::ds,vs,σD,σ,r,q=>by
  simp only [aj] at q
  obtain ⟨v,ws,rfl,h1,h2⟩:=q
  exact RS.all (tg:=tg) (ds:=ds) (vs:=ws) (σD:=σD.set i (some d)) (σ:=σ.set i (some v)) (r.set h1 i) h2
theorem ju {tg:List Nat} {d:D} {v:V} {σ1:Sg} {N:St->Hp->Prop} (r:RS B F ρ H σD σ) (rd:RD B F ρ H d v) (h:sets tg M d σD=some σ1) (k:∀ σ',RS B F ρ H σ1 σ'->N σ' H):Hf tg B.K v σ H N:=by
 unfold sets at h
 split at h
 ·cases h;exact k _ (r.set rd _)
 ·split at h
  ·cases h
   simp only [RD] at rd
   obtain ⟨a,vs,rfl,z,q⟩:=rd
   simp only [aj] at q
   obtain ⟨x,ws,rfl,r1,y,us,rfl,r2,rfl⟩:=q
   exact ⟨a,x,y,rfl,z.sq,k _ ((r.set r1 _).set r2 _)⟩
  ·cases h
 ·cases h
 ·rename_i h1 h2 h3
  split at h
  ·rename_i xs
   split at h
   ·rename_i hl
    cases h
    simp only [RD] at rd
    obtain ⟨a,vs,rfl,z,q⟩:=rd
    have e:vs.length=tg.length:=by rw [<- aj.length q];exact hl
    match tg,h1,h2,h3,e,k with
    | i::j::l::tg,_,_,_,e,k=>exact ⟨a,vs,rfl,z.sq,e,k _ (r.all q)⟩
    | [i],h1,_,_,_,_=>exact absurd rfl (h1 i)
    | [i,j],_,h2,_,_,_=>exact absurd rfl (h2 i j)
    | [],_,_,h3,_,_=>exact absurd rfl h3
   ·cases h
  ·cases h
theorem zB {tg:List Nat} {it:Src} {b:Ss} (h:TC B Φ E (.for tg it b) Dn σ H):HN (Dz B Φ E it) (Hf tg B.K) (xN B Φ E b) (thE E.th Dn) σ H:=by
 obtain ⟨σD,M,F,ρ,S,r,h⟩:=h
 simp only [ex] at h
 refine ⟨σD,M,F,ρ,S,r,?_⟩
 cases hx:cu Φ it σD M with
 | exc c M1=>rw [hx] at h;exact fun F' ρ' H' cv x e S q=>h F' ρ' H' e S σ cv x (r.mono e) q
 | bad=>rw [hx] at h;exact h
 | ok p M0 =>
  rw [hx] at h
  simp only [R.oH] at h
  intro F0 ρ0 H0 J e0 S0 hw
  obtain ⟨W,wz⟩:=hw M0 rfl S0
  obtain ⟨src,ds,fl⟩:=p
  dsimp only at h W wz
  refine ⟨fun i m σ H1=>m+i=ds.length/\∃ σD M F1 ρ1,Ext F ρ H F1 ρ1 H1/\Ext F0 ρ0 H0 F1 ρ1 H1/\SR B F1 ρ1 M H1/\RS B F1 ρ1 H1 σD σ/\aG M0 src M=true/\bE B ((bS (exs Φ b) tg (aG M0 src) (ds.drop i) σD M).fin (dY fl src)) F ρ H Dn E,⟨ds.length,by simp,σD,M0,F0,ρ0,e0,S0.refl,S0,r.mono e0,?_,h⟩,?_⟩
  ·unfold aG;split <;> simp
  rintro i m σ1 H1 ⟨hm,σD1,M1,F1,ρ1,eo,e1,S1,r1,st1,p1⟩
  obtain ⟨wgo,wst⟩:=W i F1 ρ1 M1 H1 e1 S1 st1
  by_cases hi:i<ds.length
  ·have hd:ds.drop i=ds[i]::ds.drop (i+1):=List.drop_eq_getElem_cons hi
   rw [hd] at p1
   unfold bS at p1
   obtain ⟨go,yl⟩:=wgo ds[i] (List.getElem?_eq_getElem hi)
   refine .inr ⟨go,fun σ' H'=>∃ σD M F1 ρ1,Ext F ρ H F1 ρ1 H'/\Ext F0 ρ0 H0 F1 ρ1 H'/\SR B F1 ρ1 M H'/\RS B F1 ρ1 H' σD σ'/\aG M0 src M=true/\bE B ((bS (exs Φ b) tg (aG M0 src) (ds.drop (i+1)) σD M).fin (dY fl src)) F ρ H Dn E,fun σ' H' q=>⟨m-1,by omega,by omega,q⟩,fun x H' hy=>?_⟩
   obtain ⟨F',e2,S2,rd⟩:=yl x H' hy
   split at p1
   ·exact p1.elim
   ·rename_i σ2 hs
    refine ju (r1.mono e2) rd hs fun σ' r'=>⟨σ2,M1,F',ρ1,S2,r',?_⟩
    cases hb:exs Φ b σ2 M1 with
    | exc c M3=>rw [hb] at p1;exact p1.elim
    | bad=>rw [hb] at p1;exact p1.elim
    | ok o M3 =>
     rw [hb] at p1
     simp only [R.aD] at p1
     intro F3 ρ3 H3 e3 S3
     have JM:=(eo.trans e2).trans e3
     have JO:=(e1.trans e2).trans e3
     cases o with
     | nx σ3 =>
      simp only at p1
      intro σ4 r4
      split at p1
      ·rename_i hst
       exact ⟨σ3,M3,F3,ρ3,JM,JO,S3,r4,hst,p1⟩
      ·exact p1.elim
     | ct σ3 =>
      simp only at p1
      intro σ4 r4
      split at p1
      ·rename_i hst
       exact ⟨σ3,M3,F3,ρ3,JM,JO,S3,r4,hst,p1⟩
      ·exact p1.elim
     | bk σ3 =>
      obtain ⟨H4,t4,S4,e4,x4⟩:=cX S3 JM JO.r wz
      exact fun σ4 r4=>⟨H4,t4,p1 F3 ρ3 H4 e4 S4 σ4 (r4.bW x4)⟩
     | rt d =>
      obtain ⟨H4,t4,S4,e4,x4⟩:=cX S3 JM JO.r wz
      exact fun v q=>⟨H4,t4,p1 F3 ρ3 H4 e4 S4 v (RD.bW x4 _ _ q)⟩
     | xc c σ3 =>
      obtain ⟨H4,t4,S4,e4,x4⟩:=cX S3 JM JO.r wz
      exact fun σ4 cv x q1 q2=>E.cl cv x σ4 H3 H4 t4 (p1 F3 ρ3 H4 e4 S4 σ4 cv x (q1.bW x4) q2)
  ·have hd:ds.drop i=[]:=List.drop_eq_nil_of_le (Nat.le_of_not_lt hi)
   rw [hd] at p1
   unfold bS at p1
   obtain ⟨H4,t4,S4,e4,x4⟩:=cX S1 eo e1.r wz
   exact .inl ⟨wst (Nat.le_of_not_lt hi),H4,t4,p1 F1 ρ1 H4 e4 S4 σ1 (r1.bW x4)⟩
end
end Fg
end
section
namespace Fg
open PySem PySem.Spec L2
section
variable {X:Cx} {pins:List (Addr×Obj)} {σ:L2.St} {H:Hp} {s:Shared}
mutual
theorem DV.inj (I:Inv X pins σ H s):∀ {d e:D} {x:V},DV X.K H d x->DV X.K H e x->d=e
 | .aE,e,x,h,h'=>by
  simp only [DV] at h;subst h
  cases e <;> simp only [DV] at h' <;> first | rfl | (cases h';done) | (obtain ⟨_,_,q,_⟩:=h';cases q)
 | .bl b,e,x,h,h'=>by
  simp only [DV] at h;subst h
  cases e <;> simp only [DV] at h' <;> first | (cases h';rfl) | (cases h';done) | (obtain ⟨_,_,q,_⟩:=h';cases q)
 | .int b,e,x,h,h'=>by
  simp only [DV] at h;subst h
  cases e <;> simp only [DV] at h' <;> first | (cases h';rfl) | (cases h';done) | (obtain ⟨_,_,q,_⟩:=h';cases q)
 | .str b,e,x,h,h'=>by
  simp only [DV] at h;subst h
  cases e <;> simp only [DV] at h' <;> first | (cases h';rfl) | (cases h';done) | (obtain ⟨_,_,q,_⟩:=h';cases q)
 | .tup ds,e,x,h,h'=>by
  simp only [DV] at h
  obtain ⟨a,vs,rfl,h1,h2⟩:=h
  cases e with
  | tup es =>
   simp only [DV] at h'
   obtain ⟨b,ws,q,h3,h4⟩:=h'
   cases q
   have:=I.gY h1 h3
   subst this
   rw [gn.inj I h2 h4]
  | lst es =>
   simp only [DV] at h'
   obtain ⟨b,ws,q,h3,h4⟩:=h'
   cases q
   obtain ⟨its,_,t1,_⟩:=I.tuple h1
   obtain ⟨its',_,t2,_⟩:=I.list h3
   exact absurd rfl (SeqAt.ne_of_list_tuple t2.isList t1)
  | aE=>simp only [DV] at h';cases h'
  | bl _=>simp only [DV] at h';cases h'
  | int _=>simp only [DV] at h';cases h'
  | str _=>simp only [DV] at h';cases h'
  | dct _ _=>simp only [DV] at h'
  | ref _=>simp only [DV] at h'
 | .lst ds,e,x,h,h'=>by
  simp only [DV] at h
  obtain ⟨a,vs,rfl,h1,h2⟩:=h
  cases e with
  | lst es =>
   simp only [DV] at h'
   obtain ⟨b,ws,q,h3,h4⟩:=h'
   cases q
   have:=I.jC h1 h3
   subst this
   rw [gn.inj I h2 h4]
  | tup es =>
   simp only [DV] at h'
   obtain ⟨b,ws,q,h3,h4⟩:=h'
   cases q
   obtain ⟨its,_,t1,_⟩:=I.list h1
   obtain ⟨its',_,t2,_⟩:=I.tuple h3
   exact absurd rfl (SeqAt.ne_of_list_tuple t1.isList t2)
  | aE=>simp only [DV] at h';cases h'
  | bl _=>simp only [DV] at h';cases h'
  | int _=>simp only [DV] at h';cases h'
  | str _=>simp only [DV] at h';cases h'
  | dct _ _=>simp only [DV] at h'
  | ref _=>simp only [DV] at h'
 | .dct _ _,e,x,h,h'=>by simp only [DV] at h
 | .ref _,e,x,h,h'=>by simp only [DV] at h
theorem gn.inj (I:Inv X pins σ H s):∀ {ds es:List D} {xs:List V},gn X.K H ds xs->gn X.K H es xs->ds=es
 | [],es,xs,h,h'=>by
  simp only [gn] at h;subst h
  cases es with
  | nil=>rfl
  | cons _ _=>simp only [gn] at h';obtain ⟨_,_,q,_⟩:=h';cases q
 | d::ds,es,xs,h,h'=>by
  simp only [gn] at h
  obtain ⟨v,ws,rfl,h1,h2⟩:=h
  cases es with
  | nil=>simp only [gn] at h';cases h'
  | cons e es =>
   simp only [gn] at h'
   obtain ⟨v',ws',q,h3,h4⟩:=h'
   cases q
   rw [DV.inj I h1 h3,gn.inj I h2 h4]
end
mutual
theorem cK {K:W.Frag} {H:Hp}:∀ {d:D} {x:V},DV K H d x->aP d d=true
 | .aE,_,_=>by simp only [aP]
 | .bl b,_,_=>by simp only [aP];simp
 | .int i,_,_=>by simp only [aP];simp
 | .str x,_,_=>by simp only [aP];simp
 | .tup ds,_,h=>by simp only [DV] at h;obtain ⟨_,_,_,_,q⟩:=h;simp only [aP];exact cE q
 | .lst ds,_,h=>by simp only [DV] at h;obtain ⟨_,_,_,_,q⟩:=h;simp only [aP];exact cE q
 | .dct _ _,_,h=>by simp only [DV] at h
 | .ref _,_,h=>by simp only [DV] at h
theorem cE {K:W.Frag} {H:Hp}:∀ {ds:List D} {xs:List V},gn K H ds xs->cT ds ds=true
 | [],_,_=>by simp only [cT]
 | d::ds,_,h=>by
  simp only [gn] at h
  obtain ⟨_,_,_,h1,h2⟩:=h
  simp only [cT,cK h1,cE h2,Bool.and_self]
end
theorem gn.length {K:W.Frag} {H:Hp}:∀ {ds:List D} {xs:List V},gn K H ds xs->ds.length=xs.length
 | [],_,h=>by simp only [gn] at h;subst h;rfl
 | d::ds,_,h=>by
  simp only [gn] at h
  obtain ⟨_,_,rfl,_,h2⟩:=h
  simp [gn.length h2]
theorem gn.get {K:W.Frag} {H:Hp}:∀ {ds:List D} {xs:List V} {i:Nat} (h1:i<ds.length),gn K H ds xs->∃ v,xs[i]? = some v/\DV K H ds[i] v
 | [],_,i,h1,_=>by simp at h1
 | d::ds,_,i,h1,h=>by
  simp only [gn] at h
  obtain ⟨v,ws,rfl,q1,q2⟩:=h
  cases i with
  | zero=>exact ⟨v,rfl,q1⟩
  | succ i =>
   simp only [List.length_cons] at h1
   obtain ⟨u,a,b⟩:=gn.get (i:=i) (by omega) q2
   exact ⟨u,by simpa using a,by simpa using b⟩
theorem cU:∀ {ds:List D} {i:Nat} (h:i<ds.length),dep ds[i]<=deps ds
 | [],i,h=>by simp at h
 | d::ds,i,h=>by
  cases i with
  | zero=>simp only [List.getElem_cons_zero,deps];omega
  | succ i =>
   simp only [List.length_cons] at h
   have:=cU (ds:=ds) (i:=i) (by omega)
   simp only [List.getElem_cons_succ,deps];omega
theorem c9:∀ (ds es:List D),((List.range (min ds.length es.length)).all (fun j=>match ds[j]?,es[j]? with | some a,some b=>aP a b | _,_=>false)&&ds.length == es.length)=cT ds es
 | [],[]=>by simp [cT]
 | [],e::es=>by simp [cT]
 | d::ds,[]=>by simp [cT]
 | d::ds,e::es=>by
  have ih:=c9 ds es
  simp only [cT,<- ih]
  simp only [List.length_cons,Nat.succ_min_succ,List.range_succ_eq_map,List.all_cons,List.all_map,Function.comp_def]
  simp [Bool.and_assoc]
noncomputable def EqB (s:Shared) (d e:D) (u w:Value) (n:Nat):Prop:=∀ A:Around,A.units+n<cLine->SeqAt.RcAt A s u w (aP d e)/\SeqAt.EqAt A s u w (aP d e)
theorem in1_units (A:Around):A.in1.units=A.units+1:=rfl
theorem bG:∀ {ds:List D} {i:Nat},ay ds=true->∀ (h:i<ds.length),plain ds[i]=true
 | [],i,_,h=>by simp at h
 | d::ds,i,p,h=>by
  simp only [ay,Bool.and_eq_true] at p
  cases i with
  | zero=>exact p.1
  | succ i=>simp only [List.length_cons] at h;simpa using bG p.2 (by omega)
theorem eq_data (I:Inv X pins σ H s):∀ (n:Nat) (d e:D) (x y:V) (u w:Value),dep d+dep e<n->DV X.K H d x->DV X.K H e y->plain d=true->plain e=true->RelV x u->RelV y w->EqB s d e u w (min (dep d) (dep e)+1)
 | 0,_,_,_,_,_,_,h,_,_,_,_,_,_=>absurd h (Nat.not_lt_zero _)
 | n+1, d, e, x, y, u, w, hn, hd, he, pd, pe, ru, rw'=>by
  have ih:=eq_data I n
  intro A hA
  have hu:A.units<cLine:=by omega
  cases d with
  | bl _=>simp [plain] at pd
  | dct _ _=>simp [plain] at pd
  | ref _=>simp [plain] at pd
  | aE =>
   simp only [DV] at hd;subst hd;cases (show u=Value.none from ru)
   cases e with
   | bl _=>simp [plain] at pe
   | dct _ _=>simp [plain] at pe
   | ref _=>simp [plain] at pe
   | aE =>
    simp only [DV] at he;subst he;cases (show w=Value.none from rw')
    simp only [aP];exact ⟨SeqAt.RcAt.none_none,SeqAt.EqAt.same _⟩
   | int j =>
    simp only [DV] at he;subst he;obtain ⟨t',rfl⟩:=(show ∃ t,w=Value.int j t from rw')
    simp only [aP];exact ⟨SeqAt.RcAt.none_int j t',SeqAt.EqAt.none_int j t'⟩
   | str j =>
    simp only [DV] at he;subst he;obtain ⟨t',rfl⟩:=(show ∃ t,w=Value.str j t from rw')
    simp only [aP];exact ⟨SeqAt.RcAt.none_str j t',SeqAt.EqAt.none_str j t'⟩
   | tup es =>
    simp only [DV] at he
    obtain ⟨b,ws,rfl,h3,h4⟩:=he
    cases (show w=Value.ref b from rw')
    obtain ⟨its,_,t1,_⟩:=I.tuple h3
    simp only [aP];exact ⟨SeqAt.RcAt.none_tuple  t1 hu,SeqAt.EqAt.none_tuple  t1 hu⟩
   | lst es =>
    simp only [DV] at he
    obtain ⟨b,ws,rfl,h3,h4⟩:=he
    cases (show w=Value.ref b from rw')
    obtain ⟨its,_,t1,_⟩:=I.list h3
    simp only [aP];exact ⟨SeqAt.RcAt.none_list  t1.isList hu,SeqAt.EqAt.none_list  t1.isList hu⟩
  | int i =>
   simp only [DV] at hd;subst hd;obtain ⟨t,rfl⟩:=(show ∃ t,u=Value.int i t from ru)
   cases e with
   | bl _=>simp [plain] at pe
   | dct _ _=>simp [plain] at pe
   | ref _=>simp [plain] at pe
   | aE =>
    simp only [DV] at he;subst he;cases (show w=Value.none from rw')
    simp only [aP];exact ⟨SeqAt.RcAt.int_none i t,SeqAt.EqAt.int_none i t⟩
   | int j =>
    simp only [DV] at he;subst he;obtain ⟨t',rfl⟩:=(show ∃ t,w=Value.int j t from rw')
    have z:aP (D.int i) (D.int j)=(i == j):=by simp only [aP];by_cases q:i=j <;> simp [q]
    rw [z];exact ⟨SeqAt.RcAt.int_int i t j t',SeqAt.EqAt.int_int i t j t'⟩
   | str j =>
    simp only [DV] at he;subst he;obtain ⟨t',rfl⟩:=(show ∃ t,w=Value.str j t from rw')
    simp only [aP];exact ⟨SeqAt.RcAt.int_str i t j t',SeqAt.EqAt.int_str i t j t'⟩
   | tup es =>
    simp only [DV] at he
    obtain ⟨b,ws,rfl,h3,h4⟩:=he
    cases (show w=Value.ref b from rw')
    obtain ⟨its,_,t1,_⟩:=I.tuple h3
    simp only [aP];exact ⟨SeqAt.RcAt.int_tuple i t t1 hu,SeqAt.EqAt.int_tuple i t t1 hu⟩
   | lst es =>
    simp only [DV] at he
    obtain ⟨b,ws,rfl,h3,h4⟩:=he
    cases (show w=Value.ref b from rw')
    obtain ⟨its,_,t1,_⟩:=I.list h3
    simp only [aP];exact ⟨SeqAt.RcAt.int_list i t t1.isList hu,SeqAt.EqAt.int_list i t t1.isList hu⟩
  | str i =>
   simp only [DV] at hd;subst hd;obtain ⟨t,rfl⟩:=(show ∃ t,u=Value.str i t from ru)
   cases e with
   | bl _=>simp [plain] at pe
   | dct _ _=>simp [plain] at pe
   | ref _=>simp [plain] at pe
   | aE =>
    simp only [DV] at he;subst he;cases (show w=Value.none from rw')
    simp only [aP];exact ⟨SeqAt.RcAt.str_none i t,SeqAt.EqAt.str_none i t⟩
   | int j =>
    simp only [DV] at he;subst he;obtain ⟨t',rfl⟩:=(show ∃ t,w=Value.int j t from rw')
    simp only [aP];exact ⟨SeqAt.RcAt.str_int i t j t',SeqAt.EqAt.str_int i t j t'⟩
   | str j =>
    simp only [DV] at he;subst he;obtain ⟨t',rfl⟩:=(show ∃ t,w=Value.str j t from rw')
    have z:aP (D.str i) (D.str j)=(i == j):=by simp only [aP];by_cases q:i=j <;> simp [q]
    rw [z];exact ⟨SeqAt.RcAt.str_str i t j t',SeqAt.EqAt.str_str i t j t'⟩
   | tup es =>
    simp only [DV] at he
    obtain ⟨b,ws,rfl,h3,h4⟩:=he
    cases (show w=Value.ref b from rw')
    obtain ⟨its,_,t1,_⟩:=I.tuple h3
    simp only [aP];exact ⟨SeqAt.RcAt.str_tuple i t t1 hu,SeqAt.EqAt.str_tuple i t t1 hu⟩
   | lst es =>
    simp only [DV] at he
    obtain ⟨b,ws,rfl,h3,h4⟩:=he
    cases (show w=Value.ref b from rw')
    obtain ⟨its,_,t1,_⟩:=I.list h3
    simp only [aP];exact ⟨SeqAt.RcAt.str_list i t t1.isList hu,SeqAt.EqAt.str_list i t t1.isList hu⟩
  | tup ds =>
   simp only [DV] at hd
   obtain ⟨a,vs,rfl,h1,h2⟩:=hd
   cases (show u=Value.ref a from ru)
   obtain ⟨its,r1,t1,_⟩:=I.tuple h1
   cases e with
   | bl _=>simp [plain] at pe
   | dct _ _=>simp [plain] at pe
   | ref _=>simp [plain] at pe
   | aE =>
    simp only [DV] at he;subst he;cases (show w=Value.none from rw')
    simp only [aP];exact ⟨SeqAt.RcAt.tuple_none  t1 hu,SeqAt.EqAt.tuple_none  t1 hu⟩
   | int j =>
    simp only [DV] at he;subst he;obtain ⟨t',rfl⟩:=(show ∃ t,w=Value.int j t from rw')
    simp only [aP];exact ⟨SeqAt.RcAt.tuple_int j t' t1 hu,SeqAt.EqAt.tuple_int j t' t1 hu⟩
   | str j =>
    simp only [DV] at he;subst he;obtain ⟨t',rfl⟩:=(show ∃ t,w=Value.str j t from rw')
    simp only [aP];exact ⟨SeqAt.RcAt.tuple_str j t' t1 hu,SeqAt.EqAt.tuple_str j t' t1 hu⟩
   | lst es =>
    simp only [DV] at he
    obtain ⟨b,ws,rfl,h3,h4⟩:=he
    cases (show w=Value.ref b from rw')
    obtain ⟨its2,r2,t2,_⟩:=I.list h3
    simp only [aP];exact ⟨SeqAt.RcAt.tuple_list t1 t2.isList hu,SeqAt.EqAt.of_refs (Ne.symm (SeqAt.ne_of_list_tuple t2.isList t1)) (SeqAt.RcAt.tuple_list t1 t2.isList hu)⟩
   | tup es =>
    simp only [DV] at he
    obtain ⟨b,ws,rfl,h3,h4⟩:=he
    cases (show w=Value.ref b from rw')
    obtain ⟨its2,r2,t2,_⟩:=I.tuple h3
    have ES:ay ds=true:=by simpa [plain] using pd
    have ER:ay es=true:=by simpa [plain] using pe
    have l1:its.length=ds.length:=by rw [<- r1.length,h2.length]
    have l2:its2.length=es.length:=by rw [<- r2.length,h4.length]
    let f:Nat->Bool:=fun j=>match ds[j]?,es[j]? with | some a,some b=>aP a b | _,_=>false
    have items:∀ j (h1:j<its.toArray.size) (h2:j<its2.toArray.size),SeqAt.EqAt A.in1 s its.toArray[j] its2.toArray[j] (f j):=by
     intro j j1 j2
     have lO:j<ds.length:=by rw [<- l1];simpa using j1
     have lN:j<es.length:=by rw [<- l2];simpa using j2
     obtain ⟨v,e1,q1⟩:=h2.get lO
     obtain ⟨v',e2,q2⟩:=h4.get lN
     obtain ⟨z,e3,q3⟩:=r1.get e1
     obtain ⟨z',e4,q4⟩:=r2.get e2
     have i1:its.toArray[j]=z:=by
      have:its[j]? = some its[j]:=List.getElem?_eq_getElem (by simpa using j1)
      rw [this] at e3;simpa using Option.some.inj e3
     have i2:its2.toArray[j]=z':=by
      have:its2[j]? = some its2[j]:=List.getElem?_eq_getElem (by simpa using j2)
      rw [this] at e4;simpa using Option.some.inj e4
     have g1:=cU lO
     have g2:=cU lN
     have hf:f j=aP ds[j] es[j]:=by simp only [f,List.getElem?_eq_getElem lO,List.getElem?_eq_getElem lN]
     rw [i1,i2,hf]
     simp only [dep] at hn hA
     exact (ih ds[j] es[j] v v' z z' (by omega) q1 q2 (bG ES lO) (bG ER lN) q3 q4 A.in1 (by rw [in1_units];omega)).2
    have uu:its.toArray.size=ds.length:=by simpa using l1
    have zb:its2.toArray.size=es.length:=by simpa using l2
    have rc:SeqAt.RcAt A s (.ref a) (.ref b) (aP (.tup ds) (.tup es)):=by
     have q:=SeqAt.RcAt.tuples t1 t2 hu items
     rw [uu,zb,c9] at q
     simp only [aP];exact q
    refine ⟨rc,?_⟩
    by_cases hab:a=b
    ·subst hab
     have i1:DV X.K H (.tup ds) (.ref a):=by simp only [DV];exact ⟨a,vs,rfl,h1,h2⟩
     have i2:DV X.K H (.tup es) (.ref a):=by simp only [DV];exact ⟨a,ws,rfl,h3,h4⟩
     rw [DV.inj I i1 i2,cK i2]
     exact SeqAt.EqAt.same _
    ·exact SeqAt.EqAt.of_refs hab rc
  | lst ds =>
   simp only [DV] at hd
   obtain ⟨a,vs,rfl,h1,h2⟩:=hd
   cases (show u=Value.ref a from ru)
   obtain ⟨its,r1,t1,_⟩:=I.list h1
   cases e with
   | bl _=>simp [plain] at pe
   | dct _ _=>simp [plain] at pe
   | ref _=>simp [plain] at pe
   | aE =>
    simp only [DV] at he;subst he;cases (show w=Value.none from rw')
    simp only [aP];exact ⟨SeqAt.RcAt.list_none  t1.isList hu,SeqAt.EqAt.list_none  t1.isList hu⟩
   | int j =>
    simp only [DV] at he;subst he;obtain ⟨t',rfl⟩:=(show ∃ t,w=Value.int j t from rw')
    simp only [aP];exact ⟨SeqAt.RcAt.list_int j t' t1.isList hu,SeqAt.EqAt.list_int j t' t1.isList hu⟩
   | str j =>
    simp only [DV] at he;subst he;obtain ⟨t',rfl⟩:=(show ∃ t,w=Value.str j t from rw')
    simp only [aP];exact ⟨SeqAt.RcAt.list_str j t' t1.isList hu,SeqAt.EqAt.list_str j t' t1.isList hu⟩
   | tup es =>
    simp only [DV] at he
    obtain ⟨b,ws,rfl,h3,h4⟩:=he
    cases (show w=Value.ref b from rw')
    obtain ⟨its2,r2,t2,_⟩:=I.tuple h3
    simp only [aP];exact ⟨SeqAt.RcAt.list_tuple t1.isList t2 hu,SeqAt.EqAt.of_refs (SeqAt.ne_of_list_tuple t1.isList t2) (SeqAt.RcAt.list_tuple t1.isList t2 hu)⟩
   | lst es =>
    simp only [DV] at he
    obtain ⟨b,ws,rfl,h3,h4⟩:=he
    cases (show w=Value.ref b from rw')
    obtain ⟨its2,r2,t2,_⟩:=I.list h3
    have ES:ay ds=true:=by simpa [plain] using pd
    have ER:ay es=true:=by simpa [plain] using pe
    have l1:its.length=ds.length:=by rw [<- r1.length,h2.length]
    have l2:its2.length=es.length:=by rw [<- r2.length,h4.length]
    let f:Nat->Bool:=fun j=>match ds[j]?,es[j]? with | some a,some b=>aP a b | _,_=>false
    have items:∀ j (h1:j<its.toArray.size) (h2:j<its2.toArray.size),SeqAt.EqAt A.in1 s its.toArray[j] its2.toArray[j] (f j):=by
     intro j j1 j2
     have lO:j<ds.length:=by rw [<- l1];simpa using j1
     have lN:j<es.length:=by rw [<- l2];simpa using j2
     obtain ⟨v,e1,q1⟩:=h2.get lO
     obtain ⟨v',e2,q2⟩:=h4.get lN
     obtain ⟨z,e3,q3⟩:=r1.get e1
     obtain ⟨z',e4,q4⟩:=r2.get e2
     have i1:its.toArray[j]=z:=by
      have:its[j]? = some its[j]:=List.getElem?_eq_getElem (by simpa using j1)
      rw [this] at e3;simpa using Option.some.inj e3
     have i2:its2.toArray[j]=z':=by
      have:its2[j]? = some its2[j]:=List.getElem?_eq_getElem (by simpa using j2)
      rw [this] at e4;simpa using Option.some.inj e4
     have g1:=cU lO
     have g2:=cU lN
     have hf:f j=aP ds[j] es[j]:=by simp only [f,List.getElem?_eq_getElem lO,List.getElem?_eq_getElem lN]
     rw [i1,i2,hf]
     simp only [dep] at hn hA
     exact (ih ds[j] es[j] v v' z z' (by omega) q1 q2 (bG ES lO) (bG ER lN) q3 q4 A.in1 (by rw [in1_units];omega)).2
    have uu:its.toArray.size=ds.length:=by simpa using l1
    have zb:its2.toArray.size=es.length:=by simpa using l2
    have rc:SeqAt.RcAt A s (.ref a) (.ref b) (aP (.lst ds) (.lst es)):=by
     by_cases hz:ds.length=es.length
     ·have q:=SeqAt.RcAt.lists t1.isList t2.isList (by rw [uu,zb,hz]) hu items
      have z:=c9 ds es
      rw [show min ds.length es.length=ds.length by omega,show (ds.length == es.length)=true by simpa using hz,Bool.and_true] at z
      rw [uu,z] at q
      simp only [aP];exact q
     ·have q:=SeqAt.RcAt.lists_lengths t1.isList t2.isList (by rw [uu,zb];simpa using hz) hu
      have z:=c9 ds es
      rw [show (ds.length == es.length)=false by simpa using hz,Bool.and_false] at z
      simp only [aP,<- z];exact q
    refine ⟨rc,?_⟩
    by_cases hab:a=b
    ·subst hab
     have i1:DV X.K H (.lst ds) (.ref a):=by simp only [DV];exact ⟨a,vs,rfl,h1,h2⟩
     have i2:DV X.K H (.lst es) (.ref a):=by simp only [DV];exact ⟨a,ws,rfl,h3,h4⟩
     rw [DV.inj I i1 i2,cK i2]
     exact SeqAt.EqAt.same _
    ·exact SeqAt.EqAt.of_refs hab rc
theorem ne_data (I:Inv X pins σ H s):∀ (d e:D) (x y:V) (u w:Value),DV X.K H d x->DV X.K H e y->plain d=true->plain e=true->RelV x u->RelV y w->∀ A:Around,A.units+(min (dep d) (dep e)+1)<cLine->SeqAt.RcNeAt A s u w (!aP d e)
 | d, e, x, y, u, w, hd, he, pd, pe, ru, rw'=>by
  have ih:=eq_data I (dep d+dep e)
  intro A hA
  have hu:A.units<cLine:=by omega
  cases d with
  | bl _=>simp [plain] at pd
  | dct _ _=>simp [plain] at pd
  | ref _=>simp [plain] at pd
  | aE =>
   simp only [DV] at hd;subst hd;cases (show u=Value.none from ru)
   cases e with
   | bl _=>simp [plain] at pe
   | dct _ _=>simp [plain] at pe
   | ref _=>simp [plain] at pe
   | aE =>
    simp only [DV] at he;subst he;cases (show w=Value.none from rw')
    simp only [aP,Bool.not_false,Bool.not_true];exact SeqAt.RcNeAt.none_none
   | int j =>
    simp only [DV] at he;subst he;obtain ⟨t',rfl⟩:=(show ∃ t,w=Value.int j t from rw')
    simp only [aP,Bool.not_false,Bool.not_true];exact SeqAt.RcNeAt.none_int j t'
   | str j =>
    simp only [DV] at he;subst he;obtain ⟨t',rfl⟩:=(show ∃ t,w=Value.str j t from rw')
    simp only [aP,Bool.not_false,Bool.not_true];exact SeqAt.RcNeAt.none_str j t'
   | tup es =>
    simp only [DV] at he
    obtain ⟨b,ws,rfl,h3,h4⟩:=he
    cases (show w=Value.ref b from rw')
    obtain ⟨its,_,t1,_⟩:=I.tuple h3
    simp only [aP,Bool.not_false,Bool.not_true];exact SeqAt.RcNeAt.none_tuple  t1 hu
   | lst es =>
    simp only [DV] at he
    obtain ⟨b,ws,rfl,h3,h4⟩:=he
    cases (show w=Value.ref b from rw')
    obtain ⟨its,_,t1,_⟩:=I.list h3
    simp only [aP,Bool.not_false,Bool.not_true];exact SeqAt.RcNeAt.none_list  t1.isList hu
  | int i =>
   simp only [DV] at hd;subst hd;obtain ⟨t,rfl⟩:=(show ∃ t,u=Value.int i t from ru)
   cases e with
   | bl _=>simp [plain] at pe
   | dct _ _=>simp [plain] at pe
   | ref _=>simp [plain] at pe
   | aE =>
    simp only [DV] at he;subst he;cases (show w=Value.none from rw')
    simp only [aP,Bool.not_false,Bool.not_true];exact SeqAt.RcNeAt.int_none i t
   | int j =>
    simp only [DV] at he;subst he;obtain ⟨t',rfl⟩:=(show ∃ t,w=Value.int j t from rw')
    have z:aP (D.int i) (D.int j)=(i == j):=by simp only [aP];by_cases q:i=j <;> simp [q]
    rw [z];exact SeqAt.RcNeAt.int_int i t j t'
   | str j =>
    simp only [DV] at he;subst he;obtain ⟨t',rfl⟩:=(show ∃ t,w=Value.str j t from rw')
    simp only [aP,Bool.not_false,Bool.not_true];exact SeqAt.RcNeAt.int_str i t j t'
   | tup es =>
    simp only [DV] at he
    obtain ⟨b,ws,rfl,h3,h4⟩:=he
    cases (show w=Value.ref b from rw')
    obtain ⟨its,_,t1,_⟩:=I.tuple h3
    simp only [aP,Bool.not_false,Bool.not_true];exact SeqAt.RcNeAt.int_tuple i t t1 hu
   | lst es =>
    simp only [DV] at he
    obtain ⟨b,ws,rfl,h3,h4⟩:=he
    cases (show w=Value.ref b from rw')
    obtain ⟨its,_,t1,_⟩:=I.list h3
    simp only [aP,Bool.not_false,Bool.not_true];exact SeqAt.RcNeAt.int_list i t t1.isList hu
  | str i =>
   simp only [DV] at hd;subst hd;obtain ⟨t,rfl⟩:=(show ∃ t,u=Value.str i t from ru)
   cases e with
   | bl _=>simp [plain] at pe
   | dct _ _=>simp [plain] at pe
   | ref _=>simp [plain] at pe
   | aE =>
    simp only [DV] at he;subst he;cases (show w=Value.none from rw')
    simp only [aP,Bool.not_false,Bool.not_true];exact SeqAt.RcNeAt.str_none i t
   | int j =>
    simp only [DV] at he;subst he;obtain ⟨t',rfl⟩:=(show ∃ t,w=Value.int j t from rw')
    simp only [aP,Bool.not_false,Bool.not_true];exact SeqAt.RcNeAt.str_int i t j t'
   | str j =>
    simp only [DV] at he;subst he;obtain ⟨t',rfl⟩:=(show ∃ t,w=Value.str j t from rw')
    have z:aP (D.str i) (D.str j)=(i == j):=by simp only [aP];by_cases q:i=j <;> simp [q]
    rw [z];exact SeqAt.RcNeAt.str_str i t j t'
   | tup es =>
    simp only [DV] at he
    obtain ⟨b,ws,rfl,h3,h4⟩:=he
    cases (show w=Value.ref b from rw')
    obtain ⟨its,_,t1,_⟩:=I.tuple h3
    simp only [aP,Bool.not_false,Bool.not_true];exact SeqAt.RcNeAt.str_tuple i t t1 hu
   | lst es =>
    simp only [DV] at he
    obtain ⟨b,ws,rfl,h3,h4⟩:=he
    cases (show w=Value.ref b from rw')
    obtain ⟨its,_,t1,_⟩:=I.list h3
    simp only [aP,Bool.not_false,Bool.not_true];exact SeqAt.RcNeAt.str_list i t t1.isList hu
  | tup ds =>
   simp only [DV] at hd
   obtain ⟨a,vs,rfl,h1,h2⟩:=hd
   cases (show u=Value.ref a from ru)
   obtain ⟨its,r1,t1,_⟩:=I.tuple h1
   cases e with
   | bl _=>simp [plain] at pe
   | dct _ _=>simp [plain] at pe
   | ref _=>simp [plain] at pe
   | aE =>
    simp only [DV] at he;subst he;cases (show w=Value.none from rw')
    simp only [aP,Bool.not_false,Bool.not_true];exact SeqAt.RcNeAt.tuple_none  t1 hu
   | int j =>
    simp only [DV] at he;subst he;obtain ⟨t',rfl⟩:=(show ∃ t,w=Value.int j t from rw')
    simp only [aP,Bool.not_false,Bool.not_true];exact SeqAt.RcNeAt.tuple_int j t' t1 hu
   | str j =>
    simp only [DV] at he;subst he;obtain ⟨t',rfl⟩:=(show ∃ t,w=Value.str j t from rw')
    simp only [aP,Bool.not_false,Bool.not_true];exact SeqAt.RcNeAt.tuple_str j t' t1 hu
   | lst es =>
    simp only [DV] at he
    obtain ⟨b,ws,rfl,h3,h4⟩:=he
    cases (show w=Value.ref b from rw')
    obtain ⟨its2,r2,t2,_⟩:=I.list h3
    simp only [aP,Bool.not_false,Bool.not_true];exact SeqAt.RcNeAt.tuple_list t1 t2.isList hu
   | tup es =>
    simp only [DV] at he
    obtain ⟨b,ws,rfl,h3,h4⟩:=he
    cases (show w=Value.ref b from rw')
    obtain ⟨its2,r2,t2,_⟩:=I.tuple h3
    have ES:ay ds=true:=by simpa [plain] using pd
    have ER:ay es=true:=by simpa [plain] using pe
    have l1:its.length=ds.length:=by rw [<- r1.length,h2.length]
    have l2:its2.length=es.length:=by rw [<- r2.length,h4.length]
    let f:Nat->Bool:=fun j=>match ds[j]?,es[j]? with | some a,some b=>aP a b | _,_=>false
    have items:∀ j (h1:j<its.toArray.size) (h2:j<its2.toArray.size),SeqAt.EqAt A.in1 s its.toArray[j] its2.toArray[j] (f j):=by
     intro j j1 j2
     have lO:j<ds.length:=by rw [<- l1];simpa using j1
     have lN:j<es.length:=by rw [<- l2];simpa using j2
     obtain ⟨v,e1,q1⟩:=h2.get lO
     obtain ⟨v',e2,q2⟩:=h4.get lN
     obtain ⟨z,e3,q3⟩:=r1.get e1
     obtain ⟨z',e4,q4⟩:=r2.get e2
     have i1:its.toArray[j]=z:=by
      have:its[j]? = some its[j]:=List.getElem?_eq_getElem (by simpa using j1)
      rw [this] at e3;simpa using Option.some.inj e3
     have i2:its2.toArray[j]=z':=by
      have:its2[j]? = some its2[j]:=List.getElem?_eq_getElem (by simpa using j2)
      rw [this] at e4;simpa using Option.some.inj e4
     have g1:=cU lO
     have g2:=cU lN
     have hf:f j=aP ds[j] es[j]:=by simp only [f,List.getElem?_eq_getElem lO,List.getElem?_eq_getElem lN]
     rw [i1,i2,hf]
     simp only [dep] at ih hA
     exact (ih ds[j] es[j] v v' z z' (by omega) q1 q2 (bG ES lO) (bG ER lN) q3 q4 A.in1 (by rw [in1_units];omega)).2
    have uu:its.toArray.size=ds.length:=by simpa using l1
    have zb:its2.toArray.size=es.length:=by simpa using l2
    have rc:SeqAt.RcNeAt A s (.ref a) (.ref b) (!aP (.tup ds) (.tup es)):=by
     have q:=SeqAt.RcNeAt.tuples t1 t2 hu items
     rw [uu,zb,c9] at q
     simp only [aP];exact q
    exact rc
  | lst ds =>
   simp only [DV] at hd
   obtain ⟨a,vs,rfl,h1,h2⟩:=hd
   cases (show u=Value.ref a from ru)
   obtain ⟨its,r1,t1,_⟩:=I.list h1
   cases e with
   | bl _=>simp [plain] at pe
   | dct _ _=>simp [plain] at pe
   | ref _=>simp [plain] at pe
   | aE =>
    simp only [DV] at he;subst he;cases (show w=Value.none from rw')
    simp only [aP,Bool.not_false,Bool.not_true];exact SeqAt.RcNeAt.list_none  t1.isList hu
   | int j =>
    simp only [DV] at he;subst he;obtain ⟨t',rfl⟩:=(show ∃ t,w=Value.int j t from rw')
    simp only [aP,Bool.not_false,Bool.not_true];exact SeqAt.RcNeAt.list_int j t' t1.isList hu
   | str j =>
    simp only [DV] at he;subst he;obtain ⟨t',rfl⟩:=(show ∃ t,w=Value.str j t from rw')
    simp only [aP,Bool.not_false,Bool.not_true];exact SeqAt.RcNeAt.list_str j t' t1.isList hu
   | tup es =>
    simp only [DV] at he
    obtain ⟨b,ws,rfl,h3,h4⟩:=he
    cases (show w=Value.ref b from rw')
    obtain ⟨its2,r2,t2,_⟩:=I.tuple h3
    simp only [aP,Bool.not_false,Bool.not_true];exact SeqAt.RcNeAt.list_tuple t1.isList t2 hu
   | lst es =>
    simp only [DV] at he
    obtain ⟨b,ws,rfl,h3,h4⟩:=he
    cases (show w=Value.ref b from rw')
    obtain ⟨its2,r2,t2,_⟩:=I.list h3
    have ES:ay ds=true:=by simpa [plain] using pd
    have ER:ay es=true:=by simpa [plain] using pe
    have l1:its.length=ds.length:=by rw [<- r1.length,h2.length]
    have l2:its2.length=es.length:=by rw [<- r2.length,h4.length]
    let f:Nat->Bool:=fun j=>match ds[j]?,es[j]? with | some a,some b=>aP a b | _,_=>false
    have items:∀ j (h1:j<its.toArray.size) (h2:j<its2.toArray.size),SeqAt.EqAt A.in1 s its.toArray[j] its2.toArray[j] (f j):=by
     intro j j1 j2
     have lO:j<ds.length:=by rw [<- l1];simpa using j1
     have lN:j<es.length:=by rw [<- l2];simpa using j2
     obtain ⟨v,e1,q1⟩:=h2.get lO
     obtain ⟨v',e2,q2⟩:=h4.get lN
     obtain ⟨z,e3,q3⟩:=r1.get e1
     obtain ⟨z',e4,q4⟩:=r2.get e2
     have i1:its.toArray[j]=z:=by
      have:its[j]? = some its[j]:=List.getElem?_eq_getElem (by simpa using j1)
      rw [this] at e3;simpa using Option.some.inj e3
     have i2:its2.toArray[j]=z':=by
      have:its2[j]? = some its2[j]:=List.getElem?_eq_getElem (by simpa using j2)
      rw [this] at e4;simpa using Option.some.inj e4
     have g1:=cU lO
     have g2:=cU lN
     have hf:f j=aP ds[j] es[j]:=by simp only [f,List.getElem?_eq_getElem lO,List.getElem?_eq_getElem lN]
     rw [i1,i2,hf]
     simp only [dep] at ih hA
     exact (ih ds[j] es[j] v v' z z' (by omega) q1 q2 (bG ES lO) (bG ER lN) q3 q4 A.in1 (by rw [in1_units];omega)).2
    have uu:its.toArray.size=ds.length:=by simpa using l1
    have zb:its2.toArray.size=es.length:=by simpa using l2
    have rc:SeqAt.RcNeAt A s (.ref a) (.ref b) (!aP (.lst ds) (.lst es)):=by
     by_cases hz:ds.length=es.length
     ·have q:=SeqAt.RcNeAt.lists t1.isList t2.isList (by rw [uu,zb,hz]) hu items
      have z:=c9 ds es
      rw [show min ds.length es.length=ds.length by omega,show (ds.length == es.length)=true by simpa using hz,Bool.and_true] at z
      rw [uu,z] at q
      simp only [aP];exact q
     ·have q:=SeqAt.RcNeAt.lists_lengths t1.isList t2.isList (by rw [uu,zb];simpa using hz) hu
      have z:=c9 ds es
      rw [show (ds.length == es.length)=false by simpa using hz,Bool.and_false] at z
      simp only [aP,<- z,Bool.not_false];exact q
    exact rc
end
end Fg
end
section
namespace Fg
open PySem PySem.Spec L2
section
variable {X:Cx} {B:Bd} {pins:List (Addr×Obj)} {σ:L2.St} {H:Hp} {s:Shared}
noncomputable def jY (B:Bd) (X:Cx):Prop:=∀ a kvs,B.dk a kvs->∀ h:Heap,X.K.In h->kvs.length<=sizeLine/\(a == sysModules)=false/\∃ vs,KV kvs vs/\h.DictOf (aZ X.prog X.w) a vs
theorem G2 {a:Addr} {kvs:List (Key×V)} (hB:jY B X) (I:Inv X pins σ H s) (h:GZ B H a kvs):kvs.length<=sizeLine/\(a == sysModules)=false/\∃ vs,KV kvs vs/\s.heap.DictOf (aZ X.prog X.w) a vs:=by
 rcases h with h | h
 ·exact Dt I.hok h
 ·exact hB a kvs h s.heap I.kN
noncomputable def Rm (X:Cx):Prop:=X.A.units+150<cLine
theorem E4 (hu:Rm X):dW X (compareOp .Eq) (uT X.K false):=by
 intro pins s σ H x y v u Q I rx ry h
 obtain ⟨d,e,hd,he,hc,q⟩:=h
 simp only [az,Bool.and_eq_true,Bool.or_eq_true,decide_eq_true_eq] at hc
 have:=(eq_data I (dep d+dep e+1) d e x y v u (Nat.lt_succ_self _) hd he hc.1.1 hc.1.2 rx ry X.A (by unfold Rm at hu;omega)).1
 exact this X.prog X.w X.xe _ ⟨.bl (aP d e),H,I,rfl,q⟩
theorem EW (hu:Rm X):dW X (compareOp .NotEq) (uT X.K true):=by
 intro pins s σ H x y v u Q I rx ry h
 obtain ⟨d,e,hd,he,hc,q⟩:=h
 simp only [az,Bool.and_eq_true,Bool.or_eq_true,decide_eq_true_eq] at hc
 have:=ne_data I d e x y v u hd he hc.1.1 hc.1.2 rx ry X.A (by unfold Rm at hu;omega)
 exact this X.prog X.w X.xe _ ⟨.bl (!aP d e),H,I,rfl,q⟩
theorem E5:dW X (compareOp .Eq) (zH false):=by
 intro pins s σ H x y v u Q I rx ry h
 obtain ⟨a,b,rfl,rfl,q⟩:=h
 refine II pins s σ H _ _ v u Q I rx ry ⟨rfl,?_⟩
 have e:decide (V.bl a=V.bl b)=(a == b):=mh
 rw [e];exact q
theorem EY:dW X (compareOp .NotEq) (zH true):=by
 intro pins s σ H x y v u Q I rx ry h
 obtain ⟨a,b,rfl,rfl,q⟩:=h
 refine IC pins s σ H _ _ v u Q I rx ry ⟨rfl,?_⟩
 have e:decide (V.bl a=V.bl b)=(a == b):=mh
 rw [e];exact q
theorem E3 (hu:Rm X):dW X (compareOp .Eq) (uS X.K false):=by
 intro pins s σ H x y v u Q I rx ry h
 obtain ⟨l,b,xs,rfl,rfl,hH,hB,q⟩:=h
 cases rx
 cases ry
 have De:X.A.units<cLine:=by unfold Rm at hu;omega
 obtain ⟨its,r,pl,z⟩:=I.list hH
 obtain ⟨its2,r2,Ez,z2⟩:=I.list hB
 cases r2
 cases r with
 | nil=>exact SeqAt.eq_listAt (e:=fun _=>true) pl.isList Ez.isList rfl De (fun j h1=>by simp at h1) ⟨.bl true,H,I,rfl,q⟩
 | cons _ _=>exact SeqAt.eq_list_lengthsAt pl.isList Ez.isList (by simp) De ⟨.bl false,H,I,rfl,q⟩
theorem EV (hu:Rm X):dW X (compareOp .NotEq) (uS X.K true):=by
 intro pins s σ H x y v u Q I rx ry h
 obtain ⟨l,b,xs,rfl,rfl,hH,hB,q⟩:=h
 cases rx
 cases ry
 have De:X.A.units<cLine:=by unfold Rm at hu;omega
 obtain ⟨its,r,pl,z⟩:=I.list hH
 obtain ⟨its2,r2,Ez,z2⟩:=I.list hB
 cases r2
 cases r with
 | nil=>exact SeqAt.RcNeAt.lists (e:=fun _=>true) pl.isList Ez.isList rfl De (fun j h1=>by simp at h1) X.prog X.w X.xe _ ⟨.bl false,H,I,rfl,q⟩
 | cons _ _=>exact SeqAt.RcNeAt.lists_lengths pl.isList Ez.isList (by simp) De X.prog X.w X.xe _ ⟨.bl true,H,I,rfl,q⟩
theorem E2 (hB:jY B X):dW X (compareOp .In) (uU B false):=by
 intro pins s σ H x y v u Q I rx ry h
 obtain ⟨a,kvs,k,rfl,rfl,hd,q⟩:=h
 obtain rfl:u=Value.ref a:=ry
 obtain ⟨z,hm,vs,rel,dd⟩:=G2 hB I hd
 refine wpAny_in_of (nK rx) hm dd.mapOf ?_
 rw [<- (rel.val k).ic]
 exact ⟨.bl (cP kvs k).isSome,H,I.tok _,rfl,q⟩
theorem sF (hB:jY B X):dW X (compareOp .NotIn) (uU B true):=by
 intro pins s σ H x y v u Q I rx ry h
 obtain ⟨a,kvs,k,rfl,rfl,hd,q⟩:=h
 obtain rfl:u=Value.ref a:=ry
 obtain ⟨z,hm,vs,rel,dd⟩:=G2 hB I hd
 refine wpAny_notIn_of (nK rx) hm dd.mapOf ?_
 rw [<- (rel.val k).ic]
 exact ⟨.bl (!(cP kvs k).isSome),H,I.tok _,rfl,q⟩
noncomputable def xm:yZ->CmpOp
 | .eq=>.Eq | .ne=>.NotEq | .lt=>.Lt | .le=>.LtE | .gt=>.Gt | .ge=>.GtE | .isin=>.In | .nq=>.NotIn | .Jg=>.Is | .vg=>.IsNot
theorem ve (hK:B.K=X.K) (hu:Rm X) (hB:jY B X):∀ o:yZ,dW X (compareOp (xm o)) (oX B o)
 | .lt=>ID
 | .le=>IE
 | .gt=>IF
 | .ge=>IG
 | .eq=>by rw [oX,hK];exact E5.or ((E4 hu).or (E3 hu))
 | .ne=>by rw [oX,hK];exact EY.or ((EW hu).or (EV hu))
 | .Jg=>E1
 | .vg=>zZ
 | .isin=>by rw [oX,hK];exact (E2 hB).or sG
 | .nq=>by rw [oX,hK];exact (sF hB).or lE
theorem Ae:dW X (binaryOp .Add) (Cy X.K):=by
 intro pins s σ H x y v u Q I rx ry h
 obtain ⟨l,b,xs,zs,rfl,rfl,hH,hB,hz,q⟩:=h
 cases rx
 cases ry
 obtain ⟨its,r,pl,z⟩:=I.list hH
 obtain ⟨its2,r2,Ez,z2⟩:=I.list hB
 obtain ⟨⟨cls,dd,data,sl⟩,ho,hc,n,hd⟩:=id pl.isList
 obtain ⟨⟨JS,dd2,data2,sl2⟩,ho2,hc2,n2,hd2⟩:=id Ez.isList
 simp only at hc hd hc2 hd2
 subst hc hd hc2 hd2
 have l1:=r.length
 have l2:=r2.length
 have ea:its.toArray++its2.toArray=(its++its2).toArray:=by simp
 refine PySem.concat_meets ⟨_,ho,rfl⟩ ⟨_,ho2,rfl⟩ PySem.noFill_list_add PySem.seq_list_add PySem.F.slot_list_add PySem.F.entry_list_add (PySem.F.args_list_add_2 _ _) (PyProof.Rows.list_addW l b its.toArray its2.toArray n n2 dd dd2 sl sl2 (by simp only [List.size_toArray];omega)) ⟨ho,ho2,?_⟩
 rw [ea]
 exact ⟨.ref _,_,I.IY (t':=s.toks) (r.append r2) (by rw [List.length_append];omega),rfl,q _ I.fresh⟩
theorem Ab:dW X (binaryOp .Mult) (Cu X.K):=by
 intro pins s σ H x y v u Q I rx ry h
 obtain ⟨l,xs,k,rfl,rfl,hH,hz,hk,q⟩:=h
 cases rx
 obtain ⟨t,rfl⟩:=(show ∃ t,u=Value.int k t from ry)
 obtain ⟨its,r,pl,z⟩:=I.list hH
 obtain ⟨⟨cls,dd,data,sl⟩,ho,hc,n,hd⟩:=id pl.isList
 simp only at hc hd
 subst hc hd
 have l1:=r.length
 rw [l1] at hz
 refine wpAny_binaryOp_repeat_ref (T:="list") (U:="int") (by decide) ⟨_, ho, rfl⟩ (fun s'=>typeIs_int s' k t) noFill_list_mul PySem.F.fills_int_mul PySem.F.slot_int_rmul repeat_list PySem.F.slot_int_index.lookup
  (call_meets PySem.F.slot_int_rmul (typeIs_int s k t) PySem.F.entry_int_rmul (PySem.F.args_int_rmul_2 _ _) (PySem.lm_int_rmul_list_any k t l its.toArray n dd sl)
   ⟨ho,rfl,⟨_,ho,rfl⟩,call_meets PySem.F.slot_list_mul ⟨_,ho,rfl⟩ PySem.F.entry_list_mul (PySem.F.args_list_mul_2 _ _)
    (PySem.lm_list_mul_any l its.toArray n dd sl k t (by simp [Builtin.List.listFitsIndex];omega) (by rw [List.size_toArray];rw [sizeLine_eq] at hz;omega) (by rw [sizeLine_eq] at hz;simp [Builtin.List.listTooLong,sizeLine];omega))
    ⟨ho,?_⟩⟩)
 rw [PyProof.Rows.listMul_foldl_if]
 have rr:Vals (List.replicate k.toNat xs).flatten (List.replicate k.toNat its).flatten:=by
  generalize k.toNat=m
  induction m with
  | zero=>exact .nil
  | succ m ih=>rw [List.replicate_succ,List.replicate_succ,List.flatten_cons,List.flatten_cons];exact r.append ih
 exact ⟨.ref _,_,I.IY (t':=s.toks) rr (by rw [List.length_flatten];simp [List.sum_replicate_nat];rw [l1,Nat.mul_comm];exact hz),rfl,q _ I.fresh⟩
theorem nG {i:Int} (h:i.natAbs<10 ^ 200):Builtin.Int.intBits i<=2 ^ 20:=by
 unfold Builtin.Int.intBits
 split
 ·exact Nat.zero_le _
 ·have z:i.natAbs.log2<1000:=by
   by_cases h0:i.natAbs=0
   ·rw [h0];decide
   ·exact (Nat.log2_lt h0).mpr (Nat.lt_of_lt_of_le h (by decide +kernel))
  exact Nat.le_trans (Nat.succ_le_of_lt z) (by decide)
theorem Aa:dW X (binaryOp .Mult) (rI J9 fun i j=>.int (i*j)):=IK fun _ _ _ _ _ _ _ hc q=>PyProof.Rows.mul_int q (.of_bits (nG hc.1) (nG hc.2))
noncomputable def binOp:B4->Operator
 | .add=>.Add | .sub=>.Sub | .mul=>.Mult | .fdiv=>.FloorDiv | .mod=>.Mod | .pow=>.Pow
theorem E6 (hK:B.K=X.K):∀ o:B4,dW X (binaryOp (binOp o)) (Ii B.K o)
 | .add=>by rw [Ii,hK];exact E7.or (o5.or (Ae.or Ad))
 | .sub=>ET
 | .mul=>by rw [Ii,hK];exact EZ.or (Aa.or Ab)
 | .fdiv=>Ac
 | .mod=>E0
 | .pow=>EU
theorem Gr (hB:jY B X):yY X (Im B):=by
 intro value slice pins s σ H x y v u Q I rx ry h hs
 obtain ⟨a,kvs,k,w,rfl,rfl,hd,hv,q⟩:=h
 obtain rfl:v=Value.ref a:=rx
 obtain ⟨z,hm,vs,rel,dd⟩:=G2 hB I hd
 obtain ⟨w',hw,rw'⟩:=mH.some_of (v:=w) (o:=valueAt vs k) (by rw [<- hv];exact rel.val k)
 exact PyProof.Rows.tail_any dd.typeIs PySem.F.slot_dict_getitem.lookup (wpAny_getItem_of (nK ry) dd.mapOf hw ⟨w,H,I.tok _,rw',q⟩) hs
theorem Gs (hK:B.K=X.K) (hB:jY B X):yY X (zG B):=by
 unfold zG;rw [hK];exact Bw.or (Gp.or (Gq.or (Gr hB)))
theorem tw (hK:B.K=X.K) (hB:jY B X):dc X (.builtin "len") (El B):=by
 unfold El;rw [hK]
 refine mz.or (mC.or ?_)
 intro pins s σ H xs us Q I r h
 obtain ⟨a,kvs,rfl,ha,q⟩:=h
 obtain ⟨u,rfl,ru⟩:=vals1 r
 cases ru
 obtain ⟨z,hd,vs,rel,dd⟩:=G2 hB I ha
 refine call_len_dict hd dd (by rw [<- rel.length];rw [sizeLine_eq] at z;omega) ?_
 rw [<- rel.length]
 exact ⟨.int kvs.length,H,I.tok _,⟨_,rfl⟩,q⟩
theorem dJ:∀ {ns:List Int} {us:List Value},Vals (ns.map V.int) us->(∀ v∈us,∃ a t,v=Value.int a t)/\numsOf us=ns
 | [],us,h=>by cases h;exact ⟨fun v hv=>by simp at hv,rfl⟩
 | n::ns,us,h=>by
  cases h with
  | cons r t =>
   obtain ⟨tk,rfl⟩:=(show ∃ t,_=Value.int n t from r)
   obtain ⟨i1,i2⟩:=dJ t
   refine ⟨fun v hv=>?_,by simp only [numsOf,i2]⟩
   rcases List.mem_cons.mp hv with rfl | hv
   ·exact ⟨_,_,rfl⟩
   ·exact i1 v hv
theorem tu (hK:B.K=X.K) (hc:X.calm=true):dc X (.builtin "sum") (Ic B):=by
 intro pins s σ H xs us Q I r h
 obtain ⟨p,ns,rfl,hl,q⟩:=h
 obtain ⟨u,rfl,ru⟩:=vals1 r
 cases ru
 rw [hK] at hl
 obtain ⟨its,r',pl,hz⟩:=I.list hl
 obtain ⟨i1,i2⟩:=dJ r'
 obtain ⟨xs,hx⟩:=AllInts.items (vs:=its.toArray) (fun v hv=>i1 v (by simpa using hv))
 have hsum:preSum (numAt xs) xs.size=ns.sum:=by
  rw [preSum_eq,List.take_of_length_le (by simp),<- nums_intItems,<- hx,<- i2]
 refine sum_intListG (I.ok.hd hc) (by rw [<- hx];exact pl.isList) fun h' tk t' kp=>?_
 rw [hsum]
 exact ⟨.int ns.sum,H,I.kept (t':=tk) kp,⟨_,rfl⟩,q⟩
theorem sZ (hK:B.K=X.K):dc X (.type "tuple") (oV B):=by unfold oV;rw [hK];exact j8
theorem tD (hB:jY B X):dc X (.type "dict") (uV B):=by
 intro pins s σ H xs us Q I r h
 obtain ⟨p,kvs,rfl,ha,q⟩:=h
 obtain ⟨u,rfl,ru⟩:=vals1 r
 cases ru
 obtain ⟨z,hd,vs,rel,dd⟩:=G2 hB I ha
 refine kt_call_dict hd dd (by rw [<- rel.length];exact z) fun h' BO hs=>?_
 refine ⟨.ref s.heap.objs.size,_,I.laid (a:=s.heap.objs.size) (o:=.dK kvs) (t':=s.toks) (fun b q hq=>?_) (Nat.le_refl _) (w6 z (beq_eq_false_iff_ne.mpr (Ne.symm (Nat.ne_of_lt I.big))) rel BO),rfl,q _ (I.hok.fresh (Nat.le_refl _))⟩
 exact (hs.2 b (Nat.ne_of_lt (Heap.lt_size hq))).trans (Heap.get?_push_of_some _ hq)
inductive B0 (B:Bd) (H:Hp):V->String->Prop where
 | aE:B0 B H .aE "NoneType"
 | bl (b:Bool):B0 B H (.bl b) "bool"
 | int (i:Int):B0 B H (.int i) "int"
 | str (x:Str):B0 B H (.str x) "str"
 | lst {a:Addr} {xs:List V}:fU B.K H a xs->B0 B H (.ref a) "list"
 | tup {a:Addr} {xs:List V}:iH B.K H a xs->B0 B H (.ref a) "tuple"
 | dct {a:Addr} {kvs:List (Key×V)}:GZ B H a kvs->B0 B H (.ref a) "dict"
noncomputable def mQ:Ty->String
 | .int=>"int" | .str=>"str" | .bool=>"bool" | .list=>"list" | .tuple=>"tuple" | .dict=>"dict"
noncomputable def tyB (T:String) (t:Ty):Bool:=T == mQ t||(T == "bool"&&match t with | .int=>true | _=>false)
noncomputable def Io (B:Bd):List V->Hp->VK->Prop:=fun xs H Q=>∃ x T t,xs=[x,.ty (mQ t)]/\B0 B H x T/\Q (.bl (tyB T t)) H
theorem Bk (K:W.Frag):∀ t:Ty, W.kitOne K (.type "NoneType") (.type (mQ t))=some (tyB "NoneType" t)/\W.kitOne K (.type "bool") (.type (mQ t))=some (tyB "bool" t)/\W.kitOne K (.type "int") (.type (mQ t))=some (tyB "int" t)/\W.kitOne K (.type "str") (.type (mQ t))=some (tyB "str" t) /\
  W.kitOne K (.type "list") (.type (mQ t))=some (tyB "list" t)/\W.kitOne K (.type "tuple") (.type (mQ t))=some (tyB "tuple" t)/\W.kitOne K (.type "dict") (.type (mQ t))=some (tyB "dict" t):=by
 intro t
 cases t <;> (refine ⟨?_,?_,?_,?_,?_,?_,?_⟩ <;> kernel_rfl)
theorem xq (hK:B.K=X.K) (hB:jY B X):dc X (.builtin "isinstance") (Io B):=by
 intro pins s σ H xs us Q I r h
 obtain ⟨x,T,t,rfl,ty,q⟩:=h
 cases r with
 | cons rx r =>
  cases r with
  | cons rt r =>
   cases r
   obtain rfl:=(show _=Value.type (mQ t) from rt)
   have fin:∀ tk,EP X pins σ Q (.bool (tyB T t)) { s with toks:=tk }:=fun tk=>⟨.bl (tyB T t),H,I.tok _,rfl,q⟩
   obtain ⟨k1,k2,k3,k4,k5,k6,k7⟩:=Bk X.K t
   cases ty with
   | aE=>cases (show _=Value.none from rx);exact W.kia_one W.kitx_none I.kN True.intro k1 (fun z=>nomatch z) fin
   | bl b=>cases (show _=Value.bool b from rx);exact W.kia_one W.kitx_bool I.kN True.intro k2 (fun z=>nomatch z) fin
   | int i=>obtain ⟨tk,q⟩:=(show ∃ t,_=Value.int i t from rx);cases q;exact W.kia_one W.kitx_int I.kN True.intro k3 (fun z=>nomatch z) fin
   | str y=>obtain ⟨tk,q⟩:=(show ∃ t,_=Value.str y t from rx);cases q;exact W.kia_one W.kitx_str I.kN True.intro k4 (fun z=>nomatch z) fin
   | lst hl =>
    cases rx
    rw [hK] at hl
    obtain ⟨its,_,pl,_⟩:=I.list hl
    obtain ⟨o,ho,hc,_⟩:=pl.isList
    exact W.kia_one W.kitx_list I.kN ⟨o,ho,hc⟩ k5 (fun z=>nomatch z) fin
   | tup hl =>
    cases rx
    rw [hK] at hl
    obtain ⟨its,_,pl,_⟩:=I.tuple hl
    obtain ⟨o,ho,hc,_⟩:=pl
    exact W.kia_one W.kitx_tuple I.kN ⟨o,ho,hc⟩ k6 (fun z=>nomatch z) fin
   | dct hd =>
    cases rx
    obtain ⟨z,hm,vs,rel,dd⟩:=G2 hB I hd
    obtain ⟨o,ho,hc⟩:=dd.typeIs
    exact W.kia_one W.kitx_dict I.kN ⟨o,ho,hc⟩ k7 (fun z=>nomatch z) fin
end
end Fg
end
section
namespace Fg
open PySem PySem.Spec L2
theorem jz {α:Type} (xs:List α) (a:Nat):∀ c:Nat,((List.range c).map fun k=>a+k).filterMap (fun i=>xs[i]?)=(xs.drop a).take c
 | 0=>by simp
 | c+1=>by
  rw [List.range_succ,List.map_append,List.filterMap_append,jz xs a c,List.take_add_one]
  simp [List.getElem?_drop]
  cases h:xs[a+c]? <;> simp [h]
theorem n9 (n d:Nat) (hd:d<=n) (o:Option Int):(match o with
  | none=>((d:Nat):Int)
  | some i=>max 0 (min (if i<0 then i+(n:Int) else i) (n:Int)))=((six n d o:Nat):Int):=by
 cases o with
 | none=>rfl
 | some i=>simp only [six];split <;> omega
theorem DY (n d:Nat) (hd:d<=n) (o:Option Int):six n d o<=n:=by
 cases o with
 | none=>exact hd
 | some i=>simp only [six];split <;> omega
theorem Ed (a b:Nat):sliceRange (a:Int) (b:Int) 1=(List.range (b-a)).map fun k=>a+k:=by
 unfold sliceRange
 simp only [show (1:Int) > 0 by decide,if_true]
 have ec:(if (a:Int)<(b:Int) then ((b:Int)-(a:Int)+1-1) / 1 else 0).toNat=b-a:=by
  split <;> omega
 rw [ec]
 apply List.map_congr_left
 intro k _
 omega
theorem wJ (l u:Option Int) (n:Nat):Builtin.Str.strSliceIndices l u 1 n=(List.range (six n n u-six n 0 l)).map fun k=>six n 0 l+k:=by
 rw [<- Ed,<- n9 n 0 (Nat.zero_le _) l,<- n9 n n (Nat.le_refl _) u]
 unfold Builtin.Str.strSliceIndices
 cases l <;> cases u <;> rfl
theorem oQ (x:Str) (l u:Option Int):Txt.slice x l u=cuts x l u:=by
 have hn:x.cps.toList.length=x.length:=by simp [Str.length]
 have key:(Builtin.Str.strSliceIndices l u 1 x.length).filterMap (x.cps[·]?)=c8 x.cps.toList l u:=by
  rw [wJ]
  have:=jz x.cps.toList (six x.length 0 l) (six x.length x.length u-six x.length 0 l)
  unfold c8
  rw [hn,<- this]
  congr 1
  funext i
  simp
 unfold Txt.slice
 split
 ·rename_i hc
  simp only [Bool.and_eq_true,beq_iff_eq] at hc
  have hc2:=hc.2
  rw [wJ] at hc2
  simp only [List.length_map,List.length_range] at hc2
  have b1:=DY x.length x.length (Nat.le_refl _) u
  unfold cuts c8
  rw [hn]
  by_cases h0:x.length=0
  ·obtain ⟨⟨l⟩⟩:=x
   simp [Str.length] at h0
   subst h0
   simp
  ·have a0:six x.length 0 l=0:=by omega
   rw [a0,List.drop_zero,List.take_of_length_le (by rw [hn];omega)]
 ·show Str.mk _=Str.mk _
  rw [key]
section
variable {X:Cx} {B:Bd}
theorem DW:B3 X Ig:=by
 intro pins s σ H x v vl vu lo hi sl Q I rx hs pl pu h
 obtain ⟨z,rfl,hz,q⟩:=h
 obtain ⟨t,rfl⟩:=(show ∃ t,v=Value.str z t from rx)
 refine ⟨"str", _, PySem.F.slot_str_getitem.lookup, typeIs_str _ _ _, ?_⟩
 have fin:∀ (l u:Option Int) (t':Tok) (k:Nat),l=lo->u=hi->EP X pins σ Q (.str (Txt.slice z l u) t') { s with toks:=k }:=by
  intro l u t' k e3 e4
  exact ⟨.str (cuts z lo hi),H,I.tok _,⟨t',by rw [oQ,e3,e4]⟩,q⟩
 obtain ⟨o,ho,hc,hd⟩:=hs
 cases pl with
 | none =>
  cases pu with
  | none=>exact wpAny_getItem_str_slice (l:=none) (u:=none) (st:=none) ⟨o,ho,hc,hd⟩ rfl (post_val_or_str ⟨Nat.le_trans (Txt.slice_le z none none) hz,fun t' k=>fin none none t' k rfl rfl⟩)
  | int j tj=>exact wpAny_getItem_str_slice (l:=none) (u:=some (j,tj)) (st:=none) ⟨o,ho,hc,hd⟩ rfl (post_val_or_str ⟨Nat.le_trans (Txt.slice_le z none (some j)) hz,fun t' k=>fin none (some j) t' k rfl rfl⟩)
 | int i ti =>
  cases pu with
  | none=>exact wpAny_getItem_str_slice (l:=some (i,ti)) (u:=none) (st:=none) ⟨o,ho,hc,hd⟩ rfl (post_val_or_str ⟨Nat.le_trans (Txt.slice_le z (some i) none) hz,fun t' k=>fin (some i) none t' k rfl rfl⟩)
  | int j tj=>exact wpAny_getItem_str_slice (l:=some (i,ti)) (u:=some (j,tj)) (st:=none) ⟨o,ho,hc,hd⟩ rfl (post_val_or_str ⟨Nat.le_trans (Txt.slice_le z (some i) (some j)) hz,fun t' k=>fin (some i) (some j) t' k rfl rfl⟩)
theorem DX (hK:B.K=X.K):B3 X (zF B):=by
 unfold zF;rw [hK];exact i6.or (DU.or DW)
end
end Fg
end
section
namespace Fg
open PySem PySem.Spec L2
theorem dQ {α β:Type} (g:β->α->β):∀ {l:List α} {f:α->β->Sem (ForInStep β)} (_:∀ x∈l,∀ c,f x c=pure (.yield (g c x))) (c:β),forIn l c f=pure (l.foldl g c)
 | [],f,_,c=>rfl
 | x::l,f,h,c=>by
  rw [List.forIn_cons,h x List.mem_cons_self,pure_bind]
  exact dQ g (fun y hy=>h y (List.mem_cons_of_mem _ hy)) _
noncomputable def aV (env:Env) (cs:List (Str×Addr)) (x:Str×NameKind):List (Str×Addr):=if x.2 == .free then (x.1,(env.cells.lookup x.1).getD 0)::cs else cs
theorem pR {scope:Scope} {env:Env} (h:∀ x,(x,NameKind.free)∈scope.names->∃ c,env.cells.lookup x=some c):closureFor scope env=pure (scope.names.foldl (aV env) []):=by
 unfold closureFor
 dsimp only
 rw [dQ (aV env) (fun x hx c=>?_)]
 ·rfl
 obtain ⟨n,k⟩:=x
 by_cases hk:k=.free
 ·subst hk
  obtain ⟨a,ha⟩:=h n hx
  simp only [aV,cellOf,ha,beq_self_eq_true,if_true,Option.getD_some]
  rfl
 ·have hb:(k == NameKind.free)=false:=by simpa using hk
  simp only [aV,hb,Bool.false_eq_true,if_false]
theorem mw {env:Env}:∀ (names:List (Str×NameKind)) (cs:List (Str×Addr)) (p:Str×Addr),(∀ x,(x,NameKind.free)∈names->∃ c,env.cells.lookup x=some c)->p∈names.foldl (aV env) cs->p∈cs\/env.cells.lookup p.1=some p.2
 | [],cs,p,_,h=>.inl h
 | (n, k)::r, cs, p, hc, h=>by
  rw [List.foldl_cons] at h
  rcases mw r _ p (fun x hx=>hc x (List.mem_cons_of_mem _ hx)) h with q | q
  ·unfold aV at q
   split at q
   ·rename_i hk
    have hk':k=.free:=by simpa using hk
    subst hk'
    rcases List.mem_cons.mp q with q | q
    ·obtain ⟨a,ha⟩:=hc n List.mem_cons_self
     right
     rw [q]
     show env.cells.lookup n=some ((env.cells.lookup n).getD 0)
     rw [ha];rfl
    ·exact .inl q
   ·exact .inl q
  ·exact .inr q
theorem rO {env:Env}:∀ (names:List (Str×NameKind)) (cs:List (Str×Addr)) (x:Str),(∃ c,(x,c)∈cs)->∃ c,(x,c)∈names.foldl (aV env) cs
 | [],cs,x,h=>h
 | (n,k)::r,cs,x,⟨c,h⟩=>by
  rw [List.foldl_cons]
  refine rO r _ x ⟨c,?_⟩
  unfold aV
  split
  ·exact List.mem_cons_of_mem _ h
  ·exact h
theorem pS {env:Env}:∀ (names:List (Str×NameKind)) (cs:List (Str×Addr)) (x:Str),(x,NameKind.free)∈names->∃ c,(x,c)∈names.foldl (aV env) cs
 | (n, k)::r, cs, x, h=>by
  rw [List.foldl_cons]
  rcases List.mem_cons.mp h with h | h
  ·cases h
   refine rO r _ n ⟨(env.cells.lookup n).getD 0,?_⟩
   unfold aV
   rw [if_pos (by rfl)]
   exact List.mem_cons_self
  ·exact pS r _ x h
theorem dG {β:Type}:∀ {l:List (Str×β)} {x:Str} {c:β},(x,c)∈l->∃ d,l.lookup x=some d
 | (n, k)::r, x, c, h=>by
  rw [List.lookup_cons]
  cases e:x == n with
  | true=>exact ⟨k,rfl⟩
  | false =>
   rcases List.mem_cons.mp h with h | h
   ·cases h;simp at e
   ·exact dG h
theorem c5 {env:Env}:∀ {names:List (Str×NameKind)} {x:Str},(names.map fun (n,k)=>if (k == NameKind.free&&env.scope.kind == .function&&env.kindOf n == some .cell) then (n,NameKind.cell) else (n,k)).lookup x =
  (names.lookup x).map fun k=>if (k == NameKind.free&&env.scope.kind == .function&&env.kindOf x == some .cell) then NameKind.cell else k
 | [],x=>rfl
 | (n, k)::r, x=>by
  have ih:=@c5 env r x
  show List.lookup x ((if (k == NameKind.free&&env.scope.kind == .function&&env.kindOf n == some .cell)=true then (n,NameKind.cell) else (n,k))::_)=_
  cases hx:x == n with
  | true =>
   have e:x=n:=by simpa using hx
   subst e
   by_cases hc:(k == NameKind.free&&env.scope.kind == .function&&env.kindOf x == some .cell)=true
   ·rw [if_pos hc];simp only [List.lookup_cons,hx,Option.map_some,if_pos hc]
   ·rw [if_neg hc]
    simp only [List.lookup_cons,hx,Option.map_some,if_neg hc]
  | false =>
   by_cases hc:(k == NameKind.free&&env.scope.kind == .function&&env.kindOf n == some .cell)=true
   ·rw [if_pos hc];simp only [List.lookup_cons,hx];exact ih
   ·rw [if_neg hc];simp only [List.lookup_cons,hx];exact ih
noncomputable def Dv (X:Cx) (scope:Scope) (cl:List (Str×Addr)) (N:List Str) (fp:List Addr) (s:Shared) (H:Hp) (C:Addr):Cx :=
 { X with N:=N,s₀:=s,H₀:=H,env:=compEnvC scope cl C X.env,outer:=X.stack,stack:=X.stack,ex:=fp,fn:=fun _=>false,pn:=[],xe:=fun _ _=>False }
noncomputable abbrev dU (X:Cx) (scope:Scope) (cl:List (Str×Addr)) (N:List Str) (fp:List Addr) (s:Shared) (H:Hp) (C:Addr) (E:XK):Cx:=(Dv X scope cl N fp s H C).bZ (j9 (Dv X scope cl N fp s H C) fun cv x _ H'=>E cv x H')
noncomputable def Ho (X:Cx) (ifs:List Expr) (t:TT):Prop :=
 ∀ (pins:List (Addr×Obj)) (s:Shared) (σ:St) (H:Hp) (Q:Bool->Hp->Prop),Inv X pins σ H s->t σ H Q ->
  wpAny (model X.prog X.w) X.A (forIn ifs true fun c r=>if r=true then do let ok <- isTrue c X.env (eval c X.env);pure (ForInStep.yield ok) else pure (ForInStep.yield r)) (L2.TP X pins σ Q) X.xe s
theorem zJ {X:Cx}:Ho X [] (fun _ H Q=>Q true H):=fun pins s σ H Q I h=>wpAny_tests_nil ⟨H,I,h⟩
theorem zI {X:Cx} {c:Expr} {t:TT} (h:PT X c t):Ho X [c] t:=fun pins s σ H Q I q=>wpAny_tests_one (h pins s σ H Q I q)
noncomputable def oj (cp:List Nat) (n:Nat) (σ:St):St:=cp.map (fun i=>(σ[i]?).join)++List.replicate n none
noncomputable def qf (wi:TI) (g:TG) (tc:St->TT) (te:St->TE) (cp:List Nat) (n:Nat):TE:=fun σ H Q=>wi σ H fun J H1=>∀ D,H1 D=none->∃ W:Nat->Nat->St->Hp->Prop,(∃ m,W 0 m (oj cp n σ) (upd H1 D (.lst [])))/\∀ i m σ' H',W i m σ' H' ->
 (J.stop i H'/\Q (.ref D) H')\/(J.go i H'/\∀ x H2,J.Kc i H' x H2->g x σ' H2 fun σ2 H3=>tc σ σ2 H3 fun b H4 =>
  if b=true then te σ σ2 H4 fun v H5=>∃ ys,H5 D=some (.lst ys)/\ys.length<sizeLine/\∃ m',m'<m/\W (i+1) m' σ2 (upd H5 D (.lst (ys++[v]))) else ∃ m',m'<m/\W (i+1) m' σ2 H4)
theorem fQ {prog:Program} {w:World} {A:Around} {R:Result->Shared->Prop} {s:Shared} {elt target iter:Expr} {ifs:List Expr} {scope:Scope} {pos:Pos} {it acc:Value} {env:Env} (I:Nat->Shared->Prop) (EX:Value->Shared->Prop) (hE:∀ e s,EX e s->notedBy (model prog w) A env (fun x s'=>R (.error x) s') e s)
  (turn:∀ n s,I n s->wpAny (model prog w) A (pyNext it) (fun r s₁=>match r with
   | none=>R (.ok .next) s₁
   | some v=>wpAny (model prog w) A (letOwnedTupleGo target it v) (fun _ s₁'=>wpAny (model prog w) A (assign target env v) (fun _ s₂ =>
     wpAny (model prog w) A (forIn ifs true fun c r=>if r=true then do let ok <- isTrue c env (eval c env);pure (ForInStep.yield ok) else pure (ForInStep.yield r)) (fun ok s₃ =>
      if ok=true then wpAny (model prog w) A (eval elt env) (fun x s₄ =>
       wpAny (model prog w) A (call (.builtin "list.append") [acc, x]) (fun _ s₅=>∃ m, m<n/\I m s₅) EX s₄) EX s₃
      else ∃ m,m<n/\I m s₃) EX s₂) EX s₁') EX s₁) EX s)
  (n:Nat) (h:I n s):codeAny (model prog w) A (.compLoop (.ListComp elt [⟨target,iter,ifs,0⟩] scope pos) 0 it acc env) R s:=by
 refine codeAny_loop rfl I (fun n s hI=>?_) n h
 show wpAny _ A ((compTurn (.ListComp elt [⟨target,iter,ifs,0⟩] scope pos) 0 it acc env).onRaise (fun x=>do noteFrame x env;theTreesLotGoes x)) _ _ s
 refine wpAny_noted ?_
 rw [compTurn_list]
 refine wpAny_bind (wpAny_standAt (wpAny_bind (wpAny_mono (turn n s hI) (fun r s₁ h₁=>?_) hE)))
 cases r with
 | none=>exact wpAny_pure h₁
 | some v =>
  refine wpAny_bind (wpAny_mono h₁ (fun _ s₁' h₁'=>?_) hE)
  refine wpAny_bind (wpAny_mono h₁' (fun _ s₂ h₂=>wpAny_bind (wpAny_mono h₂ (fun ok s₃ h₃=>?_) hE)) hE)
  cases ok with
  | false=>exact wpAny_pure ⟨rfl,h₃⟩
  | true =>
   exact wpAny_bind (wpAny_bind (wpAny_mono h₃ (fun x s₄ h₄=>wpAny_bind (wpAny_mono h₄ (fun _ s₅ h₅=>wpAny_pure (wpAny_pure ⟨rfl,h₅⟩)) hE)) hE))
section
variable {X:Cx} {pins:List (Addr×Obj)} {σ:St} {H:Hp} {s:Shared}
structure gp (X:Cx) (scope:Scope) (N:List Str) (cp:List Nat) (n:Nat):Prop where
 free:∀ x,(x,NameKind.free)∈scope.names->X.env.kindOf x=some .cell\/X.env.kindOf x=some .free
 cell:∀ y∈scope.names,y.2≠.cell
 kind:scope.kind=.function
 names:∀ y∈scope.names,y.2=.local->scope.names.lookup y.1=some .local
 len:N.length=cp.length+n
 cap:∀ (i j:Nat) (x:Str),N[i]? = some x->cp[i]? = some j->X.N[j]? = some x/\scope.names.lookup x=some .free
theorem GS {scope:Scope} {N:List Str} {cp:List Nat} {n:Nat} {fp:List Addr} {C:Addr} (S:gp X scope N cp n) (I:Inv X pins σ H s) (hf:∀ b∈fp,iI X pins H b) (hC:s.heap.objs.size<C) (Gv:∀ b∈fp,b<s.heap.objs.size) :
  (Dv X scope (scope.names.foldl (aV X.env) []) N fp s H C).Ok:=by
 have hex:∀ x,(x,NameKind.free)∈scope.names->∃ c,X.env.cells.lookup x=some c:=fun x hx=>I.ok.has x (S.free x hx)
 have hcl:∀ x c,(scope.names.foldl (aV X.env) []).lookup x=some c->X.env.cells.lookup x=some c:=fun x c e=>by
  rcases mw scope.names [] (x,c) hex (PySem.mem_of_lookup e) with q | q
  ·cases q
  ·exact q
 refine ⟨I.ok.mod,S.kind,I.ok.glob,I.ok.blt,Nat.le_of_lt hC,fun x y c h1 h2=>I.ok.inj x y c (hcl x c h1) (hcl y c h2),fun x hx=>?_,fun x c h _=>(Bool.false_ne_true h).elim,I.ok.hd,I.ok.frames,.inl rfl,fun b hb=>⟨Nat.ne_of_lt (Nat.lt_trans (Gv b hb) hC),fun x c e=>(hf b hb).2.2.2.2.1 x c (hcl x c e)⟩,
  fun b o e=>I.bs b o e,Nat.le_trans I.ok.tS I.sz,fun b o e hb=>?_,fun b hb hs=>?_,I.stack,I.fK⟩
 ·have q:(x,NameKind.free)∈scope.names:=by
   have hx:(relabel scope X.env).names.lookup x=some .cell\/(relabel scope X.env).names.lookup x=some .free:=hx
   unfold relabel at hx
   dsimp only at hx
   rw [c5] at hx
   cases e:scope.names.lookup x with
   | none=>rw [e] at hx;simp at hx
   | some k =>
    rw [e] at hx
    have hm:=PySem.mem_of_lookup e
    cases k with
    | free=>exact hm
    | cell=>exact (S.cell _ hm rfl).elim
    | «local»=>simp at hx
    | globalImplicit=>simp at hx
    | globalExplicit=>simp at hx
  obtain ⟨c,hc⟩:=pS (env:=X.env) scope.names [] x q
  exact dG hc
 ·rcases (hf b hb).2.2.2.1 with z | z
  ·exact I.ok.nu b o e z
  ·exact absurd (Nat.lt_of_lt_of_le (Heap.lt_size e) (Nat.le_trans I.ok.tS z)) (Nat.lt_irrefl _)
 ·rcases List.mem_cons.mp (I.dZ b hs) with z | z
  ·exact (hf b hb).2.1 z
  ·exact (hf b hb).2.2.1 z
theorem tG {scope:Scope} {N:List Str} {cp:List Nat} {n:Nat} {fp:List Addr} {C D:Addr} {h1:Heap} {t1:Nat} (S:gp X scope N cp n) (I:Inv X pins σ H s) (hf:∀ b∈fp,iI X pins H b) (Gv:∀ b∈fp,b<s.heap.objs.size)
  (hD:D=s.heap.objs.size) (hC:C=s.heap.objs.size+1) {m:Str->Option Value} (hns:h1.Ns C m) (old:∀ b o, s.heap.get? b=some o->h1.get? b=some o) (hacc:h1.get? D=some { cls:=.type "list", data:=.seq ([]:List Value).toArray 0 }) :
  Inv (Dv X scope (scope.names.foldl (aV X.env) []) N fp s H C) [] (oj cp n σ) (upd H D (.lst [])) { s with heap:=h1,toks:=t1 }:=by
 have hex:∀ x,(x,NameKind.free)∈scope.names->∃ c,X.env.cells.lookup x=some c:=fun x hx=>I.ok.has x (S.free x hx)
 have hcl:∀ x c,(scope.names.foldl (aV X.env) []).lookup x=some c->X.env.cells.lookup x=some c:=fun x c e=>by
  rcases mw scope.names [] (x,c) hex (PySem.mem_of_lookup e) with q | q
  ·cases q
  ·exact q
 have fD:H D=none:=I.hok.fresh (by rw [hD];exact Nat.le_refl _)
 have fC:H C=none:=I.hok.fresh (by rw [hC];exact Nat.le_succ _)
 have cellK:∀ x c v,X.env.cells.lookup x=some c->s.heap.IsCell c v->h1.IsCell c v:=fun x c v e ⟨o,ho,hd⟩=>⟨o,old c o ho,hd⟩
 refine ⟨GS S I hf (by rw [hC];exact Nat.lt_succ_self _) Gv,rfl,I.bare,?_,⟨m,hns,fun i x v e1 e2 e3=>?_⟩,fun x c e=>?_,?_,fun x c e=>?_,fun p hp=>absurd (show p∈([]:List (Addr×Obj)) from hp) (by simp),?_,?_⟩
 ·exact Un.laid (fun b u e=>old b u e) (by rw [hD];exact Nat.le_refl _) fD
 ·-- a JT name
  have hi:i<cp.length:=by
   by_cases hi:i<cp.length
   ·exact hi
   ·unfold oj at e2
    rw [List.getElem?_append_right (by simpa using hi),List.getElem?_replicate] at e2
    split at e2 <;> cases e2
  have hcp:cp[i]? = some cp[i]:=List.getElem?_eq_getElem hi
  obtain ⟨hX,hfr⟩:=S.cap i cp[i] x e1 hcp
  have e2':σ[cp[i]]? = some (some v):=by
   unfold oj at e2
   rw [List.getElem?_append_left (by simpa using hi),List.getElem?_map,hcp] at e2
   simp only [Option.map_some,Option.some.injEq] at e2
   cases q:σ[cp[i]]? with
   | none=>rw [q] at e2;cases e2
   | some o=>rw [q] at e2;simp only [Option.join_some] at e2;rw [e2]
  have hmem:=PySem.mem_of_lookup hfr
  have hk:=S.free x hmem
  obtain ⟨m0,_,hl⟩:=I.loc
  obtain ⟨u,r,lk⟩:=hl cp[i] x v hX e2' (by rcases hk with q | q;exact .inr (.inl q);exact .inr (.inr q))
  refine ⟨u,r,.inr ⟨?_,?_⟩⟩
  ·show (relabel scope X.env).names.lookup x=some .cell\/(relabel scope X.env).names.lookup x=some .free
   unfold relabel
   dsimp only
   rw [c5,hfr]
   simp only [Option.map_some]
   split
   ·exact .inl rfl
   ·exact .inr rfl
  ·obtain ⟨c,hc⟩:=pS (env:=X.env) scope.names [] x hmem
   obtain ⟨d,hd⟩:=dG hc
   refine ⟨d,hd,?_⟩
   rcases lk with ⟨k,_⟩ | ⟨_,c',hc',z⟩
   ·rcases hk with q | q <;> (rw [q] at k;cases k)
   ·have:=hcl x d hd
    rw [hc'] at this;cases this
    exact cellK x d _ hc' z
 ·obtain ⟨v,z⟩:=I.cell x c (hcl x c e)
  exact ⟨v,cellK x c v (hcl x c e) z⟩
 ·show upd H D (.lst []) C=none
  rw [ak (by rw [hC,hD];exact Nat.succ_ne_self _)];exact fC
 ·show upd H D (.lst []) c=none
  rw [ak (ne_of_lt' (I.cell x c (hcl x c e)) hD)]
  exact I.cI x c (hcl x c e)
 ·exact I.hok.laid old (by rw [hD];exact Nat.le_refl _) ⟨Nat.zero_le _,[],0,.nil,hacc⟩
 ·unfold oj
  show _=N.length
  rw [List.length_append,List.length_map,List.length_replicate,S.len]
where
 ne_of_lt' {h:Heap} {c D:Addr} (z:∃ v,h.IsCell c v) (hD:D=h.objs.size):c≠D:=by
  obtain ⟨v,q⟩:=z
  rw [hD]
  exact Nat.ne_of_lt q.lt
variable {elt tg iter:Expr} {ifs:List Expr} {scope:Scope} {pos ppos:Pos} {wi:TI} {g:TG} {tc:St->TT} {te:St->TE} {Ex:XS} {cp:List Nat} {n:Nat} {N:List Str}
theorem kR {use:Option (Value->Sem Unit)} {Q':Value->Shared->Prop} {Q:VK} (hc:X.calm=true) (S:gp X scope N cp n) (hi:PI X tg iter wi)
  (hfr:oA X) (hx:∀ e s,j9 X Ex e s->X.xe e s) (hb:∀ σ cl fp s H C,PG (dU X scope cl N fp s H C fun cv x H'=>Ex cv x σ H') tg g/\Ho (dU X scope cl N fp s H C fun cv x H'=>Ex cv x σ H') ifs (tc σ)/\PE (dU X scope cl N fp s H C fun cv x H'=>Ex cv x σ H') elt (te σ)) (hs:∀ x,foldedSetIterable iter X.env x=pure x)
  (I:Inv X pins σ H s) (h:qf wi g tc te cp n σ H Q)
  (fin:∀ s' C D H' f,Inv X pins σ H' s'->iI X pins H' C->(∃ m,s'.heap.Ns C m)->Q (.ref D) H'->compPost (model X.prog X.w) X.A X.xe use Q' (.ref D) C (.ok f) s') :
  wpAny (model X.prog X.w) X.A (comprehension (.ListComp elt [⟨tg,iter,ifs,0⟩] scope pos) scope X.env ppos (newList []) false (eval iter X.env) use) Q' X.xe s:=by
 have hex:∀ x,(x,NameKind.free)∈scope.names->∃ c,X.env.cells.lookup x=some c:=fun x hx=>I.ok.has x (S.free x hx)
 refine wpAny_comprehension_free rfl hs (pR hex) S.kind S.names (bT (hi pins s σ H _ I h) fun v s1 h1=>bT h1 fun itv s2 h2=>?_)
 obtain ⟨it,fp,tn,J,H2,e,I2,T,st2,f2,hW⟩:=h2
 subst e
 refine wpAny_newObj_type (wpAny_newFunctionEnv S.cell (by intro y hy;simp at hy) (fun h₁ pI lP=>?_) S.kind)
 dsimp only at pI lP ⊢
 generalize hH2:s2.heap.push { cls:=.type "list", dict:=none, data:=.seq ([]:List Value).toArray }=G at pI lP ⊢
 have hC:G.objs.size=s2.heap.objs.size+1:=by rw [<- hH2,Heap.size_push]
 have Gv:∀ b∈fp,b<s2.heap.objs.size:=fun b hb=>by
  obtain ⟨o,e,_⟩:=T.obj _ _ st2 b hb
  exact Heap.lt_size e
 have hDC:s2.heap.objs.size≠G.objs.size:=by rw [hC];exact Nat.ne_of_lt (Nat.lt_succ_self _)
 have old:∀ b o,s2.heap.get? b=some o->h₁.get? b=some o:=fun b o e=>lP.extBut b o (by rw [hC];exact Nat.ne_of_lt (Nat.lt_succ_of_lt (Heap.lt_size e))) (Heap.get?_push_of_some _ (hH2 ▸ Heap.get?_push_of_some _ e))
 have hacc:h₁.get? s2.heap.objs.size=some { cls:=.type "list", data:=.seq ([]:List Value).toArray 0 }:=lP.extBut _ _ hDC (Heap.get?_push_of_some _ (hH2 ▸ Heap.get?_push_size _ rfl))
 have st1:tn 0 h₁:=T.keep _ _ _ st2 fun b hb o e=>old b o e
 obtain ⟨W,⟨m0,w0⟩,turn⟩:=hW s2.heap.objs.size (I2.hok.fresh (Nat.le_refl _))
 have I0':=tG (t1:=s2.toks+([]:List (Str×Value)).length) S I2 f2 Gv rfl hC pI old hacc
 have I0:=I0'.bZ (j9 (Dv X scope (scope.names.foldl (aV X.env) []) N fp s2 H2 G.objs.size) fun cv x _ H'=>Ex cv x σ H')
 obtain ⟨hg,ht,he⟩:=hb σ (scope.names.foldl (aV X.env) []) fp s2 H2 G.objs.size
 have fp0:∀ b∈fp,upd H2 s2.heap.objs.size (.lst []) b=none:=fun b hb=>by rw [ak (Nat.ne_of_lt (Gv b hb))];exact (f2 b hb).1
 have hex':∀ x c,(scope.names.foldl (aV X.env) []).lookup x=some c->X.env.cells.lookup x=some c:=fun x c e=>by
  rcases mw scope.names [] (x,c) hex (PySem.mem_of_lookup e) with q | q
  ·cases q
  ·exact q
 have stat:∀ {H':Hp},(∀ b∈fp,H' b=none)->∀ b∈fp,iI (dU X scope (scope.names.foldl (aV X.env) []) N fp s2 H2 G.objs.size (fun cv x H'=>Ex cv x σ H')) [] H' b:=fun {H'} hn b hb =>
  ⟨hn b hb,Nat.ne_of_lt (Nat.lt_trans (Gv b hb) (by rw [hC];exact Nat.lt_succ_self _)),fun z=>(List.mem_cons.mp (I2.dZ b z)).elim (f2 b hb).2.1 (f2 b hb).2.2.1,.inl hb,fun x c e=>(f2 b hb).2.2.2.2.1 x c (hex' x c e),fun p hp=>absurd (show p∈([]:List (Addr×Obj)) from hp) (by simp)⟩
 have loop:∀ s3:Shared,s3={ s2 with heap:=h₁,toks:=s2.toks+([]:List (Str×Value)).length }->codeAny (model X.prog X.w) X.A (.compLoop (.ListComp elt [⟨tg,iter,ifs,0⟩] scope pos) 0 (.ref it) (.ref s2.heap.objs.size) (compEnvC scope (scope.names.foldl (aV X.env) []) G.objs.size X.env))
   (compPost (model X.prog X.w) X.A X.xe use Q' (.ref s2.heap.objs.size) G.objs.size) s3:=by
  rintro s3 rfl
  refine fQ (fun n s'=>∃ i σ' H',Inv (dU X scope (scope.names.foldl (aV X.env) []) N fp s2 H2 G.objs.size (fun cv x H'=>Ex cv x σ H')) [] σ' H' s'/\tn i s'.heap/\(∀ b∈fp,H' b=none)/\W i n σ' H') (j9 (Dv X scope (scope.names.foldl (aV X.env) []) N fp s2 H2 G.objs.size) fun cv x _ H'=>Ex cv x σ H') ?hE ?_ m0 ⟨0,_,_,I0,st1,fp0,w0⟩
  case hE =>
   rintro e s3 ⟨pins3,σ3,H3,a,a0,cv,B,rfl,I3,up,eW,_,q⟩
   obtain ⟨l9,lD,L,hst,Gw,KP⟩:=hfr
   show wpAny (model X.prog X.w) X.A (noteFrame (.ref a) _) _ _ s3
   rw [lF (env:=compEnvC scope (scope.names.foldl (aV X.env) []) G.objs.size X.env) (env':=l9) (KP.trans Gw.symm)]
   have up':Up B (l9::lD) a cv a0 s3.heap:=by rw [<- hst];exact up
   refine up'.note (by rw [I.ok.frames,hst]) Gw fun h4 held uA=>?_
   obtain ⟨m,hm,_⟩:=id I3.loc
   have hcC:G.objs.size∉frs X.stack:=fun z=>by
    rcases List.mem_cons.mp (I2.dZ _ z) with e | z
    ·have z:=I2.lt
     rw [<- e,hC] at z
     exact absurd z (Nat.not_lt.mpr (Nat.le_succ _))
    ·exact I2.IP (by rw [hC];exact Nat.le_succ _) z
   refine ⟨m,uA.ns hm,fun h5 sb5 cenv _=>?_⟩
   have hm4:=uA.ns hm
   have upH:Up B X.stack a cv a0 h4:=by rw [hst];exact .qH held
   have DK:=upH.hide sb5 (by
    obtain ⟨o,es,ep,ho,hd,_⟩:=hm4
    exact ⟨o,ho,fun vs z=>by rw [hd] at z;cases z⟩) hcC
   refine DK.pass fun h6 up6 sm6=>hx _ _ ?_
   have iR:(B.hide G.objs.size).StaysIn s3.heap:=fun b o e=>up.1 b o (Heap.of_hide e)
   have BS:Calm (B.hide G.objs.size) (frs X.stack) fp H3 s2.heap:=fun b hb hf=>by
    obtain ⟨o,e⟩:=eW b hb hf
    refine ⟨o,?_⟩
    rw [Heap.hide_ne]
    ·exact e
    ·rintro rfl
     rcases hb with hb | ⟨⟨o',hb⟩,_⟩
     ·exact hb I3.free
     ·have z:=Heap.lt_size hb
      rw [hC] at z
      exact absurd z (Nat.not_lt.mpr (Nat.le_succ _))
   have fru:∀ b∈frs X.stack,∀ o,s3.heap.get? b=some o->∃ sl,h6.get? b=some { o with slots:=sl }:=fun b hb o e=>by
    have hd:=nM I3 b hb o e
    obtain ⟨sl,e4⟩:=uA b o e hd
    have e5:h5.get? b=some { o with slots:=sl }:=by rw [sb5.2 b (by rintro rfl;exact hcC hb)];exact e4
    obtain ⟨Co,e6⟩:=sm6 b _ e5 hd
    exact ⟨Co,e6⟩
   have un6:=lS I3.base BS iR up6.1 fru (fun b hb _=>hb)
   have hok6:=je I3.hok BS iR up6.1 I3.fK
   have J:=I2.xu (s':={ s3 with heap:=h6 }) I3.os un6 hok6 I3.bare fun b hb=>⟨(f2 b hb).2.2.2.1,(f2 b hb).2.1,(f2 b hb).2.2.2.2.1,(f2 b hb).2.2.2.2.2⟩
   have calX:Calm (B.hide G.objs.size) (frs X.stack) X.ex H3 X.s₀.heap:=by
    intro b hb hf
    refine BS b ?_ hf
    rcases hb with hb | ⟨⟨o,z⟩,nx⟩
    ·exact .inl hb
    ·refine .inr ⟨fL I2 z nx,fun zf=>?_⟩
     rcases (f2 b zf).2.2.2.1 with y | y
     ·exact nx y
     ·exact absurd (Nat.lt_of_lt_of_le (Heap.lt_size z) y) (Nat.lt_irrefl _)
   have pnX:∀ p∈X.pn,(B.hide G.objs.size).get? p.1=some p.2:=by
    intro p hp
    obtain ⟨p1,p2,p3,p4,_⟩:=I2.pin p (List.mem_append_left _ hp)
    have pf:p.1∉fp:=fun z=>(f2 _ z).2.2.2.2.2 p (List.mem_append_left _ hp) rfl
    have ps:p.1∉frs X.stack:=fun z=>by
     rcases List.mem_cons.mp (I2.dZ _ z) with e | z
     ·exact p3 e
     ·exact p4 z
    exact BS.at iR (I3.base.keep p.1 p.2 p1 p2 ps pf) (.inr ⟨⟨_,p1⟩,pf⟩) ps
   exact ⟨pins,σ,H3,a,a0,cv,B.hide G.objs.size,rfl,J,up6,calX,pnX,q⟩
  rintro n s3 ⟨i,σ3,H3,I3,st3,Js,w3⟩
  rcases turn i n σ3 H3 w3 with ⟨stop,qn⟩ | ⟨go,step⟩
  ·refine bT (T.done (dU X scope (scope.names.foldl (aV X.env) []) N fp s2 H2 G.objs.size (fun cv x H'=>Ex cv x σ H')) rfl rfl rfl hc i [] s3 σ3 H3 _ I3 (stat Js) st3 stop) fun r s4 ⟨hr,I4⟩=>?_
   subst hr
   refine fin s4 _ _ H3 _ (I2.xu I4.os I4.base I4.hok I4.bare fun b hb=>⟨(f2 b hb).2.2.2.1,(f2 b hb).2.1,(f2 b hb).2.2.2.2.1,(f2 b hb).2.2.2.2.2⟩) (I2.pM (by rw [hC];exact Nat.le_succ _) I4.free) ?_ qn
   obtain ⟨m,hm,_⟩:=I4.loc
   exact ⟨m,hm⟩
  ·refine bT (T.item (dU X scope (scope.names.foldl (aV X.env) []) N fp s2 H2 G.objs.size (fun cv x H'=>Ex cv x σ H')) rfl rfl rfl hc i [] s3 σ3 H3 _ I3 (stat Js) st3 go) fun r s4 ⟨u,hr,h4⟩=>?_
   subst hr
   refine bT h4 fun _ s5 ⟨x,H5,I5,r5,y5,DT,fr5⟩=>?_
   have I5':=I5.pinned (stat fr5) (T.obj _ _ DT)
   refine bT (hg _ s5 σ3 H5 x u _ I5' r5 (step x H5 y5)) fun _ s6 ⟨σ6,H6,I6,q6⟩=>?_
   refine bT (ht _ s6 σ6 H6 _ I6 q6) fun ok s7 ⟨H7,I7,q7⟩=>?_
   have again:∀ {σ8:St} {H8:Hp} {s8:Shared} {m':Nat},Inv (dU X scope (scope.names.foldl (aV X.env) []) N fp s2 H2 G.objs.size (fun cv x H'=>Ex cv x σ H')) ([]++jx fp s5.heap) σ8 H8 s8->m'<n->W (i+1) m' σ8 H8 ->
     ∃ m,m<n/\∃ i σ' H',Inv (dU X scope (scope.names.foldl (aV X.env) []) N fp s2 H2 G.objs.size (fun cv x H'=>Ex cv x σ H')) [] σ' H' s8/\tn i s8.heap/\(∀ b∈fp,H' b=none)/\W i m σ' H':=fun {σ8 H8 s8 m'} I8 hm w8=>by
    refine ⟨m',hm,i+1,σ8,H8,I8.gq,T.keep _ _ _ DT fun b hb o e=>(I8.pin (b,o) (List.mem_append_right _ (List.mem_append_right _ (d9 hb e)))).1,fun b hb=>?_,w8⟩
    obtain ⟨o,e,d⟩:=T.obj _ _ DT b hb
    exact (I8.pin (b,o) (List.mem_append_right _ (List.mem_append_right _ (d9 hb e)))).2.1
   cases ok with
   | false =>
    rw [if_neg Bool.false_ne_true] at q7 ⊢
    obtain ⟨m',hm,w7⟩:=q7
    exact again I7 hm w7
   | true =>
    rw [if_pos rfl] at q7 ⊢
    refine bT (he _ s7 σ6 H7 _ I7 q7) fun xv s8 ⟨v,H8,I8,r8,ys,hy,hz,m',hm,w8⟩=>?_
    refine bT (kI (X:=(dU X scope (scope.names.foldl (aV X.env) []) N fp s2 H2 G.objs.size (fun cv x H'=>Ex cv x σ H'))) _ s8 σ6 H8 (.ref s2.heap.objs.size) [v] (.ref s2.heap.objs.size) [xv] (fun _ H'=>H'=upd H8 s2.heap.objs.size (.lst (ys++[v]))) I8 rfl (.cons r8 .nil) ⟨_,ys,v,rfl,rfl,hy,hz,rfl⟩) fun a s9 ⟨_,H9,I9,_,e9⟩=>?_
    subst e9
    exact again I9 hm w8
 exact codeAny_compStart_list (loop _ rfl) (T.self X.A 0 _ _ _ st1 (loop _ rfl))
theorem zU (hc:X.calm=true) (S:gp X scope N cp n) (hi:PI X tg iter wi)
  (hfr:oA X) (hx:∀ e s,j9 X Ex e s->X.xe e s) (hb:∀ σ cl fp s H C,PG (dU X scope cl N fp s H C fun cv x H'=>Ex cv x σ H') tg g/\Ho (dU X scope cl N fp s H C fun cv x H'=>Ex cv x σ H') ifs (tc σ)/\PE (dU X scope cl N fp s H C fun cv x H'=>Ex cv x σ H') elt (te σ)) (hs:∀ x,foldedSetIterable iter X.env x=pure x) :
  PE X (.ListComp elt [⟨tg,iter,ifs,0⟩] scope pos) (qf wi g tc te cp n):=by
 intro pins s σ H Q I h
 rw [eval_ListComp]
 refine kR (use:=none) hc S hi hfr hx hb hs I h fun s' C D H' f I' fC ⟨m,hm⟩ q=>⟨m,hm,fun h' hs'=>?_⟩
 exact ⟨.ref D,H',I'.turned (fun b o hb e=>(hs'.2 b hb).trans e) fC.1 fC.2.1 fC.2.2.2.1 fC.2.2.2.2.1 fC.2.2.2.2.2,rfl,q⟩
theorem zL {i:Nat} {y:Str} {py spos:Pos} (hN:X.N.Nodup) (hy:X.N[i]? = some y) (hk:X.env.scope.names.lookup y=some .local) (hc:X.calm=true) (S:gp X scope N cp n) (hi:PI X tg iter wi)
  (hfr:oA X) (hx:∀ e s,j9 X Ex e s->X.xe e s) (hb:∀ σ cl fp s H C,PG (dU X scope cl N fp s H C fun cv x H'=>Ex cv x σ H') tg g/\Ho (dU X scope cl N fp s H C fun cv x H'=>Ex cv x σ H') ifs (tc σ)/\PE (dU X scope cl N fp s H C fun cv x H'=>Ex cv x σ H') elt (te σ)) (hs:∀ x,foldedSetIterable iter X.env x=pure x)
  (hsw:swapsWith (.ListComp elt [⟨tg,iter,ifs,0⟩] scope pos) (some (.Name y py)) spos.line X.env=pure true) :
  PS X (.Assign [.Name y py] (.ListComp elt [⟨tg,iter,ifs,0⟩] scope pos) spos) (ur (qf wi g tc te cp n) (jL i)):=by
 intro pins s σ H Dn I h
 rw [exec_Assign_Name_used _ _ _ _ hsw]
 refine wpAny_bind (wpAny_standAt (wpAny_bind ?_))
 show wpAny _ X.A (do let _ <- comprehension (.ListComp elt [⟨tg,iter,ifs,0⟩] scope pos) scope X.env _ (newList []) false (eval iter X.env) (some (assign (.Name y py) X.env))) _ _ s
 refine wpAny_bind (wpAny_mono (kR (use:=some (assign (.Name y py) X.env)) (Q':=fun _ s'=>SP X pins Dn .next s') hc S hi hfr hx hb hs I h fun s' C D H' f I' fC ⟨m,hm⟩ q=>?_) (fun _ s' hq=>wpAny_pure (wpAny_pure hq)) fun _ _ e=>e)
 show wpAny _ X.A (assign (.Name y py) X.env (.ref D)) _ _ s'
 refine wpAny_assign_Name (kr I' hN hy (.inl hk) (v:=.ref D) rfl (fun s2 I2 ⟨a,hsb,ha⟩=>?_) (.inr hk))
 have hCa:C≠a:=by
  rcases ha with rfl | ha
  ·exact fC.2.1
  ·exact fun z=>fC.2.2.2.2.1 _ _ ha z.symm
 refine ⟨m,hm.sameBut hsb hCa,fun h' hs'=>⟨_,H',I2.turned (fun b o hb e=>(hs'.2 b hb).trans e) fC.1 fC.2.1 fC.2.2.2.1 fC.2.2.2.2.1 fC.2.2.2.2.2,q⟩⟩
end
end Fg
end
section
namespace Fg
open PySem L2
noncomputable def J7 (a:Addr) (o:Obj) (kvs:List (Key×V)):It :=
 ⟨fun i H=>H a=some (.fN o (.dK kvs))/\i<kvs.length,fun i H x H'=>H'=H/\∃ kv,kvs[i]? = some kv/\x=kV kv.1,fun i H=>H a=some (.fN o (.dK kvs))/\kvs.length<=i⟩
noncomputable def Jl (B:Bd) (th:Addr->Prop) (tl:TE):TI:=fun σ H R=>tl σ H fun x H1 =>
 (∃ a,x=.ref a/\(∃ xs,fU B.K H1 a xs)/\R (Itl B.K a) H1)\/(∃ a,x=.ref a/\(∃ xs,iH B.K H1 a xs)/\R (Itt B.K a) H1) \/
 (∃ a kvs,x=.ref a/\H1 a=some (.dK kvs)/\∀ o,th a->R (J7 a o kvs) (upd H1 a (.fN o (.dK kvs)))) \/
 (∃ a o kvs,x=.ref a/\H1 a=some (.fN o (.dK kvs))/\R (J7 a o kvs) H1)
section
variable {B:Bd} {Φ:cM} {E:Gx} {F F' F0 F1:Addr->Prop} {ρ ρ' ρ0 ρ1:List Addr} {H H' H0 H1:Hp} {M M' M0:MH} {σD:Sg} {σ:L2.St} {Q:VK} {Dn:Ends}
theorem kg {a:Addr} {src:D} {ds:List D} (h:∀ F ρ M H,Ext F0 ρ0 H0 F ρ H->SR B F ρ M H->aG M0 src M=true->∃ vs,fU B.K H a vs/\aj B F ρ H ds vs):Walks B (Itl B.K a) src ds F0 ρ0 M0 H0:=by
 intro i F ρ M H e S st
 obtain ⟨vs,q,rd⟩:=h F ρ M H e S st
 refine ⟨fun d hd=>?_,fun hl=>⟨vs,q,by rw [<- aj.length rd];exact hl⟩⟩
 obtain ⟨v,hv,rv⟩:=aj.get rd hd
 refine ⟨⟨vs,v,q,hv⟩,fun x H' ⟨e',hy⟩=>?_⟩
 subst e'
 have z:=hy vs q
 rw [hv] at z;cases z
 exact ⟨F,S.refl,S,rv⟩
theorem rZ {a:Addr} {src:D} {ds:List D} (h:∀ F ρ M H,Ext F0 ρ0 H0 F ρ H->SR B F ρ M H->aG M0 src M=true->∃ vs,iH B.K H a vs/\aj B F ρ H ds vs):Walks B (Itt B.K a) src ds F0 ρ0 M0 H0:=by
 intro i F ρ M H e S st
 obtain ⟨vs,q,rd⟩:=h F ρ M H e S st
 refine ⟨fun d hd=>?_,fun hl=>⟨vs,q,by rw [<- aj.length rd];exact hl⟩⟩
 obtain ⟨v,hv,rv⟩:=aj.get rd hd
 refine ⟨⟨vs,v,q,hv⟩,fun x H' ⟨e',hy⟩=>?_⟩
 subst e'
 have z:=hy vs q
 rw [hv] at z;cases z
 exact ⟨F,S.refl,S,rv⟩
theorem Fy {k:Key}:RD B F ρ H (Bh k) (kV k):=by cases k <;> simp only [Bh,kV,RD]
theorem ki {a:Addr} {o:Obj} {src:D} {dg:List (Ky×D)} {kws:List (Key×V)} (hz:H0 a=some (.fN o (.dK kws))) (hk:kws.map (·.1)=dg.map (·.1)):Walks B (J7 a o kws) src (dg.map fun kv=>Bh kv.1) F0 ρ0 M0 H0:=by
 intro i F ρ M H e S st
 have hl:kws.length=dg.length:=by have:=congrArg List.length hk;simpa using this
 have hH:=e.z a o _ hz
 refine ⟨fun d hd=>?_,fun hi=>⟨hH,by rw [hl];simpa using hi⟩⟩
 rw [List.getElem?_map] at hd
 cases hx:dg[i]? with
 | none=>rw [hx] at hd;cases hd
 | some kd =>
  rw [hx] at hd
  simp only [Option.map_some,Option.some.injEq] at hd
  subst hd
  obtain ⟨hi,_⟩:=List.getElem?_eq_some_iff.mp hx
  refine ⟨⟨hH,by rw [hl];exact hi⟩,fun x H' ⟨e',kw,hkw,hx'⟩=>?_⟩
  subst e' hx'
  have e1:(kws.map (·.1))[i]? = some kw.1:=by rw [List.getElem?_map,hkw];rfl
  rw [hk,List.getElem?_map,hx] at e1
  simp only [Option.map_some,Option.some.injEq] at e1
  rw [<- e1]
  exact ⟨F,S.refl,S,Fy⟩
theorem D5 {a:Fg.E} {Rr:It->Hp->Prop} (h:Dz B Φ E (.e a) σ H Rr):Jl B E.th (T B Φ E a) σ H Rr:=by
 obtain ⟨σD,M,F,ρ,S,r,h⟩:=h
 refine ⟨σD,M,F,ρ,S,r,?_⟩
 cases hx:ev Φ a σD M with
 | exc c M1 =>
  have he:cu Φ (.e a) σD M=.exc c M1:=by simp only [cu,hx,R.fJ]
  rw [he] at h;exact h
 | bad =>
  have he:cu Φ (.e a) σD M=.bad:=by simp only [cu,hx,R.gS]
  rw [he] at h;exact h
 | ok d M1 =>
  intro F1 ρ1 H1 v e1 S1 rd
  cases hi:itemsOf M1 d with
  | none =>
   have he:cu Φ (.e a) σD M=.bad:=by simp only [cu,hx,R.aD,hi]
   rw [he] at h;exact h.elim
  | some ds =>
   have he:cu Φ (.e a) σD M=.ok (d,ds,wk M1 d) (walk M1 d):=by simp only [cu,hx,R.aD,hi]
   rw [he] at h
   cases d with
   | aE=>simp [itemsOf,vw] at hi
   | bl _=>simp [itemsOf,vw] at hi
   | int _=>simp [itemsOf,vw] at hi
   | str _=>simp [itemsOf] at hi
   | dct _ _=>simp [itemsOf] at hi
   | lst xs =>
    simp only [itemsOf,vw,Option.some.injEq] at hi;subst hi
    simp only [RD] at rd
    obtain ⟨b,vs,rfl,z,q⟩:=id rd
    refine .inl ⟨b,rfl,⟨vs,z.sq⟩,h F1 ρ1 H1 _ e1 S1 fun M' eq S'=>⟨?_,fun z=>by simp [wk] at z⟩⟩
    refine kg fun F ρ M H e S st=>?_
    have Ib:=RD.mono e (.lst xs) (.ref b) (by simp only [RD];exact rd)
    simp only [RD] at Ib
    obtain ⟨b',vs',eb,z',q'⟩:=Ib
    cases eb
    exact ⟨vs',z'.sq,q'⟩
   | tup xs =>
    simp only [itemsOf,vw,Option.some.injEq] at hi;subst hi
    simp only [RD] at rd
    obtain ⟨b,vs,rfl,z,q⟩:=id rd
    refine .inr (.inl ⟨b,rfl,⟨vs,z.sq⟩,h F1 ρ1 H1 _ e1 S1 fun M' eq S'=>⟨?_,fun z=>by simp [wk] at z⟩⟩)
    refine rZ fun F ρ M H e S st=>?_
    have Ib:=RD.mono e (.tup xs) (.ref b) (by simp only [RD];exact rd)
    simp only [RD] at Ib
    obtain ⟨b',vs',eb,z',q'⟩:=Ib
    cases eb
    exact ⟨vs',z'.sq,q'⟩
   | ref n =>
    simp only [RD] at rd
    obtain ⟨b,hb,rfl⟩:=rd
    cases hM:M1[n]? with
    | none=>simp [itemsOf,vw,hM] at hi
    | some o =>
     cases o with
     | ins _ _=>simp [itemsOf,vw,hM] at hi
     | lst xs =>
      simp only [itemsOf,vw,hM,Option.some.injEq] at hi;subst hi
      have hw:walk M1 (.ref n)=M1:=by simp only [walk,hM]
      have hk:wk M1 (.ref n)=false:=by simp only [wk,hM]
      rw [hw,hk] at h
      obtain ⟨vs,h1,q⟩:=S1.obj n b _ hb hM
      refine .inl ⟨b,rfl,⟨vs,.inl (.inl h1)⟩,h F1 ρ1 H1 _ e1 S1 fun M' eq S'=>⟨?_,fun z=>by simp at z⟩⟩
      injection eq with eq1 eq2
      subst eq2
      refine kg fun F ρ M H e S st=>?_
      simp only [aG,decide_eq_true_eq] at st
      obtain ⟨vs',h1',q'⟩:=S.obj n b _ (e.at hb) (st.trans hM)
      exact ⟨vs',.inl (.inl h1'),q'⟩
     | dct dg =>
      simp only [itemsOf,vw,hM,Option.some.injEq] at hi;subst hi
      have hw:walk M1 (.ref n)=M1.set n (.gM dg):=by simp only [walk,hM]
      have hk:wk M1 (.ref n)=true:=by simp only [wk,hM]
      rw [hw,hk] at h
      obtain ⟨kws,h1,h2,q⟩:=S1.obj n b _ hb hM
      refine .inr (.inr (.inl ⟨b,kws,rfl,h1,fun ob hth=>?_⟩))
      obtain ⟨S2,e2⟩:=S1.wk ob hb hM h1
      refine h F1 ρ1 _ _ (e1.trans e2) S2 fun M' eq S'=>⟨ki aL h2,fun _=>⟨n,b,rfl,hb,hth,fun w v z=>?_⟩⟩
      have:=e1.z b w v z
      rw [h1] at this;cases this
     | gM dg =>
      simp only [itemsOf,vw,hM,Option.some.injEq] at hi;subst hi
      have hw:walk M1 (.ref n)=M1:=by simp only [walk,hM]
      have hk:wk M1 (.ref n)=false:=by simp only [wk,hM]
      rw [hw,hk] at h
      obtain ⟨ob,kws,h1,h2,q⟩:=S1.obj n b _ hb hM
      exact .inr (.inr (.inr ⟨b,ob,kws,rfl,h1,h F1 ρ1 H1 _ e1 S1 fun M' eq S'=>⟨ki h1 h2,fun z=>by simp at z⟩⟩))
theorem r6 {lo:Int} {n:Nat} {src:D}:Walks B (Ll lo n) src ((List.range n).map fun (i:Nat)=>D.int (lo+(i:Int))) F0 ρ0 M0 H0:=by
 intro i F ρ M H e S st
 refine ⟨fun d hd=>?_,fun hi=>(show n<=i by simpa using hi)⟩
 have hi:i<n:=by
  obtain ⟨q,_⟩:=List.getElem?_eq_some_iff.mp hd
  simpa using q
 refine ⟨hi,fun x H' ⟨e',hx⟩=>?_⟩
 subst e' hx
 simp [hi] at hd
 subst hd
 exact ⟨F,S.refl,S,by simp only [RD]⟩
theorem IL {j:Int} (h:j4 j=true):-(2 ^ 62)<=j/\j<2 ^ 62:=by
 simp only [j4,decide_eq_true_eq] at h;omega
theorem zq {a:Fg.E} {Rr:It->Hp->Prop} (h:Dz B Φ E (.gv a) σ H Rr):Dd (iJ (T B Φ E a) oM) σ H Rr:=by
 obtain ⟨σD,M,F,ρ,S,r,h⟩:=h
 refine ⟨σD,M,F,ρ,S,r,?_⟩
 cases hx:ev Φ a σD M with
 | exc c M1 =>
  have he:cu Φ (.gv a) σD M=.exc c M1:=by simp only [cu,hx,R.fJ]
  rw [he] at h;exact h
 | bad =>
  have he:cu Φ (.gv a) σD M=.bad:=by simp only [cu,hx,R.gS]
  rw [he] at h;exact h
 | ok d M1 =>
  intro F1 ρ1 H1 v e1 S1 rd
  cases d with
  | int j =>
   simp only [RD] at rd;subst rd
   cases hr:j4 j with
   | false =>
    have he:cu Φ (.gv a) σD M=.bad:=by simp [cu,hx,hr]
    rw [he] at h;exact h.elim
   | true =>
    have he:cu Φ (.gv a) σD M=.ok (.aE,aW 0 j,false) M1:=by simp [cu,hx,hr]
    rw [he] at h
    obtain ⟨b1,b2⟩:=IL hr
    refine ⟨j,rfl,b1,b2,h F1 ρ1 H1 _ e1 S1 fun M' eq S'=>⟨?_,fun z=>by simp at z⟩⟩
    have q:aW 0 j=(List.range j.toNat).map fun (i:Nat)=>D.int (0+(i:Int)):=by simp [aW]
    dsimp only
    rw [q]
    exact r6
  | aE =>
   have he:cu Φ (.gv a) σD M=.bad:=by simp [cu,hx]
   rw [he] at h;exact h.elim
  | bl _ =>
   have he:cu Φ (.gv a) σD M=.bad:=by simp [cu,hx]
   rw [he] at h;exact h.elim
  | str _ =>
   have he:cu Φ (.gv a) σD M=.bad:=by simp [cu,hx]
   rw [he] at h;exact h.elim
  | tup _ =>
   have he:cu Φ (.gv a) σD M=.bad:=by simp [cu,hx]
   rw [he] at h;exact h.elim
  | lst _ =>
   have he:cu Φ (.gv a) σD M=.bad:=by simp [cu,hx]
   rw [he] at h;exact h.elim
  | dct _ _ =>
   have he:cu Φ (.gv a) σD M=.bad:=by simp [cu,hx]
   rw [he] at h;exact h.elim
  | ref _ =>
   have he:cu Φ (.gv a) σD M=.bad:=by simp [cu,hx]
   rw [he] at h;exact h.elim
end
end Fg
end
section
namespace Fg
open PySem L2
noncomputable def EB (E:Gx) (σ:L2.St):Gx:=⟨fun cv x _ H=>E.e cv x σ H,fun _=>False,fun cv x _ H H' t h=>by
 rcases t with rfl | ⟨_,_,_,z,_⟩
 ·exact h
 ·exact z.elim⟩
noncomputable def TBo (B:Bd) (Φ:cM) (E:Gx):O->TT
 | .none=>fun _ H Q=>Q true H
 | .some e=>TB B Φ E e
section
variable {B:Bd} {Φ:cM} {E:Gx} {F F' F0 F1:Addr->Prop} {ρ ρ' ρ0 ρ1:List Addr} {H H' H0 H1:Hp} {M M' M0:MH} {σD:Sg} {σ:L2.St} {Q:VK} {Dn:Ends}
theorem Ext.fresh (S:SR B F ρ M H) {p:Addr} (h:H p=none) (o:HO):Ext F ρ H F ρ (upd H p o) :=
 ⟨⟨S.sep,fun _ q=>q,fun a q _=>ak (by rintro rfl;exact q h),List.prefix_refl _,fun _ q=>.inl q,fun _ q=>.inl q⟩,fun b w u q=>by rw [ak (by rintro rfl;rw [h] at q;cases q)];exact q⟩
theorem Ext.over (e:Ext F ρ H F' ρ' H') {p:Addr} (h:H p=none) (o:HO):Ext F ρ H F' ρ' (upd H' p o) :=
 ⟨⟨e.s,e.f,fun a q nb=>by rw [ak (by rintro rfl;exact q h)];exact e.h a q nb,e.r,e.n,e.g⟩,fun b w u q=>by rw [ak (by rintro rfl;rw [h] at q;cases q)];exact e.z b w u q⟩
theorem RS.cap (r:RS B F ρ H σD σ) (caps:List Nat) (n:Nat):RS B F ρ H (dH σD caps++List.replicate n none) (oj caps n σ):=by
 refine ⟨by simp [dH,oj],fun i d q=>?_⟩
 by_cases hi:i<caps.length
 ·have hc:caps[i]? = some caps[i]:=List.getElem?_eq_getElem hi
  rw [List.getElem?_append_left (by simpa [dH] using hi)] at q
  simp only [dH,List.getElem?_map,hc,Option.map_some,Option.some.injEq] at q
  cases hs:σD[caps[i]]? with
  | none=>rw [hs] at q;cases q
  | some o =>
   rw [hs] at q
   simp only [Option.join_some] at q
   subst q
   obtain ⟨v,h1,h2⟩:=r.get _ _ hs
   refine ⟨v,?_,h2⟩
   unfold oj
   rw [List.getElem?_append_left (by simpa using hi),List.getElem?_map,hc]
   simp [h1]
 ·rw [List.getElem?_append_right (by simpa [dH] using Nat.le_of_not_lt hi),List.getElem?_replicate] at q
  split at q <;> cases q
theorem RS.bJ (e:oE F ρ H F' ρ' H') (h:RS B F ρ H σD σ):RS B F' ρ' H' σD σ :=
 ⟨h.len,fun i d q=>let ⟨v,h1,h2⟩:=h.get i d q;⟨v,h1,RD.bJ e d v h2⟩⟩
theorem mZ {fz:Bool} {caps tg:List Nat} {elt:Fg.E} {it:Src} {cond:O} (h:T B Φ E (.comp fz caps tg elt it cond) σ H Q) :
  qf (Dz B Φ E it) (Hf tg B.K) (fun σ=>TBo B Φ (EB E σ) cond) (fun σ=>T B Φ (EB E σ) elt) caps tg.length σ H (fun v H'=>∃ p7,yW E.th H' p7/\Q v p7):=by
 obtain ⟨σD,M,F,ρ,S,r,h⟩:=h
 simp only [ev] at h
 refine ⟨σD,M,F,ρ,S,r,?_⟩
 cases hx:cu Φ it σD M with
 | exc c M1=>rw [hx] at h;exact h
 | bad=>rw [hx] at h;exact h
 | ok p M0 =>
  rw [hx] at h
  simp only [R.aD] at h
  intro F0 ρ0 H0 J e0 S0 hw
  obtain ⟨W,wz⟩:=hw M0 rfl S0
  obtain ⟨src,ds,fl⟩:=p
  dsimp only at h W wz
  intro Da KS
  obtain ⟨nD,nF⟩:=S0.new KS
  have KR:H Da=none:=by
   cases q:H Da with
   | none=>rfl
   | some u =>
    exfalso
    by_cases hr:Da∈ρ
    ·exact nD (e0.r.subset hr)
    ·have:=e0.h Da (by rw [q];simp) hr
     rw [KS,q] at this;cases this
  let loop:=fun (i:Nat) (σ':Sg) (M':MH) (acc:List D)=>((bN (lW Φ cond) (ev Φ elt) tg (aG M0 src) (ds.drop i) σ' M' acc).fin (dY fl src)).bind fun ds M2=>aR fz ds M2
  let WW:Nat->Nat->L2.St->Hp->Prop:=fun i m σ' H'=>m+i=ds.length/\∃ (Hr:Sg) (M1:MH) (F1:Addr->Prop) (ρ1:List Addr) (acc:List D) (vs:List V),Ext F ρ H F1 ρ1 H'/\Ext F0 ρ0 H0 F1 ρ1 H'/\SR B F1 ρ1 M1 H'/\RS B F1 ρ1 H' Hr σ'/\aG M0 src M1=true/\Da∉ρ1/\¬ F1 Da/\H' Da=some (.lst vs)/\aj B F1 ρ1 H' acc vs /\
   Post B (loop i Hr M1 acc) F ρ H Q (fun cv x H'=>E.e cv x σ H')
  have x0:=oE.side (ρ:=ρ0) (H:=H0) nF (.lst [])
  refine ⟨WW,⟨ds.length,by simp,_,M0,F0,ρ0,[],[],e0.over KR _,Ext.fresh S0 KS _,S0.side nD nF _,((r.mono e0).cap caps tg.length).bJ x0,?_,nD,nF,aL,aj.nil,h⟩,?_⟩
  ·unfold aG;split <;> simp
  rintro i m σ1 H1 ⟨hm,σD1,M1,F1,ρ1,acc,vs,eo,e1,S1,r1,st1,d1,f1,KU,ra,p1⟩
  obtain ⟨wgo,wst⟩:=W i F1 ρ1 M1 H1 e1 S1 st1
  by_cases hi:i<ds.length
  ·have hd:ds.drop i=ds[i]::ds.drop (i+1):=List.drop_eq_getElem_cons hi
   simp only [loop] at p1
   rw [hd] at p1
   unfold bN at p1
   obtain ⟨go,yl⟩:=wgo ds[i] (List.getElem?_eq_getElem hi)
   refine .inr ⟨go,fun x H2 hy=>?_⟩
   obtain ⟨F2,e2,S2,rd⟩:=yl x H2 hy
   have keep:∀ {F3:Addr->Prop} {ρ3:List Addr} {H3:Hp},Ext F1 ρ1 H1 F3 ρ3 H3->Da∉ρ3/\¬ F3 Da/\H3 Da=some (.lst vs)/\aj B F3 ρ3 H3 acc vs:=fun {F3 ρ3 H3} e=>by
    have hne:H1 Da≠none:=by rw [KU];simp
    refine ⟨fun z=>(e.n Da z).elim d1 hne,fun z=>?_,(e.h Da hne d1).trans KU,aj.mono e _ _ ra⟩
    rcases e.g Da z with q | q | q
    ·exact f1 q
    ·exact hne q
    ·exact d1 q
   split at p1
   ·exact p1.elim
   ·rename_i σ2 hs
    refine ju (r1.mono e2) rd hs fun σ' r'=>?_
    have JN:∀ {F3:Addr->Prop} {ρ3:List Addr} {H3:Hp} {M3:MH},Ext F1 ρ1 H1 F3 ρ3 H3->SR B F3 ρ3 M3 H3->RS B F3 ρ3 H3 σ2 σ' ->
      Post B ((((ev Φ elt σ2 M3).bind fun x M2=>if aG M0 src M2=true then (if decide (acc.length<line)=true then bN (lW Φ cond) (ev Φ elt) tg (aG M0 src) (ds.drop (i+1)) σ2 M2 (acc++[x]) else .bad) else .bad).fin (dY fl src)).bind fun ds M2=>aR fz ds M2) F ρ H Q (fun cv x H'=>E.e cv x σ H') ->
      T B Φ (EB E σ) elt σ' H3 fun v H5=>∃ ys,H5 Da=some (.lst ys)/\ys.length<sizeLine/\∃ m',m'<m/\WW (i+1) m' σ' (upd H5 Da (.lst (ys++[v]))):=by
     intro F3 ρ3 H3 M3 e3 S3 r3 p3
     refine ⟨σ2,M3,F3,ρ3,S3,r3,?_⟩
     cases hv:ev Φ elt σ2 M3 with
     | bad=>rw [hv] at p3;exact p3
     | exc c M4 =>
      rw [hv] at p3
      intro F4 ρ4 H4 cv x e4 S4 q4
      obtain ⟨H5,t5,S5,e5,x5⟩:=cX S4 ((eo.trans e3).trans e4) ((e1.trans e3).trans e4).r wz
      exact E.cl _ _ _ _ _ t5 (p3 F4 ρ4 H5 cv x e5 S5 q4)
     | ok d M4 =>
      rw [hv] at p3
      simp only [R.aD] at p3
      intro F4 ρ4 H4 v e4 S4 q4
      split at p3
      ·rename_i hst
       split at p3
       ·rename_i hlt
        obtain ⟨k1,k2,k3,k4⟩:=keep (e3.trans e4)
        have hl4:=aj.length k4
        have x4:=oE.side (ρ:=ρ4) (H:=H4) k2 (.lst (vs++[v]))
        refine ⟨vs,k3,by rw [<- hl4];exact Nat.lt_of_lt_of_le (of_decide_eq_true hlt) b6,m-1,by omega,by omega,σ2,M4,F4,ρ4,acc++[d],vs++[v],((eo.trans e3).trans e4).over KR _,((e1.trans e3).trans e4).over KS _,S4.side k1 k2 _,((r3.mono e4)).bJ x4,hst,k1,k2,aL,aj.bJ x4 _ _ (k4.append (aj.cons q4 aj.nil)),p3⟩
       ·exact p3.elim
      ·exact p3.elim
    cases cond with
    | none =>
     have hc:lW Φ .none σ2 M1=.ok (.bl true) M1:=by simp only [lW]
     rw [hc] at p1
     simp only [R.aD] at p1
     unfold TBo
     dsimp only
     rw [if_pos rfl]
     exact JN e2 S2 r' p1
    | some c =>
     have hc0:lW Φ (.some c) σ2 M1=ev Φ c σ2 M1:=by simp only [lW]
     rw [hc0] at p1
     refine ⟨σ2,M1,F2,ρ1,S2,r',?_⟩
     cases hc:ev Φ c σ2 M1 with
     | bad=>rw [hc] at p1;exact p1
     | exc k M4 =>
      rw [hc] at p1
      intro F4 ρ4 H4 cv x e4 S4 q4
      obtain ⟨H5,t5,S5,e5,x5⟩:=cX S4 ((eo.trans e2).trans e4) ((e1.trans e2).trans e4).r wz
      exact E.cl _ _ _ _ _ t5 (p1 F4 ρ4 H5 cv x e5 S5 q4)
     | ok t M4 =>
      rw [hc] at p1
      simp only [R.aD] at p1
      intro F4 ρ4 H4 v e4 S4 q4
      split at p1
      ·simp only [RD] at q4;subst q4
       refine ⟨true,rfl,?_⟩
       dsimp only
       rw [if_pos rfl]
       exact JN (e2.trans e4) S4 (r'.mono e4) p1
      ·simp only [RD] at q4;subst q4
       refine ⟨false,rfl,?_⟩
       dsimp only
       rw [if_neg Bool.false_ne_true]
       split at p1
       ·rename_i hst
        obtain ⟨k1,k2,k3,k4⟩:=keep (e2.trans e4)
        exact ⟨m-1,by omega,by omega,σ2,M4,F4,ρ4,acc,vs,(eo.trans e2).trans e4,(e1.trans e2).trans e4,S4,r'.mono e4,hst,k1,k2,k3,k4,p1⟩
       ·exact p1.elim
      ·exact p1.elim
  ·have hd:ds.drop i=[]:=List.drop_eq_nil_of_le (Nat.le_of_not_lt hi)
   simp only [loop] at p1
   rw [hd] at p1
   unfold bN at p1
   obtain ⟨H4,t4,S4,e4,x4⟩:=cX S1 eo e1.r wz
   refine .inl ⟨wst (Nat.le_of_not_lt hi),H4,t4,?_⟩
   have p2:Post B (aR fz acc (dY fl src M1)) F ρ H Q (fun cv x H'=>E.e cv x σ H'):=p1
   have ra4:=aj.bW x4 _ _ ra
   have hD4:H4 Da=some (.lst vs):=by
    have:=x4.h Da (by rw [KU];simp) d1
    exact this.trans KU
   cases fz with
   | true =>
    simp only [aR,if_true] at p2
    have xt:oE F1 ρ1 H4 (fun a=>F1 a\/a=Da) ρ1 H4:=⟨fun _ q=>.inl q,fun _ _ _=>rfl,List.prefix_refl _⟩
    refine p2 (fun a=>F1 a\/a=Da) ρ1 H4 (.ref Da) ⟨⟨e4.s,fun a q=>.inl (e4.f a q),e4.h,e4.r,e4.n,fun a q=>q.elim (e4.g a) fun z=>.inr (.inl (z ▸ KR))⟩,e4.z⟩ (S4.take d1 (by rw [hD4];simp)) ?_
    simp only [RD]
    exact ⟨Da,vs,rfl,.inl ⟨.inr rfl,.inl hD4⟩,aj.bJ xt _ _ ra4⟩
   | false =>
    simp only [aR,Bool.false_eq_true,if_false] at p2
    have xt:oE F1 ρ1 H4 F1 (ρ1++[Da]) H4:=⟨fun _ q=>q,fun _ _ _=>rfl,List.prefix_append _ _⟩
    refine p2 F1 (ρ1++[Da]) H4 (.ref Da) ⟨⟨e4.s,e4.f,e4.h,e4.r.trans (List.prefix_append _ _),fun a q=>(List.mem_append.mp q).elim (e4.n a) fun z=>.inr (by rw [List.mem_singleton.mp z];exact KR),e4.g⟩,e4.z⟩ (S4.hold (u:=.lst acc) d1 f1 ⟨vs,hD4,aj.bJ xt _ _ ra4⟩) ?_
    simp only [RD]
    refine ⟨Da,?_,rfl⟩
    rw [<- S4.len,List.getElem?_append_right (Nat.le_refl _),Nat.sub_self];rfl
end
end Fg
end
section
namespace Fg
open PySem L2
section
variable {B:Bd} {Φ:cM} {E:Gx} {F F' F0 F1:Addr->Prop} {ρ ρ' ρ0 ρ1:List Addr} {H H' H0 H1:Hp} {M M' M0:MH} {σD:Sg} {σ:L2.St} {Q:VK} {Dn:Ends}
theorem HX {i:Nat} {v:V} (hg:∀ d,Φ.glob i=some d->∀ F ρ H,RD B F ρ H d v) (h:T B Φ E (.g i) σ H Q):tC v σ H Q:=by
 obtain ⟨σD,M,F,ρ,S,r,h⟩:=h
 simp only [ev] at h
 split at h
 ·rename_i d hd
  exact ah.run h S (hg d hd F ρ H)
 ·exact h.elim
noncomputable def zd (B:Bd) (Φ:cM) (f n:Nat):Sp:=fun vs H Q E=>vs.length=n/\∃ ds M F ρ,SR B F ρ M H/\aj B F ρ H ds vs/\Post B (Φ.call f ds M) F ρ H Q E
theorem m5 {f n:Nat} {es:Es} (hn:∀ {σ:Sg} {M:MH} {ds:List D} {M':MH},fF Φ es σ M=.ok ds M'->ds.length=n) (h:T B Φ E (.call f es) σ H Q)  :oN (zd B Φ f n) E.e (TL B Φ E es) σ H Q:=by
 obtain ⟨σD,M,F,ρ,S,r,h⟩:=h
 simp only [ev] at h
 refine ⟨σD,M,F,ρ,S,r,?_⟩
 cases hx:fF Φ es σD M with
 | exc c M1=>rw [hx] at h;exact h
 | bad=>rw [hx] at h;exact h
 | ok ds M1 =>
  rw [hx] at h
  simp only [R.aD] at h
  intro F1 ρ1 H1 vs e1 S1 q1
  exact ⟨by rw [<- aj.length q1];exact hn hx,ds,M1,F1,ρ1,S1,q1,ah.weak e1 h⟩
theorem DO {x:D} {v:V} {t:Ty} (S:SR B F ρ M H) (rx:RD B F ρ H x v) (ho:o6 M x=true):∃ T,B0 B H v T/\tyB T t=yQ M t x:=by
 cases x with
 | aE=>simp only [RD] at rx;subst rx;exact ⟨_,.aE,by cases t <;> rfl⟩
 | bl b=>simp only [RD] at rx;subst rx;exact ⟨_,.bl b,by cases t <;> rfl⟩
 | int i=>simp only [RD] at rx;subst rx;exact ⟨_,.int i,by cases t <;> rfl⟩
 | str x=>simp only [RD] at rx;subst rx;exact ⟨_,.str x,by cases t <;> rfl⟩
 | tup ds=>simp only [RD] at rx;obtain ⟨a,vs,rfl,z,_⟩:=rx;exact ⟨_,.tup z.sq,by cases t <;> rfl⟩
 | lst ds=>simp only [RD] at rx;obtain ⟨a,vs,rfl,z,_⟩:=rx;exact ⟨_,.lst z.sq,by cases t <;> rfl⟩
 | dct ks ds =>
  simp only [RD] at rx;obtain ⟨a,vs,rfl,z,_⟩:=rx
  refine ⟨_,.dct (kvs:=vs) ?_,by cases t <;> rfl⟩
  rcases z with ⟨_,z⟩ | z
  ·exact .inl z
  ·exact .inr z
 | ref n =>
  simp only [RD] at rx
  obtain ⟨a,h1,rfl⟩:=rx
  cases hM:M[n]? with
  | none=>simp [o6,hM] at ho
  | some o =>
   cases o with
   | lst ds=>obtain ⟨vs,h3,_⟩:=S.obj n a _ h1 hM;exact ⟨_,.lst (.inl (.inl h3)),by simp only [yQ,hM];cases t <;> rfl⟩
   | dct kvs=>obtain ⟨kws,h3,_⟩:=S.obj n a _ h1 hM;exact ⟨_,.dct (.inl (.inl h3)),by simp only [yQ,hM];cases t <;> rfl⟩
   | gM kvs=>obtain ⟨o,kws,h3,_⟩:=S.obj n a _ h1 hM;exact ⟨_,.dct (.inl (.inr ⟨o,h3⟩)),by simp only [yQ,hM];cases t <;> rfl⟩
   | ins _ _=>simp [o6,hM] at ho
theorem zy {a:Fg.E} {t:Ty} (h:T B Φ E (.pG a t) σ H Q):HP (Io B) (iJ (T B Φ E a) (iJ (tC (.ty (mQ t))) oM)) σ H Q:=by
 obtain ⟨σD,M,F,ρ,S,r,h⟩:=h
 simp only [ev] at h
 refine T.one S r rfl h fun x M1 F1 ρ1 H1 v e1 S1 r1 rx h1=>?_
 split at h1
 ·rename_i ho
  obtain ⟨T',ty,e⟩:=DO (t:=t) S1 rx ho
  refine ⟨v,T',t,rfl,ty,?_⟩
  rw [e]
  exact ah.run h1 S1 (by simp only [RD])
 ·exact h1.elim
theorem oS {fz:Bool} {a:Fg.E} {es:Es} (h:T B Φ E (.o9 .append fz a es) σ H Q):tBM B.K "list" lC (T B Φ E a) (TL B Φ E es) σ H Q:=by
 obtain ⟨σD,M,F,ρ,S,r,h⟩:=h
 simp only [ev] at h
 refine T.one S r rfl h fun x M1 F1 ρ1 H1 v e1 S1 r1 rx h1=>?_
 split at h1
 ·rename_i ho
  refine ⟨?_,TL.one S1 r1 rfl h1 fun ds M2 F2 ρ2 H2 vs e2 S2 r2 rds h2=>pY S2 (RD.mono e2 _ _ rx) rds h2⟩
  have h0:=((Bool.and_eq_true _ _).mp ho).1
  cases hl:dw M1 x with
  | none=>rw [hl] at h0;cases h0
  | some p =>
   obtain ⟨rfl,hM⟩:=ja hl
   simp only [RD] at rx
   obtain ⟨b,hb,rfl⟩:=rx
   obtain ⟨vs,h3,_⟩:=S1.obj p.1 b _ hb hM
   exact .inl ⟨rfl,vs,.inl (.inl h3)⟩
 ·exact h1.elim
noncomputable def Ct (x y v:V) (H:Hp) (Q:Hp->Prop):Prop:=Cs x y v H Q\/∃ a H4,x=.ref a/\qa H a y v H4/\Q H4
noncomputable def Cp (to ti tv:TE):TS:=fun D σ H=>tv σ H fun v H1=>to σ H1 fun x H2=>ti σ H2 fun y H3=>Ct x y v H3 fun H4=>D.nx σ H4
theorem zD {x y d:D} {v w u:V} (S:SR B F ρ M H) (rx:RD B F ρ H x v) (ry:RD B F ρ H y w) (rd:RD B F ρ H d u) {K:Hp->Prop} (h:∀ M',jv M x y d=.ok () M'->∀ H',Ext F ρ H F ρ H'->SR B F ρ M' H'->K H') (hb:∃ M',jv M x y d=.ok () M'):Ct v w u H K:=by
 obtain ⟨M',hb⟩:=hb
 have hK:=h M' hb
 unfold jv at hb
 split at hb
 ·rename_i n
  simp only [RD] at rx
  obtain ⟨a,h1,rfl⟩:=rx
  split at hb
  ·rename_i xs i hM
   split at hb
   ·rename_i j hj
    cases hb
    simp only [RD] at ry;subst ry
    obtain ⟨vs,h2,h3⟩:=S.obj n a _ h1 hM
    refine .inl ⟨a,vs,i,j,rfl,rfl,h2,by rw [<- aj.length h3,<- wF];exact hj,?_⟩
    obtain ⟨S',e⟩:=S.st (o:=.lst (vs.set j u)) (u:=.lst (xs.set j d)) h1 (fun _ _ q=>by rw [h2] at q;cases q) ⟨_,aL,aj.bW (Ext0.at_ S h1) _ _ (h3.set j rd)⟩
    exact hK _ e S'
   ·cases hb
  ·rename_i kvs hM
   split at hb
   ·rename_i k hk
    split at hb
    ·rename_i hl
     cases hb
     obtain ⟨kws,h2,h3,h4⟩:=S.obj n a _ h1 hM
     have hlen:kws.length=kvs.length:=by have:=congrArg List.length h3;simpa using this
     rw [pD hk ry]
     refine .inr ⟨a,_,rfl,qa.k h2 (by rw [hlen];exact Nat.lt_of_lt_of_le (of_decide_eq_true hl) b6),?_⟩
     obtain ⟨p1,p2⟩:=Em (k:=k) rd h3 h4
     obtain ⟨S',e⟩:=S.st (o:=.dK (putK kws k u)) (u:=.dct (put kvs k d)) h1 (fun _ _ q=>by rw [h2] at q;cases q) ⟨_,aL,p1,aj.bW (Ext0.at_ S h1) _ _ p2⟩
     exact hK _ e S'
    ·cases hb
   ·cases hb
  ·cases hb
 ·cases hb
theorem zE {x y d:D}:(∃ M',jv M x y d=.ok () M')\/jv M x y d=.bad:=by
 unfold jv
 split
 ·split
  ·split
   ·exact .inl ⟨_,rfl⟩
   ·exact .inr rfl
  ·split
   ·split
    ·exact .inl ⟨_,rfl⟩
    ·exact .inr rfl
   ·exact .inr rfl
  ·exact .inr rfl
 ·exact .inr rfl
theorem uD {a b e:Fg.E} (h:TC B Φ E (.j3 a b e) Dn σ H):Cp (T B Φ E a) (T B Φ E b) (T B Φ E e) Dn σ H:=by
 obtain ⟨σD,M,F,ρ,S,r,h⟩:=h
 simp only [ex] at h
 refine TC.one S r h fun x M1 F1 ρ1 H1 v e1 S1 r1 rx h1=>?_
 refine TC.one S1 r1 h1 fun y M2 F2 ρ2 H2 w e2 S2 r2 ry h2=>?_
 refine TC.one S2 r2 h2 fun z M3 F3 ρ3 H3 u e3 S3 r3 rz h3=>?_
 have rx3:=RD.mono e3 _ _ (RD.mono e2 _ _ rx)
 have ry3:=RD.mono e3 _ _ ry
 rcases zE (M:=M3) (x:=y) (y:=z) (d:=x) with ⟨M',hb⟩ | hb
 ·refine zD S3 ry3 rz rx3 (fun M4 hq H4 e4 S4=>?_) ⟨M',hb⟩
  rw [hq] at h3
  exact h3 F3 ρ3 H4 e4 S4 σ (r3.mono e4)
 ·rw [hb] at h3;exact h3.elim
end
end Fg
end
section
namespace Fg
open PySem PySem.Spec L2
section
variable {X:Cx}
end
section
variable {B:Bd} {Φ:cM} {E:Gx} {F F' F0 F1:Addr->Prop} {ρ ρ' ρ0 ρ1:List Addr} {H H' H0 H1:Hp} {M M' M0:MH} {σD:Sg} {σ:L2.St} {Q:VK}
end
end Fg
end
section
namespace Fg
open PySem L2
section
variable {X:Cx}
theorem BH (l:Addr) (items:Array Value) (n:Nat) (b:Addr) (items2:Array Value) (n2:Nat) (dd2:Option Addr) (sl2:Array (Option Value)) (hs0:¬(!items.isEmpty&&Builtin.List.listTooLong (items.size+items2.size))=true) (hs1:items.size<=sizeLine) (hs2:items.size+items2.size<=sizeLine+1) :
  Meets (Builtin.«list.extend» ⟨[.ref l, .ref b], []⟩) (fun _ R s=>s.heap.get? l=some { cls:=.type "list", dict:=none, data:=.seq items n, slots:=#[] }/\s.heap.get? b=some { cls:=.type "tuple", dict:=dd2, data:=.seq items2 n2, slots:=sl2 }/\R (.ok (.ret Value.none)) { s with heap:=s.heap.update l (Obj.mapSeq fun x=>x++items2), toks:=s.toks }) :=
 .of_wp fun prog w A R s h=>by
  obtain ⟨hp,g,d,tk,os⟩:=s;obtain ⟨hl,hb,h⟩:=h;have f1:=AutoSeq1.idx_int;have f2:=AutoSeq1.sub_tuple_tuple;have f3:=AutoSeq1.sub_list_list;have f4:=AutoSeq1.sub_tuple_list;have f5:=AutoSeq1.sub_list_tuple
  have hz':(items++items2).size<=sizeLine+1:=by rw [Array.size_append];exact hs2
  wp_walk using (wpAny_updateSeq hl rfl (hz:=hs1) (_hz':=hz')),AutoSeq1.wpAny_loadPart' hl,AutoSeq1.wpAny_loadPart' hb;exact ⟨_,rfl,h⟩
noncomputable def Cv (K:W.Frag):V->List V->Hp->VK->Prop:=fun x vs H Q=>∃ l b xs zs,x=.ref l/\vs=[.ref b]/\H l=some (.lst xs)/\iH K H b zs/\xs.length+zs.length<=sizeLine/\Q .aE (upd H l (.lst (xs++zs)))
theorem Be:MtM X "list.extend" (Cv X.K):=by
 intro pins s σ H x vs v us Q I rx rv h
 obtain ⟨l,b,xs,zs,rfl,rfl,hH,hB,hz,q⟩:=h
 cases rx
 obtain ⟨u,rfl,ru⟩:=rv.one
 cases ru
 obtain ⟨z,its,n,r,hl,e⟩:=I.Fq hH
 obtain ⟨its2,r2,p2,z2⟩:=I.tuple hB
 obtain ⟨⟨JS,dd2,data2,sl2⟩,e2,hc2,n2,hd2⟩:=p2
 simp only at hc2 hd2
 subst hc2 hd2
 have l2:=r2.length
 have hsz:its.toArray.size+its2.toArray.size<=sizeLine:=by rw [List.size_toArray,List.size_toArray];omega
 have Jo:¬ (!its.toArray.isEmpty&&Builtin.List.listTooLong (its.toArray.size+its2.toArray.size))=true:=by
  rw [vh hsz,Bool.and_false]
  exact Bool.false_ne_true
 refine call_meets PySem.F.slot_list_extend ⟨_,e,rfl⟩ PySem.F.entry_list_extend (PySem.F.args_list_extend_2 _ _)
  (BH l its.toArray n b its2.toArray n2 dd2 sl2 Jo (by rw [List.size_toArray];omega) (by omega)) ⟨e,e2,?_⟩
 refine ⟨.aE,_,I.Ft (its':=its++its2) hH e (by simp) (r.append r2) ?_,rfl,q⟩
 rw [List.length_append]
 omega
end
section
variable {B:Bd} {Φ:cM} {E:Gx} {F F' F0 F1:Addr->Prop} {ρ ρ' ρ0 ρ1:List Addr} {H H' H0 H1:Hp} {M M' M0:MH} {σD:Sg} {σ:L2.St} {Q:VK}
theorem aj.dropLast {ds:List D} {vs:List V} (h:aj B F ρ H ds vs):aj B F ρ H ds.dropLast vs.dropLast:=by
 rw [List.dropLast_eq_take,List.dropLast_eq_take,<- aj.length h];exact aj.take _ h
theorem uQ {x:D} {v:V} {m:Mt} (S:SR B F ρ M H) (rx:RD B F ρ H x v) (ho:pq m M x=true):∃ n xs, x=.ref n/\M[n]? = some (.lst xs)/\Kl B.K "list" v H:=by
 have h0:=((Bool.and_eq_true _ _).mp ho).1
 cases hl:dw M x with
 | none=>rw [hl] at h0;cases h0
 | some p =>
  obtain ⟨rfl,hM⟩:=ja hl
  simp only [RD] at rx
  obtain ⟨b,hb,rfl⟩:=rx
  obtain ⟨vs,h3,_⟩:=S.obj p.1 b _ hb hM
  exact ⟨p.1,p.2,rfl,hM,.inl ⟨rfl,vs,.inl (.inl h3)⟩⟩
theorem zO {fz:Bool} {n:Nat} {xs:List D} {v:V} {X:XK} (S:SR B F ρ M H) (hx:M[n]? = some (.lst xs)) (rx:RD B F ρ H (.ref n) v) (h:Post B (iS .pop fz M (.ref n) []) F ρ H Q X):Ej v [] H Q:=by
 simp only [iS,vW hx,nA,List.isEmpty_nil,if_true] at h
 split at h
 ·rename_i d hd
  simp only [RD] at rx
  obtain ⟨a,h1,rfl⟩:=rx
  obtain ⟨ws,h2,h3⟩:=S.obj n a _ h1 hx
  obtain ⟨w,hw,rw'⟩:=aj.get h3 hd
  refine ⟨a,ws,w,rfl,rfl,h2,by rw [<- aj.length h3];exact hw,?_⟩
  obtain ⟨S',e⟩:=S.st (o:=.lst ws.dropLast) (u:=.lst xs.dropLast) h1 (fun _ _ q=>by rw [h2] at q;cases q) ⟨_,aL,aj.bW (Ext0.at_ S h1) _ _ h3.dropLast⟩
  exact h _ _ _ _ e S' (RD.mono e _ _ rw')
 ·exact h.elim
theorem oR {fz:Bool} {a:Fg.E} {es:Es} (h:T B Φ E (.o9 .extend fz a es) σ H Q):tBM B.K "list" (Cv B.K) (T B Φ E a) (TL B Φ E es) σ H Q:=by
 obtain ⟨σD,M,F,ρ,S,r,h⟩:=h
 simp only [ev] at h
 refine T.one S r rfl h fun x M1 F1 ρ1 H1 v e1 S1 r1 rx h1=>?_
 split at h1
 ·rename_i ho
  obtain ⟨n,xs,rfl,hM,ty⟩:=uQ S1 rx ho
  refine ⟨ty,TL.one S1 r1 rfl h1 fun ds M2 F2 ρ2 H2 vs e2 S2 r2 rds h2=>?_⟩
  have Ko:=RD.mono e2 _ _ rx
  unfold iS at h2
  cases hl:dw M2 (.ref n) with
  | none=>rw [hl] at h2;exact h2.elim
  | some q =>
   rw [hl] at h2
   obtain ⟨e0,hy⟩:=ja hl
   cases e0
   cases ds with
   | nil=>exact h2.elim
   | cons d ds=>cases ds with
    | cons _ _=>exact h2.elim
    | nil =>
     simp only [nA,nj] at h2
     split at h2
     ·rename_i zs hz
      split at h2
      ·rename_i hlen
       simp only [RD] at Ko
       obtain ⟨a',h3,rfl⟩:=Ko
       obtain ⟨ws,h4,h5⟩:=S2.obj _ a' _ h3 hy
       obtain ⟨w,us,rfl,rw',ru⟩:∃ w us,vs=w::us/\RD B F2 ρ2 H2 d w/\aj B F2 ρ2 H2 [] us:=by simpa only [aj] using rds
       have eu:us=[]:=List.eq_nil_of_length_eq_zero (aj.length ru).symm
       subst eu
       cases za hz
       simp only [RD] at rw'
       obtain ⟨b,zs',rfl,z1,r3⟩:=rw'
       refine ⟨a',b,ws,zs',rfl,rfl,h4,z1.sq,?_,?_⟩
       ·rw [<- aj.length h5,<- aj.length r3];exact Nat.le_trans (of_decide_eq_true hlen) b6
       ·obtain ⟨S',e⟩:=S2.st (o:=.lst (ws++zs')) (u:=.lst (q.2++zs)) h3 (fun _ _ q=>by rw [h4] at q;cases q) ⟨_,aL,aj.bW (Ext0.at_ S2 h3) _ _ (h5.append r3)⟩
        exact h2 _ _ _ _ e S' (by simp only [RD])
      ·exact h2.elim
     ·exact h2.elim
 ·exact h1.elim
theorem uF {m:Mt} {fz:Bool} {a:Fg.E} {r:V->List V->Hp->VK->Prop}
  (hs:∀ (F:Addr->Prop) (ρ:List Addr) (H:Hp) (M:MH) (n:Nat) (xs:List D) (v:V) (Q:VK) (X:XK),SR B F ρ M H->M[n]? = some (.lst xs)->RD B F ρ H (.ref n) v->Post B (iS m fz M (.ref n) []) F ρ H Q X->r v [] H Q)
  (h:T B Φ E (.o9 m fz a .nil) σ H Q):DR B.K "list" r (T B Φ E a) σ H Q:=by
 obtain ⟨σD,M,F,ρ,S,r,h⟩:=h
 simp only [ev] at h
 refine T.one S r rfl h fun x M1 F1 ρ1 H1 v e1 S1 r1 rx h1=>?_
 split at h1
 ·rename_i ho
  obtain ⟨n,xs,rfl,hM,ty⟩:=uQ S1 rx ho
  simp only [fF,R.aD] at h1
  exact ⟨ty,hs _ _ _ _ n xs v _ _ S1 hM rx h1⟩
 ·exact h1.elim
theorem zv {fz:Bool} {a:Fg.E} (h:T B Φ E (.o9 .pop fz a .nil) σ H Q):DR B.K "list" Ej (T B Φ E a) σ H Q:=uF (fun _ _ _ _ _ _ _ _ _ S hx rx h=>zO S hx rx h) h
end
end Fg
end
section
namespace Fg
open PySem PySem.Spec L2
section
variable {B:Bd} {Φ:cM} {E:Gx} {F F' F0 F1:Addr->Prop} {ρ ρ' ρ0 ρ1:List Addr} {H H' H0 H1:Hp} {M M' M0:MH} {σD:Sg} {σ:L2.St} {Q:VK} {Dn:Ends}
noncomputable def spI (B:Bd) (Φ:cM) (f n:Nat):Sp:=fun vs H Q E=>vs.length=n/\∃ ds M F ρ,SR B F ρ M H/\aj B F ρ H ds vs/\Post B (Φ.ini f ds M) F ρ H Q E
end
section
variable {X:Cx} {Ex:XS} {k:Nat} {f C:Addr} {fd:FuncData} {ps:List Str} {sp:Sp} {x m:Str} {p pos apos:Pos} {e o:Expr} {es:List Expr} {ta:TE} {t:TA}
end
end Fg
end
section
namespace Fg
open PySem PySem.Spec L2
noncomputable def Iq (K:W.Frag):List V->Hp->VK->Prop:=fun xs H Q=>∃ (p:Addr) (bs:List Bool),xs=[.ref p]/\fU K H p (bs.map V.bl)/\Q (.bl (bs.all id)) H
theorem jo:∀ {bs:List Bool} {us:List Value},Vals (bs.map V.bl) us->us=bs.map Value.bool
 | [],us,h=>by cases h;rfl
 | b::bs,us,h=>by
  cases h with
  | cons r t =>
   rw [show _=Value.bool b from r,jo t];rfl
theorem all_range (bs:List Bool):((List.range bs.length).all fun i=>bs.getD i false)=bs.all id:=by
 rw [Bool.eq_iff_iff,List.all_eq_true,List.all_eq_true]
 constructor
 ·intro h b hb
  obtain ⟨i,hi,e⟩:=List.mem_iff_getElem.mp hb
  have:=h i (List.mem_range.mpr hi)
  rw [List.getD_eq_getElem?_getD,List.getElem?_eq_getElem hi,e] at this
  exact this
 ·intro h i hi
  have hi:=List.mem_range.mp hi
  rw [List.getD_eq_getElem?_getD,List.getElem?_eq_getElem hi]
  exact h _ (List.getElem_mem hi)
theorem tE {X:Cx} (hc:X.calm=true):dc X (.builtin "all") (Iq X.K):=by
 intro pins s σ H xs us Q I r h
 obtain ⟨p,bs,rfl,hq,q⟩:=h
 obtain ⟨u,rfl,rx⟩:=vals1 r
 cases rx
 obtain ⟨its,rv,pl,hz⟩:=I.list hq
 have e:=jo rv
 subst e
 have lt:p<s.heap.objs.size:=by obtain ⟨o,g,_⟩:=pl.isList;exact Heap.lt_size g
 refine call_all_walk (wpAny_pyIter_list pl.isList ⟨_,_,_,_,_,_,fun i=>bs.getD i false,rfl,Walks.list (A:=X.A.in1) (I.ok.hd hc) s.heap.objs.size p (Nat.ne_of_lt lt) (bs.map Value.bool).toArray,⟨⟨_,Heap.get?_push_size _ rfl,rfl,rfl⟩,pl.isList.push _⟩,?_,fun h' tk hk=>?_⟩)
 ·intro i v s' Q' E' hP hQ
  have Jq:(bs.map Value.bool)[i]? = some v:=by simpa using hP
  rw [List.getElem?_map] at Jq
  cases hb:bs[i]? with
  | none=>rw [hb] at Jq;cases Jq
  | some b =>
   rw [hb] at Jq
   cases Jq
   dsimp only at hQ
   rw [List.getD_eq_getElem?_getD,hb] at hQ
   exact wpAny_pure hQ
 ·have kp:∀ c o,s.heap.get? c=some o->h'.get? c=some o:=fun c o g=>hk c o (by simp;exact Nat.ne_of_lt (Heap.lt_size g)) (Heap.get?_push_of_some _ g)
  refine ⟨.bl _,H,I.kept (t':=tk) kp,rfl,?_⟩
  have sz:(bs.map Value.bool).toArray.size=bs.length:=by simp
  rw [sz,all_range]
  exact q
section
variable {B:Bd} {Φ:cM} {E:Gx} {F F' F0 F1:Addr->Prop} {ρ ρ' ρ0 ρ1:List Addr} {H H' H0 H1:Hp} {M M' M0:MH} {σD:Sg} {σ:L2.St} {Q:VK} {Dn:Ends}
theorem oq:∀ {ds:List D} {bs:List Bool} {vs:List V},boolsOf ds=some bs->aj B F ρ H ds vs->vs=bs.map V.bl
 | [],bs,vs,h,r=>by simp only [boolsOf] at h;cases h;simp only [aj] at r;exact r
 | .bl b::ds,bs,vs,h,r=>by
  simp only [boolsOf] at h
  cases hb:boolsOf ds with
  | none=>rw [hb] at h;cases h
  | some bs' =>
   rw [hb] at h
   cases h
   simp only [aj] at r
   obtain ⟨v,ws,rfl,r1,r2⟩:=r
   simp only [RD] at r1
   rw [r1,oq hb r2];rfl
 | .aE::ds,bs,vs,h,r=>by simp [boolsOf] at h
 | .int _::ds,bs,vs,h,r=>by simp [boolsOf] at h
 | .str _::ds,bs,vs,h,r=>by simp [boolsOf] at h
 | .tup _::ds,bs,vs,h,r=>by simp [boolsOf] at h
 | .lst _::ds,bs,vs,h,r=>by simp [boolsOf] at h
 | .dct _ _::ds,bs,vs,h,r=>by simp [boolsOf] at h
 | .ref _::ds,bs,vs,h,r=>by simp [boolsOf] at h
theorem uI {a:Fg.E} (h:T B Φ E (.all1 a) σ H Q):HP (Iq B.K) (iJ (T B Φ E a) oM) σ H Q:=by
 obtain ⟨σD,M,F,ρ,S,r,h⟩:=h
 simp only [ev] at h
 refine T.one S r rfl h fun x M1 F1 ρ1 H1 v e1 S1 r1 rx h1=>?_
 split at h1
 ·rename_i ds hv
  split at h1
  ·rename_i bs hb
   obtain ⟨a,vs,rfl,q1,q2⟩:=bU S1 rx hv
   have e:=oq hb q2
   subst e
   exact ⟨a,bs,rfl,q1,ah.run h1 S1 (by simp only [RD])⟩
  ·exact h1.elim
 ·exact h1.elim
end
end Fg
end
section
namespace Fg
open PySem PySem.Spec L2
section
variable {X:Cx} {B:Bd} {pins:List (Addr×Obj)} {σ:L2.St} {H H':Hp} {s:Shared}
noncomputable def Cd (X:Cx):Addr->Prop:=fun a=>∀ o u,X.H₀ a≠some (.fN o u)
theorem dP (I:Inv X pins σ H s) (h:yW (Cd X) H H'):Inv X pins σ H' s:=by
 rcases h with rfl | ⟨a,o,kvs,th,ha,rfl⟩
 ·exact I
 have ne:∀ b,H b=none->b≠a:=fun b q z=>by subst z;rw [ha] at q;cases q
 refine ⟨I.ok,I.os,I.bare,⟨I.base.keep,I.base.slot,fun b ob e n hx=>?_,I.base.there,fun b xs e=>?_,fun b ob u e=>?_,fun b ps e=>?_⟩,I.loc,I.cell,?_,fun x c e=>?_,fun p hp=>?_,fun b u e=>?_,I.len⟩
 ·have:=I.base.free b ob e n hx
  rw [ak (ne b this)];exact this
 ·have:=I.base.tups b xs e
  rw [ak (by rintro rfl;rw [ha] at this;cases this)];exact this
 ·have:=I.base.fO b ob u e
  rw [ak (by rintro rfl;exact th ob u e)];exact this
 ·obtain ⟨more,q⟩:=I.base.gr b ps e
  exact ⟨more,by rw [ak (by rintro rfl;rw [ha] at q;cases q)];exact q⟩
 ·rw [ak (ne _ I.free)];exact I.free
 ·rw [ak (ne _ (I.cI x c e))];exact I.cI x c e
 ·obtain ⟨h1,h2,h3⟩:=I.pin p hp
  exact ⟨h1,by rw [ak (ne _ h2)];exact h2,h3⟩
 ·by_cases hb:b=a
  ·subst hb
   rw [aL] at e;cases e
   exact (I.hok b _ ha).2
  ·rw [ak hb] at e
   exact (I.hok b u e).stay (fun _ _ _ q=>q) (fun c q=>by rw [ak (by rintro rfl;rw [ha] at q;cases q)];exact q) fun c xs q=>by rw [ak (by rintro rfl;rw [ha] at q;cases q)];exact q
theorem zS {e:Expr} {t:TE} (h:PE X e t):PE X e (fun σ H Q=>t σ H fun v H'=>∃ p7,yW (Cd X) H' p7/\Q v p7):=by
 intro pins s σ H Q I q
 refine bT (h pins s σ H _ I q) fun u s' ⟨v,H',I',r,p7,t',q'⟩=>⟨v,p7,dP I' t',r,q'⟩
theorem qB {st:Stmt} {t:TS} (h:PS X st t):PS X st (fun D σ H=>t (thE (Cd X) D) σ H):=by
 intro pins s σ H D I q
 refine bT (h pins s σ H _ I q) fun f s' q'=>?_
 cases f with
 | next=>obtain ⟨σ',H',I',p7,t',q'⟩:=q';exact ⟨σ',p7,dP I' t',q'⟩
 | brk=>obtain ⟨σ',H',I',p7,t',q'⟩:=q';exact ⟨σ',p7,dP I' t',q'⟩
 | cont=>obtain ⟨σ',H',I',p7,t',q'⟩:=q';exact ⟨σ',p7,dP I' t',q'⟩
 | ret u=>obtain ⟨v,σ',H',I',r,p7,t',q'⟩:=q';exact ⟨v,σ',p7,dP I' t',r,q'⟩
theorem Bm {k:Key} {u:Value} (h:jE k u=true):RelV (kV k) u:=by
 rcases br h with ⟨i,t,rfl,rfl⟩ | ⟨x,t,rfl,rfl⟩
 ·exact ⟨t,rfl⟩
 ·exact ⟨t,rfl⟩
theorem Fz {kvs:List (Key×V)} {vs:List (Key×Value)} (h:KV kvs vs) {i:Nat} {kv:Key×V} (e:kvs[i]? = some kv):∃ w,vs[i]? = some (kv.1,w):=by
 induction h generalizing i with
 | nil=>simp at e
 | @cons p q ps qs hpq _ ih =>
  cases i with
  | zero =>
   simp only [List.getElem?_cons_zero,Option.some.injEq] at e ⊢
   subst e
   exact ⟨q.2,by rw [hpq.1]⟩
  | succ i=>simpa using ih (by simpa using e)
noncomputable def epO (o:Obj) (n:Nat):Prop:=∃ es,o.data=.dict es n
theorem se {P:Program} {w:World} {K:PySem.W.Frag} {tg:Expr} (a it:Addr) (o:Obj) (kvs:List (Key×V)) (ep:Nat) (he:epO o ep):Turn P w K tg (J7 a o kvs) [it] it (fun i h=>h.IsKeyIter it a i kvs.length ep) where
 mem:=by simp
 obj:=fun i h st b hb=>by
  have e:b=it:=by simpa using hb
  subst e
  obtain ⟨o,e,c,d⟩:=st
  exact ⟨o,e,fun v z=>by rw [d] at z;cases z⟩
 keep:=fun i h h' st k=>st.at fun o e=>k it (by simp) o e
 item:=by
  intro X hP hw hK hc i pins s σ H E I hf st hg
  subst hP hw hK
  obtain ⟨hH,hi⟩:=hg
  obtain ⟨ho,z,hm,vs,rel,dd⟩:=(show bF X.prog X.w H s.heap a (.fN o (.dK kvs)) from I.hok a _ hH)
  obtain ⟨o',es,yU,h1,h2,h3,h4⟩:=id dd
  rw [ho] at h1;cases h1
  obtain ⟨es',hd'⟩:=he
  rw [hd'] at h3;cases h3
  have dat:s.heap.DictAt (aZ X.prog X.w) a vs ep:=⟨o,es,ho,h2,hd',h4⟩
  have hx:kvs[i]? = some kvs[i]:=List.getElem?_eq_getElem hi
  obtain ⟨wv,hv⟩:=Fz rel hx
  obtain ⟨f0,f1,f2,f3,f4,f5⟩:=hf it (by simp)
  have hl:kvs.length=vs.length:=rel.length
  rw [hl] at st
  refine wpAny_pyNext_dict_item st dat hv fun key h' hk st' sb=>?_
  have I1:Inv X pins σ H { s with heap:=h' }:=I.turned (t':=s.toks) (fun b o hb e=>(sb.2 b hb).trans e) f0 f1 f3 f4 f5
  obtain ⟨oi,e,c,d⟩:=id st'
  refine ⟨key,rfl,qZ (s:={ s with heap:=h' }) e c d (by decide) ⟨kV kvs[i].1,H,I1,Bm hk,⟨rfl,kvs[i],hx,rfl⟩,by rw [hl];exact st',fun b hb=>(hf b hb).1⟩⟩
 done:=by
  intro X hP hw hK hc i pins s σ H E I hf st hg
  subst hP hw hK
  obtain ⟨hH,hi⟩:=hg
  obtain ⟨ho,z,hm,vs,rel,dd⟩:=(show bF X.prog X.w H s.heap a (.fN o (.dK kvs)) from I.hok a _ hH)
  obtain ⟨o',es,yU,h1,h2,h3,h4⟩:=id dd
  rw [ho] at h1;cases h1
  obtain ⟨es',hd'⟩:=he
  rw [hd'] at h3;cases h3
  have dat:s.heap.DictAt (aZ X.prog X.w) a vs ep:=⟨o,es,ho,h2,hd',h4⟩
  have hl:kvs.length=vs.length:=rel.length
  rw [hl] at st
  obtain ⟨f0,f1,f2,f3,f4,f5⟩:=hf it (by simp)
  exact wpAny_pyNext_dict_end (I.ok.hd hc) st dat (List.getElem?_eq_none_iff.mpr (by omega)) fun h' eb=>⟨rfl,I.turned (t':=s.toks) (fun b o hb e=>eb b o hb e) f0 f1 f3 f4 f5⟩
 self:=fun _ _ _ _ _ st h=>wpAny_pyIter_keyiter st h
theorem rB {tg:Expr} {R:It->Hp->Prop} {a:Addr} {o:Obj} {kvs:List (Key×V)} {E:Value->Shared->Prop} (I:Inv X pins σ H s) (hH:H a=some (.fN o (.dK kvs))) (q:R (J7 a o kvs) H):wpAny (model X.prog X.w) X.A (pyIter (.ref a)) (PIE X pins σ tg R) E s:=by
 obtain ⟨ho,z,hm,vs,rel,dd⟩:=(show bF X.prog X.w H s.heap a (.fN o (.dK kvs)) from I.hok a _ hH)
 obtain ⟨o',es,ep,h1,h2,h3,h4⟩:=id dd
 rw [ho] at h1;cases h1
 have dat:s.heap.DictAt (aZ X.prog X.w) a vs ep:=⟨o,es,ho,h2,h3,h4⟩
 have hl:kvs.length=vs.length:=rel.length
 refine wpAny_pyIter_dict hm dat ?_
 refine ⟨s.heap.objs.size,[s.heap.objs.size],_,_,H,rfl,I.kept (t':=s.toks) fun b o e=>Heap.get?_push_of_some _ e,se a _ o kvs ep ⟨es,h3⟩,⟨_,Heap.get?_push_size _ rfl,rfl,by rw [hl];rfl⟩,fun b hb=>?_,q⟩
 have e:b=s.heap.objs.size:=by simpa using hb
 subst e
 exact I.pM (Nat.le_refl _) (I.hok.fresh (Nat.le_refl _))
theorem ED {tg l:Expr} {tl:TE} (hK:B.K=X.K) (hl:PE X l tl):PI X tg l (Jl B (Cd X) tl):=by
 intro pins s σ H R I h
 refine bT (hl pins s σ H _ I h) fun v s1 ⟨x,H1,I1,r1,q1⟩=>?_
 rw [hK] at q1
 rcases q1 with ⟨a,e,⟨xs,hq⟩,q⟩ | ⟨a,e,⟨xs,hq⟩,q⟩ | ⟨a,kvs,e,hq,q⟩ | ⟨a,o,kvs,e,hq,q⟩
 ·subst e
  cases r1
  obtain ⟨its,rv,p,hz⟩:=I1.list hq
  refine wpAny_pyIter_list p.isList ?_
  refine ⟨s1.heap.objs.size,[s1.heap.objs.size],_,_,H1,rfl,I1.kept (t':=s1.toks) fun b o e=>Heap.get?_push_of_some _ e,sd a _,⟨_,Heap.get?_push_size _ rfl,rfl,rfl⟩,fun b hb=>?_,q⟩
  have e:b=s1.heap.objs.size:=by simpa using hb
  subst e
  exact I1.pM (Nat.le_refl _) (I1.hok.fresh (Nat.le_refl _))
 ·subst e
  cases r1
  obtain ⟨its,rv,p,hz⟩:=I1.tuple hq
  refine wpAny_pyIter_tuple (show s1.heap.IsTuple a its.toArray from p) ?_
  refine ⟨s1.heap.objs.size,[s1.heap.objs.size],_,_,H1,rfl,I1.kept (t':=s1.toks) fun b o e=>Heap.get?_push_of_some _ e,oJ a _,⟨_,Heap.get?_push_size _ rfl,rfl,rfl⟩,fun b hb=>?_,q⟩
  have e:b=s1.heap.objs.size:=by simpa using hb
  subst e
  exact I1.pM (Nat.le_refl _) (I1.hok.fresh (Nat.le_refl _))
 ·subst e
  cases r1
  have ob:=(show bF X.prog X.w H1 s1.heap a (.dK kvs) from I1.hok a _ hq)
  obtain ⟨z,hm,vs,rel,dd⟩:=id ob
  obtain ⟨o,es,ep,h1,h2,h3,h4⟩:=id dd
  have th:Cd X a:=fun w u hz=>by
   have:=I1.base.fO a w u hz
   rw [hq] at this;cases this
  have I2:Inv X pins σ (upd H1 a (.fN o (.dK kvs))) s1:=I1.write (x:=a) (e:=a) (t':=s1.toks) (h':=s1.heap) (by rw [hq];trivial) (.inl rfl) (fun b u _ e=>e) ⟨o,h1⟩ ⟨h1,ob⟩
  exact rB I2 aL (q o th)
 ·subst e
  cases r1
  exact rB I1 hq q
theorem zM {o i value:Expr} {to ti tv:TE} {pos pos':Pos} (hu:Rm X) (ho:PE X o to) (hi:PE X i ti) (hv:PE X value tv) (hs:swapsWith value (some (.Subscript o i pos')) pos.line X.env=pure false) :
  PS X (.Assign [.Subscript o i pos'] value pos) (Cp to ti tv):=by
 intro pins s σ H D I h
 refine wpAny_Assign_Subscript (bT (hv pins s σ H _ I h) fun r s1 ⟨v,H1,I1,rv,q1⟩=>bT (ho pins s1 σ H1 _ I1 q1) fun u s2 ⟨x,H2,I2,rx,q2⟩=>bT (hi pins s2 σ H2 _ I2 q2) fun iv s3 ⟨y,H3,I3,ry,q3⟩=>?_) hs
 rcases q3 with q3 | ⟨a,H4,ex,g,q3⟩
 ·exact bT (set_list pins s3 σ H3 x y v u iv r _ I3 rx ry rv q3) fun _ s4 ⟨H4,I4,q4⟩=>⟨σ,H4,I4,q4⟩
 ·subst ex
  obtain rfl:u=Value.ref a:=rx
  exact sY (by unfold Rm at hu;omega) I3 g ry rv fun s4 I4=>⟨σ,H4,I4,q3⟩
end
end Fg
end
section
namespace Fg
open PySem PySem.Spec L2
noncomputable def TM (B:Bd) (Φ:cM) (E:Gx) (c:Es):L2.St->Hp->(Hp->Prop)->Prop:=fun σ H Q=>∃ (σD:Sg) (M:MH) (F:Addr->Prop) (ρ:List Addr),
 SR B F ρ M H/\RS B F ρ H σD σ/\ah (fun _ _ _ (_:Unit) (_:Unit)=>True) B (BK Φ c σD M) F ρ H (fun _ H'=>Q H') (fun cv x H'=>E.e cv x σ H')
section
variable {B:Bd} {Φ:cM} {E:Gx} {F F' F0 F1:Addr->Prop} {ρ ρ' ρ0 ρ1:List Addr} {H H' H0 H1:Hp} {M M' M0:MH} {σD:Sg} {σ:L2.St} {Dn:Ends}
theorem TM.nil {Q:Hp->Prop} (h:TM B Φ E .nil σ H Q):Q H:=by
 obtain ⟨σD,M,F,ρ,S,r,h⟩:=h
 simp only [BK] at h
 exact ah.run (v:=()) h S True.intro
theorem TM.cons {e:Fg.E} {es:Es} {Q:Hp->Prop} (h:TM B Φ E (.cons e es) σ H Q):T B Φ E e σ H fun v H1=>((∃ x:Str,v=.str x/\x.length<=100000)\/∃ i:Int,v=.int i/\i.natAbs<18446744073709551616)/\TM B Φ E es σ H1 Q:=by
 obtain ⟨σD,M,F,ρ,S,r,h⟩:=h
 simp only [BK] at h
 refine ⟨σD,M,F,ρ,S,r,ah.imp (ah.bind (rel:=RD B) h) fun v H1 ⟨x,M1,F1,ρ1,e1,S1,rx,h1⟩=>?_⟩
 split at h1
 ·rename_i hs
  cases x with
  | str y =>
   simp only [RD] at rx
   simp only [cY,decide_eq_true_eq] at hs
   exact ⟨.inl ⟨y,rx,hs⟩,σD,M1,F1,ρ1,S1,r.mono e1,h1⟩
  | aE=>simp [cY] at hs
  | bl _=>simp [cY] at hs
  | int i =>
   simp only [RD] at rx
   simp only [cY,decide_eq_true_eq] at hs
   exact ⟨.inr ⟨i,rx,hs⟩,σD,M1,F1,ρ1,S1,r.mono e1,h1⟩
  | tup _=>simp [cY] at hs
  | lst _=>simp [cY] at hs
  | dct _ _=>simp [cY] at hs
  | ref _=>simp [cY] at hs
 ·exact h1.elim
end
inductive PJ (X:Cx) (B:Bd) (Φ:cM) (E:Gx):List Expr->Es->Prop
 | nil:PJ X B Φ E [] .nil
 | lit {y:Str} {j:Nat} {p:Pos} {r:List Expr} {es:Es}:y.length<=100000->PJ X B Φ E r es->PJ X B Φ E (.Constant (.str y) j p::r) es
 | fld {v:Expr} {p:Pos} {r:List Expr} {e:Fg.E} {es:Es}:PE X v (T B Φ E e)->PJ X B Φ E r es->PJ X B Φ E (.FormattedValue v (-1) none p::r) (.cons e es)
theorem kM {i:Int} (h:i.natAbs<18446744073709551616):i.natAbs.log2<1920:=by
 by_cases h0:i.natAbs=0
 ·rw [h0];decide
 ·exact Nat.lt_of_lt_of_le ((Nat.log2_lt h0).mpr (show i.natAbs<2 ^ 64 from h)) (by decide)
theorem sS {i:Int} (h:i.natAbs<18446744073709551616):(Str.ofString (toString i)).length<=100000:=by
 have e:=int_text_length_le (k:=1920) (by decide) (kM h)
 rw [ofString_length];omega
section
variable {X:Cx} {B:Bd} {Φ:cM} {E:Gx}
theorem PJ.run {ps:List Expr} {es:Es} (h:PJ X B Φ E ps es):∀ {pins:List (Addr×Obj)} {s:Shared} {σ:L2.St} {H:Hp} {Q:Hp->Prop} {out:Str},Inv X pins σ H s->out.length+100000*ps.length<=sizeLine->TM B Φ E es σ H Q ->
  wpAny (model X.prog X.w) X.A (joinParts out (evalEach ps X.env)) (EP X pins σ fun v H'=>∃ y,v=.str y/\Q H') X.xe s:=by
 induction h with
 | nil =>
  intro pins s σ H Q out I hl q
  refine PyProof.Rows.joinParts_nil ⟨.str out,H,I.tok _,⟨_,rfl⟩,out,rfl,q.nil⟩ (by simpa using hl)
 | lit hy _ ih =>
  rename_i y j p r es _
  intro pins s σ H Q out I hl q
  simp only [List.length_cons] at hl
  refine PyProof.Rows.joinParts_cons ?_
  refine bT (oZ pins s σ H (fun v H'=>v=.str y/\H'=H) I ⟨rfl,rfl⟩) fun u s1 ⟨v,H1,I1,rv,e1,e2⟩=>?_
  subst e1 e2
  obtain ⟨t,rfl⟩:=rv
  have hlen:(out++y).length<=out.length+100000:=by rw [strLen_append];omega
  exact ⟨by omega,ih I1 (by omega) q⟩
 | fld hv _ ih =>
  intro pins s σ H Q out I hl q
  simp only [List.length_cons] at hl
  refine PyProof.Rows.joinParts_cons (PyProof.Rows.FormattedValue_plain ?_)
  refine bT (hv pins s σ H _ I q.cons) fun u s1 ⟨v,H1,I1,rv,e0,q1⟩=>?_
  rcases e0 with ⟨x,e1,e2⟩ | ⟨i,e1,e2⟩
  ·subst e1
   obtain ⟨t,rfl⟩:=rv
   refine PyProof.Rows.formatField_str (fun t' tk=>?_) (by omega)
   have hlen:(out++x).length<=out.length+100000:=by rw [strLen_append];omega
   exact ⟨by omega,ih (I1.tok tk) (by omega) q1⟩
  ·subst e1
   obtain ⟨t,rfl⟩:=rv
   refine PyProof.Rows.formatField_int_small (kM e2) ?_
   have hlen:(out++Str.ofString (toString i)).length<=out.length+100000:=by rw [strLen_append];have:=sS e2;omega
   exact ⟨by omega,ih (I1.tok _) (by omega) q1⟩
theorem EK {ps:List Expr} {es:Es} {pos:Pos} (h:PJ X B Φ E ps es) (h2:2<=ps.length) (hl:ps.length<=100):PE X (.JoinedStr ps pos) (fun σ H Q=>TM B Φ E es σ H fun H'=>∀ y:Str,Q (.str y) H'):=by
 intro pins s σ H Q I q
 match ps,h2,h,hl with
 | v₁::v₂::rest,_,h,hl =>
  refine PyProof.Rows.JoinedStr_many ?_
  refine wpAny_mono (h.run (Q:=fun H'=>∀ y:Str,Q (.str y) H') I (by
   show 0+100000*(v₁::v₂::rest).length<=2 ^ 24
   omega) q) (fun u s1 ⟨v,H1,I1,rv,y,e,q1⟩=>⟨v,H1,I1,rv,by rw [e];exact q1 y⟩) fun _ _ z=>z
end
section
variable {B:Bd} {Φ:cM} {E:Gx} {F F' F0 F1:Addr->Prop} {ρ ρ' ρ0 ρ1:List Addr} {H H' H0 H1:Hp} {M M' M0:MH} {σD:Sg} {σ:L2.St} {Dn:Ends}
theorem kC {c:Nat} {es:Es} {C:Addr} (hc:B.exc c (.ref C)) (h:TC B Φ E (.raise c es) Dn σ H):TM B Φ E es σ H fun H'=>E.e (.ref C) none σ H':=by
 obtain ⟨σD,M,F,ρ,S,r,h⟩:=h
 simp only [ex] at h
 refine ⟨σD,M,F,ρ,S,r,ah.imp (bE.use (rel:=fun _ _ _ (_:Unit) (_:Unit)=>True) r h) fun v H1 ⟨x,M1,F1,ρ1,e,S1,rx,h1⟩=>?_⟩
 exact bE.run h1 S1 σ _ none (r.mono e) hc
noncomputable def Hq (B:Bd) (Φ:cM) (E:Gx) (adr:Nat->Option Addr):Hs->Option (List (Addr×TS))
 | .nil=>some []
 | .cons [c] b hs=>match adr c,Hq B Φ E adr hs with
  | some C,some r=>some ((C,xN B Φ E b)::r)
  | _,_=>none
 | .cons _ _ _=>none
theorem qp {adr:Nat->Option Addr} {mro:List Value} {c:Nat} (hsub:∀ d D,adr d=some D->mro.contains (.ref D)=Φ.sub c d):∀ {hs:Hs} {rs:List (Addr×TS)},Hq B Φ E adr hs=some rs->SR B F ρ M H->RS B F ρ H σD σ->bE B (BI Φ hs c σD M) F ρ H Dn E ->
  ∃ t,pick mro rs=some t/\t Dn σ H
 | .nil,rs,h,S,r,p=>by simp only [BI] at p;exact p.elim
 | .cons cs b hs,rs,h,S,r,p=>by
  unfold Hq at h
  split at h
  ·rename_i heq;cases heq
  ·rename_i c' b' hs' heq
   cases heq
   split at h
   ·rename_i C r' hC hr
    cases h
    simp only [BI,List.any_cons,List.any_nil,Bool.or_false] at p
    simp only [pick,hsub _ _ hC]
    split at p
    ·rename_i hq
     rw [if_pos hq]
     exact ⟨_,rfl,σD,M,F,ρ,S,r,p⟩
    ·rename_i hq
     rw [if_neg hq]
     exact qp hsub hr S r p
   ·cases h
  ·cases h
end
end Fg
end
section
namespace Fg
open PySem PySem.Spec L2
noncomputable def iX (l:Bool) (h:Heap) (it a:Addr) (k:Nat):Prop:=match l with | true=>h.IsListIter it a k | false=>h.IsTupleIter it a k
noncomputable def eV (l:Bool) (h:Heap) (a:Addr) (xs:Array Value):Prop:=match l with | true=>h.IsList a xs | false=>h.IsTuple a xs
theorem iX.at {l:Bool} {h h':Heap} {it a:Addr} {k:Nat} (x:iX l h it a k) (e:∀ o,h.get? it=some o->h'.get? it=some o):iX l h' it a k:=by
 cases l <;> (obtain ⟨o,h1,h2⟩:=x;exact ⟨o,e o h1,h2⟩)
theorem eV.at {l:Bool} {h h':Heap} {a:Addr} {xs:Array Value} (x:eV l h a xs) (e:∀ o,h.get? a=some o->h'.get? a=some o):eV l h' a xs:=by
 cases l <;> (obtain ⟨o,h1,h2⟩:=x;exact ⟨o,e o h1,h2⟩)
section
variable {prog:Program} {w:World} {A:Around} {E:Value->Shared->Prop} {s:Shared}
theorem uh {it t:Addr} {i:Nat} {xs:Array Value} {v:Value} {Q:Value->Shared->Prop} (sP:s.heap.IsTupleIter it t i) (tp:s.heap.IsTuple t xs) (hv:xs[i]? = some v)
  (k:∀ h',h'.IsTupleIter it t (i+1)->Heap.SameBut it s.heap h'->Q v { s with heap:=h' }):wpAny (model prog w) A (Builtin.SmallTypes.nextOf (.ref it)) Q E s:=by
 obtain ⟨oi,gi,ci,di⟩:=id sP
 obtain ⟨ot,gt,_,nt,dt⟩:=tp
 unfold Builtin.SmallTypes.nextOf;refine wpAny_bind (wpAny_callSpecial?_slot (name:=Str.ofString "__next__") sP.typeIs F.slot_tuple_iterator_next (wpAny_call_entry F.slot_tuple_iterator_next sP.typeIs F.entry_tuple_iterator_next ?_ (F.args_tuple_iterator_next_1 _)))
 show wpAny _ _ (field (.ref it) 0 >>= _) _ _ s;refine wpAny_bind (wpAny_field gi di (x:=.ref t) rfl ?_)
 show wpAny _ _ (if (Value.ref t == Value.none)=true then _ else _) _ _ s;rw [if_neg (show ¬ ((Value.ref t == Value.none)=true) from Bool.false_ne_true)]
 show wpAny _ _ (field (.ref it) 1 >>= _) _ _ s;refine wpAny_bind (wpAny_field gi di (x:=.int i 0) rfl ?_)
 show wpAny _ _ (seqItems? (.ref t) >>= _) _ _ s;refine wpAny_bind (wpAny_seqItems gt dt ?_)
 simp only [Int.toNat_natCast,hv];refine wpAny_bind (wpAny_setField gi di (by simp) (wpAny_pure ⟨v,rfl,wpAny_pure (k _ ?_ (Heap.SameBut.update ..))⟩))
 exact ⟨_,Heap.get?_update_self _ gi (Obj.isFreed_of_fields (Obj.data_mapFields di _)),(Obj.cls_mapFields ..).trans ci,by rw [Obj.data_mapFields di];simp [rawInt]⟩
theorem ug {it t:Addr} {i:Nat} {xs:Array Value} {Q:Value->Shared->Prop} (hh:A.handled=none) (sP:s.heap.IsTupleIter it t i) (tp:s.heap.IsTuple t xs) (hv:xs[i]? = none)
  (k:∀ h' e, Heap.ExtBut it s.heap h'->(∃ o, h'.get? e=some o/\o.cls=.type "StopIteration")->E (.ref e) { s with heap:=h' }):wpAny (model prog w) A (Builtin.SmallTypes.nextOf (.ref it)) Q E s:=by
 obtain ⟨oi,gi,ci,di⟩:=id sP
 obtain ⟨ot,gt,_,nt,dt⟩:=tp
 unfold Builtin.SmallTypes.nextOf;refine wpAny_bind (wpAny_callSpecial?_slot (name:=Str.ofString "__next__") sP.typeIs F.slot_tuple_iterator_next (wpAny_call_entry F.slot_tuple_iterator_next sP.typeIs F.entry_tuple_iterator_next ?_ (F.args_tuple_iterator_next_1 _)))
 show wpAny _ _ (field (.ref it) 0 >>= _) _ _ s;refine wpAny_bind (wpAny_field gi di (x:=.ref t) rfl ?_)
 show wpAny _ _ (if (Value.ref t == Value.none)=true then _ else _) _ _ s;rw [if_neg (show ¬ ((Value.ref t == Value.none)=true) from Bool.false_ne_true)]
 show wpAny _ _ (field (.ref it) 1 >>= _) _ _ s;refine wpAny_bind (wpAny_field gi di (x:=.int i 0) rfl ?_)
 show wpAny _ _ (seqItems? (.ref t) >>= _) _ _ s;refine wpAny_bind (wpAny_seqItems gt dt ?_)
 simp only [Int.toNat_natCast,hv];refine wpAny_bind (wpAny_rule (wpAny_bind (wpAny_setField gi di (by simp) ?_)))
 show wpAny _ _ (newExc (.type "StopIteration") [] >>= _) _ _ _;refine wpAny_bind ?_
 simp only [newExc,newTuple];refine wpAny_bind (wpAny_newObj_type ?_ (by size_fits))
 refine wpAny_bind (m:=firstArgMember _ _) (wpAny_of_eq (a:=Value.none) (by first | rfl | (simp only [firstArgMember];rfl)) ?_);refine wpAny_newObj_type ?_ (by size_fits)
 simp only [raiseNew];refine wpAny_bind (wpAny_handled ?_)
 first | rw [show A.in1.handled=none from hh] | rw [hh]
 refine wpAny_bind (wpAny_pure (wpAny_throw ?_));exact k _ _ (((Heap.SameBut.update ..).extBut.push _).push _) ⟨_,Heap.get?_push_size _ rfl,rfl⟩
theorem ly {l:Bool} {it a:Addr} {i:Nat} {xs:Array Value} {v:Value} {Q:Value->Shared->Prop} (sP:iX l s.heap it a i) (sq:eV l s.heap a xs) (hv:xs[i]? = some v)
  (k:∀ h',iX l h' it a (i+1)->Heap.SameBut it s.heap h'->Q v { s with heap:=h' }):wpAny (model prog w) A (Builtin.SmallTypes.nextOf (.ref it)) Q E s:=by
 cases l with
 | true=>exact wpAny_nextOf_list_item sP sq hv k
 | false=>exact uh sP sq hv k
theorem qg {l:Bool} {it a:Addr} {i:Nat} {xs:Array Value} {Q:Value->Shared->Prop} (hh:A.handled=none) (sP:iX l s.heap it a i) (sq:eV l s.heap a xs) (hv:xs[i]? = none)
  (k:∀ h' e, Heap.ExtBut it s.heap h'->(∃ o, h'.get? e=some o/\o.cls=.type "StopIteration")->E (.ref e) { s with heap:=h' }):wpAny (model prog w) A (Builtin.SmallTypes.nextOf (.ref it)) Q E s:=by
 cases l with
 | true=>exact wpAny_nextOf_list_end hh sP sq hv k
 | false=>exact ug hh sP sq hv k
structure Zp (l m:Bool) (h:Heap) (z TI TO i j a b:Addr) (n:Nat) (xs ys:Array Value) (f:Value):Prop where
 z:IsZip h z TI TO f
 ti:IsPair h TI (.ref i) (.ref j)
 to:∃ u v,IsPair h TO u v
 i1:iX l h i a n
 i2:iX m h j b n
 s1:eV l h a xs
 s2:eV m h b ys
theorem tW {l m:Bool} {z TI TO i j a b:Addr} {n:Nat} {xs ys:Array Value} {x y:Value} {Q:Value->Shared->Prop} (D:ZipApart z TI TO i j a b) (Z:Zp l m s.heap z TI TO i j a b n xs ys .none) (hx:xs[n]? = some x) (hy:ys[n]? = some y)
  (k:∀ h',Zp l m h' z TI TO i j a b (n+1) xs ys (rawInt s.heap.objs.size)->IsPair h' s.heap.objs.size x y->h'.objs.size=s.heap.objs.size+1->(∀ c o,c≠z->c≠TO->c≠i->c≠j->s.heap.get? c=some o->h'.get? c=some o)->Q (.ref s.heap.objs.size) { s with heap:=h' }) :
  wpAny (model prog w) A (Builtin.«zip.__next__» ⟨[.ref z], []⟩) (fun fin s'=>∃ v, fin=.done (.ret v)/\Q v s') E s:=by
 obtain ⟨gz,gi,⟨u,v,go⟩,t1,t2,q1,q2⟩:=Z
 show wpAny _ _ (field (.ref z) 2 >>= _) _ _ _;refine wpAny_bind (wpAny_field gz rfl (x:=.bool false) rfl ?_)
 show wpAny _ _ (field (.ref z) 3 >>= _) _ _ _;refine wpAny_bind (wpAny_field gz rfl (x:=.ref TI) rfl (wpAny_bind (wpAny_seqItems gi rfl ?_)))
 show wpAny _ _ (Builtin.SmallTypes.ownedTupleIsFree (.ref z) >>= _) _ _ _;refine wpAny_bind ?_
 unfold Builtin.SmallTypes.ownedTupleIsFree;refine wpAny_bind (wpAny_field gz rfl (x:=.none) rfl (wpAny_pure ?_))
 simp only [if_true];refine wpAny_bind (wpAny_rule (wpAny_bind (wpAny_field gz rfl (x:=.ref TO) rfl (wpAny_bind (wpAny_setField_rec gz (by simp) fun h1 z1 b1=>?_)))))
 replace z1:IsZip h1 z TI TO .ellipsis:=z1
 refine wpAny_bind ?_;simp only [List.zipIdx_cons,List.zipIdx_nil,List.forIn_cons,List.forIn_nil]
 refine wpAny_bind (wpAny_bind (wpAny_onRaise ?_));show wpAny _ _ (Builtin.SmallTypes.nextOf (.ref i) >>= _) _ _ _
 refine wpAny_bind (ly (t1.at fun o e=>b1.extBut _ _ D.i1z e) (q1.at fun o e=>b1.extBut _ _ D.l1z e) hx fun h2 t1' b2=>wpAny_pure ?_)
 have go2:IsPair h2 TO u v:=b2.extBut _ _ D.TOi1 (b1.extBut _ _ D.TOz go)
 refine wpAny_bind (wpAny_seqItems go2 rfl (wpAny_bind (wpAny_updateSeq_pair go2 fun h3 KY b3=>wpAny_bind (wpAny_letGo (wpAny_pure ?_)))))
 replace KY:IsPair h3 TO x v:=KY
 refine wpAny_bind (wpAny_bind (wpAny_onRaise ?_));show wpAny _ _ (Builtin.SmallTypes.nextOf (.ref j) >>= _) _ _ _
 refine wpAny_bind (ly (t2.at fun o e=>b3.extBut _ _ D.TOi2.symm (b2.extBut _ _ D.i12.symm (b1.extBut _ _ D.i2z e))) (q2.at fun o e=>b3.extBut _ _ D.l2TO (b2.extBut _ _ D.l2i1 (b1.extBut _ _ D.l2z e))) hy fun h4 t2' b4=>wpAny_pure ?_)
 have go4:IsPair h4 TO x v:=b4.extBut _ _ D.TOi2 KY
 refine wpAny_bind (wpAny_seqItems go4 rfl (wpAny_bind (wpAny_updateSeq_pair go4 fun h5 KW b5=>wpAny_bind (wpAny_letGo (wpAny_pure (wpAny_pure ?_))))))
 replace KW:IsPair h5 TO x y:=KW
 refine wpAny_bind (wpAny_seqItems KW rfl (wpAny_bind (wpAny_newTuple ?_)))
 have sz:h5.objs.size=s.heap.objs.size:=by rw [b5.1,b4.1,b3.1,b2.1,b1.1]
 have z5:IsZip h5 z TI TO .ellipsis:=b5.extBut _ _ D.TOz.symm (b4.extBut _ _ D.i2z.symm (b3.extBut _ _ D.TOz.symm (b2.extBut _ _ D.i1z.symm z1)))
 have k5:∀ c o,c≠z->c≠TO->c≠i->c≠j->s.heap.get? c=some o->h5.get? c=some o:=fun c o c1 c2 c3 c4 e=>b5.extBut _ _ c2 (b4.extBut _ _ c4 (b3.extBut _ _ c2 (b2.extBut _ _ c3 (b1.extBut _ _ c1 e))))
 have e1:iX l h5 i a (n+1):=t1'.at fun o e=>b5.extBut _ _ D.TOi1.symm (b4.extBut _ _ D.i12 (b3.extBut _ _ D.TOi1.symm e))
 have e2:iX m h5 j b (n+1):=t2'.at fun o e=>b5.extBut _ _ D.TOi2.symm e
 show wpAny _ _ (Builtin.SmallTypes.ownedTupleHandOut (.ref z) (.ref h5.objs.size) >>= _) _ _ _;refine wpAny_bind ?_
 unfold Builtin.SmallTypes.ownedTupleHandOut
 have z6:IsZip (h5.push { cls:=.type "tuple", data:=.seq #[x, y] }) z TI TO .ellipsis:=Heap.get?_push_of_some _ z5
 refine wpAny_bind (wpAny_setField_rec z6 (by simp) fun h7 z7 b7=>?_)
 replace z7:IsZip h7 z TI TO (rawInt h5.objs.size):=z7
 refine wpAny_setField_rec z7 (by simp) fun h8 z8 b8=>?_
 replace z8:IsZip h8 z TI TO (rawInt h5.objs.size):=z8
 have zl:z<h5.objs.size:=Heap.lt_size z5
 have up:∀ c o,c≠z->h5.get? c=some o->h8.get? c=some o:=fun c o c1 e=>b8.extBut _ _ c1 (b7.extBut _ _ c1 (Heap.get?_push_of_some _ e))
 have p8:IsPair h8 h5.objs.size x y:=b8.extBut _ _ (Nat.ne_of_gt zl) (b7.extBut _ _ (Nat.ne_of_gt zl) (Heap.get?_push_size _ rfl))
 have s8:h8.objs.size=h5.objs.size+1:=by rw [b8.1,b7.1,Heap.size_push]
 rw [sz] at z8 p8 s8
 refine wpAny_pure ⟨_,rfl,?_⟩
 show Q (.ref h5.objs.size) _
 rw [sz]
 exact k h8 ⟨z8,up _ _ D.TIz (k5 _ _ D.TIz D.TITO D.TIi1 D.TIi2 gi),⟨_,_,up _ _ D.TOz KW⟩,e1.at fun o e=>up _ _ D.i1z e,e2.at fun o e=>up _ _ D.i2z e,q1.at fun o e=>up _ _ D.l1z (k5 _ _ D.l1z D.l1TO D.l1i1 D.l1i2 e),q2.at fun o e=>up _ _ D.l2z (k5 _ _ D.l2z D.l2TO D.l2i1 D.l2i2 e)⟩ p8 s8 fun c o c1 c2 c3 c4 e=>up c o c1 (k5 c o c1 c2 c3 c4 e)
theorem tU {l m:Bool} {z TI TO i j a b:Addr} {n:Nat} {xs ys:Array Value} {Q:PySem.Fin->Shared->Prop} (hh:A.handled=none) (D:ZipApart z TI TO i j a b) (Z:Zp l m s.heap z TI TO i j a b n xs ys .none) (hn:xs[n]? = none\/ys[n]? = none)
  (k:∀ h' e, (∀ c o, c≠z->c≠TO->c≠i->c≠j->s.heap.get? c=some o->h'.get? c=some o)->(∃ o, h'.get? e=some o/\o.cls=.type "StopIteration")->E (.ref e) { s with heap:=h' }) :
  wpAny (model prog w) A (Builtin.«zip.__next__» ⟨[.ref z], []⟩) Q E s:=by
 obtain ⟨gz,gi,⟨u,v,go⟩,t1,t2,q1,q2⟩:=Z
 show wpAny _ _ (field (.ref z) 2 >>= _) _ _ _;refine wpAny_bind (wpAny_field gz rfl (x:=.bool false) rfl ?_)
 show wpAny _ _ (field (.ref z) 3 >>= _) _ _ _;refine wpAny_bind (wpAny_field gz rfl (x:=.ref TI) rfl (wpAny_bind (wpAny_seqItems gi rfl ?_)))
 show wpAny _ _ (Builtin.SmallTypes.ownedTupleIsFree (.ref z) >>= _) _ _ _;refine wpAny_bind ?_
 unfold Builtin.SmallTypes.ownedTupleIsFree;refine wpAny_bind (wpAny_field gz rfl (x:=.none) rfl (wpAny_pure ?_))
 simp only [if_true];refine wpAny_bind (wpAny_rule (wpAny_bind (wpAny_field gz rfl (x:=.ref TO) rfl (wpAny_bind (wpAny_setField_rec gz (by simp) fun h1 z1 b1=>?_)))))
 replace z1:IsZip h1 z TI TO .ellipsis:=z1
 refine wpAny_bind ?_;simp only [List.zipIdx_cons,List.zipIdx_nil,List.forIn_cons,List.forIn_nil]
 refine wpAny_bind (wpAny_bind (wpAny_onRaise ?_));show wpAny _ _ (Builtin.SmallTypes.nextOf (.ref i) >>= _) _ _ _
 have off:∀ {h:Heap} {e:Addr}, IsZip h z TI TO .ellipsis->(∃ o, h.get? e=some o/\o.cls=.type "StopIteration")->e≠z:=fun g ⟨o, g1, g2⟩ q=>by subst q;rw [g] at g1;cases g1;simp at g2
 cases hx:xs[n]? with
 | none =>
  refine wpAny_bind (qg hh (t1.at fun o e=>b1.extBut _ _ D.i1z e) (q1.at fun o e=>b1.extBut _ _ D.l1z e) hx fun h2 e b2 he=>?_)
  have z2:IsZip h2 z TI TO .ellipsis:=b2 _ _ D.i1z.symm z1
  obtain ⟨oe,he1,he2⟩:=id he
  exact wpAny_setField_rec z2 (by simp) fun h3 _ b3=>k h3 e (fun c o c1 _ c3 _ q=>b3.extBut _ _ c1 (b2 _ _ c3 (b1.extBut _ _ c1 q))) ⟨oe,b3.extBut _ _ (off z2 he) he1,he2⟩
 | some x =>
  have hy:ys[n]? = none:=hn.resolve_left (by rw [hx];simp)
  refine wpAny_bind (ly (t1.at fun o e=>b1.extBut _ _ D.i1z e) (q1.at fun o e=>b1.extBut _ _ D.l1z e) hx fun h2 t1' b2=>wpAny_pure ?_)
  have go2:IsPair h2 TO u v:=b2.extBut _ _ D.TOi1 (b1.extBut _ _ D.TOz go)
  refine wpAny_bind (wpAny_seqItems go2 rfl (wpAny_bind (wpAny_updateSeq_pair go2 fun h3 KY b3=>wpAny_bind (wpAny_letGo (wpAny_pure ?_)))))
  refine wpAny_bind (wpAny_bind (wpAny_onRaise ?_));show wpAny _ _ (Builtin.SmallTypes.nextOf (.ref j) >>= _) _ _ _
  refine wpAny_bind (qg hh (t2.at fun o e=>b3.extBut _ _ D.TOi2.symm (b2.extBut _ _ D.i12.symm (b1.extBut _ _ D.i2z e))) (q2.at fun o e=>b3.extBut _ _ D.l2TO (b2.extBut _ _ D.l2i1 (b1.extBut _ _ D.l2z e))) hy fun h4 e b4 he=>?_)
  have z4:IsZip h4 z TI TO .ellipsis:=b4 _ _ D.i2z.symm (b3.extBut _ _ D.TOz.symm (b2.extBut _ _ D.i1z.symm z1))
  obtain ⟨oe,he1,he2⟩:=id he
  exact wpAny_setField_rec z4 (by simp) fun h5 _ b5=>k h5 e (fun c o c1 c2 c3 c4 q=>b5.extBut _ _ c1 (b4 _ _ c4 (b3.extBut _ _ c2 (b2.extBut _ _ c3 (b1.extBut _ _ c1 q))))) ⟨oe,b5.extBut _ _ (off z4 he) he1,he2⟩
end
end Fg
end
section
namespace Fg
open PySem PySem.Spec L2
section
variable {X:Cx} {pins:List (Addr×Obj)} {σ:L2.St} {H:Hp} {s:Shared} {h':Heap}
theorem Cb {t':Nat} {ch:List Addr} (I:Inv X pins σ H s) (f:∀ b∈ch,iI X pins H b) (k:∀ b o,b∉ch->s.heap.get? b=some o->h'.get? b=some o):Inv X pins σ H { s with heap:=h',toks:=t' }:=by
 have off:∀ b u,H b=some u->b∉ch:=fun b u e z=>by rw [(f b z).1] at e;cases e
 refine I.step (g':=s.gens) (d':=s.drawn) (ch:=ch) (fun b hb=>?_) (fun b o _ _ hc e _=>k b o hc e) (fun b o _ _ hc e _=>⟨o.slots,k b o hc e⟩) (fun _ _ _ _ n=>n) (fun b o hc e=>⟨o,k b o hc e⟩) (fun _ _ e=>e) (fun _ _ _ e=>e) (fun b ps e=>⟨#[],by rw [e];simp⟩) (fun m hm=>?_) (fun b u e=>?_) I.bare
 ·obtain ⟨_,f1,_,f3,f4,f5⟩:=f b hb
  exact ⟨f3,f1,f4,f5⟩
 ·obtain ⟨o,es,ep,ho,r⟩:=hm
  exact ⟨o,es,ep,k _ o (fun z=>(f _ z).2.1 rfl) ho,r⟩
 ·refine (I.hok b u e).stay (fun c v hc q=>k c v ?_ q) (fun _ q=>q) fun _ _ q=>q
  rcases hc with z | z
  ·rw [z];exact off b u e
  ·exact off c _ z
theorem Hz {a:Addr} {o:HO} (I:Inv X pins σ H s) (f:iI X pins H a) (new:bF X.prog X.w (upd H a o) s.heap a o):Inv X pins σ (upd H a o) s:=by
 obtain ⟨f0,f1,f2,f3,f4,f5⟩:=f
 have ne:∀ b u,H b=some u->b≠a:=fun b u e z=>by rw [z,f0] at e;cases e
 refine I.step (g':=s.gens) (d':=s.drawn) (t':=s.toks) (h':=s.heap) (ch:=[a]) (fun b hb=>?_) (fun b o _ _ _ e _=>e) (fun b o _ _ _ e _=>⟨o.slots,e⟩) (fun b o hc _ n=>by rw [ak (by simpa using hc)];exact n) (fun b o _ e=>⟨o,e⟩) (fun b xs e=>by rw [ak (ne b _ e)];exact e) (fun b o u e=>by rw [ak (ne b _ e)];exact e) (fun b ps e=>⟨#[],by rw [ak (ne b _ e),e];simp⟩) (fun m hm=>hm) (fun b u e=>?_) I.bare
 ·have e:b=a:=by simpa using hb
  subst e
  exact ⟨f3,f1,f4,f5⟩
 ·by_cases hb:b=a
  ·subst hb;rw [aL] at e;cases e;exact new
  ·rw [ak hb] at e
   exact (I.hok b u e).stay (fun c v _ q=>q) (fun c q=>by rw [ak (ne c _ q)];exact q) fun c xs q=>by rw [ak (ne c _ q)];exact q
end
noncomputable def yP (l:Bool) (a:Addr):Obj:={ cls:=.type (match l with | true=>"list_iterator" | false=>"tuple_iterator"), data:=.fields #[.ref a, .int 0 0] }
noncomputable abbrev Hv (h:Heap) (l m:Bool) (a b:Addr):Heap:=(h.push (yP l a)).push (yP m b)
noncomputable abbrev Hu (h:Heap) (l m:Bool) (a b:Addr):Heap:=(Hv h l m a b).push { cls:=.type "tuple", data:=.seq #[.ref h.objs.size, .ref (h.push (yP l a)).objs.size] }
noncomputable abbrev Ht (h:Heap) (l m:Bool) (a b:Addr):Heap:=(Hu h l m a b).push { cls:=.type "tuple", data:=.seq #[.none, .none] }
noncomputable abbrev B9 (h:Heap) (l m:Bool) (a b:Addr):Heap:=(Ht h l m a b).push { cls:=.type "zip", data:=.fields #[.none, .bool false, .bool false, .ref (Hv h l m a b).objs.size, .ref (Hu h l m a b).objs.size] }
set_option maxHeartbeats 4000000 in
theorem rY (l m:Bool) (a b:Addr) (xs ys:Array Value):Meets (Builtin.«zip.__new__» ⟨[.type "zip", .ref a, .ref b], []⟩) (fun _ R s=>eV l s.heap a xs/\eV m s.heap b ys/\R (.ok (.ret (.ref (Ht s.heap l m a b).objs.size))) { s with heap:=B9 s.heap l m a b }) :=
 .of_wp fun prog w A R s h=>by
  obtain ⟨hp,g,d,tk,os⟩:=s
  obtain ⟨q1,q2,h⟩:=h
  have hsub:=sub_zip
  have sy:eV m (hp.push (yP l a)) b ys:=q2.at fun o e=>Heap.get?_push_of_some _ e
  rcases l with _ | _ <;> rcases m with _ | _ <;> simp only [B9,Ht,Hu,Hv,yP] at h
  ·have u1:Heap.IsTuple (Shared.heap ⟨hp,g,d,tk,os⟩) a xs:=q1
   have u2:Heap.IsTuple (Shared.heap ⟨hp.push { cls:=.type "tuple_iterator", data:=.fields #[.ref a, .int 0 0] }, g, d, tk, os⟩) b ys:=sy
   wp_walk using wpAny_pyIter_tuple u1,wpAny_pyIter_tuple u2
   exact ⟨_,rfl,h⟩
  ·have u1:Heap.IsTuple (Shared.heap ⟨hp,g,d,tk,os⟩) a xs:=q1
   have u2:Heap.IsList (Shared.heap ⟨hp.push { cls:=.type "tuple_iterator", data:=.fields #[.ref a, .int 0 0] }, g, d, tk, os⟩) b ys:=sy
   wp_walk using wpAny_pyIter_tuple u1,wpAny_pyIter_list u2
   exact ⟨_,rfl,h⟩
  ·have u1:Heap.IsList (Shared.heap ⟨hp,g,d,tk,os⟩) a xs:=q1
   have u2:Heap.IsTuple (Shared.heap ⟨hp.push { cls:=.type "list_iterator", data:=.fields #[.ref a, .int 0 0] }, g, d, tk, os⟩) b ys:=sy
   wp_walk using wpAny_pyIter_list u1,wpAny_pyIter_tuple u2
   exact ⟨_,rfl,h⟩
  ·have u1:Heap.IsList (Shared.heap ⟨hp,g,d,tk,os⟩) a xs:=q1
   have u2:Heap.IsList (Shared.heap ⟨hp.push { cls:=.type "list_iterator", data:=.fields #[.ref a, .int 0 0] }, g, d, tk, os⟩) b ys:=sy
   wp_walk using wpAny_pyIter_list u1,wpAny_pyIter_list u2
   exact ⟨_,rfl,h⟩
structure Zt (l m:Bool) (z TI TO i j a b:Addr) (n:Nat) (h:Heap):Prop where
 z:IsZip h z TI TO .none
 ti:IsPair h TI (.ref i) (.ref j)
 to:∃ u v,IsPair h TO u v
 i1:iX l h i a n
 i2:iX m h j b n
section
variable {prog:Program} {w:World} {A:Around} {E:Value->Shared->Prop} {s:Shared}
theorem tY {l m:Bool} {a b:Addr} {xs ys:Array Value} {Q:Value->Shared->Prop} (q1:eV l s.heap a xs) (q2:eV m s.heap b ys)
  (k:∀ h',Zt l m (s.heap.objs.size+4) (s.heap.objs.size+2) (s.heap.objs.size+3) s.heap.objs.size (s.heap.objs.size+1) a b 0 h'->(∀ c o,s.heap.get? c=some o->h'.get? c=some o)->Q (.ref (s.heap.objs.size+4)) { s with heap:=h' }) :
  wpAny (model prog w) A (call (.type "zip") [.ref a, .ref b]) Q E s:=by
 refine callType_new F.called_zip (by decide) (F.typeCall_zip_2 _ _) (F.newCall_zip_2 _ _) (fun obj=>F.args_object_init_3 obj _ _) F.entry_zip_new (rY l m a b xs ys) ⟨q1,q2,?_⟩
 have n1:(s.heap.push (yP l a)).objs.size=s.heap.objs.size+1:=Heap.size_push ..
 have n2:(Hv s.heap l m a b).objs.size=s.heap.objs.size+2:=by rw [Heap.size_push,n1]
 have n3:(Hu s.heap l m a b).objs.size=s.heap.objs.size+3:=by rw [Heap.size_push,n2]
 have n4:(Ht s.heap l m a b).objs.size=s.heap.objs.size+4:=by rw [Heap.size_push,n3]
 have g5:(B9 s.heap l m a b).get? (Ht s.heap l m a b).objs.size=some _:=Heap.get?_push_size _ rfl
 have g4:(B9 s.heap l m a b).get? (Hu s.heap l m a b).objs.size=some _:=Heap.get?_push_of_some _ (Heap.get?_push_size _ rfl)
 have g3:(B9 s.heap l m a b).get? (Hv s.heap l m a b).objs.size=some _:=Heap.get?_push_of_some _ (Heap.get?_push_of_some _ (Heap.get?_push_size _ rfl))
 have g2:(B9 s.heap l m a b).get? (s.heap.push (yP l a)).objs.size=some (yP m b):=Heap.get?_push_of_some _ (Heap.get?_push_of_some _ (Heap.get?_push_of_some _ (Heap.get?_push_size _ rfl)))
 have g1:(B9 s.heap l m a b).get? s.heap.objs.size=some (yP l a):=Heap.get?_push_of_some _ (Heap.get?_push_of_some _ (Heap.get?_push_of_some _ (Heap.get?_push_of_some _ (Heap.get?_push_size _ rfl))))
 show _/\_
 rw [n2,n3,n4] at g5
 rw [n1,n2] at g3
 rw [n3] at g4
 rw [n1] at g2
 rw [n4]
 have mk:∀ (l:Bool) (it c:Addr),(B9 s.heap l m a b).get? it=some (yP l c)->True:=fun _ _ _ _=>trivial
 refine ⟨⟨_,g5,rfl⟩,k _ ⟨g5,g3,⟨_,_,g4⟩,?_,?_⟩ fun c o x=>Heap.get?_push_of_some _ (Heap.get?_push_of_some _ (Heap.get?_push_of_some _ (Heap.get?_push_of_some _ (Heap.get?_push_of_some _ x))))⟩
 ·cases l <;> exact ⟨_,g1,rfl,rfl⟩
 ·cases m <;> exact ⟨_,g2,rfl,rfl⟩
theorem tV {l m:Bool} {z TI TO i j a b:Addr} {n:Nat} {xs ys:Array Value} {x y:Value} {Q:Option Value->Shared->Prop} (D:ZipApart z TI TO i j a b) (Z:Zt l m z TI TO i j a b n s.heap) (q1:eV l s.heap a xs) (q2:eV m s.heap b ys) (hx:xs[n]? = some x) (hy:ys[n]? = some y)
  (k:∀ h',Zp l m h' z TI TO i j a b (n+1) xs ys (rawInt s.heap.objs.size)->IsPair h' s.heap.objs.size x y->h'.objs.size=s.heap.objs.size+1->(∀ c o,c≠z->c≠TO->c≠i->c≠j->s.heap.get? c=some o->h'.get? c=some o)->Q (some (.ref s.heap.objs.size)) { s with heap:=h' }) :
  wpAny (model prog w) A (pyNext (.ref z)) Q E s:=by
 have ty:s.TypeIs (.ref z) "zip":=⟨_, Z.z, rfl⟩
 unfold pyNext;exact wpAny_bind (wpAny_attempt (wpAny_callSpecial?_slot (name:=Str.ofString "__next__") ty F.slot_zip_next (wpAny_call_entry F.slot_zip_next ty F.entry_zip_next (tW D ⟨Z.z, Z.ti, Z.to, Z.i1, Z.i2, q1, q2⟩ hx hy fun h' c1 c2 c3 c4=>wpAny_pure (k h' c1 c2 c3 c4)) (F.args_zip_next_1 _))))
theorem tX {l m:Bool} {z TI TO i j a b:Addr} {n:Nat} {xs ys:Array Value} {Q:Option Value->Shared->Prop} (hh:A.handled=none) (D:ZipApart z TI TO i j a b) (Z:Zt l m z TI TO i j a b n s.heap) (q1:eV l s.heap a xs) (q2:eV m s.heap b ys) (hn:xs[n]? = none\/ys[n]? = none)
  (k:∀ h',(∀ c o,c≠z->c≠TO->c≠i->c≠j->s.heap.get? c=some o->h'.get? c=some o)->Q none { s with heap:=h' }):wpAny (model prog w) A (pyNext (.ref z)) Q E s:=by
 have ty:s.TypeIs (.ref z) "zip":=⟨_, Z.z, rfl⟩
 unfold pyNext;refine wpAny_bind (wpAny_attempt (wpAny_callSpecial?_slot (name:=Str.ofString "__next__") ty F.slot_zip_next (wpAny_call_entry F.slot_zip_next ty F.entry_zip_next (tU hh D ⟨Z.z, Z.ti, Z.to, Z.i1, Z.i2, q1, q2⟩ hn fun h' e hk he=>?_) (F.args_zip_next_1 _))))
 obtain ⟨o,ho,hc⟩:=he
 exact wpAny_bind (wpAny_isInstance (T:="StopIteration") (b:=true) ⟨o, ho, hc⟩ isSubtype_stop (wpAny_pure (k _ hk)))
end
noncomputable def oz (l:Bool) (K:W.Frag) (H:Hp) (a:Addr) (xs:List V):Prop:=match l with | true=>fU K H a xs | false=>iH K H a xs
theorem oz.at {l:Bool} {X:Cx} {pins:List (Addr×Obj)} {σ:L2.St} {H:Hp} {s:Shared} {a:Addr} {xs:List V} (I:Inv X pins σ H s) (q:oz l X.K H a xs):∃ its:List Value,Vals xs its/\eV l s.heap a its.toArray:=by
 cases l with
 | true=>obtain ⟨its,rv,p,_⟩:=I.list q;exact ⟨its,rv,p.isList⟩
 | false=>obtain ⟨its,rv,p,_⟩:=I.tuple q;exact ⟨its,rv,p⟩
theorem oz.inj {l:Bool} {X:Cx} {pins:List (Addr×Obj)} {σ:L2.St} {H:Hp} {s:Shared} {a:Addr} {xs ys:List V} (I:Inv X pins σ H s) (q:oz l X.K H a xs) (q':oz l X.K H a ys):xs=ys:=by
 cases l with
 | true=>exact I.jC q q'
 | false=>exact I.gY q q'
noncomputable def Itz (l m:Bool) (K:W.Frag) (a b:Addr):It :=
  ⟨fun i H=>∃ xs ys x y,oz l K H a xs/\oz m K H b ys/\xs[i]? = some x/\ys[i]? = some y,
   fun i H v H'=>∃ T x y,v=.ref T/\H T=none/\H'=upd H T (.tup [x,y])/\(∀ xs,oz l K H a xs->xs[i]? = some x)/\∀ ys,oz m K H b ys->ys[i]? = some y,
   fun i H=>∃ xs ys,oz l K H a xs/\oz m K H b ys/\(xs.length<=i\/ys.length<=i)⟩
theorem uf {P:Program} {w:World} {K:W.Frag} {elts:List Expr} {k1:Nat} {pos:Pos} {l m:Bool} {z TI TO i j a b:Addr} (D:ZipApart z TI TO i j a b):Turn P w K (.Tuple elts k1 pos) (Itz l m K a b) [z,TI,TO,i,j] z (fun n h=>Zt l m z TI TO i j a b n h) where
 mem:=by simp
 obj:=fun n h st c hc=>by
  obtain ⟨gz,gi,⟨u,v,go⟩,t1,t2⟩:=st
  simp only [List.mem_cons,List.not_mem_nil,or_false] at hc
  rcases hc with rfl | rfl | rfl | rfl | rfl
  ·exact ⟨_,gz,fun v e=>by cases (show Data.fields _=Data.cell v from e)⟩
  ·exact ⟨_,gi,fun v e=>by cases (show Data.seq _ _=Data.cell v from e)⟩
  ·exact ⟨_,go,fun v e=>by cases (show Data.seq _ _=Data.cell v from e)⟩
  ·cases l <;> (obtain ⟨o,e,c,d⟩:=t1;exact ⟨o,e,fun v z=>by rw [d] at z;cases z⟩)
  ·cases m <;> (obtain ⟨o,e,c,d⟩:=t2;exact ⟨o,e,fun v z=>by rw [d] at z;cases z⟩)
 keep:=fun n h h' st k=>by
  obtain ⟨gz,gi,⟨u,v,go⟩,t1,t2⟩:=st
  exact ⟨k z (by simp) _ gz,k TI (by simp) _ gi,⟨u,v,k TO (by simp) _ go⟩,t1.at fun o e=>k i (by simp) o e,t2.at fun o e=>k j (by simp) o e⟩
 item:=by
  intro X hP hw hK hc n pins s σ H E I hf st hg
  subst hP hw hK
  obtain ⟨xs,ys,x,y,q1,q2,hx,hy⟩:=hg
  obtain ⟨its,rv,p1⟩:=q1.at I
  obtain ⟨jts,rw_,p2⟩:=q2.at I
  obtain ⟨u,hu,ru⟩:=rv.get hx
  obtain ⟨v,hv,rv'⟩:=rw_.get hy
  have fT:iI X pins H s.heap.objs.size:=I.pM (Nat.le_refl _) (I.hok.fresh (Nat.le_refl _))
  refine tV D st p1 p2 (x:=u) (y:=v) (by simpa using hu) (by simpa using hv) fun h1 Z pT sz kp=>⟨_,rfl,?_⟩
  refine wpAny_letOwnedTupleGo_zip Z.z fun h2 z2 b2=>?_
  have zl:z<s.heap.objs.size:=Heap.lt_size st.z
  have keep:∀ c o,c∉[z,TO,i,j]->s.heap.get? c=some o->h2.get? c=some o:=fun c o hc e=>b2.extBut _ _ (fun q=>hc (by simp [q])) (kp c o (fun q=>hc (by simp [q])) (fun q=>hc (by simp [q])) (fun q=>hc (by simp [q])) (fun q=>hc (by simp [q])) e)
  have sub:∀ c∈[z,TO,i,j],c∈[z,TI,TO,i,j]:=fun c hc=>by simp at hc ⊢;rcases hc with q | q | q | q <;> simp [q]
  have I2:Inv X pins σ H { s with heap:=h2 }:=Cb (t':=s.toks) I (fun c hc=>hf c (sub c hc)) keep
  have gT:IsPair h2 s.heap.objs.size u v:=b2.extBut _ _ (Nat.ne_of_gt zl) pT
  have I3:Inv X pins σ (upd H s.heap.objs.size (.tup [x,y])) { s with heap:=h2 }:=Hz I2 fT ⟨by show 2<=2 ^ 24;decide,[u,v],.cons ru (.cons rv' .nil),⟨_,gT,rfl,_,rfl⟩⟩
  refine ⟨.ref s.heap.objs.size,_,I3,rfl,⟨_,x,y,rfl,fT.1,rfl,fun xs' q=>by rw [q.inj I q1];exact hx,fun ys' q=>by rw [q.inj I q2];exact hy⟩,⟨z2,b2.extBut _ _ D.TIz Z.ti,let ⟨u,v,g⟩:=Z.to;⟨u,v,b2.extBut _ _ D.TOz g⟩,Z.i1.at fun o e=>b2.extBut _ _ D.i1z e,Z.i2.at fun o e=>b2.extBut _ _ D.i2z e⟩,fun c hc=>?_⟩
  have lt:∀ c∈[z,TI,TO,i,j],c<s.heap.objs.size:=fun c hc=>by
   obtain ⟨gz,gi,⟨u,v,go⟩,t1,t2⟩:=id st
   simp only [List.mem_cons,List.not_mem_nil,or_false] at hc
   rcases hc with q | q | q | q | q <;> subst q
   ·exact zl
   ·exact Heap.lt_size gi
   ·exact Heap.lt_size go
   ·cases l <;> (obtain ⟨o,e,_⟩:=t1;exact Heap.lt_size e)
   ·cases m <;> (obtain ⟨o,e,_⟩:=t2;exact Heap.lt_size e)
  rw [ak (Nat.ne_of_lt (lt c hc))]
  exact (hf c hc).1
 done:=by
  intro X hP hw hK hc n pins s σ H E I hf st hg
  subst hP hw hK
  obtain ⟨xs,ys,q1,q2,hn⟩:=hg
  obtain ⟨its,rv,p1⟩:=q1.at I
  obtain ⟨jts,rw_,p2⟩:=q2.at I
  have l1:=rv.length
  have l2:=rw_.length
  refine tX (I.ok.hd hc) D st p1 p2 (hn.imp (fun q=>by simp;omega) fun q=>by simp;omega) fun h1 kp=>⟨rfl,?_⟩
  have sub:∀ c∈[z,TO,i,j],c∈[z,TI,TO,i,j]:=fun c hc=>by simp at hc ⊢;rcases hc with q | q | q | q <;> simp [q]
  exact Cb (t':=s.toks) I (fun c hc=>hf c (sub c hc)) fun c o hc e=>kp c o (fun q=>hc (by simp [q])) (fun q=>hc (by simp [q])) (fun q=>hc (by simp [q])) (fun q=>hc (by simp [q])) e
 self:=fun _ _ _ _ _ st h=>wpAny_pyIter_zip st.z h
noncomputable def Jk (K:W.Frag) (t:TA):TI:=fun σ H R=>t σ H fun vs H1=>∃ l m a b xs ys,vs=[.ref a,.ref b]/\oz l K H1 a xs/\oz m K H1 b ys/\R (Itz l m K a b) H1
theorem Cm {l:Bool} {h:Heap} {a:Addr} {xs:Array Value} (q:eV l h a xs):a<h.objs.size:=by
 cases l <;> (obtain ⟨o,e,_⟩:=q;exact Heap.lt_size e)
theorem xJ {n c d:Nat} (h1:c<n) (h2:d<n):ZipApart (n+4) (n+2) (n+3) n (n+1) c d:=by
 constructor <;> (intro (e:(_:Nat)=_);omega)
theorem EA {X:Cx} {a b:Expr} {t:TA} {p pos pt:Pos} {elts:List Expr} {k1:Nat} (hg:Gl X "zip") (hm:X.mg "zip" = none) (ha:PA X [a, b] t) (hs:starEach [a, b] X.env=[(false, eval a X.env), (false, eval b X.env)]) (hs2:starEach [b] X.env=[(false, eval b X.env)]) :
  PI X (.Tuple elts k1 pt) (.Call (.Name "zip" p) [a, b] [] pos) (Jk X.K t):=by
 intro pins s σ H R I h
 refine PyProof.Rows.Call_ (jD I hg hm (show bootBuiltins ("zip" : Str)=some (.type "zip") by decide +kernel) (PyProof.Rows.callWith_type1 (bT (ha pos pins s σ H _ I h) fun us s1 ⟨vs, H1, I1, r1, q1⟩=>?_) (by rw [hs, hs2]) (by rw [hs2];rfl)))
 obtain ⟨l,m,c,d,xs,ys,e,s1',s2',q⟩:=q1
 subst e
 cases r1 with
 | cons r rr =>
  cases rr with
  | cons r' rr =>
   cases rr
   cases r
   cases r'
   obtain ⟨its,rv,p1⟩:=s1'.at I1
   obtain ⟨jts,rw_,p2⟩:=s2'.at I1
   have c1:=Cm p1
   have c2:=Cm p2
   refine tY p1 p2 fun h' Z kp=>?_
   have I2:Inv X pins σ H1 { s1 with heap:=h' }:=I1.kept (t':=s1.toks) kp
   refine wpAny_pyIter_zip Z.z ⟨_,[s1.heap.objs.size+4,s1.heap.objs.size+2,s1.heap.objs.size+3,s1.heap.objs.size,s1.heap.objs.size+1],_,_,H1,rfl,I2,uf (xJ c1 c2),Z,fun x hx=>?_,q⟩
   have ge:s1.heap.objs.size<=x:=by
    simp only [List.mem_cons,List.not_mem_nil,or_false] at hx
    rcases hx with rfl | rfl | rfl | rfl | rfl
    ·exact Nat.le_add_right _ _
    ·exact Nat.le_add_right _ _
    ·exact Nat.le_add_right _ _
    ·exact Nat.le_refl _
    ·exact Nat.le_add_right _ _
   exact I1.pM ge (I1.hok.fresh ge)
section
variable {B:Bd} {Φ:cM} {E:Gx} {F F' F0 F1:Addr->Prop} {ρ ρ' ρ0 ρ1:List Addr} {H H' H0 H1:Hp} {M M' M0:MH} {σD:Sg} {σ:L2.St} {Q:VK} {Dn:Ends}
theorem rj {d:D} {v:V} {ds:List D} (h:j5 d=some ds) (r:RD B F ρ H d v):∃ l a vs,v=.ref a/\oz l B.K H a vs/\aj B F ρ H ds vs/\∀ F' ρ' H',Ext F ρ H F' ρ' H'->oz l B.K H' a vs/\aj B F' ρ' H' ds vs:=by
 cases d with
 | tup xs =>
  cases h
  have r0:=r
  simp only [RD] at r
  obtain ⟨a,vs,e,z,q⟩:=r
  refine ⟨false,a,vs,e,z.sq,q,fun F' ρ' H' ex=>⟨?_,aj.mono ex _ _ q⟩⟩
  rcases z with ⟨f,z⟩ | z
  ·exact .inl (ex.toExt0.Hj.rd f z)
  ·exact .inr z
 | lst xs =>
  cases h
  simp only [RD] at r
  obtain ⟨a,vs,e,z,q⟩:=r
  refine ⟨true,a,vs,e,z.sq,q,fun F' ρ' H' ex=>⟨?_,aj.mono ex _ _ q⟩⟩
  rcases z with ⟨f,z⟩ | z
  ·exact .inl (ex.toExt0.Hj.rd f z)
  ·exact .inr z
 | aE=>cases h
 | bl _=>cases h
 | int _=>cases h
 | str _=>cases h
 | dct _ _=>cases h
 | ref _=>cases h
theorem tT {ds es:List D} {i:Nat} {d:D} (h:(k8 ds es)[i]? = some d):∃ x y,ds[i]? = some x/\es[i]? = some y/\d=.tup [x,y]:=by
 unfold k8 at h
 rw [List.getElem?_map] at h
 cases hz:(ds.zip es)[i]? with
 | none=>rw [hz] at h;cases h
 | some p =>
  rw [hz] at h
  cases h
  obtain ⟨h1,h2⟩:=List.getElem?_zip_eq_some.mp hz
  exact ⟨p.1,p.2,h1,h2,rfl⟩
theorem zj {a b:Fg.E} {Rr:It->Hp->Prop} (h:Dz B Φ E (.zip a b) σ H Rr):Jk B.K (iJ (T B Φ E a) (iJ (T B Φ E b) oM)) σ H Rr:=by
 obtain ⟨σD,M,F,ρ,S,r,h⟩:=h
 show T B Φ E a σ H fun v H1=>T B Φ E b σ H1 fun w H2=>∃ l m c d xs ys,[v,w]=[.ref c,.ref d]/\oz l B.K H2 c xs/\oz m B.K H2 d ys/\Rr (Itz l m B.K c d) H2
 refine ⟨σD,M,F,ρ,S,r,?_⟩
 cases hx:ev Φ a σD M with
 | exc c M1 =>
  have he:cu Φ (.zip a b) σD M=.exc c M1:=by simp only [cu,hx,R.fJ]
  rw [he] at h;exact h
 | bad =>
  have he:cu Φ (.zip a b) σD M=.bad:=by simp only [cu,hx,R.gS]
  rw [he] at h;exact h
 | ok x M1 =>
  intro F1 ρ1 H1 v e1 S1 rx
  refine ⟨σD,M1,F1,ρ1,S1,r.mono e1,?_⟩
  cases hy:ev Φ b σD M1 with
  | exc c M2 =>
   have he:cu Φ (.zip a b) σD M=.exc c M2:=by simp only [cu,hx,hy,R.aD,R.fJ]
   rw [he] at h
   exact fun F' ρ' H' cv x e' S r=>h F' ρ' H' cv x (e1.trans e') S r
  | bad =>
   have he:cu Φ (.zip a b) σD M=.bad:=by simp only [cu,hx,hy,R.aD,R.gS]
   rw [he] at h;exact h.elim
  | ok y M2 =>
   intro F2 ρ2 H2 w e2 S2 ry
   have Ko:=RD.mono e2 _ _ rx
   cases hfx:j5 x with
   | none =>
    have he:cu Φ (.zip a b) σD M=.bad:=by simp [cu,hx,hy,hfx]
    rw [he] at h;exact h.elim
   | some ds =>
    cases hfy:j5 y with
    | none =>
     have he:cu Φ (.zip a b) σD M=.bad:=by simp [cu,hx,hy,hfx,hfy]
     rw [he] at h;exact h.elim
    | some es =>
     have he:cu Φ (.zip a b) σD M=.ok (.aE,k8 ds es,false) M2:=by simp [cu,hx,hy,hfx,hfy]
     rw [he] at h
     obtain ⟨l,c,xs,rfl,q1,rd1,k1⟩:=rj hfx Ko
     obtain ⟨m,d,ys,rfl,q2,rd2,k2⟩:=rj hfy ry
     refine ⟨l,m,c,d,xs,ys,rfl,q1,q2,h F2 ρ2 H2 _ (e1.trans e2) S2 fun M' hM S'=>?_⟩
     cases hM
     refine ⟨fun i F ρ M H ex S _=>⟨fun d0 hd=>?_,fun hl=>?_⟩,fun z=>by cases z⟩
     ·obtain ⟨u,v,hu,hv,rfl⟩:=tT hd
      obtain ⟨Kp,r1'⟩:=k1 _ _ _ ex
      obtain ⟨sy,r2'⟩:=k2 _ _ _ ex
      obtain ⟨u',De,ru⟩:=aj.get r1' hu
      obtain ⟨v',hv',rv⟩:=aj.get r2' hv
      refine ⟨⟨xs,ys,u',v',Kp,sy,De,hv'⟩,fun z H' hz=>?_⟩
      obtain ⟨T,x',y',rfl,hT,rfl,z1,z2⟩:=hz
      have ex':=z1 xs Kp
      have ey':=z2 ys sy
      rw [De] at ex'
      rw [hv'] at ey'
      cases ex'
      cases ey'
      obtain ⟨S3,e3⟩:=S.fz hT (.tup [u',v'])
      refine ⟨_,e3,S3,?_⟩
      simp only [RD]
      exact ⟨T,[u',v'],rfl,.inl ⟨.inr rfl,.inl aL⟩,aj.cons (RD.mono e3 _ _ ru) (aj.cons (RD.mono e3 _ _ rv) aj.nil)⟩
     ·obtain ⟨Kp,r1'⟩:=k1 _ _ _ ex
      obtain ⟨sy,r2'⟩:=k2 _ _ _ ex
      refine ⟨xs,ys,Kp,sy,?_⟩
      have h1:=aj.length r1'
      have h2:=aj.length r2'
      unfold k8 at hl
      simp only [List.length_map,List.length_zip] at hl
      omega
end
end Fg
end
section
namespace Fg
open PySem PySem.Spec L2
section
variable {B:Bd} {Φ:cM} {E:Gx} {F F' F0 F1:Addr->Prop} {ρ ρ' ρ0 ρ1:List Addr} {H H' H0 H1:Hp} {M M' M0:MH} {σD:Sg} {σ:L2.St} {Q:VK} {Dn:Ends}
end
end Fg
end
section
namespace Fg
open PySem PySem.Spec L2
section
variable {B:Bd} {Φ:cM} {E:Gx} {F F' F1:Addr->Prop} {ρ ρ' ρ1:List Addr} {H H' H1:Hp} {M M':MH} {σD:Sg} {σ:St} {Q:VK}
end
section
variable {X:Cx} {t:TA} {te ts:TE} {e st:Expr} {pos p2:Pos}
end
end Fg
end
section
namespace Fg
open PySem PySem.Spec L2
structure Gm where
 fns:List (Str×Nat×Nat)
 cst:List (Str×Nat)
 ou:List Str
 cls:List (Str×Nat×Nat×Nat):=[]
 Ff:List ((Nat×Str)×Nat×Nat):=[]
 Jy:List Str:=[]
 exc:List (Str×Nat):=[]
 GK:List (Str×Nat×Nat×Int):=[]
 rz:Bool:=true
inductive Nd where
 | e (a:Expr) (c:E)
 | t (a:Expr) (c:E)
 | es (a:List Expr) (c:Es)
 | o (a:Option Expr) (c:O)
 | i (a:Expr) (c:Src)
 | s (a:Stmt) (c:S)
 | ss (a:List Stmt) (c:Ss)
 | m (a:List Expr) (c:Es)
noncomputable def nD (x:Str):Bool:=!(x == ("__debug__" : Str))&&!(x == ("__classdict__" : Str))
noncomputable def DJ (sc:Scope) (x:Str):Bool:=match sc.names.lookup x with | some .local=>true | some .cell=>true | some .free=>true | _=>false
noncomputable def Bf (sc:Scope) (x:Str):Bool:=match sc.names.lookup x with | some .local=>true | some .cell=>true | _=>false
noncomputable def iU (sc:Scope) (x:Str):Bool:=match sc.names.lookup x with | some .globalImplicit=>true | _=>false
noncomputable def dO:Expr->Bool | .Starred _ _=>false | _=>true
noncomputable def ny:Expr->Bool | .ListComp _ _ _ _=>false | .SetComp _ _ _ _=>false | .DictComp _ _ _ _ _=>false | _=>true
noncomputable def vR:Expr->Bool | .Set _ _ _=>false | _=>true
noncomputable def nSl:Expr->Bool | .Slice _ _ _ _=>false | _=>true
noncomputable def o8:Expr->Bool | .UnaryOp _ _ _=>false | .BoolOp _ _ _=>false | .IfExp _ _ _ _=>false | .Compare _ _ _ _=>false | _=>true
noncomputable def Fe:Expr->Bool | .Call (.Name _ _) _ _ _=>false | _=>true
noncomputable def BP:Const->D->Bool
 | .int i,.int j=>decide (i=j)
 | .str x,.str y=>decide (x=y)
 | .bool a,.bl b=>decide (a=b)
 | .none,.aE=>true
 | _,_=>false
noncomputable def CU:Mt->Option Str
 | .pop=>some "pop" | _=>none
noncomputable def JW:Bl->Option Str
 | .len=>some "len" | .sum=>some "sum" | .tuple=>some "tuple" | .dict=>some "dict" | _=>none
noncomputable def uP (scope sc:Scope):Scope :=
 { scope with names:=scope.names.map fun (n,k)=>if (k == .free&&sc.kind == .function&&sc.names.lookup n == some .cell) then (n,.cell) else (n,k) }
noncomputable def Bg (sc:Scope) (x:Str):Bool:=match sc.names.lookup x with | some .local=>true | _=>false
theorem aU {P:Prop} (h:false=true):P:=Bool.noConfusion h
@[irreducible] noncomputable def eO (a:Expr) (k:Str->Bool):Bool:=match a with | .Name x _=>k x | _=>false
theorem b9 {a:Expr} {k:Str->Bool} (h:eO a k=true):∃ x p,a=.Name x p/\k x=true:=by
 unfold eO at h
 cases a <;> first | exact ⟨_,_,rfl,h⟩ | exact aU h
@[irreducible] noncomputable def kNm (a:Expr) (k:Str->Pos->Bool):Bool:=match a with | .Name x p=>k x p | _=>false
theorem Jc {a:Expr} {k:Str->Pos->Bool} (h:kNm a k=true):∃ x p,a=.Name x p/\k x p=true:=by
 unfold kNm at h
 cases a <;> first | exact ⟨_,_,rfl,h⟩ | exact aU h
@[irreducible] noncomputable def Bq (a:Expr) (k:Const->Bool):Bool:=match a with | .Constant c _ _=>k c | _=>false
theorem wu {a:Expr} {k:Const->Bool} (h:Bq a k=true):∃ c j p,a=.Constant c j p/\k c=true:=by
 unfold Bq at h
 cases a <;> first | exact ⟨_,_,_,rfl,h⟩ | exact aU h
@[irreducible] noncomputable def wj (a:Expr) (k:List Expr->Bool):Bool:=match a with | .Tuple as _ _=>k as | _=>false
theorem jF {a:Expr} {k:List Expr->Bool} (h:wj a k=true):∃ as c p,a=.Tuple as c p/\k as=true:=by
 unfold wj at h
 cases a <;> first | exact ⟨_,_,_,rfl,h⟩ | exact aU h
@[irreducible] noncomputable def F9 (a:Expr) (k:List Expr->Bool):Bool:=match a with | .List as _=>k as | _=>false
theorem F8 {a:Expr} {k:List Expr->Bool} (h:F9 a k=true):∃ as p,a=.List as p/\k as=true:=by
 unfold F9 at h
 cases a <;> first | exact ⟨_,_,rfl,h⟩ | exact aU h
@[irreducible] noncomputable def wo (a:Expr):Bool:=match a with | .Dict as bs _=>as.isEmpty&&bs.isEmpty | _=>false
theorem Bp {a:Expr} (h:wo a=true):∃ p,a=.Dict [] [] p:=by
 unfold wo at h
 cases a with
 | Dict as bs p =>
  cases as with
  | nil=>cases bs with
   | nil=>exact ⟨_,rfl⟩
   | cons _ _=>exact aU h
  | cons _ _=>exact aU h
 | _=>exact aU h
@[irreducible] noncomputable def Gh (a:Expr) (k:Expr->Operator->Expr->Bool):Bool:=match a with | .BinOp l p r _=>k l p r | _=>false
theorem Gg {a:Expr} {k:Expr->Operator->Expr->Bool} (h:Gh a k=true):∃ l o r p,a=.BinOp l o r p/\k l o r=true:=by
 unfold Gh at h
 cases a <;> first | exact ⟨_,_,_,_,rfl,h⟩ | exact aU h
@[irreducible] noncomputable def pH:UnaryOp->Bool | .USub=>true | _=>false
@[irreducible] noncomputable def qT:UnaryOp->Bool | .Not=>true | _=>false
@[irreducible] noncomputable def Jb (a:Expr) (k:UnaryOp->Expr->Bool):Bool:=match a with | .UnaryOp o l _=>k o l | _=>false
theorem wg {a:Expr} {k:UnaryOp->Expr->Bool} (h:Jb a k=true):∃ o l p,a=.UnaryOp o l p/\k o l=true:=by
 unfold Jb at h
 cases a <;> first | exact ⟨_,_,_,rfl,h⟩ | exact aU h
theorem wG {o:UnaryOp} (h:pH o=true):o=.USub:=by
 unfold pH at h
 cases o <;> first | rfl | exact aU h
theorem qS {o:UnaryOp} (h:qT o=true):o=.Not:=by
 unfold qT at h
 cases o <;> first | rfl | exact aU h
@[irreducible] noncomputable def iN:BoolOp->Bool | .And=>true | .Or=>false
theorem qU {o:BoolOp} (h:iN o=true):o=.And:=by
 unfold iN at h
 cases o <;> first | rfl | exact aU h
theorem wH {o:BoolOp} (h:iN o=false):o=.Or:=by
 unfold iN at h
 cases o <;> first | rfl | cases h
@[irreducible] noncomputable def G4 (a:Expr) (k:BoolOp->Expr->Expr->Bool):Bool:=match a with
 | .BoolOp o vs p=>(match vs with
  | v::ws=>(match ws with
   | w::r=>k o v (.BoolOp o (w::r) p)
   | []=>false)
  | []=>false)
 | _=>false
theorem qP {a:Expr} {k:BoolOp->Expr->Expr->Bool} (h:G4 a k=true):∃ o v w r p,a=.BoolOp o (v::w::r) p/\k o v (.BoolOp o (w::r) p)=true:=by
 unfold G4 at h
 cases a with
 | BoolOp o vs p =>
  cases vs with
  | nil=>exact aU h
  | cons v ws=>cases ws with
   | nil=>exact aU h
   | cons w r=>exact ⟨_,_,_,_,_,rfl,h⟩
 | _=>exact aU h
@[irreducible] noncomputable def qG (a:Expr) (k:Expr->Bool) (d:Bool):Bool:=match a with
 | .BoolOp _ vs _=>(match vs with
  | v::ws=>(match ws with
   | []=>k v
   | _::_=>d)
  | []=>d)
 | _=>d
theorem qF {a:Expr} {k:Expr->Bool} {d:Bool} (h:qG a k d=true):(∃ o v p,a=.BoolOp o [v] p/\k v=true)\/d=true:=by
 unfold qG at h
 cases a with
 | BoolOp o vs p =>
  cases vs with
  | nil=>exact .inr h
  | cons v ws=>cases ws with
   | nil=>exact .inl ⟨_,_,_,rfl,h⟩
   | cons w r=>exact .inr h
 | _=>exact .inr h
@[irreducible] noncomputable def k1 {α:Type} (as:List α) (k:α->Bool):Bool:=match as with | l::r=>r.isEmpty&&k l | []=>false
theorem ia {α:Type} {as:List α} {k:α->Bool} (h:k1 as k=true):∃ l,as=[l]/\k l=true:=by
 unfold k1 at h
 cases as with
 | nil=>exact aU h
 | cons l r=>cases r with
  | nil=>exact ⟨_,rfl,h⟩
  | cons _ _=>exact aU h
@[irreducible] noncomputable def k2 {α:Type} (as:List α) (k:α->α->Bool):Bool:=match as with | l::r=>k1 r (k l) | []=>false
theorem Bu {α:Type} {as:List α} {k:α->α->Bool} (h:k2 as k=true):∃ l r,as=[l,r]/\k l r=true:=by
 unfold k2 at h
 cases as with
 | nil=>exact aU h
 | cons l r =>
  replace h:=ia h
  obtain ⟨x,rfl,h⟩:=h
  exact ⟨_,_,rfl,h⟩
@[irreducible] noncomputable def Br (a:Expr) (k:Expr->CmpOp->Expr->Bool):Bool:=match a with | .Compare l ps rs _=>k1 ps fun p=>k1 rs fun r=>k l p r | _=>false
theorem wA {a:Expr} {k:Expr->CmpOp->Expr->Bool} (h:Br a k=true):∃ l o r p,a=.Compare l [o] [r] p/\k l o r=true:=by
 unfold Br at h
 cases a with
 | Compare l ps rs p =>
  replace h:=ia h
  obtain ⟨o,rfl,h⟩:=h
  replace h:=ia h
  obtain ⟨r,rfl,h⟩:=h
  exact ⟨_,_,_,_,rfl,h⟩
 | _=>exact aU h
@[irreducible] noncomputable def wm (a:Expr) (k:Expr->Expr->Bool):Bool:=match a with | .Subscript l r _=>k l r | _=>false
theorem pF {a:Expr} {k:Expr->Expr->Bool} (h:wm a k=true):∃ l r p,a=.Subscript l r p/\k l r=true:=by
 unfold wm at h
 cases a <;> first | exact ⟨_,_,_,rfl,h⟩ | exact aU h
@[irreducible] noncomputable def FQ (a:Expr) (k:Option Expr->Option Expr->Bool):Bool:=match a with | .Slice u v s _=>s.isNone&&k u v | _=>false
theorem FP {a:Expr} {k:Option Expr->Option Expr->Bool} (h:FQ a k=true):∃ u v p,a=.Slice u v none p/\k u v=true:=by
 unfold FQ at h
 cases a with
 | Slice u v s p=>cases s with
  | none=>exact ⟨_,_,_,rfl,h⟩
  | some _=>exact aU h
 | _=>exact aU h
@[irreducible] noncomputable def Bs (a:Expr) (k:Expr->List Expr->Pos->Bool):Bool:=match a with | .Call f as kw p=>kw.isEmpty&&k f as p | _=>false
theorem wB {a:Expr} {k:Expr->List Expr->Pos->Bool} (h:Bs a k=true):∃ f as p,a=.Call f as [] p/\k f as p=true:=by
 unfold Bs at h
 cases a with
 | Call f as kw p=>cases kw with
  | nil=>exact ⟨_,_,_,rfl,h⟩
  | cons _ _=>exact aU h
 | _=>exact aU h
@[irreducible] noncomputable def Bt (a:Expr) (k:Str->List Expr->Bool):Bool:=Bs a fun f as _=>eO f fun x=>k x as
theorem jG {a:Expr} {k:Str->List Expr->Bool} (h:Bt a k=true):∃ x q as p,a=.Call (.Name x q) as [] p/\k x as=true:=by
 unfold Bt at h
 replace h:=wB h
 obtain ⟨f,as,p,rfl,h⟩:=h
 replace h:=b9 h
 obtain ⟨x,q,rfl,h⟩:=h
 exact ⟨_,_,_,_,rfl,h⟩
@[irreducible] noncomputable def Gj (a:Expr) (k:Expr->Str->Pos->Bool):Bool:=match a with | .Attribute o y p=>k o y p | _=>false
theorem Gi {a:Expr} {k:Expr->Str->Pos->Bool} (h:Gj a k=true):∃ o y p,a=.Attribute o y p/\k o y p=true:=by
 unfold Gj at h
 cases a <;> first | exact ⟨_,_,_,rfl,h⟩ | exact aU h
@[irreducible] noncomputable def kCA (a:Expr) (k:Expr->Str->Pos->List Expr->Pos->Bool):Bool:=Bs a fun f as p=>Gj f fun o y q=>k o y q as p
theorem Je {a:Expr} {k:Expr->Str->Pos->List Expr->Pos->Bool} (h:kCA a k=true):∃ o y q as p,a=.Call (.Attribute o y q) as [] p/\k o y q as p=true:=by
 unfold kCA at h
 replace h:=wB h
 obtain ⟨f,as,p,rfl,h⟩:=h
 replace h:=Gi h
 obtain ⟨o,y,q,rfl,h⟩:=h
 exact ⟨_,_,_,_,_,rfl,h⟩
@[irreducible] noncomputable def KH (a:Expr) (k:Expr->Expr->Expr->List Expr->Scope->Pos->Bool):Bool:=match a with
 | .ListComp el gs scope p=>k1 gs fun g=>decide (g.is_async=0)&&k el g.target g.iter g.ifs scope p
 | _=>false
theorem C7 {a:Expr} {k:Expr->Expr->Expr->List Expr->Scope->Pos->Bool} (h:KH a k=true):∃ el tn it ifs sc p,a=.ListComp el [⟨tn,it,ifs,0⟩] sc p/\k el tn it ifs sc p=true:=by
 unfold KH at h
 cases a with
 | ListComp el gs sc p =>
  replace h:=ia h
  obtain ⟨g,rfl,h⟩:=h
  obtain ⟨tn,it,ifs,j⟩:=g
  have h:=(Bool.and_eq_true _ _).mp h
  have e:j=0:=of_decide_eq_true h.1
  subst e
  exact ⟨_,_,_,_,_,_,rfl,h.2⟩
 | _=>exact aU h
@[irreducible] noncomputable def F7 (a:Expr) (d:Bool) (k:List Expr->Bool):Bool:=match a with
 | .Constant c _ _=>(match c with | .str _=>d | _=>false)
 | .JoinedStr vs _=>k vs
 | _=>false
theorem F6 {a:Expr} {d:Bool} {k:List Expr->Bool} (h:F7 a d k=true):(∃ x j p,a=.Constant (.str x) j p/\d=true)\/∃ vs p,a=.JoinedStr vs p/\k vs=true:=by
 unfold F7 at h
 cases a with
 | Constant c j p=>cases c with
  | str x=>exact .inl ⟨_,_,_,rfl,h⟩
  | _=>exact aU h
 | JoinedStr vs p=>exact .inr ⟨_,_,rfl,h⟩
 | _=>exact aU h
@[irreducible] noncomputable def F5 (a:Expr) (s:Str->Bool) (k:Expr->Int->Bool):Bool:=match a with
 | .Constant c _ _=>(match c with | .str y=>s y | _=>false)
 | .FormattedValue v j f _=>f.isNone&&k v j
 | _=>false
theorem FZ {a:Expr} {s:Str->Bool} {k:Expr->Int->Bool} (h:F5 a s k=true):(∃ y j p,a=.Constant (.str y) j p/\s y=true)\/∃ v j p,a=.FormattedValue v j none p/\k v j=true:=by
 unfold F5 at h
 cases a with
 | Constant c j p=>cases c with
  | str x=>exact .inl ⟨_,_,_,rfl,h⟩
  | _=>exact aU h
 | FormattedValue v j f p=>cases f with
  | none=>exact .inr ⟨_,_,_,rfl,h⟩
  | some _=>exact aU h
 | _=>exact aU h
@[irreducible] noncomputable def sO (a:Stmt) (k:Expr->Expr->Bool):Bool:=match a with | .Assign ts e _=>k1 ts fun t=>k t e | _=>false
theorem lM {a:Stmt} {k:Expr->Expr->Bool} (h:sO a k=true):∃ t e p,a=.Assign [t] e p/\k t e=true:=by
 unfold sO at h
 cases a with
 | Assign ts e p =>
  replace h:=ia h
  obtain ⟨t,rfl,h⟩:=h
  exact ⟨_,_,_,rfl,h⟩
 | _=>exact aU h
@[irreducible] noncomputable def Gf (a:Stmt) (k:Expr->Bool):Bool:=match a with | .Expr e _=>k e | _=>false
theorem Ge {a:Stmt} {k:Expr->Bool} (h:Gf a k=true):∃ e p,a=.Expr e p/\k e=true:=by
 unfold Gf at h
 cases a <;> first | exact ⟨_,_,rfl,h⟩ | exact aU h
@[irreducible] noncomputable def FU (a:Stmt) (d:Bool) (k:Expr->Bool):Bool:=match a with
 | .Return o _=>(match o with | some e=>k e | none=>d)
 | _=>false
theorem FT {a:Stmt} {d:Bool} {k:Expr->Bool} (h:FU a d k=true):(∃ p,a=.Return none p/\d=true)\/∃ e p,a=.Return (some e) p/\k e=true:=by
 unfold FU at h
 cases a with
 | Return o p=>cases o with
  | none=>exact .inl ⟨_,rfl,h⟩
  | some e=>exact .inr ⟨_,_,rfl,h⟩
 | _=>exact aU h
@[irreducible] noncomputable def Gb (a:Stmt) (k:Expr->List Stmt->List Stmt->Bool):Bool:=match a with | .If t l r _=>k t l r | _=>false
theorem Ga {a:Stmt} {k:Expr->List Stmt->List Stmt->Bool} (h:Gb a k=true):∃ t l r p,a=.If t l r p/\k t l r=true:=by
 unfold Gb at h
 cases a <;> first | exact ⟨_,_,_,_,rfl,h⟩ | exact aU h
@[irreducible] noncomputable def kFor (a:Stmt) (k:Expr->Expr->List Stmt->Bool):Bool:=match a with | .For t i b e _=>e.isEmpty&&k t i b | _=>false
theorem Gd {a:Stmt} {k:Expr->Expr->List Stmt->Bool} (h:kFor a k=true):∃ t i b p,a=.For t i b [] p/\k t i b=true:=by
 unfold kFor at h
 cases a with
 | For t i b e p=>cases e with
  | nil=>exact ⟨_,_,_,_,rfl,h⟩
  | cons _ _=>exact aU h
 | _=>exact aU h
@[irreducible] noncomputable def FY (a:Stmt) (k:Expr->Bool):Bool:=match a with
 | .Raise o c _=>c.isNone&&(match o with | some e=>k e | none=>false)
 | _=>false
theorem FW {a:Stmt} {k:Expr->Bool} (h:FY a k=true):∃ e p,a=.Raise (some e) none p/\k e=true:=by
 unfold FY at h
 cases a with
 | Raise o c p=>cases c with
  | none=>cases o with
   | none=>exact aU h
   | some e=>exact ⟨_,_,rfl,h⟩
  | some _=>exact aU h
 | _=>exact aU h
@[irreducible] noncomputable def FO (a:Stmt) (k:List Stmt->List ExceptHandler->Bool):Bool:=match a with
 | .Try bd hs e f _=>e.isEmpty&&(f.isEmpty&&(!hs.isEmpty&&k bd hs))
 | _=>false
theorem FN {a:Stmt} {k:List Stmt->List ExceptHandler->Bool} (h:FO a k=true):∃ bd h₀ hr p,a=.Try bd (h₀::hr) [] [] p/\k bd (h₀::hr)=true:=by
 unfold FO at h
 cases a with
 | Try bd hs e f p=>cases e with
  | nil=>cases f with
   | nil=>cases hs with
    | nil=>exact aU h
    | cons _ _=>exact ⟨_,_,_,_,rfl,h⟩
   | cons _ _=>exact aU h
  | cons _ _=>exact aU h
 | _=>exact aU h
@[irreducible] noncomputable def kHd (a:ExceptHandler) (k:Expr->List Stmt->Bool):Bool:=match a with
 | .ExceptHandler t n b _=>n.isNone&&(match t with | some t=>k t b | none=>false)
theorem Jd {a:ExceptHandler} {k:Expr->List Stmt->Bool} (h:kHd a k=true):∃ t b p,a=.ExceptHandler (some t) none b p/\k t b=true:=by
 unfold kHd at h
 cases a with
 | ExceptHandler t n b p=>cases n with
  | none=>cases t with
   | none=>exact aU h
   | some t=>exact ⟨_,_,_,rfl,h⟩
  | some _=>exact aU h
@[irreducible] noncomputable def kQ:Es->Bool | .nil=>true | .cons _ _=>false
theorem gK {c:Es} (h:kQ c=true):c=.nil:=by
 unfold kQ at h
 cases c <;> first | rfl | exact aU h
@[irreducible] noncomputable def mV:Ss->Bool | .nil=>true | .cons _ _=>false
theorem lu {c:Ss} (h:mV c=true):c=.nil:=by
 unfold mV at h
 cases c <;> first | rfl | exact aU h
@[irreducible] noncomputable def wM:Hs->Bool | .nil=>true | .cons _ _ _=>false
theorem Bx {c:Hs} (h:wM c=true):c=.nil:=by
 unfold wM at h
 cases c <;> first | rfl | exact aU h
@[irreducible] noncomputable def KJ (c:Es) (k:E->Es->Bool):Bool:=match c with | .cons e es=>k e es | .nil=>false
theorem wC {c:Es} {k:E->Es->Bool} (h:KJ c k=true):∃ e es,c=.cons e es/\k e es=true:=by
 unfold KJ at h
 cases c <;> first | exact ⟨_,_,rfl,h⟩ | exact aU h
@[irreducible] noncomputable def KI (c:Ss) (k:S->Ss->Bool):Bool:=match c with | .cons e es=>k e es | .nil=>false
theorem C8 {c:Ss} {k:S->Ss->Bool} (h:KI c k=true):∃ e es,c=.cons e es/\k e es=true:=by
 unfold KI at h
 cases c <;> first | exact ⟨_,_,rfl,h⟩ | exact aU h
@[irreducible] noncomputable def jHs (c:Hs) (k:List Nat->Ss->Hs->Bool):Bool:=match c with | .cons a b d=>k a b d | .nil=>false
theorem Jf {c:Hs} {k:List Nat->Ss->Hs->Bool} (h:jHs c k=true):∃ a b d,c=.cons a b d/\k a b d=true:=by
 unfold jHs at h
 cases c <;> first | exact ⟨_,_,_,rfl,h⟩ | exact aU h
@[irreducible] noncomputable def Gn (c:S) (k:Nat->E->Bool):Bool:=match c with | .set i e=>k i e | _=>false
theorem Gk {c:S} {k:Nat->E->Bool} (h:Gn c k=true):∃ i e,c=.set i e/\k i e=true:=by
 unfold Gn at h
 cases c <;> first | exact ⟨_,_,rfl,h⟩ | exact aU h
@[irreducible] noncomputable def jK (c:E) (k:D->Bool):Bool:=match c with | .k d=>k d | _=>false
theorem jK_t {c:E} {k:D->Bool} (h:jK c k=true):∃ d,c=.k d/\k d=true:=by
 unfold jK at h
 cases c <;> first | exact ⟨_,rfl,h⟩ | exact aU h
@[irreducible] noncomputable def wD (c:E) (k:List Nat->List Nat->E->Src->O->Bool) (d:Bool):Bool:=match c with | .comp _ caps tg elt it cond=>k caps tg elt it cond | _=>d
theorem Bv {c:E} {k:List Nat->List Nat->E->Src->O->Bool} {d:Bool} (h:wD c k d=true):(∃ fz caps tg elt it cond,c=.comp fz caps tg elt it cond/\k caps tg elt it cond=true)\/d=true:=by
 unfold wD at h
 cases c <;> first | exact .inl ⟨_,_,_,_,_,_,rfl,h⟩ | exact .inr h
noncomputable def IT (N:List Str) (sc:Scope) (i:Nat) (x:Str):Bool:=decide (N[i]? = some x)&&Bg sc x
noncomputable def Al (N:List Str) (sc:Scope):List Expr->List Nat->Bool
 | [],[]=>true
 | a::as,i::is=>eO a (fun x=>IT N sc i x)&&Al N sc as is
 | _,_=>false
noncomputable def HB (N:List Str) (sc:Scope) (t:Expr) (is:List Nat):Bool:=match is with
 | []=>false
 | i::r=>match r with
  | []=>eO t fun x=>IT N sc i x
  | j::r=>match r with
   | []=>wj t fun as=>k2 as fun l r=>eO l fun x=>eO r fun y=>IT N sc i x&&IT N sc j y
   | l::r=>wj t fun as=>Al N sc as (i::j::l::r)
noncomputable def KL:Src->Bool | .zip _ _=>true | _=>false
noncomputable def isTup:Expr->Bool | .Tuple _ _ _=>true | _=>false
noncomputable def Ji:Expr->Bool | .Call _ _ _ _=>true | .Name _ _=>true | .Subscript _ _ _=>true | _=>false
noncomputable def eS (N:List Str) (caps:List Nat) (tn:List Str):List Str:=(caps.map fun i=>(N[i]?).getD ("" : Str))++tn
noncomputable def nmOf:Expr->Str
 | .Name x _=>x
 | _=>""
noncomputable def cW:Expr->List Str
 | .Name x _=>[x]
 | .Tuple as _ _=>as.map nmOf
 | _=>[]
noncomputable def xj (N:List Str) (sc scope:Scope) (caps:List Nat) (tn:List Str):Bool :=
 (scope.names.all fun y=>match y.2 with
  | .free=>(match sc.names.lookup y.1 with | some .cell=>true | some .free=>true | _=>false)
  | .cell=>false
  | .local=>(match scope.names.lookup y.1 with | some .local=>true | _=>false)
  | _=>true)&&(scope.kind == .function) &&
 (caps.all fun i=>match N[i]? with
  | some x=>(match scope.names.lookup x with | some .free=>true | _=>false)
  | none=>false)&&decide ((eS N caps tn).Nodup)
noncomputable def uv (sc scope:Scope) (x:Str) (px pv:Pos):Bool :=
 ((if sc.kind.isAnnotationScope then .function else sc.kind) == .function)&&sc.names.lookup x == some .local&&px.line == pv.line&&!(scope.names.any fun (n,k)=>n == x&&(k == .local||k == .cell))
noncomputable def hdB (G:Gm) (N:List Str) (sc:Scope):List ExceptHandler->Hs->Bool
 | [],hs=>wM hs
 | h::r,hs=>kHd h fun t bd=>eO t fun x=>k1 bd fun st=>sO st fun ty e=>eO ty fun y=>Bq e fun k=>jHs hs fun cs b hs=>k1 cs fun c=>KI b fun s ss=>mV ss&&Gn s fun i v=>jK v fun d =>
  iU sc x&&nD x&&decide (G.exc.lookup x=some c)&&decide (N[i]? = some y)&&Bf sc y&&BP k d&&hdB G N sc r hs
noncomputable abbrev Rec:=Gm->Bool->List Str->Scope->Nd->Bool
noncomputable def ifsB (ifs:List Expr) (cond:O) (k:Expr->E->Bool):Bool:=match cond with
 | .none=>ifs.isEmpty
 | .some d=>k1 ifs fun c=>k c d
noncomputable def KD (r:Rec) (G:Gm) (b:Bool) (N:List Str) (sc:Scope) (caps tg:List Nat) (elt:E) (it:Src) (cond:O) (el tn iter:Expr) (ifs:List Expr) (scope:Scope):Bool :=
 (!KL it||isTup tn)&&vR iter&&xj N sc scope caps (cW tn)&&r G b N sc (.i iter it) &&
  HB (eS N caps (cW tn)) (uP scope sc) tn tg&&r G true (eS N caps (cW tn)) (uP scope sc) (.e el elt) &&
  ifsB ifs cond fun c d=>r G true (eS N caps (cW tn)) (uP scope sc) (.t c d)
noncomputable def Jh:Mt->Bool | .append=>true | .extend=>true | _=>false
noncomputable def IW:Mt->Str | .append=>"append" | _=>"extend"
noncomputable def chkE (r:Rec) (G:Gm) (b:Bool) (N:List Str) (sc:Scope) (a:Expr) (c:E):Bool:=match c with
 | .bad=>true
 | .v i=>eO a fun x=>decide (N[i]? = some x)&&DJ sc x&&nD x
 | .k d=>Bq a fun k=>BP k d
 | .g i=>eO a fun x=>iU sc x&&decide (G.cst.lookup x=some i)&&nD x
 | .tup cs=>wj a fun as=>decide (as.length<=100)&&r G b N sc (.es as cs)
 | .lst _ cs=>F9 a fun as=>decide (as.length<=100)&&r G b N sc (.es as cs)
 | .nZ=>wo a
 | .op o _ x y=>Gh a fun l p q=>decide (p=binOp o)&&r G b N sc (.e l x)&&r G b N sc (.e q y)
 | .neg x=>Jb a fun o l=>pH o&&r G b N sc (.e l x)
 | .not x=>Jb a fun o l=>qT o&&r G b N sc (.e l x)
 | .and x y=>G4 a fun o v w=>iN o&&r G b N sc (.e v x)&&r G b N sc (.e w y)
 | .or x y=>G4 a fun o v w=>!iN o&&r G b N sc (.e v x)&&r G b N sc (.e w y)
 | .cmp o x y=>Br a fun l p q=>decide (p=xm o)&&!(behindInMarks p q)&&r G b N sc (.e l x)&&r G b N sc (.e q y)
 | .idx x y=>wm a fun l q=>nSl q&&r G b N sc (.e l x)&&r G b N sc (.e q y)
 | .sl _ x lo hi=>wm a fun l q=>FQ q fun u v=>r G b N sc (.e l x)&&r G b N sc (.o u lo)&&r G b N sc (.o v hi)
 | .call f cs=>Bt a fun x as=>iU sc x&&nD x&&decide (G.fns.lookup x=some (f,as.length))&&as.all dO&&r G b N sc (.es as cs)
 | .pG x t=>Bt a fun y as=>k2 as fun l z'=>eO z' fun z=>decide (y = "isinstance")&&decide (z=Str.ofString (mQ t))&&iU sc y&&iU sc z&&G.ou.contains y&&G.ou.contains z&&dO l&&r G b N sc (.e l x)
 | .blt k _ cs=>Bt a fun y as=>k1 as fun l=>decide (JW k=some y)&&iU sc y&&G.ou.contains y&&dO l&&r G b N sc (.es [l] cs)
 | .o9 m _ x cs=>kCA a fun o y ap as cp=>Fe o&&(ap.endLine == cp.line)&&r G b N sc (.e o x) &&
  bif Jh m then decide (IW m=y)&&k1 as fun l=>dO l&&r G b N sc (.es [l] cs)
  else decide (CU m=some y)&&as.isEmpty&&kQ cs
 | .comp _ caps tg elt it cond=>!b&&KH a fun el tn iter ifs scope _=>KD r G b N sc caps tg elt it cond el tn iter ifs scope
 | .all1 x=>Bt a fun z as=>k1 as fun l=>decide (z = "all")&&iU sc z&&G.ou.contains z&&dO l&&r G b N sc (.e l x)
 | _=>false
noncomputable def chkT (r:Rec) (G:Gm) (b:Bool) (N:List Str) (sc:Scope) (a:Expr) (c:E):Bool:=match c with
 | .bad=>true
 | .cmp o x y=>Br a fun l p q=>decide (p=xm o)&&!(behindInMarks p q)&&r G b N sc (.e l x)&&r G b N sc (.e q y)
 | .not x=>Jb a fun o l=>qT o&&r G b N sc (.t l x)
 | .and x y=>G4 a fun o v w=>iN o&&r G b N sc (.t v x)&&r G b N sc (.t w y)
 | .or x y=>G4 a fun o v w=>!iN o&&r G b N sc (.t v x)&&r G b N sc (.t w y)
 | c=>o8 a&&r G b N sc (.e a c)
noncomputable def chkI (r:Rec) (G:Gm) (b:Bool) (N:List Str) (sc:Scope) (a:Expr) (c:Src):Bool:=match c with
 | .e c=>vR a&&r G b N sc (.e a c)
 | .gv c=>Bt a fun y as=>k1 as fun l=>decide (y = "range")&&iU sc y&&G.ou.contains y&&dO l&&r G b N sc (.e l c)
 | .zip c d=>Bt a fun y as=>k2 as fun l q=>decide (y = "zip")&&iU sc y&&G.ou.contains y&&dO l&&dO q&&r G b N sc (.e l c)&&r G b N sc (.e q d)
 | _=>false
noncomputable def chkS (r:Rec) (G:Gm) (b:Bool) (N:List Str) (sc:Scope) (a:Stmt) (c:S):Bool:=match c with
 | .bad=>true
 | .set i c=>sO a fun t e=>kNm t fun x px=>!b&&decide (N[i]? = some x)&&Bf sc x&&wD c (fun caps tg elt it cond=>KH e fun el tn iter ifs scope lp =>
    bif uv sc scope x px lp then KD r G b N sc caps tg elt it cond el tn iter ifs scope&&Bg sc x else r G b N sc (.e e c)) (ny e&&r G b N sc (.e e c))
 | .j3 x y c=>sO a fun t e=>wm t fun o i=>ny e&&r G b N sc (.e e c)&&r G b N sc (.e o x)&&r G b N sc (.e i y)
 | .DM tg c=>sO a fun tn e=>!b&&isTup tn&&HB N sc tn tg&&Ji e&&r G b N sc (.e e c)
 | .ex c=>Gf a fun e=>ny e&&r G b N sc (.e e c)
 | .ret c=>FU a false fun e=>r G b N sc (.e e c)
 | .ifs c x y=>Gb a fun t l q=>r G b N sc (.t t c)&&r G b N sc (.ss l x)&&r G b N sc (.ss q y)
 | .for tg it x=>kFor a fun tn iter body=>!b&&(!KL it||isTup tn)&&vR iter&&r G b N sc (.i iter it)&&HB N sc tn tg&&r G b N sc (.ss body x)
 | .raise c es=>!b&&G.rz&&FY a fun e=>Bt e fun x as=>k1 as fun m=>iU sc x&&nD x&&decide (G.exc.lookup x=some c) &&
   F7 m (kQ es) fun vs=>decide (2<=vs.length)&&decide (vs.length<=100)&&r G b N sc (.m vs es)
 | .try x hs els=>!b&&mV els&&FO a fun bd hds=>r { G with rz:=false } b N sc (.ss bd x)&&hdB G N sc hds hs
 | _=>false
noncomputable def stp (r:Rec) (G:Gm) (b:Bool) (N:List Str) (sc:Scope) (nd:Nd):Bool:=match nd with
 | .e a c=>qG a (fun v=>r G b N sc (.e v c)) (chkE r G b N sc a c)
 | .t a c=>qG a (fun v=>r G b N sc (.t v c)) (chkT r G b N sc a c)
 | .es as cs=>(match as with
  | []=>kQ cs
  | a::as=>KJ cs fun c cs=>dO a&&r G b N sc (.e a c)&&r G b N sc (.es as cs))
 | .o a c=>(match c with
  | .none=>a.isNone
  | .some c=>(match a with
   | some a=>r G b N sc (.e a c)
   | none=>false))
 | .i a c=>chkI r G b N sc a c
 | .s a c=>chkS r G b N sc a c
 | .ss as cs=>(match as with
  | []=>mV cs
  | a::as=>KI cs fun c cs=>r G b N sc (.s a c)&&r G b N sc (.ss as cs))
 | .m as cs=>(match as with
  | []=>kQ cs
  | a::as=>F5 a (fun y=>decide (y.length<=100000)&&r G b N sc (.m as cs)) fun v k=>KJ cs fun e es=>decide (k=-1)&&r G b N sc (.e v e)&&r G b N sc (.m as es))
noncomputable def GN:Nat->Rec
 | 0=>fun _ _ _ _ _=>false
 | n+1=>stp (GN n)
noncomputable abbrev cC (G:Gm) (n:Nat) (b:Bool) (N:List Str) (sc:Scope) (nd:Nd):Bool:=GN n G b N sc nd
end Fg
end
section
namespace Fg
open PySem PySem.Spec L2
section
variable {X:Cx}
theorem PE.weak {e:Expr} {t t':TE} (h:PE X e t) (w:∀ σ H Q,t' σ H Q->t σ H Q):PE X e t':=fun pins s σ H Q I q=>h pins s σ H Q I (w σ H Q q)
theorem PT.weak {e:Expr} {t t':TT} (h:PT X e t) (w:∀ σ H Q,t' σ H Q->t σ H Q):PT X e t':=fun pins s σ H Q I q=>h pins s σ H Q I (w σ H Q q)
theorem PW.weak {e:Expr} {t t':TT} (h:PW X e t) (w:∀ σ H Q,t' σ H Q->t σ H Q):PW X e t':=fun wh pins s σ H Q I q=>h wh pins s σ H Q I (w σ H Q q)
theorem PA.weak {e:List Expr} {t t':TA} (h:PA X e t) (w:∀ σ H Q,t' σ H Q->t σ H Q):PA X e t':=fun pos pins s σ H Q I q=>h pos pins s σ H Q I (w σ H Q q)
theorem PO.weak {e:Option Expr} {t t':TO} (h:PO X e t) (w:∀ σ H Q,t' σ H Q->t σ H Q):PO X e t':=fun pins s σ H Q I q=>h pins s σ H Q I (w σ H Q q)
theorem PI.weak {tg e:Expr} {t t':TI} (h:PI X tg e t) (w:∀ σ H Q,t' σ H Q->t σ H Q):PI X tg e t':=fun pins s σ H Q I q=>h pins s σ H Q I (w σ H Q q)
theorem PS.weak {e:Stmt} {t t':TS} (h:PS X e t) (w:∀ D σ H,t' D σ H->t D σ H):PS X e t':=fun pins s σ H D I q=>h pins s σ H D I (w D σ H q)
theorem jX.weak {e:List Stmt} {t t':TS} (h:jX X e t) (w:∀ D σ H,t' D σ H->t D σ H):jX X e t':=fun pins s σ H D I q=>h pins s σ H D I (w D σ H q)
end
theorem aF {e:Expr} {es:List Expr} {env:Env} (h:dO e=true):starEach (e::es) env=(false,eval e env)::starEach es env:=by
 cases e <;> first | rfl | (simp [dO] at h)
theorem mU {env:Env} {pos:Pos}:∀ {es:List Expr},es.all dO=true->(backTo pos (starEach es env)).any (·.1)=false
 | [],_=>rfl
 | e::es,h=>by
  simp only [List.all_cons,Bool.and_eq_true] at h
  rw [aF h.1]
  have:=mU (env:=env) (pos:=pos) h.2
  simpa [backTo] using this
theorem set_plain {e:Expr} {env:Env} (h:vR e=true):∀ x,foldedSetIterable e env x=pure x:=by
 intro x;cases e <;> first | rfl | (simp [vR] at h)
theorem uB {e:Expr} (h:nSl e=true):rX e:=by
 intro o i;cases e <;> first | rfl | (simp [nSl] at h)
theorem i8 {e:Expr} {t:Option Expr} {l:Nat} {env:Env} (h:ny e=true):swapsWith e t l env=pure false:=by
 cases e <;> first | rfl | (simp [ny] at h)
theorem sf {e:Expr} {env:Env} (h:o8 e=true):∀ whole,isTrue e env whole=(do let v <- whole;standAt e.pos;holding [v] (truthy v)):=by
 intro w;cases e <;> first | rfl | (simp [o8] at h)
theorem gj {e:Expr} {n:Str} {env:Env} (h:Fe e=true):attributeBase e n env (eval e env)=eval e env:=by
 cases e <;> first | rfl | (rename_i f _ _ _;cases f <;> first | rfl | (simp [Fe] at h))
theorem boot_sum:bootBuiltins ("sum" : Str)=some (.builtin "sum"):=by decide +kernel
theorem boot_tuple:bootBuiltins ("tuple" : Str)=some (.type "tuple"):=by decide +kernel
theorem boot_dict:bootBuiltins ("dict" : Str)=some (.type "dict"):=by decide +kernel
theorem boot_isinstance:bootBuiltins ("isinstance" : Str)=some (.builtin "isinstance"):=by decide +kernel
theorem BX:∀ t:Ty,bootBuiltins (Str.ofString (mQ t))=some (.type (mQ t)):=by
 intro t;cases t <;> decide +kernel
theorem Ca:∀ t:Ty, Str.ofString (mQ t)≠("__name__" : Str)/\(Str.ofString (mQ t) == ("__debug__" : Str))=false:=by
 intro t;cases t <;> decide
noncomputable def nT:Es->Nat
 | .nil=>0
 | .cons _ es=>nT es+1
theorem dS {Φ:cM}:∀ {es:Es} {σ:Sg} {M:MH} {ds:List D} {M':MH},fF Φ es σ M=.ok ds M'->ds.length=nT es
 | .nil,σ,M,ds,M',h=>by simp only [fF] at h;cases h;rfl
 | .cons e es,σ,M,ds,M',h=>by
  simp only [fF] at h
  cases h1:ev Φ e σ M with
  | ok x M1 =>
   rw [h1] at h
   simp only [R.aD] at h
   cases h2:fF Φ es σ M1 with
   | ok xs M2 =>
    rw [h2] at h
    simp only [R.aD] at h
    cases h
    simp [nT,dS h2]
   | exc c M2=>rw [h2] at h;cases h
   | bad=>rw [h2] at h;cases h
  | exc c M1=>rw [h1] at h;cases h
  | bad=>rw [h1] at h;cases h
theorem aS {a b:Bool} (h:(a&&b)=true):a=true/\b=true:=(Bool.and_eq_true a b).mp h
theorem ji {G:Gm} {b:Bool} {N:List Str} {sc:Scope}:∀ {n:Nat} {as:List Expr} {cs:Es},cC G n b N sc (.es as cs)=true->nT cs=as.length/\as.all dO=true
 | 0,_,_,h=>by cases h
 | n+1,[],cs,h=>by
  have:=gK (c:=cs) h
  subst this
  exact ⟨rfl,rfl⟩
 | n+1,a::as,cs,h=>by
  replace h:=wC (c:=cs) h
  obtain ⟨c,cs,rfl,h⟩:=h
  replace h:=aS h
  obtain ⟨h,h3⟩:=h
  replace h:=aS h
  obtain ⟨h1,h2⟩:=h
  obtain ⟨q1,q2⟩:=ji h3
  exact ⟨congrArg (·+1) q1,by rw [List.all_cons,h1,q2];rfl⟩
inductive tH (th:Addr->Prop):Hp->Hp->Prop
 | refl (H:Hp):tH th H H
 | step {H H1 H2:Hp}:yW th H H1->tH th H1 H2->tH th H H2
noncomputable def GX:Bool->Cx->XS->Gx
 | true,_,w=>⟨w,fun _=>False,fun cv x σ H H' t h=>by
  rcases t with rfl | ⟨_,_,_,z,_⟩
  ·exact h
  ·exact z.elim⟩
 | false,X,w=>⟨fun cv x σ H=>∃ H',tH (Cd X) H H'/\w cv x σ H',Cd X,fun cv x σ H H' t ⟨H2,h1,h2⟩=>⟨H2,.step t h1,h2⟩⟩
theorem mS {X:Cx} {pins:List (Addr×Obj)} {σ:L2.St} {H H':Hp} {s:Shared} (I:Inv X pins σ H s) (t:tH (Cd X) H H'):Inv X pins σ H' s:=by
 induction t with
 | refl=>exact I
 | step t _ ih=>exact ih (dP I t)
theorem sj {th:Addr->Prop} {H H':Hp} (t:tH th H H') {b:Addr} (h:H' b≠none):H b≠none:=by
 induction t with
 | refl=>exact h
 | step t _ ih =>
  have:=ih h
  rcases t with rfl | ⟨a,o,kvs,_,h1,rfl⟩
  ·exact this
  ·by_cases e:b=a
   ·subst e;rw [h1];simp
   ·rw [ak e] at this;exact this
theorem nP {X:Cx} {w:XS} {e:Value} {s:Shared} (h:j9 X (GX false X w).e e s):j9 X w e s:=by
 obtain ⟨pins,σ,H,a,a0,C,B,h1,I,up,eW,hp,H',t,q⟩:=h
 exact ⟨pins,σ,H',a,a0,C,B,h1,mS I t,up,fun b hb hf=>eW b (hb.imp (sj t) id) hf,hp,q⟩
theorem vo {X:Cx} {w:XS} {e:Value} {s:Shared} (h:DB X (GX false X w).e e s):DB X w e s:=by
 obtain ⟨pins,σ,H,a,C,vs,hh,h1,I,made,H',t,q⟩:=h
 exact ⟨pins,σ,H',a,C,vs,hh,h1,mS I t,made,q⟩
structure eT (G:Gm) (B:Bd) (Φ:cM) (k:Nat) (X:Cx) (N:List Str) (sc:Scope) (b:Bool) (w:XS):Prop where
 hN:X.N=N
 nd:N.Nodup
 hsc:X.env.scope=sc
 K:B.K=X.K
 calm:X.calm=true
 rm:eU k X.A
 dk:jY B X
 fo:∀ e s,X.xe e s->j9 X (GX b X w).e e s\/DB X (GX b X w).e e s
 fx:∀ e s,j9 X (GX b X w).e e s->X.xe e s
 nx:b=false->G.rz=true->∀ e s,DB X (GX b X w).e e s->X.xe e s
 fr:oA X
 fn:b=false->∀ x,X.fn x=true
 fns:∀ f i m,G.fns.lookup f=some (i,m)->∃ fa fd ps,X.mg f=some (.ref fa)/\W.keepIn X.K (.ref fa)=true/\Binds X.K fd ps []/\eN X.prog X.w X.K X.mg X.base (jZ X.prog X.w) k fa fd ps (zd B Φ i m)
 cst:∀ x i,G.cst.lookup x=some i->∃ v u,X.mg x=some u/\RelV v u/\∀ d,Φ.glob i=some d->∀ F ρ H,RD B F ρ H d v
 blt:∀ x,G.ou.contains x=true->X.mg x=none
 cls:∀ c C,B.cls c=some C->Lm X.K C/\∀ f,G.Jy.contains f=true->xP X.K C f
 Ff:∀ c nm i m,G.Ff.lookup (c,nm)=some (i,m)->∃ C fa fd ps,B.cls c=some C/\Meth X.K C nm fa/\Binds X.K fd ps []/\eN X.prog X.w X.K X.mg X.base (jZ X.prog X.w) k fa fd ps (zd B Φ i m)
 Kz:∀ x c i m,G.cls.lookup x=some (c,i,m)->∃ C fa fd ps,X.mg x=some (.ref C)/\B.cls c=some C/\Mk X.K C fa/\Binds X.K fd ps [] /\
  ((∃ j,k=j+1/\eN X.prog X.w X.K X.mg X.base (jZ X.prog X.w) j fa fd ps (spI B Φ i m))\/∀ ds M,Φ.ini i ds M=.bad)
 exc:∀ x c, G.exc.lookup x=some c->∃ C bmB newId bm base initId, X.mg x=some (.ref C)/\B.Ke c=some C/\B.exc c (.ref C)/\oB X.K C bmB newId bm/\ExcBaseFacts base newId initId bmB/\bm.contains (.type "BaseException")=true
 Hi:∀ c cv,B.exc c cv->∃ C bmB newId bm,cv=.ref C/\oB X.K C bmB newId bm/\∀ d D,B.Ke d=some D->(Value.ref C::bm).contains (.ref D)=Φ.sub c d
 GK:∀ x f m d,G.GK.lookup x=some (f,m,d)->∃ fa fd ps du,X.mg x=some (.ref fa)/\W.keepIn X.K (.ref fa)=true/\Binds X.K fd ps [du]/\RelV (.int d) du/\eN X.prog X.w X.K X.mg X.base (jZ X.prog X.w) k fa fd ps (zd B Φ f m)
 st:b=false->X.stack=X.env::X.outer/\X.env.frame=some X.env.locals
section
variable {G:Gm} {B:Bd} {Φ:cM} {k:Nat} {X:Cx} {N:List Str} {sc:Scope} {b:Bool} {w:XS}
theorem eT.rm' (O:eT G B Φ k X N sc b w):Rm X:=by have:=O.rm.un;unfold Rm;omega
theorem eT.pK (O:eT G B Φ k X N sc b w) {x:Str} (h:iU sc x=true):Gl X x:=by
 show X.env.scope.names.lookup x=some .globalImplicit
 rw [O.hsc]
 unfold iU at h
 split at h
 ·assumption
 ·cases h
theorem eT.vis (O:eT G B Φ k X N sc b w) {x:Str} (h:DJ sc x=true):Lj X.env.scope x:=by
 unfold Lj
 rw [O.hsc]
 unfold DJ at h
 split at h
 ·rename_i q;exact .inl q
 ·rename_i q;exact .inr (.inl q)
 ·rename_i q;exact .inr (.inr q)
 ·cases h
theorem eT.loc (O:eT G B Φ k X N sc b w) {x:Str} (h:Bf sc x=true):L2.Loc X.env.scope x:=by
 unfold L2.Loc
 rw [O.hsc]
 unfold Bf at h
 split at h
 ·rename_i q;exact .inl q
 ·rename_i q;exact .inr q
 ·cases h
theorem iL {x:Str} (h:nD x=true):(x == ("__debug__" : Str))=false/\(x == ("__classdict__" : Str))=false:=by
 simp only [nD,Bool.and_eq_true,Bool.not_eq_true'] at h;exact h
theorem eT.Dv (O:eT G B Φ k X N sc b w) {scope:Scope} {N':List Str} (hn:N'.Nodup) (cl:List (Str×Addr)) (fp:List Addr) (s:Shared) (H:Hp) (C:Addr) (E:XK):eT G B Φ k (dU X scope cl N' fp s H C E) N' (uP scope sc) true (fun cv x _ H'=>E cv x H') :=
 ⟨rfl,hn,by show relabel scope X.env=uP scope sc;rw [<- O.hsc];rfl,O.K,O.calm,O.rm,O.dk,(fun e s ⟨p,σ,H,a,a0,C,B,h1,I,h⟩=>.inl ⟨p,σ,H,a,a0,C,B,h1,I.bZ _,h⟩),(fun e s ⟨p,σ,H,a,a0,C,B,h1,I,h⟩=>⟨p,σ,H,a,a0,C,B,h1,I.bL,h⟩),(fun h=>by cases h),(by
  obtain ⟨env,outer,L,h1,h2,h3⟩:=O.fr
  exact ⟨env,outer,L,h1,h2,h3⟩),(fun h=>by cases h),O.fns,O.cst,O.blt,O.cls,O.Ff,O.Kz,O.exc,O.Hi,O.GK,(fun h=>by cases h)⟩
theorem eT.comp (O:eT G B Φ k X N sc b w) {scope:Scope} {caps:List Nat} {tn:List Str} {n:Nat} (h:xj N sc scope caps tn=true) (hn:tn.length=n):gp X scope (eS N caps tn) caps n/\(eS N caps tn).Nodup:=by
 simp only [xj,Bool.and_eq_true,List.all_eq_true,decide_eq_true_eq] at h
 obtain ⟨⟨⟨h1,h2⟩,h3⟩,h4⟩:=h
 refine ⟨⟨fun x hx=>?_,fun y hy z=>?_,by simpa using h2,fun y hy z=>?_,by simp [eS,hn],fun i j x e1 e2=>?_⟩,h4⟩
 ·have:=h1 _ hx
  show X.env.scope.names.lookup x=some .cell\/X.env.scope.names.lookup x=some .free
  rw [O.hsc]
  simp only at this
  split at this
  ·rename_i q;exact .inl q
  ·rename_i q;exact .inr q
  ·cases this
 ·have:=h1 _ hy
  rw [z] at this
  simp at this
 ·have:=h1 _ hy
  rw [z] at this
  simp only at this
  split at this
  ·assumption
  ·cases this
 ·have hj:j∈caps:=List.mem_of_getElem? e2
  have:=h3 j hj
  have hi:i<caps.length:=(List.getElem?_eq_some_iff.mp e2).1
  unfold eS at e1
  rw [List.getElem?_append_left (by simpa using hi),List.getElem?_map,e2] at e1
  simp only [Option.map_some,Option.some.injEq] at e1
  split at this
  ·rename_i y hy
   rw [hy] at e1
   simp only [Option.getD_some] at e1
   subst e1
   rw [O.hN]
   refine ⟨hy,?_⟩
   split at this
   ·assumption
   ·cases this
  ·cases this
theorem v5 {x:Str} (h:Bg sc x=true):sc.names.lookup x=some .local:=by
 unfold Bg at h
 split at h
 ·assumption
 ·cases h
theorem eT.nm (O:eT G B Φ k X N sc b w) {i:Nat} {x:Str} {p:Pos} (h:IT N sc i x=true):PG X (.Name x p) (jL i):=by
 replace h:=aS h
 obtain ⟨h1,h2⟩:=h
 have hl:X.env.scope.names.lookup x=some .local:=by rw [O.hsc];exact v5 h2
 exact zR (by rw [O.hN];exact O.nd) (by rw [O.hN];exact of_decide_eq_true h1) (.inl hl) (.inr hl)
noncomputable def gNs:List Nat->DA
 | []=>Jr
 | i::is=>Dh (jL i) (gNs is)
theorem wO:∀ {is:List Nat} {xs:List V} {σ:St} {H:Hp} {Q:St->Hp->Prop},xs.length=is.length->Q (g6 is xs σ) H->gNs is xs σ H Q
 | [],[],σ,H,Q,_,q=>⟨rfl,q⟩
 | [],_::_,_,_,_,h,_=>by cases h
 | _::_,[],_,_,_,h,_=>by cases h
 | i::is,x::xs,σ,H,Q,h,q=>⟨x,xs,rfl,wO (is:=is) (xs:=xs) (σ:=σ.set i (some x)) (by simpa using h) q⟩
theorem eT.nms (O:eT G B Φ k X N sc b w):∀ {as:List Expr} {is:List Nat},Al N sc as is=true->(assignEach as X.env).length=is.length/\(assignEach as X.env).findIdx? (·.1)=none/\J2 X as (gNs is)/\as.length=is.length
 | [],[],_=>⟨rfl,rfl,qD,rfl⟩
 | [],_::_,h=>by cases h
 | _::_,[],h=>by cases h
 | a::as,i::is,h=>by
  replace h:=aS h
  obtain ⟨h1,h2⟩:=h
  replace h1:=b9 h1
  obtain ⟨x,p,rfl,h1⟩:=h1
  obtain ⟨q1,q2,q3,q4⟩:=O.nms h2
  have e:assignEach (.Name x p::as) X.env=(false,assign (.Name x p) X.env)::assignEach as X.env:=rfl
  refine ⟨?_,?_,jA (O.nm (p:=p) h1) q3 (by rw [e];rfl),by rw [List.length_cons,List.length_cons,q4]⟩
  ·rw [e,List.length_cons,List.length_cons,q1]
  ·rw [e,List.findIdx?_cons,q2];rfl
theorem eT.tg (O:eT G B Φ k X N sc b w) {tn:Expr} {tg:List Nat} (h:HB N sc tn tg=true):PG X tn (Hf tg B.K)/\(cW tn).length=tg.length:=by
 cases tg with
 | nil=>cases h
 | cons i r=>cases r with
  | nil =>
   replace h:=b9 h
   obtain ⟨x,p,rfl,h⟩:=h
   exact ⟨O.nm h,rfl⟩
  | cons j r=>cases r with
   | cons l r =>
    replace h:=jF h
    obtain ⟨as,k1,pt,rfl,h⟩:=h
    obtain ⟨q1,q2,q3,q4⟩:=O.nms h
    have p:=uY (X:=X) (pos:=pt) (k:=k1) (n:=(i::j::l::r).length) O.calm q3 q1 q2
    refine ⟨fun pins s σ H v u Q I r q=>p pins s σ H v u Q I r ?_,by rw [<- q4];exact List.length_map ..⟩
    obtain ⟨a,xs,e,sq,hl,q⟩:=q
    rw [O.K] at sq
    exact ⟨a,xs,e,sq,hl,wO hl q⟩
   | nil =>
    replace h:=jF h
    obtain ⟨as,k1,pt,rfl,h⟩:=h
    replace h:=Bu h
    obtain ⟨l,r,rfl,h⟩:=h
    replace h:=b9 h
    obtain ⟨x,px,rfl,h⟩:=h
    replace h:=b9 h
    obtain ⟨y,py,rfl,h⟩:=h
    replace h:=aS h
    obtain ⟨h1,h2⟩:=h
    have p:=uY (X:=X) (pos:=pt) (k:=k1) (n:=2) O.calm (jA (O.nm (p:=px) h1) (jA (O.nm (p:=py) h2) qD))
    refine ⟨fun pins s σ H v u Q I r q=>p pins s σ H v u Q I r ?_,rfl⟩
    obtain ⟨a,x',y',e,sq,q⟩:=q
    rw [O.K] at sq
    exact ⟨a,[x',y'],e,sq,rfl,x',[y'],rfl,y',[],rfl,rfl,q⟩
end
end Fg
end
section
namespace Fg
open PySem PySem.Spec L2
section
variable {G:Gm} {B:Bd} {Φ:cM} {k:Nat}
structure yX (G:Gm) (B:Bd) (Φ:cM) (k n:Nat) (X:Cx) (N:List Str) (sc:Scope) (b:Bool) (w:XS):Prop where
 e:∀ a c,cC G n b N sc (.e a c)=true->PE X a (T B Φ (GX b X w) c)
 t:∀ a c,cC G n b N sc (.t a c)=true->PT X a (TB B Φ (GX b X w) c)/\(∀ op v p,a=.BoolOp op v p->PW X a (TB B Φ (GX b X w) c))
 es:∀ a c,cC G n b N sc (.es a c)=true->PA X a (TL B Φ (GX b X w) c)
 o:∀ a c,cC G n b N sc (.o a c)=true->PO X a (TP B Φ (GX b X w) c)
 i:b=false->∀ a c tg,(!KL c||isTup tg)=true->cC G n b N sc (.i a c)=true->PI X tg a (Dz B Φ (GX b X w) c)
 s:∀ a c,cC G n b N sc (.s a c)=true->PS X a (TC B Φ (GX b X w) c)
 ss:∀ a c,cC G n b N sc (.ss a c)=true->jX X a (xN B Φ (GX b X w) c)
 m:∀ a c,cC G n b N sc (.m a c)=true->PJ X B Φ (GX b X w) a c
theorem xM {E:Gx} {σ:L2.St} {H:Hp} {Q:VK} (h:T B Φ E .bad σ H Q):False:=by
 obtain ⟨σD,M,F,ρ,S,r,h⟩:=h
 simp only [ev] at h
 exact h
theorem GY {E:Gx} {Dn:Ends} {σ:L2.St} {H:Hp} (h:TC B Φ E .bad Dn σ H):False:=by
 obtain ⟨σD,M,F,ρ,S,r,h⟩:=h
 simp only [ex] at h
 exact h
variable {X:Cx} {N:List Str} {sc:Scope} {b:Bool} {n:Nat} {w:XS}
theorem qh {a:Const} {d:D} {j:Nat} {p:Pos} {E:Gx} (h:BP a d=true):PE X (.Constant a j p) (T B Φ E (.k d)):=by
 unfold BP at h
 split at h
 ·rw [of_decide_eq_true h];exact PE.weak EM fun _ _ _=>qo rfl
 ·rw [of_decide_eq_true h];exact PE.weak oZ fun _ _ _=>qo rfl
 ·rw [of_decide_eq_true h];exact PE.weak IB fun _ _ _=>qo rfl
 ·exact PE.weak EJ fun _ _ _=>qo rfl
 ·cases h
theorem qK:∀ {as:List Expr} {is:List Nat},Al N sc as is=true->as.length=is.length
 | [],[],_=>rfl
 | [],_::_,h=>by cases h
 | _::_,[],h=>by cases h
 | a::as,i::is,h=>by rw [List.length_cons,List.length_cons,qK (aS h).2]
theorem DP {tn:Expr} {tg:List Nat} (h:HB N sc tn tg=true):(cW tn).length=tg.length:=by
 cases tg with
 | nil=>cases h
 | cons i r=>cases r with
  | nil=>replace h:=b9 h;obtain ⟨x,p,rfl,h⟩:=h;rfl
  | cons j r=>cases r with
   | cons l r =>
    replace h:=jF h
    obtain ⟨as,k1,pt,rfl,h⟩:=h
    exact (List.length_map ..).trans (qK h)
   | nil =>
    replace h:=jF h
    obtain ⟨as,k1,pt,rfl,h⟩:=h
    replace h:=Bu h
    obtain ⟨l,r,rfl,h⟩:=h
    rfl
theorem mW (O:eT G B Φ k X N sc false w) (ih:yX G B Φ k n X N sc false w) (Gu:∀ X' N' sc' w',eT G B Φ k X' N' sc' true w'->yX G B Φ k n X' N' sc' true w') {caps tg:List Nat} {elt:Fg.E} {it:Src} {cond:Fg.O} {el tn iter:Expr} {ifs:List Expr} {scope:Scope}
  (h:KD (GN n) G false N sc caps tg elt it cond el tn iter ifs scope=true) :
  gp X scope (eS N caps (cW tn)) caps tg.length/\PI X tn iter (Dz B Φ (GX false X w) it) /\
   (∀ σ cl fp s H C,PG (dU X scope cl (eS N caps (cW tn)) fp s H C fun cv x H'=>(GX false X w).e cv x σ H') tn (Hf tg B.K)/\Ho (dU X scope cl (eS N caps (cW tn)) fp s H C fun cv x H'=>(GX false X w).e cv x σ H') ifs (TBo B Φ (EB (GX false X w) σ) cond)/\PE (dU X scope cl (eS N caps (cW tn)) fp s H C fun cv x H'=>(GX false X w).e cv x σ H') el (T B Φ (EB (GX false X w) σ) elt))/\∀ x,foldedSetIterable iter X.env x=pure x:=by
 simp only [KD,Bool.and_eq_true] at h
 obtain ⟨⟨⟨⟨⟨⟨h0,h1⟩,h2⟩,h3⟩,h4⟩,h5⟩,h6⟩:=h
 have hlen:(cW tn).length=tg.length:=DP h4
 obtain ⟨C1,C2⟩:=O.comp h2 hlen
 refine ⟨C1,ih.i rfl iter it tn h0 h3,fun σ cl fp s H C=>?_,set_plain h1⟩
 have OB:=O.Dv (scope:=scope) C2 cl fp s H C fun cv x H'=>(GX false X w).e cv x σ H'
 have S:=Gu _ _ _ _ OB
 refine ⟨(OB.tg h4).1,?_,S.e el elt h5⟩
 cases cond with
 | none=>cases ifs with
  | nil=>exact zJ
  | cons _ _=>cases h6
 | some d =>
  replace h6:=ia h6
  obtain ⟨c,rfl,h6⟩:=h6
  exact zI (S.t c d h6).1
theorem HV (O:eT G B Φ k X N sc b w) (ih:yX G B Φ k n X N sc b w) (Gu:∀ X' N' sc' w',eT G B Φ k X' N' sc' true w'->yX G B Φ k n X' N' sc' true w') (a:Expr) (c:Fg.E) (h:cC G (n+1) b N sc (.e a c)=true):PE X a (T B Φ (GX b X w) c):=by
 replace h:=qF h
 rcases h with ⟨o,v,p,rfl,h⟩ | h
 ·exact EG (ih.e _ _ h)
 ·cases c with
  | bad=>exact fun _ _ _ _ _ _ q=>(xM q).elim
  | v i =>
   replace h:=b9 h
   obtain ⟨x,p,rfl,h⟩:=h
   simp only [Bool.and_eq_true,decide_eq_true_eq] at h
   exact PE.weak (EE (by rw [O.hN];exact h.1.1) (O.vis h.1.2) (iL h.2).1 (iL h.2).2) fun _ _ _=>HW
  | k d =>
   replace h:=wu h
   obtain ⟨x,j,p,rfl,h⟩:=h
   exact qh h
  | g i =>
   replace h:=b9 h
   obtain ⟨x,p,rfl,h⟩:=h
   simp only [Bool.and_eq_true,decide_eq_true_eq] at h
   obtain ⟨v,u,q1,q2,q3⟩:=O.cst _ _ h.1.2
   exact PE.weak (zT (O.pK h.1.1) q1 q2 (iL h.2).1) fun _ _ _=>HX q3
  | tup cs =>
   replace h:=jF h
   obtain ⟨as,j,p,rfl,h⟩:=h
   simp only [Bool.and_eq_true,decide_eq_true_eq] at h
   obtain ⟨hl,_⟩:=ji h.2
   refine PE.weak (EF (ih.es _ _ h.2)) fun _ _ _=>zm fun q=>?_
   rw [dS q,hl];exact Nat.le_trans h.1 (by decide)
  | lst fz cs =>
   replace h:=F8 h
   obtain ⟨as,p,rfl,h⟩:=h
   simp only [Bool.and_eq_true,decide_eq_true_eq] at h
   obtain ⟨hl,_⟩:=ji h.2
   refine PE.weak (EL (ih.es _ _ h.2)) fun _ _ _=>zx fun q=>?_
   rw [dS q,hl];exact Nat.le_trans h.1 (by decide)
  | nZ =>
   obtain ⟨p,rfl⟩:=Bp h
   exact PE.weak u0 fun _ _ _=>uG
  | op o fz x y =>
   replace h:=Gg h
   obtain ⟨l,p,q,pos,rfl,h⟩:=h
   simp only [Bool.and_eq_true,decide_eq_true_eq] at h
   obtain ⟨⟨h1,h2⟩,h3⟩:=h
   subst h1
   exact PE.weak (Iz (E6 O.K o) (ih.e _ _ h2) (ih.e _ _ h3)) fun _ _ _=>D0
  | neg x =>
   replace h:=wg h
   obtain ⟨o,l,p,rfl,h⟩:=h
   replace h:=aS h
   obtain ⟨ho,h⟩:=h
   cases wG ho
   exact PE.weak (Iv DN (ih.e _ _ h)) fun _ _ _=>zw
  | not x =>
   replace h:=wg h
   obtain ⟨o,l,p,rfl,h⟩:=h
   replace h:=aS h
   obtain ⟨ho,h⟩:=h
   cases qS ho
   exact PE.weak (EI (ih.e _ _ h)) fun _ _ _=>qj
  | and x y =>
   replace h:=qP h
   obtain ⟨o,v,w,r,p,rfl,h⟩:=h
   replace h:=aS h
   obtain ⟨h,h3⟩:=h
   replace h:=aS h
   obtain ⟨h1,h2⟩:=h
   cases qU h1
   replace h:=And.intro h2 h3
   exact PE.weak (EO (ih.e _ _ h.1) (ih.e _ _ h.2)) fun _ _ _=>qt
  | or x y =>
   replace h:=qP h
   obtain ⟨o,v,w,r,p,rfl,h⟩:=h
   replace h:=aS h
   obtain ⟨h,h3⟩:=h
   replace h:=aS h
   obtain ⟨h1,h2⟩:=h
   cases wH (by simpa using h1)
   replace h:=And.intro h2 h3
   exact PE.weak (Iw (ih.e _ _ h.1) (ih.e _ _ h.2)) fun _ _ _=>uE
  | cmp o x y =>
   replace h:=wA h
   obtain ⟨l,p,q,pos,rfl,h⟩:=h
   simp only [Bool.and_eq_true,decide_eq_true_eq,Bool.not_eq_true'] at h
   obtain ⟨⟨⟨h1,h2⟩,h3⟩,h4⟩:=h
   subst h1
   exact PE.weak (zV (ve O.K O.rm' O.dk o) (ih.e _ _ h3) (ih.e _ _ h4) h2) fun _ _ _=>qq
  | KO t x y=>cases h
  | idx x y =>
   replace h:=pF h
   obtain ⟨l,q,pos,rfl,h⟩:=h
   simp only [Bool.and_eq_true] at h
   exact PE.weak (IA (Gs O.K O.dk) (ih.e _ _ h.1.2) (ih.e _ _ h.2) (uB h.1.1)) fun _ _ _=>zA
  | sl fz x lo hi =>
   replace h:=pF h
   obtain ⟨l,q,pos,rfl,h⟩:=h
   replace h:=FP h
   obtain ⟨u,v,sp,rfl,h⟩:=h
   simp only [Bool.and_eq_true] at h
   exact PE.weak (uZ (DX O.K) (ih.e _ _ h.1.1) (ih.o _ _ h.1.2) (ih.o _ _ h.2)) fun _ _ _=>DZ
  | call f cs =>
   replace h:=jG h
   obtain ⟨x,p,as,pos,rfl,h⟩:=h
   simp only [Bool.and_eq_true,decide_eq_true_eq] at h
   obtain ⟨⟨⟨⟨h1,h2⟩,h3⟩,h4⟩,h5⟩:=h
   obtain ⟨fa,fd,ps,q1,q2,q3,q4⟩:=O.fns _ _ _ h3
   obtain ⟨hl,_⟩:=ji h5
   cases as with
   | nil =>
    refine PE.weak (sD q4 O.rm (O.pK h1) q1 q2 q3 O.fx (iL h2).1) fun _ _ _ q=>?_
    have:=m5 (fun z=>by rw [dS z,hl]) q
    cases cs with
    | nil=>exact qm this
    | cons _ _=>simp [nT] at hl
   | cons e es =>
    simp only [List.all_cons,Bool.and_eq_true] at h4
    exact PE.weak (vc q4 O.rm (O.pK h1) q1 q2 q3 O.fx (ih.es _ _ h5) (iL h2).1 (aF h4.1) (mU h4.2)) fun _ _ _=>m5 (fun z=>by rw [dS z,hl])
  | rP f cs d=>cases h
  | pG x t =>
   replace h:=jG h
   obtain ⟨y,p,as,pos,rfl,h⟩:=h
   replace h:=Bu h
   obtain ⟨l,z0,rfl,h⟩:=h
   replace h:=b9 h
   obtain ⟨z,zp,rfl,h⟩:=h
   simp only [Bool.and_eq_true,decide_eq_true_eq] at h
   obtain ⟨⟨⟨⟨⟨⟨⟨h1,h2⟩,h3⟩,h4⟩,h5⟩,h6⟩,h7⟩,h8⟩:=h
   subst h1 h2
   refine PE.weak (gw (xq O.K O.dk) (O.pK h3) (O.blt _ h5) boot_isinstance (cQ (ih.e _ _ h8) (cQ (zW (v:=.ty (mQ t)) (O.pK h4) (O.blt _ h6) (BX t) rfl (Ca t).1 (Ca t).2) fY) (aF h7)) (by decide) (by decide) (aF h7)) fun _ _ _=>zy
  | blt kd fz cs =>
   replace h:=jG h
   obtain ⟨y,p,as,pos,rfl,h⟩:=h
   replace h:=ia h
   obtain ⟨l,rfl,h⟩:=h
   simp only [Bool.and_eq_true,decide_eq_true_eq] at h
   obtain ⟨⟨⟨⟨h1,h2⟩,h3⟩,h4⟩,h5⟩:=h
   have pa:=ih.es _ _ h5
   cases kd <;> simp only [JW] at h1 <;> first | (cases h1;done) | cases h1
   ·exact PE.weak (gw (tw O.K O.dk) (O.pK h2) (O.blt _ h3) PySem.boot_len pa (by decide) (by decide) (aF h4)) fun _ _ _=>i7
   ·exact PE.weak (gw (tu O.K O.calm) (O.pK h2) (O.blt _ h3) boot_sum pa (by decide) (by decide) (aF h4)) fun _ _ _=>i7
   ·exact PE.weak (kE (sZ O.K) (O.pK h2) (O.blt _ h3) boot_tuple pa (by decide) (by decide) (aF h4)) fun _ _ _=>i7
   ·exact PE.weak (kE (tD O.dk) (O.pK h2) (O.blt _ h3) boot_dict pa (by decide) (by decide) (aF h4)) fun _ _ _=>i7
  | o9 m fz x cs =>
   replace h:=Je h
   obtain ⟨o,y,ap,as,cp,rfl,h⟩:=h
   simp only [Bool.and_eq_true] at h
   obtain ⟨⟨⟨h2,h4⟩,h5⟩,h⟩:=h
   cases hm:Jh m with
   | true =>
    rw [hm] at h
    replace h:=aS h
    obtain ⟨h1,h⟩:=h
    replace h:=ia h
    obtain ⟨l,rfl,h⟩:=h
    replace h:=aS h
    obtain ⟨h3,h6⟩:=h
    cases m <;> first | (cases hm;done) | skip
    all_goals cases of_decide_eq_true h1
    ·refine PE.weak (Cz PySem.F.plainAttrs_list PySem.F.slot_list_append PySem.F.type_list_append kI (ih.e _ _ h5) (ih.es _ _ h6) (gj h2) ?_ h4 (aF h3)) fun _ _ _ q=>?_
     ·rw [aF h3];rfl
     ·have:=oS q
      rw [O.K] at this
      exact this
    ·refine PE.weak (Cz PySem.F.plainAttrs_list PySem.F.slot_list_extend PySem.F.type_list_extend Be (ih.e _ _ h5) (ih.es _ _ h6) (gj h2) ?_ h4 (aF h3)) fun _ _ _ q=>?_
     ·rw [aF h3];rfl
     ·have:=oR q
      rw [O.K] at this
      exact this
   | false =>
    rw [hm] at h
    replace h:=aS h
    obtain ⟨h,h7⟩:=h
    replace h:=aS h
    obtain ⟨h1,h6⟩:=h
    cases List.isEmpty_iff.mp h6
    cases gK h7
    replace h1:=of_decide_eq_true h1
    cases m <;> simp only [CU] at h1 <;> first | (cases h1;done) | cases h1
    ·refine PE.weak (EN PySem.F.plainAttrs_list PySem.F.slot_list_pop PySem.F.type_list_pop Fi (ih.e _ _ h5) (gj h2) h4) fun _ _ _ q=>?_
     have:=zv q
     rw [O.K] at this
     exact this
  | comp fz caps tg elt it cond =>
   replace h:=aS h
   obtain ⟨h0,h⟩:=h
   cases b with
   | true=>cases h0
   | false =>
    replace h:=C7 h
    obtain ⟨el,tn,iter,ifs,scope,p,rfl,h⟩:=h
    obtain ⟨C1,C2,C3,C4⟩:=mW O ih Gu h
    exact PE.weak (zS (zU O.calm C1 C2 O.fr O.fx C3 C4)) fun _ _ _=>mZ
  | chain _ _ _ _ _=>cases h
  | tru _=>cases h
  | fld x f=>cases h
  | Kh c m nm x cs=>cases h
  | new c i cs=>cases h
  | mx hi x y=>cases h
  | Hh f x=>cases h
  | all1 x =>
   replace h:=jG h
   obtain ⟨z,p,as,pos,rfl,h⟩:=h
   replace h:=ia h
   obtain ⟨l,rfl,h⟩:=h
   simp only [Bool.and_eq_true,decide_eq_true_eq] at h
   obtain ⟨⟨⟨⟨h1,h2⟩,h3⟩,h4⟩,h5⟩:=h
   subst h1
   refine PE.weak (gw (tE O.calm) (O.pK h2) (O.blt _ h3) (show bootBuiltins ("all" : Str)=some (.builtin "all") by decide +kernel) (cQ (ih.e _ _ h5) fY (aF h4)) (by decide) (by decide) (aF h4)) fun _ _ _ q=>?_
   have:=uI q
   rw [O.K] at this
   exact this
  | KC fz x=>cases h
  | rv fz x=>cases h
  | KA fz x y=>cases h
end
end Fg
end
section
namespace Fg
open PySem PySem.Spec L2
section
variable {G:Gm} {B:Bd} {Φ:cM} {k:Nat} {X:Cx} {N:List Str} {sc:Scope} {b:Bool} {n:Nat} {w:XS}
theorem HR (O:eT G B Φ k X N sc b w) (ih:yX G B Φ k n X N sc b w) (a:Expr) (c:Fg.E) (h:cC G (n+1) b N sc (.t a c)=true) :
  PT X a (TB B Φ (GX b X w) c)/\(∀ op v p,a=.BoolOp op v p->PW X a (TB B Φ (GX b X w) c)):=by
 replace h:=qF h
 rcases h with ⟨op,v,p,rfl,h⟩ | h
 ·have pt:=(ih.t _ _ h).1
  have pw:PW X (.BoolOp op [v] p) (TB B Φ (GX b X w) c):=by
   cases op
   ·exact pw_and1 pt
   ·exact pw_or1 pt
  exact ⟨pw.pt,fun _ _ _ _=>pw⟩
 ·have notB:∀ {P:Prop},o8 a=true->(∀ op v p,a=.BoolOp op v p->P):=fun hq op v p e=>by subst e;simp [o8] at hq
  have plain:o8 a=true->cC G n b N sc (.e a c)=true->PT X a (TB B Φ (GX b X w) c)/\(∀ op v p,a=.BoolOp op v p->PW X a (TB B Φ (GX b X w) c)):=fun h1 h2 =>
   ⟨Ep (ih.e _ _ h2) (sf h1),notB h1⟩
  have gX:(o8 a&&cC G n b N sc (.e a c))=true->PT X a (TB B Φ (GX b X w) c)/\(∀ op v p,a=.BoolOp op v p->PW X a (TB B Φ (GX b X w) c)):=fun hq=>by
   simp only [Bool.and_eq_true] at hq;exact plain hq.1 hq.2
  cases c with
  | bad=>exact ⟨fun _ _ _ _ _ _ q=>(xM q).elim,fun _ _ _ _ _ _ _ _ _ _ _ q=>(xM q).elim⟩
  | cmp o x y =>
   replace h:=wA h
   obtain ⟨l,p,q,pos,rfl,h⟩:=h
   ·simp only [Bool.and_eq_true,decide_eq_true_eq,Bool.not_eq_true'] at h
    obtain ⟨⟨⟨h1,h2⟩,h3⟩,h4⟩:=h
    subst h1
    exact ⟨PT.weak (zK (ve O.K O.rm' O.dk o) (ih.e _ _ h3) (ih.e _ _ h4) h2) fun _ _ _=>qq,fun _ _ _ e=>by cases e⟩
  | not x =>
   replace h:=wg h
   obtain ⟨o,l,p,rfl,h⟩:=h
   replace h:=aS h
   obtain ⟨ho,h⟩:=h
   cases qS ho
   exact ⟨PT.weak (Er (ih.t _ _ h).1) fun _ _ _=>uJ,fun _ _ _ e=>by cases e⟩
  | and x y =>
   replace h:=qP h
   obtain ⟨o,v,w',r,p,rfl,h⟩:=h
   replace h:=aS h
   obtain ⟨h,h3⟩:=h
   replace h:=aS h
   obtain ⟨h1,h2⟩:=h
   cases qU h1
   have pw:=PW.weak (pw_and (ih.t _ _ h2).1 ((ih.t _ _ h3).2 _ _ _ rfl)) fun _ _ _=>uK
   exact ⟨pw.pt,fun _ _ _ _=>pw⟩
  | or x y =>
   replace h:=qP h
   obtain ⟨o,v,w',r,p,rfl,h⟩:=h
   replace h:=aS h
   obtain ⟨h,h3⟩:=h
   replace h:=aS h
   obtain ⟨h1,h2⟩:=h
   cases wH (by simpa using h1)
   have pw:=PW.weak (pw_or (ih.t _ _ h2).1 ((ih.t _ _ h3).2 _ _ _ rfl)) fun _ _ _=>zC
   exact ⟨pw.pt,fun _ _ _ _=>pw⟩
  | v i=>exact gX h
  | k d=>exact gX h
  | g i=>exact gX h
  | tup cs=>exact gX h
  | lst fz cs=>exact gX h
  | nZ=>exact gX h
  | op o fz x y=>exact gX h
  | neg x=>exact gX h
  | chain _ _ _ _ _=>exact gX h
  | tru _=>exact gX h
  | KO _ _ _=>exact gX h
  | idx _ _=>exact gX h
  | sl _ _ _ _=>exact gX h
  | call _ _=>exact gX h
  | pG _ _=>exact gX h
  | blt _ _ _=>exact gX h
  | o9 _ _ _ _=>exact gX h
  | comp _ _ _ _ _ _=>exact gX h
  | fld _ _=>exact gX h
  | Kh _ _ _ _ _=>exact gX h
  | new _ _ _=>exact gX h
  | mx _ _ _=>exact gX h
  | KA _ _ _=>exact gX h
  | KC _ _=>exact gX h
  | rv _ _=>exact gX h
  | all1 _=>exact gX h
  | Hh _ _=>exact gX h
  | rP _ _ _=>exact gX h
theorem HU (O:eT G B Φ k X N sc b w) (ih:yX G B Φ k n X N sc b w) (hb:b=false) (a:Expr) (c:Src) (tg:Expr) (hz:(!KL c||isTup tg)=true) (h:cC G (n+1) b N sc (.i a c)=true):PI X tg a (Dz B Φ (GX b X w) c):=by
 subst hb
 cases c with
 | e c =>
  replace h:=aS h
  obtain ⟨_,h⟩:=h
  exact PI.weak (ED O.K (ih.e _ _ h)) fun _ _ _=>D5
 | gv c =>
  replace h:=jG h
  obtain ⟨y,p,as,pos,rfl,h⟩:=h
  replace h:=ia h
  obtain ⟨l,rfl,h⟩:=h
  simp only [Bool.and_eq_true,decide_eq_true_eq] at h
  obtain ⟨⟨⟨⟨h1,h2⟩,h3⟩,h4⟩,h5⟩:=h
  subst h1
  exact PI.weak (sC (O.pK h2) (O.blt _ h3) (cQ (ih.e _ _ h5) fY (aF h4)) (aF h4)) fun _ _ _=>zq
 | Ef c d=>cases h
 | enum _=>cases h
 | items _=>cases h
 | rev c=>cases h
 | zip c d =>
  replace h:=jG h
  obtain ⟨y,p,as,pos,rfl,h⟩:=h
  replace h:=Bu h
  obtain ⟨l,q,rfl,h⟩:=h
  simp only [Bool.and_eq_true,decide_eq_true_eq] at h
  obtain ⟨⟨⟨⟨⟨⟨h1,h2⟩,h3⟩,h4⟩,h5⟩,h6⟩,h7⟩:=h
  subst h1
  cases tg <;> first | (cases hz;done) | skip
  refine PI.weak (EA (O.pK h2) (O.blt _ h3) (cQ (ih.e _ _ h6) (cQ (ih.e _ _ h7) fY (aF h5)) (aF h4)) (by rw [aF h4,aF h5];rfl) (by rw [aF h5];rfl)) fun _ _ _ q=>?_
  have:=zj q
  rw [O.K] at this
  exact this
theorem swap_eq (O:eT G B Φ k X N sc b w) {el tn iter:Expr} {ifs:List Expr} {scope:Scope} {lp px p:Pos} {x:Str}:swapsWith (.ListComp el [⟨tn,iter,ifs,0⟩] scope lp) (some (.Name x px)) p.line X.env=pure (uv sc scope x px lp):=by
 rw [<- O.hsc];rfl
theorem zk {E:Gx} {Dn:Ends} {σ:L2.St} {H:Hp} {tg:List Nat} {e:Fg.E} (h:TC B Φ E (.DM tg e) Dn σ H):ur (T B Φ E e) (Hf tg B.K) Dn σ H:=by
 obtain ⟨σD,M,F,ρ,S,r,h⟩:=h
 simp only [ex] at h
 refine TC.one S r h fun x M1 F1 ρ1 H1 v e1 S1 r1 rx h1=>?_
 split at h1
 ·rename_i σ1 hs
  exact ju r1 rx hs fun σ' q=>bE.run h1 S1 σ' q
 ·exact h1.elim
theorem uz (O:eT G B Φ k X N sc false w):∀ {hds:List ExceptHandler} {hs:Hs},hdB G N sc hds hs=true->∃ rs,Hq B Φ (GX false X w) B.Ke hs=some rs/\∀ pins,PH (fR X pins) hds rs
 | [],hs,h=>by
  cases Bx (c:=hs) h
  exact ⟨[],rfl,fun _=>.nil⟩
 | hd::r,hs,h=>by
  replace h:=Jd h
  obtain ⟨t,bd,hp,rfl,h⟩:=h
  replace h:=b9 h
  obtain ⟨x,np,rfl,h⟩:=h
  replace h:=ia h
  obtain ⟨st,rfl,h⟩:=h
  replace h:=lM h
  obtain ⟨ty,e,p,rfl,h⟩:=h
  replace h:=b9 h
  obtain ⟨y,py,rfl,h⟩:=h
  replace h:=wu h
  obtain ⟨cst,j,kp,rfl,h⟩:=h
  replace h:=Jf h
  obtain ⟨cs,b,hs',rfl,h⟩:=h
  replace h:=ia h
  obtain ⟨c,rfl,h⟩:=h
  replace h:=C8 h
  obtain ⟨s,ss,rfl,h⟩:=h
  replace h:=aS h
  obtain ⟨hss,h⟩:=h
  cases lu hss
  replace h:=Gk h
  obtain ⟨i,v,rfl,h⟩:=h
  replace h:=jK_t h
  obtain ⟨d,rfl,h⟩:=h
  simp only [Bool.and_eq_true,decide_eq_true_eq] at h
  obtain ⟨⟨⟨⟨⟨⟨h1,h2⟩,h3⟩,h4⟩,h5⟩,h6⟩,h7⟩:=h
  obtain ⟨rs,hrs,ph⟩:=uz O h7
  obtain ⟨C,bmB,newId,bm,base,initId,q1,q2,q3,q4,q5,q6⟩:=O.exc _ _ h3
  refine ⟨(C,xN B Φ (GX false X w) (.cons (.set i (.k d)) .nil))::rs,by simp only [Hq,q2,hrs],fun pins=>.cons q1 (O.pK h1) (iL h2).1 q4 q6 (fun e=>?_) (ph pins)⟩
  have ps:PS (suite (fR X pins) e) (.Assign [.Name y py] (.Constant cst j kp) p) (TC B Φ (GX false X w) (.set i (.k d))) :=
   PS.weak (uW (X:=suite (fR X pins) e) (by show X.N.Nodup;rw [O.hN];exact O.nd) (by show X.N[i]? = some y;rw [O.hN];exact h4) (O.loc h5) (qh h6) (i8 rfl) (.inl (O.fn rfl y))) fun _ _ _=>lB
  exact jX.weak (ng ps (jX.weak qA fun _ _ _=>mY)) fun _ _ _=>kB
theorem zc {Y:Cx} {E:Value->Shared->Prop} {pins:List (Addr×Obj)} {D:Ends} {f:Flow} {s':Shared} (h:SP Y pins D f s'):SP (Y.bZ E) pins D f s':=by
 cases f with
 | next=>obtain ⟨σ',H',I,q⟩:=h;exact ⟨σ',H',I.bZ _,q⟩
 | brk=>obtain ⟨σ',H',I,q⟩:=h;exact ⟨σ',H',I.bZ _,q⟩
 | cont=>obtain ⟨σ',H',I,q⟩:=h;exact ⟨σ',H',I.bZ _,q⟩
 | ret u=>obtain ⟨v,σ',H',I,r,q⟩:=h;exact ⟨v,σ',H',I.bZ _,r,q⟩
theorem ze {rs:List (Addr×TS)} {pins:List (Addr×Obj)} {D:Ends} {x:Ss} {bd:List Stmt} (KN:∀ G' X' N' sc' b' w',eT G' B Φ k X' N' sc' b' w'->yX G' B Φ k n X' N' sc' b' w') (O:eT G B Φ k X N sc false w) (h:cC { G with rz:=false } n false N sc (.ss bd x)=true) :
  jX ((fR X pins).bZ (j9 (fR X pins) (EH X.K rs D))) bd (xN B Φ (GX false X (EH X.K rs D)) x):=by
 have O':eT { G with rz:=false } B Φ k ((fR X pins).bZ (j9 (fR X pins) (GX false (fR X pins) (EH X.K rs D)).e)) N sc false (EH X.K rs D) :=
  ⟨O.hN,O.nd,O.hsc,O.K,O.calm,O.rm,O.dk,(fun e s ⟨p,σ,H,a,a0,C,B,h1,I,h⟩=>.inl ⟨p,σ,H,a,a0,C,B,h1,I.bZ _,h⟩),(fun e s ⟨p,σ,H,a,a0,C,B,h1,I,h⟩=>⟨p,σ,H,a,a0,C,B,h1,I.bL,h⟩),(fun _ h=>by cases h),(by
   obtain ⟨env,outer,L,h1,h2,h3⟩:=O.fr
   exact ⟨env,outer,L,h1,h2,h3⟩),O.fn,O.fns,O.cst,O.blt,O.cls,O.Ff,O.Kz,O.exc,O.Hi,O.GK,O.st⟩
 have P:=(KN _ _ _ _ _ _ O').ss bd x h
 intro Iu s σ H Dn I q
 exact wpAny_mono (P Iu s σ H Dn (I.bL.bZ _) q) (fun _ _ z=>zc (SP.bL z)) fun e s2 z=>nP z
theorem zo {rs:List (Addr×TS)} {hs:Hs} {x:Ss} {Dn:Ends} {σ:L2.St} {H:Hp} (O:eT G B Φ k X N sc false w) (hrs:Hq B Φ (GX false X w) B.Ke hs=some rs) (h:TC B Φ (GX false X w) (.try x hs .nil) Dn σ H):xN B Φ (GX false X (EH X.K rs Dn)) x Dn σ H:=by
 obtain ⟨σD,M,F,ρ,S,r,h⟩:=h
 simp only [ex] at h
 refine ⟨σD,M,F,ρ,S,r,?_⟩
 cases hx:exs Φ x σD M with
 | bad=>rw [hx] at h;exact h
 | exc c M1=>rw [hx] at h;exact h
 | ok o M1 =>
  rw [hx] at h
  simp only [R.aD] at h
  intro F1 ρ1 H1 e1 S1
  cases o with
  | nx σ1=>simp only [exs] at h;exact h F1 ρ1 H1 e1 S1
  | rt d=>exact h F1 ρ1 H1 e1 S1
  | bk σ1=>exact h F1 ρ1 H1 e1 S1
  | ct σ1=>exact h F1 ρ1 H1 e1 S1
  | xc c σ1 =>
   intro σ' cv x' r1 hcv
   obtain ⟨C,bmB,newId,bm,rfl,EC,sub⟩:=O.Hi c cv hcv
   obtain ⟨t,pk,ht⟩:=qp (mro:=.ref C::bm) sub hrs S1 r1 (bE.weak e1 h)
   exact ⟨H1,.refl _,C,bmB,newId,bm,t,rfl,EC,pk,ht⟩
theorem HS (O:eT G B Φ k X N sc b w) (ih:yX G B Φ k n X N sc b w) (KN:∀ G' X' N' sc' b' w',eT G' B Φ k X' N' sc' b' w'->yX G' B Φ k n X' N' sc' b' w') (a:Stmt) (c:S) (h:cC G (n+1) b N sc (.s a c)=true):PS X a (TC B Φ (GX b X w) c):=by
 have Gu:=fun X' N' sc' w' (O':eT G B Φ k X' N' sc' true w')=>KN G X' N' sc' true w' O'
 have hp:PassesOwn (model X.prog X.w) X.A X.env X.xe:=o4 O.fr O.fo O.fx
 cases c with
 | bad=>exact fun _ _ _ _ _ _ q=>(GY q).elim
 | set i c =>
  replace h:=lM h
  obtain ⟨t,e,p,rfl,h⟩:=h
  replace h:=Jc h
  obtain ⟨x,px,rfl,h⟩:=h
  simp only [Bool.and_eq_true,decide_eq_true_eq] at h
  obtain ⟨⟨⟨h3,h1⟩,h2⟩,h4⟩:=h
  cases b with
  | true=>cases h3
  | false =>
   have st:cC G n false N sc (.e e c)=true->swapsWith e (some (.Name x px)) p.line X.env=pure false->PS X (.Assign [.Name x px] e p) (TC B Φ (GX false X w) (.set i c)):=fun q w =>
    PS.weak (uW (by rw [O.hN];exact O.nd) (by rw [O.hN];exact h1) (O.loc h2) (ih.e _ _ q) w (.inl (O.fn rfl x))) fun _ _ _=>lB
   replace h4:=Bv h4
   rcases h4 with ⟨fz,caps,tg,elt,it,cond,rfl,h4⟩ | h4
   ·obtain ⟨el,tn,iter,ifs,scope,lp,rfl,h4⟩:=C7 h4
    cases hs:uv sc scope x px lp with
    | true =>
     rw [hs] at h4
     replace h4:=aS h4
     obtain ⟨h4,k7⟩:=h4
     obtain ⟨C1,C2,C3,C4⟩:=mW O ih Gu h4
     have hl:X.env.scope.names.lookup x=some .local:=by rw [O.hsc];exact v5 k7
     refine PS.weak (qB (zL (by rw [O.hN];exact O.nd) (by rw [O.hN];exact h1) hl O.calm C1 C2 O.fr O.fx C3 C4 (by rw [swap_eq O,hs]))) fun D σ H q=>?_
     exact mZ (lB q)
    | false =>
     rw [hs] at h4
     exact st h4 (by rw [swap_eq O,hs])
   ·replace h4:=aS h4
    obtain ⟨q1,q2⟩:=h4
    exact st q2 (i8 q1)
 | j3 x y c =>
  replace h:=lM h
  obtain ⟨t,e,p,rfl,h⟩:=h
  replace h:=pF h
  obtain ⟨o,i,q,rfl,h⟩:=h
  simp only [Bool.and_eq_true] at h
  obtain ⟨⟨⟨h1,h2⟩,h3⟩,h4⟩:=h
  exact PS.weak (zM O.rm' (ih.e _ _ h3) (ih.e _ _ h4) (ih.e _ _ h2) (i8 h1)) fun _ _ _=>uD
 | ex c =>
  replace h:=Ge h
  obtain ⟨e,p,rfl,h⟩:=h
  replace h:=aS h
  obtain ⟨h1,h2⟩:=h
  exact PS.weak (zN (ih.e _ _ h2) (i8 h1)) fun _ _ _=>D6
 | ret c =>
  replace h:=FT h
  rcases h with ⟨p,rfl,h⟩ | ⟨e,p,rfl,h⟩
  ·cases h
  ·exact PS.weak (Eu (ih.e _ _ h)) fun _ _ _=>zu
 | Eh=>cases h
 | ifs c x y =>
  replace h:=Ga h
  obtain ⟨t,l,q,p,rfl,h⟩:=h
  replace h:=aS h
  obtain ⟨h,h3⟩:=h
  replace h:=aS h
  obtain ⟨h1,h2⟩:=h
  exact PS.weak (Ir (ih.t _ _ h1).1 (ih.ss _ _ h2) (ih.ss _ _ h3)) fun _ _ _=>zz
 | «for» tg it x =>
  replace h:=Gd h
  obtain ⟨tn,iter,body,p,rfl,h⟩:=h
  simp only [Bool.and_eq_true] at h
  obtain ⟨⟨⟨⟨⟨h0,hz⟩,h1⟩,h2⟩,h3⟩,h4⟩:=h
  cases b with
  | true=>cases h0
  | false=>exact PS.weak (qB (Ew hp O.calm (ih.i rfl _ _ _ hz h2) (O.tg h3).1 (ih.ss _ _ h4) (set_plain h1))) fun _ _ _=>zB
 | «while» c x=>cases h
 | brk=>cases h
 | cont=>cases h
 | pass=>cases h
 | D7 x f c=>cases h
 | DM tg c =>
  replace h:=lM h
  obtain ⟨tn,e,p,rfl,h⟩:=h
  simp only [Bool.and_eq_true] at h
  obtain ⟨⟨⟨⟨h0,h1⟩,h2⟩,h3⟩,h4⟩:=h
  cases tn <;> first | (cases h1;done) | skip
  cases e <;> first | (cases h3;done) | exact PS.weak (Ey (ih.e _ _ h4) (O.tg h2).1 rfl rfl rfl) fun _ _ _=>zk
 | raise c es =>
  replace h:=aS h
  obtain ⟨h,h'⟩:=h
  replace h:=aS h
  obtain ⟨hb,hz⟩:=h
  cases b with
  | true=>cases hb
  | false =>
   replace h':=FW h'
   obtain ⟨e,pos,rfl,h⟩:=h'
   replace h:=jG h
   obtain ⟨x,np,as,cp,rfl,h⟩:=h
   replace h:=ia h
   obtain ⟨m,rfl,h⟩:=h
   simp only [Bool.and_eq_true,decide_eq_true_eq] at h
   obtain ⟨⟨⟨h1,h2⟩,h3⟩,h4⟩:=h
   obtain ⟨C,bmB,newId,bm,base,initId,q1,q2,q3,q4,q5,q6⟩:=O.exc _ _ h3
   replace h4:=F6 h4
   rcases h4 with ⟨z,j,p,rfl,h4⟩ | ⟨vs,p,rfl,h4⟩
   ·cases gK h4
    refine PS.weak (nh q1 (O.pK h1) (iL h2).1 q4 q5 O.calm rfl (cQ oZ fY rfl) (O.nx rfl hz)) fun D σ H q=>?_
    exact ⟨by show 1<=2 ^ 24;decide,(kC q3 q).nil⟩
   ·simp only [Bool.and_eq_true,decide_eq_true_eq] at h4
    refine PS.weak (nh q1 (O.pK h1) (iL h2).1 q4 q5 O.calm rfl (cQ (EK (ih.m _ _ h4.2) h4.1.1 h4.1.2) fY rfl) (O.nx rfl hz)) fun D σ H q=>?_
    obtain ⟨σD,M,F,ρ,S,r,z⟩:=kC q3 q
    exact ⟨σD,M,F,ρ,S,r,ah.imp z fun _ H' z y=>⟨by show 1<=2 ^ 24;decide,z⟩⟩
 | «try» x hs els =>
  replace h:=aS h
  obtain ⟨h,h'⟩:=h
  replace h:=aS h
  obtain ⟨hb,he⟩:=h
  cases b with
  | true=>cases hb
  | false =>
   cases lu he
   replace h':=FN h'
   obtain ⟨bd,h₀,hr,p,rfl,h⟩:=h'
   replace h:=aS h
   obtain ⟨h1,h2⟩:=h
   obtain ⟨rs,hrs,ph⟩:=uz O h2
   exact PS.weak (Et (O.st rfl).1 (O.st rfl).2 (fun pins D=>ze KN O h1) ph) fun D σ H q=>zo O hrs q
theorem sound:∀ (n:Nat) {G:Gm} {X:Cx} {N:List Str} {sc:Scope} {b:Bool} {w:XS},eT G B Φ k X N sc b w->yX G B Φ k n X N sc b w
 | 0,G,X,N,sc,b,w,O=>⟨fun _ _ h=>(by cases h),fun _ _ h=>(by cases h),fun _ _ h=>(by cases h),fun _ _ h=>(by cases h),fun _ _ _ _ _ h=>(by cases h),fun _ _ h=>(by cases h),fun _ _ h=>(by cases h),fun _ _ h=>(by cases h)⟩
 | n+1, G, X, N, sc, b, w, O=>by
  have ih:=sound n O
  have Gu:=fun X' N' sc' w' (O':eT G B Φ k X' N' sc' true w')=>sound n O'
  refine ⟨HV O ih Gu,HR O ih,fun a c h=>?_,fun a c h=>?_,fun hb=>HU O ih hb,HS O ih (fun G' X' N' sc' b' w' O'=>sound n O'),fun a c h=>?_,fun a c h=>?_⟩
  ·cases a with
   | nil =>
    cases gK (c:=c) h
    exact PA.weak fY fun _ _ _=>qm
   | cons a as =>
    replace h:=wC (c:=c) h
    obtain ⟨c,cs,rfl,h⟩:=h
    replace h:=aS h
    obtain ⟨h,h3⟩:=h
    replace h:=aS h
    obtain ⟨h1,h2⟩:=h
    exact PA.weak (cQ (ih.e _ _ h2) (ih.es _ _ h3) (aF h1)) fun _ _ _=>uH
  ·cases c with
   | none =>
    cases a with
    | none=>exact PO.weak zQ fun _ _ _=>D4
    | some _=>cases h
   | some c =>
    cases a with
    | none=>cases h
    | some a=>exact PO.weak (zP (ih.e _ _ h)) fun _ _ _=>D3
  ·cases a with
   | nil =>
    cases lu (c:=c) h
    exact jX.weak qA fun _ _ _=>mY
   | cons a as =>
    replace h:=C8 (c:=c) h
    obtain ⟨c,cs,rfl,h⟩:=h
    replace h:=aS h
    obtain ⟨h1,h2⟩:=h
    exact jX.weak (ng (ih.s _ _ h1) (ih.ss _ _ h2)) fun _ _ _=>kB
  ·cases a with
   | nil =>
    cases gK (c:=c) h
    exact .nil
   | cons a as =>
    replace h:=FZ h
    rcases h with ⟨y,j,p,rfl,h⟩ | ⟨v,j,p,rfl,h⟩
    ·replace h:=aS h
     obtain ⟨h1,h2⟩:=h
     exact .lit (of_decide_eq_true h1) (ih.m _ _ h2)
    ·replace h:=wC h
     obtain ⟨e,es,rfl,h⟩:=h
     simp only [Bool.and_eq_true,decide_eq_true_eq] at h
     obtain ⟨⟨h1,h2⟩,h3⟩:=h
     subst h1
     exact .fld (ih.e _ _ h2) (ih.m _ _ h3)
end
end Fg
end
section
namespace Fg
open PySem PySem.Spec L2
inductive B6:List DictEntry->List (Key×V)->Prop
 | nil:B6 [] []
 | cons {h:Int} {x:Str} {t:Tok} {u:Value} {v:V} {es:List DictEntry} {kvs:List (Key×V)}:RelV v u->B6 es kvs->B6 (⟨h,.str x t,u⟩::es) ((Sum.inr x,v)::kvs)
noncomputable def Lk (w:World) (K:W.Frag) (a:Addr) (kvs:List (Key×V)):Prop :=
 kvs.length<=sizeLine/\(a == sysModules)=false/\(kvs.map (·.1)).Nodup/\∃ es n, K.lookup a=some ⟨.type "dict", none, .dict es n, #[]⟩/\W.KeysLit w.params es.toList/\B6 es.toList kvs
theorem B6.vs {prog:Program} {w:World}:∀ {es:List DictEntry} {kvs:List (Key×V)},B6 es kvs->∃ vs,KV kvs vs/\Pairs (aZ prog w) es vs/\vs.map (·.1)=kvs.map (·.1)
 | _,_,.nil=>⟨[],.nil,.nil,rfl⟩
 | _,_,.cons (h:=h) (x:=x) (t:=t) (u:=u) r q=>by
  obtain ⟨vs,h1,h2,h3⟩:=B6.vs q
  exact ⟨(Sum.inr x,u)::vs,.cons ⟨rfl,r⟩ h1,.cons (g9 x t) rfl h2,by simp [h3]⟩
theorem Lk.ok {prog:Program} {w:World} {K:W.Frag} {a:Addr} {kvs:List (Key×V)} (d:Lk w K a kvs) (h:Heap) (X:K.In h):kvs.length<=sizeLine/\(a == sysModules)=false/\∃ vs,KV kvs vs/\h.DictOf (aZ prog w) a vs:=by
 obtain ⟨h1,h2,h3,es,n,h4,h5,h6⟩:=d
 obtain ⟨vs,q1,q2,q3⟩:=B6.vs (prog:=prog) (w:=w) h6
 refine ⟨h1,h2,vs,q1,_,es,n,X _ _ h4,⟨rfl,rfl,rfl⟩,rfl,fun e he=>?_,q2,by rw [q3];exact h3⟩
 obtain ⟨x,t,e1,e2⟩:=h5.all e (Array.mem_toList_iff.mpr he)
 exact ⟨Sum.inr x,by rw [e1];exact g9 x t,e2⟩
theorem GF {K:W.Frag} {C:Addr} {bmB:List Value} {newId:String} (q:W.excIn K C bmB newId=true):∃ bm,oB K C bmB newId bm/\∀ v b,W.mroIn K C v=some b->(Value.ref C::bm).contains v=b:=by
 unfold W.excIn at q
 split at q
 ·rename_i dd cd sl lk
  split at q
  ·rename_i C2 bm a0 a1 a2 a3 n a5 hm hs
   simp only [beq_iff_eq,Bool.not_eq_true',Bool.and_eq_true] at q;obtain ⟨⟨⟨⟨⟨rfl,rfl⟩,dl⟩,ht⟩,hok⟩,hni⟩:=q
   obtain ⟨nm,bs,mr,ns,qn,hd,sn,sb,ab,cl,dl'⟩:=cd;dsimp only at hm dl hok hni;subst hm dl
   obtain ⟨l⟩:=sl
   simp only at hs
   subst hs
   refine ⟨bm,⟨nm,qn,ns,bs,hd,sn,sb,ab,cl,dd,a0,a1,a2,a3,a5,lk,hok,hni,ht⟩,fun v b e=>?_⟩
   unfold W.mroIn W.clsIn at e
   rw [lk] at e
   simpa using e
  ·cases q
 ·cases q
theorem jk {C:Addr} {bm:List Value} {s:String} (h:(Value.ref C::bm).contains (.type s)=true):bm.contains (.type s)=true:=by
 rw [List.contains_cons] at h
 simpa using h
noncomputable def kc (w:World) (K:W.Frag) (cl:Nat->Option Addr) (xc:Nat->Option Addr):Bd:=⟨K,Lk w K,cl,fun c cv=>∃ C,xc c=some C/\cv=.ref C,xc⟩
theorem JX {X:Cx} {cl xc:Nat->Option Addr}:jY (kc X.w X.K cl xc) X:=fun a kvs h hp KX=>Lk.ok h hp KX
structure B5 (K:W.Frag) (x qual:Str) (st:Stmt) (f:Addr) (fd:FuncData):Prop where
 ex:∃ (oc:Value) (od:Option Addr) (dV kV doc pm:Value) (an:Option Addr) (cdv ct:Value) (osl:Array (Option Value)),
  fd=W.fnOf x qual (gO st) (cG st) (aO st) dV kV doc pm an cdv ct/\K.lookup f=some ⟨oc,od,.func fd,osl⟩/\W.codeIn K cdv qual=true
noncomputable def FnAt (G:Gm) (P:mL) (K:W.Frag) (i m:Nat) (fa:Addr) (fd:FuncData) (ps:List Str):Prop:=∃ x qual st N fn,B5 K x qual st fa fd/\P.fn i=some fn/\dF N ps (aO st)/\ps.length=m/\fn.np=m/\fn.ns=N.length/\fn.j7=[]/\cC G 200 false N (aO st) (.ss (cG st) fn.body)=true
structure Md (G:Gm) (P:mL) (w:World) (K:W.Frag) (mg:Str->Option Value) (cl xc:Nat->Option Addr):Prop where
 cst:∀ x i,G.cst.lookup x=some i->∃ v u,mg x=some u/\RelV v u/\∀ d,P.glob i=some d->∀ F ρ H,RD (kc w K cl xc) F ρ H d v
 blt:∀ x,G.ou.contains x=true->mg x=none
 fns:∀ f i m,G.fns.lookup f=some (i,m)->∃ fa fd ps,mg f=some (.ref fa)/\W.keepIn K (.ref fa)=true/\Binds K fd ps []/\FnAt G P K i m fa fd ps
 cls:∀ c C,cl c=some C->Lm K C/\∀ f,G.Jy.contains f=true->xP K C f
 Ff:∀ c nm i m,G.Ff.lookup (c,nm)=some (i,m)->∃ C fa fd ps,cl c=some C/\Meth K C nm fa/\Binds K fd ps []/\FnAt G P K i m fa fd ps
 Kz:∀ x c i m,G.cls.lookup x=some (c,i,m)->∃ C fa fd ps,mg x=some (.ref C)/\cl c=some C/\Mk K C fa/\Binds K fd ps []/\FnAt G P K i m fa fd ps
 exc:∀ x c,G.exc.lookup x=some c->∃ C,mg x=some (.ref C)/\xc c=some C
 Hi:∀ c C, xc c=some C->∃ bmB newId bm base initId, oB K C bmB newId bm/\ExcBaseFacts base newId initId bmB/\bm.contains (.type "BaseException")=true/\∀ d D, xc d=some D->(Value.ref C::bm).contains (.ref D)=P.sub c d
 GK:∀ x f m d,G.GK.lookup x=some (f,m,d)->∃ fa fd ps du,mg x=some (.ref fa)/\W.keepIn K (.ref fa)=true/\Binds K fd ps [du]/\RelV (.int d) du/\FnAt G P K f m fa fd ps
 rz:G.rz=true
section
variable {G:Gm} {P:mL} {w:World} {K:W.Frag} {mg:Str->Option Value} {prog:Program} {base:Heap}
theorem uy {B:Bd} {F:Addr->Prop} {ρ:List Addr} {H:Hp} {N:List Str} {ds:List D} {vs:List V} {n:Nat} (r:aj B F ρ H ds vs) (hn:n=N.length-vs.length):RS B F ρ H (ds.map some++List.replicate n none) (L2.start N vs):=by
 subst hn
 refine ⟨by simp [L2.start,aj.length r],fun i d q=>?_⟩
 by_cases hi:i<ds.length
 ·rw [List.getElem?_append_left (by simpa using hi),List.getElem?_map] at q
  cases hd:ds[i]? with
  | none=>rw [hd] at q;cases q
  | some e =>
   rw [hd] at q
   simp only [Option.map_some,Option.some.injEq] at q
   subst q
   obtain ⟨v,h1,h2⟩:=aj.get r hd
   refine ⟨v,?_,h2⟩
   unfold L2.start
   rw [List.getElem?_append_left (by rw [List.length_map,<- aj.length r];exact hi),List.getElem?_map,h1];rfl
 ·rw [List.getElem?_append_right (by simpa using Nat.le_of_not_lt hi),List.getElem?_replicate] at q
  split at q <;> cases q
theorem kD {B:Bd} {F F':Addr->Prop} {ρ ρ':List Addr} {H H':Hp} {M M':MH} {d:D} {v:V} {kp:Bool} {Q:VK} {X:XK} (S:SR B F ρ M H) (h:Post B (bh kp M d M') F ρ H Q X) (e:Ext F ρ H F' ρ' H') (S':SR B F' ρ' M' H') (rd:RD B F' ρ' H' d v):Q v H':=by
 unfold bh at h
 split at h
 ·rename_i hk
  split at h
  ·rename_i hn
   exact h F' ρ H' v e.cut (S.cut S' e hk.2) (RD.cut e.r (by rw [S.len];exact hn) rd)
  ·rename_i hn
   split at h
   ·rename_i n
    split at h
    ·rename_i ds hM
     split at h
     ·rename_i hns
      simp only [RD] at rd
      obtain ⟨a,h1,rfl⟩:=rd
      obtain ⟨vs,h2,h3⟩:=S'.obj n a _ h1 hM
      have hlt:¬ n<M.length:=by simpa [nr] using hn
      have ha:a∉ρ:=fun z=>by
       obtain ⟨j,hj,ej⟩:=List.mem_iff_getElem.mp z
       have q:ρ'[j]? = some a:=e.at (by rw [List.getElem?_eq_getElem hj,ej])
       obtain ⟨j1,q1⟩:=List.getElem?_eq_some_iff.mp q
       obtain ⟨j2,q2⟩:=List.getElem?_eq_some_iff.mp h1
       have:=(List.getElem_inj S'.nd).mp (q1.trans q2.symm)
       rw [S.len] at hj
       omega
      have hHa:H a=none:=(e.n a (List.mem_of_getElem? h1)).resolve_left ha
      have Sc:=S.cut S' e hk.2
      have r3:=aj.cut e.r (by rw [S.len];exact hns) h3
      have xt:oE F' ρ H' (fun b=>F' b\/b=a) ρ H':=⟨fun _ q=>.inl q,fun _ _ _=>rfl,List.prefix_refl _⟩
      have ec:=e.cut
      refine h (fun b=>F' b\/b=a) ρ H' (.ref a) ⟨⟨ec.s,fun b q=>.inl (ec.f b q),ec.h,ec.r,ec.n,fun b q=>q.elim (ec.g b) fun z=>.inr (.inl (z ▸ hHa))⟩,ec.z⟩ (Sc.take ha (by rw [h2];simp)) ?_
      simp only [RD]
      exact ⟨a,vs,rfl,.inl ⟨.inr rfl,.inl h2⟩,aj.bJ xt _ _ r3⟩
     ·exact h F' ρ' H' v e S' rd
    ·exact h F' ρ' H' v e S' rd
   ·exact h F' ρ' H' v e S' rd
 ·exact h F' ρ' H' v e S' rd
theorem su {B:Bd} {F F':Addr->Prop} {ρ ρ':List Addr} {H H':Hp} {M M':MH} {c:Nat} {cv:Value} {x:Option Addr} {Q:VK} {X:XK} (S:SR B F ρ M H) (h:Post B (d8 M c M') F ρ H Q X) (e:Ext F ρ H F' ρ' H') (S':SR B F' ρ' M' H') (q:B.exc c cv):X cv x H':=by
 unfold d8 at h
 split at h
 ·rename_i hk
  exact h F' ρ H' cv x e.cut (S.cut S' e hk) q
 ·exact h F' ρ' H' cv x e S' q
noncomputable abbrev xB (X:Cx) (w:XS):Cx:=X.bZ fun e s=>j9 X (GX false X w).e e s\/DB X (GX false X w).e e s
theorem BB {x qual:Str} {st:Stmt} {f:Addr} {fd:FuncData} {N ps:List Str} {k:Nat} {sp:Sp} (F:B5 K x qual st f fd) (S:dF N ps (aO st)) (len:∀ vs H Q E,sp vs H Q E->vs.length=ps.length)
  (hbody:∀ (cdv:Value) (A:Around) (outer:List Env) (s:Shared) (H:Hp) (vs:List V) (Q:VK) (E:XK),eU k (A.deeper (PyProof.Rows.envOfC qual (aO st) s.heap.objs.size f cdv))->sp vs H Q E ->
   ∃ t,jX (xB (gP (jZ prog w) prog w K mg base N qual (aO st) f cdv A outer s H E) fun cv x _ H'=>E cv x H') (cG st) t/\t { nx:=fun _ H'=>Q .aE H',rt:=Q } (L2.start N vs) H):eN prog w K mg base (jZ prog w) (k+1) f fd ps sp:=by
 obtain ⟨oc,od,dV,kV,doc,pm,an,cdv,ct,osl,rfl,lk,hcd⟩:=F.ex
 refine Dj lk hcd S len fun A outer s H vs Q E hr h=>?_
 obtain ⟨t,h1,h2⟩:=hbody cdv A outer s H vs Q E hr h
 refine ⟨t,fun pins s1 σ H1 D I q=>?_,h2⟩
 exact wpAny_mono (h1 pins s1 σ H1 D (I.bZ _) q) (fun _ _ z=>z.bL) fun e s2 z=>z.elim (fun z=>sJ e s2 (nP z)) fun z=>leave_new e s2 (vo z)
theorem lg {cl xc:Nat->Option Addr} (D:Md G P w K mg cl xc) {k:Nat} (ih:∀ (i m:Nat) (fa:Addr) (fd:FuncData) (ps:List Str),FnAt G P K i m fa fd ps->eN prog w K mg base (jZ prog w) k fa fd ps (zd (kc w K cl xc) (aa P k) i m))
  (ih0:∀ j,k=j+1->∀ (i m:Nat) (fa:Addr) (fd:FuncData) (ps:List Str),FnAt G P K i m fa fd ps->eN prog w K mg base (jZ prog w) j fa fd ps (zd (kc w K cl xc) (aa P j) i m))
  {f qual:Str} {i m:Nat} {fa:Addr} {fd:FuncData} {ps:List Str} {st:Stmt} {N:List Str} {fn:Fn} (h2:B5 K f qual st fa fd) (h4:P.fn i=some fn) (h5:dF N ps (aO st)) (h6:ps.length=m) (h7:fn.np=m) (h8:fn.ns=N.length) (h9:fn.j7=[]) (yR:cC G 200 false N (aO st) (.ss (cG st) fn.body)=true) :
  eN prog w K mg base (jZ prog w) (k+1) fa fd ps (zd (kc w K cl xc) (aa P (k+1)) i m):=by
  refine BB h2 h5 (fun vs H Q E q=>by rw [q.1,h6]) fun cdv A outer s H vs Q E hr q=>?_
  let X0:=gP (jZ prog w) prog w K mg base N qual (aO st) fa cdv A outer s H E
  obtain ⟨hl,ds,M,F,ρ,S,rd,post⟩:=q
  have O:eT G (kc w K cl xc) (aa P k) k (xB X0 fun cv x _ H'=>E cv x H') N (aO st) false (fun cv x _ H'=>E cv x H') :=
   ⟨rfl,h5.nd,rfl,rfl,rfl,hr,JX (X:=xB X0 fun cv x _ H'=>E cv x H') (cl:=cl) (xc:=xc),(fun e s z=>z.imp (fun ⟨p,σ,H,a,a0,C,B,h1,I,h⟩=>⟨p,σ,H,a,a0,C,B,h1,I.bZ _,h⟩) fun ⟨p,σ,H,a,C,vs,hh,h1,I,h⟩=>⟨p,σ,H,a,C,vs,hh,h1,I.bZ _,h⟩),
    (fun e s ⟨p,σ,H,a,a0,C,B,h1,I,h⟩=>.inl ⟨p,σ,H,a,a0,C,B,h1,I.bL,h⟩),(fun _ _ e s ⟨p,σ,H,a,C,vs,hh,h1,I,h⟩=>.inr ⟨p,σ,H,a,C,vs,hh,h1,I.bL,h⟩),⟨_,_,_,rfl,rfl,rfl⟩,fun _ _=>rfl,(fun g j n hg=>by
    obtain ⟨fa,fd,ps,a1,a2,a3,a4⟩:=D.fns g j n hg
    exact ⟨fa,fd,ps,a1,a2,a3,ih j n fa fd ps a4⟩),fun x j hx=>by
    obtain ⟨v,u,a1,a2,a3⟩:=D.cst x j hx
    refine ⟨v,u,a1,a2,fun d hd=>a3 d ?_⟩
    cases k <;> exact hd,D.blt,D.cls,(fun c nm j n hg=>by
    obtain ⟨C,fa,fd,ps,a1,a2,a3,a4⟩:=D.Ff c nm j n hg
    exact ⟨C,fa,fd,ps,a1,a2,a3,ih j n fa fd ps a4⟩),(fun x c j n hg=>by
    obtain ⟨C,fa,fd,ps,a1,a2,a3,a4,a5⟩:=D.Kz x c j n hg
    refine ⟨C,fa,fd,ps,a1,a2,a3,a4,?_⟩
    cases k with
    | zero=>exact .inr fun _ _=>rfl
    | succ k'=>exact .inl ⟨k',rfl,ih0 k' rfl j n fa fd ps a5⟩),(fun x c hx=>by
    obtain ⟨C,a1,a2⟩:=D.exc x c hx
    obtain ⟨bmB,newId,bm,base,initId,a3,a4,a5,_⟩:=D.Hi c C a2
    exact ⟨C,bmB,newId,bm,base,initId,a1,a2,⟨C,a2,rfl⟩,a3,a4,a5⟩),(fun c cv hc=>by
    obtain ⟨C,a2,rfl⟩:=hc
    obtain ⟨bmB,newId,bm,base,initId,a3,a4,a5,a6⟩:=D.Hi c C a2
    refine ⟨C,bmB,newId,bm,rfl,a3,fun d D' hd=>(a6 d D' hd).trans ?_⟩
    cases k <;> rfl),(fun x f m d hd=>by
    obtain ⟨fa,fd,ps,du,a1,a2,a3,a4,a5⟩:=D.GK x f m d hd
    exact ⟨fa,fd,ps,du,a1,a2,a3,a4,ih f m fa fd ps a5⟩),fun _=>⟨rfl,rfl⟩⟩
  refine ⟨_,(sound 200 O).ss _ _ yR,_,M,F,ρ,S,uy (n:=fn.ns-fn.np) rd (by rw [h8,h7,hl]),?_⟩
  have hds:ds.length=m:=by rw [aj.length rd,hl]
  have hc:(aa P (k+1)).call i ds M=aT (aa P k) fn ds M:=by simp only [aa,h4]
  rw [hc] at post
  have hz:ds.length+fn.j7.length-fn.np=0:=by rw [h9,h7,hds];simp
  unfold aT at post
  rw [if_pos (by rw [h9,h7,hds];simp),hz,h9] at post
  simp only [List.drop_nil,List.append_nil] at post
  cases hx:exs (aa P k) fn.body (ds.map some++List.replicate (fn.ns-fn.np) none) M with
  | bad=>rw [hx] at post;exact post
  | exc c M'=>rw [hx] at post;exact post
  | ok o M' =>
   rw [hx] at post
   intro F' ρ' H' e S'
   cases o with
   | rt d=>exact fun v q=>kD S post e S' q
   | nx σ'=>exact fun σ q=>kD S post e S' (d:=.aE) (v:=.aE) (by simp only [RD])
   | bk _=>exact post.elim
   | ct _=>exact post.elim
   | xc c σ' =>
    intro σ cv x q1 q2
    exact ⟨H',.refl _,su S post e S' q2⟩
theorem jV {cl xc:Nat->Option Addr} (D:Md G P w K mg cl xc):∀ (k:Nat) (i m:Nat) (fa:Addr) (fd:FuncData) (ps:List Str),FnAt G P K i m fa fd ps->eN prog w K mg base (jZ prog w) k fa fd ps (zd (kc w K cl xc) (aa P k) i m)
 | 0, i, m, fa, fd, ps, h=>by
  have no:∀ vs H Q E,¬ zd (kc w K cl xc) (aa P 0) i m vs H Q E:=fun vs H Q E q=>by
   obtain ⟨_,ds,M,F,ρ,_,_,q⟩:=q
   exact q
  exact ⟨fun vs H Q E q=>absurd q (no vs H Q E),fun A outer s H args us vs Q E _ _ _ _ q=>absurd q (no vs H Q E)⟩
 | 1,i,m,fa,fd,ps,h=>by
  obtain ⟨x,qual,st,N,fn,h2,h4,h5,h6,h7,h8,h9,yR⟩:=h
  exact lg D (jV D 0) (fun j e=>by cases e) h2 h4 h5 h6 h7 h8 h9 yR
 | k+2,i,m,fa,fd,ps,h=>by
  obtain ⟨x,qual,st,N,fn,h2,h4,h5,h6,h7,h8,h9,yR⟩:=h
  exact lg D (jV D (k+1)) (fun j e=>by cases e;exact jV D k) h2 h4 h5 h6 h7 h8 h9 yR
noncomputable def Cn (K:W.Frag):Sp:=fun vs H Q _=>∃ (a:Addr) (ns:List Int),vs=[.ref a]/\fU K H a (ns.map V.int)/\ns.length<=63/\∀ H',Q (.bl true) H'
theorem Fx {cl xc:Nat->Option Addr} (D:Md G P w K mg cl xc) {f qual:Str} {i k:Nat} (hP:∀ ns:List Int,ns.length<=63->∃ M',(aa P (k+1)).call i [.lst (ns.map .int)] []=.ok (.bl true) M')
  {fa:Addr} {fd:FuncData} {ps:List Str} {st:Stmt} {N:List Str} {fn:Fn} (h2:B5 K f qual st fa fd) (h4:P.fn i=some fn) (h5:dF N ps (aO st)) (h6:ps.length=1) (h7:fn.np=1) (h8:fn.ns=N.length) (h9:fn.j7=[]) (yR:cC G 200 false N (aO st) (.ss (cG st) fn.body)=true) :
  eN prog w K mg base (jZ prog w) (k+1) fa fd ps (Cn K):=by
 refine (lg (prog:=prog) (base:=base) D (jV D k) (fun j _=>jV D j) h2 h4 h5 h6 h7 h8 h9 yR).imp fun vs H Q E q=>?_
 obtain ⟨a,ns,rfl,hS,hl,q⟩:=q
 obtain ⟨M',hM⟩:=hP ns hl
 have C9:∀ (F:Addr->Prop) (ns:List Int),aj (kc w K cl xc) F [] H (ns.map Fg.D.int) (ns.map V.int):=by
  intro F ns
  induction ns with
  | nil=>exact aj.nil
  | cons n ns ih=>exact aj.cons (by simp only [RD]) ih
 have fin:∀ F:Addr->Prop,Post (kc w K cl xc) ((aa P (k+1)).call i [.lst (ns.map .int)] []) F [] H Q E:=by
  intro F
  rw [hM]
  intro F' ρ' H' v e S' rd
  simp only [RD] at rd
  subst rd
  exact q H'
 rcases hS with hS | hS
 ·refine ⟨rfl,[.lst (ns.map .int)],[],fun b=>b=a,[],⟨rfl,List.nodup_nil,fun _ z=>by simp at z,fun b e=>by rw [e];exact Cr hS,fun n b o z=>by simp at z⟩,?_,fin _⟩
  refine aj.cons ?_ aj.nil
  simp only [RD]
  exact ⟨a,_,rfl,.inl ⟨rfl,hS⟩,C9 _ ns⟩
 ·refine ⟨rfl,[.lst (ns.map .int)],[],fun _=>False,[],⟨rfl,List.nodup_nil,fun _ z=>by simp at z,fun b e=>e.elim,fun n b o z=>by simp at z⟩,?_,fin _⟩
  refine aj.cons ?_ aj.nil
  simp only [RD]
  exact ⟨a,_,rfl,.inr hS,C9 _ ns⟩
end
end Fg
end
section
namespace Fg
open PySem PySem.Spec L2
theorem qc:∀ {ps:List Str} {us:List Value} {n:Str},n∉ps->(ps.zip us).lookup n=none
 | [],_,_,_=>rfl
 | _::_,[],_,_=>rfl
 | p::ps,u::us,n,h=>by
  rw [List.zip_cons_cons,List.lookup_cons,show (n == p)=false from beq_eq_false_iff_ne.mpr fun e=>h (e ▸ List.mem_cons_self)]
  exact qc fun z=>h (List.mem_cons_of_mem _ z)
theorem jm:∀ {ps:List Str} {us:List Value} {n:Str},n∈ps->ps.length<=us.length->((ps.zip us).lookup n).isNone=false
 | p::ps,[],n,_,hl=>by simp at hl
 | p::ps,u::us,n,h,hl=>by
  rw [List.zip_cons_cons,List.lookup_cons]
  cases e:n == p with
  | true=>rfl
  | false =>
   have e:=beq_eq_false_iff_ne.mp e
   exact jm ((List.mem_cons.mp h).resolve_left e) (by simpa using hl)
theorem nO {α β:Type} {f g:α->Option β}:∀ {l:List α},(∀ n∈l,f n=g n)->l.filterMap f=l.filterMap g
 | [],_=>rfl
 | a::l,h=>by
  rw [List.filterMap_cons,List.filterMap_cons,h a List.mem_cons_self,nO fun n hn=>h n (List.mem_cons_of_mem _ hn)]
theorem iY:∀ {ps:List Str} {us:List Value},ps.Nodup->us.length=ps.length->(ps.filterMap fun n=>((ps.zip us).lookup n).map (n,·))=ps.zip us
 | [],_,_,_=>rfl
 | p::ps,[],_,hl=>by simp at hl
 | p::ps,u::us,nd,hl=>by
  rw [List.nodup_cons] at nd
  rw [List.zip_cons_cons,List.filterMap_cons,List.lookup_cons,beq_self_eq_true]
  simp only [Option.map_some]
  congr 1
  refine Eq.trans ?_ (iY (us:=us) nd.2 (by simpa using hl))
  exact nO fun n hn=>by rw [List.lookup_cons,show (n == p)=false from beq_eq_false_iff_ne.mpr fun e=>nd.1 (e ▸ hn)]
noncomputable def jw (a:Arguments) (ps:List Str):Bool:=a.posonlyargs.isEmpty&&a.kwonlyargs.isEmpty&&a.vararg.isNone&&a.kwarg.isNone&&decide (a.args.map (·.arg)=ps)
section
variable {s:Shared} {fd:FuncData} {ps:List Str} {us:List Value}
theorem iK {us:List Value} {qs:List Str} (h:∀ n∈qs,((ps.zip us).lookup n).isNone=false):(qs.filter fun n=>((ps.zip us).lookup n).isNone)=[]:=by
 rw [List.filter_eq_nil_iff]
 intro n hn
 rw [h n hn]
 decide
theorem iQ (hp:jw fd.params ps=true) (nd:ps.Nodup) (hd:fd.defaults=.none) (hl:us.length=ps.length):BindsTo s fd ⟨us,[]⟩ (ps.zip us):=by
 simp only [jw,Bool.and_eq_true,List.isEmpty_iff,Option.isNone_iff_eq_none,decide_eq_true_eq] at hp
 obtain ⟨⟨⟨⟨h1,h2⟩,h3⟩,h4⟩,h5⟩:=hp
 refine BindsTo.of_eq ?_
 unfold bindArgs
 simp only [h1,h2,h3,h4,h5,hd,List.map_nil,List.nil_append,List.append_nil,List.forIn_nil,Option.isNone_none,Bool.and_true,pure_bind]
 rw [show seqItems? Value.none=pure none from rfl,pure_bind]
 simp only [Option.getD_none,List.length_nil,Nat.zero_sub,List.drop_zero,Nat.sub_zero,List.take_length]
 rw [iK fun n hn=>jm hn (Nat.le_of_eq hl.symm),if_neg (by rw [hl];simp)]
 simp only [List.isEmpty_nil,Bool.not_true,Bool.false_eq_true,if_false,List.drop_length,List.zip_nil_left,List.forIn_nil,pure_bind]
 rw [iY nd hl]
theorem kU (hp:jw fd.params ps=true) (nd:ps.Nodup) {T:Addr} {o:Obj} {its:Array Value} {n:Nat} {du:Value} (hd:fd.defaults=.ref T) (ho:s.heap.get? T=some o) (hs:o.data=.seq its n) (hi:its.toList=[du])
  {ds:List Value} (hds:ds=[]\/ds=[du]) (hl:(us++ds).length=ps.length) (h0:ps≠[]):BindsTo s fd ⟨us,[]⟩ (ps.zip (us++ds)):=by
 simp only [jw,Bool.and_eq_true,List.isEmpty_iff,Option.isNone_iff_eq_none,decide_eq_true_eq] at hp
 obtain ⟨⟨⟨⟨h1,h2⟩,h3⟩,h4⟩,h5⟩:=hp
 obtain ⟨qs,z,rfl⟩:∃ qs z,ps=qs++[z]:=by
  rcases List.eq_nil_or_concat ps with e | ⟨qs,z,e⟩
  ·exact absurd e h0
  ·exact ⟨qs,z,by simpa using e⟩
 intro M A E Q hq
 unfold bindArgs
 simp only [h1,h2,h3,h4,h5,hd,List.map_nil,List.nil_append,List.append_nil,List.forIn_nil,Option.isNone_none,Bool.and_true,pure_bind]
 refine wpAny_bind (wpAny_seqItems ho hs ?_)
 simp only [Option.getD_some,hi,List.length_append,List.length_cons,List.length_nil] at hl ⊢
 have hz:z∉qs:=fun m=>by
  rw [List.nodup_append] at nd
  exact nd.2.2 z m z List.mem_cons_self rfl
 rw [show (0+1-(qs.length+(0+1)))=0 by omega,List.drop_zero,List.length_cons,List.length_nil,show qs.length+(0+1)-(0+1)=qs.length by omega,List.take_left,List.drop_left,
  iK (fun n hn=>?_),if_neg (by simp;rcases hds with rfl | rfl <;> simp at hl <;> omega)]
 ·simp only [List.isEmpty_nil,Bool.not_true,Bool.false_eq_true,if_false,List.zip_cons_cons,List.zip_nil_right,List.forIn_cons,List.forIn_nil,pure_bind]
  rcases hds with rfl | rfl
  ·rw [List.append_nil] at hq
   rw [jm (by simp) (by simp at hl ⊢;omega)]
   simp only [Bool.false_eq_true,if_false,pure_bind]
   rw [iY nd (by simpa using hl)]
   exact wpAny_pure hq
  ·have hl':us.length=qs.length:=by simp at hl;omega
   have e:(qs++[z]).zip us=qs.zip us:=by
    rw [show us=us++[] by simp,List.zip_append hl'.symm];simp
   have e2:(qs++[z]).zip (us++[du])=qs.zip us++[(z,du)]:=by
    rw [List.zip_append hl'.symm];simp
   rw [e,qc hz]
   simp only [Option.isNone_none,if_true,pure_bind]
   rw [<- e2,iY nd (by simpa using hl)]
   exact wpAny_pure hq
 ·rcases hds with rfl | rfl
  ·exact jm (by simp [hn]) (by simp at hl ⊢;omega)
  ·have hl':us.length=qs.length:=by simp at hl;omega
   have e:(qs++[z]).zip us=qs.zip us:=by
    rw [show us=us++[] by simp,List.zip_append hl'.symm];simp
   rw [e]
   exact jm hn (Nat.le_of_eq hl'.symm)
end
end Fg
end
section
namespace Fg
open PySem PySem.Spec L2
theorem Dy {K:W.Frag} {x:Str} {a:Addr} (h:adr K x=some a):W.nsIn K mainGlobals x=some (some (.ref a)):=by
 unfold adr at h
 split at h
 ·rename_i e;cases h;exact e
 ·cases h
theorem nY {K:W.Frag} {v:Value} (h:iF K v=some none):v=.none:=by
 unfold iF at h
 split at h
 ·rfl
 ·split at h
  ·split at h <;> cases h
  ·cases h
 ·cases h
theorem nX {K:W.Frag} {v:Value} {d:Int} (h:iF K v=some (some d)):∃ T oc od its n sl tk,v=.ref T/\K.lookup T=some ⟨oc,od,.seq its n,sl⟩/\its.toList=[.int d tk]:=by
 unfold iF at h
 split at h
 ·cases h
 ·split at h
  ·rename_i T _ oc od its n sl lk
   split at h
   ·rename_i _ d' tk hi
    cases h
    exact ⟨T,oc,od,its,n,sl,tk,rfl,lk,hi⟩
   ·cases h
  ·cases h
 ·cases h
theorem wQ {K:W.Frag} {f:Addr} {r:Row} (h:nN K f=some r.good):∃ oc od dV kV doc pm an cdv ct osl,
  K.lookup f=some ⟨oc,od,.func (W.fnOf r.x r.ql (gO r.st) (cG r.st) (aO r.st) dV kV doc pm an cdv ct),osl⟩/\W.codeIn K cdv r.ql=true/\iF K dV=some r.j7:=by
 unfold nN at h
 split at h
 ·rename_i oc od fd osl lk
  simp only [Row.good,Option.some.injEq,Prod.mk.injEq] at h
  obtain ⟨h1,h2,h3,h4,h5,h6,h7,h8,h9,yR⟩:=h
  obtain ⟨f1,f2,f3,f4,f5,f6,f7,f8,f9,f10,f11,f12,f13,f14,f15⟩:=fd
  dsimp only at h1 h2 h3 h4 h5 h6 h7 h8 h9 yR
  subst h1 h2 h3 h4 h5 h6 h7 h8
  exact ⟨oc,od,f8,f9,f10,f11,f12,f13,f14,osl,lk,yR,h9⟩
 ·cases h
noncomputable def scB (N P:List Str) (sc:Scope):Bool:=decide (sc.kind=.function)&&!sc.isCoroutine&&!sc.isGenerator&&decide N.Nodup&&decide (N.take P.length=P) &&
 (P.all fun x=>decide (sc.names.lookup x=some .local)||decide (sc.names.lookup x=some .cell))&&sc.names.all fun y=>decide (y.2≠.free)
theorem HZ {N P:List Str} {sc:Scope} (h:scB N P sc=true):dF N P sc:=by
 simp only [scB,Bool.and_eq_true,decide_eq_true_eq,Bool.not_eq_true',List.all_eq_true,Bool.or_eq_true] at h
 obtain ⟨⟨⟨⟨⟨⟨h1,h2⟩,h3⟩,h4⟩,h5⟩,h6⟩,h7⟩:=h
 exact ⟨h1,h2,h3,h4,h5,h6,h7⟩
noncomputable def Row.ok (G:Gm) (P:mL) (r:Row):Bool:=match P.fn r.i with
 | some fn=>scB r.N r.ps (aO r.st)&&jw (gO r.st) r.ps&&decide (fn.np=r.ps.length)&&decide (fn.ns=r.N.length)&&fn.j7.isEmpty&&(r.j7.isNone||!r.ps.isEmpty)&&cC G 200 false r.N (aO r.st) (.ss (cG r.st) fn.body)
 | none=>false
structure Rw (G:Gm) (P:mL) (K:W.Frag) (r:Row) (f:Addr) (fd:FuncData):Prop where
 at_:FnAt G P K r.i r.ps.length f fd r.ps
 bd:Binds K fd r.ps []
 kp:W.keepIn K (.ref f)=true
 bn:r.j7=none->∀ (s:Shared) (us:List Value),us.length=r.ps.length->BindsTo s fd ⟨us,[]⟩ (r.ps.zip us)
 df:∀ d,r.j7=some d->∃ tk,Binds K fd r.ps [.int d tk]
theorem Bo {K:W.Frag} {f:Addr} {oc:Value} {od:Option Addr} {fd:FuncData} {sl:Array (Option Value)} (h:K.lookup f=some ⟨oc,od,.func fd,sl⟩):W.keepIn K (.ref f)=true:=by
 simp only [W.keepIn,h]
theorem uN {G:Gm} {P:mL} {K:W.Frag} {r:Row} {f:Addr} (h:nN K f=some r.good) (ok:r.ok G P=true):∃ fd,Rw G P K r f fd:=by
 obtain ⟨oc,od,dV,kV,doc,pm,an,cdv,ct,osl,lk,hc,hd⟩:=wQ h
 unfold Row.ok at ok
 split at ok
 ·rename_i fn hf
  simp only [Bool.and_eq_true,decide_eq_true_eq,List.isEmpty_iff] at ok
  obtain ⟨⟨⟨⟨⟨⟨k1,k2⟩,k3⟩,k4⟩,k5⟩,k6⟩,k7⟩:=ok
  have S:=HZ k1
  have nd:r.ps.Nodup:=by rw [<- S.pre];exact S.nd.sublist (List.take_sublist _ _)
  refine ⟨_,⟨_,_,_,_,_,⟨⟨oc,od,dV,kV,doc,pm,an,cdv,ct,osl,rfl,lk,hc⟩⟩,hf,S,rfl,k3,k4,k5,k7⟩,?_,Bo lk,fun e s us hl=>?_,fun d e=>?_⟩
  ·intro s us KX hl
   cases e:r.j7 with
   | none =>
    rw [e] at hd
    rw [List.append_nil] at hl ⊢
    exact iQ k2 nd (nY hd) hl
   | some d =>
    rw [e] at hd k6
    obtain ⟨T,o1,o2,its,n,sl,tk,rfl,lT,hi⟩:=nX hd
    exact kU k2 nd rfl (KX _ _ lT) rfl hi (.inl rfl) hl (by simpa using k6)
  ·rw [e] at hd
   exact iQ k2 nd (nY hd) hl
  ·rw [e] at hd k6
   obtain ⟨T,o1,o2,its,n,sl,tk,rfl,lT,hi⟩:=nX hd
   exact ⟨tk,fun s us KX hl=>kU k2 nd rfl (KX _ _ lT) rfl hi (.inr rfl) hl (by simpa using k6)⟩
 ·cases ok
end Fg
end
section
namespace Fg
open PySem PySem.Spec L2
theorem mem_of_lookup {α β:Type} [BEq α] [LawfulBEq α] {x:α} {b:β}:∀ {l:List (α×β)},l.lookup x=some b->(x,b)∈l
 | [],h=>by cases h
 | (y, c)::l, h=>by
  rw [List.lookup_cons] at h
  by_cases e:x=y
  ·subst e;simp at h;subst h;exact List.mem_cons_self
  ·rw [show (x == y)=false from beq_eq_false_iff_ne.mpr e] at h
   exact List.mem_cons_of_mem _ (mem_of_lookup h)
theorem cN {α β:Type} {f g:α->β}:∀ {l:List α},l.map f=l.map g->∀ a∈l,f a=g a
 | [],_,_,h=>by cases h
 | b::l,e,a,h=>by
  rw [List.map_cons,List.map_cons,List.cons.injEq] at e
  rcases List.mem_cons.mp h with rfl | h
  ·exact e.1
  ·exact cN e.2 a h
noncomputable def Tb.gm (t:Tb):Gm:=⟨t.fn.map fun r=>(r.x,r.i,r.ps.length),(t.cs.map fun c=>(c.1,c.2.1))++(t.ct.map fun c=>(c.1,c.2.1))++(t.cd.map fun c=>(c.1,c.2.1)),t.bl,
 t.mt.filterMap fun r=>if r.2.x=("__init__" : Str) then (t.cl[r.1]?).map fun x=>(x, r.1, r.2.i, r.2.ps.length) else none,
 t.mt.filterMap fun r=>if r.2.x=("__init__" : Str) then none else some ((r.1, r.2.x), r.2.i, r.2.ps.length), t.fl, t.xc.zipIdx,
 t.fn.filterMap fun r=>r.j7.map fun d=>(r.x,r.i,r.ps.length,d),true⟩
noncomputable def DS:D->Option Str
 | .str x=>some x
 | _=>none
noncomputable def intD:D->Option Int
 | .int x=>some x
 | _=>none
noncomputable def Tb.okC (t:Tb) (P:mL):Bool:=(t.cs.all fun c=>match P.glob c.2.1 with
 | some (.int n)=>decide (n=c.2.2)
 | _=>false)&&(t.ct.all fun c=>decide (c.2.2.length<=sizeLine)&&match P.glob c.2.1 with
 | some (.tup ds)=>decide (ds.map DS=c.2.2.map some)
 | _=>false)&&t.cd.all fun c=>decide (c.2.2.length<=sizeLine)&&decide (c.2.2.map fun z=>z.1).Nodup&&match P.glob c.2.1 with
 | some (.dct ks ds)=>decide (ks=c.2.2.map fun z=>Sum.inr z.1)&&decide (ds.map intD=c.2.2.map fun z=>some z.2)
 | _=>false
noncomputable def Tb.ok (t:Tb) (G:Gm) (P:mL):Bool:=(t.fn.all fun r=>r.ok G P)&&(t.mt.all fun r=>r.2.ok G P)&&t.okC P
theorem kq:∀ {us:List Value} {xs:List Str},us.map strOf=xs.map some->Vals (xs.map .str) us
 | [],[],_=>.nil
 | [],_::_,h=>by cases h
 | _::_,[],h=>by cases h
 | u::us,x::xs,h=>by
  rw [List.map_cons,List.map_cons,List.cons.injEq] at h
  refine .cons ?_ (kq h.2)
  have h1:=h.1
  unfold strOf at h1
  split at h1
  ·cases h1;exact ⟨_,rfl⟩
  ·cases h1
theorem rG {w:World}:∀ {es:List DictEntry} {kvs:List (Str×Int)},(es.map fun e=>(e.hash,strOf e.key,intOf e.val))=(kvs.map fun z=>(PyData.keyHash w.params z.1,some z.1,some z.2)) ->
  W.KeysLit w.params es/\B6 es (kvs.map fun z=>(Sum.inr z.1,.int z.2))
 | [],[],_=>⟨trivial,.nil⟩
 | [],_::_,h=>by cases h
 | _::_,[],h=>by cases h
 | ⟨hh, k, v⟩::es, z::kvs, h=>by
  rw [List.map_cons,List.map_cons,List.cons.injEq,Prod.mk.injEq,Prod.mk.injEq] at h
  obtain ⟨⟨h1,h2,h3⟩,h4⟩:=h
  obtain ⟨q1,q2⟩:=rG h4
  dsimp only at h1 h2 h3
  unfold strOf at h2
  unfold intOf at h3
  split at h2
  ·cases h2
   split at h3
   ·cases h3
    exact ⟨⟨⟨_,_,rfl,h1⟩,q1⟩,.cons ⟨_,rfl⟩ q2⟩
   ·cases h3
  ·cases h2
section
variable {B:Bd} {F:Addr->Prop} {ρ:List Addr} {H:Hp}
theorem m9:∀ {ds:List D} {xs:List Str},ds.map DS=xs.map some->aj B F ρ H ds (xs.map .str)
 | [],[],_=>aj.nil
 | [],_::_,h=>by cases h
 | _::_,[],h=>by cases h
 | d::ds,x::xs,h=>by
  rw [List.map_cons,List.map_cons,List.cons.injEq] at h
  refine aj.cons ?_ (m9 h.2)
  have h1:=h.1
  unfold DS at h1
  split at h1
  ·cases h1;simp only [RD]
  ·cases h1
theorem nc:∀ {ds:List D} {kvs:List (Str×Int)},ds.map intD=(kvs.map fun z=>some z.2)->aj B F ρ H ds (kvs.map fun z=>.int z.2)
 | [],[],_=>aj.nil
 | [],_::_,h=>by cases h
 | _::_,[],h=>by cases h
 | d::ds,x::xs,h=>by
  rw [List.map_cons,List.map_cons,List.cons.injEq] at h
  refine aj.cons ?_ (nc h.2)
  have h1:=h.1
  unfold intD at h1
  split at h1
  ·cases h1;simp only [RD]
  ·cases h1
end
theorem jW {α:Type} {K:W.Frag} {x:Str} {f:Addr->Option α} {v:α} (h:(adr K x).bind f=some v):∃ a,adr K x=some a/\f a=some v:=Option.bind_eq_some_iff.mp h
theorem mG {α:Type} {K:W.Frag} {x:Str} {f:Addr->α} {v:α} (h:(adr K x).map f=some v):∃ a,adr K x=some a/\f a=v:=Option.map_eq_some_iff.mp h
section
variable {t:Tb} {P:mL} {w:World} {K:W.Frag} {h:Heap} {mg:Str->Option Value}
theorem vU (e:t.qw K=t.good P w) (ok:t.ok t.gm P=true) (r:Row) (hr:r∈t.fn):∃ f fd,adr K r.x=some f/\Rw t.gm P K r f fd:=by
 simp only [Tb.qw,Tb.good,Prod.mk.injEq] at e
 obtain ⟨f,h1,h2⟩:=jW (cN e.1 r hr)
 simp only [Tb.ok,Bool.and_eq_true,List.all_eq_true] at ok
 obtain ⟨fd,R⟩:=uN h2 (ok.1.1 r hr)
 exact ⟨f,fd,h1,R⟩
theorem CW (e:t.qw K=t.good P w) (ok:t.ok t.gm P=true) (r:Nat×Row) (hr:r∈t.mt):∃ x C f fd,t.cl[r.1]? = some x/\adr K x=some C/\W.findIn K (.ref C) r.2.x=some (some (.ref f))/\W.isFn K (.ref f)=true/\Rw t.gm P K r.2 f fd:=by
 simp only [Tb.qw,Tb.good,Prod.mk.injEq] at e
 have h1:=cN e.2.2.1 r hr
 unfold vS at h1
 obtain ⟨C,h2,h3⟩:=Option.bind_eq_some_iff.mp h1
 obtain ⟨x,h4,h5⟩:=Option.bind_eq_some_iff.mp h2
 simp only [Tb.ok,Bool.and_eq_true,List.all_eq_true] at ok
 split at h3
 ·rename_i f hf
  obtain ⟨z,h6,h7⟩:=Option.map_eq_some_iff.mp h3
  rw [Prod.mk.injEq] at h7
  rw [h7.1] at h6
  obtain ⟨fd,R⟩:=uN h6 (ok.1.2 r hr)
  exact ⟨x,C,f,fd,h4,h5,hf,h7.2,R⟩
 ·cases h3
theorem CY (e:t.qw K=t.good P w) {c:Nat} {C:Addr} (hc:(t.cl[c]?).bind (adr K)=some C):mq t K C=jh t:=by
 obtain ⟨x,h1,h2⟩:=Option.bind_eq_some_iff.mp hc
 simp only [Tb.qw,Tb.good,Prod.mk.injEq] at e
 obtain ⟨C',h3,h4⟩:=mG (cN e.2.1 x (List.mem_of_getElem? h1))
 rw [h2] at h3
 cases h3
 exact h4
theorem oF {xs:List Str} {x:Str} {c:Nat} (h:xs[c]? = some x):(x,c)∈xs.zipIdx:=List.mk_mem_zipIdx_iff_getElem?.mpr h
theorem IX (e:t.qw K=t.good P w) {c:Nat} {X:Addr} (hc:(t.xc[c]?).bind (adr K)=some X):W.excIn K X BMV "ValueError.__new__" = true/\W.mroIn K X (.type "BaseException")=some true /\
  ∀ d D,(t.xc[d]?).bind (adr K)=some D->W.mroIn K X (.ref D)=some (P.sub c d):=by
 obtain ⟨x,h1,h2⟩:=Option.bind_eq_some_iff.mp hc
 simp only [Tb.qw,Tb.good,Prod.mk.injEq] at e
 obtain ⟨C',h3,h4⟩:=mG (cN e.2.2.2.1 (x,c) (oF h1))
 rw [show adr K (x,c).1=some X from h2] at h3
 cases h3
 simp only [wV,Prod.mk.injEq] at h4
 refine ⟨h4.1,h4.2.1,fun d D hd=>?_⟩
 obtain ⟨y,h5,h6⟩:=Option.bind_eq_some_iff.mp hd
 have z:(t.xc.zipIdx.map fun y=>(adr K y.1).bind fun Y=>W.mroIn K X (.ref Y))=t.xc.zipIdx.map fun y=>some (P.sub c y.2):=by
  rw [<- h4.2.2]
  conv=>rhs;rw [<- List.zipIdx_map_fst 0 t.xc]
  rw [List.map_map]
  rfl
 have q:=cN z (y,d) (oF h5)
 rw [show adr K (y,d).1=some D from h6] at q
 exact q
theorem Tb.md (X:K.In h) (G:h.Ns mainGlobals mg) (e:t.qw K=t.good P w) (ok:t.ok t.gm P=true):Md t.gm P w K mg (fun c=>(t.cl[c]?).bind (adr K)) (fun c=>(t.xc[c]?).bind (adr K)):=by
 have G3:∀ {x a},adr K x=some a->mg x=some (.ref a):=fun q=>W.mg_of X G (Dy q)
 refine ⟨fun x i hx=>?_,fun x hx=>?_,fun f i m hx=>?_,fun c C hx=>?_,fun c nm i m hx=>?_,fun x c i m hx=>?_,fun x c hx=>?_,fun c C hx=>?_,fun x f m d hx=>?_,rfl⟩
 ·have e':=e
  simp only [Tb.qw,Tb.good,Prod.mk.injEq] at e'
  simp only [Tb.ok,Tb.okC,Bool.and_eq_true,List.all_eq_true] at ok
  obtain ⟨_,⟨ok1,ok2⟩,ok3⟩:=ok
  rcases List.mem_append.mp (mem_of_lookup hx) with hm | hm
  ·rcases List.mem_append.mp hm with hm | hm
   ·obtain ⟨c,hc,q⟩:=List.mem_map.mp hm
    cases q
    have h1:=cN e'.2.2.2.2.1 c hc
    unfold xh at h1
    split at h1
    ·rename_i n tk hn
     cases h1
     refine ⟨.int c.2.2,_,W.mg_of X G hn,⟨_,rfl⟩,fun d hd F ρ H=>?_⟩
     have h2:=ok1 c hc
     rw [hd] at h2
     split at h2
     ·rename_i n' hn'
      cases hn'
      rw [of_decide_eq_true h2]
      simp only [RD]
     ·cases h2
    ·cases h1
   ·obtain ⟨c,hc,q⟩:=List.mem_map.mp hm
    cases q
    obtain ⟨a,h1,h2⟩:=jW (cN e'.2.2.2.2.2.2.1 c hc)
    unfold um at h2
    split at h2
    ·rename_i cl od its n sl lk
     rw [Option.some.injEq,Prod.mk.injEq] at h2
     obtain ⟨rfl,h2⟩:=h2
     have h3:=ok2 c hc
     refine ⟨.ref a,_,G3 h1,rfl,fun d hd F ρ H=>?_⟩
     rw [hd] at h3
     obtain ⟨h3,h4⟩:=h3
     split at h4
     ·rename_i ds hn'
      cases hn'
      have v:=kq h2
      simp only [RD]
      exact ⟨a,_,rfl,.inr ⟨_,_,_,lk,rfl,rfl,by rw [<- Array.length_toList,<- v.length,List.length_map];exact of_decide_eq_true h3,v⟩,m9 (of_decide_eq_true h4)⟩
     ·cases h4
    ·cases h2
  ·obtain ⟨c,hc,q⟩:=List.mem_map.mp hm
   cases q
   obtain ⟨a,h1,h2⟩:=jW (cN e'.2.2.2.2.2.2.2 c hc)
   unfold xg at h2
   split at h2
   ·rename_i cl od es n sl lk
    simp only [rH,Option.some.injEq,Prod.mk.injEq] at h2
    obtain ⟨rfl,rfl,rfl,hs,h2⟩:=h2
    have h3:=ok3 c hc
    refine ⟨.ref a,_,G3 h1,rfl,fun d hd F ρ H=>?_⟩
    rw [hd] at h3
    obtain ⟨⟨h3,h5⟩,h4⟩:=h3
    split at h4
    ·rename_i ks ds hn'
     cases hn'
     simp only [Bool.and_eq_true,decide_eq_true_eq] at h4
     obtain ⟨q1,q2⟩:=rG h2
     simp only [RD]
     refine ⟨a,_,rfl,.inr ⟨?_,hs,?_,es,n,lk,q1,q2⟩,?_,?_⟩
     ·rw [List.length_map];exact of_decide_eq_true h3
     ·rw [List.map_map]
      have:=of_decide_eq_true h5
      rw [show ((fun z:Key×V=>z.1) ∘ fun z:Str×Int=>((Sum.inr z.1:Key),V.int z.2))=(fun s=>(Sum.inr s:Key)) ∘ fun z:Str×Int=>z.1 from rfl,<- List.map_map]
      exact List.pairwise_map.mpr (this.imp fun h e=>h (Sum.inr.inj e))
     ·rw [List.map_map,h4.1];rfl
     ·rw [List.map_map];exact nc h4.2
    ·cases h4
   ·cases h2
 ·have e':=e
  simp only [Tb.qw,Tb.good,Prod.mk.injEq] at e'
  exact W.mg_none_of X G (cN e'.2.2.2.2.2.1 x (List.contains_iff_mem.mp hx))
 ·obtain ⟨r,hr,q⟩:=List.mem_map.mp (mem_of_lookup hx)
  cases q
  obtain ⟨fa,fd,h1,R⟩:=vU e ok r hr
  exact ⟨fa,fd,r.ps,G3 h1,R.kp,R.bd,R.at_⟩
 ·have q:=CY e hx
  simp only [mq,jh,Prod.mk.injEq] at q
  obtain ⟨q1,q2,q3,q4,q5,q6,q7⟩:=q
  exact ⟨⟨q1,q2,q3,q4⟩,fun f hf=>cN q7 f (List.contains_iff_mem.mp hf)⟩
 ·obtain ⟨r,hr,q⟩:=List.mem_filterMap.mp (mem_of_lookup hx)
  split at q
  ·cases q
  ·cases q
   obtain ⟨x,C,f,fd,h1,h2,h3,h4,R⟩:=CW e ok r hr
   exact ⟨C,f,fd,r.2.ps,by rw [h1];exact h2,⟨h3,h4,R.kp⟩,R.bd,R.at_⟩
 ·obtain ⟨r,hr,q⟩:=List.mem_filterMap.mp (mem_of_lookup hx)
  split at q
  ·rename_i hi
   obtain ⟨y,h0,q⟩:=Option.map_eq_some_iff.mp q
   cases q
   obtain ⟨x',C,f,fd,h1,h2,h3,h4,R⟩:=CW e ok r hr
   rw [h0] at h1
   cases h1
   have hC:(t.cl[r.1]?).bind (adr K)=some C:=by rw [h0];exact h2
   have q:=CY e hC
   simp only [mq,jh,Prod.mk.injEq] at q
   rw [hi] at h3
   exact ⟨C,f,fd,r.2.ps,G3 h2,hC,⟨q.2.2.2.2.1,h3,h4,q.2.2.2.2.2.1⟩,R.bd,R.at_⟩
  ·cases q
 ·have hm:=List.mk_mem_zipIdx_iff_getElem?.mp (mem_of_lookup hx)
  have e':=e
  simp only [Tb.qw,Tb.good,Prod.mk.injEq] at e'
  obtain ⟨C,h3,_⟩:=mG (cN e'.2.2.2.1 (x,c) (oF hm))
  exact ⟨C,G3 h3,by rw [hm];exact h3⟩
 ·obtain ⟨q1,q2,q3⟩:=IX e hx
  obtain ⟨bm,ec,em⟩:=GF q1
  exact ⟨_,_,bm,_,_,ec,PySem.F.excBase_ValueError,jk (em _ _ q2),fun d D hd=>em _ _ (q3 d D hd)⟩
 ·obtain ⟨r,hr,q⟩:=List.mem_filterMap.mp (mem_of_lookup hx)
  obtain ⟨d',hd,q⟩:=Option.map_eq_some_iff.mp q
  cases q
  obtain ⟨fa,fd,h1,R⟩:=vU e ok r hr
  obtain ⟨tk,hb⟩:=R.df _ hd
  exact ⟨fa,fd,r.ps,_,G3 h1,R.kp,hb,⟨_,rfl⟩,R.at_⟩
theorem Tb.walk (t:Tb) (P:mL) {l:W.OpenLaw} {q:Program} {loose:List Str} {XP:(Str->Option Value)->Heap->Prop} {d:DefRec} {r:Row} {x:Str} (k:Nat) (hn:l.most=some 63) (hdf:d.params.defaults=[]) (hk:eU (k+1) callerA)
  (ok:t.ok t.gm P=true) (hr:r∈t.fn) (hx:d.name=r.x) (h0:r.j7=none) (hps:r.ps=[x])
  (hP:∀ ns:List Int,ns.length<=63->∃ M',(aa P (k+1)).call r.i [.lst (ns.map .int)] []=.ok (.bl true) M') :
  W.WalkO q loose XP (t.hook P).says l.row.toRowW d [] (fun f vs=>PySem.call f vs):=by
 refine Att.ow hn hdf fun w s₀ s₁ mg mb fa o pm cd doc a vs ns G Y ho hd hcd hmg hobj hints hlen hg=>?_
 obtain ⟨K,KX,e⟩:=Y
 obtain ⟨f,fd,h1,R⟩:=vU e ok r hr
 have hf:mg d.name=some (.ref f):=by rw [hx];exact W.mg_of KX G.T.g (Dy h1)
 cases hmg.symm.trans hf
 obtain ⟨y,qual,st,N,fn,F,q1,q2,q3,q4,q5,q6,q7⟩:=R.at_
 have D:=Tb.md (w:=w) KX G.T.g e ok
 have bd:=R.bn h0
 rw [hps] at bd q2 q3 q4
 exact v8 (CX:=jZ l.prog w) (sp:=Cn K) (x:=x) (fd:=fd) KX G.T.g G.T.b G.T.builtins G.T.nolimit hg hobj hints (Nat.le_trans hlen (by decide)) hk (fun base _ _=>Fx D hP F q1 q2 q3 q4 q5 q6 q7) (fun s u=>bd s [u] rfl)
  (fun H hO hS=>⟨a,ns,rfl,hS,hlen,fun _=>rfl⟩) fun H e s' ⟨_,_,_,_,_,_,_,_,_,_,_,_,z⟩=>z
end
end Fg
end
section
namespace dI
open Fg PySem
theorem fn0:aq.fn 0=some jf:=rfl
theorem Hh:aq.fn 1=some dD:=rfl
theorem fn2:aq.fn 2=some fj:=rfl
theorem fn3:aq.fn 3=some cg:=rfl
theorem fn4:aq.fn 4=some ck:=rfl
theorem K1:aq.fn 5=some aQ:=rfl
theorem Hg:aq.fn 6=some aK:=rfl
theorem pN:aq.fn 7=some au:=rfl
theorem fn8:aq.fn 8=some cF:=rfl
theorem BE:aq.fn 9=some iD:=rfl
theorem fn10:aq.fn 10=some fm:=rfl
theorem Jx:aq.fn 11=some gH:=rfl
theorem fn12:aq.fn 12=some gf:=rfl
theorem fn13:aq.fn 13=some gh:=rfl
theorem GD:aq.fn 14=some c7:=rfl
theorem fn15:aq.fn 15=some gg:=rfl
theorem GC:aq.fn 16=some cJ:=rfl
theorem Jw:aq.fn 17=some eE:=rfl
theorem GB:aq.fn 18=some eF:=rfl
theorem wR:aq.fn 19=some bQ:=rfl
theorem Ju:aq.fn 20=some bI:=rfl
theorem BF:aq.fn 21=some bX:=rfl
theorem fn22:aq.fn 22=some iO:=rfl
theorem GA:aq.fn 23=some cj:=rfl
theorem fn24:aq.fn 24=some iC:=rfl
theorem fn25:aq.fn 25=some ez:=rfl
theorem Jt:aq.fn 26=some eB:=rfl
theorem fn27:aq.fn 27=some Dk:=rfl
noncomputable def mixed (c:Int):Int:=(c % 2147483647+11)*48271*69621 % 2147483629
theorem jj {k:Nat} {c:Int} {M:MH} (hk:1<=k):(aa aq k).call 10 [.int c] M=.ok (.int (mixed c)) M:=by
 obtain ⟨k,rfl⟩:∃ j,k=j+1:=⟨k-1,by omega⟩
 rw [af fn10]
 simp [aT,fm,bC,aJ,small,bh,nr,mixed]
noncomputable def next (s k:Int):Int:=(s*48271+69621*(k+1)) % 2147483629
theorem cy {k:Nat} {s j:Int} {M:MH} (hk:1<=k):(aa aq k).call 12 [.int s,.int j] M=.ok (.int (next s j)) M:=by
 obtain ⟨k,rfl⟩:∃ j,k=j+1:=⟨k-1,by omega⟩
 rw [af fn12]
 simp [aT,gf,bC,aJ,small,bh,nr,next]
noncomputable abbrev uM:Str:=Str.ofString "num"
noncomputable abbrev bx:Str:=Str.ofString "list"
noncomputable abbrev bP:Str:=Str.ofString "pair"
noncomputable abbrev aA:D:=.tup [.str uM]
inductive Kd:Nat->D->Prop
 | num (h:Nat):Kd h aA
 | list {h:Nat} {k:D}:Kd h k->Kd (h+1) (.tup [.str bx,k])
 | pair {h:Nat} {k l:D}:Kd h k->Kd h l->Kd (h+1) (.tup [.str bP,k,l])
theorem Kd.up {h:Nat} {d:D} (q:Kd h d):Kd (h+1) d:=by
 induction q with
 | num h=>exact .num _
 | list _ ih=>exact .list ih
 | pair _ _ i j=>exact .pair i j
theorem Kd.le {h h':Nat} {d:D} (q:Kd h d) (l:h<=h'):Kd h' d:=by
 induction l with
 | refl=>exact q
 | step _ ih=>exact ih.up
theorem Kd.plain {h:Nat} {d:D} (q:Kd h d):Fg.plain d=true/\dep d<=h+1/\∀ m,nr m d=true:=by
 induction q with
 | num h=>simp [Fg.plain,ay,dep,deps,nr,aY]
 | list _ ih=>simp [Fg.plain,ay,dep,deps,nr,aY,ih.1,ih.2.2];omega
 | pair _ _ i j=>simp [Fg.plain,ay,dep,deps,nr,aY,i.1,i.2.2,j.1,j.2.2];omega
noncomputable def kinds:List D:=[aA,aA,.tup [.str bx,aA],.tup [.str bP,aA,aA],.tup [.str bx,.tup [.str bP,aA,aA]],
 .tup [.str bP,aA,.tup [.str bx,aA]],.tup [.str bx,.tup [.str bx,aA]],.tup [.str bP,.tup [.str bx,aA],.tup [.str bx,aA]],
 .tup [.str bP,.tup [.str bP,aA,aA],.tup [.str bx,aA]],.tup [.str bP,.tup [.str bx,.tup [.str bx,aA]],.tup [.str bx,aA]]]
theorem nJ:∀ d∈kinds,Kd 3 d:=by
 intro d hd
 simp only [kinds,List.mem_cons,List.not_mem_nil,or_false] at hd
 rcases hd with rfl | rfl | rfl | rfl | rfl | rfl | rfl | rfl | rfl | rfl <;> repeat (first | exact .num _ | apply Kd.list | apply Kd.pair)
theorem eK {α:Type} {xs:List α} {i:Int} (h0:0<=i) (h:i<xs.length):∃ d∈xs,jl xs i=some d:=by
 have hn:i.toNat<xs.length:=by omega
 refine ⟨xs[i.toNat],List.getElem_mem hn,?_⟩
 simp only [jl,qQ,if_pos h0,if_pos h,Option.bind_some]
 exact List.getElem?_eq_getElem hn
noncomputable def knd (p:Int):D:=(jl kinds (p % 10)).getD .aE
theorem ek (p:Int):Kd 3 (knd p):=by
 obtain ⟨d,hd,e⟩:=eK (xs:=kinds) (i:=p % 10) (by omega) (by show p % 10<10;omega)
 unfold knd;rw [e];exact nJ d hd
theorem fH {k:Nat} {p:Int} {M:MH} (hk:1<=k):(aa aq k).call 13 [.int p] M=.ok (knd p) M:=by
 obtain ⟨k,rfl⟩:∃ j,k=j+1:=⟨k-1,by omega⟩
 rw [af fn13]
 obtain ⟨d,hd,e⟩:=eK (xs:=kinds) (i:=p % 10) (by omega) (by show p % 10<10;omega)
 have hn:nr M.length d=true:=(nJ d hd).plain.2.2 _
 unfold knd
 rw [e]
 unfold kinds at e
 simp [aT,gh,bC,aJ,small,vw,aR,aH,line,e,bh,hn]
theorem GP {h:Nat} {d:D} (q:Kd h d):∃ n:Int,∀ (k:Nat) (M:MH),h+1<=k->(aa aq k).call 14 [d] M=.ok (.int n) M:=by
 induction q with
 | num h =>
  refine ⟨1,fun k M hk=>?_⟩
  obtain ⟨k,rfl⟩:∃ j,k=j+1:=⟨k-1,by omega⟩
  rw [af GD]
  simp [aT,c7,bC,aJ,sl2,vw,itemsOf,bN,aR,cz,intsOf,bh,nr]
 | @list h d _ ih =>
  obtain ⟨n,hn⟩:=ih
  refine ⟨1+(n+0),fun k M hk=>?_⟩
  obtain ⟨k,rfl⟩:∃ j,k=j+1:=⟨k-1,by omega⟩
  rw [af GD]
  simp [aT,c7,bC,aJ,sl2,vw,itemsOf,bN,aR,cz,intsOf,bh,nr,dH,sets,aG,line,hn k M (by omega)]
 | @pair h d e _ _ ih ih' =>
  obtain ⟨n,hn⟩:=ih
  obtain ⟨m,hm⟩:=ih'
  refine ⟨1+(n+m),fun k M hk=>?_⟩
  obtain ⟨k,rfl⟩:∃ j,k=j+1:=⟨k-1,by omega⟩
  rw [af GD]
  simp [aT,c7,bC,aJ,sl2,vw,itemsOf,bN,aR,cz,intsOf,bh,nr,dH,sets,aG,line,hn k M (by omega),hm k M (by omega)]
noncomputable def Sd (s:Int):Prop:=0<=s/\s<2147483648
theorem Sd.small {s:Int} (h:Sd s):small s=true:=by
 obtain ⟨a,b⟩:=h;simp [Fg.small];omega
theorem Sd.div {s:Int} (h:Sd s) (n:Int) (hn:0<n):Sd (s / n) :=
 ⟨Int.ediv_nonneg h.1 (by omega),Int.lt_of_le_of_lt (Int.ediv_le_self _ h.1) h.2⟩
theorem bM (s j:Int):Sd (next s j):=by unfold Sd next;omega
theorem m6 (s:Int):Sd (mixed s):=by unfold Sd mixed;omega
theorem rL {α:Type} (xs:List α) (lo hi:Option Int):(c8 xs lo hi).length<=xs.length:=by
 unfold c8;rw [List.length_take,List.length_drop];omega
theorem mj (x:Str) (lo hi:Option Int):(cuts x lo hi).length<=x.length:=by
 have:=rL x.cps.toList lo hi
 simpa [cuts,Str.length] using this
noncomputable def anchor:Str:=Str.ofString "anchor"
noncomputable def bO:Str:=Str.ofString "bgjkqvwxyz"
theorem jU:anchor.length=6:=by decide +kernel
theorem e7:bO.length=10:=by decide +kernel
noncomputable def bH (s:Int):Str:=cuts anchor none (some (s % 6))
noncomputable def gx (s:Int):Int:=s / 6 % ((bH s).length+1)
noncomputable def nm (s j:Int):Str:=cuts (bH s) none (some (gx s))++⟨#[(jl bO.cps.toList ((s / 60+3*j) % 10)).getD 0]⟩++cuts (bH s) (some (gx s)) none
theorem len_app (x y:Str):(x++y).length=x.length+y.length:=by
 show (Str.mk (x.cps++y.cps)).cps.size=_
 simp [Str.length]
theorem mD {k:Nat} {s j:Int} {M:MH} (hk:1<=k):(aa aq k).call 15 [.int s,.int j] M=.ok (.str (nm s j)) M:=by
 obtain ⟨k,rfl⟩:∃ j,k=j+1:=⟨k-1,by omega⟩
 rw [af fn15]
 have hb:(bH s).length<=6:=by rw [<- jU];exact mj _ _ _
 have h1:(cuts (bH s) none (some (gx s))).length<=6:=Nat.le_trans (mj _ _ _) hb
 have h2:(cuts (bH s) (some (gx s)) none).length<=6:=Nat.le_trans (mj _ _ _) hb
 obtain ⟨c,hc,e⟩:=eK (xs:=bO.cps.toList) (i:=(s / 60+3*j) % 10) (by omega) (by
  have:bO.cps.toList.length=10:=by have:=e7;simpa [Str.length] using this
  rw [this];omega)
 have a1:(anchor.length<=line)=True:=by rw [jU];simp [line]
 have a2:(bO.length<=line)=True:=by rw [e7];simp [line]
 have a3:((bH s).length<=line)=True:=eq_true (by unfold line;omega)
 have a4:(0<((bH s).length:Int)+1)=True:=eq_true (by omega)
 have a5:((cuts (bH s) none (some (gx s))).length+(Str.mk #[c]).length<=line)=True:=eq_true (by simp [Str.length] at *;unfold line;omega)
 have a6:((cuts (bH s) none (some (gx s))++(Str.mk #[c])).length+(cuts (bH s) (some (gx s)) none).length<=line)=True:=eq_true (by rw [len_app];simp [Str.length] at *;unfold line;omega)
 have b1:cuts anchor none (some (s % 6))=bH s:=rfl
 have b2:s / 6 % (((bH s).length:Int)+1)=gx s:=rfl
 unfold nm
 rw [e]
 simp only [aT, gg, bK, jN, wX, JI, w4, lX, sW, sX, wY, wZ, GH, jP, lV, show Str.ofString "anchor" = anchor from rfl, show Str.ofString "bgjkqvwxyz" = bO from rfl]
 simp [sl2,a1,a2,a3,a4,a5,a6,b1,b2,e,bC,aJ,small,cz,aH,bh,nr]
end dI
end
section
namespace dI
open Fg PySem
noncomputable abbrev bf (k:D):D:=.tup [.str bx,k]
noncomputable abbrev dz (k l:D):D:=.tup [.str bP,k,l]
noncomputable def xS:List Str:=[Str.ofString "plus", Str.ofString "minus", Str.ofString "times", Str.ofString "less"]
mutual
inductive Ty (kvs:List (Ky×D)) (fl:List D):Nat->D->D->Prop
 | number {h:Nat} {v:Int}:Ty kvs fl h aA (.tup [.str (Str.ofString "number"), .int v])
 | name {h:Nat} {x:Str} {k:D}:look kvs (.inr x)=some k->Ty kvs fl h k (.tup [.str (Str.ofString "name"), .str x])
 | nil {h:Nat} {k:D}:Kd 8 k->Ty kvs fl h (bf k) (.tup [.str (Str.ofString "nil"), k])
 | pair {h:Nat} {k l p q:D}:Ty kvs fl h k p->Ty kvs fl h l q->Ty kvs fl (h+1) (dz k l) (.tup [.str (Str.ofString "pair"), p, q])
 | first {h:Nat} {k l p:D}:Ty kvs fl h (dz k l) p->Ty kvs fl (h+1) k (.tup [.str (Str.ofString "first"), p])
 | second {h:Nat} {k l p:D}:Ty kvs fl h (dz k l) p->Ty kvs fl (h+1) l (.tup [.str (Str.ofString "second"), p])
 | cons {h:Nat} {k p q:D}:Ty kvs fl h k p->Ty kvs fl h (bf k) q->Ty kvs fl (h+1) (bf k) (.tup [.str (Str.ofString "cons"), p, q])
 | head {h:Nat} {k p:D}:Ty kvs fl h (bf k) p->Ty kvs fl (h+1) k (.tup [.str (Str.ofString "head"), p])
 | tail {h:Nat} {k p:D}:Ty kvs fl h (bf k) p->Ty kvs fl (h+1) (bf k) (.tup [.str (Str.ofString "tail"), p])
 | none {h:Nat} {k p:D}:Ty kvs fl h (bf k) p->Ty kvs fl (h+1) aA (.tup [.str (Str.ofString "none"), p])
 | op {h:Nat} {w:Str} {p q:D}:w∈xS->Ty kvs fl h aA p->Ty kvs fl h aA q->Ty kvs fl (h+1) aA (.tup [.str w,p,q])
 | ifs {h:Nat} {k p q r:D}:Ty kvs fl h aA p->Ty kvs fl h k q->Ty kvs fl h k r->Ty kvs fl (h+1) k (.tup [.str (Str.ofString "if"), p, q, r])
 | call {h:Nat} {x:Str} {ts cs:List D} {kd bd:D}:D.tup [.str x, .lst ts, kd, bd]∈fl->dX kvs fl h ts cs->Ty kvs fl (h+1) kd (.tup (.str (Str.ofString "call")::.str x::cs))
inductive dX (kvs:List (Ky×D)) (fl:List D):Nat->List D->List D->Prop
 | nil {h:Nat}:dX kvs fl h [] []
 | cons {h:Nat} {y:Str} {k p:D} {ts cs:List D}:Ty kvs fl h k p->dX kvs fl h ts cs->dX kvs fl h (.tup [.str y,k]::ts) (p::cs)
end
section
variable {kvs:List (Ky×D)} {fl:List D}
mutual
theorem Ty.up:∀ {h:Nat} {k p:D},Ty kvs fl h k p->Ty kvs fl (h+1) k p
 | _,_,_,.number=>.number
 | _,_,_,.name a=>.name a
 | _,_,_,.nil a=>.nil a
 | _,_,_,.pair a b=>.pair a.up b.up
 | _,_,_,.first a=>.first a.up
 | _,_,_,.second a=>.second a.up
 | _,_,_,.cons a b=>.cons a.up b.up
 | _,_,_,.head a=>.head a.up
 | _,_,_,.tail a=>.tail a.up
 | _,_,_,.none a=>.none a.up
 | _,_,_,.op w a b=>.op w a.up b.up
 | _,_,_,.ifs a b c=>.ifs a.up b.up c.up
 | _,_,_,.call m a=>.call m a.up
theorem dX.up:∀ {h:Nat} {ts cs:List D},dX kvs fl h ts cs->dX kvs fl (h+1) ts cs
 | _,_,_,.nil=>.nil
 | _,_,_,.cons a b=>.cons a.up b.up
end
theorem Ty.le {h h':Nat} {k p:D} (q:Ty kvs fl h k p) (l:h<=h'):Ty kvs fl h' k p:=by
 induction l with
 | refl=>exact q
 | step _ ih=>exact ih.up
mutual
theorem Ty.nr:∀ {h:Nat} {k p:D},Ty kvs fl h k p->∀ m,nr m p=true
 | _,_,_,.number,m=>by simp [Fg.nr,aY]
 | _,_,_,.name a,m=>by simp [Fg.nr,aY]
 | _,_,_,.nil a,m=>by simp [Fg.nr,aY,a.plain.2.2]
 | _,_,_,.pair a b,m=>by simp [Fg.nr,aY,a.nr m,b.nr m]
 | _,_,_,.first a,m=>by simp [Fg.nr,aY,a.nr m]
 | _,_,_,.second a,m=>by simp [Fg.nr,aY,a.nr m]
 | _,_,_,.cons a b,m=>by simp [Fg.nr,aY,a.nr m,b.nr m]
 | _,_,_,.head a,m=>by simp [Fg.nr,aY,a.nr m]
 | _,_,_,.tail a,m=>by simp [Fg.nr,aY,a.nr m]
 | _,_,_,.none a,m=>by simp [Fg.nr,aY,a.nr m]
 | _,_,_,.op w a b,m=>by simp [Fg.nr,aY,a.nr m,b.nr m]
 | _,_,_,.ifs a b c,m=>by simp [Fg.nr,aY,a.nr m,b.nr m,c.nr m]
 | _,_,_,.call w a,m=>by simp [Fg.nr,aY,a.nr m]
theorem dX.nr:∀ {h:Nat} {ts cs:List D},dX kvs fl h ts cs->∀ m,aY m cs=true
 | _,_,_,.nil,m=>by simp [aY]
 | _,_,_,.cons a b,m=>by simp [aY,a.nr m,b.nr m]
end
theorem dX.snoc {h:Nat} {y:Str} {k p:D} (q:Ty kvs fl h k p):∀ {ts cs:List D},dX kvs fl h ts cs->dX kvs fl h (ts++[.tup [.str y,k]]) (cs++[p])
 | _,_,.nil=>.cons q .nil
 | _,_,.cons a b=>.cons a (dX.snoc q b)
theorem dX.len:∀ {h:Nat} {ts cs:List D},dX kvs fl h ts cs->cs.length=ts.length
 | _,_,_,.nil=>rfl
 | _,_,_,.cons a b=>by simp [b.len]
end
noncomputable def xO (kvs:List (Ky×D)):Prop:=∀ kv∈kvs,(∃ x,kv.1=.inr x)/\Kd 3 kv.2
structure dm (M:MH) (r:Nat) (kvs:List (Ky×D)):Prop where
 at_:M[r]? = some (.dct kvs)
 ok:xO kvs
 len:kvs.length<=10
structure FlOk (fl:List D):Prop where
 ex:∀ f∈fl,∃ x ts kd bd,f=.tup [.str x,.lst ts,kd,bd]/\Kd 3 kd/\ts.length<=4/\∀ t∈ts,∃ y ky,t=.tup [.str y,ky]/\Kd 3 ky
 len:fl.length<=10
theorem BA {M:MH} {N:MH} {r:Nat} {o:MO} (h:M[r]? = some o):(M++N)[r]? = some o:=by
 obtain ⟨hl,_⟩:=List.getElem?_eq_some_iff.mp h
 rw [List.getElem?_append_left hl];exact h
theorem dm.app {M N:MH} {r:Nat} {kvs:List (Ky×D)} (h:dm M r kvs):dm (M++N) r kvs:=⟨BA h.at_,h.ok,h.len⟩
theorem lK {h h':Nat} {a b:D} (x:Kd h a) (y:Kd h' b) (hh:h<=50):az a b=true:=by
 have h1:=x.plain;have h2:=y.plain
 simp only [az,h1.1,h2.1,Bool.and_self,Bool.true_and,Bool.or_eq_true,decide_eq_true_eq]
 omega
theorem e8 {M:MH} {h:Nat} {a:D} (x:Kd h a):top M a=a:=by cases x <;> rfl
theorem nH {kvs:List (Ky×D)} {k:Ky} {d:D} (h:(k,d)∈kvs):∃ e,look kvs k=some e/\(k,e)∈kvs:=by
 induction kvs with
 | nil=>simp at h
 | cons p r ih =>
  obtain ⟨pk,pd⟩:=p
  by_cases e:pk=k
  ·subst e;exact ⟨pd,by simp [look],List.mem_cons_self⟩
  ·rcases List.mem_cons.mp h with h | h
   ·cases h;exact (e rfl).elim
   ·obtain ⟨x,h1,h2⟩:=ih h
    refine ⟨x,?_,List.mem_cons_of_mem _ h2⟩
    simp only [look,List.find?_cons,decide_eq_false e] at h1 ⊢
    exact h1
mutual
theorem jR:∀ {a b:D},Fg.plain a=true->aP a b=true->a=b
 | .aE,b,h,e=>by cases b <;> first | rfl | (simp only [aP] at e;cases e)
 | .bl _,b,h,e=>by simp [Fg.plain] at h
 | .int i,b,h,e=>by cases b <;> first | (simp only [aP] at e;cases e;done) | (simp only [aP,decide_eq_true_eq] at e;rw [e])
 | .str x,b,h,e=>by cases b <;> first | (simp only [aP] at e;cases e;done) | (simp only [aP,decide_eq_true_eq] at e;rw [e])
 | .tup xs,b,h,e=>by
  simp only [Fg.plain] at h
  cases b <;> first | (simp only [aP] at e;cases e;done) | (simp only [aP] at e;rw [lZ h e])
 | .lst xs,b,h,e=>by
  simp only [Fg.plain] at h
  cases b <;> first | (simp only [aP] at e;cases e;done) | (simp only [aP] at e;rw [lZ h e])
 | .dct _ _,b,h,e=>by simp [Fg.plain] at h
 | .ref _,b,h,e=>by simp [Fg.plain] at h
theorem lZ:∀ {a b:List D},ay a=true->cT a b=true->a=b
 | [],b,h,e=>by cases b <;> simp at e;rfl
 | x::xs,b,h,e=>by
  cases b with
  | nil=>simp at e
  | cons y ys =>
   simp only [ay,Bool.and_eq_true] at h
   simp at e
   rw [jR h.1 e.1,lZ h.2 e.2]
end
mutual
theorem cK:∀ {a:D},Fg.plain a=true->aP a a=true
 | .aE,h=>by simp
 | .bl _,h=>by simp [Fg.plain] at h
 | .int i,h=>by simp
 | .str x,h=>by simp
 | .tup xs,h=>by simp only [Fg.plain] at h;simp [cE h]
 | .lst xs,h=>by simp only [Fg.plain] at h;simp [cE h]
 | .dct _ _,h=>by simp [Fg.plain] at h
 | .ref _,h=>by simp [Fg.plain] at h
theorem cE:∀ {a:List D},ay a=true->cT a a=true
 | [],h=>by simp
 | x::xs,h=>by
  simp only [ay,Bool.and_eq_true] at h
  simp [cK h.1,cE h.2]
end
theorem rQ {kvs:List (Ky×D)} {fl:List D} {h:Nat} {d:D} (q:Kd h d):∀ (s:Int),Sd s->h<=8->∃ p,Ty kvs fl h d p/\∀ (k:Nat) (M:MH),h+2<=k->(aa aq k).call 16 [d,.int s] M=.ok p M:=by
 induction q with
 | num h =>
  intro s hs _
  obtain ⟨v,hv,e⟩:=eK (xs:=[D.int (s % 1000),D.int (s % 7),D.int (-1-s % 99),D.int (s*10 ^ 20 % 10 ^ 30)]) (i:=s / 1000 % 4) (by omega) (by simp only [List.length_cons,List.length_nil];omega)
  obtain ⟨z,rfl⟩:∃ z,v=.int z:=by
   simp only [List.mem_cons,List.not_mem_nil,or_false] at hv
   rcases hv with rfl | rfl | rfl | rfl <;> exact ⟨_,rfl⟩
  refine ⟨.tup [.str (Str.ofString "number"), .int z], .number, fun k M hk=>?_⟩
  obtain ⟨k,rfl⟩:∃ j,k=j+1:=⟨k-1,by omega⟩
  rw [af GC]
  simp at e
  simp [aT,cJ,aH,vw,av,bB,bD,bz,aC,ai,bA,top,az,Fg.plain,dep,aR,bC,aJ,hs.small,e,bh,nr,aY]
 | @list h d q' ih =>
  intro s hs hh
  refine ⟨.tup [.str (Str.ofString "nil"), d], .nil (q'.le (by omega)), fun k M hk=>?_⟩
  obtain ⟨k,rfl⟩:∃ j,k=j+1:=⟨k-1,by omega⟩
  rw [af GC]
  have z:(bx=Str.ofString "num")=False:=eq_false (by decide)
  simp [aT,cJ,aH,vw,av,bB,bD,bz,aC,ai,bA,top,az,Fg.plain,dep,aR,z,bh,nr,aY,q'.plain.2.2]
 | @pair h d e q1 q2 i1 i2 =>
  intro s hs hh
  obtain ⟨p1,w1,h1⟩:=i1 s hs (by omega)
  obtain ⟨p2,w2,h2⟩:=i2 (next s 1) (bM _ _) (by omega)
  refine ⟨.tup [.str (Str.ofString "pair"), p1, p2], .pair w1 w2, fun k M hk=>?_⟩
  obtain ⟨k,rfl⟩:∃ j,k=j+1:=⟨k-1,by omega⟩
  rw [af GC]
  have z:(bP=Str.ofString "num")=False:=eq_false (by decide)
  have z':(bP=Str.ofString "list")=False:=eq_false (by decide)
  simp [aT,cJ,aH,vw,av,bB,bD,bz,aC,ai,bA,top,az,Fg.plain,dep,aR,z,z',h1 k M (by omega),h2 k M (by omega),cy (show 1<=k by omega),bh,nr,aY,w1.nr,w2.nr]
theorem mE {fl:List D} {h:Nat} {d:D} (q:Kd h d) (hh:h<=8) {s:Int} (hs:Sd s) {M:MH} {r:Nat} {kvs:List (Ky×D)} (hn:dm M r kvs):∃ p,Ty kvs fl h d p/\∀ (k:Nat),h+3<=k->(aa aq k).call 17 [d,.int s,.ref r] M=.ok p M:=by
 obtain ⟨hM,hkv,hl⟩:=hn
 obtain ⟨p0,w0,h0⟩:=rQ (kvs:=kvs) (fl:=fl) q (s / 4) (hs.div 4 (by decide)) hh
 let P:D->Bool:=fun x=>match keyOf x with | some k=>(match look kvs k with | some e=>aP e d | none=>false) | none=>false
 let found:List D:=(kvs.map fun kv=>Bh kv.1).filter P
 have hM':(M.set r (.gM kvs))[r]? = some (.gM kvs):=qu hM
 have L:∀ k,bN (lW (aa aq k) (O.some (E.cmp .eq (E.idx (E.v 1) (E.v 2)) (E.v 0)))) (ev (aa aq k) (E.v 2)) [2] (aG (M.set r (.gM kvs)) (.ref r)) (kvs.map fun kv=>Bh kv.1) [some d,some (.ref r),none] (M.set r (.gM kvs)) []=.ok found (M.set r (.gM kvs)):=by
  intro k
  have L0:=bV (cond:=lW (aa aq k) (O.some (E.cmp .eq (E.idx (E.v 1) (E.v 2)) (E.v 0)))) (elt:=ev (aa aq k) (E.v 2)) (i:=2) (cC:=aG (M.set r (.gM kvs)) (.ref r)) (M:=M.set r (.gM kvs)) (f:=fun x=>x) (p:=P) (by simp [aG]) (kvs.map fun kv=>Bh kv.1) [] [some d,some (.ref r),none]
   (fun x hx=>by
    obtain ⟨kv,hm,rfl⟩:=List.mem_map.mp hx
    obtain ⟨⟨x,hx⟩,_⟩:=hkv kv hm
    obtain ⟨e,h1,h2⟩:=nH (k:=kv.1) (d:=kv.2) hm
    have ke:=(hkv _ h2).2
    rw [hx] at h1 ⊢
    have hc:=lK ke q (by omega)
    refine ⟨?_,fun _=>by simp⟩
    have ht:top (M.set r (.gM kvs)) e=e:=e8 ke
    have ht':top (M.set r (.gM kvs)) d=d:=e8 q
    simp [Bh,aH,vw,hM',keyOf,h1,av,bB,bD,bz,aC,ai,bA,P]
    cases ke <;> simp_all)
   (by simp [line];omega)
  rw [L0];simp [found]
 have jI:∀ k,ev (aa aq k) (E.comp true [0,2] [2] (E.v 2) (Src.e (E.v 2)) (O.some (E.cmp .eq (E.idx (E.v 1) (E.v 2)) (E.v 0)))) [some d,some (.int s),some (.ref r),none] M=.ok (.lst found) M:=by
  intro k
  simp [itemsOf,vw,hM,dH,wk_d hM,DC hM,L,DL hM,aR]
 by_cases hc:0<found.length/\0<s % 4
 ·obtain ⟨c1,c2⟩:=hc
  have hf:∀ x∈found,∃ y,x=.str y/\look kvs (.inr y)=some d:=fun x hx=>by
   obtain ⟨hx1,hx2⟩:=List.mem_filter.mp hx
   obtain ⟨kv,hm,rfl⟩:=List.mem_map.mp hx1
   obtain ⟨⟨y,hy⟩,_⟩:=hkv kv hm
   obtain ⟨e,h1,h2⟩:=nH (k:=kv.1) (d:=kv.2) hm
   rw [hy] at h1 hx2 ⊢
   refine ⟨y,rfl,?_⟩
   simp only [P,Bh,keyOf,h1] at hx2
   have ee:e=d:=jR (hkv _ h2).2.plain.1 hx2
   rw [h1,ee]
  clear_value found
  have hpos:(0:Int)<(found.length:Int):=by omega
  obtain ⟨x,hx,e⟩:=eK (xs:=found) (i:=s / 4 % found.length) (Int.emod_nonneg _ (by omega)) (Int.emod_lt_of_pos _ hpos)
  obtain ⟨y,rfl,hy⟩:=hf x hx
  refine ⟨.tup [.str (Str.ofString "name"), .str y], .name hy, fun k hk=>?_⟩
  obtain ⟨k,rfl⟩:∃ j,k=j+1:=⟨k-1,by omega⟩
  refine bY (M':=M) Jw rfl ?_ (aI (by simp [nr,aY]))
  unfold eE
  dsimp only
  refine (ao (jI k)).trans (cH (M1:=M) ?_ (bu ?_))
  ·simp [cz,vw,av,bB,bD,bz,aC,ai,bA,bC,aJ,c1,c2]
  ·simp [cz,vw,bC,aJ,c1,aH,e]
 ·clear_value found
  refine ⟨p0,w0,fun k hk=>?_⟩
  obtain ⟨k,rfl⟩:∃ j,k=j+1:=⟨k-1,by omega⟩
  refine bY (M':=M) Jw rfl ?_ (aI (w0.nr _))
  unfold eE
  dsimp only
  refine (ao (jI k)).trans ((aB (M1:=M) ?_).trans (bu ?_))
  ·by_cases c1:0<found.length
   ·have c2:¬ 0<s % 4:=fun z=>hc ⟨c1,z⟩
    simp [cz,vw,av,bB,bD,bz,aC,ai,bA,bC,aJ,c1,c2]
   ·simp [cz,vw,av,bB,bD,bz,aC,ai,bA,bC,aJ,c1]
  ·simp [bC,aJ,h0 k M (by omega)]
end dI
end
section
namespace dI
open Fg PySem
noncomputable def eL (fl:List D) (dp H F:Nat):Prop:=∀ (k:Nat),F<=k->∀ (h:Nat) (d:D),Kd h d->h+dp<=8->∀ (s:Int),Sd s->∀ (M:MH) (r:Nat) (kvs:List (Ky×D)),dm M r kvs ->
 ∃ p,Ty kvs fl H d p/\(aa aq k).call 20 [d,.int s,.ref r,.lst fl,.int dp] M=.ok p M
theorem BU {fl:List D} {k:Nat} {h:Nat} {d:D} (q:Kd h d) (hh:h<=8) {s:Int} (hs:Sd s) {M:MH} {r:Nat} {kvs:List (Ky×D)} (hn:dm M r kvs) (hk:h+4<=k):∃ p,Ty kvs fl 8 d p/\(aa aq k).call 20 [d,.int s,.ref r,.lst fl,.int 0] M=.ok p M:=by
 obtain ⟨p,w,e⟩:=mE (fl:=fl) q hh hs hn
 refine ⟨p,w.le hh,?_⟩
 obtain ⟨k,rfl⟩:∃ j,k=j+1:=⟨k-1,by omega⟩
 rw [af Ju]
 simp [aT,bI,av,bB,bD,bz,aC,ai,bA,e k (by omega),bh,w.nr]
theorem part0 {fl:List D}:eL fl 0 8 12:=fun k hk h d q hh s hs M r kvs hn=>BU q (by omega) hs hn (by omega)
theorem BC {fl:List D} {k:Nat} {dp H F:Nat} (IH:eL fl dp H F) (hk:F<=k) (hk1:1<=k) {M:MH} {r:Nat} {kvs:List (Ky×D)} (hn:dm M r kvs) {d x1:D} {s:Int} {x:Str} {ts:List D} {kd bd:D} (hts:ts.length<=4) (G7:3+dp<=8)
  (ht:∀ t∈ts,∃ y ky,t=.tup [.str y,ky]/\Kd 3 ky) (body:Ss)
  (hb:body=Ss.cons (S.ex (E.o9 .append true (E.v 7) (Es.cons (E.call 20 (Es.cons (E.idx (E.idx (E.idx (E.v 6) (E.k (.int 1))) (E.v 8)) (E.k (.int 1))) (Es.cons (E.call 12 (Es.cons (E.v 1) (Es.cons (E.v 8) Es.nil))) (Es.cons (E.v 2) (Es.cons (E.v 3) (Es.cons (E.op .sub true (E.v 4) (E.k (.int 1))) Es.nil)))))) Es.nil))) Ss.nil) :
  ∃ cs σ',dX kvs fl H ts cs/\σ'[7]? = some (some (.ref M.length)) /\
   bS (exs (aa aq k) body) [8] (aG (M++[.lst [.str (Str.ofString "call"), .str x]]) .aE) (aW 0 ts.length) [some d, some (.int s), some (.ref r), some (.lst fl), some (.int (dp+1)), some x1, some (.tup [.str x, .lst ts, kd, bd]), some (.ref M.length), none] (M++[.lst [.str (Str.ofString "call"), .str x]])
   =.ok (.nx σ') (M++[.lst (.str (Str.ofString "call")::.str x::cs)]):=by
 subst hb
 refine fM (i:=8) (cC:=aG (M++[.lst [.str (Str.ofString "call"), .str x]]) .aE) (Q:=fun r=>∃ cs σ', dX kvs fl H ts cs/\σ'[7]? = some (some (.ref M.length))/\r=.ok (.nx σ') (M++[.lst (.str (Str.ofString "call")::.str x::cs)]))
  (fun ds σ M'=>∃ cs z, dX kvs fl H (ts.take cs.length) cs/\ds=(aW 0 ts.length).drop cs.length/\cs.length<=ts.length/\M'=M++[.lst (.str (Str.ofString "call")::.str x::cs)]/\σ=[some d, some (.int s), some (.ref r), some (.lst fl), some (.int (dp+1)), some x1, some (.tup [.str x, .lst ts, kd, bd]), some (.ref M.length), z])
  (aW 0 ts.length) _ _ ⟨[],none,.nil,by simp,by simp,rfl,rfl⟩ ?_ ?_
 ·rintro e ds σ M' ⟨cs,z,w,hd,hl,rfl,rfl⟩
  have hlt:cs.length<ts.length:=by
   rcases Nat.lt_or_ge cs.length ts.length with q | q
   ·exact q
   ·have:(aW 0 ts.length).drop cs.length=[]:=List.drop_eq_nil_of_le (by simp [aW];omega)
    rw [this] at hd;cases hd
  have he:e=.int cs.length/\ds=(aW 0 ts.length).drop (cs.length+1):=by
   have hr:cs.length<(aW 0 (ts.length:Int)).length:=by simp [aW];omega
   rw [List.drop_eq_getElem_cons hr] at hd
   injection hd with h1 h2
   refine ⟨?_,h2⟩
   rw [h1];simp [aW]
  obtain ⟨rfl,rfl⟩:=he
  obtain ⟨y,ky,et,hky⟩:=ht ts[cs.length] (List.getElem_mem hlt)
  have ea:jl ts (cs.length:Int)=some (.tup [.str y,ky]):=by
   simp only [jl,qQ,if_pos (show (0:Int)<=(cs.length:Int) by omega),if_pos (show (cs.length:Int)<ts.length by omega),Option.bind_some,Int.toNat_natCast]
   rw [List.getElem?_eq_getElem hlt,et]
  obtain ⟨p, wp, ep⟩:=IH k hk 3 ky hky G7 (next s cs.length) (bM _ _) (M++[.lst (.str (Str.ofString "call")::.str x::cs)]) r kvs hn.app
  have fc:(dp:Int)+1-1=dp:=by omega
  have w2:=dX.snoc (y:=y) wp w
  rw [<- et,<- List.take_succ_eq_append_getElem hlt] at w2
  refine ⟨_, M++[.lst (.str (Str.ofString "call")::.str x::(cs++[p]))], .inl ?_, by simp [aG], ⟨cs++[p], some (.int cs.length), by simpa using w2, by simp, by simp;omega, rfl, rfl⟩⟩
  have hlen:(cs.length+1+1<1000000)=True:=eq_true (by omega)
  simp [aH,vw,ea,cy hk1,bC,aJ,fc,ep,iS,nA,nj,dw,pq,line,hlen]
 ·rintro σ M' ⟨cs,z,w,hd,hl,rfl,rfl⟩
  have:¬ cs.length<ts.length:=fun q=>by
   have hr:cs.length<(aW 0 (ts.length:Int)).length:=by simp [aW];omega
   rw [List.drop_eq_getElem_cons hr] at hd;cases hd
  rw [List.take_of_length_le (by omega)] at w
  exact ⟨cs,_,w,rfl,rfl⟩
theorem GR {fl:List D} {k:Nat} {dp H F:Nat} (fk:FlOk fl) (IH:eL fl dp H F) (hH:8<=H) (hk:F<=k) (hk2:12<=k) {h:Nat} {d:D} (q:Kd h d) (hh:h+(dp+1)<=8) (G7:dp<=5) {s:Int} (hs:Sd s) {M:MH} {r:Nat} {kvs:List (Ky×D)} (hn:dm M r kvs) :
  ∃ p,Ty kvs fl (H+1) d p/\(aa aq (k+1)).call 18 [d,.int s,.ref r,.lst fl,.int (dp+1)] M=.ok p M:=by
 obtain ⟨hfl,hl⟩:=fk
 let P:D->Bool:=fun x=>match x with | .tup [_,_,kd,_]=>aP kd d | _=>false
 have L:=bV (cond:=lW (aa aq k) (O.some (E.cmp .eq (E.idx (E.v 1) (E.k (.int 2))) (E.v 0)))) (elt:=ev (aa aq k) (E.v 1)) (i:=1) (cC:=aG M (.lst fl)) (M:=M) (f:=fun x=>x) (p:=P) (by simp [aG]) fl [] [some d,none]
  (fun f hfm=>by
   obtain ⟨x,ts,kd,bd,rfl,hkd,_⟩:=hfl f hfm
   have hc:=lK hkd q (by omega)
   have ht:top M kd=kd:=e8 hkd
   have ht':top M d=d:=e8 q
   refine ⟨?_,fun _=>by simp⟩
   simp [aH,vw,av,bB,bD,bz,aC,ai,bA,P]
   cases hkd <;> simp_all) (by simp [line];omega)
 rw [show (fl.filter P).map (fun x=>x)=fl.filter P from List.map_id' _,List.nil_append] at L
 have hfound:∀ f∈fl.filter P,f∈fl/\P f=true:=fun f hf=>List.mem_filter.mp hf
 have qX:∀ x ts kd bd,D.tup [.str x,.lst ts,kd,bd]∈fl.filter P->kd=d:=fun x ts kd bd hf=>by
  obtain ⟨h1,h2⟩:=hfound _ hf
  obtain ⟨x',ts',KG,bd',e,hkd,_⟩:=hfl _ h1
  cases e
  exact jR hkd.plain.1 h2
 generalize fl.filter P=found at L hfound qX
 rw [af GB]
 by_cases hc:found.length=0
 ·obtain ⟨p,w,e⟩:=mE (fl:=fl) q (by omega) hs hn
  refine ⟨p,w.le (by omega),?_⟩
  have hc':found=[]:=List.eq_nil_of_length_eq_zero hc
  subst hc'
  simp only [aT,eF,bK,jN,jO,wX,cS,jQ]
  simp [itemsOf,vw,dH,L,aR]
  simp [cz,vw,av,bB,bD,bz,aC,ai,bA,top,az,Fg.plain,dep,e k (by omega),bh,w.nr]
 ·have hpos:(0:Int)<(found.length:Int):=by omega
  obtain ⟨f,hfm,e⟩:=eK (xs:=found) (i:=s / 11 % found.length) (Int.emod_nonneg _ (by omega)) (Int.emod_lt_of_pos _ hpos)
  obtain ⟨x,ts,kd,bd,rfl,hkd,hts,ht⟩:=hfl f (hfound f hfm).1
  obtain ⟨cs,σ',w,hσ,Jm⟩:=BC (fl:=fl) (d:=d) (x1:=.lst found) (s:=s) (x:=x) (kd:=kd) (bd:=bd) IH hk (by omega) hn hts (by omega) ht _ rfl
  have kdd:=qX _ _ _ _ hfm
  refine ⟨.tup (.str (Str.ofString "call")::.str x::cs), by rw [<- kdd];exact .call (hfound _ hfm).1 w, ?_⟩
  have hne:((found.length:Int)=0)=False:=eq_false (by omega)
  have hr1:=Ah (n:=ts.length) (by omega)
  have hpos':((0:Int)<(found.length:Int))=True:=eq_true hpos
  rw [<- af GB]
  refine bY (M':=M++[.lst (.str (Str.ofString "call")::.str x::cs)]) GB rfl ?_ (eY (by simp [nr, aY, w.nr]) (by simp))
  unfold eF
  dsimp only
  refine (ao (x:=.lst found) (M1:=M) ?_).trans ?_
  ·simp [itemsOf,vw,dH,L,aR]
  refine (aB (M1:=M) ?_).trans ?_
  ·simp [cz,vw,av,bB,bD,bz,aC,ai,bA,top,az,Fg.plain,dep,-List.length_eq_zero_iff]
   omega
  refine (ao (x:=.tup [.str x,.lst ts,kd,bd]) (M1:=M) ?_).trans ?_
  ·have hp2:(0<found.length)=True:=eq_true (by omega)
   simp [cz,vw,bC,aJ,hp2,aH,e]
  refine (ao (x:=.ref M.length) (M1:=M++[.lst [.str (Str.ofString "call"), .str x]]) ?_).trans ?_
  ·simp [aH,vw,aR]
  refine (qz (d:=.aE) (ds:=aW 0 ts.length) (M1:=M++[.lst [.str (Str.ofString "call"), .str x]]) ?_ Jm).trans ?_
  ·simp [aH,vw,cz,hr1]
  refine bu ?_
  simp [hσ,cz,vw]
theorem tZ {i:Int} (h0:0<=i) (h:i<4):∃ w, jl [D.str (Str.ofString "plus"), D.str (Str.ofString "minus"), D.str (Str.ofString "times"), D.str (Str.ofString "less")] i=some (.str w)/\w∈xS:=by
 have:i=0\/i=1\/i=2\/i=3:=by omega
 rcases this with rfl | rfl | rfl | rfl <;> simp [xS]
theorem BV {fl:List D} {k:Nat} {dp H F:Nat} (fk:FlOk fl) (IH:eL fl dp H F) (hk:F<=k) (hk1:1<=k) {h:Nat} {d:D} (q:Kd h d) (hh:h+(dp+1)<=8) (G7:dp<=4) {s:Int} (hs:Sd s) {M:MH} {r:Nat} {kvs:List (Ky×D)} (hn:dm M r kvs) :
  ∃ p,Ty kvs fl (H+1) d p/\(aa aq (k+1)).call 19 [d,.int s,.ref r,.lst fl,.int (dp+1)] M=.ok p M:=by
 have fc:(dp:Int)+1-1=dp:=by omega
 have go:∀ (h':Nat) (d':D) (s':Int),Kd h' d'->h'+dp<=8->Sd s'->∃ p,Ty kvs fl H d' p/\(aa aq k).call 20 [d',.int s',.ref r,.lst fl,.int dp] M=.ok p M:=fun h' d' s' a b c=>IH k hk h' d' a b s' c M r kvs hn
 obtain ⟨hp,hd1,hd2⟩:=q.plain
 have s1:=bM s 11
 have s2:=bM s 12
 have e1:=fH (M:=M) (p:=s / 7) hk1
 have e2:=fun j=>cy (M:=M) (s:=s) (j:=j) hk1
 cases q with
 | num =>
  by_cases hc:s % 3=0
  ·obtain ⟨p,w,e⟩:=go 4 (.tup [.str bx,knd (s / 7)]) (next s 11) (.list (ek _)) (by omega) s1
   refine ⟨.tup [.str (Str.ofString "none"), p], .none w, bY (M':=M) wR rfl ?_ (aI (by simp [nr, aY, w.nr]))⟩
   unfold bQ
   dsimp only
   refine (ao (x:=knd (s / 7)) (M1:=M) (by simp [bC,aJ,e1])).trans ((ao (x:=.int (next s 11)) (M1:=M) (by simp [e2])).trans ((ao (x:=.int (next s 12)) (M1:=M) (by simp [e2])).trans (cH (M1:=M) ?_ (bu ?_))))
   ·simp [aH,vw,av,bB,bD,bz,aC,ai,bA,top,az,Fg.plain,dep,bC,aJ,hc]
   ·simp [bC,aJ,fc,e]
  ·obtain ⟨p1,w1,f1⟩:=go h aA (next s 11) (.num _) (by omega) s1
   obtain ⟨p2,w2,f2⟩:=go h aA (next s 12) (.num _) (by omega) s2
   obtain ⟨w,ew,hw⟩:=tZ (i:=s / 3 % 4) (by omega) (by omega)
   refine ⟨.tup [.str w,p1,p2],.op hw w1 w2,bY (M':=M) wR rfl ?_ (aI (by simp [nr,aY,w1.nr,w2.nr]))⟩
   unfold bQ
   dsimp only
   refine (ao (x:=knd (s / 7)) (M1:=M) (by simp [bC,aJ,e1])).trans ((ao (x:=.int (next s 11)) (M1:=M) (by simp [e2])).trans ((ao (x:=.int (next s 12)) (M1:=M) (by simp [e2])).trans ((aB (M1:=M) ?_).trans (cH (M1:=M) ?_ ?_))))
   ·simp [aH,vw,av,bB,bD,bz,aC,ai,bA,top,az,Fg.plain,dep,bC,aJ,hc]
   ·simp [aH,vw,av,bB,bD,bz,aC,ai,bA,top,az,Fg.plain,dep]
   ·refine (ao (x:=.str w) (M1:=M) ?_).trans ((ao (x:=p1) (M1:=M) ?_).trans (bu ?_))
    ·simp [aR,vw,bC,aJ,aH,ew]
    ·simp [bC,aJ,fc,f1]
    ·simp [bC,aJ,fc,f2]
 | @list h' d' q' =>
  have z:(bx=Str.ofString "num")=False:=eq_false (by decide)
  have z':(bx=Str.ofString "pair")=False:=eq_false (by decide)
  by_cases hc:s % 3=0
  ·obtain ⟨p,w,e⟩:=go (h'+1) (.tup [.str bx,d']) (next s 11) (.list q') (by omega) s1
   refine ⟨.tup [.str (Str.ofString "tail"), p], .tail w, bY (M':=M) wR rfl ?_ (aI (by simp [nr, aY, w.nr]))⟩
   unfold bQ
   dsimp only
   refine (ao (x:=knd (s / 7)) (M1:=M) (by simp [bC,aJ,e1])).trans ((ao (x:=.int (next s 11)) (M1:=M) (by simp [e2])).trans ((ao (x:=.int (next s 12)) (M1:=M) (by simp [e2])).trans ((aB (M1:=M) ?_).trans ((aB (M1:=M) ?_).trans ((aB (M1:=M) ?_).trans (cH (M1:=M) ?_ (bu ?_)))))))
   ·simp [aH,vw,av,bB,bD,bz,aC,ai,bA,top,az,Fg.plain,dep,z]
   ·simp [aH,vw,av,bB,bD,bz,aC,ai,bA,top,az,Fg.plain,dep,z]
   ·simp [aH,vw,av,bB,bD,bz,aC,ai,bA,top,az,Fg.plain,dep,z']
   ·simp [av,bB,bD,bz,aC,ai,bA,top,az,Fg.plain,dep,bC,aJ,hc]
   ·simp [bC,aJ,fc,e]
  ·obtain ⟨p1,w1,f1⟩:=go h' d' (next s 11) q' (by omega) s1
   obtain ⟨p2,w2,f2⟩:=go (h'+1) (.tup [.str bx,d']) (next s 12) (.list q') (by omega) s2
   refine ⟨.tup [.str (Str.ofString "cons"), p1, p2], .cons w1 w2, bY (M':=M) wR rfl ?_ (aI (by simp [nr, aY, w1.nr, w2.nr]))⟩
   unfold bQ
   dsimp only
   refine (ao (x:=knd (s / 7)) (M1:=M) (by simp [bC,aJ,e1])).trans ((ao (x:=.int (next s 11)) (M1:=M) (by simp [e2])).trans ((ao (x:=.int (next s 12)) (M1:=M) (by simp [e2])).trans ((aB (M1:=M) ?_).trans ((aB (M1:=M) ?_).trans ((aB (M1:=M) ?_).trans ((aB (M1:=M) ?_).trans ((ao (x:=p1) (M1:=M) ?_).trans (bu ?_))))))))
   ·simp [aH,vw,av,bB,bD,bz,aC,ai,bA,top,az,Fg.plain,dep,z]
   ·simp [aH,vw,av,bB,bD,bz,aC,ai,bA,top,az,Fg.plain,dep,z]
   ·simp [aH,vw,av,bB,bD,bz,aC,ai,bA,top,az,Fg.plain,dep,z']
   ·simp [av,bB,bD,bz,aC,ai,bA,top,az,Fg.plain,dep,bC,aJ,hc]
   ·simp [aH,vw,bC,aJ,fc,f1]
   ·simp [bC,aJ,fc,f2]
 | @pair h' d' e' q1 q2 =>
  have z:(bP=Str.ofString "num")=False:=eq_false (by decide)
  obtain ⟨p1,w1,f1⟩:=go h' d' (next s 11) q1 (by omega) s1
  obtain ⟨p2,w2,f2⟩:=go h' e' (next s 12) q2 (by omega) s2
  refine ⟨.tup [.str (Str.ofString "pair"), p1, p2], .pair w1 w2, bY (M':=M) wR rfl ?_ (aI (by simp [nr, aY, w1.nr, w2.nr]))⟩
  unfold bQ
  dsimp only
  refine (ao (x:=knd (s / 7)) (M1:=M) (by simp [bC,aJ,e1])).trans ((ao (x:=.int (next s 11)) (M1:=M) (by simp [e2])).trans ((ao (x:=.int (next s 12)) (M1:=M) (by simp [e2])).trans ((aB (M1:=M) ?_).trans ((aB (M1:=M) ?_).trans (cH (M1:=M) ?_ ?_)))))
  ·simp [aH,vw,av,bB,bD,bz,aC,ai,bA,top,az,Fg.plain,dep,z]
  ·simp [aH,vw,av,bB,bD,bz,aC,ai,bA,top,az,Fg.plain,dep,z]
  ·simp [aH,vw,av,bB,bD,bz,aC,ai,bA,top,az,Fg.plain,dep]
  ·refine (ao (x:=p1) (M1:=M) ?_).trans (bu ?_)
   ·simp [aH,vw,bC,aJ,fc,f1]
   ·simp [aH,vw,bC,aJ,fc,f2]
end dI
end
section
namespace dI
open Fg PySem
noncomputable def tl:Ss->Ss
 | .cons _ s=>s
 | .nil=>.nil
theorem sE {fl:List D} {k:Nat} {dp H F:Nat} (fk:FlOk fl) (IH:eL fl dp H F) (hH:8<=H) (hF:12<=F) (hk:F+1<=k) {h:Nat} {d:D} (q:Kd h d) (hh:h+(dp+1)<=8) (G7:dp<=4) {s:Int} (hs:Sd s) {M:MH} {r:Nat} {kvs:List (Ky×D)} (hn:dm M r kvs) (l:Int) :
  ∃ p,Ty kvs fl (H+1) d p/\exs (aa aq k) (tl (tl (tl (tl bI.body)))) [some d,some (.int s),some (.ref r),some (.lst fl),some (.int (dp+1)),some (.int l),some (.int (next s 21)),none,none] M=.ok (.rt p) M:=by
 obtain ⟨k',rfl⟩:∃ j,k=j+1:=⟨k-1,by omega⟩
 have fc:(dp:Int)+1-1=dp:=by omega
 have go:∀ (h':Nat) (d':D) (s':Int),Kd h' d'->h'+dp<=8->Sd s'->∃ p,Ty kvs fl H d' p/\(aa aq (k'+1)).call 20 [d',.int s',.ref r,.lst fl,.int dp] M=.ok p M:=fun h' d' s' a b c=>IH (k'+1) (by omega) h' d' a b s' c M r kvs hn
 have s1:=bM s 21
 have e2:=fun j=>cy (M:=M) (s:=s) (j:=j) (show 1<=k'+1 by omega)
 unfold bI
 simp only [tl]
 have C:∀ m:Int,ev (aa aq (k'+1)) (E.cmp .eq (E.v 5) (E.k (.int m))) [some d,some (.int s),some (.ref r),some (.lst fl),some (.int (dp+1)),some (.int l),some (.int (next s 21)),none,none] M=.ok (.bl (decide (l=m))) M:=by
  intro m;simp [av,bB,bD,bz,aC,ai,bA,top,az,Fg.plain,dep]
 have C6:ev (aa aq (k'+1)) (E.cmp .le (E.v 5) (E.k (.int 6))) [some d,some (.int s),some (.ref r),some (.lst fl),some (.int (dp+1)),some (.int l),some (.int (next s 21)),none,none] M=.ok (.bl (decide (l<=6))) M:=by
  simp [av,bB,bD,bz,aC,ai,bA]
 by_cases l0:l=0
 ·obtain ⟨p,w,e⟩:=go (h+1) (.tup [.str bx,d]) (next s 21) (.list q) (by omega) s1
  refine ⟨.tup [.str (Str.ofString "head"), p], .head w, cH (M1:=M) (by rw [C 0, l0];rfl) (bu ?_)⟩
  simp [bC,aJ,fc,e]
 by_cases l1:l=1
 ·obtain ⟨p,w,e⟩:=go (h+1) (.tup [.str bP,d,aA]) (next s 21) (.pair q (.num _)) (by omega) s1
  refine ⟨.tup [.str (Str.ofString "first"), p], .first w, (aB (M1:=M) (by rw [C 0, decide_eq_false l0])).trans (cH (M1:=M) (by rw [C 1, l1];rfl) (bu ?_))⟩
  simp [bC,aJ,fc,e]
 by_cases l2:l=2
 ·obtain ⟨p,w,e⟩:=go (h+1) (.tup [.str bP,aA,d]) (next s 21) (.pair (.num _) q) (by omega) s1
  refine ⟨.tup [.str (Str.ofString "second"), p], .second w, (aB (M1:=M) (by rw [C 0, decide_eq_false l0])).trans ((aB (M1:=M) (by rw [C 1, decide_eq_false l1])).trans (cH (M1:=M) (by rw [C 2, l2];rfl) (bu ?_)))⟩
  simp [bC,aJ,fc,e]
 by_cases l3:l=3
 ·obtain ⟨p1,w1,f1⟩:=go h aA (next s 21) (.num _) (by omega) s1
  obtain ⟨p2,w2,f2⟩:=go h d (next s 22) q (by omega) (bM _ _)
  obtain ⟨p3,w3,f3⟩:=go h d (next s 23) q (by omega) (bM _ _)
  refine ⟨.tup [.str (Str.ofString "if"), p1, p2, p3], .ifs w1 w2 w3, (aB (M1:=M) (by rw [C 0, decide_eq_false l0])).trans ((aB (M1:=M) (by rw [C 1, decide_eq_false l1])).trans ((aB (M1:=M) (by rw [C 2, decide_eq_false l2])).trans (cH (M1:=M) (by rw [C 3, l3];rfl) ?_)))⟩
  refine (ao (x:=p1) (M1:=M) (by simp [bC,aJ,fc,f1])).trans ((ao (x:=p2) (M1:=M) (by simp [bC,aJ,fc,e2,f2])).trans (bu (by simp [bC,aJ,fc,e2,f3])))
 by_cases l6:l<=6
 ·obtain ⟨p,w,e⟩:=GR (k:=k') fk IH hH (by omega) (by omega) q hh (by omega) (hs.div 12 (by decide)) hn
  refine ⟨p,w,(aB (M1:=M) (by rw [C 0,decide_eq_false l0])).trans ((aB (M1:=M) (by rw [C 1,decide_eq_false l1])).trans ((aB (M1:=M) (by rw [C 2,decide_eq_false l2])).trans ((aB (M1:=M) (by rw [C 3,decide_eq_false l3])).trans (cH (M1:=M) (by rw [C6,decide_eq_true l6]) (bu ?_)))))⟩
  simp [bC,aJ,e]
 by_cases l7:l=7
 ·obtain ⟨p,w,e⟩:=mE (fl:=fl) q (by omega) s1 hn
  refine ⟨p,w.le (by omega),(aB (M1:=M) (by rw [C 0,decide_eq_false l0])).trans ((aB (M1:=M) (by rw [C 1,decide_eq_false l1])).trans ((aB (M1:=M) (by rw [C 2,decide_eq_false l2])).trans ((aB (M1:=M) (by rw [C 3,decide_eq_false l3])).trans ((aB (M1:=M) (by rw [C6,decide_eq_false l6])).trans (cH (M1:=M) (by rw [C 7,l7];rfl) (bu ?_))))))⟩
  simp [e (k'+1) (by omega)]
 ·obtain ⟨p,w,e⟩:=BV (k:=k') fk IH (by omega) (by omega) q hh (by omega) (hs.div 12 (by decide)) hn
  refine ⟨p,w,(aB (M1:=M) (by rw [C 0,decide_eq_false l0])).trans ((aB (M1:=M) (by rw [C 1,decide_eq_false l1])).trans ((aB (M1:=M) (by rw [C 2,decide_eq_false l2])).trans ((aB (M1:=M) (by rw [C 3,decide_eq_false l3])).trans ((aB (M1:=M) (by rw [C6,decide_eq_false l6])).trans ((aB (M1:=M) (by rw [C 7,decide_eq_false l7])).trans (bu ?_))))))⟩
  simp [bC,aJ,e]
theorem kF {fl:List D} {dp H F:Nat} (fk:FlOk fl) (IH:eL fl dp H F) (hH:8<=H) (hF:12<=F) (G7:dp<=4):eL fl (dp+1) (H+1) (F+2):=by
 intro k hk h d q hh s hs M r kvs hn
 obtain ⟨k,rfl⟩:∃ j,k=j+1:=⟨k-1,by omega⟩
 rw [show ((dp+1:Nat):Int)=(dp:Int)+1 by omega]
 obtain ⟨m,hm⟩:=GP q
 have hd0:¬ (dp:Int)+1<=0:=by omega
 have hwd:=hm k M (by omega)
 have hb:bI.body=.cons (S.ifs (E.cmp .le (E.v 4) (E.k (.int 0))) (Ss.cons (S.ret (E.call 17 (Es.cons (E.v 0) (Es.cons (E.v 1) (Es.cons (E.v 2) Es.nil))))) Ss.nil) Ss.nil)
   (.cons (S.set 5 (E.op .mod true (E.v 1) (E.k (.int 12)))) (.cons (S.set 6 (E.call 12 (Es.cons (E.v 1) (Es.cons (E.k (.int 21)) Es.nil))))
   (.cons (S.ifs (E.and (E.cmp .le (E.v 5) (E.k (.int 2))) (E.cmp .gt (E.call 14 (Es.cons (E.v 0) Es.nil)) (E.k (.int 4)))) (Ss.cons (S.set 5 (E.k (.int 9))) Ss.nil) Ss.nil) (tl (tl (tl (tl bI.body))))))):=rfl
 have key:∀ l:Int,(exs (aa aq k) (.cons (S.ifs (E.and (E.cmp .le (E.v 5) (E.k (.int 2))) (E.cmp .gt (E.call 14 (Es.cons (E.v 0) Es.nil)) (E.k (.int 4)))) (Ss.cons (S.set 5 (E.k (.int 9))) Ss.nil) Ss.nil) (tl (tl (tl (tl bI.body))))) [some d,some (.int s),some (.ref r),some (.lst fl),some (.int (dp+1)),some (.int (s % 12)),some (.int (next s 21)),none,none] M =
   exs (aa aq k) (tl (tl (tl (tl bI.body)))) [some d,some (.int s),some (.ref r),some (.lst fl),some (.int (dp+1)),some (.int l),some (.int (next s 21)),none,none] M) ->
   ∃ p,Ty kvs fl (H+1) d p/\(aa aq (k+1)).call 20 [d,.int s,.ref r,.lst fl,.int (dp+1)] M=.ok p M:=by
  intro l hl
  obtain ⟨p,w,e⟩:=sE fk IH hH hF (show F+1<=k by omega) q hh G7 hs hn l
  refine ⟨p,w,bY (M':=M) Ju rfl ?_ (aI (w.nr _))⟩
  rw [hb]
  refine (aB (M1:=M) (by simp [av,bB,bD,bz,aC,ai,bA,hd0])).trans ((ao (x:=.int (s % 12)) (M1:=M) (by simp [bC,aJ])).trans ((ao (x:=.int (next s 21)) (M1:=M) (by simp [cy (show 1<=k by omega)])).trans ?_))
  exact hl.trans e
 by_cases c1:s % 12<=2
 ·by_cases c2:4<m
  ·refine key 9 (qy (M1:=M) (M2:=M) ?_ ?_)
   ·simp [av,bB,bD,bz,aC,ai,bA,c1,hwd,c2]
   ·simp
  ·refine key (s % 12) (aB (M1:=M) ?_)
   simp [av,bB,bD,bz,aC,ai,bA,c1,hwd,c2]
 ·refine key (s % 12) (aB (M1:=M) ?_)
  simp [av,bB,bD,bz,aC,ai,bA,c1]
theorem part1 {fl:List D} (fk:FlOk fl):eL fl 1 9 14:=kF fk part0 (by decide) (by decide) (by decide)
theorem part2 {fl:List D} (fk:FlOk fl):eL fl 2 10 16:=kF fk (part1 fk) (by decide) (by decide) (by decide)
end dI
end
section
namespace dI
open Fg PySem
@[simp] theorem yc:(Str.ofString "plus" = Str.ofString "minus")=False:=eq_false (by decide)
@[simp] theorem yb:(Str.ofString "plus" = Str.ofString "times")=False:=eq_false (by decide)
@[simp] theorem Ay:(Str.ofString "plus" = Str.ofString "less")=False:=eq_false (by decide)
@[simp] theorem Aw:(Str.ofString "plus" = Str.ofString "pair")=False:=eq_false (by decide)
@[simp] theorem yd:(Str.ofString "plus" = Str.ofString "first")=False:=eq_false (by decide)
@[simp] theorem vG:(Str.ofString "plus" = Str.ofString "second")=False:=eq_false (by decide)
@[simp] theorem AA:(Str.ofString "plus" = Str.ofString "cons")=False:=eq_false (by decide)
@[simp] theorem Az:(Str.ofString "plus" = Str.ofString "head")=False:=eq_false (by decide)
@[simp] theorem Av:(Str.ofString "plus" = Str.ofString "tail")=False:=eq_false (by decide)
@[simp] theorem Ax:(Str.ofString "plus" = Str.ofString "none")=False:=eq_false (by decide)
@[simp] theorem CC:(Str.ofString "plus" = Str.ofString "if")=False:=eq_false (by decide)
@[simp] theorem yo:(Str.ofString "minus" = Str.ofString "plus")=False:=eq_false (by decide)
@[simp] theorem vK:(Str.ofString "minus" = Str.ofString "times")=False:=eq_false (by decide)
@[simp] theorem yr:(Str.ofString "minus" = Str.ofString "less")=False:=eq_false (by decide)
@[simp] theorem yp:(Str.ofString "minus" = Str.ofString "pair")=False:=eq_false (by decide)
@[simp] theorem vL:(Str.ofString "minus" = Str.ofString "first")=False:=eq_false (by decide)
@[simp] theorem tP:(Str.ofString "minus" = Str.ofString "second")=False:=eq_false (by decide)
@[simp] theorem yu:(Str.ofString "minus" = Str.ofString "cons")=False:=eq_false (by decide)
@[simp] theorem yt:(Str.ofString "minus" = Str.ofString "head")=False:=eq_false (by decide)
@[simp] theorem ym:(Str.ofString "minus" = Str.ofString "tail")=False:=eq_false (by decide)
@[simp] theorem yq:(Str.ofString "minus" = Str.ofString "none")=False:=eq_false (by decide)
@[simp] theorem AO:(Str.ofString "minus" = Str.ofString "if")=False:=eq_false (by decide)
@[simp] theorem xU:(Str.ofString "times" = Str.ofString "plus")=False:=eq_false (by decide)
@[simp] theorem vq:(Str.ofString "times" = Str.ofString "minus")=False:=eq_false (by decide)
@[simp] theorem xX:(Str.ofString "times" = Str.ofString "less")=False:=eq_false (by decide)
@[simp] theorem xV:(Str.ofString "times" = Str.ofString "pair")=False:=eq_false (by decide)
@[simp] theorem vt:(Str.ofString "times" = Str.ofString "first")=False:=eq_false (by decide)
@[simp] theorem tL:(Str.ofString "times" = Str.ofString "second")=False:=eq_false (by decide)
@[simp] theorem xZ:(Str.ofString "times" = Str.ofString "cons")=False:=eq_false (by decide)
@[simp] theorem xY:(Str.ofString "times" = Str.ofString "head")=False:=eq_false (by decide)
@[simp] theorem xT:(Str.ofString "times" = Str.ofString "tail")=False:=eq_false (by decide)
@[simp] theorem xW:(Str.ofString "times" = Str.ofString "none")=False:=eq_false (by decide)
@[simp] theorem Am:(Str.ofString "times" = Str.ofString "if")=False:=eq_false (by decide)
@[simp] theorem AR:(Str.ofString "less" = Str.ofString "plus")=False:=eq_false (by decide)
@[simp] theorem yx:(Str.ofString "less" = Str.ofString "minus")=False:=eq_false (by decide)
@[simp] theorem yw:(Str.ofString "less" = Str.ofString "times")=False:=eq_false (by decide)
@[simp] theorem AS:(Str.ofString "less" = Str.ofString "pair")=False:=eq_false (by decide)
@[simp] theorem yy:(Str.ofString "less" = Str.ofString "first")=False:=eq_false (by decide)
@[simp] theorem vM:(Str.ofString "less" = Str.ofString "second")=False:=eq_false (by decide)
@[simp] theorem AW:(Str.ofString "less" = Str.ofString "cons")=False:=eq_false (by decide)
@[simp] theorem AV:(Str.ofString "less" = Str.ofString "head")=False:=eq_false (by decide)
@[simp] theorem AQ:(Str.ofString "less" = Str.ofString "tail")=False:=eq_false (by decide)
@[simp] theorem AU:(Str.ofString "less" = Str.ofString "none")=False:=eq_false (by decide)
@[simp] theorem CJ:(Str.ofString "less" = Str.ofString "if")=False:=eq_false (by decide)
@[simp] theorem AD:(Str.ofString "pair" = Str.ofString "plus")=False:=eq_false (by decide)
@[simp] theorem yf:(Str.ofString "pair" = Str.ofString "minus")=False:=eq_false (by decide)
@[simp] theorem ye:(Str.ofString "pair" = Str.ofString "times")=False:=eq_false (by decide)
@[simp] theorem AF:(Str.ofString "pair" = Str.ofString "less")=False:=eq_false (by decide)
@[simp] theorem yg:(Str.ofString "pair" = Str.ofString "first")=False:=eq_false (by decide)
@[simp] theorem vH:(Str.ofString "pair" = Str.ofString "second")=False:=eq_false (by decide)
@[simp] theorem AH:(Str.ofString "pair" = Str.ofString "cons")=False:=eq_false (by decide)
@[simp] theorem AG:(Str.ofString "pair" = Str.ofString "head")=False:=eq_false (by decide)
@[simp] theorem AB:(Str.ofString "pair" = Str.ofString "tail")=False:=eq_false (by decide)
@[simp] theorem AE:(Str.ofString "pair" = Str.ofString "none")=False:=eq_false (by decide)
@[simp] theorem CD:(Str.ofString "pair" = Str.ofString "if")=False:=eq_false (by decide)
@[simp] theorem yG:(Str.ofString "first" = Str.ofString "plus")=False:=eq_false (by decide)
@[simp] theorem vP:(Str.ofString "first" = Str.ofString "minus")=False:=eq_false (by decide)
@[simp] theorem vO:(Str.ofString "first" = Str.ofString "times")=False:=eq_false (by decide)
@[simp] theorem yJ:(Str.ofString "first" = Str.ofString "less")=False:=eq_false (by decide)
@[simp] theorem yH:(Str.ofString "first" = Str.ofString "pair")=False:=eq_false (by decide)
@[simp] theorem tQ:(Str.ofString "first" = Str.ofString "second")=False:=eq_false (by decide)
@[simp] theorem yL:(Str.ofString "first" = Str.ofString "cons")=False:=eq_false (by decide)
@[simp] theorem yK:(Str.ofString "first" = Str.ofString "head")=False:=eq_false (by decide)
@[simp] theorem yF:(Str.ofString "first" = Str.ofString "tail")=False:=eq_false (by decide)
@[simp] theorem yI:(Str.ofString "first" = Str.ofString "none")=False:=eq_false (by decide)
@[simp] theorem A6:(Str.ofString "first" = Str.ofString "if")=False:=eq_false (by decide)
@[simp] theorem vA:(Str.ofString "second" = Str.ofString "plus")=False:=eq_false (by decide)
@[simp] theorem tN:(Str.ofString "second" = Str.ofString "minus")=False:=eq_false (by decide)
@[simp] theorem tM:(Str.ofString "second" = Str.ofString "times")=False:=eq_false (by decide)
@[simp] theorem vD:(Str.ofString "second" = Str.ofString "less")=False:=eq_false (by decide)
@[simp] theorem vB:(Str.ofString "second" = Str.ofString "pair")=False:=eq_false (by decide)
@[simp] theorem tO:(Str.ofString "second" = Str.ofString "first")=False:=eq_false (by decide)
@[simp] theorem vF:(Str.ofString "second" = Str.ofString "cons")=False:=eq_false (by decide)
@[simp] theorem vE:(Str.ofString "second" = Str.ofString "head")=False:=eq_false (by decide)
@[simp] theorem vz:(Str.ofString "second" = Str.ofString "tail")=False:=eq_false (by decide)
@[simp] theorem vC:(Str.ofString "second" = Str.ofString "none")=False:=eq_false (by decide)
@[simp] theorem ya:(Str.ofString "second" = Str.ofString "if")=False:=eq_false (by decide)
@[simp] theorem A8:(Str.ofString "cons" = Str.ofString "plus")=False:=eq_false (by decide)
@[simp] theorem yN:(Str.ofString "cons" = Str.ofString "minus")=False:=eq_false (by decide)
@[simp] theorem yM:(Str.ofString "cons" = Str.ofString "times")=False:=eq_false (by decide)
@[simp] theorem Bb:(Str.ofString "cons" = Str.ofString "less")=False:=eq_false (by decide)
@[simp] theorem A9:(Str.ofString "cons" = Str.ofString "pair")=False:=eq_false (by decide)
@[simp] theorem yO:(Str.ofString "cons" = Str.ofString "first")=False:=eq_false (by decide)
@[simp] theorem vQ:(Str.ofString "cons" = Str.ofString "second")=False:=eq_false (by decide)
@[simp] theorem Bc:(Str.ofString "cons" = Str.ofString "head")=False:=eq_false (by decide)
@[simp] theorem A7:(Str.ofString "cons" = Str.ofString "tail")=False:=eq_false (by decide)
@[simp] theorem Ba:(Str.ofString "cons" = Str.ofString "none")=False:=eq_false (by decide)
@[simp] theorem CT:(Str.ofString "cons" = Str.ofString "if")=False:=eq_false (by decide)
@[simp] theorem A1:(Str.ofString "head" = Str.ofString "plus")=False:=eq_false (by decide)
@[simp] theorem yD:(Str.ofString "head" = Str.ofString "minus")=False:=eq_false (by decide)
@[simp] theorem yC:(Str.ofString "head" = Str.ofString "times")=False:=eq_false (by decide)
@[simp] theorem A4:(Str.ofString "head" = Str.ofString "less")=False:=eq_false (by decide)
@[simp] theorem A2:(Str.ofString "head" = Str.ofString "pair")=False:=eq_false (by decide)
@[simp] theorem yE:(Str.ofString "head" = Str.ofString "first")=False:=eq_false (by decide)
@[simp] theorem vN:(Str.ofString "head" = Str.ofString "second")=False:=eq_false (by decide)
@[simp] theorem A5:(Str.ofString "head" = Str.ofString "cons")=False:=eq_false (by decide)
@[simp] theorem A0:(Str.ofString "head" = Str.ofString "tail")=False:=eq_false (by decide)
@[simp] theorem A3:(Str.ofString "head" = Str.ofString "none")=False:=eq_false (by decide)
@[simp] theorem CS:(Str.ofString "head" = Str.ofString "if")=False:=eq_false (by decide)
@[simp] theorem An:(Str.ofString "tail" = Str.ofString "plus")=False:=eq_false (by decide)
@[simp] theorem x8:(Str.ofString "tail" = Str.ofString "minus")=False:=eq_false (by decide)
@[simp] theorem x6:(Str.ofString "tail" = Str.ofString "times")=False:=eq_false (by decide)
@[simp] theorem Ar:(Str.ofString "tail" = Str.ofString "less")=False:=eq_false (by decide)
@[simp] theorem Ao:(Str.ofString "tail" = Str.ofString "pair")=False:=eq_false (by decide)
@[simp] theorem x9:(Str.ofString "tail" = Str.ofString "first")=False:=eq_false (by decide)
@[simp] theorem vv:(Str.ofString "tail" = Str.ofString "second")=False:=eq_false (by decide)
@[simp] theorem Au:(Str.ofString "tail" = Str.ofString "cons")=False:=eq_false (by decide)
@[simp] theorem As:(Str.ofString "tail" = Str.ofString "head")=False:=eq_false (by decide)
@[simp] theorem Aq:(Str.ofString "tail" = Str.ofString "none")=False:=eq_false (by decide)
@[simp] theorem CB:(Str.ofString "tail" = Str.ofString "if")=False:=eq_false (by decide)
@[simp] theorem AJ:(Str.ofString "none" = Str.ofString "plus")=False:=eq_false (by decide)
@[simp] theorem yi:(Str.ofString "none" = Str.ofString "minus")=False:=eq_false (by decide)
@[simp] theorem yh:(Str.ofString "none" = Str.ofString "times")=False:=eq_false (by decide)
@[simp] theorem AL:(Str.ofString "none" = Str.ofString "less")=False:=eq_false (by decide)
@[simp] theorem AK:(Str.ofString "none" = Str.ofString "pair")=False:=eq_false (by decide)
@[simp] theorem yj:(Str.ofString "none" = Str.ofString "first")=False:=eq_false (by decide)
@[simp] theorem vI:(Str.ofString "none" = Str.ofString "second")=False:=eq_false (by decide)
@[simp] theorem AN:(Str.ofString "none" = Str.ofString "cons")=False:=eq_false (by decide)
@[simp] theorem AM:(Str.ofString "none" = Str.ofString "head")=False:=eq_false (by decide)
@[simp] theorem AI:(Str.ofString "none" = Str.ofString "tail")=False:=eq_false (by decide)
@[simp] theorem CF:(Str.ofString "none" = Str.ofString "if")=False:=eq_false (by decide)
@[simp] theorem CL:(Str.ofString "if" = Str.ofString "plus")=False:=eq_false (by decide)
@[simp] theorem AY:(Str.ofString "if" = Str.ofString "minus")=False:=eq_false (by decide)
@[simp] theorem AX:(Str.ofString "if" = Str.ofString "times")=False:=eq_false (by decide)
@[simp] theorem CO:(Str.ofString "if" = Str.ofString "less")=False:=eq_false (by decide)
@[simp] theorem CM:(Str.ofString "if" = Str.ofString "pair")=False:=eq_false (by decide)
@[simp] theorem AZ:(Str.ofString "if" = Str.ofString "first")=False:=eq_false (by decide)
@[simp] theorem yz:(Str.ofString "if" = Str.ofString "second")=False:=eq_false (by decide)
@[simp] theorem CQ:(Str.ofString "if" = Str.ofString "cons")=False:=eq_false (by decide)
@[simp] theorem CP:(Str.ofString "if" = Str.ofString "head")=False:=eq_false (by decide)
@[simp] theorem CK:(Str.ofString "if" = Str.ofString "tail")=False:=eq_false (by decide)
@[simp] theorem CN:(Str.ofString "if" = Str.ofString "none")=False:=eq_false (by decide)
@[simp] theorem vJ:(Str.ofString "name" = Str.ofString "number")=False:=eq_false (by decide)
@[simp] theorem yk:(Str.ofString "nil" = Str.ofString "number")=False:=eq_false (by decide)
@[simp] theorem CG:(Str.ofString "nil" = Str.ofString "name")=False:=eq_false (by decide)
@[simp] theorem yv:(Str.ofString "let" = Str.ofString "number")=False:=eq_false (by decide)
@[simp] theorem CH:(Str.ofString "let" = Str.ofString "name")=False:=eq_false (by decide)
@[simp] theorem Fc:(Str.ofString "let" = Str.ofString "nil")=False:=eq_false (by decide)
@[simp] theorem CI:(Str.ofString "let" = Str.ofString "call")=False:=eq_false (by decide)
end dI
end
section
namespace dI
open Fg PySem
theorem lH {kvs:List (Ky×D)} {k:Ky} {d:D} (h:look kvs k=some d):(k,d)∈kvs:=by
 unfold look at h
 cases hf:kvs.find? (fun kv=>decide (kv.1=k)) with
 | none=>rw [hf] at h;cases h
 | some p =>
  rw [hf] at h
  cases h
  have h1:=List.find?_some hf
  have h2:=List.mem_of_find?_eq_some hf
  simp only [decide_eq_true_eq] at h1
  subst h1
  exact h2
theorem jb {n:Nat} {k l:D} (h:Kd n (dz k l)):∃ m,n=m+1/\Kd m k/\Kd m l:=by cases h with | pair a b=>exact ⟨_,rfl,a,b⟩
theorem kd_list {n:Nat} {k:D} (h:Kd n (bf k)):∃ m,n=m+1/\Kd m k:=by cases h with | list a=>exact ⟨_,rfl,a⟩
theorem Ty.kd {kvs:List (Ky×D)} {fl:List D} (nk:xO kvs) (fk:FlOk fl):∀ {h:Nat} {k p:D},Ty kvs fl h k p->Kd (h+9) k
 | _,_,_,.number=>.num _
 | _,_,_,.name a=>(nk _ (lH a)).2.le (by omega)
 | h,_,_,.nil a=>.list (a.le (show 8<=h+8 by omega))
 | _,_,_,.pair a b=>.pair (a.kd nk fk) (b.kd nk fk)
 | _,_,_,.first a=>by obtain ⟨m,e,h1,h2⟩:=jb (a.kd nk fk);exact h1.le (by omega)
 | _,_,_,.second a=>by obtain ⟨m,e,h1,h2⟩:=jb (a.kd nk fk);exact h2.le (by omega)
 | _,_,_,.cons a b=>(b.kd nk fk).le (by omega)
 | _,_,_,.head a=>by obtain ⟨m,e,h1⟩:=kd_list (a.kd nk fk);exact h1.le (by omega)
 | _,_,_,.tail a=>(a.kd nk fk).le (by omega)
 | _,_,_,.none a=>.num _
 | _,_,_,.op w a b=>.num _
 | _,_,_,.ifs a b c=>(b.kd nk fk).le (by omega)
 | _,_,_,.call m a=>by
  obtain ⟨x,ts,kd,bd,e,h1,_⟩:=fk.ex _ m
  cases e
  exact h1.le (by omega)
theorem pU {k:Nat} {a b:D} {M:MH} (hk:1<=k) (hc:az a b=true) (ta:top M a=a) (tb:top M b=b) (na:(∃ xs,a=.tup xs)\/∃ xs,a=.lst xs):(aa aq k).call 2 [a,b] M=if aP a b then .ok .aE M else .exc 2 M:=by
 obtain ⟨k,rfl⟩:∃ j,k=j+1:=⟨k-1,by omega⟩
 rw [af fn2]
 have h:av .ne M a b=.ok (.bl (!aP a b)) M:=by
  rcases na with ⟨xs,rfl⟩ | ⟨xs,rfl⟩ <;> simp [av,bB,bD,bz,aC,ai,bA,ta,tb,hc]
 cases e:aP a b <;> simp [aT,fj,h,e,bh,d8,nr]
theorem i9 {u w:Str} {xs:List D} {k:Nat} {M:MH} (hk:1<=k) (hw:w.length<=100000):(aa aq k).call 3 [.tup (.str u::xs),.str w] M=if u=w then .ok .aE M else .exc 2 M:=by
 obtain ⟨k,rfl⟩:∃ j,k=j+1:=⟨k-1,by omega⟩
 rw [af fn3]
 by_cases e:u=w
 ·simp [aT,cg,aH,vw,av,bB,bD,bz,aC,ai,bA,top,az,Fg.plain,dep,e,bh,nr]
 ·simp [aT,cg,aH,vw,av,bB,bD,bz,aC,ai,bA,top,az,Fg.plain,dep,e,cY,hw,d8]
theorem jJ:aq.glob 1=some aA:=rfl
theorem wc {h:Nat} {a:D} (x:Kd h a):∃ u xs,a=.tup (.str u::xs):=by cases x <;> exact ⟨_,_,rfl⟩
theorem cV {k h:Nat} {a:D} {M:MH} (hk:1<=k) (x:Kd h a) (hh:h<=50):(aa aq k).call 2 [a,a] M=.ok .aE M:=by
 obtain ⟨u,xs,e⟩:=wc x
 rw [pU hk (lK x x hh) (e8 x) (e8 x) (.inl ⟨_,e⟩),if_pos (cK x.plain.1)]
theorem iZ {k h h':Nat} {a b:D} {M:MH} (hk:1<=k) (x:Kd h a) (y:Kd h' b) (hh:h<=50) (ne:a≠b):(aa aq k).call 2 [a,b] M=.exc 2 M:=by
 obtain ⟨u,xs,e⟩:=wc x
 rw [pU hk (lK x y hh) (e8 x) (e8 y) (.inl ⟨_,e⟩),if_neg (fun z=>ne (jR x.plain.1 z))]
theorem qi:bP.length<=100000:=by decide
theorem i6:bx.length<=100000:=by decide
theorem kJ {k:Nat} {xs:List D} {M:MH} (hk:1<=k):(aa aq k).call 3 [.tup (.str bP::xs),.str bP] M=.ok .aE M:=by rw [i9 hk qi,if_pos rfl]
theorem g7 {k:Nat} {xs:List D} {M:MH} (hk:1<=k):(aa aq k).call 3 [.tup (.str bx::xs),.str bx] M=.ok .aE M:=by rw [i9 hk i6,if_pos rfl]
theorem pB {k:Nat} {u:Str} {xs:List D} {M:MH} (hk:1<=k) (h:u≠bP):(aa aq k).call 3 [.tup (.str u::xs),.str bP] M=.exc 2 M:=by rw [i9 hk qi,if_neg h]
theorem pC {k:Nat} {u:Str} {xs:List D} {M:MH} (hk:1<=k) (h:u≠bx):(aa aq k).call 3 [.tup (.str u::xs),.str bx] M=.exc 2 M:=by rw [i9 hk i6,if_neg h]
section
variable {k h h':Nat} {a b c:D} {M:MH}
theorem DF (hk:3<=k) (x:Kd h a) (y:Kd h' b):(aa aq k).call 7 [.str (Str.ofString "pair"), .lst [a, b]] M=.ok (dz a b) M:=by
 obtain ⟨k,rfl⟩:∃ j,k=j+2:=⟨k-2,by omega⟩
 rw [af pN]
 have e5:(aa aq (k+1)).call 5 [.str (Str.ofString "pair"), .lst [a, b]] M=.ok (dz a b) M:=by
  rw [af K1]
  simp [aT,aQ,av,bB,bD,bz,aC,ai,bA,top,az,Fg.plain,dep,aH,vw,bh,nr,aY,x.plain.2.2,y.plain.2.2]
 simp [aT,au,av,bB,bD,bz,aC,ai,bA,vw,keyOf,flat,e5,bh,nr,aY,x.plain.2.2,y.plain.2.2]
theorem y9 (hk:3<=k) (x:Kd h a) (y:Kd h' b):(aa aq k).call 7 [.str (Str.ofString "first"), .lst [dz a b]] M=.ok a M:=by
 obtain ⟨k,rfl⟩:∃ j,k=j+2:=⟨k-2,by omega⟩
 rw [af pN]
 have e5:(aa aq (k+1)).call 5 [.str (Str.ofString "first"), .lst [dz a b]] M=.ok a M:=by
  rw [af K1]
  simp [aT,aQ,av,bB,bD,bz,aC,ai,bA,top,az,Fg.plain,dep,aH,vw,kJ (show 1<=k by omega),bh,x.plain.2.2]
 simp [aT,au,av,bB,bD,bz,aC,ai,bA,vw,keyOf,flat,e5,bh,x.plain.2.2]
theorem ua (hk:3<=k) (x:Kd h a) (y:Kd h' b):(aa aq k).call 7 [.str (Str.ofString "second"), .lst [dz a b]] M=.ok b M:=by
 obtain ⟨k,rfl⟩:∃ j,k=j+2:=⟨k-2,by omega⟩
 rw [af pN]
 have e5:(aa aq (k+1)).call 5 [.str (Str.ofString "second"), .lst [dz a b]] M=.ok b M:=by
  rw [af K1]
  simp [aT,aQ,av,bB,bD,bz,aC,ai,bA,top,az,Fg.plain,dep,aH,vw,kJ (show 1<=k by omega),bh,y.plain.2.2]
 simp [aT,au,av,bB,bD,bz,aC,ai,bA,vw,keyOf,flat,e5,bh,y.plain.2.2]
theorem DI (hk:3<=k) (x:Kd h a) (hh:h<=49):(aa aq k).call 7 [.str (Str.ofString "cons"), .lst [a, bf a]] M=.ok (bf a) M:=by
 obtain ⟨k,rfl⟩:∃ j,k=j+2:=⟨k-2,by omega⟩
 rw [af pN]
 have e5:(aa aq (k+1)).call 6 [.str (Str.ofString "cons"), .lst [a, bf a]] M=.ok (bf a) M:=by
  rw [af Hg]
  simp [aT,aK,av,bB,bD,bz,aC,ai,bA,top,az,Fg.plain,dep,aH,vw,cV (k:=k) (M:=M) (by omega) (.list x) (by omega),bh,nr,aY,x.plain.2.2]
 simp [aT,au,av,bB,bD,bz,aC,ai,bA,vw,keyOf,flat,e5,bh,nr,aY,x.plain.2.2]
theorem DH (hk:3<=k) (x:Kd h a):(aa aq k).call 7 [.str (Str.ofString "head"), .lst [bf a]] M=.ok a M:=by
 obtain ⟨k,rfl⟩:∃ j,k=j+2:=⟨k-2,by omega⟩
 rw [af pN]
 have e5:(aa aq (k+1)).call 6 [.str (Str.ofString "head"), .lst [bf a]] M=.ok a M:=by
  rw [af Hg]
  simp [aT,aK,av,bB,bD,bz,aC,ai,bA,top,az,Fg.plain,dep,aH,vw,g7 (show 1<=k by omega),bh,nr,aY,x.plain.2.2]
 simp [aT,au,av,bB,bD,bz,aC,ai,bA,vw,keyOf,flat,e5,bh,nr,aY,x.plain.2.2]
theorem DE (hk:3<=k) (x:Kd h a):(aa aq k).call 7 [.str (Str.ofString "tail"), .lst [bf a]] M=.ok (bf a) M:=by
 obtain ⟨k,rfl⟩:∃ j,k=j+2:=⟨k-2,by omega⟩
 rw [af pN]
 have e5:(aa aq (k+1)).call 6 [.str (Str.ofString "tail"), .lst [bf a]] M=.ok (bf a) M:=by
  rw [af Hg]
  simp [aT,aK,av,bB,bD,bz,aC,ai,bA,top,az,Fg.plain,dep,aH,vw,g7 (show 1<=k by omega),bh,nr,aY,x.plain.2.2]
 simp [aT,au,av,bB,bD,bz,aC,ai,bA,vw,keyOf,flat,e5,bh,nr,aY,x.plain.2.2]
theorem DG (hk:3<=k):(aa aq k).call 7 [.str (Str.ofString "none"), .lst [bf a]] M=.ok aA M:=by
 obtain ⟨k,rfl⟩:∃ j,k=j+2:=⟨k-2,by omega⟩
 rw [af pN]
 have e5:(aa aq (k+1)).call 6 [.str (Str.ofString "none"), .lst [bf a]] M=.ok aA M:=by
  rw [af Hg]
  simp [aT,aK,av,bB,bD,bz,aC,ai,bA,top,az,Fg.plain,dep,aH,vw,g7 (show 1<=k by omega),jJ,bh,nr,aY]
 simp [aT,au,av,bB,bD,bz,aC,ai,bA,vw,keyOf,flat,e5,bh,nr,aY]
theorem w_op {w:Str} (hk:3<=k) (hw:w∈xS):(aa aq k).call 7 [.str w,.lst [aA,aA]] M=.ok aA M:=by
 obtain ⟨k,rfl⟩:∃ j,k=j+2:=⟨k-2,by omega⟩
 have e2:=cV (k:=k+1) (M:=M) (by omega) (.num 0) (by omega)
 simp only [xS,List.mem_cons,List.not_mem_nil,or_false] at hw
 rw [af pN]
 rcases hw with rfl | rfl | rfl | rfl <;> simp [aT,au,av,bB,bD,bz,aC,ai,bA,top,az,Fg.plain,dep,vw,keyOf,flat,aH,jJ,e2,bh,nr,aY]
theorem w_if (hk:3<=k) (x:Kd h a) (hh:h<=50):(aa aq k).call 7 [.str (Str.ofString "if"), .lst [aA, a, a]] M=.ok a M:=by
 obtain ⟨k,rfl⟩:∃ j,k=j+2:=⟨k-2,by omega⟩
 have e2:=cV (k:=k+1) (M:=M) (by omega) (.num 0) (by omega)
 have e3:=cV (k:=k+1) (M:=M) (by omega) x hh
 rw [af pN]
 simp [aT,au,av,bB,bD,bz,aC,ai,bA,top,az,Fg.plain,dep,vw,keyOf,flat,aH,jJ,e2,e3,bh,x.plain.2.2]
noncomputable def ud:List Str:=[Str.ofString "plus", Str.ofString "minus", Str.ofString "times", Str.ofString "less", Str.ofString "if"]
theorem xG {w:Str} {cs:List D} (hk:3<=k) (hw:w∈ud) (x:Kd h a) (hh:h<=50) (ne:a≠aA):(aa aq k).call 7 [.str w,.lst (a::cs)] M=.exc 2 M:=by
 obtain ⟨k,rfl⟩:∃ j,k=j+2:=⟨k-2,by omega⟩
 have e2:=iZ (k:=k+1) (M:=M) (by omega) x (.num 0) hh ne
 simp only [ud,List.mem_cons,List.not_mem_nil,or_false] at hw
 rw [af pN]
 rcases hw with rfl | rfl | rfl | rfl | rfl <;> simp [aT,au,av,bB,bD,bz,aC,ai,bA,top,az,Fg.plain,dep,vw,keyOf,flat,aH,jJ,e2,d8]
theorem Dw {w:Str} {cs:List D} (hk:3<=k) (hw:w∈xS) (x:Kd h a) (hh:h<=50) (ne:a≠aA):(aa aq k).call 7 [.str w,.lst (aA::a::cs)] M=.exc 2 M:=by
 obtain ⟨k,rfl⟩:∃ j,k=j+2:=⟨k-2,by omega⟩
 have e1:=cV (k:=k+1) (M:=M) (by omega) (.num 0) (by omega)
 have e2:=iZ (k:=k+1) (M:=M) (by omega) x (.num 0) hh ne
 simp only [xS,List.mem_cons,List.not_mem_nil,or_false] at hw
 rw [af pN]
 rcases hw with rfl | rfl | rfl | rfl <;> simp [aT,au,av,bB,bD,bz,aC,ai,bA,top,az,Fg.plain,dep,vw,keyOf,flat,aH,jJ,e1,e2,d8]
theorem JY (hk:3<=k) (x:Kd h a) (y:Kd h' b) (hh:h'<=50) (ne:b≠a):(aa aq k).call 7 [.str (Str.ofString "if"), .lst [aA, a, b]] M=.exc 2 M:=by
 obtain ⟨k,rfl⟩:∃ j,k=j+2:=⟨k-2,by omega⟩
 have e1:=cV (k:=k+1) (M:=M) (by omega) (.num 0) (by omega)
 have e2:=iZ (k:=k+1) (M:=M) (by omega) y x hh ne
 rw [af pN]
 simp [aT,au,av,bB,bD,bz,aC,ai,bA,top,az,Fg.plain,dep,vw,keyOf,flat,aH,jJ,e1,e2,d8]
theorem pX (hk:3<=k) (x:Kd h a) (y:Kd h' b) (hh:h'<=50) (ne:b≠bf a):(aa aq k).call 7 [.str (Str.ofString "cons"), .lst [a, b]] M=.exc 2 M:=by
 obtain ⟨k,rfl⟩:∃ j,k=j+2:=⟨k-2,by omega⟩
 rw [af pN]
 have e5:(aa aq (k+1)).call 6 [.str (Str.ofString "cons"), .lst [a, b]] M=.exc 2 M:=by
  rw [af Hg]
  simp [aT,aK,av,bB,bD,bz,aC,ai,bA,top,az,Fg.plain,dep,aH,vw,iZ (k:=k) (M:=M) (by omega) y (.list x) hh ne,d8]
 simp [aT,au,av,bB,bD,bz,aC,ai,bA,vw,keyOf,flat,e5,d8]
theorem jT {w u:Str} {xs:List D} (hk:3<=k) (hw:w∈[Str.ofString "head", Str.ofString "tail", Str.ofString "none"]) (hu:u≠bx):(aa aq k).call 7 [.str w, .lst [.tup (.str u::xs)]] M=.exc 2 M:=by
 obtain ⟨k,rfl⟩:∃ j,k=j+2:=⟨k-2,by omega⟩
 rw [af pN]
 simp only [List.mem_cons,List.not_mem_nil,or_false] at hw
 have e5:(aa aq (k+1)).call 6 [.str w,.lst [.tup (.str u::xs)]] M=.exc 2 M:=by
  rw [af Hg]
  rcases hw with rfl | rfl | rfl <;> simp [aT,aK,av,bB,bD,bz,aC,ai,bA,top,az,Fg.plain,dep,aH,vw,pC (show 1<=k by omega) hu,d8]
 rcases hw with rfl | rfl | rfl <;> simp [aT,au,av,bB,bD,bz,aC,ai,bA,vw,keyOf,flat,e5,d8]
theorem xF {w u:Str} {xs:List D} (hk:3<=k) (hw:w∈[Str.ofString "first", Str.ofString "second"]) (hu:u≠bP):(aa aq k).call 7 [.str w, .lst [.tup (.str u::xs)]] M=.exc 2 M:=by
 obtain ⟨k,rfl⟩:∃ j,k=j+2:=⟨k-2,by omega⟩
 rw [af pN]
 simp only [List.mem_cons,List.not_mem_nil,or_false] at hw
 have e5:(aa aq (k+1)).call 5 [.str w,.lst [.tup (.str u::xs)]] M=.exc 2 M:=by
  rw [af K1]
  rcases hw with rfl | rfl <;> simp [aT,aQ,av,bB,bD,bz,aC,ai,bA,top,az,Fg.plain,dep,aH,vw,pB (show 1<=k by omega) hu,d8]
 rcases hw with rfl | rfl <;> simp [aT,au,av,bB,bD,bz,aC,ai,bA,vw,keyOf,flat,e5,d8]
end
end dI
end
section
namespace dI
open Fg PySem
noncomputable def aN:List Str:=[Str.ofString "plus", Str.ofString "minus", Str.ofString "times", Str.ofString "less", Str.ofString "pair", Str.ofString "first", Str.ofString "second", Str.ofString "cons", Str.ofString "head", Str.ofString "tail", Str.ofString "none", Str.ofString "if"]
noncomputable def pb:List (Ky×D):=match (cst[0]?:Option D) with
 | some (.dct k d)=>k.zip d
 | _=>[]
theorem zX:∀ w∈aN,(look (pb) (.inr w)).isSome=true:=by decide +kernel
theorem zY:(look (pb) (.inr (Str.ofString "call"))).isSome=false:=by decide +kernel
theorem Dc {Φ:cM} {M:MH} {w:Str} (hg:Φ.glob=aq.glob) {σ:Sg} {i:Nat} (hi:σ[i]? = some (some (.str w))):ev Φ (.cmp .isin (.v i) (.g 0)) σ M=.ok (.bl (look (pb) (.inr w)).isSome) M:=by
 simp [hi,hg,aq,cst,av,bB,bD,bz,aC,ai,bA,vw,keyOf,pb]
theorem eG {k:Nat} {w:Str} {cs:List D} {M:MH} (hk:1<=k) (hw:w∈aN) (hn:aY M.length cs=true):(aa aq k).call 0 [.tup (.str w::cs)] M=.ok (.tup cs) M:=by
 obtain ⟨k,rfl⟩:∃ j,k=j+1:=⟨k-1,by omega⟩
 rw [af fn0]
 have h1:=Dc (Φ:=aa aq k) (M:=M) (σ:=[some (.tup (.str w::cs)),some (.str w)]) (i:=1) (w:=w) (by simp) rfl
 rw [zX w hw] at h1
 simp only [aT,jf,bK,jN,jO,lX,sW,sX]
 simp [aH,vw,h1,sl2,bh,nr,hn,-iE]
theorem gQ {k:Nat} {x:Str} {cs:List D} {M:MH} (hk:1<=k) (hn:aY M.length cs=true):(aa aq k).call 0 [.tup (.str (Str.ofString "call")::.str x::cs)] M=.ok (.tup cs) M:=by
 obtain ⟨k,rfl⟩:∃ j,k=j+1:=⟨k-1,by omega⟩
 rw [af fn0]
 have h1:=Dc (Φ:=aa aq k) (M:=M) (σ:=[some (.tup (.str (Str.ofString "call")::.str x::cs)), some (.str (Str.ofString "call"))]) (i:=1) (w:=Str.ofString "call") (by simp) rfl
 rw [zY] at h1
 have h2:ev (aa aq k) (.cmp .isin (.v 1) (E.tup (Es.cons (E.k (.str (Str.ofString "let"))) (Es.cons (E.k (.str (Str.ofString "call"))) Es.nil)))) [some (.tup (.str (Str.ofString "call")::.str x::cs)), some (.str (Str.ofString "call"))] M=.ok (.bl true) M:=by
  simp [av,bB,bD,bz,aC,ai,bA,vw,keyOf,flat]
 simp only [aT,jf,bK,jN,jO,lX,sW,sX]
 simp [aH,vw,h1,h2,sl2,bh,nr,hn,-iE]
theorem kL {cond elt:Sg->MH->R D} {i c:Nat} {cC:MH->Bool} {M:MH} {f:D->D} (hc:cC M=true):∀ (pre:List D) (d:D) (post acc:List D) (σ:Sg),(∀ σ',cond σ' M=.ok (.bl true) M)->(∀ e∈pre,elt (σ.set i (some e)) M=.ok (f e) M)->elt (σ.set i (some d)) M=.exc c M ->
  acc.length+pre.length<=line->bN cond elt [i] cC (pre++d::post) σ M acc=.exc c M
 | [],d,post,acc,σ,h0,_,h2,_=>by
  rw [List.nil_append,bN]
  simp only [sets,h0,R.aD,h2,R.fJ]
 | e::pre,d,post,acc,σ,h0,h1,h2,hl=>by
  simp only [List.length_cons] at hl
  have hlt:acc.length<line:=by omega
  rw [List.cons_append,bN]
  simp only [sets,h0,R.aD,h1 e List.mem_cons_self,hc,if_true,hlt,decide_true]
  exact kL hc pre d post (acc++[f e]) (σ.set i (some e)) h0 (fun e' he'=>by rw [List.set_set];exact h1 e' (List.mem_cons_of_mem _ he')) (by rw [List.set_set];exact h2) (by simp;omega)
noncomputable def ko (k:Nat) (fl:List D) (r:Nat) (M:MH) (d:D):D:=match (aa aq k).call 9 [.lst fl,.ref r,d] M with | .ok x _=>x | _=>.aE
theorem bw {k:Nat} {fl:List D} {r:Nat} {M:MH} {d x:D} (h:(aa aq k).call 9 [.lst fl,.ref r,d] M=.ok x M):ko k fl r M d=x:=by unfold ko;rw [h]
noncomputable def nU:E:=.call 9 (.cons (.v 0) (.cons (.v 1) (.cons (.v 2) .nil)))
theorem gy {k:Nat} {fl:List D} {r:Nat} {M:MH} {p:D} {cs ks:List D} {σ:Sg} (s0:σ[0]? = some (some (.lst fl))) (s1:σ[1]? = some (some (.ref r))) (s2:σ[2]? = some (some p)) (hi:(aa aq k).call 0 [p] M=.ok (.tup cs) M)
  (h:∀ d∈cs,(aa aq k).call 9 [.lst fl,.ref r,d] M=.ok (ko k fl r M d) M) (hks:cs.map (ko k fl r M)=ks) (hl:cs.length<=10) :
  ev (aa aq k) (.comp true [0,1] [2] nU (.e (.call 0 (.cons (.v 2) .nil))) .none) σ M=.ok (.lst ks) M:=by
 have L:=bV (cond:=lW (aa aq k) O.none) (elt:=ev (aa aq k) nU) (i:=2) (cC:=aG M (.tup cs)) (M:=M) (f:=ko k fl r M) (p:=fun _=>true) (by simp [aG]) cs [] [some (.lst fl),some (.ref r),none]
  (fun d hd=>by simp [nU,h d hd]) (by simp [line];omega)
 rw [show cs.filter (fun _=>true)=cs from List.filter_eq_self.mpr (by simp),hks,List.nil_append] at L
 rw [cS,jQ]
 simp [s0,s1,s2,hi,itemsOf,vw,dH,-fG,L,aR]
theorem sM {k:Nat} {fl:List D} {r:Nat} {M:MH} {p:D} {pre post:List D} {d:D} {σ:Sg} (s0:σ[0]? = some (some (.lst fl))) (s1:σ[1]? = some (some (.ref r))) (s2:σ[2]? = some (some p)) (hi:(aa aq k).call 0 [p] M=.ok (.tup (pre++d::post)) M)
  (h:∀ e∈pre,(aa aq k).call 9 [.lst fl,.ref r,e] M=.ok (ko k fl r M e) M) (hd:(aa aq k).call 9 [.lst fl,.ref r,d] M=.exc 2 M) (hl:pre.length<=10) :
  ev (aa aq k) (.comp true [0,1] [2] nU (.e (.call 0 (.cons (.v 2) .nil))) .none) σ M=.exc 2 M:=by
 have L:=kL (cond:=lW (aa aq k) O.none) (elt:=ev (aa aq k) nU) (i:=2) (c:=2) (cC:=aG M (.tup (pre++d::post))) (M:=M) (f:=ko k fl r M) (by simp [aG]) pre d post [] [some (.lst fl),some (.ref r),none] (fun _=>by simp) (fun e he=>by simp [nU,h e he]) (by simp [nU,hd]) (by simp [line];omega)
 rw [cS,jQ]
 simp [s0,s1,s2,hi,itemsOf,vw,dH,-fG,L]
noncomputable def kT:Ss:=.cons (.set 4 (.comp true [0, 1] [2] nU (.e (.call 0 (.cons (.v 2) .nil))) .none)) (.cons (.ifs (.cmp .eq (.v 3) (.k (.str (Str.ofString "call")))) (.cons (.ret (.call 4 (.cons (.v 0) (.cons (.idx (.v 2) (.k (.int 1))) (.cons (.v 4) .nil))))) .nil) .nil) (.cons (.ret (.call 7 (.cons (.v 3) (.cons (.v 4) .nil)))) .nil))
noncomputable def kH:Ss->Ss:=fun t=>.cons (.set 3 (.idx (.v 2) (.k (.int 0)))) (.cons (.ifs (.cmp .eq (.v 3) (.k (.str (Str.ofString "number")))) (.cons (.ret (.g 1)) .nil) .nil)
 (.cons (.ifs (.cmp .eq (.v 3) (.k (.str (Str.ofString "name")))) (.cons (.ret (.idx (.v 1) (.idx (.v 2) (.k (.int 1))))) .nil) .nil)
 (.cons (.ifs (.cmp .eq (.v 3) (.k (.str (Str.ofString "nil")))) (.cons (.ret (.tup (.cons (.k (.str (Str.ofString "list"))) (.cons (.idx (.v 2) (.k (.int 1))) .nil)))) .nil) .nil)
 (.cons (.ifs (.cmp .eq (.v 3) (.k (.str (Str.ofString "let")))) (.cons (.ret (.call 8 (.cons (.v 0) (.cons (.v 1) (.cons (.v 2) .nil))))) .nil) .nil) t))))
theorem gR:iD.body=kH kT:=rfl
noncomputable def uc:List Str:=Str.ofString "call" :: aN
theorem vd:∀ w∈uc, ¬ w=Str.ofString "number"/\¬ w=Str.ofString "name"/\¬ w=Str.ofString "nil"/\¬ w=Str.ofString "let":=by decide +kernel
theorem qJ:∀ w∈aN, ¬ w=Str.ofString "call":=by decide +kernel
theorem bg {M:MH} {a b:Str}:av .eq M (.str a) (.str b)=.ok (.bl (decide (a=b))) M:=by simp [av,bB,bD,bz,aC,ai,bA,az,top,Fg.plain,dep]
theorem c6 {k:Nat} {fl cs:List D} {r:Nat} {M:MH} {w:Str} {t:Ss} (hw:w∈uc):exs (aa aq k) (kH t) [some (.lst fl),some (.ref r),some (.tup (.str w::cs)),none,none] M=exs (aa aq k) t [some (.lst fl),some (.ref r),some (.tup (.str w::cs)),some (.str w),none] M:=by
 obtain ⟨n1,n2,n3,n4⟩:=vd w hw
 unfold kH
 rw [ao (x:=.str w) (M1:=M) (by simp [aH,vw])]
 simp only [List.set_cons_succ,List.set_cons_zero]
 rw [aB (M1:=M) (by simp [bg,n1]),aB (M1:=M) (by simp [bg,n2]),aB (M1:=M) (by simp [bg,n3]),aB (M1:=M) (by simp [bg,n4])]
theorem fW {Φ:cM} {f:Fn} {ds:List D} {M M':MH} {c:Nat} {σ σ':Sg} (hn:ds.length=f.np) (hd:f.j7=[]) (hσ:σ=ds.map some++List.replicate (f.ns-f.np) none) (h:exs Φ f.body σ M=.ok (.xc c σ') M'):aT Φ f ds M=d8 M c M':=by
 subst hσ
 unfold aT
 rw [if_pos (by rw [hd,hn];simp),hd]
 simp only [List.length_nil,List.drop_nil,List.append_nil,h]
theorem fX {Φ:cM} {f:Fn} {ds:List D} {M M':MH} {d:D} {σ:Sg} (hn:ds.length=f.np) (hd:f.j7=[]) (hσ:σ=ds.map some++List.replicate (f.ns-f.np) none) (h:exs Φ f.body σ M=.ok (.rt d) M'):aT Φ f ds M=bh f.keep M d M':=by
 subst hσ
 unfold aT
 rw [if_pos (by rw [hd,hn];simp),hd]
 simp only [List.length_nil,List.drop_nil,List.append_nil,h]
theorem dM {M:MH} {c:Nat}:d8 M c M=.exc c M:=by simp [d8]
section
variable {k:Nat} {fl:List D} {r:Nat} {M:MH} {w:Str} {cs ks:List D}
theorem cR {x:D} (hw:w∈aN) (hn:aY M.length cs=true) (hk:1<=k) (h:∀ d∈cs,(aa aq k).call 9 [.lst fl,.ref r,d] M=.ok (ko k fl r M d) M) (hks:cs.map (ko k fl r M)=ks) (hl:cs.length<=10) (e:(aa aq k).call 7 [.str w,.lst ks] M=.ok x M) (hx:nr M.length x=true) :
  (aa aq (k+1)).call 9 [.lst fl,.ref r,.tup (.str w::cs)] M=.ok x M:=by
 rw [af BE,fX (d:=x) (M':=M) rfl rfl rfl,aI hx]
 rw [gR]
 show exs (aa aq k) _ [some (.lst fl),some (.ref r),some (.tup (.str w::cs)),none,none] M=_
 rw [c6 (List.mem_cons_of_mem _ hw)]
 unfold kT
 rw [ao (gy (cs:=cs) rfl rfl rfl (eG hk hw hn) h hks hl)]
 simp only [List.set_cons_succ,List.set_cons_zero]
 rw [aB (M1:=M) (by simp [bg,qJ w hw])]
 exact bu (by simp [e])
theorem vj (hw:w∈aN) (hn:aY M.length cs=true) (hk:1<=k) (h:∀ d∈cs,(aa aq k).call 9 [.lst fl,.ref r,d] M=.ok (ko k fl r M d) M) (hks:cs.map (ko k fl r M)=ks) (hl:cs.length<=10) (e:(aa aq k).call 7 [.str w,.lst ks] M=.exc 2 M) :
  (aa aq (k+1)).call 9 [.lst fl,.ref r,.tup (.str w::cs)] M=.exc 2 M:=by
 rw [af BE,fW (c:=2) (M':=M) (σ':=[some (.lst fl),some (.ref r),some (.tup (.str w::cs)),some (.str w),some (.lst ks)]) rfl rfl rfl,dM]
 rw [gR]
 show exs (aa aq k) _ [some (.lst fl),some (.ref r),some (.tup (.str w::cs)),none,none] M=_
 rw [c6 (List.mem_cons_of_mem _ hw)]
 unfold kT
 rw [ao (gy (cs:=cs) rfl rfl rfl (eG hk hw hn) h hks hl)]
 simp only [List.set_cons_succ,List.set_cons_zero]
 rw [aB (M1:=M) (by simp [bg,qJ w hw])]
 exact D9 (by simp [e])
theorem Ak {pre post:List D} {d:D} (hw:w∈aN) (hn:aY M.length (pre++d::post)=true) (hk:1<=k) (h:∀ e∈pre,(aa aq k).call 9 [.lst fl,.ref r,e] M=.ok (ko k fl r M e) M) (hd:(aa aq k).call 9 [.lst fl,.ref r,d] M=.exc 2 M) (hl:pre.length<=10) :
  (aa aq (k+1)).call 9 [.lst fl,.ref r,.tup (.str w::(pre++d::post))] M=.exc 2 M:=by
 rw [af BE,fW (c:=2) (M':=M) (σ':=[some (.lst fl),some (.ref r),some (.tup (.str w::(pre++d::post))),some (.str w),none]) rfl rfl rfl,dM]
 rw [gR]
 show exs (aa aq k) _ [some (.lst fl),some (.ref r),some (.tup (.str w::(pre++d::post))),none,none] M=_
 rw [c6 (List.mem_cons_of_mem _ hw)]
 unfold kT
 rw [bK,jN,sM (pre:=pre) (d:=d) (post:=post) rfl rfl rfl (eG hk hw hn) h hd hl]
 rfl
end
end dI
end
section
namespace dI
open Fg PySem
section
variable {k:Nat} {fl:List D} {r:Nat} {M:MH}
theorem we {v:D} (hk:1<=k):(aa aq k).call 9 [.lst fl, .ref r, .tup [.str (Str.ofString "number"), v]] M=.ok aA M:=by
 obtain ⟨k,rfl⟩:∃ j,k=j+1:=⟨k-1,by omega⟩
 rw [af BE,fX (d:=aA) (M':=M) rfl rfl rfl,aI (by simp [nr,aY])]
 rw [gR]
 show exs (aa aq k) _ [some (.lst fl), some (.ref r), some (.tup [.str (Str.ofString "number"), v]), none, none] M=_
 unfold kH
 rw [ao (x:=.str (Str.ofString "number")) (M1:=M) (by simp [aH, vw])]
 simp only [List.set_cons_succ,List.set_cons_zero]
 exact cH (M1:=M) (by simp [bg]) (bu (by simp [jJ]))
theorem FL {kvs:List (Ky×D)} {x:Str} {d:D} (hk:1<=k) (hn:dm M r kvs) (hx:look kvs (.inr x)=some d):(aa aq k).call 9 [.lst fl, .ref r, .tup [.str (Str.ofString "name"), .str x]] M=.ok d M:=by
 obtain ⟨k,rfl⟩:∃ j,k=j+1:=⟨k-1,by omega⟩
 rw [af BE,fX (d:=d) (M':=M) rfl rfl rfl,aI ((hn.ok _ (lH hx)).2.plain.2.2 _)]
 rw [gR]
 show exs (aa aq k) _ [some (.lst fl), some (.ref r), some (.tup [.str (Str.ofString "name"), .str x]), none, none] M=_
 unfold kH
 rw [ao (x:=.str (Str.ofString "name")) (M1:=M) (by simp [aH, vw])]
 simp only [List.set_cons_succ,List.set_cons_zero]
 rw [aB (M1:=M) (by simp [bg])]
 exact cH (M1:=M) (by simp [bg]) (bu (by simp [aH,vw,hn.at_,keyOf,hx]))
theorem Ja {d:D} (hk:1<=k) (hd:nr M.length d=true):(aa aq k).call 9 [.lst fl, .ref r, .tup [.str (Str.ofString "nil"), d]] M=.ok (bf d) M:=by
 obtain ⟨k,rfl⟩:∃ j,k=j+1:=⟨k-1,by omega⟩
 rw [af BE,fX (d:=bf d) (M':=M) rfl rfl rfl,aI (by simp [nr,aY,hd])]
 rw [gR]
 show exs (aa aq k) _ [some (.lst fl), some (.ref r), some (.tup [.str (Str.ofString "nil"), d]), none, none] M=_
 unfold kH
 rw [ao (x:=.str (Str.ofString "nil")) (M1:=M) (by simp [aH, vw])]
 simp only [List.set_cons_succ,List.set_cons_zero]
 rw [aB (M1:=M) (by simp [bg]),aB (M1:=M) (by simp [bg])]
 exact cH (M1:=M) (by simp [bg]) (bu (by simp [aH,vw]))
noncomputable def fB:Ss:=.cons (.ifs (.cmp .eq (.idx (.v 2) (.k (.int 0))) (.v 1)) (.cons (.ret (.v 2)) .nil) .nil) .nil
theorem wU {Φ:cM} {x:Str} {ts:List D} {kd bd d0:D}:∀ (ds:List D) (s2:Option D),(∀ g∈ds,∃ y t2 k2 b2,g=.tup [.str y,.lst t2,k2,b2]/\(y=x->g=.tup [.str x,.lst ts,kd,bd]))->D.tup [.str x,.lst ts,kd,bd]∈ds ->
  bS (exs Φ fB) [2] (fun _=>true) ds [some d0,some (.str x),s2] M=.ok (.rt (.tup [.str x,.lst ts,kd,bd])) M
 | [],s2,_,h=>by simp at h
 | g::ds,s2,hs,h=>by
  obtain ⟨y,t2,k2,b2,rfl,hy⟩:=hs g List.mem_cons_self
  rw [bS]
  simp only [sets,List.set_cons_succ,List.set_cons_zero]
  by_cases e:y=x
  ·have e2:=hy e
   have hb:exs Φ fB [some d0,some (.str x),some (.tup [.str y,.lst t2,k2,b2])] M=.ok (.rt (.tup [.str x,.lst ts,kd,bd])) M:=by
    unfold fB
    exact cH (M1:=M) (by simp [aH,vw,bg,e]) (bu (by rw [<- e2];simp))
   rw [hb]
   rfl
  ·have hb:exs Φ fB [some d0,some (.str x),some (.tup [.str y,.lst t2,k2,b2])] M=.ok (.nx [some d0,some (.str x),some (.tup [.str y,.lst t2,k2,b2])]) M:=by
    unfold fB
    rw [aB (M1:=M) (by simp [aH,vw,bg,e])]
    simp
   rw [hb]
   simp only [R.aD,if_true]
   refine wU ds _ (fun g hg=>hs g (List.mem_cons_of_mem _ hg)) ?_
   rcases List.mem_cons.mp h with z | z
   ·cases z;exact absurd rfl e
   ·exact z
structure gW (fl:List D):Prop extends FlOk fl where
 one:∀ x ts kd bd ts' KG bd',D.tup [.str x,.lst ts,kd,bd]∈fl->D.tup [.str x,.lst ts',KG,bd']∈fl->ts=ts'/\kd=KG/\bd=bd'
 nr:∀ m,aY m fl=true
theorem qI {m:Nat}:∀ {ds:List D} {d:D},aY m ds=true->d∈ds->nr m d=true
 | [],d,h,hd=>by simp at hd
 | x::ds,d,h,hd=>by
  simp only [aY,Bool.and_eq_true] at h
  rcases List.mem_cons.mp hd with rfl | hd
  ·exact h.1
  ·exact qI h.2 hd
theorem xy {x:Str} {ts:List D} {kd bd:D} (hk:1<=k) (fk:gW fl) (hm:D.tup [.str x,.lst ts,kd,bd]∈fl):(aa aq k).call 1 [.lst fl,.str x] M=.ok (.tup [.str x,.lst ts,kd,bd]) M:=by
 obtain ⟨k,rfl⟩:∃ j,k=j+1:=⟨k-1,by omega⟩
 rw [af Hh,fX (d:=.tup [.str x,.lst ts,kd,bd]) (M':=M) rfl rfl rfl,aI (qI (fk.nr _) hm)]
 show exs (aa aq k) (.cons (.for [2] (.e (.v 0)) fB) _) [some (.lst fl),some (.str x),none] M=_
 refine Ea (M1:=M) (d:=.lst fl) (ds:=fl) (by simp [itemsOf,vw]) ?_
 refine wU fl none (fun g hg=>?_) hm
 obtain ⟨y,t2,k2,b2,e,_⟩:=fk.ex g hg
 refine ⟨y,t2,k2,b2,e,fun ey=>?_⟩
 subst ey e
 obtain ⟨e1,e2,e3⟩:=fk.one _ _ _ _ _ _ _ hg hm
 rw [e1,e2,e3]
noncomputable def bR:D->D
 | .tup [_,k]=>k
 | _=>.aE
theorem rS {x:Str} {ts ks:List D} {kd bd:D} (hk:2<=k) (fk:gW fl) (hm:D.tup [.str x,.lst ts,kd,bd]∈fl) (hc:az (.lst ks) (.lst (ts.map bR))=true) :
  (aa aq k).call 4 [.lst fl,.str x,.lst ks] M=if aP (.lst ks) (.lst (ts.map bR)) then .ok kd M else .exc 2 M:=by
 obtain ⟨k,rfl⟩:∃ j,k=j+1:=⟨k-1,by omega⟩
 obtain ⟨y,t2,k2,b2,e,hkd,hts,ht⟩:=fk.ex _ hm
 cases e
 have L:=bV (cond:=lW (aa aq k) O.none) (elt:=ev (aa aq k) (E.idx (E.v 0) (E.k (.int 1)))) (i:=0) (cC:=aG M (.lst ts)) (M:=M) (f:=bR) (p:=fun _=>true) (by simp [aG]) ts [] [none]
  (fun d hd=>by
   obtain ⟨y,ky,rfl,_⟩:=ht d hd
   simp [aH,vw,bR]) (by simp [line];omega)
 rw [show ts.filter (fun _=>true)=ts from List.filter_eq_self.mpr (by simp),List.nil_append] at L
 have jI:ev (aa aq k) (E.comp true [] [0] (E.idx (E.v 0) (E.k (.int 1))) (Src.e (E.idx (E.v 3) (E.k (.int 1)))) O.none) [some (.lst fl),some (.str x),some (.lst ks),some (.tup [.str x,.lst ts,kd,bd])] M=.ok (.lst (ts.map bR)) M:=by
  have hix:ev (aa aq k) (E.idx (E.v 3) (E.k (.int 1))) [some (.lst fl),some (.str x),some (.lst ks),some (.tup [.str x,.lst ts,kd,bd])] M=.ok (.lst ts) M:=by simp [aH,vw]
  rw [cS,jQ,hix]
  simp [vw,itemsOf,dH,-fG,-lX,L,aR]
 have ew:=pU (k:=k) (a:=.lst ks) (b:=.lst (ts.map bR)) (M:=M) (by omega) hc rfl rfl (.inr ⟨_,rfl⟩)
 have ef:=xy (k:=k) (M:=M) (by omega) fk hm
 by_cases q:aP (.lst ks) (.lst (ts.map bR))=true
 ·rw [if_pos q] at ew ⊢
  rw [af fn4,fX (d:=kd) (M':=M) rfl rfl rfl,aI (hkd.plain.2.2 _)]
  unfold ck
  show exs (aa aq k) _ [some (.lst fl),some (.str x),some (.lst ks),none] M=_
  rw [ao (x:=.tup [.str x,.lst ts,kd,bd]) (M1:=M) (by simp [ef])]
  simp only [List.set_cons_succ,List.set_cons_zero]
  rw [Eb (x:=.aE) (M1:=M) (by simp [jI,ew,-cS])]
  exact bu (by simp [aH,vw])
 ·rw [if_neg q] at ew ⊢
  rw [af fn4,fW (c:=2) (M':=M) (σ':=[some (.lst fl),some (.str x),some (.lst ks),some (.tup [.str x,.lst ts,kd,bd])]) rfl rfl rfl,dM]
  unfold ck
  show exs (aa aq k) _ [some (.lst fl),some (.str x),some (.lst ks),none] M=_
  rw [ao (x:=.tup [.str x,.lst ts,kd,bd]) (M1:=M) (by simp [ef])]
  simp only [List.set_cons_succ,List.set_cons_zero]
  rw [bK,JE]
  simp [jI,ew,-cS]
theorem BR {x:Str} {cs ks:List D} {d:D} (hn:aY M.length cs=true) (hk:1<=k) (h:∀ d∈cs,(aa aq k).call 9 [.lst fl,.ref r,d] M=.ok (ko k fl r M d) M) (hks:cs.map (ko k fl r M)=ks) (hl:cs.length<=10) (e:(aa aq k).call 4 [.lst fl,.str x,.lst ks] M=.ok d M) (hd:nr M.length d=true) :
  (aa aq (k+1)).call 9 [.lst fl, .ref r, .tup (.str (Str.ofString "call")::.str x::cs)] M=.ok d M:=by
 rw [af BE,fX (d:=d) (M':=M) rfl rfl rfl,aI hd]
 rw [gR]
 show exs (aa aq k) _ [some (.lst fl), some (.ref r), some (.tup (.str (Str.ofString "call")::.str x::cs)), none, none] M=_
 rw [c6 List.mem_cons_self]
 unfold kT
 rw [ao (gy (cs:=cs) rfl rfl rfl (gQ hk hn) h hks hl)]
 simp only [List.set_cons_succ,List.set_cons_zero]
 exact cH (M1:=M) (by simp [bg]) (bu (by simp [aH,vw,e]))
theorem xr {x:Str} {cs ks:List D} (hn:aY M.length cs=true) (hk:1<=k) (h:∀ d∈cs,(aa aq k).call 9 [.lst fl,.ref r,d] M=.ok (ko k fl r M d) M) (hks:cs.map (ko k fl r M)=ks) (hl:cs.length<=10) (e:(aa aq k).call 4 [.lst fl,.str x,.lst ks] M=.exc 2 M) :
  (aa aq (k+1)).call 9 [.lst fl, .ref r, .tup (.str (Str.ofString "call")::.str x::cs)] M=.exc 2 M:=by
 rw [af BE, fW (c:=2) (M':=M) (σ':=[some (.lst fl), some (.ref r), some (.tup (.str (Str.ofString "call")::.str x::cs)), some (.str (Str.ofString "call")), some (.lst ks)]) rfl rfl rfl, dM]
 rw [gR]
 show exs (aa aq k) _ [some (.lst fl), some (.ref r), some (.tup (.str (Str.ofString "call")::.str x::cs)), none, none] M=_
 rw [c6 List.mem_cons_self]
 unfold kT
 rw [ao (gy (cs:=cs) rfl rfl rfl (gQ hk hn) h hks hl)]
 simp only [List.set_cons_succ,List.set_cons_zero]
 rw [bK,jO]
 simp [bg,aH,vw,e]
end
theorem gA {n:Nat}:∀ {ks:List D},(∀ d∈ks,∃ m,m<=n/\Kd m d)->ay ks=true/\deps ks<=n+1
 | [],_=>by simp [ay,deps]
 | d::ks,h=>by
  obtain ⟨m,hm,q⟩:=h d List.mem_cons_self
  obtain ⟨h1,h2⟩:=gA fun d hd=>h d (List.mem_cons_of_mem _ hd)
  simp only [ay,deps,q.plain.1,h1,Bool.and_self,true_and]
  have:=q.plain.2.1
  omega
theorem qN {n:Nat} {ks ts:List D} (h1:∀ d∈ks,∃ m,m<=n/\Kd m d) (h2:∀ d∈ts,∃ m,m<=n/\Kd m d) (hn:n<=50):az (.lst ks) (.lst ts)=true:=by
 obtain ⟨a1,a2⟩:=gA h1
 obtain ⟨b1,b2⟩:=gA h2
 have:dep (.lst ks)<=100:=by simp only [dep];omega
 simp [az,Fg.plain,a1,b1,this]
theorem mR {ts:List D} (ht:∀ t∈ts,∃ y ky,t=.tup [.str y,ky]/\Kd 3 ky):∀ d∈ts.map bR,∃ m,m<=40/\Kd m d:=fun d hd=>by
 obtain ⟨t,h1,rfl⟩:=List.mem_map.mp hd
 obtain ⟨y,ky,rfl,q⟩:=ht t h1
 exact ⟨3,by omega,q⟩
section
variable {kvs:List (Ky×D)} {fl:List D} {r:Nat}
mutual
theorem Ty.run (fk:gW fl):∀ {h:Nat} {d p:D},Ty kvs fl h d p->∀ (k:Nat) (M:MH),dm M r kvs->h+4<=k->h<=20->(aa aq k).call 9 [.lst fl,.ref r,p] M=.ok d M
 | _,_,_,.number,k,M,hn,hk,hh=>we (by omega)
 | _,_,_,.name a,k,M,hn,hk,hh=>FL (by omega) hn a
 | _,_,_,.nil a,k,M,hn,hk,hh=>Ja (by omega) (a.plain.2.2 _)
 | h+1,_,_,.pair a b,k,M,hn,hk,hh=>by
  obtain ⟨k,rfl⟩:∃ j,k=j+1:=⟨k-1,by omega⟩
  have e1:=a.run fk k M hn (by omega) (by omega)
  have e2:=b.run fk k M hn (by omega) (by omega)
  have ka:=a.kd hn.ok fk.toFlOk
  have kb:=b.kd hn.ok fk.toFlOk
  exact cR (by simp [aN]) (by simp [aY,a.nr,b.nr]) (by omega) (by simp [bw e1,bw e2,e1,e2]) (by simp [bw e1,bw e2]) (by simp) (DF (by omega) ka kb) (by simp [nr,aY,ka.plain.2.2,kb.plain.2.2])
 | h+1,_,_,.first a,k,M,hn,hk,hh=>by
  obtain ⟨k,rfl⟩:∃ j,k=j+1:=⟨k-1,by omega⟩
  have e1:=a.run fk k M hn (by omega) (by omega)
  obtain ⟨m,_,ka,kb⟩:=jb (a.kd hn.ok fk.toFlOk)
  exact cR (by simp [aN]) (by simp [aY,a.nr]) (by omega) (by simp [bw e1,e1]) (by simp [bw e1]) (by simp) (y9 (by omega) ka kb) (ka.plain.2.2 _)
 | h+1,_,_,.second a,k,M,hn,hk,hh=>by
  obtain ⟨k,rfl⟩:∃ j,k=j+1:=⟨k-1,by omega⟩
  have e1:=a.run fk k M hn (by omega) (by omega)
  obtain ⟨m,_,ka,kb⟩:=jb (a.kd hn.ok fk.toFlOk)
  exact cR (by simp [aN]) (by simp [aY,a.nr]) (by omega) (by simp [bw e1,e1]) (by simp [bw e1]) (by simp) (ua (by omega) ka kb) (kb.plain.2.2 _)
 | h+1,_,_,.cons a b,k,M,hn,hk,hh=>by
  obtain ⟨k,rfl⟩:∃ j,k=j+1:=⟨k-1,by omega⟩
  have e1:=a.run fk k M hn (by omega) (by omega)
  have e2:=b.run fk k M hn (by omega) (by omega)
  have ka:=a.kd hn.ok fk.toFlOk
  exact cR (by simp [aN]) (by simp [aY,a.nr,b.nr]) (by omega) (by simp [bw e1,bw e2,e1,e2]) (by simp [bw e1,bw e2]) (by simp) (DI (by omega) ka (by omega)) (by simp [nr,aY,ka.plain.2.2])
 | h+1,_,_,.head a,k,M,hn,hk,hh=>by
  obtain ⟨k,rfl⟩:∃ j,k=j+1:=⟨k-1,by omega⟩
  have e1:=a.run fk k M hn (by omega) (by omega)
  obtain ⟨m,_,ka⟩:=kd_list (a.kd hn.ok fk.toFlOk)
  exact cR (by simp [aN]) (by simp [aY,a.nr]) (by omega) (by simp [bw e1,e1]) (by simp [bw e1]) (by simp) (DH (by omega) ka) (ka.plain.2.2 _)
 | h+1,_,_,.tail a,k,M,hn,hk,hh=>by
  obtain ⟨k,rfl⟩:∃ j,k=j+1:=⟨k-1,by omega⟩
  have e1:=a.run fk k M hn (by omega) (by omega)
  obtain ⟨m,_,ka⟩:=kd_list (a.kd hn.ok fk.toFlOk)
  exact cR (by simp [aN]) (by simp [aY,a.nr]) (by omega) (by simp [bw e1,e1]) (by simp [bw e1]) (by simp) (DE (by omega) ka) (by simp [nr,aY,ka.plain.2.2])
 | h+1,_,_,.none a,k,M,hn,hk,hh=>by
  obtain ⟨k,rfl⟩:∃ j,k=j+1:=⟨k-1,by omega⟩
  have e1:=a.run fk k M hn (by omega) (by omega)
  exact cR (by simp [aN]) (by simp [aY,a.nr]) (by omega) (by simp [bw e1,e1]) (by simp [bw e1];rfl) (by simp) (DG (by omega)) (by simp [nr,aY])
 | h+1,_,_,.op w a b,k,M,hn,hk,hh=>by
  obtain ⟨k,rfl⟩:∃ j,k=j+1:=⟨k-1,by omega⟩
  have e1:=a.run fk k M hn (by omega) (by omega)
  have e2:=b.run fk k M hn (by omega) (by omega)
  have hw:∀ x∈xS,x∈aN:=by decide +kernel
  exact cR (hw _ w) (by simp [aY,a.nr,b.nr]) (by omega) (by simp [bw e1,bw e2,e1,e2]) (by simp [bw e1,bw e2]) (by simp) (w_op (by omega) w) (by simp [nr,aY])
 | h+1,_,_,.ifs a b c,k,M,hn,hk,hh=>by
  obtain ⟨k,rfl⟩:∃ j,k=j+1:=⟨k-1,by omega⟩
  have e1:=a.run fk k M hn (by omega) (by omega)
  have e2:=b.run fk k M hn (by omega) (by omega)
  have e3:=c.run fk k M hn (by omega) (by omega)
  have kb:=b.kd hn.ok fk.toFlOk
  exact cR (by simp [aN]) (by simp [aY,a.nr,b.nr,c.nr]) (by omega) (by simp [bw e1,bw e2,bw e3,e1,e2,e3]) (by simp [bw e1,bw e2,bw e3]) (by simp) (w_if (by omega) kb (by omega)) (kb.plain.2.2 _)
 | h+1,_,_,.call m a,k,M,hn,hk,hh=>by
  obtain ⟨k,rfl⟩:∃ j,k=j+1:=⟨k-1,by omega⟩
  obtain ⟨q1,q2⟩:=a.run fk k M hn (by omega) (by omega)
  obtain ⟨y,t2,k2,b2,e,hkd,hts,ht⟩:=fk.ex _ m
  cases e
  have hc:=qN (mR ht) (mR ht) (by omega)
  refine BR (a.nr _) (by omega) q1 q2 (by rw [a.len];omega) ?_ (hkd.plain.2.2 _)
  rw [rS (by omega) fk m hc,if_pos (cK (by simp only [Fg.plain];exact (gA (mR ht)).1))]
theorem dX.run (fk:gW fl):∀ {h:Nat} {ts cs:List D},dX kvs fl h ts cs->∀ (k:Nat) (M:MH),dm M r kvs->h+4<=k->h<=20->(∀ d∈cs,(aa aq k).call 9 [.lst fl,.ref r,d] M=.ok (ko k fl r M d) M)/\cs.map (ko k fl r M)=ts.map bR
 | _,_,_,.nil,k,M,hn,hk,hh=>by simp
 | _,_,_,.cons a b,k,M,hn,hk,hh=>by
  have e:=a.run fk k M hn hk hh
  obtain ⟨q1,q2⟩:=b.run fk k M hn hk hh
  refine ⟨fun d hd=>?_,by simp [bw e,q2,bR]⟩
  rcases List.mem_cons.mp hd with rfl | hd
  ·rw [bw e];exact e
  ·exact q1 d hd
end
end
end dI
end
section
namespace dI
open Fg PySem
noncomputable def Sub (kvs kvs':List (Ky×D)):Prop:=∀ x d,look kvs (.inr x)=some d->look kvs' (.inr x)=some d
section
variable {kvs kvs':List (Ky×D)} {fl:List D}
mutual
theorem Ty.weak (s:Sub kvs kvs'):∀ {h:Nat} {k p:D},Ty kvs fl h k p->Ty kvs' fl h k p
 | _,_,_,.number=>.number
 | _,_,_,.name a=>.name (s _ _ a)
 | _,_,_,.nil a=>.nil a
 | _,_,_,.pair a b=>.pair (a.weak s) (b.weak s)
 | _,_,_,.first a=>.first (a.weak s)
 | _,_,_,.second a=>.second (a.weak s)
 | _,_,_,.cons a b=>.cons (a.weak s) (b.weak s)
 | _,_,_,.head a=>.head (a.weak s)
 | _,_,_,.tail a=>.tail (a.weak s)
 | _,_,_,.none a=>.none (a.weak s)
 | _,_,_,.op w a b=>.op w (a.weak s) (b.weak s)
 | _,_,_,.ifs a b c=>.ifs (a.weak s) (b.weak s) (c.weak s)
 | _,_,_,.call m a=>.call m (a.weak s)
theorem dX.weak (s:Sub kvs kvs'):∀ {h:Nat} {ts cs:List D},dX kvs fl h ts cs->dX kvs' fl h ts cs
 | _,_,_,.nil=>.nil
 | _,_,_,.cons a b=>.cons (a.weak s) (b.weak s)
end
structure mK (f n:Nat) (kvs:List (Ky×D)) (fl:List D) (p:D):Prop where
 nr:∀ m,Fg.nr m p=true
 run:∀ (kvs':List (Ky×D)) (r k:Nat) (M:MH),Sub kvs kvs'->dm M r kvs'->kvs'.length<=n->f<=k->(aa aq k).call 9 [.lst fl,.ref r,p] M=.exc 2 M
theorem mK.le {f f' n n':Nat} {p:D} (b:mK f n kvs fl p) (h:f<=f') (hn:n'<=n):mK f' n' kvs fl p:=⟨b.nr,fun kvs' r k M s nm hl hk=>b.run kvs' r k M s nm (by omega) (by omega)⟩
noncomputable abbrev tk (ks:List D):List D:=ks.map fun k=>D.tup [.str uM,k]
theorem qd (ks:List D):(tk ks).map bR=ks:=by
 induction ks with
 | nil=>rfl
 | cons k ks ih=>simp only [tk,List.map_cons,bR] at ih ⊢;rw [ih]
theorem aX {h n:Nat} {w:Str} {cs ks:List D} (fk:gW fl) (hw:w∈aN) (t:dX kvs fl h (tk ks) cs) (hh:h<=14) (hl:cs.length<=10) (e:∀ (k:Nat) (M:MH),3<=k->(aa aq k).call 7 [.str w,.lst ks] M=.exc 2 M):mK 19 n kvs fl (.tup (.str w::cs)):=by
 refine ⟨fun m=>by simp [Fg.nr,aY,t.nr],fun kvs' r k M s nm _ hk=>?_⟩
 obtain ⟨k,rfl⟩:∃ j,k=j+1:=⟨k-1,by omega⟩
 obtain ⟨q1,q2⟩:=(t.weak s).run fk k M nm (by omega) (by omega)
 rw [qd] at q2
 exact vj hw (t.nr _) (by omega) q1 q2 hl (e k M (by omega))
theorem iG {f n h:Nat} {w:Str} {pre post ks:List D} {d:D} (fk:gW fl) (hw:w∈aN) (t:dX kvs fl h (tk ks) pre) (hh:h<=14) (b:mK f n kvs fl d) (hp:∀ m,aY m post=true) (hl:pre.length<=10) (hf:18<=f):mK (f+1) n kvs fl (.tup (.str w::(pre++d::post))):=by
 have hnr:∀ m,aY m (pre++d::post)=true:=fun m=>by
  have a:=t.nr m
  have b':=b.nr m
  have c:=hp m
  clear t
  induction pre with
  | nil=>simp [aY,b',c]
  | cons x pre ih =>
   simp only [aY,Bool.and_eq_true] at a
   simp only [List.cons_append,aY,Bool.and_eq_true]
   exact ⟨a.1,ih (by simp at hl;omega) a.2⟩
 refine ⟨fun m=>by simp [Fg.nr,aY,hnr],fun kvs' r k M s nm hn hk=>?_⟩
 obtain ⟨k,rfl⟩:∃ j,k=j+1:=⟨k-1,by omega⟩
 obtain ⟨q1,q2⟩:=(t.weak s).run fk k M nm (by omega) (by omega)
 exact Ak hw (hnr _) (by omega) q1 (b.run kvs' r k M s nm hn (by omega)) hl
theorem vY {k r:Nat} {M:MH} {x:Str} {a b:D} {R0:R D} (e:(aa aq k).call 8 [.lst fl, .ref r, .tup [.str (Str.ofString "let"), .str x, a, b]] M=.exc 2 M) :
  (aa aq (k+1)).call 9 [.lst fl, .ref r, .tup [.str (Str.ofString "let"), .str x, a, b]] M=.exc 2 M:=by
 rw [af BE, fW (c:=2) (M':=M) (σ':=[some (.lst fl), some (.ref r), some (.tup [.str (Str.ofString "let"), .str x, a, b]), some (.str (Str.ofString "let")), none]) rfl rfl rfl, dM]
 rw [gR]
 show exs (aa aq k) _ [some (.lst fl), some (.ref r), some (.tup [.str (Str.ofString "let"), .str x, a, b]), none, none] M=_
 unfold kH
 rw [ao (x:=.str (Str.ofString "let")) (M1:=M) (by simp [aH, vw])]
 simp only [List.set_cons_succ,List.set_cons_zero]
 rw [aB (M1:=M) (by simp [bg]),aB (M1:=M) (by simp [bg]),aB (M1:=M) (by simp [bg]),bK,jO]
 simp [bg,e]
theorem m7 {M N:MH} {c:Nat}:d8 M c (M++N)=.exc c M:=by simp [d8]
theorem xE {f n:Nat} {x:Str} {a b:D} (ba:mK f n kvs fl a) (hb:∀ m, Fg.nr m b=true):mK (f+2) n kvs fl (.tup [.str (Str.ofString "let"), .str x, a, b]):=by
 refine ⟨fun m=>by simp [Fg.nr,aY,ba.nr,hb],fun kvs' r k M s nm hn hk=>?_⟩
 obtain ⟨k,rfl⟩:∃ j,k=j+2:=⟨k-2,by omega⟩
 refine vY (R0:=.bad) ?_
 have nm1:dm (M++[.dct kvs']) r kvs':=nm.app
 have ea:=ba.run kvs' r k _ s nm1 hn (by omega)
 rw [af fn8, fW (c:=2) (M':=M++[.dct kvs']) (σ':=[some (.lst fl), some (.ref r), some (.tup [.str (Str.ofString "let"), .str x, a, b]), some (.ref M.length)]) rfl rfl rfl, m7]
 unfold cF
 show exs (aa aq k) _ [some (.lst fl), some (.ref r), some (.tup [.str (Str.ofString "let"), .str x, a, b]), none] M=_
 rw [ao (x:=.ref M.length) (M1:=M++[.dct kvs']) (by simp [cz,vw,nm.at_])]
 simp only [List.set_cons_succ,List.set_cons_zero]
 rw [bK,rq]
 simp [aH,vw,ea]
theorem nI {x y:Str} {v:D} (h:y≠x):∀ (kvs:List (Ky×D)),look (kvs.map fun kv=>if kv.1=Sum.inr x then (kv.1,v) else kv) (.inr y)=look kvs (.inr y)
 | []=>rfl
 | (pk,pd)::r=>by
  have ih:=nI (v:=v) h r
  unfold look at ih ⊢
  rw [List.map_cons,List.find?_cons,List.find?_cons]
  by_cases e:pk=Sum.inr y
  ·subst e
   have ne:¬ ((Sum.inr y:Ky)=Sum.inr x):=fun z=>h (by cases z;rfl)
   simp [ne,h]
  ·have e1:decide (pk=Sum.inr y)=false:=decide_eq_false e
   have e2:decide ((if pk=Sum.inr x then (pk,v) else (pk,pd)).1=Sum.inr y)=false:=by split <;> exact e1
   rw [e1,e2]
   exact ih
theorem vX {kvs:List (Ky×D)} {x y:Str} {v:D} (h:y≠x):look (put kvs (.inr x) v) (.inr y)=look kvs (.inr y):=by
 unfold put
 split
 ·exact nI h kvs
 ·unfold look
  rw [List.find?_append]
  cases kvs.find? (fun kv=>decide (kv.1=Sum.inr y)) with
  | some p=>rfl
  | none =>
   have hxy:decide (x=y)=false:=decide_eq_false (Ne.symm h)
   simp [List.find?_cons,hxy]
theorem En {kvs:List (Ky×D)} {x:Str} {v:D} (h:xO kvs) (hv:Kd 3 v):xO (put kvs (.inr x) v)/\(put kvs (.inr x) v).length<=kvs.length+1:=by
 unfold put
 split
 ·refine ⟨fun kv hkv=>?_,by simp⟩
  obtain ⟨p,hp,rfl⟩:=List.mem_map.mp hkv
  split
  ·exact ⟨(h p hp).1,hv⟩
  ·exact h p hp
 ·refine ⟨fun kv hkv=>?_,by simp⟩
  rcases List.mem_append.mp hkv with q | q
  ·exact h kv q
  ·rw [List.mem_singleton.mp q];exact ⟨⟨x,rfl⟩,hv⟩
theorem xD {f n h:Nat} {x:Str} {a b d:D} (fk:gW fl) (ta:Ty kvs fl h d a) (hd:Kd 3 d) (hh:h<=14) (bb:mK f (n+1) kvs fl b) (hx:look kvs (.inr x)=none) (hf:18<=f) (hn9:n<=9):mK (f+2) n kvs fl (.tup [.str (Str.ofString "let"), .str x, a, b]):=by
 refine ⟨fun m=>by simp [Fg.nr,aY,ta.nr,bb.nr],fun kvs' r k M s nm hn hk=>?_⟩
 obtain ⟨k,rfl⟩:∃ j,k=j+2:=⟨k-2,by omega⟩
 refine vY (R0:=.bad) ?_
 have nm1:dm (M++[.dct kvs']) r kvs':=nm.app
 have ea:=(ta.weak s).run fk k _ nm1 (by omega) (by omega)
 obtain ⟨p1,p2⟩:=En (x:=x) nm.ok hd
 have nm2:dm (M++[.dct (put kvs' (.inr x) d)]) M.length (put kvs' (.inr x) d):=⟨by simp,p1,by omega⟩
 have s2:Sub kvs (put kvs' (.inr x) d):=fun y e hy=>by
  have ne:y≠x:=by rintro rfl;rw [hx] at hy;cases hy
  rw [vX ne];exact s y e hy
 have eb:=bb.run _ M.length k _ s2 nm2 (by omega) (by omega)
 rw [af fn8, fW (c:=2) (M':=M++[.dct (put kvs' (.inr x) d)]) (σ':=[some (.lst fl), some (.ref r), some (.tup [.str (Str.ofString "let"), .str x, a, b]), some (.ref M.length)]) rfl rfl rfl, m7]
 unfold cF
 show exs (aa aq k) _ [some (.lst fl), some (.ref r), some (.tup [.str (Str.ofString "let"), .str x, a, b]), none] M=_
 rw [ao (x:=.ref M.length) (M1:=M++[.dct kvs']) (by simp [cz,vw,nm.at_])]
 simp only [List.set_cons_succ,List.set_cons_zero]
 have hlen:kvs'.length<line:=by unfold line;omega
 rw [bK,rq]
 simp [aH,vw,ea,jv,keyOf,hlen,eb]
end
end dI
end
section
namespace dI
open Fg PySem
theorem qM (d:D):d≠bf d:=by
 intro e
 have:=congrArg sizeOf e
 simp at this
 omega
theorem FF {z:Int}:knd (2+z % 8)≠aA:=by
 have:z % 8=0\/z % 8=1\/z % 8=2\/z % 8=3\/z % 8=4\/z % 8=5\/z % 8=6\/z % 8=7:=by omega
 rcases this with e | e | e | e | e | e | e | e <;> rw [e] <;> decide
section
variable {kvs:List (Ky×D)} {fl:List D} {n:Nat}
noncomputable def gk (p q c:D):List D :=
  [.tup [.str (Str.ofString "plus"), p, q], .tup [.str (Str.ofString "less"), q, p], .tup [.str (Str.ofString "times"), .tup [.str (Str.ofString "nil"), aA], q],
   .tup [.str (Str.ofString "minus"), q, .tup [.str (Str.ofString "pair"), q, q]],
   .tup [.str (Str.ofString "if"), p, q, q], .tup [.str (Str.ofString "if"), q, q, p], .tup [.str (Str.ofString "if"), q, p, q], .tup [.str (Str.ofString "cons"), p, p],
   .tup [.str (Str.ofString "cons"), q, q], .tup [.str (Str.ofString "cons"), q, .tup [.str (Str.ofString "nil"), bf aA]], .tup [.str (Str.ofString "head"), q], .tup [.str (Str.ofString "tail"), q],
   .tup [.str (Str.ofString "head"), .tup [.str (Str.ofString "pair"), p, p]], .tup [.str (Str.ofString "none"), q], .tup [.str (Str.ofString "first"), q], .tup [.str (Str.ofString "second"), .tup [.str (Str.ofString "nil"), aA]],
   .tup [.str (Str.ofString "none"), .tup [.str (Str.ofString "pair"), q, p]], c]
theorem BY {p q c kh:D} (fk:gW fl) (hk:Kd 3 kh) (ne:kh≠aA) (tp:Ty kvs fl 9 kh p) (tq:Ty kvs fl 9 aA q) (bc:mK 19 n kvs fl c):∀ d∈gk p q c,mK 19 n kvs fl d:=by
 have nn:Kd 0 aA:=.num 0
 have l8:Kd 8 aA:=.num 8
 have e1:aA≠bf aA:=by decide
 have e2:bf aA≠aA:=by decide
 have e3:dz aA aA≠aA:=by decide
 have e4:bf (bf aA)≠bf aA:=by decide
 have u1:uM≠bx:=by decide
 have u2:bP≠bx:=by decide
 have u3:uM≠bP:=by decide
 have u4:bx≠bP:=by decide
 intro d hd
 simp only [gk,List.mem_cons,List.not_mem_nil,or_false] at hd
 rcases hd with rfl | rfl | rfl | rfl | rfl | rfl | rfl | rfl | rfl | rfl | rfl | rfl | rfl | rfl | rfl | rfl | rfl | rfl
 ·exact aX (ks:=[kh,aA]) fk (by simp [aN]) (.cons tp (.cons tq .nil)) (by decide) (by simp) fun k M h=>xG h (by simp [ud]) hk (by decide) ne
 ·exact aX (ks:=[aA,kh]) fk (by simp [aN]) (.cons tq (.cons tp .nil)) (by decide) (by simp) fun k M h=>Dw h (by simp [xS]) hk (by decide) ne
 ·exact aX (ks:=[bf aA,aA]) fk (by simp [aN]) (.cons (.nil l8) (.cons tq .nil)) (by decide) (by simp) fun k M h=>xG h (by simp [ud]) (.list nn) (by decide) e2
 ·exact aX (h:=10) (ks:=[aA,dz aA aA]) fk (by simp [aN]) (.cons tq.up (.cons (.pair tq tq) .nil)) (by decide) (by simp) fun k M h=>Dw h (by simp [xS]) (.pair nn nn) (by decide) e3
 ·exact aX (ks:=[kh,aA,aA]) fk (by simp [aN]) (.cons tp (.cons tq (.cons tq .nil))) (by decide) (by simp) fun k M h=>xG h (by simp [ud]) hk (by decide) ne
 ·exact aX (ks:=[aA,aA,kh]) fk (by simp [aN]) (.cons tq (.cons tq (.cons tp .nil))) (by decide) (by simp) fun k M h=>JY h nn hk (by decide) ne
 ·exact aX (ks:=[aA,kh,aA]) fk (by simp [aN]) (.cons tq (.cons tp (.cons tq .nil))) (by decide) (by simp) fun k M h=>JY h hk nn (by decide) (Ne.symm ne)
 ·exact aX (ks:=[kh,kh]) fk (by simp [aN]) (.cons tp (.cons tp .nil)) (by decide) (by simp) fun k M h=>pX h hk hk (by decide) (qM kh)
 ·exact aX (ks:=[aA,aA]) fk (by simp [aN]) (.cons tq (.cons tq .nil)) (by decide) (by simp) fun k M h=>pX h nn nn (by decide) e1
 ·exact aX (ks:=[aA,bf (bf aA)]) fk (by simp [aN]) (.cons tq (.cons (.nil (.list (.num 7))) .nil)) (by decide) (by simp) fun k M h=>pX h nn (.list (.list nn)) (by decide) e4
 ·exact aX (ks:=[aA]) fk (by simp [aN]) (.cons tq .nil) (by decide) (by simp) fun k M h=>jT h (by simp) u1
 ·exact aX (ks:=[aA]) fk (by simp [aN]) (.cons tq .nil) (by decide) (by simp) fun k M h=>jT h (by simp) u1
 ·exact aX (h:=10) (ks:=[dz kh kh]) fk (by simp [aN]) (.cons (.pair tp tp) .nil) (by decide) (by simp) fun k M h=>jT h (by simp) u2
 ·exact aX (ks:=[aA]) fk (by simp [aN]) (.cons tq .nil) (by decide) (by simp) fun k M h=>jT h (by simp) u1
 ·exact aX (ks:=[aA]) fk (by simp [aN]) (.cons tq .nil) (by decide) (by simp) fun k M h=>xF h (by simp) u3
 ·exact aX (h:=1) (ks:=[bf aA]) fk (by simp [aN]) (.cons (.nil l8) .nil) (by decide) (by simp) fun k M h=>xF h (by simp) u4
 ·exact aX (h:=10) (ks:=[dz aA kh]) fk (by simp [aN]) (.cons (.pair tq tp) .nil) (by decide) (by simp) fun k M h=>jT h (by simp) u2
 ·exact bc
noncomputable def cO (b q:D):List D :=
  [b, .tup [.str (Str.ofString "let"), .str (Str.ofString "zq"), b, q], .tup [.str (Str.ofString "let"), .str (Str.ofString "zq"), q, b], .tup [.str (Str.ofString "if"), q, b, b],
   .tup [.str (Str.ofString "none"), .tup [.str (Str.ofString "cons"), b, q]], .tup [.str (Str.ofString "pair"), q, b], .tup [.str (Str.ofString "first"), .tup [.str (Str.ofString "pair"), q, b]]]
theorem pZ {b q:D} (fk:gW fl) (hb:∀ n, mK 19 n kvs fl b) (tq:Ty kvs fl 9 aA q) (hz:look kvs (.inr (Str.ofString "zq"))=none) (hn:n<=9):∀ d∈cO b q, mK 21 n kvs fl d:=by
 intro d hd
 simp only [cO,List.mem_cons,List.not_mem_nil,or_false] at hd
 rcases hd with rfl | rfl | rfl | rfl | rfl | rfl | rfl
 ·exact (hb n).le (by decide) (Nat.le_refl _)
 ·exact xE (hb n) tq.nr
 ·exact xD fk tq (.num 3) (by decide) (hb (n+1)) hz (by decide) hn
 ·exact (iG (ks:=[aA]) (pre:=[q]) (post:=[b]) fk (by simp [aN]) (.cons tq .nil) (by decide) (hb n) (by simp [aY,(hb 0).nr]) (by simp) (by decide)).le (by decide) (Nat.le_refl _)
 ·exact iG (ks:=[]) (pre:=[]) (post:=[]) (h:=0) fk (by simp [aN]) .nil (by decide) (iG (ks:=[]) (pre:=[]) (post:=[q]) (h:=0) fk (by simp [aN]) .nil (by decide) (hb n) (by simp [aY,tq.nr]) (by simp) (by decide)) (by simp [aY]) (by simp) (by decide)
 ·exact (iG (ks:=[aA]) (pre:=[q]) (post:=[]) fk (by simp [aN]) (.cons tq .nil) (by decide) (hb n) (by simp [aY]) (by simp) (by decide)).le (by decide) (Nat.le_refl _)
 ·exact iG (ks:=[]) (pre:=[]) (post:=[]) (h:=0) fk (by simp [aN]) .nil (by decide) (iG (ks:=[aA]) (pre:=[q]) (post:=[]) fk (by simp [aN]) (.cons tq .nil) (by decide) (hb n) (by simp [aY]) (by simp) (by decide)) (by simp [aY]) (by simp) (by decide)
theorem jS {h:Nat} {x:Str} {ts cs ks:List D} {kd bd:D} (fk:gW fl) (hm:D.tup [.str x, .lst ts, kd, bd]∈fl) (t:dX kvs fl h (tk ks) cs) (hh:h<=14) (hl:cs.length<=10) (hks:∀ d∈ks, ∃ m, m<=40/\Kd m d) (ne:ks≠ts.map bR):mK 19 n kvs fl (.tup (.str (Str.ofString "call")::.str x::cs)):=by
 refine ⟨fun m=>by simp [Fg.nr,aY,t.nr],fun kvs' r k M s nm _ hk=>?_⟩
 obtain ⟨k,rfl⟩:∃ j,k=j+1:=⟨k-1,by omega⟩
 obtain ⟨q1,q2⟩:=(t.weak s).run fk k M nm (by omega) (by omega)
 rw [qd] at q2
 obtain ⟨y,t2,k2,b2,e,hkd,hts,ht⟩:=fk.ex _ hm
 cases e
 refine dI.xr (t.nr _) (by omega) q1 q2 hl ?_
 rw [rS (by omega) fk hm (qN hks (mR ht) (by decide)),if_neg]
 intro z
 have:=jR (by simp only [Fg.plain];exact (gA hks).1) z
 cases this
 exact ne rfl
end
end dI
end
section
namespace dI
open Fg PySem
section
variable {kvs:List (Ky×D)} {fl:List D}
theorem dX.Eg:∀ {h:Nat} {ts cs:List D},dX kvs fl h ts cs->dX kvs fl h (tk (ts.map bR)) cs
 | _,_,_,.nil=>.nil
 | _,_,_,.cons a b=>.cons a b.Eg
theorem dX.set:∀ {h:Nat} {ks cs:List D} (i:Nat) {k p:D},dX kvs fl h (tk ks) cs->Ty kvs fl h k p->dX kvs fl h (tk (ks.set i k)) (cs.set i p)
 | h,[],cs,i,k,p,t,q=>by cases t;exact .nil
 | h, k0::ks, cs, i, k, p, t, q=>by
  cases t with
  | cons a b =>
   cases i with
   | zero=>exact .cons q b
   | succ i=>exact .cons a (dX.set i b q)
noncomputable def lv (k:Nat) (s:Int) (r:Nat) (M:MH) (t:D):D:=match (aa aq k).call 17 [bR t,.int s,.ref r] M with | .ok x _=>x | _=>.aE
theorem xx {k:Nat} {s:Int} {r:Nat} {M:MH} {ts:List D} (hs:Sd s) (hn:dm M r kvs) (hk:6<=k) (ht:∀ t∈ts,∃ y ky,t=.tup [.str y,ky]/\Kd 3 ky) :
  (∀ t∈ts,(aa aq k).call 17 [bR t,.int s,.ref r] M=.ok (lv k s r M t) M)/\dX kvs fl 3 ts (ts.map (lv k s r M)):=by
 induction ts with
 | nil=>exact ⟨fun t h=>by simp at h,.nil⟩
 | cons t ts ih =>
  obtain ⟨q1,q2⟩:=ih fun t h=>ht t (List.mem_cons_of_mem _ h)
  obtain ⟨y,ky,rfl,kk⟩:=ht t List.mem_cons_self
  obtain ⟨p,w,e⟩:=mE (fl:=fl) kk (by decide) hs hn
  have e':(aa aq k).call 17 [bR (.tup [.str y,ky]),.int s,.ref r] M=.ok p M:=e k (by omega)
  have el:lv k s r M (.tup [.str y,ky])=p:=by unfold lv;rw [e']
  refine ⟨fun t h=>?_,?_⟩
  ·rcases List.mem_cons.mp h with rfl | h
   ·rw [el];exact e'
   ·exact q1 t h
  ·rw [List.map_cons,el]
   exact .cons w q2
theorem sL {ts:List D} (ht:∀ t∈ts,∃ y ky,t=.tup [.str y,ky]/\Kd 3 ky):∀ d∈ts.map bR,∃ m,m<=40/\Kd m d:=mR ht
theorem pW {k:Nat} {s:Int} {r:Nat} {M:MH} (fk:gW fl) (h4:fl.length=4) (hn:dm M r kvs) (hk:8<=k):∃ p,(∀ n,mK 19 n kvs fl p)/\(aa aq k).call 23 [.lst fl,.int s,.ref r] M=.ok p M:=by
 obtain ⟨k,rfl⟩:∃ j,k=j+1:=⟨k-1,by omega⟩
 obtain ⟨f,hf,ef⟩:=eK (xs:=fl) (i:=s % 4) (by omega) (by rw [h4];omega)
 obtain ⟨x,ts,kd,bd,rfl,hkd,hts,ht⟩:=fk.ex f hf
 obtain ⟨lq,lt⟩:=xx (fl:=fl) (k:=k) (s:=next s 3) (ts:=ts) (bM _ _) hn (by omega) ht
 have hlen:(ts.map (lv k (next s 3) r M)).length=ts.length:=by simp
 have L:=bV (cond:=lW (aa aq k) O.none) (elt:=ev (aa aq k) (E.call 17 (Es.cons (E.idx (E.v 2) (E.k (.int 1))) (Es.cons (E.call 12 (Es.cons (E.v 1) (Es.cons (E.k (.int 3)) Es.nil))) (Es.cons (E.v 0) Es.nil))))) (i:=2) (cC:=aG M (.lst ts)) (M:=M) (f:=lv k (next s 3) r M) (p:=fun _=>true) (by simp [aG]) ts [] [some (.ref r),some (.int s),none]
  (fun d hd=>by
   have:=lq d hd
   obtain ⟨y,ky,rfl,_⟩:=ht d hd
   have HA:(aa aq k).call 17 [ky,.int (next s 3),.ref r] M=.ok (lv k (next s 3) r M (.tup [.str y,ky])) M:=this
   simp [aH,vw,cy (show 1<=k by omega),HA]) (by simp [line];omega)
 rw [show ts.filter (fun _=>true)=ts from List.filter_eq_self.mpr (by simp),List.nil_append] at L
 generalize hmd:ts.map (lv k (next s 3) r M)=made at L lt hlen
 have jI:ev (aa aq k) (E.comp false [2,1] [2] (E.call 17 (Es.cons (E.idx (E.v 2) (E.k (.int 1))) (Es.cons (E.call 12 (Es.cons (E.v 1) (Es.cons (E.k (.int 3)) Es.nil))) (Es.cons (E.v 0) Es.nil)))) (Src.e (E.idx (E.v 3) (E.k (.int 1)))) O.none) [some (.lst fl),some (.int s),some (.ref r),some (.tup [.str x,.lst ts,kd,bd]),none,none] M=.ok (.ref M.length) (M++[.lst made]):=by
  have hix:ev (aa aq k) (E.idx (E.v 3) (E.k (.int 1))) [some (.lst fl),some (.int s),some (.ref r),some (.tup [.str x,.lst ts,kd,bd]),none,none] M=.ok (.lst ts) M:=by simp [aH,vw]
  rw [cS,jQ,hix]
  simp [itemsOf,vw,dH,-fG,-lY,L,aR]
 have kk:=lt.Eg
 have dg:=sL ht
 have ge:∀ N:MH,(M++[.lst made]++N)[M.length]? = some (.lst made):=fun N=>by simp
 have g0:(M++[MO.lst made])[M.length]? = some (.lst made):=by simp
 have Fw:∀ σ:Sg,σ[4]? = some (some (.ref M.length))->ev (aa aq k) (.blt .len true (.cons (.v 4) .nil)) σ (M++[.lst made])=.ok (.int (ts.length:Int)) (M++[.lst made]):=fun σ h=>by simp [h,cz,vw,hlen]
 have nrm:∀ m,aY m made=true:=lt.nr
 have yV:∀ (a b:Int) (M:MH),av .eq M (.int a) (.int b)=.ok (.bl (decide (a=b))) M:=fun a b M=>by simp [av,bB,bD,bz,aC,ai,bA,az,top,Fg.plain,dep]
 have c3:s / 4 % 3=0\/s / 4 % 3=1\/s / 4 % 3=2:=by omega
 have lz:decide ((ts.length:Int)=0)=decide (ts.length=0):=decide_eq_decide.mpr (by omega)
 have l4:decide ((ts.length:Int)<4)=decide (ts.length<4):=decide_eq_decide.mpr (by omega)
 have le:=Fw [some (.lst fl),some (.int s),some (.ref r),some (.tup [.str x,.lst ts,kd,bd]),some (.ref M.length),none] rfl
 have n8:ev (aa aq k) (E.and (E.or (E.cmp .eq (E.op .mod true (E.op .fdiv true (E.v 1) (E.k (.int 4))) (E.k (.int 3))) (E.k (.int 0))) (E.cmp .eq (E.blt .len true (Es.cons (E.v 4) Es.nil)) (E.k (.int 0)))) (E.cmp .lt (E.blt .len true (Es.cons (E.v 4) Es.nil)) (E.k (.int 4)))) [some (.lst fl),some (.int s),some (.ref r),some (.tup [.str x,.lst ts,kd,bd]),some (.ref M.length),none] (M++[.lst made]) =
   .ok (.bl (decide ((s / 4 % 3=0\/ts.length=0)/\ts.length<4))) (M++[.lst made]):=by
  have a1:ev (aa aq k) (E.cmp .eq (E.op .mod true (E.op .fdiv true (E.v 1) (E.k (.int 4))) (E.k (.int 3))) (E.k (.int 0))) [some (.lst fl),some (.int s),some (.ref r),some (.tup [.str x,.lst ts,kd,bd]),some (.ref M.length),none] (M++[.lst made])=.ok (.bl (decide (s / 4 % 3=0))) (M++[.lst made]):=by
   simp [bC,aJ,yV]
  have a2:ev (aa aq k) (E.cmp .eq (E.blt .len true (Es.cons (E.v 4) Es.nil)) (E.k (.int 0))) [some (.lst fl),some (.int s),some (.ref r),some (.tup [.str x,.lst ts,kd,bd]),some (.ref M.length),none] (M++[.lst made])=.ok (.bl (decide (ts.length=0))) (M++[.lst made]):=by
   rw [iE,le]
   simp only [R.aD,sX,yV,lz]
  have a3:ev (aa aq k) (E.cmp .lt (E.blt .len true (Es.cons (E.v 4) Es.nil)) (E.k (.int 4))) [some (.lst fl),some (.int s),some (.ref r),some (.tup [.str x,.lst ts,kd,bd]),some (.ref M.length),none] (M++[.lst made])=.ok (.bl (decide (ts.length<4))) (M++[.lst made]):=by
   rw [iE,le]
   simp only [R.aD,sX,av,bB,bD,bz,aC,ai,bA,l4]
  rw [GI,Dl,a1]
  by_cases c0:s / 4 % 3=0
  ·simp only [c0,decide_true,R.aD,a3,true_or,true_and]
  ·simp only [c0,decide_false,R.aD,a2,false_or]
   by_cases hz:ts.length=0
   ·simp only [hz,decide_true,R.aD,a3,true_and]
   ·simp only [hz,decide_false,R.aD,false_and]
 have start:∀ R0:R Out, exs (aa aq k) (.cons (S.ifs (E.and (E.or (E.cmp .eq (E.op .mod true (E.op .fdiv true (E.v 1) (E.k (.int 4))) (E.k (.int 3))) (E.k (.int 0))) (E.cmp .eq (E.blt .len true (Es.cons (E.v 4) Es.nil)) (E.k (.int 0)))) (E.cmp .lt (E.blt .len true (Es.cons (E.v 4) Es.nil)) (E.k (.int 4)))) (Ss.cons (S.ex (E.o9 .append true (E.v 4) (Es.cons (E.tup (Es.cons (E.k (.str (PySem.Str.ofString "number"))) (Es.cons (E.k (.int 1)) Es.nil))) Es.nil))) Ss.nil) (Ss.cons (S.ifs (E.cmp .lt (E.op .mod true (E.op .fdiv true (E.v 1) (E.k (.int 4))) (E.k (.int 3))) (E.k (.int 2))) (Ss.cons (S.set 4 (E.sl false (E.v 4) (O.some (E.k (.int 1))) O.none)) Ss.nil) (Ss.cons (S.set 5 (E.op .mod true (E.op .fdiv true (E.v 1) (E.k (.int 12))) (E.blt .len true (Es.cons (E.v 4) Es.nil))))
  (Ss.cons (S.j3 (E.v 4) (E.v 5) (E.tup (Es.cons (E.k (.str (PySem.Str.ofString "nil"))) (Es.cons (E.idx (E.idx (E.idx (E.v 3) (E.k (.int 1))) (E.v 5)) (E.k (.int 1))) Es.nil)))) Ss.nil))) Ss.nil))
  (Ss.cons (S.ret (E.blt .tuple true (Es.cons (E.op .add true (E.lst true (Es.cons (E.k (.str (PySem.Str.ofString "call"))) (Es.cons (E.idx (E.v 3) (E.k (.int 0))) Es.nil))) (E.v 4)) Es.nil))) Ss.nil)) [some (.lst fl), some (.int s), some (.ref r), some (.tup [.str x, .lst ts, kd, bd]), some (.ref M.length), none] (M++[.lst made])=R0 ->
   exs (aa aq k) cj.body [some (.lst fl),some (.int s),some (.ref r),none,none,none] M=R0:=by
  intro R0 h
  unfold cj
  dsimp only
  refine (ao (x:=.tup [.str x,.lst ts,kd,bd]) (M1:=M) (by simp [bC,aJ,aH,vw,ef])).trans ?_
  simp only [List.set_cons_succ,List.set_cons_zero]
  refine (ao jI).trans ?_
  simp only [List.set_cons_succ,List.set_cons_zero]
  exact h
 by_cases ca:(s / 4 % 3=0\/ts.length=0)/\ts.length<4
 ·have t2:dX kvs fl 3 (tk (ts.map bR++[aA])) (made++[.tup [.str (Str.ofString "number"), .int 1]]):=by
   have:=dX.snoc (y:=uM) (p:=.tup [.str (Str.ofString "number"), .int 1]) .number kk
   simpa [tk] using this
  refine ⟨.tup (.str (Str.ofString "call")::.str x::(made++[.tup [.str (Str.ofString "number"), .int 1]])), fun n=>?_, ?_⟩
  ·refine jS fk hf t2 (by decide) (by simp [hlen];omega) (fun d hd=>?_) (fun e=>?_)
   ·rcases List.mem_append.mp hd with h | h
    ·exact dg d h
    ·rw [List.mem_singleton.mp h];exact ⟨0,by decide,.num 0⟩
   ·have:=congrArg List.length e
    simp at this
  ·refine bY (M':=M++[.lst (made++[.tup [.str (Str.ofString "number"), .int 1]])]) GA rfl ?_ (eY (by simp only [nr, aY, t2.nr, Bool.and_self]) (by simp))
   refine start _ ?_
   rw [decide_eq_true ca] at n8
   refine (qy (M2:=M++[.lst (made++[.tup [.str (Str.ofString "number"), .int 1]])]) (σ':=[some (.lst fl), some (.int s), some (.ref r), some (.tup [.str x, .lst ts, kd, bd]), some (.ref M.length), none]) n8 ?_).trans (bu ?_)
   ·have hl2:made.length<line:=by unfold line;omega
    simp [pq,iS,nA,nj,dw,hl2]
   ·have hl2:2+(made.length+1)<=line:=by unfold line;omega
    simp [aH,vw,aR,bC,cz,hl2]
 ·rw [decide_eq_false ca] at n8
  have pos:1<=ts.length:=by
   rcases Nat.eq_zero_or_pos ts.length with z | z
   ·exact absurd ⟨.inr z,by omega⟩ ca
   ·exact z
  by_cases cb:s / 4 % 3<2
  ·cases ts with
   | nil=>simp at pos
   | cons t0 ts =>
    cases lt with
    | cons a b =>
     rename_i y0 k0 p0 made
     have t2:=b.Eg
     refine ⟨.tup (.str (Str.ofString "call")::.str x::made), fun n=>?_, ?_⟩
     ·refine jS fk hf t2 (by decide) (by simp at hlen hts;omega) (fun d hd=>dg d (List.mem_cons_of_mem _ hd)) (fun e=>?_)
      have:=congrArg List.length e
      simp at this
     ·refine bY (M':=M++[.lst (p0::made)]++[.lst made]) GA rfl ?_ (eY (by simp only [nr,aY,b.nr,Bool.and_self]) (by simp))
      refine start _ ?_
      refine (oU (M2:=M++[.lst (p0::made)]++[.lst made]) (σ':=[some (.lst fl),some (.int s),some (.ref r),some (.tup [.str x,.lst (.tup [.str y0,k0]::ts),kd,bd]),some (.ref (M.length+1)),none]) n8 ?_).trans (bu ?_)
      ·simp [bC,aJ,av,bB,bD,bz,aC,ai,bA,cb,sl2,vw,aR]
      ·have hl2:2+made.length<=line:=by simp at hlen hts;unfold line;omega
       simp [aH,vw,aR,bC,cz,hl2]
  ·have hp:(0:Int)<(ts.length:Int):=by omega
   obtain ⟨j,hj,hjl⟩:∃ j:Nat,s / 12 % (ts.length:Int)=(j:Int)/\j<ts.length:=by
    have h1:=Int.emod_nonneg (s / 12) (show (ts.length:Int)≠0 by omega)
    have h2:=Int.emod_lt_of_pos (s / 12) hp
    exact ⟨(s / 12 % (ts.length:Int)).toNat,by omega,by omega⟩
   obtain ⟨y,ky,ety,kky⟩:=ht ts[j] (List.getElem_mem hjl)
   have ea:jl ts (j:Int)=some (.tup [.str y,ky]):=by
    simp only [jl,qQ,if_pos (show (0:Int)<=(j:Int) by omega),if_pos (show (j:Int)<ts.length by omega),Option.bind_some,Int.toNat_natCast]
    rw [List.getElem?_eq_getElem hjl,ety]
   have t2:=dX.set j kk (.nil (h:=3) (kky.le (show 3<=8 by decide)))
   refine ⟨.tup (.str (Str.ofString "call")::.str x::made.set j (.tup [.str (Str.ofString "nil"), ky])), fun n=>?_, ?_⟩
   ·refine jS fk hf t2 (by decide) (by simp [hlen];omega) (fun d hd=>?_) (fun e=>?_)
    ·rcases List.mem_or_eq_of_mem_set hd with h | h
     ·exact dg d h
     ·rw [h];exact ⟨4,by decide,.list kky⟩
    ·have:=congrArg (fun l:List D=>l[j]?) e
     simp only [List.getElem?_set_self (show j<(ts.map bR).length by simpa using hjl),List.getElem?_map,List.getElem?_eq_getElem hjl,ety,Option.map_some,bR,Option.some.injEq] at this
     exact qM ky this.symm
   ·refine bY (M':=M++[.lst (made.set j (.tup [.str (Str.ofString "nil"), ky]))]) GA rfl ?_ (eY (by simp only [nr, aY, t2.nr, Bool.and_self]) (by simp))
    refine start _ ?_
    refine (oU (M2:=M++[.lst (made.set j (.tup [.str (Str.ofString "nil"), ky]))]) (σ':=[some (.lst fl), some (.int s), some (.ref r), some (.tup [.str x, .lst ts, kd, bd]), some (.ref M.length), some (.int (j:Int))]) n8 ?_).trans (bu ?_)
    ·have ixj:qQ made.length (j:Int)=some j:=by
      simp only [qQ,if_pos (show (0:Int)<=(j:Int) by omega),if_pos (show (j:Int)<(made.length:Int) by omega),Int.toNat_natCast]
     have ev5:ev (aa aq k) (E.op .mod true (E.op .fdiv true (E.v 1) (E.k (.int 12))) (E.blt .len true (Es.cons (E.v 4) Es.nil))) [some (.lst fl),some (.int s),some (.ref r),some (.tup [.str x,.lst ts,kd,bd]),some (.ref M.length),none] (M++[.lst made])=.ok (.int (j:Int)) (M++[.lst made]):=by
      have pp:(0<ts.length)=True:=eq_true (by omega)
      have e12:ev (aa aq k) (E.op .fdiv true (E.v 1) (E.k (.int 12))) [some (.lst fl),some (.int s),some (.ref r),some (.tup [.str x,.lst ts,kd,bd]),some (.ref M.length),none] (M++[.lst made])=.ok (.int (s / 12)) (M++[.lst made]):=by simp [bC,aJ]
      rw [w4,e12]
      simp only [R.aD,le]
      simp [bC,aJ,pp,hj]
     have hc:ev (aa aq k) (E.cmp .lt (E.op .mod true (E.op .fdiv true (E.v 1) (E.k (.int 4))) (E.k (.int 3))) (E.k (.int 2))) [some (.lst fl),some (.int s),some (.ref r),some (.tup [.str x,.lst ts,kd,bd]),some (.ref M.length),none] (M++[.lst made])=.ok (.bl false) (M++[.lst made]):=by
      simp [bC,aJ,av,bB,bD,bz,aC,ai,bA]
      omega
     refine (oU (M2:=M++[.lst (made.set j (.tup [.str (Str.ofString "nil"), ky]))]) (σ':=[some (.lst fl), some (.int s), some (.ref r), some (.tup [.str x, .lst ts, kd, bd]), some (.ref M.length), some (.int (j:Int))]) hc ?_).trans gJ
     refine (ao ev5).trans ?_
     simp only [List.set_cons_succ,List.set_cons_zero]
     simp [aH,vw,ea,jv,ixj]
    ·have hl2:2+made.length<=line:=by unfold line;omega
     simp [aH,vw,aR,bC,cz,hl2]
end
end dI
end
section
namespace dI
open Fg PySem
section
variable {kvs:List (Ky×D)} {fl:List D}
theorem JV {k:Nat} {s:Int} {r:Nat} {M:MH} (fk:gW fl) (h4:fl.length=4) (hn:dm M r kvs) (hk:15<=k):∃ p,(∀ n,mK 19 n kvs fl p)/\(aa aq k).call 24 [.lst fl,.int s,.ref r] M=.ok p M:=by
 obtain ⟨k,rfl⟩:∃ j,k=j+1:=⟨k-1,by omega⟩
 obtain ⟨c,bc,ec⟩:=pW (k:=k) (s:=s / 23) fk h4 hn (by omega)
 have hkd:Kd 3 (knd (2+s / 13 % 8)):=ek _
 obtain ⟨p,tp,ep⟩:=part1 fk.toFlOk k (by omega) 3 _ hkd (by decide) (next s 1) (bM _ _) M r kvs hn
 obtain ⟨q,tq,eq⟩:=part1 fk.toFlOk k (by omega) 3 aA (.num 3) (by decide) (next s 2) (bM _ _) M r kvs hn
 have yU:(aa aq k).call 20 [knd (2+s / 13 % 8),.int (next s 1),.ref r,.lst fl,.int 1] M=.ok p M:=ep
 have eq':(aa aq k).call 20 [aA,.int (next s 2),.ref r,.lst fl,.int 1] M=.ok q M:=eq
 have all:=fun n=>BY (n:=n) fk hkd FF tp tq (bc n)
 obtain ⟨d,hd,ed⟩:=eK (xs:=gk p q c) (i:=s % 18) (by omega) (by show s % 18<18;omega)
 refine ⟨d,fun n=>all n d hd,bY (M':=M) fn24 rfl ?_ (aI ((all 0 d hd).nr _))⟩
 have k1:1<=k:=by omega
 unfold iC
 dsimp only
 show exs (aa aq k) _ [some (.lst fl),some (.int s),some (.ref r),none,none,none,none,none] M=_
 refine (ao (x:=aA) (M1:=M) (by simp)).trans ?_
 simp only [List.set_cons_succ,List.set_cons_zero]
 refine (ao (x:=knd (2+s / 13 % 8)) (M1:=M) (by simp [bC,aJ,fH k1])).trans ?_
 simp only [List.set_cons_succ,List.set_cons_zero]
 refine (ao (x:=p) (M1:=M) (by simp [cy k1,yU])).trans ?_
 simp only [List.set_cons_succ,List.set_cons_zero]
 refine (ao (x:=q) (M1:=M) (by simp [cy k1,eq'])).trans ?_
 simp only [List.set_cons_succ,List.set_cons_zero]
 refine (ao (x:=.lst ((gk p q c).take 3)) (M1:=M) (by simp [aR,gk])).trans ?_
 simp only [List.set_cons_succ,List.set_cons_zero]
 refine (ao (x:=.lst ((gk p q c).take 4)) (M1:=M) (by simp [aR,gk,bC,vw,line])).trans ?_
 simp only [List.set_cons_succ,List.set_cons_zero]
 refine (ao (x:=.lst ((gk p q c).take 8)) (M1:=M) (by simp [aR,gk,bC,vw,line])).trans ?_
 simp only [List.set_cons_succ,List.set_cons_zero]
 refine (ao (x:=.lst ((gk p q c).take 12)) (M1:=M) (by simp [aR,gk,bC,vw,line])).trans ?_
 simp only [List.set_cons_succ,List.set_cons_zero]
 refine (ao (x:=.lst ((gk p q c).take 16)) (M1:=M) (by simp [aR,gk,bC,vw,line])).trans ?_
 simp only [List.set_cons_succ,List.set_cons_zero]
 refine (ao (x:=.lst (gk p q c)) (M1:=M) (by simp [aR,gk,bC,aJ,vw,line,ec])).trans ?_
 simp only [List.set_cons_succ,List.set_cons_zero]
 exact bu (by simp [bC,aJ,aH,vw,ed])
theorem xw {k:Nat} {s:Int} {r:Nat} {M:MH} {b:D} (fk:gW fl) (hn:dm M r kvs) (hb:∀ n, mK 19 n kvs fl b) (hz:look kvs (.inr (Str.ofString "zq"))=none) (hk:15<=k):∃ p, mK 21 9 kvs fl p/\(aa aq k).call 25 [b, .int s, .ref r, .lst fl] M=.ok p M:=by
 obtain ⟨k,rfl⟩:∃ j,k=j+1:=⟨k-1,by omega⟩
 obtain ⟨q,tq,eq⟩:=part1 fk.toFlOk k (by omega) 3 aA (.num 3) (by decide) (next s 4) (bM _ _) M r kvs hn
 have eq':(aa aq k).call 20 [aA,.int (next s 4),.ref r,.lst fl,.int 1] M=.ok q M:=eq
 have all:=pZ (n:=9) fk hb tq hz (by decide)
 obtain ⟨d,hd,ed⟩:=eK (xs:=cO b q) (i:=s % 7) (by omega) (by show s % 7<7;omega)
 refine ⟨d,all d hd,bY (M':=M) fn25 rfl ?_ (aI ((all d hd).nr _))⟩
 have k1:1<=k:=by omega
 unfold ez
 dsimp only
 show exs (aa aq k) _ [some b,some (.int s),some (.ref r),some (.lst fl),none,none,none] M=_
 refine (ao (x:=aA) (M1:=M) (by simp)).trans ?_
 simp only [List.set_cons_succ,List.set_cons_zero]
 refine (ao (x:=q) (M1:=M) (by simp [cy k1,eq'])).trans ?_
 simp only [List.set_cons_succ,List.set_cons_zero]
 refine (ao (x:=.lst ((cO b q).take 4)) (M1:=M) (by simp [aR,cO])).trans ?_
 simp only [List.set_cons_succ,List.set_cons_zero]
 refine (ao (x:=.lst ((cO b q).take 5)) (M1:=M) (by simp [aR,cO,bC,vw,line])).trans ?_
 simp only [List.set_cons_succ,List.set_cons_zero]
 unfold cO at ed
 exact bu (by simp [aR,cO,bC,aJ,aH,vw,line,ed])
theorem tF {k:Nat} {r:Nat} {M:MH} {p d:D} (hk:1<=k) (e:(aa aq k).call 9 [.lst fl, .ref r, p] M=.ok d M) (hd:nr M.length d=true):(aa aq (k+1)).call 26 [.lst fl, .ref r, p] M=.ok (.tup [.str (Str.ofString "none"), d]) M:=by
 refine bY (M':=M) Jt rfl ?_ (aI (by simp [nr,aY,hd]))
 unfold eB
 dsimp only
 show exs (aa aq k) _ [some (.lst fl),some (.ref r),some p,none,none] M=_
 simp [e]
theorem pV {k:Nat} {r:Nat} {M:MH} {p:D} (hk:1<=k) (e:(aa aq k).call 9 [.lst fl, .ref r, p] M=.exc 2 M):(aa aq (k+1)).call 26 [.lst fl, .ref r, p] M=.ok (.tup [.str (Str.ofString "kind"), .aE]) M:=by
 refine bY (M':=M) Jt rfl ?_ (aI (by simp [nr,aY]))
 unfold eB
 dsimp only
 show exs (aa aq k) _ [some (.lst fl),some (.ref r),some p,none,none] M=_
 have hs:aq.sub 2 2=true:=by decide
 simp [e,hs]
end
theorem p5 {k:Nat} {x:Str} {M:MH} (hk:1<=k):(aa aq k).call 21 [.str x,.str x] M=.ok (.bl true) M:=by
 obtain ⟨k,rfl⟩:∃ j,k=j+1:=⟨k-1,by omega⟩
 rw [af BF]
 simp [aT,bX,o6,yQ,av,bB,bD,bz,aC,ai,bA,az,top,Fg.plain,dep,bh,nr]
theorem BW {h:Nat} {d:D} (q:Kd h d):∀ (k:Nat) (M:MH),h+2<=k->(aa aq k).call 21 [d,d] M=.ok (.bl true) M:=by
 induction q with
 | num h =>
  intro k M hk
  obtain ⟨k,rfl⟩:∃ j,k=j+1:=⟨k-1,by omega⟩
  rw [af BF]
  simp [aT,bX,o6,yQ,cz,vw,av,bB,bD,bz,aC,ai,bA,az,top,Fg.plain,dep,j5,k8,bN,sets,dH,aG,p5 (show 1<=k by omega),line,aR,boolsOf,bh,nr]
 | @list h d q ih =>
  intro k M hk
  obtain ⟨k,rfl⟩:∃ j,k=j+1:=⟨k-1,by omega⟩
  rw [af BF]
  simp [aT,bX,o6,yQ,cz,vw,av,bB,bD,bz,aC,ai,bA,az,top,Fg.plain,dep,j5,k8,bN,sets,dH,aG,p5 (show 1<=k by omega),ih k M (by omega),line,aR,boolsOf,bh,nr]
 | @pair h d e q1 q2 i1 i2 =>
  intro k M hk
  obtain ⟨k,rfl⟩:∃ j,k=j+1:=⟨k-1,by omega⟩
  rw [af BF]
  simp [aT,bX,o6,yQ,cz,vw,av,bB,bD,bz,aC,ai,bA,az,top,Fg.plain,dep,j5,k8,bN,sets,dH,aG,p5 (show 1<=k by omega),i1 k M (by omega),i2 k M (by omega),line,aR,boolsOf,bh,nr]
end dI
end
section
namespace dI
open Fg PySem
theorem rV (x y:Str):(x++y).cps.toList=x.cps.toList++y.cps.toList:=by
 show (Str.mk (x.cps++y.cps)).cps.toList=_
 simp
noncomputable def Fo (s j:Int):Nat:=(jl bO.cps.toList ((s / 60+3*j) % 10)).getD 0
theorem o7 (s j:Int):(nm s j).cps.toList=(cuts (bH s) none (some (gx s))).cps.toList++[Fo s j]++(cuts (bH s) (some (gx s)) none).cps.toList:=by
 unfold nm
 rw [rV,rV]
 rfl
theorem C5:bO.cps.toList.length=10:=by have:=e7;simpa [Str.length] using this
theorem Fv:bO.cps.toList.Nodup:=by decide +kernel
theorem vV (s j:Int):∃ h:((s / 60+3*j) % 10).toNat<bO.cps.toList.length,Fo s j=bO.cps.toList[((s / 60+3*j) % 10).toNat]:=by
 have h:((s / 60+3*j) % 10).toNat<bO.cps.toList.length:=by rw [C5];omega
 refine ⟨h,?_⟩
 unfold Fo jl
 rw [qQ,if_pos (by omega),if_pos (by rw [C5];omega),Option.bind_some,List.getElem?_eq_getElem h]
 rfl
theorem vm {s j j':Int} (h:nm s j=nm s j'):(s / 60+3*j) % 10=(s / 60+3*j') % 10:=by
 have e:=congrArg (fun x:Str=>x.cps.toList) h
 simp only [o7] at e
 have e2:=List.append_cancel_left (List.append_cancel_right e)
 obtain ⟨h1,e3⟩:=vV s j
 obtain ⟨h2,e4⟩:=vV s j'
 have e5:Fo s j=Fo s j':=by simpa using e2
 rw [e3,e4] at e5
 have:=(List.getElem_inj Fv).mp e5
 omega
theorem Fl (s j:Int):Fo s j∈bO.cps.toList:=by
 obtain ⟨h,e⟩:=vV s j
 rw [e];exact List.getElem_mem h
theorem qL {s j:Int}:nm s j≠Str.ofString "main":=by
 intro e
 have h:Fo s j∈(Str.ofString "main").cps.toList:=by rw [<- e, o7];simp
 have no:∀ c∈bO.cps.toList, c∉(Str.ofString "main").cps.toList:=by decide +kernel
 exact no _ (Fl s j) h
theorem rM {α:Type} {xs:List α} {lo hi:Option Int} {x:α} (h:x∈c8 xs lo hi):x∈xs:=by
 unfold c8 at h
 exact List.mem_of_mem_drop (List.mem_of_mem_take h)
theorem n5 {x:Str} {lo hi:Option Int} {c:Nat} (h:c∈(cuts x lo hi).cps.toList):c∈x.cps.toList:=by
 have:c∈c8 x.cps.toList lo hi:=by simpa [cuts] using h
 exact rM this
theorem IS {s j:Int}:nm s j≠Str.ofString "zq":=by
 intro e
 have hc:(nm s j).cps.toList=(Str.ofString "zq").cps.toList:=by rw [e]
 rw [o7] at hc
 have no:∀ c∈anchor.cps.toList, c∉(Str.ofString "zq").cps.toList:=by decide +kernel
 have hl:((Str.ofString "zq").cps.toList).length=2:=by decide +kernel
 have hlen:=congrArg List.length hc
 rw [hl] at hlen
 simp only [List.length_append,List.length_cons,List.length_nil] at hlen
 have all:∀ c,(c∈(cuts (bH s) none (some (gx s))).cps.toList\/c∈(cuts (bH s) (some (gx s)) none).cps.toList)->False:=fun c h=>by
  have m1:c∈anchor.cps.toList:=by
   rcases h with h | h <;> exact n5 (n5 h)
  have m2:c∈(Str.ofString "zq").cps.toList:=by
   rw [<- hc]
   simp only [List.mem_append]
   rcases h with h | h
   ·exact .inl (.inl h)
   ·exact .inr h
  exact no c m1 m2
 cases h1:(cuts (bH s) none (some (gx s))).cps.toList with
 | cons c r=>exact all c (.inl (by rw [h1];simp))
 | nil =>
  cases h2:(cuts (bH s) (some (gx s)) none).cps.toList with
  | cons c r=>exact all c (.inr (by rw [h2];simp))
  | nil=>rw [h1,h2] at hlen;simp at hlen
section
variable {kvs:List (Ky×D)} {fl:List D}
mutual
theorem Ty.pl:∀ {h:Nat} {k p:D},Ty kvs fl h k p->Fg.plain p=true/\dep p<=h+11
 | _,_,_,.number=>by simp [Fg.plain,ay,dep,deps]
 | _,_,_,.name a=>by simp [Fg.plain,ay,dep,deps]
 | _,_,_,.nil a=>by have:=a.plain;simp [Fg.plain,ay,dep,deps,this.1];omega
 | _,_,_,.pair a b=>by have x:=a.pl;have y:=b.pl;simp [Fg.plain,ay,dep,deps,x.1,y.1];omega
 | _,_,_,.first a=>by have x:=a.pl;simp [Fg.plain,ay,dep,deps,x.1];omega
 | _,_,_,.second a=>by have x:=a.pl;simp [Fg.plain,ay,dep,deps,x.1];omega
 | _,_,_,.cons a b=>by have x:=a.pl;have y:=b.pl;simp [Fg.plain,ay,dep,deps,x.1,y.1];omega
 | _,_,_,.head a=>by have x:=a.pl;simp [Fg.plain,ay,dep,deps,x.1];omega
 | _,_,_,.tail a=>by have x:=a.pl;simp [Fg.plain,ay,dep,deps,x.1];omega
 | _,_,_,.none a=>by have x:=a.pl;simp [Fg.plain,ay,dep,deps,x.1];omega
 | _,_,_,.op w a b=>by have x:=a.pl;have y:=b.pl;simp [Fg.plain,ay,dep,deps,x.1,y.1];omega
 | _,_,_,.ifs a b c=>by have x:=a.pl;have y:=b.pl;have z:=c.pl;simp [Fg.plain,ay,dep,deps,x.1,y.1,z.1];omega
 | _,_,_,.call m a=>by have x:=a.pl;simp [Fg.plain,ay,dep,deps,x.1];omega
theorem dX.pl:∀ {h:Nat} {ts cs:List D},dX kvs fl h ts cs->ay cs=true/\deps cs<=h+11
 | _,_,_,.nil=>by simp [ay,deps]
 | _,_,_,.cons a b=>by have x:=a.pl;have y:=b.pl;simp [ay,deps,x.1,y.1];omega
end
end
noncomputable def lp (d:D) (s:Int):D:=match (aa aq 20).call 16 [d,.int s] [] with | .ok x _=>x | _=>.aE
theorem C0 {d:D} {s:Int} (q:Kd 3 d) (hs:Sd s):Ty [] [] 3 d (lp d s)/\∀ (k:Nat) (M:MH),5<=k->(aa aq k).call 16 [d,.int s] M=.ok (lp d s) M:=by
 obtain ⟨p,t,e⟩:=rQ (kvs:=[]) (fl:=[]) q s hs (by decide)
 have:lp d s=p:=by unfold lp;rw [e 20 [] (by decide)]
 rw [this]
 exact ⟨t,fun k M hk=>e k M (by omega)⟩
noncomputable def tR (s:Int):D->D
 | .int j=>.tup [.str (nm s j),knd (next s j)]
 | _=>.aE
noncomputable def toNum:D->D
 | .tup [a,_]=>.tup [a,aA]
 | _=>.aE
noncomputable def G8 (s:Int) (j:Nat):List D:=if (j:Int)=s / 3 % 4 then ((aW 0 (next s j / 5 % 5)).map (tR (next s j))).map toNum else (aW 0 (next s j / 5 % 5)).map (tR (next s j))
noncomputable def G9 (s:Int) (j:Nat):Str:=if (j:Int)=s / 3 % 4 then Str.ofString "main" else nm s (5+j)
noncomputable def qY (s:Int) (j:Nat):D:=.tup [.str (G9 s j),.lst (G8 s j),knd (next s j / 35),lp (knd (next s j / 35)) (next s j)]
noncomputable def hds (s:Int) (m:Nat):List D:=(List.range m).map (qY s)
theorem CV {s n:Int} (h:n<=4):((aW 0 n).map (tR s)).length<=4/\∀ t∈(aW 0 n).map (tR s),∃ y ky,t=.tup [.str y,ky]/\Kd 3 ky:=by
 refine ⟨by simp [aW];omega,fun t ht=>?_⟩
 obtain ⟨d,hd,rfl⟩:=List.mem_map.mp ht
 obtain ⟨i,_,rfl⟩:=List.mem_map.mp hd
 exact ⟨_,_,rfl,ek _⟩
theorem pJ (s:Int) (j:Nat):(G8 s j).length<=4/\∀ t∈G8 s j,∃ y ky,t=.tup [.str y,ky]/\Kd 3 ky:=by
 obtain ⟨h1,h2⟩:=CV (s:=next s j) (n:=next s j / 5 % 5) (by omega)
 unfold G8
 split
 ·refine ⟨by rw [List.length_map];exact h1,fun t ht=>?_⟩
  obtain ⟨u,hu,rfl⟩:=List.mem_map.mp ht
  obtain ⟨y,ky,rfl,_⟩:=h2 u hu
  exact ⟨y,aA,rfl,.num 3⟩
 ·exact ⟨h1,h2⟩
theorem By {s:Int} {i j:Nat} (hi:i<4) (hj:j<4) (h:G9 s i=G9 s j):i=j:=by
 unfold G9 at h
 split at h
 ·split at h
  ·omega
  ·exact absurd h.symm qL
 ·split at h
  ·exact absurd h qL
  ·have:=vm h
   omega
theorem kj:∀ {ts:List D},(∀ t∈ts,∃ y ky,t=.tup [.str y,ky]/\Kd 3 ky)->ay ts=true/\deps ts<=6/\∀ m,aY m ts=true
 | [],_=>by simp [ay,deps,aY]
 | t::ts,h=>by
  obtain ⟨y,ky,rfl,q⟩:=h t List.mem_cons_self
  obtain ⟨a,b,c⟩:=kj fun t ht=>h t (List.mem_cons_of_mem _ ht)
  have:=q.plain
  simp [ay,deps,aY,Fg.plain,dep,nr,this.1,this.2.2,a,c]
  omega
theorem sV (s:Int) (j:Nat):Fg.plain (qY s j)=true/\dep (qY s j)<=20/\∀ m,nr m (qY s j)=true:=by
 obtain ⟨a,b,c⟩:=kj (pJ s j).2
 have k:=(ek (next s j / 35)).plain
 have t:=(C0 (ek (next s j / 35)) (bM s j)).1
 have p:=t.pl
 simp [qY,Fg.plain,ay,dep,deps,nr,aY,a,c,k.1,k.2.2,p.1,t.nr]
 omega
theorem ie (s:Int):∀ m,ay (hds s m)=true/\deps (hds s m)<=20/\∀ i,aY i (hds s m)=true:=by
 intro m
 unfold hds
 generalize List.range m=l
 induction l with
 | nil=>simp [ay,deps,aY]
 | cons x l ih =>
  have h:=sV s x
  simp [ay,deps,aY,h.1,h.2.2,ih.1,ih.2.2]
  exact Nat.max_le.mpr ⟨h.2.1,ih.2.1⟩
theorem Jz (s:Int):gW (hds s 4):=by
 have mem:∀ f∈hds s 4,∃ j,j<4/\f=qY s j:=fun f hf=>by
  obtain ⟨j,hj,rfl⟩:=List.mem_map.mp hf
  exact ⟨j,List.mem_range.mp hj,rfl⟩
 refine ⟨⟨fun f hf=>?_,by simp [hds]⟩,fun x ts kd bd ts' KG bd' h1 h2=>?_,(ie s 4).2.2⟩
 ·obtain ⟨j,hj,rfl⟩:=mem f hf
  exact ⟨_,_,_,_,rfl,ek _,(pJ s j).1,(pJ s j).2⟩
 ·obtain ⟨i,hi,e1⟩:=mem _ h1
  obtain ⟨j,hj,e2⟩:=mem _ h2
  unfold qY at e1 e2
  simp only [D.tup.injEq,List.cons.injEq,D.str.injEq,D.lst.injEq,and_true] at e1 e2
  obtain ⟨a1,a2,a3,a4⟩:=e1
  obtain ⟨b1,b2,b3,b4⟩:=e2
  have:i=j:=By hi hj (by rw [<- a1,<- b1])
  subst this
  exact ⟨by rw [a2,b2],by rw [a3,b3],by rw [a4,b4]⟩
end dI
end
section
namespace dI
open Fg PySem
theorem nV {n m:Nat} {e:D} {ds:List D} (h:e::ds=(aW 0 (n:Int)).drop m):e=.int m/\ds=(aW 0 (n:Int)).drop (m+1)/\m<n:=by
 have hlt:m<(aW 0 (n:Int)).length:=by
  rcases Nat.lt_or_ge m (aW 0 (n:Int)).length with q | q
  ·exact q
  ·rw [List.drop_eq_nil_of_le q] at h;cases h
 rw [List.drop_eq_getElem_cons hlt] at h
 injection h with h1 h2
 refine ⟨by rw [h1];simp [aW],h2,by simpa [aW] using hlt⟩
theorem nW {n m:Nat} (h:[]=(aW 0 (n:Int)).drop m):n<=m:=by
 have:=List.drop_eq_nil_iff.mp h.symm
 simpa [aW] using this
theorem om {k:Nat} {o:Int} {M:MH} {σ:Sg} (hk:1<=k) (h3:σ[3]? = some (some (.int o))) :
  ev (aa aq k) (E.comp true [3] [1] (E.tup (Es.cons (E.call 15 (Es.cons (E.v 0) (Es.cons (E.v 1) Es.nil))) (Es.cons (E.call 13 (Es.cons (E.call 12 (Es.cons (E.v 0) (Es.cons (E.v 1) Es.nil))) Es.nil)) Es.nil))) (Src.gv (E.op .mod true (E.op .fdiv true (E.v 3) (E.k (.int 5))) (E.k (.int 5)))) O.none) σ M
  =.ok (.lst ((aW 0 (o / 5 % 5)).map (tR o))) M:=by
 have hr:=Ai (n:=o / 5 % 5) (by omega) (by omega)
 have L:=bV (cond:=lW (aa aq k) O.none) (elt:=ev (aa aq k) (E.tup (Es.cons (E.call 15 (Es.cons (E.v 0) (Es.cons (E.v 1) Es.nil))) (Es.cons (E.call 13 (Es.cons (E.call 12 (Es.cons (E.v 0) (Es.cons (E.v 1) Es.nil))) Es.nil)) Es.nil)))) (i:=1) (cC:=aG M .aE) (M:=M) (f:=tR o) (p:=fun _=>true) (by simp [aG]) (aW 0 (o / 5 % 5)) [] [some (.int o),none]
  (fun d hd=>by
   obtain ⟨i,_,rfl⟩:=List.mem_map.mp hd
   simp [mD hk,cy hk,fH hk,tR]) (by simp [aW,line];omega)
 rw [show (aW 0 (o / 5 % 5)).filter (fun _=>true)=aW 0 (o / 5 % 5) from List.filter_eq_self.mpr (by simp),List.nil_append] at L
 simp only [cS,BL,w4,sW,sX]
 simp [h3,bC,aJ,hr,dH,L,aR]
theorem kK {cond elt:Sg->MH->R D} {cC:MH->Bool} {M:MH} {f:D->D} (hc:cC M=true) (h0:∀ σ',cond σ' M=.ok (.bl true) M):∀ (ds acc:List D) (a b:Option D),(∀ d∈ds,∃ x y,d=.tup [x,y]/\elt [some x,some y] M=.ok (f d) M) ->
  acc.length+ds.length<=line->bN cond elt [0,1] cC ds [a,b] M acc=.ok (acc++ds.map f) M
 | [],acc,a,b,_,_=>by simp [bN]
 | d::ds,acc,a,b,h,hl=>by
  obtain ⟨x,y,rfl,h1⟩:=h d List.mem_cons_self
  simp only [List.length_cons] at hl
  have hlt:acc.length<line:=by omega
  rw [bN]
  simp only [sets,List.set_cons_succ,List.set_cons_zero,h0,R.aD,h1,hc,if_true,hlt,decide_true]
  rw [kK hc h0 ds (acc++[f (.tup [x,y])]) _ _ (fun d hd=>h d (List.mem_cons_of_mem _ hd)) (by simp;omega)]
  simp
theorem GQ {k:Nat} {ts:List D} {M:MH} {σ:Sg} (h4:σ[4]? = some (some (.lst ts))) (hl:ts.length<=4) (ht:∀ t∈ts,∃ y ky,t=.tup [.str y,ky]/\Kd 3 ky) :
  ev (aa aq k) (E.comp true [] [0, 1] (E.tup (Es.cons (E.v 0) (Es.cons (E.tup (Es.cons (E.k (.str (PySem.Str.ofString "num"))) Es.nil)) Es.nil))) (Src.e (E.v 4)) O.none) σ M=.ok (.lst (ts.map toNum)) M:=by
 have L:=kK (cond:=lW (aa aq k) O.none) (elt:=ev (aa aq k) (E.tup (Es.cons (E.v 0) (Es.cons (E.tup (Es.cons (E.k (.str (PySem.Str.ofString "num"))) Es.nil)) Es.nil)))) (cC:=aG M (.lst ts)) (M:=M) (f:=toNum) (by simp [aG]) (by simp) ts [] none none
  (fun d hd=>by
   obtain ⟨y,ky,rfl,_⟩:=ht d hd
   exact ⟨_,_,rfl,by simp [toNum]⟩) (by simp [line];omega)
 rw [List.nil_append] at L
 rw [cS,jQ]
 simp [h4,itemsOf,vw,dH,-fG,-GG,L,aR]
theorem uO {M:MH} {ds:List D} (h:aY M.length ds=true):bh false M (.ref M.length) (M++[.lst ds])=.ok (.lst ds) M:=by
 unfold bh
 rw [if_pos ⟨rfl,by simp⟩,if_neg (by simp [nr])]
 simp [h]
noncomputable def hB:Ss:=(Ss.cons (S.set 3 (E.call 12 (Es.cons (E.v 0) (Es.cons (E.v 2) Es.nil))))
  (Ss.cons (S.set 4 (E.comp true [3] [1] (E.tup (Es.cons (E.call 15 (Es.cons (E.v 0) (Es.cons (E.v 1) Es.nil))) (Es.cons (E.call 13 (Es.cons (E.call 12 (Es.cons (E.v 0) (Es.cons (E.v 1) Es.nil))) Es.nil)) Es.nil))) (Src.gv (E.op .mod true (E.op .fdiv true (E.v 3) (E.k (.int 5))) (E.k (.int 5)))) O.none))
  (Ss.cons (S.set 5 (E.call 13 (Es.cons (E.op .fdiv true (E.v 3) (E.k (.int 35))) Es.nil)))
  (Ss.cons (S.set 6 (E.call 15 (Es.cons (E.v 0) (Es.cons (E.op .add true (E.k (.int 5)) (E.v 2)) Es.nil))))
  (Ss.cons (S.ifs (E.cmp .eq (E.v 2) (E.op .mod true (E.op .fdiv true (E.v 0) (E.k (.int 3))) (E.k (.int 4)))) (Ss.cons (S.set 6 (E.k (.str (PySem.Str.ofString "main"))))
  (Ss.cons (S.set 4 (E.comp true [] [0, 1] (E.tup (Es.cons (E.v 0) (Es.cons (E.tup (Es.cons (E.k (.str (PySem.Str.ofString "num"))) Es.nil)) Es.nil))) (Src.e (E.v 4)) O.none))
  Ss.nil)) Ss.nil)
  (Ss.cons (S.ex (E.o9 .append true (E.v 1) (Es.cons (E.tup (Es.cons (E.v 6) (Es.cons (E.v 4) (Es.cons (E.v 5) (Es.cons (E.call 16 (Es.cons (E.v 5) (Es.cons (E.v 3) Es.nil))) Es.nil))))) Es.nil)))
  Ss.nil))))))
theorem Gz {k:Nat} {s:Int} {M:MH} {m:Nat} {z3 z4 z5 z6:Option D} (hk:6<=k) (hm:m<4) :
  ∃ t3 t4 t5 t6,exs (aa aq k) hB [some (.int s),some (.ref M.length),some (.int (m:Int)),z3,z4,z5,z6] (M++[.lst (hds s m)])=.ok (.nx [some (.int s),some (.ref M.length),some (.int (m:Int)),t3,t4,t5,t6]) (M++[.lst (hds s (m+1))]):=by
 have k1:1<=k:=by omega
 obtain ⟨tl,tk_⟩:=CV (s:=next s m) (n:=next s m / 5 % 5) (by omega)
 have el:=(C0 (ek (next s m / 35)) (bM s m)).2 k (M++[.lst (hds s m)]) (by omega)
 have hlen:(hds s m).length<line:=by simp [hds];unfold line;omega
 have hs1:hds s (m+1)=hds s m++[qY s m]:=by simp [hds,List.range_succ]
 have yV:∀ (a b:Int) (M:MH),av .eq M (.int a) (.int b)=.ok (.bl (decide (a=b))) M:=fun a b M=>by simp [av,bB,bD,bz,aC,ai,bA,az,top,Fg.plain,dep]
 unfold hB
 by_cases c:(m:Int)=s / 3 % 4
 ·refine ⟨some (.int (next s m)), some (.lst (((aW 0 (next s m / 5 % 5)).map (tR (next s m))).map toNum)), some (knd (next s m / 35)), some (.str (Str.ofString "main")), (ao (x:=.int (next s m)) (M1:=M++[.lst (hds s m)]) (by simp [cy k1])).trans ?_⟩
  simp only [List.set_cons_succ,List.set_cons_zero]
  refine (ao (om k1 rfl)).trans ?_
  simp only [List.set_cons_succ,List.set_cons_zero]
  refine (ao (x:=knd (next s m / 35)) (M1:=M++[.lst (hds s m)]) (by simp [bC,aJ,fH k1])).trans ?_
  simp only [List.set_cons_succ,List.set_cons_zero]
  refine (ao (x:=.str (nm s (5+m))) (M1:=M++[.lst (hds s m)]) (by simp [bC,aJ,mD k1])).trans ?_
  simp only [List.set_cons_succ,List.set_cons_zero]
  refine (qy (M1:=M++[.lst (hds s m)]) (M2:=M++[.lst (hds s m)]) (σ':=[some (.int s), some (.ref M.length), some (.int (m:Int)), some (.int (next s m)), some (.lst (((aW 0 (next s m / 5 % 5)).map (tR (next s m))).map toNum)), some (knd (next s m / 35)), some (.str (Str.ofString "main"))]) ?_ ?_).trans ?_
  ·simp [bC,aJ,yV,c]
  ·refine (ao (x:=.str (Str.ofString "main")) (M1:=M++[.lst (hds s m)]) (by simp)).trans ?_
   simp only [List.set_cons_succ,List.set_cons_zero]
   refine (ao (GQ rfl tl tk_)).trans ?_
   simp
  ·refine (Eb (x:=.aE) (M1:=M++[.lst (hds s m++[qY s m])]) ?_).trans ?_
   ·have hF:qY s m=.tup [.str (Str.ofString "main"), .lst (((aW 0 (next s m / 5 % 5)).map (tR (next s m))).map toNum), knd (next s m / 35), lp (knd (next s m / 35)) (next s m)]:=by unfold qY G9 G8;rw [if_pos c, if_pos c]
    rw [hF]
    simp [pq,iS,nA,nj,dw,el,hlen,-List.map_map]
   ·rw [hs1];exact gJ
 ·refine ⟨some (.int (next s m)),some (.lst ((aW 0 (next s m / 5 % 5)).map (tR (next s m)))),some (knd (next s m / 35)),some (.str (nm s (5+m))),(ao (x:=.int (next s m)) (M1:=M++[.lst (hds s m)]) (by simp [cy k1])).trans ?_⟩
  simp only [List.set_cons_succ,List.set_cons_zero]
  refine (ao (om k1 rfl)).trans ?_
  simp only [List.set_cons_succ,List.set_cons_zero]
  refine (ao (x:=knd (next s m / 35)) (M1:=M++[.lst (hds s m)]) (by simp [bC,aJ,fH k1])).trans ?_
  simp only [List.set_cons_succ,List.set_cons_zero]
  refine (ao (x:=.str (nm s (5+m))) (M1:=M++[.lst (hds s m)]) (by simp [bC,aJ,mD k1])).trans ?_
  simp only [List.set_cons_succ,List.set_cons_zero]
  refine (aB (M1:=M++[.lst (hds s m)]) (by simp [bC,aJ,yV,c])).trans ?_
  refine (Eb (x:=.aE) (M1:=M++[.lst (hds s m++[qY s m])]) ?_).trans ?_
  ·have hF:qY s m=.tup [.str (nm s (5+m)),.lst ((aW 0 (next s m / 5 % 5)).map (tR (next s m))),knd (next s m / 35),lp (knd (next s m / 35)) (next s m)]:=by unfold qY G9 G8;rw [if_neg c,if_neg c]
   rw [hF]
   simp [pq,iS,nA,nj,dw,el,hlen]
  ·rw [hs1];exact gJ
theorem rR {k:Nat} {s:Int} {M:MH} (hk:7<=k):(aa aq k).call 22 [.int s] M=.ok (.lst (hds s 4)) M:=by
 obtain ⟨k,rfl⟩:∃ j,k=j+1:=⟨k-1,by omega⟩
 have L:∃ z2 z3 z4 z5 z6,bS (exs (aa aq k) hB) [2] (aG (M++[.lst []]) .aE) (aW 0 4) [some (.int s),some (.ref M.length),none,none,none,none,none] (M++[.lst []])=.ok (.nx [some (.int s),some (.ref M.length),z2,z3,z4,z5,z6]) (M++[.lst (hds s 4)]):=by
  refine fM (i:=2) (cC:=aG (M++[.lst []]) .aE) (Q:=fun r=>∃ z2 z3 z4 z5 z6,r=.ok (.nx [some (.int s),some (.ref M.length),z2,z3,z4,z5,z6]) (M++[.lst (hds s 4)]))
   (fun ds σ M'=>∃ (m:Nat) (z2 z3 z4 z5 z6:Option D),ds=(aW 0 ((4:Nat):Int)).drop m/\m<=4/\M'=M++[.lst (hds s m)]/\σ=[some (.int s),some (.ref M.length),z2,z3,z4,z5,z6])
   (aW 0 4) _ _ ⟨0,none,none,none,none,none,rfl,by decide,rfl,rfl⟩ ?_ ?_
  ·rintro e ds σ M' ⟨m,z2,z3,z4,z5,z6,hd,hm,rfl,rfl⟩
   obtain ⟨rfl,rfl,hlt⟩:=nV hd
   obtain ⟨t3,t4,t5,t6,h⟩:=Gz (k:=k) (s:=s) (M:=M) (z3:=z3) (z4:=z4) (z5:=z5) (z6:=z6) (by omega) hlt
   exact ⟨_,_,.inl h,by simp [aG],m+1,_,_,_,_,_,rfl,by omega,rfl,rfl⟩
  ·rintro σ M' ⟨m,z2,z3,z4,z5,z6,hd,hm,rfl,rfl⟩
   have:=nW hd
   have e:m=4:=by omega
   subst e
   exact ⟨_,_,_,_,_,rfl⟩
 obtain ⟨z2,z3,z4,z5,z6,L⟩:=L
 refine bY (d:=.ref M.length) (M':=M++[MO.lst (hds s 4)]) fn22 rfl ?_ (show bh false M (.ref M.length) (M++[.lst (hds s 4)])=_ from uO ((ie s 4).2.2 _))
 show exs (aa aq k) (.cons (.set 1 (.lst false .nil)) (.cons (.for [2] (.gv (.k (.int 4))) hB) (.cons (.ret (.v 1)) .nil))) [some (.int s),none,none,none,none,none,none] M=_
 refine (ao (x:=.ref M.length) (M1:=M++[.lst []]) (by simp [aR])).trans ?_
 simp only [List.set_cons_succ,List.set_cons_zero]
 refine (qz (d:=.aE) (ds:=aW 0 4) (M1:=M++[.lst []]) (by simp [j4]) L).trans (bu (by simp))
end dI
end
section
namespace dI
open Fg PySem
theorem c_at {k:Nat} {ns:List Int} {M:MH} (hk:2<=k):∃ s,Sd s/\(aa aq k).call 11 [.lst (ns.map .int),.int 0] M=.ok (.int s) M:=by
 obtain ⟨k,rfl⟩:∃ j,k=j+1:=⟨k-1,by omega⟩
 cases ns with
 | nil =>
  refine ⟨mixed 0,m6 _,bY (M':=M) Jx rfl ?_ (aI (by simp [nr]))⟩
  unfold gH
  dsimp only
  refine (aB (M1:=M) ?_).trans (bu ?_)
  ·simp [cz,vw,av,bB,bD,bz,aC,ai,bA]
  ·simp [jj (show 1<=k by omega)]
 | cons n ns =>
  refine ⟨mixed n,m6 _,bY (M':=M) Jx rfl ?_ (aI (by simp [nr]))⟩
  unfold gH
  dsimp only
  refine cH (M1:=M) ?_ (bu ?_)
  ·simp [cz,vw,av,bB,bD,bz,aC,ai,bA]
  ·simp [aH,vw,jj (show 1<=k by omega)]
noncomputable def kn (s:Int) (j:Nat):Ky×D:=(.inr (nm (s / 11) j),knd (s / 13+j))
noncomputable def cD (s:Int) (m:Nat):List (Ky×D):=(List.range m).map (kn s)
theorem lJ {s:Int} {m:Nat} {kv:Ky×D} (h:kv∈cD s m):∃ j,j<m/\kv=kn s j:=by
 obtain ⟨j,hj,rfl⟩:=List.mem_map.mp h
 exact ⟨j,List.mem_range.mp hj,rfl⟩
theorem FD (s:Int) (m:Nat):xO (cD s m):=fun kv h=>by
 obtain ⟨j,_,rfl⟩:=lJ h
 exact ⟨⟨_,rfl⟩,ek _⟩
theorem Bj {s:Int} {m:Nat} (hm:m<4):put (cD s m) (.inr (nm (s / 11) m)) (knd (s / 13+m))=cD s (m+1):=by
 unfold put
 rw [if_neg]
 ·simp [cD,List.range_succ,kn]
 ·intro h
  obtain ⟨kv,h1,h2⟩:=List.any_eq_true.mp h
  obtain ⟨j,hj,rfl⟩:=lJ h1
  simp only [kn,decide_eq_true_eq,Sum.inr.injEq] at h2
  have:=vm h2
  omega
theorem FA (s:Int) (m:Nat):look (cD s m) (.inr (Str.ofString "zq"))=none:=by
 cases h:look (cD s m) (.inr (Str.ofString "zq")) with
 | none=>rfl
 | some d =>
  obtain ⟨j,_,e⟩:=lJ (lH h)
  unfold kn at e
  simp only [Prod.mk.injEq,Sum.inr.injEq] at e
  exact absurd e.1.symm IS
theorem FE (s:Int):dm [.dct (cD s 4)] 0 (cD s 4):=⟨rfl,FD s 4,by simp [cD]⟩
noncomputable def nB:Ss:=Ss.cons (S.j3 (E.v 3) (E.call 15 (Es.cons (E.op .fdiv true (E.v 1) (E.k (.int 11))) (Es.cons (E.v 4) Es.nil))) (E.call 13 (Es.cons (E.op .add true (E.op .fdiv true (E.v 1) (E.k (.int 13))) (E.v 4)) Es.nil))) Ss.nil
theorem Fd {k:Nat} {s:Int} {x0 p:D} (hk:1<=k):∃ z,bS (exs (aa aq k) nB) [4] (aG [.dct []] .aE) (aW 0 4) [some x0,some (.int s),some p,some (.ref 0),none,none,none,none,none,none,none] [.dct []]=.ok (.nx [some x0,some (.int s),some p,some (.ref 0),z,none,none,none,none,none,none]) [.dct (cD s 4)]:=by
 refine fM (i:=4) (cC:=aG [.dct []] .aE) (Q:=fun r=>∃ z,r=.ok (.nx [some x0,some (.int s),some p,some (.ref 0),z,none,none,none,none,none,none]) [.dct (cD s 4)])
  (fun ds σ M=>∃ (m:Nat) (z:Option D),ds=(aW 0 ((4:Nat):Int)).drop m/\m<=4/\M=[.dct (cD s m)]/\σ=[some x0,some (.int s),some p,some (.ref 0),z,none,none,none,none,none,none])
  (aW 0 4) _ _ ⟨0,none,rfl,by decide,rfl,rfl⟩ ?_ ?_
 ·rintro e ds σ M ⟨m,z,hd,hm,rfl,rfl⟩
  obtain ⟨rfl,rfl,hlt⟩:=nV hd
  refine ⟨[some x0,some (.int s),some p,some (.ref 0),some (.int (m:Int)),none,none,none,none,none,none],[.dct (cD s (m+1))],.inl ?_,by simp [aG],m+1,_,rfl,by omega,rfl,rfl⟩
  have hlen:((cD s m).length<1000000)=True:=eq_true (by simp [cD];omega)
  unfold nB
  simp [bC,aJ,mD hk,fH hk,jv,keyOf,line,hlen,Bj hlt]
 ·rintro σ M ⟨m,z,hd,hm,rfl,rfl⟩
  have:=nW hd
  have e:m=4:=by omega
  subst e
  exact ⟨_,rfl⟩
noncomputable def cB:Ss:=(Ss.cons (S.set 6 (E.call 10 (Es.cons (E.v 5) Es.nil)))
  (Ss.cons (S.set 7 (E.call 13 (Es.cons (E.op .fdiv true (E.v 6) (E.k (.int 3))) Es.nil)))
  (Ss.cons (S.set 8 (E.call 20 (Es.cons (E.v 7) (Es.cons (E.call 12 (Es.cons (E.v 6) (Es.cons (E.k (.int 1)) Es.nil))) (Es.cons (E.v 3) (Es.cons (E.v 2) (Es.cons (E.k (.int 2)) Es.nil)))))))
  (Ss.cons (S.ifs (E.cmp .eq (E.op .mod true (E.v 6) (E.k (.int 3))) (E.k (.int 0))) (Ss.cons (S.set 8 (E.call 25 (Es.cons (E.call 24 (Es.cons (E.v 2) (Es.cons (E.op .fdiv true (E.v 6) (E.k (.int 21))) (Es.cons (E.v 3) Es.nil)))) (Es.cons (E.op .fdiv true (E.v 6) (E.k (.int 7))) (Es.cons (E.v 3) (Es.cons (E.v 2) Es.nil)))))) Ss.nil) Ss.nil)
  (Ss.cons (S.DM [9,10] (E.call 26 (Es.cons (E.v 2) (Es.cons (E.v 3) (Es.cons (E.v 8) Es.nil)))))
  (Ss.cons (S.ifs (E.or (E.cmp .ne (E.v 2) (E.call 22 (Es.cons (E.v 1) Es.nil))) (E.cmp .ne (E.blt .len true (Es.cons (E.v 3) Es.nil)) (E.k (.int 4)))) (Ss.cons (S.ret (E.k (.bl false))) Ss.nil) Ss.nil)
  (Ss.cons (S.ifs (E.and (E.cmp .eq (E.op .mod true (E.v 6) (E.k (.int 3))) (E.k (.int 0))) (E.cmp .ne (E.v 9) (E.k (.str (PySem.Str.ofString "kind"))))) (Ss.cons (S.ret (E.k (.bl false))) Ss.nil) Ss.nil)
  (Ss.cons (S.ifs (E.and (E.cmp .gt (E.op .mod true (E.v 6) (E.k (.int 3))) (E.k (.int 0))) (E.or (E.cmp .ne (E.v 9) (E.k (.str (PySem.Str.ofString "none")))) (E.not (E.call 21 (Es.cons (E.v 10) (Es.cons (E.v 7) Es.nil)))))) (Ss.cons (S.ret (E.k (.bl false))) Ss.nil) Ss.nil)
  Ss.nil))))))))
theorem turn {s c:Int} {x0:D} {z4 z6 z7 z8 z9 oG:Option D}:∃ t6 t7 t8 t9 t10,exs (aa aq 40) cB [some x0,some (.int s),some (.lst (hds s 4)),some (.ref 0),z4,some (.int c),z6,z7,z8,z9,oG] [.dct (cD s 4)] =
  .ok (.nx [some x0,some (.int s),some (.lst (hds s 4)),some (.ref 0),z4,some (.int c),t6,t7,t8,t9,t10]) [.dct (cD s 4)]:=by
 have fk:=Jz s
 have hn:=FE s
 have k1:1<=40:=by decide
 have hkd:Kd 3 (knd (mixed c / 3)):=ek _
 obtain ⟨p,tp,ep⟩:=part2 fk.toFlOk 40 (by decide) 3 _ hkd (by decide) (next (mixed c) 1) (bM _ _) [.dct (cD s 4)] 0 (cD s 4) hn
 have yU:(aa aq 40).call 20 [knd (mixed c / 3),.int (next (mixed c) 1),.ref 0,.lst (hds s 4),.int 2] [.dct (cD s 4)]=.ok p [.dct (cD s 4)]:=ep
 have ehd:=rR (k:=40) (s:=s) (M:=[.dct (cD s 4)]) (by decide)
 have yV:∀ (a b:Int) (M:MH),av .eq M (.int a) (.int b)=.ok (.bl (decide (a=b))) M:=fun a b M=>by simp [av,bB,bD,bz,aC,ai,bA,az,top,Fg.plain,dep]
 have cmS:∀ (a b:Str) (M:MH),av .ne M (.str a) (.str b)=.ok (.bl (!decide (a=b))) M:=fun a b M=>by simp [av,bB,bD,bz,aC,ai,bA,az,top,Fg.plain,dep]
 obtain ⟨pl,pd,_⟩:=ie s 4
 have cmL:av .ne [.dct (cD s 4)] (.lst (hds s 4)) (.lst (hds s 4))=.ok (.bl false) [.dct (cD s 4)]:=by
  have h1:Fg.plain (.lst (hds s 4))=true:=by simp only [Fg.plain];exact pl
  have h2:dep (.lst (hds s 4))<=100:=by simp only [dep];omega
  have hc:az (.lst (hds s 4)) (.lst (hds s 4))=true:=by simp [az,h1,h2]
  have he:=cK h1
  have ht:top [.dct (cD s 4)] (.lst (hds s 4))=.lst (hds s 4):=rfl
  simp only [av,bB,bD,bz,aC,ai,bA,ht,hc,he,if_true,Bool.not_true]
 have h4:(cD s 4).length=4:=by simp [cD]
 have Fw:∀ σ:Sg,σ[3]? = some (some (.ref 0))->ev (aa aq 40) (.blt .len true (.cons (.v 3) .nil)) σ [.dct (cD s 4)]=.ok (.int 4) [.dct (cD s 4)]:=fun σ h=>by simp [h,cz,vw,h4]
 have same:∀ z5 z6 z7 z8 z9 oG:Option D,ev (aa aq 40) (E.or (E.cmp .ne (E.v 2) (E.call 22 (Es.cons (E.v 1) Es.nil))) (E.cmp .ne (E.blt .len true (Es.cons (E.v 3) Es.nil)) (E.k (.int 4)))) [some x0,some (.int s),some (.lst (hds s 4)),some (.ref 0),z4,z5,z6,z7,z8,z9,oG] [.dct (cD s 4)]=.ok (.bl false) [.dct (cD s 4)]:=by
  intro z5 z6 z7 z8 z9 oG
  have a1:ev (aa aq 40) (E.cmp .ne (E.v 2) (E.call 22 (Es.cons (E.v 1) Es.nil))) [some x0,some (.int s),some (.lst (hds s 4)),some (.ref 0),z4,z5,z6,z7,z8,z9,oG] [.dct (cD s 4)]=.ok (.bl false) [.dct (cD s 4)]:=by
   rw [iE]
   simp [ehd,cmL]
  rw [Dl,a1]
  simp only [R.aD]
  rw [iE,Fw _ rfl]
  simp [av,bB,bD,bz,aC,ai,bA,az,top,Fg.plain,dep]
 unfold cB
 by_cases c3:mixed c % 3=0
 ·obtain ⟨b,hb,eb⟩:=JV (k:=40) (s:=mixed c / 21) fk (by simp [hds]) hn (by decide)
  obtain ⟨q,bq,eq⟩:=xw (k:=40) (s:=mixed c / 7) fk hn hb (FA s 4) (by decide)
  have e9:=bq.run (cD s 4) 0 39 [.dct (cD s 4)] (fun _ _ h=>h) hn (by rw [h4];decide) (by decide)
  have et:=pV (k:=39) (by decide) e9
  refine ⟨some (.int (mixed c)), some (knd (mixed c / 3)), some q, some (.str (Str.ofString "kind")), some .aE, (ao (x:=.int (mixed c)) (M1:=[.dct (cD s 4)]) (by simp [jj k1])).trans ?_⟩
  simp only [List.set_cons_succ,List.set_cons_zero]
  refine (ao (x:=knd (mixed c / 3)) (M1:=[.dct (cD s 4)]) (by simp [bC,aJ,fH k1])).trans ?_
  simp only [List.set_cons_succ,List.set_cons_zero]
  refine (ao (x:=p) (M1:=[.dct (cD s 4)]) (by simp [cy k1,yU])).trans ?_
  simp only [List.set_cons_succ,List.set_cons_zero]
  refine (qy (M1:=[.dct (cD s 4)]) (M2:=[.dct (cD s 4)]) (σ':=[some x0,some (.int s),some (.lst (hds s 4)),some (.ref 0),z4,some (.int c),some (.int (mixed c)),some (knd (mixed c / 3)),some q,z9,oG]) ?_ ?_).trans ?_
  ·simp [bC,aJ,yV,c3]
  ·simp [bC,aJ,eb,eq]
  rw [bK,wW]
  simp only [lY,jP,lV,sW,List.getElem?_cons_succ,List.getElem?_cons_zero,R.aD,et,R.oH,sets,List.set_cons_succ,List.set_cons_zero]
  refine (aB (same _ _ _ _ _ _)).trans ?_
  refine (aB (M1:=[.dct (cD s 4)]) (by simp [bC,aJ,yV,c3,cmS])).trans ?_
  refine (aB (M1:=[.dct (cD s 4)]) (by simp [bC,aJ,av,bB,bD,bz,aC,ai,bA,c3])).trans gJ
 ·have e9:=tp.run (r:=0) fk 39 [.dct (cD s 4)] hn (by decide) (by decide)
  have et:=tF (k:=39) (by decide) e9 (hkd.plain.2.2 _)
  have ea:=BW hkd 40 [.dct (cD s 4)] (by decide)
  refine ⟨some (.int (mixed c)), some (knd (mixed c / 3)), some p, some (.str (Str.ofString "none")), some (knd (mixed c / 3)), (ao (x:=.int (mixed c)) (M1:=[.dct (cD s 4)]) (by simp [jj k1])).trans ?_⟩
  simp only [List.set_cons_succ,List.set_cons_zero]
  refine (ao (x:=knd (mixed c / 3)) (M1:=[.dct (cD s 4)]) (by simp [bC,aJ,fH k1])).trans ?_
  simp only [List.set_cons_succ,List.set_cons_zero]
  refine (ao (x:=p) (M1:=[.dct (cD s 4)]) (by simp [cy k1,yU])).trans ?_
  simp only [List.set_cons_succ,List.set_cons_zero]
  refine (aB (M1:=[.dct (cD s 4)]) (by simp [bC,aJ,yV,c3])).trans ?_
  rw [bK,wW]
  simp only [lY,jP,lV,sW,List.getElem?_cons_succ,List.getElem?_cons_zero,R.aD,et,R.oH,sets,List.set_cons_succ,List.set_cons_zero]
  refine (aB (same _ _ _ _ _ _)).trans ?_
  refine (aB (M1:=[.dct (cD s 4)]) (by simp [bC,aJ,yV,c3])).trans ?_
  have pos:0<mixed c % 3:=by omega
  refine (aB (M1:=[.dct (cD s 4)]) (by simp [bC,aJ,av,bB,bD,bz,aC,ai,bA,pos,cmS,ea,az,top,Fg.plain,dep])).trans gJ
theorem turns {s:Int} {x0:D}:∀ (ds:List D) (σ:Sg),(∀ d∈ds,∃ c,d=.int c)->(∃ z4 z5 z6 z7 z8 z9 oG,σ=[some x0,some (.int s),some (.lst (hds s 4)),some (.ref 0),z4,z5,z6,z7,z8,z9,oG]) ->
  ∃ z4 z5 z6 z7 z8 z9 oG,bS (exs (aa aq 40) cB) [5] (fun _=>true) ds σ [.dct (cD s 4)]=.ok (.nx [some x0,some (.int s),some (.lst (hds s 4)),some (.ref 0),z4,z5,z6,z7,z8,z9,oG]) [.dct (cD s 4)]
 | [],σ,_,⟨z4,z5,z6,z7,z8,z9,oG,e⟩=>⟨z4,z5,z6,z7,z8,z9,oG,by rw [e,bS]⟩
 | d::ds,σ,h,⟨z4,z5,z6,z7,z8,z9,oG,e⟩=>by
  subst e
  obtain ⟨c,rfl⟩:=h d List.mem_cons_self
  obtain ⟨t6,t7,t8,t9,t10,hb⟩:=turn (s:=s) (c:=c) (x0:=x0) (z4:=z4) (z6:=z6) (z7:=z7) (z8:=z8) (z9:=z9) (oG:=oG)
  obtain ⟨u4,u5,u6,u7,u8,u9,u10,h2⟩:=turns ds _ (fun d hd=>h d (List.mem_cons_of_mem _ hd)) ⟨z4,some (.int c),t6,t7,t8,t9,t10,rfl⟩
  refine ⟨u4,u5,u6,u7,u8,u9,u10,?_⟩
  rw [bS]
  simp only [sets,List.set_cons_succ,List.set_cons_zero,hb,R.aD,if_true]
  exact h2
theorem v7 (ns:List Int) (hns:ns.length<=63):∃ M',(aa aq 41).call 27 [.lst (ns.map .int)] []=.ok (.bl true) M':=by
 obtain ⟨s,hs,es⟩:=c_at (k:=40) (ns:=ns) (M:=[]) (by decide)
 have eh:=rR (k:=40) (s:=s) (M:=[]) (by decide)
 obtain ⟨z,L1⟩:=Fd (k:=40) (s:=s) (x0:=.lst (ns.map .int)) (p:=.lst (hds s 4)) (by decide)
 have hcut:∀ d∈c8 (ns.map D.int) none (some 12),∃ c,d=.int c:=fun d hd=>by
  obtain ⟨c,_,rfl⟩:=List.mem_map.mp (rM hd)
  exact ⟨c,rfl⟩
 have hlen:(c8 (ns.map D.int) none (some 12)).length<=63:=Nat.le_trans (rL _ _ _) (by simpa using hns)
 obtain ⟨u4,u5,u6,u7,u8,u9,u10,L2⟩:=turns (s:=s) (x0:=.lst (ns.map .int)) (.int 1::c8 (ns.map D.int) none (some 12)) _ (fun d hd=>by
  rcases List.mem_cons.mp hd with rfl | hd
  ·exact ⟨1,rfl⟩
  ·exact hcut d hd) ⟨z,none,none,none,none,none,none,rfl⟩
 refine ⟨[],bY (k:=40) (M':=[.dct (cD s 4)]) fn27 rfl ?_ (eY (by simp [nr]) (by simp))⟩
 show exs (aa aq 40) (.cons (.set 1 (.call 11 (.cons (.v 0) (.cons (.k (.int 0)) .nil)))) (.cons (.set 2 (.call 22 (.cons (.v 1) .nil))) (.cons (.set 3 .nZ) (.cons (.for [4] (.gv (.k (.int 4))) nB)
  (.cons (.for [5] (.e (.op .add true (.lst true (.cons (.k (.int 1)) .nil)) (.sl true (.v 0) .none (.some (.k (.int 12)))))) cB) (.cons (.ret (.k (.bl true))) .nil)))))) [some (.lst (ns.map .int)),none,none,none,none,none,none,none,none,none,none] []=_
 refine (ao (x:=.int s) (M1:=[]) (by simp [es])).trans ?_
 simp only [List.set_cons_succ,List.set_cons_zero]
 refine (ao (x:=.lst (hds s 4)) (M1:=[]) (by simp [eh])).trans ?_
 simp only [List.set_cons_succ,List.set_cons_zero]
 refine (ao (x:=.ref 0) (M1:=[.dct []]) (by simp)).trans ?_
 simp only [List.set_cons_succ,List.set_cons_zero]
 refine (qz (d:=.aE) (ds:=aW 0 4) (M1:=[.dct []]) (by simp [j4]) L1).trans ?_
 have hl2:1+(c8 (ns.map D.int) none (some 12)).length<=line:=by unfold line;omega
 refine (qz (d:=.lst (.int 1::c8 (ns.map D.int) none (some 12))) (ds:=.int 1::c8 (ns.map D.int) none (some 12)) (M1:=[.dct (cD s 4)]) ?_ L2).trans (bu (by simp))
 rw [jQ]
 simp [aR,sl2,vw,bC,hl2,itemsOf]
end dI
end
section
namespace dI
open Fg PySem PySem.Spec L2
theorem HC:tb.ok tb.gm aq=true:=by decide +kernel
theorem JU {d:DefRec} (hd:d.params.defaults=[]) (hx:d.name=("law" : Str)) {XP:(Str->Option Value)->Heap->Prop}:W.WalkO KQ hdL XP (tb.hook aq).says PySem.Challenge.rw_fieldgate_k03_kind_of.row.toRowW d [] (fun f vs=>PySem.call f vs) :=
 tb.walk aq (l:=PySem.Challenge.rw_fieldgate_k03_kind_of) (r:=tb.fn[27]'(by decide)) (x:="_law_script") 40 rfl hd ⟨rfl, by decide, by decide⟩ HC (List.getElem_mem _) hx rfl rfl fun ns h=>v7 ns h
end dI
end
section
open PySem PySem.W PyProof.Rows
set_option maxRecDepth 100000 in
set_option maxHeartbeats 0 in
theorem PySem.Challenge.cw_fieldgate_k03_kind_of_holds : PySem.Challenge.rw_fieldgate_k03_kind_of.Holds := by
 w_on
 refine holds_law (by decide +kernel) fun said => ?_
 refine holds_open (XP := XL dI.KQ []) dI.lft (dI.tb.hook dI.aq).of (dI.tb.hook dI.aq).keeps
  (fun s e => xl_of s (Bool.and_eq_true_iff.mp e).1) XL.keeps (by rfl) (by rfl) (by rfl)
  (fun s e => recFacts_of (Bool.and_eq_true_iff.mp e).2) (by rfl) said (by decide +kernel)
  ⟨rfl,rfl,rfl,rfl,rfl,by decide +kernel⟩ ?hw (dI.JU rfl rfl)
 w_witness2
end
