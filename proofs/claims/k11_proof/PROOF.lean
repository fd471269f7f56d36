import PyProof.Rows.All
import Wide.All
import OpenK.AllK
import Wide.FinOn
import Lean
import PyProof.EqAt
import PyProof.EqKinds
import PyProof.TupleCall
import PyProof.NeKinds
import PyProof.CompFree
import PyProof.ListRange
import PyProof.Rows.FStr
import PyProof.ConsumeWalk
import PyProof.ZipIter
import PyProof.TableCode
import PyProof.RulesAs
import PyProof.NsDelKeeps
import PyProof.ExcArgsOwn
import PyProof.Rows.FoldWords
import PySem.Challenge.RW_fieldgate_k11_plain_numbers
set_option maxRecDepth 100000
set_option linter.all false
set_option Elab.async false
section
namespace L2
open PySem
noncomputable def inClass (s:Stmt) (j:Nat):Stmt:=match s with
 | .ClassDef _ _ _ body _ _ _ _ _ _ _=>body.getD j (.Pass ⟨0,0,0,0⟩)
 | _=>.Pass ⟨0,0,0,0⟩
noncomputable def gW (s:Stmt):Arguments:=match s with
 | .FunctionDef _ a _ _ _ _ _ _ _ _=>a
 | _=>{ posonlyargs:=[],args:=[],vararg:=none,kwonlyargs:=[],kw_defaults:=[],kwarg:=none,defaults:=[] }
noncomputable def bP (s:Stmt):List Stmt:=match s with
 | .FunctionDef _ _ b _ _ _ _ _ _ _=>b
 | _=>[]
noncomputable def aC (s:Stmt):Scope:=match s with
 | .FunctionDef _ _ _ _ _ _ sc _ _ _=>sc
 | _=>{ kind:=.function,names:=[],isGenerator:=false,isCoroutine:=false }
end L2
end
section
namespace Fg
open PySem
abbrev Ky:=Sum Int Str
inductive D where
 | ao
 | bl (b:Bool)
 | int (i:Int)
 | str (x:Str)
 | tup (ds:List D)
 | lst (ds:List D)
 | dct (ks:List Ky) (ds:List D)
 | ref (n:Nat)
 | iY (c:Nat)
mutual
def same (a b:D):Bool:=match a with
 | .ao=>match b with | .ao=>true | _=>false
 | .bl x=>match b with | .bl y=>decide (x=y) | _=>false
 | .int x=>match b with | .int y=>decide (x=y) | _=>false
 | .str x=>match b with | .str y=>decide (x=y) | _=>false
 | .tup x=>match b with | .tup y=>eY x y | _=>false
 | .lst x=>match b with | .lst y=>eY x y | _=>false
 | .dct k x=>match b with | .dct l y=>decide (k=l)&&eY x y | _=>false
 | .ref x=>match b with | .ref y=>decide (x=y) | _=>false
 | .iY x=>match b with | .iY y=>decide (x=y) | _=>false
def eY (a b:List D):Bool:=match a with
 | []=>match b with | []=>true | _=>false
 | x::xs=>match b with | y::ys=>same x y&&eY xs ys | _=>false
end
mutual
theorem rO:∀ (a b:D),same a b=true->a=b
 | .ao,b,h=>by cases b <;> simp [same] at h ⊢
 | .bl x,b,h=>by cases b <;> simp [same] at h ⊢;exact h
 | .int x,b,h=>by cases b <;> simp [same] at h ⊢;exact h
 | .str x,b,h=>by cases b <;> simp [same] at h ⊢;exact h
 | .tup x,b,h=>by cases b <;> simp [same] at h ⊢;exact gD _ _ h
 | .lst x,b,h=>by cases b <;> simp [same] at h ⊢;exact gD _ _ h
 | .dct k x,b,h=>by cases b <;> simp [same] at h ⊢;exact ⟨h.1,gD _ _ h.2⟩
 | .ref x,b,h=>by cases b <;> simp [same] at h ⊢;exact h
 | .iY x,b,h=>by cases b <;> simp [same] at h ⊢;exact h
theorem gD:∀ (a b:List D),eY a b=true->a=b
 | [],b,h=>by cases b <;> simp [eY] at h ⊢
 | x::xs,b,h=>by
  cases b with
  | nil=>simp [eY] at h
  | cons y ys=>simp only [eY,Bool.and_eq_true] at h;rw [rO x y h.1,gD xs ys h.2]
end
mutual
theorem same_refl:∀ (a:D),same a a=true
 | .ao=>by simp [same]
 | .bl x=>by simp [same]
 | .int x=>by simp [same]
 | .str x=>by simp [same]
 | .tup x=>by simp only [same];exact ee x
 | .lst x=>by simp only [same];exact ee x
 | .dct k x=>by simp only [same,ee x];simp
 | .ref x=>by simp [same]
 | .iY x=>by simp [same]
theorem ee:∀ (a:List D),eY a a=true
 | []=>by simp [eY]
 | x::xs=>by simp only [eY,same_refl x,ee xs,Bool.and_self]
end
instance:DecidableEq D:=fun a b=>decidable_of_iff (same a b=true) ⟨rO a b,fun h=>h ▸ same_refl a⟩
inductive MO where
 | lst (ds:List D)
 | dct (kvs:List (Ky×D))
 | ng (kvs:List (Ky×D))
 | ins (c:Nat) (fs:List (Str×D))
 deriving DecidableEq
noncomputable abbrev MH:=List MO
noncomputable abbrev Sg:=List (Option D)
inductive R (α:Type) where
 | ok (a:α) (M:MH)
 | exc (c:Nat) (M:MH)
 | bad
noncomputable def R.bind {α β:Type} (x:R α) (f:α->MH->R β):R β :=
 match x with
 | .ok a M=>f a M
 | .exc c M=>.exc c M
 | .bad=>.bad
@[simp] theorem R.aa {α β:Type} (a:α) (M:MH) (f:α->MH->R β):(R.ok a M).bind f=f a M:=rfl
@[simp] theorem R.jZ {α β:Type} (c:Nat) (M:MH) (f:α->MH->R β):(R.exc c M:R α).bind f=.exc c M:=rfl
@[simp] theorem R.j0 {α β:Type} (f:α->MH->R β):(R.bad:R α).bind f=.bad:=rfl
inductive BP where
 | add | sub | mul | fdiv | mod | pow
inductive ze where
 | eq | ne | lt | le | gt | ge | isin | n6 | ow | jF
inductive Ty where
 | int | str | bool | list | tuple | dict
inductive Bl where
 | len | sum | tuple | list | dict | str | int | abs | max | min | sorted | all | any | repr
inductive Mt where
 | append | extend | pop | reverse | clear | get | join | startswith | replace | split | index | count
inductive F1 where
 | abs | int
mutual
inductive E where
 | v (i:Nat)
 | k (d:D)
 | g (i:Nat)
 | tup (es:Es)
 | lst (fz:Bool) (es:Es)
 | Gr
 | op (o:BP) (fz:Bool) (a b:E)
 | neg (a:E)
 | cmp (o:ze) (a b:E)
 | chain (o o':ze) (a b c:E)
 | and (a b:E)
 | or (a b:E)
 | not (a:E)
 | tru (a:E)
 | A7 (c a b:E)
 | idx (a b:E)
 | sl (fz:Bool) (a:E) (lo hi:O)
 | call (f:Nat) (es:Es)
 | xx (a:E) (t:Ty)
 | blt (b:Bl) (fz:Bool) (es:Es)
 | bZ (m:Mt) (fz:Bool) (a:E) (es:Es)
 | comp (fz:Bool) (caps:List Nat) (tg:List Nat) (elt:E) (it:Src) (cond:O)
 | fld (a:E) (f:Str)
 | cR (c m:Nat) (nm:Str) (a:E) (es:Es)
 | new (c i:Nat) (es:Es)
 | mx (hi:Bool) (a b:E)
 | KY (fz:Bool) (a b:E)
 | KZ (fz:Bool) (a:E)
 | rv (fz:Bool) (a:E)
 | all1 (a:E)
 | nc (f:F1) (a:E)
 | iU (f:Nat) (es:Es) (d:Int)
 | dz (a b:E)
 | jL (a:E) (c:Option Nat)
 | A5 (ct:Bool) (a:E) (es:Es)
 | AO (a:E)
 | bad
inductive Es where
 | nil
 | cons (e:E) (es:Es)
inductive O where
 | none
 | some (e:E)
inductive Src where
 | e (a:E)
 | Cf (a:E)
 | DL (a b:E)
 | enum (a:E)
 | items (a:E)
 | rev (a:E)
 | zip (a b:E)
 | DJ (a b:E)
end
mutual
inductive S where
 | set (i:Nat) (e:E)
 | pO (a b e:E)
 | d9 (a:E) (f:Str) (e:E)
 | zw (tg:List Nat) (e:E)
 | ex (e:E)
 | ret (e:E)
 | DM
 | ifs (c:E) (a b:Ss)
 | for (tg:List Nat) (it:Src) (b:Ss)
 | while (c:E) (b:Ss)
 | brk
 | cont
 | pass
 | raise (c:Nat) (es:Es)
 | try (b:Ss) (hs:Hs) (els:Ss)
 | bad
inductive Ss where
 | nil
 | cons (s:S) (ss:Ss)
inductive Hs where
 | nil
 | cons (cs:List Nat) (b:Ss) (hs:Hs)
 | as (c i:Nat) (b:Ss) (hs:Hs)
end
inductive Out where
 | nx (σ:Sg)
 | rt (d:D)
 | bk (σ:Sg)
 | ct (σ:Sg)
 | xc (c:Nat) (σ:Sg)
noncomputable def R.use {α:Type} (x:R α) (σ:Sg) (f:α->MH->R Out):R Out :=
 match x with
 | .ok a M=>f a M
 | .exc c M=>.ok (.xc c σ) M
 | .bad=>.bad
@[simp] theorem R.gb {α:Type} (a:α) (M:MH) (σ:Sg) (f:α->MH->R Out):(R.ok a M).use σ f=f a M:=rfl
@[simp] theorem R.lF {α:Type} (c:Nat) (M:MH) (σ:Sg) (f:α->MH->R Out):(R.exc c M:R α).use σ f=.ok (.xc c σ) M:=rfl
@[simp] theorem R.KI {α:Type} (σ:Sg) (f:α->MH->R Out):(R.bad:R α).use σ f=.bad:=rfl
inductive Vw where
 | tup (ds:List D)
 | lst (ds:List D)
 | dct (kvs:List (Ky×D))
 | none
noncomputable def vw (M:MH):D->Vw
 | .tup ds=>.tup ds
 | .lst ds=>.lst ds
 | .dct ks ds=>.dct (ks.zip ds)
 | .ref n=>match M[n]? with
  | some (.lst ds)=>.lst ds
  | some (.dct kvs)=>.dct kvs
  | some (.ng kvs)=>.dct kvs
  | _=>.none
 | _=>.none
noncomputable def line:Nat:=1000000
noncomputable def small (i:Int):Bool:=decide (i.natAbs<18446744073709551616)
noncomputable def mid (i:Int):Bool:=decide (i.natAbs<10 ^ 200)
noncomputable def c9:BP->Int->Int->Option Int
 | .add,i,j=>some (i+j)
 | .sub,i,j=>some (i-j)
 | .mul,i,j=>if small i||small j then some (i*j) else if mid i&&mid j then some (i*j) else none
 | .fdiv,i,j=>if decide (0<j)&&decide (j.natAbs<1073741824) then some (i / j) else none
 | .mod,i,j=>if decide (0<j) then some (i % j) else none
 | .pow,i,j=>if decide (0<=j)&&(decide (j<=1000000)&&decide (i.natAbs<18446744073709551616)) then some (i ^ j.toNat) else none
noncomputable def bB (fz:Bool) (ds:List D) (M:MH):R D:=if fz then .ok (.lst ds) M else .ok (.ref M.length) (M++[.lst ds])
noncomputable def m9 (o:BP) (fz:Bool) (M:MH):D->D->R D
 | .int i,.int j=>match c9 o i j with
  | some k=>.ok (.int k) M
  | none=>.bad
 | .str x,.str y=>match o with
  | .add=>if decide (x.length+y.length<=line) then .ok (.str (x++y)) M else .bad
  | _=>.bad
 | a, b=>match o with
  | .add=>match vw M a,vw M b with
   | .lst xs,.lst ys=>if decide (xs.length+ys.length<=line) then bB fz (xs++ys) M else .bad
   | .tup xs,.tup ys=>if !xs.isEmpty&&decide (xs.length+ys.length<=line) then .ok (.tup (xs++ys)) M else .bad
   | _,_=>.bad
  | .mul=>match vw M a,b with
   | .lst xs,.int k=>if decide (xs.length*k.toNat<=line)&&decide (k.natAbs<=1000000) then bB fz (List.replicate k.toNat xs).flatten M else .bad
   | _,_=>.bad
  | _=>.bad
mutual
noncomputable def plain:D->Bool
 | .ao=>true
 | .bl _=>true
 | .int _=>true
 | .str _=>true
 | .tup ds=>cI ds
 | .lst ds=>cI ds
 | .dct _ _=>false
 | .ref _=>false
 | .iY _=>false
noncomputable def cI:List D->Bool
 | []=>true
 | d::ds=>plain d&&cI ds
end
mutual
noncomputable def dep:D->Nat
 | .tup ds=>deps ds+1
 | .lst ds=>deps ds+1
 | .dct _ ds=>deps ds+1
 | .ao=>0
 | .bl _=>0
 | .int _=>0
 | .str _=>0
 | .ref _=>0
 | .iY _=>0
noncomputable def deps:List D->Nat
 | []=>0
 | d::ds=>max (dep d) (deps ds)
end
mutual
noncomputable def aD:D->D->Bool
 | .ao,.ao=>true
 | .bl a,.bl b=>a == b
 | .bl a,.int i=>(if a then 1 else 0) == i
 | .int i,.bl b=>i == (if b then 1 else 0)
 | .int a,.int b=>decide (a=b)
 | .str a,.str b=>decide (a=b)
 | .tup a,.tup b=>cT a b
 | .lst a,.lst b=>cT a b
 | _,_=>false
noncomputable def cT:List D->List D->Bool
 | [],[]=>true
 | a::as,b::bs=>aD a b&&cT as bs
 | _,_=>false
end
noncomputable def keyOf:D->Option Ky
 | .int i=>some (.inl i)
 | .str x=>some (.inr x)
 | _=>none
noncomputable def K1:Ky->D
 | .inl i=>.int i
 | .inr x=>.str x
noncomputable def look (kvs:List (Ky×D)) (k:Ky):Option D:=(kvs.find? fun kv=>decide (kv.1=k)).map (·.2)
noncomputable def put (kvs:List (Ky×D)) (k:Ky) (v:D):List (Ky×D) :=
 if kvs.any (fun kv=>decide (kv.1=k)) then kvs.map fun kv=>if kv.1=k then (kv.1,v) else kv else kvs++[(k,v)]
noncomputable def top (M:MH):D->D
 | .ref n=>match M[n]? with
  | some (.lst ds)=>.lst ds
  | _=>.ref n
 | d=>d
noncomputable def flat:D->Bool
 | .ao=>true
 | .int _=>true
 | .str _=>true
 | _=>false
noncomputable def cu (a b:D):Bool:=(plain a&&plain b)&&(decide (dep a<=100)||decide (dep b<=100))
noncomputable def p7 (M:MH) (a b:D):Option Bool:=match vw M a,vw M b with
 | .lst xs,.lst ys=>if ys.isEmpty then some xs.isEmpty else none
 | _,_=>none
noncomputable def deep:Nat->MH->D->D
 | 0,_,d=>d
 | n+1,M,d=>match d with
  | .ref r=>(match M[r]? with
   | some (.lst ds)=>.lst (ds.map (deep n M))
   | _=>.ref r)
  | .tup ds=>.tup (ds.map (deep n M))
  | .lst ds=>.lst (ds.map (deep n M))
  | d=>d
noncomputable def JR (M:MH) (neg:Bool) (a b:D):R D:=if cu (deep 120 M a) (deep 120 M b) then .ok (.bl (if neg then !aD (deep 120 M a) (deep 120 M b) else aD (deep 120 M a) (deep 120 M b))) M else .bad
noncomputable def qG (M:MH) (f:Int->Int->Bool) (a b:D):R D:=match a with
 | .int i=>(match b with | .int j=>.ok (.bl (f i j)) M | _=>.bad)
 | _=>.bad
noncomputable def G6 (M:MH) (a b:D):R D:=if cu (top M a) (top M b) then .ok (.bl (aD (top M a) (top M b))) M else (match p7 M a b with | some t=>.ok (.bl t) M | none=>JR M false a b)
noncomputable def AN (M:MH) (a b:D):R D:=if cu (top M a) (top M b) then .ok (.bl (!aD (top M a) (top M b))) M else (match p7 M a b with | some t=>.ok (.bl (!t)) M | none=>JR M true a b)
noncomputable def bT:D->Bool
 | .ao=>true
 | _=>false
noncomputable def yG (a b:D):Option (Bool×Bool):=match a with
 | .bl x=>(match b with | .bl y=>some (x,y) | _=>none)
 | _=>none
noncomputable def xF (M:MH) (a b:D):Option Bool:=match vw M b with
 | .dct kvs=>(match keyOf a with | some k=>some (look kvs k).isSome | none=>none)
 | .lst ds=>if flat a&&ds.all flat then some (ds.any fun d=>aD d a) else none
 | .tup ds=>if flat a&&ds.all flat then some (ds.any fun d=>aD d a) else none
 | .none=>none
noncomputable def bH (o:ze) (M:MH) (a b:D):R D :=
 match o with
 | .lt=>qG M (fun i j=>decide (i<j)) a b
 | .le=>qG M (fun i j=>decide (i<=j)) a b
 | .gt=>qG M (fun i j=>decide (j<i)) a b
 | .ge=>qG M (fun i j=>decide (j<=i)) a b
 | .eq=>(match yG a b with | some p=>.ok (.bl (p.1 == p.2)) M | none=>G6 M a b)
 | .ne=>(match yG a b with | some p=>.ok (.bl (!(p.1 == p.2))) M | none=>AN M a b)
 | .ow=>if bT b then .ok (.bl (bT a)) M else .bad
 | .jF=>if bT b then .ok (.bl (!bT a)) M else .bad
 | .isin=>(match xF M a b with | some t=>.ok (.bl t) M | none=>.bad)
 | .n6=>(match xF M a b with | some t=>.ok (.bl (!t)) M | none=>.bad)
noncomputable def sr (n:Nat) (i:Int):Option Nat:=if 0<=i then (if i<n then some i.toNat else none) else if -(n:Int)<=i then some (i+n).toNat else none
noncomputable def j8 {α:Type} (xs:List α) (i:Int):Option α:=(sr xs.length i).bind fun j=>xs[j]?
noncomputable def six (n d:Nat):Option Int->Nat
 | none=>d
 | some v=>if v<0 then (v+(n:Int)).toNat else min v.toNat n
noncomputable def cg {α:Type} (xs:List α) (lo hi:Option Int):List α:=(xs.drop (six xs.length 0 lo)).take (six xs.length xs.length hi-six xs.length 0 lo)
noncomputable def cuts (x:Str) (lo hi:Option Int):Str:=⟨(cg x.cps.toList lo hi).toArray⟩
noncomputable def mh (M:MH) (a b:D):R D :=
 match a,b with
 | .str x,.int i=>if decide (x.length<=line) then (match j8 x.cps.toList i with
  | some c=>.ok (.str ⟨#[c]⟩) M
  | none=>.bad) else .bad
 | a, b=>match vw M a, b with
  | .tup ds,.int i=>match j8 ds i with
   | some d=>.ok d M
   | none=>.bad
  | .lst ds,.int i=>match j8 ds i with
   | some d=>.ok d M
   | none=>.bad
  | .dct kvs,b=>match keyOf b with
   | some k=>match look kvs k with
    | some d=>.ok d M
    | none=>.bad
   | none=>.bad
  | _,_=>.bad
noncomputable def iM (n:Nat) (lo hi:Option Int):Bool:=decide (six n 0 lo=0)&&decide (six n n hi=n)
noncomputable def sl2 (fz:Bool) (M:MH) (a:D) (lo hi:Option Int):R D :=
 match a with
 | .str x=>if decide (x.length<=line) then .ok (.str (cuts x lo hi)) M else .bad
 | a=>match vw M a with
  | .tup ds=>if iM ds.length lo hi then .bad else .ok (.tup (cg ds lo hi)) M
  | .lst ds=>bB fz (cg ds lo hi) M
  | _=>.bad
noncomputable def CD (M:MH) (t:Ty):D->Bool
 | .int _=>match t with | .int=>true | _=>false
 | .bl _=>match t with | .int=>true | .bool=>true | _=>false
 | .str _=>match t with | .str=>true | _=>false
 | .tup _=>match t with | .tuple=>true | _=>false
 | .lst _=>match t with | .list=>true | _=>false
 | .dct _ _=>match t with | .dict=>true | _=>false
 | .ao=>false
 | .iY _=>false
 | .ref n=>match M[n]? with
  | some (.lst _)=>(match t with | .list=>true | _=>false)
  | some (.dct _)=>(match t with | .dict=>true | _=>false)
  | some (.ng _)=>(match t with | .dict=>true | _=>false)
  | _=>false
noncomputable def uV (M:MH):D->Bool
 | .ref n=>match M[n]? with
  | some (.lst _)=>true
  | some (.dct _)=>true
  | some (.ng _)=>true
  | _=>false
 | .iY _=>false
 | _=>true
noncomputable def intsOf:List D->Option (List Int)
 | []=>some []
 | .int i::ds=>(intsOf ds).map (i::·)
 | _=>none
noncomputable def boolsOf:List D->Option (List Bool)
 | []=>some []
 | .bl b::ds=>(boolsOf ds).map (b::·)
 | _=>none
noncomputable def qu:F1->D->Option D
 | .abs,.int i=>some (.int (if i<0 then -i else i))
 | .int,.bl b=>some (.int (if b then 1 else 0))
 | .int,.int i=>some (.int i)
 | _,_=>none
noncomputable def itemsOf (M:MH) (d:D):Option (List D) :=
 match d with
 | .str _=>none
 | .dct _ _=>none
 | d=>match vw M d with
  | .tup ds=>some ds
  | .lst ds=>some ds
  | .dct kvs=>some (kvs.map fun kv=>K1 kv.1)
  | .none=>none
noncomputable def wk (M:MH):D->Bool
 | .ref n=>match M[n]? with
  | some (.dct _)=>true
  | _=>false
 | _=>false
noncomputable def walk (M:MH):D->MH
 | .ref n=>match M[n]? with
  | some (.dct kvs)=>M.set n (.ng kvs)
  | _=>M
 | _=>M
noncomputable def eX (b:Bool) (d:D) (M:MH):MH:=match b,d with
 | true,.ref n=>match M[n]? with
  | some (.ng kvs)=>M.set n (.dct kvs)
  | _=>M
 | _,_=>M
noncomputable def R.fin {α:Type} (x:R α) (f:MH->MH):R α:=match x with
 | .ok a M=>.ok a (f M)
 | .exc c M=>.exc c (f M)
 | .bad=>.bad
noncomputable def uQ (b:Bl) (fz:Bool) (M:MH):List D->R D
 | [.str x]=>match b with
  | .len=>if decide (x.length<=line) then .ok (.int x.length) M else .bad
  | _=>.bad
 | [d]=>match b,vw M d with
  | .len,.tup ds=>.ok (.int ds.length) M
  | .len,.lst ds=>.ok (.int ds.length) M
  | .len,.dct kvs=>.ok (.int kvs.length) M
  | .sum,.lst ds=>match intsOf ds with
   | some ns=>.ok (.int ns.sum) M
   | none=>.bad
  | .tuple,.lst ds=>.ok (.tup ds) M
  | .tuple,.tup ds=>.ok (.tup ds) M
  | .list,.lst ds=>bB fz ds M
  | .list,.tup ds=>bB fz ds M
  | .dict,.dct kvs=>.ok (.ref M.length) (M++[.dct kvs])
  | _,_=>.bad
 | _=>.bad
noncomputable def oA:D->Option (List D)
 | .tup ds=>some ds
 | .lst ds=>some ds
 | _=>none
noncomputable def BZ:D->Option (List D)
 | .tup ds=>some ds
 | _=>none
theorem zz {d:D} {ds:List D} (h:BZ d=some ds):d=.tup ds:=by
 cases d <;> first | (cases h;rfl) | cases h
noncomputable def fT (M:MH) (a:D):Option (Nat×List D):=match a with
 | .ref n=>(match M[n]? with | some (.lst xs)=>some (n,xs) | _=>none)
 | _=>none
theorem bS {M:MH} {n:Nat} {xs:List D} (h:M[n]? = some (.lst xs)):fT M (.ref n)=some (n,xs):=by simp only [fT,h]
theorem ji {M:MH} {a:D} {p:Nat×List D} (h:fT M a=some p):a=.ref p.1/\M[p.1]? = some (.lst p.2):=by
 cases a with
 | ref n =>
  simp only [fT] at h
  split at h
  ·rename_i xs hx;cases h;exact ⟨rfl,hx⟩
  ·cases h
 | _=>cases h
noncomputable def n5 (ds:List D) (k:D->R D):R D:=match ds with
 | d::r=>(match r with | []=>k d | _::_=>.bad)
 | []=>.bad
noncomputable def oh (m:Mt) (M:MH) (n:Nat) (xs ds:List D):R D:=match m with
 | .append=>n5 ds fun d=>if decide (xs.length<line) then .ok .ao (M.set n (.lst (xs++[d]))) else .bad
 | .extend=>n5 ds fun d=>(match BZ d with
  | some ys=>if decide (xs.length+ys.length<=line) then .ok .ao (M.set n (.lst (xs++ys))) else .bad
  | none=>.bad)
 | .pop=>if ds.isEmpty then (match xs[xs.length-1]? with
  | some d=>.ok d (M.set n (.lst xs.dropLast))
  | none=>.bad) else .bad
 | .reverse=>if ds.isEmpty then .ok .ao (M.set n (.lst xs.reverse)) else .bad
 | .clear=>if ds.isEmpty then .ok .ao (M.set n (.lst [])) else .bad
 | _=>.bad
noncomputable def gf (m:Mt) (fz:Bool) (M:MH) (a:D) (ds:List D):R D:=match fT M a with
 | some p=>oh m M p.1 p.2 ds
 | none=>.bad
noncomputable def lW (m:Mt) (M:MH) (a:D):Bool:=(fT M a).isSome&&(match m with | .append=>true | .extend=>true | .pop=>true | .reverse=>true | .clear=>true | _=>false)
noncomputable def lJ (M:MH) (a b d:D):R Unit :=
 match a with
 | .ref n=>match M[n]?,b with
  | some (.lst xs),.int i=>match sr xs.length i with
   | some j=>.ok () (M.set n (.lst (xs.set j d)))
   | none=>.bad
  | some (.dct kvs),b=>match keyOf b with
   | some k=>if decide (kvs.length<line) then .ok () (M.set n (.dct (put kvs k d))) else .bad
   | none=>.bad
  | _,_=>.bad
 | _=>.bad
noncomputable def ic {α:Type}:List Nat->List α->List (Option α)->List (Option α)
 | i::tg,x::xs,σ=>ic tg xs (σ.set i (some x))
 | _,_,σ=>σ
noncomputable def sets (tg:List Nat) (M:MH) (d:D) (σ:Sg):Option Sg :=
 match tg with
 | [i]=>some (σ.set i (some d))
 | [i,j]=>match d with
  | .tup [x,y]=>some ((σ.set i (some x)).set j (some y))
  | _=>none
 | []=>none
 | tg=>match d with
  | .tup xs=>if xs.length=tg.length then some (ic tg xs σ) else none
  | _=>none
noncomputable def aO (M:MH) (d:D) (M':MH):Bool:=match d with
 | .ref n=>decide (M'[n]? = M[n]?)
 | _=>true
noncomputable def cj (body:Sg->MH->R Out) (tg:List Nat) (gn:MH->Bool):List D->Sg->MH->R Out
 | [],σ,M=>.ok (.nx σ) M
 | d::ds,σ,M=>match sets tg M d σ with
  | none=>.bad
  | some σ1=>(body σ1 M).bind fun o M1=>match o with
   | .nx σ2=>if gn M1 then cj body tg gn ds σ2 M1 else .bad
   | .ct σ2=>if gn M1 then cj body tg gn ds σ2 M1 else .bad
   | .bk σ2=>.ok (.nx σ2) M1
   | .rt r=>.ok (.rt r) M1
   | .xc c σ2=>.ok (.xc c σ2) M1
noncomputable def cM (c:Sg->MH->R D) (body:Sg->MH->R Out):Nat->Sg->MH->R Out
 | 0,_,_=>.bad
 | n+1,σ,M=>(c σ M).use σ fun t M0=>match t with
  | .bl false=>.ok (.nx σ) M0
  | .bl true=>(body σ M0).bind fun o M1=>match o with
   | .nx σ2=>cM c body n σ2 M1
   | .ct σ2=>cM c body n σ2 M1
   | .bk σ2=>.ok (.nx σ2) M1
   | .rt r=>.ok (.rt r) M1
   | .xc c σ2=>.ok (.xc c σ2) M1
  | _=>.bad
noncomputable def bC (cond:Sg->MH->R D) (elt:Sg->MH->R D) (tg:List Nat) (gn:MH->Bool):List D->Sg->MH->List D->R (List D)
 | [],_,M,acc=>.ok acc M
 | d::ds,σ,M,acc=>match sets tg M d σ with
  | none=>.bad
  | some σ1=>(cond σ1 M).bind fun t M1=>match t with
   | .bl true=>(elt σ1 M1).bind fun x M2=>if gn M2 then (if decide (acc.length<line) then bC cond elt tg gn ds σ1 M2 (acc++[x]) else .bad) else .bad
   | .bl false=>if gn M1 then bC cond elt tg gn ds σ1 M1 acc else .bad
   | _=>.bad
noncomputable def ef (f:Str) (v:D):List (Str×D)->List (Str×D)
 | []=>[(f,v)]
 | (g,x)::r=>if g=f then (g,v)::r else (g,x)::ef f v r
structure bh where
 call:Nat->List D->MH->R D
 ini:Nat->List D->MH->R D
 glob:Nat->Option D
 turns:Nat
 sub:Nat->Nat->Bool
noncomputable def mV (σ:Sg) (caps:List Nat):Sg:=caps.map fun i=>(σ[i]?).join
noncomputable def iW:D->Option Int
 | .int i=>some i
 | _=>none
noncomputable def o8 (j:Int):Bool:=decide (j.natAbs<=1000000)
noncomputable def nS (a b:Int):List D:=(List.range (b-a).toNat).map fun (i:Nat)=>D.int (a+(i:Int))
noncomputable def Hf (ds es:List D):List D:=(ds.zip es).map fun p=>.tup [p.1,p.2]
noncomputable def Ce (a b:Int):List D:=(List.range (a-b).toNat).map fun (i:Nat)=>D.int (a-(i:Int))
noncomputable def yU (M:MH) (d:D):Option (List D):=match vw M d with
 | .lst ds=>some ds
 | .tup ds=>some ds
 | _=>none
noncomputable def uX:List (Ky×D)->List D->List D->Option (List (Ky×D))
 | kvs,d::ds,e::es=>match keyOf d with
  | some k=>uX (put kvs k e) ds es
  | none=>none
 | kvs,_,_=>some kvs
noncomputable def lY (M:MH) (d:D):Option (List D):=match vw M d with
 | .lst ds=>some ds
 | _=>none
noncomputable def jS:D->Bool
 | .ao=>true
 | .bl _=>true
 | .int _=>true
 | .str _=>true
 | _=>false
noncomputable def xw (ct:Bool) (ds:List D) (d:D):Option Nat:=if ds.all jS&&jS d then (if ct then some (ds.countP fun e=>aD e d) else ds.findIdx? fun e=>aD e d) else none
noncomputable def A4 (ct:Bool) (M:MH) (x:D) (ds:List D):R D:=n5 ds fun d=>match (lY M x).bind fun xs=>xw ct xs d with
 | some j=>.ok (.int (j:Int)) M
 | none=>.bad
noncomputable def maxOf (ds:List D):Option Int:=match intsOf ds with
 | some (n::ns)=>some (ns.foldl (fun m a=>if m<a then a else m) n)
 | _=>none
mutual
noncomputable def ev (Φ:bh):E->Sg->MH->R D
 | .v i,σ,M=>match σ[i]? with
  | some (some d)=>.ok d M
  | _=>.bad
 | .k d,_,M=>.ok d M
 | .g i,_,M=>match Φ.glob i with
  | some d=>.ok d M
  | none=>.bad
 | .tup es,σ,M=>(b6 Φ es σ M).bind fun ds M1=>.ok (.tup ds) M1
 | .lst fz es,σ,M=>(b6 Φ es σ M).bind fun ds M1=>bB fz ds M1
 | .Gr,_,M=>.ok (.ref M.length) (M++[.dct []])
 | .op o fz a b,σ,M=>(ev Φ a σ M).bind fun x M1=>(ev Φ b σ M1).bind fun y M2=>m9 o fz M2 x y
 | .neg a,σ,M=>(ev Φ a σ M).bind fun x M1=>match x with
  | .int i=>.ok (.int (-i)) M1
  | _=>.bad
 | .cmp o a b,σ,M=>(ev Φ a σ M).bind fun x M1=>(ev Φ b σ M1).bind fun y M2=>bH o M2 x y
 | .chain o o' a b c,σ,M=>(ev Φ a σ M).bind fun x M1=>(ev Φ b σ M1).bind fun y M2=>(bH o M2 x y).bind fun t M3=>match t with
  | .bl true=>(ev Φ c σ M3).bind fun z M4=>bH o' M4 y z
  | .bl false=>.ok (.bl false) M3
  | _=>.bad
 | .and a b,σ,M=>(ev Φ a σ M).bind fun x M1=>match x with
  | .bl true=>(ev Φ b σ M1)
  | .bl false=>.ok (.bl false) M1
  | _=>.bad
 | .or a b,σ,M=>(ev Φ a σ M).bind fun x M1=>match x with
  | .bl true=>.ok (.bl true) M1
  | .bl false=>(ev Φ b σ M1)
  | _=>.bad
 | .not a,σ,M=>(ev Φ a σ M).bind fun x M1=>match x with
  | .bl b=>.ok (.bl (!b)) M1
  | _=>.bad
 | .tru a,σ,M=>.bad
 | .A7 c a b,σ,M=>(ev Φ c σ M).bind fun x M1=>match x with
  | .bl true=>ev Φ a σ M1
  | .bl false=>ev Φ b σ M1
  | _=>.bad
 | .idx a b,σ,M=>(ev Φ a σ M).bind fun x M1=>(ev Φ b σ M1).bind fun y M2=>mh M2 x y
 | .sl fz a lo hi,σ,M=>(ev Φ a σ M).bind fun x M1=>(xY Φ lo σ M1).bind fun l M2=>(xY Φ hi σ M2).bind fun h M3=>sl2 fz M3 x l h
 | .call f es,σ,M=>(b6 Φ es σ M).bind fun ds M1=>Φ.call f ds M1
 | .xx a t,σ,M=>(ev Φ a σ M).bind fun x M1=>if uV M1 x then .ok (.bl (CD M1 t x)) M1 else .bad
 | .blt b fz es,σ,M=>(b6 Φ es σ M).bind fun ds M1=>uQ b fz M1 ds
 | .bZ m fz a es,σ,M=>(ev Φ a σ M).bind fun x M1=>if lW m M1 x then (b6 Φ es σ M1).bind fun ds M2=>gf m fz M2 x ds else .bad
 | .comp fz caps tg elt it cond,σ,M=>(eO Φ it σ M).bind fun p M1 =>
   ((bC (oM Φ cond) (ev Φ elt) tg (aO M1 p.1) p.2.1 (mV σ caps++List.replicate tg.length none) M1 []).fin (eX p.2.2 p.1)).bind fun ds M2=>bB fz ds M2
 | .fld a f,σ,M=>(ev Φ a σ M).bind fun x M1=>match x with
  | .ref n=>match M1[n]? with
   | some (.ins _ fs)=>match fs.lookup f with
    | some d=>.ok d M1
    | none=>.bad
   | _=>.bad
  | _=>.bad
 | .cR c m nm a es,σ,M=>(ev Φ a σ M).bind fun x M1=>match x with
  | .ref n=>match M1[n]? with
   | some (.ins c' fs)=>if decide (c'=c)&&(fs.lookup nm).isNone then (b6 Φ es σ M1).bind fun ds M2=>Φ.call m (.ref n::ds) M2 else .bad
   | _=>.bad
  | _=>.bad
 | .new c i es,σ,M=>(b6 Φ es σ M).bind fun ds M1=>(Φ.ini i (.ref M1.length::ds) (M1++[.ins c []])).bind fun r M2=>match r with
  | .ao=>.ok (.ref M1.length) M2
  | _=>.bad
 | .mx hi a b,σ,M=>(ev Φ a σ M).bind fun x M1=>(ev Φ b σ M1).bind fun y M2=>match x,y with
  | .int i,.int j=>.ok (.int (if hi then (if j > i then j else i) else (if j<i then j else i))) M2
  | _,_=>.bad
 | .KY fz a b,σ,M=>(ev Φ a σ M).bind fun x M1=>(ev Φ b σ M1).bind fun y M2=>match x,y with
  | .int i,.int j=>if o8 i&&(o8 j&&decide ((j-i).toNat<=line)) then bB fz (nS i j) M2 else .bad
  | _,_=>.bad
 | .KZ fz a,σ,M=>(ev Φ a σ M).bind fun x M1=>match x with
  | .int j=>if o8 j then bB fz (nS 0 j) M1 else .bad
  | _=>.bad
 | .rv fz a,σ,M=>(ev Φ a σ M).bind fun x M1=>match vw M1 x with
  | .lst ds=>bB fz ds.reverse M1
  | _=>.bad
 | .all1 a,σ,M=>(ev Φ a σ M).bind fun x M1=>match vw M1 x with
  | .lst ds=>match boolsOf ds with
   | some bs=>.ok (.bl (bs.all id)) M1
   | none=>.bad
  | _=>.bad
 | .nc f a,σ,M=>(ev Φ a σ M).bind fun x M1=>match qu f x with
  | some d=>.ok d M1
  | none=>.bad
 | .iU f es d,σ,M=>(b6 Φ es σ M).bind fun ds M1=>Φ.call f (ds++[.int d]) M1
 | .dz a b,σ,M=>(ev Φ a σ M).bind fun x M1=>(ev Φ b σ M1).bind fun y M2=>match yU M2 x,yU M2 y with
  | some ds,some es=>if decide (ds.length<=1000) then (match uX [] ds es with
   | some kvs=>.ok (.ref M2.length) (M2++[.dct kvs])
   | none=>.bad) else .bad
  | _,_=>.bad
 | .jL a c,σ,M=>(ev Φ a σ M).bind fun x M1=>match x with
  | .iY k=>.ok (.bl (match c with | some c=>Φ.sub k c | none=>true)) M1
  | _=>.bad
 | .A5 ct a es,σ,M=>(ev Φ a σ M).bind fun x M1=>if (lY M1 x).isSome then (b6 Φ es σ M1).bind fun ds M2=>A4 ct M2 x ds else .bad
 | .AO a,σ,M=>(ev Φ a σ M).bind fun x M1=>match (lY M1 x).bind maxOf with
  | some m=>.ok (.int m) M1
  | none=>.bad
 | .bad,_,_=>.bad
noncomputable def b6 (Φ:bh):Es->Sg->MH->R (List D)
 | .nil,_,M=>.ok [] M
 | .cons e es,σ,M=>(ev Φ e σ M).bind fun x M1=>(b6 Φ es σ M1).bind fun xs M2=>.ok (x::xs) M2
noncomputable def xY (Φ:bh):O->Sg->MH->R (Option Int)
 | .none,_,M=>.ok none M
 | .some e,σ,M=>(ev Φ e σ M).bind fun x M1=>match x with
  | .int i=>.ok (some i) M1
  | _=>.bad
noncomputable def oM (Φ:bh):O->Sg->MH->R D
 | .none,_,M=>.ok (.bl true) M
 | .some e,σ,M=>ev Φ e σ M
noncomputable def eO (Φ:bh):Src->Sg->MH->R (D×List D×Bool)
 | .e a,σ,M=>(ev Φ a σ M).bind fun x M1=>match itemsOf M1 x with
  | some ds=>.ok (x,ds,wk M1 x) (walk M1 x)
  | none=>.bad
 | .Cf a,σ,M=>(ev Φ a σ M).bind fun x M1=>match x with
  | .int j=>if o8 j then .ok (.ao,nS 0 j,false) M1 else .bad
  | _=>.bad
 | .DL a b,σ,M=>(ev Φ a σ M).bind fun x M1=>(ev Φ b σ M1).bind fun y M2=>match iW x,iW y with
  | some i,some j=>if o8 i&&o8 j then .ok (.ao,nS i j,false) M2 else .bad
  | _,_=>.bad
 | .enum a,σ,M=>.bad
 | .items a,σ,M=>.bad
 | .rev a,σ,M=>(ev Φ a σ M).bind fun x M1=>match oA x with
  | some ds=>.ok (.ao,ds.reverse,false) M1
  | none=>.bad
 | .DJ a b,σ,M=>(ev Φ a σ M).bind fun x M1=>(ev Φ b σ M1).bind fun y M2=>match iW x,iW y with
  | some i,some j=>if o8 i&&o8 j then .ok (.ao,Ce i j,false) M2 else .bad
  | _,_=>.bad
 | .zip a b,σ,M=>(ev Φ a σ M).bind fun x M1=>(ev Φ b σ M1).bind fun y M2=>match oA x,oA y with
  | some ds,some es=>.ok (.ao,Hf ds es,false) M2
  | _,_=>.bad
end
noncomputable def c7:D->Bool
 | .str x=>decide (x.length<=100000)
 | .int i=>decide (i.natAbs<18446744073709551616)
 | _=>false
noncomputable def Bp (Φ:bh):Es->Sg->MH->R Unit
 | .nil,_,M=>.ok () M
 | .cons e es,σ,M=>(ev Φ e σ M).bind fun x M1=>if c7 x then Bp Φ es σ M1 else .bad
noncomputable def GV (f:Sg->Sg):R Out->R Out
 | .ok (.nx σ) M=>.ok (.nx (f σ)) M
 | _=>.bad
@[simp] theorem noX_ok {f:Sg->Sg} {σ:Sg} {M:MH}:GV f (.ok (.nx σ) M)=.ok (.nx (f σ)) M:=rfl
mutual
noncomputable def ex (Φ:bh):S->Sg->MH->R Out
 | .set i e,σ,M=>(ev Φ e σ M).use σ fun x M1=>.ok (.nx (σ.set i (some x))) M1
 | .pO a b e,σ,M=>(ev Φ e σ M).use σ fun x M1=>(ev Φ a σ M1).use σ fun y M2=>(ev Φ b σ M2).use σ fun z M3=>(lJ M3 y z x).use σ fun _ M4=>.ok (.nx σ) M4
 | .d9 a f e,σ,M=>(ev Φ e σ M).use σ fun x M1=>(ev Φ a σ M1).use σ fun y M2=>match y with
  | .ref n=>match M2[n]? with
   | some (.ins c fs)=>if decide (fs.length<1000) then .ok (.nx σ) (M2.set n (.ins c (ef f x fs))) else .bad
   | _=>.bad
  | _=>.bad
 | .zw tg e,σ,M=>(ev Φ e σ M).use σ fun x M1=>match sets tg M1 x σ with
  | some σ1=>.ok (.nx σ1) M1
  | none=>.bad
 | .ex e,σ,M=>(ev Φ e σ M).use σ fun _ M1=>.ok (.nx σ) M1
 | .ret e,σ,M=>(ev Φ e σ M).use σ fun x M1=>.ok (.rt x) M1
 | .DM,_,M=>.ok (.rt .ao) M
 | .ifs c a b,σ,M=>(ev Φ c σ M).use σ fun t M1=>match t with
  | .bl true=>exs Φ a σ M1
  | .bl false=>exs Φ b σ M1
  | _=>.bad
 | .for tg it b,σ,M=>(eO Φ it σ M).use σ fun p M1=>(cj (exs Φ b) tg (aO M1 p.1) p.2.1 σ M1).fin (eX p.2.2 p.1)
 | .while c b,σ,M=>cM (ev Φ c) (exs Φ b) Φ.turns σ M
 | .brk,σ,M=>.ok (.bk σ) M
 | .cont,σ,M=>.ok (.ct σ) M
 | .pass,σ,M=>.ok (.nx σ) M
 | .raise c es,σ,M=>(Bp Φ es σ M).use σ fun _ M1=>.ok (.xc c σ) M1
 | .try b hs els,σ,M=>(exs Φ b σ M).bind fun o M1=>match o with
  | .nx σ1=>exs Φ els σ1 M1
  | .xc c σ1=>sJ Φ hs c σ1 M1
  | o=>.ok o M1
 | .bad,_,_=>.bad
noncomputable def exs (Φ:bh):Ss->Sg->MH->R Out
 | .nil,σ,M=>.ok (.nx σ) M
 | .cons s ss,σ,M=>(ex Φ s σ M).bind fun o M1=>match o with
  | .nx σ1=>exs Φ ss σ1 M1
  | o=>.ok o M1
noncomputable def sJ (Φ:bh):Hs->Nat->Sg->MH->R Out
 | .nil,_,_,_=>.bad
 | .cons cs b hs,c,σ,M=>if cs.any (fun d=>Φ.sub c d) then GV id (exs Φ b σ M) else sJ Φ hs c σ M
 | .as d i b hs,c,σ,M=>if Φ.sub c d then GV (fun σ=>σ.set i none) (exs Φ b (σ.set i (some (.iY c))) M) else sJ Φ hs c σ M
end
mutual
noncomputable def nr (m:Nat):D->Bool
 | .ref n=>decide (n<m)
 | .tup ds=>e8 m ds
 | .lst ds=>e8 m ds
 | .dct _ ds=>e8 m ds
 | .ao=>true
 | .bl _=>true
 | .int _=>true
 | .str _=>true
 | .iY _=>true
noncomputable def e8 (m:Nat):List D->Bool
 | []=>true
 | d::ds=>nr m d&&e8 m ds
end
structure Fn where
 np:Nat
 ns:Nat
 jW:List D
 keep:Bool
 body:Ss
noncomputable def fM (keep:Bool) (M:MH) (d:D) (M':MH):R D :=
 if keep=false/\M'.take M.length=M then
  (if nr M.length d then .ok d M else match d with
   | .ref k=>match M'[k]? with
    | some (.lst ds)=>if e8 M.length ds then .ok (.lst ds) M else .ok d M'
    | _=>.ok d M'
   | _=>.ok d M')
 else .ok d M'
noncomputable def nU (M:MH) (c:Nat) (M':MH):R D:=if M'.take M.length=M then .exc c M else .exc c M'
structure j9 where
 fn:Nat->Option Fn
 glob:Nat->Option D
 turns:Nat
 sub:Nat->Nat->Bool
noncomputable def jy (Φ:bh) (f:Fn) (ds:List D) (M:MH):R D :=
 if decide (ds.length<=f.np)&&decide (f.np<=ds.length+f.jW.length) then
  match exs Φ f.body ((ds++f.jW.drop (ds.length+f.jW.length-f.np)).map some++List.replicate (f.ns-f.np) none) M with
  | .ok (.rt d) M'=>fM f.keep M d M'
  | .ok (.nx _) M'=>fM f.keep M .ao M'
  | .ok (.xc c _) M'=>nU M c M'
  | _=>.bad
 else .bad
noncomputable def af (P:j9):Nat->bh
 | 0=>⟨fun _ _ _=>.bad,fun _ _ _=>.bad,P.glob,P.turns,P.sub⟩
 | k+1=>⟨fun f ds M=>match P.fn f with
  | some fn=>jy (af P k) fn ds M
  | none=>.bad,(af P k).call,P.glob,P.turns,P.sub⟩
end Fg
end
section
set_option autoImplicit false
namespace Fg
open PySem PySem.Spec L2
noncomputable def EJ:Nat->List Obj->W.Frag
 | _,[]=>[]
 | n,o::os=>bif o.alive then (n,o)::EJ (n+1) os else EJ (n+1) os
theorem wH:∀ {os:List Obj} {n a:Nat} {o:Obj},(EJ n os).lookup a=some o->n<=a/\os[a-n]? = some o/\o.alive=true
 | [],_,_,_,h=>by cases h
 | x::os,n,a,o,h=>by
  have up:(EJ (n+1) os).lookup a=some o->n<=a/\(x::os)[a-n]? = some o/\o.alive=true:=fun h=>by
   obtain ⟨h1,h2,h3⟩:=wH h
   refine ⟨by omega,?_,h3⟩
   rw [show a-n=(a-(n+1))+1 by omega,List.getElem?_cons_succ]
   exact h2
  unfold EJ at h
  cases hx:x.alive with
  | false=>rw [hx] at h;exact up h
  | true =>
   rw [hx] at h
   replace h:((n,x)::EJ (n+1) os).lookup a=some o:=h
   rw [List.lookup_cons] at h
   cases e:a == n with
   | true =>
    rw [e] at h
    cases h
    have:=beq_iff_eq.mp e
    subst this
    exact ⟨Nat.le_refl _,by simp,hx⟩
   | false =>
    rw [e] at h
    exact up h
noncomputable def allOf (h:Heap):W.Frag:=EJ 0 h.objs.toList
theorem yN (h:Heap):(allOf h).In h:=fun a o e=>by
 obtain ⟨_,h1,h2⟩:=wH e
 rw [Nat.sub_zero,Array.getElem?_toList] at h1
 exact (Heap.get?_eq_some h a o).mpr ⟨h1,h2⟩
structure Row where
 x:Str
 ql:Str
 st:Stmt
 ps:List Str
 N:List Str
 i:Nat
 jW:Option Int:=none
structure Tb where
 fn:List Row
 cl:List Str
 mt:List (Nat×Row)
 xc:List Str
 cs:List (Str×Nat×Int)
 bl:List Str
 fl:List Str
 ct:List (Str×Nat×List Str):=[]
 cd:List (Str×Nat×List (Str×Int)):=[]
 o9:List Str:=[]
noncomputable def adr (K:W.Frag) (x:Str):Option Addr:=match W.nsIn K mainGlobals x with
 | some (some (.ref a))=>some a
 | _=>none
noncomputable def iE (K:W.Frag):Value->Option (Option Int)
 | .none=>some none
 | .ref T=>(match K.lookup T with
  | some ⟨_,_,.seq its _,_⟩=>(match its.toList with
   | [.int d _]=>some (some d)
   | _=>none)
  | _=>none)
 | _=>none
noncomputable abbrev yR:=Str×Str×Arguments×FuncBody×Scope×Addr×List (Str×Addr)×Addr×Option (Option Int)×Bool
noncomputable def oE (K:W.Frag) (f:Addr):Option yR:=match K.lookup f with
 | some ⟨_,_,.func fd,_⟩=>some (fd.name,fd.qualname,fd.params,fd.body,fd.scope,fd.globals,fd.closure,fd.builtins,iE K fd.defaults,W.codeIn K fd.code fd.qualname)
 | _=>none
noncomputable def Row.good (r:Row):yR:=(r.x,r.ql,gW r.st,.stmts (bP r.st),aC r.st,mainGlobals,[],builtinsNs,some r.jW,true)
noncomputable abbrev GQ:=Bool×Bool×Bool×Option (Option Value)×Bool×Bool×List (Option (Option Value))
noncomputable def mT (t:Tb) (K:W.Frag) (C:Addr):GQ:=(W.plainGet K C Str.empty, W.hasDictIn K C, W.plainOver K C, W.findIn K (.ref C) "__setattr__", W.makesIn K C, W.keepIn K (.ref C), t.fl.map (W.findIn K (.ref C)))
noncomputable def jm (t:Tb):GQ:=(true, true, true, some (some (.builtin "object.__setattr__")), true, true, t.fl.map fun _=>some none)
noncomputable def wN (t:Tb) (K:W.Frag) (r:Nat×Row):Option (yR×Bool):=((t.cl[r.1]?).bind (adr K)).bind fun C=>match W.findIn K (.ref C) r.2.x with
 | some (some (.ref f))=>(oE K f).map fun z=>(z,W.isFn K (.ref f))
 | _=>none
noncomputable abbrev Ko:=Bool×Option Bool×List (Option Bool)×List (Option (Option Value))×Option Bool×Option Bool×Bool×Option Bool×List (Option Bool)
noncomputable def BMV:List Value:=[.type "ValueError", .type "Exception", .type "BaseException", .type "object"]
noncomputable def xV (t:Tb) (K:W.Frag) (X:Addr):Ko:=(W.excIn K X BMV "ValueError.__new__", W.mroIn K X (.type "BaseException"), t.xc.map fun y=>(adr K y).bind fun Y=>W.mroIn K X (.ref Y),
 [W.findIn K (.ref X) "__getattribute__", W.findIn K (.ref X) "__getattr__", W.findIn K (.ref X) "__class__", W.specialIn K (.builtin "object.__class__") "__get__"], W.takesIn K (.builtin "object.__class__"), W.mroIn K X (.type "object"), (W.clsIn K X).isSome, W.kitOne K (.ref X) (.type "ValueError"), t.xc.map fun y=>(adr K y).bind fun Y=>W.kitOne K (.ref X) (.ref Y))
noncomputable def yq (K:W.Frag) (x:Str):Option Int:=match W.nsIn K mainGlobals x with
 | some (some (.int n _))=>some n
 | _=>none
noncomputable def strOf:Value->Option Str
 | .str x _=>some x
 | _=>none
noncomputable def intOf:Value->Option Int
 | .int n _=>some n
 | _=>none
noncomputable abbrev Kp:=Value×List (Option Str)
noncomputable def vh (K:W.Frag) (a:Addr):Option Kp:=match K.lookup a with
 | some ⟨c,_,.seq its _,_⟩=>some (c,its.toList.map strOf)
 | _=>none
noncomputable abbrev GP:=Value×Option Addr×Array (Option Value)×Bool×List (Int×Option Str×Option Int)
noncomputable def yo (K:W.Frag) (a:Addr):Option GP:=match K.lookup a with
 | some ⟨c,d,.dict es _,sl⟩=>some (c,d,sl,a == sysModules,es.toList.map fun e=>(e.hash,strOf e.key,intOf e.val))
 | _=>none
noncomputable def tF (w:World) (kvs:List (Str×Int)):GP:=(.type "dict", none, #[], false, kvs.map fun z=>(PyData.keyHash w.params z.1, some z.1, some z.2))
noncomputable abbrev GH:=List (Option yR)×List (Option GQ)×List (Option (yR×Bool))×List (Option Ko)×List (Option Int)×List (Option (Option Value))×List (Option Kp)×List (Option GP)
noncomputable def Tb.o7 (t:Tb) (K:W.Frag):GH:=(t.fn.map fun r=>(adr K r.x).bind (oE K),t.cl.map fun x=>(adr K x).map (mT t K),t.mt.map (wN t K),t.xc.zipIdx.map fun x=>(adr K x.1).map (xV t K),t.cs.map fun c=>yq K c.1,t.bl.map (W.nsIn K mainGlobals),t.ct.map fun c=>(adr K c.1).bind (vh K),t.cd.map fun c=>(adr K c.1).bind (yo K))
noncomputable def Tb.good (t:Tb) (P:j9) (w:World):GH:=(t.fn.map fun r=>some r.good, t.cl.map fun _=>some (jm t), t.mt.map fun r=>some (r.2.good, true), t.xc.zipIdx.map fun x=>some (true, some true, t.xc.zipIdx.map fun y=>some (P.sub x.2 y.2), [some (some (.builtin "BaseException.__getattribute__")), some none, some (some (.builtin "object.__class__")), some (some (.builtin "getset_descriptor.__get__"))], some true, some true, true, some true, t.xc.zipIdx.map fun y=>some (P.sub x.2 y.2)), t.cs.map fun c=>some c.2.2, t.bl.map fun _=>some none, t.ct.map fun c=>some (.type "tuple", c.2.2.map some), t.cd.map fun c=>some (tF w c.2.2))
noncomputable def Tb.hook (t:Tb) (P:j9):W.Hook:=⟨GH,fun s=>t.o7 (allOf s.heap),fun w=>t.good P w,fun w h=>∃ K:W.Frag,K.In h/\t.o7 K=t.good P w,fun _ s e=>⟨_,yN s.heap,e⟩,fun _ _ _ ⟨K,X,e⟩ k=>⟨K,X.keeps k,e⟩⟩
end Fg
end
section
namespace bO
open Fg
noncomputable def kh:List PySem.Str:=["part", "word"]
noncomputable def sG:Fn:=⟨1,2,[],false,
 (.cons (.set 1 (.idx (.v 0) (.k (.int 0))))
 (.cons (.ifs (.cmp .isin (.v 1) (.g 0)) (.cons (.ret (.sl true (.v 0) (.some (.k (.int 1))) .none))
 .nil) .nil)
 (.cons (.ifs (.cmp .isin (.v 1) (.tup (.cons (.k (.str "let")) (.cons (.k (.str "call")) .nil)))) (.cons (.ret (.sl true (.v 0) (.some (.k (.int 2))) .none))
 .nil) .nil)
 (.cons (.ret (.tup .nil))
 .nil))))⟩
noncomputable def dQ:List PySem.Str:=["program", "name", "function"]
noncomputable def cX:Fn:=⟨2,3,[],false,
 (.cons (.for [2] (.e (.v 0)) (.cons (.ifs (.cmp .eq (.idx (.v 2) (.k (.int 0))) (.v 1)) (.cons (.ret (.v 2))
 .nil) .nil)
 .nil))
 (.cons (.raise 1 (.cons (.v 1) .nil))
 .nil))⟩
noncomputable def i6:List PySem.Str:=["value"]
noncomputable def iB:Fn:=⟨1,1,[],false,
 (.cons (.ifs (.xx (.v 0) .tuple) (.cons (.ret (.idx (.v 0) (.k (.int 1))))
 .nil) .nil)
 (.cons (.ret (.k (.int 1)))
 .nil))⟩
noncomputable def i9:List PySem.Str:=["word", "first", "second", "size"]
noncomputable def fK:Fn:=⟨3,4,[],false,
 (.cons (.set 3 (.op .add true (.op .add true (.k (.int 1)) (.call 2 (.cons (.v 1) .nil))) (.call 2 (.cons (.v 2) .nil))))
 (.cons (.ifs (.cmp .gt (.v 3) (.g 1)) (.cons (.raise 2 (.cons (.v 0) (.cons (.v 3) .nil)))
 .nil) .nil)
 (.cons (.ret (.tup (.cons (.v 0) (.cons (.v 3) (.cons (.v 1) (.cons (.v 2) .nil))))))
 .nil)))⟩
noncomputable def dg:List PySem.Str:=["number"]
noncomputable def cO:Fn:=⟨1,1,[],false,
 (.cons (.ifs (.cmp .ge (.nc .abs (.v 0)) (.op .pow true (.k (.int 10)) (.k (.int 60)))) (.cons (.raise 2 .nil)
 .nil) .nil)
 .nil)⟩
noncomputable def iC:List PySem.Str:=["word", "first", "second", "number"]
noncomputable def gh:Fn:=⟨3,4,[],false,
 (.cons (.ifs (.cmp .eq (.v 0) (.k (.str "less"))) (.cons (.ret (.A7 (.cmp .lt (.v 1) (.v 2)) (.k (.int 1)) (.k (.int 0))))
 .nil) .nil)
 (.cons (.ifs (.cmp .eq (.v 0) (.k (.str "plus"))) (.cons (.set 3 (.op .add true (.v 1) (.v 2)))
 .nil) (.cons (.ifs (.cmp .eq (.v 0) (.k (.str "minus"))) (.cons (.set 3 (.op .sub true (.v 1) (.v 2)))
 .nil) (.cons (.set 3 (.op .mul true (.v 1) (.v 2)))
 .nil))
 .nil))
 (.cons (.ex (.call 4 (.cons (.v 3) .nil)))
 (.cons (.ret (.v 3))
 .nil))))⟩
noncomputable def gM:List PySem.Str:=["word", "value"]
noncomputable def fk:Fn:=⟨2,2,[],false,
 (.cons (.ifs (.cmp .ow (.v 1) (.k .ao)) (.cons (.raise 3 (.cons (.v 0) .nil))
 .nil) .nil)
 (.cons (.ifs (.cmp .isin (.v 0) (.tup (.cons (.k (.str "first")) (.cons (.k (.str "head")) .nil)))) (.cons (.ret (.idx (.v 1) (.k (.int 2))))
 .nil) .nil)
 (.cons (.ret (.idx (.v 1) (.k (.int 3))))
 .nil)))⟩
noncomputable def i8:List PySem.Str:=["word", "given"]
noncomputable def kT:Fn:=⟨2,2,[],false,
 (.cons (.ifs (.cmp .isin (.v 0) (.tup (.cons (.k (.str "plus")) (.cons (.k (.str "minus")) (.cons (.k (.str "times")) (.cons (.k (.str "less")) .nil)))))) (.cons (.ret (.call 5 (.cons (.v 0) (.cons (.idx (.v 1) (.k (.int 0))) (.cons (.idx (.v 1) (.k (.int 1))) .nil)))))
 .nil) .nil)
 (.cons (.ifs (.cmp .isin (.v 0) (.tup (.cons (.k (.str "pair")) (.cons (.k (.str "cons")) .nil)))) (.cons (.ret (.call 3 (.cons (.v 0) (.cons (.idx (.v 1) (.k (.int 0))) (.cons (.idx (.v 1) (.k (.int 1))) .nil)))))
 .nil) .nil)
 (.cons (.ifs (.cmp .eq (.v 0) (.k (.str "none"))) (.cons (.ret (.A7 (.cmp .ow (.idx (.v 1) (.k (.int 0))) (.k .ao)) (.k (.int 1)) (.k (.int 0))))
 .nil) .nil)
 (.cons (.ret (.call 6 (.cons (.v 0) (.cons (.idx (.v 1) (.k (.int 0))) .nil))))
 .nil))))⟩
noncomputable def mH:List PySem.Str:=["value", "members"]
noncomputable def xT:Fn:=⟨1,2,[],true,
 (.cons (.ifs (.xx (.v 0) .int) (.cons (.ret (.v 0))
 .nil) .nil)
 (.cons (.ifs (.and (.cmp .jF (.v 0) (.k .ao)) (.cmp .eq (.idx (.v 0) (.k (.int 0))) (.k (.str "pair")))) (.cons (.ret (.tup (.cons (.call 8 (.cons (.idx (.v 0) (.k (.int 2))) .nil)) (.cons (.call 8 (.cons (.idx (.v 0) (.k (.int 3))) .nil)) .nil))))
 .nil) .nil)
 (.cons (.set 1 (.lst false .nil))
 (.cons (.while (.cmp .jF (.v 0) (.k .ao)) (.cons (.ex (.bZ .append true (.v 1) (.cons (.call 8 (.cons (.idx (.v 0) (.k (.int 2))) .nil)) .nil)))
 (.cons (.set 0 (.idx (.v 0) (.k (.int 3))))
 .nil)))
 (.cons (.ret (.v 1))
 .nil)))))⟩
noncomputable def eE:List PySem.Str:=["begun", "under_way", "most"]
noncomputable def dP:Fn:=⟨3,3,[],false,
 (.cons (.ifs (.cmp .gt (.op .add true (.v 0) (.k (.int 1))) (.v 2)) (.cons (.raise 4 .nil)
 .nil) .nil)
 (.cons (.ifs (.cmp .gt (.op .add true (.v 1) (.k (.int 1))) (.g 2)) (.cons (.raise 5 (.cons (.g 2) .nil))
 .nil) .nil)
 .nil))⟩
noncomputable def gK:List PySem.Str:=["program", "numbers", "most", "run"]
noncomputable def fj:Fn:=⟨3,4,[],false,
 (.cons (.set 3 (.new 0 11 (.cons (.v 0) (.cons (.v 2) .nil))))
 (.cons (.ex (.cR 0 17 "put_off_body" (.v 3) (.cons (.k (.str "main")) (.cons (.v 1) .nil))))
 (.cons (.while (.cmp .ne (.fld (.v 3) "todo") (.lst true .nil)) (.cons (.ex (.cR 0 18 "do_next" (.v 3) .nil))
 .nil))
 (.cons (.ret (.call 8 (.cons (.bZ .pop true (.fld (.v 3) "waiting") .nil) .nil)))
 .nil))))⟩
noncomputable def cS:List PySem.Str:=["self", "program", "most"]
noncomputable def ck:Fn:=⟨3,3,[],false,
 (.cons (.d9 (.v 0) "program" (.v 1))
 (.cons (.d9 (.v 0) "most" (.v 2))
 (.cons (.d9 (.v 0) "begun" (.k (.int 0)))
 (.cons (.d9 (.v 0) "under_way" (.k (.int 0)))
 (.cons (.d9 (.v 0) "todo" (.lst false .nil))
 (.cons (.d9 (.v 0) "waiting" (.lst false .nil))
 .nil))))))⟩
noncomputable def dh:List PySem.Str:=["self", "step", "part", "names"]
noncomputable def cP:Fn:=⟨4,4,[],false,
 (.cons (.ex (.bZ .append true (.fld (.v 0) "todo") (.cons (.tup (.cons (.v 1) (.cons (.v 2) (.cons (.v 3) .nil)))) .nil)))
 .nil)⟩
noncomputable def eG:List PySem.Str:=["self", "part", "names", "word", "within"]
noncomputable def bf:Fn:=⟨3,5,[],false,
 (.cons (.set 3 (.idx (.v 1) (.k (.int 0))))
 (.cons (.ifs (.cmp .eq (.v 3) (.k (.str "number"))) (.cons (.ex (.bZ .append true (.fld (.v 0) "waiting") (.cons (.idx (.v 1) (.k (.int 1))) .nil)))
 .nil) (.cons (.ifs (.cmp .eq (.v 3) (.k (.str "name"))) (.cons (.ex (.bZ .append true (.fld (.v 0) "waiting") (.cons (.idx (.v 2) (.idx (.v 1) (.k (.int 1)))) .nil)))
 .nil) (.cons (.ifs (.cmp .eq (.v 3) (.k (.str "nil"))) (.cons (.ex (.bZ .append true (.fld (.v 0) "waiting") (.cons (.k .ao) .nil)))
 .nil) (.cons (.ifs (.cmp .isin (.v 3) (.tup (.cons (.k (.str "let")) (.cons (.k (.str "if")) .nil)))) (.cons (.ex (.cR 0 12 "put_off" (.v 0) (.cons (.k (.str "go on")) (.cons (.v 1) (.cons (.v 2) .nil)))))
 (.cons (.ex (.cR 0 12 "put_off" (.v 0) (.cons (.k (.str "begin")) (.cons (.idx (.call 0 (.cons (.v 1) .nil)) (.k (.int 0))) (.cons (.v 2) .nil)))))
 .nil)) (.cons (.ex (.cR 0 12 "put_off" (.v 0) (.cons (.k (.str "end")) (.cons (.v 1) (.cons (.v 2) .nil)))))
 (.cons (.for [4] (.rev (.call 0 (.cons (.v 1) .nil))) (.cons (.ex (.cR 0 12 "put_off" (.v 0) (.cons (.k (.str "begin")) (.cons (.v 4) (.cons (.v 2) .nil)))))
 .nil))
 .nil)))
 .nil))
 .nil))
 .nil))
 .nil))⟩
noncomputable def eF:List PySem.Str:=["self", "part", "names", "value", "known"]
noncomputable def dR:Fn:=⟨3,5,[],false,
 (.cons (.set 3 (.bZ .pop true (.fld (.v 0) "waiting") .nil))
 (.cons (.ifs (.cmp .eq (.idx (.v 1) (.k (.int 0))) (.k (.str "let"))) (.cons (.set 4 (.blt .dict false (.cons (.v 2) .nil)))
 (.cons (.pO (.v 4) (.idx (.v 1) (.k (.int 1))) (.v 3))
 (.cons (.ex (.cR 0 12 "put_off" (.v 0) (.cons (.k (.str "begin")) (.cons (.idx (.v 1) (.k (.int 3))) (.cons (.v 4) .nil)))))
 .nil))) (.cons (.ifs (.cmp .ne (.v 3) (.k (.int 0))) (.cons (.ex (.cR 0 12 "put_off" (.v 0) (.cons (.k (.str "begin")) (.cons (.idx (.v 1) (.k (.int 2))) (.cons (.v 2) .nil)))))
 .nil) (.cons (.ex (.cR 0 12 "put_off" (.v 0) (.cons (.k (.str "begin")) (.cons (.idx (.v 1) (.k (.int 3))) (.cons (.v 2) .nil)))))
 .nil))
 .nil))
 .nil))⟩
noncomputable def fq:List PySem.Str:=["self", "part", "given"]
noncomputable def fu:Fn:=⟨2,3,[],false,
 (.cons (.set 2 (.comp false [0] [1] (.bZ .pop true (.fld (.v 0) "waiting") .nil) (.e (.call 0 (.cons (.v 1) .nil))) .none))
 (.cons (.ex (.bZ .reverse true (.v 2) .nil))
 (.cons (.ifs (.cmp .eq (.idx (.v 1) (.k (.int 0))) (.k (.str "call"))) (.cons (.ex (.cR 0 16 "call" (.v 0) (.cons (.idx (.v 1) (.k (.int 1))) (.cons (.v 2) .nil))))
 .nil) (.cons (.ex (.bZ .append true (.fld (.v 0) "waiting") (.cons (.call 7 (.cons (.idx (.v 1) (.k (.int 0))) (.cons (.v 2) .nil))) .nil)))
 .nil))
 .nil)))⟩
noncomputable def eU:List PySem.Str:=["self", "name", "given"]
noncomputable def eN:Fn:=⟨3,3,[],false,
 (.cons (.ex (.call 9 (.cons (.fld (.v 0) "begun") (.cons (.fld (.v 0) "under_way") (.cons (.fld (.v 0) "most") .nil)))))
 (.cons (.d9 (.v 0) "begun" (.op .add false (.fld (.v 0) "begun") (.k (.int 1))))
 (.cons (.d9 (.v 0) "under_way" (.op .add false (.fld (.v 0) "under_way") (.k (.int 1))))
 (.cons (.ex (.cR 0 12 "put_off" (.v 0) (.cons (.k (.str "back")) (.cons (.k .ao) (.cons (.k .ao) .nil)))))
 (.cons (.ex (.cR 0 17 "put_off_body" (.v 0) (.cons (.v 1) (.cons (.v 2) .nil))))
 .nil)))))⟩
noncomputable def bV:List PySem.Str:=["self", "name", "given", "function", "takers"]
noncomputable def bw:Fn:=⟨3,5,[],false,
 (.cons (.set 3 (.call 1 (.cons (.fld (.v 0) "program") (.cons (.v 1) .nil))))
 (.cons (.set 4 (.comp true [] [0] (.idx (.v 0) (.k (.int 0))) (.e (.idx (.v 3) (.k (.int 1)))) .none))
 (.cons (.ex (.cR 0 12 "put_off" (.v 0) (.cons (.k (.str "begin")) (.cons (.idx (.v 3) (.k (.int 3))) (.cons (.dz (.v 4) (.v 2)) .nil)))))
 .nil)))⟩
noncomputable def dj:List PySem.Str:=["self", "doing"]
noncomputable def aQ:Fn:=⟨1,2,[],false,
 (.cons (.set 1 (.bZ .pop true (.fld (.v 0) "todo") .nil))
 (.cons (.ifs (.cmp .eq (.idx (.v 1) (.k (.int 0))) (.k (.str "begin"))) (.cons (.ex (.cR 0 13 "begin" (.v 0) (.cons (.idx (.v 1) (.k (.int 1))) (.cons (.idx (.v 1) (.k (.int 2))) .nil))))
 .nil) (.cons (.ifs (.cmp .eq (.idx (.v 1) (.k (.int 0))) (.k (.str "go on"))) (.cons (.ex (.cR 0 14 "go_on" (.v 0) (.cons (.idx (.v 1) (.k (.int 1))) (.cons (.idx (.v 1) (.k (.int 2))) .nil))))
 .nil) (.cons (.ifs (.cmp .eq (.idx (.v 1) (.k (.int 0))) (.k (.str "end"))) (.cons (.ex (.cR 0 15 "end" (.v 0) (.cons (.idx (.v 1) (.k (.int 1))) .nil)))
 .nil) (.cons (.d9 (.v 0) "under_way" (.op .sub false (.fld (.v 0) "under_way") (.k (.int 1))))
 .nil))
 .nil))
 .nil))
 .nil))⟩
noncomputable def gP:List PySem.Str:=["_law_cell"]
noncomputable def iN:Fn:=⟨1,1,[],false,
 (.cons (.ret (.op .mod true (.op .mul true (.op .mul true (.op .add true (.op .mod true (.v 0) (.k (.int 2147483647))) (.k (.int 11))) (.k (.int 48271))) (.k (.int 69621))) (.k (.int 2147483629))))
 .nil)⟩
noncomputable def gj:List PySem.Str:=["_law_cell", "_law_number_here"]
noncomputable def gO:Fn:=⟨1,2,[],false,
 (.cons (.set 1 (.op .mod true (.v 0) (.op .pow true (.k (.int 10)) (.k (.int 40)))))
 (.cons (.ret (.op .mul true (.op .mod true (.v 1) (.idx (.lst true (.cons (.k (.int 10)) (.cons (.op .pow true (.k (.int 10)) (.k (.int 9))) (.cons (.op .pow true (.k (.int 10)) (.k (.int 20))) (.cons (.op .pow true (.k (.int 10)) (.k (.int 30))) .nil))))) (.op .mod true (.op .fdiv true (.call 19 (.cons (.v 0) .nil)) (.k (.int 64))) (.k (.int 4))))) (.op .sub true (.k (.int 1)) (.op .mul true (.k (.int 2)) (.op .mod true (.op .fdiv true (.v 1) (.k (.int 3))) (.k (.int 2)))))))
 .nil))⟩
noncomputable def i7:List PySem.Str:=["_law_word", "_law_one", "_law_other", "_law_found"]
noncomputable def kR:Fn:=⟨3,4,[],false,
 (.cons (.ifs (.or (.cmp .ow (.v 1) (.k .ao)) (.cmp .ow (.v 2) (.k .ao))) (.cons (.ret (.k .ao))
 .nil) .nil)
 (.cons (.ifs (.cmp .eq (.v 0) (.k (.str "less"))) (.cons (.ret (.nc .int (.cmp .lt (.v 1) (.v 2))))
 .nil) .nil)
 (.cons (.set 3 (.idx (.lst true (.cons (.op .add true (.v 1) (.v 2)) (.cons (.op .sub true (.v 1) (.v 2)) (.cons (.op .mul true (.v 1) (.v 2)) .nil)))) (.A5 false (.lst true (.cons (.k (.str "plus")) (.cons (.k (.str "minus")) (.cons (.k (.str "times")) .nil)))) (.cons (.v 0) .nil))))
 (.cons (.ifs (.cmp .gt (.nc .abs (.v 3)) (.op .sub true (.op .pow true (.k (.int 10)) (.k (.int 60))) (.k (.int 1)))) (.cons (.ret (.k .ao))
 .nil) .nil)
 (.cons (.ret (.v 3))
 .nil)))))⟩
noncomputable def gQ:List PySem.Str:=["_law_cells", "_law_piled", "_law_cell", "_law_deed", "_law_rows", "_law_value", "_law_other", "_law_one", "_law_word"]
noncomputable def fm:Fn:=⟨1,9,[],false,
 (.cons (.set 1 (.lst false .nil))
 (.cons (.for [2] (.e (.v 0)) (.cons (.set 3 (.op .mod true (.call 19 (.cons (.v 2) .nil)) (.k (.int 16))))
 (.cons (.ifs (.and (.cmp .gt (.v 3) (.k (.int 13))) (.and (.cmp .gt (.blt .len true (.cons (.v 1) .nil)) (.k (.int 2))) (.cmp .lt (.AO (.comp true [] [0] (.idx (.v 0) (.k (.int 2))) (.e (.sl true (.v 1) (.some (.neg (.k (.int 3)))) .none)) .none)) (.k (.int 10))))) (.cons (.set 4 (.sl true (.v 1) (.some (.neg (.k (.int 3)))) .none))
 (.cons (.set 1 (.sl false (.v 1) .none (.some (.neg (.k (.int 3))))))
 (.cons (.set 5 (.k .ao))
 (.cons (.ifs (.cmp .jF (.idx (.idx (.v 4) (.k (.int 0))) (.k (.int 1))) (.k .ao)) (.cons (.set 5 (.idx (.idx (.v 4) (.op .add true (.k (.int 1)) (.nc .int (.cmp .eq (.idx (.idx (.v 4) (.k (.int 0))) (.k (.int 1))) (.k (.int 0)))))) (.k (.int 1))))
 .nil) .nil)
 (.cons (.ex (.bZ .append true (.v 1) (.cons (.tup (.cons (.tup (.cons (.k (.str "if")) (.cons (.idx (.idx (.v 4) (.k (.int 0))) (.k (.int 0))) (.cons (.idx (.idx (.v 4) (.k (.int 1))) (.k (.int 0))) (.cons (.idx (.idx (.v 4) (.k (.int 2))) (.k (.int 0))) .nil))))) (.cons (.v 5) (.cons (.op .add true (.k (.int 1)) (.AO (.comp true [] [0] (.idx (.v 0) (.k (.int 2))) (.e (.v 4)) .none))) .nil)))) .nil)))
 .nil))))) (.cons (.ifs (.and (.cmp .gt (.v 3) (.k (.int 5))) (.and (.cmp .gt (.blt .len true (.cons (.v 1) .nil)) (.k (.int 1))) (.cmp .lt (.mx true (.idx (.idx (.v 1) (.neg (.k (.int 1)))) (.k (.int 2))) (.idx (.idx (.v 1) (.neg (.k (.int 2)))) (.k (.int 2)))) (.k (.int 10))))) (.cons (.set 6 (.bZ .pop true (.v 1) .nil))
 (.cons (.set 7 (.bZ .pop true (.v 1) .nil))
 (.cons (.set 8 (.idx (.lst true (.cons (.k (.str "plus")) (.cons (.k (.str "minus")) (.cons (.k (.str "times")) (.cons (.k (.str "less")) .nil))))) (.op .mod true (.v 3) (.k (.int 4)))))
 (.cons (.set 5 (.call 21 (.cons (.v 8) (.cons (.idx (.v 7) (.k (.int 1))) (.cons (.idx (.v 6) (.k (.int 1))) .nil)))))
 (.cons (.ex (.bZ .append true (.v 1) (.cons (.tup (.cons (.tup (.cons (.v 8) (.cons (.idx (.v 7) (.k (.int 0))) (.cons (.idx (.v 6) (.k (.int 0))) .nil)))) (.cons (.v 5) (.cons (.op .add true (.k (.int 1)) (.mx true (.idx (.v 7) (.k (.int 2))) (.idx (.v 6) (.k (.int 2))))) .nil)))) .nil)))
 .nil))))) (.cons (.ex (.bZ .append true (.v 1) (.cons (.tup (.cons (.tup (.cons (.k (.str "number")) (.cons (.call 20 (.cons (.v 2) .nil)) .nil))) (.cons (.call 20 (.cons (.v 2) .nil)) (.cons (.k (.int 0)) .nil)))) .nil)))
 .nil))
 .nil))
 .nil)))
 (.cons (.ret (.idx (.op .add true (.v 1) (.lst true (.cons (.tup (.cons (.tup (.cons (.k (.str "number")) (.cons (.k (.int 7)) .nil))) (.cons (.k (.int 7)) (.cons (.k (.int 0)) .nil)))) .nil))) (.mx true (.k (.int 0)) (.op .sub true (.blt .len true (.cons (.v 1) .nil)) (.k (.int 1))))))
 .nil)))⟩
noncomputable def oJ:List PySem.Str:=["_law_script", "_law_part", "_law_value", "_law_program", "_law_found", "_law_kinds", "e"]
noncomputable def xU:Fn:=⟨1,7,[],false,
 (.cons (.zw [1,2] (.sl true (.call 22 (.cons (.sl true (.v 0) (.some (.k (.int 1))) (.some (.k (.int 51)))) .nil)) .none (.some (.k (.int 2)))))
 (.cons (.set 3 (.lst true (.cons (.tup (.cons (.k (.str "main")) (.cons (.lst true .nil) (.cons (.tup (.cons (.k (.str "num")) .nil)) (.cons (.v 1) .nil))))) .nil)))
 (.cons (.set 4 (.k .ao))
 (.cons (.set 5 (.lst true .nil))
 (.cons (.try (.cons (.set 4 (.iU 10 (.cons (.v 3) (.cons (.lst true .nil) .nil)) 200))
 .nil) (.as 0 6 (.cons (.set 5 (.lst true (.cons (.jL (.v 6) (some 2)) (.cons (.jL (.v 6) (some 3)) (.cons (.jL (.v 6) (some 4)) (.cons (.jL (.v 6) (some 5)) .nil))))))
 .nil) .nil) .nil)
 (.cons (.ifs (.cmp .ow (.v 2) (.k .ao)) (.cons (.ret (.cmp .eq (.v 5) (.lst true (.cons (.k (.bl true)) (.cons (.k (.bl false)) (.cons (.k (.bl false)) (.cons (.k (.bl false)) .nil)))))))
 .nil) .nil)
 (.cons (.ret (.and (.cmp .eq (.v 5) (.lst true .nil)) (.and (.xx (.v 4) .int) (.and (.not (.xx (.v 4) .bool)) (.cmp .eq (.v 4) (.v 2))))))
 .nil)))))))⟩
noncomputable def fns:List Fn:=[sG,cX,iB,fK,cO,gh,fk,kT,xT,dP,fj,ck,cP,bf,dR,fu,eN,bw,aQ,iN,gO,kR,fm,xU]
noncomputable def cst:List D:=[(.dct [(.inr "plus"), (.inr "minus"), (.inr "times"), (.inr "less"), (.inr "pair"), (.inr "first"), (.inr "second"), (.inr "cons"), (.inr "head"), (.inr "tail"), (.inr "none"), (.inr "if")] [(.int 2), (.int 2), (.int 2), (.int 2), (.int 2), (.int 1), (.int 1), (.int 2), (.int 1), (.int 1), (.int 1), (.int 3)]), (.int 1000), (.int 12)]
noncomputable def subs:List (Nat×Nat):=[(0,0),(1,0),(1,1),(2,0),(2,2),(3,0),(3,3),(4,0),(4,4),(5,0),(5,5)]
noncomputable def aq:j9:=⟨fun i=>fns[i]?,fun i=>cst[i]?,100000,fun a b=>subs.contains (a,b)⟩
end bO
end
section
set_option maxHeartbeats 0
namespace bO
open Fg PySem PySem.Spec L2
noncomputable abbrev G2:Program:=PySem.Challenge.pw_fieldgate_k11_plain_numbers
noncomputable def cz (i:Nat):Stmt:=G2.main.body.getD i (.Pass ⟨0,0,0,0⟩)
noncomputable def tb:Tb:=⟨[
 ⟨"inner", "inner", cz 9, ["part"], kh, 0, none⟩,
 ⟨"function_called", "function_called", cz 11, ["program", "name"], dQ, 1, none⟩,
 ⟨"size_of", "size_of", cz 15, ["value"], i6, 2, none⟩,
 ⟨"cell_of", "cell_of", cz 16, ["word", "first", "second"], i9, 3, none⟩,
 ⟨"want_few_figures", "want_few_figures", cz 17, ["number"], dg, 4, none⟩,
 ⟨"reckoned", "reckoned", cz 18, ["word", "first", "second"], iC, 5, none⟩,
 ⟨"looked_up", "looked_up", cz 19, ["word", "value"], gM, 6, none⟩,
 ⟨"come_of", "come_of", cz 20, ["word", "given"], i8, 7, none⟩,
 ⟨"told", "told", cz 21, ["value"], mH, 8, none⟩,
 ⟨"want_few_calls", "want_few_calls", cz 22, ["begun", "under_way", "most"], eE, 9, none⟩,
 ⟨"plain_run", "plain_run", cz 24, ["program", "numbers", "most"], gK, 10, some 200⟩,
 ⟨"_law_mixed", "_law_mixed", cz 26, ["_law_cell"], gP, 19, none⟩,
 ⟨"_law_number", "_law_number", cz 27, ["_law_cell"], gj, 20, none⟩,
 ⟨"_law_two", "_law_two", cz 28, ["_law_word", "_law_one", "_law_other"], i7, 21, none⟩,
 ⟨"_law_grown", "_law_grown", cz 29, ["_law_cells"], gQ, 22, none⟩,
 ⟨"law", "law", cz 30, ["_law_script"], oJ, 23, none⟩],
 ["PlainRun"],
 [(0, ⟨"__init__", "PlainRun.__init__", inClass (cz 23) 0, ["self", "program", "most"], cS, 11, none⟩),
 (0, ⟨"put_off", "PlainRun.put_off", inClass (cz 23) 1, ["self", "step", "part", "names"], dh, 12, none⟩),
 (0, ⟨"begin", "PlainRun.begin", inClass (cz 23) 2, ["self", "part", "names"], eG, 13, none⟩),
 (0, ⟨"go_on", "PlainRun.go_on", inClass (cz 23) 3, ["self", "part", "names"], eF, 14, none⟩),
 (0, ⟨"end", "PlainRun.end", inClass (cz 23) 4, ["self", "part"], fq, 15, none⟩),
 (0, ⟨"call", "PlainRun.call", inClass (cz 23) 5, ["self", "name", "given"], eU, 16, none⟩),
 (0, ⟨"put_off_body", "PlainRun.put_off_body", inClass (cz 23) 6, ["self", "name", "given"], bV, 17, none⟩),
 (0, ⟨"do_next", "PlainRun.do_next", inClass (cz 23) 7, ["self"], dj, 18, none⟩)],
 ["GateError", "NoName", "TooGreat", "Empty", "TooLong", "TooDeep"],
 [("MOST_SIZE", 1, 1000), ("MOST_UNDER_WAY", 2, 12)],
 ["len", "tuple", "dict", "int", "abs", "max", "isinstance", "bool", "zip", "reversed", "ValueError"],
 ["program", "most", "begun", "under_way", "todo", "waiting"],
 [],
 [("PARTS_BEHIND", 0, [("plus", 2), ("minus", 2), ("times", 2), ("less", 2), ("pair", 2), ("first", 1), ("second", 1), ("cons", 2), ("head", 1), ("tail", 1), ("none", 1), ("if", 3)])],
 []⟩
noncomputable def FO:Program:=W.view G2 [30]
noncomputable def hdL:List Str:=["GateError", "NoName", "TooGreat", "Empty", "TooLong", "TooDeep", "PARTS_BEHIND", "inner", "function_called", "MOST_SIZE", "MOST_UNDER_WAY", "size_of", "cell_of", "want_few_figures", "reckoned", "looked_up", "come_of", "told", "want_few_calls", "PlainRun", "plain_run", "_law_mixed", "_law_number", "_law_two", "_law_grown"]
noncomputable def hdX (s:Shared):Bool:=W.xlAt FO [] s&&W.recOk (W.RowW.records PySem.Challenge.rw_fieldgate_k11_plain_numbers.row.toRowW) s
noncomputable def lh (w:World) (b:Bool):=(W.fencedOpening treeTable G2 w 20000).map fun s₀=>(W.topFrom treeTable G2 (w.withFollow "special-get-raises" b) 20000 s₀).map fun s=>(W.openSeen FO hdL (importedModules G2.main.body) hdX true s, (tb.hook aq).obs s)
theorem lft0 (w:World):lh w false=some (some (W.openGood FO hdL, (tb.hook aq).val (w.withFollow "special-get-raises" false))):=by kernel_rfl
theorem lft1 (w:World):lh w true=some (some (W.openGood FO hdL, (tb.hook aq).val (w.withFollow "special-get-raises" true))):=by kernel_rfl
theorem lft:W.LeftO G2 FO hdL hdX (tb.hook aq).obs (tb.hook aq).val 20000:=W.LeftO.of_split "special-get-raises" fun w=>by
 obtain ⟨s₀,a,b⟩:=Option.map_eq_some_iff.mp (lft0 w)
 obtain ⟨s₁,c,d⟩:=Option.map_eq_some_iff.mp (lft1 w)
 rw [a] at c
 cases c
 rw [a,Option.map_some,b,d]
end bO
end
section
namespace L2
open PySem PySem.Spec PyProof.Rows
noncomputable abbrev Key:=Sum Int Str
noncomputable def jJ:Key->Value->Bool
 | .inl k,v=>Value.isInt k v
 | .inr x,v=>Value.isStrOf x v
noncomputable def keyH (w:World):Key->Int
 | .inl k=>hashInt k
 | .inr x=>hashStr w x
theorem aJ:∀ {k:Key} {v:Value},jJ k v=true->(∃ i t,k=Sum.inl i/\v=Value.int i t)\/(∃ x t,k=Sum.inr x/\v=Value.str x t)
 | .inl i,v,h=>by
  obtain ⟨t,e⟩:=Value.isInt_shape (k:=i) (v:=v) h
  exact .inl ⟨i,t,rfl,e⟩
 | .inr x,v,h=>by
  obtain ⟨t,e⟩:=Value.isStrOf_shape (x:=x) (v:=v) h
  exact .inr ⟨x,t,rfl,e⟩
theorem ux (i:Int) (t:Tok):jJ (.inl i) (.int i t)=true:=by simp [jJ,Value.isInt]
theorem iw (x:Str) (t:Tok):jJ (.inr x) (.str x t)=true:=by simp [jJ,Value.isStrOf]
theorem E3 (a b:Int):decide ((Sum.inl a:Key)=Sum.inl b)=(a == b):=by
 by_cases e:a=b
 ·subst e;simp
 ·have h:¬ (Sum.inl a:Key)=Sum.inl b:=fun q=>e (Sum.inl.inj q)
  rw [decide_eq_false h]
  exact (beq_eq_false_iff_ne.mpr e).symm
theorem E0 (a b:Str):decide ((Sum.inr a:Key)=Sum.inr b)=decide (a=b):=by
 by_cases e:a=b
 ·subst e;simp
 ·have h:¬ (Sum.inr a:Key)=Sum.inr b:=fun q=>e (Sum.inr.inj q)
  rw [decide_eq_false h,decide_eq_false e]
theorem E2 (a:Int) (b:Str):decide ((Sum.inl a:Key)=Sum.inr b)=false:=decide_eq_false (fun q=>nomatch q)
theorem E1 (a:Str) (b:Int):decide ((Sum.inr a:Key)=Sum.inl b)=false:=decide_eq_false (fun q=>nomatch q)
noncomputable def aG (prog:Program) (w:World):PySem.KeyKind prog w Key where
 is:=jJ
 hash:=keyH w
 inj:=fun v a b ha hb=>by
  rcases aJ ha with ⟨i,t,rfl,rfl⟩ | ⟨x,t,rfl,rfl⟩
  ·rcases aJ hb with ⟨j,u,rfl,e⟩ | ⟨y,u,rfl,e⟩
   ·injection e with e1 _;rw [e1]
   ·exact nomatch e
  ·rcases aJ hb with ⟨j,u,rfl,e⟩ | ⟨y,u,rfl,e⟩
   ·exact nomatch e
   ·injection e with e1 _;rw [e1]
 byValue:=fun k v h=>by
  rcases aJ h with ⟨i,t,rfl,rfl⟩ | ⟨x,t,rfl,rfl⟩ <;> rfl
 pyHash:=fun hv h=>by
  rcases aJ hv with ⟨i,t,rfl,rfl⟩ | ⟨x,t,rfl,rfl⟩
  ·exact wpAny_pyHash_int h
  ·exact wpAny_pyHash_str h
 eqBool:=fun hu hv h=>by
  rcases aJ hu with ⟨i,t,rfl,rfl⟩ | ⟨x,t,rfl,rfl⟩
  ·rcases aJ hv with ⟨j,u,rfl,rfl⟩ | ⟨y,u,rfl,rfl⟩
   ·rw [E3] at h;exact wpAny_eqBool_int h
   ·rw [E2] at h;exact SeqAt.EqAt.int_str i t y u _ _ _ _ h
  ·rcases aJ hv with ⟨j,u,rfl,rfl⟩ | ⟨y,u,rfl,rfl⟩
   ·rw [E1] at h;exact SeqAt.EqAt.str_int x t j u _ _ _ _ h
   ·rw [E0] at h;exact wpAny_eqBool_str h
 «strs»:=fun k x t v h=>by
  rcases aJ h with ⟨i,u,rfl,e⟩ | ⟨y,u,rfl,e⟩
  ·exact nomatch e
  ·injection e with e1 _
   subst e1
   cases v <;> rfl
theorem om (prog:Program) (w:World) (i:Int) (t:Tok):(aG prog w).is (.inl i) (.int i t)=true:=ux i t
theorem oj (prog:Program) (w:World) (x:Str) (t:Tok):(aG prog w).is (.inr x) (.str x t)=true:=iw x t
inductive V where
 | ao | bl (b:Bool) | int (i:Int) | str (x:Str) | uY (b:Array UInt8) | Lf (b:UInt64) | ref (a:Addr) | ty (n:String)
 deriving DecidableEq
noncomputable def RelV:V->Value->Prop
 | .ao,u=>u=Value.none
 | .bl b,u=>u=Value.bool b
 | .int i,u=>∃ t,u=Value.int i t
 | .str x,u=>∃ t,u=Value.str x t
 | .uY b,u=>∃ t,u=Value.bytes b t
 | .Lf b,u=>∃ t,u=Value.float b t
 | .ref a,u=>u=Value.ref a
 | .ty n,u=>u=Value.type n
noncomputable abbrev Vals:List V->List Value->Prop:=Paired RelV
theorem Vals.length {xs:List V} {us:List Value} (r:Vals xs us):xs.length=us.length:=Paired.length r
theorem Vals.get:∀ {xs:List V} {us:List Value} {i:Nat} {x:V},Vals xs us->xs[i]? = some x->∃ u,us[i]? = some u/\RelV x u
 | _,_,_,_,.nil,e=>by simp at e
 | _,_,0,_,.cons r _,e=>by simp at e;subst e;exact ⟨_,rfl,r⟩
 | _,_,i+1,x,.cons _ t,e=>by
  obtain ⟨u,h1,h2⟩:=Vals.get (i:=i) (x:=x) t (by simpa using e)
  exact ⟨u,by simpa using h1,h2⟩
theorem Vals.set {x:V} {u:Value} (r:RelV x u):∀ {xs:List V} {us:List Value} (i:Nat),Vals xs us->Vals (xs.set i x) (us.set i u)
 | _,_,_,.nil=>.nil
 | _,_,0,.cons _ t=>.cons r t
 | _,_,i+1,.cons q t=>.cons q (Vals.set r i t)
theorem Vals.append:∀ {xs ys:List V} {us ws:List Value},Vals xs us->Vals ys ws->Vals (xs++ys) (us++ws)
 | _,_,_,_,.nil,s=>s
 | _,_,_,_,.cons r t,s=>.cons r (Vals.append t s)
theorem Vals.take:∀ {xs:List V} {us:List Value} (n:Nat),Vals xs us->Vals (xs.take n) (us.take n)
 | _,_,0,_=>.nil
 | _,_,_+1,.nil=>.nil
 | _,_,n+1,.cons r t=>.cons r (Vals.take n t)
theorem Vals.drop:∀ {xs:List V} {us:List Value} (n:Nat),Vals xs us->Vals (xs.drop n) (us.drop n)
 | _,_,0,r=>r
 | _,_,_+1,.nil=>.nil
 | _,_,n+1,.cons _ t=>Vals.drop n t
noncomputable def gu:Option V->Option Value->Prop
 | some v,some u=>RelV v u
 | none,none=>True
 | _,_=>False
noncomputable def KV {κ:Type}:List (κ×V)->List (κ×Value)->Prop:=Paired fun (p:κ×V) (q:κ×Value)=>p.1=q.1/\RelV p.2 q.2
noncomputable def kV:Key->V
 | .inl i=>.int i
 | .inr x=>.str x
inductive HO where
 | lst (xs:List V)
 | tup (xs:List V)
 | dK (kvs:List (Key×V)) | dT (kvs:List (List Key×V))
 | set (S:Int->Bool) (n:Nat)
 | ins (C dx:Addr) (fs:List (Str×V))
 | own (x:Addr)
 | xd (fs:List (Str×V))
 | met (f x:Addr)
 | Cf (lo hi:Int)
 | fJ (o:Obj) (u:HO)
 | B3 (ps:Array Value)
 | ext (φ:Heap->Prop)
noncomputable abbrev Hp:=Addr->Option HO
noncomputable def upd (H:Hp) (a:Addr) (o:HO):Hp:=fun b=>if b=a then some o else H b
theorem ay {H:Hp} {a:Addr} {o:HO}:upd H a o a=some o:=by unfold upd;rw [if_pos rfl]
theorem aj {H:Hp} {a b:Addr} {o:HO} (h:b≠a):upd H a o b=H b:=by unfold upd;rw [if_neg h]
theorem IZ {H:Hp} {a b:Addr} {o u:HO} (h:H a=some o) (h':H b=some u) (d:o≠u):a≠b:=by
 intro e;subst e;rw [h] at h';exact d (Option.some.inj h')
theorem cK {H:Hp} {a b:Addr} {o:HO} (h:H a=some o) (h':H b=none):a≠b:=by
 intro e;subst e;rw [h] at h';cases h'
section
variable (P:Program) (w:World)
noncomputable def aP (H:Hp) (h:Heap) (a:Addr):HO->Prop
 | .lst xs=>xs.length<=sizeLine/\∃ (its:List Value) (n:Nat), Vals xs its/\h.get? a=some { cls:=.type "list", data:=.seq its.toArray n }
 | .tup xs=>xs.length<=sizeLine/\∃ its:List Value,Vals xs its/\IsTup h a its.toArray
 | .dK kvs=>kvs.length<=sizeLine/\(a == sysModules)=false/\∃ vs,KV kvs vs/\h.DictOf (aG P w) a vs
 | .dT kvs=>kvs.length<=sizeLine/\(a == sysModules)=false/\∃ xs:List (List Key×Addr×Value),
   Paired (fun (p:List Key×V) (q:List Key×Addr×Value)=>p.1=q.1/\H q.2.1=some (.tup (p.1.map kV))/\RelV p.2 q.2.2) kvs xs /\
   ∃ o es ep,h.get? a=some o/\o.ExactDict/\o.data=.dict es ep/\es.toList=xs.map (entryOfKey (tupleKind (aG P w)))/\(xs.map (·.1)).Nodup
 | .set S n=>h.SetOf (intKind P w) a S n
 | .ins C dx fs=>H dx=some (.own a)/\fs.length<=1000/\dx≠a/\h.get? a=some (PySem.W.instObj C dx) /\
   ∃ mA,h.Ns1 dx mA/\(∀ f,gu (fs.lookup f) (mA f))/\PySem.Within mA (fs.map (·.1))
 | .own _=>∃ o,h.get? a=some o
 | .xd fs=>∃ mA,h.Ns1 a mA/\∀ f,gu (fs.lookup f) (mA f)
 | .Cf lo hi=>∃ t u v, h.get? a=some { cls:=.type "range", data:=.fields #[.int lo t, .int hi u, .int 1 v] }
 | .fJ o u=>h.get? a=some o/\aP H h a u
 | .B3 ps=>h.get? a=some { cls:=.none,data:=.fields ps }
 | .met f x=>h.get? a=some (PySem.W.methodObj (.ref f) (.ref x))
 | .ext φ=>φ h/\(∃ o,h.get? a=some o)/\∀ h1 h2:Heap,φ h1->(∀ o,h1.get? a=some o->h2.get? a=some o)->φ h2
noncomputable def fR (H:Hp) (h:Heap):Prop:=∀ a o,H a=some o->aP P w H h a o
end
section
variable {P:Program} {w:World} {H H':Hp} {h h':Heap} {a:Addr} {o:HO}
theorem aP.lt (x:aP P w H h a o):a<h.objs.size:=by
 cases o with
 | lst xs=>obtain ⟨_,_,_,_,e⟩:=x;exact Heap.lt_size e
 | tup xs=>obtain ⟨_,_,_,p⟩:=x;exact p.lt
 | dK kvs=>obtain ⟨_,_,_,_,o,_,_,e,_⟩:=x;exact Heap.lt_size e
 | dT kvs=>obtain ⟨_,_,_,_,o,_,_,e,_⟩:=x;exact Heap.lt_size e
 | set S n=>obtain ⟨o,_,_,_,e,_⟩:=x;exact Heap.lt_size e
 | ins C dx fs=>obtain ⟨_,_,_,e,_⟩:=x;exact Heap.lt_size e
 | own y=>obtain ⟨_,e⟩:=x;exact Heap.lt_size e
 | xd fs=>obtain ⟨_,⟨_,_,_,e,_⟩,_⟩:=x;exact Heap.lt_size e
 | Cf lo hi=>obtain ⟨_,_,_,e⟩:=x;exact Heap.lt_size e
 | fJ ob u=>obtain ⟨e,_⟩:=x;exact Heap.lt_size e
 | B3 ps=>exact Heap.lt_size (show h.get? a=some _ from x)
 | met f y=>exact Heap.lt_size (show h.get? a=some _ from x)
 | ext φ=>obtain ⟨_,⟨_,e⟩,_⟩:=x;exact Heap.lt_size e
theorem Paired.ER {α β:Type} {F G:α->β->Prop}:∀ {l₁:List α} {l₂:List β},Paired F l₁ l₂->(∀ a b,F a b->G a b)->Paired G l₁ l₂
 | _,_,.nil,_=>.nil
 | _,_,.cons r t,f=>.cons (f _ _ r) (Paired.ER t f)
theorem aP.stay (x:aP P w H h a o) (k:∀ b u,(b=a\/H b=some (.own a))->h.get? b=some u->h'.get? b=some u)
  (ho:∀ b,H b=some (.own a)->H' b=some (.own a)) (ht:∀ b xs,H b=some (.tup xs)->H' b=some (.tup xs)):aP P w H' h' a o:=by
 induction o with
 | lst xs=>obtain ⟨z,its,n,r,e⟩:=x;exact ⟨z,its,n,r,k _ _ (.inl rfl) e⟩
 | tup xs=>obtain ⟨z,its,r,ob,e,c⟩:=x;exact ⟨z,its,r,ob,k _ _ (.inl rfl) e,c⟩
 | dK kvs=>obtain ⟨z,y,vs,r,ob,es,ep,e,c⟩:=x;exact ⟨z,y,vs,r,ob,es,ep,k _ _ (.inl rfl) e,c⟩
 | dT kvs =>
  obtain ⟨z,y,xs,r,ob,es,ep,e,c⟩:=x
  exact ⟨z,y,xs,Paired.ER r fun p q z=>⟨z.1,ht _ _ z.2.1,z.2.2⟩,ob,es,ep,k _ _ (.inl rfl) e,c⟩
 | set S n=>obtain ⟨ob,es,ep,t,e,c⟩:=x;exact ⟨ob,es,ep,t,k _ _ (.inl rfl) e,c⟩
 | ins C dx fs =>
  obtain ⟨d,z,ne,e,mA,⟨od,es,ep,e2,c⟩,r⟩:=x
  exact ⟨ho _ d,z,ne,k _ _ (.inl rfl) e,mA,⟨od,es,ep,k _ _ (.inr d) e2,c⟩,r⟩
 | own y=>obtain ⟨ob,e⟩:=x;exact ⟨ob,k _ _ (.inl rfl) e⟩
 | xd fs=>obtain ⟨mA,⟨od,es,ep,e,c⟩,r⟩:=x;exact ⟨mA,⟨od,es,ep,k _ _ (.inl rfl) e,c⟩,r⟩
 | Cf lo hi=>obtain ⟨t,u,v,e⟩:=x;exact ⟨t,u,v,k _ _ (.inl rfl) e⟩
 | fJ ob u ih=>obtain ⟨e,q⟩:=x;exact ⟨k _ _ (.inl rfl) e,ih q⟩
 | B3 ps =>
  have e:h.get? a=some { cls:=.none,data:=.fields ps }:=x
  show h'.get? a=some { cls:=.none,data:=.fields ps }
  exact k a _ (.inl rfl) e
 | met f y =>
  have e:h.get? a=some (PySem.W.methodObj (.ref f) (.ref y)):=x
  show h'.get? a=some (PySem.W.methodObj (.ref f) (.ref y))
  exact k a _ (.inl rfl) e
 | ext φ=>obtain ⟨p,⟨o,e⟩,st⟩:=x;exact ⟨st _ _ p fun o q=>k _ _ (.inl rfl) q,⟨o,k _ _ (.inl rfl) e⟩,st⟩
theorem fR.lt (x:fR P w H h) (e:H a=some o):a<h.objs.size:=(x a o e).lt
theorem fR.fresh (x:fR P w H h) (e:h.objs.size<=a):H a=none:=by
 cases q:H a with
 | none=>rfl
 | some u=>exact absurd (Nat.lt_of_lt_of_le (x.lt q) e) (Nat.lt_irrefl _)
theorem fR.kept (x:fR P w H h) (k:∀ b u,h.get? b=some u->h'.get? b=some u):fR P w H h':=fun a o e =>
 (x a o e).stay (fun b u _ q=>k b u q) (fun _ q=>q) fun _ _ q=>q
theorem fR.laid (x:fR P w H h) (k:∀ b u,h.get? b=some u->h'.get? b=some u) (hp:h.objs.size<=a) (new:aP P w (upd H a o) h' a o):fR P w (upd H a o) h':=fun b u e=>by
 have hn:=x.fresh hp
 by_cases hb:b=a
 ·subst hb;rw [ay] at e;cases e;exact new
 ·rw [aj hb] at e
  exact (x b u e).stay (fun c v _ q=>k c v q) (fun c q=>by rw [aj (cK q hn)];exact q) fun c xs q=>by rw [aj (cK q hn)];exact q
end
noncomputable def Rd (H:Hp) (a:Addr) (u:HO):Prop:=H a=some u\/∃ o,H a=some (.fJ o u)
theorem Rd.ok {P:Program} {w:World} {H:Hp} {h:Heap} {a:Addr} {u:HO} (r:Rd H a u) (x:fR P w H h):aP P w H h a u:=by
 rcases r with r | ⟨o,r⟩
 ·exact x a u r
 ·obtain ⟨_,q⟩:=x a _ r
  exact q
noncomputable def Kw:Option HO->Prop
 | some (.lst _)=>True
 | some (.dK _)=>True
 | some (.dT _)=>True
 | some (.set _ _)=>True
 | some (.ins _ _ _)=>True
 | some (.ext _)=>True
 | _=>False
section
variable {P:Program} {w:World} {H:Hp} {h h':Heap} {x e:Addr} {o':HO}
theorem fR.write (ok:fR P w H h) (mu:Kw (H x)) (he:e=x\/H e=some (.own x)) (k:∀ b u,b≠e->h.get? b=some u->h'.get? b=some u) (A9:∃ u,h'.get? e=some u)
  (new:aP P w (upd H x o') h' x o'):fR P w (upd H x o') h':=fun b u q=>by
 have IU:∀ c y,H c=some (.own y)->c≠x:=fun c y r z=>by subst z;rw [r] at mu;exact mu
 have ntup:∀ c xs,H c=some (.tup xs)->c≠x:=fun c xs r z=>by subst z;rw [r] at mu;exact mu
 by_cases hb:b=x
 ·subst hb;rw [ay] at q;cases q;exact new
 ·rw [aj hb] at q
  by_cases FP:b=e
  ·have q':H b=some (.own x):=by
    rcases he with z | z
    ·exact absurd (FP.trans z) hb
    ·rw [FP];exact z
   rw [q] at q';cases q'
   obtain ⟨v,hv⟩:=A9
   exact ⟨v,by rw [FP];exact hv⟩
  ·refine (ok b u q).stay (fun c v hc r=>k c v ?_ r) (fun c r=>by rw [aj (IU c b r)];exact r) fun c xs r=>by rw [aj (ntup c xs r)];exact r
   rcases hc with rfl | hc
   ·exact FP
   ·rintro rfl
    rcases he with z | z
    ·exact IU c b hc z
    ·rw [hc] at z;cases z;exact hb rfl
end
structure Un (fs ex:List Addr) (H H':Hp) (h h':Heap):Prop where
 keep:∀ b o,h.get? b=some o->H b=none->b∉fs->b∉ex->h'.get? b=some o
 slot:∀ b o,h.get? b=some o->H b=none->b∈fs->b∉ex->∃ sl,h'.get? b=some { o with slots:=sl }
 free:∀ b o,h.get? b=some o->H b=none->b∉ex->H' b=none
 there:∀ b o,h.get? b=some o->b∉ex->∃ o',h'.get? b=some o'
 tups:∀ b xs,H b=some (.tup xs)->H' b=some (.tup xs)
 eT:∀ b o u,H b=some (.fJ o u)->H' b=some (.fJ o u)
 fL:∀ b ps,H b=some (.B3 ps)->∃ more,H' b=some (.B3 (ps++more))
section
variable {fs fs' ex ex':List Addr} {H H1 H2:Hp} {h h1 h2 h':Heap} {a x e:Addr} {o:HO}
theorem Un.any (u:Un fs ex H H1 h h1) {b:Addr} {ob:Obj} (q:h.get? b=some ob) (n:H b=none) (hx:b∉ex):∃ sl,h1.get? b=some { ob with slots:=sl }:=by
 by_cases hb:b∈fs
 ·exact u.slot b ob q n hb hx
 ·exact ⟨ob.slots,u.keep b ob q n hb hx⟩
theorem Un.trans (a:Un fs ex H H1 h h1) (b:Un fs ex H1 H2 h1 h2):Un fs ex H H2 h h2 where
 keep:=fun c ob q n hc hx=>b.keep c ob (a.keep c ob q n hc hx) (a.free c ob q n hx) hc hx
 slot:=fun c ob q n hc hx=>by
  obtain ⟨sl,e1⟩:=a.slot c ob q n hc hx
  obtain ⟨Cb,e2⟩:=b.slot c _ e1 (a.free c ob q n hx) hc hx
  exact ⟨Cb,e2⟩
 free:=fun c ob q n hx=>by
  obtain ⟨o',e1⟩:=a.there c ob q hx
  exact b.free c o' e1 (a.free c ob q n hx) hx
 there:=fun c ob q hx=>by
  obtain ⟨o',e1⟩:=a.there c ob q hx
  exact b.there c o' e1 hx
 tups:=fun c xs q=>b.tups c xs (a.tups c xs q)
 eT:=fun c ob xs q=>b.eT c ob xs (a.eT c ob xs q)
 fL:=fun c ps q=>by
  obtain ⟨m1,e1⟩:=a.fL c ps q
  obtain ⟨m2,e2⟩:=b.fL c _ e1
  exact ⟨m1++m2,by rw [e2,Array.append_assoc]⟩
theorem Un.kept (k:∀ b u,h.get? b=some u->h'.get? b=some u):Un fs ex H H h h' :=
 ⟨fun b ob q _ _ _=>k b ob q,fun b ob q _ _ _=>⟨ob.slots,k b ob q⟩,fun _ _ _ n _=>n,fun b ob q _=>⟨ob,k b ob q⟩,fun _ _ q=>q,fun _ _ _ q=>q,fun _ ps q=>⟨#[],by rw [q];simp⟩⟩
theorem Un.refl:Un fs ex H H h h:=Un.kept fun _ _ q=>q
theorem Un.laid (k:∀ b u,h.get? b=some u->h'.get? b=some u) (hp:h.objs.size<=a) (hn:H a=none):Un fs ex H (upd H a o) h h' where
 keep:=fun b u q _ _ _=>k b u q
 slot:=fun b u q _ _ _=>⟨u.slots,k b u q⟩
 free:=fun b u q n _=>by rw [aj (Nat.ne_of_lt (Nat.lt_of_lt_of_le (Heap.lt_size q) hp))];exact n
 there:=fun b u q _=>⟨u,k b u q⟩
 tups:=fun b xs q=>by rw [aj (cK q hn)];exact q
 eT:=fun b u xs q=>by rw [aj (cK q hn)];exact q
 fL:=fun b ps q=>⟨#[],by rw [aj (cK q hn),q];simp⟩
theorem Un.write (mu:Kw (H x)) (he:e=x\/H e=some (.own x)) (k:∀ b u,b≠e->h.get? b=some u->h'.get? b=some u) (A9:∃ u,h'.get? e=some u):Un fs ex H (upd H x o) h h':=by
 have hx:∀ b,H b=none->b≠x:=fun b n z=>by subst z;rw [n] at mu;exact mu
 have hb:∀ b,H b=none->b≠e:=fun b n z=>by
  subst z
  rcases he with r | r
  ·exact hx b n r
  ·rw [n] at r;cases r
 have hm:∀ b u,H b=some u->¬ Kw (some u)->b≠x:=fun b u q nm z=>by subst z;rw [q] at mu;exact nm mu
 refine ⟨fun b u q n _ _=>k b u (hb b n) q,fun b u q n _ _=>⟨u.slots,k b u (hb b n) q⟩,fun b u q n _=>by rw [aj (hx b n)];exact n,fun b u q _=>?_,
  fun b xs q=>by rw [aj (hm b _ q fun z=>z)];exact q,fun b u xs q=>by rw [aj (hm b _ q fun z=>z)];exact q,fun b ps q=>⟨#[],by rw [aj (hm b _ q fun z=>z),q];simp⟩⟩
 by_cases FP:b=e
 ·subst FP;exact A9
 ·exact ⟨u,k b u FP q⟩
end
noncomputable def KL (h:Heap) (H:Hp):List Addr:=(List.range h.objs.size).filter fun a=>(H a).isSome
noncomputable def mq (h:Heap) (H:Hp):Heap:=PySem.W.hideAll h (KL h H)
theorem uD (h:Heap) (H:Hp):(mq h H).objs.size=h.objs.size:=PySem.W.hideAll_size _ _
theorem xJ {h:Heap} {H:Hp} {b:Addr} {o:Obj} (e:h.get? b=some o) (n:H b=none):(mq h H).get? b=some o :=
 PySem.W.hideAll_get _ e fun hm=>by
  have q:(H b).isSome=true:=(List.mem_filter.mp hm).2
  rw [n] at q;simp at q
theorem AK {h:Heap} {H:Hp} {b:Addr} {o:Obj} (e:(mq h H).get? b=some o):h.get? b=some o/\H b=none:=by
 have e':h.get? b=some o:=PySem.W.of_hideAll (KL h H) e
 refine ⟨e',?_⟩
 cases q:H b with
 | none=>rfl
 | some x =>
  have hm:b∈KL h H:=List.mem_filter.mpr ⟨List.mem_range.mpr (Heap.lt_size e'),by simp [q]⟩
  have z:(mq h H).get? b=none:=PySem.W.hideAll_none (KL h H) hm
  rw [z] at e;cases e
noncomputable def BL (g h:Heap) (L:Addr):List (Addr×Obj):=(List.range h.objs.size).filterMap fun a=>if a=L\/(g.get? a).isSome=true then none else (h.get? a).map fun o=>(a,o)
noncomputable def rest (g h:Heap) (L d:Addr):List (Addr×Obj):=(BL g h L).filter fun p=>decide (p.1≠d)
structure Mod (K:PySem.W.Frag) (mg:Str->Option Value) (base:Heap):Prop where
 AY:K.In base
 glob:base.Ns mainGlobals mg
 blt:∃ mb, base.Ns builtinsNs mb/\∀ x:Str, x≠"__name__"->mb x=bootBuiltins x
 nolimit:base.NoLimit
structure Cx where
 prog:Program
 w:World
 K:PySem.W.Frag
 mg:Str->Option Value
 base:Heap
 A:Around
 N:List Str
 s₀:Shared
 H₀:Hp
 env:Env
 outer:List Env
 stack:List Env
 ex:List Addr
 fn:Str->Bool
 calm:Bool
 pn:List (Addr×Obj)
 xe:Value->Shared->Prop
noncomputable def frs (l:List Env):List Addr:=l.filterMap (·.frame)
noncomputable abbrev Cx.fs (X:Cx):List Addr:=frs X.outer
noncomputable def Lx (sc:Scope) (x:Str):Prop:=sc.names.lookup x=some .local\/sc.names.lookup x=some .cell\/sc.names.lookup x=some .free
noncomputable def Loc (sc:Scope) (x:Str):Prop:=sc.names.lookup x=some .local\/sc.names.lookup x=some .cell
noncomputable def Look (env:Env) (h:Heap) (m:Str->Option Value) (x:Str) (u:Value):Prop :=
 (env.kindOf x=some .local/\m x=some u)\/((env.kindOf x=some .cell\/env.kindOf x=some .free)/\∃ c,env.cells.lookup x=some c/\h.IsCell c (some u))
structure Cx.Ok (X:Cx):Prop where
 mod:Mod X.K X.mg X.base
 kind:X.env.scope.kind=.function
 glob:X.env.globals=mainGlobals
 blt:X.env.builtins=builtinsNs
 above:X.s₀.heap.objs.size<=X.env.locals
 inj:∀ x y c,X.env.cells.lookup x=some c->X.env.cells.lookup y=some c->x=y
 has:∀ x,(X.env.kindOf x=some .cell\/X.env.kindOf x=some .free)->∃ c,X.env.cells.lookup x=some c
 CY:∀ x c,X.fn x=true->X.env.cells.lookup x=some c->X.s₀.heap.objs.size<=c
 hd:X.calm=true->X.A.handled=none
 frames:X.A.frames=some X.stack
 stk:X.stack=X.outer\/(X.stack=X.env::X.outer/\X.env.frame=some X.env.locals)
 JF:∀ b∈X.ex,b≠X.env.locals/\∀ x c,X.env.cells.lookup x=some c->c≠b
 bs:∀ b o,X.base.get? b=some o->X.s₀.heap.get? b=some o/\X.H₀ b=none
 uP:X.base.objs.size<=X.s₀.heap.objs.size
 n8:∀ b o,X.base.get? b=some o->b∉X.ex
 qx:∀ b∈X.ex,b∉X.fs
 fN:X.s₀.heap.FunFrames X.base X.outer
 xP:∀ b∈X.fs,X.H₀ b=none
structure Inv (X:Cx) (pins:List (Addr×Obj)) (σ:List (Option V)) (H:Hp) (s:Shared):Prop where
 ok:X.Ok
 os:s.os=X.s₀.os
 bare:AllBare s.gens
 base:Un X.fs X.ex X.H₀ H X.s₀.heap s.heap
 loc:∃ m,s.heap.Ns X.env.locals m/\∀ (i:Nat) (x:Str) (v:V),X.N[i]? = some x->σ[i]? = some (some v)->Lx X.env.scope x->∃ u,RelV v u/\Look X.env s.heap m x u
 cell:∀ x c,X.env.cells.lookup x=some c->∃ v,s.heap.IsCell c v
 free:H X.env.locals=none
 bF:∀ x c,X.env.cells.lookup x=some c->H c=none
 pin:∀ p∈X.pn++pins,s.heap.get? p.1=some p.2/\H p.1=none/\p.1≠X.env.locals/\p.1∉X.fs/\∀ v,p.2.data≠.cell v
 hok:fR X.prog X.w H s.heap
 len:σ.length=X.N.length
section
variable {X:Cx} {pins:List (Addr×Obj)} {σ:List (Option V)} {H H':Hp} {s:Shared} {h':Heap}
theorem Cx.Ok.nofr (ok:X.Ok) {b:Addr} {o:Obj} (e:X.base.get? b=some o):b∉X.fs:=fun hb=>by
 have:=(ok.fN.mem hb).1
 rw [e] at this;cases this
theorem Inv.bs (I:Inv X pins σ H s):∀ b o,X.base.get? b=some o->s.heap.get? b=some o/\H b=none:=fun b o e =>
 ⟨I.base.keep b o (I.ok.bs b o e).1 (I.ok.bs b o e).2 (I.ok.nofr e) (I.ok.n8 b o e),I.base.free b o (I.ok.bs b o e).1 (I.ok.bs b o e).2 (I.ok.n8 b o e)⟩
theorem Inv.bk (I:Inv X pins σ H s):∀ b o,X.base.get? b=some o->s.heap.get? b=some o:=fun b o e=>(I.bs b o e).1
theorem Inv.mod (I:Inv X pins σ H s):Mod X.K X.mg X.base:=I.ok.mod
theorem Inv.fH (I:Inv X pins σ H s):X.K.In s.heap:=I.ok.mod.AY.keeps I.bk
theorem Inv.lt (I:Inv X pins σ H s):X.env.locals<s.heap.objs.size:=let ⟨_,hn,_⟩:=I.loc;hn.lt
theorem Inv.sz (I:Inv X pins σ H s):X.s₀.heap.objs.size<=s.heap.objs.size:=Nat.le_trans I.ok.above (Nat.le_of_lt I.lt)
theorem Inv.IV (I:Inv X pins σ H s) {a:Addr} (h:s.heap.objs.size<=a):a∉X.fs:=fun hb=>by
 obtain ⟨_,o,ho,_⟩:=I.ok.fN.mem hb
 exact absurd (Nat.lt_of_lt_of_le (Heap.lt_size ho) (Nat.le_trans I.sz h)) (Nat.lt_irrefl _)
theorem Inv.yt (I:Inv X pins σ H s):∀ x c,X.env.cells.lookup x=some c->c≠X.env.locals:=fun x c e z=>by
 obtain ⟨v,o,ho,hd⟩:=I.cell x c e
 obtain ⟨m,⟨o',es,ep,ho',hd',_⟩,_⟩:=I.loc
 rw [z,ho'] at ho;cases ho;rw [hd'] at hd;cases hd
theorem Inv.fN (I:Inv X pins σ H s):s.heap.FunFrames X.base X.outer:=by
 have all:∀ (l:List Env),(∀ b∈frs l,b∈X.fs)->X.s₀.heap.FunFrames X.base l->s.heap.FunFrames X.base l:=by
  intro l
  induction l with
  | nil=>intro _ _;trivial
  | cons env r ih =>
   intro hs hl
   obtain ⟨hk,⟨L,o,hf,hn,ho,hd⟩,hr⟩:=hl
   have hL:L∈X.fs:=hs L (by unfold frs;rw [List.filterMap_cons,hf];exact List.mem_cons_self)
   obtain ⟨sl,e⟩:=I.base.slot L o ho (I.ok.xP L hL) hL fun z=>I.ok.qx L z hL
   exact ⟨hk,⟨L,_,hf,hn,e,hd⟩,ih (fun b hb=>hs b (by unfold frs;rw [List.filterMap_cons,hf];exact List.mem_cons_of_mem _ hb)) hr⟩
 exact all X.outer (fun _ hb=>hb) I.ok.fN
theorem Inv.stack (I:Inv X pins σ H s):s.heap.FunFrames X.base X.stack:=by
 rcases I.ok.stk with e | ⟨e,hf⟩
 ·rw [e];exact I.fN
 ·rw [e]
  obtain ⟨m,hn,_⟩:=I.loc
  refine .cons (by rw [I.ok.kind];decide) hf hn ?_ I.fN
  exact Heap.get?_none_of_le (Nat.le_trans I.ok.uP I.ok.above)
theorem Inv.d8 (I:Inv X pins σ H s):∀ b∈frs X.stack,b∈X.env.locals::X.fs:=fun b hb=>by
 rcases I.ok.stk with e | ⟨e,hf⟩
 ·rw [e] at hb;exact List.mem_cons_of_mem _ hb
 ·rw [e] at hb
  unfold frs at hb
  rw [List.filterMap_cons,hf] at hb
  exact hb
theorem Inv.fE (I:Inv X pins σ H s):∀ b∈frs X.stack,H b=none:=fun b hb=>by
 rcases List.mem_cons.mp (I.d8 b hb) with e | hb
 ·rw [e];exact I.free
 ·obtain ⟨_,o,ho,_⟩:=I.ok.fN.mem hb
  exact I.base.free b o ho (I.ok.xP b hb) fun z=>I.ok.qx b z hb
theorem Inv.step {g':Array GenState} {t':Nat} {d':Drawn} {ch:List Addr} (I:Inv X pins σ H s)
  (hch:∀ b∈ch,(b∈X.ex\/X.s₀.heap.objs.size<=b)/\b≠X.env.locals/\(∀ x c,X.env.cells.lookup x=some c->c≠b)/\∀ p∈X.pn++pins,p.1≠b)
  (keep:∀ b o,b≠X.env.locals->b∉X.fs->b∉ch->s.heap.get? b=some o->H b=none->h'.get? b=some o)
  (slot:∀ b o,b≠X.env.locals->b∈X.fs->b∉ch->s.heap.get? b=some o->H b=none->∃ sl,h'.get? b=some { o with slots:=sl }) (free:∀ b o,b∉ch->s.heap.get? b=some o->H b=none->H' b=none)
  (there:∀ b o,b∉ch->s.heap.get? b=some o->∃ o',h'.get? b=some o')
  (tups:∀ b xs,H b=some (.tup xs)->H' b=some (.tup xs)) (eT:∀ b o u,H b=some (.fJ o u)->H' b=some (.fJ o u)) (fL:∀ b ps,H b=some (.B3 ps)->∃ more,H' b=some (.B3 (ps++more)))
  (ns:∀ m,s.heap.Ns X.env.locals m->h'.Ns X.env.locals m) (hok:fR X.prog X.w H' h') (hg:AllBare g') :
  Inv X pins σ H' { s with heap:=h',gens:=g',drawn:=d',toks:=t' }:=by
 have neL:∀ b o,X.s₀.heap.get? b=some o->b≠X.env.locals:=fun b o e=>Nat.ne_of_lt (Nat.lt_of_lt_of_le (Heap.lt_size e) I.ok.above)
 have AN:∀ b o,X.s₀.heap.get? b=some o->b∉X.ex->b∉ch:=fun b o e hx hb=>by
  rcases (hch b hb).1 with z | z
  ·exact hx z
  ·exact absurd (Nat.lt_of_lt_of_le (Heap.lt_size e) z) (Nat.lt_irrefl _)
 have cellK:∀ x c,X.env.cells.lookup x=some c->∀ v,s.heap.IsCell c v->h'.IsCell c v:=fun x c e v ⟨o,ho,hd⟩=>by
  have Ja:c∉ch:=fun z=>(hch c z).2.2.1 x c e rfl
  by_cases hc:c∈X.fs
  ·obtain ⟨sl,q⟩:=slot c o (I.yt x c e) hc Ja ho (I.bF x c e)
   exact ⟨_,q,hd⟩
  ·exact ⟨o,keep c o (I.yt x c e) hc Ja ho (I.bF x c e),hd⟩
 refine ⟨I.ok,I.os,hg,⟨fun b o e n hb hx=>?_,fun b o e n hb hx=>?_,fun b o e n hx=>?_,fun b o e hx=>?_,fun b xs e=>tups b xs (I.base.tups b xs e),fun b o xs e=>eT b o xs (I.base.eT b o xs e),fun b ps e=>?_⟩,?_,fun x c e=>?_,?_,fun x c e=>?_,fun p hp=>?_,hok,I.len⟩
 ·exact keep b o (neL b o e) hb (AN b o e hx) (I.base.keep b o e n hb hx) (I.base.free b o e n hx)
 ·obtain ⟨sl,e1⟩:=I.base.slot b o e n hb hx
  obtain ⟨Cb,e2⟩:=slot b _ (neL b o e) hb (AN b o e hx) e1 (I.base.free b o e n hx)
  exact ⟨Cb,e2⟩
 ·obtain ⟨o',e1⟩:=I.base.there b o e hx
  exact free b o' (AN b o e hx) e1 (I.base.free b o e n hx)
 ·obtain ⟨o',e1⟩:=I.base.there b o e hx
  exact there b o' (AN b o e hx) e1
 ·obtain ⟨m1,e1⟩:=I.base.fL b ps e
  obtain ⟨m2,e2⟩:=fL b _ e1
  exact ⟨m1++m2,by rw [e2,Array.append_assoc]⟩
 ·obtain ⟨m,hn,hl⟩:=I.loc
  refine ⟨m,ns m hn,fun i x v e1 e2 e3=>?_⟩
  obtain ⟨u,r,l⟩:=hl i x v e1 e2 e3
  refine ⟨u,r,?_⟩
  rcases l with l | ⟨k,c,e,z⟩
  ·exact .inl l
  ·exact .inr ⟨k,c,e,cellK x c e _ z⟩
 ·obtain ⟨v,z⟩:=I.cell x c e
  exact ⟨v,cellK x c e v z⟩
 ·obtain ⟨m,⟨o,_,_,ho,_⟩,_⟩:=I.loc
  exact free _ o (fun z=>(hch _ z).2.1 rfl) ho I.free
 ·obtain ⟨v,o,ho,hd⟩:=I.cell x c e
  exact free c o (fun z=>(hch c z).2.2.1 x c e rfl) ho (I.bF x c e)
 ·obtain ⟨e,n,ne,nf,d⟩:=I.pin p hp
  have Ja:p.1∉ch:=fun z=>(hch p.1 z).2.2.2 p hp rfl
  exact ⟨keep p.1 p.2 ne nf Ja e n,free p.1 p.2 Ja e n,ne,nf,d⟩
theorem Inv.un {t':Nat} (I:Inv X pins σ H s) (u:Un X.fs [] H H' s.heap h') (hok:fR X.prog X.w H' h'):Inv X pins σ H' { s with heap:=h',toks:=t' }:=by
 obtain ⟨m,⟨o,es,ep,ho,r⟩,_⟩:=id I.loc
 obtain ⟨sl,hL⟩:=u.any ho I.free (by simp)
 exact I.step (g':=s.gens) (d':=s.drawn) (ch:=[]) (fun _ z=>nomatch z) (fun b o _ hb _ e n=>u.keep b o e n hb (by simp)) (fun b o _ hb _ e n=>u.slot b o e n hb (by simp)) (fun b o _ e n=>u.free b o e n (by simp)) (fun b o _ e=>u.there b o e (by simp)) u.tups u.eT u.fL (fun m' hm=>by
  obtain ⟨o',es',JS,ho',r'⟩:=hm
  rw [ho] at ho';cases ho'
  exact ⟨_,es',JS,hL,r'⟩) hok I.bare
theorem Inv.call {g':Array GenState} {t':Nat} {d':Drawn} {ch:List Addr} (I:Inv X pins σ H s) (u:Un (frs X.stack) ch H H' s.heap h') (hok:fR X.prog X.w H' h') (hg:AllBare g')
  (hch:∀ b∈ch,(b∈X.ex\/X.s₀.heap.objs.size<=b)/\b≠X.env.locals/\(∀ x c,X.env.cells.lookup x=some c->c≠b)/\∀ p∈X.pn++pins,p.1≠b) :
  Inv X pins σ H' { s with heap:=h',gens:=g',drawn:=d',toks:=t' }:=by
 obtain ⟨m,⟨o,es,ep,ho,r⟩,_⟩:=id I.loc
 obtain ⟨sl,hL⟩:=u.any ho I.free fun z=>(hch _ z).2.1 rfl
 exact I.step (ch:=ch) hch (fun b o hL hb hc e n=>u.keep b o e n (fun z=>(List.mem_cons.mp (I.d8 b z)).elim hL hb) hc) (fun b o _ _ hc e n=>u.any e n hc) (fun b o hc e n=>u.free b o e n hc) (fun b o hc e=>u.there b o e hc) u.tups u.eT u.fL (fun m' hm=>by
  obtain ⟨o',es',JS,ho',r'⟩:=hm
  rw [ho] at ho';cases ho'
  exact ⟨_,es',JS,hL,r'⟩) hok hg
theorem Inv.turned {t':Nat} {it:Addr} (I:Inv X pins σ H s) (k:∀ b o,b≠it->s.heap.get? b=some o->h'.get? b=some o) (hn:H it=none) (hL:it≠X.env.locals)
  (h1:it∈X.ex\/X.s₀.heap.objs.size<=it) (h2:∀ x c,X.env.cells.lookup x=some c->c≠it) (h3:∀ p∈X.pn++pins,p.1≠it):Inv X pins σ H { s with heap:=h',toks:=t' }:=by
 have nit:∀ b u,H b=some u->b≠it:=fun b u e z=>by rw [z,hn] at e;cases e
 refine I.step (g':=s.gens) (d':=s.drawn) (ch:=[it]) (fun b hb=>?_) (fun b o _ _ hc e _=>k b o (fun z=>hc (by simp [z])) e) (fun b o _ _ hc e _=>⟨o.slots,k b o (fun z=>hc (by simp [z])) e⟩) (fun _ _ _ _ n=>n)
  (fun b o hc e=>⟨o,k b o (fun z=>hc (by simp [z])) e⟩) (fun _ _ e=>e) (fun _ _ _ e=>e) (fun b ps e=>⟨#[],by rw [e];simp⟩) (fun m hm=>?_) (fun b u e=>?_) I.bare
 ·have e:b=it:=by simpa using hb
  subst e
  exact ⟨h1,hL,h2,h3⟩
 ·obtain ⟨o,es,ep,ho,r⟩:=hm
  exact ⟨o,es,ep,k _ o (Ne.symm hL) ho,r⟩
 ·refine (I.hok b u e).stay (fun c v hc q=>k c v ?_ q) (fun _ q=>q) fun _ _ q=>q
  rcases hc with z | z
  ·rw [z];exact nit b u e
  ·exact nit c _ z
theorem Inv.tok (I:Inv X pins σ H s) (t:Nat):Inv X pins σ H { s with toks:=t }:=I.un (h':=s.heap) (t':=t) Un.refl I.hok
theorem Inv.kept {t':Nat} (I:Inv X pins σ H s) (k:∀ b u,s.heap.get? b=some u->h'.get? b=some u):Inv X pins σ H { s with heap:=h',toks:=t' }:=I.un (Un.kept k) (I.hok.kept k)
theorem Inv.laid {a:Addr} {o:HO} {t':Nat} (I:Inv X pins σ H s) (k:∀ b u,s.heap.get? b=some u->h'.get? b=some u) (hp:s.heap.objs.size<=a) (new:aP X.prog X.w (upd H a o) h' a o) :
  Inv X pins σ (upd H a o) { s with heap:=h',toks:=t' }:=I.un (Un.laid k hp (I.hok.fresh hp)) (I.hok.laid k hp new)
theorem Inv.write {x e:Addr} {o:HO} {t':Nat} (I:Inv X pins σ H s) (mu:Kw (H x)) (he:e=x\/H e=some (.own x)) (k:∀ b u,b≠e->s.heap.get? b=some u->h'.get? b=some u) (A9:∃ u,h'.get? e=some u)
  (new:aP X.prog X.w (upd H x o) h' x o):Inv X pins σ (upd H x o) { s with heap:=h',toks:=t' }:=I.un (Un.write mu he k A9) (I.hok.write mu he k A9 new)
theorem Inv.rV {jC:List (Addr×Obj)} (I:Inv X pins σ H s) (h:∀ p∈jC,s.heap.get? p.1=some p.2/\H p.1=none/\p.1≠X.env.locals/\p.1∉X.fs/\∀ v,p.2.data≠.cell v):Inv X jC σ H s :=
 ⟨I.ok,I.os,I.bare,I.base,I.loc,I.cell,I.free,I.bF,fun p hp=>(List.mem_append.mp hp).elim (fun z=>I.pin p (List.mem_append_left _ z)) (h p),I.hok,I.len⟩
theorem jG {N:List Str} (hN:N.Nodup) {i j:Nat} {x:Str} (a:N[i]? = some x) (b:N[j]? = some x):i=j:=by
 obtain ⟨h1,e1⟩:=List.getElem?_eq_some_iff.mp a
 obtain ⟨h2,e2⟩:=List.getElem?_eq_some_iff.mp b
 exact (List.getElem_inj hN).mp (e1.trans e2.symm)
theorem kB {M:Model} {A:Around} {E:Value->Shared->Prop} {i:Nat} {x:Str} {v:V} {u:Value} {Q:Unit->Shared->Prop} (I:Inv X pins σ H s) (hN:X.N.Nodup) (hi:X.N[i]? = some x) (hx:Loc X.env.scope x) (r:RelV v u)
  (h:∀ s',Inv X pins (σ.set i (some v)) H s'->(∃ a,Heap.SameBut a s.heap s'.heap/\(a=X.env.locals\/X.env.cells.lookup x=some a))->Q () s') (hf:X.fn x=true\/X.env.scope.names.lookup x=some .local:=by first | exact .inl rfl | exact .inr rfl | assumption):wpAny M A (storeName X.env x u) Q E s:=by
 obtain ⟨m,hn,hl⟩:=id I.loc
 have hcls:(X.env.scope.kind == .class||(X.env.scope.kind == .module&&X.env.locals != X.env.globals))=false:=by rw [I.ok.kind];rfl
 have Jx:i<σ.length:=by rw [I.len];exact (List.getElem?_eq_some_iff.mp hi).1
 have yt:=I.yt
 have tracked:∀ {a:Addr} {h':Heap},(∃ o,s.heap.get? a=some o/\H a=none)->Heap.SameBut a s.heap h'->fR X.prog X.w H h':=fun {a h'} ha hs b ob e=>by
  obtain ⟨_,_,hfree⟩:=ha
  refine (I.hok b ob e).stay (fun c w' hc q=>(hs.2 c ?_).trans q) (fun _ q=>q) fun _ _ q=>q
  rintro rfl
  rcases hc with rfl | hc
  ·rw [hfree] at e;cases e
  ·rw [hfree] at hc;cases hc
 rcases hx with hk | hk
 ·refine wpAny_storeName_local hk hn (fun h' hn' hs=>?_) hcls
  obtain ⟨oL,_,_,hoL,_⟩:=id hn
  refine h _ ⟨I.ok,I.os,I.bare,⟨fun b o e n hb hx=>?_,fun b o e n hb hx=>?_,I.base.free,fun b o e hx=>?_,I.base.tups,I.base.eT,I.base.fL⟩,⟨_,hn',fun j y v' e1 e2 e3=>?_⟩,fun y c e=>?_,I.free,I.bF,fun p hp=>?_,tracked ⟨oL,hoL,I.free⟩ hs,by simpa using I.len⟩ ⟨_,hs,.inl rfl⟩
  ·exact (hs.2 b (Nat.ne_of_lt (Nat.lt_of_lt_of_le (Heap.lt_size e) I.ok.above))).trans (I.base.keep b o e n hb hx)
  ·obtain ⟨sl,e1⟩:=I.base.slot b o e n hb hx
   exact ⟨sl,(hs.2 b (Nat.ne_of_lt (Nat.lt_of_lt_of_le (Heap.lt_size e) I.ok.above))).trans e1⟩
  ·obtain ⟨o',e1⟩:=I.base.there b o e hx
   exact ⟨o',(hs.2 b (Nat.ne_of_lt (Nat.lt_of_lt_of_le (Heap.lt_size e) I.ok.above))).trans e1⟩
  ·by_cases hj:j=i
   ·subst hj
    rw [hi] at e1;cases e1
    rw [List.getElem?_set_self Jx] at e2
    cases e2
    exact ⟨u,r,.inl ⟨hk,by simp⟩⟩
   ·rw [List.getElem?_set_ne (Ne.symm hj)] at e2
    obtain ⟨u',r',q⟩:=hl j y v' e1 e2 e3
    refine ⟨u',r',?_⟩
    rcases q with ⟨k,e⟩ | ⟨k,c,e,z⟩
    ·refine .inl ⟨k,?_⟩
     have:y≠x:=fun e=>hj (jG hN e1 (e ▸ hi))
     simp [this,e]
    ·exact .inr ⟨k,c,e,z.sameBut hs (yt y c e)⟩
  ·obtain ⟨w',z⟩:=I.cell y c e
   exact ⟨w',z.sameBut hs (yt y c e)⟩
  ·obtain ⟨e,n,ne,nf,d⟩:=I.pin p hp
   exact ⟨(hs.2 p.1 ne).trans e,n,ne,nf,d⟩
 ·have hfn:X.fn x=true:=by
   rcases hf with z | z
   ·exact z
   ·rw [z] at hk;cases hk
  obtain ⟨c,hc⟩:=I.ok.has x (.inl hk)
  obtain ⟨w',z⟩:=I.cell x c hc
  refine wpAny_storeName_cell I.ok.kind hk hc z (fun h' hc' hs=>?_)
  obtain ⟨oc,hoc,hocd⟩:=id z
  refine h { s with heap:=h' } ⟨I.ok,I.os,I.bare,⟨fun b o e n hb hx=>?_,fun b o e n hb hx=>?_,I.base.free,fun b o e hx=>?_,I.base.tups,I.base.eT,I.base.fL⟩,⟨m,hn.sameBut hs (Ne.symm (yt x c hc)),fun j y v' e1 e2 e3=>?_⟩,fun y c' e=>?_,I.free,I.bF,fun p hp=>?_,tracked ⟨oc,hoc,I.bF x c hc⟩ hs,by simpa using I.len⟩ ⟨c,hs,.inr hc⟩
  ·exact (hs.2 b (Nat.ne_of_lt (Nat.lt_of_lt_of_le (Heap.lt_size e) (I.ok.CY x c hfn hc)))).trans (I.base.keep b o e n hb hx)
  ·obtain ⟨sl,e1⟩:=I.base.slot b o e n hb hx
   exact ⟨sl,(hs.2 b (Nat.ne_of_lt (Nat.lt_of_lt_of_le (Heap.lt_size e) (I.ok.CY x c hfn hc)))).trans e1⟩
  ·obtain ⟨o',e1⟩:=I.base.there b o e hx
   exact ⟨o',(hs.2 b (Nat.ne_of_lt (Nat.lt_of_lt_of_le (Heap.lt_size e) (I.ok.CY x c hfn hc)))).trans e1⟩
  ·by_cases hj:j=i
   ·subst hj
    rw [hi] at e1;cases e1
    rw [List.getElem?_set_self Jx] at e2
    cases e2
    exact ⟨u,r,.inr ⟨.inl hk,c,hc,hc'⟩⟩
   ·rw [List.getElem?_set_ne (Ne.symm hj)] at e2
    obtain ⟨u',r',q⟩:=hl j y v' e1 e2 e3
    refine ⟨u',r',?_⟩
    rcases q with q | ⟨k,c',e,z'⟩
    ·exact .inl q
    ·refine .inr ⟨k,c',e,z'.sameBut hs ?_⟩
     rintro rfl
     exact hj (jG hN e1 (I.ok.inj _ _ _ e hc ▸ hi))
  ·by_cases hcc:c'=c
   ·subst hcc;exact ⟨_,hc'⟩
   ·obtain ⟨w2,z2⟩:=I.cell y c' e
    exact ⟨w2,z2.sameBut hs hcc⟩
  ·obtain ⟨e,n,ne,nf,d⟩:=I.pin p hp
   refine ⟨(hs.2 p.1 ?_).trans e,n,ne,nf,d⟩
   intro q
   rw [q,hoc] at e
   have q':oc=p.2:=Option.some.inj e
   exact d w' (by rw [<- q'];exact hocd)
theorem ju {M:Model} {A:Around} {E:Value->Shared->Prop} {i:Nat} {x:Str} {v:V} {u:Value} {Q:Unit->Shared->Prop} (I:Inv X pins σ H s) (hN:X.N.Nodup) (hi:X.N[i]? = some x) (hx:Loc X.env.scope x) (r:RelV v u)
  (h:∀ s',Inv X pins (σ.set i (some v)) H s'->Q () s') (hf:X.fn x=true\/X.env.scope.names.lookup x=some .local:=by first | exact .inl rfl | exact .inr rfl | assumption):wpAny M A (storeName X.env x u) Q E s :=
 kB I hN hi hx r (fun s' I' _=>h s' I') hf
theorem Inv.yx {s':Shared} {ch:List Addr} (I:Inv X pins σ H s) (ho:s'.os=s.os) (u:Un (frs X.stack) ch H H' s.heap s'.heap) (hok:fR X.prog X.w H' s'.heap) (hg:AllBare s'.gens)
  (hch:∀ b∈ch,(b∈X.ex\/X.s₀.heap.objs.size<=b)/\b≠X.env.locals/\(∀ x c,X.env.cells.lookup x=some c->c≠b)/\∀ p∈X.pn++pins,p.1≠b):Inv X pins σ H' s':=by
 obtain ⟨h',g',d',t',o'⟩:=s'
 have e:o'=s.os:=ho
 subst e
 exact I.call (g':=g') (t':=t') (d':=d') u hok hg hch
end
noncomputable abbrev XK:=Value->Option Addr->Hp->Prop
noncomputable abbrev St:=List (Option V)
noncomputable abbrev VK:=V->Hp->Prop
noncomputable abbrev TE:=St->Hp->VK->Prop
noncomputable abbrev TT:=St->Hp->(Bool->Hp->Prop)->Prop
noncomputable abbrev TA:=St->Hp->(List V->Hp->Prop)->Prop
structure Ends where
 nx:St->Hp->Prop
 rt:VK
 bk:St->Hp->Prop:=fun _ _=>False
 ct:St->Hp->Prop:=fun _ _=>False
noncomputable abbrev TS:=Ends->St->Hp->Prop
noncomputable def EP (X:Cx) (pins:List (Addr×Obj)) (σ:St) (Q:VK) (u:Value) (s':Shared):Prop:=∃ v H',Inv X pins σ H' s'/\RelV v u/\Q v H'
noncomputable def TP (X:Cx) (pins:List (Addr×Obj)) (σ:St) (Q:Bool->Hp->Prop) (b:Bool) (s':Shared):Prop:=∃ H',Inv X pins σ H' s'/\Q b H'
noncomputable def AP (X:Cx) (pins:List (Addr×Obj)) (σ:St) (Q:List V->Hp->Prop) (us:List Value) (s':Shared):Prop:=∃ vs H',Inv X pins σ H' s'/\Vals vs us/\Q vs H'
noncomputable def SP (X:Cx) (pins:List (Addr×Obj)) (D:Ends) (f:Flow) (s':Shared):Prop :=
 match f with
 | .next=>∃ σ' H',Inv X pins σ' H' s'/\D.nx σ' H'
 | .brk=>∃ σ' H',Inv X pins σ' H' s'/\D.bk σ' H'
 | .cont=>∃ σ' H',Inv X pins σ' H' s'/\D.ct σ' H'
 | .ret u=>∃ v σ' H',Inv X pins σ' H' s'/\RelV v u/\D.rt v H'
noncomputable def PE (X:Cx) (e:Expr) (t:TE):Prop :=
 ∀ (pins:List (Addr×Obj)) (s:Shared) (σ:St) (H:Hp) (Q:VK),Inv X pins σ H s->t σ H Q->wpAny (model X.prog X.w) X.A (eval e X.env) (EP X pins σ Q) X.xe s
noncomputable def PT (X:Cx) (e:Expr) (t:TT):Prop :=
 ∀ (pins:List (Addr×Obj)) (s:Shared) (σ:St) (H:Hp) (Q:Bool->Hp->Prop),Inv X pins σ H s->t σ H Q->wpAny (model X.prog X.w) X.A (isTrue e X.env (eval e X.env)) (TP X pins σ Q) X.xe s
noncomputable def PW (X:Cx) (e:Expr) (t:TT):Prop :=
 ∀ (whole:Sem Value) (pins:List (Addr×Obj)) (s:Shared) (σ:St) (H:Hp) (Q:Bool->Hp->Prop),Inv X pins σ H s->t σ H Q->wpAny (model X.prog X.w) X.A (isTrue e X.env whole) (TP X pins σ Q) X.xe s
theorem PW.pt {X:Cx} {e:Expr} {t:TT} (h:PW X e t):PT X e t:=h _
noncomputable def PA (X:Cx) (es:List Expr) (t:TA):Prop :=
 ∀ (pos:Pos) (pins:List (Addr×Obj)) (s:Shared) (σ:St) (H:Hp) (Q:List V->Hp->Prop),Inv X pins σ H s->t σ H Q->wpAny (model X.prog X.w) X.A (spliced (backTo pos (starEach es X.env))) (AP X pins σ Q) X.xe s
noncomputable def PS (X:Cx) (st:Stmt) (t:TS):Prop :=
 ∀ (pins:List (Addr×Obj)) (s:Shared) (σ:St) (H:Hp) (D:Ends),Inv X pins σ H s->t D σ H->wpAny (model X.prog X.w) X.A (exec st X.env) (SP X pins D) X.xe s
noncomputable def j5 (X:Cx) (st:List Stmt) (t:TS):Prop :=
 ∀ (pins:List (Addr×Obj)) (s:Shared) (σ:St) (H:Hp) (D:Ends),Inv X pins σ H s->t D σ H->wpAny (model X.prog X.w) X.A (execs st X.env) (SP X pins D) X.xe s
theorem aT {α:Type} {t:Sem α} {Q Q':α->Shared->Prop} {M:Model} {A:Around} {E:Value->Shared->Prop} {s:Shared} (h:wpAny M A t Q E s) (hQ:∀ a s,Q a s->Q' a s):wpAny M A t Q' E s:=wpAny_mono h hQ fun _ _ x=>x
section
variable {X:Cx}
noncomputable def Hx (i:Nat):TE:=fun σ H Q=>∃ v,σ[i]? = some (some v)/\Q v H
noncomputable def tC (v:V):TE:=fun _ H Q=>Q v H
theorem D9 {i:Nat} {x:Str} {pos:Pos} (hN:X.N[i]? = some x) (hv:Lx X.env.scope x) (hd:(x == ("__debug__" : Str))=false:=by decide) (hcd:(x == ("__classdict__" : Str))=false:=by decide):PE X (.Name x pos) (Hx i):=by
 intro pins s σ H Q I h
 obtain ⟨v,e,h⟩:=h
 obtain ⟨m,hn,hl⟩:=I.loc
 obtain ⟨u,r,l⟩:=hl i x v hN e hv
 have fin:EP X pins σ Q u s:=⟨v,H,I,r,h⟩
 rcases l with ⟨hk,hm⟩ | ⟨hk,c,hc,hcell⟩
 ·exact wpAny_Name (wpAny_loadName_local I.ok.kind hk hn hm fin) hd
 ·rcases hk with hk | hk
  ·exact wpAny_Name (wpAny_loadName_cell I.ok.kind hk hc hcell fin) hd
  ·exact wpAny_Name (wpAny_loadName_free I.ok.kind hk hc hcell fin hcd) hd
theorem Eh {i j pos}:PE X (.Constant (.int i) j pos) (tC (.int i)):=fun _ _ _ H _ I h=>wpAny_Constant_int ⟨.int i,H,I.tok _,⟨_,rfl⟩,h⟩
theorem II {b j pos}:PE X (.Constant (.bool b) j pos) (tC (.bl b)):=fun _ _ _ H _ I h=>Constant_bool ⟨.bl b,H,I,rfl,h⟩
theorem Ed {j pos}:PE X (.Constant .none j pos) (tC .ao):=fun _ _ _ H _ I h=>Constant_none ⟨.ao,H,I,rfl,h⟩
theorem pW {x j pos}:PE X (.Constant (.str x) j pos) (tC (.str x)):=fun _ _ _ H _ I h=>Calls.Constant_str ⟨.str x,H,I.tok _,⟨_,rfl⟩,h⟩
noncomputable def Gl (X:Cx) (x:Str):Prop:=X.env.kindOf x=some .globalImplicit
theorem ez {E:Value->Shared->Prop} {pins:List (Addr×Obj)} {s:Shared} {σ:St} {H:Hp} {x:Str} {u:Value} {pos:Pos} {Q:Value->Shared->Prop} (I:Inv X pins σ H s) (hg:Gl X x) (hm:X.mg x=some u) (h:Q u s)
  (hd:(x == ("__debug__" : Str))=false:=by decide):wpAny (model X.prog X.w) X.A (eval (.Name x pos) X.env) Q E s :=
 Calls.Name_function_global I.ok.kind hg (Calls.loadGlobal_global (by rw [I.ok.glob];exact I.mod.glob.keeps I.bk) hm h) hd
theorem ir {E:Value->Shared->Prop} {pins:List (Addr×Obj)} {s:Shared} {σ:St} {H:Hp} {x:Str} {u:Value} {pos:Pos} {Q:Value->Shared->Prop} (I:Inv X pins σ H s) (hg:Gl X x) (hm:X.mg x=none) (hv:bootBuiltins x=some u) (h:Q u s)
  (hn:x≠"__name__":=by decide) (hd:(x == ("__debug__" : Str))=false:=by decide):wpAny (model X.prog X.w) X.A (eval (.Name x pos) X.env) Q E s:=by
 obtain ⟨mb,h1,h2⟩:=I.mod.blt
 exact Calls.Name_function_global I.ok.kind hg (Calls.loadGlobal_builtin (by rw [I.ok.glob];exact I.mod.glob.keeps I.bk) hm (by rw [I.ok.blt];exact h1.keeps I.bk) ((h2 x hn).trans hv) h) hd
theorem rX {x:Str} {v:V} {u:Value} {pos:Pos} (hg:Gl X x) (hm:X.mg x=some u) (r:RelV v u) (hd:(x == ("__debug__" : Str))=false:=by decide):PE X (.Name x pos) (tC v) :=
 fun _ _ _ H _ I h=>ez I hg hm ⟨v,H,I,r,h⟩ hd
theorem rZ {x:Str} {v:V} {u:Value} {pos:Pos} (hg:Gl X x) (hm:X.mg x=none) (hv:bootBuiltins x=some u) (r:RelV v u) (hn:x≠"__name__":=by decide) (hd:(x == ("__debug__" : Str))=false:=by decide):PE X (.Name x pos) (tC v) :=
 fun _ _ _ H _ I h=>ir I hg hm hv ⟨v,H,I,r,h⟩ hn hd
variable {a b:Expr} {ta tb:TE} {pos:Pos}
noncomputable def tB (t:TE):TT:=fun σ H Q=>t σ H fun x H1=>∃ c,x=.bl c/\Q c H1
theorem DU {e:Expr} {t:TE} (h:PE X e t) (he:∀ whole,isTrue e X.env whole=(do let v <- whole;standAt e.pos;holding [v] (truthy v)):=by intro _;rfl):PT X e (tB t):=by
 intro pins s σ H Q I hw
 refine isTrue_plain (aT (h pins s σ H _ I hw) fun v s1 ⟨x,H1,I1,r1,q1⟩=>?_) (he _)
 obtain ⟨d,rfl,q⟩:=q1
 cases r1
 exact wpAny_truthy_bool ⟨H1,I1,q⟩
variable {tA KN:TT} {rest:List Expr}
noncomputable def HK (t u:TT):TT:=fun σ H Q=>t σ H fun c H1=>if c=true then u σ H1 Q else Q false H1
noncomputable def tOr (t u:TT):TT:=fun σ H Q=>t σ H fun c H1=>if c=true then Q true H1 else u σ H1 Q
noncomputable def HD (t:TT):TT:=fun σ H Q=>t σ H fun c H1=>Q (!c) H1
theorem pw_and1 (ha:PT X a tA):PW X (.BoolOp .And [a] pos) tA:=by
 intro wh pins s σ H Q I h
 refine isTrue_and (aT (ha pins s σ H Q I h) fun c s1 e=>?_)
 cases c with
 | true=>exact isTrue_and_nil e
 | false=>exact e
theorem pw_or1 (ha:PT X a tA):PW X (.BoolOp .Or [a] pos) tA:=by
 intro wh pins s σ H Q I h
 refine isTrue_or (aT (ha pins s σ H Q I h) fun c s1 e=>?_)
 cases c with
 | false=>exact isTrue_or_nil e
 | true=>exact e
theorem pw_and (ha:PT X a tA) (hb:PW X (.BoolOp .And (b::rest) pos) KN):PW X (.BoolOp .And (a::b::rest) pos) (HK tA KN):=by
 intro wh pins s σ H Q I h
 refine isTrue_and (aT (ha pins s σ H _ I h) fun c s1 ⟨H1,I1,q1⟩=>?_)
 cases c with
 | true=>exact hb wh pins s1 σ H1 Q I1 q1
 | false=>exact ⟨H1,I1,q1⟩
theorem pw_or (ha:PT X a tA) (hb:PW X (.BoolOp .Or (b::rest) pos) KN):PW X (.BoolOp .Or (a::b::rest) pos) (tOr tA KN):=by
 intro wh pins s σ H Q I h
 refine isTrue_or (aT (ha pins s σ H _ I h) fun c s1 ⟨H1,I1,q1⟩=>?_)
 cases c with
 | true=>exact ⟨H1,I1,q1⟩
 | false=>exact hb wh pins s1 σ H1 Q I1 q1
theorem DW (ha:PT X a tA):PT X (.UnaryOp .Not a pos) (HD tA):=by
 intro pins s σ H Q I h
 exact isTrue_not (ha pins s σ H (fun c H1=>Q (!c) H1) I h)
noncomputable def B8 (ta tb:TE):TE:=fun σ H Q=>ta σ H fun x H1=>∃ c,x=.bl c/\if c=true then tb σ H1 Q else Q (.bl false) H1
noncomputable def HC (ta tb:TE):TE:=fun σ H Q=>ta σ H fun x H1=>∃ c,x=.bl c/\if c=true then Q (.bl true) H1 else tb σ H1 Q
noncomputable def B5 (ta:TE):TE:=fun σ H Q=>ta σ H fun x H1=>∃ c,x=.bl c/\Q (.bl (!c)) H1
theorem Eb {op} {t:TE} (h:PE X a t):PE X (.BoolOp op [a] pos) t:=fun pins s σ H Q I hw=>BoolOp_one (h pins s σ H Q I hw)
theorem Ej (ha:PE X a ta) (hb:PE X (.BoolOp .And (b::rest) pos) tb):PE X (.BoolOp .And (a::b::rest) pos) (B8 ta tb):=by
 intro pins s σ H Q I h
 refine BoolOp_and (aT (ha pins s σ H _ I h) fun v s1 ⟨x,H1,I1,r1,q1⟩=>?_)
 obtain ⟨c,rfl,q1⟩:=q1
 cases r1
 refine wpAny_truthy_bool ?_
 cases c with
 | true=>exact hb pins s1 σ H1 Q I1 q1
 | false=>exact ⟨.bl false,H1,I1,rfl,q1⟩
theorem ID (ha:PE X a ta) (hb:PE X (.BoolOp .Or (b::rest) pos) tb):PE X (.BoolOp .Or (a::b::rest) pos) (HC ta tb):=by
 intro pins s σ H Q I h
 refine BoolOp_or (aT (ha pins s σ H _ I h) fun v s1 ⟨x,H1,I1,r1,q1⟩=>?_)
 obtain ⟨c,rfl,q1⟩:=q1
 cases r1
 refine wpAny_truthy_bool ?_
 cases c with
 | false=>exact hb pins s1 σ H1 Q I1 q1
 | true=>exact ⟨.bl true,H1,I1,rfl,q1⟩
theorem Ec (ha:PE X a ta):PE X (.UnaryOp .Not a pos) (B5 ta):=by
 intro pins s σ H Q I h
 refine UnaryOp_ (aT (ha pins s σ H _ I h) fun v s1 ⟨x,H1,I1,r1,q1⟩=>?_)
 obtain ⟨c,rfl,q1⟩:=q1
 cases r1
 exact not_of (wpAny_truthy_bool ⟨.bl (!c),H1,I1,rfl,q1⟩)
noncomputable def tIf (t:TT) (ta tb:TE):TE:=fun σ H Q=>t σ H fun c H1=>if c=true then ta σ H1 Q else tb σ H1 Q
theorem wA {c:Expr} (hc:PT X c tA) (ha:PE X a ta) (hb:PE X b tb):PE X (.IfExp c a b pos) (tIf tA ta tb):=by
 intro pins s σ H Q I h
 refine wpAny_IfExp (aT (hc pins s σ H _ I h) fun d s1 ⟨H1,I1,q1⟩=>?_)
 cases d with
 | true=>exact ha pins s1 σ H1 Q I1 q1
 | false=>exact hb pins s1 σ H1 Q I1 q1
end
noncomputable def eV (K:PySem.W.Frag) (H:Hp) (a:Addr) (xs:List V):Prop :=
 Rd H a (.lst xs) \/
  ∃ (o:Obj) (its:Array Value) (n:Nat), K.lookup a=some o/\o.cls=.type "list"/\o.dict=none/\o.data=.seq its n/\its.size<=sizeLine/\Vals xs its.toList
noncomputable def gr (K:PySem.W.Frag) (H:Hp) (a:Addr) (xs:List V):Prop :=
 Rd H a (.tup xs) \/
  ∃ (o:Obj) (its:Array Value) (n:Nat), K.lookup a=some o/\o.cls=.type "tuple"/\o.data=.seq its n/\its.size<=sizeLine/\Vals xs its.toList
noncomputable def absV:Value->Option V
 | .none=>some .ao
 | .bool b=>some (.bl b)
 | .int i _=>some (.int i)
 | .str x _=>some (.str x)
 | .bytes b _=>some (.uY b)
 | .float b _=>some (.Lf b)
 | .ref a=>some (.ref a)
 | .type n=>some (.ty n)
 | _=>none
theorem RelV.abs {x:V} {u:Value} (r:RelV x u):absV u=some x:=by
 cases x with
 | ao=>cases r;rfl
 | bl _=>cases r;rfl
 | int _=>obtain ⟨t,rfl⟩:=r;rfl
 | str _=>obtain ⟨t,rfl⟩:=r;rfl
 | uY _=>obtain ⟨t,rfl⟩:=r;rfl
 | Lf _=>obtain ⟨t,rfl⟩:=r;rfl
 | ref _=>cases r;rfl
 | ty _=>cases r;rfl
theorem RelV.inj {x y:V} {u:Value} (r:RelV x u) (q:RelV y u):x=y:=Option.some.inj (r.abs.symm.trans q.abs)
theorem Vals.inj:∀ {xs ys:List V} {us:List Value},Vals xs us->Vals ys us->xs=ys
 | _,_,_,.nil,.nil=>rfl
 | _,_,_,.cons r t,.cons r' t'=>by rw [r.inj r',Vals.inj t t']
section
variable {X:Cx} {pins:List (Addr×Obj)} {σ:St} {H:Hp} {s:Shared} {a:Addr} {xs ys:List V}
theorem Inv.list (I:Inv X pins σ H s) (h:eV X.K H a xs):∃ its:List Value,Vals xs its/\PlainL s.heap a its.toArray/\xs.length<=sizeLine:=by
 rcases h with h | ⟨o,its,n,hk,hc,hd,hs,hz,r⟩
 ·obtain ⟨z,its,n,r,e⟩:=h.ok I.hok
  exact ⟨its,r,⟨_,n,e,rfl,rfl,rfl⟩,z⟩
 ·refine ⟨its.toList,r,⟨o,n,I.fH a o hk,hc,hd,by simpa using hs⟩,?_⟩
  have e:=r.length
  simp only [Array.length_toList] at e
  omega
theorem Inv.tuple (I:Inv X pins σ H s) (h:gr X.K H a xs):∃ its:List Value,Vals xs its/\IsTup s.heap a its.toArray/\xs.length<=sizeLine:=by
 rcases h with h | ⟨o,its,n,hk,hc,hs,hz,r⟩
 ·obtain ⟨z,its,r,p⟩:=h.ok I.hok
  exact ⟨its,r,p,z⟩
 ·refine ⟨its.toList,r,⟨o,I.fH a o hk,hc,n,by simpa using hs⟩,?_⟩
  have e:=r.length
  simp only [Array.length_toList] at e
  omega
theorem Inv.ou (I:Inv X pins σ H s) (h:eV X.K H a xs) (h':eV X.K H a ys):xs=ys:=by
 obtain ⟨its,r,⟨o,n,e,_,_,d⟩,_⟩:=I.list h
 obtain ⟨its',r',⟨o',n',e',_,_,d'⟩,_⟩:=I.list h'
 rw [e] at e';cases e'
 rw [d] at d'
 injection d' with d1 _
 have:its=its':=by simpa using congrArg Array.toList d1
 subst this
 exact r.inj r'
theorem Inv.kr (I:Inv X pins σ H s) (h:gr X.K H a xs) (h':gr X.K H a ys):xs=ys:=by
 obtain ⟨its,r,⟨o,e,_,n,d⟩,_⟩:=I.tuple h
 obtain ⟨its',r',⟨o',e',_,n',d'⟩,_⟩:=I.tuple h'
 rw [e] at e';cases e'
 rw [d] at d'
 injection d' with d1 _
 have:its=its':=by simpa using congrArg Array.toList d1
 subst this
 exact r.inj r'
end
noncomputable abbrev Cx.bz (X:Cx) (E:Value->Shared->Prop):Cx:={ X with xe:=E }
noncomputable abbrev Cx.Cs (X:Cx):Cx:=X.bz fun _ _=>False
theorem Cx.Ok.bz {X:Cx} (ok:X.Ok) (E:Value->Shared->Prop):(X.bz E).Ok :=
 ⟨ok.mod,ok.kind,ok.glob,ok.blt,ok.above,ok.inj,ok.has,ok.CY,ok.hd,ok.frames,ok.stk,ok.JF,ok.bs,ok.uP,ok.n8,ok.qx,ok.fN,ok.xP⟩
theorem Cx.Ok.aX {X:Cx} {E:Value->Shared->Prop} (ok:(X.bz E).Ok):X.Ok :=
 ⟨ok.mod,ok.kind,ok.glob,ok.blt,ok.above,ok.inj,ok.has,ok.CY,ok.hd,ok.frames,ok.stk,ok.JF,ok.bs,ok.uP,ok.n8,ok.qx,ok.fN,ok.xP⟩
section
variable {X:Cx} {pins:List (Addr×Obj)} {σ:St} {H:Hp} {s:Shared} {E:Value->Shared->Prop}
theorem Inv.bz (I:Inv X pins σ H s) (E:Value->Shared->Prop):Inv (X.bz E) pins σ H s:=⟨I.ok.bz E,I.os,I.bare,I.base,I.loc,I.cell,I.free,I.bF,I.pin,I.hok,I.len⟩
theorem Inv.aX (I:Inv (X.bz E) pins σ H s):Inv X pins σ H s:=⟨I.ok.aX,I.os,I.bare,I.base,I.loc,I.cell,I.free,I.bF,I.pin,I.hok,I.len⟩
theorem SP.aX {D:Ends} {f:Flow} {s':Shared} (h:SP (X.bz E) pins D f s'):SP X pins D f s':=by
 cases f with
 | next=>obtain ⟨σ',H',I,q⟩:=h;exact ⟨σ',H',I.aX,q⟩
 | brk=>obtain ⟨σ',H',I,q⟩:=h;exact ⟨σ',H',I.aX,q⟩
 | cont=>obtain ⟨σ',H',I,q⟩:=h;exact ⟨σ',H',I.aX,q⟩
 | ret u=>obtain ⟨v,σ',H',I,r,q⟩:=h;exact ⟨v,σ',H',I.aX,r,q⟩
theorem PE.Cs {e:Expr} {t:TE} (h:PE X.Cs e t):PE X e t:=fun pins s σ H Q I hw =>
 wpAny_mono (h pins s σ H Q (I.bz _) hw) (fun _ _ ⟨v,H',I',r,q⟩=>⟨v,H',I'.aX,r,q⟩) fun _ _ z=>False.elim z
theorem PT.Cs {e:Expr} {t:TT} (h:PT X.Cs e t):PT X e t:=fun pins s σ H Q I hw =>
 wpAny_mono (h pins s σ H Q (I.bz _) hw) (fun _ _ ⟨H',I',q⟩=>⟨H',I'.aX,q⟩) fun _ _ z=>False.elim z
theorem j5.Cs {st:List Stmt} {t:TS} (h:j5 X.Cs st t):j5 X st t:=fun pins s σ H D I hw =>
 wpAny_mono (h pins s σ H D (I.bz _) hw) (fun _ _ q=>q.aX) fun _ _ z=>False.elim z
end
section
variable {X:Cx} {st:Stmt} {rest:List Stmt} {t u:TS} {e:Expr} {te:TE} {pos:Pos}
noncomputable def B6:TS:=fun D σ H=>D.nx σ H
noncomputable def HA (t u:TS):TS:=fun D σ H=>t { D with nx:=u D } σ H
theorem Am:j5 X [] B6:=fun _ _ σ H _ I h=>wpAny_execs_nil ⟨σ,H,I,h⟩
theorem v9 (h1:PS X st t) (h2:j5 X rest u):j5 X (st::rest) (HA t u):=by
 intro pins s σ H D I h
 refine wpAny_execs_cons (aT (h1 pins s σ H { D with nx:=u D } I h) fun f s1 q=>?_)
 cases f with
 | next =>
  obtain ⟨σ',H',I',q⟩:=q
  exact h2 pins s1 σ' H' D I' q
 | ret v=>exact q
 | brk=>exact q
 | cont=>exact q
theorem Inv.quiet {pins:List (Addr×Obj)} {σ:St} {H:Hp} {s:Shared} (I:Inv X pins σ H s):interactive X.env=false:=by simp [interactive,I.ok.kind]
noncomputable def B7 (te:TE):TS:=fun D σ H=>te σ H fun _ H1=>D.nx σ H1
theorem Aq (he:PE X e te) (hs:swapsWith e none pos.line X.env=pure false:=by rfl):PS X (.Expr e pos) (B7 te):=by
 intro pins s σ H D I h
 exact wpAny_Expr_any (aT (he pins s σ H _ I h) fun v s1 ⟨x,H1,I1,r1,q1⟩=>⟨σ,H1,I1,q1⟩) I.quiet hs
noncomputable def HB (te:TE):TS:=fun D σ H=>te σ H D.rt
theorem DZ (he:PE X e te):PS X (.Return (some e) pos) (HB te):=by
 intro pins s σ H D I h
 exact wpAny_Return_some (aT (he pins s σ H _ I h) fun v s1 ⟨x,H1,I1,r1,q1⟩=>⟨x,σ,H1,I1,r1,q1⟩)
noncomputable def HF (c:TT) (t u:TS):TS:=fun D σ H=>c σ H fun b H1=>if b=true then t D σ H1 else u D σ H1
theorem Iz {c:Expr} {a b:List Stmt} {tc:TT} (hc:PT X c tc) (ha:j5 X a t) (hb:j5 X b u):PS X (.If c a b pos) (HF tc t u):=by
 intro pins s σ H D I h
 refine wpAny_If (aT (hc pins s σ H _ I h) fun d s1 ⟨H1,I1,q1⟩=>?_)
 cases d with
 | true=>exact ha pins s1 σ H1 D I1 q1
 | false=>exact hb pins s1 σ H1 D I1 q1
end
noncomputable abbrev TG:=V->St->Hp->(St->Hp->Prop)->Prop
noncomputable abbrev C5:=List V->St->Hp->(St->Hp->Prop)->Prop
noncomputable def PG (X:Cx) (target:Expr) (t:TG):Prop :=
 ∀ (pins:List (Addr×Obj)) (s:Shared) (σ:St) (H:Hp) (v:V) (u:Value) (Q:St->Hp->Prop),Inv X pins σ H s->RelV v u->t v σ H Q ->
  wpAny (model X.prog X.w) X.A (assign target X.env u) (fun _ s'=>∃ σ' H',Inv X pins σ' H' s'/\Q σ' H') X.xe s
noncomputable def Ks (X:Cx) (ts:List Expr) (t:C5):Prop :=
 ∀ (pins:List (Addr×Obj)) (s:Shared) (σ:St) (H:Hp) (vs:List V) (us:List Value) (Q:St->Hp->Prop),Inv X pins σ H s->Vals vs us->t vs σ H Q ->
  wpAny (model X.prog X.w) X.A (assignInOrder ((assignEach ts X.env).map (·.2)) us) (fun _ s'=>∃ σ' H',Inv X pins σ' H' s'/\Q σ' H') X.xe s
noncomputable abbrev TSet:=V->V->V->Hp->(Hp->Prop)->Prop
noncomputable def PSet (X:Cx) (t:TSet):Prop :=
 ∀ (pins:List (Addr×Obj)) (s:Shared) (σ:St) (H:Hp) (o i v:V) (ov iv u:Value) (Q:Hp->Prop),Inv X pins σ H s->RelV o ov->RelV i iv->RelV v u->t o i v H Q ->
  wpAny (model X.prog X.w) X.A (setItem ov iv u) (fun _ s'=>∃ H',Inv X pins σ H' s'/\Q H') X.xe s
section
variable {X:Cx} {pos:Pos}
noncomputable def jP (i:Nat):TG:=fun v σ H Q=>Q (σ.set i (some v)) H
theorem Av {i:Nat} {x:Str} (hN:X.N.Nodup) (hi:X.N[i]? = some x) (hx:Loc X.env.scope x) (hf:X.fn x=true\/X.env.scope.names.lookup x=some .local:=by first | exact .inl rfl | exact .inr rfl | assumption):PG X (.Name x pos) (jP i):=by
 intro pins s σ H v u Q I r h
 exact wpAny_assign_Name (ju I hN hi hx r (fun s' I'=>⟨_,H,I',h⟩) hf)
noncomputable def JA:C5:=fun vs σ H Q=>vs=[]/\Q σ H
noncomputable def CG (t:TG) (u:C5):C5:=fun vs σ H Q=>∃ v r,vs=v::r/\t v σ H fun σ' H'=>u r σ' H' Q
theorem rW:Ks X [] JA:=by
 intro pins s σ H vs us Q I r h
 obtain ⟨e,h⟩:=h
 subst e
 cases r
 exact assignInOrder_nil ⟨σ,H,I,h⟩
theorem jE {e:Expr} {es:List Expr} {t:TG} {u:C5} (h1:PG X e t) (h2:Ks X es u)
  (hs:(assignEach (e::es) X.env).map (·.2)=assign e X.env::(assignEach es X.env).map (·.2):=by rfl):Ks X (e::es) (CG t u):=by
 intro pins s σ H vs us Q I r h
 obtain ⟨v,vr,e1,h⟩:=h
 subst e1
 cases r with
 | cons r rr =>
  rw [hs]
  refine assignInOrder_cons (aT (h1 pins s σ H _ _ _ I r h) fun _ s1 ⟨σ1,H1,I1,q1⟩=>?_)
  exact h2 pins s1 σ1 H1 _ _ Q I1 rr q1
noncomputable def gTup (K:PySem.W.Frag) (n:Nat) (t:C5):TG:=fun v σ H Q=>∃ a xs,v=.ref a/\gr K H a xs/\xs.length=n/\t xs σ H Q
theorem wg {es:List Expr} {k:Nat} {t:C5} {n:Nat} (hc:X.calm=true) (h:Ks X es t)
  (hn:(assignEach es X.env).length=n:=by rfl) (hst:(assignEach es X.env).findIdx? (·.1)=none:=by rfl):PG X (.Tuple es k pos) (gTup X.K n t):=by
 intro pins s σ H v u Q I r hw
 obtain ⟨a,xs,e1,hq,hl,hw⟩:=hw
 subst e1
 cases r
 obtain ⟨its,rv,ht,hz⟩:=I.tuple hq
 refine assign_Tuple_tuple (I.ok.hd hc) ht (by simp [hn,<- hl,rv.length]) hst fun h' hx=>?_
 have I1:Inv X pins σ H { s with heap:=h' }:=I.kept (t':=s.toks) fun b o e=>hx b o (Nat.ne_of_lt (Heap.lt_size e)) e
 exact h pins _ σ H xs _ Q I1 (by simpa using rv) hw
noncomputable def vq (te:TE) (g:TG):TS:=fun D σ H=>te σ H fun x H1=>g x σ H1 D.nx
theorem D4 {tg e:Expr} {te:TE} {g:TG} (he:PE X e te) (hg:PG X tg g) (hs:swapsWithSole [tg] e pos.line X.env=pure false:=by rfl) (hw:swappedStores [tg] e X.env=pure none:=by rfl)
  (h1:(assignEach [tg] X.env).map (·.2)=[assign tg X.env]:=by rfl):PS X (.Assign [tg] e pos) (vq te g):=by
 intro pins s σ H D I h
 refine wpAny_Assign_stores (aT (he pins s σ H _ I h) fun v s1 ⟨x,H1,I1,r1,q1⟩=>?_) hs hw
 rw [h1]
 exact aT (hg pins s1 σ H1 x v _ I1 r1 q1) fun _ s2 q=>q
theorem DY {i:Nat} {x:Str} {e:Expr} {te:TE} {pos':Pos} (hN:X.N.Nodup) (hi:X.N[i]? = some x) (hx:Loc X.env.scope x) (he:PE X e te) (hs:swapsWith e (some (.Name x pos')) pos.line X.env=pure false:=by rfl) (hf:X.fn x=true\/X.env.scope.names.lookup x=some .local:=by first | exact .inl rfl | exact .inr rfl | assumption) :
  PS X (.Assign [.Name x pos'] e pos) (vq te (jP i)):=by
 intro pins s σ H D I h
 refine wpAny_Assign_Name (aT (he pins s σ H _ I h) fun v s1 ⟨y,H1,I1,r1,q1⟩=>?_) hs
 exact ju I1 hN hi hx r1 (fun s2 I2=>⟨_,H1,I2,q1⟩) hf
end
section
variable {X:Cx} {pos:Pos}
noncomputable def vo (c:TT) (tb:TS):TS:=fun D σ H=>∃ W:Nat->St->Hp->Prop,(∃ m,W m σ H)/\∀ m σ H,W m σ H ->
 c σ H fun b H1=>if b=true then ∃ N:St->Hp->Prop,(∀ σ' H',N σ' H'->∃ m',m'<m/\W m' σ' H')/\tb { D with nx:=N,ct:=N,bk:=D.nx } σ H1 else D.nx σ H1
theorem wc {c:Expr} {body:List Stmt} {tc:TT} {tb:TS} (hp:PassesOwn (model X.prog X.w) X.A X.env X.xe) (hc:PT X c tc) (hb:j5 X body tb):PS X (.While c body [] pos) (vo tc tb):=by
 intro pins s σ H D I h
 obtain ⟨W,⟨m0,w0⟩,turn⟩:=h
 refine wpAny_While (codeAny_whileLoop (fun n s'=>∃ σ' H',Inv X pins σ' H' s'/\W n σ' H') ?_ m0 ⟨σ,H,I,w0⟩)
 rintro n s1 ⟨σ1,H1,I1,w1⟩
 refine wpAny_passesOwn hp (aT (hc pins s1 σ1 H1 _ I1 (turn n σ1 H1 w1)) fun b s2 ⟨H2,I2,q2⟩=>?_)
 cases b with
 | true =>
  obtain ⟨N,hN,q2⟩:=q2
  rw [if_pos rfl]
  refine wpAny_passesOwn hp (aT (hb pins s2 σ1 H2 _ I2 q2) fun f s3 q3=>?_)
  cases f with
  | next =>
   obtain ⟨σ3,H3,I3,n3⟩:=q3
   obtain ⟨m',hm,w3⟩:=hN σ3 H3 n3
   exact ⟨m',hm,σ3,H3,I3,w3⟩
  | cont =>
   obtain ⟨σ3,H3,I3,n3⟩:=q3
   obtain ⟨m',hm,w3⟩:=hN σ3 H3 n3
   exact ⟨m',hm,σ3,H3,I3,w3⟩
  | brk=>exact q3
  | ret v=>exact q3
 | false =>
  rw [if_neg Bool.false_ne_true]
  exact wpAny_execs_nil ⟨σ1,H2,I2,q2⟩
end
structure It where
 go:Nat->Hp->Prop
 KH:Nat->Hp->V->Hp->Prop
 stop:Nat->Hp->Prop
noncomputable def j6 (X:Cx) (pins:List (Addr×Obj)) (H:Hp) (b:Addr):Prop :=
 H b=none/\b≠X.env.locals/\b∉X.fs/\(b∈X.ex\/X.s₀.heap.objs.size<=b)/\(∀ x c,X.env.cells.lookup x=some c->c≠b)/\∀ p∈X.pn++pins,p.1≠b
theorem Inv.uF {X:Cx} {pins:List (Addr×Obj)} {σ:St} {H H':Hp} {s:Shared} {b:Addr} (I:Inv X pins σ H s) (hb:s.heap.objs.size<=b) (hn:H' b=none):j6 X pins H' b:=by
 refine ⟨hn,Nat.ne_of_gt (Nat.lt_of_lt_of_le I.lt hb),I.IV hb,.inr (Nat.le_trans I.sz hb),fun x c e z=>?_,fun p hp z=>?_⟩
 ·obtain ⟨v,q⟩:=I.cell x c e
  exact absurd (Nat.lt_of_lt_of_le q.lt (by rw [z];exact hb)) (Nat.lt_irrefl _)
 ·exact absurd (Nat.lt_of_lt_of_le (Heap.lt_size (I.pin p hp).1) (by rw [z];exact hb)) (Nat.lt_irrefl _)
structure Turn (P:Program) (w:World) (K:PySem.W.Frag) (tg:Expr) (J:It) (fp:List Addr) (it:Addr) (tn:Nat->Heap->Prop):Prop where
 mem:it∈fp
 obj:∀ i h,tn i h->∀ b∈fp,∃ o,h.get? b=some o/\∀ v,o.data≠.cell v
 keep:∀ i h h',tn i h->(∀ b∈fp,∀ o,h.get? b=some o->h'.get? b=some o)->tn i h'
 item:∀ (X:Cx),X.prog=P->X.w=w->X.K=K->X.calm=true->∀ (i:Nat) (pins:List (Addr×Obj)) (s:Shared) (σ:St) (H:Hp) (E:Value->Shared->Prop),Inv X pins σ H s->(∀ b∈fp,j6 X pins H b)->tn i s.heap->J.go i H ->
  wpAny (model P w) X.A (pyNext (.ref it)) (fun r s1=>∃ u,r=some u /\
   wpAny (model P w) X.A (letOwnedTupleGo tg (.ref it) u) (fun _ s2=>∃ x H',Inv X pins σ H' s2/\RelV x u/\J.KH i H x H'/\tn (i+1) s2.heap/\∀ b∈fp,H' b=none) E s1) E s
 done:∀ (X:Cx),X.prog=P->X.w=w->X.K=K->X.calm=true->∀ (i:Nat) (pins:List (Addr×Obj)) (s:Shared) (σ:St) (H:Hp) (E:Value->Shared->Prop),Inv X pins σ H s->(∀ b∈fp,j6 X pins H b)->tn i s.heap->J.stop i H ->
  wpAny (model P w) X.A (pyNext (.ref it)) (fun r s1=>r=none/\Inv X pins σ H s1) E s
 self:∀ (A:Around) (i:Nat) (s:Shared) (Q:Value->Shared->Prop) (E:Value->Shared->Prop),tn i s.heap->Q (.ref it) s->wpAny (model P w) A (pyIter (.ref it)) Q E s
noncomputable abbrev TI:=St->Hp->(It->Hp->Prop)->Prop
noncomputable def PIE (X:Cx) (pins:List (Addr×Obj)) (σ:St) (tg:Expr) (R:It->Hp->Prop) (itv:Value) (s2:Shared):Prop :=
 ∃ (it:Addr) (fp:List Addr) (tn:Nat->Heap->Prop) (J:It) (H':Hp),itv=.ref it/\Inv X pins σ H' s2/\Turn X.prog X.w X.K tg J fp it tn/\tn 0 s2.heap/\(∀ b∈fp,j6 X pins H' b)/\R J H'
noncomputable def PI (X:Cx) (tg iter:Expr) (wi:TI):Prop :=
 ∀ (pins:List (Addr×Obj)) (s:Shared) (σ:St) (H:Hp) (R:It->Hp->Prop),Inv X pins σ H s->wi σ H R ->
  wpAny (model X.prog X.w) X.A (eval iter X.env) (fun v s1=>wpAny (model X.prog X.w) X.A (pyIter v) (PIE X pins σ tg R) X.xe s1) X.xe s
theorem oz {M:Model} {A:Around} {E:Value->Shared->Prop} {s:Shared} {tg:Expr} {it:Addr} {u:Value} {o:Obj} {n:String} {vs:Array Value} {Q:Unit->Shared->Prop} (ho:s.heap.get? it=some o) (hc:o.cls=.type n) (hd:o.data=.fields vs)
    (hn:["enumerate", "zip", "dict_itemiterator", "dict_reverseitemiterator", "odict_iterator", "itertools.zip_longest", "itertools.pairwise"].contains n=false) (hQ:Q () s):wpAny M A (letOwnedTupleGo tg (.ref it) u) Q E s:=by
  unfold letOwnedTupleGo
  cases tg <;> first
    | exact wpAny_pure hQ
    | (cases u <;> first
        | exact wpAny_pure hQ
        | (refine wpAny_bind (wpAny_load ho ?_)
           rw [hc,hd]
           show wpAny M A (if (["enumerate", "zip", "dict_itemiterator", "dict_reverseitemiterator", "odict_iterator", "itertools.zip_longest", "itertools.pairwise"].contains n&&vs[0]? == some (rawInt _))=true then _ else _) Q E s
           rw [if_neg (by intro h;rw [hn,Bool.false_and] at h;cases h)]
           exact wpAny_pure hQ))
noncomputable def Itl (K:PySem.W.Frag) (a:Addr):It :=
 ⟨fun i H=>∃ xs x,eV K H a xs/\xs[i]? = some x,fun i H x H'=>H'=H/\∀ xs,eV K H a xs->xs[i]? = some x,fun i H=>∃ xs,eV K H a xs/\xs.length<=i⟩
noncomputable def Itt (K:PySem.W.Frag) (a:Addr):It :=
 ⟨fun i H=>∃ xs x,gr K H a xs/\xs[i]? = some x,fun i H x H'=>H'=H/\∀ xs,gr K H a xs->xs[i]? = some x,fun i H=>∃ xs,gr K H a xs/\xs.length<=i⟩
theorem tV {P:Program} {w:World} {K:PySem.W.Frag} {tg:Expr} (a it:Addr):Turn P w K tg (Itl K a) [it] it (fun i h=>h.IsListIter it a i) where
 mem:=by simp
 obj:=fun i h st b hb=>by
  have e:b=it:=by simpa using hb
  subst e
  obtain ⟨o,e,c,d⟩:=st
  exact ⟨o,e,fun v z=>by rw [d] at z;cases z⟩
 keep:=fun i h h' st k=>st.at fun o e=>k it (by simp) o e
 item:=by
  intro X hP hw hK hc i pins s σ H E I hf st hg
  subst hP hw hK
  obtain ⟨xs,x,hq,hx⟩:=hg
  obtain ⟨its,rv,p,hz⟩:=I.list hq
  obtain ⟨u,hu,ru⟩:=rv.get hx
  obtain ⟨f0,f1,f2,f3,f4,f5⟩:=hf it (by simp)
  refine wpAny_pyNext_list_item st p.isList (x:=u) (by simpa using hu) fun h' st' sb=>?_
  have I1:Inv X pins σ H { s with heap:=h' }:=I.turned (t':=s.toks) (fun b o hb e=>(sb.2 b hb).trans e) f0 f1 f3 f4 f5
  obtain ⟨o,e,c,d⟩:=id st'
  exact ⟨u,rfl,oz (s:={ s with heap:=h' }) e c d (by decide) ⟨x,H,I1,ru,⟨rfl,fun ys hy=>by rw [I.ou hy hq];exact hx⟩,st',fun b hb=>(hf b hb).1⟩⟩
 done:=by
  intro X hP hw hK hc i pins s σ H E I hf st hg
  subst hP hw hK
  obtain ⟨xs,hq,hx⟩:=hg
  obtain ⟨its,rv,p,hz⟩:=I.list hq
  obtain ⟨f0,f1,f2,f3,f4,f5⟩:=hf it (by simp)
  have hl:=rv.length
  exact wpAny_pyNext_list_end (I.ok.hd hc) st p.isList (by simp;omega) fun h' eb=>⟨rfl,I.turned (t':=s.toks) (fun b o hb e=>eb b o hb e) f0 f1 f3 f4 f5⟩
 self:=fun _ _ _ _ _ st h=>wpAny_pyIter_listiter st h
theorem pC {P:Program} {w:World} {K:PySem.W.Frag} {tg:Expr} (a it:Addr):Turn P w K tg (Itt K a) [it] it (fun i h=>h.IsTupleIter it a i) where
 mem:=by simp
 obj:=fun i h st b hb=>by
  have e:b=it:=by simpa using hb
  subst e
  obtain ⟨o,e,c,d⟩:=st
  exact ⟨o,e,fun v z=>by rw [d] at z;cases z⟩
 keep:=fun i h h' st k=>st.at fun o e=>k it (by simp) o e
 item:=by
  intro X hP hw hK hc i pins s σ H E I hf st hg
  subst hP hw hK
  obtain ⟨xs,x,hq,hx⟩:=hg
  obtain ⟨its,rv,p,hz⟩:=I.tuple hq
  obtain ⟨u,hu,ru⟩:=rv.get hx
  obtain ⟨f0,f1,f2,f3,f4,f5⟩:=hf it (by simp)
  refine wpAny_pyNext_tuple_item st (show s.heap.IsTuple a its.toArray from p) (x:=u) (by simpa using hu) fun h' st' sb=>?_
  have I1:Inv X pins σ H { s with heap:=h' }:=I.turned (t':=s.toks) (fun b o hb e=>(sb.2 b hb).trans e) f0 f1 f3 f4 f5
  obtain ⟨o,e,c,d⟩:=id st'
  exact ⟨u,rfl,oz (s:={ s with heap:=h' }) e c d (by decide) ⟨x,H,I1,ru,⟨rfl,fun ys hy=>by rw [I.kr hy hq];exact hx⟩,st',fun b hb=>(hf b hb).1⟩⟩
 done:=by
  intro X hP hw hK hc i pins s σ H E I hf st hg
  subst hP hw hK
  obtain ⟨xs,hq,hx⟩:=hg
  obtain ⟨its,rv,p,hz⟩:=I.tuple hq
  obtain ⟨f0,f1,f2,f3,f4,f5⟩:=hf it (by simp)
  have hl:=rv.length
  exact wpAny_pyNext_tuple_end (I.ok.hd hc) st (show s.heap.IsTuple a its.toArray from p) (by simp;omega) fun h' eb=>⟨rfl,I.turned (t':=s.toks) (fun b o hb e=>eb b o hb e) f0 f1 f3 f4 f5⟩
 self:=fun _ _ _ _ _ st h=>wpAny_pyIter_tupleiter st h
section
variable {X:Cx} {tg:Expr}
noncomputable def HG (wi:TI) (g:TG) (tb:TS):TS:=fun D σ H=>wi σ H fun J H1=>∃ W:Nat->Nat->St->Hp->Prop,(∃ m,W 0 m σ H1)/\∀ i m σ H,W i m σ H ->
 (J.stop i H/\D.nx σ H)\/(J.go i H/\∃ N:St->Hp->Prop,(∀ σ' H',N σ' H'->∃ m',m'<m/\W (i+1) m' σ' H')/\∀ x H',J.KH i H x H'->g x σ H' fun σ2 H2=>tb { D with nx:=N,ct:=N,bk:=D.nx } σ2 H2)
noncomputable def jB (fp:List Addr) (h:Heap):List (Addr×Obj):=fp.filterMap fun b=>(h.get? b).map fun o=>(b,o)
theorem ek {fp:List Addr} {h:Heap} {b:Addr} {o:Obj} (hb:b∈fp) (e:h.get? b=some o):(b,o)∈jB fp h:=List.mem_filterMap.mpr ⟨b,hb,by rw [e];rfl⟩
theorem uo {fp:List Addr} {h:Heap} {p:Addr×Obj} (hp:p∈jB fp h):p.1∈fp/\h.get? p.1=some p.2:=by
 obtain ⟨b,hb,e⟩:=List.mem_filterMap.mp hp
 cases q:h.get? b with
 | none=>rw [q] at e;cases e
 | some o =>
  rw [q] at e
  have e':(b,o)=p:=Option.some.inj e
  subst e'
  exact ⟨hb,q⟩
theorem Inv.pinned {pins:List (Addr×Obj)} {σ:St} {H:Hp} {s:Shared} {fp:List Addr} (I:Inv X pins σ H s) (hf:∀ b∈fp,j6 X pins H b) (ho:∀ b∈fp,∃ o,s.heap.get? b=some o/\∀ v,o.data≠.cell v):Inv X (pins++jB fp s.heap) σ H s :=
 I.rV fun p hp=>(List.mem_append.mp hp).elim (fun z=>I.pin p (List.mem_append_right _ z)) fun z=>by
  obtain ⟨hb,e⟩:=uo z
  obtain ⟨f0,f1,f2,_⟩:=hf p.1 hb
  obtain ⟨o,e',d⟩:=ho p.1 hb
  rw [e] at e';cases e'
  exact ⟨e,f0,f1,f2,d⟩
theorem Inv.gy {pins pl:List (Addr×Obj)} {σ:St} {H:Hp} {s:Shared} (I:Inv X (pins++pl) σ H s):Inv X pins σ H s:=I.rV fun p hp=>I.pin p (List.mem_append_right _ (List.mem_append_left _ hp))
theorem D0 {iter:Expr} {body:List Stmt} {wi:TI} {g:TG} {tb:TS} {pos:Pos} (hp:PassesOwn (model X.prog X.w) X.A X.env X.xe) (hc:X.calm=true) (hi:PI X tg iter wi) (hg:PG X tg g) (hb:j5 X body tb)
  (hs:∀ x,foldedSetIterable iter X.env x=pure x:=by intro _;rfl):PS X (.For tg iter body [] pos) (HG wi g tb):=by
 intro pins s σ H D I h
 refine wpAny_For (aT (hi pins s σ H _ I h) fun v s1 h1=>aT h1 fun itv s2 h2=>?_) hs
 obtain ⟨it,fp,tn,J,H2,e,I2,T,st2,f2,W,⟨m0,w0⟩,turn⟩:=h2
 subst e
 have stat:∀ {H':Hp},(∀ b∈fp,H' b=none)->∀ b∈fp,j6 X pins H' b:=fun hn b hb=>⟨hn b hb,(f2 b hb).2⟩
 refine codeAny_forLoop_any (fun n s'=>∃ i σ' H',Inv X pins σ' H' s'/\tn i s'.heap/\(∀ b∈fp,H' b=none)/\W i n σ' H') ?_ m0 ⟨0,σ,H2,I2,st2,fun b hb=>(f2 b hb).1,w0⟩
 rintro n s3 ⟨i,σ3,H3,I3,st3,JB,w3⟩
 rcases turn i n σ3 H3 w3 with ⟨stop,qn⟩ | ⟨go,N,hN,step⟩
 ·refine wpAny_passesOwn hp (aT (T.done X rfl rfl rfl hc i pins s3 σ3 H3 X.xe I3 (stat JB) st3 stop) fun r s4 ⟨hr,I4⟩=>?_)
  subst hr
  exact wpAny_execs_nil ⟨σ3,H3,I4,qn⟩
 ·refine wpAny_passesOwn hp (aT (T.item X rfl rfl rfl hc i pins s3 σ3 H3 X.xe I3 (stat JB) st3 go) fun r s4 ⟨u,hr,h4⟩=>?_)
  subst hr
  refine wpAny_passesOwn hp (aT h4 fun _ s5 ⟨x,H5,I5,r5,y5,Dp,fr5⟩=>?_)
  have I5':=I5.pinned (stat fr5) (T.obj _ _ Dp)
  refine wpAny_passesOwn hp (aT (hg _ s5 σ3 H5 x u _ I5' r5 (step x H5 y5)) fun _ s6 ⟨σ6,H6,I6,q6⟩=>?_)
  refine wpAny_passesOwn hp (aT (hb _ s6 σ6 H6 _ I6 q6) fun f s7 q7=>?_)
  have again:∀ {σ7:St} {H7:Hp},Inv X (pins++jB fp s5.heap) σ7 H7 s7->N σ7 H7->∃ m,m<n/\∃ i σ' H',Inv X pins σ' H' s7/\tn i s7.heap/\(∀ b∈fp,H' b=none)/\W i m σ' H':=fun {σ7 H7} I7 n7=>by
   obtain ⟨m',hm,w7⟩:=hN σ7 H7 n7
   refine ⟨m',hm,i+1,σ7,H7,I7.gy,T.keep _ _ _ Dp fun b hb o e=>(I7.pin (b,o) (List.mem_append_right _ (List.mem_append_right _ (ek hb e)))).1,fun b hb=>?_,w7⟩
   obtain ⟨o,e,d⟩:=T.obj _ _ Dp b hb
   exact (I7.pin (b,o) (List.mem_append_right _ (List.mem_append_right _ (ek hb e)))).2.1
  cases f with
  | next=>obtain ⟨σ7,H7,I7,n7⟩:=q7;exact again I7 n7
  | cont=>obtain ⟨σ7,H7,I7,n7⟩:=q7;exact again I7 n7
  | brk=>obtain ⟨σ7,H7,I7,q7⟩:=q7;exact ⟨σ7,H7,I7.gy,q7⟩
  | ret v=>obtain ⟨x7,σ7,H7,I7,r7,q7⟩:=q7;exact ⟨x7,σ7,H7,I7.gy,r7,q7⟩
end
noncomputable abbrev R2:=V->V->Hp->VK->Prop
noncomputable def dY (X:Cx) (f:Value->Value->Sem Value) (r:R2):Prop :=
 ∀ (pins:List (Addr×Obj)) (s:Shared) (σ:St) (H:Hp) (x y:V) (v u:Value) (Q:VK),Inv X pins σ H s->RelV x v->RelV y u->r x y H Q ->
  wpAny (model X.prog X.w) X.A (f v u) (EP X pins σ Q) X.xe s
noncomputable def UnR (X:Cx) (f:Value->Sem Value) (r:V->Hp->VK->Prop):Prop :=
 ∀ (pins:List (Addr×Obj)) (s:Shared) (σ:St) (H:Hp) (x:V) (v:Value) (Q:VK),Inv X pins σ H s->RelV x v->r x H Q ->
  wpAny (model X.prog X.w) X.A (f v) (EP X pins σ Q) X.xe s
noncomputable def bW (X:Cx) (f:Value) (r:List V->Hp->VK->Prop):Prop :=
 ∀ (pins:List (Addr×Obj)) (s:Shared) (σ:St) (H:Hp) (xs:List V) (us:List Value) (Q:VK),Inv X pins σ H s->Vals xs us->r xs H Q ->
  wpAny (model X.prog X.w) X.A (call f us) (EP X pins σ Q) X.xe s
noncomputable def Di (r:R2) (ta tb:TE):TE:=fun σ H Q=>ta σ H fun x H1=>tb σ H1 fun y H2=>r x y H2 Q
noncomputable def tUn (r:V->Hp->VK->Prop) (ta:TE):TE:=fun σ H Q=>ta σ H fun x H1=>r x H1 Q
noncomputable def rI (C:Int->Int->Prop) (g:Int->Int->V):R2:=fun x y H Q=>∃ i j,x=.int i/\y=.int j/\C i j/\Q (g i j) H
noncomputable def pT (g:Int->Int->V):R2:=fun x y H Q=>∃ i j,x=.int i/\y=.int j/\Q (g i j) H
noncomputable def rU (g:Int->V):V->Hp->VK->Prop:=fun x H Q=>∃ i,x=.int i/\Q (g i) H
section
variable {X:Cx} {a b c:Expr} {ta tb tc:TE} {pos:Pos}
theorem GC (ha:PE X a ta) (hb:PE X b tb) {pins:List (Addr×Obj)} {s:Shared} {σ:St} {H:Hp} {R:V->V->Hp->Prop} (I:Inv X pins σ H s)
  (h:ta σ H fun x H1=>tb σ H1 fun y H2=>R x y H2) {Q:Value->Shared->Prop} {f:Value->Value->Sem Value}
  (hf:∀ v u s2 x y H2,Inv X pins σ H2 s2->RelV x v->RelV y u->R x y H2->wpAny (model X.prog X.w) X.A (f v u) Q X.xe s2) :
  wpAny (model X.prog X.w) X.A (eval a X.env) (fun v s₁=>wpAny (model X.prog X.w) X.A (eval b X.env) (fun u s₂=>wpAny (model X.prog X.w) X.A (f v u) Q X.xe s₂) X.xe s₁) X.xe s:=by
 refine aT (ha pins s σ H _ I h) fun v s1 ⟨x,H1,I1,r1,q1⟩=>?_
 refine aT (hb pins s1 σ H1 _ I1 q1) fun u s2 ⟨y,H2,I2,r2,q2⟩=>?_
 exact hf v u s2 x y H2 I2 r1 r2 q2
theorem IE {op:Operator} {r:R2} (ho:dY X (binaryOp op) r) (ha:PE X a ta) (hb:PE X b tb):PE X (.BinOp a op b pos) (Di r ta tb):=by
 intro pins s σ H Q I h
 exact wpAny_BinOp (GC ha hb I h fun v u s2 x y H2 I2 rx ry q=>ho pins s2 σ H2 x y v u Q I2 rx ry q)
theorem IC {op:UnaryOp} {r:V->Hp->VK->Prop} (ho:UnR X (unaryOp op) r) (ha:PE X a ta):PE X (.UnaryOp op a pos) (tUn r ta):=by
 intro pins s σ H Q I h
 exact UnaryOp_ (aT (ha pins s σ H _ I h) fun v s1 ⟨x,H1,I1,r1,q1⟩=>ho pins s1 σ H1 x v Q I1 r1 q1)
theorem IT {f:Value->Value->Sem Value} {C:Int->Int->Prop} {g:Int->Int->Int}
  (rule:∀ (i j:Int) (t u:Tok) (s:Shared) (Q:Value->Shared->Prop) (E:Value->Shared->Prop),C i j->Q (.int (g i j) s.toks) { s with toks:=s.toks+1 }->wpAny (model X.prog X.w) X.A (f (.int i t) (.int j u)) Q E s) :
  dY X f (rI C fun i j=>.int (g i j)):=by
 intro pins s σ H x y v u Q I rx ry h
 obtain ⟨i,j,rfl,rfl,hc,q⟩:=h
 obtain ⟨t,rfl⟩:=rx
 obtain ⟨t',rfl⟩:=ry
 exact rule i j t t' s _ _ hc ⟨.int (g i j),H,I.tok _,⟨_,rfl⟩,q⟩
theorem IS {f:Value->Value->Sem Value} {g:Int->Int->Int}
  (rule:∀ (i j:Int) (t u:Tok) (s:Shared) (Q:Value->Shared->Prop) (E:Value->Shared->Prop),Q (.int (g i j) s.toks) { s with toks:=s.toks+1 }->wpAny (model X.prog X.w) X.A (f (.int i t) (.int j u)) Q E s) :
  dY X f (pT fun i j=>.int (g i j)):=by
 intro pins s σ H x y v u Q I rx ry h
 obtain ⟨i,j,rfl,rfl,q⟩:=h
 obtain ⟨t,rfl⟩:=rx
 obtain ⟨t',rfl⟩:=ry
 exact rule i j t t' s _ _ ⟨.int (g i j),H,I.tok _,⟨_,rfl⟩,q⟩
theorem AI {f:Value->Value->Sem Value} {g:Int->Int->Bool}
  (rule:∀ (i j:Int) (t u:Tok) (s:Shared) (Q:Value->Shared->Prop) (E:Value->Shared->Prop),Q (.bool (g i j)) s->wpAny (model X.prog X.w) X.A (f (.int i t) (.int j u)) Q E s) :
  dY X f (pT fun i j=>.bl (g i j)):=by
 intro pins s σ H x y v u Q I rx ry h
 obtain ⟨i,j,rfl,rfl,q⟩:=h
 obtain ⟨t,rfl⟩:=rx
 obtain ⟨t',rfl⟩:=ry
 exact rule i j t t' s _ _ ⟨.bl (g i j),H,I,rfl,q⟩
noncomputable def KG (i j:Int):Prop:=0<j/\j<1073741824
noncomputable def KC (i j:Int):Prop:=0<=j/\j<=1000000/\i.natAbs<2 ^ 64
noncomputable def BW (i j:Int):Prop:=(-(2 ^ 64)<i/\i<2 ^ 64)\/(-(2 ^ 64)<j/\j<2 ^ 64)
theorem BW.ok {i j:Int} (h:BW i j):IntMulOk i j:=by
 rcases h with ⟨h1,h2⟩ | ⟨h1,h2⟩
 ·exact .of_left (intBits_le_64 h1 h2)
 ·exact .of_right (intBits_le_64 h1 h2)
theorem ED:dY X (binaryOp .Add) (pT fun i j=>.int (i+j)):=IS fun _ _ _ _ _ _ _ q=>add_int q
theorem Ek:dY X (binaryOp .Sub) (pT fun i j=>.int (i-j)):=IS fun _ _ _ _ _ _ _ q=>sub_int q
theorem Ep:dY X (binaryOp .Mult) (rI BW fun i j=>.int (i*j)):=IT fun _ _ _ _ _ _ _ hc q=>mul_int q hc.ok
theorem AF:dY X (binaryOp .FloorDiv) (rI KG fun i j=>.int (i / j)):=IT fun i j _ _ _ _ _ hc q=>by
 have h1:(0:Int)<j:=hc.1
 have h2:j<1073741824:=hc.2
 exact floordiv_int (by omega) (by rw [Int.fdiv_eq_ediv_of_nonneg i (by omega)];exact q) (.inl (PyProof.noPylong_small (by omega)))
theorem Er:dY X (binaryOp .Mod) (rI (fun _ j=>0<j) fun i j=>.int (i % j)):=IT fun i j _ _ _ _ _ hc q=>by
 have h1:(0:Int)<j:=hc
 exact mod_int' (by omega) (by rw [Int.fmod_eq_emod_of_nonneg i (by omega)];exact q)
theorem El:dY X (binaryOp .Pow) (rI KC fun i j=>.int (i ^ j.toNat)):=IT fun _ _ _ _ _ _ _ hc q=>pow_int_small hc.1 hc.2.1 hc.2.2 q
theorem unI {f:Value->Sem Value} {g:Int->Int}
  (rule:∀ (i:Int) (t:Tok) (s:Shared) (Q:Value->Shared->Prop) (E:Value->Shared->Prop),Q (.int (g i) s.toks) { s with toks:=s.toks+1 }->wpAny (model X.prog X.w) X.A (f (.int i t)) Q E s) :
  UnR X f (rU fun i=>.int (g i)):=by
 intro pins s σ H x v Q I rx h
 obtain ⟨i,rfl,q⟩:=h
 obtain ⟨t,rfl⟩:=rx
 exact rule i t s _ _ ⟨.int (g i),H,I.tok _,⟨_,rfl⟩,q⟩
theorem De:UnR X (unaryOp .USub) (rU fun i=>.int (-i)):=unI fun _ _ _ _ _ q=>neg_int q
end
noncomputable def HU:V->V->Bool
 | .ao,.ao=>true | .ao,.int _=>true | .int _,.ao=>true | .ao,.bl _=>true | .bl _,.ao=>true | .ao,.str _=>true | .str _,.ao=>true
 | .int _,.int _=>true | .bl _,.bl _=>true | .str _,.str _=>true | .uY _,.uY _=>true
 | .int _,.str _=>true | .str _,.int _=>true | .bl _,.str _=>true | .str _,.bl _=>true
 | _,_=>false
noncomputable def rEq:R2:=fun x y H Q=>HU x y=true/\Q (.bl (decide (x=y))) H
noncomputable def rNe:R2:=fun x y H Q=>HU x y=true/\Q (.bl (!decide (x=y))) H
theorem tw {i j:Int}:decide (V.int i=V.int j)=(i == j):=by
 rw [Bool.eq_iff_iff]
 simp
theorem mS {i j:Bool}:decide (V.bl i=V.bl j)=(i == j):=by
 rw [Bool.eq_iff_iff]
 simp
theorem tu {i j:Str}:decide (V.str i=V.str j)=(i == j):=by
 rw [Bool.eq_iff_iff]
 simp
theorem tD {i j:Array UInt8}:decide (V.uY i=V.uY j)=(i.toList == j.toList):=by
 rw [Bool.eq_iff_iff]
 cases i
 cases j
 simp
section
variable {X:Cx} {a b c:Expr} {ta tb tc:TE} {pos:Pos}
theorem az {pins:List (Addr×Obj)} {σ:St} {H:Hp} {s:Shared} {Q:VK} {k k':Bool} (I:Inv X pins σ H s) (q:Q (.bl k) H) (e:k=k'):EP X pins σ Q (.bool k') s:=by
 subst e
 exact ⟨.bl k,H,I,rfl,q⟩
theorem IQ:dY X (compareOp .Eq) rEq:=by
 intro pins s σ H x y v u Q I rx ry h
 obtain ⟨hs,q⟩:=h
 cases x with
 | ao =>
  cases rx
  cases y with
  | ao=>cases ry;exact PySem.EqNone.eq_none_none (az I q (by simp))
  | bl j=>cases ry;exact PySem.EqNone.eq_none_bool (az I q (by simp))
  | int j=>obtain ⟨t',rfl⟩:=ry;exact PySem.EqNone.eq_none_int (az I q (by simp))
  | str j=>obtain ⟨t',rfl⟩:=ry;exact PySem.EqNone.eq_none_str (az I q (by simp))
  | _=>exact absurd (show false=true from hs) Bool.false_ne_true
 | bl i =>
  cases rx
  cases y with
  | ao=>cases ry;exact PySem.EqNone.eq_bool_none (az I q (by simp))
  | bl j=>cases ry;exact eq_bool (az I q mS)
  | str j=>obtain ⟨t',rfl⟩:=ry;exact PySem.EqMixed.eq_bool_str (az I q (by simp))
  | _=>exact absurd (show false=true from hs) Bool.false_ne_true
 | int i =>
  obtain ⟨t,rfl⟩:=rx
  cases y with
  | ao=>cases ry;exact PySem.EqNone.eq_int_none (az I q (by simp))
  | int j=>obtain ⟨t',rfl⟩:=ry;exact eq_int (az I q tw)
  | str j=>obtain ⟨t',rfl⟩:=ry;exact PySem.EqMixed.eq_int_str (az I q (by simp))
  | _=>exact absurd (show false=true from hs) Bool.false_ne_true
 | str i =>
  obtain ⟨t,rfl⟩:=rx
  cases y with
  | ao=>cases ry;exact PySem.EqNone.eq_str_none (az I q (by simp))
  | bl j=>cases ry;exact PySem.EqMixed.eq_str_bool (az I q (by simp))
  | int j=>obtain ⟨t',rfl⟩:=ry;exact PySem.EqMixed.eq_str_int (az I q (by simp))
  | str j=>obtain ⟨t',rfl⟩:=ry;exact eq_str (az I q tu)
  | _=>exact absurd (show false=true from hs) Bool.false_ne_true
 | uY i =>
  obtain ⟨t,rfl⟩:=rx
  cases y with
  | uY j=>obtain ⟨t',rfl⟩:=ry;exact PySem.W.eq_bytes (az I q tD)
  | _=>exact absurd (show false=true from hs) Bool.false_ne_true
 | _=>cases y <;> exact absurd (show false=true from hs) Bool.false_ne_true
theorem IJ:dY X (compareOp .NotEq) rNe:=by
 intro pins s σ H x y v u Q I rx ry h
 obtain ⟨hs,q⟩:=h
 cases x with
 | ao =>
  cases rx
  cases y with
  | ao=>cases ry;exact PySem.EqNone.ne_none_none (az I q (by simp))
  | bl j=>cases ry;exact PySem.EqNone.ne_none_bool (az I q (by simp))
  | int j=>obtain ⟨t',rfl⟩:=ry;exact PySem.EqNone.ne_none_int (az I q (by simp))
  | str j=>obtain ⟨t',rfl⟩:=ry;exact PySem.EqNone.ne_none_str (az I q (by simp))
  | _=>exact absurd (show false=true from hs) Bool.false_ne_true
 | bl i =>
  cases rx
  cases y with
  | ao=>cases ry;exact PySem.EqNone.ne_bool_none (az I q (by simp))
  | bl j=>cases ry;exact ne_bool (az I q (congrArg not mS))
  | str j=>obtain ⟨t',rfl⟩:=ry;exact PySem.EqMixed.ne_bool_str (az I q (by simp))
  | _=>exact absurd (show false=true from hs) Bool.false_ne_true
 | int i =>
  obtain ⟨t,rfl⟩:=rx
  cases y with
  | ao=>cases ry;exact PySem.EqNone.ne_int_none (az I q (by simp))
  | int j=>obtain ⟨t',rfl⟩:=ry;exact ne_int (az I q (congrArg not tw))
  | str j=>obtain ⟨t',rfl⟩:=ry;exact PySem.EqMixed.ne_int_str (az I q (by simp))
  | _=>exact absurd (show false=true from hs) Bool.false_ne_true
 | str i =>
  obtain ⟨t,rfl⟩:=rx
  cases y with
  | ao=>cases ry;exact PySem.EqNone.ne_str_none (az I q (by simp))
  | bl j=>cases ry;exact PySem.EqMixed.ne_str_bool (az I q (by simp))
  | int j=>obtain ⟨t',rfl⟩:=ry;exact PySem.EqMixed.ne_str_int (az I q (by simp))
  | str j=>obtain ⟨t',rfl⟩:=ry;exact ne_str (az I q (congrArg not tu))
  | _=>exact absurd (show false=true from hs) Bool.false_ne_true
 | uY i =>
  obtain ⟨t,rfl⟩:=rx
  cases y with
  | uY j=>obtain ⟨t',rfl⟩:=ry;exact PySem.W.ne_bytes (az I q (congrArg not tD))
  | _=>exact absurd (show false=true from hs) Bool.false_ne_true
 | _=>cases y <;> exact absurd (show false=true from hs) Bool.false_ne_true
theorem IK:dY X (compareOp .Lt) (pT fun i j=>.bl (decide (i<j))):=AI fun _ _ _ _ _ _ _ q=>lt_int q
theorem IL:dY X (compareOp .LtE) (pT fun i j=>.bl (decide (i<=j))):=AI fun _ _ _ _ _ _ _ q=>le_int q
theorem IM:dY X (compareOp .Gt) (pT fun i j=>.bl (decide (j<i))):=AI fun _ _ _ _ _ _ _ q=>gt_int q
theorem IP:dY X (compareOp .GtE) (pT fun i j=>.bl (decide (j<=i))):=AI fun _ _ _ _ _ _ _ q=>ge_int q
theorem Et:dY X (compareOp .Is) (fun x y H Q=>y=.ao/\Q (.bl (decide (x=.ao))) H):=by
 intro pins s σ H x y v u Q I rx ry h
 obtain ⟨rfl,q⟩:=h
 cases ry
 refine is_none_gen (az I q ?_)
 cases x <;> first
  | (cases rx;rfl)
  | (obtain ⟨t,rfl⟩:=rx;rfl)
theorem AB:dY X (compareOp .IsNot) (fun x y H Q=>y=.ao/\Q (.bl (!decide (x=.ao))) H):=by
 intro pins s σ H x y v u Q I rx ry h
 obtain ⟨rfl,q⟩:=h
 cases ry
 refine isnot_none_gen (az I q ?_)
 cases x <;> first
  | (cases rx;rfl)
  | (obtain ⟨t,rfl⟩:=rx;rfl)
theorem dY.or {f:Value->Value->Sem Value} {r r':R2} (h:dY X f r) (h':dY X f r'):dY X f (fun x y H Q=>r x y H Q\/r' x y H Q):=by
 intro pins s σ H x y v u Q I rx ry q
 rcases q with q | q
 ·exact h pins s σ H x y v u Q I rx ry q
 ·exact h' pins s σ H x y v u Q I rx ry q
theorem Ay {op:CmpOp} {r:R2} (ho:dY X (compareOp op) r) (ha:PE X a ta) (hb:PE X b tb) (hm:behindInMarks op b=false):PE X (.Compare a [op] [b] pos) (Di r ta tb):=by
 intro pins s σ H Q I h
 exact wpAny_Compare1 (GC ha hb I h fun v u s2 x y H2 I2 rx ry q=>ho pins s2 σ H2 x y v u Q I2 rx ry q) hm
noncomputable def Hz (t:TE):TT:=fun σ H Q=>t σ H fun x H'=>∃ k,x=.bl k/\Q k H'
theorem Al {op:CmpOp} {r:R2} (ho:dY X (compareOp op) r) (ha:PE X a ta) (hb:PE X b tb) (hm:behindInMarks op b=false):PT X (.Compare a [op] [b] pos) (Hz (Di r ta tb)):=by
 intro pins s σ H Q I h
 refine wpAny_isTrue_Compare1 (aT (ha pins s σ H _ I h) fun v s1 ⟨x,H1,I1,r1,q1⟩=>aT (hb pins s1 σ H1 _ I1 q1) fun u s2 ⟨y,H2,I2,r2,q2⟩ =>
  aT (ho pins s2 σ H2 x y v u _ I2 r1 r2 q2) fun c s3 ⟨z,H3,I3,r3,k,e,q3⟩=>?_) hm
 subst e
 cases r3
 exact wpAny_truthy_bool ⟨H3,I3,q3⟩
theorem ig:(sizeLine:Nat)<2 ^ 63:=by rw [sizeLine_eq];decide
theorem pZ:dY X (binaryOp .Add) (fun x y H Q=>∃ i j,x=.str i/\y=.str j/\i.length+j.length<=sizeLine/\Q (.str (i++j)) H):=by
 intro pins s σ H x y v u Q I rx ry h
 obtain ⟨i,j,rfl,rfl,hz,q⟩:=h
 obtain ⟨t,rfl⟩:=rx
 obtain ⟨t',rfl⟩:=ry
 exact add_str (fun t' tk=>⟨.str (i++j),H,I.tok _,⟨_,rfl⟩,q⟩) hz
theorem vals1 {x:V} {us:List Value} (r:Vals [x] us):∃ u,us=[u]/\RelV x u:=by
 cases r with
 | cons r1 r2=>cases r2;exact ⟨_,rfl,r1⟩
theorem vals2 {x y:V} {us:List Value} (r:Vals [x,y] us):∃ u w',us=[u,w']/\RelV x u/\RelV y w':=by
 cases r with
 | cons r1 r2 =>
  cases r2 with
  | cons r3 r4=>cases r4;exact ⟨_,_,rfl,r1,r3⟩
theorem uK (hc:X.calm=true):bW X (.builtin "max") (fun xs H Q=>∃ i j, xs=[.int i, .int j]/\Q (.int (if j > i then j else i)) H):=by
 intro pins s σ H xs us Q I r h
 obtain ⟨i,j,rfl,q⟩:=h
 obtain ⟨u,w',rfl,⟨t,rfl⟩,⟨t',rfl⟩⟩:=vals2 r
 refine max_two_ints (I.ok.hd hc) fun h' tk k=>⟨_,H,I.kept k,?_,q⟩
 by_cases hj:j > i
 ·rw [if_pos hj,if_pos hj];exact ⟨_,rfl⟩
 ·rw [if_neg hj,if_neg hj];exact ⟨_,rfl⟩
theorem uI (hc:X.calm=true):bW X (.builtin "min") (fun xs H Q=>∃ i j, xs=[.int i, .int j]/\Q (.int (if j<i then j else i)) H):=by
 intro pins s σ H xs us Q I r h
 obtain ⟨i,j,rfl,q⟩:=h
 obtain ⟨u,w',rfl,⟨t,rfl⟩,⟨t',rfl⟩⟩:=vals2 r
 refine min_two_ints (I.ok.hd hc) fun h' tk k=>⟨_,H,I.kept k,?_,q⟩
 by_cases hj:j<i
 ·rw [if_pos hj,if_pos hj];exact ⟨_,rfl⟩
 ·rw [if_neg hj,if_neg hj];exact ⟨_,rfl⟩
end
structure qM (h:Heap) (x dx C:Addr) (mA:Str->Option Value):Prop where
 obj:h.get? x=some (PySem.W.instObj C dx)
 ns:h.Ns1 dx mA
 ne:dx≠x
theorem uu {h:Heap} {dx:Addr} {mA:Str->Option Value} (n:h.Ns1 dx mA):∃ od,h.get? dx=some od/\∀ name,PySem.W.lookIn name od=some (mA name):=by
 obtain ⟨o,es,ep,ho,hd,hk,_,hm⟩:=n
 refine ⟨o,ho,fun name=>?_⟩
 have e:=hm name
 unfold nsFind findBy at e
 rw [<- Array.find?_toList] at e
 unfold PySem.W.lookIn
 rw [hd]
 dsimp only
 split
 ·rename_i y q
  rw [q] at e
  exact congrArg some e
 ·rename_i q
  rw [q] at e
  have a:es.toList.any (·.refKey)=false:=by
   rw [List.any_eq_false]
   intro y hy
   obtain ⟨z,t,hkey⟩:=hk y (Array.mem_toList_iff.mp hy)
   simp [DictEntry.refKey,hkey]
  have a':¬ es.toList.any (·.refKey)=true:=by rw [a];exact Bool.false_ne_true
  rw [if_neg a']
  exact congrArg some e
theorem qM.look {h:Heap} {x dx C:Addr} {mA:Str->Option Value} (I:qM h x dx C mA):∃ od,PySem.W.InstAt h x (PySem.W.instObj C dx) C (some od)/\∀ name,PySem.W.lookIn name od=some (mA name) :=
 let ⟨od,ho,hl⟩:=uu I.ns
 ⟨od,⟨I.obj,rfl,rfl,ho⟩,hl⟩
section
variable {prog:Program} {w:World} {A:Around} {E:Value->Shared->Prop} {s:Shared} {K:PySem.W.Frag} {x dx C f:Addr} {mA:Str->Option Value} {name:Str} {v:Value}
theorem get_map {expr:Bool} {Q:Value->Shared->Prop} (X:K.In s.heap) (I:qM s.heap x dx C mA) (hg:PySem.W.plainGet K C name=true) (hh:PySem.W.hasDictIn K C=true)
  (ha:PySem.W.findIn K (.ref C) name=some none) (hv:mA name=some v) (hv':PySem.W.handedIn v=true) (h:Q v { s with toks:=s.toks+1 }) :
  wpAny (model prog w) A (getAttr (.ref x) name expr) Q E s:=by
 obtain ⟨od,J,hl⟩:=I.look
 exact PySem.W.get_value X J (PySem.W.plainGet_of hg).1 (PySem.W.findObj_own hh ha rfl (by rw [hl,hv])) hv' h
theorem xN {pl:Sem Bool} {Q:Value×List Value->Shared->Prop} (X:K.In s.heap) (I:qM s.heap x dx C mA) (hg:PySem.W.plainGet K C name=true)
  (hf:PySem.W.findIn K (.ref C) name=some (some (.ref f))) (ht:PySem.W.isFn K (.ref f)=true) (hv:mA name=none) (h:Q (.ref f,[.ref x]) s) :
  wpAny (model prog w) A (getMethod (.ref x) name pl) Q E s:=by
 obtain ⟨od,J,hl⟩:=I.look
 exact PySem.W.method_fn X J (PySem.W.plainGet_of hg).1 (PySem.W.plainGet_of hg).2 hf (beq_iff_eq.mp ht) (by show (PySem.W.lookIn name od).map (·.isSome)=some false;rw [hl,hv];rfl) h
theorem Ad {ns:List Str} {Q:Unit->Shared->Prop} (X:K.In s.heap) (I:qM s.heap x dx C mA)
  (hs:PySem.W.findIn K (.ref C) "__setattr__" = some (some (.builtin "object.__setattr__"))) (hp:PySem.W.plainOver K C=true) (ht:PySem.W.takerIn K C name=some none) (hh:PySem.W.hasDictIn K C=true)
  (hw:PySem.Within mA ns) (hsz:ns.length<=sizeLine)
  (h:∀ h',qM h' x dx C (fun y=>if y=name then some v else mA y)->Heap.SameBut dx s.heap h'->Q () { s with heap:=h',toks:=s.toks+2 }) :
  wpAny (model prog w) A (setAttr (.ref x) name v) Q E s:=by
 obtain ⟨od,J,hl⟩:=I.look
 refine PySem.W.set_plain X J hs (PySem.W.osa_open (s:={ s with toks:=s.toks+1 }) (r:=none) X J hp ht fun b=>?_)
 obtain ⟨cd,hc,hd'⟩:=PySem.W.any_some hh
 have hx:s.heap.get? x=some ⟨.ref C,some dx,.plain,#[]⟩:=I.obj
 refine wpAny_bind (wpAny_pure (wpAny_bind (wpAny_bind (wpAny_loadPart hx (wpAny_bind (PySem.W.Looks.here (s:={ s with toks:=s.toks+1 }) (PySem.W.looks_clsIn X hc) ?_))))))
 rw [hd']
 refine wpAny_pure (a:=some dx) (wpAny_bind (wpAny_pure (wpAny_bind ?_)))
 refine wpAny_nsSet1 (s:={ s with toks:=s.toks+1 }) I.ns fun h' hn2 hs2=>?_
 obtain ⟨oD,esD,epD,hoD,hdD,hcD⟩:=hn2.count (PySem.Within.cons name v hw)
 refine wpAny_bind (wpAny_lookBehind hoD (by rw [hdD];exact pastItsLine_dict (Nat.le_trans hcD (by rw [List.length_cons];omega))) ?_)
 exact wpAny_pure (h _ ⟨(hs2.2 _ (Ne.symm I.ne)).trans I.obj,hn2,I.ne⟩ hs2)
theorem wQ {R:Result->Shared->Prop} {vs:List Value} {kw:List (Str×Value)} (X:K.In s.heap) (hm:PySem.W.makesIn K C=true)
  (hi:PySem.W.findIn K (.ref C) "__init__" = some (some (.ref f))) (hf:PySem.W.typeIn K (.ref f)=some (.type "function"))
  (h:codeAny (model prog w) (A.under (.builtin "type.__call__" ⟨.ref C::vs, kw⟩)) (.call (.ref f) ⟨.ref (s.heap.objs.size+1)::vs, kw⟩) (PySem.W.InitBack (s.heap.objs.size+1) R)
   { s with heap:=(s.heap.push PySem.W.emptyDict).push (PySem.W.instObj C s.heap.objs.size) }) :
  codeAny (model prog w) A (.call (.ref C) ⟨vs,kw⟩) R s:=by
 obtain ⟨hh,g,d,t,os⟩:=s
 exact PySem.W.make_core (PySem.W.makes_of X hm) (PySem.W.looks_findIn X hi) (fun self=>PySem.W.bind_fn X self hf) (.inl rfl) h
end
noncomputable def c8 (f:Str) (v:V):List (Str×V)->List (Str×V)
 | []=>[(f,v)]
 | (g,x)::r=>if g=f then (g,v)::r else (g,x)::c8 f v r
theorem iI (f g:Str) (v:V):∀ fs:List (Str×V),(c8 f v fs).lookup g=if g=f then some v else fs.lookup g
 | []=>by
  show List.lookup g [(f,v)]=_
  by_cases h:g=f
  ·have hb:(g == f)=true:=beq_iff_eq.mpr h
   simp only [List.lookup,hb,if_pos h]
  ·have hb:(g == f)=false:=beq_eq_false_iff_ne.mpr h
   simp only [List.lookup,hb,if_neg h]
 | (k, x)::r=>by
  have ih:=iI f g v r
  rw [show c8 f v ((k,x)::r)=(if k=f then (k,v)::r else (k,x)::c8 f v r) from rfl]
  by_cases hk:k=f
  ·rw [if_pos hk]
   by_cases h:g=k
   ·have hb:(g == k)=true:=beq_iff_eq.mpr h
    simp only [List.lookup,hb,if_pos (h.trans hk)]
   ·have hb:(g == k)=false:=beq_eq_false_iff_ne.mpr h
    simp only [List.lookup,hb,if_neg (fun e:g=f=>h (e.trans hk.symm))]
  ·rw [if_neg hk]
   by_cases h:g=k
   ·have hb:(g == k)=true:=beq_iff_eq.mpr h
    simp only [List.lookup,hb,if_neg (fun e:g=f=>hk (h.symm.trans e))]
   ·have hb:(g == k)=false:=beq_eq_false_iff_ne.mpr h
    simp only [List.lookup,hb]
    exact ih
theorem iu (f:Str) (v:V):∀ fs:List (Str×V),f∈(c8 f v fs).map (·.1)/\∀ g,g∈fs.map (·.1)->g∈(c8 f v fs).map (·.1)
 | []=>⟨by simp [c8],fun g h=>by simp at h⟩
 | (k, x)::r=>by
  obtain ⟨i1,i2⟩:=iu f v r
  rw [show c8 f v ((k,x)::r)=(if k=f then (k,v)::r else (k,x)::c8 f v r) from rfl]
  by_cases hk:k=f
  ·rw [if_pos hk]
   subst hk
   exact ⟨by simp,fun g h=>by simpa using h⟩
  ·rw [if_neg hk]
   refine ⟨?_,fun g h=>?_⟩
   ·rw [List.map_cons]
    exact List.mem_cons_of_mem _ i1
   ·rw [List.map_cons] at h ⊢
    rcases List.mem_cons.mp h with e | e
    ·exact List.mem_cons.mpr (.inl e)
    ·exact List.mem_cons_of_mem _ (i2 g e)
theorem iJ (f:Str) (v:V):∀ fs:List (Str×V),(c8 f v fs).length<=fs.length+1
 | []=>by simp [c8]
 | (k,x)::r=>by
  have ih:=iJ f v r
  rw [show c8 f v ((k,x)::r)=(if k=f then (k,v)::r else (k,x)::c8 f v r) from rfl]
  by_cases hk:k=f
  ·rw [if_pos hk,List.length_cons,List.length_cons];omega
  ·rw [if_neg hk,List.length_cons,List.length_cons];omega
theorem gu.some_of {v:V} {o:Option Value} (r:gu (some v) o):∃ u,o=some u/\RelV v u:=by
 cases o with
 | none=>exact (show False from r).elim
 | some u=>exact ⟨u,rfl,r⟩
theorem gu.none_of {o:Option Value} (r:gu none o):o=none:=by
 cases o with
 | none=>rfl
 | some u=>exact (show False from r).elim
theorem uE {v:V} {u:Value} (r:RelV v u):PySem.W.handedIn u=true:=by
 cases v with
 | ao=>cases (show u=Value.none from r);rfl
 | bl b=>cases (show u=Value.bool b from r);rfl
 | int i=>obtain ⟨t,e⟩:=(show ∃ t,u=Value.int i t from r);cases e;rfl
 | str x=>obtain ⟨t,e⟩:=(show ∃ t,u=Value.str x t from r);cases e;rfl
 | uY b=>obtain ⟨t,e⟩:=(show ∃ t,u=Value.bytes b t from r);cases e;rfl
 | Lf b=>obtain ⟨t,e⟩:=(show ∃ t,u=Value.float b t from r);cases e;rfl
 | ref a=>cases (show u=Value.ref a from r);rfl
 | ty n=>cases (show u=Value.type n from r);rfl
section
variable {P:Program} {w:World} {H H':Hp} {h h':Heap} {a C dx:Addr} {fs fs':List (Str×V)}
theorem l9 (hok:fR P w H h) (e:H a=some (.ins C dx fs)):∃ mA,qM h a dx C mA/\(∀ f,gu (fs.lookup f) (mA f))/\PySem.Within mA (fs.map (·.1))/\fs.length<=1000/\H dx=some (.own a):=by
 obtain ⟨d,z,ne,ob,mA,n,r,q⟩:=(show aP P w H h a (.ins C dx fs) from hok a _ e)
 exact ⟨mA,⟨ob,n,ne⟩,r,q,z,d⟩
end
structure uU (K:PySem.W.Frag) (C:Addr):Prop where
 pg:PySem.W.plainGet K C Str.empty=true
 hd:PySem.W.hasDictIn K C=true
 po:PySem.W.plainOver K C=true
 sa:PySem.W.findIn K (.ref C) "__setattr__" = some (some (.builtin "object.__setattr__"))
theorem uU.get {K:PySem.W.Frag} {C:Addr} (c:uU K C) (f:Str):PySem.W.plainGet K C f=true:=c.pg
noncomputable def dw (K:PySem.W.Frag) (C:Addr) (f:Str):Prop:=PySem.W.findIn K (.ref C) f=some none
theorem dw.Hw {K:PySem.W.Frag} {C:Addr} {f:Str} (n:dw K C f):PySem.W.takerIn K C f=some none:=by
 unfold PySem.W.takerIn
 rw [show PySem.W.findIn K (.ref C) f=some none from n]
 rfl
structure Meth (K:PySem.W.Frag) (C:Addr) (m:Str) (f:Addr):Prop where
 at_:PySem.W.findIn K (.ref C) m=some (some (.ref f))
 fn:PySem.W.isFn K (.ref f)=true
 kp:PySem.W.keepIn K (.ref f)=true
section
variable {X:Cx} {pins:List (Addr×Obj)} {σ:St} {H:Hp} {s:Shared} {a C dx:Addr} {fs:List (Str×V)} {f:Str} {v:V} {A:Around} {E:Value->Shared->Prop}
theorem qp {b:Bool} {Q:Value->Shared->Prop} (I:Inv X pins σ H s) (e:H a=some (.ins C dx fs)) (c:uU X.K C) (n:dw X.K C f) (l:fs.lookup f=some v)
  (h:∀ u s',Inv X pins σ H s'->RelV v u->Q u s'):wpAny (model X.prog X.w) A (getAttr (.ref a) f b) Q E s:=by
 obtain ⟨mA,O,r,_,_,_⟩:=l9 I.hok e
 obtain ⟨u,hu,ru⟩:=gu.some_of (v:=v) (o:=mA f) (by rw [<- l];exact r f)
 exact get_map I.fH O (c.get f) c.hd n hu (uE ru) (h u _ (I.tok _) ru)
theorem jO {m:Str} {g:Addr} {pl:Sem Bool} {Q:Value×List Value->Shared->Prop} (I:Inv X pins σ H s) (e:H a=some (.ins C dx fs)) (c:uU X.K C) (k:Meth X.K C m g) (l:fs.lookup m=none)
  (h:Q (.ref g,[.ref a]) s):wpAny (model X.prog X.w) A (getMethod (.ref a) m pl) Q E s:=by
 obtain ⟨mA,O,r,_,_,_⟩:=l9 I.hok e
 have hn:mA m=none:=gu.none_of (by rw [<- l];exact r m)
 exact xN I.fH O (c.get m) k.at_ k.fn hn h
theorem pP {y:V} {u:Value} {Q:Unit->Shared->Prop} (I:Inv X pins σ H s) (e:H a=some (.ins C dx fs)) (c:uU X.K C) (n:dw X.K C f) (hl:fs.length<1000) (ry:RelV y u)
  (h:∀ s',Inv X pins σ (upd H a (.ins C dx (c8 f y fs))) s'->Q () s'):wpAny (model X.prog X.w) A (setAttr (.ref a) f u) Q E s:=by
 obtain ⟨mA,O,r,wi,_,ho⟩:=l9 I.hok e
 have hz:(fs.map (·.1)).length<=sizeLine:=by rw [List.length_map,sizeLine_eq];omega
 refine Ad I.fH O c.sa c.po n.Hw c.hd wi hz fun h' O' sb=>h _ ?_
 have hd:∃ o,h'.get? dx=some o:=let ⟨o,_,_,e',_⟩:=O'.ns;⟨o,e'⟩
 refine I.write (x:=a) (e:=dx) (by rw [e];exact True.intro) (.inr ho) (fun b q hb z=>(sb.2 b hb).trans z) hd ?_
 refine ⟨by rw [aj O.ne];exact ho,?_,O.ne,O'.obj,_,O'.ns,fun g=>?_,fun g hg=>?_⟩
 ·have:=iJ f y fs;omega
 ·show gu ((c8 f y fs).lookup g) (if g=f then some u else mA g)
  rw [iI]
  by_cases q:g=f
  ·rw [if_pos q,if_pos q];exact ry
  ·rw [if_neg q,if_neg q];exact r g
 ·by_cases q:g=f
  ·rw [q];exact (iu f y fs).1
  ·refine (iu f y fs).2 g (wi g fun z=>hg ?_)
   show (if g=f then some u else mA g)=none
   rw [if_neg q];exact z
theorem Inv.made (I:Inv X pins σ H s):Inv X pins σ (upd (upd H s.heap.objs.size (.own (s.heap.objs.size+1))) (s.heap.objs.size+1) (.ins C s.heap.objs.size []))
  { s with heap:=(s.heap.push PySem.W.emptyDict).push (PySem.W.instObj C s.heap.objs.size) }:=by
 have e1:(s.heap.push PySem.W.emptyDict).get? s.heap.objs.size=some PySem.W.emptyDict:=Heap.get?_push_size s.heap rfl
 have e2:((s.heap.push PySem.W.emptyDict).push (PySem.W.instObj C s.heap.objs.size)).get? (s.heap.objs.size+1)=some (PySem.W.instObj C s.heap.objs.size):=by
  have:=Heap.get?_push_size (s.heap.push PySem.W.emptyDict) (o:=PySem.W.instObj C s.heap.objs.size) rfl
  rwa [Heap.size_push] at this
 have e3:(s.heap.push PySem.W.emptyDict).Ns s.heap.objs.size (fun _=>none):=⟨PySem.W.emptyDict,#[],_,e1,rfl,(fun e he=>absurd he (by simp)),fun _=>rfl⟩
 have I1:=I.laid (a:=s.heap.objs.size) (o:=.own (s.heap.objs.size+1)) (h':=s.heap.push PySem.W.emptyDict) (t':=s.toks) (fun b u q=>Heap.get?_push_of_some _ q) (Nat.le_refl _) ⟨_,e1⟩
 refine I1.laid (a:=s.heap.objs.size+1) (o:=.ins C s.heap.objs.size []) (t':=s.toks) (fun b u q=>Heap.get?_push_of_some _ q) (Nat.le_of_eq (Heap.size_push _ _)) ?_
 have ne:s.heap.objs.size≠s.heap.objs.size+1:=Nat.ne_of_lt (Nat.lt_succ_self _)
 refine ⟨by rw [aj ne,ay],Nat.zero_le _,ne,e2,fun _=>none,(Heap.Ns1.of_empty e3).at fun o q=>Heap.get?_push_of_some _ q,fun _=>True.intro,fun y hy=>absurd rfl hy⟩
theorem BK {prog:Program} {w:World} {env:Env} {e:Expr} {f:Str} {pos:Pos} {s:Shared} {Q:Value->Shared->Prop} (hb:attributeBase e f env (eval e env)=eval e env)
  (h:wpAny (model prog w) A (eval e env) (fun o s₁=>wpAny (model prog w) A (getAttr o f true) Q E s₁) E s):wpAny (model prog w) A (eval (.Attribute e f pos) env) Q E s :=
 Attribute_any_ h (by rw [arm_eval_Attribute,hb])
end
noncomputable def HH (K:PySem.W.Frag) (ta:TE) (f:Str):TE:=fun σ H Q=>ta σ H fun x H1=>∃ a C dx fs v,x=.ref a/\H1 a=some (.ins C dx fs)/\uU K C/\dw K C f/\fs.lookup f=some v/\Q v H1
noncomputable def HW (K:PySem.W.Frag) (ta tv:TE) (f:Str):TS:=fun D σ H=>tv σ H fun y H1=>ta σ H1 fun x H2=>∃ a C dx fs,x=.ref a/\H2 a=some (.ins C dx fs)/\uU K C/\dw K C f/\fs.length<1000 /\
 D.nx σ (upd H2 a (.ins C dx (c8 f y fs)))
section
variable {X:Cx} {o e value:Expr} {f:Str} {pos pos' tpos:Pos} {ta tv:TE}
theorem Ei (he:PE X e ta) (hb:attributeBase e f X.env (eval e X.env)=eval e X.env):PE X (.Attribute e f pos) (HH X.K ta f):=by
 intro pins s σ H Q I h
 refine BK hb (aT (he pins s σ H _ I h) fun u s1 ⟨x,H1,I1,rx,a,C,dx,fs,v,ex,ea,c,n,l,q⟩=>?_)
 subst ex
 obtain rfl:u=Value.ref a:=rx
 exact qp I1 ea c n l fun u' s2 I2 ru=>⟨v,H1,I2,ru,q⟩
theorem D3 (ha:PE X o ta) (hv:PE X value tv) (hs:swapsWith value (some (.Attribute o f pos')) pos.line X.env=pure false):PS X (.Assign [.Attribute o f pos'] value pos) (HW X.K ta tv f):=by
 intro pins s σ H D I h
 refine plainObj_wpAny_Assign_Attribute (aT (hv pins s σ H _ I h) fun u s1 ⟨y,H1,I1,ry,q⟩=>aT (ha pins s1 σ H1 _ I1 q) fun ov s2 ⟨x,H2,I2,rx,a,C,dx,fs,ex,ea,c,n,l,q2⟩=>?_) hs
 subst ex
 obtain rfl:ov=Value.ref a:=rx
 exact pP I2 ea c n l ry fun s3 I3=>⟨σ,_,I3,q2⟩
end
section
variable {X:Cx} {pins:List (Addr×Obj)} {σ:St} {H:Hp} {s:Shared} {A:Around} {E:Value->Shared->Prop} {Q:Value->Shared->Prop} {c:Value} {b:Bool}
end
structure bI (cm:Bool) (k:Nat) (A:Around):Prop where
 hd:cm=true->A.handled=none
 dp:A.depth+3*k+5<recursionLimit
 un:A.units+16*k+200<cLine
theorem bI.deeper {k:Nat} {A:Around} (r:bI cm (k+1) A) (env:Env):bI cm k (A.deeper env) :=
 ⟨r.hd,by have:=r.dp;show A.depth+1+3*k+5<_;omega,by have:=r.un;show A.units+3+16*k+200<_;omega⟩
theorem bI.in1 {k:Nat} {A:Around} (r:bI cm (k+1) A):bI cm k A.in1 :=
 ⟨r.hd,by have:=r.dp;show A.depth+3*k+5<_;omega,by have:=r.un;show A.units+1+16*k+200<_;omega⟩
theorem qd {A:Around} {C:Addr} {us:List Value} {kw:List (Str×Value)}:(A.under (.builtin "type.__call__" ⟨.ref C::us, kw⟩)).depth=A.depth+1:=by
 first | rfl | simp [Around.under,Code.weight,Code.isCreation,Code.isGuard,Code.isCaller,Code.frames,Code.isFrame,guardIds]
theorem qc {A:Around} {C:Addr} {us:List Value} {kw:List (Str×Value)}:(A.under (.builtin "type.__call__" ⟨.ref C::us, kw⟩)).units=A.units+1:=by
 first | rfl | simp [Around.under,Code.cUnits,Code.frames,Code.isFrame]
theorem bI.make {k:Nat} {A:Around} (r:bI cm (k+1) A) (C:Addr) (us:List Value) (kw:List (Str×Value)):bI cm k (A.under (.builtin "type.__call__" ⟨.ref C::us, kw⟩)) :=
 ⟨r.hd,by have:=r.dp;rw [qd];omega,by have:=r.un;rw [qc];omega⟩
theorem bI.depth {k:Nat} {A:Around} (r:bI cm k A):A.depth<recursionLimit:=by have:=r.dp;omega
noncomputable def g9:TA:=fun _ H Q=>Q [] H
noncomputable def cF (ta:TE) (tr:TA):TA:=fun σ H Q=>ta σ H fun x H1=>tr σ H1 fun xs H2=>Q (x::xs) H2
section
variable {X:Cx} {e:Expr} {es:List Expr} {te:TE} {t:TA} {pos:Pos}
theorem cJ:PA X [] g9:=fun _ _ _ _ H Q I h=>Calls.spliced_nil ⟨[],H,I,.nil,h⟩
theorem aM (ha:PE X e te) (hr:PA X es t) (hs:starEach (e::es) X.env=(false,eval e X.env)::starEach es X.env:=by rfl):PA X (e::es) (cF te t):=by
 intro pos pins s σ H Q I h
 rw [hs]
 show wpAny _ _ (spliced ((false,eval e X.env)::backTo pos (starEach es X.env))) _ _ s
 refine Calls.spliced_cons (aT (ha pins s σ H _ I h) fun u s1 ⟨x,H1,I1,r1,q1⟩=>?_)
 exact aT (hr pos pins s1 σ H1 _ I1 q1) fun us s2 ⟨xs,H2,I2,r2,q2⟩=>⟨x::xs,H2,I2,.cons r1 r2,q2⟩
noncomputable def Hy (t:TA):TE:=fun σ H Q=>t σ H fun xs H1=>xs.length<=sizeLine/\∀ p,H1 p=none->Q (.ref p) (upd H1 p (.tup xs))
noncomputable def HE (t:TA):TE:=fun σ H Q=>t σ H fun xs H1=>xs.length<=sizeLine/\∀ p,H1 p=none->Q (.ref p) (upd H1 p (.lst xs))
theorem Ea {x1} (h:PA X es t):PE X (.Tuple es x1 pos) (Hy t):=by
 intro pins s σ H Q I hq
 refine wpAny_Tuple_spliced (aT (h pos pins s σ H _ I hq) fun us s1 ⟨xs,H1,I1,r,z,q⟩=>⟨by rw [<- r.length];exact z,?_⟩)
 have hf:H1 s1.heap.objs.size=none:=I1.hok.fresh (Nat.le_refl _)
 refine ⟨.ref s1.heap.objs.size,upd H1 s1.heap.objs.size (.tup xs),I1.laid (t':=s1.toks) (fun b u e=>Heap.get?_push_of_some _ e) (Nat.le_refl _) ?_,rfl,q _ hf⟩
 exact ⟨z,us,r,⟨_,Heap.get?_push_size _ rfl,rfl,_,rfl⟩⟩
theorem Eg (h:PA X es t):PE X (.List es pos) (HE t):=by
 intro pins s σ H Q I hq
 refine wpAny_List_spliced (aT (h pos pins s σ H _ I hq) fun us s1 ⟨xs,H1,I1,r,z,q⟩=>⟨by rw [<- r.length];exact z,?_⟩)
 have hf:H1 s1.heap.objs.size=none:=I1.hok.fresh (Nat.le_refl _)
 refine ⟨.ref s1.heap.objs.size,upd H1 s1.heap.objs.size (.lst xs),I1.laid (t':=s1.toks) (fun b u e=>Heap.get?_push_of_some _ e) (Nat.le_refl _) ?_,rfl,q _ hf⟩
 exact ⟨z,us,0,r,Heap.get?_push_size _ rfl⟩
end
noncomputable abbrev Sp:=List V->Hp->VK->XK->Prop
noncomputable abbrev yS:=List Env->Hp->Shared->XK->Value->Shared->Prop
structure kj (P:Program) (w:World) (K:PySem.W.Frag) (mg:Str->Option Value) (base:Heap) (A:Around) (outer:List Env) (s:Shared) (H:Hp):Prop where
 frames:A.frames=some outer
 mod:Mod K mg base
 bs:∀ b o,base.get? b=some o->s.heap.get? b=some o/\H b=none
 uP:base.objs.size<=s.heap.objs.size
 fN:s.heap.FunFrames base outer
 xP:∀ b∈frs outer,H b=none
 hok:fR P w H s.heap
 bare:AllBare s.gens
noncomputable def CE (outer:List Env) (P:Program) (w:World) (H:Hp) (s:Shared) (Q:VK) (u:Value) (s':Shared):Prop :=
 ∃ v H',s'.os=s.os/\AllBare s'.gens/\Un (frs outer) [] H H' s.heap s'.heap/\fR P w H' s'.heap/\RelV v u/\Q v H'
noncomputable def CR (CX:yS) (outer:List Env) (P:Program) (w:World) (H:Hp) (s:Shared) (Q:VK) (E:XK) (r:Result) (s':Shared):Prop :=
 match r with
 | .ok (.ret u)=>CE outer P w H s Q u s'
 | .ok _=>False
 | .error e=>CX outer H s E e s'
structure br (cm:Bool) (P:Program) (w:World) (K:PySem.W.Frag) (mg:Str->Option Value) (base:Heap) (CX:yS) (k:Nat) (f:Addr) (fd:FuncData) (ps:List Str) (sp:Sp):Prop where
 len:∀ vs H Q E,sp vs H Q E->vs.length=ps.length
 run:∀ (A:Around) (outer:List Env) (s:Shared) (H:Hp) (args:Args) (us:List Value) (vs:List V) (Q:VK) (E:XK),bI cm k A->kj P w K mg base A outer s H->BindsTo s fd args (ps.zip us)->Vals vs us->sp vs H Q E ->
  codeAny (model P w) A (.call (.ref f) args) (CR CX outer P w H s Q E) s
theorem br.imp {P:Program} {w:World} {K:PySem.W.Frag} {mg:Str->Option Value} {base:Heap} {CX:yS} {k:Nat} {f:Addr} {fd:FuncData} {ps:List Str} {sp sp':Sp} (F:br cm P w K mg base CX k f fd ps sp)
  (h:∀ vs H Q E,sp' vs H Q E->sp vs H Q E):br cm P w K mg base CX k f fd ps sp' :=
 ⟨fun vs H Q E q=>F.len vs H Q E (h _ _ _ _ q),fun A outer s H args us vs Q E hr he hb hv hs=>F.run A outer s H args us vs Q E hr he hb hv (h _ _ _ _ hs)⟩
theorem kj.make {P:Program} {w:World} {K:PySem.W.Frag} {mg:Str->Option Value} {base:Heap} {A:Around} {outer:List Env} {s:Shared} {H:Hp} (e:kj P w K mg base A outer s H) (C:Addr) (us:List Value) (kw:List (Str×Value)) :
  kj P w K mg base (A.under (.builtin "type.__call__" ⟨.ref C::us, kw⟩)) outer s H:=⟨by first | exact e.frames | (simpa [Around.under, Code.envs, Code.isFrame, pushEnvs] using e.frames), e.mod, e.bs, e.uP, e.fN, e.xP, e.hok, e.bare⟩
theorem kj.in1 {P:Program} {w:World} {K:PySem.W.Frag} {mg:Str->Option Value} {base:Heap} {A:Around} {outer:List Env} {s:Shared} {H:Hp} (e:kj P w K mg base A outer s H) :
  kj P w K mg base A.in1 outer s H:=⟨e.frames,e.mod,e.bs,e.uP,e.fN,e.xP,e.hok,e.bare⟩
section
variable {X:Cx} {pins:List (Addr×Obj)} {σ:St} {H:Hp} {s s':Shared}
theorem Inv.jU (I:Inv X pins σ H s):kj X.prog X.w X.K X.mg X.base X.A X.stack s H :=
 ⟨I.ok.frames,I.ok.mod,I.bs,Nat.le_trans I.ok.uP I.sz,I.stack,I.fE,I.hok,I.bare⟩
theorem Inv.after {Q:VK} {u:Value} (I:Inv X pins σ H s) (h:CE X.stack X.prog X.w H s Q u s'):EP X pins σ Q u s':=by
 obtain ⟨v,H',os,bare,un,hok,r,q⟩:=h
 obtain ⟨hh,g,d,t,os'⟩:=s'
 obtain rfl:os'=s.os:=os
 exact ⟨v,H',I.call (h':=hh) (g':=g) (d':=d) (t':=t) (ch:=[]) un hok bare (fun b z=>absurd z (by simp)),r,q⟩
end
noncomputable def Binds (K:PySem.W.Frag) (fd:FuncData) (ps:List Str) (ds:List Value):Prop :=
 ∀ (s:Shared) (us:List Value),K.In s.heap->(us++ds).length=ps.length->BindsTo s fd ⟨us,[]⟩ (ps.zip (us++ds))
theorem Binds.all {K:PySem.W.Frag} {fd:FuncData} {ps:List Str} (h:∀ us:List Value,us.length=ps.length->bindArgs fd ⟨us,[]⟩=pure (ps.zip us)):Binds K fd ps []:=fun s us _ hl=>by
 rw [List.append_nil] at hl ⊢
 exact .of_eq (h us hl)
section
variable {X:Cx} {CX:yS} {k:Nat} {f C:Addr} {fd:FuncData} {ps:List Str} {sp:Sp} {dvs:List V} {ds:List Value} {E:XK} {x m:Str} {p pos apos:Pos} {e o:Expr} {es:List Expr} {ta:TE} {t:TA}
structure Mk (K:PySem.W.Frag) (C f:Addr):Prop where
 makes:PySem.W.makesIn K C=true
 init:PySem.W.findIn K (.ref C) "__init__" = some (some (.ref f))
 fn:PySem.W.isFn K (.ref f)=true
 kp:PySem.W.keepIn K (.ref C)=true
end
section
variable {X:Cx} {CX:yS} {k:Nat} {f C:Addr} {fd:FuncData} {ps ks:List Str} {sp:Sp} {E:XK} {x m:Str} {p pos apos kpos:Pos} {e o:Expr} {es:List Expr} {kws:List Keyword} {te ta:TE} {t tk:TA} {nm:Option Str}
variable {g:List Value->List Value->List Value} {gV:List V->List V->List V}
end
structure c6 (N P:List Str) (sc:Scope):Prop where
 kind:sc.kind=.function
 co:sc.isCoroutine=false
 gen:sc.isGenerator=false
 nd:N.Nodup
 pre:N.take P.length=P
 par:∀ x∈P,sc.names.lookup x=some .local\/sc.names.lookup x=some .cell
 EL:∀ y∈sc.names,y.2≠.free
theorem lA {kindOf:Str->Option NameKind} {x:Str}:∀ {binds:List (Str×Value)} {m:Str->Option Value},(∀ v,(x,v)∉binds)->bindL kindOf binds m x=m x
 | [],_,_=>rfl
 | (n, v)::r, m, h=>by
  unfold bindL
  rw [lA fun w hw=>h w (List.mem_cons_of_mem _ hw)]
  split
  ·have:x≠n:=by rintro rfl;exact h v List.mem_cons_self
   simp [this]
  ·rfl
theorem lC {kindOf:Str->Option NameKind} {x:Str}:∀ {binds:List (Str×Value)} {m:Str->Option Value},(∀ v,(x,v)∉binds)->bindC kindOf binds m x=m x
 | [],_,_=>rfl
 | (n, v)::r, m, h=>by
  unfold bindC
  rw [lC fun w hw=>h w (List.mem_cons_of_mem _ hw)]
  split
  ·rfl
  ·have:x≠n:=by rintro rfl;exact h v List.mem_cons_self
   simp [this]
theorem lB {kindOf:Str->Option NameKind} {x:Str} {v:Value}:∀ {P:List Str} {vs:List Value} {i:Nat} {m:Str->Option Value},P.Nodup->P[i]? = some x->vs[i]? = some v->kindOf x=some .local ->
  bindL kindOf (P.zip vs) m x=some v
 | [],_,_,_,_,h,_,_=>by simp at h
 | _::_,[],_,_,_,_,h,_=>by simp at h
 | p::P,w::vs,0,m,nd,h1,h2,hk=>by
  simp at h1 h2;subst h1;subst h2
  show bindL kindOf ((p,w)::P.zip vs) m p=_
  unfold bindL
  rw [lA fun v hv=>(List.nodup_cons.mp nd).1 (List.of_mem_zip hv).1,if_pos hk]
  simp
 | p::P,w::vs,i+1,m,nd,h1,h2,hk=>by
  show bindL kindOf ((p,w)::P.zip vs) m x=_
  unfold bindL
  exact lB (i:=i) (List.nodup_cons.mp nd).2 (by simpa using h1) (by simpa using h2) hk
theorem lD {kindOf:Str->Option NameKind} {x:Str} {v:Value}:∀ {P:List Str} {vs:List Value} {i:Nat} {m:Str->Option Value},P.Nodup->P[i]? = some x->vs[i]? = some v->kindOf x≠some .local ->
  bindC kindOf (P.zip vs) m x=some v
 | [],_,_,_,_,h,_,_=>by simp at h
 | _::_,[],_,_,_,_,h,_=>by simp at h
 | p::P,w::vs,0,m,nd,h1,h2,hk=>by
  simp at h1 h2;subst h1;subst h2
  show bindC kindOf ((p,w)::P.zip vs) m p=_
  unfold bindC
  rw [lC fun v hv=>(List.nodup_cons.mp nd).1 (List.of_mem_zip hv).1,if_neg hk]
  simp
 | p::P,w::vs,i+1,m,nd,h1,h2,hk=>by
  show bindC kindOf ((p,w)::P.zip vs) m x=_
  unfold bindC
  exact lD (i:=i) (List.nodup_cons.mp nd).2 (by simpa using h1) (by simpa using h2) hk
noncomputable def start (N:List Str) (vs:List V):St:=vs.map some++List.replicate (N.length-vs.length) none
noncomputable def gX (CX:yS) (P:Program) (w:World) (K:PySem.W.Frag) (mg:Str->Option Value) (base:Heap) (N:List Str) (qual:Str) (scope:Scope) (f:Addr) (cd:Value) (A:Around) (outer:List Env) (s:Shared) (H:Hp) (E:XK):Cx where
 prog:=P
 w:=w
 K:=K
 mg:=mg
 base:=base
 A:=A.deeper (envOfC qual scope s.heap.objs.size f cd)
 N:=N
 s₀:=s
 H₀:=H
 env:=envOfC qual scope s.heap.objs.size f cd
 outer:=outer
 stack:=envOfC qual scope s.heap.objs.size f cd::outer
 ex:=[]
 calm:=A.handled.isNone
 fn:=fun _=>true
 pn:=[]
 xe:=fun e s'=>wpAny (model P w) (A.deeper (envOfC qual scope s.heap.objs.size f cd)) (leaving (envOfC qual scope s.heap.objs.size f cd) e) (fun _ s''=>CX outer H s E e s'') (fun e' s''=>CX outer H s E e' s'') s'
theorem oX {sc:Scope} {n:Nat} {x:Str} (h:sc.names.lookup x=some .cell):∃ c,(cellsFrom n sc.names []).lookup x=some c:=by
 have q:=PySem.W.cellsFrom_some sc.names n [] (.inl h)
 exact Option.isSome_iff_exists.mp q
theorem uB {CX:yS} {P:Program} {w:World} {K:PySem.W.Frag} {mg:Str->Option Value} {base:Heap} {N ps:List Str} {qual:Str} {scope:Scope} {f:Addr} {cd:Value} {A:Around} {outer:List Env} {s s1:Shared} {H:Hp} {E:XK} {us:List Value} {vs:List V}
  (S:c6 N ps scope) (e0:kj P w K mg base A outer s H) (hl:vs.length=ps.length) (r:Vals vs us)
  (x:InCallC s s.heap.objs.size (bindL (envOfC qual scope s.heap.objs.size f cd).kindOf (ps.zip us) fun _=>none) (cellsFrom (s.heap.objs.size+1) scope.names []) (bindC (envOfC qual scope s.heap.objs.size f cd).kindOf (ps.zip us) fun _=>none) s1) :
  Inv (gX CX P w K mg base N qual scope f cd A outer s H E) [] (start N vs) H s1:=by
 have hpl:ps.length<=N.length:=by have:=congrArg List.length S.pre;rw [List.length_take] at this;omega
 obtain ⟨h1,tk,rfl,hk⟩:=x.done
 have IX:∀ b:Addr,b∉(gX CX P w K mg base N qual scope f cd A outer s H E).ex:=fun b z=>absurd (show b∈([]:List Addr) from z) (by simp)
 refine ⟨⟨e0.mod,S.kind,rfl,rfl,Nat.le_refl _,fun y z c h1 h2=>?_,fun y hy=>?_,fun y c _ h=>?_,(fun z=>Option.isNone_iff_eq_none.mp z),Around.frames_deeper e0.frames,.inr ⟨rfl,rfl⟩,fun b z=>absurd z (IX b),e0.bs,e0.uP,fun b _ _=>IX b,fun b z=>absurd z (IX b),e0.fN,e0.xP⟩,
  rfl,e0.bare,Un.kept hk,⟨_,x.toInCall.ns,fun i y v h1 h2 h3=>?_⟩,fun y c h=>⟨_,x.cell y c h⟩,e0.hok.fresh (Nat.le_refl _),fun y c h=>?_,fun p hp=>absurd (show p∈([]:List (Addr×Obj)) from hp) (by simp),e0.hok.kept hk,?_⟩
 ·exact name_of_addr x.apart (PySem.mem_of_lookup h1) (PySem.mem_of_lookup h2)
 ·have hy:scope.names.lookup y=some .cell\/scope.names.lookup y=some .free:=hy
  rcases hy with hy | hy
  ·exact oX hy
  ·exact absurd rfl (S.EL _ (PySem.mem_of_lookup hy))
 ·exact Nat.le_of_lt (x.above y c (PySem.mem_of_lookup h))
 ·have hi:i<vs.length:=by
   unfold start at h2
   by_cases hi:i<vs.length
   ·exact hi
   ·rw [List.getElem?_append_right (by simpa using hi)] at h2
    rw [List.getElem?_replicate] at h2
    split at h2 <;> cases h2
  have ha:vs[i]? = some v:=by
   unfold start at h2
   rw [List.getElem?_append_left (by simpa using hi),List.getElem?_map] at h2
   cases e:vs[i]? with
   | none=>rw [e] at h2;cases h2
   | some a=>rw [e] at h2;cases h2;rfl
  obtain ⟨u,hu,rv⟩:=r.get ha
  have hp:ps[i]? = some y:=by
   rw [<- S.pre,List.getElem?_take_of_lt (by omega)];exact h1
  have ndP:ps.Nodup:=by rw [<- S.pre];exact S.nd.sublist (List.take_sublist _ _)
  refine ⟨u,rv,?_⟩
  rcases S.par y (List.mem_of_getElem? hp) with k | k
  ·exact .inl ⟨k,lB ndP hp hu k⟩
  ·obtain ⟨c,e⟩:=oX (n:=s.heap.objs.size+1) k
   refine .inr ⟨.inl k,c,e,?_⟩
   have q:=x.cell y c e
   rw [lD ndP hp hu (by show scope.names.lookup y≠_;rw [k];decide)] at q
   exact q
 ·exact e0.hok.fresh (Nat.le_of_lt (x.above y c (PySem.mem_of_lookup h)))
 ·unfold start
  show _=N.length
  rw [List.length_append,List.length_map,List.length_replicate]
  omega
theorem CH {CX:yS} {P:Program} {w:World} {K:PySem.W.Frag} {mg:Str->Option Value} {base:Heap} {k:Nat} {f:Addr} {name qual:Str} {params:Arguments} {body:List Stmt} {scope:Scope} {dV kV doc pm cdv ct oc:Value} {an od:Option Addr}
  {osl:Array (Option Value)} {N ps:List Str} {sp:Sp} (lk:K.lookup f=some ⟨oc,od,.func (PySem.W.fnOf name qual params body scope dV kV doc pm an cdv ct),osl⟩) (hcd:PySem.W.codeIn K cdv qual=true) (S:c6 N ps scope)
  (len:∀ vs H Q E,sp vs H Q E->vs.length=ps.length)
  (hbody:∀ (A:Around) (outer:List Env) (s:Shared) (H:Hp) (vs:List V) (Q:VK) (E:XK),bI cm k (A.deeper (envOfC qual scope s.heap.objs.size f cdv))->sp vs H Q E ->
   ∃ t,j5 (gX CX P w K mg base N qual scope f cdv A outer s H E) body t/\t { nx:=fun _ H'=>Q .ao H',rt:=Q } (start N vs) H) :
  br cm P w K mg base CX (k+1) f (PySem.W.fnOf name qual params body scope dV kV doc pm an cdv ct) ps sp:=by
 refine ⟨len,fun A outer s H args us vs Q E hr e0 hb r G1=>?_⟩
 have hl:=len _ _ _ _ G1
 have KX:K.In s.heap:=e0.mod.AY.keeps fun b o e=>(e0.bs b o e).1
 have lim:s.heap.NoLimit:=e0.mod.nolimit.keeps fun b o e=>(e0.bs b o e).1
 have hkind:∀ y∈ps.zip us,scope.names.lookup y.1=some .local\/(scope.names.lookup y.1=some .cell/\((cellsFrom (s.heap.objs.size+1) scope.names []).lookup y.1).isSome=true):=fun ⟨n,v⟩ hy=>by
  rcases S.par n (List.of_mem_zip hy).1 with q | q
  ·exact .inl q
  ·exact .inr ⟨q,PySem.W.cellsFrom_some _ _ _ (.inl q)⟩
 refine codeAny_call_function hr.depth (KX _ _ lk) rfl S.co S.gen rfl (PySem.W.codeRec_of KX hcd) (hb _ _ _ _ ?_)
 refine wpAny_newFunctionEnv_cells S.kind hkind fun env he s1 x=>?_
 subst he
 refine ⟨lim.keeps x.toInCall.keep,codeAny_func ?_⟩
 obtain ⟨t,ht,hq⟩:=hbody A outer s H vs Q E (hr.deeper _) G1
 have I:Inv (gX CX P w K mg base N qual scope f cdv A outer s H E) [] (start N vs) H s1:=uB S e0 hl r x
 refine wpAny_mono (ht [] s1 (start N vs) H _ I hq) (fun fl s' hs=>?_) fun e s' hs=>hs
 have fin:∀ {σ':St} {H':Hp} {v:V} {u:Value},Inv (gX CX P w K mg base N qual scope f cdv A outer s H E) [] σ' H' s'->RelV v u->Q v H'->CE outer P w H s Q u s' :=
  fun {σ' H' v u} J rv q=>⟨v,H',J.os,J.bare,J.base,J.hok,rv,q⟩
 cases fl with
 | ret u =>
  obtain ⟨v,σ',H',J,rv,q⟩:=hs
  exact fin J rv q
 | next =>
  obtain ⟨σ',H',J,q⟩:=hs
  exact fin (v:=V.ao) (u:=Value.none) J rfl q
 | brk =>
  obtain ⟨_,_,_,q⟩:=hs
  exact False.elim q
 | cont =>
  obtain ⟨_,_,_,q⟩:=hs
  exact False.elim q
section
variable {X:Cx} {x:Str} {p pos:Pos} {e:Expr} {es:List Expr} {t:TA} {id T:String} {r:List V->Hp->VK->Prop}
noncomputable def zB (r:List V->Hp->VK->Prop) (t:TA):TE:=fun σ H Q=>t σ H fun vs H1=>r vs H1 Q
theorem bR (hc:bW X (.builtin id) r) (hg:Gl X x) (hm:X.mg x=none) (hv:bootBuiltins x=some (.builtin id)) (ha:PA X (e::es) t) (hn:x≠"__name__":=by decide) (hdb:(x == ("__debug__" : Str))=false:=by decide)
  (he:starEach (e::es) X.env=(false,eval e X.env)::starEach es X.env:=by rfl) (hpl:(backTo pos (starEach es X.env)).any (·.1)=false:=by rfl):PE X (.Call (.Name x p) (e::es) [] pos) (zB r t):=by
 intro pins s σ H Q I h
 refine wpAny_Call_Name_kw (ir I hg hm hv ?_ hn hdb)
 exact PyProof.Rows.callWith_builtin1 (aT (ha pos pins s σ H _ I h) fun us s1 ⟨vs,H1,I1,r1,q1⟩=>hc pins s1 σ H1 vs us Q I1 r1 q1) he hpl
theorem kI (hc:bW X (.type T) r) (hg:Gl X x) (hm:X.mg x=none) (hv:bootBuiltins x=some (.type T)) (ha:PA X (e::es) t) (hn:x≠"__name__":=by decide) (hdb:(x == ("__debug__" : Str))=false:=by decide)
  (he:starEach (e::es) X.env=(false,eval e X.env)::starEach es X.env:=by rfl) (hpl:(backTo pos (starEach es X.env)).any (·.1)=false:=by rfl):PE X (.Call (.Name x p) (e::es) [] pos) (zB r t):=by
 intro pins s σ H Q I h
 refine wpAny_Call_Name_kw (ir I hg hm hv ?_ hn hdb)
 exact PyProof.Rows.callWith_type1 (aT (ha pos pins s σ H _ I h) fun us s1 ⟨vs,H1,I1,r1,q1⟩=>hc pins s1 σ H1 vs us Q I1 r1 q1) he hpl
end
end L2
namespace HT
open PySem PyProof.Rows
section
open PySem.SeqAt
open PySem.AutoSeq1 (wpAny_loadPart')
open PySem.MeetsSeq PySem.MeetsSeq2 PySem.MeetsSeq3
end
section
variable {prog:Program} {w:World} {A:Around} {E:Value->Shared->Prop} {s:Shared}
theorem BC {t b:Addr} {vs ws:List Value} {Q:Value->Shared->Prop} (ht:IsTup s.heap t vs.toArray) (hb:IsTup s.heap b ws.toArray) (hv:vs≠[])
  (h1:ws=[]->Q (.ref t) s) (h2:ws≠[]->Q (.ref s.heap.objs.size) { s with heap:=s.heap.push { cls:=.type "tuple", data:=.seq (vs++ws).toArray } })
  (hsz:vs.length+ws.length<=sizeLine):wpAny (model prog w) A (binaryOp .Add (.ref t) (.ref b)) Q E s:=by
 obtain ⟨⟨cls,dd,data,sl⟩,ho,hc,n,hd⟩:=id ht
 obtain ⟨⟨J4,dd2,data2,sl2⟩,ho2,hc2,n2,hd2⟩:=id hb
 simp only at hc hd hc2 hd2
 subst hc hd hc2 hd2
 have e:vs.toArray++ws.toArray=(vs++ws).toArray:=by simp
 by_cases hw:ws=[]
 ·exact concat_meets ⟨_,ho,rfl⟩ ⟨_,ho2,rfl⟩ noFill_tuple_add seq_tuple_add PySem.F.slot_tuple_add PySem.F.entry_tuple_add (PySem.F.args_tuple_add_2 _ _)
   (tuple_addW1 t b vs.toArray ws.toArray n n2 dd dd2 sl sl2 (by simpa using hv) (by simp [hw])) ⟨ho,ho2,h1 hw⟩
 ·refine concat_meets ⟨_,ho,rfl⟩ ⟨_,ho2,rfl⟩ noFill_tuple_add seq_tuple_add PySem.F.slot_tuple_add PySem.F.entry_tuple_add (PySem.F.args_tuple_add_2 _ _)
   (tuple_addW2 t b vs.toArray ws.toArray n n2 dd dd2 sl sl2 (by simpa using hv) (by simpa using hw) (by rw [List.size_toArray,List.size_toArray];exact hsz)) ⟨ho,ho2,?_⟩
  rw [e]
  exact h2 hw
noncomputable def bX (n d:Nat):Option Int->Nat
 | none=>d
 | some v=>if v<0 then (v+(n:Int)).toNat else min v.toNat n
theorem DH (n d:Nat) (hd:d<=n) (o:Option Int):bX n d o<=n:=by
 cases o with
 | none=>exact hd
 | some v =>
  show (if v<0 then (v+(n:Int)).toNat else min v.toNat n)<=n
  by_cases hv:v<0
  ·rw [if_pos hv];omega
  ·rw [if_neg hv];exact Nat.min_le_right _ _
theorem tK (v:Int) (n d:Nat):(if v<0 then max (v+(n:Int)) 0 else min v (n:Int))=((bX n d (some v):Nat):Int):=by
 show (if v<0 then max (v+(n:Int)) 0 else min v (n:Int))=(((if v<0 then (v+(n:Int)).toNat else min v.toNat n):Nat):Int)
 by_cases hv:v<0
 ·simp only [if_pos hv];omega
 ·simp only [if_neg hv];omega
theorem qL (lo hi:Option Int) (n:Nat):Builtin.Slice.sliceAdjust lo hi 1 (n:Int)=(((bX n 0 lo:Nat):Int),((bX n n hi:Nat):Int)):=by
 have h1:¬ ((1:Int)<0):=by omega
 unfold Builtin.Slice.sliceAdjust
 simp only [h1,if_false]
 refine Prod.ext ?_ ?_
 ·cases lo with
  | none=>rfl
  | some v=>exact tK v n 0
 ·cases hi with
  | none=>rfl
  | some v=>exact tK v n n
theorem pV (i j:Nat):Builtin.Slice.slicePlaces (i:Int) (j:Int) 1=j-i:=by
 unfold Builtin.Slice.slicePlaces
 have h1:(1:Int) > 0:=by omega
 simp only [h1,if_true,Int.ediv_one]
 split <;> omega
theorem jv {v:Value} {o:Option Int} {Q:Option Int->Shared->Prop} (p:IsPart v o) (h:Q o s):wpAny (model prog w) A (Builtin.Slice.slicePartIndex v) Q E s:=by
 cases p with
 | none=>exact slicePart_none h
 | int i t=>exact slicePart_int h
theorem ia {sl:Addr} {vl vu:Value} {lo hi:Option Int} {n:Nat} {Q:Int×Int×Nat->Shared->Prop} (hs:s.heap.IsSliceOf sl vl vu .none) (pl:IsPart vl lo) (pu:IsPart vu hi)
  (h:Q (((bX n 0 lo:Nat):Int),1,bX n n hi-bX n 0 lo) s):wpAny (model prog w) A (Builtin.Slice.sliceApplied (.ref sl) (pure (n:Int))) Q E s:=by
 obtain ⟨os,hos,hcs,hds⟩:=id hs
 unfold Builtin.Slice.sliceApplied Builtin.Slice.sliceFields
 refine wpAny_bind (wpAny_bind (wpAny_field hos hds (x:=vl) rfl (wpAny_bind (wpAny_field hos hds (x:=vu) rfl (wpAny_bind (wpAny_field hos hds (x:=.none) rfl (wpAny_pure ?_)))))))
 refine wpAny_bind (slicePart_none ?_)
 show wpAny _ _ (if ((1:Int) == 0)=true then _ else _) _ _ s
 rw [if_neg (by decide)]
 refine wpAny_bind (jv pl (wpAny_bind (jv pu (wpAny_bind (wpAny_pure ?_)))))
 show wpAny _ _ (match Builtin.Slice.sliceAdjust lo hi 1 (n:Int) with | (lo,hi)=>pure (lo,(1:Int),Builtin.Slice.slicePlaces lo hi 1)) _ _ s
 rw [qL lo hi n]
 show wpAny _ _ (pure (((bX n 0 lo:Nat):Int),(1:Int),Builtin.Slice.slicePlaces ((bX n 0 lo:Nat):Int) ((bX n n hi:Nat):Int) 1)) _ _ s
 rw [pV]
 exact wpAny_pure h
theorem we (xs:Array Value) (i k:Nat):((List.range k).filterMap fun (m:Nat)=>xs[((i:Int)+(m:Int)*1).toNat]?).toArray=((xs.toList.drop i).take k).toArray:=by
 have e:(fun (m:Nat)=>xs[((i:Int)+(m:Int)*1).toNat]?)=fun m=>xs[i+m]?:=by
  funext m
  have:((i:Int)+(m:Int)*1).toNat=i+m:=by omega
  rw [this]
 rw [e]
 have:=pick_run xs i k
 rw [List.filterMap_map] at this
 have e2:((fun x=>xs[x]?) ∘ fun x=>i+x)=fun m=>xs[i+m]?:=rfl
 rw [e2] at this
 rw [this]
theorem gI {t sl:Addr} {items:Array Value} {vl vu:Value} {lo hi:Option Int} {Q:Value->Shared->Prop} (ht:IsTup s.heap t items) (hs:s.heap.IsSliceOf sl vl vu .none) (pl:IsPart vl lo) (pu:IsPart vu hi)
  (hw:¬ (bX items.size 0 lo=0/\bX items.size items.size hi=items.size))
  (h:Q (.ref s.heap.objs.size) { s with heap:=s.heap.push { cls:=.type "tuple", data:=.seq ((items.toList.drop (bX items.size 0 lo)).take (bX items.size items.size hi-bX items.size 0 lo)).toArray } })
  (hsz:items.size<=sizeLine):wpAny (model prog w) A (getItem (.ref t) (.ref sl)) Q E s:=by
 have sE:sizeOk (.seq ((items.toList.drop (bX items.size 0 lo)).take (bX items.size items.size hi-bX items.size 0 lo)).toArray):=by
  show ((items.toList.drop (bX items.size 0 lo)).take (bX items.size items.size hi-bX items.size 0 lo)).toArray.size<=sizeLine
  rw [List.size_toArray,List.length_take,List.length_drop,Array.length_toList]
  omega
 have hj:bX items.size items.size hi<=items.size:=DH _ _ (Nat.le_refl _) hi
 obtain ⟨os,hos,hcs,hds⟩:=id hs
 have hTs:s.TypeIs (.ref sl) "slice":=⟨os, hos, hcs⟩
 unfold getItem
 try with_reducible refine wpAny_holding ?_
 first | refine wpAny_bind (wpAny_pure ?_) | skip
 refine wpAny_bind (wpAny_sequenceKey ht.typeIs (by decide) ?_)
 refine wpAny_bind (wpAny_callSpecial?_slot (name:=Str.ofString "__getitem__") ht.typeIs PyProof.Rows.slot_tuple_getitem
  (wpAny_call_entry PyProof.Rows.slot_tuple_getitem ht.typeIs entry_tuple_getitem ?_ (args_tuple_getitem _ _)))
 show wpAny _ _ (Builtin.Tuple.tupleItemsOf (.ref t) >>= _) _ _ s
 refine wpAny_bind (tupleItemsOf_ ht ?_)
 refine wpAny_bind (wpAny_typeOf hTs ?_)
 rw [if_pos (by decide)]
 refine wpAny_bind (ia hs pl pu ?_)
 have hno:¬ ((((bX items.size 0 lo:Nat):Int) == 0&&(1:Int) == 1&&(bX items.size items.size hi-bX items.size 0 lo) == items.size)=true):=by
  intro q
  rw [Bool.and_eq_true,Bool.and_eq_true] at q
  have q1:((bX items.size 0 lo:Nat):Int)=0:=eq_of_beq q.1.1
  have q2:bX items.size items.size hi-bX items.size 0 lo=items.size:=eq_of_beq q.2
  exact hw ⟨by omega,by omega⟩
 show wpAny _ _ (if (((bX items.size 0 lo:Nat):Int) == 0&&(1:Int) == 1&&(bX items.size items.size hi-bX items.size 0 lo) == items.size)=true then _ else _) _ _ s
 rw [if_neg hno,we]
 first
  | exact wpAny_bind (m:=Builtin.Tuple.tupleExact _) (wpAny_newObj_type (wpAny_pure ⟨_,rfl,wpAny_pure h⟩) sE)
  | exact wpAny_bind (m:=Builtin.Tuple.tupleExact _) (wpAny_newObj_type (wpAny_bind (wpAny_pure (wpAny_pure ⟨_,rfl,wpAny_pure h⟩))) sE)
  | exact wpAny_bind (wpAny_bind (m:=Builtin.Tuple.tupleExact _) (wpAny_newObj_type (wpAny_pure (wpAny_pure ⟨_,rfl,wpAny_pure h⟩)) sE))
  | exact wpAny_bind (wpAny_bind (m:=Builtin.Tuple.tupleExact _) (wpAny_newObj_type (wpAny_pure ⟨_,rfl,wpAny_pure h⟩) sE))
end
end HT
namespace L2
open PySem PySem.Spec PyProof.Rows
noncomputable abbrev TO:=St->Hp->(Option Int->Hp->Prop)->Prop
noncomputable def PO (X:Cx) (e:Option Expr) (t:TO):Prop :=
 ∀ (pins:List (Addr×Obj)) (s:Shared) (σ:St) (H:Hp) (Q:Option Int->Hp->Prop),Inv X pins σ H s->t σ H Q ->
  wpAny (model X.prog X.w) X.A (evalPart e X.env) (fun u s'=>∃ o H',Inv X pins σ H' s'/\IsPart u o/\Q o H') X.xe s
noncomputable def qW:TO:=fun _ H Q=>Q none H
noncomputable def B4 (t:TE):TO:=fun σ H Q=>t σ H fun x H1=>∃ i,x=.int i/\Q (some i) H1
section
variable {X:Cx} {e:Expr} {te:TE} {lo hi:Option Expr} {tl th:TO} {pos p2:Pos}
theorem Au:PO X none qW:=by
 intro pins s σ H Q I h
 rw [evalPart_none]
 exact wpAny_pure ⟨none,H,I,.none,h⟩
theorem As (h:PE X e te):PO X (some e) (B4 te):=by
 intro pins s σ H Q I hw
 rw [evalPart_some]
 refine aT (h pins s σ H _ I hw) fun u s1 ⟨x,H1,I1,r1,q1⟩=>?_
 obtain ⟨i,rfl,q⟩:=q1
 obtain ⟨t,rfl⟩:=r1
 exact ⟨some i,H1,I1,.int i t,q⟩
noncomputable def BO (X:Cx) (r:V->Option Int->Option Int->Hp->VK->Prop):Prop :=
 ∀ (pins:List (Addr×Obj)) (s:Shared) (σ:St) (H:Hp) (x:V) (v vl vu:Value) (lo hi:Option Int) (sl:Addr) (Q:VK),Inv X pins σ H s->RelV x v->s.heap.IsSliceOf sl vl vu .none->IsPart vl lo->IsPart vu hi->r x lo hi H Q ->
  ∃ T id, typeLookup (.type T) "__getitem__" = pure (some (.builtin id))/\s.TypeIs v T/\wpAny (model X.prog X.w) X.A (getItem v (.ref sl)) (EP X pins σ Q) X.xe s
theorem BO.or {r r':V->Option Int->Option Int->Hp->VK->Prop} (h:BO X r) (h':BO X r'):BO X (fun x lo hi H Q=>r x lo hi H Q\/r' x lo hi H Q):=by
 intro pins s σ H x v vl vu lo hi sl Q I rx hs pl pu q
 rcases q with q | q
 ·exact h pins s σ H x v vl vu lo hi sl Q I rx hs pl pu q
 ·exact h' pins s σ H x v vl vu lo hi sl Q I rx hs pl pu q
noncomputable def tSl (r:V->Option Int->Option Int->Hp->VK->Prop) (te:TE) (tl th:TO):TE:=fun σ H Q=>te σ H fun x H1=>tl σ H1 fun l H2=>th σ H2 fun u H3=>r x l u H3 Q
theorem wj {r:V->Option Int->Option Int->Hp->VK->Prop} (hr:BO X r) (he:PE X e te) (hl:PO X lo tl) (hu:PO X hi th):PE X (.Subscript e (.Slice lo hi none p2) pos) (tSl r te tl th):=by
 intro pins s σ H Q I h
 refine Subscript_ (aT (he pins s σ H _ I h) fun v s1 ⟨x,H1,I1,r1,q1⟩=>?_)
 refine wpAny_Slice (aT (hl pins s1 σ H1 _ I1 q1) fun vl s2 ⟨l,H2,I2,pl,q2⟩=>aT (hu pins s2 σ H2 _ I2 q2) fun vu s3 ⟨u,H3,I3,pu,q3⟩=>?_)
 rw [evalPart_none]
 refine wpAny_pure ?_
 have I4:Inv X pins σ H3 { s3 with heap:=s3.heap.push { cls:=.type "slice", data:=.fields #[vl, vu, .none] } }:=I3.kept (t':=s3.toks) fun b ob q=>Heap.get?_push_of_some _ q
 obtain ⟨T, id, hT, ht, hg⟩:=hr pins { s3 with heap:=s3.heap.push { cls:=.type "slice", data:=.fields #[vl, vu, .none] } } σ H3 x v vl vu l u s3.heap.objs.size Q I4 r1 (Heap.IsSliceOf.new ..) pl pu q3
 show wpAny (model X.prog X.w) X.A (subscriptTail e (.Slice lo hi none p2) v (.ref s3.heap.objs.size)) (EP X pins σ Q) X.xe { s3 with heap:=s3.heap.push { cls:=.type "slice", data:=.fields #[vl, vu, .none] } }
 exact tail_any (ops:=[.ref s3.heap.objs.size,v]) ht hT hg (by with_unfolding_all rfl)
noncomputable def oV (xs:List V) (lo hi:Option Int):List V:=(xs.drop (HT.bX xs.length 0 lo)).take (HT.bX xs.length xs.length hi-HT.bX xs.length 0 lo)
theorem iS (xs:List V) (lo hi:Option Int):(oV xs lo hi).length<=xs.length:=by
 unfold oV
 rw [List.length_take,List.length_drop]
 omega
noncomputable def Ic (K:PySem.W.Frag):V->Option Int->Option Int->Hp->VK->Prop:=fun x lo hi H Q=>∃ a xs,x=.ref a/\gr K H a xs /\
 ¬ (HT.bX xs.length 0 lo=0/\HT.bX xs.length xs.length hi=xs.length)/\∀ p,H p=none->Q (.ref p) (upd H p (.tup (oV xs lo hi)))
theorem Dq:BO X (Ic X.K):=by
 intro pins s σ H x v vl vu lo hi sl Q I rx hs pl pu h
 obtain ⟨a,xs,rfl,hx,hw,q⟩:=h
 cases rx
 obtain ⟨its,r,ht,hz⟩:=I.tuple hx
 have hlen:its.toArray.size=xs.length:=by rw [List.size_toArray];exact r.length.symm
 refine ⟨"tuple", _, PyProof.Rows.slot_tuple_getitem.lookup, ht.typeIs, ?_⟩
 refine HT.gI ht hs pl pu (by rw [hlen];exact hw) ?_ (by rw [hlen];exact hz)
 rw [hlen]
 refine ⟨.ref s.heap.objs.size,_,I.laid (t':=s.toks) (o:=.tup (oV xs lo hi)) (fun b ob q=>Heap.get?_push_of_some _ q) (Nat.le_refl _) ?_,rfl,q _ (I.hok.fresh (Nat.le_refl _))⟩
 exact ⟨Nat.le_trans (iS xs lo hi) hz,_,(r.drop (HT.bX xs.length 0 lo)).take (HT.bX xs.length xs.length hi-HT.bX xs.length 0 lo),IsTup.new _ _⟩
noncomputable def Co (K:PySem.W.Frag):R2:=fun x y H Q=>∃ a b xs ys,x=.ref a/\y=.ref b/\gr K H a xs/\gr K H b ys/\xs≠[]/\xs.length+ys.length<=sizeLine /\
 (ys=[]->Q (.ref a) H)/\(ys≠[]->∀ p,H p=none->Q (.ref p) (upd H p (.tup (xs++ys))))
theorem Vals.lV {xs:List V} {us:List Value} (r:Vals xs us):us=[]↔xs=[]:=by
 cases r with
 | nil=>simp
 | cons _ _=>simp
theorem AG:dY X (binaryOp .Add) (Co X.K):=by
 intro pins s σ H x y v u Q I rx ry h
 obtain ⟨a,b,xs,ys,rfl,rfl,ha,hb,hx,hz,q1,q2⟩:=h
 cases rx
 cases ry
 obtain ⟨its,r1,p1,_⟩:=I.tuple ha
 obtain ⟨its2,r2,p2,_⟩:=I.tuple hb
 refine HT.BC p1 p2 (fun z=>hx (r1.lV.mp z)) (fun z=>⟨.ref a,H,I,rfl,q1 (r2.lV.mp z)⟩) (fun z=>?_) (by rw [<- r1.length,<- r2.length];exact hz)
 refine ⟨.ref s.heap.objs.size,_,I.laid (t':=s.toks) (o:=.tup (xs++ys)) (fun b ob q=>Heap.get?_push_of_some _ q) (Nat.le_refl _) ?_,rfl,q2 (fun w=>z (r2.lV.mpr w)) _ (I.hok.fresh (Nat.le_refl _))⟩
 exact ⟨by rw [List.length_append];exact hz,_,r1.append r2,IsTup.new _ _⟩
end
noncomputable def G0 (n:Nat) (i:Int):Option Nat:=if 0<=i then (if i<n then some i.toNat else none) else if -(n:Int)<=i then some (i+n).toNat else none
noncomputable def GD {α:Type} (xs:List α) (i:Int):Option α:=(G0 xs.length i).bind fun j=>xs[j]?
theorem su {n:Nat} {i:Int} {j:Nat} (h:G0 n i=some j):seqIndex? i n=some j/\j<n/\-(n:Int)<=i/\i<n:=by
 unfold G0 at h
 by_cases h0:0<=i
 ·rw [if_pos h0] at h
  by_cases h1:i<n
  ·rw [if_pos h1] at h
   have e:i.toNat=j:=Option.some.inj h
   exact ⟨by rw [seqIndex_of h0 h1,e],by omega,by omega,h1⟩
  ·rw [if_neg h1] at h;cases h
 ·rw [if_neg h0] at h
  by_cases h1:-(n:Int)<=i
  ·rw [if_pos h1] at h
   have e:(i+n).toNat=j:=Option.some.inj h
   exact ⟨by rw [seqIndex_neg (by omega) h1,e],by omega,h1,by omega⟩
  ·rw [if_neg h1] at h;cases h
theorem mZ {α:Type} {xs:List α} {i:Int} {v:α} (h:GD xs i=some v):∃ j,seqIndex? i xs.length=some j/\xs[j]? = some v/\j<xs.length/\-(xs.length:Int)<=i/\i<xs.length:=by
 unfold GD at h
 cases e:G0 xs.length i with
 | none=>rw [e] at h;cases h
 | some j =>
  rw [e] at h
  obtain ⟨h1,h2,h3,h4⟩:=su e
  exact ⟨j,h1,h,h2,h3,h4⟩
noncomputable def tQ (b:Expr):Prop:=∀ o i,subscripted b false o i=operate [o,i] (getItem o i)
noncomputable def zc (X:Cx) (r:R2):Prop :=
 ∀ (value slice:Expr) (pins:List (Addr×Obj)) (s:Shared) (σ:St) (H:Hp) (x y:V) (v u:Value) (Q:VK),Inv X pins σ H s->RelV x v->RelV y u->r x y H Q ->
  subscripted slice false v u=operate [v,u] (getItem v u)->wpAny (model X.prog X.w) X.A (subscriptTail value slice v u) (EP X pins σ Q) X.xe s
noncomputable def MtR (X:Cx) (id:String) (r:V->List V->Hp->VK->Prop):Prop :=
 ∀ (pins:List (Addr×Obj)) (s:Shared) (σ:St) (H:Hp) (x:V) (xs:List V) (v:Value) (us:List Value) (Q:VK),Inv X pins σ H s->RelV x v->Vals xs us->r x xs H Q ->
  wpAny (model X.prog X.w) X.A (call (.builtin id) (v::us)) (EP X pins σ Q) X.xe s
section
variable {X:Cx} {a b:Expr} {ta tb:TE} {pos:Pos}
theorem zc.or {r r':R2} (h:zc X r) (h':zc X r'):zc X (fun x y H Q=>r x y H Q\/r' x y H Q):=by
 intro value slice pins s σ H x y v u Q I rx ry q hs
 rcases q with q | q
 ·exact h value slice pins s σ H x y v u Q I rx ry q hs
 ·exact h' value slice pins s σ H x y v u Q I rx ry q hs
theorem IF {r:R2} (hr:zc X r) (ha:PE X a ta) (hb:PE X b tb) (hs:tQ b):PE X (.Subscript a b pos) (Di r ta tb):=by
 intro pins s σ H Q I h
 exact Subscript_ (GC ha hb I h fun v u s2 x y H2 I2 rx ry q=>hr a b pins s2 σ H2 x y v u Q I2 rx ry q (hs _ _))
noncomputable def Il (K:PySem.W.Frag):R2:=fun x y H Q=>∃ p xs i v,x=.ref p/\y=.int i/\eV K H p xs/\GD xs i=some v/\Q v H
noncomputable def Ij (K:PySem.W.Frag):R2:=fun x y H Q=>∃ p xs i v,x=.ref p/\y=.int i/\gr K H p xs/\GD xs i=some v/\Q v H
noncomputable def Ik:R2:=fun x y H Q=>∃ z i c,x=.str z/\y=.int i/\z.length<=sizeLine/\GD z.cps.toList i=some c/\Q (.str ⟨#[c]⟩) H
theorem A6:zc X (Il X.K):=by
 intro value slice pins s σ H x y v u Q I rx ry h hs
 obtain ⟨p,xs,i,z,rfl,rfl,hq,he,q⟩:=h
 cases rx
 obtain ⟨t,rfl⟩:=ry
 obtain ⟨its,r,pl,hz⟩:=I.list hq
 obtain ⟨j,h1,h2,h3,h4,h5⟩:=mZ he
 obtain ⟨w,ew,rw'⟩:=r.get h2
 have hl:=r.length
 have hn:=ig
 have fin:EP X pins σ Q w s:=⟨z,H,I,rw',q⟩
 by_cases h0:0<=i
 ·have hj:i.toNat=j:=by
   rw [seqIndex_of h0 h5] at h1
   exact Option.some.inj h1
  exact item_listR pl.isList h0 (by omega) (by rw [hj];simpa using ew) fin hs
 ·have hj:(i+(its.toArray.size:Int)).toNat=j:=by
   rw [seqIndex_neg (by omega) h4] at h1
   rw [List.size_toArray,<- hl]
   exact Option.some.inj h1
  exact subscriptTail_builtinR (x:=w) pl.isList.typeIs slot_list_getitem.lookup
   (wpAny_getItem_list_neg (Q:=fun r s'=>r=w/\EP X pins σ Q r s') pl.isList (by omega) (by rw [List.size_toArray] <;> omega) (by omega) (by rw [hj];simpa using ew) ⟨rfl,fin⟩) hs
theorem FF:zc X (Ij X.K):=by
 intro value slice pins s σ H x y v u Q I rx ry h hs
 obtain ⟨p,xs,i,z,rfl,rfl,hq,he,q⟩:=h
 cases rx
 obtain ⟨t,rfl⟩:=ry
 obtain ⟨its,r,pl,hz⟩:=I.tuple hq
 obtain ⟨j,h1,h2,h3,h4,h5⟩:=mZ he
 obtain ⟨w,ew,rw'⟩:=r.get h2
 have hl:=r.length
 have hn:=ig
 have fin:EP X pins σ Q w s:=⟨z,H,I,rw',q⟩
 exact subscriptTail_builtinR (x:=w) pl.typeIs slot_tuple_getitem.lookup
  (getItem_tuple (j:=j) (Q:=fun r s'=>r=w/\EP X pins σ Q r s') pl (by omega) (by omega) (by rw [List.size_toArray,<- hl];exact h1) (by simpa using ew) ⟨rfl,fin⟩) hs
theorem FG:zc X Ik:=by
 intro value slice pins s σ H x y v u Q I rx ry h hs
 obtain ⟨z,i,c,rfl,rfl,hz,he,q⟩:=h
 obtain ⟨t,rfl⟩:=rx
 obtain ⟨t',rfl⟩:=ry
 obtain ⟨j,h1,h2,h3,h4,h5⟩:=mZ he
 have hl:z.cps.toList.length=z.length:=by simp [Str.length]
 rw [hl] at h1 h4 h5
 have hn:=ig
 exact tail_any (typeIs_str s z t) slot_str_getitem.lookup (getItem_str (c:=c) (by
  have e1:decide (i < -(2 ^ 63:Int))=false:=decide_eq_false (by omega)
  have e2:decide (i ≥ 2 ^ 63)=false:=decide_eq_false (by omega)
  rw [e1,e2,Bool.or_false]) (by rw [h1];simpa using h2) ⟨.str ⟨#[c]⟩,H,I.tok _,⟨_,rfl⟩,q⟩) hs
theorem qb (its:List Value) (n j:Nat) (u:Value):Obj.mapSeq (·.setIfInBounds j u) { cls:=.type "list", data:=.seq its.toArray n }={ cls:=.type "list", data:=.seq (its.set j u).toArray n }:=by
 simp [Obj.mapSeq]
theorem Inv.lst {pins:List (Addr×Obj)} {σ:St} {H:Hp} {s:Shared} {p:Addr} {xs:List V} (I:Inv X pins σ H s) (h:H p=some (.lst xs)) :
  ∃ (its:List Value) (n:Nat), Vals xs its/\s.heap.get? p=some { cls:=.type "list", data:=.seq its.toArray n }/\xs.length<=sizeLine:=by
 obtain ⟨z,its,n,r,e⟩:=I.hok p _ h
 exact ⟨its,n,r,e,z⟩
theorem Inv.ES {pins:List (Addr×Obj)} {σ:St} {H:Hp} {s:Shared} {p:Addr} {xs ys:List V} {its its':List Value} {n n':Nat} {f:Obj->Obj} (I:Inv X pins σ H s) (h:H p=some (.lst xs))
  (ho:s.heap.get? p=some { cls:=.type "list", data:=.seq its.toArray n }) (hf:f { cls:=.type "list", data:=.seq its.toArray n }={ cls:=.type "list", data:=.seq its'.toArray n' }) (r:Vals ys its') (hz:ys.length<=sizeLine) (t:Nat) :
  Inv X pins σ (upd H p (.lst ys)) { s with heap:=s.heap.update p f,toks:=t }:=by
 have e:(s.heap.update p f).get? p=some { cls:=.type "list", data:=.seq its'.toArray n' }:=by
  rw [Heap.get?_update_self f ho (by rw [hf] <;> rfl),hf]
 refine I.write (x:=p) (e:=p) (by rw [h];trivial) (.inl rfl) (fun b u hb q=>(Heap.get?_update_other _ _ (Ne.symm hb)).trans q) ⟨_,e⟩ ?_
 exact ⟨hz,its',n',r,e⟩
noncomputable def Cj:V->V->V->Hp->(Hp->Prop)->Prop:=fun o i v H Q=>∃ p xs k j,o=.ref p/\i=.int k/\H p=some (.lst xs)/\G0 xs.length k=some j/\Q (upd H p (.lst (xs.set j v)))
theorem set_list:PSet X Cj:=by
 intro pins s σ H o i v ov iv u Q I ro ri rv h
 obtain ⟨p,xs,k,j,rfl,rfl,hp,hj,q⟩:=h
 cases ro
 obtain ⟨t,rfl⟩:=ri
 obtain ⟨its,n,r,ho,hz⟩:=I.lst hp
 obtain ⟨h1,h2,h3,h4⟩:=su hj
 have hl:=r.length
 have hn:=ig
 have I':Inv X pins σ (upd H p (.lst (xs.set j v))) { s with heap:=s.heap.update p (Obj.mapSeq (·.setIfInBounds j u)) } :=
  I.ES hp ho (qb its n j u) (r.set rv j) (by rw [List.length_set];exact hz) s.toks
 by_cases h0:0<=k
 ·have hk:k.toNat=j:=by
   rw [seqIndex_of h0 h4] at h1
   exact Option.some.inj h1
  exact PySem.W.ki_setAt ho h0 (by omega) (by rw [List.size_toArray,<- hl];exact h4) (by rw [hk];exact ⟨_,I',q⟩)
 ·have hk:(k+(its.toArray.size:Int)).toNat=j:=by
   rw [seqIndex_neg (by omega) h3] at h1
   rw [List.size_toArray,<- hl]
   exact Option.some.inj h1
  exact PySem.W.ki_setBack ho (by omega) (by rw [List.size_toArray,<- hl];exact h3) (by omega) (by rw [hk];exact ⟨_,I',q⟩)
theorem lH (lo hi:Option Int) (n:Nat):(sliceBounds lo hi none n).1=((HT.bX n 0 lo:Nat):Int)/\(sliceBounds lo hi none n).2.1=((HT.bX n n hi:Nat):Int)/\(sliceBounds lo hi none n).2.2=1:=by
 refine ⟨?_,?_,rfl⟩
 ·cases lo with
  | none=>simp [sliceBounds,HT.bX]
  | some i =>
   simp only [sliceBounds,HT.bX,Option.getD_none,show (1:Int) > 0 by decide,if_true]
   by_cases h:i<0
   ·simp only [h,if_true] <;> omega
   ·simp only [h,if_false] <;> omega
 ·cases hi with
  | none=>simp [sliceBounds,HT.bX]
  | some i =>
   simp only [sliceBounds,HT.bX,Option.getD_none,show (1:Int) > 0 by decide,if_true]
   by_cases h:i<0
   ·simp only [h,if_true] <;> omega
   ·simp only [h,if_false] <;> omega
theorem kc (its:List Value) (lo hi:Option Int):slicePick its.toArray lo hi none=((its.drop (HT.bX its.length 0 lo)).take (HT.bX its.length its.length hi-HT.bX its.length 0 lo)).toArray:=by
 obtain ⟨h1,h2,h3⟩:=lH lo hi its.toArray.size
 unfold slicePick
 rw [h1,h2,h3]
 simp only [sliceRange_one,pick_run,List.size_toArray] <;> rfl
noncomputable def Ig (K:PySem.W.Frag):V->Option Int->Option Int->Hp->VK->Prop:=fun x lo hi H Q=>∃ a xs,x=.ref a/\eV K H a xs/\∀ p,H p=none->Q (.ref p) (upd H p (.lst (oV xs lo hi)))
theorem zI:BO X (Ig X.K):=by
 intro pins s σ H x v vl vu lo hi sl Q I rx hs pl pu h
 obtain ⟨a,xs,rfl,hx,q⟩:=h
 cases rx
 obtain ⟨its,r,ht,hz⟩:=I.list hx
 have hlen:=r.length
 refine ⟨"list", _, slot_list_getitem.lookup, ht.isList.typeIs, ?_⟩
 refine wpAny_getItem_list_slice ht.isList hs pl pu .none (by simp) ?_ (by rw [List.size_toArray] <;> omega)
 rw [kc,<- hlen]
 refine ⟨.ref s.heap.objs.size,_,I.laid (t':=s.toks) (o:=.lst (oV xs lo hi)) (fun b ob q=>Heap.get?_push_of_some _ q) (Nat.le_refl _) ?_,rfl,q _ (I.hok.fresh (Nat.le_refl _))⟩
 exact ⟨Nat.le_trans (iS xs lo hi) hz,_,0,(r.drop (HT.bX xs.length 0 lo)).take (HT.bX xs.length xs.length hi-HT.bX xs.length 0 lo),Heap.get?_push_size _ rfl⟩
noncomputable def fV:V->Bool
 | .ao=>true
 | .bl _=>true
 | .int _=>true
 | .str _=>true
 | _=>false
noncomputable def yZ:V->V->Bool
 | .ao,.ao=>true
 | .bl a,.bl b=>a == b
 | .bl a,.int b=>(if a then 1 else 0) == b
 | .int a,.bl b=>a == (if b then 1 else 0)
 | .int a,.int b=>a == b
 | .str a,.str b=>a == b
 | _,_=>false
theorem Gh {A:Around} {s:Shared} {y x:V} {u v:Value} (ry:RelV y u) (rx:RelV x v) (fy:fV y=true) (fx:fV x=true):SeqAt.EqAt A s u v (yZ y x):=by
 cases y with
 | ao =>
  cases ry
  cases x with
  | ao=>cases rx;exact SeqAt.EqAt.same _
  | bl b=>cases rx;exact SeqAt.EqAt.none_bool b
  | int b=>obtain ⟨t,rfl⟩:=rx;exact SeqAt.EqAt.none_int b t
  | str b=>obtain ⟨t,rfl⟩:=rx;exact SeqAt.EqAt.none_str b t
  | _=>exact absurd (show false=true from fx) Bool.false_ne_true
 | bl a =>
  cases ry
  cases x with
  | ao=>cases rx;exact SeqAt.EqAt.bool_none a
  | bl b=>cases rx;exact SeqAt.EqAt.bool_bool a b
  | int b=>obtain ⟨t,rfl⟩:=rx;exact SeqAt.EqAt.bool_int a b t
  | str b=>obtain ⟨t,rfl⟩:=rx;exact SeqAt.EqAt.bool_str a b t
  | _=>exact absurd (show false=true from fx) Bool.false_ne_true
 | int a =>
  obtain ⟨t',rfl⟩:=ry
  cases x with
  | ao=>cases rx;exact SeqAt.EqAt.int_none a t'
  | bl b=>cases rx;exact SeqAt.EqAt.int_bool a t' b
  | int b=>obtain ⟨t,rfl⟩:=rx;exact SeqAt.EqAt.int_int a t' b t
  | str b=>obtain ⟨t,rfl⟩:=rx;exact SeqAt.EqAt.int_str a t' b t
  | _=>exact absurd (show false=true from fx) Bool.false_ne_true
 | str a =>
  obtain ⟨t',rfl⟩:=ry
  cases x with
  | ao=>cases rx;exact SeqAt.EqAt.str_none a t'
  | bl b=>cases rx;exact SeqAt.EqAt.str_bool a t' b
  | int b=>obtain ⟨t,rfl⟩:=rx;exact SeqAt.EqAt.str_int a t' b t
  | str b=>obtain ⟨t,rfl⟩:=rx;exact SeqAt.EqAt.str_str a t' b t
  | _=>exact absurd (show false=true from fx) Bool.false_ne_true
 | _=>exact absurd (show false=true from fy) Bool.false_ne_true
noncomputable def qC (x:V) (u:Value):Bool:=match u with
 | .none=>yZ .ao x
 | .bool b=>yZ (.bl b) x
 | .int i _=>yZ (.int i) x
 | .str z _=>yZ (.str z) x
 | _=>false
theorem yf {x y:V} {u:Value} (r:RelV y u) (f:fV y=true):qC x u=yZ y x:=by
 cases y with
 | ao=>cases r;rfl
 | bl b=>cases r;rfl
 | int i=>obtain ⟨t,rfl⟩:=r;rfl
 | str z=>obtain ⟨t,rfl⟩:=r;rfl
 | _=>exact absurd (show false=true from f) Bool.false_ne_true
theorem gZ {x:V}:∀ {xs:List V} {us:List Value},Vals xs us->xs.all fV=true->us.any (qC x)=xs.any fun y=>yZ y x
 | _,_,.nil,_=>rfl
 | y::xs,u::us,.cons r t,f=>by
  rw [List.all_cons,Bool.and_eq_true] at f
  rw [List.any_cons,List.any_cons,yf r f.1,gZ t f.2]
theorem fc {A:Around} {s:Shared} {x:V} {v:Value} (rx:RelV x v) (fx:fV x=true):∀ {xs:List V} {us:List Value},Vals xs us->xs.all fV=true->∀ u∈us,SeqAt.EqAt A s u v (qC x u)
 | _,_,.nil,_=>fun u hu=>by cases hu
 | y::xs,u::us,.cons r t,f=>fun u' hu=>by
  rw [List.all_cons,Bool.and_eq_true] at f
  rcases List.mem_cons.mp hu with rfl | hu
  ·rw [yf r f.1];exact Gh r rx f.1 fx
  ·exact fc rx fx t f.2 u' hu
noncomputable def Js (x:V) (xs:List V):Bool:=xs.any fun y=>yZ y x
noncomputable def Iq (K:PySem.W.Frag) (neg:Bool):R2:=fun x y H Q=>∃ p xs,y=.ref p/\(eV K H p xs\/gr K H p xs)/\fV x=true/\xs.all fV=true/\Q (.bl (if neg then !Js x xs else Js x xs)) H
theorem um:dY X (compareOp .In) (Iq X.K false):=by
 intro pins s σ H x y v u Q I rx ry h
 obtain ⟨p,xs,rfl,hq,fx,fs,q⟩:=h
 cases ry
 rcases hq with hq | hq
 ·obtain ⟨its,r,pl,hz⟩:=I.list hq
  refine SeqAt.in_listAt (qC x) pl.isList (fun w hw=>fc rx fx r fs w (by simpa using hw)) ⟨.bl _,H,I,rfl,?_⟩
  rw [show its.toArray.any (qC x)=its.any (qC x) by simp,gZ r fs]
  exact q
 ·obtain ⟨its,r,pl,hz⟩:=I.tuple hq
  refine SeqAt.in_tupleAt (qC x) pl (fun w hw=>fc rx fx r fs w (by simpa using hw)) ⟨.bl _,H,I,rfl,?_⟩
  rw [show its.toArray.any (qC x)=its.any (qC x) by simp,gZ r fs]
  exact q
theorem lS:dY X (compareOp .NotIn) (Iq X.K true):=by
 intro pins s σ H x y v u Q I rx ry h
 obtain ⟨p,xs,rfl,hq,fx,fs,q⟩:=h
 cases ry
 rcases hq with hq | hq
 ·obtain ⟨its,r,pl,hz⟩:=I.list hq
  refine SeqAt.notIn_listAt (qC x) pl.isList (fun w hw=>fc rx fx r fs w (by simpa using hw)) ⟨.bl _,H,I,rfl,?_⟩
  rw [show its.toArray.any (qC x)=its.any (qC x) by simp,gZ r fs]
  exact q
 ·obtain ⟨its,r,pl,hz⟩:=I.tuple hq
  refine SeqAt.notIn_tupleAt (qC x) pl (fun w hw=>fc rx fx r fs w (by simpa using hw)) ⟨.bl _,H,I,rfl,?_⟩
  rw [show its.toArray.any (qC x)=its.any (qC x) by simp,gZ r fs]
  exact q
theorem mX:bW X (.builtin "len") (fun xs H Q=>∃ p ys, xs=[.ref p]/\(eV X.K H p ys\/gr X.K H p ys)/\Q (.int ys.length) H):=by
 intro pins s σ H xs us Q I r h
 obtain ⟨p,ys,rfl,hq,q⟩:=h
 obtain ⟨u,rfl,rx⟩:=vals1 r
 cases rx
 have hn:=ig
 rcases hq with hq | hq
 ·obtain ⟨its,r',pl,hz⟩:=I.list hq
  have hlen:=r'.length
  exact Calls.call_len_list pl.isList (by simp only [List.size_toArray] <;> omega) ⟨.int ys.length,H,I.tok _,⟨s.toks+1,by rw [List.size_toArray,hlen]⟩,q⟩
 ·obtain ⟨its,r',pl,hz⟩:=I.tuple hq
  have hlen:=r'.length
  exact len_tuple pl (by simp only [List.size_toArray] <;> omega) ⟨.int ys.length,H,I.tok _,⟨s.toks+1,by rw [List.size_toArray,hlen]⟩,q⟩
theorem mW:bW X (.builtin "len") (fun xs H Q=>∃ z, xs=[.str z]/\z.length<=sizeLine/\Q (.int z.length) H):=by
 intro pins s σ H xs us Q I r h
 obtain ⟨z,rfl,hz,q⟩:=h
 obtain ⟨u,rfl,t,rfl⟩:=vals1 r
 have hn:=ig
 exact len_str (by omega) ⟨.int z.length,H,I.tok _,⟨_,rfl⟩,q⟩
theorem bW.or {f:Value} {r r':List V->Hp->VK->Prop} (h:bW X f r) (h':bW X f r'):bW X f (fun xs H Q=>r xs H Q\/r' xs H Q):=by
 intro pins s σ H xs us Q I rs q
 rcases q with q | q
 ·exact h pins s σ H xs us Q I rs q
 ·exact h' pins s σ H xs us Q I rs q
noncomputable def KJ (K:PySem.W.Frag) (T:String) (x:V) (H:Hp):Prop:=match x with
 | .str _=>T = "str"
 | .int _=>T = "int"
 | .ref p=>(T = "list"/\∃ xs, eV K H p xs)\/(T = "tuple"/\∃ o, K.lookup p=some o/\o.cls=.type "tuple"/\o.dict=none) \/
   (T = "dict"/\((∃ kvs, H p=some (.dK kvs))\/∃ kvs, H p=some (.dT kvs)))\/(T = "set"/\∃ S n, H p=some (.set S n))
 | _=>False
theorem vd {pins:List (Addr×Obj)} {σ:St} {H:Hp} {s:Shared} {T:String} {x:V} {v:Value} (I:Inv X pins σ H s) (r:RelV x v) (ty:KJ X.K T x H) :
  s.TypeIs v T/\∀ a,v=.ref a->∃ ob,s.heap.get? a=some ob/\ob.dict=none:=by
 cases x with
 | str z =>
  obtain ⟨t,rfl⟩:=r
  cases (show T = "str" from ty)
  exact ⟨typeIs_str s z t,fun _ e=>nomatch e⟩
 | int i =>
  obtain ⟨t,rfl⟩:=r
  cases (show T = "int" from ty)
  exact ⟨typeIs_int s i t,fun _ e=>nomatch e⟩
 | ref p =>
  cases r
  rcases ty with ⟨rfl,xs,hq⟩ | ⟨rfl,o,hk,hc,hd⟩ | ⟨rfl,hk⟩ | ⟨rfl,S,n,hk⟩
  ·obtain ⟨its,_,pl,_⟩:=I.list hq
   refine ⟨pl.isList.typeIs,fun a e=>?_⟩
   cases e
   obtain ⟨o,n,e,c,hd,_⟩:=pl
   exact ⟨o,e,hd⟩
  ·refine ⟨⟨o,I.fH p o hk,hc⟩,fun a e=>?_⟩
   cases e
   exact ⟨o,I.fH _ o hk,hd⟩
  ·have z:∃ o,s.heap.get? p=some o/\o.ExactDict:=by
    rcases hk with ⟨kvs,hk⟩ | ⟨kvs,hk⟩
    ·obtain ⟨_,_,_,_,o,_,_,e,ex,_⟩:=I.hok p _ hk
     exact ⟨o,e,ex⟩
    ·obtain ⟨_,_,_,_,o,_,_,e,ex,_⟩:=I.hok p _ hk
     exact ⟨o,e,ex⟩
   obtain ⟨o,e,ex⟩:=z
   refine ⟨⟨o,e,ex.1⟩,fun a e2=>?_⟩
   cases e2
   exact ⟨o,e,ex.2.1⟩
  ·obtain ⟨o,_,_,_,e,ex,_⟩:=I.hok p _ hk
   refine ⟨⟨o,e,ex.1⟩,fun a e2=>?_⟩
   cases e2
   exact ⟨o,e,ex.2.1⟩
 | _=>exact False.elim ty
noncomputable def zC (K:PySem.W.Frag) (T:String) (r:V->List V->Hp->VK->Prop) (to:TE):TE:=fun σ H Q=>to σ H fun x H1=>KJ K T x H1/\r x [] H1 Q
noncomputable def HJ (K:PySem.W.Frag) (T:String) (r:V->List V->Hp->VK->Prop) (to:TE) (t:TA):TE:=fun σ H Q=>to σ H fun x H1=>KJ K T x H1/\t σ H1 fun xs H2=>r x xs H2 Q
variable {o e:Expr} {es:List Expr} {to:TE} {t:TA} {name:Str} {apos cpos:Pos} {T id:String} {r:V->List V->Hp->VK->Prop}
theorem wD (pa:PlainAttrs T) (slot:Slot T name id) (hty:typeOf (.builtin id)=pure (.type "method_descriptor")) (hm:MtR X id r) (ho:PE X o to)
  (hbase:attributeBase o name X.env (eval o X.env)=eval o X.env:=by rfl) (hline:(apos.endLine == cpos.line)=true:=by rfl):PE X (.Call (.Attribute o name apos) [] [] cpos) (zC X.K T r to):=by
 intro pins s σ H Q I h
 refine wpAny_Call_method0_late hbase hline (aT (ho pins s σ H _ I h) fun v s1 ⟨x,H1,I1,r1,ty,q1⟩=>?_)
 obtain ⟨h1,h2⟩:=vd I1 r1 ty
 exact ⟨T,id,pa,slot,hty,h1,h2,Calls.callWith_builtin rfl (PySem.evalArgs_none (hm pins s1 σ H1 x [] v [] Q I1 r1 .nil q1))⟩
theorem rY (pa:PlainAttrs T) (slot:Slot T name id) (hty:typeOf (.builtin id)=pure (.type "method_descriptor")) (hm:MtR X id r) (ho:PE X o to) (ha:PA X (e::es) t)
  (hbase:attributeBase o name X.env (eval o X.env)=eval o X.env:=by rfl)
  (hfew:((backTo cpos (starEach (e::es) X.env)).all (fun x=>!x.1)&&(backToKw cpos (keywordEach [] X.env)).all (fun x=>x.1.isSome)
  &&decide ((e::es).length+([]:List Keyword).length+(if ([]:List Keyword).isEmpty then 0 else 1)<30))=true:=by rfl)
  (hline:(apos.endLine == cpos.line)=true:=by rfl) (hs:starEach (e::es) X.env=(false,eval e X.env)::starEach es X.env:=by rfl) (hplain:(backTo cpos (starEach es X.env)).any (·.1)=false:=by rfl) :
  PE X (.Call (.Attribute o name apos) (e::es) [] cpos) (HJ X.K T r to t):=by
 intro pins s σ H Q I h
 refine wpAny_Call_method_late hbase hfew hline rfl (aT (ho pins s σ H _ I h) fun v s1 ⟨x,H1,I1,r1,ty,q1⟩=>?_)
 obtain ⟨h1,h2⟩:=vd I1 r1 ty
 refine ⟨T,id,pa,slot,hty,h1,h2,?_⟩
 have hA:=ha cpos pins s1 σ H1 _ I1 q1
 rw [hs] at hA ⊢
 refine Calls.callWith_builtin (by show (false||(backTo cpos (starEach es X.env)).any (·.1))=false;rw [hplain] <;> rfl) (Calls.evalArgs_plain ?_)
 exact aT hA fun us s2 ⟨vs,H2,I2,r2,q2⟩=>hm pins s2 σ H2 x vs v us Q I2 r1 r2 q2
end
noncomputable def Kz (X:Cx) (id:String) (r:V->List V->Hp->VK->Prop):Prop :=
 ∀ (pins:List (Addr×Obj)) (s:Shared) (σ:St) (H:Hp) (x:V) (xs:List V) (v:Value) (us:List Value) (Q:VK),Inv X pins σ H s->RelV x v->Vals xs us->r x xs H Q ->
  wpAny (model X.prog X.w) X.A (call (.builtin id) (v::us)) (EP X pins σ Q) X.xe s
theorem Vals.one:∀ {x:V} {us:List Value},Vals [x] us->∃ u,us=[u]/\RelV x u
 | _,_,.cons r .nil=>⟨_,rfl,r⟩
theorem Vals.two:∀ {x y:V} {us:List Value},Vals [x,y] us->∃ u v,us=[u,v]/\RelV x u/\RelV y v
 | _,_,_,.cons r (.cons q .nil)=>⟨_,_,rfl,r,q⟩
theorem Vals.zero:∀ {us:List Value},Vals [] us->us=[]
 | _,.nil=>rfl
theorem Vals.dropLast {xs:List V} {us:List Value} (h:Vals xs us):Vals xs.dropLast us.dropLast:=by
 induction h with
 | nil=>exact .nil
 | cons r t ih =>
  cases t with
  | nil=>exact .nil
  | cons q t'=>exact .cons r ih
theorem Vals.reverse {xs:List V} {us:List Value} (h:Vals xs us):Vals xs.reverse us.reverse:=by
 induction h with
 | nil=>exact .nil
 | cons r t ih=>rw [List.reverse_cons,List.reverse_cons];exact Vals.append ih (.cons r .nil)
theorem qB {α:Type} (l:List α):l.eraseIdx (l.length-1)=l.dropLast:=by
 induction l with
 | nil=>rfl
 | cons a r ih =>
  cases r with
  | nil=>rfl
  | cons b r =>
   have e:(a::b::r).length-1=((b::r).length-1)+1:=by
    have h1:(a::b::r).length=r.length+2:=rfl
    have h2:(b::r).length=r.length+1:=rfl
    omega
   rw [e,List.eraseIdx_cons_succ,ih]
   all_goals rfl
section
variable {X:Cx} {pins:List (Addr×Obj)} {σ:St} {H:Hp} {s:Shared} {l b:Addr} {xs ys zs:List V}
theorem Inv.AV {its its':List Value} {n:Nat} {f:Array Value->Array Value} {t':Nat} (I:Inv X pins σ H s) (hH:H l=some (.lst xs))
  (e:s.heap.get? l=some { cls:=.type "list", data:=.seq its.toArray n }) (hf:f its.toArray=its'.toArray) (hv:Vals ys its') (hz:ys.length<=sizeLine) :
  Inv X pins σ (upd H l (.lst ys)) { s with heap:=s.heap.update l (Obj.mapSeq f),toks:=t' }:=by
 have q:=PySem.IsL.update e f
 rw [hf] at q
 refine I.write (x:=l) (e:=l) (by rw [hH];exact trivial) (.inl rfl) (fun b' u hb hu=>(Heap.get?_update_other s.heap (Obj.mapSeq f) (Ne.symm hb)).trans hu) ⟨_,q⟩ ?_
 exact ⟨hz,its',_,hv,q⟩
theorem Inv.Je {its:List Value} {t':Nat} (I:Inv X pins σ H s) (hv:Vals ys its) (hz:ys.length<=sizeLine) :
  Inv X pins σ (upd H s.heap.objs.size (.lst ys)) { s with heap:=s.heap.push { cls:=.type "list", data:=.seq its.toArray }, toks:=t' } :=
 I.laid (fun _ _ q=>Heap.get?_push_of_some _ q) (Nat.le_refl _) ⟨hz,its,0,hv,Heap.get?_push_size _ rfl⟩
theorem Inv.fresh (I:Inv X pins σ H s):H s.heap.objs.size=none:=I.hok.fresh (Nat.le_refl _)
theorem Inv.AU (I:Inv X pins σ H s) (hH:H l=some (.lst xs)):xs.length<=sizeLine/\∃ (its:List Value) (n:Nat), Vals xs its/\xs.length=its.length/\s.heap.get? l=some { cls:=.type "list", data:=.seq its.toArray n }:=by
 obtain ⟨z,its,n,r,e⟩:=I.hok l _ hH
 exact ⟨z,its,n,r,r.length,e⟩
theorem wI {n:Nat} (h:n<=sizeLine):Builtin.List.listTooLong n=false:=by
 unfold Builtin.List.listTooLong
 exact decide_eq_false (by omega)
end
section
variable {X:Cx}
noncomputable def lP:V->List V->Hp->VK->Prop:=fun x vs H Q=>∃ l xs y,x=.ref l/\vs=[y]/\H l=some (.lst xs)/\xs.length<sizeLine/\Q .ao (upd H l (.lst (xs++[y])))
theorem kL:Kz X "list.append" lP:=by
 intro pins s σ H x vs v us Q I rx rv h
 obtain ⟨l,xs,y,rfl,rfl,hH,hz,q⟩:=h
 cases rx
 obtain ⟨u,rfl,ru⟩:=rv.one
 obtain ⟨z,its,n,r,hl,e⟩:=I.AU hH
 refine call_meets F.slot_list_append ⟨_,e,rfl⟩ F.entry_list_append (F.args_list_append_2 _ _) (PySem.list_append l its.toArray n u (by rw [List.size_toArray];omega)) ⟨e,?_⟩
 refine ⟨.ao,_,I.AV (its':=its++[u]) hH e (by simp) (r.append (.cons ru .nil)) ?_,rfl,q⟩
 rw [List.length_append,List.length_singleton]
 omega
noncomputable def DP:V->List V->Hp->VK->Prop:=fun x vs H Q=>∃ l xs y,x=.ref l/\vs=[]/\H l=some (.lst xs)/\xs[xs.length-1]? = some y/\Q y (upd H l (.lst xs.dropLast))
theorem EM:Kz X "list.pop" DP:=by
 intro pins s σ H x vs v us Q I rx rv h
 obtain ⟨l,xs,y,rfl,rfl,hH,hy,q⟩:=h
 cases rx
 have hus:=rv.zero
 subst hus
 obtain ⟨z,its,n,r,hl,e⟩:=I.AU hH
 obtain ⟨u,hu,ru⟩:=r.get hy
 have hy':its.toArray[its.toArray.size-1]? = some u:=by
  show its.toArray[its.length-1]? = some u
  rw [<- Array.getElem?_toList,<- hl]
  exact hu
 refine call_meets F.slot_list_pop ⟨_,e,rfl⟩ F.entry_list_pop (F.args_list_pop_1 _) (MeetsSeq.list_pop_last l its.toArray n u hy' (by rw [List.size_toArray];omega)) ⟨e,?_⟩
 refine ⟨y,_,I.AV (its':=its.dropLast) hH e ?_ r.dropLast ?_,ru,q⟩
 ·show its.toArray.eraseIdxIfInBounds (its.toArray.size-1)=its.dropLast.toArray
  rw [List.size_toArray,List.eraseIdxIfInBounds_toArray,qB]
 ·rw [List.length_dropLast]
  omega
noncomputable def jz:V->List V->Hp->VK->Prop:=fun x vs H Q=>∃ l xs,x=.ref l/\vs=[]/\H l=some (.lst xs)/\Q .ao (upd H l (.lst xs.reverse))
theorem qa:Kz X "list.reverse" jz:=by
 intro pins s σ H x vs v us Q I rx rv h
 obtain ⟨l,xs,rfl,rfl,hH,q⟩:=h
 cases rx
 have hus:=rv.zero
 subst hus
 obtain ⟨z,its,n,r,hl,e⟩:=I.AU hH
 refine call_meets F.slot_list_reverse ⟨_,e,rfl⟩ F.entry_list_reverse (F.args_list_reverse_1 _) (AutoSeq1.list_reverse_list_0 l its.toArray n (by rw [List.size_toArray];omega)) ⟨e,?_⟩
 refine ⟨.ao,_,I.AV (its':=its.reverse) hH e (by simp) r.reverse ?_,rfl,q⟩
 rw [List.length_reverse]
 omega
end
section
variable {prog:Program} {w:World} {A:Around} {E:Value->Shared->Prop} {s:Shared}
end
section
variable {X:Cx}
end
section
variable {κ:Type} [DecidableEq κ]
noncomputable def cy (kvs:List (κ×V)) (k:κ):Option V:=(kvs.find? fun kv=>decide (kv.1=k)).map (·.2)
noncomputable def putK (kvs:List (κ×V)) (k:κ) (v:V):List (κ×V) :=
 if (kvs.any fun kv=>decide (kv.1=k))=true then kvs.map (fun kv=>if kv.1=k then (kv.1,v) else kv) else kvs++[(k,v)]
theorem jr {p:κ×V} {r:List (κ×V)} {k:κ} (e:p.1=k):cy (p::r) k=some p.2:=by simp [cy,List.find?_cons,e]
theorem jt {p:κ×V} {r:List (κ×V)} {k:κ} (e:¬ p.1=k):cy (p::r) k=cy r k:=by simp [cy,List.find?_cons,e]
theorem nq (k:κ):∀ kvs:List (κ×V),(kvs.any fun kv=>decide (kv.1=k))=(cy kvs k).isSome
 | []=>rfl
 | p::r=>by
  rw [List.any_cons]
  by_cases e:p.1=k
  ·simp only [jr e,decide_eq_true e,Bool.true_or,Option.isSome_some]
  ·rw [jt e,decide_eq_false e,Bool.false_or];exact nq k r
theorem fh (kvs:List (κ×V)) (k:κ) (v:V):(putK kvs k v).length<=kvs.length+1:=by
 unfold putK
 split
 ·rw [List.length_map];omega
 ·rw [List.length_append,List.length_cons,List.length_nil];omega
theorem gu.iz {o:Option V} {u:Option Value} (r:gu o u):o.isSome=u.isSome:=by
 cases o with
 | none=>cases u with
  | none=>rfl
  | some _=>exact (show False from r).elim
 | some _=>cases u with
  | none=>exact (show False from r).elim
  | some _=>rfl
theorem KV.val {kvs:List (κ×V)} {vs:List (κ×Value)} (r:KV kvs vs) (k:κ):gu (cy kvs k) (valueAt vs k):=by
 unfold KV at r
 induction r with
 | nil=>exact True.intro
 | @cons p q ps qs h t ih =>
  obtain ⟨h1,h2⟩:=h
  by_cases e:p.1=k
  ·have e':q.1=k:=h1.symm.trans e
   have b:valueAt (q::qs) k=some q.2:=by simp [valueAt,List.find?_cons,e']
   rw [jr e,b];exact h2
  ·have e':¬ q.1=k:=fun z=>e (h1.trans z)
   have b:valueAt (q::qs) k=valueAt qs k:=by simp [valueAt,List.find?_cons,e']
   rw [jt e,b];exact ih
theorem KV.any {kvs:List (κ×V)} {vs:List (κ×Value)} (r:KV kvs vs) (k:κ):(kvs.any fun kv=>decide (kv.1=k))=vs.any fun kv=>decide (kv.1=k):=by
 unfold KV at r
 induction r with
 | nil=>rfl
 | cons h t ih=>rw [List.any_cons,List.any_cons,ih,h.1]
theorem KV.repl {kvs:List (κ×V)} {vs:List (κ×Value)} (r:KV kvs vs) (k:κ) {y:V} {u:Value} (ry:RelV y u) :
  KV (kvs.map fun kv=>if kv.1=k then (kv.1,y) else kv) (vs.map fun kv=>if kv.1=k then (kv.1,u) else kv):=by
 unfold KV at r ⊢
 induction r with
 | nil=>exact .nil
 | @cons p q ps qs h t ih =>
  rw [List.map_cons,List.map_cons]
  refine .cons ?_ ih
  obtain ⟨h1,h2⟩:=h
  by_cases e:p.1=k
  ·rw [if_pos e,if_pos (h1.symm.trans e)];exact ⟨h1,ry⟩
  ·rw [if_neg e,if_neg (fun z=>e (h1.trans z))];exact ⟨h1,h2⟩
theorem KV.put {kvs:List (κ×V)} {vs:List (κ×Value)} (r:KV kvs vs) (k:κ) {y:V} {u:Value} (ry:RelV y u):KV (putK kvs k y) (stored vs k u):=by
 unfold putK stored
 rw [r.any k]
 by_cases e:(vs.any fun kv=>decide (kv.1=k))=true
 ·rw [if_pos e,if_pos e];exact r.repl k ry
 ·rw [if_neg e,if_neg e];exact Paired.snoc r ⟨rfl,ry⟩
theorem KV.length {kvs:List (κ×V)} {vs:List (κ×Value)} (r:KV kvs vs):kvs.length=vs.length:=Paired.length r
end
theorem kO {P:Program} {w:World} {k:Key} {u:Value} (r:RelV (kV k) u):(aG P w).is k u=true:=by
 cases k with
 | inl i=>obtain ⟨t,e⟩:=(show ∃ t,u=Value.int i t from r);subst e;exact om P w i t
 | inr x=>obtain ⟨t,e⟩:=(show ∃ t,u=Value.str x t from r);subst e;exact oj P w x t
theorem kP {P:Program} {w:World}:∀ {ks:List Key} {us:List Value},Vals (ks.map kV) us->ItemsAre (aG P w) ks us
 | [],_,r=>by rw [List.map_nil] at r;cases r;exact .nil
 | k::ks,_,r=>by
  rw [List.map_cons] at r
  cases r with
  | cons h t=>exact .cons (kO h) (kP t)
noncomputable abbrev KT (H:Hp):List (List Key×V)->List (List Key×Addr×Value)->Prop:=Paired fun p q=>p.1=q.1/\H q.2.1=some (.tup (p.1.map kV))/\RelV p.2 q.2.2
theorem KT.val {H:Hp} {kvs:List (List Key×V)} {xs:List (List Key×Addr×Value)} (r:KT H kvs xs) (k:List Key):gu (cy kvs k) ((atKey xs k).map (·.2)):=by
 induction r with
 | nil=>exact True.intro
 | @cons p q ps qs h t ih =>
  obtain ⟨h1,_,h2⟩:=h
  by_cases e:p.1=k
  ·have e':q.1=k:=h1.symm.trans e
   have b:atKey (q::qs) k=some q.2:=by simp [atKey,List.find?_cons,e']
   rw [jr e,b];exact h2
  ·have e':¬ q.1=k:=fun z=>e (h1.trans z)
   have b:atKey (q::qs) k=atKey qs k:=by simp [atKey,List.find?_cons,e']
   rw [jt e,b];exact ih
theorem KT.repl {H:Hp} {kvs:List (List Key×V)} {xs:List (List Key×Addr×Value)} (r:KT H kvs xs) (k:List Key) {y:V} {u:Value} (ry:RelV y u) :
  KT H (kvs.map fun kv=>if kv.1=k then (kv.1,y) else kv) (xs.map (putAt k u)):=by
 induction r with
 | nil=>exact .nil
 | @cons p q ps qs h t ih =>
  rw [List.map_cons,List.map_cons]
  refine .cons ?_ ih
  obtain ⟨h1,h2,h3⟩:=h
  unfold putAt
  by_cases e:p.1=k
  ·rw [if_pos e,if_pos (h1.symm.trans e)];exact ⟨h1,h2,ry⟩
  ·rw [if_neg e,if_neg (fun z=>e (h1.trans z))];exact ⟨h1,h2,h3⟩
theorem KT.put {H:Hp} {kvs:List (List Key×V)} {xs:List (List Key×Addr×Value)} (r:KT H kvs xs) (k:List Key) {b:Addr} {y:V} {u:Value} (hb:H b=some (.tup (k.map kV))) (ry:RelV y u) :
  KT H (putK kvs k y) (storedH xs k b u):=by
 have e:(kvs.any fun kv=>decide (kv.1=k))=(atKey xs k).isSome:=by
  rw [nq,(r.val k).iz,Option.isSome_map]
 unfold putK storedH
 rw [e]
 by_cases q:(atKey xs k).isSome=true
 ·rw [if_pos q,if_pos q];exact r.repl k ry
 ·rw [if_neg q,if_neg q];exact Paired.snoc r ⟨rfl,hb,ry⟩
theorem KT.keeps {H H':Hp} {kvs:List (List Key×V)} {xs:List (List Key×Addr×Value)} (r:KT H kvs xs) (ht:∀ b ys,H b=some (.tup ys)->H' b=some (.tup ys)):KT H' kvs xs :=
 Paired.ER r fun _ _ z=>⟨z.1,ht _ _ z.2.1,z.2.2⟩
section
variable {P:Program} {w:World} {H:Hp} {h:Heap} {a:Addr}
theorem Cg {u:HO} (ok:fR P w H h) (e:Rd H a u):aP P w H h a u:=e.ok ok
theorem CW {kvs:List (Key×V)} (ok:fR P w H h) (e:Rd H a (.dK kvs)):kvs.length<=sizeLine/\(a == sysModules)=false/\∃ vs,KV kvs vs/\h.DictOf (aG P w) a vs :=
 show aP P w H h a (.dK kvs) from Cg ok e
theorem J3 {kvs:List (Key×V)} (ok:fR P w H h) (e:H a=some (.dK kvs)):kvs.length<=sizeLine/\(a == sysModules)=false/\∃ vs,KV kvs vs/\h.DictOf (aG P w) a vs:=CW ok (.inl e)
theorem wZ {ks:List Key} (ok:fR P w H h) (e:H a=some (.tup (ks.map kV))):(tupleKind (aG P w)).is h ks a:=by
 obtain ⟨_,its,r,o,h1,h2,n,h3⟩:=(show aP P w H h a (.tup (ks.map kV)) from ok a _ e)
 exact ⟨o,its.toArray,n,h1,h2,h3,by simpa using kP r⟩
theorem J1 {kvs:List (List Key×V)} (ok:fR P w H h) (e:Rd H a (.dT kvs)):kvs.length<=sizeLine/\(a == sysModules)=false /\
  ∃ xs,KT H kvs xs/\h.DictOfH (tupleKind (aG P w)) a xs:=by
 obtain ⟨z,y,xs,r,o,es,ep,h1,h2,h3,h4,h5⟩:=(show aP P w H h a (.dT kvs) from Cg ok e)
 refine ⟨z,y,xs,r,o,es,ep,h1,h2,h3,h4,fun x hx=>?_,h5⟩
 have all:∀ {l:List (List Key×V)} {m:List (List Key×Addr×Value)},KT H l m->∀ x∈m,(tupleKind (aG P w)).is h x.1 x.2.1:=by
  intro l m q
  induction q with
  | nil=>intro x hx;exact nomatch hx
  | @cons p q ps qs hq t ih =>
   intro x hx
   rcases List.mem_cons.mp hx with e | hx
   ·subst e
    exact wZ ok (by rw [<- hq.1];exact hq.2.1)
   ·exact ih x hx
 exact all r x hx
theorem J2 {kvs:List (List Key×V)} (ok:fR P w H h) (e:H a=some (.dT kvs)):kvs.length<=sizeLine/\(a == sysModules)=false /\
  ∃ xs,KT H kvs xs/\h.DictOfH (tupleKind (aG P w)) a xs:=J1 ok (.inl e)
end
noncomputable def BV (H:Hp) (a:Addr) (y:V) (r:Option V):Prop :=
 (∃ kvs k,Rd H a (.dK kvs)/\y=kV k/\r=cy kvs k)\/∃ kvs k b,Rd H a (.dT kvs)/\y=.ref b/\H b=some (.tup (k.map kV))/\r=cy kvs k
noncomputable def qP (H:Hp) (a:Addr) (y v:V) (H':Hp):Prop :=
 (∃ kvs k,H a=some (.dK kvs)/\y=kV k/\kvs.length<sizeLine/\H'=upd H a (.dK (putK kvs k v))) \/
 ∃ kvs k b,H a=some (.dT kvs)/\y=.ref b/\H b=some (.tup (k.map kV))/\kvs.length<sizeLine/\H'=upd H a (.dT (putK kvs k v))
theorem BV.k {H:Hp} {a:Addr} {kvs:List (Key×V)} {k:Key} (e:H a=some (.dK kvs)):BV H a (kV k) (cy kvs k):=.inl ⟨kvs,k,.inl e,rfl,rfl⟩
theorem BV.t {H:Hp} {a b:Addr} {kvs:List (List Key×V)} {k:List Key} (e:H a=some (.dT kvs)) (eb:H b=some (.tup (k.map kV))):BV H a (.ref b) (cy kvs k):=.inr ⟨kvs,k,b,.inl e,rfl,eb,rfl⟩
theorem qP.k {H:Hp} {a:Addr} {kvs:List (Key×V)} {k:Key} {v:V} (e:H a=some (.dK kvs)) (hl:kvs.length<sizeLine):qP H a (kV k) v (upd H a (.dK (putK kvs k v))):=.inl ⟨kvs,k,e,rfl,hl,rfl⟩
theorem qP.t {H:Hp} {a b:Addr} {kvs:List (List Key×V)} {k:List Key} {v:V} (e:H a=some (.dT kvs)) (eb:H b=some (.tup (k.map kV))) (hl:kvs.length<sizeLine) :
  qP H a (.ref b) v (upd H a (.dT (putK kvs k v))):=.inr ⟨kvs,k,b,e,rfl,eb,hl,rfl⟩
section
variable {X:Cx} {pins:List (Addr×Obj)} {σ:St} {H:Hp} {s:Shared} {a:Addr} {y v:V} {u r:Value} {o:Option V} {A:Around} {E:Value->Shared->Prop}
theorem Inv.big (I:Inv X pins σ H s):sysModules<s.heap.objs.size:=by
 have h:mainGlobals<s.heap.objs.size:=(I.mod.glob.keeps I.bk).lt
 exact Nat.lt_trans (by decide) h
theorem tG {h':Heap} {t':Nat} {ob:HO} (I:Inv X pins σ H s) (mu:Kw (H a)) (hs:Heap.SameBut a s.heap h') (he:∃ q,h'.get? a=some q) (new:aP X.prog X.w (upd H a ob) h' a ob) :
  Inv X pins σ (upd H a ob) { s with heap:=h',toks:=t' } :=
 I.write (x:=a) (e:=a) mu (.inl rfl) (fun b q hb z=>(hs.2 b hb).trans z) he new
theorem qF {P:Program} {w:World} {H':Hp} {h':Heap} {kvs:List (Key×V)} {vs:List (Key×Value)} (z:kvs.length<=sizeLine) (hd:(a == sysModules)=false) (rel:KV kvs vs) (dd:h'.DictOf (aG P w) a vs) :
  aP P w H' h' a (.dK kvs):=⟨z,hd,vs,rel,dd⟩
theorem uH {H':Hp} {Q:Unit->Shared->Prop} (hu:A.units+1<cLine) (I:Inv X pins σ H s) (g:qP H a y v H') (ry:RelV y u) (rv:RelV v r) (h:∀ s',Inv X pins σ H' s'->Q () s') :
  wpAny (model X.prog X.w) A (setItem (.ref a) u r) Q E s:=by
 rcases g with ⟨kvs,k,e,ey,l,eH⟩ | ⟨kvs,k,b,e,ey,eb,l,eH⟩
 ·subst ey eH
  obtain ⟨z,hd,vs,rel,dd⟩:=J3 I.hok e
  have hz:vs.length<=sizeLine:=by rw [<- rel.length];exact z
  have hl:(putK kvs k v).length<=sizeLine:=by have:=fh kvs k v;omega
  refine wpAny_setItem_pairs (hsz:=hz) (kO ry) dd fun h' za hs=>h _ ?_
  have he:∃ q,h'.get? a=some q:=let ⟨q,_,_,hq,_⟩:=za;⟨q,hq⟩
  exact tG I (by rw [e];exact True.intro) hs he (qF hl hd (rel.put k rv) za)
 ·subst ey eH
  cases (show u=Value.ref b from ry)
  obtain ⟨z,hd,xs,rel,dd⟩:=J2 I.hok e
  have hz:xs.length<=sizeLine:=by rw [<- Paired.length rel];exact z
  have hl:(putK kvs k v).length<=sizeLine:=by have:=fh kvs k v;omega
  refine wpAny_setItem_heap (hsz:=hz) (tupleKind_room_in1 hu) (wZ I.hok eb) dd fun h' za hs=>h _ ?_
  obtain ⟨q,es,ep,hq,h2,h3,h4,_,h5⟩:=za
  refine tG I (by rw [e];exact True.intro) hs ⟨q,hq⟩ ⟨hl,hd,_,(rel.put k eb rv).keeps fun c ys ec=>?_,q,es,ep,hq,h2,h3,h4,h5⟩
  rw [aj (IZ ec e (fun z=>nomatch z))]
  exact ec
end
section
variable {X:Cx} {pins:List (Addr×Obj)} {σ:St} {H:Hp} {s:Shared} {a:Addr} {kvs:List (Key×V)} {k:Key} {u:Value} {A:Around} {E:Value->Shared->Prop}
end
section
variable {X:Cx} {o i e value:Expr} {pos pos' tpos:Pos} {td ty tv:TE}
end
section
variable {X:Cx} {pos:Pos}
end
noncomputable abbrev VV:List (V×V)->List (Value×Value)->Prop:=Paired fun p q=>RelV p.1 q.1/\RelV p.2 q.2
noncomputable def cL (kvs more:List (Key×V)):List (Key×V):=more.foldl (fun acc kv=>putK acc kv.1 kv.2) kvs
theorem KV.merge:∀ {more:List (Key×V)} {rs:List (Key×Value)} {kvs:List (Key×V)} {vs:List (Key×Value)},KV more rs->KV kvs vs->KV (cL kvs more) (merged vs rs):=by
 intro more rs kvs vs r
 unfold KV at r
 induction r generalizing kvs vs with
 | nil=>intro q;exact q
 | @cons p q ps qs h t ih =>
  intro r0
  have e:KV (putK kvs p.1 p.2) (stored vs q.1 q.2):=by
   have:=r0.put p.1 h.2
   rw [<- h.1];exact this
  exact ih e
theorem fU:∀ (more kvs:List (Key×V)),(cL kvs more).length<=kvs.length+more.length
 | [],kvs=>by show kvs.length<=kvs.length+0;omega
 | p::r,kvs=>by
  have h1:=fU r (putK kvs p.1 p.2)
  have h2:=fh kvs p.1 p.2
  show (cL (putK kvs p.1 p.2) r).length<=_
  rw [List.length_cons];omega
structure M1 (X:Cx) (o:Expr) (m:Str) (apos:Pos) (e:Expr) (cpos:Pos):Prop where
 base:attributeBase o m X.env (eval o X.env)=eval o X.env
 few:((backTo cpos (starEach [e] X.env)).all (fun x=>!x.1)&&(backToKw cpos (keywordEach [] X.env)).all (fun x=>x.1.isSome)
 &&decide (([e]:List Expr).length+([]:List Keyword).length+(if ([]:List Keyword).isEmpty then 0 else 1)<30))=true
 line:(apos.endLine == cpos.line)=true
 trees:backTo cpos (starEach [e] X.env)=[(false,eval e X.env)]
structure M2 (X:Cx) (o:Expr) (m:Str) (apos:Pos) (e f:Expr) (cpos:Pos):Prop where
 base:attributeBase o m X.env (eval o X.env)=eval o X.env
 few:((backTo cpos (starEach [e,f] X.env)).all (fun x=>!x.1)&&(backToKw cpos (keywordEach [] X.env)).all (fun x=>x.1.isSome)
 &&decide (([e,f]:List Expr).length+([]:List Keyword).length+(if ([]:List Keyword).isEmpty then 0 else 1)<30))=true
 line:(apos.endLine == cpos.line)=true
 trees:backTo cpos (starEach [e,f] X.env)=[(false,eval e X.env),(false,eval f X.env)]
section
variable {X:Cx} {pins:List (Addr×Obj)} {σ:St} {H:Hp} {s:Shared} {a:Addr} {y d:V} {u r:Value} {o:Option V} {A:Around} {E:Value->Shared->Prop}
end
section
variable {X:Cx} {o e f:Expr} {apos cpos:Pos} {td ty tx:TE}
end
section
variable {X:Cx} {pins:List (Addr×Obj)} {σ:St} {H:Hp} {s:Shared} {a:Addr} {kvs:List (Key×V)} {A:Around} {E:Value->Shared->Prop}
end
section
variable {X:Cx} {pins:List (Addr×Obj)} {σ:St} {H:Hp} {s:Shared} {a:Addr} {y:V} {u:Value} {A:Around} {E:Value->Shared->Prop}
end
end L2
namespace Att
open PySem PySem.W PySem.Calls PyProof.Rows
theorem i0 {P:Params} {h:Heap}:∀ (ns:List Int) (vs:List Value),WellAll P h vs (ns.map WData.int)->IntsAre vs ns:=by
 intro ns
 induction ns with
 | nil =>
  intro vs w
  rw [List.map_nil] at w
  cases w
  exact .nil
 | cons n ns ih =>
  intro vs w
  rw [List.map_cons] at w
  cases w with
  | cons a b =>
   cases a
   exact .cons _ _ (ih _ b)
theorem t8 {l:OpenLaw} {n:Nat} (hn:l.most=some n) {P:Params} {h:Heap} {args:List WData} {vals:List Value}
  (hpre:l.row.toRowW.claim.pre args=true) (hwl:WellAll P h vals args) :
  ∃ a vs ns, vals=[Value.ref a]/\args=[WData.list (ns.map WData.int)]/\h.get? a=some { cls:=.type "list", data:=.seq vs.toArray }/\IntsAre vs ns/\ns.length<=n:=by
 have hsh:WShape.hasAll [] args [.list .int]=true:=(pre_splitW hpre).1
 have hc:l.pre.holds [] { args:=args }=true:=(pre_splitW hpre).2
 obtain ⟨d,r,rfl,h1,h2⟩:=hasAllW_cons hsh
 obtain rfl:=hasAllW_nil h2
 obtain ⟨xs,rfl,h3⟩:=hasW_list h1
 obtain ⟨ns,rfl⟩:=items_int h3
 have hlen:ns.length<=n:=by
  unfold OpenLaw.pre at hc
  have h4:(WTm.not (.lt (.lit (.int (n:Int))) (.len (.arg 0)))).holds [] { args:=[.list (ns.map .int)] }=true:=by
   have h4:=(holds_andW hc).1
   rw [hn] at h4
   exact h4
  have h5:=condW_of h4 (w_not (w_lt w_lit (w_len_list (w_arg rfl))))
  rw [List.length_map] at h5
  refine Nat.le_of_not_lt fun q=>?_
  have q':(n:Int)<((ns.length:Nat):Int):=by omega
  first
   | (rw [decide_eq_true q'] at h5;exact absurd h5 (by decide))
   | (simp at h5;omega)
 cases hwl with
 | cons w1 w2 =>
  cases w2
  cases w1 with
  | list ho hall=>exact ⟨_,_,ns,rfl,rfl,ho,i0 ns _ hall,hlen⟩
theorem ud (l:OpenLaw) (args:List WData):l.row.toRowW.claim.post args (.bool true) args=true :=
 postW_of (r:=l.row.toRowW) (X:=(true == true))
  (show WShape.has [] (.bool true) .bool=true by first | rfl | decide | simp [WShape.has,WShape.arms,WShape.armsAll])
  (show (WTm.eq .res (.lit (.bool true))).value [] { args:=args,res:=some (.bool true),after:=args }=some (.bool (true == true)) from w_eq_bool (w_res rfl) w_lit) rfl
theorem o4 {l:OpenLaw} {n:Nat} {q:Program} {loose:List Str} {XP:(Str->Option Value)->Heap->Prop} {YP:World->Heap->Prop} {d:DefRec}
  (hn:l.most=some n) (hdf:d.params.defaults=[])
  (call:∀ (w:World) (s₀ s₁:Shared) (mg mb:Str->Option Value) (fa:Addr) (o:Obj) (pm cd doc:Value) (a:Addr) (vs:List Value) (ns:List Int),
   Ground q loose [] XP w s₀ mg mb s₁.heap->YP w s₁.heap ->
   s₁.heap.get? fa=some o->o.data=.func (docDef d.name d.params d.body d.scope pm cd doc)->s₁.heap.CodeRec cd d.name->mg d.name=some (.ref fa) ->
   s₁.heap.get? a=some { cls:=.type "list", data:=.seq vs.toArray }->IntsAre vs ns->ns.length<=n->s₁.gens=#[] ->
   codeAny (model l.prog w) callerA (.call (.ref fa) ⟨[.ref a],[]⟩) (fun r s'=>r=.ok (.ret (.bool true))/\OldK s₁.heap s'.heap/\s'.os=s₁.os/\AllBare s'.gens) s₁) :
  WalkO q loose XP YP l.row.toRowW d [] (fun f vs=>PySem.call f vs):=by
 intro w s₀ s₁ mg mb G Y fa o pm cd doc dV kV ho hd hcd hD hmg hg args vals as hpre hlay hrd hwl hlo
 obtain rfl:dV=.none:=Dflts.none hD hdf
 obtain rfl:kV=.none:=Dflts.noKw hD
 obtain ⟨a,vs,ns,rfl,rfl,hobj,hints,hlen⟩:=t8 hn hpre hwl
 refine enter_call (codeAny_mono (call w s₀ s₁ mg mb fa o pm cd doc a vs ns G Y ho (fd_plain hd) hcd hmg hobj hints hlen hg) fun r s' hq=>?_)
 obtain ⟨rfl,h2,h3,h4⟩:=hq
 exact ⟨.inl ⟨.bool true,.bool true,[],rfl,fun _=>rfl,.bool true,ud l _,fun _=>⟨List.Pairwise.nil,fun _ hm=>(nomatch hm)⟩⟩,h2,h3,h4⟩
section
variable {prog:Program} {w:World} {A:Around} {E:Value->Shared->Prop} {s:Shared} {K:Frag}
end
end Att
namespace L2
open PySem PySem.Spec PyProof.Rows
theorem dD:∀ {vs:List Value} {ns:List Int},IntsAre vs ns->Vals (ns.map V.int) vs
 | _,_,.nil=>.nil
 | _,_,.cons n t h=>.cons ⟨t,rfl⟩ (dD h)
noncomputable def Kv (H:Hp):Prop:=∀ b,H b=none\/∃ o xs,H b=some (.fJ o (.lst xs))
theorem wY {P:Program} {w:World} {K:PySem.W.Frag} {mg mb:Str->Option Value} {CX:yS} {k:Nat} {fa a:Addr} {fd:FuncData} {x:Str} {sp:Sp} {s₁:Shared} {vs:List Value} {ns:List Int}
  (KX:K.In s₁.heap) (hns:s₁.heap.Ns mainGlobals mg) (hb:s₁.heap.Ns builtinsNs mb) (hbb:∀ x:Str, x≠"__name__"->mb x=bootBuiltins x) (hlim:s₁.heap.NoLimit) (hg:s₁.gens=#[])
  (ha:s₁.heap.get? a=some { cls:=.type "list", data:=.seq vs.toArray }) (hi:IntsAre vs ns) (hl:ns.length<=sizeLine) (hr:bI cm k callerA)
  (F:∀ base:Heap,K.In base->base.Ns mainGlobals mg->br cm P w K mg base CX k fa fd [x] sp) (hbind:∀ (s:Shared) (u:Value),BindsTo s fd ⟨[u],[]⟩ [(x,u)])
  (G1:∀ H:Hp,Kv H->eV K H a (ns.map V.int)->sp [.ref a] H (fun v _=>v=.bl true) fun _ _ _=>False)
  (hCX:∀ H e s',CX [] H s₁ (fun _ _ _=>False) e s'->False) :
  codeAny (model P w) callerA (.call (.ref fa) ⟨[.ref a],[]⟩) (fun r s'=>r=.ok (.ret (.bool true))/\OldK s₁.heap s'.heap/\s'.os=s₁.os/\AllBare s'.gens) s₁:=by
 have rv:=dD hi
 have lenV:=hi.length
 have core:∀ H:Hp,Kv H->eV K H a (ns.map V.int)->fR P w H s₁.heap->(∀ b,H b≠none->b=a)->(H a≠none->K.lookup a=none) ->
   codeAny (model P w) callerA (.call (.ref fa) ⟨[.ref a],[]⟩) (fun r s'=>r=.ok (.ret (.bool true))/\OldK s₁.heap s'.heap/\s'.os=s₁.os/\AllBare s'.gens) s₁:=by
  intro H hO hS hok hA hK
  have jn:∀ {b:Addr} {o:Obj},s₁.heap.get? b=some o->H b=none->(mq s₁.heap H).get? b=some o:=fun e n=>xJ e n
  have IX:∀ {b:Addr} {o:Obj} {es:Array DictEntry} {ep:Nat},s₁.heap.get? b=some o->o.data=.dict es ep->H b=none:=fun {b o es ep} e d=>by
   cases q:H b with
   | none=>rfl
   | some u =>
    have e':b=a:=hA b (by rw [q];simp)
    subst e'
    rw [ha] at e;cases e
    have d':Data.seq vs.toArray _=Data.dict es ep:=d
    cases d'
  have KU:∀ {b:Addr} {m:Str->Option Value},s₁.heap.Ns b m->(mq s₁.heap H).Ns b m:=fun {b m} ⟨o,es,ep,e,d,r⟩=>⟨o,es,ep,jn e (IX e d),d,r⟩
  have hKb:K.In (mq s₁.heap H):=fun b o e=>jn (KX b o e) (by
   cases q:H b with
   | none=>rfl
   | some u =>
    have e':b=a:=hA b (by rw [q];simp)
    subst e'
    rw [hK (by rw [q];simp)] at e;cases e)
  have hM:Mod K mg (mq s₁.heap H):=⟨hKb,KU hns,⟨mb,KU hb,hbb⟩,let ⟨mc,h1,h2⟩:=hlim;⟨mc,KU h1,h2⟩⟩
  have e0:kj P w K mg (mq s₁.heap H) callerA [] s₁ H:=⟨rfl,hM,fun b o e=>AK e,Nat.le_of_eq (uD _ _),trivial,fun b hb=>absurd (show b∈([]:List Addr) from hb) (by simp),hok,.of_eq hg⟩
  refine codeAny_mono ((F _ hKb (KU hns)).run callerA [] s₁ H ⟨[.ref a],[]⟩ [.ref a] [.ref a] _ _ hr e0 (hbind s₁ (.ref a)) (.cons rfl .nil) (G1 H hO hS)) fun r s' h=>?_
  cases r with
  | error e=>exact (hCX H e s' h).elim
  | ok fl =>
   cases fl with
   | next=>exact False.elim h
   | brk=>exact False.elim h
   | cont=>exact False.elim h
   | ret u =>
    obtain ⟨v,H',os,bare,un,hok',r',q⟩:=h
    have q':v=.bl true:=q
    subst q'
    obtain rfl:u=Value.bool true:=r'
    refine ⟨rfl,OldK.of_keep fun b o e=>?_,os,bare⟩
    cases q:H b with
    | none=>exact un.keep b o e q (by intro z;exact absurd (show b∈([]:List Addr) from z) (by simp)) (by simp)
    | some u =>
     rcases hO b with z | ⟨ob,xs,z⟩
     ·rw [q] at z;cases z
     ·have z2:=un.eT b ob _ z
      obtain ⟨e1,_⟩:=hok b _ z
      obtain ⟨e2,_⟩:=hok' b _ z2
      rw [e] at e1;cases e1
      exact e2
 cases hk:K.lookup a with
 | some o =>
  have e:=KX a o hk
  rw [ha] at e
  cases e
  refine core (fun _=>none) (fun _=>.inl rfl) (.inr ⟨_,vs.toArray,_,hk,rfl,rfl,rfl,by rw [List.size_toArray,lenV];exact hl,by simpa using rv⟩) (fun b u z=>by have z':(none:Option HO)=some u:=z;cases z') (fun b z=>absurd rfl z) fun z=>absurd rfl z
 | none =>
  refine core (fun b=>if b=a then some (.fJ { cls:=.type "list", data:=.seq vs.toArray } (.lst (ns.map V.int))) else none) (fun b=>?_) (.inl (.inr ⟨{ cls:=.type "list", data:=.seq vs.toArray }, if_pos rfl⟩)) (fun b u z=>?_) (fun b z=>?_) fun _=>hk
  ·by_cases hb:b=a
   ·exact .inr ⟨_,_,if_pos hb⟩
   ·exact .inl (if_neg hb)
  ·by_cases hb:b=a
   ·have z':=(if_pos hb).symm.trans z
    cases z'
    subst hb
    exact ⟨ha,by rw [List.length_map];exact hl,vs,_,rv,ha⟩
   ·have z':=(if_neg hb).symm.trans z
    cases z'
  ·by_cases hb:b=a
   ·exact hb
   ·exact absurd (if_neg hb) z
noncomputable abbrev CX0:yS:=fun _ _ _ _ _ _=>False
structure Fun (K:PySem.W.Frag) (x qual:Str) (st:Stmt) (f:Addr) (fd:FuncData):Prop where
 ex:∃ (oc:Value) (od:Option Addr) (kV doc pm:Value) (an:Option Addr) (cdv ct:Value) (osl:Array (Option Value)),
  fd=PySem.W.fnOf x qual (gW st) (bP st) (aC st) .none kV doc pm an cdv ct/\K.lookup f=some ⟨oc,od,.func fd,osl⟩/\PySem.W.codeIn K cdv qual=true
 kp:PySem.W.keepIn K (.ref f)=true
section
variable {P:Program} {w:World} {K:PySem.W.Frag} {mg:Str->Option Value} {base:Heap}
theorem Fun.ok {x qual:Str} {st:Stmt} {f:Addr} {fd:FuncData} {N ps:List Str} {k:Nat} {sp:Sp} (F:Fun K x qual st f fd) (S:c6 N ps (aC st)) (len:∀ vs H Q E,sp vs H Q E->vs.length=ps.length)
  (hbody:∀ (cdv:Value) (A:Around) (outer:List Env) (s:Shared) (H:Hp) (vs:List V) (Q:VK) (E:XK),bI cm k (A.deeper (envOfC qual (aC st) s.heap.objs.size f cdv))->sp vs H Q E ->
   ∃ t,j5 (gX CX0 P w K mg base N qual (aC st) f cdv A outer s H E).Cs (bP st) t/\t { nx:=fun _ H'=>Q .ao H',rt:=Q } (start N vs) H):br cm P w K mg base CX0 (k+1) f fd ps sp:=by
 obtain ⟨oc,od,kV,doc,pm,an,cdv,ct,osl,rfl,lk,hcd⟩:=F.ex
 refine CH lk hcd S len fun A outer s H vs Q E hr G1=>?_
 obtain ⟨t,h,q⟩:=hbody cdv A outer s H vs Q E hr G1
 exact ⟨t,h.Cs,q⟩
end
section
variable {X:Cx}
end
noncomputable def uT (H H':Hp):Prop:=∀ b o,H b=some o->H' b=some o
theorem uT.trans {H H1 H2:Hp} (a:uT H H1) (b:uT H1 H2):uT H H2:=fun c o h=>b c o (a c o h)
theorem uT.free {H H':Hp} (e:uT H H') {l:Addr} (h:H' l=Option.none):H l=Option.none:=by
 cases q:H l with
 | none=>rfl
 | some o =>
  rw [e l o q] at h
  cases h
section
variable {κ:Type} [DecidableEq κ]
end
end L2
end
section
namespace Fg
open PySem
section
variable {Φ:bh} {σ:Sg} {M:MH}
@[simp] theorem ki {i:Nat}:ev Φ (.v i) σ M=match σ[i]? with | some (some d)=>.ok d M | _=>.bad:=rfl
@[simp] theorem jT {d:D}:ev Φ (.k d) σ M=.ok d M:=rfl
@[simp] theorem JN {i:Nat}:ev Φ (.g i) σ M=match Φ.glob i with | some d=>.ok d M | none=>.bad:=rfl
@[simp] theorem qz {es:Es}:ev Φ (.tup es) σ M=(b6 Φ es σ M).bind fun ds M1=>.ok (.tup ds) M1:=rfl
@[simp] theorem qA {fz:Bool} {es:Es}:ev Φ (.lst fz es) σ M=(b6 Φ es σ M).bind fun ds M1=>bB fz ds M1:=rfl
@[simp] theorem Ls:ev Φ .Gr σ M=.ok (.ref M.length) (M++[.dct []]):=rfl
@[simp] theorem iP {o:BP} {fz:Bool} {a b:E}:ev Φ (.op o fz a b) σ M=(ev Φ a σ M).bind fun x M1=>(ev Φ b σ M1).bind fun y M2=>m9 o fz M2 x y:=rfl
@[simp] theorem ev_neg {a:E}:ev Φ (.neg a) σ M=(ev Φ a σ M).bind fun x M1=>match x with | .int i=>.ok (.int (-i)) M1 | _=>.bad:=rfl
@[simp] theorem b9 {o:ze} {a b:E}:ev Φ (.cmp o a b) σ M=(ev Φ a σ M).bind fun x M1=>(ev Φ b σ M1).bind fun y M2=>bH o M2 x y:=rfl
@[simp] theorem JP {o o':ze} {a b c:E}:ev Φ (.chain o o' a b c) σ M=(ev Φ a σ M).bind fun x M1=>(ev Φ b σ M1).bind fun y M2=>(bH o M2 x y).bind fun t M3=>match t with
  | .bl true=>(ev Φ c σ M3).bind fun z M4=>bH o' M4 y z
  | .bl false=>.ok (.bl false) M3
  | _=>.bad:=rfl
@[simp] theorem ye {a b:E}:ev Φ (.and a b) σ M=(ev Φ a σ M).bind fun x M1=>match x with | .bl true=>(ev Φ b σ M1) | .bl false=>.ok (.bl false) M1 | _=>.bad:=rfl
@[simp] theorem JM {a b:E}:ev Φ (.or a b) σ M=(ev Φ a σ M).bind fun x M1=>match x with | .bl true=>.ok (.bl true) M1 | .bl false=>(ev Φ b σ M1) | _=>.bad:=rfl
@[simp] theorem ev_not {a:E}:ev Φ (.not a) σ M=(ev Φ a σ M).bind fun x M1=>match x with | .bl b=>.ok (.bl (!b)) M1 | _=>.bad:=rfl
@[simp] theorem yc {c a b:E}:ev Φ (.A7 c a b) σ M=(ev Φ c σ M).bind fun x M1=>match x with | .bl true=>ev Φ a σ M1 | .bl false=>ev Φ b σ M1 | _=>.bad:=rfl
@[simp] theorem mL {a b:E}:ev Φ (.idx a b) σ M=(ev Φ a σ M).bind fun x M1=>(ev Φ b σ M1).bind fun y M2=>mh M2 x y:=rfl
@[simp] theorem CK {fz:Bool} {a:E} {lo hi:O}:ev Φ (.sl fz a lo hi) σ M=(ev Φ a σ M).bind fun x M1=>(xY Φ lo σ M1).bind fun l M2=>(xY Φ hi σ M2).bind fun h M3=>sl2 fz M3 x l h:=rfl
@[simp] theorem cA {f:Nat} {es:Es}:ev Φ (.call f es) σ M=(b6 Φ es σ M).bind fun ds M1=>Φ.call f ds M1:=rfl
@[simp] theorem ev_isi {a:E} {t:Ty}:ev Φ (.xx a t) σ M=(ev Φ a σ M).bind fun x M1=>if uV M1 x then .ok (.bl (CD M1 t x)) M1 else .bad:=rfl
@[simp] theorem yd {b:Bl} {fz:Bool} {es:Es}:ev Φ (.blt b fz es) σ M=(b6 Φ es σ M).bind fun ds M1=>uQ b fz M1 ds:=rfl
@[simp] theorem gk {m:Mt} {fz:Bool} {a:E} {es:Es}:ev Φ (.bZ m fz a es) σ M=(ev Φ a σ M).bind fun x M1=>if lW m M1 x then (b6 Φ es σ M1).bind fun ds M2=>gf m fz M2 x ds else .bad:=rfl
@[simp] theorem sM {fz:Bool} {caps tg:List Nat} {elt:E} {it:Src} {cond:O}:ev Φ (.comp fz caps tg elt it cond) σ M=(eO Φ it σ M).bind fun p M1 =>
   ((bC (oM Φ cond) (ev Φ elt) tg (aO M1 p.1) p.2.1 (mV σ caps++List.replicate tg.length none) M1 []).fin (eX p.2.2 p.1)).bind fun ds M2=>bB fz ds M2:=rfl
@[simp] theorem iD {a:E} {f:Str}:ev Φ (.fld a f) σ M=(ev Φ a σ M).bind fun x M1=>match x with
  | .ref n=>match M1[n]? with
   | some (.ins _ fs)=>match fs.lookup f with
    | some d=>.ok d M1
    | none=>.bad
   | _=>.bad
  | _=>.bad:=rfl
@[simp] theorem Gd {c m:Nat} {nm:Str} {a:E} {es:Es}:ev Φ (.cR c m nm a es) σ M=(ev Φ a σ M).bind fun x M1=>match x with
  | .ref n=>match M1[n]? with
   | some (.ins c' fs)=>if decide (c'=c)&&(fs.lookup nm).isNone then (b6 Φ es σ M1).bind fun ds M2=>Φ.call m (.ref n::ds) M2 else .bad
   | _=>.bad
  | _=>.bad:=rfl
@[simp] theorem Ge {c i:Nat} {es:Es}:ev Φ (.new c i es) σ M=(b6 Φ es σ M).bind fun ds M1=>(Φ.ini i (.ref M1.length::ds) (M1++[.ins c []])).bind fun r M2=>match r with
  | .ao=>.ok (.ref M1.length) M2
  | _=>.bad:=rfl
@[simp] theorem yb {hi:Bool} {a b:E}:ev Φ (.mx hi a b) σ M=(ev Φ a σ M).bind fun x M1=>(ev Φ b σ M1).bind fun y M2=>match x,y with
  | .int i,.int j=>.ok (.int (if hi then (if j > i then j else i) else (if j<i then j else i))) M2
  | _,_=>.bad:=rfl
@[simp] theorem ev_lrg {fz:Bool} {a b:E}:ev Φ (.KY fz a b) σ M=(ev Φ a σ M).bind fun x M1=>(ev Φ b σ M1).bind fun y M2=>match x,y with
  | .int i,.int j=>if o8 i&&(o8 j&&decide ((j-i).toNat<=line)) then bB fz (nS i j) M2 else .bad
  | _,_=>.bad:=rfl
@[simp] theorem mO {f:F1} {a:E}:ev Φ (.nc f a) σ M=(ev Φ a σ M).bind fun x M1=>match qu f x with
  | some d=>.ok d M1
  | none=>.bad:=rfl
@[simp] theorem ev_lr1 {fz:Bool} {a:E}:ev Φ (.KZ fz a) σ M=(ev Φ a σ M).bind fun x M1=>match x with
  | .int j=>if o8 j then bB fz (nS 0 j) M1 else .bad
  | _=>.bad:=rfl
@[simp] theorem ev_rv {fz:Bool} {a:E}:ev Φ (.rv fz a) σ M=(ev Φ a σ M).bind fun x M1=>match vw M1 x with
  | .lst ds=>bB fz ds.reverse M1
  | _=>.bad:=rfl
@[simp] theorem Lu {a:E}:ev Φ (.all1 a) σ M=(ev Φ a σ M).bind fun x M1=>match vw M1 x with
  | .lst ds=>match boolsOf ds with
   | some bs=>.ok (.bl (bs.all id)) M1
   | none=>.bad
  | _=>.bad:=rfl
@[simp] theorem cY:b6 Φ .nil σ M=.ok [] M:=rfl
@[simp] theorem av {e:E} {es:Es}:b6 Φ (.cons e es) σ M=(ev Φ e σ M).bind fun x M1=>(b6 Φ es σ M1).bind fun xs M2=>.ok (x::xs) M2:=rfl
@[simp] theorem JI:xY Φ .none σ M=.ok none M:=rfl
@[simp] theorem JH {e:E}:xY Φ (.some e) σ M=(ev Φ e σ M).bind fun x M1=>match x with | .int i=>.ok (some i) M1 | _=>.bad:=rfl
@[simp] theorem ya:oM Φ .none σ M=.ok (.bl true) M:=rfl
@[simp] theorem JL {e:E}:oM Φ (.some e) σ M=ev Φ e σ M:=rfl
@[simp] theorem x9 {a:E}:eO Φ (.e a) σ M=(ev Φ a σ M).bind fun x M1=>match itemsOf M1 x with | some ds=>.ok (x,ds,wk M1 x) (walk M1 x) | none=>.bad:=rfl
@[simp] theorem Lr {a:E}:eO Φ (.Cf a) σ M=(ev Φ a σ M).bind fun x M1=>match x with
  | .int j=>if o8 j then .ok (.ao,nS 0 j,false) M1 else .bad
  | _=>.bad:=rfl
@[simp] theorem JK {a b:E}:eO Φ (.DL a b) σ M=(ev Φ a σ M).bind fun x M1=>(ev Φ b σ M1).bind fun y M2=>match iW x,iW y with
  | some i,some j=>if o8 i&&o8 j then .ok (.ao,nS i j,false) M2 else .bad
  | _,_=>.bad:=rfl
@[simp] theorem Bq {a:E}:eO Φ (.rev a) σ M=(ev Φ a σ M).bind fun x M1=>match oA x with
  | some ds=>.ok (.ao,ds.reverse,false) M1
  | none=>.bad:=rfl
@[simp] theorem JJ {a b:E}:eO Φ (.DJ a b) σ M=(ev Φ a σ M).bind fun x M1=>(ev Φ b σ M1).bind fun y M2=>match iW x,iW y with
  | some i,some j=>if o8 i&&o8 j then .ok (.ao,Ce i j,false) M2 else .bad
  | _,_=>.bad:=rfl
@[simp] theorem JO {a b:E}:ev Φ (.dz a b) σ M=(ev Φ a σ M).bind fun x M1=>(ev Φ b σ M1).bind fun y M2=>match yU M2 x,yU M2 y with
  | some ds,some es=>if decide (ds.length<=1000) then (match uX [] ds es with
   | some kvs=>.ok (.ref M2.length) (M2++[.dct kvs])
   | none=>.bad) else .bad
  | _,_=>.bad:=rfl
@[simp] theorem ev_isx {a:E} {c:Option Nat}:ev Φ (.jL a c) σ M=(ev Φ a σ M).bind fun x M1=>match x with
  | .iY k=>.ok (.bl (match c with | some c=>Φ.sub k c | none=>true)) M1
  | _=>.bad:=rfl
@[simp] theorem Gg {ct:Bool} {a:E} {es:Es}:ev Φ (.A5 ct a es) σ M=(ev Φ a σ M).bind fun x M1=>if (lY M1 x).isSome then (b6 Φ es σ M1).bind fun ds M2=>A4 ct M2 x ds else .bad:=rfl
@[simp] theorem Gf {a:E}:ev Φ (.AO a) σ M=(ev Φ a σ M).bind fun x M1=>match (lY M1 x).bind maxOf with
  | some m=>.ok (.int m) M1
  | none=>.bad:=rfl
@[simp] theorem JQ {f:Nat} {es:Es} {d:Int}:ev Φ (.iU f es d) σ M=(b6 Φ es σ M).bind fun ds M1=>Φ.call f (ds++[.int d]) M1:=rfl
@[simp] theorem Lq {a b:E}:eO Φ (.zip a b) σ M=(ev Φ a σ M).bind fun x M1=>(ev Φ b σ M1).bind fun y M2=>match oA x,oA y with
  | some ds,some es=>.ok (.ao,Hf ds es,false) M2
  | _,_=>.bad:=rfl
@[simp] theorem Ga {i:Nat} {e:E}:ex Φ (.set i e) σ M=(ev Φ e σ M).use σ fun x M1=>.ok (.nx (σ.set i (some x))) M1:=rfl
@[simp] theorem Bk {a b e:E}:ex Φ (.pO a b e) σ M=(ev Φ e σ M).use σ fun x M1=>(ev Φ a σ M1).use σ fun y M2=>(ev Φ b σ M2).use σ fun z M3=>(lJ M3 y z x).use σ fun _ M4=>.ok (.nx σ) M4:=rfl
@[simp] theorem mJ {a:E} {f:Str} {e:E}:ex Φ (.d9 a f e) σ M=(ev Φ e σ M).use σ fun x M1=>(ev Φ a σ M1).use σ fun y M2=>match y with
  | .ref n=>match M2[n]? with
   | some (.ins c fs)=>if decide (fs.length<1000) then .ok (.nx σ) (M2.set n (.ins c (ef f x fs))) else .bad
   | _=>.bad
  | _=>.bad:=rfl
@[simp] theorem Bo:Bp Φ .nil σ M=.ok () M:=rfl
@[simp] theorem xZ {e:E} {es:Es}:Bp Φ (.cons e es) σ M=(ev Φ e σ M).bind fun x M1=>if c7 x then Bp Φ es σ M1 else .bad:=rfl
@[simp] theorem xX {c:Nat} {es:Es}:ex Φ (.raise c es) σ M=(Bp Φ es σ M).use σ fun _ M1=>.ok (.xc c σ) M1:=rfl
@[simp] theorem xW {b:Ss} {hs:Hs} {els:Ss}:ex Φ (.try b hs els) σ M=(exs Φ b σ M).bind fun o M1=>match o with
  | .nx σ1=>exs Φ els σ1 M1
  | .xc c σ1=>sJ Φ hs c σ1 M1
  | o=>.ok o M1:=rfl
@[simp] theorem Lm {c:Nat}:sJ Φ .nil c σ M=.bad:=rfl
@[simp] theorem JE {cs:List Nat} {b:Ss} {hs:Hs} {c:Nat}:sJ Φ (.cons cs b hs) c σ M=if cs.any (fun d=>Φ.sub c d) then GV id (exs Φ b σ M) else sJ Φ hs c σ M:=rfl
@[simp] theorem F7 {d i:Nat} {b:Ss} {hs:Hs} {c:Nat}:sJ Φ (.as d i b hs) c σ M=if Φ.sub c d then GV (fun σ=>σ.set i none) (exs Φ b (σ.set i (some (.iY c))) M) else sJ Φ hs c σ M:=rfl
@[simp] theorem F9 {tg:List Nat} {e:E}:ex Φ (.zw tg e) σ M=(ev Φ e σ M).use σ fun x M1=>match sets tg M1 x σ with | some σ1=>.ok (.nx σ1) M1 | none=>.bad:=rfl
@[simp] theorem JG {e:E}:ex Φ (.ex e) σ M=(ev Φ e σ M).use σ fun _ M1=>.ok (.nx σ) M1:=rfl
@[simp] theorem Gb {e:E}:ex Φ (.ret e) σ M=(ev Φ e σ M).use σ fun x M1=>.ok (.rt x) M1:=rfl
@[simp] theorem Ln:ex Φ .DM σ M=.ok (.rt .ao) M:=rfl
@[simp] theorem mK {c:E} {a b:Ss}:ex Φ (.ifs c a b) σ M=(ev Φ c σ M).use σ fun t M1=>match t with | .bl true=>exs Φ a σ M1 | .bl false=>exs Φ b σ M1 | _=>.bad:=rfl
@[simp] theorem ex_for {tg:List Nat} {it:Src} {b:Ss}:ex Φ (.for tg it b) σ M=(eO Φ it σ M).use σ fun p M1=>(cj (exs Φ b) tg (aO M1 p.1) p.2.1 σ M1).fin (eX p.2.2 p.1):=rfl
@[simp] theorem oK {c:E} {b:Ss}:ex Φ (.while c b) σ M=cM (ev Φ c) (exs Φ b) Φ.turns σ M:=rfl
@[simp] theorem ex_brk:ex Φ .brk σ M=.ok (.bk σ) M:=rfl
@[simp] theorem Lp:ex Φ .cont σ M=.ok (.ct σ) M:=rfl
@[simp] theorem Lo:ex Φ .pass σ M=.ok (.nx σ) M:=rfl
@[simp] theorem Ll:exs Φ .nil σ M=.ok (.nx σ) M:=rfl
@[simp] theorem bG {s:S} {ss:Ss}:exs Φ (.cons s ss) σ M=(ex Φ s σ M).bind fun o M1=>match o with | .nx σ1=>exs Φ ss σ1 M1 | o=>.ok o M1:=rfl
end
@[simp] theorem fin_ok {α:Type} {a:α} {M:MH} {f:MH->MH}:(R.ok a M).fin f=.ok a (f M):=rfl
@[simp] theorem Li {α:Type} {c:Nat} {M:MH} {f:MH->MH}:(R.exc c M:R α).fin f=.exc c (f M):=rfl
@[simp] theorem Lj {α:Type} {f:MH->MH}:(R.bad:R α).fin f=.bad:=rfl
@[simp] theorem unwk_f {d:D} {M:MH}:eX false d M=M:=by cases d <;> rfl
@[simp] theorem CI {α:Type} {x:R α} {d:D}:x.fin (eX false d)=x:=by cases x <;> simp
@[simp] theorem wk_tup {M:MH} {ds:List D}:wk M (.tup ds)=false:=rfl
@[simp] theorem wk_lst {M:MH} {ds:List D}:wk M (.lst ds)=false:=rfl
@[simp] theorem wk_str {M:MH} {x:Str}:wk M (.str x)=false:=rfl
@[simp] theorem Hl {M:MH} {ds:List D}:walk M (.tup ds)=M:=rfl
@[simp] theorem Hq {M:MH} {ds:List D}:walk M (.lst ds)=M:=rfl
@[simp] theorem Ho {M:MH} {x:Str}:walk M (.str x)=M:=rfl
theorem rN {α:Type} {l:List α} {n:Nat} {a b:α} (h:l[n]? = some a):(l.set n b)[n]? = some b:=by
 obtain ⟨q,_⟩:=List.getElem?_eq_some_iff.mp h
 exact List.getElem?_set_self q
theorem cC {P:j9} {k i:Nat} {ds:List D} {M:MH} {fn:Fn} (h:P.fn i=some fn):(af P (k+1)).call i ds M=jy (af P k) fn ds M:=by simp only [af,h]
@[simp] theorem jX {P:j9} {k:Nat}:(af P k).glob=P.glob:=by cases k <;> rfl
@[simp] theorem iT {P:j9} {k:Nat}:(af P k).turns=P.turns:=by cases k <;> rfl
@[simp] theorem ly {P:j9} {k:Nat}:(af P k).sub=P.sub:=by cases k <;> rfl
@[simp] theorem bL {α:Type} {a:α} {l:List α}:j8 (a::l) 0=some a:=by
 have:(0:Int)<((a::l).length:Int):=by simp only [List.length_cons];omega
 simp only [j8,sr,if_pos (Int.le_refl 0),if_pos this];rfl
@[simp] theorem fZ {α:Type} {a b:α} {l:List α}:j8 (a::b::l) 1=some b:=by
 have:(1:Int)<((a::b::l).length:Int):=by simp only [List.length_cons];omega
 simp only [j8,sr,if_pos (show (0:Int)<=1 by decide),if_pos this];rfl
@[simp] theorem yK {α:Type} {a b c:α} {l:List α}:j8 (a::b::c::l) 2=some c:=by
 have:(2:Int)<((a::b::c::l).length:Int):=by simp only [List.length_cons];omega
 simp only [j8,sr,if_pos (show (0:Int)<=2 by decide),if_pos this];rfl
@[simp] theorem yJ {α:Type} {a b c d:α} {l:List α}:j8 (a::b::c::d::l) 3=some d:=by
 have:(3:Int)<((a::b::c::d::l).length:Int):=by simp only [List.length_cons];omega
 simp only [j8,sr,if_pos (show (0:Int)<=3 by decide),if_pos this];rfl
@[simp] theorem G5 {x:Bool} {y:Bool}:aD (D.bl x) (D.bl y)=(x == y):=by simp only [aD]
@[simp] theorem oO {x:Int} {y:Int}:aD (D.int x) (D.int y)=decide (x=y):=by simp only [aD]
@[simp] theorem CM {x:Str} {y:Str}:aD (D.str x) (D.str y)=decide (x=y):=by simp only [aD]
@[simp] theorem oN {x:List D} {y:List D}:aD (D.lst x) (D.lst y)=cT x y:=by simp only [aD]
@[simp] theorem Lv:cT [] []=true:=by simp only [cT]
@[simp] theorem Br {a:D} {l:List D}:cT (a::l) []=false:=by simp only [cT]
@[simp] theorem Lw {a b:D} {l m:List D}:cT (a::l) (b::m)=(aD a b&&cT l m):=by simp only [cT]
section
variable {Φ:bh} {σ σ':Sg} {M M1 M2:MH} {e c:E} {x:D} {ss a b:Ss} {i:Nat}
theorem aF (h:ev Φ e σ M=.ok x M1):exs Φ (.cons (.set i e) ss) σ M=exs Φ ss (σ.set i (some x)) M1:=by simp [h]
theorem bM (h:ev Φ e σ M=.ok x M1):exs Φ (.cons (.ex e) ss) σ M=exs Φ ss σ M1:=by simp [h]
theorem bJ (h:ev Φ e σ M=.ok x M1):exs Φ (.cons (.ret e) ss) σ M=.ok (.rt x) M1:=by simp [h]
theorem aL (h:ev Φ c σ M=.ok (.bl false) M1):exs Φ (.cons (.ifs c a .nil) ss) σ M=exs Φ ss σ M1:=by simp [h]
theorem ie (h:ev Φ c σ M=.ok (.bl false) M1) (hb:exs Φ b σ M1=.ok (.nx σ') M2):exs Φ (.cons (.ifs c a b) ss) σ M=exs Φ ss σ' M2:=by simp [h,hb]
theorem nO (h:ev Φ c σ M=.ok (.bl true) M1) (ha:exs Φ a σ M1=.ok (.nx σ') M2):exs Φ (.cons (.ifs c a b) ss) σ M=exs Φ ss σ' M2:=by simp [h,ha]
theorem cU (h:ev Φ c σ M=.ok (.bl true) M1) (ha:exs Φ a σ M1=.ok (.rt x) M2):exs Φ (.cons (.ifs c a b) ss) σ M=.ok (.rt x) M2:=by simp [h,ha]
theorem Cc {tg:List Nat} {it:Src} {d:D} {ds:List D} (h:eO Φ it σ M=.ok (d,ds,false) M1) (hl:cj (exs Φ b) tg (aO M1 d) ds σ M1=.ok (.nx σ') M2):exs Φ (.cons (.for tg it b) ss) σ M=exs Φ ss σ' M2:=by simp [h,hl]
theorem DG {tg:List Nat} {it:Src} {d:D} {ds:List D} (h:eO Φ it σ M=.ok (d,ds,false) M1) (hl:cj (exs Φ b) tg (aO M1 d) ds σ M1=.ok (.rt x) M2):exs Φ (.cons (.for tg it b) ss) σ M=.ok (.rt x) M2:=by simp [h,hl]
theorem bx {P:j9} {k f:Nat} {fn:Fn} {ds:List D} {d:D} {M':MH} {r:R D} (hf:P.fn f=some fn) (hn:ds.length=fn.np) (hb:exs (af P k) fn.body (ds.map some++List.replicate (fn.ns-fn.np) none) M=.ok (.rt d) M') (hr:fM fn.keep M d M'=r):(af P (k+1)).call f ds M=r:=by
 rw [cC hf]
 have h1:ds.length+fn.jW.length-fn.np=fn.jW.length:=by omega
 simp only [jy,h1,List.drop_length,List.append_nil,hb]
 rw [if_pos (by simp;omega)]
 exact hr
theorem nV {M:MH} {d:D} {M':MH} (h:nr M.length d=true) (ht:M'.take M.length=M):fM false M d M'=.ok d M:=by
 unfold fM;rw [if_pos ⟨rfl,ht⟩,if_pos h]
end
@[simp] theorem KO {M:MH} {ds:List D}:uV M (.tup ds)=true:=rfl
@[simp] theorem KR {M:MH} {ds:List D}:uV M (.lst ds)=true:=rfl
@[simp] theorem KS {M:MH} {i:Int}:uV M (.int i)=true:=rfl
@[simp] theorem KP {M:MH} {x:Str}:uV M (.str x)=true:=rfl
@[simp] theorem okT_bl {M:MH} {b:Bool}:uV M (.bl b)=true:=rfl
@[simp] theorem KQ {M:MH}:uV M .ao=true:=rfl
@[simp] theorem Be {n:Nat}:iM (n+1) (some 1) none=false:=by simp [iM,six]
@[simp] theorem Bc {n:Nat}:iM (n+1+1) (some 2) none=false:=by simp [iM,six]
end Fg
end
section
namespace Fg
open PySem L2
structure Bd where
 K:W.Frag
 dk:Addr->List (Key×V)->Prop
 cls:Nat->Option Addr
 exc:Nat->Value->Prop
 yT:Nat->Option Addr
noncomputable def KTup (K:W.Frag) (a:Addr) (xs:List V):Prop :=
 ∃ (o:Obj) (its:Array Value) (n:Nat), K.lookup a=some o/\o.cls=.type "tuple"/\o.data=.seq its n/\its.size<=sizeLine/\Vals xs its.toList
noncomputable def KLst (K:W.Frag) (a:Addr) (xs:List V):Prop :=
 ∃ (o:Obj) (its:Array Value) (n:Nat), K.lookup a=some o/\o.cls=.type "list"/\o.dict=none/\o.data=.seq its n/\its.size<=sizeLine/\Vals xs its.toList
noncomputable def FzT (B:Bd) (F:Addr->Prop) (H:Hp) (a:Addr) (xs:List V):Prop:=(F a/\Rd H a (.tup xs))\/KTup B.K a xs
noncomputable def FzL (B:Bd) (F:Addr->Prop) (H:Hp) (a:Addr) (xs:List V):Prop:=(F a/\Rd H a (.lst xs))\/KLst B.K a xs
noncomputable def FzD (B:Bd) (F:Addr->Prop) (H:Hp) (a:Addr) (kvs:List (Key×V)):Prop:=(F a/\Rd H a (.dK kvs))\/B.dk a kvs
theorem FzT.sq {B:Bd} {F:Addr->Prop} {H:Hp} {a:Addr} {xs:List V} (h:FzT B F H a xs):gr B.K H a xs:=by
 rcases h with ⟨_,h⟩ | h
 ·exact .inl h
 ·exact .inr h
theorem FzL.sq {B:Bd} {F:Addr->Prop} {H:Hp} {a:Addr} {xs:List V} (h:FzL B F H a xs):eV B.K H a xs:=by
 rcases h with ⟨_,h⟩ | h
 ·exact .inl h
 ·exact .inr h
noncomputable def GG (a C:Addr) (h:Heap):Prop:=∃ o,h.get? a=some o/\o.cls=.ref C
mutual
noncomputable def RD (B:Bd) (F:Addr->Prop) (ρ:List Addr) (H:Hp):D->V->Prop
 | .ao,v=>v=.ao
 | .bl b,v=>v=.bl b
 | .int i,v=>v=.int i
 | .str x,v=>v=.str x
 | .tup ds,v=>∃ a vs,v=.ref a/\FzT B F H a vs/\ai B F ρ H ds vs
 | .lst ds,v=>∃ a vs,v=.ref a/\FzL B F H a vs/\ai B F ρ H ds vs
 | .dct ks ds,v=>∃ a kvs,v=.ref a/\FzD B F H a kvs/\kvs.map (·.1)=ks/\ai B F ρ H ds (kvs.map (·.2))
 | .ref n,v=>∃ a,ρ[n]? = some a/\v=.ref a
 | .iY c,v=>∃ a C,v=.ref a/\B.yT c=some C/\F a/\H a=some (.ext (GG a C))
noncomputable def ai (B:Bd) (F:Addr->Prop) (ρ:List Addr) (H:Hp):List D->List V->Prop
 | [],vs=>vs=[]
 | d::ds,vs=>∃ v ws,vs=v::ws/\RD B F ρ H d v/\ai B F ρ H ds ws
end
structure Ext0 (F:Addr->Prop) (ρ:List Addr) (H:Hp) (F':Addr->Prop) (ρ':List Addr) (H':Hp):Prop where
 s:∀ a∈ρ,¬ F a
 f:∀ a,F a->F' a
 h:∀ a,H a≠none->a∉ρ->H' a=H a
 r:ρ <+: ρ'
 n:∀ a∈ρ',a∈ρ\/H a=none
 g:∀ a,F' a->F a\/(H a=none\/a∈ρ)
structure o6 (F:Addr->Prop) (ρ:List Addr) (H:Hp) (F':Addr->Prop) (ρ':List Addr) (H':Hp):Prop where
 f:∀ a,F a->F' a
 k:∀ a,F a->H a≠none->H' a=H a
 r:ρ <+: ρ'
theorem Ext0.G4 {F F':Addr->Prop} {ρ ρ':List Addr} {H H':Hp} (e:Ext0 F ρ H F' ρ' H'):o6 F ρ H F' ρ' H':=⟨e.f,fun a fa h=>e.h a h fun z=>e.s a z fa,e.r⟩
section
variable {B:Bd} {F F' F1:Addr->Prop} {ρ ρ' ρ1:List Addr} {H H' H1:Hp}
theorem Ci {a:Addr} {u:HO} (h:Rd H a u):H a≠none:=by
 rcases h with h | ⟨o,h⟩ <;> rw [h] <;> simp
theorem o6.rd (e:o6 F ρ H F' ρ' H') {a:Addr} {u:HO} (f:F a) (h:Rd H a u):Rd H' a u:=by
 have q:=e.k a f (Ci h)
 rcases h with h | ⟨o,h⟩
 ·exact .inl (q.trans h)
 ·exact .inr ⟨o,q.trans h⟩
theorem o6.at (e:o6 F ρ H F' ρ' H') {n:Nat} {a:Addr} (h:ρ[n]? = some a):ρ'[n]? = some a:=by
 obtain ⟨t,rfl⟩:=e.r
 have hn:n<ρ.length:=by
  rcases Nat.lt_or_ge n ρ.length with q | q
  ·exact q
  ·rw [List.getElem?_eq_none_iff.mpr q] at h;cases h
 rw [List.getElem?_append_left hn];exact h
mutual
theorem RD.aS (e:o6 F ρ H F' ρ' H'):∀ (d:D) (v:V),RD B F ρ H d v->RD B F' ρ' H' d v
 | .ao,v,h=>h
 | .bl _,v,h=>h
 | .int _,v,h=>h
 | .str _,v,h=>h
 | .tup ds,v,h=>by
  simp only [RD] at h ⊢
  obtain ⟨a,vs,h1,h2,h3⟩:=h
  refine ⟨a,vs,h1,?_,ai.aS e ds vs h3⟩
  rcases h2 with ⟨f,r⟩ | h2
  ·exact .inl ⟨e.f a f,e.rd f r⟩
  ·exact .inr h2
 | .lst ds,v,h=>by
  simp only [RD] at h ⊢
  obtain ⟨a,vs,h1,h2,h3⟩:=h
  refine ⟨a,vs,h1,?_,ai.aS e ds vs h3⟩
  rcases h2 with ⟨f,r⟩ | h2
  ·exact .inl ⟨e.f a f,e.rd f r⟩
  ·exact .inr h2
 | .dct ks ds,v,h=>by
  simp only [RD] at h ⊢
  obtain ⟨a,kvs,h1,h2,h4,h3⟩:=h
  refine ⟨a,kvs,h1,?_,h4,ai.aS e ds _ h3⟩
  rcases h2 with ⟨f,r⟩ | h2
  ·exact .inl ⟨e.f a f,e.rd f r⟩
  ·exact .inr h2
 | .ref n,v,h=>by
  simp only [RD] at h ⊢
  obtain ⟨a,h1,h2⟩:=h
  exact ⟨a,e.at h1,h2⟩
 | .iY c,v,h=>by
  simp only [RD] at h ⊢
  obtain ⟨a,C,h1,h2,h3,h4⟩:=h
  exact ⟨a,C,h1,h2,e.f a h3,(e.k a h3 (by rw [h4];simp)).trans h4⟩
theorem ai.aS (e:o6 F ρ H F' ρ' H'):∀ (ds:List D) (vs:List V),ai B F ρ H ds vs->ai B F' ρ' H' ds vs
 | [],vs,h=>h
 | d::ds,vs,h=>by
  simp only [ai] at h ⊢
  obtain ⟨v,ws,h1,h2,h3⟩:=h
  exact ⟨v,ws,h1,RD.aS e d v h2,ai.aS e ds ws h3⟩
end
theorem Ext0.at (e:Ext0 F ρ H F' ρ' H') {n:Nat} {a:Addr} (h:ρ[n]? = some a):ρ'[n]? = some a:=e.G4.at h
theorem RD.bq (e:Ext0 F ρ H F' ρ' H') (d:D) (v:V) (h:RD B F ρ H d v):RD B F' ρ' H' d v:=RD.aS e.G4 d v h
theorem ai.bq (e:Ext0 F ρ H F' ρ' H') (ds:List D) (vs:List V) (h:ai B F ρ H ds vs):ai B F' ρ' H' ds vs:=ai.aS e.G4 ds vs h
structure Ext (F:Addr->Prop) (ρ:List Addr) (H:Hp) (F':Addr->Prop) (ρ':List Addr) (H':Hp):Prop extends Ext0 F ρ H F' ρ' H' where
 z:∀ a o u,H a=some (.fJ o u)->H' a=some (.fJ o u)
theorem RD.mono (e:Ext F ρ H F' ρ' H') (d:D) (v:V) (h:RD B F ρ H d v):RD B F' ρ' H' d v:=RD.bq e.toExt0 d v h
theorem ai.mono (e:Ext F ρ H F' ρ' H') (ds:List D) (vs:List V) (h:ai B F ρ H ds vs):ai B F' ρ' H' ds vs:=ai.bq e.toExt0 ds vs h
theorem Ext.trans (a:Ext F ρ H F1 ρ1 H1) (b:Ext F1 ρ1 H1 F' ρ' H'):Ext F ρ H F' ρ' H' where
 s:=a.s
 f:=fun x h=>b.f x (a.f x h)
 h:=fun x h1 h2=>by
  have q:=a.h x h1 h2
  have n1:x∉ρ1:=fun z=>(a.n x z).elim h2 h1
  exact (b.h x (by rw [q];exact h1) n1).trans q
 r:=List.IsPrefix.trans a.r b.r
 n:=fun x hx=>by
  rcases b.n x hx with q | q
  ·exact a.n x q
  ·by_cases hr:x∈ρ
   ·exact .inl hr
   ·refine .inr ?_
    cases hh:H x with
    | none=>rfl
    | some u =>
     have:=a.h x (by rw [hh];simp) hr
     rw [q,hh] at this;cases this
 g:=fun x hx=>by
  rcases b.g x hx with q | q | q
  ·exact a.g x q
  ·by_cases hr:x∈ρ
   ·exact .inr (.inr hr)
   ·refine .inr (.inl ?_)
    cases hh:H x with
    | none=>rfl
    | some u =>
     have:=a.h x (by rw [hh];simp) hr
     rw [q,hh] at this;cases this
  ·rcases a.n x q with z | z
   ·exact .inr (.inr z)
   ·exact .inr (.inl z)
 z:=fun x o u h=>b.z x o u (a.z x o u h)
theorem Ext.refl (s:∀ a∈ρ,¬ F a):Ext F ρ H F ρ H:=⟨⟨s,fun _ h=>h,fun _ _ _=>rfl,List.prefix_refl _,fun _ h=>.inl h,fun _ h=>.inl h⟩,fun _ _ _ h=>h⟩
end
noncomputable def MR (B:Bd) (F:Addr->Prop) (ρ:List Addr) (H:Hp):MO->Addr->Prop
 | .lst ds,a=>∃ vs,H a=some (.lst vs)/\ai B F ρ H ds vs
 | .dct kvs,a=>∃ kws,H a=some (.dK kws)/\kws.map (·.1)=kvs.map (·.1)/\ai B F ρ H (kvs.map (·.2)) (kws.map (·.2))
 | .ng kvs,a=>∃ o kws,H a=some (.fJ o (.dK kws))/\kws.map (·.1)=kvs.map (·.1)/\ai B F ρ H (kvs.map (·.2)) (kws.map (·.2))
 | .ins c fs,a=>∃ C dx eL,B.cls c=some C/\H a=some (.ins C dx eL)/\eL.map (·.1)=fs.map (·.1)/\ai B F ρ H (fs.map (·.2)) (eL.map (·.2))
theorem MR.aS {B:Bd} {F F':Addr->Prop} {ρ ρ':List Addr} {H H':Hp} (e:o6 F ρ H F' ρ' H') {a:Addr} (ha:H' a=H a):∀ {o:MO},MR B F ρ H o a->MR B F' ρ' H' o a
 | .lst ds,⟨vs,h1,h2⟩=>⟨vs,ha.trans h1,ai.aS e _ _ h2⟩
 | .dct kvs,⟨kws,h1,h2,h3⟩=>⟨kws,ha.trans h1,h2,ai.aS e _ _ h3⟩
 | .ng kvs,⟨o,kws,h1,h2,h3⟩=>⟨o,kws,ha.trans h1,h2,ai.aS e _ _ h3⟩
 | .ins c fs,⟨C,dx,eL,h0,h1,h2,h3⟩=>⟨C,dx,eL,h0,ha.trans h1,h2,ai.aS e _ _ h3⟩
theorem MR.bq {B:Bd} {F F':Addr->Prop} {ρ ρ':List Addr} {H H':Hp} (e:Ext0 F ρ H F' ρ' H') {a:Addr} (ha:H' a=H a) {o:MO} (h:MR B F ρ H o a):MR B F' ρ' H' o a:=h.aS e.G4 ha
theorem MR.mono {B:Bd} {F F':Addr->Prop} {ρ ρ':List Addr} {H H':Hp} (e:Ext F ρ H F' ρ' H') {a:Addr} (ha:H' a=H a) {o:MO} (h:MR B F ρ H o a):MR B F' ρ' H' o a:=h.bq e.toExt0 ha
theorem MR.ne {B:Bd} {F:Addr->Prop} {ρ:List Addr} {H:Hp} {a:Addr}:∀ {o:MO},MR B F ρ H o a->H a≠none
 | .lst ds,⟨vs,h1,h2⟩=>by rw [h1];simp
 | .dct kvs,⟨kws,h1,_⟩=>by rw [h1];simp
 | .ng kvs,⟨o,kws,h1,_⟩=>by rw [h1];simp
 | .ins c fs,⟨C,dx,eL,_,h1,_⟩=>by rw [h1];simp
structure SR (B:Bd) (F:Addr->Prop) (ρ:List Addr) (M:MH) (H:Hp):Prop where
 len:ρ.length=M.length
 nd:ρ.Nodup
 sep:∀ a∈ρ,¬ F a
 Bf:∀ a,F a->H a≠none
 obj:∀ (n:Nat) (a:Addr) (o:MO),ρ[n]? = some a->M[n]? = some o->MR B F ρ H o a
section
variable {B:Bd} {F F' F1:Addr->Prop} {ρ ρ' ρ1:List Addr} {H H' H1:Hp} {M M':MH}
theorem SR.ne (S:SR B F ρ M H) {a:Addr} (h:a∈ρ):H a≠none:=by
 obtain ⟨n,hn,e⟩:=List.mem_iff_getElem.mp h
 have hm:n<M.length:=by rw [<- S.len];exact hn
 exact (S.obj n a M[n] (by rw [List.getElem?_eq_getElem hn,e]) (List.getElem?_eq_getElem hm)).ne
theorem SR.new (S:SR B F ρ M H) {p:Addr} (h:H p=none):p∉ρ/\¬ F p:=⟨fun z=>S.ne z h,fun z=>S.Bf p z h⟩
theorem SR.refl (S:SR B F ρ M H):Ext F ρ H F ρ H:=Ext.refl S.sep
theorem SR.fz (S:SR B F ρ M H) {p:Addr} (h:H p=none) (o:HO):SR B (fun a=>F a\/a=p) ρ M (upd H p o)/\Ext F ρ H (fun a=>F a\/a=p) ρ (upd H p o):=by
 obtain ⟨np,nf⟩:=S.new h
 have e:Ext F ρ H (fun a=>F a\/a=p) ρ (upd H p o):=⟨⟨S.sep,fun a q=>.inl q,fun a q _=>aj (by rintro rfl;exact q h),List.prefix_refl _,fun a q=>.inl q,fun a q=>q.elim .inl fun z=>.inr (.inl (z ▸ h))⟩,fun b w u q=>by rw [aj (by rintro rfl;rw [h] at q;cases q)];exact q⟩
 refine ⟨⟨S.len,S.nd,fun a ha z=>?_,fun a z=>?_,fun n a u h1 h2=>?_⟩,e⟩
 ·rcases z with z | z
  ·exact S.sep a ha z
  ·subst z;exact np ha
 ·by_cases q:a=p
  ·subst q;rw [ay];simp
  ·rw [aj q]
   rcases z with z | z
   ·exact S.Bf a z
   ·exact absurd z q
 ·have m:=S.obj n a u h1 h2
  exact m.mono e (aj (by rintro rfl;exact m.ne h))
theorem SR.lv (S:SR B F ρ M H) {p:Addr} (h:H p=none) {o:HO} {u:MO} (hu:MR B F (ρ++[p]) (upd H p o) u p):SR B F (ρ++[p]) (M++[u]) (upd H p o)/\Ext F ρ H F (ρ++[p]) (upd H p o):=by
 obtain ⟨np,nf⟩:=S.new h
 have e:Ext F ρ H F (ρ++[p]) (upd H p o):=⟨⟨S.sep,fun a q=>q,fun a q _=>aj (by rintro rfl;exact q h),List.prefix_append _ _,fun a q=>by
  rcases List.mem_append.mp q with q | q
  ·exact .inl q
  ·rw [List.mem_singleton.mp q];exact .inr h,fun _ q=>.inl q⟩,fun b w u q=>by rw [aj (by rintro rfl;rw [h] at q;cases q)];exact q⟩
 refine ⟨⟨by simp [S.len],?_,fun a ha z=>?_,fun a z=>?_,fun n a w h1 h2=>?_⟩,e⟩
 ·rw [List.nodup_append]
  refine ⟨S.nd,by simp,fun a ha b hb=>?_⟩
  rw [List.mem_singleton.mp hb]
  rintro rfl
  exact np ha
 ·rcases List.mem_append.mp ha with q | q
  ·exact S.sep a q z
  ·rw [List.mem_singleton.mp q] at z;exact nf z
 ·have q:a≠p:=by rintro rfl;exact nf z
  rw [aj q];exact S.Bf a z
 ·by_cases hn:n<ρ.length
  ·rw [List.getElem?_append_left hn] at h1
   rw [List.getElem?_append_left (by rw [<- S.len];exact hn)] at h2
   have m:=S.obj n a w h1 h2
   exact m.mono e (aj (by rintro rfl;exact m.ne h))
  ·have hn':ρ.length<=n:=Nat.le_of_not_lt hn
   rw [List.getElem?_append_right hn'] at h1
   rw [List.getElem?_append_right (by rw [<- S.len];exact hn'),<- S.len] at h2
   cases k:n-ρ.length with
   | zero =>
    rw [k] at h1 h2
    cases h1;cases h2
    exact hu
   | succ j=>rw [k] at h1;simp at h1
theorem SR.iZ (S:SR B F ρ M H) {n:Nat} {a:Addr} {o:HO} {u:MO} (hn:ρ[n]? = some a) (hu:MR B F ρ (upd H a o) u a):SR B F ρ (M.set n u) (upd H a o)/\Ext0 F ρ H F ρ (upd H a o):=by
 have ha:a∈ρ:=List.mem_of_getElem? hn
 have e:Ext0 F ρ H F ρ (upd H a o):=⟨S.sep,fun _ q=>q,fun b q nb=>aj (by rintro rfl;exact nb ha),List.prefix_refl _,fun _ q=>.inl q,fun _ q=>.inl q⟩
 refine ⟨⟨by simp [S.len],S.nd,S.sep,fun b z=>?_,fun m b w h1 h2=>?_⟩,e⟩
 ·have q:b≠a:=by rintro rfl;exact S.sep b ha z
  rw [aj q];exact S.Bf b z
 ·by_cases q:m=n
  ·subst q
   rw [hn] at h1;cases h1
   rw [List.getElem?_set] at h2
   split at h2
   ·split at h2
    ·cases h2;exact hu
    ·cases h2
   ·rename_i z;exact absurd rfl z
  ·rw [List.getElem?_set_ne (Ne.symm q)] at h2
   have ne:b≠a:=by
    rintro rfl
    obtain ⟨m1,e1⟩:=List.getElem?_eq_some_iff.mp h1
    obtain ⟨m2,e2⟩:=List.getElem?_eq_some_iff.mp hn
    exact q ((List.getElem_inj S.nd).mp (e1.trans e2.symm))
   exact (S.obj m b w h1 h2).bq e (aj ne)
theorem SR.st (S:SR B F ρ M H) {n:Nat} {a:Addr} {o:HO} {u:MO} (hn:ρ[n]? = some a) (hz:∀ w v,H a≠some (.fJ w v)) (hu:MR B F ρ (upd H a o) u a):SR B F ρ (M.set n u) (upd H a o)/\Ext F ρ H F ρ (upd H a o) :=
 ⟨(S.iZ hn hu).1,⟨(S.iZ hn hu).2,fun b w v q=>by rw [aj (by rintro rfl;exact hz w v q)];exact q⟩⟩
theorem Ext0.at_ (S:SR B F ρ M H) {n:Nat} {a:Addr} {o:HO} (hn:ρ[n]? = some a):Ext0 F ρ H F ρ (upd H a o) :=
 ⟨S.sep,fun _ q=>q,fun b q nb=>aj (by rintro rfl;exact nb (List.mem_of_getElem? hn)),List.prefix_refl _,fun _ q=>.inl q,fun _ q=>.inl q⟩
theorem o6.side {D:Addr} (hF:¬ F D) (o:HO):o6 F ρ H F ρ (upd H D o):=⟨fun _ h=>h,fun a fa _=>aj (by rintro rfl;exact hF fa),List.prefix_refl _⟩
theorem SR.side (S:SR B F ρ M H) {D:Addr} (hD:D∉ρ) (hF:¬ F D) (o:HO):SR B F ρ M (upd H D o) :=
 ⟨S.len,S.nd,S.sep,fun a fa=>by rw [aj (by rintro rfl;exact hF fa)];exact S.Bf a fa,fun n a w h1 h2=>(S.obj n a w h1 h2).aS (o6.side hF o) (aj (by rintro rfl;exact hD (List.mem_of_getElem? h1)))⟩
theorem SR.take (S:SR B F ρ M H) {D:Addr} (hD:D∉ρ) (hn:H D≠none):SR B (fun a=>F a\/a=D) ρ M H :=
 ⟨S.len,S.nd,fun a ha z=>z.elim (S.sep a ha) fun e=>hD (e ▸ ha),fun a z=>z.elim (S.Bf a) fun e=>e ▸ hn,fun n a w h1 h2=>(S.obj n a w h1 h2).aS ⟨fun _ h=>.inl h,fun _ _ _=>rfl,List.prefix_refl _⟩ rfl⟩
theorem SR.hold (S:SR B F ρ M H) {D:Addr} {u:MO} (hD:D∉ρ) (hF:¬ F D) (hu:MR B F (ρ++[D]) H u D):SR B F (ρ++[D]) (M++[u]) H:=by
 refine ⟨by simp [S.len],?_,fun a ha z=>?_,S.Bf,fun n a w h1 h2=>?_⟩
 ·rw [List.nodup_append]
  refine ⟨S.nd,by simp,fun a ha b hb=>?_⟩
  rw [List.mem_singleton.mp hb]
  rintro rfl
  exact hD ha
 ·rcases List.mem_append.mp ha with q | q
  ·exact S.sep a q z
  ·rw [List.mem_singleton.mp q] at z;exact hF z
 ·by_cases hn:n<ρ.length
  ·rw [List.getElem?_append_left hn] at h1
   rw [List.getElem?_append_left (by rw [<- S.len];exact hn)] at h2
   exact (S.obj n a w h1 h2).aS ⟨fun _ h=>h,fun _ _ _=>rfl,List.prefix_append _ _⟩ rfl
  ·have hn':ρ.length<=n:=Nat.le_of_not_lt hn
   rw [List.getElem?_append_right hn'] at h1
   rw [List.getElem?_append_right (by rw [<- S.len];exact hn'),<- S.len] at h2
   cases k:n-ρ.length with
   | zero =>
    rw [k] at h1 h2
    cases h1;cases h2
    exact hu
   | succ j=>rw [k] at h1;simp at h1
theorem SR.wk (S:SR B F ρ M H) {n:Nat} {a:Addr} {kvs:List (Ky×D)} {kws:List (Key×V)} (o:Obj) (hn:ρ[n]? = some a) (hM:M[n]? = some (.dct kvs)) (hH:H a=some (.dK kws)) :
  SR B F ρ (M.set n (.ng kvs)) (upd H a (.fJ o (.dK kws)))/\Ext F ρ H F ρ (upd H a (.fJ o (.dK kws))):=by
 obtain ⟨kws',h1,h2,h3⟩:=S.obj n a _ hn hM
 rw [hH] at h1;cases h1
 exact S.st (o:=.fJ o (.dK kws)) (u:=.ng kvs) hn (fun w v q=>by rw [hH] at q;cases q) ⟨o,kws,ay,h2,ai.bq (Ext0.at_ S hn) _ _ h3⟩
theorem SR.uw (S:SR B F ρ M H) {n:Nat} {a:Addr} {kvs:List (Ky×D)} (hn:ρ[n]? = some a) (hM:M[n]? = some (.ng kvs)):∃ o kws,H a=some (.fJ o (.dK kws)) /\
  SR B F ρ (M.set n (.dct kvs)) (upd H a (.dK kws)):=by
 obtain ⟨o,kws,h1,h2,h3⟩:=S.obj n a _ hn hM
 exact ⟨o,kws,h1,(S.iZ (o:=.dK kws) (u:=.dct kvs) hn ⟨kws,ay,h2,ai.bq (Ext0.at_ S hn) _ _ h3⟩).1⟩
theorem Ext.thaw (e:Ext F ρ H F' ρ' H') {a:Addr} {o:HO} (ha:a∈ρ') (hn:∀ w v,H a≠some (.fJ w v)) (hF:∀ b∈ρ',¬ F' b):Ext F ρ H F' ρ' (upd H' a o) :=
 ⟨⟨e.s,e.f,fun b q nb=>by
  by_cases hb:b=a
  ·subst hb
   rcases e.n b ha with z | z
   ·exact absurd z nb
   ·exact absurd z q
  ·rw [aj hb];exact e.h b q nb,e.r,e.n,e.g⟩,fun b w v q=>by rw [aj (by rintro rfl;exact hn w v q)];exact e.z b w v q⟩
end
section
variable {B:Bd} {F F' F1:Addr->Prop} {ρ ρ' ρ1:List Addr} {H H' H1:Hp} {M M':MH}
theorem ai.length:∀ {ds:List D} {vs:List V},ai B F ρ H ds vs->ds.length=vs.length
 | [],vs,h=>by simp only [ai] at h;subst h;rfl
 | d::ds,vs,h=>by
  simp only [ai] at h
  obtain ⟨v,ws,rfl,_,h3⟩:=h
  simp [ai.length h3]
theorem ai.cons {d:D} {v:V} {ds:List D} {vs:List V} (h:RD B F ρ H d v) (t:ai B F ρ H ds vs):ai B F ρ H (d::ds) (v::vs):=by
 simp only [ai];exact ⟨v,vs,rfl,h,t⟩
theorem ai.nil:ai B F ρ H [] []:=by simp only [ai]
theorem ai.append:∀ {ds es:List D} {vs ws:List V},ai B F ρ H ds vs->ai B F ρ H es ws->ai B F ρ H (ds++es) (vs++ws)
 | [],es,vs,ws,h,t=>by simp only [ai] at h;subst h;exact t
 | d::ds,es,vs,ws,h,t=>by
  simp only [ai] at h
  obtain ⟨v,us,rfl,h2,h3⟩:=h
  exact ai.cons h2 (ai.append h3 t)
theorem ai.get:∀ {ds:List D} {vs:List V} {i:Nat} {d:D},ai B F ρ H ds vs->ds[i]? = some d->∃ v,vs[i]? = some v/\RD B F ρ H d v
 | [],vs,i,d,h,e=>by simp at e
 | d::ds,vs,i,d',h,e=>by
  simp only [ai] at h
  obtain ⟨v,ws,rfl,h2,h3⟩:=h
  cases i with
  | zero=>simp at e;subst e;exact ⟨v,rfl,h2⟩
  | succ i=>simp at e;simpa using ai.get (i:=i) h3 e
theorem ai.take:∀ {ds:List D} {vs:List V} (n:Nat),ai B F ρ H ds vs->ai B F ρ H (ds.take n) (vs.take n)
 | [],vs,n,h=>by simp only [ai] at h;subst h;simp [ai]
 | d::ds,vs,n,h=>by
  simp only [ai] at h
  obtain ⟨v,ws,rfl,h2,h3⟩:=h
  cases n with
  | zero=>simp [ai]
  | succ n=>simp only [List.take_succ_cons];exact ai.cons h2 (ai.take n h3)
theorem ai.drop:∀ {ds:List D} {vs:List V} (n:Nat),ai B F ρ H ds vs->ai B F ρ H (ds.drop n) (vs.drop n)
 | [],vs,n,h=>by simp only [ai] at h;subst h;simp [ai]
 | d::ds,vs,n,h=>by
  cases n with
  | zero=>exact h
  | succ n =>
   simp only [ai] at h
   obtain ⟨v,ws,rfl,h2,h3⟩:=h
   simp only [List.drop_succ_cons];exact ai.drop n h3
theorem ai.set:∀ {ds:List D} {vs:List V} {d:D} {v:V} (i:Nat),ai B F ρ H ds vs->RD B F ρ H d v->ai B F ρ H (ds.set i d) (vs.set i v)
 | [],vs,d,v,i,h,q=>by simp only [ai] at h;subst h;simp [ai]
 | e::ds,vs,d,v,i,h,q=>by
  simp only [ai] at h
  obtain ⟨u,ws,rfl,h2,h3⟩:=h
  cases i with
  | zero=>simp only [List.set_cons_zero];exact ai.cons q h3
  | succ i=>simp only [List.set_cons_succ];exact ai.cons h2 (ai.set i h3 q)
mutual
theorem RD.nr:∀ {d:D} {v:V},RD B F ρ H d v->nr ρ.length d=true
 | .ao,v,h=>by simp [Fg.nr]
 | .bl _,v,h=>by simp [Fg.nr]
 | .int _,v,h=>by simp [Fg.nr]
 | .str _,v,h=>by simp [Fg.nr]
 | .tup ds,v,h=>by simp only [RD] at h;obtain ⟨a,vs,h1,h2,h3⟩:=h;simp only [Fg.nr];exact ai.nr h3
 | .lst ds,v,h=>by simp only [RD] at h;obtain ⟨a,vs,h1,h2,h3⟩:=h;simp only [Fg.nr];exact ai.nr h3
 | .dct ks ds,v,h=>by simp only [RD] at h;obtain ⟨a,vs,h1,h2,_,h3⟩:=h;simp only [Fg.nr];exact ai.nr h3
 | .ref n,v,h=>by
  simp only [RD] at h;obtain ⟨a,h1,h2⟩:=h;simp only [Fg.nr]
  obtain ⟨q,_⟩:=List.getElem?_eq_some_iff.mp h1
  exact decide_eq_true q
 | .iY _,v,h=>by simp [Fg.nr]
theorem ai.nr:∀ {ds:List D} {vs:List V},ai B F ρ H ds vs->e8 ρ.length ds=true
 | [],vs,h=>by simp [e8]
 | d::ds,vs,h=>by
  simp only [ai] at h
  obtain ⟨v,ws,rfl,h2,h3⟩:=h
  simp only [e8,RD.nr h2,ai.nr h3,Bool.and_self]
end
mutual
theorem RD.cut (hp:ρ <+: ρ'):∀ {d:D} {v:V},Fg.nr ρ.length d=true->RD B F ρ' H d v->RD B F ρ H d v
 | .ao,v,_,h=>h
 | .bl _,v,_,h=>h
 | .int _,v,_,h=>h
 | .str _,v,_,h=>h
 | .tup ds,v,q,h=>by
  simp only [Fg.nr] at q;simp only [RD] at h ⊢
  obtain ⟨a,vs,h1,h2,h3⟩:=h
  exact ⟨a,vs,h1,h2,ai.cut hp q h3⟩
 | .lst ds,v,q,h=>by
  simp only [Fg.nr] at q;simp only [RD] at h ⊢
  obtain ⟨a,vs,h1,h2,h3⟩:=h
  exact ⟨a,vs,h1,h2,ai.cut hp q h3⟩
 | .dct ks ds,v,q,h=>by
  simp only [Fg.nr] at q;simp only [RD] at h ⊢
  obtain ⟨a,vs,h1,h2,h4,h3⟩:=h
  exact ⟨a,vs,h1,h2,h4,ai.cut hp q h3⟩
 | .ref n,v,q,h=>by
  simp only [Fg.nr] at q;simp only [RD] at h ⊢
  obtain ⟨a,h1,h2⟩:=h
  obtain ⟨t,rfl⟩:=hp
  rw [List.getElem?_append_left (of_decide_eq_true q)] at h1
  exact ⟨a,h1,h2⟩
 | .iY _,v,_,h=>h
theorem ai.cut (hp:ρ <+: ρ'):∀ {ds:List D} {vs:List V},e8 ρ.length ds=true->ai B F ρ' H ds vs->ai B F ρ H ds vs
 | [],vs,_,h=>h
 | d::ds,vs,q,h=>by
  simp only [e8,Bool.and_eq_true] at q;simp only [ai] at h ⊢
  obtain ⟨v,ws,rfl,h2,h3⟩:=h
  exact ⟨v,ws,rfl,RD.cut hp q.1 h2,ai.cut hp q.2 h3⟩
end
theorem MR.cut (hp:ρ <+: ρ') {a:Addr} {F0:Addr->Prop} {H0:Hp} {a0:Addr}:∀ {o:MO},MR B F0 ρ H0 o a0->MR B F ρ' H o a->MR B F ρ H o a
 | .lst ds,⟨_,_,k⟩,⟨vs,h1,h2⟩=>⟨vs,h1,ai.cut hp (ai.nr k) h2⟩
 | .dct kvs,⟨_,_,_,k⟩,⟨kws,h1,h2,h3⟩=>⟨kws,h1,h2,ai.cut hp (ai.nr k) h3⟩
 | .ng kvs,⟨_,_,_,_,k⟩,⟨o,kws,h1,h2,h3⟩=>⟨o,kws,h1,h2,ai.cut hp (ai.nr k) h3⟩
 | .ins c fs,⟨_,_,_,_,_,_,k⟩,⟨C,dx,eL,h0,h1,h2,h3⟩=>⟨C,dx,eL,h0,h1,h2,ai.cut hp (ai.nr k) h3⟩
theorem SR.cut (S:SR B F ρ M H) (S':SR B F' ρ' M' H') (e:Ext F ρ H F' ρ' H') (hm:M'.take M.length=M):SR B F' ρ M H' where
 len:=S.len
 nd:=S.nd
 sep:=fun a ha=>S'.sep a (e.r.subset ha)
 Bf:=S'.Bf
 obj:=fun n a o h1 h2=>by
  have m':M'[n]? = some o:=by
   rw [<- hm] at h2
   rw [List.getElem?_take] at h2
   split at h2
   ·exact h2
   ·cases h2
  exact MR.cut e.r (S.obj n a o h1 h2) (S'.obj n a o (e.at h1) m')
theorem Ext.cut (e:Ext F ρ H F' ρ' H'):Ext F ρ H F' ρ H':=⟨⟨e.s,e.f,e.h,List.prefix_refl _,fun _ h=>.inl h,e.g⟩,e.z⟩
end
end Fg
end
section
namespace Fg
open PySem L2
noncomputable def zb (th:Addr->Prop) (H H':Hp):Prop:=H'=H\/∃ a o kvs,th a/\H a=some (.fJ o (.dK kvs))/\H'=upd H a (.dK kvs)
noncomputable abbrev XS:=Value->Option Addr->St->Hp->Prop
structure Gx where
 e:XS
 th:Addr->Prop
 cl:∀ cv x σ H H',zb th H H'->e cv x σ H'->e cv x σ H
noncomputable def ah {α β:Type} (rel:(Addr->Prop)->List Addr->Hp->α->β->Prop) (B:Bd) (r:R α) (F:Addr->Prop) (ρ:List Addr) (H:Hp) (Q:β->Hp->Prop) (E:XK):Prop :=
 match r with
 | .ok d M'=>∀ F' ρ' H' v,Ext F ρ H F' ρ' H'->SR B F' ρ' M' H'->rel F' ρ' H' d v->Q v H'
 | .exc c M'=>∀ F' ρ' H' cv x,Ext F ρ H F' ρ' H'->SR B F' ρ' M' H'->B.exc c cv->E cv x H'
 | .bad=>False
noncomputable abbrev Post (B:Bd):=ah (RD B) B
noncomputable abbrev Kr (B:Bd):=ah (ai B) B
section
variable {B:Bd} {F F' F1:Addr->Prop} {ρ ρ' ρ1:List Addr} {H H' H1:Hp} {M M':MH} {E:XK}
theorem ah.weak {α β:Type} {rel:(Addr->Prop)->List Addr->Hp->α->β->Prop} {r:R α} {Q:β->Hp->Prop} (e:Ext F ρ H F1 ρ1 H1) (h:ah rel B r F ρ H Q E):ah rel B r F1 ρ1 H1 Q E:=by
 cases r with
 | ok d M'=>exact fun F' ρ' H' v e' S r=>h F' ρ' H' v (e.trans e') S r
 | exc c M'=>exact fun F' ρ' H' cv x e' S r=>h F' ρ' H' cv x (e.trans e') S r
 | bad=>exact h
theorem ah.imp {α β:Type} {rel:(Addr->Prop)->List Addr->Hp->α->β->Prop} {r:R α} {Q Q':β->Hp->Prop} (h:ah rel B r F ρ H Q E) (k:∀ v H',Q v H'->Q' v H'):ah rel B r F ρ H Q' E:=by
 cases r with
 | ok d M'=>exact fun F' ρ' H' v e' S r=>k _ _ (h F' ρ' H' v e' S r)
 | exc c M'=>exact h
 | bad=>exact h
theorem ah.bind {α β α' β':Type} {rel:(Addr->Prop)->List Addr->Hp->α->β->Prop} {rel':(Addr->Prop)->List Addr->Hp->α'->β'->Prop} {x:R α} {f:α->MH->R α'} {Q:β'->Hp->Prop} (h:ah rel' B (x.bind f) F ρ H Q E) :
  ah rel B x F ρ H (fun v H'=>∃ d M' F' ρ',Ext F ρ H F' ρ' H'/\SR B F' ρ' M' H'/\rel F' ρ' H' d v/\ah rel' B (f d M') F' ρ' H' Q E) E:=by
 cases x with
 | ok d M'=>exact fun F' ρ' H' v e S r=>⟨d,M',F',ρ',e,S,r,ah.weak e h⟩
 | exc c M'=>exact h
 | bad=>exact h
theorem ah.run {α β:Type} {rel:(Addr->Prop)->List Addr->Hp->α->β->Prop} {d:α} {Q:β->Hp->Prop} {v:β} (h:ah rel B (.ok d M) F ρ H Q E) (S:SR B F ρ M H) (r:rel F ρ H d v):Q v H :=
 h F ρ H v S.refl S r
end
structure RS (B:Bd) (F:Addr->Prop) (ρ:List Addr) (H:Hp) (σD:Sg) (σ:St):Prop where
 len:σ.length=σD.length
 get:∀ (i:Nat) (d:D),σD[i]? = some (some d)->∃ v,σ[i]? = some (some v)/\RD B F ρ H d v
section
variable {B:Bd} {F F' F1:Addr->Prop} {ρ ρ' ρ1:List Addr} {H H' H1:Hp} {M M':MH} {σD:Sg} {σ:St}
theorem RS.mono (e:Ext F ρ H F' ρ' H') (h:RS B F ρ H σD σ):RS B F' ρ' H' σD σ :=
 ⟨h.len,fun i d q=>let ⟨v,h1,h2⟩:=h.get i d q;⟨v,h1,RD.mono e d v h2⟩⟩
theorem RS.set (h:RS B F ρ H σD σ) {d:D} {v:V} (r:RD B F ρ H d v) (i:Nat):RS B F ρ H (σD.set i (some d)) (σ.set i (some v)):=by
 refine ⟨by simp [h.len],fun j d' q=>?_⟩
 rw [List.getElem?_set] at q ⊢
 split at q
 ·rename_i e
  split at q
  ·rename_i l
   cases q
   refine ⟨v,?_,r⟩
   rw [if_pos e,if_pos (by rw [h.len];exact l)]
  ·cases q
 ·rename_i e
  rw [if_neg e]
  exact h.get j d' q
end
noncomputable def T (B:Bd) (Φ:bh) (E:Gx) (c:Fg.E):TE:=fun σ H Q=>∃ (σD:Sg) (M:MH) (F:Addr->Prop) (ρ:List Addr),
 SR B F ρ M H/\RS B F ρ H σD σ/\Post B (ev Φ c σD M) F ρ H Q (fun cv x H'=>E.e cv x σ H')
noncomputable def TB (B:Bd) (Φ:bh) (E:Gx) (c:Fg.E):TT:=fun σ H Q=>T B Φ E c σ H fun v H'=>∃ b,v=.bl b/\Q b H'
noncomputable def TL (B:Bd) (Φ:bh) (E:Gx) (c:Es):TA:=fun σ H Q=>∃ (σD:Sg) (M:MH) (F:Addr->Prop) (ρ:List Addr),
 SR B F ρ M H/\RS B F ρ H σD σ/\Kr B (b6 Φ c σD M) F ρ H Q (fun cv x H'=>E.e cv x σ H')
noncomputable def TP (B:Bd) (Φ:bh) (E:Gx) (c:O):TO:=fun σ H Q=>∃ (σD:Sg) (M:MH) (F:Addr->Prop) (ρ:List Addr),
 SR B F ρ M H/\RS B F ρ H σD σ/\ah (fun _ _ _ (a b:Option Int)=>a=b) B (xY Φ c σD M) F ρ H Q (fun cv x H'=>E.e cv x σ H')
section
variable {B:Bd} {Φ:bh} {E:Gx} {F F' F1:Addr->Prop} {ρ ρ' ρ1:List Addr} {H H' H1:Hp} {M M':MH} {σD:Sg} {σ:St} {Q:VK}
theorem T.one {a:Fg.E} {g:D->MH->R D} {W:V->Hp->Prop} {X:XK} (S:SR B F ρ M H) (r:RS B F ρ H σD σ) (hX:X=fun cv x H'=>E.e cv x σ H') (h:Post B ((ev Φ a σD M).bind g) F ρ H Q X)
  (k:∀ x M1 F1 ρ1 H1 v,Ext F ρ H F1 ρ1 H1->SR B F1 ρ1 M1 H1->RS B F1 ρ1 H1 σD σ->RD B F1 ρ1 H1 x v->Post B (g x M1) F1 ρ1 H1 Q X->W v H1):T B Φ E a σ H W:=by
 subst hX
 refine ⟨σD,M,F,ρ,S,r,ah.imp (ah.bind (rel:=RD B) h) fun v H1 ⟨x,M1,F1,ρ1,e,S1,rx,h1⟩=>?_⟩
 exact k x M1 F1 ρ1 H1 v e S1 (r.mono e) rx h1
theorem T.two {a b:Fg.E} {g:D->D->MH->R D} {W:V->V->Hp->Prop} {X:XK} (S:SR B F ρ M H) (r:RS B F ρ H σD σ) (hX:X=fun cv x H'=>E.e cv x σ H')
  (h:Post B ((ev Φ a σD M).bind fun x M1=>(ev Φ b σD M1).bind fun y M2=>g x y M2) F ρ H Q X)
  (k:∀ x y M2 F2 ρ2 H2 v w,SR B F2 ρ2 M2 H2->RS B F2 ρ2 H2 σD σ->RD B F2 ρ2 H2 x v->RD B F2 ρ2 H2 y w->Post B (g x y M2) F2 ρ2 H2 Q X->W v w H2) :
  T B Φ E a σ H fun v H1=>T B Φ E b σ H1 fun w H2=>W v w H2:=by
 refine T.one S r hX h fun x M1 F1 ρ1 H1 v e1 S1 r1 rx h1=>?_
 refine T.one S1 r1 hX h1 fun y M2 F2 ρ2 H2 w e2 S2 r2 ry h2=>?_
 exact k x y M2 F2 ρ2 H2 v w S2 r2 (RD.mono e2 _ _ rx) ry h2
theorem TL.one {a:Es} {g:List D->MH->R D} {W:List V->Hp->Prop} {X:XK} (S:SR B F ρ M H) (r:RS B F ρ H σD σ) (hX:X=fun cv x H'=>E.e cv x σ H') (h:Post B ((b6 Φ a σD M).bind g) F ρ H Q X)
  (k:∀ x M1 F1 ρ1 H1 v,Ext F ρ H F1 ρ1 H1->SR B F1 ρ1 M1 H1->RS B F1 ρ1 H1 σD σ->ai B F1 ρ1 H1 x v->Post B (g x M1) F1 ρ1 H1 Q X->W v H1):TL B Φ E a σ H W:=by
 subst hX
 refine ⟨σD,M,F,ρ,S,r,ah.imp (ah.bind (rel:=ai B) h) fun v H1 ⟨x,M1,F1,ρ1,e,S1,rx,h1⟩=>?_⟩
 exact k x M1 F1 ρ1 H1 v e S1 (r.mono e) rx h1
theorem HR {i:Nat} (h:T B Φ E (.v i) σ H Q):Hx i σ H Q:=by
 obtain ⟨σD,M,F,ρ,S,r,h⟩:=h
 simp only [ev] at h
 split at h
 ·rename_i d hd
  obtain ⟨v,h1,h2⟩:=r.get _ _ hd
  exact ⟨v,h1,ah.run h S h2⟩
 ·exact h.elim
noncomputable def scl:D->Option V
 | .ao=>some .ao
 | .bl b=>some (.bl b)
 | .int i=>some (.int i)
 | .str x=>some (.str x)
 | _=>none
theorem DC {d:D} {v:V} (h:scl d=some v):RD B F ρ H d v:=by
 cases d <;> simp only [scl] at h <;> first | (cases h;simp only [RD]) | cases h
theorem rF {d:D} {v:V} (hv:scl d=some v) (h:T B Φ E (.k d) σ H Q):tC v σ H Q:=by
 obtain ⟨σD,M,F,ρ,S,r,h⟩:=h
 simp only [ev] at h
 exact ah.run h S (DC hv)
theorem dF {fz:Bool} {ds:List D} {vs:List V} {X:XK} (S:SR B F ρ M H) (h:Post B (bB fz ds M) F ρ H Q X) (r:ai B F ρ H ds vs):∀ p,H p=none->Q (.ref p) (upd H p (.lst vs)):=by
 intro p hp
 cases fz with
 | true =>
  simp only [bB,if_true] at h
  obtain ⟨S',e⟩:=S.fz hp (.lst vs)
  refine h _ _ _ _ e S' ?_
  simp only [RD]
  exact ⟨p,vs,rfl,.inl ⟨.inr rfl,.inl ay⟩,ai.mono e _ _ r⟩
 | false =>
  simp only [bB,Bool.false_eq_true,if_false] at h
  have e0:Ext F ρ H F (ρ++[p]) (upd H p (.lst vs)):=⟨⟨S.sep,fun _ q=>q,fun a q _=>aj (by rintro rfl;exact q hp),List.prefix_append _ _,fun a q=>by
   rcases List.mem_append.mp q with q | q
   ·exact .inl q
   ·rw [List.mem_singleton.mp q];exact .inr hp,fun _ q=>.inl q⟩,fun b w u q=>by rw [aj (by rintro rfl;rw [hp] at q;cases q)];exact q⟩
  obtain ⟨S',e⟩:=S.lv (o:=.lst vs) (u:=.lst ds) hp ⟨vs,ay,ai.mono e0 _ _ r⟩
  refine h _ _ _ _ e S' ?_
  simp only [RD]
  refine ⟨p,?_,rfl⟩
  rw [<- S.len,List.getElem?_append_right (Nat.le_refl _),Nat.sub_self];rfl
theorem je {ds:List D} {vs:List V} {X:XK} (S:SR B F ρ M H) (h:Post B (.ok (.tup ds) M) F ρ H Q X) (r:ai B F ρ H ds vs):∀ p,H p=none->Q (.ref p) (upd H p (.tup vs)):=by
 intro p hp
 obtain ⟨S',e⟩:=S.fz hp (.tup vs)
 refine h _ _ _ _ e S' ?_
 simp only [RD]
 exact ⟨p,vs,rfl,.inl ⟨.inr rfl,.inl ay⟩,ai.mono e _ _ r⟩
theorem zL {es:Es} (hz:∀ {σ:Sg} {M:MH} {ds M'},b6 Φ es σ M=.ok ds M'->ds.length<=sizeLine) (h:T B Φ E (.tup es) σ H Q):Hy (TL B Φ E es) σ H Q:=by
 obtain ⟨σD,M,F,ρ,S,r,h⟩:=h
 simp only [ev] at h
 refine ⟨σD,M,F,ρ,S,r,?_⟩
 cases hx:b6 Φ es σD M with
 | ok ds M1 =>
  rw [hx] at h
  intro F1 ρ1 H1 vs e S1 rv
  refine ⟨by rw [<- ai.length rv];exact hz hx,je (X:=fun cv x H'=>E.e cv x σ H') S1 (ah.weak e h) rv⟩
 | exc c M1=>rw [hx] at h;exact h
 | bad=>rw [hx] at h;exact h
theorem zU {fz:Bool} {es:Es} (hz:∀ {σ:Sg} {M:MH} {ds M'},b6 Φ es σ M=.ok ds M'->ds.length<=sizeLine) (h:T B Φ E (.lst fz es) σ H Q):HE (TL B Φ E es) σ H Q:=by
 obtain ⟨σD,M,F,ρ,S,r,h⟩:=h
 simp only [ev] at h
 refine ⟨σD,M,F,ρ,S,r,?_⟩
 cases hx:b6 Φ es σD M with
 | ok ds M1 =>
  rw [hx] at h
  intro F1 ρ1 H1 vs e S1 rv
  refine ⟨by rw [<- ai.length rv];exact hz hx,dF (X:=fun cv x H'=>E.e cv x σ H') S1 (ah.weak e h) rv⟩
 | exc c M1=>rw [hx] at h;exact h
 | bad=>rw [hx] at h;exact h
theorem gC {Q:List V->Hp->Prop} (h:TL B Φ E .nil σ H Q):g9 σ H Q:=by
 obtain ⟨σD,M,F,ρ,S,r,h⟩:=h
 simp only [b6] at h
 exact ah.run h S ai.nil
theorem vO {e:Fg.E} {es:Es} {Q:List V->Hp->Prop} (h:TL B Φ E (.cons e es) σ H Q):cF (T B Φ E e) (TL B Φ E es) σ H Q:=by
 obtain ⟨σD,M,F,ρ,S,r,h⟩:=h
 simp only [b6] at h
 refine ⟨σD,M,F,ρ,S,r,ah.imp (ah.bind (rel:=RD B) h) fun v H1 ⟨x,M1,F1,ρ1,e1,S1,rx,h1⟩=>?_⟩
 refine ⟨σD,M1,F1,ρ1,S1,r.mono e1,ah.imp (ah.bind (rel:=ai B) h1) fun vs H2 ⟨xs,M2,F2,ρ2,e2,S2,rxs,h2⟩=>?_⟩
 exact ah.run h2 S2 (ai.cons (RD.mono e2 _ _ rx) rxs)
theorem rL {a b:Fg.E} (h:T B Φ E (.and a b) σ H Q):B8 (T B Φ E a) (T B Φ E b) σ H Q:=by
 obtain ⟨σD,M,F,ρ,S,r,h⟩:=h
 simp only [ev] at h
 refine T.one S r rfl h fun x M1 F1 ρ1 H1 v e1 S1 r1 rx h1=>?_
 split at h1
 ·simp only [RD] at rx;subst rx
  exact ⟨true,rfl,by rw [if_pos rfl];exact ⟨σD,M1,F1,ρ1,S1,r1,h1⟩⟩
 ·simp only [RD] at rx;subst rx
  exact ⟨false,rfl,by rw [if_neg Bool.false_ne_true];exact ah.run h1 S1 (by simp only [RD])⟩
 ·exact h1.elim
theorem vN {a b:Fg.E} (h:T B Φ E (.or a b) σ H Q):HC (T B Φ E a) (T B Φ E b) σ H Q:=by
 obtain ⟨σD,M,F,ρ,S,r,h⟩:=h
 simp only [ev] at h
 refine T.one S r rfl h fun x M1 F1 ρ1 H1 v e1 S1 r1 rx h1=>?_
 split at h1
 ·simp only [RD] at rx;subst rx
  exact ⟨true,rfl,by rw [if_pos rfl];exact ah.run h1 S1 (by simp only [RD])⟩
 ·simp only [RD] at rx;subst rx
  exact ⟨false,rfl,by rw [if_neg Bool.false_ne_true];exact ⟨σD,M1,F1,ρ1,S1,r1,h1⟩⟩
 ·exact h1.elim
theorem rC {a:Fg.E} (h:T B Φ E (.not a) σ H Q):B5 (T B Φ E a) σ H Q:=by
 obtain ⟨σD,M,F,ρ,S,r,h⟩:=h
 simp only [ev] at h
 refine T.one S r rfl h fun x M1 F1 ρ1 H1 v e1 S1 r1 rx h1=>?_
 split at h1
 ·simp only [RD] at rx;subst rx
  exact ⟨_,rfl,ah.run h1 S1 (by simp only [RD])⟩
 ·exact h1.elim
theorem vQ {a b:Fg.E} {Q:Bool->Hp->Prop} (h:TB B Φ E (.and a b) σ H Q):HK (TB B Φ E a) (TB B Φ E b) σ H Q:=by
 have h':=rL h
 obtain ⟨σD,M,F,ρ,S,r,h⟩:=h'
 refine ⟨σD,M,F,ρ,S,r,ah.imp h fun v H' ⟨c,e,q⟩=>⟨c,e,?_⟩⟩
 cases c with
 | true=>rw [if_pos rfl] at q ⊢;exact q
 | false=>rw [if_neg Bool.false_ne_true] at q ⊢;obtain ⟨b,e,q⟩:=q;cases e;exact q
theorem Ab {a b:Fg.E} {Q:Bool->Hp->Prop} (h:TB B Φ E (.or a b) σ H Q):tOr (TB B Φ E a) (TB B Φ E b) σ H Q:=by
 have h':=vN h
 obtain ⟨σD,M,F,ρ,S,r,h⟩:=h'
 refine ⟨σD,M,F,ρ,S,r,ah.imp h fun v H' ⟨c,e,q⟩=>⟨c,e,?_⟩⟩
 cases c with
 | true=>rw [if_pos rfl] at q ⊢;obtain ⟨b,e,q⟩:=q;cases e;exact q
 | false=>rw [if_neg Bool.false_ne_true] at q ⊢;exact q
theorem vP {a:Fg.E} {Q:Bool->Hp->Prop} (h:TB B Φ E (.not a) σ H Q):HD (TB B Φ E a) σ H Q:=by
 have h':=rC h
 obtain ⟨σD,M,F,ρ,S,r,h⟩:=h'
 refine ⟨σD,M,F,ρ,S,r,ah.imp h fun v H' ⟨c,e,q⟩=>⟨c,e,?_⟩⟩
 obtain ⟨b,e,q⟩:=q;cases e;exact q
theorem zY {c a b:Fg.E} (h:T B Φ E (.A7 c a b) σ H Q):tIf (TB B Φ E c) (T B Φ E a) (T B Φ E b) σ H Q:=by
 obtain ⟨σD,M,F,ρ,S,r,h⟩:=h
 simp only [ev] at h
 refine T.one S r rfl h fun x M1 F1 ρ1 H1 v e1 S1 r1 rx h1=>?_
 split at h1
 ·simp only [RD] at rx;subst rx
  exact ⟨true,rfl,by dsimp only;rw [if_pos rfl];exact ⟨σD,M1,F1,ρ1,S1,r1,h1⟩⟩
 ·simp only [RD] at rx;subst rx
  exact ⟨false,rfl,by dsimp only;rw [if_neg Bool.false_ne_true];exact ⟨σD,M1,F1,ρ1,S1,r1,h1⟩⟩
 ·exact h1.elim
theorem aW {d:D} {v:V} {ds:List D} (S:SR B F ρ M H) (r:RD B F ρ H d v) (h:vw M d=.lst ds):∃ a vs,v=.ref a/\eV B.K H a vs/\ai B F ρ H ds vs:=by
 cases d with
 | lst xs=>simp only [vw] at h;cases h;simp only [RD] at r;obtain ⟨a,vs,e,z,q⟩:=r;exact ⟨a,vs,e,z.sq,q⟩
 | ref n =>
  simp only [vw] at h
  split at h
  ·rename_i xs hx
   cases h
   simp only [RD] at r
   obtain ⟨a,h1,h2⟩:=r
   obtain ⟨vs,h3,h4⟩:=S.obj n a _ h1 hx
   exact ⟨a,vs,h2,.inl (.inl h3),h4⟩
  ·cases h
  ·cases h
  ·cases h
 | _=>simp only [vw] at h;cases h
theorem g8 {d:D} {v:V} {ds:List D} (S:SR B F ρ M H) (r:RD B F ρ H d v) (h:vw M d=.tup ds):∃ a vs,v=.ref a/\gr B.K H a vs/\ai B F ρ H ds vs:=by
 cases d with
 | tup xs=>simp only [vw] at h;cases h;simp only [RD] at r;obtain ⟨a,vs,e,z,q⟩:=r;exact ⟨a,vs,e,z.sq,q⟩
 | ref n =>
  simp only [vw] at h
  split at h <;> cases h
 | _=>simp only [vw] at h;cases h
noncomputable def GK (B:Bd) (H:Hp) (a:Addr) (kvs:List (Key×V)):Prop:=Rd H a (.dK kvs)\/B.dk a kvs
theorem nj {α β:Type}:∀ (ks:List α) (ds:List β),ks.length=ds.length->(ks.zip ds).map (·.1)=ks/\(ks.zip ds).map (·.2)=ds
 | [],[],_=>⟨rfl,rfl⟩
 | k::ks,d::ds,h=>by
  obtain ⟨a,b⟩:=nj ks ds (by simpa using h)
  simp only [List.zip_cons_cons,List.map_cons,a,b,and_self]
 | [],_::_,h=>by simp at h
 | _::_,[],h=>by simp at h
theorem lE {d:D} {v:V} {bY:List (Ky×D)} (S:SR B F ρ M H) (r:RD B F ρ H d v) (h:vw M d=.dct bY):∃ a kvs,v=.ref a/\GK B H a kvs/\kvs.map (·.1)=bY.map (·.1)/\ai B F ρ H (bY.map (·.2)) (kvs.map (·.2)):=by
 cases d with
 | dct ks ds =>
  simp only [vw] at h;cases h;simp only [RD] at r
  obtain ⟨a,kvs,e,z,q1,q2⟩:=r
  have hl:ks.length=ds.length:=by rw [<- q1,List.length_map,ai.length q2,List.length_map]
  obtain ⟨z1,z2⟩:=nj ks ds hl
  refine ⟨a,kvs,e,?_,by rw [q1,z1],by rw [z2];exact q2⟩
  rcases z with ⟨_,z⟩ | z
  ·exact .inl z
  ·exact .inr z
 | ref n =>
  simp only [vw] at h
  split at h
  ·cases h
  ·rename_i xs hx
   cases h
   simp only [RD] at r
   obtain ⟨a,h1,h2⟩:=r
   obtain ⟨kws,h3,h4,h5⟩:=S.obj n a _ h1 hx
   exact ⟨a,kws,h2,.inl (.inl h3),h4,h5⟩
  ·rename_i xs hx
   cases h
   simp only [RD] at r
   obtain ⟨a,h1,h2⟩:=r
   obtain ⟨o,kws,h3,h4,h5⟩:=S.obj n a _ h1 hx
   exact ⟨a,kws,h2,.inl (.inr ⟨o,h3⟩),h4,h5⟩
  ·cases h
 | _=>simp only [vw] at h;cases h
theorem jH {k:Key}:∀ {bY:List (Ky×D)} {kvs:List (Key×V)},kvs.map (·.1)=bY.map (·.1)->ai B F ρ H (bY.map (·.2)) (kvs.map (·.2)) ->
  (∀ d,look bY k=some d->∃ v,cy kvs k=some v/\RD B F ρ H d v)/\(look bY k=none->cy kvs k=none)/\((look bY k).isSome=(cy kvs k).isSome)
 | [],kvs,h1,h2=>by
  have:kvs=[]:=by cases kvs with | nil=>rfl | cons _ _=>simp at h1
  subst this
  exact ⟨fun d h=>by simp [look] at h,fun _=>by simp [cy],by simp [look,cy]⟩
 | (k', d')::bY, kvs, h1, h2=>by
  cases kvs with
  | nil=>simp at h1
  | cons p kvs =>
   obtain ⟨pk,pv⟩:=p
   simp only [List.map_cons,List.cons.injEq] at h1
   simp only [List.map_cons,ai] at h2
   obtain ⟨v,ws,e,r1,r2⟩:=h2
   cases e
   obtain ⟨e1,e2⟩:=h1
   subst e1
   have ih:=jH (k:=k) e2 r2
   by_cases hk:pk=k
   ·subst hk
    simp only [look,cy,List.find?_cons,decide_true]
    exact ⟨fun d h=>by cases h;exact ⟨_,rfl,r1⟩,fun h=>by simp at h,rfl⟩
   ·have hkd:decide (pk=k)=false:=decide_eq_false hk
    simp only [look,cy,List.find?_cons,hkd] at ih ⊢
    exact ih
theorem nH {i:Int} (h:small i=true):-(2 ^ 64)<i/\i<2 ^ 64:=by
 simp only [small,decide_eq_true_eq] at h
 omega
noncomputable def KD (i j:Int):Prop:=i.natAbs<10 ^ 200/\j.natAbs<10 ^ 200
noncomputable def rStr:R2:=fun x y H Q=>∃ i j,x=.str i/\y=.str j/\i.length+j.length<=sizeLine/\Q (.str (i++j)) H
noncomputable def Cp (K:W.Frag):R2:=fun x y H Q=>∃ l b xs zs,x=.ref l/\y=.ref b/\eV K H l xs/\eV K H b zs/\xs.length+zs.length<=sizeLine/\∀ p,H p=none->Q (.ref p) (upd H p (.lst (xs++zs)))
noncomputable def Cm (K:W.Frag):R2:=fun x y H Q=>∃ (l:Addr) (xs:List V) (k:Int),x=.ref l/\y=.int k/\eV K H l xs/\xs.length*k.toNat<=sizeLine/\k.natAbs<=1000000/\∀ p,H p=none->Q (.ref p) (upd H p (.lst (List.replicate k.toNat xs).flatten))
noncomputable def Ih (K:W.Frag):BP->R2
 | .add=>fun x y H Q=>pT (fun i j=>.int (i+j)) x y H Q\/(rStr x y H Q\/(Cp K x y H Q\/Co K x y H Q))
 | .sub=>pT fun i j=>.int (i-j)
 | .mul=>fun x y H Q=>rI BW (fun i j=>.int (i*j)) x y H Q\/(rI KD (fun i j=>.int (i*j)) x y H Q\/Cm K x y H Q)
 | .fdiv=>rI KG fun i j=>.int (i / j)
 | .mod=>rI (fun _ j=>0<j) fun i j=>.int (i % j)
 | .pow=>rI KC fun i j=>.int (i ^ j.toNat)
theorem bD:line<=sizeLine:=by decide
theorem ai.rep {ds:List D} {vs:List V} (r:ai B F ρ H ds vs):∀ k:Nat,ai B F ρ H (List.replicate k ds).flatten (List.replicate k vs).flatten
 | 0=>ai.nil
 | k+1=>by
  rw [List.replicate_succ,List.replicate_succ,List.flatten_cons,List.flatten_cons]
  exact r.append (ai.rep r k)
theorem AJ {o:BP} {fz:Bool} {x y:D} {v w:V} {X:XK} (S:SR B F ρ M H) (rx:RD B F ρ H x v) (ry:RD B F ρ H y w) (h:Post B (m9 o fz M x y) F ρ H Q X):Ih B.K o v w H Q:=by
 unfold m9 at h
 split at h
 ·rename_i i j
  simp only [RD] at rx ry
  subst rx ry
  cases o with
  | add=>simp only [c9] at h;exact .inl ⟨i,j,rfl,rfl,ah.run h S (by simp only [RD])⟩
  | sub=>simp only [c9] at h;exact ⟨i,j,rfl,rfl,ah.run h S (by simp only [RD])⟩
  | mul =>
   simp only [c9] at h
   split at h
   ·rename_i k hk
    split at hk
    ·rename_i hs
     cases hk
     refine .inl ⟨i,j,rfl,rfl,?_,ah.run h S (by simp only [RD])⟩
     simp only [Bool.or_eq_true] at hs
     rcases hs with hs | hs
     ·exact .inl (nH hs)
     ·exact .inr (nH hs)
    ·split at hk
     ·rename_i hs
      cases hk
      simp only [mid,Bool.and_eq_true,decide_eq_true_eq] at hs
      exact .inr (.inl ⟨i,j,rfl,rfl,hs,ah.run h S (by simp only [RD])⟩)
     ·cases hk
   ·exact h.elim
  | fdiv =>
   simp only [c9] at h
   split at h
   ·rename_i k hk
    split at hk
    ·rename_i hs
     cases hk
     simp only [Bool.and_eq_true,decide_eq_true_eq] at hs
     exact ⟨i,j,rfl,rfl,⟨hs.1,by have:=hs.2;omega⟩,ah.run h S (by simp only [RD])⟩
    ·cases hk
   ·exact h.elim
  | mod =>
   simp only [c9] at h
   split at h
   ·rename_i k hk
    split at hk
    ·rename_i hs
     cases hk
     exact ⟨i,j,rfl,rfl,of_decide_eq_true hs,ah.run h S (by simp only [RD])⟩
    ·cases hk
   ·exact h.elim
  | pow =>
   simp only [c9] at h
   split at h
   ·rename_i k hk
    split at hk
    ·rename_i hs
     cases hk
     simp only [Bool.and_eq_true,decide_eq_true_eq] at hs
     exact ⟨i,j,rfl,rfl,⟨hs.1,hs.2.1,hs.2.2⟩,ah.run h S (by simp only [RD])⟩
    ·cases hk
   ·exact h.elim
 ·rename_i a b
  simp only [RD] at rx ry
  subst rx ry
  cases o with
  | add =>
   simp only at h
   split at h
   ·rename_i hl
    exact .inr (.inl ⟨a,b,rfl,rfl,Nat.le_trans (of_decide_eq_true hl) bD,ah.run h S (by simp only [RD])⟩)
   ·exact h.elim
  | sub=>exact h.elim
  | mul=>exact h.elim
  | fdiv=>exact h.elim
  | mod=>exact h.elim
  | pow=>exact h.elim
 ·cases o with
  | add =>
   simp only at h
   split at h
   ·rename_i xs ys hx hy
    split at h
    ·rename_i hl
     obtain ⟨a,vs,rfl,q1,r1⟩:=aW S rx hx
     obtain ⟨b,ws,rfl,q2,r2⟩:=aW S ry hy
     refine .inr (.inr (.inl ⟨a,b,vs,ws,rfl,rfl,q1,q2,?_,dF S h (r1.append r2)⟩))
     rw [<- ai.length r1,<- ai.length r2]
     exact Nat.le_trans (of_decide_eq_true hl) bD
    ·exact h.elim
   ·rename_i xs ys hx hy
    split at h
    ·rename_i hl
     simp only [Bool.and_eq_true,Bool.not_eq_true',decide_eq_true_eq] at hl
     cases x with
     | tup xs' =>
      simp only [vw] at hx;cases hx
      simp only [RD] at rx
      obtain ⟨a,vs,rfl,z1,r1⟩:=rx
      obtain ⟨b,ws,rfl,q2,r2⟩:=g8 S ry hy
      refine .inr (.inr (.inr ⟨a,b,vs,ws,rfl,rfl,z1.sq,q2,?_,?_,fun e=>?_,fun _=>je S h (r1.append r2)⟩))
      ·rintro rfl
       have:=ai.length r1
       cases xs with
       | nil=>simp at hl
       | cons _ _=>simp at this
      ·rw [<- ai.length r1,<- ai.length r2]
       exact Nat.le_trans hl.2 bD
      ·refine ah.run h S ?_
       simp only [RD]
       refine ⟨a,vs,rfl,z1,?_⟩
       have:=r1.append r2
       rw [e,List.append_nil] at this
       exact this
     | ref n=>simp only [vw] at hx;split at hx <;> cases hx
     | _=>simp only [vw] at hx;cases hx
    ·exact h.elim
   ·exact h.elim
  | sub=>exact h.elim
  | mul =>
   simp only at h
   split at h
   ·rename_i xs k hx _ _
    split at h
    ·rename_i hl
     simp only [Bool.and_eq_true,decide_eq_true_eq] at hl
     obtain ⟨a,vs,rfl,q1,r1⟩:=aW S rx (by assumption)
     simp only [RD] at ry
     subst ry
     refine .inr (.inr ⟨a,vs,k,rfl,rfl,q1,?_,hl.2,dF S h (ai.rep r1 _)⟩)
     rw [<- ai.length r1]
     exact Nat.le_trans hl.1 bD
    ·exact h.elim
   ·exact h.elim
  | fdiv=>exact h.elim
  | mod=>exact h.elim
  | pow=>exact h.elim
theorem Dv {o:BP} {fz:Bool} {a b:Fg.E} (h:T B Φ E (.op o fz a b) σ H Q):Di (Ih B.K o) (T B Φ E a) (T B Φ E b) σ H Q:=by
 obtain ⟨σD,M,F,ρ,S,r,h⟩:=h
 simp only [ev] at h
 exact T.two S r rfl h fun x y M2 F2 ρ2 H2 v w S2 _ rx ry h2=>AJ S2 rx ry h2
theorem zQ {a:Fg.E} (h:T B Φ E (.neg a) σ H Q):tUn (rU fun i=>.int (-i)) (T B Φ E a) σ H Q:=by
 obtain ⟨σD,M,F,ρ,S,r,h⟩:=h
 simp only [ev] at h
 refine T.one S r rfl h fun x M1 F1 ρ1 H1 v e1 S1 r1 rx h1=>?_
 split at h1
 ·simp only [RD] at rx;subst rx
  exact ⟨_,rfl,ah.run h1 S1 (by simp only [RD])⟩
 ·exact h1.elim
end
end Fg
end
section
namespace Fg
open PySem PySem.Spec L2
noncomputable def Up (B:Heap) (l:List Env) (a:Addr) (C a0:Value) (h:Heap):Prop:=B.StaysIn h/\B.get? a=none/\h.FunFrames B l/\∃ fl,h.TracedAtW B a C a0 fl
theorem Up.EI {B h:Heap} {l:List Env} {a:Addr} {C a0:Value} (x:Heap.FlyingW B l a C a0 h):Up B l a C a0 h:=⟨x.1,x.2.1,x.2.2.1,_,x.2.2.2.at⟩
theorem Up.se {B h:Heap} {l:List Env} {a L:Addr} {C a0:Value} (x:Heap.HeldW B l a C a0 L h):Up B l a C a0 h:=⟨x.1,x.2.1,x.2.2.1,_,x.2.2.2⟩
theorem lU {e:Value} {env env':Env} (h:env.frame=env'.frame):noteFrame e env=noteFrame e env':=by
 unfold noteFrame frameOf
 rw [h]
section
variable {M:Model} {A:Around} {E:Value->Shared->Prop} {s:Shared} {B:Heap} {env:Env} {outer:List Env} {L a:Addr} {C a0:Value}
theorem Up.note {Q:Unit->Shared->Prop} (hfr:A.frames=some (env::outer)) (hf:env.frame=some L) (up:Up B (env::outer) a C a0 s.heap) (k:∀ h',Heap.HeldW B (env::outer) a C a0 L h'->s.heap.UpToSlots h'->Q () { s with heap:=h' }) :
  wpAny M A (noteFrame (.ref a) env) Q E s:=by
 obtain ⟨st,ne,hl,fl,oe,vs,T,oT,ts,q1,⟨q2,Cq⟩,q3,q4,q5,q6,q7,q8,q9⟩:=up
 by_cases same:(fl == rawInt L)=true
 ·have e:fl=rawInt L:=by simpa using same
  subst e
  exact wpAny_noteFrame_againW hf ⟨oe,vs,T,oT,ts,q1,⟨q2,Cq⟩,q3,q4,q5,q6,q7,q8,q9⟩ (k s.heap ⟨st,ne,hl,oe,vs,T,oT,ts,q1,⟨q2,Cq⟩,q3,q4,q5,q6,q7,q8,q9⟩ (Heap.UpToSlots.refl _))
 ·subst q2
  unfold noteFrame
  simp only [hf]
  refine wpAny_bind (wpAny_field q1 q3 q4 ?_)
  rw [if_pos (by simp)]
  refine wpAny_bind (wpAny_field q7 q8 q9 ?_)
  rw [if_neg same]
  refine wpAny_bind (wpAny_setField q7 q8 (Array.getElem?_eq_some_iff.mp q9).1 ?_)
  have r6:∀ b,b≠T->(s.heap.update T (Obj.mapFields (·.setIfInBounds 3 Value.none))).get? b=s.heap.get? b:=fun b hb=>Heap.get?_update_other _ _ fun z=>hb z.symm
  have nW:∀ b o,s.heap.get? b=some o->(∀ vs,o.data≠.fields vs)->b≠T:=fun b o hb hn z=>by
   subst z;rw [q7] at hb;cases hb;exact hn ts q8
  refine wpAny_entryW (base:=B) (a0:=a0) hfr ?_ hf ?_ ?_ ne q3 (Array.getElem?_eq_some_iff.mp q4).1 Cq fun h' nw=>?_
  ·exact hl.of_keeps fun b o hb hn=>⟨o,by rw [r6 b (nW b o hb hn),hb],rfl⟩
  ·rw [r6 a fun z=>q6 z.symm];exact q1
  ·intro b o e
   rw [r6 b (by rintro rfl;rw [q5] at e;cases e)]
   exact st b o e
  ·obtain ⟨x1,x2,x3,x4⟩:=nw
   exact k h' ⟨x1,ne,x2,x3⟩ fun b o hb hn=>x4 b o (by rw [r6 b (nW b o hb hn),hb]) hn
theorem Up.leave {Q:Unit->Shared->Prop} (hfr:A.frames=some (env::outer)) (hf:env.frame=some L) (up:Up B (env::outer) a C a0 s.heap) (k:∀ h',Heap.FlyingW B outer a C a0 h'->s.heap.UpToSlots h'->Q () { s with heap:=h' }) :
  wpAny M A (leaving env (.ref a)) Q E s :=
 wpAny_bind (up.note hfr hf fun h4 held vH=>wpAny_landsW held fun h5 fl zH=>k h5 ⟨fl.1,fl.2.1,fl.2.2.1.2.2,fl.2.2.2⟩ (vH.trans zH))
end
end Fg
end
section
namespace Fg
open PySem PySem.Spec L2
open PyProof.Rows (AllBare envOfC)
theorem kJ {P:Program} {w:World} {H:Hp} {h:Heap} {a:Addr} {o:HO} (x:aP P w H h a o):∃ ob,h.get? a=some ob:=by
 cases o with
 | lst xs=>obtain ⟨_,_,_,_,e⟩:=x;exact ⟨_,e⟩
 | tup xs=>obtain ⟨_,_,_,_,e,_⟩:=x;exact ⟨_,e⟩
 | dK kvs=>obtain ⟨_,_,_,_,o,_,_,e,_⟩:=x;exact ⟨_,e⟩
 | dT kvs=>obtain ⟨_,_,_,_,o,_,_,e,_⟩:=x;exact ⟨_,e⟩
 | set S n=>obtain ⟨o,_,_,_,e,_⟩:=x;exact ⟨_,e⟩
 | ins C dx fs=>obtain ⟨_,_,_,e,_⟩:=x;exact ⟨_,e⟩
 | own y=>obtain ⟨_,e⟩:=x;exact ⟨_,e⟩
 | xd fs=>obtain ⟨_,⟨_,_,_,e,_⟩,_⟩:=x;exact ⟨_,e⟩
 | Cf lo hi=>obtain ⟨_,_,_,e⟩:=x;exact ⟨_,e⟩
 | fJ ob u=>obtain ⟨e,_⟩:=x;exact ⟨_,e⟩
 | B3 ps=>exact ⟨_,(show h.get? a=some _ from x)⟩
 | met f y=>exact ⟨_,(show h.get? a=some _ from x)⟩
 | ext φ=>obtain ⟨_,⟨_,e⟩,_⟩:=x;exact ⟨_,e⟩
noncomputable def Calm (B:Heap) (fr ex:List Addr) (H:Hp) (h₀:Heap):Prop:=∀ b,(H b≠none\/(∃ o,h₀.get? b=some o)/\b∉ex)->b∉fr->∃ o,B.get? b=some o
theorem Calm.at {B h:Heap} {fr ex:List Addr} {H:Hp} {h₀:Heap} (c:Calm B fr ex H h₀) (st:B.StaysIn h) {b:Addr} {o:Obj} (e:h.get? b=some o) (q:H b≠none\/(∃ o,h₀.get? b=some o)/\b∉ex) (hf:b∉fr):B.get? b=some o:=by
 obtain ⟨o',e'⟩:=c b q hf
 have:=st _ _ e'
 rw [e] at this;cases this
 exact e'
noncomputable def eW (P:Program) (w:World):yS:=fun outer H s E e s'=>∃ (H':Hp) (a:Addr) (a0 C:Value) (B:Heap),e=.ref a/\s'.os=s.os/\AllBare s'.gens/\Un (frs outer) [] H H' s.heap s'.heap/\fR P w H' s'.heap /\
 Heap.FlyingW B outer a C a0 s'.heap/\Calm B (frs outer) [] H' s.heap/\E C none H'
noncomputable def g7 (X:Cx) (E:XS) (e:Value) (s:Shared):Prop:=∃ (pins:List (Addr×Obj)) (σ:St) (H:Hp) (a:Addr) (a0 C:Value) (B:Heap),e=.ref a/\Inv X pins σ H s /\
 Up B X.stack a C a0 s.heap/\Calm B (frs X.stack) X.ex H X.s₀.heap/\(∀ p∈X.pn,B.get? p.1=some p.2)/\E C none σ H
noncomputable def C6 (X:Cx) (E:XS) (e:Value) (s:Shared):Prop:=∃ (pins:List (Addr×Obj)) (σ:St) (H:Hp) (a:Addr) (C:Value) (vs:List Value) (h:Heap),e=.ref a/\Inv X pins σ H { s with heap:=h }/\Heap.MadeExcOf h s.heap a C vs/\E C none σ H
theorem mC {fs fr ex:List Addr} {H₀ H H₁:Hp} {h₀ h h' B:Heap} (u:Un fs ex H₀ H h₀ h) (dU:Calm B fr ex H₁ h₀) (iZ:B.StaysIn h) (st:B.StaysIn h') (sm:∀ b∈fr,∀ o,h.get? b=some o->∃ sl,h'.get? b=some { o with slots:=sl })
  (frd:∀ b∈fr,b<h₀.objs.size->b∈fs):Un fs ex H₀ H h₀ h' where
 keep:=fun b o e n0 hb hx=>st _ _ (dU.at iZ (u.keep b o e n0 hb hx) (.inr ⟨⟨_,e⟩,hx⟩) fun z=>hb (frd b z (Heap.lt_size e)))
 slot:=fun b o e n0 hb hx=>by
  obtain ⟨sl,e1⟩:=u.slot b o e n0 hb hx
  by_cases z:b∈fr
  ·obtain ⟨Cb,e2⟩:=sm b z _ e1
   exact ⟨Cb,e2⟩
  ·exact ⟨sl,st _ _ (dU.at iZ e1 (.inr ⟨⟨_,e⟩,hx⟩) z)⟩
 free:=u.free
 there:=fun b o e hx=>by
  obtain ⟨o',e1⟩:=u.there b o e hx
  by_cases z:b∈fr
  ·obtain ⟨Cb,e2⟩:=sm b z _ e1
   exact ⟨_,e2⟩
  ·exact ⟨_,st _ _ (dU.at iZ e1 (.inr ⟨⟨_,e⟩,hx⟩) z)⟩
 tups:=u.tups
 eT:=u.eT
 fL:=u.fL
theorem jk {P:Program} {w:World} {fr ex:List Addr} {H:Hp} {h₀ h h' B:Heap} (k:fR P w H h) (dU:Calm B fr ex H h₀) (iZ:B.StaysIn h) (st:B.StaysIn h') (free:∀ b∈fr,H b=none):fR P w H h':=fun a o e =>
 (k a o e).stay (fun b u hb e'=>by
  have tr:H b≠none:=by
   rcases hb with rfl | hb
   ·rw [e];simp
   ·rw [hb];simp
  exact st _ _ (dU.at iZ e' (.inl tr) fun z=>tr (free b z))) (fun _ q=>q) fun _ _ q=>q
section
variable {X:Cx} {pins:List (Addr×Obj)} {σ:St} {H:Hp} {s:Shared}
theorem jQ (I:Inv X pins σ H s):∀ b∈frs X.stack,∀ o,s.heap.get? b=some o->∀ vs,o.data≠.fields vs:=fun b hb o e vs=>by
 obtain ⟨_,o',e',d⟩:=I.stack.mem hb
 rw [e] at e';cases e'
 exact d vs
theorem qq {h':Heap} (I:Inv X pins σ H s) (sm:s.heap.UpToSlots h'):∀ b∈frs X.stack,∀ o,s.heap.get? b=some o->∃ sl,h'.get? b=some { o with slots:=sl }:=fun b hb o e=>sm b o e (jQ I b hb o e)
theorem mz (I:Inv X pins σ H s):∀ b∈frs X.stack,b<X.s₀.heap.objs.size->b∈X.fs:=fun b hb hl=>by
 rcases List.mem_cons.mp (I.d8 b hb) with e | z
 ·subst e;exact absurd (Nat.lt_of_lt_of_le hl I.ok.above) (Nat.lt_irrefl _)
 ·exact z
theorem fG (I:Inv X pins σ H s) {b:Addr} {o:Obj} (e:X.s₀.heap.get? b=some o) (hx:b∉X.ex):∃ o',s.heap.get? b=some o':=I.base.there b o e hx
theorem passes {E:XS} (hx:∀ e s,g7 X E e s->X.xe e s) (pins:List (Addr×Obj)) (σ:St) (H:Hp) (s:Shared) (e:Value) (s':Shared) (I:Inv X pins σ H s) (q:eW X.prog X.w X.stack H s (fun cv x H'=>E cv x σ H') e s'):X.xe e s':=by
 obtain ⟨H',a,a0,C,B,rfl,os,bare,un,hok,fl,dU,q⟩:=q
 have I':=I.yx (ch:=[]) os un hok bare (fun b z=>absurd z (by simp))
 refine hx _ _ ⟨pins,σ,H',a,a0,C,B,rfl,I',.EI fl,fun b hb hf=>dU b (hb.imp id fun ⟨⟨o,z⟩,n⟩=>⟨fG I z n,by simp⟩) hf,fun p hp=>?_,q⟩
 obtain ⟨p1,p2,p3,p4,_⟩:=I'.pin p (List.mem_append_left _ hp)
 refine dU.at fl.1 p1 (.inr ⟨⟨_,(I.pin p (List.mem_append_left _ hp)).1⟩,by simp⟩) fun z=>?_
 rcases List.mem_cons.mp (I.d8 _ z) with e | z
 ·exact p3 e
 ·exact p4 z
end
section
variable {P:Program} {w:World} {K:W.Frag} {mg:Str->Option Value} {base:Heap} {N:List Str} {qual:Str} {scope:Scope} {f:Addr} {cd:Value} {A:Around} {outer:List Env} {s:Shared} {H:Hp} {E:XK}
theorem oB (b:Addr) (h:b∈frs (envOfC qual scope s.heap.objs.size f cd::outer)):b=s.heap.objs.size\/b∈frs outer:=by
 unfold frs at h
 rw [List.filterMap_cons] at h
 exact List.mem_cons.mp h
theorem wU {pins:List (Addr×Obj)} {σ:St} {H':Hp} {s':Shared} {a:Addr} {a0 C:Value} {B h':Heap} (I:Inv (gX (eW P w) P w K mg base N qual scope f cd A outer s H E) pins σ H' s') (iZ:B.StaysIn s'.heap) (dU:Calm B (frs (envOfC qual scope s.heap.objs.size f cd::outer)) [] H' s.heap)
  (q:E C none H') (Bh:Heap.FlyingW B outer a C a0 h') (sm:s'.heap.UpToSlots h'):eW P w outer H s E (.ref a) { s' with heap:=h' }:=by
 refine ⟨H',a,a0,C,B,rfl,I.os,I.bare,mC I.base dU iZ Bh.1 (qq I sm) (mz I),jk I.hok dU iZ Bh.1 I.fE,Bh,fun b hb hf=>dU b hb fun z=>?_,q⟩
 rcases oB b z with e | z
 ·subst e
  rcases hb with hb | ⟨⟨o,hb⟩,_⟩
  ·exact hb I.free
  ·exact absurd (Heap.lt_size hb) (Nat.lt_irrefl _)
 ·exact hf z
theorem uv (e:Value) (s':Shared) (q:g7 (gX (eW P w) P w K mg base N qual scope f cd A outer s H E) (fun cv x _ H'=>E cv x H') e s'):(gX (eW P w) P w K mg base N qual scope f cd A outer s H E).xe e s':=by
 obtain ⟨pins,σ,H',a,a0,C,B,rfl,I,up,dU,_,q⟩:=q
 exact up.leave (L:=s.heap.objs.size) I.ok.frames rfl fun h' Bh sm=>wU I up.1 dU q Bh sm
theorem leave_new (e:Value) (s':Shared) (q:C6 (gX (eW P w) P w K mg base N qual scope f cd A outer s H E) (fun cv x _ H'=>E cv x H') e s'):(gX (eW P w) P w K mg base N qual scope f cd A outer s H E).xe e s':=by
 obtain ⟨pins,σ,H',a,C,vs,h,rfl,I,made,q⟩:=q
 have hin:∀ env∈(envOfC qual scope s.heap.objs.size f cd::outer),∀ b,env.frame=some b->b∈frs (envOfC qual scope s.heap.objs.size f cd::outer):=fun env he b hb=>List.mem_filterMap.mpr ⟨env,he,hb⟩
 refine wpAny_leaves_madeW (base:=W.hideAll h (frs (envOfC qual scope s.heap.objs.size f cd::outer))) I.ok.frames rfl (fun b o q=>W.of_hideAll _ q) (W.funFrames_hide I.stack hin) made fun h' t Bh tup tn sm=>?_
 have iZ:(W.hideAll h (frs (envOfC qual scope s.heap.objs.size f cd::outer))).StaysIn h:=fun b o q=>W.of_hideAll _ q
 have dU:Calm (W.hideAll h (frs (envOfC qual scope s.heap.objs.size f cd::outer))) (frs (envOfC qual scope s.heap.objs.size f cd::outer)) [] H' s.heap:=fun b hb hf=>by
  have:∃ o,h.get? b=some o:=by
   rcases hb with hb | ⟨⟨o,hb⟩,_⟩
   ·cases e:H' b with
    | none=>exact absurd e hb
    | some o=>exact kJ (I.hok b o e)
   ·exact fG I hb (by simp [gX])
  obtain ⟨o,e⟩:=this
  exact ⟨o,W.hideAll_get _ e hf⟩
 have sm':h.UpToSlots h':=(Heap.UpToSlots.of_keeps made.keeps).trans sm
 refine ⟨H',a,_,C,_,rfl,I.os,I.bare,mC I.base dU iZ Bh.1 (qq I sm') (mz I),jk I.hok dU iZ Bh.1 I.fE,Bh,fun b hb hf=>dU b hb fun z=>?_,q⟩
 rcases oB b z with e | z
 ·subst e
  rcases hb with hb | ⟨⟨o,hb⟩,_⟩
  ·exact hb I.free
  ·exact absurd (Heap.lt_size hb) (Nat.lt_irrefl _)
 ·exact hf z
end
end Fg
end
section
namespace Fg
open PySem PySem.Spec L2
open PyProof.Rows (AllBare envOfC)
noncomputable def m6 (K:W.Frag) (C:Addr) (bmB:List Value) (newId:String) (bm:List Value):Prop :=
 ∃ nm q N bs hdct sn sub ab col dd k0 k1 k2 k3 k5, K.lookup C=some (excClassObj nm q C N bs bm hdct sn sub ab col dd k0 k1 k2 k3 k5 newId)/\W.nsOkIn K N=true/\W.nsIn K N "__init__" = some none/\W.tailIn K bmB bm=true
variable {X:Cx} {E:XS}
theorem nZ {x:Str} {C:Addr} {B newId initId:String} {bmB bm:List Value} {a:Expr} {t:TA} {np cpos pos:Pos} (hm:X.mg x=some (.ref C)) (hk:X.env.kindOf x=some .globalImplicit) (hd:(x == ("__debug__" : Str))=false)
  (EC:m6 X.K C bmB newId bm) (FB:ExcBaseFacts B newId initId bmB) (calm:X.calm=true) (hs:starEach [a] X.env=[(false,eval a X.env)]) (ha:PA X [a] t) (hx:∀ e s,C6 X E e s->X.xe e s) :
  PS X (.Raise (some (.Call (.Name x np) [a] [] cpos)) none pos) (fun D σ H=>t σ H fun vs H1=>vs.length<=sizeLine/\E (.ref C) none σ H1):=by
 obtain ⟨nm,q,N,bs,hdct,sn,sub,ab,col,dd,k0,k1,k2,k3,k5,lk,ok,ni,tl⟩:=EC
 intro pins s σ H D I ht
 have tail:∀ {h:Heap},X.K.In h->PySem.OwnTail h bmB bm:=fun KX=>W.tail_of_in KX tl
 refine wpAny_Raise_call_subT (C:=C) (nm:=nm) (q:=q) (N:=N) (bs:=bs) (bm:=bm) (hdct:=hdct) (sn:=sn) (sub:=sub) (ab:=ab) (col:=col) (dd:=dd) (k0:=k0) (k1:=k1) (k2:=k2) (k3:=k3) (k5:=k5) FB (mN:=X.base.nsMap N)
  ((tail I.fH).hasType FB.hasBase) (I.ok.hd calm) (by rw [hs];rfl) (W.nsMap_none_of_in I.mod.AY ok ni)
  (Calls.Name_function_global I.ok.kind hk (Calls.loadGlobal_global (by rw [I.ok.glob];exact I.mod.glob.keeps I.bk) hm ⟨rfl,?_⟩) hd)
 have z:=ha cpos pins s σ H _ I ht
 rw [hs] at z ⊢
 refine Calls.evalArgs_plain (aT z fun us s2 y=>?_)
 obtain ⟨vs,H1,I1,r,hl,q⟩:=y
 refine ⟨rfl,by rw [<- r.length];exact hl,I1.fH _ _ lk,(Heap.Ns.of_isNs (W.isNs_of_in I.mod.AY ok)).keeps I1.bk,tail I1.fH,fun h' e made=>hx _ _ ⟨pins,σ,H1,e,.ref C,us,s2.heap,rfl,I1,made,q⟩⟩
end Fg
end
section
namespace Fg
open PySem PySem.Spec L2
noncomputable abbrev gp (X:Cx) (pins:List (Addr×Obj)):Cx:={ X with pn:=X.pn++pins }
theorem qQ {X:Cx} {pins:List (Addr×Obj)} (ok:X.Ok):(gp X pins).Ok :=
 ⟨ok.mod,ok.kind,ok.glob,ok.blt,ok.above,ok.inj,ok.has,ok.CY,ok.hd,ok.frames,ok.stk,ok.JF,ok.bs,ok.uP,ok.n8,ok.qx,ok.fN,ok.xP⟩
theorem m7 {X:Cx} {pins:List (Addr×Obj)} (ok:(gp X pins).Ok):X.Ok :=
 ⟨ok.mod,ok.kind,ok.glob,ok.blt,ok.above,ok.inj,ok.has,ok.CY,ok.hd,ok.frames,ok.stk,ok.JF,ok.bs,ok.uP,ok.n8,ok.qx,ok.fN,ok.xP⟩
section
variable {X:Cx} {pins jC:List (Addr×Obj)} {σ:St} {H:Hp} {s:Shared}
theorem xC (I:Inv X pins σ H s):Inv (gp X pins) [] σ H s:=⟨qQ I.ok,I.os,I.bare,I.base,I.loc,I.cell,I.free,I.bF,fun p hp=>I.pin p (by simpa using hp),I.hok,I.len⟩
theorem eB (I:Inv (gp X pins) jC σ H s):Inv X pins σ H s:=⟨m7 I.ok,I.os,I.bare,I.base,I.loc,I.cell,I.free,I.bF,fun p hp=>I.pin p (List.mem_append_left _ hp),I.hok,I.len⟩
theorem kC {D:Ends} {f:Flow} {s':Shared} (h:SP (gp X pins) jC D f s'):SP X pins D f s':=by
 cases f with
 | next=>obtain ⟨σ',H',I,q⟩:=h;exact ⟨σ',H',eB I,q⟩
 | brk=>obtain ⟨σ',H',I,q⟩:=h;exact ⟨σ',H',eB I,q⟩
 | cont=>obtain ⟨σ',H',I,q⟩:=h;exact ⟨σ',H',eB I,q⟩
 | ret u=>obtain ⟨v,σ',H',I,r,q⟩:=h;exact ⟨v,σ',H',eB I,r,q⟩
theorem gJ {B h':Heap} (I:Inv X pins σ H s) (dU:Calm B (frs X.stack) X.ex H X.s₀.heap) (hp:∀ p∈X.pn,B.get? p.1=some p.2) (iZ:B.StaysIn s.heap) (st:B.StaysIn h') (sm:s.heap.UpToSlots h'):Inv X [] σ H { s with heap:=h' }:=by
 have cel:∀ c v,s.heap.IsCell c v->h'.IsCell c v:=fun c v ⟨o,e,d⟩=>by
  obtain ⟨sl,e'⟩:=sm c o e (fun vs z=>by rw [d] at z;cases z)
  exact ⟨_,e',d⟩
 refine ⟨I.ok,I.os,I.bare,mC I.base dU iZ st (qq I sm) (mz I),?_,fun x c e=>?_,I.free,I.bF,fun p q=>?_,jk I.hok dU iZ st I.fE,I.len⟩
 ·obtain ⟨m,hn,hv⟩:=I.loc
  refine ⟨m,sm.ns hn,fun i x v h1 h2 h3=>?_⟩
  obtain ⟨u,r,lk⟩:=hv i x v h1 h2 h3
  refine ⟨u,r,lk.imp id fun ⟨z,c,h4,h5⟩=>⟨z,c,h4,cel _ _ h5⟩⟩
 ·obtain ⟨v,h5⟩:=I.cell x c e
  exact ⟨v,cel _ _ h5⟩
 ·have q':p∈X.pn:=by simpa using q
  obtain ⟨_,p2⟩:=I.pin p (List.mem_append_left _ q')
  exact ⟨st _ _ (hp p q'),p2⟩
end
noncomputable abbrev suite (X:Cx) (e:Value):Cx:={ X with A:=X.A.mark (some e),calm:=false,xe:=fun _ _=>False }
section
variable {X:Cx} {pins jC:List (Addr×Obj)} {σ:St} {H:Hp} {s:Shared} {e:Value}
theorem vz (ok:X.Ok):(suite X e).Ok :=
 ⟨ok.mod,ok.kind,ok.glob,ok.blt,ok.above,ok.inj,ok.has,ok.CY,(fun z=>by cases z),ok.frames,ok.stk,ok.JF,ok.bs,ok.uP,ok.n8,ok.qx,ok.fN,ok.xP⟩
theorem kQ (I:Inv X pins σ H s):Inv (suite X e) pins σ H s:=⟨vz I.ok,I.os,I.bare,I.base,I.loc,I.cell,I.free,I.bF,I.pin,I.hok,I.len⟩
theorem bU (ok:X.Ok) (I:Inv (suite X e) pins σ H s):Inv X pins σ H s:=⟨ok,I.os,I.bare,I.base,I.loc,I.cell,I.free,I.bF,I.pin,I.hok,I.len⟩
theorem pJ (ok:X.Ok) {D:Ends} {f:Flow} {s':Shared} (h:SP (suite X e) pins D f s'):SP X pins D f s':=by
 cases f with
 | next=>obtain ⟨σ',H',I,q⟩:=h;exact ⟨σ',H',bU ok I,q⟩
 | brk=>obtain ⟨σ',H',I,q⟩:=h;exact ⟨σ',H',bU ok I,q⟩
 | cont=>obtain ⟨σ',H',I,q⟩:=h;exact ⟨σ',H',bU ok I,q⟩
 | ret u=>obtain ⟨v,σ',H',I,r,q⟩:=h;exact ⟨v,σ',H',bU ok I,r,q⟩
end
section
variable {M:Model} {A:Around} {E:Value->Shared->Prop} {nm q:Str} {C N:Addr} {bs bm:List Value} {hdct:Bool} {sn:List Str} {sub:List Value} {ab:Bool} {col:Option Bool} {dd:Option Addr} {k0 k1 k2 k3 k5:Option Value} {newId:String}
 {nm' q':Str} {C' N':Addr} {bs' bm':List Value} {xK:Bool} {sn':List Str} {sub':List Value} {ab':Bool} {col':Option Bool} {za:Option Addr} {l0 l1 l2 l3 l5:Option Value} {newId':String}
theorem iO {h:Heap} {g:Array GenState} {d:Drawn} {t:Nat} {os:OsState} {e:Addr} {oe:Obj} {b:Bool} {Q:Bool->Shared->Prop}
  (hC:h.get? C=some (excClassObj nm q C N bs bm hdct sn sub ab col dd k0 k1 k2 k3 k5 newId)) (hD:h.get? C'=some (excClassObj nm' q' C' N' bs' bm' xK sn' sub' ab' col' za l0 l1 l2 l3 l5 newId')) (he:h.get? e=some oe) (hcls:oe.cls=.ref C)
  (hb':(Value.ref C'::bm').contains (.type "BaseException")=true) (hb:(Value.ref C::bm).contains (.ref C')=b) (hq:Q b ⟨h, g, d, t, os⟩):wpAny M A (excMatches (.ref e) (.ref C')) Q E ⟨h, g, d, t, os⟩:=by
 have f:=tc_notTuple
 unfold excMatches
 repeat (first | (with_reducible refine wpAny_loadPart_at he ?_;rw [hcls]) | with_reducible refine wpAny_loadPart_at hD ?_ | (with_reducible refine wpAny_isSubtype_exc hD ?_;rw [hb']) | (with_reducible refine wpAny_isSubtype_exc hC ?_;rw [hb]) | wp_step)
 cases b <;> (wp_walk;exact hq)
end
section
variable {X:Cx} {pins:List (Addr×Obj)} {σ:St} {H:Hp} {s:Shared}
theorem Ba {M:Model} {A:Around} {E:Value->Shared->Prop} {i:Nat} {x:Str} {pos:Pos} {Q:Unit->Shared->Prop} (I:Inv X pins σ H s) (hN:X.N.Nodup) (hi:X.N[i]? = some x) (hk:X.env.scope.names.lookup x=some .local)
  (h:∀ s',Inv X pins (σ.set i none) H s'->Q () s'):wpAny M A (do bindName X.env x .none;unbindBehindTheSuite X.env x pos) Q E s:=by
 obtain ⟨m,hn,hl⟩:=id I.loc
 have hcls:(X.env.scope.kind == .class||(X.env.scope.kind == .module&&X.env.locals != X.env.globals))=false:=by rw [I.ok.kind];rfl
 have yt:=I.yt
 refine wpAny_nameGoes_keeps hk hn hcls fun h' v hn' hs=>?_
 have off:∀ b o,X.s₀.heap.get? b=some o->h'.get? b=s.heap.get? b:=fun b o e=>hs.2 b (Nat.ne_of_lt (Nat.lt_of_lt_of_le (Heap.lt_size e) I.ok.above))
 refine h _ ⟨I.ok,I.os,I.bare,⟨fun b o e n hb hx=>(off b o e).trans (I.base.keep b o e n hb hx),fun b o e n hb hx=>?_,I.base.free,fun b o e hx=>?_,I.base.tups,I.base.eT,I.base.fL⟩,⟨_,hn',fun j y v' e1 e2 e3=>?_⟩,fun y c e=>?_,I.free,I.bF,fun p hp=>?_,fun b ob e=>?_,by simpa using I.len⟩
 ·obtain ⟨sl,e1⟩:=I.base.slot b o e n hb hx
  exact ⟨sl,(off b o e).trans e1⟩
 ·obtain ⟨o',e1⟩:=I.base.there b o e hx
  exact ⟨o',(off b o e).trans e1⟩
 ·by_cases hj:j=i
  ·subst hj
   rw [List.getElem?_set] at e2
   split at e2
   ·split at e2 <;> cases e2
   ·rename_i z;exact absurd rfl z
  ·rw [List.getElem?_set_ne (Ne.symm hj)] at e2
   obtain ⟨u',r',q⟩:=hl j y v' e1 e2 e3
   refine ⟨u',r',q.imp (fun ⟨k,e⟩=>⟨k,?_⟩) fun ⟨k,c,e,z⟩=>⟨k,c,e,z.sameBut hs (yt y c e)⟩⟩
   have:y≠x:=fun e=>hj (jG hN e1 (e ▸ hi))
   simp [this,e]
 ·obtain ⟨w',z⟩:=I.cell y c e
  exact ⟨w',z.sameBut hs (yt y c e)⟩
 ·obtain ⟨e,n,ne,nf,d⟩:=I.pin p hp
  exact ⟨(hs.2 p.1 ne).trans e,n,ne,nf,d⟩
 ·refine (I.hok b ob e).stay (fun c w' hc q=>(hs.2 c ?_).trans q) (fun _ q=>q) fun _ _ q=>q
  rintro rfl
  rcases hc with z | z
  ·rw [<- z,I.free] at e;cases e
  ·rw [I.free] at z;cases z
theorem Dg {a:Addr} {o:HO} {oe:Obj} {vs:Array Value} (I:Inv X pins σ H s) (h0:H a=none) (he:s.heap.get? a=some oe) (hd:oe.data=.fields vs) (old:∀ ob,X.s₀.heap.get? a=some ob->a∈X.ex) (pn:∀ p∈X.pn++pins,p.1≠a)
  (new:aP X.prog X.w (upd H a o) s.heap a o):Inv X pins σ (upd H a o) s:=by
 have ne:∀ {b u},H b=some u->b≠a:=fun e z=>by rw [z,h0] at e;cases e
 refine ⟨I.ok,I.os,I.bare,⟨I.base.keep,I.base.slot,fun b ob e n hx=>?_,I.base.there,fun b xs e=>?_,fun b ob u e=>?_,fun b ps e=>?_⟩,I.loc,I.cell,?_,fun x c e=>?_,fun p hp=>?_,fun b u e=>?_,I.len⟩
 ·rw [aj (by rintro rfl;exact hx (old ob e))];exact I.base.free b ob e n hx
 ·have:=I.base.tups b xs e
  rw [aj (ne this)];exact this
 ·have:=I.base.eT b ob u e
  rw [aj (ne this)];exact this
 ·obtain ⟨more,q⟩:=I.base.fL b ps e
  exact ⟨more,by rw [aj (ne q)];exact q⟩
 ·obtain ⟨m,⟨oL,es,ep,ho,hdL,_⟩,_⟩:=I.loc
  rw [aj (by intro z;rw [z,he] at ho;cases ho;rw [hd] at hdL;cases hdL)];exact I.free
 ·obtain ⟨v,oc,h1,h2⟩:=I.cell x c e
  rw [aj (by rintro rfl;rw [he] at h1;cases h1;rw [hd] at h2;cases h2)];exact I.bF x c e
 ·obtain ⟨e,n,r⟩:=I.pin p hp
  exact ⟨e,by rw [aj (pn p hp)];exact n,r⟩
 ·by_cases hb:b=a
  ·subst hb;rw [ay] at e;cases e;exact new
  ·rw [aj hb] at e
   exact (I.hok b u e).stay (fun c v _ q=>q) (fun c q=>by rw [aj (ne q)];exact q) fun c xs q=>by rw [aj (ne q)];exact q
end
noncomputable abbrev TX:=Addr->TS
noncomputable def asR (i:Nat) (t:TS):TX:=fun C D σ H=>∀ a,H a=none->t { nx:=fun σ' H'=>D.nx (σ'.set i none) H',rt:=fun _ _=>False } (σ.set i (some (.ref a))) (upd H a (.ext (GG a C)))
noncomputable def pick (mro:List Value):List (Addr×TX)->Option TX
 | []=>none
 | (C',t)::r=>if mro.contains (.ref C') then some t else pick mro r
noncomputable def EH (K:W.Frag) (rs:List (Addr×TX)) (D:Ends):XS:=fun cv x σ H=>∃ C bmB newId bm t,cv=.ref C/\m6 K C bmB newId bm/\pick (.ref C::bm) rs=some t/\t C D σ H
inductive PH (X:Cx):List ExceptHandler->List (Addr×TX)->Prop
 | nil:PH X [] []
 | cons {x:Str} {C':Addr} {bmB:List Value} {newId:String} {bm:List Value} {b₀:Stmt} {b:List Stmt} {t:TS} {np pos:Pos} {hs:List ExceptHandler} {rs:List (Addr×TX)} :
   X.mg x=some (.ref C')->Gl X x->(x == ("__debug__" : Str))=false->m6 X.K C' bmB newId bm->bm.contains (.type "BaseException")=true->(∀ e, j5 (suite X e) (b₀::b) t)->PH X hs rs ->
   PH X (.ExceptHandler (some (.Name x np)) none (b₀::b) pos::hs) ((C',fun _=>t)::rs)
 | as {x y:Str} {i:Nat} {C':Addr} {bmB:List Value} {newId:String} {bm:List Value} {b₀:Stmt} {b:List Stmt} {t:TS} {np pos:Pos} {hs:List ExceptHandler} {rs:List (Addr×TX)} :
   X.mg x=some (.ref C')->Gl X x->(x == ("__debug__" : Str))=false->m6 X.K C' bmB newId bm->bm.contains (.type "BaseException")=true->X.N.Nodup->X.N[i]? = some y->X.env.scope.names.lookup y=some .local->(∀ e, j5 (suite X e) (b₀::b) t)->PH X hs rs ->
   PH X (.ExceptHandler (some (.Name x np)) (some y) (b₀::b) pos::hs) ((C',asR i t)::rs)
section
variable {X:Cx} {C a:Addr} {a0:Value} {B:Heap} {σ:St} {H:Hp} {s:Shared}
theorem xM (I:Inv X [] σ H s) (fl:Heap.FlyingW B X.stack a (.ref C) a0 s.heap) (dU:Calm B (frs X.stack) X.ex H X.s₀.heap) (hp:∀ p∈X.pn,B.get? p.1=some p.2):H a=none/\Inv X [] σ (upd H a (.ext (GG a C))) s:=by
 obtain ⟨oe,vs,T,oT,ts,he,⟨hc,_⟩,hd,_⟩:=fl.2.2.2.at
 have nf:a∉frs X.stack:=fun z=>jQ I a z oe he vs hd
 have no:∀ {P:Prop},(∃ o,B.get? a=some o)->P:=fun ⟨o,e⟩=>by rw [fl.2.1] at e;cases e
 have h0:H a=none:=by
  cases e:H a with
  | none=>rfl
  | some u=>exact no (dU a (.inl (by rw [e];simp)) nf)
 refine ⟨h0,Dg I h0 he hd (fun ob e=>?_) (fun p q z=>?_) ⟨⟨oe,he,hc⟩,⟨oe,he⟩,fun h1 h2 ⟨o,q,k⟩ st=>⟨o,st o q,k⟩⟩⟩
 ·by_cases hx:a∈X.ex
  ·exact hx
  ·exact no (dU a (.inr ⟨⟨ob,e⟩,hx⟩) nf)
 ·exact no ⟨_,z ▸ hp p (by simpa using q)⟩
end
theorem handle {X:Cx} {hs:List ExceptHandler} {rs:List (Addr×TX)} (ph:PH X hs rs) {C a:Addr} {a0:Value} {B:Heap} {bmB:List Value} {newId:String} {bm:List Value} {t:TX} {D:Ends} {σ:St} {H:Hp} {s:Shared} (EC:m6 X.K C bmB newId bm) (pk:pick (.ref C::bm) rs=some t)
  (I:Inv X [] σ H s) (fl:Heap.FlyingW B X.stack a (.ref C) a0 s.heap) (dU:Calm B (frs X.stack) X.ex H X.s₀.heap) (hp:∀ p∈X.pn,B.get? p.1=some p.2) (ht:t C D σ H) :
  wpAny (model X.prog X.w) X.A (handleBy (.ref a) X.env hs) (SP X [] D) X.xe s:=by
 obtain ⟨nm,q,N,bs,hdct,sn,sub,ab,col,dd,k0,k1,k2,k3,k5,lk,_⟩:=EC
 obtain ⟨oe,A9,hcl⟩:=fl.there
 obtain ⟨hp',g,d,tk,os⟩:=s
 induction ph with
 | nil=>cases pk
 | cons hm hg hd EC' hb' hsu ph ih =>
  obtain ⟨nm',q',N',bs',xK,sn',sub',ab',col',za,l0,l1,l2,l3,l5,lk',_⟩:=EC'
  refine wpAny_handleBy_cons (codeAny_handlers_test (Calls.Name_function_global I.ok.kind hg (Calls.loadGlobal_global (by rw [I.ok.glob];exact I.mod.glob.keeps I.bk) hm ?_) hd)) (by intro q;cases q)
  refine iO (I.fH _ _ lk) (I.fH _ _ lk') A9 hcl (by rw [List.contains_cons,hb',Bool.or_true]) rfl ?_
  simp only [pick] at pk
  cases hc:(Value.ref C::bm).contains (.ref _) with
  | true =>
   rw [hc] at pk
   simp only [if_true,Option.some.injEq] at pk
   subst pk
   refine codeAny_handlers_suite (PyProof.Rows.lands_againW fl fun h6 Lg HQ=>?_)
   have I6:=gJ I dU hp fl.1 Lg.1 HQ
   exact wpAny_mono (hsu (.ref a) [] _ σ H D (kQ I6) ht) (fun f s2 z=>pJ I.ok z) fun _ _ z=>z.elim
  | false =>
   rw [hc] at pk
   exact ih pk
 | as hm hg hd EC' hb' hN hi hl hsu ph ih =>
  obtain ⟨nm',q',N',bs',xK,sn',sub',ab',col',za,l0,l1,l2,l3,l5,lk',_⟩:=EC'
  refine wpAny_handleBy_cons (codeAny_handlers_test (Calls.Name_function_global I.ok.kind hg (Calls.loadGlobal_global (by rw [I.ok.glob];exact I.mod.glob.keeps I.bk) hm ?_) hd)) (by intro q;cases q)
  refine iO (I.fH _ _ lk) (I.fH _ _ lk') A9 hcl (by rw [List.contains_cons,hb',Bool.or_true]) rfl ?_
  simp only [pick] at pk
  cases hc:(Value.ref C::bm).contains (.ref _) with
  | true =>
   rw [hc] at pk
   simp only [if_true,Option.some.injEq] at pk
   subst pk
   refine codeAny_handlers_suite_as (PyProof.Rows.lands_againW fl fun h6 Lg HQ=>?_)
   obtain ⟨h0,I6⟩:=xM (gJ I dU hp fl.1 Lg.1 HQ) Lg dU hp
   refine ju (X:=suite X (.ref a)) (v:=.ref a) (kQ I6) hN hi (.inl hl) rfl (fun s2 I2=>?_) (.inr hl)
   refine wpAny_mono (hsu (.ref a) [] s2 _ _ _ I2 (ht a h0)) (fun f s3 z=>?_) fun _ _ z=>z.elim
   cases f with
   | next =>
    obtain ⟨σ',H',I3,q⟩:=z
    exact Ba (bU I.ok I3) hN hi hl fun s4 I4=>⟨_,H',I4,q⟩
   | brk=>obtain ⟨_,_,_,q⟩:=z;exact q.elim
   | cont=>obtain ⟨_,_,_,q⟩:=z;exact q.elim
   | ret u=>obtain ⟨_,_,_,_,_,q⟩:=z;exact q.elim
  | false =>
   rw [hc] at pk
   exact ih pk
theorem DX {X:Cx} {body:List Stmt} {h₀:ExceptHandler} {hs:List ExceptHandler} {pos:Pos} {rs:List (Addr×TX)} {t:Ends->TS} (stk:X.stack=X.env::X.outer) (hf:X.env.frame=some X.env.locals)
  (hb:∀ pins D,j5 ((gp X pins).bz (g7 (gp X pins) (EH X.K rs D))) body (t D)) (ph:∀ pins,PH (gp X pins) (h₀::hs) rs):PS X (.Try body (h₀::hs) [] [] pos) (fun D σ H=>t D D σ H):=by
 intro pins s σ H D I ht
 refine wpAny_Try_except (wpAny_mono (hb pins D [] s σ H D ((xC I).bz _) ht) (fun f s1 z=>?_) fun e s1 z=>?_)
 ·have z':=kC (SP.aX z)
  cases f with
  | next=>exact wpAny_execs_nil z'
  | brk=>exact z'
  | cont=>exact z'
  | ret u=>exact z'
 ·obtain ⟨jC,σ1,H1,a,a0,cv,B,rfl,I1,fl,dU,hp,C,bmB,newId,bm,tt,rfl,EC,pk,hts⟩:=z
  have go:∀ h5,Heap.FlyingW B (X.env::X.outer) a (.ref C) a0 h5->s1.heap.UpToSlots h5->wpAny (model X.prog X.w) X.A (handleBy (.ref a) X.env (h₀::hs)) (SP X pins D) X.xe { s1 with heap:=h5 }:=fun h5 Lh zH=>by
   have I5:=gJ I1 dU hp fl.1 Lh.1 zH
   exact wpAny_mono (handle (ph pins) EC pk I5 (by show Heap.FlyingW B X.stack _ _ _ _;rw [stk];exact Lh) dU hp hts) (fun f s2 z=>kC z) fun _ _ z=>z
  exact Up.note (L:=X.env.locals) (env:=X.env) (outer:=X.outer) (by rw [I.ok.frames,stk]) hf (by rw [<- stk];exact fl) fun h4 held vH=>wpAny_landsW held fun h5 Lh zH=>go h5 Lh (vH.trans zH)
end Fg
end
section
namespace Fg
open PySem PySem.Spec L2
theorem Up.pass {M:Model} {A:Around} {E:Value->Shared->Prop} {s:Shared} {α:Type} {Q:α->Shared->Prop} {B:Heap} {l:List Env} {a:Addr} {C a0:Value} {env:Env} {what:String} (up:Up B l a C a0 s.heap)
  (k:∀ h',Up B l a C a0 h'->s.heap.UpToSlots h'->E (.ref a) { s with heap:=h' }):wpAny M A (passOn what (.ref a) env:Sem α) Q E s:=by
 obtain ⟨st,ne,hl,fl,oe,vs,T,oT,ts,q1,q2,q3,q4,q5,q6,q7,q8,q9⟩:=up
 have q0:3<ts.size:=(Array.getElem?_eq_some_iff.mp q9).1
 have r6:∀ x b,b≠T->(s.heap.update T (Obj.mapFields (·.setIfInBounds 3 x))).get? b=s.heap.get? b:=fun x b hb=>Heap.get?_update_other _ _ (Ne.symm hb)
 have nW:∀ b o,s.heap.get? b=some o->(∀ vs,o.data≠.fields vs)->b≠T:=fun b o hb hn z=>by
  rw [z,q7] at hb
  cases hb
  exact hn ts q8
 unfold passOn
 refine wpAny_bind (wpAny_field q1 q3 q4 ?_)
 rw [if_neg (by simp)]
 refine wpAny_bind ?_
 unfold setFlight
 refine wpAny_bind (wpAny_field q1 q3 q4 ?_)
 rw [if_pos (by simp)]
 refine wpAny_setField q7 q8 q0 ?_
 refine wpAny_throw (k _ ⟨fun b o e=>?_,ne,hl.of_keeps fun b o hb hn=>⟨o,(r6 _ b (nW b o hb hn)).trans hb,rfl⟩,?_⟩ fun b o hb hn=>⟨o.slots,(r6 _ b (nW b o hb hn)).trans hb⟩)
 ·exact (r6 _ b (by rintro rfl;rw [q5] at e;cases e)).trans (st b o e)
 ·exact ⟨_,oe,vs,T,_,_,(r6 _ a (Ne.symm q6)).trans q1,q2,q3,q4,q5,q6,Heap.get?_update_self _ q7 (Obj.isFreed_of_fields (Obj.data_mapFields q8 _)),Obj.data_mapFields q8 _,Array.getElem?_setIfInBounds_self_of_lt q0⟩
theorem Up.hide {B h h':Heap} {l:List Env} {a c:Addr} {C a0:Value} (up:Up B l a C a0 h) (sb:Heap.SameBut c h h') (hc:∃ o,h.get? c=some o/\∀ vs,o.data≠.fields vs) (hfr:c∉frs l):Up (B.hide c) l a C a0 h':=by
 obtain ⟨st,ne,hl,fl,oe,vs,T,oT,ts,q1,q2,q3,q4,q5,q6,q7,q8,q9⟩:=up
 obtain ⟨oc,hoc,hd⟩:=hc
 have hn:∀ {b:Addr},B.get? b=none->(B.hide c).get? b=none:=fun {b} e=>by
  cases q:(B.hide c).get? b with
  | none=>rfl
  | some o=>rw [Heap.of_hide q] at e;cases e
 have hac:a≠c:=by rintro rfl;rw [hoc] at q1;cases q1;exact hd _ q3
 have hTc:T≠c:=by rintro rfl;rw [hoc] at q7;cases q7;exact hd _ q8
 have ff:∀ l',(∀ b∈frs l',b∈frs l)->h.FunFrames B l'->h'.FunFrames (B.hide c) l':=by
  intro l'
  induction l' with
  | nil=>intro _ _;trivial
  | cons env r ih =>
   intro hs hl'
   obtain ⟨hk,⟨L,o,hf,hnn,ho,hdd⟩,hr⟩:=hl'
   have hL:L∈frs l:=hs L (by unfold frs;rw [List.filterMap_cons,hf];exact List.mem_cons_self)
   exact ⟨hk,⟨L,o,hf,hn hnn,by rw [sb.2 L (by rintro rfl;exact hfr hL)];exact ho,hdd⟩,ih (fun b hb=>hs b (by unfold frs;rw [List.filterMap_cons,hf];exact List.mem_cons_of_mem _ hb)) hr⟩
 refine ⟨fun b o e=>?_,hn ne,ff l (fun _ z=>z) hl,fl,oe,vs,T,oT,ts,by rw [sb.2 a hac];exact q1,q2,q3,q4,hn q5,q6,by rw [sb.2 T hTc];exact q7,q8,q9⟩
 have hbc:b≠c:=by rintro rfl;rw [Heap.hide_self] at e;cases e
 rw [sb.2 b hbc]
 exact st b o (Heap.of_hide e)
noncomputable def o5 (X:Cx):Prop:=∃ env outer L,X.stack=env::outer/\env.frame=some L/\X.env.frame=some L
end Fg
end
section
namespace Fg
open PySem PySem.Spec L2
noncomputable def pG (sp:Sp) (Ex:XS) (t:TA):TE:=fun σ H Q=>t σ H fun vs H1=>sp vs H1 Q fun cv x H'=>Ex cv x σ H'
section
variable {X:Cx} {cm:Bool} {Ex:XS} {k:Nat} {f:Addr} {fd:FuncData} {ps:List Str} {sp:Sp} {x:Str} {p pos:Pos} {e:Expr} {es:List Expr} {t:TA}
theorem Af {pins:List (Addr×Obj)} {σ:St} {H:Hp} {s:Shared} {Q:VK} {us:List Value} {vs:List V} (F:br cm X.prog X.w X.K X.mg X.base (eW X.prog X.w) k f fd ps sp) (hr:bI cm k X.A) (hb:Binds X.K fd ps []) (hx:∀ e s,g7 X Ex e s->X.xe e s)
  (I:Inv X pins σ H s) (r:Vals vs us) (h:sp vs H Q fun cv x H'=>Ex cv x σ H'):wpAny (model X.prog X.w) X.A (call (.ref f) us) (EP X pins σ Q) X.xe s:=by
 have hl:(us++[]).length=ps.length:=by rw [List.append_nil,<- r.length];exact F.len _ _ _ _ h
 have bd:=hb s us I.fH hl
 rw [List.append_nil] at bd
 refine wpAny_call (codeAny_mono (F.run X.A X.stack s H ⟨us,[]⟩ us vs Q _ hr I.jU bd r h) fun z s' hq=>?_)
 match z,hq with
 | .error e,hq=>exact passes hx pins σ H s e s' I hq
 | .ok (.ret u),hq=>exact I.after hq
 | .ok .next,hq=>exact hq.elim
 | .ok .brk,hq=>exact hq.elim
 | .ok .cont,hq=>exact hq.elim
theorem wB (F:br cm X.prog X.w X.K X.mg X.base (eW X.prog X.w) k f fd ps sp) (hr:bI cm k X.A) (hg:Gl X x) (hm:X.mg x=some (.ref f)) (hk:W.keepIn X.K (.ref f)=true) (hb:Binds X.K fd ps []) (hx:∀ e s,g7 X Ex e s->X.xe e s)
  (ha:PA X (e::es) t) (hdb:(x == ("__debug__" : Str))=false) (he:starEach (e::es) X.env=(false, eval e X.env)::starEach es X.env) (hpl:(backTo pos (starEach es X.env)).any (·.1)=false) :
  PE X (.Call (.Name x p) (e::es) [] pos) (pG sp Ex t):=fun pins s σ H Q I h =>
 wpAny_Call_Name_kw (ez I hg hm (W.callWith_K (h₀:=X.base) I.ok.mod.AY hk (aT (ha pos pins s σ H _ I h) fun us s1 ⟨vs,H1,I1,r,q⟩=>⟨I1.fH,Af F hr hb hx I1 r q⟩) he hpl) hdb)
theorem ug (F:br cm X.prog X.w X.K X.mg X.base (eW X.prog X.w) k f fd ps sp) (hr:bI cm k X.A) (hg:Gl X x) (hm:X.mg x=some (.ref f)) (hk:W.keepIn X.K (.ref f)=true) (hb:Binds X.K fd ps []) (hx:∀ e s, g7 X Ex e s->X.xe e s) (hdb:(x == ("__debug__" : Str))=false) :
  PE X (.Call (.Name x p) [] [] pos) (pG sp Ex g9):=fun pins s σ H Q I h =>
 wpAny_Call_Name_kw (ez I hg hm (W.callWith_K0 I.fH hk (Af (us:=[]) F hr hb hx I .nil h)) hdb)
noncomputable def vp (sp:Sp) (dv:V) (Ex:XS) (t:TA):TE:=fun σ H Q=>t σ H fun vs H1=>sp (vs++[dv]) H1 Q fun cv x H'=>Ex cv x σ H'
theorem runD {pins:List (Addr×Obj)} {σ:St} {H:Hp} {s:Shared} {Q:VK} {us:List Value} {vs:List V} {dv:V} {du:Value} (F:br cm X.prog X.w X.K X.mg X.base (eW X.prog X.w) k f fd ps sp) (hr:bI cm k X.A) (hb:Binds X.K fd ps [du]) (hd:RelV dv du) (hx:∀ e s,g7 X Ex e s->X.xe e s)
  (I:Inv X pins σ H s) (r:Vals vs us) (h:sp (vs++[dv]) H Q fun cv x H'=>Ex cv x σ H'):wpAny (model X.prog X.w) X.A (call (.ref f) us) (EP X pins σ Q) X.xe s:=by
 have r2:Vals (vs++[dv]) (us++[du]):=r.append (.cons hd .nil)
 have hl:(us++[du]).length=ps.length:=by rw [<- r2.length];exact F.len _ _ _ _ h
 have bd:=hb s us I.fH hl
 refine wpAny_call (codeAny_mono (F.run X.A X.stack s H ⟨us,[]⟩ (us++[du]) (vs++[dv]) Q _ hr I.jU bd r2 h) fun z s' hq=>?_)
 match z,hq with
 | .error e,hq=>exact passes hx pins σ H s e s' I hq
 | .ok (.ret u),hq=>exact I.after hq
 | .ok .next,hq=>exact hq.elim
 | .ok .brk,hq=>exact hq.elim
 | .ok .cont,hq=>exact hq.elim
theorem wC {dv:V} {du:Value} (F:br cm X.prog X.w X.K X.mg X.base (eW X.prog X.w) k f fd ps sp) (hr:bI cm k X.A) (hg:Gl X x) (hm:X.mg x=some (.ref f)) (hk:W.keepIn X.K (.ref f)=true) (hb:Binds X.K fd ps [du]) (hd:RelV dv du) (hx:∀ e s,g7 X Ex e s->X.xe e s)
  (ha:PA X (e::es) t) (hdb:(x == ("__debug__" : Str))=false) (he:starEach (e::es) X.env=(false, eval e X.env)::starEach es X.env) (hpl:(backTo pos (starEach es X.env)).any (·.1)=false) :
  PE X (.Call (.Name x p) (e::es) [] pos) (vp sp dv Ex t):=fun pins s σ H Q I h =>
 wpAny_Call_Name_kw (ez I hg hm (W.callWith_K (h₀:=X.base) I.ok.mod.AY hk (aT (ha pos pins s σ H _ I h) fun us s1 ⟨vs,H1,I1,r,q⟩=>⟨I1.fH,runD F hr hb hd hx I1 r q⟩) he hpl) hdb)
end
end Fg
end
section
namespace Fg
open PySem PySem.Spec L2
theorem Up.back {M:Model} {A:Around} {E:Value->Shared->Prop} {s:Shared} {B:Heap} {l:List Env} {a:Addr} {C a0:Value} {env:Env} (up:Up B l a C a0 s.heap)
  (k:∀ h',Up B l a C a0 h'->s.heap.UpToSlots h'->E (.ref a) { s with heap:=h' }):cameBackBy M A env E (.ref a) s:=by
 obtain ⟨st,ne,hl,fl,oe,vs,T,oT,ts,q1,q2,q3,q4,q5,q6,q7,q8,q9⟩:=up
 have q0:3<ts.size:=(Array.getElem?_eq_some_iff.mp q9).1
 have r6:∀ x b,b≠T->(s.heap.update T (Obj.mapFields (·.setIfInBounds 3 x))).get? b=s.heap.get? b:=fun x b hb=>Heap.get?_update_other _ _ (Ne.symm hb)
 have nW:∀ b o,s.heap.get? b=some o->(∀ vs,o.data≠.fields vs)->b≠T:=fun b o hb hn z=>by
  rw [z,q7] at hb
  cases hb
  exact hn ts q8
 unfold cameBackBy
 refine wpAny_bind (wpAny_field q1 q3 q4 ?_)
 rw [if_neg (by simp)]
 unfold setFlight
 refine wpAny_bind (wpAny_field q1 q3 q4 ?_)
 rw [if_pos (by simp)]
 refine wpAny_setField q7 q8 q0 ?_
 refine k _ ⟨fun b o e=>?_,ne,hl.of_keeps fun b o hb hn=>⟨o,(r6 _ b (nW b o hb hn)).trans hb,rfl⟩,?_⟩ fun b o hb hn=>⟨o.slots,(r6 _ b (nW b o hb hn)).trans hb⟩
 ·exact (r6 _ b (by rintro rfl;rw [q5] at e;cases e)).trans (st b o e)
 ·exact ⟨_,oe,vs,T,_,_,(r6 _ a (Ne.symm q6)).trans q1,q2,q3,q4,q5,q6,Heap.get?_update_self _ q7 (Obj.isFreed_of_fields (Obj.data_mapFields q8 _)),Obj.data_mapFields q8 _,Array.getElem?_setIfInBounds_self_of_lt q0⟩
theorem wK {M:Model} {A:Around} {E:Value->Shared->Prop} {s:Shared} {h B:Heap} {env:Env} {outer:List Env} {L a:Addr} {C:Value} {vs:List Value} {Q:Unit->Shared->Prop} (hfr:A.frames=some (env::outer)) (hf:env.frame=some L)
  (made:Heap.MadeExcOf h s.heap a C vs) (st:B.StaysIn h) (hl:h.FunFrames B (env::outer)) (k:∀ a0 h',Up B (env::outer) a C a0 h'->s.heap.UpToSlots h'->Q () { s with heap:=h' }):wpAny M A (noteFrame (.ref a) env) Q E s:=by
 obtain ⟨t,he,_,_⟩:=made.there
 have ne:B.get? a=none:=by
  cases q:B.get? a with
  | none=>rfl
  | some o=>have:=st _ _ q;rw [made.new] at this;cases this
 unfold noteFrame
 simp only [hf]
 refine wpAny_bind (wpAny_field he rfl (x:=.none) rfl ?_)
 rw [if_neg (by simp)]
 refine wpAny_entryW (base:=B) (a0:=.ref t) hfr (hl.of_keeps fun b o hb _=>⟨o,made.keeps b o hb,rfl⟩) hf he (fun b o e=>made.keeps b o (st b o e)) ne rfl (show 1<6 by decide) rfl fun h' nw=>?_
 obtain ⟨x1,x2,x3,x4⟩:=nw
 exact k _ h' ⟨x1,ne,x2,_,x3⟩ x4
theorem pY {X:Cx} {E:XS} (fr:o5 X) (fo:∀ e s,X.xe e s->g7 X E e s\/C6 X E e s) (fx:∀ e s,g7 X E e s->X.xe e s):PassesOwn (model X.prog X.w) X.A X.env X.xe:=by
 intro e s q
 obtain ⟨jU,lR,L,hst,FN,K8⟩:=fr
 rcases fo e s q with q | q
 ·obtain ⟨pins,σ,H,a,a0,C,B,rfl,I,up,dU,hp,q⟩:=q
  show wpAny _ X.A (noteFrame (.ref a) X.env) _ _ s
  rw [lU (env:=X.env) (env':=jU) (K8.trans FN.symm)]
  refine Up.note (env:=jU) (outer:=lR) (by rw [I.ok.frames,hst]) FN (by rw [<- hst];exact up) fun h4 held vH=>?_
  refine (Up.se held).back fun h5 Dd zH=>fx _ _ ?_
  have J:=gJ I dU hp up.1 Dd.1 (vH.trans zH)
  have up':Up B X.stack a C a0 h5:=by rw [hst];exact Dd
  exact ⟨[],σ,H,a,a0,C,B,rfl,J,up',dU,hp,q⟩
 ·obtain ⟨pins,σ,H,a,C,vs,h,rfl,I,made,q⟩:=q
  show wpAny _ X.A (noteFrame (.ref a) X.env) _ _ s
  rw [lU (env:=X.env) (env':=jU) (K8.trans FN.symm)]
  have iZ:(W.hideAll h (frs X.stack)).StaysIn h:=fun b o q=>W.of_hideAll _ q
  have dU:Calm (W.hideAll h (frs X.stack)) (frs X.stack) X.ex H X.s₀.heap:=fun b hb hf=>by
   have:∃ o,h.get? b=some o:=by
    rcases hb with hb | ⟨⟨o,hb⟩,nx⟩
    ·cases e:H b with
     | none=>exact absurd e hb
     | some o=>exact kJ (I.hok b o e)
    ·exact fG I hb nx
   obtain ⟨o,e⟩:=this
   exact ⟨o,W.hideAll_get _ e hf⟩
  have hp:∀ p∈X.pn,(W.hideAll h (frs X.stack)).get? p.1=some p.2:=fun p hp=>by
   obtain ⟨p1,p2,p3,p4,_⟩:=I.pin p (List.mem_append_left _ hp)
   refine W.hideAll_get _ p1 fun z=>?_
   rcases List.mem_cons.mp (I.d8 _ z) with e | z
   ·exact p3 e
   ·exact p4 z
  have hl:h.FunFrames (W.hideAll h (frs X.stack)) X.stack:=W.funFrames_hide I.stack fun env he b hb=>List.mem_filterMap.mpr ⟨env,he,hb⟩
  refine wK (env:=jU) (outer:=lR) (by rw [show X.A.frames=some X.stack from I.ok.frames,hst]) FN made iZ (hst ▸ hl) fun a0 h4 up4 vH=>?_
  refine up4.back fun h5 Dd zH=>fx _ _ ?_
  have sm:h.UpToSlots h5:=(Heap.UpToSlots.of_keeps made.keeps).trans (vH.trans zH)
  have J:=gJ I dU hp iZ Dd.1 sm
  have up':Up (W.hideAll h (frs X.stack)) X.stack a C a0 h5:=by
   have z:∀ l,l=X.stack->Up (W.hideAll h (frs X.stack)) l a C a0 h5->Up (W.hideAll h (frs X.stack)) X.stack a C a0 h5:=fun l e u=>e ▸ u
   exact z _ hst.symm Dd
  exact ⟨[],σ,H,a,a0,C,_,rfl,J,up',dU,hp,q⟩
end Fg
end
section
namespace Fg
open PySem L2
mutual
noncomputable def DV (K:W.Frag) (H:Hp):D->V->Prop
 | .ao,v=>v=.ao
 | .bl b,v=>v=.bl b
 | .int i,v=>v=.int i
 | .str x,v=>v=.str x
 | .tup ds,v=>∃ a vs,v=.ref a/\gr K H a vs/\nh K H ds vs
 | .lst ds,v=>∃ a vs,v=.ref a/\eV K H a vs/\nh K H ds vs
 | .dct _ _,_=>False
 | .ref _,_=>False
 | .iY _,_=>False
noncomputable def nh (K:W.Frag) (H:Hp):List D->List V->Prop
 | [],vs=>vs=[]
 | d::ds,vs=>∃ v ws,vs=v::ws/\DV K H d v/\nh K H ds ws
end
section
variable {B:Bd} {Φ:bh} {E:Gx} {F F' F1:Addr->Prop} {ρ ρ' ρ1:List Addr} {H H' H1:Hp} {M M':MH} {σD:Sg} {σ:St} {Q:VK}
mutual
theorem RD.dv:∀ {d:D} {v:V},plain d=true->RD B F ρ H d v->DV B.K H d v
 | .ao,v,_,h=>by simp only [RD] at h;simp only [DV];exact h
 | .bl _,v,_,h=>by simp only [RD] at h;simp only [DV];exact h
 | .int _,v,_,h=>by simp only [RD] at h;simp only [DV];exact h
 | .str _,v,_,h=>by simp only [RD] at h;simp only [DV];exact h
 | .tup ds,v,p,h=>by
  simp only [RD] at h;simp only [DV];simp only [plain] at p
  obtain ⟨a,vs,h1,h2,h3⟩:=h
  exact ⟨a,vs,h1,h2.sq,ai.dv p h3⟩
 | .lst ds,v,p,h=>by
  simp only [RD] at h;simp only [DV];simp only [plain] at p
  obtain ⟨a,vs,h1,h2,h3⟩:=h
  exact ⟨a,vs,h1,h2.sq,ai.dv p h3⟩
 | .dct _ _,v,p,h=>by simp [plain] at p
 | .ref _,v,p,h=>by simp [plain] at p
 | .iY _,v,p,h=>by simp [plain] at p
theorem ai.dv:∀ {ds:List D} {vs:List V},cI ds=true->ai B F ρ H ds vs->nh B.K H ds vs
 | [],vs,_,h=>by simp only [ai] at h;simp only [nh];exact h
 | d::ds,vs,p,h=>by
  simp only [ai] at h;simp only [nh];simp only [cI,Bool.and_eq_true] at p
  obtain ⟨v,ws,h1,h2,h3⟩:=h
  exact ⟨v,ws,h1,RD.dv p.1 h2,ai.dv p.2 h3⟩
end
theorem vj {d:D} {v:V} (S:SR B F ρ M H) (p:plain (top M d)=true) (h:RD B F ρ H d v):DV B.K H (top M d) v:=by
 cases d with
 | ref n =>
  cases hM:M[n]? with
  | none=>simp [top,hM,plain] at p
  | some o =>
   cases o with
   | lst ds =>
    obtain ⟨a,vs,e,q,r⟩:=aW (ds:=ds) S h (by simp only [vw,hM])
    simp only [top,hM,plain] at p
    simp only [top,hM,DV]
    exact ⟨a,vs,e,q,ai.dv p r⟩
   | dct _=>simp [top,hM,plain] at p
   | ng _=>simp [top,hM,plain] at p
   | ins _ _=>simp [top,hM,plain] at p
 | tup ds=>exact RD.dv p h
 | lst ds=>exact RD.dv p h
 | _=>exact RD.dv p h
noncomputable def vY (K:W.Frag) (neg:Bool):R2:=fun x y H Q=>∃ d e,DV K H d x/\DV K H e y/\cu d e=true/\Q (.bl (if neg then !aD d e else aD d e)) H
noncomputable def vX (K:W.Frag) (neg:Bool):R2:=fun x y H Q=>∃ l b xs,x=.ref l/\y=.ref b/\eV K H l xs/\eV K H b []/\Q (.bl (if neg then !xs.isEmpty else xs.isEmpty)) H
noncomputable def Ai (neg:Bool):R2:=fun x y H Q=>∃ a b,x=.bl a/\y=.bl b/\Q (.bl (if neg then !(a == b) else (a == b))) H
noncomputable def vZ (B:Bd) (neg:Bool):R2:=fun x y H Q=>∃ a kvs k,y=.ref a/\x=kV k/\GK B H a kvs/\Q (.bl (if neg then !(cy kvs k).isSome else (cy kvs k).isSome)) H
noncomputable def pU (B:Bd):ze->R2
 | .lt=>pT fun i j=>.bl (decide (i<j))
 | .le=>pT fun i j=>.bl (decide (i<=j))
 | .gt=>pT fun i j=>.bl (decide (j<i))
 | .ge=>pT fun i j=>.bl (decide (j<=i))
 | .eq=>fun x y H Q=>Ai false x y H Q\/(vY B.K false x y H Q\/vX B.K false x y H Q)
 | .ne=>fun x y H Q=>Ai true x y H Q\/(vY B.K true x y H Q\/vX B.K true x y H Q)
 | .ow=>fun x y H Q=>y=.ao/\Q (.bl (decide (x=.ao))) H
 | .jF=>fun x y H Q=>y=.ao/\Q (.bl (!decide (x=.ao))) H
 | .isin=>fun x y H Q=>vZ B false x y H Q\/Iq B.K false x y H Q
 | .n6=>fun x y H Q=>vZ B true x y H Q\/Iq B.K true x y H Q
theorem lZ {d:D} {v:V} {k:Ky} (h:keyOf d=some k) (r:RD B F ρ H d v):v=kV k:=by
 cases d with
 | int i=>simp only [keyOf] at h;cases h;simp only [RD] at r;exact r
 | str x=>simp only [keyOf] at h;cases h;simp only [RD] at r;exact r
 | _=>simp only [keyOf] at h;cases h
theorem mE {d:D} {v:V} (h:flat d=true) (r:RD B F ρ H d v):fV v=true:=by
 cases d <;> first | (simp only [RD] at r;subst r;rfl) | (simp only [flat] at h;cases h)
theorem oH {ds:List D}:∀ {vs:List V},ds.all flat=true->ai B F ρ H ds vs->vs.all fV=true:=by
 induction ds with
 | nil=>intro vs _ r;simp only [ai] at r;subst r;rfl
 | cons d ds ih =>
  intro vs h r
  simp only [ai] at r
  obtain ⟨v,ws,rfl,r1,r2⟩:=r
  simp only [List.all_cons,Bool.and_eq_true] at h ⊢
  exact ⟨mE h.1 r1,ih h.2 r2⟩
theorem Bs {d e:D} {v w:V} (h1:flat d=true) (h2:flat e=true) (r1:RD B F ρ H d v) (r2:RD B F ρ H e w):aD d e=yZ v w:=by
 cases d <;> first | (simp only [flat] at h1;cases h1;done) | skip
 all_goals (cases e <;> first | (simp only [flat] at h2;cases h2;done) | skip)
 all_goals (simp only [RD] at r1 r2;subst r1 r2;simp only [aD,yZ])
 all_goals first | rfl | simp [Bool.beq_eq_decide_eq]
theorem tN {d:D} {v:V} (h1:flat d=true) (r1:RD B F ρ H d v) {ds:List D}:∀ {vs:List V},ds.all flat=true->ai B F ρ H ds vs->(ds.any fun e=>aD e d)=Js v vs:=by
 induction ds with
 | nil=>intro vs _ r;simp only [ai] at r;subst r;rfl
 | cons e ds ih =>
  intro vs h r
  simp only [ai] at r
  obtain ⟨w,ws,rfl,q1,q2⟩:=r
  simp only [List.all_cons,Bool.and_eq_true] at h
  simp only [List.any_cons,Js,Bs h.1 h1 q1 r1]
  have:=ih h.2 q2
  simp only [Js] at this
  rw [this]
theorem xE {neg:Bool} {x y:D} {v w:V} {X:XK} {t:Bool} (S:SR B F ρ M H) (rx:RD B F ρ H x v) (ry:RD B F ρ H y w) (hi:xF M x y=some t)
  (h:Post B (.ok (.bl (if neg then !t else t)) M) F ρ H Q X):vZ B neg v w H Q\/Iq B.K neg v w H Q:=by
 unfold xF at hi
 split at hi
 ·rename_i bY hv
  split at hi
  ·rename_i k hk
   cases hi
   obtain ⟨a,kvs,rfl,q,e1,e2⟩:=lE S ry hv
   have:=(jH (k:=k) e1 e2).2.2
   refine .inl ⟨a,kvs,k,rfl,lZ hk rx,q,?_⟩
   rw [<- this]
   exact ah.run h S (by simp only [RD])
  ·cases hi
 ·rename_i ds hv
  split at hi
  ·rename_i hf
   cases hi
   simp only [Bool.and_eq_true] at hf
   obtain ⟨a,vs,rfl,q,r⟩:=aW S ry hv
   refine .inr ⟨a,vs,rfl,.inl q,mE hf.1 rx,oH hf.2 r,?_⟩
   rw [<- tN hf.1 rx hf.2 r]
   exact ah.run h S (by simp only [RD])
  ·cases hi
 ·rename_i ds hv
  split at hi
  ·rename_i hf
   cases hi
   simp only [Bool.and_eq_true] at hf
   obtain ⟨a,vs,rfl,q,r⟩:=g8 S ry hv
   refine .inr ⟨a,vs,rfl,.inr q,mE hf.1 rx,oH hf.2 r,?_⟩
   rw [<- tN hf.1 rx hf.2 r]
   exact ah.run h S (by simp only [RD])
  ·cases hi
 ·cases hi
theorem jl {f:D->D} (ih:∀ (d:D) (v:V),plain (f d)=true->RD B F ρ H d v->DV B.K H (f d) v):∀ (ds:List D) (vs:List V),cI (ds.map f)=true->ai B F ρ H ds vs->nh B.K H (ds.map f) vs
 | [],vs,p,h=>by simp only [ai] at h;simp only [List.map_nil,nh];exact h
 | d::ds,vs,p,h=>by
  simp only [ai] at h;simp only [List.map_cons,nh];simp only [List.map_cons,cI,Bool.and_eq_true] at p
  obtain ⟨v,ws,h1,h2,h3⟩:=h
  exact ⟨v,ws,h1,ih d v p.1 h2,jl ih ds ws p.2 h3⟩
theorem sZ (S:SR B F ρ M H) (n:Nat):∀ (d:D) (v:V),plain (deep n M d)=true->RD B F ρ H d v->DV B.K H (deep n M d) v:=by
 induction n with
 | zero=>intro d v p h;exact RD.dv p h
 | succ n ih =>
  intro d v p h
  cases d with
  | ref r =>
   cases hM:M[r]? with
   | none=>simp [deep,hM,plain] at p
   | some o =>
    cases o with
    | lst ds =>
     obtain ⟨a,vs,e,q,r⟩:=aW (ds:=ds) S h (by simp only [vw,hM])
     simp only [deep,hM,plain] at p
     simp only [deep,hM,DV]
     exact ⟨a,vs,e,q,jl ih ds vs p r⟩
    | dct _=>simp [deep,hM,plain] at p
    | ng _=>simp [deep,hM,plain] at p
    | ins _ _=>simp [deep,hM,plain] at p
  | tup ds =>
   simp only [RD] at h;simp only [deep,plain] at p;simp only [deep,DV]
   obtain ⟨a,vs,h1,h2,h3⟩:=h
   exact ⟨a,vs,h1,h2.sq,jl ih ds vs p h3⟩
  | lst ds =>
   simp only [RD] at h;simp only [deep,plain] at p;simp only [deep,DV]
   obtain ⟨a,vs,h1,h2,h3⟩:=h
   exact ⟨a,vs,h1,h2.sq,jl ih ds vs p h3⟩
  | dct _ _=>simp [deep,plain] at p
  | _=>exact RD.dv p h
theorem sN (neg:Bool) {x y:D} {v w:V} {X:XK} (S:SR B F ρ M H) (rx:RD B F ρ H x v) (ry:RD B F ρ H y w) (h:Post B (if cu (top M x) (top M y) then .ok (.bl (if neg then !aD (top M x) (top M y) else aD (top M x) (top M y))) M else (match p7 M x y with | some t=>.ok (.bl (if neg then !t else t)) M | none=>JR M neg x y)) F ρ H Q X):vY B.K neg v w H Q\/vX B.K neg v w H Q:=by
 split at h
 ·rename_i hc
  have hc':=hc
  simp only [cu,Bool.and_eq_true] at hc'
  exact .inl ⟨_,_,vj S hc'.1.1 rx,vj S hc'.1.2 ry,hc,ah.run h S (by simp only [RD])⟩
 ·cases hn:p7 M x y with
  | none =>
   rw [hn] at h
   replace h:Post B (JR M neg x y) F ρ H Q X:=h
   unfold JR at h
   split at h
   ·rename_i hc
    have hc':=hc
    simp only [cu,Bool.and_eq_true] at hc'
    exact .inl ⟨_,_,sZ S 120 _ _ hc'.1.1 rx,sZ S 120 _ _ hc'.1.2 ry,hc,ah.run h S (by simp only [RD])⟩
   ·exact h.elim
  | some t =>
   rw [hn] at h
   unfold p7 at hn
   split at hn
   ·rename_i xs ys hx hy
    split at hn
    ·rename_i he
     cases hn
     obtain ⟨a,vs,rfl,q1,r1⟩:=aW S rx hx
     obtain ⟨b,ws,rfl,q2,r2⟩:=aW S ry hy
     have l1:=ai.length r1
     have l2:=ai.length r2
     have e2:ws=[]:=by
      rw [List.isEmpty_iff] at he
      subst he
      exact List.eq_nil_of_length_eq_zero l2.symm
     have e1:vs.isEmpty=xs.isEmpty:=by
      cases xs <;> cases vs <;> first | rfl | (simp at l1;done)
     subst e2
     refine .inr ⟨a,b,vs,rfl,rfl,q1,q2,?_⟩
     rw [e1]
     exact ah.run h S (by simp only [RD])
    ·cases hn
   ·cases hn
theorem jj {f:Int->Int->Bool} {x y:D} {v w:V} {X:XK} (S:SR B F ρ M H) (rx:RD B F ρ H x v) (ry:RD B F ρ H y w) (h:Post B (qG M f x y) F ρ H Q X):pT (fun i j=>.bl (f i j)) v w H Q:=by
 cases x with
 | int i=>cases y with
  | int j=>simp only [RD] at rx ry;subst rx ry;exact ⟨_,_,rfl,rfl,ah.run h S (by simp only [RD])⟩
  | _=>exact h.elim
 | _=>exact h.elim
theorem jM {x:D} {v:V} (r:RD B F ρ H x v):bT x=decide (v=.ao):=by
 cases x <;> first | (simp only [RD] at r;subst r;rfl) | (simp only [RD] at r;obtain ⟨_,r⟩:=r;first | (obtain ⟨_,rfl,_⟩:=r;rfl) | (obtain ⟨_,rfl⟩:=r;rfl) | (obtain ⟨_,_,rfl,_⟩:=r;rfl))
theorem yv {o:ze} {x y:D} {v w:V} {X:XK} (S:SR B F ρ M H) (rx:RD B F ρ H x v) (ry:RD B F ρ H y w) (h:Post B (bH o M x y) F ρ H Q X):pU B o v w H Q:=by
 have eb:∀ {p:Bool×Bool},yG x y=some p->x=.bl p.1/\y=.bl p.2:=fun {p} hb=>by
  cases x with
  | bl a=>cases y with
   | bl b=>cases hb;exact ⟨rfl,rfl⟩
   | _=>cases hb
  | _=>cases hb
 have nn:bT y=true->w=.ao:=fun q=>by
  have:=jM ry
  rw [q] at this
  exact of_decide_eq_true this.symm
 cases o with
 | lt=>exact jj S rx ry h
 | le=>exact jj S rx ry h
 | gt=>exact jj S rx ry h
 | ge=>exact jj S rx ry h
 | eq =>
  cases hb:yG x y with
  | some p =>
   obtain ⟨rfl,rfl⟩:=eb hb
   simp only [RD] at rx ry;subst rx ry
   exact .inl ⟨_,_,rfl,rfl,ah.run h S (by simp only [RD];rfl)⟩
  | none =>
   simp only [bH,hb] at h
   exact .inr (sN false S rx ry h)
 | ne =>
  cases hb:yG x y with
  | some p =>
   obtain ⟨rfl,rfl⟩:=eb hb
   simp only [RD] at rx ry;subst rx ry
   exact .inl ⟨_,_,rfl,rfl,ah.run h S (by simp only [RD];rfl)⟩
  | none =>
   simp only [bH,hb] at h
   exact .inr (sN true S rx ry h)
 | ow =>
  cases hn:bT y with
  | false=>simp only [bH,hn] at h;exact h.elim
  | true =>
   simp only [bH,hn,if_true] at h
   refine ⟨nn hn,?_⟩
   rw [<- jM rx]
   exact ah.run h S (by simp only [RD])
 | jF =>
  cases hn:bT y with
  | false=>simp only [bH,hn] at h;exact h.elim
  | true =>
   simp only [bH,hn,if_true] at h
   refine ⟨nn hn,?_⟩
   rw [<- jM rx]
   exact ah.run h S (by simp only [RD])
 | isin =>
  cases hi:xF M x y with
  | none=>simp only [bH,hi] at h;exact h.elim
  | some t=>simp only [bH,hi] at h;exact xE (neg:=false) S rx ry hi h
 | n6 =>
  cases hi:xF M x y with
  | none=>simp only [bH,hi] at h;exact h.elim
  | some t=>simp only [bH,hi] at h;exact xE (neg:=true) S rx ry hi h
theorem rJ {o:ze} {a b:Fg.E} (h:T B Φ E (.cmp o a b) σ H Q):Di (pU B o) (T B Φ E a) (T B Φ E b) σ H Q:=by
 obtain ⟨σD,M,F,ρ,S,r,h⟩:=h
 simp only [ev] at h
 exact T.two S r rfl h fun x y M2 F2 ρ2 H2 v w S2 _ rx ry h2=>yv S2 rx ry h2
theorem xu (n:Nat) (i:Int):sr n i=G0 n i:=rfl
theorem yH {ds:List D} {vs:List V} {i:Int} {d:D} (r:ai B F ρ H ds vs) (h:j8 ds i=some d):∃ v,GD vs i=some v/\RD B F ρ H d v:=by
 unfold j8 at h
 unfold GD
 rw [<- ai.length r]
 cases hx:sr ds.length i with
 | none=>rw [hx] at h;cases h
 | some j =>
  rw [hx] at h
  rw [xu] at hx
  rw [hx]
  exact ai.get r h
noncomputable def Im (B:Bd):R2:=fun x y H Q=>∃ a kvs k v,x=.ref a/\y=kV k/\GK B H a kvs/\cy kvs k=some v/\Q v H
noncomputable def Ah (B:Bd):R2:=fun x y H Q=>Il B.K x y H Q\/(Ij B.K x y H Q\/(Ik x y H Q\/Im B x y H Q))
theorem xG {x y:D} {v w:V} {X:XK} (S:SR B F ρ M H) (rx:RD B F ρ H x v) (ry:RD B F ρ H y w) (h:Post B (mh M x y) F ρ H Q X):Ah B v w H Q:=by
 unfold mh at h
 split at h
 ·simp only [RD] at rx ry;subst rx ry
  split at h
  ·rename_i hl
   split at h
   ·rename_i c hc
    exact .inr (.inr (.inl ⟨_,_,c,rfl,rfl,Nat.le_trans (of_decide_eq_true hl) bD,hc,ah.run h S (by simp only [RD])⟩))
   ·exact h.elim
  ·exact h.elim
 ·split at h
  ·rename_i ds i hv _
   split at h
   ·rename_i d hd
    obtain ⟨a,vs,rfl,q,r⟩:=g8 S rx hv
    simp only [RD] at ry;subst ry
    obtain ⟨u,h1,h2⟩:=yH r hd
    exact .inr (.inl ⟨a,vs,i,u,rfl,rfl,q,h1,ah.run h S h2⟩)
   ·exact h.elim
  ·rename_i ds i hv _
   split at h
   ·rename_i d hd
    obtain ⟨a,vs,rfl,q,r⟩:=aW S rx hv
    simp only [RD] at ry;subst ry
    obtain ⟨u,h1,h2⟩:=yH r hd
    exact .inl ⟨a,vs,i,u,rfl,rfl,q,h1,ah.run h S h2⟩
   ·exact h.elim
  ·rename_i bY hv _
   split at h
   ·rename_i k hk
    split at h
    ·rename_i d hd
     obtain ⟨a,kvs,rfl,q,e1,e2⟩:=lE S rx hv
     obtain ⟨u,h1,h2⟩:=(jH (k:=k) e1 e2).1 d hd
     exact .inr (.inr (.inr ⟨a,kvs,k,u,rfl,lZ hk ry,q,h1,ah.run h S h2⟩))
    ·exact h.elim
   ·exact h.elim
  ·exact h.elim
theorem zZ {a b:Fg.E} (h:T B Φ E (.idx a b) σ H Q):Di (Ah B) (T B Φ E a) (T B Φ E b) σ H Q:=by
 obtain ⟨σD,M,F,ρ,S,r,h⟩:=h
 simp only [ev] at h
 exact T.two S r rfl h fun x y M2 F2 ρ2 H2 v w S2 _ rx ry h2=>xG S2 rx ry h2
theorem vJ (n d:Nat) (o:Option Int):six n d o=HT.bX n d o:=by cases o <;> rfl
theorem tH {ds:List D} {vs:List V} (r:ai B F ρ H ds vs) (lo hi:Option Int):ai B F ρ H (cg ds lo hi) (oV vs lo hi):=by
 unfold cg oV
 rw [ai.length r]
 simp only [vJ]
 exact ai.take _ (ai.drop _ r)
noncomputable def Ie:V->Option Int->Option Int->Hp->VK->Prop:=fun x lo hi H Q=>∃ z,x=.str z/\z.length<=sizeLine/\Q (.str (cuts z lo hi)) H
noncomputable def Ag (B:Bd):V->Option Int->Option Int->Hp->VK->Prop:=fun x lo hi H Q=>Ig B.K x lo hi H Q\/(Ic B.K x lo hi H Q\/Ie x lo hi H Q)
theorem zJ {fz:Bool} {x:D} {v:V} {lo hi:Option Int} {X:XK} (S:SR B F ρ M H) (rx:RD B F ρ H x v) (h:Post B (sl2 fz M x lo hi) F ρ H Q X):Ag B v lo hi H Q:=by
 unfold sl2 at h
 split at h
 ·simp only [RD] at rx;subst rx
  split at h
  ·rename_i hl
   exact .inr (.inr ⟨_,rfl,Nat.le_trans (of_decide_eq_true hl) bD,ah.run h S (by simp only [RD])⟩)
  ·exact h.elim
 ·split at h
  ·rename_i ds hv
   cases x with
   | tup xs =>
    simp only [vw] at hv;cases hv
    simp only [RD] at rx
    obtain ⟨a,vs,rfl,z,r⟩:=rx
    split at h
    ·exact h.elim
    ·rename_i hf
     refine .inr (.inl ⟨a,vs,rfl,z.sq,fun q=>hf ?_,je S h (tH r lo hi)⟩)
     simp only [iM,Bool.and_eq_true,decide_eq_true_eq,vJ,ai.length r]
     exact q
   | ref n=>simp only [vw] at hv;split at hv <;> cases hv
   | _=>simp only [vw] at hv;cases hv
  ·rename_i ds hv
   obtain ⟨a,vs,rfl,q,r⟩:=aW S rx hv
   exact .inl ⟨a,vs,rfl,q,dF S h (tH r lo hi)⟩
  ·exact h.elim
theorem Dy {Q:Option Int->Hp->Prop} (h:TP B Φ E .none σ H Q):qW σ H Q:=by
 obtain ⟨σD,M,F,ρ,S,r,h⟩:=h
 simp only [xY] at h
 exact ah.run h S rfl
theorem Dw {a:Fg.E} {Q:Option Int->Hp->Prop} (h:TP B Φ E (.some a) σ H Q):B4 (T B Φ E a) σ H Q:=by
 obtain ⟨σD,M,F,ρ,S,r,h⟩:=h
 simp only [xY] at h
 refine ⟨σD,M,F,ρ,S,r,ah.imp (ah.bind (rel:=RD B) h) fun v H1 ⟨x,M1,F1,ρ1,e1,S1,rx,h1⟩=>?_⟩
 split at h1
 ·simp only [RD] at rx;subst rx
  exact ⟨_,rfl,ah.run h1 S1 rfl⟩
 ·exact h1.elim
theorem Du {fz:Bool} {a:Fg.E} {lo hi:O} (h:T B Φ E (.sl fz a lo hi) σ H Q):tSl (Ag B) (T B Φ E a) (TP B Φ E lo) (TP B Φ E hi) σ H Q:=by
 obtain ⟨σD,M,F,ρ,S,r,h⟩:=h
 simp only [ev] at h
 refine T.one S r rfl h fun x M1 F1 ρ1 H1 v e1 S1 r1 rx h1=>?_
 refine ⟨σD,M1,F1,ρ1,S1,r1,ah.imp (ah.bind (rel:=fun _ _ _ (a b:Option Int)=>a=b) h1) fun l H2 ⟨l',M2,F2,ρ2,e2,S2,el,h2⟩=>?_⟩
 refine ⟨σD,M2,F2,ρ2,S2,r1.mono e2,ah.imp (ah.bind (rel:=fun _ _ _ (a b:Option Int)=>a=b) h2) fun u H3 ⟨u',M3,F3,ρ3,e3,S3,eu,h3⟩=>?_⟩
 subst el eu
 exact zJ S3 (RD.mono e3 _ _ (RD.mono e2 _ _ rx)) h3
theorem tT {M:MH} {d:D} {ds:List D} (h:vw M d=.tup ds):d=.tup ds:=by
 cases d with
 | tup xs=>simp only [vw] at h;cases h;rfl
 | ref n=>simp only [vw] at h;split at h <;> cases h
 | _=>simp only [vw] at h;cases h
theorem l8:∀ {ds:List D} {vs:List V} {ns:List Int},ai B F ρ H ds vs->intsOf ds=some ns->vs=ns.map V.int
 | [],vs,ns,r,h=>by simp only [intsOf] at h;cases h;simp only [ai] at r;subst r;rfl
 | d::ds,vs,ns,r,h=>by
  cases d with
  | int i =>
   simp only [intsOf] at h
   cases hx:intsOf ds with
   | none=>rw [hx] at h;cases h
   | some ms =>
    rw [hx] at h;cases h
    simp only [ai] at r
    obtain ⟨v,ws,rfl,r1,r2⟩:=r
    simp only [RD] at r1;subst r1
    rw [l8 r2 hx];rfl
  | _=>simp [intsOf] at h
noncomputable def DR (B:Bd):List V->Hp->VK->Prop:=fun xs H Q=>(∃ z,xs=[.str z]/\z.length<=sizeLine/\Q (.int z.length) H)\/((∃ p ys,xs=[.ref p]/\(eV B.K H p ys\/gr B.K H p ys)/\Q (.int ys.length) H)\/(∃ a kvs,xs=[.ref a]/\GK B H a kvs/\Q (.int kvs.length) H))
noncomputable def rSum (B:Bd):List V->Hp->VK->Prop:=fun xs H Q=>∃ (p:Addr) (ns:List Int),xs=[.ref p]/\eV B.K H p (ns.map V.int)/\Q (.int ns.sum) H
noncomputable def DO (B:Bd):List V->Hp->VK->Prop:=fun xs H Q=>∃ p ys,xs=[.ref p]/\((eV B.K H p ys/\∀ l,H l=none->Q (.ref l) (upd H l (.tup ys)))\/(gr B.K H p ys/\Q (.ref p) H))
noncomputable def DQ (B:Bd):List V->Hp->VK->Prop:=fun xs H Q=>∃ p ys,xs=[.ref p]/\(eV B.K H p ys\/gr B.K H p ys)/\∀ l,H l=none->Q (.ref l) (upd H l (.lst ys))
noncomputable def v5 (B:Bd):List V->Hp->VK->Prop:=fun xs H Q=>∃ p kvs,xs=[.ref p]/\GK B H p kvs/\∀ l,H l=none->Q (.ref l) (upd H l (.dK kvs))
noncomputable def rBl (B:Bd):Bl->List V->Hp->VK->Prop
 | .len=>DR B
 | .sum=>rSum B
 | .tuple=>DO B
 | .list=>DQ B
 | .dict=>v5 B
 | _=>fun _ _ _=>False
theorem DN {d:D} {vs:List V} (r:ai B F ρ H [d] vs):∃ v,vs=[v]/\RD B F ρ H d v:=by
 simp only [ai] at r
 obtain ⟨v,ws,rfl,r1,rfl⟩:=r
 exact ⟨v,rfl,r1⟩
theorem yF {b:Bl} {fz:Bool} {ds:List D} {vs:List V} {X:XK} (S:SR B F ρ M H) (r:ai B F ρ H ds vs) (h:Post B (uQ b fz M ds) F ρ H Q X):rBl B b vs H Q:=by
  unfold uQ at h
  split at h
  . obtain ⟨v,rfl,r1⟩:=DN r
    simp only [RD] at r1;subst r1
    cases b <;> simp only at h <;> first
      | exact h.elim
      | (split at h
         . rename_i hl
           exact .inl ⟨_,rfl,Nat.le_trans (of_decide_eq_true hl) bD,ah.run h S (by simp only [RD])⟩
         . exact h.elim)
  . obtain ⟨v,rfl,r1⟩:=DN r
    split at h
    . rename_i hv
      obtain ⟨a,ws,rfl,q,rr⟩:=g8 S r1 hv
      exact .inr (.inl ⟨a,ws,rfl,.inr q,ah.run h S (by simp only [RD,ai.length rr])⟩)
    . rename_i hv
      obtain ⟨a,ws,rfl,q,rr⟩:=aW S r1 hv
      exact .inr (.inl ⟨a,ws,rfl,.inl q,ah.run h S (by simp only [RD,ai.length rr])⟩)
    . rename_i hv
      obtain ⟨a,kvs,rfl,q,e1,e2⟩:=lE S r1 hv
      refine .inr (.inr ⟨a,kvs,rfl,q,ah.run h S ?_⟩)
      have:=congrArg List.length e1
      simp only [List.length_map] at this
      simp only [RD,this]
    . rename_i hv
      split at h
      . rename_i ns hn
        obtain ⟨a,ws,rfl,q,rr⟩:=aW S r1 hv
        have:=l8 rr hn
        subst this
        exact ⟨a,ns,rfl,q,ah.run h S (by simp only [RD])⟩
      . exact h.elim
    . rename_i hv
      obtain ⟨a,ws,rfl,q,rr⟩:=aW S r1 hv
      exact ⟨a,ws,rfl,.inl ⟨q,je S h rr⟩⟩
    . rename_i hv
      have ed:=tT hv
      subst ed
      have r1':=r1
      simp only [RD] at r1'
      obtain ⟨a,ws,rfl,q,rr⟩:=r1'
      exact ⟨a,ws,rfl,.inr ⟨q.sq,ah.run h S r1⟩⟩
    . rename_i hv
      obtain ⟨a,ws,rfl,q,rr⟩:=aW S r1 hv
      exact ⟨a,ws,rfl,.inl q,dF S h rr⟩
    . rename_i hv
      obtain ⟨a,ws,rfl,q,rr⟩:=g8 S r1 hv
      exact ⟨a,ws,rfl,.inr q,dF S h rr⟩
    . rename_i bY hv
      obtain ⟨a,kvs,rfl,q,e1,e2⟩:=lE S r1 hv
      refine ⟨a,kvs,rfl,q,fun p hp=>?_⟩
      have e0:Ext F ρ H F (ρ++[p]) (upd H p (.dK kvs)):=⟨⟨S.sep,fun _ q=>q,fun a q _=>aj (by rintro rfl;exact q hp),List.prefix_append _ _,fun a q=>by
        rcases List.mem_append.mp q with q | q
        . exact .inl q
        . rw [List.mem_singleton.mp q];exact .inr hp,fun _ q=>.inl q⟩,fun b w u q=>by rw [aj (by rintro rfl;rw [hp] at q;cases q)];exact q⟩
      obtain ⟨S',e⟩:=S.lv (o:=.dK kvs) (u:=.dct bY) hp ⟨kvs,ay,e1,ai.mono e0 _ _ e2⟩
      refine h _ _ _ _ e S' ?_
      simp only [RD]
      refine ⟨p,?_,rfl⟩
      rw [<- S.len,List.getElem?_append_right (Nat.le_refl _),Nat.sub_self];rfl
    . exact h.elim
  . exact h.elim
theorem rK {b:Bl} {fz:Bool} {es:Es} (h:T B Φ E (.blt b fz es) σ H Q):zB (rBl B b) (TL B Φ E es) σ H Q:=by
 obtain ⟨σD,M,F,ρ,S,r,h⟩:=h
 simp only [ev] at h
 exact TL.one S r rfl h fun x M1 F1 ρ1 H1 v _ S1 _ rx h1=>yF S1 rx h1
end
end Fg
end
section
namespace Fg
open PySem L2
noncomputable def Ku (B:Bd) (o:Out) (F:Addr->Prop) (ρ:List Addr) (H:Hp) (Dn:Ends) (E:Gx):Prop :=
 match o with
 | .nx σD=>∀ σ,RS B F ρ H σD σ->Dn.nx σ H
 | .rt d=>∀ v,RD B F ρ H d v->Dn.rt v H
 | .bk σD=>∀ σ,RS B F ρ H σD σ->Dn.bk σ H
 | .ct σD=>∀ σ,RS B F ρ H σD σ->Dn.ct σ H
 | .xc c σD=>∀ σ cv x,RS B F ρ H σD σ->B.exc c cv->E.e cv x σ H
noncomputable def aI (B:Bd) (r:R Out) (F:Addr->Prop) (ρ:List Addr) (H:Hp) (Dn:Ends) (E:Gx):Prop :=
 match r with
 | .ok o M'=>∀ F' ρ' H',Ext F ρ H F' ρ' H'->SR B F' ρ' M' H'->Ku B o F' ρ' H' Dn E
 | .exc _ _=>False
 | .bad=>False
noncomputable def TC (B:Bd) (Φ:bh) (E:Gx) (s:S):TS:=fun Dn σ H=>∃ (σD:Sg) (M:MH) (F:Addr->Prop) (ρ:List Addr),
 SR B F ρ M H/\RS B F ρ H σD σ/\aI B (ex Φ s σD M) F ρ H Dn E
noncomputable def tP (B:Bd) (Φ:bh) (E:Gx) (s:Ss):TS:=fun Dn σ H=>∃ (σD:Sg) (M:MH) (F:Addr->Prop) (ρ:List Addr),
 SR B F ρ M H/\RS B F ρ H σD σ/\aI B (exs Φ s σD M) F ρ H Dn E
section
variable {B:Bd} {Φ:bh} {E:Gx} {F F' F1:Addr->Prop} {ρ ρ' ρ1:List Addr} {H H' H1:Hp} {M M':MH} {σD:Sg} {σ:St} {Q:VK} {Dn:Ends}
theorem aI.weak {r:R Out} (e:Ext F ρ H F1 ρ1 H1) (h:aI B r F ρ H Dn E):aI B r F1 ρ1 H1 Dn E:=by
 cases r with
 | ok d M'=>exact fun F' ρ' H' e' S=>h F' ρ' H' (e.trans e') S
 | exc c M'=>exact h
 | bad=>exact h
theorem aI.use {α β:Type} {rel:(Addr->Prop)->List Addr->Hp->α->β->Prop} {x:R α} {f:α->MH->R Out} (r:RS B F ρ H σD σ) (h:aI B (x.use σD f) F ρ H Dn E) :
  ah rel B x F ρ H (fun v H'=>∃ d M' F' ρ',Ext F ρ H F' ρ' H'/\SR B F' ρ' M' H'/\rel F' ρ' H' d v/\aI B (f d M') F' ρ' H' Dn E) (fun cv x H'=>E.e cv x σ H'):=by
 cases x with
 | ok d M'=>exact fun F' ρ' H' v e S q=>⟨d,M',F',ρ',e,S,q,aI.weak e h⟩
 | exc c M'=>exact fun F' ρ' H' cv x e S q=>h F' ρ' H' e S σ cv x (r.mono e) q
 | bad=>exact h
theorem TC.one {a:Fg.E} {f:D->MH->R Out} {W:V->Hp->Prop} (S:SR B F ρ M H) (r:RS B F ρ H σD σ) (h:aI B ((ev Φ a σD M).use σD f) F ρ H Dn E)
  (k:∀ x M1 F1 ρ1 H1 v,Ext F ρ H F1 ρ1 H1->SR B F1 ρ1 M1 H1->RS B F1 ρ1 H1 σD σ->RD B F1 ρ1 H1 x v->aI B (f x M1) F1 ρ1 H1 Dn E->W v H1):T B Φ E a σ H W:=by
 refine ⟨σD,M,F,ρ,S,r,ah.imp (aI.use (rel:=RD B) r h) fun v H1 ⟨x,M1,F1,ρ1,e,S1,rx,h1⟩=>?_⟩
 exact k x M1 F1 ρ1 H1 v e S1 (r.mono e) rx h1
theorem aI.run {o:Out} (h:aI B (.ok o M) F ρ H Dn E) (S:SR B F ρ M H):Ku B o F ρ H Dn E:=h F ρ H S.refl S
theorem rB {i:Nat} {e:Fg.E} (h:TC B Φ E (.set i e) Dn σ H):vq (T B Φ E e) (jP i) Dn σ H:=by
 obtain ⟨σD,M,F,ρ,S,r,h⟩:=h
 simp only [ex] at h
 exact TC.one S r h fun x M1 F1 ρ1 H1 v e1 S1 r1 rx h1=>aI.run h1 S1 _ (r1.set rx i)
theorem DA {e:Fg.E} (h:TC B Φ E (.ex e) Dn σ H):B7 (T B Φ E e) Dn σ H:=by
 obtain ⟨σD,M,F,ρ,S,r,h⟩:=h
 simp only [ex] at h
 exact TC.one S r h fun x M1 F1 ρ1 H1 v e1 S1 r1 rx h1=>aI.run h1 S1 _ r1
theorem zO {e:Fg.E} (h:TC B Φ E (.ret e) Dn σ H):HB (T B Φ E e) Dn σ H:=by
 obtain ⟨σD,M,F,ρ,S,r,h⟩:=h
 simp only [ex] at h
 exact TC.one S r h fun x M1 F1 ρ1 H1 v e1 S1 r1 rx h1=>aI.run h1 S1 _ rx
theorem zX {c:Fg.E} {a b:Ss} (h:TC B Φ E (.ifs c a b) Dn σ H):HF (TB B Φ E c) (tP B Φ E a) (tP B Φ E b) Dn σ H:=by
 obtain ⟨σD,M,F,ρ,S,r,h⟩:=h
 simp only [ex] at h
 refine TC.one S r h fun x M1 F1 ρ1 H1 v e1 S1 r1 rx h1=>?_
 split at h1
 ·simp only [RD] at rx;subst rx
  exact ⟨true,rfl,by dsimp only;rw [if_pos rfl];exact ⟨σD,M1,F1,ρ1,S1,r1,h1⟩⟩
 ·simp only [RD] at rx;subst rx
  exact ⟨false,rfl,by dsimp only;rw [if_neg Bool.false_ne_true];exact ⟨σD,M1,F1,ρ1,S1,r1,h1⟩⟩
 ·exact h1.elim
theorem vK (h:tP B Φ E .nil Dn σ H):B6 Dn σ H:=by
 obtain ⟨σD,M,F,ρ,S,r,h⟩:=h
 simp only [exs] at h
 exact aI.run h S _ r
theorem t6 {s:S} {ss:Ss} (h:tP B Φ E (.cons s ss) Dn σ H):HA (TC B Φ E s) (tP B Φ E ss) Dn σ H:=by
 obtain ⟨σD,M,F,ρ,S,r,h⟩:=h
 simp only [exs] at h
 refine ⟨σD,M,F,ρ,S,r,?_⟩
 cases hx:ex Φ s σD M with
 | ok o M1 =>
  rw [hx] at h
  simp only [R.aa] at h
  intro F' ρ' H' e S'
  cases o with
  | nx σ1=>exact fun σ' r'=>⟨σ1,M1,F',ρ',S',r',aI.weak e h⟩
  | rt d=>exact fun v q=>h F' ρ' H' e S' v q
  | bk σ1=>exact fun σ' q=>h F' ρ' H' e S' σ' q
  | ct σ1=>exact fun σ' q=>h F' ρ' H' e S' σ' q
  | xc c σ1=>exact fun σ' cv x q1 q2=>h F' ρ' H' e S' σ' cv x q1 q2
 | exc c M1=>rw [hx] at h;exact h
 | bad=>rw [hx] at h;exact h
theorem qK {fz:Bool} {x:D} {ds:List D} {v:V} {vs:List V} {X:XK} (S:SR B F ρ M H) (rx:RD B F ρ H x v) (r:ai B F ρ H ds vs) (h:Post B (gf .append fz M x ds) F ρ H Q X):lP v vs H Q:=by
 unfold gf at h
 cases hl:fT M x with
 | none=>rw [hl] at h;exact h.elim
 | some q =>
  rw [hl] at h
  obtain ⟨rfl,hx⟩:=ji hl
  cases ds with
  | nil=>exact h.elim
  | cons d t =>
   cases t with
   | cons _ _=>exact h.elim
   | nil =>
    simp only [oh,n5] at h
    split at h
    ·rename_i hlen
     obtain ⟨w,rfl,r1⟩:=DN r
     simp only [RD] at rx
     obtain ⟨a,h1,rfl⟩:=rx
     obtain ⟨ws,h2,h3⟩:=S.obj _ a _ h1 hx
     refine ⟨a,ws,w,rfl,rfl,h2,?_,?_⟩
     ·rw [<- ai.length h3];exact Nat.lt_of_lt_of_le (of_decide_eq_true hlen) bD
     ·obtain ⟨S',e⟩:=S.st (o:=.lst (ws++[w])) (u:=.lst (q.2++[d])) h1 (fun _ _ q=>by rw [h2] at q;cases q) ⟨_,ay,ai.bq (Ext0.at_ S h1) _ _ (h3.append (ai.cons r1 ai.nil))⟩
      exact h _ _ _ _ e S' (by simp only [RD])
    ·exact h.elim
theorem v8 {k:Key} {d:D} {v:V} (rd:RD B F ρ H d v):∀ {bY:List (Ky×D)} {kvs:List (Key×V)},kvs.map (·.1)=bY.map (·.1)->ai B F ρ H (bY.map (·.2)) (kvs.map (·.2)) ->
  (putK kvs k v).map (·.1)=(put bY k d).map (·.1)/\ai B F ρ H ((put bY k d).map (·.2)) ((putK kvs k v).map (·.2)):=by
 have hmap:∀ {bY:List (Ky×D)} {kvs:List (Key×V)},kvs.map (·.1)=bY.map (·.1)->ai B F ρ H (bY.map (·.2)) (kvs.map (·.2)) ->
   (kvs.map fun kv=>if kv.1=k then (kv.1,v) else kv).map (·.1)=(bY.map fun kv=>if kv.1=k then (kv.1,d) else kv).map (·.1) /\
   ai B F ρ H ((bY.map fun kv=>if kv.1=k then (kv.1,d) else kv).map (·.2)) ((kvs.map fun kv=>if kv.1=k then (kv.1,v) else kv).map (·.2)):=by
  intro bY
  induction bY with
  | nil=>intro kvs h1 h2;cases kvs with | nil=>exact ⟨rfl,ai.nil⟩ | cons _ _=>simp at h1
  | cons p bY ih =>
   intro kvs h1 h2
   cases kvs with
   | nil=>simp at h1
   | cons q kvs =>
    obtain ⟨pk,pd⟩:=p
    obtain ⟨qk,qv⟩:=q
    simp only [List.map_cons,List.cons.injEq] at h1
    simp only [List.map_cons,ai] at h2
    obtain ⟨u,ws,e,r1,r2⟩:=h2
    cases e
    obtain ⟨e1,e2⟩:=h1
    subst e1
    obtain ⟨i1,i2⟩:=ih e2 r2
    by_cases hk:qk=k
    ·simp only [List.map_cons,if_pos hk,i1,true_and]
     exact ai.cons rd i2
    ·simp only [List.map_cons,if_neg hk,i1,true_and]
     exact ai.cons r1 i2
 have hany:∀ {bY:List (Ky×D)} {kvs:List (Key×V)},kvs.map (·.1)=bY.map (·.1)->(kvs.any fun kv=>decide (kv.1=k))=(bY.any fun kv=>decide (kv.1=k)):=by
  intro bY
  induction bY with
  | nil=>intro kvs h1;cases kvs with | nil=>rfl | cons _ _=>simp at h1
  | cons p bY ih =>
   intro kvs h1
   cases kvs with
   | nil=>simp at h1
   | cons q kvs =>
    simp only [List.map_cons,List.cons.injEq] at h1
    simp only [List.any_cons,h1.1,ih h1.2]
 intro bY kvs h1 h2
 unfold putK put
 rw [hany h1]
 split
 ·exact hmap h1 h2
 ·simp only [List.map_append,List.map_cons,List.map_nil,h1,true_and]
  exact h2.append (ai.cons rd ai.nil)
noncomputable def Walks (B:Bd) (J:It) (src:D) (ds:List D) (F0:Addr->Prop) (ρ0:List Addr) (M0:MH) (H0:Hp):Prop :=
 ∀ (i:Nat) F ρ M H,Ext F0 ρ0 H0 F ρ H->SR B F ρ M H->aO M0 src M=true ->
  (∀ d,ds[i]? = some d->J.go i H/\∀ x H',J.KH i H x H'->∃ F',Ext F ρ H F' ρ H'/\SR B F' ρ M H'/\RD B F' ρ H' d x)/\(ds.length<=i->J.stop i H)
noncomputable def GI (B:Bd) (Φ:bh) (E:Gx) (c:Src):TI:=fun σ H R=>∃ (σD:Sg) (M:MH) (F:Addr->Prop) (ρ:List Addr),
 SR B F ρ M H/\RS B F ρ H σD σ/\ah (fun F' ρ' H' (p:D×List D×Bool) (J:It)=>∀ M',eO Φ c σD M=.ok p M'->SR B F' ρ' M' H'->Walks B J p.1 p.2.1 F' ρ' M' H' /\
  (p.2.2=true->∃ n a,p.1=.ref n/\ρ'[n]? = some a/\E.th a/\∀ w v,H a≠some (.fJ w v))) B (eO Φ c σD M) F ρ H R (fun cv x H'=>E.e cv x σ H')
noncomputable def thE (th:Addr->Prop) (D:Ends):Ends:=⟨fun σ H=>∃ H',zb th H H'/\D.nx σ H',fun v H=>∃ H',zb th H H'/\D.rt v H',fun σ H=>∃ H',zb th H H'/\D.bk σ H',fun σ H=>∃ H',zb th H H'/\D.ct σ H'⟩
theorem cE {F1:Addr->Prop} {ρ0 ρ1:List Addr} {H1:Hp} {M1:MH} {fl:Bool} {src:D} {th:Addr->Prop} (S:SR B F1 ρ1 M1 H1) (e:Ext F ρ H F1 ρ1 H1) (hp:ρ0 <+: ρ1) (wz:fl=true->∃ n a,src=.ref n/\ρ0[n]? = some a/\th a/\∀ w v,H a≠some (.fJ w v)) :
  ∃ H',zb th H1 H'/\SR B F1 ρ1 (eX fl src M1) H'/\Ext F ρ H F1 ρ1 H'/\Ext0 F1 ρ1 H1 F1 ρ1 H':=by
 have same:SR B F1 ρ1 M1 H1/\Ext F ρ H F1 ρ1 H1/\Ext0 F1 ρ1 H1 F1 ρ1 H1:=⟨S,e,S.refl.toExt0⟩
 cases fl with
 | false=>exact ⟨H1,.inl rfl,by cases src <;> exact same⟩
 | true =>
  obtain ⟨n,a,rfl,hn,ht,hz⟩:=wz rfl
  have hn1:ρ1[n]? = some a:=by
   obtain ⟨t,rfl⟩:=hp
   obtain ⟨q,_⟩:=List.getElem?_eq_some_iff.mp hn
   rw [List.getElem?_append_left q];exact hn
  cases hM:M1[n]? with
  | none=>refine ⟨H1,.inl rfl,?_⟩;simp only [eX,hM];exact same
  | some o =>
   cases o with
   | ng kvs =>
    obtain ⟨o,kws,h1,S'⟩:=S.uw hn1 hM
    refine ⟨upd H1 a (.dK kws),.inr ⟨a,o,kws,ht,h1,rfl⟩,?_,e.thaw (List.mem_of_getElem? hn1) hz S.sep,Ext0.at_ S hn1⟩
    simp only [eX,hM];exact S'
   | lst _=>refine ⟨H1,.inl rfl,?_⟩;simp only [eX,hM];exact same
   | dct _=>refine ⟨H1,.inl rfl,?_⟩;simp only [eX,hM];exact same
   | ins _ _=>refine ⟨H1,.inl rfl,?_⟩;simp only [eX,hM];exact same
theorem RS.bq {F':Addr->Prop} {ρ':List Addr} {H':Hp} (e:Ext0 F ρ H F' ρ' H') (h:RS B F ρ H σD σ):RS B F' ρ' H' σD σ :=
 ⟨h.len,fun i d q=>let ⟨v,h1,h2⟩:=h.get i d q;⟨v,h1,RD.bq e d v h2⟩⟩
noncomputable def G3 (tg:List Nat) (K:W.Frag):TG:=match tg with
 | [i]=>jP i
 | [i,j]=>fun v σ H Q=>∃ a x y,v=.ref a/\gr K H a [x,y]/\Q ((σ.set i (some x)).set j (some y)) H
 | []=>fun _ _ _ _=>False
 | tg=>fun v σ H Q=>∃ a xs,v=.ref a/\gr K H a xs/\xs.length=tg.length/\Q (ic tg xs σ) H
theorem RS.all:∀ {tg:List Nat} {ds:List D} {vs:List V} {σD:Sg} {σ:St},RS B F ρ H σD σ->ai B F ρ H ds vs->RS B F ρ H (ic tg ds σD) (ic tg vs σ)
 | [],ds,vs,σD,σ,r,q=>by cases ds <;> cases vs <;> exact r
 | i::tg,[],vs,σD,σ,r,q=>by simp only [ai] at q;subst q;exact r
 | i::tg,d::ds,vs,σD,σ,r,q=>by
  simp only [ai] at q
  obtain ⟨v,ws,rfl,h1,h2⟩:=q
  exact RS.all (tg:=tg) (ds:=ds) (vs:=ws) (σD:=σD.set i (some d)) (σ:=σ.set i (some v)) (r.set h1 i) h2
theorem jw {tg:List Nat} {d:D} {v:V} {σ1:Sg} {N:St->Hp->Prop} (r:RS B F ρ H σD σ) (rd:RD B F ρ H d v) (h:sets tg M d σD=some σ1) (k:∀ σ',RS B F ρ H σ1 σ'->N σ' H):G3 tg B.K v σ H N:=by
 unfold sets at h
 split at h
 ·cases h;exact k _ (r.set rd _)
 ·split at h
  ·cases h
   simp only [RD] at rd
   obtain ⟨a,vs,rfl,z,q⟩:=rd
   simp only [ai] at q
   obtain ⟨x,ws,rfl,r1,y,us,rfl,r2,rfl⟩:=q
   exact ⟨a,x,y,rfl,z.sq,k _ ((r.set r1 _).set r2 _)⟩
  ·cases h
 ·cases h
 ·rename_i h1 h2 h3
  split at h
  ·rename_i xs
   split at h
   ·rename_i hl
    cases h
    simp only [RD] at rd
    obtain ⟨a,vs,rfl,z,q⟩:=rd
    have e:vs.length=tg.length:=by rw [<- ai.length q];exact hl
    match tg,h1,h2,h3,e,k with
    | i::j::l::tg,_,_,_,e,k=>exact ⟨a,vs,rfl,z.sq,e,k _ (r.all q)⟩
    | [i],h1,_,_,_,_=>exact absurd rfl (h1 i)
    | [i,j],_,h2,_,_,_=>exact absurd rfl (h2 i j)
    | [],_,_,h3,_,_=>exact absurd rfl h3
   ·cases h
  ·cases h
theorem z9 {tg:List Nat} {it:Src} {b:Ss} (h:TC B Φ E (.for tg it b) Dn σ H):HG (GI B Φ E it) (G3 tg B.K) (tP B Φ E b) (thE E.th Dn) σ H:=by
 obtain ⟨σD,M,F,ρ,S,r,h⟩:=h
 simp only [ex] at h
 refine ⟨σD,M,F,ρ,S,r,?_⟩
 cases hx:eO Φ it σD M with
 | exc c M1=>rw [hx] at h;exact fun F' ρ' H' cv x e S q=>h F' ρ' H' e S σ cv x (r.mono e) q
 | bad=>rw [hx] at h;exact h
 | ok p M0 =>
  rw [hx] at h
  simp only [R.gb] at h
  intro F0 ρ0 H0 J e0 S0 hw
  obtain ⟨W,wz⟩:=hw M0 rfl S0
  obtain ⟨src,ds,fl⟩:=p
  dsimp only at h W wz
  refine ⟨fun i m σ H1=>m+i=ds.length/\∃ σD M F1 ρ1,Ext F ρ H F1 ρ1 H1/\Ext F0 ρ0 H0 F1 ρ1 H1/\SR B F1 ρ1 M H1/\RS B F1 ρ1 H1 σD σ/\aO M0 src M=true/\aI B ((cj (exs Φ b) tg (aO M0 src) (ds.drop i) σD M).fin (eX fl src)) F ρ H Dn E,⟨ds.length,by simp,σD,M0,F0,ρ0,e0,S0.refl,S0,r.mono e0,?_,h⟩,?_⟩
  ·unfold aO;split <;> simp
  rintro i m σ1 H1 ⟨hm,zg,M1,F1,ρ1,eo,e1,S1,r1,st1,p1⟩
  obtain ⟨wgo,wst⟩:=W i F1 ρ1 M1 H1 e1 S1 st1
  by_cases hi:i<ds.length
  ·have hd:ds.drop i=ds[i]::ds.drop (i+1):=List.drop_eq_getElem_cons hi
   rw [hd] at p1
   unfold cj at p1
   obtain ⟨go,yl⟩:=wgo ds[i] (List.getElem?_eq_getElem hi)
   refine .inr ⟨go,fun σ' H'=>∃ σD M F1 ρ1,Ext F ρ H F1 ρ1 H'/\Ext F0 ρ0 H0 F1 ρ1 H'/\SR B F1 ρ1 M H'/\RS B F1 ρ1 H' σD σ'/\aO M0 src M=true/\aI B ((cj (exs Φ b) tg (aO M0 src) (ds.drop (i+1)) σD M).fin (eX fl src)) F ρ H Dn E,fun σ' H' q=>⟨m-1,by omega,by omega,q⟩,fun x H' hy=>?_⟩
   obtain ⟨F',e2,S2,rd⟩:=yl x H' hy
   split at p1
   ·exact p1.elim
   ·rename_i σ2 hs
    refine jw (r1.mono e2) rd hs fun σ' r'=>⟨σ2,M1,F',ρ1,S2,r',?_⟩
    cases hb:exs Φ b σ2 M1 with
    | exc c M3=>rw [hb] at p1;exact p1.elim
    | bad=>rw [hb] at p1;exact p1.elim
    | ok o M3 =>
     rw [hb] at p1
     simp only [R.aa] at p1
     intro F3 ρ3 H3 e3 S3
     have JT:=(eo.trans e2).trans e3
     have JZ:=(e1.trans e2).trans e3
     cases o with
     | nx σ3 =>
      simp only at p1
      intro σ4 r4
      split at p1
      ·rename_i hst
       exact ⟨σ3,M3,F3,ρ3,JT,JZ,S3,r4,hst,p1⟩
      ·exact p1.elim
     | ct σ3 =>
      simp only at p1
      intro σ4 r4
      split at p1
      ·rename_i hst
       exact ⟨σ3,M3,F3,ρ3,JT,JZ,S3,r4,hst,p1⟩
      ·exact p1.elim
     | bk σ3 =>
      obtain ⟨H4,t4,S4,e4,x4⟩:=cE S3 JT JZ.r wz
      exact fun σ4 r4=>⟨H4,t4,p1 F3 ρ3 H4 e4 S4 σ4 (r4.bq x4)⟩
     | rt d =>
      obtain ⟨H4,t4,S4,e4,x4⟩:=cE S3 JT JZ.r wz
      exact fun v q=>⟨H4,t4,p1 F3 ρ3 H4 e4 S4 v (RD.bq x4 _ _ q)⟩
     | xc c σ3 =>
      obtain ⟨H4,t4,S4,e4,x4⟩:=cE S3 JT JZ.r wz
      exact fun σ4 cv x q1 q2=>E.cl cv x σ4 H3 H4 t4 (p1 F3 ρ3 H4 e4 S4 σ4 cv x (q1.bq x4) q2)
  ·have hd:ds.drop i=[]:=List.drop_eq_nil_of_le (Nat.le_of_not_lt hi)
   rw [hd] at p1
   unfold cj at p1
   obtain ⟨H4,t4,S4,e4,x4⟩:=cE S1 eo e1.r wz
   exact .inl ⟨wst (Nat.le_of_not_lt hi),H4,t4,p1 F1 ρ1 H4 e4 S4 σ1 (r1.bq x4)⟩
theorem tZ {c:Fg.E} {b:Ss} (h:TC B Φ E (.while c b) Dn σ H):vo (TB B Φ E c) (tP B Φ E b) Dn σ H:=by
 obtain ⟨σD,M,F,ρ,S,r,h⟩:=h
 simp only [ex] at h
 refine ⟨fun m σ H=>∃ σD M F ρ,SR B F ρ M H/\RS B F ρ H σD σ/\aI B (cM (ev Φ c) (exs Φ b) m σD M) F ρ H Dn E,⟨Φ.turns,σD,M,F,ρ,S,r,h⟩,?_⟩
 rintro m σ1 H1 ⟨zg,M1,F1,ρ1,S1,r1,p1⟩
 cases m with
 | zero=>simp only [cM] at p1;exact p1.elim
 | succ m =>
  simp only [cM] at p1
  refine TC.one S1 r1 p1 fun x M2 F2 ρ2 H2 v e2 S2 r2 rx h2=>?_
  split at h2
  ·simp only [RD] at rx;subst rx
   refine ⟨false,rfl,?_⟩
   exact aI.run h2 S2 _ r2
  ·simp only [RD] at rx;subst rx
   refine ⟨true,rfl,?_⟩
   refine ⟨fun σ' H'=>∃ σD M F ρ,SR B F ρ M H'/\RS B F ρ H' σD σ'/\aI B (cM (ev Φ c) (exs Φ b) m σD M) F ρ H' Dn E,fun σ' H' q=>⟨m,Nat.lt_succ_self m,q⟩,zg,M2,F2,ρ2,S2,r2,?_⟩
   cases hb:exs Φ b zg M2 with
   | exc c M3=>rw [hb] at h2;exact h2
   | bad=>rw [hb] at h2;exact h2
   | ok o M3 =>
    rw [hb] at h2
    simp only [R.aa] at h2
    intro F3 ρ3 H3 e3 S3
    cases o with
    | nx σ3=>exact fun σ4 r4=>⟨σ3,M3,F3,ρ3,S3,r4,aI.weak e3 h2⟩
    | ct σ3=>exact fun σ4 r4=>⟨σ3,M3,F3,ρ3,S3,r4,aI.weak e3 h2⟩
    | bk σ3=>exact fun σ4 r4=>h2 F3 ρ3 H3 e3 S3 σ4 r4
    | rt d=>exact fun v q=>h2 F3 ρ3 H3 e3 S3 v q
    | xc c σ3=>exact fun σ4 cv x q1 q2=>h2 F3 ρ3 H3 e3 S3 σ4 cv x q1 q2
  ·exact h2.elim
end
end Fg
end
section
namespace Fg
open PySem PySem.Spec L2
mutual
inductive VV (h:Heap):D->Value->Prop
 | ao:VV h .ao .none
 | bl (b:Bool):VV h (.bl b) (.bool b)
 | int (i:Int) (t:Tok):VV h (.int i) (.int i t)
 | str (x:Str) (t:Tok):VV h (.str x) (.str x t)
 | tup {ds:List D} {a:Addr} {its:List Value}:h.IsTuple a its.toArray->iX h ds its->VV h (.tup ds) (.ref a)
 | lst {ds:List D} {a:Addr} {its:List Value}:h.IsList a its.toArray->iX h ds its->VV h (.lst ds) (.ref a)
inductive iX (h:Heap):List D->List Value->Prop
 | nil:iX h [] []
 | cons {d:D} {u:Value} {ds:List D} {us:List Value}:VV h d u->iX h ds us->iX h (d::ds) (u::us)
end
section
variable {X:Cx} {pins:List (Addr×Obj)} {σ:L2.St} {H:Hp} {s:Shared}
mutual
theorem DV.vv (I:Inv X pins σ H s):∀ (d:D) (x:V) (u:Value),DV X.K H d x->RelV x u->VV s.heap d u
 | .ao,x,u,h,r=>by simp only [DV] at h;subst h;cases (show u=Value.none from r);exact .ao
 | .bl b,x,u,h,r=>by simp only [DV] at h;subst h;cases (show u=Value.bool b from r);exact .bl b
 | .int i,x,u,h,r=>by simp only [DV] at h;subst h;obtain ⟨t,rfl⟩:=(show ∃ t,u=Value.int i t from r);exact .int i t
 | .str z,x,u,h,r=>by simp only [DV] at h;subst h;obtain ⟨t,rfl⟩:=(show ∃ t,u=Value.str z t from r);exact .str z t
 | .tup ds,x,u,h,r=>by
  simp only [DV] at h
  obtain ⟨a,vs,rfl,h1,h2⟩:=h
  cases (show u=Value.ref a from r)
  obtain ⟨its,r1,t1,_⟩:=I.tuple h1
  exact .tup t1 (nh.vv I ds vs its h2 r1)
 | .lst ds,x,u,h,r=>by
  simp only [DV] at h
  obtain ⟨a,vs,rfl,h1,h2⟩:=h
  cases (show u=Value.ref a from r)
  obtain ⟨its,r1,t1,_⟩:=I.list h1
  exact .lst t1.isList (nh.vv I ds vs its h2 r1)
 | .dct _ _,x,u,h,r=>by simp only [DV] at h
 | .ref _,x,u,h,r=>by simp only [DV] at h
 | .iY _,x,u,h,r=>by simp only [DV] at h
theorem nh.vv (I:Inv X pins σ H s):∀ (ds:List D) (xs:List V) (us:List Value),nh X.K H ds xs->Vals xs us->iX s.heap ds us
 | [],xs,us,h,r=>by simp only [nh] at h;subst h;cases r;exact .nil
 | d::ds,xs,us,h,r=>by
  simp only [nh] at h
  obtain ⟨v,ws,rfl,h1,h2⟩:=h
  cases r with
  | cons r1 r2=>exact .cons (DV.vv I d _ _ h1 r1) (nh.vv I ds _ _ h2 r2)
end
end
theorem zy {h:Heap} {a:Addr} {x y:List Value} (p:h.IsTuple a x.toArray) (q:h.IsTuple a y.toArray):x=y:=by
 obtain ⟨o,e,_,n,d⟩:=p
 obtain ⟨o',e',_,n',d'⟩:=q
 rw [e] at e';cases e';rw [d] at d';simpa using (Data.seq.inj d').1
theorem AS {h:Heap} {a:Addr} {x y:List Value} (p:h.IsList a x.toArray) (q:h.IsList a y.toArray):x=y:=by
 obtain ⟨o,e,_,n,d⟩:=p
 obtain ⟨o',e',_,n',d'⟩:=q
 rw [e] at e';cases e';rw [d] at d';simpa using (Data.seq.inj d').1
mutual
theorem VV.same {s:Shared}:∀ (d e:D) (u:Value),VV s.heap d u->VV s.heap e u->aD d e=true
 | .ao,_,_,p,q=>by cases p;cases q;rfl
 | .bl _,_,_,p,q=>by cases p;cases q;simp [aD]
 | .int _,_,_,p,q=>by cases p;cases q;simp [aD]
 | .str _,_,_,p,q=>by cases p;cases q;simp [aD]
 | .tup ds,_,_,p,q=>by
  cases p with
  | tup t1 p=>cases q with
   | tup t2 q=>simp only [aD];exact iX.same ds _ _ p (zy t1 t2 ▸ q)
   | lst t2 q=>exact absurd rfl (SeqAt.ne_of_list_tuple t2 t1)
 | .lst ds,_,_,p,q=>by
  cases p with
  | lst t1 p=>cases q with
   | lst t2 q=>simp only [aD];exact iX.same ds _ _ p (AS t1 t2 ▸ q)
   | tup t2 q=>exact absurd rfl (SeqAt.ne_of_list_tuple t1 t2)
 | .dct _ _,_,_,p,_=>nomatch p
 | .ref _,_,_,p,_=>nomatch p
 | .iY _,_,_,p,_=>nomatch p
theorem iX.same {s:Shared}:∀ (ds es:List D) (us:List Value),iX s.heap ds us->iX s.heap es us->cT ds es=true
 | [],_,_,p,q=>by cases p;cases q;rfl
 | d::ds,_,_,p,q=>by
  cases p with
  | cons p1 p2=>cases q with
   | cons q1 q2=>simp only [cT,VV.same d _ _ p1 q1,iX.same ds _ _ p2 q2,Bool.and_self]
end
theorem iX.length {h:Heap}:∀ {ds:List D} {us:List Value},iX h ds us->ds.length=us.length
 | _,_,.nil=>rfl
 | _,_,.cons _ q=>by simp [iX.length q]
theorem iX.get {h:Heap}:∀ {ds:List D} {us:List Value} {i:Nat} (h1:i<us.length),iX h ds us->∃ d,ds[i]? = some d/\VV h d us[i]/\dep d<=deps ds
 | _,_,i,h1,.nil=>by simp at h1
 | d::ds,u::us,i,h1,.cons p q=>by
  cases i with
  | zero=>exact ⟨d,rfl,p,by simp only [deps];omega⟩
  | succ i =>
   obtain ⟨e,a,b,c⟩:=iX.get (i:=i) (by simpa using h1) q
   exact ⟨e,by simpa using a,by simpa using b,by simp only [deps];omega⟩
noncomputable def pairD (ds es:List D) (j:Nat):Bool:=match ds[j]?,es[j]? with | some a,some b=>aD a b | _,_=>false
theorem j4:∀ (ds es:List D),((List.range (min ds.length es.length)).all (pairD ds es)&&ds.length == es.length)=cT ds es
 | [],[]=>by simp [cT]
 | [],e::es=>by simp [cT]
 | d::ds,[]=>by simp [cT]
 | d::ds,e::es=>by
  have ih:=j4 ds es
  simp only [cT,<- ih]
  simp only [List.length_cons,Nat.succ_min_succ,List.range_succ_eq_map,List.all_cons,List.all_map,Function.comp_def]
  simp [Bool.and_assoc,pairD]
  rfl
theorem in1_units (A:Around):A.in1.units=A.units+1:=rfl
section
variable {s:Shared}
noncomputable def GO (s:Shared) (n:Nat):Prop:=∀ (d e:D) (u w:Value) (A:Around),dep d+dep e<n->VV s.heap d u->VV s.heap e w->A.units+min (dep d) (dep e)<cLine->SeqAt.RcAt A s u w (aD d e)/\SeqAt.EqAt A s u w (aD d e)
theorem GO.items {n:Nat} {ds es:List D} {us ws:List Value} {A:Around} (ih:GO s n) (hn:deps ds+deps es<n) (p:iX s.heap ds us) (q:iX s.heap es ws) (hA:A.units+(min (deps ds) (deps es)+1)<cLine) :
  ∀ j (h1:j<us.toArray.size) (h2:j<ws.toArray.size),SeqAt.EqAt A.in1 s us.toArray[j] ws.toArray[j] (pairD ds es j):=by
 intro j h1 h2
 obtain ⟨d,e1,p1,g1⟩:=p.get (i:=j) (by simpa using h1)
 obtain ⟨e,e2,p2,g2⟩:=q.get (i:=j) (by simpa using h2)
 simp only [pairD,e1,e2]
 exact (ih d e _ _ A.in1 (by omega) p1 p2 (by rw [in1_units];omega)).2
theorem GO.tup {n:Nat} {ds es:List D} {us ws:List Value} {a b:Addr} {A:Around} (ih:GO s n) (hn:deps ds+deps es<n) (t1:s.heap.IsTuple a us.toArray) (t2:s.heap.IsTuple b ws.toArray) (p:iX s.heap ds us) (q:iX s.heap es ws) (hA:A.units+(min (deps ds) (deps es)+1)<cLine) :
  SeqAt.RcAt A s (.ref a) (.ref b) (cT ds es)/\SeqAt.RcNeAt A s (.ref a) (.ref b) (!cT ds es):=by
 have hi:=ih.items hn p q hA
 have r:=SeqAt.RcAt.tuples t1 t2 (by omega) hi
 have r':=SeqAt.RcNeAt.tuples t1 t2 (by omega) hi
 simp only [List.size_toArray,<- p.length,<- q.length,j4] at r r'
 exact ⟨r,r'⟩
theorem GO.lst {n:Nat} {ds es:List D} {us ws:List Value} {a b:Addr} {A:Around} (ih:GO s n) (hn:deps ds+deps es<n) (t1:s.heap.IsList a us.toArray) (t2:s.heap.IsList b ws.toArray) (p:iX s.heap ds us) (q:iX s.heap es ws) (hA:A.units+(min (deps ds) (deps es)+1)<cLine) :
  SeqAt.RcAt A s (.ref a) (.ref b) (cT ds es)/\SeqAt.RcNeAt A s (.ref a) (.ref b) (!cT ds es):=by
 have z:=j4 ds es
 by_cases hz:us.length=ws.length
 ·have hi:=ih.items hn p q hA
  have r:=SeqAt.RcAt.lists t1 t2 (by simpa using hz) (by omega) hi
  have r':=SeqAt.RcNeAt.lists t1 t2 (by simpa using hz) (by omega) hi
  rw [p.length,q.length,<- hz,Nat.min_self,beq_self_eq_true,Bool.and_true] at z
  rw [List.size_toArray,z] at r r'
  exact ⟨r,r'⟩
 ·rw [p.length,q.length,beq_false_of_ne hz,Bool.and_false] at z
  rw [<- z]
  exact ⟨SeqAt.RcAt.lists_lengths t1 t2 (by simpa using hz) (by omega),SeqAt.RcNeAt.lists_lengths t1 t2 (by simpa using hz) (by omega)⟩
theorem eq_data:∀ (n:Nat),GO s n
 | 0=>fun _ _ _ _ _ h=>absurd h (Nat.not_lt_zero _)
 | n+1=>by
  intro d e u w A hn hd he hA
  have ih:=eq_data n
  have hu:A.units<cLine:=by omega
  have fin:∀ {a b:Addr},VV s.heap d (.ref a)->VV s.heap e (.ref b)->SeqAt.RcAt A s (.ref a) (.ref b) (aD d e)->SeqAt.RcAt A s (.ref a) (.ref b) (aD d e)/\SeqAt.EqAt A s (.ref a) (.ref b) (aD d e):=fun {a b} p q r=>by
   refine ⟨r,?_⟩
   by_cases hab:a=b
   ·subst hab
    rw [VV.same d e _ p q]
    exact .same _
   ·exact .of_refs hab r
  have hd':=hd
  have he':=he
  cases hd with
  | ao=>cases he with
   | ao=>simp only [aD];exact ⟨.none_none,.same _⟩
   | bl b2=>simp only [aD];exact ⟨.none_bool b2,.none_bool b2⟩
   | int i2 t2=>simp only [aD];exact ⟨.none_int i2 t2,.none_int i2 t2⟩
   | str x2 t2=>simp only [aD];exact ⟨.none_str x2 t2,.none_str x2 t2⟩
   | lst p2 q2=>simp only [aD];exact ⟨.none_list p2 hu,.none_list p2 hu⟩
   | tup p2 q2=>simp only [aD];exact ⟨.none_tuple p2 hu,.none_tuple p2 hu⟩
  | bl b1=>cases he with
   | ao=>simp only [aD];exact ⟨.bool_none b1,.bool_none b1⟩
   | bl b2=>simp only [aD];exact ⟨.bool_bool b1 b2,.bool_bool b1 b2⟩
   | int i2 t2=>simp only [aD];exact ⟨.bool_int b1 i2 t2,.bool_int b1 i2 t2⟩
   | str x2 t2=>simp only [aD];exact ⟨.bool_str b1 x2 t2,.bool_str b1 x2 t2⟩
   | lst p2 q2=>simp only [aD];exact ⟨.bool_list b1 p2 hu,.bool_list b1 p2 hu⟩
   | tup p2 q2=>simp only [aD];exact ⟨.bool_tuple b1 p2 hu,.bool_tuple b1 p2 hu⟩
  | int i1 t1=>cases he with
   | ao=>simp only [aD];exact ⟨.int_none i1 t1,.int_none i1 t1⟩
   | bl b2=>simp only [aD];exact ⟨.int_bool i1 t1 b2,.int_bool i1 t1 b2⟩
   | int i2 t2=>simp only [aD];exact ⟨.int_int i1 t1 i2 t2,.int_int i1 t1 i2 t2⟩
   | str x2 t2=>simp only [aD];exact ⟨.int_str i1 t1 x2 t2,.int_str i1 t1 x2 t2⟩
   | lst p2 q2=>simp only [aD];exact ⟨.int_list i1 t1 p2 hu,.int_list i1 t1 p2 hu⟩
   | tup p2 q2=>simp only [aD];exact ⟨.int_tuple i1 t1 p2 hu,.int_tuple i1 t1 p2 hu⟩
  | str x1 t1=>cases he with
   | ao=>simp only [aD];exact ⟨.str_none x1 t1,.str_none x1 t1⟩
   | bl b2=>simp only [aD];exact ⟨.str_bool x1 t1 b2,.str_bool x1 t1 b2⟩
   | int i2 t2=>simp only [aD];exact ⟨.str_int x1 t1 i2 t2,.str_int x1 t1 i2 t2⟩
   | str x2 t2=>simp only [aD];exact ⟨.str_str x1 t1 x2 t2,.str_str x1 t1 x2 t2⟩
   | lst p2 q2=>simp only [aD];exact ⟨.str_list x1 t1 p2 hu,.str_list x1 t1 p2 hu⟩
   | tup p2 q2=>simp only [aD];exact ⟨.str_tuple x1 t1 p2 hu,.str_tuple x1 t1 p2 hu⟩
  | lst p1 q1=>cases he with
   | ao=>simp only [aD];exact ⟨.list_none p1 hu,.list_none p1 hu⟩
   | bl b2=>simp only [aD];exact ⟨.list_bool b2 p1 hu,.list_bool b2 p1 hu⟩
   | int i2 t2=>simp only [aD];exact ⟨.list_int i2 t2 p1 hu,.list_int i2 t2 p1 hu⟩
   | str x2 t2=>simp only [aD];exact ⟨.list_str x2 t2 p1 hu,.list_str x2 t2 p1 hu⟩
   | lst p2 q2=>simp only [dep] at hn hA;exact fin hd' he' (by simp only [aD];exact (ih.lst (by omega) p1 p2 q1 q2 (by omega)).1)
   | tup p2 q2=>simp only [aD];exact ⟨.list_tuple p1 p2 hu,.list_tuple p1 p2 hu⟩
  | tup p1 q1=>cases he with
   | ao=>simp only [aD];exact ⟨.tuple_none p1 hu,.tuple_none p1 hu⟩
   | bl b2=>simp only [aD];exact ⟨.tuple_bool b2 p1 hu,.tuple_bool b2 p1 hu⟩
   | int i2 t2=>simp only [aD];exact ⟨.tuple_int i2 t2 p1 hu,.tuple_int i2 t2 p1 hu⟩
   | str x2 t2=>simp only [aD];exact ⟨.tuple_str x2 t2 p1 hu,.tuple_str x2 t2 p1 hu⟩
   | lst p2 q2=>simp only [aD];exact ⟨.tuple_list p1 p2 hu,.tuple_list p1 p2 hu⟩
   | tup p2 q2=>simp only [dep] at hn hA;exact fin hd' he' (by simp only [aD];exact (ih.tup (by omega) p1 p2 q1 q2 (by omega)).1)
theorem ne_data {d e:D} {u w:Value} {A:Around} (hd:VV s.heap d u) (he:VV s.heap e w) (hA:A.units+min (dep d) (dep e)<cLine):SeqAt.RcNeAt A s u w (!aD d e):=by
 have ih:=eq_data (s:=s) (dep d+dep e)
 have hu:A.units<cLine:=by omega
 cases hd with
 | ao=>cases he with
  | ao=>simp only [aD,Bool.not_true];exact .none_none
  | bl b2=>simp only [aD,Bool.not_false];exact .none_bool b2
  | int i2 t2=>simp only [aD,Bool.not_false];exact .none_int i2 t2
  | str x2 t2=>simp only [aD,Bool.not_false];exact .none_str x2 t2
  | lst p2 q2=>simp only [aD,Bool.not_false];exact .none_list p2 hu
  | tup p2 q2=>simp only [aD,Bool.not_false];exact .none_tuple p2 hu
 | bl b1=>cases he with
  | ao=>simp only [aD,Bool.not_false];exact .bool_none b1
  | bl b2=>simp only [aD];exact .bool_bool b1 b2
  | int i2 t2=>simp only [aD];exact .bool_int b1 i2 t2
  | str x2 t2=>simp only [aD,Bool.not_false];exact .bool_str b1 x2 t2
  | lst p2 q2=>simp only [aD,Bool.not_false];exact .bool_list b1 p2 hu
  | tup p2 q2=>simp only [aD,Bool.not_false];exact .bool_tuple b1 p2 hu
 | int i1 t1=>cases he with
  | ao=>simp only [aD,Bool.not_false];exact .int_none i1 t1
  | bl b2=>simp only [aD];exact .int_bool i1 t1 b2
  | int i2 t2=>simp only [aD];exact .int_int i1 t1 i2 t2
  | str x2 t2=>simp only [aD,Bool.not_false];exact .int_str i1 t1 x2 t2
  | lst p2 q2=>simp only [aD,Bool.not_false];exact .int_list i1 t1 p2 hu
  | tup p2 q2=>simp only [aD,Bool.not_false];exact .int_tuple i1 t1 p2 hu
 | str x1 t1=>cases he with
  | ao=>simp only [aD,Bool.not_false];exact .str_none x1 t1
  | bl b2=>simp only [aD,Bool.not_false];exact .str_bool x1 t1 b2
  | int i2 t2=>simp only [aD,Bool.not_false];exact .str_int x1 t1 i2 t2
  | str x2 t2=>simp only [aD];exact .str_str x1 t1 x2 t2
  | lst p2 q2=>simp only [aD,Bool.not_false];exact .str_list x1 t1 p2 hu
  | tup p2 q2=>simp only [aD,Bool.not_false];exact .str_tuple x1 t1 p2 hu
 | lst p1 q1=>cases he with
  | ao=>simp only [aD,Bool.not_false];exact .list_none p1 hu
  | bl b2=>simp only [aD,Bool.not_false];exact .list_bool b2 p1 hu
  | int i2 t2=>simp only [aD,Bool.not_false];exact .list_int i2 t2 p1 hu
  | str x2 t2=>simp only [aD,Bool.not_false];exact .list_str x2 t2 p1 hu
  | lst p2 q2=>simp only [dep] at ih hA;simp only [aD];exact (ih.lst (by omega) p1 p2 q1 q2 (by omega)).2
  | tup p2 q2=>simp only [aD,Bool.not_false];exact .list_tuple p1 p2 hu
 | tup p1 q1=>cases he with
  | ao=>simp only [aD,Bool.not_false];exact .tuple_none p1 hu
  | bl b2=>simp only [aD,Bool.not_false];exact .tuple_bool b2 p1 hu
  | int i2 t2=>simp only [aD,Bool.not_false];exact .tuple_int i2 t2 p1 hu
  | str x2 t2=>simp only [aD,Bool.not_false];exact .tuple_str x2 t2 p1 hu
  | lst p2 q2=>simp only [aD,Bool.not_false];exact .tuple_list p1 p2 hu
  | tup p2 q2=>simp only [dep] at ih hA;simp only [aD];exact (ih.tup (by omega) p1 p2 q1 q2 (by omega)).2
end
end Fg
end
section
namespace Fg
open PySem PySem.Spec L2
section
variable {X:Cx} {B:Bd} {pins:List (Addr×Obj)} {σ:L2.St} {H:Hp} {s:Shared}
noncomputable def j7 (B:Bd) (X:Cx):Prop:=∀ a kvs,B.dk a kvs->∀ h:Heap,X.K.In h->kvs.length<=sizeLine/\(a == sysModules)=false/\∃ vs,KV kvs vs/\h.DictOf (aG X.prog X.w) a vs
theorem GR {a:Addr} {kvs:List (Key×V)} (hB:j7 B X) (I:Inv X pins σ H s) (h:GK B H a kvs):kvs.length<=sizeLine/\(a == sysModules)=false/\∃ vs,KV kvs vs/\s.heap.DictOf (aG X.prog X.w) a vs:=by
 rcases h with h | h
 ·exact CW I.hok h
 ·exact hB a kvs h s.heap I.fH
noncomputable def Rm (X:Cx):Prop:=X.A.units+150<cLine
theorem Ey (hu:Rm X):dY X (compareOp .Eq) (vY X.K false):=by
 intro pins s σ H x y v u Q I rx ry h
 obtain ⟨d,e,hd,he,hc,q⟩:=h
 simp only [cu,Bool.and_eq_true,Bool.or_eq_true,decide_eq_true_eq] at hc
 have:=(eq_data (dep d+dep e+1) d e v u X.A (Nat.lt_succ_self _) (DV.vv I d x v hd rx) (DV.vv I e y u he ry) (by unfold Rm at hu;omega)).1
 exact this X.prog X.w X.xe _ ⟨.bl (aD d e),H,I,rfl,q⟩
theorem En (hu:Rm X):dY X (compareOp .NotEq) (vY X.K true):=by
 intro pins s σ H x y v u Q I rx ry h
 obtain ⟨d,e,hd,he,hc,q⟩:=h
 simp only [cu,Bool.and_eq_true,Bool.or_eq_true,decide_eq_true_eq] at hc
 have:=ne_data (A:=X.A) (DV.vv I d x v hd rx) (DV.vv I e y u he ry) (by unfold Rm at hu;omega)
 exact this X.prog X.w X.xe _ ⟨.bl (!aD d e),H,I,rfl,q⟩
theorem Ez:dY X (compareOp .Eq) (Ai false):=by
 intro pins s σ H x y v u Q I rx ry h
 obtain ⟨a,b,rfl,rfl,q⟩:=h
 refine IQ pins s σ H _ _ v u Q I rx ry ⟨rfl,?_⟩
 have e:decide (V.bl a=V.bl b)=(a == b):=mS
 rw [e];exact q
theorem Eo:dY X (compareOp .NotEq) (Ai true):=by
 intro pins s σ H x y v u Q I rx ry h
 obtain ⟨a,b,rfl,rfl,q⟩:=h
 refine IJ pins s σ H _ _ v u Q I rx ry ⟨rfl,?_⟩
 have e:decide (V.bl a=V.bl b)=(a == b):=mS
 rw [e];exact q
theorem Ew (hu:Rm X):dY X (compareOp .Eq) (vX X.K false):=by
 intro pins s σ H x y v u Q I rx ry h
 obtain ⟨l,b,xs,rfl,rfl,hH,hB,q⟩:=h
 cases rx
 cases ry
 have Jv:X.A.units<cLine:=by unfold Rm at hu;omega
 obtain ⟨its,r,pl,z⟩:=I.list hH
 obtain ⟨its2,r2,D6,z2⟩:=I.list hB
 cases r2
 cases r with
 | nil=>exact SeqAt.eq_listAt (e:=fun _=>true) pl.isList D6.isList rfl Jv (fun j h1=>by simp at h1) ⟨.bl true,H,I,rfl,q⟩
 | cons _ _=>exact SeqAt.eq_list_lengthsAt pl.isList D6.isList (by simp) Jv ⟨.bl false,H,I,rfl,q⟩
theorem Em (hu:Rm X):dY X (compareOp .NotEq) (vX X.K true):=by
 intro pins s σ H x y v u Q I rx ry h
 obtain ⟨l,b,xs,rfl,rfl,hH,hB,q⟩:=h
 cases rx
 cases ry
 have Jv:X.A.units<cLine:=by unfold Rm at hu;omega
 obtain ⟨its,r,pl,z⟩:=I.list hH
 obtain ⟨its2,r2,D6,z2⟩:=I.list hB
 cases r2
 cases r with
 | nil=>exact SeqAt.RcNeAt.lists (e:=fun _=>true) pl.isList D6.isList rfl Jv (fun j h1=>by simp at h1) X.prog X.w X.xe _ ⟨.bl false,H,I,rfl,q⟩
 | cons _ _=>exact SeqAt.RcNeAt.lists_lengths pl.isList D6.isList (by simp) Jv X.prog X.w X.xe _ ⟨.bl true,H,I,rfl,q⟩
theorem Eu (hB:j7 B X):dY X (compareOp .In) (vZ B false):=by
 intro pins s σ H x y v u Q I rx ry h
 obtain ⟨a,kvs,k,rfl,rfl,hd,q⟩:=h
 obtain rfl:u=Value.ref a:=ry
 obtain ⟨z,hm,vs,rel,dd⟩:=GR hB I hd
 refine wpAny_in_of (kO rx) hm dd.mapOf ?_
 rw [<- (rel.val k).iz]
 exact ⟨.bl (cy kvs k).isSome,H,I.tok _,rfl,q⟩
theorem uh (hB:j7 B X):dY X (compareOp .NotIn) (vZ B true):=by
 intro pins s σ H x y v u Q I rx ry h
 obtain ⟨a,kvs,k,rfl,rfl,hd,q⟩:=h
 obtain rfl:u=Value.ref a:=ry
 obtain ⟨z,hm,vs,rel,dd⟩:=GR hB I hd
 refine wpAny_notIn_of (kO rx) hm dd.mapOf ?_
 rw [<- (rel.val k).iz]
 exact ⟨.bl (!(cy kvs k).isSome),H,I.tok _,rfl,q⟩
noncomputable def yu:ze->CmpOp
 | .eq=>.Eq | .ne=>.NotEq | .lt=>.Lt | .le=>.LtE | .gt=>.Gt | .ge=>.GtE | .isin=>.In | .n6=>.NotIn | .ow=>.Is | .jF=>.IsNot
theorem wF (hK:B.K=X.K) (hu:Rm X) (hB:j7 B X):∀ o:ze,dY X (compareOp (yu o)) (pU B o)
 | .lt=>IK
 | .le=>IL
 | .gt=>IM
 | .ge=>IP
 | .eq=>by rw [pU,hK];exact Ez.or ((Ey hu).or (Ew hu))
 | .ne=>by rw [pU,hK];exact Eo.or ((En hu).or (Em hu))
 | .ow=>Et
 | .jF=>AB
 | .isin=>by rw [pU,hK];exact (Eu hB).or um
 | .n6=>by rw [pU,hK];exact (uh hB).or lS
theorem AH:dY X (binaryOp .Add) (Cp X.K):=by
 intro pins s σ H x y v u Q I rx ry h
 obtain ⟨l,b,xs,zs,rfl,rfl,hH,hB,hz,q⟩:=h
 cases rx
 cases ry
 obtain ⟨its,r,pl,z⟩:=I.list hH
 obtain ⟨its2,r2,D6,z2⟩:=I.list hB
 obtain ⟨⟨cls,dd,data,sl⟩,ho,hc,n,hd⟩:=id pl.isList
 obtain ⟨⟨J4,dd2,data2,sl2⟩,ho2,hc2,n2,hd2⟩:=id D6.isList
 simp only at hc hd hc2 hd2
 subst hc hd hc2 hd2
 have l1:=r.length
 have l2:=r2.length
 have ea:its.toArray++its2.toArray=(its++its2).toArray:=by simp
 refine PySem.concat_meets ⟨_,ho,rfl⟩ ⟨_,ho2,rfl⟩ PySem.noFill_list_add PySem.seq_list_add PySem.F.slot_list_add PySem.F.entry_list_add (PySem.F.args_list_add_2 _ _) (PyProof.Rows.list_addW l b its.toArray its2.toArray n n2 dd dd2 sl sl2 (by simp only [List.size_toArray];omega)) ⟨ho,ho2,?_⟩
 rw [ea]
 exact ⟨.ref _,_,I.Je (t':=s.toks) (r.append r2) (by rw [List.length_append];omega),rfl,q _ I.fresh⟩
theorem AE:dY X (binaryOp .Mult) (Cm X.K):=by
 intro pins s σ H x y v u Q I rx ry h
 obtain ⟨l,xs,k,rfl,rfl,hH,hz,hk,q⟩:=h
 cases rx
 obtain ⟨t,rfl⟩:=(show ∃ t,u=Value.int k t from ry)
 obtain ⟨its,r,pl,z⟩:=I.list hH
 obtain ⟨⟨cls,dd,data,sl⟩,ho,hc,n,hd⟩:=id pl.isList
 simp only at hc hd
 subst hc hd
 have l1:=r.length
 rw [l1] at hz
 refine wpAny_binaryOp_repeat_ref (T:="list") (U:="int") (by decide) ⟨_, ho, rfl⟩ (fun s'=>typeIs_int s' k t) noFill_list_mul PySem.F.fills_int_mul PySem.F.slot_int_rmul repeat_list PySem.F.slot_int_index.lookup
  (call_meets PySem.F.slot_int_rmul (typeIs_int s k t) PySem.F.entry_int_rmul (PySem.F.args_int_rmul_2 _ _) (PySem.lm_int_rmul_list_any k t l its.toArray n dd sl)
   ⟨ho,rfl,⟨_,ho,rfl⟩,call_meets PySem.F.slot_list_mul ⟨_,ho,rfl⟩ PySem.F.entry_list_mul (PySem.F.args_list_mul_2 _ _)
    (PySem.lm_list_mul_any l its.toArray n dd sl k t (by simp [Builtin.List.listFitsIndex];omega) (by rw [List.size_toArray];rw [sizeLine_eq] at hz;omega) (by rw [sizeLine_eq] at hz;simp [Builtin.List.listTooLong,sizeLine];omega))
    ⟨ho,?_⟩⟩)
 rw [PyProof.Rows.listMul_foldl_if]
 have rr:Vals (List.replicate k.toNat xs).flatten (List.replicate k.toNat its).flatten:=by
  generalize k.toNat=m
  induction m with
  | zero=>exact .nil
  | succ m ih=>rw [List.replicate_succ,List.replicate_succ,List.flatten_cons,List.flatten_cons];exact r.append ih
 exact ⟨.ref _,_,I.Je (t':=s.toks) rr (by rw [List.length_flatten];simp [List.sum_replicate_nat];rw [l1,Nat.mul_comm];exact hz),rfl,q _ I.fresh⟩
theorem oq {i:Int} (h:i.natAbs<10 ^ 200):Builtin.Int.intBits i<=2 ^ 20:=by
 unfold Builtin.Int.intBits
 split
 ·exact Nat.zero_le _
 ·have z:i.natAbs.log2<1000:=by
   by_cases h0:i.natAbs=0
   ·rw [h0];decide
   ·exact (Nat.log2_lt h0).mpr (Nat.lt_of_lt_of_le h (by decide +kernel))
  exact Nat.le_trans (Nat.succ_le_of_lt z) (by decide)
theorem AD:dY X (binaryOp .Mult) (rI KD fun i j=>.int (i*j)):=IT fun _ _ _ _ _ _ _ hc q=>PyProof.Rows.mul_int q (.of_bits (oq hc.1) (oq hc.2))
noncomputable def binOp:BP->Operator
 | .add=>.Add | .sub=>.Sub | .mul=>.Mult | .fdiv=>.FloorDiv | .mod=>.Mod | .pow=>.Pow
theorem EA (hK:B.K=X.K):∀ o:BP,dY X (binaryOp (binOp o)) (Ih B.K o)
 | .add=>by rw [Ih,hK];exact ED.or (pZ.or (AH.or AG))
 | .sub=>Ek
 | .mul=>by rw [Ih,hK];exact Ep.or (AD.or AE)
 | .fdiv=>AF
 | .mod=>Er
 | .pow=>El
theorem FH (hB:j7 B X):zc X (Im B):=by
 intro value slice pins s σ H x y v u Q I rx ry h hs
 obtain ⟨a,kvs,k,w,rfl,rfl,hd,hv,q⟩:=h
 obtain rfl:v=Value.ref a:=rx
 obtain ⟨z,hm,vs,rel,dd⟩:=GR hB I hd
 obtain ⟨w',hw,rw'⟩:=gu.some_of (v:=w) (o:=valueAt vs k) (by rw [<- hv];exact rel.val k)
 exact PyProof.Rows.tail_any dd.typeIs PySem.F.slot_dict_getitem.lookup (wpAny_getItem_of (kO ry) dd.mapOf hw ⟨w,H,I.tok _,rw',q⟩) hs
theorem FI (hK:B.K=X.K) (hB:j7 B X):zc X (Ah B):=by
 unfold Ah;rw [hK];exact A6.or (FF.or (FG.or (FH hB)))
theorem uL (hK:B.K=X.K) (hB:j7 B X):bW X (.builtin "len") (DR B):=by
 unfold DR;rw [hK]
 refine mW.or (mX.or ?_)
 intro pins s σ H xs us Q I r h
 obtain ⟨a,kvs,rfl,ha,q⟩:=h
 obtain ⟨u,rfl,ru⟩:=vals1 r
 cases ru
 obtain ⟨z,hd,vs,rel,dd⟩:=GR hB I ha
 refine call_len_dict hd dd (by rw [<- rel.length];rw [sizeLine_eq] at z;omega) ?_
 rw [<- rel.length]
 exact ⟨.int kvs.length,H,I.tok _,⟨_,rfl⟩,q⟩
theorem dD:∀ {ns:List Int} {us:List Value},Vals (ns.map V.int) us->(∀ v∈us,∃ a t,v=Value.int a t)/\numsOf us=ns
 | [],us,h=>by cases h;exact ⟨fun v hv=>by simp at hv,rfl⟩
 | n::ns,us,h=>by
  cases h with
  | cons r t =>
   obtain ⟨tk,rfl⟩:=(show ∃ t,_=Value.int n t from r)
   obtain ⟨i1,i2⟩:=dD t
   refine ⟨fun v hv=>?_,by simp only [numsOf,i2]⟩
   rcases List.mem_cons.mp hv with rfl | hv
   ·exact ⟨_,_,rfl⟩
   ·exact i1 v hv
theorem uN (hB:j7 B X):bW X (.type "dict") (v5 B):=by
 intro pins s σ H xs us Q I r h
 obtain ⟨p,kvs,rfl,ha,q⟩:=h
 obtain ⟨u,rfl,ru⟩:=vals1 r
 cases ru
 obtain ⟨z,hd,vs,rel,dd⟩:=GR hB I ha
 refine kt_call_dict hd dd (by rw [<- rel.length];exact z) fun h' za hs=>?_
 refine ⟨.ref s.heap.objs.size,_,I.laid (a:=s.heap.objs.size) (o:=.dK kvs) (t':=s.toks) (fun b q hq=>?_) (Nat.le_refl _) (qF z (beq_eq_false_iff_ne.mpr (Ne.symm (Nat.ne_of_lt I.big))) rel za),rfl,q _ (I.hok.fresh (Nat.le_refl _))⟩
 exact (hs.2 b (Nat.ne_of_lt (Heap.lt_size hq))).trans (Heap.get?_push_of_some _ hq)
inductive BN (B:Bd) (H:Hp):V->String->Prop where
 | ao:BN B H .ao "NoneType"
 | bl (b:Bool):BN B H (.bl b) "bool"
 | int (i:Int):BN B H (.int i) "int"
 | str (x:Str):BN B H (.str x) "str"
 | lst {a:Addr} {xs:List V}:eV B.K H a xs->BN B H (.ref a) "list"
 | tup {a:Addr} {xs:List V}:gr B.K H a xs->BN B H (.ref a) "tuple"
 | dct {a:Addr} {kvs:List (Key×V)}:GK B H a kvs->BN B H (.ref a) "dict"
noncomputable def nv:Ty->String
 | .int=>"int" | .str=>"str" | .bool=>"bool" | .list=>"list" | .tuple=>"tuple" | .dict=>"dict"
noncomputable def tyB (T:String) (t:Ty):Bool:=T == nv t||(T == "bool"&&match t with | .int=>true | _=>false)
noncomputable def Ip (B:Bd):List V->Hp->VK->Prop:=fun xs H Q=>∃ x T t,xs=[x,.ty (nv t)]/\BN B H x T/\Q (.bl (tyB T t)) H
theorem AX (K:W.Frag):∀ t:Ty, W.kitOne K (.type "NoneType") (.type (nv t))=some (tyB "NoneType" t)/\W.kitOne K (.type "bool") (.type (nv t))=some (tyB "bool" t)/\W.kitOne K (.type "int") (.type (nv t))=some (tyB "int" t)/\W.kitOne K (.type "str") (.type (nv t))=some (tyB "str" t) /\
  W.kitOne K (.type "list") (.type (nv t))=some (tyB "list" t)/\W.kitOne K (.type "tuple") (.type (nv t))=some (tyB "tuple" t)/\W.kitOne K (.type "dict") (.type (nv t))=some (tyB "dict" t):=by
 intro t
 cases t <;> (refine ⟨?_,?_,?_,?_,?_,?_,?_⟩ <;> kernel_rfl)
theorem yw (hK:B.K=X.K) (hB:j7 B X):bW X (.builtin "isinstance") (Ip B):=by
 intro pins s σ H xs us Q I r h
 obtain ⟨x,T,t,rfl,ty,q⟩:=h
 cases r with
 | cons rx r =>
  cases r with
  | cons rt r =>
   cases r
   obtain rfl:=(show _=Value.type (nv t) from rt)
   have fin:∀ tk,EP X pins σ Q (.bool (tyB T t)) { s with toks:=tk }:=fun tk=>⟨.bl (tyB T t),H,I.tok _,rfl,q⟩
   obtain ⟨k1,k2,k3,k4,k5,k6,k7⟩:=AX X.K t
   cases ty with
   | ao=>cases (show _=Value.none from rx);exact W.kia_one W.kitx_none I.fH True.intro k1 (fun z=>nomatch z) fin
   | bl b=>cases (show _=Value.bool b from rx);exact W.kia_one W.kitx_bool I.fH True.intro k2 (fun z=>nomatch z) fin
   | int i=>obtain ⟨tk,q⟩:=(show ∃ t,_=Value.int i t from rx);cases q;exact W.kia_one W.kitx_int I.fH True.intro k3 (fun z=>nomatch z) fin
   | str y=>obtain ⟨tk,q⟩:=(show ∃ t,_=Value.str y t from rx);cases q;exact W.kia_one W.kitx_str I.fH True.intro k4 (fun z=>nomatch z) fin
   | lst hl =>
    cases rx
    rw [hK] at hl
    obtain ⟨its,_,pl,_⟩:=I.list hl
    obtain ⟨o,ho,hc,_⟩:=pl.isList
    exact W.kia_one W.kitx_list I.fH ⟨o,ho,hc⟩ k5 (fun z=>nomatch z) fin
   | tup hl =>
    cases rx
    rw [hK] at hl
    obtain ⟨its,_,pl,_⟩:=I.tuple hl
    obtain ⟨o,ho,hc,_⟩:=pl
    exact W.kia_one W.kitx_tuple I.fH ⟨o,ho,hc⟩ k6 (fun z=>nomatch z) fin
   | dct hd =>
    cases rx
    obtain ⟨z,hm,vs,rel,dd⟩:=GR hB I hd
    obtain ⟨o,ho,hc⟩:=dd.typeIs
    exact W.kia_one W.kitx_dict I.fH ⟨o,ho,hc⟩ k7 (fun z=>nomatch z) fin
end
end Fg
end
section
namespace Fg
open PySem PySem.Spec L2
theorem jD {α:Type} (xs:List α) (a:Nat):∀ c:Nat,((List.range c).map fun k=>a+k).filterMap (fun i=>xs[i]?)=(xs.drop a).take c
 | 0=>by simp
 | c+1=>by
  rw [List.range_succ,List.map_append,List.filterMap_append,jD xs a c,List.take_add_one]
  simp [List.getElem?_drop]
  cases h:xs[a+c]? <;> simp [h]
theorem oW (n d:Nat) (hd:d<=n) (o:Option Int):(match o with
  | none=>((d:Nat):Int)
  | some i=>max 0 (min (if i<0 then i+(n:Int) else i) (n:Int)))=((six n d o:Nat):Int):=by
 cases o with
 | none=>rfl
 | some i=>simp only [six];split <;> omega
theorem Dt (n d:Nat) (hd:d<=n) (o:Option Int):six n d o<=n:=by
 cases o with
 | none=>exact hd
 | some i=>simp only [six];split <;> omega
theorem DK (a b:Nat):sliceRange (a:Int) (b:Int) 1=(List.range (b-a)).map fun k=>a+k:=by
 unfold sliceRange
 simp only [show (1:Int) > 0 by decide,if_true]
 have ec:(if (a:Int)<(b:Int) then ((b:Int)-(a:Int)+1-1) / 1 else 0).toNat=b-a:=by
  split <;> omega
 rw [ec]
 apply List.map_congr_left
 intro k _
 omega
theorem xD (l u:Option Int) (n:Nat):Builtin.Str.strSliceIndices l u 1 n=(List.range (six n n u-six n 0 l)).map fun k=>six n 0 l+k:=by
 rw [<- DK,<- oW n 0 (Nat.zero_le _) l,<- oW n n (Nat.le_refl _) u]
 unfold Builtin.Str.strSliceIndices
 cases l <;> cases u <;> rfl
theorem pL (x:Str) (l u:Option Int):Txt.slice x l u=cuts x l u:=by
 have hn:x.cps.toList.length=x.length:=by simp [Str.length]
 have key:(Builtin.Str.strSliceIndices l u 1 x.length).filterMap (x.cps[·]?)=cg x.cps.toList l u:=by
  rw [xD]
  have:=jD x.cps.toList (six x.length 0 l) (six x.length x.length u-six x.length 0 l)
  unfold cg
  rw [hn,<- this]
  congr 1
  funext i
  simp
 unfold Txt.slice
 split
 ·rename_i hc
  simp only [Bool.and_eq_true,beq_iff_eq] at hc
  have hc2:=hc.2
  rw [xD] at hc2
  simp only [List.length_map,List.length_range] at hc2
  have b1:=Dt x.length x.length (Nat.le_refl _) u
  unfold cuts cg
  rw [hn]
  by_cases h0:x.length=0
  ·obtain ⟨⟨l⟩⟩:=x
   simp [Str.length] at h0
   subst h0
   simp
  ·have a0:six x.length 0 l=0:=by omega
   rw [a0,List.drop_zero,List.take_of_length_le (by rw [hn];omega)]
 ·show Str.mk _=Str.mk _
  rw [key]
section
variable {X:Cx} {B:Bd}
theorem Dr:BO X Ie:=by
 intro pins s σ H x v vl vu lo hi sl Q I rx hs pl pu h
 obtain ⟨z,rfl,hz,q⟩:=h
 obtain ⟨t,rfl⟩:=(show ∃ t,v=Value.str z t from rx)
 refine ⟨"str", _, PySem.F.slot_str_getitem.lookup, typeIs_str _ _ _, ?_⟩
 have fin:∀ (l u:Option Int) (t':Tok) (k:Nat),l=lo->u=hi->EP X pins σ Q (.str (Txt.slice z l u) t') { s with toks:=k }:=by
  intro l u t' k e3 e4
  exact ⟨.str (cuts z lo hi),H,I.tok _,⟨t',by rw [pL,e3,e4]⟩,q⟩
 obtain ⟨o,ho,hc,hd⟩:=hs
 cases pl with
 | none =>
  cases pu with
  | none=>exact wpAny_getItem_str_slice (l:=none) (u:=none) (st:=none) ⟨o,ho,hc,hd⟩ rfl (post_val_or_str ⟨Nat.le_trans (Txt.slice_le z none none) hz,fun t' k=>fin none none t' k rfl rfl⟩)
  | int j tj=>exact wpAny_getItem_str_slice (l:=none) (u:=some (j,tj)) (st:=none) ⟨o,ho,hc,hd⟩ rfl (post_val_or_str ⟨Nat.le_trans (Txt.slice_le z none (some j)) hz,fun t' k=>fin none (some j) t' k rfl rfl⟩)
 | int i ti =>
  cases pu with
  | none=>exact wpAny_getItem_str_slice (l:=some (i,ti)) (u:=none) (st:=none) ⟨o,ho,hc,hd⟩ rfl (post_val_or_str ⟨Nat.le_trans (Txt.slice_le z (some i) none) hz,fun t' k=>fin (some i) none t' k rfl rfl⟩)
  | int j tj=>exact wpAny_getItem_str_slice (l:=some (i,ti)) (u:=some (j,tj)) (st:=none) ⟨o,ho,hc,hd⟩ rfl (post_val_or_str ⟨Nat.le_trans (Txt.slice_le z (some i) (some j)) hz,fun t' k=>fin (some i) (some j) t' k rfl rfl⟩)
theorem Ds (hK:B.K=X.K):BO X (Ag B):=by
 unfold Ag;rw [hK];exact zI.or (Dq.or Dr)
end
end Fg
end
section
namespace Fg
open PySem PySem.Spec L2
theorem dO {α β:Type} (g:β->α->β):∀ {l:List α} {f:α->β->Sem (ForInStep β)} (_:∀ x∈l,∀ c,f x c=pure (.yield (g c x))) (c:β),forIn l c f=pure (l.foldl g c)
 | [],f,_,c=>rfl
 | x::l,f,h,c=>by
  rw [List.forIn_cons,h x List.mem_cons_self,pure_bind]
  exact dO g (fun y hy=>h y (List.mem_cons_of_mem _ hy)) _
noncomputable def aE (env:Env) (cs:List (Str×Addr)) (x:Str×NameKind):List (Str×Addr):=if x.2 == .free then (x.1,(env.cells.lookup x.1).getD 0)::cs else cs
theorem qH {scope:Scope} {env:Env} (h:∀ x,(x,NameKind.free)∈scope.names->∃ c,env.cells.lookup x=some c):closureFor scope env=pure (scope.names.foldl (aE env) []):=by
 unfold closureFor
 dsimp only
 rw [dO (aE env) (fun x hx c=>?_)]
 ·rfl
 obtain ⟨n,k⟩:=x
 by_cases hk:k=.free
 ·subst hk
  obtain ⟨a,ha⟩:=h n hx
  simp only [aE,cellOf,ha,beq_self_eq_true,if_true,Option.getD_some]
  rfl
 ·have hb:(k == NameKind.free)=false:=by simpa using hk
  simp only [aE,hb,Bool.false_eq_true,if_false]
theorem mU {env:Env}:∀ (names:List (Str×NameKind)) (cs:List (Str×Addr)) (p:Str×Addr),(∀ x,(x,NameKind.free)∈names->∃ c,env.cells.lookup x=some c)->p∈names.foldl (aE env) cs->p∈cs\/env.cells.lookup p.1=some p.2
 | [],cs,p,_,h=>.inl h
 | (n, k)::r, cs, p, hc, h=>by
  rw [List.foldl_cons] at h
  rcases mU r _ p (fun x hx=>hc x (List.mem_cons_of_mem _ hx)) h with q | q
  ·unfold aE at q
   split at q
   ·rename_i hk
    have hk':k=.free:=by simpa using hk
    subst hk'
    rcases List.mem_cons.mp q with q | q
    ·obtain ⟨a,ha⟩:=hc n List.mem_cons_self
     right
     rw [q]
     show env.cells.lookup n=some ((env.cells.lookup n).getD 0)
     rw [ha];rfl
    ·exact .inl q
   ·exact .inl q
  ·exact .inr q
theorem tL {env:Env}:∀ (names:List (Str×NameKind)) (cs:List (Str×Addr)) (x:Str),(∃ c,(x,c)∈cs)->∃ c,(x,c)∈names.foldl (aE env) cs
 | [],cs,x,h=>h
 | (n,k)::r,cs,x,⟨c,h⟩=>by
  rw [List.foldl_cons]
  refine tL r _ x ⟨c,?_⟩
  unfold aE
  split
  ·exact List.mem_cons_of_mem _ h
  ·exact h
theorem qI {env:Env}:∀ (names:List (Str×NameKind)) (cs:List (Str×Addr)) (x:Str),(x,NameKind.free)∈names->∃ c,(x,c)∈names.foldl (aE env) cs
 | (n, k)::r, cs, x, h=>by
  rw [List.foldl_cons]
  rcases List.mem_cons.mp h with h | h
  ·cases h
   refine tL r _ n ⟨(env.cells.lookup n).getD 0,?_⟩
   unfold aE
   rw [if_pos (by rfl)]
   exact List.mem_cons_self
  ·exact qI r _ x h
theorem dc {β:Type}:∀ {l:List (Str×β)} {x:Str} {c:β},(x,c)∈l->∃ d,l.lookup x=some d
 | (n, k)::r, x, c, h=>by
  rw [List.lookup_cons]
  cases e:x == n with
  | true=>exact ⟨k,rfl⟩
  | false =>
   rcases List.mem_cons.mp h with h | h
   ·cases h;simp at e
   ·exact dc h
theorem cN {env:Env}:∀ {names:List (Str×NameKind)} {x:Str},(names.map fun (n,k)=>if (k == NameKind.free&&env.scope.kind == .function&&env.kindOf n == some .cell) then (n,NameKind.cell) else (n,k)).lookup x =
  (names.lookup x).map fun k=>if (k == NameKind.free&&env.scope.kind == .function&&env.kindOf x == some .cell) then NameKind.cell else k
 | [],x=>rfl
 | (n, k)::r, x=>by
  have ih:=@cN env r x
  show List.lookup x ((if (k == NameKind.free&&env.scope.kind == .function&&env.kindOf n == some .cell)=true then (n,NameKind.cell) else (n,k))::_)=_
  cases hx:x == n with
  | true =>
   have e:x=n:=by simpa using hx
   subst e
   by_cases hc:(k == NameKind.free&&env.scope.kind == .function&&env.kindOf x == some .cell)=true
   ·rw [if_pos hc];simp only [List.lookup_cons,hx,Option.map_some,if_pos hc]
   ·rw [if_neg hc]
    simp only [List.lookup_cons,hx,Option.map_some,if_neg hc]
  | false =>
   by_cases hc:(k == NameKind.free&&env.scope.kind == .function&&env.kindOf n == some .cell)=true
   ·rw [if_pos hc];simp only [List.lookup_cons,hx];exact ih
   ·rw [if_neg hc];simp only [List.lookup_cons,hx];exact ih
noncomputable def CZ (X:Cx) (scope:Scope) (cl:List (Str×Addr)) (N:List Str) (fp:List Addr) (s:Shared) (H:Hp) (C:Addr):Cx :=
 { X with N:=N,s₀:=s,H₀:=H,env:=compEnvC scope cl C X.env,outer:=X.stack,stack:=X.stack,ex:=fp,fn:=fun _=>false,pn:=[],xe:=fun _ _=>False }
noncomputable abbrev dW (X:Cx) (scope:Scope) (cl:List (Str×Addr)) (N:List Str) (fp:List Addr) (s:Shared) (H:Hp) (C:Addr) (E:XK):Cx:=(CZ X scope cl N fp s H C).bz (g7 (CZ X scope cl N fp s H C) fun cv x _ H'=>E cv x H')
noncomputable def G8 (X:Cx) (ifs:List Expr) (t:TT):Prop :=
 ∀ (pins:List (Addr×Obj)) (s:Shared) (σ:St) (H:Hp) (Q:Bool->Hp->Prop),Inv X pins σ H s->t σ H Q ->
  wpAny (model X.prog X.w) X.A (forIn ifs true fun c r=>if r=true then do let ok <- isTrue c X.env (eval c X.env);pure (ForInStep.yield ok) else pure (ForInStep.yield r)) (L2.TP X pins σ Q) X.xe s
theorem Ak {X:Cx}:G8 X [] (fun _ H Q=>Q true H):=fun pins s σ H Q I h=>wpAny_tests_nil ⟨H,I,h⟩
theorem Aj {X:Cx} {c:Expr} {t:TT} (h:PT X c t):G8 X [c] t:=fun pins s σ H Q I q=>wpAny_tests_one (h pins s σ H Q I q)
noncomputable def oY (cp:List Nat) (n:Nat) (σ:St):St:=cp.map (fun i=>(σ[i]?).join)++List.replicate n none
noncomputable def qX (wi:TI) (g:TG) (tc:St->TT) (te:St->TE) (cp:List Nat) (n:Nat):TE:=fun σ H Q=>wi σ H fun J H1=>∀ D,H1 D=none->∃ W:Nat->Nat->St->Hp->Prop,(∃ m,W 0 m (oY cp n σ) (upd H1 D (.lst [])))/\∀ i m σ' H',W i m σ' H' ->
 (J.stop i H'/\Q (.ref D) H')\/(J.go i H'/\∀ x H2,J.KH i H' x H2->g x σ' H2 fun σ2 H3=>tc σ σ2 H3 fun b H4 =>
  if b=true then te σ σ2 H4 fun v H5=>∃ ys,H5 D=some (.lst ys)/\ys.length<sizeLine/\∃ m',m'<m/\W (i+1) m' σ2 (upd H5 D (.lst (ys++[v]))) else ∃ m',m'<m/\W (i+1) m' σ2 H4)
theorem fP {prog:Program} {w:World} {A:Around} {R:Result->Shared->Prop} {s:Shared} {elt target iter:Expr} {ifs:List Expr} {scope:Scope} {pos:Pos} {it acc:Value} {env:Env} (I:Nat->Shared->Prop) (EX:Value->Shared->Prop) (hE:∀ e s,EX e s->notedBy (model prog w) A env (fun x s'=>R (.error x) s') e s)
  (turn:∀ n s,I n s->wpAny (model prog w) A (pyNext it) (fun r s₁=>match r with
   | none=>R (.ok .next) s₁
   | some v=>wpAny (model prog w) A (letOwnedTupleGo target it v) (fun _ s₁'=>wpAny (model prog w) A (assign target env v) (fun _ s₂ =>
     wpAny (model prog w) A (forIn ifs true fun c r=>if r=true then do let ok <- isTrue c env (eval c env);pure (ForInStep.yield ok) else pure (ForInStep.yield r)) (fun ok s₃ =>
      if ok=true then wpAny (model prog w) A (eval elt env) (fun x s₄ =>
       wpAny (model prog w) A (call (.builtin "list.append") [acc, x]) (fun _ s₅=>∃ m, m<n/\I m s₅) EX s₄) EX s₃
      else ∃ m,m<n/\I m s₃) EX s₂) EX s₁') EX s₁) EX s)
  (n:Nat) (h:I n s):codeAny (model prog w) A (.compLoop (.ListComp elt [⟨target,iter,ifs,0⟩] scope pos) 0 it acc env) R s:=by
 refine codeAny_loop rfl I (fun n s hI=>?_) n h
 show wpAny _ A ((compTurn (.ListComp elt [⟨target,iter,ifs,0⟩] scope pos) 0 it acc env).onRaise (fun x=>do noteFrame x env;theTreesLotGoes x)) _ _ s
 refine wpAny_noted ?_
 rw [compTurn_list]
 refine wpAny_bind (wpAny_standAt (wpAny_bind (wpAny_mono (turn n s hI) (fun r s₁ h₁=>?_) hE)))
 cases r with
 | none=>exact wpAny_pure h₁
 | some v =>
  refine wpAny_bind (wpAny_mono h₁ (fun _ s₁' h₁'=>?_) hE)
  refine wpAny_bind (wpAny_mono h₁' (fun _ s₂ h₂=>wpAny_bind (wpAny_mono h₂ (fun ok s₃ h₃=>?_) hE)) hE)
  cases ok with
  | false=>exact wpAny_pure ⟨rfl,h₃⟩
  | true =>
   exact wpAny_bind (wpAny_bind (wpAny_mono h₃ (fun x s₄ h₄=>wpAny_bind (wpAny_mono h₄ (fun _ s₅ h₅=>wpAny_pure (wpAny_pure ⟨rfl,h₅⟩)) hE)) hE))
section
variable {X:Cx} {pins:List (Addr×Obj)} {σ:St} {H:Hp} {s:Shared}
structure gw (X:Cx) (scope:Scope) (N:List Str) (cp:List Nat) (n:Nat):Prop where
 free:∀ x,(x,NameKind.free)∈scope.names->X.env.kindOf x=some .cell\/X.env.kindOf x=some .free
 cell:∀ y∈scope.names,y.2≠.cell
 kind:scope.kind=.function
 names:∀ y∈scope.names,y.2=.local->scope.names.lookup y.1=some .local
 len:N.length=cp.length+n
 cap:∀ (i j:Nat) (x:Str),N[i]? = some x->cp[i]? = some j->X.N[j]? = some x/\scope.names.lookup x=some .free
theorem GB {scope:Scope} {N:List Str} {cp:List Nat} {n:Nat} {fp:List Addr} {C:Addr} (S:gw X scope N cp n) (I:Inv X pins σ H s) (hf:∀ b∈fp,j6 X pins H b) (hC:s.heap.objs.size<C) (FL:∀ b∈fp,b<s.heap.objs.size) :
  (CZ X scope (scope.names.foldl (aE X.env) []) N fp s H C).Ok:=by
 have hex:∀ x,(x,NameKind.free)∈scope.names->∃ c,X.env.cells.lookup x=some c:=fun x hx=>I.ok.has x (S.free x hx)
 have hcl:∀ x c,(scope.names.foldl (aE X.env) []).lookup x=some c->X.env.cells.lookup x=some c:=fun x c e=>by
  rcases mU scope.names [] (x,c) hex (PySem.mem_of_lookup e) with q | q
  ·cases q
  ·exact q
 refine ⟨I.ok.mod,S.kind,I.ok.glob,I.ok.blt,Nat.le_of_lt hC,fun x y c h1 h2=>I.ok.inj x y c (hcl x c h1) (hcl y c h2),fun x hx=>?_,fun x c h _=>(Bool.false_ne_true h).elim,I.ok.hd,I.ok.frames,.inl rfl,fun b hb=>⟨Nat.ne_of_lt (Nat.lt_trans (FL b hb) hC),fun x c e=>(hf b hb).2.2.2.2.1 x c (hcl x c e)⟩,
  fun b o e=>I.bs b o e,Nat.le_trans I.ok.uP I.sz,fun b o e hb=>?_,fun b hb hs=>?_,I.stack,I.fE⟩
 ·have q:(x,NameKind.free)∈scope.names:=by
   have hx:(relabel scope X.env).names.lookup x=some .cell\/(relabel scope X.env).names.lookup x=some .free:=hx
   unfold relabel at hx
   dsimp only at hx
   rw [cN] at hx
   cases e:scope.names.lookup x with
   | none=>rw [e] at hx;simp at hx
   | some k =>
    rw [e] at hx
    have hm:=PySem.mem_of_lookup e
    cases k with
    | free=>exact hm
    | cell=>exact (S.cell _ hm rfl).elim
    | «local»=>simp at hx
    | globalImplicit=>simp at hx
    | globalExplicit=>simp at hx
  obtain ⟨c,hc⟩:=qI (env:=X.env) scope.names [] x q
  exact dc hc
 ·rcases (hf b hb).2.2.2.1 with z | z
  ·exact I.ok.n8 b o e z
  ·exact absurd (Nat.lt_of_lt_of_le (Heap.lt_size e) (Nat.le_trans I.ok.uP z)) (Nat.lt_irrefl _)
 ·rcases List.mem_cons.mp (I.d8 b hs) with z | z
  ·exact (hf b hb).2.1 z
  ·exact (hf b hb).2.2.1 z
theorem uR {scope:Scope} {N:List Str} {cp:List Nat} {n:Nat} {fp:List Addr} {C D:Addr} {h1:Heap} {t1:Nat} (S:gw X scope N cp n) (I:Inv X pins σ H s) (hf:∀ b∈fp,j6 X pins H b) (FL:∀ b∈fp,b<s.heap.objs.size)
  (hD:D=s.heap.objs.size) (hC:C=s.heap.objs.size+1) {m:Str->Option Value} (hns:h1.Ns C m) (old:∀ b o, s.heap.get? b=some o->h1.get? b=some o) (hacc:h1.get? D=some { cls:=.type "list", data:=.seq ([]:List Value).toArray 0 }) :
  Inv (CZ X scope (scope.names.foldl (aE X.env) []) N fp s H C) [] (oY cp n σ) (upd H D (.lst [])) { s with heap:=h1,toks:=t1 }:=by
 have hex:∀ x,(x,NameKind.free)∈scope.names->∃ c,X.env.cells.lookup x=some c:=fun x hx=>I.ok.has x (S.free x hx)
 have hcl:∀ x c,(scope.names.foldl (aE X.env) []).lookup x=some c->X.env.cells.lookup x=some c:=fun x c e=>by
  rcases mU scope.names [] (x,c) hex (PySem.mem_of_lookup e) with q | q
  ·cases q
  ·exact q
 have fD:H D=none:=I.hok.fresh (by rw [hD];exact Nat.le_refl _)
 have fC:H C=none:=I.hok.fresh (by rw [hC];exact Nat.le_succ _)
 have cellK:∀ x c v,X.env.cells.lookup x=some c->s.heap.IsCell c v->h1.IsCell c v:=fun x c v e ⟨o,ho,hd⟩=>⟨o,old c o ho,hd⟩
 refine ⟨GB S I hf (by rw [hC];exact Nat.lt_succ_self _) FL,rfl,I.bare,?_,⟨m,hns,fun i x v e1 e2 e3=>?_⟩,fun x c e=>?_,?_,fun x c e=>?_,fun p hp=>absurd (show p∈([]:List (Addr×Obj)) from hp) (by simp),?_,?_⟩
 ·exact Un.laid (fun b u e=>old b u e) (by rw [hD];exact Nat.le_refl _) fD
 ·-- a J5 name
  have hi:i<cp.length:=by
   by_cases hi:i<cp.length
   ·exact hi
   ·unfold oY at e2
    rw [List.getElem?_append_right (by simpa using hi),List.getElem?_replicate] at e2
    split at e2 <;> cases e2
  have hcp:cp[i]? = some cp[i]:=List.getElem?_eq_getElem hi
  obtain ⟨hX,hfr⟩:=S.cap i cp[i] x e1 hcp
  have e2':σ[cp[i]]? = some (some v):=by
   unfold oY at e2
   rw [List.getElem?_append_left (by simpa using hi),List.getElem?_map,hcp] at e2
   simp only [Option.map_some,Option.some.injEq] at e2
   cases q:σ[cp[i]]? with
   | none=>rw [q] at e2;cases e2
   | some o=>rw [q] at e2;simp only [Option.join_some] at e2;rw [e2]
  have hmem:=PySem.mem_of_lookup hfr
  have hk:=S.free x hmem
  obtain ⟨m0,_,hl⟩:=I.loc
  obtain ⟨u,r,lk⟩:=hl cp[i] x v hX e2' (by rcases hk with q | q;exact .inr (.inl q);exact .inr (.inr q))
  refine ⟨u,r,.inr ⟨?_,?_⟩⟩
  ·show (relabel scope X.env).names.lookup x=some .cell\/(relabel scope X.env).names.lookup x=some .free
   unfold relabel
   dsimp only
   rw [cN,hfr]
   simp only [Option.map_some]
   split
   ·exact .inl rfl
   ·exact .inr rfl
  ·obtain ⟨c,hc⟩:=qI (env:=X.env) scope.names [] x hmem
   obtain ⟨d,hd⟩:=dc hc
   refine ⟨d,hd,?_⟩
   rcases lk with ⟨k,_⟩ | ⟨_,c',hc',z⟩
   ·rcases hk with q | q <;> (rw [q] at k;cases k)
   ·have:=hcl x d hd
    rw [hc'] at this;cases this
    exact cellK x d _ hc' z
 ·obtain ⟨v,z⟩:=I.cell x c (hcl x c e)
  exact ⟨v,cellK x c v (hcl x c e) z⟩
 ·show upd H D (.lst []) C=none
  rw [aj (by rw [hC,hD];exact Nat.succ_ne_self _)];exact fC
 ·show upd H D (.lst []) c=none
  rw [aj (ne_of_lt' (I.cell x c (hcl x c e)) hD)]
  exact I.bF x c (hcl x c e)
 ·exact I.hok.laid old (by rw [hD];exact Nat.le_refl _) ⟨Nat.zero_le _,[],0,.nil,hacc⟩
 ·unfold oY
  show _=N.length
  rw [List.length_append,List.length_map,List.length_replicate,S.len]
where
 ne_of_lt' {h:Heap} {c D:Addr} (z:∃ v,h.IsCell c v) (hD:D=h.objs.size):c≠D:=by
  obtain ⟨v,q⟩:=z
  rw [hD]
  exact Nat.ne_of_lt q.lt
variable {elt tg iter:Expr} {ifs:List Expr} {scope:Scope} {pos ppos:Pos} {wi:TI} {g:TG} {tc:St->TT} {te:St->TE} {Ex:XS} {cp:List Nat} {n:Nat} {N:List Str}
theorem lq {use:Option (Value->Sem Unit)} {Q':Value->Shared->Prop} {Q:VK} (hc:X.calm=true) (S:gw X scope N cp n) (hi:PI X tg iter wi)
  (hfr:o5 X) (hx:∀ e s,g7 X Ex e s->X.xe e s) (hb:∀ σ cl fp s H C,PG (dW X scope cl N fp s H C fun cv x H'=>Ex cv x σ H') tg g/\G8 (dW X scope cl N fp s H C fun cv x H'=>Ex cv x σ H') ifs (tc σ)/\PE (dW X scope cl N fp s H C fun cv x H'=>Ex cv x σ H') elt (te σ)) (hs:∀ x,foldedSetIterable iter X.env x=pure x)
  (I:Inv X pins σ H s) (h:qX wi g tc te cp n σ H Q)
  (fin:∀ s' C D H' f,Inv X pins σ H' s'->j6 X pins H' C->(∃ m,s'.heap.Ns C m)->Q (.ref D) H'->compPost (model X.prog X.w) X.A X.xe use Q' (.ref D) C (.ok f) s') :
  wpAny (model X.prog X.w) X.A (comprehension (.ListComp elt [⟨tg,iter,ifs,0⟩] scope pos) scope X.env ppos (newList []) false (eval iter X.env) use) Q' X.xe s:=by
 have hex:∀ x,(x,NameKind.free)∈scope.names->∃ c,X.env.cells.lookup x=some c:=fun x hx=>I.ok.has x (S.free x hx)
 refine wpAny_comprehension_free rfl hs (qH hex) S.kind S.names (aT (hi pins s σ H _ I h) fun v s1 h1=>aT h1 fun itv s2 h2=>?_)
 obtain ⟨it,fp,tn,J,H2,e,I2,T,st2,f2,hW⟩:=h2
 subst e
 refine wpAny_newObj_type (wpAny_newFunctionEnv S.cell (by intro y hy;simp at hy) (fun h₁ qo mj=>?_) S.kind)
 dsimp only at qo mj ⊢
 generalize hH2:s2.heap.push { cls:=.type "list", dict:=none, data:=.seq ([]:List Value).toArray }=G at qo mj ⊢
 have hC:G.objs.size=s2.heap.objs.size+1:=by rw [<- hH2,Heap.size_push]
 have FL:∀ b∈fp,b<s2.heap.objs.size:=fun b hb=>by
  obtain ⟨o,e,_⟩:=T.obj _ _ st2 b hb
  exact Heap.lt_size e
 have hDC:s2.heap.objs.size≠G.objs.size:=by rw [hC];exact Nat.ne_of_lt (Nat.lt_succ_self _)
 have old:∀ b o,s2.heap.get? b=some o->h₁.get? b=some o:=fun b o e=>mj.extBut b o (by rw [hC];exact Nat.ne_of_lt (Nat.lt_succ_of_lt (Heap.lt_size e))) (Heap.get?_push_of_some _ (hH2 ▸ Heap.get?_push_of_some _ e))
 have hacc:h₁.get? s2.heap.objs.size=some { cls:=.type "list", data:=.seq ([]:List Value).toArray 0 }:=mj.extBut _ _ hDC (Heap.get?_push_of_some _ (hH2 ▸ Heap.get?_push_size _ rfl))
 have st1:tn 0 h₁:=T.keep _ _ _ st2 fun b hb o e=>old b o e
 obtain ⟨W,⟨m0,w0⟩,turn⟩:=hW s2.heap.objs.size (I2.hok.fresh (Nat.le_refl _))
 have I0':=uR (t1:=s2.toks+([]:List (Str×Value)).length) S I2 f2 FL rfl hC qo old hacc
 have I0:=I0'.bz (g7 (CZ X scope (scope.names.foldl (aE X.env) []) N fp s2 H2 G.objs.size) fun cv x _ H'=>Ex cv x σ H')
 obtain ⟨hg,ht,he⟩:=hb σ (scope.names.foldl (aE X.env) []) fp s2 H2 G.objs.size
 have fp0:∀ b∈fp,upd H2 s2.heap.objs.size (.lst []) b=none:=fun b hb=>by rw [aj (Nat.ne_of_lt (FL b hb))];exact (f2 b hb).1
 have hex':∀ x c,(scope.names.foldl (aE X.env) []).lookup x=some c->X.env.cells.lookup x=some c:=fun x c e=>by
  rcases mU scope.names [] (x,c) hex (PySem.mem_of_lookup e) with q | q
  ·cases q
  ·exact q
 have stat:∀ {H':Hp},(∀ b∈fp,H' b=none)->∀ b∈fp,j6 (dW X scope (scope.names.foldl (aE X.env) []) N fp s2 H2 G.objs.size (fun cv x H'=>Ex cv x σ H')) [] H' b:=fun {H'} hn b hb =>
  ⟨hn b hb,Nat.ne_of_lt (Nat.lt_trans (FL b hb) (by rw [hC];exact Nat.lt_succ_self _)),fun z=>(List.mem_cons.mp (I2.d8 b z)).elim (f2 b hb).2.1 (f2 b hb).2.2.1,.inl hb,fun x c e=>(f2 b hb).2.2.2.2.1 x c (hex' x c e),fun p hp=>absurd (show p∈([]:List (Addr×Obj)) from hp) (by simp)⟩
 have loop:∀ s3:Shared,s3={ s2 with heap:=h₁,toks:=s2.toks+([]:List (Str×Value)).length }->codeAny (model X.prog X.w) X.A (.compLoop (.ListComp elt [⟨tg,iter,ifs,0⟩] scope pos) 0 (.ref it) (.ref s2.heap.objs.size) (compEnvC scope (scope.names.foldl (aE X.env) []) G.objs.size X.env))
   (compPost (model X.prog X.w) X.A X.xe use Q' (.ref s2.heap.objs.size) G.objs.size) s3:=by
  rintro s3 rfl
  refine fP (fun n s'=>∃ i σ' H',Inv (dW X scope (scope.names.foldl (aE X.env) []) N fp s2 H2 G.objs.size (fun cv x H'=>Ex cv x σ H')) [] σ' H' s'/\tn i s'.heap/\(∀ b∈fp,H' b=none)/\W i n σ' H') (g7 (CZ X scope (scope.names.foldl (aE X.env) []) N fp s2 H2 G.objs.size) fun cv x _ H'=>Ex cv x σ H') ?hE ?_ m0 ⟨0,_,_,I0,st1,fp0,w0⟩
  case hE =>
   rintro e s3 ⟨pins3,σ3,H3,a,a0,cv,B,rfl,I3,up,dU,_,q⟩
   obtain ⟨jU,lR,L,hst,FN,K8⟩:=hfr
   show wpAny (model X.prog X.w) X.A (noteFrame (.ref a) _) _ _ s3
   rw [lU (env:=compEnvC scope (scope.names.foldl (aE X.env) []) G.objs.size X.env) (env':=jU) (K8.trans FN.symm)]
   have up':Up B (jU::lR) a cv a0 s3.heap:=by rw [<- hst];exact up
   refine up'.note (by rw [I.ok.frames,hst]) FN fun h4 held vH=>?_
   obtain ⟨m,hm,_⟩:=id I3.loc
   have hcC:G.objs.size∉frs X.stack:=fun z=>by
    rcases List.mem_cons.mp (I2.d8 _ z) with e | z
    ·have z:=I2.lt
     rw [<- e,hC] at z
     exact absurd z (Nat.not_lt.mpr (Nat.le_succ _))
    ·exact I2.IV (by rw [hC];exact Nat.le_succ _) z
   refine ⟨m,vH.ns hm,fun h5 sb5 cenv _=>?_⟩
   have hm4:=vH.ns hm
   have upH:Up B X.stack a cv a0 h4:=by rw [hst];exact .se held
   have Dd:=upH.hide sb5 (by
    obtain ⟨o,es,ep,ho,hd,_⟩:=hm4
    exact ⟨o,ho,fun vs z=>by rw [hd] at z;cases z⟩) hcC
   refine Dd.pass fun h6 up6 HQ=>hx _ _ ?_
   have iZ:(B.hide G.objs.size).StaysIn s3.heap:=fun b o e=>up.1 b o (Heap.of_hide e)
   have BF:Calm (B.hide G.objs.size) (frs X.stack) fp H3 s2.heap:=fun b hb hf=>by
    obtain ⟨o,e⟩:=dU b hb hf
    refine ⟨o,?_⟩
    rw [Heap.hide_ne]
    ·exact e
    ·rintro rfl
     rcases hb with hb | ⟨⟨o',hb⟩,_⟩
     ·exact hb I3.free
     ·have z:=Heap.lt_size hb
      rw [hC] at z
      exact absurd z (Nat.not_lt.mpr (Nat.le_succ _))
   have fru:∀ b∈frs X.stack,∀ o,s3.heap.get? b=some o->∃ sl,h6.get? b=some { o with slots:=sl }:=fun b hb o e=>by
    have hd:=jQ I3 b hb o e
    obtain ⟨sl,e4⟩:=vH b o e hd
    have e5:h5.get? b=some { o with slots:=sl }:=by rw [sb5.2 b (by rintro rfl;exact hcC hb)];exact e4
    obtain ⟨Cb,e6⟩:=HQ b _ e5 hd
    exact ⟨Cb,e6⟩
   have un6:=mC I3.base BF iZ up6.1 fru (fun b hb _=>hb)
   have hok6:=jk I3.hok BF iZ up6.1 I3.fE
   have J:=I2.yx (s':={ s3 with heap:=h6 }) I3.os un6 hok6 I3.bare fun b hb=>⟨(f2 b hb).2.2.2.1,(f2 b hb).2.1,(f2 b hb).2.2.2.2.1,(f2 b hb).2.2.2.2.2⟩
   have calX:Calm (B.hide G.objs.size) (frs X.stack) X.ex H3 X.s₀.heap:=by
    intro b hb hf
    refine BF b ?_ hf
    rcases hb with hb | ⟨⟨o,z⟩,nx⟩
    ·exact .inl hb
    ·refine .inr ⟨fG I2 z nx,fun zf=>?_⟩
     rcases (f2 b zf).2.2.2.1 with y | y
     ·exact nx y
     ·exact absurd (Nat.lt_of_lt_of_le (Heap.lt_size z) y) (Nat.lt_irrefl _)
   have pnX:∀ p∈X.pn,(B.hide G.objs.size).get? p.1=some p.2:=by
    intro p hp
    obtain ⟨p1,p2,p3,p4,_⟩:=I2.pin p (List.mem_append_left _ hp)
    have pf:p.1∉fp:=fun z=>(f2 _ z).2.2.2.2.2 p (List.mem_append_left _ hp) rfl
    have ps:p.1∉frs X.stack:=fun z=>by
     rcases List.mem_cons.mp (I2.d8 _ z) with e | z
     ·exact p3 e
     ·exact p4 z
    exact BF.at iZ (I3.base.keep p.1 p.2 p1 p2 ps pf) (.inr ⟨⟨_,p1⟩,pf⟩) ps
   exact ⟨pins,σ,H3,a,a0,cv,B.hide G.objs.size,rfl,J,up6,calX,pnX,q⟩
  rintro n s3 ⟨i,σ3,H3,I3,st3,JB,w3⟩
  rcases turn i n σ3 H3 w3 with ⟨stop,qn⟩ | ⟨go,step⟩
  ·refine aT (T.done (dW X scope (scope.names.foldl (aE X.env) []) N fp s2 H2 G.objs.size (fun cv x H'=>Ex cv x σ H')) rfl rfl rfl hc i [] s3 σ3 H3 _ I3 (stat JB) st3 stop) fun r s4 ⟨hr,I4⟩=>?_
   subst hr
   refine fin s4 _ _ H3 _ (I2.yx I4.os I4.base I4.hok I4.bare fun b hb=>⟨(f2 b hb).2.2.2.1,(f2 b hb).2.1,(f2 b hb).2.2.2.2.1,(f2 b hb).2.2.2.2.2⟩) (I2.uF (by rw [hC];exact Nat.le_succ _) I4.free) ?_ qn
   obtain ⟨m,hm,_⟩:=I4.loc
   exact ⟨m,hm⟩
  ·refine aT (T.item (dW X scope (scope.names.foldl (aE X.env) []) N fp s2 H2 G.objs.size (fun cv x H'=>Ex cv x σ H')) rfl rfl rfl hc i [] s3 σ3 H3 _ I3 (stat JB) st3 go) fun r s4 ⟨u,hr,h4⟩=>?_
   subst hr
   refine aT h4 fun _ s5 ⟨x,H5,I5,r5,y5,Dp,fr5⟩=>?_
   have I5':=I5.pinned (stat fr5) (T.obj _ _ Dp)
   refine aT (hg _ s5 σ3 H5 x u _ I5' r5 (step x H5 y5)) fun _ s6 ⟨σ6,H6,I6,q6⟩=>?_
   refine aT (ht _ s6 σ6 H6 _ I6 q6) fun ok s7 ⟨H7,I7,q7⟩=>?_
   have again:∀ {σ8:St} {H8:Hp} {s8:Shared} {m':Nat},Inv (dW X scope (scope.names.foldl (aE X.env) []) N fp s2 H2 G.objs.size (fun cv x H'=>Ex cv x σ H')) ([]++jB fp s5.heap) σ8 H8 s8->m'<n->W (i+1) m' σ8 H8 ->
     ∃ m,m<n/\∃ i σ' H',Inv (dW X scope (scope.names.foldl (aE X.env) []) N fp s2 H2 G.objs.size (fun cv x H'=>Ex cv x σ H')) [] σ' H' s8/\tn i s8.heap/\(∀ b∈fp,H' b=none)/\W i m σ' H':=fun {σ8 H8 s8 m'} I8 hm w8=>by
    refine ⟨m',hm,i+1,σ8,H8,I8.gy,T.keep _ _ _ Dp fun b hb o e=>(I8.pin (b,o) (List.mem_append_right _ (List.mem_append_right _ (ek hb e)))).1,fun b hb=>?_,w8⟩
    obtain ⟨o,e,d⟩:=T.obj _ _ Dp b hb
    exact (I8.pin (b,o) (List.mem_append_right _ (List.mem_append_right _ (ek hb e)))).2.1
   cases ok with
   | false =>
    rw [if_neg Bool.false_ne_true] at q7 ⊢
    obtain ⟨m',hm,w7⟩:=q7
    exact again I7 hm w7
   | true =>
    rw [if_pos rfl] at q7 ⊢
    refine aT (he _ s7 σ6 H7 _ I7 q7) fun xv s8 ⟨v,H8,I8,r8,ys,hy,hz,m',hm,w8⟩=>?_
    refine aT (kL (X:=(dW X scope (scope.names.foldl (aE X.env) []) N fp s2 H2 G.objs.size (fun cv x H'=>Ex cv x σ H'))) _ s8 σ6 H8 (.ref s2.heap.objs.size) [v] (.ref s2.heap.objs.size) [xv] (fun _ H'=>H'=upd H8 s2.heap.objs.size (.lst (ys++[v]))) I8 rfl (.cons r8 .nil) ⟨_,ys,v,rfl,rfl,hy,hz,rfl⟩) fun a s9 ⟨_,H9,I9,_,e9⟩=>?_
    subst e9
    exact again I9 hm w8
 exact codeAny_compStart_list (loop _ rfl) (T.self X.A 0 _ _ _ st1 (loop _ rfl))
theorem Ax (hc:X.calm=true) (S:gw X scope N cp n) (hi:PI X tg iter wi)
  (hfr:o5 X) (hx:∀ e s,g7 X Ex e s->X.xe e s) (hb:∀ σ cl fp s H C,PG (dW X scope cl N fp s H C fun cv x H'=>Ex cv x σ H') tg g/\G8 (dW X scope cl N fp s H C fun cv x H'=>Ex cv x σ H') ifs (tc σ)/\PE (dW X scope cl N fp s H C fun cv x H'=>Ex cv x σ H') elt (te σ)) (hs:∀ x,foldedSetIterable iter X.env x=pure x) :
  PE X (.ListComp elt [⟨tg,iter,ifs,0⟩] scope pos) (qX wi g tc te cp n):=by
 intro pins s σ H Q I h
 rw [eval_ListComp]
 refine lq (use:=none) hc S hi hfr hx hb hs I h fun s' C D H' f I' fC ⟨m,hm⟩ q=>⟨m,hm,fun h' hs'=>?_⟩
 exact ⟨.ref D,H',I'.turned (fun b o hb e=>(hs'.2 b hb).trans e) fC.1 fC.2.1 fC.2.2.2.1 fC.2.2.2.2.1 fC.2.2.2.2.2,rfl,q⟩
theorem An {i:Nat} {y:Str} {py spos:Pos} (hN:X.N.Nodup) (hy:X.N[i]? = some y) (hk:X.env.scope.names.lookup y=some .local) (hc:X.calm=true) (S:gw X scope N cp n) (hi:PI X tg iter wi)
  (hfr:o5 X) (hx:∀ e s,g7 X Ex e s->X.xe e s) (hb:∀ σ cl fp s H C,PG (dW X scope cl N fp s H C fun cv x H'=>Ex cv x σ H') tg g/\G8 (dW X scope cl N fp s H C fun cv x H'=>Ex cv x σ H') ifs (tc σ)/\PE (dW X scope cl N fp s H C fun cv x H'=>Ex cv x σ H') elt (te σ)) (hs:∀ x,foldedSetIterable iter X.env x=pure x)
  (hsw:swapsWith (.ListComp elt [⟨tg,iter,ifs,0⟩] scope pos) (some (.Name y py)) spos.line X.env=pure true) :
  PS X (.Assign [.Name y py] (.ListComp elt [⟨tg,iter,ifs,0⟩] scope pos) spos) (vq (qX wi g tc te cp n) (jP i)):=by
 intro pins s σ H Dn I h
 rw [exec_Assign_Name_used _ _ _ _ hsw]
 refine wpAny_bind (wpAny_standAt (wpAny_bind ?_))
 show wpAny _ X.A (do let _ <- comprehension (.ListComp elt [⟨tg,iter,ifs,0⟩] scope pos) scope X.env _ (newList []) false (eval iter X.env) (some (assign (.Name y py) X.env))) _ _ s
 refine wpAny_bind (wpAny_mono (lq (use:=some (assign (.Name y py) X.env)) (Q':=fun _ s'=>SP X pins Dn .next s') hc S hi hfr hx hb hs I h fun s' C D H' f I' fC ⟨m,hm⟩ q=>?_) (fun _ s' hq=>wpAny_pure (wpAny_pure hq)) fun _ _ e=>e)
 show wpAny _ X.A (assign (.Name y py) X.env (.ref D)) _ _ s'
 refine wpAny_assign_Name (kB I' hN hy (.inl hk) (v:=.ref D) rfl (fun s2 I2 ⟨a,hsb,ha⟩=>?_) (.inr hk))
 have hCa:C≠a:=by
  rcases ha with rfl | ha
  ·exact fC.2.1
  ·exact fun z=>fC.2.2.2.2.1 _ _ ha z.symm
 refine ⟨m,hm.sameBut hsb hCa,fun h' hs'=>⟨_,H',I2.turned (fun b o hb e=>(hs'.2 b hb).trans e) fC.1 fC.2.1 fC.2.2.2.1 fC.2.2.2.2.1 fC.2.2.2.2.2,q⟩⟩
end
end Fg
end
section
namespace Fg
open PySem L2
noncomputable def KA (a:Addr) (o:Obj) (kvs:List (Key×V)):It :=
 ⟨fun i H=>H a=some (.fJ o (.dK kvs))/\i<kvs.length,fun i H x H'=>H'=H/\∃ kv,kvs[i]? = some kv/\x=kV kv.1,fun i H=>H a=some (.fJ o (.dK kvs))/\kvs.length<=i⟩
noncomputable def Ju (B:Bd) (th:Addr->Prop) (tl:TE):TI:=fun σ H R=>tl σ H fun x H1 =>
 (∃ a,x=.ref a/\(∃ xs,eV B.K H1 a xs)/\R (Itl B.K a) H1)\/(∃ a,x=.ref a/\(∃ xs,gr B.K H1 a xs)/\R (Itt B.K a) H1) \/
 (∃ a kvs,x=.ref a/\H1 a=some (.dK kvs)/\∀ o,th a->R (KA a o kvs) (upd H1 a (.fJ o (.dK kvs)))) \/
 (∃ a o kvs,x=.ref a/\H1 a=some (.fJ o (.dK kvs))/\R (KA a o kvs) H1)
section
variable {B:Bd} {Φ:bh} {E:Gx} {F F' F0 F1:Addr->Prop} {ρ ρ' ρ0 ρ1:List Addr} {H H' H0 H1:Hp} {M M' M0:MH} {σD:Sg} {σ:L2.St} {Q:VK} {Dn:Ends}
theorem ko {a:Addr} {src:D} {ds:List D} (h:∀ F ρ M H,Ext F0 ρ0 H0 F ρ H->SR B F ρ M H->aO M0 src M=true->∃ vs,eV B.K H a vs/\ai B F ρ H ds vs):Walks B (Itl B.K a) src ds F0 ρ0 M0 H0:=by
 intro i F ρ M H e S st
 obtain ⟨vs,q,rd⟩:=h F ρ M H e S st
 refine ⟨fun d hd=>?_,fun hl=>⟨vs,q,by rw [<- ai.length rd];exact hl⟩⟩
 obtain ⟨v,hv,rv⟩:=ai.get rd hd
 refine ⟨⟨vs,v,q,hv⟩,fun x H' ⟨e',hy⟩=>?_⟩
 subst e'
 have z:=hy vs q
 rw [hv] at z;cases z
 exact ⟨F,S.refl,S,rv⟩
theorem tS {a:Addr} {src:D} {ds:List D} (h:∀ F ρ M H,Ext F0 ρ0 H0 F ρ H->SR B F ρ M H->aO M0 src M=true->∃ vs,gr B.K H a vs/\ai B F ρ H ds vs):Walks B (Itt B.K a) src ds F0 ρ0 M0 H0:=by
 intro i F ρ M H e S st
 obtain ⟨vs,q,rd⟩:=h F ρ M H e S st
 refine ⟨fun d hd=>?_,fun hl=>⟨vs,q,by rw [<- ai.length rd];exact hl⟩⟩
 obtain ⟨v,hv,rv⟩:=ai.get rd hd
 refine ⟨⟨vs,v,q,hv⟩,fun x H' ⟨e',hy⟩=>?_⟩
 subst e'
 have z:=hy vs q
 rw [hv] at z;cases z
 exact ⟨F,S.refl,S,rv⟩
theorem EW {k:Key}:RD B F ρ H (K1 k) (kV k):=by cases k <;> simp only [K1,kV,RD]
theorem kq {a:Addr} {o:Obj} {src:D} {bY:List (Ky×D)} {kws:List (Key×V)} (hz:H0 a=some (.fJ o (.dK kws))) (hk:kws.map (·.1)=bY.map (·.1)):Walks B (KA a o kws) src (bY.map fun kv=>K1 kv.1) F0 ρ0 M0 H0:=by
 intro i F ρ M H e S st
 have hl:kws.length=bY.length:=by have:=congrArg List.length hk;simpa using this
 have hH:=e.z a o _ hz
 refine ⟨fun d hd=>?_,fun hi=>⟨hH,by rw [hl];simpa using hi⟩⟩
 rw [List.getElem?_map] at hd
 cases hx:bY[i]? with
 | none=>rw [hx] at hd;cases hd
 | some kd =>
  rw [hx] at hd
  simp only [Option.map_some,Option.some.injEq] at hd
  subst hd
  obtain ⟨hi,_⟩:=List.getElem?_eq_some_iff.mp hx
  refine ⟨⟨hH,by rw [hl];exact hi⟩,fun x H' ⟨e',kw,hkw,hx'⟩=>?_⟩
  subst e' hx'
  have e1:(kws.map (·.1))[i]? = some kw.1:=by rw [List.getElem?_map,hkw];rfl
  rw [hk,List.getElem?_map,hx] at e1
  simp only [Option.map_some,Option.some.injEq] at e1
  rw [<- e1]
  exact ⟨F,S.refl,S,EW⟩
theorem Dz {a:Fg.E} {Rr:It->Hp->Prop} (h:GI B Φ E (.e a) σ H Rr):Ju B E.th (T B Φ E a) σ H Rr:=by
 obtain ⟨σD,M,F,ρ,S,r,h⟩:=h
 refine ⟨σD,M,F,ρ,S,r,?_⟩
 cases hx:ev Φ a σD M with
 | exc c M1 =>
  have he:eO Φ (.e a) σD M=.exc c M1:=by simp only [eO,hx,R.jZ]
  rw [he] at h;exact h
 | bad =>
  have he:eO Φ (.e a) σD M=.bad:=by simp only [eO,hx,R.j0]
  rw [he] at h;exact h
 | ok d M1 =>
  intro F1 ρ1 H1 v e1 S1 rd
  cases hi:itemsOf M1 d with
  | none =>
   have he:eO Φ (.e a) σD M=.bad:=by simp only [eO,hx,R.aa,hi]
   rw [he] at h;exact h.elim
  | some ds =>
   have he:eO Φ (.e a) σD M=.ok (d,ds,wk M1 d) (walk M1 d):=by simp only [eO,hx,R.aa,hi]
   rw [he] at h
   cases d with
   | ao=>simp [itemsOf,vw] at hi
   | bl _=>simp [itemsOf,vw] at hi
   | int _=>simp [itemsOf,vw] at hi
   | iY _=>simp [itemsOf,vw] at hi
   | str _=>simp [itemsOf] at hi
   | dct _ _=>simp [itemsOf] at hi
   | lst xs =>
    simp only [itemsOf,vw,Option.some.injEq] at hi;subst hi
    simp only [RD] at rd
    obtain ⟨b,vs,rfl,z,q⟩:=id rd
    refine .inl ⟨b,rfl,⟨vs,z.sq⟩,h F1 ρ1 H1 _ e1 S1 fun M' eq S'=>⟨?_,fun z=>by simp [wk] at z⟩⟩
    refine ko fun F ρ M H e S st=>?_
    have Ib:=RD.mono e (.lst xs) (.ref b) (by simp only [RD];exact rd)
    simp only [RD] at Ib
    obtain ⟨b',vs',eb,z',q'⟩:=Ib
    cases eb
    exact ⟨vs',z'.sq,q'⟩
   | tup xs =>
    simp only [itemsOf,vw,Option.some.injEq] at hi;subst hi
    simp only [RD] at rd
    obtain ⟨b,vs,rfl,z,q⟩:=id rd
    refine .inr (.inl ⟨b,rfl,⟨vs,z.sq⟩,h F1 ρ1 H1 _ e1 S1 fun M' eq S'=>⟨?_,fun z=>by simp [wk] at z⟩⟩)
    refine tS fun F ρ M H e S st=>?_
    have Ib:=RD.mono e (.tup xs) (.ref b) (by simp only [RD];exact rd)
    simp only [RD] at Ib
    obtain ⟨b',vs',eb,z',q'⟩:=Ib
    cases eb
    exact ⟨vs',z'.sq,q'⟩
   | ref n =>
    simp only [RD] at rd
    obtain ⟨b,hb,rfl⟩:=rd
    cases hM:M1[n]? with
    | none=>simp [itemsOf,vw,hM] at hi
    | some o =>
     cases o with
     | ins _ _=>simp [itemsOf,vw,hM] at hi
     | lst xs =>
      simp only [itemsOf,vw,hM,Option.some.injEq] at hi;subst hi
      have hw:walk M1 (.ref n)=M1:=by simp only [walk,hM]
      have hk:wk M1 (.ref n)=false:=by simp only [wk,hM]
      rw [hw,hk] at h
      obtain ⟨vs,h1,q⟩:=S1.obj n b _ hb hM
      refine .inl ⟨b,rfl,⟨vs,.inl (.inl h1)⟩,h F1 ρ1 H1 _ e1 S1 fun M' eq S'=>⟨?_,fun z=>by simp at z⟩⟩
      injection eq with eq1 eq2
      subst eq2
      refine ko fun F ρ M H e S st=>?_
      simp only [aO,decide_eq_true_eq] at st
      obtain ⟨vs',h1',q'⟩:=S.obj n b _ (e.at hb) (st.trans hM)
      exact ⟨vs',.inl (.inl h1'),q'⟩
     | dct bY =>
      simp only [itemsOf,vw,hM,Option.some.injEq] at hi;subst hi
      have hw:walk M1 (.ref n)=M1.set n (.ng bY):=by simp only [walk,hM]
      have hk:wk M1 (.ref n)=true:=by simp only [wk,hM]
      rw [hw,hk] at h
      obtain ⟨kws,h1,h2,q⟩:=S1.obj n b _ hb hM
      refine .inr (.inr (.inl ⟨b,kws,rfl,h1,fun ob hth=>?_⟩))
      obtain ⟨S2,e2⟩:=S1.wk ob hb hM h1
      refine h F1 ρ1 _ _ (e1.trans e2) S2 fun M' eq S'=>⟨kq ay h2,fun _=>⟨n,b,rfl,hb,hth,fun w v z=>?_⟩⟩
      have:=e1.z b w v z
      rw [h1] at this;cases this
     | ng bY =>
      simp only [itemsOf,vw,hM,Option.some.injEq] at hi;subst hi
      have hw:walk M1 (.ref n)=M1:=by simp only [walk,hM]
      have hk:wk M1 (.ref n)=false:=by simp only [wk,hM]
      rw [hw,hk] at h
      obtain ⟨ob,kws,h1,h2,q⟩:=S1.obj n b _ hb hM
      exact .inr (.inr (.inr ⟨b,ob,kws,rfl,h1,h F1 ρ1 H1 _ e1 S1 fun M' eq S'=>⟨kq h1 h2,fun z=>by simp at z⟩⟩))
end
end Fg
end
section
namespace Fg
open PySem L2
noncomputable def EB (E:Gx) (σ:L2.St):Gx:=⟨fun cv x _ H=>E.e cv x σ H,fun _=>False,fun cv x _ H H' t h=>by
 rcases t with rfl | ⟨_,_,_,z,_⟩
 ·exact h
 ·exact z.elim⟩
noncomputable def TBo (B:Bd) (Φ:bh) (E:Gx):O->TT
 | .none=>fun _ H Q=>Q true H
 | .some e=>TB B Φ E e
section
variable {B:Bd} {Φ:bh} {E:Gx} {F F' F0 F1:Addr->Prop} {ρ ρ' ρ0 ρ1:List Addr} {H H' H0 H1:Hp} {M M' M0:MH} {σD:Sg} {σ:L2.St} {Q:VK} {Dn:Ends}
theorem Ext.fresh (S:SR B F ρ M H) {p:Addr} (h:H p=none) (o:HO):Ext F ρ H F ρ (upd H p o) :=
 ⟨⟨S.sep,fun _ q=>q,fun a q _=>aj (by rintro rfl;exact q h),List.prefix_refl _,fun _ q=>.inl q,fun _ q=>.inl q⟩,fun b w u q=>by rw [aj (by rintro rfl;rw [h] at q;cases q)];exact q⟩
theorem Ext.over (e:Ext F ρ H F' ρ' H') {p:Addr} (h:H p=none) (o:HO):Ext F ρ H F' ρ' (upd H' p o) :=
 ⟨⟨e.s,e.f,fun a q nb=>by rw [aj (by rintro rfl;exact q h)];exact e.h a q nb,e.r,e.n,e.g⟩,fun b w u q=>by rw [aj (by rintro rfl;rw [h] at q;cases q)];exact e.z b w u q⟩
theorem RS.cap (r:RS B F ρ H σD σ) (caps:List Nat) (n:Nat):RS B F ρ H (mV σD caps++List.replicate n none) (oY caps n σ):=by
 refine ⟨by simp [mV,oY],fun i d q=>?_⟩
 by_cases hi:i<caps.length
 ·have hc:caps[i]? = some caps[i]:=List.getElem?_eq_getElem hi
  rw [List.getElem?_append_left (by simpa [mV] using hi)] at q
  simp only [mV,List.getElem?_map,hc,Option.map_some,Option.some.injEq] at q
  cases hs:σD[caps[i]]? with
  | none=>rw [hs] at q;cases q
  | some o =>
   rw [hs] at q
   simp only [Option.join_some] at q
   subst q
   obtain ⟨v,h1,h2⟩:=r.get _ _ hs
   refine ⟨v,?_,h2⟩
   unfold oY
   rw [List.getElem?_append_left (by simpa using hi),List.getElem?_map,hc]
   simp [h1]
 ·rw [List.getElem?_append_right (by simpa [mV] using Nat.le_of_not_lt hi),List.getElem?_replicate] at q
  split at q <;> cases q
theorem RS.aS (e:o6 F ρ H F' ρ' H') (h:RS B F ρ H σD σ):RS B F' ρ' H' σD σ :=
 ⟨h.len,fun i d q=>let ⟨v,h1,h2⟩:=h.get i d q;⟨v,h1,RD.aS e d v h2⟩⟩
theorem nL {fz:Bool} {caps tg:List Nat} {elt:Fg.E} {it:Src} {cond:O} (h:T B Φ E (.comp fz caps tg elt it cond) σ H Q) :
  qX (GI B Φ E it) (G3 tg B.K) (fun σ=>TBo B Φ (EB E σ) cond) (fun σ=>T B Φ (EB E σ) elt) caps tg.length σ H (fun v H'=>∃ qO,zb E.th H' qO/\Q v qO):=by
 obtain ⟨σD,M,F,ρ,S,r,h⟩:=h
 simp only [ev] at h
 refine ⟨σD,M,F,ρ,S,r,?_⟩
 cases hx:eO Φ it σD M with
 | exc c M1=>rw [hx] at h;exact h
 | bad=>rw [hx] at h;exact h
 | ok p M0 =>
  rw [hx] at h
  simp only [R.aa] at h
  intro F0 ρ0 H0 J e0 S0 hw
  obtain ⟨W,wz⟩:=hw M0 rfl S0
  obtain ⟨src,ds,fl⟩:=p
  dsimp only at h W wz
  intro Da Lb
  obtain ⟨nD,nF⟩:=S0.new Lb
  have La:H Da=none:=by
   cases q:H Da with
   | none=>rfl
   | some u =>
    exfalso
    by_cases hr:Da∈ρ
    ·exact nD (e0.r.subset hr)
    ·have:=e0.h Da (by rw [q];simp) hr
     rw [Lb,q] at this;cases this
  let loop:=fun (i:Nat) (σ':Sg) (M':MH) (acc:List D)=>((bC (oM Φ cond) (ev Φ elt) tg (aO M0 src) (ds.drop i) σ' M' acc).fin (eX fl src)).bind fun ds M2=>bB fz ds M2
  let WW:Nat->Nat->L2.St->Hp->Prop:=fun i m σ' H'=>m+i=ds.length/\∃ (G9:Sg) (M1:MH) (F1:Addr->Prop) (ρ1:List Addr) (acc:List D) (vs:List V),Ext F ρ H F1 ρ1 H'/\Ext F0 ρ0 H0 F1 ρ1 H'/\SR B F1 ρ1 M1 H'/\RS B F1 ρ1 H' G9 σ'/\aO M0 src M1=true/\Da∉ρ1/\¬ F1 Da/\H' Da=some (.lst vs)/\ai B F1 ρ1 H' acc vs /\
   Post B (loop i G9 M1 acc) F ρ H Q (fun cv x H'=>E.e cv x σ H')
  have x0:=o6.side (ρ:=ρ0) (H:=H0) nF (.lst [])
  refine ⟨WW,⟨ds.length,by simp,_,M0,F0,ρ0,[],[],e0.over La _,Ext.fresh S0 Lb _,S0.side nD nF _,((r.mono e0).cap caps tg.length).aS x0,?_,nD,nF,ay,ai.nil,h⟩,?_⟩
  ·unfold aO;split <;> simp
  rintro i m σ1 H1 ⟨hm,zg,M1,F1,ρ1,acc,vs,eo,e1,S1,r1,st1,d1,f1,Lc,ra,p1⟩
  obtain ⟨wgo,wst⟩:=W i F1 ρ1 M1 H1 e1 S1 st1
  by_cases hi:i<ds.length
  ·have hd:ds.drop i=ds[i]::ds.drop (i+1):=List.drop_eq_getElem_cons hi
   simp only [loop] at p1
   rw [hd] at p1
   unfold bC at p1
   obtain ⟨go,yl⟩:=wgo ds[i] (List.getElem?_eq_getElem hi)
   refine .inr ⟨go,fun x H2 hy=>?_⟩
   obtain ⟨F2,e2,S2,rd⟩:=yl x H2 hy
   have keep:∀ {F3:Addr->Prop} {ρ3:List Addr} {H3:Hp},Ext F1 ρ1 H1 F3 ρ3 H3->Da∉ρ3/\¬ F3 Da/\H3 Da=some (.lst vs)/\ai B F3 ρ3 H3 acc vs:=fun {F3 ρ3 H3} e=>by
    have hne:H1 Da≠none:=by rw [Lc];simp
    refine ⟨fun z=>(e.n Da z).elim d1 hne,fun z=>?_,(e.h Da hne d1).trans Lc,ai.mono e _ _ ra⟩
    rcases e.g Da z with q | q | q
    ·exact f1 q
    ·exact hne q
    ·exact d1 q
   split at p1
   ·exact p1.elim
   ·rename_i σ2 hs
    refine jw (r1.mono e2) rd hs fun σ' r'=>?_
    have JV:∀ {F3:Addr->Prop} {ρ3:List Addr} {H3:Hp} {M3:MH},Ext F1 ρ1 H1 F3 ρ3 H3->SR B F3 ρ3 M3 H3->RS B F3 ρ3 H3 σ2 σ' ->
      Post B ((((ev Φ elt σ2 M3).bind fun x M2=>if aO M0 src M2=true then (if decide (acc.length<line)=true then bC (oM Φ cond) (ev Φ elt) tg (aO M0 src) (ds.drop (i+1)) σ2 M2 (acc++[x]) else .bad) else .bad).fin (eX fl src)).bind fun ds M2=>bB fz ds M2) F ρ H Q (fun cv x H'=>E.e cv x σ H') ->
      T B Φ (EB E σ) elt σ' H3 fun v H5=>∃ ys,H5 Da=some (.lst ys)/\ys.length<sizeLine/\∃ m',m'<m/\WW (i+1) m' σ' (upd H5 Da (.lst (ys++[v]))):=by
     intro F3 ρ3 H3 M3 e3 S3 r3 p3
     refine ⟨σ2,M3,F3,ρ3,S3,r3,?_⟩
     cases hv:ev Φ elt σ2 M3 with
     | bad=>rw [hv] at p3;exact p3
     | exc c M4 =>
      rw [hv] at p3
      intro F4 ρ4 H4 cv x e4 S4 q4
      obtain ⟨H5,t5,S5,e5,x5⟩:=cE S4 ((eo.trans e3).trans e4) ((e1.trans e3).trans e4).r wz
      exact E.cl _ _ _ _ _ t5 (p3 F4 ρ4 H5 cv x e5 S5 q4)
     | ok d M4 =>
      rw [hv] at p3
      simp only [R.aa] at p3
      intro F4 ρ4 H4 v e4 S4 q4
      split at p3
      ·rename_i hst
       split at p3
       ·rename_i hlt
        obtain ⟨k1,k2,k3,k4⟩:=keep (e3.trans e4)
        have hl4:=ai.length k4
        have x4:=o6.side (ρ:=ρ4) (H:=H4) k2 (.lst (vs++[v]))
        refine ⟨vs,k3,by rw [<- hl4];exact Nat.lt_of_lt_of_le (of_decide_eq_true hlt) bD,m-1,by omega,by omega,σ2,M4,F4,ρ4,acc++[d],vs++[v],((eo.trans e3).trans e4).over La _,((e1.trans e3).trans e4).over Lb _,S4.side k1 k2 _,((r3.mono e4)).aS x4,hst,k1,k2,ay,ai.aS x4 _ _ (k4.append (ai.cons q4 ai.nil)),p3⟩
       ·exact p3.elim
      ·exact p3.elim
    cases cond with
    | none =>
     have hc:oM Φ .none σ2 M1=.ok (.bl true) M1:=by simp only [oM]
     rw [hc] at p1
     simp only [R.aa] at p1
     unfold TBo
     dsimp only
     rw [if_pos rfl]
     exact JV e2 S2 r' p1
    | some c =>
     have hc0:oM Φ (.some c) σ2 M1=ev Φ c σ2 M1:=by simp only [oM]
     rw [hc0] at p1
     refine ⟨σ2,M1,F2,ρ1,S2,r',?_⟩
     cases hc:ev Φ c σ2 M1 with
     | bad=>rw [hc] at p1;exact p1
     | exc k M4 =>
      rw [hc] at p1
      intro F4 ρ4 H4 cv x e4 S4 q4
      obtain ⟨H5,t5,S5,e5,x5⟩:=cE S4 ((eo.trans e2).trans e4) ((e1.trans e2).trans e4).r wz
      exact E.cl _ _ _ _ _ t5 (p1 F4 ρ4 H5 cv x e5 S5 q4)
     | ok t M4 =>
      rw [hc] at p1
      simp only [R.aa] at p1
      intro F4 ρ4 H4 v e4 S4 q4
      split at p1
      ·simp only [RD] at q4;subst q4
       refine ⟨true,rfl,?_⟩
       dsimp only
       rw [if_pos rfl]
       exact JV (e2.trans e4) S4 (r'.mono e4) p1
      ·simp only [RD] at q4;subst q4
       refine ⟨false,rfl,?_⟩
       dsimp only
       rw [if_neg Bool.false_ne_true]
       split at p1
       ·rename_i hst
        obtain ⟨k1,k2,k3,k4⟩:=keep (e2.trans e4)
        exact ⟨m-1,by omega,by omega,σ2,M4,F4,ρ4,acc,vs,(eo.trans e2).trans e4,(e1.trans e2).trans e4,S4,r'.mono e4,hst,k1,k2,k3,k4,p1⟩
       ·exact p1.elim
      ·exact p1.elim
  ·have hd:ds.drop i=[]:=List.drop_eq_nil_of_le (Nat.le_of_not_lt hi)
   simp only [loop] at p1
   rw [hd] at p1
   unfold bC at p1
   obtain ⟨H4,t4,S4,e4,x4⟩:=cE S1 eo e1.r wz
   refine .inl ⟨wst (Nat.le_of_not_lt hi),H4,t4,?_⟩
   have p2:Post B (bB fz acc (eX fl src M1)) F ρ H Q (fun cv x H'=>E.e cv x σ H'):=p1
   have ra4:=ai.bq x4 _ _ ra
   have hD4:H4 Da=some (.lst vs):=by
    have:=x4.h Da (by rw [Lc];simp) d1
    exact this.trans Lc
   cases fz with
   | true =>
    simp only [bB,if_true] at p2
    have xt:o6 F1 ρ1 H4 (fun a=>F1 a\/a=Da) ρ1 H4:=⟨fun _ q=>.inl q,fun _ _ _=>rfl,List.prefix_refl _⟩
    refine p2 (fun a=>F1 a\/a=Da) ρ1 H4 (.ref Da) ⟨⟨e4.s,fun a q=>.inl (e4.f a q),e4.h,e4.r,e4.n,fun a q=>q.elim (e4.g a) fun z=>.inr (.inl (z ▸ La))⟩,e4.z⟩ (S4.take d1 (by rw [hD4];simp)) ?_
    simp only [RD]
    exact ⟨Da,vs,rfl,.inl ⟨.inr rfl,.inl hD4⟩,ai.aS xt _ _ ra4⟩
   | false =>
    simp only [bB,Bool.false_eq_true,if_false] at p2
    have xt:o6 F1 ρ1 H4 F1 (ρ1++[Da]) H4:=⟨fun _ q=>q,fun _ _ _=>rfl,List.prefix_append _ _⟩
    refine p2 F1 (ρ1++[Da]) H4 (.ref Da) ⟨⟨e4.s,e4.f,e4.h,e4.r.trans (List.prefix_append _ _),fun a q=>(List.mem_append.mp q).elim (e4.n a) fun z=>.inr (by rw [List.mem_singleton.mp z];exact La),e4.g⟩,e4.z⟩ (S4.hold (u:=.lst acc) d1 f1 ⟨vs,hD4,ai.aS xt _ _ ra4⟩) ?_
    simp only [RD]
    refine ⟨Da,?_,rfl⟩
    rw [<- S4.len,List.getElem?_append_right (Nat.le_refl _),Nat.sub_self];rfl
end
end Fg
end
section
namespace Fg
open PySem L2
section
variable {B:Bd} {Φ:bh} {E:Gx} {F F' F0 F1:Addr->Prop} {ρ ρ' ρ0 ρ1:List Addr} {H H' H0 H1:Hp} {M M' M0:MH} {σD:Sg} {σ:L2.St} {Q:VK} {Dn:Ends}
theorem HS {i:Nat} {v:V} (hg:∀ d,Φ.glob i=some d->∀ F ρ H,RD B F ρ H d v) (h:T B Φ E (.g i) σ H Q):tC v σ H Q:=by
 obtain ⟨σD,M,F,ρ,S,r,h⟩:=h
 simp only [ev] at h
 split at h
 ·rename_i d hd
  exact ah.run h S (hg d hd F ρ H)
 ·exact h.elim
noncomputable def nE (B:Bd) (Φ:bh) (f n:Nat):Sp:=fun vs H Q E=>vs.length=n/\∃ ds M F ρ,SR B F ρ M H/\ai B F ρ H ds vs/\Post B (Φ.call f ds M) F ρ H Q E
theorem nM {f n:Nat} {es:Es} (hn:∀ {σ:Sg} {M:MH} {ds:List D} {M':MH},b6 Φ es σ M=.ok ds M'->ds.length=n) (h:T B Φ E (.call f es) σ H Q)  :pG (nE B Φ f n) E.e (TL B Φ E es) σ H Q:=by
 obtain ⟨σD,M,F,ρ,S,r,h⟩:=h
 simp only [ev] at h
 refine ⟨σD,M,F,ρ,S,r,?_⟩
 cases hx:b6 Φ es σD M with
 | exc c M1=>rw [hx] at h;exact h
 | bad=>rw [hx] at h;exact h
 | ok ds M1 =>
  rw [hx] at h
  simp only [R.aa] at h
  intro F1 ρ1 H1 vs e1 S1 q1
  exact ⟨by rw [<- ai.length q1];exact hn hx,ds,M1,F1,ρ1,S1,q1,ah.weak e1 h⟩
theorem t7 {f n:Nat} {es:Es} {d:Int} (hn:∀ {σ:Sg} {M:MH} {ds:List D} {M':MH},b6 Φ es σ M=.ok ds M'->ds.length+1=n) (h:T B Φ E (.iU f es d) σ H Q):vp (nE B Φ f n) (.int d) E.e (TL B Φ E es) σ H Q:=by
 obtain ⟨σD,M,F,ρ,S,r,h⟩:=h
 simp only [ev] at h
 refine ⟨σD,M,F,ρ,S,r,?_⟩
 cases hx:b6 Φ es σD M with
 | exc c M1=>rw [hx] at h;exact h
 | bad=>rw [hx] at h;exact h
 | ok ds M1 =>
  rw [hx] at h
  simp only [R.aa] at h
  intro F1 ρ1 H1 vs e1 S1 q1
  exact ⟨by rw [List.length_append,<- ai.length q1];exact hn hx,ds++[.int d],M1,F1,ρ1,S1,q1.append (ai.cons (by simp only [RD]) ai.nil),ah.weak e1 h⟩
theorem Df {x:D} {v:V} {t:Ty} (S:SR B F ρ M H) (rx:RD B F ρ H x v) (ho:uV M x=true):∃ T,BN B H v T/\tyB T t=CD M t x:=by
 cases x with
 | ao=>simp only [RD] at rx;subst rx;exact ⟨_,.ao,by cases t <;> rfl⟩
 | bl b=>simp only [RD] at rx;subst rx;exact ⟨_,.bl b,by cases t <;> rfl⟩
 | int i=>simp only [RD] at rx;subst rx;exact ⟨_,.int i,by cases t <;> rfl⟩
 | str x=>simp only [RD] at rx;subst rx;exact ⟨_,.str x,by cases t <;> rfl⟩
 | tup ds=>simp only [RD] at rx;obtain ⟨a,vs,rfl,z,_⟩:=rx;exact ⟨_,.tup z.sq,by cases t <;> rfl⟩
 | lst ds=>simp only [RD] at rx;obtain ⟨a,vs,rfl,z,_⟩:=rx;exact ⟨_,.lst z.sq,by cases t <;> rfl⟩
 | dct ks ds =>
  simp only [RD] at rx;obtain ⟨a,vs,rfl,z,_⟩:=rx
  refine ⟨_,.dct (kvs:=vs) ?_,by cases t <;> rfl⟩
  rcases z with ⟨_,z⟩ | z
  ·exact .inl z
  ·exact .inr z
 | ref n =>
  simp only [RD] at rx
  obtain ⟨a,h1,rfl⟩:=rx
  cases hM:M[n]? with
  | none=>simp [uV,hM] at ho
  | some o =>
   cases o with
   | lst ds=>obtain ⟨vs,h3,_⟩:=S.obj n a _ h1 hM;exact ⟨_,.lst (.inl (.inl h3)),by simp only [CD,hM];cases t <;> rfl⟩
   | dct kvs=>obtain ⟨kws,h3,_⟩:=S.obj n a _ h1 hM;exact ⟨_,.dct (.inl (.inl h3)),by simp only [CD,hM];cases t <;> rfl⟩
   | ng kvs=>obtain ⟨o,kws,h3,_⟩:=S.obj n a _ h1 hM;exact ⟨_,.dct (.inl (.inr ⟨o,h3⟩)),by simp only [CD,hM];cases t <;> rfl⟩
   | ins _ _=>simp [uV,hM] at ho
 | iY _=>simp [uV] at ho
theorem zW {a:Fg.E} {t:Ty} (h:T B Φ E (.xx a t) σ H Q):zB (Ip B) (cF (T B Φ E a) (cF (tC (.ty (nv t))) g9)) σ H Q:=by
 obtain ⟨σD,M,F,ρ,S,r,h⟩:=h
 simp only [ev] at h
 refine T.one S r rfl h fun x M1 F1 ρ1 H1 v e1 S1 r1 rx h1=>?_
 split at h1
 ·rename_i ho
  obtain ⟨T',ty,e⟩:=Df (t:=t) S1 rx ho
  refine ⟨v,T',t,rfl,ty,?_⟩
  rw [e]
  exact ah.run h1 S1 (by simp only [RD])
 ·exact h1.elim
theorem pN {fz:Bool} {a:Fg.E} {es:Es} (h:T B Φ E (.bZ .append fz a es) σ H Q):HJ B.K "list" lP (T B Φ E a) (TL B Φ E es) σ H Q:=by
 obtain ⟨σD,M,F,ρ,S,r,h⟩:=h
 simp only [ev] at h
 refine T.one S r rfl h fun x M1 F1 ρ1 H1 v e1 S1 r1 rx h1=>?_
 split at h1
 ·rename_i ho
  refine ⟨?_,TL.one S1 r1 rfl h1 fun ds M2 F2 ρ2 H2 vs e2 S2 r2 Ia h2=>qK S2 (RD.mono e2 _ _ rx) Ia h2⟩
  have h0:=((Bool.and_eq_true _ _).mp ho).1
  cases hl:fT M1 x with
  | none=>rw [hl] at h0;cases h0
  | some p =>
   obtain ⟨rfl,hM⟩:=ji hl
   simp only [RD] at rx
   obtain ⟨b,hb,rfl⟩:=rx
   obtain ⟨vs,h3,_⟩:=S1.obj p.1 b _ hb hM
   exact .inl ⟨rfl,vs,.inl (.inl h3)⟩
 ·exact h1.elim
noncomputable def Ck (x y v:V) (H:Hp) (Q:Hp->Prop):Prop:=Cj x y v H Q\/∃ a H4,x=.ref a/\qP H a y v H4/\Q H4
noncomputable def Cd (to ti tv:TE):TS:=fun D σ H=>tv σ H fun v H1=>to σ H1 fun x H2=>ti σ H2 fun y H3=>Ck x y v H3 fun H4=>D.nx σ H4
theorem Ac {x y d:D} {v w u:V} (S:SR B F ρ M H) (rx:RD B F ρ H x v) (ry:RD B F ρ H y w) (rd:RD B F ρ H d u) {K:Hp->Prop} (h:∀ M',lJ M x y d=.ok () M'->∀ H',Ext F ρ H F ρ H'->SR B F ρ M' H'->K H') (hb:∃ M',lJ M x y d=.ok () M'):Ck v w u H K:=by
 obtain ⟨M',hb⟩:=hb
 have hK:=h M' hb
 unfold lJ at hb
 split at hb
 ·rename_i n
  simp only [RD] at rx
  obtain ⟨a,h1,rfl⟩:=rx
  split at hb
  ·rename_i xs i hM
   split at hb
   ·rename_i j hj
    cases hb
    simp only [RD] at ry;subst ry
    obtain ⟨vs,h2,h3⟩:=S.obj n a _ h1 hM
    refine .inl ⟨a,vs,i,j,rfl,rfl,h2,by rw [<- ai.length h3,<- xu];exact hj,?_⟩
    obtain ⟨S',e⟩:=S.st (o:=.lst (vs.set j u)) (u:=.lst (xs.set j d)) h1 (fun _ _ q=>by rw [h2] at q;cases q) ⟨_,ay,ai.bq (Ext0.at_ S h1) _ _ (h3.set j rd)⟩
    exact hK _ e S'
   ·cases hb
  ·rename_i kvs hM
   split at hb
   ·rename_i k hk
    split at hb
    ·rename_i hl
     cases hb
     obtain ⟨kws,h2,h3,h4⟩:=S.obj n a _ h1 hM
     have hlen:kws.length=kvs.length:=by have:=congrArg List.length h3;simpa using this
     rw [lZ hk ry]
     refine .inr ⟨a,_,rfl,qP.k h2 (by rw [hlen];exact Nat.lt_of_lt_of_le (of_decide_eq_true hl) bD),?_⟩
     obtain ⟨p1,p2⟩:=v8 (k:=k) rd h3 h4
     obtain ⟨S',e⟩:=S.st (o:=.dK (putK kws k u)) (u:=.dct (put kvs k d)) h1 (fun _ _ q=>by rw [h2] at q;cases q) ⟨_,ay,p1,ai.bq (Ext0.at_ S h1) _ _ p2⟩
     exact hK _ e S'
    ·cases hb
   ·cases hb
  ·cases hb
 ·cases hb
theorem Ae {x y d:D}:(∃ M',lJ M x y d=.ok () M')\/lJ M x y d=.bad:=by
 unfold lJ
 split
 ·split
  ·split
   ·exact .inl ⟨_,rfl⟩
   ·exact .inr rfl
  ·split
   ·split
    ·exact .inl ⟨_,rfl⟩
    ·exact .inr rfl
   ·exact .inr rfl
  ·exact .inr rfl
 ·exact .inr rfl
theorem vL {a b e:Fg.E} (h:TC B Φ E (.pO a b e) Dn σ H):Cd (T B Φ E a) (T B Φ E b) (T B Φ E e) Dn σ H:=by
 obtain ⟨σD,M,F,ρ,S,r,h⟩:=h
 simp only [ex] at h
 refine TC.one S r h fun x M1 F1 ρ1 H1 v e1 S1 r1 rx h1=>?_
 refine TC.one S1 r1 h1 fun y M2 F2 ρ2 H2 w e2 S2 r2 ry h2=>?_
 refine TC.one S2 r2 h2 fun z M3 F3 ρ3 H3 u e3 S3 r3 rz h3=>?_
 have rx3:=RD.mono e3 _ _ (RD.mono e2 _ _ rx)
 have ry3:=RD.mono e3 _ _ ry
 rcases Ae (M:=M3) (x:=y) (y:=z) (d:=x) with ⟨M',hb⟩ | hb
 ·refine Ac S3 ry3 rz rx3 (fun M4 hq H4 e4 S4=>?_) ⟨M',hb⟩
  rw [hq] at h3
  exact h3 F3 ρ3 H4 e4 S4 σ (r3.mono e4)
 ·rw [hb] at h3;exact h3.elim
end
end Fg
end
section
namespace Fg
open PySem PySem.Spec L2
noncomputable def toD:Value->D
 | .bool b=>.bl b
 | .int i _=>.int i
 | .str x _=>.str x
 | _=>.ao
theorem pA {h:Heap} {d:D} {u:Value} (p:VV h d u) (f:jS d=true):toD u=d/\dep d=0:=by
 cases p <;> first | exact ⟨rfl,rfl⟩ | cases f
theorem jR:∀ {ds:List D},ds.all jS=true->cI ds=true
 | [],_=>rfl
 | d::ds,h=>by
  simp only [List.all_cons,Bool.and_eq_true] at h
  simp only [cI,jR h.2,Bool.and_true]
  cases d <;> first | rfl | cases h.1
theorem qT {h:Heap}:∀ {ds:List D} {us:List Value},iX h ds us->ds.all jS=true->us.map toD=ds
 | _,_,.nil,_=>rfl
 | _,_,.cons p q,f=>by
  simp only [List.all_cons,Bool.and_eq_true] at f
  rw [List.map_cons,(pA p f.1).1,qT q f.2]
theorem qU {h:Heap}:∀ {ds:List D} {us:List Value},iX h ds us->ds.all jS=true->∀ u∈us,VV h (toD u) u/\jS (toD u)=true
 | _,_,.nil,_,u,hu=>by cases hu
 | _,_,.cons p q,f,u,hu=>by
  simp only [List.all_cons,Bool.and_eq_true] at f
  rcases List.mem_cons.mp hu with rfl | hu
  ·rw [(pA p f.1).1];exact ⟨p,f.1⟩
  ·exact qU q f.2 u hu
noncomputable def DS (K:W.Frag) (ct:Bool):V->List V->Hp->VK->Prop:=fun x vs H Q=>∃ l xs y ds d j,x=.ref l/\vs=[y]/\eV K H l xs/\nh K H ds xs/\DV K H d y/\xw ct ds d=some j/\Q (.int (j:Int)) H
section
variable {X:Cx}
theorem wM (hu:Rm X) (ct:Bool):Kz X (if ct then "list.count" else "list.index") (DS X.K ct):=by
 intro pins s σ H x vs v us Q I rx rv h
 obtain ⟨l,xs,y,ds,d,j,rfl,rfl,hl,hds,hd,hj,q⟩:=h
 cases rx
 obtain ⟨u,rfl,ru⟩:=rv.one
 obtain ⟨its,r,⟨⟨cl,dd,dt,sl⟩,n,e,hc,_,hs⟩,z⟩:=I.list hl
 simp only at hc hs
 subst hc hs
 unfold xw at hj
 split at hj
 ·rename_i hf
  simp only [Bool.and_eq_true] at hf
  have p:=nh.vv I ds xs its hds r
  have pd:=DV.vv I d y u hd ru
  have he:∀ w,w∈its.toArray->SeqAt.EqAt X.A.in1 s w u (aD (toD w) d):=fun w hw=>by
   obtain ⟨a1,a2⟩:=qU p hf.1 w (by simpa using hw)
   have a3:=(pA a1 a2).2
   exact (eq_data (s:=s) (dep (toD w)+dep d+1) (toD w) d w u X.A.in1 (Nat.lt_succ_self _) a1 pd (by rw [in1_units,a3,Nat.zero_min];unfold Rm at hu;omega)).2
  have eq:=qT p hf.1
  have fin:∀ tk,EP X pins σ Q (.int (j:Int) s.toks) { s with toks:=tk }:=fun tk=>⟨.int j,H,I.tok _,⟨_,rfl⟩,q⟩
  cases ct with
  | true =>
   simp only [if_true,Option.some.injEq] at hj
   refine call_meets PySem.F.slot_list_count ⟨_,e,rfl⟩ PySem.F.entry_list_count (PySem.F.args_list_count_2 _ _) (SeqAt.list_countAt l its.toArray n dd sl u fun w=>aD (toD w) d) ⟨e,he,?_⟩
   have:its.countP (fun w=>aD (toD w) d)=j:=by rw [<- hj,<- eq,List.countP_map];rfl
   simp only [List.toList_toArray,this]
   exact fin _
  | false =>
   simp only [Bool.false_eq_true,if_false] at hj
   rw [<- eq,List.findIdx?_map,List.findIdx?_eq_some_iff_getElem] at hj
   obtain ⟨h1,h2,h3⟩:=hj
   refine call_meets PySem.F.slot_list_index ⟨_,e,rfl⟩ PySem.F.entry_list_index (PySem.F.args_list_index_2 _ _) (SeqAt.list_indexAt l its.toArray n dd sl u (fun w=>aD (toD w) d) j (by simpa using h1) ?_ ?_ ?_) ⟨e,he,fin _⟩
   ·have z1:its.length<=sizeLine:=by rw [<- r.length];exact z
    have:sizeLine=2 ^ 24:=rfl
    omega
   ·simpa using h2
   ·intro m hm hmj
    simpa using h3 m hmj
 ·cases hj
noncomputable def Ii (K:W.Frag):List V->Hp->VK->Prop:=fun xs H Q=>∃ (p:Addr) (n:Int) (ns:List Int),xs=[.ref p]/\eV K H p ((n::ns).map V.int)/\Q (.int (ns.foldl (fun m a=>if m<a then a else m) n)) H
theorem uJ (hc:X.calm=true):bW X (.builtin "max") (Ii X.K):=by
 intro pins s σ H xs us Q I r h
 obtain ⟨p,n,ns,rfl,hl,q⟩:=h
 obtain ⟨u,rfl,ru⟩:=vals1 r
 cases ru
 obtain ⟨its,r',pl,hz⟩:=I.list hl
 obtain ⟨i1,i2⟩:=Fg.dD r'
 obtain ⟨xs,hx⟩:=AllInts.items (vs:=its.toArray) (fun v hv=>i1 v (by simpa using hv))
 have hns:n::ns=xs.toList.map (·.1):=by rw [<- i2,<- nums_intItems,<- hx]
 have hsz:xs.size=ns.length+1:=by have:=congrArg List.length hns;simpa using this.symm
 refine max_intList (I.ok.hd hc) (by rw [<- hx];exact pl.isList) (by omega) fun v h' tk hv hk=>?_
 obtain ⟨t,rfl⟩:=intItems_at hv
 obtain ⟨h1,h2⟩:=argBest_gt (numAt xs) (xs.size-1)
 obtain ⟨f1,f2,f3⟩:=PyProof.Rows.fold_max ns n
 have e:numAt xs (argBest (fun i j=>decide (numAt xs i > numAt xs j)) (xs.size-1))=ns.foldl (fun m a=>if m<a then a else m) n:=by
  apply Int.le_antisymm
  ·have hm:numAt xs (argBest (fun i j=>decide (numAt xs i > numAt xs j)) (xs.size-1))∈n::ns:=by
    rw [hns,PySem.numAt_eq];exact PySem.getD_mem (by rw [List.length_map,Array.length_toList];omega)
   rcases List.mem_cons.mp hm with z | z
   ·rw [z];exact f2
   ·exact f3 _ z
  ·have hm:ns.foldl (fun m a=>if m<a then a else m) n∈n::ns:=by
    rcases f1 with z | z
    ·rw [z];exact List.mem_cons_self
    ·exact List.mem_cons_of_mem _ z
   rw [hns] at hm
   obtain ⟨j,hj,e⟩:=PySem.mem_getD hm
   rw [List.length_map,Array.length_toList] at hj
   rw [<- e,<- PySem.numAt_eq]
   exact h2 j (by omega)
 exact ⟨.int (numAt xs (argBest (fun i j=>decide (numAt xs i > numAt xs j)) (xs.size-1))),H,I.kept (t':=tk) hk,⟨t,rfl⟩,by rw [e];exact q⟩
end
section
variable {B:Bd} {Φ:bh} {E:Gx} {F F' F1:Addr->Prop} {ρ ρ' ρ1:List Addr} {H H' H1:Hp} {M M':MH} {σD:Sg} {σ:L2.St} {Q:VK}
theorem qe {d:D} {ds:List D} (h:lY M d=some ds):vw M d=.lst ds:=by
 unfold lY at h
 split at h
 ·cases h;assumption
 ·cases h
theorem zV {ct:Bool} {a:Fg.E} {es:Es} (h:T B Φ E (.A5 ct a es) σ H Q):HJ B.K "list" (DS B.K ct) (T B Φ E a) (TL B Φ E es) σ H Q:=by
 obtain ⟨σD,M,F,ρ,S,r,h⟩:=h
 simp only [ev] at h
 refine T.one S r rfl h fun x M1 F1 ρ1 H1 v e1 S1 r1 rx h1=>?_
 split at h1
 ·rename_i ho
  obtain ⟨ds0,hds0⟩:=Option.isSome_iff_exists.mp ho
  obtain ⟨a0,vs0,rfl,q0,_⟩:=aW S1 rx (qe hds0)
  refine ⟨.inl ⟨rfl,vs0,q0⟩,TL.one S1 r1 rfl h1 fun ds M2 F2 ρ2 H2 vs e2 S2 r2 Ia h2=>?_⟩
  have GS:=RD.mono e2 _ _ rx
  unfold A4 at h2
  cases ds with
  | nil=>exact h2.elim
  | cons d ds=>cases ds with
   | cons _ _=>exact h2.elim
   | nil =>
    simp only [n5] at h2
    split at h2
    ·rename_i j hj
     obtain ⟨xs,hxs,hj⟩:=Option.bind_eq_some_iff.mp hj
     obtain ⟨a1,ws,ea,q1,r3⟩:=aW S2 GS (qe hxs)
     obtain ⟨w,us,rfl,rw',ru⟩:∃ w us,vs=w::us/\RD B F2 ρ2 H2 d w/\ai B F2 ρ2 H2 [] us:=by simpa only [ai] using Ia
     have eu:us=[]:=List.eq_nil_of_length_eq_zero (ai.length ru).symm
     subst eu
     have hj':=hj
     unfold xw at hj'
     split at hj'
     ·rename_i hf
      simp only [Bool.and_eq_true] at hf
      have pd:plain d=true:=by have:=hf.2;cases d <;> first | rfl | cases this
      exact ⟨a1,ws,w,xs,d,j,ea,rfl,q1,ai.dv (jR hf.1) r3,RD.dv pd rw',hj,ah.run h2 S2 (by simp only [RD])⟩
     ·cases hj'
    ·exact h2.elim
 ·exact h1.elim
theorem zR {a:Fg.E} (h:T B Φ E (.AO a) σ H Q):zB (Ii B.K) (cF (T B Φ E a) g9) σ H Q:=by
 obtain ⟨σD,M,F,ρ,S,r,h⟩:=h
 simp only [ev] at h
 refine T.one S r rfl h fun x M1 F1 ρ1 H1 v e1 S1 r1 rx h1=>?_
 split at h1
 ·rename_i m hm
  obtain ⟨ds,hds,hm⟩:=Option.bind_eq_some_iff.mp hm
  obtain ⟨a0,vs,rfl,q,r3⟩:=aW S1 rx (qe hds)
  unfold maxOf at hm
  split at hm
  ·rename_i n ns hi
   cases hm
   have:=l8 r3 hi
   subst this
   exact ⟨a0,n,ns,rfl,q,ah.run h1 S1 (by simp only [RD])⟩
  ·cases hm
 ·exact h1.elim
end
end Fg
end
section
namespace Fg
open PySem PySem.Spec L2
noncomputable def qt:F1->V->Option V
 | .abs,.int i=>some (.int (if i<0 then -i else i))
 | .int,.bl b=>some (.int (if b then 1 else 0))
 | .int,.int i=>some (.int i)
 | _,_=>none
noncomputable def rF1 (f:F1):List V->Hp->VK->Prop:=fun xs H Q=>∃ x y,xs=[x]/\qt f x=some y/\Q y H
section
variable {X:Cx}
theorem uO:bW X (.builtin "abs") (rF1 .abs):=by
 intro pins s σ H xs us Q I r h
 obtain ⟨x,y,rfl,hf,q⟩:=h
 obtain ⟨u,rfl,ru⟩:=vals1 r
 cases x with
 | int i =>
  simp only [qt] at hf
  cases hf
  obtain ⟨t,rfl⟩:=(show ∃ t,u=Value.int i t from ru)
  exact PyProof.Rows.call_abs_int fun u tk=>⟨.int _,H,I.tok _,⟨_,rfl⟩,q⟩
 | _=>simp [qt] at hf
theorem uM:bW X (.type "int") (rF1 .int):=by
 intro pins s σ H xs us Q I r h
 obtain ⟨x,y,rfl,hf,q⟩:=h
 obtain ⟨u,rfl,ru⟩:=vals1 r
 cases x with
 | int i =>
  simp only [qt] at hf
  cases hf
  obtain ⟨t,rfl⟩:=(show ∃ t,u=Value.int i t from ru)
  exact call_int_int ⟨.int _,H,I,⟨_,rfl⟩,q⟩
 | bl b =>
  simp only [qt] at hf
  cases hf
  cases ru
  exact call_int_bool ⟨.int _,H,I.tok _,⟨_,rfl⟩,q⟩
 | _=>simp [qt] at hf
end
section
variable {B:Bd} {Φ:bh} {E:Gx} {F F' F0 F1:Addr->Prop} {ρ ρ' ρ0 ρ1:List Addr} {H H' H0 H1:Hp} {M M' M0:MH} {σD:Sg} {σ:L2.St} {Q:VK}
theorem FY {f:Fg.F1} {x d:D} {v:V} (h:qu f x=some d) (r:RD B F ρ H x v):∃ w,qt f v=some w/\RD B F ρ H d w:=by
 cases x with
 | int i=>simp only [RD] at r;subst r;cases f <;> simp only [qu] at h <;> cases h <;> exact ⟨_,rfl,by simp only [RD]⟩
 | bl b=>simp only [RD] at r;subst r;cases f <;> simp only [qu] at h <;> cases h <;> exact ⟨_,rfl,by simp only [RD]⟩
 | _=>cases f <;> simp [qu] at h
theorem rH {f:Fg.F1} {a:Fg.E} (h:T B Φ E (.nc f a) σ H Q):zB (rF1 f) (cF (T B Φ E a) g9) σ H Q:=by
 obtain ⟨σD,M,F,ρ,S,r,h⟩:=h
 simp only [ev] at h
 refine T.one S r rfl h fun x M1 F1 ρ1 H1 v e1 S1 r1 rx h1=>?_
 split at h1
 ·rename_i d hd
  obtain ⟨w,hw,rw'⟩:=FY hd rx
  exact ⟨v,w,rfl,hw,ah.run h1 S1 rw'⟩
 ·exact h1.elim
end
end Fg
end
section
namespace Fg
open PySem L2
section
variable {X:Cx}
theorem Bj (l:Addr) (items:Array Value) (n:Nat) (b:Addr) (items2:Array Value) (n2:Nat) (dd2:Option Addr) (sl2:Array (Option Value)) (hs0:¬(!items.isEmpty&&Builtin.List.listTooLong (items.size+items2.size))=true) (hs1:items.size<=sizeLine) (hs2:items.size+items2.size<=sizeLine+1) :
  Meets (Builtin.«list.extend» ⟨[.ref l, .ref b], []⟩) (fun _ R s=>s.heap.get? l=some { cls:=.type "list", dict:=none, data:=.seq items n, slots:=#[] }/\s.heap.get? b=some { cls:=.type "tuple", dict:=dd2, data:=.seq items2 n2, slots:=sl2 }/\R (.ok (.ret Value.none)) { s with heap:=s.heap.update l (Obj.mapSeq fun x=>x++items2), toks:=s.toks }) :=
 .of_wp fun prog w A R s h=>by
  obtain ⟨hp,g,d,tk,os⟩:=s;obtain ⟨hl,hb,h⟩:=h;have f1:=AutoSeq1.idx_int;have f2:=AutoSeq1.sub_tuple_tuple;have f3:=AutoSeq1.sub_list_list;have f4:=AutoSeq1.sub_tuple_list;have f5:=AutoSeq1.sub_list_tuple
  have hz':(items++items2).size<=sizeLine+1:=by rw [Array.size_append];exact hs2
  wp_walk using (wpAny_updateSeq hl rfl (hz:=hs1) (_hz':=hz')),AutoSeq1.wpAny_loadPart' hl,AutoSeq1.wpAny_loadPart' hb;exact ⟨_,rfl,h⟩
noncomputable def Cn (K:W.Frag):V->List V->Hp->VK->Prop:=fun x vs H Q=>∃ l b xs zs,x=.ref l/\vs=[.ref b]/\H l=some (.lst xs)/\gr K H b zs/\xs.length+zs.length<=sizeLine/\Q .ao (upd H l (.lst (xs++zs)))
theorem AQ:Kz X "list.extend" (Cn X.K):=by
 intro pins s σ H x vs v us Q I rx rv h
 obtain ⟨l,b,xs,zs,rfl,rfl,hH,hB,hz,q⟩:=h
 cases rx
 obtain ⟨u,rfl,ru⟩:=rv.one
 cases ru
 obtain ⟨z,its,n,r,hl,e⟩:=I.AU hH
 obtain ⟨its2,r2,p2,z2⟩:=I.tuple hB
 obtain ⟨⟨J4,dd2,data2,sl2⟩,e2,hc2,n2,hd2⟩:=p2
 simp only at hc2 hd2
 subst hc2 hd2
 have l2:=r2.length
 have hsz:its.toArray.size+its2.toArray.size<=sizeLine:=by rw [List.size_toArray,List.size_toArray];omega
 have Jw:¬ (!its.toArray.isEmpty&&Builtin.List.listTooLong (its.toArray.size+its2.toArray.size))=true:=by
  rw [wI hsz,Bool.and_false]
  exact Bool.false_ne_true
 refine call_meets PySem.F.slot_list_extend ⟨_,e,rfl⟩ PySem.F.entry_list_extend (PySem.F.args_list_extend_2 _ _)
  (Bj l its.toArray n b its2.toArray n2 dd2 sl2 Jw (by rw [List.size_toArray];omega) (by omega)) ⟨e,e2,?_⟩
 refine ⟨.ao,_,I.AV (its':=its++its2) hH e (by simp) (r.append r2) ?_,rfl,q⟩
 rw [List.length_append]
 omega
end
section
variable {B:Bd} {Φ:bh} {E:Gx} {F F' F0 F1:Addr->Prop} {ρ ρ' ρ0 ρ1:List Addr} {H H' H0 H1:Hp} {M M' M0:MH} {σD:Sg} {σ:L2.St} {Q:VK}
theorem ai.rev:∀ {ds:List D} {vs:List V},ai B F ρ H ds vs->ai B F ρ H ds.reverse vs.reverse
 | [],vs,h=>by
  have:=ai.length h
  cases vs with
  | nil=>exact ai.nil
  | cons _ _=>simp at this
 | d::ds,vs,h=>by
  cases vs with
  | nil=>have:=ai.length h;simp at this
  | cons v vs =>
   obtain ⟨w,ws,h1,h2,h3⟩:∃ w ws,v::vs=w::ws/\RD B F ρ H d w/\ai B F ρ H ds ws:=by simpa only [ai] using h
   cases h1
   rw [List.reverse_cons,List.reverse_cons]
   exact ai.append (ai.rev h3) (ai.cons h2 ai.nil)
theorem ai.dropLast {ds:List D} {vs:List V} (h:ai B F ρ H ds vs):ai B F ρ H ds.dropLast vs.dropLast:=by
 rw [List.dropLast_eq_take,List.dropLast_eq_take,<- ai.length h];exact ai.take _ h
theorem vW {x:D} {v:V} {m:Mt} (S:SR B F ρ M H) (rx:RD B F ρ H x v) (ho:lW m M x=true):∃ n xs, x=.ref n/\M[n]? = some (.lst xs)/\KJ B.K "list" v H:=by
 have h0:=((Bool.and_eq_true _ _).mp ho).1
 cases hl:fT M x with
 | none=>rw [hl] at h0;cases h0
 | some p =>
  obtain ⟨rfl,hM⟩:=ji hl
  simp only [RD] at rx
  obtain ⟨b,hb,rfl⟩:=rx
  obtain ⟨vs,h3,_⟩:=S.obj p.1 b _ hb hM
  exact ⟨p.1,p.2,rfl,hM,.inl ⟨rfl,vs,.inl (.inl h3)⟩⟩
theorem Ar {fz:Bool} {n:Nat} {xs:List D} {v:V} {X:XK} (S:SR B F ρ M H) (hx:M[n]? = some (.lst xs)) (rx:RD B F ρ H (.ref n) v) (h:Post B (gf .pop fz M (.ref n) []) F ρ H Q X):DP v [] H Q:=by
 simp only [gf,bS hx,oh,List.isEmpty_nil,if_true] at h
 split at h
 ·rename_i d hd
  simp only [RD] at rx
  obtain ⟨a,h1,rfl⟩:=rx
  obtain ⟨ws,h2,h3⟩:=S.obj n a _ h1 hx
  obtain ⟨w,hw,rw'⟩:=ai.get h3 hd
  refine ⟨a,ws,w,rfl,rfl,h2,by rw [<- ai.length h3];exact hw,?_⟩
  obtain ⟨S',e⟩:=S.st (o:=.lst ws.dropLast) (u:=.lst xs.dropLast) h1 (fun _ _ q=>by rw [h2] at q;cases q) ⟨_,ay,ai.bq (Ext0.at_ S h1) _ _ h3.dropLast⟩
  exact h _ _ _ _ e S' (RD.mono e _ _ rw')
 ·exact h.elim
theorem nT {fz:Bool} {n:Nat} {xs:List D} {v:V} {X:XK} (S:SR B F ρ M H) (hx:M[n]? = some (.lst xs)) (rx:RD B F ρ H (.ref n) v) (h:Post B (gf .reverse fz M (.ref n) []) F ρ H Q X):jz v [] H Q:=by
 simp only [gf,bS hx,oh,List.isEmpty_nil,if_true] at h
 simp only [RD] at rx
 obtain ⟨a,h1,rfl⟩:=rx
 obtain ⟨ws,h2,h3⟩:=S.obj n a _ h1 hx
 refine ⟨a,ws,rfl,rfl,h2,?_⟩
 obtain ⟨S',e⟩:=S.st (o:=.lst ws.reverse) (u:=.lst xs.reverse) h1 (fun _ _ q=>by rw [h2] at q;cases q) ⟨_,ay,ai.bq (Ext0.at_ S h1) _ _ h3.rev⟩
 exact h _ _ _ _ e S' (by simp only [RD])
theorem pM {fz:Bool} {a:Fg.E} {es:Es} (h:T B Φ E (.bZ .extend fz a es) σ H Q):HJ B.K "list" (Cn B.K) (T B Φ E a) (TL B Φ E es) σ H Q:=by
 obtain ⟨σD,M,F,ρ,S,r,h⟩:=h
 simp only [ev] at h
 refine T.one S r rfl h fun x M1 F1 ρ1 H1 v e1 S1 r1 rx h1=>?_
 split at h1
 ·rename_i ho
  obtain ⟨n,xs,rfl,hM,ty⟩:=vW S1 rx ho
  refine ⟨ty,TL.one S1 r1 rfl h1 fun ds M2 F2 ρ2 H2 vs e2 S2 r2 Ia h2=>?_⟩
  have GS:=RD.mono e2 _ _ rx
  unfold gf at h2
  cases hl:fT M2 (.ref n) with
  | none=>rw [hl] at h2;exact h2.elim
  | some q =>
   rw [hl] at h2
   obtain ⟨e0,hy⟩:=ji hl
   cases e0
   cases ds with
   | nil=>exact h2.elim
   | cons d ds=>cases ds with
    | cons _ _=>exact h2.elim
    | nil =>
     simp only [oh,n5] at h2
     split at h2
     ·rename_i zs hz
      split at h2
      ·rename_i hlen
       simp only [RD] at GS
       obtain ⟨a',h3,rfl⟩:=GS
       obtain ⟨ws,h4,h5⟩:=S2.obj _ a' _ h3 hy
       obtain ⟨w,us,rfl,rw',ru⟩:∃ w us,vs=w::us/\RD B F2 ρ2 H2 d w/\ai B F2 ρ2 H2 [] us:=by simpa only [ai] using Ia
       have eu:us=[]:=List.eq_nil_of_length_eq_zero (ai.length ru).symm
       subst eu
       cases zz hz
       simp only [RD] at rw'
       obtain ⟨b,zs',rfl,z1,r3⟩:=rw'
       refine ⟨a',b,ws,zs',rfl,rfl,h4,z1.sq,?_,?_⟩
       ·rw [<- ai.length h5,<- ai.length r3];exact Nat.le_trans (of_decide_eq_true hlen) bD
       ·obtain ⟨S',e⟩:=S2.st (o:=.lst (ws++zs')) (u:=.lst (q.2++zs)) h3 (fun _ _ q=>by rw [h4] at q;cases q) ⟨_,ay,ai.bq (Ext0.at_ S2 h3) _ _ (h5.append r3)⟩
        exact h2 _ _ _ _ e S' (by simp only [RD])
      ·exact h2.elim
     ·exact h2.elim
 ·exact h1.elim
theorem nK {m:Mt} {fz:Bool} {a:Fg.E} {r:V->List V->Hp->VK->Prop}
  (hs:∀ (F:Addr->Prop) (ρ:List Addr) (H:Hp) (M:MH) (n:Nat) (xs:List D) (v:V) (Q:VK) (X:XK),SR B F ρ M H->M[n]? = some (.lst xs)->RD B F ρ H (.ref n) v->Post B (gf m fz M (.ref n) []) F ρ H Q X->r v [] H Q)
  (h:T B Φ E (.bZ m fz a .nil) σ H Q):zC B.K "list" r (T B Φ E a) σ H Q:=by
 obtain ⟨σD,M,F,ρ,S,r,h⟩:=h
 simp only [ev] at h
 refine T.one S r rfl h fun x M1 F1 ρ1 H1 v e1 S1 r1 rx h1=>?_
 split at h1
 ·rename_i ho
  obtain ⟨n,xs,rfl,hM,ty⟩:=vW S1 rx ho
  simp only [b6,R.aa] at h1
  exact ⟨ty,hs _ _ _ _ n xs v _ _ S1 hM rx h1⟩
 ·exact h1.elim
theorem zP {fz:Bool} {a:Fg.E} (h:T B Φ E (.bZ .pop fz a .nil) σ H Q):zC B.K "list" DP (T B Φ E a) σ H Q:=nK (fun _ _ _ _ _ _ _ _ _ S hx rx h=>Ar S hx rx h) h
theorem nI {fz:Bool} {a:Fg.E} (h:T B Φ E (.bZ .reverse fz a .nil) σ H Q):zC B.K "list" jz (T B Φ E a) σ H Q:=nK (fun _ _ _ _ _ _ _ _ _ S hx rx h=>nT S hx rx h) h
end
end Fg
end
section
namespace Fg
open PySem PySem.Spec L2
section
variable {B:Bd} {Φ:bh} {E:Gx} {F F' F0 F1:Addr->Prop} {ρ ρ' ρ0 ρ1:List Addr} {H H' H0 H1:Hp} {M M' M0:MH} {σD:Sg} {σ:L2.St} {Q:VK} {Dn:Ends}
theorem mD {f:Str}:∀ {fs:List (Str×D)} {eL:List (Str×V)},eL.map (·.1)=fs.map (·.1)->ai B F ρ H (fs.map (·.2)) (eL.map (·.2)) ->
  (∀ d,fs.lookup f=some d->∃ v,eL.lookup f=some v/\RD B F ρ H d v)/\(fs.lookup f=none->eL.lookup f=none)
 | [],eL,h1,h2=>by
  have:eL=[]:=by cases eL with | nil=>rfl | cons _ _=>simp at h1
  subst this
  exact ⟨fun d h=>by simp at h,fun _=>rfl⟩
 | (g, d')::fs, eL, h1, h2=>by
  cases eL with
  | nil=>simp at h1
  | cons p eL =>
   obtain ⟨pk,pv⟩:=p
   simp only [List.map_cons,List.cons.injEq] at h1
   simp only [List.map_cons,ai] at h2
   obtain ⟨v,ws,e,r1,r2⟩:=h2
   cases e
   obtain ⟨e1,e2⟩:=h1
   subst e1
   have ih:=mD (f:=f) e2 r2
   by_cases hk:f=pk
   ·subst hk
    simp only [List.lookup,beq_self_eq_true]
    exact ⟨fun d h=>by cases h;exact ⟨_,rfl,r1⟩,fun h=>by cases h⟩
   ·have hb:(f == pk)=false:=beq_eq_false_iff_ne.mpr hk
    simp only [List.lookup,hb]
    exact ih
theorem rS {f:Str} {d:D} {v:V} (r:RD B F ρ H d v):∀ {fs:List (Str×D)} {eL:List (Str×V)},eL.map (·.1)=fs.map (·.1)->ai B F ρ H (fs.map (·.2)) (eL.map (·.2)) ->
  (c8 f v eL).map (·.1)=(ef f d fs).map (·.1)/\ai B F ρ H ((ef f d fs).map (·.2)) ((c8 f v eL).map (·.2))
 | [],eL,h1,h2=>by
  have:eL=[]:=by cases eL with | nil=>rfl | cons _ _=>simp at h1
  subst this
  exact ⟨rfl,ai.cons r ai.nil⟩
 | (g, d')::fs, eL, h1, h2=>by
  cases eL with
  | nil=>simp at h1
  | cons p eL =>
   obtain ⟨pk,pv⟩:=p
   simp only [List.map_cons,List.cons.injEq] at h1
   simp only [List.map_cons,ai] at h2
   obtain ⟨w,ws,e,r1,r2⟩:=h2
   cases e
   obtain ⟨e1,e2⟩:=h1
   subst e1
   obtain ⟨i1,i2⟩:=rS (f:=f) r e2 r2
   by_cases hk:pk=f
   ·simp only [c8,ef,if_pos hk,List.map_cons]
    exact ⟨by rw [e2],ai.cons r r2⟩
   ·simp only [c8,ef,if_neg hk,List.map_cons]
    exact ⟨by rw [i1],ai.cons r1 i2⟩
theorem Aa {K:W.Frag} {a:Fg.E} {f:Str} (hC:∀ c C,B.cls c=some C->uU K C/\dw K C f) (h:T B Φ E (.fld a f) σ H Q):HH K (T B Φ E a) f σ H Q:=by
 obtain ⟨σD,M,F,ρ,S,r,h⟩:=h
 simp only [ev] at h
 refine T.one S r rfl h fun x M1 F1 ρ1 H1 v e1 S1 r1 rx h1=>?_
 split at h1
 ·rename_i n
  split at h1
  ·rename_i c fs hM
   split at h1
   ·rename_i d hd
    simp only [RD] at rx
    obtain ⟨b,hb,rfl⟩:=rx
    obtain ⟨C,dx,eL,hc,hH,hk,hr⟩:=S1.obj n b _ hb hM
    obtain ⟨w,hw,rw⟩:=(mD hk hr).1 d hd
    exact ⟨b,C,dx,eL,w,rfl,hH,(hC c C hc).1,(hC c C hc).2,hw,ah.run h1 S1 rw⟩
   ·exact h1.elim
  ·exact h1.elim
 ·exact h1.elim
theorem vM {K:W.Frag} {a e:Fg.E} {f:Str} (hC:∀ c C,B.cls c=some C->uU K C/\dw K C f) (h:TC B Φ E (.d9 a f e) Dn σ H):HW K (T B Φ E a) (T B Φ E e) f Dn σ H:=by
 obtain ⟨σD,M,F,ρ,S,r,h⟩:=h
 simp only [ex] at h
 refine TC.one S r h fun x M1 F1 ρ1 H1 v e1 S1 r1 rx h1=>?_
 refine TC.one S1 r1 h1 fun y M2 F2 ρ2 H2 w e2 S2 r2 ry h2=>?_
 have GS:=RD.mono e2 _ _ rx
 split at h2
 ·rename_i n
  split at h2
  ·rename_i c fs hM
   split at h2
   ·rename_i hl
    simp only [RD] at ry
    obtain ⟨b,hb,rfl⟩:=ry
    obtain ⟨C,dx,eL,hc,hH,hk,hr⟩:=S2.obj n b _ hb hM
    have hlen:eL.length=fs.length:=by have:=congrArg List.length hk;simpa using this
    obtain ⟨p1,p2⟩:=rS (f:=f) GS hk hr
    obtain ⟨S',e⟩:=S2.st (o:=.ins C dx (c8 f v eL)) (u:=.ins c (ef f x fs)) hb (fun _ _ q=>by rw [hH] at q;cases q) ⟨C,dx,_,hc,ay,p1,ai.bq (Ext0.at_ S2 hb) _ _ p2⟩
    exact ⟨b,C,dx,eL,rfl,hH,(hC c C hc).1,(hC c C hc).2,by rw [hlen];exact of_decide_eq_true hl,h2 F2 ρ2 _ e S' σ (r2.mono e)⟩
   ·exact h2.elim
  ·exact h2.elim
 ·exact h2.elim
noncomputable def pD (C:Addr) (m:Str) (sp:Sp) (Ex:XS) (ta:TE) (t:TA):TE:=fun σ H Q=>ta σ H fun x H1=>∃ a dx fs,x=.ref a/\H1 a=some (.ins C dx fs)/\fs.lookup m=none /\
 t σ H1 fun vs H2=>sp (x::vs) H2 Q fun cv y H'=>Ex cv y σ H'
noncomputable def pF (C:Addr) (sp:Sp) (Ex:XS) (t:TA):TE:=fun σ H Q=>t σ H fun vs H1=>∀ x dx,H1 x=none->H1 dx=none->dx≠x ->
 sp (.ref x::vs) (upd (upd H1 dx (.own x)) x (.ins C dx [])) (fun v H2=>v=.ao/\Q (.ref x) H2) fun cv y H'=>Ex cv y σ H'
theorem rA {c m n:Nat} {nm:Str} {a:Fg.E} {es:Es} {C:Addr} (hC:B.cls c=some C) (hn:∀ {σ:Sg} {M:MH} {ds:List D} {M':MH},b6 Φ es σ M=.ok ds M'->ds.length+1=n) (h:T B Φ E (.cR c m nm a es) σ H Q) :
  pD C nm (nE B Φ m n) E.e (T B Φ E a) (TL B Φ E es) σ H Q:=by
 obtain ⟨σD,M,F,ρ,S,r,h⟩:=h
 simp only [ev] at h
 refine T.one S r rfl h fun x M1 F1 ρ1 H1 v e1 S1 r1 rx h1=>?_
 split at h1
 ·rename_i i
  split at h1
  ·rename_i c' fs hM
   split at h1
   ·rename_i hq
    simp only [Bool.and_eq_true,decide_eq_true_eq,Option.isNone_iff_eq_none] at hq
    obtain ⟨rfl,hno⟩:=hq
    have rx0:=rx
    simp only [RD] at rx
    obtain ⟨b,hb,rfl⟩:=rx
    obtain ⟨C',dx,eL,hc,hH,hk,hr⟩:=S1.obj i b _ hb hM
    rw [hC] at hc;cases hc
    refine ⟨b,dx,eL,rfl,hH,(mD hk hr).2 hno,σD,M1,F1,ρ1,S1,r1,?_⟩
    cases hx:b6 Φ es σD M1 with
    | exc c M2=>rw [hx] at h1;exact h1
    | bad=>rw [hx] at h1;exact h1
    | ok ds M2 =>
     rw [hx] at h1
     simp only [R.aa] at h1
     intro F2 ρ2 H2 vs e2 S2 q2
     exact ⟨by rw [List.length_cons,<- ai.length q2];exact hn hx,.ref i::ds,M2,F2,ρ2,S2,ai.cons (RD.mono e2 _ _ rx0) q2,ah.weak e2 h1⟩
   ·exact h1.elim
  ·exact h1.elim
 ·exact h1.elim
noncomputable def spI (B:Bd) (Φ:bh) (f n:Nat):Sp:=fun vs H Q E=>vs.length=n/\∃ ds M F ρ,SR B F ρ M H/\ai B F ρ H ds vs/\Post B (Φ.ini f ds M) F ρ H Q E
theorem SR.own (S:SR B F ρ M H) {p:Addr} (h:H p=none) (o:HO):SR B F ρ M (upd H p o)/\Ext F ρ H F ρ (upd H p o):=by
 obtain ⟨np,nf⟩:=S.new h
 exact ⟨S.side np nf o,⟨⟨S.sep,fun a q=>q,fun a q _=>aj (by rintro rfl;exact q h),List.prefix_refl _,fun a q=>.inl q,fun a q=>.inl q⟩,fun b w u q=>by rw [aj (by rintro rfl;rw [h] at q;cases q)];exact q⟩⟩
theorem rD {c i n:Nat} {es:Es} {C:Addr} (hC:B.cls c=some C) (hn:∀ {σ:Sg} {M:MH} {ds:List D} {M':MH},b6 Φ es σ M=.ok ds M'->ds.length+1=n) (h:T B Φ E (.new c i es) σ H Q) :
  pF C (spI B Φ i n) E.e (TL B Φ E es) σ H Q:=by
 obtain ⟨σD,M,F,ρ,S,r,h⟩:=h
 simp only [ev] at h
 refine ⟨σD,M,F,ρ,S,r,?_⟩
 cases hx:b6 Φ es σD M with
 | exc c M1=>rw [hx] at h;exact h
 | bad=>rw [hx] at h;exact h
 | ok ds M1 =>
  rw [hx] at h
  simp only [R.aa] at h
  intro F1 ρ1 H1 vs e1 S1 q1 x dx hx0 hdx hne
  obtain ⟨S2,e2⟩:=S1.own hdx (.own x)
  have hx2:upd H1 dx (.own x) x=none:=by rw [aj (Ne.symm hne)];exact hx0
  obtain ⟨S3,e3⟩:=S2.lv (o:=.ins C dx []) (u:=.ins c []) hx2 ⟨C,dx,[],hC,ay,rfl,ai.nil⟩
  have at_:(ρ1++[x])[M1.length]? = some x:=by rw [<- S1.len,List.getElem?_append_right (Nat.le_refl _),Nat.sub_self];rfl
  have e23:=e2.trans e3
  refine ⟨by rw [List.length_cons,<- ai.length q1];exact hn hx,.ref M1.length::ds,M1++[.ins c []],F1,ρ1++[x],S3,ai.cons (by simp only [RD];exact ⟨x,at_,rfl⟩) (ai.mono e23 _ _ q1),?_⟩
  refine ah.imp (ah.bind (rel:=RD B) (ah.weak (e1.trans e23) h)) fun v H' ⟨d,M',F',ρ',ext,S',rd,h2⟩=>?_
  split at h2
  ·simp only [RD] at rd
   exact ⟨rd,ah.run h2 S' (by simp only [RD];exact ⟨x,ext.at at_,rfl⟩)⟩
  ·exact h2.elim
theorem nJ {c i:Nat} {es:Es} (hb:∀ ds M,Φ.ini i ds M=.bad) (h:T B Φ E (.new c i es) σ H Q):TL B Φ E es σ H fun _ _=>False:=by
 obtain ⟨σD,M,F,ρ,S,r,h⟩:=h
 simp only [ev] at h
 refine ⟨σD,M,F,ρ,S,r,?_⟩
 cases hx:b6 Φ es σD M with
 | exc c M1=>rw [hx] at h;exact h
 | bad=>rw [hx] at h;exact h
 | ok ds M1 =>
  rw [hx] at h
  simp only [R.aa,hb,R.j0] at h
  exact h.elim
theorem zT {a b:Fg.E} (h:T B Φ E (.mx true a b) σ H Q):zB (fun xs H Q=>∃ i j,xs=[.int i,.int j]/\Q (.int (if j > i then j else i)) H) (cF (T B Φ E a) (cF (T B Φ E b) g9)) σ H Q:=by
 obtain ⟨σD,M,F,ρ,S,r,h⟩:=h
 simp only [ev] at h
 refine T.two S r rfl h fun x y M2 F2 ρ2 H2 v w S2 _ rx ry h2=>?_
 split at h2
 ·rename_i i j
  simp only [RD] at rx ry
  subst rx ry
  exact ⟨i,j,rfl,ah.run h2 S2 (by simp only [RD,if_true])⟩
 ·exact h2.elim
theorem zS {a b:Fg.E} (h:T B Φ E (.mx false a b) σ H Q):zB (fun xs H Q=>∃ i j,xs=[.int i,.int j]/\Q (.int (if j<i then j else i)) H) (cF (T B Φ E a) (cF (T B Φ E b) g9)) σ H Q:=by
 obtain ⟨σD,M,F,ρ,S,r,h⟩:=h
 simp only [ev] at h
 refine T.two S r rfl h fun x y M2 F2 ρ2 H2 v w S2 _ rx ry h2=>?_
 split at h2
 ·rename_i i j
  simp only [RD] at rx ry
  subst rx ry
  exact ⟨i,j,rfl,ah.run h2 S2 (by simp only [RD,Bool.false_eq_true,if_false])⟩
 ·exact h2.elim
end
section
variable {X:Cx} {cm:Bool} {Ex:XS} {k:Nat} {f C:Addr} {fd:FuncData} {ps:List Str} {sp:Sp} {x m:Str} {p pos apos:Pos} {e o:Expr} {es:List Expr} {ta:TE} {t:TA}
theorem wm {pl:Sem Bool} (he:PE X o ta) (c:uU X.K C) (hm:Meth X.K C m f) (F:br cm X.prog X.w X.K X.mg X.base (eW X.prog X.w) k f fd ps sp) (hr:bI cm k X.A) (hb:Binds X.K fd ps []) (hx:∀ e s,g7 X Ex e s->X.xe e s) (ha:PA X (e::es) t)
  (hst:starEach (e::es) X.env=(false,eval e X.env)::starEach es X.env) (hpl:(backTo pos (starEach es X.env)).any (·.1)=false)
  (ht:eval (.Call (.Attribute o m apos) (e::es) [] pos) X.env=(do
   let ov <- eval o X.env
   standAt apos.atName
   let (f,first) <- holding [ov] (getMethod ov m pl)
   callWith pos f first (backTo pos (starEach (e::es) X.env)) (backToKw pos (keywordEach [] X.env)))) :
  PE X (.Call (.Attribute o m apos) (e::es) [] pos) (pD C m sp Ex ta t):=by
 intro pins s σ H Q I h
 refine PySem.W.methodCall_KW (pl:=pl) (aT (he pins s σ H _ I h) fun u s1 ⟨x,H1,I1,rx,a,dx,fs,ex,ea,l,q⟩=>?_) ht
 subst ex
 obtain rfl:u=Value.ref a:=rx
 refine jO I1 ea c hm l ?_
 refine PySem.W.callWith_K (first:=[.ref a]) (h₀:=X.base) I.ok.mod.AY hm.kp (aT (ha pos pins s1 σ H1 _ I1 q) fun us s2 ⟨vs,H2,I2,r,q2⟩=>⟨I2.fH,?_⟩) hst hpl
 exact Af (us:=.ref a::us) (vs:=.ref a::vs) F hr hb hx I2 (.cons rfl r) q2
theorem ue {pl:Sem Bool} (he:PE X o ta) (c:uU X.K C) (hm:Meth X.K C m f) (F:br cm X.prog X.w X.K X.mg X.base (eW X.prog X.w) k f fd ps sp) (hr:bI cm k X.A) (hb:Binds X.K fd ps []) (hx:∀ e s,g7 X Ex e s->X.xe e s)
  (ht:eval (.Call (.Attribute o m apos) [] [] pos) X.env=(do
   let ov <- eval o X.env
   standAt apos.atName
   let (f,first) <- holding [ov] (getMethod ov m pl)
   callWith pos f first (backTo pos (starEach [] X.env)) (backToKw pos (keywordEach [] X.env)))) :
  PE X (.Call (.Attribute o m apos) [] [] pos) (pD C m sp Ex ta g9):=by
 intro pins s σ H Q I h
 refine PySem.W.methodCall_KW (pl:=pl) (aT (he pins s σ H _ I h) fun u s1 ⟨x,H1,I1,rx,a,dx,fs,ex,ea,l,q⟩=>?_) ht
 subst ex
 obtain rfl:u=Value.ref a:=rx
 refine jO I1 ea c hm l ?_
 exact PySem.W.callWith_K0 (first:=[.ref a]) I1.fH hm.kp (Af (us:=[.ref a]) (vs:=[.ref a]) F hr hb hx I1 (.cons rfl .nil) q)
theorem kF {pins:List (Addr×Obj)} {σ:L2.St} {H:Hp} {s:Shared} {Q:VK} {us:List Value} {vs:List V} (M:Mk X.K C f) (F:br cm X.prog X.w X.K X.mg X.base (eW X.prog X.w) k f fd ps sp) (hr:bI cm (k+1) X.A) (hb:Binds X.K fd ps [])
  (hx:∀ e s,g7 X Ex e s->X.xe e s) (I:Inv X pins σ H s) (r:Vals vs us)
  (h:∀ x dx,H x=none->H dx=none->dx≠x->sp (.ref x::vs) (upd (upd H dx (.own x)) x (.ins C dx [])) (fun v H2=>v=.ao/\Q (.ref x) H2) fun cv y H'=>Ex cv y σ H') :
  wpAny (model X.prog X.w) X.A (call (.ref C) us) (EP X pins σ Q) X.xe s:=by
 have hq:=h (s.heap.objs.size+1) s.heap.objs.size (I.hok.fresh (Nat.le_succ _)) (I.hok.fresh (Nat.le_refl _)) (Nat.ne_of_lt (Nat.lt_succ_self _))
 have I2:=Inv.made (C:=C) I
 have r2:Vals (V.ref (s.heap.objs.size+1)::vs) (Value.ref (s.heap.objs.size+1)::us):=.cons rfl r
 have hl:((Value.ref (s.heap.objs.size+1)::us)++[]).length=ps.length:=by
  rw [List.append_nil,<- r2.length];exact F.len _ _ _ _ hq
 have bd:=hb _ (Value.ref (s.heap.objs.size+1)::us) I2.fH hl
 rw [List.append_nil] at bd
 refine wpAny_call (wQ (f:=f) I.fH M.makes M.init (beq_iff_eq.mp M.fn) (codeAny_mono (F.run _ X.stack _ _ ⟨Value.ref (s.heap.objs.size+1)::us,[]⟩ (Value.ref (s.heap.objs.size+1)::us) _ _ _ (hr.make C us [])
  (I2.jU.make C us []) bd r2 hq) fun r s' hq'=>?_))
 match r,hq' with
 | .error e,hq'=>exact passes hx pins σ _ _ e s' I2 hq'
 | .ok (.ret u),hq' =>
  obtain ⟨v,H',I3,rv,ev,q3⟩:=I2.after hq'
  subst ev
  exact ⟨rv,⟨V.ref (s.heap.objs.size+1),H',I3,rfl,q3⟩⟩
 | .ok .next,hq'=>exact hq'.elim
 | .ok .brk,hq'=>exact hq'.elim
 | .ok .cont,hq'=>exact hq'.elim
theorem wu (M:Mk X.K C f) (F:br cm X.prog X.w X.K X.mg X.base (eW X.prog X.w) k f fd ps sp) (hr:bI cm (k+1) X.A) (hg:Gl X x) (hm:X.mg x=some (.ref C)) (hb:Binds X.K fd ps []) (hx:∀ e s,g7 X Ex e s->X.xe e s)
  (ha:PA X (e::es) t) (hdb:(x == ("__debug__" : Str))=false) (he:starEach (e::es) X.env=(false, eval e X.env)::starEach es X.env) (hpl:(backTo pos (starEach es X.env)).any (·.1)=false) :
  PE X (.Call (.Name x p) (e::es) [] pos) (pF C sp Ex t):=by
 intro pins s σ H Q I h
 refine wpAny_Call_Name_kw (ez I hg hm ?_ hdb)
 refine PySem.W.callWith_K (h₀:=X.base) I.ok.mod.AY M.kp (aT (ha pos pins s σ H _ I h) fun us s1 ⟨vs,H1,I1,r,q⟩=>⟨I1.fH,?_⟩) he hpl
 exact kF M F hr hb hx I1 r q
theorem uf (M:Mk X.K C f) (F:br cm X.prog X.w X.K X.mg X.base (eW X.prog X.w) k f fd ps sp) (hr:bI cm (k+1) X.A) (hg:Gl X x) (hm:X.mg x=some (.ref C)) (hb:Binds X.K fd ps []) (hx:∀ e s, g7 X Ex e s->X.xe e s) (hdb:(x == ("__debug__" : Str))=false) :
  PE X (.Call (.Name x p) [] [] pos) (pF C sp Ex g9):=by
 intro pins s σ H Q I h
 refine wpAny_Call_Name_kw (ez I hg hm ?_ hdb)
 exact PySem.W.callWith_K0 I.fH M.kp (kF (us:=[]) M F hr hb hx I .nil h)
theorem wo {f:Addr} (M:Mk X.K C f) (hg:Gl X x) (hm:X.mg x=some (.ref C)) (ha:PA X (e::es) t) (hdb:(x == ("__debug__" : Str))=false) (he:starEach (e::es) X.env=(false, eval e X.env)::starEach es X.env) (hpl:(backTo pos (starEach es X.env)).any (·.1)=false) :
  PE X (.Call (.Name x p) (e::es) [] pos) (fun σ H _=>t σ H fun _ _=>False):=by
 intro pins s σ H Q I h
 refine wpAny_Call_Name_kw (ez I hg hm ?_ hdb)
 exact PySem.W.callWith_K (h₀:=X.base) I.ok.mod.AY M.kp (aT (ha pos pins s σ H _ I h) fun us s1 ⟨vs,H1,I1,r,q⟩=>q.elim) he hpl
end
end Fg
end
section
namespace Fg
open PySem PySem.Spec PySem.W PySem.Builtin.ObjectAttr PySem.Builtin.Getset_descriptor PySem.Builtin L2
structure yO (K:Frag) (C:Addr):Prop where
 ga:findIn K (.ref C) "__getattribute__" = some (some (.builtin "BaseException.__getattribute__"))
 gt:findIn K (.ref C) "__getattr__" = some none
 cl:findIn K (.ref C) "__class__" = some (some (.builtin "object.__class__"))
 sp:specialIn K (.builtin "object.__class__") "__get__" = some (some (.builtin "getset_descriptor.__get__"))
 tk:takesIn K (.builtin "object.__class__")=some true
 mo:mroIn K C (.type "object")=some true
 mb:mroIn K C (.type "BaseException")=some true
 ty:(clsIn K C).isSome=true
section
variable {prog:Program} {w:World} {A:Around} {E:Value->Shared->Prop} {h:Heap} {g:Array GenState} {d:Drawn} {t:Nat} {os:OsState} {K:Frag} {a C:Addr} {o:Obj}
theorem nk {M:Model} (hx:h.get? a=some o) (hc:o.cls=.ref C):Looks M h (typeOf (.ref a)) (.ref C):=hc ▸ (Looks.ld hx).andThen .now
theorem C9 {R:Result->Shared->Prop} {tp:Value} (Z:yO K C) (X:K.In h) (hx:h.get? a=some o) (hc:o.cls=.ref C) (hq:R (.ok (.ret (.ref C))) ⟨h,g,d,t,os⟩) :
  codeAny (model prog w) A (.call (.builtin "getset_descriptor.__get__") ⟨[.builtin "object.__class__", .ref a, tp], []⟩) R ⟨h, g, d, t, os⟩:=by
 have L0:=nk (M:=model prog w) hx hc
 have L1:=looks_mroIn (M:=model prog w) X Z.mo
 refine codeAny_call_builtin KF.slot_gs.plain KF.entry_gs (KF.slot_gs.check _ _ _ _ _ _ _ _ KF.type_class (KF.args_gs _ _ _) ?_)
 unfold Builtin.«getset_descriptor.__get__» descrGet
 rw [dga_obj]
 refine wpAny_bind (wpAny_pure ?_)
 unfold descrGetter descrCheckInstance descrNameAndClass isInstance
 simp only [KF.owner_class]
 repeat lk
 refine ⟨Code.quiet_builtin _ (by decide +kernel),codeAny_builtin KF.entry_class ?_⟩
 unfold Builtin.«object.__class__» shownTypeOf
 repeat lk
 exact hq
theorem zo {M:Model} (Z:yO K C) (X:K.In h) (hx:h.get? a=some o) (hc:o.cls=.ref C):Looks M h (find (.ref a) (.ref C) "__class__") (.bind (.builtin "getset_descriptor.__get__") (.builtin "object.__class__")):=by
 have L1:=looks_findIn (M:=M) X Z.cl
 have L2:Looks M h (getOf (some (.builtin "object.__class__"))) (some (.builtin "getset_descriptor.__get__")):=looks_specialIn X Z.sp
 have L3:=looks_takesIn (M:=M) X Z.tk
 refine L1.andThen (L2.andThen ?_)
 exact (show Looks M h (dataDescriptor? (some (.builtin "object.__class__")) (some (.builtin "getset_descriptor.__get__"))) (some (.builtin "getset_descriptor.__get__", .builtin "object.__class__")) from L3.andThen .now).andThen (Looks.tag .now)
theorem vc {M:Model} {nameV:Value} {Q:Unit->Shared->Prop} (Z:yO K C) (X:K.In h) (hx:h.get? a=some o) (hc:o.cls=.ref C) (hq:Q () ⟨h,g,d,t,os⟩) :
  wpAny M A (checkBuiltinCall "BaseException.__getattribute__" ⟨[.ref a, nameV], []⟩) Q E ⟨h, g, d, t, os⟩:=by
 have hk:builtinKind "BaseException.__getattribute__" = some .slot:=by decide +kernel
 have hsplit:splitId "BaseException.__getattribute__" = some ("BaseException", "__getattribute__"):=by decide +kernel
 have L0:=nk (M:=M) hx hc
 have L1:=looks_mroIn (M:=M) X Z.mb
 have ha:=F.args_bexc_ga (.ref a) nameV
 simp only [checkBuiltinCall,hk,hsplit]
 refine wpAny_bind ?_
 ·unfold isInstance
  refine wpAny_bind (L0.at (L1.at ?_))
  repeat (any_goals (first | assumption | wp_step))
theorem u9 {tk:Tok} {Q:Fin->Shared->Prop} (Z:yO K C) (X:K.In h) (hx:h.get? a=some o) (hc:o.cls=.ref C) (hq:Q (.done (.ret (.ref C))) ⟨h,g,d,t,os⟩) :
  wpAny (model prog w) A (Builtin.«object.__getattribute__» ⟨[.ref a, .str "__class__" tk], []⟩) Q E ⟨h, g, d, t, os⟩:=by
 have L0:=nk (M:=model prog w) hx hc
 have L1:=zo (M:=model prog w) Z X hx hc
 unfold Builtin.«object.__getattribute__»
 repeat (any_goals (first | assumption | with_reducible refine wpAny_bind (L0.at ?_) | with_reducible refine wpAny_bind (L1.at ?_) | wp_step))
 refine C9 Z X hx hc ?_
 repeat (any_goals (first | assumption | wp_step))
theorem Hj {tk:Tok} {fill expr:Bool} {Q:Value->Shared->Prop} (Z:yO K C) (X:K.In h) (hx:h.get? a=some o) (hc:o.cls=.ref C) (hq:Q (.ref C) ⟨h,g,d,t,os⟩) :
  wpAny (model prog w) A (getAttrBy (.ref a) (.str "__class__" tk) fill expr) Q E ⟨h, g, d, t, os⟩:=by
 have FB:=PySem.F.excAttr_ValueError
 have f3:=FB.ga.bind (.ref a)
 have L0:=nk (M:=model prog w) hx hc
 have L1:=looks_findIn (M:=model prog w) X Z.ga
 have L2:=looks_findIn (M:=model prog w) X Z.gt
 have hx0:(expr&&onTheHeap (Value.builtin "BaseException.__getattribute__"))=false:=by cases expr <;> rfl
 have hx2:(Value.builtin "BaseException.__getattribute__" == Value.builtin "object.__getattribute__")=false:=by decide +kernel
 have hx1:(onTheHeap (Value.ref C)&&Value.builtin "BaseException.__getattribute__" == Value.builtin "object.__getattribute__")=false:=by rw [hx2];rfl
 repeat (any_goals (first | assumption | with_reducible refine wpAny_bind (L0.at ?_) | with_reducible refine wpAny_bind (L1.at ?_) | with_reducible refine wpAny_bind (L2.at ?_) | wp_step))
 refine codeAny_call_builtin FB.ga.plain F.entry_bexc_ga (vc Z X hx hc (u9 Z X hx hc ?_))
 repeat (any_goals (first | assumption | wp_step))
theorem EZ (Z:yO K C):KitX K (.ref a) (.ref C) (GG a C) where
 ty:=fun _ _ _ ⟨_,hx,hc⟩=>nk hx hc
 it:=fun _ _ X _=>by
  have z:=Z.ty
  unfold clsIn at z
  split at z
  ·rename_i ho
   intro A' Q' E' s' k q
   unfold isType loadHead
   exact wpAny_bind (wpAny_loadPart (k _ _ (X _ _ ho)) (wpAny_pure q))
  ·cases z
 ne:=fun h tp dd its n sl X htp=>by
  have z:=Z.ty
  refine Bool.eq_false_iff.mpr fun q=>?_
  have e:C=tp:=Value.ref.inj (beq_iff_eq.mp q)
  subst e
  unfold clsIn at z
  split at z
  ·rename_i ho
   cases (X _ _ ho).symm.trans htp
  ·cases z
 ca:=fun {prog w A E Q s} X ⟨o,hx,hc⟩ k=>by
  obtain ⟨h,g,d,t,os⟩:=s
  unfold getAttr? getAttrBy?
  exact wpAny_bind (wpAny_mkText (wpAny_bind (wpAny_attempt (Hj Z X hx hc (wpAny_pure k)))))
end
noncomputable def Io (K:Frag) (v:V):List V->Hp->VK->Prop:=fun xs H Q=>∃ a C c b,xs=[.ref a,v]/\H a=some (.ext (GG a C))/\yO K C/\(∀ u,RelV v u->u=c)/\kitOne K (.ref C) c=some b/\Q (.bl b) H
theorem oZ {X:Cx} {v:V}:bW X (.builtin "isinstance") (Io X.K v):=by
 intro pins s σ H xs us Q I r h
 obtain ⟨a,C,c,b,rfl,hH,Z,hv,k,q⟩:=h
 cases r with
 | cons rx r=>cases r with
  | cons rt r =>
   cases r
   cases (show _=Value.ref a from rx)
   cases hv _ rt
   obtain ⟨xo,_⟩:=(show aP X.prog X.w H s.heap a (.ext (GG a C)) from I.hok a _ hH)
   exact kia_one (EZ Z) I.fH xo k (fun z=>nomatch z) fun tk=>⟨.bl b,H,I.tok _,rfl,q⟩
section
variable {B:Bd} {Φ:bh} {E:Gx} {σ:L2.St} {H:Hp} {Q:VK}
theorem rG {a:Fg.E} {c:Option Nat} {v:V} {cv:Value} (hv:∀ u,RelV v u->u=cv) (hk:∀ d D,B.yT d=some D->yO B.K D/\kitOne B.K (.ref D) cv=some (match c with | some c=>Φ.sub d c | none=>true)) (h:T B Φ E (.jL a c) σ H Q) :
  zB (Io B.K v) (cF (T B Φ E a) (cF (tC v) g9)) σ H Q:=by
 obtain ⟨σD,M,F,ρ,S,r,h⟩:=h
 simp only [ev] at h
 refine T.one S r rfl h fun x M1 F1 ρ1 H1 v' e1 S1 r1 rx h1=>?_
 split at h1
 ·rename_i d
  simp only [RD] at rx
  obtain ⟨p,D,rfl,h2,h3,h4⟩:=rx
  obtain ⟨z,k⟩:=hk d D h2
  exact ⟨p,D,cv,_,rfl,h4,z,hv,k,ah.run h1 S1 (by rfl)⟩
 ·exact h1.elim
end
end Fg
end
section
namespace Fg
open PySem PySem.Spec L2
section
variable {B:Bd} {Φ:bh} {E:Gx} {F F' F0 F1:Addr->Prop} {ρ ρ' ρ0 ρ1:List Addr} {H H' H0 H1:Hp} {M M' M0:MH} {σD:Sg} {σ:L2.St} {Q:VK} {Dn:Ends}
end
end Fg
end
section
namespace Fg
open PySem PySem.Spec L2
section
variable {X:Cx} {B:Bd} {pins:List (Addr×Obj)} {σ:L2.St} {H H':Hp} {s:Shared}
noncomputable def B0 (X:Cx):Addr->Prop:=fun a=>∀ o u,X.H₀ a≠some (.fJ o u)
theorem dJ (I:Inv X pins σ H s) (h:zb (B0 X) H H'):Inv X pins σ H' s:=by
 rcases h with rfl | ⟨a,o,kvs,th,ha,rfl⟩
 ·exact I
 have ne:∀ b,H b=none->b≠a:=fun b q z=>by subst z;rw [ha] at q;cases q
 refine ⟨I.ok,I.os,I.bare,⟨I.base.keep,I.base.slot,fun b ob e n hx=>?_,I.base.there,fun b xs e=>?_,fun b ob u e=>?_,fun b ps e=>?_⟩,I.loc,I.cell,?_,fun x c e=>?_,fun p hp=>?_,fun b u e=>?_,I.len⟩
 ·have:=I.base.free b ob e n hx
  rw [aj (ne b this)];exact this
 ·have:=I.base.tups b xs e
  rw [aj (by rintro rfl;rw [ha] at this;cases this)];exact this
 ·have:=I.base.eT b ob u e
  rw [aj (by rintro rfl;exact th ob u e)];exact this
 ·obtain ⟨more,q⟩:=I.base.fL b ps e
  exact ⟨more,by rw [aj (by rintro rfl;rw [ha] at q;cases q)];exact q⟩
 ·rw [aj (ne _ I.free)];exact I.free
 ·rw [aj (ne _ (I.bF x c e))];exact I.bF x c e
 ·obtain ⟨h1,h2,h3⟩:=I.pin p hp
  exact ⟨h1,by rw [aj (ne _ h2)];exact h2,h3⟩
 ·by_cases hb:b=a
  ·subst hb
   rw [ay] at e;cases e
   exact (I.hok b _ ha).2
  ·rw [aj hb] at e
   exact (I.hok b u e).stay (fun _ _ _ q=>q) (fun c q=>by rw [aj (by rintro rfl;rw [ha] at q;cases q)];exact q) fun c xs q=>by rw [aj (by rintro rfl;rw [ha] at q;cases q)];exact q
theorem Aw {e:Expr} {t:TE} (h:PE X e t):PE X e (fun σ H Q=>t σ H fun v H'=>∃ qO,zb (B0 X) H' qO/\Q v qO):=by
 intro pins s σ H Q I q
 refine aT (h pins s σ H _ I q) fun u s' ⟨v,H',I',r,qO,t',q'⟩=>⟨v,qO,dJ I' t',r,q'⟩
theorem rT {st:Stmt} {t:TS} (h:PS X st t):PS X st (fun D σ H=>t (thE (B0 X) D) σ H):=by
 intro pins s σ H D I q
 refine aT (h pins s σ H _ I q) fun f s' q'=>?_
 cases f with
 | next=>obtain ⟨σ',H',I',qO,t',q'⟩:=q';exact ⟨σ',qO,dJ I' t',q'⟩
 | brk=>obtain ⟨σ',H',I',qO,t',q'⟩:=q';exact ⟨σ',qO,dJ I' t',q'⟩
 | cont=>obtain ⟨σ',H',I',qO,t',q'⟩:=q';exact ⟨σ',qO,dJ I' t',q'⟩
 | ret u=>obtain ⟨v,σ',H',I',r,qO,t',q'⟩:=q';exact ⟨v,σ',qO,dJ I' t',r,q'⟩
theorem AZ {k:Key} {u:Value} (h:jJ k u=true):RelV (kV k) u:=by
 rcases aJ h with ⟨i,t,rfl,rfl⟩ | ⟨x,t,rfl,rfl⟩
 ·exact ⟨t,rfl⟩
 ·exact ⟨t,rfl⟩
theorem EY {kvs:List (Key×V)} {vs:List (Key×Value)} (h:KV kvs vs) {i:Nat} {kv:Key×V} (e:kvs[i]? = some kv):∃ w,vs[i]? = some (kv.1,w):=by
 induction h generalizing i with
 | nil=>simp at e
 | @cons p q ps qs hpq _ ih =>
  cases i with
  | zero =>
   simp only [List.getElem?_cons_zero,Option.some.injEq] at e ⊢
   subst e
   exact ⟨q.2,by rw [hpq.1]⟩
  | succ i=>simpa using ih (by simpa using e)
noncomputable def epO (o:Obj) (n:Nat):Prop:=∃ es,o.data=.dict es n
theorem tW {P:Program} {w:World} {K:PySem.W.Frag} {tg:Expr} (a it:Addr) (o:Obj) (kvs:List (Key×V)) (ep:Nat) (he:epO o ep):Turn P w K tg (KA a o kvs) [it] it (fun i h=>h.IsKeyIter it a i kvs.length ep) where
 mem:=by simp
 obj:=fun i h st b hb=>by
  have e:b=it:=by simpa using hb
  subst e
  obtain ⟨o,e,c,d⟩:=st
  exact ⟨o,e,fun v z=>by rw [d] at z;cases z⟩
 keep:=fun i h h' st k=>st.at fun o e=>k it (by simp) o e
 item:=by
  intro X hP hw hK hc i pins s σ H E I hf st hg
  subst hP hw hK
  obtain ⟨hH,hi⟩:=hg
  obtain ⟨ho,z,hm,vs,rel,dd⟩:=(show aP X.prog X.w H s.heap a (.fJ o (.dK kvs)) from I.hok a _ hH)
  obtain ⟨o',es,JS,h1,h2,h3,h4⟩:=id dd
  rw [ho] at h1;cases h1
  obtain ⟨es',hd'⟩:=he
  rw [hd'] at h3;cases h3
  have dat:s.heap.DictAt (aG X.prog X.w) a vs ep:=⟨o,es,ho,h2,hd',h4⟩
  have hx:kvs[i]? = some kvs[i]:=List.getElem?_eq_getElem hi
  obtain ⟨wv,hv⟩:=EY rel hx
  obtain ⟨f0,f1,f2,f3,f4,f5⟩:=hf it (by simp)
  have hl:kvs.length=vs.length:=rel.length
  rw [hl] at st
  refine wpAny_pyNext_dict_item st dat hv fun key h' hk st' sb=>?_
  have I1:Inv X pins σ H { s with heap:=h' }:=I.turned (t':=s.toks) (fun b o hb e=>(sb.2 b hb).trans e) f0 f1 f3 f4 f5
  obtain ⟨oi,e,c,d⟩:=id st'
  refine ⟨key,rfl,oz (s:={ s with heap:=h' }) e c d (by decide) ⟨kV kvs[i].1,H,I1,AZ hk,⟨rfl,kvs[i],hx,rfl⟩,by rw [hl];exact st',fun b hb=>(hf b hb).1⟩⟩
 done:=by
  intro X hP hw hK hc i pins s σ H E I hf st hg
  subst hP hw hK
  obtain ⟨hH,hi⟩:=hg
  obtain ⟨ho,z,hm,vs,rel,dd⟩:=(show aP X.prog X.w H s.heap a (.fJ o (.dK kvs)) from I.hok a _ hH)
  obtain ⟨o',es,JS,h1,h2,h3,h4⟩:=id dd
  rw [ho] at h1;cases h1
  obtain ⟨es',hd'⟩:=he
  rw [hd'] at h3;cases h3
  have dat:s.heap.DictAt (aG X.prog X.w) a vs ep:=⟨o,es,ho,h2,hd',h4⟩
  have hl:kvs.length=vs.length:=rel.length
  rw [hl] at st
  obtain ⟨f0,f1,f2,f3,f4,f5⟩:=hf it (by simp)
  exact wpAny_pyNext_dict_end (I.ok.hd hc) st dat (List.getElem?_eq_none_iff.mpr (by omega)) fun h' eb=>⟨rfl,I.turned (t':=s.toks) (fun b o hb e=>eb b o hb e) f0 f1 f3 f4 f5⟩
 self:=fun _ _ _ _ _ st h=>wpAny_pyIter_keyiter st h
theorem sY {tg:Expr} {R:It->Hp->Prop} {a:Addr} {o:Obj} {kvs:List (Key×V)} {E:Value->Shared->Prop} (I:Inv X pins σ H s) (hH:H a=some (.fJ o (.dK kvs))) (q:R (KA a o kvs) H):wpAny (model X.prog X.w) X.A (pyIter (.ref a)) (PIE X pins σ tg R) E s:=by
 obtain ⟨ho,z,hm,vs,rel,dd⟩:=(show aP X.prog X.w H s.heap a (.fJ o (.dK kvs)) from I.hok a _ hH)
 obtain ⟨o',es,ep,h1,h2,h3,h4⟩:=id dd
 rw [ho] at h1;cases h1
 have dat:s.heap.DictAt (aG X.prog X.w) a vs ep:=⟨o,es,ho,h2,h3,h4⟩
 have hl:kvs.length=vs.length:=rel.length
 refine wpAny_pyIter_dict hm dat ?_
 refine ⟨s.heap.objs.size,[s.heap.objs.size],_,_,H,rfl,I.kept (t':=s.toks) fun b o e=>Heap.get?_push_of_some _ e,tW a _ o kvs ep ⟨es,h3⟩,⟨_,Heap.get?_push_size _ rfl,rfl,by rw [hl];rfl⟩,fun b hb=>?_,q⟩
 have e:b=s.heap.objs.size:=by simpa using hb
 subst e
 exact I.uF (Nat.le_refl _) (I.hok.fresh (Nat.le_refl _))
theorem D8 {tg l:Expr} {tl:TE} (hK:B.K=X.K) (hl:PE X l tl):PI X tg l (Ju B (B0 X) tl):=by
 intro pins s σ H R I h
 refine aT (hl pins s σ H _ I h) fun v s1 ⟨x,H1,I1,r1,q1⟩=>?_
 rw [hK] at q1
 rcases q1 with ⟨a,e,⟨xs,hq⟩,q⟩ | ⟨a,e,⟨xs,hq⟩,q⟩ | ⟨a,kvs,e,hq,q⟩ | ⟨a,o,kvs,e,hq,q⟩
 ·subst e
  cases r1
  obtain ⟨its,rv,p,hz⟩:=I1.list hq
  refine wpAny_pyIter_list p.isList ?_
  refine ⟨s1.heap.objs.size,[s1.heap.objs.size],_,_,H1,rfl,I1.kept (t':=s1.toks) fun b o e=>Heap.get?_push_of_some _ e,tV a _,⟨_,Heap.get?_push_size _ rfl,rfl,rfl⟩,fun b hb=>?_,q⟩
  have e:b=s1.heap.objs.size:=by simpa using hb
  subst e
  exact I1.uF (Nat.le_refl _) (I1.hok.fresh (Nat.le_refl _))
 ·subst e
  cases r1
  obtain ⟨its,rv,p,hz⟩:=I1.tuple hq
  refine wpAny_pyIter_tuple (show s1.heap.IsTuple a its.toArray from p) ?_
  refine ⟨s1.heap.objs.size,[s1.heap.objs.size],_,_,H1,rfl,I1.kept (t':=s1.toks) fun b o e=>Heap.get?_push_of_some _ e,pC a _,⟨_,Heap.get?_push_size _ rfl,rfl,rfl⟩,fun b hb=>?_,q⟩
  have e:b=s1.heap.objs.size:=by simpa using hb
  subst e
  exact I1.uF (Nat.le_refl _) (I1.hok.fresh (Nat.le_refl _))
 ·subst e
  cases r1
  have ob:=(show aP X.prog X.w H1 s1.heap a (.dK kvs) from I1.hok a _ hq)
  obtain ⟨z,hm,vs,rel,dd⟩:=id ob
  obtain ⟨o,es,ep,h1,h2,h3,h4⟩:=id dd
  have th:B0 X a:=fun w u hz=>by
   have:=I1.base.eT a w u hz
   rw [hq] at this;cases this
  have I2:Inv X pins σ (upd H1 a (.fJ o (.dK kvs))) s1:=I1.write (x:=a) (e:=a) (t':=s1.toks) (h':=s1.heap) (by rw [hq];trivial) (.inl rfl) (fun b u _ e=>e) ⟨o,h1⟩ ⟨h1,ob⟩
  exact sY I2 ay (q o th)
 ·subst e
  cases r1
  exact sY I1 hq q
theorem Ao {o i value:Expr} {to ti tv:TE} {pos pos':Pos} (hu:Rm X) (ho:PE X o to) (hi:PE X i ti) (hv:PE X value tv) (hs:swapsWith value (some (.Subscript o i pos')) pos.line X.env=pure false) :
  PS X (.Assign [.Subscript o i pos'] value pos) (Cd to ti tv):=by
 intro pins s σ H D I h
 refine wpAny_Assign_Subscript (aT (hv pins s σ H _ I h) fun r s1 ⟨v,H1,I1,rv,q1⟩=>aT (ho pins s1 σ H1 _ I1 q1) fun u s2 ⟨x,H2,I2,rx,q2⟩=>aT (hi pins s2 σ H2 _ I2 q2) fun iv s3 ⟨y,H3,I3,ry,q3⟩=>?_) hs
 rcases q3 with q3 | ⟨a,H4,ex,g,q3⟩
 ·exact aT (set_list pins s3 σ H3 x y v u iv r _ I3 rx ry rv q3) fun _ s4 ⟨H4,I4,q4⟩=>⟨σ,H4,I4,q4⟩
 ·subst ex
  obtain rfl:u=Value.ref a:=rx
  exact uH (by unfold Rm at hu;omega) I3 g ry rv fun s4 I4=>⟨σ,H4,I4,q3⟩
end
end Fg
end
section
namespace Fg
open PySem PySem.Spec L2
noncomputable def TM (B:Bd) (Φ:bh) (E:Gx) (c:Es):L2.St->Hp->(Hp->Prop)->Prop:=fun σ H Q=>∃ (σD:Sg) (M:MH) (F:Addr->Prop) (ρ:List Addr),
 SR B F ρ M H/\RS B F ρ H σD σ/\ah (fun _ _ _ (_:Unit) (_:Unit)=>True) B (Bp Φ c σD M) F ρ H (fun _ H'=>Q H') (fun cv x H'=>E.e cv x σ H')
section
variable {B:Bd} {Φ:bh} {E:Gx} {F F' F0 F1:Addr->Prop} {ρ ρ' ρ0 ρ1:List Addr} {H H' H0 H1:Hp} {M M' M0:MH} {σD:Sg} {σ:L2.St} {Dn:Ends}
theorem TM.nil {Q:Hp->Prop} (h:TM B Φ E .nil σ H Q):Q H:=by
 obtain ⟨σD,M,F,ρ,S,r,h⟩:=h
 simp only [Bp] at h
 exact ah.run (v:=()) h S True.intro
theorem TM.cons {e:Fg.E} {es:Es} {Q:Hp->Prop} (h:TM B Φ E (.cons e es) σ H Q):T B Φ E e σ H fun v H1=>((∃ x:Str,v=.str x/\x.length<=100000)\/∃ i:Int,v=.int i/\i.natAbs<18446744073709551616)/\TM B Φ E es σ H1 Q:=by
 obtain ⟨σD,M,F,ρ,S,r,h⟩:=h
 simp only [Bp] at h
 refine ⟨σD,M,F,ρ,S,r,ah.imp (ah.bind (rel:=RD B) h) fun v H1 ⟨x,M1,F1,ρ1,e1,S1,rx,h1⟩=>?_⟩
 split at h1
 ·rename_i hs
  cases x with
  | str y =>
   simp only [RD] at rx
   simp only [c7,decide_eq_true_eq] at hs
   exact ⟨.inl ⟨y,rx,hs⟩,σD,M1,F1,ρ1,S1,r.mono e1,h1⟩
  | ao=>simp [c7] at hs
  | bl _=>simp [c7] at hs
  | int i =>
   simp only [RD] at rx
   simp only [c7,decide_eq_true_eq] at hs
   exact ⟨.inr ⟨i,rx,hs⟩,σD,M1,F1,ρ1,S1,r.mono e1,h1⟩
  | _=>simp [c7] at hs
 ·exact h1.elim
end
inductive PJ (X:Cx) (B:Bd) (Φ:bh) (E:Gx):List Expr->Es->Prop
 | nil:PJ X B Φ E [] .nil
 | lit {y:Str} {j:Nat} {p:Pos} {r:List Expr} {es:Es}:y.length<=100000->PJ X B Φ E r es->PJ X B Φ E (.Constant (.str y) j p::r) es
 | fld {v:Expr} {p:Pos} {r:List Expr} {e:Fg.E} {es:Es}:PE X v (T B Φ E e)->PJ X B Φ E r es->PJ X B Φ E (.FormattedValue v (-1) none p::r) (.cons e es)
theorem kN {i:Int} (h:i.natAbs<18446744073709551616):i.natAbs.log2<1920:=by
 by_cases h0:i.natAbs=0
 ·rw [h0];decide
 ·exact Nat.lt_of_lt_of_le ((Nat.log2_lt h0).mpr (show i.natAbs<2 ^ 64 from h)) (by decide)
theorem uC {i:Int} (h:i.natAbs<18446744073709551616):(Str.ofString (toString i)).length<=100000:=by
 have e:=int_text_length_le (k:=1920) (by decide) (kN h)
 rw [ofString_length];omega
section
variable {X:Cx} {B:Bd} {Φ:bh} {E:Gx}
theorem PJ.run {ps:List Expr} {es:Es} (h:PJ X B Φ E ps es):∀ {pins:List (Addr×Obj)} {s:Shared} {σ:L2.St} {H:Hp} {Q:Hp->Prop} {out:Str},Inv X pins σ H s->out.length+100000*ps.length<=sizeLine->TM B Φ E es σ H Q ->
  wpAny (model X.prog X.w) X.A (joinParts out (evalEach ps X.env)) (EP X pins σ fun v H'=>∃ y,v=.str y/\Q H') X.xe s:=by
 induction h with
 | nil =>
  intro pins s σ H Q out I hl q
  refine PyProof.Rows.joinParts_nil ⟨.str out,H,I.tok _,⟨_,rfl⟩,out,rfl,q.nil⟩ (by simpa using hl)
 | lit hy _ ih =>
  rename_i y j p r es _
  intro pins s σ H Q out I hl q
  simp only [List.length_cons] at hl
  refine PyProof.Rows.joinParts_cons ?_
  refine aT (pW pins s σ H (fun v H'=>v=.str y/\H'=H) I ⟨rfl,rfl⟩) fun u s1 ⟨v,H1,I1,rv,e1,e2⟩=>?_
  subst e1 e2
  obtain ⟨t,rfl⟩:=rv
  have hlen:(out++y).length<=out.length+100000:=by rw [strLen_append];omega
  exact ⟨by omega,ih I1 (by omega) q⟩
 | fld hv _ ih =>
  intro pins s σ H Q out I hl q
  simp only [List.length_cons] at hl
  refine PyProof.Rows.joinParts_cons (PyProof.Rows.FormattedValue_plain ?_)
  refine aT (hv pins s σ H _ I q.cons) fun u s1 ⟨v,H1,I1,rv,e0,q1⟩=>?_
  rcases e0 with ⟨x,e1,e2⟩ | ⟨i,e1,e2⟩
  ·subst e1
   obtain ⟨t,rfl⟩:=rv
   refine PyProof.Rows.formatField_str (fun t' tk=>?_) (by omega)
   have hlen:(out++x).length<=out.length+100000:=by rw [strLen_append];omega
   exact ⟨by omega,ih (I1.tok tk) (by omega) q1⟩
  ·subst e1
   obtain ⟨t,rfl⟩:=rv
   refine PyProof.Rows.formatField_int_small (kN e2) ?_
   have hlen:(out++Str.ofString (toString i)).length<=out.length+100000:=by rw [strLen_append];have:=uC e2;omega
   exact ⟨by omega,ih (I1.tok _) (by omega) q1⟩
theorem Ef {ps:List Expr} {es:Es} {pos:Pos} (h:PJ X B Φ E ps es) (h2:2<=ps.length) (hl:ps.length<=100):PE X (.JoinedStr ps pos) (fun σ H Q=>TM B Φ E es σ H fun H'=>∀ y:Str,Q (.str y) H'):=by
 intro pins s σ H Q I q
 match ps,h2,h,hl with
 | v₁::v₂::rest,_,h,hl =>
  refine PyProof.Rows.JoinedStr_many ?_
  refine wpAny_mono (h.run (Q:=fun H'=>∀ y:Str,Q (.str y) H') I (by
   show 0+100000*(v₁::v₂::rest).length<=2 ^ 24
   omega) q) (fun u s1 ⟨v,H1,I1,rv,y,e,q1⟩=>⟨v,H1,I1,rv,by rw [e];exact q1 y⟩) fun _ _ z=>z
end
section
variable {B:Bd} {Φ:bh} {E:Gx} {F F' F0 F1:Addr->Prop} {ρ ρ' ρ0 ρ1:List Addr} {H H' H0 H1:Hp} {M M' M0:MH} {σD:Sg} {σ:L2.St} {Dn:Ends}
theorem kD {c:Nat} {es:Es} {C:Addr} (hc:B.exc c (.ref C)) (h:TC B Φ E (.raise c es) Dn σ H):TM B Φ E es σ H fun H'=>E.e (.ref C) none σ H':=by
 obtain ⟨σD,M,F,ρ,S,r,h⟩:=h
 simp only [ex] at h
 refine ⟨σD,M,F,ρ,S,r,ah.imp (aI.use (rel:=fun _ _ _ (_:Unit) (_:Unit)=>True) r h) fun v H1 ⟨x,M1,F1,ρ1,e,S1,rx,h1⟩=>?_⟩
 exact aI.run h1 S1 σ _ none (r.mono e) hc
theorem RS.unset (r:RS B F ρ H σD σ) (i:Nat):RS B F ρ H (σD.set i none) (σ.set i none):=by
 refine ⟨by simp [r.1],fun j d q=>?_⟩
 rw [List.getElem?_set] at q
 split at q
 ·split at q <;> cases q
 ·rename_i hj
  rw [List.getElem?_set_ne hj]
  exact r.2 j d q
theorem n9 {E':Gx} {f:Sg->Sg} {g:L2.St->L2.St} (hf:∀ {F ρ H σD σ},RS B F ρ H σD σ->RS B F ρ H (f σD) (g σ)) {r:R Out} (h:aI B (GV f r) F ρ H Dn E):aI B r F ρ H { nx:=fun σ' H'=>Dn.nx (g σ') H',rt:=fun _ _=>False } E':=by
 cases r with
 | bad=>exact h
 | exc c M=>exact h
 | ok o M =>
  cases o with
  | nx σ1=>exact fun F1 ρ1 H1 e S σ' r=>h F1 ρ1 H1 e S _ (hf r)
  | rt d=>exact h.elim
  | bk σ1=>exact h.elim
  | ct σ1=>exact h.elim
  | xc c σ1=>exact h.elim
noncomputable def BR (B:Bd) (Φ:bh) (E:Gx) (adr:Nat->Option Addr):Hs->Option (List (Addr×TX))
 | .nil=>some []
 | .cons [c] b hs=>match adr c,BR B Φ E adr hs with
  | some C,some r=>some ((C,fun _ D σ H=>tP B Φ E b { nx:=D.nx,rt:=fun _ _=>False } σ H)::r)
  | _,_=>none
 | .cons _ _ _=>none
 | .as c i b hs=>match adr c,BR B Φ E adr hs with
  | some C,some r=>some ((C,asR i (tP B Φ E b))::r)
  | _,_=>none
theorem lI {E':Gx} {adr:Nat->Option Addr} {mro:List Value} {c:Nat} {Cx:Addr} (hsub:∀ d D,adr d=some D->mro.contains (.ref D)=Φ.sub c d) (hx:B.yT c=some Cx):∀ {hs:Hs} {rs:List (Addr×TX)},BR B Φ E' adr hs=some rs->SR B F ρ M H->RS B F ρ H σD σ->aI B (sJ Φ hs c σD M) F ρ H Dn E ->
  ∃ t,pick mro rs=some t/\t Cx Dn σ H
 | .nil,rs,h,S,r,p=>by simp only [sJ] at p;exact p.elim
 | .cons cs b hs,rs,h,S,r,p=>by
  unfold BR at h
  split at h
  ·rename_i heq;cases heq
  ·rename_i c' b' hs' heq
   cases heq
   split at h
   ·rename_i C r' hC hr
    cases h
    simp only [sJ,List.any_cons,List.any_nil,Bool.or_false] at p
    simp only [pick,hsub _ _ hC]
    split at p
    ·rename_i hq
     rw [if_pos hq]
     exact ⟨_,rfl,σD,M,F,ρ,S,r,n9 (g:=id) (fun z=>z) p⟩
    ·rename_i hq
     rw [if_neg hq]
     exact lI hsub hx hr S r p
   ·cases h
  ·cases h
  ·rename_i heq;cases heq
 | .as c' i b hs,rs,h,S,r,p=>by
  unfold BR at h
  split at h
  ·rename_i C r' hC hr
   cases h
   simp only [sJ] at p
   simp only [pick,hsub _ _ hC]
   split at p
   ·rename_i hq
    rw [if_pos hq]
    refine ⟨_,rfl,fun a ha=>?_⟩
    obtain ⟨S',e⟩:=S.fz ha (.ext (GG a Cx))
    refine ⟨_,M,_,ρ,S',(r.mono e).set (d:=.iY c) (v:=.ref a) (by simp only [RD];exact ⟨a,Cx,rfl,hx,.inr rfl,ay⟩) i,n9 (g:=fun σ=>σ.set i none) (fun z=>z.unset i) (aI.weak e p)⟩
   ·rename_i hq
    rw [if_neg hq]
    exact lI hsub hx hr S r p
  ·cases h
end
end Fg
end
section
namespace Fg
open PySem PySem.Spec L2
noncomputable def fQ (l:Bool) (h:Heap) (it a:Addr) (k:Nat):Prop:=match l with | true=>h.IsListIter it a k | false=>h.IsTupleIter it a k
noncomputable def dB (l:Bool) (h:Heap) (a:Addr) (xs:Array Value):Prop:=match l with | true=>h.IsList a xs | false=>h.IsTuple a xs
theorem fQ.at {l:Bool} {h h':Heap} {it a:Addr} {k:Nat} (x:fQ l h it a k) (e:∀ o,h.get? it=some o->h'.get? it=some o):fQ l h' it a k:=by
 cases l <;> (obtain ⟨o,h1,h2⟩:=x;exact ⟨o,e o h1,h2⟩)
theorem dB.at {l:Bool} {h h':Heap} {a:Addr} {xs:Array Value} (x:dB l h a xs) (e:∀ o,h.get? a=some o->h'.get? a=some o):dB l h' a xs:=by
 cases l <;> (obtain ⟨o,h1,h2⟩:=x;exact ⟨o,e o h1,h2⟩)
section
variable {prog:Program} {w:World} {A:Around} {E:Value->Shared->Prop} {s:Shared}
theorem vg {it t:Addr} {i:Nat} {xs:Array Value} {v:Value} {Q:Value->Shared->Prop} (uA:s.heap.IsTupleIter it t i) (tp:s.heap.IsTuple t xs) (hv:xs[i]? = some v)
  (k:∀ h',h'.IsTupleIter it t (i+1)->Heap.SameBut it s.heap h'->Q v { s with heap:=h' }):wpAny (model prog w) A (Builtin.SmallTypes.nextOf (.ref it)) Q E s:=by
 obtain ⟨oi,gi,ci,di⟩:=id uA
 obtain ⟨ot,gt,_,nt,dt⟩:=tp
 unfold Builtin.SmallTypes.nextOf;refine wpAny_bind (wpAny_callSpecial?_slot (name:=Str.ofString "__next__") uA.typeIs F.slot_tuple_iterator_next (wpAny_call_entry F.slot_tuple_iterator_next uA.typeIs F.entry_tuple_iterator_next ?_ (F.args_tuple_iterator_next_1 _)))
 show wpAny _ _ (field (.ref it) 0 >>= _) _ _ s;refine wpAny_bind (wpAny_field gi di (x:=.ref t) rfl ?_)
 show wpAny _ _ (if (Value.ref t == Value.none)=true then _ else _) _ _ s;rw [if_neg (show ¬ ((Value.ref t == Value.none)=true) from Bool.false_ne_true)]
 show wpAny _ _ (field (.ref it) 1 >>= _) _ _ s;refine wpAny_bind (wpAny_field gi di (x:=.int i 0) rfl ?_)
 show wpAny _ _ (seqItems? (.ref t) >>= _) _ _ s;refine wpAny_bind (wpAny_seqItems gt dt ?_)
 simp only [Int.toNat_natCast,hv];refine wpAny_bind (wpAny_setField gi di (by simp) (wpAny_pure ⟨v,rfl,wpAny_pure (k _ ?_ (Heap.SameBut.update ..))⟩))
 exact ⟨_,Heap.get?_update_self _ gi (Obj.isFreed_of_fields (Obj.data_mapFields di _)),(Obj.cls_mapFields ..).trans ci,by rw [Obj.data_mapFields di];simp [rawInt]⟩
theorem vf {it t:Addr} {i:Nat} {xs:Array Value} {Q:Value->Shared->Prop} (hh:A.handled=none) (uA:s.heap.IsTupleIter it t i) (tp:s.heap.IsTuple t xs) (hv:xs[i]? = none)
  (k:∀ h' e, Heap.ExtBut it s.heap h'->(∃ o, h'.get? e=some o/\o.cls=.type "StopIteration")->E (.ref e) { s with heap:=h' }):wpAny (model prog w) A (Builtin.SmallTypes.nextOf (.ref it)) Q E s:=by
 obtain ⟨oi,gi,ci,di⟩:=id uA
 obtain ⟨ot,gt,_,nt,dt⟩:=tp
 unfold Builtin.SmallTypes.nextOf;refine wpAny_bind (wpAny_callSpecial?_slot (name:=Str.ofString "__next__") uA.typeIs F.slot_tuple_iterator_next (wpAny_call_entry F.slot_tuple_iterator_next uA.typeIs F.entry_tuple_iterator_next ?_ (F.args_tuple_iterator_next_1 _)))
 show wpAny _ _ (field (.ref it) 0 >>= _) _ _ s;refine wpAny_bind (wpAny_field gi di (x:=.ref t) rfl ?_)
 show wpAny _ _ (if (Value.ref t == Value.none)=true then _ else _) _ _ s;rw [if_neg (show ¬ ((Value.ref t == Value.none)=true) from Bool.false_ne_true)]
 show wpAny _ _ (field (.ref it) 1 >>= _) _ _ s;refine wpAny_bind (wpAny_field gi di (x:=.int i 0) rfl ?_)
 show wpAny _ _ (seqItems? (.ref t) >>= _) _ _ s;refine wpAny_bind (wpAny_seqItems gt dt ?_)
 simp only [Int.toNat_natCast,hv];refine wpAny_bind (wpAny_rule (wpAny_bind (wpAny_setField gi di (by simp) ?_)))
 show wpAny _ _ (newExc (.type "StopIteration") [] >>= _) _ _ _;refine wpAny_bind ?_
 simp only [newExc,newTuple];refine wpAny_bind (wpAny_newObj_type ?_ (by size_fits))
 refine wpAny_bind (m:=firstArgMember _ _) (wpAny_of_eq (a:=Value.none) (by first | rfl | (simp only [firstArgMember];rfl)) ?_);refine wpAny_newObj_type ?_ (by size_fits)
 simp only [raiseNew];refine wpAny_bind (wpAny_handled ?_)
 first | rw [show A.in1.handled=none from hh] | rw [hh]
 refine wpAny_bind (wpAny_pure (wpAny_throw ?_));exact k _ _ (((Heap.SameBut.update ..).extBut.push _).push _) ⟨_,Heap.get?_push_size _ rfl,rfl⟩
theorem fF {l:Bool} {it a:Addr} {i:Nat} {xs:Array Value} {v:Value} {Q:Value->Shared->Prop} (uA:fQ l s.heap it a i) (sq:dB l s.heap a xs) (hv:xs[i]? = some v)
  (k:∀ h',fQ l h' it a (i+1)->Heap.SameBut it s.heap h'->Q v { s with heap:=h' }):wpAny (model prog w) A (Builtin.SmallTypes.nextOf (.ref it)) Q E s:=by
 cases l with
 | true=>exact wpAny_nextOf_list_item uA sq hv k
 | false=>exact vg uA sq hv k
theorem jg {l:Bool} {it a:Addr} {i:Nat} {xs:Array Value} {Q:Value->Shared->Prop} (hh:A.handled=none) (uA:fQ l s.heap it a i) (sq:dB l s.heap a xs) (hv:xs[i]? = none)
  (k:∀ h' e, Heap.ExtBut it s.heap h'->(∃ o, h'.get? e=some o/\o.cls=.type "StopIteration")->E (.ref e) { s with heap:=h' }):wpAny (model prog w) A (Builtin.SmallTypes.nextOf (.ref it)) Q E s:=by
 cases l with
 | true=>exact wpAny_nextOf_list_end hh uA sq hv k
 | false=>exact vf hh uA sq hv k
structure Zp (l m:Bool) (h:Heap) (z TI TO i j a b:Addr) (n:Nat) (xs ys:Array Value) (f:Value):Prop where
 z:IsZip h z TI TO f
 ti:IsPair h TI (.ref i) (.ref j)
 to:∃ u v,IsPair h TO u v
 i1:fQ l h i a n
 i2:fQ m h j b n
 s1:dB l h a xs
 s2:dB m h b ys
theorem u5 {l m:Bool} {z TI TO i j a b:Addr} {n:Nat} {xs ys:Array Value} {x y:Value} {Q:Value->Shared->Prop} (D:ZipApart z TI TO i j a b) (Z:Zp l m s.heap z TI TO i j a b n xs ys .none) (hx:xs[n]? = some x) (hy:ys[n]? = some y)
  (k:∀ h',Zp l m h' z TI TO i j a b (n+1) xs ys (rawInt s.heap.objs.size)->IsPair h' s.heap.objs.size x y->h'.objs.size=s.heap.objs.size+1->(∀ c o,c≠z->c≠TO->c≠i->c≠j->s.heap.get? c=some o->h'.get? c=some o)->Q (.ref s.heap.objs.size) { s with heap:=h' }) :
  wpAny (model prog w) A (Builtin.«zip.__next__» ⟨[.ref z], []⟩) (fun fin s'=>∃ v, fin=.done (.ret v)/\Q v s') E s:=by
 obtain ⟨gz,gi,⟨u,v,go⟩,t1,t2,q1,q2⟩:=Z
 show wpAny _ _ (field (.ref z) 2 >>= _) _ _ _;refine wpAny_bind (wpAny_field gz rfl (x:=.bool false) rfl ?_)
 show wpAny _ _ (field (.ref z) 3 >>= _) _ _ _;refine wpAny_bind (wpAny_field gz rfl (x:=.ref TI) rfl (wpAny_bind (wpAny_seqItems gi rfl ?_)))
 show wpAny _ _ (Builtin.SmallTypes.ownedTupleIsFree (.ref z) >>= _) _ _ _;refine wpAny_bind ?_
 unfold Builtin.SmallTypes.ownedTupleIsFree;refine wpAny_bind (wpAny_field gz rfl (x:=.none) rfl (wpAny_pure ?_))
 simp only [if_true];refine wpAny_bind (wpAny_rule (wpAny_bind (wpAny_field gz rfl (x:=.ref TO) rfl (wpAny_bind (wpAny_setField_rec gz (by simp) fun h1 z1 b1=>?_)))))
 replace z1:IsZip h1 z TI TO .ellipsis:=z1
 refine wpAny_bind ?_;simp only [List.zipIdx_cons,List.zipIdx_nil,List.forIn_cons,List.forIn_nil]
 refine wpAny_bind (wpAny_bind (wpAny_onRaise ?_));show wpAny _ _ (Builtin.SmallTypes.nextOf (.ref i) >>= _) _ _ _
 refine wpAny_bind (fF (t1.at fun o e=>b1.extBut _ _ D.i1z e) (q1.at fun o e=>b1.extBut _ _ D.l1z e) hx fun h2 t1' b2=>wpAny_pure ?_)
 have go2:IsPair h2 TO u v:=b2.extBut _ _ D.TOi1 (b1.extBut _ _ D.TOz go)
 refine wpAny_bind (wpAny_seqItems go2 rfl (wpAny_bind (wpAny_updateSeq_pair go2 fun h3 Le b3=>wpAny_bind (wpAny_letGo (wpAny_pure ?_)))))
 replace Le:IsPair h3 TO x v:=Le
 refine wpAny_bind (wpAny_bind (wpAny_onRaise ?_));show wpAny _ _ (Builtin.SmallTypes.nextOf (.ref j) >>= _) _ _ _
 refine wpAny_bind (fF (t2.at fun o e=>b3.extBut _ _ D.TOi2.symm (b2.extBut _ _ D.i12.symm (b1.extBut _ _ D.i2z e))) (q2.at fun o e=>b3.extBut _ _ D.l2TO (b2.extBut _ _ D.l2i1 (b1.extBut _ _ D.l2z e))) hy fun h4 t2' b4=>wpAny_pure ?_)
 have go4:IsPair h4 TO x v:=b4.extBut _ _ D.TOi2 Le
 refine wpAny_bind (wpAny_seqItems go4 rfl (wpAny_bind (wpAny_updateSeq_pair go4 fun h5 Ld b5=>wpAny_bind (wpAny_letGo (wpAny_pure (wpAny_pure ?_))))))
 replace Ld:IsPair h5 TO x y:=Ld
 refine wpAny_bind (wpAny_seqItems Ld rfl (wpAny_bind (wpAny_newTuple ?_)))
 have sz:h5.objs.size=s.heap.objs.size:=by rw [b5.1,b4.1,b3.1,b2.1,b1.1]
 have z5:IsZip h5 z TI TO .ellipsis:=b5.extBut _ _ D.TOz.symm (b4.extBut _ _ D.i2z.symm (b3.extBut _ _ D.TOz.symm (b2.extBut _ _ D.i1z.symm z1)))
 have k5:∀ c o,c≠z->c≠TO->c≠i->c≠j->s.heap.get? c=some o->h5.get? c=some o:=fun c o c1 c2 c3 c4 e=>b5.extBut _ _ c2 (b4.extBut _ _ c4 (b3.extBut _ _ c2 (b2.extBut _ _ c3 (b1.extBut _ _ c1 e))))
 have e1:fQ l h5 i a (n+1):=t1'.at fun o e=>b5.extBut _ _ D.TOi1.symm (b4.extBut _ _ D.i12 (b3.extBut _ _ D.TOi1.symm e))
 have e2:fQ m h5 j b (n+1):=t2'.at fun o e=>b5.extBut _ _ D.TOi2.symm e
 show wpAny _ _ (Builtin.SmallTypes.ownedTupleHandOut (.ref z) (.ref h5.objs.size) >>= _) _ _ _;refine wpAny_bind ?_
 unfold Builtin.SmallTypes.ownedTupleHandOut
 have z6:IsZip (h5.push { cls:=.type "tuple", data:=.seq #[x, y] }) z TI TO .ellipsis:=Heap.get?_push_of_some _ z5
 refine wpAny_bind (wpAny_setField_rec z6 (by simp) fun h7 z7 b7=>?_)
 replace z7:IsZip h7 z TI TO (rawInt h5.objs.size):=z7
 refine wpAny_setField_rec z7 (by simp) fun h8 z8 b8=>?_
 replace z8:IsZip h8 z TI TO (rawInt h5.objs.size):=z8
 have zl:z<h5.objs.size:=Heap.lt_size z5
 have up:∀ c o,c≠z->h5.get? c=some o->h8.get? c=some o:=fun c o c1 e=>b8.extBut _ _ c1 (b7.extBut _ _ c1 (Heap.get?_push_of_some _ e))
 have p8:IsPair h8 h5.objs.size x y:=b8.extBut _ _ (Nat.ne_of_gt zl) (b7.extBut _ _ (Nat.ne_of_gt zl) (Heap.get?_push_size _ rfl))
 have s8:h8.objs.size=h5.objs.size+1:=by rw [b8.1,b7.1,Heap.size_push]
 rw [sz] at z8 p8 s8
 refine wpAny_pure ⟨_,rfl,?_⟩
 show Q (.ref h5.objs.size) _
 rw [sz]
 exact k h8 ⟨z8,up _ _ D.TIz (k5 _ _ D.TIz D.TITO D.TIi1 D.TIi2 gi),⟨_,_,up _ _ D.TOz Ld⟩,e1.at fun o e=>up _ _ D.i1z e,e2.at fun o e=>up _ _ D.i2z e,q1.at fun o e=>up _ _ D.l1z (k5 _ _ D.l1z D.l1TO D.l1i1 D.l1i2 e),q2.at fun o e=>up _ _ D.l2z (k5 _ _ D.l2z D.l2TO D.l2i1 D.l2i2 e)⟩ p8 s8 fun c o c1 c2 c3 c4 e=>up c o c1 (k5 c o c1 c2 c3 c4 e)
theorem uZ {l m:Bool} {z TI TO i j a b:Addr} {n:Nat} {xs ys:Array Value} {Q:PySem.Fin->Shared->Prop} (hh:A.handled=none) (D:ZipApart z TI TO i j a b) (Z:Zp l m s.heap z TI TO i j a b n xs ys .none) (hn:xs[n]? = none\/ys[n]? = none)
  (k:∀ h' e, (∀ c o, c≠z->c≠TO->c≠i->c≠j->s.heap.get? c=some o->h'.get? c=some o)->(∃ o, h'.get? e=some o/\o.cls=.type "StopIteration")->E (.ref e) { s with heap:=h' }) :
  wpAny (model prog w) A (Builtin.«zip.__next__» ⟨[.ref z], []⟩) Q E s:=by
 obtain ⟨gz,gi,⟨u,v,go⟩,t1,t2,q1,q2⟩:=Z
 show wpAny _ _ (field (.ref z) 2 >>= _) _ _ _;refine wpAny_bind (wpAny_field gz rfl (x:=.bool false) rfl ?_)
 show wpAny _ _ (field (.ref z) 3 >>= _) _ _ _;refine wpAny_bind (wpAny_field gz rfl (x:=.ref TI) rfl (wpAny_bind (wpAny_seqItems gi rfl ?_)))
 show wpAny _ _ (Builtin.SmallTypes.ownedTupleIsFree (.ref z) >>= _) _ _ _;refine wpAny_bind ?_
 unfold Builtin.SmallTypes.ownedTupleIsFree;refine wpAny_bind (wpAny_field gz rfl (x:=.none) rfl (wpAny_pure ?_))
 simp only [if_true];refine wpAny_bind (wpAny_rule (wpAny_bind (wpAny_field gz rfl (x:=.ref TO) rfl (wpAny_bind (wpAny_setField_rec gz (by simp) fun h1 z1 b1=>?_)))))
 replace z1:IsZip h1 z TI TO .ellipsis:=z1
 refine wpAny_bind ?_;simp only [List.zipIdx_cons,List.zipIdx_nil,List.forIn_cons,List.forIn_nil]
 refine wpAny_bind (wpAny_bind (wpAny_onRaise ?_));show wpAny _ _ (Builtin.SmallTypes.nextOf (.ref i) >>= _) _ _ _
 have off:∀ {h:Heap} {e:Addr}, IsZip h z TI TO .ellipsis->(∃ o, h.get? e=some o/\o.cls=.type "StopIteration")->e≠z:=fun g ⟨o, g1, g2⟩ q=>by subst q;rw [g] at g1;cases g1;simp at g2
 cases hx:xs[n]? with
 | none =>
  refine wpAny_bind (jg hh (t1.at fun o e=>b1.extBut _ _ D.i1z e) (q1.at fun o e=>b1.extBut _ _ D.l1z e) hx fun h2 e b2 he=>?_)
  have z2:IsZip h2 z TI TO .ellipsis:=b2 _ _ D.i1z.symm z1
  obtain ⟨oe,he1,he2⟩:=id he
  exact wpAny_setField_rec z2 (by simp) fun h3 _ b3=>k h3 e (fun c o c1 _ c3 _ q=>b3.extBut _ _ c1 (b2 _ _ c3 (b1.extBut _ _ c1 q))) ⟨oe,b3.extBut _ _ (off z2 he) he1,he2⟩
 | some x =>
  have hy:ys[n]? = none:=hn.resolve_left (by rw [hx];simp)
  refine wpAny_bind (fF (t1.at fun o e=>b1.extBut _ _ D.i1z e) (q1.at fun o e=>b1.extBut _ _ D.l1z e) hx fun h2 t1' b2=>wpAny_pure ?_)
  have go2:IsPair h2 TO u v:=b2.extBut _ _ D.TOi1 (b1.extBut _ _ D.TOz go)
  refine wpAny_bind (wpAny_seqItems go2 rfl (wpAny_bind (wpAny_updateSeq_pair go2 fun h3 Le b3=>wpAny_bind (wpAny_letGo (wpAny_pure ?_)))))
  refine wpAny_bind (wpAny_bind (wpAny_onRaise ?_));show wpAny _ _ (Builtin.SmallTypes.nextOf (.ref j) >>= _) _ _ _
  refine wpAny_bind (jg hh (t2.at fun o e=>b3.extBut _ _ D.TOi2.symm (b2.extBut _ _ D.i12.symm (b1.extBut _ _ D.i2z e))) (q2.at fun o e=>b3.extBut _ _ D.l2TO (b2.extBut _ _ D.l2i1 (b1.extBut _ _ D.l2z e))) hy fun h4 e b4 he=>?_)
  have z4:IsZip h4 z TI TO .ellipsis:=b4 _ _ D.i2z.symm (b3.extBut _ _ D.TOz.symm (b2.extBut _ _ D.i1z.symm z1))
  obtain ⟨oe,he1,he2⟩:=id he
  exact wpAny_setField_rec z4 (by simp) fun h5 _ b5=>k h5 e (fun c o c1 c2 c3 c4 q=>b5.extBut _ _ c1 (b4 _ _ c4 (b3.extBut _ _ c2 (b2.extBut _ _ c3 (b1.extBut _ _ c1 q))))) ⟨oe,b5.extBut _ _ (off z4 he) he1,he2⟩
end
end Fg
end
section
namespace Fg
open PySem PySem.Spec L2
section
variable {X:Cx} {pins:List (Addr×Obj)} {σ:L2.St} {H:Hp} {s:Shared} {h':Heap}
theorem qV {t':Nat} {ch:List Addr} (I:Inv X pins σ H s) (f:∀ b∈ch,j6 X pins H b) (k:∀ b o,b∉ch->s.heap.get? b=some o->h'.get? b=some o):Inv X pins σ H { s with heap:=h',toks:=t' }:=by
 have off:∀ b u,H b=some u->b∉ch:=fun b u e z=>by rw [(f b z).1] at e;cases e
 refine I.step (g':=s.gens) (d':=s.drawn) (ch:=ch) (fun b hb=>?_) (fun b o _ _ hc e _=>k b o hc e) (fun b o _ _ hc e _=>⟨o.slots,k b o hc e⟩) (fun _ _ _ _ n=>n) (fun b o hc e=>⟨o,k b o hc e⟩) (fun _ _ e=>e) (fun _ _ _ e=>e) (fun b ps e=>⟨#[],by rw [e];simp⟩) (fun m hm=>?_) (fun b u e=>?_) I.bare
 ·obtain ⟨_,f1,_,f3,f4,f5⟩:=f b hb
  exact ⟨f3,f1,f4,f5⟩
 ·obtain ⟨o,es,ep,ho,r⟩:=hm
  exact ⟨o,es,ep,k _ o (fun z=>(f _ z).2.1 rfl) ho,r⟩
 ·refine (I.hok b u e).stay (fun c v hc q=>k c v ?_ q) (fun _ q=>q) fun _ _ q=>q
  rcases hc with z | z
  ·rw [z];exact off b u e
  ·exact off c _ z
end
noncomputable def yX (l:Bool) (a:Addr):Obj:={ cls:=.type (match l with | true=>"list_iterator" | false=>"tuple_iterator"), data:=.fields #[.ref a, .int 0 0] }
noncomputable abbrev Hi (h:Heap) (l m:Bool) (a b:Addr):Heap:=(h.push (yX l a)).push (yX m b)
noncomputable abbrev Hh (h:Heap) (l m:Bool) (a b:Addr):Heap:=(Hi h l m a b).push { cls:=.type "tuple", data:=.seq #[.ref h.objs.size, .ref (h.push (yX l a)).objs.size] }
noncomputable abbrev Hg (h:Heap) (l m:Bool) (a b:Addr):Heap:=(Hh h l m a b).push { cls:=.type "tuple", data:=.seq #[.none, .none] }
noncomputable abbrev BX (h:Heap) (l m:Bool) (a b:Addr):Heap:=(Hg h l m a b).push { cls:=.type "zip", data:=.fields #[.none, .bool false, .bool false, .ref (Hi h l m a b).objs.size, .ref (Hh h l m a b).objs.size] }
set_option maxHeartbeats 4000000 in
theorem tR (l m:Bool) (a b:Addr) (xs ys:Array Value):Meets (Builtin.«zip.__new__» ⟨[.type "zip", .ref a, .ref b], []⟩) (fun _ R s=>dB l s.heap a xs/\dB m s.heap b ys/\R (.ok (.ret (.ref (Hg s.heap l m a b).objs.size))) { s with heap:=BX s.heap l m a b }) :=
 .of_wp fun prog w A R s h=>by
  obtain ⟨hp,g,d,tk,os⟩:=s
  obtain ⟨q1,q2,h⟩:=h
  have hsub:=sub_zip
  have Cq:dB m (hp.push (yX l a)) b ys:=q2.at fun o e=>Heap.get?_push_of_some _ e
  rcases l with _ | _ <;> rcases m with _ | _ <;> simp only [BX,Hg,Hh,Hi,yX] at h
  ·have u1:Heap.IsTuple (Shared.heap ⟨hp,g,d,tk,os⟩) a xs:=q1
   have u2:Heap.IsTuple (Shared.heap ⟨hp.push { cls:=.type "tuple_iterator", data:=.fields #[.ref a, .int 0 0] }, g, d, tk, os⟩) b ys:=Cq
   wp_walk using wpAny_pyIter_tuple u1,wpAny_pyIter_tuple u2
   exact ⟨_,rfl,h⟩
  ·have u1:Heap.IsTuple (Shared.heap ⟨hp,g,d,tk,os⟩) a xs:=q1
   have u2:Heap.IsList (Shared.heap ⟨hp.push { cls:=.type "tuple_iterator", data:=.fields #[.ref a, .int 0 0] }, g, d, tk, os⟩) b ys:=Cq
   wp_walk using wpAny_pyIter_tuple u1,wpAny_pyIter_list u2
   exact ⟨_,rfl,h⟩
  ·have u1:Heap.IsList (Shared.heap ⟨hp,g,d,tk,os⟩) a xs:=q1
   have u2:Heap.IsTuple (Shared.heap ⟨hp.push { cls:=.type "list_iterator", data:=.fields #[.ref a, .int 0 0] }, g, d, tk, os⟩) b ys:=Cq
   wp_walk using wpAny_pyIter_list u1,wpAny_pyIter_tuple u2
   exact ⟨_,rfl,h⟩
  ·have u1:Heap.IsList (Shared.heap ⟨hp,g,d,tk,os⟩) a xs:=q1
   have u2:Heap.IsList (Shared.heap ⟨hp.push { cls:=.type "list_iterator", data:=.fields #[.ref a, .int 0 0] }, g, d, tk, os⟩) b ys:=Cq
   wp_walk using wpAny_pyIter_list u1,wpAny_pyIter_list u2
   exact ⟨_,rfl,h⟩
structure Zt (l m:Bool) (z TI TO i j a b:Addr) (n:Nat) (h:Heap):Prop where
 z:IsZip h z TI TO .none
 ti:IsPair h TI (.ref i) (.ref j)
 to:∃ u v,IsPair h TO u v
 i1:fQ l h i a n
 i2:fQ m h j b n
section
variable {prog:Program} {w:World} {A:Around} {E:Value->Shared->Prop} {s:Shared}
theorem u7 {l m:Bool} {a b:Addr} {xs ys:Array Value} {Q:Value->Shared->Prop} (q1:dB l s.heap a xs) (q2:dB m s.heap b ys)
  (k:∀ h',Zt l m (s.heap.objs.size+4) (s.heap.objs.size+2) (s.heap.objs.size+3) s.heap.objs.size (s.heap.objs.size+1) a b 0 h'->(∀ c o,s.heap.get? c=some o->h'.get? c=some o)->Q (.ref (s.heap.objs.size+4)) { s with heap:=h' }) :
  wpAny (model prog w) A (call (.type "zip") [.ref a, .ref b]) Q E s:=by
 refine callType_new F.called_zip (by decide) (F.typeCall_zip_2 _ _) (F.newCall_zip_2 _ _) (fun obj=>F.args_object_init_3 obj _ _) F.entry_zip_new (tR l m a b xs ys) ⟨q1,q2,?_⟩
 have n1:(s.heap.push (yX l a)).objs.size=s.heap.objs.size+1:=Heap.size_push ..
 have n2:(Hi s.heap l m a b).objs.size=s.heap.objs.size+2:=by rw [Heap.size_push,n1]
 have n3:(Hh s.heap l m a b).objs.size=s.heap.objs.size+3:=by rw [Heap.size_push,n2]
 have n4:(Hg s.heap l m a b).objs.size=s.heap.objs.size+4:=by rw [Heap.size_push,n3]
 have g5:(BX s.heap l m a b).get? (Hg s.heap l m a b).objs.size=some _:=Heap.get?_push_size _ rfl
 have g4:(BX s.heap l m a b).get? (Hh s.heap l m a b).objs.size=some _:=Heap.get?_push_of_some _ (Heap.get?_push_size _ rfl)
 have g3:(BX s.heap l m a b).get? (Hi s.heap l m a b).objs.size=some _:=Heap.get?_push_of_some _ (Heap.get?_push_of_some _ (Heap.get?_push_size _ rfl))
 have g2:(BX s.heap l m a b).get? (s.heap.push (yX l a)).objs.size=some (yX m b):=Heap.get?_push_of_some _ (Heap.get?_push_of_some _ (Heap.get?_push_of_some _ (Heap.get?_push_size _ rfl)))
 have g1:(BX s.heap l m a b).get? s.heap.objs.size=some (yX l a):=Heap.get?_push_of_some _ (Heap.get?_push_of_some _ (Heap.get?_push_of_some _ (Heap.get?_push_of_some _ (Heap.get?_push_size _ rfl))))
 show _/\_
 rw [n2,n3,n4] at g5
 rw [n1,n2] at g3
 rw [n3] at g4
 rw [n1] at g2
 rw [n4]
 have mk:∀ (l:Bool) (it c:Addr),(BX s.heap l m a b).get? it=some (yX l c)->True:=fun _ _ _ _=>trivial
 refine ⟨⟨_,g5,rfl⟩,k _ ⟨g5,g3,⟨_,_,g4⟩,?_,?_⟩ fun c o x=>Heap.get?_push_of_some _ (Heap.get?_push_of_some _ (Heap.get?_push_of_some _ (Heap.get?_push_of_some _ (Heap.get?_push_of_some _ x))))⟩
 ·cases l <;> exact ⟨_,g1,rfl,rfl⟩
 ·cases m <;> exact ⟨_,g2,rfl,rfl⟩
theorem u0 {l m:Bool} {z TI TO i j a b:Addr} {n:Nat} {xs ys:Array Value} {x y:Value} {Q:Option Value->Shared->Prop} (D:ZipApart z TI TO i j a b) (Z:Zt l m z TI TO i j a b n s.heap) (q1:dB l s.heap a xs) (q2:dB m s.heap b ys) (hx:xs[n]? = some x) (hy:ys[n]? = some y)
  (k:∀ h',Zp l m h' z TI TO i j a b (n+1) xs ys (rawInt s.heap.objs.size)->IsPair h' s.heap.objs.size x y->h'.objs.size=s.heap.objs.size+1->(∀ c o,c≠z->c≠TO->c≠i->c≠j->s.heap.get? c=some o->h'.get? c=some o)->Q (some (.ref s.heap.objs.size)) { s with heap:=h' }) :
  wpAny (model prog w) A (pyNext (.ref z)) Q E s:=by
 have ty:s.TypeIs (.ref z) "zip":=⟨_, Z.z, rfl⟩
 unfold pyNext;exact wpAny_bind (wpAny_attempt (wpAny_callSpecial?_slot (name:=Str.ofString "__next__") ty F.slot_zip_next (wpAny_call_entry F.slot_zip_next ty F.entry_zip_next (u5 D ⟨Z.z, Z.ti, Z.to, Z.i1, Z.i2, q1, q2⟩ hx hy fun h' c1 c2 c3 c4=>wpAny_pure (k h' c1 c2 c3 c4)) (F.args_zip_next_1 _))))
theorem u6 {l m:Bool} {z TI TO i j a b:Addr} {n:Nat} {xs ys:Array Value} {Q:Option Value->Shared->Prop} (hh:A.handled=none) (D:ZipApart z TI TO i j a b) (Z:Zt l m z TI TO i j a b n s.heap) (q1:dB l s.heap a xs) (q2:dB m s.heap b ys) (hn:xs[n]? = none\/ys[n]? = none)
  (k:∀ h',(∀ c o,c≠z->c≠TO->c≠i->c≠j->s.heap.get? c=some o->h'.get? c=some o)->Q none { s with heap:=h' }):wpAny (model prog w) A (pyNext (.ref z)) Q E s:=by
 have ty:s.TypeIs (.ref z) "zip":=⟨_, Z.z, rfl⟩
 unfold pyNext;refine wpAny_bind (wpAny_attempt (wpAny_callSpecial?_slot (name:=Str.ofString "__next__") ty F.slot_zip_next (wpAny_call_entry F.slot_zip_next ty F.entry_zip_next (uZ hh D ⟨Z.z, Z.ti, Z.to, Z.i1, Z.i2, q1, q2⟩ hn fun h' e hk he=>?_) (F.args_zip_next_1 _))))
 obtain ⟨o,ho,hc⟩:=he
 exact wpAny_bind (wpAny_isInstance (T:="StopIteration") (b:=true) ⟨o, ho, hc⟩ isSubtype_stop (wpAny_pure (k _ hk)))
end
noncomputable def Kq (l:Bool) (K:W.Frag) (H:Hp) (a:Addr) (xs:List V):Prop:=match l with | true=>eV K H a xs | false=>gr K H a xs
theorem Kq.at {l:Bool} {X:Cx} {pins:List (Addr×Obj)} {σ:L2.St} {H:Hp} {s:Shared} {a:Addr} {xs:List V} (I:Inv X pins σ H s) (q:Kq l X.K H a xs):∃ its:List Value,Vals xs its/\dB l s.heap a its.toArray:=by
 cases l with
 | true=>obtain ⟨its,rv,p,_⟩:=I.list q;exact ⟨its,rv,p.isList⟩
 | false=>obtain ⟨its,rv,p,_⟩:=I.tuple q;exact ⟨its,rv,p⟩
theorem vG {l:Bool} {h:Heap} {a:Addr} {xs:Array Value} (q:dB l h a xs):a<h.objs.size:=by
 cases l <;> (obtain ⟨o,e,_⟩:=q;exact Heap.lt_size e)
theorem yL {n c d:Nat} (h1:c<n) (h2:d<n):ZipApart (n+4) (n+2) (n+3) n (n+1) c d:=by
 constructor <;> (intro (e:(_:Nat)=_);omega)
section
variable {B:Bd} {Φ:bh} {E:Gx} {F F' F0 F1:Addr->Prop} {ρ ρ' ρ0 ρ1:List Addr} {H H' H0 H1:Hp} {M M' M0:MH} {σD:Sg} {σ:L2.St} {Q:VK} {Dn:Ends}
end
end Fg
end
section
namespace Fg
open PySem PySem.Spec L2
theorem lK:Slot "reversed" "__init__" "object.__init__" :=
 .of (owner:="object") (n:="__init__") (by rw [typeLookup_type, builtinLookup_eq_fast];kernel_rfl) (by decide +kernel) (by decide +kernel) (by decide +kernel)
  (by first | exact .inl (by decide +kernel) | exact .inr (by decide +kernel)) (by rw [isSubtype_type];kernel_rfl)
theorem bA:Slot "reversed" "__next__" "reversed.__next__" :=
 .of (owner:="reversed") (n:="__next__") (by rw [typeLookup_type, builtinLookup_eq_fast];kernel_rfl) (by decide +kernel) (by decide +kernel) (by decide +kernel)
  (by first | exact .inl (by decide +kernel) | exact .inr (by decide +kernel)) (by rw [isSubtype_type];kernel_rfl)
theorem gF:Slot "reversed" "__iter__" "reversed.__iter__" :=
 .of (owner:="reversed") (n:="__iter__") (by rw [typeLookup_type, builtinLookup_eq_fast];kernel_rfl) (by decide +kernel) (by decide +kernel) (by decide +kernel)
  (by first | exact .inl (by decide +kernel) | exact .inr (by decide +kernel)) (by rw [isSubtype_type];kernel_rfl)
theorem nQ:Manifest.owners.lookup (String.ofList ['d','e','s','r','e','v','e','r'].reverse)=some Manifest.sig_reversed:=by kernel_rfl
theorem gG (a:Value):argsOk "reversed.__next__" ⟨[a], []⟩:=by
 unfold argsOk;rw [signature?_of (id:="reversed.__next__") (n:=['_', '_', 't', 'x', 'e', 'n', '_', '_']) (o:=['d', 'e', 's', 'r', 'e', 'v', 'e', 'r']) (by kernel_rfl) nQ];kernel_rfl
theorem lN (a:Value):argsOk "reversed.__iter__" ⟨[a], []⟩:=by
 unfold argsOk;rw [signature?_of (id:="reversed.__iter__") (n:=['_', '_', 'r', 'e', 't', 'i', '_', '_']) (o:=['d', 'e', 's', 'r', 'e', 'v', 'e', 'r']) (by kernel_rfl) nQ];kernel_rfl
theorem lO (a b:Value):argsOk "object.__init__" ⟨[a, b], []⟩:=by
 unfold argsOk;rw [signature?_of (id:="object.__init__") (n:=['_', '_', 't', 'i', 'n', 'i', '_', '_']) (o:=['t', 'c', 'e', 'j', 'b', 'o']) (by kernel_rfl) F.owner_object];kernel_rfl
theorem fS:entryFor table "reversed.__next__" = some Builtin.«reversed.__next__»:=entryFor_of_tree (by kernel_rfl)
theorem kg:entryFor table "reversed.__iter__" = some Builtin.«dict_keyiterator.__iter__» :=
 entryFor_alias (id':="dict_keyiterator.__iter__") (by kernel_rfl) (by first | rfl | decide +kernel | (unfold String.splitOn;simp +decide [String.splitOnAux])) (by decide +kernel) (by kernel_rfl)
theorem ua:TypeCalled "reversed" "reversed.__new__" "object.__init__" :=
 ⟨by decide +kernel,by decide +kernel,⟨_,_,F.mro_reversed⟩,F.made_reversed,by decide +kernel,F.sub_reversed_self,lK⟩
theorem t9:typeLookup (.type "tuple") "__reversed__" = pure none:=by rw [typeLookup_type, builtinLookup_eq_fast];kernel_rfl
theorem pR:isSubtype (.type "tuple") (.type "dict")=pure false:=by rw [isSubtype_type];kernel_rfl
noncomputable def kG (l:Addr) (i:Int):Obj:={ cls:=.type "reversed", data:=.fields #[.ref l, rawInt i] }
noncomputable def jb (h:Heap) (a l:Addr) (i:Int):Prop:=∃ o, h.get? a=some o/\o.cls=.type "reversed"/\o.data=.fields #[.ref l, rawInt i]
theorem jb.typeIs {s:Shared} {a l:Addr} {i:Int} (x:jb s.heap a l i):s.TypeIs (.ref a) "reversed":=let ⟨o, ho, hc, _⟩:=x;⟨o, ho, hc⟩
theorem jb.at {h h':Heap} {a l:Addr} {i:Int} (x:jb h a l i) (e:∀ o,h.get? a=some o->h'.get? a=some o):jb h' a l i:=let ⟨o,ho,r⟩:=x;⟨o,e _ ho,r⟩
section
variable {prog:Program} {w:World} {A:Around} {E:Value->Shared->Prop} {s:Shared}
theorem vS (l:Addr) (items:Array Value) (hfit:(items.size:Int)<2 ^ 63) :
  Meets (Builtin.«reversed.__new__» ⟨[.type "reversed", .ref l], []⟩) (fun _ R s=>s.heap.IsTuple l items /\
   R (.ok (.ret (.ref s.heap.objs.size))) { s with heap:=s.heap.push (kG l ((items.size:Int)-1)),toks:=s.toks+1+1 }) :=
 .of_wp fun prog w A R s h=>by
  obtain ⟨hl,h⟩:=h
  have hT:s.TypeIs (.ref l) "tuple":=hl.typeIs
  unfold Builtin.«reversed.__new__»
  refine wpAny_bind (wpAny_of_eq (newClass_reversed _) ?_)
  try dsimp only
  refine wpAny_bind (wpAny_of_eq (a:=()) (by first | rfl | kernel_rfl) ?_)
  refine wpAny_bind (wpAny_of_eq (a:=()) (by first | rfl | kernel_rfl) ?_)
  try dsimp only
  refine wpAny_bind (wpAny_specialOf hT t9 ?_)
  try dsimp only
  refine wpAny_bind ?_
  show wpAny _ _ (isInstance (.ref l) (.type "dict") >>= _) _ _ _
  refine wpAny_bind (wpAny_isInstance hT pR ?_)
  simp only [Bool.false_eq_true,if_false]
  refine wpAny_bind (wpAny_specialOf hT F.slot_tuple_getitem.lookup ?_)
  show wpAny _ _ (if (["tuple.__getitem__", "str.__getitem__", "bytes.__getitem__", "bytearray.__getitem__", "memoryview.__getitem__", "numpy.ndarray.__getitem__", "sqlite3.Row.__getitem__"].contains "tuple.__getitem__")=true then pure true else _) _ _ _
  rw [if_pos (by decide +kernel)]
  refine wpAny_pure ?_
  simp only [Bool.not_true,Bool.false_eq_true,if_false]
  refine wpAny_bind (PyProof.Rows.len_tuple hl hfit ?_)
  refine wpAny_bind (wpAny_of_eq (a:=some (items.size:Int)) rfl ?_)
  try dsimp only
  refine wpAny_bind ?_
  unfold Builtin.SmallTypes.newRecord
  refine wpAny_newObj_type ?_ (by size_fits)
  exact wpAny_pure ⟨_,rfl,h⟩
theorem BD {l:Addr} {items:Array Value} {Q:Value->Shared->Prop} (hl:s.heap.IsTuple l items) (hfit:(items.size:Int)<2 ^ 63)
  (h:Q (.ref s.heap.objs.size) { s with heap:=s.heap.push (kG l ((items.size:Int)-1)), toks:=s.toks+1+1 }):wpAny (model prog w) A (call (.type "reversed") [.ref l]) Q E s :=
 callType_new ua (by decide) (F.typeCall_reversed_1 _) (F.newCall_reversed_1 _) (fun obj=>lO obj _) F.entry_reversed_new (vS l items hfit) ⟨hl,⟨_,Heap.get?_push_size _ rfl,rfl⟩,h⟩
theorem lM {it l:Addr} {i:Nat} {items:Array Value} {x:Value} {Q:Option Value->Shared->Prop} (hit:jb s.heap it l (i:Int)) (hl:s.heap.IsTuple l items) (hi:(i:Int)<2 ^ 62) (hx:items[i]? = some x)
  (hQ:∀ h',jb h' it l ((i:Int)-1)->Heap.SameBut it s.heap h'->Q (some x) { s with heap:=h',toks:=s.toks+1 }):wpAny (model prog w) A (pyNext (.ref it)) Q E s:=by
 obtain ⟨o,ho,hc,hd⟩:=id hit
 have hT:s.TypeIs (.ref l) "tuple":=hl.typeIs
 unfold pyNext
 refine wpAny_bind (wpAny_attempt (wpAny_callSpecial?_slot (name:=Str.ofString "__next__") hit.typeIs bA
  (wpAny_call_entry bA hit.typeIs fS ?_ (gG _))))
 unfold Builtin.«reversed.__next__»
 refine wpAny_bind (wpAny_of_eq (a:=(Value.ref it,[])) rfl ?_)
 try dsimp only
 refine wpAny_bind (wpAny_field ho hd (x:=.ref l) rfl ?_)
 refine wpAny_bind (wpAny_field ho hd (x:=rawInt (i:Int)) rfl ?_)
 show wpAny _ _ (if (i:Int)<0 then _ else _) _ _ s
 rw [if_neg (by omega)]
 refine wpAny_bind (wpAny_specialOf hT F.slot_tuple_getitem.lookup ?_)
 simp only [Option.isNone_some,Bool.false_eq_true,if_false]
 refine wpAny_bind (wpAny_mkInt ?_)
 refine wpAny_bind (wpAny_attempt ?_)
 have hl1:Heap.IsTuple (Shared.heap { s with toks:=s.toks+1 }) l items:=hl
 have hsz:i<items.size:=by
  rcases Nat.lt_or_ge i items.size with q | q
  ·exact q
  ·rw [Array.getElem?_eq_none q] at hx;cases hx
 refine PyProof.Rows.getItem_tuple hl1 (by omega) (by omega) (j:=i) (by rw [seqIndex_of (by omega) (by omega),Int.toNat_natCast]) hx ?_
 show wpAny _ _ (field (.ref it) 1 >>= _) _ _ _
 refine wpAny_bind (wpAny_field (s:={ s with toks:=s.toks+1 }) ho hd (x:=rawInt (i:Int)) rfl ?_)
 show wpAny _ _ (setField (.ref it) 1 (rawInt ((i:Int)-1)) >>= _) _ _ _
 refine wpAny_bind (wpAny_setField (s:={ s with toks:=s.toks+1 }) ho hd (by simp) ?_)
 refine wpAny_pure ⟨x,rfl,wpAny_pure (hQ _ ?_ (Heap.SameBut.update ..))⟩
 exact ⟨_,Heap.get?_update_self _ ho (Obj.isFreed_of_fields (Obj.data_mapFields hd _)),(Obj.cls_mapFields ..).trans hc,by rw [Obj.data_mapFields hd];simp⟩
theorem nR {it l:Addr} {Q:Option Value->Shared->Prop} (hh:A.handled=none) (hit:jb s.heap it l (-1))
  (hQ:∀ h',Heap.ExtBut it s.heap h'->Q none { s with heap:=h' }):wpAny (model prog w) A (pyNext (.ref it)) Q E s:=by
 obtain ⟨o,ho,hc,hd⟩:=id hit
 unfold pyNext
 refine wpAny_bind (wpAny_attempt (wpAny_callSpecial?_slot (name:=Str.ofString "__next__") hit.typeIs bA
  (wpAny_call_entry bA hit.typeIs fS ?_ (gG _))))
 unfold Builtin.«reversed.__next__»
 refine wpAny_bind (wpAny_of_eq (a:=(Value.ref it,[])) rfl ?_)
 try dsimp only
 refine wpAny_bind (wpAny_field ho hd (x:=.ref l) rfl ?_)
 refine wpAny_bind (wpAny_field ho hd (x:=rawInt (-1)) rfl ?_)
 show wpAny _ _ (if (-1:Int)<0 then _ else _) _ _ s
 rw [if_pos (by decide)]
 refine wpAny_bind (wpAny_rule ?_)
 refine wpAny_bind ?_
 show wpAny _ _ (setField (.ref it) 1 (rawInt (-1)) >>= _) _ _ _
 refine wpAny_bind (wpAny_setField ho hd (by simp) ?_)
 refine wpAny_setField (Heap.get?_update_self _ ho (Obj.isFreed_of_fields (Obj.data_mapFields hd _))) (Obj.data_mapFields hd _) (by simp) ?_
 refine wpAny_bind ?_
 show wpAny _ _ (newExc (.type "StopIteration") [] >>= _) _ _ _
 refine wpAny_bind ?_
 simp only [newExc,newTuple]
 refine wpAny_bind (wpAny_newObj_type ?_ (by size_fits))
 refine wpAny_bind (m:=firstArgMember _ _) (wpAny_of_eq (a:=Value.none) (by first | rfl | (simp only [firstArgMember];rfl)) ?_)
 refine wpAny_newObj_type ?_ (by size_fits)
 simp only [raiseNew]
 refine wpAny_bind (wpAny_handled ?_)
 first | rw [show A.in1.handled=none from hh] | rw [hh]
 refine wpAny_bind (wpAny_pure (wpAny_throw ?_))
 refine wpAny_bind (wpAny_isInstance (T:="StopIteration") (b:=true) ⟨_, Heap.get?_push_size _ rfl, rfl⟩ isSubtype_stop ?_)
 exact wpAny_pure (hQ _ fun c x hc e=>Heap.get?_push_of_some _ (Heap.get?_push_of_some _ ((Heap.SameBut.update ..).extBut c x hc ((Heap.SameBut.update ..).extBut c x hc e))))
theorem rQ {it l:Addr} {i:Int} {Q:Value->Shared->Prop} (hit:jb s.heap it l i) (h:Q (.ref it) s):wpAny (model prog w) A (pyIter (.ref it)) Q E s:=by
 refine wpAny_pyIter_slot hit.typeIs gF (wpAny_call_entry gF hit.typeIs kg ?_ (lN _))
 show wpAny _ _ (ret (.ref it)) _ _ s
 exact wpAny_pure ⟨_, rfl, "reversed", _, hit.typeIs, bA.lookup, h⟩
end
noncomputable def GN (K:W.Frag) (a:Addr) (n:Nat):It :=
 ⟨fun i H=>i<n/\∃ xs x,gr K H a xs/\xs.length=n/\xs[n-1-i]? = some x,fun i H x H'=>H'=H/\∀ xs,gr K H a xs->xs[n-1-i]? = some x,fun i H=>n<=i⟩
theorem zx {P:Program} {w:World} {K:W.Frag} {tg:Expr} {a it:Addr} {n:Nat} (hn62:(n:Int)<2 ^ 62):Turn P w K tg (GN K a n) [it] it (fun i h=>i<=n/\jb h it a ((n:Int)-1-(i:Int))) where
 mem:=by simp
 obj:=fun i h st b hb=>by
  have e:b=it:=by simpa using hb
  subst e
  obtain ⟨_,o,e,c,d⟩:=st
  exact ⟨o,e,fun v z=>by rw [d] at z;cases z⟩
 keep:=fun i h h' st k=>⟨st.1,st.2.at fun o e=>k it (by simp) o e⟩
 item:=by
  intro X hP hw hK hc i pins s σ H E I hf st hg
  subst hP hw hK
  obtain ⟨hi,xs,x,q1,hn,hx⟩:=hg
  obtain ⟨its,rv,pl,z⟩:=I.tuple q1
  obtain ⟨u,hu,ru⟩:=rv.get hx
  have e:(n:Int)-1-(i:Int)=((n-1-i:Nat):Int):=by omega
  obtain ⟨_,st⟩:=st
  rw [e] at st
  refine lM st (show s.heap.IsTuple a its.toArray from pl) (by omega) (x:=u) (by simpa using hu) fun h' hit b=>⟨u,rfl,?_⟩
  have e2:((n-1-i:Nat):Int)-1=(n:Int)-1-((i+1:Nat):Int):=by omega
  rw [e2] at hit
  obtain ⟨o,ho,hcl,hd⟩:=id hit
  have I1:Inv X pins σ H { s with heap:=h',toks:=s.toks+1 }:=qV (t':=s.toks+1) I (ch:=[it]) (fun c hc=>hf c hc) fun c o hc e=>b.extBut c o (by simpa using hc) e
  refine oz ho hcl hd (by decide) ⟨x,H,I1,ru,⟨rfl,fun ys q=>?_⟩,⟨by omega,hit⟩,fun c hc=>(hf c hc).1⟩
  rw [I.kr q q1];exact hx
 done:=by
  intro X hP hw hK hc i pins s σ H E I hf st hg
  subst hP hw hK
  obtain ⟨hi,st⟩:=st
  have hg':n<=i:=hg
  have e:(n:Int)-1-(i:Int)=-1:=by omega
  rw [e] at st
  exact nR (I.ok.hd hc) st fun h' b=>⟨rfl,qV (t':=s.toks) I (ch:=[it]) (fun c hc=>hf c hc) fun c o hc e=>b c o (by simpa using hc) e⟩
 self:=fun _ _ _ _ _ st h=>rQ st.2 h
end Fg
end
section
namespace Fg
open PySem PySem.Spec L2
noncomputable def GL (K:W.Frag) (a:Addr) (n:Nat):It :=
 ⟨fun i H=>i<n/\∃ xs x,eV K H a xs/\xs.length=n/\xs[n-1-i]? = some x,fun i H x H'=>H'=H/\∀ xs,eV K H a xs->xs[n-1-i]? = some x,fun i H=>n<=i⟩
theorem ve {P:Program} {w:World} {K:W.Frag} {tg:Expr} {a it:Addr} {n:Nat}:Turn P w K tg (GL K a n) [it] it (fun i h=>i<=n/\h.IsRevIter it a ((n:Int)-1-(i:Int))) where
 mem:=by simp
 obj:=fun i h st b hb=>by
  have e:b=it:=by simpa using hb
  subst e
  obtain ⟨_,o,e,c,d⟩:=st
  exact ⟨o,e,fun v z=>by rw [d] at z;cases z⟩
 keep:=fun i h h' st k=>⟨st.1,st.2.at fun o e=>k it (by simp) o e⟩
 item:=by
  intro X hP hw hK hc i pins s σ H E I hf st hg
  subst hP hw hK
  obtain ⟨hi,xs,x,q1,hn,hx⟩:=hg
  obtain ⟨its,rv,pl,z⟩:=I.list q1
  obtain ⟨u,hu,ru⟩:=rv.get hx
  have e:(n:Int)-1-(i:Int)=((n-1-i:Nat):Int):=by omega
  obtain ⟨_,st⟩:=st
  rw [e] at st
  refine wpAny_pyNext_rev_item st pl.isList (x:=u) (by simpa using hu) fun h' hit b=>⟨u,rfl,?_⟩
  have e2:((n-1-i:Nat):Int)-1=(n:Int)-1-((i+1:Nat):Int):=by omega
  rw [e2] at hit
  obtain ⟨o,ho,hcl,hd⟩:=id hit
  have I1:Inv X pins σ H { s with heap:=h' }:=qV (t':=s.toks) I (ch:=[it]) (fun c hc=>hf c hc) fun c o hc e=>b.extBut c o (by simpa using hc) e
  refine oz ho hcl hd (by decide) ⟨x,H,I1,ru,⟨rfl,fun ys q=>?_⟩,⟨by omega,hit⟩,fun c hc=>(hf c hc).1⟩
  rw [I.ou q q1];exact hx
 done:=by
  intro X hP hw hK hc i pins s σ H E I hf st hg
  subst hP hw hK
  obtain ⟨hi,st⟩:=st
  have hg':n<=i:=hg
  have e:(n:Int)-1-(i:Int)=-1:=by omega
  rw [e] at st
  exact wpAny_pyNext_rev_end (I.ok.hd hc) st fun h' b=>⟨rfl,qV (t':=s.toks) I (ch:=[it]) (fun c hc=>hf c hc) fun c o hc e=>b c o (by simpa using hc) e⟩
 self:=fun _ _ _ _ _ st h=>wpAny_pyIter_revIter st.2 h
noncomputable def Jt (K:W.Frag) (t:TA):TI:=fun σ H R=>t σ H fun vs H1=>∃ a,vs=[.ref a]/\((∃ xs,eV K H1 a xs/\R (GL K a xs.length) H1)\/∃ xs,gr K H1 a xs/\R (GN K a xs.length) H1)
theorem D7 {X:Cx} {tg a:Expr} {t:TA} {p pos:Pos} (hg:Gl X "reversed") (hm:X.mg "reversed" = none) (ha:PA X [a] t) (hs:starEach [a] X.env=[(false, eval a X.env)]) :
  PI X tg (.Call (.Name "reversed" p) [a] [] pos) (Jt X.K t):=by
 intro pins s σ H R I h
 refine PyProof.Rows.Call_ (ir I hg hm (show bootBuiltins ("reversed" : Str)=some (.type "reversed") by decide +kernel) (PyProof.Rows.callWith_type1 (aT (ha pos pins s σ H _ I h) fun us s1 ⟨vs, H1, I1, r1, q1⟩=>?_) (by rw [hs];rfl) (by rfl)))
 obtain ⟨c,e,q1⟩:=q1
 subst e
 obtain ⟨u,rfl,ru⟩:=vals1 r1
 cases ru
 rcases q1 with ⟨xs,q,q2⟩ | ⟨xs,q,q2⟩
 ·obtain ⟨its,rv,pl,z⟩:=I1.list q
  have l1:=rv.length
  refine call_reversed_list pl.isList ?_
  have I2:Inv X pins σ H1 { s1 with heap:=s1.heap.push (revObj c ((its.toArray.size:Int)-1)) }:=I1.kept (t':=s1.toks) fun c o e=>Heap.get?_push_of_some _ e
  have g0:(s1.heap.push (revObj c ((its.toArray.size:Int)-1))).IsRevIter s1.heap.objs.size c ((its.toArray.size:Int)-1):=⟨_,Heap.get?_push_size _ rfl,rfl,rfl⟩
  have g1:(s1.heap.push (revObj c ((its.toArray.size:Int)-1))).IsRevIter s1.heap.objs.size c ((xs.length:Int)-1-((0:Nat):Int)):=by
   have e:(xs.length:Int)-1-((0:Nat):Int)=(its.toArray.size:Int)-1:=by rw [List.size_toArray,l1];omega
   rw [e];exact g0
  refine wpAny_pyIter_revIter g0 ⟨_,[s1.heap.objs.size],_,_,H1,rfl,I2,ve,⟨Nat.zero_le _,g1⟩,fun x hx=>?_,q2⟩
  have e:x=s1.heap.objs.size:=by simpa using hx
  subst e
  exact I1.uF (Nat.le_refl _) (I1.hok.fresh (Nat.le_refl _))
 ·obtain ⟨its,rv,pl,z⟩:=I1.tuple q
  have l1:=rv.length
  have hz:(xs.length:Int)<2 ^ 62:=by
   have:sizeLine<2 ^ 62:=by decide
   have z':xs.length<=sizeLine:=by simpa using z
   omega
  have hfit:(its.toArray.size:Int)<2 ^ 63:=by rw [List.size_toArray,<- l1];omega
  refine BD (show s1.heap.IsTuple c its.toArray from pl) hfit ?_
  have I2:Inv X pins σ H1 { s1 with heap:=s1.heap.push (kG c ((its.toArray.size:Int)-1)),toks:=s1.toks+1+1 }:=I1.kept (t':=s1.toks+1+1) fun c o e=>Heap.get?_push_of_some _ e
  have g0:jb (s1.heap.push (kG c ((its.toArray.size:Int)-1))) s1.heap.objs.size c ((its.toArray.size:Int)-1):=⟨_,Heap.get?_push_size _ rfl,rfl,rfl⟩
  have g1:jb (s1.heap.push (kG c ((its.toArray.size:Int)-1))) s1.heap.objs.size c ((xs.length:Int)-1-((0:Nat):Int)):=by
   have e:(xs.length:Int)-1-((0:Nat):Int)=(its.toArray.size:Int)-1:=by rw [List.size_toArray,l1];omega
   rw [e];exact g0
  refine rQ (s:={ s1 with heap:=s1.heap.push (kG c ((its.toArray.size:Int)-1)),toks:=s1.toks+1+1 }) g0 ⟨_,[s1.heap.objs.size],_,_,H1,rfl,I2,zx hz,⟨Nat.zero_le _,g1⟩,fun x hx=>?_,q2⟩
  have e:x=s1.heap.objs.size:=by simpa using hx
  subst e
  exact I1.uF (Nat.le_refl _) (I1.hok.fresh (Nat.le_refl _))
section
variable {B:Bd} {Φ:bh} {E:Gx} {F F' F0 F1:Addr->Prop} {ρ ρ' ρ0 ρ1:List Addr} {H H' H0 H1:Hp} {M M' M0:MH} {σD:Sg} {σ:L2.St} {Q:VK} {Dn:Ends}
theorem FT {d:D} {ds:List D} (h:oA d=some ds):d=.lst ds\/d=.tup ds:=by
 cases d <;> first | (cases h;first | exact .inl rfl | exact .inr rfl) | cases h
theorem zN {a:Fg.E} {Rr:It->Hp->Prop} (h:GI B Φ E (.rev a) σ H Rr):Jt B.K (cF (T B Φ E a) g9) σ H Rr:=by
 obtain ⟨σD,M,F,ρ,S,r,h⟩:=h
 show T B Φ E a σ H fun v H1=>∃ c,[v]=[.ref c]/\((∃ xs,eV B.K H1 c xs/\Rr (GL B.K c xs.length) H1)\/∃ xs,gr B.K H1 c xs/\Rr (GN B.K c xs.length) H1)
 refine ⟨σD,M,F,ρ,S,r,?_⟩
 cases hx:ev Φ a σD M with
 | exc c M1 =>
  have he:eO Φ (.rev a) σD M=.exc c M1:=by simp only [eO,hx,R.jZ]
  rw [he] at h;exact h
 | bad =>
  have he:eO Φ (.rev a) σD M=.bad:=by simp only [eO,hx,R.j0]
  rw [he] at h;exact h
 | ok x M1 =>
  intro F1 ρ1 H1 v e1 S1 rx
  cases hfx:oA x with
  | none =>
   have he:eO Φ (.rev a) σD M=.bad:=by simp only [eO,hx,R.aa,hfx]
   rw [he] at h;exact h.elim
  | some ds =>
   have he:eO Φ (.rev a) σD M=.ok (.ao,ds.reverse,false) M1:=by simp only [eO,hx,R.aa,hfx]
   rw [he] at h
   rcases FT hfx with rfl | rfl
   ·simp only [RD] at rx
    obtain ⟨c,xs,rfl,z,q⟩:=rx
    have l1:=ai.length q
    refine ⟨c,rfl,.inl ⟨xs,z.sq,h F1 ρ1 H1 _ e1 S1 fun M' hM S'=>?_⟩⟩
    cases hM
    refine ⟨fun i F ρ M H ex S _=>⟨fun d0 hd=>?_,fun hl=>?_⟩,fun z=>by cases z⟩
    ·have zq:eV B.K H c xs:=by
      rcases z with ⟨f,z⟩ | z
      ·exact .inl (ex.toExt0.G4.rd f z)
      ·exact .inr z
     have hi:i<ds.length:=by
      have:=(List.getElem?_eq_some_iff.mp hd).1
      simpa using this
     rw [List.getElem?_reverse hi,l1] at hd
     obtain ⟨v,hv,rv⟩:=ai.get (ai.mono ex _ _ q) hd
     refine ⟨⟨by omega,xs,v,zq,rfl,hv⟩,fun x H' ⟨e',hy⟩=>?_⟩
     subst e'
     have z2:=hy xs zq
     rw [hv] at z2
     cases z2
     exact ⟨F,S.refl,S,rv⟩
    ·rw [List.length_reverse,l1] at hl
     exact hl
   ·simp only [RD] at rx
    obtain ⟨c,xs,rfl,z,q⟩:=rx
    have l1:=ai.length q
    refine ⟨c,rfl,.inr ⟨xs,z.sq,h F1 ρ1 H1 _ e1 S1 fun M' hM S'=>?_⟩⟩
    cases hM
    refine ⟨fun i F ρ M H ex S _=>⟨fun d0 hd=>?_,fun hl=>?_⟩,fun z=>by cases z⟩
    ·have zq:gr B.K H c xs:=by
      rcases z with ⟨f,z⟩ | z
      ·exact .inl (ex.toExt0.G4.rd f z)
      ·exact .inr z
     have hi:i<ds.length:=by
      have:=(List.getElem?_eq_some_iff.mp hd).1
      simpa using this
     rw [List.getElem?_reverse hi,l1] at hd
     obtain ⟨v,hv,rv⟩:=ai.get (ai.mono ex _ _ q) hd
     refine ⟨⟨by omega,xs,v,zq,rfl,hv⟩,fun x H' ⟨e',hy⟩=>?_⟩
     subst e'
     have z2:=hy xs zq
     rw [hv] at z2
     cases z2
     exact ⟨F,S.refl,S,rv⟩
    ·rw [List.length_reverse,l1] at hl
     exact hl
end
end Fg
end
section
namespace Fg
open PySem PySem.Spec L2
section
variable {B:Bd} {Φ:bh} {E:Gx} {F F' F1:Addr->Prop} {ρ ρ' ρ1:List Addr} {H H' H1:Hp} {M M':MH} {σD:Sg} {σ:St} {Q:VK}
end
section
variable {X:Cx} {t:TA} {te ts:TE} {e st:Expr} {pos p2:Pos}
end
end Fg
end
section
namespace Fg
open PySem PySem.Spec L2
section
variable {B:Bd} {Φ:bh} {E:Gx} {F F' F0 F1:Addr->Prop} {ρ ρ' ρ0 ρ1:List Addr} {H H' H0 H1:Hp} {M M' M0:MH} {σD:Sg} {σ:L2.St} {Q:VK} {Dn:Ends}
end
end Fg
end
section
namespace Fg
open PySem PySem.Spec L2
theorem J0:entryFor table "zip.__getattribute__" = some Builtin.«object.__getattribute__» :=
 entryFor_alias (id':="object.__getattribute__") (by kernel_rfl) (by first | rfl | decide +kernel) (by decide +kernel) (by kernel_rfl)
theorem Bw:typeLookup (.type "zip") "keys" = pure none:=by rw [typeLookup_type, builtinLookup_eq_fast];kernel_rfl
theorem Bx:typeLookup (.type "zip") "__getattr__" = pure none:=by rw [typeLookup_type, builtinLookup_eq_fast];kernel_rfl
theorem yk (a:Addr) (xs:Array Value) (u:Tok) :
  Meets (Builtin.«object.__getattribute__» ⟨[.ref a, .str "keys" u], []⟩) (fun A R s=>s.heap.get? a=some { cls:=.type "zip", dict:=none, data:=.fields xs, slots:=#[] }/\raisesAttr (.ref a) "keys" A R s) :=
 Meets.of_wp fun prog w A R s hs=>by
  obtain ⟨hp,g,d,tk,os⟩:=s
  obtain ⟨hx,hs⟩:=hs
  have hT:(⟨hp, g, d, tk, os⟩:Shared).TypeIs (.ref a) "zip":=⟨_, hx, rfl⟩
  have f0:=Bw
  unfold Builtin.«object.__getattribute__»
  repeat (any_goals (first | assumption | wp_step))
  exact wpAny_raiseAttrError hs.1 hs.2 (attrMsg_fits (by decide +kernel) (by decide +kernel))
theorem Bv {prog:Program} {w:World} {A:Around} {E:Value->Shared->Prop} {s:Shared} {a:Addr} {xs:Array Value} {Q:Option Value->Shared->Prop}
  (hx:s.heap.get? a=some { cls:=.type "zip", dict:=none, data:=.fields xs, slots:=#[] }) (hA:A.handled=none)
  (h:∀ h' tk,(∀ b o,s.heap.get? b=some o->h'.get? b=some o)->Q none { s with heap:=h',toks:=tk }) :
  wpAny (model prog w) A (getAttr? (.ref a) "keys") Q E s:=by
 obtain ⟨hp,g,d,tk,os⟩:=s
 have hT:∀ tk', (⟨hp, g, d, tk', os⟩:Shared).TypeIs (.ref a) "zip":=fun _=>⟨_, hx, rfl⟩
 have f1:=sub_AttributeError
 have f3:=F.slot_zip_getattribute.lookup
 have f4:=F.slot_zip_getattribute.bind (.ref a)
 have f5:=Bx
 unfold getAttr? getAttrBy? getAttrBy
 repeat (any_goals (first | assumption | exact hT _ | ((with_reducible show wpAny _ _ (call (Value.builtin "zip.__getattribute__") _ _) _ _ _);refine call_meets F.slot_zip_getattribute (hT _) J0 (F.args_zip_getattribute_2 _ _) (yk a xs _) ⟨hx, hA, fun h' tk' e hx'=>?_⟩) | wp_step))
 obtain ⟨t',u',he⟩:=hx'.there
 show wpAny _ _ (getattributeRaised _ _ _ _ _ _ _) _ _ _
 unfold getattributeRaised
 repeat (any_goals (first | assumption | wp_step))
 all_goals exact h _ _ hx'.keeps
end Fg
end
section
namespace Fg
open PySem PySem.Spec L2
noncomputable def BQ (h:Heap) (z TI TO i j:Addr):Prop:=∃ (T:Addr) (b:Bool) (o:Obj), h.get? T=some o/\(T≠z/\T≠i/\T≠j)/\h.get? z=some { cls:=.type "zip", dict:=none, data:=.fields #[rawInt T, .bool b, .bool false, .ref TI, .ref TO], slots:=#[] }
structure Zu (l m:Bool) (h:Heap) (z TI TO i j a b:Addr) (n:Nat) (xs ys:Array Value):Prop where
 z:BQ h z TI TO i j
 ti:IsPair h TI (.ref i) (.ref j)
 i1:fQ l h i a n
 i2:fQ m h j b n
 s1:dB l h a xs
 s2:dB m h b ys
section
variable {prog:Program} {w:World} {A:Around} {E:Value->Shared->Prop} {s:Shared}
theorem qR {z TI TO i j:Addr} {Q:Bool->Shared->Prop} (Z:BQ s.heap z TI TO i j)
  (k:∀ h',BQ h' z TI TO i j->Heap.SameBut z s.heap h'->Q false { s with heap:=h' }):wpAny (model prog w) A (Builtin.SmallTypes.ownedTupleIsFree (.ref z)) Q E s:=by
 obtain ⟨T,b,o,gT,ne,gz⟩:=id Z
 unfold Builtin.SmallTypes.ownedTupleIsFree
 refine wpAny_bind (wpAny_field gz rfl (x:=rawInt T) rfl ?_)
 show wpAny _ _ (loadIfAlive ((T:Int).toNat) >>= _) _ _ _
 rw [Int.toNat_natCast]
 refine wpAny_bind (PySem.W.kdx_alive gT ?_)
 simp only [Option.isNone_some,Bool.false_eq_true,if_false]
 refine wpAny_bind (wpAny_field gz rfl (x:=.bool b) rfl ?_)
 cases b with
 | true =>
  rw [if_neg (show ¬ ((Value.bool true != Value.bool true)=true) from Bool.false_ne_true)]
  exact wpAny_pure (k s.heap Z (Heap.SameBut.refl _ _))
 | false =>
  rw [if_pos (show (Value.bool false != Value.bool true)=true from rfl)]
  refine wpAny_bind (wpAny_setField_rec gz (by simp) fun h1 z1 b1=>wpAny_pure (k h1 ⟨T,true,o,b1.extBut _ _ ne.1 gT,ne,z1⟩ b1))
theorem zj {l m:Bool} {z TI TO i j a b:Addr} {n:Nat} {xs ys:Array Value} {x y:Value} {Q:Value->Shared->Prop} (D:ZipApart z TI TO i j a b) (Z:Zu l m s.heap z TI TO i j a b n xs ys) (hx:xs[n]? = some x) (hy:ys[n]? = some y)
  (k:∀ h',Zu l m h' z TI TO i j a b (n+1) xs ys->IsPair h' s.heap.objs.size x y->h'.objs.size=s.heap.objs.size+1->(∀ c o,c≠z->c≠TO->c≠i->c≠j->s.heap.get? c=some o->h'.get? c=some o)->Q (.ref s.heap.objs.size) { s with heap:=h' }) :
  wpAny (model prog w) A (Builtin.«zip.__next__» ⟨[.ref z], []⟩) (fun fin s'=>∃ v, fin=.done (.ret v)/\Q v s') E s:=by
 obtain ⟨gz,gi,t1,t2,q1,q2⟩:=Z
 obtain ⟨T,b0,o,gT,ne,Jz⟩:=id gz
 show wpAny _ _ (field (.ref z) 2 >>= _) _ _ _;refine wpAny_bind (wpAny_field Jz rfl (x:=.bool false) rfl ?_)
 show wpAny _ _ (field (.ref z) 3 >>= _) _ _ _;refine wpAny_bind (wpAny_field Jz rfl (x:=.ref TI) rfl (wpAny_bind (wpAny_seqItems gi rfl ?_)))
 show wpAny _ _ (Builtin.SmallTypes.ownedTupleIsFree (.ref z) >>= _) _ _ _
 refine wpAny_bind (qR gz fun h1 z1 b1=>?_)
 simp only [Bool.false_eq_true,if_false]
 refine wpAny_bind ?_
 rw [<- Array.forIn_toList]
 simp only [List.forIn_cons,List.forIn_nil]
 refine wpAny_bind (wpAny_bind (wpAny_holding ?_))
 show wpAny _ _ (Builtin.SmallTypes.nextOf (.ref i) >>= _) _ _ _
 refine wpAny_bind (fF (t1.at fun o e=>b1.extBut _ _ D.i1z e) (q1.at fun o e=>b1.extBut _ _ D.l1z e) hx fun h2 t1' b2=>wpAny_pure (wpAny_pure ?_))
 refine wpAny_bind (wpAny_bind (wpAny_holding ?_))
 show wpAny _ _ (Builtin.SmallTypes.nextOf (.ref j) >>= _) _ _ _
 refine wpAny_bind (fF (t2.at fun o e=>b2.extBut _ _ D.i12.symm (b1.extBut _ _ D.i2z e)) (q2.at fun o e=>b2.extBut _ _ D.l2i1 (b1.extBut _ _ D.l2z e)) hy fun h3 t2' b3=>wpAny_pure (wpAny_pure (wpAny_pure ?_)))
 show wpAny _ _ (newTuple [x,y] >>= _) _ _ _
 refine wpAny_bind (wpAny_newTuple (wpAny_pure ⟨_,rfl,?_⟩))
 have sz:h3.objs.size=s.heap.objs.size:=by rw [b3.1,b2.1,b1.1]
 have k3:∀ c o,c≠z->c≠TO->c≠i->c≠j->s.heap.get? c=some o->h3.get? c=some o:=fun c o c1 c2 c3 c4 e=>b3.extBut _ _ c4 (b2.extBut _ _ c3 (b1.extBut _ _ c1 e))
 have up:∀ c o, h3.get? c=some o->(h3.push { cls:=.type "tuple", data:=.seq #[x, y] }).get? c=some o:=fun c o e=>Heap.get?_push_of_some _ e
 obtain ⟨T1,bb,o1,g1,ne1,gz1⟩:=id z1
 have z3:BQ (h3.push { cls:=.type "tuple", data:=.seq #[x, y] }) z TI TO i j:=⟨T1, bb, o1, up _ _ (b3.extBut _ _ ne1.2.2 (b2.extBut _ _ ne1.2.1 g1)), ne1, up _ _ (b3.extBut _ _ D.i2z.symm (b2.extBut _ _ D.i1z.symm gz1))⟩
 have p3:IsPair (h3.push { cls:=.type "tuple", data:=.seq #[x, y] }) h3.objs.size x y:=Heap.get?_push_size _ rfl
 show Q (.ref h3.objs.size) _
 rw [sz] at p3 ⊢
 exact k _ ⟨z3,up _ _ (k3 _ _ D.TIz D.TITO D.TIi1 D.TIi2 gi),t1'.at fun o e=>up _ _ (b3.extBut _ _ D.i12 e),t2'.at fun o e=>up _ _ e,q1.at fun o e=>up _ _ (k3 _ _ D.l1z D.l1TO D.l1i1 D.l1i2 e),q2.at fun o e=>up _ _ (k3 _ _ D.l2z D.l2TO D.l2i1 D.l2i2 e)⟩ p3 (by rw [Heap.size_push,sz]) fun c o c1 c2 c3 c4 e=>up _ _ (k3 c o c1 c2 c3 c4 e)
theorem zh {l m:Bool} {z TI TO i j a b:Addr} {n:Nat} {xs ys:Array Value} {Q:PySem.Fin->Shared->Prop} (hh:A.handled=none) (D:ZipApart z TI TO i j a b) (Z:Zu l m s.heap z TI TO i j a b n xs ys) (hn:xs[n]? = none\/ys[n]? = none)
  (k:∀ h' e, (∀ c o, c≠z->c≠TO->c≠i->c≠j->s.heap.get? c=some o->h'.get? c=some o)->(∃ o, h'.get? e=some o/\o.cls=.type "StopIteration")->E (.ref e) { s with heap:=h' }) :
  wpAny (model prog w) A (Builtin.«zip.__next__» ⟨[.ref z], []⟩) Q E s:=by
 obtain ⟨gz,gi,t1,t2,q1,q2⟩:=Z
 obtain ⟨T,b0,o,gT,ne,Jz⟩:=id gz
 show wpAny _ _ (field (.ref z) 2 >>= _) _ _ _;refine wpAny_bind (wpAny_field Jz rfl (x:=.bool false) rfl ?_)
 show wpAny _ _ (field (.ref z) 3 >>= _) _ _ _;refine wpAny_bind (wpAny_field Jz rfl (x:=.ref TI) rfl (wpAny_bind (wpAny_seqItems gi rfl ?_)))
 show wpAny _ _ (Builtin.SmallTypes.ownedTupleIsFree (.ref z) >>= _) _ _ _
 refine wpAny_bind (qR gz fun h1 z1 b1=>?_)
 simp only [Bool.false_eq_true,if_false]
 refine wpAny_bind ?_
 rw [<- Array.forIn_toList]
 simp only [List.forIn_cons,List.forIn_nil]
 refine wpAny_bind (wpAny_bind (wpAny_holding ?_))
 show wpAny _ _ (Builtin.SmallTypes.nextOf (.ref i) >>= _) _ _ _
 cases hx:xs[n]? with
 | none =>
  refine wpAny_bind (jg hh (t1.at fun o e=>b1.extBut _ _ D.i1z e) (q1.at fun o e=>b1.extBut _ _ D.l1z e) hx fun h2 e b2 he=>?_)
  exact k h2 e (fun c o c1 _ c3 _ q=>b2 _ _ c3 (b1.extBut _ _ c1 q)) he
 | some x =>
  have hy:ys[n]? = none:=hn.resolve_left (by rw [hx];simp)
  refine wpAny_bind (fF (t1.at fun o e=>b1.extBut _ _ D.i1z e) (q1.at fun o e=>b1.extBut _ _ D.l1z e) hx fun h2 t1' b2=>wpAny_pure (wpAny_pure ?_))
  refine wpAny_bind (wpAny_bind (wpAny_holding ?_))
  show wpAny _ _ (Builtin.SmallTypes.nextOf (.ref j) >>= _) _ _ _
  refine wpAny_bind (jg hh (t2.at fun o e=>b2.extBut _ _ D.i12.symm (b1.extBut _ _ D.i2z e)) (q2.at fun o e=>b2.extBut _ _ D.l2i1 (b1.extBut _ _ D.l2z e)) hy fun h3 e b3 he=>?_)
  exact k h3 e (fun c o c1 _ c3 c4 q=>b3 _ _ c4 (b2.extBut _ _ c3 (b1.extBut _ _ c1 q))) he
end
end Fg
end
section
namespace Fg
open PySem PySem.Spec L2
theorem fY:entryFor table "dict.update.loop" = some Builtin.«dict.update.loop»:=by first | exact entryFor_of_fast (by kernel_rfl) | exact entryFor_of_tree (by kernel_rfl)
theorem fX:plainId "dict.update.loop" = true:=by decide +kernel
noncomputable def ZS (l m:Bool) (h:Heap) (z TI TO i j a b:Addr) (n:Nat) (xs ys:Array Value):Prop:=Zp l m h z TI TO i j a b n xs ys .none\/Zu l m h z TI TO i j a b n xs ys
section
variable {prog:Program} {w:World} {A:Around} {E:Value->Shared->Prop} {s:Shared}
theorem ZS.push {l m:Bool} {h:Heap} {z TI TO i j a b:Addr} {n:Nat} {xs ys:Array Value} (Z:ZS l m h z TI TO i j a b n xs ys) {h':Heap} (k:∀ c o,c≠z\/True->h.get? c=some o->h'.get? c=some o):ZS l m h' z TI TO i j a b n xs ys:=by
 have k':∀ c o,h.get? c=some o->h'.get? c=some o:=fun c o e=>k c o (.inr trivial) e
 rcases Z with ⟨h1,h2,⟨u,v,h3⟩,h4,h5,h6,h7⟩ | ⟨⟨T,bb,o,g1,g2,g3⟩,h2,h4,h5,h6,h7⟩
 ·exact .inl ⟨k' _ _ h1,k' _ _ h2,⟨u,v,k' _ _ h3⟩,h4.at fun o e=>k' _ _ e,h5.at fun o e=>k' _ _ e,h6.at fun o e=>k' _ _ e,h7.at fun o e=>k' _ _ e⟩
 ·exact .inr ⟨⟨T,bb,o,k' _ _ g1,g2,k' _ _ g3⟩,k' _ _ h2,h4.at fun o e=>k' _ _ e,h5.at fun o e=>k' _ _ e,h6.at fun o e=>k' _ _ e,h7.at fun o e=>k' _ _ e⟩
theorem zk {l m:Bool} {z TI TO i j a b:Addr} {n:Nat} {xs ys:Array Value} {x y:Value} {Q:Option Value->Shared->Prop} (D:ZipApart z TI TO i j a b) (Z:ZS l m s.heap z TI TO i j a b n xs ys) (hx:xs[n]? = some x) (hy:ys[n]? = some y)
  (k:∀ h',ZS l m h' z TI TO i j a b (n+1) xs ys->IsPair h' s.heap.objs.size x y->(∀ c o,c≠z->c≠TO->c≠i->c≠j->s.heap.get? c=some o->h'.get? c=some o)->Q (some (.ref s.heap.objs.size)) { s with heap:=h' }) :
  wpAny (model prog w) A (pyNext (.ref z)) Q E s:=by
 rcases Z with Z | Z
 ·have lt:∀ {c:Addr} {o:Obj},s.heap.get? c=some o->c≠s.heap.objs.size:=fun e=>Nat.ne_of_lt (Heap.lt_size e)
  have li:∀ {l:Bool} {c d:Addr} {q:Nat},fQ l s.heap c d q->c≠s.heap.objs.size:=fun {l c d q} e=>by
   cases l <;> (obtain ⟨o,e,_⟩:=e;exact lt e)
  refine u0 D ⟨Z.z,Z.ti,Z.to,Z.i1,Z.i2⟩ Z.s1 Z.s2 hx hy fun h' Z' p _ kp=>k h' (.inr ⟨⟨s.heap.objs.size,false,_,p,⟨(lt Z.z).symm,(li Z.i1).symm,(li Z.i2).symm⟩,Z'.z⟩,Z'.ti,Z'.i1,Z'.i2,Z'.s1,Z'.s2⟩) p kp
 ·obtain ⟨T,bb,o,g1,g2,g3⟩:=id Z.z
  have ty:s.TypeIs (.ref z) "zip":=⟨_, g3, rfl⟩
  unfold pyNext;exact wpAny_bind (wpAny_attempt (wpAny_callSpecial?_slot (name:=Str.ofString "__next__") ty F.slot_zip_next (wpAny_call_entry F.slot_zip_next ty F.entry_zip_next (zj D Z hx hy fun h' c1 c2 c3 c4=>wpAny_pure (k h' (.inr c1) c2 c4)) (F.args_zip_next_1 _))))
theorem zm {l m:Bool} {z TI TO i j a b:Addr} {n:Nat} {xs ys:Array Value} {Q:Option Value->Shared->Prop} (hh:A.handled=none) (D:ZipApart z TI TO i j a b) (Z:ZS l m s.heap z TI TO i j a b n xs ys) (hn:xs[n]? = none\/ys[n]? = none)
  (k:∀ h',(∀ c o,c≠z->c≠TO->c≠i->c≠j->s.heap.get? c=some o->h'.get? c=some o)->Q none { s with heap:=h' }):wpAny (model prog w) A (pyNext (.ref z)) Q E s:=by
 rcases Z with Z | Z
 ·exact u6 hh D ⟨Z.z,Z.ti,Z.to,Z.i1,Z.i2⟩ Z.s1 Z.s2 hn k
 ·obtain ⟨T,bb,o,g1,g2,g3⟩:=id Z.z
  have ty:s.TypeIs (.ref z) "zip":=⟨_, g3, rfl⟩
  unfold pyNext;refine wpAny_bind (wpAny_attempt (wpAny_callSpecial?_slot (name:=Str.ofString "__next__") ty F.slot_zip_next (wpAny_call_entry F.slot_zip_next ty F.entry_zip_next (zh hh D Z hn fun h' e hk he=>?_) (F.args_zip_next_1 _))))
  obtain ⟨o,ho,hc⟩:=he
  exact wpAny_bind (wpAny_isInstance (T:="StopIteration") (b:=true) ⟨o, ho, hc⟩ isSubtype_stop (wpAny_pure (k _ hk)))
variable {K:Type} [DecidableEq K] {knd:KeyKind prog w K}
structure C8 (D z TI TO i j a b:Addr):Prop where
 z:D≠z
 ti:D≠TI
 to:D≠TO
 i:D≠i
 j:D≠j
 a:D≠a
 b:D≠b
theorem sX {l m:Bool} {D z TI TO i j a b:Addr} {xs ys:Array Value} (Ap:ZipApart z TI TO i j a b) (O:C8 D z TI TO i j a b) (hh:A.handled=none) {R:Result->Shared->Prop}:∀ (ps:List (K×Value)) (n:Nat) (s:Shared) (vs:List (K×Value)),
  ZS l m s.heap z TI TO i j a b n xs ys->s.heap.DictOf knd D vs->vs.length+ps.length<=100000->(∀ (q:Nat) p,ps[q]? = some p->∃ x,xs[n+q]? = some x/\knd.is p.1 x=true/\ys[n+q]? = some p.2)->(xs[n+ps.length]? = none\/ys[n+ps.length]? = none) ->
  (∀ h' tk,h'.DictOf knd D (ps.foldl (fun v p=>stored v p.1 p.2) vs)->(∀ c o,c≠z->c≠TO->c≠i->c≠j->c≠D->s.heap.get? c=some o->h'.get? c=some o)->R (.ok (.ret .none)) { s with heap:=h',toks:=tk }) ->
  codeAny (model prog w) A (.builtin "dict.update.loop" ⟨[.ref D, .ref z, rawInt (n:Int), .none], []⟩) R s
 | [],n,s,vs,Z,hd,hl,hp,he,hR=>by
  refine codeAny_builtin fY ?_
  rw [Around.under_plainId fX _]
  show wpAny _ A.in1 (pyNext (.ref z) >>= _) _ _ s
  refine wpAny_bind (zm hh Ap Z (by simpa using he) fun h' kp=>?_)
  refine wpAny_bind (wpAny_pure ?_)
  refine wpAny_pure ?_
  obtain ⟨o,es,ep,ho,r⟩:=hd
  exact hR h' s.toks ⟨o,es,ep,kp _ _ O.z O.to O.i O.j ho,r⟩ fun c o c1 c2 c3 c4 _ e=>kp c o c1 c2 c3 c4 e
 | p::ps,n,s,vs,Z,hd,hl,hp,he,hR=>by
  obtain ⟨x,hx,hk,hy⟩:=hp 0 p rfl
  simp only [List.length_cons] at hl
  refine codeAny_builtin fY ?_
  rw [Around.under_plainId fX _]
  show wpAny _ A.in1 (pyNext (.ref z) >>= _) _ _ s
  refine wpAny_bind (zk Ap Z hx hy fun h1 Z1 pr kp=>?_)
  have hd1:h1.DictOf knd D vs:=by
   obtain ⟨o,es,ep,ho,r⟩:=hd
   exact ⟨o,es,ep,kp _ _ O.z O.to O.i O.j ho,r⟩
  have hT:({ s with heap:=h1 }:Shared).TypeIs (.ref s.heap.objs.size) "tuple":=⟨_, pr, rfl⟩
  refine wpAny_bind (wpAny_holding (wpAny_bind (wpAny_tryCatch ?_)))
  unfold Builtin.Dict.pairItems
  refine wpAny_bind (wpAny_typeOf hT ?_)
  rw [if_pos (by decide +kernel)]
  refine wpAny_bind (wpAny_seqItems (s:={ s with heap:=h1 }) pr rfl (wpAny_pure ?_))
  show wpAny _ _ (holding [x,p.2] (dictSet D x p.2)) _ _ _
  refine wpAny_holding (wpAny_dictSet_pairs (s:={ s with heap:=h1 }) hk hd1 (fun h2 hd2 sb=>?_) (Nat.le_trans (by omega:vs.length<=100000) (by decide)))
  have lenS:(stored vs p.1 p.2).length<=vs.length+1:=by unfold stored;split <;> simp
  have Z2:ZS l m h2 z TI TO i j a b (n+1) xs ys:=by
   rcases Z1 with ⟨e1,e2,⟨u,v,e3⟩,e4,e5,e6,e7⟩ | ⟨⟨T,bb,o,g1,g2,g3⟩,e2,e4,e5,e6,e7⟩
   ·exact .inl ⟨sb.extBut _ _ O.z.symm e1,sb.extBut _ _ O.ti.symm e2,⟨u,v,sb.extBut _ _ O.to.symm e3⟩,e4.at fun o e=>sb.extBut _ _ O.i.symm e,e5.at fun o e=>sb.extBut _ _ O.j.symm e,e6.at fun o e=>sb.extBut _ _ O.a.symm e,e7.at fun o e=>sb.extBut _ _ O.b.symm e⟩
   ·refine .inr ⟨?_,sb.extBut _ _ O.ti.symm e2,e4.at fun o e=>sb.extBut _ _ O.i.symm e,e5.at fun o e=>sb.extBut _ _ O.j.symm e,e6.at fun o e=>sb.extBut _ _ O.a.symm e,e7.at fun o e=>sb.extBut _ _ O.b.symm e⟩
    by_cases hTD:T=D
    ·obtain ⟨o',_,_,ho',_⟩:=hd2
     exact ⟨T,bb,o',by rw [hTD];exact ho',g2,sb.extBut _ _ O.z.symm g3⟩
    ·exact ⟨T,bb,o,sb.extBut _ _ hTD g1,g2,sb.extBut _ _ O.z.symm g3⟩
  refine wpAny_pure ⟨Code.quiet_builtin _ (by decide +kernel),?_⟩
  have ih:=sX Ap O hh ps (n+1) { s with heap:=h2,toks:=s.toks+1 } (stored vs p.1 p.2) Z2 hd2 (by omega) (fun q p' hq=>by
   have:=hp (q+1) p' (by simpa using hq)
   rw [show n+(q+1)=n+1+q by omega] at this;exact this) (by rw [show n+1+ps.length=n+(p::ps).length by simp;omega];exact he) (fun h' tk hd' kp'=>hR h' tk hd' fun c o c1 c2 c3 c4 c5 e=>kp' c o c1 c2 c3 c4 c5 (sb.extBut _ _ c5 (kp c o c1 c2 c3 c4 e)))
  exact ih
end
end Fg
end
section
namespace Fg
open PySem PySem.Spec L2
section
variable {prog:Program} {w:World} {A:Around} {E:Value->Shared->Prop} {s:Shared} {K:Type} [DecidableEq K] {knd:KeyKind prog w K}
theorem BE {l m:Bool} {z TI TO i j a b:Addr} {xs ys:Array Value} {Q:Value->Shared->Prop} (hh:A.handled=none) (Ap:ZipApart z TI TO i j a b) (Z:Zp l m s.heap z TI TO i j a b 0 xs ys .none) (ps:List (K×Value)) (hl:ps.length<=100000)
  (hp:∀ (q:Nat) p,ps[q]? = some p->∃ x,xs[q]? = some x/\knd.is p.1 x=true/\ys[q]? = some p.2) (he:xs[ps.length]? = none\/ys[ps.length]? = none)
  (k:∀ h' tk,h'.DictOf knd s.heap.objs.size (ps.foldl (fun v p=>stored v p.1 p.2) [])->(∀ c o,c≠z->c≠TO->c≠i->c≠j->s.heap.get? c=some o->h'.get? c=some o)->Q (.ref s.heap.objs.size) { s with heap:=h',toks:=tk }) :
  wpAny (model prog w) A (call (.type "dict") [.ref z]) Q E s:=by
 refine callType_codes (Q₁:=fun obj s₁=>obj=.ref s.heap.objs.size/\s₁={ s with heap:=s.heap.push { cls:=.type "dict", data:=.dict #[] } }) F.kt_called_dict (F.kt_typeCall_dict_1 _) F.entry_dict_init (kt_code_dict_new _ ⟨rfl, rfl⟩) ?_
 rintro obj s₁ ⟨rfl,rfl⟩
 have hnew:(s.heap.push { cls:=.type "dict", data:=.dict #[] }).DictOf knd s.heap.objs.size []:=Heap.DictOf.new s.heap
 have lt:∀ {c:Addr} {o:Obj},s.heap.get? c=some o->s.heap.objs.size≠c:=fun e=>Nat.ne_of_gt (Heap.lt_size e)
 have li:∀ {l:Bool} {c d:Addr} {q:Nat},fQ l s.heap c d q->s.heap.objs.size≠c:=fun {l c d q} e=>by cases l <;> (obtain ⟨o,e,_⟩:=e;exact lt e)
 have ls:∀ {l:Bool} {c:Addr} {q:Array Value},dB l s.heap c q->s.heap.objs.size≠c:=fun {l c q} e=>Nat.ne_of_gt (vG e)
 obtain ⟨u,v,to⟩:=Z.to
 have O:C8 s.heap.objs.size z TI TO i j a b:=⟨lt Z.z,lt Z.ti,lt to,li Z.i1,li Z.i2,ls Z.s1,ls Z.s2⟩
 have Z1:ZS l m (s.heap.push { cls:=.type "dict", data:=.dict #[] }) z TI TO i j a b 0 xs ys:=ZS.push (.inl Z) fun c o _ e=>Heap.get?_push_of_some _ e
 have gz:(s.heap.push { cls:=.type "dict", data:=.dict #[] }).get? z=some { cls:=.type "zip", dict:=none, data:=.fields #[.none, .bool false, .bool false, .ref TI, .ref TO], slots:=#[] }:=Heap.get?_push_of_some _ Z.z
 have hT:({ s with heap:=s.heap.push { cls:=.type "dict", data:=.dict #[] } }:Shared).TypeIs (.ref z) "zip":=⟨_, gz, rfl⟩
 refine ⟨hnew.typeIs,F.args_dict_init_2 _ _,?_⟩
 unfold Builtin.«dict.__init__»
 refine wpAny_bind ?_
 unfold Builtin.Dict.selfAndRest
 refine wpAny_bind (wpAny_notOrdered_dict hnew.typeIs ?_)
 show wpAny _ _ (pure (s.heap.objs.size,[Value.ref z])) _ _ _
 refine wpAny_pure ?_
 show wpAny _ _ (Builtin.Dict.updateFrom "dict.__init__" s.heap.objs.size (.ref z) [] .none) _ _ _
 unfold Builtin.Dict.updateFrom
 refine wpAny_bind (wpAny_typeOf hT ?_)
 rw [if_pos (by decide +kernel)]
 refine wpAny_bind (Bv (s:={ s with heap:=s.heap.push { cls:=.type "dict", data:=.dict #[] } }) gz hh fun h1 t1 K2=>?_)
 rw [if_pos (show Option.isNone (none:Option Value)=true from rfl)]
 refine wpAny_bind (wpAny_rule ?_)
 have gz1:IsZip h1 z TI TO .none:=K2 _ _ gz
 refine wpAny_bind (wpAny_pyIter_zip (s:={ s with heap:=h1,toks:=t1 }) gz1 ?_)
 refine wpAny_pure ⟨Code.quiet_builtin _ (by decide +kernel),?_⟩
 have hd1:h1.DictOf knd s.heap.objs.size []:=by
  obtain ⟨o,es,ep,ho,r⟩:=hnew
  exact ⟨o,es,ep,K2 _ _ ho,r⟩
 exact sX (A:=A.in1) (R:=wants (fun r s₂=>r=Value.none/\Q (.ref s.heap.objs.size) s₂) E) (knd:=knd) Ap O hh ps 0 { s with heap:=h1,toks:=t1 } [] (Z1.push fun c o _ e=>K2 _ _ e) hd1 (by simpa using hl) (fun q p hq=>by rw [Nat.zero_add];exact hp q p hq) (by rw [Nat.zero_add];exact he) fun h' tk hd' kp'=>⟨rfl,k h' tk hd' fun c o c1 c2 c3 c4 e=>kp' c o c1 c2 c3 c4 (Ne.symm (lt e)) (K2 _ _ (Heap.get?_push_of_some _ e))⟩
end
noncomputable def tDz (K:W.Frag) (t:TA):TE:=fun σ H Q=>t σ H fun vs H1=>∃ (l m:Bool) (c d:Addr) (xs ys:List V) (ps:List (Key×V)),vs=[.ref c,.ref d]/\Kq l K H1 c xs/\Kq m K H1 d ys/\ps.length<=1000 /\
 (∀ (q:Nat) p,ps[q]? = some p->xs[q]? = some (kV p.1)/\ys[q]? = some p.2)/\(xs[ps.length]? = none\/ys[ps.length]? = none)/\∀ p,H1 p=none->Q (.ref p) (upd H1 p (.dK (cL [] ps)))
theorem oR:∀ (ps:List (Key×V)) {xs ys:List V} {its Jl:List Value},Vals xs its->Vals ys Jl->(∀ (q:Nat) p,ps[q]? = some p->xs[q]? = some (kV p.1)/\ys[q]? = some p.2) ->
  ∃ ps':List (Key×Value),KV ps ps'/\∀ (q:Nat) p,ps'[q]? = some p->∃ x,its[q]? = some x/\RelV (kV p.1) x/\Jl[q]? = some p.2
 | [],_,_,_,_,_,_,_=>⟨[],.nil,fun q p h=>by simp at h⟩
 | p::ps,xs,ys,its,Jl,r1,r2,h=>by
  obtain ⟨h1,h2⟩:=h 0 p rfl
  cases r1 with
  | nil=>simp at h1
  | @cons x u xs its rx r1 =>
   cases r2 with
   | nil=>simp at h2
   | @cons y w ys Jl ry r2 =>
    obtain ⟨ps',k,f⟩:=oR ps r1 r2 fun q p' hq=>by simpa using h (q+1) p' (by simpa using hq)
    have e1:x=kV p.1:=by simpa using h1
    have e2:y=p.2:=by simpa using h2
    subst e1 e2
    refine ⟨(p.1,w)::ps',.cons ⟨rfl,ry⟩ k,fun q p' hq=>?_⟩
    cases q with
    | zero=>cases hq;exact ⟨u,rfl,rx,rfl⟩
    | succ q=>simpa using f q p' (by simpa using hq)
section
variable {X:Cx} {t:TA}
theorem IG {a b:Expr} {p1 p2 q1 q2:Pos} (hc:X.calm=true) (hgd:Gl X "dict") (hmd:X.mg "dict" = none) (hgz:Gl X "zip") (hmz:X.mg "zip" = none) (ha:PA X [a, b] t) (hs:starEach [a, b] X.env=[(false, eval a X.env), (false, eval b X.env)]) (hs2:starEach [b] X.env=[(false, eval b X.env)]) :
  PE X (.Call (.Name "dict" p1) [.Call (.Name "zip" p2) [a, b] [] q2] [] q1) (tDz X.K t):=by
 intro pins s σ H Q I h
 refine wpAny_Call_Name_kw (ir I hgd hmd (show bootBuiltins ("dict" : Str)=some (.type "dict") by decide +kernel) ?_ (by decide) (by decide))
 refine PyProof.Rows.callWith_type1 ?_ rfl rfl
 show wpAny _ _ (spliced ((false, eval (.Call (.Name "zip" p2) [a, b] [] q2) X.env)::backTo q1 (starEach [] X.env))) _ _ s
 refine Calls.spliced_cons ?_
 refine wpAny_Call_Name_kw (ir I hgz hmz (show bootBuiltins ("zip" : Str)=some (.type "zip") by decide +kernel) (PyProof.Rows.callWith_type1 (aT (ha q2 pins s σ H _ I h) fun us s1 ⟨vs, H1, I1, r1, q1⟩=>?_) (by rw [hs, hs2]) (by rw [hs2];rfl)) (by decide) (by decide))
 obtain ⟨l,m,c,d,xs,ys,ps,e,s1',s2',hl,hp,he,q⟩:=q1
 subst e
 cases r1 with
 | cons r rr =>
  cases rr with
  | cons r' rr =>
   cases rr
   cases r
   cases r'
   obtain ⟨its,rv,p1⟩:=s1'.at I1
   obtain ⟨Jl,rw_,p2⟩:=s2'.at I1
   have c1:=vG p1
   have c2:=vG p2
   obtain ⟨ps',kv,f⟩:=oR ps rv rw_ hp
   have hlen:ps'.length=ps.length:=kv.length.symm
   refine u7 p1 p2 fun h' Z kp=>?_
   refine Calls.spliced_nil ?_
   have I2:Inv X pins σ H1 { s1 with heap:=h' }:=I1.kept (t':=s1.toks) kp
   have lv:=rv.length
   have lw:=rw_.length
   refine BE (s:={ s1 with heap:=h' }) (knd:=aG X.prog X.w) (I2.ok.hd hc) (yL c1 c2) ⟨Z.z,Z.ti,Z.to,Z.i1,Z.i2,p1.at fun o e=>kp _ _ e,p2.at fun o e=>kp _ _ e⟩ ps' (by omega) (fun q p hq=>?_) ?_ fun h2 tk hd kp2=>?_
   ·obtain ⟨x,g1,g2,g3⟩:=f q p hq
    exact ⟨x,by simpa using g1,kO g2,by simpa using g3⟩
   ·rw [hlen]
    rcases he with he | he
    ·left;rw [List.getElem?_eq_none_iff] at he;simp;omega
    ·right;rw [List.getElem?_eq_none_iff] at he;simp;omega
   ·have hz:(cL [] ps).length<=sizeLine:=Nat.le_trans (fU ps []) (Nat.le_trans (by simpa using hl:([]:List (Key×V)).length+ps.length<=1000) (by decide))
    have old:∀ c o,s1.heap.get? c=some o->h2.get? c=some o:=fun c o e=>by
     have lt:c<s1.heap.objs.size:=Heap.lt_size e
     have lt':∀ n:Nat,c≠s1.heap.objs.size+n:=fun n=>Nat.ne_of_lt (Nat.lt_of_lt_of_le lt (Nat.le_add_right _ n))
     exact kp2 c o (lt' _) (lt' _) (lt' 0) (lt' _) (kp _ _ e)
    have I3:Inv X pins σ (upd H1 h'.objs.size (.dK (cL [] ps))) { s1 with heap:=h2,toks:=tk }:=I1.laid (a:=h'.objs.size) (o:=.dK (cL [] ps)) (t':=tk) old (by
     have:s1.heap.objs.size+4<h'.objs.size:=Heap.lt_size Z.z
     omega) (qF hz (beq_eq_false_iff_ne.mpr (Ne.symm (Nat.ne_of_lt I2.big))) (KV.merge kv .nil) hd)
    exact ⟨.ref h'.objs.size,_,I3,rfl,q _ (I1.hok.fresh (by
     have:s1.heap.objs.size+4<h'.objs.size:=Heap.lt_size Z.z
     omega))⟩
end
section
variable {B:Bd} {Φ:bh} {E:Gx} {F F' F1:Addr->Prop} {ρ ρ' ρ1:List Addr} {H H' H1:Hp} {M M':MH} {σD:Sg} {σ:L2.St} {Q:VK}
theorem vF {d:D} {v:V} {ds:List D} (S:SR B F ρ M H) (r:RD B F ρ H d v) (h:yU M d=some ds):∃ l a vs,v=.ref a/\Kq l B.K H a vs/\ai B F ρ H ds vs:=by
 unfold yU at h
 split at h
 ·rename_i xs hv
  cases h
  obtain ⟨a,vs,e,q,rr⟩:=aW S r hv
  exact ⟨true,a,vs,e,q,rr⟩
 ·rename_i xs hv
  cases h
  obtain ⟨a,vs,e,q,rr⟩:=g8 S r hv
  exact ⟨false,a,vs,e,q,rr⟩
 ·cases h
theorem yj:∀ (ds es:List D) (xs ys:List V) (bY qg:List (Ky×D)) (kvs:List (Key×V)),uX bY ds es=some qg->ai B F ρ H ds xs->ai B F ρ H es ys->kvs.map (·.1)=bY.map (·.1)->ai B F ρ H (bY.map (·.2)) (kvs.map (·.2)) ->
  ∃ ps:List (Key×V),ps.length<=ds.length/\(∀ (q:Nat) p,ps[q]? = some p->xs[q]? = some (kV p.1)/\ys[q]? = some p.2)/\(xs[ps.length]? = none\/ys[ps.length]? = none)/\(cL kvs ps).map (·.1)=qg.map (·.1)/\ai B F ρ H (qg.map (·.2)) ((cL kvs ps).map (·.2))
 | [],es,xs,ys,bY,qg,kvs,h,r1,r2,e1,e2=>by
  simp only [ai] at r1
  subst r1
  simp only [uX] at h
  cases h
  exact ⟨[],Nat.le_refl _,fun q p hq=>by simp at hq,.inl rfl,e1,e2⟩
 | d::ds,[],xs,ys,bY,qg,kvs,h,r1,r2,e1,e2=>by
  simp only [ai] at r2
  subst r2
  simp only [uX] at h
  cases h
  exact ⟨[],Nat.zero_le _,fun q p hq=>by simp at hq,.inr rfl,e1,e2⟩
 | d::ds,e::es,xs,ys,bY,qg,kvs,h,r1,r2,e1,e2=>by
  simp only [ai] at r1 r2
  obtain ⟨x,xs',rfl,rx,r1⟩:=r1
  obtain ⟨y,ys',rfl,ry,r2⟩:=r2
  simp only [uX] at h
  cases hk:keyOf d with
  | none=>rw [hk] at h;cases h
  | some k =>
   rw [hk] at h
   obtain ⟨p1,p2⟩:=v8 (k:=k) ry e1 e2
   obtain ⟨ps,g1,g2,g3,g4,g5⟩:=yj ds es xs' ys' _ qg (putK kvs k y) h r1 r2 p1 p2
   refine ⟨(k,y)::ps,by simp;omega,fun q p hq=>?_,by simpa using g3,g4,g5⟩
   cases q with
   | zero=>cases hq;exact ⟨by simp [lZ hk rx],by simp⟩
   | succ q=>simpa using g2 q p (by simpa using hq)
theorem DB {a b:Fg.E} (h:T B Φ E (.dz a b) σ H Q):tDz B.K (cF (T B Φ E a) (cF (T B Φ E b) g9)) σ H Q:=by
 obtain ⟨σD,M,F,ρ,S,r,h⟩:=h
 simp only [ev] at h
 refine T.two S r rfl h fun x y M2 F2 ρ2 H2 v w S2 _ rx ry h2=>?_
 split at h2
 ·rename_i ds es hx hy
  split at h2
  ·rename_i hl
   split at h2
   ·rename_i bY hz
    obtain ⟨l,c,xs,rfl,q1,rr1⟩:=vF S2 rx hx
    obtain ⟨m,d,ys,rfl,q2,rr2⟩:=vF S2 ry hy
    obtain ⟨ps,g1,g2,g3,g4,g5⟩:=yj ds es xs ys [] bY [] hz rr1 rr2 rfl ai.nil
    have hl':ds.length<=1000:=of_decide_eq_true hl
    refine ⟨l,m,c,d,xs,ys,ps,rfl,q1,q2,by omega,g2,g3,fun p hp=>?_⟩
    have e0:Ext F2 ρ2 H2 F2 (ρ2++[p]) (upd H2 p (.dK (cL [] ps))):=⟨⟨S2.sep,fun _ q=>q,fun a q _=>aj (by rintro rfl;exact q hp),List.prefix_append _ _,fun a q=>by
     rcases List.mem_append.mp q with q | q
     ·exact .inl q
     ·rw [List.mem_singleton.mp q];exact .inr hp,fun _ q=>.inl q⟩,fun b w u q=>by rw [aj (by rintro rfl;rw [hp] at q;cases q)];exact q⟩
    obtain ⟨S',e⟩:=S2.lv (o:=.dK (cL [] ps)) (u:=.dct bY) hp ⟨_,ay,g4,ai.mono e0 _ _ g5⟩
    refine h2 _ _ _ _ e S' ?_
    simp only [RD]
    exact ⟨p,by rw [<- S2.len];simp,rfl⟩
   ·exact h2.elim
  ·exact h2.elim
 ·exact h2.elim
end
end Fg
end
section
namespace Fg
open PySem PySem.Spec L2
structure Gm where
 fns:List (Str×Nat×Nat)
 cst:List (Str×Nat)
 iG:List Str
 cls:List (Str×Nat×Nat×Nat):=[]
 yW:List ((Nat×Str)×Nat×Nat):=[]
 Bg:List Str:=[]
 exc:List (Str×Nat):=[]
 y9:List (Str×Nat×Nat×Int):=[]
 rz:Bool:=true
 o9:List (Str×Nat×Nat):=[]
 cm:Bool:=true
noncomputable def jN (G:Gm):Gm:={ G with fns:=G.o9,cls:=[],yW:=[],y9:=[],rz:=false,cm:=false }
inductive Nd where
 | e (a:Expr) (c:E)
 | t (a:Expr) (c:E)
 | es (a:List Expr) (c:Es)
 | o (a:Option Expr) (c:O)
 | i (a:Expr) (c:Src)
 | s (a:Stmt) (c:S)
 | ss (a:List Stmt) (c:Ss)
 | m (a:List Expr) (c:Es)
noncomputable def nD (x:Str):Bool:=!(x == ("__debug__" : Str))&&!(x == ("__classdict__" : Str))
noncomputable def Dc (sc:Scope) (x:Str):Bool:=match sc.names.lookup x with | some .local=>true | some .cell=>true | some .free=>true | _=>false
noncomputable def EU (sc:Scope) (x:Str):Bool:=match sc.names.lookup x with | some .local=>true | some .cell=>true | _=>false
noncomputable def dN (sc:Scope) (x:Str):Bool:=match sc.names.lookup x with | some .globalImplicit=>true | _=>false
noncomputable def aZ:Expr->Bool | .Starred _ _=>false | _=>true
noncomputable def kK:Expr->Bool | .ListComp _ _ _ _=>false | .SetComp _ _ _ _=>false | .DictComp _ _ _ _ _=>false | _=>true
noncomputable def wL:Expr->Bool | .Set _ _ _=>false | _=>true
noncomputable def nSl:Expr->Bool | .Slice _ _ _ _=>false | _=>true
noncomputable def p9:Expr->Bool | .UnaryOp _ _ _=>false | .BoolOp _ _ _=>false | .IfExp _ _ _ _=>false | .Compare _ _ _ _=>false | _=>true
noncomputable def ur:Expr->Bool | .Call (.Name _ _) _ _ _=>false | _=>true
noncomputable def Gu:Const->D->Bool
 | .int i,.int j=>decide (i=j)
 | .str x,.str y=>decide (x=y)
 | .bool a,.bl b=>decide (a=b)
 | .none,.ao=>true
 | _,_=>false
noncomputable def f1S:F1->Str
 | .abs=>"abs" | .int=>"int"
noncomputable def Ct:Mt->Option Str
 | .pop=>some "pop" | .reverse=>some "reverse" | _=>none
noncomputable def Kh:Bl->Option Str
 | .len=>some "len" | .dict=>some "dict" | _=>none
noncomputable def vV (scope sc:Scope):Scope :=
 { scope with names:=scope.names.map fun (n,k)=>if (k == .free&&sc.kind == .function&&sc.names.lookup n == some .cell) then (n,.cell) else (n,k) }
noncomputable def qf (sc:Scope) (x:Str):Bool:=match sc.names.lookup x with | some .local=>true | _=>false
theorem aH {P:Prop} (h:false=true):P:=Bool.noConfusion h
@[irreducible] noncomputable def dH (a:Expr) (k:Str->Bool):Bool:=match a with | .Name x _=>k x | _=>false
theorem bu {a:Expr} {k:Str->Bool} (h:dH a k=true):∃ x p,a=.Name x p/\k x=true:=by
 unfold dH at h
 cases a <;> first | exact ⟨_,_,rfl,h⟩ | exact aH h
@[irreducible] noncomputable def kNm (a:Expr) (k:Str->Pos->Bool):Bool:=match a with | .Name x p=>k x p | _=>false
theorem Jj {a:Expr} {k:Str->Pos->Bool} (h:kNm a k=true):∃ x p,a=.Name x p/\k x p=true:=by
 unfold kNm at h
 cases a <;> first | exact ⟨_,_,rfl,h⟩ | exact aH h
@[irreducible] noncomputable def FA (a:Expr) (k:Const->Bool):Bool:=match a with | .Constant c _ _=>k c | _=>false
theorem Fz {a:Expr} {k:Const->Bool} (h:FA a k=true):∃ c j p,a=.Constant c j p/\k c=true:=by
 unfold FA at h
 cases a <;> first | exact ⟨_,_,_,rfl,h⟩ | exact aH h
@[irreducible] noncomputable def w6 (a:Expr) (k:List Expr->Bool):Bool:=match a with | .Tuple as _ _=>k as | _=>false
theorem jK {a:Expr} {k:List Expr->Bool} (h:w6 a k=true):∃ as c p,a=.Tuple as c p/\k as=true:=by
 unfold w6 at h
 cases a <;> first | exact ⟨_,_,_,rfl,h⟩ | exact aH h
@[irreducible] noncomputable def Fo (a:Expr) (k:List Expr->Bool):Bool:=match a with | .List as _=>k as | _=>false
theorem Fl {a:Expr} {k:List Expr->Bool} (h:Fo a k=true):∃ as p,a=.List as p/\k as=true:=by
 unfold Fo at h
 cases a <;> first | exact ⟨_,_,rfl,h⟩ | exact aH h
@[irreducible] noncomputable def FE (a:Expr) (k:Expr->Operator->Expr->Bool):Bool:=match a with | .BinOp l p r _=>k l p r | _=>false
theorem FD {a:Expr} {k:Expr->Operator->Expr->Bool} (h:FE a k=true):∃ l o r p,a=.BinOp l o r p/\k l o r=true:=by
 unfold FE at h
 cases a <;> first | exact ⟨_,_,_,_,rfl,h⟩ | exact aH h
@[irreducible] noncomputable def qm:UnaryOp->Bool | .USub=>true | _=>false
@[irreducible] noncomputable def sC:UnaryOp->Bool | .Not=>true | _=>false
@[irreducible] noncomputable def Ji (a:Expr) (k:UnaryOp->Expr->Bool):Bool:=match a with | .UnaryOp o l _=>k o l | _=>false
theorem w5 {a:Expr} {k:UnaryOp->Expr->Bool} (h:Ji a k=true):∃ o l p,a=.UnaryOp o l p/\k o l=true:=by
 unfold Ji at h
 cases a <;> first | exact ⟨_,_,_,rfl,h⟩ | exact aH h
theorem xy {o:UnaryOp} (h:qm o=true):o=.USub:=by
 unfold qm at h
 cases o <;> first | rfl | exact aH h
theorem sA {o:UnaryOp} (h:sC o=true):o=.Not:=by
 unfold sC at h
 cases o <;> first | rfl | exact aH h
@[irreducible] noncomputable def iK:BoolOp->Bool | .And=>true | .Or=>false
theorem sD {o:BoolOp} (h:iK o=true):o=.And:=by
 unfold iK at h
 cases o <;> first | rfl | exact aH h
theorem xA {o:BoolOp} (h:iK o=false):o=.Or:=by
 unfold iK at h
 cases o <;> first | rfl | cases h
@[irreducible] noncomputable def GZ (a:Expr) (k:BoolOp->Expr->Expr->Bool):Bool:=match a with
 | .BoolOp o vs p=>(match vs with
  | v::ws=>(match ws with
   | w::r=>k o v (.BoolOp o (w::r) p)
   | []=>false)
  | []=>false)
 | _=>false
theorem sj {a:Expr} {k:BoolOp->Expr->Expr->Bool} (h:GZ a k=true):∃ o v w r p,a=.BoolOp o (v::w::r) p/\k o v (.BoolOp o (w::r) p)=true:=by
 unfold GZ at h
 cases a with
 | BoolOp o vs p =>
  cases vs with
  | nil=>exact aH h
  | cons v ws=>cases ws with
   | nil=>exact aH h
   | cons w r=>exact ⟨_,_,_,_,_,rfl,h⟩
 | _=>exact aH h
@[irreducible] noncomputable def sd (a:Expr) (k:Expr->Bool) (d:Bool):Bool:=match a with
 | .BoolOp _ vs _=>(match vs with
  | v::ws=>(match ws with
   | []=>k v
   | _::_=>d)
  | []=>d)
 | _=>d
theorem r9 {a:Expr} {k:Expr->Bool} {d:Bool} (h:sd a k d=true):(∃ o v p,a=.BoolOp o [v] p/\k v=true)\/d=true:=by
 unfold sd at h
 cases a with
 | BoolOp o vs p =>
  cases vs with
  | nil=>exact .inr h
  | cons v ws=>cases ws with
   | nil=>exact .inl ⟨_,_,_,rfl,h⟩
   | cons w r=>exact .inr h
 | _=>exact .inr h
@[irreducible] noncomputable def k1 {α:Type} (as:List α) (k:α->Bool):Bool:=match as with | l::r=>r.isEmpty&&k l | []=>false
theorem gg {α:Type} {as:List α} {k:α->Bool} (h:k1 as k=true):∃ l,as=[l]/\k l=true:=by
 unfold k1 at h
 cases as with
 | nil=>exact aH h
 | cons l r=>cases r with
  | nil=>exact ⟨_,rfl,h⟩
  | cons _ _=>exact aH h
@[irreducible] noncomputable def k2 {α:Type} (as:List α) (k:α->α->Bool):Bool:=match as with | l::r=>k1 r (k l) | []=>false
theorem uz {α:Type} {as:List α} {k:α->α->Bool} (h:k2 as k=true):∃ l r,as=[l,r]/\k l r=true:=by
 unfold k2 at h
 cases as with
 | nil=>exact aH h
 | cons l r =>
  replace h:=gg h
  obtain ⟨x,rfl,h⟩:=h
  exact ⟨_,_,rfl,h⟩
@[irreducible] noncomputable def k3 {α:Type} (as:List α) (k:α->α->α->Bool):Bool:=match as with | l::r=>k2 r (k l) | []=>false
@[irreducible] noncomputable def A1 (a:Expr) (k:Expr->CmpOp->Expr->Bool):Bool:=match a with | .Compare l ps rs _=>k1 ps fun p=>k1 rs fun r=>k l p r | _=>false
theorem xg {a:Expr} {k:Expr->CmpOp->Expr->Bool} (h:A1 a k=true):∃ l o r p,a=.Compare l [o] [r] p/\k l o r=true:=by
 unfold A1 at h
 cases a with
 | Compare l ps rs p =>
  replace h:=gg h
  obtain ⟨o,rfl,h⟩:=h
  replace h:=gg h
  obtain ⟨r,rfl,h⟩:=h
  exact ⟨_,_,_,_,rfl,h⟩
 | _=>exact aH h
@[irreducible] noncomputable def Fv (a:Expr) (k:Expr->Expr->Expr->Bool):Bool:=match a with | .IfExp u l r _=>k u l r | _=>false
theorem Ft {a:Expr} {k:Expr->Expr->Expr->Bool} (h:Fv a k=true):∃ u l r p,a=.IfExp u l r p/\k u l r=true:=by
 unfold Fv at h
 cases a <;> first | exact ⟨_,_,_,_,rfl,h⟩ | exact aH h
@[irreducible] noncomputable def w9 (a:Expr) (k:Expr->Expr->Bool):Bool:=match a with | .Subscript l r _=>k l r | _=>false
theorem qh {a:Expr} {k:Expr->Expr->Bool} (h:w9 a k=true):∃ l r p,a=.Subscript l r p/\k l r=true:=by
 unfold w9 at h
 cases a <;> first | exact ⟨_,_,_,rfl,h⟩ | exact aH h
@[irreducible] noncomputable def E7 (a:Expr) (k:Option Expr->Option Expr->Bool):Bool:=match a with | .Slice u v s _=>s.isNone&&k u v | _=>false
theorem E6 {a:Expr} {k:Option Expr->Option Expr->Bool} (h:E7 a k=true):∃ u v p,a=.Slice u v none p/\k u v=true:=by
 unfold E7 at h
 cases a with
 | Slice u v s p=>cases s with
  | none=>exact ⟨_,_,_,rfl,h⟩
  | some _=>exact aH h
 | _=>exact aH h
@[irreducible] noncomputable def A2 (a:Expr) (k:Expr->List Expr->Pos->Bool):Bool:=match a with | .Call f as kw p=>kw.isEmpty&&k f as p | _=>false
theorem xh {a:Expr} {k:Expr->List Expr->Pos->Bool} (h:A2 a k=true):∃ f as p,a=.Call f as [] p/\k f as p=true:=by
 unfold A2 at h
 cases a with
 | Call f as kw p=>cases kw with
  | nil=>exact ⟨_,_,_,rfl,h⟩
  | cons _ _=>exact aH h
 | _=>exact aH h
@[irreducible] noncomputable def qi (a:Expr) (k:Str->List Expr->Bool):Bool:=A2 a fun f as _=>dH f fun x=>k x as
theorem dI {a:Expr} {k:Str->List Expr->Bool} (h:qi a k=true):∃ x q as p,a=.Call (.Name x q) as [] p/\k x as=true:=by
 unfold qi at h
 replace h:=xh h
 obtain ⟨f,as,p,rfl,h⟩:=h
 replace h:=bu h
 obtain ⟨x,q,rfl,h⟩:=h
 exact ⟨_,_,_,_,rfl,h⟩
@[irreducible] noncomputable def xm (a:Expr) (k:Expr->Str->Pos->Bool):Bool:=match a with | .Attribute o y p=>k o y p | _=>false
theorem qj {a:Expr} {k:Expr->Str->Pos->Bool} (h:xm a k=true):∃ o y p,a=.Attribute o y p/\k o y p=true:=by
 unfold xm at h
 cases a <;> first | exact ⟨_,_,_,rfl,h⟩ | exact aH h
@[irreducible] noncomputable def Jk (a:Expr) (k:Expr->Str->Pos->List Expr->Pos->Bool):Bool:=A2 a fun f as p=>xm f fun o y q=>k o y q as p
theorem xj {a:Expr} {k:Expr->Str->Pos->List Expr->Pos->Bool} (h:Jk a k=true):∃ o y q as p,a=.Call (.Attribute o y q) as [] p/\k o y q as p=true:=by
 unfold Jk at h
 replace h:=xh h
 obtain ⟨f,as,p,rfl,h⟩:=h
 replace h:=qj h
 obtain ⟨o,y,q,rfl,h⟩:=h
 exact ⟨_,_,_,_,_,rfl,h⟩
@[irreducible] noncomputable def K3 (a:Expr) (k:Expr->Expr->Expr->List Expr->Scope->Pos->Bool):Bool:=match a with
 | .ListComp el gs scope p=>k1 gs fun g=>decide (g.is_async=0)&&k el g.target g.iter g.ifs scope p
 | _=>false
theorem CB {a:Expr} {k:Expr->Expr->Expr->List Expr->Scope->Pos->Bool} (h:K3 a k=true):∃ el tn it ifs sc p,a=.ListComp el [⟨tn,it,ifs,0⟩] sc p/\k el tn it ifs sc p=true:=by
 unfold K3 at h
 cases a with
 | ListComp el gs sc p =>
  replace h:=gg h
  obtain ⟨g,rfl,h⟩:=h
  obtain ⟨tn,it,ifs,j⟩:=g
  have h:=(Bool.and_eq_true _ _).mp h
  have e:j=0:=of_decide_eq_true h.1
  subst e
  exact ⟨_,_,_,_,_,_,rfl,h.2⟩
 | _=>exact aH h
@[irreducible] noncomputable def Fj (a:Expr) (d:Bool) (k:List Expr->Bool):Bool:=match a with
 | .Constant c _ _=>(match c with | .str _=>d | _=>false)
 | .JoinedStr vs _=>k vs
 | _=>false
theorem Fi {a:Expr} {d:Bool} {k:List Expr->Bool} (h:Fj a d k=true):(∃ x j p,a=.Constant (.str x) j p/\d=true)\/∃ vs p,a=.JoinedStr vs p/\k vs=true:=by
 unfold Fj at h
 cases a with
 | Constant c j p=>cases c with
  | str x=>exact .inl ⟨_,_,_,rfl,h⟩
  | _=>exact aH h
 | JoinedStr vs p=>exact .inr ⟨_,_,rfl,h⟩
 | _=>exact aH h
@[irreducible] noncomputable def Ff (a:Expr) (s:Str->Bool) (k:Expr->Int->Bool):Bool:=match a with
 | .Constant c _ _=>(match c with | .str y=>s y | _=>false)
 | .FormattedValue v j f _=>f.isNone&&k v j
 | _=>false
theorem Fe {a:Expr} {s:Str->Bool} {k:Expr->Int->Bool} (h:Ff a s k=true):(∃ y j p,a=.Constant (.str y) j p/\s y=true)\/∃ v j p,a=.FormattedValue v j none p/\k v j=true:=by
 unfold Ff at h
 cases a with
 | Constant c j p=>cases c with
  | str x=>exact .inl ⟨_,_,_,rfl,h⟩
  | _=>exact aH h
 | FormattedValue v j f p=>cases f with
  | none=>exact .inr ⟨_,_,_,rfl,h⟩
  | some _=>exact aH h
 | _=>exact aH h
@[irreducible] noncomputable def uy (a:Stmt) (k:Expr->Expr->Bool):Bool:=match a with | .Assign ts e _=>k1 ts fun t=>k t e | _=>false
theorem l6 {a:Stmt} {k:Expr->Expr->Bool} (h:uy a k=true):∃ t e p,a=.Assign [t] e p/\k t e=true:=by
 unfold uy at h
 cases a with
 | Assign ts e p =>
  replace h:=gg h
  obtain ⟨t,rfl,h⟩:=h
  exact ⟨_,_,_,rfl,h⟩
 | _=>exact aH h
@[irreducible] noncomputable def Fy (a:Stmt) (k:Expr->Bool):Bool:=match a with | .Expr e _=>k e | _=>false
theorem Fx {a:Stmt} {k:Expr->Bool} (h:Fy a k=true):∃ e p,a=.Expr e p/\k e=true:=by
 unfold Fy at h
 cases a <;> first | exact ⟨_,_,rfl,h⟩ | exact aH h
@[irreducible] noncomputable def E9 (a:Stmt) (d:Bool) (k:Expr->Bool):Bool:=match a with
 | .Return o _=>(match o with | some e=>k e | none=>d)
 | _=>false
theorem E8 {a:Stmt} {d:Bool} {k:Expr->Bool} (h:E9 a d k=true):(∃ p,a=.Return none p/\d=true)\/∃ e p,a=.Return (some e) p/\k e=true:=by
 unfold E9 at h
 cases a with
 | Return o p=>cases o with
  | none=>exact .inl ⟨_,rfl,h⟩
  | some e=>exact .inr ⟨_,_,rfl,h⟩
 | _=>exact aH h
@[irreducible] noncomputable def Fq (a:Stmt) (k:Expr->List Stmt->List Stmt->Bool):Bool:=match a with | .If t l r _=>k t l r | _=>false
theorem Fp {a:Stmt} {k:Expr->List Stmt->List Stmt->Bool} (h:Fq a k=true):∃ t l r p,a=.If t l r p/\k t l r=true:=by
 unfold Fq at h
 cases a <;> first | exact ⟨_,_,_,_,rfl,h⟩ | exact aH h
@[irreducible] noncomputable def kFor (a:Stmt) (k:Expr->Expr->List Stmt->Bool):Bool:=match a with | .For t i b e _=>e.isEmpty&&k t i b | _=>false
theorem Fw {a:Stmt} {k:Expr->Expr->List Stmt->Bool} (h:kFor a k=true):∃ t i b p,a=.For t i b [] p/\k t i b=true:=by
 unfold kFor at h
 cases a with
 | For t i b e p=>cases e with
  | nil=>exact ⟨_,_,_,_,rfl,h⟩
  | cons _ _=>exact aH h
 | _=>exact aH h
@[irreducible] noncomputable def kWh (a:Stmt) (k:Expr->List Stmt->Bool):Bool:=match a with | .While t b e _=>e.isEmpty&&k t b | _=>false
theorem Jh {a:Stmt} {k:Expr->List Stmt->Bool} (h:kWh a k=true):∃ t b p,a=.While t b [] p/\k t b=true:=by
 unfold kWh at h
 cases a with
 | While t b e p=>cases e with
  | nil=>exact ⟨_,_,_,rfl,h⟩
  | cons _ _=>exact aH h
 | _=>exact aH h
@[irreducible] noncomputable def Fc (a:Stmt) (k:Expr->Bool):Bool:=match a with
 | .Raise o c _=>c.isNone&&(match o with | some e=>k e | none=>false)
 | _=>false
theorem Fb {a:Stmt} {k:Expr->Bool} (h:Fc a k=true):∃ e p,a=.Raise (some e) none p/\k e=true:=by
 unfold Fc at h
 cases a with
 | Raise o c p=>cases c with
  | none=>cases o with
   | none=>exact aH h
   | some e=>exact ⟨_,_,rfl,h⟩
  | some _=>exact aH h
 | _=>exact aH h
@[irreducible] noncomputable def E5 (a:Stmt) (k:List Stmt->List ExceptHandler->Bool):Bool:=match a with
 | .Try bd hs e f _=>e.isEmpty&&(f.isEmpty&&(!hs.isEmpty&&k bd hs))
 | _=>false
theorem E4 {a:Stmt} {k:List Stmt->List ExceptHandler->Bool} (h:E5 a k=true):∃ bd h₀ hr p,a=.Try bd (h₀::hr) [] [] p/\k bd (h₀::hr)=true:=by
 unfold E5 at h
 cases a with
 | Try bd hs e f p=>cases e with
  | nil=>cases f with
   | nil=>cases hs with
    | nil=>exact aH h
    | cons _ _=>exact ⟨_,_,_,_,rfl,h⟩
   | cons _ _=>exact aH h
  | cons _ _=>exact aH h
 | _=>exact aH h
@[irreducible] noncomputable def K4 (a:ExceptHandler) (k:Expr->Option Str->Stmt->List Stmt->Bool):Bool:=match a with
 | .ExceptHandler t n b _=>(match t with | some t=>(match b with | s::r=>k t n s r | []=>false) | none=>false)
theorem CC {a:ExceptHandler} {k:Expr->Option Str->Stmt->List Stmt->Bool} (h:K4 a k=true):∃ t n s r p,a=.ExceptHandler (some t) n (s::r) p/\k t n s r=true:=by
 unfold K4 at h
 cases a with
 | ExceptHandler t n b p=>cases t with
  | none=>exact aH h
  | some t=>cases b with
   | nil=>exact aH h
   | cons s r=>exact ⟨_,_,_,_,_,rfl,h⟩
@[irreducible] noncomputable def kU:Es->Bool | .nil=>true | .cons _ _=>false
theorem gR {c:Es} (h:kU c=true):c=.nil:=by
 unfold kU at h
 cases c <;> first | rfl | exact aH h
@[irreducible] noncomputable def rq:Ss->Bool | .nil=>true | .cons _ _=>false
theorem rj {c:Ss} (h:rq c=true):c=.nil:=by
 unfold rq at h
 cases c <;> first | rfl | exact aH h
@[irreducible] noncomputable def xH:Hs->Bool | .nil=>true | _=>false
theorem A8 {c:Hs} (h:xH c=true):c=.nil:=by
 unfold xH at h
 cases c <;> first | rfl | exact aH h
@[irreducible] noncomputable def K5 (c:Es) (k:E->Es->Bool):Bool:=match c with | .cons e es=>k e es | .nil=>false
theorem xq {c:Es} {k:E->Es->Bool} (h:K5 c k=true):∃ e es,c=.cons e es/\k e es=true:=by
 unfold K5 at h
 cases c <;> first | exact ⟨_,_,rfl,h⟩ | exact aH h
@[irreducible] noncomputable def jSs (c:Ss) (k:S->Ss->Bool):Bool:=match c with | .cons e es=>k e es | .nil=>false
theorem Jm {c:Ss} {k:S->Ss->Bool} (h:jSs c k=true):∃ e es,c=.cons e es/\k e es=true:=by
 unfold jSs at h
 cases c <;> first | exact ⟨_,_,rfl,h⟩ | exact aH h
@[irreducible] noncomputable def xr (c:E) (k:List Nat->List Nat->E->Src->O->Bool) (d:Bool):Bool:=match c with | .comp _ caps tg elt it cond=>k caps tg elt it cond | _=>d
theorem A3 {c:E} {k:List Nat->List Nat->E->Src->O->Bool} {d:Bool} (h:xr c k d=true):(∃ fz caps tg elt it cond,c=.comp fz caps tg elt it cond/\k caps tg elt it cond=true)\/d=true:=by
 unfold xr at h
 cases c <;> first | exact .inl ⟨_,_,_,_,_,_,rfl,h⟩ | exact .inr h
noncomputable def IY (N:List Str) (sc:Scope) (i:Nat) (x:Str):Bool:=decide (N[i]? = some x)&&qf sc x
noncomputable def AL (N:List Str) (sc:Scope):List Expr->List Nat->Bool
 | [],[]=>true
 | a::as,i::is=>dH a (fun x=>IY N sc i x)&&AL N sc as is
 | _,_=>false
noncomputable def Hu (N:List Str) (sc:Scope) (t:Expr) (is:List Nat):Bool:=match is with
 | []=>false
 | i::r=>match r with
  | []=>dH t fun x=>IY N sc i x
  | j::r=>match r with
   | []=>w6 t fun as=>k2 as fun l r=>dH l fun x=>dH r fun y=>IY N sc i x&&IY N sc j y
   | l::r=>w6 t fun as=>AL N sc as (i::j::l::r)
noncomputable def K6:Src->Bool | .zip _ _=>true | _=>false
noncomputable def isTup:Expr->Bool | .Tuple _ _ _=>true | _=>false
noncomputable def Jr:Expr->Bool | .Call _ _ _ _=>true | .Name _ _=>true | .Subscript _ _ _=>true | _=>false
noncomputable def eS (N:List Str) (caps:List Nat) (tn:List Str):List Str:=(caps.map fun i=>(N[i]?).getD ("" : Str))++tn
noncomputable def nmOf:Expr->Str
 | .Name x _=>x
 | _=>""
noncomputable def cD:Expr->List Str
 | .Name x _=>[x]
 | .Tuple as _ _=>as.map nmOf
 | _=>[]
noncomputable def yr (N:List Str) (sc scope:Scope) (caps:List Nat) (tn:List Str):Bool :=
 (scope.names.all fun y=>match y.2 with
  | .free=>(match sc.names.lookup y.1 with | some .cell=>true | some .free=>true | _=>false)
  | .cell=>false
  | .local=>(match scope.names.lookup y.1 with | some .local=>true | _=>false)
  | _=>true)&&(scope.kind == .function) &&
 (caps.all fun i=>match N[i]? with
  | some x=>(match scope.names.lookup x with | some .free=>true | _=>false)
  | none=>false)&&decide ((eS N caps tn).Nodup)
noncomputable def vt (sc scope:Scope) (x:Str) (px pv:Pos):Bool :=
 ((if sc.kind.isAnnotationScope then .function else sc.kind) == .function)&&sc.names.lookup x == some .local&&px.line == pv.line&&!(scope.names.any fun (n,k)=>n == x&&(k == .local||k == .cell))
noncomputable abbrev Rec:=Gm->Bool->List Str->Scope->Nd->Bool
noncomputable def K9 (r:Rec) (G:Gm) (N:List Str) (sc:Scope):List ExceptHandler->Hs->Bool
 | [],hs=>xH hs
 | h::l,.cons cs b hs=>K4 h fun t n s bd=>dH t fun x=>k1 cs fun c=>n.isNone&&dN sc x&&nD x&&decide (G.exc.lookup x=some c)&&r (jN G) false N sc (.ss (s::bd) b)&&K9 r G N sc l hs
 | h::l,.as c i b hs=>K4 h fun t n s bd=>dH t fun x=>decide (n=N[i]?)&&n.any (qf sc)&&dN sc x&&nD x&&decide (G.exc.lookup x=some c)&&r (jN G) false N sc (.ss (s::bd) b)&&K9 r G N sc l hs
 | _::_,.nil=>false
noncomputable def okH:E->Bool
 | .comp _ _ _ _ _ _=>false | .mx _ _ _=>false | .all1 _=>false | .KZ _ _=>false | .KY _ _ _=>false | .dz _ _=>false | .AO _=>false | .blt .sum _ _=>false
 | _=>true
noncomputable def okS:S->Bool
 | .set _ c=>okH c
 | .zw _ _=>false | .for _ _ _=>false | .raise _ _=>false | .try _ _ _=>false
 | _=>true
theorem dS {a b:Bool} (h:(a||b)=true) (e:b=false):a=true:=by subst e;simpa using h
noncomputable def ifsB (ifs:List Expr) (cond:O) (k:Expr->E->Bool):Bool:=match cond with
 | .none=>ifs.isEmpty
 | .some d=>k1 ifs fun c=>k c d
noncomputable def K0 (r:Rec) (G:Gm) (b:Bool) (N:List Str) (sc:Scope) (caps tg:List Nat) (elt:E) (it:Src) (cond:O) (el tn iter:Expr) (ifs:List Expr) (scope:Scope):Bool :=
 (!K6 it||isTup tn)&&wL iter&&yr N sc scope caps (cD tn)&&r G b N sc (.i iter it) &&
  Hu (eS N caps (cD tn)) (vV scope sc) tn tg&&r G true (eS N caps (cD tn)) (vV scope sc) (.e el elt) &&
  ifsB ifs cond fun c d=>r G true (eS N caps (cD tn)) (vV scope sc) (.t c d)
noncomputable def Jq:Mt->Bool | .append=>true | .extend=>true | _=>false
noncomputable def Jb:Mt->Str | .append=>"append" | _=>"extend"
noncomputable def chkE (r:Rec) (G:Gm) (b:Bool) (N:List Str) (sc:Scope) (a:Expr) (c:E):Bool:=(G.cm||okH c)&&match c with
 | .bad=>true
 | .v i=>dH a fun x=>decide (N[i]? = some x)&&Dc sc x&&nD x
 | .k d=>FA a fun k=>Gu k d
 | .g i=>dH a fun x=>dN sc x&&decide (G.cst.lookup x=some i)&&nD x
 | .tup cs=>w6 a fun as=>decide (as.length<=100)&&r G b N sc (.es as cs)
 | .lst _ cs=>Fo a fun as=>decide (as.length<=100)&&r G b N sc (.es as cs)
 | .op o _ x y=>FE a fun l p q=>decide (p=binOp o)&&r G b N sc (.e l x)&&r G b N sc (.e q y)
 | .neg x=>Ji a fun o l=>qm o&&r G b N sc (.e l x)
 | .not x=>Ji a fun o l=>sC o&&r G b N sc (.e l x)
 | .and x y=>GZ a fun o v w=>iK o&&r G b N sc (.e v x)&&r G b N sc (.e w y)
 | .or x y=>GZ a fun o v w=>!iK o&&r G b N sc (.e v x)&&r G b N sc (.e w y)
 | .cmp o x y=>A1 a fun l p q=>decide (p=yu o)&&!(behindInMarks p q)&&r G b N sc (.e l x)&&r G b N sc (.e q y)
 | .A7 t x y=>Fv a fun u l q=>r G b N sc (.t u t)&&r G b N sc (.e l x)&&r G b N sc (.e q y)
 | .idx x y=>w9 a fun l q=>nSl q&&r G b N sc (.e l x)&&r G b N sc (.e q y)
 | .sl _ x lo hi=>w9 a fun l q=>E7 q fun u v=>r G b N sc (.e l x)&&r G b N sc (.o u lo)&&r G b N sc (.o v hi)
 | .call f cs=>qi a fun x as=>dN sc x&&nD x&&decide (G.fns.lookup x=some (f,as.length))&&as.all aZ&&r G b N sc (.es as cs)
 | .iU f cs d=>qi a fun x as=>dN sc x&&nD x&&decide (G.y9.lookup x=some (f,as.length+1,d))&&!as.isEmpty&&as.all aZ&&r G b N sc (.es as cs)
 | .xx x t=>qi a fun y as=>k2 as fun l z'=>dH z' fun z=>decide (y = "isinstance")&&decide (z=Str.ofString (nv t))&&dN sc y&&dN sc z&&G.iG.contains y&&G.iG.contains z&&aZ l&&r G b N sc (.e l x)
 | .blt k _ cs=>qi a fun y as=>k1 as fun l=>decide (Kh k=some y)&&dN sc y&&G.iG.contains y&&aZ l&&r G b N sc (.es [l] cs)
 | .bZ m _ x cs=>Jk a fun o y ap as cp=>ur o&&(ap.endLine == cp.line)&&r G b N sc (.e o x) &&
  bif Jq m then decide (Jb m=y)&&k1 as fun l=>aZ l&&r G b N sc (.es [l] cs)
  else decide (Ct m=some y)&&as.isEmpty&&kU cs
 | .comp _ caps tg elt it cond=>!b&&K3 a fun el tn iter ifs scope _=>K0 r G b N sc caps tg elt it cond el tn iter ifs scope
 | .fld x f=>xm a fun l y _=>decide (y=f)&&G.Bg.contains f&&ur l&&r G b N sc (.e l x)
 | .cR c m nm x cs=>Jk a fun o y ap as cp=>decide (y=nm)&&ur o&&(ap.endLine == cp.line)&&decide (as.length<29)&&decide (G.yW.lookup (c,nm)=some (m,as.length+1))&&as.all aZ&&r G b N sc (.e o x)&&r G b N sc (.es as cs)
 | .new c i cs=>qi a fun x as=>dN sc x&&nD x&&decide (G.cls.lookup x=some (c,i,as.length+1))&&as.all aZ&&r G b N sc (.es as cs)
 | .mx hi x y=>qi a fun z as=>k2 as fun l q=>decide (z=if hi then "max" else "min")&&dN sc z&&G.iG.contains z&&aZ l&&aZ q&&r G b N sc (.e l x)&&r G b N sc (.e q y)
 | .nc f x=>qi a fun y as=>k1 as fun l=>decide (f1S f=y)&&dN sc y&&G.iG.contains y&&aZ l&&r G b N sc (.e l x)
 | .jL x c=>qi a fun y as=>k2 as fun l z'=>dH z' fun z=>decide (y = "isinstance")&&dN sc y&&dN sc z&&G.iG.contains y&&nD z&&aZ l&&(match c with | some c=>decide (G.exc.lookup z=some c) | none=>decide (z = "ValueError")&&G.iG.contains z)&&r G b N sc (.e l x)
 | .A5 ct x cs=>Jk a fun o y ap as cp=>k1 as fun l=>decide (y=if ct then "count" else "index")&&ur o&&(ap.endLine == cp.line)&&aZ l&&r G b N sc (.e o x)&&r G b N sc (.es [l] cs)
 | .AO x=>qi a fun z as=>k1 as fun l=>decide (z = "max")&&dN sc z&&G.iG.contains z&&aZ l&&r G b N sc (.e l x)
 | .dz x y=>qi a fun z as=>k1 as fun a'=>qi a' fun u as=>k2 as fun l q=>decide (z = "dict")&&decide (u = "zip")&&dN sc z&&dN sc u&&G.iG.contains z&&G.iG.contains u&&aZ l&&aZ q&&r G b N sc (.e l x)&&r G b N sc (.e q y)
 | _=>false
noncomputable def chkT (r:Rec) (G:Gm) (b:Bool) (N:List Str) (sc:Scope) (a:Expr) (c:E):Bool:=match c with
 | .bad=>true
 | .cmp o x y=>A1 a fun l p q=>decide (p=yu o)&&!(behindInMarks p q)&&r G b N sc (.e l x)&&r G b N sc (.e q y)
 | .not x=>Ji a fun o l=>sC o&&r G b N sc (.t l x)
 | .and x y=>GZ a fun o v w=>iK o&&r G b N sc (.t v x)&&r G b N sc (.t w y)
 | .or x y=>GZ a fun o v w=>!iK o&&r G b N sc (.t v x)&&r G b N sc (.t w y)
 | c=>p9 a&&r G b N sc (.e a c)
noncomputable def chkI (r:Rec) (G:Gm) (b:Bool) (N:List Str) (sc:Scope) (a:Expr) (c:Src):Bool:=match c with
 | .e c=>wL a&&r G b N sc (.e a c)
 | .rev c=>qi a fun y as=>k1 as fun l=>decide (y = "reversed")&&dN sc y&&G.iG.contains y&&aZ l&&r G b N sc (.e l c)
 | _=>false
noncomputable def chkS (r:Rec) (G:Gm) (b:Bool) (N:List Str) (sc:Scope) (a:Stmt) (c:S):Bool:=(G.cm||okS c)&&match c with
 | .bad=>true
 | .set i c=>uy a fun t e=>kNm t fun x px=>!b&&decide (N[i]? = some x)&&EU sc x&&xr c (fun caps tg elt it cond=>K3 e fun el tn iter ifs scope lp =>
    bif vt sc scope x px lp then K0 r G b N sc caps tg elt it cond el tn iter ifs scope&&qf sc x else r G b N sc (.e e c)) (kK e&&r G b N sc (.e e c))
 | .pO x y c=>uy a fun t e=>w9 t fun o i=>kK e&&r G b N sc (.e e c)&&r G b N sc (.e o x)&&r G b N sc (.e i y)
 | .zw tg c=>uy a fun tn e=>!b&&isTup tn&&Hu N sc tn tg&&Jr e&&r G b N sc (.e e c)
 | .d9 x f c=>uy a fun t e=>xm t fun o y _=>decide (y=f)&&G.Bg.contains f&&kK e&&r G b N sc (.e e c)&&r G b N sc (.e o x)
 | .ex c=>Fy a fun e=>kK e&&r G b N sc (.e e c)
 | .ret c=>E9 a false fun e=>r G b N sc (.e e c)
 | .ifs c x y=>Fq a fun t l q=>r G b N sc (.t t c)&&r G b N sc (.ss l x)&&r G b N sc (.ss q y)
 | .for tg it x=>kFor a fun tn iter body=>!b&&(!K6 it||isTup tn)&&wL iter&&r G b N sc (.i iter it)&&Hu N sc tn tg&&r G b N sc (.ss body x)
 | .while c x=>kWh a fun t body=>r G b N sc (.t t c)&&r G b N sc (.ss body x)
 | .raise c es=>!b&&G.rz&&Fc a fun e=>qi e fun x as=>k1 as fun m=>dN sc x&&nD x&&decide (G.exc.lookup x=some c) &&
   Fj m (kU es) fun vs=>decide (2<=vs.length)&&decide (vs.length<=100)&&r G b N sc (.m vs es)
 | .try x hs els=>!b&&rq els&&E5 a fun bd hds=>r { G with rz:=false } b N sc (.ss bd x)&&K9 r G N sc hds hs
 | _=>false
noncomputable def stp (r:Rec) (G:Gm) (b:Bool) (N:List Str) (sc:Scope) (nd:Nd):Bool:=match nd with
 | .e a c=>sd a (fun v=>r G b N sc (.e v c)) (chkE r G b N sc a c)
 | .t a c=>sd a (fun v=>r G b N sc (.t v c)) (chkT r G b N sc a c)
 | .es as cs=>(match as with
  | []=>kU cs
  | a::as=>K5 cs fun c cs=>aZ a&&r G b N sc (.e a c)&&r G b N sc (.es as cs))
 | .o a c=>(match c with
  | .none=>a.isNone
  | .some c=>(match a with
   | some a=>r G b N sc (.e a c)
   | none=>false))
 | .i a c=>chkI r G b N sc a c
 | .s a c=>chkS r G b N sc a c
 | .ss as cs=>(match as with
  | []=>rq cs
  | a::as=>jSs cs fun c cs=>r G b N sc (.s a c)&&r G b N sc (.ss as cs))
 | .m as cs=>(match as with
  | []=>kU cs
  | a::as=>Ff a (fun y=>decide (y.length<=100000)&&r G b N sc (.m as cs)) fun v k=>K5 cs fun e es=>decide (k=-1)&&r G b N sc (.e v e)&&r G b N sc (.m as es))
noncomputable def BB:Nat->Rec
 | 0=>fun _ _ _ _ _=>false
 | n+1=>stp (BB n)
noncomputable abbrev gn (G:Gm) (n:Nat) (b:Bool) (N:List Str) (sc:Scope) (nd:Nd):Bool:=BB n G b N sc nd
end Fg
end
section
namespace Fg
open PySem PySem.Spec L2
section
variable {X:Cx}
theorem PE.weak {e:Expr} {t t':TE} (h:PE X e t) (w:∀ σ H Q,t' σ H Q->t σ H Q):PE X e t':=fun pins s σ H Q I q=>h pins s σ H Q I (w σ H Q q)
theorem PT.weak {e:Expr} {t t':TT} (h:PT X e t) (w:∀ σ H Q,t' σ H Q->t σ H Q):PT X e t':=fun pins s σ H Q I q=>h pins s σ H Q I (w σ H Q q)
theorem PW.weak {e:Expr} {t t':TT} (h:PW X e t) (w:∀ σ H Q,t' σ H Q->t σ H Q):PW X e t':=fun wh pins s σ H Q I q=>h wh pins s σ H Q I (w σ H Q q)
theorem PA.weak {e:List Expr} {t t':TA} (h:PA X e t) (w:∀ σ H Q,t' σ H Q->t σ H Q):PA X e t':=fun pos pins s σ H Q I q=>h pos pins s σ H Q I (w σ H Q q)
theorem PO.weak {e:Option Expr} {t t':TO} (h:PO X e t) (w:∀ σ H Q,t' σ H Q->t σ H Q):PO X e t':=fun pins s σ H Q I q=>h pins s σ H Q I (w σ H Q q)
theorem PI.weak {tg e:Expr} {t t':TI} (h:PI X tg e t) (w:∀ σ H Q,t' σ H Q->t σ H Q):PI X tg e t':=fun pins s σ H Q I q=>h pins s σ H Q I (w σ H Q q)
theorem PS.weak {e:Stmt} {t t':TS} (h:PS X e t) (w:∀ D σ H,t' D σ H->t D σ H):PS X e t':=fun pins s σ H D I q=>h pins s σ H D I (w D σ H q)
theorem j5.weak {e:List Stmt} {t t':TS} (h:j5 X e t) (w:∀ D σ H,t' D σ H->t D σ H):j5 X e t':=fun pins s σ H D I q=>h pins s σ H D I (w D σ H q)
end
theorem ak {e:Expr} {es:List Expr} {env:Env} (h:aZ e=true):starEach (e::es) env=(false,eval e env)::starEach es env:=by
 cases e <;> first | rfl | (simp [aZ] at h)
theorem bQ {env:Env} {pos:Pos}:∀ {es:List Expr},es.all aZ=true->(backTo pos (starEach es env)).any (·.1)=false
 | [],_=>rfl
 | e::es,h=>by
  simp only [List.all_cons,Bool.and_eq_true] at h
  rw [ak h.1]
  have:=bQ (env:=env) (pos:=pos) h.2
  simpa [backTo] using this
theorem nA {env:Env} {pos:Pos}:∀ {es:List Expr},es.all aZ=true->(backTo pos (starEach es env)).all (fun x=>!x.1)=true
 | [],_=>rfl
 | e::es,h=>by
  simp only [List.all_cons,Bool.and_eq_true] at h
  rw [ak h.1]
  have:=nA (env:=env) (pos:=pos) h.2
  simpa [backTo] using this
theorem kM {o:Expr} {name:Str} {apos pos:Pos} {args:List Expr} {env:Env} (hbase:attributeBase o name env (eval o env)=eval o env) (hst:args.all aZ=true) (hl:args.length<29) (hline:(apos.endLine == pos.line)=true) :
  eval (.Call (.Attribute o name apos) args [] pos) env=(do
   let ov <- eval o env
   standAt apos.atName
   let (f,first) <- holding [ov] (getMethod ov name (do return (<- importBound o env).getD true))
   callWith pos f first (backTo pos (starEach args env)) (backToKw pos (keywordEach [] env))):=by
 have Jy:methodCallForm (args.length+([]:List Keyword).length) (backTo pos (starEach args env)) (backToKw pos (keywordEach [] env))=true:=by
  unfold methodCallForm
  rw [nA hst]
  simp [backToKw,keywordEach]
  omega
 have hpos:methodCallPos true o env apos pos=pure pos:=by unfold methodCallPos;simp [hline]
 rw [arm_eval_Call,hbase]
 unfold methodCall
 rw [Jy]
 simp only [hpos]
 rfl
theorem set_plain {e:Expr} {env:Env} (h:wL e=true):∀ x,foldedSetIterable e env x=pure x:=by
 intro x;cases e <;> first | rfl | (simp [wL] at h)
theorem vI {e:Expr} (h:nSl e=true):tQ e:=by
 intro o i;cases e <;> first | rfl | (simp [nSl] at h)
theorem jh {e:Expr} {t:Option Expr} {l:Nat} {env:Env} (h:kK e=true):swapsWith e t l env=pure false:=by
 cases e <;> first | rfl | (simp [kK] at h)
theorem tX {e:Expr} {env:Env} (h:p9 e=true):∀ whole,isTrue e env whole=(do let v <- whole;standAt e.pos;holding [v] (truthy v)):=by
 intro w;cases e <;> first | rfl | (simp [p9] at h)
theorem aR {e:Expr} {n:Str} {env:Env} (h:ur e=true):attributeBase e n env (eval e env)=eval e env:=by
 cases e <;> first | rfl | (rename_i f _ _ _;cases f <;> first | rfl | (simp [ur] at h))
theorem boot_dict:bootBuiltins ("dict" : Str)=some (.type "dict"):=by decide +kernel
theorem boot_isinstance:bootBuiltins ("isinstance" : Str)=some (.builtin "isinstance"):=by decide +kernel
theorem BJ:∀ t:Ty,bootBuiltins (Str.ofString (nv t))=some (.type (nv t)):=by
 intro t;cases t <;> decide +kernel
theorem BY:∀ t:Ty, Str.ofString (nv t)≠("__name__" : Str)/\(Str.ofString (nv t) == ("__debug__" : Str))=false:=by
 intro t;cases t <;> decide
noncomputable def iQ:Es->Nat
 | .nil=>0
 | .cons _ es=>iQ es+1
theorem aV {Φ:bh}:∀ {es:Es} {σ:Sg} {M:MH} {ds:List D} {M':MH},b6 Φ es σ M=.ok ds M'->ds.length=iQ es
 | .nil,σ,M,ds,M',h=>by simp only [b6] at h;cases h;rfl
 | .cons e es,σ,M,ds,M',h=>by
  simp only [b6] at h
  cases h1:ev Φ e σ M with
  | ok x M1 =>
   rw [h1] at h
   simp only [R.aa] at h
   cases h2:b6 Φ es σ M1 with
   | ok xs M2 =>
    rw [h2] at h
    simp only [R.aa] at h
    cases h
    simp [iQ,aV h2]
   | exc c M2=>rw [h2] at h;cases h
   | bad=>rw [h2] at h;cases h
  | exc c M1=>rw [h1] at h;cases h
  | bad=>rw [h1] at h;cases h
theorem aB {a b:Bool} (h:(a&&b)=true):a=true/\b=true:=(Bool.and_eq_true a b).mp h
theorem eK {G:Gm} {b:Bool} {N:List Str} {sc:Scope}:∀ {n:Nat} {as:List Expr} {cs:Es},gn G n b N sc (.es as cs)=true->iQ cs=as.length/\as.all aZ=true
 | 0,_,_,h=>by cases h
 | n+1,[],cs,h=>by
  have:=gR (c:=cs) h
  subst this
  exact ⟨rfl,rfl⟩
 | n+1,a::as,cs,h=>by
  replace h:=xq (c:=cs) h
  obtain ⟨c,cs,rfl,h⟩:=h
  replace h:=aB h
  obtain ⟨h,h3⟩:=h
  replace h:=aB h
  obtain ⟨h1,h2⟩:=h
  obtain ⟨q1,q2⟩:=eK h3
  exact ⟨congrArg (·+1) q1,by rw [List.all_cons,h1,q2];rfl⟩
inductive uS (th:Addr->Prop):Hp->Hp->Prop
 | refl (H:Hp):uS th H H
 | step {H H1 H2:Hp}:zb th H H1->uS th H1 H2->uS th H H2
noncomputable def GX:Bool->Cx->XS->Gx
 | true,_,w=>⟨w,fun _=>False,fun cv x σ H H' t h=>by
  rcases t with rfl | ⟨_,_,_,z,_⟩
  ·exact h
  ·exact z.elim⟩
 | false,X,w=>⟨fun cv x σ H=>∃ H',uS (B0 X) H H'/\w cv x σ H',B0 X,fun cv x σ H H' t ⟨H2,h1,h2⟩=>⟨H2,.step t h1,h2⟩⟩
theorem ny {X:Cx} {pins:List (Addr×Obj)} {σ:L2.St} {H H':Hp} {s:Shared} (I:Inv X pins σ H s) (t:uS (B0 X) H H'):Inv X pins σ H' s:=by
 induction t with
 | refl=>exact I
 | step t _ ih=>exact ih (dJ I t)
theorem tY {th:Addr->Prop} {H H':Hp} (t:uS th H H') {b:Addr} (h:H' b≠none):H b≠none:=by
 induction t with
 | refl=>exact h
 | step t _ ih =>
  have:=ih h
  rcases t with rfl | ⟨a,o,kvs,_,h1,rfl⟩
  ·exact this
  ·by_cases e:b=a
   ·subst e;rw [h1];simp
   ·rw [aj e] at this;exact this
theorem oG {X:Cx} {w:XS} {e:Value} {s:Shared} (h:g7 X (GX false X w).e e s):g7 X w e s:=by
 obtain ⟨pins,σ,H,a,a0,C,B,h1,I,up,dU,hp,H',t,q⟩:=h
 exact ⟨pins,σ,H',a,a0,C,B,h1,ny I t,up,fun b hb hf=>dU b (hb.imp (tY t) id) hf,hp,q⟩
theorem wJ {X:Cx} {w:XS} {e:Value} {s:Shared} (h:C6 X (GX false X w).e e s):C6 X w e s:=by
 obtain ⟨pins,σ,H,a,C,vs,hh,h1,I,made,H',t,q⟩:=h
 exact ⟨pins,σ,H',a,C,vs,hh,h1,ny I t,made,q⟩
structure dX (G:Gm) (B:Bd) (Φ:bh) (k:Nat) (X:Cx) (N:List Str) (sc:Scope) (b:Bool) (w:XS):Prop where
 hN:X.N=N
 nd:N.Nodup
 hsc:X.env.scope=sc
 K:B.K=X.K
 calm:G.cm=true->X.calm=true
 rm:bI G.cm k X.A
 dk:j7 B X
 fo:∀ e s,X.xe e s->g7 X (GX b X w).e e s\/C6 X (GX b X w).e e s
 fx:∀ e s,g7 X (GX b X w).e e s->X.xe e s
 nx:b=false->G.rz=true->∀ e s,C6 X (GX b X w).e e s->X.xe e s
 fr:o5 X
 fn:b=false->∀ x,X.fn x=true
 fns:∀ f i m,G.fns.lookup f=some (i,m)->∃ fa fd ps,X.mg f=some (.ref fa)/\W.keepIn X.K (.ref fa)=true/\Binds X.K fd ps []/\br G.cm X.prog X.w X.K X.mg X.base (eW X.prog X.w) k fa fd ps (nE B Φ i m)
 cst:∀ x i,G.cst.lookup x=some i->∃ v u,X.mg x=some u/\RelV v u/\∀ d,Φ.glob i=some d->∀ F ρ H,RD B F ρ H d v
 blt:∀ x,G.iG.contains x=true->X.mg x=none
 cls:∀ c C,B.cls c=some C->uU X.K C/\∀ f,G.Bg.contains f=true->dw X.K C f
 yW:∀ c nm i m,G.yW.lookup (c,nm)=some (i,m)->∃ C fa fd ps,B.cls c=some C/\Meth X.K C nm fa/\Binds X.K fd ps []/\br G.cm X.prog X.w X.K X.mg X.base (eW X.prog X.w) k fa fd ps (nE B Φ i m)
 Jc:∀ x c i m,G.cls.lookup x=some (c,i,m)->∃ C fa fd ps,X.mg x=some (.ref C)/\B.cls c=some C/\Mk X.K C fa/\Binds X.K fd ps [] /\
  ((∃ j,k=j+1/\br G.cm X.prog X.w X.K X.mg X.base (eW X.prog X.w) j fa fd ps (spI B Φ i m))\/∀ ds M,Φ.ini i ds M=.bad)
 exc:∀ x c, G.exc.lookup x=some c->∃ C bmB newId bm base initId, X.mg x=some (.ref C)/\B.yT c=some C/\B.exc c (.ref C)/\m6 X.K C bmB newId bm/\ExcBaseFacts base newId initId bmB/\bm.contains (.type "BaseException")=true
 CJ:∀ c cv,B.exc c cv->∃ C bmB newId bm,cv=.ref C/\B.yT c=some C/\m6 X.K C bmB newId bm/\∀ d D,B.yT d=some D->(Value.ref C::bm).contains (.ref D)=Φ.sub c d
 y9:∀ x f m d,G.y9.lookup x=some (f,m,d)->∃ fa fd ps du,X.mg x=some (.ref fa)/\W.keepIn X.K (.ref fa)=true/\Binds X.K fd ps [du]/\RelV (.int d) du/\br G.cm X.prog X.w X.K X.mg X.base (eW X.prog X.w) k fa fd ps (nE B Φ f m)
 st:b=false->X.stack=X.env::X.outer/\X.env.frame=some X.env.locals
 o9:∀ f i m,G.o9.lookup f=some (i,m)->∃ fa fd ps,X.mg f=some (.ref fa)/\W.keepIn X.K (.ref fa)=true/\Binds X.K fd ps []/\br false X.prog X.w X.K X.mg X.base (eW X.prog X.w) k fa fd ps (nE B Φ i m)
 jL:∀ c C, B.yT c=some C->yO X.K C/\W.kitOne X.K (.ref C) (.type "ValueError")=some true/\∀ d D, B.yT d=some D->W.kitOne X.K (.ref C) (.ref D)=some (Φ.sub c d)
section
variable {G:Gm} {B:Bd} {Φ:bh} {k:Nat} {X:Cx} {N:List Str} {sc:Scope} {b:Bool} {w:XS}
theorem dX.HX (O:dX G B Φ k X N sc b w):Rm X:=by have:=O.rm.un;unfold Rm;omega
theorem dX.iA (O:dX G B Φ k X N sc b w) {x:Str} (h:dN sc x=true):Gl X x:=by
 show X.env.scope.names.lookup x=some .globalImplicit
 rw [O.hsc]
 unfold dN at h
 split at h
 ·assumption
 ·cases h
theorem dX.vis (O:dX G B Φ k X N sc b w) {x:Str} (h:Dc sc x=true):Lx X.env.scope x:=by
 unfold Lx
 rw [O.hsc]
 unfold Dc at h
 split at h
 ·rename_i q;exact .inl q
 ·rename_i q;exact .inr (.inl q)
 ·rename_i q;exact .inr (.inr q)
 ·cases h
theorem dX.loc (O:dX G B Φ k X N sc b w) {x:Str} (h:EU sc x=true):L2.Loc X.env.scope x:=by
 unfold L2.Loc
 rw [O.hsc]
 unfold EU at h
 split at h
 ·rename_i q;exact .inl q
 ·rename_i q;exact .inr q
 ·cases h
theorem cW {x:Str} (h:nD x=true):(x == ("__debug__" : Str))=false/\(x == ("__classdict__" : Str))=false:=by
 simp only [nD,Bool.and_eq_true,Bool.not_eq_true'] at h;exact h
theorem dX.CZ (O:dX G B Φ k X N sc b w) {scope:Scope} {N':List Str} (hn:N'.Nodup) (cl:List (Str×Addr)) (fp:List Addr) (s:Shared) (H:Hp) (C:Addr) (E:XK):dX G B Φ k (dW X scope cl N' fp s H C E) N' (vV scope sc) true (fun cv x _ H'=>E cv x H') :=
 ⟨rfl,hn,by show relabel scope X.env=vV scope sc;rw [<- O.hsc];rfl,O.K,O.calm,O.rm,O.dk,(fun e s ⟨p,σ,H,a,a0,C,B,h1,I,h⟩=>.inl ⟨p,σ,H,a,a0,C,B,h1,I.bz _,h⟩),(fun e s ⟨p,σ,H,a,a0,C,B,h1,I,h⟩=>⟨p,σ,H,a,a0,C,B,h1,I.aX,h⟩),(fun h=>by cases h),(by
  obtain ⟨env,outer,L,h1,h2,h3⟩:=O.fr
  exact ⟨env,outer,L,h1,h2,h3⟩),(fun h=>by cases h),O.fns,O.cst,O.blt,O.cls,O.yW,O.Jc,O.exc,O.CJ,O.y9,(fun h=>by cases h),O.o9,O.jL⟩
theorem dX.comp (O:dX G B Φ k X N sc b w) {scope:Scope} {caps:List Nat} {tn:List Str} {n:Nat} (h:yr N sc scope caps tn=true) (hn:tn.length=n):gw X scope (eS N caps tn) caps n/\(eS N caps tn).Nodup:=by
 simp only [yr,Bool.and_eq_true,List.all_eq_true,decide_eq_true_eq] at h
 obtain ⟨⟨⟨h1,h2⟩,h3⟩,h4⟩:=h
 refine ⟨⟨fun x hx=>?_,fun y hy z=>?_,by simpa using h2,fun y hy z=>?_,by simp [eS,hn],fun i j x e1 e2=>?_⟩,h4⟩
 ·have:=h1 _ hx
  show X.env.scope.names.lookup x=some .cell\/X.env.scope.names.lookup x=some .free
  rw [O.hsc]
  simp only at this
  split at this
  ·rename_i q;exact .inl q
  ·rename_i q;exact .inr q
  ·cases this
 ·have:=h1 _ hy
  rw [z] at this
  simp at this
 ·have:=h1 _ hy
  rw [z] at this
  simp only at this
  split at this
  ·assumption
  ·cases this
 ·have hj:j∈caps:=List.mem_of_getElem? e2
  have:=h3 j hj
  have hi:i<caps.length:=(List.getElem?_eq_some_iff.mp e2).1
  unfold eS at e1
  rw [List.getElem?_append_left (by simpa using hi),List.getElem?_map,e2] at e1
  simp only [Option.map_some,Option.some.injEq] at e1
  split at this
  ·rename_i y hy
   rw [hy] at e1
   simp only [Option.getD_some] at e1
   subst e1
   rw [O.hN]
   refine ⟨hy,?_⟩
   split at this
   ·assumption
   ·cases this
  ·cases this
theorem wV {x:Str} (h:qf sc x=true):sc.names.lookup x=some .local:=by
 unfold qf at h
 split at h
 ·assumption
 ·cases h
theorem dX.nm (O:dX G B Φ k X N sc b w) {i:Nat} {x:Str} {p:Pos} (h:IY N sc i x=true):PG X (.Name x p) (jP i):=by
 replace h:=aB h
 obtain ⟨h1,h2⟩:=h
 have hl:X.env.scope.names.lookup x=some .local:=by rw [O.hsc];exact wV h2
 exact Av (by rw [O.hN];exact O.nd) (by rw [O.hN];exact of_decide_eq_true h1) (.inl hl) (.inr hl)
noncomputable def gNs:List Nat->C5
 | []=>JA
 | i::is=>CG (jP i) (gNs is)
theorem xO:∀ {is:List Nat} {xs:List V} {σ:St} {H:Hp} {Q:St->Hp->Prop},xs.length=is.length->Q (ic is xs σ) H->gNs is xs σ H Q
 | [],[],σ,H,Q,_,q=>⟨rfl,q⟩
 | [],_::_,_,_,_,h,_=>by cases h
 | _::_,[],_,_,_,h,_=>by cases h
 | i::is,x::xs,σ,H,Q,h,q=>⟨x,xs,rfl,xO (is:=is) (xs:=xs) (σ:=σ.set i (some x)) (by simpa using h) q⟩
theorem dX.nms (O:dX G B Φ k X N sc b w):∀ {as:List Expr} {is:List Nat},AL N sc as is=true->(assignEach as X.env).length=is.length/\(assignEach as X.env).findIdx? (·.1)=none/\Ks X as (gNs is)/\as.length=is.length
 | [],[],_=>⟨rfl,rfl,rW,rfl⟩
 | [],_::_,h=>by cases h
 | _::_,[],h=>by cases h
 | a::as,i::is,h=>by
  replace h:=aB h
  obtain ⟨h1,h2⟩:=h
  replace h1:=bu h1
  obtain ⟨x,p,rfl,h1⟩:=h1
  obtain ⟨q1,q2,q3,q4⟩:=O.nms h2
  have e:assignEach (.Name x p::as) X.env=(false,assign (.Name x p) X.env)::assignEach as X.env:=rfl
  refine ⟨?_,?_,jE (O.nm (p:=p) h1) q3 (by rw [e];rfl),by rw [List.length_cons,List.length_cons,q4]⟩
  ·rw [e,List.length_cons,List.length_cons,q1]
  ·rw [e,List.findIdx?_cons,q2];rfl
theorem dX.tg (O:dX G B Φ k X N sc b w) (mw:G.cm=true) {tn:Expr} {tg:List Nat} (h:Hu N sc tn tg=true):PG X tn (G3 tg B.K)/\(cD tn).length=tg.length:=by
 cases tg with
 | nil=>cases h
 | cons i r=>cases r with
  | nil =>
   replace h:=bu h
   obtain ⟨x,p,rfl,h⟩:=h
   exact ⟨O.nm h,rfl⟩
  | cons j r=>cases r with
   | cons l r =>
    replace h:=jK h
    obtain ⟨as,k1,pt,rfl,h⟩:=h
    obtain ⟨q1,q2,q3,q4⟩:=O.nms h
    have p:=wg (X:=X) (pos:=pt) (k:=k1) (n:=(i::j::l::r).length) (O.calm mw) q3 q1 q2
    refine ⟨fun pins s σ H v u Q I r q=>p pins s σ H v u Q I r ?_,by rw [<- q4];exact List.length_map ..⟩
    obtain ⟨a,xs,e,sq,hl,q⟩:=q
    rw [O.K] at sq
    exact ⟨a,xs,e,sq,hl,xO hl q⟩
   | nil =>
    replace h:=jK h
    obtain ⟨as,k1,pt,rfl,h⟩:=h
    replace h:=uz h
    obtain ⟨l,r,rfl,h⟩:=h
    replace h:=bu h
    obtain ⟨x,px,rfl,h⟩:=h
    replace h:=bu h
    obtain ⟨y,py,rfl,h⟩:=h
    replace h:=aB h
    obtain ⟨h1,h2⟩:=h
    have p:=wg (X:=X) (pos:=pt) (k:=k1) (n:=2) (O.calm mw) (jE (O.nm (p:=px) h1) (jE (O.nm (p:=py) h2) rW))
    refine ⟨fun pins s σ H v u Q I r q=>p pins s σ H v u Q I r ?_,rfl⟩
    obtain ⟨a,x',y',e,sq,q⟩:=q
    rw [O.K] at sq
    exact ⟨a,[x',y'],e,sq,rfl,x',[y'],rfl,y',[],rfl,rfl,q⟩
end
end Fg
end
section
namespace Fg
open PySem PySem.Spec L2
section
variable {G:Gm} {B:Bd} {Φ:bh} {k:Nat}
structure yQ (G:Gm) (B:Bd) (Φ:bh) (k n:Nat) (X:Cx) (N:List Str) (sc:Scope) (b:Bool) (w:XS):Prop where
 e:∀ a c,gn G n b N sc (.e a c)=true->PE X a (T B Φ (GX b X w) c)
 t:∀ a c,gn G n b N sc (.t a c)=true->PT X a (TB B Φ (GX b X w) c)/\(∀ op v p,a=.BoolOp op v p->PW X a (TB B Φ (GX b X w) c))
 es:∀ a c,gn G n b N sc (.es a c)=true->PA X a (TL B Φ (GX b X w) c)
 o:∀ a c,gn G n b N sc (.o a c)=true->PO X a (TP B Φ (GX b X w) c)
 i:b=false->∀ a c tg,(!K6 c||isTup tg)=true->gn G n b N sc (.i a c)=true->PI X tg a (GI B Φ (GX b X w) c)
 s:∀ a c,gn G n b N sc (.s a c)=true->PS X a (TC B Φ (GX b X w) c)
 ss:∀ a c,gn G n b N sc (.ss a c)=true->j5 X a (tP B Φ (GX b X w) c)
 m:∀ a c,gn G n b N sc (.m a c)=true->PJ X B Φ (GX b X w) a c
theorem yP {E:Gx} {σ:L2.St} {H:Hp} {Q:VK} (h:T B Φ E .bad σ H Q):False:=by
 obtain ⟨σD,M,F,ρ,S,r,h⟩:=h
 simp only [ev] at h
 exact h
theorem GJ {E:Gx} {Dn:Ends} {σ:L2.St} {H:Hp} (h:TC B Φ E .bad Dn σ H):False:=by
 obtain ⟨σD,M,F,ρ,S,r,h⟩:=h
 simp only [ex] at h
 exact h
variable {X:Cx} {N:List Str} {sc:Scope} {b:Bool} {n:Nat} {w:XS}
theorem zG {a:Const} {d:D} {j:Nat} {p:Pos} {E:Gx} (h:Gu a d=true):PE X (.Constant a j p) (T B Φ E (.k d)):=by
 unfold Gu at h
 split at h
 ·rw [of_decide_eq_true h];exact PE.weak Eh fun _ _ _=>rF rfl
 ·rw [of_decide_eq_true h];exact PE.weak pW fun _ _ _=>rF rfl
 ·rw [of_decide_eq_true h];exact PE.weak II fun _ _ _=>rF rfl
 ·exact PE.weak Ed fun _ _ _=>rF rfl
 ·cases h
theorem sf:∀ {as:List Expr} {is:List Nat},AL N sc as is=true->as.length=is.length
 | [],[],_=>rfl
 | [],_::_,h=>by cases h
 | _::_,[],h=>by cases h
 | a::as,i::is,h=>by rw [List.length_cons,List.length_cons,sf (aB h).2]
theorem Dh {tn:Expr} {tg:List Nat} (h:Hu N sc tn tg=true):(cD tn).length=tg.length:=by
 cases tg with
 | nil=>cases h
 | cons i r=>cases r with
  | nil=>replace h:=bu h;obtain ⟨x,p,rfl,h⟩:=h;rfl
  | cons j r=>cases r with
   | cons l r =>
    replace h:=jK h
    obtain ⟨as,k1,pt,rfl,h⟩:=h
    exact (List.length_map ..).trans (sf h)
   | nil =>
    replace h:=jK h
    obtain ⟨as,k1,pt,rfl,h⟩:=h
    replace h:=uz h
    obtain ⟨l,r,rfl,h⟩:=h
    rfl
theorem nG (mw:G.cm=true) (O:dX G B Φ k X N sc false w) (ih:yQ G B Φ k n X N sc false w) (FJ:∀ X' N' sc' w',dX G B Φ k X' N' sc' true w'->yQ G B Φ k n X' N' sc' true w') {caps tg:List Nat} {elt:Fg.E} {it:Src} {cond:Fg.O} {el tn iter:Expr} {ifs:List Expr} {scope:Scope}
  (h:K0 (BB n) G false N sc caps tg elt it cond el tn iter ifs scope=true) :
  gw X scope (eS N caps (cD tn)) caps tg.length/\PI X tn iter (GI B Φ (GX false X w) it) /\
   (∀ σ cl fp s H C,PG (dW X scope cl (eS N caps (cD tn)) fp s H C fun cv x H'=>(GX false X w).e cv x σ H') tn (G3 tg B.K)/\G8 (dW X scope cl (eS N caps (cD tn)) fp s H C fun cv x H'=>(GX false X w).e cv x σ H') ifs (TBo B Φ (EB (GX false X w) σ) cond)/\PE (dW X scope cl (eS N caps (cD tn)) fp s H C fun cv x H'=>(GX false X w).e cv x σ H') el (T B Φ (EB (GX false X w) σ) elt))/\∀ x,foldedSetIterable iter X.env x=pure x:=by
 simp only [K0,Bool.and_eq_true] at h
 obtain ⟨⟨⟨⟨⟨⟨h0,h1⟩,h2⟩,h3⟩,h4⟩,h5⟩,h6⟩:=h
 have hlen:(cD tn).length=tg.length:=Dh h4
 obtain ⟨C1,C2⟩:=O.comp h2 hlen
 refine ⟨C1,ih.i rfl iter it tn h0 h3,fun σ cl fp s H C=>?_,set_plain h1⟩
 have OB:=O.CZ (scope:=scope) C2 cl fp s H C fun cv x H'=>(GX false X w).e cv x σ H'
 have S:=FJ _ _ _ _ OB
 refine ⟨(OB.tg mw h4).1,?_,S.e el elt h5⟩
 cases cond with
 | none=>cases ifs with
  | nil=>exact Ak
  | cons _ _=>cases h6
 | some d =>
  replace h6:=gg h6
  obtain ⟨c,rfl,h6⟩:=h6
  exact Aj (S.t c d h6).1
theorem HP (O:dX G B Φ k X N sc b w) (ih:yQ G B Φ k n X N sc b w) (FJ:∀ X' N' sc' w',dX G B Φ k X' N' sc' true w'->yQ G B Φ k n X' N' sc' true w') (a:Expr) (c:Fg.E) (h:gn G (n+1) b N sc (.e a c)=true):PE X a (T B Φ (GX b X w) c):=by
 replace h:=r9 h
 rcases h with ⟨o,v,p,rfl,h⟩ | h
 ·exact Eb (ih.e _ _ h)
 ·replace h:=aB h
  obtain ⟨mw,h⟩:=h
  cases c with
  | bad=>exact fun _ _ _ _ _ _ q=>(yP q).elim
  | v i =>
   replace h:=bu h
   obtain ⟨x,p,rfl,h⟩:=h
   simp only [Bool.and_eq_true,decide_eq_true_eq] at h
   exact PE.weak (D9 (by rw [O.hN];exact h.1.1) (O.vis h.1.2) (cW h.2).1 (cW h.2).2) fun _ _ _=>HR
  | k d =>
   replace h:=Fz h
   obtain ⟨x,j,p,rfl,h⟩:=h
   exact zG h
  | g i =>
   replace h:=bu h
   obtain ⟨x,p,rfl,h⟩:=h
   simp only [Bool.and_eq_true,decide_eq_true_eq] at h
   obtain ⟨v,u,q1,q2,q3⟩:=O.cst _ _ h.1.2
   exact PE.weak (rX (O.iA h.1.1) q1 q2 (cW h.2).1) fun _ _ _=>HS q3
  | tup cs =>
   replace h:=jK h
   obtain ⟨as,j,p,rfl,h⟩:=h
   simp only [Bool.and_eq_true,decide_eq_true_eq] at h
   obtain ⟨hl,_⟩:=eK h.2
   refine PE.weak (Ea (ih.es _ _ h.2)) fun _ _ _=>zL fun q=>?_
   rw [aV q,hl];exact Nat.le_trans h.1 (by decide)
  | lst fz cs =>
   replace h:=Fl h
   obtain ⟨as,p,rfl,h⟩:=h
   simp only [Bool.and_eq_true,decide_eq_true_eq] at h
   obtain ⟨hl,_⟩:=eK h.2
   refine PE.weak (Eg (ih.es _ _ h.2)) fun _ _ _=>zU fun q=>?_
   rw [aV q,hl];exact Nat.le_trans h.1 (by decide)
  | Gr=>cases h
  | op o fz x y =>
   replace h:=FD h
   obtain ⟨l,p,q,pos,rfl,h⟩:=h
   simp only [Bool.and_eq_true,decide_eq_true_eq] at h
   obtain ⟨⟨h1,h2⟩,h3⟩:=h
   subst h1
   exact PE.weak (IE (EA O.K o) (ih.e _ _ h2) (ih.e _ _ h3)) fun _ _ _=>Dv
  | neg x =>
   replace h:=w5 h
   obtain ⟨o,l,p,rfl,h⟩:=h
   replace h:=aB h
   obtain ⟨ho,h⟩:=h
   cases xy ho
   exact PE.weak (IC De (ih.e _ _ h)) fun _ _ _=>zQ
  | not x =>
   replace h:=w5 h
   obtain ⟨o,l,p,rfl,h⟩:=h
   replace h:=aB h
   obtain ⟨ho,h⟩:=h
   cases sA ho
   exact PE.weak (Ec (ih.e _ _ h)) fun _ _ _=>rC
  | and x y =>
   replace h:=sj h
   obtain ⟨o,v,w,r,p,rfl,h⟩:=h
   replace h:=aB h
   obtain ⟨h,h3⟩:=h
   replace h:=aB h
   obtain ⟨h1,h2⟩:=h
   cases sD h1
   replace h:=And.intro h2 h3
   exact PE.weak (Ej (ih.e _ _ h.1) (ih.e _ _ h.2)) fun _ _ _=>rL
  | or x y =>
   replace h:=sj h
   obtain ⟨o,v,w,r,p,rfl,h⟩:=h
   replace h:=aB h
   obtain ⟨h,h3⟩:=h
   replace h:=aB h
   obtain ⟨h1,h2⟩:=h
   cases xA (by simpa using h1)
   replace h:=And.intro h2 h3
   exact PE.weak (ID (ih.e _ _ h.1) (ih.e _ _ h.2)) fun _ _ _=>vN
  | cmp o x y =>
   replace h:=xg h
   obtain ⟨l,p,q,pos,rfl,h⟩:=h
   simp only [Bool.and_eq_true,decide_eq_true_eq,Bool.not_eq_true'] at h
   obtain ⟨⟨⟨h1,h2⟩,h3⟩,h4⟩:=h
   subst h1
   exact PE.weak (Ay (wF O.K O.HX O.dk o) (ih.e _ _ h3) (ih.e _ _ h4) h2) fun _ _ _=>rJ
  | A7 t x y =>
   replace h:=Ft h
   obtain ⟨u,l,q,pos,rfl,h⟩:=h
   simp only [Bool.and_eq_true] at h
   exact PE.weak (wA (ih.t _ _ h.1.1).1 (ih.e _ _ h.1.2) (ih.e _ _ h.2)) fun _ _ _=>zY
  | idx x y =>
   replace h:=qh h
   obtain ⟨l,q,pos,rfl,h⟩:=h
   simp only [Bool.and_eq_true] at h
   exact PE.weak (IF (FI O.K O.dk) (ih.e _ _ h.1.2) (ih.e _ _ h.2) (vI h.1.1)) fun _ _ _=>zZ
  | sl fz x lo hi =>
   replace h:=qh h
   obtain ⟨l,q,pos,rfl,h⟩:=h
   replace h:=E6 h
   obtain ⟨u,v,sp,rfl,h⟩:=h
   simp only [Bool.and_eq_true] at h
   exact PE.weak (wj (Ds O.K) (ih.e _ _ h.1.1) (ih.o _ _ h.1.2) (ih.o _ _ h.2)) fun _ _ _=>Du
  | call f cs =>
   replace h:=dI h
   obtain ⟨x,p,as,pos,rfl,h⟩:=h
   simp only [Bool.and_eq_true,decide_eq_true_eq] at h
   obtain ⟨⟨⟨⟨h1,h2⟩,h3⟩,h4⟩,h5⟩:=h
   obtain ⟨fa,fd,ps,q1,q2,q3,q4⟩:=O.fns _ _ _ h3
   obtain ⟨hl,_⟩:=eK h5
   cases as with
   | nil =>
    refine PE.weak (ug q4 O.rm (O.iA h1) q1 q2 q3 O.fx (cW h2).1) fun _ _ _ q=>?_
    have:=nM (fun z=>by rw [aV z,hl]) q
    cases cs with
    | nil=>exact gC this
    | cons _ _=>simp [iQ] at hl
   | cons e es =>
    simp only [List.all_cons,Bool.and_eq_true] at h4
    exact PE.weak (wB q4 O.rm (O.iA h1) q1 q2 q3 O.fx (ih.es _ _ h5) (cW h2).1 (ak h4.1) (bQ h4.2)) fun _ _ _=>nM (fun z=>by rw [aV z,hl])
  | iU f cs d =>
   replace h:=dI h
   obtain ⟨x,p,as,pos,rfl,h⟩:=h
   simp only [Bool.and_eq_true,decide_eq_true_eq] at h
   obtain ⟨⟨⟨⟨⟨h1,h2⟩,h3⟩,h6⟩,h4⟩,h5⟩:=h
   obtain ⟨fa,fd,ps,du,q1,q2,q3,q5,q4⟩:=O.y9 _ _ _ _ h3
   obtain ⟨hl,_⟩:=eK h5
   cases as with
   | nil=>cases h6
   | cons e es =>
    simp only [List.all_cons,Bool.and_eq_true] at h4
    exact PE.weak (wC q4 O.rm (O.iA h1) q1 q2 q3 q5 O.fx (ih.es _ _ h5) (cW h2).1 (ak h4.1) (bQ h4.2)) fun _ _ _=>t7 (fun z=>by rw [aV z,hl])
  | xx x t =>
   replace h:=dI h
   obtain ⟨y,p,as,pos,rfl,h⟩:=h
   replace h:=uz h
   obtain ⟨l,z0,rfl,h⟩:=h
   replace h:=bu h
   obtain ⟨z,zp,rfl,h⟩:=h
   simp only [Bool.and_eq_true,decide_eq_true_eq] at h
   obtain ⟨⟨⟨⟨⟨⟨⟨h1,h2⟩,h3⟩,h4⟩,h5⟩,h6⟩,h7⟩,h8⟩:=h
   subst h1 h2
   refine PE.weak (bR (yw O.K O.dk) (O.iA h3) (O.blt _ h5) boot_isinstance (aM (ih.e _ _ h8) (aM (rZ (v:=.ty (nv t)) (O.iA h4) (O.blt _ h6) (BJ t) rfl (BY t).1 (BY t).2) cJ) (ak h7)) (by decide) (by decide) (ak h7)) fun _ _ _=>zW
  | jL x c =>
   replace h:=dI h
   obtain ⟨y,p,as,pos,rfl,h⟩:=h
   replace h:=uz h
   obtain ⟨l,z0,rfl,h⟩:=h
   replace h:=bu h
   obtain ⟨z,zp,rfl,h⟩:=h
   replace h:=aB h
   obtain ⟨h,h8⟩:=h
   replace h:=aB h
   obtain ⟨h,h7⟩:=h
   simp only [Bool.and_eq_true,decide_eq_true_eq] at h
   obtain ⟨⟨⟨⟨⟨h1,h3⟩,h4⟩,h5⟩,h2⟩,h6⟩:=h
   subst h1
   cases c with
   | some c =>
    obtain ⟨C,_,_,_,_,_,q1,q2,_⟩:=O.exc _ _ (of_decide_eq_true h7)
    refine PE.weak (bR (oZ (v:=.ref C)) (O.iA h3) (O.blt _ h5) boot_isinstance (aM (ih.e _ _ h8) (aM (rX (v:=.ref C) (O.iA h4) q1 rfl (cW h2).1) cJ) (ak h6)) (by decide) (by decide) (ak h6)) fun _ _ _ q=>?_
    rw [<- O.K]
    refine rG (cv:=.ref C) (fun u r=>r) (fun d D hd=>?_) q
    obtain ⟨k1,_,k3⟩:=O.jL d D hd
    rw [O.K]
    exact ⟨k1,k3 c C q2⟩
   | none =>
    replace h7:=aB h7
    obtain ⟨h7,h9⟩:=h7
    cases of_decide_eq_true h7
    refine PE.weak (bR (oZ (v:=.ty "ValueError")) (O.iA h3) (O.blt _ h5) boot_isinstance (aM (ih.e _ _ h8) (aM (rZ (v:=.ty "ValueError") (O.iA h4) (O.blt _ h9) (show bootBuiltins ("ValueError" : Str)=some (.type "ValueError") by decide +kernel) rfl (by decide) (by decide)) cJ) (ak h6)) (by decide) (by decide) (ak h6)) fun _ _ _ q=>?_
    rw [<- O.K]
    refine rG (cv:=.type "ValueError") (fun u r=>r) (fun d D hd=>?_) q
    obtain ⟨k1,k2,_⟩:=O.jL d D hd
    rw [O.K]
    exact ⟨k1,k2⟩
  | A5 ct x cs =>
   replace h:=xj h
   obtain ⟨o,y,ap,as,cp,rfl,h⟩:=h
   replace h:=gg h
   obtain ⟨l,rfl,h⟩:=h
   simp only [Bool.and_eq_true,decide_eq_true_eq] at h
   obtain ⟨⟨⟨⟨⟨h1,h2⟩,h4⟩,h3⟩,h5⟩,h6⟩:=h
   subst h1
   have fin:∀ σ H Q, T B Φ (GX b X w) (.A5 ct x cs) σ H Q->HJ X.K "list" (DS X.K ct) (T B Φ (GX b X w) x) (TL B Φ (GX b X w) cs) σ H Q:=fun _ _ _ q=>by
    have:=zV q
    rw [O.K] at this
    exact this
   cases ct with
   | true=>exact PE.weak (rY PySem.F.plainAttrs_list PySem.F.slot_list_count PySem.F.type_list_count (wM O.HX true) (ih.e _ _ h5) (ih.es _ _ h6) (aR h2) (by rw [ak h3];rfl) h4 (ak h3)) fin
   | false=>exact PE.weak (rY PySem.F.plainAttrs_list PySem.F.slot_list_index PySem.F.type_list_index (wM O.HX false) (ih.e _ _ h5) (ih.es _ _ h6) (aR h2) (by rw [ak h3];rfl) h4 (ak h3)) fin
  | AO x =>
   replace h:=dI h
   obtain ⟨z,p,as,pos,rfl,h⟩:=h
   replace h:=gg h
   obtain ⟨l,rfl,h⟩:=h
   simp only [Bool.and_eq_true,decide_eq_true_eq] at h
   obtain ⟨⟨⟨⟨h1,h2⟩,h3⟩,h4⟩,h5⟩:=h
   subst h1
   refine PE.weak (bR (uJ (O.calm (dS mw rfl))) (O.iA h2) (O.blt _ h3) PyProof.Rows.boot_max (aM (ih.e _ _ h5) cJ (ak h4)) (by decide) (by decide) (ak h4)) fun _ _ _ q=>?_
   rw [<- O.K]
   exact zR q
  | blt kd fz cs =>
   replace h:=dI h
   obtain ⟨y,p,as,pos,rfl,h⟩:=h
   replace h:=gg h
   obtain ⟨l,rfl,h⟩:=h
   simp only [Bool.and_eq_true,decide_eq_true_eq] at h
   obtain ⟨⟨⟨⟨h1,h2⟩,h3⟩,h4⟩,h5⟩:=h
   have pa:=ih.es _ _ h5
   cases kd <;> simp only [Kh] at h1 <;> first | (cases h1;done) | cases h1
   ·exact PE.weak (bR (uL O.K O.dk) (O.iA h2) (O.blt _ h3) PySem.boot_len pa (by decide) (by decide) (ak h4)) fun _ _ _=>rK
   ·exact PE.weak (kI (uN O.dk) (O.iA h2) (O.blt _ h3) boot_dict pa (by decide) (by decide) (ak h4)) fun _ _ _=>rK
  | bZ m fz x cs =>
   replace h:=xj h
   obtain ⟨o,y,ap,as,cp,rfl,h⟩:=h
   simp only [Bool.and_eq_true] at h
   obtain ⟨⟨⟨h2,h4⟩,h5⟩,h⟩:=h
   cases hm:Jq m with
   | true =>
    rw [hm] at h
    replace h:=aB h
    obtain ⟨h1,h⟩:=h
    replace h:=gg h
    obtain ⟨l,rfl,h⟩:=h
    replace h:=aB h
    obtain ⟨h3,h6⟩:=h
    cases m <;> first | (cases hm;done) | skip
    all_goals cases of_decide_eq_true h1
    ·refine PE.weak (rY PySem.F.plainAttrs_list PySem.F.slot_list_append PySem.F.type_list_append kL (ih.e _ _ h5) (ih.es _ _ h6) (aR h2) ?_ h4 (ak h3)) fun _ _ _ q=>?_
     ·rw [ak h3];rfl
     ·have:=pN q
      rw [O.K] at this
      exact this
    ·refine PE.weak (rY PySem.F.plainAttrs_list PySem.F.slot_list_extend PySem.F.type_list_extend AQ (ih.e _ _ h5) (ih.es _ _ h6) (aR h2) ?_ h4 (ak h3)) fun _ _ _ q=>?_
     ·rw [ak h3];rfl
     ·have:=pM q
      rw [O.K] at this
      exact this
   | false =>
    rw [hm] at h
    replace h:=aB h
    obtain ⟨h,h7⟩:=h
    replace h:=aB h
    obtain ⟨h1,h6⟩:=h
    cases List.isEmpty_iff.mp h6
    cases gR h7
    replace h1:=of_decide_eq_true h1
    cases m <;> simp only [Ct] at h1 <;> first | (cases h1;done) | cases h1
    ·refine PE.weak (wD PySem.F.plainAttrs_list PySem.F.slot_list_pop PySem.F.type_list_pop EM (ih.e _ _ h5) (aR h2) h4) fun _ _ _ q=>?_
     have:=zP q
     rw [O.K] at this
     exact this
    ·refine PE.weak (wD PySem.F.plainAttrs_list PySem.F.slot_list_reverse PySem.F.type_list_reverse qa (ih.e _ _ h5) (aR h2) h4) fun _ _ _ q=>?_
     have:=nI q
     rw [O.K] at this
     exact this
  | comp fz caps tg elt it cond =>
   replace h:=aB h
   obtain ⟨h0,h⟩:=h
   cases b with
   | true=>cases h0
   | false =>
    replace h:=CB h
    obtain ⟨el,tn,iter,ifs,scope,p,rfl,h⟩:=h
    obtain ⟨C1,C2,C3,C4⟩:=nG (dS mw rfl) O ih FJ h
    exact PE.weak (Aw (Ax (O.calm (dS mw rfl)) C1 C2 O.fr O.fx C3 C4)) fun _ _ _=>nL
  | chain _ _ _ _ _=>cases h
  | tru _=>cases h
  | fld x f =>
   replace h:=qj h
   obtain ⟨l,y,p,rfl,h⟩:=h
   simp only [Bool.and_eq_true,decide_eq_true_eq] at h
   obtain ⟨⟨⟨h1,h2⟩,h3⟩,h4⟩:=h
   subst h1
   exact PE.weak (Ei (ih.e _ _ h4) (aR h3)) fun _ _ _=>Aa fun c C hc=>⟨(O.cls c C hc).1,(O.cls c C hc).2 _ h2⟩
  | cR c m nm x cs =>
   replace h:=xj h
   obtain ⟨o,y,ap,as,cp,rfl,h⟩:=h
   simp only [Bool.and_eq_true,decide_eq_true_eq] at h
   obtain ⟨⟨⟨⟨⟨⟨⟨h1,h2⟩,h3⟩,h4⟩,h5⟩,h6⟩,h7⟩,h8⟩:=h
   subst h1
   obtain ⟨C,fa,fd,ps,q1,q2,q3,q4⟩:=O.yW _ _ _ _ h5
   obtain ⟨hl,_⟩:=eK h8
   cases as with
   | nil =>
    refine PE.weak (ue (ih.e _ _ h7) (O.cls _ _ q1).1 q2 q4 O.rm q3 O.fx (kM (aR h2) h6 h4 h3)) fun _ _ _ q=>?_
    have:=rA (n:=1) q1 (fun z=>by rw [aV z,hl];rfl) q
    cases cs with
    | nil =>
     obtain ⟨σD,M,F,ρ,S,r,z⟩:=this
     exact ⟨σD,M,F,ρ,S,r,ah.imp z fun v H' ⟨a,dx,fs,z1,z2,z3,z4⟩=>⟨a,dx,fs,z1,z2,z3,gC z4⟩⟩
    | cons _ _=>simp [iQ] at hl
   | cons e es =>
    simp only [List.all_cons,Bool.and_eq_true] at h6
    exact PE.weak (wm (ih.e _ _ h7) (O.cls _ _ q1).1 q2 q4 O.rm q3 O.fx (ih.es _ _ h8) (ak h6.1) (bQ h6.2) (kM (aR h2) (by simp [h6.1,h6.2]) h4 h3)) fun _ _ _=>rA q1 (fun z=>by rw [aV z,hl])
  | new c i cs =>
   replace h:=dI h
   obtain ⟨x,p,as,pos,rfl,h⟩:=h
   simp only [Bool.and_eq_true,decide_eq_true_eq] at h
   obtain ⟨⟨⟨⟨h1,h2⟩,h3⟩,h4⟩,h5⟩:=h
   obtain ⟨C,fa,fd,ps,q1,q2,q3,q4,q5⟩:=O.Jc _ _ _ _ h3
   obtain ⟨hl,_⟩:=eK h5
   rcases q5 with ⟨j,rfl,q5⟩ | q5
   ·cases as with
    | nil =>
     refine PE.weak (uf q3 q5 O.rm (O.iA h1) q1 q4 O.fx (cW h2).1) fun _ _ _ q=>?_
     have:=rD (n:=1) q2 (fun z=>by rw [aV z,hl];rfl) q
     cases cs with
     | nil=>exact gC this
     | cons _ _=>simp [iQ] at hl
    | cons e es =>
     simp only [List.all_cons,Bool.and_eq_true] at h4
     exact PE.weak (wu q3 q5 O.rm (O.iA h1) q1 q4 O.fx (ih.es _ _ h5) (cW h2).1 (ak h4.1) (bQ h4.2)) fun _ _ _=>rD q2 (fun z=>by rw [aV z,hl])
   ·cases as with
    | nil =>
     intro pins s σ H Q I q
     have:=nJ q5 q
     cases cs with
     | nil=>exact (gC this).elim
     | cons _ _=>simp [iQ] at hl
    | cons e es =>
     simp only [List.all_cons,Bool.and_eq_true] at h4
     exact PE.weak (wo q3 (O.iA h1) q1 (ih.es _ _ h5) (cW h2).1 (ak h4.1) (bQ h4.2)) fun _ _ _=>nJ q5
  | mx hi x y =>
   replace h:=dI h
   obtain ⟨z,p,as,pos,rfl,h⟩:=h
   replace h:=uz h
   obtain ⟨l,q,rfl,h⟩:=h
   simp only [Bool.and_eq_true,decide_eq_true_eq] at h
   obtain ⟨⟨⟨⟨⟨⟨h1,h2⟩,h3⟩,h4⟩,h5⟩,h6⟩,h7⟩:=h
   have pa:=aM (ih.e _ _ h6) (aM (ih.e _ _ h7) cJ (ak h5)) (ak h4)
   cases hi with
   | true =>
    subst h1
    exact PE.weak (bR (uK (O.calm (dS mw rfl))) (O.iA h2) (O.blt _ h3) PyProof.Rows.boot_max pa (by decide) (by decide) (ak h4) (bQ (es:=[_]) (by simp [h5]))) fun _ _ _=>zT
   | false =>
    subst h1
    exact PE.weak (bR (uI (O.calm (dS mw rfl))) (O.iA h2) (O.blt _ h3) PyProof.Rows.boot_min pa (by decide) (by decide) (ak h4) (bQ (es:=[_]) (by simp [h5]))) fun _ _ _=>zS
  | nc f x =>
   replace h:=dI h
   obtain ⟨y,p,as,pos,rfl,h⟩:=h
   replace h:=gg h
   obtain ⟨l,rfl,h⟩:=h
   simp only [Bool.and_eq_true,decide_eq_true_eq] at h
   obtain ⟨⟨⟨⟨h1,h2⟩,h3⟩,h4⟩,h5⟩:=h
   subst h1
   have pa:=aM (ih.e _ _ h5) cJ (ak h4)
   cases f
   ·exact PE.weak (bR uO (O.iA h2) (O.blt _ h3) PyProof.Rows.boot_abs pa (by decide) (by decide) (ak h4)) fun _ _ _=>rH
   ·exact PE.weak (kI uM (O.iA h2) (O.blt _ h3) (show bootBuiltins ("int" : Str)=some (.type "int") by decide +kernel) pa (by decide) (by decide) (ak h4)) fun _ _ _=>rH
  | all1 x=>cases h
  | KZ fz x=>cases h
  | rv fz x=>cases h
  | KY fz x y=>cases h
  | dz x y =>
   replace h:=dI h
   obtain ⟨z,p,as,pos,rfl,h⟩:=h
   replace h:=gg h
   obtain ⟨a1,rfl,h⟩:=h
   replace h:=dI h
   obtain ⟨u,p2,as2,pos2,rfl,h⟩:=h
   replace h:=uz h
   obtain ⟨l,q,rfl,h⟩:=h
   simp only [Bool.and_eq_true,decide_eq_true_eq] at h
   obtain ⟨⟨⟨⟨⟨⟨⟨⟨⟨h1,h2⟩,h3⟩,h4⟩,h5⟩,h6⟩,h7⟩,h8⟩,h9⟩,uW⟩:=h
   subst h1 h2
   have pa:=aM (ih.e _ _ h9) (aM (ih.e _ _ uW) cJ (ak h8)) (ak h7)
   refine PE.weak (IG (O.calm (dS mw rfl)) (O.iA h3) (O.blt _ h5) (O.iA h4) (O.blt _ h6) pa (by rw [ak h7,ak h8];rfl) (by rw [ak h8];rfl)) fun _ _ _ q=>?_
   have:=DB q
   rw [O.K] at this
   exact this
end
end Fg
end
section
namespace Fg
open PySem PySem.Spec L2
section
variable {G:Gm} {B:Bd} {Φ:bh} {k:Nat} {X:Cx} {N:List Str} {sc:Scope} {b:Bool} {n:Nat} {w:XS}
theorem HL (O:dX G B Φ k X N sc b w) (ih:yQ G B Φ k n X N sc b w) (a:Expr) (c:Fg.E) (h:gn G (n+1) b N sc (.t a c)=true) :
  PT X a (TB B Φ (GX b X w) c)/\(∀ op v p,a=.BoolOp op v p->PW X a (TB B Φ (GX b X w) c)):=by
 replace h:=r9 h
 rcases h with ⟨op,v,p,rfl,h⟩ | h
 ·have pt:=(ih.t _ _ h).1
  have pw:PW X (.BoolOp op [v] p) (TB B Φ (GX b X w) c):=by
   cases op
   ·exact pw_and1 pt
   ·exact pw_or1 pt
  exact ⟨pw.pt,fun _ _ _ _=>pw⟩
 ·have notB:∀ {P:Prop},p9 a=true->(∀ op v p,a=.BoolOp op v p->P):=fun hq op v p e=>by subst e;simp [p9] at hq
  have plain:p9 a=true->gn G n b N sc (.e a c)=true->PT X a (TB B Φ (GX b X w) c)/\(∀ op v p,a=.BoolOp op v p->PW X a (TB B Φ (GX b X w) c)):=fun h1 h2 =>
   ⟨DU (ih.e _ _ h2) (tX h1),notB h1⟩
  have pln:(p9 a&&gn G n b N sc (.e a c))=true->PT X a (TB B Φ (GX b X w) c)/\(∀ op v p,a=.BoolOp op v p->PW X a (TB B Φ (GX b X w) c)):=fun hq=>by
   simp only [Bool.and_eq_true] at hq;exact plain hq.1 hq.2
  cases c with
  | bad=>exact ⟨fun _ _ _ _ _ _ q=>(yP q).elim,fun _ _ _ _ _ _ _ _ _ _ _ q=>(yP q).elim⟩
  | cmp o x y =>
   replace h:=xg h
   obtain ⟨l,p,q,pos,rfl,h⟩:=h
   ·simp only [Bool.and_eq_true,decide_eq_true_eq,Bool.not_eq_true'] at h
    obtain ⟨⟨⟨h1,h2⟩,h3⟩,h4⟩:=h
    subst h1
    exact ⟨PT.weak (Al (wF O.K O.HX O.dk o) (ih.e _ _ h3) (ih.e _ _ h4) h2) fun _ _ _=>rJ,fun _ _ _ e=>by cases e⟩
  | not x =>
   replace h:=w5 h
   obtain ⟨o,l,p,rfl,h⟩:=h
   replace h:=aB h
   obtain ⟨ho,h⟩:=h
   cases sA ho
   exact ⟨PT.weak (DW (ih.t _ _ h).1) fun _ _ _=>vP,fun _ _ _ e=>by cases e⟩
  | and x y =>
   replace h:=sj h
   obtain ⟨o,v,w',r,p,rfl,h⟩:=h
   replace h:=aB h
   obtain ⟨h,h3⟩:=h
   replace h:=aB h
   obtain ⟨h1,h2⟩:=h
   cases sD h1
   have pw:=PW.weak (pw_and (ih.t _ _ h2).1 ((ih.t _ _ h3).2 _ _ _ rfl)) fun _ _ _=>vQ
   exact ⟨pw.pt,fun _ _ _ _=>pw⟩
  | or x y =>
   replace h:=sj h
   obtain ⟨o,v,w',r,p,rfl,h⟩:=h
   replace h:=aB h
   obtain ⟨h,h3⟩:=h
   replace h:=aB h
   obtain ⟨h1,h2⟩:=h
   cases xA (by simpa using h1)
   have pw:=PW.weak (pw_or (ih.t _ _ h2).1 ((ih.t _ _ h3).2 _ _ _ rfl)) fun _ _ _=>Ab
   exact ⟨pw.pt,fun _ _ _ _=>pw⟩
  | _=>exact pln h
theorem HN (O:dX G B Φ k X N sc b w) (ih:yQ G B Φ k n X N sc b w) (hb:b=false) (a:Expr) (c:Src) (tg:Expr) (hz:(!K6 c||isTup tg)=true) (h:gn G (n+1) b N sc (.i a c)=true):PI X tg a (GI B Φ (GX b X w) c):=by
 subst hb
 cases c with
 | e c =>
  replace h:=aB h
  obtain ⟨_,h⟩:=h
  exact PI.weak (D8 O.K (ih.e _ _ h)) fun _ _ _=>Dz
 | Cf c=>cases h
 | DL c d=>cases h
 | DJ c d=>cases h
 | enum _=>cases h
 | items _=>cases h
 | rev c =>
  replace h:=dI h
  obtain ⟨y,p,as,pos,rfl,h⟩:=h
  replace h:=gg h
  obtain ⟨l,rfl,h⟩:=h
  simp only [Bool.and_eq_true,decide_eq_true_eq] at h
  obtain ⟨⟨⟨⟨h1,h2⟩,h3⟩,h4⟩,h5⟩:=h
  subst h1
  refine PI.weak (D7 (O.iA h2) (O.blt _ h3) (aM (ih.e _ _ h5) cJ (ak h4)) (ak h4)) fun _ _ _ q=>?_
  have:=zN q
  rw [O.K] at this
  exact this
 | zip c d=>cases h
theorem swap_eq (O:dX G B Φ k X N sc b w) {el tn iter:Expr} {ifs:List Expr} {scope:Scope} {lp px p:Pos} {x:Str}:swapsWith (.ListComp el [⟨tn,iter,ifs,0⟩] scope lp) (some (.Name x px)) p.line X.env=pure (vt sc scope x px lp):=by
 rw [<- O.hsc];rfl
theorem zK {E:Gx} {Dn:Ends} {σ:L2.St} {H:Hp} {tg:List Nat} {e:Fg.E} (h:TC B Φ E (.zw tg e) Dn σ H):vq (T B Φ E e) (G3 tg B.K) Dn σ H:=by
 obtain ⟨σD,M,F,ρ,S,r,h⟩:=h
 simp only [ex] at h
 refine TC.one S r h fun x M1 F1 ρ1 H1 v e1 S1 r1 rx h1=>?_
 split at h1
 ·rename_i σ1 hs
  exact jw r1 rx hs fun σ' q=>aI.run h1 S1 σ' q
 ·exact h1.elim
noncomputable abbrev IW:XS:=fun _ _ _ _=>False
theorem dX.suite (O:dX G B Φ k X N sc false w) (pins:List (Addr×Obj)) (e:Value):dX (jN G) B Φ k (Fg.suite (gp X pins) e) N sc false IW :=
 ⟨O.hN,O.nd,O.hsc,O.K,(fun z=>by cases z),⟨(fun z=>by cases z),O.rm.dp,O.rm.un⟩,O.dk,(fun _ _ z=>z.elim),(fun e s ⟨_,_,_,_,_,_,_,_,_,_,_,_,_,_,z⟩=>z),(fun _ z=>by cases z),(by
  obtain ⟨env,outer,L,h1,h2,h3⟩:=O.fr
  exact ⟨env,outer,L,h1,h2,h3⟩),O.fn,O.o9,O.cst,O.blt,O.cls,(fun _ _ _ _ z=>by cases z),(fun _ _ _ _ z=>by cases z),O.exc,O.CJ,(fun _ _ _ _ z=>by cases z),O.st,O.o9,O.jL⟩
theorem zE {Y:Cx} {E:Value->Shared->Prop} {D:Ends} {pins:List (Addr×Obj)} {st:Sem Flow} {s:Shared} (h:wpAny (model Y.prog Y.w) Y.A st (SP Y pins { nx:=D.nx,rt:=fun _ _=>False }) E s):wpAny (model Y.prog Y.w) Y.A st (SP Y pins D) E s :=
 wpAny_mono h (fun f s2 z=>by
  cases f with
  | next=>exact z
  | brk=>obtain ⟨_,_,_,q⟩:=z;exact q.elim
  | cont=>obtain ⟨_,_,_,q⟩:=z;exact q.elim
  | ret u=>obtain ⟨_,_,_,_,_,q⟩:=z;exact q.elim) fun _ _ z=>z
theorem pK (yY:∀ G' X' N' sc' b' w',dX G' B Φ k X' N' sc' b' w'->yQ G' B Φ k n X' N' sc' b' w') (O:dX G B Φ k X N sc false w):∀ {hds:List ExceptHandler} {hs:Hs},K9 (BB n) G N sc hds hs=true->∃ rs,BR B Φ (GX false X IW) B.yT hs=some rs/\∀ pins,PH (gp X pins) hds rs
 | [],hs,h=>by
  cases A8 (c:=hs) h
  exact ⟨[],rfl,fun _=>.nil⟩
 | hd::r,.nil,h=>by cases h
 | hd::r,.cons cs b hs,h=>by
  replace h:=CC h
  obtain ⟨t,nm,s,bd,hp,rfl,h⟩:=h
  replace h:=bu h
  obtain ⟨x,np,rfl,h⟩:=h
  replace h:=gg h
  obtain ⟨c,rfl,h⟩:=h
  simp only [Bool.and_eq_true,decide_eq_true_eq,Option.isNone_iff_eq_none] at h
  obtain ⟨⟨⟨⟨⟨rfl,h1⟩,h2⟩,h3⟩,h4⟩,h5⟩:=h
  obtain ⟨rs,hrs,ph⟩:=pK yY O h5
  obtain ⟨C,bmB,newId,bm,base,initId,q1,q2,q3,q4,q5,q6⟩:=O.exc _ _ h3
  exact ⟨(C,fun _ D σ H=>tP B Φ (GX false X IW) b { nx:=D.nx,rt:=fun _ _=>False } σ H)::rs,by simp only [BR,q2,hrs],fun pins=>.cons q1 (O.iA h1) (cW h2).1 q4 q6 (fun e=>fun p s' σ H D I q=>zE ((yY _ _ _ _ _ _ (O.suite pins e)).ss _ _ h4 p s' σ H _ I q)) (ph pins)⟩
 | hd::r,.as c i b hs,h=>by
  replace h:=CC h
  obtain ⟨t,nm,s,bd,hp,rfl,h⟩:=h
  replace h:=bu h
  obtain ⟨x,np,rfl,h⟩:=h
  simp only [Bool.and_eq_true,decide_eq_true_eq] at h
  obtain ⟨⟨⟨⟨⟨⟨h6,h7⟩,h1⟩,h2⟩,h3⟩,h4⟩,h5⟩:=h
  obtain ⟨rs,hrs,ph⟩:=pK yY O h5
  obtain ⟨C,bmB,newId,bm,base,initId,q1,q2,q3,q4,q5,q6⟩:=O.exc _ _ h3
  cases nm with
  | none=>cases h7
  | some y =>
   have hl:X.env.scope.names.lookup y=some .local:=by
    rw [O.hsc]
    have h7:qf sc y=true:=h7
    unfold qf at h7
    split at h7
    ·assumption
    ·cases h7
   exact ⟨(C,asR i (tP B Φ (GX false X IW) b))::rs,by simp only [BR,q2,hrs],fun pins=>.as q1 (O.iA h1) (cW h2).1 q4 q6 (by show X.N.Nodup;rw [O.hN];exact O.nd) (by show X.N[i]? = some y;rw [O.hN];exact h6.symm) hl (fun e=>(yY _ _ _ _ _ _ (O.suite pins e)).ss _ _ h4) (ph pins)⟩
theorem zD {Y:Cx} {E:Value->Shared->Prop} {pins:List (Addr×Obj)} {D:Ends} {f:Flow} {s':Shared} (h:SP Y pins D f s'):SP (Y.bz E) pins D f s':=by
 cases f with
 | next=>obtain ⟨σ',H',I,q⟩:=h;exact ⟨σ',H',I.bz _,q⟩
 | brk=>obtain ⟨σ',H',I,q⟩:=h;exact ⟨σ',H',I.bz _,q⟩
 | cont=>obtain ⟨σ',H',I,q⟩:=h;exact ⟨σ',H',I.bz _,q⟩
 | ret u=>obtain ⟨v,σ',H',I,r,q⟩:=h;exact ⟨v,σ',H',I.bz _,r,q⟩
theorem zF {rs:List (Addr×TX)} {pins:List (Addr×Obj)} {D:Ends} {x:Ss} {bd:List Stmt} (yY:∀ G' X' N' sc' b' w',dX G' B Φ k X' N' sc' b' w'->yQ G' B Φ k n X' N' sc' b' w') (O:dX G B Φ k X N sc false w) (h:gn { G with rz:=false } n false N sc (.ss bd x)=true) :
  j5 ((gp X pins).bz (g7 (gp X pins) (EH X.K rs D))) bd (tP B Φ (GX false X (EH X.K rs D)) x):=by
 have O':dX { G with rz:=false } B Φ k ((gp X pins).bz (g7 (gp X pins) (GX false (gp X pins) (EH X.K rs D)).e)) N sc false (EH X.K rs D) :=
  ⟨O.hN,O.nd,O.hsc,O.K,O.calm,O.rm,O.dk,(fun e s ⟨p,σ,H,a,a0,C,B,h1,I,h⟩=>.inl ⟨p,σ,H,a,a0,C,B,h1,I.bz _,h⟩),(fun e s ⟨p,σ,H,a,a0,C,B,h1,I,h⟩=>⟨p,σ,H,a,a0,C,B,h1,I.aX,h⟩),(fun _ h=>by cases h),(by
   obtain ⟨env,outer,L,h1,h2,h3⟩:=O.fr
   exact ⟨env,outer,L,h1,h2,h3⟩),O.fn,O.fns,O.cst,O.blt,O.cls,O.yW,O.Jc,O.exc,O.CJ,O.y9,O.st,O.o9,O.jL⟩
 have P:=(yY _ _ _ _ _ _ O').ss bd x h
 intro IB s σ H Dn I q
 exact wpAny_mono (P IB s σ H Dn (I.aX.bz _) q) (fun _ _ z=>zD (SP.aX z)) fun e s2 z=>oG z
theorem zM {rs:List (Addr×TX)} {hs:Hs} {x:Ss} {Dn:Ends} {σ:L2.St} {H:Hp} (O:dX G B Φ k X N sc false w) (hrs:BR B Φ (GX false X IW) B.yT hs=some rs) (h:TC B Φ (GX false X w) (.try x hs .nil) Dn σ H):tP B Φ (GX false X (EH X.K rs Dn)) x Dn σ H:=by
 obtain ⟨σD,M,F,ρ,S,r,h⟩:=h
 simp only [ex] at h
 refine ⟨σD,M,F,ρ,S,r,?_⟩
 cases hx:exs Φ x σD M with
 | bad=>rw [hx] at h;exact h
 | exc c M1=>rw [hx] at h;exact h
 | ok o M1 =>
  rw [hx] at h
  simp only [R.aa] at h
  intro F1 ρ1 H1 e1 S1
  cases o with
  | nx σ1=>simp only [exs] at h;exact h F1 ρ1 H1 e1 S1
  | rt d=>exact h F1 ρ1 H1 e1 S1
  | bk σ1=>exact h F1 ρ1 H1 e1 S1
  | ct σ1=>exact h F1 ρ1 H1 e1 S1
  | xc c σ1 =>
   intro σ' cv x' r1 hcv
   obtain ⟨C,bmB,newId,bm,rfl,hC,EC,sub⟩:=O.CJ c cv hcv
   obtain ⟨t,pk,ht⟩:=lI (mro:=.ref C::bm) sub hC hrs S1 r1 (aI.weak e1 h)
   exact ⟨H1,.refl _,C,bmB,newId,bm,t,rfl,EC,pk,ht⟩
theorem HM (O:dX G B Φ k X N sc b w) (ih:yQ G B Φ k n X N sc b w) (yY:∀ G' X' N' sc' b' w',dX G' B Φ k X' N' sc' b' w'->yQ G' B Φ k n X' N' sc' b' w') (a:Stmt) (c:S) (h:gn G (n+1) b N sc (.s a c)=true):PS X a (TC B Φ (GX b X w) c):=by
 have FJ:=fun X' N' sc' w' (O':dX G B Φ k X' N' sc' true w')=>yY G X' N' sc' true w' O'
 have hp:PassesOwn (model X.prog X.w) X.A X.env X.xe:=pY O.fr O.fo O.fx
 replace h:=aB h
 obtain ⟨mw,h⟩:=h
 cases c with
 | bad=>exact fun _ _ _ _ _ _ q=>(GJ q).elim
 | set i c =>
  replace h:=l6 h
  obtain ⟨t,e,p,rfl,h⟩:=h
  replace h:=Jj h
  obtain ⟨x,px,rfl,h⟩:=h
  simp only [Bool.and_eq_true,decide_eq_true_eq] at h
  obtain ⟨⟨⟨h3,h1⟩,h2⟩,h4⟩:=h
  cases b with
  | true=>cases h3
  | false =>
   have st:gn G n false N sc (.e e c)=true->swapsWith e (some (.Name x px)) p.line X.env=pure false->PS X (.Assign [.Name x px] e p) (TC B Φ (GX false X w) (.set i c)):=fun q w =>
    PS.weak (DY (by rw [O.hN];exact O.nd) (by rw [O.hN];exact h1) (O.loc h2) (ih.e _ _ q) w (.inl (O.fn rfl x))) fun _ _ _=>rB
   replace h4:=A3 h4
   rcases h4 with ⟨fz,caps,tg,elt,it,cond,rfl,h4⟩ | h4
   ·obtain ⟨el,tn,iter,ifs,scope,lp,rfl,h4⟩:=CB h4
    cases hs:vt sc scope x px lp with
    | true =>
     rw [hs] at h4
     replace h4:=aB h4
     obtain ⟨h4,k7⟩:=h4
     obtain ⟨C1,C2,C3,C4⟩:=nG (dS mw rfl) O ih FJ h4
     have hl:X.env.scope.names.lookup x=some .local:=by rw [O.hsc];exact wV k7
     refine PS.weak (rT (An (by rw [O.hN];exact O.nd) (by rw [O.hN];exact h1) hl (O.calm (dS mw rfl)) C1 C2 O.fr O.fx C3 C4 (by rw [swap_eq O,hs]))) fun D σ H q=>?_
     exact nL (rB q)
    | false =>
     rw [hs] at h4
     exact st h4 (by rw [swap_eq O,hs])
   ·replace h4:=aB h4
    obtain ⟨q1,q2⟩:=h4
    exact st q2 (jh q1)
 | pO x y c =>
  replace h:=l6 h
  obtain ⟨t,e,p,rfl,h⟩:=h
  replace h:=qh h
  obtain ⟨o,i,q,rfl,h⟩:=h
  simp only [Bool.and_eq_true] at h
  obtain ⟨⟨⟨h1,h2⟩,h3⟩,h4⟩:=h
  exact PS.weak (Ao O.HX (ih.e _ _ h3) (ih.e _ _ h4) (ih.e _ _ h2) (jh h1)) fun _ _ _=>vL
 | ex c =>
  replace h:=Fx h
  obtain ⟨e,p,rfl,h⟩:=h
  replace h:=aB h
  obtain ⟨h1,h2⟩:=h
  exact PS.weak (Aq (ih.e _ _ h2) (jh h1)) fun _ _ _=>DA
 | ret c =>
  replace h:=E8 h
  rcases h with ⟨p,rfl,h⟩ | ⟨e,p,rfl,h⟩
  ·cases h
  ·exact PS.weak (DZ (ih.e _ _ h)) fun _ _ _=>zO
 | DM=>cases h
 | ifs c x y =>
  replace h:=Fp h
  obtain ⟨t,l,q,p,rfl,h⟩:=h
  replace h:=aB h
  obtain ⟨h,h3⟩:=h
  replace h:=aB h
  obtain ⟨h1,h2⟩:=h
  exact PS.weak (Iz (ih.t _ _ h1).1 (ih.ss _ _ h2) (ih.ss _ _ h3)) fun _ _ _=>zX
 | «for» tg it x =>
  replace h:=Fw h
  obtain ⟨tn,iter,body,p,rfl,h⟩:=h
  simp only [Bool.and_eq_true] at h
  obtain ⟨⟨⟨⟨⟨h0,hz⟩,h1⟩,h2⟩,h3⟩,h4⟩:=h
  cases b with
  | true=>cases h0
  | false=>exact PS.weak (rT (D0 hp (O.calm (dS mw rfl)) (ih.i rfl _ _ _ hz h2) (O.tg (dS mw rfl) h3).1 (ih.ss _ _ h4) (set_plain h1))) fun _ _ _=>z9
 | «while» c x =>
  replace h:=Jh h
  obtain ⟨t,body,p,rfl,h⟩:=h
  replace h:=aB h
  obtain ⟨h1,h2⟩:=h
  exact PS.weak (wc hp (ih.t _ _ h1).1 (ih.ss _ _ h2)) fun _ _ _=>tZ
 | brk=>cases h
 | cont=>cases h
 | pass=>cases h
 | d9 x f c =>
  replace h:=l6 h
  obtain ⟨t,e,p,rfl,h⟩:=h
  replace h:=qj h
  obtain ⟨o,y,q,rfl,h⟩:=h
  simp only [Bool.and_eq_true,decide_eq_true_eq] at h
  obtain ⟨⟨⟨⟨h1,h2⟩,h3⟩,h4⟩,h5⟩:=h
  subst h1
  exact PS.weak (D3 (ih.e _ _ h5) (ih.e _ _ h4) (jh h3)) fun _ _ _=>vM fun c C hc=>⟨(O.cls c C hc).1,(O.cls c C hc).2 _ h2⟩
 | zw tg c =>
  replace h:=l6 h
  obtain ⟨tn,e,p,rfl,h⟩:=h
  simp only [Bool.and_eq_true] at h
  obtain ⟨⟨⟨⟨h0,h1⟩,h2⟩,h3⟩,h4⟩:=h
  cases tn <;> first | (cases h1;done) | skip
  cases e <;> first | (cases h3;done) | exact PS.weak (D4 (ih.e _ _ h4) (O.tg (dS mw rfl) h2).1 rfl rfl rfl) fun _ _ _=>zK
 | raise c es =>
  replace h:=aB h
  obtain ⟨h,h'⟩:=h
  replace h:=aB h
  obtain ⟨hb,hz⟩:=h
  cases b with
  | true=>cases hb
  | false =>
   replace h':=Fb h'
   obtain ⟨e,pos,rfl,h⟩:=h'
   replace h:=dI h
   obtain ⟨x,np,as,cp,rfl,h⟩:=h
   replace h:=gg h
   obtain ⟨m,rfl,h⟩:=h
   simp only [Bool.and_eq_true,decide_eq_true_eq] at h
   obtain ⟨⟨⟨h1,h2⟩,h3⟩,h4⟩:=h
   obtain ⟨C,bmB,newId,bm,base,initId,q1,q2,q3,q4,q5,q6⟩:=O.exc _ _ h3
   replace h4:=Fi h4
   rcases h4 with ⟨z,j,p,rfl,h4⟩ | ⟨vs,p,rfl,h4⟩
   ·cases gR h4
    refine PS.weak (nZ q1 (O.iA h1) (cW h2).1 q4 q5 (O.calm (dS mw rfl)) rfl (aM pW cJ rfl) (O.nx rfl hz)) fun D σ H q=>?_
    exact ⟨by show 1<=2 ^ 24;decide,(kD q3 q).nil⟩
   ·simp only [Bool.and_eq_true,decide_eq_true_eq] at h4
    refine PS.weak (nZ q1 (O.iA h1) (cW h2).1 q4 q5 (O.calm (dS mw rfl)) rfl (aM (Ef (ih.m _ _ h4.2) h4.1.1 h4.1.2) cJ rfl) (O.nx rfl hz)) fun D σ H q=>?_
    obtain ⟨σD,M,F,ρ,S,r,z⟩:=kD q3 q
    exact ⟨σD,M,F,ρ,S,r,ah.imp z fun _ H' z y=>⟨by show 1<=2 ^ 24;decide,z⟩⟩
 | «try» x hs els =>
  replace h:=aB h
  obtain ⟨h,h'⟩:=h
  replace h:=aB h
  obtain ⟨hb,he⟩:=h
  cases b with
  | true=>cases hb
  | false =>
   cases rj he
   replace h':=E4 h'
   obtain ⟨bd,h₀,hr,p,rfl,h⟩:=h'
   replace h:=aB h
   obtain ⟨h1,h2⟩:=h
   obtain ⟨rs,hrs,ph⟩:=pK yY O h2
   exact PS.weak (DX (O.st rfl).1 (O.st rfl).2 (fun pins D=>zF yY O h1) ph) fun D σ H q=>zM O hrs q
theorem sound:∀ (n:Nat) {G:Gm} {X:Cx} {N:List Str} {sc:Scope} {b:Bool} {w:XS},dX G B Φ k X N sc b w->yQ G B Φ k n X N sc b w
 | 0,G,X,N,sc,b,w,O=>⟨fun _ _ h=>(by cases h),fun _ _ h=>(by cases h),fun _ _ h=>(by cases h),fun _ _ h=>(by cases h),fun _ _ _ _ _ h=>(by cases h),fun _ _ h=>(by cases h),fun _ _ h=>(by cases h),fun _ _ h=>(by cases h)⟩
 | n+1, G, X, N, sc, b, w, O=>by
  have ih:=sound n O
  have FJ:=fun X' N' sc' w' (O':dX G B Φ k X' N' sc' true w')=>sound n O'
  refine ⟨HP O ih FJ,HL O ih,fun a c h=>?_,fun a c h=>?_,fun hb=>HN O ih hb,HM O ih (fun G' X' N' sc' b' w' O'=>sound n O'),fun a c h=>?_,fun a c h=>?_⟩
  ·cases a with
   | nil =>
    cases gR (c:=c) h
    exact PA.weak cJ fun _ _ _=>gC
   | cons a as =>
    replace h:=xq (c:=c) h
    obtain ⟨c,cs,rfl,h⟩:=h
    replace h:=aB h
    obtain ⟨h,h3⟩:=h
    replace h:=aB h
    obtain ⟨h1,h2⟩:=h
    exact PA.weak (aM (ih.e _ _ h2) (ih.es _ _ h3) (ak h1)) fun _ _ _=>vO
  ·cases c with
   | none =>
    cases a with
    | none=>exact PO.weak Au fun _ _ _=>Dy
    | some _=>cases h
   | some c =>
    cases a with
    | none=>cases h
    | some a=>exact PO.weak (As (ih.e _ _ h)) fun _ _ _=>Dw
  ·cases a with
   | nil =>
    cases rj (c:=c) h
    exact j5.weak Am fun _ _ _=>vK
   | cons a as =>
    replace h:=Jm (c:=c) h
    obtain ⟨c,cs,rfl,h⟩:=h
    replace h:=aB h
    obtain ⟨h1,h2⟩:=h
    exact j5.weak (v9 (ih.s _ _ h1) (ih.ss _ _ h2)) fun _ _ _=>t6
  ·cases a with
   | nil =>
    cases gR (c:=c) h
    exact .nil
   | cons a as =>
    replace h:=Fe h
    rcases h with ⟨y,j,p,rfl,h⟩ | ⟨v,j,p,rfl,h⟩
    ·replace h:=aB h
     obtain ⟨h1,h2⟩:=h
     exact .lit (of_decide_eq_true h1) (ih.m _ _ h2)
    ·replace h:=xq h
     obtain ⟨e,es,rfl,h⟩:=h
     simp only [Bool.and_eq_true,decide_eq_true_eq] at h
     obtain ⟨⟨h1,h2⟩,h3⟩:=h
     subst h1
     exact .fld (ih.e _ _ h2) (ih.m _ _ h3)
end
end Fg
end
section
namespace Fg
open PySem PySem.Spec L2
inductive BU:List DictEntry->List (Key×V)->Prop
 | nil:BU [] []
 | cons {h:Int} {x:Str} {t:Tok} {u:Value} {v:V} {es:List DictEntry} {kvs:List (Key×V)}:RelV v u->BU es kvs->BU (⟨h,.str x t,u⟩::es) ((Sum.inr x,v)::kvs)
noncomputable def Ly (w:World) (K:W.Frag) (a:Addr) (kvs:List (Key×V)):Prop :=
 kvs.length<=sizeLine/\(a == sysModules)=false/\(kvs.map (·.1)).Nodup/\∃ es n, K.lookup a=some ⟨.type "dict", none, .dict es n, #[]⟩/\W.KeysLit w.params es.toList/\BU es.toList kvs
theorem BU.vs {prog:Program} {w:World}:∀ {es:List DictEntry} {kvs:List (Key×V)},BU es kvs->∃ vs,KV kvs vs/\Pairs (aG prog w) es vs/\vs.map (·.1)=kvs.map (·.1)
 | _,_,.nil=>⟨[],.nil,.nil,rfl⟩
 | _,_,.cons (h:=h) (x:=x) (t:=t) (u:=u) r q=>by
  obtain ⟨vs,h1,h2,h3⟩:=BU.vs q
  exact ⟨(Sum.inr x,u)::vs,.cons ⟨rfl,r⟩ h1,.cons (iw x t) rfl h2,by simp [h3]⟩
theorem Ly.ok {prog:Program} {w:World} {K:W.Frag} {a:Addr} {kvs:List (Key×V)} (d:Ly w K a kvs) (h:Heap) (X:K.In h):kvs.length<=sizeLine/\(a == sysModules)=false/\∃ vs,KV kvs vs/\h.DictOf (aG prog w) a vs:=by
 obtain ⟨h1,h2,h3,es,n,h4,h5,h6⟩:=d
 obtain ⟨vs,q1,q2,q3⟩:=BU.vs (prog:=prog) (w:=w) h6
 refine ⟨h1,h2,vs,q1,_,es,n,X _ _ h4,⟨rfl,rfl,rfl⟩,rfl,fun e he=>?_,q2,by rw [q3];exact h3⟩
 obtain ⟨x,t,e1,e2⟩:=h5.all e (Array.mem_toList_iff.mpr he)
 exact ⟨Sum.inr x,by rw [e1];exact iw x t,e2⟩
theorem F8 {K:W.Frag} {C:Addr} {bmB:List Value} {newId:String} (q:W.excIn K C bmB newId=true):∃ bm,m6 K C bmB newId bm/\∀ v b,W.mroIn K C v=some b->(Value.ref C::bm).contains v=b:=by
 unfold W.excIn at q
 split at q
 ·rename_i dd cd sl lk
  split at q
  ·rename_i C2 bm a0 a1 a2 a3 n a5 hm hs
   simp only [beq_iff_eq,Bool.not_eq_true',Bool.and_eq_true] at q;obtain ⟨⟨⟨⟨⟨rfl,rfl⟩,dl⟩,ht⟩,hok⟩,hni⟩:=q
   obtain ⟨nm,bs,mr,ns,qn,hd,sn,sb,ab,cl,dl'⟩:=cd;dsimp only at hm dl hok hni;subst hm dl
   obtain ⟨l⟩:=sl
   simp only at hs
   subst hs
   refine ⟨bm,⟨nm,qn,ns,bs,hd,sn,sb,ab,cl,dd,a0,a1,a2,a3,a5,lk,hok,hni,ht⟩,fun v b e=>?_⟩
   unfold W.mroIn W.clsIn at e
   rw [lk] at e
   simpa using e
  ·cases q
 ·cases q
theorem jn {C:Addr} {bm:List Value} {s:String} (h:(Value.ref C::bm).contains (.type s)=true):bm.contains (.type s)=true:=by
 rw [List.contains_cons] at h
 simpa using h
noncomputable def gx (w:World) (K:W.Frag) (cl:Nat->Option Addr) (xc:Nat->Option Addr):Bd:=⟨K,Ly w K,cl,fun c cv=>∃ C,xc c=some C/\cv=.ref C,xc⟩
theorem Km {X:Cx} {cl xc:Nat->Option Addr}:j7 (gx X.w X.K cl xc) X:=fun a kvs h hp KX=>Ly.ok h hp KX
structure BS (K:W.Frag) (x qual:Str) (st:Stmt) (f:Addr) (fd:FuncData):Prop where
 ex:∃ (oc:Value) (od:Option Addr) (dV kV doc pm:Value) (an:Option Addr) (cdv ct:Value) (osl:Array (Option Value)),
  fd=W.fnOf x qual (gW st) (bP st) (aC st) dV kV doc pm an cdv ct/\K.lookup f=some ⟨oc,od,.func fd,osl⟩/\W.codeIn K cdv qual=true
noncomputable def FnAt (G:Gm) (P:j9) (K:W.Frag) (i m:Nat) (fa:Addr) (fd:FuncData) (ps:List Str):Prop:=∃ x qual st N fn,BS K x qual st fa fd/\P.fn i=some fn/\c6 N ps (aC st)/\ps.length=m/\fn.np=m/\fn.ns=N.length/\fn.jW=[]/\gn G 200 false N (aC st) (.ss (bP st) fn.body)=true
structure Md (G:Gm) (P:j9) (w:World) (K:W.Frag) (mg:Str->Option Value) (cl xc:Nat->Option Addr):Prop where
 cst:∀ x i,G.cst.lookup x=some i->∃ v u,mg x=some u/\RelV v u/\∀ d,P.glob i=some d->∀ F ρ H,RD (gx w K cl xc) F ρ H d v
 blt:∀ x,G.iG.contains x=true->mg x=none
 fns:∀ f i m,G.fns.lookup f=some (i,m)->∃ fa fd ps,mg f=some (.ref fa)/\W.keepIn K (.ref fa)=true/\Binds K fd ps []/\FnAt G P K i m fa fd ps
 cls:∀ c C,cl c=some C->uU K C/\∀ f,G.Bg.contains f=true->dw K C f
 yW:∀ c nm i m,G.yW.lookup (c,nm)=some (i,m)->∃ C fa fd ps,cl c=some C/\Meth K C nm fa/\Binds K fd ps []/\FnAt G P K i m fa fd ps
 Jc:∀ x c i m,G.cls.lookup x=some (c,i,m)->∃ C fa fd ps,mg x=some (.ref C)/\cl c=some C/\Mk K C fa/\Binds K fd ps []/\FnAt G P K i m fa fd ps
 exc:∀ x c,G.exc.lookup x=some c->∃ C,mg x=some (.ref C)/\xc c=some C
 CJ:∀ c C, xc c=some C->∃ bmB newId bm base initId, m6 K C bmB newId bm/\ExcBaseFacts base newId initId bmB/\bm.contains (.type "BaseException")=true/\∀ d D, xc d=some D->(Value.ref C::bm).contains (.ref D)=P.sub c d
 y9:∀ x f m d,G.y9.lookup x=some (f,m,d)->∃ fa fd ps du,mg x=some (.ref fa)/\W.keepIn K (.ref fa)=true/\Binds K fd ps [du]/\RelV (.int d) du/\FnAt G P K f m fa fd ps
 o9:∀ f i m,G.o9.lookup f=some (i,m)->∃ fa fd ps,mg f=some (.ref fa)/\W.keepIn K (.ref fa)=true/\Binds K fd ps []/\FnAt (jN G) P K i m fa fd ps
 jL:∀ c C, xc c=some C->yO K C/\W.kitOne K (.ref C) (.type "ValueError")=some true/\∀ d D, xc d=some D->W.kitOne K (.ref C) (.ref D)=some (P.sub c d)
theorem Md.cool {G:Gm} {P:j9} {w:World} {K:W.Frag} {mg:Str->Option Value} {cl xc:Nat->Option Addr} (D:Md G P w K mg cl xc):Md (jN G) P w K mg cl xc :=
 ⟨D.cst,D.blt,D.o9,D.cls,(fun _ _ _ _ z=>by cases z),(fun _ _ _ _ z=>by cases z),D.exc,D.CJ,(fun _ _ _ _ z=>by cases z),D.o9,D.jL⟩
section
variable {G:Gm} {P:j9} {w:World} {K:W.Frag} {mg:Str->Option Value} {prog:Program} {base:Heap}
theorem vA {B:Bd} {F:Addr->Prop} {ρ:List Addr} {H:Hp} {N:List Str} {ds:List D} {vs:List V} {n:Nat} (r:ai B F ρ H ds vs) (hn:n=N.length-vs.length):RS B F ρ H (ds.map some++List.replicate n none) (L2.start N vs):=by
 subst hn
 refine ⟨by simp [L2.start,ai.length r],fun i d q=>?_⟩
 by_cases hi:i<ds.length
 ·rw [List.getElem?_append_left (by simpa using hi),List.getElem?_map] at q
  cases hd:ds[i]? with
  | none=>rw [hd] at q;cases q
  | some e =>
   rw [hd] at q
   simp only [Option.map_some,Option.some.injEq] at q
   subst q
   obtain ⟨v,h1,h2⟩:=ai.get r hd
   refine ⟨v,?_,h2⟩
   unfold L2.start
   rw [List.getElem?_append_left (by rw [List.length_map,<- ai.length r];exact hi),List.getElem?_map,h1];rfl
 ·rw [List.getElem?_append_right (by simpa using Nat.le_of_not_lt hi),List.getElem?_replicate] at q
  split at q <;> cases q
theorem kH {B:Bd} {F F':Addr->Prop} {ρ ρ':List Addr} {H H':Hp} {M M':MH} {d:D} {v:V} {kp:Bool} {Q:VK} {X:XK} (S:SR B F ρ M H) (h:Post B (fM kp M d M') F ρ H Q X) (e:Ext F ρ H F' ρ' H') (S':SR B F' ρ' M' H') (rd:RD B F' ρ' H' d v):Q v H':=by
 unfold fM at h
 split at h
 ·rename_i hk
  split at h
  ·rename_i hn
   exact h F' ρ H' v e.cut (S.cut S' e hk.2) (RD.cut e.r (by rw [S.len];exact hn) rd)
  ·rename_i hn
   split at h
   ·rename_i n
    split at h
    ·rename_i ds hM
     split at h
     ·rename_i hns
      simp only [RD] at rd
      obtain ⟨a,h1,rfl⟩:=rd
      obtain ⟨vs,h2,h3⟩:=S'.obj n a _ h1 hM
      have hlt:¬ n<M.length:=by simpa [nr] using hn
      have ha:a∉ρ:=fun z=>by
       obtain ⟨j,hj,ej⟩:=List.mem_iff_getElem.mp z
       have q:ρ'[j]? = some a:=e.at (by rw [List.getElem?_eq_getElem hj,ej])
       obtain ⟨j1,q1⟩:=List.getElem?_eq_some_iff.mp q
       obtain ⟨j2,q2⟩:=List.getElem?_eq_some_iff.mp h1
       have:=(List.getElem_inj S'.nd).mp (q1.trans q2.symm)
       rw [S.len] at hj
       omega
      have hHa:H a=none:=(e.n a (List.mem_of_getElem? h1)).resolve_left ha
      have Sc:=S.cut S' e hk.2
      have r3:=ai.cut e.r (by rw [S.len];exact hns) h3
      have xt:o6 F' ρ H' (fun b=>F' b\/b=a) ρ H':=⟨fun _ q=>.inl q,fun _ _ _=>rfl,List.prefix_refl _⟩
      have ec:=e.cut
      refine h (fun b=>F' b\/b=a) ρ H' (.ref a) ⟨⟨ec.s,fun b q=>.inl (ec.f b q),ec.h,ec.r,ec.n,fun b q=>q.elim (ec.g b) fun z=>.inr (.inl (z ▸ hHa))⟩,ec.z⟩ (Sc.take ha (by rw [h2];simp)) ?_
      simp only [RD]
      exact ⟨a,vs,rfl,.inl ⟨.inr rfl,.inl h2⟩,ai.aS xt _ _ r3⟩
     ·exact h F' ρ' H' v e S' rd
    ·exact h F' ρ' H' v e S' rd
   ·exact h F' ρ' H' v e S' rd
 ·exact h F' ρ' H' v e S' rd
theorem uc {B:Bd} {F F':Addr->Prop} {ρ ρ':List Addr} {H H':Hp} {M M':MH} {c:Nat} {cv:Value} {x:Option Addr} {Q:VK} {X:XK} (S:SR B F ρ M H) (h:Post B (nU M c M') F ρ H Q X) (e:Ext F ρ H F' ρ' H') (S':SR B F' ρ' M' H') (q:B.exc c cv):X cv x H':=by
 unfold nU at h
 split at h
 ·rename_i hk
  exact h F' ρ H' cv x e.cut (S.cut S' e hk) q
 ·exact h F' ρ' H' cv x e S' q
noncomputable abbrev yE (X:Cx) (w:XS):Cx:=X.bz fun e s=>g7 X (GX false X w).e e s\/C6 X (GX false X w).e e s
theorem Bb {x qual:Str} {st:Stmt} {f:Addr} {fd:FuncData} {N ps:List Str} {cm:Bool} {k:Nat} {sp:Sp} (F:BS K x qual st f fd) (S:c6 N ps (aC st)) (len:∀ vs H Q E,sp vs H Q E->vs.length=ps.length)
  (hbody:∀ (cdv:Value) (A:Around) (outer:List Env) (s:Shared) (H:Hp) (vs:List V) (Q:VK) (E:XK),bI cm k (A.deeper (PyProof.Rows.envOfC qual (aC st) s.heap.objs.size f cdv))->sp vs H Q E ->
   ∃ t,j5 (yE (gX (eW prog w) prog w K mg base N qual (aC st) f cdv A outer s H E) fun cv x _ H'=>E cv x H') (bP st) t/\t { nx:=fun _ H'=>Q .ao H',rt:=Q } (L2.start N vs) H):br cm prog w K mg base (eW prog w) (k+1) f fd ps sp:=by
 obtain ⟨oc,od,dV,kV,doc,pm,an,cdv,ct,osl,rfl,lk,hcd⟩:=F.ex
 refine CH lk hcd S len fun A outer s H vs Q E hr h=>?_
 obtain ⟨t,h1,h2⟩:=hbody cdv A outer s H vs Q E hr h
 refine ⟨t,fun pins s1 σ H1 D I q=>?_,h2⟩
 exact wpAny_mono (h1 pins s1 σ H1 D (I.bz _) q) (fun _ _ z=>z.aX) fun e s2 z=>z.elim (fun z=>uv e s2 (oG z)) fun z=>leave_new e s2 (wJ z)
theorem lG {cl xc:Nat->Option Addr} (D:Md G P w K mg cl xc) {k:Nat} (ih:∀ (i m:Nat) (fa:Addr) (fd:FuncData) (ps:List Str),FnAt G P K i m fa fd ps->br G.cm prog w K mg base (eW prog w) k fa fd ps (nE (gx w K cl xc) (af P k) i m))
  (hh:∀ (i m:Nat) (fa:Addr) (fd:FuncData) (ps:List Str),FnAt (jN G) P K i m fa fd ps->br false prog w K mg base (eW prog w) k fa fd ps (nE (gx w K cl xc) (af P k) i m))
  (ih0:∀ j,k=j+1->∀ (i m:Nat) (fa:Addr) (fd:FuncData) (ps:List Str),FnAt G P K i m fa fd ps->br G.cm prog w K mg base (eW prog w) j fa fd ps (nE (gx w K cl xc) (af P j) i m))
  {f qual:Str} {i m:Nat} {fa:Addr} {fd:FuncData} {ps:List Str} {st:Stmt} {N:List Str} {fn:Fn} (h2:BS K f qual st fa fd) (h4:P.fn i=some fn) (h5:c6 N ps (aC st)) (h6:ps.length=m) (h7:fn.np=m) (h8:fn.ns=N.length) (h9:fn.jW=[]) (uW:gn G 200 false N (aC st) (.ss (bP st) fn.body)=true) :
  br G.cm prog w K mg base (eW prog w) (k+1) fa fd ps (nE (gx w K cl xc) (af P (k+1)) i m):=by
  refine Bb h2 h5 (fun vs H Q E q=>by rw [q.1,h6]) fun cdv A outer s H vs Q E hr q=>?_
  let X0:=gX (eW prog w) prog w K mg base N qual (aC st) fa cdv A outer s H E
  obtain ⟨hl,ds,M,F,ρ,S,rd,post⟩:=q
  have O:dX G (gx w K cl xc) (af P k) k (yE X0 fun cv x _ H'=>E cv x H') N (aC st) false (fun cv x _ H'=>E cv x H') :=
   ⟨rfl,h5.nd,rfl,rfl,(fun z=>Option.isNone_iff_eq_none.mpr (show A.handled=none from hr.hd z)),hr,Km (X:=yE X0 fun cv x _ H'=>E cv x H') (cl:=cl) (xc:=xc),(fun e s z=>z.imp (fun ⟨p,σ,H,a,a0,C,B,h1,I,h⟩=>⟨p,σ,H,a,a0,C,B,h1,I.bz _,h⟩) fun ⟨p,σ,H,a,C,vs,hh,h1,I,h⟩=>⟨p,σ,H,a,C,vs,hh,h1,I.bz _,h⟩),
    (fun e s ⟨p,σ,H,a,a0,C,B,h1,I,h⟩=>.inl ⟨p,σ,H,a,a0,C,B,h1,I.aX,h⟩),(fun _ _ e s ⟨p,σ,H,a,C,vs,hh,h1,I,h⟩=>.inr ⟨p,σ,H,a,C,vs,hh,h1,I.aX,h⟩),⟨_,_,_,rfl,rfl,rfl⟩,fun _ _=>rfl,(fun g j n hg=>by
    obtain ⟨fa,fd,ps,a1,a2,a3,a4⟩:=D.fns g j n hg
    exact ⟨fa,fd,ps,a1,a2,a3,ih j n fa fd ps a4⟩),fun x j hx=>by
    obtain ⟨v,u,a1,a2,a3⟩:=D.cst x j hx
    refine ⟨v,u,a1,a2,fun d hd=>a3 d ?_⟩
    cases k <;> exact hd,D.blt,D.cls,(fun c nm j n hg=>by
    obtain ⟨C,fa,fd,ps,a1,a2,a3,a4⟩:=D.yW c nm j n hg
    exact ⟨C,fa,fd,ps,a1,a2,a3,ih j n fa fd ps a4⟩),(fun x c j n hg=>by
    obtain ⟨C,fa,fd,ps,a1,a2,a3,a4,a5⟩:=D.Jc x c j n hg
    refine ⟨C,fa,fd,ps,a1,a2,a3,a4,?_⟩
    cases k with
    | zero=>exact .inr fun _ _=>rfl
    | succ k'=>exact .inl ⟨k',rfl,ih0 k' rfl j n fa fd ps a5⟩),(fun x c hx=>by
    obtain ⟨C,a1,a2⟩:=D.exc x c hx
    obtain ⟨bmB,newId,bm,base,initId,a3,a4,a5,_⟩:=D.CJ c C a2
    exact ⟨C,bmB,newId,bm,base,initId,a1,a2,⟨C,a2,rfl⟩,a3,a4,a5⟩),(fun c cv hc=>by
    obtain ⟨C,a2,rfl⟩:=hc
    obtain ⟨bmB,newId,bm,base,initId,a3,a4,a5,a6⟩:=D.CJ c C a2
    refine ⟨C,bmB,newId,bm,rfl,a2,a3,fun d D' hd=>(a6 d D' hd).trans ?_⟩
    cases k <;> rfl),(fun x f m d hd=>by
    obtain ⟨fa,fd,ps,du,a1,a2,a3,a4,a5⟩:=D.y9 x f m d hd
    exact ⟨fa,fd,ps,du,a1,a2,a3,a4,ih f m fa fd ps a5⟩),(fun _=>⟨rfl,rfl⟩),(fun g j n hg=>by
    obtain ⟨fa,fd,ps,a1,a2,a3,a4⟩:=D.o9 g j n hg
    exact ⟨fa,fd,ps,a1,a2,a3,hh j n fa fd ps a4⟩),(fun c C hc=>by
    obtain ⟨a1,a2,a3⟩:=D.jL c C hc
    refine ⟨a1,a2,fun d D' hd=>(a3 d D' hd).trans ?_⟩
    cases k <;> rfl)⟩
  refine ⟨_,(sound 200 O).ss _ _ uW,_,M,F,ρ,S,vA (n:=fn.ns-fn.np) rd (by rw [h8,h7,hl]),?_⟩
  have hds:ds.length=m:=by rw [ai.length rd,hl]
  have hc:(af P (k+1)).call i ds M=jy (af P k) fn ds M:=by simp only [af,h4]
  rw [hc] at post
  have hz:ds.length+fn.jW.length-fn.np=0:=by rw [h9,h7,hds];simp
  unfold jy at post
  rw [if_pos (by rw [h9,h7,hds];simp),hz,h9] at post
  simp only [List.drop_nil,List.append_nil] at post
  cases hx:exs (af P k) fn.body (ds.map some++List.replicate (fn.ns-fn.np) none) M with
  | bad=>rw [hx] at post;exact post
  | exc c M'=>rw [hx] at post;exact post
  | ok o M' =>
   rw [hx] at post
   intro F' ρ' H' e S'
   cases o with
   | rt d=>exact fun v q=>kH S post e S' q
   | nx σ'=>exact fun σ q=>kH S post e S' (d:=.ao) (v:=.ao) (by simp only [RD])
   | bk _=>exact post.elim
   | ct _=>exact post.elim
   | xc c σ' =>
    intro σ cv x q1 q2
    exact ⟨H',.refl _,uc S post e S' q2⟩
theorem gq {cl xc:Nat->Option Addr} (D:Md G P w K mg cl xc) (hh:∀ k,(∀ (i m:Nat) (fa:Addr) (fd:FuncData) (ps:List Str),FnAt G P K i m fa fd ps->br G.cm prog w K mg base (eW prog w) k fa fd ps (nE (gx w K cl xc) (af P k) i m)) ->
   ∀ (i m:Nat) (fa:Addr) (fd:FuncData) (ps:List Str),FnAt (jN G) P K i m fa fd ps->br false prog w K mg base (eW prog w) k fa fd ps (nE (gx w K cl xc) (af P k) i m)) :
  ∀ (k:Nat) (i m:Nat) (fa:Addr) (fd:FuncData) (ps:List Str),FnAt G P K i m fa fd ps->br G.cm prog w K mg base (eW prog w) k fa fd ps (nE (gx w K cl xc) (af P k) i m)
 | 0, i, m, fa, fd, ps, h=>by
  have no:∀ vs H Q E,¬ nE (gx w K cl xc) (af P 0) i m vs H Q E:=fun vs H Q E q=>by
   obtain ⟨_,ds,M,F,ρ,_,_,q⟩:=q
   exact q
  exact ⟨fun vs H Q E q=>absurd q (no vs H Q E),fun A outer s H args us vs Q E _ _ _ _ q=>absurd q (no vs H Q E)⟩
 | 1,i,m,fa,fd,ps,h=>by
  obtain ⟨x,qual,st,N,fn,h2,h4,h5,h6,h7,h8,h9,uW⟩:=h
  exact lG D (gq D hh 0) (hh 0 (gq D hh 0)) (fun j e=>by cases e) h2 h4 h5 h6 h7 h8 h9 uW
 | k+2,i,m,fa,fd,ps,h=>by
  obtain ⟨x,qual,st,N,fn,h2,h4,h5,h6,h7,h8,h9,uW⟩:=h
  exact lG D (gq D hh (k+1)) (hh (k+1) (gq D hh (k+1))) (fun j e=>by cases e;exact gq D hh k) h2 h4 h5 h6 h7 h8 h9 uW
theorem tO {cl xc:Nat->Option Addr} (D:Md G P w K mg cl xc) (k:Nat):∀ (i m:Nat) (fa:Addr) (fd:FuncData) (ps:List Str),FnAt (jN G) P K i m fa fd ps->br false prog w K mg base (eW prog w) k fa fd ps (nE (gx w K cl xc) (af P k) i m) :=
 gq (G:=jN G) D.cool (fun _ q=>q) k
theorem yM {cl xc:Nat->Option Addr} (D:Md G P w K mg cl xc) (k:Nat):∀ (i m:Nat) (fa:Addr) (fd:FuncData) (ps:List Str),FnAt G P K i m fa fd ps->br G.cm prog w K mg base (eW prog w) k fa fd ps (nE (gx w K cl xc) (af P k) i m) :=
 gq D (fun k _=>tO D k) k
noncomputable def Ca (K:W.Frag):Sp:=fun vs H Q _=>∃ (a:Addr) (ns:List Int),vs=[.ref a]/\eV K H a (ns.map V.int)/\ns.length<=63/\∀ H',Q (.bl true) H'
theorem EV {cl xc:Nat->Option Addr} (D:Md G P w K mg cl xc) {f qual:Str} {i k:Nat} (hP:∀ ns:List Int,ns.length<=63->∃ M',(af P (k+1)).call i [.lst (ns.map .int)] []=.ok (.bl true) M')
  {fa:Addr} {fd:FuncData} {ps:List Str} {st:Stmt} {N:List Str} {fn:Fn} (h2:BS K f qual st fa fd) (h4:P.fn i=some fn) (h5:c6 N ps (aC st)) (h6:ps.length=1) (h7:fn.np=1) (h8:fn.ns=N.length) (h9:fn.jW=[]) (uW:gn G 200 false N (aC st) (.ss (bP st) fn.body)=true) :
  br G.cm prog w K mg base (eW prog w) (k+1) fa fd ps (Ca K):=by
 refine (lG (prog:=prog) (base:=base) D (yM D k) (tO D k) (fun j _=>yM D j) h2 h4 h5 h6 h7 h8 h9 uW).imp fun vs H Q E q=>?_
 obtain ⟨a,ns,rfl,hS,hl,q⟩:=q
 obtain ⟨M',hM⟩:=hP ns hl
 have CF:∀ (F:Addr->Prop) (ns:List Int),ai (gx w K cl xc) F [] H (ns.map Fg.D.int) (ns.map V.int):=by
  intro F ns
  induction ns with
  | nil=>exact ai.nil
  | cons n ns ih=>exact ai.cons (by simp only [RD]) ih
 have fin:∀ F:Addr->Prop,Post (gx w K cl xc) ((af P (k+1)).call i [.lst (ns.map .int)] []) F [] H Q E:=by
  intro F
  rw [hM]
  intro F' ρ' H' v e S' rd
  simp only [RD] at rd
  subst rd
  exact q H'
 rcases hS with hS | hS
 ·refine ⟨rfl,[.lst (ns.map .int)],[],fun b=>b=a,[],⟨rfl,List.nodup_nil,fun _ z=>by simp at z,fun b e=>by rw [e];exact Ci hS,fun n b o z=>by simp at z⟩,?_,fin _⟩
  refine ai.cons ?_ ai.nil
  simp only [RD]
  exact ⟨a,_,rfl,.inl ⟨rfl,hS⟩,CF _ ns⟩
 ·refine ⟨rfl,[.lst (ns.map .int)],[],fun _=>False,[],⟨rfl,List.nodup_nil,fun _ z=>by simp at z,fun b e=>e.elim,fun n b o z=>by simp at z⟩,?_,fin _⟩
  refine ai.cons ?_ ai.nil
  simp only [RD]
  exact ⟨a,_,rfl,.inr hS,CF _ ns⟩
end
end Fg
end
section
namespace Fg
open PySem PySem.Spec L2
theorem qS:∀ {ps:List Str} {us:List Value} {n:Str},n∉ps->(ps.zip us).lookup n=none
 | [],_,_,_=>rfl
 | _::_,[],_,_=>rfl
 | p::ps,u::us,n,h=>by
  rw [List.zip_cons_cons,List.lookup_cons,show (n == p)=false from beq_eq_false_iff_ne.mpr fun e=>h (e ▸ List.mem_cons_self)]
  exact qS fun z=>h (List.mem_cons_of_mem _ z)
theorem jq:∀ {ps:List Str} {us:List Value} {n:Str},n∈ps->ps.length<=us.length->((ps.zip us).lookup n).isNone=false
 | p::ps,[],n,_,hl=>by simp at hl
 | p::ps,u::us,n,h,hl=>by
  rw [List.zip_cons_cons,List.lookup_cons]
  cases e:n == p with
  | true=>rfl
  | false =>
   have e:=beq_eq_false_iff_ne.mp e
   exact jq ((List.mem_cons.mp h).resolve_left e) (by simpa using hl)
theorem oF {α β:Type} {f g:α->Option β}:∀ {l:List α},(∀ n∈l,f n=g n)->l.filterMap f=l.filterMap g
 | [],_=>rfl
 | a::l,h=>by
  rw [List.filterMap_cons,List.filterMap_cons,h a List.mem_cons_self,oF fun n hn=>h n (List.mem_cons_of_mem _ hn)]
theorem jd:∀ {ps:List Str} {us:List Value},ps.Nodup->us.length=ps.length->(ps.filterMap fun n=>((ps.zip us).lookup n).map (n,·))=ps.zip us
 | [],_,_,_=>rfl
 | p::ps,[],_,hl=>by simp at hl
 | p::ps,u::us,nd,hl=>by
  rw [List.nodup_cons] at nd
  rw [List.zip_cons_cons,List.filterMap_cons,List.lookup_cons,beq_self_eq_true]
  simp only [Option.map_some]
  congr 1
  refine Eq.trans ?_ (jd (us:=us) nd.2 (by simpa using hl))
  exact oF fun n hn=>by rw [List.lookup_cons,show (n == p)=false from beq_eq_false_iff_ne.mpr fun e=>nd.1 (e ▸ hn)]
noncomputable def jA (a:Arguments) (ps:List Str):Bool:=a.posonlyargs.isEmpty&&a.kwonlyargs.isEmpty&&a.vararg.isNone&&a.kwarg.isNone&&decide (a.args.map (·.arg)=ps)
section
variable {s:Shared} {fd:FuncData} {ps:List Str} {us:List Value}
theorem iH {us:List Value} {qs:List Str} (h:∀ n∈qs,((ps.zip us).lookup n).isNone=false):(qs.filter fun n=>((ps.zip us).lookup n).isNone)=[]:=by
 rw [List.filter_eq_nil_iff]
 intro n hn
 rw [h n hn]
 decide
theorem iV (hp:jA fd.params ps=true) (nd:ps.Nodup) (hd:fd.defaults=.none) (hl:us.length=ps.length):BindsTo s fd ⟨us,[]⟩ (ps.zip us):=by
 simp only [jA,Bool.and_eq_true,List.isEmpty_iff,Option.isNone_iff_eq_none,decide_eq_true_eq] at hp
 obtain ⟨⟨⟨⟨h1,h2⟩,h3⟩,h4⟩,h5⟩:=hp
 refine BindsTo.of_eq ?_
 unfold bindArgs
 simp only [h1,h2,h3,h4,h5,hd,List.map_nil,List.nil_append,List.append_nil,List.forIn_nil,Option.isNone_none,Bool.and_true,pure_bind]
 rw [show seqItems? Value.none=pure none from rfl,pure_bind]
 simp only [Option.getD_none,List.length_nil,Nat.zero_sub,List.drop_zero,Nat.sub_zero,List.take_length]
 rw [iH fun n hn=>jq hn (Nat.le_of_eq hl.symm),if_neg (by rw [hl];simp)]
 simp only [List.isEmpty_nil,Bool.not_true,Bool.false_eq_true,if_false,List.drop_length,List.zip_nil_left,List.forIn_nil,pure_bind]
 rw [jd nd hl]
theorem lz (hp:jA fd.params ps=true) (nd:ps.Nodup) {T:Addr} {o:Obj} {its:Array Value} {n:Nat} {du:Value} (hd:fd.defaults=.ref T) (ho:s.heap.get? T=some o) (hs:o.data=.seq its n) (hi:its.toList=[du])
  {ds:List Value} (hds:ds=[]\/ds=[du]) (hl:(us++ds).length=ps.length) (h0:ps≠[]):BindsTo s fd ⟨us,[]⟩ (ps.zip (us++ds)):=by
 simp only [jA,Bool.and_eq_true,List.isEmpty_iff,Option.isNone_iff_eq_none,decide_eq_true_eq] at hp
 obtain ⟨⟨⟨⟨h1,h2⟩,h3⟩,h4⟩,h5⟩:=hp
 obtain ⟨qs,z,rfl⟩:∃ qs z,ps=qs++[z]:=by
  rcases List.eq_nil_or_concat ps with e | ⟨qs,z,e⟩
  ·exact absurd e h0
  ·exact ⟨qs,z,by simpa using e⟩
 intro M A E Q hq
 unfold bindArgs
 simp only [h1,h2,h3,h4,h5,hd,List.map_nil,List.nil_append,List.append_nil,List.forIn_nil,Option.isNone_none,Bool.and_true,pure_bind]
 refine wpAny_bind (wpAny_seqItems ho hs ?_)
 simp only [Option.getD_some,hi,List.length_append,List.length_cons,List.length_nil] at hl ⊢
 have hz:z∉qs:=fun m=>by
  rw [List.nodup_append] at nd
  exact nd.2.2 z m z List.mem_cons_self rfl
 rw [show (0+1-(qs.length+(0+1)))=0 by omega,List.drop_zero,List.length_cons,List.length_nil,show qs.length+(0+1)-(0+1)=qs.length by omega,List.take_left,List.drop_left,
  iH (fun n hn=>?_),if_neg (by simp;rcases hds with rfl | rfl <;> simp at hl <;> omega)]
 ·simp only [List.isEmpty_nil,Bool.not_true,Bool.false_eq_true,if_false,List.zip_cons_cons,List.zip_nil_right,List.forIn_cons,List.forIn_nil,pure_bind]
  rcases hds with rfl | rfl
  ·rw [List.append_nil] at hq
   rw [jq (by simp) (by simp at hl ⊢;omega)]
   simp only [Bool.false_eq_true,if_false,pure_bind]
   rw [jd nd (by simpa using hl)]
   exact wpAny_pure hq
  ·have hl':us.length=qs.length:=by simp at hl;omega
   have e:(qs++[z]).zip us=qs.zip us:=by
    rw [show us=us++[] by simp,List.zip_append hl'.symm];simp
   have e2:(qs++[z]).zip (us++[du])=qs.zip us++[(z,du)]:=by
    rw [List.zip_append hl'.symm];simp
   rw [e,qS hz]
   simp only [Option.isNone_none,if_true,pure_bind]
   rw [<- e2,jd nd (by simpa using hl)]
   exact wpAny_pure hq
 ·rcases hds with rfl | rfl
  ·exact jq (by simp [hn]) (by simp at hl ⊢;omega)
  ·have hl':us.length=qs.length:=by simp at hl;omega
   have e:(qs++[z]).zip us=qs.zip us:=by
    rw [show us=us++[] by simp,List.zip_append hl'.symm];simp
   rw [e]
   exact jq hn (Nat.le_of_eq hl'.symm)
end
end Fg
end
section
namespace Fg
open PySem PySem.Spec L2
theorem C0 {K:W.Frag} {x:Str} {a:Addr} (h:adr K x=some a):W.nsIn K mainGlobals x=some (some (.ref a)):=by
 unfold adr at h
 split at h
 ·rename_i e;cases h;exact e
 ·cases h
theorem oU {K:W.Frag} {v:Value} (h:iE K v=some none):v=.none:=by
 unfold iE at h
 split at h
 ·rfl
 ·split at h
  ·split at h <;> cases h
  ·cases h
 ·cases h
theorem oS {K:W.Frag} {v:Value} {d:Int} (h:iE K v=some (some d)):∃ T oc od its n sl tk,v=.ref T/\K.lookup T=some ⟨oc,od,.seq its n,sl⟩/\its.toList=[.int d tk]:=by
 unfold iE at h
 split at h
 ·cases h
 ·split at h
  ·rename_i T _ oc od its n sl lk
   split at h
   ·rename_i _ d' tk hi
    cases h
    exact ⟨T,oc,od,its,n,sl,tk,rfl,lk,hi⟩
   ·cases h
  ·cases h
 ·cases h
theorem xQ {K:W.Frag} {f:Addr} {r:Row} (h:oE K f=some r.good):∃ oc od dV kV doc pm an cdv ct osl,
  K.lookup f=some ⟨oc,od,.func (W.fnOf r.x r.ql (gW r.st) (bP r.st) (aC r.st) dV kV doc pm an cdv ct),osl⟩/\W.codeIn K cdv r.ql=true/\iE K dV=some r.jW:=by
 unfold oE at h
 split at h
 ·rename_i oc od fd osl lk
  simp only [Row.good,Option.some.injEq,Prod.mk.injEq] at h
  obtain ⟨h1,h2,h3,h4,h5,h6,h7,h8,h9,uW⟩:=h
  obtain ⟨f1,f2,f3,f4,f5,f6,f7,f8,f9,f10,f11,f12,f13,f14,f15⟩:=fd
  dsimp only at h1 h2 h3 h4 h5 h6 h7 h8 h9 uW
  subst h1 h2 h3 h4 h5 h6 h7 h8
  exact ⟨oc,od,f8,f9,f10,f11,f12,f13,f14,osl,lk,uW,h9⟩
 ·cases h
noncomputable def scB (N P:List Str) (sc:Scope):Bool:=decide (sc.kind=.function)&&!sc.isCoroutine&&!sc.isGenerator&&decide N.Nodup&&decide (N.take P.length=P) &&
 (P.all fun x=>decide (sc.names.lookup x=some .local)||decide (sc.names.lookup x=some .cell))&&sc.names.all fun y=>decide (y.2≠.free)
theorem HV {N P:List Str} {sc:Scope} (h:scB N P sc=true):c6 N P sc:=by
 simp only [scB,Bool.and_eq_true,decide_eq_true_eq,Bool.not_eq_true',List.all_eq_true,Bool.or_eq_true] at h
 obtain ⟨⟨⟨⟨⟨⟨h1,h2⟩,h3⟩,h4⟩,h5⟩,h6⟩,h7⟩:=h
 exact ⟨h1,h2,h3,h4,h5,h6,h7⟩
noncomputable def Row.ok (G:Gm) (P:j9) (r:Row):Bool:=match P.fn r.i with
 | some fn=>scB r.N r.ps (aC r.st)&&jA (gW r.st) r.ps&&decide (fn.np=r.ps.length)&&decide (fn.ns=r.N.length)&&fn.jW.isEmpty&&(r.jW.isNone||!r.ps.isEmpty)&&gn G 200 false r.N (aC r.st) (.ss (bP r.st) fn.body)
 | none=>false
structure Rw (G:Gm) (P:j9) (K:W.Frag) (r:Row) (f:Addr) (fd:FuncData):Prop where
 at_:FnAt G P K r.i r.ps.length f fd r.ps
 bd:Binds K fd r.ps []
 kp:W.keepIn K (.ref f)=true
 bn:r.jW=none->∀ (s:Shared) (us:List Value),us.length=r.ps.length->BindsTo s fd ⟨us,[]⟩ (r.ps.zip us)
 df:∀ d,r.jW=some d->∃ tk,Binds K fd r.ps [.int d tk]
theorem A0 {K:W.Frag} {f:Addr} {oc:Value} {od:Option Addr} {fd:FuncData} {sl:Array (Option Value)} (h:K.lookup f=some ⟨oc,od,.func fd,sl⟩):W.keepIn K (.ref f)=true:=by
 simp only [W.keepIn,h]
theorem pS {G:Gm} {P:j9} {K:W.Frag} {r:Row} {f:Addr} (h:oE K f=some r.good) (ok:r.ok G P=true):∃ fd,Rw G P K r f fd:=by
 obtain ⟨oc,od,dV,kV,doc,pm,an,cdv,ct,osl,lk,hc,hd⟩:=xQ h
 unfold Row.ok at ok
 split at ok
 ·rename_i fn hf
  simp only [Bool.and_eq_true,decide_eq_true_eq,List.isEmpty_iff] at ok
  obtain ⟨⟨⟨⟨⟨⟨k1,k2⟩,k3⟩,k4⟩,k5⟩,k6⟩,k7⟩:=ok
  have S:=HV k1
  have nd:r.ps.Nodup:=by rw [<- S.pre];exact S.nd.sublist (List.take_sublist _ _)
  refine ⟨_,⟨_,_,_,_,_,⟨⟨oc,od,dV,kV,doc,pm,an,cdv,ct,osl,rfl,lk,hc⟩⟩,hf,S,rfl,k3,k4,k5,k7⟩,?_,A0 lk,fun e s us hl=>?_,fun d e=>?_⟩
  ·intro s us KX hl
   cases e:r.jW with
   | none =>
    rw [e] at hd
    rw [List.append_nil] at hl ⊢
    exact iV k2 nd (oU hd) hl
   | some d =>
    rw [e] at hd k6
    obtain ⟨T,o1,o2,its,n,sl,tk,rfl,lT,hi⟩:=oS hd
    exact lz k2 nd rfl (KX _ _ lT) rfl hi (.inl rfl) hl (by simpa using k6)
  ·rw [e] at hd
   exact iV k2 nd (oU hd) hl
  ·rw [e] at hd k6
   obtain ⟨T,o1,o2,its,n,sl,tk,rfl,lT,hi⟩:=oS hd
   exact ⟨tk,fun s us KX hl=>lz k2 nd rfl (KX _ _ lT) rfl hi (.inr rfl) hl (by simpa using k6)⟩
 ·cases ok
end Fg
end
section
namespace Fg
open PySem PySem.Spec L2
theorem mem_of_lookup {α β:Type} [BEq α] [LawfulBEq α] {x:α} {b:β}:∀ {l:List (α×β)},l.lookup x=some b->(x,b)∈l
 | [],h=>by cases h
 | (y, c)::l, h=>by
  rw [List.lookup_cons] at h
  by_cases e:x=y
  ·subst e;simp at h;subst h;exact List.mem_cons_self
  ·rw [show (x == y)=false from beq_eq_false_iff_ne.mpr e] at h
   exact List.mem_cons_of_mem _ (mem_of_lookup h)
theorem bN {α β:Type} {f g:α->β}:∀ {l:List α},l.map f=l.map g->∀ a∈l,f a=g a
 | [],_,_,h=>by cases h
 | b::l,e,a,h=>by
  rw [List.map_cons,List.map_cons,List.cons.injEq] at e
  rcases List.mem_cons.mp h with rfl | h
  ·exact e.1
  ·exact bN e.2 a h
noncomputable def Tb.gm (t:Tb):Gm:=⟨t.fn.map fun r=>(r.x,r.i,r.ps.length),(t.cs.map fun c=>(c.1,c.2.1))++(t.ct.map fun c=>(c.1,c.2.1))++(t.cd.map fun c=>(c.1,c.2.1)),t.bl,
 t.mt.filterMap fun r=>if r.2.x=("__init__" : Str) then (t.cl[r.1]?).map fun x=>(x, r.1, r.2.i, r.2.ps.length) else none,
 t.mt.filterMap fun r=>if r.2.x=("__init__" : Str) then none else some ((r.1, r.2.x), r.2.i, r.2.ps.length), t.fl, t.xc.zipIdx,
 t.fn.filterMap fun r=>r.jW.map fun d=>(r.x,r.i,r.ps.length,d),true,(t.fn.filter fun r=>t.o9.contains r.x).map fun r=>(r.x,r.i,r.ps.length),true⟩
noncomputable def Dj:D->Option Str
 | .str x=>some x
 | _=>none
noncomputable def intD:D->Option Int
 | .int x=>some x
 | _=>none
noncomputable def Tb.okC (t:Tb) (P:j9):Bool:=(t.cs.all fun c=>match P.glob c.2.1 with
 | some (.int n)=>decide (n=c.2.2)
 | _=>false)&&(t.ct.all fun c=>decide (c.2.2.length<=sizeLine)&&match P.glob c.2.1 with
 | some (.tup ds)=>decide (ds.map Dj=c.2.2.map some)
 | _=>false)&&t.cd.all fun c=>decide (c.2.2.length<=sizeLine)&&decide (c.2.2.map fun z=>z.1).Nodup&&match P.glob c.2.1 with
 | some (.dct ks ds)=>decide (ks=c.2.2.map fun z=>Sum.inr z.1)&&decide (ds.map intD=c.2.2.map fun z=>some z.2)
 | _=>false
noncomputable def Tb.ok (t:Tb) (G:Gm) (P:j9):Bool:=(t.fn.all fun r=>r.ok G P)&&(t.mt.all fun r=>r.2.ok G P)&&t.okC P&&(t.fn.filter fun r=>t.o9.contains r.x).all fun r=>r.ok (jN G) P
theorem ku:∀ {us:List Value} {xs:List Str},us.map strOf=xs.map some->Vals (xs.map .str) us
 | [],[],_=>.nil
 | [],_::_,h=>by cases h
 | _::_,[],h=>by cases h
 | u::us,x::xs,h=>by
  rw [List.map_cons,List.map_cons,List.cons.injEq] at h
  refine .cons ?_ (ku h.2)
  have h1:=h.1
  unfold strOf at h1
  split at h1
  ·cases h1;exact ⟨_,rfl⟩
  ·cases h1
theorem tE {w:World}:∀ {es:List DictEntry} {kvs:List (Str×Int)},(es.map fun e=>(e.hash,strOf e.key,intOf e.val))=(kvs.map fun z=>(PyData.keyHash w.params z.1,some z.1,some z.2)) ->
  W.KeysLit w.params es/\BU es (kvs.map fun z=>(Sum.inr z.1,.int z.2))
 | [],[],_=>⟨trivial,.nil⟩
 | [],_::_,h=>by cases h
 | _::_,[],h=>by cases h
 | ⟨hh, k, v⟩::es, z::kvs, h=>by
  rw [List.map_cons,List.map_cons,List.cons.injEq,Prod.mk.injEq,Prod.mk.injEq] at h
  obtain ⟨⟨h1,h2,h3⟩,h4⟩:=h
  obtain ⟨q1,q2⟩:=tE h4
  dsimp only at h1 h2 h3
  unfold strOf at h2
  unfold intOf at h3
  split at h2
  ·cases h2
   split at h3
   ·cases h3
    exact ⟨⟨⟨_,_,rfl,h1⟩,q1⟩,.cons ⟨_,rfl⟩ q2⟩
   ·cases h3
  ·cases h2
section
variable {B:Bd} {F:Addr->Prop} {ρ:List Addr} {H:Hp}
theorem nX:∀ {ds:List D} {xs:List Str},ds.map Dj=xs.map some->ai B F ρ H ds (xs.map .str)
 | [],[],_=>ai.nil
 | [],_::_,h=>by cases h
 | _::_,[],h=>by cases h
 | d::ds,x::xs,h=>by
  rw [List.map_cons,List.map_cons,List.cons.injEq] at h
  refine ai.cons ?_ (nX h.2)
  have h1:=h.1
  unfold Dj at h1
  split at h1
  ·cases h1;simp only [RD]
  ·cases h1
theorem nY:∀ {ds:List D} {kvs:List (Str×Int)},ds.map intD=(kvs.map fun z=>some z.2)->ai B F ρ H ds (kvs.map fun z=>.int z.2)
 | [],[],_=>ai.nil
 | [],_::_,h=>by cases h
 | _::_,[],h=>by cases h
 | d::ds,x::xs,h=>by
  rw [List.map_cons,List.map_cons,List.cons.injEq] at h
  refine ai.cons ?_ (nY h.2)
  have h1:=h.1
  unfold intD at h1
  split at h1
  ·cases h1;simp only [RD]
  ·cases h1
end
theorem g6 {α:Type} {K:W.Frag} {x:Str} {f:Addr->Option α} {v:α} (h:(adr K x).bind f=some v):∃ a,adr K x=some a/\f a=some v:=Option.bind_eq_some_iff.mp h
theorem m5 {α:Type} {K:W.Frag} {x:Str} {f:Addr->α} {v:α} (h:(adr K x).map f=some v):∃ a,adr K x=some a/\f a=v:=Option.map_eq_some_iff.mp h
section
variable {t:Tb} {P:j9} {w:World} {K:W.Frag} {h:Heap} {mg:Str->Option Value}
theorem wO (e:t.o7 K=t.good P w) (ok:t.ok t.gm P=true) (r:Row) (hr:r∈t.fn):∃ f fd,adr K r.x=some f/\Rw t.gm P K r f fd:=by
 simp only [Tb.o7,Tb.good,Prod.mk.injEq] at e
 obtain ⟨f,h1,h2⟩:=g6 (bN e.1 r hr)
 simp only [Tb.ok,Bool.and_eq_true,List.all_eq_true] at ok
 obtain ⟨fd,R⟩:=pS h2 (ok.1.1.1 r hr)
 exact ⟨f,fd,h1,R⟩
theorem EO (e:t.o7 K=t.good P w) (ok:t.ok t.gm P=true) (r:Row) (hr:r∈t.fn.filter fun r=>t.o9.contains r.x):∃ f fd,adr K r.x=some f/\Rw (jN t.gm) P K r f fd:=by
 simp only [Tb.o7,Tb.good,Prod.mk.injEq] at e
 obtain ⟨f,h1,h2⟩:=g6 (bN e.1 r (List.mem_filter.mp hr).1)
 unfold Tb.ok at ok
 obtain ⟨fd,R⟩:=pS h2 (List.all_eq_true.mp ((Bool.and_eq_true _ _).mp ok).2 r hr)
 exact ⟨f,fd,h1,R⟩
theorem Cv (e:t.o7 K=t.good P w) (ok:t.ok t.gm P=true) (r:Nat×Row) (hr:r∈t.mt):∃ x C f fd,t.cl[r.1]? = some x/\adr K x=some C/\W.findIn K (.ref C) r.2.x=some (some (.ref f))/\W.isFn K (.ref f)=true/\Rw t.gm P K r.2 f fd:=by
 simp only [Tb.o7,Tb.good,Prod.mk.injEq] at e
 have h1:=bN e.2.2.1 r hr
 unfold wN at h1
 obtain ⟨C,h2,h3⟩:=Option.bind_eq_some_iff.mp h1
 obtain ⟨x,h4,h5⟩:=Option.bind_eq_some_iff.mp h2
 simp only [Tb.ok,Bool.and_eq_true,List.all_eq_true] at ok
 split at h3
 ·rename_i f hf
  obtain ⟨z,h6,h7⟩:=Option.map_eq_some_iff.mp h3
  rw [Prod.mk.injEq] at h7
  rw [h7.1] at h6
  obtain ⟨fd,R⟩:=pS h6 (ok.1.1.2 r hr)
  exact ⟨x,C,f,fd,h4,h5,hf,h7.2,R⟩
 ·cases h3
theorem Cw (e:t.o7 K=t.good P w) {c:Nat} {C:Addr} (hc:(t.cl[c]?).bind (adr K)=some C):mT t K C=jm t:=by
 obtain ⟨x,h1,h2⟩:=Option.bind_eq_some_iff.mp hc
 simp only [Tb.o7,Tb.good,Prod.mk.injEq] at e
 obtain ⟨C',h3,h4⟩:=m5 (bN e.2.1 x (List.mem_of_getElem? h1))
 rw [h2] at h3
 cases h3
 exact h4
theorem pq {xs:List Str} {x:Str} {c:Nat} (h:xs[c]? = some x):(x,c)∈xs.zipIdx:=List.mk_mem_zipIdx_iff_getElem?.mpr h
theorem Cu (e:t.o7 K=t.good P w) {c:Nat} {X:Addr} (hc:(t.xc[c]?).bind (adr K)=some X):W.excIn K X BMV "ValueError.__new__" = true/\W.mroIn K X (.type "BaseException")=some true /\
  (∀ d D, (t.xc[d]?).bind (adr K)=some D->W.mroIn K X (.ref D)=some (P.sub c d))/\yO K X/\W.kitOne K (.ref X) (.type "ValueError")=some true/\∀ d D, (t.xc[d]?).bind (adr K)=some D->W.kitOne K (.ref X) (.ref D)=some (P.sub c d):=by
 obtain ⟨x,h1,h2⟩:=Option.bind_eq_some_iff.mp hc
 simp only [Tb.o7,Tb.good,Prod.mk.injEq] at e
 obtain ⟨C',h3,h4⟩:=m5 (bN e.2.2.2.1 (x,c) (pq h1))
 rw [show adr K (x,c).1=some X from h2] at h3
 cases h3
 simp only [xV,Prod.mk.injEq] at h4
 obtain ⟨k1,k2,k3,k4,k5,k6,k7,k8,k9⟩:=h4
 simp only [List.cons.injEq,and_true] at k4
 have at_:∀ {f:Addr->Option Bool},(t.xc.map fun y=>(adr K y).bind f)=(t.xc.zipIdx.map fun y=>some (P.sub c y.2))->∀ d D,(t.xc[d]?).bind (adr K)=some D->f D=some (P.sub c d):=fun {f} k d D hd=>by
  obtain ⟨y,h5,h6⟩:=Option.bind_eq_some_iff.mp hd
  have z:(t.xc.zipIdx.map fun y=>(adr K y.1).bind f)=t.xc.zipIdx.map fun y=>some (P.sub c y.2):=by
   rw [<- k]
   conv=>rhs;rw [<- List.zipIdx_map_fst 0 t.xc]
   rw [List.map_map]
   rfl
  have q:=bN z (y,d) (pq h5)
  rw [show adr K (y,d).1=some D from h6] at q
  exact q
 exact ⟨k1,k2,at_ k3,⟨k4.1,k4.2.1,k4.2.2.1,k4.2.2.2,k5,k6,k2,k7⟩,k8,at_ k9⟩
theorem Tb.md (X:K.In h) (G:h.Ns mainGlobals mg) (e:t.o7 K=t.good P w) (ok:t.ok t.gm P=true):Md t.gm P w K mg (fun c=>(t.cl[c]?).bind (adr K)) (fun c=>(t.xc[c]?).bind (adr K)):=by
 have EN:∀ {x a},adr K x=some a->mg x=some (.ref a):=fun q=>W.mg_of X G (C0 q)
 refine ⟨fun x i hx=>?_,fun x hx=>?_,fun f i m hx=>?_,fun c C hx=>?_,fun c nm i m hx=>?_,fun x c i m hx=>?_,fun x c hx=>?_,fun c C hx=>?_,fun x f m d hx=>?_,fun f i m hx=>?_,fun c C hx=>?_⟩
 ·have e':=e
  simp only [Tb.o7,Tb.good,Prod.mk.injEq] at e'
  simp only [Tb.ok,Tb.okC,Bool.and_eq_true,List.all_eq_true] at ok
  obtain ⟨⟨_,⟨ok1,ok2⟩,ok3⟩,_⟩:=ok
  rcases List.mem_append.mp (mem_of_lookup hx) with hm | hm
  ·rcases List.mem_append.mp hm with hm | hm
   ·obtain ⟨c,hc,q⟩:=List.mem_map.mp hm
    cases q
    have h1:=bN e'.2.2.2.2.1 c hc
    unfold yq at h1
    split at h1
    ·rename_i n tk hn
     cases h1
     refine ⟨.int c.2.2,_,W.mg_of X G hn,⟨_,rfl⟩,fun d hd F ρ H=>?_⟩
     have h2:=ok1 c hc
     rw [hd] at h2
     split at h2
     ·rename_i n' hn'
      cases hn'
      rw [of_decide_eq_true h2]
      simp only [RD]
     ·cases h2
    ·cases h1
   ·obtain ⟨c,hc,q⟩:=List.mem_map.mp hm
    cases q
    obtain ⟨a,h1,h2⟩:=g6 (bN e'.2.2.2.2.2.2.1 c hc)
    unfold vh at h2
    split at h2
    ·rename_i cl od its n sl lk
     rw [Option.some.injEq,Prod.mk.injEq] at h2
     obtain ⟨rfl,h2⟩:=h2
     have h3:=ok2 c hc
     refine ⟨.ref a,_,EN h1,rfl,fun d hd F ρ H=>?_⟩
     rw [hd] at h3
     obtain ⟨h3,h4⟩:=h3
     split at h4
     ·rename_i ds hn'
      cases hn'
      have v:=ku h2
      simp only [RD]
      exact ⟨a,_,rfl,.inr ⟨_,_,_,lk,rfl,rfl,by rw [<- Array.length_toList,<- v.length,List.length_map];exact of_decide_eq_true h3,v⟩,nX (of_decide_eq_true h4)⟩
     ·cases h4
    ·cases h2
  ·obtain ⟨c,hc,q⟩:=List.mem_map.mp hm
   cases q
   obtain ⟨a,h1,h2⟩:=g6 (bN e'.2.2.2.2.2.2.2 c hc)
   unfold yo at h2
   split at h2
   ·rename_i cl od es n sl lk
    simp only [tF,Option.some.injEq,Prod.mk.injEq] at h2
    obtain ⟨rfl,rfl,rfl,hs,h2⟩:=h2
    have h3:=ok3 c hc
    refine ⟨.ref a,_,EN h1,rfl,fun d hd F ρ H=>?_⟩
    rw [hd] at h3
    obtain ⟨⟨h3,h5⟩,h4⟩:=h3
    split at h4
    ·rename_i ks ds hn'
     cases hn'
     simp only [Bool.and_eq_true,decide_eq_true_eq] at h4
     obtain ⟨q1,q2⟩:=tE h2
     simp only [RD]
     refine ⟨a,_,rfl,.inr ⟨?_,hs,?_,es,n,lk,q1,q2⟩,?_,?_⟩
     ·rw [List.length_map];exact of_decide_eq_true h3
     ·rw [List.map_map]
      have:=of_decide_eq_true h5
      rw [show ((fun z:Key×V=>z.1) ∘ fun z:Str×Int=>((Sum.inr z.1:Key),V.int z.2))=(fun s=>(Sum.inr s:Key)) ∘ fun z:Str×Int=>z.1 from rfl,<- List.map_map]
      exact List.pairwise_map.mpr (this.imp fun h e=>h (Sum.inr.inj e))
     ·rw [List.map_map,h4.1];rfl
     ·rw [List.map_map];exact nY h4.2
    ·cases h4
   ·cases h2
 ·have e':=e
  simp only [Tb.o7,Tb.good,Prod.mk.injEq] at e'
  exact W.mg_none_of X G (bN e'.2.2.2.2.2.1 x (List.contains_iff_mem.mp hx))
 ·obtain ⟨r,hr,q⟩:=List.mem_map.mp (mem_of_lookup hx)
  cases q
  obtain ⟨fa,fd,h1,R⟩:=wO e ok r hr
  exact ⟨fa,fd,r.ps,EN h1,R.kp,R.bd,R.at_⟩
 ·have q:=Cw e hx
  simp only [mT,jm,Prod.mk.injEq] at q
  obtain ⟨q1,q2,q3,q4,q5,q6,q7⟩:=q
  exact ⟨⟨q1,q2,q3,q4⟩,fun f hf=>bN q7 f (List.contains_iff_mem.mp hf)⟩
 ·obtain ⟨r,hr,q⟩:=List.mem_filterMap.mp (mem_of_lookup hx)
  split at q
  ·cases q
  ·cases q
   obtain ⟨x,C,f,fd,h1,h2,h3,h4,R⟩:=Cv e ok r hr
   exact ⟨C,f,fd,r.2.ps,by rw [h1];exact h2,⟨h3,h4,R.kp⟩,R.bd,R.at_⟩
 ·obtain ⟨r,hr,q⟩:=List.mem_filterMap.mp (mem_of_lookup hx)
  split at q
  ·rename_i hi
   obtain ⟨y,h0,q⟩:=Option.map_eq_some_iff.mp q
   cases q
   obtain ⟨x',C,f,fd,h1,h2,h3,h4,R⟩:=Cv e ok r hr
   rw [h0] at h1
   cases h1
   have hC:(t.cl[r.1]?).bind (adr K)=some C:=by rw [h0];exact h2
   have q:=Cw e hC
   simp only [mT,jm,Prod.mk.injEq] at q
   rw [hi] at h3
   exact ⟨C,f,fd,r.2.ps,EN h2,hC,⟨q.2.2.2.2.1,h3,h4,q.2.2.2.2.2.1⟩,R.bd,R.at_⟩
  ·cases q
 ·have hm:=List.mk_mem_zipIdx_iff_getElem?.mp (mem_of_lookup hx)
  have e':=e
  simp only [Tb.o7,Tb.good,Prod.mk.injEq] at e'
  obtain ⟨C,h3,_⟩:=m5 (bN e'.2.2.2.1 (x,c) (pq hm))
  exact ⟨C,EN h3,by rw [hm];exact h3⟩
 ·obtain ⟨q1,q2,q3,_⟩:=Cu e hx
  obtain ⟨bm,ec,em⟩:=F8 q1
  exact ⟨_,_,bm,_,_,ec,PySem.F.excBase_ValueError,jn (em _ _ q2),fun d D hd=>em _ _ (q3 d D hd)⟩
 ·obtain ⟨r,hr,q⟩:=List.mem_filterMap.mp (mem_of_lookup hx)
  obtain ⟨d',hd,q⟩:=Option.map_eq_some_iff.mp q
  cases q
  obtain ⟨fa,fd,h1,R⟩:=wO e ok r hr
  obtain ⟨tk,hb⟩:=R.df _ hd
  exact ⟨fa,fd,r.ps,_,EN h1,R.kp,hb,⟨_,rfl⟩,R.at_⟩
 ·obtain ⟨r,hr,q⟩:=List.mem_map.mp (mem_of_lookup hx)
  cases q
  obtain ⟨fa,fd,h1,R⟩:=EO e ok r hr
  exact ⟨fa,fd,r.ps,EN h1,R.kp,R.bd,R.at_⟩
 ·obtain ⟨_,_,_,q⟩:=Cu e hx
  exact q
theorem Tb.walk (t:Tb) (P:j9) {l:W.OpenLaw} {q:Program} {loose:List Str} {XP:(Str->Option Value)->Heap->Prop} {d:DefRec} {r:Row} {x:Str} (k:Nat) (hn:l.most=some 63) (hdf:d.params.defaults=[]) (hk:bI true (k+1) callerA)
  (ok:t.ok t.gm P=true) (hr:r∈t.fn) (hx:d.name=r.x) (h0:r.jW=none) (hps:r.ps=[x])
  (hP:∀ ns:List Int,ns.length<=63->∃ M',(af P (k+1)).call r.i [.lst (ns.map .int)] []=.ok (.bl true) M') :
  W.WalkO q loose XP (t.hook P).says l.row.toRowW d [] (fun f vs=>PySem.call f vs):=by
 refine Att.o4 hn hdf fun w s₀ s₁ mg mb fa o pm cd doc a vs ns G Y ho hd hcd hmg hobj hints hlen hg=>?_
 obtain ⟨K,KX,e⟩:=Y
 obtain ⟨f,fd,h1,R⟩:=wO e ok r hr
 have hf:mg d.name=some (.ref f):=by rw [hx];exact W.mg_of KX G.T.g (C0 h1)
 cases hmg.symm.trans hf
 obtain ⟨y,qual,st,N,fn,F,q1,q2,q3,q4,q5,q6,q7⟩:=R.at_
 have D:=Tb.md (w:=w) KX G.T.g e ok
 have bd:=R.bn h0
 rw [hps] at bd q2 q3 q4
 exact wY (CX:=eW l.prog w) (sp:=Ca K) (x:=x) (fd:=fd) KX G.T.g G.T.b G.T.builtins G.T.nolimit hg hobj hints (Nat.le_trans hlen (by decide)) hk (fun base _ _=>EV D hP F q1 q2 q3 q4 q5 q6 q7) (fun s u=>bd s [u] rfl)
  (fun H hO hS=>⟨a,ns,rfl,hS,hlen,fun _=>rfl⟩) fun H e s' ⟨_,_,_,_,_,_,_,_,_,_,_,_,z⟩=>z
end
end Fg
end
section
namespace bO
open Fg PySem
theorem fn0:aq.fn 0=some sG:=rfl
theorem nc:aq.fn 1=some cX:=rfl
theorem fn2:aq.fn 2=some iB:=rfl
theorem fn3:aq.fn 3=some fK:=rfl
theorem fn4:aq.fn 4=some cO:=rfl
theorem fn5:aq.fn 5=some gh:=rfl
theorem fn6:aq.fn 6=some fk:=rfl
theorem FU:aq.fn 7=some kT:=rfl
theorem fn8:aq.fn 8=some xT:=rfl
theorem fn9:aq.fn 9=some dP:=rfl
theorem JD:aq.fn 10=some fj:=rfl
theorem fn11:aq.fn 11=some ck:=rfl
theorem fn12:aq.fn 12=some cP:=rfl
theorem xS:aq.fn 13=some bf:=rfl
theorem FZ:aq.fn 14=some dR:=rfl
theorem uG:aq.fn 15=some fu:=rfl
theorem JC:aq.fn 16=some eN:=rfl
theorem fn17:aq.fn 17=some bw:=rfl
theorem xR:aq.fn 18=some aQ:=rfl
noncomputable abbrev w (x:String):Str:=Str.ofString x
theorem aU {M:MH} {c:Nat}:nU M c M=.exc c M:=by simp [nU]
theorem au {kp:Bool} {M M':MH} {d:D} (h:nr M.length d=true) (hl:M'.length=M.length):fM kp M d M'=.ok d M':=by
 unfold fM
 by_cases hk:kp=false/\M'.take M.length=M
 ·rw [if_pos hk,if_pos h]
  have:M'=M:=by rw [<- hk.2,<- hl,List.take_length]
  rw [this]
 ·rw [if_neg hk]
theorem dm {P:j9} {k f:Nat} {fn:Fn} {ds:List D} {M M':MH} {σ':Sg} {r:R D} (hf:P.fn f=some fn) (hn:ds.length=fn.np) (hb:exs (af P k) fn.body (ds.map some++List.replicate (fn.ns-fn.np) none) M=.ok (.nx σ') M') (hr:fM fn.keep M .ao M'=r):(af P (k+1)).call f ds M=r:=by
 rw [cC hf]
 have h1:ds.length+fn.jW.length-fn.np=fn.jW.length:=by omega
 simp only [jy,h1,List.drop_length,List.append_nil,hb]
 rw [if_pos (by simp;omega)]
 exact hr
theorem iF {P:j9} {k f c:Nat} {fn:Fn} {ds:List D} {M M':MH} {σ':Sg} {r:R D} (hf:P.fn f=some fn) (hn:ds.length=fn.np) (hb:exs (af P k) fn.body (ds.map some++List.replicate (fn.ns-fn.np) none) M=.ok (.xc c σ') M') (hr:nU M c M'=r):(af P (k+1)).call f ds M=r:=by
 rw [cC hf]
 have h1:ds.length+fn.jW.length-fn.np=fn.jW.length:=by omega
 simp only [jy,h1,List.drop_length,List.append_nil,hb]
 rw [if_pos (by simp;omega)]
 exact hr
section
variable {Φ:bh} {σ σ':Sg} {M M1 M2 M3:MH} {e e' c a b:E} {x y d:D} {ss sa sb:Ss} {i n j k:Nat} {xs p:List D}
theorem kE (h:ev Φ e σ M=.exc k M1):exs Φ (.cons (.ex e) ss) σ M=.ok (.xc k σ) M1:=by simp only [bG,JG,h,R.lF,R.aa]
theorem DE (h:ev Φ e σ M=.exc k M1):exs Φ (.cons (.set i e) ss) σ M=.ok (.xc k σ) M1:=by simp only [bG,Ga,h,R.lF,R.aa]
theorem pQ (h:ev Φ e σ M=.exc k M1):exs Φ (.cons (.ret e) ss) σ M=.ok (.xc k σ) M1:=by simp only [bG,Gb,h,R.lF,R.aa]
theorem nN (h:ev Φ c σ M=.ok (.bl true) M1) (ha:exs Φ sa σ M1=.ok (.xc k σ') M2):exs Φ (.cons (.ifs c sa sb) ss) σ M=.ok (.xc k σ') M2:=by simp only [bG,mK,h,R.gb,ha,R.aa]
theorem vR {f:Nat} (he:ev Φ e σ M=.ok d M1) (hs:c7 d=true):exs Φ (.cons (.raise f (.cons e .nil)) ss) σ M=.ok (.xc f σ) M1:=by simp only [bG,xX,xZ,Bo,he,R.aa,hs,if_true,R.gb]
theorem gE {s:S} (h:ex Φ s σ M=.ok (.nx σ') M1):exs Φ (.cons s ss) σ M=exs Φ ss σ' M1:=by simp only [bG,h,R.aa]
theorem D5 {M:MH} {n:Nat} (h:M[n]? = some (.lst (p++[x]))):gf .pop true M (.ref n) []=.ok x (M.set n (.lst p)):=by
 simp [gf,bS h,oh]
theorem Kn {M:MH} {n:Nat} (h:M[n]? = some (.lst xs)) (hl:xs.length<line):gf .append true M (.ref n) [d]=.ok .ao (M.set n (.lst (xs++[d]))):=by
 simp only [gf,bS h,oh,n5,hl,decide_true,if_true]
theorem p5 {M:MH} {n:Nat} (h:M[n]? = some (.lst xs)):lW .pop M (.ref n)=true:=by simp only [lW,bS h,Option.isSome_some,Bool.and_self]
theorem p6 {M:MH} {n:Nat} (h:M[n]? = some (.lst xs)):lW .append M (.ref n)=true:=by simp only [lW,bS h,Option.isSome_some,Bool.and_self]
theorem e_v {M:MH} (h:σ[i]? = some (some d)):ev Φ (.v i) σ M=.ok d M:=by simp only [ki,h]
theorem e_len {M M1:MH} {n:Nat} {fz:Bool} (he:ev Φ e σ M=.ok (.ref n) M1) (h:M1[n]? = some (.lst xs)):ev Φ (.blt .len fz (.cons e .nil)) σ M=.ok (.int xs.length) M1:=by
 simp only [yd,av,he,R.aa,cY,uQ,vw,h]
theorem yi {M M1 M2:MH} {n:Nat} {e':E} {ys:List D} (he:ev Φ e σ M=.ok (.ref n) M1) (h:M1[n]? = some (.lst ys)) (hx:ev Φ e' σ M1=.ok d M2) (h2:M2[n]? = some (.lst xs)) (hl:xs.length<line):ev Φ (.bZ .append true e (.cons e' .nil)) σ M=.ok .ao (M2.set n (.lst (xs++[d]))):=by
 simp only [gk,he,R.aa,p6 h,if_true,av,hx,cY,Kn h2 hl]
theorem Gp {M M1 M2:MH} {n:Nat} {e':E} {ys:List D} (he:ev Φ e σ M=.ok (.ref n) M1) (h:M1[n]? = some (.lst ys)) (hx:ev Φ e' σ M1=.exc k M2):ev Φ (.bZ .append true e (.cons e' .nil)) σ M=.exc k M2:=by
 simp only [gk,he,R.aa,p6 h,if_true,av,hx,R.jZ]
theorem yg {M M1:MH} {n:Nat} (he:ev Φ e σ M=.ok (.ref n) M1) (h:M1[n]? = some (.lst (p++[x]))):ev Φ (.bZ .pop true e .nil) σ M=.ok x (M1.set n (.lst p)):=by
 simp only [gk,he,R.aa,p5 h,if_true,cY,D5 h]
theorem yh {M M1 M2:MH} {n:Nat} {e':E} {j:Int} (he:ev Φ e σ M=.ok (.ref n) M1) (hx:ev Φ e' σ M1=.ok (.int j) M2) (h:M2[n]? = some (.lst xs)) (ha:j8 xs j=some d):ev Φ (.idx e e') σ M=.ok d M2:=by
 simp only [mL,he,R.aa,hx,mh,vw,h,ha]
theorem gU {M M1 M2:MH} {e':E} {j:Int} (he:ev Φ e σ M=.ok (.lst xs) M1) (hx:ev Φ e' σ M1=.ok (.int j) M2) (ha:j8 xs j=some d):ev Φ (.idx e e') σ M=.ok d M2:=by
 simp only [mL,he,R.aa,hx,mh,vw,ha]
theorem aK {M M1 M2:MH} {e':E} {j:Int} (he:ev Φ e σ M=.ok (.tup xs) M1) (hx:ev Φ e' σ M1=.ok (.int j) M2) (ha:j8 xs j=some d):ev Φ (.idx e e') σ M=.ok d M2:=by
 simp only [mL,he,R.aa,hx,mh,vw,ha]
theorem JY {M M1 M2:MH} {n:Nat} {e':E} {q:Str} {kvs:List (Ky×D)} (he:ev Φ e σ M=.ok (.ref n) M1) (hx:ev Φ e' σ M1=.ok (.str q) M2) (h:M2[n]? = some (.dct kvs)) (ha:look kvs (.inr q)=some d):ev Φ (.idx e e') σ M=.ok d M2:=by
 simp only [mL,he,R.aa,hx,mh,vw,h,keyOf,ha]
theorem fW {M M1 M2:MH} {e':E} {a b:Int} {fz:Bool} (he:ev Φ e σ M=.ok (.int a) M1) (hx:ev Φ e' σ M1=.ok (.int b) M2):ev Φ (.op .add fz e e') σ M=.ok (.int (a+b)) M2:=by
 simp only [iP,he,R.aa,hx,m9,c9]
theorem kW {M M1 M2:MH} {e':E} {a b:Int} {fz:Bool} (he:ev Φ e σ M=.ok (.int a) M1) (hx:ev Φ e' σ M1=.ok (.int b) M2):ev Φ (.op .sub fz e e') σ M=.ok (.int (a-b)) M2:=by
 simp only [iP,he,R.aa,hx,m9,c9]
theorem cB {M M1:MH} {f:Nat} (he:ev Φ e σ M=.ok d M1):ev Φ (.call f (.cons e .nil)) σ M=Φ.call f [d] M1:=by
 simp only [cA,av,he,R.aa,cY]
theorem sU {M M1:MH} {a b:Str} (he:ev Φ e σ M=.ok (.str a) M1):ev Φ (.cmp .eq e (.k (.str b))) σ M=.ok (.bl (decide (a=b))) M1:=by
 simp [he,bH,yG,G6,cu,top,Fg.plain,dep]
theorem oQ {M1 M2:MH} {e e':E} {a b:Int} {q:Bool} (he:ev Φ e σ M=.ok (.int a) M1) (hx:ev Φ e' σ M1=.ok (.int b) M2) (hq:decide (b<a)=q):ev Φ (.cmp .gt e e') σ M=.ok (.bl q) M2:=by
 rw [b9,he,R.aa,hx,<- hq];rfl
theorem Gi {M1 M2:MH} {e a:E} {d:D} {n c:Nat} {g:Str} {gs gs':List (Str×D)} (he:ev Φ e σ M=.ok d M1) (ha:ev Φ a σ M1=.ok (.ref n) M2) (h:M2[n]? = some (.ins c gs)) (hl:gs.length<1000) (hg:ef g d gs=gs'):ex Φ (.d9 a g e) σ M=.ok (.nx σ) (M2.set n (.ins c gs')):=by
 simp only [mJ,he,R.gb,ha,h,hl,decide_true,if_true,hg]
theorem e_new {M1 M2:MH} {c g:Nat} {es:Es} {ds:List D} (he:b6 Φ es σ M=.ok ds M1) (hc:Φ.ini g (.ref M1.length::ds) (M1++[.ins c []])=.ok .ao M2):ev Φ (.new c g es) σ M=.ok (.ref M1.length) M2:=by
 rw [Ge,he,R.aa,hc];rfl
theorem Gn {M1 M2:MH} {caps tg:List Nat} {elt:E} {it:Src} {d:D} {ds out:List D} (hi:eO Φ it σ M=.ok (d,ds,false) M1) (hl:bC (oM Φ .none) (ev Φ elt) tg (aO M1 d) ds (mV σ caps++List.replicate tg.length none) M1 []=.ok out M2):ev Φ (.comp false caps tg elt it .none) σ M=.ok (.ref M2.length) (M2++[.lst out]):=by
 rw [sM,hi,R.aa,CI,hl];rfl
theorem sV {M1 M2:MH} {caps tg:List Nat} {elt:E} {it:Src} {d:D} {ds out:List D} (hi:eO Φ it σ M=.ok (d,ds,false) M1) (hl:bC (oM Φ .none) (ev Φ elt) tg (aO M1 d) ds (mV σ caps++List.replicate tg.length none) M1 []=.ok out M2):ev Φ (.comp true caps tg elt it .none) σ M=.ok (.lst out) M2:=by
 rw [sM,hi,R.aa,CI,hl];rfl
theorem jI {elt:Sg->MH->R D} {n:Nat} {ch:MH->Bool} {d x:D} {ds acc:List D} {M1:MH} (h:elt (σ.set n (some d)) M=.ok x M1) (hc:ch M1=true) (hl:acc.length<line):bC (oM Φ .none) elt [n] ch (d::ds) σ M acc=bC (oM Φ .none) elt [n] ch ds (σ.set n (some d)) M1 (acc++[x]):=by
 rw [bC]
 simp only [sets,ya,R.aa,h,hc,if_true,hl,decide_true]
theorem qy (h:ev Φ e σ M=.ok x M1) (h':ev Φ e' σ M1=.ok y M2):b6 Φ (.cons e (.cons e' .nil)) σ M=.ok [x,y] M2:=by rw [av,h,R.aa,av,h'];rfl
theorem Bm (h:ev Φ e σ M=.ok x M1):b6 Φ (.cons e .nil) σ M=.ok [x] M1:=by rw [av,h];rfl
theorem fO {es:Es} (h:ev Φ e σ M=.ok x M1) (h':b6 Φ es σ M1=.ok xs M2):b6 Φ (.cons e es) σ M=.ok (x::xs) M2:=by rw [av,h,R.aa,h'];rfl
theorem sI {s:S}:exs Φ (.cons s .nil) σ M=ex Φ s σ M:=by
 rw [bG]
 cases ex Φ s σ M with
 | ok o M1=>cases o <;> rfl
 | exc c M1=>rfl
 | bad=>rfl
theorem cH {sa sb:Ss} (h:ev Φ c σ M=.ok (.bl false) M1):exs Φ (.cons (.ifs c sa sb) .nil) σ M=exs Φ sb σ M1:=by rw [sI,mK,h];rfl
theorem jx {sa sb:Ss} (h:ev Φ c σ M=.ok (.bl true) M1):exs Φ (.cons (.ifs c sa sb) .nil) σ M=exs Φ sa σ M1:=by rw [sI,mK,h];rfl
end
noncomputable def CL:List Str->Es
 | []=>.nil
 | b::bs=>.cons (.k (.str b)) (CL bs)
theorem sL {Φ:bh} {σ:Sg} {M:MH}:∀ bs:List Str,b6 Φ (CL bs) σ M=.ok (bs.map D.str) M
 | []=>rfl
 | b::bs=>by rw [CL,av,jT,R.aa,sL bs];rfl
theorem kY {Φ:bh} {σ:Sg} {M M1:MH} {e:E} {c:Str} {bs:List Str} {q:Bool} (he:ev Φ e σ M=.ok (.str c) M1) (hq:(bs.any fun z=>decide (z=c))=q):ev Φ (.cmp .isin e (.tup (CL bs))) σ M=.ok (.bl q) M1:=by
 have h1:(bs.map D.str).all flat=true:=by rw [List.all_map];exact List.all_eq_true.mpr fun _ _=>rfl
 have h2:((bs.map D.str).any fun d=>aD d (.str c))=q:=by
  rw [List.any_map,<- hq]
  congr 1
 rw [b9,he,R.aa,qz,sL]
 simp only [R.aa,bH,xF,vw,flat,h1,h2,Bool.and_self,if_true]
theorem bK {Φ:bh} {σ:Sg} {M M1:MH} {e:E} {c z:Str} {q:Bool} (he:ev Φ e σ M=.ok (.str c) M1) (hq:decide (c=z)=q):ev Φ (.cmp .eq e (.k (.str z))) σ M=.ok (.bl q) M1:=by
 rw [sU he,hq]
theorem wz {a b:String} (h:decide (Str.ofString a=Str.ofString b)=false:=by decide +kernel):(Str.ofString a == Str.ofString b)=false:=by
 rw [beq_eq_false_iff_ne];exact of_decide_eq_false h
theorem wn {a b:String} (h:decide (Str.ofString a=Str.ofString b)=false:=by decide +kernel):(Str.ofString a=Str.ofString b)=False:=by
 simpa using h
structure Px where
 prog:D
 most:Int
 bg:Int
 un:Int
 todo:List D
 wt:List D
 T:MH
noncomputable def Px.o (s:Px) (n:Nat):MO:=.ins 0 [(w "program", s.prog), (w "most", .int s.most), (w "begun", .int s.bg), (w "under_way", .int s.un), (w "todo", .ref (n+1)), (w "waiting", .ref (n+2))]
noncomputable def Px.h (s:Px) (M0:MH):MH:=M0++(s.o M0.length::.lst s.todo::.lst s.wt::s.T)
section
variable {M0:MH} {s s':Px} {ds p:List D} {t i:Nat} {o:MO} {x d:D} {Φ:bh} {σ:Sg} {e:E}
theorem off (i:Nat) (X:MH):(M0++X)[M0.length+i]? = X[i]?:=by
 rw [List.getElem?_append_right (Nat.le_add_right _ _),Nat.add_sub_cancel_left]
theorem offs (i:Nat) (X:MH) (o:MO):(M0++X).set (M0.length+i) o=M0++X.set i o:=by
 rw [List.set_append_right _ _ (Nat.le_add_right _ _),Nat.add_sub_cancel_left]
theorem g0:(s.h M0)[M0.length]? = some (s.o M0.length):=off 0 _
theorem g1:(s.h M0)[M0.length+1]? = some (.lst s.todo):=off 1 _
theorem g2:(s.h M0)[M0.length+2]? = some (.lst s.wt):=off 2 _
theorem gT:(s.h M0)[M0.length+(t+3)]? = s.T[t]?:=off (t+3) _
theorem s0 {s':Px}:(s.h M0).set M0.length (s'.o M0.length)=({ s with prog:=s'.prog,most:=s'.most,bg:=s'.bg,un:=s'.un }:Px).h M0:=offs 0 _ _
theorem s1:(s.h M0).set (M0.length+1) (.lst ds)=({ s with todo:=ds }:Px).h M0:=offs 1 _ _
theorem s2:(s.h M0).set (M0.length+2) (.lst ds)=({ s with wt:=ds }:Px).h M0:=offs 2 _ _
theorem sT:(s.h M0).set (M0.length+(t+3)) o=({ s with T:=s.T.set t o }:Px).h M0:=offs (t+3) _ _
theorem len:(s.h M0).length=M0.length+(s.T.length+3):=by simp [Px.h]
theorem app {X:MH}:s.h M0++X=({ s with T:=s.T++X }:Px).h M0:=by simp [Px.h,Px.o]
theorem vn:(s.h M0).take M0.length=M0:=by simp [Px.h]
theorem F5 (h:σ[i]? = some (some (.ref M0.length))):ev Φ (.fld (.v i) (w "program")) σ (s.h M0)=.ok s.prog (s.h M0):=by
 simp only [iD,ki,h,R.aa,g0,Px.o,List.lookup_cons,beq_self_eq_true]
theorem F6 (h:σ[i]? = some (some (.ref M0.length))):ev Φ (.fld (.v i) (w "most")) σ (s.h M0)=.ok (.int s.most) (s.h M0):=by
 simp only [iD, ki, h, R.aa, g0, Px.o, List.lookup_cons, beq_self_eq_true, wz (a:="most") (b:="program")]
theorem sH (h:σ[i]? = some (some (.ref M0.length))):ev Φ (.fld (.v i) (w "begun")) σ (s.h M0)=.ok (.int s.bg) (s.h M0):=by
 simp only [iD, ki, h, R.aa, g0, Px.o, List.lookup_cons, beq_self_eq_true, wz (a:="begun") (b:="program"), wz (a:="begun") (b:="most")]
theorem mG (h:σ[i]? = some (some (.ref M0.length))):ev Φ (.fld (.v i) (w "under_way")) σ (s.h M0)=.ok (.int s.un) (s.h M0):=by
 simp only [iD, ki, h, R.aa, g0, Px.o, List.lookup_cons, beq_self_eq_true, wz (a:="under_way") (b:="program"), wz (a:="under_way") (b:="most"), wz (a:="under_way") (b:="begun")]
theorem qw (h:σ[i]? = some (some (.ref M0.length))):ev Φ (.fld (.v i) (w "todo")) σ (s.h M0)=.ok (.ref (M0.length+1)) (s.h M0):=by
 simp only [iD, ki, h, R.aa, g0, Px.o, List.lookup_cons, beq_self_eq_true, wz (a:="todo") (b:="program"), wz (a:="todo") (b:="most"), wz (a:="todo") (b:="begun"), wz (a:="todo") (b:="under_way")]
theorem mF (h:σ[i]? = some (some (.ref M0.length))):ev Φ (.fld (.v i) (w "waiting")) σ (s.h M0)=.ok (.ref (M0.length+2)) (s.h M0):=by
 simp only [iD, ki, h, R.aa, g0, Px.o, List.lookup_cons, beq_self_eq_true, wz (a:="waiting") (b:="program"), wz (a:="waiting") (b:="most"), wz (a:="waiting") (b:="begun"), wz (a:="waiting") (b:="under_way"), wz (a:="waiting") (b:="todo")]
theorem AA {i:Int}:ef (w "begun") (.int i) [(w "program", s.prog), (w "most", .int s.most), (w "begun", .int s.bg), (w "under_way", .int s.un), (w "todo", .ref (M0.length+1)), (w "waiting", .ref (M0.length+2))]=[(w "program", s.prog), (w "most", .int s.most), (w "begun", .int i), (w "under_way", .int s.un), (w "todo", .ref (M0.length+1)), (w "waiting", .ref (M0.length+2))]:=by
 simp only [ef, wn (a:="program") (b:="begun"), wn (a:="most") (b:="begun"), if_true, if_false]
theorem Az {i:Int}:ef (w "under_way") (.int i) [(w "program", s.prog), (w "most", .int s.most), (w "begun", .int s.bg), (w "under_way", .int s.un), (w "todo", .ref (M0.length+1)), (w "waiting", .ref (M0.length+2))]=[(w "program", s.prog), (w "most", .int s.most), (w "begun", .int s.bg), (w "under_way", .int i), (w "todo", .ref (M0.length+1)), (w "waiting", .ref (M0.length+2))]:=by
 simp only [ef, wn (a:="program") (b:="under_way"), wn (a:="most") (b:="under_way"), wn (a:="begun") (b:="under_way"), if_true, if_false]
theorem Bu {n:Int} (h:σ[i]? = some (some (.ref M0.length))) (he:ev Φ e σ (s.h M0)=.ok (.int n) (s.h M0)):ex Φ (.d9 (.v i) (w "begun") e) σ (s.h M0)=.ok (.nx σ) (({ s with bg:=n }:Px).h M0):=by
 simp only [mJ,he,R.gb,ki,h,g0,Px.o,AA]
 exact congrArg (R.ok _) (s0 (s':={ s with bg:=n }))
theorem sQ {n:Int} (h:σ[i]? = some (some (.ref M0.length))) (he:ev Φ e σ (s.h M0)=.ok (.int n) (s.h M0)):ex Φ (.d9 (.v i) (w "under_way") e) σ (s.h M0)=.ok (.nx σ) (({ s with un:=n }:Px).h M0):=by
 simp only [mJ,he,R.gb,ki,h,g0,Px.o,Az]
 exact congrArg (R.ok _) (s0 (s':={ s with un:=n }))
theorem u_ {m:Nat} {nm:Str} {es:Es} (h:σ[i]? = some (some (.ref M0.length))) (hn:([w "program", w "most", w "begun", w "under_way", w "todo", w "waiting"].all fun x=>!(nm == x))=true):ev Φ (.cR 0 m nm (.v i) es) σ (s.h M0)=(b6 Φ es σ (s.h M0)).bind fun ds M2=>Φ.call m (.ref M0.length::ds) M2:=by
 simp only [List.all_cons,List.all_nil,Bool.and_true,Bool.and_eq_true,Bool.not_eq_true'] at hn
 obtain ⟨h1,h2,h3,h4,h5,h6⟩:=hn
 simp only [Gd,ki,h,R.aa,g0,Px.o,List.lookup_cons,List.lookup_nil,h1,h2,h3,h4,h5,h6,Option.isNone_none,decide_true,Bool.and_self,if_true]
theorem sR (h:σ[i]? = some (some (.ref M0.length))) (hp:s.wt=p++[x]):ev Φ (.bZ .pop true (.fld (.v i) (w "waiting")) .nil) σ (s.h M0)=.ok x (({ s with wt:=p }:Px).h M0):=by
 have g:(s.h M0)[M0.length+2]? = some (.lst (p++[x])):=by rw [g2,hp]
 simp only [gk,mF h,R.aa,p5 g,if_true,cY,D5 g,s2]
theorem qE (h:σ[i]? = some (some (.ref M0.length))) (he:ev Φ e σ (s.h M0)=.ok d (s'.h M0)) (hl:s'.wt.length<line):ev Φ (.bZ .append true (.fld (.v i) (w "waiting")) (.cons e .nil)) σ (s.h M0)=.ok .ao (({ s' with wt:=s'.wt++[d] }:Px).h M0):=by
 simp only [gk,mF h,R.aa,p6 g2,if_true,av,cY,he,Kn g2 hl,s2]
theorem e_next (h:σ[i]? = some (some (.ref M0.length))) (hp:s.todo=p++[x]):ev Φ (.bZ .pop true (.fld (.v i) (w "todo")) .nil) σ (s.h M0)=.ok x (({ s with todo:=p }:Px).h M0):=by
 have g:(s.h M0)[M0.length+1]? = some (.lst (p++[x])):=by rw [g1,hp]
 simp only [gk,qw h,R.aa,p5 g,if_true,cY,D5 g,s1]
end
end bO
end
section
namespace bO
open Fg PySem
inductive Rk where
 | plus
 | minus
 | times
 | less
noncomputable def eZ:Rk->Str
 | .plus=>w "plus"
 | .minus=>w "minus"
 | .times=>w "times"
 | .less=>w "less"
noncomputable def vU:Rk->Int->Int->Int
 | .plus,a,b=>a+b
 | .minus,a,b=>a-b
 | .times,a,b=>a*b
 | .less,a,b=>if a<b then 1 else 0
@[irreducible] noncomputable def G7:Int:=10 ^ 60
noncomputable def great (i:Int):Bool:=decide (G7<=(i.natAbs:Int))
noncomputable def xB:Rk->Bool
 | .less=>true
 | _=>false
noncomputable def yV (o:Rk) (a b:Int):Bool:=!xB o&&great (vU o a b)
theorem IA:c9 .pow 10 60=some G7:=by unfold G7;decide +kernel
section
variable {M M1 M2:MH} {k:Nat} {Φ:bh} {σ:Sg} {e e':E}
theorem CT {fz:Bool}:ev Φ (.op .pow fz (.k (.int 10)) (.k (.int 60))) σ M=.ok (.int G7) M:=by
 rw [iP,jT,R.aa,jT,R.aa]
 simp only [m9,IA]
theorem CU {i:Int} (h:ev Φ e σ M=.ok (.int i) M1):ev Φ (.nc .abs e) σ M=.ok (.int i.natAbs) M1:=by
 have z:(if i<0 then -i else i)=(i.natAbs:Int):=by split <;> omega
 rw [mO,h,R.aa,<- z];rfl
theorem e_ge {a b:Int} {q:Bool} (he:ev Φ e σ M=.ok (.int a) M1) (hx:ev Φ e' σ M1=.ok (.int b) M2) (hq:decide (b<=a)=q):ev Φ (.cmp .ge e e') σ M=.ok (.bl q) M2:=by
 rw [b9,he,R.aa,hx,R.aa,<- hq];rfl
theorem e_lt {a b:Int} {q:Bool} (he:ev Φ e σ M=.ok (.int a) M1) (hx:ev Φ e' σ M1=.ok (.int b) M2) (hq:decide (a<b)=q):ev Φ (.cmp .lt e e') σ M=.ok (.bl q) M2:=by
 rw [b9,he,R.aa,hx,R.aa,<- hq];rfl
theorem sS {a b:Int} {fz:Bool} (he:ev Φ e σ M=.ok (.int a) M1) (hx:ev Φ e' σ M1=.ok (.int b) M2) (ha:mid a=true) (hb:mid b=true):ev Φ (.op .mul fz e e') σ M=.ok (.int (a*b)) M2:=by
 rw [iP,he,R.aa,hx,R.aa]
 simp only [m9,c9]
 cases hs:small a||small b with
 | true=>rw [if_pos rfl]
 | false=>rw [if_neg (by decide),ha,hb,Bool.and_self,if_pos rfl]
theorem Kc {i:Int}:(af aq (k+1)).call 4 [.int i] M=if great i then .exc 2 M else .ok .ao M:=by
 have e1:ev (af aq k) (.cmp .ge (.nc .abs (.v 0)) (.op .pow true (.k (.int 10)) (.k (.int 60)))) [some (.int i)] M=.ok (.bl (great i)) M:=e_ge (CU rfl) CT rfl
 cases hq:great i with
 | true=>rw [hq] at e1;exact iF fn4 rfl (nN e1 rfl) aU
 | false=>rw [hq] at e1;exact dm fn4 rfl ((aL e1).trans rfl) (au rfl rfl)
theorem Gv {o:Rk} {a b:Int} (ha:mid a=true) (hb:mid b=true):(af aq (k+2)).call 5 [.str (eZ o),.int a,.int b] M=if yV o a b then .exc 2 M else .ok (.int (vU o a b)) M:=by
 have z:∀ u:Str,ev (af aq (k+1)) (.cmp .eq (.v 0) (.k (.str u))) [some (.str (eZ o)),some (.int a),some (.int b),none] M=.ok (.bl (decide (eZ o=u))) M:=fun u=>sU rfl
 have fin:∀ {v:Int},exs (af aq (k+1)) (.cons (.ex (.call 4 (.cons (.v 3) .nil))) (.cons (.ret (.v 3)) .nil)) [some (.str (eZ o)),some (.int a),some (.int b),some (.int v)] M=if great v then .ok (.xc 2 [some (.str (eZ o)),some (.int a),some (.int b),some (.int v)]) M else .ok (.rt (.int v)) M:=fun {v}=>by
  have q:=(cB (Φ:=af aq (k+1)) (f:=4) (e_v (M:=M) (σ:=[some (.str (eZ o)),some (.int a),some (.int b),some (.int v)]) (i:=3) rfl)).trans Kc
  cases hg:great v with
  | true=>rw [hg] at q;exact kE q
  | false=>rw [hg] at q;exact (bM q).trans rfl
 have done:∀ {v:Int},exs (af aq (k+1)) gh.body [some (.str (eZ o)),some (.int a),some (.int b),none] M=exs (af aq (k+1)) (.cons (.ex (.call 4 (.cons (.v 3) .nil))) (.cons (.ret (.v 3)) .nil)) [some (.str (eZ o)),some (.int a),some (.int b),some (.int v)] M ->
   (af aq (k+2)).call 5 [.str (eZ o),.int a,.int b] M=if great v then .exc 2 M else .ok (.int v) M:=fun {v} h=>by
  rw [fin] at h
  cases hg:great v with
  | true=>rw [hg] at h;exact iF fn5 rfl h aU
  | false=>rw [hg] at h;exact bx fn5 rfl h (au rfl rfl)
 cases o with
 | less =>
  have z1:=z (w "less")
  rw [show decide (eZ .less=w "less")=true by decide +kernel] at z1
  have e2:ev (af aq (k+1)) (.A7 (.cmp .lt (.v 1) (.v 2)) (.k (.int 1)) (.k (.int 0))) [some (.str (eZ .less)),some (.int a),some (.int b),none] M=.ok (.int (vU .less a b)) M:=by
   rw [yc,e_lt (a:=a) (b:=b) rfl rfl rfl,R.aa]
   by_cases h:a<b
   ·simp [h,vU]
   ·simp [h,vU]
  exact bx fn5 rfl (cU z1 (bJ e2)) (au rfl rfl)
 | plus =>
  have z1:=z (w "less")
  rw [show decide (eZ .plus=w "less")=false by decide +kernel] at z1
  have z2:=z (w "plus")
  rw [show decide (eZ .plus=w "plus")=true by decide +kernel] at z2
  exact done ((aL z1).trans (nO z2 ((aF (fW rfl rfl)).trans rfl)))
 | minus =>
  have z1:=z (w "less")
  rw [show decide (eZ .minus=w "less")=false by decide +kernel] at z1
  have z2:=z (w "plus")
  rw [show decide (eZ .minus=w "plus")=false by decide +kernel] at z2
  have z3:=z (w "minus")
  rw [show decide (eZ .minus=w "minus")=true by decide +kernel] at z3
  exact done ((aL z1).trans (ie z2 ((nO z3 ((aF (kW rfl rfl)).trans rfl)).trans rfl)))
 | times =>
  have z1:=z (w "less")
  rw [show decide (eZ .times=w "less")=false by decide +kernel] at z1
  have z2:=z (w "plus")
  rw [show decide (eZ .times=w "plus")=false by decide +kernel] at z2
  have z3:=z (w "minus")
  rw [show decide (eZ .times=w "minus")=false by decide +kernel] at z3
  exact done ((aL z1).trans (ie z2 ((ie z3 ((aF (sS rfl rfl ha hb)).trans rfl)).trans rfl)))
end
inductive Vl:D->Prop
 | int {i:Int}:mid i=true->Vl (.int i)
 | ao:Vl .ao
 | cell {wd:Str} {sz:Int} {a b:D}:1<=sz->sz<=1000->Vl a->Vl b->Vl (.tup [.str wd,.int sz,a,b])
noncomputable def jf:D->Int
 | .tup (_::.int n::_)=>n
 | _=>1
theorem Vl.sz {v:D} (h:Vl v):1<=jf v/\jf v<=1000:=by
 cases h with
 | int i=>simp [jf]
 | ao=>simp [jf]
 | cell h1 h2 _ _=>exact ⟨h1,h2⟩
theorem Vl.nr {v:D} (h:Vl v):∀ m,Fg.nr m v=true:=fun m=>by
 induction h with
 | int=>simp [Fg.nr]
 | ao=>simp [Fg.nr]
 | cell _ _ _ _ i j=>simp [Fg.nr,e8,i,j]
noncomputable def layW (c:Bool):Str:=if c then w "cons" else w "pair"
noncomputable def dG (c t:Bool):Str:=if c then (if t then w "tail" else w "head") else (if t then w "second" else w "first")
inductive Op where
 | rk (o:Rk)
 | lay (c:Bool)
 | look (c t:Bool)
 | none
noncomputable def Op.w:Op->Str
 | .rk o=>eZ o
 | .lay c=>layW c
 | .look c t=>dG c t
 | .none=>bO.w "none"
inductive Cz where
 | ok (d:D)
 | exc (c:Nat)
noncomputable def Cz.r (M:MH):Cz->R D
 | .ok d=>.ok d M
 | .exc c=>.exc c M
inductive jc:Op->List D->Cz->Prop
 | rk {o:Rk} {a b:Int}:mid a=true->mid b=true->jc (.rk o) [.int a,.int b] (if yV o a b then .exc 2 else .ok (.int (vU o a b)))
 | lay {c:Bool} {a b:D}:Vl a->Vl b->jc (.lay c) [a,b] (if 1000<1+jf a+jf b then .exc 2 else .ok (.tup [.str (layW c),.int (1+jf a+jf b),a,b]))
 | empty {c t:Bool}:jc (.look c t) [.ao] (.exc 3)
 | look {c t:Bool} {wd:Str} {sz:Int} {a b:D}:Vl a->Vl b->jc (.look c t) [.tup [.str wd,.int sz,a,b]] (.ok (if t then b else a))
 | none {v:D}:jc .none [v] (.ok (.int (if bT v then 1 else 0)))
section
variable {M:MH} {k n:Nat}
theorem mY {v:D} (hv:Vl v):(af aq (k+1)).call 2 [v] M=.ok (.int (jf v)) M:=by
 rw [cC fn2]
 cases hv <;> simp [jy,iB,CD,mh,vw,jf,fM,nr]
theorem gl1:aq.glob 1=some (.int 1000):=rfl
theorem Gz {wd:Str} {a b:D} (hw:wd.length<=100000) (ha:Vl a) (hb:Vl b):(af aq (k+2)).call 3 [.str wd,a,b] M=if 1000<1+jf a+jf b then .exc 2 M else .ok (.tup [.str wd,.int (1+jf a+jf b),a,b]) M:=by
 rw [cC fn3]
 have h1:=ha.sz
 have h2:=hb.sz
 have h3:(1+jf a+jf b).natAbs<18446744073709551616:=by omega
 by_cases hq:1000<1+jf a+jf b
 ·simp [jy,fK,mY ha,mY hb,m9,c9,gl1,bH,qG,hq,c7,hw,h3,aU]
 ·simp [jy,fK,mY ha,mY hb,m9,c9,gl1,bH,qG,hq,fM,nr,e8,ha.nr,hb.nr]
theorem yC {wd:Str} (hw:wd.length<=100000):(af aq (k+1)).call 6 [.str wd,.ao] M=.exc 3 M:=by
 rw [cC fn6]
 simp [jy,fk,bH,bT,c7,hw,aU]
theorem lu {wd c:Str} {sz:Int} {a b:D} {q:Bool} (hq:([w "first", w "head"].any fun z=>decide (z=wd))=q) (ha:Vl a) (hb:Vl b):(af aq (k+1)).call 6 [.str wd, .tup [.str c, .int sz, a, b]] M=.ok (if q then a else b) M:=by
 have e1:ev (af aq k) (.cmp .ow (.v 1) (.k .ao)) [some (.str wd),some (.tup [.str c,.int sz,a,b])] M=.ok (.bl false) M:=rfl
 have e2:=kY (Φ:=af aq k) (e:=.v 0) (σ:=[some (.str wd),some (.tup [.str c,.int sz,a,b])]) (M:=M) (M1:=M) rfl hq
 cases q with
 | true=>exact bx fn6 rfl ((aL e1).trans (cU e2 (bJ rfl))) (au (ha.nr _) rfl)
 | false=>exact bx fn6 rfl ((aL e1).trans ((aL e2).trans (bJ rfl))) (au (hb.nr _) rfl)
theorem rM {o:Op}:o.w.length<=100000:=by
 cases o with
 | rk o=>cases o <;> decide +kernel
 | lay c=>cases c <;> decide +kernel
 | look c t=>cases c <;> cases t <;> decide +kernel
 | none=>decide +kernel
noncomputable def w1:List Str:=[w "plus", w "minus", w "times", w "less"]
noncomputable def w2:List Str:=[w "pair", w "cons"]
noncomputable def an (ws:List Str) (z:Str):Bool:=ws.any fun y=>decide (y=z)
theorem Gy {o:Op} {ds:List D} {r:Cz} (hc:jc o ds r) (h:M[n]? = some (.lst ds)):(af aq (k+3)).call 7 [.str o.w,.ref n] M=r.r M:=by
 let σ:Sg:=[some (.str o.w),some (.ref n)]
 have a1:ev (af aq (k+2)) (.cmp .isin (.v 0) (.tup (CL w1))) σ M=.ok (.bl (an w1 o.w)) M:=kY (c:=o.w) rfl rfl
 have a2:ev (af aq (k+2)) (.cmp .isin (.v 0) (.tup (CL w2))) σ M=.ok (.bl (an w2 o.w)) M:=kY (c:=o.w) rfl rfl
 have a3:ev (af aq (k+2)) (.cmp .eq (.v 0) (.k (.str (w "none")))) σ M=.ok (.bl (decide (o.w=w "none"))) M:=sU rfl
 have ix:∀ (j:Int) (d:D),j8 ds j=some d->ev (af aq (k+2)) (.idx (.v 1) (.k (.int j))) σ M=.ok d M:=fun j d hj=>yh rfl rfl h hj
 cases hc with
 | @rk o a b ha hb =>
  have q1:an w1 (eZ o)=true:=by cases o <;> decide +kernel
  rw [show (Op.rk o).w=eZ o from rfl,q1] at a1
  have ec:ev (af aq (k+2)) (.call 5 (.cons (.v 0) (.cons (.idx (.v 1) (.k (.int 0))) (.cons (.idx (.v 1) (.k (.int 1))) .nil)))) σ M=(if yV o a b then .exc 2 M else .ok (.int (vU o a b)) M):=by
   rw [cA,fO (x:=.str (eZ o)) (M1:=M) rfl (fO (ix 0 (.int a) bL) (fO (ix 1 (.int b) fZ) rfl)),R.aa]
   exact Gv (k:=k) (o:=o) (a:=a) (b:=b) ha hb
  cases hg:yV o a b with
  | true=>rw [hg] at ec;exact iF FU rfl (nN a1 (pQ ec)) aU
  | false=>rw [hg] at ec;exact bx FU rfl (cU a1 (bJ ec)) (au rfl rfl)
 | @lay c a b ha hb =>
  have q1:an w1 (layW c)=false:=by cases c <;> decide +kernel
  have q2:an w2 (layW c)=true:=by cases c <;> decide +kernel
  rw [show (Op.lay c).w=layW c from rfl] at a1 a2
  rw [q1] at a1
  rw [q2] at a2
  have ec:ev (af aq (k+2)) (.call 3 (.cons (.v 0) (.cons (.idx (.v 1) (.k (.int 0))) (.cons (.idx (.v 1) (.k (.int 1))) .nil)))) σ M=(if 1000<1+jf a+jf b then .exc 2 M else .ok (.tup [.str (layW c),.int (1+jf a+jf b),a,b]) M):=by
   rw [cA,fO (x:=.str (layW c)) (M1:=M) rfl (fO (ix 0 a bL) (fO (ix 1 b fZ) rfl)),R.aa]
   exact Gz (k:=k) (wd:=layW c) (rM (o:=.lay c)) ha hb
  by_cases hg:1000<1+jf a+jf b
  ·rw [if_pos hg] at ec ⊢
   exact iF FU rfl ((aL a1).trans (nN a2 (pQ ec))) aU
  ·rw [if_neg hg] at ec ⊢
   exact bx FU rfl ((aL a1).trans (cU a2 (bJ ec))) (au (by simp [nr,e8,ha.nr,hb.nr]) rfl)
 | none =>
  rename_i v
  have q1:an w1 (w "none")=false:=by decide +kernel
  have q2:an w2 (w "none")=false:=by decide +kernel
  have q3:decide (w "none" = w "none")=true:=by decide +kernel
  rw [show Op.none.w=w "none" from rfl] at a1 a2 a3
  rw [q1] at a1
  rw [q2] at a2
  rw [q3] at a3
  have ec:ev (af aq (k+2)) (.A7 (.cmp .ow (.idx (.v 1) (.k (.int 0))) (.k .ao)) (.k (.int 1)) (.k (.int 0))) σ M=.ok (.int (if bT v then 1 else 0)) M:=by
   have e1:ev (af aq (k+2)) (.cmp .ow (.idx (.v 1) (.k (.int 0))) (.k .ao)) σ M=.ok (.bl (bT v)) M:=by
    rw [b9,ix 0 v bL,R.aa];rfl
   rw [yc,e1,R.aa]
   cases bT v <;> rfl
  exact bx FU rfl ((aL a1).trans ((aL a2).trans (cU a3 (bJ ec)))) (au rfl rfl)
 | @empty c t =>
  have q1:an w1 (dG c t)=false:=by cases c <;> cases t <;> decide +kernel
  have q2:an w2 (dG c t)=false:=by cases c <;> cases t <;> decide +kernel
  have q3:decide (dG c t=w "none")=false:=by cases c <;> cases t <;> decide +kernel
  rw [show (Op.look c t).w=dG c t from rfl] at a1 a2 a3
  rw [q1] at a1
  rw [q2] at a2
  rw [q3] at a3
  have ec:ev (af aq (k+2)) (.call 6 (.cons (.v 0) (.cons (.idx (.v 1) (.k (.int 0))) .nil))) σ M=.exc 3 M:=by
   rw [cA,fO (x:=.str (dG c t)) (M1:=M) rfl (fO (ix 0 .ao bL) rfl),R.aa]
   exact yC (rM (o:=.look c t))
  exact iF FU rfl ((aL a1).trans ((aL a2).trans ((aL a3).trans (pQ ec)))) aU
 | @look c t wd sz a b ha hb =>
  have q1:an w1 (dG c t)=false:=by cases c <;> cases t <;> decide +kernel
  have q2:an w2 (dG c t)=false:=by cases c <;> cases t <;> decide +kernel
  have q3:decide (dG c t=w "none")=false:=by cases c <;> cases t <;> decide +kernel
  have q4:([w "first", w "head"].any fun z=>decide (z=dG c t))=!t:=by cases c <;> cases t <;> decide +kernel
  rw [show (Op.look c t).w=dG c t from rfl] at a1 a2 a3
  rw [q1] at a1
  rw [q2] at a2
  rw [q3] at a3
  have ec:ev (af aq (k+2)) (.call 6 (.cons (.v 0) (.cons (.idx (.v 1) (.k (.int 0))) .nil))) σ M=.ok (if t then b else a) M:=by
   rw [cA,fO (x:=.str (dG c t)) (M1:=M) rfl (fO (ix 0 _ bL) rfl),R.aa,lu (wd:=dG c t) q4 ha hb]
   cases t <;> rfl
  have hr:Vl (if t then b else a):=by cases t <;> assumption
  exact bx FU rfl ((aL a1).trans ((aL a2).trans ((aL a3).trans (bJ ec)))) (au (hr.nr _) rfl)
end
end bO
end
section
namespace bO
open Fg PySem
inductive Kd where
 | num
 | pair (a b:Kd)
 | list (a:Kd)
noncomputable def Kd.d:Kd->D
 | .num=>.tup [.str (w "num")]
 | .pair a b=>.tup [.str (w "pair"), a.d, b.d]
 | .list a=>.tup [.str (w "list"), a.d]
mutual
inductive Pt where
 | num (i:Int)
 | GW (x:Str)
 | nil (k:Kd)
 | lt (x:Str) (a b:Pt)
 | ite (c a b:Pt)
 | op (o:Op) (ps:cQ)
 | call (f:Str) (ps:cQ)
inductive cQ where
 | nil
 | cons (p:Pt) (ps:cQ)
end
mutual
noncomputable def Pt.d:Pt->D
 | .num i=>.tup [.str (w "number"), .int i]
 | .GW x=>.tup [.str (w "name"), .str x]
 | .nil k=>.tup [.str (w "nil"), k.d]
 | .lt x a b=>.tup [.str (w "let"), .str x, a.d, b.d]
 | .ite c a b=>.tup [.str (w "if"), c.d, a.d, b.d]
 | .op o ps=>.tup (.str o.w::ps.ds)
 | .call f ps=>.tup (.str (w "call")::.str f::ps.ds)
noncomputable def cQ.ds:cQ->List D
 | .nil=>[]
 | .cons p ps=>p.d::ps.ds
end
noncomputable def cQ.l:cQ->List Pt
 | .nil=>[]
 | .cons p ps=>p::ps.l
theorem Kd.nr {m:Nat}:∀ k:Kd,Fg.nr m k.d=true
 | .num=>by simp [Kd.d,Fg.nr,e8]
 | .pair a b=>by simp [Kd.d,Fg.nr,e8,Kd.nr a,Kd.nr b]
 | .list a=>by simp [Kd.d,Fg.nr,e8,Kd.nr a]
mutual
theorem Pt.nr {m:Nat}:∀ p:Pt,Fg.nr m p.d=true
 | .num i=>by simp [Pt.d,Fg.nr,e8]
 | .GW x=>by simp [Pt.d,Fg.nr,e8]
 | .nil k=>by simp [Pt.d,Fg.nr,e8,Kd.nr]
 | .lt x a b=>by simp [Pt.d,Fg.nr,e8,Pt.nr a,Pt.nr b]
 | .ite c a b=>by simp [Pt.d,Fg.nr,e8,Pt.nr c,Pt.nr a,Pt.nr b]
 | .op o ps=>by simp [Pt.d,Fg.nr,e8,cQ.nr ps]
 | .call f ps=>by simp [Pt.d,Fg.nr,e8,cQ.nr ps]
theorem cQ.nr {m:Nat}:∀ ps:cQ,e8 m ps.ds=true
 | .nil=>by simp [cQ.ds,e8]
 | .cons p ps=>by simp [cQ.ds,e8,Pt.nr p,cQ.nr ps]
end
structure Fd where
 nm:Str
 tk:List (Str×Kd)
 gv:Kd
 bd:Pt
noncomputable def Fd.d (f:Fd):D:=.tup [.str f.nm,.lst (f.tk.map fun t=>.tup [.str t.1,t.2.d]),f.gv.d,f.bd.d]
noncomputable def GU:D:=.dct [.inr (w "plus"), .inr (w "minus"), .inr (w "times"), .inr (w "less"), .inr (w "pair"), .inr (w "first"), .inr (w "second"), .inr (w "cons"), .inr (w "head"), .inr (w "tail"), .inr (w "none"), .inr (w "if")] [.int 2, .int 2, .int 2, .int 2, .int 2, .int 1, .int 1, .int 2, .int 1, .int 1, .int 1, .int 3]
theorem gl0:aq.glob 0=some GU:=rfl
noncomputable def pb (z:Str):Bool:=match xF [] (.str z) GU with | some t=>t | none=>false
section
variable {M:MH} {k n:Nat} {Φ:bh} {σ:Sg} {e:E}
theorem CP {z:Str} (he:ev (af aq k) e σ M=.ok (.str z) M):ev (af aq k) (.cmp .isin e (.g 0)) σ M=.ok (.bl (pb z)) M:=by
 rw [b9,he,R.aa,JN,jX,gl0]
 show bH .isin M (.str z) GU=_
 have e1:xF M (.str z) GU=xF [] (.str z) GU:=rfl
 have e2:xF [] (.str z) GU=some (pb z):=rfl
 simp only [bH,e1,e2]
theorem cut1 {x:D} {xs:List D}:cg (x::xs) (some 1) none=xs:=by
 simp [cg,six]
theorem cut2 {x y:D} {xs:List D}:cg (x::y::xs) (some 2) none=xs:=by
 simp [cg,six]
theorem jY {z:Str} {xs:List D} (hz:pb z=true) (hn:e8 M.length xs=true):(af aq (k+1)).call 0 [.tup (.str z::xs)] M=.ok (.tup xs) M:=by
 have e1:ev (af aq k) (.idx (.v 0) (.k (.int 0))) [some (.tup (.str z::xs)),none] M=.ok (.str z) M:=aK rfl rfl bL
 have e2:ev (af aq k) (.cmp .isin (.v 1) (.g 0)) [some (.tup (.str z::xs)),some (.str z)] M=.ok (.bl true) M:=by rw [CP (z:=z) rfl,hz]
 have e3:ev (af aq k) (.sl true (.v 0) (.some (.k (.int 1))) .none) [some (.tup (.str z::xs)),some (.str z)] M=.ok (.tup xs) M:=by
  show (if iM (xs.length+1) (some 1) none then R.bad else R.ok (D.tup (cg (D.str z::xs) (some 1) none)) M)=_
  rw [Be,cut1];rfl
 exact bx fn0 rfl ((aF e1).trans (cU e2 (bJ e3))) (au (by simp only [nr,hn]) rfl)
noncomputable def w3:List Str:=[w "let", w "call"]
theorem gY {z:Str} {y:D} {xs:List D} (hz:pb z=false) (hz2:an w3 z=true) (hn:e8 M.length xs=true):(af aq (k+1)).call 0 [.tup (.str z::y::xs)] M=.ok (.tup xs) M:=by
 have e1:ev (af aq k) (.idx (.v 0) (.k (.int 0))) [some (.tup (.str z::y::xs)),none] M=.ok (.str z) M:=aK rfl rfl bL
 have e2:ev (af aq k) (.cmp .isin (.v 1) (.g 0)) [some (.tup (.str z::y::xs)),some (.str z)] M=.ok (.bl false) M:=by rw [CP (z:=z) rfl,hz]
 have e4:ev (af aq k) (.cmp .isin (.v 1) (.tup (CL w3))) [some (.tup (.str z::y::xs)),some (.str z)] M=.ok (.bl true) M:=kY (c:=z) rfl hz2
 have e3:ev (af aq k) (.sl true (.v 0) (.some (.k (.int 2))) .none) [some (.tup (.str z::y::xs)),some (.str z)] M=.ok (.tup xs) M:=by
  show (if iM (xs.length+1+1) (some 2) none then R.bad else R.ok (D.tup (cg (D.str z::y::xs) (some 2) none)) M)=_
  rw [Bc,cut2];rfl
 exact bx fn0 rfl ((aF e1).trans ((aL e2).trans (cU e4 (bJ e3)))) (au (by simp only [nr,hn]) rfl)
theorem Cr {o:Op}:pb o.w=true:=by
 cases o with
 | rk o=>cases o <;> decide +kernel
 | lay c=>cases c <;> decide +kernel
 | look c t=>cases c <;> cases t <;> decide +kernel
 | none=>decide +kernel
end
noncomputable def aA (z:Str) (p en:D):D:=.tup [.str z,p,en]
section
variable {M0:MH} {s:Px} {p:List D} {t k:Nat} {Φ:bh} {σ:Sg} {e e':E} {x y en v:D} {kvs:List (Ky×D)}
theorem J9 {z:Str} (hl:s.todo.length<line):(af aq (k+1)).call 12 [.ref M0.length,.str z,x,en] (s.h M0)=.ok .ao (({ s with todo:=s.todo++[aA z x en] }:Px).h M0):=by
 have e1:=yi (Φ:=af aq k) (e:=.fld (.v 0) (w "todo")) (e':=.tup (.cons (.v 1) (.cons (.v 2) (.cons (.v 3) .nil)))) (σ:=[some (.ref M0.length), some (.str z), some x, some en]) (qw (s:=s) (i:=0) rfl) g1 rfl g1 hl
 rw [s1] at e1
 exact dm fn12 rfl ((bM e1).trans rfl) (au (by simp [nr]) (by rw [len,len]))
theorem gS {z:Str} {s':Px} (h:σ[0]? = some (some (.ref M0.length))) (hx:ev (af aq (k+1)) e σ (s.h M0)=.ok x (s.h M0)) (hn:ev (af aq (k+1)) e' σ (s.h M0)=.ok en (s'.h M0)) (hl:s'.todo.length<line):ev (af aq (k+1)) (.cR 0 12 (w "put_off") (.v 0) (.cons (.k (.str z)) (.cons e (.cons e' .nil)))) σ (s.h M0)=.ok .ao (({ s' with todo:=s'.todo++[aA z x en] }:Px).h M0):=by
 rw [u_ h (by decide +kernel),fO (x:=.str z) rfl (fO hx (fO hn rfl)),R.aa]
 exact J9 hl
noncomputable def bg5:Ss:=.cons (.ex (.cR 0 12 (w "put_off") (.v 0) (.cons (.k (.str (w "end"))) (.cons (.v 1) (.cons (.v 2) .nil))))) (.cons (.for [4] (.rev (.call 0 (.cons (.v 1) .nil))) (.cons (.ex (.cR 0 12 (w "put_off") (.v 0) (.cons (.k (.str (w "begin"))) (.cons (.v 4) (.cons (.v 2) .nil))))) .nil)) .nil)
noncomputable def bg4:Ss:=.cons (.ex (.cR 0 12 (w "put_off") (.v 0) (.cons (.k (.str (w "go on"))) (.cons (.v 1) (.cons (.v 2) .nil))))) (.cons (.ex (.cR 0 12 (w "put_off") (.v 0) (.cons (.k (.str (w "begin"))) (.cons (.idx (.call 0 (.cons (.v 1) .nil)) (.k (.int 0))) (.cons (.v 2) .nil))))) .nil)
noncomputable def w4:List Str:=[w "let", w "if"]
noncomputable def bgT3:Ss:=.cons (.ifs (.cmp .isin (.v 3) (.tup (CL w4))) bg4 bg5) .nil
noncomputable def bg3:Ss:=.cons (.ex (.bZ .append true (.fld (.v 0) (w "waiting")) (.cons (.k .ao) .nil))) .nil
noncomputable def bgT2:Ss:=.cons (.ifs (.cmp .eq (.v 3) (.k (.str (w "nil")))) bg3 bgT3) .nil
noncomputable def bg2:Ss:=.cons (.ex (.bZ .append true (.fld (.v 0) (w "waiting")) (.cons (.idx (.v 2) (.idx (.v 1) (.k (.int 1)))) .nil))) .nil
noncomputable def Kl:Ss:=.cons (.ifs (.cmp .eq (.v 3) (.k (.str (w "name")))) bg2 bgT2) .nil
noncomputable def bg1:Ss:=.cons (.ex (.bZ .append true (.fld (.v 0) (w "waiting")) (.cons (.idx (.v 1) (.k (.int 1))) .nil))) .nil
theorem qJ:bf.body=.cons (.set 3 (.idx (.v 1) (.k (.int 0)))) (.cons (.ifs (.cmp .eq (.v 3) (.k (.str (w "number")))) bg1 Kl) .nil):=rfl
noncomputable abbrev sB (n:Nat) (z:Str) (xs:List D) (en:D) (o:Option D):Sg:=[some (.ref n),some (.tup (.str z::xs)),some en,some (.str z),o]
theorem j3 {z:Str} {xs:List D}:exs Φ bf.body [some (.ref M0.length), some (.tup (.str z::xs)), some en, none, none] (s.h M0)=exs Φ (.cons (.ifs (.cmp .eq (.v 3) (.k (.str (w "number")))) bg1 Kl) .nil) (sB M0.length z xs en none) (s.h M0):=by
 rw [qJ];exact aF (aK rfl rfl bL)
theorem Dk {i:Int} (hl:s.wt.length<line):(af aq (k+1)).call 13 [.ref M0.length,(Pt.num i).d,en] (s.h M0)=.ok .ao (({ s with wt:=s.wt++[.int i] }:Px).h M0):=by
 have e1:=qE (Φ:=af aq k) (M0:=M0) (s:=s) (s':=s) (i:=0) (σ:=sB M0.length (w "number") [.int i] en none) (e:=.idx (.v 1) (.k (.int 1))) (d:=.int i) rfl (aK rfl rfl fZ) hl
 exact dm xS rfl (j3.trans ((jx (bK rfl (by decide +kernel))).trans ((bM e1).trans rfl))) (au (by simp [nr]) (by rw [len,len]))
theorem Dm {z:Str} (ht:s.T[t]? = some (.dct kvs)) (hv:look kvs (.inr z)=some v) (hl:s.wt.length<line):(af aq (k+1)).call 13 [.ref M0.length,(Pt.GW z).d,.ref (M0.length+(t+3))] (s.h M0)=.ok .ao (({ s with wt:=s.wt++[v] }:Px).h M0):=by
 have e1:=qE (Φ:=af aq k) (M0:=M0) (s:=s) (s':=s) (i:=0) (σ:=sB M0.length (w "name") [.str z] (.ref (M0.length+(t+3))) none) (e:=.idx (.v 2) (.idx (.v 1) (.k (.int 1)))) (d:=v) rfl (JY rfl (aK rfl rfl fZ) (gT.trans ht) hv) hl
 exact dm xS rfl (j3.trans ((cH (bK rfl (by decide +kernel))).trans ((jx (bK rfl (by decide +kernel))).trans ((bM e1).trans rfl)))) (au (by simp [nr]) (by rw [len,len]))
theorem Dl {kd:Kd} (hl:s.wt.length<line):(af aq (k+1)).call 13 [.ref M0.length,(Pt.nil kd).d,en] (s.h M0)=.ok .ao (({ s with wt:=s.wt++[.ao] }:Px).h M0):=by
 have e1:=qE (Φ:=af aq k) (M0:=M0) (s:=s) (s':=s) (i:=0) (σ:=sB M0.length (w "nil") [kd.d] en none) (e:=.k .ao) (d:=.ao) rfl rfl hl
 exact dm xS rfl (j3.trans ((cH (bK rfl (by decide +kernel))).trans ((cH (bK rfl (by decide +kernel))).trans ((jx (bK rfl (by decide +kernel))).trans ((bM e1).trans rfl))))) (au (by simp [nr]) (by rw [len,len]))
theorem vC {z:Str} {xs ys:List D} (h1:decide (z=w "number")=false) (h2:decide (z=w "name")=false) (h3:decide (z=w "nil")=false) (h4:an w4 z=true) (hi:∀ M, (s.h M0).length=M.length->(af aq (k+1)).call 0 [.tup (.str z::xs)] M=.ok (.tup (x::ys)) M) (hl:s.todo.length+1<line) :
  (af aq (k+2)).call 13 [.ref M0.length, .tup (.str z::xs), en] (s.h M0)=.ok .ao (({ s with todo:=s.todo++[aA (w "go on") (.tup (.str z::xs)) en]++[aA (w "begin") x en] }:Px).h M0):=by
 have e1:=gS (k:=k) (M0:=M0) (s:=s) (s':=s) (σ:=sB M0.length z xs en none) (z:=w "go on") (e:=.v 1) (e':=.v 2) (x:=.tup (.str z::xs)) (en:=en) rfl rfl rfl (by omega)
 have e2:=gS (k:=k) (M0:=M0) (s:={ s with todo:=s.todo++[aA (w "go on") (.tup (.str z::xs)) en] }) (s':={ s with todo:=s.todo++[aA (w "go on") (.tup (.str z::xs)) en] }) (σ:=sB M0.length z xs en none) (z:=w "begin") (e:=.idx (.call 0 (.cons (.v 1) .nil)) (.k (.int 0))) (e':=.v 2) (x:=x) (en:=en) rfl (aK ((cB rfl).trans (hi _ (by rw [len, len]))) rfl bL) rfl (by simp;omega)
 exact dm xS rfl (j3.trans ((cH (bK rfl h1)).trans ((cH (bK rfl h2)).trans ((cH (bK rfl h3)).trans ((jx (kY (c:=z) rfl h4)).trans ((bM e1).trans ((bM e2).trans rfl))))))) (au (by simp [nr]) (by rw [len,len]))
theorem pH {z:Str} {a b:Pt} (hl:s.todo.length+1<line):(af aq (k+2)).call 13 [.ref M0.length, (Pt.lt z a b).d, en] (s.h M0)=.ok .ao (({ s with todo:=s.todo++[aA (w "go on") (Pt.lt z a b).d en]++[aA (w "begin") a.d en] }:Px).h M0):=by
 have:(Pt.lt z a b).d=.tup (.str (w "let")::.str z::[a.d, b.d]):=by rw [Pt.d]
 rw [this]
 exact vC (by decide +kernel) (by decide +kernel) (by decide +kernel) (by decide +kernel) (fun M _=>gY (by decide +kernel) (by decide +kernel) (by simp [e8,a.nr,b.nr])) hl
theorem pI {c a b:Pt} (hl:s.todo.length+1<line):(af aq (k+2)).call 13 [.ref M0.length, (Pt.ite c a b).d, en] (s.h M0)=.ok .ao (({ s with todo:=s.todo++[aA (w "go on") (Pt.ite c a b).d en]++[aA (w "begin") c.d en] }:Px).h M0):=by
 have:(Pt.ite c a b).d=.tup (.str (w "if")::[c.d, a.d, b.d]):=by rw [Pt.d]
 rw [this]
 exact vC (by decide +kernel) (by decide +kernel) (by decide +kernel) (by decide +kernel) (fun M _=>jY (by decide +kernel) (by simp [e8,c.nr,a.nr,b.nr])) hl
theorem wR {z:Str} {xs:List D} {ch:MH->Bool} (hch:∀ M,ch M=true):∀ (ds:List D) (s:Px) (o:Option D),s.todo.length+ds.length<line ->
  ∃ o', cj (exs (af aq (k+1)) (.cons (.ex (.cR 0 12 (w "put_off") (.v 0) (.cons (.k (.str (w "begin"))) (.cons (.v 4) (.cons (.v 2) .nil))))) .nil)) [4] ch ds (sB M0.length z xs en o) (s.h M0)=.ok (.nx (sB M0.length z xs en o')) (({ s with todo:=s.todo++ds.map fun d=>aA (w "begin") d en }:Px).h M0)
 | [],s,o,_=>⟨o,by rw [List.map_nil,List.append_nil];rfl⟩
 | d::ds,s,o,hl=>by
  simp only [List.length_cons] at hl
  obtain ⟨o', q⟩:=wR hch ds { s with todo:=s.todo++[aA (w "begin") d en] } (some d) (by simp;omega)
  have e1:=gS (k:=k) (M0:=M0) (s:=s) (s':=s) (σ:=sB M0.length z xs en (some d)) (z:=w "begin") (e:=.v 4) (e':=.v 2) (x:=d) (en:=en) rfl rfl rfl (by omega)
  refine ⟨o',?_⟩
  rw [cj]
  show ((exs (af aq (k+1)) _ (sB M0.length z xs en (some d)) (s.h M0)).bind _)=_
  rw [bM e1]
  show (if ch _ then _ else _)=_
  rw [if_pos (hch _),q]
  simp
theorem qZ {z:Str} {xs ys:List D} (h1:decide (z=w "number")=false) (h2:decide (z=w "name")=false) (h3:decide (z=w "nil")=false) (h4:an w4 z=false) (hi:∀ M, (af aq (k+1)).call 0 [.tup (.str z::xs)] M=.ok (.tup ys) M) (hl:s.todo.length+1+ys.length<line) :
  (af aq (k+2)).call 13 [.ref M0.length, .tup (.str z::xs), en] (s.h M0)=.ok .ao (({ s with todo:=s.todo++[aA (w "end") (.tup (.str z::xs)) en]++ys.reverse.map fun d=>aA (w "begin") d en }:Px).h M0):=by
 have e1:=gS (k:=k) (M0:=M0) (s:=s) (s':=s) (σ:=sB M0.length z xs en none) (z:=w "end") (e:=.v 1) (e':=.v 2) (x:=.tup (.str z::xs)) (en:=en) rfl rfl rfl (by omega)
 have hv:eO (af aq (k+1)) (.rev (.call 0 (.cons (.v 1) .nil))) (sB M0.length z xs en none) (({ s with todo:=s.todo++[aA (w "end") (.tup (.str z::xs)) en] }:Px).h M0)=.ok (.ao, ys.reverse, false) (({ s with todo:=s.todo++[aA (w "end") (.tup (.str z::xs)) en] }:Px).h M0):=by
  rw [Bq, (cB (d:=.tup (.str z::xs)) (M1:=({ s with todo:=s.todo++[aA (w "end") (.tup (.str z::xs)) en] }:Px).h M0) rfl).trans (hi _)];rfl
 obtain ⟨o', q⟩:=wR (k:=k) (M0:=M0) (z:=z) (xs:=xs) (en:=en) (ch:=aO (({ s with todo:=s.todo++[aA (w "end") (.tup (.str z::xs)) en] }:Px).h M0) .ao) (fun _=>rfl) ys.reverse { s with todo:=s.todo++[aA (w "end") (.tup (.str z::xs)) en] } none (by simp;omega)
 exact dm xS rfl (j3.trans ((cH (bK rfl h1)).trans ((cH (bK rfl h2)).trans ((cH (bK rfl h3)).trans ((cH (kY (c:=z) rfl h4)).trans ((bM e1).trans ((Cc hv q).trans rfl))))))) (au (by simp [nr]) (by rw [len,len]))
theorem vB {o:Op} {ps:cQ} (hl:s.todo.length+1+ps.ds.length<line):(af aq (k+2)).call 13 [.ref M0.length, (Pt.op o ps).d, en] (s.h M0)=.ok .ao (({ s with todo:=s.todo++[aA (w "end") (Pt.op o ps).d en]++ps.ds.reverse.map fun d=>aA (w "begin") d en }:Px).h M0):=by
 have:(Pt.op o ps).d=.tup (.str o.w::ps.ds):=by rw [Pt.d]
 rw [this]
 have q:decide (o.w=w "number")=false/\decide (o.w=w "name")=false/\decide (o.w=w "nil")=false/\an w4 o.w=false:=by
  cases o with
  | rk o=>cases o <;> decide +kernel
  | lay c=>cases c <;> decide +kernel
  | look c t=>cases c <;> cases t <;> decide +kernel
  | none=>decide +kernel
 exact qZ q.1 q.2.1 q.2.2.1 q.2.2.2 (fun M=>jY Cr ps.nr) hl
theorem gA {f:Str} {ps:cQ} (hl:s.todo.length+1+ps.ds.length<line):(af aq (k+2)).call 13 [.ref M0.length, (Pt.call f ps).d, en] (s.h M0)=.ok .ao (({ s with todo:=s.todo++[aA (w "end") (Pt.call f ps).d en]++ps.ds.reverse.map fun d=>aA (w "begin") d en }:Px).h M0):=by
 have:(Pt.call f ps).d=.tup (.str (w "call")::.str f::ps.ds):=by rw [Pt.d]
 rw [this]
 exact qZ (by decide +kernel) (by decide +kernel) (by decide +kernel) (by decide +kernel) (fun M=>gY (by decide +kernel) (by decide +kernel) ps.nr) hl
end
end bO
end
section
namespace bO
open Fg PySem
section
variable {M0 M M1 M2:MH} {s s':Px} {p xs:List D} {t k n:Nat} {Φ:bh} {σ:Sg} {e e' a b:E} {x y en v d:D} {kvs:List (Ky×D)} {ss:Ss}
theorem Gk {fz:Bool} (he:ev Φ e σ M=.ok (.ref n) M1) (h:M1[n]? = some (.dct kvs)):ev Φ (.blt .dict fz (.cons e .nil)) σ M=.ok (.ref M1.length) (M1++[.dct kvs]):=by
 rw [yd,Bm he,R.aa]
 simp only [uQ,vw,h]
theorem DF {z:Str} (he:ev Φ e σ M=.ok d M) (ha:ev Φ a σ M=.ok (.ref n) M) (hb:ev Φ b σ M=.ok (.str z) M) (h:M[n]? = some (.dct kvs)) (hl:kvs.length<line):exs Φ (.cons (.pO a b e) ss) σ M=exs Φ ss σ (M.set n (.dct (put kvs (.inr z) d))):=by
 simp only [bG,Bk,he,R.gb,ha,hb,lJ,h,keyOf,hl,decide_true,if_true,R.aa]
theorem JX {i j:Int} (he:ev Φ e σ M=.ok (.int i) M1):ev Φ (.cmp .ne e (.k (.int j))) σ M=.ok (.bl (!decide (i=j))) M1:=by
 rw [b9,he,R.aa,jT,R.aa]
 simp [bH,yG,AN,top,cu,Fg.plain,dep]
theorem Gj {z u:Str} (he:ev Φ e σ M=.ok (.str z) M1) (hx:ev Φ e' σ M1=.ok (.str u) M2):ev Φ (.cmp .eq e e') σ M=.ok (.bl (decide (z=u))) M2:=by
 rw [b9,he,R.aa,hx,R.aa]
 simp [bH,yG,G6,cu,top,Fg.plain,dep]
theorem EF {M:MH} {n:Nat} (h:M[n]? = some (.lst xs)):lW .reverse M (.ref n)=true:=by simp only [lW,bS h,Option.isSome_some,Bool.and_self]
theorem JW (he:ev Φ e σ M=.ok (.ref n) M1) (h:M1[n]? = some (.lst xs)):ev Φ (.bZ .reverse true e .nil) σ M=.ok .ao (M1.set n (.lst xs.reverse)):=by
 simp only [gk,he,R.aa,EF h,if_true,cY,gf,bS h,oh,List.isEmpty_nil]
theorem nC {z:Str} {q r:Pt} (hw:s.wt=p++[v]) (ht:s.T[t]? = some (.dct kvs)) (hk:kvs.length<line) (hl:s.todo.length<line) :
  ∃ Y, (af aq (k+2)).call 14 [.ref M0.length, (Pt.lt z q r).d, .ref (M0.length+(t+3))] (s.h M0)=.ok .ao (({ s with wt:=p, T:=s.T++Y, todo:=s.todo++[aA (w "begin") r.d (.ref (M0.length+(s.T.length+3)))] }:Px).h M0)/\Y=[.dct (put kvs (.inr z) v)]:=by
 refine ⟨_,?_,rfl⟩
 have ed:(Pt.lt z q r).d=.tup [.str (w "let"), .str z, q.d, r.d]:=by rw [Pt.d]
 rw [ed]
 let P:D:=.tup [.str (w "let"), .str z, q.d, r.d]
 let en:D:=.ref (M0.length+(t+3))
 have e1:=sR (Φ:=af aq (k+1)) (M0:=M0) (s:=s) (σ:=[some (.ref M0.length),some P,some en,none,none]) (i:=0) rfl hw
 have c1:ev (af aq (k+1)) (.cmp .eq (.idx (.v 1) (.k (.int 0))) (.k (.str (w "let")))) [some (.ref M0.length), some P, some en, some v, none] (({ s with wt:=p }:Px).h M0)=.ok (.bl true) (({ s with wt:=p }:Px).h M0):=bK (c:=w "let") (aK rfl rfl bL) (by decide +kernel)
 have e2:=Gk (Φ:=af aq (k+1)) (fz:=false) (e:=.v 2) (σ:=[some (.ref M0.length),some P,some en,some v,none]) (M:=({ s with wt:=p }:Px).h M0) (M1:=({ s with wt:=p }:Px).h M0) (n:=M0.length+(t+3)) (kvs:=kvs) rfl (gT.trans ht)
 have el:(({ s with wt:=p }:Px).h M0).length=M0.length+(s.T.length+3):=len
 rw [el,app] at e2
 let kn:D:=.ref (M0.length+(s.T.length+3))
 have e3:=DF (Φ:=af aq (k+1)) (σ:=[some (.ref M0.length), some P, some en, some v, some kn]) (M:=({ s with wt:=p, T:=s.T++[.dct kvs] }:Px).h M0) (e:=.v 3) (a:=.v 4) (b:=.idx (.v 1) (.k (.int 1))) (n:=M0.length+(s.T.length+3)) (kvs:=kvs) (d:=v) (z:=z) (ss:=.cons (.ex (.cR 0 12 (w "put_off") (.v 0) (.cons (.k (.str (w "begin"))) (.cons (.idx (.v 1) (.k (.int 3))) (.cons (.v 4) .nil))))) .nil) rfl rfl (aK rfl rfl fZ) (gT.trans (by show (s.T++[MO.dct kvs])[s.T.length]? = _;simp)) hk
 rw [sT] at e3
 have es:(s.T++[MO.dct kvs]).set s.T.length (.dct (put kvs (.inr z) v))=s.T++[.dct (put kvs (.inr z) v)]:=by rw [List.set_append_right _ _ (Nat.le_refl _),Nat.sub_self];rfl
 have es2:({ ({ s with wt:=p,T:=s.T++[.dct kvs] }:Px) with T:=(s.T++[MO.dct kvs]).set s.T.length (.dct (put kvs (.inr z) v)) }:Px)={ s with wt:=p,T:=s.T++[.dct (put kvs (.inr z) v)] }:=by rw [es]
 rw [show ({ wt:=p,prog:=s.prog,most:=s.most,bg:=s.bg,un:=s.un,todo:=s.todo,T:=(s.T++[MO.dct kvs]).set s.T.length (.dct (put kvs (.inr z) v)) }:Px)={ s with wt:=p,T:=s.T++[.dct (put kvs (.inr z) v)] } from es2] at e3
 have e4:=gS (k:=k) (M0:=M0) (s:={ s with wt:=p, T:=s.T++[.dct (put kvs (.inr z) v)] }) (s':={ s with wt:=p, T:=s.T++[.dct (put kvs (.inr z) v)] }) (σ:=[some (.ref M0.length), some P, some en, some v, some kn]) (z:=w "begin") (e:=.idx (.v 1) (.k (.int 3))) (e':=.v 4) (x:=r.d) (en:=kn) rfl (aK rfl rfl yJ) rfl hl
 have fin:=dm (P:=aq) (k:=k+1) (M:=s.h M0) (ds:=[.ref M0.length,P,en]) FZ rfl ((aF e1).trans ((nO c1 ((aF e2).trans (e3.trans ((bM e4).trans rfl)))).trans rfl)) (r:=.ok .ao _) (by
  unfold fM
  rw [if_neg]
  intro hh
  have hz:=congrArg (fun m=>m[M0.length+2]?) hh.2
  have hlen:M0.length+2<(s.h M0).length:=by rw [len];omega
  simp only [List.getElem?_take_of_lt hlen,g2] at hz
  rw [hw] at hz
  have:=congrArg List.length (MO.lst.inj (Option.some.inj hz))
  simp at this)
 exact fin
theorem B9 {c q r:Pt} {i:Int} (hw:s.wt=p++[.int i]) (hl:s.todo.length<line) :
  (af aq (k+2)).call 14 [.ref M0.length, (Pt.ite c q r).d, en] (s.h M0)=.ok .ao (({ s with wt:=p, todo:=s.todo++[aA (w "begin") (if i=0 then r.d else q.d) en] }:Px).h M0):=by
 have ed:(Pt.ite c q r).d=.tup [.str (w "if"), c.d, q.d, r.d]:=by rw [Pt.d]
 rw [ed]
 let P:D:=.tup [.str (w "if"), c.d, q.d, r.d]
 have e1:=sR (Φ:=af aq (k+1)) (M0:=M0) (s:=s) (σ:=[some (.ref M0.length),some P,some en,none,none]) (i:=0) rfl hw
 have c1:ev (af aq (k+1)) (.cmp .eq (.idx (.v 1) (.k (.int 0))) (.k (.str (w "let")))) [some (.ref M0.length), some P, some en, some (.int i), none] (({ s with wt:=p }:Px).h M0)=.ok (.bl false) (({ s with wt:=p }:Px).h M0):=bK (c:=w "if") (aK rfl rfl bL) (by decide +kernel)
 have c2:ev (af aq (k+1)) (.cmp .ne (.v 3) (.k (.int 0))) [some (.ref M0.length),some P,some en,some (.int i),none] (({ s with wt:=p }:Px).h M0)=.ok (.bl (!decide (i=0))) (({ s with wt:=p }:Px).h M0):=JX rfl
 by_cases h:i=0
 ·rw [decide_eq_true h] at c2
  rw [if_pos h]
  have e4:=gS (k:=k) (M0:=M0) (s:={ s with wt:=p }) (s':={ s with wt:=p }) (σ:=[some (.ref M0.length), some P, some en, some (.int i), none]) (z:=w "begin") (e:=.idx (.v 1) (.k (.int 3))) (e':=.v 2) (x:=r.d) (en:=en) rfl (aK rfl rfl yJ) rfl hl
  exact dm FZ rfl ((aF e1).trans ((cH c1).trans ((cH c2).trans ((bM e4).trans rfl)))) (au (by simp [nr]) (by rw [len,len]))
 ·rw [decide_eq_false h] at c2
  rw [if_neg h]
  have e4:=gS (k:=k) (M0:=M0) (s:={ s with wt:=p }) (s':={ s with wt:=p }) (σ:=[some (.ref M0.length), some P, some en, some (.int i), none]) (z:=w "begin") (e:=.idx (.v 1) (.k (.int 2))) (e':=.v 2) (x:=q.d) (en:=en) rfl (aK rfl rfl yK) rfl hl
  exact dm FZ rfl ((aF e1).trans ((cH c1).trans ((jx c2).trans ((bM e4).trans rfl)))) (au (by simp [nr]) (by rw [len,len]))
end
end bO
end
section
namespace bO
open Fg PySem
section
variable {M0 M M1 M2:MH} {s s':Px} {p xs:List D} {t k n:Nat} {Φ:bh} {σ:Sg} {e e' a b:E} {x y en v d:D} {kvs:List (Ky×D)} {ss:Ss}
theorem wW {ch:MH->Bool} (hch:∀ M,ch M=true):∀ (xs ds:List D) (s:Px) (o:Option D) (acc:List D),ds.length=xs.length->s.wt=p++xs.reverse->acc.length+xs.length<=line ->
  bC (oM Φ .none) (ev Φ (.bZ .pop true (.fld (.v 0) (w "waiting")) .nil)) [1] ch ds [some (.ref M0.length), o] (s.h M0) acc=.ok (acc++xs) (({ s with wt:=p }:Px).h M0)
 | [],[],s,o,acc,_,hp,_=>by
  rw [List.reverse_nil,List.append_nil] at hp
  rw [List.append_nil,bC,<- hp]
 | x::xs,d::ds,s,o,acc,hd,hp,hl=>by
  rw [List.reverse_cons,<- List.append_assoc] at hp
  simp only [List.length_cons] at hd hl
  rw [jI (Φ:=Φ) (σ:=[some (.ref M0.length),o]) (sR (Φ:=Φ) (σ:=[some (.ref M0.length),some d]) (M0:=M0) (i:=0) rfl hp) (hch _) (by omega)]
  rw [show ([some (.ref M0.length),o]:Sg).set 1 (some d)=[some (.ref M0.length),some d] from rfl,wW hch xs ds { s with wt:=p++xs.reverse } (some d) (acc++[x]) (by omega) rfl (by simp;omega)]
  rw [List.append_assoc];rfl
 | [],_::_,_,_,_,hd,_,_=>by simp at hd
 | _::_,[],_,_,_,hd,_,_=>by simp at hd
theorem mP {z:Str} {qs ys vs:List D} {sb:Ss} (hi:∀ M,(af aq (k+1)).call 0 [.tup (.str z::qs)] M=.ok (.tup ys) M) (hy:ys.length=vs.length) (hw:s.wt=p++vs) (hl:vs.length<=line) :
  exs (af aq (k+1)) (.cons (.set 2 (.comp false [0] [1] (.bZ .pop true (.fld (.v 0) (w "waiting")) .nil) (.e (.call 0 (.cons (.v 1) .nil))) .none)) (.cons (.ex (.bZ .reverse true (.v 2) .nil)) sb)) [some (.ref M0.length), some (.tup (.str z::qs)), none] (s.h M0) =
   exs (af aq (k+1)) sb [some (.ref M0.length),some (.tup (.str z::qs)),some (.ref (M0.length+(s.T.length+3)))] (({ s with wt:=p,T:=s.T++[.lst vs] }:Px).h M0):=by
 have hi2:eO (af aq (k+1)) (.e (.call 0 (.cons (.v 1) .nil))) [some (.ref M0.length),some (.tup (.str z::qs)),none] (s.h M0)=.ok (.tup ys,ys,false) (s.h M0):=by
  rw [x9,(cB (d:=.tup (.str z::qs)) (M1:=s.h M0) rfl).trans (hi _)];rfl
 have e1:=Gn (Φ:=af aq (k+1)) (caps:=[0]) (tg:=[1]) hi2 (wW (Φ:=af aq (k+1)) (M0:=M0) (p:=p) (ch:=aO (s.h M0) (.tup ys)) (fun _=>rfl) vs.reverse ys s none [] (by rw [List.length_reverse];exact hy) (by rw [List.reverse_reverse];exact hw) (by simpa using hl))
 rw [List.nil_append,show (({ s with wt:=p }:Px).h M0).length=M0.length+(s.T.length+3) from len,app] at e1
 have gl:(({ s with wt:=p,T:=s.T++[.lst vs.reverse] }:Px).h M0)[M0.length+(s.T.length+3)]? = some (.lst vs.reverse):=gT.trans (by show (s.T++[MO.lst vs.reverse])[s.T.length]? = _;simp)
 have e2:=JW (Φ:=af aq (k+1)) (e:=.v 2) (σ:=[some (.ref M0.length),some (.tup (.str z::qs)),some (.ref (M0.length+(s.T.length+3)))]) (M:=({ s with wt:=p,T:=s.T++[.lst vs.reverse] }:Px).h M0) rfl gl
 rw [sT,List.reverse_reverse] at e2
 have es:(s.T++[MO.lst vs.reverse]).set s.T.length (.lst vs)=s.T++[.lst vs]:=by rw [List.set_append_right _ _ (Nat.le_refl _),Nat.sub_self];rfl
 refine (aF e1).trans ((bM e2).trans ?_)
 show exs (af aq (k+1)) sb _ (Px.h { s with wt:=p,T:=(s.T++[MO.lst vs.reverse]).set s.T.length (.lst vs) } M0)=_
 rw [es]
theorem cV {kp:Bool} {M M':MH} {d:D} (i:Nat) (hi:i<M.length) (h:M'[i]?≠M[i]?):fM kp M d M'=.ok d M':=by
 unfold fM
 rw [if_neg]
 rintro ⟨_,hh⟩
 apply h
 have:=congrArg (fun m=>m[i]?) hh
 simpa only [List.getElem?_take_of_lt hi] using this
theorem rR {M M':MH} {c:Nat} (i:Nat) (hi:i<M.length) (h:M'[i]?≠M[i]?):nU M c M'=.exc c M':=by
 unfold nU
 rw [if_neg]
 intro hh
 apply h
 have:=congrArg (fun m=>m[i]?) hh
 simpa only [List.getElem?_take_of_lt hi] using this
theorem vE {o:Op} {ps:cQ} {vs:List D} {r:Cz} (hc:jc o vs r) (hy:ps.ds.length=vs.length) (hw:s.wt=p++vs) (hl:s.wt.length<line) (hvs:vs≠[]) :
  ∃ Y,(af aq (k+4)).call 15 [.ref M0.length,(Pt.op o ps).d] (s.h M0)=(match r with
   | .ok v=>.ok .ao (({ s with wt:=p++[v],T:=s.T++Y }:Px).h M0)
   | .exc c=>.exc c (({ s with wt:=p,T:=s.T++Y }:Px).h M0)):=by
 have ed:(Pt.op o ps).d=.tup (.str o.w::ps.ds):=by rw [Pt.d]
 have hlen:vs.length<=line/\p.length<line:=by rw [hw,List.length_append] at hl;omega
 have pre:=mP (k:=k+2) (M0:=M0) (s:=s) (p:=p) (z:=o.w) (qs:=ps.ds) (ys:=ps.ds) (vs:=vs) (sb:=.cons (.ifs (.cmp .eq (.idx (.v 1) (.k (.int 0))) (.k (.str (w "call")))) (.cons (.ex (.cR 0 16 (w "call") (.v 0) (.cons (.idx (.v 1) (.k (.int 1))) (.cons (.v 2) .nil)))) .nil) (.cons (.ex (.bZ .append true (.fld (.v 0) (w "waiting")) (.cons (.call 7 (.cons (.idx (.v 1) (.k (.int 0))) (.cons (.v 2) .nil))) .nil))) .nil)) .nil) (fun M=>jY Cr ps.nr) hy hw hlen.1
 have q:decide (o.w=w "call")=false:=by
  cases o with
  | rk o=>cases o <;> decide +kernel
  | lay c=>cases c <;> decide +kernel
  | look c t=>cases c <;> cases t <;> decide +kernel
  | none=>decide +kernel
 let s2:Px:={ s with wt:=p,T:=s.T++[.lst vs] }
 let σ2:Sg:=[some (.ref M0.length),some (.tup (.str o.w::ps.ds)),some (.ref (M0.length+(s.T.length+3)))]
 have c1:ev (af aq (k+3)) (.cmp .eq (.idx (.v 1) (.k (.int 0))) (.k (.str (w "call")))) σ2 (s2.h M0)=.ok (.bl false) (s2.h M0):=bK (aK rfl rfl bL) q
 have gl:(s2.h M0)[M0.length+(s.T.length+3)]? = some (.lst vs):=gT.trans (by show (s.T++[MO.lst vs])[s.T.length]? = _;simp)
 have ec:ev (af aq (k+3)) (.call 7 (.cons (.idx (.v 1) (.k (.int 0))) (.cons (.v 2) .nil))) σ2 (s2.h M0)=r.r (s2.h M0):=by
  rw [cA,qy (x:=.str o.w) (y:=.ref (M0.length+(s.T.length+3))) (M1:=s2.h M0) (M2:=s2.h M0) (aK rfl rfl bL) rfl,R.aa]
  exact Gy hc gl
 rw [ed]
 have nw:∀ {x:List D},x≠p++vs->some (MO.lst x)≠(s.h M0)[M0.length+2]?:=fun h z=>by
  rw [g2,hw] at z
  exact h (MO.lst.inj (Option.some.inj z))
 have hpv:p≠p++vs:=fun h=>by
  have:=congrArg List.length h
  rw [List.length_append] at this
  exact hvs (List.length_eq_zero_iff.mp (by omega))
 have h2:M0.length+2<(s.h M0).length:=by rw [len];omega
 cases r with
 | ok v =>
  have e5:=yi (Φ:=af aq (k+3)) (σ:=σ2) (e:=.fld (.v 0) (w "waiting")) (mF (s:=s2) (M0:=M0) (i:=0) rfl) g2 ec g2 (show p.length<line from hlen.2)
  rw [bO.s2] at e5
  have body:=pre.trans ((cH c1).trans ((bM e5).trans rfl))
  by_cases hk:(Px.h { s with wt:=p++[v],T:=s.T++[.lst vs] } M0).take (s.h M0).length=s.h M0
  ·refine ⟨[],?_⟩
   have hz:=congrArg (fun m=>m[M0.length+2]?) hk
   simp only [List.getElem?_take_of_lt h2,g2] at hz
   have e6:p++[v]=s.wt:=MO.lst.inj (Option.some.inj hz)
   have e7:({ s with wt:=p++[v],T:=s.T++[] }:Px)=s:=by rw [e6,List.append_nil]
   show _=R.ok D.ao (Px.h { s with wt:=p++[v],T:=s.T++[] } M0)
   rw [e7]
   exact dm uG rfl body ((if_pos ⟨rfl,hk⟩).trans (if_pos rfl))
  ·exact ⟨[.lst vs],dm uG rfl body (if_neg fun z=>hk z.2)⟩
 | exc c =>
  have e5:=Gp (Φ:=af aq (k+3)) (σ:=σ2) (e:=.fld (.v 0) (w "waiting")) (mF (s:=s2) (M0:=M0) (i:=0) rfl) g2 ec
  refine ⟨[.lst vs],iF uG rfl (pre.trans ((cH c1).trans (kE e5))) ?_⟩
  exact rR (M0.length+2) h2 (by rw [g2];exact nw hpv)
end
end bO
end
section
namespace bO
open Fg PySem
theorem Fd.nr {m:Nat} (f:Fd):Fg.nr m f.d=true:=by
 have h:e8 m (f.tk.map fun t=>D.tup [.str t.1,t.2.d])=true:=by
  generalize f.tk=l
  induction l with
  | nil=>simp [e8]
  | cons t l ih=>simp [e8,Fg.nr,Kd.nr,ih]
 simp [Fd.d,Fg.nr,e8,h,Kd.nr,Pt.nr]
noncomputable def envOf:List (Ky×D)->List Str->List D->List (Ky×D)
 | kvs,x::xs,v::vs=>envOf (put kvs (.inr x) v) xs vs
 | kvs,_,_=>kvs
theorem sW:∀ (xs:List Str) (vs:List D) (kvs:List (Ky×D)),uX kvs (xs.map D.str) vs=some (envOf kvs xs vs)
 | [],vs,kvs=>by simp [uX,envOf]
 | x::xs,[],kvs=>by simp [uX,envOf]
 | x::xs,v::vs,kvs=>by
  simp only [List.map_cons,uX,keyOf,envOf]
  exact sW xs vs _
section
variable {M0 M M1 M2:MH} {s s':Px} {p xs:List D} {t k n:Nat} {Φ:bh} {σ:Sg} {e e' a b:E} {x y en v d gv:D} {kvs:List (Ky×D)} {ss:Ss}
noncomputable def Lk:Ss:=.cons (.ifs (.cmp .eq (.idx (.v 2) (.k (.int 0))) (.v 1)) (.cons (.ret (.v 2)) .nil) .nil) .nil
theorem sF {P:D} {z:Str} {ch:MH->Bool} (hch:ch M=true):∀ (fs:List Fd) (f:Fd) (o:Option D),fs.find? (fun g=>decide (g.nm=z))=some f->cj (exs Φ Lk) [2] ch (fs.map Fd.d) [some P,some (.str z),o] M=.ok (.rt f.d) M
 | [],f,o,h=>by simp at h
 | g::fs,f,o,h=>by
  have c1:ev Φ (.cmp .eq (.idx (.v 2) (.k (.int 0))) (.v 1)) [some P,some (.str z),some g.d] M=.ok (.bl (decide (g.nm=z))) M:=Gj (aK rfl rfl bL) rfl
  rw [List.map_cons,cj]
  show ((exs Φ Lk [some P,some (.str z),some g.d] M).bind _)=_
  by_cases hz:g.nm=z
  ·rw [decide_eq_true hz] at c1
   rw [List.find?_cons_of_pos (by simpa using hz)] at h
   cases h
   rw [Lk,cU c1 (bJ rfl)];rfl
  ·rw [decide_eq_false hz] at c1
   rw [List.find?_cons_of_neg (by simpa using hz)] at h
   rw [Lk,aL c1]
   show (if ch M then _ else _)=_
   rw [if_pos hch]
   exact sF hch fs f (some g.d) h
theorem Ka {fs:List Fd} {f:Fd} {z:Str} (h:fs.find? (fun g=>decide (g.nm=z))=some f):(af aq (k+1)).call 1 [.lst (fs.map Fd.d),.str z] M=.ok f.d M :=
 bx nc rfl (DG (it:=.e (.v 0)) (d:=.lst (fs.map Fd.d)) (ds:=fs.map Fd.d) rfl (sF (z:=z) rfl fs f none h)) (au f.nr rfl)
theorem CA {ch:MH->Bool} (hc:ch M=true):∀ (tk:List (Str×Kd)) (o:Option D) (acc:List D),acc.length+tk.length<=1000->bC (oM Φ .none) (ev Φ (.idx (.v 0) (.k (.int 0)))) [0] ch (tk.map fun t=>D.tup [.str t.1,t.2.d]) [o] M acc=.ok (acc++tk.map fun t=>.str t.1) M
 | [],o,acc,_=>by simp [bC]
 | t::tk,o,acc,hl=>by
  simp only [List.length_cons] at hl
  rw [List.map_cons,jI (x:=.str t.1) (M1:=M) (aK rfl rfl bL) hc (Nat.lt_of_lt_of_le (by omega) (by decide:1001<=line))]
  show bC _ _ [0] ch _ [some _] M _=_
  rw [CA hc tk (some (D.tup [.str t.1,t.2.d])) (acc++[D.str t.1]) (by simp;omega)]
  simp
theorem yD {fs:List Fd} {f:Fd} {z:Str} {vs:List D} (hp:s.prog=.lst (fs.map Fd.d)) (h:fs.find? (fun g=>decide (g.nm=z))=some f) (hg:yU (s.h M0) gv=some vs) (hl:s.todo.length<line) (ht:f.tk.length<=1000) :
  (af aq (k+3)).call 17 [.ref M0.length, .str z, gv] (s.h M0)=.ok .ao (({ s with todo:=s.todo++[aA (w "begin") f.bd.d (.ref (M0.length+(s.T.length+3)))], T:=s.T++[.dct (envOf [] (f.tk.map (·.1)) vs)] }:Px).h M0):=by
 let σ0:Sg:=[some (.ref M0.length),some (.str z),some gv,none,none]
 have e1:ev (af aq (k+2)) (.call 1 (.cons (.fld (.v 0) (w "program")) (.cons (.v 1) .nil))) σ0 (s.h M0)=.ok f.d (s.h M0):=by
  rw [cA,qy (F5 (s:=s) (M0:=M0) (i:=0) rfl) (y:=.str z) (M2:=s.h M0) rfl,R.aa,hp]
  exact Ka h
 let σ1:Sg:=[some (.ref M0.length),some (.str z),some gv,some f.d,none]
 have hi:eO (af aq (k+2)) (.e (.idx (.v 3) (.k (.int 1)))) σ1 (s.h M0)=.ok (.lst (f.tk.map fun t=>.tup [.str t.1,t.2.d]),f.tk.map fun t=>.tup [.str t.1,t.2.d],false) (s.h M0):=by
  rw [x9,aK (d:=.lst (f.tk.map fun t=>.tup [.str t.1,t.2.d])) (M2:=s.h M0) (e_v (d:=f.d) rfl) rfl fZ];rfl
 have e2:=sV (Φ:=af aq (k+2)) (caps:=[]) (tg:=[0]) (elt:=.idx (.v 0) (.k (.int 0))) hi (CA (M:=s.h M0) rfl f.tk none [] (by simpa using ht))
 rw [List.nil_append] at e2
 let σ2:Sg:=[some (.ref M0.length),some (.str z),some gv,some f.d,some (.lst (f.tk.map fun t=>.str t.1))]
 have e3:ev (af aq (k+2)) (.dz (.v 4) (.v 2)) σ2 (s.h M0)=.ok (.ref (M0.length+(s.T.length+3))) (({ s with T:=s.T++[.dct (envOf [] (f.tk.map (·.1)) vs)] }:Px).h M0):=by
  have g1:yU (s.h M0) (.lst (f.tk.map fun t=>D.str t.1))=some (f.tk.map fun t=>D.str t.1):=rfl
  have g2:uX [] (f.tk.map fun t=>D.str t.1) vs=some (envOf [] (f.tk.map (·.1)) vs):=by
   rw [<- sW,List.map_map];rfl
  have g3:(f.tk.map fun t=>D.str t.1).length<=1000:=by rw [List.length_map];exact ht
  rw [JO,e_v (d:=.lst (f.tk.map fun t=>.str t.1)) rfl,R.aa,e_v (d:=gv) rfl,R.aa]
  simp only [g1,hg,decide_eq_true g3,if_true,g2,len,app]
 have e4:=gS (k:=k+1) (M0:=M0) (s:=s) (s':={ s with T:=s.T++[.dct (envOf [] (f.tk.map (·.1)) vs)] }) (σ:=σ2) (z:=w "begin") (e:=.idx (.v 3) (.k (.int 3))) (e':=.dz (.v 4) (.v 2)) (x:=f.bd.d) rfl (aK (xs:=[.str f.nm, .lst (f.tk.map fun t=>.tup [.str t.1, t.2.d]), f.gv.d, f.bd.d]) rfl rfl yJ) e3 hl
 refine dm fn17 rfl ((aF e1).trans ((aF e2).trans ((bM e4).trans rfl))) (cV (M0.length+1) (by rw [len];omega) ?_)
 rw [g1,bO.g1]
 intro hh
 have:=congrArg List.length (MO.lst.inj (Option.some.inj hh))
 simp at this
theorem Ke {b u m:Int}:(af aq (k+1)).call 9 [.int b,.int u,.int m] M=if m<b+1 then .exc 4 M else if 12<u+1 then .exc 5 M else .ok .ao M:=by
 have e1:∀ q,decide (m<b+1)=q->ev (af aq k) (.cmp .gt (.op .add true (.v 0) (.k (.int 1))) (.v 2)) [some (.int b),some (.int u),some (.int m)] M=.ok (.bl q) M:=fun q h=>oQ (fW rfl rfl) rfl h
 have g:ev (af aq k) (.g 2) [some (.int b),some (.int u),some (.int m)] M=.ok (.int 12) M:=by rw [JN,jX];rfl
 have e2:∀ q,decide (12<u+1)=q->ev (af aq k) (.cmp .gt (.op .add true (.v 1) (.k (.int 1))) (.g 2)) [some (.int b),some (.int u),some (.int m)] M=.ok (.bl q) M:=fun q h=>oQ (fW rfl rfl) g h
 by_cases h1:m<b+1
 ·rw [if_pos h1]
  exact iF fn9 rfl (nN (e1 true (decide_eq_true h1)) rfl) aU
 ·rw [if_neg h1]
  by_cases h2:12<u+1
  ·rw [if_pos h2]
   exact iF fn9 rfl ((aL (e1 false (decide_eq_false h1))).trans (nN (e2 true (decide_eq_true h2)) (vR g (by decide)))) aU
  ·rw [if_neg h2]
   exact dm fn9 rfl ((aL (e1 false (decide_eq_false h1))).trans ((aL (e2 false (decide_eq_false h2))).trans rfl)) (au (by simp [nr]) rfl)
noncomputable def pe:D:=aA (w "back") .ao .ao
theorem CQ {i:Nat} (h0:σ[0]? = some (some (.ref M0.length))):ev (af aq (k+1)) (.call 9 (.cons (.fld (.v 0) (w "begun")) (.cons (.fld (.v 0) (w "under_way")) (.cons (.fld (.v 0) (w "most")) .nil)))) σ (s.h M0)=if s.most<s.bg+1 then .exc 4 (s.h M0) else if 12<s.un+1 then .exc 5 (s.h M0) else .ok .ao (s.h M0):=by
 rw [cA,fO (sH (s:=s) h0) (fO (mG (s:=s) h0) (fO (F6 (s:=s) h0) rfl)),R.aa]
 exact Ke
theorem BI {z:Str} {c:Nat} (h:(if s.most<s.bg+1 then R.exc 4 (s.h M0) else if 12<s.un+1 then .exc 5 (s.h M0) else .ok .ao (s.h M0))=(.exc c (s.h M0):R D)):(af aq (k+4)).call 16 [.ref M0.length,.str z,gv] (s.h M0)=.exc c (s.h M0) :=
 iF JC rfl (kE ((CQ (k:=k+2) (i:=0) rfl).trans h)) aU
theorem GA {fs:List Fd} {f:Fd} {z:Str} {vs:List D} (hb:s.bg+1<=s.most) (hu:s.un+1<=12) (hp:s.prog=.lst (fs.map Fd.d)) (h:fs.find? (fun g=>decide (g.nm=z))=some f) (hg:∀ s':Px,s'.T=s.T->yU (s'.h M0) gv=some vs) (hl:s.todo.length+1<line) (ht:f.tk.length<=1000) :
  (af aq (k+4)).call 16 [.ref M0.length, .str z, gv] (s.h M0)=.ok .ao (({ s with bg:=s.bg+1, un:=s.un+1, todo:=s.todo++[pe]++[aA (w "begin") f.bd.d (.ref (M0.length+(s.T.length+3)))], T:=s.T++[.dct (envOf [] (f.tk.map (·.1)) vs)] }:Px).h M0):=by
 let σ0:Sg:=[some (.ref M0.length),some (.str z),some gv]
 have e0:=CQ (k:=k+2) (σ:=σ0) (s:=s) (M0:=M0) (i:=0) rfl
 rw [if_neg (by omega),if_neg (by omega)] at e0
 have e1:=Bu (Φ:=af aq (k+3)) (σ:=σ0) (s:=s) (M0:=M0) (i:=0) (e:=.op .add false (.fld (.v 0) (w "begun")) (.k (.int 1))) (n:=s.bg+1) rfl (fW (sH (s:=s) rfl) rfl)
 have e2:=sQ (Φ:=af aq (k+3)) (σ:=σ0) (s:={ s with bg:=s.bg+1 }) (M0:=M0) (i:=0) (e:=.op .add false (.fld (.v 0) (w "under_way")) (.k (.int 1))) (n:=s.un+1) rfl (fW (mG (s:={ s with bg:=s.bg+1 }) rfl) rfl)
 have e3:=gS (k:=k+2) (M0:=M0) (s:={ s with bg:=s.bg+1, un:=s.un+1 }) (s':={ s with bg:=s.bg+1, un:=s.un+1 }) (σ:=σ0) (z:=w "back") (e:=.k .ao) (e':=.k .ao) (x:=.ao) (en:=.ao) rfl rfl rfl (by show s.todo.length<line;omega)
 let s4:Px:={ s with bg:=s.bg+1,un:=s.un+1,todo:=s.todo++[pe] }
 have e4:ev (af aq (k+3)) (.cR 0 17 (w "put_off_body") (.v 0) (.cons (.v 1) (.cons (.v 2) .nil))) σ0 (s4.h M0)=_:=(u_ (s:=s4) (M0:=M0) (i:=0) (σ:=σ0) rfl (by decide +kernel)).trans ((by rw [qy (x:=.str z) (y:=gv) (M1:=s4.h M0) (M2:=s4.h M0) rfl rfl, R.aa]:_=(af aq (k+3)).call 17 [.ref M0.length, .str z, gv] (s4.h M0)).trans (yD (k:=k) (s:=s4) (M0:=M0) hp h (hg s4 rfl) (by show (s.todo++[pe]).length<line;simp;omega) ht))
 refine dm JC rfl ((bM e0).trans ((gE e1).trans ((gE e2).trans ((bM e3).trans ((bM e4).trans rfl))))) (cV (M0.length+1) (by rw [len];omega) ?_)
 rw [g1,bO.g1]
 intro hh
 have:=congrArg List.length (MO.lst.inj (Option.some.inj hh))
 simp [s4] at this
end
end bO
end
section
namespace bO
open Fg PySem
section
variable {M0 M M1 M2:MH} {s s':Px} {p xs:List D} {t k n c:Nat} {Φ:bh} {σ:Sg} {e e' a b:E} {x y en v d gv:D} {kvs:List (Ky×D)} {ss:Ss}
noncomputable def dn4:Ss:=.cons (.d9 (.v 0) (w "under_way") (.op .sub false (.fld (.v 0) (w "under_way")) (.k (.int 1)))) .nil
noncomputable def dn3:Ss:=.cons (.ifs (.cmp .eq (.idx (.v 1) (.k (.int 0))) (.k (.str (w "end")))) (.cons (.ex (.cR 0 15 (w "end") (.v 0) (.cons (.idx (.v 1) (.k (.int 1))) .nil))) .nil) dn4) .nil
noncomputable def dn2:Ss:=.cons (.ifs (.cmp .eq (.idx (.v 1) (.k (.int 0))) (.k (.str (w "go on")))) (.cons (.ex (.cR 0 14 (w "go_on") (.v 0) (.cons (.idx (.v 1) (.k (.int 1))) (.cons (.idx (.v 1) (.k (.int 2))) .nil)))) .nil) dn3) .nil
noncomputable def dn1:Ss:=.cons (.ifs (.cmp .eq (.idx (.v 1) (.k (.int 0))) (.k (.str (w "begin")))) (.cons (.ex (.cR 0 13 (w "begin") (.v 0) (.cons (.idx (.v 1) (.k (.int 1))) (.cons (.idx (.v 1) (.k (.int 2))) .nil)))) .nil) dn2) .nil
theorem uq:aQ.body=.cons (.set 1 (.bZ .pop true (.fld (.v 0) (w "todo")) .nil)) dn1:=rfl
theorem jV {z:Str} (hs:s.todo=p++[aA z x en]):exs Φ aQ.body [some (.ref M0.length),none] (s.h M0)=exs Φ dn1 [some (.ref M0.length),some (aA z x en)] (({ s with todo:=p }:Px).h M0):=by
 rw [uq];exact aF (e_next rfl hs)
theorem ja {z u:Str} {q:Bool} (h:decide (z=u)=q):ev Φ (.cmp .eq (.idx (.v 1) (.k (.int 0))) (.k (.str u))) [some (.ref M0.length),some (aA z x en)] M=.ok (.bl q) M:=bK (c:=z) (aK rfl rfl bL) h
theorem kZ (h:s'.todo≠s.todo):(s'.h M0)[M0.length+1]?≠(s.h M0)[M0.length+1]?:=by
 rw [g1,g1];exact fun z=>h (MO.lst.inj (Option.some.inj z))
theorem lg:M0.length+1<(s.h M0).length:=by rw [len];omega
theorem fB (hs:s.todo=p++[aA (w "begin") x en]) (hc:(af aq k).call 13 [.ref M0.length, x, en] (({ s with todo:=p }:Px).h M0)=.ok .ao (s'.h M0)) (hn:s'.todo≠s.todo):(af aq (k+1)).call 18 [.ref M0.length] (s.h M0)=.ok .ao (s'.h M0):=by
 have e1:ev (af aq k) (.cR 0 13 (w "begin") (.v 0) (.cons (.idx (.v 1) (.k (.int 1))) (.cons (.idx (.v 1) (.k (.int 2))) .nil))) [some (.ref M0.length), some (aA (w "begin") x en)] (({ s with todo:=p }:Px).h M0)=.ok .ao (s'.h M0):=by
  rw [u_ (i:=0) rfl (by decide +kernel),qy (aK rfl rfl fZ) (aK rfl rfl yK),R.aa];exact hc
 exact dm xR rfl ((jV hs).trans ((jx (ja (by decide +kernel))).trans ((bM e1).trans rfl))) (cV (M0.length+1) lg (kZ hn))
theorem By (hs:s.todo=p++[aA (w "go on") x en]) (hc:(af aq k).call 14 [.ref M0.length, x, en] (({ s with todo:=p }:Px).h M0)=.ok .ao (s'.h M0)) (hn:s'.todo≠s.todo):(af aq (k+1)).call 18 [.ref M0.length] (s.h M0)=.ok .ao (s'.h M0):=by
 have e1:ev (af aq k) (.cR 0 14 (w "go_on") (.v 0) (.cons (.idx (.v 1) (.k (.int 1))) (.cons (.idx (.v 1) (.k (.int 2))) .nil))) [some (.ref M0.length), some (aA (w "go on") x en)] (({ s with todo:=p }:Px).h M0)=.ok .ao (s'.h M0):=by
  rw [u_ (i:=0) rfl (by decide +kernel),qy (aK rfl rfl fZ) (aK rfl rfl yK),R.aa];exact hc
 exact dm xR rfl ((jV hs).trans ((cH (ja (by decide +kernel))).trans ((jx (ja (by decide +kernel))).trans ((bM e1).trans rfl)))) (cV (M0.length+1) lg (kZ hn))
theorem CV (r:R D) (hc:(af aq k).call 15 [.ref M0.length, x] (({ s with todo:=p }:Px).h M0)=r):ev (af aq k) (.cR 0 15 (w "end") (.v 0) (.cons (.idx (.v 1) (.k (.int 1))) .nil)) [some (.ref M0.length), some (aA (w "end") x en)] (({ s with todo:=p }:Px).h M0)=r:=by
 rw [u_ (i:=0) rfl (by decide +kernel),Bm (aK rfl rfl fZ),R.aa];exact hc
theorem Gq (hs:s.todo=p++[aA (w "end") x en]) (hc:(af aq k).call 15 [.ref M0.length, x] (({ s with todo:=p }:Px).h M0)=.ok .ao (s'.h M0)) (hn:s'.todo≠s.todo):(af aq (k+1)).call 18 [.ref M0.length] (s.h M0)=.ok .ao (s'.h M0) :=
 dm xR rfl ((jV hs).trans ((cH (ja (by decide +kernel))).trans ((cH (ja (by decide +kernel))).trans ((jx (ja (by decide +kernel))).trans ((bM (CV _ hc)).trans rfl))))) (cV (M0.length+1) lg (kZ hn))
theorem ym (hs:s.todo=p++[aA (w "end") x en]) (hc:(af aq k).call 15 [.ref M0.length, x] (({ s with todo:=p }:Px).h M0)=.exc c (s'.h M0)) (hn:s'.todo≠s.todo):(af aq (k+1)).call 18 [.ref M0.length] (s.h M0)=.exc c (s'.h M0) :=
 iF xR rfl ((jV hs).trans ((cH (ja (by decide +kernel))).trans ((cH (ja (by decide +kernel))).trans ((jx (ja (by decide +kernel))).trans (kE (CV _ hc)))))) (rR (M0.length+1) lg (kZ hn))
theorem dn_k (hs:s.todo=p++[pe]):(af aq (k+1)).call 18 [.ref M0.length] (s.h M0)=.ok .ao (({ s with todo:=p,un:=s.un-1 }:Px).h M0):=by
 have e1:=sQ (Φ:=af aq k) (σ:=[some (.ref M0.length), some pe]) (s:={ s with todo:=p }) (M0:=M0) (i:=0) (e:=.op .sub false (.fld (.v 0) (w "under_way")) (.k (.int 1))) (n:=s.un-1) rfl (kW (mG (s:={ s with todo:=p }) rfl) rfl)
 exact dm xR rfl ((jV hs).trans ((cH (ja (by decide +kernel))).trans ((cH (ja (by decide +kernel))).trans ((cH (ja (by decide +kernel))).trans ((gE e1).trans rfl))))) (cV (M0.length+1) lg (kZ (by
  show p≠s.todo
  rw [hs]
  intro z
  have:=congrArg List.length z
  simp at this)))
noncomputable def pE:E:=.cmp .ne (.fld (.v 3) (w "todo")) (.lst true .nil)
noncomputable def pB:Ss:=.cons (.ex (.cR 0 18 (w "do_next") (.v 3) .nil)) .nil
theorem pX (h3:σ[3]? = some (some (.ref M0.length))):ev Φ pE σ (s.h M0)=.ok (.bl (!s.todo.isEmpty)) (s.h M0):=by
 rw [pE,b9,qw h3,R.aa]
 show AN (s.h M0) (.ref (M0.length+1)) (.lst [])=_
 have e1:top (s.h M0) (.ref (M0.length+1))=.lst s.todo:=by simp only [top,g1]
 have e2:top (s.h M0) (.lst [])=.lst []:=rfl
 have e3:p7 (s.h M0) (.ref (M0.length+1)) (.lst [])=some s.todo.isEmpty:=by simp only [p7,vw,g1];rfl
 unfold AN
 rw [e1,e2,e3]
 cases hd:s.todo with
 | nil=>rfl
 | cons d es =>
  by_cases hc:cu (.lst (d::es)) (.lst [])=true
  ·rw [if_pos hc,oN,Br];rfl
  ·rw [if_neg hc]
noncomputable def Go (k:Nat) (M0:MH) (σ:Sg) (n:Nat) (s s':Px):Prop:=∀ N,cM (ev (af aq k) pE) (exs (af aq k) pB) (n+N) σ (s.h M0)=cM (ev (af aq k) pE) (exs (af aq k) pB) N σ (s'.h M0)
noncomputable def C7 (k:Nat) (M0:MH) (σ:Sg) (n:Nat) (s:Px) (c:Nat):Prop:=∀ N,∃ s':Px,cM (ev (af aq k) pE) (exs (af aq k) pB) (n+N) σ (s.h M0)=.ok (.xc c σ) (s'.h M0)
theorem Go.refl:Go k M0 σ 0 s s:=fun N=>by rw [Nat.zero_add]
theorem Go.trans {s1 s2 s3:Px} {n m:Nat} (a:Go k M0 σ n s1 s2) (b:Go k M0 σ m s2 s3):Go k M0 σ (n+m) s1 s3:=fun N=>by rw [Nat.add_assoc,a,b]
theorem Go.aN {s1 s2:Px} {n m c:Nat} (a:Go k M0 σ n s1 s2) (b:C7 k M0 σ m s2 c):C7 k M0 σ (n+m) s1 c:=fun N=>by
 obtain ⟨s',h⟩:=b N
 exact ⟨s',by rw [Nat.add_assoc,a,h]⟩
theorem Go.one (h3:σ[3]? = some (some (.ref M0.length))) (ht:s.todo=p++[x]) (h:(af aq k).call 18 [.ref M0.length] (s.h M0)=.ok .ao (s'.h M0)):Go k M0 σ 1 s s':=fun N=>by
 have c:=pX (Φ:=af aq k) (s:=s) h3
 have hne:s.todo.isEmpty=false:=by rw [ht];cases p <;> rfl
 rw [hne] at c
 have e1:ev (af aq k) (.cR 0 18 (w "do_next") (.v 3) .nil) σ (s.h M0)=.ok .ao (s'.h M0):=(u_ h3 (by decide +kernel)).trans h
 rw [Nat.add_comm,cM,c]
 show ((exs (af aq k) pB σ (s.h M0)).bind _)=_
 rw [pB,bM e1];rfl
theorem C7.one (h3:σ[3]? = some (some (.ref M0.length))) (ht:s.todo=p++[x]) (h:(af aq k).call 18 [.ref M0.length] (s.h M0)=.exc c (s'.h M0)):C7 k M0 σ 1 s c:=fun N=>by
 have c0:=pX (Φ:=af aq k) (s:=s) h3
 have hne:s.todo.isEmpty=false:=by rw [ht];cases p <;> rfl
 rw [hne] at c0
 have e1:ev (af aq k) (.cR 0 18 (w "do_next") (.v 3) .nil) σ (s.h M0)=.exc c (s'.h M0):=(u_ h3 (by decide +kernel)).trans h
 refine ⟨s',?_⟩
 rw [Nat.add_comm,cM,c0]
 show ((exs (af aq k) pB σ (s.h M0)).bind _)=_
 rw [pB,kE e1];rfl
end
end bO
end
section
namespace bO
open Fg PySem
inductive It where
 | p (p:Pt)
 | ps (ps:cQ)
noncomputable abbrev Env:=List (Ky×D)
inductive Ev (fs:List Fd) (m:Int):Env->Int->Int->It->Nat->List D->Int->Prop
 | num {env:Env} {b u:Int} {i:Int}:Ev fs m env b u (.p (.num i)) 1 [.int i] b
 | GW {env:Env} {b u:Int} {x:Str} {v:D}:look env (.inr x)=some v->Ev fs m env b u (.p (.GW x)) 1 [v] b
 | nil {env:Env} {b u:Int} {kd:Kd}:Ev fs m env b u (.p (.nil kd)) 1 [.ao] b
 | lt {env:Env} {b u b1 b2:Int} {x:Str} {a r:Pt} {n n2:Nat} {v v2:D}:env.length<1000->Ev fs m env b u (.p a) n [v] b1->Ev fs m (put env (.inr x) v) b1 u (.p r) n2 [v2] b2->Ev fs m env b u (.p (.lt x a r)) (n+n2+2) [v2] b2
 | ite {env:Env} {b u b1 b2 i:Int} {c q r:Pt} {n n2:Nat} {v:D}:Ev fs m env b u (.p c) n [.int i] b1->Ev fs m env b1 u (.p (if i=0 then r else q)) n2 [v] b2->Ev fs m env b u (.p (.ite c q r)) (n+n2+2) [v] b2
 | op {env:Env} {b u b1:Int} {o:Op} {ps:cQ} {n:Nat} {vs:List D} {v:D}:ps.ds.length<=8->Ev fs m env b u (.ps ps) n vs b1->jc o vs (.ok v)->Ev fs m env b u (.p (.op o ps)) (n+2) [v] b1
 | call {env:Env} {b u b1 b2:Int} {z:Str} {ps:cQ} {f:Fd} {n n2:Nat} {vs:List D} {v:D}:ps.ds.length<=8->Ev fs m env b u (.ps ps) n vs b1->b1+1<=m->u+1<=12->fs.find? (fun g=>decide (g.nm=z))=some f->f.tk.length<=1000 ->
   Ev fs m (envOf [] (f.tk.map (·.1)) vs) (b1+1) (u+1) (.p f.bd) n2 [v] b2->Ev fs m env b u (.p (.call z ps)) (n+n2+3) [v] b2
 | AM {env:Env} {b u:Int}:Ev fs m env b u (.ps .nil) 0 [] b
 | cons {env:Env} {b u b1 b2:Int} {p:Pt} {ps:cQ} {n n2:Nat} {v:D} {vs:List D}:Ev fs m env b u (.p p) n [v] b1->Ev fs m env b1 u (.ps ps) n2 vs b2->Ev fs m env b u (.ps (.cons p ps)) (n+n2) (v::vs) b2
inductive jo (fs:List Fd) (m:Int):Env->Int->Int->It->Nat->Nat->Prop
 | lt1 {env:Env} {b u:Int} {x:Str} {a r:Pt} {n c:Nat}:jo fs m env b u (.p a) n c->jo fs m env b u (.p (.lt x a r)) (n+1) c
 | lt2 {env:Env} {b u b1:Int} {x:Str} {a r:Pt} {n n2 c:Nat} {v:D}:env.length<1000->Ev fs m env b u (.p a) n [v] b1->jo fs m (put env (.inr x) v) b1 u (.p r) n2 c->jo fs m env b u (.p (.lt x a r)) (n+n2+2) c
 | Jp {env:Env} {b u:Int} {c q r:Pt} {n e:Nat}:jo fs m env b u (.p c) n e->jo fs m env b u (.p (.ite c q r)) (n+1) e
 | Jo {env:Env} {b u b1 i:Int} {c q r:Pt} {n n2 e:Nat}:Ev fs m env b u (.p c) n [.int i] b1->jo fs m env b1 u (.p (if i=0 then r else q)) n2 e->jo fs m env b u (.p (.ite c q r)) (n+n2+2) e
 | op1 {env:Env} {b u:Int} {o:Op} {ps:cQ} {n e:Nat}:ps.ds.length<=8->jo fs m env b u (.ps ps) n e->jo fs m env b u (.p (.op o ps)) (n+1) e
 | m9 {env:Env} {b u b1:Int} {o:Op} {ps:cQ} {n e:Nat} {vs:List D}:ps.ds.length<=8->Ev fs m env b u (.ps ps) n vs b1->jc o vs (.exc e)->jo fs m env b u (.p (.op o ps)) (n+2) e
 | J7 {env:Env} {b u:Int} {z:Str} {ps:cQ} {n e:Nat}:ps.ds.length<=8->jo fs m env b u (.ps ps) n e->jo fs m env b u (.p (.call z ps)) (n+1) e
 | long {env:Env} {b u b1:Int} {z:Str} {ps:cQ} {n:Nat} {vs:List D}:ps.ds.length<=8->Ev fs m env b u (.ps ps) n vs b1->m<b1+1->jo fs m env b u (.p (.call z ps)) (n+2) 4
 | deep {env:Env} {b u b1:Int} {z:Str} {ps:cQ} {n:Nat} {vs:List D}:ps.ds.length<=8->Ev fs m env b u (.ps ps) n vs b1->b1+1<=m->12<u+1->jo fs m env b u (.p (.call z ps)) (n+2) 5
 | call2 {env:Env} {b u b1:Int} {z:Str} {ps:cQ} {f:Fd} {n n2 e:Nat} {vs:List D}:ps.ds.length<=8->Ev fs m env b u (.ps ps) n vs b1->b1+1<=m->u+1<=12->fs.find? (fun g=>decide (g.nm=z))=some f->f.tk.length<=1000 ->
   jo fs m (envOf [] (f.tk.map (·.1)) vs) (b1+1) (u+1) (.p f.bd) n2 e->jo fs m env b u (.p (.call z ps)) (n+n2+2) e
 | head {env:Env} {b u:Int} {p:Pt} {ps:cQ} {n e:Nat}:ps.ds.length<=8->jo fs m env b u (.p p) n e->jo fs m env b u (.ps (.cons p ps)) (n+1) e
 | tail {env:Env} {b u b1:Int} {p:Pt} {ps:cQ} {n n2 e:Nat} {v:D}:ps.ds.length<=8->Ev fs m env b u (.p p) n [v] b1->jo fs m env b1 u (.ps ps) n2 e->jo fs m env b u (.ps (.cons p ps)) (n+n2) e
noncomputable def iy (en:D):It->List D
 | .p p=>[aA (w "begin") p.d en]
 | .ps ps=>ps.ds.reverse.map fun d=>aA (w "begin") d en
theorem l7 {en:D} {p:Pt} {ps:cQ}:iy en (.ps (.cons p ps))=iy en (.ps ps)++iy en (.p p):=by
 simp [iy,cQ.ds]
theorem Ev.len {fs:List Fd} {m b u b':Int} {env:Env} {ps:cQ} {n:Nat} {vs:List D} (h:Ev fs m env b u (.ps ps) n vs b'):ps.ds.length=vs.length:=by
 generalize hi:It.ps ps=it at h
 induction h generalizing ps with
 | AM=>cases hi;simp [cQ.ds]
 | cons h1 h2 ih1 ih2=>cases hi;simp [cQ.ds,ih2 rfl]
 | _=>cases hi
theorem jc.ne {o:Op} {vs:List D} {r:Cz} (h:jc o vs r):vs≠[]:=by cases h <;> simp
noncomputable def lo:It->Nat
 | .p _=>1
 | .ps ps=>ps.ds.length
theorem Ev.lo {fs:List Fd} {m b u b':Int} {env:Env} {it:It} {n:Nat} {vs:List D} (h:Ev fs m env b u it n vs b'):bO.lo it<=n:=by
 induction h with
 | cons h1 h2 ih1 ih2=>simp only [bO.lo,cQ.ds,List.length_cons] at ih1 ih2 ⊢;omega
 | AM=>simp [bO.lo,cQ.ds]
 | _=>simp only [bO.lo];omega
structure At (fs:List Fd) (m:Int) (M0:MH) (s:Px) (q:List D) (env:Env) (t:Nat) (b u:Int) (it:It) (n:Nat):Prop where
 prog:s.prog=.lst (fs.map Fd.d)
 most:s.most=m
 bg:s.bg=b
 un:s.un=u
 todo:s.todo=q++iy (.ref (M0.length+(t+3))) it
 env:s.T[t]? = some (.dct env)
 room:q.length+9*n<950000/\s.wt.length+n<950000
theorem aY {q:List D} {x y:D} {l:List D} (h:x≠y):q++x::l≠q++[y]:=fun z=>by
 have:=List.append_cancel_left z
 rw [List.cons.injEq] at this
 exact h this.1
theorem bE {a b:List D} (h:a.length≠b.length):a≠b:=fun z=>h (congrArg List.length z)
theorem cZ {z z':Str} {x x' en en':D} (h:decide (z=z')=false):aA z x en≠aA z' x' en':=fun q=>by
 have:z=z':=by
  simp only [aA,D.tup.injEq,List.cons.injEq,D.str.injEq] at q
  exact q.1
 exact absurd this (of_decide_eq_false h)
section
variable {fs:List Fd} {m:Int} {M0:MH} {k:Nat} {σ:Sg} {s:Px} {p:List D}
noncomputable def JU:Ss:=.cons (.ifs (.cmp .eq (.idx (.v 1) (.k (.int 0))) (.k (.str (w "call")))) (.cons (.ex (.cR 0 16 (w "call") (.v 0) (.cons (.idx (.v 1) (.k (.int 1))) (.cons (.v 2) .nil)))) .nil) (.cons (.ex (.bZ .append true (.fld (.v 0) (w "waiting")) (.cons (.call 7 (.cons (.idx (.v 1) (.k (.int 0))) (.cons (.v 2) .nil))) .nil))) .nil)) .nil
theorem sO {z:Str} {ps:cQ} {s2:Px} {g:Nat} {r:R D} (h:(af aq (k+4)).call 16 [.ref M0.length, .str z, .ref g] (s2.h M0)=r):ev (af aq (k+4)) (.cR 0 16 (w "call") (.v 0) (.cons (.idx (.v 1) (.k (.int 1))) (.cons (.v 2) .nil))) [some (.ref M0.length), some (.tup (.str (w "call")::.str z::ps.ds)), some (.ref g)] (s2.h M0)=r:=by
 rw [u_ (i:=0) rfl (by decide +kernel),qy (x:=.str z) (y:=.ref g) (M1:=s2.h M0) (M2:=s2.h M0) (aK rfl rfl fZ) rfl,R.aa];exact h
theorem qY {z:Str} {ps:cQ} {vs:List D} {f:Fd} (hy:ps.ds.length=vs.length) (hw:s.wt=p++vs) (hl:s.wt.length<line) (hb:s.bg+1<=s.most) (hu:s.un+1<=12) (hp:s.prog=.lst (fs.map Fd.d)) (hf:fs.find? (fun g=>decide (g.nm=z))=some f) (hlt:s.todo.length+1<line) (ht:f.tk.length<=1000) :
  (af aq (k+5)).call 15 [.ref M0.length, (Pt.call z ps).d] (s.h M0)=.ok .ao (({ s with wt:=p, bg:=s.bg+1, un:=s.un+1, todo:=s.todo++[pe]++[aA (w "begin") f.bd.d (.ref (M0.length+((s.T++[MO.lst vs]).length+3)))], T:=s.T++[.lst vs]++[.dct (envOf [] (f.tk.map (·.1)) vs)] }:Px).h M0):=by
 have ed:(Pt.call z ps).d=.tup (.str (w "call")::.str z::ps.ds):=by rw [Pt.d]
 rw [ed]
 have hlen:vs.length<=line:=by rw [hw,List.length_append] at hl;omega
 have pre:=mP (k:=k+3) (M0:=M0) (s:=s) (p:=p) (z:=w "call") (qs:=.str z::ps.ds) (ys:=ps.ds) (vs:=vs) (sb:=JU) (fun M=>gY (by decide +kernel) (by decide +kernel) ps.nr) hy hw hlen
 let s2:Px:={ s with wt:=p,T:=s.T++[.lst vs] }
 have c1:ev (af aq (k+4)) (.cmp .eq (.idx (.v 1) (.k (.int 0))) (.k (.str (w "call")))) [some (.ref M0.length), some (.tup (.str (w "call")::.str z::ps.ds)), some (.ref (M0.length+(s.T.length+3)))] (s2.h M0)=.ok (.bl true) (s2.h M0):=bK (aK rfl rfl bL) (by decide +kernel)
 have e5:=sO (k:=k) (ps:=ps) (GA (k:=k) (s:=s2) (M0:=M0) (gv:=.ref (M0.length+(s.T.length+3))) (fs:=fs) (f:=f) (z:=z) (vs:=vs) hb hu hp hf (fun s' h'=>by
  have gl:(s'.h M0)[M0.length+(s.T.length+3)]? = some (.lst vs):=gT.trans (by rw [h'];show (s.T++[MO.lst vs])[s.T.length]? = _;simp)
  simp only [yU,vw,gl]) hlt ht)
 refine dm uG rfl (pre.trans ((jx c1).trans ((bM e5).trans rfl))) (cV (M0.length+1) lg (kZ (bE ?_)))
 show (s.todo++[pe]++[_]).length≠_
 simp
theorem nB {z:Str} {ps:cQ} {vs:List D} {c:Nat} (hy:ps.ds.length=vs.length) (hw:s.wt=p++vs) (hl:s.wt.length<line) (h:∀ M,(if s.most<s.bg+1 then R.exc 4 M else if 12<s.un+1 then .exc 5 M else .ok .ao M)=(.exc c M:R D)) :
  ∃ s':Px,s'.todo=s.todo/\(af aq (k+5)).call 15 [.ref M0.length,(Pt.call z ps).d] (s.h M0)=.exc c (s'.h M0):=by
 have ed:(Pt.call z ps).d=.tup (.str (w "call")::.str z::ps.ds):=by rw [Pt.d]
 rw [ed]
 have hlen:vs.length<=line:=by rw [hw,List.length_append] at hl;omega
 have pre:=mP (k:=k+3) (M0:=M0) (s:=s) (p:=p) (z:=w "call") (qs:=.str z::ps.ds) (ys:=ps.ds) (vs:=vs) (sb:=JU) (fun M=>gY (by decide +kernel) (by decide +kernel) ps.nr) hy hw hlen
 let s2:Px:={ s with wt:=p,T:=s.T++[.lst vs] }
 have c1:ev (af aq (k+4)) (.cmp .eq (.idx (.v 1) (.k (.int 0))) (.k (.str (w "call")))) [some (.ref M0.length), some (.tup (.str (w "call")::.str z::ps.ds)), some (.ref (M0.length+(s.T.length+3)))] (s2.h M0)=.ok (.bl true) (s2.h M0):=bK (aK rfl rfl bL) (by decide +kernel)
 have e5:=sO (k:=k) (ps:=ps) (BI (k:=k) (s:=s2) (M0:=M0) (gv:=.ref (M0.length+(s.T.length+3))) (z:=z) (c:=c) (h _))
 have body:=pre.trans ((jx c1).trans (kE (ss:=.nil) e5))
 by_cases hk:(s2.h M0).take (s.h M0).length=s.h M0
 ·exact ⟨s,rfl,iF uG rfl body (if_pos hk)⟩
 ·exact ⟨s2,rfl,iF uG rfl body (if_neg hk)⟩
theorem iL {env:Env} {b u b':Int} {it:It} {n:Nat} {vs:List D} (h3:σ[3]? = some (some (.ref M0.length))) (h:Ev fs m env b u it n vs b'):∀ (s:Px) (q:List D) (t:Nat),At fs m M0 s q env t b u it n->∃ Y,Go (k+6) M0 σ n s { s with todo:=q,wt:=s.wt++vs,bg:=b',T:=s.T++Y }:=by
 have hline:line=1000000:=rfl
 induction h with
 | num =>
  intro s q t A
  obtain ⟨a1,a2,a3,a4,a5,a6,r1,r2⟩:=A
  subst a3
  refine ⟨[],?_⟩
  rw [List.append_nil]
  exact Go.one h3 a5 (fB (k:=k+5) a5 (Dk (k:=k+4) (s:={ s with todo:=q }) (by show s.wt.length<line;omega)) (bE (by rw [a5];simp [iy])))
 | @GW env b u x v hx =>
  intro s q t A
  obtain ⟨a1,a2,a3,a4,a5,a6,r1,r2⟩:=A
  subst a3
  refine ⟨[],?_⟩
  rw [List.append_nil]
  exact Go.one h3 a5 (fB (k:=k+5) a5 (Dm (k:=k+4) (s:={ s with todo:=q }) a6 hx (by show s.wt.length<line;omega)) (bE (by rw [a5];simp [iy])))
 | @nil env b u kd =>
  intro s q t A
  obtain ⟨a1,a2,a3,a4,a5,a6,r1,r2⟩:=A
  subst a3
  refine ⟨[],?_⟩
  rw [List.append_nil]
  exact Go.one h3 a5 (fB (k:=k+5) a5 (Dl (k:=k+4) (s:={ s with todo:=q }) (by show s.wt.length<line;omega)) (bE (by rw [a5];simp [iy])))
 | @lt env b u b1 b2 x a r n n2 v v2 he h1 h2 ih1 ih2 =>
  intro s q t A
  obtain ⟨a1,a2,a3,a4,a5,a6,r1,r2⟩:=A
  have g1:=Go.one (k:=k+6) h3 a5 (fB (k:=k+5) a5 (pH (k:=k+3) (s:={ s with todo:=q }) (by show q.length+1<line;omega)) (bE (by rw [a5];simp [iy])))
  obtain ⟨Y1, g2⟩:=ih1 { s with todo:=q++[aA (w "go on") (Pt.lt x a r).d (.ref (M0.length+(t+3)))]++[aA (w "begin") a.d (.ref (M0.length+(t+3)))] } (q++[aA (w "go on") (Pt.lt x a r).d (.ref (M0.length+(t+3)))]) t ⟨a1, a2, a3, a4, rfl, a6, by simp;omega, by show s.wt.length+n<950000;omega⟩
  let s2:Px:={ s with todo:=q++[aA (w "go on") (Pt.lt x a r).d (.ref (M0.length+(t+3)))], wt:=s.wt++[v], bg:=b1, T:=s.T++Y1 }
  have GF:s2.T[t]? = some (.dct env):=by show (s.T++Y1)[t]? = _;rw [List.getElem?_append_left (List.getElem?_eq_some_iff.mp a6).1];exact a6
  obtain ⟨Y2,q2,hY⟩:=nC (k:=k+3) (M0:=M0) (s:={ s2 with todo:=q }) (p:=s.wt) (v:=v) (t:=t) (kvs:=env) (z:=x) (q:=a) (r:=r) rfl GF (by omega) (by show q.length<line;omega)
  have g3:=Go.one (k:=k+6) (s:=s2) h3 rfl (By (k:=k+5) (s:=s2) rfl q2 (by
   show q++[aA (w "begin") r.d _]≠q++[aA (w "go on") (Pt.lt x a r).d (.ref (M0.length+(t+3)))]
   exact aY (cZ (by decide +kernel))))
  obtain ⟨Y3, g4⟩:=ih2 { s2 with wt:=s.wt, T:=s2.T++Y2, todo:=q++[aA (w "begin") r.d (.ref (M0.length+(s2.T.length+3)))] } q s2.T.length ⟨a1, a2, rfl, a4, rfl, by show (s2.T++Y2)[s2.T.length]? = _;rw [hY];simp, by omega, by show s.wt.length+n2<950000;omega⟩
  refine ⟨Y1++Y2++Y3,?_⟩
  have g:=g1.trans (g2.trans (g3.trans g4))
  rw [show 1+(n+(1+n2))=n+n2+2 by omega] at g
  have e:({ ({ s2 with wt:=s.wt, T:=s2.T++Y2, todo:=q++[aA (w "begin") r.d (.ref (M0.length+(s2.T.length+3)))] }:Px) with todo:=q, wt:=s.wt++[v2], bg:=b2, T:=s2.T++Y2++Y3 }:Px)={ s with todo:=q, wt:=s.wt++[v2], bg:=b2, T:=s.T++(Y1++Y2++Y3) }:=by simp [s2]
  rw [<- e];exact g
 | @ite env b u b1 b2 i c a r n n2 v h1 h2 ih1 ih2 =>
  intro s q t A
  obtain ⟨a1,a2,a3,a4,a5,a6,r1,r2⟩:=A
  have g1:=Go.one (k:=k+6) h3 a5 (fB (k:=k+5) a5 (pI (k:=k+3) (s:={ s with todo:=q }) (by show q.length+1<line;omega)) (bE (by rw [a5];simp [iy])))
  obtain ⟨Y1, g2⟩:=ih1 { s with todo:=q++[aA (w "go on") (Pt.ite c a r).d (.ref (M0.length+(t+3)))]++[aA (w "begin") c.d (.ref (M0.length+(t+3)))] } (q++[aA (w "go on") (Pt.ite c a r).d (.ref (M0.length+(t+3)))]) t ⟨a1, a2, a3, a4, rfl, a6, by simp;omega, by show s.wt.length+n<950000;omega⟩
  let s2:Px:={ s with todo:=q++[aA (w "go on") (Pt.ite c a r).d (.ref (M0.length+(t+3)))], wt:=s.wt++[.int i], bg:=b1, T:=s.T++Y1 }
  have GF:s2.T[t]? = some (.dct env):=by show (s.T++Y1)[t]? = _;rw [List.getElem?_append_left (List.getElem?_eq_some_iff.mp a6).1];exact a6
  have q2:=B9 (k:=k+3) (M0:=M0) (s:={ s2 with todo:=q }) (p:=s.wt) (en:=.ref (M0.length+(t+3))) (c:=c) (q:=a) (r:=r) (i:=i) rfl (by show q.length<line;omega)
  have g3:=Go.one (k:=k+6) (s:=s2) h3 rfl (By (k:=k+5) (s:=s2) rfl q2 (by
   show q++[aA (w "begin") _ _]≠q++[aA (w "go on") (Pt.ite c a r).d (.ref (M0.length+(t+3)))]
   exact aY (cZ (by decide +kernel))))
  have ei:(if i=0 then r.d else a.d)=(if i=0 then r else a).d:=by split <;> rfl
  rw [ei] at g3
  obtain ⟨Y3, g4⟩:=ih2 { s2 with wt:=s.wt, todo:=q++[aA (w "begin") (if i=0 then r else a).d (.ref (M0.length+(t+3)))] } q t ⟨a1, a2, rfl, a4, rfl, GF, by omega, by show s.wt.length+n2<950000;omega⟩
  refine ⟨Y1++Y3,?_⟩
  have g:=g1.trans (g2.trans (g3.trans g4))
  rw [show 1+(n+(1+n2))=n+n2+2 by omega] at g
  have e:({ ({ s2 with wt:=s.wt, todo:=q++[aA (w "begin") (if i=0 then r else a).d (.ref (M0.length+(t+3)))] }:Px) with todo:=q, wt:=s.wt++[v], bg:=b2, T:=s2.T++Y3 }:Px)={ s with todo:=q, wt:=s.wt++[v], bg:=b2, T:=s.T++(Y1++Y3) }:=by simp [s2]
  rw [<- e];exact g
 | @op env b u b1 o ps n vs v h8 h1 hc ih =>
  intro s q t A
  obtain ⟨a1,a2,a3,a4,a5,a6,r1,r2⟩:=A
  have hl:=h1.len
  have g1:=Go.one (k:=k+6) h3 a5 (fB (k:=k+5) a5 (vB (k:=k+3) (s:={ s with todo:=q }) (by show q.length+1+ps.ds.length<line;omega)) (by
   rw [a5]
   show q++[aA (w "end") _ _]++_≠q++[aA (w "begin") _ _]
   rw [List.append_assoc]
   exact aY (cZ (by decide +kernel))))
  obtain ⟨Y1, g2⟩:=ih { s with todo:=q++[aA (w "end") (Pt.op o ps).d (.ref (M0.length+(t+3)))]++ps.ds.reverse.map fun d=>aA (w "begin") d (.ref (M0.length+(t+3))) } (q++[aA (w "end") (Pt.op o ps).d (.ref (M0.length+(t+3)))]) t ⟨a1, a2, a3, a4, rfl, a6, by simp;omega, by show s.wt.length+n<950000;omega⟩
  let s2:Px:={ s with todo:=q++[aA (w "end") (Pt.op o ps).d (.ref (M0.length+(t+3)))], wt:=s.wt++vs, bg:=b1, T:=s.T++Y1 }
  have hvs:vs≠[]:=hc.ne
  obtain ⟨Y2,q2⟩:=vE (k:=k+1) (M0:=M0) (s:={ s2 with todo:=q }) (p:=s.wt) hc hl rfl (by show (s.wt++vs).length<line;rw [List.length_append];omega) hvs
  have g3:=Go.one (k:=k+6) (s:=s2) h3 rfl (Gq (k:=k+5) (s:=s2) rfl q2 (bE (by show q.length≠_;simp [s2])))
  refine ⟨Y1++Y2,?_⟩
  have g:=g1.trans (g2.trans g3)
  rw [show 1+(n+1)=n+2 by omega] at g
  have e:({ ({ s2 with todo:=q }:Px) with wt:=s.wt++[v],T:=s2.T++Y2 }:Px)={ s with todo:=q,wt:=s.wt++[v],bg:=b1,T:=s.T++(Y1++Y2) }:=by simp [s2]
  rw [<- e];exact g
 | @call env b u b1 b2 z ps f n n2 vs v h8 h1 hb hu hf ht h2 ih1 ih2 =>
  intro s q t A
  obtain ⟨a1,a2,a3,a4,a5,a6,r1,r2⟩:=A
  have hl:=h1.len
  have g1:=Go.one (k:=k+6) h3 a5 (fB (k:=k+5) a5 (gA (k:=k+3) (s:={ s with todo:=q }) (by show q.length+1+ps.ds.length<line;omega)) (by
   rw [a5]
   show q++[aA (w "end") _ _]++_≠q++[aA (w "begin") _ _]
   rw [List.append_assoc]
   exact aY (cZ (by decide +kernel))))
  obtain ⟨Y1, g2⟩:=ih1 { s with todo:=q++[aA (w "end") (Pt.call z ps).d (.ref (M0.length+(t+3)))]++ps.ds.reverse.map fun d=>aA (w "begin") d (.ref (M0.length+(t+3))) } (q++[aA (w "end") (Pt.call z ps).d (.ref (M0.length+(t+3)))]) t ⟨a1, a2, a3, a4, rfl, a6, by simp;omega, by show s.wt.length+n<950000;omega⟩
  let s2:Px:={ s with todo:=q++[aA (w "end") (Pt.call z ps).d (.ref (M0.length+(t+3)))], wt:=s.wt++vs, bg:=b1, T:=s.T++Y1 }
  have q2:=qY (k:=k) (M0:=M0) (s:={ s2 with todo:=q }) (p:=s.wt) (fs:=fs) (z:=z) (ps:=ps) (vs:=vs) (f:=f) hl rfl (by show (s.wt++vs).length<line;rw [List.length_append];omega) (by show b1+1<=s.most;omega) (by show s.un+1<=12;omega) a1 hf (by show q.length+1<line;omega) ht
  let s3:Px:={ s2 with wt:=s.wt, bg:=b1+1, un:=s.un+1, todo:=q++[pe]++[aA (w "begin") f.bd.d (.ref (M0.length+((s2.T++[MO.lst vs]).length+3)))], T:=s2.T++[.lst vs]++[.dct (envOf [] (f.tk.map (·.1)) vs)] }
  have g3:Go (k+6) M0 σ 1 s2 s3:=Go.one (k:=k+6) (s:=s2) h3 rfl (Gq (k:=k+5) (s:=s2) rfl q2 (by
   show q++[pe]++[_]≠q++[aA (w "end") _ _]
   rw [List.append_assoc]
   exact aY (cZ (by decide +kernel))))
  obtain ⟨Y3,g4⟩:=ih2 s3 (q++[pe]) (s2.T++[MO.lst vs]).length ⟨a1,a2,rfl,by show s.un+1=u+1;omega,rfl,by show (s2.T++[MO.lst vs]++[_])[(s2.T++[MO.lst vs]).length]? = _;simp,by simp;omega,by show s.wt.length+n2<950000;omega⟩
  have g5:=Go.one (k:=k+6) (M0:=M0) (σ:=σ) (s:={ s3 with todo:=q++[pe],wt:=s3.wt++[v],bg:=b2,T:=s3.T++Y3 }) h3 rfl (dn_k (k:=k+5) (s:={ s3 with todo:=q++[pe],wt:=s3.wt++[v],bg:=b2,T:=s3.T++Y3 }) rfl)
  refine ⟨Y1++[.lst vs]++[.dct (envOf [] (f.tk.map (·.1)) vs)]++Y3,?_⟩
  have g:=g1.trans (g2.trans (g3.trans (g4.trans g5)))
  rw [show 1+(n+(1+(n2+1)))=n+n2+3 by omega] at g
  have e:({ ({ s3 with todo:=q++[pe],wt:=s3.wt++[v],bg:=b2,T:=s3.T++Y3 }:Px) with todo:=q,un:=s3.un-1 }:Px)={ s with todo:=q,wt:=s.wt++[v],bg:=b2,T:=s.T++(Y1++[.lst vs]++[.dct (envOf [] (f.tk.map (·.1)) vs)]++Y3) }:=by
   have:s.un+1-1=s.un:=by omega
   simp [s3,s2,this]
  rw [<- e];exact g
 | AM =>
  intro s q t A
  obtain ⟨a1,a2,a3,a4,a5,a6,r1,r2⟩:=A
  subst a3
  refine ⟨[],?_⟩
  have e:({ s with todo:=q,wt:=s.wt++[],bg:=s.bg,T:=s.T++[] }:Px)=s:=by
   have:s.todo=q:=by rw [a5];simp [iy,cQ.ds]
   rw [<- this];simp
  rw [e];exact Go.refl
 | @cons env b u b1 b2 p ps n n2 v vs h1 h2 ih1 ih2 =>
  intro s q t A
  obtain ⟨a1,a2,a3,a4,a5,a6,r1,r2⟩:=A
  have hl:=h2.len
  have hlo:=h2.lo
  simp only [bO.lo] at hlo
  rw [l7,<- List.append_assoc] at a5
  have hq:(q++iy (.ref (M0.length+(t+3))) (.ps ps)).length=q.length+ps.ds.length:=by simp [iy]
  obtain ⟨Y1,g1⟩:=ih1 s (q++iy (.ref (M0.length+(t+3))) (.ps ps)) t ⟨a1,a2,a3,a4,a5,a6,by omega,by omega⟩
  obtain ⟨Y2,g2⟩:=ih2 { s with todo:=q++iy (.ref (M0.length+(t+3))) (.ps ps),wt:=s.wt++[v],bg:=b1,T:=s.T++Y1 } q t ⟨a1,a2,rfl,a4,rfl,by show (s.T++Y1)[t]? = _;rw [List.getElem?_append_left (List.getElem?_eq_some_iff.mp a6).1];exact a6,by omega,by show (s.wt++[v]).length+n2<950000;have:=h1.lo;simp only [bO.lo] at this;simp;omega⟩
  refine ⟨Y1++Y2,?_⟩
  have g:=g1.trans g2
  have e:({ ({ s with todo:=q++iy (.ref (M0.length+(t+3))) (.ps ps),wt:=s.wt++[v],bg:=b1,T:=s.T++Y1 }:Px) with todo:=q,wt:=s.wt++[v]++vs,bg:=b2,T:=s.T++Y1++Y2 }:Px)={ s with todo:=q,wt:=s.wt++(v::vs),bg:=b2,T:=s.T++(Y1++Y2) }:=by simp
  rw [<- e];exact g
end
end bO
end
section
namespace bO
open Fg PySem
section
variable {fs:List Fd} {m:Int} {M0:MH} {k:Nat} {σ:Sg} {s:Px} {p:List D}
theorem go_x {env:Env} {b u:Int} {it:It} {n e:Nat} (h3:σ[3]? = some (some (.ref M0.length))) (h:jo fs m env b u it n e):∀ (s:Px) (q:List D) (t:Nat),At fs m M0 s q env t b u it (n+9)->C7 (k+6) M0 σ n s e:=by
 have hline:line=1000000:=rfl
 induction h with
 | @lt1 env b u x a r n c h ih =>
  intro s q t A
  obtain ⟨a1,a2,a3,a4,a5,a6,r1,r2⟩:=A
  have g1:=Go.one (k:=k+6) h3 a5 (fB (k:=k+5) a5 (pH (k:=k+3) (s:={ s with todo:=q }) (by show q.length+1<line;omega)) (bE (by rw [a5];simp [iy])))
  have g2:=ih { s with todo:=q++[aA (w "go on") (Pt.lt x a r).d (.ref (M0.length+(t+3)))]++[aA (w "begin") a.d (.ref (M0.length+(t+3)))] } (q++[aA (w "go on") (Pt.lt x a r).d (.ref (M0.length+(t+3)))]) t ⟨a1, a2, a3, a4, rfl, a6, by simp;omega, by show s.wt.length+(n+9)<950000;omega⟩
  have g:=g1.aN g2
  rw [show 1+n=n+1 by omega] at g;exact g
 | @lt2 env b u b1 x a r n n2 c v he h1 h2 ih2 =>
  intro s q t A
  obtain ⟨a1,a2,a3,a4,a5,a6,r1,r2⟩:=A
  have g1:=Go.one (k:=k+6) h3 a5 (fB (k:=k+5) a5 (pH (k:=k+3) (s:={ s with todo:=q }) (by show q.length+1<line;omega)) (bE (by rw [a5];simp [iy])))
  obtain ⟨Y1, g2⟩:=iL (k:=k) h3 h1 { s with todo:=q++[aA (w "go on") (Pt.lt x a r).d (.ref (M0.length+(t+3)))]++[aA (w "begin") a.d (.ref (M0.length+(t+3)))] } (q++[aA (w "go on") (Pt.lt x a r).d (.ref (M0.length+(t+3)))]) t ⟨a1, a2, a3, a4, rfl, a6, by simp;omega, by show s.wt.length+n<950000;omega⟩
  let s2:Px:={ s with todo:=q++[aA (w "go on") (Pt.lt x a r).d (.ref (M0.length+(t+3)))], wt:=s.wt++[v], bg:=b1, T:=s.T++Y1 }
  have GF:s2.T[t]? = some (.dct env):=by show (s.T++Y1)[t]? = _;rw [List.getElem?_append_left (List.getElem?_eq_some_iff.mp a6).1];exact a6
  obtain ⟨Y2,q2,hY⟩:=nC (k:=k+3) (M0:=M0) (s:={ s2 with todo:=q }) (p:=s.wt) (v:=v) (t:=t) (kvs:=env) (z:=x) (q:=a) (r:=r) rfl GF (by omega) (by show q.length<line;omega)
  have g3:=Go.one (k:=k+6) (s:=s2) h3 rfl (By (k:=k+5) (s:=s2) rfl q2 (by
   show q++[aA (w "begin") r.d _]≠q++[aA (w "go on") (Pt.lt x a r).d (.ref (M0.length+(t+3)))]
   exact aY (cZ (by decide +kernel))))
  have g4:=ih2 { s2 with wt:=s.wt, T:=s2.T++Y2, todo:=q++[aA (w "begin") r.d (.ref (M0.length+(s2.T.length+3)))] } q s2.T.length ⟨a1, a2, rfl, a4, rfl, by show (s2.T++Y2)[s2.T.length]? = _;rw [hY];simp, by omega, by show s.wt.length+(n2+9)<950000;omega⟩
  have g:=g1.aN (g2.aN (g3.aN g4))
  rw [show 1+(n+(1+n2))=n+n2+2 by omega] at g
  exact g
 | @Jp env b u c a r n e h ih =>
  intro s q t A
  obtain ⟨a1,a2,a3,a4,a5,a6,r1,r2⟩:=A
  have g1:=Go.one (k:=k+6) h3 a5 (fB (k:=k+5) a5 (pI (k:=k+3) (s:={ s with todo:=q }) (by show q.length+1<line;omega)) (bE (by rw [a5];simp [iy])))
  have g2:=ih { s with todo:=q++[aA (w "go on") (Pt.ite c a r).d (.ref (M0.length+(t+3)))]++[aA (w "begin") c.d (.ref (M0.length+(t+3)))] } (q++[aA (w "go on") (Pt.ite c a r).d (.ref (M0.length+(t+3)))]) t ⟨a1, a2, a3, a4, rfl, a6, by simp;omega, by show s.wt.length+(n+9)<950000;omega⟩
  have g:=g1.aN g2
  rw [show 1+n=n+1 by omega] at g;exact g
 | @Jo env b u b1 i c a r n n2 e h1 h2 ih2 =>
  intro s q t A
  obtain ⟨a1,a2,a3,a4,a5,a6,r1,r2⟩:=A
  have g1:=Go.one (k:=k+6) h3 a5 (fB (k:=k+5) a5 (pI (k:=k+3) (s:={ s with todo:=q }) (by show q.length+1<line;omega)) (bE (by rw [a5];simp [iy])))
  obtain ⟨Y1, g2⟩:=iL (k:=k) h3 h1 { s with todo:=q++[aA (w "go on") (Pt.ite c a r).d (.ref (M0.length+(t+3)))]++[aA (w "begin") c.d (.ref (M0.length+(t+3)))] } (q++[aA (w "go on") (Pt.ite c a r).d (.ref (M0.length+(t+3)))]) t ⟨a1, a2, a3, a4, rfl, a6, by simp;omega, by show s.wt.length+n<950000;omega⟩
  let s2:Px:={ s with todo:=q++[aA (w "go on") (Pt.ite c a r).d (.ref (M0.length+(t+3)))], wt:=s.wt++[.int i], bg:=b1, T:=s.T++Y1 }
  have GF:s2.T[t]? = some (.dct env):=by show (s.T++Y1)[t]? = _;rw [List.getElem?_append_left (List.getElem?_eq_some_iff.mp a6).1];exact a6
  have q2:=B9 (k:=k+3) (M0:=M0) (s:={ s2 with todo:=q }) (p:=s.wt) (en:=.ref (M0.length+(t+3))) (c:=c) (q:=a) (r:=r) (i:=i) rfl (by show q.length<line;omega)
  have g3:=Go.one (k:=k+6) (s:=s2) h3 rfl (By (k:=k+5) (s:=s2) rfl q2 (by
   show q++[aA (w "begin") _ _]≠q++[aA (w "go on") (Pt.ite c a r).d (.ref (M0.length+(t+3)))]
   exact aY (cZ (by decide +kernel))))
  have ei:(if i=0 then r.d else a.d)=(if i=0 then r else a).d:=by split <;> rfl
  rw [ei] at g3
  have g4:=ih2 { s2 with wt:=s.wt, todo:=q++[aA (w "begin") (if i=0 then r else a).d (.ref (M0.length+(t+3)))] } q t ⟨a1, a2, rfl, a4, rfl, GF, by omega, by show s.wt.length+(n2+9)<950000;omega⟩
  have g:=g1.aN (g2.aN (g3.aN g4))
  rw [show 1+(n+(1+n2))=n+n2+2 by omega] at g
  exact g
 | @op1 env b u o ps n e h8 h ih =>
  intro s q t A
  obtain ⟨a1,a2,a3,a4,a5,a6,r1,r2⟩:=A
  have g1:=Go.one (k:=k+6) h3 a5 (fB (k:=k+5) a5 (vB (k:=k+3) (s:={ s with todo:=q }) (by show q.length+1+ps.ds.length<line;omega)) (by
   rw [a5]
   show q++[aA (w "end") _ _]++_≠q++[aA (w "begin") _ _]
   rw [List.append_assoc]
   exact aY (cZ (by decide +kernel))))
  have g2:=ih { s with todo:=q++[aA (w "end") (Pt.op o ps).d (.ref (M0.length+(t+3)))]++ps.ds.reverse.map fun d=>aA (w "begin") d (.ref (M0.length+(t+3))) } (q++[aA (w "end") (Pt.op o ps).d (.ref (M0.length+(t+3)))]) t ⟨a1, a2, a3, a4, rfl, a6, by simp;omega, by show s.wt.length+(n+9)<950000;omega⟩
  have g:=g1.aN g2
  rw [show 1+n=n+1 by omega] at g;exact g
 | @m9 env b u b1 o ps n e vs h8 h1 hc =>
  intro s q t A
  obtain ⟨a1,a2,a3,a4,a5,a6,r1,r2⟩:=A
  have hl:=h1.len
  have g1:=Go.one (k:=k+6) h3 a5 (fB (k:=k+5) a5 (vB (k:=k+3) (s:={ s with todo:=q }) (by show q.length+1+ps.ds.length<line;omega)) (by
   rw [a5]
   show q++[aA (w "end") _ _]++_≠q++[aA (w "begin") _ _]
   rw [List.append_assoc]
   exact aY (cZ (by decide +kernel))))
  obtain ⟨Y1, g2⟩:=iL (k:=k) h3 h1 { s with todo:=q++[aA (w "end") (Pt.op o ps).d (.ref (M0.length+(t+3)))]++ps.ds.reverse.map fun d=>aA (w "begin") d (.ref (M0.length+(t+3))) } (q++[aA (w "end") (Pt.op o ps).d (.ref (M0.length+(t+3)))]) t ⟨a1, a2, a3, a4, rfl, a6, by simp;omega, by show s.wt.length+n<950000;omega⟩
  let s2:Px:={ s with todo:=q++[aA (w "end") (Pt.op o ps).d (.ref (M0.length+(t+3)))], wt:=s.wt++vs, bg:=b1, T:=s.T++Y1 }
  obtain ⟨Y2,q2⟩:=vE (k:=k+1) (M0:=M0) (s:={ s2 with todo:=q }) (p:=s.wt) hc hl rfl (by show (s.wt++vs).length<line;rw [List.length_append];omega) hc.ne
  have g3:=C7.one (k:=k+6) (s:=s2) h3 rfl (ym (k:=k+5) (s:=s2) rfl q2 (bE (by show q.length≠_;simp [s2])))
  have g:=g1.aN (g2.aN g3)
  rw [show 1+(n+1)=n+2 by omega] at g
  exact g
 | @J7 env b u z ps n e h8 h ih =>
  intro s q t A
  obtain ⟨a1,a2,a3,a4,a5,a6,r1,r2⟩:=A
  have g1:=Go.one (k:=k+6) h3 a5 (fB (k:=k+5) a5 (gA (k:=k+3) (s:={ s with todo:=q }) (by show q.length+1+ps.ds.length<line;omega)) (by
   rw [a5]
   show q++[aA (w "end") _ _]++_≠q++[aA (w "begin") _ _]
   rw [List.append_assoc]
   exact aY (cZ (by decide +kernel))))
  have g2:=ih { s with todo:=q++[aA (w "end") (Pt.call z ps).d (.ref (M0.length+(t+3)))]++ps.ds.reverse.map fun d=>aA (w "begin") d (.ref (M0.length+(t+3))) } (q++[aA (w "end") (Pt.call z ps).d (.ref (M0.length+(t+3)))]) t ⟨a1, a2, a3, a4, rfl, a6, by simp;omega, by show s.wt.length+(n+9)<950000;omega⟩
  have g:=g1.aN g2
  rw [show 1+n=n+1 by omega] at g;exact g
 | @long env b u b1 z ps n vs h8 h1 hb =>
  intro s q t A
  obtain ⟨a1,a2,a3,a4,a5,a6,r1,r2⟩:=A
  have hl:=h1.len
  have g1:=Go.one (k:=k+6) h3 a5 (fB (k:=k+5) a5 (gA (k:=k+3) (s:={ s with todo:=q }) (by show q.length+1+ps.ds.length<line;omega)) (by
   rw [a5]
   show q++[aA (w "end") _ _]++_≠q++[aA (w "begin") _ _]
   rw [List.append_assoc]
   exact aY (cZ (by decide +kernel))))
  obtain ⟨Y1, g2⟩:=iL (k:=k) h3 h1 { s with todo:=q++[aA (w "end") (Pt.call z ps).d (.ref (M0.length+(t+3)))]++ps.ds.reverse.map fun d=>aA (w "begin") d (.ref (M0.length+(t+3))) } (q++[aA (w "end") (Pt.call z ps).d (.ref (M0.length+(t+3)))]) t ⟨a1, a2, a3, a4, rfl, a6, by simp;omega, by show s.wt.length+n<950000;omega⟩
  let s2:Px:={ s with todo:=q++[aA (w "end") (Pt.call z ps).d (.ref (M0.length+(t+3)))], wt:=s.wt++vs, bg:=b1, T:=s.T++Y1 }
  obtain ⟨s',ht',q2⟩:=nB (k:=k) (M0:=M0) (s:={ s2 with todo:=q }) (p:=s.wt) (z:=z) (ps:=ps) (vs:=vs) (c:=4) hl rfl (by show (s.wt++vs).length<line;rw [List.length_append];omega) (fun M=>if_pos (by show s.most<b1+1;omega))
  have g3:=C7.one (k:=k+6) (s:=s2) h3 rfl (ym (k:=k+5) (s:=s2) rfl q2 (bE (by rw [ht'];show q.length≠_;simp [s2])))
  have g:=g1.aN (g2.aN g3)
  rw [show 1+(n+1)=n+2 by omega] at g
  exact g
 | @deep env b u b1 z ps n vs h8 h1 hb hu =>
  intro s q t A
  obtain ⟨a1,a2,a3,a4,a5,a6,r1,r2⟩:=A
  have hl:=h1.len
  have g1:=Go.one (k:=k+6) h3 a5 (fB (k:=k+5) a5 (gA (k:=k+3) (s:={ s with todo:=q }) (by show q.length+1+ps.ds.length<line;omega)) (by
   rw [a5]
   show q++[aA (w "end") _ _]++_≠q++[aA (w "begin") _ _]
   rw [List.append_assoc]
   exact aY (cZ (by decide +kernel))))
  obtain ⟨Y1, g2⟩:=iL (k:=k) h3 h1 { s with todo:=q++[aA (w "end") (Pt.call z ps).d (.ref (M0.length+(t+3)))]++ps.ds.reverse.map fun d=>aA (w "begin") d (.ref (M0.length+(t+3))) } (q++[aA (w "end") (Pt.call z ps).d (.ref (M0.length+(t+3)))]) t ⟨a1, a2, a3, a4, rfl, a6, by simp;omega, by show s.wt.length+n<950000;omega⟩
  let s2:Px:={ s with todo:=q++[aA (w "end") (Pt.call z ps).d (.ref (M0.length+(t+3)))], wt:=s.wt++vs, bg:=b1, T:=s.T++Y1 }
  obtain ⟨s',ht',q2⟩:=nB (k:=k) (M0:=M0) (s:={ s2 with todo:=q }) (p:=s.wt) (z:=z) (ps:=ps) (vs:=vs) (c:=5) hl rfl (by show (s.wt++vs).length<line;rw [List.length_append];omega) (fun M=>(if_neg (by show ¬ s.most<b1+1;omega)).trans (if_pos (by show 12<s.un+1;omega)))
  have g3:=C7.one (k:=k+6) (s:=s2) h3 rfl (ym (k:=k+5) (s:=s2) rfl q2 (bE (by rw [ht'];show q.length≠_;simp [s2])))
  have g:=g1.aN (g2.aN g3)
  rw [show 1+(n+1)=n+2 by omega] at g
  exact g
 | @call2 env b u b1 z ps f n n2 e vs h8 h1 hb hu hf ht h2 ih2 =>
  intro s q t A
  obtain ⟨a1,a2,a3,a4,a5,a6,r1,r2⟩:=A
  have hl:=h1.len
  have g1:=Go.one (k:=k+6) h3 a5 (fB (k:=k+5) a5 (gA (k:=k+3) (s:={ s with todo:=q }) (by show q.length+1+ps.ds.length<line;omega)) (by
   rw [a5]
   show q++[aA (w "end") _ _]++_≠q++[aA (w "begin") _ _]
   rw [List.append_assoc]
   exact aY (cZ (by decide +kernel))))
  obtain ⟨Y1, g2⟩:=iL (k:=k) h3 h1 { s with todo:=q++[aA (w "end") (Pt.call z ps).d (.ref (M0.length+(t+3)))]++ps.ds.reverse.map fun d=>aA (w "begin") d (.ref (M0.length+(t+3))) } (q++[aA (w "end") (Pt.call z ps).d (.ref (M0.length+(t+3)))]) t ⟨a1, a2, a3, a4, rfl, a6, by simp;omega, by show s.wt.length+n<950000;omega⟩
  let s2:Px:={ s with todo:=q++[aA (w "end") (Pt.call z ps).d (.ref (M0.length+(t+3)))], wt:=s.wt++vs, bg:=b1, T:=s.T++Y1 }
  have q2:=qY (k:=k) (M0:=M0) (s:={ s2 with todo:=q }) (p:=s.wt) (fs:=fs) (z:=z) (ps:=ps) (vs:=vs) (f:=f) hl rfl (by show (s.wt++vs).length<line;rw [List.length_append];omega) (by show b1+1<=s.most;omega) (by show s.un+1<=12;omega) a1 hf (by show q.length+1<line;omega) ht
  let s3:Px:={ s2 with wt:=s.wt, bg:=b1+1, un:=s.un+1, todo:=q++[pe]++[aA (w "begin") f.bd.d (.ref (M0.length+((s2.T++[MO.lst vs]).length+3)))], T:=s2.T++[.lst vs]++[.dct (envOf [] (f.tk.map (·.1)) vs)] }
  have g3:Go (k+6) M0 σ 1 s2 s3:=Go.one (k:=k+6) (s:=s2) h3 rfl (Gq (k:=k+5) (s:=s2) rfl q2 (by
   show q++[pe]++[_]≠q++[aA (w "end") _ _]
   rw [List.append_assoc]
   exact aY (cZ (by decide +kernel))))
  have g4:=ih2 s3 (q++[pe]) (s2.T++[MO.lst vs]).length ⟨a1,a2,rfl,by show s.un+1=u+1;omega,rfl,by show (s2.T++[MO.lst vs]++[_])[(s2.T++[MO.lst vs]).length]? = _;simp,by simp;omega,by show s.wt.length+(n2+9)<950000;omega⟩
  have g:=g1.aN (g2.aN (g3.aN g4))
  rw [show 1+(n+(1+n2))=n+n2+2 by omega] at g
  exact g
 | @head env b u p ps n e h8 h ih =>
  intro s q t A
  obtain ⟨a1,a2,a3,a4,a5,a6,r1,r2⟩:=A
  rw [l7,<- List.append_assoc] at a5
  have hq:(q++iy (.ref (M0.length+(t+3))) (.ps ps)).length=q.length+ps.ds.length:=by simp [iy]
  have g:=ih s (q++iy (.ref (M0.length+(t+3))) (.ps ps)) t ⟨a1,a2,a3,a4,a5,a6,by omega,by omega⟩
  intro N
  obtain ⟨s',q'⟩:=g (1+N)
  exact ⟨s',by rw [show n+1+N=n+(1+N) by omega];exact q'⟩
 | @tail env b u b1 p ps n n2 e v h8 h1 h2 ih2 =>
  intro s q t A
  obtain ⟨a1,a2,a3,a4,a5,a6,r1,r2⟩:=A
  rw [l7,<- List.append_assoc] at a5
  have hq:(q++iy (.ref (M0.length+(t+3))) (.ps ps)).length=q.length+ps.ds.length:=by simp [iy]
  obtain ⟨Y1,g1⟩:=iL (k:=k) h3 h1 s (q++iy (.ref (M0.length+(t+3))) (.ps ps)) t ⟨a1,a2,a3,a4,a5,a6,by omega,by omega⟩
  have g2:=ih2 { s with todo:=q++iy (.ref (M0.length+(t+3))) (.ps ps),wt:=s.wt++[v],bg:=b1,T:=s.T++Y1 } q t ⟨a1,a2,rfl,a4,rfl,by show (s.T++Y1)[t]? = _;rw [List.getElem?_append_left (List.getElem?_eq_some_iff.mp a6).1];exact a6,by omega,by show (s.wt++[v]).length+(n2+9)<950000;have:=h1.lo;simp only [bO.lo] at this;simp;omega⟩
  exact g1.aN g2
end
end bO
end
section
namespace bO
open Fg PySem
section
variable {k:Nat}
end
end bO
end
section
namespace bO
open Fg PySem
section
variable {M0 M:MH} {k n:Nat} {P:D} {m:Int} {fs:List Fd} {f:Fd} {nu:List D}
noncomputable def DT (P:D) (m:Int):Px:=⟨P,m,0,0,[],[],[]⟩
theorem Gw:(af aq (k+1)).call 11 [.ref M0.length,P,.int m] (M0++[.ins 0 []])=.ok .ao ((DT P m).h M0):=by
 let σ:Sg:=[some (.ref M0.length),some P,some (.int m)]
 have st:∀ {gs gs':List (Str×D)} {X Y:MH} {e:E} {d:D} {g:Str},ev (af aq k) e σ (M0++.ins 0 gs::X)=.ok d (M0++.ins 0 gs::Y)->gs.length<1000->ef g d gs=gs'->ex (af aq k) (.d9 (.v 0) g e) σ (M0++.ins 0 gs::X)=.ok (.nx σ) (M0++.ins 0 gs'::Y):=fun {gs gs' X Y e d g} he hl hg=>by
  have h0:(M0++MO.ins 0 gs::Y)[M0.length]? = some (.ins 0 gs):=off 0 _
  have:=Gi (Φ:=af aq k) (σ:=σ) (a:=.v 0) (g:=g) (n:=M0.length) he rfl h0 hl hg
  rw [this]
  have e2:(M0++MO.ins 0 gs::Y).set M0.length (.ins 0 gs')=M0++MO.ins 0 gs'::Y:=offs 0 _ _
  rw [e2]
 have a1:=st (gs:=[]) (X:=[]) (Y:=[]) (e:=.v 1) (d:=P) (g:=w "program") rfl (by decide) rfl
 have a2:=st (gs:=[(w "program", P)]) (X:=[]) (Y:=[]) (e:=.v 2) (d:=.int m) (g:=w "most") (gs':=[(w "program", P), (w "most", .int m)]) rfl (by simp) (by simp only [ef, wn (a:="program") (b:="most"), if_false])
 have a3:=st (gs:=[(w "program", P), (w "most", .int m)]) (X:=[]) (Y:=[]) (e:=.k (.int 0)) (d:=.int 0) (g:=w "begun") (gs':=[(w "program", P), (w "most", .int m), (w "begun", .int 0)]) rfl (by simp) (by simp only [ef, wn (a:="program") (b:="begun"), wn (a:="most") (b:="begun"), if_false])
 have a4:=st (gs:=[(w "program", P), (w "most", .int m), (w "begun", .int 0)]) (X:=[]) (Y:=[]) (e:=.k (.int 0)) (d:=.int 0) (g:=w "under_way") (gs':=[(w "program", P), (w "most", .int m), (w "begun", .int 0), (w "under_way", .int 0)]) rfl (by simp) (by simp only [ef, wn (a:="program") (b:="under_way"), wn (a:="most") (b:="under_way"), wn (a:="begun") (b:="under_way"), if_false])
 have n1:∀ {gs:List (Str×D)} {X:MH},ev (af aq k) (.lst false .nil) σ (M0++.ins 0 gs::X)=.ok (.ref (M0.length+(X.length+1))) (M0++.ins 0 gs::(X++[.lst []])):=fun {gs X}=>by
  show R.ok (D.ref (M0++MO.ins 0 gs::X).length) (M0++MO.ins 0 gs::X++[MO.lst []])=_
  simp
 have a5:=st (gs:=[(w "program", P), (w "most", .int m), (w "begun", .int 0), (w "under_way", .int 0)]) (X:=[]) (Y:=[.lst []]) (g:=w "todo") (gs':=[(w "program", P), (w "most", .int m), (w "begun", .int 0), (w "under_way", .int 0), (w "todo", .ref (M0.length+1))]) n1 (by simp) (by simp only [ef, wn (a:="program") (b:="todo"), wn (a:="most") (b:="todo"), wn (a:="begun") (b:="todo"), wn (a:="under_way") (b:="todo"), if_false];rfl)
 have a6:=st (gs:=[(w "program", P), (w "most", .int m), (w "begun", .int 0), (w "under_way", .int 0), (w "todo", .ref (M0.length+1))]) (X:=[.lst []]) (Y:=[.lst [], .lst []]) (g:=w "waiting") (gs':=[(w "program", P), (w "most", .int m), (w "begun", .int 0), (w "under_way", .int 0), (w "todo", .ref (M0.length+1)), (w "waiting", .ref (M0.length+2))]) n1 (by simp) (by simp only [ef, wn (a:="program") (b:="waiting"), wn (a:="most") (b:="waiting"), wn (a:="begun") (b:="waiting"), wn (a:="under_way") (b:="waiting"), wn (a:="todo") (b:="waiting"), if_false];rfl)
 refine dm fn11 rfl ((gE a1).trans ((gE a2).trans ((gE a3).trans ((gE a4).trans ((gE a5).trans ((gE a6).trans rfl)))))) ?_
 exact cV M0.length (by simp) (by
  rw [show (M0++[MO.ins 0 []])[M0.length]? = some (.ins 0 []) from off 0 _]
  rw [show (M0++MO.ins 0 [(w "program", P), (w "most", .int m), (w "begun", .int 0), (w "under_way", .int 0), (w "todo", .ref (M0.length+1)), (w "waiting", .ref (M0.length+2))]::[MO.lst [], .lst []])[M0.length]? = some (.ins 0 [(w "program", P), (w "most", .int m), (w "begun", .int 0), (w "under_way", .int 0), (w "todo", .ref (M0.length+1)), (w "waiting", .ref (M0.length+2))]) from off 0 _]
  simp)
noncomputable abbrev sP (fs:List Fd) (nu:List D) (m:Int) (o:Option D):Sg:=[some (.lst (fs.map Fd.d)),some (.lst nu),some (.int m),o]
noncomputable def m8 (M0:MH) (fs:List Fd) (f:Fd) (nu:List D) (m:Int):Px:={ DT (.lst (fs.map Fd.d)) m with todo:=[aA (w "begin") f.bd.d (.ref (M0.length+3))], T:=[.dct (envOf [] (f.tk.map (·.1)) nu)] }
theorem nP:fj.body=.cons (.set 3 (.new 0 11 (.cons (.v 0) (.cons (.v 2) .nil)))) (.cons (.ex (.cR 0 17 (w "put_off_body") (.v 3) (.cons (.k (.str (w "main"))) (.cons (.v 1) .nil)))) (.cons (.while pE pB) (.cons (.ret (.call 8 (.cons (.bZ .pop true (.fld (.v 3) (w "waiting")) .nil) .nil))) .nil))):=rfl
theorem rP {ss:Ss} (hf:fs.find? (fun g=>decide (g.nm=w "main"))=some f) (ht:f.tk.length<=1000) :
  exs (af aq (k+6)) (.cons (.set 3 (.new 0 11 (.cons (.v 0) (.cons (.v 2) .nil)))) (.cons (.ex (.cR 0 17 (w "put_off_body") (.v 3) (.cons (.k (.str (w "main"))) (.cons (.v 1) .nil)))) ss)) (sP fs nu m none) M0=exs (af aq (k+6)) ss (sP fs nu m (some (.ref M0.length))) ((m8 M0 fs f nu m).h M0):=by
 have e1:=e_new (Φ:=af aq (k+6)) (c:=0) (g:=11) (σ:=sP fs nu m none) (M:=M0) (M1:=M0) (M2:=(DT (.lst (fs.map Fd.d)) m).h M0) (es:=.cons (.v 0) (.cons (.v 2) .nil)) (ds:=[.lst (fs.map Fd.d),.int m]) rfl (Gw (k:=k+4))
 have e2:ev (af aq (k+6)) (.cR 0 17 (w "put_off_body") (.v 3) (.cons (.k (.str (w "main"))) (.cons (.v 1) .nil))) (sP fs nu m (some (.ref M0.length))) ((DT (.lst (fs.map Fd.d)) m).h M0)=.ok .ao ((m8 M0 fs f nu m).h M0):=by
  rw [u_ (i:=3) rfl (by decide +kernel), qy (x:=.str (w "main")) (y:=.lst nu) (M1:=(DT (.lst (fs.map Fd.d)) m).h M0) (M2:=(DT (.lst (fs.map Fd.d)) m).h M0) rfl rfl, R.aa]
  exact yD (k:=k+3) (s:=DT (.lst (fs.map Fd.d)) m) (M0:=M0) (gv:=.lst nu) (fs:=fs) (f:=f) (z:=w "main") (vs:=nu) rfl hf rfl (show 0<line by decide) ht
 exact (aF e1).trans ((bM e2).trans rfl)
theorem at1 {n:Nat} (hn:n<=99000):At fs m M0 (m8 M0 fs f nu m) [] (envOf [] (f.tk.map (·.1)) nu) 0 0 0 (.p f.bd) n:=⟨rfl,rfl,rfl,rfl,rfl,rfl,by simp;omega,by show 0+n<950000;omega⟩
theorem BG {b':Int} {v:D} (hf:fs.find? (fun g=>decide (g.nm=w "main"))=some f) (ht:f.tk.length<=1000) (h:Ev fs m (envOf [] (f.tk.map (·.1)) nu) 0 0 (.p f.bd) n [v] b') (hn:n<=90000) :
  ∃ T:MH,∀ (y:D) (X:MH),(af aq (k+6)).call 8 [v] (({ m8 M0 fs f nu m with todo:=[],wt:=[],bg:=b',T:=T }:Px).h M0)=.ok y (({ m8 M0 fs f nu m with todo:=[],wt:=[],bg:=b',T:=T++X }:Px).h M0) ->
   (af aq (k+7)).call 10 [.lst (fs.map Fd.d),.lst nu,.int m] M0=fM false M0 y (({ m8 M0 fs f nu m with todo:=[],wt:=[],bg:=b',T:=T++X }:Px).h M0):=by
 have K7:(sP fs nu m (some (.ref M0.length)))[3]? = some (some (.ref M0.length)):=rfl
 obtain ⟨Y,g⟩:=iL (k:=k) K7 h (m8 M0 fs f nu m) [] 0 (at1 (by omega))
 refine ⟨(m8 M0 fs f nu m).T++Y,fun y X hy=>?_⟩
 let s2:Px:={ m8 M0 fs f nu m with todo:=[],wt:=[v],bg:=b',T:=(m8 M0 fs f nu m).T++Y }
 have c:=pX (Φ:=af aq (k+6)) (s:=s2) (M0:=M0) K7
 have ew:ex (af aq (k+6)) (.while pE pB) (sP fs nu m (some (.ref M0.length))) ((m8 M0 fs f nu m).h M0)=.ok (.nx (sP fs nu m (some (.ref M0.length)))) (s2.h M0):=by
  rw [oK,iT]
  have q:=g (100000-n-1+1)
  rw [show n+(100000-n-1+1)=100000 by omega] at q
  show cM _ _ 100000 _ _=_
  rw [q,cM,show Px.h { m8 M0 fs f nu m with todo:=[],wt:=(m8 M0 fs f nu m).wt++[v],bg:=b',T:=(m8 M0 fs f nu m).T++Y } M0=s2.h M0 from rfl,c]
  rfl
 have ep:=sR (Φ:=af aq (k+6)) (σ:=sP fs nu m (some (.ref M0.length))) (s:=s2) (M0:=M0) (i:=3) (p:=[]) (x:=v) rfl rfl
 have er:ev (af aq (k+6)) (.call 8 (.cons (.bZ .pop true (.fld (.v 3) (w "waiting")) .nil) .nil)) (sP fs nu m (some (.ref M0.length))) (s2.h M0)=.ok y (({ m8 M0 fs f nu m with todo:=[], wt:=[], bg:=b', T:=(m8 M0 fs f nu m).T++Y++X }:Px).h M0):=(cB ep).trans hy
 exact bx JD rfl (by rw [nP];exact (rP hf ht).trans ((gE ew).trans (bJ er))) rfl
theorem yy {e:Nat} (hf:fs.find? (fun g=>decide (g.nm=w "main"))=some f) (ht:f.tk.length<=1000) (h:jo fs m (envOf [] (f.tk.map (·.1)) nu) 0 0 (.p f.bd) n e) (hn:n<=90000):(af aq (k+7)).call 10 [.lst (fs.map Fd.d), .lst nu, .int m] M0=.exc e M0:=by
 have K7:(sP fs nu m (some (.ref M0.length)))[3]? = some (some (.ref M0.length)):=rfl
 have g:=go_x (k:=k) K7 h (m8 M0 fs f nu m) [] 0 (at1 (by omega))
 obtain ⟨s',q⟩:=g (100000-n)
 rw [show n+(100000-n)=100000 by omega] at q
 have ew:∀ ss,exs (af aq (k+6)) (.cons (.while pE pB) ss) (sP fs nu m (some (.ref M0.length))) ((m8 M0 fs f nu m).h M0)=.ok (.xc e (sP fs nu m (some (.ref M0.length)))) (s'.h M0):=fun ss=>by
  rw [bG,oK,iT,show aq.turns=100000 from rfl,q];rfl
 exact iF JD rfl (by rw [nP];exact (rP hf ht).trans (ew _)) (if_pos vn)
end
end bO
end
section
namespace bO
open Fg PySem
theorem fn19:aq.fn 19=some iN:=rfl
theorem fn20:aq.fn 20=some gO:=rfl
theorem FW:aq.fn 21=some kR:=rfl
theorem fn22:aq.fn 22=some fm:=rfl
theorem fn23:aq.fn 23=some xU:=rfl
noncomputable def mixed (c:Int):Int:=(c % 2147483647+11)*48271*69621 % 2147483629
noncomputable def vD:Option Int->D
 | some i=>.int i
 | none=>.ao
noncomputable def two (o:Rk):Option Int->Option Int->Option Int
 | some x,some y=>if yV o x y then none else some (vU o x y)
 | _,_=>none
theorem dM {i:Int} (h:great i=false):mid i=true:=by
 unfold great G7 at h
 unfold mid
 have h:=of_decide_eq_false h
 refine decide_eq_true ?_
 have:(i.natAbs:Int)<10 ^ 60:=Int.not_le.mp h
 have h2:i.natAbs<10 ^ 60:=by exact_mod_cast this
 exact Nat.lt_of_lt_of_le h2 (Nat.pow_le_pow_right (by decide) (by decide))
theorem gH {i:Int} {n:Nat} (h:i.natAbs<10 ^ n) (hn:n<=60):great i=false:=by
 unfold great G7
 refine decide_eq_false (Int.not_le.mpr ?_)
 have:i.natAbs<10 ^ 60:=Nat.lt_of_lt_of_le h (Nat.pow_le_pow_right (by decide) hn)
 exact_mod_cast this
theorem HY {o:Rk} {a b:Int} (h:yV o a b=false):great (vU o a b)=false:=by
 unfold yV at h
 cases o with
 | less=>simp only [vU];split <;> exact gH (n:=1) (by decide) (by decide)
 | _=>simpa [xB] using h
noncomputable def p2 (a b:Pt):cQ:=.cons a (.cons b .nil)
structure Rw where
 p:Pt
 v:Option Int
 d:Int
 n:Nat
noncomputable def Rw.D (r:Rw):Fg.D:=.tup [r.p.d,vD r.v,.int r.d]
noncomputable def Rw.ok (r:Rw):Prop:=match r.v with
 | some i=>great i=false/\∀ fs m env b u,∃ n,n<=r.n/\Ev fs m env b u (.p r.p) n [.int i] b
 | none=>∀ fs m env b u,∃ n,n<=r.n/\jo fs m env b u (.p r.p) n 2
theorem wG {i d:Int} (h:great i=false):(Rw.mk (.num i) (some i) d 1).ok:=⟨h,fun _ _ _ _ _=>⟨1,Nat.le_refl _,.num⟩⟩
theorem AW {a b:Pt}:(p2 a b).ds.length<=8:=by simp [p2,cQ.ds]
theorem EE {r s:Rw} {o:Rk} {d:Int} (h1:r.ok) (h2:s.ok):(Rw.mk (.op (.rk o) (p2 r.p s.p)) (two o r.v s.v) d (r.n+s.n+2)).ok:=by
 obtain ⟨p,v,d1,n1⟩:=r
 obtain ⟨q,u,d2,n2⟩:=s
 cases v with
 | none =>
  intro fs m env b u'
  obtain ⟨n,hn,e⟩:=h1 fs m env b u'
  exact ⟨n+1+1,by simp only;simp only at hn;omega,.op1 AW (.head (by simp [cQ.ds]) e)⟩
 | some x =>
  obtain ⟨g1,h1⟩:=h1
  cases u with
  | none =>
   intro fs m env b u'
   obtain ⟨n,hn,e⟩:=h1 fs m env b u'
   obtain ⟨n',hn',e'⟩:=h2 fs m env b u'
   exact ⟨n+(n'+1)+1,by simp only at hn hn' ⊢;omega,.op1 AW (.tail (by simp [cQ.ds]) e (.head (by simp [cQ.ds]) e'))⟩
  | some y =>
   obtain ⟨g2,h2⟩:=h2
   have c:=jc.rk (o:=o) (dM g1) (dM g2)
   have run:∀ fs m env b u',∃ n,n+2<=n1+n2+2/\Ev fs m env b u' (.ps (p2 p q)) n [.int x,.int y] b:=fun fs m env b u'=>by
    obtain ⟨n,hn,e⟩:=h1 fs m env b u'
    obtain ⟨n',hn',e'⟩:=h2 fs m env b u'
    exact ⟨n+(n'+0),by simp only at hn hn';omega,.cons e (.cons e' .AM)⟩
   cases hg:yV o x y with
   | true =>
    rw [hg] at c
    simp only [Rw.ok,two,hg,if_true]
    intro fs m env b u'
    obtain ⟨n,hn,e⟩:=run fs m env b u'
    exact ⟨n+2,hn,.m9 AW e c⟩
   | false =>
    rw [hg] at c
    simp only [Rw.ok,two,hg,Bool.false_eq_true,if_false]
    refine ⟨HY hg,fun fs m env b u'=>?_⟩
    obtain ⟨n,hn,e⟩:=run fs m env b u'
    exact ⟨n+2,hn,.op AW e c⟩
noncomputable def pick (c a b:Option Int):Option Int:=match c with
 | none=>none
 | some i=>if i=0 then b else a
theorem EG {r s t:Rw} {d:Int} (h1:r.ok) (h2:s.ok) (h3:t.ok):(Rw.mk (.ite r.p s.p t.p) (pick r.v s.v t.v) d (r.n+s.n+t.n+2)).ok:=by
 obtain ⟨p,v,d1,n1⟩:=r
 cases v with
 | none =>
  intro fs m env b u
  obtain ⟨n,hn,e⟩:=h1 fs m env b u
  exact ⟨n+1,by simp only at hn ⊢;omega,.Jp e⟩
 | some i =>
  obtain ⟨g1,h1⟩:=h1
  have key:∀ {z:Rw},z.ok->z.n<=s.n+t.n->(if i=0 then t.p else s.p)=z.p->(if i=0 then t.v else s.v)=z.v->(Rw.mk (.ite p s.p t.p) (pick (some i) s.v t.v) d (n1+s.n+t.n+2)).ok:=fun {z} hz hn hp hv=>by
   obtain ⟨zp,zv,zd,zn⟩:=z
   simp only [Rw.ok,pick,hv]
   simp only at hp hn
   cases zv with
   | none =>
    intro fs m env b u
    obtain ⟨n,h5,e⟩:=h1 fs m env b u
    obtain ⟨n',h6,e'⟩:=hz fs m env b u
    exact ⟨n+n'+2,by simp only at h5 h6;omega,.Jo e (by rw [hp];exact e')⟩
   | some j =>
    refine ⟨hz.1,fun fs m env b u=>?_⟩
    obtain ⟨n,h5,e⟩:=h1 fs m env b u
    obtain ⟨n',h6,e'⟩:=hz.2 fs m env b u
    exact ⟨n+n'+2,by simp only at h5 h6;omega,.ite e (by rw [hp];exact e')⟩
  by_cases hi:i=0
  ·exact key h3 (by omega) (if_pos hi) (if_pos hi)
  ·exact key h2 (by omega) (if_neg hi) (if_neg hi)
end bO
end
section
namespace bO
open Fg PySem
section
variable {M M1 M2:MH} {k:Nat} {Φ:bh} {σ:Sg} {e e':E}
theorem tM {c:Int}:(af aq (k+1)).call 19 [.int c] M=.ok (.int (mixed c)) M:=by
 have e:ev (af aq k) (.op .mod true (.op .mul true (.op .mul true (.op .add true (.op .mod true (.v 0) (.k (.int 2147483647))) (.k (.int 11))) (.k (.int 48271))) (.k (.int 69621))) (.k (.int 2147483629))) [some (.int c)] M=.ok (.int (mixed c)) M:=by
  simp [m9,c9,small,mixed]
 exact bx fn19 rfl (bJ e) (au rfl rfl)
theorem kX {a b:Int} {fz:Bool} (he:ev Φ e σ M=.ok (.int a) M1) (hx:ev Φ e' σ M1=.ok (.int b) M2) (hb:0<b):ev Φ (.op .mod fz e e') σ M=.ok (.int (a % b)) M2:=by
 rw [iP,he,R.aa,hx,R.aa]
 simp only [m9,c9,decide_eq_true hb,if_true]
theorem CS {a b:Int} {fz:Bool} (he:ev Φ e σ M=.ok (.int a) M1) (hx:ev Φ e' σ M1=.ok (.int b) M2) (hb:0<b) (hs:b.natAbs<1073741824):ev Φ (.op .fdiv fz e e') σ M=.ok (.int (a / b)) M2:=by
 rw [iP,he,R.aa,hx,R.aa]
 simp only [m9,c9,decide_eq_true hb,decide_eq_true hs,Bool.and_self,if_true]
theorem e_or {x y:Bool} (h:ev Φ e σ M=.ok (.bl x) M) (h':x=false->ev Φ e' σ M=.ok (.bl y) M):ev Φ (.or e e') σ M=.ok (.bl (x||y)) M:=by
 rw [JM,h,R.aa]
 cases x with
 | true=>rfl
 | false=>exact h' rfl
theorem iR {x y:Bool} (h:ev Φ e σ M=.ok (.bl x) M) (h':x=true->ev Φ e' σ M=.ok (.bl y) M):ev Φ (.and e e') σ M=.ok (.bl (x&&y)) M:=by
 rw [ye,h,R.aa]
 cases x with
 | true=>exact h' rfl
 | false=>rfl
@[irreducible] noncomputable def qN (n:Nat):Int:=((10 ^ n:Nat):Int)
theorem lQ (n:Nat):0<qN n:=by unfold qN;exact Int.natCast_pos.mpr (Nat.pow_pos (by decide))
theorem v7 (x:Int) (n:Nat):(x % qN n).natAbs<10 ^ n:=by
 have h1:=Int.emod_nonneg x (Int.ne_of_gt (lQ n))
 have h2:=Int.emod_lt_of_pos x (lQ n)
 have:((x % qN n).natAbs:Int)<((10 ^ n:Nat):Int):=by
  rw [Int.natAbs_of_nonneg h1]
  unfold qN at h2 ⊢
  exact h2
 exact_mod_cast this
theorem pw9:c9 .pow 10 9=some (qN 9):=by unfold qN;decide +kernel
theorem pw20:c9 .pow 10 20=some (qN 20):=by unfold qN;decide +kernel
theorem pw30:c9 .pow 10 30=some (qN 30):=by unfold qN;decide +kernel
theorem pw40:c9 .pow 10 40=some (qN 40):=by unfold qN;decide +kernel
theorem pw1:(10:Int)=qN 1:=by unfold qN;decide
theorem Bt {n:Int} {v:Int} {fz:Bool} (h:c9 .pow 10 n=some v):ev Φ (.op .pow fz (.k (.int 10)) (.k (.int n))) σ M=.ok (.int v) M:=by
 rw [iP,jT,R.aa,jT,R.aa]
 simp only [m9,h]
theorem lX {i:Int} {n:Nat} (h:i.natAbs<10 ^ n) (hn:n<=60):mid i=true:=dM (gH h hn)
theorem yz (c:Int):∃ i,great i=false/\∀ (k:Nat) (M:MH),(af aq (k+2)).call 20 [.int c] M=.ok (.int i) M:=by
 let x:=c % qN 40
 have key:∀ (n:Nat) (j:Int),n<=60->mixed c / 64 % 4=j->j8 [D.int (qN 1),.int (qN 9),.int (qN 20),.int (qN 30)] j=some (.int (qN n))->∃ i,great i=false/\∀ (k:Nat) (M:MH),(af aq (k+2)).call 20 [.int c] M=.ok (.int i) M:=by
  intro n j hn hj ha
  have hs:(1-2*(x / 3 % 2)).natAbs=1:=by omega
  refine ⟨x % qN n*(1-2*(x / 3 % 2)),gH (n:=n) (by rw [Int.natAbs_mul,hs,Nat.mul_one];exact v7 x n) hn,fun k M=>?_⟩
  have e1:ev (af aq (k+1)) (.op .mod true (.v 0) (.op .pow true (.k (.int 10)) (.k (.int 40)))) [some (.int c),none] M=.ok (.int x) M:=kX rfl (Bt pw40) (lQ _)
  have e2:ev (af aq (k+1)) (.lst true (.cons (.k (.int 10)) (.cons (.op .pow true (.k (.int 10)) (.k (.int 9))) (.cons (.op .pow true (.k (.int 10)) (.k (.int 20))) (.cons (.op .pow true (.k (.int 10)) (.k (.int 30))) .nil))))) [some (.int c),some (.int x)] M=.ok (.lst [.int (qN 1),.int (qN 9),.int (qN 20),.int (qN 30)]) M:=by
   rw [qA,av,jT,R.aa,av,Bt pw9,R.aa,av,Bt pw20,R.aa,av,Bt pw30,R.aa,<- pw1];rfl
  have e3:ev (af aq (k+1)) (.op .mod true (.op .fdiv true (.call 19 (.cons (.v 0) .nil)) (.k (.int 64))) (.k (.int 4))) [some (.int c),some (.int x)] M=.ok (.int j) M:=by
   rw [<- hj]
   exact kX (CS ((cB (d:=.int c) rfl).trans tM) rfl (by decide) (by decide)) rfl (by decide)
  have e4:ev (af aq (k+1)) (.op .sub true (.k (.int 1)) (.op .mul true (.k (.int 2)) (.op .mod true (.op .fdiv true (.v 1) (.k (.int 3))) (.k (.int 2))))) [some (.int c),some (.int x)] M=.ok (.int (1-2*(x / 3 % 2))) M :=
   kW rfl (sS rfl (kX (CS rfl rfl (by decide) (by decide)) rfl (by decide)) (lX (n:=1) (by decide) (by decide)) (lX (n:=1) (by omega) (by decide)))
  exact bx fn20 rfl ((aF e1).trans (bJ (sS (kX rfl (gU e2 e3 ha) (lQ _)) e4 (lX (v7 x n) hn) (lX (n:=1) (by omega) (by decide))))) (au rfl rfl)
 have h4:mixed c / 64 % 4=0\/mixed c / 64 % 4=1\/mixed c / 64 % 4=2\/mixed c / 64 % 4=3:=by omega
 rcases h4 with h | h | h | h
 ·exact key 1 0 (by decide) h rfl
 ·exact key 9 1 (by decide) h rfl
 ·exact key 20 2 (by decide) h rfl
 ·exact key 30 3 (by decide) h rfl
theorem CO {d:D} {i:Nat} (h:σ[i]? = some (some d)):ev Φ (.cmp .ow (.v i) (.k .ao)) σ M=.ok (.bl (bT d)) M:=by
 rw [b9,e_v h,R.aa,jT,R.aa];rfl
noncomputable def wds:List Str:=[w "plus", w "minus", w "times"]
theorem mR {z:Str} {j:Nat} {i:Nat} (h:σ[i]? = some (some (.str z))) (hj:xw false (wds.map D.str) (.str z)=some j):ev Φ (.A5 false (.lst true (.cons (.k (.str (w "plus"))) (.cons (.k (.str (w "minus"))) (.cons (.k (.str (w "times"))) .nil)))) (.cons (.v i) .nil)) σ M=.ok (.int (j:Int)) M:=by
 have e1:ev Φ (.lst true (.cons (.k (.str (w "plus"))) (.cons (.k (.str (w "minus"))) (.cons (.k (.str (w "times"))) .nil)))) σ M=.ok (.lst (wds.map D.str)) M:=rfl
 rw [Gg,e1,R.aa,if_pos (show (lY M (D.lst (wds.map D.str))).isSome=true from rfl),Bm (e_v h),R.aa]
 unfold A4 n5
 simp only [lY,vw,Option.bind_some,hj]
theorem J8 {o:Rk} {a b:Option Int} (ha:∀ i,a=some i->great i=false) (hb:∀ i,b=some i->great i=false):(af aq (k+1)).call 21 [.str (eZ o),vD a,vD b] M=.ok (vD (two o a b)) M:=by
 have c1:ev (af aq k) (.or (.cmp .ow (.v 1) (.k .ao)) (.cmp .ow (.v 2) (.k .ao))) [some (.str (eZ o)),some (vD a),some (vD b),none] M=.ok (.bl (bT (vD a)||bT (vD b))) M:=e_or (CO rfl) fun _=>CO rfl
 cases a with
 | none=>exact bx FW rfl (cU c1 rfl) (au rfl rfl)
 | some x=>cases b with
  | none=>exact bx FW rfl (cU c1 rfl) (au rfl rfl)
  | some y =>
   have hx:=dM (ha x rfl)
   have hy:=dM (hb y rfl)
   have z:ev (af aq k) (.cmp .eq (.v 0) (.k (.str (w "less")))) [some (.str (eZ o)), some (.int x), some (.int y), none] M=.ok (.bl (decide (eZ o=w "less"))) M:=sU rfl
   have fin:∀ {v:Int},great v=yV o x y->v=vU o x y->exs (af aq k) (.cons (.ifs (.cmp .gt (.nc .abs (.v 3)) (.op .sub true (.op .pow true (.k (.int 10)) (.k (.int 60))) (.k (.int 1)))) (.cons (.ret (.k .ao)) .nil) .nil) (.cons (.ret (.v 3)) .nil)) [some (.str (eZ o)),some (.int x),some (.int y),some (.int v)] M=.ok (.rt (vD (two o (some x) (some y)))) M:=fun {v} hg hv=>by
    have q:ev (af aq k) (.cmp .gt (.nc .abs (.v 3)) (.op .sub true (.op .pow true (.k (.int 10)) (.k (.int 60))) (.k (.int 1)))) [some (.str (eZ o)),some (.int x),some (.int y),some (.int v)] M=.ok (.bl (great v)) M :=
     oQ (CU rfl) (kW CT rfl) (decide_eq_decide.mpr (by omega))
    rw [hg] at q
    cases h:yV o x y with
    | true=>rw [h] at q;simp only [two,h,if_true];exact cU q rfl
    | false=>rw [h] at q;simp only [two,h,Bool.false_eq_true,if_false];rw [<- hv];exact (aL q).trans (bJ rfl)
   have ET:ev (af aq k) (.lst true (.cons (.op .add true (.v 1) (.v 2)) (.cons (.op .sub true (.v 1) (.v 2)) (.cons (.op .mul true (.v 1) (.v 2)) .nil)))) [some (.str (eZ o)),some (.int x),some (.int y),none] M=.ok (.lst [.int (x+y),.int (x-y),.int (x*y)]) M:=by
    rw [qA,av,fW (a:=x) (b:=y) (M1:=M) (M2:=M) rfl rfl,R.aa,av,kW (a:=x) (b:=y) (M1:=M) (M2:=M) rfl rfl,R.aa,av,sS (a:=x) (b:=y) (M1:=M) (M2:=M) rfl rfl hx hy,R.aa];rfl
   have s0:=aL (ss:=.cons (.ifs (.cmp .eq (.v 0) (.k (.str (w "less")))) (.cons (.ret (.nc .int (.cmp .lt (.v 1) (.v 2)))) .nil) .nil) (.cons (.set 3 (.idx (.lst true (.cons (.op .add true (.v 1) (.v 2)) (.cons (.op .sub true (.v 1) (.v 2)) (.cons (.op .mul true (.v 1) (.v 2)) .nil)))) (.A5 false (.lst true (.cons (.k (.str (w "plus"))) (.cons (.k (.str (w "minus"))) (.cons (.k (.str (w "times"))) .nil)))) (.cons (.v 0) .nil)))) (.cons (.ifs (.cmp .gt (.nc .abs (.v 3)) (.op .sub true (.op .pow true (.k (.int 10)) (.k (.int 60))) (.k (.int 1)))) (.cons (.ret (.k .ao)) .nil) .nil) (.cons (.ret (.v 3)) .nil)))) (a:=.cons (.ret (.k .ao)) .nil) c1
   refine bx FW rfl (d:=vD (two o (some x) (some y))) (M':=M) (s0.trans ?_) (au (by unfold two;split <;> first | rfl | (split <;> rfl)) rfl)
   cases o with
   | less =>
    refine cU (x:=.int (if x<y then 1 else 0)) z (bJ ?_)
    rw [mO,e_lt (M1:=M) (M2:=M) rfl rfl rfl,R.aa]
    by_cases h:x<y <;> simp [h,qu]
   | plus=>exact (aL z).trans ((aF (gU ET (mR (j:=0) rfl (by decide +kernel)) rfl)).trans (fin rfl rfl))
   | minus=>exact (aL z).trans ((aF (gU ET (mR (j:=1) rfl (by decide +kernel)) rfl)).trans (fin rfl rfl))
   | times=>exact (aL z).trans ((aF (gU ET (mR (j:=2) rfl (by decide +kernel)) rfl)).trans (fin rfl rfl))
end
end bO
end
section
namespace bO
open Fg PySem
noncomputable def KW (s:Src):E:=.AO (.comp true [] [0] (.idx (.v 0) (.k (.int 2))) s .none)
noncomputable def Jd:O:=.some (.neg (.k (.int 3)))
noncomputable def c1E:E:=.and (.cmp .gt (.v 3) (.k (.int 13))) (.and (.cmp .gt (.blt .len true (.cons (.v 1) .nil)) (.k (.int 2))) (.cmp .lt (KW (.e (.sl true (.v 1) Jd .none))) (.k (.int 10))))
noncomputable def rE (i j:Int):E:=.idx (.idx (.v 4) (.k (.int i))) (.k (.int j))
noncomputable def zu:E:=.idx (.idx (.v 4) (.op .add true (.k (.int 1)) (.nc .int (.cmp .eq (rE 0 1) (.k (.int 0)))))) (.k (.int 1))
noncomputable def Iw:E:=.tup (.cons (.tup (.cons (.k (.str (w "if"))) (.cons (rE 0 0) (.cons (rE 1 0) (.cons (rE 2 0) .nil))))) (.cons (.v 5) (.cons (.op .add true (.k (.int 1)) (KW (.e (.v 4)))) .nil)))
noncomputable def brA:Ss:=.cons (.set 4 (.sl true (.v 1) Jd .none)) (.cons (.set 1 (.sl false (.v 1) .none Jd)) (.cons (.set 5 (.k .ao)) (.cons (.ifs (.cmp .jF (rE 0 1) (.k .ao)) (.cons (.set 5 zu) .nil) .nil) (.cons (.ex (.bZ .append true (.v 1) (.cons Iw .nil))) .nil))))
noncomputable def GY (i:Int):E:=.idx (.idx (.v 1) (.neg (.k (.int i)))) (.k (.int 2))
noncomputable def c2E:E:=.and (.cmp .gt (.v 3) (.k (.int 5))) (.and (.cmp .gt (.blt .len true (.cons (.v 1) .nil)) (.k (.int 1))) (.cmp .lt (.mx true (GY 1) (GY 2)) (.k (.int 10))))
noncomputable def wE:E:=.idx (.lst true (.cons (.k (.str (w "plus"))) (.cons (.k (.str (w "minus"))) (.cons (.k (.str (w "times"))) (.cons (.k (.str (w "less"))) .nil))))) (.op .mod true (.v 3) (.k (.int 4)))
noncomputable def Iv:E:=.tup (.cons (.tup (.cons (.v 8) (.cons (.idx (.v 7) (.k (.int 0))) (.cons (.idx (.v 6) (.k (.int 0))) .nil)))) (.cons (.v 5) (.cons (.op .add true (.k (.int 1)) (.mx true (.idx (.v 7) (.k (.int 2))) (.idx (.v 6) (.k (.int 2))))) .nil)))
noncomputable def brB:Ss:=.cons (.set 6 (.bZ .pop true (.v 1) .nil)) (.cons (.set 7 (.bZ .pop true (.v 1) .nil)) (.cons (.set 8 wE) (.cons (.set 5 (.call 21 (.cons (.v 8) (.cons (.idx (.v 7) (.k (.int 1))) (.cons (.idx (.v 6) (.k (.int 1))) .nil))))) (.cons (.ex (.bZ .append true (.v 1) (.cons Iv .nil))) .nil))))
noncomputable def Iu:E:=.tup (.cons (.tup (.cons (.k (.str (w "number"))) (.cons (.call 20 (.cons (.v 2) .nil)) .nil))) (.cons (.call 20 (.cons (.v 2) .nil)) (.cons (.k (.int 0)) .nil)))
noncomputable def brC:Ss:=.cons (.ex (.bZ .append true (.v 1) (.cons Iu .nil))) .nil
noncomputable def gB:Ss:=.cons (.set 3 (.op .mod true (.call 19 (.cons (.v 2) .nil)) (.k (.int 16)))) (.cons (.ifs c1E brA (.cons (.ifs c2E brB brC) .nil)) .nil)
noncomputable def d7:E:=.tup (.cons (.tup (.cons (.k (.str (w "number"))) (.cons (.k (.int 7)) .nil))) (.cons (.k (.int 7)) (.cons (.k (.int 0)) .nil)))
noncomputable def rtE:E:=.idx (.op .add true (.v 1) (.lst true (.cons d7 .nil))) (.mx true (.k (.int 0)) (.op .sub true (.blt .len true (.cons (.v 1) .nil)) (.k (.int 1))))
theorem FQ:fm.body=.cons (.set 1 (.lst false .nil)) (.cons (.for [2] (.e (.v 0)) gB) (.cons (.ret rtE) .nil)):=rfl
noncomputable def mx3 (a b c:Int):Int:=[b,c].foldl (fun m a=>if m<a then a else m) a
noncomputable def mx2 (a b:Int):Int:=if b > a then b else a
theorem Jf {α:Type} {l:List α} (h:2<l.length):∃ q a b c,l=q++[a,b,c]:=by
 have hd:(l.drop (l.length-3)).length=3:=by rw [List.length_drop];omega
 refine ⟨l.take (l.length-3),?_⟩
 have e:=List.take_append_drop (l.length-3) l
 match hx:l.drop (l.length-3),hd with
 | [a,b,c],_=>exact ⟨a,b,c,by rw [<- hx,e]⟩
theorem Jg {α:Type} {l:List α} (h:1<l.length):∃ q a b,l=q++[a,b]:=by
 have hd:(l.drop (l.length-2)).length=2:=by rw [List.length_drop];omega
 refine ⟨l.take (l.length-2),?_⟩
 have e:=List.take_append_drop (l.length-2) l
 match hx:l.drop (l.length-2),hd with
 | [a,b],_=>exact ⟨a,b,by rw [<- hx,e]⟩
theorem Gs {α:Type} {q:List α} {a b c:α}:cg (q++[a,b,c]) (some (-3)) none=[a,b,c]/\cg (q++[a,b,c]) none (some (-3))=q:=by
 have h:six (q++[a,b,c]).length 0 (some (-3))=q.length/\six (q++[a,b,c]).length (q++[a,b,c]).length (some (-3))=q.length:=by
  simp only [six,List.length_append,List.length_cons,List.length_nil]
  rw [if_pos (by decide)]
  constructor <;> omega
 unfold cg
 rw [h.1,h.2]
 constructor
 ·rw [List.drop_left];simp [six]
 ·simp [six]
theorem yI {α:Type} {q:List α} {a b:α}:j8 (q++[a,b]) (-1)=some b/\j8 (q++[a,b]) (-2)=some a:=by
 have hl:(q++[a,b]).length=q.length+2:=by simp
 have h1:sr (q++[a,b]).length (-1)=some (q.length+1):=by
  simp only [sr,hl]
  rw [if_neg (by decide),if_pos (by omega)];congr 1;omega
 have h2:sr (q++[a,b]).length (-2)=some q.length:=by
  simp only [sr,hl]
  rw [if_neg (by decide),if_pos (by omega)];congr 1;omega
 unfold j8
 rw [h1,h2]
 simp
section
variable {M M1 M2 M0:MH} {k r:Nat} {Φ:bh} {σ:Sg} {e e':E} {rs q:List Rw} {a b c:Rw}
theorem e_sl {fz:Bool} {lo hi:O} {l h:Option Int} {ds:List D} {i:Nat} (hr:σ[i]? = some (some (.ref r))) (hM:M[r]? = some (.lst ds)) (h1:xY Φ lo σ M=.ok l M) (h2:xY Φ hi σ M=.ok h M):ev Φ (.sl fz (.v i) lo hi) σ M=bB fz (cg ds l h) M:=by
 rw [CK,e_v hr,R.aa,h1,R.aa,h2,R.aa]
 simp only [sl2,vw,hM]
theorem lc3 {ch:MH->Bool} (hc:ch M=true):bC (oM Φ .none) (ev Φ (.idx (.v 0) (.k (.int 2)))) [0] ch [a.D,b.D,c.D] [none] M []=.ok [.int a.d,.int b.d,.int c.d] M:=by
 have h:∀ (z:Rw) (x:Option D),ev Φ (.idx (.v 0) (.k (.int 2))) (([x]:Sg).set 0 (some z.D)) M=.ok (.int z.d) M:=fun _ _=>rfl
 exact (jI (acc:=[]) (h a none) hc (by decide)).trans ((jI (acc:=[.int a.d]) (h b (some a.D)) hc (show 1<line by decide)).trans ((jI (acc:=[.int a.d,.int b.d]) (h c (some b.D)) hc (show 2<line by decide)).trans rfl))
theorem CN {s:Src} {d:D} (hi:eO Φ s σ M=.ok (d,[a.D,b.D,c.D],false) M) (hs:aO M d M=true):ev Φ (KW s) σ M=.ok (.int (mx3 a.d b.d c.d)) M:=by
 unfold KW
 rw [Gf,sV hi (by exact lc3 hs),R.aa]
 rfl
theorem mQ (hr:σ[1]? = some (some (.ref r))) (hM:M[r]? = some (.lst (rs.map Rw.D))) {j:Int}:ev Φ (.cmp .gt (.blt .len true (.cons (.v 1) .nil)) (.k (.int j))) σ M=.ok (.bl (decide (j<(rs.length:Int)))) M :=
 oQ (e_len (e_v hr) hM) rfl (by rw [List.length_map])
theorem Kg {x:Int} (hr:σ[1]? = some (some (.ref r))) (h3:σ[3]? = some (some (.int x))) (hM:M[r]? = some (.lst (rs.map Rw.D))):∃ t,ev Φ c1E σ M=.ok (.bl t) M/\(t=true->∃ q a b c,rs=q++[a,b,c]):=by
 by_cases hl:2<rs.length
 ·obtain ⟨q,a,b,c,e⟩:=Jf hl
  refine ⟨_,iR (oQ (e_v h3) rfl rfl) fun _=>iR (mQ hr hM) fun _=>e_lt (CN (a:=a) (b:=b) (c:=c) (d:=.lst [a.D,b.D,c.D]) ?_ rfl) rfl rfl,fun _=>⟨q,a,b,c,e⟩⟩
  rw [x9,e_sl hr hM rfl rfl,e,List.map_append]
  simp only [bB,if_true,List.map_cons,List.map_nil,(Gs (q:=q.map Rw.D)).1,R.aa]
  rfl
 ·refine ⟨_,iR (oQ (e_v h3) rfl rfl) fun _=>iR (y:=true) (mQ hr hM) fun z=>absurd (of_decide_eq_true z) (by omega),fun z=>?_⟩
  simp only [Bool.and_eq_true,decide_eq_true_eq] at z
  exact absurd z.2.1 (by omega)
theorem Kf {x:Int} (hr:σ[1]? = some (some (.ref r))) (h3:σ[3]? = some (some (.int x))) (hM:M[r]? = some (.lst (rs.map Rw.D))):∃ t,ev Φ c2E σ M=.ok (.bl t) M/\(t=true->∃ q a b,rs=q++[a,b]):=by
 by_cases hl:1<rs.length
 ·obtain ⟨q,a,b,e⟩:=Jg hl
  have hM':=hM
  rw [e,List.map_append] at hM'
  have i1:ev Φ (GY 1) σ M=.ok (.int b.d) M:=aK (xs:=[b.p.d,vD b.v,.int b.d]) (yh (e_v hr) rfl hM' (yI (q:=q.map Rw.D) (a:=a.D) (b:=b.D)).1) rfl rfl
  have i2:ev Φ (GY 2) σ M=.ok (.int a.d) M:=aK (xs:=[a.p.d,vD a.v,.int a.d]) (yh (e_v hr) rfl hM' (yI (q:=q.map Rw.D) (a:=a.D) (b:=b.D)).2) rfl rfl
  have i3:ev Φ (.mx true (GY 1) (GY 2)) σ M=.ok (.int (mx2 b.d a.d)) M:=by rw [yb,i1,R.aa,i2,R.aa];rfl
  exact ⟨_,iR (oQ (e_v h3) rfl rfl) fun _=>iR (mQ hr hM) fun _=>e_lt i3 rfl rfl,fun _=>⟨q,a,b,e⟩⟩
 ·refine ⟨_,iR (oQ (e_v h3) rfl rfl) fun _=>iR (y:=true) (mQ hr hM) fun z=>absurd (of_decide_eq_true z) (by omega),fun z=>?_⟩
  simp only [Bool.and_eq_true,decide_eq_true_eq] at z
  exact absurd z.2.1 (by omega)
end
end bO
end
section
namespace bO
open Fg PySem
noncomputable def dZ:List Rw->Nat
 | []=>0
 | r::rs=>r.n+dZ rs
theorem cG:∀ (q s:List Rw),dZ (q++s)=dZ q+dZ s
 | [],s=>by simp [dZ]
 | r::q,s=>by simp [dZ,cG q s];omega
structure Pl (M0:MH) (r:Nat) (rs:List Rw) (M:MH):Prop where
 at_:M[r]? = some (.lst (rs.map Rw.D))
 lo:M0.length<=r
 old:M.take M0.length=M0
 ok:∀ z∈rs,z.ok
section
variable {M M1 M2 M0:MH} {k r:Nat} {Φ:bh} {σ:Sg} {rs q:List Rw} {a b c z:Rw}
theorem Pl.lt (h:Pl M0 r rs M):r<M.length:=(List.getElem?_eq_some_iff.mp h.at_).1
theorem take_set {n m:Nat} {x:MO} (h:m<=n):(M.set n x).take m=M.take m:=by
 rw [List.take_set];exact List.set_eq_of_length_le (by rw [List.length_take];omega)
theorem Pl.put (h:Pl M0 r q M) (hz:z.ok):Pl M0 r (q++[z]) (M.set r (.lst (q.map Rw.D++[z.D]))) :=
 ⟨by rw [rN h.at_,List.map_append];rfl,h.lo,by rw [take_set h.lo];exact h.old,fun y hy=>(List.mem_append.mp hy).elim (h.ok y) fun hy=>by rw [List.mem_singleton.mp hy];exact hz⟩
theorem Pl.cut (h:Pl M0 r (q++[z]) M):Pl M0 r q (M.set r (.lst (q.map Rw.D))) :=
 ⟨rN h.at_,h.lo,by rw [take_set h.lo];exact h.old,fun y hy=>h.ok y (List.mem_append_left _ hy)⟩
theorem Pl.new (h:Pl M0 r rs M) (hq:∀ z∈q,z.ok):Pl M0 M.length q (M++[.lst (q.map Rw.D)]):=by
 have hl:M0.length<=M.length:=Nat.le_trans h.lo (Nat.le_of_lt h.lt)
 exact ⟨by simp,hl,by rw [List.take_append_of_le_length hl];exact h.old,hq⟩
theorem qD {e:E} (hr:σ[1]? = some (some (.ref r))) (h:Pl M0 r q M) (hx:ev Φ e σ M=.ok z.D M) (hl:q.length<1000):ev Φ (.bZ .append true (.v 1) (.cons e .nil)) σ M=.ok .ao (M.set r (.lst (q.map Rw.D++[z.D]))) :=
 yi (e_v hr) h.at_ hx h.at_ (by rw [List.length_map];exact Nat.lt_of_lt_of_le hl (by decide))
noncomputable abbrev sg (L:D) (r:Nat) (c:Int) (x3 x4 x5 x6 x7 x8:Option D):Sg:=[some L,some (.ref r),some (.int c),x3,x4,x5,x6,x7,x8]
noncomputable def Left (Φ:bh) (ss:Ss) (L:D) (r:Nat) (c:Int) (x3 x4 x5 x6 x7 x8:Option D) (M0 M:MH) (rs:List Rw):Prop :=
 ∃ r' rs' M' y3 y4 y5 y6 y7 y8,exs Φ ss (sg L r c x3 x4 x5 x6 x7 x8) M=.ok (.nx (sg L r' c y3 y4 y5 y6 y7 y8)) M'/\Pl M0 r' rs' M'/\rs'.length<=rs.length+1/\dZ rs'<=dZ rs+2
theorem zA {e1 e2 e3:E} {x y z:D} (h1:ev Φ e1 σ M=.ok x M) (h2:ev Φ e2 σ M=.ok y M) (h3:ev Φ e3 σ M=.ok z M):ev Φ (.tup (.cons e1 (.cons e2 (.cons e3 .nil)))) σ M=.ok (.tup [x,y,z]) M:=by
 rw [qz,av,h1,R.aa,av,h2,R.aa,av,h3,R.aa];rfl
theorem go_C {L:D} {c:Int} {x3 x4 x5 x6 x7 x8:Option D} (h:Pl M0 r rs M) (hl:rs.length<1000):Left (af aq (k+2)) brC L r c x3 x4 x5 x6 x7 x8 M0 M rs:=by
 obtain ⟨i,hi,hc⟩:=yz c
 have e1:ev (af aq (k+2)) (.call 20 (.cons (.v 2) .nil)) (sg L r c x3 x4 x5 x6 x7 x8) M=.ok (.int i) M:=(cB (d:=.int c) rfl).trans (hc k M)
 have e2:ev (af aq (k+2)) Iu (sg L r c x3 x4 x5 x6 x7 x8) M=.ok (Rw.mk (.num i) (some i) 0 1).D M:=zA (by rw [qz,av,jT,R.aa,Bm e1];rfl) e1 rfl
 refine ⟨r,rs++[⟨.num i,some i,0,1⟩],_,x3,x4,x5,x6,x7,x8,(bM (qD rfl h e2 hl)).trans rfl,h.put (wG hi),by simp,?_⟩
 rw [cG];simp [dZ]
theorem Hr (h:z.ok):∀ i,z.v=some i->great i=false:=fun i hi=>by
 unfold Rw.ok at h;rw [hi] at h;exact h.1
noncomputable def HZ (n:Int):Rk:=if n=0 then .plus else if n=1 then .minus else if n=2 then .times else .less
theorem go_B {L:D} {c x:Int} {x4 x5 x6 x7 x8:Option D} (h:Pl M0 r (q++[a,b]) M) (hl:q.length<1000):Left (af aq (k+2)) brB L r c (some (.int x)) x4 x5 x6 x7 x8 M0 M (q++[a,b]):=by
 have h':Pl M0 r ((q++[a])++[b]) M:=by rw [List.append_assoc];exact h
 have p1:=h'.cut
 have p2':=p1.cut
 have ha:a.ok:=h.ok a (by simp)
 have hb:b.ok:=h.ok b (by simp)
 let o:=HZ (x % 4)
 let s1:Sg:=sg L r c (some (.int x)) x4 x5 (some b.D) x7 x8
 have e1:ev (af aq (k+2)) (.bZ .pop true (.v 1) .nil) (sg L r c (some (.int x)) x4 x5 x6 x7 x8) M=.ok b.D (M.set r (.lst ((q++[a]).map Rw.D))):=yg rfl (by rw [h'.at_,List.map_append];rfl)
 have e2:ev (af aq (k+2)) (.bZ .pop true (.v 1) .nil) s1 (M.set r (.lst ((q++[a]).map Rw.D)))=.ok a.D ((M.set r (.lst ((q++[a]).map Rw.D))).set r (.lst (q.map Rw.D))):=yg rfl (by rw [p1.at_,List.map_append];rfl)
 generalize (M.set r (.lst ((q++[a]).map Rw.D))).set r (.lst (q.map Rw.D))=N at e2 p2'
 let s2:Sg:=sg L r c (some (.int x)) x4 x5 (some b.D) (some a.D) x8
 have e3:ev (af aq (k+2)) wE s2 N=.ok (.str (eZ o)) N:=by
  refine gU (xs:=[.str (w "plus"), .str (w "minus"), .str (w "times"), .str (w "less")]) (j:=x % 4) rfl (kX rfl rfl (by decide)) ?_
  have h4:x % 4=0\/x % 4=1\/x % 4=2\/x % 4=3:=by omega
  show _=some (D.str (eZ (HZ (x % 4))))
  rcases h4 with h | h | h | h <;> rw [h] <;> rfl
 let s3:Sg:=sg L r c (some (.int x)) x4 x5 (some b.D) (some a.D) (some (.str (eZ o)))
 have e4:ev (af aq (k+2)) (.call 21 (.cons (.v 8) (.cons (.idx (.v 7) (.k (.int 1))) (.cons (.idx (.v 6) (.k (.int 1))) .nil)))) s3 N=.ok (vD (two o a.v b.v)) N:=by
  rw [cA,av,show ev (af aq (k+2)) (.v 8) s3 N=.ok (.str (eZ o)) N from rfl,R.aa,av,show ev (af aq (k+2)) (.idx (.v 7) (.k (.int 1))) s3 N=.ok (vD a.v) N from rfl,R.aa,av,show ev (af aq (k+2)) (.idx (.v 6) (.k (.int 1))) s3 N=.ok (vD b.v) N from rfl,R.aa]
  exact J8 (k:=k+1) (Hr ha) (Hr hb)
 let s4:Sg:=sg L r c (some (.int x)) x4 (some (vD (two o a.v b.v))) (some b.D) (some a.D) (some (.str (eZ o)))
 let z:Rw:=⟨.op (.rk o) (p2 a.p b.p),two o a.v b.v,1+mx2 a.d b.d,a.n+b.n+2⟩
 have e5:ev (af aq (k+2)) Iv s4 N=.ok z.D N:=by
  refine zA (x:=z.p.d) ?_ rfl (fW rfl ?_)
  ·simp only [z,Pt.d,p2,cQ.ds]
   exact zA rfl rfl rfl
  ·rw [yb,show ev (af aq (k+2)) (.idx (.v 7) (.k (.int 2))) s4 N=.ok (.int a.d) N from rfl,R.aa,show ev (af aq (k+2)) (.idx (.v 6) (.k (.int 2))) s4 N=.ok (.int b.d) N from rfl,R.aa];rfl
 refine ⟨r,q++[z],_,_,_,_,_,_,_,(aF e1).trans ((aF e2).trans ((aF e3).trans ((aF e4).trans ((bM (qD (σ:=s4) rfl p2' e5 hl)).trans rfl)))),p2'.put (EE ha hb),by simp,?_⟩
 rw [cG,cG]
 show dZ q+(a.n+b.n+2+0)<=dZ q+(a.n+(b.n+0))+2
 omega
theorem if_A {L:D} {c:Int} {x3 x6 x7 x8:Option D} {n:Nat} {N:MH} {d:Rw}:ex Φ (.ifs (.cmp .jF (rE 0 1) (.k .ao)) (.cons (.set 5 zu) .nil) .nil) (sg L n c x3 (some (.lst [a.D,b.D,d.D])) (some .ao) x6 x7 x8) N=.ok (.nx (sg L n c x3 (some (.lst [a.D,b.D,d.D])) (some (vD (pick a.v b.v d.v))) x6 x7 x8)) N:=by
 have q0:ev Φ (.cmp .jF (rE 0 1) (.k .ao)) (sg L n c x3 (some (.lst [a.D,b.D,d.D])) (some .ao) x6 x7 x8) N=.ok (.bl (!bT (vD a.v))) N:=rfl
 rw [mK,q0]
 cases hv:a.v with
 | none=>rfl
 | some i =>
  have q2:ev Φ (rE 0 1) (sg L n c x3 (some (.lst [a.D,b.D,d.D])) (some .ao) x6 x7 x8) N=.ok (.int i) N:=by rw [show D.int i=vD a.v by rw [hv];rfl];rfl
  have q3:ev Φ (.cmp .eq (rE 0 1) (.k (.int 0))) (sg L n c x3 (some (.lst [a.D,b.D,d.D])) (some .ao) x6 x7 x8) N=.ok (.bl (decide (i=0))) N:=by
   rw [b9,q2,R.aa,jT,R.aa]
   simp only [bH,yG,G6,top,cu,Fg.plain,dep,Bool.and_self,Nat.zero_le,decide_true,Bool.or_self,if_true,oO]
  have q1:ev Φ zu (sg L n c x3 (some (.lst [a.D,b.D,d.D])) (some .ao) x6 x7 x8) N=.ok (vD (pick (some i) b.v d.v)) N:=by
   unfold zu
   by_cases hi:i=0
   ·rw [decide_eq_true hi] at q3
    simp only [pick,if_pos hi]
    exact aK (xs:=[d.p.d,vD d.v,.int d.d]) (gU (xs:=[a.D,b.D,d.D]) (j:=1+1) rfl (fW rfl (by rw [mO,q3];rfl)) rfl) rfl rfl
   ·rw [decide_eq_false hi] at q3
    simp only [pick,if_neg hi]
    exact aK (xs:=[b.p.d,vD b.v,.int b.d]) (gU (xs:=[a.D,b.D,d.D]) (j:=1+0) rfl (fW rfl (by rw [mO,q3];rfl)) rfl) rfl rfl
  exact (aF q1).trans rfl
theorem go_A {L:D} {c:Int} {x3 x4 x5 x6 x7 x8:Option D} {d:Rw} (h:Pl M0 r (q++[a,b,d]) M) (hl:q.length<1000):Left Φ brA L r c x3 x4 x5 x6 x7 x8 M0 M (q++[a,b,d]):=by
 have ha:a.ok:=h.ok a (by simp)
 have hb:b.ok:=h.ok b (by simp)
 have hd:d.ok:=h.ok d (by simp)
 have hM:=h.at_
 rw [List.map_append] at hM
 have e1:ev Φ (.sl true (.v 1) Jd .none) (sg L r c x3 x4 x5 x6 x7 x8) M=.ok (.lst [a.D,b.D,d.D]) M:=by
  rw [e_sl (i:=1) (l:=some (-3)) (h:=none) rfl hM rfl rfl]
  simp only [bB,if_true,List.map_cons,List.map_nil,(Gs (q:=q.map Rw.D)).1]
 have e2:ev Φ (.sl false (.v 1) .none Jd) (sg L r c x3 (some (.lst [a.D,b.D,d.D])) x5 x6 x7 x8) M=.ok (.ref M.length) (M++[.lst (q.map Rw.D)]):=by
  rw [e_sl (i:=1) (l:=none) (h:=some (-3)) rfl hM rfl rfl]
  simp only [bB,Bool.false_eq_true,if_false,List.map_cons,List.map_nil,(Gs (q:=q.map Rw.D)).2]
 have p1:Pl M0 M.length q (M++[.lst (q.map Rw.D)]):=h.new fun y hy=>h.ok y (List.mem_append_left _ hy)
 generalize M++[.lst (q.map Rw.D)]=N at e2 p1
 generalize hn:M.length=n at e2 p1
 let s5:Sg:=sg L n c x3 (some (.lst [a.D,b.D,d.D])) (some (vD (pick a.v b.v d.v))) x6 x7 x8
 let z:Rw:=⟨.ite a.p b.p d.p,pick a.v b.v d.v,1+mx3 a.d b.d d.d,a.n+b.n+d.n+2⟩
 have e6:ev Φ Iw s5 N=.ok z.D N:=by
  refine zA (x:=z.p.d) ?_ rfl (fW rfl (CN (d:=.lst [a.D,b.D,d.D]) rfl rfl))
  simp only [z,Pt.d]
  rfl
 refine ⟨n,q++[z],_,_,_,_,_,_,_,(aF e1).trans ((aF e2).trans ((aF (x:=.ao) rfl).trans ((gE if_A).trans ((bM (qD (σ:=s5) rfl p1 e6 hl)).trans rfl)))),p1.put (EG ha hb hd),by simp,?_⟩
 rw [cG,cG]
 show dZ q+(a.n+b.n+d.n+2+0)<=dZ q+(a.n+(b.n+(d.n+0)))+2
 omega
theorem Ht {L:D} {c:Int} {x3 x4 x5 x6 x7 x8:Option D} (h:Pl M0 r rs M) (hl:rs.length<1000):Left (af aq (k+2)) gB L r c x3 x4 x5 x6 x7 x8 M0 M rs:=by
 have e0:ev (af aq (k+2)) (.op .mod true (.call 19 (.cons (.v 2) .nil)) (.k (.int 16))) (sg L r c x3 x4 x5 x6 x7 x8) M=.ok (.int (mixed c % 16)) M:=kX ((cB (d:=.int c) rfl).trans (tM (k:=k+1))) rfl (by decide)
 let s0:Sg:=sg L r c (some (.int (mixed c % 16))) x4 x5 x6 x7 x8
 obtain ⟨t1,h1,k1⟩:=Kg (Φ:=af aq (k+2)) (σ:=s0) (x:=mixed c % 16) rfl rfl h.at_
 cases t1 with
 | true =>
  obtain ⟨q,a,b,d,rfl⟩:=k1 rfl
  obtain ⟨r',rs',M',y3,y4,y5,y6,y7,y8,e,p,l1,l2⟩:=go_A (Φ:=af aq (k+2)) (L:=L) (c:=c) (x3:=some (.int (mixed c % 16))) (x4:=x4) (x5:=x5) (x6:=x6) (x7:=x7) (x8:=x8) h (by simp at hl;omega)
  exact ⟨r',rs',M',y3,y4,y5,y6,y7,y8,(aF e0).trans ((nO h1 e).trans rfl),p,l1,l2⟩
 | false =>
  obtain ⟨t2,h2,k2⟩:=Kf (Φ:=af aq (k+2)) (σ:=s0) (x:=mixed c % 16) rfl rfl h.at_
  cases t2 with
  | true =>
   obtain ⟨q,a,b,rfl⟩:=k2 rfl
   obtain ⟨r',rs',M',y3,y4,y5,y6,y7,y8,e,p,l1,l2⟩:=go_B (k:=k) (L:=L) (c:=c) (x:=mixed c % 16) (x4:=x4) (x5:=x5) (x6:=x6) (x7:=x7) (x8:=x8) h (by simp at hl;omega)
   exact ⟨r',rs',M',y3,y4,y5,y6,y7,y8,(aF e0).trans ((ie h1 ((nO h2 e).trans rfl)).trans rfl),p,l1,l2⟩
  | false =>
   obtain ⟨r',rs',M',y3,y4,y5,y6,y7,y8,e,p,l1,l2⟩:=go_C (k:=k) (L:=L) (c:=c) (x3:=some (.int (mixed c % 16))) (x4:=x4) (x5:=x5) (x6:=x6) (x7:=x7) (x8:=x8) h hl
   exact ⟨r',rs',M',y3,y4,y5,y6,y7,y8,(aF e0).trans ((ie h1 ((ie h2 e).trans rfl)).trans rfl),p,l1,l2⟩
end
end bO
end
section
namespace bO
open Fg PySem
section
variable {M M1 M2 M0:MH} {k r:Nat} {Φ:bh} {σ:Sg} {rs q:List Rw} {a b c z:Rw}
noncomputable abbrev sy (L:D) (r:Nat) (x2 x3 x4 x5 x6 x7 x8:Option D):Sg:=[some L,some (.ref r),x2,x3,x4,x5,x6,x7,x8]
theorem Cy {L:D} {ch:MH->Bool} (hc:∀ M,ch M=true):∀ (cs:List Int) (rs:List Rw) (r:Nat) (M:MH) (x2 x3 x4 x5 x6 x7 x8:Option D),Pl M0 r rs M->rs.length+cs.length<1000 ->
  ∃ r' rs' M' y2 y3 y4 y5 y6 y7 y8,cj (exs (af aq (k+2)) gB) [2] ch (cs.map D.int) (sy L r x2 x3 x4 x5 x6 x7 x8) M=.ok (.nx (sy L r' y2 y3 y4 y5 y6 y7 y8)) M'/\Pl M0 r' rs' M'/\rs'.length<=rs.length+cs.length/\dZ rs'<=dZ rs+2*cs.length
 | [],rs,r,M,x2,x3,x4,x5,x6,x7,x8,h,hl=>⟨r,rs,M,x2,x3,x4,x5,x6,x7,x8,rfl,h,by simp,by simp⟩
 | c::cs,rs,r,M,x2,x3,x4,x5,x6,x7,x8,h,hl=>by
  simp only [List.length_cons] at hl
  obtain ⟨r1,rs1,M1,y3,y4,y5,y6,y7,y8,e,p,l1,l2⟩:=Ht (k:=k) (L:=L) (c:=c) (x3:=x3) (x4:=x4) (x5:=x5) (x6:=x6) (x7:=x7) (x8:=x8) h (by omega)
  obtain ⟨r2,rs2,M2,z2,z3,z4,z5,z6,z7,z8,e',p',l3,l4⟩:=Cy (L:=L) hc cs rs1 r1 M1 (some (.int c)) y3 y4 y5 y6 y7 y8 p (by omega)
  refine ⟨r2,rs2,M2,z2,z3,z4,z5,z6,z7,z8,?_,p',by simp only [List.length_cons];omega,by simp only [List.length_cons];omega⟩
  rw [List.map_cons,cj]
  show (exs (af aq (k+2)) gB (sg L r c x3 x4 x5 x6 x7 x8) M).bind _=_
  rw [e,R.aa]
  show (if ch M1 then _ else _)=_
  rw [hc,if_pos rfl]
  exact e'
noncomputable def r7:Rw:=⟨.num 7,some 7,0,1⟩
theorem Ir:r7.ok:=wG (gH (n:=1) (by decide) (by decide))
theorem e_rt (hr:σ[1]? = some (some (.ref r))) (h:Pl M0 r rs M) (hl:rs.length<1000):∃ z:Rw,ev Φ rtE σ M=.ok z.D M/\z.ok/\z.n<=dZ rs+1:=by
 have e1:ev Φ (.op .add true (.v 1) (.lst true (.cons d7 .nil))) σ M=.ok (.lst (rs.map Rw.D++[r7.D])) M:=by
  rw [iP,e_v hr,R.aa,show ev Φ (.lst true (.cons d7 .nil)) σ M=.ok (.lst [r7.D]) M from rfl,R.aa]
  simp only [m9,vw,h.at_,List.length_map,List.length_cons,List.length_nil]
  rw [if_pos (decide_eq_true (by have:line=1000000:=rfl;omega))]
  rfl
 have e2:ev Φ (.mx true (.k (.int 0)) (.op .sub true (.blt .len true (.cons (.v 1) .nil)) (.k (.int 1)))) σ M=.ok (.int (if ((rs.length:Int)-1) > 0 then (rs.length:Int)-1 else 0)) M:=by
  rw [yb,jT,R.aa,kW (e_len (e_v hr) h.at_) rfl,R.aa,List.length_map];rfl
 by_cases hn:rs=[]
 ·subst hn
  exact ⟨r7,gU e1 e2 rfl,Ir,by simp [dZ,r7]⟩
 ·obtain ⟨q,z,rfl⟩:∃ q z,rs=q++[z]:=⟨rs.dropLast,rs.getLast hn,(List.dropLast_concat_getLast hn).symm⟩
  refine ⟨z,gU e1 e2 ?_,h.ok z (by simp),by rw [cG];simp only [dZ];omega⟩
  have hq:(if (((q++[z]).length:Int)-1) > 0 then ((q++[z]).length:Int)-1 else 0)=(q.length:Int):=by
   simp only [List.length_append,List.length_cons,List.length_nil]
   split <;> omega
  rw [hq]
  unfold j8
  have:sr ((q++[z]).map Rw.D++[r7.D]).length (q.length:Int)=some q.length:=by
   simp only [sr,List.length_append,List.length_map,List.length_cons,List.length_nil]
   rw [if_pos (by omega),if_pos (by omega)];rfl
  rw [this,Option.bind_some,List.map_append,List.append_assoc,List.getElem?_append_right (by simp)]
  simp
theorem EK {m:Nat} {z:Rw}:Fg.nr m z.D=true:=by
 simp only [Rw.D,Fg.nr,e8,Pt.nr,Bool.and_true,Bool.true_and]
 cases z.v <;> rfl
theorem BH {cs:List Int} (hl:cs.length<=60):∃ z:Rw,(af aq (k+3)).call 22 [.lst (cs.map D.int)] M0=.ok z.D M0/\z.ok/\z.n<=200:=by
 let L:D:=.lst (cs.map D.int)
 have e1:ev (af aq (k+2)) (.lst false .nil) [some L,none,none,none,none,none,none,none,none] M0=.ok (.ref M0.length) (M0++[.lst []]):=rfl
 have p0:Pl M0 M0.length [] (M0++[.lst []]):=⟨by simp,Nat.le_refl _,by simp,fun z hz=>by cases hz⟩
 obtain ⟨r,rs,M',y2,y3,y4,y5,y6,y7,y8,e,p,l1,l2⟩:=Cy (k:=k) (L:=L) (ch:=aO (M0++[.lst []]) L) (fun _=>rfl) cs [] M0.length _ none none none none none none none p0 (by simp;omega)
 obtain ⟨z,e3,hz,hn⟩:=e_rt (Φ:=af aq (k+2)) (σ:=sy L r y2 y3 y4 y5 y6 y7 y8) rfl p (by simp at l1;omega)
 refine ⟨z,?_,hz,by simp only [dZ] at l2;omega⟩
 exact bx fn22 rfl (by rw [FQ];exact (aF e1).trans ((Cc (d:=L) (ds:=cs.map D.int) rfl e).trans (bJ e3))) (nV EK p.old)
theorem vm {i:Int}:(af aq (k+1)).call 8 [.int i] M=.ok (.int i) M :=
 bx fn8 rfl (cU (x:=.int i) (M1:=M) (M2:=M) rfl rfl) (au rfl rfl)
noncomputable def fdOf (p:Pt):Fd:=⟨w "main", [], .num, p⟩
theorem DI {z:Rw} (hz:z.ok) (hn:z.n<=200):(af aq (k+7)).call 10 [.lst ([fdOf z.p].map Fd.d),.lst [],.int 200] M0=match z.v with | some i=>.ok (.int i) M0 | none=>.exc 2 M0:=by
 have hf:[fdOf z.p].find? (fun g=>decide (g.nm=w "main"))=some (fdOf z.p):=rfl
 unfold Rw.ok at hz
 cases hv:z.v with
 | none =>
  rw [hv] at hz
  obtain ⟨n,h1,h2⟩:=hz [fdOf z.p] 200 (envOf [] [] []) 0 0
  exact yy (f:=fdOf z.p) hf (show 0<=1000 by decide) h2 (by omega)
 | some i =>
  rw [hv] at hz
  obtain ⟨n,h1,h2⟩:=hz.2 [fdOf z.p] 200 (envOf [] [] []) 0 0
  obtain ⟨T,h3⟩:=BG (k:=k) (M0:=M0) (f:=fdOf z.p) (nu:=[]) hf (show 0<=1000 by decide) h2 (by omega)
  rw [h3 (.int i) [] (by rw [List.append_nil];exact vm (k:=k+5))]
  exact nV rfl vn
theorem yp {α β:Type} {f:α->β} {l:List α} {x y:Option Int}:cg (l.map f) x y=(cg l x y).map f:=by
 simp only [cg,List.length_map,List.map_take,List.map_drop]
theorem BA {l:List Int}:(cg l (some 1) (some 51)).length<=60:=by
 simp only [cg,List.length_take,List.length_drop,six]
 rw [if_neg (by decide),if_neg (by decide)]
 show min (min 51 l.length-min 1 l.length) _<=60
 omega
noncomputable def lw3:Ss:=.cons (.ifs (.cmp .ow (.v 2) (.k .ao)) (.cons (.ret (.cmp .eq (.v 5) (.lst true (.cons (.k (.bl true)) (.cons (.k (.bl false)) (.cons (.k (.bl false)) (.cons (.k (.bl false)) .nil))))))) .nil) .nil) (.cons (.ret (.and (.cmp .eq (.v 5) (.lst true .nil)) (.and (.xx (.v 4) .int) (.and (.not (.xx (.v 4) .bool)) (.cmp .eq (.v 4) (.v 2)))))) .nil)
noncomputable def tU:S:=.try (.cons (.set 4 (.iU 10 (.cons (.v 3) (.cons (.lst true .nil) .nil)) 200)) .nil) (.as 0 6 (.cons (.set 5 (.lst true (.cons (.jL (.v 6) (some 2)) (.cons (.jL (.v 6) (some 3)) (.cons (.jL (.v 6) (some 4)) (.cons (.jL (.v 6) (some 5)) .nil)))))) .nil) .nil) .nil
theorem AR:xU.body=.cons (.zw [1, 2] (.sl true (.call 22 (.cons (.sl true (.v 0) (.some (.k (.int 1))) (.some (.k (.int 51)))) .nil)) .none (.some (.k (.int 2))))) (.cons (.set 3 (.lst true (.cons (.tup (.cons (.k (.str (w "main"))) (.cons (.lst true .nil) (.cons (.tup (.cons (.k (.str (w "num"))) .nil)) (.cons (.v 1) .nil))))) .nil))) (.cons (.set 4 (.k .ao)) (.cons (.set 5 (.lst true .nil)) (.cons tU lw3)))):=rfl
theorem wX {k:Nat} (ns:List Int) (_:ns.length<=63):∃ M',(af aq (k+8)).call 23 [.lst (ns.map .int)] []=.ok (.bl true) M':=by
 obtain ⟨z,e1,hz,hn⟩:=BH (k:=k+4) (M0:=[]) (cs:=cg ns (some 1) (some 51)) BA
 let Φ:=af aq (k+7)
 let L:D:=.lst (ns.map .int)
 have e2:ev Φ (.sl true (.call 22 (.cons (.sl true (.v 0) (.some (.k (.int 1))) (.some (.k (.int 51)))) .nil)) .none (.some (.k (.int 2)))) [some L,none,none,none,none,none,none] []=.ok (.tup [z.p.d,vD z.v]) []:=by
  have q1:ev Φ (.sl true (.v 0) (.some (.k (.int 1))) (.some (.k (.int 51)))) [some L,none,none,none,none,none,none] []=.ok (.lst ((cg ns (some 1) (some 51)).map D.int)) []:=by
   rw [<- yp];rfl
  rw [CK,cB q1]
  show ((af aq (k+7)).call 22 _ []).bind _=_
  rw [e1]
  rfl
 let P:D:=.lst ([fdOf z.p].map Fd.d)
 let s0:Sg:=[some L,some z.p.d,some (vD z.v),some P,some .ao,some (.lst []),none]
 have e3:ev Φ (.lst true (.cons (.tup (.cons (.k (.str (w "main"))) (.cons (.lst true .nil) (.cons (.tup (.cons (.k (.str (w "num"))) .nil)) (.cons (.v 1) .nil))))) .nil)) [some L, some z.p.d, some (vD z.v), none, none, none, none] []=.ok P []:=rfl
 have e4:ev Φ (.iU 10 (.cons (.v 3) (.cons (.lst true .nil) .nil)) 200) s0 []=(match z.v with | some i=>.ok (.int i) [] | none=>.exc 2 []):=by
  rw [<- DI (k:=k) (M0:=[]) hz hn];rfl
 have e5:ex Φ (.zw [1,2] (.sl true (.call 22 (.cons (.sl true (.v 0) (.some (.k (.int 1))) (.some (.k (.int 51)))) .nil)) .none (.some (.k (.int 2))))) [some L,none,none,none,none,none,none] []=.ok (.nx [some L,some z.p.d,some (vD z.v),none,none,none,none]) []:=by
  rw [F9,e2];rfl
 have fin:exs Φ (.cons tU lw3) s0 []=.ok (.rt (.bl true)) []:=by
  cases hv:z.v with
  | none =>
   rw [hv] at e4
   have q:ex Φ tU s0 []=.ok (.nx [some L,some z.p.d,some (vD z.v),some P,some .ao,some (.lst [.bl true,.bl false,.bl false,.bl false]),none]) []:=by
    unfold tU
    rw [xW,DE e4,R.aa]
    show sJ Φ _ 2 s0 []=_
    rw [F7,if_pos (by rw [ly];decide)]
    have i:∀ (c:Nat) (t:Bool),aq.sub 2 c=t->ev Φ (.jL (.v 6) (some c)) (s0.set 6 (some (.iY 2))) []=.ok (.bl t) []:=fun c t h=>by
     show R.ok (D.bl (Φ.sub 2 c)) []=_
     rw [ly,h]
    rw [aF (x:=.lst [.bl true,.bl false,.bl false,.bl false]) (M1:=[]) (by rw [qA,av,i 2 true (by decide),R.aa,av,i 3 false (by decide),R.aa,av,i 4 false (by decide),R.aa,av,i 5 false (by decide),R.aa];rfl)]
    rfl
   rw [gE q,hv]
   exact cU (x:=.bl true) (M1:=[]) (M2:=[]) rfl (bJ (by
    rw [b9]
    simp [bB,bH,yG,G6,top,cu,Fg.plain,cI,dep,deps]))
  | some i =>
   rw [hv] at e4
   have q:ex Φ tU s0 []=.ok (.nx [some L,some z.p.d,some (vD z.v),some P,some (.int i),some (.lst []),none]) []:=by
    unfold tU
    rw [xW,aF e4]
    rfl
   rw [gE q,hv]
   refine (aL (M1:=[]) rfl).trans (bJ ?_)
   rw [ye]
   simp [bB,bH,yG,G6,top,cu,Fg.plain,cI,dep,deps,CD,vD]
 exact ⟨[],bx fn23 rfl (by rw [AR];exact (gE e5).trans ((aF e3).trans ((aF (x:=.ao) rfl).trans ((aF (x:=.lst []) rfl).trans fin)))) (au rfl rfl)⟩
end
end bO
end
section
namespace bO
open Fg PySem PySem.Spec L2
theorem Hv:tb.ok tb.gm aq=true:=by decide +kernel
theorem J6 {d:DefRec} (hd:d.params.defaults=[]) (hx:d.name=("law" : Str)) {XP:(Str->Option Value)->Heap->Prop}:W.WalkO FO hdL XP (tb.hook aq).says PySem.Challenge.rw_fieldgate_k11_plain_numbers.row.toRowW d [] (fun f vs=>PySem.call f vs) :=
 tb.walk aq (l:=PySem.Challenge.rw_fieldgate_k11_plain_numbers) (r:=tb.fn[15]'(by decide)) (x:="_law_script") 7 rfl hd ⟨fun _=>rfl, by decide, by decide⟩ Hv (List.getElem_mem _) hx rfl rfl fun ns h=>wX (k:=0) ns h
end bO
end
section
open PySem PySem.W PyProof.Rows
set_option maxRecDepth 100000 in
set_option maxHeartbeats 0 in
theorem PySem.Challenge.cw_fieldgate_k11_plain_numbers_holds : PySem.Challenge.rw_fieldgate_k11_plain_numbers.Holds := by
 w_on
 refine holds_law (by decide +kernel) fun said => ?_
 refine holds_open (XP := XL bO.FO []) bO.lft (bO.tb.hook bO.aq).of (bO.tb.hook bO.aq).keeps
  (fun s e => xl_of s (Bool.and_eq_true_iff.mp e).1) XL.keeps (by rfl) (by rfl) (by rfl)
  (fun s e => recFacts_of (Bool.and_eq_true_iff.mp e).2) (by rfl) said (by decide +kernel)
  ⟨rfl,rfl,rfl,rfl,rfl,by decide +kernel⟩ ?hw (bO.J6 rfl rfl)
 w_witness2
end
