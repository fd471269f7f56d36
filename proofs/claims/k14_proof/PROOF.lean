import PyProof.Rows.All
import KE.KDictOf
import KE.KFromBytes
import KE.KIsAll
import KE.KItemsList
import KE.KRevIter
import KE.KStateDown
import PySem.Challenge.RW_fieldgate_k14_plain_refusals
set_option maxRecDepth 100000
set_option linter.all false
set_option Elab.async false
section
namespace L2
open PySem
noncomputable def inClass(s:Stmt)(j:Nat):Stmt:=match s with
 | .ClassDef _ _ _ body _ _ _ _ _ _ _=>body.getD j (.Pass ⟨0,0,0,0⟩)
 | _=>.Pass ⟨0,0,0,0⟩
noncomputable def iF(s:Stmt):Arguments:=match s with
 | .FunctionDef _ a _ _ _ _ _ _ _ _=>a
 | _=>{ posonlyargs:=[],args:=[],vararg:=none,kwonlyargs:=[],kw_defaults:=[],kwarg:=none,defaults:=[] }
noncomputable def bZ(s:Stmt):List Stmt:=match s with
 | .FunctionDef _ _ b _ _ _ _ _ _ _=>b
 | _=>[]
noncomputable def aC(s:Stmt):Scope:=match s with
 | .FunctionDef _ _ _ _ _ _ sc _ _ _=>sc
 | _=>{ kind:=.function,names:=[],isGenerator:=false,isCoroutine:=false }
end L2
end
section
namespace Fg
open PySem
abbrev Ky:=Sum Int Str
inductive D where
 | aq
 | bl (b:Bool)
 | int (i:Int)
 | str (x:Str)
 | tup (ds:List D)
 | lst (ds:List D)
 | dct (ks:List Ky) (ds:List D)
 | ref (n:Nat)
 | g7 (c:Nat)
mutual
def same(a b:D):Bool:=match a with
 | .aq=>match b with | .aq=>true | _=>false
 | .bl x=>match b with | .bl y=>decide (x=y) | _=>false
 | .int x=>match b with | .int y=>decide (x=y) | _=>false
 | .str x=>match b with | .str y=>decide (x=y) | _=>false
 | .tup x=>match b with | .tup y=>fG x y | _=>false
 | .lst x=>match b with | .lst y=>fG x y | _=>false
 | .dct k x=>match b with | .dct l y=>decide (k=l)&&fG x y | _=>false
 | .ref x=>match b with | .ref y=>decide (x=y) | _=>false
 | .g7 x=>match b with | .g7 y=>decide (x=y) | _=>false
def fG(a b:List D):Bool:=match a with
 | []=>match b with | []=>true | _=>false
 | x::xs=>match b with | y::ys=>same x y&&fG xs ys | _=>false
end
mutual
theorem tR:∀(a b:D),same a b=true->a=b
 | .aq,b,h=>by cases b <;> simp[same] at h ⊢
 | .bl x,b,h=>by cases b <;> simp[same] at h ⊢;exact h
 | .int x,b,h=>by cases b <;> simp[same] at h ⊢;exact h
 | .str x,b,h=>by cases b <;> simp[same] at h ⊢;exact h
 | .tup x,b,h=>by cases b <;> simp[same] at h ⊢;exact ic _ _ h
 | .lst x,b,h=>by cases b <;> simp[same] at h ⊢;exact ic _ _ h
 | .dct k x,b,h=>by cases b <;> simp[same] at h ⊢;exact⟨h.1,ic _ _ h.2⟩
 | .ref x,b,h=>by cases b <;> simp[same] at h ⊢;exact h
 | .g7 x,b,h=>by cases b <;> simp[same] at h ⊢;exact h
theorem ic:∀(a b:List D),fG a b=true->a=b
 | [],b,h=>by cases b <;> simp[fG] at h ⊢
 | x::xs,b,h=>by
  cases b with
  | nil=>simp[fG] at h
  | cons y ys=>simp only[fG,Bool.and_eq_true] at h;rw[tR x y h.1,ic xs ys h.2]
end
mutual
theorem same_refl:∀(a:D),same a a=true
 | .aq=>by simp[same]
 | .bl x=>by simp[same]
 | .int x=>by simp[same]
 | .str x=>by simp[same]
 | .tup x=>by simp only[same];exact eE x
 | .lst x=>by simp only[same];exact eE x
 | .dct k x=>by simp only[same,eE x];simp
 | .ref x=>by simp[same]
 | .g7 x=>by simp[same]
theorem eE:∀(a:List D),fG a a=true
 | []=>by simp[fG]
 | x::xs=>by simp only[fG,same_refl x,eE xs,Bool.and_self]
end
instance:DecidableEq D:=fun a b=>decidable_of_iff (same a b=true) ⟨tR a b,fun h=>h ▸ same_refl a⟩
inductive MO where
 | lst (ds:List D)
 | dct (kvs:List (Ky×D))
 | ou (kvs:List (Ky×D))
 | ins (c:Nat) (fs:List (Str×D))
 deriving DecidableEq
noncomputable abbrev MH:=List MO
noncomputable abbrev Sg:=List (Option D)
inductive R(α:Type) where
 | ok (a:α) (M:MH)
 | exc (c:Nat) (M:MH)
 | bad
noncomputable def R.bind{α β:Type}(x:R α)(f:α->MH->R β):R β :=
 match x with
 | .ok a M=>f a M
 | .exc c M=>.exc c M
 | .bad=>.bad
@[simp] theorem R.af{α β:Type}(a:α)(M:MH)(f:α->MH->R β):(R.ok a M).bind f=f a M:=rfl
@[simp] theorem R.d9{α β:Type}(c:Nat)(M:MH)(f:α->MH->R β):(R.exc c M:R α).bind f=.exc c M:=rfl
@[simp] theorem R.ef{α β:Type}(f:α->MH->R β):(R.bad:R α).bind f=.bad:=rfl
inductive DR where
 | add | sub | mul | fdiv | mod | pow
inductive AS where
 | eq | ne | lt | le | gt | ge | isin | pq | A2 | kX
inductive Ty where
 | int | str | bool | list | tuple | dict
inductive Bl where
 | len | sum | tuple | list | dict | str | int | abs | max | min | sorted | all | any | repr
inductive Mt where
 | append | extend | pop | reverse | clear | get | join | startswith | replace | split | index | count
inductive F1 where
 | abs | int
mutual
inductive E where
 | v (i:Nat)
 | k (d:D)
 | g (i:Nat)
 | tup (es:Es)
 | lst (fz:Bool) (es:Es)
 | Jd
 | op (o:DR) (fz:Bool) (a b:E)
 | neg (a:E)
 | cmp (o:AS) (a b:E)
 | chain (o o':AS) (a b c:E)
 | and (a b:E)
 | or (a b:E)
 | not (a:E)
 | tru (a:E)
 | CW (c a b:E)
 | idx (a b:E)
 | sl (fz:Bool) (a:E) (lo hi:O)
 | call (f:Nat) (es:Es)
 | CV (a:E) (t:Ty)
 | blt (b:Bl) (fz:Bool) (es:Es)
 | eU (m:Mt) (fz:Bool) (a:E) (es:Es)
 | comp (fz:Bool) (caps:List Nat) (tg:List Nat) (elt:E) (it:Src) (cond:O)
 | fld (a:E) (f:Str)
 | cZ (c m:Nat) (nm:Str) (a:E) (es:Es)
 | new (c i:Nat) (es:Es)
 | mx (hi:Bool) (a b:E)
 | Nj (fz:Bool) (a b:E)
 | Nk (fz:Bool) (a:E)
 | rv (fz:Bool) (a:E)
 | all1 (a:E)
 | qu (f:F1) (a:E)
 | u6 (f:Nat) (es:Es) (d:Int)
 | iH (f:Nat) (es:Es) (e:E)
 | EK (fz:Bool) (a b:E)
 | dz (a b:E)
 | jh (a:E) (c:Option Nat)
 | Ii (ct:Bool) (a:E) (es:Es)
 | Ni (a:E)
 | bad
inductive Es where
 | nil
 | cons (e:E) (es:Es)
inductive O where
 | none
 | some (e:E)
inductive Src where
 | e (a:E)
 | Ek (a:E)
 | fj (a b:E)
 | enum (a:E)
 | AZ (a:E)
 | rev (a:E)
 | zip (a b:E)
 | Gg (a b:E)
end
mutual
inductive S where
 | set (i:Nat) (e:E)
 | vD (a b e:E)
 | eB (a:E) (f:Str) (e:E)
 | MU (tg:List Nat) (e:E)
 | ex (e:E)
 | ret (e:E)
 | Gj
 | ifs (c:E) (a b:Ss)
 | for (tg:List Nat) (it:Src) (b:Ss)
 | while (c:E) (b:Ss)
 | brk
 | cont
 | pass
 | raise (c:Nat) (es:Es)
 | try (b:Ss) (hs:Hs) (els:Ss)
 | bad
inductive Ss where
 | nil
 | cons (s:S) (ss:Ss)
inductive Hs where
 | nil
 | cons (cs:List Nat) (b:Ss) (hs:Hs)
 | as (c i:Nat) (b:Ss) (hs:Hs)
end
inductive Out where
 | nx (σ:Sg)
 | rt (d:D)
 | bk (σ:Sg)
 | ct (σ:Sg)
 | xc (c:Nat) (σ:Sg)
noncomputable def R.use{α:Type}(x:R α)(σ:Sg)(f:α->MH->R Out):R Out :=
 match x with
 | .ok a M=>f a M
 | .exc c M=>.ok (.xc c σ) M
 | .bad=>.bad
@[simp] theorem R.gH{α:Type}(a:α)(M:MH)(σ:Sg)(f:α->MH->R Out):(R.ok a M).use σ f=f a M:=rfl
@[simp] theorem R.mR{α:Type}(c:Nat)(M:MH)(σ:Sg)(f:α->MH->R Out):(R.exc c M:R α).use σ f=.ok (.xc c σ) M:=rfl
@[simp] theorem R.MT{α:Type}(σ:Sg)(f:α->MH->R Out):(R.bad:R α).use σ f=.bad:=rfl
inductive Vw where
 | tup (ds:List D)
 | lst (ds:List D)
 | dct (kvs:List (Ky×D))
 | none
noncomputable def vw(M:MH):D->Vw
 | .tup ds=>.tup ds
 | .lst ds=>.lst ds
 | .dct ks ds=>.dct (ks.zip ds)
 | .ref n=>match M[n]? with
  | some (.lst ds)=>.lst ds
  | some (.dct kvs)=>.dct kvs
  | some (.ou kvs)=>.dct kvs
  | _=>.none
 | _=>.none
noncomputable def line:Nat:=1000000
noncomputable def small(i:Int):Bool:=decide (i.natAbs<18446744073709551616)
noncomputable def mid(i:Int):Bool:=decide (i.natAbs<10 ^ 200)
noncomputable def fH:DR->Int->Int->Option Int
 | .add,i,j=>some (i+j)
 | .sub,i,j=>some (i-j)
 | .mul,i,j=>if small i||small j then some (i*j) else if mid i&&mid j then some (i*j) else none
 | .fdiv,i,j=>if decide (0<j)&&decide (j.natAbs<1073741824) then some (i / j) else none
 | .mod,i,j=>if decide (0<j) then some (i % j) else none
 | .pow,i,j=>if decide (0<=j)&&(decide (j<=1000000)&&decide (i.natAbs<18446744073709551616)) then some (i ^ j.toNat) else none
noncomputable def bW(fz:Bool)(ds:List D)(M:MH):R D:=if fz then .ok (.lst ds) M else .ok (.ref M.length) (M++[.lst ds])
noncomputable def om(o:DR)(fz:Bool)(M:MH):D->D->R D
 | .int i,.int j=>match fH o i j with
  | some k=>.ok (.int k) M
  | none=>.bad
 | .str x,.str y=>match o with
  | .add=>if decide (x.length+y.length<=line) then .ok (.str (x++y)) M else .bad
  | _=>.bad
 | a, b=>match o with
  | .add=>match vw M a,vw M b with
   | .lst xs,.lst ys=>if decide (xs.length+ys.length<=line) then bW fz (xs++ys) M else .bad
   | .tup xs,.tup ys=>if !xs.isEmpty&&decide (xs.length+ys.length<=line) then .ok (.tup (xs++ys)) M else .bad
   | _,_=>.bad
  | .mul=>match vw M a,b with
   | .lst xs,.int k=>if decide (xs.length*k.toNat<=line)&&decide (k.natAbs<=1000000) then bW fz (List.replicate k.toNat xs).flatten M else .bad
   | _,_=>.bad
  | _=>.bad
mutual
noncomputable def plain:D->Bool
 | .aq=>true
 | .bl _=>true
 | .int _=>true
 | .str _=>true
 | .tup ds=>bE ds
 | .lst ds=>bE ds
 | .dct _ _=>false
 | .ref _=>false
 | .g7 _=>false
noncomputable def bE:List D->Bool
 | []=>true
 | d::ds=>plain d&&bE ds
end
mutual
noncomputable def dep:D->Nat
 | .tup ds=>deps ds+1
 | .lst ds=>deps ds+1
 | .dct _ ds=>deps ds+1
 | .aq=>0
 | .bl _=>0
 | .int _=>0
 | .str _=>0
 | .ref _=>0
 | .g7 _=>0
noncomputable def deps:List D->Nat
 | []=>0
 | d::ds=>max (dep d) (deps ds)
end
mutual
noncomputable def aD:D->D->Bool
 | .aq,.aq=>true
 | .bl a,.bl b=>a == b
 | .bl a,.int i=>(if a then 1 else 0) == i
 | .int i,.bl b=>i == (if b then 1 else 0)
 | .int a,.int b=>decide (a=b)
 | .str a,.str b=>decide (a=b)
 | .tup a,.tup b=>cJ a b
 | .lst a,.lst b=>cJ a b
 | _,_=>false
noncomputable def cJ:List D->List D->Bool
 | [],[]=>true
 | a::as,b::bs=>aD a b&&cJ as bs
 | _,_=>false
end
noncomputable def keyOf:D->Option Ky
 | .int i=>some (.inl i)
 | .str x=>some (.inr x)
 | _=>none
noncomputable def Nm:Ky->D
 | .inl i=>.int i
 | .inr x=>.str x
noncomputable def look(kvs:List (Ky×D))(k:Ky):Option D:=(kvs.find? fun kv=>decide (kv.1=k)).map (·.2)
noncomputable def put(kvs:List (Ky×D))(k:Ky)(v:D):List (Ky×D) :=
 if kvs.any (fun kv=>decide (kv.1=k)) then kvs.map fun kv=>if kv.1=k then (kv.1,v) else kv else kvs++[(k,v)]
noncomputable def top(M:MH):D->D
 | .ref n=>match M[n]? with
  | some (.lst ds)=>.lst ds
  | _=>.ref n
 | d=>d
noncomputable def flat:D->Bool
 | .aq=>true
 | .int _=>true
 | .str _=>true
 | _=>false
noncomputable def cA(a b:D):Bool:=(plain a&&plain b)&&(decide (dep a<=100)||decide (dep b<=100))
noncomputable def rC(M:MH)(a b:D):Option Bool:=match vw M a,vw M b with
 | .lst xs,.lst ys=>if ys.isEmpty then some xs.isEmpty else none
 | _,_=>none
noncomputable def deep:Nat->MH->D->D
 | 0,_,d=>d
 | n+1,M,d=>match d with
  | .ref r=>(match M[r]? with
   | some (.lst ds)=>.lst (ds.map (deep n M))
   | _=>.ref r)
  | .tup ds=>.tup (ds.map (deep n M))
  | .lst ds=>.lst (ds.map (deep n M))
  | d=>d
noncomputable def LV(M:MH)(neg:Bool)(a b:D):R D:=if cA (deep 120 M a) (deep 120 M b) then .ok (.bl (if neg then !aD (deep 120 M a) (deep 120 M b) else aD (deep 120 M a) (deep 120 M b))) M else .bad
noncomputable def su(M:MH)(f:Int->Int->Bool)(a b:D):R D:=match a with
 | .int i=>(match b with | .int j=>.ok (.bl (f i j)) M | _=>.bad)
 | _=>.bad
noncomputable def N1(M:MH)(a b:D):R D:=if cA (top M a) (top M b) then .ok (.bl (aD (top M a) (top M b))) M else (match rC M a b with | some t=>.ok (.bl t) M | none=>LV M false a b)
noncomputable def yJ(M:MH)(a b:D):R D:=if cA (top M a) (top M b) then .ok (.bl (!aD (top M a) (top M b))) M else (match rC M a b with | some t=>.ok (.bl (!t)) M | none=>LV M true a b)
noncomputable def dS:D->Bool
 | .aq=>true
 | _=>false
noncomputable def AH(a b:D):Option (Bool×Bool):=match a with
 | .bl x=>(match b with | .bl y=>some (x,y) | _=>none)
 | _=>none
noncomputable def zA(M:MH)(a b:D):Option Bool:=match vw M b with
 | .dct kvs=>(match keyOf a with | some k=>some (look kvs k).isSome | none=>none)
 | .lst ds=>if flat a&&ds.all flat then some (ds.any fun d=>aD d a) else none
 | .tup ds=>if flat a&&ds.all flat then some (ds.any fun d=>aD d a) else none
 | .none=>none
noncomputable def bF(o:AS)(M:MH)(a b:D):R D :=
 match o with
 | .lt=>su M (fun i j=>decide (i<j)) a b
 | .le=>su M (fun i j=>decide (i<=j)) a b
 | .gt=>su M (fun i j=>decide (j<i)) a b
 | .ge=>su M (fun i j=>decide (j<=i)) a b
 | .eq=>(match AH a b with | some p=>.ok (.bl (p.1 == p.2)) M | none=>N1 M a b)
 | .ne=>(match AH a b with | some p=>.ok (.bl (!(p.1 == p.2))) M | none=>yJ M a b)
 | .A2=>if dS b then .ok (.bl (dS a)) M else .bad
 | .kX=>if dS b then .ok (.bl (!dS a)) M else .bad
 | .isin=>(match zA M a b with | some t=>.ok (.bl t) M | none=>.bad)
 | .pq=>(match zA M a b with | some t=>.ok (.bl (!t)) M | none=>.bad)
noncomputable def ET(n:Nat)(i:Int):Option Nat:=if 0<=i then (if i<n then some i.toNat else none) else if -(n:Int)<=i then some (i+n).toNat else none
noncomputable def qz{α:Type}(xs:List α)(i:Int):Option α:=(ET xs.length i).bind fun j=>xs[j]?
noncomputable def six(n d:Nat):Option Int->Nat
 | none=>d
 | some v=>if v<0 then (v+(n:Int)).toNat else min v.toNat n
noncomputable def c7{α:Type}(xs:List α)(lo hi:Option Int):List α:=(xs.drop (six xs.length 0 lo)).take (six xs.length xs.length hi-six xs.length 0 lo)
noncomputable def cuts(x:Str)(lo hi:Option Int):Str:=⟨(c7 x.cps.toList lo hi).toArray⟩
noncomputable def pN(M:MH)(a b:D):R D :=
 match a,b with
 | .str x,.int i=>if decide (x.length<=line) then (match qz x.cps.toList i with
  | some c=>.ok (.str ⟨#[c]⟩) M
  | none=>.bad) else .bad
 | a, b=>match vw M a, b with
  | .tup ds,.int i=>match qz ds i with
   | some d=>.ok d M
   | none=>.bad
  | .lst ds,.int i=>match qz ds i with
   | some d=>.ok d M
   | none=>.bad
  | .dct kvs,b=>match keyOf b with
   | some k=>match look kvs k with
    | some d=>.ok d M
    | none=>.bad
   | none=>.bad
  | _,_=>.bad
noncomputable def jk(n:Nat)(lo hi:Option Int):Bool:=decide (six n 0 lo=0)&&decide (six n n hi=n)
noncomputable def sl2(fz:Bool)(M:MH)(a:D)(lo hi:Option Int):R D :=
 match a with
 | .str x=>if decide (x.length<=line) then .ok (.str (cuts x lo hi)) M else .bad
 | a=>match vw M a with
  | .tup ds=>if jk ds.length lo hi then .bad else .ok (.tup (c7 ds lo hi)) M
  | .lst ds=>bW fz (c7 ds lo hi) M
  | _=>.bad
noncomputable def Io(M:MH)(t:Ty):D->Bool
 | .int _=>match t with | .int=>true | _=>false
 | .bl _=>match t with | .int=>true | .bool=>true | _=>false
 | .str _=>match t with | .str=>true | _=>false
 | .tup _=>match t with | .tuple=>true | _=>false
 | .lst _=>match t with | .list=>true | _=>false
 | .dct _ _=>match t with | .dict=>true | _=>false
 | .aq=>false
 | .g7 _=>false
 | .ref n=>match M[n]? with
  | some (.lst _)=>(match t with | .list=>true | _=>false)
  | some (.dct _)=>(match t with | .dict=>true | _=>false)
  | some (.ou _)=>(match t with | .dict=>true | _=>false)
  | _=>false
noncomputable def wM(M:MH):D->Bool
 | .ref n=>match M[n]? with
  | some (.lst _)=>true
  | some (.dct _)=>true
  | some (.ou _)=>true
  | _=>false
 | .g7 _=>false
 | _=>true
noncomputable def intsOf:List D->Option (List Int)
 | []=>some []
 | .int i::ds=>(intsOf ds).map (i::·)
 | _=>none
noncomputable def boolsOf:List D->Option (List Bool)
 | []=>some []
 | .bl b::ds=>(boolsOf ds).map (b::·)
 | _=>none
noncomputable def v9:F1->D->Option D
 | .abs,.int i=>some (.int (if i<0 then -i else i))
 | .int,.bl b=>some (.int (if b then 1 else 0))
 | .int,.int i=>some (.int i)
 | _,_=>none
noncomputable def itemsOf(M:MH)(d:D):Option (List D) :=
 match d with
 | .str _=>none
 | .dct _ _=>none
 | d=>match vw M d with
  | .tup ds=>some ds
  | .lst ds=>some ds
  | .dct kvs=>some (kvs.map fun kv=>Nm kv.1)
  | .none=>none
noncomputable def wk(M:MH):D->Bool
 | .ref n=>match M[n]? with
  | some (.dct _)=>true
  | _=>false
 | _=>false
noncomputable def walk(M:MH):D->MH
 | .ref n=>match M[n]? with
  | some (.dct kvs)=>M.set n (.ou kvs)
  | _=>M
 | _=>M
noncomputable def fE(b:Bool)(d:D)(M:MH):MH:=match b,d with
 | true,.ref n=>match M[n]? with
  | some (.ou kvs)=>M.set n (.dct kvs)
  | _=>M
 | _,_=>M
noncomputable def R.fin{α:Type}(x:R α)(f:MH->MH):R α:=match x with
 | .ok a M=>.ok a (f M)
 | .exc c M=>.exc c (f M)
 | .bad=>.bad
noncomputable def DK(b:Bl)(fz:Bool)(M:MH):List D->R D
 | [.str x]=>match b with
  | .len=>if decide (x.length<=line) then .ok (.int x.length) M else .bad
  | _=>.bad
 | [d]=>match b,vw M d with
  | .len,.tup ds=>.ok (.int ds.length) M
  | .len,.lst ds=>.ok (.int ds.length) M
  | .len,.dct kvs=>.ok (.int kvs.length) M
  | .sum,.lst ds=>match intsOf ds with
   | some ns=>.ok (.int ns.sum) M
   | none=>.bad
  | .tuple,.lst ds=>.ok (.tup ds) M
  | .tuple,.tup ds=>.ok (.tup ds) M
  | .list,.lst ds=>bW fz ds M
  | .list,.tup ds=>bW fz ds M
  | .dict,.dct kvs=>.ok (.ref M.length) (M++[.dct kvs])
  | _,_=>.bad
 | _=>.bad
noncomputable def pQ:D->Option (List D)
 | .tup ds=>some ds
 | .lst ds=>some ds
 | _=>none
noncomputable def D3:D->Option (List D)
 | .tup ds=>some ds
 | _=>none
theorem Bo{d:D}{ds:List D}(h:D3 d=some ds):d=.tup ds:=by
 cases d <;> first | (cases h;rfl) | cases h
noncomputable def gy(M:MH)(a:D):Option (Nat×List D):=match a with
 | .ref n=>(match M[n]? with | some (.lst xs)=>some (n,xs) | _=>none)
 | _=>none
theorem ck{M:MH}{n:Nat}{xs:List D}(h:M[n]? = some (.lst xs)):gy M (.ref n)=some (n,xs):=by simp only[gy,h]
theorem jI{M:MH}{a:D}{p:Nat×List D}(h:gy M a=some p):a=.ref p.1/\M[p.1]? = some (.lst p.2):=by
 cases a with
 | ref n =>
  simp only[gy] at h
  split at h
  ·rename_i xs hx;cases h;exact⟨rfl,hx⟩
  ·cases h
 | _=>cases h
noncomputable def rA(ds:List D)(k:D->R D):R D:=match ds with
 | d::r=>(match r with | []=>k d | _::_=>.bad)
 | []=>.bad
noncomputable def pF(m:Mt)(M:MH)(n:Nat)(xs ds:List D):R D:=match m with
 | .append=>rA ds fun d=>if decide (xs.length<line) then .ok .aq (M.set n (.lst (xs++[d]))) else .bad
 | .extend=>rA ds fun d=>(match D3 d with
  | some ys=>if decide (xs.length+ys.length<=line) then .ok .aq (M.set n (.lst (xs++ys))) else .bad
  | none=>.bad)
 | .pop=>if ds.isEmpty then (match xs[xs.length-1]? with
  | some d=>.ok d (M.set n (.lst xs.dropLast))
  | none=>.bad) else .bad
 | .reverse=>if ds.isEmpty then .ok .aq (M.set n (.lst xs.reverse)) else .bad
 | .clear=>if ds.isEmpty then .ok .aq (M.set n (.lst [])) else .bad
 | _=>.bad
noncomputable def gM(m:Mt)(fz:Bool)(M:MH)(a:D)(ds:List D):R D:=match gy M a with
 | some p=>pF m M p.1 p.2 ds
 | none=>.bad
noncomputable def nj(m:Mt)(M:MH)(a:D):Bool:=(gy M a).isSome&&(match m with | .append=>true | .extend=>true | .pop=>true | .reverse=>true | .clear=>true | _=>false)
noncomputable def oV(M:MH)(a b d:D):R Unit :=
 match a with
 | .ref n=>match M[n]?,b with
  | some (.lst xs),.int i=>match ET xs.length i with
   | some j=>.ok () (M.set n (.lst (xs.set j d)))
   | none=>.bad
  | some (.dct kvs),b=>match keyOf b with
   | some k=>if decide (kvs.length<line) then .ok () (M.set n (.dct (put kvs k d))) else .bad
   | none=>.bad
  | _,_=>.bad
 | _=>.bad
noncomputable def iS{α:Type}:List Nat->List α->List (Option α)->List (Option α)
 | i::tg,x::xs,σ=>iS tg xs (σ.set i (some x))
 | _,_,σ=>σ
noncomputable def sets(tg:List Nat)(M:MH)(d:D)(σ:Sg):Option Sg :=
 match tg with
 | [i]=>some (σ.set i (some d))
 | [i,j]=>match d with
  | .tup [x,y]=>some ((σ.set i (some x)).set j (some y))
  | _=>none
 | []=>none
 | tg=>match d with
  | .tup xs=>if xs.length=tg.length then some (iS tg xs σ) else none
  | _=>none
noncomputable def aO(M:MH)(d:D)(M':MH):Bool:=match d with
 | .ref n=>decide (M'[n]? = M[n]?)
 | _=>true
noncomputable def bh(body:Sg->MH->R Out)(tg:List Nat)(gP:MH->Bool):List D->Sg->MH->R Out
 | [],σ,M=>.ok (.nx σ) M
 | d::ds,σ,M=>match sets tg M d σ with
  | none=>.bad
  | some σ1=>(body σ1 M).bind fun o M1=>match o with
   | .nx σ2=>if gP M1 then bh body tg gP ds σ2 M1 else .bad
   | .ct σ2=>if gP M1 then bh body tg gP ds σ2 M1 else .bad
   | .bk σ2=>.ok (.nx σ2) M1
   | .rt r=>.ok (.rt r) M1
   | .xc c σ2=>.ok (.xc c σ2) M1
noncomputable def bT(c:Sg->MH->R D)(body:Sg->MH->R Out):Nat->Sg->MH->R Out
 | 0,_,_=>.bad
 | n+1,σ,M=>(c σ M).use σ fun t M0=>match t with
  | .bl false=>.ok (.nx σ) M0
  | .bl true=>(body σ M0).bind fun o M1=>match o with
   | .nx σ2=>bT c body n σ2 M1
   | .ct σ2=>bT c body n σ2 M1
   | .bk σ2=>.ok (.nx σ2) M1
   | .rt r=>.ok (.rt r) M1
   | .xc c σ2=>.ok (.xc c σ2) M1
  | _=>.bad
noncomputable def bU(cond:Sg->MH->R D)(elt:Sg->MH->R D)(tg:List Nat)(gP:MH->Bool):List D->Sg->MH->List D->R (List D)
 | [],_,M,acc=>.ok acc M
 | d::ds,σ,M,acc=>match sets tg M d σ with
  | none=>.bad
  | some σ1=>(cond σ1 M).bind fun t M1=>match t with
   | .bl true=>(elt σ1 M1).bind fun x M2=>if gP M2 then (if decide (acc.length<line) then bU cond elt tg gP ds σ1 M2 (acc++[x]) else .bad) else .bad
   | .bl false=>if gP M1 then bU cond elt tg gP ds σ1 M1 acc else .bad
   | _=>.bad
noncomputable def eF(f:Str)(v:D):List (Str×D)->List (Str×D)
 | []=>[(f,v)]
 | (g,x)::r=>if g=f then (g,v)::r else (g,x)::eF f v r
structure aZ where
 call:Nat->List D->MH->R D
 ini:Nat->List D->MH->R D
 glob:Nat->Option D
 turns:Nat
 sub:Nat->Nat->Bool
noncomputable def nW(σ:Sg)(caps:List Nat):Sg:=caps.map fun i=>(σ[i]?).join
noncomputable def fS:D->Option Int
 | .int i=>some i
 | _=>none
theorem vd{d:D}{i:Int}(h:fS d=some i):d=.int i:=by
 cases d <;> first | (cases h;rfl) | cases h
noncomputable def gg(j:Int):Bool:=decide (j.natAbs<=1000000)
noncomputable def jW(a b:Int):List D:=(List.range (b-a).toNat).map fun (i:Nat)=>D.int (a+(i:Int))
noncomputable def JP(ds es:List D):List D:=(ds.zip es).map fun p=>.tup [p.1,p.2]
noncomputable def ir(a b:Int):List D:=(List.range (a-b).toNat).map fun (i:Nat)=>D.int (a-(i:Int))
noncomputable def AW(M:MH)(d:D):Option (List D):=match vw M d with
 | .lst ds=>some ds
 | .tup ds=>some ds
 | _=>none
noncomputable def wQ:List (Ky×D)->List D->List D->Option (List (Ky×D))
 | kvs,d::ds,e::es=>match keyOf d with
  | some k=>wQ (put kvs k e) ds es
  | none=>none
 | kvs,_,_=>some kvs
noncomputable def rJ(M:MH)(d:D):Option (List D):=match vw M d with
 | .lst ds=>some ds
 | _=>none
noncomputable def kq:D->Bool
 | .aq=>true
 | .bl _=>true
 | .int _=>true
 | .str _=>true
 | _=>false
noncomputable def CT(ct:Bool)(ds:List D)(d:D):Option Nat:=if ds.all kq&&kq d then (if ct then some (ds.countP fun e=>aD e d) else ds.findIdx? fun e=>aD e d) else none
noncomputable def Ih(ct:Bool)(M:MH)(x:D)(ds:List D):R D:=rA ds fun d=>match (rJ M x).bind fun xs=>CT ct xs d with
 | some j=>.ok (.int (j:Int)) M
 | none=>.bad
noncomputable def maxOf(ds:List D):Option Int:=match intsOf ds with
 | some (n::ns)=>some (ns.foldl (fun m a=>if m<a then a else m) n)
 | _=>none
mutual
noncomputable def ev(Φ:aZ):E->Sg->MH->R D
 | .v i,σ,M=>match σ[i]? with
  | some (some d)=>.ok d M
  | _=>.bad
 | .k d,_,M=>.ok d M
 | .g i,_,M=>match Φ.glob i with
  | some d=>.ok d M
  | none=>.bad
 | .tup es,σ,M=>(cz Φ es σ M).bind fun ds M1=>.ok (.tup ds) M1
 | .lst fz es,σ,M=>(cz Φ es σ M).bind fun ds M1=>bW fz ds M1
 | .Jd,_,M=>.ok (.ref M.length) (M++[.dct []])
 | .op o fz a b,σ,M=>(ev Φ a σ M).bind fun x M1=>(ev Φ b σ M1).bind fun y M2=>om o fz M2 x y
 | .neg a,σ,M=>(ev Φ a σ M).bind fun x M1=>match x with
  | .int i=>.ok (.int (-i)) M1
  | _=>.bad
 | .cmp o a b,σ,M=>(ev Φ a σ M).bind fun x M1=>(ev Φ b σ M1).bind fun y M2=>bF o M2 x y
 | .chain o o' a b c,σ,M=>(ev Φ a σ M).bind fun x M1=>(ev Φ b σ M1).bind fun y M2=>(bF o M2 x y).bind fun t M3=>match t with
  | .bl true=>(ev Φ c σ M3).bind fun z M4=>bF o' M4 y z
  | .bl false=>.ok (.bl false) M3
  | _=>.bad
 | .and a b,σ,M=>(ev Φ a σ M).bind fun x M1=>match x with
  | .bl true=>(ev Φ b σ M1)
  | .bl false=>.ok (.bl false) M1
  | _=>.bad
 | .or a b,σ,M=>(ev Φ a σ M).bind fun x M1=>match x with
  | .bl true=>.ok (.bl true) M1
  | .bl false=>(ev Φ b σ M1)
  | _=>.bad
 | .not a,σ,M=>(ev Φ a σ M).bind fun x M1=>match x with
  | .bl b=>.ok (.bl (!b)) M1
  | _=>.bad
 | .tru a,σ,M=>.bad
 | .CW c a b,σ,M=>(ev Φ c σ M).bind fun x M1=>match x with
  | .bl true=>ev Φ a σ M1
  | .bl false=>ev Φ b σ M1
  | _=>.bad
 | .idx a b,σ,M=>(ev Φ a σ M).bind fun x M1=>(ev Φ b σ M1).bind fun y M2=>pN M2 x y
 | .sl fz a lo hi,σ,M=>(ev Φ a σ M).bind fun x M1=>(De Φ lo σ M1).bind fun l M2=>(De Φ hi σ M2).bind fun h M3=>sl2 fz M3 x l h
 | .call f es,σ,M=>(cz Φ es σ M).bind fun ds M1=>Φ.call f ds M1
 | .CV a t,σ,M=>(ev Φ a σ M).bind fun x M1=>if wM M1 x then .ok (.bl (Io M1 t x)) M1 else .bad
 | .blt b fz es,σ,M=>(cz Φ es σ M).bind fun ds M1=>DK b fz M1 ds
 | .eU m fz a es,σ,M=>(ev Φ a σ M).bind fun x M1=>if nj m M1 x then (cz Φ es σ M1).bind fun ds M2=>gM m fz M2 x ds else .bad
 | .comp fz caps tg elt it cond,σ,M=>(bA Φ it σ M).bind fun p M1 =>
   ((bU (qw Φ cond) (ev Φ elt) tg (aO M1 p.1) p.2.1 (nW σ caps++List.replicate tg.length none) M1 []).fin (fE p.2.2 p.1)).bind fun ds M2=>bW fz ds M2
 | .fld a f,σ,M=>(ev Φ a σ M).bind fun x M1=>match x with
  | .ref n=>match M1[n]? with
   | some (.ins _ fs)=>match fs.lookup f with
    | some d=>.ok d M1
    | none=>.bad
   | _=>.bad
  | _=>.bad
 | .cZ c m nm a es,σ,M=>(ev Φ a σ M).bind fun x M1=>match x with
  | .ref n=>match M1[n]? with
   | some (.ins c' fs)=>if decide (c'=c)&&(fs.lookup nm).isNone then (cz Φ es σ M1).bind fun ds M2=>Φ.call m (.ref n::ds) M2 else .bad
   | _=>.bad
  | _=>.bad
 | .new c i es,σ,M=>(cz Φ es σ M).bind fun ds M1=>(Φ.ini i (.ref M1.length::ds) (M1++[.ins c []])).bind fun r M2=>match r with
  | .aq=>.ok (.ref M1.length) M2
  | _=>.bad
 | .mx hi a b,σ,M=>(ev Φ a σ M).bind fun x M1=>(ev Φ b σ M1).bind fun y M2=>match x,y with
  | .int i,.int j=>.ok (.int (if hi then (if j > i then j else i) else (if j<i then j else i))) M2
  | _,_=>.bad
 | .Nj fz a b,σ,M=>(ev Φ a σ M).bind fun x M1=>(ev Φ b σ M1).bind fun y M2=>match x,y with
  | .int i,.int j=>if gg i&&(gg j&&decide ((j-i).toNat<=line)) then bW fz (jW i j) M2 else .bad
  | _,_=>.bad
 | .Nk fz a,σ,M=>(ev Φ a σ M).bind fun x M1=>match x with
  | .int j=>if gg j then bW fz (jW 0 j) M1 else .bad
  | _=>.bad
 | .rv fz a,σ,M=>(ev Φ a σ M).bind fun x M1=>match vw M1 x with
  | .lst ds=>bW fz ds.reverse M1
  | _=>.bad
 | .all1 a,σ,M=>(ev Φ a σ M).bind fun x M1=>match vw M1 x with
  | .lst ds=>match boolsOf ds with
   | some bs=>.ok (.bl (bs.all id)) M1
   | none=>.bad
  | _=>.bad
 | .qu f a,σ,M=>(ev Φ a σ M).bind fun x M1=>match v9 f x with
  | some d=>.ok d M1
  | none=>.bad
 | .iH f es e,σ,M=>(cz Φ es σ M).bind fun ds M1=>(ev Φ e σ M1).bind fun d M2=>Φ.call f (ds++[d]) M2
 | .EK fz a b,σ,M=>(ev Φ a σ M).bind fun x M1=>(ev Φ b σ M1).bind fun y M2=>match x,y with
  | .int i,.int j=>if (gg i&&(gg j&&decide ((i-j).toNat<=line)))||decide (i<=j) then bW fz (ir i j) M2 else .bad
  | _,_=>.bad
 | .u6 f es d,σ,M=>(cz Φ es σ M).bind fun ds M1=>Φ.call f (ds++[.int d]) M1
 | .dz a b,σ,M=>(ev Φ a σ M).bind fun x M1=>(ev Φ b σ M1).bind fun y M2=>match AW M2 x,AW M2 y with
  | some ds,some es=>if decide (ds.length<=1000) then (match wQ [] ds es with
   | some kvs=>.ok (.ref M2.length) (M2++[.dct kvs])
   | none=>.bad) else .bad
  | _,_=>.bad
 | .jh a c,σ,M=>(ev Φ a σ M).bind fun x M1=>match x with
  | .g7 k=>.ok (.bl (match c with | some c=>Φ.sub k c | none=>true)) M1
  | _=>.bad
 | .Ii ct a es,σ,M=>(ev Φ a σ M).bind fun x M1=>if (rJ M1 x).isSome then (cz Φ es σ M1).bind fun ds M2=>Ih ct M2 x ds else .bad
 | .Ni a,σ,M=>(ev Φ a σ M).bind fun x M1=>match (rJ M1 x).bind maxOf with
  | some m=>.ok (.int m) M1
  | none=>.bad
 | .bad,_,_=>.bad
noncomputable def cz(Φ:aZ):Es->Sg->MH->R (List D)
 | .nil,_,M=>.ok [] M
 | .cons e es,σ,M=>(ev Φ e σ M).bind fun x M1=>(cz Φ es σ M1).bind fun xs M2=>.ok (x::xs) M2
noncomputable def De(Φ:aZ):O->Sg->MH->R (Option Int)
 | .none,_,M=>.ok none M
 | .some e,σ,M=>(ev Φ e σ M).bind fun x M1=>match x with
  | .int i=>.ok (some i) M1
  | _=>.bad
noncomputable def qw(Φ:aZ):O->Sg->MH->R D
 | .none,_,M=>.ok (.bl true) M
 | .some e,σ,M=>ev Φ e σ M
noncomputable def bA(Φ:aZ):Src->Sg->MH->R (D×List D×Bool)
 | .e a,σ,M=>(ev Φ a σ M).bind fun x M1=>match itemsOf M1 x with
  | some ds=>.ok (x,ds,wk M1 x) (walk M1 x)
  | none=>.bad
 | .Ek a,σ,M=>(ev Φ a σ M).bind fun x M1=>match x with
  | .int j=>if gg j then .ok (.aq,jW 0 j,false) M1 else .bad
  | _=>.bad
 | .fj a b,σ,M=>(ev Φ a σ M).bind fun x M1=>(ev Φ b σ M1).bind fun y M2=>match fS x,fS y with
  | some i,some j=>if gg i&&gg j then .ok (.aq,jW i j,false) M2 else .bad
  | _,_=>.bad
 | .enum a,σ,M=>.bad
 | .AZ a,σ,M=>(ev Φ a σ M).bind fun x M1=>match x with
  | .lst ds=>.ok (.aq,ds,false) M1
  | _=>.bad
 | .rev a,σ,M=>(ev Φ a σ M).bind fun x M1=>match pQ x with
  | some ds=>.ok (.aq,ds.reverse,false) M1
  | none=>.bad
 | .Gg a b,σ,M=>(ev Φ a σ M).bind fun x M1=>(ev Φ b σ M1).bind fun y M2=>match fS x,fS y with
  | some i,some j=>if gg i&&gg j then .ok (.aq,ir i j,false) M2 else .bad
  | _,_=>.bad
 | .zip a b,σ,M=>(ev Φ a σ M).bind fun x M1=>(ev Φ b σ M1).bind fun y M2=>match pQ x,pQ y with
  | some ds,some es=>.ok (.aq,JP ds es,false) M2
  | _,_=>.bad
end
noncomputable def dj:D->Bool
 | .str x=>decide (x.length<=100000)
 | .int i=>decide (i.natAbs<18446744073709551616)
 | _=>false
noncomputable def Dg(Φ:aZ):Es->Sg->MH->R Unit
 | .nil,_,M=>.ok () M
 | .cons e es,σ,M=>(ev Φ e σ M).bind fun x M1=>if dj x then Dg Φ es σ M1 else .bad
noncomputable def JC(f:Sg->Sg):R Out->R Out
 | .ok (.nx σ) M=>.ok (.nx (f σ)) M
 | _=>.bad
@[simp] theorem noX_ok{f:Sg->Sg}{σ:Sg}{M:MH}:JC f (.ok (.nx σ) M)=.ok (.nx (f σ)) M:=rfl
mutual
noncomputable def ex(Φ:aZ):S->Sg->MH->R Out
 | .set i e,σ,M=>(ev Φ e σ M).use σ fun x M1=>.ok (.nx (σ.set i (some x))) M1
 | .vD a b e,σ,M=>(ev Φ e σ M).use σ fun x M1=>(ev Φ a σ M1).use σ fun y M2=>(ev Φ b σ M2).use σ fun z M3=>(oV M3 y z x).use σ fun _ M4=>.ok (.nx σ) M4
 | .eB a f e,σ,M=>(ev Φ e σ M).use σ fun x M1=>(ev Φ a σ M1).use σ fun y M2=>match y with
  | .ref n=>match M2[n]? with
   | some (.ins c fs)=>if decide (fs.length<1000) then .ok (.nx σ) (M2.set n (.ins c (eF f x fs))) else .bad
   | _=>.bad
  | _=>.bad
 | .MU tg e,σ,M=>(ev Φ e σ M).use σ fun x M1=>match sets tg M1 x σ with
  | some σ1=>.ok (.nx σ1) M1
  | none=>.bad
 | .ex e,σ,M=>(ev Φ e σ M).use σ fun _ M1=>.ok (.nx σ) M1
 | .ret e,σ,M=>(ev Φ e σ M).use σ fun x M1=>.ok (.rt x) M1
 | .Gj,_,M=>.ok (.rt .aq) M
 | .ifs c a b,σ,M=>(ev Φ c σ M).use σ fun t M1=>match t with
  | .bl true=>exs Φ a σ M1
  | .bl false=>exs Φ b σ M1
  | _=>.bad
 | .for tg it b,σ,M=>(bA Φ it σ M).use σ fun p M1=>(bh (exs Φ b) tg (aO M1 p.1) p.2.1 σ M1).fin (fE p.2.2 p.1)
 | .while c b,σ,M=>bT (ev Φ c) (exs Φ b) Φ.turns σ M
 | .brk,σ,M=>.ok (.bk σ) M
 | .cont,σ,M=>.ok (.ct σ) M
 | .pass,σ,M=>.ok (.nx σ) M
 | .raise c es,σ,M=>(Dg Φ es σ M).use σ fun _ M1=>.ok (.xc c σ) M1
 | .try b hs els,σ,M=>(exs Φ b σ M).bind fun o M1=>match o with
  | .nx σ1=>exs Φ els σ1 M1
  | .xc c σ1=>uD Φ hs c σ1 M1
  | o=>.ok o M1
 | .bad,_,_=>.bad
noncomputable def exs(Φ:aZ):Ss->Sg->MH->R Out
 | .nil,σ,M=>.ok (.nx σ) M
 | .cons s ss,σ,M=>(ex Φ s σ M).bind fun o M1=>match o with
  | .nx σ1=>exs Φ ss σ1 M1
  | o=>.ok o M1
noncomputable def uD(Φ:aZ):Hs->Nat->Sg->MH->R Out
 | .nil,_,_,_=>.bad
 | .cons cs b hs,c,σ,M=>if cs.any (fun d=>Φ.sub c d) then JC id (exs Φ b σ M) else uD Φ hs c σ M
 | .as d i b hs,c,σ,M=>if Φ.sub c d then JC (fun σ=>σ.set i none) (exs Φ b (σ.set i (some (.g7 c))) M) else uD Φ hs c σ M
end
mutual
noncomputable def nr(m:Nat):D->Bool
 | .ref n=>decide (n<m)
 | .tup ds=>fB m ds
 | .lst ds=>fB m ds
 | .dct _ ds=>fB m ds
 | .aq=>true
 | .bl _=>true
 | .int _=>true
 | .str _=>true
 | .g7 _=>true
noncomputable def fB(m:Nat):List D->Bool
 | []=>true
 | d::ds=>nr m d&&fB m ds
end
structure Fn where
 np:Nat
 ns:Nat
 kJ:List D
 keep:Bool
 body:Ss
noncomputable def gf(keep:Bool)(M:MH)(d:D)(M':MH):R D :=
 if keep=false/\M'.take M.length=M then
  (if nr M.length d then .ok d M else match d with
   | .ref k=>match M'[k]? with
    | some (.lst ds)=>if fB M.length ds then .ok (.lst ds) M else .ok d M'
    | _=>.ok d M'
   | _=>.ok d M')
 else .ok d M'
noncomputable def o5(M:MH)(c:Nat)(M':MH):R D:=if M'.take M.length=M then .exc c M else .exc c M'
structure kR where
 fn:Nat->Option Fn
 glob:Nat->Option D
 turns:Nat
 sub:Nat->Nat->Bool
noncomputable def jV(Φ:aZ)(f:Fn)(ds:List D)(M:MH):R D :=
 if decide (ds.length<=f.np)&&decide (f.np<=ds.length+f.kJ.length) then
  match exs Φ f.body ((ds++f.kJ.drop (ds.length+f.kJ.length-f.np)).map some++List.replicate (f.ns-f.np) none) M with
  | .ok (.rt d) M'=>gf f.keep M d M'
  | .ok (.nx _) M'=>gf f.keep M .aq M'
  | .ok (.xc c _) M'=>o5 M c M'
  | _=>.bad
 else .bad
noncomputable def aa(P:kR):Nat->aZ
 | 0=>⟨fun _ _ _=>.bad,fun _ _ _=>.bad,P.glob,P.turns,P.sub⟩
 | k+1=>⟨fun f ds M=>match P.fn f with
  | some fn=>jV (aa P k) fn ds M
  | none=>.bad,(aa P k).call,P.glob,P.turns,P.sub⟩
end Fg
end
section
set_option autoImplicit false
namespace Fg
open PySem PySem.Spec L2
noncomputable def Hg:Nat->List Obj->W.Frag
 | _,[]=>[]
 | n,o::os=>bif o.alive then (n,o)::Hg (n+1) os else Hg (n+1) os
theorem yF:∀{os:List Obj} {n a:Nat} {o:Obj},(Hg n os).lookup a=some o->n<=a/\os[a-n]? = some o/\o.alive=true
 | [],_,_,_,h=>by cases h
 | x::os,n,a,o,h=>by
  have up:(Hg (n+1) os).lookup a=some o->n<=a/\(x::os)[a-n]? = some o/\o.alive=true:=fun h=>by
   obtain⟨h1,h2,h3⟩:=yF h
   refine⟨by omega,?_,h3⟩
   rw[show a-n=(a-(n+1))+1 by omega,List.getElem?_cons_succ]
   exact h2
  unfold Hg at h
  cases hx:x.alive with
  | false=>rw[hx] at h;exact up h
  | true =>
   rw[hx] at h
   replace h:((n,x)::Hg (n+1) os).lookup a=some o:=h
   rw[List.lookup_cons] at h
   cases e:a == n with
   | true =>
    rw[e] at h
    cases h
    have:=beq_iff_eq.mp e
    subst this
    exact⟨Nat.le_refl _,by simp,hx⟩
   | false =>
    rw[e] at h
    exact up h
noncomputable def allOf(h:Heap):W.Frag:=Hg 0 h.objs.toList
theorem AM(h:Heap):(allOf h).In h:=fun a o e=>by
 obtain⟨_,h1,h2⟩:=yF e
 rw[Nat.sub_zero,Array.getElem?_toList] at h1
 exact (Heap.get?_eq_some h a o).mpr ⟨h1,h2⟩
structure Row where
 x:Str
 ql:Str
 st:Stmt
 ps:List Str
 N:List Str
 i:Nat
 kJ:Option Int:=none
structure Tb where
 fn:List Row
 cl:List Str
 mt:List (Nat×Row)
 xc:List Str
 cs:List (Str×Nat×Int)
 bl:List Str
 fl:List Str
 ct:List (Str×Nat×List Str):=[]
 cd:List (Str×Nat×List (Str×Int)):=[]
 oq:List Str:=[]
noncomputable def adr(K:W.Frag)(x:Str):Option Addr:=match W.nsIn K mainGlobals x with
 | some (some (.ref a))=>some a
 | _=>none
noncomputable def jb(K:W.Frag):Value->Option (Option Int)
 | .none=>some none
 | .ref T=>(match K.lookup T with
  | some ⟨_,_,.seq its _,_⟩=>(match its.toList with
   | [.int d _]=>some (some d)
   | _=>none)
  | _=>none)
 | _=>none
noncomputable abbrev AR:=Str×Str×Arguments×FuncBody×Scope×Addr×List (Str×Addr)×Addr×Option (Option Int)×Bool
noncomputable def pT(K:W.Frag)(f:Addr):Option AR:=match K.lookup f with
 | some ⟨_,_,.func fd,_⟩=>some (fd.name,fd.qualname,fd.params,fd.body,fd.scope,fd.globals,fd.closure,fd.builtins,jb K fd.defaults,W.codeIn K fd.code fd.qualname)
 | _=>none
noncomputable def Row.good(r:Row):AR:=(r.x,r.ql,iF r.st,.stmts (bZ r.st),aC r.st,mainGlobals,[],builtinsNs,some r.kJ,true)
noncomputable abbrev Jx:=Bool×Bool×Bool×Option (Option Value)×Bool×Bool×List (Option (Option Value))
noncomputable def nT(t:Tb)(K:W.Frag)(C:Addr):Jx:=(W.plainGet K C Str.empty, W.hasDictIn K C, W.plainOver K C, W.findIn K (.ref C) "__setattr__", W.makesIn K C, W.keepIn K (.ref C), t.fl.map (W.findIn K (.ref C)))
noncomputable def jN(t:Tb):Jx:=(true, true, true, some (some (.builtin "object.__setattr__")), true, true, t.fl.map fun _=>some none)
noncomputable def yM(t:Tb)(K:W.Frag)(r:Nat×Row):Option (AR×Bool):=((t.cl[r.1]?).bind (adr K)).bind fun C=>match W.findIn K (.ref C) r.2.x with
 | some (some (.ref f))=>(pT K f).map fun z=>(z,W.isFn K (.ref f))
 | _=>none
noncomputable abbrev MC:=Bool×Option Bool×List (Option Bool)×List (Option (Option Value))×Option Bool×Option Bool×Bool×Option Bool×List (Option Bool)
noncomputable def BMV:List Value:=[.type "ValueError", .type "Exception", .type "BaseException", .type "object"]
noncomputable def zQ(t:Tb)(K:W.Frag)(X:Addr):MC:=(W.excIn K X BMV "ValueError.__new__", W.mroIn K X (.type "BaseException"), t.xc.map fun y=>(adr K y).bind fun Y=>W.mroIn K X (.ref Y),
 [W.findIn K (.ref X) "__getattribute__", W.findIn K (.ref X) "__getattr__", W.findIn K (.ref X) "__class__", W.specialIn K (.builtin "object.__class__") "__get__"], W.takesIn K (.builtin "object.__class__"), W.mroIn K X (.type "object"), (W.clsIn K X).isSome, W.kitOne K (.ref X) (.type "ValueError"), t.xc.map fun y=>(adr K y).bind fun Y=>W.kitOne K (.ref X) (.ref Y))
noncomputable def Ar(K:W.Frag)(x:Str):Option Int:=match W.nsIn K mainGlobals x with
 | some (some (.int n _))=>some n
 | _=>none
noncomputable def strOf:Value->Option Str
 | .str x _=>some x
 | _=>none
noncomputable def intOf:Value->Option Int
 | .int n _=>some n
 | _=>none
noncomputable abbrev MD:=Value×List (Option Str)
noncomputable def xq(K:W.Frag)(a:Addr):Option MD:=match K.lookup a with
 | some ⟨c,_,.seq its _,_⟩=>some (c,its.toList.map strOf)
 | _=>none
noncomputable abbrev Jw:=Value×Option Addr×Array (Option Value)×Bool×List (Int×Option Str×Option Int)
noncomputable def Ao(K:W.Frag)(a:Addr):Option Jw:=match K.lookup a with
 | some ⟨c,d,.dict es _,sl⟩=>some (c,d,sl,a == sysModules,es.toList.map fun e=>(e.hash,strOf e.key,intOf e.val))
 | _=>none
noncomputable def uV(w:World)(kvs:List (Str×Int)):Jw:=(.type "dict", none, #[], false, kvs.map fun z=>(PyData.keyHash w.params z.1, some z.1, some z.2))
noncomputable abbrev Jq:=List (Option AR)×List (Option Jx)×List (Option (AR×Bool))×List (Option MC)×List (Option Int)×List (Option (Option Value))×List (Option MD)×List (Option Jw)
noncomputable def Tb.qt(t:Tb)(K:W.Frag):Jq:=(t.fn.map fun r=>(adr K r.x).bind (pT K),t.cl.map fun x=>(adr K x).map (nT t K),t.mt.map (yM t K),t.xc.zipIdx.map fun x=>(adr K x.1).map (zQ t K),t.cs.map fun c=>Ar K c.1,t.bl.map (W.nsIn K mainGlobals),t.ct.map fun c=>(adr K c.1).bind (xq K),t.cd.map fun c=>(adr K c.1).bind (Ao K))
noncomputable def Tb.good(t:Tb)(P:kR)(w:World):Jq:=(t.fn.map fun r=>some r.good, t.cl.map fun _=>some (jN t), t.mt.map fun r=>some (r.2.good, true), t.xc.zipIdx.map fun x=>some (true, some true, t.xc.zipIdx.map fun y=>some (P.sub x.2 y.2), [some (some (.builtin "BaseException.__getattribute__")), some none, some (some (.builtin "object.__class__")), some (some (.builtin "getset_descriptor.__get__"))], some true, some true, true, some true, t.xc.zipIdx.map fun y=>some (P.sub x.2 y.2)), t.cs.map fun c=>some c.2.2, t.bl.map fun _=>some none, t.ct.map fun c=>some (.type "tuple", c.2.2.map some), t.cd.map fun c=>some (uV w c.2.2))
noncomputable def Tb.hook(t:Tb)(P:kR):W.Hook:=⟨Jq,fun s=>t.qt (allOf s.heap),fun w=>t.good P w,fun w h=>∃K:W.Frag,K.In h/\t.qt K=t.good P w,fun _ s e=>⟨_,AM s.heap,e⟩,fun _ _ _ ⟨K,X,e⟩ k=>⟨K,X.keeps k,e⟩⟩
end Fg
end
section
namespace bz
open Fg
noncomputable def kZ:List PySem.Str:=["part", "word"]
noncomputable def uB:Fn:=⟨1,2,[],false,
 (.cons (.set 1 (.idx (.v 0) (.k (.int 0))))
 (.cons (.ifs (.cmp .isin (.v 1) (.g 0)) (.cons (.ret (.sl true (.v 0) (.some (.k (.int 1))) .none))
 .nil) .nil)
 (.cons (.ifs (.cmp .isin (.v 1) (.tup (.cons (.k (.str "let")) (.cons (.k (.str "call")) .nil)))) (.cons (.ret (.sl true (.v 0) (.some (.k (.int 2))) .none))
 .nil) .nil)
 (.cons (.ret (.tup .nil))
 .nil))))⟩
noncomputable def dY:List PySem.Str:=["program", "name", "function"]
noncomputable def dg:Fn:=⟨2,3,[],false,
 (.cons (.for [2] (.e (.v 0)) (.cons (.ifs (.cmp .eq (.idx (.v 2) (.k (.int 0))) (.v 1)) (.cons (.ret (.v 2))
 .nil) .nil)
 .nil))
 (.cons (.raise 3 (.cons (.v 1) .nil))
 .nil))⟩
noncomputable def jA:List PySem.Str:=["value"]
noncomputable def iX:Fn:=⟨1,1,[],false,
 (.cons (.ifs (.CV (.v 0) .tuple) (.cons (.ret (.idx (.v 0) (.k (.int 1))))
 .nil) .nil)
 (.cons (.ret (.k (.int 1)))
 .nil))⟩
noncomputable def jD:List PySem.Str:=["word", "first", "second", "size"]
noncomputable def fY:Fn:=⟨3,4,[],false,
 (.cons (.set 3 (.op .add true (.op .add true (.k (.int 1)) (.call 2 (.cons (.v 1) .nil))) (.call 2 (.cons (.v 2) .nil))))
 (.cons (.ifs (.cmp .gt (.v 3) (.g 1)) (.cons (.raise 5 (.cons (.v 0) (.cons (.v 3) .nil)))
 .nil) .nil)
 (.cons (.ret (.tup (.cons (.v 0) (.cons (.v 3) (.cons (.v 1) (.cons (.v 2) .nil))))))
 .nil)))⟩
noncomputable def dG:List PySem.Str:=["number"]
noncomputable def cX:Fn:=⟨1,1,[],false,
 (.cons (.ifs (.cmp .ge (.qu .abs (.v 0)) (.op .pow true (.k (.int 10)) (.k (.int 60)))) (.cons (.raise 5 .nil)
 .nil) .nil)
 .nil)⟩
noncomputable def iY:List PySem.Str:=["word", "first", "second", "number"]
noncomputable def gO:Fn:=⟨3,4,[],false,
 (.cons (.ifs (.cmp .eq (.v 0) (.k (.str "less"))) (.cons (.ret (.CW (.cmp .lt (.v 1) (.v 2)) (.k (.int 1)) (.k (.int 0))))
 .nil) .nil)
 (.cons (.ifs (.cmp .eq (.v 0) (.k (.str "plus"))) (.cons (.set 3 (.op .add true (.v 1) (.v 2)))
 .nil) (.cons (.ifs (.cmp .eq (.v 0) (.k (.str "minus"))) (.cons (.set 3 (.op .sub true (.v 1) (.v 2)))
 .nil) (.cons (.set 3 (.op .mul true (.v 1) (.v 2)))
 .nil))
 .nil))
 (.cons (.ex (.call 4 (.cons (.v 3) .nil)))
 (.cons (.ret (.v 3))
 .nil))))⟩
noncomputable def iB:List PySem.Str:=["word", "value"]
noncomputable def fO:Fn:=⟨2,2,[],false,
 (.cons (.ifs (.cmp .A2 (.v 1) (.k .aq)) (.cons (.raise 6 (.cons (.v 0) .nil))
 .nil) .nil)
 (.cons (.ifs (.cmp .isin (.v 0) (.tup (.cons (.k (.str "first")) (.cons (.k (.str "head")) .nil)))) (.cons (.ret (.idx (.v 1) (.k (.int 2))))
 .nil) .nil)
 (.cons (.ret (.idx (.v 1) (.k (.int 3))))
 .nil)))⟩
noncomputable def jC:List PySem.Str:=["word", "given"]
noncomputable def mw:Fn:=⟨2,2,[],false,
 (.cons (.ifs (.cmp .isin (.v 0) (.tup (.cons (.k (.str "plus")) (.cons (.k (.str "minus")) (.cons (.k (.str "times")) (.cons (.k (.str "less")) .nil)))))) (.cons (.ret (.call 5 (.cons (.v 0) (.cons (.idx (.v 1) (.k (.int 0))) (.cons (.idx (.v 1) (.k (.int 1))) .nil)))))
 .nil) .nil)
 (.cons (.ifs (.cmp .isin (.v 0) (.tup (.cons (.k (.str "pair")) (.cons (.k (.str "cons")) .nil)))) (.cons (.ret (.call 3 (.cons (.v 0) (.cons (.idx (.v 1) (.k (.int 0))) (.cons (.idx (.v 1) (.k (.int 1))) .nil)))))
 .nil) .nil)
 (.cons (.ifs (.cmp .eq (.v 0) (.k (.str "none"))) (.cons (.ret (.CW (.cmp .A2 (.idx (.v 1) (.k (.int 0))) (.k .aq)) (.k (.int 1)) (.k (.int 0))))
 .nil) .nil)
 (.cons (.ret (.call 6 (.cons (.v 0) (.cons (.idx (.v 1) (.k (.int 0))) .nil))))
 .nil))))⟩
noncomputable def nL:List PySem.Str:=["value", "members"]
noncomputable def zO:Fn:=⟨1,2,[],true,
 (.cons (.ifs (.CV (.v 0) .int) (.cons (.ret (.v 0))
 .nil) .nil)
 (.cons (.ifs (.and (.cmp .kX (.v 0) (.k .aq)) (.cmp .eq (.idx (.v 0) (.k (.int 0))) (.k (.str "pair")))) (.cons (.ret (.tup (.cons (.call 8 (.cons (.idx (.v 0) (.k (.int 2))) .nil)) (.cons (.call 8 (.cons (.idx (.v 0) (.k (.int 3))) .nil)) .nil))))
 .nil) .nil)
 (.cons (.set 1 (.lst false .nil))
 (.cons (.while (.cmp .kX (.v 0) (.k .aq)) (.cons (.ex (.eU .append true (.v 1) (.cons (.call 8 (.cons (.idx (.v 0) (.k (.int 2))) .nil)) .nil)))
 (.cons (.set 0 (.idx (.v 0) (.k (.int 3))))
 .nil)))
 (.cons (.ret (.v 1))
 .nil)))))⟩
noncomputable def eN:List PySem.Str:=["begun", "under_way", "most"]
noncomputable def dX:Fn:=⟨3,3,[],false,
 (.cons (.ifs (.cmp .gt (.op .add true (.v 0) (.k (.int 1))) (.v 2)) (.cons (.raise 7 .nil)
 .nil) .nil)
 (.cons (.ifs (.cmp .gt (.op .add true (.v 1) (.k (.int 1))) (.g 2)) (.cons (.raise 8 (.cons (.g 2) .nil))
 .nil) .nil)
 .nil))⟩
noncomputable def iA:List PySem.Str:=["program", "numbers", "most", "run"]
noncomputable def fN:Fn:=⟨3,4,[],false,
 (.cons (.set 3 (.new 0 11 (.cons (.v 0) (.cons (.v 2) .nil))))
 (.cons (.ex (.cZ 0 17 "put_off_body" (.v 3) (.cons (.k (.str "main")) (.cons (.v 1) .nil))))
 (.cons (.while (.cmp .ne (.fld (.v 3) "todo") (.lst true .nil)) (.cons (.ex (.cZ 0 18 "do_next" (.v 3) .nil))
 .nil))
 (.cons (.ret (.call 8 (.cons (.eU .pop true (.fld (.v 3) "waiting") .nil) .nil)))
 .nil))))⟩
noncomputable def c6:List PySem.Str:=["self", "program", "most"]
noncomputable def cF:Fn:=⟨3,3,[],false,
 (.cons (.eB (.v 0) "program" (.v 1))
 (.cons (.eB (.v 0) "most" (.v 2))
 (.cons (.eB (.v 0) "begun" (.k (.int 0)))
 (.cons (.eB (.v 0) "under_way" (.k (.int 0)))
 (.cons (.eB (.v 0) "todo" (.lst false .nil))
 (.cons (.eB (.v 0) "waiting" (.lst false .nil))
 .nil))))))⟩
noncomputable def dH:List PySem.Str:=["self", "step", "part", "names"]
noncomputable def cY:Fn:=⟨4,4,[],false,
 (.cons (.ex (.eU .append true (.fld (.v 0) "todo") (.cons (.tup (.cons (.v 1) (.cons (.v 2) (.cons (.v 3) .nil)))) .nil)))
 .nil)⟩
noncomputable def eS:List PySem.Str:=["self", "part", "names", "word", "within"]
noncomputable def br:Fn:=⟨3,5,[],false,
 (.cons (.set 3 (.idx (.v 1) (.k (.int 0))))
 (.cons (.ifs (.cmp .eq (.v 3) (.k (.str "number"))) (.cons (.ex (.eU .append true (.fld (.v 0) "waiting") (.cons (.idx (.v 1) (.k (.int 1))) .nil)))
 .nil) (.cons (.ifs (.cmp .eq (.v 3) (.k (.str "name"))) (.cons (.ex (.eU .append true (.fld (.v 0) "waiting") (.cons (.idx (.v 2) (.idx (.v 1) (.k (.int 1)))) .nil)))
 .nil) (.cons (.ifs (.cmp .eq (.v 3) (.k (.str "nil"))) (.cons (.ex (.eU .append true (.fld (.v 0) "waiting") (.cons (.k .aq) .nil)))
 .nil) (.cons (.ifs (.cmp .isin (.v 3) (.tup (.cons (.k (.str "let")) (.cons (.k (.str "if")) .nil)))) (.cons (.ex (.cZ 0 12 "put_off" (.v 0) (.cons (.k (.str "go on")) (.cons (.v 1) (.cons (.v 2) .nil)))))
 (.cons (.ex (.cZ 0 12 "put_off" (.v 0) (.cons (.k (.str "begin")) (.cons (.idx (.call 0 (.cons (.v 1) .nil)) (.k (.int 0))) (.cons (.v 2) .nil)))))
 .nil)) (.cons (.ex (.cZ 0 12 "put_off" (.v 0) (.cons (.k (.str "end")) (.cons (.v 1) (.cons (.v 2) .nil)))))
 (.cons (.for [4] (.rev (.call 0 (.cons (.v 1) .nil))) (.cons (.ex (.cZ 0 12 "put_off" (.v 0) (.cons (.k (.str "begin")) (.cons (.v 4) (.cons (.v 2) .nil)))))
 .nil))
 .nil)))
 .nil))
 .nil))
 .nil))
 .nil))⟩
noncomputable def eO:List PySem.Str:=["self", "part", "names", "value", "known"]
noncomputable def dZ:Fn:=⟨3,5,[],false,
 (.cons (.set 3 (.eU .pop true (.fld (.v 0) "waiting") .nil))
 (.cons (.ifs (.cmp .eq (.idx (.v 1) (.k (.int 0))) (.k (.str "let"))) (.cons (.set 4 (.blt .dict false (.cons (.v 2) .nil)))
 (.cons (.vD (.v 4) (.idx (.v 1) (.k (.int 1))) (.v 3))
 (.cons (.ex (.cZ 0 12 "put_off" (.v 0) (.cons (.k (.str "begin")) (.cons (.idx (.v 1) (.k (.int 3))) (.cons (.v 4) .nil)))))
 .nil))) (.cons (.ifs (.cmp .ne (.v 3) (.k (.int 0))) (.cons (.ex (.cZ 0 12 "put_off" (.v 0) (.cons (.k (.str "begin")) (.cons (.idx (.v 1) (.k (.int 2))) (.cons (.v 2) .nil)))))
 .nil) (.cons (.ex (.cZ 0 12 "put_off" (.v 0) (.cons (.k (.str "begin")) (.cons (.idx (.v 1) (.k (.int 3))) (.cons (.v 2) .nil)))))
 .nil))
 .nil))
 .nil))⟩
noncomputable def fP:List PySem.Str:=["self", "part", "given"]
noncomputable def fQ:Fn:=⟨2,3,[],false,
 (.cons (.set 2 (.comp false [0] [1] (.eU .pop true (.fld (.v 0) "waiting") .nil) (.e (.call 0 (.cons (.v 1) .nil))) .none))
 (.cons (.ex (.eU .reverse true (.v 2) .nil))
 (.cons (.ifs (.cmp .eq (.idx (.v 1) (.k (.int 0))) (.k (.str "call"))) (.cons (.ex (.cZ 0 16 "call" (.v 0) (.cons (.idx (.v 1) (.k (.int 1))) (.cons (.v 2) .nil))))
 .nil) (.cons (.ex (.eU .append true (.fld (.v 0) "waiting") (.cons (.call 7 (.cons (.idx (.v 1) (.k (.int 0))) (.cons (.v 2) .nil))) .nil)))
 .nil))
 .nil)))⟩
noncomputable def fm:List PySem.Str:=["self", "name", "given"]
noncomputable def eY:Fn:=⟨3,3,[],false,
 (.cons (.ex (.call 9 (.cons (.fld (.v 0) "begun") (.cons (.fld (.v 0) "under_way") (.cons (.fld (.v 0) "most") .nil)))))
 (.cons (.eB (.v 0) "begun" (.op .add false (.fld (.v 0) "begun") (.k (.int 1))))
 (.cons (.eB (.v 0) "under_way" (.op .add false (.fld (.v 0) "under_way") (.k (.int 1))))
 (.cons (.ex (.cZ 0 12 "put_off" (.v 0) (.cons (.k (.str "back")) (.cons (.k .aq) (.cons (.k .aq) .nil)))))
 (.cons (.ex (.cZ 0 17 "put_off_body" (.v 0) (.cons (.v 1) (.cons (.v 2) .nil))))
 .nil)))))⟩
noncomputable def cy:List PySem.Str:=["self", "name", "given", "function", "takers"]
noncomputable def bI:Fn:=⟨3,5,[],false,
 (.cons (.set 3 (.call 1 (.cons (.fld (.v 0) "program") (.cons (.v 1) .nil))))
 (.cons (.set 4 (.comp true [] [0] (.idx (.v 0) (.k (.int 0))) (.e (.idx (.v 3) (.k (.int 1)))) .none))
 (.cons (.ex (.cZ 0 12 "put_off" (.v 0) (.cons (.k (.str "begin")) (.cons (.idx (.v 3) (.k (.int 3))) (.cons (.dz (.v 4) (.v 2)) .nil)))))
 .nil)))⟩
noncomputable def dI:List PySem.Str:=["self", "doing"]
noncomputable def aU:Fn:=⟨1,2,[],false,
 (.cons (.set 1 (.eU .pop true (.fld (.v 0) "todo") .nil))
 (.cons (.ifs (.cmp .eq (.idx (.v 1) (.k (.int 0))) (.k (.str "begin"))) (.cons (.ex (.cZ 0 13 "begin" (.v 0) (.cons (.idx (.v 1) (.k (.int 1))) (.cons (.idx (.v 1) (.k (.int 2))) .nil))))
 .nil) (.cons (.ifs (.cmp .eq (.idx (.v 1) (.k (.int 0))) (.k (.str "go on"))) (.cons (.ex (.cZ 0 14 "go_on" (.v 0) (.cons (.idx (.v 1) (.k (.int 1))) (.cons (.idx (.v 1) (.k (.int 2))) .nil))))
 .nil) (.cons (.ifs (.cmp .eq (.idx (.v 1) (.k (.int 0))) (.k (.str "end"))) (.cons (.ex (.cZ 0 15 "end" (.v 0) (.cons (.idx (.v 1) (.k (.int 1))) .nil)))
 .nil) (.cons (.eB (.v 0) "under_way" (.op .sub false (.fld (.v 0) "under_way") (.k (.int 1))))
 .nil))
 .nil))
 .nil))
 .nil))⟩
noncomputable def iC:List PySem.Str:=["_law_cell"]
noncomputable def jm:Fn:=⟨1,1,[],false,
 (.cons (.ret (.op .mod true (.op .mul true (.op .mul true (.op .add true (.op .mod true (.v 0) (.k (.int 2147483647))) (.k (.int 11))) (.k (.int 48271))) (.k (.int 69621))) (.k (.int 2147483629))))
 .nil)⟩
noncomputable def fk:List PySem.Str:=["_law_again", "_law_body", "_law_down", "_law_twice"]
noncomputable def eW:Fn:=⟨0,4,[],false,
 (.cons (.set 0 (.tup (.cons (.k (.str "call")) (.cons (.k (.str "down")) (.cons (.tup (.cons (.k (.str "minus")) (.cons (.tup (.cons (.k (.str "name")) (.cons (.k (.str "n")) .nil))) (.cons (.tup (.cons (.k (.str "number")) (.cons (.k (.int 1)) .nil))) .nil)))) .nil)))))
 (.cons (.set 1 (.tup (.cons (.k (.str "if")) (.cons (.tup (.cons (.k (.str "less")) (.cons (.tup (.cons (.k (.str "name")) (.cons (.k (.str "n")) .nil))) (.cons (.tup (.cons (.k (.str "number")) (.cons (.k (.int 1)) .nil))) .nil)))) (.cons (.tup (.cons (.k (.str "nil")) (.cons (.tup (.cons (.k (.str "num")) .nil)) .nil))) (.cons (.tup (.cons (.k (.str "cons")) (.cons (.tup (.cons (.k (.str "name")) (.cons (.k (.str "n")) .nil))) (.cons (.v 0) .nil)))) .nil))))))
 (.cons (.set 2 (.tup (.cons (.k (.str "down")) (.cons (.lst true (.cons (.tup (.cons (.k (.str "n")) (.cons (.tup (.cons (.k (.str "num")) .nil)) .nil))) .nil)) (.cons (.tup (.cons (.k (.str "list")) (.cons (.tup (.cons (.k (.str "num")) .nil)) .nil))) (.cons (.v 1) .nil))))))
 (.cons (.set 3 (.tup (.cons (.k (.str "call")) (.cons (.k (.str "twice")) (.cons (.tup (.cons (.k (.str "times")) (.cons (.tup (.cons (.k (.str "name")) (.cons (.k (.str "n")) .nil))) (.cons (.tup (.cons (.k (.str "number")) (.cons (.k (.int 2)) .nil))) .nil)))) .nil)))))
 (.cons (.ret (.lst true (.cons (.v 2) (.cons (.tup (.cons (.k (.str "twice")) (.cons (.lst true (.cons (.tup (.cons (.k (.str "n")) (.cons (.tup (.cons (.k (.str "num")) .nil)) .nil))) .nil)) (.cons (.tup (.cons (.k (.str "num")) .nil)) (.cons (.v 3) .nil))))) .nil))))
 .nil)))))⟩
noncomputable def i6:List PySem.Str:=["_law_form", "_law_down"]
noncomputable def ku:Fn:=⟨1,2,[],false,
 (.cons (.set 1 (.tup (.cons (.k (.str "call")) (.cons (.k (.str "down")) (.cons (.tup (.cons (.k (.str "name")) (.cons (.k (.str "u")) .nil))) .nil)))))
 (.cons (.ifs (.cmp .eq (.v 0) (.k (.int 0))) (.cons (.ret (.tup (.cons (.k (.str "main")) (.cons (.lst true (.cons (.tup (.cons (.k (.str "u")) (.cons (.tup (.cons (.k (.str "num")) .nil)) .nil))) .nil)) (.cons (.tup (.cons (.k (.str "list")) (.cons (.tup (.cons (.k (.str "num")) .nil)) .nil))) (.cons (.v 1) .nil))))))
 .nil) .nil)
 (.cons (.ifs (.cmp .eq (.v 0) (.k (.int 1))) (.cons (.ret (.tup (.cons (.k (.str "main")) (.cons (.lst true (.cons (.tup (.cons (.k (.str "u")) (.cons (.tup (.cons (.k (.str "num")) .nil)) .nil))) .nil)) (.cons (.tup (.cons (.k (.str "num")) .nil)) (.cons (.tup (.cons (.k (.str "plus")) (.cons (.tup (.cons (.k (.str "none")) (.cons (.v 1) .nil))) (.cons (.tup (.cons (.k (.str "none")) (.cons (.v 1) .nil))) .nil)))) .nil))))))
 .nil) .nil)
 (.cons (.ret (.tup (.cons (.k (.str "main")) (.cons (.lst true (.cons (.tup (.cons (.k (.str "u")) (.cons (.tup (.cons (.k (.str "num")) .nil)) .nil))) .nil)) (.cons (.tup (.cons (.k (.str "num")) .nil)) (.cons (.tup (.cons (.k (.str "call")) (.cons (.k (.str "twice")) (.cons (.tup (.cons (.k (.str "name")) (.cons (.k (.str "u")) .nil))) .nil)))) .nil))))))
 .nil))))⟩
noncomputable def gk:List PySem.Str:=["_law_calls", "_law_begun", "_law_upto", "_law_under"]
noncomputable def gC:Fn:=⟨3,4,[],false,
 (.cons (.for [3] (.fj (.k (.int 1)) (.op .add true (.v 0) (.k (.int 1)))) (.cons (.ifs (.cmp .gt (.op .add true (.v 1) (.v 3)) (.v 2)) (.cons (.ret (.k (.str "long")))
 .nil) .nil)
 (.cons (.ifs (.cmp .gt (.v 3) (.k (.int 12))) (.cons (.ret (.k (.str "deep")))
 .nil) .nil)
 .nil)))
 (.cons (.ret (.k (.str "")))
 .nil))⟩
noncomputable def jB:List PySem.Str:=["_law_form", "_law_number", "_law_upto", "_law_calls", "_law_under", "_law_word_here"]
noncomputable def fX:Fn:=⟨3,6,[],false,
 (.cons (.set 3 (.op .add true (.k (.int 1)) (.mx true (.k (.int 0)) (.v 1))))
 (.cons (.ifs (.cmp .eq (.v 0) (.k (.int 2))) (.cons (.for [4] (.fj (.k (.int 1)) (.k (.int 300))) (.cons (.ifs (.cmp .ge (.qu .abs (.v 1)) (.op .pow true (.k (.int 10)) (.k (.int 60)))) (.cons (.ret (.tup (.cons (.k (.str "great")) (.cons (.k .aq) .nil))))
 .nil) .nil)
 (.cons (.ifs (.cmp .gt (.v 4) (.v 2)) (.cons (.ret (.tup (.cons (.k (.str "long")) (.cons (.k .aq) .nil))))
 .nil) .nil)
 (.cons (.ifs (.cmp .gt (.v 4) (.k (.int 12))) (.cons (.ret (.tup (.cons (.k (.str "deep")) (.cons (.k .aq) .nil))))
 .nil) .nil)
 (.cons (.set 1 (.op .mul true (.k (.int 2)) (.v 1)))
 .nil)))))
 .nil) .nil)
 (.cons (.set 5 (.call 22 (.cons (.mx false (.v 3) (.k (.int 40))) (.cons (.k (.int 0)) (.cons (.v 2) .nil)))))
 (.cons (.ifs (.and (.cmp .eq (.v 0) (.k (.int 1))) (.cmp .eq (.v 5) (.k (.str "")))) (.cons (.set 5 (.call 22 (.cons (.mx false (.v 3) (.k (.int 40))) (.cons (.v 3) (.cons (.v 2) .nil)))))
 .nil) .nil)
 (.cons (.ifs (.cmp .ne (.v 5) (.k (.str ""))) (.cons (.ret (.tup (.cons (.v 5) (.cons (.k .aq) .nil))))
 .nil) .nil)
 (.cons (.ifs (.cmp .eq (.v 0) (.k (.int 1))) (.cons (.ret (.tup (.cons (.k (.str "")) (.cons (.op .mul true (.k (.int 2)) (.qu .int (.cmp .lt (.v 1) (.k (.int 1))))) .nil))))
 .nil) .nil)
 (.cons (.ret (.tup (.cons (.k (.str "")) (.cons (.EK true (.v 1) (.k (.int 0))) .nil))))
 .nil)))))))⟩
noncomputable def i0:List PySem.Str:=["_law_error", "_law_found"]
noncomputable def kr:Fn:=⟨1,2,[],false,
 (.cons (.set 1 (.lst true (.cons (.jh (.v 0) (some 7)) (.cons (.jh (.v 0) (some 8)) (.cons (.jh (.v 0) (some 5)) .nil)))))
 (.cons (.set 1 (.op .add true (.v 1) (.lst true (.cons (.jh (.v 0) (some 6)) (.cons (.jh (.v 0) (some 9)) (.cons (.jh (.v 0) (some 4)) .nil))))))
 (.cons (.set 1 (.op .add true (.v 1) (.lst true (.cons (.jh (.v 0) (some 3)) (.cons (.jh (.v 0) (some 11)) (.cons (.jh (.v 0) (some 10)) .nil))))))
 (.cons (.set 1 (.op .add true (.v 1) (.lst true (.cons (.jh (.v 0) (some 1)) (.cons (.jh (.v 0) (some 2)) .nil)))))
 (.cons (.ifs (.or (.not (.jh (.v 0) none)) (.cmp .ne (.blt .len true (.cons (.comp true [] [0] (.v 0) (.AZ (.v 1)) (.some (.v 0))) .nil)) (.k (.int 1)))) (.cons (.ret (.k (.str "other")))
 .nil) .nil)
 (.cons (.ret (.idx (.op .add true (.lst true (.cons (.k (.str "long")) (.cons (.k (.str "deep")) (.cons (.k (.str "great")) .nil)))) (.op .mul true (.lst true (.cons (.k (.str "other")) .nil)) (.k (.int 8)))) (.Ii false (.v 1) (.cons (.k (.bl true)) .nil))))
 .nil))))))⟩
noncomputable def pX:List PySem.Str:=["_law_script", "_law_cell", "_law_number", "_law_given", "_law_form", "_law_upto", "_law_word_here", "_law_found", "e"]
noncomputable def zP:Fn:=⟨1,9,[],false,
 (.cons (.for [1] (.e (.op .add true (.lst true (.cons (.k (.int 0)) .nil)) (.sl true (.v 0) .none (.some (.k (.int 30)))))) (.cons (.set 2 (.call 19 (.cons (.v 1) .nil)))
 (.cons (.set 3 (.op .sub true (.op .mod true (.op .fdiv true (.v 2) (.k (.int 3))) (.k (.int 24))) (.k (.int 3))))
 (.cons (.ifs (.cmp .eq (.op .mod true (.op .fdiv true (.v 2) (.k (.int 72))) (.k (.int 4))) (.k (.int 1))) (.cons (.set 3 (.op .mul true (.op .add true (.op .fdiv true (.op .mod true (.v 1) (.op .pow true (.k (.int 10)) (.k (.int 60)))) (.k (.int 10))) (.op .pow true (.k (.int 10)) (.k (.int 49)))) (.op .sub true (.k (.int 1)) (.op .mul true (.k (.int 2)) (.op .mod true (.op .fdiv true (.v 2) (.k (.int 288))) (.k (.int 2)))))))
 .nil) .nil)
 (.cons (.set 4 (.op .mod true (.v 2) (.k (.int 3))))
 (.cons (.set 5 (.op .mod true (.op .fdiv true (.v 2) (.k (.int 576))) (.k (.int 31))))
 (.cons (.set 6 (.k (.str "")))
 (.cons (.set 7 (.k .aq))
 (.cons (.try (.cons (.ifs (.cmp .eq (.op .mod true (.op .fdiv true (.v 2) (.k (.int 17856))) (.k (.int 2))) (.k (.int 0))) (.cons (.set 7 (.call 10 (.cons (.op .add true (.call 20 .nil) (.lst true (.cons (.call 21 (.cons (.v 4) .nil)) .nil))) (.cons (.lst true (.cons (.v 3) .nil)) (.cons (.v 5) .nil)))))
 .nil) (.cons (.set 7 (.iH 10 (.cons (.op .add true (.call 20 .nil) (.lst true (.cons (.call 21 (.cons (.v 4) .nil)) .nil))) (.cons (.lst true (.cons (.v 3) .nil)) .nil)) (.v 5)))
 .nil))
 .nil) (.as 0 8 (.cons (.set 6 (.call 24 (.cons (.v 8) .nil)))
 .nil) .nil) .nil)
 (.cons (.ifs (.cmp .ne (.tup (.cons (.v 6) (.cons (.v 7) .nil))) (.call 23 (.cons (.v 4) (.cons (.v 3) (.cons (.v 5) .nil))))) (.cons (.ret (.k (.bl false)))
 .nil) .nil)
 .nil))))))))))
 (.cons (.ret (.k (.bl true)))
 .nil))⟩
noncomputable def fns:List Fn:=[uB,dg,iX,fY,cX,gO,fO,mw,zO,dX,fN,cF,cY,br,dZ,fQ,eY,bI,aU,jm,eW,ku,gC,fX,kr,zP]
noncomputable def cst:List D:=[(.dct [(.inr "plus"), (.inr "minus"), (.inr "times"), (.inr "less"), (.inr "pair"), (.inr "first"), (.inr "second"), (.inr "cons"), (.inr "head"), (.inr "tail"), (.inr "none"), (.inr "if")] [(.int 2), (.int 2), (.int 2), (.int 2), (.int 2), (.int 1), (.int 1), (.int 2), (.int 1), (.int 1), (.int 1), (.int 3)]), (.int 1000), (.int 12)]
noncomputable def subs:List (Nat×Nat):=[(0,0),(1,0),(1,1),(2,0),(2,2),(3,0),(3,3),(4,0),(4,4),(5,0),(5,5),(6,0),(6,6),(7,0),(7,7),(8,0),(8,8),(9,0),(9,9),(10,0),(10,10),(11,0),(11,11)]
noncomputable def ao:kR:=⟨fun i=>fns[i]?,fun i=>cst[i]?,100000,fun a b=>subs.contains (a,b)⟩
end bz
end
section
set_option maxHeartbeats 0
namespace bz
open Fg PySem PySem.Spec L2
noncomputable abbrev JH:Program:=PySem.Challenge.pw_fieldgate_k14_plain_refusals
noncomputable def b9(i:Nat):Stmt:=JH.main.body.getD i (.Pass ⟨0,0,0,0⟩)
noncomputable def tb:Tb:=⟨[
 ⟨"inner", "inner", b9 15, ["part"], kZ, 0, none⟩,
 ⟨"function_called", "function_called", b9 17, ["program", "name"], dY, 1, none⟩,
 ⟨"size_of", "size_of", b9 21, ["value"], jA, 2, none⟩,
 ⟨"cell_of", "cell_of", b9 22, ["word", "first", "second"], jD, 3, none⟩,
 ⟨"want_few_figures", "want_few_figures", b9 23, ["number"], dG, 4, none⟩,
 ⟨"reckoned", "reckoned", b9 24, ["word", "first", "second"], iY, 5, none⟩,
 ⟨"looked_up", "looked_up", b9 25, ["word", "value"], iB, 6, none⟩,
 ⟨"come_of", "come_of", b9 26, ["word", "given"], jC, 7, none⟩,
 ⟨"told", "told", b9 27, ["value"], nL, 8, none⟩,
 ⟨"want_few_calls", "want_few_calls", b9 28, ["begun", "under_way", "most"], eN, 9, none⟩,
 ⟨"plain_run", "plain_run", b9 30, ["program", "numbers", "most"], iA, 10, some 200⟩,
 ⟨"_law_mixed", "_law_mixed", b9 32, ["_law_cell"], iC, 19, none⟩,
 ⟨"_law_functions", "_law_functions", b9 33, [], fk, 20, none⟩,
 ⟨"_law_main", "_law_main", b9 34, ["_law_form"], i6, 21, none⟩,
 ⟨"_law_counted", "_law_counted", b9 35, ["_law_calls", "_law_begun", "_law_upto"], gk, 22, none⟩,
 ⟨"_law_due", "_law_due", b9 36, ["_law_form", "_law_number", "_law_upto"], jB, 23, none⟩,
 ⟨"_law_word", "_law_word", b9 37, ["_law_error"], i0, 24, none⟩,
 ⟨"law", "law", b9 38, ["_law_script"], pX, 25, none⟩],
 ["PlainRun"],
 [(0, ⟨"__init__", "PlainRun.__init__", inClass (b9 29) 0, ["self", "program", "most"], c6, 11, none⟩),
 (0, ⟨"put_off", "PlainRun.put_off", inClass (b9 29) 1, ["self", "step", "part", "names"], dH, 12, none⟩),
 (0, ⟨"begin", "PlainRun.begin", inClass (b9 29) 2, ["self", "part", "names"], eS, 13, none⟩),
 (0, ⟨"go_on", "PlainRun.go_on", inClass (b9 29) 3, ["self", "part", "names"], eO, 14, none⟩),
 (0, ⟨"end", "PlainRun.end", inClass (b9 29) 4, ["self", "part"], fP, 15, none⟩),
 (0, ⟨"call", "PlainRun.call", inClass (b9 29) 5, ["self", "name", "given"], fm, 16, none⟩),
 (0, ⟨"put_off_body", "PlainRun.put_off_body", inClass (b9 29) 6, ["self", "name", "given"], cy, 17, none⟩),
 (0, ⟨"do_next", "PlainRun.do_next", inClass (b9 29) 7, ["self"], dI, 18, none⟩)],
 ["GateError", "NoText", "Twice", "NoName", "NoKind", "TooGreat", "Empty", "TooLong", "TooDeep", "Gone", "NoRow", "NoProgram"],
 [("MOST_SIZE", 1, 1000), ("MOST_UNDER_WAY", 2, 12)],
 ["len", "tuple", "list", "dict", "int", "abs", "max", "min", "range", "isinstance", "zip", "reversed", "ValueError"],
 ["program", "most", "begun", "under_way", "todo", "waiting"],
 [],
 [("PARTS_BEHIND", 0, [("plus", 2), ("minus", 2), ("times", 2), ("less", 2), ("pair", 2), ("first", 1), ("second", 1), ("cons", 2), ("head", 1), ("tail", 1), ("none", 1), ("if", 3)])],
 ["_law_word"]⟩
noncomputable def Iv:Program:=W.view JH [38]
noncomputable def hdL:List Str:=[("GateError" : Str), ("NoText" : Str), ("Twice" : Str), ("NoName" : Str), ("NoKind" : Str), ("TooGreat" : Str), ("Empty" : Str), ("TooLong" : Str), ("TooDeep" : Str), ("Gone" : Str), ("NoRow" : Str), ("NoProgram" : Str), ("PARTS_BEHIND" : Str), ("inner" : Str), ("function_called" : Str), ("MOST_SIZE" : Str), ("MOST_UNDER_WAY" : Str), ("size_of" : Str), ("cell_of" : Str), ("want_few_figures" : Str), ("reckoned" : Str), ("looked_up" : Str), ("come_of" : Str), ("told" : Str), ("want_few_calls" : Str), ("PlainRun" : Str), ("plain_run" : Str), ("_law_mixed" : Str), ("_law_functions" : Str), ("_law_main" : Str), ("_law_counted" : Str), ("_law_due" : Str), ("_law_word" : Str)]
noncomputable def hdX(s:Shared):Bool:=W.xlAt Iv [] s&&W.recOk (W.RowW.records PySem.Challenge.rw_fieldgate_k14_plain_refusals.row.toRowW) s
theorem bth2{α β γ δ:Type}{o:Option α}{t:α->Option β}{f:β->γ}{g:β->δ}{x:γ}{y:δ}(a:o.map (fun s=>(t s).map f)=some (some x))(b:o.map (fun s=>(t s).map g)=some (some y)):o.map (fun s=>(t s).map fun u=>(f u,g u))=some (some (x,y)):=by
 cases o with
 | none=>cases a
 | some s=>
  simp only[Option.map_some,Option.some.injEq] at *
  cases h:t s with
  | none=>rw[h] at a;cases a
  | some u=>
   rw[h] at a b
   cases a
   cases b
   rfl
noncomputable def lh(w:World)(b:Bool){α:Type}(f:Shared->α):=(W.fencedOpening treeTable JH w 20000).map fun s₀=>(W.topFrom treeTable JH (w.withFollow "special-get-raises" b) 20000 s₀).map f
noncomputable def lhO(s:Shared):=W.openSeen Iv hdL (importedModules JH.main.body) hdX true s
theorem lfa0(w:World):lh w false lhO=some (some (W.openGood Iv hdL)):=by kernel_rfl
theorem lfa1(w:World):lh w true lhO=some (some (W.openGood Iv hdL)):=by kernel_rfl
noncomputable def lhS(s:Shared):=tb.qt (allOf s.heap)
theorem lfc0(w:World):lh w false (fun s=>(lhS s).1)=some (some (tb.good ao (w.withFollow "special-get-raises" false)).1):=by kernel_rfl
theorem lfd0(w:World):lh w false (fun s=>(lhS s).2)=some (some (tb.good ao (w.withFollow "special-get-raises" false)).2):=by kernel_rfl
theorem lfb0(w:World):lh w false (tb.hook ao).obs=some (some ((tb.hook ao).val (w.withFollow "special-get-raises" false))):=bth2 (lfc0 w) (lfd0 w)
theorem lfc1(w:World):lh w true (fun s=>(lhS s).1)=some (some (tb.good ao (w.withFollow "special-get-raises" true)).1):=by kernel_rfl
theorem lfd1(w:World):lh w true (fun s=>(lhS s).2)=some (some (tb.good ao (w.withFollow "special-get-raises" true)).2):=by kernel_rfl
theorem lfb1(w:World):lh w true (tb.hook ao).obs=some (some ((tb.hook ao).val (w.withFollow "special-get-raises" true))):=bth2 (lfc1 w) (lfd1 w)
theorem lft0(w:World):(W.fencedOpening treeTable JH w 20000).map (fun s₀=>(W.topFrom treeTable JH (w.withFollow "special-get-raises" false) 20000 s₀).map fun s=>(W.openSeen Iv hdL (importedModules JH.main.body) hdX true s,(tb.hook ao).obs s))=some (some (W.openGood Iv hdL,(tb.hook ao).val (w.withFollow "special-get-raises" false))):=bth2 (lfa0 w) (lfb0 w)
theorem lft1(w:World):(W.fencedOpening treeTable JH w 20000).map (fun s₀=>(W.topFrom treeTable JH (w.withFollow "special-get-raises" true) 20000 s₀).map fun s=>(W.openSeen Iv hdL (importedModules JH.main.body) hdX true s,(tb.hook ao).obs s))=some (some (W.openGood Iv hdL,(tb.hook ao).val (w.withFollow "special-get-raises" true))):=bth2 (lfa1 w) (lfb1 w)
theorem lft:W.LeftO JH Iv hdL hdX (tb.hook ao).obs (tb.hook ao).val 20000:=W.LeftO.of_split "special-get-raises" fun w=>by
 obtain⟨s₀,a,b⟩:=Option.map_eq_some_iff.mp (lft0 w)
 obtain⟨s₁,c,d⟩:=Option.map_eq_some_iff.mp (lft1 w)
 rw[a] at c
 cases c
 rw[a,Option.map_some,b,d]
end bz
end
section
namespace L2
open PySem PySem.Spec PyProof.Rows
noncomputable abbrev Key:=Sum Int Str
noncomputable def j7:Key->Value->Bool
 | .inl k,v=>Value.isInt k v
 | .inr x,v=>Value.isStrOf x v
noncomputable def keyH(w:World):Key->Int
 | .inl k=>hashInt k
 | .inr x=>hashStr w x
theorem aL:∀{k:Key} {v:Value},j7 k v=true->(∃i t,k=Sum.inl i/\v=Value.int i t)\/(∃x t,k=Sum.inr x/\v=Value.str x t)
 | .inl i,v,h=>by
  obtain⟨t,e⟩:=Value.isInt_shape (k:=i) (v:=v) h
  exact .inl ⟨i,t,rfl,e⟩
 | .inr x,v,h=>by
  obtain⟨t,e⟩:=Value.isStrOf_shape (x:=x) (v:=v) h
  exact .inr ⟨x,t,rfl,e⟩
theorem vW(i:Int)(t:Tok):j7 (.inl i) (.int i t)=true:=by simp[j7,Value.isInt]
theorem iV(x:Str)(t:Tok):j7 (.inr x) (.str x t)=true:=by simp[j7,Value.isStrOf]
theorem HB(a b:Int):decide ((Sum.inl a:Key)=Sum.inl b)=(a == b):=by
 by_cases e:a=b
 ·subst e;simp
 ·have h:¬ (Sum.inl a:Key)=Sum.inl b:=fun q=>e (Sum.inl.inj q)
  rw[decide_eq_false h]
  exact (beq_eq_false_iff_ne.mpr e).symm
theorem Hy(a b:Str):decide ((Sum.inr a:Key)=Sum.inr b)=decide (a=b):=by
 by_cases e:a=b
 ·subst e;simp
 ·have h:¬ (Sum.inr a:Key)=Sum.inr b:=fun q=>e (Sum.inr.inj q)
  rw[decide_eq_false h,decide_eq_false e]
theorem HA(a:Int)(b:Str):decide ((Sum.inl a:Key)=Sum.inr b)=false:=decide_eq_false (fun q=>nomatch q)
theorem Hz(a:Str)(b:Int):decide ((Sum.inr a:Key)=Sum.inl b)=false:=decide_eq_false (fun q=>nomatch q)
noncomputable def aI(prog:Program)(w:World):PySem.KeyKind prog w Key where
 is:=j7
 hash:=keyH w
 inj:=fun v a b ha hb=>by
  rcases aL ha with ⟨i,t,rfl,rfl⟩ | ⟨x,t,rfl,rfl⟩
  ·rcases aL hb with ⟨j,u,rfl,e⟩ | ⟨y,u,rfl,e⟩
   ·injection e with e1 _;rw[e1]
   ·exact nomatch e
  ·rcases aL hb with ⟨j,u,rfl,e⟩ | ⟨y,u,rfl,e⟩
   ·exact nomatch e
   ·injection e with e1 _;rw[e1]
 byValue:=fun k v h=>by
  rcases aL h with ⟨i,t,rfl,rfl⟩ | ⟨x,t,rfl,rfl⟩ <;> rfl
 pyHash:=fun hv h=>by
  rcases aL hv with ⟨i,t,rfl,rfl⟩ | ⟨x,t,rfl,rfl⟩
  ·exact wpAny_pyHash_int h
  ·exact wpAny_pyHash_str h
 eqBool:=fun hu hv h=>by
  rcases aL hu with ⟨i,t,rfl,rfl⟩ | ⟨x,t,rfl,rfl⟩
  ·rcases aL hv with ⟨j,u,rfl,rfl⟩ | ⟨y,u,rfl,rfl⟩
   ·rw[HB] at h;exact wpAny_eqBool_int h
   ·rw[HA] at h;exact SeqAt.EqAt.int_str i t y u _ _ _ _ h
  ·rcases aL hv with ⟨j,u,rfl,rfl⟩ | ⟨y,u,rfl,rfl⟩
   ·rw[Hz] at h;exact SeqAt.EqAt.str_int x t j u _ _ _ _ h
   ·rw[Hy] at h;exact wpAny_eqBool_str h
 «strs»:=fun k x t v h=>by
  rcases aL h with ⟨i,u,rfl,e⟩ | ⟨y,u,rfl,e⟩
  ·exact nomatch e
  ·injection e with e1 _
   subst e1
   cases v <;> rfl
theorem pI(prog:Program)(w:World)(i:Int)(t:Tok):(aI prog w).is (.inl i) (.int i t)=true:=vW i t
theorem pH(prog:Program)(w:World)(x:Str)(t:Tok):(aI prog w).is (.inr x) (.str x t)=true:=iV x t
inductive V where
 | aq | bl (b:Bool) | int (i:Int) | str (x:Str) | wR (b:Array UInt8) | NH (b:UInt64) | ref (a:Addr) | ty (n:String)
 deriving DecidableEq
noncomputable def RelV:V->Value->Prop
 | .aq,u=>u=Value.none
 | .bl b,u=>u=Value.bool b
 | .int i,u=>∃t,u=Value.int i t
 | .str x,u=>∃t,u=Value.str x t
 | .wR b,u=>∃t,u=Value.bytes b t
 | .NH b,u=>∃t,u=Value.float b t
 | .ref a,u=>u=Value.ref a
 | .ty n,u=>u=Value.type n
noncomputable abbrev Vals:List V->List Value->Prop:=Paired RelV
theorem Vals.length{xs:List V}{us:List Value}(r:Vals xs us):xs.length=us.length:=Paired.length r
theorem Vals.get:∀{xs:List V} {us:List Value} {i:Nat} {x:V},Vals xs us->xs[i]? = some x->∃u,us[i]? = some u/\RelV x u
 | _,_,_,_,.nil,e=>by simp at e
 | _,_,0,_,.cons r _,e=>by simp at e;subst e;exact⟨_,rfl,r⟩
 | _,_,i+1,x,.cons _ t,e=>by
  obtain⟨u,h1,h2⟩:=Vals.get (i:=i) (x:=x) t (by simpa using e)
  exact⟨u,by simpa using h1,h2⟩
theorem Vals.set{x:V}{u:Value}(r:RelV x u):∀{xs:List V} {us:List Value} (i:Nat),Vals xs us->Vals (xs.set i x) (us.set i u)
 | _,_,_,.nil=>.nil
 | _,_,0,.cons _ t=>.cons r t
 | _,_,i+1,.cons q t=>.cons q (Vals.set r i t)
theorem Vals.append:∀{xs ys:List V} {us ws:List Value},Vals xs us->Vals ys ws->Vals (xs++ys) (us++ws)
 | _,_,_,_,.nil,s=>s
 | _,_,_,_,.cons r t,s=>.cons r (Vals.append t s)
theorem Vals.take:∀{xs:List V} {us:List Value} (n:Nat),Vals xs us->Vals (xs.take n) (us.take n)
 | _,_,0,_=>.nil
 | _,_,_+1,.nil=>.nil
 | _,_,n+1,.cons r t=>.cons r (Vals.take n t)
theorem Vals.drop:∀{xs:List V} {us:List Value} (n:Nat),Vals xs us->Vals (xs.drop n) (us.drop n)
 | _,_,0,r=>r
 | _,_,_+1,.nil=>.nil
 | _,_,n+1,.cons _ t=>Vals.drop n t
noncomputable def gW:Option V->Option Value->Prop
 | some v,some u=>RelV v u
 | none,none=>True
 | _,_=>False
noncomputable def KV{κ:Type}:List (κ×V)->List (κ×Value)->Prop:=Paired fun (p:κ×V) (q:κ×Value)=>p.1=q.1/\RelV p.2 q.2
noncomputable def kV:Key->V
 | .inl i=>.int i
 | .inr x=>.str x
inductive HO where
 | lst (xs:List V)
 | tup (xs:List V)
 | dK (kvs:List (Key×V)) | dT (kvs:List (List Key×V))
 | set (S:Int->Bool) (n:Nat)
 | ins (C dx:Addr) (fs:List (Str×V))
 | own (x:Addr)
 | xd (fs:List (Str×V))
 | met (f x:Addr)
 | Ek (lo hi:Int)
 | dP (o:Obj) (u:HO)
 | D5 (ps:Array Value)
 | ext (φ:Heap->Prop)
noncomputable abbrev Hp:=Addr->Option HO
noncomputable def upd(H:Hp)(a:Addr)(o:HO):Hp:=fun b=>if b=a then some o else H b
theorem av{H:Hp}{a:Addr}{o:HO}:upd H a o a=some o:=by unfold upd;rw[if_pos rfl]
theorem ak{H:Hp}{a b:Addr}{o:HO}(h:b≠a):upd H a o b=H b:=by unfold upd;rw[if_neg h]
theorem Le{H:Hp}{a b:Addr}{o u:HO}(h:H a=some o)(h':H b=some u)(d:o≠u):a≠b:=by
 intro e;subst e;rw[h] at h';exact d (Option.some.inj h')
theorem cR{H:Hp}{a b:Addr}{o:HO}(h:H a=some o)(h':H b=none):a≠b:=by
 intro e;subst e;rw[h] at h';cases h'
section
variable(P:Program)(w:World)
noncomputable def aS(H:Hp)(h:Heap)(a:Addr):HO->Prop
 | .lst xs=>xs.length<=sizeLine/\∃(its:List Value) (n:Nat), Vals xs its/\h.get? a=some { cls:=.type "list", data:=.seq its.toArray n }
 | .tup xs=>xs.length<=sizeLine/\∃its:List Value,Vals xs its/\IsTup h a its.toArray
 | .dK kvs=>kvs.length<=sizeLine/\(a == sysModules)=false/\∃vs,KV kvs vs/\h.DictOf (aI P w) a vs
 | .dT kvs=>kvs.length<=sizeLine/\(a == sysModules)=false/\∃xs:List (List Key×Addr×Value),
   Paired (fun (p:List Key×V) (q:List Key×Addr×Value)=>p.1=q.1/\H q.2.1=some (.tup (p.1.map kV))/\RelV p.2 q.2.2) kvs xs /\
   ∃o es ep,h.get? a=some o/\o.ExactDict/\o.data=.dict es ep/\es.toList=xs.map (entryOfKey (tupleKind (aI P w)))/\(xs.map (·.1)).Nodup
 | .set S n=>h.SetOf (intKind P w) a S n
 | .ins C dx fs=>H dx=some (.own a)/\fs.length<=1000/\dx≠a/\h.get? a=some (PySem.W.instObj C dx) /\
   ∃mA,h.Ns1 dx mA/\(∀f,gW (fs.lookup f) (mA f))/\PySem.Within mA (fs.map (·.1))
 | .own _=>∃o,h.get? a=some o
 | .xd fs=>∃mA,h.Ns1 a mA/\∀f,gW (fs.lookup f) (mA f)
 | .Ek lo hi=>∃t u v, h.get? a=some { cls:=.type "range", data:=.fields #[.int lo t, .int hi u, .int 1 v] }
 | .dP o u=>h.get? a=some o/\aS H h a u
 | .D5 ps=>h.get? a=some { cls:=.none,data:=.fields ps }
 | .met f x=>h.get? a=some (PySem.W.methodObj (.ref f) (.ref x))
 | .ext φ=>φ h/\(∃o,h.get? a=some o)/\∀h1 h2:Heap,φ h1->(∀o,h1.get? a=some o->h2.get? a=some o)->φ h2
noncomputable def gr(H:Hp)(h:Heap):Prop:=∀a o,H a=some o->aS P w H h a o
end
section
variable{P:Program}{w:World}{H H':Hp}{h h':Heap}{a:Addr}{o:HO}
theorem aS.lt(x:aS P w H h a o):a<h.objs.size:=by
 cases o with
 | lst xs=>obtain⟨_,_,_,_,e⟩:=x;exact Heap.lt_size e
 | tup xs=>obtain⟨_,_,_,p⟩:=x;exact p.lt
 | dK kvs=>obtain⟨_,_,_,_,o,_,_,e,_⟩:=x;exact Heap.lt_size e
 | dT kvs=>obtain⟨_,_,_,_,o,_,_,e,_⟩:=x;exact Heap.lt_size e
 | set S n=>obtain⟨o,_,_,_,e,_⟩:=x;exact Heap.lt_size e
 | ins C dx fs=>obtain⟨_,_,_,e,_⟩:=x;exact Heap.lt_size e
 | own y=>obtain⟨_,e⟩:=x;exact Heap.lt_size e
 | xd fs=>obtain⟨_,⟨_,_,_,e,_⟩,_⟩:=x;exact Heap.lt_size e
 | Ek lo hi=>obtain⟨_,_,_,e⟩:=x;exact Heap.lt_size e
 | dP ob u=>obtain⟨e,_⟩:=x;exact Heap.lt_size e
 | D5 ps=>exact Heap.lt_size (show h.get? a=some _ from x)
 | met f y=>exact Heap.lt_size (show h.get? a=some _ from x)
 | ext φ=>obtain⟨_,⟨_,e⟩,_⟩:=x;exact Heap.lt_size e
theorem Paired.Ho{α β:Type}{F G:α->β->Prop}:∀{l₁:List α} {l₂:List β},Paired F l₁ l₂->(∀a b,F a b->G a b)->Paired G l₁ l₂
 | _,_,.nil,_=>.nil
 | _,_,.cons r t,f=>.cons (f _ _ r) (Paired.Ho t f)
theorem aS.stay(x:aS P w H h a o)(k:∀b u,(b=a\/H b=some (.own a))->h.get? b=some u->h'.get? b=some u)
  (ho:∀b,H b=some (.own a)->H' b=some (.own a)) (ht:∀b xs,H b=some (.tup xs)->H' b=some (.tup xs)):aS P w H' h' a o:=by
 induction o with
 | lst xs=>obtain⟨z,its,n,r,e⟩:=x;exact⟨z,its,n,r,k _ _ (.inl rfl) e⟩
 | tup xs=>obtain⟨z,its,r,ob,e,c⟩:=x;exact⟨z,its,r,ob,k _ _ (.inl rfl) e,c⟩
 | dK kvs=>obtain⟨z,y,vs,r,ob,es,ep,e,c⟩:=x;exact⟨z,y,vs,r,ob,es,ep,k _ _ (.inl rfl) e,c⟩
 | dT kvs =>
  obtain⟨z,y,xs,r,ob,es,ep,e,c⟩:=x
  exact⟨z,y,xs,Paired.Ho r fun p q z=>⟨z.1,ht _ _ z.2.1,z.2.2⟩,ob,es,ep,k _ _ (.inl rfl) e,c⟩
 | set S n=>obtain⟨ob,es,ep,t,e,c⟩:=x;exact⟨ob,es,ep,t,k _ _ (.inl rfl) e,c⟩
 | ins C dx fs =>
  obtain⟨d,z,ne,e,mA,⟨od,es,ep,e2,c⟩,r⟩:=x
  exact⟨ho _ d,z,ne,k _ _ (.inl rfl) e,mA,⟨od,es,ep,k _ _ (.inr d) e2,c⟩,r⟩
 | own y=>obtain⟨ob,e⟩:=x;exact⟨ob,k _ _ (.inl rfl) e⟩
 | xd fs=>obtain⟨mA,⟨od,es,ep,e,c⟩,r⟩:=x;exact⟨mA,⟨od,es,ep,k _ _ (.inl rfl) e,c⟩,r⟩
 | Ek lo hi=>obtain⟨t,u,v,e⟩:=x;exact⟨t,u,v,k _ _ (.inl rfl) e⟩
 | dP ob u ih=>obtain⟨e,q⟩:=x;exact⟨k _ _ (.inl rfl) e,ih q⟩
 | D5 ps =>
  have e:h.get? a=some { cls:=.none,data:=.fields ps }:=x
  show h'.get? a=some { cls:=.none,data:=.fields ps }
  exact k a _ (.inl rfl) e
 | met f y =>
  have e:h.get? a=some (PySem.W.methodObj (.ref f) (.ref y)):=x
  show h'.get? a=some (PySem.W.methodObj (.ref f) (.ref y))
  exact k a _ (.inl rfl) e
 | ext φ=>obtain⟨p,⟨o,e⟩,st⟩:=x;exact⟨st _ _ p fun o q=>k _ _ (.inl rfl) q,⟨o,k _ _ (.inl rfl) e⟩,st⟩
theorem gr.lt(x:gr P w H h)(e:H a=some o):a<h.objs.size:=(x a o e).lt
theorem gr.fresh(x:gr P w H h)(e:h.objs.size<=a):H a=none:=by
 cases q:H a with
 | none=>rfl
 | some u=>exact absurd (Nat.lt_of_lt_of_le (x.lt q) e) (Nat.lt_irrefl _)
theorem gr.kept(x:gr P w H h)(k:∀b u,h.get? b=some u->h'.get? b=some u):gr P w H h':=fun a o e =>
 (x a o e).stay (fun b u _ q=>k b u q) (fun _ q=>q) fun _ _ q=>q
theorem gr.laid(x:gr P w H h)(k:∀b u,h.get? b=some u->h'.get? b=some u)(hp:h.objs.size<=a)(new:aS P w (upd H a o) h' a o):gr P w (upd H a o) h':=fun b u e=>by
 have hn:=x.fresh hp
 by_cases hb:b=a
 ·subst hb;rw[av] at e;cases e;exact new
 ·rw[ak hb] at e
  exact (x b u e).stay (fun c v _ q=>k c v q) (fun c q=>by rw[ak (cR q hn)];exact q) fun c xs q=>by rw[ak (cR q hn)];exact q
end
noncomputable def Rd(H:Hp)(a:Addr)(u:HO):Prop:=H a=some u\/∃o,H a=some (.dP o u)
theorem Rd.ok{P:Program}{w:World}{H:Hp}{h:Heap}{a:Addr}{u:HO}(r:Rd H a u)(x:gr P w H h):aS P w H h a u:=by
 rcases r with r | ⟨o,r⟩
 ·exact x a u r
 ·obtain⟨_,q⟩:=x a _ r
  exact q
noncomputable def MK:Option HO->Prop
 | some (.lst _)=>True
 | some (.dK _)=>True
 | some (.dT _)=>True
 | some (.set _ _)=>True
 | some (.ins _ _ _)=>True
 | some (.ext _)=>True
 | _=>False
section
variable{P:Program}{w:World}{H:Hp}{h h':Heap}{x e:Addr}{o':HO}
theorem gr.write(ok:gr P w H h)(mu:MK (H x))(he:e=x\/H e=some (.own x))(k:∀b u,b≠e->h.get? b=some u->h'.get? b=some u)(CZ:∃u,h'.get? e=some u)
  (new:aS P w (upd H x o') h' x o'):gr P w (upd H x o') h':=fun b u q=>by
 have La:∀c y,H c=some (.own y)->c≠x:=fun c y r z=>by subst z;rw[r] at mu;exact mu
 have ntup:∀c xs,H c=some (.tup xs)->c≠x:=fun c xs r z=>by subst z;rw[r] at mu;exact mu
 by_cases hb:b=x
 ·subst hb;rw[av] at q;cases q;exact new
 ·rw[ak hb] at q
  by_cases Iw:b=e
  ·have q':H b=some (.own x):=by
    rcases he with z | z
    ·exact absurd (Iw.trans z) hb
    ·rw[Iw];exact z
   rw[q] at q';cases q'
   obtain⟨v,hv⟩:=CZ
   exact⟨v,by rw[Iw];exact hv⟩
  ·refine (ok b u q).stay (fun c v hc r=>k c v ?_ r) (fun c r=>by rw[ak (La c b r)];exact r) fun c xs r=>by rw[ak (ntup c xs r)];exact r
   rcases hc with rfl | hc
   ·exact Iw
   ·rintro rfl
    rcases he with z | z
    ·exact La c b hc z
    ·rw[hc] at z;cases z;exact hb rfl
end
structure Un(fs ex:List Addr)(H H':Hp)(h h':Heap):Prop where
 keep:∀b o,h.get? b=some o->H b=none->b∉fs->b∉ex->h'.get? b=some o
 slot:∀b o,h.get? b=some o->H b=none->b∈fs->b∉ex->∃sl,h'.get? b=some { o with slots:=sl }
 free:∀b o,h.get? b=some o->H b=none->b∉ex->H' b=none
 there:∀b o,h.get? b=some o->b∉ex->∃o',h'.get? b=some o'
 tups:∀b xs,H b=some (.tup xs)->H' b=some (.tup xs)
 dF:∀b o u,H b=some (.dP o u)->H' b=some (.dP o u)
 gb:∀b ps,H b=some (.D5 ps)->∃more,H' b=some (.D5 (ps++more))
section
variable{fs fs' ex ex':List Addr}{H H1 H2:Hp}{h h1 h2 h':Heap}{a x e:Addr}{o:HO}
theorem Un.any(u:Un fs ex H H1 h h1){b:Addr}{ob:Obj}(q:h.get? b=some ob)(n:H b=none)(hx:b∉ex):∃sl,h1.get? b=some { ob with slots:=sl }:=by
 by_cases hb:b∈fs
 ·exact u.slot b ob q n hb hx
 ·exact⟨ob.slots,u.keep b ob q n hb hx⟩
theorem Un.trans(a:Un fs ex H H1 h h1)(b:Un fs ex H1 H2 h1 h2):Un fs ex H H2 h h2 where
 keep:=fun c ob q n hc hx=>b.keep c ob (a.keep c ob q n hc hx) (a.free c ob q n hx) hc hx
 slot:=fun c ob q n hc hx=>by
  obtain⟨sl,e1⟩:=a.slot c ob q n hc hx
  obtain⟨Eh,e2⟩:=b.slot c _ e1 (a.free c ob q n hx) hc hx
  exact⟨Eh,e2⟩
 free:=fun c ob q n hx=>by
  obtain⟨o',e1⟩:=a.there c ob q hx
  exact b.free c o' e1 (a.free c ob q n hx) hx
 there:=fun c ob q hx=>by
  obtain⟨o',e1⟩:=a.there c ob q hx
  exact b.there c o' e1 hx
 tups:=fun c xs q=>b.tups c xs (a.tups c xs q)
 dF:=fun c ob xs q=>b.dF c ob xs (a.dF c ob xs q)
 gb:=fun c ps q=>by
  obtain⟨m1,e1⟩:=a.gb c ps q
  obtain⟨m2,e2⟩:=b.gb c _ e1
  exact⟨m1++m2,by rw[e2,Array.append_assoc]⟩
theorem Un.kept(k:∀b u,h.get? b=some u->h'.get? b=some u):Un fs ex H H h h' :=
 ⟨fun b ob q _ _ _=>k b ob q,fun b ob q _ _ _=>⟨ob.slots,k b ob q⟩,fun _ _ _ n _=>n,fun b ob q _=>⟨ob,k b ob q⟩,fun _ _ q=>q,fun _ _ _ q=>q,fun _ ps q=>⟨#[],by rw[q];simp⟩⟩
theorem Un.refl:Un fs ex H H h h:=Un.kept fun _ _ q=>q
theorem Un.laid(k:∀b u,h.get? b=some u->h'.get? b=some u)(hp:h.objs.size<=a)(hn:H a=none):Un fs ex H (upd H a o) h h' where
 keep:=fun b u q _ _ _=>k b u q
 slot:=fun b u q _ _ _=>⟨u.slots,k b u q⟩
 free:=fun b u q n _=>by rw[ak (Nat.ne_of_lt (Nat.lt_of_lt_of_le (Heap.lt_size q) hp))];exact n
 there:=fun b u q _=>⟨u,k b u q⟩
 tups:=fun b xs q=>by rw[ak (cR q hn)];exact q
 dF:=fun b u xs q=>by rw[ak (cR q hn)];exact q
 gb:=fun b ps q=>⟨#[],by rw[ak (cR q hn),q];simp⟩
theorem Un.write(mu:MK (H x))(he:e=x\/H e=some (.own x))(k:∀b u,b≠e->h.get? b=some u->h'.get? b=some u)(CZ:∃u,h'.get? e=some u):Un fs ex H (upd H x o) h h':=by
 have hx:∀b,H b=none->b≠x:=fun b n z=>by subst z;rw[n] at mu;exact mu
 have hb:∀b,H b=none->b≠e:=fun b n z=>by
  subst z
  rcases he with r | r
  ·exact hx b n r
  ·rw[n] at r;cases r
 have hm:∀b u,H b=some u->¬ MK (some u)->b≠x:=fun b u q nm z=>by subst z;rw[q] at mu;exact nm mu
 refine⟨fun b u q n _ _=>k b u (hb b n) q,fun b u q n _ _=>⟨u.slots,k b u (hb b n) q⟩,fun b u q n _=>by rw[ak (hx b n)];exact n,fun b u q _=>?_,
  fun b xs q=>by rw[ak (hm b _ q fun z=>z)];exact q,fun b u xs q=>by rw[ak (hm b _ q fun z=>z)];exact q,fun b ps q=>⟨#[],by rw[ak (hm b _ q fun z=>z),q];simp⟩⟩
 by_cases Iw:b=e
 ·subst Iw;exact CZ
 ·exact⟨u,k b u Iw q⟩
end
noncomputable def MW(h:Heap)(H:Hp):List Addr:=(List.range h.objs.size).filter fun a=>(H a).isSome
noncomputable def nB(h:Heap)(H:Hp):Heap:=PySem.W.hideAll h (MW h H)
theorem v7(h:Heap)(H:Hp):(nB h H).objs.size=h.objs.size:=PySem.W.hideAll_size _ _
theorem zE{h:Heap}{H:Hp}{b:Addr}{o:Obj}(e:h.get? b=some o)(n:H b=none):(nB h H).get? b=some o :=
 PySem.W.hideAll_get _ e fun hm=>by
  have q:(H b).isSome=true:=(List.mem_filter.mp hm).2
  rw[n] at q;simp at q
theorem CB{h:Heap}{H:Hp}{b:Addr}{o:Obj}(e:(nB h H).get? b=some o):h.get? b=some o/\H b=none:=by
 have e':h.get? b=some o:=PySem.W.of_hideAll (MW h H) e
 refine⟨e',?_⟩
 cases q:H b with
 | none=>rfl
 | some x =>
  have hm:b∈MW h H:=List.mem_filter.mpr ⟨List.mem_range.mpr (Heap.lt_size e'),by simp[q]⟩
  have z:(nB h H).get? b=none:=PySem.W.hideAll_none (MW h H) hm
  rw[z] at e;cases e
noncomputable def DN(g h:Heap)(L:Addr):List (Addr×Obj):=(List.range h.objs.size).filterMap fun a=>if a=L\/(g.get? a).isSome=true then none else (h.get? a).map fun o=>(a,o)
noncomputable def rest(g h:Heap)(L d:Addr):List (Addr×Obj):=(DN g h L).filter fun p=>decide (p.1≠d)
structure Mod(K:PySem.W.Frag)(mg:Str->Option Value)(base:Heap):Prop where
 A0:K.In base
 glob:base.Ns mainGlobals mg
 blt:∃mb, base.Ns builtinsNs mb/\∀x:Str, x≠"__name__"->mb x=bootBuiltins x
 nolimit:base.NoLimit
structure Cx where
 prog:Program
 w:World
 K:PySem.W.Frag
 mg:Str->Option Value
 base:Heap
 A:Around
 N:List Str
 s₀:Shared
 H₀:Hp
 env:Env
 outer:List Env
 stack:List Env
 ex:List Addr
 fn:Str->Bool
 calm:Bool
 pn:List (Addr×Obj)
 xe:Value->Shared->Prop
noncomputable def frs(l:List Env):List Addr:=l.filterMap (·.frame)
noncomputable abbrev Cx.fs(X:Cx):List Addr:=frs X.outer
noncomputable def N6(sc:Scope)(x:Str):Prop:=sc.names.lookup x=some .local\/sc.names.lookup x=some .cell\/sc.names.lookup x=some .free
noncomputable def Loc(sc:Scope)(x:Str):Prop:=sc.names.lookup x=some .local\/sc.names.lookup x=some .cell
noncomputable def Look(env:Env)(h:Heap)(m:Str->Option Value)(x:Str)(u:Value):Prop :=
 (env.kindOf x=some .local/\m x=some u)\/((env.kindOf x=some .cell\/env.kindOf x=some .free)/\∃c,env.cells.lookup x=some c/\h.IsCell c (some u))
structure Cx.Ok(X:Cx):Prop where
 mod:Mod X.K X.mg X.base
 kind:X.env.scope.kind=.function
 glob:X.env.globals=mainGlobals
 blt:X.env.builtins=builtinsNs
 above:X.s₀.heap.objs.size<=X.env.locals
 inj:∀x y c,X.env.cells.lookup x=some c->X.env.cells.lookup y=some c->x=y
 has:∀x,(X.env.kindOf x=some .cell\/X.env.kindOf x=some .free)->∃c,X.env.cells.lookup x=some c
 Fp:∀x c,X.fn x=true->X.env.cells.lookup x=some c->X.s₀.heap.objs.size<=c
 hd:X.calm=true->X.A.handled=none
 frames:X.A.frames=some X.stack
 stk:X.stack=X.outer\/(X.stack=X.env::X.outer/\X.env.frame=some X.env.locals)
 LL:∀b∈X.ex,b≠X.env.locals/\∀x c,X.env.cells.lookup x=some c->c≠b
 bs:∀b o,X.base.get? b=some o->X.s₀.heap.get? b=some o/\X.H₀ b=none
 wG:X.base.objs.size<=X.s₀.heap.objs.size
 pA:∀b o,X.base.get? b=some o->b∉X.ex
 rZ:∀b∈X.ex,b∉X.fs
 gj:X.s₀.heap.FunFrames X.base X.outer
 zK:∀b∈X.fs,X.H₀ b=none
structure Inv(X:Cx)(pins:List (Addr×Obj))(σ:List (Option V))(H:Hp)(s:Shared):Prop where
 ok:X.Ok
 os:s.os=X.s₀.os
 bare:AllBare s.gens
 base:Un X.fs X.ex X.H₀ H X.s₀.heap s.heap
 loc:∃m,s.heap.Ns X.env.locals m/\∀(i:Nat) (x:Str) (v:V),X.N[i]? = some x->σ[i]? = some (some v)->N6 X.env.scope x->∃u,RelV v u/\Look X.env s.heap m x u
 cell:∀x c,X.env.cells.lookup x=some c->∃v,s.heap.IsCell c v
 free:H X.env.locals=none
 bM:∀x c,X.env.cells.lookup x=some c->H c=none
 pin:∀p∈X.pn++pins,s.heap.get? p.1=some p.2/\H p.1=none/\p.1≠X.env.locals/\p.1∉X.fs/\∀v,p.2.data≠.cell v
 hok:gr X.prog X.w H s.heap
 len:σ.length=X.N.length
section
variable{X:Cx}{pins:List (Addr×Obj)}{σ:List (Option V)}{H H':Hp}{s:Shared}{h':Heap}
theorem Cx.Ok.nofr(ok:X.Ok){b:Addr}{o:Obj}(e:X.base.get? b=some o):b∉X.fs:=fun hb=>by
 have:=(ok.gj.mem hb).1
 rw[e] at this;cases this
theorem Inv.bs(I:Inv X pins σ H s):∀b o,X.base.get? b=some o->s.heap.get? b=some o/\H b=none:=fun b o e =>
 ⟨I.base.keep b o (I.ok.bs b o e).1 (I.ok.bs b o e).2 (I.ok.nofr e) (I.ok.pA b o e),I.base.free b o (I.ok.bs b o e).1 (I.ok.bs b o e).2 (I.ok.pA b o e)⟩
theorem Inv.bk(I:Inv X pins σ H s):∀b o,X.base.get? b=some o->s.heap.get? b=some o:=fun b o e=>(I.bs b o e).1
theorem Inv.mod(I:Inv X pins σ H s):Mod X.K X.mg X.base:=I.ok.mod
theorem Inv.fM(I:Inv X pins σ H s):X.K.In s.heap:=I.ok.mod.A0.keeps I.bk
theorem Inv.lt(I:Inv X pins σ H s):X.env.locals<s.heap.objs.size:=let ⟨_,hn,_⟩:=I.loc;hn.lt
theorem Inv.sz(I:Inv X pins σ H s):X.s₀.heap.objs.size<=s.heap.objs.size:=Nat.le_trans I.ok.above (Nat.le_of_lt I.lt)
theorem Inv.Lb(I:Inv X pins σ H s){a:Addr}(h:s.heap.objs.size<=a):a∉X.fs:=fun hb=>by
 obtain⟨_,o,ho,_⟩:=I.ok.gj.mem hb
 exact absurd (Nat.lt_of_lt_of_le (Heap.lt_size ho) (Nat.le_trans I.sz h)) (Nat.lt_irrefl _)
theorem Inv.Aw(I:Inv X pins σ H s):∀x c,X.env.cells.lookup x=some c->c≠X.env.locals:=fun x c e z=>by
 obtain⟨v,o,ho,hd⟩:=I.cell x c e
 obtain⟨m,⟨o',es,ep,ho',hd',_⟩,_⟩:=I.loc
 rw[z,ho'] at ho;cases ho;rw[hd'] at hd;cases hd
theorem Inv.gj(I:Inv X pins σ H s):s.heap.FunFrames X.base X.outer:=by
 have all:∀(l:List Env),(∀b∈frs l,b∈X.fs)->X.s₀.heap.FunFrames X.base l->s.heap.FunFrames X.base l:=by
  intro l
  induction l with
  | nil=>intro _ _;trivial
  | cons env r ih =>
   intro hs hl
   obtain⟨hk,⟨L,o,hf,hn,ho,hd⟩,hr⟩:=hl
   have hL:L∈X.fs:=hs L (by unfold frs;rw[List.filterMap_cons,hf];exact List.mem_cons_self)
   obtain⟨sl,e⟩:=I.base.slot L o ho (I.ok.zK L hL) hL fun z=>I.ok.rZ L z hL
   exact⟨hk,⟨L,_,hf,hn,e,hd⟩,ih (fun b hb=>hs b (by unfold frs;rw[List.filterMap_cons,hf];exact List.mem_cons_of_mem _ hb)) hr⟩
 exact all X.outer (fun _ hb=>hb) I.ok.gj
theorem Inv.stack(I:Inv X pins σ H s):s.heap.FunFrames X.base X.stack:=by
 rcases I.ok.stk with e | ⟨e,hf⟩
 ·rw[e];exact I.gj
 ·rw[e]
  obtain⟨m,hn,_⟩:=I.loc
  refine .cons (by rw[I.ok.kind];decide) hf hn ?_ I.gj
  exact Heap.get?_none_of_le (Nat.le_trans I.ok.wG I.ok.above)
theorem Inv.ez(I:Inv X pins σ H s):∀b∈frs X.stack,b∈X.env.locals::X.fs:=fun b hb=>by
 rcases I.ok.stk with e | ⟨e,hf⟩
 ·rw[e] at hb;exact List.mem_cons_of_mem _ hb
 ·rw[e] at hb
  unfold frs at hb
  rw[List.filterMap_cons,hf] at hb
  exact hb
theorem Inv.fT(I:Inv X pins σ H s):∀b∈frs X.stack,H b=none:=fun b hb=>by
 rcases List.mem_cons.mp (I.ez b hb) with e | hb
 ·rw[e];exact I.free
 ·obtain⟨_,o,ho,_⟩:=I.ok.gj.mem hb
  exact I.base.free b o ho (I.ok.zK b hb) fun z=>I.ok.rZ b z hb
theorem Inv.step{g':Array GenState}{t':Nat}{d':Drawn}{ch:List Addr}(I:Inv X pins σ H s)
  (hch:∀b∈ch,(b∈X.ex\/X.s₀.heap.objs.size<=b)/\b≠X.env.locals/\(∀x c,X.env.cells.lookup x=some c->c≠b)/\∀p∈X.pn++pins,p.1≠b)
  (keep:∀b o,b≠X.env.locals->b∉X.fs->b∉ch->s.heap.get? b=some o->H b=none->h'.get? b=some o)
  (slot:∀b o,b≠X.env.locals->b∈X.fs->b∉ch->s.heap.get? b=some o->H b=none->∃sl,h'.get? b=some { o with slots:=sl }) (free:∀b o,b∉ch->s.heap.get? b=some o->H b=none->H' b=none)
  (there:∀b o,b∉ch->s.heap.get? b=some o->∃o',h'.get? b=some o')
  (tups:∀b xs,H b=some (.tup xs)->H' b=some (.tup xs)) (dF:∀b o u,H b=some (.dP o u)->H' b=some (.dP o u)) (gb:∀b ps,H b=some (.D5 ps)->∃more,H' b=some (.D5 (ps++more)))
  (ns:∀m,s.heap.Ns X.env.locals m->h'.Ns X.env.locals m) (hok:gr X.prog X.w H' h') (hg:AllBare g') :
  Inv X pins σ H' { s with heap:=h',gens:=g',drawn:=d',toks:=t' }:=by
 have neL:∀b o,X.s₀.heap.get? b=some o->b≠X.env.locals:=fun b o e=>Nat.ne_of_lt (Nat.lt_of_lt_of_le (Heap.lt_size e) I.ok.above)
 have yJ:∀b o,X.s₀.heap.get? b=some o->b∉X.ex->b∉ch:=fun b o e hx hb=>by
  rcases (hch b hb).1 with z | z
  ·exact hx z
  ·exact absurd (Nat.lt_of_lt_of_le (Heap.lt_size e) z) (Nat.lt_irrefl _)
 have cellK:∀x c,X.env.cells.lookup x=some c->∀v,s.heap.IsCell c v->h'.IsCell c v:=fun x c e v ⟨o,ho,hd⟩=>by
  have Lf:c∉ch:=fun z=>(hch c z).2.2.1 x c e rfl
  by_cases hc:c∈X.fs
  ·obtain⟨sl,q⟩:=slot c o (I.Aw x c e) hc Lf ho (I.bM x c e)
   exact⟨_,q,hd⟩
  ·exact⟨o,keep c o (I.Aw x c e) hc Lf ho (I.bM x c e),hd⟩
 refine⟨I.ok,I.os,hg,⟨fun b o e n hb hx=>?_,fun b o e n hb hx=>?_,fun b o e n hx=>?_,fun b o e hx=>?_,fun b xs e=>tups b xs (I.base.tups b xs e),fun b o xs e=>dF b o xs (I.base.dF b o xs e),fun b ps e=>?_⟩,?_,fun x c e=>?_,?_,fun x c e=>?_,fun p hp=>?_,hok,I.len⟩
 ·exact keep b o (neL b o e) hb (yJ b o e hx) (I.base.keep b o e n hb hx) (I.base.free b o e n hx)
 ·obtain⟨sl,e1⟩:=I.base.slot b o e n hb hx
  obtain⟨Eh,e2⟩:=slot b _ (neL b o e) hb (yJ b o e hx) e1 (I.base.free b o e n hx)
  exact⟨Eh,e2⟩
 ·obtain⟨o',e1⟩:=I.base.there b o e hx
  exact free b o' (yJ b o e hx) e1 (I.base.free b o e n hx)
 ·obtain⟨o',e1⟩:=I.base.there b o e hx
  exact there b o' (yJ b o e hx) e1
 ·obtain⟨m1,e1⟩:=I.base.gb b ps e
  obtain⟨m2,e2⟩:=gb b _ e1
  exact⟨m1++m2,by rw[e2,Array.append_assoc]⟩
 ·obtain⟨m,hn,hl⟩:=I.loc
  refine⟨m,ns m hn,fun i x v e1 e2 e3=>?_⟩
  obtain⟨u,r,l⟩:=hl i x v e1 e2 e3
  refine⟨u,r,?_⟩
  rcases l with l | ⟨k,c,e,z⟩
  ·exact .inl l
  ·exact .inr ⟨k,c,e,cellK x c e _ z⟩
 ·obtain⟨v,z⟩:=I.cell x c e
  exact⟨v,cellK x c e v z⟩
 ·obtain⟨m,⟨o,_,_,ho,_⟩,_⟩:=I.loc
  exact free _ o (fun z=>(hch _ z).2.1 rfl) ho I.free
 ·obtain⟨v,o,ho,hd⟩:=I.cell x c e
  exact free c o (fun z=>(hch c z).2.2.1 x c e rfl) ho (I.bM x c e)
 ·obtain⟨e,n,ne,nf,d⟩:=I.pin p hp
  have Lf:p.1∉ch:=fun z=>(hch p.1 z).2.2.2 p hp rfl
  exact⟨keep p.1 p.2 ne nf Lf e n,free p.1 p.2 Lf e n,ne,nf,d⟩
theorem Inv.un{t':Nat}(I:Inv X pins σ H s)(u:Un X.fs [] H H' s.heap h')(hok:gr X.prog X.w H' h'):Inv X pins σ H' { s with heap:=h',toks:=t' }:=by
 obtain⟨m,⟨o,es,ep,ho,r⟩,_⟩:=id I.loc
 obtain⟨sl,hL⟩:=u.any ho I.free (by simp)
 exact I.step (g':=s.gens) (d':=s.drawn) (ch:=[]) (fun _ z=>nomatch z) (fun b o _ hb _ e n=>u.keep b o e n hb (by simp)) (fun b o _ hb _ e n=>u.slot b o e n hb (by simp)) (fun b o _ e n=>u.free b o e n (by simp)) (fun b o _ e=>u.there b o e (by simp)) u.tups u.dF u.gb (fun m' hm=>by
  obtain⟨o',es',LW,ho',r'⟩:=hm
  rw[ho] at ho';cases ho'
  exact⟨_,es',LW,hL,r'⟩) hok I.bare
theorem Inv.call{g':Array GenState}{t':Nat}{d':Drawn}{ch:List Addr}(I:Inv X pins σ H s)(u:Un (frs X.stack) ch H H' s.heap h')(hok:gr X.prog X.w H' h')(hg:AllBare g')
  (hch:∀b∈ch,(b∈X.ex\/X.s₀.heap.objs.size<=b)/\b≠X.env.locals/\(∀x c,X.env.cells.lookup x=some c->c≠b)/\∀p∈X.pn++pins,p.1≠b) :
  Inv X pins σ H' { s with heap:=h',gens:=g',drawn:=d',toks:=t' }:=by
 obtain⟨m,⟨o,es,ep,ho,r⟩,_⟩:=id I.loc
 obtain⟨sl,hL⟩:=u.any ho I.free fun z=>(hch _ z).2.1 rfl
 exact I.step (ch:=ch) hch (fun b o hL hb hc e n=>u.keep b o e n (fun z=>(List.mem_cons.mp (I.ez b z)).elim hL hb) hc) (fun b o _ _ hc e n=>u.any e n hc) (fun b o hc e n=>u.free b o e n hc) (fun b o hc e=>u.there b o e hc) u.tups u.dF u.gb (fun m' hm=>by
  obtain⟨o',es',LW,ho',r'⟩:=hm
  rw[ho] at ho';cases ho'
  exact⟨_,es',LW,hL,r'⟩) hok hg
theorem Inv.turned{t':Nat}{it:Addr}(I:Inv X pins σ H s)(k:∀b o,b≠it->s.heap.get? b=some o->h'.get? b=some o)(hn:H it=none)(hL:it≠X.env.locals)
  (h1:it∈X.ex\/X.s₀.heap.objs.size<=it) (h2:∀x c,X.env.cells.lookup x=some c->c≠it) (h3:∀p∈X.pn++pins,p.1≠it):Inv X pins σ H { s with heap:=h',toks:=t' }:=by
 have nit:∀b u,H b=some u->b≠it:=fun b u e z=>by rw[z,hn] at e;cases e
 refine I.step (g':=s.gens) (d':=s.drawn) (ch:=[it]) (fun b hb=>?_) (fun b o _ _ hc e _=>k b o (fun z=>hc (by simp[z])) e) (fun b o _ _ hc e _=>⟨o.slots,k b o (fun z=>hc (by simp[z])) e⟩) (fun _ _ _ _ n=>n)
  (fun b o hc e=>⟨o,k b o (fun z=>hc (by simp[z])) e⟩) (fun _ _ e=>e) (fun _ _ _ e=>e) (fun b ps e=>⟨#[],by rw[e];simp⟩) (fun m hm=>?_) (fun b u e=>?_) I.bare
 ·have e:b=it:=by simpa using hb
  subst e
  exact⟨h1,hL,h2,h3⟩
 ·obtain⟨o,es,ep,ho,r⟩:=hm
  exact⟨o,es,ep,k _ o (Ne.symm hL) ho,r⟩
 ·refine (I.hok b u e).stay (fun c v hc q=>k c v ?_ q) (fun _ q=>q) fun _ _ q=>q
  rcases hc with z | z
  ·rw[z];exact nit b u e
  ·exact nit c _ z
theorem Inv.tok(I:Inv X pins σ H s)(t:Nat):Inv X pins σ H { s with toks:=t }:=I.un (h':=s.heap) (t':=t) Un.refl I.hok
theorem Inv.kept{t':Nat}(I:Inv X pins σ H s)(k:∀b u,s.heap.get? b=some u->h'.get? b=some u):Inv X pins σ H { s with heap:=h',toks:=t' }:=I.un (Un.kept k) (I.hok.kept k)
theorem Inv.laid{a:Addr}{o:HO}{t':Nat}(I:Inv X pins σ H s)(k:∀b u,s.heap.get? b=some u->h'.get? b=some u)(hp:s.heap.objs.size<=a)(new:aS X.prog X.w (upd H a o) h' a o) :
  Inv X pins σ (upd H a o) { s with heap:=h',toks:=t' }:=I.un (Un.laid k hp (I.hok.fresh hp)) (I.hok.laid k hp new)
theorem Inv.write{x e:Addr}{o:HO}{t':Nat}(I:Inv X pins σ H s)(mu:MK (H x))(he:e=x\/H e=some (.own x))(k:∀b u,b≠e->s.heap.get? b=some u->h'.get? b=some u)(CZ:∃u,h'.get? e=some u)
  (new:aS X.prog X.w (upd H x o) h' x o):Inv X pins σ (upd H x o) { s with heap:=h',toks:=t' }:=I.un (Un.write mu he k CZ) (I.hok.write mu he k CZ new)
theorem Inv.tZ{j0:List (Addr×Obj)}(I:Inv X pins σ H s)(h:∀p∈j0,s.heap.get? p.1=some p.2/\H p.1=none/\p.1≠X.env.locals/\p.1∉X.fs/\∀v,p.2.data≠.cell v):Inv X j0 σ H s :=
 ⟨I.ok,I.os,I.bare,I.base,I.loc,I.cell,I.free,I.bM,fun p hp=>(List.mem_append.mp hp).elim (fun z=>I.pin p (List.mem_append_left _ z)) (h p),I.hok,I.len⟩
theorem j5{N:List Str}(hN:N.Nodup){i j:Nat}{x:Str}(a:N[i]? = some x)(b:N[j]? = some x):i=j:=by
 obtain⟨h1,e1⟩:=List.getElem?_eq_some_iff.mp a
 obtain⟨h2,e2⟩:=List.getElem?_eq_some_iff.mp b
 exact (List.getElem_inj hN).mp (e1.trans e2.symm)
theorem lN{M:Model}{A:Around}{E:Value->Shared->Prop}{i:Nat}{x:Str}{v:V}{u:Value}{Q:Unit->Shared->Prop}(I:Inv X pins σ H s)(hN:X.N.Nodup)(hi:X.N[i]? = some x)(hx:Loc X.env.scope x)(r:RelV v u)
  (h:∀s',Inv X pins (σ.set i (some v)) H s'->(∃a,Heap.SameBut a s.heap s'.heap/\(a=X.env.locals\/X.env.cells.lookup x=some a))->Q () s') (hf:X.fn x=true\/X.env.scope.names.lookup x=some .local:=by first | exact .inl rfl | exact .inr rfl | assumption):wpAny M A (storeName X.env x u) Q E s:=by
 obtain⟨m,hn,hl⟩:=id I.loc
 have hcls:(X.env.scope.kind == .class||(X.env.scope.kind == .module&&X.env.locals != X.env.globals))=false:=by rw[I.ok.kind];rfl
 have Ly:i<σ.length:=by rw[I.len];exact (List.getElem?_eq_some_iff.mp hi).1
 have Aw:=I.Aw
 have tracked:∀{a:Addr} {h':Heap},(∃o,s.heap.get? a=some o/\H a=none)->Heap.SameBut a s.heap h'->gr X.prog X.w H h':=fun {a h'} ha hs b ob e=>by
  obtain⟨_,_,hfree⟩:=ha
  refine (I.hok b ob e).stay (fun c w' hc q=>(hs.2 c ?_).trans q) (fun _ q=>q) fun _ _ q=>q
  rintro rfl
  rcases hc with rfl | hc
  ·rw[hfree] at e;cases e
  ·rw[hfree] at hc;cases hc
 rcases hx with hk | hk
 ·refine wpAny_storeName_local hk hn (fun h' hn' hs=>?_) hcls
  obtain⟨oL,_,_,hoL,_⟩:=id hn
  refine h _ ⟨I.ok,I.os,I.bare,⟨fun b o e n hb hx=>?_,fun b o e n hb hx=>?_,I.base.free,fun b o e hx=>?_,I.base.tups,I.base.dF,I.base.gb⟩,⟨_,hn',fun j y v' e1 e2 e3=>?_⟩,fun y c e=>?_,I.free,I.bM,fun p hp=>?_,tracked ⟨oL,hoL,I.free⟩ hs,by simpa using I.len⟩ ⟨_,hs,.inl rfl⟩
  ·exact (hs.2 b (Nat.ne_of_lt (Nat.lt_of_lt_of_le (Heap.lt_size e) I.ok.above))).trans (I.base.keep b o e n hb hx)
  ·obtain⟨sl,e1⟩:=I.base.slot b o e n hb hx
   exact⟨sl,(hs.2 b (Nat.ne_of_lt (Nat.lt_of_lt_of_le (Heap.lt_size e) I.ok.above))).trans e1⟩
  ·obtain⟨o',e1⟩:=I.base.there b o e hx
   exact⟨o',(hs.2 b (Nat.ne_of_lt (Nat.lt_of_lt_of_le (Heap.lt_size e) I.ok.above))).trans e1⟩
  ·by_cases hj:j=i
   ·subst hj
    rw[hi] at e1;cases e1
    rw[List.getElem?_set_self Ly] at e2
    cases e2
    exact⟨u,r,.inl ⟨hk,by simp⟩⟩
   ·rw[List.getElem?_set_ne (Ne.symm hj)] at e2
    obtain⟨u',r',q⟩:=hl j y v' e1 e2 e3
    refine⟨u',r',?_⟩
    rcases q with ⟨k,e⟩ | ⟨k,c,e,z⟩
    ·refine .inl ⟨k,?_⟩
     have:y≠x:=fun e=>hj (j5 hN e1 (e ▸ hi))
     simp[this,e]
    ·exact .inr ⟨k,c,e,z.sameBut hs (Aw y c e)⟩
  ·obtain⟨w',z⟩:=I.cell y c e
   exact⟨w',z.sameBut hs (Aw y c e)⟩
  ·obtain⟨e,n,ne,nf,d⟩:=I.pin p hp
   exact⟨(hs.2 p.1 ne).trans e,n,ne,nf,d⟩
 ·have hfn:X.fn x=true:=by
   rcases hf with z | z
   ·exact z
   ·rw[z] at hk;cases hk
  obtain⟨c,hc⟩:=I.ok.has x (.inl hk)
  obtain⟨w',z⟩:=I.cell x c hc
  refine wpAny_storeName_cell I.ok.kind hk hc z (fun h' hc' hs=>?_)
  obtain⟨oc,hoc,hocd⟩:=id z
  refine h { s with heap:=h' } ⟨I.ok,I.os,I.bare,⟨fun b o e n hb hx=>?_,fun b o e n hb hx=>?_,I.base.free,fun b o e hx=>?_,I.base.tups,I.base.dF,I.base.gb⟩,⟨m,hn.sameBut hs (Ne.symm (Aw x c hc)),fun j y v' e1 e2 e3=>?_⟩,fun y c' e=>?_,I.free,I.bM,fun p hp=>?_,tracked ⟨oc,hoc,I.bM x c hc⟩ hs,by simpa using I.len⟩ ⟨c,hs,.inr hc⟩
  ·exact (hs.2 b (Nat.ne_of_lt (Nat.lt_of_lt_of_le (Heap.lt_size e) (I.ok.Fp x c hfn hc)))).trans (I.base.keep b o e n hb hx)
  ·obtain⟨sl,e1⟩:=I.base.slot b o e n hb hx
   exact⟨sl,(hs.2 b (Nat.ne_of_lt (Nat.lt_of_lt_of_le (Heap.lt_size e) (I.ok.Fp x c hfn hc)))).trans e1⟩
  ·obtain⟨o',e1⟩:=I.base.there b o e hx
   exact⟨o',(hs.2 b (Nat.ne_of_lt (Nat.lt_of_lt_of_le (Heap.lt_size e) (I.ok.Fp x c hfn hc)))).trans e1⟩
  ·by_cases hj:j=i
   ·subst hj
    rw[hi] at e1;cases e1
    rw[List.getElem?_set_self Ly] at e2
    cases e2
    exact⟨u,r,.inr ⟨.inl hk,c,hc,hc'⟩⟩
   ·rw[List.getElem?_set_ne (Ne.symm hj)] at e2
    obtain⟨u',r',q⟩:=hl j y v' e1 e2 e3
    refine⟨u',r',?_⟩
    rcases q with q | ⟨k,c',e,z'⟩
    ·exact .inl q
    ·refine .inr ⟨k,c',e,z'.sameBut hs ?_⟩
     rintro rfl
     exact hj (j5 hN e1 (I.ok.inj _ _ _ e hc ▸ hi))
  ·by_cases hcc:c'=c
   ·subst hcc;exact⟨_,hc'⟩
   ·obtain⟨w2,z2⟩:=I.cell y c' e
    exact⟨w2,z2.sameBut hs hcc⟩
  ·obtain⟨e,n,ne,nf,d⟩:=I.pin p hp
   refine⟨(hs.2 p.1 ?_).trans e,n,ne,nf,d⟩
   intro q
   rw[q,hoc] at e
   have q':oc=p.2:=Option.some.inj e
   exact d w' (by rw[<- q'];exact hocd)
theorem jR{M:Model}{A:Around}{E:Value->Shared->Prop}{i:Nat}{x:Str}{v:V}{u:Value}{Q:Unit->Shared->Prop}(I:Inv X pins σ H s)(hN:X.N.Nodup)(hi:X.N[i]? = some x)(hx:Loc X.env.scope x)(r:RelV v u)
  (h:∀s',Inv X pins (σ.set i (some v)) H s'->Q () s') (hf:X.fn x=true\/X.env.scope.names.lookup x=some .local:=by first | exact .inl rfl | exact .inr rfl | assumption):wpAny M A (storeName X.env x u) Q E s :=
 lN I hN hi hx r (fun s' I' _=>h s' I') hf
theorem Inv.AB{s':Shared}{ch:List Addr}(I:Inv X pins σ H s)(ho:s'.os=s.os)(u:Un (frs X.stack) ch H H' s.heap s'.heap)(hok:gr X.prog X.w H' s'.heap)(hg:AllBare s'.gens)
  (hch:∀b∈ch,(b∈X.ex\/X.s₀.heap.objs.size<=b)/\b≠X.env.locals/\(∀x c,X.env.cells.lookup x=some c->c≠b)/\∀p∈X.pn++pins,p.1≠b):Inv X pins σ H' s':=by
 obtain⟨h',g',d',t',o'⟩:=s'
 have e:o'=s.os:=ho
 subst e
 exact I.call (g':=g') (t':=t') (d':=d') u hok hg hch
end
noncomputable abbrev XK:=Value->Option Addr->Hp->Prop
noncomputable abbrev St:=List (Option V)
noncomputable abbrev VK:=V->Hp->Prop
noncomputable abbrev TE:=St->Hp->VK->Prop
noncomputable abbrev TT:=St->Hp->(Bool->Hp->Prop)->Prop
noncomputable abbrev TA:=St->Hp->(List V->Hp->Prop)->Prop
structure Ends where
 nx:St->Hp->Prop
 rt:VK
 bk:St->Hp->Prop:=fun _ _=>False
 ct:St->Hp->Prop:=fun _ _=>False
noncomputable abbrev TS:=Ends->St->Hp->Prop
noncomputable def EP(X:Cx)(pins:List (Addr×Obj))(σ:St)(Q:VK)(u:Value)(s':Shared):Prop:=∃v H',Inv X pins σ H' s'/\RelV v u/\Q v H'
noncomputable def TP(X:Cx)(pins:List (Addr×Obj))(σ:St)(Q:Bool->Hp->Prop)(b:Bool)(s':Shared):Prop:=∃H',Inv X pins σ H' s'/\Q b H'
noncomputable def AP(X:Cx)(pins:List (Addr×Obj))(σ:St)(Q:List V->Hp->Prop)(us:List Value)(s':Shared):Prop:=∃vs H',Inv X pins σ H' s'/\Vals vs us/\Q vs H'
noncomputable def SP(X:Cx)(pins:List (Addr×Obj))(D:Ends)(f:Flow)(s':Shared):Prop :=
 match f with
 | .next=>∃σ' H',Inv X pins σ' H' s'/\D.nx σ' H'
 | .brk=>∃σ' H',Inv X pins σ' H' s'/\D.bk σ' H'
 | .cont=>∃σ' H',Inv X pins σ' H' s'/\D.ct σ' H'
 | .ret u=>∃v σ' H',Inv X pins σ' H' s'/\RelV v u/\D.rt v H'
noncomputable def PE(X:Cx)(e:Expr)(t:TE):Prop :=
 ∀(pins:List (Addr×Obj)) (s:Shared) (σ:St) (H:Hp) (Q:VK),Inv X pins σ H s->t σ H Q->wpAny (model X.prog X.w) X.A (eval e X.env) (EP X pins σ Q) X.xe s
noncomputable def PT(X:Cx)(e:Expr)(t:TT):Prop :=
 ∀(pins:List (Addr×Obj)) (s:Shared) (σ:St) (H:Hp) (Q:Bool->Hp->Prop),Inv X pins σ H s->t σ H Q->wpAny (model X.prog X.w) X.A (isTrue e X.env (eval e X.env)) (TP X pins σ Q) X.xe s
noncomputable def PW(X:Cx)(e:Expr)(t:TT):Prop :=
 ∀(whole:Sem Value) (pins:List (Addr×Obj)) (s:Shared) (σ:St) (H:Hp) (Q:Bool->Hp->Prop),Inv X pins σ H s->t σ H Q->wpAny (model X.prog X.w) X.A (isTrue e X.env whole) (TP X pins σ Q) X.xe s
theorem PW.pt{X:Cx}{e:Expr}{t:TT}(h:PW X e t):PT X e t:=h _
noncomputable def PA(X:Cx)(es:List Expr)(t:TA):Prop :=
 ∀(pos:Pos) (pins:List (Addr×Obj)) (s:Shared) (σ:St) (H:Hp) (Q:List V->Hp->Prop),Inv X pins σ H s->t σ H Q->wpAny (model X.prog X.w) X.A (spliced (backTo pos (starEach es X.env))) (AP X pins σ Q) X.xe s
noncomputable def PS(X:Cx)(st:Stmt)(t:TS):Prop :=
 ∀(pins:List (Addr×Obj)) (s:Shared) (σ:St) (H:Hp) (D:Ends),Inv X pins σ H s->t D σ H->wpAny (model X.prog X.w) X.A (exec st X.env) (SP X pins D) X.xe s
noncomputable def je(X:Cx)(st:List Stmt)(t:TS):Prop :=
 ∀(pins:List (Addr×Obj)) (s:Shared) (σ:St) (H:Hp) (D:Ends),Inv X pins σ H s->t D σ H->wpAny (model X.prog X.w) X.A (execs st X.env) (SP X pins D) X.xe s
theorem aT{α:Type}{t:Sem α}{Q Q':α->Shared->Prop}{M:Model}{A:Around}{E:Value->Shared->Prop}{s:Shared}(h:wpAny M A t Q E s)(hQ:∀a s,Q a s->Q' a s):wpAny M A t Q' E s:=wpAny_mono h hQ fun _ _ x=>x
section
variable{X:Cx}
noncomputable def Bq(i:Nat):TE:=fun σ H Q=>∃v,σ[i]? = some (some v)/\Q v H
noncomputable def tC(v:V):TE:=fun _ H Q=>Q v H
theorem yq{i:Nat}{x:Str}{pos:Pos}(hN:X.N[i]? = some x)(hv:N6 X.env.scope x)(hd:(x == ("__debug__" : Str))=false:=by decide)(hcd:(x == ("__classdict__" : Str))=false:=by decide):PE X (.Name x pos) (Bq i):=by
 intro pins s σ H Q I h
 obtain⟨v,e,h⟩:=h
 obtain⟨m,hn,hl⟩:=I.loc
 obtain⟨u,r,l⟩:=hl i x v hN e hv
 have fin:EP X pins σ Q u s:=⟨v,H,I,r,h⟩
 rcases l with ⟨hk,hm⟩ | ⟨hk,c,hc,hcell⟩
 ·exact wpAny_Name (wpAny_loadName_local I.ok.kind hk hn hm fin) hd
 ·rcases hk with hk | hk
  ·exact wpAny_Name (wpAny_loadName_cell I.ok.kind hk hc hcell fin) hd
  ·exact wpAny_Name (wpAny_loadName_free I.ok.kind hk hc hcell fin hcd) hd
theorem GQ{i j pos}:PE X (.Constant (.int i) j pos) (tC (.int i)):=fun _ _ _ H _ I h=>wpAny_Constant_int ⟨.int i,H,I.tok _,⟨_,rfl⟩,h⟩
theorem K1{b j pos}:PE X (.Constant (.bool b) j pos) (tC (.bl b)):=fun _ _ _ H _ I h=>Constant_bool ⟨.bl b,H,I,rfl,h⟩
theorem GL{j pos}:PE X (.Constant .none j pos) (tC .aq):=fun _ _ _ H _ I h=>Constant_none ⟨.aq,H,I,rfl,h⟩
theorem qY{x j pos}:PE X (.Constant (.str x) j pos) (tC (.str x)):=fun _ _ _ H _ I h=>Calls.Constant_str ⟨.str x,H,I.tok _,⟨_,rfl⟩,h⟩
noncomputable def Gl(X:Cx)(x:Str):Prop:=X.env.kindOf x=some .globalImplicit
theorem dc{E:Value->Shared->Prop}{pins:List (Addr×Obj)}{s:Shared}{σ:St}{H:Hp}{x:Str}{u:Value}{pos:Pos}{Q:Value->Shared->Prop}(I:Inv X pins σ H s)(hg:Gl X x)(hm:X.mg x=some u)(h:Q u s)
  (hd:(x == ("__debug__" : Str))=false:=by decide):wpAny (model X.prog X.w) X.A (eval (.Name x pos) X.env) Q E s :=
 Calls.Name_function_global I.ok.kind hg (Calls.loadGlobal_global (by rw[I.ok.glob];exact I.mod.glob.keeps I.bk) hm h) hd
theorem eK{E:Value->Shared->Prop}{pins:List (Addr×Obj)}{s:Shared}{σ:St}{H:Hp}{x:Str}{u:Value}{pos:Pos}{Q:Value->Shared->Prop}(I:Inv X pins σ H s)(hg:Gl X x)(hm:X.mg x=none)(hv:bootBuiltins x=some u)(h:Q u s)
  (hn:x≠"__name__":=by decide) (hd:(x == ("__debug__" : Str))=false:=by decide):wpAny (model X.prog X.w) X.A (eval (.Name x pos) X.env) Q E s:=by
 obtain⟨mb,h1,h2⟩:=I.mod.blt
 exact Calls.Name_function_global I.ok.kind hg (Calls.loadGlobal_builtin (by rw[I.ok.glob];exact I.mod.glob.keeps I.bk) hm (by rw[I.ok.blt];exact h1.keeps I.bk) ((h2 x hn).trans hv) h) hd
theorem t7{x:Str}{v:V}{u:Value}{pos:Pos}(hg:Gl X x)(hm:X.mg x=some u)(r:RelV v u)(hd:(x == ("__debug__" : Str))=false:=by decide):PE X (.Name x pos) (tC v) :=
 fun _ _ _ H _ I h=>dc I hg hm ⟨v,H,I,r,h⟩ hd
theorem t9{x:Str}{v:V}{u:Value}{pos:Pos}(hg:Gl X x)(hm:X.mg x=none)(hv:bootBuiltins x=some u)(r:RelV v u)(hn:x≠"__name__":=by decide)(hd:(x == ("__debug__" : Str))=false:=by decide):PE X (.Name x pos) (tC v) :=
 fun _ _ _ H _ I h=>eK I hg hm hv ⟨v,H,I,r,h⟩ hn hd
variable{a b:Expr}{ta tb:TE}{pos:Pos}
noncomputable def tB(t:TE):TT:=fun σ H Q=>t σ H fun x H1=>∃c,x=.bl c/\Q c H1
theorem Gv{e:Expr}{t:TE}(h:PE X e t)(he:∀whole,isTrue e X.env whole=(do let v <- whole;standAt e.pos;holding [v] (truthy v)):=by intro _;rfl):PT X e (tB t):=by
 intro pins s σ H Q I hw
 refine isTrue_plain (aT (h pins s σ H _ I hw) fun v s1 ⟨x,H1,I1,r1,q1⟩=>?_) (he _)
 obtain⟨d,rfl,q⟩:=q1
 cases r1
 exact wpAny_truthy_bool ⟨H1,I1,q⟩
variable{tA MY:TT}{rest:List Expr}
noncomputable def Kg(t u:TT):TT:=fun σ H Q=>t σ H fun c H1=>if c=true then u σ H1 Q else Q false H1
noncomputable def tOr(t u:TT):TT:=fun σ H Q=>t σ H fun c H1=>if c=true then Q true H1 else u σ H1 Q
noncomputable def J7(t:TT):TT:=fun σ H Q=>t σ H fun c H1=>Q (!c) H1
theorem pw_and1(ha:PT X a tA):PW X (.BoolOp .And [a] pos) tA:=by
 intro wh pins s σ H Q I h
 refine isTrue_and (aT (ha pins s σ H Q I h) fun c s1 e=>?_)
 cases c with
 | true=>exact isTrue_and_nil e
 | false=>exact e
theorem pw_or1(ha:PT X a tA):PW X (.BoolOp .Or [a] pos) tA:=by
 intro wh pins s σ H Q I h
 refine isTrue_or (aT (ha pins s σ H Q I h) fun c s1 e=>?_)
 cases c with
 | false=>exact isTrue_or_nil e
 | true=>exact e
theorem pw_and(ha:PT X a tA)(hb:PW X (.BoolOp .And (b::rest) pos) MY):PW X (.BoolOp .And (a::b::rest) pos) (Kg tA MY):=by
 intro wh pins s σ H Q I h
 refine isTrue_and (aT (ha pins s σ H _ I h) fun c s1 ⟨H1,I1,q1⟩=>?_)
 cases c with
 | true=>exact hb wh pins s1 σ H1 Q I1 q1
 | false=>exact⟨H1,I1,q1⟩
theorem pw_or(ha:PT X a tA)(hb:PW X (.BoolOp .Or (b::rest) pos) MY):PW X (.BoolOp .Or (a::b::rest) pos) (tOr tA MY):=by
 intro wh pins s σ H Q I h
 refine isTrue_or (aT (ha pins s σ H _ I h) fun c s1 ⟨H1,I1,q1⟩=>?_)
 cases c with
 | true=>exact⟨H1,I1,q1⟩
 | false=>exact hb wh pins s1 σ H1 Q I1 q1
theorem Gw(ha:PT X a tA):PT X (.UnaryOp .Not a pos) (J7 tA):=by
 intro pins s σ H Q I h
 exact isTrue_not (ha pins s σ H (fun c H1=>Q (!c) H1) I h)
noncomputable def Ed(ta tb:TE):TE:=fun σ H Q=>ta σ H fun x H1=>∃c,x=.bl c/\if c=true then tb σ H1 Q else Q (.bl false) H1
noncomputable def J5(ta tb:TE):TE:=fun σ H Q=>ta σ H fun x H1=>∃c,x=.bl c/\if c=true then Q (.bl true) H1 else tb σ H1 Q
noncomputable def D8(ta:TE):TE:=fun σ H Q=>ta σ H fun x H1=>∃c,x=.bl c/\Q (.bl (!c)) H1
theorem GJ{op}{t:TE}(h:PE X a t):PE X (.BoolOp op [a] pos) t:=fun pins s σ H Q I hw=>BoolOp_one (h pins s σ H Q I hw)
theorem GS(ha:PE X a ta)(hb:PE X (.BoolOp .And (b::rest) pos) tb):PE X (.BoolOp .And (a::b::rest) pos) (Ed ta tb):=by
 intro pins s σ H Q I h
 refine BoolOp_and (aT (ha pins s σ H _ I h) fun v s1 ⟨x,H1,I1,r1,q1⟩=>?_)
 obtain⟨c,rfl,q1⟩:=q1
 cases r1
 refine wpAny_truthy_bool ?_
 cases c with
 | true=>exact hb pins s1 σ H1 Q I1 q1
 | false=>exact⟨.bl false,H1,I1,rfl,q1⟩
theorem KW(ha:PE X a ta)(hb:PE X (.BoolOp .Or (b::rest) pos) tb):PE X (.BoolOp .Or (a::b::rest) pos) (J5 ta tb):=by
 intro pins s σ H Q I h
 refine BoolOp_or (aT (ha pins s σ H _ I h) fun v s1 ⟨x,H1,I1,r1,q1⟩=>?_)
 obtain⟨c,rfl,q1⟩:=q1
 cases r1
 refine wpAny_truthy_bool ?_
 cases c with
 | false=>exact hb pins s1 σ H1 Q I1 q1
 | true=>exact⟨.bl true,H1,I1,rfl,q1⟩
theorem GK(ha:PE X a ta):PE X (.UnaryOp .Not a pos) (D8 ta):=by
 intro pins s σ H Q I h
 refine UnaryOp_ (aT (ha pins s σ H _ I h) fun v s1 ⟨x,H1,I1,r1,q1⟩=>?_)
 obtain⟨c,rfl,q1⟩:=q1
 cases r1
 exact not_of (wpAny_truthy_bool ⟨.bl (!c),H1,I1,rfl,q1⟩)
noncomputable def tIf(t:TT)(ta tb:TE):TE:=fun σ H Q=>t σ H fun c H1=>if c=true then ta σ H1 Q else tb σ H1 Q
theorem yw{c:Expr}(hc:PT X c tA)(ha:PE X a ta)(hb:PE X b tb):PE X (.IfExp c a b pos) (tIf tA ta tb):=by
 intro pins s σ H Q I h
 refine wpAny_IfExp (aT (hc pins s σ H _ I h) fun d s1 ⟨H1,I1,q1⟩=>?_)
 cases d with
 | true=>exact ha pins s1 σ H1 Q I1 q1
 | false=>exact hb pins s1 σ H1 Q I1 q1
end
noncomputable def fu(K:PySem.W.Frag)(H:Hp)(a:Addr)(xs:List V):Prop :=
 Rd H a (.lst xs) \/
  ∃(o:Obj) (its:Array Value) (n:Nat), K.lookup a=some o/\o.cls=.type "list"/\o.dict=none/\o.data=.seq its n/\its.size<=sizeLine/\Vals xs its.toList
noncomputable def gU(K:PySem.W.Frag)(H:Hp)(a:Addr)(xs:List V):Prop :=
 Rd H a (.tup xs) \/
  ∃(o:Obj) (its:Array Value) (n:Nat), K.lookup a=some o/\o.cls=.type "tuple"/\o.data=.seq its n/\its.size<=sizeLine/\Vals xs its.toList
noncomputable def absV:Value->Option V
 | .none=>some .aq
 | .bool b=>some (.bl b)
 | .int i _=>some (.int i)
 | .str x _=>some (.str x)
 | .bytes b _=>some (.wR b)
 | .float b _=>some (.NH b)
 | .ref a=>some (.ref a)
 | .type n=>some (.ty n)
 | _=>none
theorem RelV.abs{x:V}{u:Value}(r:RelV x u):absV u=some x:=by
 cases x with
 | aq=>cases r;rfl
 | bl _=>cases r;rfl
 | int _=>obtain⟨t,rfl⟩:=r;rfl
 | str _=>obtain⟨t,rfl⟩:=r;rfl
 | wR _=>obtain⟨t,rfl⟩:=r;rfl
 | NH _=>obtain⟨t,rfl⟩:=r;rfl
 | ref _=>cases r;rfl
 | ty _=>cases r;rfl
theorem RelV.inj{x y:V}{u:Value}(r:RelV x u)(q:RelV y u):x=y:=Option.some.inj (r.abs.symm.trans q.abs)
theorem Vals.inj:∀{xs ys:List V} {us:List Value},Vals xs us->Vals ys us->xs=ys
 | _,_,_,.nil,.nil=>rfl
 | _,_,_,.cons r t,.cons r' t'=>by rw[r.inj r',Vals.inj t t']
section
variable{X:Cx}{pins:List (Addr×Obj)}{σ:St}{H:Hp}{s:Shared}{a:Addr}{xs ys:List V}
theorem Inv.list(I:Inv X pins σ H s)(h:fu X.K H a xs):∃its:List Value,Vals xs its/\PlainL s.heap a its.toArray/\xs.length<=sizeLine:=by
 rcases h with h | ⟨o,its,n,hk,hc,hd,hs,hz,r⟩
 ·obtain⟨z,its,n,r,e⟩:=h.ok I.hok
  exact⟨its,r,⟨_,n,e,rfl,rfl,rfl⟩,z⟩
 ·refine⟨its.toList,r,⟨o,n,I.fM a o hk,hc,hd,by simpa using hs⟩,?_⟩
  have e:=r.length
  simp only[Array.length_toList] at e
  omega
theorem Inv.tuple(I:Inv X pins σ H s)(h:gU X.K H a xs):∃its:List Value,Vals xs its/\IsTup s.heap a its.toArray/\xs.length<=sizeLine:=by
 rcases h with h | ⟨o,its,n,hk,hc,hs,hz,r⟩
 ·obtain⟨z,its,r,p⟩:=h.ok I.hok
  exact⟨its,r,p,z⟩
 ·refine⟨its.toList,r,⟨o,I.fM a o hk,hc,n,by simpa using hs⟩,?_⟩
  have e:=r.length
  simp only[Array.length_toList] at e
  omega
theorem Inv.pK(I:Inv X pins σ H s)(h:fu X.K H a xs)(h':fu X.K H a ys):xs=ys:=by
 obtain⟨its,r,⟨o,n,e,_,_,d⟩,_⟩:=I.list h
 obtain⟨its',r',⟨o',n',e',_,_,d'⟩,_⟩:=I.list h'
 rw[e] at e';cases e'
 rw[d] at d'
 injection d' with d1 _
 have:its=its':=by simpa using congrArg Array.toList d1
 subst this
 exact r.inj r'
theorem Inv.lG(I:Inv X pins σ H s)(h:gU X.K H a xs)(h':gU X.K H a ys):xs=ys:=by
 obtain⟨its,r,⟨o,e,_,n,d⟩,_⟩:=I.tuple h
 obtain⟨its',r',⟨o',e',_,n',d'⟩,_⟩:=I.tuple h'
 rw[e] at e';cases e'
 rw[d] at d'
 injection d' with d1 _
 have:its=its':=by simpa using congrArg Array.toList d1
 subst this
 exact r.inj r'
end
noncomputable abbrev Cx.bJ(X:Cx)(E:Value->Shared->Prop):Cx:={ X with xe:=E }
noncomputable abbrev Cx.EE(X:Cx):Cx:=X.bJ fun _ _=>False
theorem Cx.Ok.bJ{X:Cx}(ok:X.Ok)(E:Value->Shared->Prop):(X.bJ E).Ok :=
 ⟨ok.mod,ok.kind,ok.glob,ok.blt,ok.above,ok.inj,ok.has,ok.Fp,ok.hd,ok.frames,ok.stk,ok.LL,ok.bs,ok.wG,ok.pA,ok.rZ,ok.gj,ok.zK⟩
theorem Cx.Ok.aY{X:Cx}{E:Value->Shared->Prop}(ok:(X.bJ E).Ok):X.Ok :=
 ⟨ok.mod,ok.kind,ok.glob,ok.blt,ok.above,ok.inj,ok.has,ok.Fp,ok.hd,ok.frames,ok.stk,ok.LL,ok.bs,ok.wG,ok.pA,ok.rZ,ok.gj,ok.zK⟩
section
variable{X:Cx}{pins:List (Addr×Obj)}{σ:St}{H:Hp}{s:Shared}{E:Value->Shared->Prop}
theorem Inv.bJ(I:Inv X pins σ H s)(E:Value->Shared->Prop):Inv (X.bJ E) pins σ H s:=⟨I.ok.bJ E,I.os,I.bare,I.base,I.loc,I.cell,I.free,I.bM,I.pin,I.hok,I.len⟩
theorem Inv.aY(I:Inv (X.bJ E) pins σ H s):Inv X pins σ H s:=⟨I.ok.aY,I.os,I.bare,I.base,I.loc,I.cell,I.free,I.bM,I.pin,I.hok,I.len⟩
theorem SP.aY{D:Ends}{f:Flow}{s':Shared}(h:SP (X.bJ E) pins D f s'):SP X pins D f s':=by
 cases f with
 | next=>obtain⟨σ',H',I,q⟩:=h;exact⟨σ',H',I.aY,q⟩
 | brk=>obtain⟨σ',H',I,q⟩:=h;exact⟨σ',H',I.aY,q⟩
 | cont=>obtain⟨σ',H',I,q⟩:=h;exact⟨σ',H',I.aY,q⟩
 | ret u=>obtain⟨v,σ',H',I,r,q⟩:=h;exact⟨v,σ',H',I.aY,r,q⟩
theorem PE.EE{e:Expr}{t:TE}(h:PE X.EE e t):PE X e t:=fun pins s σ H Q I hw =>
 wpAny_mono (h pins s σ H Q (I.bJ _) hw) (fun _ _ ⟨v,H',I',r,q⟩=>⟨v,H',I'.aY,r,q⟩) fun _ _ z=>False.elim z
theorem PT.EE{e:Expr}{t:TT}(h:PT X.EE e t):PT X e t:=fun pins s σ H Q I hw =>
 wpAny_mono (h pins s σ H Q (I.bJ _) hw) (fun _ _ ⟨H',I',q⟩=>⟨H',I'.aY,q⟩) fun _ _ z=>False.elim z
theorem je.EE{st:List Stmt}{t:TS}(h:je X.EE st t):je X st t:=fun pins s σ H D I hw =>
 wpAny_mono (h pins s σ H D (I.bJ _) hw) (fun _ _ q=>q.aY) fun _ _ z=>False.elim z
end
section
variable{X:Cx}{st:Stmt}{rest:List Stmt}{t u:TS}{e:Expr}{te:TE}{pos:Pos}
noncomputable def D9:TS:=fun D σ H=>D.nx σ H
noncomputable def FH(t u:TS):TS:=fun D σ H=>t { D with nx:=u D } σ H
theorem tX:je X [] D9:=fun _ _ σ H _ I h=>wpAny_execs_nil ⟨σ,H,I,h⟩
theorem o9(h1:PS X st t)(h2:je X rest u):je X (st::rest) (FH t u):=by
 intro pins s σ H D I h
 refine wpAny_execs_cons (aT (h1 pins s σ H { D with nx:=u D } I h) fun f s1 q=>?_)
 cases f with
 | next =>
  obtain⟨σ',H',I',q⟩:=q
  exact h2 pins s1 σ' H' D I' q
 | ret v=>exact q
 | brk=>exact q
 | cont=>exact q
theorem Inv.quiet{pins:List (Addr×Obj)}{σ:St}{H:Hp}{s:Shared}(I:Inv X pins σ H s):interactive X.env=false:=by simp[interactive,I.ok.kind]
noncomputable def Ea(te:TE):TS:=fun D σ H=>te σ H fun _ H1=>D.nx σ H1
theorem Cc(he:PE X e te)(hs:swapsWith e none pos.line X.env=pure false:=by rfl):PS X (.Expr e pos) (Ea te):=by
 intro pins s σ H D I h
 exact wpAny_Expr_any (aT (he pins s σ H _ I h) fun v s1 ⟨x,H1,I1,r1,q1⟩=>⟨σ,H1,I1,q1⟩) I.quiet hs
noncomputable def J4(te:TE):TS:=fun D σ H=>te σ H D.rt
theorem Gz(he:PE X e te):PS X (.Return (some e) pos) (J4 te):=by
 intro pins s σ H D I h
 exact wpAny_Return_some (aT (he pins s σ H _ I h) fun v s1 ⟨x,H1,I1,r1,q1⟩=>⟨x,σ,H1,I1,r1,q1⟩)
noncomputable def Ka(c:TT)(t u:TS):TS:=fun D σ H=>c σ H fun b H1=>if b=true then t D σ H1 else u D σ H1
theorem KO{c:Expr}{a b:List Stmt}{tc:TT}(hc:PT X c tc)(ha:je X a t)(hb:je X b u):PS X (.If c a b pos) (Ka tc t u):=by
 intro pins s σ H D I h
 refine wpAny_If (aT (hc pins s σ H _ I h) fun d s1 ⟨H1,I1,q1⟩=>?_)
 cases d with
 | true=>exact ha pins s1 σ H1 D I1 q1
 | false=>exact hb pins s1 σ H1 D I1 q1
end
noncomputable abbrev TG:=V->St->Hp->(St->Hp->Prop)->Prop
noncomputable abbrev Fv:=List V->St->Hp->(St->Hp->Prop)->Prop
noncomputable def PG(X:Cx)(target:Expr)(t:TG):Prop :=
 ∀(pins:List (Addr×Obj)) (s:Shared) (σ:St) (H:Hp) (v:V) (u:Value) (Q:St->Hp->Prop),Inv X pins σ H s->RelV v u->t v σ H Q ->
  wpAny (model X.prog X.w) X.A (assign target X.env u) (fun _ s'=>∃σ' H',Inv X pins σ' H' s'/\Q σ' H') X.xe s
noncomputable def MG(X:Cx)(ts:List Expr)(t:Fv):Prop :=
 ∀(pins:List (Addr×Obj)) (s:Shared) (σ:St) (H:Hp) (vs:List V) (us:List Value) (Q:St->Hp->Prop),Inv X pins σ H s->Vals vs us->t vs σ H Q ->
  wpAny (model X.prog X.w) X.A (assignInOrder ((assignEach ts X.env).map (·.2)) us) (fun _ s'=>∃σ' H',Inv X pins σ' H' s'/\Q σ' H') X.xe s
noncomputable abbrev TSet:=V->V->V->Hp->(Hp->Prop)->Prop
noncomputable def PSet(X:Cx)(t:TSet):Prop :=
 ∀(pins:List (Addr×Obj)) (s:Shared) (σ:St) (H:Hp) (o i v:V) (ov iv u:Value) (Q:Hp->Prop),Inv X pins σ H s->RelV o ov->RelV i iv->RelV v u->t o i v H Q ->
  wpAny (model X.prog X.w) X.A (setItem ov iv u) (fun _ s'=>∃H',Inv X pins σ H' s'/\Q H') X.xe s
section
variable{X:Cx}{pos:Pos}
noncomputable def jj(i:Nat):TG:=fun v σ H Q=>Q (σ.set i (some v)) H
theorem Cj{i:Nat}{x:Str}(hN:X.N.Nodup)(hi:X.N[i]? = some x)(hx:Loc X.env.scope x)(hf:X.fn x=true\/X.env.scope.names.lookup x=some .local:=by first | exact .inl rfl | exact .inr rfl | assumption):PG X (.Name x pos) (jj i):=by
 intro pins s σ H v u Q I r h
 exact wpAny_assign_Name (jR I hN hi hx r (fun s' I'=>⟨_,H,I',h⟩) hf)
noncomputable def LC:Fv:=fun vs σ H Q=>vs=[]/\Q σ H
noncomputable def EY(t:TG)(u:Fv):Fv:=fun vs σ H Q=>∃v r,vs=v::r/\t v σ H fun σ' H'=>u r σ' H' Q
theorem t6:MG X [] LC:=by
 intro pins s σ H vs us Q I r h
 obtain⟨e,h⟩:=h
 subst e
 cases r
 exact assignInOrder_nil ⟨σ,H,I,h⟩
theorem j4{e:Expr}{es:List Expr}{t:TG}{u:Fv}(h1:PG X e t)(h2:MG X es u)
  (hs:(assignEach (e::es) X.env).map (·.2)=assign e X.env::(assignEach es X.env).map (·.2):=by rfl):MG X (e::es) (EY t u):=by
 intro pins s σ H vs us Q I r h
 obtain⟨v,vr,e1,h⟩:=h
 subst e1
 cases r with
 | cons r rr =>
  rw[hs]
  refine assignInOrder_cons (aT (h1 pins s σ H _ _ _ I r h) fun _ s1 ⟨σ1,H1,I1,q1⟩=>?_)
  exact h2 pins s1 σ1 H1 _ _ Q I1 rr q1
noncomputable def gTup(K:PySem.W.Frag)(n:Nat)(t:Fv):TG:=fun v σ H Q=>∃a xs,v=.ref a/\gU K H a xs/\xs.length=n/\t xs σ H Q
theorem yp{es:List Expr}{k:Nat}{t:Fv}{n:Nat}(hc:X.calm=true)(h:MG X es t)
  (hn:(assignEach es X.env).length=n:=by rfl) (hst:(assignEach es X.env).findIdx? (·.1)=none:=by rfl):PG X (.Tuple es k pos) (gTup X.K n t):=by
 intro pins s σ H v u Q I r hw
 obtain⟨a,xs,e1,hq,hl,hw⟩:=hw
 subst e1
 cases r
 obtain⟨its,rv,ht,hz⟩:=I.tuple hq
 refine assign_Tuple_tuple (I.ok.hd hc) ht (by simp[hn,<- hl,rv.length]) hst fun h' hx=>?_
 have I1:Inv X pins σ H { s with heap:=h' }:=I.kept (t':=s.toks) fun b o e=>hx b o (Nat.ne_of_lt (Heap.lt_size e)) e
 exact h pins _ σ H xs _ Q I1 (by simpa using rv) hw
noncomputable def Bs(te:TE)(g:TG):TS:=fun D σ H=>te σ H fun x H1=>g x σ H1 D.nx
theorem yk{i:Nat}{x:Str}{e:Expr}{te:TE}{pos':Pos}(hN:X.N.Nodup)(hi:X.N[i]? = some x)(hx:Loc X.env.scope x)(he:PE X e te)(hs:swapsWith e (some (.Name x pos')) pos.line X.env=pure false:=by rfl)(hf:X.fn x=true\/X.env.scope.names.lookup x=some .local:=by first | exact .inl rfl | exact .inr rfl | assumption) :
  PS X (.Assign [.Name x pos'] e pos) (Bs te (jj i)):=by
 intro pins s σ H D I h
 refine wpAny_Assign_Name (aT (he pins s σ H _ I h) fun v s1 ⟨y,H1,I1,r1,q1⟩=>?_) hs
 exact jR I1 hN hi hx r1 (fun s2 I2=>⟨_,H1,I2,q1⟩) hf
end
section
variable{X:Cx}{pos:Pos}
noncomputable def xu(c:TT)(tb:TS):TS:=fun D σ H=>∃W:Nat->St->Hp->Prop,(∃m,W m σ H)/\∀m σ H,W m σ H ->
 c σ H fun b H1=>if b=true then ∃N:St->Hp->Prop,(∀σ' H',N σ' H'->∃m',m'<m/\W m' σ' H')/\tb { D with nx:=N,ct:=N,bk:=D.nx } σ H1 else D.nx σ H1
theorem yj{c:Expr}{body:List Stmt}{tc:TT}{tb:TS}(hp:PassesOwn (model X.prog X.w) X.A X.env X.xe)(hc:PT X c tc)(hb:je X body tb):PS X (.While c body [] pos) (xu tc tb):=by
 intro pins s σ H D I h
 obtain⟨W,⟨m0,w0⟩,turn⟩:=h
 refine wpAny_While (codeAny_whileLoop (fun n s'=>∃σ' H',Inv X pins σ' H' s'/\W n σ' H') ?_ m0 ⟨σ,H,I,w0⟩)
 rintro n s1 ⟨σ1,H1,I1,w1⟩
 refine wpAny_passesOwn hp (aT (hc pins s1 σ1 H1 _ I1 (turn n σ1 H1 w1)) fun b s2 ⟨H2,I2,q2⟩=>?_)
 cases b with
 | true =>
  obtain⟨N,hN,q2⟩:=q2
  rw[if_pos rfl]
  refine wpAny_passesOwn hp (aT (hb pins s2 σ1 H2 _ I2 q2) fun f s3 q3=>?_)
  cases f with
  | next =>
   obtain⟨σ3,H3,I3,n3⟩:=q3
   obtain⟨m',hm,w3⟩:=hN σ3 H3 n3
   exact⟨m',hm,σ3,H3,I3,w3⟩
  | cont =>
   obtain⟨σ3,H3,I3,n3⟩:=q3
   obtain⟨m',hm,w3⟩:=hN σ3 H3 n3
   exact⟨m',hm,σ3,H3,I3,w3⟩
  | brk=>exact q3
  | ret v=>exact q3
 | false =>
  rw[if_neg Bool.false_ne_true]
  exact wpAny_execs_nil ⟨σ1,H2,I2,q2⟩
end
structure It where
 go:Nat->Hp->Prop
 MS:Nat->Hp->V->Hp->Prop
 stop:Nat->Hp->Prop
noncomputable def kP(X:Cx)(pins:List (Addr×Obj))(H:Hp)(b:Addr):Prop :=
 H b=none/\b≠X.env.locals/\b∉X.fs/\(b∈X.ex\/X.s₀.heap.objs.size<=b)/\(∀x c,X.env.cells.lookup x=some c->c≠b)/\∀p∈X.pn++pins,p.1≠b
theorem Inv.pS{X:Cx}{pins:List (Addr×Obj)}{σ:St}{H H':Hp}{s:Shared}{b:Addr}(I:Inv X pins σ H s)(hb:s.heap.objs.size<=b)(hn:H' b=none):kP X pins H' b:=by
 refine⟨hn,Nat.ne_of_gt (Nat.lt_of_lt_of_le I.lt hb),I.Lb hb,.inr (Nat.le_trans I.sz hb),fun x c e z=>?_,fun p hp z=>?_⟩
 ·obtain⟨v,q⟩:=I.cell x c e
  exact absurd (Nat.lt_of_lt_of_le q.lt (by rw[z];exact hb)) (Nat.lt_irrefl _)
 ·exact absurd (Nat.lt_of_lt_of_le (Heap.lt_size (I.pin p hp).1) (by rw[z];exact hb)) (Nat.lt_irrefl _)
noncomputable def Qt(A:Around)(h:Heap)(it:Addr):Prop:=A.handled=none\/∃a oe vs,A.handled=some (.ref a)/\h.get? a=some oe/\oe.data=.fields vs/\vs[2]? = some .none/\a≠it
theorem lq:entryFor table "proto.unchain" = some Builtin.«proto.unchain»:=entryFor_of_fast (by kernel_rfl)
theorem yc{prog:Program}{w:World}{A:Around}{E:Value->Shared->Prop}{s:Shared}{α:Type}{e it:Addr}{cl:Value}{Q:α->Shared->Prop}(hq:Qt A s.heap it)(ho:∃oe ws,s.heap.get? e=some oe/\oe.cls=cl/\oe.data=.fields ws/\2<ws.size)(hn:∀a,A.handled=some (.ref a)->a≠e)
  (h:∀h',(∃o,h'.get? e=some o/\o.cls=cl)->(∀b o,b≠e->s.heap.get? b=some o->h'.get? b=some o)->E (.ref e) { s with heap:=h' }):wpAny (model prog w) A (raiseNew (.ref e):Sem α) Q E s:=by
 obtain⟨oe,ws,he,rfl,hd,hz⟩:=ho
 simp only[raiseNew]
 refine wpAny_bind (wpAny_handled ?_)
 rcases hq with hh | ⟨a,oa,vs,hh,ha,da,v2,_⟩
 ·rw[hh]
  exact wpAny_bind (wpAny_pure (wpAny_throw (h s.heap ⟨_,he,rfl⟩ fun _ _ _ q=>q)))
 ·rw[hh]
  have ne:=hn a hh
  show wpAny _ _ (if (Value.ref a != Value.ref e)=true then _ else _) _ _ s
  rw[if_pos (by simp[ne])]
  refine wpAny_bind (wpAny_holding (wpAny_runValue (codeAny_builtin lq ?_)))
  show wpAny _ _ (field (.ref a) 2 >>= _) _ _ s
  refine wpAny_bind (wpAny_field ha da v2 ?_)
  show wpAny _ _ (if (Value.none == Value.none)=true then _ else _) _ _ s
  rw[if_pos (show (Value.none == Value.none)=true from rfl)]
  refine wpAny_pure ?_
  refine wpAny_bind (wpAny_setField (a:=e) he hd hz (wpAny_throw (h _ ⟨_,Heap.get?_update_self _ he (Obj.isFreed_of_fields (Obj.data_mapFields hd _)),Obj.cls_mapFields _ _⟩ fun b o hb q=>(Heap.get?_update_other _ _ (Ne.symm hb)).trans q)))
theorem yR{prog:Program}{w:World}{A:Around}{E:Value->Shared->Prop}{s:Shared}{it l:Addr}{i:Nat}{items:Array Value}{Q:Option Value->Shared->Prop}(hq:Qt A s.heap it)
  (hit:s.heap.IsListIter it l i) (hl:s.heap.IsList l items) (hx:items[i]? = none)
  (hQ:∀h',Heap.ExtBut it s.heap h'->Q none { s with heap:=h' }):wpAny (model prog w) A (pyNext (.ref it)) Q E s:=by
 obtain⟨o,ho,hc,hd⟩:=id hit
 obtain⟨ol,hol,_,nl,hdl⟩:=hl
 unfold pyNext
 refine wpAny_bind (wpAny_attempt (wpAny_callSpecial?_slot (name:=Str.ofString "__next__") hit.typeIs slot_listiter_next
  (wpAny_call_entry slot_listiter_next hit.typeIs entry_listiter_next ?_ (args_listiter_next _))))
 show wpAny _ _ (field (.ref it) 0 >>= _) _ _ s
 refine wpAny_bind (wpAny_field ho hd (x:=.ref l) rfl ?_)
 show wpAny _ _ (if (Value.ref l == Value.none)=true then _ else _) _ _ s
 rw[if_neg (show ¬ ((Value.ref l == Value.none)=true) from Bool.false_ne_true)]
 show wpAny _ _ (field (.ref it) 1 >>= _) _ _ s
 refine wpAny_bind (wpAny_field ho hd (x:=.int i 0) rfl ?_)
 show wpAny _ _ (seqItems? (.ref l) >>= _) _ _ s
 refine wpAny_bind (wpAny_seqItems hol hdl ?_)
 simp only[Int.toNat_natCast,hx]
 refine wpAny_bind (wpAny_rule (wpAny_bind (wpAny_setField ho hd (by simp) ?_)))
 show wpAny _ _ (newExc (.type "StopIteration") [] >>= _) _ _ _
 refine wpAny_bind ?_
 simp only[newExc,newTuple]
 refine wpAny_bind (wpAny_newObj_type ?_ (by size_fits))
 refine wpAny_bind (m:=firstArgMember _ _) (wpAny_of_eq (a:=Value.none) (by first | rfl | (simp only[firstArgMember];rfl)) ?_)
 refine wpAny_newObj_type ?_ (by size_fits)
 have key:∀h':Heap,Heap.ExtBut it s.heap h'->Qt A h' it:=fun h' eb=>hq.imp id fun⟨a,oa,vs,hh,ha,r,v2,ne⟩=>⟨a,oa,vs,hh,eb a oa ne ha,r,v2,ne⟩
 have off:∀n:Nat,s.heap.objs.size<=n->∀a,A.handled=some (.ref a)->a≠n:=fun n le b z=>by
  rcases hq with hh | ⟨a,oa,vs,hh,ha,_⟩
  ·rw[hh] at z;cases z
  ·rw[hh] at z;cases z;exact Nat.ne_of_lt (Nat.lt_of_lt_of_le (Heap.lt_size ha) le)
 have le:∀(f:Obj->Obj) (o:Obj),s.heap.objs.size<=((s.heap.update it f).push o).objs.size:=fun f o=>by rw[Heap.size_push,Heap.size_update];exact Nat.le_succ _
 refine yc (it:=it) (cl:=.type "StopIteration") ?_ ⟨_, _, Heap.get?_push_size _ rfl, rfl, rfl, ?_⟩ ?_ ?_
 ·exact key _ (((Heap.SameBut.update ..).extBut.push _).push _)
 ·rw[Array.size_append];exact Nat.lt_of_lt_of_le (show 2<6 by decide) (Nat.le_add_right _ _)
 ·exact off _ (le _ _)
 ·intro h' ho k
  obtain⟨o',ho',hc'⟩:=ho
  refine wpAny_bind (wpAny_isInstance (T:="StopIteration") (b:=true) ⟨_, ho', hc'⟩ isSubtype_stop ?_)
  exact wpAny_pure (hQ _ fun b o hb q=>k b o (Nat.ne_of_lt (Nat.lt_of_lt_of_le (Heap.lt_size q) (le _ _))) ((((Heap.SameBut.update ..).extBut.push _).push _) b o hb q))
noncomputable def HX(A:Around)(H:Hp):Prop:=∃a oe o vs,A.handled=some (.ref a)/\H a=some (.dP oe o)/\oe.data=.fields vs/\vs[2]? = some .none
noncomputable def Cm:Bool->Cx->Prop
 | false,X=>X.calm=true
 | true,X=>X.calm=true\/HX X.A X.H₀
structure Turn(ht:Bool)(P:Program)(w:World)(K:PySem.W.Frag)(tg:Expr)(J:It)(fp:List Addr)(it:Addr)(tn:Nat->Heap->Prop):Prop where
 mem:it∈fp
 obj:∀i h,tn i h->∀b∈fp,∃o,h.get? b=some o/\∀v,o.data≠.cell v
 keep:∀i h h',tn i h->(∀b∈fp,∀o,h.get? b=some o->h'.get? b=some o)->tn i h'
 item:∀(X:Cx),X.prog=P->X.w=w->X.K=K->Cm ht X->∀(i:Nat) (pins:List (Addr×Obj)) (s:Shared) (σ:St) (H:Hp) (E:Value->Shared->Prop),Inv X pins σ H s->(∀b∈fp,kP X pins H b)->tn i s.heap->J.go i H ->
  wpAny (model P w) X.A (pyNext (.ref it)) (fun r s1=>∃u,r=some u /\
   wpAny (model P w) X.A (letOwnedTupleGo tg (.ref it) u) (fun _ s2=>∃x H',Inv X pins σ H' s2/\RelV x u/\J.MS i H x H'/\tn (i+1) s2.heap/\∀b∈fp,H' b=none) E s1) E s
 done:∀(X:Cx),X.prog=P->X.w=w->X.K=K->Cm ht X->∀(i:Nat) (pins:List (Addr×Obj)) (s:Shared) (σ:St) (H:Hp) (E:Value->Shared->Prop),Inv X pins σ H s->(∀b∈fp,kP X pins H b)->tn i s.heap->J.stop i H ->
  wpAny (model P w) X.A (pyNext (.ref it)) (fun r s1=>r=none/\Inv X pins σ H s1) E s
 self:∀(A:Around) (i:Nat) (s:Shared) (Q:Value->Shared->Prop) (E:Value->Shared->Prop),tn i s.heap->Q (.ref it) s->wpAny (model P w) A (pyIter (.ref it)) Q E s
noncomputable abbrev TI:=St->Hp->(It->Hp->Prop)->Prop
noncomputable def PIE(X:Cx)(pins:List (Addr×Obj))(σ:St)(tg:Expr)(R:It->Hp->Prop)(itv:Value)(s2:Shared):Prop :=
 ∃(it:Addr) (fp:List Addr) (tn:Nat->Heap->Prop) (J:It) (H':Hp),itv=.ref it/\Inv X pins σ H' s2/\(∃ht,Cm ht X/\Turn ht X.prog X.w X.K tg J fp it tn)/\tn 0 s2.heap/\(∀b∈fp,kP X pins H' b)/\R J H'
noncomputable def PI(X:Cx)(tg iter:Expr)(wi:TI):Prop :=
 ∀(pins:List (Addr×Obj)) (s:Shared) (σ:St) (H:Hp) (R:It->Hp->Prop),Inv X pins σ H s->wi σ H R ->
  wpAny (model X.prog X.w) X.A (eval iter X.env) (fun v s1=>wpAny (model X.prog X.w) X.A (pyIter v) (PIE X pins σ tg R) X.xe s1) X.xe s
theorem mq{M:Model}{A:Around}{E:Value->Shared->Prop}{s:Shared}{tg:Expr}{it:Addr}{u:Value}{o:Obj}{n:String}{vs:Array Value}{Q:Unit->Shared->Prop}(ho:s.heap.get? it=some o)(hc:o.cls=.type n)(hd:o.data=.fields vs)
    (hn:["enumerate", "zip", "dict_itemiterator", "dict_reverseitemiterator", "odict_iterator", "itertools.zip_longest", "itertools.pairwise"].contains n=false) (hQ:Q () s):wpAny M A (letOwnedTupleGo tg (.ref it) u) Q E s:=by
  unfold letOwnedTupleGo
  cases tg <;> first
    | exact wpAny_pure hQ
    | (cases u <;> first
        | exact wpAny_pure hQ
        | (refine wpAny_bind (wpAny_load ho ?_)
           rw[hc,hd]
           show wpAny M A (if (["enumerate", "zip", "dict_itemiterator", "dict_reverseitemiterator", "odict_iterator", "itertools.zip_longest", "itertools.pairwise"].contains n&&vs[0]? == some (rawInt _))=true then _ else _) Q E s
           rw[if_neg (by intro h;rw[hn,Bool.false_and] at h;cases h)]
           exact wpAny_pure hQ))
noncomputable def N9(K:PySem.W.Frag)(a:Addr):It :=
 ⟨fun i H=>∃xs x,fu K H a xs/\xs[i]? = some x,fun i H x H'=>H'=H/\∀xs,fu K H a xs->xs[i]? = some x,fun i H=>∃xs,fu K H a xs/\xs.length<=i⟩
noncomputable def Itt(K:PySem.W.Frag)(a:Addr):It :=
 ⟨fun i H=>∃xs x,gU K H a xs/\xs[i]? = some x,fun i H x H'=>H'=H/\∀xs,gU K H a xs->xs[i]? = some x,fun i H=>∃xs,gU K H a xs/\xs.length<=i⟩
noncomputable def N8(lo:Int)(n:Nat):It:=⟨fun i _=>i<n,fun i H x H'=>H'=H/\x=.int (lo+i),fun i _=>n<=i⟩
theorem lF{P:Program}{w:World}{K:PySem.W.Frag}{tg:Expr}(a it:Addr):Turn true P w K tg (N9 K a) [it] it (fun i h=>h.IsListIter it a i) where
 mem:=by simp
 obj:=fun i h st b hb=>by
  have e:b=it:=by simpa using hb
  subst e
  obtain⟨o,e,c,d⟩:=st
  exact⟨o,e,fun v z=>by rw[d] at z;cases z⟩
 keep:=fun i h h' st k=>st.at fun o e=>k it (by simp) o e
 item:=by
  intro X hP hw hK hc i pins s σ H E I hf st hg
  subst hP hw hK
  obtain⟨xs,x,hq,hx⟩:=hg
  obtain⟨its,rv,p,hz⟩:=I.list hq
  obtain⟨u,hu,ru⟩:=rv.get hx
  obtain⟨f0,f1,f2,f3,f4,f5⟩:=hf it (by simp)
  refine wpAny_pyNext_list_item st p.isList (x:=u) (by simpa using hu) fun h' st' sb=>?_
  have I1:Inv X pins σ H { s with heap:=h' }:=I.turned (t':=s.toks) (fun b o hb e=>(sb.2 b hb).trans e) f0 f1 f3 f4 f5
  obtain⟨o,e,c,d⟩:=id st'
  exact⟨u,rfl,mq (s:={ s with heap:=h' }) e c d (by decide) ⟨x,H,I1,ru,⟨rfl,fun ys hy=>by rw[I.pK hy hq];exact hx⟩,st',fun b hb=>(hf b hb).1⟩⟩
 done:=by
  intro X hP hw hK hc i pins s σ H E I hf st hg
  subst hP hw hK
  obtain⟨xs,hq,hx⟩:=hg
  obtain⟨its,rv,p,hz⟩:=I.list hq
  obtain⟨f0,f1,f2,f3,f4,f5⟩:=hf it (by simp)
  have hl:=rv.length
  exact yR ((show X.calm=true\/HX X.A X.H₀ from hc).imp I.ok.hd fun⟨a,oe,o,vs,h1,h2,h3,h4⟩=>⟨a,oe,vs,h1,(show aS X.prog X.w H s.heap a (.dP oe o) from I.hok a _ (I.base.dF a oe o h2)).1,h3,h4,fun z=>by have h5:=I.base.dF a oe o h2;rw[z,f0] at h5;cases h5⟩) st p.isList (by simp;omega) fun h' eb=>⟨rfl,I.turned (t':=s.toks) (fun b o hb e=>eb b o hb e) f0 f1 f3 f4 f5⟩
 self:=fun _ _ _ _ _ st h=>wpAny_pyIter_listiter st h
theorem qD{P:Program}{w:World}{K:PySem.W.Frag}{tg:Expr}(a it:Addr):Turn false P w K tg (Itt K a) [it] it (fun i h=>h.IsTupleIter it a i) where
 mem:=by simp
 obj:=fun i h st b hb=>by
  have e:b=it:=by simpa using hb
  subst e
  obtain⟨o,e,c,d⟩:=st
  exact⟨o,e,fun v z=>by rw[d] at z;cases z⟩
 keep:=fun i h h' st k=>st.at fun o e=>k it (by simp) o e
 item:=by
  intro X hP hw hK hc i pins s σ H E I hf st hg
  subst hP hw hK
  obtain⟨xs,x,hq,hx⟩:=hg
  obtain⟨its,rv,p,hz⟩:=I.tuple hq
  obtain⟨u,hu,ru⟩:=rv.get hx
  obtain⟨f0,f1,f2,f3,f4,f5⟩:=hf it (by simp)
  refine wpAny_pyNext_tuple_item st (show s.heap.IsTuple a its.toArray from p) (x:=u) (by simpa using hu) fun h' st' sb=>?_
  have I1:Inv X pins σ H { s with heap:=h' }:=I.turned (t':=s.toks) (fun b o hb e=>(sb.2 b hb).trans e) f0 f1 f3 f4 f5
  obtain⟨o,e,c,d⟩:=id st'
  exact⟨u,rfl,mq (s:={ s with heap:=h' }) e c d (by decide) ⟨x,H,I1,ru,⟨rfl,fun ys hy=>by rw[I.lG hy hq];exact hx⟩,st',fun b hb=>(hf b hb).1⟩⟩
 done:=by
  intro X hP hw hK hc i pins s σ H E I hf st hg
  subst hP hw hK
  obtain⟨xs,hq,hx⟩:=hg
  obtain⟨its,rv,p,hz⟩:=I.tuple hq
  obtain⟨f0,f1,f2,f3,f4,f5⟩:=hf it (by simp)
  have hl:=rv.length
  exact wpAny_pyNext_tuple_end (I.ok.hd hc) st (show s.heap.IsTuple a its.toArray from p) (by simp;omega) fun h' eb=>⟨rfl,I.turned (t':=s.toks) (fun b o hb e=>eb b o hb e) f0 f1 f3 f4 f5⟩
 self:=fun _ _ _ _ _ st h=>wpAny_pyIter_tupleiter st h
theorem qE{P:Program}{w:World}{K:PySem.W.Frag}{tg:Expr}(it:Addr)(lo:Int)(n:Nat):Turn false P w K tg (N8 lo n) [it] it (fun i h=>IsRangeIter h it (lo+(i:Nat)*1) ((n:Int)-(i:Nat)) 1) where
 mem:=by simp
 obj:=fun i h st b hb=>by
  have e:b=it:=by simpa using hb
  subst e
  exact⟨_,st,fun v z=>by
   have z':Data.fields _=Data.cell v:=z
   cases z'⟩
 keep:=fun i h h' st k=>k it (by simp) _ st
 item:=by
  intro X hP hw hK hc i pins s σ H E I hf st hg
  subst hP hw hK
  obtain⟨f0,f1,f2,f3,f4,f5⟩:=hf it (by simp)
  have W:=Walks.range (prog:=X.prog) (w:=X.w) (I.ok.hd hc) it lo 1 n
  refine W.item i s _ _ hg st fun v h' tk hv st' kk=>?_
  obtain⟨t,rfl⟩:=hv
  have I1:Inv X pins σ H { s with heap:=h',toks:=tk }:=I.turned (fun b o hb e=>kk b o (by simpa using hb) e) f0 f1 f3 f4 f5
  refine⟨_, rfl, mq (s:={ s with heap:=h', toks:=tk }) (n:="range_iterator") st' rfl rfl (by decide) ⟨.int (lo+i), H, I1, ⟨t, ?_⟩, ⟨rfl, rfl⟩, st', fun b hb=>(hf b hb).1⟩⟩
  rw[Int.mul_one]
 done:=by
  intro X hP hw hK hc i pins s σ H E I hf st hg
  subst hP hw hK
  obtain⟨f0,f1,f2,f3,f4,f5⟩:=hf it (by simp)
  exact wpAny_pyNext_range_end (I.ok.hd hc) st (by have:n<=i:=hg;omega) fun h' eb=>⟨rfl,I.turned (t':=s.toks) (fun b o hb e=>eb b o hb e) f0 f1 f3 f4 f5⟩
 self:=fun _ _ _ _ _ st h=>wpAny_pyIter_rangeiter st h
section
variable{X:Cx}{tg:Expr}
noncomputable def EW(K:PySem.W.Frag)(tl:TE):TI:=fun σ H R=>tl σ H fun x H1=>∃a,x=.ref a/\(∃xs,fu K H1 a xs)/\R (N9 K a) H1
theorem Ci{l:Expr}{tl:TE}(hc:Cm true X)(hl:PE X l tl):PI X tg l (EW X.K tl):=by
 intro pins s σ H R I h
 refine aT (hl pins s σ H _ I h) fun v s1 ⟨x,H1,I1,r1,q1⟩=>?_
 obtain⟨a,e,⟨xs,hq⟩,q⟩:=q1
 subst e
 cases r1
 obtain⟨its,rv,p,hz⟩:=I1.list hq
 refine wpAny_pyIter_list p.isList ?_
 refine⟨s1.heap.objs.size,[s1.heap.objs.size],_,_,H1,rfl,I1.kept (t':=s1.toks) fun b o e=>Heap.get?_push_of_some _ e,⟨true,hc,lF a _⟩,⟨_,Heap.get?_push_size _ rfl,rfl,rfl⟩,fun b hb=>?_,q⟩
 have e:b=s1.heap.objs.size:=by simpa using hb
 subst e
 exact I1.pS (Nat.le_refl _) (I1.hok.fresh (Nat.le_refl _))
theorem x9{pins:List (Addr×Obj)}{σ:St}{H:Hp}{s:Shared}{R:It->Hp->Prop}{E:Value->Shared->Prop}{lo hi:Int}{t u v:Tok}{tk:Nat}(hc:X.calm=true)(I:Inv X pins σ H s)(h1:-(2 ^ 62)<=lo)(h2:lo<2 ^ 62)(h3:-(2 ^ 62)<=hi)(h4:hi<2 ^ 62)
  (q:R (N8 lo (hi-lo).toNat) H):wpAny (model X.prog X.w) X.A (pyIter (.ref s.heap.objs.size)) (PIE X pins σ tg R) E { s with heap:=s.heap.push { cls:=.type "range", data:=.fields #[.int lo t, .int hi u, .int 1 v] }, toks:=tk }:=by
 refine wpAny_pyIter_range (IsRange.new ..) (small_one h1 h2 h3 h4) ?_
 have I1:Inv X pins σ H { s with heap:=s.heap.push { cls:=.type "range", data:=.fields #[.int lo t, .int hi u, .int 1 v] }, toks:=tk }:=I.kept fun b o e=>Heap.get?_push_of_some _ e
 refine⟨(s.heap.push { cls:=.type "range", data:=.fields #[.int lo t, .int hi u, .int 1 v] }).objs.size, [(s.heap.push { cls:=.type "range", data:=.fields #[.int lo t, .int hi u, .int 1 v] }).objs.size], _, _, H, rfl,
  I1.kept (t':=tk) fun b o e=>Heap.get?_push_of_some _ e,⟨false,hc,qE _ lo (hi-lo).toNat⟩,?_,fun b hb=>?_,q⟩
 ·have e1:lo+((0:Nat):Int)*1=lo:=by simp
  have e2:(((hi-lo).toNat:Nat):Int)-((0:Nat):Int)=Builtin.Range.rangeSize lo hi 1:=by rw[rangeSize_one];split <;> omega
  show IsRangeIter _ _ (lo+((0:Nat):Int)*1) ((((hi-lo).toNat:Nat):Int)-((0:Nat):Int)) 1
  rw[e1,e2]
  exact Heap.get?_push_size _ rfl
 ·have e:b=(s.heap.push { cls:=.type "range", data:=.fields #[.int lo t, .int hi u, .int 1 v] }).objs.size:=by simpa using hb
  subst e
  exact I1.pS (Nat.le_refl _) (I1.hok.fresh (Nat.le_refl _))
noncomputable def EV(ta:TA):TI:=fun σ H R=>ta σ H fun vs H1=>∃i j:Int,vs=[.int i,.int j]/\(-(2 ^ 62)<=i/\i<2 ^ 62/\-(2 ^ 62)<=j/\j<2 ^ 62)/\R (N8 i (j-i).toNat) H1
theorem vJ{a b:Expr}{ta:TA}{p pos:Pos}(hc:X.calm=true)(hg:Gl X "range")(hm:X.mg "range" = none)(ha:PA X [a, b] ta)(hs:starEach [a, b] X.env=[(false, eval a X.env), (false, eval b X.env)]:=by rfl)(hs2:starEach [b] X.env=[(false, eval b X.env)]:=by rfl) :
  PI X tg (.Call (.Name "range" p) [a, b] [] pos) (EV ta):=by
 intro pins s σ H R I h
 refine Call_ (eK I hg hm boot_range (PyProof.Rows.callWith_type1 (aT (ha pos pins s σ H _ I h) fun us s1 ⟨vs,H1,I1,r1,q1⟩=>?_) (by rw[hs,hs2]) (by rw[hs2];rfl)))
 obtain⟨i,j,e,⟨q1,q2,q3,q4⟩,q⟩:=q1
 subst e
 cases r1 with
 | cons r rr =>
  cases rr with
  | cons r' rr =>
   cases rr
   obtain⟨t,rfl⟩:=r
   obtain⟨t',rfl⟩:=r'
   exact call_range_2 (x9 hc I1 q1 q2 q3 q4 q)
noncomputable def Kc(wi:TI)(g:TG)(tb:TS):TS:=fun D σ H=>wi σ H fun J H1=>∃W:Nat->Nat->St->Hp->Prop,(∃m,W 0 m σ H1)/\∀i m σ H,W i m σ H ->
 (J.stop i H/\D.nx σ H)\/(J.go i H/\∃N:St->Hp->Prop,(∀σ' H',N σ' H'->∃m',m'<m/\W (i+1) m' σ' H')/\∀x H',J.MS i H x H'->g x σ H' fun σ2 H2=>tb { D with nx:=N,ct:=N,bk:=D.nx } σ2 H2)
noncomputable def jZ(fp:List Addr)(h:Heap):List (Addr×Obj):=fp.filterMap fun b=>(h.get? b).map fun o=>(b,o)
theorem eG{fp:List Addr}{h:Heap}{b:Addr}{o:Obj}(hb:b∈fp)(e:h.get? b=some o):(b,o)∈jZ fp h:=List.mem_filterMap.mpr ⟨b,hb,by rw[e];rfl⟩
theorem vP{fp:List Addr}{h:Heap}{p:Addr×Obj}(hp:p∈jZ fp h):p.1∈fp/\h.get? p.1=some p.2:=by
 obtain⟨b,hb,e⟩:=List.mem_filterMap.mp hp
 cases q:h.get? b with
 | none=>rw[q] at e;cases e
 | some o =>
  rw[q] at e
  have e':(b,o)=p:=Option.some.inj e
  subst e'
  exact⟨hb,q⟩
theorem Inv.pinned{pins:List (Addr×Obj)}{σ:St}{H:Hp}{s:Shared}{fp:List Addr}(I:Inv X pins σ H s)(hf:∀b∈fp,kP X pins H b)(ho:∀b∈fp,∃o,s.heap.get? b=some o/\∀v,o.data≠.cell v):Inv X (pins++jZ fp s.heap) σ H s :=
 I.tZ fun p hp=>(List.mem_append.mp hp).elim (fun z=>I.pin p (List.mem_append_right _ z)) fun z=>by
  obtain⟨hb,e⟩:=vP z
  obtain⟨f0,f1,f2,_⟩:=hf p.1 hb
  obtain⟨o,e',d⟩:=ho p.1 hb
  rw[e] at e';cases e'
  exact⟨e,f0,f1,f2,d⟩
theorem Inv.g9{pins pl:List (Addr×Obj)}{σ:St}{H:Hp}{s:Shared}(I:Inv X (pins++pl) σ H s):Inv X pins σ H s:=I.tZ fun p hp=>I.pin p (List.mem_append_right _ (List.mem_append_left _ hp))
theorem GA{iter:Expr}{body:List Stmt}{wi:TI}{g:TG}{tb:TS}{pos:Pos}(hp:PassesOwn (model X.prog X.w) X.A X.env X.xe)(hi:PI X tg iter wi)(hg:PG X tg g)(hb:je X body tb)
  (hs:∀x,foldedSetIterable iter X.env x=pure x:=by intro _;rfl):PS X (.For tg iter body [] pos) (Kc wi g tb):=by
 intro pins s σ H D I h
 refine wpAny_For (aT (hi pins s σ H _ I h) fun v s1 h1=>aT h1 fun itv s2 h2=>?_) hs
 obtain⟨it,fp,tn,J,H2,e,I2,⟨ht,hc,T⟩,st2,f2,W,⟨m0,w0⟩,turn⟩:=h2
 subst e
 have stat:∀{H':Hp},(∀b∈fp,H' b=none)->∀b∈fp,kP X pins H' b:=fun hn b hb=>⟨hn b hb,(f2 b hb).2⟩
 refine codeAny_forLoop_any (fun n s'=>∃i σ' H',Inv X pins σ' H' s'/\tn i s'.heap/\(∀b∈fp,H' b=none)/\W i n σ' H') ?_ m0 ⟨0,σ,H2,I2,st2,fun b hb=>(f2 b hb).1,w0⟩
 rintro n s3 ⟨i,σ3,H3,I3,st3,LD,w3⟩
 rcases turn i n σ3 H3 w3 with ⟨stop,qn⟩ | ⟨go,N,hN,step⟩
 ·refine wpAny_passesOwn hp (aT (T.done X rfl rfl rfl hc i pins s3 σ3 H3 X.xe I3 (stat LD) st3 stop) fun r s4 ⟨hr,I4⟩=>?_)
  subst hr
  exact wpAny_execs_nil ⟨σ3,H3,I4,qn⟩
 ·refine wpAny_passesOwn hp (aT (T.item X rfl rfl rfl hc i pins s3 σ3 H3 X.xe I3 (stat LD) st3 go) fun r s4 ⟨u,hr,h4⟩=>?_)
  subst hr
  refine wpAny_passesOwn hp (aT h4 fun _ s5 ⟨x,H5,I5,r5,y5,FQ,fr5⟩=>?_)
  have I5':=I5.pinned (stat fr5) (T.obj _ _ FQ)
  refine wpAny_passesOwn hp (aT (hg _ s5 σ3 H5 x u _ I5' r5 (step x H5 y5)) fun _ s6 ⟨σ6,H6,I6,q6⟩=>?_)
  refine wpAny_passesOwn hp (aT (hb _ s6 σ6 H6 _ I6 q6) fun f s7 q7=>?_)
  have again:∀{σ7:St} {H7:Hp},Inv X (pins++jZ fp s5.heap) σ7 H7 s7->N σ7 H7->∃m,m<n/\∃i σ' H',Inv X pins σ' H' s7/\tn i s7.heap/\(∀b∈fp,H' b=none)/\W i m σ' H':=fun {σ7 H7} I7 n7=>by
   obtain⟨m',hm,w7⟩:=hN σ7 H7 n7
   refine⟨m',hm,i+1,σ7,H7,I7.g9,T.keep _ _ _ FQ fun b hb o e=>(I7.pin (b,o) (List.mem_append_right _ (List.mem_append_right _ (eG hb e)))).1,fun b hb=>?_,w7⟩
   obtain⟨o,e,d⟩:=T.obj _ _ FQ b hb
   exact (I7.pin (b,o) (List.mem_append_right _ (List.mem_append_right _ (eG hb e)))).2.1
  cases f with
  | next=>obtain⟨σ7,H7,I7,n7⟩:=q7;exact again I7 n7
  | cont=>obtain⟨σ7,H7,I7,n7⟩:=q7;exact again I7 n7
  | brk=>obtain⟨σ7,H7,I7,q7⟩:=q7;exact⟨σ7,H7,I7.g9,q7⟩
  | ret v=>obtain⟨x7,σ7,H7,I7,r7,q7⟩:=q7;exact⟨x7,σ7,H7,I7.g9,r7,q7⟩
end
noncomputable abbrev R2:=V->V->Hp->VK->Prop
noncomputable def ek(X:Cx)(f:Value->Value->Sem Value)(r:R2):Prop :=
 ∀(pins:List (Addr×Obj)) (s:Shared) (σ:St) (H:Hp) (x y:V) (v u:Value) (Q:VK),Inv X pins σ H s->RelV x v->RelV y u->r x y H Q ->
  wpAny (model X.prog X.w) X.A (f v u) (EP X pins σ Q) X.xe s
noncomputable def UnR(X:Cx)(f:Value->Sem Value)(r:V->Hp->VK->Prop):Prop :=
 ∀(pins:List (Addr×Obj)) (s:Shared) (σ:St) (H:Hp) (x:V) (v:Value) (Q:VK),Inv X pins σ H s->RelV x v->r x H Q ->
  wpAny (model X.prog X.w) X.A (f v) (EP X pins σ Q) X.xe s
noncomputable def cG(X:Cx)(f:Value)(r:List V->Hp->VK->Prop):Prop :=
 ∀(pins:List (Addr×Obj)) (s:Shared) (σ:St) (H:Hp) (xs:List V) (us:List Value) (Q:VK),Inv X pins σ H s->Vals xs us->r xs H Q ->
  wpAny (model X.prog X.w) X.A (call f us) (EP X pins σ Q) X.xe s
noncomputable def FI(r:R2)(ta tb:TE):TE:=fun σ H Q=>ta σ H fun x H1=>tb σ H1 fun y H2=>r x y H2 Q
noncomputable def tUn(r:V->Hp->VK->Prop)(ta:TE):TE:=fun σ H Q=>ta σ H fun x H1=>r x H1 Q
noncomputable def rI(C:Int->Int->Prop)(g:Int->Int->V):R2:=fun x y H Q=>∃i j,x=.int i/\y=.int j/\C i j/\Q (g i j) H
noncomputable def qV(g:Int->Int->V):R2:=fun x y H Q=>∃i j,x=.int i/\y=.int j/\Q (g i j) H
noncomputable def rU(g:Int->V):V->Hp->VK->Prop:=fun x H Q=>∃i,x=.int i/\Q (g i) H
section
variable{X:Cx}{a b c:Expr}{ta tb tc:TE}{pos:Pos}
theorem Jm(ha:PE X a ta)(hb:PE X b tb){pins:List (Addr×Obj)}{s:Shared}{σ:St}{H:Hp}{R:V->V->Hp->Prop}(I:Inv X pins σ H s)
  (h:ta σ H fun x H1=>tb σ H1 fun y H2=>R x y H2) {Q:Value->Shared->Prop} {f:Value->Value->Sem Value}
  (hf:∀v u s2 x y H2,Inv X pins σ H2 s2->RelV x v->RelV y u->R x y H2->wpAny (model X.prog X.w) X.A (f v u) Q X.xe s2) :
  wpAny (model X.prog X.w) X.A (eval a X.env) (fun v s₁=>wpAny (model X.prog X.w) X.A (eval b X.env) (fun u s₂=>wpAny (model X.prog X.w) X.A (f v u) Q X.xe s₂) X.xe s₁) X.xe s:=by
 refine aT (ha pins s σ H _ I h) fun v s1 ⟨x,H1,I1,r1,q1⟩=>?_
 refine aT (hb pins s1 σ H1 _ I1 q1) fun u s2 ⟨y,H2,I2,r2,q2⟩=>?_
 exact hf v u s2 x y H2 I2 r1 r2 q2
theorem KY{op:Operator}{r:R2}(ho:ek X (binaryOp op) r)(ha:PE X a ta)(hb:PE X b tb):PE X (.BinOp a op b pos) (FI r ta tb):=by
 intro pins s σ H Q I h
 exact wpAny_BinOp (Jm ha hb I h fun v u s2 x y H2 I2 rx ry q=>ho pins s2 σ H2 x y v u Q I2 rx ry q)
theorem KU{op:UnaryOp}{r:V->Hp->VK->Prop}(ho:UnR X (unaryOp op) r)(ha:PE X a ta):PE X (.UnaryOp op a pos) (tUn r ta):=by
 intro pins s σ H Q I h
 exact UnaryOp_ (aT (ha pins s σ H _ I h) fun v s1 ⟨x,H1,I1,r1,q1⟩=>ho pins s1 σ H1 x v Q I1 r1 q1)
theorem K9{f:Value->Value->Sem Value}{C:Int->Int->Prop}{g:Int->Int->Int}
  (rule:∀(i j:Int) (t u:Tok) (s:Shared) (Q:Value->Shared->Prop) (E:Value->Shared->Prop),C i j->Q (.int (g i j) s.toks) { s with toks:=s.toks+1 }->wpAny (model X.prog X.w) X.A (f (.int i t) (.int j u)) Q E s) :
  ek X f (rI C fun i j=>.int (g i j)):=by
 intro pins s σ H x y v u Q I rx ry h
 obtain⟨i,j,rfl,rfl,hc,q⟩:=h
 obtain⟨t,rfl⟩:=rx
 obtain⟨t',rfl⟩:=ry
 exact rule i j t t' s _ _ hc ⟨.int (g i j),H,I.tok _,⟨_,rfl⟩,q⟩
theorem K8{f:Value->Value->Sem Value}{g:Int->Int->Int}
  (rule:∀(i j:Int) (t u:Tok) (s:Shared) (Q:Value->Shared->Prop) (E:Value->Shared->Prop),Q (.int (g i j) s.toks) { s with toks:=s.toks+1 }->wpAny (model X.prog X.w) X.A (f (.int i t) (.int j u)) Q E s) :
  ek X f (qV fun i j=>.int (g i j)):=by
 intro pins s σ H x y v u Q I rx ry h
 obtain⟨i,j,rfl,rfl,q⟩:=h
 obtain⟨t,rfl⟩:=rx
 obtain⟨t',rfl⟩:=ry
 exact rule i j t t' s _ _ ⟨.int (g i j),H,I.tok _,⟨_,rfl⟩,q⟩
theorem Cy{f:Value->Value->Sem Value}{g:Int->Int->Bool}
  (rule:∀(i j:Int) (t u:Tok) (s:Shared) (Q:Value->Shared->Prop) (E:Value->Shared->Prop),Q (.bool (g i j)) s->wpAny (model X.prog X.w) X.A (f (.int i t) (.int j u)) Q E s) :
  ek X f (qV fun i j=>.bl (g i j)):=by
 intro pins s σ H x y v u Q I rx ry h
 obtain⟨i,j,rfl,rfl,q⟩:=h
 obtain⟨t,rfl⟩:=rx
 obtain⟨t',rfl⟩:=ry
 exact rule i j t t' s _ _ ⟨.bl (g i j),H,I,rfl,q⟩
noncomputable def MQ(i j:Int):Prop:=0<j/\j<1073741824
noncomputable def MN(i j:Int):Prop:=0<=j/\j<=1000000/\i.natAbs<2 ^ 64
noncomputable def DY(i j:Int):Prop:=(-(2 ^ 64)<i/\i<2 ^ 64)\/(-(2 ^ 64)<j/\j<2 ^ 64)
theorem DY.ok{i j:Int}(h:DY i j):IntMulOk i j:=by
 rcases h with ⟨h1,h2⟩ | ⟨h1,h2⟩
 ·exact .of_left (intBits_le_64 h1 h2)
 ·exact .of_right (intBits_le_64 h1 h2)
theorem G8:ek X (binaryOp .Add) (qV fun i j=>.int (i+j)):=K8 fun _ _ _ _ _ _ _ q=>add_int q
theorem GU:ek X (binaryOp .Sub) (qV fun i j=>.int (i-j)):=K8 fun _ _ _ _ _ _ _ q=>sub_int q
theorem G0:ek X (binaryOp .Mult) (rI DY fun i j=>.int (i*j)):=K9 fun _ _ _ _ _ _ _ hc q=>mul_int q hc.ok
theorem Cu:ek X (binaryOp .FloorDiv) (rI MQ fun i j=>.int (i / j)):=K9 fun i j _ _ _ _ _ hc q=>by
 have h1:(0:Int)<j:=hc.1
 have h2:j<1073741824:=hc.2
 exact floordiv_int (by omega) (by rw[Int.fdiv_eq_ediv_of_nonneg i (by omega)];exact q) (.inl (PyProof.noPylong_small (by omega)))
theorem G1:ek X (binaryOp .Mod) (rI (fun _ j=>0<j) fun i j=>.int (i % j)):=K9 fun i j _ _ _ _ _ hc q=>by
 have h1:(0:Int)<j:=hc
 exact mod_int' (by omega) (by rw[Int.fmod_eq_emod_of_nonneg i (by omega)];exact q)
theorem GV:ek X (binaryOp .Pow) (rI MN fun i j=>.int (i ^ j.toNat)):=K9 fun _ _ _ _ _ _ _ hc q=>pow_int_small hc.1 hc.2.1 hc.2.2 q
theorem unI{f:Value->Sem Value}{g:Int->Int}
  (rule:∀(i:Int) (t:Tok) (s:Shared) (Q:Value->Shared->Prop) (E:Value->Shared->Prop),Q (.int (g i) s.toks) { s with toks:=s.toks+1 }->wpAny (model X.prog X.w) X.A (f (.int i t)) Q E s) :
  UnR X f (rU fun i=>.int (g i)):=by
 intro pins s σ H x v Q I rx h
 obtain⟨i,rfl,q⟩:=h
 obtain⟨t,rfl⟩:=rx
 exact rule i t s _ _ ⟨.int (g i),H,I.tok _,⟨_,rfl⟩,q⟩
theorem FD:UnR X (unaryOp .USub) (rU fun i=>.int (-i)):=unI fun _ _ _ _ _ q=>neg_int q
end
noncomputable def Kq:V->V->Bool
 | .aq,.aq=>true | .aq,.int _=>true | .int _,.aq=>true | .aq,.bl _=>true | .bl _,.aq=>true | .aq,.str _=>true | .str _,.aq=>true
 | .int _,.int _=>true | .bl _,.bl _=>true | .str _,.str _=>true | .wR _,.wR _=>true
 | .int _,.str _=>true | .str _,.int _=>true | .bl _,.str _=>true | .str _,.bl _=>true
 | _,_=>false
noncomputable def rEq:R2:=fun x y H Q=>Kq x y=true/\Q (.bl (decide (x=y))) H
noncomputable def rNe:R2:=fun x y H Q=>Kq x y=true/\Q (.bl (!decide (x=y))) H
theorem uS{i j:Int}:decide (V.int i=V.int j)=(i == j):=by
 rw[Bool.eq_iff_iff]
 simp
theorem nS{i j:Bool}:decide (V.bl i=V.bl j)=(i == j):=by
 rw[Bool.eq_iff_iff]
 simp
theorem uR{i j:Str}:decide (V.str i=V.str j)=(i == j):=by
 rw[Bool.eq_iff_iff]
 simp
theorem uT{i j:Array UInt8}:decide (V.wR i=V.wR j)=(i.toList == j.toList):=by
 rw[Bool.eq_iff_iff]
 cases i
 cases j
 simp
section
variable{X:Cx}{a b c:Expr}{ta tb tc:TE}{pos:Pos}
theorem az{pins:List (Addr×Obj)}{σ:St}{H:Hp}{s:Shared}{Q:VK}{k k':Bool}(I:Inv X pins σ H s)(q:Q (.bl k) H)(e:k=k'):EP X pins σ Q (.bool k') s:=by
 subst e
 exact⟨.bl k,H,I,rfl,q⟩
theorem K7:ek X (compareOp .Eq) rEq:=by
 intro pins s σ H x y v u Q I rx ry h
 obtain⟨hs,q⟩:=h
 cases x with
 | aq =>
  cases rx
  cases y with
  | aq=>cases ry;exact PySem.EqNone.eq_none_none (az I q (by simp))
  | bl j=>cases ry;exact PySem.EqNone.eq_none_bool (az I q (by simp))
  | int j=>obtain⟨t',rfl⟩:=ry;exact PySem.EqNone.eq_none_int (az I q (by simp))
  | str j=>obtain⟨t',rfl⟩:=ry;exact PySem.EqNone.eq_none_str (az I q (by simp))
  | _=>exact absurd (show false=true from hs) Bool.false_ne_true
 | bl i =>
  cases rx
  cases y with
  | aq=>cases ry;exact PySem.EqNone.eq_bool_none (az I q (by simp))
  | bl j=>cases ry;exact eq_bool (az I q nS)
  | str j=>obtain⟨t',rfl⟩:=ry;exact PySem.EqMixed.eq_bool_str (az I q (by simp))
  | _=>exact absurd (show false=true from hs) Bool.false_ne_true
 | int i =>
  obtain⟨t,rfl⟩:=rx
  cases y with
  | aq=>cases ry;exact PySem.EqNone.eq_int_none (az I q (by simp))
  | int j=>obtain⟨t',rfl⟩:=ry;exact eq_int (az I q uS)
  | str j=>obtain⟨t',rfl⟩:=ry;exact PySem.EqMixed.eq_int_str (az I q (by simp))
  | _=>exact absurd (show false=true from hs) Bool.false_ne_true
 | str i =>
  obtain⟨t,rfl⟩:=rx
  cases y with
  | aq=>cases ry;exact PySem.EqNone.eq_str_none (az I q (by simp))
  | bl j=>cases ry;exact PySem.EqMixed.eq_str_bool (az I q (by simp))
  | int j=>obtain⟨t',rfl⟩:=ry;exact PySem.EqMixed.eq_str_int (az I q (by simp))
  | str j=>obtain⟨t',rfl⟩:=ry;exact eq_str (az I q uR)
  | _=>exact absurd (show false=true from hs) Bool.false_ne_true
 | wR i =>
  obtain⟨t,rfl⟩:=rx
  cases y with
  | wR j=>obtain⟨t',rfl⟩:=ry;exact PySem.W.eq_bytes (az I q uT)
  | _=>exact absurd (show false=true from hs) Bool.false_ne_true
 | _=>cases y <;> exact absurd (show false=true from hs) Bool.false_ne_true
theorem K2:ek X (compareOp .NotEq) rNe:=by
 intro pins s σ H x y v u Q I rx ry h
 obtain⟨hs,q⟩:=h
 cases x with
 | aq =>
  cases rx
  cases y with
  | aq=>cases ry;exact PySem.EqNone.ne_none_none (az I q (by simp))
  | bl j=>cases ry;exact PySem.EqNone.ne_none_bool (az I q (by simp))
  | int j=>obtain⟨t',rfl⟩:=ry;exact PySem.EqNone.ne_none_int (az I q (by simp))
  | str j=>obtain⟨t',rfl⟩:=ry;exact PySem.EqNone.ne_none_str (az I q (by simp))
  | _=>exact absurd (show false=true from hs) Bool.false_ne_true
 | bl i =>
  cases rx
  cases y with
  | aq=>cases ry;exact PySem.EqNone.ne_bool_none (az I q (by simp))
  | bl j=>cases ry;exact ne_bool (az I q (congrArg not nS))
  | str j=>obtain⟨t',rfl⟩:=ry;exact PySem.EqMixed.ne_bool_str (az I q (by simp))
  | _=>exact absurd (show false=true from hs) Bool.false_ne_true
 | int i =>
  obtain⟨t,rfl⟩:=rx
  cases y with
  | aq=>cases ry;exact PySem.EqNone.ne_int_none (az I q (by simp))
  | int j=>obtain⟨t',rfl⟩:=ry;exact ne_int (az I q (congrArg not uS))
  | str j=>obtain⟨t',rfl⟩:=ry;exact PySem.EqMixed.ne_int_str (az I q (by simp))
  | _=>exact absurd (show false=true from hs) Bool.false_ne_true
 | str i =>
  obtain⟨t,rfl⟩:=rx
  cases y with
  | aq=>cases ry;exact PySem.EqNone.ne_str_none (az I q (by simp))
  | bl j=>cases ry;exact PySem.EqMixed.ne_str_bool (az I q (by simp))
  | int j=>obtain⟨t',rfl⟩:=ry;exact PySem.EqMixed.ne_str_int (az I q (by simp))
  | str j=>obtain⟨t',rfl⟩:=ry;exact ne_str (az I q (congrArg not uR))
  | _=>exact absurd (show false=true from hs) Bool.false_ne_true
 | wR i =>
  obtain⟨t,rfl⟩:=rx
  cases y with
  | wR j=>obtain⟨t',rfl⟩:=ry;exact PySem.W.ne_bytes (az I q (congrArg not uT))
  | _=>exact absurd (show false=true from hs) Bool.false_ne_true
 | _=>cases y <;> exact absurd (show false=true from hs) Bool.false_ne_true
theorem K3:ek X (compareOp .Lt) (qV fun i j=>.bl (decide (i<j))):=Cy fun _ _ _ _ _ _ _ q=>lt_int q
theorem K4:ek X (compareOp .LtE) (qV fun i j=>.bl (decide (i<=j))):=Cy fun _ _ _ _ _ _ _ q=>le_int q
theorem K5:ek X (compareOp .Gt) (qV fun i j=>.bl (decide (j<i))):=Cy fun _ _ _ _ _ _ _ q=>gt_int q
theorem K6:ek X (compareOp .GtE) (qV fun i j=>.bl (decide (j<=i))):=Cy fun _ _ _ _ _ _ _ q=>ge_int q
theorem G2:ek X (compareOp .Is) (fun x y H Q=>y=.aq/\Q (.bl (decide (x=.aq))) H):=by
 intro pins s σ H x y v u Q I rx ry h
 obtain⟨rfl,q⟩:=h
 cases ry
 refine is_none_gen (az I q ?_)
 cases x <;> first
  | (cases rx;rfl)
  | (obtain⟨t,rfl⟩:=rx;rfl)
theorem Cr:ek X (compareOp .IsNot) (fun x y H Q=>y=.aq/\Q (.bl (!decide (x=.aq))) H):=by
 intro pins s σ H x y v u Q I rx ry h
 obtain⟨rfl,q⟩:=h
 cases ry
 refine isnot_none_gen (az I q ?_)
 cases x <;> first
  | (cases rx;rfl)
  | (obtain⟨t,rfl⟩:=rx;rfl)
theorem ek.or{f:Value->Value->Sem Value}{r r':R2}(h:ek X f r)(h':ek X f r'):ek X f (fun x y H Q=>r x y H Q\/r' x y H Q):=by
 intro pins s σ H x y v u Q I rx ry q
 rcases q with q | q
 ·exact h pins s σ H x y v u Q I rx ry q
 ·exact h' pins s σ H x y v u Q I rx ry q
theorem Co{op:CmpOp}{r:R2}(ho:ek X (compareOp op) r)(ha:PE X a ta)(hb:PE X b tb)(hm:behindInMarks op b=false):PE X (.Compare a [op] [b] pos) (FI r ta tb):=by
 intro pins s σ H Q I h
 exact wpAny_Compare1 (Jm ha hb I h fun v u s2 x y H2 I2 rx ry q=>ho pins s2 σ H2 x y v u Q I2 rx ry q) hm
noncomputable def J3(t:TE):TT:=fun σ H Q=>t σ H fun x H'=>∃k,x=.bl k/\Q k H'
theorem B9{op:CmpOp}{r:R2}(ho:ek X (compareOp op) r)(ha:PE X a ta)(hb:PE X b tb)(hm:behindInMarks op b=false):PT X (.Compare a [op] [b] pos) (J3 (FI r ta tb)):=by
 intro pins s σ H Q I h
 refine wpAny_isTrue_Compare1 (aT (ha pins s σ H _ I h) fun v s1 ⟨x,H1,I1,r1,q1⟩=>aT (hb pins s1 σ H1 _ I1 q1) fun u s2 ⟨y,H2,I2,r2,q2⟩ =>
  aT (ho pins s2 σ H2 x y v u _ I2 r1 r2 q2) fun c s3 ⟨z,H3,I3,r3,k,e,q3⟩=>?_) hm
 subst e
 cases r3
 exact wpAny_truthy_bool ⟨H3,I3,q3⟩
theorem iT:(sizeLine:Nat)<2 ^ 63:=by rw[sizeLine_eq];decide
theorem rq:ek X (binaryOp .Add) (fun x y H Q=>∃i j,x=.str i/\y=.str j/\i.length+j.length<=sizeLine/\Q (.str (i++j)) H):=by
 intro pins s σ H x y v u Q I rx ry h
 obtain⟨i,j,rfl,rfl,hz,q⟩:=h
 obtain⟨t,rfl⟩:=rx
 obtain⟨t',rfl⟩:=ry
 exact add_str (fun t' tk=>⟨.str (i++j),H,I.tok _,⟨_,rfl⟩,q⟩) hz
theorem vals1{x:V}{us:List Value}(r:Vals [x] us):∃u,us=[u]/\RelV x u:=by
 cases r with
 | cons r1 r2=>cases r2;exact⟨_,rfl,r1⟩
theorem vals2{x y:V}{us:List Value}(r:Vals [x,y] us):∃u w',us=[u,w']/\RelV x u/\RelV y w':=by
 cases r with
 | cons r1 r2 =>
  cases r2 with
  | cons r3 r4=>cases r4;exact⟨_,_,rfl,r1,r3⟩
theorem wo(hc:X.calm=true):cG X (.builtin "max") (fun xs H Q=>∃i j, xs=[.int i, .int j]/\Q (.int (if j > i then j else i)) H):=by
 intro pins s σ H xs us Q I r h
 obtain⟨i,j,rfl,q⟩:=h
 obtain⟨u,w',rfl,⟨t,rfl⟩,⟨t',rfl⟩⟩:=vals2 r
 refine max_two_ints (I.ok.hd hc) fun h' tk k=>⟨_,H,I.kept k,?_,q⟩
 by_cases hj:j > i
 ·rw[if_pos hj,if_pos hj];exact⟨_,rfl⟩
 ·rw[if_neg hj,if_neg hj];exact⟨_,rfl⟩
theorem wm(hc:X.calm=true):cG X (.builtin "min") (fun xs H Q=>∃i j, xs=[.int i, .int j]/\Q (.int (if j<i then j else i)) H):=by
 intro pins s σ H xs us Q I r h
 obtain⟨i,j,rfl,q⟩:=h
 obtain⟨u,w',rfl,⟨t,rfl⟩,⟨t',rfl⟩⟩:=vals2 r
 refine min_two_ints (I.ok.hd hc) fun h' tk k=>⟨_,H,I.kept k,?_,q⟩
 by_cases hj:j<i
 ·rw[if_pos hj,if_pos hj];exact⟨_,rfl⟩
 ·rw[if_neg hj,if_neg hj];exact⟨_,rfl⟩
end
structure sF(h:Heap)(x dx C:Addr)(mA:Str->Option Value):Prop where
 obj:h.get? x=some (PySem.W.instObj C dx)
 ns:h.Ns1 dx mA
 ne:dx≠x
theorem vU{h:Heap}{dx:Addr}{mA:Str->Option Value}(n:h.Ns1 dx mA):∃od,h.get? dx=some od/\∀name,PySem.W.lookIn name od=some (mA name):=by
 obtain⟨o,es,ep,ho,hd,hk,_,hm⟩:=n
 refine⟨o,ho,fun name=>?_⟩
 have e:=hm name
 unfold nsFind findBy at e
 rw[<- Array.find?_toList] at e
 unfold PySem.W.lookIn
 rw[hd]
 dsimp only
 split
 ·rename_i y q
  rw[q] at e
  exact congrArg some e
 ·rename_i q
  rw[q] at e
  have a:es.toList.any (·.refKey)=false:=by
   rw[List.any_eq_false]
   intro y hy
   obtain⟨z,t,hkey⟩:=hk y (Array.mem_toList_iff.mp hy)
   simp[DictEntry.refKey,hkey]
  have a':¬ es.toList.any (·.refKey)=true:=by rw[a];exact Bool.false_ne_true
  rw[if_neg a']
  exact congrArg some e
theorem sF.look{h:Heap}{x dx C:Addr}{mA:Str->Option Value}(I:sF h x dx C mA):∃od,PySem.W.InstAt h x (PySem.W.instObj C dx) C (some od)/\∀name,PySem.W.lookIn name od=some (mA name) :=
 let ⟨od,ho,hl⟩:=vU I.ns
 ⟨od,⟨I.obj,rfl,rfl,ho⟩,hl⟩
section
variable{prog:Program}{w:World}{A:Around}{E:Value->Shared->Prop}{s:Shared}{K:PySem.W.Frag}{x dx C f:Addr}{mA:Str->Option Value}{name:Str}{v:Value}
theorem get_map{expr:Bool}{Q:Value->Shared->Prop}(X:K.In s.heap)(I:sF s.heap x dx C mA)(hg:PySem.W.plainGet K C name=true)(hh:PySem.W.hasDictIn K C=true)
  (ha:PySem.W.findIn K (.ref C) name=some none) (hv:mA name=some v) (hv':PySem.W.handedIn v=true) (h:Q v { s with toks:=s.toks+1 }) :
  wpAny (model prog w) A (getAttr (.ref x) name expr) Q E s:=by
 obtain⟨od,J,hl⟩:=I.look
 exact PySem.W.get_value X J (PySem.W.plainGet_of hg).1 (PySem.W.findObj_own hh ha rfl (by rw[hl,hv])) hv' h
theorem zI{pl:Sem Bool}{Q:Value×List Value->Shared->Prop}(X:K.In s.heap)(I:sF s.heap x dx C mA)(hg:PySem.W.plainGet K C name=true)
  (hf:PySem.W.findIn K (.ref C) name=some (some (.ref f))) (ht:PySem.W.isFn K (.ref f)=true) (hv:mA name=none) (h:Q (.ref f,[.ref x]) s) :
  wpAny (model prog w) A (getMethod (.ref x) name pl) Q E s:=by
 obtain⟨od,J,hl⟩:=I.look
 exact PySem.W.method_fn X J (PySem.W.plainGet_of hg).1 (PySem.W.plainGet_of hg).2 hf (beq_iff_eq.mp ht) (by show (PySem.W.lookIn name od).map (·.isSome)=some false;rw[hl,hv];rfl) h
theorem BX{ns:List Str}{Q:Unit->Shared->Prop}(X:K.In s.heap)(I:sF s.heap x dx C mA)
  (hs:PySem.W.findIn K (.ref C) "__setattr__" = some (some (.builtin "object.__setattr__"))) (hp:PySem.W.plainOver K C=true) (ht:PySem.W.takerIn K C name=some none) (hh:PySem.W.hasDictIn K C=true)
  (hw:PySem.Within mA ns) (hsz:ns.length<=sizeLine)
  (h:∀h',sF h' x dx C (fun y=>if y=name then some v else mA y)->Heap.SameBut dx s.heap h'->Q () { s with heap:=h',toks:=s.toks+2 }) :
  wpAny (model prog w) A (setAttr (.ref x) name v) Q E s:=by
 obtain⟨od,J,hl⟩:=I.look
 refine PySem.W.set_plain X J hs (PySem.W.osa_open (s:={ s with toks:=s.toks+1 }) (r:=none) X J hp ht fun b=>?_)
 obtain⟨cd,hc,hd'⟩:=PySem.W.any_some hh
 have hx:s.heap.get? x=some ⟨.ref C,some dx,.plain,#[]⟩:=I.obj
 refine wpAny_bind (wpAny_pure (wpAny_bind (wpAny_bind (wpAny_loadPart hx (wpAny_bind (PySem.W.Looks.here (s:={ s with toks:=s.toks+1 }) (PySem.W.looks_clsIn X hc) ?_))))))
 rw[hd']
 refine wpAny_pure (a:=some dx) (wpAny_bind (wpAny_pure (wpAny_bind ?_)))
 refine wpAny_nsSet1 (s:={ s with toks:=s.toks+1 }) I.ns fun h' hn2 hs2=>?_
 obtain⟨oD,esD,epD,hoD,hdD,hcD⟩:=hn2.count (PySem.Within.cons name v hw)
 refine wpAny_bind (wpAny_lookBehind hoD (by rw[hdD];exact pastItsLine_dict (Nat.le_trans hcD (by rw[List.length_cons];omega))) ?_)
 exact wpAny_pure (h _ ⟨(hs2.2 _ (Ne.symm I.ne)).trans I.obj,hn2,I.ne⟩ hs2)
theorem yO{R:Result->Shared->Prop}{vs:List Value}{kw:List (Str×Value)}(X:K.In s.heap)(hm:PySem.W.makesIn K C=true)
  (hi:PySem.W.findIn K (.ref C) "__init__" = some (some (.ref f))) (hf:PySem.W.typeIn K (.ref f)=some (.type "function"))
  (h:codeAny (model prog w) (A.under (.builtin "type.__call__" ⟨.ref C::vs, kw⟩)) (.call (.ref f) ⟨.ref (s.heap.objs.size+1)::vs, kw⟩) (PySem.W.InitBack (s.heap.objs.size+1) R)
   { s with heap:=(s.heap.push PySem.W.emptyDict).push (PySem.W.instObj C s.heap.objs.size) }) :
  codeAny (model prog w) A (.call (.ref C) ⟨vs,kw⟩) R s:=by
 obtain⟨hh,g,d,t,os⟩:=s
 exact PySem.W.make_core (PySem.W.makes_of X hm) (PySem.W.looks_findIn X hi) (fun self=>PySem.W.bind_fn X self hf) (.inl rfl) h
end
noncomputable def dm(f:Str)(v:V):List (Str×V)->List (Str×V)
 | []=>[(f,v)]
 | (g,x)::r=>if g=f then (g,v)::r else (g,x)::dm f v r
theorem jf(f g:Str)(v:V):∀fs:List (Str×V),(dm f v fs).lookup g=if g=f then some v else fs.lookup g
 | []=>by
  show List.lookup g [(f,v)]=_
  by_cases h:g=f
  ·have hb:(g == f)=true:=beq_iff_eq.mpr h
   simp only[List.lookup,hb,if_pos h]
  ·have hb:(g == f)=false:=beq_eq_false_iff_ne.mpr h
   simp only[List.lookup,hb,if_neg h]
 | (k, x)::r=>by
  have ih:=jf f g v r
  rw[show dm f v ((k,x)::r)=(if k=f then (k,v)::r else (k,x)::dm f v r) from rfl]
  by_cases hk:k=f
  ·rw[if_pos hk]
   by_cases h:g=k
   ·have hb:(g == k)=true:=beq_iff_eq.mpr h
    simp only[List.lookup,hb,if_pos (h.trans hk)]
   ·have hb:(g == k)=false:=beq_eq_false_iff_ne.mpr h
    simp only[List.lookup,hb,if_neg (fun e:g=f=>h (e.trans hk.symm))]
  ·rw[if_neg hk]
   by_cases h:g=k
   ·have hb:(g == k)=true:=beq_iff_eq.mpr h
    simp only[List.lookup,hb,if_neg (fun e:g=f=>hk (h.symm.trans e))]
   ·have hb:(g == k)=false:=beq_eq_false_iff_ne.mpr h
    simp only[List.lookup,hb]
    exact ih
theorem iU(f:Str)(v:V):∀fs:List (Str×V),f∈(dm f v fs).map (·.1)/\∀g,g∈fs.map (·.1)->g∈(dm f v fs).map (·.1)
 | []=>⟨by simp[dm],fun g h=>by simp at h⟩
 | (k, x)::r=>by
  obtain⟨i1,i2⟩:=iU f v r
  rw[show dm f v ((k,x)::r)=(if k=f then (k,v)::r else (k,x)::dm f v r) from rfl]
  by_cases hk:k=f
  ·rw[if_pos hk]
   subst hk
   exact⟨by simp,fun g h=>by simpa using h⟩
  ·rw[if_neg hk]
   refine⟨?_,fun g h=>?_⟩
   ·rw[List.map_cons]
    exact List.mem_cons_of_mem _ i1
   ·rw[List.map_cons] at h ⊢
    rcases List.mem_cons.mp h with e | e
    ·exact List.mem_cons.mpr (.inl e)
    ·exact List.mem_cons_of_mem _ (i2 g e)
theorem jg(f:Str)(v:V):∀fs:List (Str×V),(dm f v fs).length<=fs.length+1
 | []=>by simp[dm]
 | (k,x)::r=>by
  have ih:=jg f v r
  rw[show dm f v ((k,x)::r)=(if k=f then (k,v)::r else (k,x)::dm f v r) from rfl]
  by_cases hk:k=f
  ·rw[if_pos hk,List.length_cons,List.length_cons];omega
  ·rw[if_neg hk,List.length_cons,List.length_cons];omega
theorem gW.some_of{v:V}{o:Option Value}(r:gW (some v) o):∃u,o=some u/\RelV v u:=by
 cases o with
 | none=>exact (show False from r).elim
 | some u=>exact⟨u,rfl,r⟩
theorem gW.none_of{o:Option Value}(r:gW none o):o=none:=by
 cases o with
 | none=>rfl
 | some u=>exact (show False from r).elim
theorem v8{v:V}{u:Value}(r:RelV v u):PySem.W.handedIn u=true:=by
 cases v with
 | aq=>cases (show u=Value.none from r);rfl
 | bl b=>cases (show u=Value.bool b from r);rfl
 | int i=>obtain⟨t,e⟩:=(show ∃t,u=Value.int i t from r);cases e;rfl
 | str x=>obtain⟨t,e⟩:=(show ∃t,u=Value.str x t from r);cases e;rfl
 | wR b=>obtain⟨t,e⟩:=(show ∃t,u=Value.bytes b t from r);cases e;rfl
 | NH b=>obtain⟨t,e⟩:=(show ∃t,u=Value.float b t from r);cases e;rfl
 | ref a=>cases (show u=Value.ref a from r);rfl
 | ty n=>cases (show u=Value.type n from r);rfl
section
variable{P:Program}{w:World}{H H':Hp}{h h':Heap}{a C dx:Addr}{fs fs':List (Str×V)}
theorem ny(hok:gr P w H h)(e:H a=some (.ins C dx fs)):∃mA,sF h a dx C mA/\(∀f,gW (fs.lookup f) (mA f))/\PySem.Within mA (fs.map (·.1))/\fs.length<=1000/\H dx=some (.own a):=by
 obtain⟨d,z,ne,ob,mA,n,r,q⟩:=(show aS P w H h a (.ins C dx fs) from hok a _ e)
 exact⟨mA,⟨ob,n,ne⟩,r,q,z,d⟩
end
structure wL(K:PySem.W.Frag)(C:Addr):Prop where
 pg:PySem.W.plainGet K C Str.empty=true
 hd:PySem.W.hasDictIn K C=true
 po:PySem.W.plainOver K C=true
 sa:PySem.W.findIn K (.ref C) "__setattr__" = some (some (.builtin "object.__setattr__"))
theorem wL.get{K:PySem.W.Frag}{C:Addr}(c:wL K C)(f:Str):PySem.W.plainGet K C f=true:=c.pg
noncomputable def dM(K:PySem.W.Frag)(C:Addr)(f:Str):Prop:=PySem.W.findIn K (.ref C) f=some none
theorem dM.J1{K:PySem.W.Frag}{C:Addr}{f:Str}(n:dM K C f):PySem.W.takerIn K C f=some none:=by
 unfold PySem.W.takerIn
 rw[show PySem.W.findIn K (.ref C) f=some none from n]
 rfl
structure Meth(K:PySem.W.Frag)(C:Addr)(m:Str)(f:Addr):Prop where
 at_:PySem.W.findIn K (.ref C) m=some (some (.ref f))
 fn:PySem.W.isFn K (.ref f)=true
 kp:PySem.W.keepIn K (.ref f)=true
section
variable{X:Cx}{pins:List (Addr×Obj)}{σ:St}{H:Hp}{s:Shared}{a C dx:Addr}{fs:List (Str×V)}{f:Str}{v:V}{A:Around}{E:Value->Shared->Prop}
theorem rS{b:Bool}{Q:Value->Shared->Prop}(I:Inv X pins σ H s)(e:H a=some (.ins C dx fs))(c:wL X.K C)(n:dM X.K C f)(l:fs.lookup f=some v)
  (h:∀u s',Inv X pins σ H s'->RelV v u->Q u s'):wpAny (model X.prog X.w) A (getAttr (.ref a) f b) Q E s:=by
 obtain⟨mA,O,r,_,_,_⟩:=ny I.hok e
 obtain⟨u,hu,ru⟩:=gW.some_of (v:=v) (o:=mA f) (by rw[<- l];exact r f)
 exact get_map I.fM O (c.get f) c.hd n hu (v8 ru) (h u _ (I.tok _) ru)
theorem ki{m:Str}{g:Addr}{pl:Sem Bool}{Q:Value×List Value->Shared->Prop}(I:Inv X pins σ H s)(e:H a=some (.ins C dx fs))(c:wL X.K C)(k:Meth X.K C m g)(l:fs.lookup m=none)
  (h:Q (.ref g,[.ref a]) s):wpAny (model X.prog X.w) A (getMethod (.ref a) m pl) Q E s:=by
 obtain⟨mA,O,r,_,_,_⟩:=ny I.hok e
 have hn:mA m=none:=gW.none_of (by rw[<- l];exact r m)
 exact zI I.fM O (c.get m) k.at_ k.fn hn h
theorem qQ{y:V}{u:Value}{Q:Unit->Shared->Prop}(I:Inv X pins σ H s)(e:H a=some (.ins C dx fs))(c:wL X.K C)(n:dM X.K C f)(hl:fs.length<1000)(ry:RelV y u)
  (h:∀s',Inv X pins σ (upd H a (.ins C dx (dm f y fs))) s'->Q () s'):wpAny (model X.prog X.w) A (setAttr (.ref a) f u) Q E s:=by
 obtain⟨mA,O,r,wi,_,ho⟩:=ny I.hok e
 have hz:(fs.map (·.1)).length<=sizeLine:=by rw[List.length_map,sizeLine_eq];omega
 refine BX I.fM O c.sa c.po n.J1 c.hd wi hz fun h' O' sb=>h _ ?_
 have hd:∃o,h'.get? dx=some o:=let ⟨o,_,_,e',_⟩:=O'.ns;⟨o,e'⟩
 refine I.write (x:=a) (e:=dx) (by rw[e];exact True.intro) (.inr ho) (fun b q hb z=>(sb.2 b hb).trans z) hd ?_
 refine⟨by rw[ak O.ne];exact ho,?_,O.ne,O'.obj,_,O'.ns,fun g=>?_,fun g hg=>?_⟩
 ·have:=jg f y fs;omega
 ·show gW ((dm f y fs).lookup g) (if g=f then some u else mA g)
  rw[jf]
  by_cases q:g=f
  ·rw[if_pos q,if_pos q];exact ry
  ·rw[if_neg q,if_neg q];exact r g
 ·by_cases q:g=f
  ·rw[q];exact (iU f y fs).1
  ·refine (iU f y fs).2 g (wi g fun z=>hg ?_)
   show (if g=f then some u else mA g)=none
   rw[if_neg q];exact z
theorem Inv.made(I:Inv X pins σ H s):Inv X pins σ (upd (upd H s.heap.objs.size (.own (s.heap.objs.size+1))) (s.heap.objs.size+1) (.ins C s.heap.objs.size []))
  { s with heap:=(s.heap.push PySem.W.emptyDict).push (PySem.W.instObj C s.heap.objs.size) }:=by
 have e1:(s.heap.push PySem.W.emptyDict).get? s.heap.objs.size=some PySem.W.emptyDict:=Heap.get?_push_size s.heap rfl
 have e2:((s.heap.push PySem.W.emptyDict).push (PySem.W.instObj C s.heap.objs.size)).get? (s.heap.objs.size+1)=some (PySem.W.instObj C s.heap.objs.size):=by
  have:=Heap.get?_push_size (s.heap.push PySem.W.emptyDict) (o:=PySem.W.instObj C s.heap.objs.size) rfl
  rwa [Heap.size_push] at this
 have e3:(s.heap.push PySem.W.emptyDict).Ns s.heap.objs.size (fun _=>none):=⟨PySem.W.emptyDict,#[],_,e1,rfl,(fun e he=>absurd he (by simp)),fun _=>rfl⟩
 have I1:=I.laid (a:=s.heap.objs.size) (o:=.own (s.heap.objs.size+1)) (h':=s.heap.push PySem.W.emptyDict) (t':=s.toks) (fun b u q=>Heap.get?_push_of_some _ q) (Nat.le_refl _) ⟨_,e1⟩
 refine I1.laid (a:=s.heap.objs.size+1) (o:=.ins C s.heap.objs.size []) (t':=s.toks) (fun b u q=>Heap.get?_push_of_some _ q) (Nat.le_of_eq (Heap.size_push _ _)) ?_
 have ne:s.heap.objs.size≠s.heap.objs.size+1:=Nat.ne_of_lt (Nat.lt_succ_self _)
 refine⟨by rw[ak ne,av],Nat.zero_le _,ne,e2,fun _=>none,(Heap.Ns1.of_empty e3).at fun o q=>Heap.get?_push_of_some _ q,fun _=>True.intro,fun y hy=>absurd rfl hy⟩
theorem DM{prog:Program}{w:World}{env:Env}{e:Expr}{f:Str}{pos:Pos}{s:Shared}{Q:Value->Shared->Prop}(hb:attributeBase e f env (eval e env)=eval e env)
  (h:wpAny (model prog w) A (eval e env) (fun o s₁=>wpAny (model prog w) A (getAttr o f true) Q E s₁) E s):wpAny (model prog w) A (eval (.Attribute e f pos) env) Q E s :=
 Attribute_any_ h (by rw[arm_eval_Attribute,hb])
end
noncomputable def Ke(K:PySem.W.Frag)(ta:TE)(f:Str):TE:=fun σ H Q=>ta σ H fun x H1=>∃a C dx fs v,x=.ref a/\H1 a=some (.ins C dx fs)/\wL K C/\dM K C f/\fs.lookup f=some v/\Q v H1
noncomputable def Ks(K:PySem.W.Frag)(ta tv:TE)(f:Str):TS:=fun D σ H=>tv σ H fun y H1=>ta σ H1 fun x H2=>∃a C dx fs,x=.ref a/\H2 a=some (.ins C dx fs)/\wL K C/\dM K C f/\fs.length<1000 /\
 D.nx σ (upd H2 a (.ins C dx (dm f y fs)))
section
variable{X:Cx}{o e value:Expr}{f:Str}{pos pos' tpos:Pos}{ta tv:TE}
theorem GR(he:PE X e ta)(hb:attributeBase e f X.env (eval e X.env)=eval e X.env):PE X (.Attribute e f pos) (Ke X.K ta f):=by
 intro pins s σ H Q I h
 refine DM hb (aT (he pins s σ H _ I h) fun u s1 ⟨x,H1,I1,rx,a,C,dx,fs,v,ex,ea,c,n,l,q⟩=>?_)
 subst ex
 obtain rfl:u=Value.ref a:=rx
 exact rS I1 ea c n l fun u' s2 I2 ru=>⟨v,H1,I2,ru,q⟩
theorem GB(ha:PE X o ta)(hv:PE X value tv)(hs:swapsWith value (some (.Attribute o f pos')) pos.line X.env=pure false):PS X (.Assign [.Attribute o f pos'] value pos) (Ks X.K ta tv f):=by
 intro pins s σ H D I h
 refine plainObj_wpAny_Assign_Attribute (aT (hv pins s σ H _ I h) fun u s1 ⟨y,H1,I1,ry,q⟩=>aT (ha pins s1 σ H1 _ I1 q) fun ov s2 ⟨x,H2,I2,rx,a,C,dx,fs,ex,ea,c,n,l,q2⟩=>?_) hs
 subst ex
 obtain rfl:ov=Value.ref a:=rx
 exact qQ I2 ea c n l ry fun s3 I3=>⟨σ,_,I3,q2⟩
end
section
variable{X:Cx}{pins:List (Addr×Obj)}{σ:St}{H:Hp}{s:Shared}{A:Around}{E:Value->Shared->Prop}{Q:Value->Shared->Prop}{c:Value}{b:Bool}
end
structure bR(cm:Bool)(k:Nat)(A:Around):Prop where
 hd:cm=true->A.handled=none
 dp:A.depth+3*k+5<recursionLimit
 un:A.units+16*k+200<cLine
theorem bR.deeper{k:Nat}{A:Around}(r:bR cm (k+1) A)(env:Env):bR cm k (A.deeper env) :=
 ⟨r.hd,by have:=r.dp;show A.depth+1+3*k+5<_;omega,by have:=r.un;show A.units+3+16*k+200<_;omega⟩
theorem bR.in1{k:Nat}{A:Around}(r:bR cm (k+1) A):bR cm k A.in1 :=
 ⟨r.hd,by have:=r.dp;show A.depth+3*k+5<_;omega,by have:=r.un;show A.units+1+16*k+200<_;omega⟩
theorem rH{A:Around}{C:Addr}{us:List Value}{kw:List (Str×Value)}:(A.under (.builtin "type.__call__" ⟨.ref C::us, kw⟩)).depth=A.depth+1:=by
 first | rfl | simp[Around.under,Code.weight,Code.isCreation,Code.isGuard,Code.isCaller,Code.frames,Code.isFrame,guardIds]
theorem rG{A:Around}{C:Addr}{us:List Value}{kw:List (Str×Value)}:(A.under (.builtin "type.__call__" ⟨.ref C::us, kw⟩)).units=A.units+1:=by
 first | rfl | simp[Around.under,Code.cUnits,Code.frames,Code.isFrame]
theorem bR.make{k:Nat}{A:Around}(r:bR cm (k+1) A)(C:Addr)(us:List Value)(kw:List (Str×Value)):bR cm k (A.under (.builtin "type.__call__" ⟨.ref C::us, kw⟩)) :=
 ⟨r.hd,by have:=r.dp;rw[rH];omega,by have:=r.un;rw[rG];omega⟩
theorem bR.depth{k:Nat}{A:Around}(r:bR cm k A):A.depth<recursionLimit:=by have:=r.dp;omega
noncomputable def gI:TA:=fun _ H Q=>Q [] H
noncomputable def bG(ta:TE)(tr:TA):TA:=fun σ H Q=>ta σ H fun x H1=>tr σ H1 fun xs H2=>Q (x::xs) H2
section
variable{X:Cx}{e:Expr}{es:List Expr}{te:TE}{t:TA}{pos:Pos}
theorem bV:PA X [] gI:=fun _ _ _ _ H Q I h=>Calls.spliced_nil ⟨[],H,I,.nil,h⟩
theorem aG(ha:PE X e te)(hr:PA X es t)(hs:starEach (e::es) X.env=(false,eval e X.env)::starEach es X.env:=by rfl):PA X (e::es) (bG te t):=by
 intro pos pins s σ H Q I h
 rw[hs]
 show wpAny _ _ (spliced ((false,eval e X.env)::backTo pos (starEach es X.env))) _ _ s
 refine Calls.spliced_cons (aT (ha pins s σ H _ I h) fun u s1 ⟨x,H1,I1,r1,q1⟩=>?_)
 exact aT (hr pos pins s1 σ H1 _ I1 q1) fun us s2 ⟨xs,H2,I2,r2,q2⟩=>⟨x::xs,H2,I2,.cons r1 r2,q2⟩
noncomputable def J2(t:TA):TE:=fun σ H Q=>t σ H fun xs H1=>xs.length<=sizeLine/\∀p,H1 p=none->Q (.ref p) (upd H1 p (.tup xs))
noncomputable def J8(t:TA):TE:=fun σ H Q=>t σ H fun xs H1=>xs.length<=sizeLine/\∀p,H1 p=none->Q (.ref p) (upd H1 p (.lst xs))
theorem GI{x1}(h:PA X es t):PE X (.Tuple es x1 pos) (J2 t):=by
 intro pins s σ H Q I hq
 refine wpAny_Tuple_spliced (aT (h pos pins s σ H _ I hq) fun us s1 ⟨xs,H1,I1,r,z,q⟩=>⟨by rw[<- r.length];exact z,?_⟩)
 have hf:H1 s1.heap.objs.size=none:=I1.hok.fresh (Nat.le_refl _)
 refine⟨.ref s1.heap.objs.size,upd H1 s1.heap.objs.size (.tup xs),I1.laid (t':=s1.toks) (fun b u e=>Heap.get?_push_of_some _ e) (Nat.le_refl _) ?_,rfl,q _ hf⟩
 exact⟨z,us,r,⟨_,Heap.get?_push_size _ rfl,rfl,_,rfl⟩⟩
theorem GO(h:PA X es t):PE X (.List es pos) (J8 t):=by
 intro pins s σ H Q I hq
 refine wpAny_List_spliced (aT (h pos pins s σ H _ I hq) fun us s1 ⟨xs,H1,I1,r,z,q⟩=>⟨by rw[<- r.length];exact z,?_⟩)
 have hf:H1 s1.heap.objs.size=none:=I1.hok.fresh (Nat.le_refl _)
 refine⟨.ref s1.heap.objs.size,upd H1 s1.heap.objs.size (.lst xs),I1.laid (t':=s1.toks) (fun b u e=>Heap.get?_push_of_some _ e) (Nat.le_refl _) ?_,rfl,q _ hf⟩
 exact⟨z,us,0,r,Heap.get?_push_size _ rfl⟩
end
noncomputable abbrev Sp:=List V->Hp->VK->XK->Prop
noncomputable abbrev AU:=List Env->Hp->Shared->XK->Value->Shared->Prop
structure lA(P:Program)(w:World)(K:PySem.W.Frag)(mg:Str->Option Value)(base:Heap)(A:Around)(outer:List Env)(s:Shared)(H:Hp):Prop where
 frames:A.frames=some outer
 mod:Mod K mg base
 bs:∀b o,base.get? b=some o->s.heap.get? b=some o/\H b=none
 wG:base.objs.size<=s.heap.objs.size
 gj:s.heap.FunFrames base outer
 zK:∀b∈frs outer,H b=none
 hok:gr P w H s.heap
 bare:AllBare s.gens
noncomputable def CE(outer:List Env)(P:Program)(w:World)(H:Hp)(s:Shared)(Q:VK)(u:Value)(s':Shared):Prop :=
 ∃v H',s'.os=s.os/\AllBare s'.gens/\Un (frs outer) [] H H' s.heap s'.heap/\gr P w H' s'.heap/\RelV v u/\Q v H'
noncomputable def CR(CX:AU)(outer:List Env)(P:Program)(w:World)(H:Hp)(s:Shared)(Q:VK)(E:XK)(r:Result)(s':Shared):Prop :=
 match r with
 | .ok (.ret u)=>CE outer P w H s Q u s'
 | .ok _=>False
 | .error e=>CX outer H s E e s'
structure bu(cm:Bool)(P:Program)(w:World)(K:PySem.W.Frag)(mg:Str->Option Value)(base:Heap)(CX:AU)(k:Nat)(f:Addr)(fd:FuncData)(ps:List Str)(sp:Sp):Prop where
 len:∀vs H Q E,sp vs H Q E->vs.length=ps.length
 run:∀(A:Around) (outer:List Env) (s:Shared) (H:Hp) (args:Args) (us:List Value) (vs:List V) (Q:VK) (E:XK),bR cm k A->(cm=false->HX A H)->lA P w K mg base A outer s H->BindsTo s fd args (ps.zip us)->Vals vs us->sp vs H Q E ->
  codeAny (model P w) A (.call (.ref f) args) (CR CX outer P w H s Q E) s
theorem bu.imp{P:Program}{w:World}{K:PySem.W.Frag}{mg:Str->Option Value}{base:Heap}{CX:AU}{k:Nat}{f:Addr}{fd:FuncData}{ps:List Str}{sp sp':Sp}(F:bu cm P w K mg base CX k f fd ps sp)
  (h:∀vs H Q E,sp' vs H Q E->sp vs H Q E):bu cm P w K mg base CX k f fd ps sp' :=
 ⟨fun vs H Q E q=>F.len vs H Q E (h _ _ _ _ q),fun A outer s H args us vs Q E hr hx he hb hv hs=>F.run A outer s H args us vs Q E hr hx he hb hv (h _ _ _ _ hs)⟩
theorem lA.make{P:Program}{w:World}{K:PySem.W.Frag}{mg:Str->Option Value}{base:Heap}{A:Around}{outer:List Env}{s:Shared}{H:Hp}(e:lA P w K mg base A outer s H)(C:Addr)(us:List Value)(kw:List (Str×Value)) :
  lA P w K mg base (A.under (.builtin "type.__call__" ⟨.ref C::us, kw⟩)) outer s H:=⟨by first | exact e.frames | (simpa [Around.under, Code.envs, Code.isFrame, pushEnvs] using e.frames), e.mod, e.bs, e.wG, e.gj, e.zK, e.hok, e.bare⟩
theorem lA.in1{P:Program}{w:World}{K:PySem.W.Frag}{mg:Str->Option Value}{base:Heap}{A:Around}{outer:List Env}{s:Shared}{H:Hp}(e:lA P w K mg base A outer s H) :
  lA P w K mg base A.in1 outer s H:=⟨e.frames,e.mod,e.bs,e.wG,e.gj,e.zK,e.hok,e.bare⟩
section
variable{X:Cx}{pins:List (Addr×Obj)}{σ:St}{H:Hp}{s s':Shared}
theorem Inv.kE(I:Inv X pins σ H s):lA X.prog X.w X.K X.mg X.base X.A X.stack s H :=
 ⟨I.ok.frames,I.ok.mod,I.bs,Nat.le_trans I.ok.wG I.sz,I.stack,I.fT,I.hok,I.bare⟩
theorem Inv.after{Q:VK}{u:Value}(I:Inv X pins σ H s)(h:CE X.stack X.prog X.w H s Q u s'):EP X pins σ Q u s':=by
 obtain⟨v,H',os,bare,un,hok,r,q⟩:=h
 obtain⟨hh,g,d,t,os'⟩:=s'
 obtain rfl:os'=s.os:=os
 exact⟨v,H',I.call (h':=hh) (g':=g) (d':=d) (t':=t) (ch:=[]) un hok bare (fun b z=>absurd z (by simp)),r,q⟩
end
noncomputable def Binds(K:PySem.W.Frag)(fd:FuncData)(ps:List Str)(ds:List Value):Prop :=
 ∀(s:Shared) (us:List Value),K.In s.heap->(us++ds).length=ps.length->BindsTo s fd ⟨us,[]⟩ (ps.zip (us++ds))
theorem Binds.all{K:PySem.W.Frag}{fd:FuncData}{ps:List Str}(h:∀us:List Value,us.length=ps.length->bindArgs fd ⟨us,[]⟩=pure (ps.zip us)):Binds K fd ps []:=fun s us _ hl=>by
 rw[List.append_nil] at hl ⊢
 exact .of_eq (h us hl)
section
variable{X:Cx}{CX:AU}{k:Nat}{f C:Addr}{fd:FuncData}{ps:List Str}{sp:Sp}{dvs:List V}{ds:List Value}{E:XK}{x m:Str}{p pos apos:Pos}{e o:Expr}{es:List Expr}{ta:TE}{t:TA}
structure Mk(K:PySem.W.Frag)(C f:Addr):Prop where
 makes:PySem.W.makesIn K C=true
 init:PySem.W.findIn K (.ref C) "__init__" = some (some (.ref f))
 fn:PySem.W.isFn K (.ref f)=true
 kp:PySem.W.keepIn K (.ref C)=true
end
noncomputable def PK(X:Cx)(kws:List Keyword)(t:TA):Prop :=
 ∀(pos:Pos) (pins:List (Addr×Obj)) (s:Shared) (σ:St) (H:Hp) (Q:List V->Hp->Prop),Inv X pins σ H s->t σ H Q->wpAny (model X.prog X.w) X.A (evalAll ((backToKw pos (keywordEach kws X.env)).map (·.2))) (AP X pins σ Q) X.xe s
section
variable{X:Cx}{CX:AU}{k:Nat}{f C:Addr}{fd:FuncData}{ps ks:List Str}{sp:Sp}{E:XK}{x m:Str}{p pos apos kpos:Pos}{e o:Expr}{es:List Expr}{kws:List Keyword}{te ta:TE}{t tk:TA}{nm:Option Str}
theorem GF:PK X [] gI:=fun _ _ _ _ H Q I h=>wpAny_evalAll_nil ⟨[],H,I,.nil,h⟩
theorem Cg(ha:PE X e te)(hr:PK X kws t):PK X (⟨nm,e,kpos⟩::kws) (bG te t):=by
 intro pos pins s σ H Q I h
 show wpAny _ _ (evalAll ((do let v <- eval e X.env;standAt pos;pure v)::(backToKw pos (keywordEach kws X.env)).map (·.2))) _ _ s
 refine wpAny_evalAll_cons (wpAny_bind (aT (ha pins s σ H _ I h) fun u s1 ⟨x,H1,I1,r1,q1⟩=>wpAny_bind (wpAny_standAt (wpAny_pure ?_))))
 exact aT (hr pos pins s1 σ H1 _ I1 q1) fun us s2 ⟨xs,H2,I2,r2,q2⟩=>⟨x::xs,H2,I2,.cons r1 r2,q2⟩
noncomputable def qI(sp:Sp)(gV:List V->List V->List V)(E:XK)(t tk:TA):TE:=fun σ H Q=>t σ H fun vs H1=>tk σ H1 fun zs H2=>sp (gV vs zs) H2 Q E
variable{g:List Value->List Value->List Value}{gV:List V->List V->List V}
end
structure dh(N P:List Str)(sc:Scope):Prop where
 kind:sc.kind=.function
 co:sc.isCoroutine=false
 gen:sc.isGenerator=false
 nd:N.Nodup
 pre:N.take P.length=P
 par:∀x∈P,sc.names.lookup x=some .local\/sc.names.lookup x=some .cell
 Hh:∀y∈sc.names,y.2≠.free
theorem mH{kindOf:Str->Option NameKind}{x:Str}:∀{binds:List (Str×Value)} {m:Str->Option Value},(∀v,(x,v)∉binds)->bindL kindOf binds m x=m x
 | [],_,_=>rfl
 | (n, v)::r, m, h=>by
  unfold bindL
  rw[mH fun w hw=>h w (List.mem_cons_of_mem _ hw)]
  split
  ·have:x≠n:=by rintro rfl;exact h v List.mem_cons_self
   simp[this]
  ·rfl
theorem mK{kindOf:Str->Option NameKind}{x:Str}:∀{binds:List (Str×Value)} {m:Str->Option Value},(∀v,(x,v)∉binds)->bindC kindOf binds m x=m x
 | [],_,_=>rfl
 | (n, v)::r, m, h=>by
  unfold bindC
  rw[mK fun w hw=>h w (List.mem_cons_of_mem _ hw)]
  split
  ·rfl
  ·have:x≠n:=by rintro rfl;exact h v List.mem_cons_self
   simp[this]
theorem mJ{kindOf:Str->Option NameKind}{x:Str}{v:Value}:∀{P:List Str} {vs:List Value} {i:Nat} {m:Str->Option Value},P.Nodup->P[i]? = some x->vs[i]? = some v->kindOf x=some .local ->
  bindL kindOf (P.zip vs) m x=some v
 | [],_,_,_,_,h,_,_=>by simp at h
 | _::_,[],_,_,_,_,h,_=>by simp at h
 | p::P,w::vs,0,m,nd,h1,h2,hk=>by
  simp at h1 h2;subst h1;subst h2
  show bindL kindOf ((p,w)::P.zip vs) m p=_
  unfold bindL
  rw[mH fun v hv=>(List.nodup_cons.mp nd).1 (List.of_mem_zip hv).1,if_pos hk]
  simp
 | p::P,w::vs,i+1,m,nd,h1,h2,hk=>by
  show bindL kindOf ((p,w)::P.zip vs) m x=_
  unfold bindL
  exact mJ (i:=i) (List.nodup_cons.mp nd).2 (by simpa using h1) (by simpa using h2) hk
theorem mL{kindOf:Str->Option NameKind}{x:Str}{v:Value}:∀{P:List Str} {vs:List Value} {i:Nat} {m:Str->Option Value},P.Nodup->P[i]? = some x->vs[i]? = some v->kindOf x≠some .local ->
  bindC kindOf (P.zip vs) m x=some v
 | [],_,_,_,_,h,_,_=>by simp at h
 | _::_,[],_,_,_,_,h,_=>by simp at h
 | p::P,w::vs,0,m,nd,h1,h2,hk=>by
  simp at h1 h2;subst h1;subst h2
  show bindC kindOf ((p,w)::P.zip vs) m p=_
  unfold bindC
  rw[mK fun v hv=>(List.nodup_cons.mp nd).1 (List.of_mem_zip hv).1,if_neg hk]
  simp
 | p::P,w::vs,i+1,m,nd,h1,h2,hk=>by
  show bindC kindOf ((p,w)::P.zip vs) m x=_
  unfold bindC
  exact mL (i:=i) (List.nodup_cons.mp nd).2 (by simpa using h1) (by simpa using h2) hk
noncomputable def start(N:List Str)(vs:List V):St:=vs.map some++List.replicate (N.length-vs.length) none
noncomputable def iG(CX:AU)(P:Program)(w:World)(K:PySem.W.Frag)(mg:Str->Option Value)(base:Heap)(N:List Str)(qual:Str)(scope:Scope)(f:Addr)(cd:Value)(A:Around)(outer:List Env)(s:Shared)(H:Hp)(E:XK):Cx where
 prog:=P
 w:=w
 K:=K
 mg:=mg
 base:=base
 A:=A.deeper (envOfC qual scope s.heap.objs.size f cd)
 N:=N
 s₀:=s
 H₀:=H
 env:=envOfC qual scope s.heap.objs.size f cd
 outer:=outer
 stack:=envOfC qual scope s.heap.objs.size f cd::outer
 ex:=[]
 calm:=A.handled.isNone
 fn:=fun _=>true
 pn:=[]
 xe:=fun e s'=>wpAny (model P w) (A.deeper (envOfC qual scope s.heap.objs.size f cd)) (leaving (envOfC qual scope s.heap.objs.size f cd) e) (fun _ s''=>CX outer H s E e s'') (fun e' s''=>CX outer H s E e' s'') s'
theorem qe{sc:Scope}{n:Nat}{x:Str}(h:sc.names.lookup x=some .cell):∃c,(cellsFrom n sc.names []).lookup x=some c:=by
 have q:=PySem.W.cellsFrom_some sc.names n [] (.inl h)
 exact Option.isSome_iff_exists.mp q
theorem vZ{CX:AU}{P:Program}{w:World}{K:PySem.W.Frag}{mg:Str->Option Value}{base:Heap}{N ps:List Str}{qual:Str}{scope:Scope}{f:Addr}{cd:Value}{A:Around}{outer:List Env}{s s1:Shared}{H:Hp}{E:XK}{us:List Value}{vs:List V}
  (S:dh N ps scope) (e0:lA P w K mg base A outer s H) (hl:vs.length=ps.length) (r:Vals vs us)
  (x:InCallC s s.heap.objs.size (bindL (envOfC qual scope s.heap.objs.size f cd).kindOf (ps.zip us) fun _=>none) (cellsFrom (s.heap.objs.size+1) scope.names []) (bindC (envOfC qual scope s.heap.objs.size f cd).kindOf (ps.zip us) fun _=>none) s1) :
  Inv (iG CX P w K mg base N qual scope f cd A outer s H E) [] (start N vs) H s1:=by
 have hpl:ps.length<=N.length:=by have:=congrArg List.length S.pre;rw[List.length_take] at this;omega
 obtain⟨h1,tk,rfl,hk⟩:=x.done
 have Lc:∀b:Addr,b∉(iG CX P w K mg base N qual scope f cd A outer s H E).ex:=fun b z=>absurd (show b∈([]:List Addr) from z) (by simp)
 refine⟨⟨e0.mod,S.kind,rfl,rfl,Nat.le_refl _,fun y z c h1 h2=>?_,fun y hy=>?_,fun y c _ h=>?_,(fun z=>Option.isNone_iff_eq_none.mp z),Around.frames_deeper e0.frames,.inr ⟨rfl,rfl⟩,fun b z=>absurd z (Lc b),e0.bs,e0.wG,fun b _ _=>Lc b,fun b z=>absurd z (Lc b),e0.gj,e0.zK⟩,
  rfl,e0.bare,Un.kept hk,⟨_,x.toInCall.ns,fun i y v h1 h2 h3=>?_⟩,fun y c h=>⟨_,x.cell y c h⟩,e0.hok.fresh (Nat.le_refl _),fun y c h=>?_,fun p hp=>absurd (show p∈([]:List (Addr×Obj)) from hp) (by simp),e0.hok.kept hk,?_⟩
 ·exact name_of_addr x.apart (PySem.mem_of_lookup h1) (PySem.mem_of_lookup h2)
 ·have hy:scope.names.lookup y=some .cell\/scope.names.lookup y=some .free:=hy
  rcases hy with hy | hy
  ·exact qe hy
  ·exact absurd rfl (S.Hh _ (PySem.mem_of_lookup hy))
 ·exact Nat.le_of_lt (x.above y c (PySem.mem_of_lookup h))
 ·have hi:i<vs.length:=by
   unfold start at h2
   by_cases hi:i<vs.length
   ·exact hi
   ·rw[List.getElem?_append_right (by simpa using hi)] at h2
    rw[List.getElem?_replicate] at h2
    split at h2 <;> cases h2
  have ha:vs[i]? = some v:=by
   unfold start at h2
   rw[List.getElem?_append_left (by simpa using hi),List.getElem?_map] at h2
   cases e:vs[i]? with
   | none=>rw[e] at h2;cases h2
   | some a=>rw[e] at h2;cases h2;rfl
  obtain⟨u,hu,rv⟩:=r.get ha
  have hp:ps[i]? = some y:=by
   rw[<- S.pre,List.getElem?_take_of_lt (by omega)];exact h1
  have ndP:ps.Nodup:=by rw[<- S.pre];exact S.nd.sublist (List.take_sublist _ _)
  refine⟨u,rv,?_⟩
  rcases S.par y (List.mem_of_getElem? hp) with k | k
  ·exact .inl ⟨k,mJ ndP hp hu k⟩
  ·obtain⟨c,e⟩:=qe (n:=s.heap.objs.size+1) k
   refine .inr ⟨.inl k,c,e,?_⟩
   have q:=x.cell y c e
   rw[mL ndP hp hu (by show scope.names.lookup y≠_;rw[k];decide)] at q
   exact q
 ·exact e0.hok.fresh (Nat.le_of_lt (x.above y c (PySem.mem_of_lookup h)))
 ·unfold start
  show _=N.length
  rw[List.length_append,List.length_map,List.length_replicate]
  omega
theorem EZ{CX:AU}{P:Program}{w:World}{K:PySem.W.Frag}{mg:Str->Option Value}{base:Heap}{k:Nat}{f:Addr}{name qual:Str}{params:Arguments}{body:List Stmt}{scope:Scope}{dV kV doc pm cdv ct oc:Value}{an od:Option Addr}
  {osl:Array (Option Value)} {N ps:List Str} {sp:Sp} (lk:K.lookup f=some ⟨oc,od,.func (PySem.W.fnOf name qual params body scope dV kV doc pm an cdv ct),osl⟩) (hcd:PySem.W.codeIn K cdv qual=true) (S:dh N ps scope)
  (len:∀vs H Q E,sp vs H Q E->vs.length=ps.length)
  (hbody:∀(A:Around) (outer:List Env) (s:Shared) (H:Hp) (vs:List V) (Q:VK) (E:XK),bR cm k (A.deeper (envOfC qual scope s.heap.objs.size f cdv))->(cm=false->HX A H)->sp vs H Q E ->
   ∃t,je (iG CX P w K mg base N qual scope f cdv A outer s H E) body t/\t { nx:=fun _ H'=>Q .aq H',rt:=Q } (start N vs) H) :
  bu cm P w K mg base CX (k+1) f (PySem.W.fnOf name qual params body scope dV kV doc pm an cdv ct) ps sp:=by
 refine⟨len,fun A outer s H args us vs Q E hr hx e0 hb r JG=>?_⟩
 have hl:=len _ _ _ _ JG
 have KX:K.In s.heap:=e0.mod.A0.keeps fun b o e=>(e0.bs b o e).1
 have lim:s.heap.NoLimit:=e0.mod.nolimit.keeps fun b o e=>(e0.bs b o e).1
 have hkind:∀y∈ps.zip us,scope.names.lookup y.1=some .local\/(scope.names.lookup y.1=some .cell/\((cellsFrom (s.heap.objs.size+1) scope.names []).lookup y.1).isSome=true):=fun⟨n,v⟩ hy=>by
  rcases S.par n (List.of_mem_zip hy).1 with q | q
  ·exact .inl q
  ·exact .inr ⟨q,PySem.W.cellsFrom_some _ _ _ (.inl q)⟩
 refine codeAny_call_function hr.depth (KX _ _ lk) rfl S.co S.gen rfl (PySem.W.codeRec_of KX hcd) (hb _ _ _ _ ?_)
 refine wpAny_newFunctionEnv_cells S.kind hkind fun env he s1 x=>?_
 subst he
 refine⟨lim.keeps x.toInCall.keep,codeAny_func ?_⟩
 obtain⟨t,ht,hq⟩:=hbody A outer s H vs Q E (hr.deeper _) hx JG
 have I:Inv (iG CX P w K mg base N qual scope f cdv A outer s H E) [] (start N vs) H s1:=vZ S e0 hl r x
 refine wpAny_mono (ht [] s1 (start N vs) H _ I hq) (fun fl s' hs=>?_) fun e s' hs=>hs
 have fin:∀{σ':St} {H':Hp} {v:V} {u:Value},Inv (iG CX P w K mg base N qual scope f cdv A outer s H E) [] σ' H' s'->RelV v u->Q v H'->CE outer P w H s Q u s' :=
  fun {σ' H' v u} J rv q=>⟨v,H',J.os,J.bare,J.base,J.hok,rv,q⟩
 cases fl with
 | ret u =>
  obtain⟨v,σ',H',J,rv,q⟩:=hs
  exact fin J rv q
 | next =>
  obtain⟨σ',H',J,q⟩:=hs
  exact fin (v:=V.aq) (u:=Value.none) J rfl q
 | brk =>
  obtain⟨_,_,_,q⟩:=hs
  exact False.elim q
 | cont =>
  obtain⟨_,_,_,q⟩:=hs
  exact False.elim q
section
variable{X:Cx}{x:Str}{p pos:Pos}{e:Expr}{es:List Expr}{t:TA}{id T:String}{r:List V->Hp->VK->Prop}
noncomputable def Eb(r:List V->Hp->VK->Prop)(t:TA):TE:=fun σ H Q=>t σ H fun vs H1=>r vs H1 Q
theorem cP(hc:cG X (.builtin id) r)(hg:Gl X x)(hm:X.mg x=none)(hv:bootBuiltins x=some (.builtin id))(ha:PA X (e::es) t)(hn:x≠"__name__":=by decide)(hdb:(x == ("__debug__" : Str))=false:=by decide)
  (he:starEach (e::es) X.env=(false,eval e X.env)::starEach es X.env:=by rfl) (hpl:(backTo pos (starEach es X.env)).any (·.1)=false:=by rfl):PE X (.Call (.Name x p) (e::es) [] pos) (Eb r t):=by
 intro pins s σ H Q I h
 refine wpAny_Call_Name_kw (eK I hg hm hv ?_ hn hdb)
 exact PyProof.Rows.callWith_builtin1 (aT (ha pos pins s σ H _ I h) fun us s1 ⟨vs,H1,I1,r1,q1⟩=>hc pins s1 σ H1 vs us Q I1 r1 q1) he hpl
theorem lX(hc:cG X (.type T) r)(hg:Gl X x)(hm:X.mg x=none)(hv:bootBuiltins x=some (.type T))(ha:PA X (e::es) t)(hn:x≠"__name__":=by decide)(hdb:(x == ("__debug__" : Str))=false:=by decide)
  (he:starEach (e::es) X.env=(false,eval e X.env)::starEach es X.env:=by rfl) (hpl:(backTo pos (starEach es X.env)).any (·.1)=false:=by rfl):PE X (.Call (.Name x p) (e::es) [] pos) (Eb r t):=by
 intro pins s σ H Q I h
 refine wpAny_Call_Name_kw (eK I hg hm hv ?_ hn hdb)
 exact PyProof.Rows.callWith_type1 (aT (ha pos pins s σ H _ I h) fun us s1 ⟨vs,H1,I1,r1,q1⟩=>hc pins s1 σ H1 vs us Q I1 r1 q1) he hpl
end
end L2
namespace HT
open PySem PyProof.Rows
section
open PySem.SeqAt
open PySem.AutoSeq1 (wpAny_loadPart')
open PySem.MeetsSeq PySem.MeetsSeq2 PySem.MeetsSeq3
end
section
variable{prog:Program}{w:World}{A:Around}{E:Value->Shared->Prop}{s:Shared}
theorem Du{t b:Addr}{vs ws:List Value}{Q:Value->Shared->Prop}(ht:IsTup s.heap t vs.toArray)(hb:IsTup s.heap b ws.toArray)(hv:vs≠[])
  (h1:ws=[]->Q (.ref t) s) (h2:ws≠[]->Q (.ref s.heap.objs.size) { s with heap:=s.heap.push { cls:=.type "tuple", data:=.seq (vs++ws).toArray } })
  (hsz:vs.length+ws.length<=sizeLine):wpAny (model prog w) A (binaryOp .Add (.ref t) (.ref b)) Q E s:=by
 obtain⟨⟨cls,dd,data,sl⟩,ho,hc,n,hd⟩:=id ht
 obtain⟨⟨Mm,dd2,data2,sl2⟩,ho2,hc2,n2,hd2⟩:=id hb
 simp only at hc hd hc2 hd2
 subst hc hd hc2 hd2
 have e:vs.toArray++ws.toArray=(vs++ws).toArray:=by simp
 by_cases hw:ws=[]
 ·exact concat_meets ⟨_,ho,rfl⟩ ⟨_,ho2,rfl⟩ noFill_tuple_add seq_tuple_add PySem.F.slot_tuple_add PySem.F.entry_tuple_add (PySem.F.args_tuple_add_2 _ _)
   (tuple_addW1 t b vs.toArray ws.toArray n n2 dd dd2 sl sl2 (by simpa using hv) (by simp[hw])) ⟨ho,ho2,h1 hw⟩
 ·refine concat_meets ⟨_,ho,rfl⟩ ⟨_,ho2,rfl⟩ noFill_tuple_add seq_tuple_add PySem.F.slot_tuple_add PySem.F.entry_tuple_add (PySem.F.args_tuple_add_2 _ _)
   (tuple_addW2 t b vs.toArray ws.toArray n n2 dd dd2 sl sl2 (by simpa using hv) (by simpa using hw) (by rw[List.size_toArray,List.size_toArray];exact hsz)) ⟨ho,ho2,?_⟩
  rw[e]
  exact h2 hw
noncomputable def cB(n d:Nat):Option Int->Nat
 | none=>d
 | some v=>if v<0 then (v+(n:Int)).toNat else min v.toNat n
theorem Gf(n d:Nat)(hd:d<=n)(o:Option Int):cB n d o<=n:=by
 cases o with
 | none=>exact hd
 | some v =>
  show (if v<0 then (v+(n:Int)).toNat else min v.toNat n)<=n
  by_cases hv:v<0
  ·rw[if_pos hv];omega
  ·rw[if_neg hv];exact Nat.min_le_right _ _
theorem u0(v:Int)(n d:Nat):(if v<0 then max (v+(n:Int)) 0 else min v (n:Int))=((cB n d (some v):Nat):Int):=by
 show (if v<0 then max (v+(n:Int)) 0 else min v (n:Int))=(((if v<0 then (v+(n:Int)).toNat else min v.toNat n):Nat):Int)
 by_cases hv:v<0
 ·simp only[if_pos hv];omega
 ·simp only[if_neg hv];omega
theorem sE(lo hi:Option Int)(n:Nat):Builtin.Slice.sliceAdjust lo hi 1 (n:Int)=(((cB n 0 lo:Nat):Int),((cB n n hi:Nat):Int)):=by
 have h1:¬ ((1:Int)<0):=by omega
 unfold Builtin.Slice.sliceAdjust
 simp only[h1,if_false]
 refine Prod.ext ?_ ?_
 ·cases lo with
  | none=>rfl
  | some v=>exact u0 v n 0
 ·cases hi with
  | none=>rfl
  | some v=>exact u0 v n n
theorem qX(i j:Nat):Builtin.Slice.slicePlaces (i:Int) (j:Int) 1=j-i:=by
 unfold Builtin.Slice.slicePlaces
 have h1:(1:Int) > 0:=by omega
 simp only[h1,if_true,Int.ediv_one]
 split <;> omega
theorem jS{v:Value}{o:Option Int}{Q:Option Int->Shared->Prop}(p:IsPart v o)(h:Q o s):wpAny (model prog w) A (Builtin.Slice.slicePartIndex v) Q E s:=by
 cases p with
 | none=>exact slicePart_none h
 | int i t=>exact slicePart_int h
theorem iR{sl:Addr}{vl vu:Value}{lo hi:Option Int}{n:Nat}{Q:Int×Int×Nat->Shared->Prop}(hs:s.heap.IsSliceOf sl vl vu .none)(pl:IsPart vl lo)(pu:IsPart vu hi)
  (h:Q (((cB n 0 lo:Nat):Int),1,cB n n hi-cB n 0 lo) s):wpAny (model prog w) A (Builtin.Slice.sliceApplied (.ref sl) (pure (n:Int))) Q E s:=by
 obtain⟨os,hos,hcs,hds⟩:=id hs
 unfold Builtin.Slice.sliceApplied Builtin.Slice.sliceFields
 refine wpAny_bind (wpAny_bind (wpAny_field hos hds (x:=vl) rfl (wpAny_bind (wpAny_field hos hds (x:=vu) rfl (wpAny_bind (wpAny_field hos hds (x:=.none) rfl (wpAny_pure ?_)))))))
 refine wpAny_bind (slicePart_none ?_)
 show wpAny _ _ (if ((1:Int) == 0)=true then _ else _) _ _ s
 rw[if_neg (by decide)]
 refine wpAny_bind (jS pl (wpAny_bind (jS pu (wpAny_bind (wpAny_pure ?_)))))
 show wpAny _ _ (match Builtin.Slice.sliceAdjust lo hi 1 (n:Int) with | (lo,hi)=>pure (lo,(1:Int),Builtin.Slice.slicePlaces lo hi 1)) _ _ s
 rw[sE lo hi n]
 show wpAny _ _ (pure (((cB n 0 lo:Nat):Int),(1:Int),Builtin.Slice.slicePlaces ((cB n 0 lo:Nat):Int) ((cB n n hi:Nat):Int) 1)) _ _ s
 rw[qX]
 exact wpAny_pure h
theorem yo(xs:Array Value)(i k:Nat):((List.range k).filterMap fun (m:Nat)=>xs[((i:Int)+(m:Int)*1).toNat]?).toArray=((xs.toList.drop i).take k).toArray:=by
 have e:(fun (m:Nat)=>xs[((i:Int)+(m:Int)*1).toNat]?)=fun m=>xs[i+m]?:=by
  funext m
  have:((i:Int)+(m:Int)*1).toNat=i+m:=by omega
  rw[this]
 rw[e]
 have:=pick_run xs i k
 rw[List.filterMap_map] at this
 have e2:((fun x=>xs[x]?) ∘ fun x=>i+x)=fun m=>xs[i+m]?:=rfl
 rw[e2] at this
 rw[this]
theorem iy{t sl:Addr}{items:Array Value}{vl vu:Value}{lo hi:Option Int}{Q:Value->Shared->Prop}(ht:IsTup s.heap t items)(hs:s.heap.IsSliceOf sl vl vu .none)(pl:IsPart vl lo)(pu:IsPart vu hi)
  (hw:¬ (cB items.size 0 lo=0/\cB items.size items.size hi=items.size))
  (h:Q (.ref s.heap.objs.size) { s with heap:=s.heap.push { cls:=.type "tuple", data:=.seq ((items.toList.drop (cB items.size 0 lo)).take (cB items.size items.size hi-cB items.size 0 lo)).toArray } })
  (hsz:items.size<=sizeLine):wpAny (model prog w) A (getItem (.ref t) (.ref sl)) Q E s:=by
 have uy:sizeOk (.seq ((items.toList.drop (cB items.size 0 lo)).take (cB items.size items.size hi-cB items.size 0 lo)).toArray):=by
  show ((items.toList.drop (cB items.size 0 lo)).take (cB items.size items.size hi-cB items.size 0 lo)).toArray.size<=sizeLine
  rw[List.size_toArray,List.length_take,List.length_drop,Array.length_toList]
  omega
 have hj:cB items.size items.size hi<=items.size:=Gf _ _ (Nat.le_refl _) hi
 obtain⟨os,hos,hcs,hds⟩:=id hs
 have hTs:s.TypeIs (.ref sl) "slice":=⟨os, hos, hcs⟩
 unfold getItem
 try with_reducible refine wpAny_holding ?_
 first | refine wpAny_bind (wpAny_pure ?_) | skip
 refine wpAny_bind (wpAny_sequenceKey ht.typeIs (by decide) ?_)
 refine wpAny_bind (wpAny_callSpecial?_slot (name:=Str.ofString "__getitem__") ht.typeIs PyProof.Rows.slot_tuple_getitem
  (wpAny_call_entry PyProof.Rows.slot_tuple_getitem ht.typeIs entry_tuple_getitem ?_ (args_tuple_getitem _ _)))
 show wpAny _ _ (Builtin.Tuple.tupleItemsOf (.ref t) >>= _) _ _ s
 refine wpAny_bind (tupleItemsOf_ ht ?_)
 refine wpAny_bind (wpAny_typeOf hTs ?_)
 rw[if_pos (by decide)]
 refine wpAny_bind (iR hs pl pu ?_)
 have hno:¬ ((((cB items.size 0 lo:Nat):Int) == 0&&(1:Int) == 1&&(cB items.size items.size hi-cB items.size 0 lo) == items.size)=true):=by
  intro q
  rw[Bool.and_eq_true,Bool.and_eq_true] at q
  have q1:((cB items.size 0 lo:Nat):Int)=0:=eq_of_beq q.1.1
  have q2:cB items.size items.size hi-cB items.size 0 lo=items.size:=eq_of_beq q.2
  exact hw ⟨by omega,by omega⟩
 show wpAny _ _ (if (((cB items.size 0 lo:Nat):Int) == 0&&(1:Int) == 1&&(cB items.size items.size hi-cB items.size 0 lo) == items.size)=true then _ else _) _ _ s
 rw[if_neg hno,yo]
 first
  | exact wpAny_bind (m:=Builtin.Tuple.tupleExact _) (wpAny_newObj_type (wpAny_pure ⟨_,rfl,wpAny_pure h⟩) uy)
  | exact wpAny_bind (m:=Builtin.Tuple.tupleExact _) (wpAny_newObj_type (wpAny_bind (wpAny_pure (wpAny_pure ⟨_,rfl,wpAny_pure h⟩))) uy)
  | exact wpAny_bind (wpAny_bind (m:=Builtin.Tuple.tupleExact _) (wpAny_newObj_type (wpAny_pure (wpAny_pure ⟨_,rfl,wpAny_pure h⟩)) uy))
  | exact wpAny_bind (wpAny_bind (m:=Builtin.Tuple.tupleExact _) (wpAny_newObj_type (wpAny_pure ⟨_,rfl,wpAny_pure h⟩) uy))
end
end HT
namespace L2
open PySem PySem.Spec PyProof.Rows
noncomputable abbrev TO:=St->Hp->(Option Int->Hp->Prop)->Prop
noncomputable def PO(X:Cx)(e:Option Expr)(t:TO):Prop :=
 ∀(pins:List (Addr×Obj)) (s:Shared) (σ:St) (H:Hp) (Q:Option Int->Hp->Prop),Inv X pins σ H s->t σ H Q ->
  wpAny (model X.prog X.w) X.A (evalPart e X.env) (fun u s'=>∃o H',Inv X pins σ H' s'/\IsPart u o/\Q o H') X.xe s
noncomputable def sU:TO:=fun _ H Q=>Q none H
noncomputable def D7(t:TE):TO:=fun σ H Q=>t σ H fun x H1=>∃i,x=.int i/\Q (some i) H1
section
variable{X:Cx}{e:Expr}{te:TE}{lo hi:Option Expr}{tl th:TO}{pos p2:Pos}
theorem Cf:PO X none sU:=by
 intro pins s σ H Q I h
 rw[evalPart_none]
 exact wpAny_pure ⟨none,H,I,.none,h⟩
theorem Ce(h:PE X e te):PO X (some e) (D7 te):=by
 intro pins s σ H Q I hw
 rw[evalPart_some]
 refine aT (h pins s σ H _ I hw) fun u s1 ⟨x,H1,I1,r1,q1⟩=>?_
 obtain⟨i,rfl,q⟩:=q1
 obtain⟨t,rfl⟩:=r1
 exact⟨some i,H1,I1,.int i t,q⟩
noncomputable def DQ(X:Cx)(r:V->Option Int->Option Int->Hp->VK->Prop):Prop :=
 ∀(pins:List (Addr×Obj)) (s:Shared) (σ:St) (H:Hp) (x:V) (v vl vu:Value) (lo hi:Option Int) (sl:Addr) (Q:VK),Inv X pins σ H s->RelV x v->s.heap.IsSliceOf sl vl vu .none->IsPart vl lo->IsPart vu hi->r x lo hi H Q ->
  ∃T id, typeLookup (.type T) "__getitem__" = pure (some (.builtin id))/\s.TypeIs v T/\wpAny (model X.prog X.w) X.A (getItem v (.ref sl)) (EP X pins σ Q) X.xe s
theorem DQ.or{r r':V->Option Int->Option Int->Hp->VK->Prop}(h:DQ X r)(h':DQ X r'):DQ X (fun x lo hi H Q=>r x lo hi H Q\/r' x lo hi H Q):=by
 intro pins s σ H x v vl vu lo hi sl Q I rx hs pl pu q
 rcases q with q | q
 ·exact h pins s σ H x v vl vu lo hi sl Q I rx hs pl pu q
 ·exact h' pins s σ H x v vl vu lo hi sl Q I rx hs pl pu q
noncomputable def tSl(r:V->Option Int->Option Int->Hp->VK->Prop)(te:TE)(tl th:TO):TE:=fun σ H Q=>te σ H fun x H1=>tl σ H1 fun l H2=>th σ H2 fun u H3=>r x l u H3 Q
theorem yr{r:V->Option Int->Option Int->Hp->VK->Prop}(hr:DQ X r)(he:PE X e te)(hl:PO X lo tl)(hu:PO X hi th):PE X (.Subscript e (.Slice lo hi none p2) pos) (tSl r te tl th):=by
 intro pins s σ H Q I h
 refine Subscript_ (aT (he pins s σ H _ I h) fun v s1 ⟨x,H1,I1,r1,q1⟩=>?_)
 refine wpAny_Slice (aT (hl pins s1 σ H1 _ I1 q1) fun vl s2 ⟨l,H2,I2,pl,q2⟩=>aT (hu pins s2 σ H2 _ I2 q2) fun vu s3 ⟨u,H3,I3,pu,q3⟩=>?_)
 rw[evalPart_none]
 refine wpAny_pure ?_
 have I4:Inv X pins σ H3 { s3 with heap:=s3.heap.push { cls:=.type "slice", data:=.fields #[vl, vu, .none] } }:=I3.kept (t':=s3.toks) fun b ob q=>Heap.get?_push_of_some _ q
 obtain⟨T, id, hT, ht, hg⟩:=hr pins { s3 with heap:=s3.heap.push { cls:=.type "slice", data:=.fields #[vl, vu, .none] } } σ H3 x v vl vu l u s3.heap.objs.size Q I4 r1 (Heap.IsSliceOf.new ..) pl pu q3
 show wpAny (model X.prog X.w) X.A (subscriptTail e (.Slice lo hi none p2) v (.ref s3.heap.objs.size)) (EP X pins σ Q) X.xe { s3 with heap:=s3.heap.push { cls:=.type "slice", data:=.fields #[vl, vu, .none] } }
 exact tail_any (ops:=[.ref s3.heap.objs.size,v]) ht hT hg (by with_unfolding_all rfl)
noncomputable def qc(xs:List V)(lo hi:Option Int):List V:=(xs.drop (HT.cB xs.length 0 lo)).take (HT.cB xs.length xs.length hi-HT.cB xs.length 0 lo)
theorem ju(xs:List V)(lo hi:Option Int):(qc xs lo hi).length<=xs.length:=by
 unfold qc
 rw[List.length_take,List.length_drop]
 omega
noncomputable def Kw(K:PySem.W.Frag):V->Option Int->Option Int->Hp->VK->Prop:=fun x lo hi H Q=>∃a xs,x=.ref a/\gU K H a xs /\
 ¬ (HT.cB xs.length 0 lo=0/\HT.cB xs.length xs.length hi=xs.length)/\∀p,H p=none->Q (.ref p) (upd H p (.tup (qc xs lo hi)))
theorem FT:DQ X (Kw X.K):=by
 intro pins s σ H x v vl vu lo hi sl Q I rx hs pl pu h
 obtain⟨a,xs,rfl,hx,hw,q⟩:=h
 cases rx
 obtain⟨its,r,ht,hz⟩:=I.tuple hx
 have hlen:its.toArray.size=xs.length:=by rw[List.size_toArray];exact r.length.symm
 refine⟨"tuple", _, PyProof.Rows.slot_tuple_getitem.lookup, ht.typeIs, ?_⟩
 refine HT.iy ht hs pl pu (by rw[hlen];exact hw) ?_ (by rw[hlen];exact hz)
 rw[hlen]
 refine⟨.ref s.heap.objs.size,_,I.laid (t':=s.toks) (o:=.tup (qc xs lo hi)) (fun b ob q=>Heap.get?_push_of_some _ q) (Nat.le_refl _) ?_,rfl,q _ (I.hok.fresh (Nat.le_refl _))⟩
 exact⟨Nat.le_trans (ju xs lo hi) hz,_,(r.drop (HT.cB xs.length 0 lo)).take (HT.cB xs.length xs.length hi-HT.cB xs.length 0 lo),IsTup.new _ _⟩
noncomputable def Eu(K:PySem.W.Frag):R2:=fun x y H Q=>∃a b xs ys,x=.ref a/\y=.ref b/\gU K H a xs/\gU K H b ys/\xs≠[]/\xs.length+ys.length<=sizeLine /\
 (ys=[]->Q (.ref a) H)/\(ys≠[]->∀p,H p=none->Q (.ref p) (upd H p (.tup (xs++ys))))
theorem Vals.nh{xs:List V}{us:List Value}(r:Vals xs us):us=[]↔xs=[]:=by
 cases r with
 | nil=>simp
 | cons _ _=>simp
theorem Cv:ek X (binaryOp .Add) (Eu X.K):=by
 intro pins s σ H x y v u Q I rx ry h
 obtain⟨a,b,xs,ys,rfl,rfl,ha,hb,hx,hz,q1,q2⟩:=h
 cases rx
 cases ry
 obtain⟨its,r1,p1,_⟩:=I.tuple ha
 obtain⟨its2,r2,p2,_⟩:=I.tuple hb
 refine HT.Du p1 p2 (fun z=>hx (r1.nh.mp z)) (fun z=>⟨.ref a,H,I,rfl,q1 (r2.nh.mp z)⟩) (fun z=>?_) (by rw[<- r1.length,<- r2.length];exact hz)
 refine⟨.ref s.heap.objs.size,_,I.laid (t':=s.toks) (o:=.tup (xs++ys)) (fun b ob q=>Heap.get?_push_of_some _ q) (Nat.le_refl _) ?_,rfl,q2 (fun w=>z (r2.nh.mpr w)) _ (I.hok.fresh (Nat.le_refl _))⟩
 exact⟨by rw[List.length_append];exact hz,_,r1.append r2,IsTup.new _ _⟩
end
noncomputable def JF(n:Nat)(i:Int):Option Nat:=if 0<=i then (if i<n then some i.toNat else none) else if -(n:Int)<=i then some (i+n).toNat else none
noncomputable def Jo{α:Type}(xs:List α)(i:Int):Option α:=(JF xs.length i).bind fun j=>xs[j]?
theorem uq{n:Nat}{i:Int}{j:Nat}(h:JF n i=some j):seqIndex? i n=some j/\j<n/\-(n:Int)<=i/\i<n:=by
 unfold JF at h
 by_cases h0:0<=i
 ·rw[if_pos h0] at h
  by_cases h1:i<n
  ·rw[if_pos h1] at h
   have e:i.toNat=j:=Option.some.inj h
   exact⟨by rw[seqIndex_of h0 h1,e],by omega,by omega,h1⟩
  ·rw[if_neg h1] at h;cases h
 ·rw[if_neg h0] at h
  by_cases h1:-(n:Int)<=i
  ·rw[if_pos h1] at h
   have e:(i+n).toNat=j:=Option.some.inj h
   exact⟨by rw[seqIndex_neg (by omega) h1,e],by omega,h1,by omega⟩
  ·rw[if_neg h1] at h;cases h
theorem n5{α:Type}{xs:List α}{i:Int}{v:α}(h:Jo xs i=some v):∃j,seqIndex? i xs.length=some j/\xs[j]? = some v/\j<xs.length/\-(xs.length:Int)<=i/\i<xs.length:=by
 unfold Jo at h
 cases e:JF xs.length i with
 | none=>rw[e] at h;cases h
 | some j =>
  rw[e] at h
  obtain⟨h1,h2,h3,h4⟩:=uq e
  exact⟨j,h1,h,h2,h3,h4⟩
noncomputable def vg(b:Expr):Prop:=∀o i,subscripted b false o i=operate [o,i] (getItem o i)
noncomputable def A7(X:Cx)(r:R2):Prop :=
 ∀(value slice:Expr) (pins:List (Addr×Obj)) (s:Shared) (σ:St) (H:Hp) (x y:V) (v u:Value) (Q:VK),Inv X pins σ H s->RelV x v->RelV y u->r x y H Q ->
  subscripted slice false v u=operate [v,u] (getItem v u)->wpAny (model X.prog X.w) X.A (subscriptTail value slice v u) (EP X pins σ Q) X.xe s
noncomputable def JN(X:Cx)(id:String)(r:V->List V->Hp->VK->Prop):Prop :=
 ∀(pins:List (Addr×Obj)) (s:Shared) (σ:St) (H:Hp) (x:V) (xs:List V) (v:Value) (us:List Value) (Q:VK),Inv X pins σ H s->RelV x v->Vals xs us->r x xs H Q ->
  wpAny (model X.prog X.w) X.A (call (.builtin id) (v::us)) (EP X pins σ Q) X.xe s
section
variable{X:Cx}{a b:Expr}{ta tb:TE}{pos:Pos}
theorem A7.or{r r':R2}(h:A7 X r)(h':A7 X r'):A7 X (fun x y H Q=>r x y H Q\/r' x y H Q):=by
 intro value slice pins s σ H x y v u Q I rx ry q hs
 rcases q with q | q
 ·exact h value slice pins s σ H x y v u Q I rx ry q hs
 ·exact h' value slice pins s σ H x y v u Q I rx ry q hs
theorem JN.or{id:String}{r r':V->List V->Hp->VK->Prop}(h:JN X id r)(h':JN X id r'):JN X id (fun x xs H Q=>r x xs H Q\/r' x xs H Q):=by
 intro pins s σ H x xs v us Q I rx rs q
 rcases q with q | q
 ·exact h pins s σ H x xs v us Q I rx rs q
 ·exact h' pins s σ H x xs v us Q I rx rs q
theorem KZ{r:R2}(hr:A7 X r)(ha:PE X a ta)(hb:PE X b tb)(hs:vg b):PE X (.Subscript a b pos) (FI r ta tb):=by
 intro pins s σ H Q I h
 exact Subscript_ (Jm ha hb I h fun v u s2 x y H2 I2 rx ry q=>hr a b pins s2 σ H2 x y v u Q I2 rx ry q (hs _ _))
noncomputable def KH(K:PySem.W.Frag):R2:=fun x y H Q=>∃p xs i v,x=.ref p/\y=.int i/\fu K H p xs/\Jo xs i=some v/\Q v H
noncomputable def KD(K:PySem.W.Frag):R2:=fun x y H Q=>∃p xs i v,x=.ref p/\y=.int i/\gU K H p xs/\Jo xs i=some v/\Q v H
noncomputable def KG:R2:=fun x y H Q=>∃z i c,x=.str z/\y=.int i/\z.length<=sizeLine/\Jo z.cps.toList i=some c/\Q (.str ⟨#[c]⟩) H
theorem CU:A7 X (KH X.K):=by
 intro value slice pins s σ H x y v u Q I rx ry h hs
 obtain⟨p,xs,i,z,rfl,rfl,hq,he,q⟩:=h
 cases rx
 obtain⟨t,rfl⟩:=ry
 obtain⟨its,r,pl,hz⟩:=I.list hq
 obtain⟨j,h1,h2,h3,h4,h5⟩:=n5 he
 obtain⟨w,ew,rw'⟩:=r.get h2
 have hl:=r.length
 have hn:=iT
 have fin:EP X pins σ Q w s:=⟨z,H,I,rw',q⟩
 by_cases h0:0<=i
 ·have hj:i.toNat=j:=by
   rw[seqIndex_of h0 h5] at h1
   exact Option.some.inj h1
  exact item_listR pl.isList h0 (by omega) (by rw[hj];simpa using ew) fin hs
 ·have hj:(i+(its.toArray.size:Int)).toNat=j:=by
   rw[seqIndex_neg (by omega) h4] at h1
   rw[List.size_toArray,<- hl]
   exact Option.some.inj h1
  exact subscriptTail_builtinR (x:=w) pl.isList.typeIs slot_list_getitem.lookup
   (wpAny_getItem_list_neg (Q:=fun r s'=>r=w/\EP X pins σ Q r s') pl.isList (by omega) (by rw[List.size_toArray] <;> omega) (by omega) (by rw[hj];simpa using ew) ⟨rfl,fin⟩) hs
theorem Ij:A7 X (KD X.K):=by
 intro value slice pins s σ H x y v u Q I rx ry h hs
 obtain⟨p,xs,i,z,rfl,rfl,hq,he,q⟩:=h
 cases rx
 obtain⟨t,rfl⟩:=ry
 obtain⟨its,r,pl,hz⟩:=I.tuple hq
 obtain⟨j,h1,h2,h3,h4,h5⟩:=n5 he
 obtain⟨w,ew,rw'⟩:=r.get h2
 have hl:=r.length
 have hn:=iT
 have fin:EP X pins σ Q w s:=⟨z,H,I,rw',q⟩
 exact subscriptTail_builtinR (x:=w) pl.typeIs slot_tuple_getitem.lookup
  (getItem_tuple (j:=j) (Q:=fun r s'=>r=w/\EP X pins σ Q r s') pl (by omega) (by omega) (by rw[List.size_toArray,<- hl];exact h1) (by simpa using ew) ⟨rfl,fin⟩) hs
theorem Ik:A7 X KG:=by
 intro value slice pins s σ H x y v u Q I rx ry h hs
 obtain⟨z,i,c,rfl,rfl,hz,he,q⟩:=h
 obtain⟨t,rfl⟩:=rx
 obtain⟨t',rfl⟩:=ry
 obtain⟨j,h1,h2,h3,h4,h5⟩:=n5 he
 have hl:z.cps.toList.length=z.length:=by simp[Str.length]
 rw[hl] at h1 h4 h5
 have hn:=iT
 exact tail_any (typeIs_str s z t) slot_str_getitem.lookup (getItem_str (c:=c) (by
  have e1:decide (i < -(2 ^ 63:Int))=false:=decide_eq_false (by omega)
  have e2:decide (i ≥ 2 ^ 63)=false:=decide_eq_false (by omega)
  rw[e1,e2,Bool.or_false]) (by rw[h1];simpa using h2) ⟨.str ⟨#[c]⟩,H,I.tok _,⟨_,rfl⟩,q⟩) hs
theorem rF(its:List Value)(n j:Nat)(u:Value):Obj.mapSeq (·.setIfInBounds j u) { cls:=.type "list", data:=.seq its.toArray n }={ cls:=.type "list", data:=.seq (its.set j u).toArray n }:=by
 simp[Obj.mapSeq]
theorem Inv.lst{pins:List (Addr×Obj)}{σ:St}{H:Hp}{s:Shared}{p:Addr}{xs:List V}(I:Inv X pins σ H s)(h:H p=some (.lst xs)) :
  ∃(its:List Value) (n:Nat), Vals xs its/\s.heap.get? p=some { cls:=.type "list", data:=.seq its.toArray n }/\xs.length<=sizeLine:=by
 obtain⟨z,its,n,r,e⟩:=I.hok p _ h
 exact⟨its,n,r,e,z⟩
theorem Inv.Hq{pins:List (Addr×Obj)}{σ:St}{H:Hp}{s:Shared}{p:Addr}{xs ys:List V}{its its':List Value}{n n':Nat}{f:Obj->Obj}(I:Inv X pins σ H s)(h:H p=some (.lst xs))
  (ho:s.heap.get? p=some { cls:=.type "list", data:=.seq its.toArray n }) (hf:f { cls:=.type "list", data:=.seq its.toArray n }={ cls:=.type "list", data:=.seq its'.toArray n' }) (r:Vals ys its') (hz:ys.length<=sizeLine) (t:Nat) :
  Inv X pins σ (upd H p (.lst ys)) { s with heap:=s.heap.update p f,toks:=t }:=by
 have e:(s.heap.update p f).get? p=some { cls:=.type "list", data:=.seq its'.toArray n' }:=by
  rw[Heap.get?_update_self f ho (by rw[hf] <;> rfl),hf]
 refine I.write (x:=p) (e:=p) (by rw[h];trivial) (.inl rfl) (fun b u hb q=>(Heap.get?_update_other _ _ (Ne.symm hb)).trans q) ⟨_,e⟩ ?_
 exact⟨hz,its',n',r,e⟩
noncomputable def Eo:V->V->V->Hp->(Hp->Prop)->Prop:=fun o i v H Q=>∃p xs k j,o=.ref p/\i=.int k/\H p=some (.lst xs)/\JF xs.length k=some j/\Q (upd H p (.lst (xs.set j v)))
theorem set_list:PSet X Eo:=by
 intro pins s σ H o i v ov iv u Q I ro ri rv h
 obtain⟨p,xs,k,j,rfl,rfl,hp,hj,q⟩:=h
 cases ro
 obtain⟨t,rfl⟩:=ri
 obtain⟨its,n,r,ho,hz⟩:=I.lst hp
 obtain⟨h1,h2,h3,h4⟩:=uq hj
 have hl:=r.length
 have hn:=iT
 have I':Inv X pins σ (upd H p (.lst (xs.set j v))) { s with heap:=s.heap.update p (Obj.mapSeq (·.setIfInBounds j u)) } :=
  I.Hq hp ho (rF its n j u) (r.set rv j) (by rw[List.length_set];exact hz) s.toks
 by_cases h0:0<=k
 ·have hk:k.toNat=j:=by
   rw[seqIndex_of h0 h4] at h1
   exact Option.some.inj h1
  exact PySem.W.ki_setAt ho h0 (by omega) (by rw[List.size_toArray,<- hl];exact h4) (by rw[hk];exact⟨_,I',q⟩)
 ·have hk:(k+(its.toArray.size:Int)).toNat=j:=by
   rw[seqIndex_neg (by omega) h3] at h1
   rw[List.size_toArray,<- hl]
   exact Option.some.inj h1
  exact PySem.W.ki_setBack ho (by omega) (by rw[List.size_toArray,<- hl];exact h3) (by omega) (by rw[hk];exact⟨_,I',q⟩)
theorem mT(lo hi:Option Int)(n:Nat):(sliceBounds lo hi none n).1=((HT.cB n 0 lo:Nat):Int)/\(sliceBounds lo hi none n).2.1=((HT.cB n n hi:Nat):Int)/\(sliceBounds lo hi none n).2.2=1:=by
 refine⟨?_,?_,rfl⟩
 ·cases lo with
  | none=>simp[sliceBounds,HT.cB]
  | some i =>
   simp only[sliceBounds,HT.cB,Option.getD_none,show (1:Int) > 0 by decide,if_true]
   by_cases h:i<0
   ·simp only[h,if_true] <;> omega
   ·simp only[h,if_false] <;> omega
 ·cases hi with
  | none=>simp[sliceBounds,HT.cB]
  | some i =>
   simp only[sliceBounds,HT.cB,Option.getD_none,show (1:Int) > 0 by decide,if_true]
   by_cases h:i<0
   ·simp only[h,if_true] <;> omega
   ·simp only[h,if_false] <;> omega
theorem kT(its:List Value)(lo hi:Option Int):slicePick its.toArray lo hi none=((its.drop (HT.cB its.length 0 lo)).take (HT.cB its.length its.length hi-HT.cB its.length 0 lo)).toArray:=by
 obtain⟨h1,h2,h3⟩:=mT lo hi its.toArray.size
 unfold slicePick
 rw[h1,h2,h3]
 simp only[sliceRange_one,pick_run,List.size_toArray] <;> rfl
noncomputable def KA(K:PySem.W.Frag):V->Option Int->Option Int->Hp->VK->Prop:=fun x lo hi H Q=>∃a xs,x=.ref a/\fu K H a xs/\∀p,H p=none->Q (.ref p) (upd H p (.lst (qc xs lo hi)))
theorem Bx:DQ X (KA X.K):=by
 intro pins s σ H x v vl vu lo hi sl Q I rx hs pl pu h
 obtain⟨a,xs,rfl,hx,q⟩:=h
 cases rx
 obtain⟨its,r,ht,hz⟩:=I.list hx
 have hlen:=r.length
 refine⟨"list", _, slot_list_getitem.lookup, ht.isList.typeIs, ?_⟩
 refine wpAny_getItem_list_slice ht.isList hs pl pu .none (by simp) ?_ (by rw[List.size_toArray] <;> omega)
 rw[kT,<- hlen]
 refine⟨.ref s.heap.objs.size,_,I.laid (t':=s.toks) (o:=.lst (qc xs lo hi)) (fun b ob q=>Heap.get?_push_of_some _ q) (Nat.le_refl _) ?_,rfl,q _ (I.hok.fresh (Nat.le_refl _))⟩
 exact⟨Nat.le_trans (ju xs lo hi) hz,_,0,(r.drop (HT.cB xs.length 0 lo)).take (HT.cB xs.length xs.length hi-HT.cB xs.length 0 lo),Heap.get?_push_size _ rfl⟩
noncomputable def gB:V->Bool
 | .aq=>true
 | .bl _=>true
 | .int _=>true
 | .str _=>true
 | _=>false
noncomputable def A3:V->V->Bool
 | .aq,.aq=>true
 | .bl a,.bl b=>a == b
 | .bl a,.int b=>(if a then 1 else 0) == b
 | .int a,.bl b=>a == (if b then 1 else 0)
 | .int a,.int b=>a == b
 | .str a,.str b=>a == b
 | _,_=>false
theorem IQ{A:Around}{s:Shared}{y x:V}{u v:Value}(ry:RelV y u)(rx:RelV x v)(fy:gB y=true)(fx:gB x=true):SeqAt.EqAt A s u v (A3 y x):=by
 cases y with
 | aq =>
  cases ry
  cases x with
  | aq=>cases rx;exact SeqAt.EqAt.same _
  | bl b=>cases rx;exact SeqAt.EqAt.none_bool b
  | int b=>obtain⟨t,rfl⟩:=rx;exact SeqAt.EqAt.none_int b t
  | str b=>obtain⟨t,rfl⟩:=rx;exact SeqAt.EqAt.none_str b t
  | _=>exact absurd (show false=true from fx) Bool.false_ne_true
 | bl a =>
  cases ry
  cases x with
  | aq=>cases rx;exact SeqAt.EqAt.bool_none a
  | bl b=>cases rx;exact SeqAt.EqAt.bool_bool a b
  | int b=>obtain⟨t,rfl⟩:=rx;exact SeqAt.EqAt.bool_int a b t
  | str b=>obtain⟨t,rfl⟩:=rx;exact SeqAt.EqAt.bool_str a b t
  | _=>exact absurd (show false=true from fx) Bool.false_ne_true
 | int a =>
  obtain⟨t',rfl⟩:=ry
  cases x with
  | aq=>cases rx;exact SeqAt.EqAt.int_none a t'
  | bl b=>cases rx;exact SeqAt.EqAt.int_bool a t' b
  | int b=>obtain⟨t,rfl⟩:=rx;exact SeqAt.EqAt.int_int a t' b t
  | str b=>obtain⟨t,rfl⟩:=rx;exact SeqAt.EqAt.int_str a t' b t
  | _=>exact absurd (show false=true from fx) Bool.false_ne_true
 | str a =>
  obtain⟨t',rfl⟩:=ry
  cases x with
  | aq=>cases rx;exact SeqAt.EqAt.str_none a t'
  | bl b=>cases rx;exact SeqAt.EqAt.str_bool a t' b
  | int b=>obtain⟨t,rfl⟩:=rx;exact SeqAt.EqAt.str_int a t' b t
  | str b=>obtain⟨t,rfl⟩:=rx;exact SeqAt.EqAt.str_str a t' b t
  | _=>exact absurd (show false=true from fx) Bool.false_ne_true
 | _=>exact absurd (show false=true from fy) Bool.false_ne_true
noncomputable def se(x:V)(u:Value):Bool:=match u with
 | .none=>A3 .aq x
 | .bool b=>A3 (.bl b) x
 | .int i _=>A3 (.int i) x
 | .str z _=>A3 (.str z) x
 | _=>false
theorem Ad{x y:V}{u:Value}(r:RelV y u)(f:gB y=true):se x u=A3 y x:=by
 cases y with
 | aq=>cases r;rfl
 | bl b=>cases r;rfl
 | int i=>obtain⟨t,rfl⟩:=r;rfl
 | str z=>obtain⟨t,rfl⟩:=r;rfl
 | _=>exact absurd (show false=true from f) Bool.false_ne_true
theorem iK{x:V}:∀{xs:List V} {us:List Value},Vals xs us->xs.all gB=true->us.any (se x)=xs.any fun y=>A3 y x
 | _,_,.nil,_=>rfl
 | y::xs,u::us,.cons r t,f=>by
  rw[List.all_cons,Bool.and_eq_true] at f
  rw[List.any_cons,List.any_cons,Ad r f.1,iK t f.2]
theorem fK{A:Around}{s:Shared}{x:V}{v:Value}(rx:RelV x v)(fx:gB x=true):∀{xs:List V} {us:List Value},Vals xs us->xs.all gB=true->∀u∈us,SeqAt.EqAt A s u v (se x u)
 | _,_,.nil,_=>fun u hu=>by cases hu
 | y::xs,u::us,.cons r t,f=>fun u' hu=>by
  rw[List.all_cons,Bool.and_eq_true] at f
  rcases List.mem_cons.mp hu with rfl | hu
  ·rw[Ad r f.1];exact IQ r rx f.1 fx
  ·exact fK rx fx t f.2 u' hu
noncomputable def Ls(x:V)(xs:List V):Bool:=xs.any fun y=>A3 y x
noncomputable def KN(K:PySem.W.Frag)(neg:Bool):R2:=fun x y H Q=>∃p xs,y=.ref p/\(fu K H p xs\/gU K H p xs)/\gB x=true/\xs.all gB=true/\Q (.bl (if neg then !Ls x xs else Ls x xs)) H
theorem vO:ek X (compareOp .In) (KN X.K false):=by
 intro pins s σ H x y v u Q I rx ry h
 obtain⟨p,xs,rfl,hq,fx,fs,q⟩:=h
 cases ry
 rcases hq with hq | hq
 ·obtain⟨its,r,pl,hz⟩:=I.list hq
  refine SeqAt.in_listAt (se x) pl.isList (fun w hw=>fK rx fx r fs w (by simpa using hw)) ⟨.bl _,H,I,rfl,?_⟩
  rw[show its.toArray.any (se x)=its.any (se x) by simp,iK r fs]
  exact q
 ·obtain⟨its,r,pl,hz⟩:=I.tuple hq
  refine SeqAt.in_tupleAt (se x) pl (fun w hw=>fK rx fx r fs w (by simpa using hw)) ⟨.bl _,H,I,rfl,?_⟩
  rw[show its.toArray.any (se x)=its.any (se x) by simp,iK r fs]
  exact q
theorem m9:ek X (compareOp .NotIn) (KN X.K true):=by
 intro pins s σ H x y v u Q I rx ry h
 obtain⟨p,xs,rfl,hq,fx,fs,q⟩:=h
 cases ry
 rcases hq with hq | hq
 ·obtain⟨its,r,pl,hz⟩:=I.list hq
  refine SeqAt.notIn_listAt (se x) pl.isList (fun w hw=>fK rx fx r fs w (by simpa using hw)) ⟨.bl _,H,I,rfl,?_⟩
  rw[show its.toArray.any (se x)=its.any (se x) by simp,iK r fs]
  exact q
 ·obtain⟨its,r,pl,hz⟩:=I.tuple hq
  refine SeqAt.notIn_tupleAt (se x) pl (fun w hw=>fK rx fx r fs w (by simpa using hw)) ⟨.bl _,H,I,rfl,?_⟩
  rw[show its.toArray.any (se x)=its.any (se x) by simp,iK r fs]
  exact q
theorem nY:cG X (.builtin "len") (fun xs H Q=>∃p ys, xs=[.ref p]/\(fu X.K H p ys\/gU X.K H p ys)/\Q (.int ys.length) H):=by
 intro pins s σ H xs us Q I r h
 obtain⟨p,ys,rfl,hq,q⟩:=h
 obtain⟨u,rfl,rx⟩:=vals1 r
 cases rx
 have hn:=iT
 rcases hq with hq | hq
 ·obtain⟨its,r',pl,hz⟩:=I.list hq
  have hlen:=r'.length
  exact Calls.call_len_list pl.isList (by simp only[List.size_toArray] <;> omega) ⟨.int ys.length,H,I.tok _,⟨s.toks+1,by rw[List.size_toArray,hlen]⟩,q⟩
 ·obtain⟨its,r',pl,hz⟩:=I.tuple hq
  have hlen:=r'.length
  exact len_tuple pl (by simp only[List.size_toArray] <;> omega) ⟨.int ys.length,H,I.tok _,⟨s.toks+1,by rw[List.size_toArray,hlen]⟩,q⟩
theorem nX:cG X (.builtin "len") (fun xs H Q=>∃z, xs=[.str z]/\z.length<=sizeLine/\Q (.int z.length) H):=by
 intro pins s σ H xs us Q I r h
 obtain⟨z,rfl,hz,q⟩:=h
 obtain⟨u,rfl,t,rfl⟩:=vals1 r
 have hn:=iT
 exact len_str (by omega) ⟨.int z.length,H,I.tok _,⟨_,rfl⟩,q⟩
theorem cG.or{f:Value}{r r':List V->Hp->VK->Prop}(h:cG X f r)(h':cG X f r'):cG X f (fun xs H Q=>r xs H Q\/r' xs H Q):=by
 intro pins s σ H xs us Q I rs q
 rcases q with q | q
 ·exact h pins s σ H xs us Q I rs q
 ·exact h' pins s σ H xs us Q I rs q
noncomputable def MV(K:PySem.W.Frag)(T:String)(x:V)(H:Hp):Prop:=match x with
 | .str _=>T = "str"
 | .int _=>T = "int"
 | .ref p=>(T = "list"/\∃xs, fu K H p xs)\/(T = "tuple"/\∃o, K.lookup p=some o/\o.cls=.type "tuple"/\o.dict=none) \/
   (T = "dict"/\((∃kvs, H p=some (.dK kvs))\/∃kvs, H p=some (.dT kvs)))\/(T = "set"/\∃S n, H p=some (.set S n))
 | _=>False
theorem xg{pins:List (Addr×Obj)}{σ:St}{H:Hp}{s:Shared}{T:String}{x:V}{v:Value}(I:Inv X pins σ H s)(r:RelV x v)(ty:MV X.K T x H) :
  s.TypeIs v T/\∀a,v=.ref a->∃ob,s.heap.get? a=some ob/\ob.dict=none:=by
 cases x with
 | str z =>
  obtain⟨t,rfl⟩:=r
  cases (show T = "str" from ty)
  exact⟨typeIs_str s z t,fun _ e=>nomatch e⟩
 | int i =>
  obtain⟨t,rfl⟩:=r
  cases (show T = "int" from ty)
  exact⟨typeIs_int s i t,fun _ e=>nomatch e⟩
 | ref p =>
  cases r
  rcases ty with ⟨rfl,xs,hq⟩ | ⟨rfl,o,hk,hc,hd⟩ | ⟨rfl,hk⟩ | ⟨rfl,S,n,hk⟩
  ·obtain⟨its,_,pl,_⟩:=I.list hq
   refine⟨pl.isList.typeIs,fun a e=>?_⟩
   cases e
   obtain⟨o,n,e,c,hd,_⟩:=pl
   exact⟨o,e,hd⟩
  ·refine⟨⟨o,I.fM p o hk,hc⟩,fun a e=>?_⟩
   cases e
   exact⟨o,I.fM _ o hk,hd⟩
  ·have z:∃o,s.heap.get? p=some o/\o.ExactDict:=by
    rcases hk with ⟨kvs,hk⟩ | ⟨kvs,hk⟩
    ·obtain⟨_,_,_,_,o,_,_,e,ex,_⟩:=I.hok p _ hk
     exact⟨o,e,ex⟩
    ·obtain⟨_,_,_,_,o,_,_,e,ex,_⟩:=I.hok p _ hk
     exact⟨o,e,ex⟩
   obtain⟨o,e,ex⟩:=z
   refine⟨⟨o,e,ex.1⟩,fun a e2=>?_⟩
   cases e2
   exact⟨o,e,ex.2.1⟩
  ·obtain⟨o,_,_,_,e,ex,_⟩:=I.hok p _ hk
   refine⟨⟨o,e,ex.1⟩,fun a e2=>?_⟩
   cases e2
   exact⟨o,e,ex.2.1⟩
 | _=>exact False.elim ty
noncomputable def Br(K:PySem.W.Frag)(T:String)(r:V->List V->Hp->VK->Prop)(to:TE):TE:=fun σ H Q=>to σ H fun x H1=>MV K T x H1/\r x [] H1 Q
noncomputable def Kf(K:PySem.W.Frag)(T:String)(r:V->List V->Hp->VK->Prop)(to:TE)(t:TA):TE:=fun σ H Q=>to σ H fun x H1=>MV K T x H1/\t σ H1 fun xs H2=>r x xs H2 Q
variable{o e:Expr}{es:List Expr}{to:TE}{t:TA}{name:Str}{apos cpos:Pos}{T id:String}{r:V->List V->Hp->VK->Prop}
theorem yC(pa:PlainAttrs T)(slot:Slot T name id)(hty:typeOf (.builtin id)=pure (.type "method_descriptor"))(hm:JN X id r)(ho:PE X o to)
  (hbase:attributeBase o name X.env (eval o X.env)=eval o X.env:=by rfl) (hline:(apos.endLine == cpos.line)=true:=by rfl):PE X (.Call (.Attribute o name apos) [] [] cpos) (Br X.K T r to):=by
 intro pins s σ H Q I h
 refine wpAny_Call_method0_late hbase hline (aT (ho pins s σ H _ I h) fun v s1 ⟨x,H1,I1,r1,ty,q1⟩=>?_)
 obtain⟨h1,h2⟩:=xg I1 r1 ty
 exact⟨T,id,pa,slot,hty,h1,h2,Calls.callWith_builtin rfl (PySem.evalArgs_none (hm pins s1 σ H1 x [] v [] Q I1 r1 .nil q1))⟩
theorem t8(pa:PlainAttrs T)(slot:Slot T name id)(hty:typeOf (.builtin id)=pure (.type "method_descriptor"))(hm:JN X id r)(ho:PE X o to)(ha:PA X (e::es) t)
  (hbase:attributeBase o name X.env (eval o X.env)=eval o X.env:=by rfl)
  (hfew:((backTo cpos (starEach (e::es) X.env)).all (fun x=>!x.1)&&(backToKw cpos (keywordEach [] X.env)).all (fun x=>x.1.isSome)
  &&decide ((e::es).length+([]:List Keyword).length+(if ([]:List Keyword).isEmpty then 0 else 1)<30))=true:=by rfl)
  (hline:(apos.endLine == cpos.line)=true:=by rfl) (hs:starEach (e::es) X.env=(false,eval e X.env)::starEach es X.env:=by rfl) (hplain:(backTo cpos (starEach es X.env)).any (·.1)=false:=by rfl) :
  PE X (.Call (.Attribute o name apos) (e::es) [] cpos) (Kf X.K T r to t):=by
 intro pins s σ H Q I h
 refine wpAny_Call_method_late hbase hfew hline rfl (aT (ho pins s σ H _ I h) fun v s1 ⟨x,H1,I1,r1,ty,q1⟩=>?_)
 obtain⟨h1,h2⟩:=xg I1 r1 ty
 refine⟨T,id,pa,slot,hty,h1,h2,?_⟩
 have hA:=ha cpos pins s1 σ H1 _ I1 q1
 rw[hs] at hA ⊢
 refine Calls.callWith_builtin (by show (false||(backTo cpos (starEach es X.env)).any (·.1))=false;rw[hplain] <;> rfl) (Calls.evalArgs_plain ?_)
 exact aT hA fun us s2 ⟨vs,H2,I2,r2,q2⟩=>hm pins s2 σ H2 x vs v us Q I2 r1 r2 q2
end
noncomputable def ML(X:Cx)(id:String)(r:V->List V->Hp->VK->Prop):Prop :=
 ∀(pins:List (Addr×Obj)) (s:Shared) (σ:St) (H:Hp) (x:V) (xs:List V) (v:Value) (us:List Value) (Q:VK),Inv X pins σ H s->RelV x v->Vals xs us->r x xs H Q ->
  wpAny (model X.prog X.w) X.A (call (.builtin id) (v::us)) (EP X pins σ Q) X.xe s
theorem Vals.one:∀{x:V} {us:List Value},Vals [x] us->∃u,us=[u]/\RelV x u
 | _,_,.cons r .nil=>⟨_,rfl,r⟩
theorem Vals.zero:∀{us:List Value},Vals [] us->us=[]
 | _,.nil=>rfl
theorem Vals.dropLast{xs:List V}{us:List Value}(h:Vals xs us):Vals xs.dropLast us.dropLast:=by
 induction h with
 | nil=>exact .nil
 | cons r t ih =>
  cases t with
  | nil=>exact .nil
  | cons q t'=>exact .cons r ih
theorem Vals.reverse{xs:List V}{us:List Value}(h:Vals xs us):Vals xs.reverse us.reverse:=by
 induction h with
 | nil=>exact .nil
 | cons r t ih=>rw[List.reverse_cons,List.reverse_cons];exact Vals.append ih (.cons r .nil)
theorem sd{α:Type}(l:List α):l.eraseIdx (l.length-1)=l.dropLast:=by
 induction l with
 | nil=>rfl
 | cons a r ih =>
  cases r with
  | nil=>rfl
  | cons b r =>
   have e:(a::b::r).length-1=((b::r).length-1)+1:=by
    have h1:(a::b::r).length=r.length+2:=rfl
    have h2:(b::r).length=r.length+1:=rfl
    omega
   rw[e,List.eraseIdx_cons_succ,ih]
   all_goals rfl
section
variable{X:Cx}{pins:List (Addr×Obj)}{σ:St}{H:Hp}{s:Shared}{l b:Addr}{xs ys zs:List V}
theorem Inv.CK{its its':List Value}{n:Nat}{f:Array Value->Array Value}{t':Nat}(I:Inv X pins σ H s)(hH:H l=some (.lst xs))
  (e:s.heap.get? l=some { cls:=.type "list", data:=.seq its.toArray n }) (hf:f its.toArray=its'.toArray) (hv:Vals ys its') (hz:ys.length<=sizeLine) :
  Inv X pins σ (upd H l (.lst ys)) { s with heap:=s.heap.update l (Obj.mapSeq f),toks:=t' }:=by
 have q:=PySem.IsL.update e f
 rw[hf] at q
 refine I.write (x:=l) (e:=l) (by rw[hH];exact trivial) (.inl rfl) (fun b' u hb hu=>(Heap.get?_update_other s.heap (Obj.mapSeq f) (Ne.symm hb)).trans hu) ⟨_,q⟩ ?_
 exact⟨hz,its',_,hv,q⟩
theorem Inv.Li{its:List Value}{t':Nat}(I:Inv X pins σ H s)(hv:Vals ys its)(hz:ys.length<=sizeLine) :
  Inv X pins σ (upd H s.heap.objs.size (.lst ys)) { s with heap:=s.heap.push { cls:=.type "list", data:=.seq its.toArray }, toks:=t' } :=
 I.laid (fun _ _ q=>Heap.get?_push_of_some _ q) (Nat.le_refl _) ⟨hz,its,0,hv,Heap.get?_push_size _ rfl⟩
theorem Inv.fresh(I:Inv X pins σ H s):H s.heap.objs.size=none:=I.hok.fresh (Nat.le_refl _)
theorem Inv.CJ(I:Inv X pins σ H s)(hH:H l=some (.lst xs)):xs.length<=sizeLine/\∃(its:List Value) (n:Nat), Vals xs its/\xs.length=its.length/\s.heap.get? l=some { cls:=.type "list", data:=.seq its.toArray n }:=by
 obtain⟨z,its,n,r,e⟩:=I.hok l _ hH
 exact⟨z,its,n,r,r.length,e⟩
theorem yG{n:Nat}(h:n<=sizeLine):Builtin.List.listTooLong n=false:=by
 unfold Builtin.List.listTooLong
 exact decide_eq_false (by omega)
end
section
variable{X:Cx}
noncomputable def m6:V->List V->Hp->VK->Prop:=fun x vs H Q=>∃l xs y,x=.ref l/\vs=[y]/\H l=some (.lst xs)/\xs.length<sizeLine/\Q .aq (upd H l (.lst (xs++[y])))
theorem l6:ML X "list.append" m6:=by
 intro pins s σ H x vs v us Q I rx rv h
 obtain⟨l,xs,y,rfl,rfl,hH,hz,q⟩:=h
 cases rx
 obtain⟨u,rfl,ru⟩:=rv.one
 obtain⟨z,its,n,r,hl,e⟩:=I.CJ hH
 refine call_meets F.slot_list_append ⟨_,e,rfl⟩ F.entry_list_append (F.args_list_append_2 _ _) (PySem.list_append l its.toArray n u (by rw[List.size_toArray];omega)) ⟨e,?_⟩
 refine⟨.aq,_,I.CK (its':=its++[u]) hH e (by simp) (r.append (.cons ru .nil)) ?_,rfl,q⟩
 rw[List.length_append,List.length_singleton]
 omega
noncomputable def Gp:V->List V->Hp->VK->Prop:=fun x vs H Q=>∃l xs y,x=.ref l/\vs=[]/\H l=some (.lst xs)/\xs[xs.length-1]? = some y/\Q y (upd H l (.lst xs.dropLast))
theorem Hi:ML X "list.pop" Gp:=by
 intro pins s σ H x vs v us Q I rx rv h
 obtain⟨l,xs,y,rfl,rfl,hH,hy,q⟩:=h
 cases rx
 have hus:=rv.zero
 subst hus
 obtain⟨z,its,n,r,hl,e⟩:=I.CJ hH
 obtain⟨u,hu,ru⟩:=r.get hy
 have hy':its.toArray[its.toArray.size-1]? = some u:=by
  show its.toArray[its.length-1]? = some u
  rw[<- Array.getElem?_toList,<- hl]
  exact hu
 refine call_meets F.slot_list_pop ⟨_,e,rfl⟩ F.entry_list_pop (F.args_list_pop_1 _) (MeetsSeq.list_pop_last l its.toArray n u hy' (by rw[List.size_toArray];omega)) ⟨e,?_⟩
 refine⟨y,_,I.CK (its':=its.dropLast) hH e ?_ r.dropLast ?_,ru,q⟩
 ·show its.toArray.eraseIdxIfInBounds (its.toArray.size-1)=its.dropLast.toArray
  rw[List.size_toArray,List.eraseIdxIfInBounds_toArray,sd]
 ·rw[List.length_dropLast]
  omega
noncomputable def jY:V->List V->Hp->VK->Prop:=fun x vs H Q=>∃l xs,x=.ref l/\vs=[]/\H l=some (.lst xs)/\Q .aq (upd H l (.lst xs.reverse))
theorem rE:ML X "list.reverse" jY:=by
 intro pins s σ H x vs v us Q I rx rv h
 obtain⟨l,xs,rfl,rfl,hH,q⟩:=h
 cases rx
 have hus:=rv.zero
 subst hus
 obtain⟨z,its,n,r,hl,e⟩:=I.CJ hH
 refine call_meets F.slot_list_reverse ⟨_,e,rfl⟩ F.entry_list_reverse (F.args_list_reverse_1 _) (AutoSeq1.list_reverse_list_0 l its.toArray n (by rw[List.size_toArray];omega)) ⟨e,?_⟩
 refine⟨.aq,_,I.CK (its':=its.reverse) hH e (by simp) r.reverse ?_,rfl,q⟩
 rw[List.length_reverse]
 omega
end
section
variable{prog:Program}{w:World}{A:Around}{E:Value->Shared->Prop}{s:Shared}
end
section
variable{X:Cx}
end
section
variable{κ:Type}[DecidableEq κ]
noncomputable def cH(kvs:List (κ×V))(k:κ):Option V:=(kvs.find? fun kv=>decide (kv.1=k)).map (·.2)
noncomputable def putK(kvs:List (κ×V))(k:κ)(v:V):List (κ×V) :=
 if (kvs.any fun kv=>decide (kv.1=k))=true then kvs.map (fun kv=>if kv.1=k then (kv.1,v) else kv) else kvs++[(k,v)]
theorem jP{p:κ×V}{r:List (κ×V)}{k:κ}(e:p.1=k):cH (p::r) k=some p.2:=by simp[cH,List.find?_cons,e]
theorem jQ{p:κ×V}{r:List (κ×V)}{k:κ}(e:¬ p.1=k):cH (p::r) k=cH r k:=by simp[cH,List.find?_cons,e]
theorem oB(k:κ):∀kvs:List (κ×V),(kvs.any fun kv=>decide (kv.1=k))=(cH kvs k).isSome
 | []=>rfl
 | p::r=>by
  rw[List.any_cons]
  by_cases e:p.1=k
  ·simp only[jP e,decide_eq_true e,Bool.true_or,Option.isSome_some]
  ·rw[jQ e,decide_eq_false e,Bool.false_or];exact oB k r
theorem fL(kvs:List (κ×V))(k:κ)(v:V):(putK kvs k v).length<=kvs.length+1:=by
 unfold putK
 split
 ·rw[List.length_map];omega
 ·rw[List.length_append,List.length_cons,List.length_nil];omega
theorem gW.iW{o:Option V}{u:Option Value}(r:gW o u):o.isSome=u.isSome:=by
 cases o with
 | none=>cases u with
  | none=>rfl
  | some _=>exact (show False from r).elim
 | some _=>cases u with
  | none=>exact (show False from r).elim
  | some _=>rfl
theorem KV.val{kvs:List (κ×V)}{vs:List (κ×Value)}(r:KV kvs vs)(k:κ):gW (cH kvs k) (valueAt vs k):=by
 unfold KV at r
 induction r with
 | nil=>exact True.intro
 | @cons p q ps qs h t ih =>
  obtain⟨h1,h2⟩:=h
  by_cases e:p.1=k
  ·have e':q.1=k:=h1.symm.trans e
   have b:valueAt (q::qs) k=some q.2:=by simp[valueAt,List.find?_cons,e']
   rw[jP e,b];exact h2
  ·have e':¬ q.1=k:=fun z=>e (h1.trans z)
   have b:valueAt (q::qs) k=valueAt qs k:=by simp[valueAt,List.find?_cons,e']
   rw[jQ e,b];exact ih
theorem KV.any{kvs:List (κ×V)}{vs:List (κ×Value)}(r:KV kvs vs)(k:κ):(kvs.any fun kv=>decide (kv.1=k))=vs.any fun kv=>decide (kv.1=k):=by
 unfold KV at r
 induction r with
 | nil=>rfl
 | cons h t ih=>rw[List.any_cons,List.any_cons,ih,h.1]
theorem KV.repl{kvs:List (κ×V)}{vs:List (κ×Value)}(r:KV kvs vs)(k:κ){y:V}{u:Value}(ry:RelV y u) :
  KV (kvs.map fun kv=>if kv.1=k then (kv.1,y) else kv) (vs.map fun kv=>if kv.1=k then (kv.1,u) else kv):=by
 unfold KV at r ⊢
 induction r with
 | nil=>exact .nil
 | @cons p q ps qs h t ih =>
  rw[List.map_cons,List.map_cons]
  refine .cons ?_ ih
  obtain⟨h1,h2⟩:=h
  by_cases e:p.1=k
  ·rw[if_pos e,if_pos (h1.symm.trans e)];exact⟨h1,ry⟩
  ·rw[if_neg e,if_neg (fun z=>e (h1.trans z))];exact⟨h1,h2⟩
theorem KV.put{kvs:List (κ×V)}{vs:List (κ×Value)}(r:KV kvs vs)(k:κ){y:V}{u:Value}(ry:RelV y u):KV (putK kvs k y) (stored vs k u):=by
 unfold putK stored
 rw[r.any k]
 by_cases e:(vs.any fun kv=>decide (kv.1=k))=true
 ·rw[if_pos e,if_pos e];exact r.repl k ry
 ·rw[if_neg e,if_neg e];exact Paired.snoc r ⟨rfl,ry⟩
theorem KV.length{kvs:List (κ×V)}{vs:List (κ×Value)}(r:KV kvs vs):kvs.length=vs.length:=Paired.length r
end
theorem l9{P:Program}{w:World}{k:Key}{u:Value}(r:RelV (kV k) u):(aI P w).is k u=true:=by
 cases k with
 | inl i=>obtain⟨t,e⟩:=(show ∃t,u=Value.int i t from r);subst e;exact pI P w i t
 | inr x=>obtain⟨t,e⟩:=(show ∃t,u=Value.str x t from r);subst e;exact pH P w x t
theorem mh{P:Program}{w:World}:∀{ks:List Key} {us:List Value},Vals (ks.map kV) us->ItemsAre (aI P w) ks us
 | [],_,r=>by rw[List.map_nil] at r;cases r;exact .nil
 | k::ks,_,r=>by
  rw[List.map_cons] at r
  cases r with
  | cons h t=>exact .cons (l9 h) (mh t)
noncomputable abbrev KT(H:Hp):List (List Key×V)->List (List Key×Addr×Value)->Prop:=Paired fun p q=>p.1=q.1/\H q.2.1=some (.tup (p.1.map kV))/\RelV p.2 q.2.2
theorem KT.val{H:Hp}{kvs:List (List Key×V)}{xs:List (List Key×Addr×Value)}(r:KT H kvs xs)(k:List Key):gW (cH kvs k) ((atKey xs k).map (·.2)):=by
 induction r with
 | nil=>exact True.intro
 | @cons p q ps qs h t ih =>
  obtain⟨h1,_,h2⟩:=h
  by_cases e:p.1=k
  ·have e':q.1=k:=h1.symm.trans e
   have b:atKey (q::qs) k=some q.2:=by simp[atKey,List.find?_cons,e']
   rw[jP e,b];exact h2
  ·have e':¬ q.1=k:=fun z=>e (h1.trans z)
   have b:atKey (q::qs) k=atKey qs k:=by simp[atKey,List.find?_cons,e']
   rw[jQ e,b];exact ih
theorem KT.repl{H:Hp}{kvs:List (List Key×V)}{xs:List (List Key×Addr×Value)}(r:KT H kvs xs)(k:List Key){y:V}{u:Value}(ry:RelV y u) :
  KT H (kvs.map fun kv=>if kv.1=k then (kv.1,y) else kv) (xs.map (putAt k u)):=by
 induction r with
 | nil=>exact .nil
 | @cons p q ps qs h t ih =>
  rw[List.map_cons,List.map_cons]
  refine .cons ?_ ih
  obtain⟨h1,h2,h3⟩:=h
  unfold putAt
  by_cases e:p.1=k
  ·rw[if_pos e,if_pos (h1.symm.trans e)];exact⟨h1,h2,ry⟩
  ·rw[if_neg e,if_neg (fun z=>e (h1.trans z))];exact⟨h1,h2,h3⟩
theorem KT.put{H:Hp}{kvs:List (List Key×V)}{xs:List (List Key×Addr×Value)}(r:KT H kvs xs)(k:List Key){b:Addr}{y:V}{u:Value}(hb:H b=some (.tup (k.map kV)))(ry:RelV y u) :
  KT H (putK kvs k y) (storedH xs k b u):=by
 have e:(kvs.any fun kv=>decide (kv.1=k))=(atKey xs k).isSome:=by
  rw[oB,(r.val k).iW,Option.isSome_map]
 unfold putK storedH
 rw[e]
 by_cases q:(atKey xs k).isSome=true
 ·rw[if_pos q,if_pos q];exact r.repl k ry
 ·rw[if_neg q,if_neg q];exact Paired.snoc r ⟨rfl,hb,ry⟩
theorem KT.keeps{H H':Hp}{kvs:List (List Key×V)}{xs:List (List Key×Addr×Value)}(r:KT H kvs xs)(ht:∀b ys,H b=some (.tup ys)->H' b=some (.tup ys)):KT H' kvs xs :=
 Paired.Ho r fun _ _ z=>⟨z.1,ht _ _ z.2.1,z.2.2⟩
section
variable{P:Program}{w:World}{H:Hp}{h:Heap}{a:Addr}
theorem El{u:HO}(ok:gr P w H h)(e:Rd H a u):aS P w H h a u:=e.ok ok
theorem Fl{kvs:List (Key×V)}(ok:gr P w H h)(e:Rd H a (.dK kvs)):kvs.length<=sizeLine/\(a == sysModules)=false/\∃vs,KV kvs vs/\h.DictOf (aI P w) a vs :=
 show aS P w H h a (.dK kvs) from El ok e
theorem Ml{kvs:List (Key×V)}(ok:gr P w H h)(e:H a=some (.dK kvs)):kvs.length<=sizeLine/\(a == sysModules)=false/\∃vs,KV kvs vs/\h.DictOf (aI P w) a vs:=Fl ok (.inl e)
theorem y9{ks:List Key}(ok:gr P w H h)(e:H a=some (.tup (ks.map kV))):(tupleKind (aI P w)).is h ks a:=by
 obtain⟨_,its,r,o,h1,h2,n,h3⟩:=(show aS P w H h a (.tup (ks.map kV)) from ok a _ e)
 exact⟨o,its.toArray,n,h1,h2,h3,by simpa using mh r⟩
theorem Mh{kvs:List (List Key×V)}(ok:gr P w H h)(e:Rd H a (.dT kvs)):kvs.length<=sizeLine/\(a == sysModules)=false /\
  ∃xs,KT H kvs xs/\h.DictOfH (tupleKind (aI P w)) a xs:=by
 obtain⟨z,y,xs,r,o,es,ep,h1,h2,h3,h4,h5⟩:=(show aS P w H h a (.dT kvs) from El ok e)
 refine⟨z,y,xs,r,o,es,ep,h1,h2,h3,h4,fun x hx=>?_,h5⟩
 have all:∀{l:List (List Key×V)} {m:List (List Key×Addr×Value)},KT H l m->∀x∈m,(tupleKind (aI P w)).is h x.1 x.2.1:=by
  intro l m q
  induction q with
  | nil=>intro x hx;exact nomatch hx
  | @cons p q ps qs hq t ih =>
   intro x hx
   rcases List.mem_cons.mp hx with e | hx
   ·subst e
    exact y9 ok (by rw[<- hq.1];exact hq.2.1)
   ·exact ih x hx
 exact all r x hx
theorem Mi{kvs:List (List Key×V)}(ok:gr P w H h)(e:H a=some (.dT kvs)):kvs.length<=sizeLine/\(a == sysModules)=false /\
  ∃xs,KT H kvs xs/\h.DictOfH (tupleKind (aI P w)) a xs:=Mh ok (.inl e)
end
noncomputable def DX(H:Hp)(a:Addr)(y:V)(r:Option V):Prop :=
 (∃kvs k,Rd H a (.dK kvs)/\y=kV k/\r=cH kvs k)\/∃kvs k b,Rd H a (.dT kvs)/\y=.ref b/\H b=some (.tup (k.map kV))/\r=cH kvs k
noncomputable def sH(H:Hp)(a:Addr)(y v:V)(H':Hp):Prop :=
 (∃kvs k,H a=some (.dK kvs)/\y=kV k/\kvs.length<sizeLine/\H'=upd H a (.dK (putK kvs k v))) \/
 ∃kvs k b,H a=some (.dT kvs)/\y=.ref b/\H b=some (.tup (k.map kV))/\kvs.length<sizeLine/\H'=upd H a (.dT (putK kvs k v))
theorem DX.k{H:Hp}{a:Addr}{kvs:List (Key×V)}{k:Key}(e:H a=some (.dK kvs)):DX H a (kV k) (cH kvs k):=.inl ⟨kvs,k,.inl e,rfl,rfl⟩
theorem DX.t{H:Hp}{a b:Addr}{kvs:List (List Key×V)}{k:List Key}(e:H a=some (.dT kvs))(eb:H b=some (.tup (k.map kV))):DX H a (.ref b) (cH kvs k):=.inr ⟨kvs,k,b,.inl e,rfl,eb,rfl⟩
theorem sH.k{H:Hp}{a:Addr}{kvs:List (Key×V)}{k:Key}{v:V}(e:H a=some (.dK kvs))(hl:kvs.length<sizeLine):sH H a (kV k) v (upd H a (.dK (putK kvs k v))):=.inl ⟨kvs,k,e,rfl,hl,rfl⟩
theorem sH.t{H:Hp}{a b:Addr}{kvs:List (List Key×V)}{k:List Key}{v:V}(e:H a=some (.dT kvs))(eb:H b=some (.tup (k.map kV)))(hl:kvs.length<sizeLine) :
  sH H a (.ref b) v (upd H a (.dT (putK kvs k v))):=.inr ⟨kvs,k,b,e,rfl,eb,hl,rfl⟩
section
variable{X:Cx}{pins:List (Addr×Obj)}{σ:St}{H:Hp}{s:Shared}{a:Addr}{y v:V}{u r:Value}{o:Option V}{A:Around}{E:Value->Shared->Prop}
theorem Inv.big(I:Inv X pins σ H s):sysModules<s.heap.objs.size:=by
 have h:mainGlobals<s.heap.objs.size:=(I.mod.glob.keeps I.bk).lt
 exact Nat.lt_trans (by decide) h
theorem uW{h':Heap}{t':Nat}{ob:HO}(I:Inv X pins σ H s)(mu:MK (H a))(hs:Heap.SameBut a s.heap h')(he:∃q,h'.get? a=some q)(new:aS X.prog X.w (upd H a ob) h' a ob) :
  Inv X pins σ (upd H a ob) { s with heap:=h',toks:=t' } :=
 I.write (x:=a) (e:=a) mu (.inl rfl) (fun b q hb z=>(hs.2 b hb).trans z) he new
theorem sr{P:Program}{w:World}{H':Hp}{h':Heap}{kvs:List (Key×V)}{vs:List (Key×Value)}(z:kvs.length<=sizeLine)(hd:(a == sysModules)=false)(rel:KV kvs vs)(dd:h'.DictOf (aI P w) a vs) :
  aS P w H' h' a (.dK kvs):=⟨z,hd,vs,rel,dd⟩
theorem wg{H':Hp}{Q:Unit->Shared->Prop}(hu:A.units+1<cLine)(I:Inv X pins σ H s)(g:sH H a y v H')(ry:RelV y u)(rv:RelV v r)(h:∀s',Inv X pins σ H' s'->Q () s') :
  wpAny (model X.prog X.w) A (setItem (.ref a) u r) Q E s:=by
 rcases g with ⟨kvs,k,e,ey,l,eH⟩ | ⟨kvs,k,b,e,ey,eb,l,eH⟩
 ·subst ey eH
  obtain⟨z,hd,vs,rel,dd⟩:=Ml I.hok e
  have hz:vs.length<=sizeLine:=by rw[<- rel.length];exact z
  have hl:(putK kvs k v).length<=sizeLine:=by have:=fL kvs k v;omega
  refine wpAny_setItem_pairs (hsz:=hz) (l9 ry) dd fun h' A5 hs=>h _ ?_
  have he:∃q,h'.get? a=some q:=let ⟨q,_,_,hq,_⟩:=A5;⟨q,hq⟩
  exact uW I (by rw[e];exact True.intro) hs he (sr hl hd (rel.put k rv) A5)
 ·subst ey eH
  cases (show u=Value.ref b from ry)
  obtain⟨z,hd,xs,rel,dd⟩:=Mi I.hok e
  have hz:xs.length<=sizeLine:=by rw[<- Paired.length rel];exact z
  have hl:(putK kvs k v).length<=sizeLine:=by have:=fL kvs k v;omega
  refine wpAny_setItem_heap (hsz:=hz) (tupleKind_room_in1 hu) (y9 I.hok eb) dd fun h' A5 hs=>h _ ?_
  obtain⟨q,es,ep,hq,h2,h3,h4,_,h5⟩:=A5
  refine uW I (by rw[e];exact True.intro) hs ⟨q,hq⟩ ⟨hl,hd,_,(rel.put k eb rv).keeps fun c ys ec=>?_,q,es,ep,hq,h2,h3,h4,h5⟩
  rw[ak (Le ec e (fun z=>nomatch z))]
  exact ec
end
section
variable{X:Cx}{pins:List (Addr×Obj)}{σ:St}{H:Hp}{s:Shared}{a:Addr}{kvs:List (Key×V)}{k:Key}{u:Value}{A:Around}{E:Value->Shared->Prop}
end
section
variable{X:Cx}{o i e value:Expr}{pos pos' tpos:Pos}{td ty tv:TE}
end
section
variable{X:Cx}{pos:Pos}
end
noncomputable abbrev VV:List (V×V)->List (Value×Value)->Prop:=Paired fun p q=>RelV p.1 q.1/\RelV p.2 q.2
noncomputable def cS(kvs more:List (Key×V)):List (Key×V):=more.foldl (fun acc kv=>putK acc kv.1 kv.2) kvs
theorem KV.merge:∀{more:List (Key×V)} {rs:List (Key×Value)} {kvs:List (Key×V)} {vs:List (Key×Value)},KV more rs->KV kvs vs->KV (cS kvs more) (merged vs rs):=by
 intro more rs kvs vs r
 unfold KV at r
 induction r generalizing kvs vs with
 | nil=>intro q;exact q
 | @cons p q ps qs h t ih =>
  intro r0
  have e:KV (putK kvs p.1 p.2) (stored vs q.1 q.2):=by
   have:=r0.put p.1 h.2
   rw[<- h.1];exact this
  exact ih e
theorem gA:∀(more kvs:List (Key×V)),(cS kvs more).length<=kvs.length+more.length
 | [],kvs=>by show kvs.length<=kvs.length+0;omega
 | p::r,kvs=>by
  have h1:=gA r (putK kvs p.1 p.2)
  have h2:=fL kvs p.1 p.2
  show (cS (putK kvs p.1 p.2) r).length<=_
  rw[List.length_cons];omega
structure M1(X:Cx)(o:Expr)(m:Str)(apos:Pos)(e:Expr)(cpos:Pos):Prop where
 base:attributeBase o m X.env (eval o X.env)=eval o X.env
 few:((backTo cpos (starEach [e] X.env)).all (fun x=>!x.1)&&(backToKw cpos (keywordEach [] X.env)).all (fun x=>x.1.isSome)
 &&decide (([e]:List Expr).length+([]:List Keyword).length+(if ([]:List Keyword).isEmpty then 0 else 1)<30))=true
 line:(apos.endLine == cpos.line)=true
 trees:backTo cpos (starEach [e] X.env)=[(false,eval e X.env)]
structure M2(X:Cx)(o:Expr)(m:Str)(apos:Pos)(e f:Expr)(cpos:Pos):Prop where
 base:attributeBase o m X.env (eval o X.env)=eval o X.env
 few:((backTo cpos (starEach [e,f] X.env)).all (fun x=>!x.1)&&(backToKw cpos (keywordEach [] X.env)).all (fun x=>x.1.isSome)
 &&decide (([e,f]:List Expr).length+([]:List Keyword).length+(if ([]:List Keyword).isEmpty then 0 else 1)<30))=true
 line:(apos.endLine == cpos.line)=true
 trees:backTo cpos (starEach [e,f] X.env)=[(false,eval e X.env),(false,eval f X.env)]
section
variable{X:Cx}{pins:List (Addr×Obj)}{σ:St}{H:Hp}{s:Shared}{a:Addr}{y d:V}{u r:Value}{o:Option V}{A:Around}{E:Value->Shared->Prop}
end
section
variable{X:Cx}{o e f:Expr}{apos cpos:Pos}{td ty tx:TE}
end
section
variable{X:Cx}{pins:List (Addr×Obj)}{σ:St}{H:Hp}{s:Shared}{a:Addr}{kvs:List (Key×V)}{A:Around}{E:Value->Shared->Prop}
end
section
variable{X:Cx}{pins:List (Addr×Obj)}{σ:St}{H:Hp}{s:Shared}{a:Addr}{y:V}{u:Value}{A:Around}{E:Value->Shared->Prop}
end
end L2
namespace Att
open PySem PySem.W PySem.Calls PyProof.Rows
theorem jz{P:Params}{h:Heap}:∀(ns:List Int) (vs:List Value),WellAll P h vs (ns.map WData.int)->IntsAre vs ns:=by
 intro ns
 induction ns with
 | nil =>
  intro vs w
  rw[List.map_nil] at w
  cases w
  exact .nil
 | cons n ns ih =>
  intro vs w
  rw[List.map_cons] at w
  cases w with
  | cons a b =>
   cases a
   exact .cons _ _ (ih _ b)
theorem vE{l:OpenLaw}{n:Nat}(hn:l.most=some n){P:Params}{h:Heap}{args:List WData}{vals:List Value}
  (hpre:l.row.toRowW.claim.pre args=true) (hwl:WellAll P h vals args) :
  ∃a vs ns, vals=[Value.ref a]/\args=[WData.list (ns.map WData.int)]/\h.get? a=some { cls:=.type "list", data:=.seq vs.toArray }/\IntsAre vs ns/\ns.length<=n:=by
 have hsh:WShape.hasAll [] args [.list .int]=true:=(pre_splitW hpre).1
 have hc:l.pre.holds [] { args:=args }=true:=(pre_splitW hpre).2
 obtain⟨d,r,rfl,h1,h2⟩:=hasAllW_cons hsh
 obtain rfl:=hasAllW_nil h2
 obtain⟨xs,rfl,h3⟩:=hasW_list h1
 obtain⟨ns,rfl⟩:=items_int h3
 have hlen:ns.length<=n:=by
  unfold OpenLaw.pre at hc
  have h4:(WTm.not (.lt (.lit (.int (n:Int))) (.len (.arg 0)))).holds [] { args:=[.list (ns.map .int)] }=true:=by
   have h4:=(holds_andW hc).1
   rw[hn] at h4
   exact h4
  have h5:=condW_of h4 (w_not (w_lt w_lit (w_len_list (w_arg rfl))))
  rw[List.length_map] at h5
  refine Nat.le_of_not_lt fun q=>?_
  have q':(n:Int)<((ns.length:Nat):Int):=by omega
  first
   | (rw[decide_eq_true q'] at h5;exact absurd h5 (by decide))
   | (simp at h5;omega)
 cases hwl with
 | cons w1 w2 =>
  cases w2
  cases w1 with
  | list ho hall=>exact⟨_,_,ns,rfl,rfl,ho,jz ns _ hall,hlen⟩
theorem vI(l:OpenLaw)(args:List WData):l.row.toRowW.claim.post args (.bool true) args=true :=
 postW_of (r:=l.row.toRowW) (X:=(true == true))
  (show WShape.has [] (.bool true) .bool=true by first | rfl | decide | simp[WShape.has,WShape.arms,WShape.armsAll])
  (show (WTm.eq .res (.lit (.bool true))).value [] { args:=args,res:=some (.bool true),after:=args }=some (.bool (true == true)) from w_eq_bool (w_res rfl) w_lit) rfl
theorem qi{l:OpenLaw}{n:Nat}{q:Program}{loose:List Str}{XP:(Str->Option Value)->Heap->Prop}{YP:World->Heap->Prop}{d:DefRec}
  (hn:l.most=some n) (hdf:d.params.defaults=[])
  (call:∀(w:World) (s₀ s₁:Shared) (mg mb:Str->Option Value) (fa:Addr) (o:Obj) (pm cd doc:Value) (a:Addr) (vs:List Value) (ns:List Int),
   Ground q loose [] XP w s₀ mg mb s₁.heap->YP w s₁.heap ->
   s₁.heap.get? fa=some o->o.data=.func (docDef d.name d.params d.body d.scope pm cd doc)->s₁.heap.CodeRec cd d.name->mg d.name=some (.ref fa) ->
   s₁.heap.get? a=some { cls:=.type "list", data:=.seq vs.toArray }->IntsAre vs ns->ns.length<=n->s₁.gens=#[] ->
   codeAny (model l.prog w) callerA (.call (.ref fa) ⟨[.ref a],[]⟩) (fun r s'=>r=.ok (.ret (.bool true))/\OldK s₁.heap s'.heap/\s'.os=s₁.os/\AllBare s'.gens) s₁) :
  WalkO q loose XP YP l.row.toRowW d [] (fun f vs=>PySem.call f vs):=by
 intro w s₀ s₁ mg mb G Y fa o pm cd doc dV kV ho hd hcd hD hmg hg args vals as hpre hlay hrd hwl hlo
 obtain rfl:dV=.none:=Dflts.none hD hdf
 obtain rfl:kV=.none:=Dflts.noKw hD
 obtain⟨a,vs,ns,rfl,rfl,hobj,hints,hlen⟩:=vE hn hpre hwl
 refine enter_call (codeAny_mono (call w s₀ s₁ mg mb fa o pm cd doc a vs ns G Y ho (fd_plain hd) hcd hmg hobj hints hlen hg) fun r s' hq=>?_)
 obtain⟨rfl,h2,h3,h4⟩:=hq
 exact⟨.inl ⟨.bool true,.bool true,[],rfl,fun _=>rfl,.bool true,vI l _,fun _=>⟨List.Pairwise.nil,fun _ hm=>(nomatch hm)⟩⟩,h2,h3,h4⟩
section
variable{prog:Program}{w:World}{A:Around}{E:Value->Shared->Prop}{s:Shared}{K:Frag}
end
end Att
namespace L2
open PySem PySem.Spec PyProof.Rows
theorem lD:∀{vs:List Value} {ns:List Int},IntsAre vs ns->Vals (ns.map V.int) vs
 | _,_,.nil=>.nil
 | _,_,.cons n t h=>.cons ⟨t,rfl⟩ (lD h)
noncomputable def MJ(H:Hp):Prop:=∀b,H b=none\/∃o xs,H b=some (.dP o (.lst xs))
theorem yY{P:Program}{w:World}{K:PySem.W.Frag}{mg mb:Str->Option Value}{CX:AU}{k:Nat}{fa a:Addr}{fd:FuncData}{x:Str}{sp:Sp}{s₁:Shared}{vs:List Value}{ns:List Int}
  (KX:K.In s₁.heap) (hns:s₁.heap.Ns mainGlobals mg) (hb:s₁.heap.Ns builtinsNs mb) (hbb:∀x:Str, x≠"__name__"->mb x=bootBuiltins x) (hlim:s₁.heap.NoLimit) (hg:s₁.gens=#[])
  (ha:s₁.heap.get? a=some { cls:=.type "list", data:=.seq vs.toArray }) (hi:IntsAre vs ns) (hl:ns.length<=sizeLine) (hr:bR true k callerA)
  (F:∀base:Heap,K.In base->base.Ns mainGlobals mg->bu true P w K mg base CX k fa fd [x] sp) (hbind:∀(s:Shared) (u:Value),BindsTo s fd ⟨[u],[]⟩ [(x,u)])
  (JG:∀H:Hp,MJ H->fu K H a (ns.map V.int)->sp [.ref a] H (fun v _=>v=.bl true) fun _ _ _=>False)
  (hCX:∀H e s',CX [] H s₁ (fun _ _ _=>False) e s'->False) :
  codeAny (model P w) callerA (.call (.ref fa) ⟨[.ref a],[]⟩) (fun r s'=>r=.ok (.ret (.bool true))/\OldK s₁.heap s'.heap/\s'.os=s₁.os/\AllBare s'.gens) s₁:=by
 have rv:=lD hi
 have lenV:=hi.length
 have core:∀H:Hp,MJ H->fu K H a (ns.map V.int)->gr P w H s₁.heap->(∀b,H b≠none->b=a)->(H a≠none->K.lookup a=none) ->
   codeAny (model P w) callerA (.call (.ref fa) ⟨[.ref a],[]⟩) (fun r s'=>r=.ok (.ret (.bool true))/\OldK s₁.heap s'.heap/\s'.os=s₁.os/\AllBare s'.gens) s₁:=by
  intro H hO hS hok hA hK
  have jO:∀{b:Addr} {o:Obj},s₁.heap.get? b=some o->H b=none->(nB s₁.heap H).get? b=some o:=fun e n=>zE e n
  have Lc:∀{b:Addr} {o:Obj} {es:Array DictEntry} {ep:Nat},s₁.heap.get? b=some o->o.data=.dict es ep->H b=none:=fun {b o es ep} e d=>by
   cases q:H b with
   | none=>rfl
   | some u =>
    have e':b=a:=hA b (by rw[q];simp)
    subst e'
    rw[ha] at e;cases e
    have d':Data.seq vs.toArray _=Data.dict es ep:=d
    cases d'
  have Nh:∀{b:Addr} {m:Str->Option Value},s₁.heap.Ns b m->(nB s₁.heap H).Ns b m:=fun {b m} ⟨o,es,ep,e,d,r⟩=>⟨o,es,ep,jO e (Lc e d),d,r⟩
  have hKb:K.In (nB s₁.heap H):=fun b o e=>jO (KX b o e) (by
   cases q:H b with
   | none=>rfl
   | some u =>
    have e':b=a:=hA b (by rw[q];simp)
    subst e'
    rw[hK (by rw[q];simp)] at e;cases e)
  have hM:Mod K mg (nB s₁.heap H):=⟨hKb,Nh hns,⟨mb,Nh hb,hbb⟩,let ⟨mc,h1,h2⟩:=hlim;⟨mc,Nh h1,h2⟩⟩
  have e0:lA P w K mg (nB s₁.heap H) callerA [] s₁ H:=⟨rfl,hM,fun b o e=>CB e,Nat.le_of_eq (v7 _ _),trivial,fun b hb=>absurd (show b∈([]:List Addr) from hb) (by simp),hok,.of_eq hg⟩
  refine codeAny_mono ((F _ hKb (Nh hns)).run callerA [] s₁ H ⟨[.ref a],[]⟩ [.ref a] [.ref a] _ _ hr (fun z=>nomatch z) e0 (hbind s₁ (.ref a)) (.cons rfl .nil) (JG H hO hS)) fun r s' h=>?_
  cases r with
  | error e=>exact (hCX H e s' h).elim
  | ok fl =>
   cases fl with
   | next=>exact False.elim h
   | brk=>exact False.elim h
   | cont=>exact False.elim h
   | ret u =>
    obtain⟨v,H',os,bare,un,hok',r',q⟩:=h
    have q':v=.bl true:=q
    subst q'
    obtain rfl:u=Value.bool true:=r'
    refine⟨rfl,OldK.of_keep fun b o e=>?_,os,bare⟩
    cases q:H b with
    | none=>exact un.keep b o e q (by intro z;exact absurd (show b∈([]:List Addr) from z) (by simp)) (by simp)
    | some u =>
     rcases hO b with z | ⟨ob,xs,z⟩
     ·rw[q] at z;cases z
     ·have z2:=un.dF b ob _ z
      obtain⟨e1,_⟩:=hok b _ z
      obtain⟨e2,_⟩:=hok' b _ z2
      rw[e] at e1;cases e1
      exact e2
 cases hk:K.lookup a with
 | some o =>
  have e:=KX a o hk
  rw[ha] at e
  cases e
  refine core (fun _=>none) (fun _=>.inl rfl) (.inr ⟨_,vs.toArray,_,hk,rfl,rfl,rfl,by rw[List.size_toArray,lenV];exact hl,by simpa using rv⟩) (fun b u z=>by have z':(none:Option HO)=some u:=z;cases z') (fun b z=>absurd rfl z) fun z=>absurd rfl z
 | none =>
  refine core (fun b=>if b=a then some (.dP { cls:=.type "list", data:=.seq vs.toArray } (.lst (ns.map V.int))) else none) (fun b=>?_) (.inl (.inr ⟨{ cls:=.type "list", data:=.seq vs.toArray }, if_pos rfl⟩)) (fun b u z=>?_) (fun b z=>?_) fun _=>hk
  ·by_cases hb:b=a
   ·exact .inr ⟨_,_,if_pos hb⟩
   ·exact .inl (if_neg hb)
  ·by_cases hb:b=a
   ·have z':=(if_pos hb).symm.trans z
    cases z'
    subst hb
    exact⟨ha,by rw[List.length_map];exact hl,vs,_,rv,ha⟩
   ·have z':=(if_neg hb).symm.trans z
    cases z'
  ·by_cases hb:b=a
   ·exact hb
   ·exact absurd (if_neg hb) z
noncomputable abbrev CX0:AU:=fun _ _ _ _ _ _=>False
structure Fun(K:PySem.W.Frag)(x qual:Str)(st:Stmt)(f:Addr)(fd:FuncData):Prop where
 ex:∃(oc:Value) (od:Option Addr) (kV doc pm:Value) (an:Option Addr) (cdv ct:Value) (osl:Array (Option Value)),
  fd=PySem.W.fnOf x qual (iF st) (bZ st) (aC st) .none kV doc pm an cdv ct/\K.lookup f=some ⟨oc,od,.func fd,osl⟩/\PySem.W.codeIn K cdv qual=true
 kp:PySem.W.keepIn K (.ref f)=true
section
variable{P:Program}{w:World}{K:PySem.W.Frag}{mg:Str->Option Value}{base:Heap}
theorem Fun.ok{x qual:Str}{st:Stmt}{f:Addr}{fd:FuncData}{N ps:List Str}{k:Nat}{sp:Sp}(F:Fun K x qual st f fd)(S:dh N ps (aC st))(len:∀vs H Q E,sp vs H Q E->vs.length=ps.length)
  (hbody:∀(cdv:Value) (A:Around) (outer:List Env) (s:Shared) (H:Hp) (vs:List V) (Q:VK) (E:XK),bR cm k (A.deeper (envOfC qual (aC st) s.heap.objs.size f cdv))->(cm=false->HX A H)->sp vs H Q E ->
   ∃t,je (iG CX0 P w K mg base N qual (aC st) f cdv A outer s H E).EE (bZ st) t/\t { nx:=fun _ H'=>Q .aq H',rt:=Q } (start N vs) H):bu cm P w K mg base CX0 (k+1) f fd ps sp:=by
 obtain⟨oc,od,kV,doc,pm,an,cdv,ct,osl,rfl,lk,hcd⟩:=F.ex
 refine EZ lk hcd S len fun A outer s H vs Q E hr hx JG=>?_
 obtain⟨t,h,q⟩:=hbody cdv A outer s H vs Q E hr hx JG
 exact⟨t,h.EE,q⟩
end
section
variable{X:Cx}
end
noncomputable def wK(H H':Hp):Prop:=∀b o,H b=some o->H' b=some o
theorem wK.trans{H H1 H2:Hp}(a:wK H H1)(b:wK H1 H2):wK H H2:=fun c o h=>b c o (a c o h)
theorem wK.free{H H':Hp}(e:wK H H'){l:Addr}(h:H' l=Option.none):H l=Option.none:=by
 cases q:H l with
 | none=>rfl
 | some o =>
  rw[e l o q] at h
  cases h
section
variable{κ:Type}[DecidableEq κ]
end
end L2
end
section
namespace Fg
open PySem
section
variable{Φ:aZ}{σ:Sg}{M:MH}
@[simp] theorem lg{i:Nat}:ev Φ (.v i) σ M=match σ[i]? with | some (some d)=>.ok d M | _=>.bad:=rfl
@[simp] theorem kD{d:D}:ev Φ (.k d) σ M=.ok d M:=rfl
@[simp] theorem LQ{i:Nat}:ev Φ (.g i) σ M=match Φ.glob i with | some d=>.ok d M | none=>.bad:=rfl
@[simp] theorem nQ{es:Es}:ev Φ (.tup es) σ M=(cz Φ es σ M).bind fun ds M1=>.ok (.tup ds) M1:=rfl
@[simp] theorem z9{fz:Bool}{es:Es}:ev Φ (.lst fz es) σ M=(cz Φ es σ M).bind fun ds M1=>bW fz ds M1:=rfl
@[simp] theorem NX:ev Φ .Jd σ M=.ok (.ref M.length) (M++[.dct []]):=rfl
@[simp] theorem gD{o:DR}{fz:Bool}{a b:E}:ev Φ (.op o fz a b) σ M=(ev Φ a σ M).bind fun x M1=>(ev Φ b σ M1).bind fun y M2=>om o fz M2 x y:=rfl
@[simp] theorem ev_neg{a:E}:ev Φ (.neg a) σ M=(ev Φ a σ M).bind fun x M1=>match x with | .int i=>.ok (.int (-i)) M1 | _=>.bad:=rfl
@[simp] theorem cE{o:AS}{a b:E}:ev Φ (.cmp o a b) σ M=(ev Φ a σ M).bind fun x M1=>(ev Φ b σ M1).bind fun y M2=>bF o M2 x y:=rfl
@[simp] theorem LS{o o':AS}{a b c:E}:ev Φ (.chain o o' a b c) σ M=(ev Φ a σ M).bind fun x M1=>(ev Φ b σ M1).bind fun y M2=>(bF o M2 x y).bind fun t M3=>match t with
  | .bl true=>(ev Φ c σ M3).bind fun z M4=>bF o' M4 y z
  | .bl false=>.ok (.bl false) M3
  | _=>.bad:=rfl
@[simp] theorem r9{a b:E}:ev Φ (.and a b) σ M=(ev Φ a σ M).bind fun x M1=>match x with | .bl true=>(ev Φ b σ M1) | .bl false=>.ok (.bl false) M1 | _=>.bad:=rfl
@[simp] theorem ev_or{a b:E}:ev Φ (.or a b) σ M=(ev Φ a σ M).bind fun x M1=>match x with | .bl true=>.ok (.bl true) M1 | .bl false=>(ev Φ b σ M1) | _=>.bad:=rfl
@[simp] theorem ev_not{a:E}:ev Φ (.not a) σ M=(ev Φ a σ M).bind fun x M1=>match x with | .bl b=>.ok (.bl (!b)) M1 | _=>.bad:=rfl
@[simp] theorem Aa{c a b:E}:ev Φ (.CW c a b) σ M=(ev Φ c σ M).bind fun x M1=>match x with | .bl true=>ev Φ a σ M1 | .bl false=>ev Φ b σ M1 | _=>.bad:=rfl
@[simp] theorem r6{a b:E}:ev Φ (.idx a b) σ M=(ev Φ a σ M).bind fun x M1=>(ev Φ b σ M1).bind fun y M2=>pN M2 x y:=rfl
@[simp] theorem LP{fz:Bool}{a:E}{lo hi:O}:ev Φ (.sl fz a lo hi) σ M=(ev Φ a σ M).bind fun x M1=>(De Φ lo σ M1).bind fun l M2=>(De Φ hi σ M2).bind fun h M3=>sl2 fz M3 x l h:=rfl
@[simp] theorem bY{f:Nat}{es:Es}:ev Φ (.call f es) σ M=(cz Φ es σ M).bind fun ds M1=>Φ.call f ds M1:=rfl
@[simp] theorem ev_isi{a:E}{t:Ty}:ev Φ (.CV a t) σ M=(ev Φ a σ M).bind fun x M1=>if wM M1 x then .ok (.bl (Io M1 t x)) M1 else .bad:=rfl
@[simp] theorem ev_blt{b:Bl}{fz:Bool}{es:Es}:ev Φ (.blt b fz es) σ M=(cz Φ es σ M).bind fun ds M1=>DK b fz M1 ds:=rfl
@[simp] theorem i7{m:Mt}{fz:Bool}{a:E}{es:Es}:ev Φ (.eU m fz a es) σ M=(ev Φ a σ M).bind fun x M1=>if nj m M1 x then (cz Φ es σ M1).bind fun ds M2=>gM m fz M2 x ds else .bad:=rfl
@[simp] theorem uF{fz:Bool}{caps tg:List Nat}{elt:E}{it:Src}{cond:O}:ev Φ (.comp fz caps tg elt it cond) σ M=(bA Φ it σ M).bind fun p M1 =>
   ((bU (qw Φ cond) (ev Φ elt) tg (aO M1 p.1) p.2.1 (nW σ caps++List.replicate tg.length none) M1 []).fin (fE p.2.2 p.1)).bind fun ds M2=>bW fz ds M2:=rfl
@[simp] theorem i8{a:E}{f:Str}:ev Φ (.fld a f) σ M=(ev Φ a σ M).bind fun x M1=>match x with
  | .ref n=>match M1[n]? with
   | some (.ins _ fs)=>match fs.lookup f with
    | some d=>.ok d M1
    | none=>.bad
   | _=>.bad
  | _=>.bad:=rfl
@[simp] theorem IL{c m:Nat}{nm:Str}{a:E}{es:Es}:ev Φ (.cZ c m nm a es) σ M=(ev Φ a σ M).bind fun x M1=>match x with
  | .ref n=>match M1[n]? with
   | some (.ins c' fs)=>if decide (c'=c)&&(fs.lookup nm).isNone then (cz Φ es σ M1).bind fun ds M2=>Φ.call m (.ref n::ds) M2 else .bad
   | _=>.bad
  | _=>.bad:=rfl
@[simp] theorem IM{c i:Nat}{es:Es}:ev Φ (.new c i es) σ M=(cz Φ es σ M).bind fun ds M1=>(Φ.ini i (.ref M1.length::ds) (M1++[.ins c []])).bind fun r M2=>match r with
  | .aq=>.ok (.ref M1.length) M2
  | _=>.bad:=rfl
@[simp] theorem E2{hi:Bool}{a b:E}:ev Φ (.mx hi a b) σ M=(ev Φ a σ M).bind fun x M1=>(ev Φ b σ M1).bind fun y M2=>match x,y with
  | .int i,.int j=>.ok (.int (if hi then (if j > i then j else i) else (if j<i then j else i))) M2
  | _,_=>.bad:=rfl
@[simp] theorem ev_lrg{fz:Bool}{a b:E}:ev Φ (.Nj fz a b) σ M=(ev Φ a σ M).bind fun x M1=>(ev Φ b σ M1).bind fun y M2=>match x,y with
  | .int i,.int j=>if gg i&&(gg j&&decide ((j-i).toNat<=line)) then bW fz (jW i j) M2 else .bad
  | _,_=>.bad:=rfl
@[simp] theorem Ab{f:F1}{a:E}:ev Φ (.qu f a) σ M=(ev Φ a σ M).bind fun x M1=>match v9 f x with
  | some d=>.ok d M1
  | none=>.bad:=rfl
@[simp] theorem ev_lr1{fz:Bool}{a:E}:ev Φ (.Nk fz a) σ M=(ev Φ a σ M).bind fun x M1=>match x with
  | .int j=>if gg j then bW fz (jW 0 j) M1 else .bad
  | _=>.bad:=rfl
@[simp] theorem ev_rv{fz:Bool}{a:E}:ev Φ (.rv fz a) σ M=(ev Φ a σ M).bind fun x M1=>match vw M1 x with
  | .lst ds=>bW fz ds.reverse M1
  | _=>.bad:=rfl
@[simp] theorem NY{a:E}:ev Φ (.all1 a) σ M=(ev Φ a σ M).bind fun x M1=>match vw M1 x with
  | .lst ds=>match boolsOf ds with
   | some bs=>.ok (.bl (bs.all id)) M1
   | none=>.bad
  | _=>.bad:=rfl
@[simp] theorem fZ:cz Φ .nil σ M=.ok [] M:=rfl
@[simp] theorem aJ{e:E}{es:Es}:cz Φ (.cons e es) σ M=(ev Φ e σ M).bind fun x M1=>(cz Φ es σ M1).bind fun xs M2=>.ok (x::xs) M2:=rfl
@[simp] theorem zV:De Φ .none σ M=.ok none M:=rfl
@[simp] theorem zU{e:E}:De Φ (.some e) σ M=(ev Φ e σ M).bind fun x M1=>match x with | .int i=>.ok (some i) M1 | _=>.bad:=rfl
@[simp] theorem zZ:qw Φ .none σ M=.ok (.bl true) M:=rfl
@[simp] theorem LO{e:E}:qw Φ (.some e) σ M=ev Φ e σ M:=rfl
@[simp] theorem zY{a:E}:bA Φ (.e a) σ M=(ev Φ a σ M).bind fun x M1=>match itemsOf M1 x with | some ds=>.ok (x,ds,wk M1 x) (walk M1 x) | none=>.bad:=rfl
@[simp] theorem NW{a:E}:bA Φ (.AZ a) σ M=(ev Φ a σ M).bind fun x M1=>match x with | .lst ds=>.ok (.aq,ds,false) M1 | _=>.bad:=rfl
@[simp] theorem NV{a:E}:bA Φ (.Ek a) σ M=(ev Φ a σ M).bind fun x M1=>match x with
  | .int j=>if gg j then .ok (.aq,jW 0 j,false) M1 else .bad
  | _=>.bad:=rfl
@[simp] theorem zX{a b:E}:bA Φ (.fj a b) σ M=(ev Φ a σ M).bind fun x M1=>(ev Φ b σ M1).bind fun y M2=>match fS x,fS y with
  | some i,some j=>if gg i&&gg j then .ok (.aq,jW i j,false) M2 else .bad
  | _,_=>.bad:=rfl
@[simp] theorem Dh{a:E}:bA Φ (.rev a) σ M=(ev Φ a σ M).bind fun x M1=>match pQ x with
  | some ds=>.ok (.aq,ds.reverse,false) M1
  | none=>.bad:=rfl
@[simp] theorem LN{a b:E}:bA Φ (.Gg a b) σ M=(ev Φ a σ M).bind fun x M1=>(ev Φ b σ M1).bind fun y M2=>match fS x,fS y with
  | some i,some j=>if gg i&&gg j then .ok (.aq,ir i j,false) M2 else .bad
  | _,_=>.bad:=rfl
@[simp] theorem LR{a b:E}:ev Φ (.dz a b) σ M=(ev Φ a σ M).bind fun x M1=>(ev Φ b σ M1).bind fun y M2=>match AW M2 x,AW M2 y with
  | some ds,some es=>if decide (ds.length<=1000) then (match wQ [] ds es with
   | some kvs=>.ok (.ref M2.length) (M2++[.dct kvs])
   | none=>.bad) else .bad
  | _,_=>.bad:=rfl
@[simp] theorem ev_isx{a:E}{c:Option Nat}:ev Φ (.jh a c) σ M=(ev Φ a σ M).bind fun x M1=>match x with
  | .g7 k=>.ok (.bl (match c with | some c=>Φ.sub k c | none=>true)) M1
  | _=>.bad:=rfl
@[simp] theorem ev_ixc{ct:Bool}{a:E}{es:Es}:ev Φ (.Ii ct a es) σ M=(ev Φ a σ M).bind fun x M1=>if (rJ M1 x).isSome then (cz Φ es σ M1).bind fun ds M2=>Ih ct M2 x ds else .bad:=rfl
@[simp] theorem ev_mxl{a:E}:ev Φ (.Ni a) σ M=(ev Φ a σ M).bind fun x M1=>match (rJ M1 x).bind maxOf with
  | some m=>.ok (.int m) M1
  | none=>.bad:=rfl
@[simp] theorem Ac{f:Nat}{es:Es}{e:E}:ev Φ (.iH f es e) σ M=(cz Φ es σ M).bind fun ds M1=>(ev Φ e σ M1).bind fun d M2=>Φ.call f (ds++[d]) M2:=rfl
@[simp] theorem IP{fz:Bool}{a b:E}:ev Φ (.EK fz a b) σ M=(ev Φ a σ M).bind fun x M1=>(ev Φ b σ M1).bind fun y M2=>match x,y with
  | .int i,.int j=>if (gg i&&(gg j&&decide ((i-j).toNat<=line)))||decide (i<=j) then bW fz (ir i j) M2 else .bad
  | _,_=>.bad:=rfl
@[simp] theorem LU{f:Nat}{es:Es}{d:Int}:ev Φ (.u6 f es d) σ M=(cz Φ es σ M).bind fun ds M1=>Φ.call f (ds++[.int d]) M1:=rfl
@[simp] theorem NU{a b:E}:bA Φ (.zip a b) σ M=(ev Φ a σ M).bind fun x M1=>(ev Φ b σ M1).bind fun y M2=>match pQ x,pQ y with
  | some ds,some es=>.ok (.aq,JP ds es,false) M2
  | _,_=>.bad:=rfl
@[simp] theorem zS{i:Nat}{e:E}:ex Φ (.set i e) σ M=(ev Φ e σ M).use σ fun x M1=>.ok (.nx (σ.set i (some x))) M1:=rfl
@[simp] theorem NQ{a b e:E}:ex Φ (.vD a b e) σ M=(ev Φ e σ M).use σ fun x M1=>(ev Φ a σ M1).use σ fun y M2=>(ev Φ b σ M2).use σ fun z M3=>(oV M3 y z x).use σ fun _ M4=>.ok (.nx σ) M4:=rfl
@[simp] theorem nO{a:E}{f:Str}{e:E}:ex Φ (.eB a f e) σ M=(ev Φ e σ M).use σ fun x M1=>(ev Φ a σ M1).use σ fun y M2=>match y with
  | .ref n=>match M2[n]? with
   | some (.ins c fs)=>if decide (fs.length<1000) then .ok (.nx σ) (M2.set n (.ins c (eF f x fs))) else .bad
   | _=>.bad
  | _=>.bad:=rfl
@[simp] theorem Df:Dg Φ .nil σ M=.ok () M:=rfl
@[simp] theorem zW{e:E}{es:Es}:Dg Φ (.cons e es) σ M=(ev Φ e σ M).bind fun x M1=>if dj x then Dg Φ es σ M1 else .bad:=rfl
@[simp] theorem zT{c:Nat}{es:Es}:ex Φ (.raise c es) σ M=(Dg Φ es σ M).use σ fun _ M1=>.ok (.xc c σ) M1:=rfl
@[simp] theorem zR{b:Ss}{hs:Hs}{els:Ss}:ex Φ (.try b hs els) σ M=(exs Φ b σ M).bind fun o M1=>match o with
  | .nx σ1=>exs Φ els σ1 M1
  | .xc c σ1=>uD Φ hs c σ1 M1
  | o=>.ok o M1:=rfl
@[simp] theorem NP{c:Nat}:uD Φ .nil c σ M=.bad:=rfl
@[simp] theorem LK{cs:List Nat}{b:Ss}{hs:Hs}{c:Nat}:uD Φ (.cons cs b hs) c σ M=if cs.any (fun d=>Φ.sub c d) then JC id (exs Φ b σ M) else uD Φ hs c σ M:=rfl
@[simp] theorem II{d i:Nat}{b:Ss}{hs:Hs}{c:Nat}:uD Φ (.as d i b hs) c σ M=if Φ.sub c d then JC (fun σ=>σ.set i none) (exs Φ b (σ.set i (some (.g7 c))) M) else uD Φ hs c σ M:=rfl
@[simp] theorem ex_unp{tg:List Nat}{e:E}:ex Φ (.MU tg e) σ M=(ev Φ e σ M).use σ fun x M1=>match sets tg M1 x σ with | some σ1=>.ok (.nx σ1) M1 | none=>.bad:=rfl
@[simp] theorem LM{e:E}:ex Φ (.ex e) σ M=(ev Φ e σ M).use σ fun _ M1=>.ok (.nx σ) M1:=rfl
@[simp] theorem IK{e:E}:ex Φ (.ret e) σ M=(ev Φ e σ M).use σ fun x M1=>.ok (.rt x) M1:=rfl
@[simp] theorem NR:ex Φ .Gj σ M=.ok (.rt .aq) M:=rfl
@[simp] theorem nP{c:E}{a b:Ss}:ex Φ (.ifs c a b) σ M=(ev Φ c σ M).use σ fun t M1=>match t with | .bl true=>exs Φ a σ M1 | .bl false=>exs Φ b σ M1 | _=>.bad:=rfl
@[simp] theorem ex_for{tg:List Nat}{it:Src}{b:Ss}:ex Φ (.for tg it b) σ M=(bA Φ it σ M).use σ fun p M1=>(bh (exs Φ b) tg (aO M1 p.1) p.2.1 σ M1).fin (fE p.2.2 p.1):=rfl
@[simp] theorem kB{c:E}{b:Ss}:ex Φ (.while c b) σ M=bT (ev Φ c) (exs Φ b) Φ.turns σ M:=rfl
@[simp] theorem ex_brk:ex Φ .brk σ M=.ok (.bk σ) M:=rfl
@[simp] theorem NT:ex Φ .cont σ M=.ok (.ct σ) M:=rfl
@[simp] theorem NS:ex Φ .pass σ M=.ok (.nx σ) M:=rfl
@[simp] theorem NO:exs Φ .nil σ M=.ok (.nx σ) M:=rfl
@[simp] theorem bN{s:S}{ss:Ss}:exs Φ (.cons s ss) σ M=(ex Φ s σ M).bind fun o M1=>match o with | .nx σ1=>exs Φ ss σ1 M1 | o=>.ok o M1:=rfl
end
@[simp] theorem fin_ok{α:Type}{a:α}{M:MH}{f:MH->MH}:(R.ok a M).fin f=.ok a (f M):=rfl
@[simp] theorem NK{α:Type}{c:Nat}{M:MH}{f:MH->MH}:(R.exc c M:R α).fin f=.exc c (f M):=rfl
@[simp] theorem NL{α:Type}{f:MH->MH}:(R.bad:R α).fin f=.bad:=rfl
@[simp] theorem unwk_f{d:D}{M:MH}:fE false d M=M:=by cases d <;> rfl
@[simp] theorem E0{α:Type}{x:R α}{d:D}:x.fin (fE false d)=x:=by cases x <;> simp
@[simp] theorem wk_tup{M:MH}{ds:List D}:wk M (.tup ds)=false:=rfl
@[simp] theorem wk_lst{M:MH}{ds:List D}:wk M (.lst ds)=false:=rfl
@[simp] theorem wk_str{M:MH}{x:Str}:wk M (.str x)=false:=rfl
@[simp] theorem JU{M:MH}{ds:List D}:walk M (.tup ds)=M:=rfl
@[simp] theorem JW{M:MH}{ds:List D}:walk M (.lst ds)=M:=rfl
@[simp] theorem JV{M:MH}{x:Str}:walk M (.str x)=M:=rfl
theorem cK{P:kR}{k i:Nat}{ds:List D}{M:MH}{fn:Fn}(h:P.fn i=some fn):(aa P (k+1)).call i ds M=jV (aa P k) fn ds M:=by simp only[aa,h]
@[simp] theorem kK{P:kR}{k:Nat}:(aa P k).glob=P.glob:=by cases k <;> rfl
@[simp] theorem fR{P:kR}{k:Nat}:(aa P k).turns=P.turns:=by cases k <;> rfl
@[simp] theorem wD{P:kR}{k:Nat}:(aa P k).sub=P.sub:=by cases k <;> rfl
@[simp] theorem bQ{α:Type}{a:α}{l:List α}:qz (a::l) 0=some a:=by
 have:(0:Int)<((a::l).length:Int):=by simp only[List.length_cons];omega
 simp only[qz,ET,if_pos (Int.le_refl 0),if_pos this];rfl
@[simp] theorem iJ{α:Type}{a b:α}{l:List α}:qz (a::b::l) 1=some b:=by
 have:(1:Int)<((a::b::l).length:Int):=by simp only[List.length_cons];omega
 simp only[qz,ET,if_pos (show (0:Int)<=1 by decide),if_pos this];rfl
@[simp] theorem qj{α:Type}{a b c:α}{l:List α}:qz (a::b::c::l) 2=some c:=by
 have:(2:Int)<((a::b::c::l).length:Int):=by simp only[List.length_cons];omega
 simp only[qz,ET,if_pos (show (0:Int)<=2 by decide),if_pos this];rfl
@[simp] theorem vc{α:Type}{a b c d:α}{l:List α}:qz (a::b::c::d::l) 3=some d:=by
 have:(3:Int)<((a::b::c::d::l).length:Int):=by simp only[List.length_cons];omega
 simp only[qz,ET,if_pos (show (0:Int)<=3 by decide),if_pos this];rfl
@[simp] theorem E5:aD D.aq D.aq=true:=by simp only[aD]
@[simp] theorem p6{x:Int}{y:Int}:aD (D.int x) (D.int y)=decide (x=y):=by simp only[aD]
@[simp] theorem E4{x:Str}{y:Str}:aD (D.str x) (D.str y)=decide (x=y):=by simp only[aD]
@[simp] theorem pZ{x:List D}{y:List D}:aD (D.tup x) (D.tup y)=cJ x y:=by simp only[aD]
@[simp] theorem jq{x:List D}{y:List D}:aD (D.lst x) (D.lst y)=cJ x y:=by simp only[aD]
@[simp] theorem NZ:cJ [] []=true:=by simp only[cJ]
@[simp] theorem Di{a:D}{l:List D}:cJ (a::l) []=false:=by simp only[cJ]
@[simp] theorem Dj{a b:D}{l m:List D}:cJ (a::l) (b::m)=(aD a b&&cJ l m):=by simp only[cJ]
section
variable{Φ:aZ}{σ σ':Sg}{M M1 M2:MH}{e c:E}{x:D}{ss a b:Ss}{i:Nat}
theorem aP(h:ev Φ e σ M=.ok x M1):exs Φ (.cons (.set i e) ss) σ M=exs Φ ss (σ.set i (some x)) M1:=by simp[h]
theorem cI(h:ev Φ e σ M=.ok x M1):exs Φ (.cons (.ex e) ss) σ M=exs Φ ss σ M1:=by simp[h]
theorem bH(h:ev Φ e σ M=.ok x M1):exs Φ (.cons (.ret e) ss) σ M=.ok (.rt x) M1:=by simp[h]
theorem aA(h:ev Φ c σ M=.ok (.bl false) M1):exs Φ (.cons (.ifs c a .nil) ss) σ M=exs Φ ss σ M1:=by simp[h]
theorem mW(h:ev Φ c σ M=.ok (.bl false) M1)(hb:exs Φ b σ M1=.ok (.nx σ') M2):exs Φ (.cons (.ifs c a b) ss) σ M=exs Φ ss σ' M2:=by simp[h,hb]
theorem oW(h:ev Φ c σ M=.ok (.bl true) M1)(ha:exs Φ a σ M1=.ok (.nx σ') M2):exs Φ (.cons (.ifs c a b) ss) σ M=exs Φ ss σ' M2:=by simp[h,ha]
theorem bK(h:ev Φ c σ M=.ok (.bl true) M1)(ha:exs Φ a σ M1=.ok (.rt x) M2):exs Φ (.cons (.ifs c a b) ss) σ M=.ok (.rt x) M2:=by simp[h,ha]
theorem xS{tg:List Nat}{it:Src}{d:D}{ds:List D}(h:bA Φ it σ M=.ok (d,ds,false) M1)(hl:bh (exs Φ b) tg (aO M1 d) ds σ M1=.ok (.nx σ') M2):exs Φ (.cons (.for tg it b) ss) σ M=exs Φ ss σ' M2:=by simp[h,hl]
theorem qS{tg:List Nat}{it:Src}{d:D}{ds:List D}(h:bA Φ it σ M=.ok (d,ds,false) M1)(hl:bh (exs Φ b) tg (aO M1 d) ds σ M1=.ok (.rt x) M2):exs Φ (.cons (.for tg it b) ss) σ M=.ok (.rt x) M2:=by simp[h,hl]
theorem aN{P:kR}{k f:Nat}{fn:Fn}{ds:List D}{d:D}{M':MH}{r:R D}(hf:P.fn f=some fn)(hn:ds.length=fn.np)(hb:exs (aa P k) fn.body (ds.map some++List.replicate (fn.ns-fn.np) none) M=.ok (.rt d) M')(hr:gf fn.keep M d M'=r):(aa P (k+1)).call f ds M=r:=by
 rw[cK hf]
 have h1:ds.length+fn.kJ.length-fn.np=fn.kJ.length:=by omega
 simp only[jV,h1,List.drop_length,List.append_nil,hb]
 rw[if_pos (by simp;omega)]
 exact hr
theorem xY{M:MH}{d:D}{M':MH}(h:nr M.length d=true)(ht:M'.take M.length=M):gf false M d M'=.ok d M:=by
 unfold gf;rw[if_pos ⟨rfl,ht⟩,if_pos h]
end
@[simp] theorem Na{M:MH}{ds:List D}:wM M (.tup ds)=true:=rfl
@[simp] theorem Nf{M:MH}{ds:List D}:wM M (.lst ds)=true:=rfl
@[simp] theorem Ng{M:MH}{i:Int}:wM M (.int i)=true:=rfl
@[simp] theorem Nb{M:MH}{x:Str}:wM M (.str x)=true:=rfl
@[simp] theorem okT_bl{M:MH}{b:Bool}:wM M (.bl b)=true:=rfl
@[simp] theorem Nc{M:MH}:wM M .aq=true:=rfl
@[simp] theorem C7{n:Nat}:jk (n+1) (some 1) none=false:=by simp[jk,six]
@[simp] theorem C6{n:Nat}:jk (n+1+1) (some 2) none=false:=by simp[jk,six]
end Fg
end
section
namespace Fg
open PySem L2
structure Bd where
 K:W.Frag
 dk:Addr->List (Key×V)->Prop
 cls:Nat->Option Addr
 exc:Nat->Value->Prop
 AV:Nat->Option Addr
noncomputable def KTup(K:W.Frag)(a:Addr)(xs:List V):Prop :=
 ∃(o:Obj) (its:Array Value) (n:Nat), K.lookup a=some o/\o.cls=.type "tuple"/\o.data=.seq its n/\its.size<=sizeLine/\Vals xs its.toList
noncomputable def KLst(K:W.Frag)(a:Addr)(xs:List V):Prop :=
 ∃(o:Obj) (its:Array Value) (n:Nat), K.lookup a=some o/\o.cls=.type "list"/\o.dict=none/\o.data=.seq its n/\its.size<=sizeLine/\Vals xs its.toList
noncomputable def FzT(B:Bd)(F:Addr->Prop)(H:Hp)(a:Addr)(xs:List V):Prop:=(F a/\Rd H a (.tup xs))\/KTup B.K a xs
noncomputable def FzL(B:Bd)(F:Addr->Prop)(H:Hp)(a:Addr)(xs:List V):Prop:=(F a/\Rd H a (.lst xs))\/KLst B.K a xs
noncomputable def FzD(B:Bd)(F:Addr->Prop)(H:Hp)(a:Addr)(kvs:List (Key×V)):Prop:=(F a/\Rd H a (.dK kvs))\/B.dk a kvs
theorem FzT.sq{B:Bd}{F:Addr->Prop}{H:Hp}{a:Addr}{xs:List V}(h:FzT B F H a xs):gU B.K H a xs:=by
 rcases h with ⟨_,h⟩ | h
 ·exact .inl h
 ·exact .inr h
theorem FzL.sq{B:Bd}{F:Addr->Prop}{H:Hp}{a:Addr}{xs:List V}(h:FzL B F H a xs):fu B.K H a xs:=by
 rcases h with ⟨_,h⟩ | h
 ·exact .inl h
 ·exact .inr h
noncomputable def Jp(a C:Addr)(h:Heap):Prop:=∃o,h.get? a=some o/\o.cls=.ref C
mutual
noncomputable def RD(B:Bd)(F:Addr->Prop)(ρ:List Addr)(H:Hp):D->V->Prop
 | .aq,v=>v=.aq
 | .bl b,v=>v=.bl b
 | .int i,v=>v=.int i
 | .str x,v=>v=.str x
 | .tup ds,v=>∃a vs,v=.ref a/\FzT B F H a vs/\aj B F ρ H ds vs
 | .lst ds,v=>∃a vs,v=.ref a/\FzL B F H a vs/\aj B F ρ H ds vs
 | .dct ks ds,v=>∃a kvs,v=.ref a/\FzD B F H a kvs/\kvs.map (·.1)=ks/\aj B F ρ H ds (kvs.map (·.2))
 | .ref n,v=>∃a,ρ[n]? = some a/\v=.ref a
 | .g7 c,v=>∃a C oe,v=.ref a/\B.AV c=some C/\F a/\H a=some (.dP oe (.ext (Jp a C)))
noncomputable def aj(B:Bd)(F:Addr->Prop)(ρ:List Addr)(H:Hp):List D->List V->Prop
 | [],vs=>vs=[]
 | d::ds,vs=>∃v ws,vs=v::ws/\RD B F ρ H d v/\aj B F ρ H ds ws
end
structure Ext0(F:Addr->Prop)(ρ:List Addr)(H:Hp)(F':Addr->Prop)(ρ':List Addr)(H':Hp):Prop where
 s:∀a∈ρ,¬ F a
 f:∀a,F a->F' a
 h:∀a,H a≠none->a∉ρ->H' a=H a
 r:ρ <+: ρ'
 n:∀a∈ρ',a∈ρ\/H a=none
 g:∀a,F' a->F a\/(H a=none\/a∈ρ)
structure qp(F:Addr->Prop)(ρ:List Addr)(H:Hp)(F':Addr->Prop)(ρ':List Addr)(H':Hp):Prop where
 f:∀a,F a->F' a
 k:∀a,F a->H a≠none->H' a=H a
 r:ρ <+: ρ'
theorem Ext0.JI{F F':Addr->Prop}{ρ ρ':List Addr}{H H':Hp}(e:Ext0 F ρ H F' ρ' H'):qp F ρ H F' ρ' H':=⟨e.f,fun a fa h=>e.h a h fun z=>e.s a z fa,e.r⟩
section
variable{B:Bd}{F F' F1:Addr->Prop}{ρ ρ' ρ1:List Addr}{H H' H1:Hp}
theorem Em{a:Addr}{u:HO}(h:Rd H a u):H a≠none:=by
 rcases h with h | ⟨o,h⟩ <;> rw[h] <;> simp
theorem qp.rd(e:qp F ρ H F' ρ' H'){a:Addr}{u:HO}(f:F a)(h:Rd H a u):Rd H' a u:=by
 have q:=e.k a f (Em h)
 rcases h with h | ⟨o,h⟩
 ·exact .inl (q.trans h)
 ·exact .inr ⟨o,q.trans h⟩
theorem qp.at(e:qp F ρ H F' ρ' H'){n:Nat}{a:Addr}(h:ρ[n]? = some a):ρ'[n]? = some a:=by
 obtain⟨t,rfl⟩:=e.r
 have hn:n<ρ.length:=by
  rcases Nat.lt_or_ge n ρ.length with q | q
  ·exact q
  ·rw[List.getElem?_eq_none_iff.mpr q] at h;cases h
 rw[List.getElem?_append_left hn];exact h
mutual
theorem RD.aW(e:qp F ρ H F' ρ' H'):∀(d:D) (v:V),RD B F ρ H d v->RD B F' ρ' H' d v
 | .aq,v,h=>h
 | .bl _,v,h=>h
 | .int _,v,h=>h
 | .str _,v,h=>h
 | .tup ds,v,h=>by
  simp only[RD] at h ⊢
  obtain⟨a,vs,h1,h2,h3⟩:=h
  refine⟨a,vs,h1,?_,aj.aW e ds vs h3⟩
  rcases h2 with ⟨f,r⟩ | h2
  ·exact .inl ⟨e.f a f,e.rd f r⟩
  ·exact .inr h2
 | .lst ds,v,h=>by
  simp only[RD] at h ⊢
  obtain⟨a,vs,h1,h2,h3⟩:=h
  refine⟨a,vs,h1,?_,aj.aW e ds vs h3⟩
  rcases h2 with ⟨f,r⟩ | h2
  ·exact .inl ⟨e.f a f,e.rd f r⟩
  ·exact .inr h2
 | .dct ks ds,v,h=>by
  simp only[RD] at h ⊢
  obtain⟨a,kvs,h1,h2,h4,h3⟩:=h
  refine⟨a,kvs,h1,?_,h4,aj.aW e ds _ h3⟩
  rcases h2 with ⟨f,r⟩ | h2
  ·exact .inl ⟨e.f a f,e.rd f r⟩
  ·exact .inr h2
 | .ref n,v,h=>by
  simp only[RD] at h ⊢
  obtain⟨a,h1,h2⟩:=h
  exact⟨a,e.at h1,h2⟩
 | .g7 c,v,h=>by
  simp only[RD] at h ⊢
  obtain⟨a,C,oe,h1,h2,h3,h4⟩:=h
  exact⟨a,C,oe,h1,h2,e.f a h3,(e.k a h3 (by rw[h4];simp)).trans h4⟩
theorem aj.aW(e:qp F ρ H F' ρ' H'):∀(ds:List D) (vs:List V),aj B F ρ H ds vs->aj B F' ρ' H' ds vs
 | [],vs,h=>h
 | d::ds,vs,h=>by
  simp only[aj] at h ⊢
  obtain⟨v,ws,h1,h2,h3⟩:=h
  exact⟨v,ws,h1,RD.aW e d v h2,aj.aW e ds ws h3⟩
end
theorem Ext0.at(e:Ext0 F ρ H F' ρ' H'){n:Nat}{a:Addr}(h:ρ[n]? = some a):ρ'[n]? = some a:=e.JI.at h
theorem RD.bw(e:Ext0 F ρ H F' ρ' H')(d:D)(v:V)(h:RD B F ρ H d v):RD B F' ρ' H' d v:=RD.aW e.JI d v h
theorem aj.bw(e:Ext0 F ρ H F' ρ' H')(ds:List D)(vs:List V)(h:aj B F ρ H ds vs):aj B F' ρ' H' ds vs:=aj.aW e.JI ds vs h
structure Ext(F:Addr->Prop)(ρ:List Addr)(H:Hp)(F':Addr->Prop)(ρ':List Addr)(H':Hp):Prop extends Ext0 F ρ H F' ρ' H' where
 z:∀a o u,H a=some (.dP o u)->H' a=some (.dP o u)
theorem RD.mono(e:Ext F ρ H F' ρ' H')(d:D)(v:V)(h:RD B F ρ H d v):RD B F' ρ' H' d v:=RD.bw e.toExt0 d v h
theorem aj.mono(e:Ext F ρ H F' ρ' H')(ds:List D)(vs:List V)(h:aj B F ρ H ds vs):aj B F' ρ' H' ds vs:=aj.bw e.toExt0 ds vs h
theorem Ext.trans(a:Ext F ρ H F1 ρ1 H1)(b:Ext F1 ρ1 H1 F' ρ' H'):Ext F ρ H F' ρ' H' where
 s:=a.s
 f:=fun x h=>b.f x (a.f x h)
 h:=fun x h1 h2=>by
  have q:=a.h x h1 h2
  have n1:x∉ρ1:=fun z=>(a.n x z).elim h2 h1
  exact (b.h x (by rw[q];exact h1) n1).trans q
 r:=List.IsPrefix.trans a.r b.r
 n:=fun x hx=>by
  rcases b.n x hx with q | q
  ·exact a.n x q
  ·by_cases hr:x∈ρ
   ·exact .inl hr
   ·refine .inr ?_
    cases hh:H x with
    | none=>rfl
    | some u =>
     have:=a.h x (by rw[hh];simp) hr
     rw[q,hh] at this;cases this
 g:=fun x hx=>by
  rcases b.g x hx with q | q | q
  ·exact a.g x q
  ·by_cases hr:x∈ρ
   ·exact .inr (.inr hr)
   ·refine .inr (.inl ?_)
    cases hh:H x with
    | none=>rfl
    | some u =>
     have:=a.h x (by rw[hh];simp) hr
     rw[q,hh] at this;cases this
  ·rcases a.n x q with z | z
   ·exact .inr (.inr z)
   ·exact .inr (.inl z)
 z:=fun x o u h=>b.z x o u (a.z x o u h)
theorem Ext.refl(s:∀a∈ρ,¬ F a):Ext F ρ H F ρ H:=⟨⟨s,fun _ h=>h,fun _ _ _=>rfl,List.prefix_refl _,fun _ h=>.inl h,fun _ h=>.inl h⟩,fun _ _ _ h=>h⟩
end
noncomputable def MR(B:Bd)(F:Addr->Prop)(ρ:List Addr)(H:Hp):MO->Addr->Prop
 | .lst ds,a=>∃vs,H a=some (.lst vs)/\aj B F ρ H ds vs
 | .dct kvs,a=>∃kws,H a=some (.dK kws)/\kws.map (·.1)=kvs.map (·.1)/\aj B F ρ H (kvs.map (·.2)) (kws.map (·.2))
 | .ou kvs,a=>∃o kws,H a=some (.dP o (.dK kws))/\kws.map (·.1)=kvs.map (·.1)/\aj B F ρ H (kvs.map (·.2)) (kws.map (·.2))
 | .ins c fs,a=>∃C dx eV,B.cls c=some C/\H a=some (.ins C dx eV)/\eV.map (·.1)=fs.map (·.1)/\aj B F ρ H (fs.map (·.2)) (eV.map (·.2))
theorem MR.aW{B:Bd}{F F':Addr->Prop}{ρ ρ':List Addr}{H H':Hp}(e:qp F ρ H F' ρ' H'){a:Addr}(ha:H' a=H a):∀{o:MO},MR B F ρ H o a->MR B F' ρ' H' o a
 | .lst ds,⟨vs,h1,h2⟩=>⟨vs,ha.trans h1,aj.aW e _ _ h2⟩
 | .dct kvs,⟨kws,h1,h2,h3⟩=>⟨kws,ha.trans h1,h2,aj.aW e _ _ h3⟩
 | .ou kvs,⟨o,kws,h1,h2,h3⟩=>⟨o,kws,ha.trans h1,h2,aj.aW e _ _ h3⟩
 | .ins c fs,⟨C,dx,eV,h0,h1,h2,h3⟩=>⟨C,dx,eV,h0,ha.trans h1,h2,aj.aW e _ _ h3⟩
theorem MR.bw{B:Bd}{F F':Addr->Prop}{ρ ρ':List Addr}{H H':Hp}(e:Ext0 F ρ H F' ρ' H'){a:Addr}(ha:H' a=H a){o:MO}(h:MR B F ρ H o a):MR B F' ρ' H' o a:=h.aW e.JI ha
theorem MR.mono{B:Bd}{F F':Addr->Prop}{ρ ρ':List Addr}{H H':Hp}(e:Ext F ρ H F' ρ' H'){a:Addr}(ha:H' a=H a){o:MO}(h:MR B F ρ H o a):MR B F' ρ' H' o a:=h.bw e.toExt0 ha
theorem MR.ne{B:Bd}{F:Addr->Prop}{ρ:List Addr}{H:Hp}{a:Addr}:∀{o:MO},MR B F ρ H o a->H a≠none
 | .lst ds,⟨vs,h1,h2⟩=>by rw[h1];simp
 | .dct kvs,⟨kws,h1,_⟩=>by rw[h1];simp
 | .ou kvs,⟨o,kws,h1,_⟩=>by rw[h1];simp
 | .ins c fs,⟨C,dx,eV,_,h1,_⟩=>by rw[h1];simp
structure SR(B:Bd)(F:Addr->Prop)(ρ:List Addr)(M:MH)(H:Hp):Prop where
 len:ρ.length=M.length
 nd:ρ.Nodup
 sep:∀a∈ρ,¬ F a
 C8:∀a,F a->H a≠none
 obj:∀(n:Nat) (a:Addr) (o:MO),ρ[n]? = some a->M[n]? = some o->MR B F ρ H o a
section
variable{B:Bd}{F F' F1:Addr->Prop}{ρ ρ' ρ1:List Addr}{H H' H1:Hp}{M M':MH}
theorem SR.ne(S:SR B F ρ M H){a:Addr}(h:a∈ρ):H a≠none:=by
 obtain⟨n,hn,e⟩:=List.mem_iff_getElem.mp h
 have hm:n<M.length:=by rw[<- S.len];exact hn
 exact (S.obj n a M[n] (by rw[List.getElem?_eq_getElem hn,e]) (List.getElem?_eq_getElem hm)).ne
theorem SR.new(S:SR B F ρ M H){p:Addr}(h:H p=none):p∉ρ/\¬ F p:=⟨fun z=>S.ne z h,fun z=>S.C8 p z h⟩
theorem SR.refl(S:SR B F ρ M H):Ext F ρ H F ρ H:=Ext.refl S.sep
theorem SR.fz(S:SR B F ρ M H){p:Addr}(h:H p=none)(o:HO):SR B (fun a=>F a\/a=p) ρ M (upd H p o)/\Ext F ρ H (fun a=>F a\/a=p) ρ (upd H p o):=by
 obtain⟨np,nf⟩:=S.new h
 have e:Ext F ρ H (fun a=>F a\/a=p) ρ (upd H p o):=⟨⟨S.sep,fun a q=>.inl q,fun a q _=>ak (by rintro rfl;exact q h),List.prefix_refl _,fun a q=>.inl q,fun a q=>q.elim .inl fun z=>.inr (.inl (z ▸ h))⟩,fun b w u q=>by rw[ak (by rintro rfl;rw[h] at q;cases q)];exact q⟩
 refine⟨⟨S.len,S.nd,fun a ha z=>?_,fun a z=>?_,fun n a u h1 h2=>?_⟩,e⟩
 ·rcases z with z | z
  ·exact S.sep a ha z
  ·subst z;exact np ha
 ·by_cases q:a=p
  ·subst q;rw[av];simp
  ·rw[ak q]
   rcases z with z | z
   ·exact S.C8 a z
   ·exact absurd z q
 ·have m:=S.obj n a u h1 h2
  exact m.mono e (ak (by rintro rfl;exact m.ne h))
theorem SR.lv(S:SR B F ρ M H){p:Addr}(h:H p=none){o:HO}{u:MO}(hu:MR B F (ρ++[p]) (upd H p o) u p):SR B F (ρ++[p]) (M++[u]) (upd H p o)/\Ext F ρ H F (ρ++[p]) (upd H p o):=by
 obtain⟨np,nf⟩:=S.new h
 have e:Ext F ρ H F (ρ++[p]) (upd H p o):=⟨⟨S.sep,fun a q=>q,fun a q _=>ak (by rintro rfl;exact q h),List.prefix_append _ _,fun a q=>by
  rcases List.mem_append.mp q with q | q
  ·exact .inl q
  ·rw[List.mem_singleton.mp q];exact .inr h,fun _ q=>.inl q⟩,fun b w u q=>by rw[ak (by rintro rfl;rw[h] at q;cases q)];exact q⟩
 refine⟨⟨by simp[S.len],?_,fun a ha z=>?_,fun a z=>?_,fun n a w h1 h2=>?_⟩,e⟩
 ·rw[List.nodup_append]
  refine⟨S.nd,by simp,fun a ha b hb=>?_⟩
  rw[List.mem_singleton.mp hb]
  rintro rfl
  exact np ha
 ·rcases List.mem_append.mp ha with q | q
  ·exact S.sep a q z
  ·rw[List.mem_singleton.mp q] at z;exact nf z
 ·have q:a≠p:=by rintro rfl;exact nf z
  rw[ak q];exact S.C8 a z
 ·by_cases hn:n<ρ.length
  ·rw[List.getElem?_append_left hn] at h1
   rw[List.getElem?_append_left (by rw[<- S.len];exact hn)] at h2
   have m:=S.obj n a w h1 h2
   exact m.mono e (ak (by rintro rfl;exact m.ne h))
  ·have hn':ρ.length<=n:=Nat.le_of_not_lt hn
   rw[List.getElem?_append_right hn'] at h1
   rw[List.getElem?_append_right (by rw[<- S.len];exact hn'),<- S.len] at h2
   cases k:n-ρ.length with
   | zero =>
    rw[k] at h1 h2
    cases h1;cases h2
    exact hu
   | succ j=>rw[k] at h1;simp at h1
theorem SR.jx(S:SR B F ρ M H){n:Nat}{a:Addr}{o:HO}{u:MO}(hn:ρ[n]? = some a)(hu:MR B F ρ (upd H a o) u a):SR B F ρ (M.set n u) (upd H a o)/\Ext0 F ρ H F ρ (upd H a o):=by
 have ha:a∈ρ:=List.mem_of_getElem? hn
 have e:Ext0 F ρ H F ρ (upd H a o):=⟨S.sep,fun _ q=>q,fun b q nb=>ak (by rintro rfl;exact nb ha),List.prefix_refl _,fun _ q=>.inl q,fun _ q=>.inl q⟩
 refine⟨⟨by simp[S.len],S.nd,S.sep,fun b z=>?_,fun m b w h1 h2=>?_⟩,e⟩
 ·have q:b≠a:=by rintro rfl;exact S.sep b ha z
  rw[ak q];exact S.C8 b z
 ·by_cases q:m=n
  ·subst q
   rw[hn] at h1;cases h1
   rw[List.getElem?_set] at h2
   split at h2
   ·split at h2
    ·cases h2;exact hu
    ·cases h2
   ·rename_i z;exact absurd rfl z
  ·rw[List.getElem?_set_ne (Ne.symm q)] at h2
   have ne:b≠a:=by
    rintro rfl
    obtain⟨m1,e1⟩:=List.getElem?_eq_some_iff.mp h1
    obtain⟨m2,e2⟩:=List.getElem?_eq_some_iff.mp hn
    exact q ((List.getElem_inj S.nd).mp (e1.trans e2.symm))
   exact (S.obj m b w h1 h2).bw e (ak ne)
theorem SR.st(S:SR B F ρ M H){n:Nat}{a:Addr}{o:HO}{u:MO}(hn:ρ[n]? = some a)(hz:∀w v,H a≠some (.dP w v))(hu:MR B F ρ (upd H a o) u a):SR B F ρ (M.set n u) (upd H a o)/\Ext F ρ H F ρ (upd H a o) :=
 ⟨(S.jx hn hu).1,⟨(S.jx hn hu).2,fun b w v q=>by rw[ak (by rintro rfl;exact hz w v q)];exact q⟩⟩
theorem Ext0.at_(S:SR B F ρ M H){n:Nat}{a:Addr}{o:HO}(hn:ρ[n]? = some a):Ext0 F ρ H F ρ (upd H a o) :=
 ⟨S.sep,fun _ q=>q,fun b q nb=>ak (by rintro rfl;exact nb (List.mem_of_getElem? hn)),List.prefix_refl _,fun _ q=>.inl q,fun _ q=>.inl q⟩
theorem qp.side{D:Addr}(hF:¬ F D)(o:HO):qp F ρ H F ρ (upd H D o):=⟨fun _ h=>h,fun a fa _=>ak (by rintro rfl;exact hF fa),List.prefix_refl _⟩
theorem SR.side(S:SR B F ρ M H){D:Addr}(hD:D∉ρ)(hF:¬ F D)(o:HO):SR B F ρ M (upd H D o) :=
 ⟨S.len,S.nd,S.sep,fun a fa=>by rw[ak (by rintro rfl;exact hF fa)];exact S.C8 a fa,fun n a w h1 h2=>(S.obj n a w h1 h2).aW (qp.side hF o) (ak (by rintro rfl;exact hD (List.mem_of_getElem? h1)))⟩
theorem SR.take(S:SR B F ρ M H){D:Addr}(hD:D∉ρ)(hn:H D≠none):SR B (fun a=>F a\/a=D) ρ M H :=
 ⟨S.len,S.nd,fun a ha z=>z.elim (S.sep a ha) fun e=>hD (e ▸ ha),fun a z=>z.elim (S.C8 a) fun e=>e ▸ hn,fun n a w h1 h2=>(S.obj n a w h1 h2).aW ⟨fun _ h=>.inl h,fun _ _ _=>rfl,List.prefix_refl _⟩ rfl⟩
theorem SR.hold(S:SR B F ρ M H){D:Addr}{u:MO}(hD:D∉ρ)(hF:¬ F D)(hu:MR B F (ρ++[D]) H u D):SR B F (ρ++[D]) (M++[u]) H:=by
 refine⟨by simp[S.len],?_,fun a ha z=>?_,S.C8,fun n a w h1 h2=>?_⟩
 ·rw[List.nodup_append]
  refine⟨S.nd,by simp,fun a ha b hb=>?_⟩
  rw[List.mem_singleton.mp hb]
  rintro rfl
  exact hD ha
 ·rcases List.mem_append.mp ha with q | q
  ·exact S.sep a q z
  ·rw[List.mem_singleton.mp q] at z;exact hF z
 ·by_cases hn:n<ρ.length
  ·rw[List.getElem?_append_left hn] at h1
   rw[List.getElem?_append_left (by rw[<- S.len];exact hn)] at h2
   exact (S.obj n a w h1 h2).aW ⟨fun _ h=>h,fun _ _ _=>rfl,List.prefix_append _ _⟩ rfl
  ·have hn':ρ.length<=n:=Nat.le_of_not_lt hn
   rw[List.getElem?_append_right hn'] at h1
   rw[List.getElem?_append_right (by rw[<- S.len];exact hn'),<- S.len] at h2
   cases k:n-ρ.length with
   | zero =>
    rw[k] at h1 h2
    cases h1;cases h2
    exact hu
   | succ j=>rw[k] at h1;simp at h1
theorem SR.wk(S:SR B F ρ M H){n:Nat}{a:Addr}{kvs:List (Ky×D)}{kws:List (Key×V)}(o:Obj)(hn:ρ[n]? = some a)(hM:M[n]? = some (.dct kvs))(hH:H a=some (.dK kws)) :
  SR B F ρ (M.set n (.ou kvs)) (upd H a (.dP o (.dK kws)))/\Ext F ρ H F ρ (upd H a (.dP o (.dK kws))):=by
 obtain⟨kws',h1,h2,h3⟩:=S.obj n a _ hn hM
 rw[hH] at h1;cases h1
 exact S.st (o:=.dP o (.dK kws)) (u:=.ou kvs) hn (fun w v q=>by rw[hH] at q;cases q) ⟨o,kws,av,h2,aj.bw (Ext0.at_ S hn) _ _ h3⟩
theorem SR.uw(S:SR B F ρ M H){n:Nat}{a:Addr}{kvs:List (Ky×D)}(hn:ρ[n]? = some a)(hM:M[n]? = some (.ou kvs)):∃o kws,H a=some (.dP o (.dK kws)) /\
  SR B F ρ (M.set n (.dct kvs)) (upd H a (.dK kws)):=by
 obtain⟨o,kws,h1,h2,h3⟩:=S.obj n a _ hn hM
 exact⟨o,kws,h1,(S.jx (o:=.dK kws) (u:=.dct kvs) hn ⟨kws,av,h2,aj.bw (Ext0.at_ S hn) _ _ h3⟩).1⟩
theorem Ext.thaw(e:Ext F ρ H F' ρ' H'){a:Addr}{o:HO}(ha:a∈ρ')(hn:∀w v,H a≠some (.dP w v))(hF:∀b∈ρ',¬ F' b):Ext F ρ H F' ρ' (upd H' a o) :=
 ⟨⟨e.s,e.f,fun b q nb=>by
  by_cases hb:b=a
  ·subst hb
   rcases e.n b ha with z | z
   ·exact absurd z nb
   ·exact absurd z q
  ·rw[ak hb];exact e.h b q nb,e.r,e.n,e.g⟩,fun b w v q=>by rw[ak (by rintro rfl;exact hn w v q)];exact e.z b w v q⟩
end
section
variable{B:Bd}{F F' F1:Addr->Prop}{ρ ρ' ρ1:List Addr}{H H' H1:Hp}{M M':MH}
theorem aj.length:∀{ds:List D} {vs:List V},aj B F ρ H ds vs->ds.length=vs.length
 | [],vs,h=>by simp only[aj] at h;subst h;rfl
 | d::ds,vs,h=>by
  simp only[aj] at h
  obtain⟨v,ws,rfl,_,h3⟩:=h
  simp[aj.length h3]
theorem aj.cons{d:D}{v:V}{ds:List D}{vs:List V}(h:RD B F ρ H d v)(t:aj B F ρ H ds vs):aj B F ρ H (d::ds) (v::vs):=by
 simp only[aj];exact⟨v,vs,rfl,h,t⟩
theorem aj.nil:aj B F ρ H [] []:=by simp only[aj]
theorem aj.append:∀{ds es:List D} {vs ws:List V},aj B F ρ H ds vs->aj B F ρ H es ws->aj B F ρ H (ds++es) (vs++ws)
 | [],es,vs,ws,h,t=>by simp only[aj] at h;subst h;exact t
 | d::ds,es,vs,ws,h,t=>by
  simp only[aj] at h
  obtain⟨v,us,rfl,h2,h3⟩:=h
  exact aj.cons h2 (aj.append h3 t)
theorem aj.get:∀{ds:List D} {vs:List V} {i:Nat} {d:D},aj B F ρ H ds vs->ds[i]? = some d->∃v,vs[i]? = some v/\RD B F ρ H d v
 | [],vs,i,d,h,e=>by simp at e
 | d::ds,vs,i,d',h,e=>by
  simp only[aj] at h
  obtain⟨v,ws,rfl,h2,h3⟩:=h
  cases i with
  | zero=>simp at e;subst e;exact⟨v,rfl,h2⟩
  | succ i=>simp at e;simpa using aj.get (i:=i) h3 e
theorem aj.take:∀{ds:List D} {vs:List V} (n:Nat),aj B F ρ H ds vs->aj B F ρ H (ds.take n) (vs.take n)
 | [],vs,n,h=>by simp only[aj] at h;subst h;simp[aj]
 | d::ds,vs,n,h=>by
  simp only[aj] at h
  obtain⟨v,ws,rfl,h2,h3⟩:=h
  cases n with
  | zero=>simp[aj]
  | succ n=>simp only[List.take_succ_cons];exact aj.cons h2 (aj.take n h3)
theorem aj.drop:∀{ds:List D} {vs:List V} (n:Nat),aj B F ρ H ds vs->aj B F ρ H (ds.drop n) (vs.drop n)
 | [],vs,n,h=>by simp only[aj] at h;subst h;simp[aj]
 | d::ds,vs,n,h=>by
  cases n with
  | zero=>exact h
  | succ n =>
   simp only[aj] at h
   obtain⟨v,ws,rfl,h2,h3⟩:=h
   simp only[List.drop_succ_cons];exact aj.drop n h3
theorem aj.set:∀{ds:List D} {vs:List V} {d:D} {v:V} (i:Nat),aj B F ρ H ds vs->RD B F ρ H d v->aj B F ρ H (ds.set i d) (vs.set i v)
 | [],vs,d,v,i,h,q=>by simp only[aj] at h;subst h;simp[aj]
 | e::ds,vs,d,v,i,h,q=>by
  simp only[aj] at h
  obtain⟨u,ws,rfl,h2,h3⟩:=h
  cases i with
  | zero=>simp only[List.set_cons_zero];exact aj.cons q h3
  | succ i=>simp only[List.set_cons_succ];exact aj.cons h2 (aj.set i h3 q)
mutual
theorem RD.nr:∀{d:D} {v:V},RD B F ρ H d v->nr ρ.length d=true
 | .aq,v,h=>by simp[Fg.nr]
 | .bl _,v,h=>by simp[Fg.nr]
 | .int _,v,h=>by simp[Fg.nr]
 | .str _,v,h=>by simp[Fg.nr]
 | .tup ds,v,h=>by simp only[RD] at h;obtain⟨a,vs,h1,h2,h3⟩:=h;simp only[Fg.nr];exact aj.nr h3
 | .lst ds,v,h=>by simp only[RD] at h;obtain⟨a,vs,h1,h2,h3⟩:=h;simp only[Fg.nr];exact aj.nr h3
 | .dct ks ds,v,h=>by simp only[RD] at h;obtain⟨a,vs,h1,h2,_,h3⟩:=h;simp only[Fg.nr];exact aj.nr h3
 | .ref n,v,h=>by
  simp only[RD] at h;obtain⟨a,h1,h2⟩:=h;simp only[Fg.nr]
  obtain⟨q,_⟩:=List.getElem?_eq_some_iff.mp h1
  exact decide_eq_true q
 | .g7 _,v,h=>by simp[Fg.nr]
theorem aj.nr:∀{ds:List D} {vs:List V},aj B F ρ H ds vs->fB ρ.length ds=true
 | [],vs,h=>by simp[fB]
 | d::ds,vs,h=>by
  simp only[aj] at h
  obtain⟨v,ws,rfl,h2,h3⟩:=h
  simp only[fB,RD.nr h2,aj.nr h3,Bool.and_self]
end
mutual
theorem RD.cut(hp:ρ <+: ρ'):∀{d:D} {v:V},Fg.nr ρ.length d=true->RD B F ρ' H d v->RD B F ρ H d v
 | .aq,v,_,h=>h
 | .bl _,v,_,h=>h
 | .int _,v,_,h=>h
 | .str _,v,_,h=>h
 | .tup ds,v,q,h=>by
  simp only[Fg.nr] at q;simp only[RD] at h ⊢
  obtain⟨a,vs,h1,h2,h3⟩:=h
  exact⟨a,vs,h1,h2,aj.cut hp q h3⟩
 | .lst ds,v,q,h=>by
  simp only[Fg.nr] at q;simp only[RD] at h ⊢
  obtain⟨a,vs,h1,h2,h3⟩:=h
  exact⟨a,vs,h1,h2,aj.cut hp q h3⟩
 | .dct ks ds,v,q,h=>by
  simp only[Fg.nr] at q;simp only[RD] at h ⊢
  obtain⟨a,vs,h1,h2,h4,h3⟩:=h
  exact⟨a,vs,h1,h2,h4,aj.cut hp q h3⟩
 | .ref n,v,q,h=>by
  simp only[Fg.nr] at q;simp only[RD] at h ⊢
  obtain⟨a,h1,h2⟩:=h
  obtain⟨t,rfl⟩:=hp
  rw[List.getElem?_append_left (of_decide_eq_true q)] at h1
  exact⟨a,h1,h2⟩
 | .g7 _,v,_,h=>h
theorem aj.cut(hp:ρ <+: ρ'):∀{ds:List D} {vs:List V},fB ρ.length ds=true->aj B F ρ' H ds vs->aj B F ρ H ds vs
 | [],vs,_,h=>h
 | d::ds,vs,q,h=>by
  simp only[fB,Bool.and_eq_true] at q;simp only[aj] at h ⊢
  obtain⟨v,ws,rfl,h2,h3⟩:=h
  exact⟨v,ws,rfl,RD.cut hp q.1 h2,aj.cut hp q.2 h3⟩
end
theorem MR.cut(hp:ρ <+: ρ'){a:Addr}{F0:Addr->Prop}{H0:Hp}{a0:Addr}:∀{o:MO},MR B F0 ρ H0 o a0->MR B F ρ' H o a->MR B F ρ H o a
 | .lst ds,⟨_,_,k⟩,⟨vs,h1,h2⟩=>⟨vs,h1,aj.cut hp (aj.nr k) h2⟩
 | .dct kvs,⟨_,_,_,k⟩,⟨kws,h1,h2,h3⟩=>⟨kws,h1,h2,aj.cut hp (aj.nr k) h3⟩
 | .ou kvs,⟨_,_,_,_,k⟩,⟨o,kws,h1,h2,h3⟩=>⟨o,kws,h1,h2,aj.cut hp (aj.nr k) h3⟩
 | .ins c fs,⟨_,_,_,_,_,_,k⟩,⟨C,dx,eV,h0,h1,h2,h3⟩=>⟨C,dx,eV,h0,h1,h2,aj.cut hp (aj.nr k) h3⟩
theorem SR.cut(S:SR B F ρ M H)(S':SR B F' ρ' M' H')(e:Ext F ρ H F' ρ' H')(hm:M'.take M.length=M):SR B F' ρ M H' where
 len:=S.len
 nd:=S.nd
 sep:=fun a ha=>S'.sep a (e.r.subset ha)
 C8:=S'.C8
 obj:=fun n a o h1 h2=>by
  have m':M'[n]? = some o:=by
   rw[<- hm] at h2
   rw[List.getElem?_take] at h2
   split at h2
   ·exact h2
   ·cases h2
  exact MR.cut e.r (S.obj n a o h1 h2) (S'.obj n a o (e.at h1) m')
theorem Ext.cut(e:Ext F ρ H F' ρ' H'):Ext F ρ H F' ρ H':=⟨⟨e.s,e.f,e.h,List.prefix_refl _,fun _ h=>.inl h,e.g⟩,e.z⟩
end
end Fg
end
section
namespace Fg
open PySem L2
noncomputable def A6(th:Addr->Prop)(H H':Hp):Prop:=H'=H\/∃a o kvs,th a/\H a=some (.dP o (.dK kvs))/\H'=upd H a (.dK kvs)
noncomputable abbrev XS:=Value->Option Addr->St->Hp->Prop
structure Gx where
 e:XS
 th:Addr->Prop
 cl:∀cv x σ H H',A6 th H H'->e cv x σ H'->e cv x σ H
noncomputable def ai{α β:Type}(rel:(Addr->Prop)->List Addr->Hp->α->β->Prop)(B:Bd)(r:R α)(F:Addr->Prop)(ρ:List Addr)(H:Hp)(Q:β->Hp->Prop)(E:XK):Prop :=
 match r with
 | .ok d M'=>∀F' ρ' H' v,Ext F ρ H F' ρ' H'->SR B F' ρ' M' H'->rel F' ρ' H' d v->Q v H'
 | .exc c M'=>∀F' ρ' H' cv x,Ext F ρ H F' ρ' H'->SR B F' ρ' M' H'->B.exc c cv->E cv x H'
 | .bad=>False
noncomputable abbrev Post(B:Bd):=ai (RD B) B
noncomputable abbrev MF(B:Bd):=ai (aj B) B
section
variable{B:Bd}{F F' F1:Addr->Prop}{ρ ρ' ρ1:List Addr}{H H' H1:Hp}{M M':MH}{E:XK}
theorem ai.weak{α β:Type}{rel:(Addr->Prop)->List Addr->Hp->α->β->Prop}{r:R α}{Q:β->Hp->Prop}(e:Ext F ρ H F1 ρ1 H1)(h:ai rel B r F ρ H Q E):ai rel B r F1 ρ1 H1 Q E:=by
 cases r with
 | ok d M'=>exact fun F' ρ' H' v e' S r=>h F' ρ' H' v (e.trans e') S r
 | exc c M'=>exact fun F' ρ' H' cv x e' S r=>h F' ρ' H' cv x (e.trans e') S r
 | bad=>exact h
theorem ai.imp{α β:Type}{rel:(Addr->Prop)->List Addr->Hp->α->β->Prop}{r:R α}{Q Q':β->Hp->Prop}(h:ai rel B r F ρ H Q E)(k:∀v H',Q v H'->Q' v H'):ai rel B r F ρ H Q' E:=by
 cases r with
 | ok d M'=>exact fun F' ρ' H' v e' S r=>k _ _ (h F' ρ' H' v e' S r)
 | exc c M'=>exact h
 | bad=>exact h
theorem ai.bind{α β α' β':Type}{rel:(Addr->Prop)->List Addr->Hp->α->β->Prop}{rel':(Addr->Prop)->List Addr->Hp->α'->β'->Prop}{x:R α}{f:α->MH->R α'}{Q:β'->Hp->Prop}(h:ai rel' B (x.bind f) F ρ H Q E) :
  ai rel B x F ρ H (fun v H'=>∃d M' F' ρ',Ext F ρ H F' ρ' H'/\SR B F' ρ' M' H'/\rel F' ρ' H' d v/\ai rel' B (f d M') F' ρ' H' Q E) E:=by
 cases x with
 | ok d M'=>exact fun F' ρ' H' v e S r=>⟨d,M',F',ρ',e,S,r,ai.weak e h⟩
 | exc c M'=>exact h
 | bad=>exact h
theorem ai.run{α β:Type}{rel:(Addr->Prop)->List Addr->Hp->α->β->Prop}{d:α}{Q:β->Hp->Prop}{v:β}(h:ai rel B (.ok d M) F ρ H Q E)(S:SR B F ρ M H)(r:rel F ρ H d v):Q v H :=
 h F ρ H v S.refl S r
end
structure RS(B:Bd)(F:Addr->Prop)(ρ:List Addr)(H:Hp)(σD:Sg)(σ:St):Prop where
 len:σ.length=σD.length
 get:∀(i:Nat) (d:D),σD[i]? = some (some d)->∃v,σ[i]? = some (some v)/\RD B F ρ H d v
section
variable{B:Bd}{F F' F1:Addr->Prop}{ρ ρ' ρ1:List Addr}{H H' H1:Hp}{M M':MH}{σD:Sg}{σ:St}
theorem RS.mono(e:Ext F ρ H F' ρ' H')(h:RS B F ρ H σD σ):RS B F' ρ' H' σD σ :=
 ⟨h.len,fun i d q=>let ⟨v,h1,h2⟩:=h.get i d q;⟨v,h1,RD.mono e d v h2⟩⟩
theorem RS.set(h:RS B F ρ H σD σ){d:D}{v:V}(r:RD B F ρ H d v)(i:Nat):RS B F ρ H (σD.set i (some d)) (σ.set i (some v)):=by
 refine⟨by simp[h.len],fun j d' q=>?_⟩
 rw[List.getElem?_set] at q ⊢
 split at q
 ·rename_i e
  split at q
  ·rename_i l
   cases q
   refine⟨v,?_,r⟩
   rw[if_pos e,if_pos (by rw[h.len];exact l)]
  ·cases q
 ·rename_i e
  rw[if_neg e]
  exact h.get j d' q
end
noncomputable def T(B:Bd)(Φ:aZ)(E:Gx)(c:Fg.E):TE:=fun σ H Q=>∃(σD:Sg) (M:MH) (F:Addr->Prop) (ρ:List Addr),
 SR B F ρ M H/\RS B F ρ H σD σ/\Post B (ev Φ c σD M) F ρ H Q (fun cv x H'=>E.e cv x σ H')
noncomputable def TB(B:Bd)(Φ:aZ)(E:Gx)(c:Fg.E):TT:=fun σ H Q=>T B Φ E c σ H fun v H'=>∃b,v=.bl b/\Q b H'
noncomputable def TL(B:Bd)(Φ:aZ)(E:Gx)(c:Es):TA:=fun σ H Q=>∃(σD:Sg) (M:MH) (F:Addr->Prop) (ρ:List Addr),
 SR B F ρ M H/\RS B F ρ H σD σ/\MF B (cz Φ c σD M) F ρ H Q (fun cv x H'=>E.e cv x σ H')
noncomputable def TP(B:Bd)(Φ:aZ)(E:Gx)(c:O):TO:=fun σ H Q=>∃(σD:Sg) (M:MH) (F:Addr->Prop) (ρ:List Addr),
 SR B F ρ M H/\RS B F ρ H σD σ/\ai (fun _ _ _ (a b:Option Int)=>a=b) B (De Φ c σD M) F ρ H Q (fun cv x H'=>E.e cv x σ H')
section
variable{B:Bd}{Φ:aZ}{E:Gx}{F F' F1:Addr->Prop}{ρ ρ' ρ1:List Addr}{H H' H1:Hp}{M M':MH}{σD:Sg}{σ:St}{Q:VK}
theorem T.one{a:Fg.E}{g:D->MH->R D}{W:V->Hp->Prop}{X:XK}(S:SR B F ρ M H)(r:RS B F ρ H σD σ)(hX:X=fun cv x H'=>E.e cv x σ H')(h:Post B ((ev Φ a σD M).bind g) F ρ H Q X)
  (k:∀x M1 F1 ρ1 H1 v,Ext F ρ H F1 ρ1 H1->SR B F1 ρ1 M1 H1->RS B F1 ρ1 H1 σD σ->RD B F1 ρ1 H1 x v->Post B (g x M1) F1 ρ1 H1 Q X->W v H1):T B Φ E a σ H W:=by
 subst hX
 refine⟨σD,M,F,ρ,S,r,ai.imp (ai.bind (rel:=RD B) h) fun v H1 ⟨x,M1,F1,ρ1,e,S1,rx,h1⟩=>?_⟩
 exact k x M1 F1 ρ1 H1 v e S1 (r.mono e) rx h1
theorem T.two{a b:Fg.E}{g:D->D->MH->R D}{W:V->V->Hp->Prop}{X:XK}(S:SR B F ρ M H)(r:RS B F ρ H σD σ)(hX:X=fun cv x H'=>E.e cv x σ H')
  (h:Post B ((ev Φ a σD M).bind fun x M1=>(ev Φ b σD M1).bind fun y M2=>g x y M2) F ρ H Q X)
  (k:∀x y M2 F2 ρ2 H2 v w,SR B F2 ρ2 M2 H2->RS B F2 ρ2 H2 σD σ->RD B F2 ρ2 H2 x v->RD B F2 ρ2 H2 y w->Post B (g x y M2) F2 ρ2 H2 Q X->W v w H2) :
  T B Φ E a σ H fun v H1=>T B Φ E b σ H1 fun w H2=>W v w H2:=by
 refine T.one S r hX h fun x M1 F1 ρ1 H1 v e1 S1 r1 rx h1=>?_
 refine T.one S1 r1 hX h1 fun y M2 F2 ρ2 H2 w e2 S2 r2 ry h2=>?_
 exact k x y M2 F2 ρ2 H2 v w S2 r2 (RD.mono e2 _ _ rx) ry h2
theorem TL.one{a:Es}{g:List D->MH->R D}{W:List V->Hp->Prop}{X:XK}(S:SR B F ρ M H)(r:RS B F ρ H σD σ)(hX:X=fun cv x H'=>E.e cv x σ H')(h:Post B ((cz Φ a σD M).bind g) F ρ H Q X)
  (k:∀x M1 F1 ρ1 H1 v,Ext F ρ H F1 ρ1 H1->SR B F1 ρ1 M1 H1->RS B F1 ρ1 H1 σD σ->aj B F1 ρ1 H1 x v->Post B (g x M1) F1 ρ1 H1 Q X->W v H1):TL B Φ E a σ H W:=by
 subst hX
 refine⟨σD,M,F,ρ,S,r,ai.imp (ai.bind (rel:=aj B) h) fun v H1 ⟨x,M1,F1,ρ1,e,S1,rx,h1⟩=>?_⟩
 exact k x M1 F1 ρ1 H1 v e S1 (r.mono e) rx h1
theorem Ei{i:Nat}(h:T B Φ E (.v i) σ H Q):Bq i σ H Q:=by
 obtain⟨σD,M,F,ρ,S,r,h⟩:=h
 simp only[ev] at h
 split at h
 ·rename_i d hd
  obtain⟨v,h1,h2⟩:=r.get _ _ hd
  exact⟨v,h1,ai.run h S h2⟩
 ·exact h.elim
noncomputable def scl:D->Option V
 | .aq=>some .aq
 | .bl b=>some (.bl b)
 | .int i=>some (.int i)
 | .str x=>some (.str x)
 | _=>none
theorem Gd{d:D}{v:V}(h:scl d=some v):RD B F ρ H d v:=by
 cases d <;> simp only[scl] at h <;> first | (cases h;simp only[RD]) | cases h
theorem tG{d:D}{v:V}(hv:scl d=some v)(h:T B Φ E (.k d) σ H Q):tC v σ H Q:=by
 obtain⟨σD,M,F,ρ,S,r,h⟩:=h
 simp only[ev] at h
 exact ai.run h S (Gd hv)
theorem cQ{fz:Bool}{ds:List D}{vs:List V}{X:XK}(S:SR B F ρ M H)(h:Post B (bW fz ds M) F ρ H Q X)(r:aj B F ρ H ds vs):∀p,H p=none->Q (.ref p) (upd H p (.lst vs)):=by
 intro p hp
 cases fz with
 | true =>
  simp only[bW,if_true] at h
  obtain⟨S',e⟩:=S.fz hp (.lst vs)
  refine h _ _ _ _ e S' ?_
  simp only[RD]
  exact⟨p,vs,rfl,.inl ⟨.inr rfl,.inl av⟩,aj.mono e _ _ r⟩
 | false =>
  simp only[bW,Bool.false_eq_true,if_false] at h
  have e0:Ext F ρ H F (ρ++[p]) (upd H p (.lst vs)):=⟨⟨S.sep,fun _ q=>q,fun a q _=>ak (by rintro rfl;exact q hp),List.prefix_append _ _,fun a q=>by
   rcases List.mem_append.mp q with q | q
   ·exact .inl q
   ·rw[List.mem_singleton.mp q];exact .inr hp,fun _ q=>.inl q⟩,fun b w u q=>by rw[ak (by rintro rfl;rw[hp] at q;cases q)];exact q⟩
  obtain⟨S',e⟩:=S.lv (o:=.lst vs) (u:=.lst ds) hp ⟨vs,av,aj.mono e0 _ _ r⟩
  refine h _ _ _ _ e S' ?_
  simp only[RD]
  refine⟨p,?_,rfl⟩
  rw[<- S.len,List.getElem?_append_right (Nat.le_refl _),Nat.sub_self];rfl
theorem jG{ds:List D}{vs:List V}{X:XK}(S:SR B F ρ M H)(h:Post B (.ok (.tup ds) M) F ρ H Q X)(r:aj B F ρ H ds vs):∀p,H p=none->Q (.ref p) (upd H p (.tup vs)):=by
 intro p hp
 obtain⟨S',e⟩:=S.fz hp (.tup vs)
 refine h _ _ _ _ e S' ?_
 simp only[RD]
 exact⟨p,vs,rfl,.inl ⟨.inr rfl,.inl av⟩,aj.mono e _ _ r⟩
theorem BA{es:Es}(hz:∀{σ:Sg} {M:MH} {ds M'},cz Φ es σ M=.ok ds M'->ds.length<=sizeLine)(h:T B Φ E (.tup es) σ H Q):J2 (TL B Φ E es) σ H Q:=by
 obtain⟨σD,M,F,ρ,S,r,h⟩:=h
 simp only[ev] at h
 refine⟨σD,M,F,ρ,S,r,?_⟩
 cases hx:cz Φ es σD M with
 | ok ds M1 =>
  rw[hx] at h
  intro F1 ρ1 H1 vs e S1 rv
  refine⟨by rw[<- aj.length rv];exact hz hx,jG (X:=fun cv x H'=>E.e cv x σ H') S1 (ai.weak e h) rv⟩
 | exc c M1=>rw[hx] at h;exact h
 | bad=>rw[hx] at h;exact h
theorem BI{fz:Bool}{es:Es}(hz:∀{σ:Sg} {M:MH} {ds M'},cz Φ es σ M=.ok ds M'->ds.length<=sizeLine)(h:T B Φ E (.lst fz es) σ H Q):J8 (TL B Φ E es) σ H Q:=by
 obtain⟨σD,M,F,ρ,S,r,h⟩:=h
 simp only[ev] at h
 refine⟨σD,M,F,ρ,S,r,?_⟩
 cases hx:cz Φ es σD M with
 | ok ds M1 =>
  rw[hx] at h
  intro F1 ρ1 H1 vs e S1 rv
  refine⟨by rw[<- aj.length rv];exact hz hx,cQ (X:=fun cv x H'=>E.e cv x σ H') S1 (ai.weak e h) rv⟩
 | exc c M1=>rw[hx] at h;exact h
 | bad=>rw[hx] at h;exact h
theorem fV{Q:List V->Hp->Prop}(h:TL B Φ E .nil σ H Q):gI σ H Q:=by
 obtain⟨σD,M,F,ρ,S,r,h⟩:=h
 simp only[cz] at h
 exact ai.run h S aj.nil
theorem oR{e:Fg.E}{es:Es}{Q:List V->Hp->Prop}(h:TL B Φ E (.cons e es) σ H Q):bG (T B Φ E e) (TL B Φ E es) σ H Q:=by
 obtain⟨σD,M,F,ρ,S,r,h⟩:=h
 simp only[cz] at h
 refine⟨σD,M,F,ρ,S,r,ai.imp (ai.bind (rel:=RD B) h) fun v H1 ⟨x,M1,F1,ρ1,e1,S1,rx,h1⟩=>?_⟩
 refine⟨σD,M1,F1,ρ1,S1,r.mono e1,ai.imp (ai.bind (rel:=aj B) h1) fun vs H2 ⟨xs,M2,F2,ρ2,e2,S2,rxs,h2⟩=>?_⟩
 exact ai.run h2 S2 (aj.cons (RD.mono e2 _ _ rx) rxs)
theorem tN{a b:Fg.E}(h:T B Φ E (.and a b) σ H Q):Ed (T B Φ E a) (T B Φ E b) σ H Q:=by
 obtain⟨σD,M,F,ρ,S,r,h⟩:=h
 simp only[ev] at h
 refine T.one S r rfl h fun x M1 F1 ρ1 H1 v e1 S1 r1 rx h1=>?_
 split at h1
 ·simp only[RD] at rx;subst rx
  exact⟨true,rfl,by rw[if_pos rfl];exact⟨σD,M1,F1,ρ1,S1,r1,h1⟩⟩
 ·simp only[RD] at rx;subst rx
  exact⟨false,rfl,by rw[if_neg Bool.false_ne_true];exact ai.run h1 S1 (by simp only[RD])⟩
 ·exact h1.elim
theorem xM{a b:Fg.E}(h:T B Φ E (.or a b) σ H Q):J5 (T B Φ E a) (T B Φ E b) σ H Q:=by
 obtain⟨σD,M,F,ρ,S,r,h⟩:=h
 simp only[ev] at h
 refine T.one S r rfl h fun x M1 F1 ρ1 H1 v e1 S1 r1 rx h1=>?_
 split at h1
 ·simp only[RD] at rx;subst rx
  exact⟨true,rfl,by rw[if_pos rfl];exact ai.run h1 S1 (by simp only[RD])⟩
 ·simp only[RD] at rx;subst rx
  exact⟨false,rfl,by rw[if_neg Bool.false_ne_true];exact⟨σD,M1,F1,ρ1,S1,r1,h1⟩⟩
 ·exact h1.elim
theorem tE{a:Fg.E}(h:T B Φ E (.not a) σ H Q):D8 (T B Φ E a) σ H Q:=by
 obtain⟨σD,M,F,ρ,S,r,h⟩:=h
 simp only[ev] at h
 refine T.one S r rfl h fun x M1 F1 ρ1 H1 v e1 S1 r1 rx h1=>?_
 split at h1
 ·simp only[RD] at rx;subst rx
  exact⟨_,rfl,ai.run h1 S1 (by simp only[RD])⟩
 ·exact h1.elim
theorem xP{a b:Fg.E}{Q:Bool->Hp->Prop}(h:TB B Φ E (.and a b) σ H Q):Kg (TB B Φ E a) (TB B Φ E b) σ H Q:=by
 have h':=tN h
 obtain⟨σD,M,F,ρ,S,r,h⟩:=h'
 refine⟨σD,M,F,ρ,S,r,ai.imp h fun v H' ⟨c,e,q⟩=>⟨c,e,?_⟩⟩
 cases c with
 | true=>rw[if_pos rfl] at q ⊢;exact q
 | false=>rw[if_neg Bool.false_ne_true] at q ⊢;obtain⟨b,e,q⟩:=q;cases e;exact q
theorem BV{a b:Fg.E}{Q:Bool->Hp->Prop}(h:TB B Φ E (.or a b) σ H Q):tOr (TB B Φ E a) (TB B Φ E b) σ H Q:=by
 have h':=xM h
 obtain⟨σD,M,F,ρ,S,r,h⟩:=h'
 refine⟨σD,M,F,ρ,S,r,ai.imp h fun v H' ⟨c,e,q⟩=>⟨c,e,?_⟩⟩
 cases c with
 | true=>rw[if_pos rfl] at q ⊢;obtain⟨b,e,q⟩:=q;cases e;exact q
 | false=>rw[if_neg Bool.false_ne_true] at q ⊢;exact q
theorem xO{a:Fg.E}{Q:Bool->Hp->Prop}(h:TB B Φ E (.not a) σ H Q):J7 (TB B Φ E a) σ H Q:=by
 have h':=tE h
 obtain⟨σD,M,F,ρ,S,r,h⟩:=h'
 refine⟨σD,M,F,ρ,S,r,ai.imp h fun v H' ⟨c,e,q⟩=>⟨c,e,?_⟩⟩
 obtain⟨b,e,q⟩:=q;cases e;exact q
theorem BP{c a b:Fg.E}(h:T B Φ E (.CW c a b) σ H Q):tIf (TB B Φ E c) (T B Φ E a) (T B Φ E b) σ H Q:=by
 obtain⟨σD,M,F,ρ,S,r,h⟩:=h
 simp only[ev] at h
 refine T.one S r rfl h fun x M1 F1 ρ1 H1 v e1 S1 r1 rx h1=>?_
 split at h1
 ·simp only[RD] at rx;subst rx
  exact⟨true,rfl,by dsimp only;rw[if_pos rfl];exact⟨σD,M1,F1,ρ1,S1,r1,h1⟩⟩
 ·simp only[RD] at rx;subst rx
  exact⟨false,rfl,by dsimp only;rw[if_neg Bool.false_ne_true];exact⟨σD,M1,F1,ρ1,S1,r1,h1⟩⟩
 ·exact h1.elim
theorem bf{d:D}{v:V}{ds:List D}(S:SR B F ρ M H)(r:RD B F ρ H d v)(h:vw M d=.lst ds):∃a vs,v=.ref a/\fu B.K H a vs/\aj B F ρ H ds vs:=by
 cases d with
 | lst xs=>simp only[vw] at h;cases h;simp only[RD] at r;obtain⟨a,vs,e,z,q⟩:=r;exact⟨a,vs,e,z.sq,q⟩
 | ref n =>
  simp only[vw] at h
  split at h
  ·rename_i xs hx
   cases h
   simp only[RD] at r
   obtain⟨a,h1,h2⟩:=r
   obtain⟨vs,h3,h4⟩:=S.obj n a _ h1 hx
   exact⟨a,vs,h2,.inl (.inl h3),h4⟩
  ·cases h
  ·cases h
  ·cases h
 | _=>simp only[vw] at h;cases h
theorem iQ{d:D}{v:V}{ds:List D}(S:SR B F ρ M H)(r:RD B F ρ H d v)(h:vw M d=.tup ds):∃a vs,v=.ref a/\gU B.K H a vs/\aj B F ρ H ds vs:=by
 cases d with
 | tup xs=>simp only[vw] at h;cases h;simp only[RD] at r;obtain⟨a,vs,e,z,q⟩:=r;exact⟨a,vs,e,z.sq,q⟩
 | ref n =>
  simp only[vw] at h
  split at h <;> cases h
 | _=>simp only[vw] at h;cases h
noncomputable def Js(B:Bd)(H:Hp)(a:Addr)(kvs:List (Key×V)):Prop:=Rd H a (.dK kvs)\/B.dk a kvs
theorem oz{α β:Type}:∀(ks:List α) (ds:List β),ks.length=ds.length->(ks.zip ds).map (·.1)=ks/\(ks.zip ds).map (·.2)=ds
 | [],[],_=>⟨rfl,rfl⟩
 | k::ks,d::ds,h=>by
  obtain⟨a,b⟩:=oz ks ds (by simpa using h)
  simp only[List.zip_cons_cons,List.map_cons,a,b,and_self]
 | [],_::_,h=>by simp at h
 | _::_,[],h=>by simp at h
theorem mQ{d:D}{v:V}{cC:List (Ky×D)}(S:SR B F ρ M H)(r:RD B F ρ H d v)(h:vw M d=.dct cC):∃a kvs,v=.ref a/\Js B H a kvs/\kvs.map (·.1)=cC.map (·.1)/\aj B F ρ H (cC.map (·.2)) (kvs.map (·.2)):=by
 cases d with
 | dct ks ds =>
  simp only[vw] at h;cases h;simp only[RD] at r
  obtain⟨a,kvs,e,z,q1,q2⟩:=r
  have hl:ks.length=ds.length:=by rw[<- q1,List.length_map,aj.length q2,List.length_map]
  obtain⟨z1,z2⟩:=oz ks ds hl
  refine⟨a,kvs,e,?_,by rw[q1,z1],by rw[z2];exact q2⟩
  rcases z with ⟨_,z⟩ | z
  ·exact .inl z
  ·exact .inr z
 | ref n =>
  simp only[vw] at h
  split at h
  ·cases h
  ·rename_i xs hx
   cases h
   simp only[RD] at r
   obtain⟨a,h1,h2⟩:=r
   obtain⟨kws,h3,h4,h5⟩:=S.obj n a _ h1 hx
   exact⟨a,kws,h2,.inl (.inl h3),h4,h5⟩
  ·rename_i xs hx
   cases h
   simp only[RD] at r
   obtain⟨a,h1,h2⟩:=r
   obtain⟨o,kws,h3,h4,h5⟩:=S.obj n a _ h1 hx
   exact⟨a,kws,h2,.inl (.inr ⟨o,h3⟩),h4,h5⟩
  ·cases h
 | _=>simp only[vw] at h;cases h
theorem j6{k:Key}:∀{cC:List (Ky×D)} {kvs:List (Key×V)},kvs.map (·.1)=cC.map (·.1)->aj B F ρ H (cC.map (·.2)) (kvs.map (·.2)) ->
  (∀d,look cC k=some d->∃v,cH kvs k=some v/\RD B F ρ H d v)/\(look cC k=none->cH kvs k=none)/\((look cC k).isSome=(cH kvs k).isSome)
 | [],kvs,h1,h2=>by
  have:kvs=[]:=by cases kvs with | nil=>rfl | cons _ _=>simp at h1
  subst this
  exact⟨fun d h=>by simp[look] at h,fun _=>by simp[cH],by simp[look,cH]⟩
 | (k', d')::cC, kvs, h1, h2=>by
  cases kvs with
  | nil=>simp at h1
  | cons p kvs =>
   obtain⟨pk,pv⟩:=p
   simp only[List.map_cons,List.cons.injEq] at h1
   simp only[List.map_cons,aj] at h2
   obtain⟨v,ws,e,r1,r2⟩:=h2
   cases e
   obtain⟨e1,e2⟩:=h1
   subst e1
   have ih:=j6 (k:=k) e2 r2
   by_cases hk:pk=k
   ·subst hk
    simp only[look,cH,List.find?_cons,decide_true]
    exact⟨fun d h=>by cases h;exact⟨_,rfl,r1⟩,fun h=>by simp at h,rfl⟩
   ·have hkd:decide (pk=k)=false:=decide_eq_false hk
    simp only[look,cH,List.find?_cons,hkd] at ih ⊢
    exact ih
theorem oK{i:Int}(h:small i=true):-(2 ^ 64)<i/\i<2 ^ 64:=by
 simp only[small,decide_eq_true_eq] at h
 omega
noncomputable def MP(i j:Int):Prop:=i.natAbs<10 ^ 200/\j.natAbs<10 ^ 200
noncomputable def rStr:R2:=fun x y H Q=>∃i j,x=.str i/\y=.str j/\i.length+j.length<=sizeLine/\Q (.str (i++j)) H
noncomputable def Ew(K:W.Frag):R2:=fun x y H Q=>∃l b xs zs,x=.ref l/\y=.ref b/\fu K H l xs/\fu K H b zs/\xs.length+zs.length<=sizeLine/\∀p,H p=none->Q (.ref p) (upd H p (.lst (xs++zs)))
noncomputable def Er(K:W.Frag):R2:=fun x y H Q=>∃(l:Addr) (xs:List V) (k:Int),x=.ref l/\y=.int k/\fu K H l xs/\xs.length*k.toNat<=sizeLine/\k.natAbs<=1000000/\∀p,H p=none->Q (.ref p) (upd H p (.lst (List.replicate k.toNat xs).flatten))
noncomputable def KC(K:W.Frag):DR->R2
 | .add=>fun x y H Q=>qV (fun i j=>.int (i+j)) x y H Q\/(rStr x y H Q\/(Ew K x y H Q\/Eu K x y H Q))
 | .sub=>qV fun i j=>.int (i-j)
 | .mul=>fun x y H Q=>rI DY (fun i j=>.int (i*j)) x y H Q\/(rI MP (fun i j=>.int (i*j)) x y H Q\/Er K x y H Q)
 | .fdiv=>rI MQ fun i j=>.int (i / j)
 | .mod=>rI (fun _ j=>0<j) fun i j=>.int (i % j)
 | .pow=>rI MN fun i j=>.int (i ^ j.toNat)
theorem bC:line<=sizeLine:=by decide
theorem aj.rep{ds:List D}{vs:List V}(r:aj B F ρ H ds vs):∀k:Nat,aj B F ρ H (List.replicate k ds).flatten (List.replicate k vs).flatten
 | 0=>aj.nil
 | k+1=>by
  rw[List.replicate_succ,List.replicate_succ,List.flatten_cons,List.flatten_cons]
  exact r.append (aj.rep r k)
theorem CA{o:DR}{fz:Bool}{x y:D}{v w:V}{X:XK}(S:SR B F ρ M H)(rx:RD B F ρ H x v)(ry:RD B F ρ H y w)(h:Post B (om o fz M x y) F ρ H Q X):KC B.K o v w H Q:=by
 unfold om at h
 split at h
 ·rename_i i j
  simp only[RD] at rx ry
  subst rx ry
  cases o with
  | add=>simp only[fH] at h;exact .inl ⟨i,j,rfl,rfl,ai.run h S (by simp only[RD])⟩
  | sub=>simp only[fH] at h;exact⟨i,j,rfl,rfl,ai.run h S (by simp only[RD])⟩
  | mul =>
   simp only[fH] at h
   split at h
   ·rename_i k hk
    split at hk
    ·rename_i hs
     cases hk
     refine .inl ⟨i,j,rfl,rfl,?_,ai.run h S (by simp only[RD])⟩
     simp only[Bool.or_eq_true] at hs
     rcases hs with hs | hs
     ·exact .inl (oK hs)
     ·exact .inr (oK hs)
    ·split at hk
     ·rename_i hs
      cases hk
      simp only[mid,Bool.and_eq_true,decide_eq_true_eq] at hs
      exact .inr (.inl ⟨i,j,rfl,rfl,hs,ai.run h S (by simp only[RD])⟩)
     ·cases hk
   ·exact h.elim
  | fdiv =>
   simp only[fH] at h
   split at h
   ·rename_i k hk
    split at hk
    ·rename_i hs
     cases hk
     simp only[Bool.and_eq_true,decide_eq_true_eq] at hs
     exact⟨i,j,rfl,rfl,⟨hs.1,by have:=hs.2;omega⟩,ai.run h S (by simp only[RD])⟩
    ·cases hk
   ·exact h.elim
  | mod =>
   simp only[fH] at h
   split at h
   ·rename_i k hk
    split at hk
    ·rename_i hs
     cases hk
     exact⟨i,j,rfl,rfl,of_decide_eq_true hs,ai.run h S (by simp only[RD])⟩
    ·cases hk
   ·exact h.elim
  | pow =>
   simp only[fH] at h
   split at h
   ·rename_i k hk
    split at hk
    ·rename_i hs
     cases hk
     simp only[Bool.and_eq_true,decide_eq_true_eq] at hs
     exact⟨i,j,rfl,rfl,⟨hs.1,hs.2.1,hs.2.2⟩,ai.run h S (by simp only[RD])⟩
    ·cases hk
   ·exact h.elim
 ·rename_i a b
  simp only[RD] at rx ry
  subst rx ry
  cases o with
  | add =>
   simp only at h
   split at h
   ·rename_i hl
    exact .inr (.inl ⟨a,b,rfl,rfl,Nat.le_trans (of_decide_eq_true hl) bC,ai.run h S (by simp only[RD])⟩)
   ·exact h.elim
  | sub=>exact h.elim
  | mul=>exact h.elim
  | fdiv=>exact h.elim
  | mod=>exact h.elim
  | pow=>exact h.elim
 ·cases o with
  | add =>
   simp only at h
   split at h
   ·rename_i xs ys hx hy
    split at h
    ·rename_i hl
     obtain⟨a,vs,rfl,q1,r1⟩:=bf S rx hx
     obtain⟨b,ws,rfl,q2,r2⟩:=bf S ry hy
     refine .inr (.inr (.inl ⟨a,b,vs,ws,rfl,rfl,q1,q2,?_,cQ S h (r1.append r2)⟩))
     rw[<- aj.length r1,<- aj.length r2]
     exact Nat.le_trans (of_decide_eq_true hl) bC
    ·exact h.elim
   ·rename_i xs ys hx hy
    split at h
    ·rename_i hl
     simp only[Bool.and_eq_true,Bool.not_eq_true',decide_eq_true_eq] at hl
     cases x with
     | tup xs' =>
      simp only[vw] at hx;cases hx
      simp only[RD] at rx
      obtain⟨a,vs,rfl,z1,r1⟩:=rx
      obtain⟨b,ws,rfl,q2,r2⟩:=iQ S ry hy
      refine .inr (.inr (.inr ⟨a,b,vs,ws,rfl,rfl,z1.sq,q2,?_,?_,fun e=>?_,fun _=>jG S h (r1.append r2)⟩))
      ·rintro rfl
       have:=aj.length r1
       cases xs with
       | nil=>simp at hl
       | cons _ _=>simp at this
      ·rw[<- aj.length r1,<- aj.length r2]
       exact Nat.le_trans hl.2 bC
      ·refine ai.run h S ?_
       simp only[RD]
       refine⟨a,vs,rfl,z1,?_⟩
       have:=r1.append r2
       rw[e,List.append_nil] at this
       exact this
     | ref n=>simp only[vw] at hx;split at hx <;> cases hx
     | _=>simp only[vw] at hx;cases hx
    ·exact h.elim
   ·exact h.elim
  | sub=>exact h.elim
  | mul =>
   simp only at h
   split at h
   ·rename_i xs k hx _ _
    split at h
    ·rename_i hl
     simp only[Bool.and_eq_true,decide_eq_true_eq] at hl
     obtain⟨a,vs,rfl,q1,r1⟩:=bf S rx (by assumption)
     simp only[RD] at ry
     subst ry
     refine .inr (.inr ⟨a,vs,k,rfl,rfl,q1,?_,hl.2,cQ S h (aj.rep r1 _)⟩)
     rw[<- aj.length r1]
     exact Nat.le_trans hl.1 bC
    ·exact h.elim
   ·exact h.elim
  | fdiv=>exact h.elim
  | mod=>exact h.elim
  | pow=>exact h.elim
theorem F5{o:DR}{fz:Bool}{a b:Fg.E}(h:T B Φ E (.op o fz a b) σ H Q):FI (KC B.K o) (T B Φ E a) (T B Φ E b) σ H Q:=by
 obtain⟨σD,M,F,ρ,S,r,h⟩:=h
 simp only[ev] at h
 exact T.two S r rfl h fun x y M2 F2 ρ2 H2 v w S2 _ rx ry h2=>CA S2 rx ry h2
theorem BF{a:Fg.E}(h:T B Φ E (.neg a) σ H Q):tUn (rU fun i=>.int (-i)) (T B Φ E a) σ H Q:=by
 obtain⟨σD,M,F,ρ,S,r,h⟩:=h
 simp only[ev] at h
 refine T.one S r rfl h fun x M1 F1 ρ1 H1 v e1 S1 r1 rx h1=>?_
 split at h1
 ·simp only[RD] at rx;subst rx
  exact⟨_,rfl,ai.run h1 S1 (by simp only[RD])⟩
 ·exact h1.elim
end
end Fg
end
section
namespace Fg
open PySem PySem.Spec L2
noncomputable def Vx(vs:Array Value)(x:Value):Prop:=vs[0]? = some x/\vs[2]? = some .none
noncomputable def JK(h B:Heap)(e:Addr)(C x fl:Value):Prop :=
 ∃oe vs T oT ts,h.get? e=some oe/\(oe.cls=C/\Vx vs x)/\oe.data=.fields vs/\vs[1]? = some (.ref T)/\B.get? T=none/\T≠e/\h.get? T=some oT/\oT.data=.fields ts/\ts[3]? = some fl
noncomputable def iM(B:Heap)(l:List Env)(e:Addr)(C x:Value)(h:Heap):Prop:=B.StaysIn h/\B.get? e=none/\h.FunFrames B l/\JK h B e C x .none
noncomputable def AQ(B:Heap)(l:List Env)(e:Addr)(C x:Value)(L:Addr)(h:Heap):Prop:=B.StaysIn h/\B.get? e=none/\h.FunFrames B l/\JK h B e C x (rawInt L)
theorem iM.there{B h:Heap}{l:List Env}{e:Addr}{C x:Value}(f:iM B l e C x h):∃ob,h.get? e=some ob/\ob.cls=C:=by
 obtain⟨_,_,_,oe,_,_,_,_,he,hc,_⟩:=f
 exact⟨oe,he,hc.1⟩
section
variable{M:Model}{A:Around}{E:Value->Shared->Prop}{s:Shared}{B:Heap}{env:Env}{outer l:List Env}{L e:Addr}{C x fl:Value}
theorem Ae{oe:Obj}{vs:Array Value}{hd:Value}{hn:Bool}{Q:Unit->Shared->Prop}(hfr:A.frames=some (env::outer))(hl:s.heap.FunFrames B (env::outer))(hf:env.frame=some L)(he:s.heap.get? e=some oe)(kb:B.StaysIn s.heap)(en:B.get? e=none)(dt:oe.data=.fields vs)(sz:1<vs.size)(v0:Vx vs x)
  (k:∀h',B.StaysIn h'->h'.FunFrames B (env::outer)->JK h' B e oe.cls x (rawInt L)->s.heap.UpToSlots h'->Q () { s with heap:=h' }) :
  wpAny M A (do let a <- frameOf env;let pl <- entryPlaceOf L hn;let b <- EntryCells.newEntry hd a .none (rawInt L) .none pl;setField (.ref e) 1 b) Q E s:=by
 have nr:∀b o,s.heap.get? b=some o->(∀ws,o.data≠.fields ws)->b≠e:=fun b o hb nf z=>by
  rw[z,he] at hb;cases hb;exact nf vs dt
 refine wpAny_bind (wpAny_frameOf_fun hfr hl hf fun h1 g1=>wpAny_bind (wpAny_entryPlaceOf fun pl hpl=>?_))
 unfold EntryCells.newEntry newFields
 refine wpAny_bind (wpAny_newObj_type ?_ (hpl.sizeOk5 _ _ _ _ _))
 have e1:h1.get? e=some oe:=(g1.2.1 e fun z=>by
  obtain⟨_,o,ho,nf⟩:=hl.mem z
  rw[he] at ho;cases ho;exact nf vs dt).trans he
 have b1:B.StaysIn h1:=fun b o q=>(g1.2.1 b fun z=>by rw[(hl.mem z).1] at q;cases q).trans (kb b o q)
 generalize hT:({ cls:=Value.type "traceback", dict:=none, data:=Data.fields (([hd, Value.ref L, Value.none, rawInt L, Value.none]:List Value)++(if pl.isEmpty then List.replicate 6 Value.none else pl)).toArray }:Obj)=T
 have e2:(h1.push T).get? e=some oe:=Heap.get?_push_of_some _ e1
 refine wpAny_setField e2 dt sz (k _ ?_ ?_ ?_ ?_)
 all_goals
  have ne:h1.objs.size≠e:=Nat.ne_of_gt (Heap.lt_size e1)
  have keep:∀b o,b≠e->h1.get? b=some o->((h1.push T).update e (Obj.mapFields (·.setIfInBounds 1 (Value.ref h1.objs.size)))).get? b=some o:=fun b o hb q=>(Heap.get?_update_other _ _ (Ne.symm hb)).trans (Heap.get?_push_of_some _ q)
 ·exact fun b o q=>keep b o (fun z=>by rw[z,en] at q;cases q) (b1 b o q)
 ·exact hl.of_keeps fun b o hb nf=>by
   obtain⟨sl,q⟩:=g1.2.2 b o hb
   exact⟨_,keep b _ (nr b o hb nf) q,rfl⟩
 ·have d3:=Obj.data_mapFields dt (·.setIfInBounds 1 (Value.ref h1.objs.size))
  refine⟨_,_,h1.objs.size,T,_,Heap.get?_update_self _ e2 (Obj.isFreed_of_fields d3),⟨Obj.cls_mapFields _ _,?_,?_⟩,d3,by simp[sz],b1.fresh,ne,(Heap.get?_update_other _ _ (Ne.symm ne)).trans (Heap.get?_push_size h1 (by rw[<- hT];rfl)),by rw[<- hT],?_⟩
  ·rw[Array.getElem?_setIfInBounds_ne (by decide)];exact v0.1
  ·rw[Array.getElem?_setIfInBounds_ne (by decide)];exact v0.2
  ·first | (simp;done) | (rcases hpl with rfl | ⟨_,_,_,_,_,_,_,rfl⟩ <;> simp)
 ·exact fun b o hb nf=>by
   obtain⟨sl,q⟩:=g1.2.2 b o hb
   exact⟨sl,keep b _ (nr b o hb nf) q⟩
theorem yZ{Q:Unit->Shared->Prop}(kb:B.StaysIn s.heap)(hl:s.heap.FunFrames B l)(t:JK s.heap B e C x fl)(k:∀h',B.StaysIn h'->h'.FunFrames B l->JK h' B e C x .none->s.heap.UpToSlots h'->Q () { s with heap:=h' }):wpAny M A (setFlight (.ref e) none) Q E s:=by
 obtain⟨oe,vs,T,oT,ts,q1,q2,q3,q4,q5,q6,q7,q8,q9⟩:=t
 have z3:3<ts.size:=(Array.getElem?_eq_some_iff.mp q9).1
 have m8:∀b,b≠T->(s.heap.update T (Obj.mapFields (·.setIfInBounds 3 ((none:Option Addr).elim Value.none fun f=>rawInt f)))).get? b=s.heap.get? b:=fun b hb=>Heap.get?_update_other _ _ (Ne.symm hb)
 have nr:∀b o,s.heap.get? b=some o->(∀ws,o.data≠.fields ws)->b≠T:=fun b o hb nf z=>by
  rw[z,q7] at hb;cases hb;exact nf ts q8
 unfold setFlight
 refine wpAny_bind (wpAny_field q1 q3 q4 ?_)
 rw[if_pos (by simp)]
 refine wpAny_setField q7 q8 z3 (k _ (fun b o hb=>(m8 b fun z=>by rw[z,q5] at hb;cases hb).trans (kb b o hb)) (hl.of_keeps fun b o hb nf=>⟨o,(m8 b (nr b o hb nf)).trans hb,rfl⟩) ?_ fun b o hb nf=>⟨o.slots,(m8 b (nr b o hb nf)).trans hb⟩)
 exact⟨oe,vs,T,_,_,(m8 e (Ne.symm q6)).trans q1,q2,q3,q4,q5,q6,Heap.get?_update_self _ q7 (Obj.isFreed_of_fields (Obj.data_mapFields q8 _)),Obj.data_mapFields q8 _,by simp[z3]⟩
theorem EO{Q:Unit->Shared->Prop}(f:AQ B l e C x L s.heap)(k:∀h',iM B l e C x h'->s.heap.UpToSlots h'->Q () { s with heap:=h' }):wpAny M A (setFlight (.ref e) none) Q E s :=
 yZ f.1 f.2.2.1 f.2.2.2 fun h' k1 k2 k3 k4=>k h' ⟨k1,f.2.1,k2,k3⟩ k4
theorem EN{Q:Unit->Shared->Prop}(f:iM B l e C x s.heap)(k:∀h',iM B l e C x h'->s.heap.UpToSlots h'->Q () { s with heap:=h' }):wpAny M A (setFlight (.ref e) none) Q E s :=
 yZ f.1 f.2.2.1 f.2.2.2 fun h' k1 k2 k3 k4=>k h' ⟨k1,f.2.1,k2,k3⟩ k4
end
end Fg
end
section
namespace Fg
open PySem PySem.Spec L2
noncomputable def Up(B:Heap)(l:List Env)(a:Addr)(C a0:Value)(h:Heap):Prop:=B.StaysIn h/\B.get? a=none/\h.FunFrames B l/\∃fl,JK h B a C a0 fl
theorem Up.Hf{B h:Heap}{l:List Env}{a:Addr}{C a0:Value}(x:iM B l a C a0 h):Up B l a C a0 h:=⟨x.1,x.2.1,x.2.2.1,_,x.2.2.2⟩
theorem Up.ud{B h:Heap}{l:List Env}{a L:Addr}{C a0:Value}(x:AQ B l a C a0 L h):Up B l a C a0 h:=⟨x.1,x.2.1,x.2.2.1,_,x.2.2.2⟩
theorem ng{e:Value}{env env':Env}(h:env.frame=env'.frame):noteFrame e env=noteFrame e env':=by
 unfold noteFrame frameOf
 rw[h]
section
variable{M:Model}{A:Around}{E:Value->Shared->Prop}{s:Shared}{B:Heap}{env:Env}{outer:List Env}{L a:Addr}{C a0:Value}
theorem Up.note{Q:Unit->Shared->Prop}(hfr:A.frames=some (env::outer))(hf:env.frame=some L)(up:Up B (env::outer) a C a0 s.heap)(k:∀h',AQ B (env::outer) a C a0 L h'->s.heap.UpToSlots h'->Q () { s with heap:=h' }) :
  wpAny M A (noteFrame (.ref a) env) Q E s:=by
 obtain⟨st,ne,hl,fl,oe,vs,T,oT,ts,q1,⟨q2,Ez⟩,q3,q4,q5,q6,q7,q8,q9⟩:=up
 by_cases same:(fl == rawInt L)=true
 ·have e:fl=rawInt L:=by simpa using same
  subst e
  exact wpAny_noteFrame_againW hf ⟨oe,vs,T,oT,ts,q1,⟨q2,Ez.1⟩,q3,q4,q5,q6,q7,q8,q9⟩ (k s.heap ⟨st,ne,hl,oe,vs,T,oT,ts,q1,⟨q2,Ez⟩,q3,q4,q5,q6,q7,q8,q9⟩ (Heap.UpToSlots.refl _))
 ·subst q2
  unfold noteFrame
  simp only[hf]
  refine wpAny_bind (wpAny_field q1 q3 q4 ?_)
  rw[if_pos (by simp)]
  refine wpAny_bind (wpAny_field q7 q8 q9 ?_)
  rw[if_neg same]
  refine wpAny_bind (wpAny_setField q7 q8 (Array.getElem?_eq_some_iff.mp q9).1 ?_)
  have m8:∀b,b≠T->(s.heap.update T (Obj.mapFields (·.setIfInBounds 3 Value.none))).get? b=s.heap.get? b:=fun b hb=>Heap.get?_update_other _ _ fun z=>hb z.symm
  have o6:∀b o,s.heap.get? b=some o->(∀vs,o.data≠.fields vs)->b≠T:=fun b o hb hn z=>by
   subst z;rw[q7] at hb;cases hb;exact hn ts q8
  refine Ae (B:=B) (x:=a0) hfr ?_ hf ?_ ?_ ne q3 (Array.getElem?_eq_some_iff.mp q4).1 Ez fun h' x1 x2 x3 x4=>?_
  ·exact hl.of_keeps fun b o hb hn=>⟨o,by rw[m8 b (o6 b o hb hn),hb],rfl⟩
  ·rw[m8 a fun z=>q6 z.symm];exact q1
  ·intro b o e
   rw[m8 b (by rintro rfl;rw[q5] at e;cases e)]
   exact st b o e
  ·exact k h' ⟨x1,ne,x2,x3⟩ fun b o hb hn=>x4 b o (by rw[m8 b (o6 b o hb hn),hb]) hn
theorem Up.leave{Q:Unit->Shared->Prop}(hfr:A.frames=some (env::outer))(hf:env.frame=some L)(up:Up B (env::outer) a C a0 s.heap)(k:∀h',iM B outer a C a0 h'->s.heap.UpToSlots h'->Q () { s with heap:=h' }) :
  wpAny M A (leaving env (.ref a)) Q E s :=
 wpAny_bind (up.note hfr hf fun h4 held vA=>EO held fun h5 fl xE=>k h5 ⟨fl.1,fl.2.1,fl.2.2.1.2.2,fl.2.2.2⟩ (vA.trans xE))
end
theorem pD{M:Model}{A:Around}{E:Value->Shared->Prop}{s:Shared}{h B:Heap}{env:Env}{outer:List Env}{L a:Addr}{C:Value}{vs:List Value}{Q:Unit->Shared->Prop}(hfr:A.frames=some (env::outer))(hf:env.frame=some L)
  (made:Heap.MadeExcOf h s.heap a C vs) (st:B.StaysIn h) (hl:h.FunFrames B (env::outer)) (k:∀a0 h',Up B (env::outer) a C a0 h'->s.heap.UpToSlots h'->Q () { s with heap:=h' }):wpAny M A (noteFrame (.ref a) env) Q E s:=by
 obtain⟨t,he,_,_⟩:=made.there
 have ne:B.get? a=none:=by
  cases q:B.get? a with
  | none=>rfl
  | some o=>have:=st _ _ q;rw[made.new] at this;cases this
 unfold noteFrame
 simp only[hf]
 refine wpAny_bind (wpAny_field he rfl (x:=.none) rfl ?_)
 rw[if_neg (by simp)]
 refine Ae (B:=B) (x:=.ref t) hfr (hl.of_keeps fun b o hb _=>⟨o,made.keeps b o hb,rfl⟩) hf he (fun b o e=>made.keeps b o (st b o e)) ne rfl (show 1<6 by decide) ⟨rfl,rfl⟩ fun h' x1 x2 x3 x4=>?_
 exact k _ h' ⟨x1,ne,x2,_,x3⟩ x4
end Fg
end
section
namespace Fg
open PySem PySem.Spec L2
open PyProof.Rows (AllBare envOfC)
theorem lY{P:Program}{w:World}{H:Hp}{h:Heap}{a:Addr}{o:HO}(x:aS P w H h a o):∃ob,h.get? a=some ob:=by
 cases o with
 | lst xs=>obtain⟨_,_,_,_,e⟩:=x;exact⟨_,e⟩
 | tup xs=>obtain⟨_,_,_,_,e,_⟩:=x;exact⟨_,e⟩
 | dK kvs=>obtain⟨_,_,_,_,o,_,_,e,_⟩:=x;exact⟨_,e⟩
 | dT kvs=>obtain⟨_,_,_,_,o,_,_,e,_⟩:=x;exact⟨_,e⟩
 | set S n=>obtain⟨o,_,_,_,e,_⟩:=x;exact⟨_,e⟩
 | ins C dx fs=>obtain⟨_,_,_,e,_⟩:=x;exact⟨_,e⟩
 | own y=>obtain⟨_,e⟩:=x;exact⟨_,e⟩
 | xd fs=>obtain⟨_,⟨_,_,_,e,_⟩,_⟩:=x;exact⟨_,e⟩
 | Ek lo hi=>obtain⟨_,_,_,e⟩:=x;exact⟨_,e⟩
 | dP ob u=>obtain⟨e,_⟩:=x;exact⟨_,e⟩
 | D5 ps=>exact⟨_,(show h.get? a=some _ from x)⟩
 | met f y=>exact⟨_,(show h.get? a=some _ from x)⟩
 | ext φ=>obtain⟨_,⟨_,e⟩,_⟩:=x;exact⟨_,e⟩
noncomputable def Calm(B:Heap)(fr ex:List Addr)(H:Hp)(h₀:Heap):Prop:=∀b,(H b≠none\/(∃o,h₀.get? b=some o)/\b∉ex)->b∉fr->∃o,B.get? b=some o
theorem Calm.at{B h:Heap}{fr ex:List Addr}{H:Hp}{h₀:Heap}(c:Calm B fr ex H h₀)(st:B.StaysIn h){b:Addr}{o:Obj}(e:h.get? b=some o)(q:H b≠none\/(∃o,h₀.get? b=some o)/\b∉ex)(hf:b∉fr):B.get? b=some o:=by
 obtain⟨o',e'⟩:=c b q hf
 have:=st _ _ e'
 rw[e] at this;cases this
 exact e'
noncomputable def fh(P:Program)(w:World):AU:=fun outer H s E e s'=>∃(H':Hp) (a:Addr) (a0 C:Value) (B:Heap),e=.ref a/\s'.os=s.os/\AllBare s'.gens/\Un (frs outer) [] H H' s.heap s'.heap/\gr P w H' s'.heap /\
 iM B outer a C a0 s'.heap/\Calm B (frs outer) [] H' s.heap/\E C none H'
noncomputable def iO(X:Cx)(E:XS)(e:Value)(s:Shared):Prop:=∃(pins:List (Addr×Obj)) (σ:St) (H:Hp) (a:Addr) (a0 C:Value) (B:Heap),e=.ref a/\Inv X pins σ H s /\
 Up B X.stack a C a0 s.heap/\Calm B (frs X.stack) X.ex H X.s₀.heap/\(∀p∈X.pn,B.get? p.1=some p.2)/\E C none σ H
noncomputable def Fw(X:Cx)(E:XS)(e:Value)(s:Shared):Prop:=∃(pins:List (Addr×Obj)) (σ:St) (H:Hp) (a:Addr) (C:Value) (vs:List Value) (h:Heap),e=.ref a/\Inv X pins σ H { s with heap:=h }/\Heap.MadeExcOf h s.heap a C vs/\E C none σ H
theorem nE{fs fr ex:List Addr}{H₀ H H₁:Hp}{h₀ h h' B:Heap}(u:Un fs ex H₀ H h₀ h)(d7:Calm B fr ex H₁ h₀)(jx:B.StaysIn h)(st:B.StaysIn h')(sm:∀b∈fr,∀o,h.get? b=some o->∃sl,h'.get? b=some { o with slots:=sl })
  (frd:∀b∈fr,b<h₀.objs.size->b∈fs):Un fs ex H₀ H h₀ h' where
 keep:=fun b o e n0 hb hx=>st _ _ (d7.at jx (u.keep b o e n0 hb hx) (.inr ⟨⟨_,e⟩,hx⟩) fun z=>hb (frd b z (Heap.lt_size e)))
 slot:=fun b o e n0 hb hx=>by
  obtain⟨sl,e1⟩:=u.slot b o e n0 hb hx
  by_cases z:b∈fr
  ·obtain⟨Eh,e2⟩:=sm b z _ e1
   exact⟨Eh,e2⟩
  ·exact⟨sl,st _ _ (d7.at jx e1 (.inr ⟨⟨_,e⟩,hx⟩) z)⟩
 free:=u.free
 there:=fun b o e hx=>by
  obtain⟨o',e1⟩:=u.there b o e hx
  by_cases z:b∈fr
  ·obtain⟨Eh,e2⟩:=sm b z _ e1
   exact⟨_,e2⟩
  ·exact⟨_,st _ _ (d7.at jx e1 (.inr ⟨⟨_,e⟩,hx⟩) z)⟩
 tups:=u.tups
 dF:=u.dF
 gb:=u.gb
theorem jL{P:Program}{w:World}{fr ex:List Addr}{H:Hp}{h₀ h h' B:Heap}(k:gr P w H h)(d7:Calm B fr ex H h₀)(jx:B.StaysIn h)(st:B.StaysIn h')(free:∀b∈fr,H b=none):gr P w H h':=fun a o e =>
 (k a o e).stay (fun b u hb e'=>by
  have tr:H b≠none:=by
   rcases hb with rfl | hb
   ·rw[e];simp
   ·rw[hb];simp
  exact st _ _ (d7.at jx e' (.inl tr) fun z=>tr (free b z))) (fun _ q=>q) fun _ _ q=>q
section
variable{X:Cx}{pins:List (Addr×Obj)}{σ:St}{H:Hp}{s:Shared}
theorem kj(I:Inv X pins σ H s):∀b∈frs X.stack,∀o,s.heap.get? b=some o->∀vs,o.data≠.fields vs:=fun b hb o e vs=>by
 obtain⟨_,o',e',d⟩:=I.stack.mem hb
 rw[e] at e';cases e'
 exact d vs
theorem rV{h':Heap}(I:Inv X pins σ H s)(sm:s.heap.UpToSlots h'):∀b∈frs X.stack,∀o,s.heap.get? b=some o->∃sl,h'.get? b=some { o with slots:=sl }:=fun b hb o e=>sm b o e (kj I b hb o e)
theorem nC(I:Inv X pins σ H s):∀b∈frs X.stack,b<X.s₀.heap.objs.size->b∈X.fs:=fun b hb hl=>by
 rcases List.mem_cons.mp (I.ez b hb) with e | z
 ·subst e;exact absurd (Nat.lt_of_lt_of_le hl I.ok.above) (Nat.lt_irrefl _)
 ·exact z
theorem fW(I:Inv X pins σ H s){b:Addr}{o:Obj}(e:X.s₀.heap.get? b=some o)(hx:b∉X.ex):∃o',s.heap.get? b=some o':=I.base.there b o e hx
theorem passes{E:XS}(hx:∀e s,iO X E e s->X.xe e s)(pins:List (Addr×Obj))(σ:St)(H:Hp)(s:Shared)(e:Value)(s':Shared)(I:Inv X pins σ H s)(q:fh X.prog X.w X.stack H s (fun cv x H'=>E cv x σ H') e s'):X.xe e s':=by
 obtain⟨H',a,a0,C,B,rfl,os,bare,un,hok,fl,d7,q⟩:=q
 have I':=I.AB (ch:=[]) os un hok bare (fun b z=>absurd z (by simp))
 refine hx _ _ ⟨pins,σ,H',a,a0,C,B,rfl,I',.Hf fl,fun b hb hf=>d7 b (hb.imp id fun⟨⟨o,z⟩,n⟩=>⟨fW I z n,by simp⟩) hf,fun p hp=>?_,q⟩
 obtain⟨p1,p2,p3,p4,_⟩:=I'.pin p (List.mem_append_left _ hp)
 refine d7.at fl.1 p1 (.inr ⟨⟨_,(I.pin p (List.mem_append_left _ hp)).1⟩,by simp⟩) fun z=>?_
 rcases List.mem_cons.mp (I.ez _ z) with e | z
 ·exact p3 e
 ·exact p4 z
end
section
variable{P:Program}{w:World}{K:W.Frag}{mg:Str->Option Value}{base:Heap}{N:List Str}{qual:Str}{scope:Scope}{f:Addr}{cd:Value}{A:Around}{outer:List Env}{s:Shared}{H:Hp}{E:XK}
theorem pR(b:Addr)(h:b∈frs (envOfC qual scope s.heap.objs.size f cd::outer)):b=s.heap.objs.size\/b∈frs outer:=by
 unfold frs at h
 rw[List.filterMap_cons] at h
 exact List.mem_cons.mp h
theorem yT{pins:List (Addr×Obj)}{σ:St}{H':Hp}{s':Shared}{a:Addr}{a0 C:Value}{B h':Heap}(I:Inv (iG (fh P w) P w K mg base N qual scope f cd A outer s H E) pins σ H' s')(jx:B.StaysIn s'.heap)(d7:Calm B (frs (envOfC qual scope s.heap.objs.size f cd::outer)) [] H' s.heap)
  (q:E C none H') (Dc:iM B outer a C a0 h') (sm:s'.heap.UpToSlots h'):fh P w outer H s E (.ref a) { s' with heap:=h' }:=by
 refine⟨H',a,a0,C,B,rfl,I.os,I.bare,nE I.base d7 jx Dc.1 (rV I sm) (nC I),jL I.hok d7 jx Dc.1 I.fT,Dc,fun b hb hf=>d7 b hb fun z=>?_,q⟩
 rcases pR b z with e | z
 ·subst e
  rcases hb with hb | ⟨⟨o,hb⟩,_⟩
  ·exact hb I.free
  ·exact absurd (Heap.lt_size hb) (Nat.lt_irrefl _)
 ·exact hf z
theorem vV(e:Value)(s':Shared)(q:iO (iG (fh P w) P w K mg base N qual scope f cd A outer s H E) (fun cv x _ H'=>E cv x H') e s'):(iG (fh P w) P w K mg base N qual scope f cd A outer s H E).xe e s':=by
 obtain⟨pins,σ,H',a,a0,C,B,rfl,I,up,d7,_,q⟩:=q
 exact up.leave (L:=s.heap.objs.size) I.ok.frames rfl fun h' Dc sm=>yT I up.1 d7 q Dc sm
theorem leave_new(e:Value)(s':Shared)(q:Fw (iG (fh P w) P w K mg base N qual scope f cd A outer s H E) (fun cv x _ H'=>E cv x H') e s'):(iG (fh P w) P w K mg base N qual scope f cd A outer s H E).xe e s':=by
 obtain⟨pins,σ,H',a,C,vs,h,rfl,I,made,q⟩:=q
 have hin:∀env∈(envOfC qual scope s.heap.objs.size f cd::outer),∀b,env.frame=some b->b∈frs (envOfC qual scope s.heap.objs.size f cd::outer):=fun env he b hb=>List.mem_filterMap.mpr ⟨env,he,hb⟩
 refine wpAny_bind (pD (B:=W.hideAll h (frs (envOfC qual scope s.heap.objs.size f cd::outer))) (L:=s.heap.objs.size) I.ok.frames rfl made (fun b o q=>W.of_hideAll _ q) (W.funFrames_hide I.stack hin) fun a0 h4 Jy vA=>yZ Jy.1 Jy.2.2.1 Jy.2.2.2.choose_spec fun h' k1 k2 k3 xE=>?_)
 have Dc:iM (W.hideAll h (frs (envOfC qual scope s.heap.objs.size f cd::outer))) outer a C a0 h':=⟨k1,Jy.2.1,k2.2.2,k3⟩
 have sm:=vA.trans xE
 have jx:(W.hideAll h (frs (envOfC qual scope s.heap.objs.size f cd::outer))).StaysIn h:=fun b o q=>W.of_hideAll _ q
 have d7:Calm (W.hideAll h (frs (envOfC qual scope s.heap.objs.size f cd::outer))) (frs (envOfC qual scope s.heap.objs.size f cd::outer)) [] H' s.heap:=fun b hb hf=>by
  have:∃o,h.get? b=some o:=by
   rcases hb with hb | ⟨⟨o,hb⟩,_⟩
   ·cases e:H' b with
    | none=>exact absurd e hb
    | some o=>exact lY (I.hok b o e)
   ·exact fW I hb (by simp[iG])
  obtain⟨o,e⟩:=this
  exact⟨o,W.hideAll_get _ e hf⟩
 have sm':h.UpToSlots h':=(Heap.UpToSlots.of_keeps made.keeps).trans sm
 refine⟨H',a,_,C,_,rfl,I.os,I.bare,nE I.base d7 jx Dc.1 (rV I sm') (nC I),jL I.hok d7 jx Dc.1 I.fT,Dc,fun b hb hf=>d7 b hb fun z=>?_,q⟩
 rcases pR b z with e | z
 ·subst e
  rcases hb with hb | ⟨⟨o,hb⟩,_⟩
  ·exact hb I.free
  ·exact absurd (Heap.lt_size hb) (Nat.lt_irrefl _)
 ·exact hf z
end
end Fg
end
section
namespace Fg
open PySem PySem.Spec L2
open PyProof.Rows (AllBare envOfC)
noncomputable def n8(K:W.Frag)(C:Addr)(bmB:List Value)(newId:String)(bm:List Value):Prop :=
 ∃nm q N bs hdct sn sub ab col dd k0 k1 k2 k3 k5, K.lookup C=some (excClassObj nm q C N bs bm hdct sn sub ab col dd k0 k1 k2 k3 k5 newId)/\W.nsOkIn K N=true/\W.nsIn K N "__init__" = some none/\W.tailIn K bmB bm=true
variable{X:Cx}{E:XS}
theorem pe{x:Str}{C:Addr}{B newId initId:String}{bmB bm:List Value}{a:Expr}{t:TA}{np cpos pos:Pos}(hm:X.mg x=some (.ref C))(hk:X.env.kindOf x=some .globalImplicit)(hd:(x == ("__debug__" : Str))=false)
  (EC:n8 X.K C bmB newId bm) (FB:ExcBaseFacts B newId initId bmB) (calm:X.calm=true) (hs:starEach [a] X.env=[(false,eval a X.env)]) (ha:PA X [a] t) (hx:∀e s,Fw X E e s->X.xe e s) :
  PS X (.Raise (some (.Call (.Name x np) [a] [] cpos)) none pos) (fun D σ H=>t σ H fun vs H1=>vs.length<=sizeLine/\E (.ref C) none σ H1):=by
 obtain⟨nm,q,N,bs,hdct,sn,sub,ab,col,dd,k0,k1,k2,k3,k5,lk,ok,ni,tl⟩:=EC
 intro pins s σ H D I ht
 have tail:∀{h:Heap},X.K.In h->PySem.OwnTail h bmB bm:=fun KX=>W.tail_of_in KX tl
 refine wpAny_Raise_call_subT (C:=C) (nm:=nm) (q:=q) (N:=N) (bs:=bs) (bm:=bm) (hdct:=hdct) (sn:=sn) (sub:=sub) (ab:=ab) (col:=col) (dd:=dd) (k0:=k0) (k1:=k1) (k2:=k2) (k3:=k3) (k5:=k5) FB (mN:=X.base.nsMap N)
  ((tail I.fM).hasType FB.hasBase) (I.ok.hd calm) (by rw[hs];rfl) (W.nsMap_none_of_in I.mod.A0 ok ni)
  (Calls.Name_function_global I.ok.kind hk (Calls.loadGlobal_global (by rw[I.ok.glob];exact I.mod.glob.keeps I.bk) hm ⟨rfl,?_⟩) hd)
 have z:=ha cpos pins s σ H _ I ht
 rw[hs] at z ⊢
 refine Calls.evalArgs_plain (aT z fun us s2 y=>?_)
 obtain⟨vs,H1,I1,r,hl,q⟩:=y
 refine⟨rfl,by rw[<- r.length];exact hl,I1.fM _ _ lk,(Heap.Ns.of_isNs (W.isNs_of_in I.mod.A0 ok)).keeps I1.bk,tail I1.fM,fun h' e made=>hx _ _ ⟨pins,σ,H1,e,.ref C,us,s2.heap,rfl,I1,made,q⟩⟩
end Fg
end
section
namespace Fg
open PySem PySem.Spec L2
noncomputable abbrev fq(X:Cx)(pins:List (Addr×Obj)):Cx:={ X with pn:=X.pn++pins }
theorem sI{X:Cx}{pins:List (Addr×Obj)}(ok:X.Ok):(fq X pins).Ok :=
 ⟨ok.mod,ok.kind,ok.glob,ok.blt,ok.above,ok.inj,ok.has,ok.Fp,ok.hd,ok.frames,ok.stk,ok.LL,ok.bs,ok.wG,ok.pA,ok.rZ,ok.gj,ok.zK⟩
theorem n9{X:Cx}{pins:List (Addr×Obj)}(ok:(fq X pins).Ok):X.Ok :=
 ⟨ok.mod,ok.kind,ok.glob,ok.blt,ok.above,ok.inj,ok.has,ok.Fp,ok.hd,ok.frames,ok.stk,ok.LL,ok.bs,ok.wG,ok.pA,ok.rZ,ok.gj,ok.zK⟩
section
variable{X:Cx}{pins j0:List (Addr×Obj)}{σ:St}{H:Hp}{s:Shared}
theorem zw(I:Inv X pins σ H s):Inv (fq X pins) [] σ H s:=⟨sI I.ok,I.os,I.bare,I.base,I.loc,I.cell,I.free,I.bM,fun p hp=>I.pin p (by simpa using hp),I.hok,I.len⟩
theorem eL(I:Inv (fq X pins) j0 σ H s):Inv X pins σ H s:=⟨n9 I.ok,I.os,I.bare,I.base,I.loc,I.cell,I.free,I.bM,fun p hp=>I.pin p (List.mem_append_left _ hp),I.hok,I.len⟩
theorem lO{D:Ends}{f:Flow}{s':Shared}(h:SP (fq X pins) j0 D f s'):SP X pins D f s':=by
 cases f with
 | next=>obtain⟨σ',H',I,q⟩:=h;exact⟨σ',H',eL I,q⟩
 | brk=>obtain⟨σ',H',I,q⟩:=h;exact⟨σ',H',eL I,q⟩
 | cont=>obtain⟨σ',H',I,q⟩:=h;exact⟨σ',H',eL I,q⟩
 | ret u=>obtain⟨v,σ',H',I,r,q⟩:=h;exact⟨v,σ',H',eL I,r,q⟩
theorem iz{B h':Heap}(I:Inv X pins σ H s)(d7:Calm B (frs X.stack) X.ex H X.s₀.heap)(hp:∀p∈X.pn,B.get? p.1=some p.2)(jx:B.StaysIn s.heap)(st:B.StaysIn h')(sm:s.heap.UpToSlots h'):Inv X [] σ H { s with heap:=h' }:=by
 have cel:∀c v,s.heap.IsCell c v->h'.IsCell c v:=fun c v ⟨o,e,d⟩=>by
  obtain⟨sl,e'⟩:=sm c o e (fun vs z=>by rw[d] at z;cases z)
  exact⟨_,e',d⟩
 refine⟨I.ok,I.os,I.bare,nE I.base d7 jx st (rV I sm) (nC I),?_,fun x c e=>?_,I.free,I.bM,fun p q=>?_,jL I.hok d7 jx st I.fT,I.len⟩
 ·obtain⟨m,hn,hv⟩:=I.loc
  refine⟨m,sm.ns hn,fun i x v h1 h2 h3=>?_⟩
  obtain⟨u,r,lk⟩:=hv i x v h1 h2 h3
  refine⟨u,r,lk.imp id fun⟨z,c,h4,h5⟩=>⟨z,c,h4,cel _ _ h5⟩⟩
 ·obtain⟨v,h5⟩:=I.cell x c e
  exact⟨v,cel _ _ h5⟩
 ·have q':p∈X.pn:=by simpa using q
  obtain⟨_,p2⟩:=I.pin p (List.mem_append_left _ q')
  exact⟨st _ _ (hp p q'),p2⟩
end
noncomputable abbrev suite(X:Cx)(e:Value):Cx:={ X with A:=X.A.mark (some e),calm:=false,xe:=fun _ _=>False }
section
variable{X:Cx}{pins j0:List (Addr×Obj)}{σ:St}{H:Hp}{s:Shared}{e:Value}
theorem xx(ok:X.Ok):(suite X e).Ok :=
 ⟨ok.mod,ok.kind,ok.glob,ok.blt,ok.above,ok.inj,ok.has,ok.Fp,(fun z=>by cases z),ok.frames,ok.stk,ok.LL,ok.bs,ok.wG,ok.pA,ok.rZ,ok.gj,ok.zK⟩
theorem mj(I:Inv X pins σ H s):Inv (suite X e) pins σ H s:=⟨xx I.ok,I.os,I.bare,I.base,I.loc,I.cell,I.free,I.bM,I.pin,I.hok,I.len⟩
theorem cu(ok:X.Ok)(I:Inv (suite X e) pins σ H s):Inv X pins σ H s:=⟨ok,I.os,I.bare,I.base,I.loc,I.cell,I.free,I.bM,I.pin,I.hok,I.len⟩
theorem qL(ok:X.Ok){D:Ends}{f:Flow}{s':Shared}(h:SP (suite X e) pins D f s'):SP X pins D f s':=by
 cases f with
 | next=>obtain⟨σ',H',I,q⟩:=h;exact⟨σ',H',cu ok I,q⟩
 | brk=>obtain⟨σ',H',I,q⟩:=h;exact⟨σ',H',cu ok I,q⟩
 | cont=>obtain⟨σ',H',I,q⟩:=h;exact⟨σ',H',cu ok I,q⟩
 | ret u=>obtain⟨v,σ',H',I,r,q⟩:=h;exact⟨v,σ',H',cu ok I,r,q⟩
end
section
variable{M:Model}{A:Around}{E:Value->Shared->Prop}{nm q:Str}{C N:Addr}{bs bm:List Value}{hdct:Bool}{sn:List Str}{sub:List Value}{ab:Bool}{col:Option Bool}{dd:Option Addr}{k0 k1 k2 k3 k5:Option Value}{newId:String}
 {nm' q':Str} {C' N':Addr} {bs' bm':List Value} {zF:Bool} {sn':List Str} {sub':List Value} {ab':Bool} {col':Option Bool} {A5:Option Addr} {l0 l1 l2 l3 l5:Option Value} {newId':String}
theorem jn{h:Heap}{g:Array GenState}{d:Drawn}{t:Nat}{os:OsState}{e:Addr}{oe:Obj}{b:Bool}{Q:Bool->Shared->Prop}
  (hC:h.get? C=some (excClassObj nm q C N bs bm hdct sn sub ab col dd k0 k1 k2 k3 k5 newId)) (hD:h.get? C'=some (excClassObj nm' q' C' N' bs' bm' zF sn' sub' ab' col' A5 l0 l1 l2 l3 l5 newId')) (he:h.get? e=some oe) (hcls:oe.cls=.ref C)
  (hb':(Value.ref C'::bm').contains (.type "BaseException")=true) (hb:(Value.ref C::bm).contains (.ref C')=b) (hq:Q b ⟨h, g, d, t, os⟩):wpAny M A (excMatches (.ref e) (.ref C')) Q E ⟨h, g, d, t, os⟩:=by
 have f:=tc_notTuple
 unfold excMatches
 repeat (first | (with_reducible refine wpAny_loadPart_at he ?_;rw[hcls]) | with_reducible refine wpAny_loadPart_at hD ?_ | (with_reducible refine wpAny_isSubtype_exc hD ?_;rw[hb']) | (with_reducible refine wpAny_isSubtype_exc hC ?_;rw[hb]) | wp_step)
 cases b <;> (wp_walk;exact hq)
end
section
variable{X:Cx}{pins:List (Addr×Obj)}{σ:St}{H:Hp}{s:Shared}
theorem C0{M:Model}{A:Around}{E:Value->Shared->Prop}{i:Nat}{x:Str}{pos:Pos}{Q:Unit->Shared->Prop}(I:Inv X pins σ H s)(hN:X.N.Nodup)(hi:X.N[i]? = some x)(hk:X.env.scope.names.lookup x=some .local)
  (h:∀s',Inv X pins (σ.set i none) H s'->Q () s'):wpAny M A (do bindName X.env x .none;unbindBehindTheSuite X.env x pos) Q E s:=by
 obtain⟨m,hn,hl⟩:=id I.loc
 have hcls:(X.env.scope.kind == .class||(X.env.scope.kind == .module&&X.env.locals != X.env.globals))=false:=by rw[I.ok.kind];rfl
 have Aw:=I.Aw
 refine wpAny_nameGoes_keeps hk hn hcls fun h' v hn' hs=>?_
 have off:∀b o,X.s₀.heap.get? b=some o->h'.get? b=s.heap.get? b:=fun b o e=>hs.2 b (Nat.ne_of_lt (Nat.lt_of_lt_of_le (Heap.lt_size e) I.ok.above))
 refine h _ ⟨I.ok,I.os,I.bare,⟨fun b o e n hb hx=>(off b o e).trans (I.base.keep b o e n hb hx),fun b o e n hb hx=>?_,I.base.free,fun b o e hx=>?_,I.base.tups,I.base.dF,I.base.gb⟩,⟨_,hn',fun j y v' e1 e2 e3=>?_⟩,fun y c e=>?_,I.free,I.bM,fun p hp=>?_,fun b ob e=>?_,by simpa using I.len⟩
 ·obtain⟨sl,e1⟩:=I.base.slot b o e n hb hx
  exact⟨sl,(off b o e).trans e1⟩
 ·obtain⟨o',e1⟩:=I.base.there b o e hx
  exact⟨o',(off b o e).trans e1⟩
 ·by_cases hj:j=i
  ·subst hj
   rw[List.getElem?_set] at e2
   split at e2
   ·split at e2 <;> cases e2
   ·rename_i z;exact absurd rfl z
  ·rw[List.getElem?_set_ne (Ne.symm hj)] at e2
   obtain⟨u',r',q⟩:=hl j y v' e1 e2 e3
   refine⟨u',r',q.imp (fun⟨k,e⟩=>⟨k,?_⟩) fun⟨k,c,e,z⟩=>⟨k,c,e,z.sameBut hs (Aw y c e)⟩⟩
   have:y≠x:=fun e=>hj (j5 hN e1 (e ▸ hi))
   simp[this,e]
 ·obtain⟨w',z⟩:=I.cell y c e
  exact⟨w',z.sameBut hs (Aw y c e)⟩
 ·obtain⟨e,n,ne,nf,d⟩:=I.pin p hp
  exact⟨(hs.2 p.1 ne).trans e,n,ne,nf,d⟩
 ·refine (I.hok b ob e).stay (fun c w' hc q=>(hs.2 c ?_).trans q) (fun _ q=>q) fun _ _ q=>q
  rintro rfl
  rcases hc with z | z
  ·rw[<- z,I.free] at e;cases e
  ·rw[I.free] at z;cases z
theorem FF{a:Addr}{o:HO}{oe:Obj}{vs:Array Value}(I:Inv X pins σ H s)(h0:H a=none)(he:s.heap.get? a=some oe)(hd:oe.data=.fields vs)(old:∀ob,X.s₀.heap.get? a=some ob->a∈X.ex)(pn:∀p∈X.pn++pins,p.1≠a)
  (new:aS X.prog X.w (upd H a o) s.heap a o):Inv X pins σ (upd H a o) s:=by
 have ne:∀{b u},H b=some u->b≠a:=fun e z=>by rw[z,h0] at e;cases e
 refine⟨I.ok,I.os,I.bare,⟨I.base.keep,I.base.slot,fun b ob e n hx=>?_,I.base.there,fun b xs e=>?_,fun b ob u e=>?_,fun b ps e=>?_⟩,I.loc,I.cell,?_,fun x c e=>?_,fun p hp=>?_,fun b u e=>?_,I.len⟩
 ·rw[ak (by rintro rfl;exact hx (old ob e))];exact I.base.free b ob e n hx
 ·have:=I.base.tups b xs e
  rw[ak (ne this)];exact this
 ·have:=I.base.dF b ob u e
  rw[ak (ne this)];exact this
 ·obtain⟨more,q⟩:=I.base.gb b ps e
  exact⟨more,by rw[ak (ne q)];exact q⟩
 ·obtain⟨m,⟨oL,es,ep,ho,hdL,_⟩,_⟩:=I.loc
  rw[ak (by intro z;rw[z,he] at ho;cases ho;rw[hd] at hdL;cases hdL)];exact I.free
 ·obtain⟨v,oc,h1,h2⟩:=I.cell x c e
  rw[ak (by rintro rfl;rw[he] at h1;cases h1;rw[hd] at h2;cases h2)];exact I.bM x c e
 ·obtain⟨e,n,r⟩:=I.pin p hp
  exact⟨e,by rw[ak (pn p hp)];exact n,r⟩
 ·by_cases hb:b=a
  ·subst hb;rw[av] at e;cases e;exact new
  ·rw[ak hb] at e
   exact (I.hok b u e).stay (fun c v _ q=>q) (fun c q=>by rw[ak (ne q)];exact q) fun c xs q=>by rw[ak (ne q)];exact q
end
noncomputable abbrev TX:=Addr->TS
noncomputable def asR(i:Nat)(t:Value->TS):TX:=fun C D σ H=>∀a oe vs,H a=none->oe.data=.fields vs->vs[2]? = some .none->t (.ref a) { nx:=fun σ' H'=>D.nx (σ'.set i none) H',rt:=fun _ _=>False } (σ.set i (some (.ref a))) (upd H a (.dP oe (.ext (Jp a C))))
noncomputable def pick(mro:List Value):List (Addr×TX)->Option TX
 | []=>none
 | (C',t)::r=>if mro.contains (.ref C') then some t else pick mro r
noncomputable def EH(K:W.Frag)(rs:List (Addr×TX))(D:Ends):XS:=fun cv x σ H=>∃C bmB newId bm t,cv=.ref C/\n8 K C bmB newId bm/\pick (.ref C::bm) rs=some t/\t C D σ H
inductive PH(X:Cx):List ExceptHandler->List (Addr×TX)->Prop
 | nil:PH X [] []
 | cons {x:Str} {C':Addr} {bmB:List Value} {newId:String} {bm:List Value} {b₀:Stmt} {b:List Stmt} {t:TS} {np pos:Pos} {hs:List ExceptHandler} {rs:List (Addr×TX)} :
   X.mg x=some (.ref C')->Gl X x->(x == ("__debug__" : Str))=false->n8 X.K C' bmB newId bm->bm.contains (.type "BaseException")=true->(∀e, je (suite X e) (b₀::b) t)->PH X hs rs ->
   PH X (.ExceptHandler (some (.Name x np)) none (b₀::b) pos::hs) ((C',fun _=>t)::rs)
 | as {x y:Str} {i:Nat} {C':Addr} {bmB:List Value} {newId:String} {bm:List Value} {b₀:Stmt} {b:List Stmt} {t:Value->TS} {np pos:Pos} {hs:List ExceptHandler} {rs:List (Addr×TX)} :
   X.mg x=some (.ref C')->Gl X x->(x == ("__debug__" : Str))=false->n8 X.K C' bmB newId bm->bm.contains (.type "BaseException")=true->X.N.Nodup->X.N[i]? = some y->X.env.scope.names.lookup y=some .local->(∀e, je (suite X e) (b₀::b) (t e))->PH X hs rs ->
   PH X (.ExceptHandler (some (.Name x np)) (some y) (b₀::b) pos::hs) ((C',asR i t)::rs)
section
variable{X:Cx}{C a:Addr}{a0:Value}{B:Heap}{σ:St}{H:Hp}{s:Shared}
theorem zG(I:Inv X [] σ H s)(fl:iM B X.stack a (.ref C) a0 s.heap)(d7:Calm B (frs X.stack) X.ex H X.s₀.heap)(hp:∀p∈X.pn,B.get? p.1=some p.2):H a=none/\∃oe vs,oe.data=.fields vs/\vs[2]? = some .none/\Inv X [] σ (upd H a (.dP oe (.ext (Jp a C)))) s:=by
 obtain⟨oe,vs,T,oT,ts,he,⟨hc,hv⟩,hd,_⟩:=fl.2.2.2
 have nf:a∉frs X.stack:=fun z=>kj I a z oe he vs hd
 have no:∀{P:Prop},(∃o,B.get? a=some o)->P:=fun⟨o,e⟩=>by rw[fl.2.1] at e;cases e
 have h0:H a=none:=by
  cases e:H a with
  | none=>rfl
  | some u=>exact no (d7 a (.inl (by rw[e];simp)) nf)
 refine⟨h0,oe,vs,hd,hv.2,FF I h0 he hd (fun ob e=>?_) (fun p q z=>?_) ⟨he,⟨oe,he,hc⟩,⟨oe,he⟩,fun h1 h2 ⟨o,q,k⟩ st=>⟨o,st o q,k⟩⟩⟩
 ·by_cases hx:a∈X.ex
  ·exact hx
  ·exact no (d7 a (.inr ⟨⟨ob,e⟩,hx⟩) nf)
 ·exact no ⟨_,z ▸ hp p (by simpa using q)⟩
end
theorem handle{X:Cx}{hs:List ExceptHandler}{rs:List (Addr×TX)}(ph:PH X hs rs){C a:Addr}{a0:Value}{B:Heap}{bmB:List Value}{newId:String}{bm:List Value}{t:TX}{D:Ends}{σ:St}{H:Hp}{s:Shared}(EC:n8 X.K C bmB newId bm)(pk:pick (.ref C::bm) rs=some t)
  (I:Inv X [] σ H s) (fl:iM B X.stack a (.ref C) a0 s.heap) (d7:Calm B (frs X.stack) X.ex H X.s₀.heap) (hp:∀p∈X.pn,B.get? p.1=some p.2) (ht:t C D σ H) :
  wpAny (model X.prog X.w) X.A (handleBy (.ref a) X.env hs) (SP X [] D) X.xe s:=by
 obtain⟨nm,q,N,bs,hdct,sn,sub,ab,col,dd,k0,k1,k2,k3,k5,lk,_⟩:=EC
 obtain⟨oe,CZ,hcl⟩:=fl.there
 obtain⟨hp',g,d,tk,os⟩:=s
 induction ph with
 | nil=>cases pk
 | cons hm hg hd EC' hb' hsu ph ih =>
  obtain⟨nm',q',N',bs',zF,sn',sub',ab',col',A5,l0,l1,l2,l3,l5,lk',_⟩:=EC'
  refine wpAny_handleBy_cons (codeAny_handlers_test (Calls.Name_function_global I.ok.kind hg (Calls.loadGlobal_global (by rw[I.ok.glob];exact I.mod.glob.keeps I.bk) hm ?_) hd)) (by intro q;cases q)
  refine jn (I.fM _ _ lk) (I.fM _ _ lk') CZ hcl (by rw[List.contains_cons,hb',Bool.or_true]) rfl ?_
  simp only[pick] at pk
  cases hc:(Value.ref C::bm).contains (.ref _) with
  | true =>
   rw[hc] at pk
   simp only[if_true,Option.some.injEq] at pk
   subst pk
   refine codeAny_handlers_suite (EN fl fun h6 NI Ko=>?_)
   have I6:=iz I d7 hp fl.1 NI.1 Ko
   exact wpAny_mono (hsu (.ref a) [] _ σ H D (mj I6) ht) (fun f s2 z=>qL I.ok z) fun _ _ z=>z.elim
  | false =>
   rw[hc] at pk
   exact ih pk
 | as hm hg hd EC' hb' hN hi hl hsu ph ih =>
  obtain⟨nm',q',N',bs',zF,sn',sub',ab',col',A5,l0,l1,l2,l3,l5,lk',_⟩:=EC'
  refine wpAny_handleBy_cons (codeAny_handlers_test (Calls.Name_function_global I.ok.kind hg (Calls.loadGlobal_global (by rw[I.ok.glob];exact I.mod.glob.keeps I.bk) hm ?_) hd)) (by intro q;cases q)
  refine jn (I.fM _ _ lk) (I.fM _ _ lk') CZ hcl (by rw[List.contains_cons,hb',Bool.or_true]) rfl ?_
  simp only[pick] at pk
  cases hc:(Value.ref C::bm).contains (.ref _) with
  | true =>
   rw[hc] at pk
   simp only[if_true,Option.some.injEq] at pk
   subst pk
   refine codeAny_handlers_suite_as (EN fl fun h6 NI Ko=>?_)
   obtain⟨h0,oe',vs',hd',hv',I6⟩:=zG (iz I d7 hp fl.1 NI.1 Ko) NI d7 hp
   refine jR (X:=suite X (.ref a)) (v:=.ref a) (mj I6) hN hi (.inl hl) rfl (fun s2 I2=>?_) (.inr hl)
   refine wpAny_mono (hsu (.ref a) [] s2 _ _ _ I2 (ht a oe' vs' h0 hd' hv')) (fun f s3 z=>?_) fun _ _ z=>z.elim
   cases f with
   | next =>
    obtain⟨σ',H',I3,q⟩:=z
    exact C0 (cu I.ok I3) hN hi hl fun s4 I4=>⟨_,H',I4,q⟩
   | brk=>obtain⟨_,_,_,q⟩:=z;exact q.elim
   | cont=>obtain⟨_,_,_,q⟩:=z;exact q.elim
   | ret u=>obtain⟨_,_,_,_,_,q⟩:=z;exact q.elim
  | false =>
   rw[hc] at pk
   exact ih pk
theorem Gy{X:Cx}{body:List Stmt}{h₀:ExceptHandler}{hs:List ExceptHandler}{pos:Pos}{rs:List (Addr×TX)}{t:Ends->TS}(stk:X.stack=X.env::X.outer)(hf:X.env.frame=some X.env.locals)
  (hb:∀pins D,je ((fq X pins).bJ (iO (fq X pins) (EH X.K rs D))) body (t D)) (ph:∀pins,PH (fq X pins) (h₀::hs) rs):PS X (.Try body (h₀::hs) [] [] pos) (fun D σ H=>t D D σ H):=by
 intro pins s σ H D I ht
 refine wpAny_Try_except (wpAny_mono (hb pins D [] s σ H D ((zw I).bJ _) ht) (fun f s1 z=>?_) fun e s1 z=>?_)
 ·have z':=lO (SP.aY z)
  cases f with
  | next=>exact wpAny_execs_nil z'
  | brk=>exact z'
  | cont=>exact z'
  | ret u=>exact z'
 ·obtain⟨j0,σ1,H1,a,a0,cv,B,rfl,I1,fl,d7,hp,C,bmB,newId,bm,tt,rfl,EC,pk,hts⟩:=z
  have go:∀h5,iM B (X.env::X.outer) a (.ref C) a0 h5->s1.heap.UpToSlots h5->wpAny (model X.prog X.w) X.A (handleBy (.ref a) X.env (h₀::hs)) (SP X pins D) X.xe { s1 with heap:=h5 }:=fun h5 NJ xE=>by
   have I5:=iz I1 d7 hp fl.1 NJ.1 xE
   exact wpAny_mono (handle (ph pins) EC pk I5 (by show iM B X.stack _ _ _ _;rw[stk];exact NJ) d7 hp hts) (fun f s2 z=>lO z) fun _ _ z=>z
  exact Up.note (L:=X.env.locals) (env:=X.env) (outer:=X.outer) (by rw[I.ok.frames,stk]) hf (by rw[<- stk];exact fl) fun h4 held vA=>EO held fun h5 NJ xE=>go h5 NJ (vA.trans xE)
end Fg
end
section
namespace Fg
open PySem PySem.Spec L2
theorem Up.pass{M:Model}{A:Around}{E:Value->Shared->Prop}{s:Shared}{α:Type}{Q:α->Shared->Prop}{B:Heap}{l:List Env}{a:Addr}{C a0:Value}{env:Env}{what:String}(up:Up B l a C a0 s.heap)
  (k:∀h',Up B l a C a0 h'->s.heap.UpToSlots h'->E (.ref a) { s with heap:=h' }):wpAny M A (passOn what (.ref a) env:Sem α) Q E s:=by
 obtain⟨st,ne,hl,fl,oe,vs,T,oT,ts,q1,q2,q3,q4,q5,q6,q7,q8,q9⟩:=up
 have q0:3<ts.size:=(Array.getElem?_eq_some_iff.mp q9).1
 have m8:∀x b,b≠T->(s.heap.update T (Obj.mapFields (·.setIfInBounds 3 x))).get? b=s.heap.get? b:=fun x b hb=>Heap.get?_update_other _ _ (Ne.symm hb)
 have o6:∀b o,s.heap.get? b=some o->(∀vs,o.data≠.fields vs)->b≠T:=fun b o hb hn z=>by
  rw[z,q7] at hb
  cases hb
  exact hn ts q8
 unfold passOn
 refine wpAny_bind (wpAny_field q1 q3 q4 ?_)
 rw[if_neg (by simp)]
 refine wpAny_bind ?_
 unfold setFlight
 refine wpAny_bind (wpAny_field q1 q3 q4 ?_)
 rw[if_pos (by simp)]
 refine wpAny_setField q7 q8 q0 ?_
 refine wpAny_throw (k _ ⟨fun b o e=>?_,ne,hl.of_keeps fun b o hb hn=>⟨o,(m8 _ b (o6 b o hb hn)).trans hb,rfl⟩,?_⟩ fun b o hb hn=>⟨o.slots,(m8 _ b (o6 b o hb hn)).trans hb⟩)
 ·exact (m8 _ b (by rintro rfl;rw[q5] at e;cases e)).trans (st b o e)
 ·exact⟨_,oe,vs,T,_,_,(m8 _ a (Ne.symm q6)).trans q1,q2,q3,q4,q5,q6,Heap.get?_update_self _ q7 (Obj.isFreed_of_fields (Obj.data_mapFields q8 _)),Obj.data_mapFields q8 _,Array.getElem?_setIfInBounds_self_of_lt q0⟩
theorem Up.hide{B h h':Heap}{l:List Env}{a c:Addr}{C a0:Value}(up:Up B l a C a0 h)(sb:Heap.SameBut c h h')(hc:∃o,h.get? c=some o/\∀vs,o.data≠.fields vs)(hfr:c∉frs l):Up (B.hide c) l a C a0 h':=by
 obtain⟨st,ne,hl,fl,oe,vs,T,oT,ts,q1,q2,q3,q4,q5,q6,q7,q8,q9⟩:=up
 obtain⟨oc,hoc,hd⟩:=hc
 have hn:∀{b:Addr},B.get? b=none->(B.hide c).get? b=none:=fun {b} e=>by
  cases q:(B.hide c).get? b with
  | none=>rfl
  | some o=>rw[Heap.of_hide q] at e;cases e
 have hac:a≠c:=by rintro rfl;rw[hoc] at q1;cases q1;exact hd _ q3
 have hTc:T≠c:=by rintro rfl;rw[hoc] at q7;cases q7;exact hd _ q8
 have ff:∀l',(∀b∈frs l',b∈frs l)->h.FunFrames B l'->h'.FunFrames (B.hide c) l':=by
  intro l'
  induction l' with
  | nil=>intro _ _;trivial
  | cons env r ih =>
   intro hs hl'
   obtain⟨hk,⟨L,o,hf,hnn,ho,hdd⟩,hr⟩:=hl'
   have hL:L∈frs l:=hs L (by unfold frs;rw[List.filterMap_cons,hf];exact List.mem_cons_self)
   exact⟨hk,⟨L,o,hf,hn hnn,by rw[sb.2 L (by rintro rfl;exact hfr hL)];exact ho,hdd⟩,ih (fun b hb=>hs b (by unfold frs;rw[List.filterMap_cons,hf];exact List.mem_cons_of_mem _ hb)) hr⟩
 refine⟨fun b o e=>?_,hn ne,ff l (fun _ z=>z) hl,fl,oe,vs,T,oT,ts,by rw[sb.2 a hac];exact q1,q2,q3,q4,hn q5,q6,by rw[sb.2 T hTc];exact q7,q8,q9⟩
 have hbc:b≠c:=by rintro rfl;rw[Heap.hide_self] at e;cases e
 rw[sb.2 b hbc]
 exact st b o (Heap.of_hide e)
noncomputable def qo(X:Cx):Prop:=∃env outer L,X.stack=env::outer/\env.frame=some L/\X.env.frame=some L
end Fg
end
section
namespace Fg
open PySem PySem.Spec L2
noncomputable def qJ(sp:Sp)(Ex:XS)(t:TA):TE:=fun σ H Q=>t σ H fun vs H1=>sp vs H1 Q fun cv x H'=>Ex cv x σ H'
section
variable{X:Cx}{cm:Bool}{Ex:XS}{k:Nat}{f:Addr}{fd:FuncData}{ps:List Str}{sp:Sp}{x:Str}{p pos:Pos}{e:Expr}{es:List Expr}{t:TA}
theorem xU{pins:List (Addr×Obj)}{σ:St}{H:Hp}{s:Shared}{Q:VK}{us:List Value}{vs:List V}(F:bu cm X.prog X.w X.K X.mg X.base (fh X.prog X.w) k f fd ps sp)(hr:bR cm k X.A)(hcx:cm=false->HX X.A H)(hb:Binds X.K fd ps [])(hx:∀e s,iO X Ex e s->X.xe e s)
  (I:Inv X pins σ H s) (r:Vals vs us) (h:sp vs H Q fun cv x H'=>Ex cv x σ H'):wpAny (model X.prog X.w) X.A (call (.ref f) us) (EP X pins σ Q) X.xe s:=by
 have hl:(us++[]).length=ps.length:=by rw[List.append_nil,<- r.length];exact F.len _ _ _ _ h
 have bd:=hb s us I.fM hl
 rw[List.append_nil] at bd
 refine wpAny_call (codeAny_mono (F.run X.A X.stack s H ⟨us,[]⟩ us vs Q _ hr hcx I.kE bd r h) fun z s' hq=>?_)
 match z,hq with
 | .error e,hq=>exact passes hx pins σ H s e s' I hq
 | .ok (.ret u),hq=>exact I.after hq
 | .ok .next,hq=>exact hq.elim
 | .ok .brk,hq=>exact hq.elim
 | .ok .cont,hq=>exact hq.elim
theorem yz(F:bu true X.prog X.w X.K X.mg X.base (fh X.prog X.w) k f fd ps sp)(hr:bR true k X.A)(hg:Gl X x)(hm:X.mg x=some (.ref f))(hk:W.keepIn X.K (.ref f)=true)(hb:Binds X.K fd ps [])(hx:∀e s,iO X Ex e s->X.xe e s)
  (ha:PA X (e::es) t) (hdb:(x == ("__debug__" : Str))=false) (he:starEach (e::es) X.env=(false, eval e X.env)::starEach es X.env) (hpl:(backTo pos (starEach es X.env)).any (·.1)=false) :
  PE X (.Call (.Name x p) (e::es) [] pos) (qJ sp Ex t):=fun pins s σ H Q I h =>
 wpAny_Call_Name_kw (dc I hg hm (W.callWith_K (h₀:=X.base) I.ok.mod.A0 hk (aT (ha pos pins s σ H _ I h) fun us s1 ⟨vs,H1,I1,r,q⟩=>⟨I1.fM,xU F hr (fun z=>nomatch z) hb hx I1 r q⟩) he hpl) hdb)
theorem yy{i:Nat}{y:Str}{q:Pos}(F:bu false X.prog X.w X.K X.mg X.base (fh X.prog X.w) k f fd ps sp)(hr:bR false k X.A)(hg:Gl X x)(hm:X.mg x=some (.ref f))(hk:W.keepIn X.K (.ref f)=true)(hb:Binds X.K fd ps [])(hx:∀e s,iO X Ex e s->X.xe e s)
  (hv:PE X (.Name y q) (Bq i)) (hdb:(x == ("__debug__" : Str))=false) :
  PE X (.Call (.Name x p) [.Name y q] [] pos) (fun σ H Q=>HX X.A H/\∃v,σ[i]? = some (some v)/\sp [v] H Q fun cv x H'=>Ex cv x σ H'):=fun pins s σ H Q I ⟨hh,v,e,h⟩ =>
 wpAny_Call_Name_kw (dc I hg hm (W.callWith_K (h₀:=X.base) I.ok.mod.A0 hk (aT (aG hv bV rfl pos pins s σ H (fun vs H1=>HX X.A H1/\sp vs H1 Q fun cv x H'=>Ex cv x σ H') I ⟨v,e,hh,h⟩) fun us s1 ⟨vs,H1,I1,r,hh1,q⟩=>⟨I1.fM,xU F hr (fun _=>hh1) hb hx I1 r q⟩) rfl rfl) hdb)
theorem vM(F:bu true X.prog X.w X.K X.mg X.base (fh X.prog X.w) k f fd ps sp)(hr:bR true k X.A)(hg:Gl X x)(hm:X.mg x=some (.ref f))(hk:W.keepIn X.K (.ref f)=true)(hb:Binds X.K fd ps [])(hx:∀e s, iO X Ex e s->X.xe e s)(hdb:(x == ("__debug__" : Str))=false) :
  PE X (.Call (.Name x p) [] [] pos) (qJ sp Ex gI):=fun pins s σ H Q I h =>
 wpAny_Call_Name_kw (dc I hg hm (W.callWith_K0 I.fM hk (xU (us:=[]) F hr (fun z=>nomatch z) hb hx I .nil h)) hdb)
noncomputable def KB(K:W.Frag)(fd:FuncData)(ps:List Str)(z:Str):Prop:=∀(s:Shared) (us:List Value) (w:Value),K.In s.heap->us.length+1=ps.length->BindsTo s fd ⟨us,[(z,w)]⟩ (ps.zip (us++[w]))
noncomputable def qI(sp:Sp)(Ex:XS)(t:TA)(te:TE):TE:=fun σ H Q=>t σ H fun vs H1=>te σ H1 fun z H2=>[z].length=1/\sp (vs++[z]) H2 Q fun cv x H'=>Ex cv x σ H'
theorem yx{kw:Str}{v:Expr}{kp:Pos}{te:TE}(F:bu true X.prog X.w X.K X.mg X.base (fh X.prog X.w) k f fd ps sp)(hr:bR true k X.A)(hg:Gl X x)(hm:X.mg x=some (.ref f))(hk:W.keepIn X.K (.ref f)=true)(hb:KB X.K fd ps kw)(hx:∀e s,iO X Ex e s->X.xe e s)
  (ha:PA X (e::es) t) (hv:PE X v te) (hdb:(x == ("__debug__" : Str))=false) (he:starEach (e::es) X.env=(false, eval e X.env)::starEach es X.env) (hpl:(backTo pos (starEach es X.env)).any (·.1)=false) :
  PE X (.Call (.Name x p) (e::es) [⟨some kw,v,kp⟩] pos) (Fg.qI sp Ex t te):=by
 intro pins s σ H Q I h
 refine wpAny_Call_Name_kw (dc I hg hm ?_ hdb)
 refine W.callWith_KW (h₀:=X.base) I.ok.mod.A0 hk rfl (aT (ha pos pins s σ H _ I h) fun us s1 ⟨vs,H1,I1,r,q⟩=>?_) (by rw[he];show ((false||(backTo pos (starEach es X.env)).any (·.1))||false)=false;rw[hpl];rfl) he
 refine aT (Cg hv GF pos pins s1 σ H1 (fun zs H2=>zs.length=1/\sp (vs++zs) H2 Q fun cv x H'=>Ex cv x σ H') I1 q) fun ws s2 ⟨zs,H2,I2,rz,hz,q2⟩=>⟨I2.fM,?_⟩
 obtain⟨z,rfl⟩:=List.length_eq_one_iff.mp hz
 cases rz with
 | cons rz rn =>
  cases rn
  have r2:=r.append (.cons rz .nil)
  have hl:=F.len _ _ _ _ q2
  rw[r2.length] at hl
  refine wpAny_call (codeAny_mono (F.run X.A X.stack s2 H2 _ _ _ Q _ hr (fun z=>nomatch z) I2.kE (hb s2 us _ I2.fM (by simpa using hl)) r2 q2) fun z s' hq=>?_)
  match z,hq with
  | .error e,hq=>exact passes hx pins σ H2 s2 e s' I2 hq
  | .ok (.ret u),hq=>exact I2.after hq
  | .ok .next,hq=>exact hq.elim
  | .ok .brk,hq=>exact hq.elim
  | .ok .cont,hq=>exact hq.elim
end
end Fg
end
section
namespace Fg
open PySem PySem.Spec L2
theorem Up.back{M:Model}{A:Around}{E:Value->Shared->Prop}{s:Shared}{B:Heap}{l:List Env}{a:Addr}{C a0:Value}{env:Env}(up:Up B l a C a0 s.heap)
  (k:∀h',Up B l a C a0 h'->s.heap.UpToSlots h'->E (.ref a) { s with heap:=h' }):cameBackBy M A env E (.ref a) s:=by
 obtain⟨st,ne,hl,fl,oe,vs,T,oT,ts,q1,q2,q3,q4,q5,q6,q7,q8,q9⟩:=up
 have q0:3<ts.size:=(Array.getElem?_eq_some_iff.mp q9).1
 have m8:∀x b,b≠T->(s.heap.update T (Obj.mapFields (·.setIfInBounds 3 x))).get? b=s.heap.get? b:=fun x b hb=>Heap.get?_update_other _ _ (Ne.symm hb)
 have o6:∀b o,s.heap.get? b=some o->(∀vs,o.data≠.fields vs)->b≠T:=fun b o hb hn z=>by
  rw[z,q7] at hb
  cases hb
  exact hn ts q8
 unfold cameBackBy
 refine wpAny_bind (wpAny_field q1 q3 q4 ?_)
 rw[if_neg (by simp)]
 unfold setFlight
 refine wpAny_bind (wpAny_field q1 q3 q4 ?_)
 rw[if_pos (by simp)]
 refine wpAny_setField q7 q8 q0 ?_
 refine k _ ⟨fun b o e=>?_,ne,hl.of_keeps fun b o hb hn=>⟨o,(m8 _ b (o6 b o hb hn)).trans hb,rfl⟩,?_⟩ fun b o hb hn=>⟨o.slots,(m8 _ b (o6 b o hb hn)).trans hb⟩
 ·exact (m8 _ b (by rintro rfl;rw[q5] at e;cases e)).trans (st b o e)
 ·exact⟨_,oe,vs,T,_,_,(m8 _ a (Ne.symm q6)).trans q1,q2,q3,q4,q5,q6,Heap.get?_update_self _ q7 (Obj.isFreed_of_fields (Obj.data_mapFields q8 _)),Obj.data_mapFields q8 _,Array.getElem?_setIfInBounds_self_of_lt q0⟩
theorem rj{X:Cx}{E:XS}(fr:qo X)(fo:∀e s,X.xe e s->iO X E e s\/Fw X E e s)(fx:∀e s,iO X E e s->X.xe e s):PassesOwn (model X.prog X.w) X.A X.env X.xe:=by
 intro e s q
 obtain⟨kE,m7,L,hst,Iu,Nv⟩:=fr
 rcases fo e s q with q | q
 ·obtain⟨pins,σ,H,a,a0,C,B,rfl,I,up,d7,hp,q⟩:=q
  show wpAny _ X.A (noteFrame (.ref a) X.env) _ _ s
  rw[ng (env:=X.env) (env':=kE) (Nv.trans Iu.symm)]
  refine Up.note (env:=kE) (outer:=m7) (by rw[I.ok.frames,hst]) Iu (by rw[<- hst];exact up) fun h4 held vA=>?_
  refine (Up.ud held).back fun h5 FA xE=>fx _ _ ?_
  have J:=iz I d7 hp up.1 FA.1 (vA.trans xE)
  have up':Up B X.stack a C a0 h5:=by rw[hst];exact FA
  exact⟨[],σ,H,a,a0,C,B,rfl,J,up',d7,hp,q⟩
 ·obtain⟨pins,σ,H,a,C,vs,h,rfl,I,made,q⟩:=q
  show wpAny _ X.A (noteFrame (.ref a) X.env) _ _ s
  rw[ng (env:=X.env) (env':=kE) (Nv.trans Iu.symm)]
  have jx:(W.hideAll h (frs X.stack)).StaysIn h:=fun b o q=>W.of_hideAll _ q
  have d7:Calm (W.hideAll h (frs X.stack)) (frs X.stack) X.ex H X.s₀.heap:=fun b hb hf=>by
   have:∃o,h.get? b=some o:=by
    rcases hb with hb | ⟨⟨o,hb⟩,nx⟩
    ·cases e:H b with
     | none=>exact absurd e hb
     | some o=>exact lY (I.hok b o e)
    ·exact fW I hb nx
   obtain⟨o,e⟩:=this
   exact⟨o,W.hideAll_get _ e hf⟩
  have hp:∀p∈X.pn,(W.hideAll h (frs X.stack)).get? p.1=some p.2:=fun p hp=>by
   obtain⟨p1,p2,p3,p4,_⟩:=I.pin p (List.mem_append_left _ hp)
   refine W.hideAll_get _ p1 fun z=>?_
   rcases List.mem_cons.mp (I.ez _ z) with e | z
   ·exact p3 e
   ·exact p4 z
  have hl:h.FunFrames (W.hideAll h (frs X.stack)) X.stack:=W.funFrames_hide I.stack fun env he b hb=>List.mem_filterMap.mpr ⟨env,he,hb⟩
  refine pD (env:=kE) (outer:=m7) (by rw[show X.A.frames=some X.stack from I.ok.frames,hst]) Iu made jx (hst ▸ hl) fun a0 h4 Jy vA=>?_
  refine Jy.back fun h5 FA xE=>fx _ _ ?_
  have sm:h.UpToSlots h5:=(Heap.UpToSlots.of_keeps made.keeps).trans (vA.trans xE)
  have J:=iz I d7 hp jx FA.1 sm
  have up':Up (W.hideAll h (frs X.stack)) X.stack a C a0 h5:=by
   have z:∀l,l=X.stack->Up (W.hideAll h (frs X.stack)) l a C a0 h5->Up (W.hideAll h (frs X.stack)) X.stack a C a0 h5:=fun l e u=>e ▸ u
   exact z _ hst.symm FA
  exact⟨[],σ,H,a,a0,C,_,rfl,J,up',d7,hp,q⟩
end Fg
end
section
namespace Fg
open PySem L2
mutual
noncomputable def DV(K:W.Frag)(H:Hp):D->V->Prop
 | .aq,v=>v=.aq
 | .bl b,v=>v=.bl b
 | .int i,v=>v=.int i
 | .str x,v=>v=.str x
 | .tup ds,v=>∃a vs,v=.ref a/\gU K H a vs/\ow K H ds vs
 | .lst ds,v=>∃a vs,v=.ref a/\fu K H a vs/\ow K H ds vs
 | .dct _ _,_=>False
 | .ref _,_=>False
 | .g7 _,_=>False
noncomputable def ow(K:W.Frag)(H:Hp):List D->List V->Prop
 | [],vs=>vs=[]
 | d::ds,vs=>∃v ws,vs=v::ws/\DV K H d v/\ow K H ds ws
end
section
variable{B:Bd}{Φ:aZ}{E:Gx}{F F' F1:Addr->Prop}{ρ ρ' ρ1:List Addr}{H H' H1:Hp}{M M':MH}{σD:Sg}{σ:St}{Q:VK}
mutual
theorem RD.dv:∀{d:D} {v:V},plain d=true->RD B F ρ H d v->DV B.K H d v
 | .aq,v,_,h=>by simp only[RD] at h;simp only[DV];exact h
 | .bl _,v,_,h=>by simp only[RD] at h;simp only[DV];exact h
 | .int _,v,_,h=>by simp only[RD] at h;simp only[DV];exact h
 | .str _,v,_,h=>by simp only[RD] at h;simp only[DV];exact h
 | .tup ds,v,p,h=>by
  simp only[RD] at h;simp only[DV];simp only[plain] at p
  obtain⟨a,vs,h1,h2,h3⟩:=h
  exact⟨a,vs,h1,h2.sq,aj.dv p h3⟩
 | .lst ds,v,p,h=>by
  simp only[RD] at h;simp only[DV];simp only[plain] at p
  obtain⟨a,vs,h1,h2,h3⟩:=h
  exact⟨a,vs,h1,h2.sq,aj.dv p h3⟩
 | .dct _ _,v,p,h=>by simp[plain] at p
 | .ref _,v,p,h=>by simp[plain] at p
 | .g7 _,v,p,h=>by simp[plain] at p
theorem aj.dv:∀{ds:List D} {vs:List V},bE ds=true->aj B F ρ H ds vs->ow B.K H ds vs
 | [],vs,_,h=>by simp only[aj] at h;simp only[ow];exact h
 | d::ds,vs,p,h=>by
  simp only[aj] at h;simp only[ow];simp only[bE,Bool.and_eq_true] at p
  obtain⟨v,ws,h1,h2,h3⟩:=h
  exact⟨v,ws,h1,RD.dv p.1 h2,aj.dv p.2 h3⟩
end
theorem xr{d:D}{v:V}(S:SR B F ρ M H)(p:plain (top M d)=true)(h:RD B F ρ H d v):DV B.K H (top M d) v:=by
 cases d with
 | ref n =>
  cases hM:M[n]? with
  | none=>simp[top,hM,plain] at p
  | some o =>
   cases o with
   | lst ds =>
    obtain⟨a,vs,e,q,r⟩:=bf (ds:=ds) S h (by simp only[vw,hM])
    simp only[top,hM,plain] at p
    simp only[top,hM,DV]
    exact⟨a,vs,e,q,aj.dv p r⟩
   | dct _=>simp[top,hM,plain] at p
   | ou _=>simp[top,hM,plain] at p
   | ins _ _=>simp[top,hM,plain] at p
 | tup ds=>exact RD.dv p h
 | lst ds=>exact RD.dv p h
 | _=>exact RD.dv p h
noncomputable def ye(K:W.Frag)(neg:Bool):R2:=fun x y H Q=>∃d e,DV K H d x/\DV K H e y/\cA d e=true/\Q (.bl (if neg then !aD d e else aD d e)) H
noncomputable def yd(K:W.Frag)(neg:Bool):R2:=fun x y H Q=>∃l b xs,x=.ref l/\y=.ref b/\fu K H l xs/\fu K H b []/\Q (.bl (if neg then !xs.isEmpty else xs.isEmpty)) H
noncomputable def B6(neg:Bool):R2:=fun x y H Q=>∃a b,x=.bl a/\y=.bl b/\Q (.bl (if neg then !(a == b) else (a == b))) H
noncomputable def yf(B:Bd)(neg:Bool):R2:=fun x y H Q=>∃a kvs k,y=.ref a/\x=kV k/\Js B H a kvs/\Q (.bl (if neg then !(cH kvs k).isSome else (cH kvs k).isSome)) H
noncomputable def qW(B:Bd):AS->R2
 | .lt=>qV fun i j=>.bl (decide (i<j))
 | .le=>qV fun i j=>.bl (decide (i<=j))
 | .gt=>qV fun i j=>.bl (decide (j<i))
 | .ge=>qV fun i j=>.bl (decide (j<=i))
 | .eq=>fun x y H Q=>B6 false x y H Q\/(ye B.K false x y H Q\/yd B.K false x y H Q)
 | .ne=>fun x y H Q=>B6 true x y H Q\/(ye B.K true x y H Q\/yd B.K true x y H Q)
 | .A2=>fun x y H Q=>y=.aq/\Q (.bl (decide (x=.aq))) H
 | .kX=>fun x y H Q=>y=.aq/\Q (.bl (!decide (x=.aq))) H
 | .isin=>fun x y H Q=>yf B false x y H Q\/KN B.K false x y H Q
 | .pq=>fun x y H Q=>yf B true x y H Q\/KN B.K true x y H Q
theorem nk{d:D}{v:V}{k:Ky}(h:keyOf d=some k)(r:RD B F ρ H d v):v=kV k:=by
 cases d with
 | int i=>simp only[keyOf] at h;cases h;simp only[RD] at r;exact r
 | str x=>simp only[keyOf] at h;cases h;simp only[RD] at r;exact r
 | _=>simp only[keyOf] at h;cases h
theorem nH{d:D}{v:V}(h:flat d=true)(r:RD B F ρ H d v):gB v=true:=by
 cases d <;> first | (simp only[RD] at r;subst r;rfl) | (simp only[flat] at h;cases h)
theorem pW{ds:List D}:∀{vs:List V},ds.all flat=true->aj B F ρ H ds vs->vs.all gB=true:=by
 induction ds with
 | nil=>intro vs _ r;simp only[aj] at r;subst r;rfl
 | cons d ds ih =>
  intro vs h r
  simp only[aj] at r
  obtain⟨v,ws,rfl,r1,r2⟩:=r
  simp only[List.all_cons,Bool.and_eq_true] at h ⊢
  exact⟨nH h.1 r1,ih h.2 r2⟩
theorem Dk{d e:D}{v w:V}(h1:flat d=true)(h2:flat e=true)(r1:RD B F ρ H d v)(r2:RD B F ρ H e w):aD d e=A3 v w:=by
 cases d <;> first | (simp only[flat] at h1;cases h1;done) | skip
 all_goals (cases e <;> first | (simp only[flat] at h2;cases h2;done) | skip)
 all_goals (simp only[RD] at r1 r2;subst r1 r2;simp only[aD,A3])
 all_goals first | rfl | simp[Bool.beq_eq_decide_eq]
theorem ve{d:D}{v:V}(h1:flat d=true)(r1:RD B F ρ H d v){ds:List D}:∀{vs:List V},ds.all flat=true->aj B F ρ H ds vs->(ds.any fun e=>aD e d)=Ls v vs:=by
 induction ds with
 | nil=>intro vs _ r;simp only[aj] at r;subst r;rfl
 | cons e ds ih =>
  intro vs h r
  simp only[aj] at r
  obtain⟨w,ws,rfl,q1,q2⟩:=r
  simp only[List.all_cons,Bool.and_eq_true] at h
  simp only[List.any_cons,Ls,Dk h.1 h1 q1 r1]
  have:=ih h.2 q2
  simp only[Ls] at this
  rw[this]
theorem zz{neg:Bool}{x y:D}{v w:V}{X:XK}{t:Bool}(S:SR B F ρ M H)(rx:RD B F ρ H x v)(ry:RD B F ρ H y w)(hi:zA M x y=some t)
  (h:Post B (.ok (.bl (if neg then !t else t)) M) F ρ H Q X):yf B neg v w H Q\/KN B.K neg v w H Q:=by
 unfold zA at hi
 split at hi
 ·rename_i cC hv
  split at hi
  ·rename_i k hk
   cases hi
   obtain⟨a,kvs,rfl,q,e1,e2⟩:=mQ S ry hv
   have:=(j6 (k:=k) e1 e2).2.2
   refine .inl ⟨a,kvs,k,rfl,nk hk rx,q,?_⟩
   rw[<- this]
   exact ai.run h S (by simp only[RD])
  ·cases hi
 ·rename_i ds hv
  split at hi
  ·rename_i hf
   cases hi
   simp only[Bool.and_eq_true] at hf
   obtain⟨a,vs,rfl,q,r⟩:=bf S ry hv
   refine .inr ⟨a,vs,rfl,.inl q,nH hf.1 rx,pW hf.2 r,?_⟩
   rw[<- ve hf.1 rx hf.2 r]
   exact ai.run h S (by simp only[RD])
  ·cases hi
 ·rename_i ds hv
  split at hi
  ·rename_i hf
   cases hi
   simp only[Bool.and_eq_true] at hf
   obtain⟨a,vs,rfl,q,r⟩:=iQ S ry hv
   refine .inr ⟨a,vs,rfl,.inr q,nH hf.1 rx,pW hf.2 r,?_⟩
   rw[<- ve hf.1 rx hf.2 r]
   exact ai.run h S (by simp only[RD])
  ·cases hi
 ·cases hi
theorem jM{f:D->D}(ih:∀(d:D) (v:V),plain (f d)=true->RD B F ρ H d v->DV B.K H (f d) v):∀(ds:List D) (vs:List V),bE (ds.map f)=true->aj B F ρ H ds vs->ow B.K H (ds.map f) vs
 | [],vs,p,h=>by simp only[aj] at h;simp only[List.map_nil,ow];exact h
 | d::ds,vs,p,h=>by
  simp only[aj] at h;simp only[List.map_cons,ow];simp only[List.map_cons,bE,Bool.and_eq_true] at p
  obtain⟨v,ws,h1,h2,h3⟩:=h
  exact⟨v,ws,h1,ih d v p.1 h2,jM ih ds ws p.2 h3⟩
theorem uQ(S:SR B F ρ M H)(n:Nat):∀(d:D) (v:V),plain (deep n M d)=true->RD B F ρ H d v->DV B.K H (deep n M d) v:=by
 induction n with
 | zero=>intro d v p h;exact RD.dv p h
 | succ n ih =>
  intro d v p h
  cases d with
  | ref r =>
   cases hM:M[r]? with
   | none=>simp[deep,hM,plain] at p
   | some o =>
    cases o with
    | lst ds =>
     obtain⟨a,vs,e,q,r⟩:=bf (ds:=ds) S h (by simp only[vw,hM])
     simp only[deep,hM,plain] at p
     simp only[deep,hM,DV]
     exact⟨a,vs,e,q,jM ih ds vs p r⟩
    | dct _=>simp[deep,hM,plain] at p
    | ou _=>simp[deep,hM,plain] at p
    | ins _ _=>simp[deep,hM,plain] at p
  | tup ds =>
   simp only[RD] at h;simp only[deep,plain] at p;simp only[deep,DV]
   obtain⟨a,vs,h1,h2,h3⟩:=h
   exact⟨a,vs,h1,h2.sq,jM ih ds vs p h3⟩
  | lst ds =>
   simp only[RD] at h;simp only[deep,plain] at p;simp only[deep,DV]
   obtain⟨a,vs,h1,h2,h3⟩:=h
   exact⟨a,vs,h1,h2.sq,jM ih ds vs p h3⟩
  | dct _ _=>simp[deep,plain] at p
  | _=>exact RD.dv p h
theorem uG(neg:Bool){x y:D}{v w:V}{X:XK}(S:SR B F ρ M H)(rx:RD B F ρ H x v)(ry:RD B F ρ H y w)(h:Post B (if cA (top M x) (top M y) then .ok (.bl (if neg then !aD (top M x) (top M y) else aD (top M x) (top M y))) M else (match rC M x y with | some t=>.ok (.bl (if neg then !t else t)) M | none=>LV M neg x y)) F ρ H Q X):ye B.K neg v w H Q\/yd B.K neg v w H Q:=by
 split at h
 ·rename_i hc
  have hc':=hc
  simp only[cA,Bool.and_eq_true] at hc'
  exact .inl ⟨_,_,xr S hc'.1.1 rx,xr S hc'.1.2 ry,hc,ai.run h S (by simp only[RD])⟩
 ·cases hn:rC M x y with
  | none =>
   rw[hn] at h
   replace h:Post B (LV M neg x y) F ρ H Q X:=h
   unfold LV at h
   split at h
   ·rename_i hc
    have hc':=hc
    simp only[cA,Bool.and_eq_true] at hc'
    exact .inl ⟨_,_,uQ S 120 _ _ hc'.1.1 rx,uQ S 120 _ _ hc'.1.2 ry,hc,ai.run h S (by simp only[RD])⟩
   ·exact h.elim
  | some t =>
   rw[hn] at h
   unfold rC at hn
   split at hn
   ·rename_i xs ys hx hy
    split at hn
    ·rename_i he
     cases hn
     obtain⟨a,vs,rfl,q1,r1⟩:=bf S rx hx
     obtain⟨b,ws,rfl,q2,r2⟩:=bf S ry hy
     have l1:=aj.length r1
     have l2:=aj.length r2
     have e2:ws=[]:=by
      rw[List.isEmpty_iff] at he
      subst he
      exact List.eq_nil_of_length_eq_zero l2.symm
     have e1:vs.isEmpty=xs.isEmpty:=by
      cases xs <;> cases vs <;> first | rfl | (simp at l1;done)
     subst e2
     refine .inr ⟨a,b,vs,rfl,rfl,q1,q2,?_⟩
     rw[e1]
     exact ai.run h S (by simp only[RD])
    ·cases hn
   ·cases hn
theorem jK{f:Int->Int->Bool}{x y:D}{v w:V}{X:XK}(S:SR B F ρ M H)(rx:RD B F ρ H x v)(ry:RD B F ρ H y w)(h:Post B (su M f x y) F ρ H Q X):qV (fun i j=>.bl (f i j)) v w H Q:=by
 cases x with
 | int i=>cases y with
  | int j=>simp only[RD] at rx ry;subst rx ry;exact⟨_,_,rfl,rfl,ai.run h S (by simp only[RD])⟩
  | _=>exact h.elim
 | _=>exact h.elim
theorem j9{x:D}{v:V}(r:RD B F ρ H x v):dS x=decide (v=.aq):=by
 cases x <;> first | (simp only[RD] at r;subst r;rfl) | (simp only[RD] at r;obtain⟨_,r⟩:=r;first | (obtain⟨_,rfl,_⟩:=r;rfl) | (obtain⟨_,rfl⟩:=r;rfl) | (obtain⟨_,_,rfl,_⟩:=r;rfl))
theorem Ay{o:AS}{x y:D}{v w:V}{X:XK}(S:SR B F ρ M H)(rx:RD B F ρ H x v)(ry:RD B F ρ H y w)(h:Post B (bF o M x y) F ρ H Q X):qW B o v w H Q:=by
 have eb:∀{p:Bool×Bool},AH x y=some p->x=.bl p.1/\y=.bl p.2:=fun {p} hb=>by
  cases x with
  | bl a=>cases y with
   | bl b=>cases hb;exact⟨rfl,rfl⟩
   | _=>cases hb
  | _=>cases hb
 have nn:dS y=true->w=.aq:=fun q=>by
  have:=j9 ry
  rw[q] at this
  exact of_decide_eq_true this.symm
 cases o with
 | lt=>exact jK S rx ry h
 | le=>exact jK S rx ry h
 | gt=>exact jK S rx ry h
 | ge=>exact jK S rx ry h
 | eq =>
  cases hb:AH x y with
  | some p =>
   obtain⟨rfl,rfl⟩:=eb hb
   simp only[RD] at rx ry;subst rx ry
   exact .inl ⟨_,_,rfl,rfl,ai.run h S (by simp only[RD];rfl)⟩
  | none =>
   simp only[bF,hb] at h
   exact .inr (uG false S rx ry h)
 | ne =>
  cases hb:AH x y with
  | some p =>
   obtain⟨rfl,rfl⟩:=eb hb
   simp only[RD] at rx ry;subst rx ry
   exact .inl ⟨_,_,rfl,rfl,ai.run h S (by simp only[RD];rfl)⟩
  | none =>
   simp only[bF,hb] at h
   exact .inr (uG true S rx ry h)
 | A2 =>
  cases hn:dS y with
  | false=>simp only[bF,hn] at h;exact h.elim
  | true =>
   simp only[bF,hn,if_true] at h
   refine⟨nn hn,?_⟩
   rw[<- j9 rx]
   exact ai.run h S (by simp only[RD])
 | kX =>
  cases hn:dS y with
  | false=>simp only[bF,hn] at h;exact h.elim
  | true =>
   simp only[bF,hn,if_true] at h
   refine⟨nn hn,?_⟩
   rw[<- j9 rx]
   exact ai.run h S (by simp only[RD])
 | isin =>
  cases hi:zA M x y with
  | none=>simp only[bF,hi] at h;exact h.elim
  | some t=>simp only[bF,hi] at h;exact zz (neg:=false) S rx ry hi h
 | pq =>
  cases hi:zA M x y with
  | none=>simp only[bF,hi] at h;exact h.elim
  | some t=>simp only[bF,hi] at h;exact zz (neg:=true) S rx ry hi h
theorem tL{o:AS}{a b:Fg.E}(h:T B Φ E (.cmp o a b) σ H Q):FI (qW B o) (T B Φ E a) (T B Φ E b) σ H Q:=by
 obtain⟨σD,M,F,ρ,S,r,h⟩:=h
 simp only[ev] at h
 exact T.two S r rfl h fun x y M2 F2 ρ2 H2 v w S2 _ rx ry h2=>Ay S2 rx ry h2
theorem zo(n:Nat)(i:Int):ET n i=JF n i:=rfl
theorem AJ{ds:List D}{vs:List V}{i:Int}{d:D}(r:aj B F ρ H ds vs)(h:qz ds i=some d):∃v,Jo vs i=some v/\RD B F ρ H d v:=by
 unfold qz at h
 unfold Jo
 rw[<- aj.length r]
 cases hx:ET ds.length i with
 | none=>rw[hx] at h;cases h
 | some j =>
  rw[hx] at h
  rw[zo] at hx
  rw[hx]
  exact aj.get r h
noncomputable def KI(B:Bd):R2:=fun x y H Q=>∃a kvs k v,x=.ref a/\y=kV k/\Js B H a kvs/\cH kvs k=some v/\Q v H
noncomputable def B5(B:Bd):R2:=fun x y H Q=>KH B.K x y H Q\/(KD B.K x y H Q\/(KG x y H Q\/KI B x y H Q))
theorem zB{x y:D}{v w:V}{X:XK}(S:SR B F ρ M H)(rx:RD B F ρ H x v)(ry:RD B F ρ H y w)(h:Post B (pN M x y) F ρ H Q X):B5 B v w H Q:=by
 unfold pN at h
 split at h
 ·simp only[RD] at rx ry;subst rx ry
  split at h
  ·rename_i hl
   split at h
   ·rename_i c hc
    exact .inr (.inr (.inl ⟨_,_,c,rfl,rfl,Nat.le_trans (of_decide_eq_true hl) bC,hc,ai.run h S (by simp only[RD])⟩))
   ·exact h.elim
  ·exact h.elim
 ·split at h
  ·rename_i ds i hv _
   split at h
   ·rename_i d hd
    obtain⟨a,vs,rfl,q,r⟩:=iQ S rx hv
    simp only[RD] at ry;subst ry
    obtain⟨u,h1,h2⟩:=AJ r hd
    exact .inr (.inl ⟨a,vs,i,u,rfl,rfl,q,h1,ai.run h S h2⟩)
   ·exact h.elim
  ·rename_i ds i hv _
   split at h
   ·rename_i d hd
    obtain⟨a,vs,rfl,q,r⟩:=bf S rx hv
    simp only[RD] at ry;subst ry
    obtain⟨u,h1,h2⟩:=AJ r hd
    exact .inl ⟨a,vs,i,u,rfl,rfl,q,h1,ai.run h S h2⟩
   ·exact h.elim
  ·rename_i cC hv _
   split at h
   ·rename_i k hk
    split at h
    ·rename_i d hd
     obtain⟨a,kvs,rfl,q,e1,e2⟩:=mQ S rx hv
     obtain⟨u,h1,h2⟩:=(j6 (k:=k) e1 e2).1 d hd
     exact .inr (.inr (.inr ⟨a,kvs,k,u,rfl,nk hk ry,q,h1,ai.run h S h2⟩))
    ·exact h.elim
   ·exact h.elim
  ·exact h.elim
theorem BQ{a b:Fg.E}(h:T B Φ E (.idx a b) σ H Q):FI (B5 B) (T B Φ E a) (T B Φ E b) σ H Q:=by
 obtain⟨σD,M,F,ρ,S,r,h⟩:=h
 simp only[ev] at h
 exact T.two S r rfl h fun x y M2 F2 ρ2 H2 v w S2 _ rx ry h2=>zB S2 rx ry h2
theorem xG(n d:Nat)(o:Option Int):six n d o=HT.cB n d o:=by cases o <;> rfl
theorem uX{ds:List D}{vs:List V}(r:aj B F ρ H ds vs)(lo hi:Option Int):aj B F ρ H (c7 ds lo hi) (qc vs lo hi):=by
 unfold c7 qc
 rw[aj.length r]
 simp only[xG]
 exact aj.take _ (aj.drop _ r)
noncomputable def Kz:V->Option Int->Option Int->Hp->VK->Prop:=fun x lo hi H Q=>∃z,x=.str z/\z.length<=sizeLine/\Q (.str (cuts z lo hi)) H
noncomputable def B4(B:Bd):V->Option Int->Option Int->Hp->VK->Prop:=fun x lo hi H Q=>KA B.K x lo hi H Q\/(Kw B.K x lo hi H Q\/Kz x lo hi H Q)
theorem By{fz:Bool}{x:D}{v:V}{lo hi:Option Int}{X:XK}(S:SR B F ρ M H)(rx:RD B F ρ H x v)(h:Post B (sl2 fz M x lo hi) F ρ H Q X):B4 B v lo hi H Q:=by
 unfold sl2 at h
 split at h
 ·simp only[RD] at rx;subst rx
  split at h
  ·rename_i hl
   exact .inr (.inr ⟨_,rfl,Nat.le_trans (of_decide_eq_true hl) bC,ai.run h S (by simp only[RD])⟩)
  ·exact h.elim
 ·split at h
  ·rename_i ds hv
   cases x with
   | tup xs =>
    simp only[vw] at hv;cases hv
    simp only[RD] at rx
    obtain⟨a,vs,rfl,z,r⟩:=rx
    split at h
    ·exact h.elim
    ·rename_i hf
     refine .inr (.inl ⟨a,vs,rfl,z.sq,fun q=>hf ?_,jG S h (uX r lo hi)⟩)
     simp only[jk,Bool.and_eq_true,decide_eq_true_eq,xG,aj.length r]
     exact q
   | ref n=>simp only[vw] at hv;split at hv <;> cases hv
   | _=>simp only[vw] at hv;cases hv
  ·rename_i ds hv
   obtain⟨a,vs,rfl,q,r⟩:=bf S rx hv
   exact .inl ⟨a,vs,rfl,q,cQ S h (uX r lo hi)⟩
  ·exact h.elim
theorem F7{Q:Option Int->Hp->Prop}(h:TP B Φ E .none σ H Q):sU σ H Q:=by
 obtain⟨σD,M,F,ρ,S,r,h⟩:=h
 simp only[De] at h
 exact ai.run h S rfl
theorem F6{a:Fg.E}{Q:Option Int->Hp->Prop}(h:TP B Φ E (.some a) σ H Q):D7 (T B Φ E a) σ H Q:=by
 obtain⟨σD,M,F,ρ,S,r,h⟩:=h
 simp only[De] at h
 refine⟨σD,M,F,ρ,S,r,ai.imp (ai.bind (rel:=RD B) h) fun v H1 ⟨x,M1,F1,ρ1,e1,S1,rx,h1⟩=>?_⟩
 split at h1
 ·simp only[RD] at rx;subst rx
  exact⟨_,rfl,ai.run h1 S1 rfl⟩
 ·exact h1.elim
theorem FZ{fz:Bool}{a:Fg.E}{lo hi:O}(h:T B Φ E (.sl fz a lo hi) σ H Q):tSl (B4 B) (T B Φ E a) (TP B Φ E lo) (TP B Φ E hi) σ H Q:=by
 obtain⟨σD,M,F,ρ,S,r,h⟩:=h
 simp only[ev] at h
 refine T.one S r rfl h fun x M1 F1 ρ1 H1 v e1 S1 r1 rx h1=>?_
 refine⟨σD,M1,F1,ρ1,S1,r1,ai.imp (ai.bind (rel:=fun _ _ _ (a b:Option Int)=>a=b) h1) fun l H2 ⟨l',M2,F2,ρ2,e2,S2,el,h2⟩=>?_⟩
 refine⟨σD,M2,F2,ρ2,S2,r1.mono e2,ai.imp (ai.bind (rel:=fun _ _ _ (a b:Option Int)=>a=b) h2) fun u H3 ⟨u',M3,F3,ρ3,e3,S3,eu,h3⟩=>?_⟩
 subst el eu
 exact By S3 (RD.mono e3 _ _ (RD.mono e2 _ _ rx)) h3
theorem vn{M:MH}{d:D}{ds:List D}(h:vw M d=.tup ds):d=.tup ds:=by
 cases d with
 | tup xs=>simp only[vw] at h;cases h;rfl
 | ref n=>simp only[vw] at h;split at h <;> cases h
 | _=>simp only[vw] at h;cases h
theorem ux:∀{ds:List D} {vs:List V} {ns:List Int},aj B F ρ H ds vs->intsOf ds=some ns->vs=ns.map V.int
 | [],vs,ns,r,h=>by simp only[intsOf] at h;cases h;simp only[aj] at r;subst r;rfl
 | d::ds,vs,ns,r,h=>by
  cases d with
  | int i =>
   simp only[intsOf] at h
   cases hx:intsOf ds with
   | none=>rw[hx] at h;cases h
   | some ms =>
    rw[hx] at h;cases h
    simp only[aj] at r
    obtain⟨v,ws,rfl,r1,r2⟩:=r
    simp only[RD] at r1;subst r1
    rw[ux r2 hx];rfl
  | _=>simp[intsOf] at h
noncomputable def Gr(B:Bd):List V->Hp->VK->Prop:=fun xs H Q=>(∃z,xs=[.str z]/\z.length<=sizeLine/\Q (.int z.length) H)\/((∃p ys,xs=[.ref p]/\(fu B.K H p ys\/gU B.K H p ys)/\Q (.int ys.length) H)\/(∃a kvs,xs=[.ref a]/\Js B H a kvs/\Q (.int kvs.length) H))
noncomputable def rSum(B:Bd):List V->Hp->VK->Prop:=fun xs H Q=>∃(p:Addr) (ns:List Int),xs=[.ref p]/\fu B.K H p (ns.map V.int)/\Q (.int ns.sum) H
noncomputable def Gn(B:Bd):List V->Hp->VK->Prop:=fun xs H Q=>∃p ys,xs=[.ref p]/\((fu B.K H p ys/\∀l,H l=none->Q (.ref l) (upd H l (.tup ys)))\/(gU B.K H p ys/\Q (.ref p) H))
noncomputable def Gq(B:Bd):List V->Hp->VK->Prop:=fun xs H Q=>∃p ys,xs=[.ref p]/\(fu B.K H p ys\/gU B.K H p ys)/\∀l,H l=none->Q (.ref l) (upd H l (.lst ys))
noncomputable def yg(B:Bd):List V->Hp->VK->Prop:=fun xs H Q=>∃p kvs,xs=[.ref p]/\Js B H p kvs/\∀l,H l=none->Q (.ref l) (upd H l (.dK kvs))
noncomputable def rBl(B:Bd):Bl->List V->Hp->VK->Prop
 | .len=>Gr B
 | .sum=>rSum B
 | .tuple=>Gn B
 | .list=>Gq B
 | .dict=>yg B
 | _=>fun _ _ _=>False
theorem Gk{d:D}{vs:List V}(r:aj B F ρ H [d] vs):∃v,vs=[v]/\RD B F ρ H d v:=by
 simp only[aj] at r
 obtain⟨v,ws,rfl,r1,rfl⟩:=r
 exact⟨v,rfl,r1⟩
theorem AG{b:Bl}{fz:Bool}{ds:List D}{vs:List V}{X:XK}(S:SR B F ρ M H)(r:aj B F ρ H ds vs)(h:Post B (DK b fz M ds) F ρ H Q X):rBl B b vs H Q:=by
  unfold DK at h
  split at h
  . obtain⟨v,rfl,r1⟩:=Gk r
    simp only[RD] at r1;subst r1
    cases b <;> simp only at h <;> first
      | exact h.elim
      | (split at h
         . rename_i hl
           exact .inl ⟨_,rfl,Nat.le_trans (of_decide_eq_true hl) bC,ai.run h S (by simp only[RD])⟩
         . exact h.elim)
  . obtain⟨v,rfl,r1⟩:=Gk r
    split at h
    . rename_i hv
      obtain⟨a,ws,rfl,q,rr⟩:=iQ S r1 hv
      exact .inr (.inl ⟨a,ws,rfl,.inr q,ai.run h S (by simp only[RD,aj.length rr])⟩)
    . rename_i hv
      obtain⟨a,ws,rfl,q,rr⟩:=bf S r1 hv
      exact .inr (.inl ⟨a,ws,rfl,.inl q,ai.run h S (by simp only[RD,aj.length rr])⟩)
    . rename_i hv
      obtain⟨a,kvs,rfl,q,e1,e2⟩:=mQ S r1 hv
      refine .inr (.inr ⟨a,kvs,rfl,q,ai.run h S ?_⟩)
      have:=congrArg List.length e1
      simp only[List.length_map] at this
      simp only[RD,this]
    . rename_i hv
      split at h
      . rename_i ns hn
        obtain⟨a,ws,rfl,q,rr⟩:=bf S r1 hv
        have:=ux rr hn
        subst this
        exact⟨a,ns,rfl,q,ai.run h S (by simp only[RD])⟩
      . exact h.elim
    . rename_i hv
      obtain⟨a,ws,rfl,q,rr⟩:=bf S r1 hv
      exact⟨a,ws,rfl,.inl ⟨q,jG S h rr⟩⟩
    . rename_i hv
      have ed:=vn hv
      subst ed
      have r1':=r1
      simp only[RD] at r1'
      obtain⟨a,ws,rfl,q,rr⟩:=r1'
      exact⟨a,ws,rfl,.inr ⟨q.sq,ai.run h S r1⟩⟩
    . rename_i hv
      obtain⟨a,ws,rfl,q,rr⟩:=bf S r1 hv
      exact⟨a,ws,rfl,.inl q,cQ S h rr⟩
    . rename_i hv
      obtain⟨a,ws,rfl,q,rr⟩:=iQ S r1 hv
      exact⟨a,ws,rfl,.inr q,cQ S h rr⟩
    . rename_i cC hv
      obtain⟨a,kvs,rfl,q,e1,e2⟩:=mQ S r1 hv
      refine⟨a,kvs,rfl,q,fun p hp=>?_⟩
      have e0:Ext F ρ H F (ρ++[p]) (upd H p (.dK kvs)):=⟨⟨S.sep,fun _ q=>q,fun a q _=>ak (by rintro rfl;exact q hp),List.prefix_append _ _,fun a q=>by
        rcases List.mem_append.mp q with q | q
        . exact .inl q
        . rw[List.mem_singleton.mp q];exact .inr hp,fun _ q=>.inl q⟩,fun b w u q=>by rw[ak (by rintro rfl;rw[hp] at q;cases q)];exact q⟩
      obtain⟨S',e⟩:=S.lv (o:=.dK kvs) (u:=.dct cC) hp ⟨kvs,av,e1,aj.mono e0 _ _ e2⟩
      refine h _ _ _ _ e S' ?_
      simp only[RD]
      refine⟨p,?_,rfl⟩
      rw[<- S.len,List.getElem?_append_right (Nat.le_refl _),Nat.sub_self];rfl
    . exact h.elim
  . exact h.elim
theorem tM{b:Bl}{fz:Bool}{es:Es}(h:T B Φ E (.blt b fz es) σ H Q):Eb (rBl B b) (TL B Φ E es) σ H Q:=by
 obtain⟨σD,M,F,ρ,S,r,h⟩:=h
 simp only[ev] at h
 exact TL.one S r rfl h fun x M1 F1 ρ1 H1 v _ S1 _ rx h1=>AG S1 rx h1
end
end Fg
end
section
namespace Fg
open PySem L2
noncomputable def MI(B:Bd)(o:Out)(F:Addr->Prop)(ρ:List Addr)(H:Hp)(Dn:Ends)(E:Gx):Prop :=
 match o with
 | .nx σD=>∀σ,RS B F ρ H σD σ->Dn.nx σ H
 | .rt d=>∀v,RD B F ρ H d v->Dn.rt v H
 | .bk σD=>∀σ,RS B F ρ H σD σ->Dn.bk σ H
 | .ct σD=>∀σ,RS B F ρ H σD σ->Dn.ct σ H
 | .xc c σD=>∀σ cv x,RS B F ρ H σD σ->B.exc c cv->E.e cv x σ H
noncomputable def aK(B:Bd)(r:R Out)(F:Addr->Prop)(ρ:List Addr)(H:Hp)(Dn:Ends)(E:Gx):Prop :=
 match r with
 | .ok o M'=>∀F' ρ' H',Ext F ρ H F' ρ' H'->SR B F' ρ' M' H'->MI B o F' ρ' H' Dn E
 | .exc _ _=>False
 | .bad=>False
noncomputable def TC(B:Bd)(Φ:aZ)(E:Gx)(s:S):TS:=fun Dn σ H=>∃(σD:Sg) (M:MH) (F:Addr->Prop) (ρ:List Addr),
 SR B F ρ M H/\RS B F ρ H σD σ/\aK B (ex Φ s σD M) F ρ H Dn E
noncomputable def qm(B:Bd)(Φ:aZ)(E:Gx)(s:Ss):TS:=fun Dn σ H=>∃(σD:Sg) (M:MH) (F:Addr->Prop) (ρ:List Addr),
 SR B F ρ M H/\RS B F ρ H σD σ/\aK B (exs Φ s σD M) F ρ H Dn E
section
variable{B:Bd}{Φ:aZ}{E:Gx}{F F' F1:Addr->Prop}{ρ ρ' ρ1:List Addr}{H H' H1:Hp}{M M':MH}{σD:Sg}{σ:St}{Q:VK}{Dn:Ends}
theorem aK.weak{r:R Out}(e:Ext F ρ H F1 ρ1 H1)(h:aK B r F ρ H Dn E):aK B r F1 ρ1 H1 Dn E:=by
 cases r with
 | ok d M'=>exact fun F' ρ' H' e' S=>h F' ρ' H' (e.trans e') S
 | exc c M'=>exact h
 | bad=>exact h
theorem aK.use{α β:Type}{rel:(Addr->Prop)->List Addr->Hp->α->β->Prop}{x:R α}{f:α->MH->R Out}(r:RS B F ρ H σD σ)(h:aK B (x.use σD f) F ρ H Dn E) :
  ai rel B x F ρ H (fun v H'=>∃d M' F' ρ',Ext F ρ H F' ρ' H'/\SR B F' ρ' M' H'/\rel F' ρ' H' d v/\aK B (f d M') F' ρ' H' Dn E) (fun cv x H'=>E.e cv x σ H'):=by
 cases x with
 | ok d M'=>exact fun F' ρ' H' v e S q=>⟨d,M',F',ρ',e,S,q,aK.weak e h⟩
 | exc c M'=>exact fun F' ρ' H' cv x e S q=>h F' ρ' H' e S σ cv x (r.mono e) q
 | bad=>exact h
theorem TC.one{a:Fg.E}{f:D->MH->R Out}{W:V->Hp->Prop}(S:SR B F ρ M H)(r:RS B F ρ H σD σ)(h:aK B ((ev Φ a σD M).use σD f) F ρ H Dn E)
  (k:∀x M1 F1 ρ1 H1 v,Ext F ρ H F1 ρ1 H1->SR B F1 ρ1 M1 H1->RS B F1 ρ1 H1 σD σ->RD B F1 ρ1 H1 x v->aK B (f x M1) F1 ρ1 H1 Dn E->W v H1):T B Φ E a σ H W:=by
 refine⟨σD,M,F,ρ,S,r,ai.imp (aK.use (rel:=RD B) r h) fun v H1 ⟨x,M1,F1,ρ1,e,S1,rx,h1⟩=>?_⟩
 exact k x M1 F1 ρ1 H1 v e S1 (r.mono e) rx h1
theorem aK.run{o:Out}(h:aK B (.ok o M) F ρ H Dn E)(S:SR B F ρ M H):MI B o F ρ H Dn E:=h F ρ H S.refl S
theorem mU{i:Nat}{e:Fg.E}(h:TC B Φ E (.set i e) Dn σ H):Bs (T B Φ E e) (jj i) Dn σ H:=by
 obtain⟨σD,M,F,ρ,S,r,h⟩:=h
 simp only[ex] at h
 exact TC.one S r h fun x M1 F1 ρ1 H1 v e1 S1 r1 rx h1=>aK.run h1 S1 _ (r1.set rx i)
theorem F9{e:Fg.E}(h:TC B Φ E (.ex e) Dn σ H):Ea (T B Φ E e) Dn σ H:=by
 obtain⟨σD,M,F,ρ,S,r,h⟩:=h
 simp only[ex] at h
 exact TC.one S r h fun x M1 F1 ρ1 H1 v e1 S1 r1 rx h1=>aK.run h1 S1 _ r1
theorem BD{e:Fg.E}(h:TC B Φ E (.ret e) Dn σ H):J4 (T B Φ E e) Dn σ H:=by
 obtain⟨σD,M,F,ρ,S,r,h⟩:=h
 simp only[ex] at h
 exact TC.one S r h fun x M1 F1 ρ1 H1 v e1 S1 r1 rx h1=>aK.run h1 S1 _ rx
theorem BO{c:Fg.E}{a b:Ss}(h:TC B Φ E (.ifs c a b) Dn σ H):Ka (TB B Φ E c) (qm B Φ E a) (qm B Φ E b) Dn σ H:=by
 obtain⟨σD,M,F,ρ,S,r,h⟩:=h
 simp only[ex] at h
 refine TC.one S r h fun x M1 F1 ρ1 H1 v e1 S1 r1 rx h1=>?_
 split at h1
 ·simp only[RD] at rx;subst rx
  exact⟨true,rfl,by dsimp only;rw[if_pos rfl];exact⟨σD,M1,F1,ρ1,S1,r1,h1⟩⟩
 ·simp only[RD] at rx;subst rx
  exact⟨false,rfl,by dsimp only;rw[if_neg Bool.false_ne_true];exact⟨σD,M1,F1,ρ1,S1,r1,h1⟩⟩
 ·exact h1.elim
theorem oM(h:qm B Φ E .nil Dn σ H):D9 Dn σ H:=by
 obtain⟨σD,M,F,ρ,S,r,h⟩:=h
 simp only[exs] at h
 exact aK.run h S _ r
theorem lP{s:S}{ss:Ss}(h:qm B Φ E (.cons s ss) Dn σ H):FH (TC B Φ E s) (qm B Φ E ss) Dn σ H:=by
 obtain⟨σD,M,F,ρ,S,r,h⟩:=h
 simp only[exs] at h
 refine⟨σD,M,F,ρ,S,r,?_⟩
 cases hx:ex Φ s σD M with
 | ok o M1 =>
  rw[hx] at h
  simp only[R.af] at h
  intro F' ρ' H' e S'
  cases o with
  | nx σ1=>exact fun σ' r'=>⟨σ1,M1,F',ρ',S',r',aK.weak e h⟩
  | rt d=>exact fun v q=>h F' ρ' H' e S' v q
  | bk σ1=>exact fun σ' q=>h F' ρ' H' e S' σ' q
  | ct σ1=>exact fun σ' q=>h F' ρ' H' e S' σ' q
  | xc c σ1=>exact fun σ' cv x q1 q2=>h F' ρ' H' e S' σ' cv x q1 q2
 | exc c M1=>rw[hx] at h;exact h
 | bad=>rw[hx] at h;exact h
theorem sD{fz:Bool}{x:D}{ds:List D}{v:V}{vs:List V}{X:XK}(S:SR B F ρ M H)(rx:RD B F ρ H x v)(r:aj B F ρ H ds vs)(h:Post B (gM .append fz M x ds) F ρ H Q X):m6 v vs H Q:=by
 unfold gM at h
 cases hl:gy M x with
 | none=>rw[hl] at h;exact h.elim
 | some q =>
  rw[hl] at h
  obtain⟨rfl,hx⟩:=jI hl
  cases ds with
  | nil=>exact h.elim
  | cons d t =>
   cases t with
   | cons _ _=>exact h.elim
   | nil =>
    simp only[pF,rA] at h
    split at h
    ·rename_i hlen
     obtain⟨w,rfl,r1⟩:=Gk r
     simp only[RD] at rx
     obtain⟨a,h1,rfl⟩:=rx
     obtain⟨ws,h2,h3⟩:=S.obj _ a _ h1 hx
     refine⟨a,ws,w,rfl,rfl,h2,?_,?_⟩
     ·rw[<- aj.length h3];exact Nat.lt_of_lt_of_le (of_decide_eq_true hlen) bC
     ·obtain⟨S',e⟩:=S.st (o:=.lst (ws++[w])) (u:=.lst (q.2++[d])) h1 (fun _ _ q=>by rw[h2] at q;cases q) ⟨_,av,aj.bw (Ext0.at_ S h1) _ _ (h3.append (aj.cons r1 aj.nil))⟩
      exact h _ _ _ _ e S' (by simp only[RD])
    ·exact h.elim
theorem yi{k:Key}{d:D}{v:V}(rd:RD B F ρ H d v):∀{cC:List (Ky×D)} {kvs:List (Key×V)},kvs.map (·.1)=cC.map (·.1)->aj B F ρ H (cC.map (·.2)) (kvs.map (·.2)) ->
  (putK kvs k v).map (·.1)=(put cC k d).map (·.1)/\aj B F ρ H ((put cC k d).map (·.2)) ((putK kvs k v).map (·.2)):=by
 have hmap:∀{cC:List (Ky×D)} {kvs:List (Key×V)},kvs.map (·.1)=cC.map (·.1)->aj B F ρ H (cC.map (·.2)) (kvs.map (·.2)) ->
   (kvs.map fun kv=>if kv.1=k then (kv.1,v) else kv).map (·.1)=(cC.map fun kv=>if kv.1=k then (kv.1,d) else kv).map (·.1) /\
   aj B F ρ H ((cC.map fun kv=>if kv.1=k then (kv.1,d) else kv).map (·.2)) ((kvs.map fun kv=>if kv.1=k then (kv.1,v) else kv).map (·.2)):=by
  intro cC
  induction cC with
  | nil=>intro kvs h1 h2;cases kvs with | nil=>exact⟨rfl,aj.nil⟩ | cons _ _=>simp at h1
  | cons p cC ih =>
   intro kvs h1 h2
   cases kvs with
   | nil=>simp at h1
   | cons q kvs =>
    obtain⟨pk,pd⟩:=p
    obtain⟨qk,qv⟩:=q
    simp only[List.map_cons,List.cons.injEq] at h1
    simp only[List.map_cons,aj] at h2
    obtain⟨u,ws,e,r1,r2⟩:=h2
    cases e
    obtain⟨e1,e2⟩:=h1
    subst e1
    obtain⟨i1,i2⟩:=ih e2 r2
    by_cases hk:qk=k
    ·simp only[List.map_cons,if_pos hk,i1,true_and]
     exact aj.cons rd i2
    ·simp only[List.map_cons,if_neg hk,i1,true_and]
     exact aj.cons r1 i2
 have hany:∀{cC:List (Ky×D)} {kvs:List (Key×V)},kvs.map (·.1)=cC.map (·.1)->(kvs.any fun kv=>decide (kv.1=k))=(cC.any fun kv=>decide (kv.1=k)):=by
  intro cC
  induction cC with
  | nil=>intro kvs h1;cases kvs with | nil=>rfl | cons _ _=>simp at h1
  | cons p cC ih =>
   intro kvs h1
   cases kvs with
   | nil=>simp at h1
   | cons q kvs =>
    simp only[List.map_cons,List.cons.injEq] at h1
    simp only[List.any_cons,h1.1,ih h1.2]
 intro cC kvs h1 h2
 unfold putK put
 rw[hany h1]
 split
 ·exact hmap h1 h2
 ·simp only[List.map_append,List.map_cons,List.map_nil,h1,true_and]
  exact h2.append (aj.cons rd aj.nil)
noncomputable def Walks(B:Bd)(J:It)(src:D)(ds:List D)(F0:Addr->Prop)(ρ0:List Addr)(M0:MH)(H0:Hp):Prop :=
 ∀(i:Nat) F ρ M H,Ext F0 ρ0 H0 F ρ H->SR B F ρ M H->aO M0 src M=true ->
  (∀d,ds[i]? = some d->J.go i H/\∀x H',J.MS i H x H'->∃F',Ext F ρ H F' ρ H'/\SR B F' ρ M H'/\RD B F' ρ H' d x)/\(ds.length<=i->J.stop i H)
noncomputable def DP(B:Bd)(Φ:aZ)(E:Gx)(c:Src):TI:=fun σ H R=>∃(σD:Sg) (M:MH) (F:Addr->Prop) (ρ:List Addr),
 SR B F ρ M H/\RS B F ρ H σD σ/\ai (fun F' ρ' H' (p:D×List D×Bool) (J:It)=>∀M',bA Φ c σD M=.ok p M'->SR B F' ρ' M' H'->Walks B J p.1 p.2.1 F' ρ' M' H' /\
  (p.2.2=true->∃n a,p.1=.ref n/\ρ'[n]? = some a/\E.th a/\∀w v,H a≠some (.dP w v))) B (bA Φ c σD M) F ρ H R (fun cv x H'=>E.e cv x σ H')
noncomputable def thE(th:Addr->Prop)(D:Ends):Ends:=⟨fun σ H=>∃H',A6 th H H'/\D.nx σ H',fun v H=>∃H',A6 th H H'/\D.rt v H',fun σ H=>∃H',A6 th H H'/\D.bk σ H',fun σ H=>∃H',A6 th H H'/\D.ct σ H'⟩
theorem cM{F1:Addr->Prop}{ρ0 ρ1:List Addr}{H1:Hp}{M1:MH}{fl:Bool}{src:D}{th:Addr->Prop}(S:SR B F1 ρ1 M1 H1)(e:Ext F ρ H F1 ρ1 H1)(hp:ρ0 <+: ρ1)(wz:fl=true->∃n a,src=.ref n/\ρ0[n]? = some a/\th a/\∀w v,H a≠some (.dP w v)) :
  ∃H',A6 th H1 H'/\SR B F1 ρ1 (fE fl src M1) H'/\Ext F ρ H F1 ρ1 H'/\Ext0 F1 ρ1 H1 F1 ρ1 H':=by
 have same:SR B F1 ρ1 M1 H1/\Ext F ρ H F1 ρ1 H1/\Ext0 F1 ρ1 H1 F1 ρ1 H1:=⟨S,e,S.refl.toExt0⟩
 cases fl with
 | false=>exact⟨H1,.inl rfl,by cases src <;> exact same⟩
 | true =>
  obtain⟨n,a,rfl,hn,ht,hz⟩:=wz rfl
  have hn1:ρ1[n]? = some a:=by
   obtain⟨t,rfl⟩:=hp
   obtain⟨q,_⟩:=List.getElem?_eq_some_iff.mp hn
   rw[List.getElem?_append_left q];exact hn
  cases hM:M1[n]? with
  | none=>refine⟨H1,.inl rfl,?_⟩;simp only[fE,hM];exact same
  | some o =>
   cases o with
   | ou kvs =>
    obtain⟨o,kws,h1,S'⟩:=S.uw hn1 hM
    refine⟨upd H1 a (.dK kws),.inr ⟨a,o,kws,ht,h1,rfl⟩,?_,e.thaw (List.mem_of_getElem? hn1) hz S.sep,Ext0.at_ S hn1⟩
    simp only[fE,hM];exact S'
   | lst _=>refine⟨H1,.inl rfl,?_⟩;simp only[fE,hM];exact same
   | dct _=>refine⟨H1,.inl rfl,?_⟩;simp only[fE,hM];exact same
   | ins _ _=>refine⟨H1,.inl rfl,?_⟩;simp only[fE,hM];exact same
theorem RS.bw{F':Addr->Prop}{ρ':List Addr}{H':Hp}(e:Ext0 F ρ H F' ρ' H')(h:RS B F ρ H σD σ):RS B F' ρ' H' σD σ :=
 ⟨h.len,fun i d q=>let ⟨v,h1,h2⟩:=h.get i d q;⟨v,h1,RD.bw e d v h2⟩⟩
noncomputable def LB(tg:List Nat)(K:W.Frag):TG:=match tg with
 | [i]=>jj i
 | [i,j]=>fun v σ H Q=>∃a x y,v=.ref a/\gU K H a [x,y]/\Q ((σ.set i (some x)).set j (some y)) H
 | []=>fun _ _ _ _=>False
 | tg=>fun v σ H Q=>∃a xs,v=.ref a/\gU K H a xs/\xs.length=tg.length/\Q (iS tg xs σ) H
theorem RS.all:∀{tg:List Nat} {ds:List D} {vs:List V} {σD:Sg} {σ:St},RS B F ρ H σD σ->aj B F ρ H ds vs->RS B F ρ H (iS tg ds σD) (iS tg vs σ)
 | [],ds,vs,σD,σ,r,q=>by cases ds <;> cases vs <;> exact r
 | i::tg,[],vs,σD,σ,r,q=>by simp only[aj] at q;subst q;exact r
 | i::tg,d::ds,vs,σD,σ,r,q=>by
  simp only[aj] at q
  obtain⟨v,ws,rfl,h1,h2⟩:=q
  exact RS.all (tg:=tg) (ds:=ds) (vs:=ws) (σD:=σD.set i (some d)) (σ:=σ.set i (some v)) (r.set h1 i) h2
theorem oU{tg:List Nat}{d:D}{v:V}{σ1:Sg}{N:St->Hp->Prop}(r:RS B F ρ H σD σ)(rd:RD B F ρ H d v)(h:sets tg M d σD=some σ1)(k:∀σ',RS B F ρ H σ1 σ'->N σ' H):LB tg B.K v σ H N:=by
 unfold sets at h
 split at h
 ·cases h;exact k _ (r.set rd _)
 ·split at h
  ·cases h
   simp only[RD] at rd
   obtain⟨a,vs,rfl,z,q⟩:=rd
   simp only[aj] at q
   obtain⟨x,ws,rfl,r1,y,us,rfl,r2,rfl⟩:=q
   exact⟨a,x,y,rfl,z.sq,k _ ((r.set r1 _).set r2 _)⟩
  ·cases h
 ·cases h
 ·rename_i h1 h2 h3
  split at h
  ·rename_i xs
   split at h
   ·rename_i hl
    cases h
    simp only[RD] at rd
    obtain⟨a,vs,rfl,z,q⟩:=rd
    have e:vs.length=tg.length:=by rw[<- aj.length q];exact hl
    match tg,h1,h2,h3,e,k with
    | i::j::l::tg,_,_,_,e,k=>exact⟨a,vs,rfl,z.sq,e,k _ (r.all q)⟩
    | [i],h1,_,_,_,_=>exact absurd rfl (h1 i)
    | [i,j],_,h2,_,_,_=>exact absurd rfl (h2 i j)
    | [],_,_,h3,_,_=>exact absurd rfl h3
   ·cases h
  ·cases h
theorem BS{tg:List Nat}{it:Src}{b:Ss}(h:TC B Φ E (.for tg it b) Dn σ H):Kc (DP B Φ E it) (LB tg B.K) (qm B Φ E b) (thE E.th Dn) σ H:=by
 obtain⟨σD,M,F,ρ,S,r,h⟩:=h
 simp only[ex] at h
 refine⟨σD,M,F,ρ,S,r,?_⟩
 cases hx:bA Φ it σD M with
 | exc c M1=>rw[hx] at h;exact fun F' ρ' H' cv x e S q=>h F' ρ' H' e S σ cv x (r.mono e) q
 | bad=>rw[hx] at h;exact h
 | ok p M0 =>
  rw[hx] at h
  simp only[R.gH] at h
  intro F0 ρ0 H0 J e0 S0 hw
  obtain⟨W,wz⟩:=hw M0 rfl S0
  obtain⟨src,ds,fl⟩:=p
  dsimp only at h W wz
  refine⟨fun i m σ H1=>m+i=ds.length/\∃σD M F1 ρ1,Ext F ρ H F1 ρ1 H1/\Ext F0 ρ0 H0 F1 ρ1 H1/\SR B F1 ρ1 M H1/\RS B F1 ρ1 H1 σD σ/\aO M0 src M=true/\aK B ((bh (exs Φ b) tg (aO M0 src) (ds.drop i) σD M).fin (fE fl src)) F ρ H Dn E,⟨ds.length,by simp,σD,M0,F0,ρ0,e0,S0.refl,S0,r.mono e0,?_,h⟩,?_⟩
  ·unfold aO;split <;> simp
  rintro i m σ1 H1 ⟨hm,A8,M1,F1,ρ1,eo,e1,S1,r1,st1,p1⟩
  obtain⟨wgo,wst⟩:=W i F1 ρ1 M1 H1 e1 S1 st1
  by_cases hi:i<ds.length
  ·have hd:ds.drop i=ds[i]::ds.drop (i+1):=List.drop_eq_getElem_cons hi
   rw[hd] at p1
   unfold bh at p1
   obtain⟨go,yl⟩:=wgo ds[i] (List.getElem?_eq_getElem hi)
   refine .inr ⟨go,fun σ' H'=>∃σD M F1 ρ1,Ext F ρ H F1 ρ1 H'/\Ext F0 ρ0 H0 F1 ρ1 H'/\SR B F1 ρ1 M H'/\RS B F1 ρ1 H' σD σ'/\aO M0 src M=true/\aK B ((bh (exs Φ b) tg (aO M0 src) (ds.drop (i+1)) σD M).fin (fE fl src)) F ρ H Dn E,fun σ' H' q=>⟨m-1,by omega,by omega,q⟩,fun x H' hy=>?_⟩
   obtain⟨F',e2,S2,rd⟩:=yl x H' hy
   split at p1
   ·exact p1.elim
   ·rename_i σ2 hs
    refine oU (r1.mono e2) rd hs fun σ' r'=>⟨σ2,M1,F',ρ1,S2,r',?_⟩
    cases hb:exs Φ b σ2 M1 with
    | exc c M3=>rw[hb] at p1;exact p1.elim
    | bad=>rw[hb] at p1;exact p1.elim
    | ok o M3 =>
     rw[hb] at p1
     simp only[R.af] at p1
     intro F3 ρ3 H3 e3 S3
     have LX:=(eo.trans e2).trans e3
     have Mf:=(e1.trans e2).trans e3
     cases o with
     | nx σ3 =>
      simp only at p1
      intro σ4 r4
      split at p1
      ·rename_i hst
       exact⟨σ3,M3,F3,ρ3,LX,Mf,S3,r4,hst,p1⟩
      ·exact p1.elim
     | ct σ3 =>
      simp only at p1
      intro σ4 r4
      split at p1
      ·rename_i hst
       exact⟨σ3,M3,F3,ρ3,LX,Mf,S3,r4,hst,p1⟩
      ·exact p1.elim
     | bk σ3 =>
      obtain⟨H4,t4,S4,e4,x4⟩:=cM S3 LX Mf.r wz
      exact fun σ4 r4=>⟨H4,t4,p1 F3 ρ3 H4 e4 S4 σ4 (r4.bw x4)⟩
     | rt d =>
      obtain⟨H4,t4,S4,e4,x4⟩:=cM S3 LX Mf.r wz
      exact fun v q=>⟨H4,t4,p1 F3 ρ3 H4 e4 S4 v (RD.bw x4 _ _ q)⟩
     | xc c σ3 =>
      obtain⟨H4,t4,S4,e4,x4⟩:=cM S3 LX Mf.r wz
      exact fun σ4 cv x q1 q2=>E.cl cv x σ4 H3 H4 t4 (p1 F3 ρ3 H4 e4 S4 σ4 cv x (q1.bw x4) q2)
  ·have hd:ds.drop i=[]:=List.drop_eq_nil_of_le (Nat.le_of_not_lt hi)
   rw[hd] at p1
   unfold bh at p1
   obtain⟨H4,t4,S4,e4,x4⟩:=cM S1 eo e1.r wz
   exact .inl ⟨wst (Nat.le_of_not_lt hi),H4,t4,p1 F1 ρ1 H4 e4 S4 σ1 (r1.bw x4)⟩
theorem vB{c:Fg.E}{b:Ss}(h:TC B Φ E (.while c b) Dn σ H):xu (TB B Φ E c) (qm B Φ E b) Dn σ H:=by
 obtain⟨σD,M,F,ρ,S,r,h⟩:=h
 simp only[ex] at h
 refine⟨fun m σ H=>∃σD M F ρ,SR B F ρ M H/\RS B F ρ H σD σ/\aK B (bT (ev Φ c) (exs Φ b) m σD M) F ρ H Dn E,⟨Φ.turns,σD,M,F,ρ,S,r,h⟩,?_⟩
 rintro m σ1 H1 ⟨A8,M1,F1,ρ1,S1,r1,p1⟩
 cases m with
 | zero=>simp only[bT] at p1;exact p1.elim
 | succ m =>
  simp only[bT] at p1
  refine TC.one S1 r1 p1 fun x M2 F2 ρ2 H2 v e2 S2 r2 rx h2=>?_
  split at h2
  ·simp only[RD] at rx;subst rx
   refine⟨false,rfl,?_⟩
   exact aK.run h2 S2 _ r2
  ·simp only[RD] at rx;subst rx
   refine⟨true,rfl,?_⟩
   refine⟨fun σ' H'=>∃σD M F ρ,SR B F ρ M H'/\RS B F ρ H' σD σ'/\aK B (bT (ev Φ c) (exs Φ b) m σD M) F ρ H' Dn E,fun σ' H' q=>⟨m,Nat.lt_succ_self m,q⟩,A8,M2,F2,ρ2,S2,r2,?_⟩
   cases hb:exs Φ b A8 M2 with
   | exc c M3=>rw[hb] at h2;exact h2
   | bad=>rw[hb] at h2;exact h2
   | ok o M3 =>
    rw[hb] at h2
    simp only[R.af] at h2
    intro F3 ρ3 H3 e3 S3
    cases o with
    | nx σ3=>exact fun σ4 r4=>⟨σ3,M3,F3,ρ3,S3,r4,aK.weak e3 h2⟩
    | ct σ3=>exact fun σ4 r4=>⟨σ3,M3,F3,ρ3,S3,r4,aK.weak e3 h2⟩
    | bk σ3=>exact fun σ4 r4=>h2 F3 ρ3 H3 e3 S3 σ4 r4
    | rt d=>exact fun v q=>h2 F3 ρ3 H3 e3 S3 v q
    | xc c σ3=>exact fun σ4 cv x q1 q2=>h2 F3 ρ3 H3 e3 S3 σ4 cv x q1 q2
  ·exact h2.elim
end
end Fg
end
section
namespace Fg
open PySem PySem.Spec L2
mutual
inductive VV(h:Heap):D->Value->Prop
 | aq:VV h .aq .none
 | bl (b:Bool):VV h (.bl b) (.bool b)
 | int (i:Int) (t:Tok):VV h (.int i) (.int i t)
 | str (x:Str) (t:Tok):VV h (.str x) (.str x t)
 | tup {ds:List D} {a:Addr} {its:List Value}:h.IsTuple a its.toArray->jw h ds its->VV h (.tup ds) (.ref a)
 | lst {ds:List D} {a:Addr} {its:List Value}:h.IsList a its.toArray->jw h ds its->VV h (.lst ds) (.ref a)
inductive jw(h:Heap):List D->List Value->Prop
 | nil:jw h [] []
 | cons {d:D} {u:Value} {ds:List D} {us:List Value}:VV h d u->jw h ds us->jw h (d::ds) (u::us)
end
section
variable{X:Cx}{pins:List (Addr×Obj)}{σ:L2.St}{H:Hp}{s:Shared}
mutual
theorem DV.vv(I:Inv X pins σ H s):∀(d:D) (x:V) (u:Value),DV X.K H d x->RelV x u->VV s.heap d u
 | .aq,x,u,h,r=>by simp only[DV] at h;subst h;cases (show u=Value.none from r);exact .aq
 | .bl b,x,u,h,r=>by simp only[DV] at h;subst h;cases (show u=Value.bool b from r);exact .bl b
 | .int i,x,u,h,r=>by simp only[DV] at h;subst h;obtain⟨t,rfl⟩:=(show ∃t,u=Value.int i t from r);exact .int i t
 | .str z,x,u,h,r=>by simp only[DV] at h;subst h;obtain⟨t,rfl⟩:=(show ∃t,u=Value.str z t from r);exact .str z t
 | .tup ds,x,u,h,r=>by
  simp only[DV] at h
  obtain⟨a,vs,rfl,h1,h2⟩:=h
  cases (show u=Value.ref a from r)
  obtain⟨its,r1,t1,_⟩:=I.tuple h1
  exact .tup t1 (ow.vv I ds vs its h2 r1)
 | .lst ds,x,u,h,r=>by
  simp only[DV] at h
  obtain⟨a,vs,rfl,h1,h2⟩:=h
  cases (show u=Value.ref a from r)
  obtain⟨its,r1,t1,_⟩:=I.list h1
  exact .lst t1.isList (ow.vv I ds vs its h2 r1)
 | .dct _ _,x,u,h,r=>by simp only[DV] at h
 | .ref _,x,u,h,r=>by simp only[DV] at h
 | .g7 _,x,u,h,r=>by simp only[DV] at h
theorem ow.vv(I:Inv X pins σ H s):∀(ds:List D) (xs:List V) (us:List Value),ow X.K H ds xs->Vals xs us->jw s.heap ds us
 | [],xs,us,h,r=>by simp only[ow] at h;subst h;cases r;exact .nil
 | d::ds,xs,us,h,r=>by
  simp only[ow] at h
  obtain⟨v,ws,rfl,h1,h2⟩:=h
  cases r with
  | cons r1 r2=>exact .cons (DV.vv I d _ _ h1 r1) (ow.vv I ds _ _ h2 r2)
end
end
theorem Bm{h:Heap}{a:Addr}{x y:List Value}(p:h.IsTuple a x.toArray)(q:h.IsTuple a y.toArray):x=y:=by
 obtain⟨o,e,_,n,d⟩:=p
 obtain⟨o',e',_,n',d'⟩:=q
 rw[e] at e';cases e';rw[d] at d';simpa using (Data.seq.inj d').1
theorem CI{h:Heap}{a:Addr}{x y:List Value}(p:h.IsList a x.toArray)(q:h.IsList a y.toArray):x=y:=by
 obtain⟨o,e,_,n,d⟩:=p
 obtain⟨o',e',_,n',d'⟩:=q
 rw[e] at e';cases e';rw[d] at d';simpa using (Data.seq.inj d').1
mutual
theorem VV.same{s:Shared}:∀(d e:D) (u:Value),VV s.heap d u->VV s.heap e u->aD d e=true
 | .aq,_,_,p,q=>by cases p;cases q;rfl
 | .bl _,_,_,p,q=>by cases p;cases q;simp[aD]
 | .int _,_,_,p,q=>by cases p;cases q;simp[aD]
 | .str _,_,_,p,q=>by cases p;cases q;simp[aD]
 | .tup ds,_,_,p,q=>by
  cases p with
  | tup t1 p=>cases q with
   | tup t2 q=>simp only[aD];exact jw.same ds _ _ p (Bm t1 t2 ▸ q)
   | lst t2 q=>exact absurd rfl (SeqAt.ne_of_list_tuple t2 t1)
 | .lst ds,_,_,p,q=>by
  cases p with
  | lst t1 p=>cases q with
   | lst t2 q=>simp only[aD];exact jw.same ds _ _ p (CI t1 t2 ▸ q)
   | tup t2 q=>exact absurd rfl (SeqAt.ne_of_list_tuple t1 t2)
 | .dct _ _,_,_,p,_=>nomatch p
 | .ref _,_,_,p,_=>nomatch p
 | .g7 _,_,_,p,_=>nomatch p
theorem jw.same{s:Shared}:∀(ds es:List D) (us:List Value),jw s.heap ds us->jw s.heap es us->cJ ds es=true
 | [],_,_,p,q=>by cases p;cases q;rfl
 | d::ds,_,_,p,q=>by
  cases p with
  | cons p1 p2=>cases q with
   | cons q1 q2=>simp only[cJ,VV.same d _ _ p1 q1,jw.same ds _ _ p2 q2,Bool.and_self]
end
theorem jw.length{h:Heap}:∀{ds:List D} {us:List Value},jw h ds us->ds.length=us.length
 | _,_,.nil=>rfl
 | _,_,.cons _ q=>by simp[jw.length q]
theorem jw.get{h:Heap}:∀{ds:List D} {us:List Value} {i:Nat} (h1:i<us.length),jw h ds us->∃d,ds[i]? = some d/\VV h d us[i]/\dep d<=deps ds
 | _,_,i,h1,.nil=>by simp at h1
 | d::ds,u::us,i,h1,.cons p q=>by
  cases i with
  | zero=>exact⟨d,rfl,p,by simp only[deps];omega⟩
  | succ i =>
   obtain⟨e,a,b,c⟩:=jw.get (i:=i) (by simpa using h1) q
   exact⟨e,by simpa using a,by simpa using b,by simp only[deps];omega⟩
noncomputable def pairD(ds es:List D)(j:Nat):Bool:=match ds[j]?,es[j]? with | some a,some b=>aD a b | _,_=>false
theorem kO:∀(ds es:List D),((List.range (min ds.length es.length)).all (pairD ds es)&&ds.length == es.length)=cJ ds es
 | [],[]=>by simp[cJ]
 | [],e::es=>by simp[cJ]
 | d::ds,[]=>by simp[cJ]
 | d::ds,e::es=>by
  have ih:=kO ds es
  simp only[cJ,<- ih]
  simp only[List.length_cons,Nat.succ_min_succ,List.range_succ_eq_map,List.all_cons,List.all_map,Function.comp_def]
  simp[Bool.and_assoc,pairD]
  rfl
theorem in1_units(A:Around):A.in1.units=A.units+1:=rfl
section
variable{s:Shared}
noncomputable def Jv(s:Shared)(n:Nat):Prop:=∀(d e:D) (u w:Value) (A:Around),dep d+dep e<n->VV s.heap d u->VV s.heap e w->A.units+min (dep d) (dep e)<cLine->SeqAt.RcAt A s u w (aD d e)/\SeqAt.EqAt A s u w (aD d e)
theorem Jv.items{n:Nat}{ds es:List D}{us ws:List Value}{A:Around}(ih:Jv s n)(hn:deps ds+deps es<n)(p:jw s.heap ds us)(q:jw s.heap es ws)(hA:A.units+(min (deps ds) (deps es)+1)<cLine) :
  ∀j (h1:j<us.toArray.size) (h2:j<ws.toArray.size),SeqAt.EqAt A.in1 s us.toArray[j] ws.toArray[j] (pairD ds es j):=by
 intro j h1 h2
 obtain⟨d,e1,p1,g1⟩:=p.get (i:=j) (by simpa using h1)
 obtain⟨e,e2,p2,g2⟩:=q.get (i:=j) (by simpa using h2)
 simp only[pairD,e1,e2]
 exact (ih d e _ _ A.in1 (by omega) p1 p2 (by rw[in1_units];omega)).2
theorem Jv.tup{n:Nat}{ds es:List D}{us ws:List Value}{a b:Addr}{A:Around}(ih:Jv s n)(hn:deps ds+deps es<n)(t1:s.heap.IsTuple a us.toArray)(t2:s.heap.IsTuple b ws.toArray)(p:jw s.heap ds us)(q:jw s.heap es ws)(hA:A.units+(min (deps ds) (deps es)+1)<cLine) :
  SeqAt.RcAt A s (.ref a) (.ref b) (cJ ds es)/\SeqAt.RcNeAt A s (.ref a) (.ref b) (!cJ ds es):=by
 have hi:=ih.items hn p q hA
 have r:=SeqAt.RcAt.tuples t1 t2 (by omega) hi
 have r':=SeqAt.RcNeAt.tuples t1 t2 (by omega) hi
 simp only[List.size_toArray,<- p.length,<- q.length,kO] at r r'
 exact⟨r,r'⟩
theorem Jv.lst{n:Nat}{ds es:List D}{us ws:List Value}{a b:Addr}{A:Around}(ih:Jv s n)(hn:deps ds+deps es<n)(t1:s.heap.IsList a us.toArray)(t2:s.heap.IsList b ws.toArray)(p:jw s.heap ds us)(q:jw s.heap es ws)(hA:A.units+(min (deps ds) (deps es)+1)<cLine) :
  SeqAt.RcAt A s (.ref a) (.ref b) (cJ ds es)/\SeqAt.RcNeAt A s (.ref a) (.ref b) (!cJ ds es):=by
 have z:=kO ds es
 by_cases hz:us.length=ws.length
 ·have hi:=ih.items hn p q hA
  have r:=SeqAt.RcAt.lists t1 t2 (by simpa using hz) (by omega) hi
  have r':=SeqAt.RcNeAt.lists t1 t2 (by simpa using hz) (by omega) hi
  rw[p.length,q.length,<- hz,Nat.min_self,beq_self_eq_true,Bool.and_true] at z
  rw[List.size_toArray,z] at r r'
  exact⟨r,r'⟩
 ·rw[p.length,q.length,beq_false_of_ne hz,Bool.and_false] at z
  rw[<- z]
  exact⟨SeqAt.RcAt.lists_lengths t1 t2 (by simpa using hz) (by omega),SeqAt.RcNeAt.lists_lengths t1 t2 (by simpa using hz) (by omega)⟩
theorem eq_data:∀(n:Nat),Jv s n
 | 0=>fun _ _ _ _ _ h=>absurd h (Nat.not_lt_zero _)
 | n+1=>by
  intro d e u w A hn hd he hA
  have ih:=eq_data n
  have hu:A.units<cLine:=by omega
  have fin:∀{a b:Addr},VV s.heap d (.ref a)->VV s.heap e (.ref b)->SeqAt.RcAt A s (.ref a) (.ref b) (aD d e)->SeqAt.RcAt A s (.ref a) (.ref b) (aD d e)/\SeqAt.EqAt A s (.ref a) (.ref b) (aD d e):=fun {a b} p q r=>by
   refine⟨r,?_⟩
   by_cases hab:a=b
   ·subst hab
    rw[VV.same d e _ p q]
    exact .same _
   ·exact .of_refs hab r
  have hd':=hd
  have he':=he
  cases hd with
  | aq=>cases he with
   | aq=>simp only[aD];exact⟨.none_none,.same _⟩
   | bl b2=>simp only[aD];exact⟨.none_bool b2,.none_bool b2⟩
   | int i2 t2=>simp only[aD];exact⟨.none_int i2 t2,.none_int i2 t2⟩
   | str x2 t2=>simp only[aD];exact⟨.none_str x2 t2,.none_str x2 t2⟩
   | lst p2 q2=>simp only[aD];exact⟨.none_list p2 hu,.none_list p2 hu⟩
   | tup p2 q2=>simp only[aD];exact⟨.none_tuple p2 hu,.none_tuple p2 hu⟩
  | bl b1=>cases he with
   | aq=>simp only[aD];exact⟨.bool_none b1,.bool_none b1⟩
   | bl b2=>simp only[aD];exact⟨.bool_bool b1 b2,.bool_bool b1 b2⟩
   | int i2 t2=>simp only[aD];exact⟨.bool_int b1 i2 t2,.bool_int b1 i2 t2⟩
   | str x2 t2=>simp only[aD];exact⟨.bool_str b1 x2 t2,.bool_str b1 x2 t2⟩
   | lst p2 q2=>simp only[aD];exact⟨.bool_list b1 p2 hu,.bool_list b1 p2 hu⟩
   | tup p2 q2=>simp only[aD];exact⟨.bool_tuple b1 p2 hu,.bool_tuple b1 p2 hu⟩
  | int i1 t1=>cases he with
   | aq=>simp only[aD];exact⟨.int_none i1 t1,.int_none i1 t1⟩
   | bl b2=>simp only[aD];exact⟨.int_bool i1 t1 b2,.int_bool i1 t1 b2⟩
   | int i2 t2=>simp only[aD];exact⟨.int_int i1 t1 i2 t2,.int_int i1 t1 i2 t2⟩
   | str x2 t2=>simp only[aD];exact⟨.int_str i1 t1 x2 t2,.int_str i1 t1 x2 t2⟩
   | lst p2 q2=>simp only[aD];exact⟨.int_list i1 t1 p2 hu,.int_list i1 t1 p2 hu⟩
   | tup p2 q2=>simp only[aD];exact⟨.int_tuple i1 t1 p2 hu,.int_tuple i1 t1 p2 hu⟩
  | str x1 t1=>cases he with
   | aq=>simp only[aD];exact⟨.str_none x1 t1,.str_none x1 t1⟩
   | bl b2=>simp only[aD];exact⟨.str_bool x1 t1 b2,.str_bool x1 t1 b2⟩
   | int i2 t2=>simp only[aD];exact⟨.str_int x1 t1 i2 t2,.str_int x1 t1 i2 t2⟩
   | str x2 t2=>simp only[aD];exact⟨.str_str x1 t1 x2 t2,.str_str x1 t1 x2 t2⟩
   | lst p2 q2=>simp only[aD];exact⟨.str_list x1 t1 p2 hu,.str_list x1 t1 p2 hu⟩
   | tup p2 q2=>simp only[aD];exact⟨.str_tuple x1 t1 p2 hu,.str_tuple x1 t1 p2 hu⟩
  | lst p1 q1=>cases he with
   | aq=>simp only[aD];exact⟨.list_none p1 hu,.list_none p1 hu⟩
   | bl b2=>simp only[aD];exact⟨.list_bool b2 p1 hu,.list_bool b2 p1 hu⟩
   | int i2 t2=>simp only[aD];exact⟨.list_int i2 t2 p1 hu,.list_int i2 t2 p1 hu⟩
   | str x2 t2=>simp only[aD];exact⟨.list_str x2 t2 p1 hu,.list_str x2 t2 p1 hu⟩
   | lst p2 q2=>simp only[dep] at hn hA;exact fin hd' he' (by simp only[aD];exact (ih.lst (by omega) p1 p2 q1 q2 (by omega)).1)
   | tup p2 q2=>simp only[aD];exact⟨.list_tuple p1 p2 hu,.list_tuple p1 p2 hu⟩
  | tup p1 q1=>cases he with
   | aq=>simp only[aD];exact⟨.tuple_none p1 hu,.tuple_none p1 hu⟩
   | bl b2=>simp only[aD];exact⟨.tuple_bool b2 p1 hu,.tuple_bool b2 p1 hu⟩
   | int i2 t2=>simp only[aD];exact⟨.tuple_int i2 t2 p1 hu,.tuple_int i2 t2 p1 hu⟩
   | str x2 t2=>simp only[aD];exact⟨.tuple_str x2 t2 p1 hu,.tuple_str x2 t2 p1 hu⟩
   | lst p2 q2=>simp only[aD];exact⟨.tuple_list p1 p2 hu,.tuple_list p1 p2 hu⟩
   | tup p2 q2=>simp only[dep] at hn hA;exact fin hd' he' (by simp only[aD];exact (ih.tup (by omega) p1 p2 q1 q2 (by omega)).1)
theorem ne_data{d e:D}{u w:Value}{A:Around}(hd:VV s.heap d u)(he:VV s.heap e w)(hA:A.units+min (dep d) (dep e)<cLine):SeqAt.RcNeAt A s u w (!aD d e):=by
 have ih:=eq_data (s:=s) (dep d+dep e)
 have hu:A.units<cLine:=by omega
 cases hd with
 | aq=>cases he with
  | aq=>simp only[aD,Bool.not_true];exact .none_none
  | bl b2=>simp only[aD,Bool.not_false];exact .none_bool b2
  | int i2 t2=>simp only[aD,Bool.not_false];exact .none_int i2 t2
  | str x2 t2=>simp only[aD,Bool.not_false];exact .none_str x2 t2
  | lst p2 q2=>simp only[aD,Bool.not_false];exact .none_list p2 hu
  | tup p2 q2=>simp only[aD,Bool.not_false];exact .none_tuple p2 hu
 | bl b1=>cases he with
  | aq=>simp only[aD,Bool.not_false];exact .bool_none b1
  | bl b2=>simp only[aD];exact .bool_bool b1 b2
  | int i2 t2=>simp only[aD];exact .bool_int b1 i2 t2
  | str x2 t2=>simp only[aD,Bool.not_false];exact .bool_str b1 x2 t2
  | lst p2 q2=>simp only[aD,Bool.not_false];exact .bool_list b1 p2 hu
  | tup p2 q2=>simp only[aD,Bool.not_false];exact .bool_tuple b1 p2 hu
 | int i1 t1=>cases he with
  | aq=>simp only[aD,Bool.not_false];exact .int_none i1 t1
  | bl b2=>simp only[aD];exact .int_bool i1 t1 b2
  | int i2 t2=>simp only[aD];exact .int_int i1 t1 i2 t2
  | str x2 t2=>simp only[aD,Bool.not_false];exact .int_str i1 t1 x2 t2
  | lst p2 q2=>simp only[aD,Bool.not_false];exact .int_list i1 t1 p2 hu
  | tup p2 q2=>simp only[aD,Bool.not_false];exact .int_tuple i1 t1 p2 hu
 | str x1 t1=>cases he with
  | aq=>simp only[aD,Bool.not_false];exact .str_none x1 t1
  | bl b2=>simp only[aD,Bool.not_false];exact .str_bool x1 t1 b2
  | int i2 t2=>simp only[aD,Bool.not_false];exact .str_int x1 t1 i2 t2
  | str x2 t2=>simp only[aD];exact .str_str x1 t1 x2 t2
  | lst p2 q2=>simp only[aD,Bool.not_false];exact .str_list x1 t1 p2 hu
  | tup p2 q2=>simp only[aD,Bool.not_false];exact .str_tuple x1 t1 p2 hu
 | lst p1 q1=>cases he with
  | aq=>simp only[aD,Bool.not_false];exact .list_none p1 hu
  | bl b2=>simp only[aD,Bool.not_false];exact .list_bool b2 p1 hu
  | int i2 t2=>simp only[aD,Bool.not_false];exact .list_int i2 t2 p1 hu
  | str x2 t2=>simp only[aD,Bool.not_false];exact .list_str x2 t2 p1 hu
  | lst p2 q2=>simp only[dep] at ih hA;simp only[aD];exact (ih.lst (by omega) p1 p2 q1 q2 (by omega)).2
  | tup p2 q2=>simp only[aD,Bool.not_false];exact .list_tuple p1 p2 hu
 | tup p1 q1=>cases he with
  | aq=>simp only[aD,Bool.not_false];exact .tuple_none p1 hu
  | bl b2=>simp only[aD,Bool.not_false];exact .tuple_bool b2 p1 hu
  | int i2 t2=>simp only[aD,Bool.not_false];exact .tuple_int i2 t2 p1 hu
  | str x2 t2=>simp only[aD,Bool.not_false];exact .tuple_str x2 t2 p1 hu
  | lst p2 q2=>simp only[aD,Bool.not_false];exact .tuple_list p1 p2 hu
  | tup p2 q2=>simp only[dep] at ih hA;simp only[aD];exact (ih.tup (by omega) p1 p2 q1 q2 (by omega)).2
end
end Fg
end
section
namespace Fg
open PySem PySem.Spec L2
section
variable{X:Cx}{B:Bd}{pins:List (Addr×Obj)}{σ:L2.St}{H:Hp}{s:Shared}
noncomputable def kQ(B:Bd)(X:Cx):Prop:=∀a kvs,B.dk a kvs->∀h:Heap,X.K.In h->kvs.length<=sizeLine/\(a == sysModules)=false/\∃vs,KV kvs vs/\h.DictOf (aI X.prog X.w) a vs
theorem Jz{a:Addr}{kvs:List (Key×V)}(hB:kQ B X)(I:Inv X pins σ H s)(h:Js B H a kvs):kvs.length<=sizeLine/\(a == sysModules)=false/\∃vs,KV kvs vs/\s.heap.DictOf (aI X.prog X.w) a vs:=by
 rcases h with h | h
 ·exact Fl I.hok h
 ·exact hB a kvs h s.heap I.fM
noncomputable def Rm(X:Cx):Prop:=X.A.units+150<cLine
theorem G5(hu:Rm X):ek X (compareOp .Eq) (ye X.K false):=by
 intro pins s σ H x y v u Q I rx ry h
 obtain⟨d,e,hd,he,hc,q⟩:=h
 simp only[cA,Bool.and_eq_true,Bool.or_eq_true,decide_eq_true_eq] at hc
 have:=(eq_data (dep d+dep e+1) d e v u X.A (Nat.lt_succ_self _) (DV.vv I d x v hd rx) (DV.vv I e y u he ry) (by unfold Rm at hu;omega)).1
 exact this X.prog X.w X.xe _ ⟨.bl (aD d e),H,I,rfl,q⟩
theorem GY(hu:Rm X):ek X (compareOp .NotEq) (ye X.K true):=by
 intro pins s σ H x y v u Q I rx ry h
 obtain⟨d,e,hd,he,hc,q⟩:=h
 simp only[cA,Bool.and_eq_true,Bool.or_eq_true,decide_eq_true_eq] at hc
 have:=ne_data (A:=X.A) (DV.vv I d x v hd rx) (DV.vv I e y u he ry) (by unfold Rm at hu;omega)
 exact this X.prog X.w X.xe _ ⟨.bl (!aD d e),H,I,rfl,q⟩
theorem G6:ek X (compareOp .Eq) (B6 false):=by
 intro pins s σ H x y v u Q I rx ry h
 obtain⟨a,b,rfl,rfl,q⟩:=h
 refine K7 pins s σ H _ _ v u Q I rx ry ⟨rfl,?_⟩
 have e:decide (V.bl a=V.bl b)=(a == b):=nS
 rw[e];exact q
theorem GZ:ek X (compareOp .NotEq) (B6 true):=by
 intro pins s σ H x y v u Q I rx ry h
 obtain⟨a,b,rfl,rfl,q⟩:=h
 refine K2 pins s σ H _ _ v u Q I rx ry ⟨rfl,?_⟩
 have e:decide (V.bl a=V.bl b)=(a == b):=nS
 rw[e];exact q
theorem G4(hu:Rm X):ek X (compareOp .Eq) (yd X.K false):=by
 intro pins s σ H x y v u Q I rx ry h
 obtain⟨l,b,xs,rfl,rfl,hH,hB,q⟩:=h
 cases rx
 cases ry
 have Lw:X.A.units<cLine:=by unfold Rm at hu;omega
 obtain⟨its,r,pl,z⟩:=I.list hH
 obtain⟨its2,r2,GD,z2⟩:=I.list hB
 cases r2
 cases r with
 | nil=>exact SeqAt.eq_listAt (e:=fun _=>true) pl.isList GD.isList rfl Lw (fun j h1=>by simp at h1) ⟨.bl true,H,I,rfl,q⟩
 | cons _ _=>exact SeqAt.eq_list_lengthsAt pl.isList GD.isList (by simp) Lw ⟨.bl false,H,I,rfl,q⟩
theorem GW(hu:Rm X):ek X (compareOp .NotEq) (yd X.K true):=by
 intro pins s σ H x y v u Q I rx ry h
 obtain⟨l,b,xs,rfl,rfl,hH,hB,q⟩:=h
 cases rx
 cases ry
 have Lw:X.A.units<cLine:=by unfold Rm at hu;omega
 obtain⟨its,r,pl,z⟩:=I.list hH
 obtain⟨its2,r2,GD,z2⟩:=I.list hB
 cases r2
 cases r with
 | nil=>exact SeqAt.RcNeAt.lists (e:=fun _=>true) pl.isList GD.isList rfl Lw (fun j h1=>by simp at h1) X.prog X.w X.xe _ ⟨.bl false,H,I,rfl,q⟩
 | cons _ _=>exact SeqAt.RcNeAt.lists_lengths pl.isList GD.isList (by simp) Lw X.prog X.w X.xe _ ⟨.bl true,H,I,rfl,q⟩
theorem G3(hB:kQ B X):ek X (compareOp .In) (yf B false):=by
 intro pins s σ H x y v u Q I rx ry h
 obtain⟨a,kvs,k,rfl,rfl,hd,q⟩:=h
 obtain rfl:u=Value.ref a:=ry
 obtain⟨z,hm,vs,rel,dd⟩:=Jz hB I hd
 refine wpAny_in_of (l9 rx) hm dd.mapOf ?_
 rw[<- (rel.val k).iW]
 exact⟨.bl (cH kvs k).isSome,H,I.tok _,rfl,q⟩
theorem vN(hB:kQ B X):ek X (compareOp .NotIn) (yf B true):=by
 intro pins s σ H x y v u Q I rx ry h
 obtain⟨a,kvs,k,rfl,rfl,hd,q⟩:=h
 obtain rfl:u=Value.ref a:=ry
 obtain⟨z,hm,vs,rel,dd⟩:=Jz hB I hd
 refine wpAny_notIn_of (l9 rx) hm dd.mapOf ?_
 rw[<- (rel.val k).iW]
 exact⟨.bl (!(cH kvs k).isSome),H,I.tok _,rfl,q⟩
noncomputable def Ax:AS->CmpOp
 | .eq=>.Eq | .ne=>.NotEq | .lt=>.Lt | .le=>.LtE | .gt=>.Gt | .ge=>.GtE | .isin=>.In | .pq=>.NotIn | .A2=>.Is | .kX=>.IsNot
theorem yD(hK:B.K=X.K)(hu:Rm X)(hB:kQ B X):∀o:AS,ek X (compareOp (Ax o)) (qW B o)
 | .lt=>K3
 | .le=>K4
 | .gt=>K5
 | .ge=>K6
 | .eq=>by rw[qW,hK];exact G6.or ((G5 hu).or (G4 hu))
 | .ne=>by rw[qW,hK];exact GZ.or ((GY hu).or (GW hu))
 | .A2=>G2
 | .kX=>Cr
 | .isin=>by rw[qW,hK];exact (G3 hB).or vO
 | .pq=>by rw[qW,hK];exact (vN hB).or m9
theorem Cw:ek X (binaryOp .Add) (Ew X.K):=by
 intro pins s σ H x y v u Q I rx ry h
 obtain⟨l,b,xs,zs,rfl,rfl,hH,hB,hz,q⟩:=h
 cases rx
 cases ry
 obtain⟨its,r,pl,z⟩:=I.list hH
 obtain⟨its2,r2,GD,z2⟩:=I.list hB
 obtain⟨⟨cls,dd,data,sl⟩,ho,hc,n,hd⟩:=id pl.isList
 obtain⟨⟨Mm,dd2,data2,sl2⟩,ho2,hc2,n2,hd2⟩:=id GD.isList
 simp only at hc hd hc2 hd2
 subst hc hd hc2 hd2
 have l1:=r.length
 have l2:=r2.length
 have ea:its.toArray++its2.toArray=(its++its2).toArray:=by simp
 refine PySem.concat_meets ⟨_,ho,rfl⟩ ⟨_,ho2,rfl⟩ PySem.noFill_list_add PySem.seq_list_add PySem.F.slot_list_add PySem.F.entry_list_add (PySem.F.args_list_add_2 _ _) (PyProof.Rows.list_addW l b its.toArray its2.toArray n n2 dd dd2 sl sl2 (by simp only[List.size_toArray];omega)) ⟨ho,ho2,?_⟩
 rw[ea]
 exact⟨.ref _,_,I.Li (t':=s.toks) (r.append r2) (by rw[List.length_append];omega),rfl,q _ I.fresh⟩
theorem Ct:ek X (binaryOp .Mult) (Er X.K):=by
 intro pins s σ H x y v u Q I rx ry h
 obtain⟨l,xs,k,rfl,rfl,hH,hz,hk,q⟩:=h
 cases rx
 obtain⟨t,rfl⟩:=(show ∃t,u=Value.int k t from ry)
 obtain⟨its,r,pl,z⟩:=I.list hH
 obtain⟨⟨cls,dd,data,sl⟩,ho,hc,n,hd⟩:=id pl.isList
 simp only at hc hd
 subst hc hd
 have l1:=r.length
 rw[l1] at hz
 refine wpAny_binaryOp_repeat_ref (T:="list") (U:="int") (by decide) ⟨_, ho, rfl⟩ (fun s'=>typeIs_int s' k t) noFill_list_mul PySem.F.fills_int_mul PySem.F.slot_int_rmul repeat_list PySem.F.slot_int_index.lookup
  (call_meets PySem.F.slot_int_rmul (typeIs_int s k t) PySem.F.entry_int_rmul (PySem.F.args_int_rmul_2 _ _) (PySem.lm_int_rmul_list_any k t l its.toArray n dd sl)
   ⟨ho,rfl,⟨_,ho,rfl⟩,call_meets PySem.F.slot_list_mul ⟨_,ho,rfl⟩ PySem.F.entry_list_mul (PySem.F.args_list_mul_2 _ _)
    (PySem.lm_list_mul_any l its.toArray n dd sl k t (by simp[Builtin.List.listFitsIndex];omega) (by rw[List.size_toArray];rw[sizeLine_eq] at hz;omega) (by rw[sizeLine_eq] at hz;simp[Builtin.List.listTooLong,sizeLine];omega))
    ⟨ho,?_⟩⟩)
 rw[PyProof.Rows.listMul_foldl_if]
 have rr:Vals (List.replicate k.toNat xs).flatten (List.replicate k.toNat its).flatten:=by
  generalize k.toNat=m
  induction m with
  | zero=>exact .nil
  | succ m ih=>rw[List.replicate_succ,List.replicate_succ,List.flatten_cons,List.flatten_cons];exact r.append ih
 exact⟨.ref _,_,I.Li (t':=s.toks) rr (by rw[List.length_flatten];simp[List.sum_replicate_nat];rw[l1,Nat.mul_comm];exact hz),rfl,q _ I.fresh⟩
theorem pJ{i:Int}(h:i.natAbs<10 ^ 200):Builtin.Int.intBits i<=2 ^ 20:=by
 unfold Builtin.Int.intBits
 split
 ·exact Nat.zero_le _
 ·have z:i.natAbs.log2<1000:=by
   by_cases h0:i.natAbs=0
   ·rw[h0];decide
   ·exact (Nat.log2_lt h0).mpr (Nat.lt_of_lt_of_le h (by decide +kernel))
  exact Nat.le_trans (Nat.succ_le_of_lt z) (by decide)
theorem Cs:ek X (binaryOp .Mult) (rI MP fun i j=>.int (i*j)):=K9 fun _ _ _ _ _ _ _ hc q=>PyProof.Rows.mul_int q (.of_bits (pJ hc.1) (pJ hc.2))
noncomputable def binOp:DR->Operator
 | .add=>.Add | .sub=>.Sub | .mul=>.Mult | .fdiv=>.FloorDiv | .mod=>.Mod | .pow=>.Pow
theorem G7(hK:B.K=X.K):∀o:DR,ek X (binaryOp (binOp o)) (KC B.K o)
 | .add=>by rw[KC,hK];exact G8.or (rq.or (Cw.or Cv))
 | .sub=>GU
 | .mul=>by rw[KC,hK];exact G0.or (Cs.or Ct)
 | .fdiv=>Cu
 | .mod=>G1
 | .pow=>GV
theorem Il(hB:kQ B X):A7 X (KI B):=by
 intro value slice pins s σ H x y v u Q I rx ry h hs
 obtain⟨a,kvs,k,w,rfl,rfl,hd,hv,q⟩:=h
 obtain rfl:v=Value.ref a:=rx
 obtain⟨z,hm,vs,rel,dd⟩:=Jz hB I hd
 obtain⟨w',hw,rw'⟩:=gW.some_of (v:=w) (o:=valueAt vs k) (by rw[<- hv];exact rel.val k)
 exact PyProof.Rows.tail_any dd.typeIs PySem.F.slot_dict_getitem.lookup (wpAny_getItem_of (l9 ry) dd.mapOf hw ⟨w,H,I.tok _,rw',q⟩) hs
theorem Im(hK:B.K=X.K)(hB:kQ B X):A7 X (B5 B):=by
 unfold B5;rw[hK];exact CU.or (Ij.or (Ik.or (Il hB)))
theorem wu(hK:B.K=X.K)(hB:kQ B X):cG X (.builtin "len") (Gr B):=by
 unfold Gr;rw[hK]
 refine nX.or (nY.or ?_)
 intro pins s σ H xs us Q I r h
 obtain⟨a,kvs,rfl,ha,q⟩:=h
 obtain⟨u,rfl,ru⟩:=vals1 r
 cases ru
 obtain⟨z,hd,vs,rel,dd⟩:=Jz hB I ha
 refine call_len_dict hd dd (by rw[<- rel.length];rw[sizeLine_eq] at z;omega) ?_
 rw[<- rel.length]
 exact⟨.int kvs.length,H,I.tok _,⟨_,rfl⟩,q⟩
theorem wB(hB:kQ B X):cG X (.type "dict") (yg B):=by
 intro pins s σ H xs us Q I r h
 obtain⟨p,kvs,rfl,ha,q⟩:=h
 obtain⟨u,rfl,ru⟩:=vals1 r
 cases ru
 obtain⟨z,hd,vs,rel,dd⟩:=Jz hB I ha
 refine kt_call_dict hd dd (by rw[<- rel.length];exact z) fun h' A5 hs=>?_
 refine⟨.ref s.heap.objs.size,_,I.laid (a:=s.heap.objs.size) (o:=.dK kvs) (t':=s.toks) (fun b q hq=>?_) (Nat.le_refl _) (sr z (beq_eq_false_iff_ne.mpr (Ne.symm (Nat.ne_of_lt I.big))) rel A5),rfl,q _ (I.hok.fresh (Nat.le_refl _))⟩
 exact (hs.2 b (Nat.ne_of_lt (Heap.lt_size hq))).trans (Heap.get?_push_of_some _ hq)
inductive DO(B:Bd)(H:Hp):V->String->Prop where
 | aq:DO B H .aq "NoneType"
 | bl (b:Bool):DO B H (.bl b) "bool"
 | int (i:Int):DO B H (.int i) "int"
 | str (x:Str):DO B H (.str x) "str"
 | lst {a:Addr} {xs:List V}:fu B.K H a xs->DO B H (.ref a) "list"
 | tup {a:Addr} {xs:List V}:gU B.K H a xs->DO B H (.ref a) "tuple"
 | dct {a:Addr} {kvs:List (Key×V)}:Js B H a kvs->DO B H (.ref a) "dict"
noncomputable def oE:Ty->String
 | .int=>"int" | .str=>"str" | .bool=>"bool" | .list=>"list" | .tuple=>"tuple" | .dict=>"dict"
noncomputable def tyB(T:String)(t:Ty):Bool:=T == oE t||(T == "bool"&&match t with | .int=>true | _=>false)
noncomputable def KL(B:Bd):List V->Hp->VK->Prop:=fun xs H Q=>∃x T t,xs=[x,.ty (oE t)]/\DO B H x T/\Q (.bl (tyB T t)) H
theorem CM(K:W.Frag):∀t:Ty, W.kitOne K (.type "NoneType") (.type (oE t))=some (tyB "NoneType" t)/\W.kitOne K (.type "bool") (.type (oE t))=some (tyB "bool" t)/\W.kitOne K (.type "int") (.type (oE t))=some (tyB "int" t)/\W.kitOne K (.type "str") (.type (oE t))=some (tyB "str" t) /\
  W.kitOne K (.type "list") (.type (oE t))=some (tyB "list" t)/\W.kitOne K (.type "tuple") (.type (oE t))=some (tyB "tuple" t)/\W.kitOne K (.type "dict") (.type (oE t))=some (tyB "dict" t):=by
 intro t
 cases t <;> (refine⟨?_,?_,?_,?_,?_,?_,?_⟩ <;> kernel_rfl)
theorem AA(hK:B.K=X.K)(hB:kQ B X):cG X (.builtin "isinstance") (KL B):=by
 intro pins s σ H xs us Q I r h
 obtain⟨x,T,t,rfl,ty,q⟩:=h
 cases r with
 | cons rx r =>
  cases r with
  | cons rt r =>
   cases r
   obtain rfl:=(show _=Value.type (oE t) from rt)
   have fin:∀tk,EP X pins σ Q (.bool (tyB T t)) { s with toks:=tk }:=fun tk=>⟨.bl (tyB T t),H,I.tok _,rfl,q⟩
   obtain⟨k1,k2,k3,k4,k5,k6,k7⟩:=CM X.K t
   cases ty with
   | aq=>cases (show _=Value.none from rx);exact W.kia_one W.kitx_none I.fM True.intro k1 (fun z=>nomatch z) fin
   | bl b=>cases (show _=Value.bool b from rx);exact W.kia_one W.kitx_bool I.fM True.intro k2 (fun z=>nomatch z) fin
   | int i=>obtain⟨tk,q⟩:=(show ∃t,_=Value.int i t from rx);cases q;exact W.kia_one W.kitx_int I.fM True.intro k3 (fun z=>nomatch z) fin
   | str y=>obtain⟨tk,q⟩:=(show ∃t,_=Value.str y t from rx);cases q;exact W.kia_one W.kitx_str I.fM True.intro k4 (fun z=>nomatch z) fin
   | lst hl =>
    cases rx
    rw[hK] at hl
    obtain⟨its,_,pl,_⟩:=I.list hl
    obtain⟨o,ho,hc,_⟩:=pl.isList
    exact W.kia_one W.kitx_list I.fM ⟨o,ho,hc⟩ k5 (fun z=>nomatch z) fin
   | tup hl =>
    cases rx
    rw[hK] at hl
    obtain⟨its,_,pl,_⟩:=I.tuple hl
    obtain⟨o,ho,hc,_⟩:=pl
    exact W.kia_one W.kitx_tuple I.fM ⟨o,ho,hc⟩ k6 (fun z=>nomatch z) fin
   | dct hd =>
    cases rx
    obtain⟨z,hm,vs,rel,dd⟩:=Jz hB I hd
    obtain⟨o,ho,hc⟩:=dd.typeIs
    exact W.kia_one W.kitx_dict I.fM ⟨o,ho,hc⟩ k7 (fun z=>nomatch z) fin
end
end Fg
end
section
namespace Fg
open PySem PySem.Spec L2
theorem j3{α:Type}(xs:List α)(a:Nat):∀c:Nat,((List.range c).map fun k=>a+k).filterMap (fun i=>xs[i]?)=(xs.drop a).take c
 | 0=>by simp
 | c+1=>by
  rw[List.range_succ,List.map_append,List.filterMap_append,j3 xs a c,List.take_add_one]
  simp[List.getElem?_drop]
  cases h:xs[a+c]? <;> simp[h]
theorem qd(n d:Nat)(hd:d<=n)(o:Option Int):(match o with
  | none=>((d:Nat):Int)
  | some i=>max 0 (min (if i<0 then i+(n:Int) else i) (n:Int)))=((six n d o:Nat):Int):=by
 cases o with
 | none=>rfl
 | some i=>simp only[six];split <;> omega
theorem FY(n d:Nat)(hd:d<=n)(o:Option Int):six n d o<=n:=by
 cases o with
 | none=>exact hd
 | some i=>simp only[six];split <;> omega
theorem Gh(a b:Nat):sliceRange (a:Int) (b:Int) 1=(List.range (b-a)).map fun k=>a+k:=by
 unfold sliceRange
 simp only[show (1:Int) > 0 by decide,if_true]
 have ec:(if (a:Int)<(b:Int) then ((b:Int)-(a:Int)+1-1) / 1 else 0).toNat=b-a:=by
  split <;> omega
 rw[ec]
 apply List.map_congr_left
 intro k _
 omega
theorem zy(l u:Option Int)(n:Nat):Builtin.Str.strSliceIndices l u 1 n=(List.range (six n n u-six n 0 l)).map fun k=>six n 0 l+k:=by
 rw[<- Gh,<- qd n 0 (Nat.zero_le _) l,<- qd n n (Nat.le_refl _) u]
 unfold Builtin.Str.strSliceIndices
 cases l <;> cases u <;> rfl
theorem qN(x:Str)(l u:Option Int):Txt.slice x l u=cuts x l u:=by
 have hn:x.cps.toList.length=x.length:=by simp[Str.length]
 have key:(Builtin.Str.strSliceIndices l u 1 x.length).filterMap (x.cps[·]?)=c7 x.cps.toList l u:=by
  rw[zy]
  have:=j3 x.cps.toList (six x.length 0 l) (six x.length x.length u-six x.length 0 l)
  unfold c7
  rw[hn,<- this]
  congr 1
  funext i
  simp
 unfold Txt.slice
 split
 ·rename_i hc
  simp only[Bool.and_eq_true,beq_iff_eq] at hc
  have hc2:=hc.2
  rw[zy] at hc2
  simp only[List.length_map,List.length_range] at hc2
  have b1:=FY x.length x.length (Nat.le_refl _) u
  unfold cuts c7
  rw[hn]
  by_cases h0:x.length=0
  ·obtain⟨⟨l⟩⟩:=x
   simp[Str.length] at h0
   subst h0
   simp
  ·have a0:six x.length 0 l=0:=by omega
   rw[a0,List.drop_zero,List.take_of_length_le (by rw[hn];omega)]
 ·show Str.mk _=Str.mk _
  rw[key]
section
variable{X:Cx}{B:Bd}
theorem FU:DQ X Kz:=by
 intro pins s σ H x v vl vu lo hi sl Q I rx hs pl pu h
 obtain⟨z,rfl,hz,q⟩:=h
 obtain⟨t,rfl⟩:=(show ∃t,v=Value.str z t from rx)
 refine⟨"str", _, PySem.F.slot_str_getitem.lookup, typeIs_str _ _ _, ?_⟩
 have fin:∀(l u:Option Int) (t':Tok) (k:Nat),l=lo->u=hi->EP X pins σ Q (.str (Txt.slice z l u) t') { s with toks:=k }:=by
  intro l u t' k e3 e4
  exact⟨.str (cuts z lo hi),H,I.tok _,⟨t',by rw[qN,e3,e4]⟩,q⟩
 obtain⟨o,ho,hc,hd⟩:=hs
 cases pl with
 | none =>
  cases pu with
  | none=>exact wpAny_getItem_str_slice (l:=none) (u:=none) (st:=none) ⟨o,ho,hc,hd⟩ rfl (post_val_or_str ⟨Nat.le_trans (Txt.slice_le z none none) hz,fun t' k=>fin none none t' k rfl rfl⟩)
  | int j tj=>exact wpAny_getItem_str_slice (l:=none) (u:=some (j,tj)) (st:=none) ⟨o,ho,hc,hd⟩ rfl (post_val_or_str ⟨Nat.le_trans (Txt.slice_le z none (some j)) hz,fun t' k=>fin none (some j) t' k rfl rfl⟩)
 | int i ti =>
  cases pu with
  | none=>exact wpAny_getItem_str_slice (l:=some (i,ti)) (u:=none) (st:=none) ⟨o,ho,hc,hd⟩ rfl (post_val_or_str ⟨Nat.le_trans (Txt.slice_le z (some i) none) hz,fun t' k=>fin (some i) none t' k rfl rfl⟩)
  | int j tj=>exact wpAny_getItem_str_slice (l:=some (i,ti)) (u:=some (j,tj)) (st:=none) ⟨o,ho,hc,hd⟩ rfl (post_val_or_str ⟨Nat.le_trans (Txt.slice_le z (some i) (some j)) hz,fun t' k=>fin (some i) (some j) t' k rfl rfl⟩)
theorem FW(hK:B.K=X.K):DQ X (B4 B):=by
 unfold B4;rw[hK];exact Bx.or (FT.or FU)
end
end Fg
end
section
namespace Fg
open PySem PySem.Spec L2
theorem dW{α β:Type}(g:β->α->β):∀{l:List α} {f:α->β->Sem (ForInStep β)} (_:∀x∈l,∀c,f x c=pure (.yield (g c x))) (c:β),forIn l c f=pure (l.foldl g c)
 | [],f,_,c=>rfl
 | x::l,f,h,c=>by
  rw[List.forIn_cons,h x List.mem_cons_self,pure_bind]
  exact dW g (fun y hy=>h y (List.mem_cons_of_mem _ hy)) _
noncomputable def aE(env:Env)(cs:List (Str×Addr))(x:Str×NameKind):List (Str×Addr):=if x.2 == .free then (x.1,(env.cells.lookup x.1).getD 0)::cs else cs
theorem sy{scope:Scope}{env:Env}(h:∀x,(x,NameKind.free)∈scope.names->∃c,env.cells.lookup x=some c):closureFor scope env=pure (scope.names.foldl (aE env) []):=by
 unfold closureFor
 dsimp only
 rw[dW (aE env) (fun x hx c=>?_)]
 ·rfl
 obtain⟨n,k⟩:=x
 by_cases hk:k=.free
 ·subst hk
  obtain⟨a,ha⟩:=h n hx
  simp only[aE,cellOf,ha,beq_self_eq_true,if_true,Option.getD_some]
  rfl
 ·have hb:(k == NameKind.free)=false:=by simpa using hk
  simp only[aE,hb,Bool.false_eq_true,if_false]
theorem nV{env:Env}:∀(names:List (Str×NameKind)) (cs:List (Str×Addr)) (p:Str×Addr),(∀x,(x,NameKind.free)∈names->∃c,env.cells.lookup x=some c)->p∈names.foldl (aE env) cs->p∈cs\/env.cells.lookup p.1=some p.2
 | [],cs,p,_,h=>.inl h
 | (n, k)::r, cs, p, hc, h=>by
  rw[List.foldl_cons] at h
  rcases nV r _ p (fun x hx=>hc x (List.mem_cons_of_mem _ hx)) h with q | q
  ·unfold aE at q
   split at q
   ·rename_i hk
    have hk':k=.free:=by simpa using hk
    subst hk'
    rcases List.mem_cons.mp q with q | q
    ·obtain⟨a,ha⟩:=hc n List.mem_cons_self
     right
     rw[q]
     show env.cells.lookup n=some ((env.cells.lookup n).getD 0)
     rw[ha];rfl
    ·exact .inl q
   ·exact .inl q
  ·exact .inr q
theorem u5{env:Env}:∀(names:List (Str×NameKind)) (cs:List (Str×Addr)) (x:Str),(∃c,(x,c)∈cs)->∃c,(x,c)∈names.foldl (aE env) cs
 | [],cs,x,h=>h
 | (n,k)::r,cs,x,⟨c,h⟩=>by
  rw[List.foldl_cons]
  refine u5 r _ x ⟨c,?_⟩
  unfold aE
  split
  ·exact List.mem_cons_of_mem _ h
  ·exact h
theorem sA{env:Env}:∀(names:List (Str×NameKind)) (cs:List (Str×Addr)) (x:Str),(x,NameKind.free)∈names->∃c,(x,c)∈names.foldl (aE env) cs
 | (n, k)::r, cs, x, h=>by
  rw[List.foldl_cons]
  rcases List.mem_cons.mp h with h | h
  ·cases h
   refine u5 r _ n ⟨(env.cells.lookup n).getD 0,?_⟩
   unfold aE
   rw[if_pos (by rfl)]
   exact List.mem_cons_self
  ·exact sA r _ x h
theorem dw{β:Type}:∀{l:List (Str×β)} {x:Str} {c:β},(x,c)∈l->∃d,l.lookup x=some d
 | (n, k)::r, x, c, h=>by
  rw[List.lookup_cons]
  cases e:x == n with
  | true=>exact⟨k,rfl⟩
  | false =>
   rcases List.mem_cons.mp h with h | h
   ·cases h;simp at e
   ·exact dw h
theorem cT{env:Env}:∀{names:List (Str×NameKind)} {x:Str},(names.map fun (n,k)=>if (k == NameKind.free&&env.scope.kind == .function&&env.kindOf n == some .cell) then (n,NameKind.cell) else (n,k)).lookup x =
  (names.lookup x).map fun k=>if (k == NameKind.free&&env.scope.kind == .function&&env.kindOf x == some .cell) then NameKind.cell else k
 | [],x=>rfl
 | (n, k)::r, x=>by
  have ih:=@cT env r x
  show List.lookup x ((if (k == NameKind.free&&env.scope.kind == .function&&env.kindOf n == some .cell)=true then (n,NameKind.cell) else (n,k))::_)=_
  cases hx:x == n with
  | true =>
   have e:x=n:=by simpa using hx
   subst e
   by_cases hc:(k == NameKind.free&&env.scope.kind == .function&&env.kindOf x == some .cell)=true
   ·rw[if_pos hc];simp only[List.lookup_cons,hx,Option.map_some,if_pos hc]
   ·rw[if_neg hc]
    simp only[List.lookup_cons,hx,Option.map_some,if_neg hc]
  | false =>
   by_cases hc:(k == NameKind.free&&env.scope.kind == .function&&env.kindOf n == some .cell)=true
   ·rw[if_pos hc];simp only[List.lookup_cons,hx];exact ih
   ·rw[if_neg hc];simp only[List.lookup_cons,hx];exact ih
noncomputable def Fq(X:Cx)(scope:Scope)(cl:List (Str×Addr))(N:List Str)(fp:List Addr)(s:Shared)(H:Hp)(C:Addr):Cx :=
 { X with N:=N,s₀:=s,H₀:=H,env:=compEnvC scope cl C X.env,outer:=X.stack,stack:=X.stack,ex:=fp,fn:=fun _=>false,pn:=[],xe:=fun _ _=>False }
noncomputable abbrev dJ(X:Cx)(scope:Scope)(cl:List (Str×Addr))(N:List Str)(fp:List Addr)(s:Shared)(H:Hp)(C:Addr)(E:XK):Cx:=(Fq X scope cl N fp s H C).bJ (iO (Fq X scope cl N fp s H C) fun cv x _ H'=>E cv x H')
noncomputable def JM(X:Cx)(ifs:List Expr)(t:TT):Prop :=
 ∀(pins:List (Addr×Obj)) (s:Shared) (σ:St) (H:Hp) (Q:Bool->Hp->Prop),Inv X pins σ H s->t σ H Q ->
  wpAny (model X.prog X.w) X.A (forIn ifs true fun c r=>if r=true then do let ok <- isTrue c X.env (eval c X.env);pure (ForInStep.yield ok) else pure (ForInStep.yield r)) (L2.TP X pins σ Q) X.xe s
theorem B8{X:Cx}:JM X [] (fun _ H Q=>Q true H):=fun pins s σ H Q I h=>wpAny_tests_nil ⟨H,I,h⟩
theorem B7{X:Cx}{c:Expr}{t:TT}(h:PT X c t):JM X [c] t:=fun pins s σ H Q I q=>wpAny_tests_one (h pins s σ H Q I q)
noncomputable def qf(cp:List Nat)(n:Nat)(σ:St):St:=cp.map (fun i=>(σ[i]?).join)++List.replicate n none
noncomputable def sX(wi:TI)(g:TG)(tc:St->TT)(te:St->TE)(cp:List Nat)(n:Nat):TE:=fun σ H Q=>wi σ H fun J H1=>∀D,H1 D=none->∃W:Nat->Nat->St->Hp->Prop,(∃m,W 0 m (qf cp n σ) (upd H1 D (.lst [])))/\∀i m σ' H',W i m σ' H' ->
 (J.stop i H'/\Q (.ref D) H')\/(J.go i H'/\∀x H2,J.MS i H' x H2->g x σ' H2 fun σ2 H3=>tc σ σ2 H3 fun b H4 =>
  if b=true then te σ σ2 H4 fun v H5=>∃ys,H5 D=some (.lst ys)/\ys.length<sizeLine/\∃m',m'<m/\W (i+1) m' σ2 (upd H5 D (.lst (ys++[v]))) else ∃m',m'<m/\W (i+1) m' σ2 H4)
theorem gp{prog:Program}{w:World}{A:Around}{R:Result->Shared->Prop}{s:Shared}{elt target iter:Expr}{ifs:List Expr}{scope:Scope}{pos:Pos}{it acc:Value}{env:Env}(I:Nat->Shared->Prop)(EX:Value->Shared->Prop)(hE:∀e s,EX e s->notedBy (model prog w) A env (fun x s'=>R (.error x) s') e s)
  (turn:∀n s,I n s->wpAny (model prog w) A (pyNext it) (fun r s₁=>match r with
   | none=>R (.ok .next) s₁
   | some v=>wpAny (model prog w) A (letOwnedTupleGo target it v) (fun _ s₁'=>wpAny (model prog w) A (assign target env v) (fun _ s₂ =>
     wpAny (model prog w) A (forIn ifs true fun c r=>if r=true then do let ok <- isTrue c env (eval c env);pure (ForInStep.yield ok) else pure (ForInStep.yield r)) (fun ok s₃ =>
      if ok=true then wpAny (model prog w) A (eval elt env) (fun x s₄ =>
       wpAny (model prog w) A (call (.builtin "list.append") [acc, x]) (fun _ s₅=>∃m, m<n/\I m s₅) EX s₄) EX s₃
      else ∃m,m<n/\I m s₃) EX s₂) EX s₁') EX s₁) EX s)
  (n:Nat) (h:I n s):codeAny (model prog w) A (.compLoop (.ListComp elt [⟨target,iter,ifs,0⟩] scope pos) 0 it acc env) R s:=by
 refine codeAny_loop rfl I (fun n s hI=>?_) n h
 show wpAny _ A ((compTurn (.ListComp elt [⟨target,iter,ifs,0⟩] scope pos) 0 it acc env).onRaise (fun x=>do noteFrame x env;theTreesLotGoes x)) _ _ s
 refine wpAny_noted ?_
 rw[compTurn_list]
 refine wpAny_bind (wpAny_standAt (wpAny_bind (wpAny_mono (turn n s hI) (fun r s₁ h₁=>?_) hE)))
 cases r with
 | none=>exact wpAny_pure h₁
 | some v =>
  refine wpAny_bind (wpAny_mono h₁ (fun _ s₁' h₁'=>?_) hE)
  refine wpAny_bind (wpAny_mono h₁' (fun _ s₂ h₂=>wpAny_bind (wpAny_mono h₂ (fun ok s₃ h₃=>?_) hE)) hE)
  cases ok with
  | false=>exact wpAny_pure ⟨rfl,h₃⟩
  | true =>
   exact wpAny_bind (wpAny_bind (wpAny_mono h₃ (fun x s₄ h₄=>wpAny_bind (wpAny_mono h₄ (fun _ s₅ h₅=>wpAny_pure (wpAny_pure ⟨rfl,h₅⟩)) hE)) hE))
section
variable{X:Cx}{pins:List (Addr×Obj)}{σ:St}{H:Hp}{s:Shared}
structure gX(X:Cx)(scope:Scope)(N:List Str)(cp:List Nat)(n:Nat):Prop where
 free:∀x,(x,NameKind.free)∈scope.names->X.env.kindOf x=some .cell\/X.env.kindOf x=some .free
 cell:∀y∈scope.names,y.2≠.cell
 kind:scope.kind=.function
 names:∀y∈scope.names,y.2=.local->scope.names.lookup y.1=some .local
 len:N.length=cp.length+n
 cap:∀(i j:Nat) (x:Str),N[i]? = some x->cp[i]? = some j->X.N[j]? = some x/\scope.names.lookup x=some .free
theorem Jl{scope:Scope}{N:List Str}{cp:List Nat}{n:Nat}{fp:List Addr}{C:Addr}(S:gX X scope N cp n)(I:Inv X pins σ H s)(hf:∀b∈fp,kP X pins H b)(hC:s.heap.objs.size<C)(Ir:∀b∈fp,b<s.heap.objs.size) :
  (Fq X scope (scope.names.foldl (aE X.env) []) N fp s H C).Ok:=by
 have hex:∀x,(x,NameKind.free)∈scope.names->∃c,X.env.cells.lookup x=some c:=fun x hx=>I.ok.has x (S.free x hx)
 have hcl:∀x c,(scope.names.foldl (aE X.env) []).lookup x=some c->X.env.cells.lookup x=some c:=fun x c e=>by
  rcases nV scope.names [] (x,c) hex (PySem.mem_of_lookup e) with q | q
  ·cases q
  ·exact q
 refine⟨I.ok.mod,S.kind,I.ok.glob,I.ok.blt,Nat.le_of_lt hC,fun x y c h1 h2=>I.ok.inj x y c (hcl x c h1) (hcl y c h2),fun x hx=>?_,fun x c h _=>(Bool.false_ne_true h).elim,I.ok.hd,I.ok.frames,.inl rfl,fun b hb=>⟨Nat.ne_of_lt (Nat.lt_trans (Ir b hb) hC),fun x c e=>(hf b hb).2.2.2.2.1 x c (hcl x c e)⟩,
  fun b o e=>I.bs b o e,Nat.le_trans I.ok.wG I.sz,fun b o e hb=>?_,fun b hb hs=>?_,I.stack,I.fT⟩
 ·have q:(x,NameKind.free)∈scope.names:=by
   have hx:(relabel scope X.env).names.lookup x=some .cell\/(relabel scope X.env).names.lookup x=some .free:=hx
   unfold relabel at hx
   dsimp only at hx
   rw[cT] at hx
   cases e:scope.names.lookup x with
   | none=>rw[e] at hx;simp at hx
   | some k =>
    rw[e] at hx
    have hm:=PySem.mem_of_lookup e
    cases k with
    | free=>exact hm
    | cell=>exact (S.cell _ hm rfl).elim
    | «local»=>simp at hx
    | globalImplicit=>simp at hx
    | globalExplicit=>simp at hx
  obtain⟨c,hc⟩:=sA (env:=X.env) scope.names [] x q
  exact dw hc
 ·rcases (hf b hb).2.2.2.1 with z | z
  ·exact I.ok.pA b o e z
  ·exact absurd (Nat.lt_of_lt_of_le (Heap.lt_size e) (Nat.le_trans I.ok.wG z)) (Nat.lt_irrefl _)
 ·rcases List.mem_cons.mp (I.ez b hs) with z | z
  ·exact (hf b hb).2.1 z
  ·exact (hf b hb).2.2.1 z
theorem wH{scope:Scope}{N:List Str}{cp:List Nat}{n:Nat}{fp:List Addr}{C D:Addr}{h1:Heap}{t1:Nat}(S:gX X scope N cp n)(I:Inv X pins σ H s)(hf:∀b∈fp,kP X pins H b)(Ir:∀b∈fp,b<s.heap.objs.size)
  (hD:D=s.heap.objs.size) (hC:C=s.heap.objs.size+1) {m:Str->Option Value} (hns:h1.Ns C m) (old:∀b o, s.heap.get? b=some o->h1.get? b=some o) (hacc:h1.get? D=some { cls:=.type "list", data:=.seq ([]:List Value).toArray 0 }) :
  Inv (Fq X scope (scope.names.foldl (aE X.env) []) N fp s H C) [] (qf cp n σ) (upd H D (.lst [])) { s with heap:=h1,toks:=t1 }:=by
 have hex:∀x,(x,NameKind.free)∈scope.names->∃c,X.env.cells.lookup x=some c:=fun x hx=>I.ok.has x (S.free x hx)
 have hcl:∀x c,(scope.names.foldl (aE X.env) []).lookup x=some c->X.env.cells.lookup x=some c:=fun x c e=>by
  rcases nV scope.names [] (x,c) hex (PySem.mem_of_lookup e) with q | q
  ·cases q
  ·exact q
 have fD:H D=none:=I.hok.fresh (by rw[hD];exact Nat.le_refl _)
 have fC:H C=none:=I.hok.fresh (by rw[hC];exact Nat.le_succ _)
 have cellK:∀x c v,X.env.cells.lookup x=some c->s.heap.IsCell c v->h1.IsCell c v:=fun x c v e ⟨o,ho,hd⟩=>⟨o,old c o ho,hd⟩
 refine⟨Jl S I hf (by rw[hC];exact Nat.lt_succ_self _) Ir,rfl,I.bare,?_,⟨m,hns,fun i x v e1 e2 e3=>?_⟩,fun x c e=>?_,?_,fun x c e=>?_,fun p hp=>absurd (show p∈([]:List (Addr×Obj)) from hp) (by simp),?_,?_⟩
 ·exact Un.laid (fun b u e=>old b u e) (by rw[hD];exact Nat.le_refl _) fD
 ·-- a Mn name
  have hi:i<cp.length:=by
   by_cases hi:i<cp.length
   ·exact hi
   ·unfold qf at e2
    rw[List.getElem?_append_right (by simpa using hi),List.getElem?_replicate] at e2
    split at e2 <;> cases e2
  have hcp:cp[i]? = some cp[i]:=List.getElem?_eq_getElem hi
  obtain⟨hX,hfr⟩:=S.cap i cp[i] x e1 hcp
  have e2':σ[cp[i]]? = some (some v):=by
   unfold qf at e2
   rw[List.getElem?_append_left (by simpa using hi),List.getElem?_map,hcp] at e2
   simp only[Option.map_some,Option.some.injEq] at e2
   cases q:σ[cp[i]]? with
   | none=>rw[q] at e2;cases e2
   | some o=>rw[q] at e2;simp only[Option.join_some] at e2;rw[e2]
  have hmem:=PySem.mem_of_lookup hfr
  have hk:=S.free x hmem
  obtain⟨m0,_,hl⟩:=I.loc
  obtain⟨u,r,lk⟩:=hl cp[i] x v hX e2' (by rcases hk with q | q;exact .inr (.inl q);exact .inr (.inr q))
  refine⟨u,r,.inr ⟨?_,?_⟩⟩
  ·show (relabel scope X.env).names.lookup x=some .cell\/(relabel scope X.env).names.lookup x=some .free
   unfold relabel
   dsimp only
   rw[cT,hfr]
   simp only[Option.map_some]
   split
   ·exact .inl rfl
   ·exact .inr rfl
  ·obtain⟨c,hc⟩:=sA (env:=X.env) scope.names [] x hmem
   obtain⟨d,hd⟩:=dw hc
   refine⟨d,hd,?_⟩
   rcases lk with ⟨k,_⟩ | ⟨_,c',hc',z⟩
   ·rcases hk with q | q <;> (rw[q] at k;cases k)
   ·have:=hcl x d hd
    rw[hc'] at this;cases this
    exact cellK x d _ hc' z
 ·obtain⟨v,z⟩:=I.cell x c (hcl x c e)
  exact⟨v,cellK x c v (hcl x c e) z⟩
 ·show upd H D (.lst []) C=none
  rw[ak (by rw[hC,hD];exact Nat.succ_ne_self _)];exact fC
 ·show upd H D (.lst []) c=none
  rw[ak (ne_of_lt' (I.cell x c (hcl x c e)) hD)]
  exact I.bM x c (hcl x c e)
 ·exact I.hok.laid old (by rw[hD];exact Nat.le_refl _) ⟨Nat.zero_le _,[],0,.nil,hacc⟩
 ·unfold qf
  show _=N.length
  rw[List.length_append,List.length_map,List.length_replicate,S.len]
where
 ne_of_lt' {h:Heap} {c D:Addr} (z:∃v,h.IsCell c v) (hD:D=h.objs.size):c≠D:=by
  obtain⟨v,q⟩:=z
  rw[hD]
  exact Nat.ne_of_lt q.lt
variable{elt tg iter:Expr}{ifs:List Expr}{scope:Scope}{pos ppos:Pos}{wi:TI}{g:TG}{tc:St->TT}{te:St->TE}{Ex:XS}{cp:List Nat}{n:Nat}{N:List Str}
theorem mF{use:Option (Value->Sem Unit)}{Q':Value->Shared->Prop}{Q:VK}(S:gX X scope N cp n)(hi:PI X tg iter wi)
  (hfr:qo X) (hx:∀e s,iO X Ex e s->X.xe e s) (hb:∀σ cl fp s H C,PG (dJ X scope cl N fp s H C fun cv x H'=>Ex cv x σ H') tg g/\JM (dJ X scope cl N fp s H C fun cv x H'=>Ex cv x σ H') ifs (tc σ)/\PE (dJ X scope cl N fp s H C fun cv x H'=>Ex cv x σ H') elt (te σ)) (hs:∀x,foldedSetIterable iter X.env x=pure x)
  (I:Inv X pins σ H s) (h:sX wi g tc te cp n σ H Q)
  (fin:∀s' C D H' f,Inv X pins σ H' s'->kP X pins H' C->(∃m,s'.heap.Ns C m)->Q (.ref D) H'->compPost (model X.prog X.w) X.A X.xe use Q' (.ref D) C (.ok f) s') :
  wpAny (model X.prog X.w) X.A (comprehension (.ListComp elt [⟨tg,iter,ifs,0⟩] scope pos) scope X.env ppos (newList []) false (eval iter X.env) use) Q' X.xe s:=by
 have hex:∀x,(x,NameKind.free)∈scope.names->∃c,X.env.cells.lookup x=some c:=fun x hx=>I.ok.has x (S.free x hx)
 refine wpAny_comprehension_free rfl hs (sy hex) S.kind S.names (aT (hi pins s σ H _ I h) fun v s1 h1=>aT h1 fun itv s2 h2=>?_)
 obtain⟨it,fp,tn,J,H2,e,I2,⟨oq,hc',T⟩,st2,f2,hW⟩:=h2
 subst e
 refine wpAny_newObj_type (wpAny_newFunctionEnv S.cell (by intro y hy;simp at hy) (fun h₁ rR nA=>?_) S.kind)
 dsimp only at rR nA ⊢
 generalize hH2:s2.heap.push { cls:=.type "list", dict:=none, data:=.seq ([]:List Value).toArray }=G at rR nA ⊢
 have hC:G.objs.size=s2.heap.objs.size+1:=by rw[<- hH2,Heap.size_push]
 have Ir:∀b∈fp,b<s2.heap.objs.size:=fun b hb=>by
  obtain⟨o,e,_⟩:=T.obj _ _ st2 b hb
  exact Heap.lt_size e
 have hDC:s2.heap.objs.size≠G.objs.size:=by rw[hC];exact Nat.ne_of_lt (Nat.lt_succ_self _)
 have old:∀b o,s2.heap.get? b=some o->h₁.get? b=some o:=fun b o e=>nA.extBut b o (by rw[hC];exact Nat.ne_of_lt (Nat.lt_succ_of_lt (Heap.lt_size e))) (Heap.get?_push_of_some _ (hH2 ▸ Heap.get?_push_of_some _ e))
 have hacc:h₁.get? s2.heap.objs.size=some { cls:=.type "list", data:=.seq ([]:List Value).toArray 0 }:=nA.extBut _ _ hDC (Heap.get?_push_of_some _ (hH2 ▸ Heap.get?_push_size _ rfl))
 have st1:tn 0 h₁:=T.keep _ _ _ st2 fun b hb o e=>old b o e
 obtain⟨W,⟨m0,w0⟩,turn⟩:=hW s2.heap.objs.size (I2.hok.fresh (Nat.le_refl _))
 have I0':=wH (t1:=s2.toks+([]:List (Str×Value)).length) S I2 f2 Ir rfl hC rR old hacc
 have I0:=I0'.bJ (iO (Fq X scope (scope.names.foldl (aE X.env) []) N fp s2 H2 G.objs.size) fun cv x _ H'=>Ex cv x σ H')
 have hc:∀h C,Cm oq (dJ X scope h N fp s2 H2 C (fun cv x H'=>Ex cv x σ H')):=fun h C=>by
  cases oq with
  | false=>exact hc'
  | true=>exact hc'.imp id fun⟨a,oe,o,vs,h1,h2,h3,h4⟩=>⟨a,oe,o,vs,h1,I2.base.dF a oe o h2,h3,h4⟩
 obtain⟨hg,ht,he⟩:=hb σ (scope.names.foldl (aE X.env) []) fp s2 H2 G.objs.size
 have fp0:∀b∈fp,upd H2 s2.heap.objs.size (.lst []) b=none:=fun b hb=>by rw[ak (Nat.ne_of_lt (Ir b hb))];exact (f2 b hb).1
 have hex':∀x c,(scope.names.foldl (aE X.env) []).lookup x=some c->X.env.cells.lookup x=some c:=fun x c e=>by
  rcases nV scope.names [] (x,c) hex (PySem.mem_of_lookup e) with q | q
  ·cases q
  ·exact q
 have stat:∀{H':Hp},(∀b∈fp,H' b=none)->∀b∈fp,kP (dJ X scope (scope.names.foldl (aE X.env) []) N fp s2 H2 G.objs.size (fun cv x H'=>Ex cv x σ H')) [] H' b:=fun {H'} hn b hb =>
  ⟨hn b hb,Nat.ne_of_lt (Nat.lt_trans (Ir b hb) (by rw[hC];exact Nat.lt_succ_self _)),fun z=>(List.mem_cons.mp (I2.ez b z)).elim (f2 b hb).2.1 (f2 b hb).2.2.1,.inl hb,fun x c e=>(f2 b hb).2.2.2.2.1 x c (hex' x c e),fun p hp=>absurd (show p∈([]:List (Addr×Obj)) from hp) (by simp)⟩
 have loop:∀s3:Shared,s3={ s2 with heap:=h₁,toks:=s2.toks+([]:List (Str×Value)).length }->codeAny (model X.prog X.w) X.A (.compLoop (.ListComp elt [⟨tg,iter,ifs,0⟩] scope pos) 0 (.ref it) (.ref s2.heap.objs.size) (compEnvC scope (scope.names.foldl (aE X.env) []) G.objs.size X.env))
   (compPost (model X.prog X.w) X.A X.xe use Q' (.ref s2.heap.objs.size) G.objs.size) s3:=by
  rintro s3 rfl
  refine gp (fun n s'=>∃i σ' H',Inv (dJ X scope (scope.names.foldl (aE X.env) []) N fp s2 H2 G.objs.size (fun cv x H'=>Ex cv x σ H')) [] σ' H' s'/\tn i s'.heap/\(∀b∈fp,H' b=none)/\W i n σ' H') (iO (Fq X scope (scope.names.foldl (aE X.env) []) N fp s2 H2 G.objs.size) fun cv x _ H'=>Ex cv x σ H') ?hE ?_ m0 ⟨0,_,_,I0,st1,fp0,w0⟩
  case hE =>
   rintro e s3 ⟨pins3,σ3,H3,a,a0,cv,B,rfl,I3,up,d7,_,q⟩
   obtain⟨kE,m7,L,hst,Iu,Nv⟩:=hfr
   show wpAny (model X.prog X.w) X.A (noteFrame (.ref a) _) _ _ s3
   rw[ng (env:=compEnvC scope (scope.names.foldl (aE X.env) []) G.objs.size X.env) (env':=kE) (Nv.trans Iu.symm)]
   have up':Up B (kE::m7) a cv a0 s3.heap:=by rw[<- hst];exact up
   refine up'.note (by rw[I.ok.frames,hst]) Iu fun h4 held vA=>?_
   obtain⟨m,hm,_⟩:=id I3.loc
   have hcC:G.objs.size∉frs X.stack:=fun z=>by
    rcases List.mem_cons.mp (I2.ez _ z) with e | z
    ·have z:=I2.lt
     rw[<- e,hC] at z
     exact absurd z (Nat.not_lt.mpr (Nat.le_succ _))
    ·exact I2.Lb (by rw[hC];exact Nat.le_succ _) z
   refine⟨m,vA.ns hm,fun h5 sb5 cenv _=>?_⟩
   have hm4:=vA.ns hm
   have upH:Up B X.stack a cv a0 h4:=by rw[hst];exact .ud held
   have FA:=upH.hide sb5 (by
    obtain⟨o,es,ep,ho,hd,_⟩:=hm4
    exact⟨o,ho,fun vs z=>by rw[hd] at z;cases z⟩) hcC
   refine FA.pass fun h6 up6 Ko=>hx _ _ ?_
   have jx:(B.hide G.objs.size).StaysIn s3.heap:=fun b o e=>up.1 b o (Heap.of_hide e)
   have Dy:Calm (B.hide G.objs.size) (frs X.stack) fp H3 s2.heap:=fun b hb hf=>by
    obtain⟨o,e⟩:=d7 b hb hf
    refine⟨o,?_⟩
    rw[Heap.hide_ne]
    ·exact e
    ·rintro rfl
     rcases hb with hb | ⟨⟨o',hb⟩,_⟩
     ·exact hb I3.free
     ·have z:=Heap.lt_size hb
      rw[hC] at z
      exact absurd z (Nat.not_lt.mpr (Nat.le_succ _))
   have fru:∀b∈frs X.stack,∀o,s3.heap.get? b=some o->∃sl,h6.get? b=some { o with slots:=sl }:=fun b hb o e=>by
    have hd:=kj I3 b hb o e
    obtain⟨sl,e4⟩:=vA b o e hd
    have e5:h5.get? b=some { o with slots:=sl }:=by rw[sb5.2 b (by rintro rfl;exact hcC hb)];exact e4
    obtain⟨Eh,e6⟩:=Ko b _ e5 hd
    exact⟨Eh,e6⟩
   have un6:=nE I3.base Dy jx up6.1 fru (fun b hb _=>hb)
   have hok6:=jL I3.hok Dy jx up6.1 I3.fT
   have J:=I2.AB (s':={ s3 with heap:=h6 }) I3.os un6 hok6 I3.bare fun b hb=>⟨(f2 b hb).2.2.2.1,(f2 b hb).2.1,(f2 b hb).2.2.2.2.1,(f2 b hb).2.2.2.2.2⟩
   have calX:Calm (B.hide G.objs.size) (frs X.stack) X.ex H3 X.s₀.heap:=by
    intro b hb hf
    refine Dy b ?_ hf
    rcases hb with hb | ⟨⟨o,z⟩,nx⟩
    ·exact .inl hb
    ·refine .inr ⟨fW I2 z nx,fun zf=>?_⟩
     rcases (f2 b zf).2.2.2.1 with y | y
     ·exact nx y
     ·exact absurd (Nat.lt_of_lt_of_le (Heap.lt_size z) y) (Nat.lt_irrefl _)
   have pnX:∀p∈X.pn,(B.hide G.objs.size).get? p.1=some p.2:=by
    intro p hp
    obtain⟨p1,p2,p3,p4,_⟩:=I2.pin p (List.mem_append_left _ hp)
    have pf:p.1∉fp:=fun z=>(f2 _ z).2.2.2.2.2 p (List.mem_append_left _ hp) rfl
    have ps:p.1∉frs X.stack:=fun z=>by
     rcases List.mem_cons.mp (I2.ez _ z) with e | z
     ·exact p3 e
     ·exact p4 z
    exact Dy.at jx (I3.base.keep p.1 p.2 p1 p2 ps pf) (.inr ⟨⟨_,p1⟩,pf⟩) ps
   exact⟨pins,σ,H3,a,a0,cv,B.hide G.objs.size,rfl,J,up6,calX,pnX,q⟩
  rintro n s3 ⟨i,σ3,H3,I3,st3,LD,w3⟩
  rcases turn i n σ3 H3 w3 with ⟨stop,qn⟩ | ⟨go,step⟩
  ·refine aT (T.done (dJ X scope (scope.names.foldl (aE X.env) []) N fp s2 H2 G.objs.size (fun cv x H'=>Ex cv x σ H')) rfl rfl rfl (hc _ _) i [] s3 σ3 H3 _ I3 (stat LD) st3 stop) fun r s4 ⟨hr,I4⟩=>?_
   subst hr
   refine fin s4 _ _ H3 _ (I2.AB I4.os I4.base I4.hok I4.bare fun b hb=>⟨(f2 b hb).2.2.2.1,(f2 b hb).2.1,(f2 b hb).2.2.2.2.1,(f2 b hb).2.2.2.2.2⟩) (I2.pS (by rw[hC];exact Nat.le_succ _) I4.free) ?_ qn
   obtain⟨m,hm,_⟩:=I4.loc
   exact⟨m,hm⟩
  ·refine aT (T.item (dJ X scope (scope.names.foldl (aE X.env) []) N fp s2 H2 G.objs.size (fun cv x H'=>Ex cv x σ H')) rfl rfl rfl (hc _ _) i [] s3 σ3 H3 _ I3 (stat LD) st3 go) fun r s4 ⟨u,hr,h4⟩=>?_
   subst hr
   refine aT h4 fun _ s5 ⟨x,H5,I5,r5,y5,FQ,fr5⟩=>?_
   have I5':=I5.pinned (stat fr5) (T.obj _ _ FQ)
   refine aT (hg _ s5 σ3 H5 x u _ I5' r5 (step x H5 y5)) fun _ s6 ⟨σ6,H6,I6,q6⟩=>?_
   refine aT (ht _ s6 σ6 H6 _ I6 q6) fun ok s7 ⟨H7,I7,q7⟩=>?_
   have again:∀{σ8:St} {H8:Hp} {s8:Shared} {m':Nat},Inv (dJ X scope (scope.names.foldl (aE X.env) []) N fp s2 H2 G.objs.size (fun cv x H'=>Ex cv x σ H')) ([]++jZ fp s5.heap) σ8 H8 s8->m'<n->W (i+1) m' σ8 H8 ->
     ∃m,m<n/\∃i σ' H',Inv (dJ X scope (scope.names.foldl (aE X.env) []) N fp s2 H2 G.objs.size (fun cv x H'=>Ex cv x σ H')) [] σ' H' s8/\tn i s8.heap/\(∀b∈fp,H' b=none)/\W i m σ' H':=fun {σ8 H8 s8 m'} I8 hm w8=>by
    refine⟨m',hm,i+1,σ8,H8,I8.g9,T.keep _ _ _ FQ fun b hb o e=>(I8.pin (b,o) (List.mem_append_right _ (List.mem_append_right _ (eG hb e)))).1,fun b hb=>?_,w8⟩
    obtain⟨o,e,d⟩:=T.obj _ _ FQ b hb
    exact (I8.pin (b,o) (List.mem_append_right _ (List.mem_append_right _ (eG hb e)))).2.1
   cases ok with
   | false =>
    rw[if_neg Bool.false_ne_true] at q7 ⊢
    obtain⟨m',hm,w7⟩:=q7
    exact again I7 hm w7
   | true =>
    rw[if_pos rfl] at q7 ⊢
    refine aT (he _ s7 σ6 H7 _ I7 q7) fun xv s8 ⟨v,H8,I8,r8,ys,hy,hz,m',hm,w8⟩=>?_
    refine aT (l6 (X:=(dJ X scope (scope.names.foldl (aE X.env) []) N fp s2 H2 G.objs.size (fun cv x H'=>Ex cv x σ H'))) _ s8 σ6 H8 (.ref s2.heap.objs.size) [v] (.ref s2.heap.objs.size) [xv] (fun _ H'=>H'=upd H8 s2.heap.objs.size (.lst (ys++[v]))) I8 rfl (.cons r8 .nil) ⟨_,ys,v,rfl,rfl,hy,hz,rfl⟩) fun a s9 ⟨_,H9,I9,_,e9⟩=>?_
    subst e9
    exact again I9 hm w8
 exact codeAny_compStart_list (loop _ rfl) (T.self X.A 0 _ _ _ st1 (loop _ rfl))
theorem Cn(S:gX X scope N cp n)(hi:PI X tg iter wi)
  (hfr:qo X) (hx:∀e s,iO X Ex e s->X.xe e s) (hb:∀σ cl fp s H C,PG (dJ X scope cl N fp s H C fun cv x H'=>Ex cv x σ H') tg g/\JM (dJ X scope cl N fp s H C fun cv x H'=>Ex cv x σ H') ifs (tc σ)/\PE (dJ X scope cl N fp s H C fun cv x H'=>Ex cv x σ H') elt (te σ)) (hs:∀x,foldedSetIterable iter X.env x=pure x) :
  PE X (.ListComp elt [⟨tg,iter,ifs,0⟩] scope pos) (sX wi g tc te cp n):=by
 intro pins s σ H Q I h
 rw[eval_ListComp]
 refine mF (use:=none) S hi hfr hx hb hs I h fun s' C D H' f I' fC ⟨m,hm⟩ q=>⟨m,hm,fun h' hs'=>?_⟩
 exact⟨.ref D,H',I'.turned (fun b o hb e=>(hs'.2 b hb).trans e) fC.1 fC.2.1 fC.2.2.2.1 fC.2.2.2.2.1 fC.2.2.2.2.2,rfl,q⟩
theorem Ca{i:Nat}{y:Str}{py spos:Pos}(hN:X.N.Nodup)(hy:X.N[i]? = some y)(hk:X.env.scope.names.lookup y=some .local)(S:gX X scope N cp n)(hi:PI X tg iter wi)
  (hfr:qo X) (hx:∀e s,iO X Ex e s->X.xe e s) (hb:∀σ cl fp s H C,PG (dJ X scope cl N fp s H C fun cv x H'=>Ex cv x σ H') tg g/\JM (dJ X scope cl N fp s H C fun cv x H'=>Ex cv x σ H') ifs (tc σ)/\PE (dJ X scope cl N fp s H C fun cv x H'=>Ex cv x σ H') elt (te σ)) (hs:∀x,foldedSetIterable iter X.env x=pure x)
  (hsw:swapsWith (.ListComp elt [⟨tg,iter,ifs,0⟩] scope pos) (some (.Name y py)) spos.line X.env=pure true) :
  PS X (.Assign [.Name y py] (.ListComp elt [⟨tg,iter,ifs,0⟩] scope pos) spos) (Bs (sX wi g tc te cp n) (jj i)):=by
 intro pins s σ H Dn I h
 rw[exec_Assign_Name_used _ _ _ _ hsw]
 refine wpAny_bind (wpAny_standAt (wpAny_bind ?_))
 show wpAny _ X.A (do let _ <- comprehension (.ListComp elt [⟨tg,iter,ifs,0⟩] scope pos) scope X.env _ (newList []) false (eval iter X.env) (some (assign (.Name y py) X.env))) _ _ s
 refine wpAny_bind (wpAny_mono (mF (use:=some (assign (.Name y py) X.env)) (Q':=fun _ s'=>SP X pins Dn .next s') S hi hfr hx hb hs I h fun s' C D H' f I' fC ⟨m,hm⟩ q=>?_) (fun _ s' hq=>wpAny_pure (wpAny_pure hq)) fun _ _ e=>e)
 show wpAny _ X.A (assign (.Name y py) X.env (.ref D)) _ _ s'
 refine wpAny_assign_Name (lN I' hN hy (.inl hk) (v:=.ref D) rfl (fun s2 I2 ⟨a,hsb,ha⟩=>?_) (.inr hk))
 have hCa:C≠a:=by
  rcases ha with rfl | ha
  ·exact fC.2.1
  ·exact fun z=>fC.2.2.2.2.1 _ _ ha z.symm
 refine⟨m,hm.sameBut hsb hCa,fun h' hs'=>⟨_,H',I2.turned (fun b o hb e=>(hs'.2 b hb).trans e) fC.1 fC.2.1 fC.2.2.2.1 fC.2.2.2.2.1 fC.2.2.2.2.2,q⟩⟩
end
end Fg
end
section
namespace Fg
open PySem L2
noncomputable def MM(a:Addr)(o:Obj)(kvs:List (Key×V)):It :=
 ⟨fun i H=>H a=some (.dP o (.dK kvs))/\i<kvs.length,fun i H x H'=>H'=H/\∃kv,kvs[i]? = some kv/\x=kV kv.1,fun i H=>H a=some (.dP o (.dK kvs))/\kvs.length<=i⟩
noncomputable def Lv(B:Bd)(th:Addr->Prop)(tl:TE):TI:=fun σ H R=>tl σ H fun x H1 =>
 (∃a,x=.ref a/\(∃xs,fu B.K H1 a xs)/\R (N9 B.K a) H1)\/(∃a,x=.ref a/\(∃xs,gU B.K H1 a xs)/\R (Itt B.K a) H1) \/
 (∃a kvs,x=.ref a/\H1 a=some (.dK kvs)/\∀o,th a->R (MM a o kvs) (upd H1 a (.dP o (.dK kvs)))) \/
 (∃a o kvs,x=.ref a/\H1 a=some (.dP o (.dK kvs))/\R (MM a o kvs) H1)
section
variable{B:Bd}{Φ:aZ}{E:Gx}{F F' F0 F1:Addr->Prop}{ρ ρ' ρ0 ρ1:List Addr}{H H' H0 H1:Hp}{M M' M0:MH}{σD:Sg}{σ:L2.St}{Q:VK}{Dn:Ends}
theorem iP{a:Addr}{src:D}{ds:List D}(h:∀F ρ M H,Ext F0 ρ0 H0 F ρ H->SR B F ρ M H->aO M0 src M=true->∃vs,fu B.K H a vs/\aj B F ρ H ds vs):Walks B (N9 B.K a) src ds F0 ρ0 M0 H0:=by
 intro i F ρ M H e S st
 obtain⟨vs,q,rd⟩:=h F ρ M H e S st
 refine⟨fun d hd=>?_,fun hl=>⟨vs,q,by rw[<- aj.length rd];exact hl⟩⟩
 obtain⟨v,hv,rv⟩:=aj.get rd hd
 refine⟨⟨vs,v,q,hv⟩,fun x H' ⟨e',hy⟩=>?_⟩
 subst e'
 have z:=hy vs q
 rw[hv] at z;cases z
 exact⟨F,S.refl,S,rv⟩
theorem vj{a:Addr}{src:D}{ds:List D}(h:∀F ρ M H,Ext F0 ρ0 H0 F ρ H->SR B F ρ M H->aO M0 src M=true->∃vs,gU B.K H a vs/\aj B F ρ H ds vs):Walks B (Itt B.K a) src ds F0 ρ0 M0 H0:=by
 intro i F ρ M H e S st
 obtain⟨vs,q,rd⟩:=h F ρ M H e S st
 refine⟨fun d hd=>?_,fun hl=>⟨vs,q,by rw[<- aj.length rd];exact hl⟩⟩
 obtain⟨v,hv,rv⟩:=aj.get rd hd
 refine⟨⟨vs,v,q,hv⟩,fun x H' ⟨e',hy⟩=>?_⟩
 subst e'
 have z:=hy vs q
 rw[hv] at z;cases z
 exact⟨F,S.refl,S,rv⟩
theorem Hv{k:Key}:RD B F ρ H (Nm k) (kV k):=by cases k <;> simp only[Nm,kV,RD]
theorem lC{a:Addr}{o:Obj}{src:D}{cC:List (Ky×D)}{kws:List (Key×V)}(hz:H0 a=some (.dP o (.dK kws)))(hk:kws.map (·.1)=cC.map (·.1)):Walks B (MM a o kws) src (cC.map fun kv=>Nm kv.1) F0 ρ0 M0 H0:=by
 intro i F ρ M H e S st
 have hl:kws.length=cC.length:=by have:=congrArg List.length hk;simpa using this
 have hH:=e.z a o _ hz
 refine⟨fun d hd=>?_,fun hi=>⟨hH,by rw[hl];simpa using hi⟩⟩
 rw[List.getElem?_map] at hd
 cases hx:cC[i]? with
 | none=>rw[hx] at hd;cases hd
 | some kd =>
  rw[hx] at hd
  simp only[Option.map_some,Option.some.injEq] at hd
  subst hd
  obtain⟨hi,_⟩:=List.getElem?_eq_some_iff.mp hx
  refine⟨⟨hH,by rw[hl];exact hi⟩,fun x H' ⟨e',kw,hkw,hx'⟩=>?_⟩
  subst e' hx'
  have e1:(kws.map (·.1))[i]? = some kw.1:=by rw[List.getElem?_map,hkw];rfl
  rw[hk,List.getElem?_map,hx] at e1
  simp only[Option.map_some,Option.some.injEq] at e1
  rw[<- e1]
  exact⟨F,S.refl,S,Hv⟩
theorem F8{a:Fg.E}{Rr:It->Hp->Prop}(h:DP B Φ E (.e a) σ H Rr):Lv B E.th (T B Φ E a) σ H Rr:=by
 obtain⟨σD,M,F,ρ,S,r,h⟩:=h
 refine⟨σD,M,F,ρ,S,r,?_⟩
 cases hx:ev Φ a σD M with
 | exc c M1 =>
  have he:bA Φ (.e a) σD M=.exc c M1:=by simp only[bA,hx,R.d9]
  rw[he] at h;exact h
 | bad =>
  have he:bA Φ (.e a) σD M=.bad:=by simp only[bA,hx,R.ef]
  rw[he] at h;exact h
 | ok d M1 =>
  intro F1 ρ1 H1 v e1 S1 rd
  cases hi:itemsOf M1 d with
  | none =>
   have he:bA Φ (.e a) σD M=.bad:=by simp only[bA,hx,R.af,hi]
   rw[he] at h;exact h.elim
  | some ds =>
   have he:bA Φ (.e a) σD M=.ok (d,ds,wk M1 d) (walk M1 d):=by simp only[bA,hx,R.af,hi]
   rw[he] at h
   cases d with
   | aq=>simp[itemsOf,vw] at hi
   | bl _=>simp[itemsOf,vw] at hi
   | int _=>simp[itemsOf,vw] at hi
   | g7 _=>simp[itemsOf,vw] at hi
   | str _=>simp[itemsOf] at hi
   | dct _ _=>simp[itemsOf] at hi
   | lst xs =>
    simp only[itemsOf,vw,Option.some.injEq] at hi;subst hi
    simp only[RD] at rd
    obtain⟨b,vs,rfl,z,q⟩:=id rd
    refine .inl ⟨b,rfl,⟨vs,z.sq⟩,h F1 ρ1 H1 _ e1 S1 fun M' eq S'=>⟨?_,fun z=>by simp[wk] at z⟩⟩
    refine iP fun F ρ M H e S st=>?_
    have En:=RD.mono e (.lst xs) (.ref b) (by simp only[RD];exact rd)
    simp only[RD] at En
    obtain⟨b',vs',eb,z',q'⟩:=En
    cases eb
    exact⟨vs',z'.sq,q'⟩
   | tup xs =>
    simp only[itemsOf,vw,Option.some.injEq] at hi;subst hi
    simp only[RD] at rd
    obtain⟨b,vs,rfl,z,q⟩:=id rd
    refine .inr (.inl ⟨b,rfl,⟨vs,z.sq⟩,h F1 ρ1 H1 _ e1 S1 fun M' eq S'=>⟨?_,fun z=>by simp[wk] at z⟩⟩)
    refine vj fun F ρ M H e S st=>?_
    have En:=RD.mono e (.tup xs) (.ref b) (by simp only[RD];exact rd)
    simp only[RD] at En
    obtain⟨b',vs',eb,z',q'⟩:=En
    cases eb
    exact⟨vs',z'.sq,q'⟩
   | ref n =>
    simp only[RD] at rd
    obtain⟨b,hb,rfl⟩:=rd
    cases hM:M1[n]? with
    | none=>simp[itemsOf,vw,hM] at hi
    | some o =>
     cases o with
     | ins _ _=>simp[itemsOf,vw,hM] at hi
     | lst xs =>
      simp only[itemsOf,vw,hM,Option.some.injEq] at hi;subst hi
      have hw:walk M1 (.ref n)=M1:=by simp only[walk,hM]
      have hk:wk M1 (.ref n)=false:=by simp only[wk,hM]
      rw[hw,hk] at h
      obtain⟨vs,h1,q⟩:=S1.obj n b _ hb hM
      refine .inl ⟨b,rfl,⟨vs,.inl (.inl h1)⟩,h F1 ρ1 H1 _ e1 S1 fun M' eq S'=>⟨?_,fun z=>by simp at z⟩⟩
      injection eq with eq1 eq2
      subst eq2
      refine iP fun F ρ M H e S st=>?_
      simp only[aO,decide_eq_true_eq] at st
      obtain⟨vs',h1',q'⟩:=S.obj n b _ (e.at hb) (st.trans hM)
      exact⟨vs',.inl (.inl h1'),q'⟩
     | dct cC =>
      simp only[itemsOf,vw,hM,Option.some.injEq] at hi;subst hi
      have hw:walk M1 (.ref n)=M1.set n (.ou cC):=by simp only[walk,hM]
      have hk:wk M1 (.ref n)=true:=by simp only[wk,hM]
      rw[hw,hk] at h
      obtain⟨kws,h1,h2,q⟩:=S1.obj n b _ hb hM
      refine .inr (.inr (.inl ⟨b,kws,rfl,h1,fun ob hth=>?_⟩))
      obtain⟨S2,e2⟩:=S1.wk ob hb hM h1
      refine h F1 ρ1 _ _ (e1.trans e2) S2 fun M' eq S'=>⟨lC av h2,fun _=>⟨n,b,rfl,hb,hth,fun w v z=>?_⟩⟩
      have:=e1.z b w v z
      rw[h1] at this;cases this
     | ou cC =>
      simp only[itemsOf,vw,hM,Option.some.injEq] at hi;subst hi
      have hw:walk M1 (.ref n)=M1:=by simp only[walk,hM]
      have hk:wk M1 (.ref n)=false:=by simp only[wk,hM]
      rw[hw,hk] at h
      obtain⟨ob,kws,h1,h2,q⟩:=S1.obj n b _ hb hM
      exact .inr (.inr (.inr ⟨b,ob,kws,rfl,h1,h F1 ρ1 H1 _ e1 S1 fun M' eq S'=>⟨lC h1 h2,fun z=>by simp at z⟩⟩))
theorem vm{lo:Int}{n:Nat}{src:D}:Walks B (N8 lo n) src ((List.range n).map fun (i:Nat)=>D.int (lo+(i:Int))) F0 ρ0 M0 H0:=by
 intro i F ρ M H e S st
 refine⟨fun d hd=>?_,fun hi=>(show n<=i by simpa using hi)⟩
 have hi:i<n:=by
  obtain⟨q,_⟩:=List.getElem?_eq_some_iff.mp hd
  simpa using q
 refine⟨hi,fun x H' ⟨e',hx⟩=>?_⟩
 subst e' hx
 simp[hi] at hd
 subst hd
 exact⟨F,S.refl,S,by simp only[RD]⟩
theorem ED{j:Int}(h:gg j=true):-(2 ^ 62)<=j/\j<2 ^ 62:=by
 simp only[gg,decide_eq_true_eq] at h;omega
theorem BJ{a:Fg.E}{Rr:It->Hp->Prop}(h:DP B Φ E (.AZ a) σ H Rr):EW B.K (T B Φ E a) σ H Rr:=by
 obtain⟨σD,M,F,ρ,S,r,h⟩:=h
 refine⟨σD,M,F,ρ,S,r,?_⟩
 cases hx:ev Φ a σD M with
 | exc c M1 =>
  have he:bA Φ (.AZ a) σD M=.exc c M1:=by simp only[bA,hx,R.d9]
  rw[he] at h;exact h
 | bad =>
  have he:bA Φ (.AZ a) σD M=.bad:=by simp only[bA,hx,R.ef]
  rw[he] at h;exact h
 | ok d M1 =>
  intro F1 ρ1 H1 v e1 S1 rd
  cases d with
  | lst xs =>
   have he:bA Φ (.AZ a) σD M=.ok (.aq,xs,false) M1:=by simp only[bA,hx,R.af]
   rw[he] at h
   simp only[RD] at rd
   obtain⟨b,vs,rfl,z,q⟩:=id rd
   refine⟨b,rfl,⟨vs,z.sq⟩,h F1 ρ1 H1 _ e1 S1 fun M' eq S'=>⟨iP fun F ρ M H e S st=>?_,fun z=>by cases z⟩⟩
   have En:=RD.mono e (.lst xs) (.ref b) (by simp only[RD];exact rd)
   simp only[RD] at En
   obtain⟨b',vs',eb,z',q'⟩:=En
   cases eb
   exact⟨vs',z'.sq,q'⟩
  | _ =>
   have he:bA Φ (.AZ a) σD M=.bad:=by simp only[bA,hx,R.af]
   rw[he] at h;exact h.elim
theorem xK{a b:Fg.E}{Rr:It->Hp->Prop}(h:DP B Φ E (.fj a b) σ H Rr):EV (bG (T B Φ E a) (bG (T B Φ E b) gI)) σ H Rr:=by
 obtain⟨σD,M,F,ρ,S,r,h⟩:=h
 refine⟨σD,M,F,ρ,S,r,?_⟩
 cases hx:ev Φ a σD M with
 | exc c M1 =>
  have he:bA Φ (.fj a b) σD M=.exc c M1:=by simp only[bA,hx,R.d9]
  rw[he] at h;exact h
 | bad =>
  have he:bA Φ (.fj a b) σD M=.bad:=by simp only[bA,hx,R.ef]
  rw[he] at h;exact h
 | ok x M1 =>
  intro F1 ρ1 H1 v e1 S1 rx
  refine⟨σD,M1,F1,ρ1,S1,r.mono e1,?_⟩
  cases hy:ev Φ b σD M1 with
  | exc c M2 =>
   have he:bA Φ (.fj a b) σD M=.exc c M2:=by simp only[bA,hx,hy,R.af,R.d9]
   rw[he] at h
   exact fun F' ρ' H' cv x e' S r=>h F' ρ' H' cv x (e1.trans e') S r
  | bad =>
   have he:bA Φ (.fj a b) σD M=.bad:=by simp only[bA,hx,hy,R.af,R.ef]
   rw[he] at h;exact h.elim
  | ok y M2 =>
   intro F2 ρ2 H2 w e2 S2 ry
   have BZ:=RD.mono e2 _ _ rx
   cases hi:fS x with
   | none =>
    have he:bA Φ (.fj a b) σD M=.bad:=by simp only[bA,hx,hy,R.af,hi]
    rw[he] at h;exact h.elim
   | some i =>
    cases hj:fS y with
    | none =>
     have he:bA Φ (.fj a b) σD M=.bad:=by simp only[bA,hx,hy,R.af,hi,hj]
     rw[he] at h;exact h.elim
    | some j =>
     cases hr:gg i&&gg j with
     | false =>
      have he:bA Φ (.fj a b) σD M=.bad:=by simp only[bA,hx,hy,R.af,hi,hj,hr,Bool.false_eq_true,if_false]
      rw[he] at h;exact h.elim
     | true =>
      have he:bA Φ (.fj a b) σD M=.ok (.aq,jW i j,false) M2:=by simp only[bA,hx,hy,R.af,hi,hj,hr,if_true]
      rw[he] at h
      cases vd hi
      cases vd hj
      simp only[RD] at BZ ry
      subst BZ ry
      obtain⟨r1,r2⟩:=(Bool.and_eq_true _ _).mp hr
      obtain⟨b1,b2⟩:=ED r1
      obtain⟨b3,b4⟩:=ED r2
      exact⟨i,j,rfl,⟨b1,b2,b3,b4⟩,h F2 ρ2 H2 _ (e1.trans e2) S2 fun M' eq S'=>⟨vm,fun z=>by simp at z⟩⟩
end
end Fg
end
section
namespace Fg
open PySem L2
noncomputable def EB(E:Gx)(σ:L2.St):Gx:=⟨fun cv x _ H=>E.e cv x σ H,fun _=>False,fun cv x _ H H' t h=>by
 rcases t with rfl | ⟨_,_,_,z,_⟩
 ·exact h
 ·exact z.elim⟩
noncomputable def TBo(B:Bd)(Φ:aZ)(E:Gx):O->TT
 | .none=>fun _ H Q=>Q true H
 | .some e=>TB B Φ E e
section
variable{B:Bd}{Φ:aZ}{E:Gx}{F F' F0 F1:Addr->Prop}{ρ ρ' ρ0 ρ1:List Addr}{H H' H0 H1:Hp}{M M' M0:MH}{σD:Sg}{σ:L2.St}{Q:VK}{Dn:Ends}
theorem Ext.fresh(S:SR B F ρ M H){p:Addr}(h:H p=none)(o:HO):Ext F ρ H F ρ (upd H p o) :=
 ⟨⟨S.sep,fun _ q=>q,fun a q _=>ak (by rintro rfl;exact q h),List.prefix_refl _,fun _ q=>.inl q,fun _ q=>.inl q⟩,fun b w u q=>by rw[ak (by rintro rfl;rw[h] at q;cases q)];exact q⟩
theorem Ext.over(e:Ext F ρ H F' ρ' H'){p:Addr}(h:H p=none)(o:HO):Ext F ρ H F' ρ' (upd H' p o) :=
 ⟨⟨e.s,e.f,fun a q nb=>by rw[ak (by rintro rfl;exact q h)];exact e.h a q nb,e.r,e.n,e.g⟩,fun b w u q=>by rw[ak (by rintro rfl;rw[h] at q;cases q)];exact e.z b w u q⟩
theorem RS.cap(r:RS B F ρ H σD σ)(caps:List Nat)(n:Nat):RS B F ρ H (nW σD caps++List.replicate n none) (qf caps n σ):=by
 refine⟨by simp[nW,qf],fun i d q=>?_⟩
 by_cases hi:i<caps.length
 ·have hc:caps[i]? = some caps[i]:=List.getElem?_eq_getElem hi
  rw[List.getElem?_append_left (by simpa [nW] using hi)] at q
  simp only[nW,List.getElem?_map,hc,Option.map_some,Option.some.injEq] at q
  cases hs:σD[caps[i]]? with
  | none=>rw[hs] at q;cases q
  | some o =>
   rw[hs] at q
   simp only[Option.join_some] at q
   subst q
   obtain⟨v,h1,h2⟩:=r.get _ _ hs
   refine⟨v,?_,h2⟩
   unfold qf
   rw[List.getElem?_append_left (by simpa using hi),List.getElem?_map,hc]
   simp[h1]
 ·rw[List.getElem?_append_right (by simpa [nW] using Nat.le_of_not_lt hi),List.getElem?_replicate] at q
  split at q <;> cases q
theorem RS.aW(e:qp F ρ H F' ρ' H')(h:RS B F ρ H σD σ):RS B F' ρ' H' σD σ :=
 ⟨h.len,fun i d q=>let ⟨v,h1,h2⟩:=h.get i d q;⟨v,h1,RD.aW e d v h2⟩⟩
theorem oS{fz:Bool}{caps tg:List Nat}{elt:Fg.E}{it:Src}{cond:O}(h:T B Φ E (.comp fz caps tg elt it cond) σ H Q) :
  sX (DP B Φ E it) (LB tg B.K) (fun σ=>TBo B Φ (EB E σ) cond) (fun σ=>T B Φ (EB E σ) elt) caps tg.length σ H (fun v H'=>∃sG,A6 E.th H' sG/\Q v sG):=by
 obtain⟨σD,M,F,ρ,S,r,h⟩:=h
 simp only[ev] at h
 refine⟨σD,M,F,ρ,S,r,?_⟩
 cases hx:bA Φ it σD M with
 | exc c M1=>rw[hx] at h;exact h
 | bad=>rw[hx] at h;exact h
 | ok p M0 =>
  rw[hx] at h
  simp only[R.af] at h
  intro F0 ρ0 H0 J e0 S0 hw
  obtain⟨W,wz⟩:=hw M0 rfl S0
  obtain⟨src,ds,fl⟩:=p
  dsimp only at h W wz
  intro Da Nz
  obtain⟨nD,nF⟩:=S0.new Nz
  have Ny:H Da=none:=by
   cases q:H Da with
   | none=>rfl
   | some u =>
    exfalso
    by_cases hr:Da∈ρ
    ·exact nD (e0.r.subset hr)
    ·have:=e0.h Da (by rw[q];simp) hr
     rw[Nz,q] at this;cases this
  let loop:=fun (i:Nat) (σ':Sg) (M':MH) (acc:List D)=>((bU (qw Φ cond) (ev Φ elt) tg (aO M0 src) (ds.drop i) σ' M' acc).fin (fE fl src)).bind fun ds M2=>bW fz ds M2
  let WW:Nat->Nat->L2.St->Hp->Prop:=fun i m σ' H'=>m+i=ds.length/\∃(JO:Sg) (M1:MH) (F1:Addr->Prop) (ρ1:List Addr) (acc:List D) (vs:List V),Ext F ρ H F1 ρ1 H'/\Ext F0 ρ0 H0 F1 ρ1 H'/\SR B F1 ρ1 M1 H'/\RS B F1 ρ1 H' JO σ'/\aO M0 src M1=true/\Da∉ρ1/\¬ F1 Da/\H' Da=some (.lst vs)/\aj B F1 ρ1 H' acc vs /\
   Post B (loop i JO M1 acc) F ρ H Q (fun cv x H'=>E.e cv x σ H')
  have x0:=qp.side (ρ:=ρ0) (H:=H0) nF (.lst [])
  refine⟨WW,⟨ds.length,by simp,_,M0,F0,ρ0,[],[],e0.over Ny _,Ext.fresh S0 Nz _,S0.side nD nF _,((r.mono e0).cap caps tg.length).aW x0,?_,nD,nF,av,aj.nil,h⟩,?_⟩
  ·unfold aO;split <;> simp
  rintro i m σ1 H1 ⟨hm,A8,M1,F1,ρ1,acc,vs,eo,e1,S1,r1,st1,d1,f1,NB,ra,p1⟩
  obtain⟨wgo,wst⟩:=W i F1 ρ1 M1 H1 e1 S1 st1
  by_cases hi:i<ds.length
  ·have hd:ds.drop i=ds[i]::ds.drop (i+1):=List.drop_eq_getElem_cons hi
   simp only[loop] at p1
   rw[hd] at p1
   unfold bU at p1
   obtain⟨go,yl⟩:=wgo ds[i] (List.getElem?_eq_getElem hi)
   refine .inr ⟨go,fun x H2 hy=>?_⟩
   obtain⟨F2,e2,S2,rd⟩:=yl x H2 hy
   have keep:∀{F3:Addr->Prop} {ρ3:List Addr} {H3:Hp},Ext F1 ρ1 H1 F3 ρ3 H3->Da∉ρ3/\¬ F3 Da/\H3 Da=some (.lst vs)/\aj B F3 ρ3 H3 acc vs:=fun {F3 ρ3 H3} e=>by
    have hne:H1 Da≠none:=by rw[NB];simp
    refine⟨fun z=>(e.n Da z).elim d1 hne,fun z=>?_,(e.h Da hne d1).trans NB,aj.mono e _ _ ra⟩
    rcases e.g Da z with q | q | q
    ·exact f1 q
    ·exact hne q
    ·exact d1 q
   split at p1
   ·exact p1.elim
   ·rename_i σ2 hs
    refine oU (r1.mono e2) rd hs fun σ' r'=>?_
    have LZ:∀{F3:Addr->Prop} {ρ3:List Addr} {H3:Hp} {M3:MH},Ext F1 ρ1 H1 F3 ρ3 H3->SR B F3 ρ3 M3 H3->RS B F3 ρ3 H3 σ2 σ' ->
      Post B ((((ev Φ elt σ2 M3).bind fun x M2=>if aO M0 src M2=true then (if decide (acc.length<line)=true then bU (qw Φ cond) (ev Φ elt) tg (aO M0 src) (ds.drop (i+1)) σ2 M2 (acc++[x]) else .bad) else .bad).fin (fE fl src)).bind fun ds M2=>bW fz ds M2) F ρ H Q (fun cv x H'=>E.e cv x σ H') ->
      T B Φ (EB E σ) elt σ' H3 fun v H5=>∃ys,H5 Da=some (.lst ys)/\ys.length<sizeLine/\∃m',m'<m/\WW (i+1) m' σ' (upd H5 Da (.lst (ys++[v]))):=by
     intro F3 ρ3 H3 M3 e3 S3 r3 p3
     refine⟨σ2,M3,F3,ρ3,S3,r3,?_⟩
     cases hv:ev Φ elt σ2 M3 with
     | bad=>rw[hv] at p3;exact p3
     | exc c M4 =>
      rw[hv] at p3
      intro F4 ρ4 H4 cv x e4 S4 q4
      obtain⟨H5,t5,S5,e5,x5⟩:=cM S4 ((eo.trans e3).trans e4) ((e1.trans e3).trans e4).r wz
      exact E.cl _ _ _ _ _ t5 (p3 F4 ρ4 H5 cv x e5 S5 q4)
     | ok d M4 =>
      rw[hv] at p3
      simp only[R.af] at p3
      intro F4 ρ4 H4 v e4 S4 q4
      split at p3
      ·rename_i hst
       split at p3
       ·rename_i hlt
        obtain⟨k1,k2,k3,k4⟩:=keep (e3.trans e4)
        have hl4:=aj.length k4
        have x4:=qp.side (ρ:=ρ4) (H:=H4) k2 (.lst (vs++[v]))
        refine⟨vs,k3,by rw[<- hl4];exact Nat.lt_of_lt_of_le (of_decide_eq_true hlt) bC,m-1,by omega,by omega,σ2,M4,F4,ρ4,acc++[d],vs++[v],((eo.trans e3).trans e4).over Ny _,((e1.trans e3).trans e4).over Nz _,S4.side k1 k2 _,((r3.mono e4)).aW x4,hst,k1,k2,av,aj.aW x4 _ _ (k4.append (aj.cons q4 aj.nil)),p3⟩
       ·exact p3.elim
      ·exact p3.elim
    cases cond with
    | none =>
     have hc:qw Φ .none σ2 M1=.ok (.bl true) M1:=by simp only[qw]
     rw[hc] at p1
     simp only[R.af] at p1
     unfold TBo
     dsimp only
     rw[if_pos rfl]
     exact LZ e2 S2 r' p1
    | some c =>
     have hc0:qw Φ (.some c) σ2 M1=ev Φ c σ2 M1:=by simp only[qw]
     rw[hc0] at p1
     refine⟨σ2,M1,F2,ρ1,S2,r',?_⟩
     cases hc:ev Φ c σ2 M1 with
     | bad=>rw[hc] at p1;exact p1
     | exc k M4 =>
      rw[hc] at p1
      intro F4 ρ4 H4 cv x e4 S4 q4
      obtain⟨H5,t5,S5,e5,x5⟩:=cM S4 ((eo.trans e2).trans e4) ((e1.trans e2).trans e4).r wz
      exact E.cl _ _ _ _ _ t5 (p1 F4 ρ4 H5 cv x e5 S5 q4)
     | ok t M4 =>
      rw[hc] at p1
      simp only[R.af] at p1
      intro F4 ρ4 H4 v e4 S4 q4
      split at p1
      ·simp only[RD] at q4;subst q4
       refine⟨true,rfl,?_⟩
       dsimp only
       rw[if_pos rfl]
       exact LZ (e2.trans e4) S4 (r'.mono e4) p1
      ·simp only[RD] at q4;subst q4
       refine⟨false,rfl,?_⟩
       dsimp only
       rw[if_neg Bool.false_ne_true]
       split at p1
       ·rename_i hst
        obtain⟨k1,k2,k3,k4⟩:=keep (e2.trans e4)
        exact⟨m-1,by omega,by omega,σ2,M4,F4,ρ4,acc,vs,(eo.trans e2).trans e4,(e1.trans e2).trans e4,S4,r'.mono e4,hst,k1,k2,k3,k4,p1⟩
       ·exact p1.elim
      ·exact p1.elim
  ·have hd:ds.drop i=[]:=List.drop_eq_nil_of_le (Nat.le_of_not_lt hi)
   simp only[loop] at p1
   rw[hd] at p1
   unfold bU at p1
   obtain⟨H4,t4,S4,e4,x4⟩:=cM S1 eo e1.r wz
   refine .inl ⟨wst (Nat.le_of_not_lt hi),H4,t4,?_⟩
   have p2:Post B (bW fz acc (fE fl src M1)) F ρ H Q (fun cv x H'=>E.e cv x σ H'):=p1
   have ra4:=aj.bw x4 _ _ ra
   have hD4:H4 Da=some (.lst vs):=by
    have:=x4.h Da (by rw[NB];simp) d1
    exact this.trans NB
   cases fz with
   | true =>
    simp only[bW,if_true] at p2
    have xt:qp F1 ρ1 H4 (fun a=>F1 a\/a=Da) ρ1 H4:=⟨fun _ q=>.inl q,fun _ _ _=>rfl,List.prefix_refl _⟩
    refine p2 (fun a=>F1 a\/a=Da) ρ1 H4 (.ref Da) ⟨⟨e4.s,fun a q=>.inl (e4.f a q),e4.h,e4.r,e4.n,fun a q=>q.elim (e4.g a) fun z=>.inr (.inl (z ▸ Ny))⟩,e4.z⟩ (S4.take d1 (by rw[hD4];simp)) ?_
    simp only[RD]
    exact⟨Da,vs,rfl,.inl ⟨.inr rfl,.inl hD4⟩,aj.aW xt _ _ ra4⟩
   | false =>
    simp only[bW,Bool.false_eq_true,if_false] at p2
    have xt:qp F1 ρ1 H4 F1 (ρ1++[Da]) H4:=⟨fun _ q=>q,fun _ _ _=>rfl,List.prefix_append _ _⟩
    refine p2 F1 (ρ1++[Da]) H4 (.ref Da) ⟨⟨e4.s,e4.f,e4.h,e4.r.trans (List.prefix_append _ _),fun a q=>(List.mem_append.mp q).elim (e4.n a) fun z=>.inr (by rw[List.mem_singleton.mp z];exact Ny),e4.g⟩,e4.z⟩ (S4.hold (u:=.lst acc) d1 f1 ⟨vs,hD4,aj.aW xt _ _ ra4⟩) ?_
    simp only[RD]
    refine⟨Da,?_,rfl⟩
    rw[<- S4.len,List.getElem?_append_right (Nat.le_refl _),Nat.sub_self];rfl
end
end Fg
end
section
namespace Fg
open PySem L2
section
variable{B:Bd}{Φ:aZ}{E:Gx}{F F' F0 F1:Addr->Prop}{ρ ρ' ρ0 ρ1:List Addr}{H H' H0 H1:Hp}{M M' M0:MH}{σD:Sg}{σ:L2.St}{Q:VK}{Dn:Ends}
theorem Kp{i:Nat}{v:V}(hg:∀d,Φ.glob i=some d->∀F ρ H,RD B F ρ H d v)(h:T B Φ E (.g i) σ H Q):tC v σ H Q:=by
 obtain⟨σD,M,F,ρ,S,r,h⟩:=h
 simp only[ev] at h
 split at h
 ·rename_i d hd
  exact ai.run h S (hg d hd F ρ H)
 ·exact h.elim
noncomputable def oj(B:Bd)(Φ:aZ)(f n:Nat):Sp:=fun vs H Q E=>vs.length=n/\∃ds M F ρ,SR B F ρ M H/\aj B F ρ H ds vs/\Post B (Φ.call f ds M) F ρ H Q E
theorem jT{f n:Nat}{es:Es}(hn:∀{σ:Sg} {M:MH} {ds:List D} {M':MH},cz Φ es σ M=.ok ds M'->ds.length=n)(h:T B Φ E (.call f es) σ H Q)  :qJ (oj B Φ f n) E.e (TL B Φ E es) σ H Q:=by
 obtain⟨σD,M,F,ρ,S,r,h⟩:=h
 simp only[ev] at h
 refine⟨σD,M,F,ρ,S,r,?_⟩
 cases hx:cz Φ es σD M with
 | exc c M1=>rw[hx] at h;exact h
 | bad=>rw[hx] at h;exact h
 | ok ds M1 =>
  rw[hx] at h
  simp only[R.af] at h
  intro F1 ρ1 H1 vs e1 S1 q1
  exact⟨by rw[<- aj.length q1];exact hn hx,ds,M1,F1,ρ1,S1,q1,ai.weak e1 h⟩
theorem vC{f n:Nat}{es:Es}{e:Fg.E}(hn:∀{σ:Sg} {M:MH} {ds:List D} {M':MH},cz Φ es σ M=.ok ds M'->ds.length+1=n)(h:T B Φ E (.iH f es e) σ H Q):Fg.qI (oj B Φ f n) E.e (TL B Φ E es) (T B Φ E e) σ H Q:=by
 obtain⟨σD,M,F,ρ,S,r,h⟩:=h
 simp only[ev] at h
 refine⟨σD,M,F,ρ,S,r,?_⟩
 cases hx:cz Φ es σD M with
 | exc c M1=>rw[hx] at h;exact h
 | bad=>rw[hx] at h;exact h
 | ok ds M1 =>
  rw[hx] at h
  simp only[R.af] at h
  intro F1 ρ1 H1 vs e1 S1 q1
  refine T.one S1 (r.mono e1) rfl (ai.weak e1 h) fun d M2 F2 ρ2 H2 z e2 S2 r2 rz h2=>⟨rfl,?_⟩
  exact⟨by rw[List.length_append,<- aj.length q1];exact hn hx,ds++[d],M2,F2,ρ2,S2,(aj.mono e2 _ _ q1).append (aj.cons rz aj.nil),h2⟩
theorem FE{x:D}{v:V}{t:Ty}(S:SR B F ρ M H)(rx:RD B F ρ H x v)(ho:wM M x=true):∃T,DO B H v T/\tyB T t=Io M t x:=by
 cases x with
 | aq=>simp only[RD] at rx;subst rx;exact⟨_,.aq,by cases t <;> rfl⟩
 | bl b=>simp only[RD] at rx;subst rx;exact⟨_,.bl b,by cases t <;> rfl⟩
 | int i=>simp only[RD] at rx;subst rx;exact⟨_,.int i,by cases t <;> rfl⟩
 | str x=>simp only[RD] at rx;subst rx;exact⟨_,.str x,by cases t <;> rfl⟩
 | tup ds=>simp only[RD] at rx;obtain⟨a,vs,rfl,z,_⟩:=rx;exact⟨_,.tup z.sq,by cases t <;> rfl⟩
 | lst ds=>simp only[RD] at rx;obtain⟨a,vs,rfl,z,_⟩:=rx;exact⟨_,.lst z.sq,by cases t <;> rfl⟩
 | dct ks ds =>
  simp only[RD] at rx;obtain⟨a,vs,rfl,z,_⟩:=rx
  refine⟨_,.dct (kvs:=vs) ?_,by cases t <;> rfl⟩
  rcases z with ⟨_,z⟩ | z
  ·exact .inl z
  ·exact .inr z
 | ref n =>
  simp only[RD] at rx
  obtain⟨a,h1,rfl⟩:=rx
  cases hM:M[n]? with
  | none=>simp[wM,hM] at ho
  | some o =>
   cases o with
   | lst ds=>obtain⟨vs,h3,_⟩:=S.obj n a _ h1 hM;exact⟨_,.lst (.inl (.inl h3)),by simp only[Io,hM];cases t <;> rfl⟩
   | dct kvs=>obtain⟨kws,h3,_⟩:=S.obj n a _ h1 hM;exact⟨_,.dct (.inl (.inl h3)),by simp only[Io,hM];cases t <;> rfl⟩
   | ou kvs=>obtain⟨o,kws,h3,_⟩:=S.obj n a _ h1 hM;exact⟨_,.dct (.inl (.inr ⟨o,h3⟩)),by simp only[Io,hM];cases t <;> rfl⟩
   | ins _ _=>simp[wM,hM] at ho
 | g7 _=>simp[wM] at ho
theorem BN{a:Fg.E}{t:Ty}(h:T B Φ E (.CV a t) σ H Q):Eb (KL B) (bG (T B Φ E a) (bG (tC (.ty (oE t))) gI)) σ H Q:=by
 obtain⟨σD,M,F,ρ,S,r,h⟩:=h
 simp only[ev] at h
 refine T.one S r rfl h fun x M1 F1 ρ1 H1 v e1 S1 r1 rx h1=>?_
 split at h1
 ·rename_i ho
  obtain⟨T',ty,e⟩:=FE (t:=t) S1 rx ho
  refine⟨v,T',t,rfl,ty,?_⟩
  rw[e]
  exact ai.run h1 S1 (by simp only[RD])
 ·exact h1.elim
theorem qP{fz:Bool}{a:Fg.E}{es:Es}(h:T B Φ E (.eU .append fz a es) σ H Q):Kf B.K "list" m6 (T B Φ E a) (TL B Φ E es) σ H Q:=by
 obtain⟨σD,M,F,ρ,S,r,h⟩:=h
 simp only[ev] at h
 refine T.one S r rfl h fun x M1 F1 ρ1 H1 v e1 S1 r1 rx h1=>?_
 split at h1
 ·rename_i ho
  refine⟨?_,TL.one S1 r1 rfl h1 fun ds M2 F2 ρ2 H2 vs e2 S2 r2 Kv h2=>sD S2 (RD.mono e2 _ _ rx) Kv h2⟩
  have h0:=((Bool.and_eq_true _ _).mp ho).1
  cases hl:gy M1 x with
  | none=>rw[hl] at h0;cases h0
  | some p =>
   obtain⟨rfl,hM⟩:=jI hl
   simp only[RD] at rx
   obtain⟨b,hb,rfl⟩:=rx
   obtain⟨vs,h3,_⟩:=S1.obj p.1 b _ hb hM
   exact .inl ⟨rfl,vs,.inl (.inl h3)⟩
 ·exact h1.elim
noncomputable def Ep(x y v:V)(H:Hp)(Q:Hp->Prop):Prop:=Eo x y v H Q\/∃a H4,x=.ref a/\sH H a y v H4/\Q H4
noncomputable def Ej(to ti tv:TE):TS:=fun D σ H=>tv σ H fun v H1=>to σ H1 fun x H2=>ti σ H2 fun y H3=>Ep x y v H3 fun H4=>D.nx σ H4
theorem BW{x y d:D}{v w u:V}(S:SR B F ρ M H)(rx:RD B F ρ H x v)(ry:RD B F ρ H y w)(rd:RD B F ρ H d u){K:Hp->Prop}(h:∀M',oV M x y d=.ok () M'->∀H',Ext F ρ H F ρ H'->SR B F ρ M' H'->K H')(hb:∃M',oV M x y d=.ok () M'):Ep v w u H K:=by
 obtain⟨M',hb⟩:=hb
 have hK:=h M' hb
 unfold oV at hb
 split at hb
 ·rename_i n
  simp only[RD] at rx
  obtain⟨a,h1,rfl⟩:=rx
  split at hb
  ·rename_i xs i hM
   split at hb
   ·rename_i j hj
    cases hb
    simp only[RD] at ry;subst ry
    obtain⟨vs,h2,h3⟩:=S.obj n a _ h1 hM
    refine .inl ⟨a,vs,i,j,rfl,rfl,h2,by rw[<- aj.length h3,<- zo];exact hj,?_⟩
    obtain⟨S',e⟩:=S.st (o:=.lst (vs.set j u)) (u:=.lst (xs.set j d)) h1 (fun _ _ q=>by rw[h2] at q;cases q) ⟨_,av,aj.bw (Ext0.at_ S h1) _ _ (h3.set j rd)⟩
    exact hK _ e S'
   ·cases hb
  ·rename_i kvs hM
   split at hb
   ·rename_i k hk
    split at hb
    ·rename_i hl
     cases hb
     obtain⟨kws,h2,h3,h4⟩:=S.obj n a _ h1 hM
     have hlen:kws.length=kvs.length:=by have:=congrArg List.length h3;simpa using this
     rw[nk hk ry]
     refine .inr ⟨a,_,rfl,sH.k h2 (by rw[hlen];exact Nat.lt_of_lt_of_le (of_decide_eq_true hl) bC),?_⟩
     obtain⟨p1,p2⟩:=yi (k:=k) rd h3 h4
     obtain⟨S',e⟩:=S.st (o:=.dK (putK kws k u)) (u:=.dct (put kvs k d)) h1 (fun _ _ q=>by rw[h2] at q;cases q) ⟨_,av,p1,aj.bw (Ext0.at_ S h1) _ _ p2⟩
     exact hK _ e S'
    ·cases hb
   ·cases hb
  ·cases hb
 ·cases hb
theorem BY{x y d:D}:(∃M',oV M x y d=.ok () M')\/oV M x y d=.bad:=by
 unfold oV
 split
 ·split
  ·split
   ·exact .inl ⟨_,rfl⟩
   ·exact .inr rfl
  ·split
   ·split
    ·exact .inl ⟨_,rfl⟩
    ·exact .inr rfl
   ·exact .inr rfl
  ·exact .inr rfl
 ·exact .inr rfl
theorem xH{a b e:Fg.E}(h:TC B Φ E (.vD a b e) Dn σ H):Ej (T B Φ E a) (T B Φ E b) (T B Φ E e) Dn σ H:=by
 obtain⟨σD,M,F,ρ,S,r,h⟩:=h
 simp only[ex] at h
 refine TC.one S r h fun x M1 F1 ρ1 H1 v e1 S1 r1 rx h1=>?_
 refine TC.one S1 r1 h1 fun y M2 F2 ρ2 H2 w e2 S2 r2 ry h2=>?_
 refine TC.one S2 r2 h2 fun z M3 F3 ρ3 H3 u e3 S3 r3 rz h3=>?_
 have M6:=RD.mono e3 _ _ (RD.mono e2 _ _ rx)
 have M5:=RD.mono e3 _ _ ry
 rcases BY (M:=M3) (x:=y) (y:=z) (d:=x) with ⟨M',hb⟩ | hb
 ·refine BW S3 M5 rz M6 (fun M4 hq H4 e4 S4=>?_) ⟨M',hb⟩
  rw[hq] at h3
  exact h3 F3 ρ3 H4 e4 S4 σ (r3.mono e4)
 ·rw[hb] at h3;exact h3.elim
end
end Fg
end
section
namespace Fg
open PySem PySem.Spec L2
noncomputable def toD:Value->D
 | .bool b=>.bl b
 | .int i _=>.int i
 | .str x _=>.str x
 | _=>.aq
theorem qB{h:Heap}{d:D}{u:Value}(p:VV h d u)(f:kq d=true):toD u=d/\dep d=0:=by
 cases p <;> first | exact⟨rfl,rfl⟩ | cases f
theorem ko:∀{ds:List D},ds.all kq=true->bE ds=true
 | [],_=>rfl
 | d::ds,h=>by
  simp only[List.all_cons,Bool.and_eq_true] at h
  simp only[bE,ko h.2,Bool.and_true]
  cases d <;> first | rfl | cases h.1
theorem sM{h:Heap}:∀{ds:List D} {us:List Value},jw h ds us->ds.all kq=true->us.map toD=ds
 | _,_,.nil,_=>rfl
 | _,_,.cons p q,f=>by
  simp only[List.all_cons,Bool.and_eq_true] at f
  rw[List.map_cons,(qB p f.1).1,sM q f.2]
theorem sN{h:Heap}:∀{ds:List D} {us:List Value},jw h ds us->ds.all kq=true->∀u∈us,VV h (toD u) u/\kq (toD u)=true
 | _,_,.nil,_,u,hu=>by cases hu
 | _,_,.cons p q,f,u,hu=>by
  simp only[List.all_cons,Bool.and_eq_true] at f
  rcases List.mem_cons.mp hu with rfl | hu
  ·rw[(qB p f.1).1];exact⟨p,f.1⟩
  ·exact sN q f.2 u hu
noncomputable def Gs(K:W.Frag)(ct:Bool):V->List V->Hp->VK->Prop:=fun x vs H Q=>∃l xs y ds d j,x=.ref l/\vs=[y]/\fu K H l xs/\ow K H ds xs/\DV K H d y/\CT ct ds d=some j/\Q (.int (j:Int)) H
section
variable{X:Cx}
theorem yK(hu:Rm X)(ct:Bool):ML X (if ct then "list.count" else "list.index") (Gs X.K ct):=by
 intro pins s σ H x vs v us Q I rx rv h
 obtain⟨l,xs,y,ds,d,j,rfl,rfl,hl,hds,hd,hj,q⟩:=h
 cases rx
 obtain⟨u,rfl,ru⟩:=rv.one
 obtain⟨its,r,⟨⟨cl,dd,dt,sl⟩,n,e,hc,_,hs⟩,z⟩:=I.list hl
 simp only at hc hs
 subst hc hs
 unfold CT at hj
 split at hj
 ·rename_i hf
  simp only[Bool.and_eq_true] at hf
  have p:=ow.vv I ds xs its hds r
  have pd:=DV.vv I d y u hd ru
  have he:∀w,w∈its.toArray->SeqAt.EqAt X.A.in1 s w u (aD (toD w) d):=fun w hw=>by
   obtain⟨a1,a2⟩:=sN p hf.1 w (by simpa using hw)
   have a3:=(qB a1 a2).2
   exact (eq_data (s:=s) (dep (toD w)+dep d+1) (toD w) d w u X.A.in1 (Nat.lt_succ_self _) a1 pd (by rw[in1_units,a3,Nat.zero_min];unfold Rm at hu;omega)).2
  have eq:=sM p hf.1
  have fin:∀tk,EP X pins σ Q (.int (j:Int) s.toks) { s with toks:=tk }:=fun tk=>⟨.int j,H,I.tok _,⟨_,rfl⟩,q⟩
  cases ct with
  | true =>
   simp only[if_true,Option.some.injEq] at hj
   refine call_meets PySem.F.slot_list_count ⟨_,e,rfl⟩ PySem.F.entry_list_count (PySem.F.args_list_count_2 _ _) (SeqAt.list_countAt l its.toArray n dd sl u fun w=>aD (toD w) d) ⟨e,he,?_⟩
   have:its.countP (fun w=>aD (toD w) d)=j:=by rw[<- hj,<- eq,List.countP_map];rfl
   simp only[List.toList_toArray,this]
   exact fin _
  | false =>
   simp only[Bool.false_eq_true,if_false] at hj
   rw[<- eq,List.findIdx?_map,List.findIdx?_eq_some_iff_getElem] at hj
   obtain⟨h1,h2,h3⟩:=hj
   refine call_meets PySem.F.slot_list_index ⟨_,e,rfl⟩ PySem.F.entry_list_index (PySem.F.args_list_index_2 _ _) (SeqAt.list_indexAt l its.toArray n dd sl u (fun w=>aD (toD w) d) j (by simpa using h1) ?_ ?_ ?_) ⟨e,he,fin _⟩
   ·have z1:its.length<=sizeLine:=by rw[<- r.length];exact z
    have:sizeLine=2 ^ 24:=rfl
    omega
   ·simpa using h2
   ·intro m hm hmj
    simpa using h3 m hmj
 ·cases hj
end
section
variable{B:Bd}{Φ:aZ}{E:Gx}{F F' F1:Addr->Prop}{ρ ρ' ρ1:List Addr}{H H' H1:Hp}{M M':MH}{σD:Sg}{σ:L2.St}{Q:VK}
theorem yP{d:D}{ds:List D}(h:rJ M d=some ds):vw M d=.lst ds:=by
 unfold rJ at h
 split at h
 ·cases h;assumption
 ·cases h
theorem BL{ct:Bool}{a:Fg.E}{es:Es}(h:T B Φ E (.Ii ct a es) σ H Q):Kf B.K "list" (Gs B.K ct) (T B Φ E a) (TL B Φ E es) σ H Q:=by
 obtain⟨σD,M,F,ρ,S,r,h⟩:=h
 simp only[ev] at h
 refine T.one S r rfl h fun x M1 F1 ρ1 H1 v e1 S1 r1 rx h1=>?_
 split at h1
 ·rename_i ho
  obtain⟨ds0,hds0⟩:=Option.isSome_iff_exists.mp ho
  obtain⟨a0,vs0,rfl,q0,_⟩:=bf S1 rx (yP hds0)
  refine⟨.inl ⟨rfl,vs0,q0⟩,TL.one S1 r1 rfl h1 fun ds M2 F2 ρ2 H2 vs e2 S2 r2 Kv h2=>?_⟩
  have BZ:=RD.mono e2 _ _ rx
  unfold Ih at h2
  cases ds with
  | nil=>exact h2.elim
  | cons d ds=>cases ds with
   | cons _ _=>exact h2.elim
   | nil =>
    simp only[rA] at h2
    split at h2
    ·rename_i j hj
     obtain⟨xs,hxs,hj⟩:=Option.bind_eq_some_iff.mp hj
     obtain⟨a1,ws,ea,q1,r3⟩:=bf S2 BZ (yP hxs)
     obtain⟨w,us,rfl,rw',ru⟩:∃w us,vs=w::us/\RD B F2 ρ2 H2 d w/\aj B F2 ρ2 H2 [] us:=by simpa only[aj] using Kv
     have eu:us=[]:=List.eq_nil_of_length_eq_zero (aj.length ru).symm
     subst eu
     have hj':=hj
     unfold CT at hj'
     split at hj'
     ·rename_i hf
      simp only[Bool.and_eq_true] at hf
      have pd:plain d=true:=by have:=hf.2;cases d <;> first | rfl | cases this
      exact⟨a1,ws,w,xs,d,j,ea,rfl,q1,aj.dv (ko hf.1) r3,RD.dv pd rw',hj,ai.run h2 S2 (by simp only[RD])⟩
     ·cases hj'
    ·exact h2.elim
 ·exact h1.elim
end
end Fg
end
section
namespace Fg
open PySem PySem.Spec L2
noncomputable def rW:F1->V->Option V
 | .abs,.int i=>some (.int (if i<0 then -i else i))
 | .int,.bl b=>some (.int (if b then 1 else 0))
 | .int,.int i=>some (.int i)
 | _,_=>none
noncomputable def rF1(f:F1):List V->Hp->VK->Prop:=fun xs H Q=>∃x y,xs=[x]/\rW f x=some y/\Q y H
section
variable{X:Cx}
theorem wC:cG X (.builtin "abs") (rF1 .abs):=by
 intro pins s σ H xs us Q I r h
 obtain⟨x,y,rfl,hf,q⟩:=h
 obtain⟨u,rfl,ru⟩:=vals1 r
 cases x with
 | int i =>
  simp only[rW] at hf
  cases hf
  obtain⟨t,rfl⟩:=(show ∃t,u=Value.int i t from ru)
  exact PyProof.Rows.call_abs_int fun u tk=>⟨.int _,H,I.tok _,⟨_,rfl⟩,q⟩
 | _=>simp[rW] at hf
theorem wA:cG X (.type "int") (rF1 .int):=by
 intro pins s σ H xs us Q I r h
 obtain⟨x,y,rfl,hf,q⟩:=h
 obtain⟨u,rfl,ru⟩:=vals1 r
 cases x with
 | int i =>
  simp only[rW] at hf
  cases hf
  obtain⟨t,rfl⟩:=(show ∃t,u=Value.int i t from ru)
  exact call_int_int ⟨.int _,H,I,⟨_,rfl⟩,q⟩
 | bl b =>
  simp only[rW] at hf
  cases hf
  cases ru
  exact call_int_bool ⟨.int _,H,I.tok _,⟨_,rfl⟩,q⟩
 | _=>simp[rW] at hf
end
section
variable{B:Bd}{Φ:aZ}{E:Gx}{F F' F0 F1:Addr->Prop}{ρ ρ' ρ0 ρ1:List Addr}{H H' H0 H1:Hp}{M M' M0:MH}{σD:Sg}{σ:L2.St}{Q:VK}
theorem IE{f:Fg.F1}{x d:D}{v:V}(h:v9 f x=some d)(r:RD B F ρ H x v):∃w,rW f v=some w/\RD B F ρ H d w:=by
 cases x with
 | int i=>simp only[RD] at r;subst r;cases f <;> simp only[v9] at h <;> cases h <;> exact⟨_,rfl,by simp only[RD]⟩
 | bl b=>simp only[RD] at r;subst r;cases f <;> simp only[v9] at h <;> cases h <;> exact⟨_,rfl,by simp only[RD]⟩
 | _=>cases f <;> simp[v9] at h
theorem tK{f:Fg.F1}{a:Fg.E}(h:T B Φ E (.qu f a) σ H Q):Eb (rF1 f) (bG (T B Φ E a) gI) σ H Q:=by
 obtain⟨σD,M,F,ρ,S,r,h⟩:=h
 simp only[ev] at h
 refine T.one S r rfl h fun x M1 F1 ρ1 H1 v e1 S1 r1 rx h1=>?_
 split at h1
 ·rename_i d hd
  obtain⟨w,hw,rw'⟩:=IE hd rx
  exact⟨v,w,rfl,hw,ai.run h1 S1 rw'⟩
 ·exact h1.elim
end
end Fg
end
section
namespace Fg
open PySem L2
section
variable{X:Cx}
theorem Dd(l:Addr)(items:Array Value)(n:Nat)(b:Addr)(items2:Array Value)(n2:Nat)(dd2:Option Addr)(sl2:Array (Option Value))(hs0:¬(!items.isEmpty&&Builtin.List.listTooLong (items.size+items2.size))=true)(hs1:items.size<=sizeLine)(hs2:items.size+items2.size<=sizeLine+1) :
  Meets (Builtin.«list.extend» ⟨[.ref l, .ref b], []⟩) (fun _ R s=>s.heap.get? l=some { cls:=.type "list", dict:=none, data:=.seq items n, slots:=#[] }/\s.heap.get? b=some { cls:=.type "tuple", dict:=dd2, data:=.seq items2 n2, slots:=sl2 }/\R (.ok (.ret Value.none)) { s with heap:=s.heap.update l (Obj.mapSeq fun x=>x++items2), toks:=s.toks }) :=
 .of_wp fun prog w A R s h=>by
  obtain⟨hp,g,d,tk,os⟩:=s;obtain⟨hl,hb,h⟩:=h;have f1:=AutoSeq1.idx_int;have f2:=AutoSeq1.sub_tuple_tuple;have f3:=AutoSeq1.sub_list_list;have f4:=AutoSeq1.sub_tuple_list;have f5:=AutoSeq1.sub_list_tuple
  have hz':(items++items2).size<=sizeLine+1:=by rw[Array.size_append];exact hs2
  wp_walk using (wpAny_updateSeq hl rfl (hz:=hs1) (_hz':=hz')),AutoSeq1.wpAny_loadPart' hl,AutoSeq1.wpAny_loadPart' hb;exact⟨_,rfl,h⟩
noncomputable def Et(K:W.Frag):V->List V->Hp->VK->Prop:=fun x vs H Q=>∃l b xs zs,x=.ref l/\vs=[.ref b]/\H l=some (.lst xs)/\gU K H b zs/\xs.length+zs.length<=sizeLine/\Q .aq (upd H l (.lst (xs++zs)))
theorem CF:ML X "list.extend" (Et X.K):=by
 intro pins s σ H x vs v us Q I rx rv h
 obtain⟨l,b,xs,zs,rfl,rfl,hH,hB,hz,q⟩:=h
 cases rx
 obtain⟨u,rfl,ru⟩:=rv.one
 cases ru
 obtain⟨z,its,n,r,hl,e⟩:=I.CJ hH
 obtain⟨its2,r2,p2,z2⟩:=I.tuple hB
 obtain⟨⟨Mm,dd2,data2,sl2⟩,e2,hc2,n2,hd2⟩:=p2
 simp only at hc2 hd2
 subst hc2 hd2
 have l2:=r2.length
 have hsz:its.toArray.size+its2.toArray.size<=sizeLine:=by rw[List.size_toArray,List.size_toArray];omega
 have Lx:¬ (!its.toArray.isEmpty&&Builtin.List.listTooLong (its.toArray.size+its2.toArray.size))=true:=by
  rw[yG hsz,Bool.and_false]
  exact Bool.false_ne_true
 refine call_meets PySem.F.slot_list_extend ⟨_,e,rfl⟩ PySem.F.entry_list_extend (PySem.F.args_list_extend_2 _ _)
  (Dd l its.toArray n b its2.toArray n2 dd2 sl2 Lx (by rw[List.size_toArray];omega) (by omega)) ⟨e,e2,?_⟩
 refine⟨.aq,_,I.CK (its':=its++its2) hH e (by simp) (r.append r2) ?_,rfl,q⟩
 rw[List.length_append]
 omega
end
section
variable{B:Bd}{Φ:aZ}{E:Gx}{F F' F0 F1:Addr->Prop}{ρ ρ' ρ0 ρ1:List Addr}{H H' H0 H1:Hp}{M M' M0:MH}{σD:Sg}{σ:L2.St}{Q:VK}
theorem aj.rev:∀{ds:List D} {vs:List V},aj B F ρ H ds vs->aj B F ρ H ds.reverse vs.reverse
 | [],vs,h=>by
  have:=aj.length h
  cases vs with
  | nil=>exact aj.nil
  | cons _ _=>simp at this
 | d::ds,vs,h=>by
  cases vs with
  | nil=>have:=aj.length h;simp at this
  | cons v vs =>
   obtain⟨w,ws,h1,h2,h3⟩:∃w ws,v::vs=w::ws/\RD B F ρ H d w/\aj B F ρ H ds ws:=by simpa only[aj] using h
   cases h1
   rw[List.reverse_cons,List.reverse_cons]
   exact aj.append (aj.rev h3) (aj.cons h2 aj.nil)
theorem aj.dropLast{ds:List D}{vs:List V}(h:aj B F ρ H ds vs):aj B F ρ H ds.dropLast vs.dropLast:=by
 rw[List.dropLast_eq_take,List.dropLast_eq_take,<- aj.length h];exact aj.take _ h
theorem x8{x:D}{v:V}{m:Mt}(S:SR B F ρ M H)(rx:RD B F ρ H x v)(ho:nj m M x=true):∃n xs, x=.ref n/\M[n]? = some (.lst xs)/\MV B.K "list" v H:=by
 have h0:=((Bool.and_eq_true _ _).mp ho).1
 cases hl:gy M x with
 | none=>rw[hl] at h0;cases h0
 | some p =>
  obtain⟨rfl,hM⟩:=jI hl
  simp only[RD] at rx
  obtain⟨b,hb,rfl⟩:=rx
  obtain⟨vs,h3,_⟩:=S.obj p.1 b _ hb hM
  exact⟨p.1,p.2,rfl,hM,.inl ⟨rfl,vs,.inl (.inl h3)⟩⟩
theorem Cd{fz:Bool}{n:Nat}{xs:List D}{v:V}{X:XK}(S:SR B F ρ M H)(hx:M[n]? = some (.lst xs))(rx:RD B F ρ H (.ref n) v)(h:Post B (gM .pop fz M (.ref n) []) F ρ H Q X):Gp v [] H Q:=by
 simp only[gM,ck hx,pF,List.isEmpty_nil,if_true] at h
 split at h
 ·rename_i d hd
  simp only[RD] at rx
  obtain⟨a,h1,rfl⟩:=rx
  obtain⟨ws,h2,h3⟩:=S.obj n a _ h1 hx
  obtain⟨w,hw,rw'⟩:=aj.get h3 hd
  refine⟨a,ws,w,rfl,rfl,h2,by rw[<- aj.length h3];exact hw,?_⟩
  obtain⟨S',e⟩:=S.st (o:=.lst ws.dropLast) (u:=.lst xs.dropLast) h1 (fun _ _ q=>by rw[h2] at q;cases q) ⟨_,av,aj.bw (Ext0.at_ S h1) _ _ h3.dropLast⟩
  exact h _ _ _ _ e S' (RD.mono e _ _ rw')
 ·exact h.elim
theorem o4{fz:Bool}{n:Nat}{xs:List D}{v:V}{X:XK}(S:SR B F ρ M H)(hx:M[n]? = some (.lst xs))(rx:RD B F ρ H (.ref n) v)(h:Post B (gM .reverse fz M (.ref n) []) F ρ H Q X):jY v [] H Q:=by
 simp only[gM,ck hx,pF,List.isEmpty_nil,if_true] at h
 simp only[RD] at rx
 obtain⟨a,h1,rfl⟩:=rx
 obtain⟨ws,h2,h3⟩:=S.obj n a _ h1 hx
 refine⟨a,ws,rfl,rfl,h2,?_⟩
 obtain⟨S',e⟩:=S.st (o:=.lst ws.reverse) (u:=.lst xs.reverse) h1 (fun _ _ q=>by rw[h2] at q;cases q) ⟨_,av,aj.bw (Ext0.at_ S h1) _ _ h3.rev⟩
 exact h _ _ _ _ e S' (by simp only[RD])
theorem qO{fz:Bool}{a:Fg.E}{es:Es}(h:T B Φ E (.eU .extend fz a es) σ H Q):Kf B.K "list" (Et B.K) (T B Φ E a) (TL B Φ E es) σ H Q:=by
 obtain⟨σD,M,F,ρ,S,r,h⟩:=h
 simp only[ev] at h
 refine T.one S r rfl h fun x M1 F1 ρ1 H1 v e1 S1 r1 rx h1=>?_
 split at h1
 ·rename_i ho
  obtain⟨n,xs,rfl,hM,ty⟩:=x8 S1 rx ho
  refine⟨ty,TL.one S1 r1 rfl h1 fun ds M2 F2 ρ2 H2 vs e2 S2 r2 Kv h2=>?_⟩
  have BZ:=RD.mono e2 _ _ rx
  unfold gM at h2
  cases hl:gy M2 (.ref n) with
  | none=>rw[hl] at h2;exact h2.elim
  | some q =>
   rw[hl] at h2
   obtain⟨e0,hy⟩:=jI hl
   cases e0
   cases ds with
   | nil=>exact h2.elim
   | cons d ds=>cases ds with
    | cons _ _=>exact h2.elim
    | nil =>
     simp only[pF,rA] at h2
     split at h2
     ·rename_i zs hz
      split at h2
      ·rename_i hlen
       simp only[RD] at BZ
       obtain⟨a',h3,rfl⟩:=BZ
       obtain⟨ws,h4,h5⟩:=S2.obj _ a' _ h3 hy
       obtain⟨w,us,rfl,rw',ru⟩:∃w us,vs=w::us/\RD B F2 ρ2 H2 d w/\aj B F2 ρ2 H2 [] us:=by simpa only[aj] using Kv
       have eu:us=[]:=List.eq_nil_of_length_eq_zero (aj.length ru).symm
       subst eu
       cases Bo hz
       simp only[RD] at rw'
       obtain⟨b,zs',rfl,z1,r3⟩:=rw'
       refine⟨a',b,ws,zs',rfl,rfl,h4,z1.sq,?_,?_⟩
       ·rw[<- aj.length h5,<- aj.length r3];exact Nat.le_trans (of_decide_eq_true hlen) bC
       ·obtain⟨S',e⟩:=S2.st (o:=.lst (ws++zs')) (u:=.lst (q.2++zs)) h3 (fun _ _ q=>by rw[h4] at q;cases q) ⟨_,av,aj.bw (Ext0.at_ S2 h3) _ _ (h5.append r3)⟩
        exact h2 _ _ _ _ e S' (by simp only[RD])
      ·exact h2.elim
     ·exact h2.elim
 ·exact h1.elim
theorem oQ{m:Mt}{fz:Bool}{a:Fg.E}{r:V->List V->Hp->VK->Prop}
  (hs:∀(F:Addr->Prop) (ρ:List Addr) (H:Hp) (M:MH) (n:Nat) (xs:List D) (v:V) (Q:VK) (X:XK),SR B F ρ M H->M[n]? = some (.lst xs)->RD B F ρ H (.ref n) v->Post B (gM m fz M (.ref n) []) F ρ H Q X->r v [] H Q)
  (h:T B Φ E (.eU m fz a .nil) σ H Q):Br B.K "list" r (T B Φ E a) σ H Q:=by
 obtain⟨σD,M,F,ρ,S,r,h⟩:=h
 simp only[ev] at h
 refine T.one S r rfl h fun x M1 F1 ρ1 H1 v e1 S1 r1 rx h1=>?_
 split at h1
 ·rename_i ho
  obtain⟨n,xs,rfl,hM,ty⟩:=x8 S1 rx ho
  simp only[cz,R.af] at h1
  exact⟨ty,hs _ _ _ _ n xs v _ _ S1 hM rx h1⟩
 ·exact h1.elim
theorem BE{fz:Bool}{a:Fg.E}(h:T B Φ E (.eU .pop fz a .nil) σ H Q):Br B.K "list" Gp (T B Φ E a) σ H Q:=oQ (fun _ _ _ _ _ _ _ _ _ S hx rx h=>Cd S hx rx h) h
theorem oN{fz:Bool}{a:Fg.E}(h:T B Φ E (.eU .reverse fz a .nil) σ H Q):Br B.K "list" jY (T B Φ E a) σ H Q:=oQ (fun _ _ _ _ _ _ _ _ _ S hx rx h=>o4 S hx rx h) h
end
end Fg
end
section
namespace Fg
open PySem PySem.Spec L2
section
variable{B:Bd}{Φ:aZ}{E:Gx}{F F' F0 F1:Addr->Prop}{ρ ρ' ρ0 ρ1:List Addr}{H H' H0 H1:Hp}{M M' M0:MH}{σD:Sg}{σ:L2.St}{Q:VK}{Dn:Ends}
theorem nG{f:Str}:∀{fs:List (Str×D)} {eV:List (Str×V)},eV.map (·.1)=fs.map (·.1)->aj B F ρ H (fs.map (·.2)) (eV.map (·.2)) ->
  (∀d,fs.lookup f=some d->∃v,eV.lookup f=some v/\RD B F ρ H d v)/\(fs.lookup f=none->eV.lookup f=none)
 | [],eV,h1,h2=>by
  have:eV=[]:=by cases eV with | nil=>rfl | cons _ _=>simp at h1
  subst this
  exact⟨fun d h=>by simp at h,fun _=>rfl⟩
 | (g, d')::fs, eV, h1, h2=>by
  cases eV with
  | nil=>simp at h1
  | cons p eV =>
   obtain⟨pk,pv⟩:=p
   simp only[List.map_cons,List.cons.injEq] at h1
   simp only[List.map_cons,aj] at h2
   obtain⟨v,ws,e,r1,r2⟩:=h2
   cases e
   obtain⟨e1,e2⟩:=h1
   subst e1
   have ih:=nG (f:=f) e2 r2
   by_cases hk:f=pk
   ·subst hk
    simp only[List.lookup,beq_self_eq_true]
    exact⟨fun d h=>by cases h;exact⟨_,rfl,r1⟩,fun h=>by cases h⟩
   ·have hb:(f == pk)=false:=beq_eq_false_iff_ne.mpr hk
    simp only[List.lookup,hb]
    exact ih
theorem tV{f:Str}{d:D}{v:V}(r:RD B F ρ H d v):∀{fs:List (Str×D)} {eV:List (Str×V)},eV.map (·.1)=fs.map (·.1)->aj B F ρ H (fs.map (·.2)) (eV.map (·.2)) ->
  (dm f v eV).map (·.1)=(eF f d fs).map (·.1)/\aj B F ρ H ((eF f d fs).map (·.2)) ((dm f v eV).map (·.2))
 | [],eV,h1,h2=>by
  have:eV=[]:=by cases eV with | nil=>rfl | cons _ _=>simp at h1
  subst this
  exact⟨rfl,aj.cons r aj.nil⟩
 | (g, d')::fs, eV, h1, h2=>by
  cases eV with
  | nil=>simp at h1
  | cons p eV =>
   obtain⟨pk,pv⟩:=p
   simp only[List.map_cons,List.cons.injEq] at h1
   simp only[List.map_cons,aj] at h2
   obtain⟨w,ws,e,r1,r2⟩:=h2
   cases e
   obtain⟨e1,e2⟩:=h1
   subst e1
   obtain⟨i1,i2⟩:=tV (f:=f) r e2 r2
   by_cases hk:pk=f
   ·simp only[dm,eF,if_pos hk,List.map_cons]
    exact⟨by rw[e2],aj.cons r r2⟩
   ·simp only[dm,eF,if_neg hk,List.map_cons]
    exact⟨by rw[i1],aj.cons r1 i2⟩
theorem BU{K:W.Frag}{a:Fg.E}{f:Str}(hC:∀c C,B.cls c=some C->wL K C/\dM K C f)(h:T B Φ E (.fld a f) σ H Q):Ke K (T B Φ E a) f σ H Q:=by
 obtain⟨σD,M,F,ρ,S,r,h⟩:=h
 simp only[ev] at h
 refine T.one S r rfl h fun x M1 F1 ρ1 H1 v e1 S1 r1 rx h1=>?_
 split at h1
 ·rename_i n
  split at h1
  ·rename_i c fs hM
   split at h1
   ·rename_i d hd
    simp only[RD] at rx
    obtain⟨b,hb,rfl⟩:=rx
    obtain⟨C,dx,eV,hc,hH,hk,hr⟩:=S1.obj n b _ hb hM
    obtain⟨w,hw,rw⟩:=(nG hk hr).1 d hd
    exact⟨b,C,dx,eV,w,rfl,hH,(hC c C hc).1,(hC c C hc).2,hw,ai.run h1 S1 rw⟩
   ·exact h1.elim
  ·exact h1.elim
 ·exact h1.elim
theorem xJ{K:W.Frag}{a e:Fg.E}{f:Str}(hC:∀c C,B.cls c=some C->wL K C/\dM K C f)(h:TC B Φ E (.eB a f e) Dn σ H):Ks K (T B Φ E a) (T B Φ E e) f Dn σ H:=by
 obtain⟨σD,M,F,ρ,S,r,h⟩:=h
 simp only[ex] at h
 refine TC.one S r h fun x M1 F1 ρ1 H1 v e1 S1 r1 rx h1=>?_
 refine TC.one S1 r1 h1 fun y M2 F2 ρ2 H2 w e2 S2 r2 ry h2=>?_
 have BZ:=RD.mono e2 _ _ rx
 split at h2
 ·rename_i n
  split at h2
  ·rename_i c fs hM
   split at h2
   ·rename_i hl
    simp only[RD] at ry
    obtain⟨b,hb,rfl⟩:=ry
    obtain⟨C,dx,eV,hc,hH,hk,hr⟩:=S2.obj n b _ hb hM
    have hlen:eV.length=fs.length:=by have:=congrArg List.length hk;simpa using this
    obtain⟨p1,p2⟩:=tV (f:=f) BZ hk hr
    obtain⟨S',e⟩:=S2.st (o:=.ins C dx (dm f v eV)) (u:=.ins c (eF f x fs)) hb (fun _ _ q=>by rw[hH] at q;cases q) ⟨C,dx,_,hc,av,p1,aj.bw (Ext0.at_ S2 hb) _ _ p2⟩
    exact⟨b,C,dx,eV,rfl,hH,(hC c C hc).1,(hC c C hc).2,by rw[hlen];exact of_decide_eq_true hl,h2 F2 ρ2 _ e S' σ (r2.mono e)⟩
   ·exact h2.elim
  ·exact h2.elim
 ·exact h2.elim
noncomputable def qG(C:Addr)(m:Str)(sp:Sp)(Ex:XS)(ta:TE)(t:TA):TE:=fun σ H Q=>ta σ H fun x H1=>∃a dx fs,x=.ref a/\H1 a=some (.ins C dx fs)/\fs.lookup m=none /\
 t σ H1 fun vs H2=>sp (x::vs) H2 Q fun cv y H'=>Ex cv y σ H'
noncomputable def qH(C:Addr)(sp:Sp)(Ex:XS)(t:TA):TE:=fun σ H Q=>t σ H fun vs H1=>∀x dx,H1 x=none->H1 dx=none->dx≠x ->
 sp (.ref x::vs) (upd (upd H1 dx (.own x)) x (.ins C dx [])) (fun v H2=>v=.aq/\Q (.ref x) H2) fun cv y H'=>Ex cv y σ H'
theorem tD{c m n:Nat}{nm:Str}{a:Fg.E}{es:Es}{C:Addr}(hC:B.cls c=some C)(hn:∀{σ:Sg} {M:MH} {ds:List D} {M':MH},cz Φ es σ M=.ok ds M'->ds.length+1=n)(h:T B Φ E (.cZ c m nm a es) σ H Q) :
  qG C nm (oj B Φ m n) E.e (T B Φ E a) (TL B Φ E es) σ H Q:=by
 obtain⟨σD,M,F,ρ,S,r,h⟩:=h
 simp only[ev] at h
 refine T.one S r rfl h fun x M1 F1 ρ1 H1 v e1 S1 r1 rx h1=>?_
 split at h1
 ·rename_i i
  split at h1
  ·rename_i c' fs hM
   split at h1
   ·rename_i hq
    simp only[Bool.and_eq_true,decide_eq_true_eq,Option.isNone_iff_eq_none] at hq
    obtain⟨rfl,hno⟩:=hq
    have rx0:=rx
    simp only[RD] at rx
    obtain⟨b,hb,rfl⟩:=rx
    obtain⟨C',dx,eV,hc,hH,hk,hr⟩:=S1.obj i b _ hb hM
    rw[hC] at hc;cases hc
    refine⟨b,dx,eV,rfl,hH,(nG hk hr).2 hno,σD,M1,F1,ρ1,S1,r1,?_⟩
    cases hx:cz Φ es σD M1 with
    | exc c M2=>rw[hx] at h1;exact h1
    | bad=>rw[hx] at h1;exact h1
    | ok ds M2 =>
     rw[hx] at h1
     simp only[R.af] at h1
     intro F2 ρ2 H2 vs e2 S2 q2
     exact⟨by rw[List.length_cons,<- aj.length q2];exact hn hx,.ref i::ds,M2,F2,ρ2,S2,aj.cons (RD.mono e2 _ _ rx0) q2,ai.weak e2 h1⟩
   ·exact h1.elim
  ·exact h1.elim
 ·exact h1.elim
noncomputable def spI(B:Bd)(Φ:aZ)(f n:Nat):Sp:=fun vs H Q E=>vs.length=n/\∃ds M F ρ,SR B F ρ M H/\aj B F ρ H ds vs/\Post B (Φ.ini f ds M) F ρ H Q E
theorem SR.own(S:SR B F ρ M H){p:Addr}(h:H p=none)(o:HO):SR B F ρ M (upd H p o)/\Ext F ρ H F ρ (upd H p o):=by
 obtain⟨np,nf⟩:=S.new h
 exact⟨S.side np nf o,⟨⟨S.sep,fun a q=>q,fun a q _=>ak (by rintro rfl;exact q h),List.prefix_refl _,fun a q=>.inl q,fun a q=>.inl q⟩,fun b w u q=>by rw[ak (by rintro rfl;rw[h] at q;cases q)];exact q⟩⟩
theorem tF{c i n:Nat}{es:Es}{C:Addr}(hC:B.cls c=some C)(hn:∀{σ:Sg} {M:MH} {ds:List D} {M':MH},cz Φ es σ M=.ok ds M'->ds.length+1=n)(h:T B Φ E (.new c i es) σ H Q) :
  qH C (spI B Φ i n) E.e (TL B Φ E es) σ H Q:=by
 obtain⟨σD,M,F,ρ,S,r,h⟩:=h
 simp only[ev] at h
 refine⟨σD,M,F,ρ,S,r,?_⟩
 cases hx:cz Φ es σD M with
 | exc c M1=>rw[hx] at h;exact h
 | bad=>rw[hx] at h;exact h
 | ok ds M1 =>
  rw[hx] at h
  simp only[R.af] at h
  intro F1 ρ1 H1 vs e1 S1 q1 x dx hx0 hdx hne
  obtain⟨S2,e2⟩:=S1.own hdx (.own x)
  have hx2:upd H1 dx (.own x) x=none:=by rw[ak (Ne.symm hne)];exact hx0
  obtain⟨S3,e3⟩:=S2.lv (o:=.ins C dx []) (u:=.ins c []) hx2 ⟨C,dx,[],hC,av,rfl,aj.nil⟩
  have at_:(ρ1++[x])[M1.length]? = some x:=by rw[<- S1.len,List.getElem?_append_right (Nat.le_refl _),Nat.sub_self];rfl
  have e23:=e2.trans e3
  refine⟨by rw[List.length_cons,<- aj.length q1];exact hn hx,.ref M1.length::ds,M1++[.ins c []],F1,ρ1++[x],S3,aj.cons (by simp only[RD];exact⟨x,at_,rfl⟩) (aj.mono e23 _ _ q1),?_⟩
  refine ai.imp (ai.bind (rel:=RD B) (ai.weak (e1.trans e23) h)) fun v H' ⟨d,M',F',ρ',ext,S',rd,h2⟩=>?_
  split at h2
  ·simp only[RD] at rd
   exact⟨rd,ai.run h2 S' (by simp only[RD];exact⟨x,ext.at at_,rfl⟩)⟩
  ·exact h2.elim
theorem oO{c i:Nat}{es:Es}(hb:∀ds M,Φ.ini i ds M=.bad)(h:T B Φ E (.new c i es) σ H Q):TL B Φ E es σ H fun _ _=>False:=by
 obtain⟨σD,M,F,ρ,S,r,h⟩:=h
 simp only[ev] at h
 refine⟨σD,M,F,ρ,S,r,?_⟩
 cases hx:cz Φ es σD M with
 | exc c M1=>rw[hx] at h;exact h
 | bad=>rw[hx] at h;exact h
 | ok ds M1 =>
  rw[hx] at h
  simp only[R.af,hb,R.ef] at h
  exact h.elim
theorem BH{a b:Fg.E}(h:T B Φ E (.mx true a b) σ H Q):Eb (fun xs H Q=>∃i j,xs=[.int i,.int j]/\Q (.int (if j > i then j else i)) H) (bG (T B Φ E a) (bG (T B Φ E b) gI)) σ H Q:=by
 obtain⟨σD,M,F,ρ,S,r,h⟩:=h
 simp only[ev] at h
 refine T.two S r rfl h fun x y M2 F2 ρ2 H2 v w S2 _ rx ry h2=>?_
 split at h2
 ·rename_i i j
  simp only[RD] at rx ry
  subst rx ry
  exact⟨i,j,rfl,ai.run h2 S2 (by simp only[RD,if_true])⟩
 ·exact h2.elim
theorem BG{a b:Fg.E}(h:T B Φ E (.mx false a b) σ H Q):Eb (fun xs H Q=>∃i j,xs=[.int i,.int j]/\Q (.int (if j<i then j else i)) H) (bG (T B Φ E a) (bG (T B Φ E b) gI)) σ H Q:=by
 obtain⟨σD,M,F,ρ,S,r,h⟩:=h
 simp only[ev] at h
 refine T.two S r rfl h fun x y M2 F2 ρ2 H2 v w S2 _ rx ry h2=>?_
 split at h2
 ·rename_i i j
  simp only[RD] at rx ry
  subst rx ry
  exact⟨i,j,rfl,ai.run h2 S2 (by simp only[RD,Bool.false_eq_true,if_false])⟩
 ·exact h2.elim
end
section
variable{X:Cx}{cm:Bool}{Ex:XS}{k:Nat}{f C:Addr}{fd:FuncData}{ps:List Str}{sp:Sp}{x m:Str}{p pos apos:Pos}{e o:Expr}{es:List Expr}{ta:TE}{t:TA}
theorem yt{pl:Sem Bool}(he:PE X o ta)(c:wL X.K C)(hm:Meth X.K C m f)(F:bu true X.prog X.w X.K X.mg X.base (fh X.prog X.w) k f fd ps sp)(hr:bR true k X.A)(hb:Binds X.K fd ps [])(hx:∀e s,iO X Ex e s->X.xe e s)(ha:PA X (e::es) t)
  (hst:starEach (e::es) X.env=(false,eval e X.env)::starEach es X.env) (hpl:(backTo pos (starEach es X.env)).any (·.1)=false)
  (ht:eval (.Call (.Attribute o m apos) (e::es) [] pos) X.env=(do
   let ov <- eval o X.env
   standAt apos.atName
   let (f,first) <- holding [ov] (getMethod ov m pl)
   callWith pos f first (backTo pos (starEach (e::es) X.env)) (backToKw pos (keywordEach [] X.env)))) :
  PE X (.Call (.Attribute o m apos) (e::es) [] pos) (qG C m sp Ex ta t):=by
 intro pins s σ H Q I h
 refine PySem.W.methodCall_KW (pl:=pl) (aT (he pins s σ H _ I h) fun u s1 ⟨x,H1,I1,rx,a,dx,fs,ex,ea,l,q⟩=>?_) ht
 subst ex
 obtain rfl:u=Value.ref a:=rx
 refine ki I1 ea c hm l ?_
 refine PySem.W.callWith_K (first:=[.ref a]) (h₀:=X.base) I.ok.mod.A0 hm.kp (aT (ha pos pins s1 σ H1 _ I1 q) fun us s2 ⟨vs,H2,I2,r,q2⟩=>⟨I2.fM,?_⟩) hst hpl
 exact xU (us:=.ref a::us) (vs:=.ref a::vs) F hr (fun z=>nomatch z) hb hx I2 (.cons rfl r) q2
theorem vK{pl:Sem Bool}(he:PE X o ta)(c:wL X.K C)(hm:Meth X.K C m f)(F:bu true X.prog X.w X.K X.mg X.base (fh X.prog X.w) k f fd ps sp)(hr:bR true k X.A)(hb:Binds X.K fd ps [])(hx:∀e s,iO X Ex e s->X.xe e s)
  (ht:eval (.Call (.Attribute o m apos) [] [] pos) X.env=(do
   let ov <- eval o X.env
   standAt apos.atName
   let (f,first) <- holding [ov] (getMethod ov m pl)
   callWith pos f first (backTo pos (starEach [] X.env)) (backToKw pos (keywordEach [] X.env)))) :
  PE X (.Call (.Attribute o m apos) [] [] pos) (qG C m sp Ex ta gI):=by
 intro pins s σ H Q I h
 refine PySem.W.methodCall_KW (pl:=pl) (aT (he pins s σ H _ I h) fun u s1 ⟨x,H1,I1,rx,a,dx,fs,ex,ea,l,q⟩=>?_) ht
 subst ex
 obtain rfl:u=Value.ref a:=rx
 refine ki I1 ea c hm l ?_
 exact PySem.W.callWith_K0 (first:=[.ref a]) I1.fM hm.kp (xU (us:=[.ref a]) (vs:=[.ref a]) F hr (fun z=>nomatch z) hb hx I1 (.cons rfl .nil) q)
theorem lU{pins:List (Addr×Obj)}{σ:L2.St}{H:Hp}{s:Shared}{Q:VK}{us:List Value}{vs:List V}(M:Mk X.K C f)(F:bu true X.prog X.w X.K X.mg X.base (fh X.prog X.w) k f fd ps sp)(hr:bR true (k+1) X.A)(hb:Binds X.K fd ps [])
  (hx:∀e s,iO X Ex e s->X.xe e s) (I:Inv X pins σ H s) (r:Vals vs us)
  (h:∀x dx,H x=none->H dx=none->dx≠x->sp (.ref x::vs) (upd (upd H dx (.own x)) x (.ins C dx [])) (fun v H2=>v=.aq/\Q (.ref x) H2) fun cv y H'=>Ex cv y σ H') :
  wpAny (model X.prog X.w) X.A (call (.ref C) us) (EP X pins σ Q) X.xe s:=by
 have hq:=h (s.heap.objs.size+1) s.heap.objs.size (I.hok.fresh (Nat.le_succ _)) (I.hok.fresh (Nat.le_refl _)) (Nat.ne_of_lt (Nat.lt_succ_self _))
 have I2:=Inv.made (C:=C) I
 have r2:Vals (V.ref (s.heap.objs.size+1)::vs) (Value.ref (s.heap.objs.size+1)::us):=.cons rfl r
 have hl:((Value.ref (s.heap.objs.size+1)::us)++[]).length=ps.length:=by
  rw[List.append_nil,<- r2.length];exact F.len _ _ _ _ hq
 have bd:=hb _ (Value.ref (s.heap.objs.size+1)::us) I2.fM hl
 rw[List.append_nil] at bd
 refine wpAny_call (yO (f:=f) I.fM M.makes M.init (beq_iff_eq.mp M.fn) (codeAny_mono (F.run _ X.stack _ _ ⟨Value.ref (s.heap.objs.size+1)::us,[]⟩ (Value.ref (s.heap.objs.size+1)::us) _ _ _ (hr.make C us []) (fun z=>nomatch z)
  (I2.kE.make C us []) bd r2 hq) fun r s' hq'=>?_))
 match r,hq' with
 | .error e,hq'=>exact passes hx pins σ _ _ e s' I2 hq'
 | .ok (.ret u),hq' =>
  obtain⟨v,H',I3,rv,ev,q3⟩:=I2.after hq'
  subst ev
  exact⟨rv,⟨V.ref (s.heap.objs.size+1),H',I3,rfl,q3⟩⟩
 | .ok .next,hq'=>exact hq'.elim
 | .ok .brk,hq'=>exact hq'.elim
 | .ok .cont,hq'=>exact hq'.elim
theorem yv(M:Mk X.K C f)(F:bu true X.prog X.w X.K X.mg X.base (fh X.prog X.w) k f fd ps sp)(hr:bR true (k+1) X.A)(hg:Gl X x)(hm:X.mg x=some (.ref C))(hb:Binds X.K fd ps [])(hx:∀e s,iO X Ex e s->X.xe e s)
  (ha:PA X (e::es) t) (hdb:(x == ("__debug__" : Str))=false) (he:starEach (e::es) X.env=(false, eval e X.env)::starEach es X.env) (hpl:(backTo pos (starEach es X.env)).any (·.1)=false) :
  PE X (.Call (.Name x p) (e::es) [] pos) (qH C sp Ex t):=by
 intro pins s σ H Q I h
 refine wpAny_Call_Name_kw (dc I hg hm ?_ hdb)
 refine PySem.W.callWith_K (h₀:=X.base) I.ok.mod.A0 M.kp (aT (ha pos pins s σ H _ I h) fun us s1 ⟨vs,H1,I1,r,q⟩=>⟨I1.fM,?_⟩) he hpl
 exact lU M F hr hb hx I1 r q
theorem vL(M:Mk X.K C f)(F:bu true X.prog X.w X.K X.mg X.base (fh X.prog X.w) k f fd ps sp)(hr:bR true (k+1) X.A)(hg:Gl X x)(hm:X.mg x=some (.ref C))(hb:Binds X.K fd ps [])(hx:∀e s, iO X Ex e s->X.xe e s)(hdb:(x == ("__debug__" : Str))=false) :
  PE X (.Call (.Name x p) [] [] pos) (qH C sp Ex gI):=by
 intro pins s σ H Q I h
 refine wpAny_Call_Name_kw (dc I hg hm ?_ hdb)
 exact PySem.W.callWith_K0 I.fM M.kp (lU (us:=[]) M F hr hb hx I .nil h)
theorem yu{f:Addr}(M:Mk X.K C f)(hg:Gl X x)(hm:X.mg x=some (.ref C))(ha:PA X (e::es) t)(hdb:(x == ("__debug__" : Str))=false)(he:starEach (e::es) X.env=(false, eval e X.env)::starEach es X.env)(hpl:(backTo pos (starEach es X.env)).any (·.1)=false) :
  PE X (.Call (.Name x p) (e::es) [] pos) (fun σ H _=>t σ H fun _ _=>False):=by
 intro pins s σ H Q I h
 refine wpAny_Call_Name_kw (dc I hg hm ?_ hdb)
 exact PySem.W.callWith_K (h₀:=X.base) I.ok.mod.A0 M.kp (aT (ha pos pins s σ H _ I h) fun us s1 ⟨vs,H1,I1,r,q⟩=>q.elim) he hpl
theorem qC{i c:Int}{acc:Array Value}{n:Nat}(h:ItemsOf (fun (j:Nat) v=>∃t,v=.int (i+(j:Int)*c) t) acc n):Vals ((List.range n).map fun (j:Nat)=>V.int (i+(j:Int)*c)) acc.toList:=by
 obtain⟨h1,h2⟩:=h
 have gen:∀(l:List Value) (a:Nat),(∀(j:Nat) v,l[j]? = some v->∃t,v=.int (i+((a+j:Nat):Int)*c) t)->Vals ((List.range' a l.length).map fun (j:Nat)=>V.int (i+(j:Int)*c)) l:=by
  intro l
  induction l with
  | nil=>intro a _;exact .nil
  | cons v l ih =>
   intro a q
   obtain⟨t,e⟩:=q 0 v rfl
   refine .cons ⟨t,?_⟩ (ih (a+1) fun j w hw=>?_)
   ·rw[e];simp
   ·obtain⟨t,e⟩:=q (j+1) w (by simpa using hw)
    exact⟨t,by rw[e];congr 4;omega⟩
 have:=gen acc.toList 0 fun j v hv=>by
  have:=h2 j v (by simpa using hv)
  simpa using this
 rw[<- h1,List.range_eq_range']
 simpa using this
end
end Fg
end
section
namespace Fg
open PySem PySem.Spec PySem.W PySem.Builtin.ObjectAttr PySem.Builtin.Getset_descriptor PySem.Builtin L2
structure AN(K:Frag)(C:Addr):Prop where
 ga:findIn K (.ref C) "__getattribute__" = some (some (.builtin "BaseException.__getattribute__"))
 gt:findIn K (.ref C) "__getattr__" = some none
 cl:findIn K (.ref C) "__class__" = some (some (.builtin "object.__class__"))
 sp:specialIn K (.builtin "object.__class__") "__get__" = some (some (.builtin "getset_descriptor.__get__"))
 tk:takesIn K (.builtin "object.__class__")=some true
 mo:mroIn K C (.type "object")=some true
 mb:mroIn K C (.type "BaseException")=some true
 ty:(clsIn K C).isSome=true
section
variable{prog:Program}{w:World}{A:Around}{E:Value->Shared->Prop}{h:Heap}{g:Array GenState}{d:Drawn}{t:Nat}{os:OsState}{K:Frag}{a C:Addr}{o:Obj}
theorem oA{M:Model}(hx:h.get? a=some o)(hc:o.cls=.ref C):Looks M h (typeOf (.ref a)) (.ref C):=hc ▸ (Looks.ld hx).andThen .now
theorem Fz{R:Result->Shared->Prop}{tp:Value}(Z:AN K C)(X:K.In h)(hx:h.get? a=some o)(hc:o.cls=.ref C)(hq:R (.ok (.ret (.ref C))) ⟨h,g,d,t,os⟩) :
  codeAny (model prog w) A (.call (.builtin "getset_descriptor.__get__") ⟨[.builtin "object.__class__", .ref a, tp], []⟩) R ⟨h, g, d, t, os⟩:=by
 have L0:=oA (M:=model prog w) hx hc
 have L1:=looks_mroIn (M:=model prog w) X Z.mo
 refine codeAny_call_builtin KF.slot_gs.plain KF.entry_gs (KF.slot_gs.check _ _ _ _ _ _ _ _ KF.type_class (KF.args_gs _ _ _) ?_)
 unfold Builtin.«getset_descriptor.__get__» descrGet
 rw[dga_obj]
 refine wpAny_bind (wpAny_pure ?_)
 unfold descrGetter descrCheckInstance descrNameAndClass isInstance
 simp only[KF.owner_class]
 repeat lk
 refine⟨Code.quiet_builtin _ (by decide +kernel),codeAny_builtin KF.entry_class ?_⟩
 unfold Builtin.«object.__class__» shownTypeOf
 repeat lk
 exact hq
theorem Be{M:Model}(Z:AN K C)(X:K.In h)(hx:h.get? a=some o)(hc:o.cls=.ref C):Looks M h (find (.ref a) (.ref C) "__class__") (.bind (.builtin "getset_descriptor.__get__") (.builtin "object.__class__")):=by
 have L1:=looks_findIn (M:=M) X Z.cl
 have L2:Looks M h (getOf (some (.builtin "object.__class__"))) (some (.builtin "getset_descriptor.__get__")):=looks_specialIn X Z.sp
 have L3:=looks_takesIn (M:=M) X Z.tk
 refine L1.andThen (L2.andThen ?_)
 exact (show Looks M h (dataDescriptor? (some (.builtin "object.__class__")) (some (.builtin "getset_descriptor.__get__"))) (some (.builtin "getset_descriptor.__get__", .builtin "object.__class__")) from L3.andThen .now).andThen (Looks.tag .now)
theorem w6{M:Model}{nameV:Value}{Q:Unit->Shared->Prop}(Z:AN K C)(X:K.In h)(hx:h.get? a=some o)(hc:o.cls=.ref C)(hq:Q () ⟨h,g,d,t,os⟩) :
  wpAny M A (checkBuiltinCall "BaseException.__getattribute__" ⟨[.ref a, nameV], []⟩) Q E ⟨h, g, d, t, os⟩:=by
 have hk:builtinKind "BaseException.__getattribute__" = some .slot:=by decide +kernel
 have hsplit:splitId "BaseException.__getattribute__" = some ("BaseException", "__getattribute__"):=by decide +kernel
 have L0:=oA (M:=M) hx hc
 have L1:=looks_mroIn (M:=M) X Z.mb
 have ha:=F.args_bexc_ga (.ref a) nameV
 simp only[checkBuiltinCall,hk,hsplit]
 refine wpAny_bind ?_
 ·unfold isInstance
  refine wpAny_bind (L0.at (L1.at ?_))
  repeat (any_goals (first | assumption | wp_step))
theorem w5{tk:Tok}{Q:Fin->Shared->Prop}(Z:AN K C)(X:K.In h)(hx:h.get? a=some o)(hc:o.cls=.ref C)(hq:Q (.done (.ret (.ref C))) ⟨h,g,d,t,os⟩) :
  wpAny (model prog w) A (Builtin.«object.__getattribute__» ⟨[.ref a, .str "__class__" tk], []⟩) Q E ⟨h, g, d, t, os⟩:=by
 have L0:=oA (M:=model prog w) hx hc
 have L1:=Be (M:=model prog w) Z X hx hc
 unfold Builtin.«object.__getattribute__»
 repeat (any_goals (first | assumption | with_reducible refine wpAny_bind (L0.at ?_) | with_reducible refine wpAny_bind (L1.at ?_) | wp_step))
 refine Fz Z X hx hc ?_
 repeat (any_goals (first | assumption | wp_step))
theorem JT{tk:Tok}{fill expr:Bool}{Q:Value->Shared->Prop}(Z:AN K C)(X:K.In h)(hx:h.get? a=some o)(hc:o.cls=.ref C)(hq:Q (.ref C) ⟨h,g,d,t,os⟩) :
  wpAny (model prog w) A (getAttrBy (.ref a) (.str "__class__" tk) fill expr) Q E ⟨h, g, d, t, os⟩:=by
 have FB:=PySem.F.excAttr_ValueError
 have f3:=FB.ga.bind (.ref a)
 have L0:=oA (M:=model prog w) hx hc
 have L1:=looks_findIn (M:=model prog w) X Z.ga
 have L2:=looks_findIn (M:=model prog w) X Z.gt
 have hx0:(expr&&onTheHeap (Value.builtin "BaseException.__getattribute__"))=false:=by cases expr <;> rfl
 have hx2:(Value.builtin "BaseException.__getattribute__" == Value.builtin "object.__getattribute__")=false:=by decide +kernel
 have hx1:(onTheHeap (Value.ref C)&&Value.builtin "BaseException.__getattribute__" == Value.builtin "object.__getattribute__")=false:=by rw[hx2];rfl
 repeat (any_goals (first | assumption | with_reducible refine wpAny_bind (L0.at ?_) | with_reducible refine wpAny_bind (L1.at ?_) | with_reducible refine wpAny_bind (L2.at ?_) | wp_step))
 refine codeAny_call_builtin FB.ga.plain F.entry_bexc_ga (w6 Z X hx hc (w5 Z X hx hc ?_))
 repeat (any_goals (first | assumption | wp_step))
theorem Hx(Z:AN K C):KitX K (.ref a) (.ref C) (Jp a C) where
 ty:=fun _ _ _ ⟨_,hx,hc⟩=>oA hx hc
 it:=fun _ _ X _=>by
  have z:=Z.ty
  unfold clsIn at z
  split at z
  ·rename_i ho
   intro A' Q' E' s' k q
   unfold isType loadHead
   exact wpAny_bind (wpAny_loadPart (k _ _ (X _ _ ho)) (wpAny_pure q))
  ·cases z
 ne:=fun h tp dd its n sl X htp=>by
  have z:=Z.ty
  refine Bool.eq_false_iff.mpr fun q=>?_
  have e:C=tp:=Value.ref.inj (beq_iff_eq.mp q)
  subst e
  unfold clsIn at z
  split at z
  ·rename_i ho
   cases (X _ _ ho).symm.trans htp
  ·cases z
 ca:=fun {prog w A E Q s} X ⟨o,hx,hc⟩ k=>by
  obtain⟨h,g,d,t,os⟩:=s
  unfold getAttr? getAttrBy?
  exact wpAny_bind (wpAny_mkText (wpAny_bind (wpAny_attempt (JT Z X hx hc (wpAny_pure k)))))
end
noncomputable def KJ(K:Frag)(v:V):List V->Hp->VK->Prop:=fun xs H Q=>∃a C c b,xs=[.ref a,v]/\(∃oe,H a=some (.dP oe (.ext (Jp a C))))/\AN K C/\(∀u,RelV v u->u=c)/\kitOne K (.ref C) c=some b/\Q (.bl b) H
theorem qg{X:Cx}{v:V}:cG X (.builtin "isinstance") (KJ X.K v):=by
 intro pins s σ H xs us Q I r h
 obtain⟨a,C,c,b,rfl,⟨oe,hH⟩,Z,hv,k,q⟩:=h
 cases r with
 | cons rx r=>cases r with
  | cons rt r =>
   cases r
   cases (show _=Value.ref a from rx)
   cases hv _ rt
   obtain⟨_,xo,_⟩:=(show aS X.prog X.w H s.heap a (.dP oe (.ext (Jp a C))) from I.hok a _ hH)
   exact kia_one (Hx Z) I.fM xo k (fun z=>nomatch z) fun tk=>⟨.bl b,H,I.tok _,rfl,q⟩
section
variable{B:Bd}{Φ:aZ}{E:Gx}{σ:L2.St}{H:Hp}{Q:VK}
theorem tH{a:Fg.E}{c:Option Nat}{v:V}{cv:Value}(hv:∀u,RelV v u->u=cv)(hk:∀d D,B.AV d=some D->AN B.K D/\kitOne B.K (.ref D) cv=some (match c with | some c=>Φ.sub d c | none=>true))(h:T B Φ E (.jh a c) σ H Q) :
  Eb (KJ B.K v) (bG (T B Φ E a) (bG (tC v) gI)) σ H Q:=by
 obtain⟨σD,M,F,ρ,S,r,h⟩:=h
 simp only[ev] at h
 refine T.one S r rfl h fun x M1 F1 ρ1 H1 v' e1 S1 r1 rx h1=>?_
 split at h1
 ·rename_i d
  simp only[RD] at rx
  obtain⟨p,D,oe,rfl,h2,h3,h4⟩:=rx
  obtain⟨z,k⟩:=hk d D h2
  exact⟨p,D,cv,_,rfl,⟨oe,h4⟩,z,hv,k,ai.run h1 S1 (by rfl)⟩
 ·exact h1.elim
end
end Fg
end
section
namespace Fg
open PySem PySem.Spec L2
section
variable{B:Bd}{Φ:aZ}{E:Gx}{F F' F0 F1:Addr->Prop}{ρ ρ' ρ0 ρ1:List Addr}{H H' H0 H1:Hp}{M M' M0:MH}{σD:Sg}{σ:L2.St}{Q:VK}{Dn:Ends}
end
end Fg
end
section
namespace Fg
open PySem PySem.Spec L2
section
variable{X:Cx}{B:Bd}{pins:List (Addr×Obj)}{σ:L2.St}{H H':Hp}{s:Shared}
noncomputable def D4(X:Cx):Addr->Prop:=fun a=>∀o u,X.H₀ a≠some (.dP o u)
theorem dU(I:Inv X pins σ H s)(h:A6 (D4 X) H H'):Inv X pins σ H' s:=by
 rcases h with rfl | ⟨a,o,kvs,th,ha,rfl⟩
 ·exact I
 have ne:∀b,H b=none->b≠a:=fun b q z=>by subst z;rw[ha] at q;cases q
 refine⟨I.ok,I.os,I.bare,⟨I.base.keep,I.base.slot,fun b ob e n hx=>?_,I.base.there,fun b xs e=>?_,fun b ob u e=>?_,fun b ps e=>?_⟩,I.loc,I.cell,?_,fun x c e=>?_,fun p hp=>?_,fun b u e=>?_,I.len⟩
 ·have:=I.base.free b ob e n hx
  rw[ak (ne b this)];exact this
 ·have:=I.base.tups b xs e
  rw[ak (by rintro rfl;rw[ha] at this;cases this)];exact this
 ·have:=I.base.dF b ob u e
  rw[ak (by rintro rfl;exact th ob u e)];exact this
 ·obtain⟨more,q⟩:=I.base.gb b ps e
  exact⟨more,by rw[ak (by rintro rfl;rw[ha] at q;cases q)];exact q⟩
 ·rw[ak (ne _ I.free)];exact I.free
 ·rw[ak (ne _ (I.bM x c e))];exact I.bM x c e
 ·obtain⟨h1,h2,h3⟩:=I.pin p hp
  exact⟨h1,by rw[ak (ne _ h2)];exact h2,h3⟩
 ·by_cases hb:b=a
  ·subst hb
   rw[av] at e;cases e
   exact (I.hok b _ ha).2
  ·rw[ak hb] at e
   exact (I.hok b u e).stay (fun _ _ _ q=>q) (fun c q=>by rw[ak (by rintro rfl;rw[ha] at q;cases q)];exact q) fun c xs q=>by rw[ak (by rintro rfl;rw[ha] at q;cases q)];exact q
theorem Ck{e:Expr}{t:TE}(h:PE X e t):PE X e (fun σ H Q=>t σ H fun v H'=>∃sG,A6 (D4 X) H' sG/\Q v sG):=by
 intro pins s σ H Q I q
 refine aT (h pins s σ H _ I q) fun u s' ⟨v,H',I',r,sG,t',q'⟩=>⟨v,sG,dU I' t',r,q'⟩
theorem tY{st:Stmt}{t:TS}(h:PS X st t):PS X st (fun D σ H=>t (thE (D4 X) D) σ H):=by
 intro pins s σ H D I q
 refine aT (h pins s σ H _ I q) fun f s' q'=>?_
 cases f with
 | next=>obtain⟨σ',H',I',sG,t',q'⟩:=q';exact⟨σ',sG,dU I' t',q'⟩
 | brk=>obtain⟨σ',H',I',sG,t',q'⟩:=q';exact⟨σ',sG,dU I' t',q'⟩
 | cont=>obtain⟨σ',H',I',sG,t',q'⟩:=q';exact⟨σ',sG,dU I' t',q'⟩
 | ret u=>obtain⟨v,σ',H',I',r,sG,t',q'⟩:=q';exact⟨v,σ',sG,dU I' t',r,q'⟩
theorem CN{k:Key}{u:Value}(h:j7 k u=true):RelV (kV k) u:=by
 rcases aL h with ⟨i,t,rfl,rfl⟩ | ⟨x,t,rfl,rfl⟩
 ·exact⟨t,rfl⟩
 ·exact⟨t,rfl⟩
theorem Hw{kvs:List (Key×V)}{vs:List (Key×Value)}(h:KV kvs vs){i:Nat}{kv:Key×V}(e:kvs[i]? = some kv):∃w,vs[i]? = some (kv.1,w):=by
 induction h generalizing i with
 | nil=>simp at e
 | @cons p q ps qs hpq _ ih =>
  cases i with
  | zero =>
   simp only[List.getElem?_cons_zero,Option.some.injEq] at e ⊢
   subst e
   exact⟨q.2,by rw[hpq.1]⟩
  | succ i=>simpa using ih (by simpa using e)
noncomputable def epO(o:Obj)(n:Nat):Prop:=∃es,o.data=.dict es n
theorem vo{P:Program}{w:World}{K:PySem.W.Frag}{tg:Expr}(a it:Addr)(o:Obj)(kvs:List (Key×V))(ep:Nat)(he:epO o ep):Turn false P w K tg (MM a o kvs) [it] it (fun i h=>h.IsKeyIter it a i kvs.length ep) where
 mem:=by simp
 obj:=fun i h st b hb=>by
  have e:b=it:=by simpa using hb
  subst e
  obtain⟨o,e,c,d⟩:=st
  exact⟨o,e,fun v z=>by rw[d] at z;cases z⟩
 keep:=fun i h h' st k=>st.at fun o e=>k it (by simp) o e
 item:=by
  intro X hP hw hK hc i pins s σ H E I hf st hg
  subst hP hw hK
  obtain⟨hH,hi⟩:=hg
  obtain⟨ho,z,hm,vs,rel,dd⟩:=(show aS X.prog X.w H s.heap a (.dP o (.dK kvs)) from I.hok a _ hH)
  obtain⟨o',es,LW,h1,h2,h3,h4⟩:=id dd
  rw[ho] at h1;cases h1
  obtain⟨es',hd'⟩:=he
  rw[hd'] at h3;cases h3
  have dat:s.heap.DictAt (aI X.prog X.w) a vs ep:=⟨o,es,ho,h2,hd',h4⟩
  have hx:kvs[i]? = some kvs[i]:=List.getElem?_eq_getElem hi
  obtain⟨wv,hv⟩:=Hw rel hx
  obtain⟨f0,f1,f2,f3,f4,f5⟩:=hf it (by simp)
  have hl:kvs.length=vs.length:=rel.length
  rw[hl] at st
  refine wpAny_pyNext_dict_item st dat hv fun key h' hk st' sb=>?_
  have I1:Inv X pins σ H { s with heap:=h' }:=I.turned (t':=s.toks) (fun b o hb e=>(sb.2 b hb).trans e) f0 f1 f3 f4 f5
  obtain⟨oi,e,c,d⟩:=id st'
  refine⟨key,rfl,mq (s:={ s with heap:=h' }) e c d (by decide) ⟨kV kvs[i].1,H,I1,CN hk,⟨rfl,kvs[i],hx,rfl⟩,by rw[hl];exact st',fun b hb=>(hf b hb).1⟩⟩
 done:=by
  intro X hP hw hK hc i pins s σ H E I hf st hg
  subst hP hw hK
  obtain⟨hH,hi⟩:=hg
  obtain⟨ho,z,hm,vs,rel,dd⟩:=(show aS X.prog X.w H s.heap a (.dP o (.dK kvs)) from I.hok a _ hH)
  obtain⟨o',es,LW,h1,h2,h3,h4⟩:=id dd
  rw[ho] at h1;cases h1
  obtain⟨es',hd'⟩:=he
  rw[hd'] at h3;cases h3
  have dat:s.heap.DictAt (aI X.prog X.w) a vs ep:=⟨o,es,ho,h2,hd',h4⟩
  have hl:kvs.length=vs.length:=rel.length
  rw[hl] at st
  obtain⟨f0,f1,f2,f3,f4,f5⟩:=hf it (by simp)
  exact wpAny_pyNext_dict_end (I.ok.hd hc) st dat (List.getElem?_eq_none_iff.mpr (by omega)) fun h' eb=>⟨rfl,I.turned (t':=s.toks) (fun b o hb e=>eb b o hb e) f0 f1 f3 f4 f5⟩
 self:=fun _ _ _ _ _ st h=>wpAny_pyIter_keyiter st h
theorem uP{tg:Expr}{R:It->Hp->Prop}{a:Addr}{o:Obj}{kvs:List (Key×V)}{E:Value->Shared->Prop}(hc:X.calm=true)(I:Inv X pins σ H s)(hH:H a=some (.dP o (.dK kvs)))(q:R (MM a o kvs) H):wpAny (model X.prog X.w) X.A (pyIter (.ref a)) (PIE X pins σ tg R) E s:=by
 obtain⟨ho,z,hm,vs,rel,dd⟩:=(show aS X.prog X.w H s.heap a (.dP o (.dK kvs)) from I.hok a _ hH)
 obtain⟨o',es,ep,h1,h2,h3,h4⟩:=id dd
 rw[ho] at h1;cases h1
 have dat:s.heap.DictAt (aI X.prog X.w) a vs ep:=⟨o,es,ho,h2,h3,h4⟩
 have hl:kvs.length=vs.length:=rel.length
 refine wpAny_pyIter_dict hm dat ?_
 refine⟨s.heap.objs.size,[s.heap.objs.size],_,_,H,rfl,I.kept (t':=s.toks) fun b o e=>Heap.get?_push_of_some _ e,⟨false,hc,vo a _ o kvs ep ⟨es,h3⟩⟩,⟨_,Heap.get?_push_size _ rfl,rfl,by rw[hl];rfl⟩,fun b hb=>?_,q⟩
 have e:b=s.heap.objs.size:=by simpa using hb
 subst e
 exact I.pS (Nat.le_refl _) (I.hok.fresh (Nat.le_refl _))
theorem GH{tg l:Expr}{tl:TE}(hc:X.calm=true)(hK:B.K=X.K)(hl:PE X l tl):PI X tg l (Lv B (D4 X) tl):=by
 intro pins s σ H R I h
 refine aT (hl pins s σ H _ I h) fun v s1 ⟨x,H1,I1,r1,q1⟩=>?_
 rw[hK] at q1
 rcases q1 with ⟨a,e,⟨xs,hq⟩,q⟩ | ⟨a,e,⟨xs,hq⟩,q⟩ | ⟨a,kvs,e,hq,q⟩ | ⟨a,o,kvs,e,hq,q⟩
 ·subst e
  cases r1
  obtain⟨its,rv,p,hz⟩:=I1.list hq
  refine wpAny_pyIter_list p.isList ?_
  refine⟨s1.heap.objs.size,[s1.heap.objs.size],_,_,H1,rfl,I1.kept (t':=s1.toks) fun b o e=>Heap.get?_push_of_some _ e,⟨true,.inl hc,lF a _⟩,⟨_,Heap.get?_push_size _ rfl,rfl,rfl⟩,fun b hb=>?_,q⟩
  have e:b=s1.heap.objs.size:=by simpa using hb
  subst e
  exact I1.pS (Nat.le_refl _) (I1.hok.fresh (Nat.le_refl _))
 ·subst e
  cases r1
  obtain⟨its,rv,p,hz⟩:=I1.tuple hq
  refine wpAny_pyIter_tuple (show s1.heap.IsTuple a its.toArray from p) ?_
  refine⟨s1.heap.objs.size,[s1.heap.objs.size],_,_,H1,rfl,I1.kept (t':=s1.toks) fun b o e=>Heap.get?_push_of_some _ e,⟨false,hc,qD a _⟩,⟨_,Heap.get?_push_size _ rfl,rfl,rfl⟩,fun b hb=>?_,q⟩
  have e:b=s1.heap.objs.size:=by simpa using hb
  subst e
  exact I1.pS (Nat.le_refl _) (I1.hok.fresh (Nat.le_refl _))
 ·subst e
  cases r1
  have ob:=(show aS X.prog X.w H1 s1.heap a (.dK kvs) from I1.hok a _ hq)
  obtain⟨z,hm,vs,rel,dd⟩:=id ob
  obtain⟨o,es,ep,h1,h2,h3,h4⟩:=id dd
  have th:D4 X a:=fun w u hz=>by
   have:=I1.base.dF a w u hz
   rw[hq] at this;cases this
  have I2:Inv X pins σ (upd H1 a (.dP o (.dK kvs))) s1:=I1.write (x:=a) (e:=a) (t':=s1.toks) (h':=s1.heap) (by rw[hq];trivial) (.inl rfl) (fun b u _ e=>e) ⟨o,h1⟩ ⟨h1,ob⟩
  exact uP hc I2 av (q o th)
 ·subst e
  cases r1
  exact uP hc I1 hq q
theorem Cb{o i value:Expr}{to ti tv:TE}{pos pos':Pos}(hu:Rm X)(ho:PE X o to)(hi:PE X i ti)(hv:PE X value tv)(hs:swapsWith value (some (.Subscript o i pos')) pos.line X.env=pure false) :
  PS X (.Assign [.Subscript o i pos'] value pos) (Ej to ti tv):=by
 intro pins s σ H D I h
 refine wpAny_Assign_Subscript (aT (hv pins s σ H _ I h) fun r s1 ⟨v,H1,I1,rv,q1⟩=>aT (ho pins s1 σ H1 _ I1 q1) fun u s2 ⟨x,H2,I2,rx,q2⟩=>aT (hi pins s2 σ H2 _ I2 q2) fun iv s3 ⟨y,H3,I3,ry,q3⟩=>?_) hs
 rcases q3 with q3 | ⟨a,H4,ex,g,q3⟩
 ·exact aT (set_list pins s3 σ H3 x y v u iv r _ I3 rx ry rv q3) fun _ s4 ⟨H4,I4,q4⟩=>⟨σ,H4,I4,q4⟩
 ·subst ex
  obtain rfl:u=Value.ref a:=rx
  exact wg (by unfold Rm at hu;omega) I3 g ry rv fun s4 I4=>⟨σ,H4,I4,q3⟩
end
end Fg
end
section
namespace Fg
open PySem PySem.Spec L2
noncomputable def TM(B:Bd)(Φ:aZ)(E:Gx)(c:Es):L2.St->Hp->(Hp->Prop)->Prop:=fun σ H Q=>∃(σD:Sg) (M:MH) (F:Addr->Prop) (ρ:List Addr),
 SR B F ρ M H/\RS B F ρ H σD σ/\ai (fun _ _ _ (_:Unit) (_:Unit)=>True) B (Dg Φ c σD M) F ρ H (fun _ H'=>Q H') (fun cv x H'=>E.e cv x σ H')
section
variable{B:Bd}{Φ:aZ}{E:Gx}{F F' F0 F1:Addr->Prop}{ρ ρ' ρ0 ρ1:List Addr}{H H' H0 H1:Hp}{M M' M0:MH}{σD:Sg}{σ:L2.St}{Dn:Ends}
theorem TM.nil{Q:Hp->Prop}(h:TM B Φ E .nil σ H Q):Q H:=by
 obtain⟨σD,M,F,ρ,S,r,h⟩:=h
 simp only[Dg] at h
 exact ai.run (v:=()) h S True.intro
theorem TM.cons{e:Fg.E}{es:Es}{Q:Hp->Prop}(h:TM B Φ E (.cons e es) σ H Q):T B Φ E e σ H fun v H1=>((∃x:Str,v=.str x/\x.length<=100000)\/∃i:Int,v=.int i/\i.natAbs<18446744073709551616)/\TM B Φ E es σ H1 Q:=by
 obtain⟨σD,M,F,ρ,S,r,h⟩:=h
 simp only[Dg] at h
 refine⟨σD,M,F,ρ,S,r,ai.imp (ai.bind (rel:=RD B) h) fun v H1 ⟨x,M1,F1,ρ1,e1,S1,rx,h1⟩=>?_⟩
 split at h1
 ·rename_i hs
  cases x with
  | str y =>
   simp only[RD] at rx
   simp only[dj,decide_eq_true_eq] at hs
   exact⟨.inl ⟨y,rx,hs⟩,σD,M1,F1,ρ1,S1,r.mono e1,h1⟩
  | aq=>simp[dj] at hs
  | bl _=>simp[dj] at hs
  | int i =>
   simp only[RD] at rx
   simp only[dj,decide_eq_true_eq] at hs
   exact⟨.inr ⟨i,rx,hs⟩,σD,M1,F1,ρ1,S1,r.mono e1,h1⟩
  | _=>simp[dj] at hs
 ·exact h1.elim
end
inductive PJ(X:Cx)(B:Bd)(Φ:aZ)(E:Gx):List Expr->Es->Prop
 | nil:PJ X B Φ E [] .nil
 | lit {y:Str} {j:Nat} {p:Pos} {r:List Expr} {es:Es}:y.length<=100000->PJ X B Φ E r es->PJ X B Φ E (.Constant (.str y) j p::r) es
 | fld {v:Expr} {p:Pos} {r:List Expr} {e:Fg.E} {es:Es}:PE X v (T B Φ E e)->PJ X B Φ E r es->PJ X B Φ E (.FormattedValue v (-1) none p::r) (.cons e es)
theorem l8{i:Int}(h:i.natAbs<18446744073709551616):i.natAbs.log2<1920:=by
 by_cases h0:i.natAbs=0
 ·rw[h0];decide
 ·exact Nat.lt_of_lt_of_le ((Nat.log2_lt h0).mpr (show i.natAbs<2 ^ 64 from h)) (by decide)
theorem v5{i:Int}(h:i.natAbs<18446744073709551616):(Str.ofString (toString i)).length<=100000:=by
 have e:=int_text_length_le (k:=1920) (by decide) (l8 h)
 rw[ofString_length];omega
section
variable{X:Cx}{B:Bd}{Φ:aZ}{E:Gx}
theorem PJ.run{ps:List Expr}{es:Es}(h:PJ X B Φ E ps es):∀{pins:List (Addr×Obj)} {s:Shared} {σ:L2.St} {H:Hp} {Q:Hp->Prop} {out:Str},Inv X pins σ H s->out.length+100000*ps.length<=sizeLine->TM B Φ E es σ H Q ->
  wpAny (model X.prog X.w) X.A (joinParts out (evalEach ps X.env)) (EP X pins σ fun v H'=>∃y,v=.str y/\Q H') X.xe s:=by
 induction h with
 | nil =>
  intro pins s σ H Q out I hl q
  refine PyProof.Rows.joinParts_nil ⟨.str out,H,I.tok _,⟨_,rfl⟩,out,rfl,q.nil⟩ (by simpa using hl)
 | lit hy _ ih =>
  rename_i y j p r es _
  intro pins s σ H Q out I hl q
  simp only[List.length_cons] at hl
  refine PyProof.Rows.joinParts_cons ?_
  refine aT (qY pins s σ H (fun v H'=>v=.str y/\H'=H) I ⟨rfl,rfl⟩) fun u s1 ⟨v,H1,I1,rv,e1,e2⟩=>?_
  subst e1 e2
  obtain⟨t,rfl⟩:=rv
  have hlen:(out++y).length<=out.length+100000:=by rw[strLen_append];omega
  exact⟨by omega,ih I1 (by omega) q⟩
 | fld hv _ ih =>
  intro pins s σ H Q out I hl q
  simp only[List.length_cons] at hl
  refine PyProof.Rows.joinParts_cons (PyProof.Rows.FormattedValue_plain ?_)
  refine aT (hv pins s σ H _ I q.cons) fun u s1 ⟨v,H1,I1,rv,e0,q1⟩=>?_
  rcases e0 with ⟨x,e1,e2⟩ | ⟨i,e1,e2⟩
  ·subst e1
   obtain⟨t,rfl⟩:=rv
   refine PyProof.Rows.formatField_str (fun t' tk=>?_) (by omega)
   have hlen:(out++x).length<=out.length+100000:=by rw[strLen_append];omega
   exact⟨by omega,ih (I1.tok tk) (by omega) q1⟩
  ·subst e1
   obtain⟨t,rfl⟩:=rv
   refine PyProof.Rows.formatField_int_small (l8 e2) ?_
   have hlen:(out++Str.ofString (toString i)).length<=out.length+100000:=by rw[strLen_append];have:=v5 e2;omega
   exact⟨by omega,ih (I1.tok _) (by omega) q1⟩
theorem GN{ps:List Expr}{es:Es}{pos:Pos}(h:PJ X B Φ E ps es)(h2:2<=ps.length)(hl:ps.length<=100):PE X (.JoinedStr ps pos) (fun σ H Q=>TM B Φ E es σ H fun H'=>∀y:Str,Q (.str y) H'):=by
 intro pins s σ H Q I q
 match ps,h2,h,hl with
 | v₁::v₂::rest,_,h,hl =>
  refine PyProof.Rows.JoinedStr_many ?_
  refine wpAny_mono (h.run (Q:=fun H'=>∀y:Str,Q (.str y) H') I (by
   show 0+100000*(v₁::v₂::rest).length<=2 ^ 24
   omega) q) (fun u s1 ⟨v,H1,I1,rv,y,e,q1⟩=>⟨v,H1,I1,rv,by rw[e];exact q1 y⟩) fun _ _ z=>z
end
section
variable{B:Bd}{Φ:aZ}{E:Gx}{F F' F0 F1:Addr->Prop}{ρ ρ' ρ0 ρ1:List Addr}{H H' H0 H1:Hp}{M M' M0:MH}{σD:Sg}{σ:L2.St}{Dn:Ends}
theorem lQ{c:Nat}{es:Es}{C:Addr}(hc:B.exc c (.ref C))(h:TC B Φ E (.raise c es) Dn σ H):TM B Φ E es σ H fun H'=>E.e (.ref C) none σ H':=by
 obtain⟨σD,M,F,ρ,S,r,h⟩:=h
 simp only[ex] at h
 refine⟨σD,M,F,ρ,S,r,ai.imp (aK.use (rel:=fun _ _ _ (_:Unit) (_:Unit)=>True) r h) fun v H1 ⟨x,M1,F1,ρ1,e,S1,rx,h1⟩=>?_⟩
 exact aK.run h1 S1 σ _ none (r.mono e) hc
theorem RS.unset(r:RS B F ρ H σD σ)(i:Nat):RS B F ρ H (σD.set i none) (σ.set i none):=by
 refine⟨by simp[r.1],fun j d q=>?_⟩
 rw[List.getElem?_set] at q
 split at q
 ·split at q <;> cases q
 ·rename_i hj
  rw[List.getElem?_set_ne hj]
  exact r.2 j d q
theorem pC{E':Gx}{f:Sg->Sg}{g:L2.St->L2.St}(hf:∀{F ρ H σD σ},RS B F ρ H σD σ->RS B F ρ H (f σD) (g σ)){r:R Out}(h:aK B (JC f r) F ρ H Dn E):aK B r F ρ H { nx:=fun σ' H'=>Dn.nx (g σ') H',rt:=fun _ _=>False } E':=by
 cases r with
 | bad=>exact h
 | exc c M=>exact h
 | ok o M =>
  cases o with
  | nx σ1=>exact fun F1 ρ1 H1 e S σ' r=>h F1 ρ1 H1 e S _ (hf r)
  | rt d=>exact h.elim
  | bk σ1=>exact h.elim
  | ct σ1=>exact h.elim
  | xc c σ1=>exact h.elim
noncomputable def DT(A:Around)(B:Bd)(Φ:aZ)(E:Gx)(adr:Nat->Option Addr):Hs->Option (List (Addr×TX))
 | .nil=>some []
 | .cons [c] b hs=>match adr c,DT A B Φ E adr hs with
  | some C,some r=>some ((C,fun _ D σ H=>qm B Φ E b { nx:=D.nx,rt:=fun _ _=>False } σ H)::r)
  | _,_=>none
 | .cons _ _ _=>none
 | .as c i b hs=>match adr c,DT A B Φ E adr hs with
  | some C,some r=>some ((C,asR i fun e D σ H=>HX (A.mark (some e)) H/\qm B Φ E b D σ H)::r)
  | _,_=>none
theorem mV{A:Around}{E':Gx}{adr:Nat->Option Addr}{mro:List Value}{c:Nat}{Cx:Addr}(hsub:∀d D,adr d=some D->mro.contains (.ref D)=Φ.sub c d)(hx:B.AV c=some Cx):∀{hs:Hs} {rs:List (Addr×TX)},DT A B Φ E' adr hs=some rs->SR B F ρ M H->RS B F ρ H σD σ->aK B (uD Φ hs c σD M) F ρ H Dn E ->
  ∃t,pick mro rs=some t/\t Cx Dn σ H
 | .nil,rs,h,S,r,p=>by simp only[uD] at p;exact p.elim
 | .cons cs b hs,rs,h,S,r,p=>by
  unfold DT at h
  split at h
  ·rename_i heq;cases heq
  ·rename_i c' b' hs' heq
   cases heq
   split at h
   ·rename_i C r' hC hr
    cases h
    simp only[uD,List.any_cons,List.any_nil,Bool.or_false] at p
    simp only[pick,hsub _ _ hC]
    split at p
    ·rename_i hq
     rw[if_pos hq]
     exact⟨_,rfl,σD,M,F,ρ,S,r,pC (g:=id) (fun z=>z) p⟩
    ·rename_i hq
     rw[if_neg hq]
     exact mV hsub hx hr S r p
   ·cases h
  ·cases h
  ·rename_i heq;cases heq
 | .as c' i b hs,rs,h,S,r,p=>by
  unfold DT at h
  split at h
  ·rename_i C r' hC hr
   cases h
   simp only[uD] at p
   simp only[pick,hsub _ _ hC]
   split at p
   ·rename_i hq
    rw[if_pos hq]
    refine⟨_,rfl,fun a oe vs ha hd hv=>⟨⟨a,oe,_,vs,rfl,av,hd,hv⟩,?_⟩⟩
    obtain⟨S',e⟩:=S.fz ha (.dP oe (.ext (Jp a Cx)))
    refine⟨_,M,_,ρ,S',(r.mono e).set (d:=.g7 c) (v:=.ref a) (by simp only[RD];exact⟨a,Cx,oe,rfl,hx,.inr rfl,av⟩) i,pC (g:=fun σ=>σ.set i none) (fun z=>z.unset i) (aK.weak e p)⟩
   ·rename_i hq
    rw[if_neg hq]
    exact mV hsub hx hr S r p
  ·cases h
end
end Fg
end
section
namespace Fg
open PySem PySem.Spec L2
noncomputable def gq(l:Bool)(h:Heap)(it a:Addr)(k:Nat):Prop:=match l with | true=>h.IsListIter it a k | false=>h.IsTupleIter it a k
noncomputable def dN(l:Bool)(h:Heap)(a:Addr)(xs:Array Value):Prop:=match l with | true=>h.IsList a xs | false=>h.IsTuple a xs
theorem gq.at{l:Bool}{h h':Heap}{it a:Addr}{k:Nat}(x:gq l h it a k)(e:∀o,h.get? it=some o->h'.get? it=some o):gq l h' it a k:=by
 cases l <;> (obtain⟨o,h1,h2⟩:=x;exact⟨o,e o h1,h2⟩)
theorem dN.at{l:Bool}{h h':Heap}{a:Addr}{xs:Array Value}(x:dN l h a xs)(e:∀o,h.get? a=some o->h'.get? a=some o):dN l h' a xs:=by
 cases l <;> (obtain⟨o,h1,h2⟩:=x;exact⟨o,e o h1,h2⟩)
section
variable{prog:Program}{w:World}{A:Around}{E:Value->Shared->Prop}{s:Shared}
theorem xm{it t:Addr}{i:Nat}{xs:Array Value}{v:Value}{Q:Value->Shared->Prop}(vY:s.heap.IsTupleIter it t i)(tp:s.heap.IsTuple t xs)(hv:xs[i]? = some v)
  (k:∀h',h'.IsTupleIter it t (i+1)->Heap.SameBut it s.heap h'->Q v { s with heap:=h' }):wpAny (model prog w) A (Builtin.SmallTypes.nextOf (.ref it)) Q E s:=by
 obtain⟨oi,gi,ci,di⟩:=id vY
 obtain⟨ot,gt,_,nt,dt⟩:=tp
 unfold Builtin.SmallTypes.nextOf;refine wpAny_bind (wpAny_callSpecial?_slot (name:=Str.ofString "__next__") vY.typeIs F.slot_tuple_iterator_next (wpAny_call_entry F.slot_tuple_iterator_next vY.typeIs F.entry_tuple_iterator_next ?_ (F.args_tuple_iterator_next_1 _)))
 show wpAny _ _ (field (.ref it) 0 >>= _) _ _ s;refine wpAny_bind (wpAny_field gi di (x:=.ref t) rfl ?_)
 show wpAny _ _ (if (Value.ref t == Value.none)=true then _ else _) _ _ s;rw[if_neg (show ¬ ((Value.ref t == Value.none)=true) from Bool.false_ne_true)]
 show wpAny _ _ (field (.ref it) 1 >>= _) _ _ s;refine wpAny_bind (wpAny_field gi di (x:=.int i 0) rfl ?_)
 show wpAny _ _ (seqItems? (.ref t) >>= _) _ _ s;refine wpAny_bind (wpAny_seqItems gt dt ?_)
 simp only[Int.toNat_natCast,hv];refine wpAny_bind (wpAny_setField gi di (by simp) (wpAny_pure ⟨v,rfl,wpAny_pure (k _ ?_ (Heap.SameBut.update ..))⟩))
 exact⟨_,Heap.get?_update_self _ gi (Obj.isFreed_of_fields (Obj.data_mapFields di _)),(Obj.cls_mapFields ..).trans ci,by rw[Obj.data_mapFields di];simp[rawInt]⟩
theorem xj{it t:Addr}{i:Nat}{xs:Array Value}{Q:Value->Shared->Prop}(hh:A.handled=none)(vY:s.heap.IsTupleIter it t i)(tp:s.heap.IsTuple t xs)(hv:xs[i]? = none)
  (k:∀h' e, Heap.ExtBut it s.heap h'->(∃o, h'.get? e=some o/\o.cls=.type "StopIteration")->E (.ref e) { s with heap:=h' }):wpAny (model prog w) A (Builtin.SmallTypes.nextOf (.ref it)) Q E s:=by
 obtain⟨oi,gi,ci,di⟩:=id vY
 obtain⟨ot,gt,_,nt,dt⟩:=tp
 unfold Builtin.SmallTypes.nextOf;refine wpAny_bind (wpAny_callSpecial?_slot (name:=Str.ofString "__next__") vY.typeIs F.slot_tuple_iterator_next (wpAny_call_entry F.slot_tuple_iterator_next vY.typeIs F.entry_tuple_iterator_next ?_ (F.args_tuple_iterator_next_1 _)))
 show wpAny _ _ (field (.ref it) 0 >>= _) _ _ s;refine wpAny_bind (wpAny_field gi di (x:=.ref t) rfl ?_)
 show wpAny _ _ (if (Value.ref t == Value.none)=true then _ else _) _ _ s;rw[if_neg (show ¬ ((Value.ref t == Value.none)=true) from Bool.false_ne_true)]
 show wpAny _ _ (field (.ref it) 1 >>= _) _ _ s;refine wpAny_bind (wpAny_field gi di (x:=.int i 0) rfl ?_)
 show wpAny _ _ (seqItems? (.ref t) >>= _) _ _ s;refine wpAny_bind (wpAny_seqItems gt dt ?_)
 simp only[Int.toNat_natCast,hv];refine wpAny_bind (wpAny_rule (wpAny_bind (wpAny_setField gi di (by simp) ?_)))
 show wpAny _ _ (newExc (.type "StopIteration") [] >>= _) _ _ _;refine wpAny_bind ?_
 simp only[newExc,newTuple];refine wpAny_bind (wpAny_newObj_type ?_ (by size_fits))
 refine wpAny_bind (m:=firstArgMember _ _) (wpAny_of_eq (a:=Value.none) (by first | rfl | (simp only[firstArgMember];rfl)) ?_);refine wpAny_newObj_type ?_ (by size_fits)
 simp only[raiseNew];refine wpAny_bind (wpAny_handled ?_)
 first | rw[show A.in1.handled=none from hh] | rw[hh]
 refine wpAny_bind (wpAny_pure (wpAny_throw ?_));exact k _ _ (((Heap.SameBut.update ..).extBut.push _).push _) ⟨_,Heap.get?_push_size _ rfl,rfl⟩
theorem fU{l:Bool}{it a:Addr}{i:Nat}{xs:Array Value}{v:Value}{Q:Value->Shared->Prop}(vY:gq l s.heap it a i)(sq:dN l s.heap a xs)(hv:xs[i]? = some v)
  (k:∀h',gq l h' it a (i+1)->Heap.SameBut it s.heap h'->Q v { s with heap:=h' }):wpAny (model prog w) A (Builtin.SmallTypes.nextOf (.ref it)) Q E s:=by
 cases l with
 | true=>exact wpAny_nextOf_list_item vY sq hv k
 | false=>exact xm vY sq hv k
theorem jH{l:Bool}{it a:Addr}{i:Nat}{xs:Array Value}{Q:Value->Shared->Prop}(hh:A.handled=none)(vY:gq l s.heap it a i)(sq:dN l s.heap a xs)(hv:xs[i]? = none)
  (k:∀h' e, Heap.ExtBut it s.heap h'->(∃o, h'.get? e=some o/\o.cls=.type "StopIteration")->E (.ref e) { s with heap:=h' }):wpAny (model prog w) A (Builtin.SmallTypes.nextOf (.ref it)) Q E s:=by
 cases l with
 | true=>exact wpAny_nextOf_list_end hh vY sq hv k
 | false=>exact xj hh vY sq hv k
structure Zp(l m:Bool)(h:Heap)(z TI TO i j a b:Addr)(n:Nat)(xs ys:Array Value)(f:Value):Prop where
 z:IsZip h z TI TO f
 ti:IsPair h TI (.ref i) (.ref j)
 to:∃u v,IsPair h TO u v
 i1:gq l h i a n
 i2:gq m h j b n
 s1:dN l h a xs
 s2:dN m h b ys
theorem wX{l m:Bool}{z TI TO i j a b:Addr}{n:Nat}{xs ys:Array Value}{x y:Value}{Q:Value->Shared->Prop}(D:ZipApart z TI TO i j a b)(Z:Zp l m s.heap z TI TO i j a b n xs ys .none)(hx:xs[n]? = some x)(hy:ys[n]? = some y)
  (k:∀h',Zp l m h' z TI TO i j a b (n+1) xs ys (rawInt s.heap.objs.size)->IsPair h' s.heap.objs.size x y->h'.objs.size=s.heap.objs.size+1->(∀c o,c≠z->c≠TO->c≠i->c≠j->s.heap.get? c=some o->h'.get? c=some o)->Q (.ref s.heap.objs.size) { s with heap:=h' }) :
  wpAny (model prog w) A (Builtin.«zip.__next__» ⟨[.ref z], []⟩) (fun fin s'=>∃v, fin=.done (.ret v)/\Q v s') E s:=by
 obtain⟨gz,gi,⟨u,v,go⟩,t1,t2,q1,q2⟩:=Z
 show wpAny _ _ (field (.ref z) 2 >>= _) _ _ _;refine wpAny_bind (wpAny_field gz rfl (x:=.bool false) rfl ?_)
 show wpAny _ _ (field (.ref z) 3 >>= _) _ _ _;refine wpAny_bind (wpAny_field gz rfl (x:=.ref TI) rfl (wpAny_bind (wpAny_seqItems gi rfl ?_)))
 show wpAny _ _ (Builtin.SmallTypes.ownedTupleIsFree (.ref z) >>= _) _ _ _;refine wpAny_bind ?_
 unfold Builtin.SmallTypes.ownedTupleIsFree;refine wpAny_bind (wpAny_field gz rfl (x:=.none) rfl (wpAny_pure ?_))
 simp only[if_true];refine wpAny_bind (wpAny_rule (wpAny_bind (wpAny_field gz rfl (x:=.ref TO) rfl (wpAny_bind (wpAny_setField_rec gz (by simp) fun h1 z1 b1=>?_)))))
 replace z1:IsZip h1 z TI TO .ellipsis:=z1
 refine wpAny_bind ?_;simp only[List.zipIdx_cons,List.zipIdx_nil,List.forIn_cons,List.forIn_nil]
 refine wpAny_bind (wpAny_bind (wpAny_onRaise ?_));show wpAny _ _ (Builtin.SmallTypes.nextOf (.ref i) >>= _) _ _ _
 refine wpAny_bind (fU (t1.at fun o e=>b1.extBut _ _ D.i1z e) (q1.at fun o e=>b1.extBut _ _ D.l1z e) hx fun h2 t1' b2=>wpAny_pure ?_)
 have go2:IsPair h2 TO u v:=b2.extBut _ _ D.TOi1 (b1.extBut _ _ D.TOz go)
 refine wpAny_bind (wpAny_seqItems go2 rfl (wpAny_bind (wpAny_updateSeq_pair go2 fun h3 ND b3=>wpAny_bind (wpAny_letGo (wpAny_pure ?_)))))
 replace ND:IsPair h3 TO x v:=ND
 refine wpAny_bind (wpAny_bind (wpAny_onRaise ?_));show wpAny _ _ (Builtin.SmallTypes.nextOf (.ref j) >>= _) _ _ _
 refine wpAny_bind (fU (t2.at fun o e=>b3.extBut _ _ D.TOi2.symm (b2.extBut _ _ D.i12.symm (b1.extBut _ _ D.i2z e))) (q2.at fun o e=>b3.extBut _ _ D.l2TO (b2.extBut _ _ D.l2i1 (b1.extBut _ _ D.l2z e))) hy fun h4 t2' b4=>wpAny_pure ?_)
 have go4:IsPair h4 TO x v:=b4.extBut _ _ D.TOi2 ND
 refine wpAny_bind (wpAny_seqItems go4 rfl (wpAny_bind (wpAny_updateSeq_pair go4 fun h5 NC b5=>wpAny_bind (wpAny_letGo (wpAny_pure (wpAny_pure ?_))))))
 replace NC:IsPair h5 TO x y:=NC
 refine wpAny_bind (wpAny_seqItems NC rfl (wpAny_bind (wpAny_newTuple ?_)))
 have sz:h5.objs.size=s.heap.objs.size:=by rw[b5.1,b4.1,b3.1,b2.1,b1.1]
 have z5:IsZip h5 z TI TO .ellipsis:=b5.extBut _ _ D.TOz.symm (b4.extBut _ _ D.i2z.symm (b3.extBut _ _ D.TOz.symm (b2.extBut _ _ D.i1z.symm z1)))
 have k5:∀c o,c≠z->c≠TO->c≠i->c≠j->s.heap.get? c=some o->h5.get? c=some o:=fun c o c1 c2 c3 c4 e=>b5.extBut _ _ c2 (b4.extBut _ _ c4 (b3.extBut _ _ c2 (b2.extBut _ _ c3 (b1.extBut _ _ c1 e))))
 have e1:gq l h5 i a (n+1):=t1'.at fun o e=>b5.extBut _ _ D.TOi1.symm (b4.extBut _ _ D.i12 (b3.extBut _ _ D.TOi1.symm e))
 have e2:gq m h5 j b (n+1):=t2'.at fun o e=>b5.extBut _ _ D.TOi2.symm e
 show wpAny _ _ (Builtin.SmallTypes.ownedTupleHandOut (.ref z) (.ref h5.objs.size) >>= _) _ _ _;refine wpAny_bind ?_
 unfold Builtin.SmallTypes.ownedTupleHandOut
 have z6:IsZip (h5.push { cls:=.type "tuple", data:=.seq #[x, y] }) z TI TO .ellipsis:=Heap.get?_push_of_some _ z5
 refine wpAny_bind (wpAny_setField_rec z6 (by simp) fun h7 z7 b7=>?_)
 replace z7:IsZip h7 z TI TO (rawInt h5.objs.size):=z7
 refine wpAny_setField_rec z7 (by simp) fun h8 z8 b8=>?_
 replace z8:IsZip h8 z TI TO (rawInt h5.objs.size):=z8
 have zl:z<h5.objs.size:=Heap.lt_size z5
 have up:∀c o,c≠z->h5.get? c=some o->h8.get? c=some o:=fun c o c1 e=>b8.extBut _ _ c1 (b7.extBut _ _ c1 (Heap.get?_push_of_some _ e))
 have p8:IsPair h8 h5.objs.size x y:=b8.extBut _ _ (Nat.ne_of_gt zl) (b7.extBut _ _ (Nat.ne_of_gt zl) (Heap.get?_push_size _ rfl))
 have s8:h8.objs.size=h5.objs.size+1:=by rw[b8.1,b7.1,Heap.size_push]
 rw[sz] at z8 p8 s8
 refine wpAny_pure ⟨_,rfl,?_⟩
 show Q (.ref h5.objs.size) _
 rw[sz]
 exact k h8 ⟨z8,up _ _ D.TIz (k5 _ _ D.TIz D.TITO D.TIi1 D.TIi2 gi),⟨_,_,up _ _ D.TOz NC⟩,e1.at fun o e=>up _ _ D.i1z e,e2.at fun o e=>up _ _ D.i2z e,q1.at fun o e=>up _ _ D.l1z (k5 _ _ D.l1z D.l1TO D.l1i1 D.l1i2 e),q2.at fun o e=>up _ _ D.l2z (k5 _ _ D.l2z D.l2TO D.l2i1 D.l2i2 e)⟩ p8 s8 fun c o c1 c2 c3 c4 e=>up c o c1 (k5 c o c1 c2 c3 c4 e)
theorem wV{l m:Bool}{z TI TO i j a b:Addr}{n:Nat}{xs ys:Array Value}{Q:PySem.Fin->Shared->Prop}(hh:A.handled=none)(D:ZipApart z TI TO i j a b)(Z:Zp l m s.heap z TI TO i j a b n xs ys .none)(hn:xs[n]? = none\/ys[n]? = none)
  (k:∀h' e, (∀c o, c≠z->c≠TO->c≠i->c≠j->s.heap.get? c=some o->h'.get? c=some o)->(∃o, h'.get? e=some o/\o.cls=.type "StopIteration")->E (.ref e) { s with heap:=h' }) :
  wpAny (model prog w) A (Builtin.«zip.__next__» ⟨[.ref z], []⟩) Q E s:=by
 obtain⟨gz,gi,⟨u,v,go⟩,t1,t2,q1,q2⟩:=Z
 show wpAny _ _ (field (.ref z) 2 >>= _) _ _ _;refine wpAny_bind (wpAny_field gz rfl (x:=.bool false) rfl ?_)
 show wpAny _ _ (field (.ref z) 3 >>= _) _ _ _;refine wpAny_bind (wpAny_field gz rfl (x:=.ref TI) rfl (wpAny_bind (wpAny_seqItems gi rfl ?_)))
 show wpAny _ _ (Builtin.SmallTypes.ownedTupleIsFree (.ref z) >>= _) _ _ _;refine wpAny_bind ?_
 unfold Builtin.SmallTypes.ownedTupleIsFree;refine wpAny_bind (wpAny_field gz rfl (x:=.none) rfl (wpAny_pure ?_))
 simp only[if_true];refine wpAny_bind (wpAny_rule (wpAny_bind (wpAny_field gz rfl (x:=.ref TO) rfl (wpAny_bind (wpAny_setField_rec gz (by simp) fun h1 z1 b1=>?_)))))
 replace z1:IsZip h1 z TI TO .ellipsis:=z1
 refine wpAny_bind ?_;simp only[List.zipIdx_cons,List.zipIdx_nil,List.forIn_cons,List.forIn_nil]
 refine wpAny_bind (wpAny_bind (wpAny_onRaise ?_));show wpAny _ _ (Builtin.SmallTypes.nextOf (.ref i) >>= _) _ _ _
 have off:∀{h:Heap} {e:Addr}, IsZip h z TI TO .ellipsis->(∃o, h.get? e=some o/\o.cls=.type "StopIteration")->e≠z:=fun g ⟨o, g1, g2⟩ q=>by subst q;rw[g] at g1;cases g1;simp at g2
 cases hx:xs[n]? with
 | none =>
  refine wpAny_bind (jH hh (t1.at fun o e=>b1.extBut _ _ D.i1z e) (q1.at fun o e=>b1.extBut _ _ D.l1z e) hx fun h2 e b2 he=>?_)
  have z2:IsZip h2 z TI TO .ellipsis:=b2 _ _ D.i1z.symm z1
  obtain⟨oe,he1,he2⟩:=id he
  exact wpAny_setField_rec z2 (by simp) fun h3 _ b3=>k h3 e (fun c o c1 _ c3 _ q=>b3.extBut _ _ c1 (b2 _ _ c3 (b1.extBut _ _ c1 q))) ⟨oe,b3.extBut _ _ (off z2 he) he1,he2⟩
 | some x =>
  have hy:ys[n]? = none:=hn.resolve_left (by rw[hx];simp)
  refine wpAny_bind (fU (t1.at fun o e=>b1.extBut _ _ D.i1z e) (q1.at fun o e=>b1.extBut _ _ D.l1z e) hx fun h2 t1' b2=>wpAny_pure ?_)
  have go2:IsPair h2 TO u v:=b2.extBut _ _ D.TOi1 (b1.extBut _ _ D.TOz go)
  refine wpAny_bind (wpAny_seqItems go2 rfl (wpAny_bind (wpAny_updateSeq_pair go2 fun h3 ND b3=>wpAny_bind (wpAny_letGo (wpAny_pure ?_)))))
  refine wpAny_bind (wpAny_bind (wpAny_onRaise ?_));show wpAny _ _ (Builtin.SmallTypes.nextOf (.ref j) >>= _) _ _ _
  refine wpAny_bind (jH hh (t2.at fun o e=>b3.extBut _ _ D.TOi2.symm (b2.extBut _ _ D.i12.symm (b1.extBut _ _ D.i2z e))) (q2.at fun o e=>b3.extBut _ _ D.l2TO (b2.extBut _ _ D.l2i1 (b1.extBut _ _ D.l2z e))) hy fun h4 e b4 he=>?_)
  have z4:IsZip h4 z TI TO .ellipsis:=b4 _ _ D.i2z.symm (b3.extBut _ _ D.TOz.symm (b2.extBut _ _ D.i1z.symm z1))
  obtain⟨oe,he1,he2⟩:=id he
  exact wpAny_setField_rec z4 (by simp) fun h5 _ b5=>k h5 e (fun c o c1 c2 c3 c4 q=>b5.extBut _ _ c1 (b4 _ _ c4 (b3.extBut _ _ c2 (b2.extBut _ _ c3 (b1.extBut _ _ c1 q))))) ⟨oe,b5.extBut _ _ (off z4 he) he1,he2⟩
end
end Fg
end
section
namespace Fg
open PySem PySem.Spec L2
section
variable{X:Cx}{pins:List (Addr×Obj)}{σ:L2.St}{H:Hp}{s:Shared}{h':Heap}
theorem sR{t':Nat}{ch:List Addr}(I:Inv X pins σ H s)(f:∀b∈ch,kP X pins H b)(k:∀b o,b∉ch->s.heap.get? b=some o->h'.get? b=some o):Inv X pins σ H { s with heap:=h',toks:=t' }:=by
 have off:∀b u,H b=some u->b∉ch:=fun b u e z=>by rw[(f b z).1] at e;cases e
 refine I.step (g':=s.gens) (d':=s.drawn) (ch:=ch) (fun b hb=>?_) (fun b o _ _ hc e _=>k b o hc e) (fun b o _ _ hc e _=>⟨o.slots,k b o hc e⟩) (fun _ _ _ _ n=>n) (fun b o hc e=>⟨o,k b o hc e⟩) (fun _ _ e=>e) (fun _ _ _ e=>e) (fun b ps e=>⟨#[],by rw[e];simp⟩) (fun m hm=>?_) (fun b u e=>?_) I.bare
 ·obtain⟨_,f1,_,f3,f4,f5⟩:=f b hb
  exact⟨f3,f1,f4,f5⟩
 ·obtain⟨o,es,ep,ho,r⟩:=hm
  exact⟨o,es,ep,k _ o (fun z=>(f _ z).2.1 rfl) ho,r⟩
 ·refine (I.hok b u e).stay (fun c v hc q=>k c v ?_ q) (fun _ q=>q) fun _ _ q=>q
  rcases hc with z | z
  ·rw[z];exact off b u e
  ·exact off c _ z
end
noncomputable def A1(l:Bool)(a:Addr):Obj:={ cls:=.type (match l with | true=>"list_iterator" | false=>"tuple_iterator"), data:=.fields #[.ref a, .int 0 0] }
noncomputable abbrev JS(h:Heap)(l m:Bool)(a b:Addr):Heap:=(h.push (A1 l a)).push (A1 m b)
noncomputable abbrev JR(h:Heap)(l m:Bool)(a b:Addr):Heap:=(JS h l m a b).push { cls:=.type "tuple", data:=.seq #[.ref h.objs.size, .ref (h.push (A1 l a)).objs.size] }
noncomputable abbrev JQ(h:Heap)(l m:Bool)(a b:Addr):Heap:=(JR h l m a b).push { cls:=.type "tuple", data:=.seq #[.none, .none] }
noncomputable abbrev DZ(h:Heap)(l m:Bool)(a b:Addr):Heap:=(JQ h l m a b).push { cls:=.type "zip", data:=.fields #[.none, .bool false, .bool false, .ref (JS h l m a b).objs.size, .ref (JR h l m a b).objs.size] }
set_option maxHeartbeats 4000000 in
theorem vh(l m:Bool)(a b:Addr)(xs ys:Array Value):Meets (Builtin.«zip.__new__» ⟨[.type "zip", .ref a, .ref b], []⟩) (fun _ R s=>dN l s.heap a xs/\dN m s.heap b ys/\R (.ok (.ret (.ref (JQ s.heap l m a b).objs.size))) { s with heap:=DZ s.heap l m a b }) :=
 .of_wp fun prog w A R s h=>by
  obtain⟨hp,g,d,tk,os⟩:=s
  obtain⟨q1,q2,h⟩:=h
  have hsub:=sub_zip
  have Ez:dN m (hp.push (A1 l a)) b ys:=q2.at fun o e=>Heap.get?_push_of_some _ e
  rcases l with _ | _ <;> rcases m with _ | _ <;> simp only[DZ,JQ,JR,JS,A1] at h
  ·have u1:Heap.IsTuple (Shared.heap ⟨hp,g,d,tk,os⟩) a xs:=q1
   have u2:Heap.IsTuple (Shared.heap ⟨hp.push { cls:=.type "tuple_iterator", data:=.fields #[.ref a, .int 0 0] }, g, d, tk, os⟩) b ys:=Ez
   wp_walk using wpAny_pyIter_tuple u1,wpAny_pyIter_tuple u2
   exact⟨_,rfl,h⟩
  ·have u1:Heap.IsTuple (Shared.heap ⟨hp,g,d,tk,os⟩) a xs:=q1
   have u2:Heap.IsList (Shared.heap ⟨hp.push { cls:=.type "tuple_iterator", data:=.fields #[.ref a, .int 0 0] }, g, d, tk, os⟩) b ys:=Ez
   wp_walk using wpAny_pyIter_tuple u1,wpAny_pyIter_list u2
   exact⟨_,rfl,h⟩
  ·have u1:Heap.IsList (Shared.heap ⟨hp,g,d,tk,os⟩) a xs:=q1
   have u2:Heap.IsTuple (Shared.heap ⟨hp.push { cls:=.type "list_iterator", data:=.fields #[.ref a, .int 0 0] }, g, d, tk, os⟩) b ys:=Ez
   wp_walk using wpAny_pyIter_list u1,wpAny_pyIter_tuple u2
   exact⟨_,rfl,h⟩
  ·have u1:Heap.IsList (Shared.heap ⟨hp,g,d,tk,os⟩) a xs:=q1
   have u2:Heap.IsList (Shared.heap ⟨hp.push { cls:=.type "list_iterator", data:=.fields #[.ref a, .int 0 0] }, g, d, tk, os⟩) b ys:=Ez
   wp_walk using wpAny_pyIter_list u1,wpAny_pyIter_list u2
   exact⟨_,rfl,h⟩
structure Zt(l m:Bool)(z TI TO i j a b:Addr)(n:Nat)(h:Heap):Prop where
 z:IsZip h z TI TO .none
 ti:IsPair h TI (.ref i) (.ref j)
 to:∃u v,IsPair h TO u v
 i1:gq l h i a n
 i2:gq m h j b n
section
variable{prog:Program}{w:World}{A:Around}{E:Value->Shared->Prop}{s:Shared}
theorem wZ{l m:Bool}{a b:Addr}{xs ys:Array Value}{Q:Value->Shared->Prop}(q1:dN l s.heap a xs)(q2:dN m s.heap b ys)
  (k:∀h',Zt l m (s.heap.objs.size+4) (s.heap.objs.size+2) (s.heap.objs.size+3) s.heap.objs.size (s.heap.objs.size+1) a b 0 h'->(∀c o,s.heap.get? c=some o->h'.get? c=some o)->Q (.ref (s.heap.objs.size+4)) { s with heap:=h' }) :
  wpAny (model prog w) A (call (.type "zip") [.ref a, .ref b]) Q E s:=by
 refine callType_new F.called_zip (by decide) (F.typeCall_zip_2 _ _) (F.newCall_zip_2 _ _) (fun obj=>F.args_object_init_3 obj _ _) F.entry_zip_new (vh l m a b xs ys) ⟨q1,q2,?_⟩
 have n1:(s.heap.push (A1 l a)).objs.size=s.heap.objs.size+1:=Heap.size_push ..
 have n2:(JS s.heap l m a b).objs.size=s.heap.objs.size+2:=by rw[Heap.size_push,n1]
 have n3:(JR s.heap l m a b).objs.size=s.heap.objs.size+3:=by rw[Heap.size_push,n2]
 have n4:(JQ s.heap l m a b).objs.size=s.heap.objs.size+4:=by rw[Heap.size_push,n3]
 have g5:(DZ s.heap l m a b).get? (JQ s.heap l m a b).objs.size=some _:=Heap.get?_push_size _ rfl
 have g4:(DZ s.heap l m a b).get? (JR s.heap l m a b).objs.size=some _:=Heap.get?_push_of_some _ (Heap.get?_push_size _ rfl)
 have g3:(DZ s.heap l m a b).get? (JS s.heap l m a b).objs.size=some _:=Heap.get?_push_of_some _ (Heap.get?_push_of_some _ (Heap.get?_push_size _ rfl))
 have g2:(DZ s.heap l m a b).get? (s.heap.push (A1 l a)).objs.size=some (A1 m b):=Heap.get?_push_of_some _ (Heap.get?_push_of_some _ (Heap.get?_push_of_some _ (Heap.get?_push_size _ rfl)))
 have g1:(DZ s.heap l m a b).get? s.heap.objs.size=some (A1 l a):=Heap.get?_push_of_some _ (Heap.get?_push_of_some _ (Heap.get?_push_of_some _ (Heap.get?_push_of_some _ (Heap.get?_push_size _ rfl))))
 show _/\_
 rw[n2,n3,n4] at g5
 rw[n1,n2] at g3
 rw[n3] at g4
 rw[n1] at g2
 rw[n4]
 have mk:∀(l:Bool) (it c:Addr),(DZ s.heap l m a b).get? it=some (A1 l c)->True:=fun _ _ _ _=>trivial
 refine⟨⟨_,g5,rfl⟩,k _ ⟨g5,g3,⟨_,_,g4⟩,?_,?_⟩ fun c o x=>Heap.get?_push_of_some _ (Heap.get?_push_of_some _ (Heap.get?_push_of_some _ (Heap.get?_push_of_some _ (Heap.get?_push_of_some _ x))))⟩
 ·cases l <;> exact⟨_,g1,rfl,rfl⟩
 ·cases m <;> exact⟨_,g2,rfl,rfl⟩
theorem wW{l m:Bool}{z TI TO i j a b:Addr}{n:Nat}{xs ys:Array Value}{x y:Value}{Q:Option Value->Shared->Prop}(D:ZipApart z TI TO i j a b)(Z:Zt l m z TI TO i j a b n s.heap)(q1:dN l s.heap a xs)(q2:dN m s.heap b ys)(hx:xs[n]? = some x)(hy:ys[n]? = some y)
  (k:∀h',Zp l m h' z TI TO i j a b (n+1) xs ys (rawInt s.heap.objs.size)->IsPair h' s.heap.objs.size x y->h'.objs.size=s.heap.objs.size+1->(∀c o,c≠z->c≠TO->c≠i->c≠j->s.heap.get? c=some o->h'.get? c=some o)->Q (some (.ref s.heap.objs.size)) { s with heap:=h' }) :
  wpAny (model prog w) A (pyNext (.ref z)) Q E s:=by
 have ty:s.TypeIs (.ref z) "zip":=⟨_, Z.z, rfl⟩
 unfold pyNext;exact wpAny_bind (wpAny_attempt (wpAny_callSpecial?_slot (name:=Str.ofString "__next__") ty F.slot_zip_next (wpAny_call_entry F.slot_zip_next ty F.entry_zip_next (wX D ⟨Z.z, Z.ti, Z.to, Z.i1, Z.i2, q1, q2⟩ hx hy fun h' c1 c2 c3 c4=>wpAny_pure (k h' c1 c2 c3 c4)) (F.args_zip_next_1 _))))
theorem wY{l m:Bool}{z TI TO i j a b:Addr}{n:Nat}{xs ys:Array Value}{Q:Option Value->Shared->Prop}(hh:A.handled=none)(D:ZipApart z TI TO i j a b)(Z:Zt l m z TI TO i j a b n s.heap)(q1:dN l s.heap a xs)(q2:dN m s.heap b ys)(hn:xs[n]? = none\/ys[n]? = none)
  (k:∀h',(∀c o,c≠z->c≠TO->c≠i->c≠j->s.heap.get? c=some o->h'.get? c=some o)->Q none { s with heap:=h' }):wpAny (model prog w) A (pyNext (.ref z)) Q E s:=by
 have ty:s.TypeIs (.ref z) "zip":=⟨_, Z.z, rfl⟩
 unfold pyNext;refine wpAny_bind (wpAny_attempt (wpAny_callSpecial?_slot (name:=Str.ofString "__next__") ty F.slot_zip_next (wpAny_call_entry F.slot_zip_next ty F.entry_zip_next (wV hh D ⟨Z.z, Z.ti, Z.to, Z.i1, Z.i2, q1, q2⟩ hn fun h' e hk he=>?_) (F.args_zip_next_1 _))))
 obtain⟨o,ho,hc⟩:=he
 exact wpAny_bind (wpAny_isInstance (T:="StopIteration") (b:=true) ⟨o, ho, hc⟩ isSubtype_stop (wpAny_pure (k _ hk)))
end
noncomputable def ME(l:Bool)(K:W.Frag)(H:Hp)(a:Addr)(xs:List V):Prop:=match l with | true=>fu K H a xs | false=>gU K H a xs
theorem ME.at{l:Bool}{X:Cx}{pins:List (Addr×Obj)}{σ:L2.St}{H:Hp}{s:Shared}{a:Addr}{xs:List V}(I:Inv X pins σ H s)(q:ME l X.K H a xs):∃its:List Value,Vals xs its/\dN l s.heap a its.toArray:=by
 cases l with
 | true=>obtain⟨its,rv,p,_⟩:=I.list q;exact⟨its,rv,p.isList⟩
 | false=>obtain⟨its,rv,p,_⟩:=I.tuple q;exact⟨its,rv,p⟩
theorem xD{l:Bool}{h:Heap}{a:Addr}{xs:Array Value}(q:dN l h a xs):a<h.objs.size:=by
 cases l <;> (obtain⟨o,e,_⟩:=q;exact Heap.lt_size e)
theorem AK{n c d:Nat}(h1:c<n)(h2:d<n):ZipApart (n+4) (n+2) (n+3) n (n+1) c d:=by
 constructor <;> (intro (e:(_:Nat)=_);omega)
section
variable{B:Bd}{Φ:aZ}{E:Gx}{F F' F0 F1:Addr->Prop}{ρ ρ' ρ0 ρ1:List Addr}{H H' H0 H1:Hp}{M M' M0:MH}{σD:Sg}{σ:L2.St}{Q:VK}{Dn:Ends}
end
end Fg
end
section
namespace Fg
open PySem PySem.Spec L2
theorem mX:Slot "reversed" "__init__" "object.__init__" :=
 .of (owner:="object") (n:="__init__") (by rw[typeLookup_type, builtinLookup_eq_fast];kernel_rfl) (by decide +kernel) (by decide +kernel) (by decide +kernel)
  (by first | exact .inl (by decide +kernel) | exact .inr (by decide +kernel)) (by rw[isSubtype_type];kernel_rfl)
theorem bL:Slot "reversed" "__next__" "reversed.__next__" :=
 .of (owner:="reversed") (n:="__next__") (by rw[typeLookup_type, builtinLookup_eq_fast];kernel_rfl) (by decide +kernel) (by decide +kernel) (by decide +kernel)
  (by first | exact .inl (by decide +kernel) | exact .inr (by decide +kernel)) (by rw[isSubtype_type];kernel_rfl)
theorem ie:Slot "reversed" "__iter__" "reversed.__iter__" :=
 .of (owner:="reversed") (n:="__iter__") (by rw[typeLookup_type, builtinLookup_eq_fast];kernel_rfl) (by decide +kernel) (by decide +kernel) (by decide +kernel)
  (by first | exact .inl (by decide +kernel) | exact .inr (by decide +kernel)) (by rw[isSubtype_type];kernel_rfl)
theorem oY:Manifest.owners.lookup (String.ofList ['d','e','s','r','e','v','e','r'].reverse)=some Manifest.sig_reversed:=by kernel_rfl
theorem ig(a:Value):argsOk "reversed.__next__" ⟨[a], []⟩:=by
 unfold argsOk;rw[signature?_of (id:="reversed.__next__") (n:=['_', '_', 't', 'x', 'e', 'n', '_', '_']) (o:=['d', 'e', 's', 'r', 'e', 'v', 'e', 'r']) (by kernel_rfl) oY];kernel_rfl
theorem mZ(a:Value):argsOk "reversed.__iter__" ⟨[a], []⟩:=by
 unfold argsOk;rw[signature?_of (id:="reversed.__iter__") (n:=['_', '_', 'r', 'e', 't', 'i', '_', '_']) (o:=['d', 'e', 's', 'r', 'e', 'v', 'e', 'r']) (by kernel_rfl) oY];kernel_rfl
theorem m5(a b:Value):argsOk "object.__init__" ⟨[a, b], []⟩:=by
 unfold argsOk;rw[signature?_of (id:="object.__init__") (n:=['_', '_', 't', 'i', 'n', 'i', '_', '_']) (o:=['t', 'c', 'e', 'j', 'b', 'o']) (by kernel_rfl) F.owner_object];kernel_rfl
theorem gu:entryFor table "reversed.__next__" = some Builtin.«reversed.__next__»:=entryFor_of_tree (by kernel_rfl)
theorem kU:entryFor table "reversed.__iter__" = some Builtin.«dict_keyiterator.__iter__» :=
 entryFor_alias (id':="dict_keyiterator.__iter__") (by kernel_rfl) (by first | rfl | decide +kernel | (unfold String.splitOn;simp +decide [String.splitOnAux])) (by decide +kernel) (by kernel_rfl)
theorem vG:TypeCalled "reversed" "reversed.__new__" "object.__init__" :=
 ⟨by decide +kernel,by decide +kernel,⟨_,_,F.mro_reversed⟩,F.made_reversed,by decide +kernel,F.sub_reversed_self,mX⟩
theorem vF:typeLookup (.type "tuple") "__reversed__" = pure none:=by rw[typeLookup_type, builtinLookup_eq_fast];kernel_rfl
theorem qT:isSubtype (.type "tuple") (.type "dict")=pure false:=by rw[isSubtype_type];kernel_rfl
noncomputable def lV(l:Addr)(i:Int):Obj:={ cls:=.type "reversed", data:=.fields #[.ref l, rawInt i] }
noncomputable def jF(h:Heap)(a l:Addr)(i:Int):Prop:=∃o, h.get? a=some o/\o.cls=.type "reversed"/\o.data=.fields #[.ref l, rawInt i]
theorem jF.typeIs{s:Shared}{a l:Addr}{i:Int}(x:jF s.heap a l i):s.TypeIs (.ref a) "reversed":=let ⟨o, ho, hc, _⟩:=x;⟨o, ho, hc⟩
theorem jF.at{h h':Heap}{a l:Addr}{i:Int}(x:jF h a l i)(e:∀o,h.get? a=some o->h'.get? a=some o):jF h' a l i:=let ⟨o,ho,r⟩:=x;⟨o,e _ ho,r⟩
section
variable{prog:Program}{w:World}{A:Around}{E:Value->Shared->Prop}{s:Shared}
theorem xV(l:Addr)(items:Array Value)(hfit:(items.size:Int)<2 ^ 63) :
  Meets (Builtin.«reversed.__new__» ⟨[.type "reversed", .ref l], []⟩) (fun _ R s=>s.heap.IsTuple l items /\
   R (.ok (.ret (.ref s.heap.objs.size))) { s with heap:=s.heap.push (lV l ((items.size:Int)-1)),toks:=s.toks+1+1 }) :=
 .of_wp fun prog w A R s h=>by
  obtain⟨hl,h⟩:=h
  have hT:s.TypeIs (.ref l) "tuple":=hl.typeIs
  unfold Builtin.«reversed.__new__»
  refine wpAny_bind (wpAny_of_eq (newClass_reversed _) ?_)
  try dsimp only
  refine wpAny_bind (wpAny_of_eq (a:=()) (by first | rfl | kernel_rfl) ?_)
  refine wpAny_bind (wpAny_of_eq (a:=()) (by first | rfl | kernel_rfl) ?_)
  try dsimp only
  refine wpAny_bind (wpAny_specialOf hT vF ?_)
  try dsimp only
  refine wpAny_bind ?_
  show wpAny _ _ (isInstance (.ref l) (.type "dict") >>= _) _ _ _
  refine wpAny_bind (wpAny_isInstance hT qT ?_)
  simp only[Bool.false_eq_true,if_false]
  refine wpAny_bind (wpAny_specialOf hT F.slot_tuple_getitem.lookup ?_)
  show wpAny _ _ (if (["tuple.__getitem__", "str.__getitem__", "bytes.__getitem__", "bytearray.__getitem__", "memoryview.__getitem__", "numpy.ndarray.__getitem__", "sqlite3.Row.__getitem__"].contains "tuple.__getitem__")=true then pure true else _) _ _ _
  rw[if_pos (by decide +kernel)]
  refine wpAny_pure ?_
  simp only[Bool.not_true,Bool.false_eq_true,if_false]
  refine wpAny_bind (PyProof.Rows.len_tuple hl hfit ?_)
  refine wpAny_bind (wpAny_of_eq (a:=some (items.size:Int)) rfl ?_)
  try dsimp only
  refine wpAny_bind ?_
  unfold Builtin.SmallTypes.newRecord
  refine wpAny_newObj_type ?_ (by size_fits)
  exact wpAny_pure ⟨_,rfl,h⟩
theorem Dv{l:Addr}{items:Array Value}{Q:Value->Shared->Prop}(hl:s.heap.IsTuple l items)(hfit:(items.size:Int)<2 ^ 63)
  (h:Q (.ref s.heap.objs.size) { s with heap:=s.heap.push (lV l ((items.size:Int)-1)), toks:=s.toks+1+1 }):wpAny (model prog w) A (call (.type "reversed") [.ref l]) Q E s :=
 callType_new vG (by decide) (F.typeCall_reversed_1 _) (F.newCall_reversed_1 _) (fun obj=>m5 obj _) F.entry_reversed_new (xV l items hfit) ⟨hl,⟨_,Heap.get?_push_size _ rfl,rfl⟩,h⟩
theorem mY{it l:Addr}{i:Nat}{items:Array Value}{x:Value}{Q:Option Value->Shared->Prop}(hit:jF s.heap it l (i:Int))(hl:s.heap.IsTuple l items)(hi:(i:Int)<2 ^ 62)(hx:items[i]? = some x)
  (hQ:∀h',jF h' it l ((i:Int)-1)->Heap.SameBut it s.heap h'->Q (some x) { s with heap:=h',toks:=s.toks+1 }):wpAny (model prog w) A (pyNext (.ref it)) Q E s:=by
 obtain⟨o,ho,hc,hd⟩:=id hit
 have hT:s.TypeIs (.ref l) "tuple":=hl.typeIs
 unfold pyNext
 refine wpAny_bind (wpAny_attempt (wpAny_callSpecial?_slot (name:=Str.ofString "__next__") hit.typeIs bL
  (wpAny_call_entry bL hit.typeIs gu ?_ (ig _))))
 unfold Builtin.«reversed.__next__»
 refine wpAny_bind (wpAny_of_eq (a:=(Value.ref it,[])) rfl ?_)
 try dsimp only
 refine wpAny_bind (wpAny_field ho hd (x:=.ref l) rfl ?_)
 refine wpAny_bind (wpAny_field ho hd (x:=rawInt (i:Int)) rfl ?_)
 show wpAny _ _ (if (i:Int)<0 then _ else _) _ _ s
 rw[if_neg (by omega)]
 refine wpAny_bind (wpAny_specialOf hT F.slot_tuple_getitem.lookup ?_)
 simp only[Option.isNone_some,Bool.false_eq_true,if_false]
 refine wpAny_bind (wpAny_mkInt ?_)
 refine wpAny_bind (wpAny_attempt ?_)
 have hl1:Heap.IsTuple (Shared.heap { s with toks:=s.toks+1 }) l items:=hl
 have hsz:i<items.size:=by
  rcases Nat.lt_or_ge i items.size with q | q
  ·exact q
  ·rw[Array.getElem?_eq_none q] at hx;cases hx
 refine PyProof.Rows.getItem_tuple hl1 (by omega) (by omega) (j:=i) (by rw[seqIndex_of (by omega) (by omega),Int.toNat_natCast]) hx ?_
 show wpAny _ _ (field (.ref it) 1 >>= _) _ _ _
 refine wpAny_bind (wpAny_field (s:={ s with toks:=s.toks+1 }) ho hd (x:=rawInt (i:Int)) rfl ?_)
 show wpAny _ _ (setField (.ref it) 1 (rawInt ((i:Int)-1)) >>= _) _ _ _
 refine wpAny_bind (wpAny_setField (s:={ s with toks:=s.toks+1 }) ho hd (by simp) ?_)
 refine wpAny_pure ⟨x,rfl,wpAny_pure (hQ _ ?_ (Heap.SameBut.update ..))⟩
 exact⟨_,Heap.get?_update_self _ ho (Obj.isFreed_of_fields (Obj.data_mapFields hd _)),(Obj.cls_mapFields ..).trans hc,by rw[Obj.data_mapFields hd];simp⟩
theorem oZ{it l:Addr}{Q:Option Value->Shared->Prop}(hh:A.handled=none)(hit:jF s.heap it l (-1))
  (hQ:∀h',Heap.ExtBut it s.heap h'->Q none { s with heap:=h' }):wpAny (model prog w) A (pyNext (.ref it)) Q E s:=by
 obtain⟨o,ho,hc,hd⟩:=id hit
 unfold pyNext
 refine wpAny_bind (wpAny_attempt (wpAny_callSpecial?_slot (name:=Str.ofString "__next__") hit.typeIs bL
  (wpAny_call_entry bL hit.typeIs gu ?_ (ig _))))
 unfold Builtin.«reversed.__next__»
 refine wpAny_bind (wpAny_of_eq (a:=(Value.ref it,[])) rfl ?_)
 try dsimp only
 refine wpAny_bind (wpAny_field ho hd (x:=.ref l) rfl ?_)
 refine wpAny_bind (wpAny_field ho hd (x:=rawInt (-1)) rfl ?_)
 show wpAny _ _ (if (-1:Int)<0 then _ else _) _ _ s
 rw[if_pos (by decide)]
 refine wpAny_bind (wpAny_rule ?_)
 refine wpAny_bind ?_
 show wpAny _ _ (setField (.ref it) 1 (rawInt (-1)) >>= _) _ _ _
 refine wpAny_bind (wpAny_setField ho hd (by simp) ?_)
 refine wpAny_setField (Heap.get?_update_self _ ho (Obj.isFreed_of_fields (Obj.data_mapFields hd _))) (Obj.data_mapFields hd _) (by simp) ?_
 refine wpAny_bind ?_
 show wpAny _ _ (newExc (.type "StopIteration") [] >>= _) _ _ _
 refine wpAny_bind ?_
 simp only[newExc,newTuple]
 refine wpAny_bind (wpAny_newObj_type ?_ (by size_fits))
 refine wpAny_bind (m:=firstArgMember _ _) (wpAny_of_eq (a:=Value.none) (by first | rfl | (simp only[firstArgMember];rfl)) ?_)
 refine wpAny_newObj_type ?_ (by size_fits)
 simp only[raiseNew]
 refine wpAny_bind (wpAny_handled ?_)
 first | rw[show A.in1.handled=none from hh] | rw[hh]
 refine wpAny_bind (wpAny_pure (wpAny_throw ?_))
 refine wpAny_bind (wpAny_isInstance (T:="StopIteration") (b:=true) ⟨_, Heap.get?_push_size _ rfl, rfl⟩ isSubtype_stop ?_)
 exact wpAny_pure (hQ _ fun c x hc e=>Heap.get?_push_of_some _ (Heap.get?_push_of_some _ ((Heap.SameBut.update ..).extBut c x hc ((Heap.SameBut.update ..).extBut c x hc e))))
theorem tT{it l:Addr}{i:Int}{Q:Value->Shared->Prop}(hit:jF s.heap it l i)(h:Q (.ref it) s):wpAny (model prog w) A (pyIter (.ref it)) Q E s:=by
 refine wpAny_pyIter_slot hit.typeIs ie (wpAny_call_entry ie hit.typeIs kU ?_ (mZ _))
 show wpAny _ _ (ret (.ref it)) _ _ s
 exact wpAny_pure ⟨_, rfl, "reversed", _, hit.typeIs, bL.lookup, h⟩
end
noncomputable def Ju(K:W.Frag)(a:Addr)(n:Nat):It :=
 ⟨fun i H=>i<n/\∃xs x,gU K H a xs/\xs.length=n/\xs[n-1-i]? = some x,fun i H x H'=>H'=H/\∀xs,gU K H a xs->xs[n-1-i]? = some x,fun i H=>n<=i⟩
theorem Bk{P:Program}{w:World}{K:W.Frag}{tg:Expr}{a it:Addr}{n:Nat}(hn62:(n:Int)<2 ^ 62):Turn false P w K tg (Ju K a n) [it] it (fun i h=>i<=n/\jF h it a ((n:Int)-1-(i:Int))) where
 mem:=by simp
 obj:=fun i h st b hb=>by
  have e:b=it:=by simpa using hb
  subst e
  obtain⟨_,o,e,c,d⟩:=st
  exact⟨o,e,fun v z=>by rw[d] at z;cases z⟩
 keep:=fun i h h' st k=>⟨st.1,st.2.at fun o e=>k it (by simp) o e⟩
 item:=by
  intro X hP hw hK hc i pins s σ H E I hf st hg
  subst hP hw hK
  obtain⟨hi,xs,x,q1,hn,hx⟩:=hg
  obtain⟨its,rv,pl,z⟩:=I.tuple q1
  obtain⟨u,hu,ru⟩:=rv.get hx
  have e:(n:Int)-1-(i:Int)=((n-1-i:Nat):Int):=by omega
  obtain⟨_,st⟩:=st
  rw[e] at st
  refine mY st (show s.heap.IsTuple a its.toArray from pl) (by omega) (x:=u) (by simpa using hu) fun h' hit b=>⟨u,rfl,?_⟩
  have e2:((n-1-i:Nat):Int)-1=(n:Int)-1-((i+1:Nat):Int):=by omega
  rw[e2] at hit
  obtain⟨o,ho,hcl,hd⟩:=id hit
  have I1:Inv X pins σ H { s with heap:=h',toks:=s.toks+1 }:=sR (t':=s.toks+1) I (ch:=[it]) (fun c hc=>hf c hc) fun c o hc e=>b.extBut c o (by simpa using hc) e
  refine mq ho hcl hd (by decide) ⟨x,H,I1,ru,⟨rfl,fun ys q=>?_⟩,⟨by omega,hit⟩,fun c hc=>(hf c hc).1⟩
  rw[I.lG q q1];exact hx
 done:=by
  intro X hP hw hK hc i pins s σ H E I hf st hg
  subst hP hw hK
  obtain⟨hi,st⟩:=st
  have hg':n<=i:=hg
  have e:(n:Int)-1-(i:Int)=-1:=by omega
  rw[e] at st
  exact oZ (I.ok.hd hc) st fun h' b=>⟨rfl,sR (t':=s.toks) I (ch:=[it]) (fun c hc=>hf c hc) fun c o hc e=>b c o (by simpa using hc) e⟩
 self:=fun _ _ _ _ _ st h=>tT st.2 h
end Fg
end
section
namespace Fg
open PySem PySem.Spec L2
noncomputable def Jt(K:W.Frag)(a:Addr)(n:Nat):It :=
 ⟨fun i H=>i<n/\∃xs x,fu K H a xs/\xs.length=n/\xs[n-1-i]? = some x,fun i H x H'=>H'=H/\∀xs,fu K H a xs->xs[n-1-i]? = some x,fun i H=>n<=i⟩
theorem xh{P:Program}{w:World}{K:W.Frag}{tg:Expr}{a it:Addr}{n:Nat}:Turn false P w K tg (Jt K a n) [it] it (fun i h=>i<=n/\h.IsRevIter it a ((n:Int)-1-(i:Int))) where
 mem:=by simp
 obj:=fun i h st b hb=>by
  have e:b=it:=by simpa using hb
  subst e
  obtain⟨_,o,e,c,d⟩:=st
  exact⟨o,e,fun v z=>by rw[d] at z;cases z⟩
 keep:=fun i h h' st k=>⟨st.1,st.2.at fun o e=>k it (by simp) o e⟩
 item:=by
  intro X hP hw hK hc i pins s σ H E I hf st hg
  subst hP hw hK
  obtain⟨hi,xs,x,q1,hn,hx⟩:=hg
  obtain⟨its,rv,pl,z⟩:=I.list q1
  obtain⟨u,hu,ru⟩:=rv.get hx
  have e:(n:Int)-1-(i:Int)=((n-1-i:Nat):Int):=by omega
  obtain⟨_,st⟩:=st
  rw[e] at st
  refine wpAny_pyNext_rev_item st pl.isList (x:=u) (by simpa using hu) fun h' hit b=>⟨u,rfl,?_⟩
  have e2:((n-1-i:Nat):Int)-1=(n:Int)-1-((i+1:Nat):Int):=by omega
  rw[e2] at hit
  obtain⟨o,ho,hcl,hd⟩:=id hit
  have I1:Inv X pins σ H { s with heap:=h' }:=sR (t':=s.toks) I (ch:=[it]) (fun c hc=>hf c hc) fun c o hc e=>b.extBut c o (by simpa using hc) e
  refine mq ho hcl hd (by decide) ⟨x,H,I1,ru,⟨rfl,fun ys q=>?_⟩,⟨by omega,hit⟩,fun c hc=>(hf c hc).1⟩
  rw[I.pK q q1];exact hx
 done:=by
  intro X hP hw hK hc i pins s σ H E I hf st hg
  subst hP hw hK
  obtain⟨hi,st⟩:=st
  have hg':n<=i:=hg
  have e:(n:Int)-1-(i:Int)=-1:=by omega
  rw[e] at st
  exact wpAny_pyNext_rev_end (I.ok.hd hc) st fun h' b=>⟨rfl,sR (t':=s.toks) I (ch:=[it]) (fun c hc=>hf c hc) fun c o hc e=>b c o (by simpa using hc) e⟩
 self:=fun _ _ _ _ _ st h=>wpAny_pyIter_revIter st.2 h
noncomputable def Lu(K:W.Frag)(t:TA):TI:=fun σ H R=>t σ H fun vs H1=>∃a,vs=[.ref a]/\((∃xs,fu K H1 a xs/\R (Jt K a xs.length) H1)\/∃xs,gU K H1 a xs/\R (Ju K a xs.length) H1)
theorem GG{X:Cx}{tg a:Expr}{t:TA}{p pos:Pos}(hc:X.calm=true)(hg:Gl X "reversed")(hm:X.mg "reversed" = none)(ha:PA X [a] t)(hs:starEach [a] X.env=[(false, eval a X.env)]) :
  PI X tg (.Call (.Name "reversed" p) [a] [] pos) (Lu X.K t):=by
 intro pins s σ H R I h
 refine PyProof.Rows.Call_ (eK I hg hm (show bootBuiltins ("reversed" : Str)=some (.type "reversed") by decide +kernel) (PyProof.Rows.callWith_type1 (aT (ha pos pins s σ H _ I h) fun us s1 ⟨vs, H1, I1, r1, q1⟩=>?_) (by rw[hs];rfl) (by rfl)))
 obtain⟨c,e,q1⟩:=q1
 subst e
 obtain⟨u,rfl,ru⟩:=vals1 r1
 cases ru
 rcases q1 with ⟨xs,q,q2⟩ | ⟨xs,q,q2⟩
 ·obtain⟨its,rv,pl,z⟩:=I1.list q
  have l1:=rv.length
  refine call_reversed_list pl.isList ?_
  have I2:Inv X pins σ H1 { s1 with heap:=s1.heap.push (revObj c ((its.toArray.size:Int)-1)) }:=I1.kept (t':=s1.toks) fun c o e=>Heap.get?_push_of_some _ e
  have g0:(s1.heap.push (revObj c ((its.toArray.size:Int)-1))).IsRevIter s1.heap.objs.size c ((its.toArray.size:Int)-1):=⟨_,Heap.get?_push_size _ rfl,rfl,rfl⟩
  have g1:(s1.heap.push (revObj c ((its.toArray.size:Int)-1))).IsRevIter s1.heap.objs.size c ((xs.length:Int)-1-((0:Nat):Int)):=by
   have e:(xs.length:Int)-1-((0:Nat):Int)=(its.toArray.size:Int)-1:=by rw[List.size_toArray,l1];omega
   rw[e];exact g0
  refine wpAny_pyIter_revIter g0 ⟨_,[s1.heap.objs.size],_,_,H1,rfl,I2,⟨false,hc,xh⟩,⟨Nat.zero_le _,g1⟩,fun x hx=>?_,q2⟩
  have e:x=s1.heap.objs.size:=by simpa using hx
  subst e
  exact I1.pS (Nat.le_refl _) (I1.hok.fresh (Nat.le_refl _))
 ·obtain⟨its,rv,pl,z⟩:=I1.tuple q
  have l1:=rv.length
  have hz:(xs.length:Int)<2 ^ 62:=by
   have:sizeLine<2 ^ 62:=by decide
   have z':xs.length<=sizeLine:=by simpa using z
   omega
  have hfit:(its.toArray.size:Int)<2 ^ 63:=by rw[List.size_toArray,<- l1];omega
  refine Dv (show s1.heap.IsTuple c its.toArray from pl) hfit ?_
  have I2:Inv X pins σ H1 { s1 with heap:=s1.heap.push (lV c ((its.toArray.size:Int)-1)),toks:=s1.toks+1+1 }:=I1.kept (t':=s1.toks+1+1) fun c o e=>Heap.get?_push_of_some _ e
  have g0:jF (s1.heap.push (lV c ((its.toArray.size:Int)-1))) s1.heap.objs.size c ((its.toArray.size:Int)-1):=⟨_,Heap.get?_push_size _ rfl,rfl,rfl⟩
  have g1:jF (s1.heap.push (lV c ((its.toArray.size:Int)-1))) s1.heap.objs.size c ((xs.length:Int)-1-((0:Nat):Int)):=by
   have e:(xs.length:Int)-1-((0:Nat):Int)=(its.toArray.size:Int)-1:=by rw[List.size_toArray,l1];omega
   rw[e];exact g0
  refine tT (s:={ s1 with heap:=s1.heap.push (lV c ((its.toArray.size:Int)-1)),toks:=s1.toks+1+1 }) g0 ⟨_,[s1.heap.objs.size],_,_,H1,rfl,I2,⟨false,hc,Bk hz⟩,⟨Nat.zero_le _,g1⟩,fun x hx=>?_,q2⟩
  have e:x=s1.heap.objs.size:=by simpa using hx
  subst e
  exact I1.pS (Nat.le_refl _) (I1.hok.fresh (Nat.le_refl _))
section
variable{B:Bd}{Φ:aZ}{E:Gx}{F F' F0 F1:Addr->Prop}{ρ ρ' ρ0 ρ1:List Addr}{H H' H0 H1:Hp}{M M' M0:MH}{σD:Sg}{σ:L2.St}{Q:VK}{Dn:Ends}
theorem Iz{d:D}{ds:List D}(h:pQ d=some ds):d=.lst ds\/d=.tup ds:=by
 cases d <;> first | (cases h;first | exact .inl rfl | exact .inr rfl) | cases h
theorem BC{a:Fg.E}{Rr:It->Hp->Prop}(h:DP B Φ E (.rev a) σ H Rr):Lu B.K (bG (T B Φ E a) gI) σ H Rr:=by
 obtain⟨σD,M,F,ρ,S,r,h⟩:=h
 show T B Φ E a σ H fun v H1=>∃c,[v]=[.ref c]/\((∃xs,fu B.K H1 c xs/\Rr (Jt B.K c xs.length) H1)\/∃xs,gU B.K H1 c xs/\Rr (Ju B.K c xs.length) H1)
 refine⟨σD,M,F,ρ,S,r,?_⟩
 cases hx:ev Φ a σD M with
 | exc c M1 =>
  have he:bA Φ (.rev a) σD M=.exc c M1:=by simp only[bA,hx,R.d9]
  rw[he] at h;exact h
 | bad =>
  have he:bA Φ (.rev a) σD M=.bad:=by simp only[bA,hx,R.ef]
  rw[he] at h;exact h
 | ok x M1 =>
  intro F1 ρ1 H1 v e1 S1 rx
  cases hfx:pQ x with
  | none =>
   have he:bA Φ (.rev a) σD M=.bad:=by simp only[bA,hx,R.af,hfx]
   rw[he] at h;exact h.elim
  | some ds =>
   have he:bA Φ (.rev a) σD M=.ok (.aq,ds.reverse,false) M1:=by simp only[bA,hx,R.af,hfx]
   rw[he] at h
   rcases Iz hfx with rfl | rfl
   ·simp only[RD] at rx
    obtain⟨c,xs,rfl,z,q⟩:=rx
    have l1:=aj.length q
    refine⟨c,rfl,.inl ⟨xs,z.sq,h F1 ρ1 H1 _ e1 S1 fun M' hM S'=>?_⟩⟩
    cases hM
    refine⟨fun i F ρ M H ex S _=>⟨fun d0 hd=>?_,fun hl=>?_⟩,fun z=>by cases z⟩
    ·have zq:fu B.K H c xs:=by
      rcases z with ⟨f,z⟩ | z
      ·exact .inl (ex.toExt0.JI.rd f z)
      ·exact .inr z
     have hi:i<ds.length:=by
      have:=(List.getElem?_eq_some_iff.mp hd).1
      simpa using this
     rw[List.getElem?_reverse hi,l1] at hd
     obtain⟨v,hv,rv⟩:=aj.get (aj.mono ex _ _ q) hd
     refine⟨⟨by omega,xs,v,zq,rfl,hv⟩,fun x H' ⟨e',hy⟩=>?_⟩
     subst e'
     have z2:=hy xs zq
     rw[hv] at z2
     cases z2
     exact⟨F,S.refl,S,rv⟩
    ·rw[List.length_reverse,l1] at hl
     exact hl
   ·simp only[RD] at rx
    obtain⟨c,xs,rfl,z,q⟩:=rx
    have l1:=aj.length q
    refine⟨c,rfl,.inr ⟨xs,z.sq,h F1 ρ1 H1 _ e1 S1 fun M' hM S'=>?_⟩⟩
    cases hM
    refine⟨fun i F ρ M H ex S _=>⟨fun d0 hd=>?_,fun hl=>?_⟩,fun z=>by cases z⟩
    ·have zq:gU B.K H c xs:=by
      rcases z with ⟨f,z⟩ | z
      ·exact .inl (ex.toExt0.JI.rd f z)
      ·exact .inr z
     have hi:i<ds.length:=by
      have:=(List.getElem?_eq_some_iff.mp hd).1
      simpa using this
     rw[List.getElem?_reverse hi,l1] at hd
     obtain⟨v,hv,rv⟩:=aj.get (aj.mono ex _ _ q) hd
     refine⟨⟨by omega,xs,v,zq,rfl,hv⟩,fun x H' ⟨e',hy⟩=>?_⟩
     subst e'
     have z2:=hy xs zq
     rw[hv] at z2
     cases z2
     exact⟨F,S.refl,S,rv⟩
    ·rw[List.length_reverse,l1] at hl
     exact hl
end
end Fg
end
section
namespace Fg
open PySem PySem.Spec L2
section
variable{B:Bd}{Φ:aZ}{E:Gx}{F F' F1:Addr->Prop}{ρ ρ' ρ1:List Addr}{H H' H1:Hp}{M M':MH}{σD:Sg}{σ:St}{Q:VK}
end
section
variable{X:Cx}{t:TA}{te ts:TE}{e st:Expr}{pos p2:Pos}
end
end Fg
end
section
namespace Fg
open PySem PySem.Spec L2
section
variable{B:Bd}{Φ:aZ}{E:Gx}{F F' F0 F1:Addr->Prop}{ρ ρ' ρ0 ρ1:List Addr}{H H' H0 H1:Hp}{M M' M0:MH}{σD:Sg}{σ:L2.St}{Q:VK}{Dn:Ends}
end
end Fg
end
section
namespace Fg
open PySem PySem.Spec L2
section
variable{prog:Program}{w:World}{A:Around}{E:Value->Shared->Prop}{s:Shared}{r S:Addr}{a b c:Int}{t u v:Tok}
theorem pY{R:Result->Shared->Prop}{c₀:Nat}(hh:A.handled=none)(hr:IsRange s.heap r a b c t u v)(hbig:Builtin.Range.small a b c=false)(hn:Builtin.Range.rangeSize a b c=((0:Nat):Int))
  (hS:s.heap.get? S=some { cls:=.type "list", data:=.seq #[] c₀ })
  (hR:∀h' tk c', (∀b o, b≠S->s.heap.get? b=some o->h'.get? b=some o)->h'.get? S=some { cls:=.type "list", dict:=none, data:=.seq #[] c', slots:=#[] }->R (.ok (.ret .none)) { s with heap:=h', toks:=tk }) :
  wpAny (model prog w) A.in1 (Builtin.List.listExtendWith (.ref S) (.ref r) .none)
   (fun fin s'=>match fin with | .done f=>R (.ok f) s' | .again c'=>c'.quiet=true/\codeAny (model prog w) A c' R s') (fun e s'=>R (.error e) s') s:=by
 have hSr:S≠r:=fun e=>by rw[e,hr] at hS;simp at hS
 have hSI:S≠s.heap.objs.size:=Nat.ne_of_lt (Heap.lt_size hS)
 unfold Builtin.List.listExtendWith
 refine wpAny_bind (wpAny_typeOf (T:="range") ⟨_, hr, rfl⟩ ?_)
 simp only[show Builtin.List.listSameRef (.ref S) (.ref r)=false by simp[Builtin.List.listSameRef, hSr], show (Value.type "range" == Value.type "list")=false by decide, show (Value.type "range" == Value.type "tuple")=false by decide, Bool.or_false, Bool.false_eq_true, if_false]
 refine wpAny_bind (wpAny_pyIter_longrange hr hbig ?_)
 refine wpAny_bind (wpAny_holding (wpAny_hint_range (n:=0) (Heap.get?_push_of_some _ hr) hn (by decide) ?_))
 refine wpAny_ite_split (fun z=>absurd z (by decide)) fun _=>wpAny_pure ⟨plainId_quiet F.plain_extend_loop _,?_⟩
 have it:IsLongIter (s.heap.push { cls:=.type "longrange_iterator", data:=.fields #[rawInt a, rawInt (Builtin.Range.rangeSize a b c), rawInt c] }) s.heap.objs.size (a+((0:Nat):Int)*c) (((0:Nat):Int)-((0:Nat):Int)) c:=by
  rw[hn];simpa using Heap.get?_push_size _ rfl
 refine codeAny_extend_loopS (Walks.longrange (prog:=prog) (w:=w) (A:=A.in1) hh s.heap.objs.size a c 0).toS (by decide) S (fun z=>hSI (List.mem_singleton.mp z)) .none 0 0 _ #[] c₀ rfl (Nat.zero_le _) it (Heap.get?_push_of_some _ hS) (ItemsOf.nil _) fun s' acc' c' hm hS' hacc=>?_
 rw[Moved.eq_with hm]
 have e:acc'=#[]:=Array.eq_empty_of_size_eq_zero hacc.1
 subst e
 refine hR s'.heap s'.toks c' (fun b o hb e=>hm.heap b o (fun z=>?_) (Heap.get?_push_of_some _ e)) hS'
 rcases List.mem_cons.mp z with z | z
 ·exact hb z
 ·exact absurd (Heap.lt_size e) (by rw[List.mem_singleton.mp z];exact Nat.lt_irrefl _)
theorem list_none{Q:Value->Shared->Prop}(hh:A.handled=none)(hr:IsRange s.heap r a b c t u v)(hbig:Builtin.Range.small a b c=false)(hn:Builtin.Range.rangeSize a b c=((0:Nat):Int))
  (hQ:∀h' tk c', (∀b o, s.heap.get? b=some o->h'.get? b=some o)->h'.get? s.heap.objs.size=some { cls:=.type "list", dict:=none, data:=.seq #[] c', slots:=#[] }->Q (.ref s.heap.objs.size) { s with heap:=h', toks:=tk }) :
  wpAny (model prog w) A (call (.type "list") [.ref r]) Q E s:=by
 refine callType_codes (Q₁:=fun obj s₁=>obj=.ref s.heap.objs.size/\s₁={ s with heap:=s.heap.push { cls:=.type "list", data:=.seq #[] } }) F.called_list (F.typeCall_list_1 _) F.entry_list_init (code_list_new _ ⟨rfl, rfl⟩) fun obj s₁ h₁=>?_
 obtain⟨rfl,rfl⟩:=h₁
 have hS:(s.heap.push { cls:=.type "list", data:=.seq #[] }).get? s.heap.objs.size=some { cls:=.type "list", data:=.seq #[] }:=Heap.get?_push_size _ rfl
 refine⟨⟨_,hS,rfl⟩,F.args_list_init_2 _ _,?_⟩
 show wpAny _ _ (do let old <- Builtin.List.listItems (.ref s.heap.objs.size);Builtin.List.listUpdate (.ref s.heap.objs.size) (fun _=>#[]);letGo old.toList.reverse;Builtin.List.listExtendWith (.ref s.heap.objs.size) (.ref r) .none) _ _ _
 refine wpAny_bind ?_
 unfold Builtin.List.listItems
 refine wpAny_bind (wpAny_seqItems hS rfl (wpAny_pure ?_))
 show wpAny _ _ (updateSeq s.heap.objs.size (fun _=>#[]) >>= fun _=>letGo (#[]:Array Value).toList.reverse >>= fun _=>Builtin.List.listExtendWith (.ref s.heap.objs.size) (.ref r) .none) _ _ _
 refine wpAny_bind (wpAny_updateSeq hS rfl (wpAny_bind (wpAny_letGo ?_)))
 have ne:r≠s.heap.objs.size:=Nat.ne_of_lt (Heap.lt_size hr)
 refine pY (A:=A.in1) hh ((Heap.get?_update_other _ _ (Ne.symm ne)).trans (Heap.get?_push_of_some _ hr)) hbig hn (Heap.get?_update_self _ hS rfl) fun h' tk c' hk hS'=>?_
 exact⟨rfl,hQ h' tk c' (fun b o e=>hk b o (Nat.ne_of_lt (Heap.lt_size e)) ((Heap.get?_update_other _ _ (Nat.ne_of_gt (Heap.lt_size e))).trans (Heap.get?_push_of_some _ e))) hS'⟩
end
noncomputable def EL(i j:Int):List V:=(List.range (i-j).toNat).map fun (n:Nat)=>V.int (i-(n:Int))
noncomputable def J9(t:TA):TE:=fun σ H Q=>t σ H fun vs H1=>∃i j:Int,vs=[.int i,.int j,.int (-1)]/\((-(2 ^ 62)<=i/\i<2 ^ 62/\-(2 ^ 62)<=j/\j<2 ^ 62)/\(i-j).toNat<=sizeLine\/i<=j)/\∀p,H1 p=none->Q (.ref p) (upd H1 p (.lst (EL i j)))
section
variable{B:Bd}{Φ:aZ}{E:Gx}{F:Addr->Prop}{ρ:List Addr}{H:Hp}{σ:L2.St}{Q:VK}
theorem xW{i j:Int}:aj B F ρ H (ir i j) (EL i j):=by
 unfold ir EL
 generalize List.range (i-j).toNat=l
 induction l with
 | nil=>exact aj.nil
 | cons n l ih=>exact aj.cons (by simp only[RD]) ih
theorem BK{fz:Bool}{a b:Fg.E}(h:T B Φ E (.EK fz a b) σ H Q):J9 (bG (T B Φ E a) (bG (T B Φ E b) (bG (T B Φ E (.neg (.k (.int 1)))) gI))) σ H Q:=by
 obtain⟨σD,M,F,ρ,S,r,h⟩:=h
 simp only[ev] at h
 refine T.two S r rfl h fun x y M2 F2 ρ2 H2 v w S2 r2 rx ry h2=>?_
 refine⟨σD,M2,F2,ρ2,S2,r2,?_⟩
 simp only[ev,R.af]
 show ai (RD B) B (R.ok (D.int (-1)) M2) F2 ρ2 H2 _ _
 intro F3 ρ3 H3 z e3 S3 rz
 have M6:=RD.mono e3 _ _ rx
 have M5:=RD.mono e3 _ _ ry
 split at h2
 ·rename_i i j
  split at h2
  ·rename_i hq
   simp only[gg,Bool.and_eq_true,Bool.or_eq_true,decide_eq_true_eq] at hq
   simp only[RD] at M6 M5 rz
   subst M6 M5 rz
   exact⟨i,j,rfl,hq.imp (fun hq=>⟨⟨by omega,by omega,by omega,by omega⟩,Nat.le_trans hq.2.2 bC⟩) id,cQ S3 (ai.weak e3 h2) xW⟩
  ·exact h2.elim
 ·exact h2.elim
end
theorem GP{X:Cx}{a b c:Expr}{t:TA}{p1 p2 q1 q2:Pos}(hc:X.calm=true)(hgl:Gl X "list")(hml:X.mg "list" = none)(hgr:Gl X "range")(hmr:X.mg "range" = none)(ha:PA X [a, b, c] t)(hs:starEach [a, b, c] X.env=(false, eval a X.env)::starEach [b, c] X.env)(hs2:(backTo q2 (starEach [b, c] X.env)).any (·.1)=false) :
  PE X (.Call (.Name "list" p1) [.Call (.Name "range" p2) [a, b, c] [] q2] [] q1) (J9 t):=by
 intro pins s σ H Q I h
 refine wpAny_Call_Name_kw (eK I hgl hml (show bootBuiltins ("list" : Str)=some (.type "list") by decide +kernel) ?_ (by decide) (by decide))
 refine PyProof.Rows.callWith_type1 ?_ rfl rfl
 show wpAny _ _ (spliced ((false, eval (.Call (.Name "range" p2) [a, b, c] [] q2) X.env)::backTo q1 (starEach [] X.env))) _ _ s
 refine Calls.spliced_cons ?_
 refine wpAny_Call_Name_kw (eK I hgr hmr PyProof.Rows.boot_range (PyProof.Rows.callWith_type1 (aT (ha q2 pins s σ H _ I h) fun us s1 ⟨vs,H1,I1,r1,q1⟩=>?_) hs hs2) (by decide) (by decide))
 obtain⟨i,j,e,hb,q⟩:=q1
 subst e
 cases r1 with
 | cons r rr =>
  cases rr with
  | cons r' rr =>
   cases rr with
   | cons r'' rr =>
    cases rr
    obtain⟨t,rfl⟩:=r
    obtain⟨t',rfl⟩:=r'
    obtain⟨t'',rfl⟩:=r''
    refine call_range_3 (by decide) ?_ (.inl (PyProof.noPylong_small (by omega)))
    refine Calls.spliced_nil ?_
    have I2:Inv X pins σ H1 { s1 with heap:=s1.heap.push { cls:=.type "range", data:=.fields #[.int i t, .int j t', .int (-1) t''] } }:=I1.kept (t':=s1.toks) fun b o e=>Heap.get?_push_of_some _ e
    have fin:∀h' tk acc' c', (∀b o, (s1.heap.push { cls:=.type "range", data:=.fields #[.int i t, .int j t', .int (-1) t''] }).get? b=some o->h'.get? b=some o)->h'.get? (s1.heap.push { cls:=.type "range", data:=.fields #[.int i t, .int j t', .int (-1) t''] }).objs.size=some { cls:=.type "list", dict:=none, data:=.seq acc' c', slots:=#[] }->Vals (EL i j) acc'.toList->(i-j).toNat<=sizeLine ->
      EP X pins σ Q (.ref (s1.heap.push { cls:=.type "range", data:=.fields #[.int i t, .int j t', .int (-1) t''] }).objs.size) { s1 with heap:=h', toks:=tk }:=fun h' tk acc' c' hk hS' va hz =>
     ⟨.ref _,_,I2.laid (h':=h') (t':=tk) (o:=.lst (EL i j)) hk (Nat.le_refl _) ⟨by unfold EL;rw[List.length_map,List.length_range];exact hz,acc'.toList,c',va,by simpa using hS'⟩,rfl,q _ (I2.hok.fresh (Nat.le_refl _))⟩
    cases hs:Builtin.Range.small i j (-1) with
    | true =>
     have hz:(i-j).toNat<=sizeLine:=by
      rcases hb with hb | hb
      ·exact hb.2
      ·rw[show (i-j).toNat=0 by omega];exact Nat.zero_le _
     refine call_list_range (n:=(i-j).toNat) (I2.ok.hd hc) (IsRange.new ..) hs (W.rangeSize_downNat ..) hz fun h' tk acc' c' hk hS' hacc=>fin h' tk acc' c' hk hS' ?_ hz
     have:=qC hacc
     simpa only[EL,Int.mul_neg,Int.mul_one,Int.sub_eq_add_neg] using this
    | false =>
     have h0:(i-j).toNat=0:=by
      rcases hb with ⟨⟨b1,b2,b3,b4⟩,_⟩ | hb
      ·rw[W.small_down b1 b2 b3 b4] at hs;cases hs
      ·omega
     refine list_none (I2.ok.hd hc) (IsRange.new ..) hs (by rw[W.rangeSize_downNat,h0]) fun h' tk c' hk hS'=>fin h' tk #[] c' hk hS' ?_ (by rw[h0];exact Nat.zero_le _)
     rw[EL,h0]
     exact .nil
end Fg
end
section
namespace Fg
open PySem PySem.Spec L2
theorem Mg:entryFor table "zip.__getattribute__" = some Builtin.«object.__getattribute__» :=
 entryFor_alias (id':="object.__getattribute__") (by kernel_rfl) (by first | rfl | decide +kernel) (by decide +kernel) (by kernel_rfl)
theorem Dr:typeLookup (.type "zip") "keys" = pure none:=by rw[typeLookup_type, builtinLookup_eq_fast];kernel_rfl
theorem Ds:typeLookup (.type "zip") "__getattr__" = pure none:=by rw[typeLookup_type, builtinLookup_eq_fast];kernel_rfl
theorem Al(a:Addr)(xs:Array Value)(u:Tok) :
  Meets (Builtin.«object.__getattribute__» ⟨[.ref a, .str "keys" u], []⟩) (fun A R s=>s.heap.get? a=some { cls:=.type "zip", dict:=none, data:=.fields xs, slots:=#[] }/\raisesAttr (.ref a) "keys" A R s) :=
 Meets.of_wp fun prog w A R s hs=>by
  obtain⟨hp,g,d,tk,os⟩:=s
  obtain⟨hx,hs⟩:=hs
  have hT:(⟨hp, g, d, tk, os⟩:Shared).TypeIs (.ref a) "zip":=⟨_, hx, rfl⟩
  have f0:=Dr
  unfold Builtin.«object.__getattribute__»
  repeat (any_goals (first | assumption | wp_step))
  exact wpAny_raiseAttrError hs.1 hs.2 (attrMsg_fits (by decide +kernel) (by decide +kernel))
theorem Dq{prog:Program}{w:World}{A:Around}{E:Value->Shared->Prop}{s:Shared}{a:Addr}{xs:Array Value}{Q:Option Value->Shared->Prop}
  (hx:s.heap.get? a=some { cls:=.type "zip", dict:=none, data:=.fields xs, slots:=#[] }) (hA:A.handled=none)
  (h:∀h' tk,(∀b o,s.heap.get? b=some o->h'.get? b=some o)->Q none { s with heap:=h',toks:=tk }) :
  wpAny (model prog w) A (getAttr? (.ref a) "keys") Q E s:=by
 obtain⟨hp,g,d,tk,os⟩:=s
 have hT:∀tk', (⟨hp, g, d, tk', os⟩:Shared).TypeIs (.ref a) "zip":=fun _=>⟨_, hx, rfl⟩
 have f1:=sub_AttributeError
 have f3:=F.slot_zip_getattribute.lookup
 have f4:=F.slot_zip_getattribute.bind (.ref a)
 have f5:=Ds
 unfold getAttr? getAttrBy? getAttrBy
 repeat (any_goals (first | assumption | exact hT _ | ((with_reducible show wpAny _ _ (call (Value.builtin "zip.__getattribute__") _ _) _ _ _);refine call_meets F.slot_zip_getattribute (hT _) Mg (F.args_zip_getattribute_2 _ _) (Al a xs _) ⟨hx, hA, fun h' tk' e hx'=>?_⟩) | wp_step))
 obtain⟨t',u',he⟩:=hx'.there
 show wpAny _ _ (getattributeRaised _ _ _ _ _ _ _) _ _ _
 unfold getattributeRaised
 repeat (any_goals (first | assumption | wp_step))
 all_goals exact h _ _ hx'.keeps
end Fg
end
section
namespace Fg
open PySem PySem.Spec L2
noncomputable def DS(h:Heap)(z TI TO i j:Addr):Prop:=∃(T:Addr) (b:Bool) (o:Obj), h.get? T=some o/\(T≠z/\T≠i/\T≠j)/\h.get? z=some { cls:=.type "zip", dict:=none, data:=.fields #[rawInt T, .bool b, .bool false, .ref TI, .ref TO], slots:=#[] }
structure Zu(l m:Bool)(h:Heap)(z TI TO i j a b:Addr)(n:Nat)(xs ys:Array Value):Prop where
 z:DS h z TI TO i j
 ti:IsPair h TI (.ref i) (.ref j)
 i1:gq l h i a n
 i2:gq m h j b n
 s1:dN l h a xs
 s2:dN m h b ys
section
variable{prog:Program}{w:World}{A:Around}{E:Value->Shared->Prop}{s:Shared}
theorem sJ{z TI TO i j:Addr}{Q:Bool->Shared->Prop}(Z:DS s.heap z TI TO i j)
  (k:∀h',DS h' z TI TO i j->Heap.SameBut z s.heap h'->Q false { s with heap:=h' }):wpAny (model prog w) A (Builtin.SmallTypes.ownedTupleIsFree (.ref z)) Q E s:=by
 obtain⟨T,b,o,gT,ne,gz⟩:=id Z
 unfold Builtin.SmallTypes.ownedTupleIsFree
 refine wpAny_bind (wpAny_field gz rfl (x:=rawInt T) rfl ?_)
 show wpAny _ _ (loadIfAlive ((T:Int).toNat) >>= _) _ _ _
 rw[Int.toNat_natCast]
 refine wpAny_bind (PySem.W.kdx_alive gT ?_)
 simp only[Option.isNone_some,Bool.false_eq_true,if_false]
 refine wpAny_bind (wpAny_field gz rfl (x:=.bool b) rfl ?_)
 cases b with
 | true =>
  rw[if_neg (show ¬ ((Value.bool true != Value.bool true)=true) from Bool.false_ne_true)]
  exact wpAny_pure (k s.heap Z (Heap.SameBut.refl _ _))
 | false =>
  rw[if_pos (show (Value.bool false != Value.bool true)=true from rfl)]
  refine wpAny_bind (wpAny_setField_rec gz (by simp) fun h1 z1 b1=>wpAny_pure (k h1 ⟨T,true,o,b1.extBut _ _ ne.1 gT,ne,z1⟩ b1))
theorem Ba{l m:Bool}{z TI TO i j a b:Addr}{n:Nat}{xs ys:Array Value}{x y:Value}{Q:Value->Shared->Prop}(D:ZipApart z TI TO i j a b)(Z:Zu l m s.heap z TI TO i j a b n xs ys)(hx:xs[n]? = some x)(hy:ys[n]? = some y)
  (k:∀h',Zu l m h' z TI TO i j a b (n+1) xs ys->IsPair h' s.heap.objs.size x y->h'.objs.size=s.heap.objs.size+1->(∀c o,c≠z->c≠TO->c≠i->c≠j->s.heap.get? c=some o->h'.get? c=some o)->Q (.ref s.heap.objs.size) { s with heap:=h' }) :
  wpAny (model prog w) A (Builtin.«zip.__next__» ⟨[.ref z], []⟩) (fun fin s'=>∃v, fin=.done (.ret v)/\Q v s') E s:=by
 obtain⟨gz,gi,t1,t2,q1,q2⟩:=Z
 obtain⟨T,b0,o,gT,ne,LA⟩:=id gz
 show wpAny _ _ (field (.ref z) 2 >>= _) _ _ _;refine wpAny_bind (wpAny_field LA rfl (x:=.bool false) rfl ?_)
 show wpAny _ _ (field (.ref z) 3 >>= _) _ _ _;refine wpAny_bind (wpAny_field LA rfl (x:=.ref TI) rfl (wpAny_bind (wpAny_seqItems gi rfl ?_)))
 show wpAny _ _ (Builtin.SmallTypes.ownedTupleIsFree (.ref z) >>= _) _ _ _
 refine wpAny_bind (sJ gz fun h1 z1 b1=>?_)
 simp only[Bool.false_eq_true,if_false]
 refine wpAny_bind ?_
 rw[<- Array.forIn_toList]
 simp only[List.forIn_cons,List.forIn_nil]
 refine wpAny_bind (wpAny_bind (wpAny_holding ?_))
 show wpAny _ _ (Builtin.SmallTypes.nextOf (.ref i) >>= _) _ _ _
 refine wpAny_bind (fU (t1.at fun o e=>b1.extBut _ _ D.i1z e) (q1.at fun o e=>b1.extBut _ _ D.l1z e) hx fun h2 t1' b2=>wpAny_pure (wpAny_pure ?_))
 refine wpAny_bind (wpAny_bind (wpAny_holding ?_))
 show wpAny _ _ (Builtin.SmallTypes.nextOf (.ref j) >>= _) _ _ _
 refine wpAny_bind (fU (t2.at fun o e=>b2.extBut _ _ D.i12.symm (b1.extBut _ _ D.i2z e)) (q2.at fun o e=>b2.extBut _ _ D.l2i1 (b1.extBut _ _ D.l2z e)) hy fun h3 t2' b3=>wpAny_pure (wpAny_pure (wpAny_pure ?_)))
 show wpAny _ _ (newTuple [x,y] >>= _) _ _ _
 refine wpAny_bind (wpAny_newTuple (wpAny_pure ⟨_,rfl,?_⟩))
 have sz:h3.objs.size=s.heap.objs.size:=by rw[b3.1,b2.1,b1.1]
 have k3:∀c o,c≠z->c≠TO->c≠i->c≠j->s.heap.get? c=some o->h3.get? c=some o:=fun c o c1 c2 c3 c4 e=>b3.extBut _ _ c4 (b2.extBut _ _ c3 (b1.extBut _ _ c1 e))
 have up:∀c o, h3.get? c=some o->(h3.push { cls:=.type "tuple", data:=.seq #[x, y] }).get? c=some o:=fun c o e=>Heap.get?_push_of_some _ e
 obtain⟨T1,bb,o1,g1,ne1,gz1⟩:=id z1
 have z3:DS (h3.push { cls:=.type "tuple", data:=.seq #[x, y] }) z TI TO i j:=⟨T1, bb, o1, up _ _ (b3.extBut _ _ ne1.2.2 (b2.extBut _ _ ne1.2.1 g1)), ne1, up _ _ (b3.extBut _ _ D.i2z.symm (b2.extBut _ _ D.i1z.symm gz1))⟩
 have p3:IsPair (h3.push { cls:=.type "tuple", data:=.seq #[x, y] }) h3.objs.size x y:=Heap.get?_push_size _ rfl
 show Q (.ref h3.objs.size) _
 rw[sz] at p3 ⊢
 exact k _ ⟨z3,up _ _ (k3 _ _ D.TIz D.TITO D.TIi1 D.TIi2 gi),t1'.at fun o e=>up _ _ (b3.extBut _ _ D.i12 e),t2'.at fun o e=>up _ _ e,q1.at fun o e=>up _ _ (k3 _ _ D.l1z D.l1TO D.l1i1 D.l1i2 e),q2.at fun o e=>up _ _ (k3 _ _ D.l2z D.l2TO D.l2i1 D.l2i2 e)⟩ p3 (by rw[Heap.size_push,sz]) fun c o c1 c2 c3 c4 e=>up _ _ (k3 c o c1 c2 c3 c4 e)
theorem A9{l m:Bool}{z TI TO i j a b:Addr}{n:Nat}{xs ys:Array Value}{Q:PySem.Fin->Shared->Prop}(hh:A.handled=none)(D:ZipApart z TI TO i j a b)(Z:Zu l m s.heap z TI TO i j a b n xs ys)(hn:xs[n]? = none\/ys[n]? = none)
  (k:∀h' e, (∀c o, c≠z->c≠TO->c≠i->c≠j->s.heap.get? c=some o->h'.get? c=some o)->(∃o, h'.get? e=some o/\o.cls=.type "StopIteration")->E (.ref e) { s with heap:=h' }) :
  wpAny (model prog w) A (Builtin.«zip.__next__» ⟨[.ref z], []⟩) Q E s:=by
 obtain⟨gz,gi,t1,t2,q1,q2⟩:=Z
 obtain⟨T,b0,o,gT,ne,LA⟩:=id gz
 show wpAny _ _ (field (.ref z) 2 >>= _) _ _ _;refine wpAny_bind (wpAny_field LA rfl (x:=.bool false) rfl ?_)
 show wpAny _ _ (field (.ref z) 3 >>= _) _ _ _;refine wpAny_bind (wpAny_field LA rfl (x:=.ref TI) rfl (wpAny_bind (wpAny_seqItems gi rfl ?_)))
 show wpAny _ _ (Builtin.SmallTypes.ownedTupleIsFree (.ref z) >>= _) _ _ _
 refine wpAny_bind (sJ gz fun h1 z1 b1=>?_)
 simp only[Bool.false_eq_true,if_false]
 refine wpAny_bind ?_
 rw[<- Array.forIn_toList]
 simp only[List.forIn_cons,List.forIn_nil]
 refine wpAny_bind (wpAny_bind (wpAny_holding ?_))
 show wpAny _ _ (Builtin.SmallTypes.nextOf (.ref i) >>= _) _ _ _
 cases hx:xs[n]? with
 | none =>
  refine wpAny_bind (jH hh (t1.at fun o e=>b1.extBut _ _ D.i1z e) (q1.at fun o e=>b1.extBut _ _ D.l1z e) hx fun h2 e b2 he=>?_)
  exact k h2 e (fun c o c1 _ c3 _ q=>b2 _ _ c3 (b1.extBut _ _ c1 q)) he
 | some x =>
  have hy:ys[n]? = none:=hn.resolve_left (by rw[hx];simp)
  refine wpAny_bind (fU (t1.at fun o e=>b1.extBut _ _ D.i1z e) (q1.at fun o e=>b1.extBut _ _ D.l1z e) hx fun h2 t1' b2=>wpAny_pure (wpAny_pure ?_))
  refine wpAny_bind (wpAny_bind (wpAny_holding ?_))
  show wpAny _ _ (Builtin.SmallTypes.nextOf (.ref j) >>= _) _ _ _
  refine wpAny_bind (jH hh (t2.at fun o e=>b2.extBut _ _ D.i12.symm (b1.extBut _ _ D.i2z e)) (q2.at fun o e=>b2.extBut _ _ D.l2i1 (b1.extBut _ _ D.l2z e)) hy fun h3 e b3 he=>?_)
  exact k h3 e (fun c o c1 _ c3 c4 q=>b3 _ _ c4 (b2.extBut _ _ c3 (b1.extBut _ _ c1 q))) he
end
end Fg
end
section
namespace Fg
open PySem PySem.Spec L2
theorem gF:entryFor table "dict.update.loop" = some Builtin.«dict.update.loop»:=by first | exact entryFor_of_fast (by kernel_rfl) | exact entryFor_of_tree (by kernel_rfl)
theorem gE:plainId "dict.update.loop" = true:=by decide +kernel
noncomputable def ZS(l m:Bool)(h:Heap)(z TI TO i j a b:Addr)(n:Nat)(xs ys:Array Value):Prop:=Zp l m h z TI TO i j a b n xs ys .none\/Zu l m h z TI TO i j a b n xs ys
section
variable{prog:Program}{w:World}{A:Around}{E:Value->Shared->Prop}{s:Shared}
theorem ZS.push{l m:Bool}{h:Heap}{z TI TO i j a b:Addr}{n:Nat}{xs ys:Array Value}(Z:ZS l m h z TI TO i j a b n xs ys){h':Heap}(k:∀c o,c≠z\/True->h.get? c=some o->h'.get? c=some o):ZS l m h' z TI TO i j a b n xs ys:=by
 have k':∀c o,h.get? c=some o->h'.get? c=some o:=fun c o e=>k c o (.inr trivial) e
 rcases Z with ⟨h1,h2,⟨u,v,h3⟩,h4,h5,h6,h7⟩ | ⟨⟨T,bb,o,g1,g2,g3⟩,h2,h4,h5,h6,h7⟩
 ·exact .inl ⟨k' _ _ h1,k' _ _ h2,⟨u,v,k' _ _ h3⟩,h4.at fun o e=>k' _ _ e,h5.at fun o e=>k' _ _ e,h6.at fun o e=>k' _ _ e,h7.at fun o e=>k' _ _ e⟩
 ·exact .inr ⟨⟨T,bb,o,k' _ _ g1,g2,k' _ _ g3⟩,k' _ _ h2,h4.at fun o e=>k' _ _ e,h5.at fun o e=>k' _ _ e,h6.at fun o e=>k' _ _ e,h7.at fun o e=>k' _ _ e⟩
theorem Bb{l m:Bool}{z TI TO i j a b:Addr}{n:Nat}{xs ys:Array Value}{x y:Value}{Q:Option Value->Shared->Prop}(D:ZipApart z TI TO i j a b)(Z:ZS l m s.heap z TI TO i j a b n xs ys)(hx:xs[n]? = some x)(hy:ys[n]? = some y)
  (k:∀h',ZS l m h' z TI TO i j a b (n+1) xs ys->IsPair h' s.heap.objs.size x y->(∀c o,c≠z->c≠TO->c≠i->c≠j->s.heap.get? c=some o->h'.get? c=some o)->Q (some (.ref s.heap.objs.size)) { s with heap:=h' }) :
  wpAny (model prog w) A (pyNext (.ref z)) Q E s:=by
 rcases Z with Z | Z
 ·have lt:∀{c:Addr} {o:Obj},s.heap.get? c=some o->c≠s.heap.objs.size:=fun e=>Nat.ne_of_lt (Heap.lt_size e)
  have li:∀{l:Bool} {c d:Addr} {q:Nat},gq l s.heap c d q->c≠s.heap.objs.size:=fun {l c d q} e=>by
   cases l <;> (obtain⟨o,e,_⟩:=e;exact lt e)
  refine wW D ⟨Z.z,Z.ti,Z.to,Z.i1,Z.i2⟩ Z.s1 Z.s2 hx hy fun h' Z' p _ kp=>k h' (.inr ⟨⟨s.heap.objs.size,false,_,p,⟨(lt Z.z).symm,(li Z.i1).symm,(li Z.i2).symm⟩,Z'.z⟩,Z'.ti,Z'.i1,Z'.i2,Z'.s1,Z'.s2⟩) p kp
 ·obtain⟨T,bb,o,g1,g2,g3⟩:=id Z.z
  have ty:s.TypeIs (.ref z) "zip":=⟨_, g3, rfl⟩
  unfold pyNext;exact wpAny_bind (wpAny_attempt (wpAny_callSpecial?_slot (name:=Str.ofString "__next__") ty F.slot_zip_next (wpAny_call_entry F.slot_zip_next ty F.entry_zip_next (Ba D Z hx hy fun h' c1 c2 c3 c4=>wpAny_pure (k h' (.inr c1) c2 c4)) (F.args_zip_next_1 _))))
theorem Bc{l m:Bool}{z TI TO i j a b:Addr}{n:Nat}{xs ys:Array Value}{Q:Option Value->Shared->Prop}(hh:A.handled=none)(D:ZipApart z TI TO i j a b)(Z:ZS l m s.heap z TI TO i j a b n xs ys)(hn:xs[n]? = none\/ys[n]? = none)
  (k:∀h',(∀c o,c≠z->c≠TO->c≠i->c≠j->s.heap.get? c=some o->h'.get? c=some o)->Q none { s with heap:=h' }):wpAny (model prog w) A (pyNext (.ref z)) Q E s:=by
 rcases Z with Z | Z
 ·exact wY hh D ⟨Z.z,Z.ti,Z.to,Z.i1,Z.i2⟩ Z.s1 Z.s2 hn k
 ·obtain⟨T,bb,o,g1,g2,g3⟩:=id Z.z
  have ty:s.TypeIs (.ref z) "zip":=⟨_, g3, rfl⟩
  unfold pyNext;refine wpAny_bind (wpAny_attempt (wpAny_callSpecial?_slot (name:=Str.ofString "__next__") ty F.slot_zip_next (wpAny_call_entry F.slot_zip_next ty F.entry_zip_next (A9 hh D Z hn fun h' e hk he=>?_) (F.args_zip_next_1 _))))
  obtain⟨o,ho,hc⟩:=he
  exact wpAny_bind (wpAny_isInstance (T:="StopIteration") (b:=true) ⟨o, ho, hc⟩ isSubtype_stop (wpAny_pure (k _ hk)))
variable{K:Type}[DecidableEq K]{knd:KeyKind prog w K}
structure Fy(D z TI TO i j a b:Addr):Prop where
 z:D≠z
 ti:D≠TI
 to:D≠TO
 i:D≠i
 j:D≠j
 a:D≠a
 b:D≠b
theorem uM{l m:Bool}{D z TI TO i j a b:Addr}{xs ys:Array Value}(Ap:ZipApart z TI TO i j a b)(O:Fy D z TI TO i j a b)(hh:A.handled=none){R:Result->Shared->Prop}:∀(ps:List (K×Value)) (n:Nat) (s:Shared) (vs:List (K×Value)),
  ZS l m s.heap z TI TO i j a b n xs ys->s.heap.DictOf knd D vs->vs.length+ps.length<=100000->(∀(q:Nat) p,ps[q]? = some p->∃x,xs[n+q]? = some x/\knd.is p.1 x=true/\ys[n+q]? = some p.2)->(xs[n+ps.length]? = none\/ys[n+ps.length]? = none) ->
  (∀h' tk,h'.DictOf knd D (ps.foldl (fun v p=>stored v p.1 p.2) vs)->(∀c o,c≠z->c≠TO->c≠i->c≠j->c≠D->s.heap.get? c=some o->h'.get? c=some o)->R (.ok (.ret .none)) { s with heap:=h',toks:=tk }) ->
  codeAny (model prog w) A (.builtin "dict.update.loop" ⟨[.ref D, .ref z, rawInt (n:Int), .none], []⟩) R s
 | [],n,s,vs,Z,hd,hl,hp,he,hR=>by
  refine codeAny_builtin gF ?_
  rw[Around.under_plainId gE _]
  show wpAny _ A.in1 (pyNext (.ref z) >>= _) _ _ s
  refine wpAny_bind (Bc hh Ap Z (by simpa using he) fun h' kp=>?_)
  refine wpAny_bind (wpAny_pure ?_)
  refine wpAny_pure ?_
  obtain⟨o,es,ep,ho,r⟩:=hd
  exact hR h' s.toks ⟨o,es,ep,kp _ _ O.z O.to O.i O.j ho,r⟩ fun c o c1 c2 c3 c4 _ e=>kp c o c1 c2 c3 c4 e
 | p::ps,n,s,vs,Z,hd,hl,hp,he,hR=>by
  obtain⟨x,hx,hk,hy⟩:=hp 0 p rfl
  simp only[List.length_cons] at hl
  refine codeAny_builtin gF ?_
  rw[Around.under_plainId gE _]
  show wpAny _ A.in1 (pyNext (.ref z) >>= _) _ _ s
  refine wpAny_bind (Bb Ap Z hx hy fun h1 Z1 pr kp=>?_)
  have hd1:h1.DictOf knd D vs:=by
   obtain⟨o,es,ep,ho,r⟩:=hd
   exact⟨o,es,ep,kp _ _ O.z O.to O.i O.j ho,r⟩
  have hT:({ s with heap:=h1 }:Shared).TypeIs (.ref s.heap.objs.size) "tuple":=⟨_, pr, rfl⟩
  refine wpAny_bind (wpAny_holding (wpAny_bind (wpAny_tryCatch ?_)))
  unfold Builtin.Dict.pairItems
  refine wpAny_bind (wpAny_typeOf hT ?_)
  rw[if_pos (by decide +kernel)]
  refine wpAny_bind (wpAny_seqItems (s:={ s with heap:=h1 }) pr rfl (wpAny_pure ?_))
  show wpAny _ _ (holding [x,p.2] (dictSet D x p.2)) _ _ _
  refine wpAny_holding (wpAny_dictSet_pairs (s:={ s with heap:=h1 }) hk hd1 (fun h2 hd2 sb=>?_) (Nat.le_trans (by omega:vs.length<=100000) (by decide)))
  have lenS:(stored vs p.1 p.2).length<=vs.length+1:=by unfold stored;split <;> simp
  have Z2:ZS l m h2 z TI TO i j a b (n+1) xs ys:=by
   rcases Z1 with ⟨e1,e2,⟨u,v,e3⟩,e4,e5,e6,e7⟩ | ⟨⟨T,bb,o,g1,g2,g3⟩,e2,e4,e5,e6,e7⟩
   ·exact .inl ⟨sb.extBut _ _ O.z.symm e1,sb.extBut _ _ O.ti.symm e2,⟨u,v,sb.extBut _ _ O.to.symm e3⟩,e4.at fun o e=>sb.extBut _ _ O.i.symm e,e5.at fun o e=>sb.extBut _ _ O.j.symm e,e6.at fun o e=>sb.extBut _ _ O.a.symm e,e7.at fun o e=>sb.extBut _ _ O.b.symm e⟩
   ·refine .inr ⟨?_,sb.extBut _ _ O.ti.symm e2,e4.at fun o e=>sb.extBut _ _ O.i.symm e,e5.at fun o e=>sb.extBut _ _ O.j.symm e,e6.at fun o e=>sb.extBut _ _ O.a.symm e,e7.at fun o e=>sb.extBut _ _ O.b.symm e⟩
    by_cases hTD:T=D
    ·obtain⟨o',_,_,ho',_⟩:=hd2
     exact⟨T,bb,o',by rw[hTD];exact ho',g2,sb.extBut _ _ O.z.symm g3⟩
    ·exact⟨T,bb,o,sb.extBut _ _ hTD g1,g2,sb.extBut _ _ O.z.symm g3⟩
  refine wpAny_pure ⟨Code.quiet_builtin _ (by decide +kernel),?_⟩
  have ih:=uM Ap O hh ps (n+1) { s with heap:=h2,toks:=s.toks+1 } (stored vs p.1 p.2) Z2 hd2 (by omega) (fun q p' hq=>by
   have:=hp (q+1) p' (by simpa using hq)
   rw[show n+(q+1)=n+1+q by omega] at this;exact this) (by rw[show n+1+ps.length=n+(p::ps).length by simp;omega];exact he) (fun h' tk hd' kp'=>hR h' tk hd' fun c o c1 c2 c3 c4 c5 e=>kp' c o c1 c2 c3 c4 c5 (sb.extBut _ _ c5 (kp c o c1 c2 c3 c4 e)))
  exact ih
end
end Fg
end
section
namespace Fg
open PySem PySem.Spec L2
section
variable{prog:Program}{w:World}{A:Around}{E:Value->Shared->Prop}{s:Shared}{K:Type}[DecidableEq K]{knd:KeyKind prog w K}
theorem Dw{l m:Bool}{z TI TO i j a b:Addr}{xs ys:Array Value}{Q:Value->Shared->Prop}(hh:A.handled=none)(Ap:ZipApart z TI TO i j a b)(Z:Zp l m s.heap z TI TO i j a b 0 xs ys .none)(ps:List (K×Value))(hl:ps.length<=100000)
  (hp:∀(q:Nat) p,ps[q]? = some p->∃x,xs[q]? = some x/\knd.is p.1 x=true/\ys[q]? = some p.2) (he:xs[ps.length]? = none\/ys[ps.length]? = none)
  (k:∀h' tk,h'.DictOf knd s.heap.objs.size (ps.foldl (fun v p=>stored v p.1 p.2) [])->(∀c o,c≠z->c≠TO->c≠i->c≠j->s.heap.get? c=some o->h'.get? c=some o)->Q (.ref s.heap.objs.size) { s with heap:=h',toks:=tk }) :
  wpAny (model prog w) A (call (.type "dict") [.ref z]) Q E s:=by
 refine callType_codes (Q₁:=fun obj s₁=>obj=.ref s.heap.objs.size/\s₁={ s with heap:=s.heap.push { cls:=.type "dict", data:=.dict #[] } }) F.kt_called_dict (F.kt_typeCall_dict_1 _) F.entry_dict_init (kt_code_dict_new _ ⟨rfl, rfl⟩) ?_
 rintro obj s₁ ⟨rfl,rfl⟩
 have hnew:(s.heap.push { cls:=.type "dict", data:=.dict #[] }).DictOf knd s.heap.objs.size []:=Heap.DictOf.new s.heap
 have lt:∀{c:Addr} {o:Obj},s.heap.get? c=some o->s.heap.objs.size≠c:=fun e=>Nat.ne_of_gt (Heap.lt_size e)
 have li:∀{l:Bool} {c d:Addr} {q:Nat},gq l s.heap c d q->s.heap.objs.size≠c:=fun {l c d q} e=>by cases l <;> (obtain⟨o,e,_⟩:=e;exact lt e)
 have ls:∀{l:Bool} {c:Addr} {q:Array Value},dN l s.heap c q->s.heap.objs.size≠c:=fun {l c q} e=>Nat.ne_of_gt (xD e)
 obtain⟨u,v,to⟩:=Z.to
 have O:Fy s.heap.objs.size z TI TO i j a b:=⟨lt Z.z,lt Z.ti,lt to,li Z.i1,li Z.i2,ls Z.s1,ls Z.s2⟩
 have Z1:ZS l m (s.heap.push { cls:=.type "dict", data:=.dict #[] }) z TI TO i j a b 0 xs ys:=ZS.push (.inl Z) fun c o _ e=>Heap.get?_push_of_some _ e
 have gz:(s.heap.push { cls:=.type "dict", data:=.dict #[] }).get? z=some { cls:=.type "zip", dict:=none, data:=.fields #[.none, .bool false, .bool false, .ref TI, .ref TO], slots:=#[] }:=Heap.get?_push_of_some _ Z.z
 have hT:({ s with heap:=s.heap.push { cls:=.type "dict", data:=.dict #[] } }:Shared).TypeIs (.ref z) "zip":=⟨_, gz, rfl⟩
 refine⟨hnew.typeIs,F.args_dict_init_2 _ _,?_⟩
 unfold Builtin.«dict.__init__»
 refine wpAny_bind ?_
 unfold Builtin.Dict.selfAndRest
 refine wpAny_bind (wpAny_notOrdered_dict hnew.typeIs ?_)
 show wpAny _ _ (pure (s.heap.objs.size,[Value.ref z])) _ _ _
 refine wpAny_pure ?_
 show wpAny _ _ (Builtin.Dict.updateFrom "dict.__init__" s.heap.objs.size (.ref z) [] .none) _ _ _
 unfold Builtin.Dict.updateFrom
 refine wpAny_bind (wpAny_typeOf hT ?_)
 rw[if_pos (by decide +kernel)]
 refine wpAny_bind (Dq (s:={ s with heap:=s.heap.push { cls:=.type "dict", data:=.dict #[] } }) gz hh fun h1 t1 Nn=>?_)
 rw[if_pos (show Option.isNone (none:Option Value)=true from rfl)]
 refine wpAny_bind (wpAny_rule ?_)
 have gz1:IsZip h1 z TI TO .none:=Nn _ _ gz
 refine wpAny_bind (wpAny_pyIter_zip (s:={ s with heap:=h1,toks:=t1 }) gz1 ?_)
 refine wpAny_pure ⟨Code.quiet_builtin _ (by decide +kernel),?_⟩
 have hd1:h1.DictOf knd s.heap.objs.size []:=by
  obtain⟨o,es,ep,ho,r⟩:=hnew
  exact⟨o,es,ep,Nn _ _ ho,r⟩
 exact uM (A:=A.in1) (R:=wants (fun r s₂=>r=Value.none/\Q (.ref s.heap.objs.size) s₂) E) (knd:=knd) Ap O hh ps 0 { s with heap:=h1,toks:=t1 } [] (Z1.push fun c o _ e=>Nn _ _ e) hd1 (by simpa using hl) (fun q p hq=>by rw[Nat.zero_add];exact hp q p hq) (by rw[Nat.zero_add];exact he) fun h' tk hd' kp'=>⟨rfl,k h' tk hd' fun c o c1 c2 c3 c4 e=>kp' c o c1 c2 c3 c4 (Ne.symm (lt e)) (Nn _ _ (Heap.get?_push_of_some _ e))⟩
end
noncomputable def tDz(K:W.Frag)(t:TA):TE:=fun σ H Q=>t σ H fun vs H1=>∃(l m:Bool) (c d:Addr) (xs ys:List V) (ps:List (Key×V)),vs=[.ref c,.ref d]/\ME l K H1 c xs/\ME m K H1 d ys/\ps.length<=1000 /\
 (∀(q:Nat) p,ps[q]? = some p->xs[q]? = some (kV p.1)/\ys[q]? = some p.2)/\(xs[ps.length]? = none\/ys[ps.length]? = none)/\∀p,H1 p=none->Q (.ref p) (upd H1 p (.dK (cS [] ps)))
theorem p9:∀(ps:List (Key×V)) {xs ys:List V} {its Lo:List Value},Vals xs its->Vals ys Lo->(∀(q:Nat) p,ps[q]? = some p->xs[q]? = some (kV p.1)/\ys[q]? = some p.2) ->
  ∃ps':List (Key×Value),KV ps ps'/\∀(q:Nat) p,ps'[q]? = some p->∃x,its[q]? = some x/\RelV (kV p.1) x/\Lo[q]? = some p.2
 | [],_,_,_,_,_,_,_=>⟨[],.nil,fun q p h=>by simp at h⟩
 | p::ps,xs,ys,its,Lo,r1,r2,h=>by
  obtain⟨h1,h2⟩:=h 0 p rfl
  cases r1 with
  | nil=>simp at h1
  | @cons x u xs its rx r1 =>
   cases r2 with
   | nil=>simp at h2
   | @cons y w ys Lo ry r2 =>
    obtain⟨ps',k,f⟩:=p9 ps r1 r2 fun q p' hq=>by simpa using h (q+1) p' (by simpa using hq)
    have e1:x=kV p.1:=by simpa using h1
    have e2:y=p.2:=by simpa using h2
    subst e1 e2
    refine⟨(p.1,w)::ps',.cons ⟨rfl,ry⟩ k,fun q p' hq=>?_⟩
    cases q with
    | zero=>cases hq;exact⟨u,rfl,rx,rfl⟩
    | succ q=>simpa using f q p' (by simpa using hq)
section
variable{X:Cx}{t:TA}
theorem K0{a b:Expr}{p1 p2 q1 q2:Pos}(hc:X.calm=true)(hgd:Gl X "dict")(hmd:X.mg "dict" = none)(hgz:Gl X "zip")(hmz:X.mg "zip" = none)(ha:PA X [a, b] t)(hs:starEach [a, b] X.env=[(false, eval a X.env), (false, eval b X.env)])(hs2:starEach [b] X.env=[(false, eval b X.env)]) :
  PE X (.Call (.Name "dict" p1) [.Call (.Name "zip" p2) [a, b] [] q2] [] q1) (tDz X.K t):=by
 intro pins s σ H Q I h
 refine wpAny_Call_Name_kw (eK I hgd hmd (show bootBuiltins ("dict" : Str)=some (.type "dict") by decide +kernel) ?_ (by decide) (by decide))
 refine PyProof.Rows.callWith_type1 ?_ rfl rfl
 show wpAny _ _ (spliced ((false, eval (.Call (.Name "zip" p2) [a, b] [] q2) X.env)::backTo q1 (starEach [] X.env))) _ _ s
 refine Calls.spliced_cons ?_
 refine wpAny_Call_Name_kw (eK I hgz hmz (show bootBuiltins ("zip" : Str)=some (.type "zip") by decide +kernel) (PyProof.Rows.callWith_type1 (aT (ha q2 pins s σ H _ I h) fun us s1 ⟨vs, H1, I1, r1, q1⟩=>?_) (by rw[hs, hs2]) (by rw[hs2];rfl)) (by decide) (by decide))
 obtain⟨l,m,c,d,xs,ys,ps,e,s1',s2',hl,hp,he,q⟩:=q1
 subst e
 cases r1 with
 | cons r rr =>
  cases rr with
  | cons r' rr =>
   cases rr
   cases r
   cases r'
   obtain⟨its,rv,p1⟩:=s1'.at I1
   obtain⟨Lo,rw_,p2⟩:=s2'.at I1
   have c1:=xD p1
   have c2:=xD p2
   obtain⟨ps',kv,f⟩:=p9 ps rv rw_ hp
   have hlen:ps'.length=ps.length:=kv.length.symm
   refine wZ p1 p2 fun h' Z kp=>?_
   refine Calls.spliced_nil ?_
   have I2:Inv X pins σ H1 { s1 with heap:=h' }:=I1.kept (t':=s1.toks) kp
   have lv:=rv.length
   have lw:=rw_.length
   refine Dw (s:={ s1 with heap:=h' }) (knd:=aI X.prog X.w) (I2.ok.hd hc) (AK c1 c2) ⟨Z.z,Z.ti,Z.to,Z.i1,Z.i2,p1.at fun o e=>kp _ _ e,p2.at fun o e=>kp _ _ e⟩ ps' (by omega) (fun q p hq=>?_) ?_ fun h2 tk hd kp2=>?_
   ·obtain⟨x,g1,g2,g3⟩:=f q p hq
    exact⟨x,by simpa using g1,l9 g2,by simpa using g3⟩
   ·rw[hlen]
    rcases he with he | he
    ·left;rw[List.getElem?_eq_none_iff] at he;simp;omega
    ·right;rw[List.getElem?_eq_none_iff] at he;simp;omega
   ·have hz:(cS [] ps).length<=sizeLine:=Nat.le_trans (gA ps []) (Nat.le_trans (by simpa using hl:([]:List (Key×V)).length+ps.length<=1000) (by decide))
    have old:∀c o,s1.heap.get? c=some o->h2.get? c=some o:=fun c o e=>by
     have lt:c<s1.heap.objs.size:=Heap.lt_size e
     have lt':∀n:Nat,c≠s1.heap.objs.size+n:=fun n=>Nat.ne_of_lt (Nat.lt_of_lt_of_le lt (Nat.le_add_right _ n))
     exact kp2 c o (lt' _) (lt' _) (lt' 0) (lt' _) (kp _ _ e)
    have I3:Inv X pins σ (upd H1 h'.objs.size (.dK (cS [] ps))) { s1 with heap:=h2,toks:=tk }:=I1.laid (a:=h'.objs.size) (o:=.dK (cS [] ps)) (t':=tk) old (by
     have:s1.heap.objs.size+4<h'.objs.size:=Heap.lt_size Z.z
     omega) (sr hz (beq_eq_false_iff_ne.mpr (Ne.symm (Nat.ne_of_lt I2.big))) (KV.merge kv .nil) hd)
    exact⟨.ref h'.objs.size,_,I3,rfl,q _ (I1.hok.fresh (by
     have:s1.heap.objs.size+4<h'.objs.size:=Heap.lt_size Z.z
     omega))⟩
end
section
variable{B:Bd}{Φ:aZ}{E:Gx}{F F' F1:Addr->Prop}{ρ ρ' ρ1:List Addr}{H H' H1:Hp}{M M':MH}{σD:Sg}{σ:L2.St}{Q:VK}
theorem xC{d:D}{v:V}{ds:List D}(S:SR B F ρ M H)(r:RD B F ρ H d v)(h:AW M d=some ds):∃l a vs,v=.ref a/\ME l B.K H a vs/\aj B F ρ H ds vs:=by
 unfold AW at h
 split at h
 ·rename_i xs hv
  cases h
  obtain⟨a,vs,e,q,rr⟩:=bf S r hv
  exact⟨true,a,vs,e,q,rr⟩
 ·rename_i xs hv
  cases h
  obtain⟨a,vs,e,q,rr⟩:=iQ S r hv
  exact⟨false,a,vs,e,q,rr⟩
 ·cases h
theorem Ak:∀(ds es:List D) (xs ys:List V) (cC rM:List (Ky×D)) (kvs:List (Key×V)),wQ cC ds es=some rM->aj B F ρ H ds xs->aj B F ρ H es ys->kvs.map (·.1)=cC.map (·.1)->aj B F ρ H (cC.map (·.2)) (kvs.map (·.2)) ->
  ∃ps:List (Key×V),ps.length<=ds.length/\(∀(q:Nat) p,ps[q]? = some p->xs[q]? = some (kV p.1)/\ys[q]? = some p.2)/\(xs[ps.length]? = none\/ys[ps.length]? = none)/\(cS kvs ps).map (·.1)=rM.map (·.1)/\aj B F ρ H (rM.map (·.2)) ((cS kvs ps).map (·.2))
 | [],es,xs,ys,cC,rM,kvs,h,r1,r2,e1,e2=>by
  simp only[aj] at r1
  subst r1
  simp only[wQ] at h
  cases h
  exact⟨[],Nat.le_refl _,fun q p hq=>by simp at hq,.inl rfl,e1,e2⟩
 | d::ds,[],xs,ys,cC,rM,kvs,h,r1,r2,e1,e2=>by
  simp only[aj] at r2
  subst r2
  simp only[wQ] at h
  cases h
  exact⟨[],Nat.zero_le _,fun q p hq=>by simp at hq,.inr rfl,e1,e2⟩
 | d::ds,e::es,xs,ys,cC,rM,kvs,h,r1,r2,e1,e2=>by
  simp only[aj] at r1 r2
  obtain⟨x,xs',rfl,rx,r1⟩:=r1
  obtain⟨y,ys',rfl,ry,r2⟩:=r2
  simp only[wQ] at h
  cases hk:keyOf d with
  | none=>rw[hk] at h;cases h
  | some k =>
   rw[hk] at h
   obtain⟨p1,p2⟩:=yi (k:=k) ry e1 e2
   obtain⟨ps,g1,g2,g3,g4,g5⟩:=Ak ds es xs' ys' _ rM (putK kvs k y) h r1 r2 p1 p2
   refine⟨(k,y)::ps,by simp;omega,fun q p hq=>?_,by simpa using g3,g4,g5⟩
   cases q with
   | zero=>cases hq;exact⟨by simp[nk hk rx],by simp⟩
   | succ q=>simpa using g2 q p (by simpa using hq)
theorem Ga{a b:Fg.E}(h:T B Φ E (.dz a b) σ H Q):tDz B.K (bG (T B Φ E a) (bG (T B Φ E b) gI)) σ H Q:=by
 obtain⟨σD,M,F,ρ,S,r,h⟩:=h
 simp only[ev] at h
 refine T.two S r rfl h fun x y M2 F2 ρ2 H2 v w S2 _ rx ry h2=>?_
 split at h2
 ·rename_i ds es hx hy
  split at h2
  ·rename_i hl
   split at h2
   ·rename_i cC hz
    obtain⟨l,c,xs,rfl,q1,rr1⟩:=xC S2 rx hx
    obtain⟨m,d,ys,rfl,q2,rr2⟩:=xC S2 ry hy
    obtain⟨ps,g1,g2,g3,g4,g5⟩:=Ak ds es xs ys [] cC [] hz rr1 rr2 rfl aj.nil
    have hl':ds.length<=1000:=of_decide_eq_true hl
    refine⟨l,m,c,d,xs,ys,ps,rfl,q1,q2,by omega,g2,g3,fun p hp=>?_⟩
    have e0:Ext F2 ρ2 H2 F2 (ρ2++[p]) (upd H2 p (.dK (cS [] ps))):=⟨⟨S2.sep,fun _ q=>q,fun a q _=>ak (by rintro rfl;exact q hp),List.prefix_append _ _,fun a q=>by
     rcases List.mem_append.mp q with q | q
     ·exact .inl q
     ·rw[List.mem_singleton.mp q];exact .inr hp,fun _ q=>.inl q⟩,fun b w u q=>by rw[ak (by rintro rfl;rw[hp] at q;cases q)];exact q⟩
    obtain⟨S',e⟩:=S2.lv (o:=.dK (cS [] ps)) (u:=.dct cC) hp ⟨_,av,g4,aj.mono e0 _ _ g5⟩
    refine h2 _ _ _ _ e S' ?_
    simp only[RD]
    exact⟨p,by rw[<- S2.len];simp,rfl⟩
   ·exact h2.elim
  ·exact h2.elim
 ·exact h2.elim
end
end Fg
end
section
namespace Fg
open PySem PySem.Spec L2
structure Gm where
 fns:List (Str×Nat×Nat)
 cst:List (Str×Nat)
 gQ:List Str
 cls:List (Str×Nat×Nat×Nat):=[]
 AY:List ((Nat×Str)×Nat×Nat):=[]
 C9:List Str:=[]
 exc:List (Str×Nat):=[]
 A4:List (Str×Nat×Nat×Int×Str):=[]
 rz:Bool:=true
 oq:List (Str×Nat×Nat):=[]
 cm:Bool:=true
 lt:Bool:=false
noncomputable def zD(G:Gm):Gm:={ G with fns:=[],cls:=[],AY:=[],A4:=[],rz:=false,cm:=false,lt:=false }
noncomputable def pO(G:Gm):Gm:={ zD G with lt:=true }
inductive Nd where
 | e (a:Expr) (c:E)
 | t (a:Expr) (c:E)
 | es (a:List Expr) (c:Es)
 | o (a:Option Expr) (c:O)
 | i (a:Expr) (c:Src)
 | s (a:Stmt) (c:S)
 | ss (a:List Stmt) (c:Ss)
 | m (a:List Expr) (c:Es)
noncomputable def nD(x:Str):Bool:=!(x == ("__debug__" : Str))&&!(x == ("__classdict__" : Str))
noncomputable def Bf(sc:Scope)(x:Str):Bool:=match sc.names.lookup x with | some .local=>true | some .cell=>true | some .free=>true | _=>false
noncomputable def CL(sc:Scope)(x:Str):Bool:=match sc.names.lookup x with | some .local=>true | some .cell=>true | _=>false
noncomputable def cW(sc:Scope)(x:Str):Bool:=match sc.names.lookup x with | some .globalImplicit=>true | _=>false
noncomputable def aQ:Expr->Bool | .Starred _ _=>false | _=>true
noncomputable def lZ:Expr->Bool | .ListComp _ _ _ _=>false | .SetComp _ _ _ _=>false | .DictComp _ _ _ _ _=>false | _=>true
noncomputable def vR:Expr->Bool | .Set _ _ _=>false | _=>true
noncomputable def nSl:Expr->Bool | .Slice _ _ _ _=>false | _=>true
noncomputable def rD:Expr->Bool | .UnaryOp _ _ _=>false | .BoolOp _ _ _=>false | .IfExp _ _ _ _=>false | .Compare _ _ _ _=>false | _=>true
noncomputable def vS:Expr->Bool | .Call (.Name _ _) _ _ _=>false | _=>true
noncomputable def Je:Const->D->Bool
 | .int i,.int j=>decide (i=j)
 | .str x,.str y=>decide (x=y)
 | .bool a,.bl b=>decide (a=b)
 | .none,.aq=>true
 | _,_=>false
noncomputable def f1S:F1->Str
 | .abs=>"abs" | .int=>"int"
noncomputable def EF:Mt->Option Str
 | .pop=>some "pop" | .reverse=>some "reverse" | _=>none
noncomputable def Mx:Bl->Option Str
 | .len=>some "len" | .dict=>some "dict" | _=>none
noncomputable def xZ(scope sc:Scope):Scope :=
 { scope with names:=scope.names.map fun (n,k)=>if (k == .free&&sc.kind == .function&&sc.names.lookup n == some .cell) then (n,.cell) else (n,k) }
noncomputable def rL(sc:Scope)(x:Str):Bool:=match sc.names.lookup x with | some .local=>true | _=>false
theorem aH{P:Prop}(h:false=true):P:=Bool.noConfusion h
@[irreducible] noncomputable def dR(a:Expr)(k:Str->Bool):Bool:=match a with | .Name x _=>k x | _=>false
theorem bD{a:Expr}{k:Str->Bool}(h:dR a k=true):∃x p,a=.Name x p/\k x=true:=by
 unfold dR at h
 cases a <;> first | exact⟨_,_,rfl,h⟩ | exact aH h
@[irreducible] noncomputable def Ll(a:Expr)(k:Str->Pos->Bool):Bool:=match a with | .Name x p=>k x p | _=>false
theorem zd{a:Expr}{k:Str->Pos->Bool}(h:Ll a k=true):∃x p,a=.Name x p/\k x p=true:=by
 unfold Ll at h
 cases a <;> first | exact⟨_,_,rfl,h⟩ | exact aH h
@[irreducible] noncomputable def Ic(a:Expr)(k:Const->Bool):Bool:=match a with | .Constant c _ _=>k c | _=>false
theorem Ib{a:Expr}{k:Const->Bool}(h:Ic a k=true):∃c j p,a=.Constant c j p/\k c=true:=by
 unfold Ic at h
 cases a <;> first | exact⟨_,_,_,rfl,h⟩ | exact aH h
@[irreducible] noncomputable def zb(a:Expr)(k:List Expr->Bool):Bool:=match a with | .Tuple as _ _=>k as | _=>false
theorem j8{a:Expr}{k:List Expr->Bool}(h:zb a k=true):∃as c p,a=.Tuple as c p/\k as=true:=by
 unfold zb at h
 cases a <;> first | exact⟨_,_,_,rfl,h⟩ | exact aH h
@[irreducible] noncomputable def HR(a:Expr)(k:List Expr->Bool):Bool:=match a with | .List as _=>k as | _=>false
theorem HQ{a:Expr}{k:List Expr->Bool}(h:HR a k=true):∃as p,a=.List as p/\k as=true:=by
 unfold HR at h
 cases a <;> first | exact⟨_,_,rfl,h⟩ | exact aH h
@[irreducible] noncomputable def Ig(a:Expr)(k:Expr->Operator->Expr->Bool):Bool:=match a with | .BinOp l p r _=>k l p r | _=>false
theorem Ie{a:Expr}{k:Expr->Operator->Expr->Bool}(h:Ig a k=true):∃l o r p,a=.BinOp l o r p/\k l o r=true:=by
 unfold Ig at h
 cases a <;> first | exact⟨_,_,_,_,rfl,h⟩ | exact aH h
@[irreducible] noncomputable def rQ:UnaryOp->Bool | .USub=>true | _=>false
@[irreducible] noncomputable def uu:UnaryOp->Bool | .Not=>true | _=>false
@[irreducible] noncomputable def Lk(a:Expr)(k:UnaryOp->Expr->Bool):Bool:=match a with | .UnaryOp o l _=>k o l | _=>false
theorem za{a:Expr}{k:UnaryOp->Expr->Bool}(h:Lk a k=true):∃o l p,a=.UnaryOp o l p/\k o l=true:=by
 unfold Lk at h
 cases a <;> first | exact⟨_,_,_,rfl,h⟩ | exact aH h
theorem zu{o:UnaryOp}(h:rQ o=true):o=.USub:=by
 unfold rQ at h
 cases o <;> first | rfl | exact aH h
theorem ur{o:UnaryOp}(h:uu o=true):o=.Not:=by
 unfold uu at h
 cases o <;> first | rfl | exact aH h
@[irreducible] noncomputable def ji:BoolOp->Bool | .And=>true | .Or=>false
theorem uv{o:BoolOp}(h:ji o=true):o=.And:=by
 unfold ji at h
 cases o <;> first | rfl | exact aH h
theorem zv{o:BoolOp}(h:ji o=false):o=.Or:=by
 unfold ji at h
 cases o <;> first | rfl | cases h
@[irreducible] noncomputable def JE(a:Expr)(k:BoolOp->Expr->Expr->Bool):Bool:=match a with
 | .BoolOp o vs p=>(match vs with
  | v::ws=>(match ws with
   | w::r=>k o v (.BoolOp o (w::r) p)
   | []=>false)
  | []=>false)
 | _=>false
theorem uo{a:Expr}{k:BoolOp->Expr->Expr->Bool}(h:JE a k=true):∃o v w r p,a=.BoolOp o (v::w::r) p/\k o v (.BoolOp o (w::r) p)=true:=by
 unfold JE at h
 cases a with
 | BoolOp o vs p =>
  cases vs with
  | nil=>exact aH h
  | cons v ws=>cases ws with
   | nil=>exact aH h
   | cons w r=>exact⟨_,_,_,_,_,rfl,h⟩
 | _=>exact aH h
@[irreducible] noncomputable def uc(a:Expr)(k:Expr->Bool)(d:Bool):Bool:=match a with
 | .BoolOp _ vs _=>(match vs with
  | v::ws=>(match ws with
   | []=>k v
   | _::_=>d)
  | []=>d)
 | _=>d
theorem ua{a:Expr}{k:Expr->Bool}{d:Bool}(h:uc a k d=true):(∃o v p,a=.BoolOp o [v] p/\k v=true)\/d=true:=by
 unfold uc at h
 cases a with
 | BoolOp o vs p =>
  cases vs with
  | nil=>exact .inr h
  | cons v ws=>cases ws with
   | nil=>exact .inl ⟨_,_,_,rfl,h⟩
   | cons w r=>exact .inr h
 | _=>exact .inr h
@[irreducible] noncomputable def k1{α:Type}(as:List α)(k:α->Bool):Bool:=match as with | l::r=>r.isEmpty&&k l | []=>false
theorem gh{α:Type}{as:List α}{k:α->Bool}(h:k1 as k=true):∃l,as=[l]/\k l=true:=by
 unfold k1 at h
 cases as with
 | nil=>exact aH h
 | cons l r=>cases r with
  | nil=>exact⟨_,rfl,h⟩
  | cons _ _=>exact aH h
@[irreducible] noncomputable def k2{α:Type}(as:List α)(k:α->α->Bool):Bool:=match as with | l::r=>k1 r (k l) | []=>false
theorem pM{α:Type}{as:List α}{k:α->α->Bool}(h:k2 as k=true):∃l r,as=[l,r]/\k l r=true:=by
 unfold k2 at h
 cases as with
 | nil=>exact aH h
 | cons l r =>
  replace h:=gh h
  obtain⟨x,rfl,h⟩:=h
  exact⟨_,_,rfl,h⟩
@[irreducible] noncomputable def k3{α:Type}(as:List α)(k:α->α->α->Bool):Bool:=match as with | l::r=>k2 r (k l) | []=>false
theorem k3_t{α:Type}{as:List α}{k:α->α->α->Bool}(h:k3 as k=true):∃l r q,as=[l,r,q]/\k l r q=true:=by
 unfold k3 at h
 cases as with
 | nil=>exact aH h
 | cons l r =>
  replace h:=pM h
  obtain⟨u,q,rfl,h⟩:=h
  exact⟨_,_,_,rfl,h⟩
@[irreducible] noncomputable def CP(a:Expr)(k:Expr->CmpOp->Expr->Bool):Bool:=match a with | .Compare l ps rs _=>k1 ps fun p=>k1 rs fun r=>k l p r | _=>false
theorem ze{a:Expr}{k:Expr->CmpOp->Expr->Bool}(h:CP a k=true):∃l o r p,a=.Compare l [o] [r] p/\k l o r=true:=by
 unfold CP at h
 cases a with
 | Compare l ps rs p =>
  replace h:=gh h
  obtain⟨o,rfl,h⟩:=h
  replace h:=gh h
  obtain⟨r,rfl,h⟩:=h
  exact⟨_,_,_,_,rfl,h⟩
 | _=>exact aH h
@[irreducible] noncomputable def HW(a:Expr)(k:Expr->Expr->Expr->Bool):Bool:=match a with | .IfExp u l r _=>k u l r | _=>false
theorem HV{a:Expr}{k:Expr->Expr->Expr->Bool}(h:HW a k=true):∃u l r p,a=.IfExp u l r p/\k u l r=true:=by
 unfold HW at h
 cases a <;> first | exact⟨_,_,_,_,rfl,h⟩ | exact aH h
@[irreducible] noncomputable def zc(a:Expr)(k:Expr->Expr->Bool):Bool:=match a with | .Subscript l r _=>k l r | _=>false
theorem rN{a:Expr}{k:Expr->Expr->Bool}(h:zc a k=true):∃l r p,a=.Subscript l r p/\k l r=true:=by
 unfold zc at h
 cases a <;> first | exact⟨_,_,_,rfl,h⟩ | exact aH h
@[irreducible] noncomputable def HF(a:Expr)(k:Option Expr->Option Expr->Bool):Bool:=match a with | .Slice u v s _=>s.isNone&&k u v | _=>false
theorem HE{a:Expr}{k:Option Expr->Option Expr->Bool}(h:HF a k=true):∃u v p,a=.Slice u v none p/\k u v=true:=by
 unfold HF at h
 cases a with
 | Slice u v s p=>cases s with
  | none=>exact⟨_,_,_,rfl,h⟩
  | some _=>exact aH h
 | _=>exact aH h
@[irreducible] noncomputable def CQ(a:Expr)(k:Expr->List Expr->Pos->Bool):Bool:=match a with | .Call f as kw p=>kw.isEmpty&&k f as p | _=>false
theorem zg{a:Expr}{k:Expr->List Expr->Pos->Bool}(h:CQ a k=true):∃f as p,a=.Call f as [] p/\k f as p=true:=by
 unfold CQ at h
 cases a with
 | Call f as kw p=>cases kw with
  | nil=>exact⟨_,_,_,rfl,h⟩
  | cons _ _=>exact aH h
 | _=>exact aH h
@[irreducible] noncomputable def kCK(a:Expr)(k:Str->List Expr->Str->Expr->Bool):Bool:=match a with | .Call (.Name x _) as [⟨some kw,v,_⟩] _=>k x as kw v | _=>false
theorem Lm{a:Expr}{k:Str->List Expr->Str->Expr->Bool}(h:kCK a k=true):∃x q as kw v kp p,a=.Call (.Name x q) as [⟨some kw,v,kp⟩] p/\k x as kw v=true:=by
 unfold kCK at h
 split at h
 ·exact⟨_,_,_,_,_,_,_,rfl,h⟩
 ·exact aH h
@[irreducible] noncomputable def pL(a:Expr)(k:Str->List Expr->Bool):Bool:=CQ a fun f as _=>dR f fun x=>k x as
theorem cV{a:Expr}{k:Str->List Expr->Bool}(h:pL a k=true):∃x q as p,a=.Call (.Name x q) as [] p/\k x as=true:=by
 unfold pL at h
 replace h:=zg h
 obtain⟨f,as,p,rfl,h⟩:=h
 replace h:=bD h
 obtain⟨x,q,rfl,h⟩:=h
 exact⟨_,_,_,_,rfl,h⟩
@[irreducible] noncomputable def zj(a:Expr)(k:Expr->Str->Pos->Bool):Bool:=match a with | .Attribute o y p=>k o y p | _=>false
theorem rP{a:Expr}{k:Expr->Str->Pos->Bool}(h:zj a k=true):∃o y p,a=.Attribute o y p/\k o y p=true:=by
 unfold zj at h
 cases a <;> first | exact⟨_,_,_,rfl,h⟩ | exact aH h
@[irreducible] noncomputable def Ln(a:Expr)(k:Expr->Str->Pos->List Expr->Pos->Bool):Bool:=CQ a fun f as p=>zj f fun o y q=>k o y q as p
theorem zh{a:Expr}{k:Expr->Str->Pos->List Expr->Pos->Bool}(h:Ln a k=true):∃o y q as p,a=.Call (.Attribute o y q) as [] p/\k o y q as p=true:=by
 unfold Ln at h
 replace h:=zg h
 obtain⟨f,as,p,rfl,h⟩:=h
 replace h:=rP h
 obtain⟨o,y,q,rfl,h⟩:=h
 exact⟨_,_,_,_,_,rfl,h⟩
@[irreducible] noncomputable def Np(a:Expr)(k:Expr->Expr->Expr->List Expr->Scope->Pos->Bool):Bool:=match a with
 | .ListComp el gs scope p=>k1 gs fun g=>decide (g.is_async=0)&&k el g.target g.iter g.ifs scope p
 | _=>false
theorem ER{a:Expr}{k:Expr->Expr->Expr->List Expr->Scope->Pos->Bool}(h:Np a k=true):∃el tn it ifs sc p,a=.ListComp el [⟨tn,it,ifs,0⟩] sc p/\k el tn it ifs sc p=true:=by
 unfold Np at h
 cases a with
 | ListComp el gs sc p =>
  replace h:=gh h
  obtain⟨g,rfl,h⟩:=h
  obtain⟨tn,it,ifs,j⟩:=g
  have h:=(Bool.and_eq_true _ _).mp h
  have e:j=0:=of_decide_eq_true h.1
  subst e
  exact⟨_,_,_,_,_,_,rfl,h.2⟩
 | _=>exact aH h
@[irreducible] noncomputable def HP(a:Expr)(d:Bool)(k:List Expr->Bool):Bool:=match a with
 | .Constant c _ _=>(match c with | .str _=>d | _=>false)
 | .JoinedStr vs _=>k vs
 | _=>false
theorem HN{a:Expr}{d:Bool}{k:List Expr->Bool}(h:HP a d k=true):(∃x j p,a=.Constant (.str x) j p/\d=true)\/∃vs p,a=.JoinedStr vs p/\k vs=true:=by
 unfold HP at h
 cases a with
 | Constant c j p=>cases c with
  | str x=>exact .inl ⟨_,_,_,rfl,h⟩
  | _=>exact aH h
 | JoinedStr vs p=>exact .inr ⟨_,_,rfl,h⟩
 | _=>exact aH h
@[irreducible] noncomputable def HM(a:Expr)(s:Str->Bool)(k:Expr->Int->Bool):Bool:=match a with
 | .Constant c _ _=>(match c with | .str y=>s y | _=>false)
 | .FormattedValue v j f _=>f.isNone&&k v j
 | _=>false
theorem HL{a:Expr}{s:Str->Bool}{k:Expr->Int->Bool}(h:HM a s k=true):(∃y j p,a=.Constant (.str y) j p/\s y=true)\/∃v j p,a=.FormattedValue v j none p/\k v j=true:=by
 unfold HM at h
 cases a with
 | Constant c j p=>cases c with
  | str x=>exact .inl ⟨_,_,_,rfl,h⟩
  | _=>exact aH h
 | FormattedValue v j f p=>cases f with
  | none=>exact .inr ⟨_,_,_,rfl,h⟩
  | some _=>exact aH h
 | _=>exact aH h
@[irreducible] noncomputable def vX(a:Stmt)(k:Expr->Expr->Bool):Bool:=match a with | .Assign ts e _=>k1 ts fun t=>k t e | _=>false
theorem nq{a:Stmt}{k:Expr->Expr->Bool}(h:vX a k=true):∃t e p,a=.Assign [t] e p/\k t e=true:=by
 unfold vX at h
 cases a with
 | Assign ts e p =>
  replace h:=gh h
  obtain⟨t,rfl,h⟩:=h
  exact⟨_,_,_,rfl,h⟩
 | _=>exact aH h
@[irreducible] noncomputable def Ia(a:Stmt)(k:Expr->Bool):Bool:=match a with | .Expr e _=>k e | _=>false
theorem HZ{a:Stmt}{k:Expr->Bool}(h:Ia a k=true):∃e p,a=.Expr e p/\k e=true:=by
 unfold Ia at h
 cases a <;> first | exact⟨_,_,rfl,h⟩ | exact aH h
@[irreducible] noncomputable def HH(a:Stmt)(d:Bool)(k:Expr->Bool):Bool:=match a with
 | .Return o _=>(match o with | some e=>k e | none=>d)
 | _=>false
theorem HG{a:Stmt}{d:Bool}{k:Expr->Bool}(h:HH a d k=true):(∃p,a=.Return none p/\d=true)\/∃e p,a=.Return (some e) p/\k e=true:=by
 unfold HH at h
 cases a with
 | Return o p=>cases o with
  | none=>exact .inl ⟨_,rfl,h⟩
  | some e=>exact .inr ⟨_,_,rfl,h⟩
 | _=>exact aH h
@[irreducible] noncomputable def HU(a:Stmt)(k:Expr->List Stmt->List Stmt->Bool):Bool:=match a with | .If t l r _=>k t l r | _=>false
theorem HS{a:Stmt}{k:Expr->List Stmt->List Stmt->Bool}(h:HU a k=true):∃t l r p,a=.If t l r p/\k t l r=true:=by
 unfold HU at h
 cases a <;> first | exact⟨_,_,_,_,rfl,h⟩ | exact aH h
@[irreducible] noncomputable def kFor(a:Stmt)(k:Expr->Expr->List Stmt->Bool):Bool:=match a with | .For t i b e _=>e.isEmpty&&k t i b | _=>false
theorem HY{a:Stmt}{k:Expr->Expr->List Stmt->Bool}(h:kFor a k=true):∃t i b p,a=.For t i b [] p/\k t i b=true:=by
 unfold kFor at h
 cases a with
 | For t i b e p=>cases e with
  | nil=>exact⟨_,_,_,_,rfl,h⟩
  | cons _ _=>exact aH h
 | _=>exact aH h
@[irreducible] noncomputable def kWh(a:Stmt)(k:Expr->List Stmt->Bool):Bool:=match a with | .While t b e _=>e.isEmpty&&k t b | _=>false
theorem Lj{a:Stmt}{k:Expr->List Stmt->Bool}(h:kWh a k=true):∃t b p,a=.While t b [] p/\k t b=true:=by
 unfold kWh at h
 cases a with
 | While t b e p=>cases e with
  | nil=>exact⟨_,_,_,rfl,h⟩
  | cons _ _=>exact aH h
 | _=>exact aH h
@[irreducible] noncomputable def HK(a:Stmt)(k:Expr->Bool):Bool:=match a with
 | .Raise o c _=>c.isNone&&(match o with | some e=>k e | none=>false)
 | _=>false
theorem HJ{a:Stmt}{k:Expr->Bool}(h:HK a k=true):∃e p,a=.Raise (some e) none p/\k e=true:=by
 unfold HK at h
 cases a with
 | Raise o c p=>cases c with
  | none=>cases o with
   | none=>exact aH h
   | some e=>exact⟨_,_,rfl,h⟩
  | some _=>exact aH h
 | _=>exact aH h
@[irreducible] noncomputable def HD(a:Stmt)(k:List Stmt->List ExceptHandler->Bool):Bool:=match a with
 | .Try bd hs e f _=>e.isEmpty&&(f.isEmpty&&(!hs.isEmpty&&k bd hs))
 | _=>false
theorem HC{a:Stmt}{k:List Stmt->List ExceptHandler->Bool}(h:HD a k=true):∃bd h₀ hr p,a=.Try bd (h₀::hr) [] [] p/\k bd (h₀::hr)=true:=by
 unfold HD at h
 cases a with
 | Try bd hs e f p=>cases e with
  | nil=>cases f with
   | nil=>cases hs with
    | nil=>exact aH h
    | cons _ _=>exact⟨_,_,_,_,rfl,h⟩
   | cons _ _=>exact aH h
  | cons _ _=>exact aH h
 | _=>exact aH h
@[irreducible] noncomputable def Nq(a:ExceptHandler)(k:Expr->Option Str->Stmt->List Stmt->Bool):Bool:=match a with
 | .ExceptHandler t n b _=>(match t with | some t=>(match b with | s::r=>k t n s r | []=>false) | none=>false)
theorem ES{a:ExceptHandler}{k:Expr->Option Str->Stmt->List Stmt->Bool}(h:Nq a k=true):∃t n s r p,a=.ExceptHandler (some t) n (s::r) p/\k t n s r=true:=by
 unfold Nq at h
 cases a with
 | ExceptHandler t n b p=>cases t with
  | none=>exact aH h
  | some t=>cases b with
   | nil=>exact aH h
   | cons s r=>exact⟨_,_,_,_,_,rfl,h⟩
@[irreducible] noncomputable def mz:Es->Bool | .nil=>true | .cons _ _=>false
theorem iD{c:Es}(h:mz c=true):c=.nil:=by
 unfold mz at h
 cases c <;> first | rfl | exact aH h
@[irreducible] noncomputable def tw:Ss->Bool | .nil=>true | .cons _ _=>false
theorem tu{c:Ss}(h:tw c=true):c=.nil:=by
 unfold tw at h
 cases c <;> first | rfl | exact aH h
@[irreducible] noncomputable def zC:Hs->Bool | .nil=>true | _=>false
theorem CY{c:Hs}(h:zC c=true):c=.nil:=by
 unfold zC at h
 cases c <;> first | rfl | exact aH h
@[irreducible] noncomputable def Nr(c:Es)(k:E->Es->Bool):Bool:=match c with | .cons e es=>k e es | .nil=>false
theorem zk{c:Es}{k:E->Es->Bool}(h:Nr c k=true):∃e es,c=.cons e es/\k e es=true:=by
 unfold Nr at h
 cases c <;> first | exact⟨_,_,rfl,h⟩ | exact aH h
@[irreducible] noncomputable def jSs(c:Ss)(k:S->Ss->Bool):Bool:=match c with | .cons e es=>k e es | .nil=>false
theorem Lp{c:Ss}{k:S->Ss->Bool}(h:jSs c k=true):∃e es,c=.cons e es/\k e es=true:=by
 unfold jSs at h
 cases c <;> first | exact⟨_,_,rfl,h⟩ | exact aH h
@[irreducible] noncomputable def zm(c:E)(k:List Nat->List Nat->E->Src->O->Bool)(d:Bool):Bool:=match c with | .comp _ caps tg elt it cond=>k caps tg elt it cond | _=>d
theorem CS{c:E}{k:List Nat->List Nat->E->Src->O->Bool}{d:Bool}(h:zm c k d=true):(∃fz caps tg elt it cond,c=.comp fz caps tg elt it cond/\k caps tg elt it cond=true)\/d=true:=by
 unfold zm at h
 cases c <;> first | exact .inl ⟨_,_,_,_,_,_,rfl,h⟩ | exact .inr h
noncomputable def Ld(N:List Str)(sc:Scope)(i:Nat)(x:Str):Bool:=decide (N[i]? = some x)&&rL sc x
noncomputable def CC(N:List Str)(sc:Scope):List Expr->List Nat->Bool
 | [],[]=>true
 | a::as,i::is=>dR a (fun x=>Ld N sc i x)&&CC N sc as is
 | _,_=>false
noncomputable def MX(N:List Str)(sc:Scope)(t:Expr)(is:List Nat):Bool:=match is with
 | []=>false
 | i::r=>match r with
  | []=>dR t fun x=>Ld N sc i x
  | j::r=>match r with
   | []=>zb t fun as=>k2 as fun l r=>dR l fun x=>dR r fun y=>Ld N sc i x&&Ld N sc j y
   | l::r=>zb t fun as=>CC N sc as (i::j::l::r)
noncomputable def Nt:Src->Bool | .zip _ _=>true | _=>false
noncomputable def isTup:Expr->Bool | .Tuple _ _ _=>true | _=>false
noncomputable def fc(N:List Str)(caps:List Nat)(tn:List Str):List Str:=(caps.map fun i=>(N[i]?).getD ("" : Str))++tn
noncomputable def nmOf:Expr->Str
 | .Name x _=>x
 | _=>""
noncomputable def cL:Expr->List Str
 | .Name x _=>[x]
 | .Tuple as _ _=>as.map nmOf
 | _=>[]
noncomputable def Au(N:List Str)(sc scope:Scope)(caps:List Nat)(tn:List Str):Bool :=
 (scope.names.all fun y=>match y.2 with
  | .free=>(match sc.names.lookup y.1 with | some .cell=>true | some .free=>true | _=>false)
  | .cell=>false
  | .local=>(match scope.names.lookup y.1 with | some .local=>true | _=>false)
  | _=>true)&&(scope.kind == .function) &&
 (caps.all fun i=>match N[i]? with
  | some x=>(match scope.names.lookup x with | some .free=>true | _=>false)
  | none=>false)&&decide ((fc N caps tn).Nodup)
noncomputable def xw(sc scope:Scope)(x:Str)(px pv:Pos):Bool :=
 ((if sc.kind.isAnnotationScope then .function else sc.kind) == .function)&&sc.names.lookup x == some .local&&px.line == pv.line&&!(scope.names.any fun (n,k)=>n == x&&(k == .local||k == .cell))
noncomputable abbrev Rec:=Gm->Bool->List Str->Scope->Nd->Bool
noncomputable def Iq(G:Gm)(N:List Str)(sc:Scope)(i:Nat)(s:Stmt)(bd:List Stmt)(b:Ss):Bool :=
 bd.isEmpty&&match b with
  | .cons (.set j (.call f (.cons (.v i') .nil))) .nil=>vX s fun t e=>Ll t fun x _=>pL e fun g as=>k1 as fun l=>Ll l fun y _ =>
   decide (i'=i)&&decide (N[j]? = some x)&&CL sc x&&decide (N[i]? = some y)&&Bf sc y&&nD y&&cW sc g&&nD g&&decide (G.oq.lookup g=some (f,1))
  | _=>false
noncomputable def Nx(r:Rec)(G:Gm)(N:List Str)(sc:Scope):List ExceptHandler->Hs->Bool
 | [],hs=>zC hs
 | h::l,.cons cs b hs=>Nq h fun t n s bd=>dR t fun x=>k1 cs fun c=>n.isNone&&cW sc x&&nD x&&decide (G.exc.lookup x=some c)&&r (zD G) false N sc (.ss (s::bd) b)&&Nx r G N sc l hs
 | h::l,.as c i b hs=>Nq h fun t n s bd=>dR t fun x=>decide (n=N[i]?)&&n.any (rL sc)&&cW sc x&&nD x&&decide (G.exc.lookup x=some c)&&(r (zD G) false N sc (.ss (s::bd) b)||Iq G N sc i s bd b)&&Nx r G N sc l hs
 | _::_,.nil=>false
noncomputable def okH:E->Bool
 | .comp _ _ tg _ _ _=>tg.length == 1 | .call _ _=>false | .u6 _ _ _=>false | .iH _ _ _=>false | .EK _ _ _=>false | .cZ _ _ _ _ _=>false | .new _ _ _=>false | .mx _ _ _=>false | .all1 _=>false | .Nk _ _=>false | .Nj _ _ _=>false | .dz _ _=>false | .Ni _=>false | .blt .sum _ _=>false
 | _=>true
noncomputable def okS:S->Bool
 | .set _ c=>okH c
 | .MU _ _=>false | .for _ _ _=>false | .raise _ _=>false | .try _ _ _=>false
 | _=>true
theorem bq{a b:Bool}(h:(a||b)=true)(e:b=false):a=true:=by subst e;simpa using h
noncomputable def ifsB(ifs:List Expr)(cond:O)(k:Expr->E->Bool):Bool:=match cond with
 | .none=>ifs.isEmpty
 | .some d=>k1 ifs fun c=>k c d
noncomputable def Nl(r:Rec)(G:Gm)(b:Bool)(N:List Str)(sc:Scope)(caps tg:List Nat)(elt:E)(it:Src)(cond:O)(el tn iter:Expr)(ifs:List Expr)(scope:Scope):Bool :=
 (!Nt it||isTup tn)&&vR iter&&Au N sc scope caps (cL tn)&&r G b N sc (.i iter it) &&
  MX (fc N caps (cL tn)) (xZ scope sc) tn tg&&r G true (fc N caps (cL tn)) (xZ scope sc) (.e el elt) &&
  ifsB ifs cond fun c d=>r G true (fc N caps (cL tn)) (xZ scope sc) (.t c d)
noncomputable def Lr:Mt->Bool | .append=>true | .extend=>true | _=>false
noncomputable def Lg:Mt->Str | .append=>"append" | _=>"extend"
noncomputable def chkE(r:Rec)(G:Gm)(b:Bool)(N:List Str)(sc:Scope)(a:Expr)(c:E):Bool:=(G.cm||okH c)&&match c with
 | .bad=>true
 | .v i=>dR a fun x=>decide (N[i]? = some x)&&Bf sc x&&nD x
 | .k d=>Ic a fun k=>Je k d
 | .g i=>dR a fun x=>cW sc x&&decide (G.cst.lookup x=some i)&&nD x
 | .tup cs=>zb a fun as=>decide (as.length<=100)&&r G b N sc (.es as cs)
 | .lst _ cs=>HR a fun as=>decide (as.length<=100)&&r G b N sc (.es as cs)
 | .op o _ x y=>Ig a fun l p q=>decide (p=binOp o)&&r G b N sc (.e l x)&&r G b N sc (.e q y)
 | .neg x=>Lk a fun o l=>rQ o&&r G b N sc (.e l x)
 | .not x=>Lk a fun o l=>uu o&&r G b N sc (.e l x)
 | .and x y=>JE a fun o v w=>ji o&&r G b N sc (.e v x)&&r G b N sc (.e w y)
 | .or x y=>JE a fun o v w=>!ji o&&r G b N sc (.e v x)&&r G b N sc (.e w y)
 | .cmp o x y=>CP a fun l p q=>decide (p=Ax o)&&!(behindInMarks p q)&&r G b N sc (.e l x)&&r G b N sc (.e q y)
 | .CW t x y=>HW a fun u l q=>r G b N sc (.t u t)&&r G b N sc (.e l x)&&r G b N sc (.e q y)
 | .idx x y=>zc a fun l q=>nSl q&&r G b N sc (.e l x)&&r G b N sc (.e q y)
 | .sl _ x lo hi=>zc a fun l q=>HF q fun u v=>r G b N sc (.e l x)&&r G b N sc (.o u lo)&&r G b N sc (.o v hi)
 | .call f cs=>pL a fun x as=>cW sc x&&nD x&&decide (G.fns.lookup x=some (f,as.length))&&as.all aQ&&r G b N sc (.es as cs)
 | .iH f cs e=>kCK a fun x as kw v=>cW sc x&&nD x&&(G.A4.lookup x).any (fun y=>decide (y.1=f)&&decide (y.2.1=as.length+1)&&decide (y.2.2.2=kw))&&!as.isEmpty&&as.all aQ&&r G b N sc (.es as cs)&&r G b N sc (.e v e)
 | .EK _ x y=>pL a fun z as=>k1 as fun a'=>pL a' fun u as=>k3 as fun l q v=>decide (z = "list")&&decide (u = "range")&&cW sc z&&cW sc u&&G.gQ.contains z&&G.gQ.contains u&&aQ l&&aQ q&&aQ v&&r G b N sc (.e l x)&&r G b N sc (.e q y)&&r G b N sc (.e v (.neg (.k (.int 1))))
 | .CV x t=>pL a fun y as=>k2 as fun l z'=>dR z' fun z=>decide (y = "isinstance")&&decide (z=Str.ofString (oE t))&&cW sc y&&cW sc z&&G.gQ.contains y&&G.gQ.contains z&&aQ l&&r G b N sc (.e l x)
 | .blt k _ cs=>pL a fun y as=>k1 as fun l=>decide (Mx k=some y)&&cW sc y&&G.gQ.contains y&&aQ l&&r G b N sc (.es [l] cs)
 | .eU m _ x cs=>Ln a fun o y ap as cp=>vS o&&(ap.endLine == cp.line)&&r G b N sc (.e o x) &&
  bif Lr m then decide (Lg m=y)&&k1 as fun l=>aQ l&&r G b N sc (.es [l] cs)
  else decide (EF m=some y)&&as.isEmpty&&mz cs
 | .comp _ caps tg elt it cond=>!b&&Np a fun el tn iter ifs scope _=>Nl r G b N sc caps tg elt it cond el tn iter ifs scope
 | .fld x f=>zj a fun l y _=>decide (y=f)&&G.C9.contains f&&vS l&&r G b N sc (.e l x)
 | .cZ c m nm x cs=>Ln a fun o y ap as cp=>decide (y=nm)&&vS o&&(ap.endLine == cp.line)&&decide (as.length<29)&&decide (G.AY.lookup (c,nm)=some (m,as.length+1))&&as.all aQ&&r G b N sc (.e o x)&&r G b N sc (.es as cs)
 | .new c i cs=>pL a fun x as=>cW sc x&&nD x&&decide (G.cls.lookup x=some (c,i,as.length+1))&&as.all aQ&&r G b N sc (.es as cs)
 | .mx hi x y=>pL a fun z as=>k2 as fun l q=>decide (z=if hi then "max" else "min")&&cW sc z&&G.gQ.contains z&&aQ l&&aQ q&&r G b N sc (.e l x)&&r G b N sc (.e q y)
 | .qu f x=>pL a fun y as=>k1 as fun l=>decide (f1S f=y)&&cW sc y&&G.gQ.contains y&&aQ l&&r G b N sc (.e l x)
 | .jh x c=>pL a fun y as=>k2 as fun l z'=>dR z' fun z=>decide (y = "isinstance")&&cW sc y&&cW sc z&&G.gQ.contains y&&nD z&&aQ l&&(match c with | some c=>decide (G.exc.lookup z=some c) | none=>decide (z = "ValueError")&&G.gQ.contains z)&&r G b N sc (.e l x)
 | .Ii ct x cs=>Ln a fun o y ap as cp=>k1 as fun l=>decide (y=if ct then "count" else "index")&&vS o&&(ap.endLine == cp.line)&&aQ l&&r G b N sc (.e o x)&&r G b N sc (.es [l] cs)
 | .dz x y=>pL a fun z as=>k1 as fun a'=>pL a' fun u as=>k2 as fun l q=>decide (z = "dict")&&decide (u = "zip")&&cW sc z&&cW sc u&&G.gQ.contains z&&G.gQ.contains u&&aQ l&&aQ q&&r G b N sc (.e l x)&&r G b N sc (.e q y)
 | _=>false
noncomputable def chkT(r:Rec)(G:Gm)(b:Bool)(N:List Str)(sc:Scope)(a:Expr)(c:E):Bool:=match c with
 | .bad=>true
 | .cmp o x y=>CP a fun l p q=>decide (p=Ax o)&&!(behindInMarks p q)&&r G b N sc (.e l x)&&r G b N sc (.e q y)
 | .not x=>Lk a fun o l=>uu o&&r G b N sc (.t l x)
 | .and x y=>JE a fun o v w=>ji o&&r G b N sc (.t v x)&&r G b N sc (.t w y)
 | .or x y=>JE a fun o v w=>!ji o&&r G b N sc (.t v x)&&r G b N sc (.t w y)
 | c=>rD a&&r G b N sc (.e a c)
noncomputable def chkI(r:Rec)(G:Gm)(b:Bool)(N:List Str)(sc:Scope)(a:Expr)(c:Src):Bool:=match c with
 | .e c=>G.cm&&vR a&&r G b N sc (.e a c)
 | .AZ c=>(G.cm||G.lt)&&vR a&&r G b N sc (.e a c)
 | .fj c d=>G.cm&&pL a fun y as=>k2 as fun l q=>decide (y = "range")&&cW sc y&&G.gQ.contains y&&aQ l&&aQ q&&r G b N sc (.e l c)&&r G b N sc (.e q d)
 | .rev c=>G.cm&&pL a fun y as=>k1 as fun l=>decide (y = "reversed")&&cW sc y&&G.gQ.contains y&&aQ l&&r G b N sc (.e l c)
 | _=>false
noncomputable def chkS(r:Rec)(G:Gm)(b:Bool)(N:List Str)(sc:Scope)(a:Stmt)(c:S):Bool:=(G.cm||okS c)&&match c with
 | .bad=>true
 | .set i c=>vX a fun t e=>Ll t fun x px=>!b&&decide (N[i]? = some x)&&CL sc x&&zm c (fun caps tg elt it cond=>Np e fun el tn iter ifs scope lp =>
    bif xw sc scope x px lp then Nl r G b N sc caps tg elt it cond el tn iter ifs scope&&rL sc x else r G b N sc (.e e c)) (lZ e&&r G b N sc (.e e c))
 | .vD x y c=>vX a fun t e=>zc t fun o i=>lZ e&&r G b N sc (.e e c)&&r G b N sc (.e o x)&&r G b N sc (.e i y)
 | .eB x f c=>vX a fun t e=>zj t fun o y _=>decide (y=f)&&G.C9.contains f&&lZ e&&r G b N sc (.e e c)&&r G b N sc (.e o x)
 | .ex c=>Ia a fun e=>lZ e&&r G b N sc (.e e c)
 | .ret c=>HH a false fun e=>r G b N sc (.e e c)
 | .ifs c x y=>HU a fun t l q=>r G b N sc (.t t c)&&r G b N sc (.ss l x)&&r G b N sc (.ss q y)
 | .for tg it x=>kFor a fun tn iter body=>!b&&(!Nt it||isTup tn)&&vR iter&&r G b N sc (.i iter it)&&MX N sc tn tg&&r G b N sc (.ss body x)
 | .while c x=>kWh a fun t body=>r G b N sc (.t t c)&&r G b N sc (.ss body x)
 | .raise c es=>!b&&G.rz&&HK a fun e=>pL e fun x as=>k1 as fun m=>cW sc x&&nD x&&decide (G.exc.lookup x=some c) &&
   HP m (mz es) fun vs=>decide (2<=vs.length)&&decide (vs.length<=100)&&r G b N sc (.m vs es)
 | .try x hs els=>!b&&tw els&&HD a fun bd hds=>r { G with rz:=false } b N sc (.ss bd x)&&Nx r G N sc hds hs
 | _=>false
noncomputable def stp(r:Rec)(G:Gm)(b:Bool)(N:List Str)(sc:Scope)(nd:Nd):Bool:=match nd with
 | .e a c=>uc a (fun v=>r G b N sc (.e v c)) (chkE r G b N sc a c)
 | .t a c=>uc a (fun v=>r G b N sc (.t v c)) (chkT r G b N sc a c)
 | .es as cs=>(match as with
  | []=>mz cs
  | a::as=>Nr cs fun c cs=>aQ a&&r G b N sc (.e a c)&&r G b N sc (.es as cs))
 | .o a c=>(match c with
  | .none=>a.isNone
  | .some c=>(match a with
   | some a=>r G b N sc (.e a c)
   | none=>false))
 | .i a c=>chkI r G b N sc a c
 | .s a c=>chkS r G b N sc a c
 | .ss as cs=>(match as with
  | []=>tw cs
  | a::as=>jSs cs fun c cs=>r G b N sc (.s a c)&&r G b N sc (.ss as cs))
 | .m as cs=>(match as with
  | []=>mz cs
  | a::as=>HM a (fun y=>decide (y.length<=100000)&&r G b N sc (.m as cs)) fun v k=>Nr cs fun e es=>decide (k=-1)&&r G b N sc (.e v e)&&r G b N sc (.m as es))
noncomputable def Az:Nat->Rec
 | 0=>fun _ _ _ _ _=>false
 | n+1=>stp (Az n)
noncomputable abbrev gP(G:Gm)(n:Nat)(b:Bool)(N:List Str)(sc:Scope)(nd:Nd):Bool:=Az n G b N sc nd
end Fg
end
section
namespace Fg
open PySem PySem.Spec L2
section
variable{X:Cx}
theorem PE.weak{e:Expr}{t t':TE}(h:PE X e t)(w:∀σ H Q,t' σ H Q->t σ H Q):PE X e t':=fun pins s σ H Q I q=>h pins s σ H Q I (w σ H Q q)
theorem PT.weak{e:Expr}{t t':TT}(h:PT X e t)(w:∀σ H Q,t' σ H Q->t σ H Q):PT X e t':=fun pins s σ H Q I q=>h pins s σ H Q I (w σ H Q q)
theorem PW.weak{e:Expr}{t t':TT}(h:PW X e t)(w:∀σ H Q,t' σ H Q->t σ H Q):PW X e t':=fun wh pins s σ H Q I q=>h wh pins s σ H Q I (w σ H Q q)
theorem PA.weak{e:List Expr}{t t':TA}(h:PA X e t)(w:∀σ H Q,t' σ H Q->t σ H Q):PA X e t':=fun pos pins s σ H Q I q=>h pos pins s σ H Q I (w σ H Q q)
theorem PO.weak{e:Option Expr}{t t':TO}(h:PO X e t)(w:∀σ H Q,t' σ H Q->t σ H Q):PO X e t':=fun pins s σ H Q I q=>h pins s σ H Q I (w σ H Q q)
theorem PI.weak{tg e:Expr}{t t':TI}(h:PI X tg e t)(w:∀σ H Q,t' σ H Q->t σ H Q):PI X tg e t':=fun pins s σ H Q I q=>h pins s σ H Q I (w σ H Q q)
theorem PS.weak{e:Stmt}{t t':TS}(h:PS X e t)(w:∀D σ H,t' D σ H->t D σ H):PS X e t':=fun pins s σ H D I q=>h pins s σ H D I (w D σ H q)
theorem je.weak{e:List Stmt}{t t':TS}(h:je X e t)(w:∀D σ H,t' D σ H->t D σ H):je X e t':=fun pins s σ H D I q=>h pins s σ H D I (w D σ H q)
end
theorem ah{e:Expr}{es:List Expr}{env:Env}(h:aQ e=true):starEach (e::es) env=(false,eval e env)::starEach es env:=by
 cases e <;> first | rfl | (simp[aQ] at h)
theorem cg{env:Env}{pos:Pos}:∀{es:List Expr},es.all aQ=true->(backTo pos (starEach es env)).any (·.1)=false
 | [],_=>rfl
 | e::es,h=>by
  simp only[List.all_cons,Bool.and_eq_true] at h
  rw[ah h.1]
  have:=cg (env:=env) (pos:=pos) h.2
  simpa [backTo] using this
theorem oG{env:Env}{pos:Pos}:∀{es:List Expr},es.all aQ=true->(backTo pos (starEach es env)).all (fun x=>!x.1)=true
 | [],_=>rfl
 | e::es,h=>by
  simp only[List.all_cons,Bool.and_eq_true] at h
  rw[ah h.1]
  have:=oG (env:=env) (pos:=pos) h.2
  simpa [backTo] using this
theorem l7{o:Expr}{name:Str}{apos pos:Pos}{args:List Expr}{env:Env}(hbase:attributeBase o name env (eval o env)=eval o env)(hst:args.all aQ=true)(hl:args.length<29)(hline:(apos.endLine == pos.line)=true) :
  eval (.Call (.Attribute o name apos) args [] pos) env=(do
   let ov <- eval o env
   standAt apos.atName
   let (f,first) <- holding [ov] (getMethod ov name (do return (<- importBound o env).getD true))
   callWith pos f first (backTo pos (starEach args env)) (backToKw pos (keywordEach [] env))):=by
 have Lz:methodCallForm (args.length+([]:List Keyword).length) (backTo pos (starEach args env)) (backToKw pos (keywordEach [] env))=true:=by
  unfold methodCallForm
  rw[oG hst]
  simp[backToKw,keywordEach]
  omega
 have hpos:methodCallPos true o env apos pos=pure pos:=by unfold methodCallPos;simp[hline]
 rw[arm_eval_Call,hbase]
 unfold methodCall
 rw[Lz]
 simp only[hpos]
 rfl
theorem set_plain{e:Expr}{env:Env}(h:vR e=true):∀x,foldedSetIterable e env x=pure x:=by
 intro x;cases e <;> first | rfl | (simp[vR] at h)
theorem xF{e:Expr}(h:nSl e=true):vg e:=by
 intro o i;cases e <;> first | rfl | (simp[nSl] at h)
theorem iu{e:Expr}{t:Option Expr}{l:Nat}{env:Env}(h:lZ e=true):swapsWith e t l env=pure false:=by
 cases e <;> first | rfl | (simp[lZ] at h)
theorem vp{e:Expr}{env:Env}(h:rD e=true):∀whole,isTrue e env whole=(do let v <- whole;standAt e.pos;holding [v] (truthy v)):=by
 intro w;cases e <;> first | rfl | (simp[rD] at h)
theorem aV{e:Expr}{n:Str}{env:Env}(h:vS e=true):attributeBase e n env (eval e env)=eval e env:=by
 cases e <;> first | rfl | (rename_i f _ _ _;cases f <;> first | rfl | (simp[vS] at h))
theorem boot_dict:bootBuiltins ("dict" : Str)=some (.type "dict"):=by decide +kernel
theorem boot_isinstance:bootBuiltins ("isinstance" : Str)=some (.builtin "isinstance"):=by decide +kernel
theorem DJ:∀t:Ty,bootBuiltins (Str.ofString (oE t))=some (.type (oE t)):=by
 intro t;cases t <;> decide +kernel
theorem D0:∀t:Ty, Str.ofString (oE t)≠("__name__" : Str)/\(Str.ofString (oE t) == ("__debug__" : Str))=false:=by
 intro t;cases t <;> decide
noncomputable def jo:Es->Nat
 | .nil=>0
 | .cons _ es=>jo es+1
theorem aR{Φ:aZ}:∀{es:Es} {σ:Sg} {M:MH} {ds:List D} {M':MH},cz Φ es σ M=.ok ds M'->ds.length=jo es
 | .nil,σ,M,ds,M',h=>by simp only[cz] at h;cases h;rfl
 | .cons e es,σ,M,ds,M',h=>by
  simp only[cz] at h
  cases h1:ev Φ e σ M with
  | ok x M1 =>
   rw[h1] at h
   simp only[R.af] at h
   cases h2:cz Φ es σ M1 with
   | ok xs M2 =>
    rw[h2] at h
    simp only[R.af] at h
    cases h
    simp[jo,aR h2]
   | exc c M2=>rw[h2] at h;cases h
   | bad=>rw[h2] at h;cases h
  | exc c M1=>rw[h1] at h;cases h
  | bad=>rw[h1] at h;cases h
theorem ay{a b:Bool}(h:(a&&b)=true):a=true/\b=true:=(Bool.and_eq_true a b).mp h
theorem eT{G:Gm}{b:Bool}{N:List Str}{sc:Scope}:∀{n:Nat} {as:List Expr} {cs:Es},gP G n b N sc (.es as cs)=true->jo cs=as.length/\as.all aQ=true
 | 0,_,_,h=>by cases h
 | n+1,[],cs,h=>by
  have:=iD (c:=cs) h
  subst this
  exact⟨rfl,rfl⟩
 | n+1,a::as,cs,h=>by
  replace h:=zk (c:=cs) h
  obtain⟨c,cs,rfl,h⟩:=h
  replace h:=ay h
  obtain⟨h,h3⟩:=h
  replace h:=ay h
  obtain⟨h1,h2⟩:=h
  obtain⟨q1,q2⟩:=eT h3
  exact⟨congrArg (·+1) q1,by rw[List.all_cons,h1,q2];rfl⟩
inductive wJ(th:Addr->Prop):Hp->Hp->Prop
 | refl (H:Hp):wJ th H H
 | step {H H1 H2:Hp}:A6 th H H1->wJ th H1 H2->wJ th H H2
noncomputable def GX:Bool->Cx->XS->Gx
 | true,_,w=>⟨w,fun _=>False,fun cv x σ H H' t h=>by
  rcases t with rfl | ⟨_,_,_,z,_⟩
  ·exact h
  ·exact z.elim⟩
 | false,X,w=>⟨fun cv x σ H=>∃H',wJ (D4 X) H H'/\w cv x σ H',D4 X,fun cv x σ H H' t ⟨H2,h1,h2⟩=>⟨H2,.step t h1,h2⟩⟩
theorem oF{X:Cx}{pins:List (Addr×Obj)}{σ:L2.St}{H H':Hp}{s:Shared}(I:Inv X pins σ H s)(t:wJ (D4 X) H H'):Inv X pins σ H' s:=by
 induction t with
 | refl=>exact I
 | step t _ ih=>exact ih (dU I t)
theorem vt{th:Addr->Prop}{H H':Hp}(t:wJ th H H'){b:Addr}(h:H' b≠none):H b≠none:=by
 induction t with
 | refl=>exact h
 | step t _ ih =>
  have:=ih h
  rcases t with rfl | ⟨a,o,kvs,_,h1,rfl⟩
  ·exact this
  ·by_cases e:b=a
   ·subst e;rw[h1];simp
   ·rw[ak e] at this;exact this
theorem pV{X:Cx}{w:XS}{e:Value}{s:Shared}(h:iO X (GX false X w).e e s):iO X w e s:=by
 obtain⟨pins,σ,H,a,a0,C,B,h1,I,up,d7,hp,H',t,q⟩:=h
 exact⟨pins,σ,H',a,a0,C,B,h1,oF I t,up,fun b hb hf=>d7 b (hb.imp (vt t) id) hf,hp,q⟩
theorem yI{X:Cx}{w:XS}{e:Value}{s:Shared}(h:Fw X (GX false X w).e e s):Fw X w e s:=by
 obtain⟨pins,σ,H,a,C,vs,hh,h1,I,made,H',t,q⟩:=h
 exact⟨pins,σ,H',a,C,vs,hh,h1,oF I t,made,q⟩
structure c8(G:Gm)(B:Bd)(Φ:aZ)(k:Nat)(X:Cx)(N:List Str)(sc:Scope)(b:Bool)(w:XS):Prop where
 hN:X.N=N
 nd:N.Nodup
 hsc:X.env.scope=sc
 K:B.K=X.K
 calm:G.cm=true->X.calm=true
 rm:bR G.cm k X.A
 dk:kQ B X
 fo:∀e s,X.xe e s->iO X (GX b X w).e e s\/Fw X (GX b X w).e e s
 fx:∀e s,iO X (GX b X w).e e s->X.xe e s
 nx:b=false->G.rz=true->∀e s,Fw X (GX b X w).e e s->X.xe e s
 fr:qo X
 fn:b=false->∀x,X.fn x=true
 fns:∀f i m,G.fns.lookup f=some (i,m)->∃fa fd ps,X.mg f=some (.ref fa)/\W.keepIn X.K (.ref fa)=true/\Binds X.K fd ps []/\bu G.cm X.prog X.w X.K X.mg X.base (fh X.prog X.w) k fa fd ps (oj B Φ i m)
 cst:∀x i,G.cst.lookup x=some i->∃v u,X.mg x=some u/\RelV v u/\∀d,Φ.glob i=some d->∀F ρ H,RD B F ρ H d v
 blt:∀x,G.gQ.contains x=true->X.mg x=none
 cls:∀c C,B.cls c=some C->wL X.K C/\∀f,G.C9.contains f=true->dM X.K C f
 AY:∀c nm i m,G.AY.lookup (c,nm)=some (i,m)->∃C fa fd ps,B.cls c=some C/\Meth X.K C nm fa/\Binds X.K fd ps []/\bu G.cm X.prog X.w X.K X.mg X.base (fh X.prog X.w) k fa fd ps (oj B Φ i m)
 Lh:∀x c i m,G.cls.lookup x=some (c,i,m)->∃C fa fd ps,X.mg x=some (.ref C)/\B.cls c=some C/\Mk X.K C fa/\Binds X.K fd ps [] /\
  ((∃j,k=j+1/\bu G.cm X.prog X.w X.K X.mg X.base (fh X.prog X.w) j fa fd ps (spI B Φ i m))\/∀ds M,Φ.ini i ds M=.bad)
 exc:∀x c, G.exc.lookup x=some c->∃C bmB newId bm base initId, X.mg x=some (.ref C)/\B.AV c=some C/\B.exc c (.ref C)/\n8 X.K C bmB newId bm/\ExcBaseFacts base newId initId bmB/\bm.contains (.type "BaseException")=true
 E1:∀c cv,B.exc c cv->∃C bmB newId bm,cv=.ref C/\B.AV c=some C/\n8 X.K C bmB newId bm/\∀d D,B.AV d=some D->(Value.ref C::bm).contains (.ref D)=Φ.sub c d
 A4:∀x f m d z,G.A4.lookup x=some (f,m,d,z)->∃fa fd ps du,X.mg x=some (.ref fa)/\W.keepIn X.K (.ref fa)=true/\Binds X.K fd ps [du]/\RelV (.int d) du/\KB X.K fd ps z/\bu G.cm X.prog X.w X.K X.mg X.base (fh X.prog X.w) k fa fd ps (oj B Φ f m)
 st:b=false->X.stack=X.env::X.outer/\X.env.frame=some X.env.locals
 oq:∀f i m,G.oq.lookup f=some (i,m)->∃fa fd ps,X.mg f=some (.ref fa)/\W.keepIn X.K (.ref fa)=true/\Binds X.K fd ps []/\bu false X.prog X.w X.K X.mg X.base (fh X.prog X.w) k fa fd ps (oj B Φ i m)
 lit:b=false->G.lt=true->G.cm=false->Cm true X
 jh:∀c C, B.AV c=some C->AN X.K C/\W.kitOne X.K (.ref C) (.type "ValueError")=some true/\∀d D, B.AV d=some D->W.kitOne X.K (.ref C) (.ref D)=some (Φ.sub c d)
section
variable{G:Gm}{B:Bd}{Φ:aZ}{k:Nat}{X:Cx}{N:List Str}{sc:Scope}{b:Bool}{w:XS}
theorem c8.Ku(O:c8 G B Φ k X N sc b w):Rm X:=by have:=O.rm.un;unfold Rm;omega
theorem c8.Gi(O:c8 G B Φ k X N sc b w)(e:G.cm=true):bR true k X.A:=e ▸ O.rm
theorem IA{cm:Bool}{k:Nat}{fa:Addr}{fd:FuncData}{ps:List Str}{sp:Sp}(e:cm=true)(F:bu cm X.prog X.w X.K X.mg X.base (fh X.prog X.w) k fa fd ps sp):bu true X.prog X.w X.K X.mg X.base (fh X.prog X.w) k fa fd ps sp:=e ▸ F
theorem c8.gZ(O:c8 G B Φ k X N sc b w){x:Str}(h:cW sc x=true):Gl X x:=by
 show X.env.scope.names.lookup x=some .globalImplicit
 rw[O.hsc]
 unfold cW at h
 split at h
 ·assumption
 ·cases h
theorem c8.vis(O:c8 G B Φ k X N sc b w){x:Str}(h:Bf sc x=true):N6 X.env.scope x:=by
 unfold N6
 rw[O.hsc]
 unfold Bf at h
 split at h
 ·rename_i q;exact .inl q
 ·rename_i q;exact .inr (.inl q)
 ·rename_i q;exact .inr (.inr q)
 ·cases h
theorem c8.loc(O:c8 G B Φ k X N sc b w){x:Str}(h:CL sc x=true):L2.Loc X.env.scope x:=by
 unfold L2.Loc
 rw[O.hsc]
 unfold CL at h
 split at h
 ·rename_i q;exact .inl q
 ·rename_i q;exact .inr q
 ·cases h
theorem cj{x:Str}(h:nD x=true):(x == ("__debug__" : Str))=false/\(x == ("__classdict__" : Str))=false:=by
 simp only[nD,Bool.and_eq_true,Bool.not_eq_true'] at h;exact h
theorem c8.Fq(O:c8 G B Φ k X N sc b w){scope:Scope}{N':List Str}(hn:N'.Nodup)(cl:List (Str×Addr))(fp:List Addr)(s:Shared)(H:Hp)(C:Addr)(E:XK):c8 G B Φ k (dJ X scope cl N' fp s H C E) N' (xZ scope sc) true (fun cv x _ H'=>E cv x H') :=
 ⟨rfl,hn,by show relabel scope X.env=xZ scope sc;rw[<- O.hsc];rfl,O.K,O.calm,O.rm,O.dk,(fun e s ⟨p,σ,H,a,a0,C,B,h1,I,h⟩=>.inl ⟨p,σ,H,a,a0,C,B,h1,I.bJ _,h⟩),(fun e s ⟨p,σ,H,a,a0,C,B,h1,I,h⟩=>⟨p,σ,H,a,a0,C,B,h1,I.aY,h⟩),(fun h=>by cases h),(by
  obtain⟨env,outer,L,h1,h2,h3⟩:=O.fr
  exact⟨env,outer,L,h1,h2,h3⟩),(fun h=>by cases h),O.fns,O.cst,O.blt,O.cls,O.AY,O.Lh,O.exc,O.E1,O.A4,(fun h=>by cases h),O.oq,(fun h=>by cases h),O.jh⟩
theorem c8.comp(O:c8 G B Φ k X N sc b w){scope:Scope}{caps:List Nat}{tn:List Str}{n:Nat}(h:Au N sc scope caps tn=true)(hn:tn.length=n):gX X scope (fc N caps tn) caps n/\(fc N caps tn).Nodup:=by
 simp only[Au,Bool.and_eq_true,List.all_eq_true,decide_eq_true_eq] at h
 obtain⟨⟨⟨h1,h2⟩,h3⟩,h4⟩:=h
 refine⟨⟨fun x hx=>?_,fun y hy z=>?_,by simpa using h2,fun y hy z=>?_,by simp[fc,hn],fun i j x e1 e2=>?_⟩,h4⟩
 ·have:=h1 _ hx
  show X.env.scope.names.lookup x=some .cell\/X.env.scope.names.lookup x=some .free
  rw[O.hsc]
  simp only at this
  split at this
  ·rename_i q;exact .inl q
  ·rename_i q;exact .inr q
  ·cases this
 ·have:=h1 _ hy
  rw[z] at this
  simp at this
 ·have:=h1 _ hy
  rw[z] at this
  simp only at this
  split at this
  ·assumption
  ·cases this
 ·have hj:j∈caps:=List.mem_of_getElem? e2
  have:=h3 j hj
  have hi:i<caps.length:=(List.getElem?_eq_some_iff.mp e2).1
  unfold fc at e1
  rw[List.getElem?_append_left (by simpa using hi),List.getElem?_map,e2] at e1
  simp only[Option.map_some,Option.some.injEq] at e1
  split at this
  ·rename_i y hy
   rw[hy] at e1
   simp only[Option.getD_some] at e1
   subst e1
   rw[O.hN]
   refine⟨hy,?_⟩
   split at this
   ·assumption
   ·cases this
  ·cases this
theorem yU{x:Str}(h:rL sc x=true):sc.names.lookup x=some .local:=by
 unfold rL at h
 split at h
 ·assumption
 ·cases h
theorem c8.nm(O:c8 G B Φ k X N sc b w){i:Nat}{x:Str}{p:Pos}(h:Ld N sc i x=true):PG X (.Name x p) (jj i):=by
 replace h:=ay h
 obtain⟨h1,h2⟩:=h
 have hl:X.env.scope.names.lookup x=some .local:=by rw[O.hsc];exact yU h2
 exact Cj (by rw[O.hN];exact O.nd) (by rw[O.hN];exact of_decide_eq_true h1) (.inl hl) (.inr hl)
noncomputable def gNs:List Nat->Fv
 | []=>LC
 | i::is=>EY (jj i) (gNs is)
theorem zJ:∀{is:List Nat} {xs:List V} {σ:St} {H:Hp} {Q:St->Hp->Prop},xs.length=is.length->Q (iS is xs σ) H->gNs is xs σ H Q
 | [],[],σ,H,Q,_,q=>⟨rfl,q⟩
 | [],_::_,_,_,_,h,_=>by cases h
 | _::_,[],_,_,_,h,_=>by cases h
 | i::is,x::xs,σ,H,Q,h,q=>⟨x,xs,rfl,zJ (is:=is) (xs:=xs) (σ:=σ.set i (some x)) (by simpa using h) q⟩
theorem c8.nms(O:c8 G B Φ k X N sc b w):∀{as:List Expr} {is:List Nat},CC N sc as is=true->(assignEach as X.env).length=is.length/\(assignEach as X.env).findIdx? (·.1)=none/\MG X as (gNs is)/\as.length=is.length
 | [],[],_=>⟨rfl,rfl,t6,rfl⟩
 | [],_::_,h=>by cases h
 | _::_,[],h=>by cases h
 | a::as,i::is,h=>by
  replace h:=ay h
  obtain⟨h1,h2⟩:=h
  replace h1:=bD h1
  obtain⟨x,p,rfl,h1⟩:=h1
  obtain⟨q1,q2,q3,q4⟩:=O.nms h2
  have e:assignEach (.Name x p::as) X.env=(false,assign (.Name x p) X.env)::assignEach as X.env:=rfl
  refine⟨?_,?_,j4 (O.nm (p:=p) h1) q3 (by rw[e];rfl),by rw[List.length_cons,List.length_cons,q4]⟩
  ·rw[e,List.length_cons,List.length_cons,q1]
  ·rw[e,List.findIdx?_cons,q2];rfl
theorem c8.tg(O:c8 G B Φ k X N sc b w){tn:Expr}{tg:List Nat}(iw:(G.cm||(tg.length == 1))=true)(h:MX N sc tn tg=true):PG X tn (LB tg B.K)/\(cL tn).length=tg.length:=by
 cases tg with
 | nil=>cases h
 | cons i r=>cases r with
  | nil =>
   replace h:=bD h
   obtain⟨x,p,rfl,h⟩:=h
   exact⟨O.nm h,rfl⟩
  | cons j r=>cases r with
   | cons l r =>
    replace h:=j8 h
    obtain⟨as,k1,pt,rfl,h⟩:=h
    obtain⟨q1,q2,q3,q4⟩:=O.nms h
    have p:=yp (X:=X) (pos:=pt) (k:=k1) (n:=(i::j::l::r).length) (O.calm (bq iw (by simp))) q3 q1 q2
    refine⟨fun pins s σ H v u Q I r q=>p pins s σ H v u Q I r ?_,by rw[<- q4];exact List.length_map ..⟩
    obtain⟨a,xs,e,sq,hl,q⟩:=q
    rw[O.K] at sq
    exact⟨a,xs,e,sq,hl,zJ hl q⟩
   | nil =>
    replace h:=j8 h
    obtain⟨as,k1,pt,rfl,h⟩:=h
    replace h:=pM h
    obtain⟨l,r,rfl,h⟩:=h
    replace h:=bD h
    obtain⟨x,px,rfl,h⟩:=h
    replace h:=bD h
    obtain⟨y,py,rfl,h⟩:=h
    replace h:=ay h
    obtain⟨h1,h2⟩:=h
    have p:=yp (X:=X) (pos:=pt) (k:=k1) (n:=2) (O.calm (bq iw rfl)) (j4 (O.nm (p:=px) h1) (j4 (O.nm (p:=py) h2) t6))
    refine⟨fun pins s σ H v u Q I r q=>p pins s σ H v u Q I r ?_,rfl⟩
    obtain⟨a,x',y',e,sq,q⟩:=q
    rw[O.K] at sq
    exact⟨a,[x',y'],e,sq,rfl,x',[y'],rfl,y',[],rfl,rfl,q⟩
end
end Fg
end
section
namespace Fg
open PySem PySem.Spec L2
section
variable{G:Gm}{B:Bd}{Φ:aZ}{k:Nat}
structure wU(G:Gm)(B:Bd)(Φ:aZ)(k n:Nat)(X:Cx)(N:List Str)(sc:Scope)(b:Bool)(w:XS):Prop where
 e:∀a c,gP G n b N sc (.e a c)=true->PE X a (T B Φ (GX b X w) c)
 t:∀a c,gP G n b N sc (.t a c)=true->PT X a (TB B Φ (GX b X w) c)/\(∀op v p,a=.BoolOp op v p->PW X a (TB B Φ (GX b X w) c))
 es:∀a c,gP G n b N sc (.es a c)=true->PA X a (TL B Φ (GX b X w) c)
 o:∀a c,gP G n b N sc (.o a c)=true->PO X a (TP B Φ (GX b X w) c)
 i:b=false->∀a c tg,(!Nt c||isTup tg)=true->gP G n b N sc (.i a c)=true->PI X tg a (DP B Φ (GX b X w) c)
 s:∀a c,gP G n b N sc (.s a c)=true->PS X a (TC B Φ (GX b X w) c)
 ss:∀a c,gP G n b N sc (.ss a c)=true->je X a (qm B Φ (GX b X w) c)
 m:∀a c,gP G n b N sc (.m a c)=true->PJ X B Φ (GX b X w) a c
theorem AO{E:Gx}{σ:L2.St}{H:Hp}{Q:VK}(h:T B Φ E .bad σ H Q):False:=by
 obtain⟨σD,M,F,ρ,S,r,h⟩:=h
 simp only[ev] at h
 exact h
theorem Jr{E:Gx}{Dn:Ends}{σ:L2.St}{H:Hp}(h:TC B Φ E .bad Dn σ H):False:=by
 obtain⟨σD,M,F,ρ,S,r,h⟩:=h
 simp only[ex] at h
 exact h
variable{X:Cx}{N:List Str}{sc:Scope}{b:Bool}{n:Nat}{w:XS}
theorem Bw{a:Const}{d:D}{j:Nat}{p:Pos}{E:Gx}(h:Je a d=true):PE X (.Constant a j p) (T B Φ E (.k d)):=by
 unfold Je at h
 split at h
 ·rw[of_decide_eq_true h];exact PE.weak GQ fun _ _ _=>tG rfl
 ·rw[of_decide_eq_true h];exact PE.weak qY fun _ _ _=>tG rfl
 ·rw[of_decide_eq_true h];exact PE.weak K1 fun _ _ _=>tG rfl
 ·exact PE.weak GL fun _ _ _=>tG rfl
 ·cases h
theorem ue:∀{as:List Expr} {is:List Nat},CC N sc as is=true->as.length=is.length
 | [],[],_=>rfl
 | [],_::_,h=>by cases h
 | _::_,[],h=>by cases h
 | a::as,i::is,h=>by rw[List.length_cons,List.length_cons,ue (ay h).2]
theorem FG{tn:Expr}{tg:List Nat}(h:MX N sc tn tg=true):(cL tn).length=tg.length:=by
 cases tg with
 | nil=>cases h
 | cons i r=>cases r with
  | nil=>replace h:=bD h;obtain⟨x,p,rfl,h⟩:=h;rfl
  | cons j r=>cases r with
   | cons l r =>
    replace h:=j8 h
    obtain⟨as,k1,pt,rfl,h⟩:=h
    exact (List.length_map ..).trans (ue h)
   | nil =>
    replace h:=j8 h
    obtain⟨as,k1,pt,rfl,h⟩:=h
    replace h:=pM h
    obtain⟨l,r,rfl,h⟩:=h
    rfl
theorem oJ(O:c8 G B Φ k X N sc false w)(ih:wU G B Φ k n X N sc false w)(Ip:∀X' N' sc' w',c8 G B Φ k X' N' sc' true w'->wU G B Φ k n X' N' sc' true w'){caps tg:List Nat}{elt:Fg.E}{it:Src}{cond:Fg.O}{el tn iter:Expr}{ifs:List Expr}{scope:Scope}(iw:(G.cm||(tg.length == 1))=true)
  (h:Nl (Az n) G false N sc caps tg elt it cond el tn iter ifs scope=true) :
  gX X scope (fc N caps (cL tn)) caps tg.length/\PI X tn iter (DP B Φ (GX false X w) it) /\
   (∀σ cl fp s H C,PG (dJ X scope cl (fc N caps (cL tn)) fp s H C fun cv x H'=>(GX false X w).e cv x σ H') tn (LB tg B.K)/\JM (dJ X scope cl (fc N caps (cL tn)) fp s H C fun cv x H'=>(GX false X w).e cv x σ H') ifs (TBo B Φ (EB (GX false X w) σ) cond)/\PE (dJ X scope cl (fc N caps (cL tn)) fp s H C fun cv x H'=>(GX false X w).e cv x σ H') el (T B Φ (EB (GX false X w) σ) elt))/\∀x,foldedSetIterable iter X.env x=pure x:=by
 simp only[Nl,Bool.and_eq_true] at h
 obtain⟨⟨⟨⟨⟨⟨h0,h1⟩,h2⟩,h3⟩,h4⟩,h5⟩,h6⟩:=h
 have hlen:(cL tn).length=tg.length:=FG h4
 obtain⟨C1,C2⟩:=O.comp h2 hlen
 refine⟨C1,ih.i rfl iter it tn h0 h3,fun σ cl fp s H C=>?_,set_plain h1⟩
 have OB:=O.Fq (scope:=scope) C2 cl fp s H C fun cv x H'=>(GX false X w).e cv x σ H'
 have S:=Ip _ _ _ _ OB
 refine⟨(OB.tg iw h4).1,?_,S.e el elt h5⟩
 cases cond with
 | none=>cases ifs with
  | nil=>exact B8
  | cons _ _=>cases h6
 | some d =>
  replace h6:=gh h6
  obtain⟨c,rfl,h6⟩:=h6
  exact B7 (S.t c d h6).1
theorem MB{α:Type}{o:Option α}{p:α->Bool}(h:o.any p=true):∃x,o=some x/\p x=true:=by
 cases o with
 | none=>cases h
 | some x=>exact⟨x,rfl,h⟩
theorem Kn(O:c8 G B Φ k X N sc b w)(ih:wU G B Φ k n X N sc b w)(Ip:∀X' N' sc' w',c8 G B Φ k X' N' sc' true w'->wU G B Φ k n X' N' sc' true w')(a:Expr)(c:Fg.E)(h:gP G (n+1) b N sc (.e a c)=true):PE X a (T B Φ (GX b X w) c):=by
 replace h:=ua h
 rcases h with ⟨o,v,p,rfl,h⟩ | h
 ·exact GJ (ih.e _ _ h)
 ·replace h:=ay h
  obtain⟨iw,h⟩:=h
  cases c with
  | bad=>exact fun _ _ _ _ _ _ q=>(AO q).elim
  | v i =>
   replace h:=bD h
   obtain⟨x,p,rfl,h⟩:=h
   simp only[Bool.and_eq_true,decide_eq_true_eq] at h
   exact PE.weak (yq (by rw[O.hN];exact h.1.1) (O.vis h.1.2) (cj h.2).1 (cj h.2).2) fun _ _ _=>Ei
  | k d =>
   replace h:=Ib h
   obtain⟨x,j,p,rfl,h⟩:=h
   exact Bw h
  | g i =>
   replace h:=bD h
   obtain⟨x,p,rfl,h⟩:=h
   simp only[Bool.and_eq_true,decide_eq_true_eq] at h
   obtain⟨v,u,q1,q2,q3⟩:=O.cst _ _ h.1.2
   exact PE.weak (t7 (O.gZ h.1.1) q1 q2 (cj h.2).1) fun _ _ _=>Kp q3
  | tup cs =>
   replace h:=j8 h
   obtain⟨as,j,p,rfl,h⟩:=h
   simp only[Bool.and_eq_true,decide_eq_true_eq] at h
   obtain⟨hl,_⟩:=eT h.2
   refine PE.weak (GI (ih.es _ _ h.2)) fun _ _ _=>BA fun q=>?_
   rw[aR q,hl];exact Nat.le_trans h.1 (by decide)
  | lst fz cs =>
   replace h:=HQ h
   obtain⟨as,p,rfl,h⟩:=h
   simp only[Bool.and_eq_true,decide_eq_true_eq] at h
   obtain⟨hl,_⟩:=eT h.2
   refine PE.weak (GO (ih.es _ _ h.2)) fun _ _ _=>BI fun q=>?_
   rw[aR q,hl];exact Nat.le_trans h.1 (by decide)
  | Jd=>cases h
  | op o fz x y =>
   replace h:=Ie h
   obtain⟨l,p,q,pos,rfl,h⟩:=h
   simp only[Bool.and_eq_true,decide_eq_true_eq] at h
   obtain⟨⟨h1,h2⟩,h3⟩:=h
   subst h1
   exact PE.weak (KY (G7 O.K o) (ih.e _ _ h2) (ih.e _ _ h3)) fun _ _ _=>F5
  | neg x =>
   replace h:=za h
   obtain⟨o,l,p,rfl,h⟩:=h
   replace h:=ay h
   obtain⟨ho,h⟩:=h
   cases zu ho
   exact PE.weak (KU FD (ih.e _ _ h)) fun _ _ _=>BF
  | not x =>
   replace h:=za h
   obtain⟨o,l,p,rfl,h⟩:=h
   replace h:=ay h
   obtain⟨ho,h⟩:=h
   cases ur ho
   exact PE.weak (GK (ih.e _ _ h)) fun _ _ _=>tE
  | and x y =>
   replace h:=uo h
   obtain⟨o,v,w,r,p,rfl,h⟩:=h
   replace h:=ay h
   obtain⟨h,h3⟩:=h
   replace h:=ay h
   obtain⟨h1,h2⟩:=h
   cases uv h1
   replace h:=And.intro h2 h3
   exact PE.weak (GS (ih.e _ _ h.1) (ih.e _ _ h.2)) fun _ _ _=>tN
  | or x y =>
   replace h:=uo h
   obtain⟨o,v,w,r,p,rfl,h⟩:=h
   replace h:=ay h
   obtain⟨h,h3⟩:=h
   replace h:=ay h
   obtain⟨h1,h2⟩:=h
   cases zv (by simpa using h1)
   replace h:=And.intro h2 h3
   exact PE.weak (KW (ih.e _ _ h.1) (ih.e _ _ h.2)) fun _ _ _=>xM
  | cmp o x y =>
   replace h:=ze h
   obtain⟨l,p,q,pos,rfl,h⟩:=h
   simp only[Bool.and_eq_true,decide_eq_true_eq,Bool.not_eq_true'] at h
   obtain⟨⟨⟨h1,h2⟩,h3⟩,h4⟩:=h
   subst h1
   exact PE.weak (Co (yD O.K O.Ku O.dk o) (ih.e _ _ h3) (ih.e _ _ h4) h2) fun _ _ _=>tL
  | CW t x y =>
   replace h:=HV h
   obtain⟨u,l,q,pos,rfl,h⟩:=h
   simp only[Bool.and_eq_true] at h
   exact PE.weak (yw (ih.t _ _ h.1.1).1 (ih.e _ _ h.1.2) (ih.e _ _ h.2)) fun _ _ _=>BP
  | idx x y =>
   replace h:=rN h
   obtain⟨l,q,pos,rfl,h⟩:=h
   simp only[Bool.and_eq_true] at h
   exact PE.weak (KZ (Im O.K O.dk) (ih.e _ _ h.1.2) (ih.e _ _ h.2) (xF h.1.1)) fun _ _ _=>BQ
  | sl fz x lo hi =>
   replace h:=rN h
   obtain⟨l,q,pos,rfl,h⟩:=h
   replace h:=HE h
   obtain⟨u,v,sp,rfl,h⟩:=h
   simp only[Bool.and_eq_true] at h
   exact PE.weak (yr (FW O.K) (ih.e _ _ h.1.1) (ih.o _ _ h.1.2) (ih.o _ _ h.2)) fun _ _ _=>FZ
  | call f cs =>
   replace h:=cV h
   obtain⟨x,p,as,pos,rfl,h⟩:=h
   simp only[Bool.and_eq_true,decide_eq_true_eq] at h
   obtain⟨⟨⟨⟨h1,h2⟩,h3⟩,h4⟩,h5⟩:=h
   obtain⟨fa,fd,ps,q1,q2,q3,q4⟩:=O.fns _ _ _ h3
   obtain⟨hl,_⟩:=eT h5
   cases as with
   | nil =>
    refine PE.weak (vM (IA (bq iw rfl) q4) (O.Gi (bq iw rfl)) (O.gZ h1) q1 q2 q3 O.fx (cj h2).1) fun _ _ _ q=>?_
    have:=jT (fun z=>by rw[aR z,hl]) q
    cases cs with
    | nil=>exact fV this
    | cons _ _=>simp[jo] at hl
   | cons e es =>
    simp only[List.all_cons,Bool.and_eq_true] at h4
    exact PE.weak (yz (IA (bq iw rfl) q4) (O.Gi (bq iw rfl)) (O.gZ h1) q1 q2 q3 O.fx (ih.es _ _ h5) (cj h2).1 (ah h4.1) (cg h4.2)) fun _ _ _=>jT (fun z=>by rw[aR z,hl])
  | iH f cs c =>
   replace h:=Lm h
   obtain⟨x,p,as,kw,v,kp,pos,rfl,h⟩:=h
   simp only[Bool.and_eq_true,decide_eq_true_eq] at h
   obtain⟨⟨⟨⟨⟨⟨h1,h2⟩,h3⟩,h6⟩,h4⟩,h5⟩,h7⟩:=h
   obtain⟨⟨f',m',d',z'⟩,hd,h3⟩:=MB h3
   simp only[Bool.and_eq_true,decide_eq_true_eq] at h3
   obtain⟨⟨rfl,rfl⟩,rfl⟩:=h3
   obtain⟨fa,fd,ps,du,q1,q2,_,_,q3,q4⟩:=O.A4 _ _ _ _ _ hd
   obtain⟨hl,_⟩:=eT h5
   cases as with
   | nil=>cases h6
   | cons e es =>
    simp only[List.all_cons,Bool.and_eq_true] at h4
    exact PE.weak (Fg.yx (IA (bq iw rfl) q4) (O.Gi (bq iw rfl)) (O.gZ h1) q1 q2 q3 O.fx (ih.es _ _ h5) (ih.e _ _ h7) (cj h2).1 (ah h4.1) (cg h4.2)) fun _ _ _=>vC (fun z=>by rw[aR z,hl])
  | EK fz x y =>
   replace h:=cV h
   obtain⟨z,p,as,pos,rfl,h⟩:=h
   replace h:=gh h
   obtain⟨a1,rfl,h⟩:=h
   replace h:=cV h
   obtain⟨u,p2,as2,pos2,rfl,h⟩:=h
   replace h:=k3_t h
   obtain⟨l,q,v,rfl,h⟩:=h
   simp only[Bool.and_eq_true,decide_eq_true_eq] at h
   obtain⟨⟨⟨⟨⟨⟨⟨⟨⟨⟨⟨h1,h2⟩,h3⟩,h4⟩,h5⟩,h6⟩,h7⟩,h8⟩,h9⟩,uz⟩,h11⟩,h12⟩:=h
   subst h1 h2
   have pa:=aG (ih.e _ _ uz) (aG (ih.e _ _ h11) (aG (ih.e _ _ h12) bV (ah h9)) (ah h8)) (ah h7)
   exact PE.weak (GP (O.calm (bq iw rfl)) (O.gZ h3) (O.blt _ h5) (O.gZ h4) (O.blt _ h6) pa (by rw[ah h7]) (by rw[ah h8,ah h9];rfl)) fun _ _ _=>BK
  | u6 f cs d=>cases h
  | CV x t =>
   replace h:=cV h
   obtain⟨y,p,as,pos,rfl,h⟩:=h
   replace h:=pM h
   obtain⟨l,z0,rfl,h⟩:=h
   replace h:=bD h
   obtain⟨z,zp,rfl,h⟩:=h
   simp only[Bool.and_eq_true,decide_eq_true_eq] at h
   obtain⟨⟨⟨⟨⟨⟨⟨h1,h2⟩,h3⟩,h4⟩,h5⟩,h6⟩,h7⟩,h8⟩:=h
   subst h1 h2
   refine PE.weak (cP (AA O.K O.dk) (O.gZ h3) (O.blt _ h5) boot_isinstance (aG (ih.e _ _ h8) (aG (t9 (v:=.ty (oE t)) (O.gZ h4) (O.blt _ h6) (DJ t) rfl (D0 t).1 (D0 t).2) bV) (ah h7)) (by decide) (by decide) (ah h7)) fun _ _ _=>BN
  | jh x c =>
   replace h:=cV h
   obtain⟨y,p,as,pos,rfl,h⟩:=h
   replace h:=pM h
   obtain⟨l,z0,rfl,h⟩:=h
   replace h:=bD h
   obtain⟨z,zp,rfl,h⟩:=h
   replace h:=ay h
   obtain⟨h,h8⟩:=h
   replace h:=ay h
   obtain⟨h,h7⟩:=h
   simp only[Bool.and_eq_true,decide_eq_true_eq] at h
   obtain⟨⟨⟨⟨⟨h1,h3⟩,h4⟩,h5⟩,h2⟩,h6⟩:=h
   subst h1
   cases c with
   | some c =>
    obtain⟨C,_,_,_,_,_,q1,q2,_⟩:=O.exc _ _ (of_decide_eq_true h7)
    refine PE.weak (cP (qg (v:=.ref C)) (O.gZ h3) (O.blt _ h5) boot_isinstance (aG (ih.e _ _ h8) (aG (t7 (v:=.ref C) (O.gZ h4) q1 rfl (cj h2).1) bV) (ah h6)) (by decide) (by decide) (ah h6)) fun _ _ _ q=>?_
    rw[<- O.K]
    refine tH (cv:=.ref C) (fun u r=>r) (fun d D hd=>?_) q
    obtain⟨k1,_,k3⟩:=O.jh d D hd
    rw[O.K]
    exact⟨k1,k3 c C q2⟩
   | none =>
    replace h7:=ay h7
    obtain⟨h7,h9⟩:=h7
    cases of_decide_eq_true h7
    refine PE.weak (cP (qg (v:=.ty "ValueError")) (O.gZ h3) (O.blt _ h5) boot_isinstance (aG (ih.e _ _ h8) (aG (t9 (v:=.ty "ValueError") (O.gZ h4) (O.blt _ h9) (show bootBuiltins ("ValueError" : Str)=some (.type "ValueError") by decide +kernel) rfl (by decide) (by decide)) bV) (ah h6)) (by decide) (by decide) (ah h6)) fun _ _ _ q=>?_
    rw[<- O.K]
    refine tH (cv:=.type "ValueError") (fun u r=>r) (fun d D hd=>?_) q
    obtain⟨k1,k2,_⟩:=O.jh d D hd
    rw[O.K]
    exact⟨k1,k2⟩
  | Ii ct x cs =>
   replace h:=zh h
   obtain⟨o,y,ap,as,cp,rfl,h⟩:=h
   replace h:=gh h
   obtain⟨l,rfl,h⟩:=h
   simp only[Bool.and_eq_true,decide_eq_true_eq] at h
   obtain⟨⟨⟨⟨⟨h1,h2⟩,h4⟩,h3⟩,h5⟩,h6⟩:=h
   subst h1
   have fin:∀σ H Q, T B Φ (GX b X w) (.Ii ct x cs) σ H Q->Kf X.K "list" (Gs X.K ct) (T B Φ (GX b X w) x) (TL B Φ (GX b X w) cs) σ H Q:=fun _ _ _ q=>by
    have:=BL q
    rw[O.K] at this
    exact this
   cases ct with
   | true=>exact PE.weak (t8 PySem.F.plainAttrs_list PySem.F.slot_list_count PySem.F.type_list_count (yK O.Ku true) (ih.e _ _ h5) (ih.es _ _ h6) (aV h2) (by rw[ah h3];rfl) h4 (ah h3)) fin
   | false=>exact PE.weak (t8 PySem.F.plainAttrs_list PySem.F.slot_list_index PySem.F.type_list_index (yK O.Ku false) (ih.e _ _ h5) (ih.es _ _ h6) (aV h2) (by rw[ah h3];rfl) h4 (ah h3)) fin
  | Ni x=>cases h
  | blt kd fz cs =>
   replace h:=cV h
   obtain⟨y,p,as,pos,rfl,h⟩:=h
   replace h:=gh h
   obtain⟨l,rfl,h⟩:=h
   simp only[Bool.and_eq_true,decide_eq_true_eq] at h
   obtain⟨⟨⟨⟨h1,h2⟩,h3⟩,h4⟩,h5⟩:=h
   have pa:=ih.es _ _ h5
   cases kd <;> simp only[Mx] at h1 <;> first | (cases h1;done) | cases h1
   ·exact PE.weak (cP (wu O.K O.dk) (O.gZ h2) (O.blt _ h3) PySem.boot_len pa (by decide) (by decide) (ah h4)) fun _ _ _=>tM
   ·exact PE.weak (lX (wB O.dk) (O.gZ h2) (O.blt _ h3) boot_dict pa (by decide) (by decide) (ah h4)) fun _ _ _=>tM
  | eU m fz x cs =>
   replace h:=zh h
   obtain⟨o,y,ap,as,cp,rfl,h⟩:=h
   simp only[Bool.and_eq_true] at h
   obtain⟨⟨⟨h2,h4⟩,h5⟩,h⟩:=h
   cases hm:Lr m with
   | true =>
    rw[hm] at h
    replace h:=ay h
    obtain⟨h1,h⟩:=h
    replace h:=gh h
    obtain⟨l,rfl,h⟩:=h
    replace h:=ay h
    obtain⟨h3,h6⟩:=h
    cases m <;> first | (cases hm;done) | skip
    all_goals cases of_decide_eq_true h1
    ·refine PE.weak (t8 PySem.F.plainAttrs_list PySem.F.slot_list_append PySem.F.type_list_append l6 (ih.e _ _ h5) (ih.es _ _ h6) (aV h2) ?_ h4 (ah h3)) fun _ _ _ q=>?_
     ·rw[ah h3];rfl
     ·have:=qP q
      rw[O.K] at this
      exact this
    ·refine PE.weak (t8 PySem.F.plainAttrs_list PySem.F.slot_list_extend PySem.F.type_list_extend CF (ih.e _ _ h5) (ih.es _ _ h6) (aV h2) ?_ h4 (ah h3)) fun _ _ _ q=>?_
     ·rw[ah h3];rfl
     ·have:=qO q
      rw[O.K] at this
      exact this
   | false =>
    rw[hm] at h
    replace h:=ay h
    obtain⟨h,h7⟩:=h
    replace h:=ay h
    obtain⟨h1,h6⟩:=h
    cases List.isEmpty_iff.mp h6
    cases iD h7
    replace h1:=of_decide_eq_true h1
    cases m <;> simp only[EF] at h1 <;> first | (cases h1;done) | cases h1
    ·refine PE.weak (yC PySem.F.plainAttrs_list PySem.F.slot_list_pop PySem.F.type_list_pop Hi (ih.e _ _ h5) (aV h2) h4) fun _ _ _ q=>?_
     have:=BE q
     rw[O.K] at this
     exact this
    ·refine PE.weak (yC PySem.F.plainAttrs_list PySem.F.slot_list_reverse PySem.F.type_list_reverse rE (ih.e _ _ h5) (aV h2) h4) fun _ _ _ q=>?_
     have:=oN q
     rw[O.K] at this
     exact this
  | comp fz caps tg elt it cond =>
   replace h:=ay h
   obtain⟨h0,h⟩:=h
   cases b with
   | true=>cases h0
   | false =>
    replace h:=ER h
    obtain⟨el,tn,iter,ifs,scope,p,rfl,h⟩:=h
    obtain⟨C1,C2,C3,C4⟩:=oJ O ih Ip iw h
    exact PE.weak (Ck (Cn C1 C2 O.fr O.fx C3 C4)) fun _ _ _=>oS
  | chain _ _ _ _ _=>cases h
  | tru _=>cases h
  | fld x f =>
   replace h:=rP h
   obtain⟨l,y,p,rfl,h⟩:=h
   simp only[Bool.and_eq_true,decide_eq_true_eq] at h
   obtain⟨⟨⟨h1,h2⟩,h3⟩,h4⟩:=h
   subst h1
   exact PE.weak (GR (ih.e _ _ h4) (aV h3)) fun _ _ _=>BU fun c C hc=>⟨(O.cls c C hc).1,(O.cls c C hc).2 _ h2⟩
  | cZ c m nm x cs =>
   replace h:=zh h
   obtain⟨o,y,ap,as,cp,rfl,h⟩:=h
   simp only[Bool.and_eq_true,decide_eq_true_eq] at h
   obtain⟨⟨⟨⟨⟨⟨⟨h1,h2⟩,h3⟩,h4⟩,h5⟩,h6⟩,h7⟩,h8⟩:=h
   subst h1
   obtain⟨C,fa,fd,ps,q1,q2,q3,q4⟩:=O.AY _ _ _ _ h5
   obtain⟨hl,_⟩:=eT h8
   cases as with
   | nil =>
    refine PE.weak (vK (ih.e _ _ h7) (O.cls _ _ q1).1 q2 (IA (bq iw rfl) q4) (O.Gi (bq iw rfl)) q3 O.fx (l7 (aV h2) h6 h4 h3)) fun _ _ _ q=>?_
    have:=tD (n:=1) q1 (fun z=>by rw[aR z,hl];rfl) q
    cases cs with
    | nil =>
     obtain⟨σD,M,F,ρ,S,r,z⟩:=this
     exact⟨σD,M,F,ρ,S,r,ai.imp z fun v H' ⟨a,dx,fs,z1,z2,z3,z4⟩=>⟨a,dx,fs,z1,z2,z3,fV z4⟩⟩
    | cons _ _=>simp[jo] at hl
   | cons e es =>
    simp only[List.all_cons,Bool.and_eq_true] at h6
    exact PE.weak (yt (ih.e _ _ h7) (O.cls _ _ q1).1 q2 (IA (bq iw rfl) q4) (O.Gi (bq iw rfl)) q3 O.fx (ih.es _ _ h8) (ah h6.1) (cg h6.2) (l7 (aV h2) (by simp[h6.1,h6.2]) h4 h3)) fun _ _ _=>tD q1 (fun z=>by rw[aR z,hl])
  | new c i cs =>
   replace h:=cV h
   obtain⟨x,p,as,pos,rfl,h⟩:=h
   simp only[Bool.and_eq_true,decide_eq_true_eq] at h
   obtain⟨⟨⟨⟨h1,h2⟩,h3⟩,h4⟩,h5⟩:=h
   obtain⟨C,fa,fd,ps,q1,q2,q3,q4,q5⟩:=O.Lh _ _ _ _ h3
   obtain⟨hl,_⟩:=eT h5
   rcases q5 with ⟨j,rfl,q5⟩ | q5
   ·cases as with
    | nil =>
     refine PE.weak (vL q3 (IA (bq iw rfl) q5) (O.Gi (bq iw rfl)) (O.gZ h1) q1 q4 O.fx (cj h2).1) fun _ _ _ q=>?_
     have:=tF (n:=1) q2 (fun z=>by rw[aR z,hl];rfl) q
     cases cs with
     | nil=>exact fV this
     | cons _ _=>simp[jo] at hl
    | cons e es =>
     simp only[List.all_cons,Bool.and_eq_true] at h4
     exact PE.weak (yv q3 (IA (bq iw rfl) q5) (O.Gi (bq iw rfl)) (O.gZ h1) q1 q4 O.fx (ih.es _ _ h5) (cj h2).1 (ah h4.1) (cg h4.2)) fun _ _ _=>tF q2 (fun z=>by rw[aR z,hl])
   ·cases as with
    | nil =>
     intro pins s σ H Q I q
     have:=oO q5 q
     cases cs with
     | nil=>exact (fV this).elim
     | cons _ _=>simp[jo] at hl
    | cons e es =>
     simp only[List.all_cons,Bool.and_eq_true] at h4
     exact PE.weak (yu q3 (O.gZ h1) q1 (ih.es _ _ h5) (cj h2).1 (ah h4.1) (cg h4.2)) fun _ _ _=>oO q5
  | mx hi x y =>
   replace h:=cV h
   obtain⟨z,p,as,pos,rfl,h⟩:=h
   replace h:=pM h
   obtain⟨l,q,rfl,h⟩:=h
   simp only[Bool.and_eq_true,decide_eq_true_eq] at h
   obtain⟨⟨⟨⟨⟨⟨h1,h2⟩,h3⟩,h4⟩,h5⟩,h6⟩,h7⟩:=h
   have pa:=aG (ih.e _ _ h6) (aG (ih.e _ _ h7) bV (ah h5)) (ah h4)
   cases hi with
   | true =>
    subst h1
    exact PE.weak (cP (wo (O.calm (bq iw rfl))) (O.gZ h2) (O.blt _ h3) PyProof.Rows.boot_max pa (by decide) (by decide) (ah h4) (cg (es:=[_]) (by simp[h5]))) fun _ _ _=>BH
   | false =>
    subst h1
    exact PE.weak (cP (wm (O.calm (bq iw rfl))) (O.gZ h2) (O.blt _ h3) PyProof.Rows.boot_min pa (by decide) (by decide) (ah h4) (cg (es:=[_]) (by simp[h5]))) fun _ _ _=>BG
  | qu f x =>
   replace h:=cV h
   obtain⟨y,p,as,pos,rfl,h⟩:=h
   replace h:=gh h
   obtain⟨l,rfl,h⟩:=h
   simp only[Bool.and_eq_true,decide_eq_true_eq] at h
   obtain⟨⟨⟨⟨h1,h2⟩,h3⟩,h4⟩,h5⟩:=h
   subst h1
   have pa:=aG (ih.e _ _ h5) bV (ah h4)
   cases f
   ·exact PE.weak (cP wC (O.gZ h2) (O.blt _ h3) PyProof.Rows.boot_abs pa (by decide) (by decide) (ah h4)) fun _ _ _=>tK
   ·exact PE.weak (lX wA (O.gZ h2) (O.blt _ h3) (show bootBuiltins ("int" : Str)=some (.type "int") by decide +kernel) pa (by decide) (by decide) (ah h4)) fun _ _ _=>tK
  | all1 x=>cases h
  | Nk fz x=>cases h
  | rv fz x=>cases h
  | Nj fz x y=>cases h
  | dz x y =>
   replace h:=cV h
   obtain⟨z,p,as,pos,rfl,h⟩:=h
   replace h:=gh h
   obtain⟨a1,rfl,h⟩:=h
   replace h:=cV h
   obtain⟨u,p2,as2,pos2,rfl,h⟩:=h
   replace h:=pM h
   obtain⟨l,q,rfl,h⟩:=h
   simp only[Bool.and_eq_true,decide_eq_true_eq] at h
   obtain⟨⟨⟨⟨⟨⟨⟨⟨⟨h1,h2⟩,h3⟩,h4⟩,h5⟩,h6⟩,h7⟩,h8⟩,h9⟩,uz⟩:=h
   subst h1 h2
   have pa:=aG (ih.e _ _ h9) (aG (ih.e _ _ uz) bV (ah h8)) (ah h7)
   refine PE.weak (K0 (O.calm (bq iw rfl)) (O.gZ h3) (O.blt _ h5) (O.gZ h4) (O.blt _ h6) pa (by rw[ah h7,ah h8];rfl) (by rw[ah h8];rfl)) fun _ _ _ q=>?_
   have:=Ga q
   rw[O.K] at this
   exact this
end
end Fg
end
section
namespace Fg
open PySem PySem.Spec L2
section
variable{G:Gm}{B:Bd}{Φ:aZ}{k:Nat}{X:Cx}{N:List Str}{sc:Scope}{b:Bool}{n:Nat}{w:XS}
theorem Kh(O:c8 G B Φ k X N sc b w)(ih:wU G B Φ k n X N sc b w)(a:Expr)(c:Fg.E)(h:gP G (n+1) b N sc (.t a c)=true) :
  PT X a (TB B Φ (GX b X w) c)/\(∀op v p,a=.BoolOp op v p->PW X a (TB B Φ (GX b X w) c)):=by
 replace h:=ua h
 rcases h with ⟨op,v,p,rfl,h⟩ | h
 ·have pt:=(ih.t _ _ h).1
  have pw:PW X (.BoolOp op [v] p) (TB B Φ (GX b X w) c):=by
   cases op
   ·exact pw_and1 pt
   ·exact pw_or1 pt
  exact⟨pw.pt,fun _ _ _ _=>pw⟩
 ·have notB:∀{P:Prop},rD a=true->(∀op v p,a=.BoolOp op v p->P):=fun hq op v p e=>by subst e;simp[rD] at hq
  have plain:rD a=true->gP G n b N sc (.e a c)=true->PT X a (TB B Φ (GX b X w) c)/\(∀op v p,a=.BoolOp op v p->PW X a (TB B Φ (GX b X w) c)):=fun h1 h2 =>
   ⟨Gv (ih.e _ _ h2) (vp h1),notB h1⟩
  have pln:(rD a&&gP G n b N sc (.e a c))=true->PT X a (TB B Φ (GX b X w) c)/\(∀op v p,a=.BoolOp op v p->PW X a (TB B Φ (GX b X w) c)):=fun hq=>by
   simp only[Bool.and_eq_true] at hq;exact plain hq.1 hq.2
  cases c with
  | bad=>exact⟨fun _ _ _ _ _ _ q=>(AO q).elim,fun _ _ _ _ _ _ _ _ _ _ _ q=>(AO q).elim⟩
  | cmp o x y =>
   replace h:=ze h
   obtain⟨l,p,q,pos,rfl,h⟩:=h
   ·simp only[Bool.and_eq_true,decide_eq_true_eq,Bool.not_eq_true'] at h
    obtain⟨⟨⟨h1,h2⟩,h3⟩,h4⟩:=h
    subst h1
    exact⟨PT.weak (B9 (yD O.K O.Ku O.dk o) (ih.e _ _ h3) (ih.e _ _ h4) h2) fun _ _ _=>tL,fun _ _ _ e=>by cases e⟩
  | not x =>
   replace h:=za h
   obtain⟨o,l,p,rfl,h⟩:=h
   replace h:=ay h
   obtain⟨ho,h⟩:=h
   cases ur ho
   exact⟨PT.weak (Gw (ih.t _ _ h).1) fun _ _ _=>xO,fun _ _ _ e=>by cases e⟩
  | and x y =>
   replace h:=uo h
   obtain⟨o,v,w',r,p,rfl,h⟩:=h
   replace h:=ay h
   obtain⟨h,h3⟩:=h
   replace h:=ay h
   obtain⟨h1,h2⟩:=h
   cases uv h1
   have pw:=PW.weak (pw_and (ih.t _ _ h2).1 ((ih.t _ _ h3).2 _ _ _ rfl)) fun _ _ _=>xP
   exact⟨pw.pt,fun _ _ _ _=>pw⟩
  | or x y =>
   replace h:=uo h
   obtain⟨o,v,w',r,p,rfl,h⟩:=h
   replace h:=ay h
   obtain⟨h,h3⟩:=h
   replace h:=ay h
   obtain⟨h1,h2⟩:=h
   cases zv (by simpa using h1)
   have pw:=PW.weak (pw_or (ih.t _ _ h2).1 ((ih.t _ _ h3).2 _ _ _ rfl)) fun _ _ _=>BV
   exact⟨pw.pt,fun _ _ _ _=>pw⟩
  | _=>exact pln h
theorem Km(O:c8 G B Φ k X N sc b w)(ih:wU G B Φ k n X N sc b w)(hb:b=false)(a:Expr)(c:Src)(tg:Expr)(hz:(!Nt c||isTup tg)=true)(h:gP G (n+1) b N sc (.i a c)=true):PI X tg a (DP B Φ (GX b X w) c):=by
 subst hb
 cases c with
 | e c =>
  replace h:=ay h
  obtain⟨h0,h⟩:=h
  replace h0:=ay h0
  exact PI.weak (GH (O.calm h0.1) O.K (ih.e _ _ h)) fun _ _ _=>F8
 | Ek c=>cases h
 | fj c d =>
  replace h:=ay h
  obtain⟨h0,h⟩:=h
  replace h:=cV h
  obtain⟨y,p,as,pos,rfl,h⟩:=h
  replace h:=pM h
  obtain⟨l,q,rfl,h⟩:=h
  simp only[Bool.and_eq_true,decide_eq_true_eq] at h
  obtain⟨⟨⟨⟨⟨⟨h1,h2⟩,h3⟩,h4⟩,h5⟩,h6⟩,h7⟩:=h
  subst h1
  exact PI.weak (vJ (O.calm h0) (O.gZ h2) (O.blt _ h3) (aG (ih.e _ _ h6) (aG (ih.e _ _ h7) bV (ah h5)) (ah h4)) (by rw[ah h4,ah h5];rfl) (by rw[ah h5];rfl)) fun _ _ _=>xK
 | Gg c d=>cases h
 | enum _=>cases h
 | AZ c =>
  replace h:=ay h
  obtain⟨h0,h⟩:=h
  replace h0:=ay h0
  have hc:Cm true X:=by
   cases hz:G.cm with
   | true=>exact .inl (O.calm hz)
   | false=>rw[hz] at h0;exact O.lit rfl h0.1 hz
  refine PI.weak (Ci hc (ih.e _ _ h)) fun _ _ _ q=>?_
  have:=BJ q
  rw[O.K] at this
  exact this
 | rev c =>
  replace h:=ay h
  obtain⟨h0,h⟩:=h
  replace h:=cV h
  obtain⟨y,p,as,pos,rfl,h⟩:=h
  replace h:=gh h
  obtain⟨l,rfl,h⟩:=h
  simp only[Bool.and_eq_true,decide_eq_true_eq] at h
  obtain⟨⟨⟨⟨h1,h2⟩,h3⟩,h4⟩,h5⟩:=h
  subst h1
  refine PI.weak (GG (O.calm h0) (O.gZ h2) (O.blt _ h3) (aG (ih.e _ _ h5) bV (ah h4)) (ah h4)) fun _ _ _ q=>?_
  have:=BC q
  rw[O.K] at this
  exact this
 | zip c d=>cases h
theorem swap_eq(O:c8 G B Φ k X N sc b w){el tn iter:Expr}{ifs:List Expr}{scope:Scope}{lp px p:Pos}{x:Str}:swapsWith (.ListComp el [⟨tn,iter,ifs,0⟩] scope lp) (some (.Name x px)) p.line X.env=pure (xw sc scope x px lp):=by
 rw[<- O.hsc];rfl
noncomputable abbrev JD:XS:=fun _ _ _ _=>False
theorem c8.suite(O:c8 G B Φ k X N sc false w)(pins:List (Addr×Obj))(e:Value):c8 (zD G) B Φ k (Fg.suite (fq X pins) e) N sc false JD :=
 ⟨O.hN,O.nd,O.hsc,O.K,(fun z=>by cases z),⟨(fun z=>by cases z),O.rm.dp,O.rm.un⟩,O.dk,(fun _ _ z=>z.elim),(fun e s ⟨_,_,_,_,_,_,_,_,_,_,_,_,_,_,z⟩=>z),(fun _ z=>by cases z),(by
  obtain⟨env,outer,L,h1,h2,h3⟩:=O.fr
  exact⟨env,outer,L,h1,h2,h3⟩),O.fn,(fun _ _ _ z=>by cases z),O.cst,O.blt,O.cls,(fun _ _ _ _ z=>by cases z),(fun _ _ _ _ z=>by cases z),O.exc,O.E1,(fun _ _ _ _ _ z=>by cases z),O.st,O.oq,(fun _ z _=>by cases z),O.jh⟩
theorem Bu{Y:Cx}{E:Value->Shared->Prop}{D:Ends}{pins:List (Addr×Obj)}{st:Sem Flow}{s:Shared}(h:wpAny (model Y.prog Y.w) Y.A st (SP Y pins { nx:=D.nx,rt:=fun _ _=>False }) E s):wpAny (model Y.prog Y.w) Y.A st (SP Y pins D) E s :=
 wpAny_mono h (fun f s2 z=>by
  cases f with
  | next=>exact z
  | brk=>obtain⟨_,_,_,q⟩:=z;exact q.elim
  | cont=>obtain⟨_,_,_,q⟩:=z;exact q.elim
  | ret u=>obtain⟨_,_,_,_,_,q⟩:=z;exact q.elim) fun _ _ z=>z
theorem BR{A:Around}{E:Gx}{f i j:Nat}{Dn:Ends}{σ:L2.St}{H:Hp}(hh:HX A H)(h:qm B Φ E (.cons (.set j (.call f (.cons (.v i) .nil))) .nil) Dn σ H) :
  FH (Bs (fun σ H Q=>HX A H/\∃v,σ[i]? = some (some v)/\oj B Φ f 1 [v] H Q fun cv x H'=>E.e cv x σ H') (jj j)) (qm B Φ E .nil) Dn σ H:=by
 have h3:TL B Φ E (.cons (.v i) .nil) σ H _:=jT (n:=1) (fun z=>by rw[aR z];rfl) (mU (lP h))
 obtain⟨v,e,q⟩:=Ei (oR h3)
 exact⟨hh,v,e,fV q⟩
theorem vz{i:Nat}{s:Stmt}{bd:List Stmt}{b:Ss}{pins:List (Addr×Obj)}(wN:∀G' X' N' sc' b' w',c8 G' B Φ k X' N' sc' b' w'->wU G' B Φ k n X' N' sc' b' w')(O:c8 G B Φ k X N sc false w)(h:(Az n (zD G) false N sc (.ss (s::bd) b)||Iq G N sc i s bd b)=true)(e:Value) :
  je (Fg.suite (fq X pins) e) (s::bd) (fun D σ H=>HX (X.A.mark (some e)) H/\qm B Φ (GX false X JD) b D σ H):=by
 have O':=O.suite pins e
 replace h:=(Bool.or_eq_true _ _).mp h
 rcases h with h | h
 ·exact je.weak ((wN _ _ _ _ _ _ O').ss _ _ h) fun _ _ _ q=>q.2
 ·unfold Iq at h
  replace h:=ay h
  obtain⟨h0,h⟩:=h
  obtain rfl:bd=[]:=List.isEmpty_iff.mp h0
  split at h
  ·rename_i j f i'
   replace h:=nq h
   obtain⟨t,e',p,rfl,h⟩:=h
   replace h:=zd h
   obtain⟨x,px,rfl,h⟩:=h
   replace h:=cV h
   obtain⟨g,q,as,pos,rfl,h⟩:=h
   replace h:=gh h
   obtain⟨l,rfl,h⟩:=h
   replace h:=zd h
   obtain⟨y,py,rfl,h⟩:=h
   simp only[Bool.and_eq_true,decide_eq_true_eq] at h
   obtain⟨⟨⟨⟨⟨⟨⟨⟨rfl,h1⟩,h2⟩,h3⟩,h4⟩,h5⟩,h6⟩,h7⟩,h8⟩:=h
   obtain⟨fa,fd,ps,a1,a2,a3,a4⟩:=O.oq _ _ _ h8
   have pv:PE (Fg.suite (fq X pins) e) (.Name y py) (Bq i'):=yq (by show X.N[i']? = some y;rw[O.hN];exact h3) (O'.vis h4) (cj h5).1 (cj h5).2
   have pc:=yy (X:=Fg.suite (fq X pins) e) (p:=q) (pos:=pos) a4 O'.rm (O'.gZ h6) a1 a2 a3 O'.fx pv (cj h7).1
   exact je.weak (o9 (yk (by show X.N.Nodup;rw[O.hN];exact O.nd) (by show X.N[j]? = some x;rw[O.hN];exact h1) (O'.loc h2) pc (iu rfl) (.inl (O.fn rfl x))) (je.weak tX fun _ _ _=>oM)) fun _ _ _ q=>BR q.1 q.2
  ·cases h
theorem qM(wN:∀G' X' N' sc' b' w',c8 G' B Φ k X' N' sc' b' w'->wU G' B Φ k n X' N' sc' b' w')(O:c8 G B Φ k X N sc false w):∀{hds:List ExceptHandler} {hs:Hs},Nx (Az n) G N sc hds hs=true->∃rs,DT X.A B Φ (GX false X JD) B.AV hs=some rs/\∀pins,PH (fq X pins) hds rs
 | [],hs,h=>by
  cases CY (c:=hs) h
  exact⟨[],rfl,fun _=>.nil⟩
 | hd::r,.nil,h=>by cases h
 | hd::r,.cons cs b hs,h=>by
  replace h:=ES h
  obtain⟨t,nm,s,bd,hp,rfl,h⟩:=h
  replace h:=bD h
  obtain⟨x,np,rfl,h⟩:=h
  replace h:=gh h
  obtain⟨c,rfl,h⟩:=h
  simp only[Bool.and_eq_true,decide_eq_true_eq,Option.isNone_iff_eq_none] at h
  obtain⟨⟨⟨⟨⟨rfl,h1⟩,h2⟩,h3⟩,h4⟩,h5⟩:=h
  obtain⟨rs,hrs,ph⟩:=qM wN O h5
  obtain⟨C,bmB,newId,bm,base,initId,q1,q2,q3,q4,q5,q6⟩:=O.exc _ _ h3
  exact⟨(C,fun _ D σ H=>qm B Φ (GX false X JD) b { nx:=D.nx,rt:=fun _ _=>False } σ H)::rs,by simp only[DT,q2,hrs],fun pins=>.cons q1 (O.gZ h1) (cj h2).1 q4 q6 (fun e=>fun p s' σ H D I q=>Bu ((wN _ _ _ _ _ _ (O.suite pins e)).ss _ _ h4 p s' σ H _ I q)) (ph pins)⟩
 | hd::r,.as c i b hs,h=>by
  replace h:=ES h
  obtain⟨t,nm,s,bd,hp,rfl,h⟩:=h
  replace h:=bD h
  obtain⟨x,np,rfl,h⟩:=h
  simp only[Bool.and_eq_true,decide_eq_true_eq] at h
  obtain⟨⟨⟨⟨⟨⟨h6,h7⟩,h1⟩,h2⟩,h3⟩,h4⟩,h5⟩:=h
  obtain⟨rs,hrs,ph⟩:=qM wN O h5
  obtain⟨C,bmB,newId,bm,base,initId,q1,q2,q3,q4,q5,q6⟩:=O.exc _ _ h3
  cases nm with
  | none=>cases h7
  | some y =>
   have hl:X.env.scope.names.lookup y=some .local:=by
    rw[O.hsc]
    have h7:rL sc y=true:=h7
    unfold rL at h7
    split at h7
    ·assumption
    ·cases h7
   exact⟨(C,asR i fun e D σ H=>HX (X.A.mark (some e)) H/\qm B Φ (GX false X JD) b D σ H)::rs,by simp only[DT,q2,hrs],fun pins=>.as q1 (O.gZ h1) (cj h2).1 q4 q6 (by show X.N.Nodup;rw[O.hN];exact O.nd) (by show X.N[i]? = some y;rw[O.hN];exact h6.symm) hl (fun e=>vz wN O h4 e) (ph pins)⟩
theorem Bt{Y:Cx}{E:Value->Shared->Prop}{pins:List (Addr×Obj)}{D:Ends}{f:Flow}{s':Shared}(h:SP Y pins D f s'):SP (Y.bJ E) pins D f s':=by
 cases f with
 | next=>obtain⟨σ',H',I,q⟩:=h;exact⟨σ',H',I.bJ _,q⟩
 | brk=>obtain⟨σ',H',I,q⟩:=h;exact⟨σ',H',I.bJ _,q⟩
 | cont=>obtain⟨σ',H',I,q⟩:=h;exact⟨σ',H',I.bJ _,q⟩
 | ret u=>obtain⟨v,σ',H',I,r,q⟩:=h;exact⟨v,σ',H',I.bJ _,r,q⟩
theorem Bv{rs:List (Addr×TX)}{pins:List (Addr×Obj)}{D:Ends}{x:Ss}{bd:List Stmt}(wN:∀G' X' N' sc' b' w',c8 G' B Φ k X' N' sc' b' w'->wU G' B Φ k n X' N' sc' b' w')(O:c8 G B Φ k X N sc false w)(h:gP { G with rz:=false } n false N sc (.ss bd x)=true) :
  je ((fq X pins).bJ (iO (fq X pins) (EH X.K rs D))) bd (qm B Φ (GX false X (EH X.K rs D)) x):=by
 have O':c8 { G with rz:=false } B Φ k ((fq X pins).bJ (iO (fq X pins) (GX false (fq X pins) (EH X.K rs D)).e)) N sc false (EH X.K rs D) :=
  ⟨O.hN,O.nd,O.hsc,O.K,O.calm,O.rm,O.dk,(fun e s ⟨p,σ,H,a,a0,C,B,h1,I,h⟩=>.inl ⟨p,σ,H,a,a0,C,B,h1,I.bJ _,h⟩),(fun e s ⟨p,σ,H,a,a0,C,B,h1,I,h⟩=>⟨p,σ,H,a,a0,C,B,h1,I.aY,h⟩),(fun _ h=>by cases h),(by
   obtain⟨env,outer,L,h1,h2,h3⟩:=O.fr
   exact⟨env,outer,L,h1,h2,h3⟩),O.fn,O.fns,O.cst,O.blt,O.cls,O.AY,O.Lh,O.exc,O.E1,O.A4,O.st,O.oq,O.lit,O.jh⟩
 have P:=(wN _ _ _ _ _ _ O').ss bd x h
 intro KS s σ H Dn I q
 exact wpAny_mono (P KS s σ H Dn (I.aY.bJ _) q) (fun _ _ z=>Bt (SP.aY z)) fun e s2 z=>pV z
theorem BB{rs:List (Addr×TX)}{hs:Hs}{x:Ss}{Dn:Ends}{σ:L2.St}{H:Hp}(O:c8 G B Φ k X N sc false w)(hrs:DT X.A B Φ (GX false X JD) B.AV hs=some rs)(h:TC B Φ (GX false X w) (.try x hs .nil) Dn σ H):qm B Φ (GX false X (EH X.K rs Dn)) x Dn σ H:=by
 obtain⟨σD,M,F,ρ,S,r,h⟩:=h
 simp only[ex] at h
 refine⟨σD,M,F,ρ,S,r,?_⟩
 cases hx:exs Φ x σD M with
 | bad=>rw[hx] at h;exact h
 | exc c M1=>rw[hx] at h;exact h
 | ok o M1 =>
  rw[hx] at h
  simp only[R.af] at h
  intro F1 ρ1 H1 e1 S1
  cases o with
  | nx σ1=>simp only[exs] at h;exact h F1 ρ1 H1 e1 S1
  | rt d=>exact h F1 ρ1 H1 e1 S1
  | bk σ1=>exact h F1 ρ1 H1 e1 S1
  | ct σ1=>exact h F1 ρ1 H1 e1 S1
  | xc c σ1 =>
   intro σ' cv x' r1 hcv
   obtain⟨C,bmB,newId,bm,rfl,hC,EC,sub⟩:=O.E1 c cv hcv
   obtain⟨t,pk,ht⟩:=mV (mro:=.ref C::bm) sub hC hrs S1 r1 (aK.weak e1 h)
   exact⟨H1,.refl _,C,bmB,newId,bm,t,rfl,EC,pk,ht⟩
theorem Kl(O:c8 G B Φ k X N sc b w)(ih:wU G B Φ k n X N sc b w)(wN:∀G' X' N' sc' b' w',c8 G' B Φ k X' N' sc' b' w'->wU G' B Φ k n X' N' sc' b' w')(a:Stmt)(c:S)(h:gP G (n+1) b N sc (.s a c)=true):PS X a (TC B Φ (GX b X w) c):=by
 have Ip:=fun X' N' sc' w' (O':c8 G B Φ k X' N' sc' true w')=>wN G X' N' sc' true w' O'
 have hp:PassesOwn (model X.prog X.w) X.A X.env X.xe:=rj O.fr O.fo O.fx
 replace h:=ay h
 obtain⟨iw,h⟩:=h
 cases c with
 | bad=>exact fun _ _ _ _ _ _ q=>(Jr q).elim
 | set i c =>
  replace h:=nq h
  obtain⟨t,e,p,rfl,h⟩:=h
  replace h:=zd h
  obtain⟨x,px,rfl,h⟩:=h
  simp only[Bool.and_eq_true,decide_eq_true_eq] at h
  obtain⟨⟨⟨h3,h1⟩,h2⟩,h4⟩:=h
  cases b with
  | true=>cases h3
  | false =>
   have st:gP G n false N sc (.e e c)=true->swapsWith e (some (.Name x px)) p.line X.env=pure false->PS X (.Assign [.Name x px] e p) (TC B Φ (GX false X w) (.set i c)):=fun q w =>
    PS.weak (yk (by rw[O.hN];exact O.nd) (by rw[O.hN];exact h1) (O.loc h2) (ih.e _ _ q) w (.inl (O.fn rfl x))) fun _ _ _=>mU
   replace h4:=CS h4
   rcases h4 with ⟨fz,caps,tg,elt,it,cond,rfl,h4⟩ | h4
   ·obtain⟨el,tn,iter,ifs,scope,lp,rfl,h4⟩:=ER h4
    cases hs:xw sc scope x px lp with
    | true =>
     rw[hs] at h4
     replace h4:=ay h4
     obtain⟨h4,k7⟩:=h4
     obtain⟨C1,C2,C3,C4⟩:=oJ O ih Ip iw h4
     have hl:X.env.scope.names.lookup x=some .local:=by rw[O.hsc];exact yU k7
     refine PS.weak (tY (Ca (by rw[O.hN];exact O.nd) (by rw[O.hN];exact h1) hl C1 C2 O.fr O.fx C3 C4 (by rw[swap_eq O,hs]))) fun D σ H q=>?_
     exact oS (mU q)
    | false =>
     rw[hs] at h4
     exact st h4 (by rw[swap_eq O,hs])
   ·replace h4:=ay h4
    obtain⟨q1,q2⟩:=h4
    exact st q2 (iu q1)
 | vD x y c =>
  replace h:=nq h
  obtain⟨t,e,p,rfl,h⟩:=h
  replace h:=rN h
  obtain⟨o,i,q,rfl,h⟩:=h
  simp only[Bool.and_eq_true] at h
  obtain⟨⟨⟨h1,h2⟩,h3⟩,h4⟩:=h
  exact PS.weak (Cb O.Ku (ih.e _ _ h3) (ih.e _ _ h4) (ih.e _ _ h2) (iu h1)) fun _ _ _=>xH
 | ex c =>
  replace h:=HZ h
  obtain⟨e,p,rfl,h⟩:=h
  replace h:=ay h
  obtain⟨h1,h2⟩:=h
  exact PS.weak (Cc (ih.e _ _ h2) (iu h1)) fun _ _ _=>F9
 | ret c =>
  replace h:=HG h
  rcases h with ⟨p,rfl,h⟩ | ⟨e,p,rfl,h⟩
  ·cases h
  ·exact PS.weak (Gz (ih.e _ _ h)) fun _ _ _=>BD
 | Gj=>cases h
 | ifs c x y =>
  replace h:=HS h
  obtain⟨t,l,q,p,rfl,h⟩:=h
  replace h:=ay h
  obtain⟨h,h3⟩:=h
  replace h:=ay h
  obtain⟨h1,h2⟩:=h
  exact PS.weak (KO (ih.t _ _ h1).1 (ih.ss _ _ h2) (ih.ss _ _ h3)) fun _ _ _=>BO
 | «for» tg it x =>
  replace h:=HY h
  obtain⟨tn,iter,body,p,rfl,h⟩:=h
  simp only[Bool.and_eq_true] at h
  obtain⟨⟨⟨⟨⟨h0,hz⟩,h1⟩,h2⟩,h3⟩,h4⟩:=h
  cases b with
  | true=>cases h0
  | false=>exact PS.weak (tY (GA hp (ih.i rfl _ _ _ hz h2) (O.tg (by rw[bq iw rfl];rfl) h3).1 (ih.ss _ _ h4) (set_plain h1))) fun _ _ _=>BS
 | «while» c x =>
  replace h:=Lj h
  obtain⟨t,body,p,rfl,h⟩:=h
  replace h:=ay h
  obtain⟨h1,h2⟩:=h
  exact PS.weak (yj hp (ih.t _ _ h1).1 (ih.ss _ _ h2)) fun _ _ _=>vB
 | brk=>cases h
 | cont=>cases h
 | pass=>cases h
 | eB x f c =>
  replace h:=nq h
  obtain⟨t,e,p,rfl,h⟩:=h
  replace h:=rP h
  obtain⟨o,y,q,rfl,h⟩:=h
  simp only[Bool.and_eq_true,decide_eq_true_eq] at h
  obtain⟨⟨⟨⟨h1,h2⟩,h3⟩,h4⟩,h5⟩:=h
  subst h1
  exact PS.weak (GB (ih.e _ _ h5) (ih.e _ _ h4) (iu h3)) fun _ _ _=>xJ fun c C hc=>⟨(O.cls c C hc).1,(O.cls c C hc).2 _ h2⟩
 | MU tg c=>cases h
 | raise c es =>
  replace h:=ay h
  obtain⟨h,h'⟩:=h
  replace h:=ay h
  obtain⟨hb,hz⟩:=h
  cases b with
  | true=>cases hb
  | false =>
   replace h':=HJ h'
   obtain⟨e,pos,rfl,h⟩:=h'
   replace h:=cV h
   obtain⟨x,np,as,cp,rfl,h⟩:=h
   replace h:=gh h
   obtain⟨m,rfl,h⟩:=h
   simp only[Bool.and_eq_true,decide_eq_true_eq] at h
   obtain⟨⟨⟨h1,h2⟩,h3⟩,h4⟩:=h
   obtain⟨C,bmB,newId,bm,base,initId,q1,q2,q3,q4,q5,q6⟩:=O.exc _ _ h3
   replace h4:=HN h4
   rcases h4 with ⟨z,j,p,rfl,h4⟩ | ⟨vs,p,rfl,h4⟩
   ·cases iD h4
    refine PS.weak (pe q1 (O.gZ h1) (cj h2).1 q4 q5 (O.calm (bq iw rfl)) rfl (aG qY bV rfl) (O.nx rfl hz)) fun D σ H q=>?_
    exact⟨by show 1<=2 ^ 24;decide,(lQ q3 q).nil⟩
   ·simp only[Bool.and_eq_true,decide_eq_true_eq] at h4
    refine PS.weak (pe q1 (O.gZ h1) (cj h2).1 q4 q5 (O.calm (bq iw rfl)) rfl (aG (GN (ih.m _ _ h4.2) h4.1.1 h4.1.2) bV rfl) (O.nx rfl hz)) fun D σ H q=>?_
    obtain⟨σD,M,F,ρ,S,r,z⟩:=lQ q3 q
    exact⟨σD,M,F,ρ,S,r,ai.imp z fun _ H' z y=>⟨by show 1<=2 ^ 24;decide,z⟩⟩
 | «try» x hs els =>
  replace h:=ay h
  obtain⟨h,h'⟩:=h
  replace h:=ay h
  obtain⟨hb,he⟩:=h
  cases b with
  | true=>cases hb
  | false =>
   cases tu he
   replace h':=HC h'
   obtain⟨bd,h₀,hr,p,rfl,h⟩:=h'
   replace h:=ay h
   obtain⟨h1,h2⟩:=h
   obtain⟨rs,hrs,ph⟩:=qM wN O h2
   exact PS.weak (Gy (O.st rfl).1 (O.st rfl).2 (fun pins D=>Bv wN O h1) ph) fun D σ H q=>BB O hrs q
theorem sound:∀(n:Nat) {G:Gm} {X:Cx} {N:List Str} {sc:Scope} {b:Bool} {w:XS},c8 G B Φ k X N sc b w->wU G B Φ k n X N sc b w
 | 0,G,X,N,sc,b,w,O=>⟨fun _ _ h=>(by cases h),fun _ _ h=>(by cases h),fun _ _ h=>(by cases h),fun _ _ h=>(by cases h),fun _ _ _ _ _ h=>(by cases h),fun _ _ h=>(by cases h),fun _ _ h=>(by cases h),fun _ _ h=>(by cases h)⟩
 | n+1, G, X, N, sc, b, w, O=>by
  have ih:=sound n O
  have Ip:=fun X' N' sc' w' (O':c8 G B Φ k X' N' sc' true w')=>sound n O'
  refine⟨Kn O ih Ip,Kh O ih,fun a c h=>?_,fun a c h=>?_,fun hb=>Km O ih hb,Kl O ih (fun G' X' N' sc' b' w' O'=>sound n O'),fun a c h=>?_,fun a c h=>?_⟩
  ·cases a with
   | nil =>
    cases iD (c:=c) h
    exact PA.weak bV fun _ _ _=>fV
   | cons a as =>
    replace h:=zk (c:=c) h
    obtain⟨c,cs,rfl,h⟩:=h
    replace h:=ay h
    obtain⟨h,h3⟩:=h
    replace h:=ay h
    obtain⟨h1,h2⟩:=h
    exact PA.weak (aG (ih.e _ _ h2) (ih.es _ _ h3) (ah h1)) fun _ _ _=>oR
  ·cases c with
   | none =>
    cases a with
    | none=>exact PO.weak Cf fun _ _ _=>F7
    | some _=>cases h
   | some c =>
    cases a with
    | none=>cases h
    | some a=>exact PO.weak (Ce (ih.e _ _ h)) fun _ _ _=>F6
  ·cases a with
   | nil =>
    cases tu (c:=c) h
    exact je.weak tX fun _ _ _=>oM
   | cons a as =>
    replace h:=Lp (c:=c) h
    obtain⟨c,cs,rfl,h⟩:=h
    replace h:=ay h
    obtain⟨h1,h2⟩:=h
    exact je.weak (o9 (ih.s _ _ h1) (ih.ss _ _ h2)) fun _ _ _=>lP
  ·cases a with
   | nil =>
    cases iD (c:=c) h
    exact .nil
   | cons a as =>
    replace h:=HL h
    rcases h with ⟨y,j,p,rfl,h⟩ | ⟨v,j,p,rfl,h⟩
    ·replace h:=ay h
     obtain⟨h1,h2⟩:=h
     exact .lit (of_decide_eq_true h1) (ih.m _ _ h2)
    ·replace h:=zk h
     obtain⟨e,es,rfl,h⟩:=h
     simp only[Bool.and_eq_true,decide_eq_true_eq] at h
     obtain⟨⟨h1,h2⟩,h3⟩:=h
     subst h1
     exact .fld (ih.e _ _ h2) (ih.m _ _ h3)
end
end Fg
end
section
namespace Fg
open PySem PySem.Spec L2
inductive DW:List DictEntry->List (Key×V)->Prop
 | nil:DW [] []
 | cons {h:Int} {x:Str} {t:Tok} {u:Value} {v:V} {es:List DictEntry} {kvs:List (Key×V)}:RelV v u->DW es kvs->DW (⟨h,.str x t,u⟩::es) ((Sum.inr x,v)::kvs)
noncomputable def N7(w:World)(K:W.Frag)(a:Addr)(kvs:List (Key×V)):Prop :=
 kvs.length<=sizeLine/\(a == sysModules)=false/\(kvs.map (·.1)).Nodup/\∃es n, K.lookup a=some ⟨.type "dict", none, .dict es n, #[]⟩/\W.KeysLit w.params es.toList/\DW es.toList kvs
theorem DW.vs{prog:Program}{w:World}:∀{es:List DictEntry} {kvs:List (Key×V)},DW es kvs->∃vs,KV kvs vs/\Pairs (aI prog w) es vs/\vs.map (·.1)=kvs.map (·.1)
 | _,_,.nil=>⟨[],.nil,.nil,rfl⟩
 | _,_,.cons (h:=h) (x:=x) (t:=t) (u:=u) r q=>by
  obtain⟨vs,h1,h2,h3⟩:=DW.vs q
  exact⟨(Sum.inr x,u)::vs,.cons ⟨rfl,r⟩ h1,.cons (iV x t) rfl h2,by simp[h3]⟩
theorem N7.ok{prog:Program}{w:World}{K:W.Frag}{a:Addr}{kvs:List (Key×V)}(d:N7 w K a kvs)(h:Heap)(X:K.In h):kvs.length<=sizeLine/\(a == sysModules)=false/\∃vs,KV kvs vs/\h.DictOf (aI prog w) a vs:=by
 obtain⟨h1,h2,h3,es,n,h4,h5,h6⟩:=d
 obtain⟨vs,q1,q2,q3⟩:=DW.vs (prog:=prog) (w:=w) h6
 refine⟨h1,h2,vs,q1,_,es,n,X _ _ h4,⟨rfl,rfl,rfl⟩,rfl,fun e he=>?_,q2,by rw[q3];exact h3⟩
 obtain⟨x,t,e1,e2⟩:=h5.all e (Array.mem_toList_iff.mpr he)
 exact⟨Sum.inr x,by rw[e1];exact iV x t,e2⟩
theorem IJ{K:W.Frag}{C:Addr}{bmB:List Value}{newId:String}(q:W.excIn K C bmB newId=true):∃bm,n8 K C bmB newId bm/\∀v b,W.mroIn K C v=some b->(Value.ref C::bm).contains v=b:=by
 unfold W.excIn at q
 split at q
 ·rename_i dd cd sl lk
  split at q
  ·rename_i C2 bm a0 a1 a2 a3 n a5 hm hs
   simp only[beq_iff_eq,Bool.not_eq_true',Bool.and_eq_true] at q;obtain⟨⟨⟨⟨⟨rfl,rfl⟩,dl⟩,ht⟩,hok⟩,hni⟩:=q
   obtain⟨nm,bs,mr,ns,qn,hd,sn,sb,ab,cl,dl'⟩:=cd;dsimp only at hm dl hok hni;subst hm dl
   obtain⟨l⟩:=sl
   simp only at hs
   subst hs
   refine⟨bm,⟨nm,qn,ns,bs,hd,sn,sb,ab,cl,dd,a0,a1,a2,a3,a5,lk,hok,hni,ht⟩,fun v b e=>?_⟩
   unfold W.mroIn W.clsIn at e
   rw[lk] at e
   simpa using e
  ·cases q
 ·cases q
theorem jO{C:Addr}{bm:List Value}{s:String}(h:(Value.ref C::bm).contains (.type s)=true):bm.contains (.type s)=true:=by
 rw[List.contains_cons] at h
 simpa using h
noncomputable def gY(w:World)(K:W.Frag)(cl:Nat->Option Addr)(xc:Nat->Option Addr):Bd:=⟨K,N7 w K,cl,fun c cv=>∃C,xc c=some C/\cv=.ref C,xc⟩
theorem Mz{X:Cx}{cl xc:Nat->Option Addr}:kQ (gY X.w X.K cl xc) X:=fun a kvs h hp KX=>N7.ok h hp KX
structure DU(K:W.Frag)(x qual:Str)(st:Stmt)(f:Addr)(fd:FuncData):Prop where
 ex:∃(oc:Value) (od:Option Addr) (dV kV doc pm:Value) (an:Option Addr) (cdv ct:Value) (osl:Array (Option Value)),
  fd=W.fnOf x qual (iF st) (bZ st) (aC st) dV kV doc pm an cdv ct/\K.lookup f=some ⟨oc,od,.func fd,osl⟩/\W.codeIn K cdv qual=true
noncomputable def FnAt(G:Gm)(P:kR)(K:W.Frag)(i m:Nat)(fa:Addr)(fd:FuncData)(ps:List Str):Prop:=∃x qual st N fn,DU K x qual st fa fd/\P.fn i=some fn/\dh N ps (aC st)/\ps.length=m/\fn.np=m/\fn.ns=N.length/\fn.kJ=[]/\gP G 200 false N (aC st) (.ss (bZ st) fn.body)=true
structure Md(G:Gm)(P:kR)(w:World)(K:W.Frag)(mg:Str->Option Value)(cl xc:Nat->Option Addr):Prop where
 cst:∀x i,G.cst.lookup x=some i->∃v u,mg x=some u/\RelV v u/\∀d,P.glob i=some d->∀F ρ H,RD (gY w K cl xc) F ρ H d v
 blt:∀x,G.gQ.contains x=true->mg x=none
 fns:∀f i m,G.fns.lookup f=some (i,m)->∃fa fd ps,mg f=some (.ref fa)/\W.keepIn K (.ref fa)=true/\Binds K fd ps []/\FnAt G P K i m fa fd ps
 cls:∀c C,cl c=some C->wL K C/\∀f,G.C9.contains f=true->dM K C f
 AY:∀c nm i m,G.AY.lookup (c,nm)=some (i,m)->∃C fa fd ps,cl c=some C/\Meth K C nm fa/\Binds K fd ps []/\FnAt G P K i m fa fd ps
 Lh:∀x c i m,G.cls.lookup x=some (c,i,m)->∃C fa fd ps,mg x=some (.ref C)/\cl c=some C/\Mk K C fa/\Binds K fd ps []/\FnAt G P K i m fa fd ps
 exc:∀x c,G.exc.lookup x=some c->∃C,mg x=some (.ref C)/\xc c=some C
 E1:∀c C, xc c=some C->∃bmB newId bm base initId, n8 K C bmB newId bm/\ExcBaseFacts base newId initId bmB/\bm.contains (.type "BaseException")=true/\∀d D, xc d=some D->(Value.ref C::bm).contains (.ref D)=P.sub c d
 A4:∀x f m d z,G.A4.lookup x=some (f,m,d,z)->∃fa fd ps du,mg x=some (.ref fa)/\W.keepIn K (.ref fa)=true/\Binds K fd ps [du]/\RelV (.int d) du/\KB K fd ps z/\FnAt G P K f m fa fd ps
 oq:∀f i m,G.oq.lookup f=some (i,m)->∃fa fd ps,mg f=some (.ref fa)/\W.keepIn K (.ref fa)=true/\Binds K fd ps []/\FnAt (pO G) P K i m fa fd ps
 jh:∀c C, xc c=some C->AN K C/\W.kitOne K (.ref C) (.type "ValueError")=some true/\∀d D, xc d=some D->W.kitOne K (.ref C) (.ref D)=some (P.sub c d)
theorem Md.cool{G:Gm}{P:kR}{w:World}{K:W.Frag}{mg:Str->Option Value}{cl xc:Nat->Option Addr}(D:Md G P w K mg cl xc):Md (pO G) P w K mg cl xc :=
 ⟨D.cst,D.blt,(fun _ _ _ z=>by cases z),D.cls,(fun _ _ _ _ z=>by cases z),(fun _ _ _ _ z=>by cases z),D.exc,D.E1,(fun _ _ _ _ _ z=>by cases z),D.oq,D.jh⟩
section
variable{G:Gm}{P:kR}{w:World}{K:W.Frag}{mg:Str->Option Value}{prog:Program}{base:Heap}
theorem xy{B:Bd}{F:Addr->Prop}{ρ:List Addr}{H:Hp}{N:List Str}{ds:List D}{vs:List V}{n:Nat}(r:aj B F ρ H ds vs)(hn:n=N.length-vs.length):RS B F ρ H (ds.map some++List.replicate n none) (L2.start N vs):=by
 subst hn
 refine⟨by simp[L2.start,aj.length r],fun i d q=>?_⟩
 by_cases hi:i<ds.length
 ·rw[List.getElem?_append_left (by simpa using hi),List.getElem?_map] at q
  cases hd:ds[i]? with
  | none=>rw[hd] at q;cases q
  | some e =>
   rw[hd] at q
   simp only[Option.map_some,Option.some.injEq] at q
   subst q
   obtain⟨v,h1,h2⟩:=aj.get r hd
   refine⟨v,?_,h2⟩
   unfold L2.start
   rw[List.getElem?_append_left (by rw[List.length_map,<- aj.length r];exact hi),List.getElem?_map,h1];rfl
 ·rw[List.getElem?_append_right (by simpa using Nat.le_of_not_lt hi),List.getElem?_replicate] at q
  split at q <;> cases q
theorem lW{B:Bd}{F F':Addr->Prop}{ρ ρ':List Addr}{H H':Hp}{M M':MH}{d:D}{v:V}{kp:Bool}{Q:VK}{X:XK}(S:SR B F ρ M H)(h:Post B (gf kp M d M') F ρ H Q X)(e:Ext F ρ H F' ρ' H')(S':SR B F' ρ' M' H')(rd:RD B F' ρ' H' d v):Q v H':=by
 unfold gf at h
 split at h
 ·rename_i hk
  split at h
  ·rename_i hn
   exact h F' ρ H' v e.cut (S.cut S' e hk.2) (RD.cut e.r (by rw[S.len];exact hn) rd)
  ·rename_i hn
   split at h
   ·rename_i n
    split at h
    ·rename_i ds hM
     split at h
     ·rename_i hns
      simp only[RD] at rd
      obtain⟨a,h1,rfl⟩:=rd
      obtain⟨vs,h2,h3⟩:=S'.obj n a _ h1 hM
      have hlt:¬ n<M.length:=by simpa [nr] using hn
      have ha:a∉ρ:=fun z=>by
       obtain⟨j,hj,ej⟩:=List.mem_iff_getElem.mp z
       have q:ρ'[j]? = some a:=e.at (by rw[List.getElem?_eq_getElem hj,ej])
       obtain⟨j1,q1⟩:=List.getElem?_eq_some_iff.mp q
       obtain⟨j2,q2⟩:=List.getElem?_eq_some_iff.mp h1
       have:=(List.getElem_inj S'.nd).mp (q1.trans q2.symm)
       rw[S.len] at hj
       omega
      have hHa:H a=none:=(e.n a (List.mem_of_getElem? h1)).resolve_left ha
      have Sc:=S.cut S' e hk.2
      have r3:=aj.cut e.r (by rw[S.len];exact hns) h3
      have xt:qp F' ρ H' (fun b=>F' b\/b=a) ρ H':=⟨fun _ q=>.inl q,fun _ _ _=>rfl,List.prefix_refl _⟩
      have ec:=e.cut
      refine h (fun b=>F' b\/b=a) ρ H' (.ref a) ⟨⟨ec.s,fun b q=>.inl (ec.f b q),ec.h,ec.r,ec.n,fun b q=>q.elim (ec.g b) fun z=>.inr (.inl (z ▸ hHa))⟩,ec.z⟩ (Sc.take ha (by rw[h2];simp)) ?_
      simp only[RD]
      exact⟨a,vs,rfl,.inl ⟨.inr rfl,.inl h2⟩,aj.aW xt _ _ r3⟩
     ·exact h F' ρ' H' v e S' rd
    ·exact h F' ρ' H' v e S' rd
   ·exact h F' ρ' H' v e S' rd
 ·exact h F' ρ' H' v e S' rd
theorem vH{B:Bd}{F F':Addr->Prop}{ρ ρ':List Addr}{H H':Hp}{M M':MH}{c:Nat}{cv:Value}{x:Option Addr}{Q:VK}{X:XK}(S:SR B F ρ M H)(h:Post B (o5 M c M') F ρ H Q X)(e:Ext F ρ H F' ρ' H')(S':SR B F' ρ' M' H')(q:B.exc c cv):X cv x H':=by
 unfold o5 at h
 split at h
 ·rename_i hk
  exact h F' ρ H' cv x e.cut (S.cut S' e hk) q
 ·exact h F' ρ' H' cv x e S' q
noncomputable abbrev AF(X:Cx)(w:XS):Cx:=X.bJ fun e s=>iO X (GX false X w).e e s\/Fw X (GX false X w).e e s
theorem C5{x qual:Str}{st:Stmt}{f:Addr}{fd:FuncData}{N ps:List Str}{cm:Bool}{k:Nat}{sp:Sp}(F:DU K x qual st f fd)(S:dh N ps (aC st))(len:∀vs H Q E,sp vs H Q E->vs.length=ps.length)
  (hbody:∀(cdv:Value) (A:Around) (outer:List Env) (s:Shared) (H:Hp) (vs:List V) (Q:VK) (E:XK),bR cm k (A.deeper (PyProof.Rows.envOfC qual (aC st) s.heap.objs.size f cdv))->(cm=false->HX A H)->sp vs H Q E ->
   ∃t,je (AF (iG (fh prog w) prog w K mg base N qual (aC st) f cdv A outer s H E) fun cv x _ H'=>E cv x H') (bZ st) t/\t { nx:=fun _ H'=>Q .aq H',rt:=Q } (L2.start N vs) H):bu cm prog w K mg base (fh prog w) (k+1) f fd ps sp:=by
 obtain⟨oc,od,dV,kV,doc,pm,an,cdv,ct,osl,rfl,lk,hcd⟩:=F.ex
 refine EZ lk hcd S len fun A outer s H vs Q E hr hx h=>?_
 obtain⟨t,h1,h2⟩:=hbody cdv A outer s H vs Q E hr hx h
 refine⟨t,fun pins s1 σ H1 D I q=>?_,h2⟩
 exact wpAny_mono (h1 pins s1 σ H1 D (I.bJ _) q) (fun _ _ z=>z.aY) fun e s2 z=>z.elim (fun z=>vV e s2 (pV z)) fun z=>leave_new e s2 (yI z)
theorem mS{cl xc:Nat->Option Addr}(D:Md G P w K mg cl xc){k:Nat}(ih:∀(i m:Nat) (fa:Addr) (fd:FuncData) (ps:List Str),FnAt G P K i m fa fd ps->bu G.cm prog w K mg base (fh prog w) k fa fd ps (oj (gY w K cl xc) (aa P k) i m))
  (hh:∀(i m:Nat) (fa:Addr) (fd:FuncData) (ps:List Str),FnAt (pO G) P K i m fa fd ps->bu false prog w K mg base (fh prog w) k fa fd ps (oj (gY w K cl xc) (aa P k) i m))
  (ih0:∀j,k=j+1->∀(i m:Nat) (fa:Addr) (fd:FuncData) (ps:List Str),FnAt G P K i m fa fd ps->bu G.cm prog w K mg base (fh prog w) j fa fd ps (oj (gY w K cl xc) (aa P j) i m))
  {f qual:Str} {i m:Nat} {fa:Addr} {fd:FuncData} {ps:List Str} {st:Stmt} {N:List Str} {fn:Fn} (h2:DU K f qual st fa fd) (h4:P.fn i=some fn) (h5:dh N ps (aC st)) (h6:ps.length=m) (h7:fn.np=m) (h8:fn.ns=N.length) (h9:fn.kJ=[]) (uz:gP G 200 false N (aC st) (.ss (bZ st) fn.body)=true) :
  bu G.cm prog w K mg base (fh prog w) (k+1) fa fd ps (oj (gY w K cl xc) (aa P (k+1)) i m):=by
  refine C5 h2 h5 (fun vs H Q E q=>by rw[q.1,h6]) fun cdv A outer s H vs Q E hr hx q=>?_
  let X0:=iG (fh prog w) prog w K mg base N qual (aC st) fa cdv A outer s H E
  obtain⟨hl,ds,M,F,ρ,S,rd,post⟩:=q
  have O:c8 G (gY w K cl xc) (aa P k) k (AF X0 fun cv x _ H'=>E cv x H') N (aC st) false (fun cv x _ H'=>E cv x H') :=
   ⟨rfl,h5.nd,rfl,rfl,(fun z=>Option.isNone_iff_eq_none.mpr (show A.handled=none from hr.hd z)),hr,Mz (X:=AF X0 fun cv x _ H'=>E cv x H') (cl:=cl) (xc:=xc),(fun e s z=>z.imp (fun⟨p,σ,H,a,a0,C,B,h1,I,h⟩=>⟨p,σ,H,a,a0,C,B,h1,I.bJ _,h⟩) fun⟨p,σ,H,a,C,vs,hh,h1,I,h⟩=>⟨p,σ,H,a,C,vs,hh,h1,I.bJ _,h⟩),
    (fun e s ⟨p,σ,H,a,a0,C,B,h1,I,h⟩=>.inl ⟨p,σ,H,a,a0,C,B,h1,I.aY,h⟩),(fun _ _ e s ⟨p,σ,H,a,C,vs,hh,h1,I,h⟩=>.inr ⟨p,σ,H,a,C,vs,hh,h1,I.aY,h⟩),⟨_,_,_,rfl,rfl,rfl⟩,fun _ _=>rfl,(fun g j n hg=>by
    obtain⟨fa,fd,ps,a1,a2,a3,a4⟩:=D.fns g j n hg
    exact⟨fa,fd,ps,a1,a2,a3,ih j n fa fd ps a4⟩),fun x j hx=>by
    obtain⟨v,u,a1,a2,a3⟩:=D.cst x j hx
    refine⟨v,u,a1,a2,fun d hd=>a3 d ?_⟩
    cases k <;> exact hd,D.blt,D.cls,(fun c nm j n hg=>by
    obtain⟨C,fa,fd,ps,a1,a2,a3,a4⟩:=D.AY c nm j n hg
    exact⟨C,fa,fd,ps,a1,a2,a3,ih j n fa fd ps a4⟩),(fun x c j n hg=>by
    obtain⟨C,fa,fd,ps,a1,a2,a3,a4,a5⟩:=D.Lh x c j n hg
    refine⟨C,fa,fd,ps,a1,a2,a3,a4,?_⟩
    cases k with
    | zero=>exact .inr fun _ _=>rfl
    | succ k'=>exact .inl ⟨k',rfl,ih0 k' rfl j n fa fd ps a5⟩),(fun x c hx=>by
    obtain⟨C,a1,a2⟩:=D.exc x c hx
    obtain⟨bmB,newId,bm,base,initId,a3,a4,a5,_⟩:=D.E1 c C a2
    exact⟨C,bmB,newId,bm,base,initId,a1,a2,⟨C,a2,rfl⟩,a3,a4,a5⟩),(fun c cv hc=>by
    obtain⟨C,a2,rfl⟩:=hc
    obtain⟨bmB,newId,bm,base,initId,a3,a4,a5,a6⟩:=D.E1 c C a2
    refine⟨C,bmB,newId,bm,rfl,a2,a3,fun d D' hd=>(a6 d D' hd).trans ?_⟩
    cases k <;> rfl),(fun x f m d z hd=>by
    obtain⟨fa,fd,ps,du,a1,a2,a3,a4,a6,a5⟩:=D.A4 x f m d z hd
    exact⟨fa,fd,ps,du,a1,a2,a3,a4,a6,ih f m fa fd ps a5⟩),(fun _=>⟨rfl,rfl⟩),(fun g j n hg=>by
    obtain⟨fa,fd,ps,a1,a2,a3,a4⟩:=D.oq g j n hg
    exact⟨fa,fd,ps,a1,a2,a3,hh j n fa fd ps a4⟩),(fun _ _ z=>.inr (show HX A H from hx z)),(fun c C hc=>by
    obtain⟨a1,a2,a3⟩:=D.jh c C hc
    refine⟨a1,a2,fun d D' hd=>(a3 d D' hd).trans ?_⟩
    cases k <;> rfl)⟩
  refine⟨_,(sound 200 O).ss _ _ uz,_,M,F,ρ,S,xy (n:=fn.ns-fn.np) rd (by rw[h8,h7,hl]),?_⟩
  have hds:ds.length=m:=by rw[aj.length rd,hl]
  have hc:(aa P (k+1)).call i ds M=jV (aa P k) fn ds M:=by simp only[aa,h4]
  rw[hc] at post
  have hz:ds.length+fn.kJ.length-fn.np=0:=by rw[h9,h7,hds];simp
  unfold jV at post
  rw[if_pos (by rw[h9,h7,hds];simp),hz,h9] at post
  simp only[List.drop_nil,List.append_nil] at post
  cases hx:exs (aa P k) fn.body (ds.map some++List.replicate (fn.ns-fn.np) none) M with
  | bad=>rw[hx] at post;exact post
  | exc c M'=>rw[hx] at post;exact post
  | ok o M' =>
   rw[hx] at post
   intro F' ρ' H' e S'
   cases o with
   | rt d=>exact fun v q=>lW S post e S' q
   | nx σ'=>exact fun σ q=>lW S post e S' (d:=.aq) (v:=.aq) (by simp only[RD])
   | bk _=>exact post.elim
   | ct _=>exact post.elim
   | xc c σ' =>
    intro σ cv x q1 q2
    exact⟨H',.refl _,vH S post e S' q2⟩
theorem gR{cl xc:Nat->Option Addr}(D:Md G P w K mg cl xc) (hh:∀k,(∀(i m:Nat) (fa:Addr) (fd:FuncData) (ps:List Str),FnAt G P K i m fa fd ps->bu G.cm prog w K mg base (fh prog w) k fa fd ps (oj (gY w K cl xc) (aa P k) i m)) ->
   ∀(i m:Nat) (fa:Addr) (fd:FuncData) (ps:List Str),FnAt (pO G) P K i m fa fd ps->bu false prog w K mg base (fh prog w) k fa fd ps (oj (gY w K cl xc) (aa P k) i m)) :
  ∀(k:Nat) (i m:Nat) (fa:Addr) (fd:FuncData) (ps:List Str),FnAt G P K i m fa fd ps->bu G.cm prog w K mg base (fh prog w) k fa fd ps (oj (gY w K cl xc) (aa P k) i m)
 | 0, i, m, fa, fd, ps, h=>by
  have no:∀vs H Q E,¬ oj (gY w K cl xc) (aa P 0) i m vs H Q E:=fun vs H Q E q=>by
   obtain⟨_,ds,M,F,ρ,_,_,q⟩:=q
   exact q
  exact⟨fun vs H Q E q=>absurd q (no vs H Q E),fun A outer s H args us vs Q E _ _ _ _ _ q=>absurd q (no vs H Q E)⟩
 | 1,i,m,fa,fd,ps,h=>by
  obtain⟨x,qual,st,N,fn,h2,h4,h5,h6,h7,h8,h9,uz⟩:=h
  exact mS D (gR D hh 0) (hh 0 (gR D hh 0)) (fun j e=>by cases e) h2 h4 h5 h6 h7 h8 h9 uz
 | k+2,i,m,fa,fd,ps,h=>by
  obtain⟨x,qual,st,N,fn,h2,h4,h5,h6,h7,h8,h9,uz⟩:=h
  exact mS D (gR D hh (k+1)) (hh (k+1) (gR D hh (k+1))) (fun j e=>by cases e;exact gR D hh k) h2 h4 h5 h6 h7 h8 h9 uz
theorem vf{cl xc:Nat->Option Addr}(D:Md G P w K mg cl xc)(k:Nat):∀(i m:Nat) (fa:Addr) (fd:FuncData) (ps:List Str),FnAt (pO G) P K i m fa fd ps->bu false prog w K mg base (fh prog w) k fa fd ps (oj (gY w K cl xc) (aa P k) i m) :=
 gR (G:=pO G) D.cool (fun _ q=>q) k
theorem AL{cl xc:Nat->Option Addr}(D:Md G P w K mg cl xc)(k:Nat):∀(i m:Nat) (fa:Addr) (fd:FuncData) (ps:List Str),FnAt G P K i m fa fd ps->bu G.cm prog w K mg base (fh prog w) k fa fd ps (oj (gY w K cl xc) (aa P k) i m) :=
 gR D (fun k _=>vf D k) k
noncomputable def Eg(K:W.Frag):Sp:=fun vs H Q _=>∃(a:Addr) (ns:List Int),vs=[.ref a]/\fu K H a (ns.map V.int)/\ns.length<=63/\∀H',Q (.bl true) H'
theorem Hu{cl xc:Nat->Option Addr}(D:Md G P w K mg cl xc){f qual:Str}{i k:Nat}(hP:∀ns:List Int,ns.length<=63->∃M',(aa P (k+1)).call i [.lst (ns.map .int)] []=.ok (.bl true) M')
  {fa:Addr} {fd:FuncData} {ps:List Str} {st:Stmt} {N:List Str} {fn:Fn} (h2:DU K f qual st fa fd) (h4:P.fn i=some fn) (h5:dh N ps (aC st)) (h6:ps.length=1) (h7:fn.np=1) (h8:fn.ns=N.length) (h9:fn.kJ=[]) (uz:gP G 200 false N (aC st) (.ss (bZ st) fn.body)=true) :
  bu G.cm prog w K mg base (fh prog w) (k+1) fa fd ps (Eg K):=by
 refine (mS (prog:=prog) (base:=base) D (AL D k) (vf D k) (fun j _=>AL D j) h2 h4 h5 h6 h7 h8 h9 uz).imp fun vs H Q E q=>?_
 obtain⟨a,ns,rfl,hS,hl,q⟩:=q
 obtain⟨M',hM⟩:=hP ns hl
 have EU:∀(F:Addr->Prop) (ns:List Int),aj (gY w K cl xc) F [] H (ns.map Fg.D.int) (ns.map V.int):=by
  intro F ns
  induction ns with
  | nil=>exact aj.nil
  | cons n ns ih=>exact aj.cons (by simp only[RD]) ih
 have fin:∀F:Addr->Prop,Post (gY w K cl xc) ((aa P (k+1)).call i [.lst (ns.map .int)] []) F [] H Q E:=by
  intro F
  rw[hM]
  intro F' ρ' H' v e S' rd
  simp only[RD] at rd
  subst rd
  exact q H'
 rcases hS with hS | hS
 ·refine⟨rfl,[.lst (ns.map .int)],[],fun b=>b=a,[],⟨rfl,List.nodup_nil,fun _ z=>by simp at z,fun b e=>by rw[e];exact Em hS,fun n b o z=>by simp at z⟩,?_,fin _⟩
  refine aj.cons ?_ aj.nil
  simp only[RD]
  exact⟨a,_,rfl,.inl ⟨rfl,hS⟩,EU _ ns⟩
 ·refine⟨rfl,[.lst (ns.map .int)],[],fun _=>False,[],⟨rfl,List.nodup_nil,fun _ z=>by simp at z,fun b e=>e.elim,fun n b o z=>by simp at z⟩,?_,fin _⟩
  refine aj.cons ?_ aj.nil
  simp only[RD]
  exact⟨a,_,rfl,.inr hS,EU _ ns⟩
end
end Fg
end
section
namespace Fg
open PySem PySem.Spec L2
theorem mP:∀{ps:List Str} {us:List Value} {n:Str},n∉ps->(ps.zip us).lookup n=none
 | [],_,_,_=>rfl
 | _::_,[],_,_=>rfl
 | p::ps,u::us,n,h=>by
  rw[List.zip_cons_cons,List.lookup_cons,show (n == p)=false from beq_eq_false_iff_ne.mpr fun e=>h (e ▸ List.mem_cons_self)]
  exact mP fun z=>h (List.mem_cons_of_mem _ z)
theorem gG:∀{ps:List Str} {us:List Value} {n:Str},n∈ps->ps.length<=us.length->((ps.zip us).lookup n).isNone=false
 | p::ps,[],n,_,hl=>by simp at hl
 | p::ps,u::us,n,h,hl=>by
  rw[List.zip_cons_cons,List.lookup_cons]
  cases e:n == p with
  | true=>rfl
  | false =>
   have e:=beq_eq_false_iff_ne.mp e
   exact gG ((List.mem_cons.mp h).resolve_left e) (by simpa using hl)
theorem pU{α β:Type}{f g:α->Option β}:∀{l:List α},(∀n∈l,f n=g n)->l.filterMap f=l.filterMap g
 | [],_=>rfl
 | a::l,h=>by
  rw[List.filterMap_cons,List.filterMap_cons,h a List.mem_cons_self,pU fun n hn=>h n (List.mem_cons_of_mem _ hn)]
theorem g6:∀{ps:List Str} {us:List Value},ps.Nodup->us.length=ps.length->(ps.filterMap fun n=>((ps.zip us).lookup n).map (n,·))=ps.zip us
 | [],_,_,_=>rfl
 | p::ps,[],_,hl=>by simp at hl
 | p::ps,u::us,nd,hl=>by
  rw[List.nodup_cons] at nd
  rw[List.zip_cons_cons,List.filterMap_cons,List.lookup_cons,beq_self_eq_true]
  simp only[Option.map_some]
  congr 1
  refine Eq.trans ?_ (g6 (us:=us) nd.2 (by simpa using hl))
  exact pU fun n hn=>by rw[List.lookup_cons,show (n == p)=false from beq_eq_false_iff_ne.mpr fun e=>nd.1 (e ▸ hn)]
noncomputable def gK(a:Arguments)(ps:List Str):Bool:=a.posonlyargs.isEmpty&&a.kwonlyargs.isEmpty&&a.vararg.isNone&&a.kwarg.isNone&&decide (a.args.map (·.arg)=ps)
section
variable{s:Shared}{fd:FuncData}{ps:List Str}{us:List Value}
theorem fJ{us:List Value}{qs:List Str}(h:∀n∈qs,((ps.zip us).lookup n).isNone=false):(qs.filter fun n=>((ps.zip us).lookup n).isNone)=[]:=by
 rw[List.filter_eq_nil_iff]
 intro n hn
 rw[h n hn]
 decide
theorem jv(hp:gK fd.params ps=true)(nd:ps.Nodup)(hd:fd.defaults=.none)(hl:us.length=ps.length):BindsTo s fd ⟨us,[]⟩ (ps.zip us):=by
 simp only[gK,Bool.and_eq_true,List.isEmpty_iff,Option.isNone_iff_eq_none,decide_eq_true_eq] at hp
 obtain⟨⟨⟨⟨h1,h2⟩,h3⟩,h4⟩,h5⟩:=hp
 refine BindsTo.of_eq ?_
 unfold bindArgs
 simp only[h1,h2,h3,h4,h5,hd,List.map_nil,List.nil_append,List.append_nil,List.forIn_nil,Option.isNone_none,Bool.and_true,pure_bind]
 rw[show seqItems? Value.none=pure none from rfl,pure_bind]
 simp only[Option.getD_none,List.length_nil,Nat.zero_sub,List.drop_zero,Nat.sub_zero,List.take_length]
 rw[fJ fun n hn=>gG hn (Nat.le_of_eq hl.symm),if_neg (by rw[hl];simp)]
 simp only[List.isEmpty_nil,Bool.not_true,Bool.false_eq_true,if_false,List.drop_length,List.zip_nil_left,List.forIn_nil,pure_bind]
 rw[g6 nd hl]
theorem mG(hp:gK fd.params ps=true)(nd:ps.Nodup){T:Addr}{o:Obj}{its:Array Value}{n:Nat}{du:Value}(hd:fd.defaults=.ref T)(ho:s.heap.get? T=some o)(hs:o.data=.seq its n)(hi:its.toList=[du])
  {ds:List Value} (hds:ds=[]\/ds=[du]) (hl:(us++ds).length=ps.length) (h0:ps≠[]):BindsTo s fd ⟨us,[]⟩ (ps.zip (us++ds)):=by
 simp only[gK,Bool.and_eq_true,List.isEmpty_iff,Option.isNone_iff_eq_none,decide_eq_true_eq] at hp
 obtain⟨⟨⟨⟨h1,h2⟩,h3⟩,h4⟩,h5⟩:=hp
 obtain⟨qs,z,rfl⟩:∃qs z,ps=qs++[z]:=by
  rcases List.eq_nil_or_concat ps with e | ⟨qs,z,e⟩
  ·exact absurd e h0
  ·exact⟨qs,z,by simpa using e⟩
 intro M A E Q hq
 unfold bindArgs
 simp only[h1,h2,h3,h4,h5,hd,List.map_nil,List.nil_append,List.append_nil,List.forIn_nil,Option.isNone_none,Bool.and_true,pure_bind]
 refine wpAny_bind (wpAny_seqItems ho hs ?_)
 simp only[Option.getD_some,hi,List.length_append,List.length_cons,List.length_nil] at hl ⊢
 have hz:z∉qs:=fun m=>by
  rw[List.nodup_append] at nd
  exact nd.2.2 z m z List.mem_cons_self rfl
 rw[show (0+1-(qs.length+(0+1)))=0 by omega,List.drop_zero,List.length_cons,List.length_nil,show qs.length+(0+1)-(0+1)=qs.length by omega,List.take_left,List.drop_left,
  fJ (fun n hn=>?_),if_neg (by simp;rcases hds with rfl | rfl <;> simp at hl <;> omega)]
 ·simp only[List.isEmpty_nil,Bool.not_true,Bool.false_eq_true,if_false,List.zip_cons_cons,List.zip_nil_right,List.forIn_cons,List.forIn_nil,pure_bind]
  rcases hds with rfl | rfl
  ·rw[List.append_nil] at hq
   rw[gG (by simp) (by simp at hl ⊢;omega)]
   simp only[Bool.false_eq_true,if_false,pure_bind]
   rw[g6 nd (by simpa using hl)]
   exact wpAny_pure hq
  ·have hl':us.length=qs.length:=by simp at hl;omega
   have e:(qs++[z]).zip us=qs.zip us:=by
    rw[show us=us++[] by simp,List.zip_append hl'.symm];simp
   have e2:(qs++[z]).zip (us++[du])=qs.zip us++[(z,du)]:=by
    rw[List.zip_append hl'.symm];simp
   rw[e,mP hz]
   simp only[Option.isNone_none,if_true,pure_bind]
   rw[<- e2,g6 nd (by simpa using hl)]
   exact wpAny_pure hq
 ·rcases hds with rfl | rfl
  ·exact gG (by simp[hn]) (by simp at hl ⊢;omega)
  ·have hl':us.length=qs.length:=by simp at hl;omega
   have e:(qs++[z]).zip us=qs.zip us:=by
    rw[show us=us++[] by simp,List.zip_append hl'.symm];simp
   rw[e]
   exact gG hn (Nat.le_of_eq hl'.symm)
theorem AI(hp:gK fd.params ps=true)(nd:ps.Nodup){T:Addr}{o:Obj}{its:Array Value}{n:Nat}{du w:Value}(hd:fd.defaults=.ref T)(ho:s.heap.get? T=some o)(hs:o.data=.seq its n)(hi:its.toList=[du])
  (hl:us.length+1=ps.length):BindsTo s fd ⟨us, [(ps.getLast?.getD "", w)]⟩ (ps.zip (us++[w])):=by
 simp only[gK,Bool.and_eq_true,List.isEmpty_iff,Option.isNone_iff_eq_none,decide_eq_true_eq] at hp
 obtain⟨⟨⟨⟨h1,h2⟩,h3⟩,h4⟩,h5⟩:=hp
 obtain⟨qs,z,rfl⟩:∃qs z,ps=qs++[z]:=by
  rcases List.eq_nil_or_concat ps with e | ⟨qs,z,e⟩
  ·subst e;simp at hl
  ·exact⟨qs,z,by simpa using e⟩
 have hz:z∉qs:=fun m=>by
  rw[List.nodup_append] at nd
  exact nd.2.2 z m z List.mem_cons_self rfl
 have hl':us.length=qs.length:=by simp at hl;omega
 have e:(qs++[z]).zip us=qs.zip us:=by
  rw[show us=us++[] by simp,List.zip_append hl'.symm];simp
 have e2:(qs++[z]).zip (us++[w])=qs.zip us++[(z,w)]:=by
  rw[List.zip_append hl'.symm];simp
 rw[show (qs++[z]).getLast?.getD "" = z by simp]
 intro M A E Q hq
 unfold bindArgs
 simp only[h1,h2,h3,h4,h5,hd,List.map_nil,List.nil_append,List.append_nil,List.forIn_cons,List.forIn_nil,Option.isNone_none,Bool.and_true,pure_bind]
 rw[if_pos (by simp),e,mP hz]
 simp only[Option.isSome_none,Bool.false_eq_true,if_false,pure_bind]
 rw[<- e2]
 refine wpAny_bind (wpAny_seqItems ho hs ?_)
 simp only[Option.getD_some,hi,List.length_append,List.length_cons,List.length_nil]
 rw[show (0+1-(qs.length+(0+1)))=0 by omega,List.drop_zero,List.length_cons,List.length_nil,show qs.length+(0+1)-(0+1)=qs.length by omega,List.take_left,List.drop_left,
  fJ (fun n hn=>gG (by simp[hn]) (by simp;omega)),if_neg (by simp;omega)]
 simp only[List.isEmpty_nil,Bool.not_true,Bool.false_eq_true,if_false,List.zip_cons_cons,List.zip_nil_right,List.forIn_cons,List.forIn_nil,pure_bind]
 rw[gG (by simp) (by simp;omega)]
 simp only[Bool.false_eq_true,if_false,pure_bind]
 rw[g6 nd (by simp;omega)]
 exact wpAny_pure hq
end
end Fg
end
section
namespace Fg
open PySem PySem.Spec L2
theorem Ft{K:W.Frag}{x:Str}{a:Addr}(h:adr K x=some a):W.nsIn K mainGlobals x=some (some (.ref a)):=by
 unfold adr at h
 split at h
 ·rename_i e;cases h;exact e
 ·cases h
theorem qb{K:W.Frag}{v:Value}(h:jb K v=some none):v=.none:=by
 unfold jb at h
 split at h
 ·rfl
 ·split at h
  ·split at h <;> cases h
  ·cases h
 ·cases h
theorem qa{K:W.Frag}{v:Value}{d:Int}(h:jb K v=some (some d)):∃T oc od its n sl tk,v=.ref T/\K.lookup T=some ⟨oc,od,.seq its n,sl⟩/\its.toList=[.int d tk]:=by
 unfold jb at h
 split at h
 ·cases h
 ·split at h
  ·rename_i T _ oc od its n sl lk
   split at h
   ·rename_i _ d' tk hi
    cases h
    exact⟨T,oc,od,its,n,sl,tk,rfl,lk,hi⟩
   ·cases h
  ·cases h
 ·cases h
theorem zL{K:W.Frag}{f:Addr}{r:Row}(h:pT K f=some r.good):∃oc od dV kV doc pm an cdv ct osl,
  K.lookup f=some ⟨oc,od,.func (W.fnOf r.x r.ql (iF r.st) (bZ r.st) (aC r.st) dV kV doc pm an cdv ct),osl⟩/\W.codeIn K cdv r.ql=true/\jb K dV=some r.kJ:=by
 unfold pT at h
 split at h
 ·rename_i oc od fd osl lk
  simp only[Row.good,Option.some.injEq,Prod.mk.injEq] at h
  obtain⟨h1,h2,h3,h4,h5,h6,h7,h8,h9,uz⟩:=h
  obtain⟨f1,f2,f3,f4,f5,f6,f7,f8,f9,f10,f11,f12,f13,f14,f15⟩:=fd
  dsimp only at h1 h2 h3 h4 h5 h6 h7 h8 h9 uz
  subst h1 h2 h3 h4 h5 h6 h7 h8
  exact⟨oc,od,f8,f9,f10,f11,f12,f13,f14,osl,lk,uz,h9⟩
 ·cases h
noncomputable def scB(N P:List Str)(sc:Scope):Bool:=decide (sc.kind=.function)&&!sc.isCoroutine&&!sc.isGenerator&&decide N.Nodup&&decide (N.take P.length=P) &&
 (P.all fun x=>decide (sc.names.lookup x=some .local)||decide (sc.names.lookup x=some .cell))&&sc.names.all fun y=>decide (y.2≠.free)
theorem Kr{N P:List Str}{sc:Scope}(h:scB N P sc=true):dh N P sc:=by
 simp only[scB,Bool.and_eq_true,decide_eq_true_eq,Bool.not_eq_true',List.all_eq_true,Bool.or_eq_true] at h
 obtain⟨⟨⟨⟨⟨⟨h1,h2⟩,h3⟩,h4⟩,h5⟩,h6⟩,h7⟩:=h
 exact⟨h1,h2,h3,h4,h5,h6,h7⟩
noncomputable def Row.ok(G:Gm)(P:kR)(r:Row):Bool:=match P.fn r.i with
 | some fn=>scB r.N r.ps (aC r.st)&&gK (iF r.st) r.ps&&decide (fn.np=r.ps.length)&&decide (fn.ns=r.N.length)&&fn.kJ.isEmpty&&(r.kJ.isNone||!r.ps.isEmpty)&&gP G 200 false r.N (aC r.st) (.ss (bZ r.st) fn.body)
 | none=>false
structure Rw(G:Gm)(P:kR)(K:W.Frag)(r:Row)(f:Addr)(fd:FuncData):Prop where
 at_:FnAt G P K r.i r.ps.length f fd r.ps
 bd:Binds K fd r.ps []
 kp:W.keepIn K (.ref f)=true
 bn:r.kJ=none->∀(s:Shared) (us:List Value),us.length=r.ps.length->BindsTo s fd ⟨us,[]⟩ (r.ps.zip us)
 df:∀d, r.kJ=some d->(∃tk, Binds K fd r.ps [.int d tk])/\KB K fd r.ps (r.ps.getLast?.getD "")
theorem CO{K:W.Frag}{f:Addr}{oc:Value}{od:Option Addr}{fd:FuncData}{sl:Array (Option Value)}(h:K.lookup f=some ⟨oc,od,.func fd,sl⟩):W.keepIn K (.ref f)=true:=by
 simp only[W.keepIn,h]
theorem qU{G:Gm}{P:kR}{K:W.Frag}{r:Row}{f:Addr}(h:pT K f=some r.good)(ok:r.ok G P=true):∃fd,Rw G P K r f fd:=by
 obtain⟨oc,od,dV,kV,doc,pm,an,cdv,ct,osl,lk,hc,hd⟩:=zL h
 unfold Row.ok at ok
 split at ok
 ·rename_i fn hf
  simp only[Bool.and_eq_true,decide_eq_true_eq,List.isEmpty_iff] at ok
  obtain⟨⟨⟨⟨⟨⟨k1,k2⟩,k3⟩,k4⟩,k5⟩,k6⟩,k7⟩:=ok
  have S:=Kr k1
  have nd:r.ps.Nodup:=by rw[<- S.pre];exact S.nd.sublist (List.take_sublist _ _)
  refine⟨_,⟨_,_,_,_,_,⟨⟨oc,od,dV,kV,doc,pm,an,cdv,ct,osl,rfl,lk,hc⟩⟩,hf,S,rfl,k3,k4,k5,k7⟩,?_,CO lk,fun e s us hl=>?_,fun d e=>?_⟩
  ·intro s us KX hl
   cases e:r.kJ with
   | none =>
    rw[e] at hd
    rw[List.append_nil] at hl ⊢
    exact jv k2 nd (qb hd) hl
   | some d =>
    rw[e] at hd k6
    obtain⟨T,o1,o2,its,n,sl,tk,rfl,lT,hi⟩:=qa hd
    exact mG k2 nd rfl (KX _ _ lT) rfl hi (.inl rfl) hl (by simpa using k6)
  ·rw[e] at hd
   exact jv k2 nd (qb hd) hl
  ·rw[e] at hd k6
   obtain⟨T,o1,o2,its,n,sl,tk,rfl,lT,hi⟩:=qa hd
   exact⟨⟨tk,fun s us KX hl=>mG k2 nd rfl (KX _ _ lT) rfl hi (.inr rfl) hl (by simpa using k6)⟩,fun s us w KX hl=>AI k2 nd rfl (KX _ _ lT) rfl hi hl⟩
 ·cases ok
end Fg
end
section
namespace Fg
open PySem PySem.Spec L2
theorem mem_of_lookup{α β:Type}[BEq α][LawfulBEq α]{x:α}{b:β}:∀{l:List (α×β)},l.lookup x=some b->(x,b)∈l
 | [],h=>by cases h
 | (y, c)::l, h=>by
  rw[List.lookup_cons] at h
  by_cases e:x=y
  ·subst e;simp at h;subst h;exact List.mem_cons_self
  ·rw[show (x == y)=false from beq_eq_false_iff_ne.mpr e] at h
   exact List.mem_cons_of_mem _ (mem_of_lookup h)
theorem bX{α β:Type}{f g:α->β}:∀{l:List α},l.map f=l.map g->∀a∈l,f a=g a
 | [],_,_,h=>by cases h
 | b::l,e,a,h=>by
  rw[List.map_cons,List.map_cons,List.cons.injEq] at e
  rcases List.mem_cons.mp h with rfl | h
  ·exact e.1
  ·exact bX e.2 a h
noncomputable def Tb.gm(t:Tb):Gm:=⟨t.fn.map fun r=>(r.x,r.i,r.ps.length),(t.cs.map fun c=>(c.1,c.2.1))++(t.ct.map fun c=>(c.1,c.2.1))++(t.cd.map fun c=>(c.1,c.2.1)),t.bl,
 t.mt.filterMap fun r=>if r.2.x=("__init__" : Str) then (t.cl[r.1]?).map fun x=>(x, r.1, r.2.i, r.2.ps.length) else none,
 t.mt.filterMap fun r=>if r.2.x=("__init__" : Str) then none else some ((r.1, r.2.x), r.2.i, r.2.ps.length), t.fl, t.xc.zipIdx,
 t.fn.filterMap fun r=>r.kJ.map fun d=>(r.x, r.i, r.ps.length, d, r.ps.getLast?.getD ""), true, (t.fn.filter fun r=>t.oq.contains r.x).map fun r=>(r.x, r.i, r.ps.length), true, false⟩
noncomputable def FJ:D->Option Str
 | .str x=>some x
 | _=>none
noncomputable def intD:D->Option Int
 | .int x=>some x
 | _=>none
noncomputable def Tb.okC(t:Tb)(P:kR):Bool:=(t.cs.all fun c=>match P.glob c.2.1 with
 | some (.int n)=>decide (n=c.2.2)
 | _=>false)&&(t.ct.all fun c=>decide (c.2.2.length<=sizeLine)&&match P.glob c.2.1 with
 | some (.tup ds)=>decide (ds.map FJ=c.2.2.map some)
 | _=>false)&&t.cd.all fun c=>decide (c.2.2.length<=sizeLine)&&decide (c.2.2.map fun z=>z.1).Nodup&&match P.glob c.2.1 with
 | some (.dct ks ds)=>decide (ks=c.2.2.map fun z=>Sum.inr z.1)&&decide (ds.map intD=c.2.2.map fun z=>some z.2)
 | _=>false
noncomputable def Tb.ok(t:Tb)(G:Gm)(P:kR):Bool:=(t.fn.all fun r=>r.ok G P)&&(t.mt.all fun r=>r.2.ok G P)&&t.okC P&&(t.fn.filter fun r=>t.oq.contains r.x).all fun r=>r.ok (pO G) P
theorem lM:∀{us:List Value} {xs:List Str},us.map strOf=xs.map some->Vals (xs.map .str) us
 | [],[],_=>.nil
 | [],_::_,h=>by cases h
 | _::_,[],h=>by cases h
 | u::us,x::xs,h=>by
  rw[List.map_cons,List.map_cons,List.cons.injEq] at h
  refine .cons ?_ (lM h.2)
  have h1:=h.1
  unfold strOf at h1
  split at h1
  ·cases h1;exact⟨_,rfl⟩
  ·cases h1
theorem uU{w:World}:∀{es:List DictEntry} {kvs:List (Str×Int)},(es.map fun e=>(e.hash,strOf e.key,intOf e.val))=(kvs.map fun z=>(PyData.keyHash w.params z.1,some z.1,some z.2)) ->
  W.KeysLit w.params es/\DW es (kvs.map fun z=>(Sum.inr z.1,.int z.2))
 | [],[],_=>⟨trivial,.nil⟩
 | [],_::_,h=>by cases h
 | _::_,[],h=>by cases h
 | ⟨hh, k, v⟩::es, z::kvs, h=>by
  rw[List.map_cons,List.map_cons,List.cons.injEq,Prod.mk.injEq,Prod.mk.injEq] at h
  obtain⟨⟨h1,h2,h3⟩,h4⟩:=h
  obtain⟨q1,q2⟩:=uU h4
  dsimp only at h1 h2 h3
  unfold strOf at h2
  unfold intOf at h3
  split at h2
  ·cases h2
   split at h3
   ·cases h3
    exact⟨⟨⟨_,_,rfl,h1⟩,q1⟩,.cons ⟨_,rfl⟩ q2⟩
   ·cases h3
  ·cases h2
section
variable{B:Bd}{F:Addr->Prop}{ρ:List Addr}{H:Hp}
theorem o7:∀{ds:List D} {xs:List Str},ds.map FJ=xs.map some->aj B F ρ H ds (xs.map .str)
 | [],[],_=>aj.nil
 | [],_::_,h=>by cases h
 | _::_,[],h=>by cases h
 | d::ds,x::xs,h=>by
  rw[List.map_cons,List.map_cons,List.cons.injEq] at h
  refine aj.cons ?_ (o7 h.2)
  have h1:=h.1
  unfold FJ at h1
  split at h1
  ·cases h1;simp only[RD]
  ·cases h1
theorem o8:∀{ds:List D} {kvs:List (Str×Int)},ds.map intD=(kvs.map fun z=>some z.2)->aj B F ρ H ds (kvs.map fun z=>.int z.2)
 | [],[],_=>aj.nil
 | [],_::_,h=>by cases h
 | _::_,[],h=>by cases h
 | d::ds,x::xs,h=>by
  rw[List.map_cons,List.map_cons,List.cons.injEq] at h
  refine aj.cons ?_ (o8 h.2)
  have h1:=h.1
  unfold intD at h1
  split at h1
  ·cases h1;simp only[RD]
  ·cases h1
end
theorem iL{α:Type}{K:W.Frag}{x:Str}{f:Addr->Option α}{v:α}(h:(adr K x).bind f=some v):∃a,adr K x=some a/\f a=some v:=Option.bind_eq_some_iff.mp h
theorem n6{α:Type}{K:W.Frag}{x:Str}{f:Addr->α}{v:α}(h:(adr K x).map f=some v):∃a,adr K x=some a/\f a=v:=Option.map_eq_some_iff.mp h
section
variable{t:Tb}{P:kR}{w:World}{K:W.Frag}{h:Heap}{mg:Str->Option Value}
theorem yN(e:t.qt K=t.good P w)(ok:t.ok t.gm P=true)(r:Row)(hr:r∈t.fn):∃f fd,adr K r.x=some f/\Rw t.gm P K r f fd:=by
 simp only[Tb.qt,Tb.good,Prod.mk.injEq] at e
 obtain⟨f,h1,h2⟩:=iL (bX e.1 r hr)
 simp only[Tb.ok,Bool.and_eq_true,List.all_eq_true] at ok
 obtain⟨fd,R⟩:=qU h2 (ok.1.1.1 r hr)
 exact⟨f,fd,h1,R⟩
theorem Hl(e:t.qt K=t.good P w)(ok:t.ok t.gm P=true)(r:Row)(hr:r∈t.fn.filter fun r=>t.oq.contains r.x):∃f fd,adr K r.x=some f/\Rw (pO t.gm) P K r f fd:=by
 simp only[Tb.qt,Tb.good,Prod.mk.injEq] at e
 obtain⟨f,h1,h2⟩:=iL (bX e.1 r (List.mem_filter.mp hr).1)
 unfold Tb.ok at ok
 obtain⟨fd,R⟩:=qU h2 (List.all_eq_true.mp ((Bool.and_eq_true _ _).mp ok).2 r hr)
 exact⟨f,fd,h1,R⟩
theorem EI(e:t.qt K=t.good P w)(ok:t.ok t.gm P=true)(r:Nat×Row)(hr:r∈t.mt):∃x C f fd,t.cl[r.1]? = some x/\adr K x=some C/\W.findIn K (.ref C) r.2.x=some (some (.ref f))/\W.isFn K (.ref f)=true/\Rw t.gm P K r.2 f fd:=by
 simp only[Tb.qt,Tb.good,Prod.mk.injEq] at e
 have h1:=bX e.2.2.1 r hr
 unfold yM at h1
 obtain⟨C,h2,h3⟩:=Option.bind_eq_some_iff.mp h1
 obtain⟨x,h4,h5⟩:=Option.bind_eq_some_iff.mp h2
 simp only[Tb.ok,Bool.and_eq_true,List.all_eq_true] at ok
 split at h3
 ·rename_i f hf
  obtain⟨z,h6,h7⟩:=Option.map_eq_some_iff.mp h3
  rw[Prod.mk.injEq] at h7
  rw[h7.1] at h6
  obtain⟨fd,R⟩:=qU h6 (ok.1.1.2 r hr)
  exact⟨x,C,f,fd,h4,h5,hf,h7.2,R⟩
 ·cases h3
theorem EJ(e:t.qt K=t.good P w){c:Nat}{C:Addr}(hc:(t.cl[c]?).bind (adr K)=some C):nT t K C=jN t:=by
 obtain⟨x,h1,h2⟩:=Option.bind_eq_some_iff.mp hc
 simp only[Tb.qt,Tb.good,Prod.mk.injEq] at e
 obtain⟨C',h3,h4⟩:=n6 (bX e.2.1 x (List.mem_of_getElem? h1))
 rw[h2] at h3
 cases h3
 exact h4
theorem qA{xs:List Str}{x:Str}{c:Nat}(h:xs[c]? = some x):(x,c)∈xs.zipIdx:=List.mk_mem_zipIdx_iff_getElem?.mpr h
theorem EG(e:t.qt K=t.good P w){c:Nat}{X:Addr}(hc:(t.xc[c]?).bind (adr K)=some X):W.excIn K X BMV "ValueError.__new__" = true/\W.mroIn K X (.type "BaseException")=some true /\
  (∀d D, (t.xc[d]?).bind (adr K)=some D->W.mroIn K X (.ref D)=some (P.sub c d))/\AN K X/\W.kitOne K (.ref X) (.type "ValueError")=some true/\∀d D, (t.xc[d]?).bind (adr K)=some D->W.kitOne K (.ref X) (.ref D)=some (P.sub c d):=by
 obtain⟨x,h1,h2⟩:=Option.bind_eq_some_iff.mp hc
 simp only[Tb.qt,Tb.good,Prod.mk.injEq] at e
 obtain⟨C',h3,h4⟩:=n6 (bX e.2.2.2.1 (x,c) (qA h1))
 rw[show adr K (x,c).1=some X from h2] at h3
 cases h3
 simp only[zQ,Prod.mk.injEq] at h4
 obtain⟨k1,k2,k3,k4,k5,k6,k7,k8,k9⟩:=h4
 simp only[List.cons.injEq,and_true] at k4
 have at_:∀{f:Addr->Option Bool},(t.xc.map fun y=>(adr K y).bind f)=(t.xc.zipIdx.map fun y=>some (P.sub c y.2))->∀d D,(t.xc[d]?).bind (adr K)=some D->f D=some (P.sub c d):=fun {f} k d D hd=>by
  obtain⟨y,h5,h6⟩:=Option.bind_eq_some_iff.mp hd
  have z:(t.xc.zipIdx.map fun y=>(adr K y.1).bind f)=t.xc.zipIdx.map fun y=>some (P.sub c y.2):=by
   rw[<- k]
   conv=>rhs;rw[<- List.zipIdx_map_fst 0 t.xc]
   rw[List.map_map]
   rfl
  have q:=bX z (y,d) (qA h5)
  rw[show adr K (y,d).1=some D from h6] at q
  exact q
 exact⟨k1,k2,at_ k3,⟨k4.1,k4.2.1,k4.2.2.1,k4.2.2.2,k5,k6,k2,k7⟩,k8,at_ k9⟩
theorem Tb.md(X:K.In h)(G:h.Ns mainGlobals mg)(e:t.qt K=t.good P w)(ok:t.ok t.gm P=true):Md t.gm P w K mg (fun c=>(t.cl[c]?).bind (adr K)) (fun c=>(t.xc[c]?).bind (adr K)):=by
 have Hj:∀{x a},adr K x=some a->mg x=some (.ref a):=fun q=>W.mg_of X G (Ft q)
 refine⟨fun x i hx=>?_,fun x hx=>?_,fun f i m hx=>?_,fun c C hx=>?_,fun c nm i m hx=>?_,fun x c i m hx=>?_,fun x c hx=>?_,fun c C hx=>?_,fun x f m d z hx=>?_,fun f i m hx=>?_,fun c C hx=>?_⟩
 ·have e':=e
  simp only[Tb.qt,Tb.good,Prod.mk.injEq] at e'
  simp only[Tb.ok,Tb.okC,Bool.and_eq_true,List.all_eq_true] at ok
  obtain⟨⟨_,⟨ok1,ok2⟩,ok3⟩,_⟩:=ok
  rcases List.mem_append.mp (mem_of_lookup hx) with hm | hm
  ·rcases List.mem_append.mp hm with hm | hm
   ·obtain⟨c,hc,q⟩:=List.mem_map.mp hm
    cases q
    have h1:=bX e'.2.2.2.2.1 c hc
    unfold Ar at h1
    split at h1
    ·rename_i n tk hn
     cases h1
     refine⟨.int c.2.2,_,W.mg_of X G hn,⟨_,rfl⟩,fun d hd F ρ H=>?_⟩
     have h2:=ok1 c hc
     rw[hd] at h2
     split at h2
     ·rename_i n' hn'
      cases hn'
      rw[of_decide_eq_true h2]
      simp only[RD]
     ·cases h2
    ·cases h1
   ·obtain⟨c,hc,q⟩:=List.mem_map.mp hm
    cases q
    obtain⟨a,h1,h2⟩:=iL (bX e'.2.2.2.2.2.2.1 c hc)
    unfold xq at h2
    split at h2
    ·rename_i cl od its n sl lk
     rw[Option.some.injEq,Prod.mk.injEq] at h2
     obtain⟨rfl,h2⟩:=h2
     have h3:=ok2 c hc
     refine⟨.ref a,_,Hj h1,rfl,fun d hd F ρ H=>?_⟩
     rw[hd] at h3
     obtain⟨h3,h4⟩:=h3
     split at h4
     ·rename_i ds hn'
      cases hn'
      have v:=lM h2
      simp only[RD]
      exact⟨a,_,rfl,.inr ⟨_,_,_,lk,rfl,rfl,by rw[<- Array.length_toList,<- v.length,List.length_map];exact of_decide_eq_true h3,v⟩,o7 (of_decide_eq_true h4)⟩
     ·cases h4
    ·cases h2
  ·obtain⟨c,hc,q⟩:=List.mem_map.mp hm
   cases q
   obtain⟨a,h1,h2⟩:=iL (bX e'.2.2.2.2.2.2.2 c hc)
   unfold Ao at h2
   split at h2
   ·rename_i cl od es n sl lk
    simp only[uV,Option.some.injEq,Prod.mk.injEq] at h2
    obtain⟨rfl,rfl,rfl,hs,h2⟩:=h2
    have h3:=ok3 c hc
    refine⟨.ref a,_,Hj h1,rfl,fun d hd F ρ H=>?_⟩
    rw[hd] at h3
    obtain⟨⟨h3,h5⟩,h4⟩:=h3
    split at h4
    ·rename_i ks ds hn'
     cases hn'
     simp only[Bool.and_eq_true,decide_eq_true_eq] at h4
     obtain⟨q1,q2⟩:=uU h2
     simp only[RD]
     refine⟨a,_,rfl,.inr ⟨?_,hs,?_,es,n,lk,q1,q2⟩,?_,?_⟩
     ·rw[List.length_map];exact of_decide_eq_true h3
     ·rw[List.map_map]
      have:=of_decide_eq_true h5
      rw[show ((fun z:Key×V=>z.1) ∘ fun z:Str×Int=>((Sum.inr z.1:Key),V.int z.2))=(fun s=>(Sum.inr s:Key)) ∘ fun z:Str×Int=>z.1 from rfl,<- List.map_map]
      exact List.pairwise_map.mpr (this.imp fun h e=>h (Sum.inr.inj e))
     ·rw[List.map_map,h4.1];rfl
     ·rw[List.map_map];exact o8 h4.2
    ·cases h4
   ·cases h2
 ·have e':=e
  simp only[Tb.qt,Tb.good,Prod.mk.injEq] at e'
  exact W.mg_none_of X G (bX e'.2.2.2.2.2.1 x (List.contains_iff_mem.mp hx))
 ·obtain⟨r,hr,q⟩:=List.mem_map.mp (mem_of_lookup hx)
  cases q
  obtain⟨fa,fd,h1,R⟩:=yN e ok r hr
  exact⟨fa,fd,r.ps,Hj h1,R.kp,R.bd,R.at_⟩
 ·have q:=EJ e hx
  simp only[nT,jN,Prod.mk.injEq] at q
  obtain⟨q1,q2,q3,q4,q5,q6,q7⟩:=q
  exact⟨⟨q1,q2,q3,q4⟩,fun f hf=>bX q7 f (List.contains_iff_mem.mp hf)⟩
 ·obtain⟨r,hr,q⟩:=List.mem_filterMap.mp (mem_of_lookup hx)
  split at q
  ·cases q
  ·cases q
   obtain⟨x,C,f,fd,h1,h2,h3,h4,R⟩:=EI e ok r hr
   exact⟨C,f,fd,r.2.ps,by rw[h1];exact h2,⟨h3,h4,R.kp⟩,R.bd,R.at_⟩
 ·obtain⟨r,hr,q⟩:=List.mem_filterMap.mp (mem_of_lookup hx)
  split at q
  ·rename_i hi
   obtain⟨y,h0,q⟩:=Option.map_eq_some_iff.mp q
   cases q
   obtain⟨x',C,f,fd,h1,h2,h3,h4,R⟩:=EI e ok r hr
   rw[h0] at h1
   cases h1
   have hC:(t.cl[r.1]?).bind (adr K)=some C:=by rw[h0];exact h2
   have q:=EJ e hC
   simp only[nT,jN,Prod.mk.injEq] at q
   rw[hi] at h3
   exact⟨C,f,fd,r.2.ps,Hj h2,hC,⟨q.2.2.2.2.1,h3,h4,q.2.2.2.2.2.1⟩,R.bd,R.at_⟩
  ·cases q
 ·have hm:=List.mk_mem_zipIdx_iff_getElem?.mp (mem_of_lookup hx)
  have e':=e
  simp only[Tb.qt,Tb.good,Prod.mk.injEq] at e'
  obtain⟨C,h3,_⟩:=n6 (bX e'.2.2.2.1 (x,c) (qA hm))
  exact⟨C,Hj h3,by rw[hm];exact h3⟩
 ·obtain⟨q1,q2,q3,_⟩:=EG e hx
  obtain⟨bm,ec,em⟩:=IJ q1
  exact⟨_,_,bm,_,_,ec,PySem.F.excBase_ValueError,jO (em _ _ q2),fun d D hd=>em _ _ (q3 d D hd)⟩
 ·obtain⟨r,hr,q⟩:=List.mem_filterMap.mp (mem_of_lookup hx)
  obtain⟨d',hd,q⟩:=Option.map_eq_some_iff.mp q
  cases q
  obtain⟨fa,fd,h1,R⟩:=yN e ok r hr
  obtain⟨⟨tk,hb⟩,hk⟩:=R.df _ hd
  exact⟨fa,fd,r.ps,_,Hj h1,R.kp,hb,⟨_,rfl⟩,hk,R.at_⟩
 ·obtain⟨r,hr,q⟩:=List.mem_map.mp (mem_of_lookup hx)
  cases q
  obtain⟨fa,fd,h1,R⟩:=Hl e ok r hr
  exact⟨fa,fd,r.ps,Hj h1,R.kp,R.bd,R.at_⟩
 ·obtain⟨_,_,_,q⟩:=EG e hx
  exact q
theorem Tb.walk(t:Tb)(P:kR){l:W.OpenLaw}{q:Program}{loose:List Str}{XP:(Str->Option Value)->Heap->Prop}{d:DefRec}{r:Row}{x:Str}(k:Nat)(hn:l.most=some 63)(hdf:d.params.defaults=[])(hk:bR true (k+1) callerA)
  (ok:t.ok t.gm P=true) (hr:r∈t.fn) (hx:d.name=r.x) (h0:r.kJ=none) (hps:r.ps=[x])
  (hP:∀ns:List Int,ns.length<=63->∃M',(aa P (k+1)).call r.i [.lst (ns.map .int)] []=.ok (.bl true) M') :
  W.WalkO q loose XP (t.hook P).says l.row.toRowW d [] (fun f vs=>PySem.call f vs):=by
 refine Att.qi hn hdf fun w s₀ s₁ mg mb fa o pm cd doc a vs ns G Y ho hd hcd hmg hobj hints hlen hg=>?_
 obtain⟨K,KX,e⟩:=Y
 obtain⟨f,fd,h1,R⟩:=yN e ok r hr
 have hf:mg d.name=some (.ref f):=by rw[hx];exact W.mg_of KX G.T.g (Ft h1)
 cases hmg.symm.trans hf
 obtain⟨y,qual,st,N,fn,F,q1,q2,q3,q4,q5,q6,q7⟩:=R.at_
 have D:=Tb.md (w:=w) KX G.T.g e ok
 have bd:=R.bn h0
 rw[hps] at bd q2 q3 q4
 exact yY (CX:=fh l.prog w) (sp:=Eg K) (x:=x) (fd:=fd) KX G.T.g G.T.b G.T.builtins G.T.nolimit hg hobj hints (Nat.le_trans hlen (by decide)) hk (fun base _ _=>Hu D hP F q1 q2 q3 q4 q5 q6 q7) (fun s u=>bd s [u] rfl)
  (fun H hO hS=>⟨a,ns,rfl,hS,hlen,fun _=>rfl⟩) fun H e s' ⟨_,_,_,_,_,_,_,_,_,_,_,_,z⟩=>z
end
end Fg
end
section
namespace bz
open Fg PySem
theorem fn0:ao.fn 0=some uB:=rfl
theorem qu:ao.fn 1=some dg:=rfl
theorem fn2:ao.fn 2=some iX:=rfl
theorem fn3:ao.fn 3=some fY:=rfl
theorem fn4:ao.fn 4=some cX:=rfl
theorem fn5:ao.fn 5=some gO:=rfl
theorem fn6:ao.fn 6=some fO:=rfl
theorem IB:ao.fn 7=some mw:=rfl
theorem NG:ao.fn 8=some zO:=rfl
theorem fn9:ao.fn 9=some dX:=rfl
theorem LJ:ao.fn 10=some fN:=rfl
theorem fn11:ao.fn 11=some cF:=rfl
theorem fn12:ao.fn 12=some cY:=rfl
theorem zN:ao.fn 13=some br:=rfl
theorem LI:ao.fn 14=some dZ:=rfl
theorem wc:ao.fn 15=some fQ:=rfl
theorem LH:ao.fn 16=some eY:=rfl
theorem fn17:ao.fn 17=some bI:=rfl
theorem zM:ao.fn 18=some aU:=rfl
noncomputable abbrev w(x:String):Str:=Str.ofString x
theorem aX{M:MH}{c:Nat}:o5 M c M=.exc c M:=by simp[o5]
theorem au{kp:Bool}{M M':MH}{d:D}(h:nr M.length d=true)(hl:M'.length=M.length):gf kp M d M'=.ok d M':=by
 unfold gf
 by_cases hk:kp=false/\M'.take M.length=M
 ·rw[if_pos hk,if_pos h]
  have:M'=M:=by rw[<- hk.2,<- hl,List.take_length]
  rw[this]
 ·rw[if_neg hk]
theorem d8{P:kR}{k f:Nat}{fn:Fn}{ds:List D}{M M':MH}{σ':Sg}{r:R D}(hf:P.fn f=some fn)(hn:ds.length=fn.np)(hb:exs (aa P k) fn.body (ds.map some++List.replicate (fn.ns-fn.np) none) M=.ok (.nx σ') M')(hr:gf fn.keep M .aq M'=r):(aa P (k+1)).call f ds M=r:=by
 rw[cK hf]
 have h1:ds.length+fn.kJ.length-fn.np=fn.kJ.length:=by omega
 simp only[jV,h1,List.drop_length,List.append_nil,hb]
 rw[if_pos (by simp;omega)]
 exact hr
theorem jd{P:kR}{k f c:Nat}{fn:Fn}{ds:List D}{M M':MH}{σ':Sg}{r:R D}(hf:P.fn f=some fn)(hn:ds.length=fn.np)(hb:exs (aa P k) fn.body (ds.map some++List.replicate (fn.ns-fn.np) none) M=.ok (.xc c σ') M')(hr:o5 M c M'=r):(aa P (k+1)).call f ds M=r:=by
 rw[cK hf]
 have h1:ds.length+fn.kJ.length-fn.np=fn.kJ.length:=by omega
 simp only[jV,h1,List.drop_length,List.append_nil,hb]
 rw[if_pos (by simp;omega)]
 exact hr
section
variable{Φ:aZ}{σ σ':Sg}{M M1 M2 M3:MH}{e e' c a b:E}{x y d:D}{ss sa sb:Ss}{i n j k:Nat}{xs p:List D}
theorem lS(h:ev Φ e σ M=.exc k M1):exs Φ (.cons (.ex e) ss) σ M=.ok (.xc k σ) M1:=by simp only[bN,LM,h,R.mR,R.af]
theorem xQ(h:ev Φ e σ M=.exc k M1):exs Φ (.cons (.set i e) ss) σ M=.ok (.xc k σ) M1:=by simp only[bN,zS,h,R.mR,R.af]
theorem qR(h:ev Φ e σ M=.exc k M1):exs Φ (.cons (.ret e) ss) σ M=.ok (.xc k σ) M1:=by simp only[bN,IK,h,R.mR,R.af]
theorem lR(h:ev Φ c σ M=.ok (.bl true) M1)(ha:exs Φ sa σ M1=.ok (.xc k σ') M2):exs Φ (.cons (.ifs c sa sb) ss) σ M=.ok (.xc k σ') M2:=by simp only[bN,nP,h,R.gH,ha,R.af]
theorem Ge(h:ev Φ c σ M=.ok (.bl false) M1)(ha:exs Φ sb σ M1=.ok (.xc k σ') M2):exs Φ (.cons (.ifs c sa sb) ss) σ M=.ok (.xc k σ') M2:=by simp only[bN,nP,h,R.gH,ha,R.af]
theorem xR{f:Nat}(he:ev Φ e σ M=.ok d M1)(hs:dj d=true):exs Φ (.cons (.raise f (.cons e .nil)) ss) σ M=.ok (.xc f σ) M1:=by simp only[bN,zT,zW,Df,he,R.af,hs,if_true,R.gH]
theorem jy{s:S}(h:ex Φ s σ M=.ok (.nx σ') M1):exs Φ (.cons s ss) σ M=exs Φ ss σ' M1:=by simp only[bN,h,R.af]
theorem KR{M:MH}{n:Nat}(h:M[n]? = some (.lst (p++[x]))):gM .pop true M (.ref n) []=.ok x (M.set n (.lst p)):=by
 simp[gM,ck h,pF]
theorem MA{M:MH}{n:Nat}(h:M[n]? = some (.lst xs))(hl:xs.length<line):gM .append true M (.ref n) [d]=.ok .aq (M.set n (.lst (xs++[d]))):=by
 simp only[gM,ck h,pF,rA,hl,decide_true,if_true]
theorem yE{M:MH}{n:Nat}(h:M[n]? = some (.lst xs)):nj .pop M (.ref n)=true:=by simp only[nj,ck h,Option.isSome_some,Bool.and_self]
theorem rB{M:MH}{n:Nat}(h:M[n]? = some (.lst xs)):nj .append M (.ref n)=true:=by simp only[nj,ck h,Option.isSome_some,Bool.and_self]
theorem e_v{M:MH}(h:σ[i]? = some (some d)):ev Φ (.v i) σ M=.ok d M:=by simp only[lg,h]
theorem Aj{M M1 M2:MH}{n:Nat}{e':E}{ys:List D}(he:ev Φ e σ M=.ok (.ref n) M1)(h:M1[n]? = some (.lst ys))(hx:ev Φ e' σ M1=.ok d M2)(h2:M2[n]? = some (.lst xs))(hl:xs.length<line):ev Φ (.eU .append true e (.cons e' .nil)) σ M=.ok .aq (M2.set n (.lst (xs++[d]))):=by
 simp only[i7,he,R.af,rB h,if_true,aJ,hx,fZ,MA h2 hl]
theorem Jb{M M1 M2:MH}{n:Nat}{e':E}{ys:List D}(he:ev Φ e σ M=.ok (.ref n) M1)(h:M1[n]? = some (.lst ys))(hx:ev Φ e' σ M1=.exc k M2):ev Φ (.eU .append true e (.cons e' .nil)) σ M=.exc k M2:=by
 simp only[i7,he,R.af,rB h,if_true,aJ,hx,R.d9]
theorem L7{M M1 M2:MH}{n:Nat}{e':E}{j:Int}(he:ev Φ e σ M=.ok (.ref n) M1)(hx:ev Φ e' σ M1=.ok (.int j) M2)(h:M2[n]? = some (.lst xs))(ha:qz xs j=some d):ev Φ (.idx e e') σ M=.ok d M2:=by
 simp only[r6,he,R.af,hx,pN,vw,h,ha]
theorem aM{M M1 M2:MH}{e':E}{j:Int}(he:ev Φ e σ M=.ok (.tup xs) M1)(hx:ev Φ e' σ M1=.ok (.int j) M2)(ha:qz xs j=some d):ev Φ (.idx e e') σ M=.ok d M2:=by
 simp only[r6,he,R.af,hx,pN,vw,ha]
theorem L8{M M1 M2:MH}{n:Nat}{e':E}{q:Str}{kvs:List (Ky×D)}(he:ev Φ e σ M=.ok (.ref n) M1)(hx:ev Φ e' σ M1=.ok (.str q) M2)(h:M2[n]? = some (.dct kvs))(ha:look kvs (.inr q)=some d):ev Φ (.idx e e') σ M=.ok d M2:=by
 simp only[r6,he,R.af,hx,pN,vw,h,keyOf,ha]
theorem kG{M M1 M2:MH}{e':E}{a b:Int}{fz:Bool}(he:ev Φ e σ M=.ok (.int a) M1)(hx:ev Φ e' σ M1=.ok (.int b) M2):ev Φ (.op .add fz e e') σ M=.ok (.int (a+b)) M2:=by
 simp only[gD,he,R.af,hx,om,fH]
theorem Af{M M1 M2:MH}{e':E}{a b:Int}{fz:Bool}(he:ev Φ e σ M=.ok (.int a) M1)(hx:ev Φ e' σ M1=.ok (.int b) M2):ev Φ (.op .sub fz e e') σ M=.ok (.int (a-b)) M2:=by
 simp only[gD,he,R.af,hx,om,fH]
theorem bP{M M1:MH}{f:Nat}(he:ev Φ e σ M=.ok d M1):ev Φ (.call f (.cons e .nil)) σ M=Φ.call f [d] M1:=by
 simp only[bY,aJ,he,R.af,fZ]
theorem uJ{M M1:MH}{a b:Str}(he:ev Φ e σ M=.ok (.str a) M1):ev Φ (.cmp .eq e (.k (.str b))) σ M=.ok (.bl (decide (a=b))) M1:=by
 simp[he,bF,AH,N1,cA,top,Fg.plain,dep]
theorem we{M1 M2:MH}{e e':E}{a b:Int}{q:Bool}(he:ev Φ e σ M=.ok (.int a) M1)(hx:ev Φ e' σ M1=.ok (.int b) M2)(hq:decide (b<a)=q):ev Φ (.cmp .gt e e') σ M=.ok (.bl q) M2:=by
 rw[cE,he,R.af,hx,<- hq];rfl
theorem IT{M1 M2:MH}{e a:E}{d:D}{n c:Nat}{g:Str}{gs gs':List (Str×D)}(he:ev Φ e σ M=.ok d M1)(ha:ev Φ a σ M1=.ok (.ref n) M2)(h:M2[n]? = some (.ins c gs))(hl:gs.length<1000)(hg:eF g d gs=gs'):ex Φ (.eB a g e) σ M=.ok (.nx σ) (M2.set n (.ins c gs')):=by
 simp only[nO,he,R.gH,ha,h,hl,decide_true,if_true,hg]
theorem e_new{M1 M2:MH}{c g:Nat}{es:Es}{ds:List D}(he:cz Φ es σ M=.ok ds M1)(hc:Φ.ini g (.ref M1.length::ds) (M1++[.ins c []])=.ok .aq M2):ev Φ (.new c g es) σ M=.ok (.ref M1.length) M2:=by
 rw[IM,he,R.af,hc];rfl
theorem Ja{M1 M2:MH}{caps tg:List Nat}{elt:E}{it:Src}{d:D}{ds out:List D}(hi:bA Φ it σ M=.ok (d,ds,false) M1)(hl:bU (qw Φ .none) (ev Φ elt) tg (aO M1 d) ds (nW σ caps++List.replicate tg.length none) M1 []=.ok out M2):ev Φ (.comp false caps tg elt it .none) σ M=.ok (.ref M2.length) (M2++[.lst out]):=by
 rw[uF,hi,R.af,E0,hl];rfl
theorem Dm{M1 M2:MH}{caps tg:List Nat}{elt:E}{it:Src}{d:D}{ds out:List D}(hi:bA Φ it σ M=.ok (d,ds,false) M1)(hl:bU (qw Φ .none) (ev Φ elt) tg (aO M1 d) ds (nW σ caps++List.replicate tg.length none) M1 []=.ok out M2):ev Φ (.comp true caps tg elt it .none) σ M=.ok (.lst out) M2:=by
 rw[uF,hi,R.af,E0,hl];rfl
theorem yW{elt:Sg->MH->R D}{n:Nat}{ch:MH->Bool}{d x:D}{ds acc:List D}{M1:MH}(h:elt (σ.set n (some d)) M=.ok x M1)(hc:ch M1=true)(hl:acc.length<line):bU (qw Φ .none) elt [n] ch (d::ds) σ M acc=bU (qw Φ .none) elt [n] ch ds (σ.set n (some d)) M1 (acc++[x]):=by
 rw[bU]
 simp only[sets,zZ,R.af,h,hc,if_true,hl,decide_true]
theorem kC(h:ev Φ e σ M=.ok x M1)(h':ev Φ e' σ M1=.ok y M2):cz Φ (.cons e (.cons e' .nil)) σ M=.ok [x,y] M2:=by rw[aJ,h,R.af,aJ,h'];rfl
theorem evs1(h:ev Φ e σ M=.ok x M1):cz Φ (.cons e .nil) σ M=.ok [x] M1:=by rw[aJ,h];rfl
theorem gn{es:Es}(h:ev Φ e σ M=.ok x M1)(h':cz Φ es σ M1=.ok xs M2):cz Φ (.cons e es) σ M=.ok (x::xs) M2:=by rw[aJ,h,R.af,h'];rfl
theorem nM{s:S}:exs Φ (.cons s .nil) σ M=ex Φ s σ M:=by
 rw[bN]
 cases ex Φ s σ M with
 | ok o M1=>cases o <;> rfl
 | exc c M1=>rfl
 | bad=>rfl
theorem cN{sa sb:Ss}(h:ev Φ c σ M=.ok (.bl false) M1):exs Φ (.cons (.ifs c sa sb) .nil) σ M=exs Φ sb σ M1:=by rw[nM,nP,h];rfl
theorem jU{sa sb:Ss}(h:ev Φ c σ M=.ok (.bl true) M1):exs Φ (.cons (.ifs c sa sb) .nil) σ M=exs Φ sa σ M1:=by rw[nM,nP,h];rfl
end
noncomputable def E3:List Str->Es
 | []=>.nil
 | b::bs=>.cons (.k (.str b)) (E3 bs)
theorem uE{Φ:aZ}{σ:Sg}{M:MH}:∀bs:List Str,cz Φ (E3 bs) σ M=.ok (bs.map D.str) M
 | []=>rfl
 | b::bs=>by rw[E3,aJ,kD,R.af,uE bs];rfl
theorem mC{Φ:aZ}{σ:Sg}{M M1:MH}{e:E}{c:Str}{bs:List Str}{q:Bool}(he:ev Φ e σ M=.ok (.str c) M1)(hq:(bs.any fun z=>decide (z=c))=q):ev Φ (.cmp .isin e (.tup (E3 bs))) σ M=.ok (.bl q) M1:=by
 have h1:(bs.map D.str).all flat=true:=by rw[List.all_map];exact List.all_eq_true.mpr fun _ _=>rfl
 have h2:((bs.map D.str).any fun d=>aD d (.str c))=q:=by
  rw[List.any_map,<- hq]
  congr 1
 rw[cE,he,R.af,nQ,uE]
 simp only[R.af,bF,zA,vw,flat,h1,h2,Bool.and_self,if_true]
theorem bO{Φ:aZ}{σ:Sg}{M M1:MH}{e:E}{c z:Str}{q:Bool}(he:ev Φ e σ M=.ok (.str c) M1)(hq:decide (c=z)=q):ev Φ (.cmp .eq e (.k (.str z))) σ M=.ok (.bl q) M1:=by
 rw[uJ he,hq]
theorem wz{a b:String}(h:decide (Str.ofString a=Str.ofString b)=false:=by decide +kernel):(Str.ofString a == Str.ofString b)=false:=by
 rw[beq_eq_false_iff_ne];exact of_decide_eq_false h
theorem wn{a b:String}(h:decide (Str.ofString a=Str.ofString b)=false:=by decide +kernel):(Str.ofString a=Str.ofString b)=False:=by
 simpa using h
structure Px where
 prog:D
 most:Int
 bg:Int
 un:Int
 todo:List D
 wt:List D
 T:MH
noncomputable def Px.o(s:Px)(n:Nat):MO:=.ins 0 [(w "program", s.prog), (w "most", .int s.most), (w "begun", .int s.bg), (w "under_way", .int s.un), (w "todo", .ref (n+1)), (w "waiting", .ref (n+2))]
noncomputable def Px.h(s:Px)(M0:MH):MH:=M0++(s.o M0.length::.lst s.todo::.lst s.wt::s.T)
section
variable{M0:MH}{s s':Px}{ds p:List D}{t i:Nat}{o:MO}{x d:D}{Φ:aZ}{σ:Sg}{e:E}
theorem off(i:Nat)(X:MH):(M0++X)[M0.length+i]? = X[i]?:=by
 rw[List.getElem?_append_right (Nat.le_add_right _ _),Nat.add_sub_cancel_left]
theorem offs(i:Nat)(X:MH)(o:MO):(M0++X).set (M0.length+i) o=M0++X.set i o:=by
 rw[List.set_append_right _ _ (Nat.le_add_right _ _),Nat.add_sub_cancel_left]
theorem g0:(s.h M0)[M0.length]? = some (s.o M0.length):=off 0 _
theorem g1:(s.h M0)[M0.length+1]? = some (.lst s.todo):=off 1 _
theorem g2:(s.h M0)[M0.length+2]? = some (.lst s.wt):=off 2 _
theorem gT:(s.h M0)[M0.length+(t+3)]? = s.T[t]?:=off (t+3) _
theorem s0{s':Px}:(s.h M0).set M0.length (s'.o M0.length)=({ s with prog:=s'.prog,most:=s'.most,bg:=s'.bg,un:=s'.un }:Px).h M0:=offs 0 _ _
theorem s1:(s.h M0).set (M0.length+1) (.lst ds)=({ s with todo:=ds }:Px).h M0:=offs 1 _ _
theorem s2:(s.h M0).set (M0.length+2) (.lst ds)=({ s with wt:=ds }:Px).h M0:=offs 2 _ _
theorem sT:(s.h M0).set (M0.length+(t+3)) o=({ s with T:=s.T.set t o }:Px).h M0:=offs (t+3) _ _
theorem len:(s.h M0).length=M0.length+(s.T.length+3):=by simp[Px.h]
theorem app{X:MH}:s.h M0++X=({ s with T:=s.T++X }:Px).h M0:=by simp[Px.h,Px.o]
theorem qF:(s.h M0).take M0.length=M0:=by simp[Px.h]
theorem IF(h:σ[i]? = some (some (.ref M0.length))):ev Φ (.fld (.v i) (w "program")) σ (s.h M0)=.ok s.prog (s.h M0):=by
 simp only[i8,lg,h,R.af,g0,Px.o,List.lookup_cons,beq_self_eq_true]
theorem IG(h:σ[i]? = some (some (.ref M0.length))):ev Φ (.fld (.v i) (w "most")) σ (s.h M0)=.ok (.int s.most) (s.h M0):=by
 simp only[i8, lg, h, R.af, g0, Px.o, List.lookup_cons, beq_self_eq_true, wz (a:="most") (b:="program")]
theorem uC(h:σ[i]? = some (some (.ref M0.length))):ev Φ (.fld (.v i) (w "begun")) σ (s.h M0)=.ok (.int s.bg) (s.h M0):=by
 simp only[i8, lg, h, R.af, g0, Px.o, List.lookup_cons, beq_self_eq_true, wz (a:="begun") (b:="program"), wz (a:="begun") (b:="most")]
theorem nJ(h:σ[i]? = some (some (.ref M0.length))):ev Φ (.fld (.v i) (w "under_way")) σ (s.h M0)=.ok (.int s.un) (s.h M0):=by
 simp only[i8, lg, h, R.af, g0, Px.o, List.lookup_cons, beq_self_eq_true, wz (a:="under_way") (b:="program"), wz (a:="under_way") (b:="most"), wz (a:="under_way") (b:="begun")]
theorem rX(h:σ[i]? = some (some (.ref M0.length))):ev Φ (.fld (.v i) (w "todo")) σ (s.h M0)=.ok (.ref (M0.length+1)) (s.h M0):=by
 simp only[i8, lg, h, R.af, g0, Px.o, List.lookup_cons, beq_self_eq_true, wz (a:="todo") (b:="program"), wz (a:="todo") (b:="most"), wz (a:="todo") (b:="begun"), wz (a:="todo") (b:="under_way")]
theorem nI(h:σ[i]? = some (some (.ref M0.length))):ev Φ (.fld (.v i) (w "waiting")) σ (s.h M0)=.ok (.ref (M0.length+2)) (s.h M0):=by
 simp only[i8, lg, h, R.af, g0, Px.o, List.lookup_cons, beq_self_eq_true, wz (a:="waiting") (b:="program"), wz (a:="waiting") (b:="most"), wz (a:="waiting") (b:="begun"), wz (a:="waiting") (b:="under_way"), wz (a:="waiting") (b:="todo")]
theorem Cq{i:Int}:eF (w "begun") (.int i) [(w "program", s.prog), (w "most", .int s.most), (w "begun", .int s.bg), (w "under_way", .int s.un), (w "todo", .ref (M0.length+1)), (w "waiting", .ref (M0.length+2))]=[(w "program", s.prog), (w "most", .int s.most), (w "begun", .int i), (w "under_way", .int s.un), (w "todo", .ref (M0.length+1)), (w "waiting", .ref (M0.length+2))]:=by
 simp only[eF, wn (a:="program") (b:="begun"), wn (a:="most") (b:="begun"), if_true, if_false]
theorem Cp{i:Int}:eF (w "under_way") (.int i) [(w "program", s.prog), (w "most", .int s.most), (w "begun", .int s.bg), (w "under_way", .int s.un), (w "todo", .ref (M0.length+1)), (w "waiting", .ref (M0.length+2))]=[(w "program", s.prog), (w "most", .int s.most), (w "begun", .int s.bg), (w "under_way", .int i), (w "todo", .ref (M0.length+1)), (w "waiting", .ref (M0.length+2))]:=by
 simp only[eF, wn (a:="program") (b:="under_way"), wn (a:="most") (b:="under_way"), wn (a:="begun") (b:="under_way"), if_true, if_false]
theorem Dp{n:Int}(h:σ[i]? = some (some (.ref M0.length)))(he:ev Φ e σ (s.h M0)=.ok (.int n) (s.h M0)):ex Φ (.eB (.v i) (w "begun") e) σ (s.h M0)=.ok (.nx σ) (({ s with bg:=n }:Px).h M0):=by
 simp only[nO,he,R.gH,lg,h,g0,Px.o,Cq]
 exact congrArg (R.ok _) (s0 (s':={ s with bg:=n }))
theorem uI{n:Int}(h:σ[i]? = some (some (.ref M0.length)))(he:ev Φ e σ (s.h M0)=.ok (.int n) (s.h M0)):ex Φ (.eB (.v i) (w "under_way") e) σ (s.h M0)=.ok (.nx σ) (({ s with un:=n }:Px).h M0):=by
 simp only[nO,he,R.gH,lg,h,g0,Px.o,Cp]
 exact congrArg (R.ok _) (s0 (s':={ s with un:=n }))
theorem u_{m:Nat}{nm:Str}{es:Es}(h:σ[i]? = some (some (.ref M0.length)))(hn:([w "program", w "most", w "begun", w "under_way", w "todo", w "waiting"].all fun x=>!(nm == x))=true):ev Φ (.cZ 0 m nm (.v i) es) σ (s.h M0)=(cz Φ es σ (s.h M0)).bind fun ds M2=>Φ.call m (.ref M0.length::ds) M2:=by
 simp only[List.all_cons,List.all_nil,Bool.and_true,Bool.and_eq_true,Bool.not_eq_true'] at hn
 obtain⟨h1,h2,h3,h4,h5,h6⟩:=hn
 simp only[IL,lg,h,R.af,g0,Px.o,List.lookup_cons,List.lookup_nil,h1,h2,h3,h4,h5,h6,Option.isNone_none,decide_true,Bool.and_self,if_true]
theorem Ah(h:σ[i]? = some (some (.ref M0.length)))(hp:s.wt=p++[x]):ev Φ (.eU .pop true (.fld (.v i) (w "waiting")) .nil) σ (s.h M0)=.ok x (({ s with wt:=p }:Px).h M0):=by
 have g:(s.h M0)[M0.length+2]? = some (.lst (p++[x])):=by rw[g2,hp]
 simp only[i7,nI h,R.af,yE g,if_true,fZ,KR g,s2]
theorem sf(h:σ[i]? = some (some (.ref M0.length)))(he:ev Φ e σ (s.h M0)=.ok d (s'.h M0))(hl:s'.wt.length<line):ev Φ (.eU .append true (.fld (.v i) (w "waiting")) (.cons e .nil)) σ (s.h M0)=.ok .aq (({ s' with wt:=s'.wt++[d] }:Px).h M0):=by
 simp only[i7,nI h,R.af,rB g2,if_true,aJ,fZ,he,MA g2 hl,s2]
theorem e_next(h:σ[i]? = some (some (.ref M0.length)))(hp:s.todo=p++[x]):ev Φ (.eU .pop true (.fld (.v i) (w "todo")) .nil) σ (s.h M0)=.ok x (({ s with todo:=p }:Px).h M0):=by
 have g:(s.h M0)[M0.length+1]? = some (.lst (p++[x])):=by rw[g1,hp]
 simp only[i7,rX h,R.af,yE g,if_true,fZ,KR g,s1]
end
end bz
end
section
namespace bz
open Fg PySem
inductive Rk where
 | plus
 | minus
 | times
 | less
noncomputable def jX:Rk->Str
 | .plus=>w "plus"
 | .minus=>w "minus"
 | .times=>w "times"
 | .less=>w "less"
noncomputable def AX:Rk->Int->Int->Int
 | .plus,a,b=>a+b
 | .minus,a,b=>a-b
 | .times,a,b=>a*b
 | .less,a,b=>if a<b then 1 else 0
@[irreducible] noncomputable def qy:Int:=10 ^ 60
noncomputable def great(i:Int):Bool:=decide (qy<=(i.natAbs:Int))
noncomputable def kc:Rk->Bool
 | .less=>true
 | _=>false
noncomputable def B3(o:Rk)(a b:Int):Bool:=!kc o&&great (AX o a b)
theorem KP:fH .pow 10 60=some qy:=by unfold qy;decide +kernel
section
variable{M M1 M2:MH}{k:Nat}{Φ:aZ}{σ:Sg}{e e':E}
theorem Ai{fz:Bool}:ev Φ (.op .pow fz (.k (.int 10)) (.k (.int 60))) σ M=.ok (.int qy) M:=by
 rw[gD,kD,R.af,kD,R.af]
 simp only[om,KP]
theorem Fi{i:Int}(h:ev Φ e σ M=.ok (.int i) M1):ev Φ (.qu .abs e) σ M=.ok (.int i.natAbs) M1:=by
 have z:(if i<0 then -i else i)=(i.natAbs:Int):=by split <;> omega
 rw[Ab,h,R.af,<- z];rfl
theorem Ma{a b:Int}{q:Bool}(he:ev Φ e σ M=.ok (.int a) M1)(hx:ev Φ e' σ M1=.ok (.int b) M2)(hq:decide (b<=a)=q):ev Φ (.cmp .ge e e') σ M=.ok (.bl q) M2:=by
 rw[cE,he,R.af,hx,R.af,<- hq];rfl
theorem e_lt{a b:Int}{q:Bool}(he:ev Φ e σ M=.ok (.int a) M1)(hx:ev Φ e' σ M1=.ok (.int b) M2)(hq:decide (a<b)=q):ev Φ (.cmp .lt e e') σ M=.ok (.bl q) M2:=by
 rw[cE,he,R.af,hx,R.af,<- hq];rfl
theorem p7{a b:Int}{fz:Bool}(he:ev Φ e σ M=.ok (.int a) M1)(hx:ev Φ e' σ M1=.ok (.int b) M2)(ha:mid a=true)(hb:mid b=true):ev Φ (.op .mul fz e e') σ M=.ok (.int (a*b)) M2:=by
 rw[gD,he,R.af,hx,R.af]
 simp only[om,fH]
 cases hs:small a||small b with
 | true=>rw[if_pos rfl]
 | false=>rw[if_neg (by decide),ha,hb,Bool.and_self,if_pos rfl]
theorem Mu{i:Int}:(aa ao (k+1)).call 4 [.int i] M=if great i then .exc 5 M else .ok .aq M:=by
 have e1:ev (aa ao k) (.cmp .ge (.qu .abs (.v 0)) (.op .pow true (.k (.int 10)) (.k (.int 60)))) [some (.int i)] M=.ok (.bl (great i)) M:=Ma (Fi rfl) Ai rfl
 cases hq:great i with
 | true=>rw[hq] at e1;exact jd fn4 rfl (lR e1 rfl) aX
 | false=>rw[hq] at e1;exact d8 fn4 rfl ((aA e1).trans rfl) (au rfl rfl)
theorem Jf{o:Rk}{a b:Int}(ha:mid a=true)(hb:mid b=true):(aa ao (k+2)).call 5 [.str (jX o),.int a,.int b] M=if B3 o a b then .exc 5 M else .ok (.int (AX o a b)) M:=by
 have z:∀u:Str,ev (aa ao (k+1)) (.cmp .eq (.v 0) (.k (.str u))) [some (.str (jX o)),some (.int a),some (.int b),none] M=.ok (.bl (decide (jX o=u))) M:=fun u=>uJ rfl
 have fin:∀{v:Int},exs (aa ao (k+1)) (.cons (.ex (.call 4 (.cons (.v 3) .nil))) (.cons (.ret (.v 3)) .nil)) [some (.str (jX o)),some (.int a),some (.int b),some (.int v)] M=if great v then .ok (.xc 5 [some (.str (jX o)),some (.int a),some (.int b),some (.int v)]) M else .ok (.rt (.int v)) M:=fun {v}=>by
  have q:=(bP (Φ:=aa ao (k+1)) (f:=4) (e_v (M:=M) (σ:=[some (.str (jX o)),some (.int a),some (.int b),some (.int v)]) (i:=3) rfl)).trans Mu
  cases hg:great v with
  | true=>rw[hg] at q;exact lS q
  | false=>rw[hg] at q;exact (cI q).trans rfl
 have done:∀{v:Int},exs (aa ao (k+1)) gO.body [some (.str (jX o)),some (.int a),some (.int b),none] M=exs (aa ao (k+1)) (.cons (.ex (.call 4 (.cons (.v 3) .nil))) (.cons (.ret (.v 3)) .nil)) [some (.str (jX o)),some (.int a),some (.int b),some (.int v)] M ->
   (aa ao (k+2)).call 5 [.str (jX o),.int a,.int b] M=if great v then .exc 5 M else .ok (.int v) M:=fun {v} h=>by
  rw[fin] at h
  cases hg:great v with
  | true=>rw[hg] at h;exact jd fn5 rfl h aX
  | false=>rw[hg] at h;exact aN fn5 rfl h (au rfl rfl)
 cases o with
 | less =>
  have z1:=z (w "less")
  rw[show decide (jX .less=w "less")=true by decide +kernel] at z1
  have e2:ev (aa ao (k+1)) (.CW (.cmp .lt (.v 1) (.v 2)) (.k (.int 1)) (.k (.int 0))) [some (.str (jX .less)),some (.int a),some (.int b),none] M=.ok (.int (AX .less a b)) M:=by
   rw[Aa,e_lt (a:=a) (b:=b) rfl rfl rfl,R.af]
   by_cases h:a<b
   ·simp[h,AX]
   ·simp[h,AX]
  exact aN fn5 rfl (bK z1 (bH e2)) (au rfl rfl)
 | plus =>
  have z1:=z (w "less")
  rw[show decide (jX .plus=w "less")=false by decide +kernel] at z1
  have z2:=z (w "plus")
  rw[show decide (jX .plus=w "plus")=true by decide +kernel] at z2
  exact done ((aA z1).trans (oW z2 ((aP (kG rfl rfl)).trans rfl)))
 | minus =>
  have z1:=z (w "less")
  rw[show decide (jX .minus=w "less")=false by decide +kernel] at z1
  have z2:=z (w "plus")
  rw[show decide (jX .minus=w "plus")=false by decide +kernel] at z2
  have z3:=z (w "minus")
  rw[show decide (jX .minus=w "minus")=true by decide +kernel] at z3
  exact done ((aA z1).trans (mW z2 ((oW z3 ((aP (Af rfl rfl)).trans rfl)).trans rfl)))
 | times =>
  have z1:=z (w "less")
  rw[show decide (jX .times=w "less")=false by decide +kernel] at z1
  have z2:=z (w "plus")
  rw[show decide (jX .times=w "plus")=false by decide +kernel] at z2
  have z3:=z (w "minus")
  rw[show decide (jX .times=w "minus")=false by decide +kernel] at z3
  exact done ((aA z1).trans (mW z2 ((mW z3 ((aP (p7 rfl rfl ha hb)).trans rfl)).trans rfl)))
end
inductive Vl:D->Prop
 | int {i:Int}:mid i=true->Vl (.int i)
 | aq:Vl .aq
 | cell {wd:Str} {sz:Int} {a b:D}:1<=sz->sz<=1000->Vl a->Vl b->Vl (.tup [.str wd,.int sz,a,b])
noncomputable def gJ:D->Int
 | .tup (_::.int n::_)=>n
 | _=>1
theorem Vl.sz{v:D}(h:Vl v):1<=gJ v/\gJ v<=1000:=by
 cases h with
 | int i=>simp[gJ]
 | aq=>simp[gJ]
 | cell h1 h2 _ _=>exact⟨h1,h2⟩
theorem Vl.nr{v:D}(h:Vl v):∀m,Fg.nr m v=true:=fun m=>by
 induction h with
 | int=>simp[Fg.nr]
 | aq=>simp[Fg.nr]
 | cell _ _ _ _ i j=>simp[Fg.nr,fB,i,j]
noncomputable def layW(c:Bool):Str:=if c then w "cons" else w "pair"
noncomputable def dQ(c t:Bool):Str:=if c then (if t then w "tail" else w "head") else (if t then w "second" else w "first")
inductive Op where
 | rk (o:Rk)
 | lay (c:Bool)
 | look (c t:Bool)
 | none
noncomputable def Op.w:Op->Str
 | .rk o=>jX o
 | .lay c=>layW c
 | .look c t=>dQ c t
 | .none=>bz.w "none"
inductive Cz where
 | ok (d:D)
 | exc (c:Nat)
noncomputable def Cz.r(M:MH):Cz->R D
 | .ok d=>.ok d M
 | .exc c=>.exc c M
inductive dO:Op->List D->Cz->Prop
 | rk {o:Rk} {a b:Int}:mid a=true->mid b=true->dO (.rk o) [.int a,.int b] (if B3 o a b then .exc 5 else .ok (.int (AX o a b)))
 | lay {c:Bool} {a b:D}:Vl a->Vl b->dO (.lay c) [a,b] (if 1000<1+gJ a+gJ b then .exc 5 else .ok (.tup [.str (layW c),.int (1+gJ a+gJ b),a,b]))
 | empty {c t:Bool}:dO (.look c t) [.aq] (.exc 6)
 | look {c t:Bool} {wd:Str} {sz:Int} {a b:D}:Vl a->Vl b->dO (.look c t) [.tup [.str wd,.int sz,a,b]] (.ok (if t then b else a))
 | none {v:D}:dO .none [v] (.ok (.int (if dS v then 1 else 0)))
section
variable{M:MH}{k n:Nat}
theorem nZ{v:D}(hv:Vl v):(aa ao (k+1)).call 2 [v] M=.ok (.int (gJ v)) M:=by
 rw[cK fn2]
 cases hv <;> simp[jV,iX,Io,pN,vw,gJ,gf,nr]
theorem gl1:ao.glob 1=some (.int 1000):=rfl
theorem Jj{wd:Str}{a b:D}(hw:wd.length<=100000)(ha:Vl a)(hb:Vl b):(aa ao (k+2)).call 3 [.str wd,a,b] M=if 1000<1+gJ a+gJ b then .exc 5 M else .ok (.tup [.str wd,.int (1+gJ a+gJ b),a,b]) M:=by
 rw[cK fn3]
 have h1:=ha.sz
 have h2:=hb.sz
 have h3:(1+gJ a+gJ b).natAbs<18446744073709551616:=by omega
 by_cases hq:1000<1+gJ a+gJ b
 ·simp[jV,fY,nZ ha,nZ hb,om,fH,gl1,bF,su,hq,dj,hw,h3,aX]
 ·simp[jV,fY,nZ ha,nZ hb,om,fH,gl1,bF,su,hq,gf,nr,fB,ha.nr,hb.nr]
theorem AD{wd:Str}(hw:wd.length<=100000):(aa ao (k+1)).call 6 [.str wd,.aq] M=.exc 6 M:=by
 rw[cK fn6]
 simp[jV,fO,bF,dS,dj,hw,aX]
theorem lu{wd c:Str}{sz:Int}{a b:D}{q:Bool}(hq:([w "first", w "head"].any fun z=>decide (z=wd))=q)(ha:Vl a)(hb:Vl b):(aa ao (k+1)).call 6 [.str wd, .tup [.str c, .int sz, a, b]] M=.ok (if q then a else b) M:=by
 have e1:ev (aa ao k) (.cmp .A2 (.v 1) (.k .aq)) [some (.str wd),some (.tup [.str c,.int sz,a,b])] M=.ok (.bl false) M:=rfl
 have e2:=mC (Φ:=aa ao k) (e:=.v 0) (σ:=[some (.str wd),some (.tup [.str c,.int sz,a,b])]) (M:=M) (M1:=M) rfl hq
 cases q with
 | true=>exact aN fn6 rfl ((aA e1).trans (bK e2 (bH rfl))) (au (ha.nr _) rfl)
 | false=>exact aN fn6 rfl ((aA e1).trans ((aA e2).trans (bH rfl))) (au (hb.nr _) rfl)
theorem tP{o:Op}:o.w.length<=100000:=by
 cases o with
 | rk o=>cases o <;> decide +kernel
 | lay c=>cases c <;> decide +kernel
 | look c t=>cases c <;> cases t <;> decide +kernel
 | none=>decide +kernel
noncomputable def w1:List Str:=[w "plus", w "minus", w "times", w "less"]
noncomputable def w2:List Str:=[w "pair", w "cons"]
noncomputable def an(ws:List Str)(z:Str):Bool:=ws.any fun y=>decide (y=z)
theorem Ji{o:Op}{ds:List D}{r:Cz}(hc:dO o ds r)(h:M[n]? = some (.lst ds)):(aa ao (k+3)).call 7 [.str o.w,.ref n] M=r.r M:=by
 let σ:Sg:=[some (.str o.w),some (.ref n)]
 have a1:ev (aa ao (k+2)) (.cmp .isin (.v 0) (.tup (E3 w1))) σ M=.ok (.bl (an w1 o.w)) M:=mC (c:=o.w) rfl rfl
 have a2:ev (aa ao (k+2)) (.cmp .isin (.v 0) (.tup (E3 w2))) σ M=.ok (.bl (an w2 o.w)) M:=mC (c:=o.w) rfl rfl
 have a3:ev (aa ao (k+2)) (.cmp .eq (.v 0) (.k (.str (w "none")))) σ M=.ok (.bl (decide (o.w=w "none"))) M:=uJ rfl
 have ix:∀(j:Int) (d:D),qz ds j=some d->ev (aa ao (k+2)) (.idx (.v 1) (.k (.int j))) σ M=.ok d M:=fun j d hj=>L7 rfl rfl h hj
 cases hc with
 | @rk o a b ha hb =>
  have q1:an w1 (jX o)=true:=by cases o <;> decide +kernel
  rw[show (Op.rk o).w=jX o from rfl,q1] at a1
  have ec:ev (aa ao (k+2)) (.call 5 (.cons (.v 0) (.cons (.idx (.v 1) (.k (.int 0))) (.cons (.idx (.v 1) (.k (.int 1))) .nil)))) σ M=(if B3 o a b then .exc 5 M else .ok (.int (AX o a b)) M):=by
   rw[bY,gn (x:=.str (jX o)) (M1:=M) rfl (gn (ix 0 (.int a) bQ) (gn (ix 1 (.int b) iJ) rfl)),R.af]
   exact Jf (k:=k) (o:=o) (a:=a) (b:=b) ha hb
  cases hg:B3 o a b with
  | true=>rw[hg] at ec;exact jd IB rfl (lR a1 (qR ec)) aX
  | false=>rw[hg] at ec;exact aN IB rfl (bK a1 (bH ec)) (au rfl rfl)
 | @lay c a b ha hb =>
  have q1:an w1 (layW c)=false:=by cases c <;> decide +kernel
  have q2:an w2 (layW c)=true:=by cases c <;> decide +kernel
  rw[show (Op.lay c).w=layW c from rfl] at a1 a2
  rw[q1] at a1
  rw[q2] at a2
  have ec:ev (aa ao (k+2)) (.call 3 (.cons (.v 0) (.cons (.idx (.v 1) (.k (.int 0))) (.cons (.idx (.v 1) (.k (.int 1))) .nil)))) σ M=(if 1000<1+gJ a+gJ b then .exc 5 M else .ok (.tup [.str (layW c),.int (1+gJ a+gJ b),a,b]) M):=by
   rw[bY,gn (x:=.str (layW c)) (M1:=M) rfl (gn (ix 0 a bQ) (gn (ix 1 b iJ) rfl)),R.af]
   exact Jj (k:=k) (wd:=layW c) (tP (o:=.lay c)) ha hb
  by_cases hg:1000<1+gJ a+gJ b
  ·rw[if_pos hg] at ec ⊢
   exact jd IB rfl ((aA a1).trans (lR a2 (qR ec))) aX
  ·rw[if_neg hg] at ec ⊢
   exact aN IB rfl ((aA a1).trans (bK a2 (bH ec))) (au (by simp[nr,fB,ha.nr,hb.nr]) rfl)
 | none =>
  rename_i v
  have q1:an w1 (w "none")=false:=by decide +kernel
  have q2:an w2 (w "none")=false:=by decide +kernel
  have q3:decide (w "none" = w "none")=true:=by decide +kernel
  rw[show Op.none.w=w "none" from rfl] at a1 a2 a3
  rw[q1] at a1
  rw[q2] at a2
  rw[q3] at a3
  have ec:ev (aa ao (k+2)) (.CW (.cmp .A2 (.idx (.v 1) (.k (.int 0))) (.k .aq)) (.k (.int 1)) (.k (.int 0))) σ M=.ok (.int (if dS v then 1 else 0)) M:=by
   have e1:ev (aa ao (k+2)) (.cmp .A2 (.idx (.v 1) (.k (.int 0))) (.k .aq)) σ M=.ok (.bl (dS v)) M:=by
    rw[cE,ix 0 v bQ,R.af];rfl
   rw[Aa,e1,R.af]
   cases dS v <;> rfl
  exact aN IB rfl ((aA a1).trans ((aA a2).trans (bK a3 (bH ec)))) (au rfl rfl)
 | @empty c t =>
  have q1:an w1 (dQ c t)=false:=by cases c <;> cases t <;> decide +kernel
  have q2:an w2 (dQ c t)=false:=by cases c <;> cases t <;> decide +kernel
  have q3:decide (dQ c t=w "none")=false:=by cases c <;> cases t <;> decide +kernel
  rw[show (Op.look c t).w=dQ c t from rfl] at a1 a2 a3
  rw[q1] at a1
  rw[q2] at a2
  rw[q3] at a3
  have ec:ev (aa ao (k+2)) (.call 6 (.cons (.v 0) (.cons (.idx (.v 1) (.k (.int 0))) .nil))) σ M=.exc 6 M:=by
   rw[bY,gn (x:=.str (dQ c t)) (M1:=M) rfl (gn (ix 0 .aq bQ) rfl),R.af]
   exact AD (tP (o:=.look c t))
  exact jd IB rfl ((aA a1).trans ((aA a2).trans ((aA a3).trans (qR ec)))) aX
 | @look c t wd sz a b ha hb =>
  have q1:an w1 (dQ c t)=false:=by cases c <;> cases t <;> decide +kernel
  have q2:an w2 (dQ c t)=false:=by cases c <;> cases t <;> decide +kernel
  have q3:decide (dQ c t=w "none")=false:=by cases c <;> cases t <;> decide +kernel
  have q4:([w "first", w "head"].any fun z=>decide (z=dQ c t))=!t:=by cases c <;> cases t <;> decide +kernel
  rw[show (Op.look c t).w=dQ c t from rfl] at a1 a2 a3
  rw[q1] at a1
  rw[q2] at a2
  rw[q3] at a3
  have ec:ev (aa ao (k+2)) (.call 6 (.cons (.v 0) (.cons (.idx (.v 1) (.k (.int 0))) .nil))) σ M=.ok (if t then b else a) M:=by
   rw[bY,gn (x:=.str (dQ c t)) (M1:=M) rfl (gn (ix 0 _ bQ) rfl),R.af,lu (wd:=dQ c t) q4 ha hb]
   cases t <;> rfl
  have hr:Vl (if t then b else a):=by cases t <;> assumption
  exact aN IB rfl ((aA a1).trans ((aA a2).trans ((aA a3).trans (bH ec)))) (au (hr.nr _) rfl)
end
end bz
end
section
namespace bz
open Fg PySem
inductive Kd where
 | num
 | pair (a b:Kd)
 | list (a:Kd)
noncomputable def Kd.d:Kd->D
 | .num=>.tup [.str (w "num")]
 | .pair a b=>.tup [.str (w "pair"), a.d, b.d]
 | .list a=>.tup [.str (w "list"), a.d]
mutual
inductive Pt where
 | num (i:Int)
 | uf (x:Str)
 | nil (k:Kd)
 | lt (x:Str) (a b:Pt)
 | ite (c a b:Pt)
 | op (o:Op) (ps:b6)
 | call (f:Str) (ps:b6)
inductive b6 where
 | nil
 | cons (p:Pt) (ps:b6)
end
mutual
noncomputable def Pt.d:Pt->D
 | .num i=>.tup [.str (w "number"), .int i]
 | .uf x=>.tup [.str (w "name"), .str x]
 | .nil k=>.tup [.str (w "nil"), k.d]
 | .lt x a b=>.tup [.str (w "let"), .str x, a.d, b.d]
 | .ite c a b=>.tup [.str (w "if"), c.d, a.d, b.d]
 | .op o ps=>.tup (.str o.w::ps.ds)
 | .call f ps=>.tup (.str (w "call")::.str f::ps.ds)
noncomputable def b6.ds:b6->List D
 | .nil=>[]
 | .cons p ps=>p.d::ps.ds
end
noncomputable def b6.l:b6->List Pt
 | .nil=>[]
 | .cons p ps=>p::ps.l
theorem Kd.nr{m:Nat}:∀k:Kd,Fg.nr m k.d=true
 | .num=>by simp[Kd.d,Fg.nr,fB]
 | .pair a b=>by simp[Kd.d,Fg.nr,fB,Kd.nr a,Kd.nr b]
 | .list a=>by simp[Kd.d,Fg.nr,fB,Kd.nr a]
mutual
theorem Pt.nr{m:Nat}:∀p:Pt,Fg.nr m p.d=true
 | .num i=>by simp[Pt.d,Fg.nr,fB]
 | .uf x=>by simp[Pt.d,Fg.nr,fB]
 | .nil k=>by simp[Pt.d,Fg.nr,fB,Kd.nr]
 | .lt x a b=>by simp[Pt.d,Fg.nr,fB,Pt.nr a,Pt.nr b]
 | .ite c a b=>by simp[Pt.d,Fg.nr,fB,Pt.nr c,Pt.nr a,Pt.nr b]
 | .op o ps=>by simp[Pt.d,Fg.nr,fB,b6.nr ps]
 | .call f ps=>by simp[Pt.d,Fg.nr,fB,b6.nr ps]
theorem b6.nr{m:Nat}:∀ps:b6,fB m ps.ds=true
 | .nil=>by simp[b6.ds,fB]
 | .cons p ps=>by simp[b6.ds,fB,Pt.nr p,b6.nr ps]
end
structure Fd where
 nm:Str
 tk:List (Str×Kd)
 gv:Kd
 bd:Pt
noncomputable def Fd.d(f:Fd):D:=.tup [.str f.nm,.lst (f.tk.map fun t=>.tup [.str t.1,t.2.d]),f.gv.d,f.bd.d]
noncomputable def JA:D:=.dct [.inr (w "plus"), .inr (w "minus"), .inr (w "times"), .inr (w "less"), .inr (w "pair"), .inr (w "first"), .inr (w "second"), .inr (w "cons"), .inr (w "head"), .inr (w "tail"), .inr (w "none"), .inr (w "if")] [.int 2, .int 2, .int 2, .int 2, .int 2, .int 1, .int 1, .int 2, .int 1, .int 1, .int 1, .int 3]
theorem gl0:ao.glob 0=some JA:=rfl
noncomputable def pb(z:Str):Bool:=match zA [] (.str z) JA with | some t=>t | none=>false
section
variable{M:MH}{k n:Nat}{Φ:aZ}{σ:Sg}{e:E}
theorem E9{z:Str}(he:ev (aa ao k) e σ M=.ok (.str z) M):ev (aa ao k) (.cmp .isin e (.g 0)) σ M=.ok (.bl (pb z)) M:=by
 rw[cE,he,R.af,LQ,kK,gl0]
 show bF .isin M (.str z) JA=_
 have e1:zA M (.str z) JA=zA [] (.str z) JA:=rfl
 have e2:zA [] (.str z) JA=some (pb z):=rfl
 simp only[bF,e1,e2]
theorem cut1{x:D}{xs:List D}:c7 (x::xs) (some 1) none=xs:=by
 simp[c7,six]
theorem cut2{x y:D}{xs:List D}:c7 (x::y::xs) (some 2) none=xs:=by
 simp[c7,six]
theorem kM{z:Str}{xs:List D}(hz:pb z=true)(hn:fB M.length xs=true):(aa ao (k+1)).call 0 [.tup (.str z::xs)] M=.ok (.tup xs) M:=by
 have e1:ev (aa ao k) (.idx (.v 0) (.k (.int 0))) [some (.tup (.str z::xs)),none] M=.ok (.str z) M:=aM rfl rfl bQ
 have e2:ev (aa ao k) (.cmp .isin (.v 1) (.g 0)) [some (.tup (.str z::xs)),some (.str z)] M=.ok (.bl true) M:=by rw[E9 (z:=z) rfl,hz]
 have e3:ev (aa ao k) (.sl true (.v 0) (.some (.k (.int 1))) .none) [some (.tup (.str z::xs)),some (.str z)] M=.ok (.tup xs) M:=by
  show (if jk (xs.length+1) (some 1) none then R.bad else R.ok (D.tup (c7 (D.str z::xs) (some 1) none)) M)=_
  rw[C7,cut1];rfl
 exact aN fn0 rfl ((aP e1).trans (bK e2 (bH e3))) (au (by simp only[nr,hn]) rfl)
noncomputable def w3:List Str:=[w "let", w "call"]
theorem kL{z:Str}{y:D}{xs:List D}(hz:pb z=false)(hz2:an w3 z=true)(hn:fB M.length xs=true):(aa ao (k+1)).call 0 [.tup (.str z::y::xs)] M=.ok (.tup xs) M:=by
 have e1:ev (aa ao k) (.idx (.v 0) (.k (.int 0))) [some (.tup (.str z::y::xs)),none] M=.ok (.str z) M:=aM rfl rfl bQ
 have e2:ev (aa ao k) (.cmp .isin (.v 1) (.g 0)) [some (.tup (.str z::y::xs)),some (.str z)] M=.ok (.bl false) M:=by rw[E9 (z:=z) rfl,hz]
 have e4:ev (aa ao k) (.cmp .isin (.v 1) (.tup (E3 w3))) [some (.tup (.str z::y::xs)),some (.str z)] M=.ok (.bl true) M:=mC (c:=z) rfl hz2
 have e3:ev (aa ao k) (.sl true (.v 0) (.some (.k (.int 2))) .none) [some (.tup (.str z::y::xs)),some (.str z)] M=.ok (.tup xs) M:=by
  show (if jk (xs.length+1+1) (some 2) none then R.bad else R.ok (D.tup (c7 (D.str z::y::xs) (some 2) none)) M)=_
  rw[C6,cut2];rfl
 exact aN fn0 rfl ((aP e1).trans ((aA e2).trans (bK e4 (bH e3)))) (au (by simp only[nr,hn]) rfl)
theorem EA{o:Op}:pb o.w=true:=by
 cases o with
 | rk o=>cases o <;> decide +kernel
 | lay c=>cases c <;> decide +kernel
 | look c t=>cases c <;> cases t <;> decide +kernel
 | none=>decide +kernel
end
noncomputable def aF(z:Str)(p en:D):D:=.tup [.str z,p,en]
section
variable{M0:MH}{s:Px}{p:List D}{t k:Nat}{Φ:aZ}{σ:Sg}{e e':E}{x y en v:D}{kvs:List (Ky×D)}
theorem Mr{z:Str}(hl:s.todo.length<line):(aa ao (k+1)).call 12 [.ref M0.length,.str z,x,en] (s.h M0)=.ok .aq (({ s with todo:=s.todo++[aF z x en] }:Px).h M0):=by
 have e1:=Aj (Φ:=aa ao k) (e:=.fld (.v 0) (w "todo")) (e':=.tup (.cons (.v 1) (.cons (.v 2) (.cons (.v 3) .nil)))) (σ:=[some (.ref M0.length), some (.str z), some x, some en]) (rX (s:=s) (i:=0) rfl) g1 rfl g1 hl
 rw[s1] at e1
 exact d8 fn12 rfl ((cI e1).trans rfl) (au (by simp[nr]) (by rw[len,len]))
theorem jr{z:Str}{s':Px}(h:σ[0]? = some (some (.ref M0.length)))(hx:ev (aa ao (k+1)) e σ (s.h M0)=.ok x (s.h M0))(hn:ev (aa ao (k+1)) e' σ (s.h M0)=.ok en (s'.h M0))(hl:s'.todo.length<line):ev (aa ao (k+1)) (.cZ 0 12 (w "put_off") (.v 0) (.cons (.k (.str z)) (.cons e (.cons e' .nil)))) σ (s.h M0)=.ok .aq (({ s' with todo:=s'.todo++[aF z x en] }:Px).h M0):=by
 rw[u_ h (by decide +kernel),gn (x:=.str z) rfl (gn hx (gn hn rfl)),R.af]
 exact Mr hl
noncomputable def bg5:Ss:=.cons (.ex (.cZ 0 12 (w "put_off") (.v 0) (.cons (.k (.str (w "end"))) (.cons (.v 1) (.cons (.v 2) .nil))))) (.cons (.for [4] (.rev (.call 0 (.cons (.v 1) .nil))) (.cons (.ex (.cZ 0 12 (w "put_off") (.v 0) (.cons (.k (.str (w "begin"))) (.cons (.v 4) (.cons (.v 2) .nil))))) .nil)) .nil)
noncomputable def bg4:Ss:=.cons (.ex (.cZ 0 12 (w "put_off") (.v 0) (.cons (.k (.str (w "go on"))) (.cons (.v 1) (.cons (.v 2) .nil))))) (.cons (.ex (.cZ 0 12 (w "put_off") (.v 0) (.cons (.k (.str (w "begin"))) (.cons (.idx (.call 0 (.cons (.v 1) .nil)) (.k (.int 0))) (.cons (.v 2) .nil))))) .nil)
noncomputable def w4:List Str:=[w "let", w "if"]
noncomputable def bgT3:Ss:=.cons (.ifs (.cmp .isin (.v 3) (.tup (E3 w4))) bg4 bg5) .nil
noncomputable def bg3:Ss:=.cons (.ex (.eU .append true (.fld (.v 0) (w "waiting")) (.cons (.k .aq) .nil))) .nil
noncomputable def bgT2:Ss:=.cons (.ifs (.cmp .eq (.v 3) (.k (.str (w "nil")))) bg3 bgT3) .nil
noncomputable def bg2:Ss:=.cons (.ex (.eU .append true (.fld (.v 0) (w "waiting")) (.cons (.idx (.v 2) (.idx (.v 1) (.k (.int 1)))) .nil))) .nil
noncomputable def My:Ss:=.cons (.ifs (.cmp .eq (.v 3) (.k (.str (w "name")))) bg2 bgT2) .nil
noncomputable def bg1:Ss:=.cons (.ex (.eU .append true (.fld (.v 0) (w "waiting")) (.cons (.idx (.v 1) (.k (.int 1))) .nil))) .nil
theorem sC:br.body=.cons (.set 3 (.idx (.v 1) (.k (.int 0)))) (.cons (.ifs (.cmp .eq (.v 3) (.k (.str (w "number")))) bg1 My) .nil):=rfl
noncomputable abbrev sB(n:Nat)(z:Str)(xs:List D)(en:D)(o:Option D):Sg:=[some (.ref n),some (.tup (.str z::xs)),some en,some (.str z),o]
theorem kN{z:Str}{xs:List D}:exs Φ br.body [some (.ref M0.length), some (.tup (.str z::xs)), some en, none, none] (s.h M0)=exs Φ (.cons (.ifs (.cmp .eq (.v 3) (.k (.str (w "number")))) bg1 My) .nil) (sB M0.length z xs en none) (s.h M0):=by
 rw[sC];exact aP (aM rfl rfl bQ)
theorem FL{i:Int}(hl:s.wt.length<line):(aa ao (k+1)).call 13 [.ref M0.length,(Pt.num i).d,en] (s.h M0)=.ok .aq (({ s with wt:=s.wt++[.int i] }:Px).h M0):=by
 have e1:=sf (Φ:=aa ao k) (M0:=M0) (s:=s) (s':=s) (i:=0) (σ:=sB M0.length (w "number") [.int i] en none) (e:=.idx (.v 1) (.k (.int 1))) (d:=.int i) rfl (aM rfl rfl iJ) hl
 exact d8 zN rfl (kN.trans ((jU (bO rfl (by decide +kernel))).trans ((cI e1).trans rfl))) (au (by simp[nr]) (by rw[len,len]))
theorem FO{z:Str}(ht:s.T[t]? = some (.dct kvs))(hv:look kvs (.inr z)=some v)(hl:s.wt.length<line):(aa ao (k+1)).call 13 [.ref M0.length,(Pt.uf z).d,.ref (M0.length+(t+3))] (s.h M0)=.ok .aq (({ s with wt:=s.wt++[v] }:Px).h M0):=by
 have e1:=sf (Φ:=aa ao k) (M0:=M0) (s:=s) (s':=s) (i:=0) (σ:=sB M0.length (w "name") [.str z] (.ref (M0.length+(t+3))) none) (e:=.idx (.v 2) (.idx (.v 1) (.k (.int 1)))) (d:=v) rfl (L8 rfl (aM rfl rfl iJ) (gT.trans ht) hv) hl
 exact d8 zN rfl (kN.trans ((cN (bO rfl (by decide +kernel))).trans ((jU (bO rfl (by decide +kernel))).trans ((cI e1).trans rfl)))) (au (by simp[nr]) (by rw[len,len]))
theorem FN{kd:Kd}(hl:s.wt.length<line):(aa ao (k+1)).call 13 [.ref M0.length,(Pt.nil kd).d,en] (s.h M0)=.ok .aq (({ s with wt:=s.wt++[.aq] }:Px).h M0):=by
 have e1:=sf (Φ:=aa ao k) (M0:=M0) (s:=s) (s':=s) (i:=0) (σ:=sB M0.length (w "nil") [kd.d] en none) (e:=.k .aq) (d:=.aq) rfl rfl hl
 exact d8 zN rfl (kN.trans ((cN (bO rfl (by decide +kernel))).trans ((cN (bO rfl (by decide +kernel))).trans ((jU (bO rfl (by decide +kernel))).trans ((cI e1).trans rfl))))) (au (by simp[nr]) (by rw[len,len]))
theorem FP{z:Str}{xs ys:List D}(h1:decide (z=w "number")=false)(h2:decide (z=w "name")=false)(h3:decide (z=w "nil")=false)(h4:an w4 z=true)(hi:∀M, (s.h M0).length=M.length->(aa ao (k+1)).call 0 [.tup (.str z::xs)] M=.ok (.tup (x::ys)) M)(hl:s.todo.length+1<line) :
  (aa ao (k+2)).call 13 [.ref M0.length, .tup (.str z::xs), en] (s.h M0)=.ok .aq (({ s with todo:=s.todo++[aF (w "go on") (.tup (.str z::xs)) en]++[aF (w "begin") x en] }:Px).h M0):=by
 have e1:=jr (k:=k) (M0:=M0) (s:=s) (s':=s) (σ:=sB M0.length z xs en none) (z:=w "go on") (e:=.v 1) (e':=.v 2) (x:=.tup (.str z::xs)) (en:=en) rfl rfl rfl (by omega)
 have e2:=jr (k:=k) (M0:=M0) (s:={ s with todo:=s.todo++[aF (w "go on") (.tup (.str z::xs)) en] }) (s':={ s with todo:=s.todo++[aF (w "go on") (.tup (.str z::xs)) en] }) (σ:=sB M0.length z xs en none) (z:=w "begin") (e:=.idx (.call 0 (.cons (.v 1) .nil)) (.k (.int 0))) (e':=.v 2) (x:=x) (en:=en) rfl (aM ((bP rfl).trans (hi _ (by rw[len, len]))) rfl bQ) rfl (by simp;omega)
 exact d8 zN rfl (kN.trans ((cN (bO rfl h1)).trans ((cN (bO rfl h2)).trans ((cN (bO rfl h3)).trans ((jU (mC (c:=z) rfl h4)).trans ((cI e1).trans ((cI e2).trans rfl))))))) (au (by simp[nr]) (by rw[len,len]))
theorem qK{c a b:Pt}(hl:s.todo.length+1<line):(aa ao (k+2)).call 13 [.ref M0.length, (Pt.ite c a b).d, en] (s.h M0)=.ok .aq (({ s with todo:=s.todo++[aF (w "go on") (Pt.ite c a b).d en]++[aF (w "begin") c.d en] }:Px).h M0):=by
 have:(Pt.ite c a b).d=.tup (.str (w "if")::[c.d, a.d, b.d]):=by rw[Pt.d]
 rw[this]
 exact FP (by decide +kernel) (by decide +kernel) (by decide +kernel) (by decide +kernel) (fun M _=>kM (by decide +kernel) (by simp[fB,c.nr,a.nr,b.nr])) hl
theorem yS{z:Str}{xs:List D}{ch:MH->Bool}(hch:∀M,ch M=true):∀(ds:List D) (s:Px) (o:Option D),s.todo.length+ds.length<line ->
  ∃o', bh (exs (aa ao (k+1)) (.cons (.ex (.cZ 0 12 (w "put_off") (.v 0) (.cons (.k (.str (w "begin"))) (.cons (.v 4) (.cons (.v 2) .nil))))) .nil)) [4] ch ds (sB M0.length z xs en o) (s.h M0)=.ok (.nx (sB M0.length z xs en o')) (({ s with todo:=s.todo++ds.map fun d=>aF (w "begin") d en }:Px).h M0)
 | [],s,o,_=>⟨o,by rw[List.map_nil,List.append_nil];rfl⟩
 | d::ds,s,o,hl=>by
  simp only[List.length_cons] at hl
  obtain⟨o', q⟩:=yS hch ds { s with todo:=s.todo++[aF (w "begin") d en] } (some d) (by simp;omega)
  have e1:=jr (k:=k) (M0:=M0) (s:=s) (s':=s) (σ:=sB M0.length z xs en (some d)) (z:=w "begin") (e:=.v 4) (e':=.v 2) (x:=d) (en:=en) rfl rfl rfl (by omega)
  refine⟨o',?_⟩
  rw[bh]
  show ((exs (aa ao (k+1)) _ (sB M0.length z xs en (some d)) (s.h M0)).bind _)=_
  rw[cI e1]
  show (if ch _ then _ else _)=_
  rw[if_pos (hch _),q]
  simp
theorem sZ{z:Str}{xs ys:List D}(h1:decide (z=w "number")=false)(h2:decide (z=w "name")=false)(h3:decide (z=w "nil")=false)(h4:an w4 z=false)(hi:∀M, (aa ao (k+1)).call 0 [.tup (.str z::xs)] M=.ok (.tup ys) M)(hl:s.todo.length+1+ys.length<line) :
  (aa ao (k+2)).call 13 [.ref M0.length, .tup (.str z::xs), en] (s.h M0)=.ok .aq (({ s with todo:=s.todo++[aF (w "end") (.tup (.str z::xs)) en]++ys.reverse.map fun d=>aF (w "begin") d en }:Px).h M0):=by
 have e1:=jr (k:=k) (M0:=M0) (s:=s) (s':=s) (σ:=sB M0.length z xs en none) (z:=w "end") (e:=.v 1) (e':=.v 2) (x:=.tup (.str z::xs)) (en:=en) rfl rfl rfl (by omega)
 have hv:bA (aa ao (k+1)) (.rev (.call 0 (.cons (.v 1) .nil))) (sB M0.length z xs en none) (({ s with todo:=s.todo++[aF (w "end") (.tup (.str z::xs)) en] }:Px).h M0)=.ok (.aq, ys.reverse, false) (({ s with todo:=s.todo++[aF (w "end") (.tup (.str z::xs)) en] }:Px).h M0):=by
  rw[Dh, (bP (d:=.tup (.str z::xs)) (M1:=({ s with todo:=s.todo++[aF (w "end") (.tup (.str z::xs)) en] }:Px).h M0) rfl).trans (hi _)];rfl
 obtain⟨o', q⟩:=yS (k:=k) (M0:=M0) (z:=z) (xs:=xs) (en:=en) (ch:=aO (({ s with todo:=s.todo++[aF (w "end") (.tup (.str z::xs)) en] }:Px).h M0) .aq) (fun _=>rfl) ys.reverse { s with todo:=s.todo++[aF (w "end") (.tup (.str z::xs)) en] } none (by simp;omega)
 exact d8 zN rfl (kN.trans ((cN (bO rfl h1)).trans ((cN (bO rfl h2)).trans ((cN (bO rfl h3)).trans ((cN (mC (c:=z) rfl h4)).trans ((cI e1).trans ((xS hv q).trans rfl))))))) (au (by simp[nr]) (by rw[len,len]))
theorem xA{o:Op}{ps:b6}(hl:s.todo.length+1+ps.ds.length<line):(aa ao (k+2)).call 13 [.ref M0.length, (Pt.op o ps).d, en] (s.h M0)=.ok .aq (({ s with todo:=s.todo++[aF (w "end") (Pt.op o ps).d en]++ps.ds.reverse.map fun d=>aF (w "begin") d en }:Px).h M0):=by
 have:(Pt.op o ps).d=.tup (.str o.w::ps.ds):=by rw[Pt.d]
 rw[this]
 have q:decide (o.w=w "number")=false/\decide (o.w=w "name")=false/\decide (o.w=w "nil")=false/\an w4 o.w=false:=by
  cases o with
  | rk o=>cases o <;> decide +kernel
  | lay c=>cases c <;> decide +kernel
  | look c t=>cases c <;> cases t <;> decide +kernel
  | none=>decide +kernel
 exact sZ q.1 q.2.1 q.2.2.1 q.2.2.2 (fun M=>kM EA ps.nr) hl
theorem ia{f:Str}{ps:b6}(hl:s.todo.length+1+ps.ds.length<line):(aa ao (k+2)).call 13 [.ref M0.length, (Pt.call f ps).d, en] (s.h M0)=.ok .aq (({ s with todo:=s.todo++[aF (w "end") (Pt.call f ps).d en]++ps.ds.reverse.map fun d=>aF (w "begin") d en }:Px).h M0):=by
 have:(Pt.call f ps).d=.tup (.str (w "call")::.str f::ps.ds):=by rw[Pt.d]
 rw[this]
 exact sZ (by decide +kernel) (by decide +kernel) (by decide +kernel) (by decide +kernel) (fun M=>kL (by decide +kernel) (by decide +kernel) ps.nr) hl
end
end bz
end
section
namespace bz
open Fg PySem
section
variable{M0 M M1 M2:MH}{s s':Px}{p xs:List D}{t k n:Nat}{Φ:aZ}{σ:Sg}{e e' a b:E}{x y en v d:D}{kvs:List (Ky×D)}{ss:Ss}
theorem L5{i j:Int}(he:ev Φ e σ M=.ok (.int i) M1):ev Φ (.cmp .ne e (.k (.int j))) σ M=.ok (.bl (!decide (i=j))) M1:=by
 rw[cE,he,R.af,kD,R.af]
 simp[bF,AH,yJ,top,cA,Fg.plain,dep]
theorem IZ{z u:Str}(he:ev Φ e σ M=.ok (.str z) M1)(hx:ev Φ e' σ M1=.ok (.str u) M2):ev Φ (.cmp .eq e e') σ M=.ok (.bl (decide (z=u))) M2:=by
 rw[cE,he,R.af,hx,R.af]
 simp[bF,AH,N1,cA,top,Fg.plain,dep]
theorem G9{M:MH}{n:Nat}(h:M[n]? = some (.lst xs)):nj .reverse M (.ref n)=true:=by simp only[nj,ck h,Option.isSome_some,Bool.and_self]
theorem L4(he:ev Φ e σ M=.ok (.ref n) M1)(h:M1[n]? = some (.lst xs)):ev Φ (.eU .reverse true e .nil) σ M=.ok .aq (M1.set n (.lst xs.reverse)):=by
 simp only[i7,he,R.af,G9 h,if_true,fZ,gM,ck h,pF,List.isEmpty_nil]
theorem Ef{c q r:Pt}{i:Int}(hw:s.wt=p++[.int i])(hl:s.todo.length<line) :
  (aa ao (k+2)).call 14 [.ref M0.length, (Pt.ite c q r).d, en] (s.h M0)=.ok .aq (({ s with wt:=p, todo:=s.todo++[aF (w "begin") (if i=0 then r.d else q.d) en] }:Px).h M0):=by
 have ed:(Pt.ite c q r).d=.tup [.str (w "if"), c.d, q.d, r.d]:=by rw[Pt.d]
 rw[ed]
 let P:D:=.tup [.str (w "if"), c.d, q.d, r.d]
 have e1:=Ah (Φ:=aa ao (k+1)) (M0:=M0) (s:=s) (σ:=[some (.ref M0.length),some P,some en,none,none]) (i:=0) rfl hw
 have c1:ev (aa ao (k+1)) (.cmp .eq (.idx (.v 1) (.k (.int 0))) (.k (.str (w "let")))) [some (.ref M0.length), some P, some en, some (.int i), none] (({ s with wt:=p }:Px).h M0)=.ok (.bl false) (({ s with wt:=p }:Px).h M0):=bO (c:=w "if") (aM rfl rfl bQ) (by decide +kernel)
 have c2:ev (aa ao (k+1)) (.cmp .ne (.v 3) (.k (.int 0))) [some (.ref M0.length),some P,some en,some (.int i),none] (({ s with wt:=p }:Px).h M0)=.ok (.bl (!decide (i=0))) (({ s with wt:=p }:Px).h M0):=L5 rfl
 by_cases h:i=0
 ·rw[decide_eq_true h] at c2
  rw[if_pos h]
  have e4:=jr (k:=k) (M0:=M0) (s:={ s with wt:=p }) (s':={ s with wt:=p }) (σ:=[some (.ref M0.length), some P, some en, some (.int i), none]) (z:=w "begin") (e:=.idx (.v 1) (.k (.int 3))) (e':=.v 2) (x:=r.d) (en:=en) rfl (aM rfl rfl vc) rfl hl
  exact d8 LI rfl ((aP e1).trans ((cN c1).trans ((cN c2).trans ((cI e4).trans rfl)))) (au (by simp[nr]) (by rw[len,len]))
 ·rw[decide_eq_false h] at c2
  rw[if_neg h]
  have e4:=jr (k:=k) (M0:=M0) (s:={ s with wt:=p }) (s':={ s with wt:=p }) (σ:=[some (.ref M0.length), some P, some en, some (.int i), none]) (z:=w "begin") (e:=.idx (.v 1) (.k (.int 2))) (e':=.v 2) (x:=q.d) (en:=en) rfl (aM rfl rfl qj) rfl hl
  exact d8 LI rfl ((aP e1).trans ((cN c1).trans ((jU c2).trans ((cI e4).trans rfl)))) (au (by simp[nr]) (by rw[len,len]))
end
end bz
end
section
namespace bz
open Fg PySem
section
variable{M0 M M1 M2:MH}{s s':Px}{p xs:List D}{t k n:Nat}{Φ:aZ}{σ:Sg}{e e' a b:E}{x y en v d:D}{kvs:List (Ky×D)}{ss:Ss}
theorem yV{ch:MH->Bool}(hch:∀M,ch M=true):∀(xs ds:List D) (s:Px) (o:Option D) (acc:List D),ds.length=xs.length->s.wt=p++xs.reverse->acc.length+xs.length<=line ->
  bU (qw Φ .none) (ev Φ (.eU .pop true (.fld (.v 0) (w "waiting")) .nil)) [1] ch ds [some (.ref M0.length), o] (s.h M0) acc=.ok (acc++xs) (({ s with wt:=p }:Px).h M0)
 | [],[],s,o,acc,_,hp,_=>by
  rw[List.reverse_nil,List.append_nil] at hp
  rw[List.append_nil,bU,<- hp]
 | x::xs,d::ds,s,o,acc,hd,hp,hl=>by
  rw[List.reverse_cons,<- List.append_assoc] at hp
  simp only[List.length_cons] at hd hl
  rw[yW (Φ:=Φ) (σ:=[some (.ref M0.length),o]) (Ah (Φ:=Φ) (σ:=[some (.ref M0.length),some d]) (M0:=M0) (i:=0) rfl hp) (hch _) (by omega)]
  rw[show ([some (.ref M0.length),o]:Sg).set 1 (some d)=[some (.ref M0.length),some d] from rfl,yV hch xs ds { s with wt:=p++xs.reverse } (some d) (acc++[x]) (by omega) rfl (by simp;omega)]
  rw[List.append_assoc];rfl
 | [],_::_,_,_,_,hd,_,_=>by simp at hd
 | _::_,[],_,_,_,hd,_,_=>by simp at hd
theorem nR{z:Str}{qs ys vs:List D}{sb:Ss}(hi:∀M,(aa ao (k+1)).call 0 [.tup (.str z::qs)] M=.ok (.tup ys) M)(hy:ys.length=vs.length)(hw:s.wt=p++vs)(hl:vs.length<=line) :
  exs (aa ao (k+1)) (.cons (.set 2 (.comp false [0] [1] (.eU .pop true (.fld (.v 0) (w "waiting")) .nil) (.e (.call 0 (.cons (.v 1) .nil))) .none)) (.cons (.ex (.eU .reverse true (.v 2) .nil)) sb)) [some (.ref M0.length), some (.tup (.str z::qs)), none] (s.h M0) =
   exs (aa ao (k+1)) sb [some (.ref M0.length),some (.tup (.str z::qs)),some (.ref (M0.length+(s.T.length+3)))] (({ s with wt:=p,T:=s.T++[.lst vs] }:Px).h M0):=by
 have hi2:bA (aa ao (k+1)) (.e (.call 0 (.cons (.v 1) .nil))) [some (.ref M0.length),some (.tup (.str z::qs)),none] (s.h M0)=.ok (.tup ys,ys,false) (s.h M0):=by
  rw[zY,(bP (d:=.tup (.str z::qs)) (M1:=s.h M0) rfl).trans (hi _)];rfl
 have e1:=Ja (Φ:=aa ao (k+1)) (caps:=[0]) (tg:=[1]) hi2 (yV (Φ:=aa ao (k+1)) (M0:=M0) (p:=p) (ch:=aO (s.h M0) (.tup ys)) (fun _=>rfl) vs.reverse ys s none [] (by rw[List.length_reverse];exact hy) (by rw[List.reverse_reverse];exact hw) (by simpa using hl))
 rw[List.nil_append,show (({ s with wt:=p }:Px).h M0).length=M0.length+(s.T.length+3) from len,app] at e1
 have gl:(({ s with wt:=p,T:=s.T++[.lst vs.reverse] }:Px).h M0)[M0.length+(s.T.length+3)]? = some (.lst vs.reverse):=gT.trans (by show (s.T++[MO.lst vs.reverse])[s.T.length]? = _;simp)
 have e2:=L4 (Φ:=aa ao (k+1)) (e:=.v 2) (σ:=[some (.ref M0.length),some (.tup (.str z::qs)),some (.ref (M0.length+(s.T.length+3)))]) (M:=({ s with wt:=p,T:=s.T++[.lst vs.reverse] }:Px).h M0) rfl gl
 rw[sT,List.reverse_reverse] at e2
 have es:(s.T++[MO.lst vs.reverse]).set s.T.length (.lst vs)=s.T++[.lst vs]:=by rw[List.set_append_right _ _ (Nat.le_refl _),Nat.sub_self];rfl
 refine (aP e1).trans ((cI e2).trans ?_)
 show exs (aa ao (k+1)) sb _ (Px.h { s with wt:=p,T:=(s.T++[MO.lst vs.reverse]).set s.T.length (.lst vs) } M0)=_
 rw[es]
theorem c9{kp:Bool}{M M':MH}{d:D}(i:Nat)(hi:i<M.length)(h:M'[i]?≠M[i]?):gf kp M d M'=.ok d M':=by
 unfold gf
 rw[if_neg]
 rintro ⟨_,hh⟩
 apply h
 have:=congrArg (fun m=>m[i]?) hh
 simpa only[List.getElem?_take_of_lt hi] using this
theorem tU{M M':MH}{c:Nat}(i:Nat)(hi:i<M.length)(h:M'[i]?≠M[i]?):o5 M c M'=.exc c M':=by
 unfold o5
 rw[if_neg]
 intro hh
 apply h
 have:=congrArg (fun m=>m[i]?) hh
 simpa only[List.getElem?_take_of_lt hi] using this
theorem xB{o:Op}{ps:b6}{vs:List D}{r:Cz}(hc:dO o vs r)(hy:ps.ds.length=vs.length)(hw:s.wt=p++vs)(hl:s.wt.length<line)(hvs:vs≠[]) :
  ∃Y,(aa ao (k+4)).call 15 [.ref M0.length,(Pt.op o ps).d] (s.h M0)=(match r with
   | .ok v=>.ok .aq (({ s with wt:=p++[v],T:=s.T++Y }:Px).h M0)
   | .exc c=>.exc c (({ s with wt:=p,T:=s.T++Y }:Px).h M0)):=by
 have ed:(Pt.op o ps).d=.tup (.str o.w::ps.ds):=by rw[Pt.d]
 have hlen:vs.length<=line/\p.length<line:=by rw[hw,List.length_append] at hl;omega
 have pre:=nR (k:=k+2) (M0:=M0) (s:=s) (p:=p) (z:=o.w) (qs:=ps.ds) (ys:=ps.ds) (vs:=vs) (sb:=.cons (.ifs (.cmp .eq (.idx (.v 1) (.k (.int 0))) (.k (.str (w "call")))) (.cons (.ex (.cZ 0 16 (w "call") (.v 0) (.cons (.idx (.v 1) (.k (.int 1))) (.cons (.v 2) .nil)))) .nil) (.cons (.ex (.eU .append true (.fld (.v 0) (w "waiting")) (.cons (.call 7 (.cons (.idx (.v 1) (.k (.int 0))) (.cons (.v 2) .nil))) .nil))) .nil)) .nil) (fun M=>kM EA ps.nr) hy hw hlen.1
 have q:decide (o.w=w "call")=false:=by
  cases o with
  | rk o=>cases o <;> decide +kernel
  | lay c=>cases c <;> decide +kernel
  | look c t=>cases c <;> cases t <;> decide +kernel
  | none=>decide +kernel
 let s2:Px:={ s with wt:=p,T:=s.T++[.lst vs] }
 let σ2:Sg:=[some (.ref M0.length),some (.tup (.str o.w::ps.ds)),some (.ref (M0.length+(s.T.length+3)))]
 have c1:ev (aa ao (k+3)) (.cmp .eq (.idx (.v 1) (.k (.int 0))) (.k (.str (w "call")))) σ2 (s2.h M0)=.ok (.bl false) (s2.h M0):=bO (aM rfl rfl bQ) q
 have gl:(s2.h M0)[M0.length+(s.T.length+3)]? = some (.lst vs):=gT.trans (by show (s.T++[MO.lst vs])[s.T.length]? = _;simp)
 have ec:ev (aa ao (k+3)) (.call 7 (.cons (.idx (.v 1) (.k (.int 0))) (.cons (.v 2) .nil))) σ2 (s2.h M0)=r.r (s2.h M0):=by
  rw[bY,kC (x:=.str o.w) (y:=.ref (M0.length+(s.T.length+3))) (M1:=s2.h M0) (M2:=s2.h M0) (aM rfl rfl bQ) rfl,R.af]
  exact Ji hc gl
 rw[ed]
 have nw:∀{x:List D},x≠p++vs->some (MO.lst x)≠(s.h M0)[M0.length+2]?:=fun h z=>by
  rw[g2,hw] at z
  exact h (MO.lst.inj (Option.some.inj z))
 have hpv:p≠p++vs:=fun h=>by
  have:=congrArg List.length h
  rw[List.length_append] at this
  exact hvs (List.length_eq_zero_iff.mp (by omega))
 have h2:M0.length+2<(s.h M0).length:=by rw[len];omega
 cases r with
 | ok v =>
  have e5:=Aj (Φ:=aa ao (k+3)) (σ:=σ2) (e:=.fld (.v 0) (w "waiting")) (nI (s:=s2) (M0:=M0) (i:=0) rfl) g2 ec g2 (show p.length<line from hlen.2)
  rw[bz.s2] at e5
  have body:=pre.trans ((cN c1).trans ((cI e5).trans rfl))
  by_cases hk:(Px.h { s with wt:=p++[v],T:=s.T++[.lst vs] } M0).take (s.h M0).length=s.h M0
  ·refine⟨[],?_⟩
   have hz:=congrArg (fun m=>m[M0.length+2]?) hk
   simp only[List.getElem?_take_of_lt h2,g2] at hz
   have e6:p++[v]=s.wt:=MO.lst.inj (Option.some.inj hz)
   have e7:({ s with wt:=p++[v],T:=s.T++[] }:Px)=s:=by rw[e6,List.append_nil]
   show _=R.ok D.aq (Px.h { s with wt:=p++[v],T:=s.T++[] } M0)
   rw[e7]
   exact d8 wc rfl body ((if_pos ⟨rfl,hk⟩).trans (if_pos rfl))
  ·exact⟨[.lst vs],d8 wc rfl body (if_neg fun z=>hk z.2)⟩
 | exc c =>
  have e5:=Jb (Φ:=aa ao (k+3)) (σ:=σ2) (e:=.fld (.v 0) (w "waiting")) (nI (s:=s2) (M0:=M0) (i:=0) rfl) g2 ec
  refine⟨[.lst vs],jd wc rfl (pre.trans ((cN c1).trans (lS e5))) ?_⟩
  exact tU (M0.length+2) h2 (by rw[g2];exact nw hpv)
end
end bz
end
section
namespace bz
open Fg PySem
theorem Fd.nr{m:Nat}(f:Fd):Fg.nr m f.d=true:=by
 have h:fB m (f.tk.map fun t=>D.tup [.str t.1,t.2.d])=true:=by
  generalize f.tk=l
  induction l with
  | nil=>simp[fB]
  | cons t l ih=>simp[fB,Fg.nr,Kd.nr,ih]
 simp[Fd.d,Fg.nr,fB,h,Kd.nr,Pt.nr]
noncomputable def envOf:List (Ky×D)->List Str->List D->List (Ky×D)
 | kvs,x::xs,v::vs=>envOf (put kvs (.inr x) v) xs vs
 | kvs,_,_=>kvs
theorem uL:∀(xs:List Str) (vs:List D) (kvs:List (Ky×D)),wQ kvs (xs.map D.str) vs=some (envOf kvs xs vs)
 | [],vs,kvs=>by simp[wQ,envOf]
 | x::xs,[],kvs=>by simp[wQ,envOf]
 | x::xs,v::vs,kvs=>by
  simp only[List.map_cons,wQ,keyOf,envOf]
  exact uL xs vs _
section
variable{M0 M M1 M2:MH}{s s':Px}{p xs:List D}{t k n:Nat}{Φ:aZ}{σ:Sg}{e e' a b:E}{x y en v d gv:D}{kvs:List (Ky×D)}{ss:Ss}
noncomputable def NN:Ss:=.cons (.ifs (.cmp .eq (.idx (.v 2) (.k (.int 0))) (.v 1)) (.cons (.ret (.v 2)) .nil) .nil) .nil
theorem uA{P:D}{z:Str}{ch:MH->Bool}(hch:ch M=true):∀(fs:List Fd) (f:Fd) (o:Option D),fs.find? (fun g=>decide (g.nm=z))=some f->bh (exs Φ NN) [2] ch (fs.map Fd.d) [some P,some (.str z),o] M=.ok (.rt f.d) M
 | [],f,o,h=>by simp at h
 | g::fs,f,o,h=>by
  have c1:ev Φ (.cmp .eq (.idx (.v 2) (.k (.int 0))) (.v 1)) [some P,some (.str z),some g.d] M=.ok (.bl (decide (g.nm=z))) M:=IZ (aM rfl rfl bQ) rfl
  rw[List.map_cons,bh]
  show ((exs Φ NN [some P,some (.str z),some g.d] M).bind _)=_
  by_cases hz:g.nm=z
  ·rw[decide_eq_true hz] at c1
   rw[List.find?_cons_of_pos (by simpa using hz)] at h
   cases h
   rw[NN,bK c1 (bH rfl)];rfl
  ·rw[decide_eq_false hz] at c1
   rw[List.find?_cons_of_neg (by simpa using hz)] at h
   rw[NN,aA c1]
   show (if ch M then _ else _)=_
   rw[if_pos hch]
   exact uA hch fs f (some g.d) h
theorem Ms{fs:List Fd}{f:Fd}{z:Str}(h:fs.find? (fun g=>decide (g.nm=z))=some f):(aa ao (k+1)).call 1 [.lst (fs.map Fd.d),.str z] M=.ok f.d M :=
 aN qu rfl (qS (it:=.e (.v 0)) (d:=.lst (fs.map Fd.d)) (ds:=fs.map Fd.d) rfl (uA (z:=z) rfl fs f none h)) (au f.nr rfl)
theorem EM{ch:MH->Bool}(hc:ch M=true):∀(tk:List (Str×Kd)) (o:Option D) (acc:List D),acc.length+tk.length<=1000->bU (qw Φ .none) (ev Φ (.idx (.v 0) (.k (.int 0)))) [0] ch (tk.map fun t=>D.tup [.str t.1,t.2.d]) [o] M acc=.ok (acc++tk.map fun t=>.str t.1) M
 | [],o,acc,_=>by simp[bU]
 | t::tk,o,acc,hl=>by
  simp only[List.length_cons] at hl
  rw[List.map_cons,yW (x:=.str t.1) (M1:=M) (aM rfl rfl bQ) hc (Nat.lt_of_lt_of_le (by omega) (by decide:1001<=line))]
  show bU _ _ [0] ch _ [some _] M _=_
  rw[EM hc tk (some (D.tup [.str t.1,t.2.d])) (acc++[D.str t.1]) (by simp;omega)]
  simp
theorem AE{fs:List Fd}{f:Fd}{z:Str}{vs:List D}(hp:s.prog=.lst (fs.map Fd.d))(h:fs.find? (fun g=>decide (g.nm=z))=some f)(hg:AW (s.h M0) gv=some vs)(hl:s.todo.length<line)(ht:f.tk.length<=1000) :
  (aa ao (k+3)).call 17 [.ref M0.length, .str z, gv] (s.h M0)=.ok .aq (({ s with todo:=s.todo++[aF (w "begin") f.bd.d (.ref (M0.length+(s.T.length+3)))], T:=s.T++[.dct (envOf [] (f.tk.map (·.1)) vs)] }:Px).h M0):=by
 let σ0:Sg:=[some (.ref M0.length),some (.str z),some gv,none,none]
 have e1:ev (aa ao (k+2)) (.call 1 (.cons (.fld (.v 0) (w "program")) (.cons (.v 1) .nil))) σ0 (s.h M0)=.ok f.d (s.h M0):=by
  rw[bY,kC (IF (s:=s) (M0:=M0) (i:=0) rfl) (y:=.str z) (M2:=s.h M0) rfl,R.af,hp]
  exact Ms h
 let σ1:Sg:=[some (.ref M0.length),some (.str z),some gv,some f.d,none]
 have hi:bA (aa ao (k+2)) (.e (.idx (.v 3) (.k (.int 1)))) σ1 (s.h M0)=.ok (.lst (f.tk.map fun t=>.tup [.str t.1,t.2.d]),f.tk.map fun t=>.tup [.str t.1,t.2.d],false) (s.h M0):=by
  rw[zY,aM (d:=.lst (f.tk.map fun t=>.tup [.str t.1,t.2.d])) (M2:=s.h M0) (e_v (d:=f.d) rfl) rfl iJ];rfl
 have e2:=Dm (Φ:=aa ao (k+2)) (caps:=[]) (tg:=[0]) (elt:=.idx (.v 0) (.k (.int 0))) hi (EM (M:=s.h M0) rfl f.tk none [] (by simpa using ht))
 rw[List.nil_append] at e2
 let σ2:Sg:=[some (.ref M0.length),some (.str z),some gv,some f.d,some (.lst (f.tk.map fun t=>.str t.1))]
 have e3:ev (aa ao (k+2)) (.dz (.v 4) (.v 2)) σ2 (s.h M0)=.ok (.ref (M0.length+(s.T.length+3))) (({ s with T:=s.T++[.dct (envOf [] (f.tk.map (·.1)) vs)] }:Px).h M0):=by
  have g1:AW (s.h M0) (.lst (f.tk.map fun t=>D.str t.1))=some (f.tk.map fun t=>D.str t.1):=rfl
  have g2:wQ [] (f.tk.map fun t=>D.str t.1) vs=some (envOf [] (f.tk.map (·.1)) vs):=by
   rw[<- uL,List.map_map];rfl
  have g3:(f.tk.map fun t=>D.str t.1).length<=1000:=by rw[List.length_map];exact ht
  rw[LR,e_v (d:=.lst (f.tk.map fun t=>.str t.1)) rfl,R.af,e_v (d:=gv) rfl,R.af]
  simp only[g1,hg,decide_eq_true g3,if_true,g2,len,app]
 have e4:=jr (k:=k+1) (M0:=M0) (s:=s) (s':={ s with T:=s.T++[.dct (envOf [] (f.tk.map (·.1)) vs)] }) (σ:=σ2) (z:=w "begin") (e:=.idx (.v 3) (.k (.int 3))) (e':=.dz (.v 4) (.v 2)) (x:=f.bd.d) rfl (aM (xs:=[.str f.nm, .lst (f.tk.map fun t=>.tup [.str t.1, t.2.d]), f.gv.d, f.bd.d]) rfl rfl vc) e3 hl
 refine d8 fn17 rfl ((aP e1).trans ((aP e2).trans ((cI e4).trans rfl))) (c9 (M0.length+1) (by rw[len];omega) ?_)
 rw[g1,bz.g1]
 intro hh
 have:=congrArg List.length (MO.lst.inj (Option.some.inj hh))
 simp at this
theorem Mv{b u m:Int}:(aa ao (k+1)).call 9 [.int b,.int u,.int m] M=if m<b+1 then .exc 7 M else if 12<u+1 then .exc 8 M else .ok .aq M:=by
 have e1:∀q,decide (m<b+1)=q->ev (aa ao k) (.cmp .gt (.op .add true (.v 0) (.k (.int 1))) (.v 2)) [some (.int b),some (.int u),some (.int m)] M=.ok (.bl q) M:=fun q h=>we (kG rfl rfl) rfl h
 have g:ev (aa ao k) (.g 2) [some (.int b),some (.int u),some (.int m)] M=.ok (.int 12) M:=by rw[LQ,kK];rfl
 have e2:∀q,decide (12<u+1)=q->ev (aa ao k) (.cmp .gt (.op .add true (.v 1) (.k (.int 1))) (.g 2)) [some (.int b),some (.int u),some (.int m)] M=.ok (.bl q) M:=fun q h=>we (kG rfl rfl) g h
 by_cases h1:m<b+1
 ·rw[if_pos h1]
  exact jd fn9 rfl (lR (e1 true (decide_eq_true h1)) rfl) aX
 ·rw[if_neg h1]
  by_cases h2:12<u+1
  ·rw[if_pos h2]
   exact jd fn9 rfl ((aA (e1 false (decide_eq_false h1))).trans (lR (e2 true (decide_eq_true h2)) (xR g (by decide)))) aX
  ·rw[if_neg h2]
   exact d8 fn9 rfl ((aA (e1 false (decide_eq_false h1))).trans ((aA (e2 false (decide_eq_false h2))).trans rfl)) (au (by simp[nr]) rfl)
noncomputable def qx:D:=aF (w "back") .aq .aq
theorem Fb{i:Nat}(h0:σ[0]? = some (some (.ref M0.length))):ev (aa ao (k+1)) (.call 9 (.cons (.fld (.v 0) (w "begun")) (.cons (.fld (.v 0) (w "under_way")) (.cons (.fld (.v 0) (w "most")) .nil)))) σ (s.h M0)=if s.most<s.bg+1 then .exc 7 (s.h M0) else if 12<s.un+1 then .exc 8 (s.h M0) else .ok .aq (s.h M0):=by
 rw[bY,gn (uC (s:=s) h0) (gn (nJ (s:=s) h0) (gn (IG (s:=s) h0) rfl)),R.af]
 exact Mv
theorem DI{z:Str}{c:Nat}(h:(if s.most<s.bg+1 then R.exc 7 (s.h M0) else if 12<s.un+1 then .exc 8 (s.h M0) else .ok .aq (s.h M0))=(.exc c (s.h M0):R D)):(aa ao (k+4)).call 16 [.ref M0.length,.str z,gv] (s.h M0)=.exc c (s.h M0) :=
 jd LH rfl (lS ((Fb (k:=k+2) (i:=0) rfl).trans h)) aX
theorem Jk{fs:List Fd}{f:Fd}{z:Str}{vs:List D}(hb:s.bg+1<=s.most)(hu:s.un+1<=12)(hp:s.prog=.lst (fs.map Fd.d))(h:fs.find? (fun g=>decide (g.nm=z))=some f)(hg:∀s':Px,s'.T=s.T->AW (s'.h M0) gv=some vs)(hl:s.todo.length+1<line)(ht:f.tk.length<=1000) :
  (aa ao (k+4)).call 16 [.ref M0.length, .str z, gv] (s.h M0)=.ok .aq (({ s with bg:=s.bg+1, un:=s.un+1, todo:=s.todo++[qx]++[aF (w "begin") f.bd.d (.ref (M0.length+(s.T.length+3)))], T:=s.T++[.dct (envOf [] (f.tk.map (·.1)) vs)] }:Px).h M0):=by
 let σ0:Sg:=[some (.ref M0.length),some (.str z),some gv]
 have e0:=Fb (k:=k+2) (σ:=σ0) (s:=s) (M0:=M0) (i:=0) rfl
 rw[if_neg (by omega),if_neg (by omega)] at e0
 have e1:=Dp (Φ:=aa ao (k+3)) (σ:=σ0) (s:=s) (M0:=M0) (i:=0) (e:=.op .add false (.fld (.v 0) (w "begun")) (.k (.int 1))) (n:=s.bg+1) rfl (kG (uC (s:=s) rfl) rfl)
 have e2:=uI (Φ:=aa ao (k+3)) (σ:=σ0) (s:={ s with bg:=s.bg+1 }) (M0:=M0) (i:=0) (e:=.op .add false (.fld (.v 0) (w "under_way")) (.k (.int 1))) (n:=s.un+1) rfl (kG (nJ (s:={ s with bg:=s.bg+1 }) rfl) rfl)
 have e3:=jr (k:=k+2) (M0:=M0) (s:={ s with bg:=s.bg+1, un:=s.un+1 }) (s':={ s with bg:=s.bg+1, un:=s.un+1 }) (σ:=σ0) (z:=w "back") (e:=.k .aq) (e':=.k .aq) (x:=.aq) (en:=.aq) rfl rfl rfl (by show s.todo.length<line;omega)
 let s4:Px:={ s with bg:=s.bg+1,un:=s.un+1,todo:=s.todo++[qx] }
 have e4:ev (aa ao (k+3)) (.cZ 0 17 (w "put_off_body") (.v 0) (.cons (.v 1) (.cons (.v 2) .nil))) σ0 (s4.h M0)=_:=(u_ (s:=s4) (M0:=M0) (i:=0) (σ:=σ0) rfl (by decide +kernel)).trans ((by rw[kC (x:=.str z) (y:=gv) (M1:=s4.h M0) (M2:=s4.h M0) rfl rfl, R.af]:_=(aa ao (k+3)).call 17 [.ref M0.length, .str z, gv] (s4.h M0)).trans (AE (k:=k) (s:=s4) (M0:=M0) hp h (hg s4 rfl) (by show (s.todo++[qx]).length<line;simp;omega) ht))
 refine d8 LH rfl ((cI e0).trans ((jy e1).trans ((jy e2).trans ((cI e3).trans ((cI e4).trans rfl))))) (c9 (M0.length+1) (by rw[len];omega) ?_)
 rw[g1,bz.g1]
 intro hh
 have:=congrArg List.length (MO.lst.inj (Option.some.inj hh))
 simp[s4] at this
end
end bz
end
section
namespace bz
open Fg PySem
section
variable{M0 M M1 M2:MH}{s s':Px}{p xs:List D}{t k n c:Nat}{Φ:aZ}{σ:Sg}{e e' a b:E}{x y en v d gv:D}{kvs:List (Ky×D)}{ss:Ss}
noncomputable def dn4:Ss:=.cons (.eB (.v 0) (w "under_way") (.op .sub false (.fld (.v 0) (w "under_way")) (.k (.int 1)))) .nil
noncomputable def dn3:Ss:=.cons (.ifs (.cmp .eq (.idx (.v 1) (.k (.int 0))) (.k (.str (w "end")))) (.cons (.ex (.cZ 0 15 (w "end") (.v 0) (.cons (.idx (.v 1) (.k (.int 1))) .nil))) .nil) dn4) .nil
noncomputable def dn2:Ss:=.cons (.ifs (.cmp .eq (.idx (.v 1) (.k (.int 0))) (.k (.str (w "go on")))) (.cons (.ex (.cZ 0 14 (w "go_on") (.v 0) (.cons (.idx (.v 1) (.k (.int 1))) (.cons (.idx (.v 1) (.k (.int 2))) .nil)))) .nil) dn3) .nil
noncomputable def dn1:Ss:=.cons (.ifs (.cmp .eq (.idx (.v 1) (.k (.int 0))) (.k (.str (w "begin")))) (.cons (.ex (.cZ 0 13 (w "begin") (.v 0) (.cons (.idx (.v 1) (.k (.int 1))) (.cons (.idx (.v 1) (.k (.int 2))) .nil)))) .nil) dn2) .nil
theorem vQ:aU.body=.cons (.set 1 (.eU .pop true (.fld (.v 0) (w "todo")) .nil)) dn1:=rfl
theorem kI{z:Str}(hs:s.todo=p++[aF z x en]):exs Φ aU.body [some (.ref M0.length),none] (s.h M0)=exs Φ dn1 [some (.ref M0.length),some (aF z x en)] (({ s with todo:=p }:Px).h M0):=by
 rw[vQ];exact aP (e_next rfl hs)
theorem jE{z u:Str}{q:Bool}(h:decide (z=u)=q):ev Φ (.cmp .eq (.idx (.v 1) (.k (.int 0))) (.k (.str u))) [some (.ref M0.length),some (aF z x en)] M=.ok (.bl q) M:=bO (c:=z) (aM rfl rfl bQ) h
theorem mD(h:s'.todo≠s.todo):(s'.h M0)[M0.length+1]?≠(s.h M0)[M0.length+1]?:=by
 rw[g1,g1];exact fun z=>h (MO.lst.inj (Option.some.inj z))
theorem mE:M0.length+1<(s.h M0).length:=by rw[len];omega
theorem iE(hs:s.todo=p++[aF (w "begin") x en])(hc:(aa ao k).call 13 [.ref M0.length, x, en] (({ s with todo:=p }:Px).h M0)=.ok .aq (s'.h M0))(hn:s'.todo≠s.todo):(aa ao (k+1)).call 18 [.ref M0.length] (s.h M0)=.ok .aq (s'.h M0):=by
 have e1:ev (aa ao k) (.cZ 0 13 (w "begin") (.v 0) (.cons (.idx (.v 1) (.k (.int 1))) (.cons (.idx (.v 1) (.k (.int 2))) .nil))) [some (.ref M0.length), some (aF (w "begin") x en)] (({ s with todo:=p }:Px).h M0)=.ok .aq (s'.h M0):=by
  rw[u_ (i:=0) rfl (by decide +kernel),kC (aM rfl rfl iJ) (aM rfl rfl qj),R.af];exact hc
 exact d8 zM rfl ((kI hs).trans ((jU (jE (by decide +kernel))).trans ((cI e1).trans rfl))) (c9 (M0.length+1) mE (mD hn))
theorem Mj(hs:s.todo=p++[aF (w "go on") x en])(hc:(aa ao k).call 14 [.ref M0.length, x, en] (({ s with todo:=p }:Px).h M0)=.ok .aq (s'.h M0))(hn:s'.todo≠s.todo):(aa ao (k+1)).call 18 [.ref M0.length] (s.h M0)=.ok .aq (s'.h M0):=by
 have e1:ev (aa ao k) (.cZ 0 14 (w "go_on") (.v 0) (.cons (.idx (.v 1) (.k (.int 1))) (.cons (.idx (.v 1) (.k (.int 2))) .nil))) [some (.ref M0.length), some (aF (w "go on") x en)] (({ s with todo:=p }:Px).h M0)=.ok .aq (s'.h M0):=by
  rw[u_ (i:=0) rfl (by decide +kernel),kC (aM rfl rfl iJ) (aM rfl rfl qj),R.af];exact hc
 exact d8 zM rfl ((kI hs).trans ((cN (jE (by decide +kernel))).trans ((jU (jE (by decide +kernel))).trans ((cI e1).trans rfl)))) (c9 (M0.length+1) mE (mD hn))
theorem Fj(r:R D)(hc:(aa ao k).call 15 [.ref M0.length, x] (({ s with todo:=p }:Px).h M0)=r):ev (aa ao k) (.cZ 0 15 (w "end") (.v 0) (.cons (.idx (.v 1) (.k (.int 1))) .nil)) [some (.ref M0.length), some (aF (w "end") x en)] (({ s with todo:=p }:Px).h M0)=r:=by
 rw[u_ (i:=0) rfl (by decide +kernel),evs1 (aM rfl rfl iJ),R.af];exact hc
theorem Jc(hs:s.todo=p++[aF (w "end") x en])(hc:(aa ao k).call 15 [.ref M0.length, x] (({ s with todo:=p }:Px).h M0)=.ok .aq (s'.h M0))(hn:s'.todo≠s.todo):(aa ao (k+1)).call 18 [.ref M0.length] (s.h M0)=.ok .aq (s'.h M0) :=
 d8 zM rfl ((kI hs).trans ((cN (jE (by decide +kernel))).trans ((cN (jE (by decide +kernel))).trans ((jU (jE (by decide +kernel))).trans ((cI (Fj _ hc)).trans rfl))))) (c9 (M0.length+1) mE (mD hn))
theorem An(hs:s.todo=p++[aF (w "end") x en])(hc:(aa ao k).call 15 [.ref M0.length, x] (({ s with todo:=p }:Px).h M0)=.exc c (s'.h M0))(hn:s'.todo≠s.todo):(aa ao (k+1)).call 18 [.ref M0.length] (s.h M0)=.exc c (s'.h M0) :=
 jd zM rfl ((kI hs).trans ((cN (jE (by decide +kernel))).trans ((cN (jE (by decide +kernel))).trans ((jU (jE (by decide +kernel))).trans (lS (Fj _ hc)))))) (tU (M0.length+1) mE (mD hn))
theorem dn_k(hs:s.todo=p++[qx]):(aa ao (k+1)).call 18 [.ref M0.length] (s.h M0)=.ok .aq (({ s with todo:=p,un:=s.un-1 }:Px).h M0):=by
 have e1:=uI (Φ:=aa ao k) (σ:=[some (.ref M0.length), some qx]) (s:={ s with todo:=p }) (M0:=M0) (i:=0) (e:=.op .sub false (.fld (.v 0) (w "under_way")) (.k (.int 1))) (n:=s.un-1) rfl (Af (nJ (s:={ s with todo:=p }) rfl) rfl)
 exact d8 zM rfl ((kI hs).trans ((cN (jE (by decide +kernel))).trans ((cN (jE (by decide +kernel))).trans ((cN (jE (by decide +kernel))).trans ((jy e1).trans rfl))))) (c9 (M0.length+1) mE (mD (by
  show p≠s.todo
  rw[hs]
  intro z
  have:=congrArg List.length z
  simp at this)))
noncomputable def pE:E:=.cmp .ne (.fld (.v 3) (w "todo")) (.lst true .nil)
noncomputable def pB:Ss:=.cons (.ex (.cZ 0 18 (w "do_next") (.v 3) .nil)) .nil
theorem qZ(h3:σ[3]? = some (some (.ref M0.length))):ev Φ pE σ (s.h M0)=.ok (.bl (!s.todo.isEmpty)) (s.h M0):=by
 rw[pE,cE,rX h3,R.af]
 show yJ (s.h M0) (.ref (M0.length+1)) (.lst [])=_
 have e1:top (s.h M0) (.ref (M0.length+1))=.lst s.todo:=by simp only[top,g1]
 have e2:top (s.h M0) (.lst [])=.lst []:=rfl
 have e3:rC (s.h M0) (.ref (M0.length+1)) (.lst [])=some s.todo.isEmpty:=by simp only[rC,vw,g1];rfl
 unfold yJ
 rw[e1,e2,e3]
 cases hd:s.todo with
 | nil=>rfl
 | cons d es =>
  by_cases hc:cA (.lst (d::es)) (.lst [])=true
  ·rw[if_pos hc,jq,Di];rfl
  ·rw[if_neg hc]
noncomputable def Go(k:Nat)(M0:MH)(σ:Sg)(n:Nat)(s s':Px):Prop:=∀N,bT (ev (aa ao k) pE) (exs (aa ao k) pB) (n+N) σ (s.h M0)=bT (ev (aa ao k) pE) (exs (aa ao k) pB) N σ (s'.h M0)
noncomputable def Fx(k:Nat)(M0:MH)(σ:Sg)(n:Nat)(s:Px)(c:Nat):Prop:=∀N,∃s':Px,bT (ev (aa ao k) pE) (exs (aa ao k) pB) (n+N) σ (s.h M0)=.ok (.xc c σ) (s'.h M0)
theorem Go.refl:Go k M0 σ 0 s s:=fun N=>by rw[Nat.zero_add]
theorem Go.trans{s1 s2 s3:Px}{n m:Nat}(a:Go k M0 σ n s1 s2)(b:Go k M0 σ m s2 s3):Go k M0 σ (n+m) s1 s3:=fun N=>by rw[Nat.add_assoc,a,b]
theorem Go.bx{s1 s2:Px}{n m c:Nat}(a:Go k M0 σ n s1 s2)(b:Fx k M0 σ m s2 c):Fx k M0 σ (n+m) s1 c:=fun N=>by
 obtain⟨s',h⟩:=b N
 exact⟨s',by rw[Nat.add_assoc,a,h]⟩
theorem Go.one(h3:σ[3]? = some (some (.ref M0.length)))(ht:s.todo=p++[x])(h:(aa ao k).call 18 [.ref M0.length] (s.h M0)=.ok .aq (s'.h M0)):Go k M0 σ 1 s s':=fun N=>by
 have c:=qZ (Φ:=aa ao k) (s:=s) h3
 have hne:s.todo.isEmpty=false:=by rw[ht];cases p <;> rfl
 rw[hne] at c
 have e1:ev (aa ao k) (.cZ 0 18 (w "do_next") (.v 3) .nil) σ (s.h M0)=.ok .aq (s'.h M0):=(u_ h3 (by decide +kernel)).trans h
 rw[Nat.add_comm,bT,c]
 show ((exs (aa ao k) pB σ (s.h M0)).bind _)=_
 rw[pB,cI e1];rfl
theorem Fx.one(h3:σ[3]? = some (some (.ref M0.length)))(ht:s.todo=p++[x])(h:(aa ao k).call 18 [.ref M0.length] (s.h M0)=.exc c (s'.h M0)):Fx k M0 σ 1 s c:=fun N=>by
 have c0:=qZ (Φ:=aa ao k) (s:=s) h3
 have hne:s.todo.isEmpty=false:=by rw[ht];cases p <;> rfl
 rw[hne] at c0
 have e1:ev (aa ao k) (.cZ 0 18 (w "do_next") (.v 3) .nil) σ (s.h M0)=.exc c (s'.h M0):=(u_ h3 (by decide +kernel)).trans h
 refine⟨s',?_⟩
 rw[Nat.add_comm,bT,c0]
 show ((exs (aa ao k) pB σ (s.h M0)).bind _)=_
 rw[pB,lS e1];rfl
end
end bz
end
section
namespace bz
open Fg PySem
inductive It where
 | p (p:Pt)
 | ps (ps:b6)
noncomputable abbrev Env:=List (Ky×D)
inductive Ev(fs:List Fd)(m:Int):Env->Int->Int->It->Nat->List D->Int->Prop
 | num {env:Env} {b u:Int} {i:Int}:Ev fs m env b u (.p (.num i)) 1 [.int i] b
 | uf {env:Env} {b u:Int} {x:Str} {v:D}:look env (.inr x)=some v->Ev fs m env b u (.p (.uf x)) 1 [v] b
 | nil {env:Env} {b u:Int} {kd:Kd}:Ev fs m env b u (.p (.nil kd)) 1 [.aq] b
 | ite {env:Env} {b u b1 b2 i:Int} {c q r:Pt} {n n2:Nat} {v:D}:Ev fs m env b u (.p c) n [.int i] b1->Ev fs m env b1 u (.p (if i=0 then r else q)) n2 [v] b2->Ev fs m env b u (.p (.ite c q r)) (n+n2+2) [v] b2
 | op {env:Env} {b u b1:Int} {o:Op} {ps:b6} {n:Nat} {vs:List D} {v:D}:ps.ds.length<=8->Ev fs m env b u (.ps ps) n vs b1->dO o vs (.ok v)->Ev fs m env b u (.p (.op o ps)) (n+2) [v] b1
 | call {env:Env} {b u b1 b2:Int} {z:Str} {ps:b6} {f:Fd} {n n2:Nat} {vs:List D} {v:D}:ps.ds.length<=8->Ev fs m env b u (.ps ps) n vs b1->b1+1<=m->u+1<=12->fs.find? (fun g=>decide (g.nm=z))=some f->f.tk.length<=1000 ->
   Ev fs m (envOf [] (f.tk.map (·.1)) vs) (b1+1) (u+1) (.p f.bd) n2 [v] b2->Ev fs m env b u (.p (.call z ps)) (n+n2+3) [v] b2
 | kY {env:Env} {b u:Int}:Ev fs m env b u (.ps .nil) 0 [] b
 | cons {env:Env} {b u b1 b2:Int} {p:Pt} {ps:b6} {n n2:Nat} {v:D} {vs:List D}:Ev fs m env b u (.p p) n [v] b1->Ev fs m env b1 u (.ps ps) n2 vs b2->Ev fs m env b u (.ps (.cons p ps)) (n+n2) (v::vs) b2
inductive mO(fs:List Fd)(m:Int):Env->Int->Int->It->Nat->Nat->Prop
 | ite1 {env:Env} {b u:Int} {c q r:Pt} {n e:Nat}:mO fs m env b u (.p c) n e->mO fs m env b u (.p (.ite c q r)) (n+1) e
 | Lq {env:Env} {b u b1 i:Int} {c q r:Pt} {n n2 e:Nat}:Ev fs m env b u (.p c) n [.int i] b1->mO fs m env b1 u (.p (if i=0 then r else q)) n2 e->mO fs m env b u (.p (.ite c q r)) (n+n2+2) e
 | M9 {env:Env} {b u:Int} {o:Op} {ps:b6} {n e:Nat}:ps.ds.length<=8->mO fs m env b u (.ps ps) n e->mO fs m env b u (.p (.op o ps)) (n+1) e
 | om {env:Env} {b u b1:Int} {o:Op} {ps:b6} {n e:Nat} {vs:List D}:ps.ds.length<=8->Ev fs m env b u (.ps ps) n vs b1->dO o vs (.exc e)->mO fs m env b u (.p (.op o ps)) (n+2) e
 | Fo {env:Env} {b u:Int} {z:Str} {ps:b6} {n e:Nat}:ps.ds.length<=8->mO fs m env b u (.ps ps) n e->mO fs m env b u (.p (.call z ps)) (n+1) e
 | long {env:Env} {b u b1:Int} {z:Str} {ps:b6} {n:Nat} {vs:List D}:ps.ds.length<=8->Ev fs m env b u (.ps ps) n vs b1->m<b1+1->mO fs m env b u (.p (.call z ps)) (n+2) 7
 | deep {env:Env} {b u b1:Int} {z:Str} {ps:b6} {n:Nat} {vs:List D}:ps.ds.length<=8->Ev fs m env b u (.ps ps) n vs b1->b1+1<=m->12<u+1->mO fs m env b u (.p (.call z ps)) (n+2) 8
 | call2 {env:Env} {b u b1:Int} {z:Str} {ps:b6} {f:Fd} {n n2 e:Nat} {vs:List D}:ps.ds.length<=8->Ev fs m env b u (.ps ps) n vs b1->b1+1<=m->u+1<=12->fs.find? (fun g=>decide (g.nm=z))=some f->f.tk.length<=1000 ->
   mO fs m (envOf [] (f.tk.map (·.1)) vs) (b1+1) (u+1) (.p f.bd) n2 e->mO fs m env b u (.p (.call z ps)) (n+n2+2) e
 | head {env:Env} {b u:Int} {p:Pt} {ps:b6} {n e:Nat}:ps.ds.length<=8->mO fs m env b u (.p p) n e->mO fs m env b u (.ps (.cons p ps)) (n+1) e
 | tail {env:Env} {b u b1:Int} {p:Pt} {ps:b6} {n n2 e:Nat} {v:D}:ps.ds.length<=8->Ev fs m env b u (.p p) n [v] b1->mO fs m env b1 u (.ps ps) n2 e->mO fs m env b u (.ps (.cons p ps)) (n+n2) e
noncomputable def jJ(en:D):It->List D
 | .p p=>[aF (w "begin") p.d en]
 | .ps ps=>ps.ds.reverse.map fun d=>aF (w "begin") d en
theorem nv{en:D}{p:Pt}{ps:b6}:jJ en (.ps (.cons p ps))=jJ en (.ps ps)++jJ en (.p p):=by
 simp[jJ,b6.ds]
theorem Ev.len{fs:List Fd}{m b u b':Int}{env:Env}{ps:b6}{n:Nat}{vs:List D}(h:Ev fs m env b u (.ps ps) n vs b'):ps.ds.length=vs.length:=by
 generalize hi:It.ps ps=it at h
 induction h generalizing ps with
 | kY=>cases hi;simp[b6.ds]
 | cons h1 h2 ih1 ih2=>cases hi;simp[b6.ds,ih2 rfl]
 | _=>cases hi
theorem dO.ne{o:Op}{vs:List D}{r:Cz}(h:dO o vs r):vs≠[]:=by cases h <;> simp
noncomputable def lo:It->Nat
 | .p _=>1
 | .ps ps=>ps.ds.length
theorem Ev.lo{fs:List Fd}{m b u b':Int}{env:Env}{it:It}{n:Nat}{vs:List D}(h:Ev fs m env b u it n vs b'):bz.lo it<=n:=by
 induction h with
 | cons h1 h2 ih1 ih2=>simp only[bz.lo,b6.ds,List.length_cons] at ih1 ih2 ⊢;omega
 | kY=>simp[bz.lo,b6.ds]
 | _=>simp only[bz.lo];omega
structure At(fs:List Fd)(m:Int)(M0:MH)(s:Px)(q:List D)(env:Env)(t:Nat)(b u:Int)(it:It)(n:Nat):Prop where
 prog:s.prog=.lst (fs.map Fd.d)
 most:s.most=m
 bg:s.bg=b
 un:s.un=u
 todo:s.todo=q++jJ (.ref (M0.length+(t+3))) it
 env:s.T[t]? = some (.dct env)
 room:q.length+9*n<950000/\s.wt.length+n<950000
theorem bB{q:List D}{x y:D}{l:List D}(h:x≠y):q++x::l≠q++[y]:=fun z=>by
 have:=List.append_cancel_left z
 rw[List.cons.injEq] at this
 exact h this.1
theorem cU{a b:List D}(h:a.length≠b.length):a≠b:=fun z=>h (congrArg List.length z)
theorem eZ{z z':Str}{x x' en en':D}(h:decide (z=z')=false):aF z x en≠aF z' x' en':=fun q=>by
 have:z=z':=by
  simp only[aF,D.tup.injEq,List.cons.injEq,D.str.injEq] at q
  exact q.1
 exact absurd this (of_decide_eq_false h)
section
variable{fs:List Fd}{m:Int}{M0:MH}{k:Nat}{σ:Sg}{s:Px}{p:List D}
noncomputable def LY:Ss:=.cons (.ifs (.cmp .eq (.idx (.v 1) (.k (.int 0))) (.k (.str (w "call")))) (.cons (.ex (.cZ 0 16 (w "call") (.v 0) (.cons (.idx (.v 1) (.k (.int 1))) (.cons (.v 2) .nil)))) .nil) (.cons (.ex (.eU .append true (.fld (.v 0) (w "waiting")) (.cons (.call 7 (.cons (.idx (.v 1) (.k (.int 0))) (.cons (.v 2) .nil))) .nil))) .nil)) .nil
theorem uH{z:Str}{ps:b6}{s2:Px}{g:Nat}{r:R D}(h:(aa ao (k+4)).call 16 [.ref M0.length, .str z, .ref g] (s2.h M0)=r):ev (aa ao (k+4)) (.cZ 0 16 (w "call") (.v 0) (.cons (.idx (.v 1) (.k (.int 1))) (.cons (.v 2) .nil))) [some (.ref M0.length), some (.tup (.str (w "call")::.str z::ps.ds)), some (.ref g)] (s2.h M0)=r:=by
 rw[u_ (i:=0) rfl (by decide +kernel),kC (x:=.str z) (y:=.ref g) (M1:=s2.h M0) (M2:=s2.h M0) (aM rfl rfl iJ) rfl,R.af];exact h
theorem sY{z:Str}{ps:b6}{vs:List D}{f:Fd}(hy:ps.ds.length=vs.length)(hw:s.wt=p++vs)(hl:s.wt.length<line)(hb:s.bg+1<=s.most)(hu:s.un+1<=12)(hp:s.prog=.lst (fs.map Fd.d))(hf:fs.find? (fun g=>decide (g.nm=z))=some f)(hlt:s.todo.length+1<line)(ht:f.tk.length<=1000) :
  (aa ao (k+5)).call 15 [.ref M0.length, (Pt.call z ps).d] (s.h M0)=.ok .aq (({ s with wt:=p, bg:=s.bg+1, un:=s.un+1, todo:=s.todo++[qx]++[aF (w "begin") f.bd.d (.ref (M0.length+((s.T++[MO.lst vs]).length+3)))], T:=s.T++[.lst vs]++[.dct (envOf [] (f.tk.map (·.1)) vs)] }:Px).h M0):=by
 have ed:(Pt.call z ps).d=.tup (.str (w "call")::.str z::ps.ds):=by rw[Pt.d]
 rw[ed]
 have hlen:vs.length<=line:=by rw[hw,List.length_append] at hl;omega
 have pre:=nR (k:=k+3) (M0:=M0) (s:=s) (p:=p) (z:=w "call") (qs:=.str z::ps.ds) (ys:=ps.ds) (vs:=vs) (sb:=LY) (fun M=>kL (by decide +kernel) (by decide +kernel) ps.nr) hy hw hlen
 let s2:Px:={ s with wt:=p,T:=s.T++[.lst vs] }
 have c1:ev (aa ao (k+4)) (.cmp .eq (.idx (.v 1) (.k (.int 0))) (.k (.str (w "call")))) [some (.ref M0.length), some (.tup (.str (w "call")::.str z::ps.ds)), some (.ref (M0.length+(s.T.length+3)))] (s2.h M0)=.ok (.bl true) (s2.h M0):=bO (aM rfl rfl bQ) (by decide +kernel)
 have e5:=uH (k:=k) (ps:=ps) (Jk (k:=k) (s:=s2) (M0:=M0) (gv:=.ref (M0.length+(s.T.length+3))) (fs:=fs) (f:=f) (z:=z) (vs:=vs) hb hu hp hf (fun s' h'=>by
  have gl:(s'.h M0)[M0.length+(s.T.length+3)]? = some (.lst vs):=gT.trans (by rw[h'];show (s.T++[MO.lst vs])[s.T.length]? = _;simp)
  simp only[AW,vw,gl]) hlt ht)
 refine d8 wc rfl (pre.trans ((jU c1).trans ((cI e5).trans rfl))) (c9 (M0.length+1) mE (mD (cU ?_)))
 show (s.todo++[qx]++[_]).length≠_
 simp
theorem oH{z:Str}{ps:b6}{vs:List D}{c:Nat}(hy:ps.ds.length=vs.length)(hw:s.wt=p++vs)(hl:s.wt.length<line)(h:∀M,(if s.most<s.bg+1 then R.exc 7 M else if 12<s.un+1 then .exc 8 M else .ok .aq M)=(.exc c M:R D)) :
  ∃s':Px,s'.todo=s.todo/\(aa ao (k+5)).call 15 [.ref M0.length,(Pt.call z ps).d] (s.h M0)=.exc c (s'.h M0):=by
 have ed:(Pt.call z ps).d=.tup (.str (w "call")::.str z::ps.ds):=by rw[Pt.d]
 rw[ed]
 have hlen:vs.length<=line:=by rw[hw,List.length_append] at hl;omega
 have pre:=nR (k:=k+3) (M0:=M0) (s:=s) (p:=p) (z:=w "call") (qs:=.str z::ps.ds) (ys:=ps.ds) (vs:=vs) (sb:=LY) (fun M=>kL (by decide +kernel) (by decide +kernel) ps.nr) hy hw hlen
 let s2:Px:={ s with wt:=p,T:=s.T++[.lst vs] }
 have c1:ev (aa ao (k+4)) (.cmp .eq (.idx (.v 1) (.k (.int 0))) (.k (.str (w "call")))) [some (.ref M0.length), some (.tup (.str (w "call")::.str z::ps.ds)), some (.ref (M0.length+(s.T.length+3)))] (s2.h M0)=.ok (.bl true) (s2.h M0):=bO (aM rfl rfl bQ) (by decide +kernel)
 have e5:=uH (k:=k) (ps:=ps) (DI (k:=k) (s:=s2) (M0:=M0) (gv:=.ref (M0.length+(s.T.length+3))) (z:=z) (c:=c) (h _))
 have body:=pre.trans ((jU c1).trans (lS (ss:=.nil) e5))
 by_cases hk:(s2.h M0).take (s.h M0).length=s.h M0
 ·exact⟨s,rfl,jd wc rfl body (if_pos hk)⟩
 ·exact⟨s2,rfl,jd wc rfl body (if_neg hk)⟩
theorem kh{env:Env}{b u b':Int}{it:It}{n:Nat}{vs:List D}(h3:σ[3]? = some (some (.ref M0.length)))(h:Ev fs m env b u it n vs b'):∀(s:Px) (q:List D) (t:Nat),At fs m M0 s q env t b u it n->∃Y,Go (k+6) M0 σ n s { s with todo:=q,wt:=s.wt++vs,bg:=b',T:=s.T++Y }:=by
 have hline:line=1000000:=rfl
 induction h with
 | num =>
  intro s q t A
  obtain⟨a1,a2,a3,a4,a5,a6,r1,r2⟩:=A
  subst a3
  refine⟨[],?_⟩
  rw[List.append_nil]
  exact Go.one h3 a5 (iE (k:=k+5) a5 (FL (k:=k+4) (s:={ s with todo:=q }) (by show s.wt.length<line;omega)) (cU (by rw[a5];simp[jJ])))
 | @uf env b u x v hx =>
  intro s q t A
  obtain⟨a1,a2,a3,a4,a5,a6,r1,r2⟩:=A
  subst a3
  refine⟨[],?_⟩
  rw[List.append_nil]
  exact Go.one h3 a5 (iE (k:=k+5) a5 (FO (k:=k+4) (s:={ s with todo:=q }) a6 hx (by show s.wt.length<line;omega)) (cU (by rw[a5];simp[jJ])))
 | @nil env b u kd =>
  intro s q t A
  obtain⟨a1,a2,a3,a4,a5,a6,r1,r2⟩:=A
  subst a3
  refine⟨[],?_⟩
  rw[List.append_nil]
  exact Go.one h3 a5 (iE (k:=k+5) a5 (FN (k:=k+4) (s:={ s with todo:=q }) (by show s.wt.length<line;omega)) (cU (by rw[a5];simp[jJ])))
 | @ite env b u b1 b2 i c a r n n2 v h1 h2 ih1 ih2 =>
  intro s q t A
  obtain⟨a1,a2,a3,a4,a5,a6,r1,r2⟩:=A
  have g1:=Go.one (k:=k+6) h3 a5 (iE (k:=k+5) a5 (qK (k:=k+3) (s:={ s with todo:=q }) (by show q.length+1<line;omega)) (cU (by rw[a5];simp[jJ])))
  obtain⟨Y1, g2⟩:=ih1 { s with todo:=q++[aF (w "go on") (Pt.ite c a r).d (.ref (M0.length+(t+3)))]++[aF (w "begin") c.d (.ref (M0.length+(t+3)))] } (q++[aF (w "go on") (Pt.ite c a r).d (.ref (M0.length+(t+3)))]) t ⟨a1, a2, a3, a4, rfl, a6, by simp;omega, by show s.wt.length+n<950000;omega⟩
  let s2:Px:={ s with todo:=q++[aF (w "go on") (Pt.ite c a r).d (.ref (M0.length+(t+3)))], wt:=s.wt++[.int i], bg:=b1, T:=s.T++Y1 }
  have a62:s2.T[t]? = some (.dct env):=by show (s.T++Y1)[t]? = _;rw[List.getElem?_append_left (List.getElem?_eq_some_iff.mp a6).1];exact a6
  have q2:=Ef (k:=k+3) (M0:=M0) (s:={ s2 with todo:=q }) (p:=s.wt) (en:=.ref (M0.length+(t+3))) (c:=c) (q:=a) (r:=r) (i:=i) rfl (by show q.length<line;omega)
  have g3:=Go.one (k:=k+6) (s:=s2) h3 rfl (Mj (k:=k+5) (s:=s2) rfl q2 (by
   show q++[aF (w "begin") _ _]≠q++[aF (w "go on") (Pt.ite c a r).d (.ref (M0.length+(t+3)))]
   exact bB (eZ (by decide +kernel))))
  have ei:(if i=0 then r.d else a.d)=(if i=0 then r else a).d:=by split <;> rfl
  rw[ei] at g3
  obtain⟨Y3, g4⟩:=ih2 { s2 with wt:=s.wt, todo:=q++[aF (w "begin") (if i=0 then r else a).d (.ref (M0.length+(t+3)))] } q t ⟨a1, a2, rfl, a4, rfl, a62, by omega, by show s.wt.length+n2<950000;omega⟩
  refine⟨Y1++Y3,?_⟩
  have g:=g1.trans (g2.trans (g3.trans g4))
  rw[show 1+(n+(1+n2))=n+n2+2 by omega] at g
  have e:({ ({ s2 with wt:=s.wt, todo:=q++[aF (w "begin") (if i=0 then r else a).d (.ref (M0.length+(t+3)))] }:Px) with todo:=q, wt:=s.wt++[v], bg:=b2, T:=s2.T++Y3 }:Px)={ s with todo:=q, wt:=s.wt++[v], bg:=b2, T:=s.T++(Y1++Y3) }:=by simp[s2]
  rw[<- e];exact g
 | @op env b u b1 o ps n vs v h8 h1 hc ih =>
  intro s q t A
  obtain⟨a1,a2,a3,a4,a5,a6,r1,r2⟩:=A
  have hl:=h1.len
  have g1:=Go.one (k:=k+6) h3 a5 (iE (k:=k+5) a5 (xA (k:=k+3) (s:={ s with todo:=q }) (by show q.length+1+ps.ds.length<line;omega)) (by
   rw[a5]
   show q++[aF (w "end") _ _]++_≠q++[aF (w "begin") _ _]
   rw[List.append_assoc]
   exact bB (eZ (by decide +kernel))))
  obtain⟨Y1, g2⟩:=ih { s with todo:=q++[aF (w "end") (Pt.op o ps).d (.ref (M0.length+(t+3)))]++ps.ds.reverse.map fun d=>aF (w "begin") d (.ref (M0.length+(t+3))) } (q++[aF (w "end") (Pt.op o ps).d (.ref (M0.length+(t+3)))]) t ⟨a1, a2, a3, a4, rfl, a6, by simp;omega, by show s.wt.length+n<950000;omega⟩
  let s2:Px:={ s with todo:=q++[aF (w "end") (Pt.op o ps).d (.ref (M0.length+(t+3)))], wt:=s.wt++vs, bg:=b1, T:=s.T++Y1 }
  have hvs:vs≠[]:=hc.ne
  obtain⟨Y2,q2⟩:=xB (k:=k+1) (M0:=M0) (s:={ s2 with todo:=q }) (p:=s.wt) hc hl rfl (by show (s.wt++vs).length<line;rw[List.length_append];omega) hvs
  have g3:=Go.one (k:=k+6) (s:=s2) h3 rfl (Jc (k:=k+5) (s:=s2) rfl q2 (cU (by show q.length≠_;simp[s2])))
  refine⟨Y1++Y2,?_⟩
  have g:=g1.trans (g2.trans g3)
  rw[show 1+(n+1)=n+2 by omega] at g
  have e:({ ({ s2 with todo:=q }:Px) with wt:=s.wt++[v],T:=s2.T++Y2 }:Px)={ s with todo:=q,wt:=s.wt++[v],bg:=b1,T:=s.T++(Y1++Y2) }:=by simp[s2]
  rw[<- e];exact g
 | @call env b u b1 b2 z ps f n n2 vs v h8 h1 hb hu hf ht h2 ih1 ih2 =>
  intro s q t A
  obtain⟨a1,a2,a3,a4,a5,a6,r1,r2⟩:=A
  have hl:=h1.len
  have g1:=Go.one (k:=k+6) h3 a5 (iE (k:=k+5) a5 (ia (k:=k+3) (s:={ s with todo:=q }) (by show q.length+1+ps.ds.length<line;omega)) (by
   rw[a5]
   show q++[aF (w "end") _ _]++_≠q++[aF (w "begin") _ _]
   rw[List.append_assoc]
   exact bB (eZ (by decide +kernel))))
  obtain⟨Y1, g2⟩:=ih1 { s with todo:=q++[aF (w "end") (Pt.call z ps).d (.ref (M0.length+(t+3)))]++ps.ds.reverse.map fun d=>aF (w "begin") d (.ref (M0.length+(t+3))) } (q++[aF (w "end") (Pt.call z ps).d (.ref (M0.length+(t+3)))]) t ⟨a1, a2, a3, a4, rfl, a6, by simp;omega, by show s.wt.length+n<950000;omega⟩
  let s2:Px:={ s with todo:=q++[aF (w "end") (Pt.call z ps).d (.ref (M0.length+(t+3)))], wt:=s.wt++vs, bg:=b1, T:=s.T++Y1 }
  have q2:=sY (k:=k) (M0:=M0) (s:={ s2 with todo:=q }) (p:=s.wt) (fs:=fs) (z:=z) (ps:=ps) (vs:=vs) (f:=f) hl rfl (by show (s.wt++vs).length<line;rw[List.length_append];omega) (by show b1+1<=s.most;omega) (by show s.un+1<=12;omega) a1 hf (by show q.length+1<line;omega) ht
  let s3:Px:={ s2 with wt:=s.wt, bg:=b1+1, un:=s.un+1, todo:=q++[qx]++[aF (w "begin") f.bd.d (.ref (M0.length+((s2.T++[MO.lst vs]).length+3)))], T:=s2.T++[.lst vs]++[.dct (envOf [] (f.tk.map (·.1)) vs)] }
  have g3:Go (k+6) M0 σ 1 s2 s3:=Go.one (k:=k+6) (s:=s2) h3 rfl (Jc (k:=k+5) (s:=s2) rfl q2 (by
   show q++[qx]++[_]≠q++[aF (w "end") _ _]
   rw[List.append_assoc]
   exact bB (eZ (by decide +kernel))))
  obtain⟨Y3,g4⟩:=ih2 s3 (q++[qx]) (s2.T++[MO.lst vs]).length ⟨a1,a2,rfl,by show s.un+1=u+1;omega,rfl,by show (s2.T++[MO.lst vs]++[_])[(s2.T++[MO.lst vs]).length]? = _;simp,by simp;omega,by show s.wt.length+n2<950000;omega⟩
  have g5:=Go.one (k:=k+6) (M0:=M0) (σ:=σ) (s:={ s3 with todo:=q++[qx],wt:=s3.wt++[v],bg:=b2,T:=s3.T++Y3 }) h3 rfl (dn_k (k:=k+5) (s:={ s3 with todo:=q++[qx],wt:=s3.wt++[v],bg:=b2,T:=s3.T++Y3 }) rfl)
  refine⟨Y1++[.lst vs]++[.dct (envOf [] (f.tk.map (·.1)) vs)]++Y3,?_⟩
  have g:=g1.trans (g2.trans (g3.trans (g4.trans g5)))
  rw[show 1+(n+(1+(n2+1)))=n+n2+3 by omega] at g
  have e:({ ({ s3 with todo:=q++[qx],wt:=s3.wt++[v],bg:=b2,T:=s3.T++Y3 }:Px) with todo:=q,un:=s3.un-1 }:Px)={ s with todo:=q,wt:=s.wt++[v],bg:=b2,T:=s.T++(Y1++[.lst vs]++[.dct (envOf [] (f.tk.map (·.1)) vs)]++Y3) }:=by
   have:s.un+1-1=s.un:=by omega
   simp[s3,s2,this]
  rw[<- e];exact g
 | kY =>
  intro s q t A
  obtain⟨a1,a2,a3,a4,a5,a6,r1,r2⟩:=A
  subst a3
  refine⟨[],?_⟩
  have e:({ s with todo:=q,wt:=s.wt++[],bg:=s.bg,T:=s.T++[] }:Px)=s:=by
   have:s.todo=q:=by rw[a5];simp[jJ,b6.ds]
   rw[<- this];simp
  rw[e];exact Go.refl
 | @cons env b u b1 b2 p ps n n2 v vs h1 h2 ih1 ih2 =>
  intro s q t A
  obtain⟨a1,a2,a3,a4,a5,a6,r1,r2⟩:=A
  have hl:=h2.len
  have hlo:=h2.lo
  simp only[bz.lo] at hlo
  rw[nv,<- List.append_assoc] at a5
  have hq:(q++jJ (.ref (M0.length+(t+3))) (.ps ps)).length=q.length+ps.ds.length:=by simp[jJ]
  obtain⟨Y1,g1⟩:=ih1 s (q++jJ (.ref (M0.length+(t+3))) (.ps ps)) t ⟨a1,a2,a3,a4,a5,a6,by omega,by omega⟩
  obtain⟨Y2,g2⟩:=ih2 { s with todo:=q++jJ (.ref (M0.length+(t+3))) (.ps ps),wt:=s.wt++[v],bg:=b1,T:=s.T++Y1 } q t ⟨a1,a2,rfl,a4,rfl,by show (s.T++Y1)[t]? = _;rw[List.getElem?_append_left (List.getElem?_eq_some_iff.mp a6).1];exact a6,by omega,by show (s.wt++[v]).length+n2<950000;have:=h1.lo;simp only[bz.lo] at this;simp;omega⟩
  refine⟨Y1++Y2,?_⟩
  have g:=g1.trans g2
  have e:({ ({ s with todo:=q++jJ (.ref (M0.length+(t+3))) (.ps ps),wt:=s.wt++[v],bg:=b1,T:=s.T++Y1 }:Px) with todo:=q,wt:=s.wt++[v]++vs,bg:=b2,T:=s.T++Y1++Y2 }:Px)={ s with todo:=q,wt:=s.wt++(v::vs),bg:=b2,T:=s.T++(Y1++Y2) }:=by simp
  rw[<- e];exact g
end
end bz
end
section
namespace bz
open Fg PySem
section
variable{fs:List Fd}{m:Int}{M0:MH}{k:Nat}{σ:Sg}{s:Px}{p:List D}
theorem go_x{env:Env}{b u:Int}{it:It}{n e:Nat}(h3:σ[3]? = some (some (.ref M0.length)))(h:mO fs m env b u it n e):∀(s:Px) (q:List D) (t:Nat),At fs m M0 s q env t b u it (n+9)->Fx (k+6) M0 σ n s e:=by
 have hline:line=1000000:=rfl
 induction h with
 | @ite1 env b u c a r n e h ih =>
  intro s q t A
  obtain⟨a1,a2,a3,a4,a5,a6,r1,r2⟩:=A
  have g1:=Go.one (k:=k+6) h3 a5 (iE (k:=k+5) a5 (qK (k:=k+3) (s:={ s with todo:=q }) (by show q.length+1<line;omega)) (cU (by rw[a5];simp[jJ])))
  have g2:=ih { s with todo:=q++[aF (w "go on") (Pt.ite c a r).d (.ref (M0.length+(t+3)))]++[aF (w "begin") c.d (.ref (M0.length+(t+3)))] } (q++[aF (w "go on") (Pt.ite c a r).d (.ref (M0.length+(t+3)))]) t ⟨a1, a2, a3, a4, rfl, a6, by simp;omega, by show s.wt.length+(n+9)<950000;omega⟩
  have g:=g1.bx g2
  rw[show 1+n=n+1 by omega] at g;exact g
 | @Lq env b u b1 i c a r n n2 e h1 h2 ih2 =>
  intro s q t A
  obtain⟨a1,a2,a3,a4,a5,a6,r1,r2⟩:=A
  have g1:=Go.one (k:=k+6) h3 a5 (iE (k:=k+5) a5 (qK (k:=k+3) (s:={ s with todo:=q }) (by show q.length+1<line;omega)) (cU (by rw[a5];simp[jJ])))
  obtain⟨Y1, g2⟩:=kh (k:=k) h3 h1 { s with todo:=q++[aF (w "go on") (Pt.ite c a r).d (.ref (M0.length+(t+3)))]++[aF (w "begin") c.d (.ref (M0.length+(t+3)))] } (q++[aF (w "go on") (Pt.ite c a r).d (.ref (M0.length+(t+3)))]) t ⟨a1, a2, a3, a4, rfl, a6, by simp;omega, by show s.wt.length+n<950000;omega⟩
  let s2:Px:={ s with todo:=q++[aF (w "go on") (Pt.ite c a r).d (.ref (M0.length+(t+3)))], wt:=s.wt++[.int i], bg:=b1, T:=s.T++Y1 }
  have a62:s2.T[t]? = some (.dct env):=by show (s.T++Y1)[t]? = _;rw[List.getElem?_append_left (List.getElem?_eq_some_iff.mp a6).1];exact a6
  have q2:=Ef (k:=k+3) (M0:=M0) (s:={ s2 with todo:=q }) (p:=s.wt) (en:=.ref (M0.length+(t+3))) (c:=c) (q:=a) (r:=r) (i:=i) rfl (by show q.length<line;omega)
  have g3:=Go.one (k:=k+6) (s:=s2) h3 rfl (Mj (k:=k+5) (s:=s2) rfl q2 (by
   show q++[aF (w "begin") _ _]≠q++[aF (w "go on") (Pt.ite c a r).d (.ref (M0.length+(t+3)))]
   exact bB (eZ (by decide +kernel))))
  have ei:(if i=0 then r.d else a.d)=(if i=0 then r else a).d:=by split <;> rfl
  rw[ei] at g3
  have g4:=ih2 { s2 with wt:=s.wt, todo:=q++[aF (w "begin") (if i=0 then r else a).d (.ref (M0.length+(t+3)))] } q t ⟨a1, a2, rfl, a4, rfl, a62, by omega, by show s.wt.length+(n2+9)<950000;omega⟩
  have g:=g1.bx (g2.bx (g3.bx g4))
  rw[show 1+(n+(1+n2))=n+n2+2 by omega] at g
  exact g
 | @M9 env b u o ps n e h8 h ih =>
  intro s q t A
  obtain⟨a1,a2,a3,a4,a5,a6,r1,r2⟩:=A
  have g1:=Go.one (k:=k+6) h3 a5 (iE (k:=k+5) a5 (xA (k:=k+3) (s:={ s with todo:=q }) (by show q.length+1+ps.ds.length<line;omega)) (by
   rw[a5]
   show q++[aF (w "end") _ _]++_≠q++[aF (w "begin") _ _]
   rw[List.append_assoc]
   exact bB (eZ (by decide +kernel))))
  have g2:=ih { s with todo:=q++[aF (w "end") (Pt.op o ps).d (.ref (M0.length+(t+3)))]++ps.ds.reverse.map fun d=>aF (w "begin") d (.ref (M0.length+(t+3))) } (q++[aF (w "end") (Pt.op o ps).d (.ref (M0.length+(t+3)))]) t ⟨a1, a2, a3, a4, rfl, a6, by simp;omega, by show s.wt.length+(n+9)<950000;omega⟩
  have g:=g1.bx g2
  rw[show 1+n=n+1 by omega] at g;exact g
 | @om env b u b1 o ps n e vs h8 h1 hc =>
  intro s q t A
  obtain⟨a1,a2,a3,a4,a5,a6,r1,r2⟩:=A
  have hl:=h1.len
  have g1:=Go.one (k:=k+6) h3 a5 (iE (k:=k+5) a5 (xA (k:=k+3) (s:={ s with todo:=q }) (by show q.length+1+ps.ds.length<line;omega)) (by
   rw[a5]
   show q++[aF (w "end") _ _]++_≠q++[aF (w "begin") _ _]
   rw[List.append_assoc]
   exact bB (eZ (by decide +kernel))))
  obtain⟨Y1, g2⟩:=kh (k:=k) h3 h1 { s with todo:=q++[aF (w "end") (Pt.op o ps).d (.ref (M0.length+(t+3)))]++ps.ds.reverse.map fun d=>aF (w "begin") d (.ref (M0.length+(t+3))) } (q++[aF (w "end") (Pt.op o ps).d (.ref (M0.length+(t+3)))]) t ⟨a1, a2, a3, a4, rfl, a6, by simp;omega, by show s.wt.length+n<950000;omega⟩
  let s2:Px:={ s with todo:=q++[aF (w "end") (Pt.op o ps).d (.ref (M0.length+(t+3)))], wt:=s.wt++vs, bg:=b1, T:=s.T++Y1 }
  obtain⟨Y2,q2⟩:=xB (k:=k+1) (M0:=M0) (s:={ s2 with todo:=q }) (p:=s.wt) hc hl rfl (by show (s.wt++vs).length<line;rw[List.length_append];omega) hc.ne
  have g3:=Fx.one (k:=k+6) (s:=s2) h3 rfl (An (k:=k+5) (s:=s2) rfl q2 (cU (by show q.length≠_;simp[s2])))
  have g:=g1.bx (g2.bx g3)
  rw[show 1+(n+1)=n+2 by omega] at g
  exact g
 | @Fo env b u z ps n e h8 h ih =>
  intro s q t A
  obtain⟨a1,a2,a3,a4,a5,a6,r1,r2⟩:=A
  have g1:=Go.one (k:=k+6) h3 a5 (iE (k:=k+5) a5 (ia (k:=k+3) (s:={ s with todo:=q }) (by show q.length+1+ps.ds.length<line;omega)) (by
   rw[a5]
   show q++[aF (w "end") _ _]++_≠q++[aF (w "begin") _ _]
   rw[List.append_assoc]
   exact bB (eZ (by decide +kernel))))
  have g2:=ih { s with todo:=q++[aF (w "end") (Pt.call z ps).d (.ref (M0.length+(t+3)))]++ps.ds.reverse.map fun d=>aF (w "begin") d (.ref (M0.length+(t+3))) } (q++[aF (w "end") (Pt.call z ps).d (.ref (M0.length+(t+3)))]) t ⟨a1, a2, a3, a4, rfl, a6, by simp;omega, by show s.wt.length+(n+9)<950000;omega⟩
  have g:=g1.bx g2
  rw[show 1+n=n+1 by omega] at g;exact g
 | @long env b u b1 z ps n vs h8 h1 hb =>
  intro s q t A
  obtain⟨a1,a2,a3,a4,a5,a6,r1,r2⟩:=A
  have hl:=h1.len
  have g1:=Go.one (k:=k+6) h3 a5 (iE (k:=k+5) a5 (ia (k:=k+3) (s:={ s with todo:=q }) (by show q.length+1+ps.ds.length<line;omega)) (by
   rw[a5]
   show q++[aF (w "end") _ _]++_≠q++[aF (w "begin") _ _]
   rw[List.append_assoc]
   exact bB (eZ (by decide +kernel))))
  obtain⟨Y1, g2⟩:=kh (k:=k) h3 h1 { s with todo:=q++[aF (w "end") (Pt.call z ps).d (.ref (M0.length+(t+3)))]++ps.ds.reverse.map fun d=>aF (w "begin") d (.ref (M0.length+(t+3))) } (q++[aF (w "end") (Pt.call z ps).d (.ref (M0.length+(t+3)))]) t ⟨a1, a2, a3, a4, rfl, a6, by simp;omega, by show s.wt.length+n<950000;omega⟩
  let s2:Px:={ s with todo:=q++[aF (w "end") (Pt.call z ps).d (.ref (M0.length+(t+3)))], wt:=s.wt++vs, bg:=b1, T:=s.T++Y1 }
  obtain⟨s',ht',q2⟩:=oH (k:=k) (M0:=M0) (s:={ s2 with todo:=q }) (p:=s.wt) (z:=z) (ps:=ps) (vs:=vs) (c:=7) hl rfl (by show (s.wt++vs).length<line;rw[List.length_append];omega) (fun M=>if_pos (by show s.most<b1+1;omega))
  have g3:=Fx.one (k:=k+6) (s:=s2) h3 rfl (An (k:=k+5) (s:=s2) rfl q2 (cU (by rw[ht'];show q.length≠_;simp[s2])))
  have g:=g1.bx (g2.bx g3)
  rw[show 1+(n+1)=n+2 by omega] at g
  exact g
 | @deep env b u b1 z ps n vs h8 h1 hb hu =>
  intro s q t A
  obtain⟨a1,a2,a3,a4,a5,a6,r1,r2⟩:=A
  have hl:=h1.len
  have g1:=Go.one (k:=k+6) h3 a5 (iE (k:=k+5) a5 (ia (k:=k+3) (s:={ s with todo:=q }) (by show q.length+1+ps.ds.length<line;omega)) (by
   rw[a5]
   show q++[aF (w "end") _ _]++_≠q++[aF (w "begin") _ _]
   rw[List.append_assoc]
   exact bB (eZ (by decide +kernel))))
  obtain⟨Y1, g2⟩:=kh (k:=k) h3 h1 { s with todo:=q++[aF (w "end") (Pt.call z ps).d (.ref (M0.length+(t+3)))]++ps.ds.reverse.map fun d=>aF (w "begin") d (.ref (M0.length+(t+3))) } (q++[aF (w "end") (Pt.call z ps).d (.ref (M0.length+(t+3)))]) t ⟨a1, a2, a3, a4, rfl, a6, by simp;omega, by show s.wt.length+n<950000;omega⟩
  let s2:Px:={ s with todo:=q++[aF (w "end") (Pt.call z ps).d (.ref (M0.length+(t+3)))], wt:=s.wt++vs, bg:=b1, T:=s.T++Y1 }
  obtain⟨s',ht',q2⟩:=oH (k:=k) (M0:=M0) (s:={ s2 with todo:=q }) (p:=s.wt) (z:=z) (ps:=ps) (vs:=vs) (c:=8) hl rfl (by show (s.wt++vs).length<line;rw[List.length_append];omega) (fun M=>(if_neg (by show ¬ s.most<b1+1;omega)).trans (if_pos (by show 12<s.un+1;omega)))
  have g3:=Fx.one (k:=k+6) (s:=s2) h3 rfl (An (k:=k+5) (s:=s2) rfl q2 (cU (by rw[ht'];show q.length≠_;simp[s2])))
  have g:=g1.bx (g2.bx g3)
  rw[show 1+(n+1)=n+2 by omega] at g
  exact g
 | @call2 env b u b1 z ps f n n2 e vs h8 h1 hb hu hf ht h2 ih2 =>
  intro s q t A
  obtain⟨a1,a2,a3,a4,a5,a6,r1,r2⟩:=A
  have hl:=h1.len
  have g1:=Go.one (k:=k+6) h3 a5 (iE (k:=k+5) a5 (ia (k:=k+3) (s:={ s with todo:=q }) (by show q.length+1+ps.ds.length<line;omega)) (by
   rw[a5]
   show q++[aF (w "end") _ _]++_≠q++[aF (w "begin") _ _]
   rw[List.append_assoc]
   exact bB (eZ (by decide +kernel))))
  obtain⟨Y1, g2⟩:=kh (k:=k) h3 h1 { s with todo:=q++[aF (w "end") (Pt.call z ps).d (.ref (M0.length+(t+3)))]++ps.ds.reverse.map fun d=>aF (w "begin") d (.ref (M0.length+(t+3))) } (q++[aF (w "end") (Pt.call z ps).d (.ref (M0.length+(t+3)))]) t ⟨a1, a2, a3, a4, rfl, a6, by simp;omega, by show s.wt.length+n<950000;omega⟩
  let s2:Px:={ s with todo:=q++[aF (w "end") (Pt.call z ps).d (.ref (M0.length+(t+3)))], wt:=s.wt++vs, bg:=b1, T:=s.T++Y1 }
  have q2:=sY (k:=k) (M0:=M0) (s:={ s2 with todo:=q }) (p:=s.wt) (fs:=fs) (z:=z) (ps:=ps) (vs:=vs) (f:=f) hl rfl (by show (s.wt++vs).length<line;rw[List.length_append];omega) (by show b1+1<=s.most;omega) (by show s.un+1<=12;omega) a1 hf (by show q.length+1<line;omega) ht
  let s3:Px:={ s2 with wt:=s.wt, bg:=b1+1, un:=s.un+1, todo:=q++[qx]++[aF (w "begin") f.bd.d (.ref (M0.length+((s2.T++[MO.lst vs]).length+3)))], T:=s2.T++[.lst vs]++[.dct (envOf [] (f.tk.map (·.1)) vs)] }
  have g3:Go (k+6) M0 σ 1 s2 s3:=Go.one (k:=k+6) (s:=s2) h3 rfl (Jc (k:=k+5) (s:=s2) rfl q2 (by
   show q++[qx]++[_]≠q++[aF (w "end") _ _]
   rw[List.append_assoc]
   exact bB (eZ (by decide +kernel))))
  have g4:=ih2 s3 (q++[qx]) (s2.T++[MO.lst vs]).length ⟨a1,a2,rfl,by show s.un+1=u+1;omega,rfl,by show (s2.T++[MO.lst vs]++[_])[(s2.T++[MO.lst vs]).length]? = _;simp,by simp;omega,by show s.wt.length+(n2+9)<950000;omega⟩
  have g:=g1.bx (g2.bx (g3.bx g4))
  rw[show 1+(n+(1+n2))=n+n2+2 by omega] at g
  exact g
 | @head env b u p ps n e h8 h ih =>
  intro s q t A
  obtain⟨a1,a2,a3,a4,a5,a6,r1,r2⟩:=A
  rw[nv,<- List.append_assoc] at a5
  have hq:(q++jJ (.ref (M0.length+(t+3))) (.ps ps)).length=q.length+ps.ds.length:=by simp[jJ]
  have g:=ih s (q++jJ (.ref (M0.length+(t+3))) (.ps ps)) t ⟨a1,a2,a3,a4,a5,a6,by omega,by omega⟩
  intro N
  obtain⟨s',q'⟩:=g (1+N)
  exact⟨s',by rw[show n+1+N=n+(1+N) by omega];exact q'⟩
 | @tail env b u b1 p ps n n2 e v h8 h1 h2 ih2 =>
  intro s q t A
  obtain⟨a1,a2,a3,a4,a5,a6,r1,r2⟩:=A
  rw[nv,<- List.append_assoc] at a5
  have hq:(q++jJ (.ref (M0.length+(t+3))) (.ps ps)).length=q.length+ps.ds.length:=by simp[jJ]
  obtain⟨Y1,g1⟩:=kh (k:=k) h3 h1 s (q++jJ (.ref (M0.length+(t+3))) (.ps ps)) t ⟨a1,a2,a3,a4,a5,a6,by omega,by omega⟩
  have g2:=ih2 { s with todo:=q++jJ (.ref (M0.length+(t+3))) (.ps ps),wt:=s.wt++[v],bg:=b1,T:=s.T++Y1 } q t ⟨a1,a2,rfl,a4,rfl,by show (s.T++Y1)[t]? = _;rw[List.getElem?_append_left (List.getElem?_eq_some_iff.mp a6).1];exact a6,by omega,by show (s.wt++[v]).length+(n2+9)<950000;have:=h1.lo;simp only[bz.lo] at this;simp;omega⟩
  exact g1.bx g2
end
end bz
end
section
namespace bz
open Fg PySem
inductive oh{α β:Type}(R:α->β->Prop):List α->List β->Prop
 | nil:oh R [] []
 | cons {a:α} {b:β} {as:List α} {bs:List β}:R a b->oh R as bs->oh R (a::as) (b::bs)
theorem oh.imp{α β:Type}{R S:α->β->Prop}(h:∀a b,R a b->S a b):∀{as:List α} {bs:List β},oh R as bs->oh S as bs
 | _,_,.nil=>.nil
 | _,_,.cons a r=>.cons (h _ _ a) (r.imp h)
noncomputable def Sh(lo:Nat)(M:MH):Nat->D->D->Prop
 | 0,_,_=>False
 | n+1,y,d=>(∃i,y=.int i/\d=.int i)\/(∃a b x z,y=.tup [a,b]/\d=.tup [x,z]/\Sh lo M n a x/\Sh lo M n b z)\/∃r ys xs,y=.ref r/\d=.lst xs/\lo<=r/\M[r]? = some (.lst ys)/\oh (Sh lo M n) ys xs
theorem Sh.mono{lo lo':Nat}{M M':MH}(hl:lo'<=lo)(h:∀n o,lo<=n->M[n]? = some o->M'[n]? = some o):∀{n:Nat} {y d:D},Sh lo M n y d->Sh lo' M' n y d
 | 0,_,_,q=>q.elim
 | n+1,y,d,q=>by
  rcases q with q | ⟨a,b,x,z,h1,h2,h3,h4⟩ | ⟨r,ys,xs,h1,h2,h3,h4,h5⟩
  ·exact .inl q
  ·exact .inr (.inl ⟨a,b,x,z,h1,h2,Sh.mono hl h h3,Sh.mono hl h h4⟩)
  ·exact .inr (.inr ⟨r,ys,xs,h1,h2,Nat.le_trans hl h3,h _ _ h3 h4,h5.imp fun _ _=>Sh.mono hl h⟩)
inductive JL(R:D->D->Prop):D->List D->Prop
 | nil:JL R .aq []
 | cons {sz:Int} {a b x:D} {xs:List D}:R a x->JL R b xs->JL R (.tup [.str (layW true),.int sz,a,b]) (x::xs)
noncomputable def Tl:Nat->D->D->Prop
 | 0,_,_=>False
 | n+1,v,d=>(∃i,v=.int i/\d=.int i)\/(∃sz a b x y,v=.tup [.str (layW false),.int sz,a,b]/\d=.tup [x,y]/\Tl n a x/\Tl n b y)\/∃xs,d=.lst xs/\xs.length<2000/\JL (Tl n) v xs
noncomputable def lE:E:=.cmp .kX (.v 0) (.k .aq)
noncomputable def lB:Ss:=.cons (.ex (.eU .append true (.v 1) (.cons (.call 8 (.cons (.idx (.v 0) (.k (.int 2))) .nil)) .nil))) (.cons (.set 0 (.idx (.v 0) (.k (.int 3)))) .nil)
section
variable{k:Nat}
theorem vq{n:Nat}{M:MH}(ih:∀(v d:D) (M:MH),Tl n v d->∃y X,(aa ao (k+n)).call 8 [v] M=.ok y (M++X)/\Sh M.length (M++X) n y d):∀(v:D) (xs:List D) (acc:List D) (X:MH) (N:Nat),JL (Tl n) v xs->xs.length<N->acc.length+xs.length<100000 ->
  ∃v' ys Z,bT (ev (aa ao (k+n)) lE) (exs (aa ao (k+n)) lB) N [some v,some (.ref M.length)] (M++.lst acc::X)=.ok (.nx [some v',some (.ref M.length)]) (M++.lst (acc++ys)::(X++Z))/\oh (Sh (M.length+1) (M++.lst (acc++ys)::(X++Z)) n) ys xs:=by
 intro v xs acc X N h
 induction h generalizing acc X N with
 | nil =>
  intro hN _
  obtain⟨N,rfl⟩:∃m,N=m+1:=⟨N-1,by omega⟩
  exact⟨.aq,[],[],by rw[bT,List.append_nil,List.append_nil];rfl,.nil⟩
 | @cons sz a b x xs ha _ ih2 =>
  intro hN hl
  simp only[List.length_cons] at hN hl
  obtain⟨N,rfl⟩:∃m,N=m+1:=⟨N-1,by omega⟩
  obtain⟨y,X1,q1,q2⟩:=ih a x (M++.lst acc::X) ha
  have eM:M++MO.lst acc::X++X1=M++.lst acc::(X++X1):=by simp
  rw[eM] at q1 q2
  have g0:(M++MO.lst acc::X)[M.length]? = some (.lst acc):=by simp
  have g:(M++MO.lst acc::(X++X1))[M.length]? = some (.lst acc):=by simp
  have ec:ev (aa ao (k+n)) (.call 8 (.cons (.idx (.v 0) (.k (.int 2))) .nil)) [some (.tup [.str (layW true),.int sz,a,b]),some (.ref M.length)] (M++.lst acc::X)=.ok y (M++.lst acc::(X++X1)):=(bP (aM rfl rfl qj)).trans q1
  have e1:=Aj (Φ:=aa ao (k+n)) (e:=.v 1) (σ:=[some (.tup [.str (layW true),.int sz,a,b]),some (.ref M.length)]) rfl g0 ec g (Nat.lt_of_lt_of_le (by omega:acc.length<100000) (by decide))
  have es:(M++MO.lst acc::(X++X1)).set M.length (.lst (acc++[y]))=M++.lst (acc++[y])::(X++X1):=by rw[List.set_append_right _ _ (Nat.le_refl _),Nat.sub_self];rfl
  rw[es] at e1
  have e2:ev (aa ao (k+n)) (.idx (.v 0) (.k (.int 3))) [some (.tup [.str (layW true),.int sz,a,b]),some (.ref M.length)] (M++.lst (acc++[y])::(X++X1))=.ok b (M++.lst (acc++[y])::(X++X1)):=aM rfl rfl vc
  obtain⟨v',ys,Z,e3,hs⟩:=ih2 (acc++[y]) (X++X1) N (by omega) (by simp;omega)
  have eA:acc++[y]++ys=acc++(y::ys):=by simp
  have eX:X++X1++Z=X++(X1++Z):=by simp
  rw[eA,eX] at e3 hs
  refine⟨v',y::ys,X1++Z,?_,.cons (Sh.mono (lo:=(M++MO.lst acc::X).length) (by simp) (fun m o hm hq=>?_) q2) hs⟩
  ·have eb:exs (aa ao (k+n)) lB [some (.tup [.str (layW true),.int sz,a,b]),some (.ref M.length)] (M++.lst acc::X)=.ok (.nx [some b,some (.ref M.length)]) (M++.lst (acc++[y])::(X++X1)):=(cI e1).trans ((aP e2).trans rfl)
   rw[bT]
   show (exs (aa ao (k+n)) lB _ (M++.lst acc::X)).bind _=_
   rw[eb]
   exact e3
  ·have hm':M.length+1<=m:=by simp at hm;omega
   rw[List.getElem?_append_right (by omega)] at hq ⊢
   obtain⟨j,hj⟩:∃j,m-M.length=j+1:=⟨m-M.length-1,by omega⟩
   rw[hj,List.getElem?_cons_succ] at hq ⊢
   rw[<- eX,List.getElem?_append_left (List.getElem?_eq_some_iff.mp hq).1];exact hq
theorem JZ:∀(n:Nat) (v d:D) (M:MH),Tl n v d->∃y X,(aa ao (k+n)).call 8 [v] M=.ok y (M++X)/\Sh M.length (M++X) n y d:=by
 intro n
 induction n with
 | zero=>intro v d M h;exact h.elim
 | succ n ih =>
  intro v d M h
  rcases h with ⟨i,rfl,rfl⟩ | ⟨sz,a,b,x,y,rfl,rfl,h1,h2⟩ | ⟨xs,rfl,hl,h⟩
  ·refine⟨.int i,[],?_,.inl ⟨i,rfl,rfl⟩⟩
   rw[List.append_nil]
   exact aN (P:=ao) (k:=k+n) NG rfl (bK (x:=.int i) (M1:=M) rfl rfl) rfl
  ·obtain⟨ya,X1,q1,s1⟩:=ih a x M h1
   obtain⟨yb,X2,q2,s2⟩:=ih b y (M++X1) h2
   refine⟨.tup [ya,yb],X1++X2,?_,.inr (.inl ⟨ya,yb,x,y,rfl,rfl,s1.mono (Nat.le_refl _) (fun m o _ hq=>?_),s2.mono (by simp) (fun m o _ hq=>by rw[<- List.append_assoc];exact hq)⟩)⟩
   ·have e1:ev (aa ao (k+n)) (.CV (.v 0) .int) [some (.tup [.str (layW false),.int sz,a,b]),none] M=.ok (.bl false) M:=rfl
    have e2:ev (aa ao (k+n)) (.and (.cmp .kX (.v 0) (.k .aq)) (.cmp .eq (.idx (.v 0) (.k (.int 0))) (.k (.str (w "pair"))))) [some (.tup [.str (layW false), .int sz, a, b]), none] M=.ok (.bl true) M:=by
     have e:ev (aa ao (k+n)) (.cmp .eq (.idx (.v 0) (.k (.int 0))) (.k (.str (w "pair")))) [some (.tup [.str (layW false), .int sz, a, b]), none] M=.ok (.bl true) M:=bO (aM rfl rfl bQ) (by decide +kernel)
     rw[r9]
     exact e
    have e3:ev (aa ao (k+n)) (.tup (.cons (.call 8 (.cons (.idx (.v 0) (.k (.int 2))) .nil)) (.cons (.call 8 (.cons (.idx (.v 0) (.k (.int 3))) .nil)) .nil))) [some (.tup [.str (layW false),.int sz,a,b]),none] M=.ok (.tup [ya,yb]) (M++X1++X2):=by
     rw[nQ,kC ((bP (aM rfl rfl qj)).trans q1) ((bP (aM rfl rfl vc)).trans q2)];rfl
    rw[<- List.append_assoc]
    exact aN (P:=ao) (k:=k+n) NG rfl ((aA e1).trans (bK e2 (bH e3))) rfl
   ·rw[<- List.append_assoc,List.getElem?_append_left (List.getElem?_eq_some_iff.mp hq).1];exact hq
  ·have e1:ev (aa ao (k+n)) (.CV (.v 0) .int) [some v,none] M=.ok (.bl false) M:=by cases h <;> rfl
   have e2:ev (aa ao (k+n)) (.and (.cmp .kX (.v 0) (.k .aq)) (.cmp .eq (.idx (.v 0) (.k (.int 0))) (.k (.str (w "pair"))))) [some v, none] M=.ok (.bl false) M:=by
    cases h with
    | nil=>rfl
    | @cons sz a b x xs _ _ =>
     have e:ev (aa ao (k+n)) (.cmp .eq (.idx (.v 0) (.k (.int 0))) (.k (.str (w "pair")))) [some (.tup [.str (layW true), .int sz, a, b]), none] M=.ok (.bl false) M:=bO (aM rfl rfl bQ) (by decide +kernel)
     rw[r9]
     exact e
   have e3:ev (aa ao (k+n)) (.lst false .nil) [some v,none] M=.ok (.ref M.length) (M++[.lst []]):=rfl
   obtain⟨v',ys,Z,e4,hs⟩:=vq (k:=k) (M:=M) ih v xs [] [] 100000 h (by omega) (by simp;omega)
   rw[List.nil_append,List.nil_append] at e4 hs
   have e5:ex (aa ao (k+n)) (.while lE lB) [some v,some (.ref M.length)] (M++[.lst []])=.ok (.nx [some v',some (.ref M.length)]) (M++.lst ys::Z):=by
    rw[kB,fR];exact e4
   refine⟨.ref M.length,.lst ys::Z,aN (P:=ao) (k:=k+n) NG rfl ((aA e1).trans ((aA e2).trans ((aP e3).trans ((jy e5).trans (bH rfl))))) rfl,.inr (.inr ⟨M.length,ys,xs,rfl,rfl,Nat.le_refl _,by simp,hs.imp fun _ _ q=>q.mono (by omega) fun _ _ _ z=>z⟩)⟩
end
end bz
end
section
namespace bz
open Fg PySem
section
variable{M0 M:MH}{k n:Nat}{P:D}{m:Int}{fs:List Fd}{f:Fd}{nu:List D}
noncomputable def Gu(P:D)(m:Int):Px:=⟨P,m,0,0,[],[],[]⟩
theorem Jg:(aa ao (k+1)).call 11 [.ref M0.length,P,.int m] (M0++[.ins 0 []])=.ok .aq ((Gu P m).h M0):=by
 let σ:Sg:=[some (.ref M0.length),some P,some (.int m)]
 have st:∀{gs gs':List (Str×D)} {X Y:MH} {e:E} {d:D} {g:Str},ev (aa ao k) e σ (M0++.ins 0 gs::X)=.ok d (M0++.ins 0 gs::Y)->gs.length<1000->eF g d gs=gs'->ex (aa ao k) (.eB (.v 0) g e) σ (M0++.ins 0 gs::X)=.ok (.nx σ) (M0++.ins 0 gs'::Y):=fun {gs gs' X Y e d g} he hl hg=>by
  have h0:(M0++MO.ins 0 gs::Y)[M0.length]? = some (.ins 0 gs):=off 0 _
  have:=IT (Φ:=aa ao k) (σ:=σ) (a:=.v 0) (g:=g) (n:=M0.length) he rfl h0 hl hg
  rw[this]
  have e2:(M0++MO.ins 0 gs::Y).set M0.length (.ins 0 gs')=M0++MO.ins 0 gs'::Y:=offs 0 _ _
  rw[e2]
 have a1:=st (gs:=[]) (X:=[]) (Y:=[]) (e:=.v 1) (d:=P) (g:=w "program") rfl (by decide) rfl
 have a2:=st (gs:=[(w "program", P)]) (X:=[]) (Y:=[]) (e:=.v 2) (d:=.int m) (g:=w "most") (gs':=[(w "program", P), (w "most", .int m)]) rfl (by simp) (by simp only[eF, wn (a:="program") (b:="most"), if_false])
 have a3:=st (gs:=[(w "program", P), (w "most", .int m)]) (X:=[]) (Y:=[]) (e:=.k (.int 0)) (d:=.int 0) (g:=w "begun") (gs':=[(w "program", P), (w "most", .int m), (w "begun", .int 0)]) rfl (by simp) (by simp only[eF, wn (a:="program") (b:="begun"), wn (a:="most") (b:="begun"), if_false])
 have a4:=st (gs:=[(w "program", P), (w "most", .int m), (w "begun", .int 0)]) (X:=[]) (Y:=[]) (e:=.k (.int 0)) (d:=.int 0) (g:=w "under_way") (gs':=[(w "program", P), (w "most", .int m), (w "begun", .int 0), (w "under_way", .int 0)]) rfl (by simp) (by simp only[eF, wn (a:="program") (b:="under_way"), wn (a:="most") (b:="under_way"), wn (a:="begun") (b:="under_way"), if_false])
 have n1:∀{gs:List (Str×D)} {X:MH},ev (aa ao k) (.lst false .nil) σ (M0++.ins 0 gs::X)=.ok (.ref (M0.length+(X.length+1))) (M0++.ins 0 gs::(X++[.lst []])):=fun {gs X}=>by
  show R.ok (D.ref (M0++MO.ins 0 gs::X).length) (M0++MO.ins 0 gs::X++[MO.lst []])=_
  simp
 have a5:=st (gs:=[(w "program", P), (w "most", .int m), (w "begun", .int 0), (w "under_way", .int 0)]) (X:=[]) (Y:=[.lst []]) (g:=w "todo") (gs':=[(w "program", P), (w "most", .int m), (w "begun", .int 0), (w "under_way", .int 0), (w "todo", .ref (M0.length+1))]) n1 (by simp) (by simp only[eF, wn (a:="program") (b:="todo"), wn (a:="most") (b:="todo"), wn (a:="begun") (b:="todo"), wn (a:="under_way") (b:="todo"), if_false];rfl)
 have a6:=st (gs:=[(w "program", P), (w "most", .int m), (w "begun", .int 0), (w "under_way", .int 0), (w "todo", .ref (M0.length+1))]) (X:=[.lst []]) (Y:=[.lst [], .lst []]) (g:=w "waiting") (gs':=[(w "program", P), (w "most", .int m), (w "begun", .int 0), (w "under_way", .int 0), (w "todo", .ref (M0.length+1)), (w "waiting", .ref (M0.length+2))]) n1 (by simp) (by simp only[eF, wn (a:="program") (b:="waiting"), wn (a:="most") (b:="waiting"), wn (a:="begun") (b:="waiting"), wn (a:="under_way") (b:="waiting"), wn (a:="todo") (b:="waiting"), if_false];rfl)
 refine d8 fn11 rfl ((jy a1).trans ((jy a2).trans ((jy a3).trans ((jy a4).trans ((jy a5).trans ((jy a6).trans rfl)))))) ?_
 exact c9 M0.length (by simp) (by
  rw[show (M0++[MO.ins 0 []])[M0.length]? = some (.ins 0 []) from off 0 _]
  rw[show (M0++MO.ins 0 [(w "program", P), (w "most", .int m), (w "begun", .int 0), (w "under_way", .int 0), (w "todo", .ref (M0.length+1)), (w "waiting", .ref (M0.length+2))]::[MO.lst [], .lst []])[M0.length]? = some (.ins 0 [(w "program", P), (w "most", .int m), (w "begun", .int 0), (w "under_way", .int 0), (w "todo", .ref (M0.length+1)), (w "waiting", .ref (M0.length+2))]) from off 0 _]
  simp)
noncomputable abbrev sP(fs:List Fd)(nu:List D)(m:Int)(o:Option D):Sg:=[some (.lst (fs.map Fd.d)),some (.lst nu),some (.int m),o]
noncomputable def kW(M0:MH)(fs:List Fd)(f:Fd)(nu:List D)(m:Int):Px:={ Gu (.lst (fs.map Fd.d)) m with todo:=[aF (w "begin") f.bd.d (.ref (M0.length+3))], T:=[.dct (envOf [] (f.tk.map (·.1)) nu)] }
theorem oX:fN.body=.cons (.set 3 (.new 0 11 (.cons (.v 0) (.cons (.v 2) .nil)))) (.cons (.ex (.cZ 0 17 (w "put_off_body") (.v 3) (.cons (.k (.str (w "main"))) (.cons (.v 1) .nil)))) (.cons (.while pE pB) (.cons (.ret (.call 8 (.cons (.eU .pop true (.fld (.v 3) (w "waiting")) .nil) .nil))) .nil))):=rfl
theorem tS{ss:Ss}(hf:fs.find? (fun g=>decide (g.nm=w "main"))=some f)(ht:f.tk.length<=1000) :
  exs (aa ao (k+6)) (.cons (.set 3 (.new 0 11 (.cons (.v 0) (.cons (.v 2) .nil)))) (.cons (.ex (.cZ 0 17 (w "put_off_body") (.v 3) (.cons (.k (.str (w "main"))) (.cons (.v 1) .nil)))) ss)) (sP fs nu m none) M0=exs (aa ao (k+6)) ss (sP fs nu m (some (.ref M0.length))) ((kW M0 fs f nu m).h M0):=by
 have e1:=e_new (Φ:=aa ao (k+6)) (c:=0) (g:=11) (σ:=sP fs nu m none) (M:=M0) (M1:=M0) (M2:=(Gu (.lst (fs.map Fd.d)) m).h M0) (es:=.cons (.v 0) (.cons (.v 2) .nil)) (ds:=[.lst (fs.map Fd.d),.int m]) rfl (Jg (k:=k+4))
 have e2:ev (aa ao (k+6)) (.cZ 0 17 (w "put_off_body") (.v 3) (.cons (.k (.str (w "main"))) (.cons (.v 1) .nil))) (sP fs nu m (some (.ref M0.length))) ((Gu (.lst (fs.map Fd.d)) m).h M0)=.ok .aq ((kW M0 fs f nu m).h M0):=by
  rw[u_ (i:=3) rfl (by decide +kernel), kC (x:=.str (w "main")) (y:=.lst nu) (M1:=(Gu (.lst (fs.map Fd.d)) m).h M0) (M2:=(Gu (.lst (fs.map Fd.d)) m).h M0) rfl rfl, R.af]
  exact AE (k:=k+3) (s:=Gu (.lst (fs.map Fd.d)) m) (M0:=M0) (gv:=.lst nu) (fs:=fs) (f:=f) (z:=w "main") (vs:=nu) rfl hf rfl (show 0<line by decide) ht
 exact (aP e1).trans ((cI e2).trans rfl)
theorem at1{n:Nat}(hn:n<=99000):At fs m M0 (kW M0 fs f nu m) [] (envOf [] (f.tk.map (·.1)) nu) 0 0 0 (.p f.bd) n:=⟨rfl,rfl,rfl,rfl,rfl,rfl,by simp;omega,by show 0+n<950000;omega⟩
theorem u7{b':Int}{v:D}(hf:fs.find? (fun g=>decide (g.nm=w "main"))=some f)(ht:f.tk.length<=1000)(h:Ev fs m (envOf [] (f.tk.map (·.1)) nu) 0 0 (.p f.bd) n [v] b')(hn:n<=90000) :
  ∃T:MH,∀(y:D) (X:MH),(aa ao (k+6)).call 8 [v] (({ kW M0 fs f nu m with todo:=[],wt:=[],bg:=b',T:=T }:Px).h M0)=.ok y (({ kW M0 fs f nu m with todo:=[],wt:=[],bg:=b',T:=T++X }:Px).h M0) ->
   (aa ao (k+7)).call 10 [.lst (fs.map Fd.d),.lst nu,.int m] M0=gf false M0 y (({ kW M0 fs f nu m with todo:=[],wt:=[],bg:=b',T:=T++X }:Px).h M0):=by
 have Nu:(sP fs nu m (some (.ref M0.length)))[3]? = some (some (.ref M0.length)):=rfl
 obtain⟨Y,g⟩:=kh (k:=k) Nu h (kW M0 fs f nu m) [] 0 (at1 (by omega))
 refine⟨(kW M0 fs f nu m).T++Y,fun y X hy=>?_⟩
 let s2:Px:={ kW M0 fs f nu m with todo:=[],wt:=[v],bg:=b',T:=(kW M0 fs f nu m).T++Y }
 have c:=qZ (Φ:=aa ao (k+6)) (s:=s2) (M0:=M0) Nu
 have ew:ex (aa ao (k+6)) (.while pE pB) (sP fs nu m (some (.ref M0.length))) ((kW M0 fs f nu m).h M0)=.ok (.nx (sP fs nu m (some (.ref M0.length)))) (s2.h M0):=by
  rw[kB,fR]
  have q:=g (100000-n-1+1)
  rw[show n+(100000-n-1+1)=100000 by omega] at q
  show bT _ _ 100000 _ _=_
  rw[q,bT,show Px.h { kW M0 fs f nu m with todo:=[],wt:=(kW M0 fs f nu m).wt++[v],bg:=b',T:=(kW M0 fs f nu m).T++Y } M0=s2.h M0 from rfl,c]
  rfl
 have ep:=Ah (Φ:=aa ao (k+6)) (σ:=sP fs nu m (some (.ref M0.length))) (s:=s2) (M0:=M0) (i:=3) (p:=[]) (x:=v) rfl rfl
 have er:ev (aa ao (k+6)) (.call 8 (.cons (.eU .pop true (.fld (.v 3) (w "waiting")) .nil) .nil)) (sP fs nu m (some (.ref M0.length))) (s2.h M0)=.ok y (({ kW M0 fs f nu m with todo:=[], wt:=[], bg:=b', T:=(kW M0 fs f nu m).T++Y++X }:Px).h M0):=(bP ep).trans hy
 exact aN LJ rfl (by rw[oX];exact (tS hf ht).trans ((jy ew).trans (bH er))) rfl
theorem iI{e:Nat}(hf:fs.find? (fun g=>decide (g.nm=w "main"))=some f)(ht:f.tk.length<=1000)(h:mO fs m (envOf [] (f.tk.map (·.1)) nu) 0 0 (.p f.bd) n e)(hn:n<=90000):(aa ao (k+7)).call 10 [.lst (fs.map Fd.d), .lst nu, .int m] M0=.exc e M0:=by
 have Nu:(sP fs nu m (some (.ref M0.length)))[3]? = some (some (.ref M0.length)):=rfl
 have g:=go_x (k:=k) Nu h (kW M0 fs f nu m) [] 0 (at1 (by omega))
 obtain⟨s',q⟩:=g (100000-n)
 rw[show n+(100000-n)=100000 by omega] at q
 have ew:∀ss,exs (aa ao (k+6)) (.cons (.while pE pB) ss) (sP fs nu m (some (.ref M0.length))) ((kW M0 fs f nu m).h M0)=.ok (.xc e (sP fs nu m (some (.ref M0.length)))) (s'.h M0):=fun ss=>by
  rw[bN,kB,fR,show ao.turns=100000 from rfl,q];rfl
 exact jd LJ rfl (by rw[oX];exact (tS hf ht).trans (ew _)) (if_pos qF)
end
end bz
end
section
namespace bz
open Fg PySem
theorem fn19:ao.fn 19=some jm:=rfl
theorem fn20:ao.fn 20=some eW:=rfl
theorem ID:ao.fn 21=some ku:=rfl
theorem LG:ao.fn 22=some gC:=rfl
theorem LF:ao.fn 23=some fX:=rfl
theorem IC:ao.fn 24=some kr:=rfl
theorem fn25:ao.fn 25=some zP:=rfl
noncomputable def mixed(c:Int):Int:=(c % 2147483647+11)*48271*69621 % 2147483629
theorem yL(c:Int):0<=mixed c/\mixed c<2147483629:=by unfold mixed;omega
noncomputable def pG(c:Int):Nat:=(mixed c).toNat
theorem CG(c:Int):mixed c=(pG c:Int):=(Int.toNat_of_nonneg (yL c).1).symm
section
variable{M M1 M2:MH}{k:Nat}{Φ:aZ}{σ:Sg}{e e':E}
theorem DC{c:Int}:(aa ao (k+1)).call 19 [.int c] M=.ok (.int (pG c:Int)) M:=by
 have e:ev (aa ao k) (.op .mod true (.op .mul true (.op .mul true (.op .add true (.op .mod true (.v 0) (.k (.int 2147483647))) (.k (.int 11))) (.k (.int 48271))) (.k (.int 69621))) (.k (.int 2147483629))) [some (.int c)] M=.ok (.int (mixed c)) M:=by
  simp[om,fH,small,mixed]
 rw[<- CG]
 exact aN fn19 rfl (bH e) (au rfl rfl)
theorem E8{a b:Int}{fz:Bool}(he:ev Φ e σ M=.ok (.int a) M1)(hx:ev Φ e' σ M1=.ok (.int b) M2)(hb:0<b):ev Φ (.op .mod fz e e') σ M=.ok (.int (a % b)) M2:=by
 rw[gD,he,R.af,hx,R.af]
 simp only[om,fH,decide_eq_true hb,if_true]
theorem Fc{a b:Int}{fz:Bool}(he:ev Φ e σ M=.ok (.int a) M1)(hx:ev Φ e' σ M1=.ok (.int b) M2)(hb:0<b)(hs:b.natAbs<1073741824):ev Φ (.op .fdiv fz e e') σ M=.ok (.int (a / b)) M2:=by
 rw[gD,he,R.af,hx,R.af]
 simp only[om,fH,decide_eq_true hb,decide_eq_true hs,Bool.and_self,if_true]
theorem ja{a b:Nat}{fz:Bool}(he:ev Φ e σ M=.ok (.int (a:Int)) M1)(hx:ev Φ e' σ M1=.ok (.int (b:Int)) M2)(hb:0<b):ev Φ (.op .mod fz e e') σ M=.ok (.int ((a % b:Nat):Int)) M2:=by
 rw[E8 he hx (by omega),Int.natCast_emod]
theorem kF{a b:Nat}{fz:Bool}(he:ev Φ e σ M=.ok (.int (a:Int)) M1)(hx:ev Φ e' σ M1=.ok (.int (b:Int)) M2)(hb:0<b)(hs:b<1073741824):ev Φ (.op .fdiv fz e e') σ M=.ok (.int ((a / b:Nat):Int)) M2:=by
 rw[Fc he hx (by omega) (by omega),Int.natCast_ediv]
theorem uK{a b:Nat}(he:ev Φ e σ M=.ok (.int (a:Int)) M1)(hx:ev Φ e' σ M1=.ok (.int (b:Int)) M2):ev Φ (.cmp .eq e e') σ M=.ok (.bl (decide (a=b))) M2:=by
 rw[cE,he,R.af,hx,R.af]
 have:decide ((a:Int)=(b:Int))=decide (a=b):=by
  by_cases h:a=b
  ·simp[h]
  ·rw[decide_eq_false h,decide_eq_false (by omega)]
 simp only[bF,AH,N1,top,cA,Fg.plain,dep,Bool.and_self,Nat.zero_le,decide_true,Bool.or_self,if_true,p6,this]
theorem IY{x:Bool}(h:ev Φ e σ M=.ok (.bl x) M):ev Φ (.qu .int e) σ M=.ok (.int ((if x then 1 else 0:Nat):Int)) M:=by
 rw[Ab,h,R.af];cases x <;> rfl
theorem Me{x y:Bool}(h:ev Φ e σ M=.ok (.bl x) M)(h':x=true->ev Φ e' σ M=.ok (.bl y) M):ev Φ (.and e e') σ M=.ok (.bl (x&&y)) M:=by
 rw[r9,h,R.af]
 cases x with
 | true=>exact h' rfl
 | false=>rfl
theorem L6{a b:Nat}(he:ev Φ e σ M=.ok (.int (a:Int)) M)(hx:ev Φ e' σ M=.ok (.int (b:Int)) M):ev Φ (.mx false e e') σ M=.ok (.int ((min a b:Nat):Int)) M:=by
 rw[E2,he,R.af,hx,R.af]
 simp only[Bool.false_eq_true,if_false]
 by_cases h:(b:Int)<(a:Int)
 ·rw[if_pos h,Nat.min_eq_right (by omega)]
 ·rw[if_neg h,Nat.min_eq_left (by omega)]
theorem Mc{o:AS}{a b c:D}(he:ev Φ e σ M=.ok a M)(hx:ev Φ e' σ M=.ok b M)(h:bF o M a b=.ok c M):ev Φ (.cmp o e e') σ M=.ok c M:=by
 rw[cE,he,R.af,hx,R.af];exact h
theorem E7{a b:Str}(he:ev Φ e σ M=.ok (.str a) M1):ev Φ (.cmp .ne e (.k (.str b))) σ M=.ok (.bl (!decide (a=b))) M1:=by
 rw[cE,he,R.af,kD,R.af]
 simp[bF,AH,yJ,cA,top,Fg.plain,dep]
end
mutual
theorem p5:∀(d:D),Fg.plain d=true->aD d d=true
 | .aq,_=>by simp
 | .bl b,_=>by cases b <;> rfl
 | .int _,_=>by simp
 | .str _,_=>by simp
 | .tup ds,h=>by simp only[Fg.plain] at h;rw[pZ];exact i9 ds h
 | .lst ds,h=>by simp only[Fg.plain] at h;rw[jq];exact i9 ds h
 | .dct _ _,h=>by simp[Fg.plain] at h
 | .ref _,h=>by simp[Fg.plain] at h
theorem i9:∀(ds:List D),bE ds=true->cJ ds ds=true
 | [],_=>by simp
 | d::ds,h=>by
  simp only[bE,Bool.and_eq_true] at h
  rw[Dj,p5 d h.1,i9 ds h.2];rfl
end
theorem CD{M:MH}{a:D}(h1:AH a a=none)(ht:top M a=a)(hp:Fg.plain a=true)(hd:dep a<=100):bF .ne M a a=.ok (.bl false) M:=by
 have hc:cA a a=true:=by simp only[cA,hp,decide_eq_true hd,Bool.and_self,Bool.or_self]
 simp only[bF,h1,yJ,ht,hc,if_true,p5 a hp,Bool.not_true]
theorem zx:∀(is:List Int),bE (is.map D.int)=true/\deps (is.map D.int)<=0
 | []=>by simp[bE,deps]
 | i::is=>by
  obtain⟨h1,h2⟩:=zx is
  simp only[List.map_cons,bE,deps,Fg.plain,dep,h1,Bool.and_self,true_and];omega
end bz
end
section
namespace bz
open Fg PySem
inductive Oc(α:Type) where
 | ok (a:α) (b:Int)
 | ex (c:Nat)
noncomputable def Oc.bind{α β:Type}(o:Oc α)(g:α->Int->Oc β):Oc β:=match o with
 | .ok a b=>g a b
 | .ex c=>.ex c
theorem Oc.bind_assoc{α β γ:Type}(o:Oc α)(g:α->Int->Oc β)(h:β->Int->Oc γ):(o.bind g).bind h=o.bind fun a b=>(g a b).bind h:=by cases o <;> rfl
theorem Oc.af{α:Type}(o:Oc α):o.bind (fun a b=>.ok a b)=o:=by cases o <;> rfl
noncomputable def p2(a b:Pt):b6:=.cons a (.cons b .nil)
noncomputable def p1(a:Pt):b6:=.cons a .nil
noncomputable def iN:List Int->D
 | []=>.aq
 | i::is=>.tup [.str (layW true),.int (1+gJ (.int i)+gJ (iN is)),.int i,iN is]
theorem rK:∀is:List Int,gJ (iN is)=1+2*(is.length:Int)
 | []=>rfl
 | i::is=>by
  have:=rK is
  show 1+gJ (.int i)+gJ (iN is)=_
  rw[this,List.length_cons]
  show 1+1+(1+2*(is.length:Int))=_
  omega
theorem yQ:∀is:List Int,is.length<=499->(∀i∈is,mid i=true)->Vl (iN is)
 | [],_,_=>.aq
 | i::is,h,hm=>by
  simp only[List.length_cons] at h
  have hs:=rK is
  have h1:gJ (.int i)=1:=rfl
  exact .cell (by rw[hs,h1];omega) (by rw[hs,h1];omega) (.int (hm i List.mem_cons_self)) (yQ is (by omega) fun j hj=>hm j (List.mem_cons_of_mem _ hj))
theorem uh:∀is:List Int,JL (Tl 1) (iN is) (is.map D.int)
 | []=>.nil
 | i::is=>.cons (.inl ⟨i,rfl,rfl⟩) (uh is)
theorem Hr{is:List Int}(h:is.length<=499):Tl 2 (iN is) (.lst (is.map D.int)):=.inr (.inr ⟨_,rfl,by simp;omega,uh is⟩)
section
variable{α β γ:Type}{fs:List Fd}{m b u:Int}{env:Env}{val:α->D}{gd:α->Prop}{g8:β->D}{wO:β->Prop}{Bg:γ->D}{NF:γ->Prop}
noncomputable def bS(val:α->D)(gd:α->Prop)(fs:List Fd)(m:Int)(env:Env)(b u:Int)(p:Pt)(N:Nat):Oc α->Prop
 | .ok a b'=>gd a/\∃n,n<=N/\Ev fs m env b u (.p p) n [val a] b'
 | .ex c=>∃n,n<=N/\mO fs m env b u (.p p) n c
theorem bS.le{p:Pt}{N N':Nat}{o:Oc α}(h:bS val gd fs m env b u p N o)(hn:N<=N'):bS val gd fs m env b u p N' o:=by
 cases o with
 | ok a b'=>obtain⟨g,n,h1,h2⟩:=h;exact⟨g,n,Nat.le_trans h1 hn,h2⟩
 | ex c=>obtain⟨n,h1,h2⟩:=h;exact⟨n,Nat.le_trans h1 hn,h2⟩
theorem bS.call{p:Pt}{z x:Str}{kd:Kd}{f:Fd}{N N2:Nat}{o:Oc α}{g:α->Int->Oc β}(hf:fs.find? (fun g=>decide (g.nm=z))=some f)(ht:f.tk=[(x,kd)])(h:bS val gd fs m env b u p N o)
  (h2:∀a b,gd a->u+1<=12->bS g8 wO fs m [(.inr x,val a)] b (u+1) f.bd N2 (g a b)):bS g8 wO fs m env b u (.call z (p1 p)) (N+N2+4) (o.bind fun a b=>if m<b+1 then .ex 7 else if 12<u+1 then .ex 8 else g a (b+1)):=by
 have h8:(p1 p).ds.length<=8:=by simp[p1,b6.ds]
 cases o with
 | ok a b' =>
  obtain⟨ga,n,h1,e⟩:=h
  have ea:Ev fs m env b u (.ps (p1 p)) (n+0) [val a] b':=.cons e .kY
  show bS _ _ _ _ _ _ _ _ _ (if m<b'+1 then .ex 7 else if 12<u+1 then .ex 8 else g a (b'+1))
  by_cases hm:m<b'+1
  ·rw[if_pos hm]
   exact⟨n+0+2,by omega,.long h8 ea hm⟩
  ·rw[if_neg hm]
   by_cases hu:12<u+1
   ·rw[if_pos hu]
    exact⟨n+0+2,by omega,.deep h8 ea (by omega) hu⟩
   ·rw[if_neg hu]
    have q:=h2 a (b'+1) ga (by omega)
    have ee:envOf [] (f.tk.map (·.1)) [val a]=[(.inr x,val a)]:=by rw[ht];rfl
    revert q
    cases g a (b'+1) with
    | ok a2 b2=>rintro ⟨g2,n2,h3,e2⟩;exact⟨g2,n+0+n2+3,by omega,.call h8 ea (by omega) (by omega) hf (by rw[ht];simp) (by rw[ee];exact e2)⟩
    | ex c=>rintro ⟨n2,h3,e2⟩;exact⟨n+0+n2+2,by omega,.call2 h8 ea (by omega) (by omega) hf (by rw[ht];simp) (by rw[ee];exact e2)⟩
 | ex c=>obtain⟨n,h1,e⟩:=h;exact⟨n+1+1,by omega,.Fo h8 (.head (by simp[b6.ds]) e)⟩
theorem bS.two{o':Op}{p q:Pt}{N N2:Nat}{o:Oc α}{g:α->Int->Oc β}{f:α->β->Int->Oc γ}(h:bS val gd fs m env b u p N o)(h2:∀a b',o=.ok a b'->gd a->bS g8 wO fs m env b' u q N2 (g a b'))
  (hc:∀a a2 b,gd a->wO a2->(∃v,f a a2 b=.ok v b/\NF v/\dO o' [val a,g8 a2] (.ok (Bg v)))\/∃c,f a a2 b=.ex c/\dO o' [val a,g8 a2] (.exc c)) :
  bS Bg NF fs m env b u (.op o' (p2 p q)) (N+N2+4) (o.bind fun a b=>(g a b).bind fun a2 b2=>f a a2 b2):=by
 have h8:(p2 p q).ds.length<=8:=by simp[p2,b6.ds]
 have h9:(b6.cons q .nil).ds.length<=8:=by simp[b6.ds]
 cases o with
 | ok a b' =>
  obtain⟨ga,n,h1,e⟩:=h
  have qq:=h2 a b' rfl ga
  show bS _ _ _ _ _ _ _ _ _ ((g a b').bind _)
  revert qq
  cases g a b' with
  | ok a2 b2 =>
   rintro ⟨g2,n2,h3,e2⟩
   have ea:Ev fs m env b u (.ps (p2 p q)) (n+(n2+0)) [val a,g8 a2] b2:=.cons e (.cons e2 .kY)
   show bS _ _ _ _ _ _ _ _ _ (f a a2 b2)
   rcases hc a a2 b2 ga g2 with ⟨v,e3,g3,c3⟩ | ⟨c,e3,c3⟩
   ·rw[e3];exact⟨g3,n+(n2+0)+2,by omega,.op h8 ea c3⟩
   ·rw[e3];exact⟨n+(n2+0)+2,by omega,.om h8 ea c3⟩
  | ex c=>rintro ⟨n2,h3,e2⟩;exact⟨n+(n2+1)+1,by omega,.M9 h8 (.tail h9 e (.head (by simp[b6.ds]) e2))⟩
 | ex c=>obtain⟨n,h1,e⟩:=h;exact⟨n+1+1,by omega,.M9 h8 (.head h9 e)⟩
theorem bS.one{o':Op}{p:Pt}{N:Nat}{o:Oc α}{f:α->β}(h:bS val gd fs m env b u p N o)(hc:∀a,gd a->wO (f a)/\dO o' [val a] (.ok (g8 (f a)))):bS g8 wO fs m env b u (.op o' (p1 p)) (N+3) (o.bind fun a b=>.ok (f a) b):=by
 have h8:(p1 p).ds.length<=8:=by simp[p1,b6.ds]
 cases o with
 | ok a b' =>
  obtain⟨ga,n,h1,e⟩:=h
  obtain⟨g2,c⟩:=hc a ga
  exact⟨g2,n+0+2,by omega,.op h8 (.cons e .kY) c⟩
 | ex c=>obtain⟨n,h1,e⟩:=h;exact⟨n+1+1,by omega,.M9 h8 (.head (by simp[b6.ds]) e)⟩
theorem bS.ite{c q r:Pt}{i:Int}{N N2:Nat}{o:Oc α}{n:Nat}(h:Ev fs m env b u (.p c) n [.int i] b)(hn:n<=N)(h2:bS val gd fs m env b u (if i=0 then r else q) N2 o):bS val gd fs m env b u (.ite c q r) (N+N2+2) o:=by
 cases o with
 | ok a b'=>obtain⟨g,n2,h1,e⟩:=h2;exact⟨g,n+n2+2,by omega,.ite h e⟩
 | ex c=>obtain⟨n2,h1,e⟩:=h2;exact⟨n+n2+2,by omega,.Lq h e⟩
end
end bz
end
section
namespace bz
open Fg PySem
theorem aB{i:Int}(h:great i=false):mid i=true:=by
 unfold great qy at h
 unfold mid
 have h:=of_decide_eq_false h
 refine decide_eq_true ?_
 have:(i.natAbs:Int)<10 ^ 60:=Int.not_le.mp h
 have h2:i.natAbs<10 ^ 60:=by exact_mod_cast this
 exact Nat.lt_of_lt_of_le h2 (Nat.pow_le_pow_right (by decide) (by decide))
theorem pP{i:Int}{n:Nat}(h:i.natAbs<10 ^ n)(hn:n<=60):great i=false:=by
 unfold great qy
 refine decide_eq_false (Int.not_le.mpr ?_)
 have:i.natAbs<10 ^ 60:=Nat.lt_of_lt_of_le h (Nat.pow_le_pow_right (by decide) hn)
 exact_mod_cast this
noncomputable def nN:Pt:=.uf (w "n")
noncomputable def cD(p:Pt):Pt:=.call (w "down") (p1 p)
noncomputable def dnB:Pt:=.ite (.op (.rk .less) (p2 nN (.num 1))) (.nil .num) (.op (.lay true) (p2 nN (cD (.op (.rk .minus) (p2 nN (.num 1))))))
noncomputable def twB:Pt:=.call (w "twice") (p1 (.op (.rk .times) (p2 nN (.num 2))))
noncomputable def jt:Fd:=⟨w "down", [(w "n", .num)], .list .num, dnB⟩
noncomputable def fF:Fd:=⟨w "twice", [(w "n", .num)], .num, twB⟩
noncomputable def nU:Pt:=.uf (w "u")
noncomputable def mnB:Nat->Pt
 | 0=>cD nU
 | 1=>.op (.rk .plus) (p2 (.op .none (p1 (cD nU))) (.op .none (p1 (cD nU))))
 | _=>.call (w "twice") (p1 nU)
noncomputable def gw(f:Nat):Fd:=⟨w "main", [(w "u", .num)], if f=0 then .list .num else .num, mnB f⟩
noncomputable def jl(f:Nat):List Fd:=[jt,fF,gw f]
theorem rY{f:Nat}:(jl f).find? (fun g=>decide (g.nm=w "down"))=some jt:=by
 rw[jl,List.find?_cons_of_pos (by decide +kernel)]
theorem nK{f:Nat}:(jl f).find? (fun g=>decide (g.nm=w "twice"))=some fF:=by
 rw[jl,List.find?_cons_of_neg (by decide +kernel),List.find?_cons_of_pos (by decide +kernel)]
theorem iZ{f:Nat}:(jl f).find? (fun g=>decide (g.nm=w "main"))=some (gw f):=by
 rw[jl, List.find?_cons_of_neg (by decide +kernel), List.find?_cons_of_neg (by decide +kernel), List.find?_cons_of_pos (by show decide (w "main" = w "main")=true;decide +kernel)]
noncomputable def lJ(j:Nat)(xs:List Int):Prop:=xs.length<=j/\∀i∈xs,mid i=true
noncomputable def dB(m:Int):Nat->Int->Int->Oc (List Int)
 | 0,i,b=>if i<1 then .ok [] b else if m<b+1 then .ex 7 else .ex 8
 | j+1,i,b=>if i<1 then .ok [] b else if m<b+1 then .ex 7 else (dB m j (i-1) (b+1)).bind fun xs b'=>.ok (i::xs) b'
noncomputable def tB(m:Int):Nat->Int->Int->Oc (List Int)
 | 0,i,b=>if great (i*2) then .ex 5 else if m<b+1 then .ex 7 else .ex 8
 | j+1,i,b=>if great (i*2) then .ex 5 else if m<b+1 then .ex 7 else tB m j (i*2) (b+1)
theorem gs{i:Int}(h:i.natAbs<10):great i=false:=pP (n:=1) (by simpa using h) (by decide)
theorem kg{i:Int}(h:great i=false)(h1:¬ i<1):great (i-1)=false:=by
 unfold great at h ⊢
 have:=of_decide_eq_false h
 exact decide_eq_false (by omega)
section
variable{f:Nat}{m b u i:Int}
theorem Ht{x:Str}{v:D}:look [(.inr x,v)] (.inr x)=some v:=by simp[look]
theorem n_h{env:Env}{x:Str}(h:look env (.inr x)=some (.int i)):bS D.int (fun a=>a=i) (jl f) m env b u (.uf x) 1 (.ok i b):=⟨rfl,1,by omega,.uf h⟩
theorem um(hg:great i=false):Ev (jl f) m [(.inr (w "n"), .int i)] b u (.p (.op (.rk .less) (p2 nN (.num 1)))) 4 [.int (if i<1 then 1 else 0)] b:=by
 have c:=dO.rk (o:=.less) (aB hg) (aB (gs (i:=1) (by decide)))
 rw[if_neg (by simp[B3,kc])] at c
 exact .op (n:=1+(1+0)) (by simp[p2,b6.ds]) (.cons (.uf Ht) (.cons .num .kY)) c
theorem ym(hg:great i=false)(h1:¬ i<1):bS D.int (fun a=>a=i-1) (jl f) m [(.inr (w "n"), .int i)] b u (.op (.rk .minus) (p2 nN (.num 1))) 4 (.ok (i-1) b):=by
 have c:=dO.rk (o:=.minus) (aB hg) (aB (gs (i:=1) (by decide)))
 rw[if_neg (by simp[B3,kc,AX,kg hg h1])] at c
 exact⟨rfl,1+(1+0)+2,by omega,.op (by simp[p2,b6.ds]) (.cons (.uf Ht) (.cons .num .kY)) c⟩
theorem As{j N:Nat}{o:Oc (List Int)}{p:Pt}(hj:j<=20)(hg:great i=false)(h:bS iN (lJ j) (jl f) m [(.inr (w "n"), .int i)] b u p N o) :
  bS iN (lJ (j+1)) (jl f) m [(.inr (w "n"), .int i)] b u (.op (.lay true) (p2 nN p)) (N+5) (o.bind fun xs b'=>.ok (i::xs) b'):=by
 have q:=bS.two (o':=.lay true) (NF:=lJ (j+1)) (Bg:=iN) (g:=fun _ _=>o) (f:=fun a xs b=>Oc.ok (a::xs) b) (n_h (f:=f) (m:=m) (b:=b) (u:=u) (Ht (x:=w "n") (v:=.int i))) (fun a b' e ga=>by cases e;exact h) (fun a xs b' ga gx=>by
  subst ga
  have hz:=rK xs
  have hx:=gx.1
  have hv:Vl (iN xs):=yQ xs (by omega) gx.2
  have ha:=aB hg
  have hi:gJ (.int a)=1:=rfl
  have hc:=dO.lay (c:=true) (a:=.int a) (b:=iN xs) (.int ha) hv
  rw[if_neg (by rw[hz,hi];omega)] at hc
  exact .inl ⟨a::xs,rfl,⟨by rw[List.length_cons];omega,fun k hk=>by
   rcases List.mem_cons.mp hk with rfl | hk
   ·exact ha
   ·exact gx.2 k hk⟩,hc⟩)
 exact bS.le q (by omega)
theorem dn_h:∀(j:Nat) (i b u:Int), j<=12->u+j=12->great i=false->bS iN (lJ j) (jl f) m [(.inr (w "n"), .int i)] b u dnB (40*(j+1)) (dB m j i b):=by
 intro j
 induction j with
 | zero =>
  intro i b u _ hu hg
  have hc:=um (f:=f) (m:=m) (b:=b) (u:=u) hg
  by_cases h1:i<1
  ·rw[if_pos h1] at hc
   rw[dB,if_pos h1]
   exact bS.le (bS.ite hc (Nat.le_refl _) (N2:=1) ⟨⟨Nat.zero_le _,fun _ z=>by cases z⟩,1,by omega,.nil⟩) (by omega)
  ·rw[if_neg h1] at hc
   rw[dB,if_neg h1]
   have c:=bS.call (f:=jt) (x:=w "n") (kd:=.num) (N2:=0) (g8:=iN) (wO:=lJ 0) (g:=fun _ _=>.ex 0) rY rfl (ym (f:=f) (m:=m) (b:=b) (u:=u) hg h1) (fun a b _ z=>by omega)
   have e:(Oc.ok (i-1) b:Oc Int).bind (fun a b=>if m<b+1 then Oc.ex 7 else if 12<u+1 then .ex 8 else .ex 0)=if m<b+1 then (Oc.ex 7:Oc (List Int)) else .ex 8:=by
    show (if m<b+1 then Oc.ex 7 else if 12<u+1 then .ex 8 else .ex 0)=_
    rw[if_pos (show 12<u+1 by omega)]
   rw[e] at c
   have q:=As (j:=0) (by omega) hg c
   have e2:(if m<b+1 then (Oc.ex 7:Oc (List Int)) else .ex 8).bind (fun xs b'=>.ok (i::xs) b')=if m<b+1 then (Oc.ex 7:Oc (List Int)) else .ex 8:=by split <;> rfl
   rw[e2] at q
   have q':bS iN (lJ 0) (jl f) m [(.inr (w "n"), .int i)] b u (.op (.lay true) (p2 nN (cD (.op (.rk .minus) (p2 nN (.num 1)))))) (4+0+4+5) (if m<b+1 then (Oc.ex 7:Oc (List Int)) else .ex 8):=by
    revert q;split <;> exact fun q=>q
   exact bS.le (bS.ite hc (Nat.le_refl _) q') (by omega)
 | succ j ih =>
  intro i b u hj hu hg
  have hc:=um (f:=f) (m:=m) (b:=b) (u:=u) hg
  by_cases h1:i<1
  ·rw[if_pos h1] at hc
   rw[dB,if_pos h1]
   exact bS.le (bS.ite hc (Nat.le_refl _) (N2:=1) ⟨⟨Nat.zero_le _,fun _ z=>by cases z⟩,1,by omega,.nil⟩) (by omega)
  ·rw[if_neg h1] at hc
   rw[dB,if_neg h1]
   have c:=bS.call (f:=jt) (x:=w "n") (kd:=.num) (N2:=40*(j+1)) (g8:=iN) (wO:=lJ j) (g:=fun a b=>dB m j a b) rY rfl (ym (f:=f) (m:=m) (b:=b) (u:=u) hg h1) (fun a b ga z=>by subst ga;exact ih (i-1) b (u+1) (by omega) (by omega) (kg hg h1))
   have e:(Oc.ok (i-1) b:Oc Int).bind (fun a b=>if m<b+1 then Oc.ex 7 else if 12<u+1 then .ex 8 else dB m j a (b+1))=if m<b+1 then (Oc.ex 7:Oc (List Int)) else dB m j (i-1) (b+1):=by
    show (if m<b+1 then Oc.ex 7 else if 12<u+1 then .ex 8 else dB m j (i-1) (b+1))=_
    rw[if_neg (show ¬ 12<u+1 by omega)]
   rw[e] at c
   have q:=As (j:=j) (by omega) hg c
   have e2:(if m<b+1 then (Oc.ex 7:Oc (List Int)) else dB m j (i-1) (b+1)).bind (fun xs b'=>.ok (i::xs) b')=if m<b+1 then (Oc.ex 7:Oc (List Int)) else (dB m j (i-1) (b+1)).bind fun xs b'=>.ok (i::xs) b':=by split <;> rfl
   rw[e2] at q
   exact bS.le (bS.ite hc (Nat.le_refl _) q) (by omega)
theorem sS(hg:great i=false):bS D.int (fun a=>a=i*2/\great a=false) (jl f) m [(.inr (w "n"), .int i)] b u (.op (.rk .times) (p2 nN (.num 2))) 4 (if great (i*2) then .ex 5 else .ok (i*2) b):=by
 have c:=dO.rk (o:=.times) (aB hg) (aB (gs (i:=2) (by decide)))
 have e:B3 .times i 2=great (i*2):=by simp[B3,kc,AX]
 rw[e] at c
 cases h:great (i*2) with
 | true=>rw[h] at c;exact⟨1+(1+0)+2,by omega,.om (by simp[p2,b6.ds]) (.cons (.uf Ht) (.cons .num .kY)) c⟩
 | false=>rw[h] at c;exact⟨⟨rfl,h⟩,1+(1+0)+2,by omega,.op (by simp[p2,b6.ds]) (.cons (.uf Ht) (.cons .num .kY)) c⟩
theorem tw_h:∀(j:Nat) (i b u:Int), j<=12->u+j=12->great i=false->bS iN (lJ 0) (jl f) m [(.inr (w "n"), .int i)] b u twB (40*(j+1)) (tB m j i b):=by
 intro j
 induction j with
 | zero =>
  intro i b u _ hu hg
  have c:=bS.call (f:=fF) (x:=w "n") (kd:=.num) (N2:=0) (g8:=iN) (wO:=lJ 0) (g:=fun _ _=>.ex 0) nK rfl (sS (f:=f) (m:=m) (b:=b) (u:=u) hg) (fun a b _ z=>by omega)
  refine bS.le (N:=4+0+4) ?_ (by omega)
  rw[tB]
  revert c
  cases great (i*2) with
  | true=>exact fun c=>c
  | false =>
   intro c
   have e:(Oc.ok (i*2) b:Oc Int).bind (fun a b=>if m<b+1 then Oc.ex 7 else if 12<u+1 then .ex 8 else .ex 0)=if m<b+1 then (Oc.ex 7:Oc (List Int)) else .ex 8:=by
    show (if m<b+1 then Oc.ex 7 else if 12<u+1 then .ex 8 else .ex 0)=_
    rw[if_pos (show 12<u+1 by omega)]
   exact e ▸ c
 | succ j ih =>
  intro i b u hj hu hg
  have c:=bS.call (f:=fF) (x:=w "n") (kd:=.num) (N2:=40*(j+1)) (g8:=iN) (wO:=lJ 0) (g:=fun a b=>tB m j a b) nK rfl (sS (f:=f) (m:=m) (b:=b) (u:=u) hg) (fun a b ga z=>ih a b (u+1) (by omega) (by omega) ga.2)
  refine bS.le (N:=4+40*(j+1)+4) ?_ (by omega)
  rw[tB]
  revert c
  cases great (i*2) with
  | true=>exact fun c=>c
  | false =>
   intro c
   have e:(Oc.ok (i*2) b:Oc Int).bind (fun a b=>if m<b+1 then Oc.ex 7 else if 12<u+1 then .ex 8 else tB m j a (b+1))=if m<b+1 then (Oc.ex 7:Oc (List Int)) else tB m j (i*2) (b+1):=by
    show (if m<b+1 then Oc.ex 7 else if 12<u+1 then .ex 8 else tB m j (i*2) (b+1))=_
    rw[if_neg (show ¬ 12<u+1 by omega)]
   exact e ▸ c
end
end bz
end
section
namespace bz
open Fg PySem
noncomputable def cnt(m bg:Int):Int->Nat->Option Nat
 | _,0=>none
 | u,c+1=>if m<bg+(u+1) then some 7 else if 12<u+1 then some 8 else cnt m bg (u+1) c
theorem uZ{m bg:Int}:∀(j:Nat) (u:Int) (c c':Nat),u+j=12->j<c->j<c'->cnt m bg u c=cnt m bg u c'
 | j,u,0,_,_,h,_=>by omega
 | j,u,_,0,_,_,h=>by omega
 | 0,u,c+1,c'+1,hu,_,_=>by
  unfold cnt
  rw[if_pos (show 12<u+1 by omega),if_pos (show 12<u+1 by omega)]
 | j+1,u,c+1,c'+1,hu,h,h'=>by
  unfold cnt
  rw[uZ j (u+1) c c' (by omega) (by omega) (by omega)]
theorem Dt{m bg:Int}{c:Nat}:cnt m bg 0 (min c 40)=cnt m bg 0 c:=by
 by_cases h:c<=40
 ·rw[Nat.min_eq_left h]
 ·rw[Nat.min_eq_right (by omega)];exact uZ 12 0 40 c (by omega) (by omega) (by omega)
noncomputable def dl(n:Nat):List Int:=(List.range n).map fun (k:Nat)=>(n:Int)-(k:Int)
theorem uO(n:Nat):dl (n+1)=((n:Int)+1)::dl n:=by
 unfold dl
 rw[List.range_succ_eq_map,List.map_cons,List.map_map]
 refine List.cons_eq_cons.mpr ⟨by show ((n+1:Nat):Int)-((0:Nat):Int)=_;omega,List.map_congr_left fun k _=>?_⟩
 show ((n+1:Nat):Int)-((k+1:Nat):Int)=_
 omega
noncomputable def JB(r:Option Nat)(i:Int)(b:Int):Oc (List Int):=match r with
 | some c=>.ex c
 | none=>.ok (dl i.toNat) b
theorem Aq{m bg:Int}:∀(j:Nat) (u i:Int),u+j=12->dB m j i (bg+u)=JB (cnt m bg u i.toNat) i (bg+u+(i.toNat:Int))
 | 0, u, i, hu=>by
  by_cases h:i<1
  ·have e:i.toNat=0:=by omega
   rw[dB,if_pos h,e]
   simp[cnt,JB,dl,e]
  ·obtain⟨c,e⟩:∃c,i.toNat=c+1:=⟨i.toNat-1,by omega⟩
   rw[dB,if_neg h,e,cnt,if_pos (show 12<u+1 by omega),show bg+(u+1)=bg+u+1 by omega]
   split <;> rfl
 | j+1, u, i, hu=>by
  by_cases h:i<1
  ·have e:i.toNat=0:=by omega
   rw[dB,if_pos h,e]
   simp[cnt,JB,dl,e]
  ·obtain⟨c,e⟩:∃c,i.toNat=c+1:=⟨i.toNat-1,by omega⟩
   have e1:(i-1).toNat=c:=by omega
   have ih:=Aq (m:=m) (bg:=bg) j (u+1) (i-1) (by omega)
   rw[dB,if_neg h,show bg+u+1=bg+(u+1) by omega,ih,e1,e,cnt,if_neg (show ¬ 12<u+1 by omega)]
   split
   ·rfl
   ·cases cnt m bg (u+1) c with
    | some d=>rfl
    | none =>
     have ei:i=(c:Int)+1:=by omega
     show Oc.ok (i::dl (i-1).toNat) _=Oc.ok (dl i.toNat) _
     rw[e1,e,uO,<- ei]
     congr 1
     omega
noncomputable def cO(m i bg:Int):Oc (List Int):=JB (cnt m bg 0 (i.toNat+1)) i (bg+1+(i.toNat:Int))
theorem Mw{m i bg:Int}:(if m<bg+1 then Oc.ex 7 else dB m 11 i (bg+1))=cO m i bg:=by
 unfold cO
 rw[cnt,if_neg (show ¬ (12:Int)<0+1 by omega),show bg+(0+1)=bg+1 by omega,show (0:Int)+1=1 by omega,Aq 11 1 i (by omega)]
 split <;> rfl
noncomputable def tO(m i:Int):Oc (List Int):=if m<1 then .ex 7 else tB m 11 i 1
section
variable{f:Nat}{m b i:Int}
theorem sj(hg:great i=false):bS iN (lJ 11) (jl f) m [(.inr (w "u"), .int i)] b 0 (cD nU) 500 (cO m i b):=by
 have c:=bS.call (f:=jt) (x:=w "n") (kd:=.num) (N2:=40*12) (g8:=iN) (wO:=lJ 11) (g:=fun a b=>dB m 11 a b) rY rfl (n_h (f:=f) (m:=m) (b:=b) (u:=0) (Ht (x:=w "u") (v:=.int i))) (fun a b ga _=>by subst ga;exact dn_h 11 a b (0+1) (by omega) (by omega) hg)
 have e:(Oc.ok i b:Oc Int).bind (fun a b=>if m<b+1 then Oc.ex 7 else if (12:Int)<0+1 then .ex 8 else dB m 11 a (b+1))=cO m i b:=by
  show (if m<b+1 then Oc.ex 7 else if (12:Int)<0+1 then .ex 8 else dB m 11 i (b+1))=_
  rw[if_neg (show ¬ (12:Int)<0+1 by omega),Mw]
 rw[e] at c
 exact bS.le c (by omega)
theorem Bh(hg:great i=false):bS iN (lJ 0) (jl f) m [(.inr (w "u"), .int i)] 0 0 (.call (w "twice") (p1 nU)) 500 (tO m i):=by
 have c:=bS.call (f:=fF) (x:=w "n") (kd:=.num) (N2:=40*12) (g8:=iN) (wO:=lJ 0) (g:=fun a b=>tB m 11 a b) nK rfl (n_h (f:=f) (m:=m) (b:=0) (u:=0) (Ht (x:=w "u") (v:=.int i))) (fun a b ga _=>by subst ga;exact tw_h 11 a b (0+1) (by omega) (by omega) hg)
 have e:(Oc.ok i 0:Oc Int).bind (fun a b=>if m<b+1 then Oc.ex 7 else if (12:Int)<0+1 then .ex 8 else tB m 11 a (b+1))=tO m i:=by
  show (if m<0+1 then Oc.ex 7 else if (12:Int)<0+1 then .ex 8 else tB m 11 i (0+1))=_
  rw[if_neg (show ¬ (12:Int)<0+1 by omega)]
  rfl
 rw[e] at c
 exact bS.le c (by omega)
noncomputable def eI(xs:List Int):Int:=if xs.isEmpty then 1 else 0
theorem yH{o:Oc (List Int)}{p:Pt}{N:Nat}{env:Env}(h:bS iN (lJ 11) (jl f) m env b 0 p N o):bS D.int (fun a=>a=0\/a=1) (jl f) m env b 0 (.op .none (p1 p)) (N+3) (o.bind fun xs b=>.ok (eI xs) b) :=
 bS.one h fun xs _=>by
  cases xs with
  | nil=>exact⟨.inr rfl,dO.none (v:=iN [])⟩
  | cons x xs=>exact⟨.inl rfl,dO.none (v:=iN (x::xs))⟩
theorem GC(hg:great i=false):bS D.int (fun _=>True) (jl f) m [(.inr (w "u"), .int i)] 0 0 (mnB 1) 1100 ((cO m i 0).bind fun xs b=>(cO m i b).bind fun ys b2=>.ok (eI xs+eI ys) b2):=by
 have q:=bS.two (o':=.rk .plus) (Bg:=D.int) (NF:=fun _=>True) (g:=fun _ b=>(cO m i b).bind fun ys b2=>.ok (eI ys) b2) (f:=fun a a2 b=>Oc.ok (a+a2) b) (yH (sj (f:=f) (m:=m) (b:=0) hg)) (fun a b' _ _=>yH (sj (f:=f) (m:=m) (b:=b') hg)) (fun a a2 b' ga g2=>by
  have ha:a.natAbs<10:=by rcases ga with rfl | rfl <;> decide
  have h2:a2.natAbs<10:=by rcases g2 with rfl | rfl <;> decide
  have hs:great (a+a2)=false:=gs (by rcases ga with rfl | rfl <;> rcases g2 with rfl | rfl <;> decide)
  have c:=dO.rk (o:=.plus) (aB (gs ha)) (aB (gs h2))
  rw[if_neg (by simp[B3,kc,AX,hs])] at c
  exact .inl ⟨_,rfl,trivial,c⟩)
 rw[Oc.bind_assoc] at q
 have e:((cO m i 0).bind fun xs b=>(Oc.ok (eI xs) b:Oc Int).bind fun a b=>((cO m i b).bind fun ys b2=>Oc.ok (eI ys) b2).bind fun a2 b2=>Oc.ok (a+a2) b2)=(cO m i 0).bind fun xs b=>(cO m i b).bind fun ys b2=>.ok (eI xs+eI ys) b2:=by
  congr 1
  funext xs b
  show ((cO m i b).bind fun ys b2=>Oc.ok (eI ys) b2).bind (fun a2 b2=>Oc.ok (eI xs+a2) b2)=_
  rw[Oc.bind_assoc]
  rfl
 rw[e] at q
 exact bS.le q (by omega)
end
end bz
end
section
namespace bz
open Fg PySem
noncomputable def wd:Option Nat->Str
 | none=>w ""
 | some 5=>w "great"
 | some 7=>w "long"
 | some _=>w "deep"
section
variable{k:Nat}{M:MH}
theorem DB:(aa ao (k+1)).call 24 [.g7 5] M=.ok (.str (w "great")) M :=
 aN IC rfl (d:=.str (w "great")) (M':=M) (by cases k <;> rfl) (au rfl rfl)
theorem DA:(aa ao (k+1)).call 24 [.g7 7] M=.ok (.str (w "long")) M :=
 aN IC rfl (d:=.str (w "long")) (M':=M) (by cases k <;> rfl) (au rfl rfl)
theorem Dz:(aa ao (k+1)).call 24 [.g7 8] M=.ok (.str (w "deep")) M :=
 aN IC rfl (d:=.str (w "deep")) (M':=M) (by cases k <;> rfl) (au rfl rfl)
noncomputable def JJ:Ss:=.cons (.ifs (.cmp .gt (.op .add true (.v 1) (.v 3)) (.v 2)) (.cons (.ret (.k (.str (w "long")))) .nil) .nil) (.cons (.ifs (.cmp .gt (.v 3) (.k (.int 12))) (.cons (.ret (.k (.str (w "deep")))) .nil) .nil) .nil)
theorem uY{c0 bg m:Int}:∀(c:Nat) (u:Int) (o:Option D),bh (exs (aa ao k) JJ) [3] (aO M .aq) ((List.range c).map fun (j:Nat)=>D.int (u+1+(j:Int))) [some (.int c0),some (.int bg),some (.int m),o] M =
  match cnt m bg u c with
  | some e=>.ok (.rt (.str (wd (some e)))) M
  | none=>.ok (.nx [some (.int c0),some (.int bg),some (.int m),if c=0 then o else some (.int (u+c))]) M
 | 0,u,o=>by simp[bh,cnt]
 | c+1, u, o=>by
  have ih:=uY (c0:=c0) (bg:=bg) (m:=m) c (u+1) (some (.int (u+1)))
  have el:((List.range (c+1)).map fun (j:Nat)=>D.int (u+1+(j:Int)))=D.int (u+1)::(List.range c).map fun (j:Nat)=>D.int (u+1+1+(j:Int)):=by
   rw[List.range_succ_eq_map,List.map_cons,List.map_map]
   refine List.cons_eq_cons.mpr ⟨by simp,List.map_congr_left fun j _=>?_⟩
   show D.int (u+1+((j+1:Nat):Int))=_
   congr 1;omega
  rw[el,bh,cnt]
  show (exs (aa ao k) JJ [some (.int c0),some (.int bg),some (.int m),some (.int (u+1))] M).bind _=_
  have g1:ev (aa ao k) (.cmp .gt (.op .add true (.v 1) (.v 3)) (.v 2)) [some (.int c0),some (.int bg),some (.int m),some (.int (u+1))] M=.ok (.bl (decide (m<bg+(u+1)))) M:=we rfl rfl rfl
  have g2:ev (aa ao k) (.cmp .gt (.v 3) (.k (.int 12))) [some (.int c0),some (.int bg),some (.int m),some (.int (u+1))] M=.ok (.bl (decide (12<u+1))) M:=we rfl rfl rfl
  by_cases h1:m<bg+(u+1)
  ·rw[if_pos h1]
   rw[decide_eq_true h1] at g1
   rw[show exs (aa ao k) JJ [some (.int c0),some (.int bg),some (.int m),some (.int (u+1))] M=_ from bK g1 (bH rfl)]
   rfl
  ·rw[if_neg h1]
   rw[decide_eq_false h1] at g1
   by_cases h2:12<u+1
   ·rw[if_pos h2]
    rw[decide_eq_true h2] at g2
    rw[show exs (aa ao k) JJ [some (.int c0),some (.int bg),some (.int m),some (.int (u+1))] M=_ from (aA g1).trans (bK g2 (bH rfl))]
    rfl
   ·rw[if_neg h2]
    rw[decide_eq_false h2] at g2
    rw[show exs (aa ao k) JJ [some (.int c0),some (.int bg),some (.int m),some (.int (u+1))] M=.ok (.nx [some (.int c0),some (.int bg),some (.int m),some (.int (u+1))]) M from (aA g1).trans ((aA g2).trans rfl)]
    show bh (exs (aa ao k) JJ) [3] (aO M .aq) _ _ M=_
    rw[ih]
    cases cnt m bg (u+1) c with
    | some e=>rfl
    | none =>
     show R.ok (Out.nx _) M=R.ok (Out.nx _) M
     by_cases hc:c=0
     ·subst hc;simp
     ·rw[if_neg hc,if_neg (Nat.succ_ne_zero c),show u+1+(c:Int)=u+((c+1:Nat):Int) by omega]
theorem wF{bg m:Int}{c:Nat}(hc:c<=40):(aa ao (k+1)).call 22 [.int c,.int bg,.int m] M=.ok (.str (wd (cnt m bg 0 c))) M:=by
 have hl:=uY (k:=k) (M:=M) (c0:=c) (bg:=bg) (m:=m) c 0 none
 have ei:bA (aa ao k) (.fj (.k (.int 1)) (.op .add true (.v 0) (.k (.int 1)))) [some (.int c),some (.int bg),some (.int m),none] M=.ok (.aq,(List.range c).map fun (j:Nat)=>D.int (0+1+(j:Int)),false) M:=by
  have e2:jW 1 ((c:Int)+1)=(List.range c).map fun (j:Nat)=>D.int (0+1+(j:Int)):=by
   unfold jW
   rw[show ((c:Int)+1-1).toNat=c by omega]
   rfl
  rw[<- e2]
  have h1:(gg 1&&gg ((c:Int)+1))=true:=by simp[gg];omega
  rw[zX]
  show (if gg 1&&gg ((c:Int)+1) then _ else _)=_
  rw[h1];rfl
 cases h:cnt m bg 0 c with
 | some e =>
  rw[h] at hl
  exact aN LG rfl (qS ei hl) (au rfl rfl)
 | none =>
  rw[h] at hl
  exact aN LG rfl ((xS ei hl).trans (bH rfl)) (au rfl rfl)
end
end bz
end
section
namespace bz
open Fg PySem
noncomputable def tW(m:Int):Nat->Int->Int->Nat
 | 0,u,n=>if great n then 5 else if m<u+1 then 7 else 8
 | j+1,u,n=>if great n then 5 else if m<u+1 then 7 else tW m j (u+1) (2*n)
theorem Ec{m:Int}:∀(j:Nat) (i b:Int),tB m j i b=.ex (tW m j b (2*i))
 | 0,i,b=>by
  rw[tB,tW,Int.mul_comm i 2]
  split
  ·rfl
  ·split <;> rfl
 | j+1,i,b=>by
  rw[tB,tW,Int.mul_comm i 2,Ec j (2*i) (b+1)]
  split
  ·rfl
  ·split <;> rfl
theorem J6{m i:Int}(hg:great i=false):tO m i=.ex (tW m 12 0 i):=by
 have e:tW m 12 0 i=if m<1 then 7 else tW m 11 1 (2*i):=by
  rw[tW,hg];rfl
 rw[tO,Ec,e]
 split <;> rfl
theorem D6{m:Int}:∀(j:Nat) (u n:Int),tW m j u n=5\/tW m j u n=7\/tW m j u n=8
 | 0,u,n=>by rw[tW];split;exact .inl rfl;split;exact .inr (.inl rfl);exact .inr (.inr rfl)
 | j+1,u,n=>by rw[tW];split;exact .inl rfl;split;exact .inr (.inl rfl);exact D6 j _ _
noncomputable def xN(z:String):D:=.tup [.str (w z),.aq]
noncomputable def rT(z:String):Ss:=.cons (.ret (.tup (.cons (.k (.str (w z))) (.cons (.k .aq) .nil)))) .nil
noncomputable def JX:Ss:=.cons (.ifs (.cmp .ge (.qu .abs (.v 1)) (.op .pow true (.k (.int 10)) (.k (.int 60)))) (rT "great") .nil) (.cons (.ifs (.cmp .gt (.v 4) (.v 2)) (rT "long") .nil) (.cons (.ifs (.cmp .gt (.v 4) (.k (.int 12))) (rT "deep") .nil) (.cons (.set 1 (.op .mul true (.k (.int 2)) (.v 1))) .nil)))
section
variable{k:Nat}{M:MH}
noncomputable abbrev sW(f:D)(n m cs:Int)(o:Option D):Sg:=[some f,some (.int n),some (.int m),some (.int cs),o,none]
theorem sO(u:Int)(c:Nat):((List.range (c+1)).map fun (q:Nat)=>D.int (u+1+(q:Int)))=D.int (u+1)::(List.range c).map fun (q:Nat)=>D.int (u+1+1+(q:Int)):=by
 rw[List.range_succ_eq_map,List.map_cons,List.map_map]
 refine List.cons_eq_cons.mpr ⟨by simp,List.map_congr_left fun j _=>?_⟩
 show D.int (u+1+((j+1:Nat):Int))=_
 congr 1;omega
theorem sQ{f:D}{n m cs v:Int}:exs (aa ao k) JX (sW f n m cs (some (.int v))) M=if great n then .ok (.rt (xN "great")) M else if m<v then .ok (.rt (xN "long")) M else if 12<v then .ok (.rt (xN "deep")) M else .ok (.nx (sW f (2*n) m cs (some (.int v)))) M:=by
 have e1:ev (aa ao k) (.cmp .ge (.qu .abs (.v 1)) (.op .pow true (.k (.int 10)) (.k (.int 60)))) (sW f n m cs (some (.int v))) M=.ok (.bl (great n)) M:=Ma (Fi rfl) Ai rfl
 have e2:ev (aa ao k) (.cmp .gt (.v 4) (.v 2)) (sW f n m cs (some (.int v))) M=.ok (.bl (decide (m<v))) M:=we rfl rfl rfl
 have e3:ev (aa ao k) (.cmp .gt (.v 4) (.k (.int 12))) (sW f n m cs (some (.int v))) M=.ok (.bl (decide (12<v))) M:=we rfl rfl rfl
 cases hq:great n with
 | true=>rw[hq] at e1;exact bK e1 rfl
 | false =>
  rw[hq] at e1
  show _=if m<v then _ else _
  by_cases h1:m<v
  ·rw[decide_eq_true h1] at e2
   rw[if_pos h1];exact (aA e1).trans (bK e2 rfl)
  ·rw[decide_eq_false h1] at e2
   rw[if_neg h1]
   by_cases h2:12<v
   ·rw[decide_eq_true h2] at e3
    rw[if_pos h2];exact (aA e1).trans ((aA e2).trans (bK e3 rfl))
   ·rw[decide_eq_false h2] at e3
    rw[if_neg h2]
    have e4:ev (aa ao k) (.op .mul true (.k (.int 2)) (.v 1)) (sW f n m cs (some (.int v))) M=.ok (.int (2*n)) M:=p7 rfl rfl (aB (gs (i:=2) (by decide))) (aB hq)
    exact (aA e1).trans ((aA e2).trans ((aA e3).trans ((aP e4).trans rfl)))
theorem Bj{m cs:Int}{f:D}:∀(j:Nat) (c:Nat) (u n:Int) (o:Option D),u+j=12->j<c->bh (exs (aa ao k) JX) [4] (aO M .aq) ((List.range c).map fun (q:Nat)=>D.int (u+1+(q:Int))) (sW f n m cs o) M=.ok (.rt (.tup [.str (wd (some (tW m j u n))),.aq])) M:=by
 intro j
 induction j with
 | zero =>
  intro c u n o hu hc
  obtain⟨c,rfl⟩:∃d,c=d+1:=⟨c-1,by omega⟩
  rw[sO,bh,tW]
  show (exs (aa ao k) JX (sW f n m cs (some (.int (u+1)))) M).bind _=_
  rw[sQ,if_pos (show 12<u+1 by omega)]
  split
  ·rfl
  ·split <;> rfl
 | succ j ih =>
  intro c u n o hu hc
  obtain⟨c,rfl⟩:∃d,c=d+1:=⟨c-1,by omega⟩
  have h:=ih c (u+1) (2*n) (some (.int (u+1))) (by omega) (by omega)
  rw[sO,bh,tW]
  show (exs (aa ao k) JX (sW f n m cs (some (.int (u+1)))) M).bind _=_
  rw[sQ,if_neg (show ¬ 12<u+1 by omega)]
  split
  ·rfl
  ·split
   ·rfl
   ·exact h
end
end bz
end
section
namespace bz
open Fg PySem
section
variable{k:Nat}{M:MH}
theorem IW{Φ:aZ}{σ:Sg}{i:Int}(h:σ[1]? = some (some (.int i))):ev Φ (.mx true (.k (.int 0)) (.v 1)) σ M=.ok (.int (i.toNat:Int)) M:=by
 rw[E2,kD,R.af,e_v h,R.af]
 by_cases hi:0<i
 ·simp[hi];omega
 ·simp[hi];omega
theorem Dl{Φ:aZ}{σ:Sg}{c:Nat}(h:σ[3]? = some (some (.int (c:Int)))):ev Φ (.mx false (.v 3) (.k (.int 40))) σ M=.ok (.int ((min c 40:Nat):Int)) M:=L6 (e_v h) rfl
noncomputable def rest:Ss:=match fX.body with
 | .cons _ (.cons _ r)=>r
 | _=>.nil
theorem Am:fX.body=.cons (.set 3 (.op .add true (.k (.int 1)) (.mx true (.k (.int 0)) (.v 1)))) (.cons (.ifs (.cmp .eq (.v 0) (.k (.int 2))) (.cons (.for [4] (.fj (.k (.int 1)) (.k (.int 300))) JX) .nil) .nil) rest):=rfl
theorem uN{f i m:Int}{ss:Ss}:exs (aa ao (k+1)) (.cons (.set 3 (.op .add true (.k (.int 1)) (.mx true (.k (.int 0)) (.v 1)))) ss) [some (.int f),some (.int i),some (.int m),none,none,none] M=exs (aa ao (k+1)) ss [some (.int f),some (.int i),some (.int m),some (.int ((i.toNat+1:Nat):Int)),none,none] M:=by
 have e:ev (aa ao (k+1)) (.op .add true (.k (.int 1)) (.mx true (.k (.int 0)) (.v 1))) [some (.int f),some (.int i),some (.int m),none,none,none] M=.ok (.int (1+(i.toNat:Int))) M:=kG rfl (IW rfl)
 rw[show 1+(i.toNat:Int)=((i.toNat+1:Nat):Int) by omega] at e
 exact aP e
theorem Jh{i m:Int}:(aa ao (k+2)).call 23 [.int 2,.int i,.int m] M=.ok (.tup [.str (wd (some (tW m 12 0 i))),.aq]) M:=by
 have ei:bA (aa ao (k+1)) (.fj (.k (.int 1)) (.k (.int 300))) (sW (.int 2) i m ((i.toNat+1:Nat):Int) none) M=.ok (.aq,(List.range 299).map fun (q:Nat)=>D.int (0+1+(q:Int)),false) M:=rfl
 have l:=Bj (k:=k+1) (M:=M) (m:=m) (cs:=((i.toNat+1:Nat):Int)) (f:=.int 2) 12 299 0 i none (by omega) (by omega)
 refine aN (k:=k+1) LF rfl ?_ (au rfl rfl)
 rw[Am]
 exact uN.trans (bK rfl (qS ei l))
noncomputable def kH(f:Int)(i m:Int):Option Nat:=match cnt m 0 0 (i.toNat+1) with
 | some c=>some c
 | none=>if f=1 then cnt m ((i.toNat+1:Nat):Int) 0 (i.toNat+1) else none
theorem jc{m bg:Int}:∀(c:Nat) (u:Int),cnt m bg u c=none\/cnt m bg u c=some 7\/cnt m bg u c=some 8
 | 0,u=>.inl rfl
 | c+1,u=>by
  rw[cnt];split
  ·exact .inr (.inl rfl)
  ·split
   ·exact .inr (.inr rfl)
   ·exact jc c _
theorem Av{m bg:Int}:∀(c:Nat) (u:Int),cnt m bg u c=none->c=0\/u+c<=12
 | 0,u,_=>.inl rfl
 | c+1,u,h=>by
  rw[cnt] at h
  split at h
  ·cases h
  ·split at h
   ·cases h
   ·rcases Av c _ h with q | q <;> omega
end
end bz
end
section
namespace bz
open Fg PySem
theorem xX(i:Int):ir i 0=(dl i.toNat).map D.int:=by
 unfold ir dl
 rw[List.map_map,show (i-0).toNat=i.toNat by omega]
 by_cases h:i<=0
 ·rw[show i.toNat=0 by omega];rfl
 ·refine List.map_congr_left fun q _=>?_
  show D.int (i-(q:Int))=D.int ((i.toNat:Int)-(q:Int))
  rw[show (i.toNat:Int)=i by omega]
section
variable{k:Nat}{M:MH}
theorem IX{Φ:aZ}{σ:Sg}{i:Int}(h:σ[1]? = some (some (.int i)))(hi:i.toNat<=12):ev Φ (.EK true (.v 1) (.k (.int 0))) σ M=.ok (.lst ((dl i.toNat).map D.int)) M:=by
 rw[IP,e_v h,R.af,kD,R.af,<- xX]
 show (if ((gg i&&(gg 0&&decide ((i-0).toNat<=line)))||decide (i<=0))=true then bW true (ir i 0) M else .bad)=_
 rw[if_pos]
 ·rfl
 ·by_cases h0:i<=0
  ·rw[decide_eq_true h0,Bool.or_true]
  ·have hl:line=1000000:=rfl
   simp[gg]
   left
   omega
noncomputable abbrev sV(f:Int)(i m:Int)(c:Nat)(o:Option D):Sg:=[some (.int f),some (.int i),some (.int m),some (.int (c:Int)),none,o]
theorem w9{c:Option Nat}(h:c=none\/c=some 7\/c=some 8):decide (wd c=w "")=c.isNone:=by
 rcases h with rfl | rfl | rfl <;> decide +kernel
noncomputable def lK:Ss:=match rest with
 | .cons _ (.cons _ r)=>r
 | _=>.nil
theorem Fe{f i m:Int}{o:Option D}{bg:Int}{e:E}(he:∀M,ev (aa ao (k+1)) e (sV f i m (i.toNat+1) o) M=.ok (.int bg) M):ev (aa ao (k+1)) (.call 22 (.cons (.mx false (.v 3) (.k (.int 40))) (.cons e (.cons (.v 2) .nil)))) (sV f i m (i.toNat+1) o) M=.ok (.str (wd (cnt m bg 0 (i.toNat+1)))) M:=by
 have h:=wF (k:=k) (M:=M) (bg:=bg) (m:=m) (c:=min (i.toNat+1) 40) (Nat.min_le_right _ _)
 rw[Dt] at h
 rw[bY,aJ,Dl (c:=i.toNat+1) rfl,R.af,aJ,he,R.af]
 exact h
theorem lH{f i m:Int}{c:Nat}(h:c=7\/c=8):exs (aa ao (k+1)) lK (sV f i m (i.toNat+1) (some (.str (wd (some c))))) M=.ok (.rt (.tup [.str (wd (some c)),.aq])) M:=by
 have e:ev (aa ao (k+1)) (.cmp .ne (.v 5) (.k (.str (w "")))) (sV f i m (i.toNat+1) (some (.str (wd (some c))))) M=.ok (.bl (!decide (wd (some c)=w ""))) M:=E7 rfl
 rw[w9 (c:=some c) (by rcases h with rfl | rfl <;> simp)] at e
 exact bK e rfl
theorem nc(n:Nat):∀is:List Int,fB n (is.map D.int)=true
 | []=>rfl
 | i::is=>by simp only[List.map_cons,fB,nr,Bool.true_and];exact nc n is
theorem Mb{f:Nat}{i m:Int}{o:Option D}:ev (aa ao (k+1)) (.cmp .eq (.v 0) (.k (.int 1))) (sV f i m (i.toNat+1) o) M=.ok (.bl (decide (f=1))) M:=uK (a:=f) (b:=1) rfl rfl
noncomputable def ly(f:Nat)(i:Int):D:=if f=1 then .int (if i<1 then 2 else 0) else .lst ((dl i.toNat).map D.int)
theorem lI{f:Nat}{i m:Int}(hi:i.toNat<=12):exs (aa ao (k+1)) lK (sV f i m (i.toNat+1) (some (.str (wd none)))) M=.ok (.rt (.tup [.str (w ""), ly f i])) M:=by
 have e:ev (aa ao (k+1)) (.cmp .ne (.v 5) (.k (.str (w "")))) (sV f i m (i.toNat+1) (some (.str (wd none)))) M=.ok (.bl (!decide (wd none=w ""))) M:=E7 rfl
 rw[w9 (c:=none) (.inl rfl)] at e
 have e1:=Mb (k:=k) (M:=M) (f:=f) (i:=i) (m:=m) (o:=some (.str (wd none)))
 unfold ly
 by_cases hf:f=1
 ·rw[decide_eq_true hf] at e1
  rw[if_pos hf]
  have e2:ev (aa ao (k+1)) (.cmp .lt (.v 1) (.k (.int 1))) (sV f i m (i.toNat+1) (some (.str (wd none)))) M=.ok (.bl (decide (i<1))) M:=e_lt rfl rfl rfl
  have e3:=IY e2
  have e4:ev (aa ao (k+1)) (.op .mul true (.k (.int 2)) (.qu .int (.cmp .lt (.v 1) (.k (.int 1))))) (sV f i m (i.toNat+1) (some (.str (wd none)))) M=.ok (.int (if i<1 then 2 else 0)) M:=by
   have:=p7 (Φ:=aa ao (k+1)) (e:=.k (.int 2)) (M:=M) (M1:=M) (a:=2) (fz:=true) rfl e3 (aB (gs (i:=2) (by decide))) (aB (gs (by split <;> decide)))
   rw[this]
   by_cases h:i<1
   ·simp[h]
   ·simp[h]
  exact (aA e).trans (bK e1 (bH (by rw[nQ,kC rfl e4];rfl)))
 ·rw[decide_eq_false hf] at e1
  rw[if_neg hf]
  exact (aA e).trans ((aA e1).trans (bH (by rw[nQ,kC rfl (IX rfl hi)];rfl)))
noncomputable def lz(f:Nat)(i m:Int):D:=match kH f i m with
 | some c=>.tup [.str (wd (some c)),.aq]
 | none=>.tup [.str (w ""), ly f i]
theorem DH{f:Nat}{i m:Int}(hf:f<2):(aa ao (k+2)).call 23 [.int (f:Int),.int i,.int m] M=.ok (lz f i m) M:=by
 have e0:ev (aa ao (k+1)) (.cmp .eq (.v 0) (.k (.int 2))) (sV f i m (i.toNat+1) none) M=.ok (.bl (decide (f=2))) M:=uK (a:=f) (b:=2) rfl rfl
 rw[decide_eq_false (by omega)] at e0
 have c1:=Fe (k:=k) (M:=M) (f:=f) (i:=i) (m:=m) (o:=none) (bg:=0) (e:=.k (.int 0)) (fun _=>rfl)
 have run:∀(c:Option Nat), exs (aa ao (k+1)) lK (sV f i m (i.toNat+1) (some (.str (wd c)))) M=.ok (.rt (lz f i m)) M->exs (aa ao (k+1)) (.cons (.ifs (.and (.cmp .eq (.v 0) (.k (.int 1))) (.cmp .eq (.v 5) (.k (.str (w ""))))) (.cons (.set 5 (.call 22 (.cons (.mx false (.v 3) (.k (.int 40))) (.cons (.v 3) (.cons (.v 2) .nil))))) .nil) .nil) lK) (sV f i m (i.toNat+1) (some (.str (wd (cnt m 0 0 (i.toNat+1)))))) M=exs (aa ao (k+1)) lK (sV f i m (i.toNat+1) (some (.str (wd c)))) M ->
   (aa ao (k+2)).call 23 [.int (f:Int),.int i,.int m] M=.ok (lz f i m) M:=fun c h1 h2=>by
  refine aN (k:=k+1) LF rfl ?_ (au ?_ rfl)
  ·rw[Am]
   exact uN.trans ((aA e0).trans ((aP c1).trans (h2.trans h1)))
  ·unfold lz ly
   split
   ·rfl
   ·split
    ·rfl
    ·simp[nr,fB,nc]
 have ea:=Mb (k:=k) (M:=M) (f:=f) (i:=i) (m:=m) (o:=some (.str (wd (cnt m 0 0 (i.toNat+1)))))
 have eb:ev (aa ao (k+1)) (.cmp .eq (.v 5) (.k (.str (w "")))) (sV f i m (i.toNat+1) (some (.str (wd (cnt m 0 0 (i.toNat+1)))))) M=.ok (.bl (decide (wd (cnt m 0 0 (i.toNat+1))=w ""))) M:=uJ rfl
 rw[w9 (jc _ _)] at eb
 have ec:=Me ea fun _=>eb
 cases h1:cnt m 0 0 (i.toNat+1) with
 | some c =>
  rw[h1] at ec eb run
  simp only[Option.isNone_some,Bool.and_false] at ec
  have hd:lz f i m=.tup [.str (wd (some c)),.aq]:=by unfold lz kH;rw[h1]
  have hc:c=7\/c=8:=by have:=jc (m:=m) (bg:=0) (i.toNat+1) 0;rw[h1] at this;simpa using this
  exact run (some c) (by rw[hd];exact lH hc) (aA ec)
 | none =>
  rw[h1] at ec run
  have hi:i.toNat<=12:=by rcases Av _ _ h1 with q | q <;> omega
  simp only[Option.isNone_none,Bool.and_true] at ec
  by_cases hf1:f=1
  ·rw[decide_eq_true hf1] at ec
   have c2:=Fe (k:=k) (M:=M) (f:=f) (i:=i) (m:=m) (o:=some (.str (wd none))) (bg:=((i.toNat+1:Nat):Int)) (e:=.v 3) (fun _=>rfl)
   have ha:exs (aa ao (k+1)) (.cons (.set 5 (.call 22 (.cons (.mx false (.v 3) (.k (.int 40))) (.cons (.v 3) (.cons (.v 2) .nil))))) .nil) (sV f i m (i.toNat+1) (some (.str (wd none)))) M=.ok (.nx (sV f i m (i.toNat+1) (some (.str (wd (cnt m ((i.toNat+1:Nat):Int) 0 (i.toNat+1))))))) M:=(aP c2).trans rfl
   have s:=oW (b:=.nil) (ss:=lK) ec ha
   refine run (cnt m ((i.toNat+1:Nat):Int) 0 (i.toNat+1)) ?_ s
   have hw:kH f i m=cnt m ((i.toNat+1:Nat):Int) 0 (i.toNat+1):=by
    unfold kH;rw[h1];simp[hf1]
   unfold lz
   rw[hw]
   cases h2:cnt m ((i.toNat+1:Nat):Int) 0 (i.toNat+1) with
   | some c=>exact lH (by have:=jc (m:=m) (bg:=((i.toNat+1:Nat):Int)) (i.toNat+1) 0;rw[h2] at this;simpa using this)
   | none=>exact lI hi
  ·rw[decide_eq_false hf1] at ec
   have hw:kH f i m=none:=by
    unfold kH;rw[h1];simp;omega
   refine run none ?_ (aA ec)
   unfold lz
   rw[hw]
   exact lI hi
end
end bz
end
section
namespace bz
open Fg PySem
theorem tQ{lo:Nat}{M:MH}{n:Nat}:∀{is:List Int} {ys:List D},oh (Sh lo M n) ys (is.map D.int)->ys=is.map D.int
 | [],_,.nil=>rfl
 | i::is,y::ys,.cons h r=>by
  rw[List.map_cons,tQ r]
  congr 1
  cases n with
  | zero=>exact h.elim
  | succ n =>
   rcases h with ⟨j,h1,h2⟩ | ⟨a,b,x,z,h1,h2,_⟩ | ⟨r,ys,xs,h1,h2,_⟩
   ·cases h2;exact h1
   ·cases h2
   ·cases h2
theorem Gb{lo:Nat}{M:MH}{n:Nat}{is:List Int}{y:D}(h:Sh lo M n y (.lst (is.map D.int))):∃r,y=.ref r/\lo<=r/\M[r]? = some (.lst (is.map D.int)):=by
 cases n with
 | zero=>exact h.elim
 | succ n =>
  rcases h with ⟨j,h1,h2⟩ | ⟨a,b,x,z,h1,h2,_⟩ | ⟨r,ys,xs,h1,h2,h3,h4,h5⟩
  ·cases h2
  ·cases h2
  ·cases h2
   rw[tQ h5] at h4
   exact⟨r,h1,h3,h4⟩
section
variable{k n:Nat}{M M0:MH}{fs:List Fd}{f:Fd}{nu:List D}{m b':Int}
theorem xT{is:List Int}(hf:fs.find? (fun g=>decide (g.nm=w "main"))=some f)(ht:f.tk.length<=1000)(h:Ev fs m (envOf [] (f.tk.map (·.1)) nu) 0 0 (.p f.bd) n [iN is] b')(hn:n<=90000)(hl:is.length<=499) :
  (aa ao (k+7)).call 10 [.lst (fs.map Fd.d),.lst nu,.int m] M0=.ok (.lst (is.map D.int)) M0:=by
 obtain⟨T,hT⟩:=u7 (k:=k) (M0:=M0) hf ht h hn
 obtain⟨y,X,q,sh⟩:=JZ (k:=k+4) 2 (iN is) (.lst (is.map D.int)) (({ kW M0 fs f nu m with todo:=[],wt:=[],bg:=b',T:=T }:Px).h M0) (Hr hl)
 rw[app] at q
 rw[hT y X q]
 obtain⟨r,rfl,hr,hM⟩:=Gb sh
 rw[app] at hM
 have hr':M0.length<=r:=by rw[len] at hr;omega
 unfold gf
 rw[if_pos ⟨rfl,qF⟩,if_neg (by simp only[nr,decide_eq_true_eq];omega)]
 simp only[hM,nc,if_true]
theorem B0{i:Int}(hf:fs.find? (fun g=>decide (g.nm=w "main"))=some f)(ht:f.tk.length<=1000)(h:Ev fs m (envOf [] (f.tk.map (·.1)) nu) 0 0 (.p f.bd) n [.int i] b')(hn:n<=90000) :
  (aa ao (k+7)).call 10 [.lst (fs.map Fd.d),.lst nu,.int m] M0=.ok (.int i) M0:=by
 obtain⟨T,hT⟩:=u7 (k:=k) (M0:=M0) hf ht h hn
 have q:(aa ao (k+6)).call 8 [.int i] (({ kW M0 fs f nu m with todo:=[],wt:=[],bg:=b',T:=T }:Px).h M0)=.ok (.int i) (({ kW M0 fs f nu m with todo:=[],wt:=[],bg:=b',T:=T++[] }:Px).h M0):=by
  rw[List.append_nil]
  exact aN (P:=ao) (k:=k+5) NG rfl (bK (x:=.int i) (M1:=Px.h _ M0) rfl rfl) rfl
 rw[hT _ _ q]
 exact xY rfl qF
end
section
variable{k:Nat}{M:MH}{i m:Int}
theorem qh:(aa ao (k+1)).call 20 [] M=.ok (.lst [jt.d,fF.d]) M:=aN fn20 rfl (M':=M) (d:=.lst [jt.d,fF.d]) (by rfl) (au rfl rfl)
theorem DG:(aa ao (k+1)).call 21 [.int 0] M=.ok (gw 0).d M:=aN ID rfl (M':=M) (d:=(gw 0).d) (by rfl) (au rfl rfl)
theorem DF:(aa ao (k+1)).call 21 [.int 1] M=.ok (gw 1).d M:=aN ID rfl (M':=M) (d:=(gw 1).d) (by rfl) (au rfl rfl)
theorem DE:(aa ao (k+1)).call 21 [.int 2] M=.ok (gw 2).d M:=aN ID rfl (M':=M) (d:=(gw 2).d) (by rfl) (au rfl rfl)
noncomputable def rO(f:Nat)(i m:Int):R D:=if f=2 then .exc (tW m 12 0 i) [] else match kH f i m with
 | some c=>.exc c []
 | none=>.ok (ly f i) []
theorem run0(hg:great i=false):(aa ao (k+7)).call 10 [.lst ((jl 0).map Fd.d),.lst [.int i],.int m] []=rO 0 i m:=by
 have h:=sj (f:=0) (m:=m) (b:=0) hg
 unfold cO at h
 unfold rO kH
 rw[if_neg (by decide)]
 cases hc:cnt m 0 0 (i.toNat+1) with
 | some c =>
  rw[hc] at h
  obtain⟨n,h1,e⟩:=h
  exact iI iZ (by decide) e (by omega)
 | none =>
  rw[hc] at h
  obtain⟨g,n,h1,e⟩:=h
  have hl:=g.1
  exact xT iZ (by decide) e (by omega) (by omega)
theorem run1(hg:great i=false):(aa ao (k+7)).call 10 [.lst ((jl 1).map Fd.d),.lst [.int i],.int m] []=rO 1 i m:=by
 have h:=GC (f:=1) (m:=m) hg
 unfold rO kH
 rw[if_neg (by decide)]
 have c0:cO m i 0=JB (cnt m 0 0 (i.toNat+1)) i (0+1+(i.toNat:Int)):=rfl
 rw[c0] at h
 cases hc:cnt m 0 0 (i.toNat+1) with
 | some c =>
  rw[hc] at h
  obtain⟨n,h1,e⟩:=h
  exact iI iZ (by decide) e (by omega)
 | none =>
  rw[hc] at h
  have h:bS D.int (fun _=>True) (jl 1) m [(.inr (w "u"), .int i)] 0 0 (mnB 1) 1100 ((cO m i (0+1+(i.toNat:Int))).bind fun ys b2=>.ok (eI (dl i.toNat)+eI ys) b2):=h
  rw[show (0:Int)+1+(i.toNat:Int)=((i.toNat+1:Nat):Int) by omega] at h
  have c1:cO m i ((i.toNat+1:Nat):Int)=JB (cnt m ((i.toNat+1:Nat):Int) 0 (i.toNat+1)) i (((i.toNat+1:Nat):Int)+1+(i.toNat:Int)):=rfl
  rw[c1] at h
  show _=match (if (1:Int)=1 then cnt m ((i.toNat+1:Nat):Int) 0 (i.toNat+1) else none) with | some c=>R.exc c [] | none=>R.ok (ly 1 i) []
  rw[if_pos rfl]
  cases hd:cnt m ((i.toNat+1:Nat):Int) 0 (i.toNat+1) with
  | some c =>
   rw[hd] at h
   obtain⟨n,h1,e⟩:=h
   exact iI iZ (by decide) e (by omega)
  | none =>
   rw[hd] at h
   obtain⟨_,n,h1,e⟩:=h
   have ev_:ly 1 i=.int (eI (dl i.toNat)+eI (dl i.toNat)):=by
    show D.int (if i<1 then 2 else 0)=_
    by_cases hi:i<1
    ·rw[if_pos hi,show i.toNat=0 by omega];rfl
    ·obtain⟨c,e⟩:∃c,i.toNat=c+1:=⟨i.toNat-1,by omega⟩
     rw[if_neg hi,e,uO];rfl
   rw[ev_]
   exact B0 iZ (by decide) e (by omega)
theorem run2(hg:great i=false):(aa ao (k+7)).call 10 [.lst ((jl 2).map Fd.d),.lst [.int i],.int m] []=rO 2 i m:=by
 have h:=Bh (f:=2) (m:=m) hg
 rw[J6 hg] at h
 obtain⟨n,h1,e⟩:=h
 exact iI iZ (by decide) e (by omega)
end
end bz
end
section
namespace bz
open Fg PySem
@[irreducible] noncomputable def Ey:Int:=10 ^ 49
@[irreducible] noncomputable def M7:Int:=10 ^ 59
theorem KQ:fH .pow 10 49=some Ey:=by unfold Ey;decide +kernel
theorem b59:qy=10*M7:=by unfold qy M7;decide +kernel
theorem yh:0<Ey/\Ey<=M7:=by unfold Ey M7;decide +kernel
noncomputable def DL(c:Int)(N:Nat):Int:=(c % qy / 10+Ey)*(1-2*((N / 288 % 2:Nat):Int))
theorem u9(c:Int):(c % qy / 10+Ey).natAbs<qy:=by
 obtain⟨h1,h2⟩:=yh
 have hb:(0:Int)<qy:=by rw[b59];omega
 have h3:=Int.emod_nonneg c (Int.ne_of_gt hb)
 have h4:=Int.emod_lt_of_pos c hb
 have h5:=b59
 generalize c % qy=r at h3 h4 ⊢
 omega
theorem wI{c:Int}{N:Nat}:great (DL c N)=false:=by
 have h:=u9 c
 unfold great DL
 refine decide_eq_false ?_
 rw[Int.natAbs_mul,show (1-2*((N / 288 % 2:Nat):Int)).natAbs=1 by omega,Nat.mul_one]
 omega
noncomputable def gv(c:Int):Int:=if pG c / 72 % 4=1 then DL c (pG c) else ((pG c / 3 % 24:Nat):Int)-3
theorem zH{c:Int}:great (gv c)=false:=by
 unfold gv
 split
 ·exact wI
 ·exact pP (n:=2) (by have:=Nat.mod_lt (pG c / 3) (show 0<24 by decide);simp only[show (10:Nat) ^ 2=100 by decide];omega) (by decide)
noncomputable def gS:Ss:=.cons (.set 3 (.op .mul true (.op .add true (.op .fdiv true (.op .mod true (.v 1) (.op .pow true (.k (.int 10)) (.k (.int 60)))) (.k (.int 10))) (.op .pow true (.k (.int 10)) (.k (.int 49)))) (.op .sub true (.k (.int 1)) (.op .mul true (.k (.int 2)) (.op .mod true (.op .fdiv true (.v 2) (.k (.int 288))) (.k (.int 2))))))) .nil
noncomputable def M8:E:=.op .add true (.call 20 .nil) (.lst true (.cons (.call 21 (.cons (.v 4) .nil)) .nil))
noncomputable def N4:E:=.call 10 (.cons M8 (.cons (.lst true (.cons (.v 3) .nil)) (.cons (.v 5) .nil)))
noncomputable def N3:E:=.iH 10 (.cons M8 (.cons (.lst true (.cons (.v 3) .nil)) .nil)) (.v 5)
noncomputable def Bp:S:=.try (.cons (.ifs (.cmp .eq (.op .mod true (.op .fdiv true (.v 2) (.k (.int 17856))) (.k (.int 2))) (.k (.int 0))) (.cons (.set 7 N4) .nil) (.cons (.set 7 N3) .nil)) .nil) (.as 0 8 (.cons (.set 6 (.call 24 (.cons (.v 8) .nil))) .nil) .nil) .nil
noncomputable def endS:Ss:=.cons (.ifs (.cmp .ne (.tup (.cons (.v 6) (.cons (.v 7) .nil))) (.call 23 (.cons (.v 4) (.cons (.v 3) (.cons (.v 5) .nil))))) (.cons (.ret (.k (.bl false))) .nil) .nil) .nil
noncomputable def N5:Ss:=.cons (.set 2 (.call 19 (.cons (.v 1) .nil))) (.cons (.set 3 (.op .sub true (.op .mod true (.op .fdiv true (.v 2) (.k (.int 3))) (.k (.int 24))) (.k (.int 3)))) (.cons (.ifs (.cmp .eq (.op .mod true (.op .fdiv true (.v 2) (.k (.int 72))) (.k (.int 4))) (.k (.int 1))) gS .nil)
 (.cons (.set 4 (.op .mod true (.v 2) (.k (.int 3)))) (.cons (.set 5 (.op .mod true (.op .fdiv true (.v 2) (.k (.int 576))) (.k (.int 31)))) (.cons (.set 6 (.k (.str (w "")))) (.cons (.set 7 (.k .aq)) (.cons Bp endS)))))))
noncomputable def MZ:E:=.op .add true (.lst true (.cons (.k (.int 0)) .nil)) (.sl true (.v 0) .none (.some (.k (.int 30))))
theorem CH:zP.body=.cons (.for [1] (.e MZ) N5) (.cons (.ret (.k (.bl true))) .nil):=rfl
noncomputable abbrev sL(L:D)(c:Option D)(n g f u wz fo:Option D):Sg:=[some L,c,n,g,f,u,wz,fo,none]
section
variable{k:Nat}{L:D}{c:Int}
theorem g_ev{N:Nat}{g f u wz fo:Option D}{Φ:aZ}:ex Φ (.set 3 (.op .mul true (.op .add true (.op .fdiv true (.op .mod true (.v 1) (.op .pow true (.k (.int 10)) (.k (.int 60)))) (.k (.int 10))) (.op .pow true (.k (.int 10)) (.k (.int 49)))) (.op .sub true (.k (.int 1)) (.op .mul true (.k (.int 2)) (.op .mod true (.op .fdiv true (.v 2) (.k (.int 288))) (.k (.int 2))))))) (sL L (some (.int c)) (some (.int (N:Int))) g f u wz fo) []=.ok (.nx (sL L (some (.int c)) (some (.int (N:Int))) (some (.int (DL c N))) f u wz fo)) []:=by
 have hb:(0:Int)<qy:=by rw[b59];have:=yh;omega
 let σ:=sL L (some (.int c)) (some (.int (N:Int))) g f u wz fo
 have e1:ev Φ (.op .mod true (.v 1) (.op .pow true (.k (.int 10)) (.k (.int 60)))) σ []=.ok (.int (c % qy)) []:=E8 rfl Ai hb
 have e2:ev Φ (.op .fdiv true (.op .mod true (.v 1) (.op .pow true (.k (.int 10)) (.k (.int 60)))) (.k (.int 10))) σ []=.ok (.int (c % qy / 10)) []:=Fc e1 rfl (by decide) (by decide)
 have e3:ev Φ (.op .pow true (.k (.int 10)) (.k (.int 49))) σ []=.ok (.int Ey) []:=by
  rw[gD,kD,R.af,kD,R.af]
  simp only[om,KQ]
 have e4:=kG (fz:=true) e2 e3
 have e5:ev Φ (.op .mod true (.op .fdiv true (.v 2) (.k (.int 288))) (.k (.int 2))) σ []=.ok (.int ((N / 288 % 2:Nat):Int)) []:=ja (kF (b:=288) rfl rfl (by decide) (by decide)) rfl (by decide)
 have hs:(((N / 288 % 2:Nat):Int)).natAbs<10:=by omega
 have e6:=p7 (fz:=true) (e:=.k (.int 2)) (a:=2) (M:=[]) rfl e5 (aB (gs (i:=2) (by decide))) (aB (gs hs))
 have e7:ev Φ (.op .sub true (.k (.int 1)) (.op .mul true (.k (.int 2)) (.op .mod true (.op .fdiv true (.v 2) (.k (.int 288))) (.k (.int 2))))) σ []=.ok (.int (1-2*((N / 288 % 2:Nat):Int))) []:=by
  rw[gD,kD,R.af,e6];rfl
 have e8:=p7 (fz:=true) e4 e7 (aB (by unfold great;exact decide_eq_false (by have:=u9 c;omega))) (aB (gs (by omega)))
 rw[zS,e8]
 rfl
end
end bz
end
section
namespace bz
open Fg PySem
noncomputable def dD(f:Nat)(i m:Int):D:=if f=2 then .tup [.str (wd (some (tW m 12 0 i))),.aq] else lz f i m
theorem IS{f:Nat}{i:Int}:Fg.plain (ly f i)=true/\dep (ly f i)<=10:=by
 unfold ly
 split
 ·exact⟨by simp[Fg.plain],by simp[dep]⟩
 ·have h:=zx (dl i.toNat)
  refine⟨by simp only[Fg.plain];exact h.1,?_⟩
  have:=h.2
  simp only[dep]
  omega
theorem key{f:Nat}{i m:Int}(hf:f<3):(∃c, (c=5\/c=7\/c=8)/\rO f i m=.exc c []/\dD f i m=.tup [.str (wd (some c)), .aq])\/∃d, rO f i m=.ok d []/\dD f i m=.tup [.str (w ""), d]/\Fg.plain d=true/\dep d<=10:=by
 unfold rO dD
 by_cases h2:f=2
 ·rw[if_pos h2,if_pos h2]
  exact .inl ⟨_,D6 12 0 i,rfl,rfl⟩
 ·rw[if_neg h2,if_neg h2]
  unfold lz
  cases hw:kH f i m with
  | some c =>
   refine .inl ⟨c,?_,rfl,rfl⟩
   unfold kH at hw
   split at hw
   ·rename_i c' hc
    cases hw
    have:=jc (m:=m) (bg:=0) (i.toNat+1) 0
    rw[hc] at this
    exact .inr (by simpa using this)
   ·split at hw
    ·have:=jc (m:=m) (bg:=((i.toNat+1:Nat):Int)) (i.toNat+1) 0
     rw[hw] at this
     exact .inr (by simpa using this)
    ·cases hw
  | none=>exact .inr ⟨_,rfl,rfl,IS⟩
section
variable{k:Nat}{L:D}{c:Int}
theorem c_dd{f:Nat}{i m:Int}(hf:f<3):(aa ao (k+2)).call 23 [.int (f:Int),.int i,.int m] []=.ok (dD f i m) []:=by
 unfold dD
 by_cases h2:f=2
 ·subst h2;exact Jh
 ·rw[if_neg h2];exact DH (by omega)
theorem Mq{f:Nat}{i m:Int}(hf:f<3)(hg:great i=false):(aa ao (k+7)).call 10 [.lst ((jl f).map Fd.d),.lst [.int i],.int m] []=rO f i m:=by
 match f,hf with
 | 0,_=>exact run0 hg
 | 1,_=>exact run1 hg
 | 2,_=>exact run2 hg
theorem c_mm{f:Nat}(hf:f<3):(aa ao (k+1)).call 21 [.int (f:Int)] []=.ok (gw f).d []:=by
 match f,hf with
 | 0,_=>exact DG
 | 1,_=>exact DF
 | 2,_=>exact DE
theorem Ag{f:Nat}{σ:Sg}(hf:f<3)(h4:σ[4]? = some (some (.int (f:Int)))):ev (aa ao (k+8)) M8 σ []=.ok (.lst ((jl f).map Fd.d)) []:=by
 have e1:ev (aa ao (k+8)) (.call 20 .nil) σ []=.ok (.lst [jt.d,fF.d]) []:=qh (k:=k+7)
 have e2:ev (aa ao (k+8)) (.call 21 (.cons (.v 4) .nil)) σ []=.ok (gw f).d []:=(bP (e_v h4)).trans (c_mm (k:=k+7) hf)
 rw[M8,gD,e1,R.af,z9,aJ,e2]
 rfl
theorem Ff{Φ:aZ}{M:MH}{f:Nat}{a b c:E}{σ:Sg}{x y z:D}(ha:ev Φ a σ M=.ok x M)(hb:ev Φ b σ M=.ok y M)(hc:ev Φ c σ M=.ok z M):ev Φ (.call f (.cons a (.cons b (.cons c .nil)))) σ M=Φ.call f [x,y,z] M:=by
 rw[bY,aJ,ha,R.af,aJ,hb,R.af,aJ,hc];rfl
theorem e_ck{Φ:aZ}{M:MH}{f:Nat}{a b c:E}{σ:Sg}{x y z:D}(ha:ev Φ a σ M=.ok x M)(hb:ev Φ b σ M=.ok y M)(hc:ev Φ c σ M=.ok z M):ev Φ (.iH f (.cons a (.cons b .nil)) c) σ M=Φ.call f [x,y,z] M:=by
 rw[Ac,kC ha hb,R.af,hc];rfl
theorem E6{Φ:aZ}{M:MH}{σ:Sg}{i:Int}(h3:σ[3]? = some (some (.int i))):ev Φ (.lst true (.cons (.v 3) .nil)) σ M=.ok (.lst [.int i]) M:=by
 rw[z9,aJ,e_v h3];rfl
theorem IV{f:Nat}{i m:Int}{σ:Sg}(hf:f<3)(hg:great i=false)(h3:σ[3]? = some (some (.int i)))(h4:σ[4]? = some (some (.int (f:Int))))(h5:σ[5]? = some (some (.int m))):ev (aa ao (k+8)) N4 σ []=rO f i m :=
 (Ff (Ag hf h4) (E6 h3) (e_v h5)).trans (Mq (k:=k+1) hf hg)
theorem IU{f:Nat}{i m:Int}{σ:Sg}(hf:f<3)(hg:great i=false)(h3:σ[3]? = some (some (.int i)))(h4:σ[4]? = some (some (.int (f:Int))))(h5:σ[5]? = some (some (.int m))):ev (aa ao (k+8)) N3 σ []=rO f i m :=
 (e_ck (Ag hf h4) (E6 h3) (e_v h5)).trans (Mq (k:=k+1) hf hg)
theorem c_ww{e:Nat}(h:e=5\/e=7\/e=8):(aa ao (k+1)).call 24 [.g7 e] []=.ok (.str (wd (some e))) []:=by
 rcases h with rfl | rfl | rfl
 ·exact DB
 ·exact DA
 ·exact Dz
theorem try_{f N:Nat}{i m:Int}{x1:Option D}(hf:f<3)(hg:great i=false):∃wz fo, ex (aa ao (k+8)) Bp (sL L x1 (some (.int (N:Int))) (some (.int i)) (some (.int (f:Int))) (some (.int m)) (some (.str (w ""))) (some .aq)) []=.ok (.nx (sL L x1 (some (.int (N:Int))) (some (.int i)) (some (.int (f:Int))) (some (.int m)) (some (.str wz)) (some fo))) []/\dD f i m=.tup [.str wz, fo]/\Fg.plain fo=true/\dep fo<=10:=by
 let σ:=sL L x1 (some (.int (N:Int))) (some (.int i)) (some (.int (f:Int))) (some (.int m)) (some (.str (w ""))) (some .aq)
 have g1:=IV (k:=k) (σ:=σ) hf hg rfl rfl (m:=m) rfl
 have g2:=IU (k:=k) (σ:=σ) hf hg rfl rfl (m:=m) rfl
 have ec:ev (aa ao (k+8)) (.cmp .eq (.op .mod true (.op .fdiv true (.v 2) (.k (.int 17856))) (.k (.int 2))) (.k (.int 0))) σ []=.ok (.bl (decide (N / 17856 % 2=0))) []:=uK (b:=0) (ja (kF (b:=17856) rfl rfl (by decide) (by decide)) rfl (by decide)) rfl
 rcases key (i:=i) (m:=m) hf with ⟨e,he,h1,h2⟩ | ⟨d,h1,h2,h3,h4⟩
 ·rw[h1] at g1 g2
  refine⟨wd (some e),.aq,?_,h2,by simp[Fg.plain],by simp[dep]⟩
  have body:exs (aa ao (k+8)) (.cons (.ifs (.cmp .eq (.op .mod true (.op .fdiv true (.v 2) (.k (.int 17856))) (.k (.int 2))) (.k (.int 0))) (.cons (.set 7 N4) .nil) (.cons (.set 7 N3) .nil)) .nil) σ []=.ok (.xc e σ) []:=by
   by_cases hb:N / 17856 % 2=0
   ·rw[decide_eq_true hb] at ec;exact lR ec (xQ g1)
   ·rw[decide_eq_false hb] at ec;exact Ge ec (xQ g2)
  have hsub:ao.sub e 0=true:=by rcases he with rfl | rfl | rfl <;> decide
  have ew:ev (aa ao (k+8)) (.call 24 (.cons (.v 8) .nil)) (σ.set 8 (some (.g7 e))) []=.ok (.str (wd (some e))) []:=(bP (e_v rfl)).trans (c_ww (k:=k+7) he)
  unfold Bp
  rw[zR,body,R.af]
  show uD (aa ao (k+8)) _ e σ []=_
  rw[II,if_pos (by rw[wD];exact hsub),aP ew]
  rfl
 ·rw[h1] at g1 g2
  refine⟨w "", d, ?_, h2, h3, h4⟩
  have body:exs (aa ao (k+8)) (.cons (.ifs (.cmp .eq (.op .mod true (.op .fdiv true (.v 2) (.k (.int 17856))) (.k (.int 2))) (.k (.int 0))) (.cons (.set 7 N4) .nil) (.cons (.set 7 N3) .nil)) .nil) σ []=.ok (.nx (σ.set 7 (some d))) []:=by
   by_cases hb:N / 17856 % 2=0
   ·rw[decide_eq_true hb] at ec;exact (oW ec ((aP g1).trans rfl)).trans rfl
   ·rw[decide_eq_false hb] at ec;exact (mW ec ((aP g2).trans rfl)).trans rfl
  unfold Bp
  rw[zR,body]
  rfl
theorem JY(x2 x3 x4 x5 x6 x7:Option D):∃y2 y3 y4 y5 y6 y7,exs (aa ao (k+8)) N5 (sL L (some (.int c)) x2 x3 x4 x5 x6 x7) []=.ok (.nx (sL L (some (.int c)) y2 y3 y4 y5 y6 y7)) []:=by
 let Φ:=aa ao (k+8)
 let N:=pG c
 have e1:ev Φ (.call 19 (.cons (.v 1) .nil)) (sL L (some (.int c)) x2 x3 x4 x5 x6 x7) []=.ok (.int (N:Int)) []:=(bP rfl).trans (DC (k:=k+7))
 have e2:ev Φ (.op .sub true (.op .mod true (.op .fdiv true (.v 2) (.k (.int 3))) (.k (.int 24))) (.k (.int 3))) (sL L (some (.int c)) (some (.int (N:Int))) x3 x4 x5 x6 x7) []=.ok (.int (((N / 3 % 24:Nat):Int)-3)) []:=Af (ja (kF (b:=3) rfl rfl (by decide) (by decide)) rfl (by decide)) rfl
 have e3:ev Φ (.cmp .eq (.op .mod true (.op .fdiv true (.v 2) (.k (.int 72))) (.k (.int 4))) (.k (.int 1))) (sL L (some (.int c)) (some (.int (N:Int))) (some (.int (((N / 3 % 24:Nat):Int)-3))) x4 x5 x6 x7) []=.ok (.bl (decide (N / 72 % 4=1))) []:=uK (b:=1) (ja (kF (b:=72) rfl rfl (by decide) (by decide)) rfl (by decide)) rfl
 have s3:∀ss,exs Φ (.cons (.ifs (.cmp .eq (.op .mod true (.op .fdiv true (.v 2) (.k (.int 72))) (.k (.int 4))) (.k (.int 1))) gS .nil) ss) (sL L (some (.int c)) (some (.int (N:Int))) (some (.int (((N / 3 % 24:Nat):Int)-3))) x4 x5 x6 x7) []=exs Φ ss (sL L (some (.int c)) (some (.int (N:Int))) (some (.int (gv c))) x4 x5 x6 x7) []:=fun ss=>by
  unfold gv
  by_cases h:pG c / 72 % 4=1
  ·rw[decide_eq_true h] at e3
   rw[if_pos h]
   exact oW e3 (by rw[gS,nM];exact g_ev)
  ·rw[decide_eq_false h] at e3
   rw[if_neg h]
   exact aA e3
 have e4:ev Φ (.op .mod true (.v 2) (.k (.int 3))) (sL L (some (.int c)) (some (.int (N:Int))) (some (.int (gv c))) x4 x5 x6 x7) []=.ok (.int ((N % 3:Nat):Int)) []:=ja rfl rfl (by decide)
 have e5:ev Φ (.op .mod true (.op .fdiv true (.v 2) (.k (.int 576))) (.k (.int 31))) (sL L (some (.int c)) (some (.int (N:Int))) (some (.int (gv c))) (some (.int ((N % 3:Nat):Int))) x5 x6 x7) []=.ok (.int ((N / 576 % 31:Nat):Int)) []:=ja (kF (b:=576) rfl rfl (by decide) (by decide)) rfl (by decide)
 have hf:N % 3<3:=Nat.mod_lt _ (by decide)
 obtain⟨wz,fo,t1,t2,t3,t4⟩:=try_ (k:=k) (L:=L) (f:=N % 3) (N:=N) (i:=gv c) (m:=((N / 576 % 31:Nat):Int)) (x1:=some (.int c)) hf zH
 have ed:ev Φ (.call 23 (.cons (.v 4) (.cons (.v 3) (.cons (.v 5) .nil)))) (sL L (some (.int c)) (some (.int (N:Int))) (some (.int (gv c))) (some (.int ((N % 3:Nat):Int))) (some (.int ((N / 576 % 31:Nat):Int))) (some (.str wz)) (some fo)) []=.ok (.tup [.str wz,fo]) []:=by
  rw[<- t2]
  exact (Ff rfl rfl rfl).trans (c_dd (k:=k+6) hf)
 have en:ev Φ (.cmp .ne (.tup (.cons (.v 6) (.cons (.v 7) .nil))) (.call 23 (.cons (.v 4) (.cons (.v 3) (.cons (.v 5) .nil))))) (sL L (some (.int c)) (some (.int (N:Int))) (some (.int (gv c))) (some (.int ((N % 3:Nat):Int))) (some (.int ((N / 576 % 31:Nat):Int))) (some (.str wz)) (some fo)) []=.ok (.bl false) []:=by
  refine Mc (a:=.tup [.str wz,fo]) (b:=.tup [.str wz,fo]) rfl ed (CD rfl rfl ?_ ?_)
  ·simp only[Fg.plain,bE,t3,Bool.and_self]
  ·simp only[dep,deps];omega
 refine⟨_, _, _, _, _, _, (aP e1).trans ((aP e2).trans ((s3 _).trans ((aP e4).trans ((aP e5).trans ((aP (x:=.str (w "")) (M1:=[]) rfl).trans ((aP (x:=.aq) (M1:=[]) rfl).trans ((jy t1).trans ((aA en).trans rfl))))))))⟩
theorem ug{ch:MH->Bool}(hch:ch []=true):∀(cs:List Int) (x1 x2 x3 x4 x5 x6 x7:Option D),∃σ',bh (exs (aa ao (k+8)) N5) [1] ch (cs.map D.int) (sL L x1 x2 x3 x4 x5 x6 x7) []=.ok (.nx σ') []
 | [],_,_,_,_,_,_,_=>⟨_,rfl⟩
 | c::cs,x1,x2,x3,x4,x5,x6,x7=>by
  obtain⟨y2,y3,y4,y5,y6,y7,q⟩:=JY (k:=k) (L:=L) (c:=c) x2 x3 x4 x5 x6 x7
  obtain⟨σ',q'⟩:=ug hch cs (some (.int c)) y2 y3 y4 y5 y6 y7
  refine⟨σ',?_⟩
  rw[List.map_cons,bh]
  show ((exs (aa ao (k+8)) N5 (sL L (some (.int c)) x2 x3 x4 x5 x6 x7) []).bind _)=_
  rw[q]
  show (if ch [] then _ else _)=_
  rw[if_pos hch]
  exact q'
end
noncomputable def cells(ns:List Int):List Int:=0::c7 ns none (some 30)
theorem wj{ns:List Int}:(cells ns).length<=31:=by
 simp only[cells,c7,List.length_cons,List.length_take,List.length_drop,six]
 have h2:¬ (30:Int)<0:=by decide
 rw[if_neg h2]
 show min (min 30 ns.length-0) _+1<=31
 omega
theorem yX{k:Nat}(ns:List Int)(_:ns.length<=63):∃M',(aa ao (k+9)).call 25 [.lst (ns.map .int)] []=.ok (.bl true) M':=by
 let Φ:=aa ao (k+8)
 let L:D:=.lst (ns.map D.int)
 have es:ev Φ (.sl true (.v 0) .none (.some (.k (.int 30)))) (sL L none none none none none none none) []=.ok (.lst ((c7 ns none (some 30)).map D.int)) []:=by
  rw[LP,e_v (d:=L) rfl,R.af,zV,R.af,zU,kD,R.af]
  show R.ok (D.lst (c7 (ns.map D.int) none (some 30))) []=_
  congr 2
  simp only[c7,List.length_map,List.map_take,List.map_drop]
 have hl:=wj (ns:=ns)
 have e1:ev Φ MZ (sL L none none none none none none none) []=.ok (.lst ((cells ns).map D.int)) []:=by
  rw[MZ,gD,show ev Φ (.lst true (.cons (.k (.int 0)) .nil)) (sL L none none none none none none none) []=.ok (.lst [.int 0]) [] from rfl,R.af,es,R.af]
  show (if decide ([D.int 0].length+((c7 ns none (some 30)).map D.int).length<=line) then bW true _ [] else .bad)=_
  rw[if_pos (decide_eq_true (by
   rw[List.length_map]
   have:(c7 ns none (some 30)).length+1<=31:=hl
   show 1+(c7 ns none (some 30)).length<=1000000
   omega))]
  rfl
 have hi:bA Φ (.e MZ) (sL L none none none none none none none) []=.ok (.lst ((cells ns).map D.int),(cells ns).map D.int,false) []:=by
  rw[zY,e1,R.af]
  rfl
 obtain⟨σ',q⟩:=ug (k:=k) (L:=L) (ch:=aO [] (.lst ((cells ns).map D.int))) rfl (cells ns) none none none none none none none
 exact⟨[],aN fn25 rfl (by rw[CH];exact (xS hi q).trans (bH rfl)) rfl⟩
end bz
end
section
namespace bz
open Fg PySem PySem.Spec L2
theorem J0:tb.ok tb.gm ao=true:=by decide +kernel
theorem Mp{d:DefRec}(hd:d.params.defaults=[])(hx:d.name=("law" : Str)){XP:(Str->Option Value)->Heap->Prop}:W.WalkO Iv hdL XP (tb.hook ao).says PySem.Challenge.rw_fieldgate_k14_plain_refusals.row.toRowW d [] (fun f vs=>PySem.call f vs) :=
 tb.walk ao (l:=PySem.Challenge.rw_fieldgate_k14_plain_refusals) (r:=tb.fn[17]'(by decide)) (x:="_law_script") 8 rfl hd ⟨fun _=>rfl, by decide, by decide⟩ J0 (List.getElem_mem _) hx rfl rfl fun ns h=>yX (k:=0) ns h
end bz
end
section
open PySem PySem.W PyProof.Rows
set_option maxRecDepth 100000 in
set_option maxHeartbeats 0 in
theorem PySem.Challenge.cw_fieldgate_k14_plain_refusals_holds : PySem.Challenge.rw_fieldgate_k14_plain_refusals.Holds := by
 w_on
 refine holds_law (by decide +kernel) fun said => ?_
 refine holds_open (XP := XL bz.Iv []) bz.lft (bz.tb.hook bz.ao).of (bz.tb.hook bz.ao).keeps
  (fun s e => xl_of s (Bool.and_eq_true_iff.mp e).1) XL.keeps (by rfl) (by rfl) (by rfl)
  (fun s e => recFacts_of (Bool.and_eq_true_iff.mp e).2) (by rfl) said (by decide +kernel)
  ⟨rfl,rfl,rfl,rfl,rfl,by decide +kernel⟩ ?hw (bz.Mp rfl rfl)
 w_witness2
end
