/-
  Contracts of the code's functions, part 6.
-/
import Derived.Test.YtmbmjneibkihkaaGreatDoorDaE
namespace Go.Proofs.YtmbmjneibkihkaaGreatDoor
namespace Sx
def add1(o:List Nm)(x:Nm):List Nm:=if x∈o then o else o++[x]
def addA(o l:List Nm):List Nm:=l.foldl add1 o
theorem addA_nil(o:List Nm):addA o []=o:=rfl
theorem addA_cons(o:List Nm)(x:Nm)(l:List Nm):addA o (x::l)=addA (add1 o x) l:=rfl
theorem addA_append(o a b:List Nm):addA o (a++b)=addA (addA o a) b:=by unfold addA;rw[List.foldl_append]
theorem mem_add1 {o:List Nm} {x y:Nm} : y∈add1 o x↔y∈o\/y=x:=by
 unfold add1
 split
 ·exact⟨.inl,λh=>h.elim id λe=>e▸by assumption⟩
 ·simp
theorem mem_addA {o l:List Nm} {y:Nm} : y∈addA o l↔y∈o\/y∈l:=by
 induction l generalizing o with
 | nil=>simp[addA_nil]
 | cons x l ih=>rw[addA_cons,ih,mem_add1,List.mem_cons,or_assoc]
theorem addA_len {o l:List Nm} :(addA o l).length<=o.length+l.length:=by
 induction l generalizing o with
 | nil=>simp[addA_nil]
 | cons x l ih =>
  rw[addA_cons]
  have:=ih (o:=add1 o x)
  have h2:(add1 o x).length<=o.length+1:=by unfold add1;split <;> simp
  simp only[List.length_cons]
  omega
inductive Ev where
 | use (x:Nm)
 | cn (c:Nm)
 | bi (xs:List Nm)
 | beg (xs:List Nm)
 | fin (xs:List Nm)
mutual
def evs:Ex->List Ev
 | .var x=>[.use x]
 | .con c=>[.cn c]
 | .lam x e=>.bi [x]::.beg [x]::(evs e++[.fin [x]])
 | .app a b=>.beg []::(evs a++evs b++[.fin []])
 | .lt x _ a b=>.bi [x]::.beg []::(evs a++.fin []::.beg [x]::(evs b++[.fin [x]]))
 | .cs e l=>.beg []::(evs e++.fin []::evsA l)
 | .ann e _=>.beg []::(evs e++[.fin []])
def evs1:Al->List Ev
 | .mk c vs b=>.cn c::.bi vs::.beg vs::(evs b++[.fin vs])
def evsA:List Al->List Ev
 | []=>[]
 | a::r=>evs1 a++evsA r
end
def but(vs:List Nm)(l:List Nm):List Nm:=l.filter λy=>!vs.contains y
mutual
def fr:Ex->List Nm
 | .var x=>[x]
 | .con _=>[]
 | .lam x e=>but [x] (fr e)
 | .app a b=>fr a++fr b
 | .lt x _ a b=>fr a++but [x] (fr b)
 | .cs e l=>fr e++frA l
 | .ann e _=>fr e
def fr1:Al->List Nm
 | .mk _ vs b=>but vs (fr b)
def frA:List Al->List Nm
 | []=>[]
 | a::r=>fr1 a++frA r
end
mutual
def cns:Ex->List Nm
 | .var _=>[]
 | .con c=>[c]
 | .lam _ e=>cns e
 | .app a b=>cns a++cns b
 | .lt _ _ a b=>cns a++cns b
 | .cs e l=>cns e++cnsA l
 | .ann e _=>cns e
def cns1:Al->List Nm
 | .mk c _ b=>c::cns b
def cnsA:List Al->List Nm
 | []=>[]
 | a::r=>cns1 a++cnsA r
end
mutual
def bis:Ex->List Nm
 | .var _=>[]
 | .con _=>[]
 | .lam x e=>x::bis e
 | .app a b=>bis a++bis b
 | .lt x _ a b=>x::(bis a++bis b)
 | .cs e l=>bis e++bisA l
 | .ann e _=>bis e
def bis1:Al->List Nm
 | .mk _ vs b=>vs++bis b
def bisA:List Al->List Nm
 | []=>[]
 | a::r=>bis1 a++bisA r
end
def freeE(e:Ex):List Nm:=addA [] (fr e)
def consE(e:Ex):List Nm:=addA [] (cns e)
def boundE(e:Ex):List Nm:=addA [] (bis e)
theorem but_nil(l:List Nm):but [] l=l:=by unfold but;simp
theorem but_append(vs a b:List Nm):but vs (a++b)=but vs a++but vs b:=by unfold but;rw[List.filter_append]
theorem but_but(vs us l:List Nm):but vs (but us l)=but (vs++us) l:=by
 unfold but
 rw[List.filter_filter]
 congr 1
 funext y
 rw[List.contains_append,Bool.not_or]
theorem mem_but {vs l:List Nm} {y:Nm} : y∈but vs l↔y∈l/\y∉vs:=by
 unfold but
 simp[List.mem_filter]
abbrev Cts:=Nm->Int
def bump(c:Cts)(d:Int)(xs:List Nm):Cts:=λy=>c y+d*(xs.count y:Nat)
theorem bump_nil(c:Cts)(d:Int):bump c d []=c:=by funext y;simp[bump]
theorem bump_back(c:Cts)(xs:List Nm):bump (bump c 1 xs) (-1) xs=c:=by
 funext y
 unfold bump
 omega
def stF(c:Cts):Ev->Cts
 | .beg xs=>bump c 1 xs
 | .fin xs=>bump c (-1) xs
 | _=>c
def tellF(c:Cts):Ev->List Nm
 | .use x=>if c x=0 then[x] else[]
 | _=>[]
def runF(c:Cts):List Ev->List Nm
 | []=>[]
 | e::r=>tellF c e++runF (stF c e) r
def zeros(c:Cts)(l:List Nm):List Nm:=l.filter λy=>decide (c y=0)
theorem zeros_append(c:Cts)(a b:List Nm):zeros c (a++b)=zeros c a++zeros c b:=by unfold zeros;rw[List.filter_append]
theorem zeros_bump {c:Cts}(h:∀y,0<=c y)(xs l:List Nm):zeros (bump c 1 xs) l=zeros c (but xs l):=by
 unfold zeros but
 rw[List.filter_filter]
 congr 1
 funext y
 have h0:=h y
 unfold bump
 by_cases hy:y∈xs
 ·have:=List.count_pos_iff.2 hy
  have e1:decide (c y+1*((xs.count y:Nat):Int)=0)=false:=by simp;omega
  rw[e1];simp[hy]
 ·have:=List.count_eq_zero.2 hy
  rw[this];simp[hy]
theorem bump_pos {c:Cts}(h:∀y,0<=c y)(xs:List Nm):∀y,0<=bump c 1 xs y:=λy=>by
 have:=h y
 unfold bump
 omega
theorem runF_beg(c:Cts)(xs:List Nm)(r:List Ev):runF c (.beg xs::r)=runF (bump c 1 xs) r:=rfl
theorem runF_fin(c:Cts)(xs:List Nm)(r:List Ev):runF c (.fin xs::r)=runF (bump c (-1) xs) r:=rfl
theorem runF_bi(c:Cts)(xs:List Nm)(r:List Ev):runF c (.bi xs::r)=runF c r:=rfl
theorem runF_cn(c:Cts)(x:Nm)(r:List Ev):runF c (.cn x::r)=runF c r:=rfl
theorem runF_nil0(c:Cts)(r:List Ev):runF c (.beg []::r)=runF c r:=by rw[runF_beg,bump_nil]
theorem runF_fin0(c:Cts)(r:List Ev):runF c (.fin []::r)=runF c r:=by rw[runF_fin,bump_nil]
mutual
theorem runF_evs:∀(e:Ex)(c:Cts)(r:List Ev),(∀y,0<=c y)->runF c (evs e++r)=zeros c (fr e)++runF c r
 | .var x,c,r,h=>by
  show(if c x=0 then[x] else[])++runF c r=_
  unfold fr zeros
  by_cases hx:c x=0 <;> simp[hx]
 | .con x,c,r,h=>by unfold evs fr zeros;rfl
 | .lam x e,c,r,h=>by
  unfold evs fr
  rw[List.cons_append,List.cons_append,List.append_assoc,runF_bi,runF_beg,runF_evs e _ _ (bump_pos h _),zeros_bump h,List.singleton_append,runF_fin,bump_back]
 | .app a b,c,r,h=>by
  unfold evs fr
  rw[List.cons_append,List.append_assoc,List.append_assoc,runF_nil0,runF_evs a c _ h,runF_evs b c _ h,List.singleton_append,runF_fin0,zeros_append,List.append_assoc]
 | .lt x t a b,c,r,h=>by
  unfold evs fr
  rw[List.cons_append,List.cons_append,List.append_assoc,List.cons_append,List.cons_append,List.append_assoc,runF_bi,runF_nil0,runF_evs a c _ h,runF_fin0,runF_beg,runF_evs b _ _ (bump_pos h _),zeros_bump h,List.singleton_append,runF_fin,bump_back,zeros_append,List.append_assoc]
 | .cs e l,c,r,h=>by
  unfold evs fr
  rw[List.cons_append,List.append_assoc,List.cons_append,runF_nil0,runF_evs e c _ h,runF_fin0,runF_evsA l c _ h,zeros_append,List.append_assoc]
 | .ann e t,c,r,h=>by
  unfold evs fr
  rw[List.cons_append,List.append_assoc,runF_nil0,runF_evs e c _ h,List.singleton_append,runF_fin0]
theorem runF_evs1:∀(a:Al)(c:Cts)(r:List Ev),(∀y,0<=c y)->runF c (evs1 a++r)=zeros c (fr1 a)++runF c r
 | .mk k vs b,c,r,h=>by
  unfold evs1 fr1
  rw[List.cons_append,List.cons_append,List.cons_append,List.append_assoc,runF_cn,runF_bi,runF_beg,runF_evs b _ _ (bump_pos h _),zeros_bump h,List.singleton_append,runF_fin,bump_back]
theorem runF_evsA:∀(l:List Al)(c:Cts)(r:List Ev),(∀y,0<=c y)->runF c (evsA l++r)=zeros c (frA l)++runF c r
 | [],c,r,h=>by unfold evsA frA zeros;rfl
 | a::l,c,r,h=>by
  unfold evsA frA
  rw[List.append_assoc,runF_evs1 a c _ h,runF_evsA l c _ h,zeros_append,List.append_assoc]
end
theorem runF_free(e:Ex):runF (λ_=>0) (evs e)=fr e:=by
 have:=runF_evs e (λ_=>0) [] (λ_=>Int.le_refl _)
 rw[List.append_nil]at this
 rw[this]
 unfold zeros runF
 simp
def cnOf:Ev->List Nm
 | .cn c=>[c]
 | _=>[]
def biOf:Ev->List Nm
 | .bi xs=>xs
 | _=>[]
mutual
theorem cns_evs:∀e:Ex,(evs e).flatMap cnOf=cns e
 | .var x=>rfl
 | .con x=>rfl
 | .lam x e=>by simp[evs,cns,cnOf,cns_evs e]
 | .app a b=>by simp[evs,cns,cnOf,cns_evs a,cns_evs b]
 | .lt x t a b=>by simp[evs,cns,cnOf,cns_evs a,cns_evs b]
 | .cs e l=>by simp[evs,cns,cnOf,cns_evs e,cns_evsA l]
 | .ann e t=>by simp[evs,cns,cnOf,cns_evs e]
theorem cns_evs1:∀a:Al,(evs1 a).flatMap cnOf=cns1 a
 | .mk k vs b=>by simp[evs1,cns1,cnOf,cns_evs b]
theorem cns_evsA:∀l:List Al,(evsA l).flatMap cnOf=cnsA l
 | []=>rfl
 | a::l=>by simp[evsA,cnsA,cns_evs1 a,cns_evsA l]
end
mutual
theorem bis_evs:∀e:Ex,(evs e).flatMap biOf=bis e
 | .var x=>rfl
 | .con x=>rfl
 | .lam x e=>by simp[evs,bis,biOf,bis_evs e]
 | .app a b=>by simp[evs,bis,biOf,bis_evs a,bis_evs b]
 | .lt x t a b=>by simp[evs,bis,biOf,bis_evs a,bis_evs b]
 | .cs e l=>by simp[evs,bis,biOf,bis_evs e,bis_evsA l]
 | .ann e t=>by simp[evs,bis,biOf,bis_evs e]
theorem bis_evs1:∀a:Al,(evs1 a).flatMap biOf=bis1 a
 | .mk k vs b=>by simp[evs1,bis1,biOf,bis_evs b]
theorem bis_evsA:∀l:List Al,(evsA l).flatMap biOf=bisA l
 | []=>rfl
 | a::l=>by simp[evsA,bisA,bis_evs1 a,bis_evsA l]
end
end Sx
end Go.Proofs.YtmbmjneibkihkaaGreatDoor

namespace Go.Proofs.YtmbmjneibkihkaaGreatDoor
namespace Sx
open Lx Tx
def rep(s:List Nm):List Nm->Option Nm
 | []=>none
 | x::r=>if x∈s then some x else rep (x::s) r
theorem rep_mem {s l:List Nm} {x:Nm}(h:rep s l=some x):x∈l:=by
 induction l generalizing s with
 | nil=>cases h
 | cons y r ih =>
  unfold rep at h
  split at h
  ·injection h with h;simp[h]
  ·exact List.mem_cons_of_mem _ (ih h)
def wAny:Nm:=[65,110,121]
def conNames(cs:List (Nm × Ty)):List Nm:=cs.map (·.1)
def tw(d c s b:List Nm):List De->Option Nm
 | []=>none
 | .data n ps cs::r =>
  if n∈d then some n
  else match rep [] ps with
   | some x=>some x
   | none=>match rep c (conNames cs) with
    | some x=>some x
    | none=>tw (n::d) (conNames cs++c) s b r
 | .sig x _::r=>if x∈s then some x else tw d c (x::s) b r
 | .bind x _::r=>if x∈b then some x else tw d c s (x::b) r
def bindOf:De->List Nm
 | .bind x _=>[x]
 | _=>[]
def sigOf:De->List Nm
 | .sig x _=>[x]
 | _=>[]
def conOf:De->List Nm
 | .data _ _ cs=>conNames cs
 | _=>[]
def exOf:De->List Ex
 | .bind _ e=>[e]
 | _=>[]
def binds(l:List De):List Nm:=l.flatMap bindOf
def sigs(l:List De):List Nm:=l.flatMap sigOf
def cons(l:List De):List Nm:=l.flatMap conOf
def exs(l:List De):List Ex:=l.flatMap exOf
def repV:Ev->Option Nm
 | .bi xs=>rep [] xs
 | _=>none
def mis(B C:List Nm)(e:Ex):Option (Nm × Nat) :=
 match (boundE e).find? (λx=>decide (x∈B)) with
 | some x=>some (x,90)
 | none=>match (evs e).findSome? repV with
  | some x=>some (x,90)
  | none=>match (freeE e).find? (λx=>decide (x∉B)) with
   | some x=>some (x,91)
   | none=>match (consE e).find? (λx=>decide (x∉C)) with
    | some x=>some (x,91)
    | none=>none
def chk(l:List De):Nm × Nat :=
 match tw [wAny] [] [] [] l with
 | some x=>(x,90)
 | none=>match (sigs l).find? (λx=>decide (x∉binds l)) with
  | some x=>(x,92)
  | none=>match (exs l).findSome? (mis (binds l) (cons l)) with
   | some y=>y
   | none=>([],0)
def useOf:Ev->List Nm
 | .use x=>[x]
 | .cn x=>[x]
 | .bi xs=>xs
 | _=>[]
def nms(e:Ex):List Nm:=(evs e).flatMap useOf
def nmsD:De->List Nm
 | .data n ps cs=>n::(ps++conNames cs)
 | .sig x _=>[x]
 | .bind x e=>x::nms e
mutual
theorem fr_nms:∀(e:Ex)(x:Nm),x∈fr e->x∈nms e
 | .var y,x,h=>by simpa[fr,nms,evs,useOf] using h
 | .con y,x,h=>by simp[fr]at h
 | .lam y e,x,h=>by
  have:=fr_nms e x (mem_but.1 h).1
  unfold nms at this ⊢
  simp only[evs,List.flatMap_cons,List.flatMap_append,List.mem_append]
  exact .inr (.inr (.inl this))
 | .app a b,x,h=>by
  unfold fr at h
  have:x∈nms a\/x∈nms b:=(List.mem_append.1 h).imp (fr_nms a x) (fr_nms b x)
  unfold nms at this ⊢
  simp only[evs,List.flatMap_cons,List.flatMap_append,List.mem_append]
  exact .inr (.inl this)
 | .lt y t a b,x,h=>by
  unfold fr at h
  have:x∈nms a\/x∈nms b:=(List.mem_append.1 h).imp (fr_nms a x) (λh=>fr_nms b x (mem_but.1 h).1)
  unfold nms at this ⊢
  simp only[evs,List.flatMap_cons,List.flatMap_append,List.mem_append]
  rcases this with h|h
  ·exact .inr (.inr (.inl h))
  ·exact .inr (.inr (.inr (.inr (.inr (.inl h)))))
 | .cs e l,x,h=>by
  unfold fr at h
  have:x∈nms e\/x∈(evsA l).flatMap useOf:=(List.mem_append.1 h).imp (fr_nms e x) (fr_nmsA l x)
  unfold nms at this ⊢
  simp only[evs,List.flatMap_cons,List.flatMap_append,List.mem_append]
  rcases this with h|h
  ·exact .inr (.inl h)
  ·exact .inr (.inr (.inr h))
 | .ann e t,x,h=>by
  have:=fr_nms e x h
  unfold nms at this ⊢
  simp only[evs,List.flatMap_cons,List.flatMap_append,List.mem_append]
  exact .inr (.inl this)
theorem fr_nms1:∀(a:Al)(x:Nm),x∈fr1 a->x∈(evs1 a).flatMap useOf
 | .mk c vs b,x,h=>by
  have:=fr_nms b x (mem_but.1 h).1
  unfold nms at this
  simp only[evs1,List.flatMap_cons,List.flatMap_append,List.mem_append]
  exact .inr (.inr (.inr (.inl this)))
theorem fr_nmsA:∀(l:List Al)(x:Nm),x∈frA l->x∈(evsA l).flatMap useOf
 | [],x,h=>by simp[frA]at h
 | a::l,x,h=>by
  unfold frA at h
  simp only[evsA,List.flatMap_append,List.mem_append]
  exact(List.mem_append.1 h).imp (fr_nms1 a x) (fr_nmsA l x)
end
theorem cns_nms(e:Ex)(x:Nm)(h:x∈cns e):x∈nms e:=by
 rw[<-cns_evs]at h
 obtain⟨v,hv,hx⟩:=List.mem_flatMap.1 h
 refine List.mem_flatMap.2 ⟨v,hv,?_⟩
 cases v <;> simp_all [cnOf,useOf]
theorem bis_nms(e:Ex)(x:Nm)(h:x∈bis e):x∈nms e:=by
 rw[<-bis_evs]at h
 obtain⟨v,hv,hx⟩:=List.mem_flatMap.1 h
 refine List.mem_flatMap.2 ⟨v,hv,?_⟩
 cases v <;> simp_all [biOf,useOf]
theorem tw_mem {d c s b:List Nm} {l:List De} {x:Nm}(h:tw d c s b l=some x):∃y∈l,x∈nmsD y:=by
 induction l generalizing d c s b with
 | nil=>cases h
 | cons y r ih =>
  have up:(∃z∈r,x∈nmsD z)->∃z∈y::r,x∈nmsD z:=λ⟨z,hz,hx⟩=>⟨z,List.mem_cons_of_mem _ hz,hx⟩
  cases y with
  | data n ps cs =>
   unfold tw at h
   split at h
   ·injection h with h;exact⟨_,List.mem_cons_self,by simp[nmsD,h]⟩
   ·split at h
    ·rename_i x1 h1
     injection h with h;subst h
     exact⟨_,List.mem_cons_self,by have:=rep_mem h1;simp[nmsD,this]⟩
    ·split at h
     ·rename_i x1 h1
      injection h with h;subst h
      exact⟨_,List.mem_cons_self,by have:=rep_mem h1;simp[nmsD,this]⟩
     ·exact up (ih h)
  | sig n t =>
   unfold tw at h
   split at h
   ·injection h with h;exact⟨_,List.mem_cons_self,by simp[nmsD,h]⟩
   ·exact up (ih h)
  | bind n e =>
   unfold tw at h
   split at h
   ·injection h with h;exact⟨_,List.mem_cons_self,by simp[nmsD,h]⟩
   ·exact up (ih h)
theorem findSome_mem {α β:Type} {f:α->Option β} {l:List α} {b:β}(h:l.findSome? f=some b):∃a∈l,f a=some b:=by
 induction l with
 | nil=>cases h
 | cons x r ih =>
  rw[List.findSome?_cons]at h
  cases hx:f x with
  | some y=>rw[hx]at h;injection h with h;exact⟨x,List.mem_cons_self,by rw[hx,h]⟩
  | none=>rw[hx]at h;obtain⟨a,ha,h2⟩:=ih h;exact⟨a,List.mem_cons_of_mem _ ha,h2⟩
theorem mis_some {B C:List Nm} {e:Ex} {y:Nm × Nat}(h:mis B C e=some y):y.1∈nms e/\(y.2=90\/y.2=91):=by
 unfold mis at h
 split at h
 ·rename_i x hx
  injection h with h;subst h
  have:=List.mem_of_find?_eq_some hx
  exact⟨bis_nms e x (by simpa[boundE,mem_addA] using this),.inl rfl⟩
 ·split at h
  ·rename_i x hx
   injection h with h;subst h
   obtain⟨v,hv,h2⟩:=findSome_mem hx
   refine⟨List.mem_flatMap.2 ⟨v,hv,?_⟩,.inl rfl⟩
   cases v <;> simp_all [repV,useOf]
   exact rep_mem h2
  ·split at h
   ·rename_i x hx
    injection h with h;subst h
    have:=List.mem_of_find?_eq_some hx
    exact⟨fr_nms e x (by simpa[freeE,mem_addA] using this),.inr rfl⟩
   ·split at h
    ·rename_i x hx
     injection h with h;subst h
     have:=List.mem_of_find?_eq_some hx
     exact⟨cns_nms e x (by simpa[consE,mem_addA] using this),.inr rfl⟩
    ·cases h
theorem exs_mem {l:List De} {e:Ex}(h:e∈exs l):∃x,De.bind x e∈l:=by
 obtain⟨d,hd,he⟩:=List.mem_flatMap.1 h
 cases d <;> simp[exOf]at he
 subst he
 exact⟨_,hd⟩
end Sx
end Go.Proofs.YtmbmjneibkihkaaGreatDoor

namespace Go.Proofs.YtmbmjneibkihkaaGreatDoor
namespace Sx
open Lx Tx
mutual
def Ex.Ok:Ex->Prop
 | .var x=>Gd 1 x
 | .con c=>Gd 2 c
 | .lam x e=>Gd 1 x/\e.Ok
 | .app a b=>a.Ok/\b.Ok
 | .lt x t a b=>Gd 1 x/\(∀u,t=some u->Tx.Nm u)/\a.Ok/\b.Ok
 | .cs e l=>e.Ok/\okA l
 | .ann e t=>e.Ok/\Tx.Nm t
def Al.Ok:Al->Prop
 | .mk c vs b=>Gd 2 c/\(∀x∈vs,Gd 1 x)/\b.Ok
def okA:List Al->Prop
 | []=>True
 | a::r=>a.Ok/\okA r
end
def toldW:Option Ty->Nat
 | none=>0
 | some t=>t.size
mutual
def Ex.wt:Ex->Nat
 | .var _=>1
 | .con _=>1
 | .lam _ e=>e.wt+1
 | .app a b=>a.wt+b.wt
 | .lt _ t a b=>toldW t+a.wt+b.wt+1
 | .cs e l=>e.wt+wtA l+1
 | .ann e t=>e.wt+t.size+1
def Al.wt:Al->Nat
 | .mk _ vs b=>vs.length+b.wt+1
def wtA:List Al->Nat
 | []=>0
 | a::r=>a.wt+wtA r
end
theorem eat_facts {p:Tok->Bool} {l r:List Tok}(hg:AllG l)(h:eat p l=some r):AllG r/\r.length+1=l.length:=by
 obtain⟨t,rfl,_⟩:=eat_some _ _ _ h
 exact⟨hg.tail,rfl⟩
theorem tok1_facts {k:Nat} {l r:List Tok} {x:Nm}(hk:k≠0)(hg:AllG l)(h:tok1 k l=some (x,r)):Gd k x/\AllG r/\r.length+1=l.length:=by
 cases l with
 | nil=>cases h
 | cons t r' =>
  rw[tok1]at h
  split at h
  ·rename_i ht
   injection h with h
   injection h with h1 h2
   subst h1 h2
   have:=hg.head
   rw[Lx.Good,ht]at this
   exact⟨⟨this.1,this.2.1,hk⟩,hg.tail,rfl⟩
  ·cases h
theorem typ_facts {l r:List Tok} {t:Ty}(hg:AllG l)(h:typ l=some (t,r)):Tx.Nm t/\AllG r/\t.size+r.length<=l.length:=(read_nm _).1 l t r hg h
theorem told_facts {l r:List Tok} {t:Option Ty}(hg:AllG l)(h:told l=some (t,r)):(∀u,t=some u->Tx.Nm u)/\AllG r/\toldW t+r.length<=l.length:=by
 unfold told at h
 cases he:eat pCol l with
 | none =>
  rw[he]at h
  simp only[Option.some.injEq,Prod.mk.injEq]at h
  obtain⟨rfl,rfl⟩:=h
  exact⟨(λu h=>by cases h),hg,by simp[toldW]⟩
 | some r1 =>
  rw[he]at h
  obtain⟨g1,l1⟩:=eat_facts hg he
  simp only at h
  cases hr:typ r1 with
  | none=>rw[hr]at h;cases h
  | some y =>
   obtain⟨u,r2⟩:=y
   rw[hr]at h
   simp only[Option.map_some,Option.some.injEq,Prod.mk.injEq]at h
   obtain⟨rfl,rfl⟩:=h
   obtain⟨a,b,c⟩:=typ_facts g1 hr
   exact⟨(λv hv=>by injection hv with hv;subst hv;exact a),b,by simp only[toldW];omega⟩
theorem rd_facts(f:Nat) :
  (∀l e r,AllG l->rdE f l=some (e,r)->e.Ok/\AllG r/\e.wt+r.length<=l.length) /\
  (∀l e r,AllG l->rdLet f l=some (e,r)->e.Ok/\AllG r/\e.wt+r.length<=l.length+1) /\
  (∀l e r,AllG l->rdCase f l=some (e,r)->e.Ok/\AllG r/\e.wt+r.length<=l.length+1) /\
  (∀l als r,AllG l->rdAlts f l=some (als,r)->okA als/\AllG r/\wtA als+r.length<=l.length) /\
  (∀l e r,AllG l->rdApp f l=some (e,r)->e.Ok/\AllG r/\e.wt+r.length<=l.length) /\
  (∀a l e r,a.Ok->AllG l->rdArgs f a l=some (e,r)->e.Ok/\AllG r/\e.wt+r.length<=a.wt+l.length) /\
  (∀l e r,AllG l->rdAtom f l=some (e,r)->e.Ok/\AllG r/\e.wt+r.length<=l.length):=by
 induction f with
 | zero=>exact⟨(λ_ _ _ _ h=>by simp[rdE]at h),(λ_ _ _ _ h=>by simp[rdLet]at h),(λ_ _ _ _ h=>by simp[rdCase]at h),(λ_ _ _ _ h=>by simp[rdAlts]at h),(λ_ _ _ _ h=>by simp[rdApp]at h),(λ_ _ _ _ _ _ h=>by simp[rdArgs]at h),(λ_ _ _ _ h=>by simp[rdAtom]at h)⟩
 | succ f ih =>
  obtain⟨iE,iL,iC,iA,iP,iG,iT⟩:=ih
  refine⟨λl e r hg h=>?_,λl e r hg h=>?_,λl e r hg h=>?_,λl als r hg h=>?_,λl e r hg h=>?_,λa l e r ha hg h=>?_,λl e r hg h=>?_⟩
  ·rw[rdE]at h
   cases he:eat pLam l with
   | some r1 =>
    rw[he]at h
    obtain⟨g1,l1⟩:=eat_facts hg he
    simp only at h
    cases h1:tok1 1 r1 with
    | none=>rw[h1]at h;cases h
    | some y =>
     obtain⟨x,r2⟩:=y
     rw[h1]at h
     obtain⟨x1,g2,l2⟩:=tok1_facts (by omega) g1 h1
     simp only at h
     cases h2:eat pArr r2 with
     | none=>rw[h2]at h;cases h
     | some r3 =>
      rw[h2]at h
      obtain⟨g3,l3⟩:=eat_facts g2 h2
      simp only at h
      cases h3:rdE f r3 with
      | none=>rw[h3]at h;cases h
      | some y =>
       obtain⟨b,r4⟩:=y
       rw[h3]at h
       simp only[Option.map_some,Option.some.injEq,Prod.mk.injEq]at h
       obtain⟨rfl,rfl⟩:=h
       obtain⟨o,g4,l4⟩:=iE _ _ _ g3 h3
       exact⟨⟨x1,o⟩,g4,by simp only[Ex.wt];omega⟩
   | none =>
    rw[he]at h
    simp only at h
    cases h1:eat (isKey · wLet) l with
    | some r1 =>
     rw[h1]at h
     obtain⟨g1,l1⟩:=eat_facts hg h1
     obtain⟨o,g2,l2⟩:=iL _ _ _ g1 h
     exact⟨o,g2,by omega⟩
    | none =>
     rw[h1]at h
     simp only at h
     cases h2:eat (isKey · wCase) l with
     | some r1 =>
      rw[h2]at h
      obtain⟨g1,l1⟩:=eat_facts hg h2
      obtain⟨o,g2,l2⟩:=iC _ _ _ g1 h
      exact⟨o,g2,by omega⟩
     | none =>
      rw[h2]at h
      exact iP _ _ _ hg h
  ·rw[rdLet]at h
   cases h1:tok1 1 l with
   | none=>rw[h1]at h;cases h
   | some y =>
    obtain⟨x,r1⟩:=y
    rw[h1]at h
    obtain⟨x1,g1,l1⟩:=tok1_facts (by omega) hg h1
    simp only at h
    cases h2:told r1 with
    | none=>rw[h2]at h;cases h
    | some y =>
     obtain⟨t,r2⟩:=y
     rw[h2]at h
     obtain⟨t1,g2,l2⟩:=told_facts g1 h2
     simp only at h
     cases h3:eat pEq r2 with
     | none=>rw[h3]at h;cases h
     | some r3 =>
      rw[h3]at h
      obtain⟨g3,l3⟩:=eat_facts g2 h3
      simp only at h
      cases h4:rdE f r3 with
      | none=>rw[h4]at h;cases h
      | some y =>
       obtain⟨a,r4⟩:=y
       rw[h4]at h
       obtain⟨o4,g4,l4⟩:=iE _ _ _ g3 h4
       simp only at h
       cases h5:eat (isKey · wIn) r4 with
       | none=>rw[h5]at h;cases h
       | some r5 =>
        rw[h5]at h
        obtain⟨g5,l5⟩:=eat_facts g4 h5
        simp only at h
        cases h6:rdE f r5 with
        | none=>rw[h6]at h;cases h
        | some y =>
         obtain⟨b,r6⟩:=y
         rw[h6]at h
         simp only[Option.map_some,Option.some.injEq,Prod.mk.injEq]at h
         obtain⟨rfl,rfl⟩:=h
         obtain⟨o6,g6,l6⟩:=iE _ _ _ g5 h6
         exact⟨⟨x1,t1,o4,o6⟩,g6,by simp only[Ex.wt];omega⟩
  ·rw[rdCase]at h
   cases h1:rdE f l with
   | none=>rw[h1]at h;cases h
   | some y =>
    obtain⟨a,r1⟩:=y
    rw[h1]at h
    obtain⟨o1,g1,l1⟩:=iE _ _ _ hg h1
    simp only at h
    cases h2:eat (isKey · wOf) r1 with
    | none=>rw[h2]at h;cases h
    | some r2 =>
     rw[h2]at h
     obtain⟨g2,l2⟩:=eat_facts g1 h2
     simp only at h
     cases h3:eat pOpn r2 with
     | none=>rw[h3]at h;cases h
     | some r3 =>
      rw[h3]at h
      obtain⟨g3,l3⟩:=eat_facts g2 h3
      simp only at h
      cases h4:eat pCls r3 with
      | some r4 =>
       rw[h4]at h
       obtain⟨g4,l4⟩:=eat_facts g3 h4
       simp only[Option.some.injEq,Prod.mk.injEq]at h
       obtain⟨rfl,rfl⟩:=h
       exact⟨⟨o1,trivial⟩,g4,by simp only[Ex.wt,wtA];omega⟩
      | none =>
       rw[h4]at h
       simp only at h
       cases h5:rdAlts f r3 with
       | none=>rw[h5]at h;cases h
       | some y =>
        obtain⟨als,r5⟩:=y
        rw[h5]at h
        obtain⟨o5,g5,l5⟩:=iA _ _ _ g3 h5
        simp only at h
        cases h6:eat pCls r5 with
        | none=>rw[h6]at h;cases h
        | some r6 =>
         rw[h6]at h
         obtain⟨g6,l6⟩:=eat_facts g5 h6
         simp only[Option.map_some,Option.some.injEq,Prod.mk.injEq]at h
         obtain⟨rfl,rfl⟩:=h
         exact⟨⟨o1,o5⟩,g6,by simp only[Ex.wt];omega⟩
  ·rw[rdAlts]at h
   cases h1:tok1 2 l with
   | none=>rw[h1]at h;cases h
   | some y =>
    obtain⟨c,r1⟩:=y
    rw[h1]at h
    obtain⟨c1,g1,l1⟩:=tok1_facts (by omega) hg h1
    obtain⟨v1,v2,v3⟩:=vars_spec r1 g1
    simp only at h
    cases h2:eat pArr (vars r1).2 with
    | none=>rw[h2]at h;cases h
    | some r2 =>
     rw[h2]at h
     obtain⟨g2,l2⟩:=eat_facts v2 h2
     simp only at h
     cases h3:rdE f r2 with
     | none=>rw[h3]at h;cases h
     | some y =>
      obtain⟨b,r3⟩:=y
      rw[h3]at h
      obtain⟨o3,g3,l3⟩:=iE _ _ _ g2 h3
      simp only at h
      cases h4:eat pSem r3 with
      | none =>
       rw[h4]at h
       simp only[Option.some.injEq,Prod.mk.injEq]at h
       obtain⟨rfl,rfl⟩:=h
       exact⟨⟨⟨c1,v1,o3⟩,trivial⟩,g3,by simp only[wtA,Al.wt];omega⟩
      | some r4 =>
       rw[h4]at h
       obtain⟨g4,l4⟩:=eat_facts g3 h4
       simp only at h
       cases h5:rdAlts f r4 with
       | none=>rw[h5]at h;cases h
       | some y =>
        obtain⟨als',r5⟩:=y
        rw[h5]at h
        simp only[Option.map_some,Option.some.injEq,Prod.mk.injEq]at h
        obtain⟨rfl,rfl⟩:=h
        obtain⟨o5,g5,l5⟩:=iA _ _ _ g4 h5
        exact⟨⟨⟨c1,v1,o3⟩,o5⟩,g5,by simp only[wtA,Al.wt];omega⟩
  ·rw[rdApp]at h
   cases h1:rdAtom f l with
   | none=>rw[h1]at h;cases h
   | some y =>
    obtain⟨a,r1⟩:=y
    rw[h1]at h
    obtain⟨o1,g1,l1⟩:=iT _ _ _ hg h1
    obtain⟨o2,g2,l2⟩:=iG _ _ _ _ o1 g1 h
    exact⟨o2,g2,by omega⟩
  ·cases l with
   | nil =>
    rw[rdArgs]at h
    simp only[Option.some.injEq,Prod.mk.injEq]at h
    obtain⟨rfl,rfl⟩:=h
    exact⟨ha,hg,by simp⟩
   | cons t r1 =>
    rw[rdArgs]at h
    split at h
    ·cases h1:rdAtom f (t::r1) with
     | none=>rw[h1]at h;cases h
     | some y =>
      obtain⟨b,r2⟩:=y
      rw[h1]at h
      obtain⟨o1,g1,l1⟩:=iT _ _ _ hg h1
      obtain⟨o2,g2,l2⟩:=iG _ _ _ _ (show(Ex.app a b).Ok from⟨ha,o1⟩) g1 h
      exact⟨o2,g2,by simp only[Ex.wt]at l2;omega⟩
    ·simp only[Option.some.injEq,Prod.mk.injEq]at h
     obtain⟨rfl,rfl⟩:=h
     exact⟨ha,hg,by simp⟩
  ·rw[rdAtom]at h
   cases h1:tok1 1 l with
   | some y =>
    obtain⟨x,r1⟩:=y
    rw[h1]at h
    obtain⟨x1,g1,l1⟩:=tok1_facts (by omega) hg h1
    simp only[Option.some.injEq,Prod.mk.injEq]at h
    obtain⟨rfl,rfl⟩:=h
    exact⟨x1,g1,by simp only[Ex.wt];omega⟩
   | none =>
    rw[h1]at h
    simp only at h
    cases h2:eat pLp l with
    | some r1 =>
     rw[h2]at h
     obtain⟨g1,l1⟩:=eat_facts hg h2
     simp only at h
     cases h3:rdE f r1 with
     | none=>rw[h3]at h;cases h
     | some y =>
      obtain⟨a,r2⟩:=y
      rw[h3]at h
      obtain⟨o3,g3,l3⟩:=iE _ _ _ g1 h3
      simp only at h
      cases h4:told r2 with
      | none=>rw[h4]at h;cases h
      | some y =>
       obtain⟨t,r3⟩:=y
       rw[h4]at h
       obtain⟨t4,g4,l4⟩:=told_facts g3 h4
       cases t with
       | none =>
        simp only at h
        cases h5:eat pRp r3 with
        | none=>rw[h5]at h;cases h
        | some r4 =>
         rw[h5]at h
         obtain⟨g5,l5⟩:=eat_facts g4 h5
         simp only[Option.map_some,Option.some.injEq,Prod.mk.injEq]at h
         obtain⟨rfl,rfl⟩:=h
         exact⟨o3,g5,by omega⟩
       | some t =>
        simp only at h
        cases h5:eat pRp r3 with
        | none=>rw[h5]at h;cases h
        | some r4 =>
         rw[h5]at h
         obtain⟨g5,l5⟩:=eat_facts g4 h5
         simp only[Option.map_some,Option.some.injEq,Prod.mk.injEq]at h
         obtain⟨rfl,rfl⟩:=h
         exact⟨⟨o3,t4 t rfl⟩,g5,by simp only[Ex.wt];simp only[toldW]at l4;omega⟩
    | none =>
     rw[h2]at h
     simp only at h
     cases h3:tok1 2 l with
     | none=>rw[h3]at h;cases h
     | some y =>
      obtain⟨x,r1⟩:=y
      rw[h3]at h
      obtain⟨x1,g1,l1⟩:=tok1_facts (by omega) hg h3
      simp only[Option.map_some,Option.some.injEq,Prod.mk.injEq]at h
      obtain⟨rfl,rfl⟩:=h
      exact⟨x1,g1,by simp only[Ex.wt];omega⟩
end Sx
end Go.Proofs.YtmbmjneibkihkaaGreatDoor

namespace Go.Proofs.YtmbmjneibkihkaaGreatDoor
open Go.RowKit Lx Tx
namespace Sx
def kdE:Ex->Nat
 | .var _=>1
 | .con _=>2
 | .lam _ _=>3
 | .app _ _=>4
 | .lt _ _ _ _=>5
 | .cs _ _=>6
 | .ann _ _=>7
def nmE:Ex->Nm
 | .var x=>x
 | .con c=>c
 | .lam x _=>x
 | .app _ _=>[]
 | .lt x _ _ _=>x
 | .cs _ _=>[]
 | .ann _ _=>[]
def toE:Ex->Bool
 | .lt _ (some _) _ _=>true
 | _=>false
def tyE:Ex->Option Ty
 | .lt _ t _ _=>t
 | .ann _ t=>some t
 | _=>none
def kidsE:Ex->List Ex
 | .var _=>[]
 | .con _=>[]
 | .lam _ e=>[e]
 | .app a b=>[a,b]
 | .lt _ _ a b=>[a,b]
 | .cs e _=>[e]
 | .ann e _=>[e]
def altsE:Ex->List Al
 | .cs _ l=>l
 | _=>[]
def strV(x:Nm):Value:=.string ⟨x.toArray⟩
structure Pls where
 A:Option Addr
 a:Nat
 K:Option Addr
 k:Nat
 L:Option Addr
 l:Nat
def tyC:Option Ty->Option Addr->Nat->List Value
 | none,_,_=>[.int .i64 0,.string ⟨#[]⟩,.int .i64 0,.slice none 0 0]
 | some t,A,c=>tyV t A c
def exC(e:Ex)(P:Pls):List Value :=
 [.int .i64 (kdE e:Nat),strV (nmE e),.bool (toE e)]++tyC (tyE e) P.A P.a++[.slice P.K (kidsE e).length ((kidsE e).length+P.k),.slice P.L (altsE e).length P.l]
theorem tyC_length(t:Option Ty)(A:Option Addr)(c:Nat):(tyC t A c).length=4:=by cases t <;> rfl
theorem exC_length(e:Ex)(P:Pls):(exC e P).length=9:=by simp[exC,tyC_length]
def Lie(w:World)(g o:Nat)(vs:List Value):Prop:=∀(j:Nat)(v:Value),vs[j]? = some v->w.cell? ⟨g,o+j,none⟩=some v
def TyA(S:Nat->Prop)(w:World):Option Ty->Option Addr->Prop
 | none,_=>True
 | some t,A=>Args S w t A
def NmsIn(S:Nat->Prop)(w:World)(vs:List Nm)(V:Option Addr):Prop:=vs≠[]->∃g,V=some ⟨g,0,none⟩/\S g/\Lie w g 0 (vs.map strV)
mutual
def ExIn(S:Nat->Prop)(w:World):Ex->Option Addr->Option Addr->Prop
 | .var _,_,_=>True
 | .con _,_,_=>True
 | .lam _ e,K,_=>∃g,K=some ⟨g,0,none⟩/\S g/\∃P:Pls,Lie w g 0 (exC e P)/\TyA S w (tyE e) P.A/\ExIn S w e P.K P.L
 | .app a b,K,_=>∃g,K=some ⟨g,0,none⟩/\S g/\(∃P:Pls,Lie w g 0 (exC a P)/\TyA S w (tyE a) P.A/\ExIn S w a P.K P.L)/\∃P:Pls,Lie w g 9 (exC b P)/\TyA S w (tyE b) P.A/\ExIn S w b P.K P.L
 | .lt _ _ a b,K,_=>∃g,K=some ⟨g,0,none⟩/\S g/\(∃P:Pls,Lie w g 0 (exC a P)/\TyA S w (tyE a) P.A/\ExIn S w a P.K P.L)/\∃P:Pls,Lie w g 9 (exC b P)/\TyA S w (tyE b) P.A/\ExIn S w b P.K P.L
 | .cs e l,K,L=>(∃g,K=some ⟨g,0,none⟩/\S g/\∃P:Pls,Lie w g 0 (exC e P)/\TyA S w (tyE e) P.A/\ExIn S w e P.K P.L)/\(l≠[]->∃g,L=some ⟨g,0,none⟩/\S g/\AlsIn S w l g 0)
 | .ann e _,K,_=>∃g,K=some ⟨g,0,none⟩/\S g/\∃P:Pls,Lie w g 0 (exC e P)/\TyA S w (tyE e) P.A/\ExIn S w e P.K P.L
def AlIn(S:Nat->Prop)(w:World):Al->Nat->Nat->Prop
 | .mk c vs b,g,o=>w.cell? ⟨g,o,none⟩=some (strV c)/\(∃V v,w.cell? ⟨g,o+1,none⟩=some (.slice V vs.length v)/\NmsIn S w vs V) /\
   ∃P:Pls,Lie w g (o+2) (exC b P)/\TyA S w (tyE b) P.A/\ExIn S w b P.K P.L
def AlsIn(S:Nat->Prop)(w:World):List Al->Nat->Nat->Prop
 | [],_,_=>True
 | a::r,g,o=>AlIn S w a g o/\AlsIn S w r g (o+11)
end
def ExAt(S:Nat->Prop)(w:World)(e:Ex)(g o:Nat):Prop:=∃P:Pls,Lie w g o (exC e P)/\TyA S w (tyE e) P.A/\ExIn S w e P.K P.L
def RdX(S:Nat->Prop)(w:World)(e:Ex)(v:Value):Prop:=∃P:Pls,v=.agg (exC e P).toArray/\TyA S w (tyE e) P.A/\ExIn S w e P.K P.L
def ExsAt(S:Nat->Prop)(w:World):List Ex->Nat->Nat->Prop
 | [],_,_=>True
 | e::r,g,o=>ExAt S w e g o/\ExsAt S w r g (o+9)
theorem Lie.keep {w w':World} {g o:Nat} {vs:List Value}(h:Lie w g o vs)(hk:w'.heap[g]? = w.heap[g]?):Lie w' g o vs:=λj v hj =>
 (World.cell?_of_block (w:=w) (a:=⟨g,o+j,none⟩) hk).trans (h j v hj)
theorem cell_keep {w w':World} {g o:Nat} {v:Value}(h:w.cell? ⟨g,o,none⟩=some v)(hk:w'.heap[g]? = w.heap[g]?):w'.cell? ⟨g,o,none⟩=some v :=
 (World.cell?_of_block (w:=w) (a:=⟨g,o,none⟩) hk).trans h
theorem TyA.keep {S S':Nat->Prop} {w w':World}(hS:∀g,S g->S' g)(hk:∀g,S g->w'.heap[g]? = w.heap[g]?) {t:Option Ty} {A:Option Addr}(h:TyA S w t A):TyA S' w' t A:=by
 cases t with
 | none=>trivial
 | some t=>exact Args.keep hS hk t A h
theorem NmsIn.keep {S S':Nat->Prop} {w w':World}(hS:∀g,S g->S' g)(hk:∀g,S g->w'.heap[g]? = w.heap[g]?) {vs:List Nm} {V:Option Addr}(h:NmsIn S w vs V):NmsIn S' w' vs V:=λhv=>by
 obtain⟨g,h1,h2,h3⟩:=h hv
 exact⟨g,h1,hS g h2,h3.keep (hk g h2)⟩
mutual
theorem ExIn.keep {S S':Nat->Prop} {w w':World}(hS:∀g,S g->S' g)(hk:∀g,S g->w'.heap[g]? = w.heap[g]?):(e:Ex)->∀K L,ExIn S w e K L->ExIn S' w' e K L
 | .var _,_,_,_=>by rw[ExIn];trivial
 | .con _,_,_,_=>by rw[ExIn];trivial
 | .lam _ e,K,L,h=>by
  rw[ExIn]at h ⊢
  obtain⟨g,h1,h2,P,h3,h4,h5⟩:=h
  exact⟨g,h1,hS g h2,P,h3.keep (hk g h2),h4.keep hS hk,ExIn.keep hS hk e _ _ h5⟩
 | .app a b,K,L,h=>by
  rw[ExIn]at h ⊢
  obtain⟨g,h1,h2,⟨P,h3,h4,h5⟩,Q,h6,h7,h8⟩:=h
  exact⟨g,h1,hS g h2,⟨P,h3.keep (hk g h2),h4.keep hS hk,ExIn.keep hS hk a _ _ h5⟩,Q,h6.keep (hk g h2),h7.keep hS hk,ExIn.keep hS hk b _ _ h8⟩
 | .lt _ _ a b,K,L,h=>by
  rw[ExIn]at h ⊢
  obtain⟨g,h1,h2,⟨P,h3,h4,h5⟩,Q,h6,h7,h8⟩:=h
  exact⟨g,h1,hS g h2,⟨P,h3.keep (hk g h2),h4.keep hS hk,ExIn.keep hS hk a _ _ h5⟩,Q,h6.keep (hk g h2),h7.keep hS hk,ExIn.keep hS hk b _ _ h8⟩
 | .cs e l,K,L,h=>by
  rw[ExIn]at h ⊢
  obtain⟨⟨g,h1,h2,P,h3,h4,h5⟩,h6⟩:=h
  refine⟨⟨g,h1,hS g h2,P,h3.keep (hk g h2),h4.keep hS hk,ExIn.keep hS hk e _ _ h5⟩,λhl=>?_⟩
  obtain⟨g2,a1,a2,a3⟩:=h6 hl
  exact⟨g2,a1,hS g2 a2,AlsIn.keep hS hk l g2 0 (hk g2 a2) a3⟩
 | .ann e _,K,L,h=>by
  rw[ExIn]at h ⊢
  obtain⟨g,h1,h2,P,h3,h4,h5⟩:=h
  exact⟨g,h1,hS g h2,P,h3.keep (hk g h2),h4.keep hS hk,ExIn.keep hS hk e _ _ h5⟩
theorem AlIn.keep {S S':Nat->Prop} {w w':World}(hS:∀g,S g->S' g)(hk:∀g,S g->w'.heap[g]? = w.heap[g]?):(a:Al)->∀g o,w'.heap[g]? = w.heap[g]?->AlIn S w a g o->AlIn S' w' a g o
 | .mk c vs b,g,o,hg,h=>by
  rw[AlIn]at h ⊢
  obtain⟨h1,⟨V,v,h2,h3⟩,P,h4,h5,h6⟩:=h
  exact⟨cell_keep h1 hg,⟨V,v,cell_keep h2 hg,h3.keep hS hk⟩,P,h4.keep hg,h5.keep hS hk,ExIn.keep hS hk b _ _ h6⟩
theorem AlsIn.keep {S S':Nat->Prop} {w w':World}(hS:∀g,S g->S' g)(hk:∀g,S g->w'.heap[g]? = w.heap[g]?):(l:List Al)->∀g o,w'.heap[g]? = w.heap[g]?->AlsIn S w l g o->AlsIn S' w' l g o
 | [],_,_,_,_=>by rw[AlsIn];trivial
 | a::r,g,o,hg,h=>by
  rw[AlsIn]at h ⊢
  exact⟨AlIn.keep hS hk a g o hg h.1,AlsIn.keep hS hk r g (o+11) hg h.2⟩
end
theorem ExAt.keep {S S':Nat->Prop} {w w':World} {e:Ex} {g o:Nat}(h:ExAt S w e g o)(hS:∀g,S g->S' g)(hk:∀g,S g->w'.heap[g]? = w.heap[g]?)(hg:w'.heap[g]? = w.heap[g]?):ExAt S' w' e g o:=by
 obtain⟨P,h1,h2,h3⟩:=h
 exact⟨P,h1.keep hg,h2.keep hS hk,ExIn.keep hS hk e _ _ h3⟩
theorem RdX.keep {S S':Nat->Prop} {w w':World} {e:Ex} {v:Value}(h:RdX S w e v)(hS:∀g,S g->S' g)(hk:∀g,S g->w'.heap[g]? = w.heap[g]?):RdX S' w' e v:=by
 obtain⟨P,rfl,h2,h3⟩:=h
 exact⟨P,rfl,h2.keep hS hk,ExIn.keep hS hk e _ _ h3⟩
theorem kids_at {S:Nat->Prop} {w:World}(e:Ex)(K L:Option Addr):ExIn S w e K L↔((kidsE e≠[]->∃g,K=some ⟨g,0,none⟩/\S g/\ExsAt S w (kidsE e) g 0)/\(altsE e≠[]->∃g,L=some ⟨g,0,none⟩/\S g/\AlsIn S w (altsE e) g 0)):=by
 cases e with
 | var x=>rw[ExIn];simp[kidsE,altsE]
 | con c=>rw[ExIn];simp[kidsE,altsE]
 | lam x e =>
  rw[ExIn]
  refine⟨λ⟨g,h1,h2,h3⟩=>⟨λ_=>⟨g,h1,h2,h3,trivial⟩,λh=>absurd rfl h⟩,λ⟨h,_⟩=>?_⟩
  obtain⟨g,h1,h2,h3,_⟩:=h (by simp[kidsE])
  exact⟨g,h1,h2,h3⟩
 | app a b =>
  rw[ExIn]
  refine⟨λ⟨g,h1,h2,h3,h4⟩=>⟨λ_=>⟨g,h1,h2,h3,h4,trivial⟩,λh=>absurd rfl h⟩,λ⟨h,_⟩=>?_⟩
  obtain⟨g,h1,h2,h3,h4,_⟩:=h (by simp[kidsE])
  exact⟨g,h1,h2,h3,h4⟩
 | lt x t a b =>
  rw[ExIn]
  refine⟨λ⟨g,h1,h2,h3,h4⟩=>⟨λ_=>⟨g,h1,h2,h3,h4,trivial⟩,λh=>absurd rfl h⟩,λ⟨h,_⟩=>?_⟩
  obtain⟨g,h1,h2,h3,h4,_⟩:=h (by simp[kidsE])
  exact⟨g,h1,h2,h3,h4⟩
 | cs e l =>
  rw[ExIn]
  refine⟨λ⟨⟨g,h1,h2,h3⟩,h4⟩=>⟨λ_=>⟨g,h1,h2,h3,trivial⟩,h4⟩,λ⟨h,h4⟩=>⟨?_,h4⟩⟩
  obtain⟨g,h1,h2,h3,_⟩:=h (by simp[kidsE])
  exact⟨g,h1,h2,h3⟩
 | ann e t =>
  rw[ExIn]
  refine⟨λ⟨g,h1,h2,h3⟩=>⟨λ_=>⟨g,h1,h2,h3,trivial⟩,λh=>absurd rfl h⟩,λ⟨h,_⟩=>?_⟩
  obtain⟨g,h1,h2,h3,_⟩:=h (by simp[kidsE])
  exact⟨g,h1,h2,h3⟩
theorem ExsAt.at_ {S:Nat->Prop} {w:World} :(l:List Ex)->∀g o i (hi:i<l.length),ExsAt S w l g o->ExAt S w l[i] g (o+i*9)
 | [],_,_,i,hi,_=>absurd hi (by simp)
 | e::r,g,o,0,_,h=>by rw[ExsAt]at h;simpa using h.1
 | e::r,g,o,i+1,hi,h=>by
  rw[ExsAt]at h
  have:=ExsAt.at_ r g (o+9) i (by simpa using hi) h.2
  rw[show o+9+i*9=o+(i+1)*9 by omega]at this
  simpa using this
theorem AlsIn.at_ {S:Nat->Prop} {w:World} :(l:List Al)->∀g o i (hi:i<l.length),AlsIn S w l g o->AlIn S w l[i] g (o+i*11)
 | [],_,_,i,hi,_=>absurd hi (by simp)
 | a::r,g,o,0,_,h=>by rw[AlsIn]at h;simpa using h.1
 | a::r,g,o,i+1,hi,h=>by
  rw[AlsIn]at h
  have:=AlsIn.at_ r g (o+11) i (by simpa using hi) h.2
  rw[show o+11+i*11=o+(i+1)*11 by omega]at this
  simpa using this
def alB:Al->Ex
 | .mk _ _ b=>b
def parts(e:Ex):List Ex:=kidsE e++(altsE e).map alB
theorem size_parts(e:Ex):e.size=1+((parts e).map Ex.size).sum:=by
 have hA:∀l:List Al,sizeA l=((l.map alB).map Ex.size).sum:=by
  intro l
  induction l with
  | nil=>rfl
  | cons a r ih=>cases a;simp[sizeA,Al.size,alB,ih]
 cases e <;> simp[Ex.size,parts,kidsE,altsE,hA] <;> omega
theorem depth_parts(e:Ex):e.depth=1+((parts e).map Ex.depth).foldl max 0:=by
 have hm:∀(l:List Nat) (a:Nat),l.foldl max a=max a (l.foldl max 0):=by
  intro l
  induction l with
  | nil=>intro a;simp
  | cons x r ih=>intro a;rw[List.foldl_cons,List.foldl_cons,ih (max a x),ih (max 0 x)];omega
 have hA:∀l:List Al,depthA l=((l.map alB).map Ex.depth).foldl max 0:=by
  intro l
  induction l with
  | nil=>rfl
  | cons a r ih=>cases a;rw[depthA,ih];simp only[Al.depth,alB,List.map_cons,List.foldl_cons];rw[hm _ (max 0 _)];omega
 cases e with
 | var x=>rfl
 | con x=>rfl
 | lam x e=>simp[Ex.depth,parts,kidsE,altsE];omega
 | app a b=>simp[Ex.depth,parts,kidsE,altsE];omega
 | lt x t a b=>simp[Ex.depth,parts,kidsE,altsE];omega
 | cs e l =>
  simp only[Ex.depth,parts,kidsE,altsE,hA,List.map_append,List.foldl_append,List.map_cons,List.map_nil,List.foldl_cons,List.foldl_nil]
  rw[hm _ (max 0 e.depth)];omega
 | ann e t=>simp[Ex.depth,parts,kidsE,altsE];omega
theorem deep_parts(e:Ex):e.deepT=(deepO (tyE e) ||(parts e).any Ex.deepT):=by
 have hA:∀l:List Al,deepA l=(l.map alB).any Ex.deepT:=by
  intro l
  induction l with
  | nil=>rfl
  | cons a r ih=>cases a;simp[deepA,Al.deepT,alB,ih]
 cases e <;> simp[Ex.deepT,parts,kidsE,altsE,tyE,deepO,hA]
end Sx
end Go.Proofs.YtmbmjneibkihkaaGreatDoor

namespace Go.Proofs.YtmbmjneibkihkaaGreatDoor
namespace Sx
open Lx Tx
theorem frA_flat(l:List Al):frA l=l.flatMap fr1:=by induction l with
 | nil=>rfl
 | cons a r ih=>rw[frA,ih];rfl
theorem cnsA_flat(l:List Al):cnsA l=l.flatMap cns1:=by induction l with
 | nil=>rfl
 | cons a r ih=>rw[cnsA,ih];rfl
theorem bisA_flat(l:List Al):bisA l=l.flatMap bis1:=by induction l with
 | nil=>rfl
 | cons a r ih=>rw[bisA,ih];rfl
def bK:Ex->Nat->List Nm
 | .lam x _,_=>[x]
 | .lt x _ _ _,i=>if i=1 then[x] else[]
 | _,_=>[]
def kF(f:Nat->Ex->List Nm)(e:Ex):Nat->List Nm
 | 0=>[]
 | i+1=>kF f e i++((kidsE e)[i]?).elim [] (f i)
def frK(e:Ex):Nat->List Nm:=kF (λi k=>but (bK e i) (fr k)) e
theorem fr_all(e:Ex)(h:kdE e≠1):fr e=frK e (kidsE e).length++(altsE e).flatMap fr1:=by
 cases e with
 | var x=>exact absurd rfl h
 | con c=>rfl
 | lam x e=>simp[fr,frK,kF,kidsE,altsE,bK]
 | app a b=>simp[fr,frK,kF,kidsE,altsE,bK,but_nil]
 | lt x t a b=>simp[fr,frK,kF,kidsE,altsE,bK,but_nil]
 | cs e l=>simp[fr,frK,kF,kidsE,altsE,bK,but_nil,frA_flat]
 | ann e t=>simp[fr,frK,kF,kidsE,altsE,bK,but_nil]
def preC:Ex->List Nm
 | .con c=>[c]
 | _=>[]
def preB:Ex->List Nm
 | .lam x _=>[x]
 | .lt x _ _ _=>[x]
 | _=>[]
theorem cns_all(e:Ex):cns e=preC e++(kF (λ_=>cns) e (kidsE e).length++(altsE e).flatMap cns1):=by
 cases e <;> simp[cns,preC,kF,kidsE,altsE,cnsA_flat]
theorem bis_all(e:Ex):bis e=preB e++(kF (λ_=>bis) e (kidsE e).length++(altsE e).flatMap bis1):=by
 cases e <;> simp[bis,preB,kF,kidsE,altsE,bisA_flat]
theorem flat_snoc {α:Type}(f:α->List Nm)(l:List α)(i:Nat)(x:α)(h:l[i]? = some x):(l.take (i+1)).flatMap f=(l.take i).flatMap f++f x:=by
 rw[List.take_add_one,h];simp
theorem kF_snoc(f:Nat->Ex->List Nm)(e:Ex)(i:Nat)(k:Ex)(h:(kidsE e)[i]? = some k):kF f e (i+1)=kF f e i++f i k:=by rw[kF,h];rfl
theorem addA_one(o:List Nm)(x:Nm):addA o [x]=add1 o x:=rfl
def frAD(b o:List Nm)(e:Ex):List Nm:=addA o (but b (fr e))
theorem frAD_var(b o:List Nm)(x:Nm):frAD b o (.var x)=if x∈b then o else add1 o x:=by
 unfold frAD but
 by_cases h:x∈b <;> simp[fr,h,addA]
end Sx
end Go.Proofs.YtmbmjneibkihkaaGreatDoor

namespace Go.Proofs.YtmbmjneibkihkaaGreatDoor
namespace Sx
open Lx Tx
theorem but_len(vs l:List Nm):(but vs l).length<=l.length:=by unfold but;exact List.length_filter_le _ _
mutual
theorem fr_wt:∀e:Ex,(fr e).length<=e.wt
 | .var _=>by simp[fr,Ex.wt]
 | .con _=>by simp[fr]
 | .lam x e=>by have:=fr_wt e;have:=but_len [x] (fr e);simp only[fr,Ex.wt];omega
 | .app a b=>by have:=fr_wt a;have:=fr_wt b;simp only[fr,Ex.wt,List.length_append];omega
 | .lt x t a b=>by have:=fr_wt a;have:=fr_wt b;have:=but_len [x] (fr b);simp only[fr,Ex.wt,List.length_append];omega
 | .cs e l=>by have:=fr_wt e;have:=frA_wt l;simp only[fr,Ex.wt,List.length_append];omega
 | .ann e t=>by have:=fr_wt e;simp only[fr,Ex.wt];omega
theorem fr1_wt:∀a:Al,(fr1 a).length<=a.wt
 | .mk c vs b=>by have:=fr_wt b;have:=but_len vs (fr b);simp only[fr1,Al.wt];omega
theorem frA_wt:∀l:List Al,(frA l).length<=wtA l
 | []=>by simp[frA]
 | a::r=>by have:=fr1_wt a;have:=frA_wt r;simp only[frA,wtA,List.length_append];omega
end
mutual
theorem cns_wt:∀e:Ex,(cns e).length<=e.wt
 | .var _=>by simp[cns]
 | .con _=>by simp[cns,Ex.wt]
 | .lam x e=>by have:=cns_wt e;simp only[cns,Ex.wt];omega
 | .app a b=>by have:=cns_wt a;have:=cns_wt b;simp only[cns,Ex.wt,List.length_append];omega
 | .lt x t a b=>by have:=cns_wt a;have:=cns_wt b;simp only[cns,Ex.wt,List.length_append];omega
 | .cs e l=>by have:=cns_wt e;have:=cnsA_wt l;simp only[cns,Ex.wt,List.length_append];omega
 | .ann e t=>by have:=cns_wt e;simp only[cns,Ex.wt];omega
theorem cns1_wt:∀a:Al,(cns1 a).length<=a.wt
 | .mk c vs b=>by have:=cns_wt b;simp only[cns1,Al.wt,List.length_cons];omega
theorem cnsA_wt:∀l:List Al,(cnsA l).length<=wtA l
 | []=>by simp[cnsA]
 | a::r=>by have:=cns1_wt a;have:=cnsA_wt r;simp only[cnsA,wtA,List.length_append];omega
end
mutual
theorem bis_wt:∀e:Ex,(bis e).length<=e.wt
 | .var _=>by simp[bis]
 | .con _=>by simp[bis]
 | .lam x e=>by have:=bis_wt e;simp only[bis,Ex.wt,List.length_cons];omega
 | .app a b=>by have:=bis_wt a;have:=bis_wt b;simp only[bis,Ex.wt,List.length_append];omega
 | .lt x t a b=>by have:=bis_wt a;have:=bis_wt b;simp only[bis,Ex.wt,List.length_append,List.length_cons];omega
 | .cs e l=>by have:=bis_wt e;have:=bisA_wt l;simp only[bis,Ex.wt,List.length_append];omega
 | .ann e t=>by have:=bis_wt e;simp only[bis,Ex.wt];omega
theorem bis1_wt:∀a:Al,(bis1 a).length<=a.wt
 | .mk c vs b=>by have:=bis_wt b;simp only[bis1,Al.wt,List.length_append];omega
theorem bisA_wt:∀l:List Al,(bisA l).length<=wtA l
 | []=>by simp[bisA]
 | a::r=>by have:=bis1_wt a;have:=bisA_wt r;simp only[bisA,wtA,List.length_append];omega
end
theorem kid_wt(L:Ex->List Nm)(f:Nat->Ex->List Nm)(hf:∀i k,(f i k).length<=(L k).length)(hL:∀e,(L e).length<=e.wt)(e:Ex)(i:Nat)(k:Ex)(h:(kidsE e)[i]? = some k) :
  (kF f e i).length+k.wt+(bK e i).length<=e.wt/\k.size<e.size:=by
 have h2:∀i k,(f i k).length<=k.wt:=λi k=>Nat.le_trans (hf i k) (hL k)
 cases e with
 | var x=>simp[kidsE]at h
 | con c=>simp[kidsE]at h
 | lam x e =>
  match i,h with
  | 0,h=>simp[kidsE]at h;subst h;simp[kF,bK,Ex.wt,Ex.size]
  | i+1,h=>simp[kidsE]at h
 | app a b =>
  match i,h with
  | 0,h=>simp[kidsE]at h;subst h;simp[kF,bK,Ex.wt,Ex.size];omega
  | 1,h=>simp[kidsE]at h;subst h;have:=h2 0 a;simp[kF,kidsE,bK,Ex.wt,Ex.size];omega
  | i+2,h=>simp[kidsE]at h
 | lt x t a b =>
  match i,h with
  | 0,h=>simp[kidsE]at h;subst h;simp[kF,bK,Ex.wt,Ex.size];omega
  | 1,h=>simp[kidsE]at h;subst h;have:=h2 0 a;simp[kF,kidsE,bK,Ex.wt,Ex.size];omega
  | i+2,h=>simp[kidsE]at h
 | cs e l =>
  match i,h with
  | 0,h=>simp[kidsE]at h;subst h;simp[kF,bK,Ex.wt,Ex.size];omega
  | i+1,h=>simp[kidsE]at h
 | ann e t =>
  match i,h with
  | 0,h=>simp[kidsE]at h;subst h;simp[kF,bK,Ex.wt,Ex.size];omega
  | i+1,h=>simp[kidsE]at h
def bnd(e:Ex):Nat:=if kdE e=3\/kdE e=5 then 1 else 0
theorem kid_wt2(f:Nat->Ex->List Nm)(hf:∀i k,(f i k).length<=k.wt)(e:Ex)(i:Nat)(k:Ex)(h:(kidsE e)[i]? = some k):(Sx.kF f e i).length+k.wt+bnd e<=e.wt:=by
 cases e with
 | var x=>simp[kidsE]at h
 | con c=>simp[kidsE]at h
 | lam x e =>
  match i,h with
  | 0,h=>simp[kidsE]at h;subst h;simp[Sx.kF,bnd,kdE,Ex.wt]
  | i+1,h=>simp[kidsE]at h
 | app a b =>
  match i,h with
  | 0,h=>simp[kidsE]at h;subst h;simp[Sx.kF,bnd,kdE,Ex.wt]
  | 1,h=>simp[kidsE]at h;subst h;have:=hf 0 a;simp[Sx.kF,kidsE,bnd,kdE,Ex.wt];omega
  | i+2,h=>simp[kidsE]at h
 | lt x t a b =>
  match i,h with
  | 0,h=>simp[kidsE]at h;subst h;simp[Sx.kF,bnd,kdE,Ex.wt];omega
  | 1,h=>simp[kidsE]at h;subst h;have:=hf 0 a;simp[Sx.kF,kidsE,bnd,kdE,Ex.wt];omega
  | i+2,h=>simp[kidsE]at h
 | cs e l =>
  match i,h with
  | 0,h=>simp[kidsE]at h;subst h;simp[Sx.kF,bnd,kdE,Ex.wt];omega
  | i+1,h=>simp[kidsE]at h
 | ann e t =>
  match i,h with
  | 0,h=>simp[kidsE]at h;subst h;simp[Sx.kF,bnd,kdE,Ex.wt];omega
  | i+1,h=>simp[kidsE]at h
def alVs:Al->List Nm
 | .mk _ vs _=>vs
def alCn:Al->Nm
 | .mk c _ _=>c
theorem flat_wt(g:Al->List Nm)(hg:∀a,(g a).length<=a.wt):∀(l:List Al)(i:Nat)(a:Al),l[i]? = some a->((l.take i).flatMap g).length+a.wt<=wtA l
 | [],_,_,h=>by simp at h
 | b::r,0,a,h=>by simp at h;subst h;simp[wtA]
 | b::r,i+1,a,h=>by
  have:=flat_wt g hg r i a (by simpa using h)
  have:=hg b
  simp only[List.take_succ_cons,List.flatMap_cons,List.length_append,wtA];omega
theorem alt_wt(L:Ex->List Nm)(f:Nat->Ex->List Nm)(g:Al->List Nm)(hf:∀i k,(f i k).length<=(L k).length)(hL:∀e,(L e).length<=e.wt)(hg:∀a,(g a).length<=a.wt)(e:Ex)(i:Nat)(a:Al)(h:(altsE e)[i]? = some a) :
  (kF f e (kidsE e).length).length+(((altsE e).take i).flatMap g).length+(alB a).wt+(alVs a).length+1<=e.wt/\(alB a).size<e.size:=by
 cases e with
 | cs e l =>
  have h1:=flat_wt g hg l i a h
  have h2:(f 0 e).length<=e.wt:=Nat.le_trans (hf 0 e) (hL e)
  have h3:∀(l:List Al) (i:Nat) (a:Al),l[i]? = some a->a.size<=sizeA l:=by
   intro l
   induction l with
   | nil=>intro i a h;simp at h
   | cons b r ih =>
    intro i a h
    match i,h with
    | 0,h=>simp at h;subst h;simp[sizeA]
    | i+1,h=>have:=ih i a (by simpa using h);simp[sizeA];omega
  have h4:=h3 l i a h
  obtain⟨c,vs,b⟩:=a
  simp only[Al.size]at h4
  simp only[Al.wt]at h1
  simp only[kF,kidsE,altsE,alB,alVs,Ex.wt,Ex.size,List.length_cons,List.length_nil,List.length_append,List.getElem?_cons_zero,Option.elim_some]
  omega
 | var x=>simp[altsE]at h
 | con c=>simp[altsE]at h
 | lam x e=>simp[altsE]at h
 | app a b=>simp[altsE]at h
 | lt x t a b=>simp[altsE]at h
 | ann e t=>simp[altsE]at h
end Sx
end Go.Proofs.YtmbmjneibkihkaaGreatDoor
