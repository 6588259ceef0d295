/-
  Contracts of the code's functions, part 33.
-/
import Derived.Test.YtknkclefoiohpaaGreatDoorKbAE
import Derived.Test.YtknkclefoiohpaaGreatDoorKbR
import Derived.Test.YtknkclefoiohpaaGreatDoorKbJ
import Derived.Test.YtknkclefoiohpaaGreatDoorKbAD
import Derived.Test.YtknkclefoiohpaaGreatDoorKbD
import Derived.Lib.SliceRun
import Derived.Deep.RegionHeld3
namespace Go.Proofs.YtknkclefoiohpaaGreatDoor
open Go.RowKit Lx Tx Go.Maps Go.WideMaps Go.Shelf
set_option maxRecDepth 100000
end Go.Proofs.YtknkclefoiohpaaGreatDoor

namespace Go.Proofs.YtknkclefoiohpaaGreatDoor
open Go.RowKit Lx Tx Go.Maps Go.WideMaps Go.Shelf
set_option maxRecDepth 100000
section
variable {σ:Type}
mutual
def chg(bind:Name->σ->Name × σ)(leaf:Ty->Ty)(env:List (Name × Name)):Ty->σ->Ty × σ
 | .var x,s=>(((look x env).map Ty.var).getD (leaf (.var x)),s)
 | .mt n,s=>(leaf (.mt n),s)
 | .con c l,s=>(.con c (chgL bind leaf env l s).1,(chgL bind leaf env l s).2)
 | .fn a b,s=>(.fn (chg bind leaf env a s).1 (chg bind leaf env b (chg bind leaf env a s).2).1,(chg bind leaf env b (chg bind leaf env a s).2).2)
 | .all x t,s=>(.all (bind x s).1 (chg bind leaf ((x,(bind x s).1)::env) t (bind x s).2).1,(chg bind leaf ((x,(bind x s).1)::env) t (bind x s).2).2)
def chgL(bind:Name->σ->Name × σ)(leaf:Ty->Ty)(env:List (Name × Name)):List Ty->σ->List Ty × σ
 | [],s=>([],s)
 | t::r,s=>((chg bind leaf env t s).1::(chgL bind leaf env r (chg bind leaf env t s).2).1,(chgL bind leaf env r (chg bind leaf env t s).2).2)
end
end
end Go.Proofs.YtknkclefoiohpaaGreatDoor

namespace Go.Proofs.YtknkclefoiohpaaGreatDoor
open Go.RowKit Lx Tx Go.Maps Go.WideMaps Go.Shelf
set_option maxRecDepth 100000
end Go.Proofs.YtknkclefoiohpaaGreatDoor

namespace Go.Proofs.YtknkclefoiohpaaGreatDoor
open Go.RowKit Lx Tx Go.Maps Go.WideMaps Go.Shelf
set_option maxRecDepth 100000
theorem addr_ne {g o o':Nat}(h:o≠o'):(⟨g,o,none⟩:Addr)≠⟨g,o',none⟩:=λe=>h (by injection e)
theorem other(w:World)(g o o':Nat)(u:Value)(h:o≠o'):(w.setCell ⟨g,o,none⟩ u).cell? ⟨g,o',none⟩=w.cell? ⟨g,o',none⟩:=World.cell?_setCell_other _ _ _ _ (addr_ne h)
theorem same(w:World)(a:Addr)(v u:Value)(h:w.cell? a=some u):(w.setCell a v).cell? a=some v:=World.cell?_setCell_same _ _ _ h
end Go.Proofs.YtknkclefoiohpaaGreatDoor

namespace Go.Proofs.YtknkclefoiohpaaGreatDoor
open Go.RowKit Lx Tx Go.Maps Go.WideMaps Go.Shelf
set_option maxRecDepth 100000
section
variable {σ:Type}
end
end Go.Proofs.YtknkclefoiohpaaGreatDoor

namespace Go.Proofs.YtknkclefoiohpaaGreatDoor
open Go.RowKit Lx Tx Go.Maps Go.WideMaps Go.Shelf
set_option maxRecDepth 100000
end Go.Proofs.YtknkclefoiohpaaGreatDoor

namespace Go.Proofs.YtknkclefoiohpaaGreatDoor
open Go.RowKit Lx Tx Go.Maps Go.WideMaps Go.Shelf
set_option maxRecDepth 100000
end Go.Proofs.YtknkclefoiohpaaGreatDoor

namespace Go.Proofs.YtknkclefoiohpaaGreatDoor
open Go.RowKit Lx Tx Go.Maps Go.WideMaps Go.Shelf
set_option maxRecDepth 100000
section
variable {σ:Type}
end
section
variable {σ:Type}
end
section
variable {σ:Type}
end
theorem decF_len20(f n:Nat):(decF f n).length<=f:=by
 induction f generalizing n with
 | zero=>simp[decF]
 | succ f ih =>
  rw[decF]
  split
  ·simp
  ·have:=ih (n / 10)
   simp
   exact this
mutual
theorem print_len:(t:Ty)->Nm t->t.print.length+6<=40*t.size/\(printA t).length<=40*t.size+3
 | .var x,h=>by
  have h1:x.length<=24:=nm_len h
  rw[printA_other _ (λy u e=>by cases e),Ty.print,Ty.size]
  simp
  omega
 | .mt n,h=>by
  have h1:(dec n).length<=20:=decF_len20 20 n
  rw[printA_other _ (λy u e=>by cases e),Ty.print,Ty.size]
  simp
  omega
 | .con c l,h=>by
  have h1:c.length<=24:=nm_len h
  have h2:=printL_len l (by cases h;assumption)
  rw[printA_other _ (λy u e=>by cases e),Ty.print,Ty.size]
  simp
  omega
 | .fn a b,h=>by
  have hk:Nm a/\Nm b:=by cases h;exact⟨by assumption,by assumption⟩
  have h1:=(print_len a hk.1).1
  have h2:=(print_len b hk.2).1
  rw[printA_other _ (λy u e=>by cases e),Ty.print,Ty.size]
  cases a.isFA <;> simp <;> omega
 | .all x t,h=>by
  have h1:x.length<=24:=nm_len h
  have h2:=(print_len t (by cases h;assumption)).2
  rw[printA_all,Ty.print,Ty.size]
  have hw:wForall.length=6:=rfl
  simp only[List.length_append,List.length_cons,hw]
  omega
theorem printL_len:(l:List Ty)->(∀t∈l,Nm t)->(printL l).length<=40*sizeL l
 | [],_=>by rw[printL];simp
 | t::r,h=>by
  have h1:=(print_len t (h t List.mem_cons_self)).1
  have h2:=printL_len r (λu hu=>h u (List.mem_cons_of_mem _ hu))
  rw[printL,sizeL]
  cases t.big <;> simp <;> omega
end
end Go.Proofs.YtknkclefoiohpaaGreatDoor

namespace Go.Proofs.YtknkclefoiohpaaGreatDoor
namespace Sx
open Lx Tx
theorem gd_len {k:Nat} {x:Nm}(h:Gd k x)(hk:k<=2):x.length<=24:=by
 obtain⟨h1,h2,h3⟩:=h
 cases x with
 | nil=>exact absurd rfl h1
 | cons c r =>
  rw[first]at h2
  split at h2
  ·unfold word at h2
   split at h2
   ·injection h2 with a _;omega
   ·injection h2 with _ b;omega
  ·split at h2
   ·exfalso
    rcases number_cases (c::r) with e|⟨e,_,_⟩ <;> rw[e]at h2 <;> injection h2 with a _ <;> omega
   ·split at h2
    ·exfalso
     unfold meta_ at h2
     split at h2 <;> injection h2 with a _ <;> omega
    ·exfalso
     unfold sign at h2
     split at h2
     ·injection h2 with a _;omega
     ·split at h2 <;> injection h2 with a _ <;> omega
theorem spaced_len {vs:List Nm}(h:∀x∈vs,Gd 1 x):(spaced vs).length<=25*vs.length:=by
 induction vs with
 | nil=>simp[spaced]
 | cons x r ih =>
  have h1:=gd_len (h x List.mem_cons_self) (by omega)
  have h2:=ih λy hy=>h y (List.mem_cons_of_mem _ hy)
  unfold spaced at h2 ⊢
  simp only[List.flatMap_cons,List.length_append,List.length_cons]
  omega
theorem par_len(b:Bool)(s:Nm):(par b s).length<=s.length+2:=by
 unfold par
 split <;> simp
mutual
theorem Ex.wt_pos:∀e:Ex,0<e.wt
 | .var _=>by unfold Ex.wt;omega
 | .con _=>by unfold Ex.wt;omega
 | .lam _ e=>by unfold Ex.wt;omega
 | .app a b=>by unfold Ex.wt;have:=a.wt_pos;omega
 | .lt _ t a b=>by unfold Ex.wt;omega
 | .cs e l=>by unfold Ex.wt;omega
 | .ann e t=>by unfold Ex.wt;omega
end
mutual
theorem printE_len:∀e:Ex,e.Ok->e.print.length+10<=100*e.wt
 | .var x,h=>by
  have:=gd_len h (by omega)
  unfold Ex.print Ex.wt;omega
 | .con c,h=>by
  have:=gd_len h (by omega)
  unfold Ex.print Ex.wt;omega
 | .lam x e,h=>by
  have h1:=gd_len h.1 (by omega)
  have h2:=printE_len e h.2
  unfold Ex.print Ex.wt
  simp only[List.length_append,List.length_cons,sArr,List.length_nil]
  omega
 | .app a b,h=>by
  have h1:=printE_len a h.1
  have h2:=printE_len b h.2
  have h3:=par_len a.wide a.print
  have h4:=par_len (b.wide||b.isApp) b.print
  unfold Ex.print Ex.wt
  simp only[List.length_append,List.length_cons,List.length_nil]
  omega
 | .lt x t a b,h=>by
  obtain⟨hx,ht,ha,hb⟩:=h
  have h1:=gd_len hx (by omega)
  have h2:=printE_len a ha
  have h3:=printE_len b hb
  have h4:(toldS t).length<=40*toldW t+3:=by
   cases t with
   | none=>simp[toldS,toldW]
   | some u =>
    have:=(print_len u (ht u rfl)).1
    simp only[toldS,toldW,sCol,List.length_append,List.length_cons,List.length_nil]
    omega
  unfold Ex.print Ex.wt
  simp only[List.length_append,List.length_cons,List.length_nil,wLet,wIn,sEq]
  omega
 | .cs e l,h=>by
  have h1:=printE_len e h.1
  have h2:=printA_len l h.2
  unfold Ex.print Ex.wt
  simp only[List.length_append,List.length_cons,List.length_nil,wCase,wOf]
  omega
 | .ann e t,h=>by
  have h1:=printE_len e h.1
  have h2:=(print_len t h.2).1
  unfold Ex.print Ex.wt
  simp only[List.length_append,List.length_cons,List.length_nil,sCol]
  omega
theorem print1_len:∀a:Al,a.Ok->a.print.length+2<=100*a.wt
 | .mk c vs b,h=>by
  have h1:=gd_len h.1 (by omega)
  have h2:=spaced_len h.2.1
  have h3:=printE_len b h.2.2
  unfold Al.print Al.wt
  simp only[List.length_append,List.length_cons,List.length_nil,sArr]
  omega
theorem printA_len:∀l:List Al,okA l->(printAs l).length<=100*wtA l
 | [],_=>by unfold printAs wtA;simp
 | a::r,h=>by
  have h1:=print1_len a h.1
  have h2:=printR_len r h.2
  unfold printAs wtA
  simp only[List.length_append]
  omega
theorem printR_len:∀l:List Al,okA l->(printAr l).length<=100*wtA l
 | [],_=>by unfold printAr wtA;simp
 | a::r,h=>by
  have h1:=print1_len a h.1
  have h2:=printR_len r h.2
  unfold printAr wtA
  simp only[List.length_append,sSem,List.length_cons,List.length_nil]
  omega
end
mutual
theorem size_wt:∀e:Ex,e.size+1<=2*e.wt
 | .var _=>by unfold Ex.size Ex.wt;omega
 | .con _=>by unfold Ex.size Ex.wt;omega
 | .lam _ e=>by have:=size_wt e;unfold Ex.size Ex.wt;omega
 | .app a b=>by have:=size_wt a;have:=size_wt b;unfold Ex.size Ex.wt;omega
 | .lt _ t a b=>by have:=size_wt a;have:=size_wt b;unfold Ex.size Ex.wt;omega
 | .cs e l=>by have:=size_wt e;have:=size_wtA l;unfold Ex.size Ex.wt;omega
 | .ann e t=>by have:=size_wt e;unfold Ex.size Ex.wt;omega
theorem size_wt1:∀a:Al,a.size<=2*a.wt
 | .mk _ _ b=>by have:=size_wt b;unfold Al.size Al.wt;omega
theorem size_wtA:∀l:List Al,sizeA l<=2*wtA l
 | []=>by unfold sizeA wtA;omega
 | a::r=>by have:=size_wt1 a;have:=size_wtA r;unfold sizeA wtA;omega
end
theorem gd_ne {k:Nat} {x:Nm}(h:Gd k x):x≠[]:=h.1
def De.Ok:De->Prop
 | .data n ps cs=>Gd 2 n/\(∀x∈ps,Gd 1 x)/\∀c∈cs,Gd 2 c.1/\Tx.Nm c.2
 | .sig x t=>Gd 1 x/\Tx.Nm t
 | .bind x e=>Gd 1 x/\e.Ok
def conW(c:Nm × Ty):Nat:=c.2.size+1
def consW:List (Nm × Ty)->Nat
 | []=>0
 | c::r=>conW c+consW r
def De.wt:De->Nat
 | .data _ ps cs=>ps.length+consW cs+1
 | .sig _ t=>t.size+1
 | .bind _ e=>e.wt+1
def desW:List De->Nat
 | []=>0
 | d::r=>d.wt+desW r
theorem rdCon_facts {l r:List Tok} {c:Nm × Ty}(hg:AllG l)(h:rdCon l=some (c,r)):(Gd 2 c.1/\Tx.Nm c.2)/\AllG r/\conW c+r.length<=l.length:=by
 unfold rdCon at h
 cases h1:tok1 2 l with
 | none=>rw[h1]at h;cases h
 | some y =>
  obtain⟨x,r1⟩:=y
  rw[h1]at h
  obtain⟨x1,g1,l1⟩:=tok1_facts (by omega) hg h1
  simp only at h
  cases h2:eat pCol r1 with
  | none=>rw[h2]at h;cases h
  | some r2 =>
   rw[h2]at h
   obtain⟨g2,l2⟩:=eat_facts g1 h2
   simp only at h
   cases h3:typ r2 with
   | none=>rw[h3]at h;cases h
   | some y =>
    obtain⟨t,r3⟩:=y
    rw[h3]at h
    simp only[Option.map_some,Option.some.injEq,Prod.mk.injEq]at h
    obtain⟨rfl,rfl⟩:=h
    obtain⟨t3,g3,l3⟩:=typ_facts g2 h3
    exact⟨⟨x1,t3⟩,g3,by simp only[conW];omega⟩
theorem sepF_facts {α:Type} {p:List Tok->Option (α × List Tok)} {P:α->Prop} {W:α->Nat} {Ws:List α->Nat}(h0:Ws []=0)(h1:∀a r,Ws (a::r)=W a+Ws r)
  (hp:∀l a r,AllG l->p l=some (a,r)->P a/\AllG r/\W a+r.length<=l.length)(f:Nat):∀l als r,AllG l->sepF p f l=some (als,r)->(∀a∈als,P a)/\AllG r/\Ws als+r.length<=l.length/\als≠[]:=by
 induction f with
 | zero=>intro l als r _ h;simp[sepF]at h
 | succ f ih =>
  intro l als r hg h
  rw[sepF]at h
  cases h2:p l with
  | none=>rw[h2]at h;cases h
  | some y =>
   obtain⟨a,r1⟩:=y
   rw[h2]at h
   obtain⟨a1,g1,l1⟩:=hp _ _ _ hg h2
   simp only at h
   cases h3:eat pSem r1 with
   | none =>
    rw[h3]at h
    simp only[Option.some.injEq,Prod.mk.injEq]at h
    obtain⟨rfl,rfl⟩:=h
    exact⟨λb hb=>by simp at hb;subst hb;exact a1,g1,by rw[h1,h0];omega,by simp⟩
   | some r2 =>
    rw[h3]at h
    obtain⟨g2,l2⟩:=eat_facts g1 h3
    simp only at h
    cases h4:sepF p f r2 with
    | none=>rw[h4]at h;cases h
    | some y =>
     obtain⟨bs,r3⟩:=y
     rw[h4]at h
     simp only[Option.map_some,Option.some.injEq,Prod.mk.injEq]at h
     obtain⟨rfl,rfl⟩:=h
     obtain⟨b1,g3,l3,_⟩:=ih _ _ _ g2 h4
     refine⟨λb hb=>?_,g3,by rw[h1];omega,by simp⟩
     rcases List.mem_cons.1 hb with rfl|hb
     ·exact a1
     ·exact b1 b hb
theorem rdDecl_facts {l r:List Tok} {d:De}(hg:AllG l)(h:rdDecl l=some (d,r)):d.Ok/\AllG r/\d.wt+r.length<=l.length:=by
 unfold rdDecl at h
 cases h1:eat (isKey · wData) l with
 | some r1 =>
  rw[h1]at h
  obtain⟨g1,l1⟩:=eat_facts hg h1
  simp only at h
  unfold rdData at h
  cases h2:tok1 2 r1 with
  | none=>rw[h2]at h;cases h
  | some y =>
   obtain⟨n,r2⟩:=y
   rw[h2]at h
   obtain⟨n1,g2,l2⟩:=tok1_facts (by omega) g1 h2
   obtain⟨v1,v2,v3⟩:=vars_spec r2 g2
   simp only at h
   cases h3:eat pOpn (vars r2).2 with
   | none=>rw[h3]at h;cases h
   | some r3 =>
    rw[h3]at h
    obtain⟨g3,l3⟩:=eat_facts v2 h3
    simp only at h
    cases h4:eat pCls r3 with
    | some r4 =>
     rw[h4]at h
     obtain⟨g4,l4⟩:=eat_facts g3 h4
     simp only[Option.some.injEq,Prod.mk.injEq]at h
     obtain⟨rfl,rfl⟩:=h
     exact⟨⟨n1,v1,λc hc=>by simp at hc⟩,g4,by simp only[De.wt,consW];omega⟩
    | none =>
     rw[h4]at h
     simp only at h
     cases h5:sep rdCon r3 with
     | none=>rw[h5]at h;cases h
     | some y =>
      obtain⟨cs,r5⟩:=y
      rw[h5]at h
      obtain⟨c1,g5,l5,_⟩:=sepF_facts (P:=λc=>Gd 2 c.1/\Tx.Nm c.2) (W:=conW) (Ws:=consW) rfl (λ_ _=>rfl) (λ_ _ _ hg h=>rdCon_facts hg h) _ _ _ _ g3 h5
      simp only at h
      cases h6:eat pCls r5 with
      | none=>rw[h6]at h;cases h
      | some r6 =>
       rw[h6]at h
       obtain⟨g6,l6⟩:=eat_facts g5 h6
       simp only[Option.map_some,Option.some.injEq,Prod.mk.injEq]at h
       obtain⟨rfl,rfl⟩:=h
       exact⟨⟨n1,v1,c1⟩,g6,by simp only[De.wt];omega⟩
 | none =>
  rw[h1]at h
  simp only at h
  cases h2:tok1 1 l with
  | none=>rw[h2]at h;cases h
  | some y =>
   obtain⟨x,r1⟩:=y
   rw[h2]at h
   obtain⟨x1,g1,l1⟩:=tok1_facts (by omega) hg h2
   simp only at h
   cases h3:eat pCol r1 with
   | some r2 =>
    rw[h3]at h
    obtain⟨g2,l2⟩:=eat_facts g1 h3
    simp only at h
    cases h4:typ r2 with
    | none=>rw[h4]at h;cases h
    | some y =>
     obtain⟨t,r3⟩:=y
     rw[h4]at h
     simp only[Option.map_some,Option.some.injEq,Prod.mk.injEq]at h
     obtain⟨rfl,rfl⟩:=h
     obtain⟨t3,g3,l3⟩:=typ_facts g2 h4
     exact⟨⟨x1,t3⟩,g3,by simp only[De.wt];omega⟩
   | none =>
    rw[h3]at h
    simp only at h
    cases h4:eat pEq r1 with
    | none=>rw[h4]at h;cases h
    | some r2 =>
     rw[h4]at h
     obtain⟨g2,l2⟩:=eat_facts g1 h4
     simp only at h
     cases h5:rdE (enoughE r2) r2 with
     | none=>rw[h5]at h;cases h
     | some y =>
      obtain⟨e,r3⟩:=y
      rw[h5]at h
      simp only[Option.map_some,Option.some.injEq,Prod.mk.injEq]at h
      obtain⟨rfl,rfl⟩:=h
      obtain⟨e3,g3,l3⟩:=(rd_facts _).1 _ _ _ g2 h5
      exact⟨⟨x1,e3⟩,g3,by simp only[De.wt];omega⟩
theorem rdProg_facts {l r:List Tok} {p:List De}(hg:AllG l)(h:rdProg l=some (p,r)):(∀d∈p,d.Ok)/\AllG r/\desW p+r.length<=l.length:=by
 unfold rdProg at h
 split at h
 ·rename_i hl
  subst hl
  injection h with h
  injection h with h1 h2
  subst h1 h2
  exact⟨λd hd=>by simp at hd,hg,by simp[desW]⟩
 ·obtain⟨a,b,c,_⟩:=sepF_facts (P:=De.Ok) (W:=De.wt) (Ws:=desW) rfl (λ_ _=>rfl) (λ_ _ _ hg h=>rdDecl_facts hg h) _ _ _ _ hg h
  exact⟨a,b,c⟩
end Sx
end Go.Proofs.YtknkclefoiohpaaGreatDoor
