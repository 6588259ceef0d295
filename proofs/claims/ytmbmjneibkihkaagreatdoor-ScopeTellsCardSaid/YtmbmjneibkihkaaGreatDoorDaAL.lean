/-
  Contracts of the code's functions, part 38.
-/
import Derived.Test.YtmbmjneibkihkaaGreatDoorDaAK
import Derived.Test.YtmbmjneibkihkaaGreatDoorDaU
import Derived.Test.YtmbmjneibkihkaaGreatDoorDaL
import Derived.Test.YtmbmjneibkihkaaGreatDoorDaAJ
import Derived.Test.YtmbmjneibkihkaaGreatDoorDaF
import Derived.Lib.SliceRun
import Derived.Deep.RegionHeld3
namespace Go.Proofs.YtmbmjneibkihkaaGreatDoor
open Go.RowKit Lx Tx Go.Maps Go.WideMaps Go.Shelf
set_option maxRecDepth 100000
end Go.Proofs.YtmbmjneibkihkaaGreatDoor

namespace Go.Proofs.YtmbmjneibkihkaaGreatDoor
open Go.RowKit Lx Tx Go.Maps Go.WideMaps Go.Shelf
set_option maxRecDepth 100000
section
variable {σ:Type}
mutual
def chg(bind:Name->σ->Name × σ)(leaf:Ty->Ty)(env:List (Name × Name)):Ty->σ->Ty × σ
 | .var x,s=>(((look x env).map Ty.var).getD (leaf (.var x)),s)
 | .mt n,s=>(leaf (.mt n),s)
 | .con c l,s=>(.con c (chgL bind leaf env l s).1,(chgL bind leaf env l s).2)
 | .fn a b,s=>(.fn (chg bind leaf env a s).1 (chg bind leaf env b (chg bind leaf env a s).2).1,(chg bind leaf env b (chg bind leaf env a s).2).2)
 | .all x t,s=>(.all (bind x s).1 (chg bind leaf ((x,(bind x s).1)::env) t (bind x s).2).1,(chg bind leaf ((x,(bind x s).1)::env) t (bind x s).2).2)
def chgL(bind:Name->σ->Name × σ)(leaf:Ty->Ty)(env:List (Name × Name)):List Ty->σ->List Ty × σ
 | [],s=>([],s)
 | t::r,s=>((chg bind leaf env t s).1::(chgL bind leaf env r (chg bind leaf env t s).2).1,(chgL bind leaf env r (chg bind leaf env t s).2).2)
end
end
end Go.Proofs.YtmbmjneibkihkaaGreatDoor

namespace Go.Proofs.YtmbmjneibkihkaaGreatDoor
open Go.RowKit Lx Tx Go.Maps Go.WideMaps Go.Shelf
set_option maxRecDepth 100000
end Go.Proofs.YtmbmjneibkihkaaGreatDoor

namespace Go.Proofs.YtmbmjneibkihkaaGreatDoor
open Go.RowKit Lx Tx Go.Maps Go.WideMaps Go.Shelf
set_option maxRecDepth 100000
theorem addr_ne {g o o':Nat}(h:o≠o'):(⟨g,o,none⟩:Addr)≠⟨g,o',none⟩:=λe=>h (by injection e)
theorem other(w:World)(g o o':Nat)(u:Value)(h:o≠o'):(w.setCell ⟨g,o,none⟩ u).cell? ⟨g,o',none⟩=w.cell? ⟨g,o',none⟩:=World.cell?_setCell_other _ _ _ _ (addr_ne h)
theorem same(w:World)(a:Addr)(v u:Value)(h:w.cell? a=some u):(w.setCell a v).cell? a=some v:=World.cell?_setCell_same _ _ _ h
end Go.Proofs.YtmbmjneibkihkaaGreatDoor

namespace Go.Proofs.YtmbmjneibkihkaaGreatDoor
open Go.RowKit Lx Tx Go.Maps Go.WideMaps Go.Shelf
set_option maxRecDepth 100000
section
variable {σ:Type}
end
end Go.Proofs.YtmbmjneibkihkaaGreatDoor

namespace Go.Proofs.YtmbmjneibkihkaaGreatDoor
open Go.RowKit Lx Tx Go.Maps Go.WideMaps Go.Shelf
set_option maxRecDepth 100000
end Go.Proofs.YtmbmjneibkihkaaGreatDoor

namespace Go.Proofs.YtmbmjneibkihkaaGreatDoor
open Go.RowKit Lx Tx Go.Maps Go.WideMaps Go.Shelf
set_option maxRecDepth 100000
end Go.Proofs.YtmbmjneibkihkaaGreatDoor

namespace Go.Proofs.YtmbmjneibkihkaaGreatDoor
open Go.RowKit Lx Tx Go.Maps Go.WideMaps Go.Shelf
set_option maxRecDepth 100000
section
variable {σ:Type}
end
section
variable {σ:Type}
end
section
variable {σ:Type}
end
end Go.Proofs.YtmbmjneibkihkaaGreatDoor

namespace Go.Proofs.YtmbmjneibkihkaaGreatDoor
namespace Sx
open Lx Tx
theorem gd_len {k:Nat} {x:Nm}(h:Gd k x)(hk:k<=2):x.length<=24:=by
 obtain⟨h1,h2,h3⟩:=h
 cases x with
 | nil=>exact absurd rfl h1
 | cons c r =>
  rw[first]at h2
  split at h2
  ·unfold word at h2
   split at h2
   ·injection h2 with a _;omega
   ·injection h2 with _ b;omega
  ·split at h2
   ·exfalso
    rcases number_cases (c::r) with e|⟨e,_,_⟩ <;> rw[e]at h2 <;> injection h2 with a _ <;> omega
   ·split at h2
    ·exfalso
     unfold meta_ at h2
     split at h2 <;> injection h2 with a _ <;> omega
    ·exfalso
     unfold sign at h2
     split at h2
     ·injection h2 with a _;omega
     ·split at h2 <;> injection h2 with a _ <;> omega
mutual
theorem Ex.wt_pos:∀e:Ex,0<e.wt
 | .var _=>by unfold Ex.wt;omega
 | .con _=>by unfold Ex.wt;omega
 | .lam _ e=>by unfold Ex.wt;omega
 | .app a b=>by unfold Ex.wt;have:=a.wt_pos;omega
 | .lt _ t a b=>by unfold Ex.wt;omega
 | .cs e l=>by unfold Ex.wt;omega
 | .ann e t=>by unfold Ex.wt;omega
end
mutual
theorem size_wt:∀e:Ex,e.size+1<=2*e.wt
 | .var _=>by unfold Ex.size Ex.wt;omega
 | .con _=>by unfold Ex.size Ex.wt;omega
 | .lam _ e=>by have:=size_wt e;unfold Ex.size Ex.wt;omega
 | .app a b=>by have:=size_wt a;have:=size_wt b;unfold Ex.size Ex.wt;omega
 | .lt _ t a b=>by have:=size_wt a;have:=size_wt b;unfold Ex.size Ex.wt;omega
 | .cs e l=>by have:=size_wt e;have:=size_wtA l;unfold Ex.size Ex.wt;omega
 | .ann e t=>by have:=size_wt e;unfold Ex.size Ex.wt;omega
theorem size_wt1:∀a:Al,a.size<=2*a.wt
 | .mk _ _ b=>by have:=size_wt b;unfold Al.size Al.wt;omega
theorem size_wtA:∀l:List Al,sizeA l<=2*wtA l
 | []=>by unfold sizeA wtA;omega
 | a::r=>by have:=size_wt1 a;have:=size_wtA r;unfold sizeA wtA;omega
end
def De.Ok:De->Prop
 | .data n ps cs=>Gd 2 n/\(∀x∈ps,Gd 1 x)/\∀c∈cs,Gd 2 c.1/\Tx.Nm c.2
 | .sig x t=>Gd 1 x/\Tx.Nm t
 | .bind x e=>Gd 1 x/\e.Ok
def conW(c:Nm × Ty):Nat:=c.2.size+1
def consW:List (Nm × Ty)->Nat
 | []=>0
 | c::r=>conW c+consW r
def De.wt:De->Nat
 | .data _ ps cs=>ps.length+consW cs+1
 | .sig _ t=>t.size+1
 | .bind _ e=>e.wt+1
def desW:List De->Nat
 | []=>0
 | d::r=>d.wt+desW r
theorem rdCon_facts {l r:List Tok} {c:Nm × Ty}(hg:AllG l)(h:rdCon l=some (c,r)):(Gd 2 c.1/\Tx.Nm c.2)/\AllG r/\conW c+r.length<=l.length:=by
 unfold rdCon at h
 cases h1:tok1 2 l with
 | none=>rw[h1]at h;cases h
 | some y =>
  obtain⟨x,r1⟩:=y
  rw[h1]at h
  obtain⟨x1,g1,l1⟩:=tok1_facts (by omega) hg h1
  simp only at h
  cases h2:eat pCol r1 with
  | none=>rw[h2]at h;cases h
  | some r2 =>
   rw[h2]at h
   obtain⟨g2,l2⟩:=eat_facts g1 h2
   simp only at h
   cases h3:typ r2 with
   | none=>rw[h3]at h;cases h
   | some y =>
    obtain⟨t,r3⟩:=y
    rw[h3]at h
    simp only[Option.map_some,Option.some.injEq,Prod.mk.injEq]at h
    obtain⟨rfl,rfl⟩:=h
    obtain⟨t3,g3,l3⟩:=typ_facts g2 h3
    exact⟨⟨x1,t3⟩,g3,by simp only[conW];omega⟩
theorem sepF_facts {α:Type} {p:List Tok->Option (α × List Tok)} {P:α->Prop} {W:α->Nat} {Ws:List α->Nat}(h0:Ws []=0)(h1:∀a r,Ws (a::r)=W a+Ws r)
  (hp:∀l a r,AllG l->p l=some (a,r)->P a/\AllG r/\W a+r.length<=l.length)(f:Nat):∀l als r,AllG l->sepF p f l=some (als,r)->(∀a∈als,P a)/\AllG r/\Ws als+r.length<=l.length/\als≠[]:=by
 induction f with
 | zero=>intro l als r _ h;simp[sepF]at h
 | succ f ih =>
  intro l als r hg h
  rw[sepF]at h
  cases h2:p l with
  | none=>rw[h2]at h;cases h
  | some y =>
   obtain⟨a,r1⟩:=y
   rw[h2]at h
   obtain⟨a1,g1,l1⟩:=hp _ _ _ hg h2
   simp only at h
   cases h3:eat pSem r1 with
   | none =>
    rw[h3]at h
    simp only[Option.some.injEq,Prod.mk.injEq]at h
    obtain⟨rfl,rfl⟩:=h
    exact⟨λb hb=>by simp at hb;subst hb;exact a1,g1,by rw[h1,h0];omega,by simp⟩
   | some r2 =>
    rw[h3]at h
    obtain⟨g2,l2⟩:=eat_facts g1 h3
    simp only at h
    cases h4:sepF p f r2 with
    | none=>rw[h4]at h;cases h
    | some y =>
     obtain⟨bs,r3⟩:=y
     rw[h4]at h
     simp only[Option.map_some,Option.some.injEq,Prod.mk.injEq]at h
     obtain⟨rfl,rfl⟩:=h
     obtain⟨b1,g3,l3,_⟩:=ih _ _ _ g2 h4
     refine⟨λb hb=>?_,g3,by rw[h1];omega,by simp⟩
     rcases List.mem_cons.1 hb with rfl|hb
     ·exact a1
     ·exact b1 b hb
theorem rdDecl_facts {l r:List Tok} {d:De}(hg:AllG l)(h:rdDecl l=some (d,r)):d.Ok/\AllG r/\d.wt+r.length<=l.length:=by
 unfold rdDecl at h
 cases h1:eat (isKey · wData) l with
 | some r1 =>
  rw[h1]at h
  obtain⟨g1,l1⟩:=eat_facts hg h1
  simp only at h
  unfold rdData at h
  cases h2:tok1 2 r1 with
  | none=>rw[h2]at h;cases h
  | some y =>
   obtain⟨n,r2⟩:=y
   rw[h2]at h
   obtain⟨n1,g2,l2⟩:=tok1_facts (by omega) g1 h2
   obtain⟨v1,v2,v3⟩:=vars_spec r2 g2
   simp only at h
   cases h3:eat pOpn (vars r2).2 with
   | none=>rw[h3]at h;cases h
   | some r3 =>
    rw[h3]at h
    obtain⟨g3,l3⟩:=eat_facts v2 h3
    simp only at h
    cases h4:eat pCls r3 with
    | some r4 =>
     rw[h4]at h
     obtain⟨g4,l4⟩:=eat_facts g3 h4
     simp only[Option.some.injEq,Prod.mk.injEq]at h
     obtain⟨rfl,rfl⟩:=h
     exact⟨⟨n1,v1,λc hc=>by simp at hc⟩,g4,by simp only[De.wt,consW];omega⟩
    | none =>
     rw[h4]at h
     simp only at h
     cases h5:sep rdCon r3 with
     | none=>rw[h5]at h;cases h
     | some y =>
      obtain⟨cs,r5⟩:=y
      rw[h5]at h
      obtain⟨c1,g5,l5,_⟩:=sepF_facts (P:=λc=>Gd 2 c.1/\Tx.Nm c.2) (W:=conW) (Ws:=consW) rfl (λ_ _=>rfl) (λ_ _ _ hg h=>rdCon_facts hg h) _ _ _ _ g3 h5
      simp only at h
      cases h6:eat pCls r5 with
      | none=>rw[h6]at h;cases h
      | some r6 =>
       rw[h6]at h
       obtain⟨g6,l6⟩:=eat_facts g5 h6
       simp only[Option.map_some,Option.some.injEq,Prod.mk.injEq]at h
       obtain⟨rfl,rfl⟩:=h
       exact⟨⟨n1,v1,c1⟩,g6,by simp only[De.wt];omega⟩
 | none =>
  rw[h1]at h
  simp only at h
  cases h2:tok1 1 l with
  | none=>rw[h2]at h;cases h
  | some y =>
   obtain⟨x,r1⟩:=y
   rw[h2]at h
   obtain⟨x1,g1,l1⟩:=tok1_facts (by omega) hg h2
   simp only at h
   cases h3:eat pCol r1 with
   | some r2 =>
    rw[h3]at h
    obtain⟨g2,l2⟩:=eat_facts g1 h3
    simp only at h
    cases h4:typ r2 with
    | none=>rw[h4]at h;cases h
    | some y =>
     obtain⟨t,r3⟩:=y
     rw[h4]at h
     simp only[Option.map_some,Option.some.injEq,Prod.mk.injEq]at h
     obtain⟨rfl,rfl⟩:=h
     obtain⟨t3,g3,l3⟩:=typ_facts g2 h4
     exact⟨⟨x1,t3⟩,g3,by simp only[De.wt];omega⟩
   | none =>
    rw[h3]at h
    simp only at h
    cases h4:eat pEq r1 with
    | none=>rw[h4]at h;cases h
    | some r2 =>
     rw[h4]at h
     obtain⟨g2,l2⟩:=eat_facts g1 h4
     simp only at h
     cases h5:rdE (enoughE r2) r2 with
     | none=>rw[h5]at h;cases h
     | some y =>
      obtain⟨e,r3⟩:=y
      rw[h5]at h
      simp only[Option.map_some,Option.some.injEq,Prod.mk.injEq]at h
      obtain⟨rfl,rfl⟩:=h
      obtain⟨e3,g3,l3⟩:=(rd_facts _).1 _ _ _ g2 h5
      exact⟨⟨x1,e3⟩,g3,by simp only[De.wt];omega⟩
theorem rdProg_facts {l r:List Tok} {p:List De}(hg:AllG l)(h:rdProg l=some (p,r)):(∀d∈p,d.Ok)/\AllG r/\desW p+r.length<=l.length:=by
 unfold rdProg at h
 split at h
 ·rename_i hl
  subst hl
  injection h with h
  injection h with h1 h2
  subst h1 h2
  exact⟨λd hd=>by simp at hd,hg,by simp[desW]⟩
 ·obtain⟨a,b,c,_⟩:=sepF_facts (P:=De.Ok) (W:=De.wt) (Ws:=desW) rfl (λ_ _=>rfl) (λ_ _ _ hg h=>rdDecl_facts hg h) _ _ _ _ hg h
  exact⟨a,b,c⟩
end Sx
end Go.Proofs.YtmbmjneibkihkaaGreatDoor
