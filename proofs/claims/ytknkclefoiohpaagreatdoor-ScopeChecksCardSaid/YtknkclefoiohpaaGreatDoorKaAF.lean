import Derived.Test.YtknkclefoiohpaaGreatDoorKaAE
import Derived.Lib.SliceRun
set_option maxHeartbeats 12800000
namespace Go.Proofs.YtknkclefoiohpaaGreatDoor
open Go.RowKit Lx Tx Go.Maps Go.WideMaps Go.Shelf
set_option maxRecDepth 100000
section
variable {σ:Type}
mutual
def chg(bind:Name->σ->Name × σ)(leaf:Ty->Ty)(env:List (Name × Name)):Ty->σ->Ty × σ
 |.var x,s=>(((look x env).map Ty.var).getD (leaf (.var x)),s)
 |.mt n,s=>(leaf (.mt n),s)
 |.con c l,s=>(.con c (chgL bind leaf env l s).1,(chgL bind leaf env l s).2)
 |.fn a b,s=>(.fn (chg bind leaf env a s).1 (chg bind leaf env b (chg bind leaf env a s).2).1,(chg bind leaf env b (chg bind leaf env a s).2).2)
 |.all x t,s=>(.all (bind x s).1 (chg bind leaf ((x,(bind x s).1)::env) t (bind x s).2).1,(chg bind leaf ((x,(bind x s).1)::env) t (bind x s).2).2)
def chgL(bind:Name->σ->Name × σ)(leaf:Ty->Ty)(env:List (Name × Name)):List Ty->σ->List Ty × σ
 |[],s=>([],s)
 |t::r,s=>((chg bind leaf env t s).1::(chgL bind leaf env r (chg bind leaf env t s).2).1,(chgL bind leaf env r (chg bind leaf env t s).2).2)
end
end
end Go.Proofs.YtknkclefoiohpaaGreatDoor
namespace Go.Proofs.YtknkclefoiohpaaGreatDoor
open Go.RowKit Lx Tx Go.Maps Go.WideMaps Go.Shelf
set_option maxRecDepth 100000
theorem zo3 {g o o':Nat}(h:o≠o'):(⟨g,o,none⟩:Addr)≠⟨g,o',none⟩:=λe=>h (by injection e)
theorem other(w:World)(g o o':Nat)(u:Value)(h:o≠o'):(w.setCell ⟨g,o,none⟩ u).cell? ⟨g,o',none⟩=w.cell? ⟨g,o',none⟩:=World.cell?_setCell_other _ _ _ _ (zo3 h)
theorem same(w:World)(a:Addr)(v u:Value)(h:w.cell? a=some u):(w.setCell a v).cell? a=some v:=World.cell?_setCell_same _ _ _ h
end Go.Proofs.YtknkclefoiohpaaGreatDoor
namespace Go.Proofs.YtknkclefoiohpaaGreatDoor
open Go.RowKit Lx Tx Go.Maps Go.WideMaps Go.Shelf
set_option maxRecDepth 100000
section
variable {σ:Type}
end
section
variable {σ:Type}
end
section
variable {σ:Type}
end
section
variable {σ:Type}
end
end Go.Proofs.YtknkclefoiohpaaGreatDoor
namespace Go.Proofs.YtknkclefoiohpaaGreatDoor
namespace Sx
open Lx Tx
theorem zaQ {k:Nat} {x:Nm}(h:Gd k x)(hk:k<=2):x.length<=24:=by
 obtain⟨h1,h2,h3⟩:=h;cases x with
 |nil=>exact absurd rfl h1
 |cons c r =>
  rw[first]at h2
  split at h2
  ·unfold word at h2
   split at h2
   ·injection h2 with a _;omega
   ·injection h2 with _ b;omega
  ·split at h2
   ·exfalso
    rcases zaD (c::r) with e|⟨e,_,_⟩ <;> rw[e]at h2 <;> injection h2 with a _ <;> omega
   ·split at h2
    ·exfalso
     unfold zbf at h2;split at h2 <;> injection h2 with a _ <;> omega
    ·exfalso
     unfold sign at h2;split at h2
     ·injection h2 with a _;omega
     ·split at h2 <;> injection h2 with a _ <;> omega
mutual
theorem Ex.wt_pos:∀e:Ex,0<e.wt
 |.var _=>by unfold Ex.wt;omega
 |.con _=>by unfold Ex.wt;omega
 |.lam _ e=>by unfold Ex.wt;omega
 |.app a b=>by unfold Ex.wt;have:=a.wt_pos;omega
 |.lt _ t a b=>by unfold Ex.wt;omega
 |.cs e l=>by unfold Ex.wt;omega
 |.ann e t=>by unfold Ex.wt;omega
end
mutual
theorem size_wt:∀e:Ex,e.size+1<=2*e.wt
 |.var _=>by unfold Ex.size Ex.wt;omega
 |.con _=>by unfold Ex.size Ex.wt;omega
 |.lam _ e=>by have:=size_wt e;unfold Ex.size Ex.wt;omega
 |.app a b=>by have:=size_wt a;have:=size_wt b;unfold Ex.size Ex.wt;omega
 |.lt _ t a b=>by have:=size_wt a;have:=size_wt b;unfold Ex.size Ex.wt;omega
 |.cs e l=>by have:=size_wt e;have:=zhB l;unfold Ex.size Ex.wt;omega
 |.ann e t=>by have:=size_wt e;unfold Ex.size Ex.wt;omega
theorem znh:∀a:Al,a.size<=2*a.wt
 |.mk _ _ b=>by have:=size_wt b;unfold Al.size Al.wt;omega
theorem zhB:∀l:List Al,zbn l<=2*wtA l
 |[]=>by unfold zbn wtA;omega
 |a::r=>by have:=znh a;have:=zhB r;unfold zbn wtA;omega
end
theorem zb5 {k:Nat} {x:Nm}(h:Gd k x):x≠[]:=h.1
mutual
theorem zck:∀(e:Ex),e.Ok->∀x∈nms e,x≠[]
 |.var y,h,x,hx=>by
  simp[nms,evs,useOf]at hx
  subst hx;exact zb5 h
 |.con y,h,x,hx=>by
  simp[nms,evs,useOf]at hx
  subst hx;exact zb5 h
 |.lam y e,h,x,hx=>by
  have ih:=zck e h.2;unfold nms at hx ih;simp only[evs,uH,uA,uz,useOf,vr,u9,vY,wu,vL]at hx;rcases hx with rfl|hx
  ·exact zb5 h.1
  ·exact ih x hx
 |.app a b,h,x,hx=>by
  have i1:=zck a h.1;have i2:=zck b h.2;unfold nms at hx i1 i2;simp only[evs,uH,uA,uz,useOf,vr,u9,vY,wu]at hx;exact hx.elim (i1 x) (i2 x)
 |.lt y t a b,h,x,hx=>by
  have i1:=zck a h.2.2.1;have i2:=zck b h.2.2.2;unfold nms at hx i1 i2;simp only[evs,uH,uA,uz,useOf,vr,u9,vY,wu,vL]at hx;rcases hx with rfl|hx|hx
  ·exact zb5 h.1
  ·exact i1 x hx
  ·exact i2 x hx
 |.cs e l,h,x,hx=>by
  have i1:=zck e h.1;unfold nms at hx i1;simp only[evs,uH,uA,uz,useOf,u9,wu]at hx;exact hx.elim (i1 x) (ziZ l h.2 x)
 |.ann e t,h,x,hx=>by
  have ih:=zck e h.1;unfold nms at hx ih;simp only[evs,uH,uA,uz,useOf,vr,u9,vY,wu]at hx;exact ih x hx
theorem zoL:∀(a:Al),a.Ok->∀x∈(evs1 a).flatMap useOf,x≠[]
 |.mk c vs b,h,x,hx=>by
  have ih:=zck b h.2.2;unfold nms at ih;simp only[evs1,uH,uA,uz,useOf,vr,u9,vY,wu,vL]at hx;rcases hx with rfl|hx|hx
  ·exact zb5 h.1
  ·exact zb5 (h.2.1 x hx)
  ·exact ih x hx
theorem ziZ:∀(l:List Al),okA l->∀x∈(evsA l).flatMap useOf,x≠[]
 |[],_,x,hx=>by simp[evsA]at hx
 |a::r,h,x,hx=>by
  simp only[evsA,uA,uz]at hx;exact hx.elim (zoL a h.1 x) (ziZ r h.2 x)
end
def De.Ok:De->Prop
 |.data n ps cs=>Gd 2 n/\(∀x∈ps,Gd 1 x)/\∀c∈cs,Gd 2 c.1/\Tx.Nm c.2
 |.sig x t=>Gd 1 x/\Tx.Nm t
 |.bind x e=>Gd 1 x/\e.Ok
def conW(c:Nm × Ty):Nat:=c.2.size+1
def za2:List (Nm × Ty)->Nat
 |[]=>0
 |c::r=>conW c+za2 r
def De.wt:De->Nat
 |.data _ ps cs=>ps.length+za2 cs+1
 |.sig _ t=>t.size+1
 |.bind _ e=>e.wt+1
def desW:List De->Nat
 |[]=>0
 |d::r=>d.wt+desW r
theorem zik {l r:List Tok} {c:Nm × Ty}(hg:AllG l)(h:rdCon l=some (c,r)):(Gd 2 c.1/\Tx.Nm c.2)/\AllG r/\conW c+r.length<=l.length:=by
 unfold rdCon at h;cases h1:tok1 2 l with
 |none=>rw[h1]at h;cases h
 |some y =>
  obtain⟨x,r1⟩:=y;rw[h1]at h
  obtain⟨x1,g1,l1⟩:=zbu (by omega) hg h1;simp only at h;cases h2:eat pCol r1 with
  |none=>rw[h2]at h;cases h
  |some r2 =>
   rw[h2]at h
   obtain⟨g2,l2⟩:=zav g1 h2;simp only at h;cases h3:typ r2 with
   |none=>rw[h3]at h;cases h
   |some y =>
    obtain⟨t,r3⟩:=y;rw[h3]at h
    simp only[uq,um,uw]at h;obtain⟨rfl,rfl⟩:=h;obtain⟨t3,g3,l3⟩:=zbC g2 h3;exact⟨⟨x1,t3⟩,g3,by simp only[conW];omega⟩
theorem zft {α:Type} {p:List Tok->Option (α × List Tok)} {P:α->Prop} {W:α->Nat} {Ws:List α->Nat}(h0:Ws []=0)(h1:∀a r,Ws (a::r)=W a+Ws r)
  (hp:∀l a r,AllG l->p l=some (a,r)->P a/\AllG r/\W a+r.length<=l.length)(f:Nat):∀l gv r,AllG l->sepF p f l=some (gv,r)->(∀a∈gv,P a)/\AllG r/\Ws gv+r.length<=l.length/\gv≠[]:=by
 induction f with
 |zero=>intro l gv r _ h;simp[sepF]at h
 |succ f ih =>
  intro l gv r hg h;rw[sepF]at h
  cases h2:p l with
  |none=>rw[h2]at h;cases h
  |some y =>
   obtain⟨a,r1⟩:=y;rw[h2]at h
   obtain⟨a1,g1,l1⟩:=hp _ _ _ hg h2;simp only at h;cases h3:eat pSem r1 with
   |none =>
    rw[h3]at h
    simp only[um,uw]at h;obtain⟨rfl,rfl⟩:=h;exact⟨λb hb=>by simp at hb;subst hb;exact a1,g1,by rw[h1,h0];omega,by simp⟩
   |some r2 =>
    rw[h3]at h
    obtain⟨g2,l2⟩:=zav g1 h3;simp only at h;cases h4:sepF p f r2 with
    |none=>rw[h4]at h;cases h
    |some y =>
     obtain⟨bs,r3⟩:=y;rw[h4]at h
     simp only[uq,um,uw]at h;obtain⟨rfl,rfl⟩:=h;obtain⟨b1,g3,l3,_⟩:=ih _ _ _ g2 h4;refine⟨λb hb=>?_,g3,by rw[h1];omega,by simp⟩;rcases uT.1 hb with rfl|hb
     ·exact a1
     ·exact b1 b hb
theorem zhC {l r:List Tok} {d:De}(hg:AllG l)(h:rdDecl l=some (d,r)):d.Ok/\AllG r/\d.wt+r.length<=l.length:=by
 unfold rdDecl at h;cases h1:eat (isKey · wData) l with
 |some r1 =>
  rw[h1]at h
  obtain⟨g1,l1⟩:=zav hg h1;simp only at h;unfold rdData at h;cases h2:tok1 2 r1 with
  |none=>rw[h2]at h;cases h
  |some y =>
   obtain⟨n,r2⟩:=y;rw[h2]at h
   obtain⟨n1,g2,l2⟩:=zbu (by omega) g1 h2;obtain⟨v1,v2,v3⟩:=zbD r2 g2;simp only at h;cases h3:eat pOpn (vars r2).2 with
   |none=>rw[h3]at h;cases h
   |some r3 =>
    rw[h3]at h
    obtain⟨g3,l3⟩:=zav v2 h3;simp only at h;cases h4:eat pCls r3 with
    |some r4 =>
     rw[h4]at h
     obtain⟨g4,l4⟩:=zav g3 h4;simp only[um,uw]at h;obtain⟨rfl,rfl⟩:=h;exact⟨⟨n1,v1,λc hc=>by simp at hc⟩,g4,by simp only[De.wt,za2];omega⟩
    |none =>
     rw[h4]at h
     simp only at h;cases h5:sep rdCon r3 with
     |none=>rw[h5]at h;cases h
     |some y =>
      obtain⟨cs,r5⟩:=y;rw[h5]at h
      obtain⟨c1,g5,l5,_⟩:=zft (P:=λc=>Gd 2 c.1/\Tx.Nm c.2) (W:=conW) (Ws:=za2) rfl (λ_ _=>rfl) (λ_ _ _ hg h=>zik hg h) _ _ _ _ g3 h5;simp only at h;cases h6:eat pCls r5 with
      |none=>rw[h6]at h;cases h
      |some r6 =>
       rw[h6]at h
       obtain⟨g6,l6⟩:=zav g5 h6;simp only[uq,um,uw]at h;obtain⟨rfl,rfl⟩:=h;exact⟨⟨n1,v1,c1⟩,g6,by simp only[De.wt];omega⟩
 |none =>
  rw[h1]at h
  simp only at h;cases h2:tok1 1 l with
  |none=>rw[h2]at h;cases h
  |some y =>
   obtain⟨x,r1⟩:=y;rw[h2]at h
   obtain⟨x1,g1,l1⟩:=zbu (by omega) hg h2;simp only at h;cases h3:eat pCol r1 with
   |some r2 =>
    rw[h3]at h
    obtain⟨g2,l2⟩:=zav g1 h3;simp only at h;cases h4:typ r2 with
    |none=>rw[h4]at h;cases h
    |some y =>
     obtain⟨t,r3⟩:=y;rw[h4]at h
     simp only[uq,um,uw]at h;obtain⟨rfl,rfl⟩:=h;obtain⟨t3,g3,l3⟩:=zbC g2 h4;exact⟨⟨x1,t3⟩,g3,by simp only[De.wt];omega⟩
   |none =>
    rw[h3]at h
    simp only at h;cases h4:eat pEq r1 with
    |none=>rw[h4]at h;cases h
    |some r2 =>
     rw[h4]at h
     obtain⟨g2,l2⟩:=zav g1 h4;simp only at h;cases h5:rdE (zaJ r2) r2 with
     |none=>rw[h5]at h;cases h
     |some y =>
      obtain⟨e,r3⟩:=y;rw[h5]at h
      simp only[uq,um,uw]at h;obtain⟨rfl,rfl⟩:=h;obtain⟨e3,g3,l3⟩:=(rd_facts _).1 _ _ _ g2 h5;exact⟨⟨x1,e3⟩,g3,by simp only[De.wt];omega⟩
theorem zel {l r:List Tok} {p:List De}(hg:AllG l)(h:rdProg l=some (p,r)):(∀d∈p,d.Ok)/\AllG r/\desW p+r.length<=l.length:=by
 unfold rdProg at h;split at h
 ·rename_i hl
  subst hl;injection h with h;injection h with h1 h2;subst h1 h2;exact⟨λd hd=>by simp at hd,hg,by simp[desW]⟩
 ·obtain⟨a,b,c,_⟩:=zft (P:=De.Ok) (W:=De.wt) (Ws:=desW) rfl (λ_ _=>rfl) (λ_ _ _ hg h=>zhC hg h) _ _ _ _ hg h
  exact⟨a,b,c⟩
end Sx
end Go.Proofs.YtknkclefoiohpaaGreatDoor
