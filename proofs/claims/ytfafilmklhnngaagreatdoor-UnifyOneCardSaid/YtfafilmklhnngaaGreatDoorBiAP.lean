import Derived.Test.YtfafilmklhnngaaGreatDoorBiAO
import Derived.Laws.OwnMore
set_option maxHeartbeats 12800000
namespace Go.Proofs.YtfafilmklhnngaaGreatDoor
open Go.RowKit Lx Tx Go.Maps Go.WideMaps Go.Shelf
set_option maxRecDepth 100000
def RdN(w:World)(t:Ty)(v:Value):Prop:=RdV (λg=>g<w.heap.size) w t v
theorem RdN.below {w w':World} {t:Ty} {v:Value}(h:RdN w t v)(hb:Below w.heap.size w w'):RdN w' t v:=RdV.keep h (λ_ hg=>Nat.lt_of_lt_of_le hg hb.size) (λg hg=>hb.block g hg)
theorem Bx.rn {N:Nat} {w:World} {g:Nat} {t:Ty} {K:Int} {X:ByteArray} {Z:Int} {A:Option Addr} {m c:Nat}(h:Bx N w g t K X Z A m c):RdN w t (.agg #[.int .i64 K,.string X,.int .i64 Z,.slice A m c]) :=
 RdV.keep h.rd (λ_ hg=>Nat.lt_of_lt_of_le hg h.lt) (λ_ _=>rfl)
theorem zhX {w:World} {t u:Ty} {v uv:Value}(hv:RdN w t v)(hu:RdN w u uv)(hnt:Nm t)(hnu:Nm u)(hsz:t.size<=100000000)(q:Bool)(h:q=true↔db [] t=db [] u):Calls Tryz.prog 22 #[v,uv] w λe w'=>e=.returned (.bool q)/\Below w.heap.size w w':=by
 have:=zn9 t u _ _ v uv w hv hu (λ_ h=>h) (λ_ h=>h) hnt hnu hsz;rw[show(smT [] [] t u 0).1=q from Bool.eq_iff_iff.2 ((same_iff t u).trans h.symm)]at this
 exact this
def MetO(N:Nat)(l:List Nat)(n:Nat)(w:World)(v:Value):Prop:=w.ownsRow N 3 1 v n (intV l)/\n<=2000000
def MetsPst(N:Nat)(l:List Nat)(n:Nat)(w:World)(e:Ending)(w':World):Prop :=
 ∃A c,e=.returned (.slice A n c)/\MetO N l n w' (.slice A n c)/\Below w.heap.size w w'
theorem zok {w:World} {t:Ty} {v:Value}(hv:RdN w t v)(hn:Nm t)(hs:t.size<=1000000)(N n:Nat)(hN:N<=w.heap.size)(hl:t.metas.length=n):Calls Tryz.prog 25 #[v] w (MetsPst N t.metas n w):=by
 have:=zmB t _ _ w hv (λ_ h=>h) hn hs;rw[zkX,hl]at this
 refine this.mono ?_;rintro e w' ⟨A,cp,rfl,ho,h2,hb⟩;exact⟨A,cp,rfl,⟨zdQ ho hN,h2⟩,hb⟩
def MetR(w:World)(L:List Nat)(n:Nat)(A:Option Addr):Prop:=L.length=n/\(0<n->∃g,A=some ⟨g,0,none⟩/\∀(k:Nat)(x:Nat),L[k]?=some x->w.cell? ⟨g,k,none⟩=some (.int .i64 x))
theorem MetR.of_own {w:World} {N:Nat} {L:List Nat} {n:Nat} {A:Option Addr} {c:Nat} {e:TypeId}(h:w.ownsRow N e 1 (.slice A n c) n (intV L)):MetR w L n A:=by
 refine⟨by have:=h.1;rw[zmk]at this;omega,λh0=>?_⟩;rcases h.2 with⟨q,h1⟩|⟨g,cap,cur,q,_⟩
 ·omega
 ·injection q with q1 q2 q3
  subst q1;refine⟨g,rfl,λk x hx=>?_⟩;have:=h.cells (g:=g) rfl k (.int .i64 x) (by unfold intV;rw[List.getElem?_map,hx];rfl);rwa [zbg]at this
theorem zlv(t:Ty)(k:Nat):k∈t.metas↔MtOcc k (db [] t):=by
 unfold Ty.metas;rw[zcX [] t,zaU]
 simp
end Go.Proofs.YtfafilmklhnngaaGreatDoor
namespace Go.Proofs.YtfafilmklhnngaaGreatDoor
open Go.RowKit Lx Tx Go.Maps Go.WideMaps Go.Shelf
set_option maxRecDepth 100000
theorem zng {S:Nat->Prop} {W:World} {t u:Ty} {k z k' z':Int} {x x':ByteArray} {a a':Option Addr} {m q m' q':Nat}(h1:RdV S W t (.agg #[.int .i64 k,.string x,.int .i64 z,.slice a m q]))(h2:RdV S W u (.agg #[.int .i64 k',.string x',.int .i64 z',.slice a' m' q']))(hS:∀g,S g->g<W.heap.size):EqsAt S (W.alloc (.cells #[.int .i64 k,.string x,.int .i64 z,.slice a m q,.int .i64 k',.string x',.int .i64 z',.slice a' m' q'] 52)) [(t,u)] (some ⟨W.heap.size,0,none⟩):=by
 obtain⟨A1,c1,e1,g1⟩:=h1;obtain⟨A2,c2,e2,g2⟩:=h2;injection e1 with e1;injection e2 with e2;have e1:=congrArg Array.toList e1;have e2:=congrArg Array.toList e2;simp only[List.cons.injEq,Value.int.injEq,Value.string.injEq,Value.slice.injEq,and_true,true_and]at e1 e2;obtain⟨rfl,rfl,rfl,rfl,rfl,rfl⟩:=e1;obtain⟨rfl,rfl,rfl,rfl,rfl,rfl⟩:=e2;have hk:∀g,S g->(W.alloc (.cells #[.int .i64 (kd t:Nat),.string (nmB t),.int .i64 (nn t:Nat),.slice a (kids t).length q,.int .i64 (kd u:Nat),.string (nmB u),.int .i64 (nn u:Nat),.slice a' (kids u).length q'] 52)).heap[g]?=W.heap[g]?:=λg hg=>Below.heap_alloc _ _ _ (hS g hg);intro i t' u' hi;cases i with
 |succ i=>simp at hi
 |zero =>
  simp at hi;obtain⟨rfl,rfl⟩:=hi;exact⟨W.heap.size,a,q,a',q',rfl,by simp,⟨cell_of_row _ _ _ _ _ _ (heap_alloc_new _ _),cell_of_row _ _ _ _ _ _ (heap_alloc_new _ _),cell_of_row _ _ _ _ _ _ (heap_alloc_new _ _),cell_of_row _ _ _ _ _ _ (heap_alloc_new _ _)⟩,g1.keep (λ_ h=>h) hk,
   ⟨cell_of_row _ _ _ _ _ _ (heap_alloc_new _ _),cell_of_row _ _ _ _ _ _ (heap_alloc_new _ _),cell_of_row _ _ _ _ _ _ (heap_alloc_new _ _),cell_of_row _ _ _ _ _ _ (heap_alloc_new _ _)⟩,g2.keep (λ_ h=>h) hk⟩
theorem zo9(S:Nat->Prop)(W:World)(m:Nat):RdV S W (.mt m) (.agg #[.int .i64 2,.string ⟨#[]⟩,.int .i64 (m:Nat),.slice none 0 0]):=⟨none,0,rfl,by rw[Args];trivial⟩
theorem zi0 {t u:Ty} {k z k' z':Int} {x x':ByteArray} {a a':Option Addr} {m q m' q':Nat} {W:World}(h1:RdN W t (.agg #[.int .i64 k,.string x,.int .i64 z,.slice a m q]))(h2:RdN W u (.agg #[.int .i64 k',.string x',.int .i64 z',.slice a' m' q']))(hn:Nm t/\Nm u)(hs:t.size<=1000/\u.size<=1000):Calls Tryz.prog 14 #[.slice (some ⟨W.heap.size,0,none⟩) 1 1] (W.alloc (.cells #[.int .i64 k,.string x,.int .i64 z,.slice a m q,.int .i64 k',.string x',.int .i64 z',.slice a' m' q'] 52)) (UnPost [(t,u)] (W.alloc (.cells #[.int .i64 k,.string x,.int .i64 z,.slice a m q,.int .i64 k',.string x',.int .i64 z',.slice a' m' q'] 52))):=by
 refine zhP _ [(t,u)] _ 1 _ (zng h1 h2 (λg hg=>hg)) (λg hg=>by rw[size_alloc];omega) (λt' u' h=>?_) (by simp) ?_ zgR
 ·simp at h
  rw[h.1,h.2]
  exact⟨hn.1,hn.2,by omega,by omega⟩
 ·have:=zhW [(t,u)]
  unfold szQ szQ;simp;omega
theorem KnsV.shape {S:Nat->Prop} {B:Nat} {w:World} {l:List (Nat × Ty)} {v:Value}(h:KnsV S B w l v):∃A c,v=.slice A l.length c:=by
 obtain⟨vs,h1,-⟩:=h;obtain⟨a,q,e⟩:=zao h1;exact⟨a,q,e⟩
theorem UnPost.self {t:Ty} {W:World} {e:Ending} {W':World}(h:UnPost [(t,t)] W e W'):∃A c,e=.returned (.tuple #[.slice A 0 c,.int .i64 0])/\Below W.heap.size W W':=by
 obtain⟨f,o,hf,hb,⟨m,rfl,hm,rfl⟩|⟨k,v,l,T,rfl,rfl,hK,hT,-⟩⟩:=h
 ·have:=zh0 hf;cases this
 ·have:=zh0 hf
  injection this with e;subst e;obtain rfl:=hT.none;obtain⟨A,c,rfl⟩:=hK.shape;exact⟨A,c,rfl,hb⟩
def KnAt(n:Nat)(t:Ty)(w:World)(A:Option Addr):Prop:=∃g At ct,A=some ⟨g,0,none⟩/\g<w.heap.size/\RdN w t (.agg #[.int .i64 (kd t:Nat),.string (nmB t),.int .i64 (nn t:Nat),.slice At (kids t).length ct]) /\
 w.cell? ⟨g,0,none⟩=some (.int .i64 (n:Nat))/\w.cell? ⟨g,1,none⟩=some (.int .i64 (kd t:Nat))/\w.cell? ⟨g,2,none⟩=some (.string (nmB t))/\w.cell? ⟨g,3,none⟩=some (.int .i64 (nn t:Nat))/\w.cell? ⟨g,4,none⟩=some (.slice At (kids t).length ct)
theorem KnAt.below {n:Nat} {t:Ty} {w w':World} {A:Option Addr}(h:KnAt n t w A)(hb:Below w.heap.size w w'):KnAt n t w' A:=by
 obtain⟨g,At,ct,rfl,hg,hr,c0,c1,c2,c3,c4⟩:=h;have hc:∀j u,w.cell? ⟨g,j,none⟩=some u->w'.cell? ⟨g,j,none⟩=some u:=λj u h=>(hb.cell (p:=⟨g,j,none⟩) hg).trans h;exact⟨g,At,ct,rfl,Nat.lt_of_lt_of_le hg hb.size,hr.below hb,hc _ _ c0,hc _ _ c1,hc _ _ c2,hc _ _ c3,hc _ _ c4⟩
theorem KnsV.first {S:Nat->Prop} {B:Nat} {w:World} {n m c:Nat} {t:Ty} {A:Option Addr}(h:KnsV S B w [(n,t)] (.slice A m c))(hS:∀g,S g->g<w.heap.size):KnAt n t w A:=by
 obtain⟨g,At,ct,e,-,hg,ha,c0,c1,c2,c3,c4⟩:=h.cells.2 0 n t rfl;exact⟨g,At,ct,e,hg,⟨At,ct,rfl,ha.keep hS (λ_ _=>rfl)⟩,c0,c1,c2,c3,c4⟩
def OneRes(m:Nat)(t:Ty)(n er:Nat)(A:Option Addr)(W':World):Prop :=
 (t=.mt m/\n=0/\er=0)\/(∃j,t=.mt j/\j≠m/\n=1/\er=0/\KnAt (max m j) (.mt (min m j)) W' A)\/(kd t≠2/\MtOcc m (db [] t)/\er=41)\/(kd t≠2/\¬MtOcc m (db [] t)/\t.poly=true/\er=42) \/
  (kd t≠2/\¬MtOcc m (db [] t)/\t.poly=false/\n=1/\er=0/\∃u,db [] u=db [] t/\Nm u/\u.size<=100000000/\KnAt m u W' A)
theorem OneRes.below {m:Nat} {t:Ty} {n er:Nat} {A:Option Addr} {w w':World}(h:OneRes m t n er A w)(hb:Below w.heap.size w w'):OneRes m t n er A w':=by
 rcases h with h|⟨j,a,b,c,d,e⟩|h|h|⟨a,b,c,d,e,u,f,g,i,j⟩
 ·exact .inl h
 ·exact .inr (.inl ⟨j,a,b,c,d,e.below hb⟩)
 ·exact .inr (.inr (.inl h))
 ·exact .inr (.inr (.inr (.inl h)))
 ·exact .inr (.inr (.inr (.inr ⟨a,b,c,d,e,u,f,g,i,j.below hb⟩)))
def OnePst(m:Nat)(t:Ty)(W:World)(e:Ending)(W':World):Prop :=
 ∃A n c er,e=.returned (.tuple #[.slice A n c,.int .i64 (er:Nat)])/\Below W.heap.size W W'/\OneRes m t n er A W'
theorem UnPost.single {m:Nat} {t:Ty} {W:World} {e:Ending} {W':World}(hm:m<=999999)(hn:Nm t)(hs:t.size<=1000)(h:UnPost [(.mt m,t)] W e W'):OnePst m t W e W':=by
 obtain⟨f,o,hf,hb,⟨er,rfl,her,rfl⟩|⟨k,v,l,T,rfl,rfl,hK,hT,hTb⟩⟩:=h
 ·refine⟨none,0,0,er,rfl,hb,?_⟩
  rcases zgW hf with⟨-,h⟩|⟨n,k,-,-,h,-⟩|⟨h1,h2,h3⟩|⟨h1,h2,h3,h4⟩|⟨-,-,-,k,u,h,-⟩
  ·cases h
  ·cases h
  ·injection h3 with h3;exact .inr (.inr (.inl ⟨h1,h2,h3⟩))
  ·injection h4 with h4;exact .inr (.inr (.inr (.inl ⟨h1,h2,h3,h4⟩)))
  ·cases h
 ·have hS:∀g,T g->g<W'.heap.size:=λg hg=>(hTb g hg).2
  obtain⟨A,c,rfl⟩:=hK.shape;refine⟨A,l.length,c,0,rfl,hb,?_⟩;rcases zgW hf with⟨h1,h2⟩|⟨n,k',h1,h2,h3,h4⟩|⟨-,-,h⟩|⟨-,-,-,h⟩|⟨h1,h2,h3,k',u,h4,h5,h6⟩
  ·injection h2 with h2
   subst h2;obtain rfl:=hT.none;exact .inl ⟨h1,rfl,rfl⟩
  ·injection h3 with h3
   subst h3;obtain rfl:=h4 l hT;exact .inr (.inl ⟨n,h1,h2,rfl,rfl,hK.first hS⟩)
  ·cases h
  ·cases h
  ·injection h4 with h4
   subst h4;obtain rfl:=h6 l hT;obtain⟨-,a,-,-,b,c'⟩:=zfU hf hT (λt' u' h=>by simp at h;rw[h.1,h.2];exact⟨.mt m hm,hn⟩) m u (by simp);have hsz:u.size<=100000000:=by
    rw[zcM u [],h5,<-zcM t []]
    omega
   exact .inr (.inr (.inr (.inr ⟨h1,h2,h3,rfl,rfl,u,h5,a,hsz,hK.first hS⟩)))
set_option maxRecDepth 100000
theorem zop {S:Nat->Prop} {w:World} {t:Ty} {k z:Int} {x:ByteArray} {a:Option Addr} {m q:Nat}(hr:RdV S w t (.agg #[.int .i64 k,.string x,.int .i64 z,.slice a m q])):k=(kd t:Nat)/\x=nmB t/\z=(nn t:Nat)/\m=(kids t).length/\Args S w t a:=by
 obtain⟨A,c,hv,ha⟩:=hr;injection hv with hv;have hv:=congrArg Array.toList hv;simp only[List.cons.injEq,Value.int.injEq,Value.string.injEq,Value.slice.injEq,and_true,true_and]at hv;obtain⟨rfl,rfl,rfl,rfl,rfl,rfl⟩:=hv;exact⟨rfl,rfl,rfl,rfl,ha⟩
end Go.Proofs.YtfafilmklhnngaaGreatDoor
