import Derived.Test.YtknkclefoiohpaaGreatDoorKaT
import Derived.Test.YtknkclefoiohpaaGreatDoorKaN
set_option maxHeartbeats 12800000
namespace Go.Proofs.YtknkclefoiohpaaGreatDoor
open Go.RowKit Lx Tx Sx
set_option maxRecDepth 100000
theorem zg2:(Tryz.prog.info? 48).map (λi=>(i.zero,i.size,i.bytes))=some (some (.agg #[.int .i64 0,.string ⟨#[]⟩,.bool false,.int .i64 0,.string ⟨#[]⟩,.int .i64 0,.slice none 0 0,.slice none 0 0,.slice none 0 0]),9,136):=by kernel_rfl
def R8w {α:Type}(P:Pc α)(S:Nat->Prop)(B:Nat)(t:TypeId)(w:World)(l:List α)(v:Value):Prop :=
 ∃vs,w.ownsRow B t P.n v l.length vs/\RowG P (λg=>S g\/((B<=g/\g<w.heap.size)/\some g≠v.ownBlock)) w l vs
theorem R8w.next {α:Type} {P:Pc α} {S:Nat->Prop} {B:Nat} {t:TypeId} {w w2 w3:World} {l:List α} {x:α} {v v':Value} {vs cs:List Value}(hS:∀g,S g->g<B)
  (ae:w.ownsRow B t P.n v l.length vs)(ao:RowG P (λg=>S g\/((B<=g/\g<w.heap.size)/\some g≠v.ownBlock)) w l vs)
  (hx:P.Cs (λg=>S g\/((B<=g/\g<w2.heap.size)/\some g≠v.ownBlock)) w2 x cs)(hB:B<=w.heap.size)(b2:Below w.heap.size w w2)
  (ho:w3.ownsRow B t P.n v' (l.length+1) (vs++cs))(hg:w2.grownBy w3 v.ownBlock)(aH:v'.ownBlock=v.ownBlock\/v'.ownBlock=some w2.heap.size):R8w P S B t w3 (l++[x]) v':=by
 have ah:=ae.lt;have s2:=b2.size;have s3:=hg.size;have bf:∀g,g<w2.heap.size->some g≠v.ownBlock->some g≠v'.ownBlock:=λg h1 h2=>by
  rcases aH with h|h
  ·rw[h];exact h2
  ·rw[h];intro e;injection e with e;omega
 have hnS:∀g,S g->some g≠v.ownBlock:=λg h e=>by have:=(ah g e.symm).1;have:=hS g h;omega
 have hk:∀g,g<w2.heap.size->some g≠v.ownBlock->w3.heap[g]?=w2.heap[g]?:=λg h1 h2=>hg.block g h1 h2;refine⟨vs++cs,by rw[uf];exact ho,RowG.snoc (P.keep (λg h=>?_) (λg h=>?_) hx) l vs (RowG.keep (λg h=>?_) (λg h=>?_) l vs ao)⟩
 ·exact h.imp id λh=>⟨⟨h.1.1,by have:=h.1.2;omega⟩,bf g h.1.2 h.2⟩
 ·rcases h with h|h
  ·exact hk g (by have:=hS g h;omega) (hnS g h)
  ·exact hk g h.1.2 h.2
 ·exact h.imp id λh=>⟨⟨h.1.1,by have:=h.1.2;omega⟩,bf g (by have:=h.1.2;omega) h.2⟩
 ·have h2:g<w.heap.size/\some g≠v.ownBlock:=by
   rcases h with h|h
   ·exact⟨by have:=hS g h;omega,hnS g h⟩
   ·exact⟨h.1.2,h.2⟩
  exact(hk g (by omega) h2.2).trans (b2.block g h2.1)
theorem R8w.lst {α:Type} {P:Pc α} {S:Nat->Prop} {B:Nat} {t:TypeId} {w:World} {l:List α} {A:Option Addr} {n c:Nat}(h:R8w P S B t w l (.slice A n c)):n=l.length/\n<=c/\LstG P (λg=>S g\/(B<=g/\g<w.heap.size)) w l A:=by
 obtain⟨vs,h1,h2⟩:=h;have hc:=λg hg=>h1.cells (g:=g) hg;have ah:=h1.lt;rcases h1.2 with⟨h3,h0⟩|⟨g,cap,cur,h3,hh⟩
 ·injection h3 with e1 e2 e3
  subst e1 e2 e3;have hk:l=[]:=by cases l with|nil=>rfl|cons a b=>simp at h0
  exact⟨by rw[hk];rfl,tV _,λh=>absurd hk h⟩
 ·injection h3 with e1 e2 e3
  subst e1 e2 e3;refine⟨rfl,hh.2.2.1,λh=>⟨g,rfl,.inr ⟨(ah g rfl).1,(ah g rfl).2⟩,RowG.lie l vs 0 (RowG.keep (λ_ h=>h.imp id λh=>h.1) (λ_ _=>rfl) l vs h2) λj u hu=>?_⟩⟩;have dS:(⟨g,0,none⟩:Addr).add j=⟨g,j,none⟩:=by unfold Addr.add;split <;> simp_all
  have:=hc g rfl j u hu;rw[dS]at this
  rw[uJ];exact this
theorem ziF {S:Nat->Prop} {w:World} {g:Nat} :(l:List Ex)->∀o,ExsAt S w l g o->∃vs,RowG pcE S w l vs/\Lie w g o vs/\vs.length=l.length*9
 |[],o,_=>⟨[],by rw[RowG],λj v hj=>by simp at hj,rfl⟩
 |e::r,o,h=>by
  rw[ExsAt]at h
  obtain⟨⟨P,h1,h2,h3⟩,h4⟩:=h;obtain⟨vs,k1,k2,k3⟩:=ziF r (o+9) h4;have hl:=zbY e P;refine⟨exC e P++vs,by rw[RowG];exact⟨_,vs,rfl,⟨P,rfl,h2,h3⟩,k1⟩,λj v hj=>?_,by rw[uf,hl,k3,ui];omega⟩;by_cases ah:j<9
  ·exact h1 j v (by rw[vB (by omega)]at hj;exact hj)
  ·rw[uI (by omega),hl]at hj
   have:=k2 (j-9) v hj;rwa [show o+9+(j-9)=o+j by omega]at this
theorem row_one {S:Nat->Prop} {w:World} :(l:List Ex)->∀vs,RowG pcE S w l vs->∀u∈vs,u.oneCell'=true
 |[],vs,h,u,hu=>by rw[RowG]at h;subst h;cases hu
 |e::r,vs,h,u,hu=>by
  rw[RowG]at h
  obtain⟨cs,rest,rfl,⟨P,rfl,-,-⟩,h2⟩:=h;rcases uz.1 hu with hu|hu
  ·obtain⟨K,X,Z,B,m,q,hs⟩:=zaT (tyE e) P.A P.a
   rw[exC,hs]at hu
   simp at hu;rcases hu with rfl|rfl|rfl|rfl|rfl|rfl|rfl|rfl|rfl <;> rfl
  ·exact row_one r rest h2 u hu
theorem zeX {P:Program} {w:World}(base:Nat)(t ty e:TypeId)(i:TypeInfo)(z:Value)(size bytes:Nat)(ht:P.underlying t=some (.slice e))(hi:P.info? e=some i)(hz:i.zero=some z)(eH:i.size=size)(la:i.bytes=bytes)(gW:z.cells.size=size)(eI:0<size)
  (v:Value)(n:Nat)(xs:List Value)(A:Option Addr)(m c:Nat)(ys:List Value)(ae:w.ownsRow base e size v n xs)(hlen:ys.length=m*size)(hA:m=0\/∃g,A=some ⟨g,0,none⟩/\∀j u,ys[j]?=some u->w.cell? ⟨g,j,none⟩=some u)
  (h1:∀u∈ys,u.oneCell'=true)(oO:n+m<=maxLen)(jE:(n+m)*bytes<=140737488355328)(dR:base<=w.heap.size):∃A' c' w',(Builtin.append_ #[t,t] ty #[v,.slice A m c]).run P w=.ok (.slice A' (n+m) c') w'/\w'.ownsRow base e size (.slice A' (n+m) c') (n+m) (xs++ys)/\Below base w w':=by
 cases A with
 |none =>
  rcases hA with rfl|⟨g,h,-⟩
  ·have hy:ys=[]:=vw.1 (by omega)
   subst hy;obtain⟨A',c',rfl⟩:=zat ae;exact⟨A',c',w,zdz base t ty e i size ht hi _ n xs ae c,by simpa using ae,ua _ _⟩
  ·cases h
 |some ad =>
  have hg:∀j u,ys[j]?=some u->w.cell? (ad.add j)=some u:=by
   rcases hA with rfl|⟨g,h,h2⟩
   ·have hy:ys=[]:=vw.1 (by omega)
    subst hy;exact λj u hu=>by simp at hu
   ·injection h with h
    subst h;exact λj u hu=>by rw[zbs];exact h2 j u hu
  obtain⟨v',w',hr,h2,h3,-,-⟩:=run_append_own_at (P:=P) (w:=w) base t ty e i z size bytes ht hi hz eH la gW eI v n xs ae ad m c ys hlen hg h1 oO jE dR;obtain⟨A',c',rfl⟩:=zat h2;exact⟨A',c',w',hr,h2,Below.grown (ua _ w) h3 dR (λk hk=>(ae.lt k hk).1)⟩
theorem zco {P:Program} {ops:Array Oper} {rest:List Oper} {o:Oper} {a:Act} {w:World} {Q:Exit->Act->World->Prop}(fu:o.guard=none)(s x:Operand)(t:TypeId)(ho:o.op=.call { callee:=.builtin .append,args:=#[s,x],argTypes:=#[t,t] })
  (base:Nat)(e:TypeId)(i:TypeInfo)(z:Value)(size bytes:Nat)(ht:P.underlying t=some (.slice e))(hi:P.info? e=some i)(hz:i.zero=some z)(eH:i.size=size)(la:i.bytes=bytes)(gW:z.cells.size=size)(eI:0<size)
  (v:Value)(n:Nat)(xs:List Value)(A:Option Addr)(m c:Nat)(ys:List Value)(hs:a.eval s=v)(hx:a.eval x=.slice A m c)(ae:w.ownsRow base e size v n xs)(hlen:ys.length=m*size)(hA:m=0\/∃g,A=some ⟨g,0,none⟩/\∀j u,ys[j]?=some u->w.cell? ⟨g,j,none⟩=some u)
  (h1:∀u∈ys,u.oneCell'=true)(oO:n+m<=maxLen)(jE:(n+m)*bytes<=140737488355328)(dR:base<=w.heap.size)
  (h:∀A' c' w',w'.ownsRow base e size (.slice A' (n+m) c') (n+m) (xs++ys)->Below base w w'->wpList P ops Q rest (a.put o.dst (.slice A' (n+m) c')) w'):wpList P ops Q (o::rest) a w:=by
 refine wpList_plain fu λK hK=>?_;obtain⟨A',c',w',hr,h2,h3⟩:=zeX (P:=P) (w:=w) base t o.type e i z size bytes ht hi hz eH la gW eI v n xs A m c ys ae hlen hA h1 oO jE dR;unfold Oper.wp execOp;simp only[ho,resolve,invoke,builtin,Sem.run_bind,Sem.run_pure,Result.andThen_ok,List.map_toArray,vI,wh,hs,hx,hr];exact hK _ _ (h A' c' w' h2 h3)
end Go.Proofs.YtknkclefoiohpaaGreatDoor
namespace Go.Proofs.YtknkclefoiohpaaGreatDoor
open Go.RowKit Lx Tx Sx
set_option maxRecDepth 100000
def InP(e:Ex)(w:World)(en:Ending)(w':World):Prop :=
 ∃A c,en=.returned (.slice A (parts e).length c)/\LstG pcE (λg=>g<w'.heap.size) w' (parts e) A/\Below w.heap.size w w'
theorem zg3(e:Ex)(S:Nat->Prop)(v:Value)(w:World)(hv:RdX S w e v)(hS:∀g,S g->g<w.heap.size)(aG:(parts e).length<=500000):Calls Tryz.prog 51 #[v] w (InP e w):=by
 obtain⟨i0,bJ,bO,bz,bE⟩:=vz zg2;obtain⟨K,X,Z,A0,m,q,KA,kc,LA,lc,rfl,bI⟩:=hv.shape;obtain⟨kd,ch⟩:∃x,kdE e=x:=⟨_,rfl⟩;obtain⟨Y,hY⟩:∃Y:ByteArray,⟨(nmE e).toArray⟩=Y:=⟨_,rfl⟩;obtain⟨td,cI⟩:∃x,toE e=x:=⟨_,rfl⟩;obtain⟨kn,bg⟩:∃x,(zac e).length=x:=⟨_,rfl⟩;obtain⟨ln,br⟩:∃x,(zad e).length=x:=⟨_,rfl⟩;have dW:(parts e).length=kn+ln:=by rw[zgk,bg,br]
 have ow:=((zce e KA LA).1 bI).1;have ao:∃ys,RowG pcE S w (zac e) ys/\ys.length=kn*9/\(kn=0\/∃g,KA=some ⟨g,0,none⟩/\S g/\∀j u,ys[j]?=some u->w.cell? ⟨g,j,none⟩=some u):=by
  by_cases h0:zac e=[]
  ·rw[h0]at bg ⊢
   exact⟨[],by rw[RowG],by rw[<-bg];rfl,.inl bg.symm⟩
  ·obtain⟨g,h1,h2,h3⟩:=ow h0
   obtain⟨ys,k1,k2,k3⟩:=ziF _ 0 h3;exact⟨ys,k1,by rw[k3,bg],.inr ⟨g,h1,h2,λj u hu=>by have:=k2 j u hu;rwa [uJ]at this⟩⟩
 obtain⟨ys,hys,hyl,hyc⟩:=ao;rw[ch,hY,cI,bg,br]
 obtain⟨W0,ai⟩:∃W,w.alloc (.cells #[.int .i64 (kd:Nat),.string Y,.bool td,.int .i64 K,.string X,.int .i64 Z,.slice A0 m q,.slice KA kn kc,.slice LA ln lc] 48)=W:=⟨_,rfl⟩;have ax:Below w.heap.size w W0:=ai▸(ua _ w).alloc (tV _) _;have eI:w.heap.size+1<=W0.heap.size/\W0.heap.size<=w.heap.size+1:=by rw[<-ai];simp
 have aa:Blk W0 w.heap.size 48 #[.int .i64 (kd:Nat),.string Y,.bool td,.int .i64 K,.string X,.int .i64 Z,.slice A0 m q,.slice KA kn kc,.slice LA ln lc]:=ai▸tW _ _;have bM:=wJ ax;have bc:=wJ aa;have eo:=wJ bI;have HS:=wJ hS;have fT:=wJ br;have fG:=wJ bg;have jR:=wJ (row_one _ _ hys);have HYC:Hid (∀W,Below w.heap.size w W->(kn=0\/∃g,KA=some ⟨g,0,none⟩/\∀j u,ys[j]?=some u->W.cell? ⟨g,j,none⟩=some u)):=wJ λW hb=>hyc.imp id λ⟨g,h1,h2,h3⟩=>⟨g,h1,λj u hu=>(hb.cell (p:=⟨g,j,none⟩) (hS g h2)).trans (h3 j u hu)⟩;have HYS:=wJ hys;have HYL:=wJ hyl;have iQ:kn<=2:=by rw[<-bg];cases e <;> simp[zac]
 have nr:ln<=500000:=by omega
 have kN:=wJ dW;obtain⟨⟨f0,f1,f2,f3,f4,f5,f6,f7,f8⟩,-,cU⟩:=zab aa;clear bI hS bg br ch hY cI hv ax aa ow hys hyl hyc dW aG;unfold InP;rw[kN.out]
 go_enter Tryz.func51,Tryz.ntmps51
 go_wp2_with (at_builtin;refine zco rfl (.tmp 5) (.tmp 7) 45 rfl W0.heap.size 48 i0 _ 9 136 Tryz.underlying45 bJ bO bz bE rfl (by decide) (.slice (some ⟨W0.heap.size,0,none⟩) 0 0) 0 [] KA kn kc ys rfl rfl ⟨by simp,.inr ⟨W0.heap.size,0,#[],rfl,tV _,tW _ _,tV _,by unfold maxLen;omega,by simp,by simp⟩⟩ HYL.out (HYC.out _ (bM.out.alloc (by omega) _)) jR.out (by unfold maxLen;omega) (by omega) (by simp) ?_;intro A2 c2 w2 aY aA;have cj:=wJ aY;have ar:=wJ (((ua _ W0).alloc (tV _) (.cells #[] 48)).trans aA);clear aY aA)
 have hz2':=ar.out.size;have be:R8w pcE (λg=>g<w.heap.size) W0.heap.size 48 w2 (zac e++((zad e).take 0).map alB) (.slice A2 kn c2):=by
  rw[vW,wh,uW]
  refine⟨ys,?_,RowG.keep (λg hg=>.inl hg) (λg hg=>(ar.out.block g (by omega)).trans (bM.out.block g hg)) _ _ (RowG.keep (S:=S) (λg hg=>HS.out g hg) (λ_ _=>rfl) _ _ HYS.out)⟩;have:=cj.out;rw[vC,uJ]at this
  rw[fG.out]
  exact this
 have ey:=wJ be;clear be f0 f1 f2 f3 f4 f5 f6 f7 f8 cj;go_loopg [3,4] ln (λgg vo vi wr=>∃(j n':Nat) (A:Option Addr) (c:Nat),gg=ln-j/\vo=.slice A n' c/\vi=.int .i64 (j:Nat)/\j<=ln/\n'<=kn+j/\Hid (n'=(zac e++((zad e).take j).map alB).length)/\Hid (R8w pcE (λg=>g<w.heap.size) W0.heap.size 48 wr (zac e++((zad e).take j).map alB) (.slice A n' c))/\Hid (Below W0.heap.size W0 wr))
 case atStart=>exact⟨0,kn,A2,c2,rfl,rfl,rfl,by omega,by omega,wJ (by simp[fG.out]),ey,ar⟩
 case round =>
  obtain⟨j,n',A,c,rfl,rfl,rfl,hj,hn'',lC,hR,hB⟩:=hrel;have dw:=hB.out.size;obtain⟨⟨f0,f1,f2,f3,f4,f5,f6,f7,f8⟩,-,ax⟩:=zab (bc.out.below hB.out (by omega));by_cases ah:j<ln
  ·obtain⟨x,hx⟩:∃x,(zad e)[j]?=some x:=⟨_,ug (by rw[fT.out];exact ah)⟩
   obtain⟨g,rfl,bh,aH⟩:=eo.out.alt j x hx;have an:∀g,S g->wr.heap[g]?=w.heap[g]?:=λg hg=>(hB.out.block g (by have:=HS.out g hg;omega)).trans (bM.out.block g (HS.out g hg));obtain⟨xc,V,vn,vc,-,-,bQ⟩:=(AlIn.keep (λ_ h=>h) an x g _ (an g bh) aH).cells;obtain⟨k1,x1,t1,K1,X1,Z1,B1,m1,q1,cE,cz,cA,cD,cw,cy,c0,c1,c2,c3,c4,c5,c6,c7,c8,aq⟩:=bQ.cells;have aV:=zaj c0;have iw:(0:Int)<=(j:Int):=by omega
   have gV:(j:Int)<(ln:Int):=by omega
   obtain⟨vs,ae,ao⟩:=hR.out;rw[<-lC.out]at ae
   replace ae:wr.ownsRow W0.heap.size 48 9 (.slice A n' c) n' vs:=ae;have aM:=wJ ae;have av:=wJ ao;have ma:=wJ (ae.alloc (.cells #[.int .i64 k1,.string x1,.bool t1,.int .i64 K1,.string X1,.int .i64 Z1,.slice B1 m1 q1,.slice cE cz cA,.slice cD cw cy] 48));have bD:Hid (pcE.Cs (λg=>g<w.heap.size) wr (alB x) [.int .i64 k1,.string x1,.bool t1,.int .i64 K1,.string X1,.int .i64 Z1,.slice B1 m1 q1,.slice cE cz cA,.slice cD cw cy]):=wJ ((zdC (cs:=[.int .i64 k1,.string x1,.bool t1,.int .i64 K1,.string X1,.int .i64 Z1,.slice B1 m1 q1,.slice cE cz cA,.slice cD cw cy])).1 (aq.keep (S':=λg=>g<w.heap.size) (λg hg=>HS.out g hg) (λ_ _=>rfl)));have HX:Hid ((zac e++((zad e).take (j+1)).map alB)=(zac e++((zad e).take j).map alB)++[alB x]):=wJ (by rw[uL,hx];simp);clear hx bh aH an bQ aq ae ao hR;go_wp2_with (at_builtin;refine uP _ rfl (.tmp 16) (.tmp 23) 45 rfl W0.heap.size 48 i0 _ 9 136 Tryz.underlying45 bJ bO bz bE rfl (by decide) _ n' vs rfl ma.out ⟨wr.heap.size,0,none⟩ 1 1 [.int .i64 k1,.string x1,.bool t1,.int .i64 K1,.string X1,.int .i64 Z1,.slice B1 m1 q1,.slice cE cz cA,.slice cD cw cy] rfl rfl (zao _ _ _ _ rfl) (by intro u hu;simp at hu;rcases hu with rfl|rfl|rfl|rfl|rfl|rfl|rfl|rfl|rfl <;> rfl) (by unfold maxLen;omega) (by omega) (by simp;omega) ?_;intro v2 w5 aI ab _ cv;obtain⟨A5,c5,rfl⟩:=zat aI;have eU:=wJ aI;have cQ:=wJ ab;have fZ:=wJ cv;clear aI ab cv)
   have ee:=cQ.out.size;simp at ee;have bY:=aM.out.lt;go_roundg (ln-(j+1))
   case measure=>omega
   case rel =>
    refine⟨j+1,n'+1,A5,c5,rfl,rfl,by go_num,by omega,by omega,wJ (by rw[HX.out,uf,<-lC.out];rfl),wJ ?_,wJ (((hB.out.alloc dw _).grown cQ.out (by simp;omega) (λk hk=>by have:=bY k hk;omega)))⟩;rw[HX.out]
    refine R8w.next (w:=wr) (w2:=wr.alloc (.cells #[.int .i64 k1,.string x1,.bool t1,.int .i64 K1,.string X1,.int .i64 Z1,.slice B1 m1 q1,.slice cE cz cA,.slice cD cw cy] 48)) (λg hg=>by omega) (by rw[<-lC.out];exact aM.out) av.out (pcE.keep (λg hg=>.inl hg) (λg hg=>uc _ _ _ (by omega)) bD.out) dw ((ua _ wr).alloc (tV _) _) (by rw[<-lC.out];exact eU.out) cQ.out fZ.out
  ·have kY:j=ln:=by omega
   subst kY;have HF:Hid (n'=kn+j/\LstG pcE (λg=>g<wr.heap.size) wr (parts e) A):=wJ (by
    obtain⟨h1,-,h2⟩:=hR.out.lst;rw[ur (by rw[fT.out];exact tV _)]at h1 h2
    refine⟨by rw[h1];simp[fG.out,fT.out],?_⟩;exact h2.keep (λg hg=>by rcases hg with h|h <;> omega) (λ_ _=>rfl))
   clear hR;obtain⟨rfl,hL⟩:=HF.out;clear HF;go_wp2_with fail
   go_ret
   exact⟨A,c,rfl,hL,bM.out.trans (hB.out.mono (by omega))⟩
end Go.Proofs.YtknkclefoiohpaaGreatDoor
namespace Go.Proofs.YtknkclefoiohpaaGreatDoor
open Go.RowKit Lx Tx Sx
set_option maxRecDepth 100000
theorem LstG.exAt {S:Nat->Prop} {w:World} {l:List Ex} {A:Option Addr}(h:LstG pcE S w l A)(i:Nat)(x:Ex)(hx:l[i]?=some x):∃g,A=some ⟨g,0,none⟩/\S g/\ExAt S w x g (i*9):=by
 obtain⟨hi,rfl⟩:=uj.1 hx;obtain⟨g,h1,h2,h3⟩:=h (by intro e;rw[e]at hi;simp at hi);have:=ExsAt.at_ l g 0 i hi ((zlm l g 0).1 h3);rw[uJ]at this
 exact⟨g,h1,h2,this⟩
theorem zex(e:Ex)(i:Nat)(x:Ex)(hx:(parts e)[i]?=some x):x.size<e.size:=by
 rw[zbv e]
 have:x.size<=((parts e).map Ex.size).sum:=by
  have hm:=uM hx;generalize parts e=l at hm;induction l with
  |nil=>cases hm
  |cons a r ih =>
   rw[vI,List.sum_cons]
   rcases uT.1 hm with rfl|hm
   ·omega
   ·have:=ih hm;omega
 omega
theorem zg4(e:Ex):(parts e).length<=e.size:=by
 rw[zbv e]
 have:∀l:List Ex,l.length<=(l.map Ex.size).sum:=by
  intro l;induction l with
  |nil=>exact tV _
  |cons a r ih=>have:1<=a.size:=by { cases a <;> simp only[Ex.size] <;> omega };rw[vI,List.sum_cons,ui];omega
 have:=this (parts e);omega
def dpI(e:Ex)(i:Nat):Nat:=(((parts e).take i).map Ex.depth).foldl max 0
theorem zmk(e:Ex)(i:Nat)(x:Ex)(hx:(parts e)[i]?=some x):dpI e (i+1)=max (dpI e i) x.depth:=by
 unfold dpI;rw[uL,hx]
 simp
theorem zef:∀(l:List Nat)(a:Nat),a<=l.foldl max a
 |[],_=>tV _
 |x::r,a=>by have:=zef r (max a x);rw[vF];omega
theorem zpd(e:Ex)(i:Nat):dpI e i+1<=e.depth:=by
 have h1:e.depth=1+((parts e).map Ex.depth).foldl max 0:=zds e;have h2:((parts e).map Ex.depth).foldl max 0=(((parts e).drop i).map Ex.depth).foldl max (dpI e i):=by
  rw[dpI,<-vP,<-wb,vQ]
 have:=zef (((parts e).drop i).map Ex.depth) (dpI e i);omega
theorem zn6(e:Ex)(n:Nat)(h:n=(parts e).length):e.depth=dpI e n+1:=by
 rw[zds,dpI,h,List.take_length]
 omega
theorem zml {S:Nat->Prop} {w:World} {e:Ex} {v:Value}(h:RdX S w e v):∃(kd:Int)(Y:ByteArray)(td:Bool)(K:Int)(X:ByteArray)(Z:Int)(A0:Option Addr)(m q:Nat)(KA:Option Addr)(kn kc:Nat)(LA:Option Addr)(ln lc:Nat),v=.agg #[.int .i64 kd,.string Y,.bool td,.int .i64 K,.string X,.int .i64 Z,.slice A0 m q,.slice KA kn kc,.slice LA ln lc]:=by
 obtain⟨K,X,Z,A0,m,q,KA,kc,LA,lc,rfl,-⟩:=h.shape;exact⟨_,_,_,K,X,Z,A0,m,q,KA,_,kc,LA,_,lc,rfl⟩
theorem zmm(n:Nat):∀(e:Ex)(S:Nat->Prop)(v:Value)(w:World),e.size<=n->n<=400000->RdX S w e v->(∀g,S g->g<w.heap.size) ->
  Calls Tryz.prog 19 #[v] w λen w'=>en=.returned (.int .i64 (e.depth:Nat))/\Below w.heap.size w w':=by
 induction n with
 |zero=>intro e S v w h;have:1<=e.size:=by { cases e <;> simp only[Ex.size] <;> omega };omega
 |succ n ih =>
  intro e S v w hn h5 hv hS;have dW:=zg4 e;obtain⟨kd,Y,td,K,X,Z,A0,m,q,KA,kn,kc,LA,ln,lc,rfl⟩:=zml hv;obtain⟨W0,ai⟩:∃W,w.alloc (.cells #[.int .i64 kd,.string Y,.bool td,.int .i64 K,.string X,.int .i64 Z,.slice A0 m q,.slice KA kn kc,.slice LA ln lc] 48)=W:=⟨_,rfl⟩;have ax:Below w.heap.size w W0:=ai▸(ua _ w).alloc (tV _) _;have eI:w.heap.size+1<=W0.heap.size/\W0.heap.size<=w.heap.size+1:=by rw[<-ai];simp
  have aa:Blk W0 w.heap.size 48 #[.int .i64 kd,.string Y,.bool td,.int .i64 K,.string X,.int .i64 Z,.slice A0 m q,.slice KA kn kc,.slice LA ln lc]:=ai▸tW _ _;have eo:=wJ (zg3 e S _ W0 (hv.keep (λ_ h=>h) (λg hg=>ax.block g (hS g hg))) (λg hg=>by have:=hS g hg;omega) (by omega));obtain⟨L,hL⟩:∃L,parts e=L:=⟨_,rfl⟩;obtain⟨pn,dP⟩:∃k,L.length=k:=⟨_,rfl⟩;unfold InP at eo;rw[hL,dP]at eo
  rw[hL,dP]at dW
  have hpn9:pn<=400000:=by omega
  have bM:=wJ ax;have bq:=wJ ih;have HN:=wJ (And.intro hn h5);have HL:=wJ hL;have jP:=wJ dP;obtain⟨R,hR⟩:∃R,e.depth=R:=⟨_,rfl⟩;have HR:=wJ hR;have hR6:R<=400001:=by have:=zbb e;omega
  have hDI:∀i,i<=pn->dpI e i<=400001:=λi _=>by have:=zpd e i;omega
  have HDI:=wJ hDI;obtain⟨⟨f0,f1,f2,f3,f4,f5,f6,f7,f8⟩,-,cU⟩:=zab aa;rw[hR]
  clear hv hS hn h5 ih hL dP ax aa hR hDI;go_enter Tryz.func19,Tryz.ntmps19
  go_wp2_with fail
  try rw[ai]
  refine eo.out.mono ?_;rintro en w2 ⟨A,c,rfl,hl,b2⟩;have bo:=b2.size;have HLL:=wJ hl;have ar:=wJ (bM.out.trans (b2.mono (by omega)));clear hl b2 eo ai f0 f1 f2 f3 f4 f5 f6 f7 f8;go_wp2_with fail
  go_loopg [3,5] pn (λgg va vi wr=>∃i a:Nat,gg=pn-i/\va=.int .i64 a/\vi=.int .i64 (i:Nat)/\i<=pn/\a<=400001/\Hid (dpI e i=a)/\Hid (Below w2.heap.size w2 wr))
  case atStart=>exact⟨0,0,rfl,rfl,rfl,by omega,by omega,wJ rfl,wJ (ua _ _)⟩
  case round =>
   obtain⟨i,a,rfl,rfl,rfl,hi,ha,hd,hB⟩:=hrel;have dw:=hB.out.size;by_cases ah:i<pn
   ·obtain⟨x,hx⟩:∃x,L[i]?=some x:=⟨_,ug (by rw[jP.out];exact ah)⟩
    obtain⟨g,rfl,bh,aH⟩:=HLL.out.exAt i x hx;have an:∀g,g<w2.heap.size->wr.heap[g]?=w2.heap[g]?:=λg hg=>hB.out.block g hg;obtain⟨k1,x1,t1,K1,X1,Z1,B1,m1,q1,cE,cz,cA,cD,cw,cy,c0,c1,c2,c3,c4,c5,c6,c7,c8,aq⟩:=(aH.keep (λ_ h=>h) an (an g bh)).cells;have aV:=zaj c0;have iw:(0:Int)<=(i:Int):=by omega
    have gV:(i:Int)<(pn:Int):=by omega
    have pd:(parts e)[i]?=some x:=by rw[HL.out];exact hx
    have ly:=zex e i x pd;have bC:=bq.out x _ _ wr (by have:=HN.out.1;omega) (by have:=HN.out.2;omega) aq (λg hg=>by omega);obtain⟨D,hD⟩:∃D,x.depth=D:=⟨_,rfl⟩;have ey:Hid (dpI e (i+1)=max a D):=wJ (by rw[zmk e i x pd,hd.out,hD]);have hD4:max a D<=400001:=by rw[<-ey.out];exact HDI.out _ (by omega)
    have hDD:D<=400001:=by omega
    rw[hD]at bC
    have ak:=wJ bC;clear hx bh aH an aq pd ly bC hD;go_wp2_with (go_at_call 19;refine ak.out.mono ?_;rintro en w3 ⟨rfl,b3⟩)
    all_goals
     have bU:=wJ (hB.out.trans (b3.mono dw));go_roundg (pn-(i+1))
     case measure=>omega
     case rel=>exact⟨i+1,max a D,rfl,uC (Value.int .i64) (by omega),by go_num,by omega,hD4,ey,bU⟩
   ·have hip:i=pn:=by omega
    subst hip;have hr:Hid (R=a+1):=wJ (by rw[<-HR.out,zn6 e i (by rw[HL.out,jP.out]),hd.out]);go_wp2_with fail
    go_ret
    exact⟨by rw[hr.out];rfl,ar.out.trans (hB.out.mono (by have:=ar.out.size;omega))⟩
set_option maxRecDepth 100000
theorem zms(b o:List Nm)(e:Ex)(i:Nat)(x:Ex)(hx:(zac e)[i]?=some x)(bb:List Nm)(dY:bb=b++bK e i):frAD bb (addA o (but b (frK e i))) x=addA o (but b (frK e (i+1))):=by
 unfold frAD frK;rw[kF_snoc _ e i x hx,zfr,zaU,dY,ziV]
theorem zmt(b o:List Nm)(e:Ex)(i:Nat)(a:Al)(ha:(zad e)[i]?=some a):frAD (b++alVs a) (addA o (but b (frK e (zac e).length++((zad e).take i).flatMap fr1))) (alB a)=addA o (but b (frK e (zac e).length++((zad e).take (i+1)).flatMap fr1)):=by
 unfold frAD;rw[zb9 fr1 _ i a ha,<-uy,zfr b (_++_) (fr1 a),zaU,zpf,ziV]
theorem zeh(b o l:List Nm):(addA o (but b l)).length<=o.length+l.length:=by
 have:=zbl (o:=o) (l:=but b l);have:=zbK b l;omega
theorem zg6(n:Nat)(IH:FrOK n)(e:Ex)(ny:kdE e≠1)(S:Nat->Prop)(v vb vo:Value)(b o:List Nm)(w:World)(aG:e.size<=n+1)(hv:RdX S w e v)(hS:∀g,S g->g<w.heap.size)(hb:RowV w vb (Go.Proofs.YtknkclefoiohpaaGreatDoor.strV b))(ho:RowV w vo (Go.Proofs.YtknkclefoiohpaaGreatDoor.strV o))(aC:b.length+e.wt<=500000)(gZ:o.length+e.wt<=500000):Calls Tryz.prog 122 #[v,vb,vo] w (FrR b o e w):=by
 obtain⟨i0,bJ,bO,bz,bE⟩:=vz zb1;have gW:(Value.string ⟨#[]⟩).cells.size=1:=rfl;obtain⟨K,X,Z,A0,m,q,KA,kc,LA,lc,rfl,bI⟩:=hv.shape;obtain⟨kd,ch⟩:∃x,kdE e=x:=⟨_,rfl⟩;obtain⟨Y,hY⟩:∃Y:ByteArray,⟨(nmE e).toArray⟩=Y:=⟨_,rfl⟩;obtain⟨td,cI⟩:∃x,toE e=x:=⟨_,rfl⟩;obtain⟨kn,bg⟩:∃x,(zac e).length=x:=⟨_,rfl⟩;obtain⟨ln,br⟩:∃x,(zad e).length=x:=⟨_,rfl⟩;have d1:((kd:Int)==1)=false:=by rw[<-ch];exact(zcP e 1).trans (ux ny)
 obtain⟨q3,gE⟩:∃q,decide (kdE e=3)=q:=⟨_,rfl⟩;obtain⟨q5,jc⟩:∃q,decide (kdE e=5)=q:=⟨_,rfl⟩;have d3:((kd:Int)==3)=q3:=by rw[<-ch,<-gE];exact zcP e 3
 have d5:((kd:Int)==5)=q5:=by rw[<-ch,<-jc];exact zcP e 5
 have aE:Hid (∀i,bK e i=if(q3 ||(q5&&decide (i=1)))=true then[Y.data.toList] else[]):=wJ λi=>by rw[zpQ,gE,jc,<-hY]
 rw[ch,hY,cI,bg,br]
 obtain⟨W0,ai⟩:∃W,w.alloc (.cells #[.int .i64 (kd:Nat),.string Y,.bool td,.int .i64 K,.string X,.int .i64 Z,.slice A0 m q,.slice KA kn kc,.slice LA ln lc] 48)=W:=⟨_,rfl⟩;have ax:Below w.heap.size w W0:=ai▸(ua _ w).alloc (tV _) _;have eI:W0.heap.size=w.heap.size+1:=by rw[<-ai];simp
 have aa:Blk W0 w.heap.size 48 #[.int .i64 (kd:Nat),.string Y,.bool td,.int .i64 K,.string X,.int .i64 Z,.slice A0 m q,.slice KA kn kc,.slice LA ln lc]:=ai▸tW _ _;have f0:W0.cell? ⟨w.heap.size,0,none⟩=some (.int .i64 (kd:Nat)):=aa.cell 0;have HB:=wJ (hb.below ax);have HO:=wJ (ho.below ax);have bM:=wJ ax;have bc:=wJ aa;have eo:=wJ bI;have HS:=wJ hS;have fG:=wJ bg;have fT:=wJ br;have bq:=wJ IH;have HN:=wJ (And.intro aG (And.intro aC gZ));have ri:1<=e.wt:=wt_pos e;have iQ:kn<=2:=by rw[<-bg];cases e <;> simp[zac]
 have nr:ln<=500000:=by
  have:∀l:List Al,l.length<=wtA l:=λl=>by
   induction l with
   |nil=>exact vK _
   |cons a r ih=>cases a;simp only[wtA,Al.wt,ui];omega
  rw[<-br]
  cases e with
  |cs e l=>have:=this l;simp only[zad,Ex.wt]at *;omega
  |_=>simp[zad]
 have mu:=wJ (zpe e ny);clear hb ho bI hS bg br IH aG aC gZ ch ny gE jc hY cI hv ax aa;unfold FrR;go_enter Tryz.func122,Tryz.ntmps122
 go_wp2_with fail
 try rw[ai]
 clear ai f0;go_loopg [2,8] kn (λgg vu vi wr=>∃i:Nat,gg=kn-i/\vi=.int .i64 (i:Nat)/\i<=kn/\Hid (RowV wr vu (Go.Proofs.YtknkclefoiohpaaGreatDoor.strV (addA o (but b (frK e i)))))/\Hid (Below W0.heap.size W0 wr))
 case atStart=>exact⟨0,rfl,rfl,by omega,wJ (by show RowV W0 vo (Go.Proofs.YtknkclefoiohpaaGreatDoor.strV (addA o (but b [])));exact HO.out),wJ (ua _ _)⟩
 case round =>
  obtain⟨i,rfl,rfl,hi,hU,eT⟩:=hrel;have dw:=eT.out.size;obtain⟨⟨f0,f1,f2,f3,f4,f5,f6,f7,f8⟩,-,ax⟩:=zab (bc.out.below eT.out (by omega));by_cases ah:i<kn
  ·obtain⟨x,hx⟩:∃x,(zac e)[i]?=some x:=⟨_,ug (by rw[fG.out];exact ah)⟩
   obtain⟨g,rfl,bh,aH⟩:=eo.out.kid i x hx;have an:∀g,S g->wr.heap[g]?=w.heap[g]?:=λg hg=>(eT.out.block g (by have:=HS.out g hg;omega)).trans (bM.out.block g (HS.out g hg));obtain⟨k1,x1,t1,K1,X1,Z1,B1,m1,q1,cE,cz,cA,cD,cw,cy,c0,c1,c2,c3,c4,c5,c6,c7,c8,aq⟩:=(aH.keep (λ_ h=>h) an (an g bh)).cells;have aV:=zaj c0;obtain⟨jY,lu⟩:=zg5 fr (λi k=>but (bK e i) (fr k)) (λi k=>zbK _ _) zcv e i x hx;have iw:(0:Int)<=(i:Int):=by omega
   have gV:(i:Int)<(kn:Int):=by omega
   have ak:Hid (∀(W:World) (bb:List Nm) (mZ:Value),bb=b++bK e i->Below wr.heap.size wr W->RowV W mZ (Go.Proofs.YtknkclefoiohpaaGreatDoor.strV bb)->Calls Tryz.prog 122 #[.agg #[.int .i64 k1,.string x1,.bool t1,.int .i64 K1,.string X1,.int .i64 Z1,.slice B1 m1 q1,.slice cE cz cA,.slice cD cw cy],mZ,u2] W (λen w'=>∃v',en=.returned v'/\RowV w' v' (Go.Proofs.YtknkclefoiohpaaGreatDoor.strV (addA o (but b (frK e (i+1)))))/\Below W.heap.size W w')):=wJ λW bb mZ dY eR ao=>by
    have h1:=bq.out x S _ mZ u2 bb (addA o (but b (frK e i))) W (by have:=HN.out.1;omega) (aq.keep (λ_ h=>h) (λg hg=>eR.block g (by have:=HS.out g hg;omega))) (λg hg=>by have:=HS.out g hg;have:=eR.size;omega) ao (hU.out.below eR)
     (by rw[dY,uf];have:=HN.out.2.1;unfold frK at *;omega) (by have:=zeh b o (frK e i);have:=HN.out.2.2;unfold frK at *;omega)
    unfold FrR at h1;rwa [zms b o e i x hx bb dY]at h1
   have ed:=wJ (HB.out.below eT.out);obtain⟨qi,hqi⟩:∃q,decide (i=1)=q:=⟨_,rfl⟩;have di:((i:Int)==1)=qi:=by
    rw[<-hqi]
    by_cases h:i=1
    ·rw[h];rfl
    ·rw[ux h,uo];omega
   have nY:Hid (bK e i=if(q3 ||(q5&&qi))=true then[Y.data.toList] else[]):=wJ (by rw[aE.out i,hqi]);clear hx bh aH an aq jY lu hqi aE;have jS:Hid (b.length<=500000):=wJ (by have:=HN.out.2.1;omega);have hw:q3=true\/(q3=false/\q5=true/\qi=true)\/(q3=false/\q5=false)\/(q3=false/\q5=true/\qi=false):=by
    cases q3 <;> cases q5 <;> cases qi <;> simp
   rcases hw with rfl|⟨rfl,rfl,rfl⟩|⟨rfl,rfl⟩|⟨rfl,rfl,rfl⟩
   ·go_wp2_with fail
    go_region_held3 (λW:World=>W.cell? ⟨w.heap.size,1,none⟩=some (.string Y)) (first|exact f1|go_keep|(exact(eS.cell (p:=⟨w.heap.size,1,none⟩) ax).trans (by assumption))|(exact(aA.cell (p:=⟨w.heap.size,1,none⟩) ax).trans (by assumption)))
     (first|((refine za4 (by rfl) _ _ _ (by rfl) wr.heap.size 9 i0 _ Tryz.underlying56 bJ bO bz bE gW _ vb 0 [] b (by rfl) (by rfl) (zcK (by first|exact alloc_at _ _ _ (by simp)|exact zb4 _ _ _ _ (alloc_at _ _ _ (by simp))) (by first|omega|(simp;done)|(simp;omega))) (ed.out.below (by repeat first|exact ua _ _|exact B2.out|exact B3.out|(refine uN ?_ (by first|omega|(simp;done)|(simp;omega)) _)|(refine uQ ?_))) (by have:=jS.out;omega) (by first|omega|(simp;done)|(simp;omega)) b.length (by omega) b (by simp) ?_);intro A2 e2 w2 aY aA bH;have B2:Hid (Below wr.heap.size wr w2):=wJ (Below.trans (by repeat first|exact ua _ _|exact B2.out|exact B3.out|(refine uN ?_ (by first|omega|(simp;done)|(simp;omega)) _)|(refine uQ ?_)) aA);have im:=wJ aY;have lv:=B2.out.size;first|(have sV:Hid (w2.heap[wr.heap.size+1]?=some (.cells #[.string Y] 9 (0,0))):=wJ ((bH.block _ (by first|omega|(simp;done)|(simp;omega)) (by simp[Value.ownBlock])).trans (alloc_at _ _ _ (by simp))))|(have sV:Hid (w2.heap[wr.heap.size]?=some (.cells #[.string Y] 9 (0,0))):=wJ ((bH.block _ (by first|omega|(simp;done)|(simp;omega)) (by simp[Value.ownBlock])).trans (zb4 _ _ _ _ (alloc_at _ _ _ (by simp)))))|skip;clear aY)|((refine za4 (by rfl) _ _ _ (by rfl) wr.heap.size 9 i0 _ Tryz.underlying56 bJ bO bz bE gW _ _ b.length (Go.Proofs.YtknkclefoiohpaaGreatDoor.strV b) [Y.data.toList] (by rfl) (by rfl) (by first|exact im.out|exact own_below im.out ((ua _ _).alloc (tV _) _)) (RowV.one (by first|exact sV.out|exact alloc_at _ _ _ (by simp))) (by have:=jS.out;simp;omega) (by first|omega|(simp;done)|(simp;omega)) (b.length+1) (by simp) (b++[Y.data.toList]) (by rw[zdK]) ?_);intro A3 e3 w3 aj eS eP;have B3:Hid (Below wr.heap.size wr w3):=wJ (Below.trans (by repeat first|exact ua _ _|exact B2.out|exact B3.out|(refine uN ?_ (by first|omega|(simp;done)|(simp;omega)) _)|(refine uQ ?_)) eS);have jM:=wJ aj;clear aj))
    all_goals
     replace f7:=(B3.out.cell (p:=⟨w.heap.size,7,none⟩) ax).trans f7;replace c0:=(B3.out.cell (p:=⟨g,i*9,none⟩) aV).trans c0;replace c1:=(B3.out.cell (p:=⟨g,i*9+1,none⟩) aV).trans c1;replace c2:=(B3.out.cell (p:=⟨g,i*9+2,none⟩) aV).trans c2;replace c3:=(B3.out.cell (p:=⟨g,i*9+3,none⟩) aV).trans c3;replace c4:=(B3.out.cell (p:=⟨g,i*9+4,none⟩) aV).trans c4;replace c5:=(B3.out.cell (p:=⟨g,i*9+5,none⟩) aV).trans c5;replace c6:=(B3.out.cell (p:=⟨g,i*9+6,none⟩) aV).trans c6;replace c7:=(B3.out.cell (p:=⟨g,i*9+7,none⟩) aV).trans c7;replace c8:=(B3.out.cell (p:=⟨g,i*9+8,none⟩) aV).trans c8;have fL:=B3.out.size;go_wp2_with fail
     refine(ak.out _ (b++[Y.data.toList]) _ (by rw[nY.out];rfl) B3.out (RowV.own jM.out)).mono ?_;rintro e' w4 ⟨v4,rfl,h4,b4⟩;have H4:=wJ h4;have bZ:=wJ (eT.out.trans ((B3.out.trans (b4.mono B3.out.size)).mono dw));clear h4 b4 ak;go_wp2_with fail
     go_roundg (kn-(i+1))
     case measure=>omega
     case rel=>exact⟨i+1,rfl,by go_num,by omega,H4,bZ⟩
   ·go_wp2_with fail
    go_region_held3 (λW:World=>W.cell? ⟨w.heap.size,1,none⟩=some (.string Y)) (first|exact f1|go_keep|(exact(eS.cell (p:=⟨w.heap.size,1,none⟩) ax).trans (by assumption))|(exact(aA.cell (p:=⟨w.heap.size,1,none⟩) ax).trans (by assumption)))
     (first|((refine za4 (by rfl) _ _ _ (by rfl) wr.heap.size 9 i0 _ Tryz.underlying56 bJ bO bz bE gW _ vb 0 [] b (by rfl) (by rfl) (zcK (by first|exact alloc_at _ _ _ (by simp)|exact zb4 _ _ _ _ (alloc_at _ _ _ (by simp))) (by first|omega|(simp;done)|(simp;omega))) (ed.out.below (by repeat first|exact ua _ _|exact B2.out|exact B3.out|(refine uN ?_ (by first|omega|(simp;done)|(simp;omega)) _)|(refine uQ ?_))) (by have:=jS.out;omega) (by first|omega|(simp;done)|(simp;omega)) b.length (by omega) b (by simp) ?_);intro A2 e2 w2 aY aA bH;have B2:Hid (Below wr.heap.size wr w2):=wJ (Below.trans (by repeat first|exact ua _ _|exact B2.out|exact B3.out|(refine uN ?_ (by first|omega|(simp;done)|(simp;omega)) _)|(refine uQ ?_)) aA);have im:=wJ aY;have lv:=B2.out.size;first|(have sV:Hid (w2.heap[wr.heap.size+1]?=some (.cells #[.string Y] 9 (0,0))):=wJ ((bH.block _ (by first|omega|(simp;done)|(simp;omega)) (by simp[Value.ownBlock])).trans (alloc_at _ _ _ (by simp))))|(have sV:Hid (w2.heap[wr.heap.size]?=some (.cells #[.string Y] 9 (0,0))):=wJ ((bH.block _ (by first|omega|(simp;done)|(simp;omega)) (by simp[Value.ownBlock])).trans (zb4 _ _ _ _ (alloc_at _ _ _ (by simp)))))|skip;clear aY)|((refine za4 (by rfl) _ _ _ (by rfl) wr.heap.size 9 i0 _ Tryz.underlying56 bJ bO bz bE gW _ _ b.length (Go.Proofs.YtknkclefoiohpaaGreatDoor.strV b) [Y.data.toList] (by rfl) (by rfl) (by first|exact im.out|exact own_below im.out ((ua _ _).alloc (tV _) _)) (RowV.one (by first|exact sV.out|exact alloc_at _ _ _ (by simp))) (by have:=jS.out;simp;omega) (by first|omega|(simp;done)|(simp;omega)) (b.length+1) (by simp) (b++[Y.data.toList]) (by rw[zdK]) ?_);intro A3 e3 w3 aj eS eP;have B3:Hid (Below wr.heap.size wr w3):=wJ (Below.trans (by repeat first|exact ua _ _|exact B2.out|exact B3.out|(refine uN ?_ (by first|omega|(simp;done)|(simp;omega)) _)|(refine uQ ?_)) eS);have jM:=wJ aj;clear aj))
    all_goals
     replace f7:=(B3.out.cell (p:=⟨w.heap.size,7,none⟩) ax).trans f7;replace c0:=(B3.out.cell (p:=⟨g,i*9,none⟩) aV).trans c0;replace c1:=(B3.out.cell (p:=⟨g,i*9+1,none⟩) aV).trans c1;replace c2:=(B3.out.cell (p:=⟨g,i*9+2,none⟩) aV).trans c2;replace c3:=(B3.out.cell (p:=⟨g,i*9+3,none⟩) aV).trans c3;replace c4:=(B3.out.cell (p:=⟨g,i*9+4,none⟩) aV).trans c4;replace c5:=(B3.out.cell (p:=⟨g,i*9+5,none⟩) aV).trans c5;replace c6:=(B3.out.cell (p:=⟨g,i*9+6,none⟩) aV).trans c6;replace c7:=(B3.out.cell (p:=⟨g,i*9+7,none⟩) aV).trans c7;replace c8:=(B3.out.cell (p:=⟨g,i*9+8,none⟩) aV).trans c8;have fL:=B3.out.size;go_wp2_with fail
     refine(ak.out _ (b++[Y.data.toList]) _ (by rw[nY.out];rfl) B3.out (RowV.own jM.out)).mono ?_;rintro e' w4 ⟨v4,rfl,h4,b4⟩;have H4:=wJ h4;have bZ:=wJ (eT.out.trans ((B3.out.trans (b4.mono B3.out.size)).mono dw));clear h4 b4 ak;go_wp2_with fail
     go_roundg (kn-(i+1))
     case measure=>omega
     case rel=>exact⟨i+1,rfl,by go_num,by omega,H4,bZ⟩
   ·skip
    go_wp2_with fail
    refine(ak.out wr b vb (by rw[nY.out];simp) (ua _ _) ed.out).mono ?_;rintro e' w2 ⟨v2,rfl,h2,b2⟩;have H2:=wJ h2;have ar:=wJ (eT.out.trans (b2.mono dw));clear h2 b2 ak;go_wp2_with fail
    go_roundg (kn-(i+1))
    case measure=>omega
    case rel=>exact⟨i+1,rfl,by go_num,by omega,H2,ar⟩
   ·skip
    go_wp2_with fail
    refine(ak.out wr b vb (by rw[nY.out];simp) (ua _ _) ed.out).mono ?_;rintro e' w2 ⟨v2,rfl,h2,b2⟩;have H2:=wJ h2;have ar:=wJ (eT.out.trans (b2.mono dw));clear h2 b2 ak;go_wp2_with fail
    go_roundg (kn-(i+1))
    case measure=>omega
    case rel=>exact⟨i+1,rfl,by go_num,by omega,H2,ar⟩
  ·have jg:i=kn:=by omega
   subst jg;clear f0 f1 f2 f3 f4 f5 f6;have tf:Hid (RowV wr u2 (Go.Proofs.YtknkclefoiohpaaGreatDoor.strV (addA o (but b (frK e (zac e).length++((zad e).take 0).flatMap fr1))))):=wJ (by rw[vW,vr,uW,fG.out];exact hU.out);clear hU;go_wp2_with fail
   go_loopg [2,10] ln (λgg vu vi wx=>∃j:Nat,gg=ln-j/\vi=.int .i64 (j:Nat)/\j<=ln/\Hid (RowV wx vu (Go.Proofs.YtknkclefoiohpaaGreatDoor.strV (addA o (but b (frK e (zac e).length++((zad e).take j).flatMap fr1)))))/\Hid (Below W0.heap.size W0 wx))
   case atStart=>exact⟨0,rfl,rfl,by omega,tf,eT⟩
   case round =>
    obtain⟨j,rfl,rfl,hj,hU,eh⟩:=hrel;have jx:=eh.out.size;have ax:w.heap.size<wr.heap.size:=by omega
    have f8:=(bc.out.below eh.out (by omega)).cell 8;replace f8:wr.cell? ⟨w.heap.size,8,none⟩=some (.slice LA ln lc):=f8;by_cases cg:j<ln
    ·obtain⟨x,hx⟩:∃x,(zad e)[j]?=some x:=⟨_,ug (by rw[fT.out];exact cg)⟩
     obtain⟨g,rfl,bh,aH⟩:=eo.out.alt j x hx;have an:∀g,S g->wr.heap[g]?=w.heap[g]?:=λg hg=>(eh.out.block g (by have:=HS.out g hg;omega)).trans (bM.out.block g (HS.out g hg));obtain⟨V,⟨vv,_⟩,-,a1,dv,bQ⟩:=AlIn.cellsV (AlIn.keep (λ_ h=>h) an x g _ (an g bh) aH);replace a1:wr.cell? ⟨g,j*11+1,none⟩=some (.slice V (alVs x).length vv):=a1;obtain⟨k1,x1,t1,K1,X1,Z1,B1,m1,q1,cE,cz,cA,cD,cw,cy,c0,c1,c2,c3,c4,c5,c6,c7,c8,aq⟩:=bQ.cells;have aV:=zaj c0;obtain⟨jY,lu⟩:=zfl fr (λi k=>but (bK e i) (fr k)) fr1 (λi k=>zbK _ _) zcv zkH e j x hx;have iw:(0:Int)<=(j:Int):=by omega
     have gV:(j:Int)<(ln:Int):=by omega
     have ak:Hid (∀(W:World) (mZ:Value),Below wr.heap.size wr W->RowV W mZ (Go.Proofs.YtknkclefoiohpaaGreatDoor.strV (b++alVs x))->Calls Tryz.prog 122 #[.agg #[.int .i64 k1,.string x1,.bool t1,.int .i64 K1,.string X1,.int .i64 Z1,.slice B1 m1 q1,.slice cE cz cA,.slice cD cw cy],mZ,u2] W (λen w'=>∃v',en=.returned v'/\RowV w' v' (Go.Proofs.YtknkclefoiohpaaGreatDoor.strV (addA o (but b (frK e (zac e).length++((zad e).take (j+1)).flatMap fr1))))/\Below W.heap.size W w')):=wJ λW mZ eR ao=>by
      have h1:=bq.out (alB x) S _ mZ u2 (b++alVs x) (addA o (but b (frK e (zac e).length++((zad e).take j).flatMap fr1))) W (by have:=HN.out.1;omega) (aq.keep (λ_ h=>h) (λg hg=>eR.block g (by have:=HS.out g hg;omega))) (λg hg=>by have:=HS.out g hg;have:=eR.size;omega) ao (hU.out.below eR)
       (by rw[uf];have:=HN.out.2.1;unfold frK at *;omega) (by have h5:=zeh b o (frK e (zac e).length++((zad e).take j).flatMap fr1);have:=HN.out.2.2;rw[uf]at h5;unfold frK at *;omega)
      unfold FrR at h1;rwa [zmt b o e j x hx]at h1
     have ed:=wJ (HB.out.below eh.out);have kj:=wJ (NmsIn.row dv (λg hg=>by have:=HS.out g hg;omega) vv);have jS:Hid (b.length+(alVs x).length<=500000):=wJ (by have:=HN.out.2.1;omega);obtain⟨vn,dU⟩:∃n,(alVs x).length=n:=⟨_,rfl⟩;obtain⟨vl,gl⟩:∃n,alVs x=n:=⟨_,rfl⟩;rw[gl]at dU ak kj jS
     rw[gl]at a1
     rw[dU]at a1 kj jS
     have jq:=wJ dU;clear hx bh aH an aq jY lu dv bQ dU gl;go_wp2_with fail
     go_region_held3 (λW:World=>W.cell? ⟨w.heap.size,8,none⟩=some (.slice (some ⟨g,0,none⟩) ln lc)/\W.cell? ⟨g,j*11+1,none⟩=some (.slice V vn vv)) (first|exact⟨f8,a1⟩|go_keep|(exact⟨(B3.out.cell (p:=⟨w.heap.size,8,none⟩) ax).trans f8,(B3.out.cell (p:=⟨g,j*11+1,none⟩) aV).trans a1⟩)|(exact⟨(B2.out.cell (p:=⟨w.heap.size,8,none⟩) ax).trans f8,(B2.out.cell (p:=⟨g,j*11+1,none⟩) aV).trans a1⟩))
      (first|((refine za4 (by rfl) _ _ _ (by rfl) wr.heap.size 9 i0 _ Tryz.underlying56 bJ bO bz bE gW _ vb 0 [] b (by rfl) (by rfl) (zcK (by first|exact alloc_at _ _ _ (by simp)|exact zb4 _ _ _ _ (alloc_at _ _ _ (by simp))) (by first|omega|(simp;done)|(simp;omega))) (ed.out.below (by repeat first|exact ua _ _|exact B2.out|exact B3.out|(refine uN ?_ (by first|omega|(simp;done)|(simp;omega)) _)|(refine uQ ?_))) (by have:=jS.out;omega) (by first|omega|(simp;done)|(simp;omega)) b.length (by omega) b (by simp) ?_);intro A2 e2 w2 aY aA bH;have B2:Hid (Below wr.heap.size wr w2):=wJ (Below.trans (by repeat first|exact ua _ _|exact B2.out|exact B3.out|(refine uN ?_ (by first|omega|(simp;done)|(simp;omega)) _)|(refine uQ ?_)) aA);have im:=wJ aY;have lv:=B2.out.size;clear aY)|((refine za4 (by rfl) _ _ _ (by rfl) wr.heap.size 9 i0 _ Tryz.underlying56 bJ bO bz bE gW _ _ b.length (Go.Proofs.YtknkclefoiohpaaGreatDoor.strV b) vl (by rfl) (by rfl) (by first|exact im.out|exact own_below im.out ((ua _ _).alloc (tV _) _)) (kj.out.below (by repeat first|exact ua _ _|exact B2.out|exact B3.out|(refine uN ?_ (by first|omega|(simp;done)|(simp;omega)) _)|(refine uQ ?_))) (by have:=jS.out;have:=jq.out;omega) (by first|omega|(simp;done)|(simp;omega)) (b.length+vn) (by rw[jq.out]) (b++vl) (by rw[zdK]) ?_);intro A3 e3 w3 aj eS eP;have B3:Hid (Below wr.heap.size wr w3):=wJ (Below.trans (by repeat first|exact ua _ _|exact B2.out|exact B3.out|(refine uN ?_ (by first|omega|(simp;done)|(simp;omega)) _)|(refine uQ ?_)) eS);have jM:=wJ aj;clear aj))
     all_goals
      replace f8:=(B3.out.cell (p:=⟨w.heap.size,8,none⟩) ax).trans f8;replace c0:=(B3.out.cell (p:=⟨g,j*11+2,none⟩) aV).trans c0;replace c1:=(B3.out.cell (p:=⟨g,j*11+2+1,none⟩) aV).trans c1;replace c2:=(B3.out.cell (p:=⟨g,j*11+2+2,none⟩) aV).trans c2;replace c3:=(B3.out.cell (p:=⟨g,j*11+2+3,none⟩) aV).trans c3;replace c4:=(B3.out.cell (p:=⟨g,j*11+2+4,none⟩) aV).trans c4;replace c5:=(B3.out.cell (p:=⟨g,j*11+2+5,none⟩) aV).trans c5;replace c6:=(B3.out.cell (p:=⟨g,j*11+2+6,none⟩) aV).trans c6;replace c7:=(B3.out.cell (p:=⟨g,j*11+2+7,none⟩) aV).trans c7;replace c8:=(B3.out.cell (p:=⟨g,j*11+2+8,none⟩) aV).trans c8;have fL:=B3.out.size;go_wp2_with fail
      refine(ak.out _ _ B3.out (RowV.own jM.out)).mono ?_;rintro e' w4 ⟨v4,rfl,h4,b4⟩;have H4:=wJ h4;have bZ:=wJ (eh.out.trans ((B3.out.trans (b4.mono B3.out.size)).mono jx));clear h4 b4 ak;go_wp2_with fail
      go_roundg (ln-(j+1))
      case measure=>omega
      case rel=>exact⟨j+1,rfl,by go_num,by omega,H4,bZ⟩
    ·have kY:j=ln:=by omega
     subst kY;have te:Hid (RowV wr u2 (Go.Proofs.YtknkclefoiohpaaGreatDoor.strV (frAD b o e))):=wJ (by
      have:=hU.out;rw[ur (by rw[fT.out];exact tV _),<-mu.out]at this
      exact this)
     clear hU;go_wp2_with fail
     go_ret
     exact⟨_,rfl,te.out,bM.out.trans (eh.out.mono (by omega))⟩
theorem zn9(n:Nat):FrOK n:=by
 induction n with
 |zero =>
   intro e S v vb vo b o w aG;have:1<=e.size:=by cases e <;> simp only[Ex.size] <;> omega
   omega
 |succ n ih =>
  intro e S v vb vo b o w aG hv hS hb ho aC gZ;by_cases hk:kdE e=1
  ·cases e with
   |var x=>exact zh7 x S v vb vo b o w hv hb ho (by omega) (by omega)
   |_=>simp[kdE]at hk
  ·exact zg6 n ih e hk S v vb vo b o w aG hv hS hb ho aC gZ
end Go.Proofs.YtknkclefoiohpaaGreatDoor
