import Derived.Test.YtknkclefoiohpaaGreatDoorKaAK
import Derived.Test.YtknkclefoiohpaaGreatDoorKaAL
set_option maxHeartbeats 12800000
namespace Go.Proofs.YtknkclefoiohpaaGreatDoor
open Go.RowKit Lx Tx Sx
set_option maxRecDepth 100000
theorem zey(w:World):RowV w (.slice none 0 0) (Go.Proofs.YtknkclefoiohpaaGreatDoor.strV []):=⟨none,0,rfl,λh=>absurd h (by simp[Go.Proofs.YtknkclefoiohpaaGreatDoor.strV])⟩
theorem RowV.nms {w:World} {v:Value} {L:List Nm}(h:RowV w v (Go.Proofs.YtknkclefoiohpaaGreatDoor.strV L)):∃A c,v=.slice A L.length c/\NmsIn (λg=>g<w.heap.size) w L A:=by
 obtain⟨A,c,rfl,hp⟩:=h;refine⟨A,c,by rw[zaR],λhL=>?_⟩;obtain⟨g,h1,h2,h3⟩:=hp (by rw[zaR];exact wF.2 hL);refine⟨g,h1,h2,λj u hu=>?_⟩;rw[uJ]
 exact h3 j u (by simpa[Go.Proofs.YtknkclefoiohpaaGreatDoor.strV,Sx.strV] using hu)
def RowP(w:World)(L:List Nm)(e:Ending)(w':World):Prop:=∃v,e=.returned v/\RowV w' v (Go.Proofs.YtknkclefoiohpaaGreatDoor.strV L)/\Below w.heap.size w w'
theorem zoh(e:Ex)(S:Nat->Prop)(v:Value)(w:World)(hv:RdX S w e v)(hS:∀g,S g->g<w.heap.size)(du:e.wt<=9000):Calls Tryz.prog 70 #[v] w (RowP w (zaF e)):=by
 obtain⟨K,X,Z,A0,m,q,KA,kc,LA,lc,rfl,bI⟩:=hv.shape;obtain⟨kd,ch⟩:∃x,kdE e=x:=⟨_,rfl⟩;obtain⟨Y,hY⟩:∃Y:ByteArray,⟨(nmE e).toArray⟩=Y:=⟨_,rfl⟩;obtain⟨td,cI⟩:∃x,toE e=x:=⟨_,rfl⟩;obtain⟨kn,bg⟩:∃x,(zac e).length=x:=⟨_,rfl⟩;obtain⟨ln,br⟩:∃x,(zad e).length=x:=⟨_,rfl⟩;rw[ch,hY,cI,bg,br]at hv ⊢
 obtain⟨W0,ai⟩:∃W,w.alloc (.cells #[.int .i64 (kd:Nat),.string Y,.bool td,.int .i64 K,.string X,.int .i64 Z,.slice A0 m q,.slice KA kn kc,.slice LA ln lc] 48)=W:=⟨_,rfl⟩;have ax:Below w.heap.size w W0:=ai▸(ua _ w).alloc (tV _) _;have aa:Blk W0 w.heap.size 48 #[.int .i64 (kd:Nat),.string Y,.bool td,.int .i64 K,.string X,.int .i64 Z,.slice A0 m q,.slice KA kn kc,.slice LA ln lc]:=ai▸tW _ _;obtain⟨⟨f0,f1,f2,f3,f4,f5,f6,f7,f8⟩,-,cU⟩:=zab aa;have h1:=zn9 e.size e S _ (.slice none 0 0) (.slice none 0 0) [] [] W0 (tV _) (hv.keep (λ_ h=>h) (λg hg=>ax.block g (hS g hg))) (λg hg=>by have:=hS g hg;have:=ax.size;omega) (zey _) (zey _) (by simp only[uF];omega) (by simp only[uF];omega);have HC:=wJ h1;have bM:=wJ ax;have HF:Hid (frAD [] [] e=zaF e):=wJ (by unfold frAD zaF;rw[zdB]);clear hv bI ch hY cI bg br ax aa h1 hS;go_enter Tryz.func70,Tryz.ntmps70
 go_wp2_with fail
 try rw[ai]
 refine HC.out.mono ?_;rintro e1 w1 ⟨v1,rfl,h2,b2⟩;have H2:=wJ h2;have B2:=wJ b2;clear h2 b2 HC ai;go_wp2_with fail
 go_ret
 exact⟨_,rfl,by rw[<-HF.out];exact H2.out,bM.out.trans (B2.out.mono bM.out.size)⟩
theorem zoi(e:Ex)(S:Nat->Prop)(v:Value)(w:World)(hv:RdX S w e v)(hS:∀g,S g->g<w.heap.size)(du:e.wt<=9000):Calls Tryz.prog 71 #[v] w (RowP w (zaG e)):=by
 obtain⟨K,X,Z,A0,m,q,KA,kc,LA,lc,rfl,bI⟩:=hv.shape;obtain⟨kd,ch⟩:∃x,kdE e=x:=⟨_,rfl⟩;obtain⟨Y,hY⟩:∃Y:ByteArray,⟨(nmE e).toArray⟩=Y:=⟨_,rfl⟩;obtain⟨td,cI⟩:∃x,toE e=x:=⟨_,rfl⟩;obtain⟨kn,bg⟩:∃x,(zac e).length=x:=⟨_,rfl⟩;obtain⟨ln,br⟩:∃x,(zad e).length=x:=⟨_,rfl⟩;rw[ch,hY,cI,bg,br]at hv ⊢
 obtain⟨W0,ai⟩:∃W,w.alloc (.cells #[.int .i64 (kd:Nat),.string Y,.bool td,.int .i64 K,.string X,.int .i64 Z,.slice A0 m q,.slice KA kn kc,.slice LA ln lc] 48)=W:=⟨_,rfl⟩;have ax:Below w.heap.size w W0:=ai▸(ua _ w).alloc (tV _) _;have aa:Blk W0 w.heap.size 48 #[.int .i64 (kd:Nat),.string Y,.bool td,.int .i64 K,.string X,.int .i64 Z,.slice A0 m q,.slice KA kn kc,.slice LA ln lc]:=ai▸tW _ _;obtain⟨⟨f0,f1,f2,f3,f4,f5,f6,f7,f8⟩,-,cU⟩:=zab aa;have h1:=zod e.size e S _ (.slice none 0 0) [] W0 (tV _) (hv.keep (λ_ h=>h) (λg hg=>ax.block g (hS g hg))) (λg hg=>by have:=hS g hg;have:=ax.size;omega) (zey _) (by simp only[uF];omega);have HC:=wJ h1;have bM:=wJ ax;have HF:Hid (addA [] (cns e)=zaG e):=wJ rfl;clear hv bI ch hY cI bg br ax aa h1 hS;go_enter Tryz.func71,Tryz.ntmps71
 go_wp2_with fail
 try rw[ai]
 refine HC.out.mono ?_;rintro e1 w1 ⟨v1,rfl,h2,b2⟩;have H2:=wJ h2;have B2:=wJ b2;clear h2 b2 HC ai;go_wp2_with fail
 go_ret
 exact⟨_,rfl,by rw[<-HF.out];exact H2.out,bM.out.trans (B2.out.mono bM.out.size)⟩
theorem zmA(e:Ex)(S:Nat->Prop)(v:Value)(w:World)(hv:RdX S w e v)(hS:∀g,S g->g<w.heap.size)(du:e.wt<=9000):Calls Tryz.prog 68 #[v] w (RowP w (zas e)):=by
 obtain⟨K,X,Z,A0,m,q,KA,kc,LA,lc,rfl,bI⟩:=hv.shape;obtain⟨kd,ch⟩:∃x,kdE e=x:=⟨_,rfl⟩;obtain⟨Y,hY⟩:∃Y:ByteArray,⟨(nmE e).toArray⟩=Y:=⟨_,rfl⟩;obtain⟨td,cI⟩:∃x,toE e=x:=⟨_,rfl⟩;obtain⟨kn,bg⟩:∃x,(zac e).length=x:=⟨_,rfl⟩;obtain⟨ln,br⟩:∃x,(zad e).length=x:=⟨_,rfl⟩;rw[ch,hY,cI,bg,br]at hv ⊢
 obtain⟨W0,ai⟩:∃W,w.alloc (.cells #[.int .i64 (kd:Nat),.string Y,.bool td,.int .i64 K,.string X,.int .i64 Z,.slice A0 m q,.slice KA kn kc,.slice LA ln lc] 48)=W:=⟨_,rfl⟩;have ax:Below w.heap.size w W0:=ai▸(ua _ w).alloc (tV _) _;have aa:Blk W0 w.heap.size 48 #[.int .i64 (kd:Nat),.string Y,.bool td,.int .i64 K,.string X,.int .i64 Z,.slice A0 m q,.slice KA kn kc,.slice LA ln lc]:=ai▸tW _ _;obtain⟨⟨f0,f1,f2,f3,f4,f5,f6,f7,f8⟩,-,cU⟩:=zab aa;have h1:=zkJ e.size e S _ (.slice none 0 0) [] W0 (tV _) (hv.keep (λ_ h=>h) (λg hg=>ax.block g (hS g hg))) (λg hg=>by have:=hS g hg;have:=ax.size;omega) (zey _) (by simp only[uF];omega);have HC:=wJ h1;have bM:=wJ ax;have HF:Hid (addA [] (bis e)=zas e):=wJ rfl;clear hv bI ch hY cI bg br ax aa h1 hS;go_enter Tryz.func68,Tryz.ntmps68
 go_wp2_with fail
 try rw[ai]
 refine HC.out.mono ?_;rintro e1 w1 ⟨v1,rfl,h2,b2⟩;have H2:=wJ h2;have B2:=wJ b2;clear h2 b2 HC ai;go_wp2_with fail
 go_ret
 exact⟨_,rfl,by rw[<-HF.out];exact H2.out,bM.out.trans (B2.out.mono bM.out.size)⟩
set_option maxRecDepth 100000
theorem zph(l:List Nm)(i:Nat)(h:i<l.length):rep (l.take i).reverse (l.drop i)=if l[i]∈l.take i then some l[i] else rep (l.take (i+1)).reverse (l.drop (i+1)):=by
 have e:(l.take (i+1)).reverse=l[i]::(l.take i).reverse:=by rw[uL,ug h];simp
 rw[uG h,rep,e]
 simp only[List.mem_reverse]
theorem RowV.take {w:World} {A:Option Addr} {n c:Nat} {l:List Nm}(h:RowV w (.slice A n c) (Go.Proofs.YtknkclefoiohpaaGreatDoor.strV l))(i:Nat)(hi:i<=l.length):RowV w (.slice A i c) (Go.Proofs.YtknkclefoiohpaaGreatDoor.strV (l.take i)):=by
 obtain⟨A',c',hv,hp⟩:=h;injection hv with h1 h2 h3;subst h1 h3;refine⟨A,c,by rw[zaR,vN,Nat.min_eq_left hi],λhn=>?_⟩;rw[zaR,vN,Nat.min_eq_left hi]at hn
 obtain⟨g,e1,e2,e3⟩:=hp (by rw[zaR];omega);refine⟨g,e1,e2,λj u hu=>e3 j u ?_⟩;simp only[Go.Proofs.YtknkclefoiohpaaGreatDoor.strV,vA,List.getElem?_take]at hu ⊢;split at hu
 ·exact hu
 ·cases hu
theorem zeI(A:Option Addr)(c:Nat)(l:List Nm)(w:World)(HR:Hid (RowV w (.slice A l.length c) (Go.Proofs.YtknkclefoiohpaaGreatDoor.strV l)))(hc:l.length<=c)(hl:l.length<=1000000):Calls Tryz.prog 120 #[.slice A l.length c] w λe w'=>e=.returned (.string ⟨((rep [] l).getD []).toArray⟩)/\Below w.heap.size w w':=by
 obtain⟨R,hR⟩:∃R,rep [] l=R:=⟨_,rfl⟩;rw[hR]
 have ef:=wJ hR;obtain⟨n,hn⟩:∃n,l.length=n:=⟨_,rfl⟩;rw[hn]at HR hl hc ⊢
 have HN:=wJ hn;clear hR hn;go_enter Tryz.func120,Tryz.ntmps120
 go_wp2_with fail
 go_loopg [3] n (λgg vi wr=>∃i:Nat,gg=n-i/\vi=.int .i64 (i:Nat)/\i<=n/\Hid (R=rep (l.take i).reverse (l.drop i))/\Hid (Below w.heap.size w wr))
 case atStart=>exact⟨0,rfl,rfl,by omega,wJ (by rw[<-ef.out];rfl),wJ (ua _ _)⟩
 case round =>
  obtain⟨i,rfl,rfl,hi,hS,hB⟩:=hrel;by_cases ah:i<n
  ·have jf:i<l.length:=by rw[HN.out];exact ah
   obtain⟨g,c',heq,ig⟩:=(HR.out.below hB.out).at_ i (by rw[zaR];exact jf);injection heq with q1 q2 q3;subst q1;obtain⟨X,hX⟩:∃X:ByteArray,⟨(l[i]'jf).toArray⟩=X:=⟨_,rfl⟩;have dQ:X.data.toList=l[i]'jf:=by rw[<-hX]
   have ij:(Go.Proofs.YtknkclefoiohpaaGreatDoor.strV l)[i]'(by rw[zaR];exact jf)=.string X:=by rw[<-hX];simp[Go.Proofs.YtknkclefoiohpaaGreatDoor.strV]
   rw[ij]at ig
   have aV:=zaj ig;obtain⟨q,hq⟩:∃q,decide (l[i]'jf∈l.take i)=q:=⟨_,rfl⟩;have be:=zph l i jf;have nO:Hid ((q=true->R=some X.data.toList)/\(q=false->R=rep (l.take (i+1)).reverse (l.drop (i+1)))):=wJ ⟨λh=>by
    rw[hS.out,be,ud (vg (hq.trans h)),dQ],λh=>by rw[hS.out,be,ue (vh (hq.trans h))]⟩
   have fe:Hid (∀U,Below wr.heap.size wr U->Calls Tryz.prog 67 #[.slice (some ⟨g,0,none⟩) i c,.string X] U λe w'=>e=.returned (.bool q)/\U=w'):=wJ λU hU=>by
    have h1:=zbE _ (l.take i) X U ((RowV.take (HR.out.below hB.out) i (by omega)).below hU) (by rw[vN];omega);rw[dQ,hq]at h1
    exact h1
   have iw:(0:Int)<=(i:Int):=by omega
   have gV:(i:Int)<(n:Int):=by omega
   have ii2:(i:Int)<=(c:Int):=by omega
   clear hX dQ ij hq be jf q2 q3;go_wp2_with fail
   go_cut [4] from 11 to 18 (λu wx=>u=.bool q/\Hid (Below wr.heap.size wr wx))
   case first =>
    go_wp2_with fail
    go_region_with (go_at_call 67;(with_reducible refine(fe.out _ (by first|exact ua _ _|exact(ua _ _).drew)).mono ?_);rintro e w3 ⟨rfl,rfl⟩)
    all_goals
     go_wp2_with fail
     go_meet
     case rel=>exact⟨rfl,wJ (ua _ _).drew⟩
   case rest =>
    obtain⟨rfl,dL⟩:=hcut;have ar:=wJ (hB.out.trans (dL.out.mono hB.out.size));have ig:=(dL.out.cell (p:=⟨g,i,none⟩) aV).trans ig;cases q with
    |true =>
     have hr:=wJ (nO.out.1 rfl);go_wp2_with fail
     go_ret
     exact⟨by rw[hr.out];rfl,ar.out⟩
    |false =>
     have hr:=wJ (nO.out.2 rfl);go_wp2_with fail
     go_roundg (n-(i+1))
     case measure=>omega
     case rel=>exact⟨i+1,rfl,by go_num,by omega,hr,ar⟩
  ·have bI:i=n:=by omega
   subst bI;have hr:Hid (R=none):=wJ (by rw[hS.out,uD (by rw[HN.out];exact tV _)];rfl);go_wp2_with fail
   go_ret
   exact⟨by rw[hr.out];rfl,hB.out⟩
end Go.Proofs.YtknkclefoiohpaaGreatDoor
namespace Go.Proofs.YtknkclefoiohpaaGreatDoor
open Go.RowKit Lx Tx Sx
set_option maxRecDepth 100000
def obk(A:Option Addr):Option Nat:=A.map Addr.block
def upd {α:Type}(f:Nat->α)(j:Nat)(x:α):Nat->α:=λk=>if k=j then x else f k
structure TabR (b g:Nat) (A:Nat->Option Addr) (n c:Nat->Nat) (L:Nat->List Nm) (w:World):Prop where
 blk:Blk w g 132 #[.slice (A 0) (n 0) (c 0),.slice (A 1) (n 1) (c 1),.slice (A 2) (n 2) (c 2),.slice (A 3) (n 3) (c 3)]
 low:b<=g
 own:∀j,j<4->w.ownsRow b 9 1 (.slice (A j) (n j) (c j)) (n j) (Go.Proofs.YtknkclefoiohpaaGreatDoor.strV (L j))
 apart:∀j k,j<4->k<4->j≠k->∀x,obk (A j)=some x->obk (A k)≠some x
 off:∀j,j<4->obk (A j)≠some g
theorem zaM(A:Option Addr)(n c:Nat):(Value.slice A n c).ownBlock=obk A:=by cases A <;> rfl
theorem TabR.len {b g:Nat} {A:Nat->Option Addr} {n c:Nat->Nat} {L:Nat->List Nm} {w:World}(h:TabR b g A n c L w)(j:Nat)(hj:j<4):n j=(L j).length:=by
 have:=(h.own j hj).1;rw[zaR]at this
 omega
theorem TabR.below {b g:Nat} {A:Nat->Option Addr} {n c:Nat->Nat} {L:Nat->List Nm} {w w':World}(h:TabR b g A n c L w)(hb:Below w.heap.size w w'):TabR b g A n c L w' :=
 ⟨h.blk.below hb h.blk.lt,h.low,λj hj=>own_below (h.own j hj) hb,h.apart,h.off⟩
theorem TabR.push {b g:Nat} {A:Nat->Option Addr} {n c:Nat->Nat} {L:Nat->List Nm} {w w5:World}(h:TabR b g A n c L w)(j:Nat)(hj:j<4)(X:ByteArray) {g3 c3:Nat}
  (ho:w5.ownsRow b 9 1 (.slice (some ⟨g3,0,none⟩) (n j+1) c3) (n j+1) (Go.Proofs.YtknkclefoiohpaaGreatDoor.strV (L j)++[.string X]))(hg:w.grownBy w5 (Value.slice (A j) (n j) (c j)).ownBlock)(aH:(Value.slice (A j) (n j) (c j)).ownBlock=some g3\/g3=w.heap.size):TabR b g (upd A j (some ⟨g3,0,none⟩)) (upd n j (n j+1)) (upd c j c3) (upd L j (L j++[X.data.toList])) (w5.setCell ⟨g,j,none⟩ (.slice (some ⟨g3,0,none⟩) (n j+1) c3)):=by
 rw[zaM]at hg aH
 have aV:=h.blk.lt;have aa:∀k,k<4->∀x,obk (A k)=some x->b<=x/\x<w.heap.size:=λk hk x hx=>(h.own k hk).lt x (by rw[zaM];exact hx);have eP:g3≠g:=by
  rintro rfl;rcases aH with h1|h1
  ·exact h.off j hj h1
  ·omega
 have cJ:=h.blk.grown hg (λe=>h.off j hj e.symm);have bf:∀k,k<4->k≠j->∀x,obk (A k)=some x->x≠g3:=by
  intro k hk ov x hx e;rcases aH with h1|h1
  ·exact h.apart k j hk hj ov x hx (by rw[e];exact h1)
  ·have:=aa k hk x hx;omega
 refine⟨?_,h.low,λk hk=>?_,λk1 k2 h1 h2 h12 x hx gY=>?_,λk hk e=>?_⟩
 ·match j,hj with
  |0,_=>exact uk _ _ 0 _ _ _ cJ
  |1,_=>exact uk _ _ 1 _ _ _ cJ
  |2,_=>exact uk _ _ 2 _ _ _ cJ
  |3,_=>exact uk _ _ 3 _ _ _ cJ
 ·by_cases ov:k=j
  ·subst ov
   simp only[upd,ud];rw[show Go.Proofs.YtknkclefoiohpaaGreatDoor.strV (L k++[X.data.toList])=Go.Proofs.YtknkclefoiohpaaGreatDoor.strV (L k)++[.string X] by simp[Go.Proofs.YtknkclefoiohpaaGreatDoor.strV]]
   exact zbi ho (λa ha=>by injection ha with ha;rw[<-ha];exact tY w5 ⟨g,k,none⟩ _ g3 eP)
  ·simp only[upd,ue ov]
   refine zbi (h.own k hk) (λa ha=>?_);have hx:obk (A k)=some a.block:=by rw[ha];rfl
   have ah:=(aa k hk _ hx).2;exact(tY w5 ⟨g,j,none⟩ _ a.block (λe=>h.off k hk (by rw[hx];exact uC some e))).trans (hg.block a.block ah (λe=>h.apart k j hk hj ov _ hx e.symm))
 ·by_cases e1:k1=j
  ·have e2:k2≠j:=λe=>h12 (e1.trans e.symm)
   simp only[upd,ud e1]at hx;simp only[upd,ue e2]at gY;injection hx with hx;exact bf k2 h2 e2 x gY hx.symm
  ·simp only[upd,ue e1]at hx
   by_cases e2:k2=j
   ·simp only[upd,ud e2]at gY
    injection gY with gY;exact bf k1 h1 e1 x hx gY.symm
   ·simp only[upd,ue e2]at gY
    exact h.apart k1 k2 h1 h2 h12 x hx gY
 ·by_cases e1:k=j
  ·simp only[upd,ud e1]at e
   injection e with e;exact eP e
  ·simp only[upd,ue e1]at e
   exact h.off k hk e
theorem TabR.pushB {b g:Nat} {A:Nat->Option Addr} {n c:Nat->Nat} {L:Nat->List Nm} {w w5:World}(h:TabR b g A n c L w)(j:Nat)(hj:j<4)(aX:b<=w.heap.size) {v:Value}(hg:w.grownBy w5 (Value.slice (A j) (n j) (c j)).ownBlock):Below b w (w5.setCell ⟨g,j,none⟩ v) :=
 (((ua b w).grown hg aX (λk hk=>((h.own j hj).lt k hk).1))).setCell (p:=⟨g,j,none⟩) h.low _
def DcP(b g:Nat)(w:World)(o:Option Nm)(L':Nat->List Nm)(e:Ending)(w':World):Prop :=
 Below b w w'/\e=.returned (.string ⟨(o.getD []).toArray⟩)/\(o=none->∃A n c,TabR b g A n c L' w')
theorem zez {g j:Nat} {w wc w5:World} {A:Option Addr} {n c:Nat} {s:ByteArray} {o:Obj} {v:Value}(hg:(wc.drew.alloc o).grownBy w5 (Value.slice A n c).ownBlock)
  (hx:∀k,(Value.slice A n c).ownBlock=some k->k≠w.heap.size)(hgx:g≠w.heap.size)(ix:w.heap.size<wc.heap.size)(f1:wc.cell? ⟨w.heap.size,1,none⟩=some (.string s)):(w5.setCell ⟨g,j,none⟩ v).cell? ⟨w.heap.size,1,none⟩=some (.string s):=by
 refine(uV (w:=wc) (a:=⟨w.heap.size,1,none⟩) ?_).trans f1;refine(tY w5 ⟨g,j,none⟩ _ w.heap.size (λe=>hgx e.symm)).trans ((hg.block w.heap.size (by simp;omega) (λe=>hx _ e.symm rfl)).trans ?_);exact uc wc _ _ ix
theorem zh9(b g:Nat)(A:Nat->Option Addr)(n c:Nat->Nat)(L:Nat->List Nm)(s:ByteArray)(V:Option Addr)(vm vq:Nat)(G:Option Addr)(gm gq:Nat)(K0:Int)(X0:ByteArray)(Z0:Int)(B0:Option Addr)(m0 q0:Nat)(k:Int)(x:ByteArray)(t:Bool)(K:Int)(X:ByteArray)(Z:Int)(B:Option Addr)(m q:Nat)(KA:Option Addr)(kn kc:Nat)(LA:Option Addr)(ln lc:Nat)(w:World)
  (hT:TabR b g A n c L w)(aX:b<=w.heap.size)(hlen:(L 2).length<=100000):Calls Tryz.prog 66 #[.pointer (some ⟨g,0,none⟩),.agg #[.int .i64 2,.string s,.slice V vm vq,.slice G gm gq,.int .i64 K0,.string X0,.int .i64 Z0,.slice B0 m0 q0,.int .i64 k,.string x,.bool t,.int .i64 K,.string X,.int .i64 Z,.slice B m q,.slice KA kn kc,.slice LA ln lc]] w
   (DcP b g w (if s.data.toList∈L 2 then some s.data.toList else none) (upd L 2 (L 2++[s.data.toList]))):=by
 obtain⟨i0,bJ,bO,bz,bE⟩:=vz zb1;obtain⟨W0,ai⟩:∃W,w.alloc (.cells #[.int .i64 2,.string s,.slice V vm vq,.slice G gm gq,.int .i64 K0,.string X0,.int .i64 Z0,.slice B0 m0 q0,.int .i64 k,.string x,.bool t,.int .i64 K,.string X,.int .i64 Z,.slice B m q,.slice KA kn kc,.slice LA ln lc] 81)=W:=⟨_,rfl⟩;have aK:Below w.heap.size w W0:=ai▸(ua _ w).alloc (tV _) _;have eI:w.heap.size+1<=W0.heap.size:=by rw[<-ai];simp
 have az:Blk W0 w.heap.size 81 #[.int .i64 2,.string s,.slice V vm vq,.slice G gm gq,.int .i64 K0,.string X0,.int .i64 Z0,.slice B0 m0 q0,.int .i64 k,.string x,.bool t,.int .i64 K,.string X,.int .i64 Z,.slice B m q,.slice KA kn kc,.slice LA ln lc]:=ai▸tW _ _;have iW:=hT.below aK;have kZ:=hT.blk.lt;have av:Hid (∀k,(Value.slice (A 2) (n 2) (c 2)).ownBlock=some k->k≠w.heap.size):=wJ λk hk=>by have:=((hT.own 2 (by decide)).lt k hk).2;omega
 obtain⟨qq,j6⟩:∃q,decide (s.data.toList∈L 2)=q:=⟨_,rfl⟩;have fe:Hid (∀U,Below W0.heap.size W0 U->Calls Tryz.prog 67 #[.slice (A 2) (n 2) (c 2),.string s] U λe w'=>e=.returned (.bool qq)/\U=w'):=wJ λU hU=>j6▸zbE _ (L 2) s U ((RowV.of_own (iW.own 2 (by decide))).below hU) (by omega);have aO:Hid (qq=true->(if s.data.toList∈L 2 then some s.data.toList else none)=some s.data.toList):=wJ λh=>ud (vg (j6.trans h));have bP:Hid (qq=false->(if s.data.toList∈L 2 then some s.data.toList else none)=none):=wJ λh=>ue (vh (j6.trans h));obtain⟨R,hR⟩:∃R,(if s.data.toList∈L 2 then some s.data.toList else none)=R:=⟨_,rfl⟩;rw[hR]at aO bP ⊢
 have rO:n 2<=100000:=by rw[hT.len 2 (by decide)];exact hlen
 have mU:=wJ iW;have bT:=wJ aK;have bc:=wJ az;have f0:W0.cell? ⟨w.heap.size,0,none⟩=some (.int .i64 2):=az.cell 0;have f1:W0.cell? ⟨w.heap.size,1,none⟩=some (.string s):=az.cell 1;have cU:=zaj f0;obtain⟨a0,a1,a2,a3,r0,r1,r2,r3,bB⟩:=zae iW.blk;clear hT aK az iW j6 hR hlen;go_enter Tryz.func66,Tryz.ntmps66
 go_upto_region 1 with fail
 try rw[ai]
 clear ai;go_wp2_with fail
 go_cut [5] from 14 to 20 (λu wx=>u=.bool qq/\Hid (Below W0.heap.size W0 wx))
 case first =>
  go_wp2_with fail
  go_region_with (go_at_call 67;(with_reducible refine(fe.out _ (by first|exact ua _ _|exact(ua _ _).drew)).mono ?_);rintro e w3 ⟨rfl,rfl⟩)
  all_goals
   go_wp2_with fail
   go_meet
   case rel=>exact⟨rfl,wJ (by first|exact ua _ _|exact(ua _ _).drew)⟩
 case rest =>
  obtain⟨rfl,dL⟩:=hcut;have ix:=dL.out.size;have fR:=mU.out.below dL.out;have HTc:=wJ fR;have aJ:=wJ (bT.out.trans (dL.out.mono bT.out.size));have f1:=(dL.out.cell (p:=⟨w.heap.size,1,none⟩) cU).trans f1;have cR:Hid (∀j u,[Value.string s][j]?=some u->(wc.drew.alloc (.cells #[.string s] 9)).cell? ((⟨wc.heap.size,0,none⟩:Addr).add j)=some u):=wJ (zao _ _ _ _ rfl);have bX:Hid ((wc.drew.alloc (.cells #[.string s] 9)).ownsRow b 9 1 (.slice (A 2) (n 2) (c 2)) (n 2) (Go.Proofs.YtknkclefoiohpaaGreatDoor.strV (L 2))):=wJ ((fR.own 2 (by decide)).alloc _);have fq:Hid (TabR b g A n c L (wc.drew.alloc (.cells #[.string s] 9))):=wJ (fR.below ((ua wc.heap.size wc).drew.alloc (tV _) _));have fU:Hid (Below w.heap.size w (wc.drew.alloc (.cells #[.string s] 9))):=wJ (aJ.out.drew.alloc aJ.out.size _);clear a0 a1 a2 a3 r0 r1 r2 r3 bB;obtain⟨a0,a1,a2,a3,r0,r1,r2,r3,bB⟩:=zae fR.blk;clear fR f0 fe;cases qq with
  |true =>
   have hr:=wJ (aO.out rfl);go_wp2_with fail
   go_region_law (refine step_append_lies _ (by rfl) _ _ _ (by rfl) b 9 i0 _ 1 16 Tryz.underlying56 bJ bO bz bE rfl (by decide) _ (n 2) (Go.Proofs.YtknkclefoiohpaaGreatDoor.strV (L 2)) (by rfl) bX.out ⟨wc.heap.size,0,none⟩ 1 1 [.string s] rfl rfl cR.out (by intro u hu;simp at hu;subst hu;rfl) (by omega) (by unfold maxLen;omega) (by omega) (by simp;omega) _ rfl ?_;intro g3 c3 w5 aj ab aH ah;have cJ:Blk w5 g 132 #[.slice (A 0) (n 0) (c 0),.slice (A 1) (n 1) (c 1),.slice (A 2) (n 2) (c 2),.slice (A 3) (n 3) (c 3)]:=fq.out.blk.grown ab (λe=>fq.out.off 2 (by decide) (by rw[<-zaM];exact e.symm));obtain⟨d0,d1,d2,d3,e0,e1,e2,e3,qp⟩:=zae cJ;have lh:Hid ((w5.setCell ⟨g,2,none⟩ (.slice (some ⟨g3,0,none⟩) (n 2+1) c3)).cell? ⟨w.heap.size,1,none⟩=some (.string s)):=wJ (zez ab (λk hk=>av.out k hk) (by omega) (by omega) f1);have dN:=wJ aj;have bw:=wJ ab;have eN:=wJ aH;clear aj ab aH cJ)
   all_goals
    have gj:=wJ (fU.out.mono aX |>.trans (fq.out.pushB 2 (by decide) (by simp;omega) (v:=.slice (some ⟨g3,0,none⟩) (n 2+1) c3) bw.out));have e1:(w5.setCell ⟨g,2,none⟩ (.slice (some ⟨g3,0,none⟩) (n 2+1) c3)).cell? ⟨w.heap.size,1,none⟩=some (.string s):=lh.out;go_wp2_with fail
    go_ret
    exact⟨gj.out,by rw[hr.out];rfl,λh=>by rw[hr.out]at h;cases h⟩
  |false =>
   have hr:=wJ (bP.out rfl);go_wp2_with fail
   go_region_law (refine step_append_lies _ (by rfl) _ _ _ (by rfl) b 9 i0 _ 1 16 Tryz.underlying56 bJ bO bz bE rfl (by decide) _ (n 2) (Go.Proofs.YtknkclefoiohpaaGreatDoor.strV (L 2)) (by rfl) bX.out ⟨wc.heap.size,0,none⟩ 1 1 [.string s] rfl rfl cR.out (by intro u hu;simp at hu;subst hu;rfl) (by omega) (by unfold maxLen;omega) (by omega) (by simp;omega) _ rfl ?_;intro g3 c3 w5 aj ab aH ah;have cJ:Blk w5 g 132 #[.slice (A 0) (n 0) (c 0),.slice (A 1) (n 1) (c 1),.slice (A 2) (n 2) (c 2),.slice (A 3) (n 3) (c 3)]:=fq.out.blk.grown ab (λe=>fq.out.off 2 (by decide) (by rw[<-zaM];exact e.symm));obtain⟨d0,d1,d2,d3,e0,e1,e2,e3,qp⟩:=zae cJ;have lh:Hid ((w5.setCell ⟨g,2,none⟩ (.slice (some ⟨g3,0,none⟩) (n 2+1) c3)).cell? ⟨w.heap.size,1,none⟩=some (.string s)):=wJ (zez ab (λk hk=>av.out k hk) (by omega) (by omega) f1);have dN:=wJ aj;have bw:=wJ ab;have eN:=wJ aH;clear aj ab aH cJ)
   all_goals
    have gj:=wJ (fU.out.mono aX |>.trans (fq.out.pushB 2 (by decide) (by simp;omega) (v:=.slice (some ⟨g3,0,none⟩) (n 2+1) c3) bw.out));have pV:=wJ (fq.out.push 2 (by decide) s dN.out bw.out eN.out);go_wp2_with fail
    go_ret
    exact⟨gj.out,by rw[hr.out];rfl,λ_=>⟨_,_,_,pV.out⟩⟩
theorem zhb(b g:Nat)(A:Nat->Option Addr)(n c:Nat->Nat)(L:Nat->List Nm)(s:ByteArray)(V:Option Addr)(vm vq:Nat)(G:Option Addr)(gm gq:Nat)(K0:Int)(X0:ByteArray)(Z0:Int)(B0:Option Addr)(m0 q0:Nat)(k:Int)(x:ByteArray)(t:Bool)(K:Int)(X:ByteArray)(Z:Int)(B:Option Addr)(m q:Nat)(KA:Option Addr)(kn kc:Nat)(LA:Option Addr)(ln lc:Nat)(w:World)
  (hT:TabR b g A n c L w)(aX:b<=w.heap.size)(hlen:(L 3).length<=100000):Calls Tryz.prog 66 #[.pointer (some ⟨g,0,none⟩),.agg #[.int .i64 3,.string s,.slice V vm vq,.slice G gm gq,.int .i64 K0,.string X0,.int .i64 Z0,.slice B0 m0 q0,.int .i64 k,.string x,.bool t,.int .i64 K,.string X,.int .i64 Z,.slice B m q,.slice KA kn kc,.slice LA ln lc]] w
   (DcP b g w (if s.data.toList∈L 3 then some s.data.toList else none) (upd L 3 (L 3++[s.data.toList]))):=by
 obtain⟨i0,bJ,bO,bz,bE⟩:=vz zb1;obtain⟨W0,ai⟩:∃W,w.alloc (.cells #[.int .i64 3,.string s,.slice V vm vq,.slice G gm gq,.int .i64 K0,.string X0,.int .i64 Z0,.slice B0 m0 q0,.int .i64 k,.string x,.bool t,.int .i64 K,.string X,.int .i64 Z,.slice B m q,.slice KA kn kc,.slice LA ln lc] 81)=W:=⟨_,rfl⟩;have aK:Below w.heap.size w W0:=ai▸(ua _ w).alloc (tV _) _;have eI:w.heap.size+1<=W0.heap.size:=by rw[<-ai];simp
 have az:Blk W0 w.heap.size 81 #[.int .i64 3,.string s,.slice V vm vq,.slice G gm gq,.int .i64 K0,.string X0,.int .i64 Z0,.slice B0 m0 q0,.int .i64 k,.string x,.bool t,.int .i64 K,.string X,.int .i64 Z,.slice B m q,.slice KA kn kc,.slice LA ln lc]:=ai▸tW _ _;have iW:=hT.below aK;have kZ:=hT.blk.lt;have av:Hid (∀k,(Value.slice (A 3) (n 3) (c 3)).ownBlock=some k->k≠w.heap.size):=wJ λk hk=>by have:=((hT.own 3 (by decide)).lt k hk).2;omega
 obtain⟨qq,j6⟩:∃q,decide (s.data.toList∈L 3)=q:=⟨_,rfl⟩;have fe:Hid (∀U,Below W0.heap.size W0 U->Calls Tryz.prog 67 #[.slice (A 3) (n 3) (c 3),.string s] U λe w'=>e=.returned (.bool qq)/\U=w'):=wJ λU hU=>j6▸zbE _ (L 3) s U ((RowV.of_own (iW.own 3 (by decide))).below hU) (by omega);have aO:Hid (qq=true->(if s.data.toList∈L 3 then some s.data.toList else none)=some s.data.toList):=wJ λh=>ud (vg (j6.trans h));have bP:Hid (qq=false->(if s.data.toList∈L 3 then some s.data.toList else none)=none):=wJ λh=>ue (vh (j6.trans h));obtain⟨R,hR⟩:∃R,(if s.data.toList∈L 3 then some s.data.toList else none)=R:=⟨_,rfl⟩;rw[hR]at aO bP ⊢
 have rO:n 3<=100000:=by rw[hT.len 3 (by decide)];exact hlen
 have mU:=wJ iW;have bT:=wJ aK;have bc:=wJ az;have f0:W0.cell? ⟨w.heap.size,0,none⟩=some (.int .i64 3):=az.cell 0;have f1:W0.cell? ⟨w.heap.size,1,none⟩=some (.string s):=az.cell 1;have cU:=zaj f0;obtain⟨a0,a1,a2,a3,r0,r1,r2,r3,bB⟩:=zae iW.blk;clear hT aK az iW j6 hR hlen;go_enter Tryz.func66,Tryz.ntmps66
 go_upto_region 1 with fail
 try rw[ai]
 clear ai;go_wp2_with fail
 go_cut [6] from 38 to 44 (λu wx=>u=.bool qq/\Hid (Below W0.heap.size W0 wx))
 case first =>
  go_wp2_with fail
  go_region_with (go_at_call 67;(with_reducible refine(fe.out _ (by first|exact ua _ _|exact(ua _ _).drew)).mono ?_);rintro e w3 ⟨rfl,rfl⟩)
  all_goals
   go_wp2_with fail
   go_meet
   case rel=>exact⟨rfl,wJ (by first|exact ua _ _|exact(ua _ _).drew)⟩
 case rest =>
  obtain⟨rfl,dL⟩:=hcut;have ix:=dL.out.size;have fR:=mU.out.below dL.out;have HTc:=wJ fR;have aJ:=wJ (bT.out.trans (dL.out.mono bT.out.size));have f1:=(dL.out.cell (p:=⟨w.heap.size,1,none⟩) cU).trans f1;have cR:Hid (∀j u,[Value.string s][j]?=some u->(wc.drew.alloc (.cells #[.string s] 9)).cell? ((⟨wc.heap.size,0,none⟩:Addr).add j)=some u):=wJ (zao _ _ _ _ rfl);have bX:Hid ((wc.drew.alloc (.cells #[.string s] 9)).ownsRow b 9 1 (.slice (A 3) (n 3) (c 3)) (n 3) (Go.Proofs.YtknkclefoiohpaaGreatDoor.strV (L 3))):=wJ ((fR.own 3 (by decide)).alloc _);have fq:Hid (TabR b g A n c L (wc.drew.alloc (.cells #[.string s] 9))):=wJ (fR.below ((ua wc.heap.size wc).drew.alloc (tV _) _));have fU:Hid (Below w.heap.size w (wc.drew.alloc (.cells #[.string s] 9))):=wJ (aJ.out.drew.alloc aJ.out.size _);clear a0 a1 a2 a3 r0 r1 r2 r3 bB;obtain⟨a0,a1,a2,a3,r0,r1,r2,r3,bB⟩:=zae fR.blk;clear fR f0 fe;cases qq with
  |true =>
   have hr:=wJ (aO.out rfl);go_wp2_with fail
   go_region_law (refine step_append_lies _ (by rfl) _ _ _ (by rfl) b 9 i0 _ 1 16 Tryz.underlying56 bJ bO bz bE rfl (by decide) _ (n 3) (Go.Proofs.YtknkclefoiohpaaGreatDoor.strV (L 3)) (by rfl) bX.out ⟨wc.heap.size,0,none⟩ 1 1 [.string s] rfl rfl cR.out (by intro u hu;simp at hu;subst hu;rfl) (by omega) (by unfold maxLen;omega) (by omega) (by simp;omega) _ rfl ?_;intro g3 c3 w5 aj ab aH ah;have cJ:Blk w5 g 132 #[.slice (A 0) (n 0) (c 0),.slice (A 1) (n 1) (c 1),.slice (A 2) (n 2) (c 2),.slice (A 3) (n 3) (c 3)]:=fq.out.blk.grown ab (λe=>fq.out.off 3 (by decide) (by rw[<-zaM];exact e.symm));obtain⟨d0,d1,d2,d3,e0,e1,e2,e3,qp⟩:=zae cJ;have lh:Hid ((w5.setCell ⟨g,3,none⟩ (.slice (some ⟨g3,0,none⟩) (n 3+1) c3)).cell? ⟨w.heap.size,1,none⟩=some (.string s)):=wJ (zez ab (λk hk=>av.out k hk) (by omega) (by omega) f1);have dN:=wJ aj;have bw:=wJ ab;have eN:=wJ aH;clear aj ab aH cJ)
   all_goals
    have gj:=wJ (fU.out.mono aX |>.trans (fq.out.pushB 3 (by decide) (by simp;omega) (v:=.slice (some ⟨g3,0,none⟩) (n 3+1) c3) bw.out));have e1:(w5.setCell ⟨g,3,none⟩ (.slice (some ⟨g3,0,none⟩) (n 3+1) c3)).cell? ⟨w.heap.size,1,none⟩=some (.string s):=lh.out;go_wp2_with fail
    go_ret
    exact⟨gj.out,by rw[hr.out];rfl,λh=>by rw[hr.out]at h;cases h⟩
  |false =>
   have hr:=wJ (bP.out rfl);go_wp2_with fail
   go_region_law (refine step_append_lies _ (by rfl) _ _ _ (by rfl) b 9 i0 _ 1 16 Tryz.underlying56 bJ bO bz bE rfl (by decide) _ (n 3) (Go.Proofs.YtknkclefoiohpaaGreatDoor.strV (L 3)) (by rfl) bX.out ⟨wc.heap.size,0,none⟩ 1 1 [.string s] rfl rfl cR.out (by intro u hu;simp at hu;subst hu;rfl) (by omega) (by unfold maxLen;omega) (by omega) (by simp;omega) _ rfl ?_;intro g3 c3 w5 aj ab aH ah;have cJ:Blk w5 g 132 #[.slice (A 0) (n 0) (c 0),.slice (A 1) (n 1) (c 1),.slice (A 2) (n 2) (c 2),.slice (A 3) (n 3) (c 3)]:=fq.out.blk.grown ab (λe=>fq.out.off 3 (by decide) (by rw[<-zaM];exact e.symm));obtain⟨d0,d1,d2,d3,e0,e1,e2,e3,qp⟩:=zae cJ;have lh:Hid ((w5.setCell ⟨g,3,none⟩ (.slice (some ⟨g3,0,none⟩) (n 3+1) c3)).cell? ⟨w.heap.size,1,none⟩=some (.string s)):=wJ (zez ab (λk hk=>av.out k hk) (by omega) (by omega) f1);have dN:=wJ aj;have bw:=wJ ab;have eN:=wJ aH;clear aj ab aH cJ)
   all_goals
    have gj:=wJ (fU.out.mono aX |>.trans (fq.out.pushB 3 (by decide) (by simp;omega) (v:=.slice (some ⟨g3,0,none⟩) (n 3+1) c3) bw.out));have pV:=wJ (fq.out.push 3 (by decide) s dN.out bw.out eN.out);go_wp2_with fail
    go_ret
    exact⟨gj.out,by rw[hr.out];rfl,λ_=>⟨_,_,_,pV.out⟩⟩
def onm(o:Option Nm):ByteArray:=⟨(o.getD []).toArray⟩
theorem zcQ(o:Option Nm)(h:∀x,o=some x->x≠[]):((onm o).toList==[])=o.isNone:=by
 rw[uK]
 cases o with
 |none=>rfl
 |some x =>
  have hx:=h x rfl;show(x.toArray.toList==[])=false;rw[List.toList_toArray]
  cases x with
  |nil=>exact absurd rfl hx
  |cons a b=>rfl
theorem zjs {e:Ex}(h:∀x∈nms e,x≠[])(x:Nm)(hx:ag e=some x):x≠[]:=h x (zpj hx)
theorem zf3(e x:Ex)(h:x∈parts e):∀y∈nms x,y∈nms e:=by
 intro y hy;have rB:∀l1 l2:List Ev,∀z,z∈(l1++l2).flatMap useOf↔z∈l1.flatMap useOf\/z∈l2.flatMap useOf:=λl1 l2 z=>by rw[uA,uz]
 unfold nms at hy ⊢;cases e with
 |var v=>simp[parts,zac,zad]at h
 |con v=>simp[parts,zac,zad]at h
 |lam v b =>
  simp[parts,zac,zad]at h
  subst h;simp[evs,hy]
 |app a b =>
  simp[parts,zac,zad]at h
  rcases h with rfl|rfl <;> simp[evs,hy]
 |lt v t a b =>
  simp[parts,zac,zad]at h
  rcases h with rfl|rfl <;> simp[evs,hy]
 |ann b t =>
  simp[parts,zac,zad]at h
  subst h;simp[evs,hy]
 |cs b l =>
  simp[parts,zac,zad]at h
  rcases h with rfl|⟨a,ha,rfl⟩
  ·simp[evs,hy]
  ·have:∀l:List Al,a∈l->y∈(evsA l).flatMap useOf:=λl=>by
    induction l with
    |nil=>intro h;cases h
    |cons c r ih =>
     intro h;rw[evsA,rB]
     rcases uT.1 h with rfl|h
     ·left
      cases a
      simp[evs1,alB]at hy ⊢
      simp[hy]
     ·exact .inr (ih h)
   simp only[evs,uH,uz,rB];exact .inr (.inr (.inr (this l ha)))
theorem zoq(e:Ex)(a:Al)(h:a∈zad e):∀y∈alVs a,y∈nms e:=by
 intro y hy;cases e with
 |cs b l =>
  have:∀l:List Al,a∈l->y∈(evsA l).flatMap useOf:=λl=>by
   induction l with
   |nil=>intro h;cases h
   |cons c r ih =>
    intro h;rw[evsA,uA,uz]
    rcases uT.1 h with rfl|h
    ·left
     cases a
     simp[evs1,alVs,useOf]at hy ⊢
     simp[hy]
    ·exact .inr (ih h)
  unfold nms;simp only[evs,uH,uA,uz];exact .inr (.inr (.inr (this l h)))
 |_=>simp[zad]at h
theorem zpm(a:Al):ag1 a=(rep [] (alVs a)).or (ag (alB a)):=by cases a;exact zpi _ _ _
def AgOK(n:Nat):Prop:=∀(e:Ex)(S:Nat->Prop)(v:Value)(w:World),e.size<=n->RdX S w e v->(∀g,S g->g<w.heap.size)->e.wt<=500000->(∀x∈nms e,x≠[]) ->
 Calls Tryz.prog 69 #[v] w λen w'=>en=.returned (.string (onm (ag e)))/\Below w.heap.size w w'
theorem zgG(n:Nat)(IH:AgOK n)(e:Ex)(S:Nat->Prop)(v:Value)(w:World)(aG:e.size<=n+1)(hv:RdX S w e v)(hS:∀g,S g->g<w.heap.size)(du:e.wt<=500000)(eC:∀x∈nms e,x≠[]):Calls Tryz.prog 69 #[v] w λen w'=>en=.returned (.string (onm (ag e)))/\Below w.heap.size w w':=by
 obtain⟨K,X,Z,A0,m,q,KA,kc,LA,lc,rfl,bI⟩:=hv.shape;obtain⟨kd,ch⟩:∃x,kdE e=x:=⟨_,rfl⟩;obtain⟨Y,hY⟩:∃Y:ByteArray,⟨(nmE e).toArray⟩=Y:=⟨_,rfl⟩;obtain⟨td,cI⟩:∃x,toE e=x:=⟨_,rfl⟩;obtain⟨kn,bg⟩:∃x,(zac e).length=x:=⟨_,rfl⟩;obtain⟨ln,br⟩:∃x,(zad e).length=x:=⟨_,rfl⟩;rw[ch,hY,cI,bg,br]
 obtain⟨W0,ai⟩:∃W,w.alloc (.cells #[.int .i64 (kd:Nat),.string Y,.bool td,.int .i64 K,.string X,.int .i64 Z,.slice A0 m q,.slice KA kn kc,.slice LA ln lc] 48)=W:=⟨_,rfl⟩;have ax:Below w.heap.size w W0:=ai▸(ua _ w).alloc (tV _) _;have eI:w.heap.size+1<=W0.heap.size/\W0.heap.size<=w.heap.size+1:=by rw[<-ai];simp
 have aa:Blk W0 w.heap.size 48 #[.int .i64 (kd:Nat),.string Y,.bool td,.int .i64 K,.string X,.int .i64 Z,.slice A0 m q,.slice KA kn kc,.slice LA ln lc]:=ai▸tW _ _;have bM:=wJ ax;have bc:=wJ aa;have eo:=wJ bI;have HS:=wJ hS;have fG:=wJ bg;have fT:=wJ br;have bq:=wJ IH;have HN:=wJ (And.intro aG du);have e7:=wJ eC;have l9:=wJ (zmD e);have iQ:kn<=2:=by rw[<-bg];cases e <;> simp[zac]
 have nr:ln<=500000:=by
  have:∀l:List Al,l.length<=wtA l:=λl=>by
   induction l with
   |nil=>exact vK _
   |cons a r ih=>cases a;simp only[wtA,Al.wt,ui];omega
  rw[<-br]
  cases e with
  |cs e l=>have:=this l;simp only[zad,Ex.wt]at *;omega
  |_=>simp[zad]
 obtain⟨R,hR⟩:∃R,ag e=R:=⟨_,rfl⟩;rw[hR]
 have HR:=wJ hR;obtain⟨⟨f0,f1,f2,f3,f4,f5,f6,f7,f8⟩,-,cU⟩:=zab aa;clear bI hS bg br IH aG du ch hY cI hv ax aa eC hR;go_enter Tryz.func69,Tryz.ntmps69
 go_upto_region 1 with fail
 try rw[ai]
 clear ai;go_wp2_with fail
 go_loopg [3] kn (λgg vi wr=>∃i:Nat,gg=kn-i/\vi=.int .i64 (i:Nat)/\i<=kn/\Hid (((zac e).take i).findSome? ag=none)/\Hid (Below W0.heap.size W0 wr))
 case atStart=>exact⟨0,rfl,rfl,by omega,wJ rfl,wJ (ua _ _)⟩
 case round =>
  obtain⟨i,rfl,rfl,hi,hU,eT⟩:=hrel;have dw:=eT.out.size;obtain⟨⟨f0,f1,f2,f3,f4,f5,f6,f7,f8⟩,-,ax⟩:=zab (bc.out.below eT.out (by omega));by_cases ah:i<kn
  ·obtain⟨x,hx⟩:∃x,(zac e)[i]?=some x:=⟨_,ug (by rw[fG.out];exact ah)⟩
   obtain⟨g,rfl,bh,aH⟩:=eo.out.kid i x hx;have an:∀g,S g->wr.heap[g]?=w.heap[g]?:=λg hg=>(eT.out.block g (by have:=HS.out g hg;omega)).trans (bM.out.block g (HS.out g hg));obtain⟨k1,x1,t1,K1,X1,Z1,B1,m1,q1,cE,cz,cA,cD,cw,cy,c0,c1,c2,c3,c4,c5,c6,c7,c8,aq⟩:=(aH.keep (λ_ h=>h) an (an g bh)).cells;have aV:=zaj c0;have ly:=zgi e i x hx;have j8:=uM ly;have jx:=zex e i x ly;have ng:=zeB e x j8;have hH:∀y∈nms x,y≠[]:=λy hy=>e7.out y (zf3 e x j8 y hy);have iw:(0:Int)<=(i:Int):=by omega
   have gV:(i:Int)<(kn:Int):=by omega
   have h1:=bq.out x S _ wr (by have:=HN.out.1;omega) aq (λg hg=>by have:=HS.out g hg;omega) (by have:=HN.out.2;omega) hH;have bf:=zcQ (ag x) (λy hy=>zjs hH y hy);obtain⟨O,hO⟩:∃O,ag x=O:=⟨_,rfl⟩;rw[hO]at h1 bf
   have aO:Hid (∀y,O=some y->R=some y):=wJ λy hy=>by rw[<-HR.out,l9.out,zg9 ag _ i x y hx hU.out (hO.trans hy)];rfl
   have bP:Hid (O=none->((zac e).take (i+1)).findSome? ag=none):=wJ λhy=>by rw[zei ag _ i x hx,hU.out,hO,hy];rfl
   obtain⟨T,hT⟩:∃T,onm O=T:=⟨_,rfl⟩;rw[hT]at h1 bf
   have HT:=wJ hT;have ak:=wJ h1;clear hx bh aH an aq ly j8 jx ng hH h1 hO hT;cases O with
   |some y =>
    have ia:(T.toList==[])=false:=bf;clear bf;go_wp2_with fail
    refine ak.out.mono ?_;rintro e' w2 ⟨rfl,b2⟩;have ar:=wJ (eT.out.trans (b2.mono dw));clear b2 ak;go_wp2_with fail
    go_ret
    exact⟨by rw[aO.out y rfl,<-HT.out];rfl,bM.out.trans (ar.out.mono (by omega))⟩
   |none =>
    have ia:(T.toList==[])=true:=bf;clear bf;go_wp2_with fail
    refine ak.out.mono ?_;rintro e' w2 ⟨rfl,b2⟩;have ar:=wJ (eT.out.trans (b2.mono dw));clear b2 ak;go_wp2_with fail
    go_roundg (kn-(i+1))
    case measure=>omega
    case rel=>exact⟨i+1,rfl,by go_num,by omega,wJ (bP.out (by first|rfl|trivial)),ar⟩
  ·have jg:i=kn:=by omega
   subst jg;clear f0 f1 f2 f3 f4 f5 f6;have oZ:Hid ((zac e).findSome? ag=none):=wJ (by have:=hU.out;rwa [ur (by rw[fG.out];exact tV _)]at this);clear hU;go_wp2_with fail
   go_loopg [5] ln (λgg vi wx=>∃j:Nat,gg=ln-j/\vi=.int .i64 (j:Nat)/\j<=ln/\Hid (((zad e).take j).findSome? ag1=none)/\Hid (Below W0.heap.size W0 wx))
   case atStart=>exact⟨0,rfl,rfl,by omega,wJ rfl,eT⟩
   case round =>
    obtain⟨j,rfl,rfl,hj,hU,eh⟩:=hrel;have jx:=eh.out.size;have ax:w.heap.size<wr.heap.size:=by omega
    have f8:=(bc.out.below eh.out (by omega)).cell 8;replace f8:wr.cell? ⟨w.heap.size,8,none⟩=some (.slice LA ln lc):=f8;by_cases cg:j<ln
    ·obtain⟨x,hx⟩:∃x,(zad e)[j]?=some x:=⟨_,ug (by rw[fT.out];exact cg)⟩
     obtain⟨g,rfl,bh,aH⟩:=eo.out.alt j x hx;have an:∀g,S g->wr.heap[g]?=w.heap[g]?:=λg hg=>(eh.out.block g (by have:=HS.out g hg;omega)).trans (bM.out.block g (HS.out g hg));obtain⟨V,⟨vv,hvv⟩,-,a1,dv,bQ⟩:=AlIn.cellsV (AlIn.keep (λ_ h=>h) an x g _ (an g bh) aH);replace a1:wr.cell? ⟨g,j*11+1,none⟩=some (.slice V (alVs x).length vv):=a1;have aV:=zaj a1;have hma:=uM hx;have ly:=zgj e j x hx;have j8:=uM ly;have aG:=zex e _ (alB x) ly;have ng:=zeB e (alB x) j8;have gl:(alVs x).length<=500000:=by
      have:=HN.out.2;have h3:=(zfl (λ_=>[]) (λ_ _=>[]) (λa=>alVs a) (λ_ _=>vK _) (λ_=>vK _) (λa=>by cases a;simp only[alVs,Al.wt];omega) e j x hx).1;omega
     have hH:∀y∈nms (alB x),y≠[]:=λy hy=>e7.out y (zf3 e _ j8 y hy);have hnv:∀y,rep [] (alVs x)=some y->y≠[]:=λy hy=>e7.out y (zoq e x hma y (zcc hy));have iw:(0:Int)<=(j:Int):=by omega
     have gV:(j:Int)<(ln:Int):=by omega
     have hRV:=NmsIn.row dv (λg hg=>by have:=HS.out g hg;omega) vv;have pk:=zeI V vv (alVs x) wr (wJ hRV) hvv (by omega);have mG:=zpm x;obtain⟨vn,dU⟩:∃n,(alVs x).length=n:=⟨_,rfl⟩;rw[dU]at pk a1
     obtain⟨P,hP⟩:∃P,rep [] (alVs x)=P:=⟨_,rfl⟩;obtain⟨O,hO⟩:∃O,ag (alB x)=O:=⟨_,rfl⟩;rw[hP]at hnv mG
     rw[hO]at mG
     have fJ:=zcQ P hnv;have eV:=zcQ O (λy hy=>zjs hH y (hO.trans hy));obtain⟨TP,kC⟩:∃T,onm P=T:=⟨_,rfl⟩;obtain⟨TO,pP⟩:∃T,onm O=T:=⟨_,rfl⟩;have jN:Hid (Calls Tryz.prog 120 #[.slice V vn vv] wr λe w'=>e=.returned (.string TP)/\Below wr.heap.size wr w'):=wJ (by rw[<-kC,onm,<-hP];exact pk);have tC:=wJ bQ;have ed:Hid (∀W:World,Below wr.heap.size wr W->∃(k1:Int) (x1:ByteArray) (t1:Bool) (K1:Int) (X1:ByteArray) (Z1:Int) (B1:Option Addr) (m1 q1:Nat) (cE:Option Addr) (cz cA:Nat) (cD:Option Addr) (cw cy:Nat),W.cell? ⟨g,j*11+2,none⟩=some (.int .i64 k1)/\W.cell? ⟨g,j*11+2+1,none⟩=some (.string x1)/\W.cell? ⟨g,j*11+2+2,none⟩=some (.bool t1)/\W.cell? ⟨g,j*11+2+3,none⟩=some (.int .i64 K1)/\W.cell? ⟨g,j*11+2+4,none⟩=some (.string X1)/\W.cell? ⟨g,j*11+2+5,none⟩=some (.int .i64 Z1)/\W.cell? ⟨g,j*11+2+6,none⟩=some (.slice B1 m1 q1)/\W.cell? ⟨g,j*11+2+7,none⟩=some (.slice cE cz cA)/\W.cell? ⟨g,j*11+2+8,none⟩=some (.slice cD cw cy) /\
       Calls Tryz.prog 69 #[.agg #[.int .i64 k1,.string x1,.bool t1,.int .i64 K1,.string X1,.int .i64 Z1,.slice B1 m1 q1,.slice cE cz cA,.slice cD cw cy]] W (λen w'=>en=.returned (.string TO)/\Below wr.heap.size wr w')):=wJ λW eR=>by
      obtain⟨k1,x1,t1,K1,X1,Z1,B1,m1,q1,cE,cz,cA,cD,cw,cy,c0,c1,c2,c3,c4,c5,c6,c7,c8,aq⟩:=(tC.out.keep (λ_ h=>h) (λg hg=>eR.block g (by have:=HS.out g hg;omega)) (eR.block g (by have:=HS.out g bh;omega))).cells;refine⟨k1,x1,t1,K1,X1,Z1,B1,m1,q1,cE,cz,cA,cD,cw,cy,c0,c1,c2,c3,c4,c5,c6,c7,c8,?_⟩;have h1:=bq.out (alB x) S _ W (by have:=HN.out.1;omega) aq (λg hg=>by have:=HS.out g hg;have:=eR.size;omega) (by have:=HN.out.2;omega) hH;rw[hO,pP]at h1
      exact h1.mono λen w' ⟨k1,k3⟩=>⟨k1,eR.trans (k3.mono eR.size)⟩
     have aO:Hid (∀y,P.or O=some y->R=some y):=wJ λy hy=>by rw[<-HR.out,l9.out,oZ.out,Option.none_or,zg9 ag1 _ j x y hx hU.out (mG.trans hy)]
     have bP:Hid (P.or O=none->((zad e).take (j+1)).findSome? ag1=none):=wJ λhy=>by rw[zei ag1 _ j x hx,hU.out,mG,hy];rfl
     rw[kC]at fJ
     rw[pP]at eV
     have HTP:=wJ kC;have HTO:=wJ pP;clear hx bh aH an hma ly j8 aG ng hH hnv bQ dv gl hvv hRV pk mG hP hO kC pP dU tC hU;cases P with
     |some y =>
      have ia:(TP.toList==[])=false:=fJ;clear fJ eV;go_wp2_with fail
      refine jN.out.mono ?_;rintro e' w2 ⟨rfl,b2⟩;have ar:=wJ (eh.out.trans (b2.mono jx));clear b2 jN ed;go_wp2_with fail
      go_ret
      exact⟨by rw[aO.out y rfl,<-HTP.out];rfl,bM.out.trans (ar.out.mono (by omega))⟩
     |none =>
      have ia:(TP.toList==[])=true:=fJ;clear fJ;go_wp2_with fail
      refine jN.out.mono ?_;rintro e' w2 ⟨rfl,b2⟩;have bo:=b2.size;have f8:=(b2.cell (p:=⟨w.heap.size,8,none⟩) ax).trans f8;obtain⟨k1,x1,t1,K1,X1,Z1,B1,m1,q1,cE,cz,cA,cD,cw,cy,c0,c1,c2,c3,c4,c5,c6,c7,c8,bC⟩:=ed.out w2 b2;have aV:=zaj c0;have ak:=wJ bC;clear b2 jN ed bC;cases O with
      |some y =>
       have hne3:(TO.toList==[])=false:=eV;clear eV;go_wp2_with fail
       refine ak.out.mono ?_;rintro e' w3 ⟨rfl,b3⟩;have bU:=wJ (eh.out.trans (b3.mono jx));clear b3 ak;go_wp2_with fail
       go_ret
       exact⟨by rw[aO.out y rfl,<-HTO.out];rfl,bM.out.trans (bU.out.mono (by omega))⟩
      |none =>
       have hne3:(TO.toList==[])=true:=eV;clear eV;go_wp2_with fail
       refine ak.out.mono ?_;rintro e' w3 ⟨rfl,b3⟩;have bU:=wJ (eh.out.trans (b3.mono jx));clear b3 ak;go_wp2_with fail
       go_roundg (ln-(j+1))
       case measure=>omega
       case rel=>exact⟨j+1,rfl,by go_num,by omega,wJ (bP.out (by first|rfl|trivial)),bU⟩
    ·have kY:j=ln:=by omega
     subst kY;have ir:Hid (R=none):=wJ (by
      have:=hU.out;rw[ur (by rw[fT.out];exact tV _)]at this
      rw[<-HR.out,l9.out,oZ.out,this];rfl)
     clear hU;go_wp2_with fail
     go_ret
     exact⟨by rw[ir.out];rfl,bM.out.trans (eh.out.mono (by omega))⟩
theorem zmM(n:Nat):AgOK n:=by
 induction n with
 |zero=>intro e S v w aG;have:1<=e.size:=by { cases e <;> simp only[Ex.size] <;> omega };omega
 |succ n ih=>intro e S v w aG hv hS du eC;exact zgG n ih e S v w aG hv hS du eC
end Go.Proofs.YtknkclefoiohpaaGreatDoor
namespace Go.Proofs.YtknkclefoiohpaaGreatDoor
open Go.RowKit Lx Tx Sx
set_option maxRecDepth 100000
theorem zhc {g j bx:Nat} {tb:TypeId} {cs:Array Value} {wc w5:World} {A:Option Addr} {n c:Nat} {o:Obj} {v:Value}(hg:(wc.drew.alloc o).grownBy w5 (Value.slice A n c).ownBlock)
  (hx:∀k,(Value.slice A n c).ownBlock=some k->k≠bx)(hgx:g≠bx)(hb:Blk wc bx tb cs):Blk (w5.setCell ⟨g,j,none⟩ v) bx tb cs:=by
 have ah:=hb.lt;refine Eq.trans ?_ hb;refine(tY w5 ⟨g,j,none⟩ _ bx (λe=>hgx e.symm)).trans ((hg.block bx (by simp;omega) (λe=>hx _ e.symm rfl)).trans ?_);exact uc wc _ _ ah
theorem zhd {x:Nat} {A:Nat->Option Addr} {g3 n c:Nat} {H:World}(h:∀k,k<4->obk (A k)≠some x)(j:Nat)(hj:j<4)(aH:(Value.slice (A j) n c).ownBlock=some g3\/g3=H.heap.size)(hx:x<H.heap.size):∀k,k<4->obk (upd A j (some ⟨g3,0,none⟩) k)≠some x:=by
 intro k hk;by_cases ov:k=j
 ·simp only[upd,ud ov]
  intro e2;injection e2 with e2;replace e2:g3=x:=e2;rcases aH with h1|h1
  ·rw[zaM]at h1
   exact h j hj (e2▸h1)
  ·omega
 ·simp only[upd,ue ov]
  exact h k hk
theorem upd_same {α:Type}(f:Nat->α)(j:Nat)(x:α):upd f j x j=x:=by simp[upd]
theorem upd_ne {α:Type}(f:Nat->α)(j k:Nat)(x:α)(h:k≠j):upd f j x k=f k:=by simp[upd,h]
theorem zos {α:Type}(f:Nat->α)(j:Nat)(x y:α):upd (upd f j x) j y=upd f j y:=by
 funext k
 by_cases h:k=j <;> simp[upd,h]
def nxtL(L:Nat->List Nm)(y:De):Nat->List Nm
 |0=>L 0++datOf y
 |1=>L 1++conOf y
 |2=>L 2++sigOf y
 |_=>L 3++bindOf y
theorem TabR.congr {b g:Nat} {A:Nat->Option Addr} {n c:Nat->Nat} {L L':Nat->List Nm} {w:World}(h:TabR b g A n c L w)(he:∀j,j<4->L j=L' j):TabR b g A n c L' w :=
 ⟨h.blk,h.low,λj hj=>by rw[<-he j hj];exact h.own j hj,h.apart,h.off⟩
theorem zhe(b g:Nat)(A:Nat->Option Addr)(n c:Nat->Nat)(L:Nat->List Nm)(S:Nat->Prop)(ps:List Nm)(l:List (Nm × Ty))(s:ByteArray)(V:Option Addr)(vm vq:Nat)(G:Option Addr)(gm gq:Nat)(K0:Int)(X0:ByteArray)(Z0:Int)(B0:Option Addr)(m0 q0:Nat)(k:Int)(x:ByteArray)(t:Bool)(K:Int)(X:ByteArray)(Z:Int)(B:Option Addr)(m q:Nat)(KA:Option Addr)(kn kc:Nat)(LA:Option Addr)(ln lc:Nat)(w:World)
  (hT:TabR b g A n c L w)(aX:b<=w.heap.size)(mz:(L 0).length<=100000)(ft:(L 1).length+l.length<=100000)(jd:ps.length<=100000)(hV:NmsIn S w ps V)(hvm:ps.length=vm)(hcap:vm<=vq)(hG:LstG pcC S w l G)(rZ:l.length=gm)(hS:∀k,S k->k<b)(bf:∀y∈ps,y≠[]):Calls Tryz.prog 66 #[.pointer (some ⟨g,0,none⟩),.agg #[.int .i64 1,.string s,.slice V vm vq,.slice G gm gq,.int .i64 K0,.string X0,.int .i64 Z0,.slice B0 m0 q0,.int .i64 k,.string x,.bool t,.int .i64 K,.string X,.int .i64 Z,.slice B m q,.slice KA kn kc,.slice LA ln lc]] w
   (DcP b g w (if s.data.toList∈L 0\/s.data.toList=wAny then some s.data.toList else(rep [] ps).or (rep (L 1) (conNames l))) (upd (upd L 0 (L 0++[s.data.toList])) 1 (L 1++conNames l))):=by
 obtain⟨i0,bJ,bO,bz,bE⟩:=vz zb1;obtain⟨W0,ai⟩:∃W,w.alloc (.cells #[.int .i64 1,.string s,.slice V vm vq,.slice G gm gq,.int .i64 K0,.string X0,.int .i64 Z0,.slice B0 m0 q0,.int .i64 k,.string x,.bool t,.int .i64 K,.string X,.int .i64 Z,.slice B m q,.slice KA kn kc,.slice LA ln lc] 81)=W:=⟨_,rfl⟩;have aK:Below w.heap.size w W0:=ai▸(ua _ w).alloc (tV _) _;have eI:w.heap.size+1<=W0.heap.size:=by rw[<-ai];simp
 have az:Blk W0 w.heap.size 81 #[.int .i64 1,.string s,.slice V vm vq,.slice G gm gq,.int .i64 K0,.string X0,.int .i64 Z0,.slice B0 m0 q0,.int .i64 k,.string x,.bool t,.int .i64 K,.string X,.int .i64 Z,.slice B m q,.slice KA kn kc,.slice LA ln lc]:=ai▸tW _ _;have iW:=hT.below aK;have kZ:=hT.blk.lt;have av:Hid (∀k,(Value.slice (A 0) (n 0) (c 0)).ownBlock=some k->k≠w.heap.size):=wJ λk hk=>by have:=((hT.own 0 (by decide)).lt k hk).2;omega
 have HOF:Hid (∀j,j<4->obk (A j)≠some w.heap.size):=wJ λj hj e=>by have:=((hT.own j hj).lt _ ((zaM _ _ _).trans e)).2;omega
 obtain⟨qq,j6⟩:∃q,decide (s.data.toList∈L 0)=q:=⟨_,rfl⟩;obtain⟨qa,hqa⟩:∃q,(s.toList==[65,110,121])=q:=⟨_,rfl⟩;have po:decide (s.data.toList=wAny)=qa:=by
  rw[<-hqa,uK]
  by_cases h:s.data.toList=[65,110,121]
  ·rw[show wAny=[65,110,121] from rfl,h];rfl
  ·rw[show wAny=[65,110,121] from rfl,ux h];exact(uo.2 h).symm
 have fe:Hid (∀U,Below W0.heap.size W0 U->Calls Tryz.prog 67 #[.slice (A 0) (n 0) (c 0),.string s] U λe w'=>e=.returned (.bool qq)/\U=w'):=wJ λU hU=>j6▸zbE _ (L 0) s U ((RowV.of_own (iW.own 0 (by decide))).below hU) (by omega);obtain⟨R,hR⟩:∃R,(if s.data.toList∈L 0\/s.data.toList=wAny then some s.data.toList else(rep [] ps).or (rep (L 1) (conNames l)))=R:=⟨_,rfl⟩;have aO:Hid (qq=true\/qa=true->R=some s.data.toList):=wJ λh=>by rw[<-hR];exact ud (h.imp (λh=>vg (j6.trans h)) (λh=>vg (po.trans h)))
 have bP:Hid (qq=false->qa=false->R=(rep [] ps).or (rep (L 1) (conNames l))):=wJ λh h2=>by rw[<-hR];exact ue (λh3=>h3.elim (vh (j6.trans h)) (vh (po.trans h2)))
 rw[hR]
 have rO:n 0<=100000:=by rw[hT.len 0 (by decide)];exact mz
 obtain⟨P,hP⟩:∃P,rep [] ps=P:=⟨_,rfl⟩;rw[hP]at bP
 have fJ:=zcQ P (λy hy=>bf y (zcc (hP.trans hy)));obtain⟨TP,kC⟩:∃T,onm P=T:=⟨_,rfl⟩;rw[kC]at fJ
 have jN:Hid (∀U,Below b w U->Calls Tryz.prog 120 #[.slice V vm vq] U λe w'=>e=.returned (.string TP)/\Below U.heap.size U w'):=wJ λU hU=>by
  have:=zeI V vq ps U (wJ (NmsIn.row (hV.keep (λ_ h=>h) (λg hg=>hU.block g (hS g hg))) (λg hg=>by have:=hS g hg;have:=hU.size;omega) vq)) (by omega) (by omega);rw[hvm,hP]at this
  rw[<-kC,onm]
  exact this
 have HG:=wJ hG;have p8:=wJ rZ;have HS:=wJ hS;have mW:=wJ ft;have hgm9:gm<=100000:=by omega
 have HTP:=wJ kC;have mU:=wJ iW;have bT:=wJ aK;have bc:=wJ az;have f0:W0.cell? ⟨w.heap.size,0,none⟩=some (.int .i64 1):=az.cell 0;have f1:W0.cell? ⟨w.heap.size,1,none⟩=some (.string s):=az.cell 1;have cU:=zaj f0;obtain⟨a0,a1,a2,a3,r0,r1,r2,r3,bB⟩:=zae iW.blk;clear hT aK az iW j6 po hR mz ft jd hV hvm hG rZ hS bf hP kC;go_enter Tryz.func66,Tryz.ntmps66
 go_upto_region 1 with fail
 try rw[ai]
 clear ai;go_wp2_with fail
 go_cut [7] from 59 to 65 (λu wx=>u=.bool qq/\Hid (Below W0.heap.size W0 wx))
 case first =>
  go_wp2_with fail
  go_region_with (go_at_call 67;(with_reducible refine(fe.out _ (by first|exact ua _ _|exact(ua _ _).drew)).mono ?_);rintro e w3 ⟨rfl,rfl⟩)
  all_goals
   go_wp2_with fail
   go_meet
   case rel=>exact⟨rfl,wJ (by first|exact ua _ _|exact(ua _ _).drew)⟩
 case rest =>
  obtain⟨rfl,dL⟩:=hcut;have ix:=dL.out.size;have fR:=mU.out.below dL.out;have HTc:=wJ fR;have aJ:=wJ (bT.out.trans (dL.out.mono bT.out.size));have f1:=(dL.out.cell (p:=⟨w.heap.size,1,none⟩) cU).trans f1;clear a0 a1 a2 a3 r0 r1 r2 r3 bB f0 fe;cases qq with
  |true =>
   have hr:=wJ (aO.out (.inl rfl));clear hqa;go_wp2_with fail
   go_ret
   exact⟨aJ.out.mono aX,by rw[hr.out];rfl,λh=>by rw[hr.out]at h;cases h⟩
  |false =>
   cases qa with
   |true =>
    have hr:=wJ (aO.out (.inr rfl));go_wp2_with fail
    go_ret
    exact⟨aJ.out.mono aX,by rw[hr.out];rfl,λh=>by rw[hr.out]at h;cases h⟩
   |false =>
    have hr:=wJ (bP.out rfl rfl);have cR:Hid (∀j u,[Value.string s][j]?=some u->(wc.drew.alloc (.cells #[.string s] 9)).cell? ((⟨wc.heap.size,0,none⟩:Addr).add j)=some u):=wJ (zao _ _ _ _ rfl);have bX:Hid ((wc.drew.alloc (.cells #[.string s] 9)).ownsRow b 9 1 (.slice (A 0) (n 0) (c 0)) (n 0) (Go.Proofs.YtknkclefoiohpaaGreatDoor.strV (L 0))):=wJ ((fR.own 0 (by decide)).alloc _);have fq:Hid (TabR b g A n c L (wc.drew.alloc (.cells #[.string s] 9))):=wJ (fR.below ((ua wc.heap.size wc).drew.alloc (tV _) _));have fU:Hid (Below w.heap.size w (wc.drew.alloc (.cells #[.string s] 9))):=wJ (aJ.out.drew.alloc aJ.out.size _);have nV:=wJ (bc.out.below dL.out cU);obtain⟨a0,a1,a2,a3,r0,r1,r2,r3,bB⟩:=zae fR.blk;clear fR;go_upto_region 16 with fail
    go_cut [7] from 74 to 84 (λu wx=>u=.bool false/\Hid (∃A n c,TabR b g A n c (upd L 0 (L 0++[s.data.toList])) wx/\∀j,j<4->obk (A j)≠some w.heap.size)/\Hid (Below b w wx)/\Hid (Blk wx w.heap.size 81 #[.int .i64 1,.string s,.slice V vm vq,.slice G gm gq,.int .i64 K0,.string X0,.int .i64 Z0,.slice B0 m0 q0,.int .i64 k,.string x,.bool t,.int .i64 K,.string X,.int .i64 Z,.slice B m q,.slice KA kn kc,.slice LA ln lc]))
    case first =>
     go_wp2_with fail
     go_region_law (refine step_append_lies _ (by rfl) _ _ _ (by rfl) b 9 i0 _ 1 16 Tryz.underlying56 bJ bO bz bE rfl (by decide) _ (n 0) (Go.Proofs.YtknkclefoiohpaaGreatDoor.strV (L 0)) (by rfl) bX.out ⟨wc.heap.size,0,none⟩ 1 1 [.string s] rfl rfl cR.out (by intro u hu;simp at hu;subst hu;rfl) (by omega) (by unfold maxLen;omega) (by omega) (by simp;omega) _ rfl ?_;intro g3 c3 w5 aj ab aH ah;have cJ:Blk w5 g 132 #[.slice (A 0) (n 0) (c 0),.slice (A 1) (n 1) (c 1),.slice (A 2) (n 2) (c 2),.slice (A 3) (n 3) (c 3)]:=fq.out.blk.grown ab (λe=>fq.out.off 0 (by decide) (by rw[<-zaM];exact e.symm));obtain⟨d0,d1,d2,d3,e0,e1,e2,e3,qp⟩:=zae cJ;have lh:=wJ (zhc (g:=g) (j:=0) (v:=.slice (some ⟨g3,0,none⟩) (n 0+1) c3) ab (λk hk=>av.out k hk) (by omega) nV.out);have dN:=wJ aj;have bw:=wJ ab;have eN:=wJ aH;clear aj ab aH cJ)
     all_goals
      have gj:=wJ (fU.out.mono aX |>.trans (fq.out.pushB 0 (by decide) (by simp;omega) (v:=.slice (some ⟨g3,0,none⟩) (n 0+1) c3) bw.out));have pV:=wJ (fq.out.push 0 (by decide) s dN.out bw.out eN.out);have pY:=wJ (zhd (x:=w.heap.size) HOF.out 0 (by decide) eN.out (by simp;omega));go_wp2_with fail
      go_meet
      case rel=>exact⟨rfl,wJ ⟨_,_,_,pV.out,pY.out⟩,gj,lh⟩
    case rest =>
     obtain⟨rfl,oG,pR,sB⟩:=hcut;have e2':wc.cell? ⟨w.heap.size,2,none⟩=some (.slice V vm vq):=sB.out.cell 2;have hlx0:=zaj e2';clear a0 a1 a2 a3 r0 r1 r2 r3 bB;go_wp2_with fail
     refine(jN.out wc pR.out).mono ?_;rintro e w6 ⟨rfl,b6⟩;obtain⟨A1,n1,c1,mH,sH⟩:=oG.out;replace mH:=mH.below b6;have HO1:=wJ sH;have sB:=wJ (sB.out.below b6 hlx0);have pR:=wJ (pR.out.trans (b6.mono (by have:=pR.out.size;omega)));clear sH b6 e2';have hsd:=pR.out.size;have ic:=sB.out.lt;clear fq fU cR bX nV jN f1 aJ HTc dL ix av aO bP oG;cases P with
     |some y =>
      have ia:(TP.toList==[])=false:=fJ;have aw:Hid (R=some y):=wJ (by rw[hr.out];rfl);clear fJ;go_wp2_with fail
      go_ret
      exact⟨pR.out,by rw[aw.out,<-HTP.out];rfl,λh=>by rw[aw.out]at h;cases h⟩
     |none =>
      have ia:(TP.toList==[])=true:=fJ;have aw:Hid (R=rep (L 1) (conNames l)):=wJ (by rw[hr.out];rfl);have jD:(conNames l).length=gm:=by rw[conNames,wG];exact p8.out
      have HCL:=wJ jD;have nM:Hid (TabR b g A1 n1 c1 (upd (upd L 0 (L 0++[s.data.toList])) 1 (L 1++(conNames l).take 0)) w6):=wJ (mH.congr (λj hj=>by
       by_cases h:j=1
       ·subst h;rw[upd_same,upd_ne _ _ _ _ (by decide),vW,uW]
       ·rw[upd_ne _ _ _ _ h]))
      clear fJ jD mH;go_wp2_with fail
      obtain⟨wq,rj⟩:∃y,y=w6:=⟨_,rfl⟩;subst rj;go_loopg [9] gm (λgg vi wr=>∃(i:Nat) (A:Nat->Option Addr) (n c:Nat->Nat),gg=gm-i/\vi=.int .i64 (i:Nat)/\i<=gm/\Hid (TabR b g A n c (upd (upd L 0 (L 0++[s.data.toList])) 1 (L 1++(conNames l).take i)) wr)/\Hid (∀j,j<4->obk (A j)≠some w.heap.size)/\Hid (Below b w wr)/\Hid (Blk wr w.heap.size 81 #[.int .i64 1,.string s,.slice V vm vq,.slice G gm gq,.int .i64 K0,.string X0,.int .i64 Z0,.slice B0 m0 q0,.int .i64 k,.string x,.bool t,.int .i64 K,.string X,.int .i64 Z,.slice B m q,.slice KA kn kc,.slice LA ln lc])/\Hid (R=rep (L 1++(conNames l).take i) ((conNames l).drop i)))
      case atStart=>exact⟨0,A1,n1,c1,rfl,rfl,by omega,nM,HO1,pR,sB,wJ (by rw[aw.out,vW,uW];rfl)⟩
      case round =>
       obtain⟨i,A2,n2,c2,rfl,rfl,hi,qA,hOr,lU,hXr,hRr⟩:=hrel;have dw:=lU.out.size;have g3:wr.cell? ⟨w.heap.size,3,none⟩=some (.slice G gm gq):=hXr.out.cell 3;have hltx:=zaj g3;by_cases ah:i<gm
       ·obtain⟨cn,hx⟩:∃cn,l[i]?=some cn:=⟨_,ug (by rw[p8.out];exact ah)⟩
        have jf:i<(conNames l).length:=by rw[HCL.out];exact ah
        have qx:(conNames l)[i]'jf=cn.1:=by
         obtain⟨nA,gY⟩:=uj.1 hx;simp[conNames,gY]
        obtain⟨gc,cs,rfl,bh,⟨Ac,ac,rfl,-⟩,ao⟩:=HG.out.row i cn hx;have an:wr.heap[gc]?=w.heap[gc]?:=lU.out.block gc (HS.out gc bh);have bS:=Lie.keep (w:=w) ao an;obtain⟨Y,hY⟩:∃Y:ByteArray,⟨cn.1.toArray⟩=Y:=⟨_,rfl⟩;have hY2:Y.data.toList=cn.1:=by rw[<-hY]
        have y0:wr.cell? ⟨gc,i*5,none⟩=some (.string Y):=hY▸(bS 0 _ rfl);have aV:=zaj y0;have hgcb:=HS.out gc bh;have iw:(0:Int)<=(i:Int):=by omega
        have gV:(i:Int)<(gm:Int):=by omega
        have be:=zmE (L 1) (conNames l) i jf;rw[qx,<-hY2,<-hRr.out]at be
        obtain⟨q5,jc⟩:∃q,decide (Y.data.toList∈L 1++(conNames l).take i)=q:=⟨_,rfl⟩;have aO:Hid (q5=true->R=some Y.data.toList):=wJ λh=>by rw[be,ud (vg (jc.trans h))]
        have bP:Hid (q5=false->R=rep (L 1++(conNames l).take (i+1)) ((conNames l).drop (i+1))):=wJ λh=>by rw[be,ue (vh (jc.trans h))]
        have oc:(L 1++(conNames l).take i)++[Y.data.toList]=L 1++(conNames l).take (i+1):=by
         rw[uL,ug jf,qx,hY2,uy];rfl
        have hlen:(L 1++(conNames l).take i).length<=100000:=by rw[uf,vN];have:=mW.out;have:=p8.out;omega
        have hTl:=qA.out.len 1 (by decide);rw[upd_same]at hTl
        have fj:n2 1<=99999:=by rw[hTl,uf,vN];have:=mW.out;have:=p8.out;omega
        have hTw:=(qA.out.own 1 (by decide));rw[upd_same]at hTw
        have fe:Hid (∀U,Below wr.heap.size wr U->Calls Tryz.prog 67 #[.slice (A2 1) (n2 1) (c2 1),.string Y] U λe w'=>e=.returned (.bool q5)/\U=w'):=wJ λU hU=>jc▸zbE _ (L 1++(conNames l).take i) Y U ((RowV.of_own hTw).below hU) (by omega);obtain⟨a0,a1,a2,a3,r0,r1,r2,r3,bB⟩:=zae qA.out.blk;have oR:=wJ oc;clear hx jf qx bh ao an bS hY hY2 be jc oc hlen hTl hTw hRr;go_wp2_with fail
        go_cut [10] from 98 to 108 (λu wx=>u=.bool q5/\Hid (Below wr.heap.size wr wx))
        case first =>
         go_wp2_with fail
         go_region_with (go_at_call 67;(with_reducible refine(fe.out _ (by first|exact ua _ _|exact(ua _ _).drew)).mono ?_);rintro e w3 ⟨rfl,rfl⟩)
         all_goals
          go_wp2_with fail
          go_meet
          case rel=>exact⟨rfl,wJ (by first|exact ua _ _|exact(ua _ _).drew)⟩
        case rest =>
         obtain⟨rfl,dL⟩:=hcut;have ix:=dL.out.size;have fR:=qA.out.below dL.out;have aJ:=wJ (lU.out.trans (dL.out.mono (by omega)));have hXc:=hXr.out.below dL.out hltx;have g3:wc.cell? ⟨w.heap.size,3,none⟩=some (.slice (some ⟨gc,0,none⟩) gm gq):=hXc.cell 3;have y0:=(dL.out.cell (p:=⟨gc,i*5,none⟩) aV).trans y0;clear a0 a1 a2 a3 r0 r1 r2 r3 bB fe;cases q5 with
         |true =>
          have aD:=wJ (aO.out rfl);clear fR hXc;go_wp2_with fail
          go_ret
          exact⟨aJ.out,by rw[aD.out];rfl,λh=>by rw[aD.out]at h;cases h⟩
         |false =>
          have aD:=wJ (bP.out rfl);have cR:Hid (∀j u,[Value.string Y][j]?=some u->(wc.drew.alloc (.cells #[.string Y] 9)).cell? ((⟨wc.heap.size,0,none⟩:Addr).add j)=some u):=wJ (zao _ _ _ _ rfl);have bX:Hid ((wc.drew.alloc (.cells #[.string Y] 9)).ownsRow b 9 1 (.slice (A2 1) (n2 1) (c2 1)) (n2 1) (Go.Proofs.YtknkclefoiohpaaGreatDoor.strV (upd (upd L 0 (L 0++[s.data.toList])) 1 (L 1++(conNames l).take i) 1))):=wJ ((fR.own 1 (by decide)).alloc _);have fq:Hid (TabR b g A2 n2 c2 (upd (upd L 0 (L 0++[s.data.toList])) 1 (L 1++(conNames l).take i)) (wc.drew.alloc (.cells #[.string Y] 9))):=wJ (fR.below ((ua wc.heap.size wc).drew.alloc (tV _) _));have fU:Hid (Below b w (wc.drew.alloc (.cells #[.string Y] 9))):=wJ (aJ.out.drew.alloc (show b<=wc.heap.size from by omega) _);have av:Hid (∀k,(Value.slice (A2 1) (n2 1) (c2 1)).ownBlock=some k->k≠w.heap.size):=wJ λk hk e=>hOr.out 1 (by decide) (by rw[<-zaM,hk,e]);have nV:=wJ hXc;obtain⟨a0,a1,a2,a3,r0,r1,r2,r3,bB⟩:=zae fR.blk;clear fR hXc;go_wp2_with fail
          go_region_law (refine step_append_lies _ (by rfl) _ _ _ (by rfl) b 9 i0 _ 1 16 Tryz.underlying56 bJ bO bz bE rfl (by decide) _ (n2 1) (Go.Proofs.YtknkclefoiohpaaGreatDoor.strV (upd (upd L 0 (L 0++[s.data.toList])) 1 (L 1++(conNames l).take i) 1)) (by rfl) bX.out ⟨wc.heap.size,0,none⟩ 1 1 [.string Y] rfl rfl cR.out (by intro u hu;simp at hu;subst hu;rfl) (by omega) (by unfold maxLen;omega) (by omega) (by simp;omega) _ rfl ?_;intro g4 c3 w5 aj ab aH ah;have cJ:Blk w5 g 132 #[.slice (A2 0) (n2 0) (c2 0),.slice (A2 1) (n2 1) (c2 1),.slice (A2 2) (n2 2) (c2 2),.slice (A2 3) (n2 3) (c2 3)]:=fq.out.blk.grown ab (λe=>fq.out.off 1 (by decide) (by rw[<-zaM];exact e.symm));obtain⟨d0,d1,d2,d3,e0,e1,e2,e3,qp⟩:=zae cJ;have lh:=wJ (zhc (g:=g) (j:=1) (v:=.slice (some ⟨g4,0,none⟩) (n2 1+1) c3) ab (λk hk=>av.out k hk) (by omega) nV.out);have dN:=wJ aj;have bw:=wJ ab;have eN:=wJ aH;clear aj ab aH cJ)
          all_goals
           have gj:=wJ (fU.out.trans (fq.out.pushB 1 (by decide) (by simp;omega) (v:=.slice (some ⟨g4,0,none⟩) (n2 1+1) c3) bw.out));have pV:=wJ ((fq.out.push 1 (by decide) Y dN.out bw.out eN.out).congr (L':=upd (upd L 0 (L 0++[s.data.toList])) 1 (L 1++(conNames l).take (i+1))) (λj _=>by rw[zos,upd_same,oR.out]));go_wp2_with fail
           go_roundg (gm-(i+1))
           case measure=>omega
           case rel=>exact⟨i+1,_,_,_,rfl,by go_num,by omega,pV,wJ (zhd (x:=w.heap.size) hOr.out 1 (by decide) eN.out (by simp;omega)),gj,lh,aD⟩
       ·have hig:i=gm:=by omega
        subst hig;have oc:(conNames l).take i=conNames l:=ur (by rw[HCL.out];exact tV _);have aD:Hid (R=none):=wJ (by rw[hRr.out,uD (by rw[HCL.out];exact tV _)];rfl);have HTF:Hid (TabR b g A2 n2 c2 (upd (upd L 0 (L 0++[s.data.toList])) 1 (L 1++conNames l)) wr):=wJ (by have:=qA.out;rwa [oc]at this);clear oc qA hRr;go_wp2_with fail
        go_ret
        exact⟨lU.out,by rw[aD.out];rfl,λ_=>⟨_,_,_,HTF.out⟩⟩
theorem DcP.congr {b g:Nat} {w w':World} {o o':Option Nm} {L L':Nat->List Nm} {e:Ending}(h:DcP b g w o L e w')(ho:o=o')(hl:∀j,j<4->L j=L' j):DcP b g w o' L' e w':=by
 subst ho;exact⟨h.1,h.2.1,λhn=>by obtain⟨A,n,c,hT⟩:=h.2.2 hn;exact⟨A,n,c,hT.congr hl⟩⟩
theorem j4 {P:Nat->Prop}(h0:P 0)(h1:P 1)(h2:P 2)(h3:P 3):∀j,j<4->P j:=λj hj=>match j,hj with
 |0,_=>h0
 |1,_=>h1
 |2,_=>h2
 |3,_=>h3
theorem zfn(l:List (Nm × Ty)):l.length<=za2 l:=by
 induction l with
 |nil=>simp[za2]
 |cons a r ih=>simp only[za2,conW,ui];omega
theorem zjt(b g:Nat)(A:Nat->Option Addr)(n c:Nat->Nat)(L:Nat->List Nm)(y:De)(S:Nat->Prop)(cs:List Value)(w:World)(hT:TabR b g A n c L w)(aX:b<=w.heap.size)(hv:pcD.Cs S w y cs)(hS:∀k,S k->k<b)(ay:De.Ok y)(hl:∀j,j<4->(L j).length+y.wt<=90000):Calls Tryz.prog 66 #[.pointer (some ⟨g,0,none⟩),.agg cs.toArray] w (DcP b g w (tw1 (L 0) (L 1) (L 2) (L 3) y) (nxtL L y)):=by
 cases y with
 |data nm ps l =>
  obtain⟨V,v,G,a,rfl,hV,hG⟩:=hv;have h0:=hl 0 (by decide);have h1:=hl 1 (by decide);have jD:=zfn l;simp only[De.wt]at h0 h1;have:=zhe b g A n c L S ps l ⟨nm.toArray⟩ V ps.length v G l.length a 0 ⟨#[]⟩ 0 none 0 0 0 ⟨#[]⟩ false 0 ⟨#[]⟩ 0 none 0 0 none 0 0 none 0 0 w hT aX (by omega) (by omega) (by omega) hV rfl v.2 hG rfl hS (λy hy=>zb5 (ay.2.1 y hy));exact this.mono λe w' h=>h.congr rfl (j4 (by rw[upd_ne _ _ _ _ (by decide),upd_same];rfl) (by rw[upd_same];rfl) (by rw[upd_ne _ _ _ _ (by decide),upd_ne _ _ _ _ (by decide)];simp[nxtL,sigOf]) (by rw[upd_ne _ _ _ _ (by decide),upd_ne _ _ _ _ (by decide)];simp[nxtL,bindOf]))
 |sig x t =>
  obtain⟨P,a,rfl,-⟩:=hv;have h2:=hl 2 (by decide);have:=zh9 b g A n c L ⟨x.toArray⟩ none 0 0 none 0 0 (kd t:Nat) (nmB t) (nn t:Nat) P (kids t).length a 0 ⟨#[]⟩ false 0 ⟨#[]⟩ 0 none 0 0 none 0 0 none 0 0 w hT aX (by omega);exact this.mono λe w' h=>h.congr rfl (j4 (by rw[upd_ne _ _ _ _ (by decide)];simp[nxtL,datOf]) (by rw[upd_ne _ _ _ _ (by decide)];simp[nxtL,conOf]) (by rw[upd_same];rfl) (by rw[upd_ne _ _ _ _ (by decide)];simp[nxtL,bindOf]))
 |bind x e =>
  obtain⟨P,rfl,-,-⟩:=hv;have h3:=hl 3 (by decide);obtain⟨K,X,Z,B,m,q,hs⟩:=zaT (tyE e) P.A P.a;have hL:exC e P=[.int .i64 (kdE e:Nat),.string ⟨(nmE e).toArray⟩,.bool (toE e),.int .i64 K,.string X,.int .i64 Z,.slice B m q,.slice P.K (zac e).length ((zac e).length+P.k),.slice P.L (zad e).length P.l]:=by rw[exC,hs];rfl
  rw[hL]
  have:=zhb b g A n c L ⟨x.toArray⟩ none 0 0 none 0 0 0 ⟨#[]⟩ 0 none 0 0 (kdE e:Nat) ⟨(nmE e).toArray⟩ (toE e) K X Z B m q P.K (zac e).length ((zac e).length+P.k) P.L (zad e).length P.l w hT aX (by omega);exact this.mono λe w' h=>h.congr rfl (j4 (by rw[upd_ne _ _ _ _ (by decide)];simp[nxtL,datOf]) (by rw[upd_ne _ _ _ _ (by decide)];simp[nxtL,conOf]) (by rw[upd_ne _ _ _ _ (by decide)];simp[nxtL,sigOf]) (by rw[upd_same];rfl))
set_option maxRecDepth 100000
theorem zca(f:De->List Nm)(hf:∀d,(f d).length<=d.wt):∀l:List De,(l.flatMap f).length<=desW l
 |[]=>by simp[desW]
 |d::r=>by
  have:=zca f hf r;have:=hf d;simp only[uH,uf,desW];omega
theorem zkT(l:List De)(i:Nat):desW (l.take i)<=desW l:=by
 induction l generalizing i with
 |nil=>simp
 |cons d r ih =>
  cases i with
  |zero=>simp[desW]
  |succ i=>have:=ih i;simp only[vO,desW];omega
theorem zmO(d:De):(datOf d).length<=d.wt:=by cases d <;> simp[datOf,De.wt]
theorem zhf(d:De):(conOf d).length<=d.wt:=by
 cases d with
 |data n ps cs=>have:=zfn cs;simp only[conOf,conNames,wG,De.wt];omega
 |_=>simp[conOf]
theorem zhg(d:De):(sigOf d).length<=d.wt:=by cases d <;> simp[sigOf,De.wt]
theorem zf7(d:De):(bindOf d).length<=d.wt:=by cases d <;> simp[bindOf,De.wt]
def lstL(l:List De)(i:Nat):Nat->List Nm
 |0=>dats (l.take i)
 |1=>cons (l.take i)
 |2=>sigs (l.take i)
 |_=>binds (l.take i)
theorem zot(l:List De)(i:Nat):∀j,j<4->(lstL l i j).length<=desW l:=by
 have h:=zkT l i;exact j4 (uX (zca datOf zmO _) h) (uX (zca conOf zhf _) h) (uX (zca sigOf zhg _) h) (uX (zca bindOf zf7 _) h)
theorem zkU(l:List De)(i:Nat)(y:De)(h:l[i]?=some y):∀j,j<4->nxtL (lstL l i) y j=lstL l (i+1) j :=
 j4 (zbB datOf l i y h).symm (zbB conOf l i y h).symm (zbB sigOf l i y h).symm (zbB bindOf l i y h).symm
theorem ziO:∀l:List De,l.length<=desW l
 |[]=>tV _
 |x::r=>by
  have:=ziO r;have:1<=x.wt:=by cases x <;> simp[De.wt]
  simp only[ui,desW];omega
theorem zpn {l:List De} {i:Nat} {y:De} {x:Nm}(ay:De.Ok y)(h:twA l i y=some x):x≠[]:=by
 unfold twA tw1 at h;cases y with
 |data n ps cs =>
  simp only at h;split at h
  ·injection h with h;exact h▸zb5 ay.1
  ·cases h1:rep [] ps with
   |some z=>rw[h1]at h;injection h with h;exact h▸zb5 (ay.2.1 z (zcc h1))
   |none =>
    rw[h1,Option.none_or]at h
    obtain⟨c,hc,rfl⟩:=wI.1 (zcc h);exact zb5 (ay.2.2 c hc).1
 |sig n t =>
  simp only at h;split at h
  ·injection h with h;exact h▸zb5 ay.1
  ·cases h
 |bind n e =>
  simp only at h;split at h
  ·injection h with h;exact h▸zb5 ay.1
  ·cases h
def CkP(l:List De)(w:World)(e:Ending)(w':World):Prop:=e=.returned (.tuple #[.string ⟨(chk l).1.toArray⟩,.int .i64 ((chk l).2:Nat)])/\Below w.heap.size w w'
theorem zcW {l:List De} {w w':World} {e:Ending} {x:Nm} {k:Nat}(h:chk l=(x,k))(he:e=.returned (.tuple #[.string ⟨x.toArray⟩,.int .i64 (k:Nat)]))(hb:Below w.heap.size w w'):CkP l w e w':=⟨by rw[h];exact he,hb⟩
theorem zde(Y:ByteArray)(y:Nm)(h:(⟨y.toArray⟩:ByteArray)=Y):Y.data.toList=y:=by rw[<-h]
set_option maxRecDepth 10000000 in
theorem zmP(l:List De)(S:Nat->Prop)(A:Option Addr)(n d:Nat)(w:World)(hl:LstG pcD S w l A)(hn:l.length=n)(hS:∀g,S g->g<w.heap.size)(hw:desW l<=4000)(ay:∀x∈l,De.Ok x):Calls Tryz.prog 25 #[.slice A n d] w (CkP l w):=by
 have kP:Hid ((Tryz.prog.info? 81).map (·.size)=some 17):=wJ (by kernel_rfl);have HINE:Hid ((Tryz.prog.info? 48).map (·.size)=some 9):=wJ (by kernel_rfl);have HL:=wJ hl;have HN:=wJ hn;have HS:=wJ hS;have HW:=wJ hw;have gb:=wJ ay;have pw:n<=4000:=by have:=ziO l;omega
 obtain⟨W0,ai⟩:∃W,w.alloc (.cells #[.slice none 0 0,.slice none 0 0,.slice none 0 0,.slice none 0 0] 132)=W:=⟨_,rfl⟩;have aK:Below w.heap.size w W0:=ai▸(ua _ w).alloc (tV _) _;have eI:w.heap.size+1<=W0.heap.size:=by rw[<-ai];simp
 have bT:=wJ aK;have mU:Hid (TabR w.heap.size w.heap.size (λ_=>none) (λ_=>0) (λ_=>0) (lstL l 0) W0):=wJ
  ⟨ai▸tW _ _,tV _,j4 (uZ _ _ _ _) (uZ _ _ _ _) (uZ _ _ _ _) (uZ _ _ _ _),λ_ _ _ _ _ _ h=>(by cases h),λ_ _ h=>(by cases h)⟩
 clear hl hn hS hw ay aK;go_enter Tryz.func25,Tryz.ntmps25
 go_upto_region 2 with fail
 try rw[ai]
 clear ai;go_wp2_with fail
 go_loopg [5] n (λgg vi wr=>∃(i:Nat) (A:Nat->Option Addr) (m c:Nat->Nat),gg=n-i/\vi=.int .i64 (i:Nat)/\i<=n/\Hid (TabR w.heap.size w.heap.size A m c (lstL l i) wr)/\Hid (Below w.heap.size w wr)/\Hid (twR l 0=twR l i))
 case atStart=>exact⟨0,_,_,_,rfl,rfl,by omega,mU,bT,wJ rfl⟩
 case round =>
  obtain⟨i,A1,m1,c1,rfl,rfl,hi,hT,hB,hR⟩:=hrel;have dw:=hB.out.size;by_cases ah:i<n
  ·obtain⟨y,hy⟩:∃y,l[i]?=some y:=⟨_,ug (by rw[HN.out];exact ah)⟩
   obtain⟨g,cs,rfl,bh,au,ao⟩:=HL.out.row i y hy;have aV:=HS.out g bh;have hlen:cs.length=17:=pcD.len au;have av:Hid (wr.rangeAt g (i*17) cs):=wJ (Lie.keep (w:=w) ao (hB.out.block g aV));have fc:Hid ((Tryz.prog.info? 81).map (·.size)=some cs.length):=wJ (by rw[hlen];exact kP.out);have hym:=uM hy;have hwy:=zc4 l y hym;have hd:=zjt w.heap.size w.heap.size A1 m1 c1 (lstL l i) y S cs wr hT.out dw (pcD.keep (λ_ h=>h) (λk hk=>hB.out.block k (HS.out k hk)) au) HS.out (gb.out y hym) (λj hj=>by have:=zot l i j hj;have:=HW.out;omega);rw[show tw1 (lstL l i 0) (lstL l i 1) (lstL l i 2) (lstL l i 3) y=twA l i y from rfl]at hd
   have bf:=zcQ (twA l i y) (λx hx=>zpn (gb.out y hym) hx);obtain⟨O,hO⟩:∃O,twA l i y=O:=⟨_,rfl⟩;rw[hO]at hd bf
   obtain⟨T,hTn⟩:∃T,onm O=T:=⟨_,rfl⟩;have HD:Hid (Calls Tryz.prog 66 #[.pointer (some ⟨w.heap.size,0,none⟩),.agg cs.toArray] wr λe w'=>e=.returned (.string T)/\Below w.heap.size wr w'/\(O=none->∃A n c,TabR w.heap.size w.heap.size A n c (lstL l (i+1)) w')):=wJ (hd.mono λe w' ⟨h1,h2,h3⟩=>⟨by rw[h2,<-hTn];rfl,h1,λh=>by obtain⟨A,n,c,h4⟩:=h3 h;exact⟨A,n,c,h4.congr (zkU l i y hy)⟩⟩);rw[hTn]at bf
   have aO:Hid (∀x,O=some x->chk l=(x,90)/\(⟨x.toArray⟩:ByteArray)=T):=wJ λx hx=>⟨zpT hR.out hy (hO.trans hx),by rw[<-hTn,hx];rfl⟩;have bP:Hid (O=none->twR l 0=twR l (i+1)):=wJ λhx=>zmF hR.out hy (hO.trans hx);have iw:(0:Int)<=(i:Int):=by omega
   have gV:(i:Int)<(n:Int):=by omega
   have hglr:g<wr.heap.size:=by omega
   clear hy bh au ao hlen hym hwy hd hO hTn hT hR;cases O with
   |some x =>
    have ia:(T.toList==[])=false:=bf;obtain⟨jj,hxT⟩:=aO.out x rfl;have ff:=wJ jj;have HXT:=wJ hxT;clear bf jj hxT;go_wp2_with ((with_reducible refine wpList_load_mid ?_ 81 (.tmp 31) ?_ g (i*17) ?_ cs _ av.out Tryz.underlying81 ?_ fc.out ?_);(exact rfl);(exact rfl);(exact rfl);(exact rfl))
    refine HD.out.mono ?_;rintro e w2 ⟨rfl,b2,-⟩;have ar:=wJ (hB.out.trans b2);clear b2 HD;go_wp2_with fail
    go_ret2
    exact zcW ff.out (by rw[HXT.out];rfl) ar.out
   |none =>
    have ia:(T.toList==[])=true:=bf;have hr:=wJ (bP.out (by trivial));clear bf;go_wp2_with ((with_reducible refine wpList_load_mid ?_ 81 (.tmp 31) ?_ g (i*17) ?_ cs _ av.out Tryz.underlying81 ?_ fc.out ?_);(exact rfl);(exact rfl);(exact rfl);(exact rfl))
    refine HD.out.mono ?_;rintro e w2 ⟨rfl,b2,h2⟩;have ar:=wJ (hB.out.trans b2);obtain⟨A2,m2,c2,oH⟩:=h2 (by trivial);have kL:=wJ oH;clear b2 HD h2 oH;go_wp2_with fail
    go_roundg (n-(i+1))
    case measure=>omega
    case rel=>exact⟨i+1,A2,m2,c2,rfl,by go_num,by omega,kL,ar,hr⟩
  ·have bI:i=n:=by omega
   subst bI;have hfin:∃(A1:Nat->Option Addr) (m1 c1:Nat->Nat),TabR w.heap.size w.heap.size A1 m1 c1 (lstL l l.length) wr:=⟨A1,m1,c1,by rw[HN.out];exact hT.out⟩;have ff:Hid (chk l=chkSg l 0):=wJ (zpU (by rw[HN.out];exact hR.out));clear hT hR mU;obtain⟨W1,aL⟩:∃y,y=wr:=⟨_,rfl⟩;subst aL;obtain⟨A1,m1,c1,hT⟩:=hfin;have e1:lstL l l.length 1=cons l:=by show cons (l.take l.length)=_;rw[List.take_length]
   have e2:lstL l l.length 2=sigs l:=by show sigs (l.take l.length)=_;rw[List.take_length]
   have e3:lstL l l.length 3=binds l:=by show binds (l.take l.length)=_;rw[List.take_length]
   have o1:=hT.own 1 (by decide);have o2:=hT.own 2 (by decide);have o3:=hT.own 3 (by decide);have l2:=hT.len 2 (by decide);rw[e1]at o1
   rw[e2]at o2 l2
   rw[e3]at o3
   obtain⟨AC,hAC⟩:∃x,A1 1=x:=⟨_,rfl⟩;obtain⟨mc,rS⟩:∃x,m1 1=x:=⟨_,rfl⟩;obtain⟨cc,oD⟩:∃x,c1 1=x:=⟨_,rfl⟩;obtain⟨AS,hAS⟩:∃x,A1 2=x:=⟨_,rfl⟩;obtain⟨ms,hms⟩:∃x,m1 2=x:=⟨_,rfl⟩;obtain⟨ks,hks⟩:∃x,c1 2=x:=⟨_,rfl⟩;obtain⟨AB,hAB⟩:∃x,A1 3=x:=⟨_,rfl⟩;obtain⟨mb,nk⟩:∃x,m1 3=x:=⟨_,rfl⟩;obtain⟨cb,hcb⟩:∃x,c1 3=x:=⟨_,rfl⟩;have aa:=hT.blk;rw[hAC,rS,oD]at o1 aa
   rw[hAS,hms,hks]at o2 aa
   rw[hAB,nk,hcb]at o3 aa
   rw[hms]at l2
   have aC:(binds l).length<=4000:=uX (zca bindOf zf7 l) HW.out;have kW:(sigs l).length<=4000:=uX (zca sigOf zhg l) HW.out;have jD:(cons l).length<=4000:=uX (zca conOf zhf l) HW.out;have hms9:ms<=4000:=by omega
   have HHB:Hid (∀U,Below W1.heap.size W1 U->∀(X:ByteArray) (q:Bool),decide (X.data.toList∈binds l)=q->Calls Tryz.prog 67 #[.slice AB mb cb,.string X] U λe w'=>e=.returned (.bool q)/\U=w'):=wJ λU hU X q hq=>hq▸zbE _ _ X U ((RowV.of_own o3).below hU) (by omega);have HHC:Hid (∀U,Below W1.heap.size W1 U->∀(X:ByteArray) (q:Bool),decide (X.data.toList∈cons l)=q->Calls Tryz.prog 67 #[.slice AC mc cc,.string X] U λe w'=>e=.returned (.bool q)/\U=w'):=wJ λU hU X q hq=>hq▸zbE _ _ X U ((RowV.of_own o1).below hU) (by omega);have HRS:=wJ (RowV.of_own o2);have HLS:=wJ l2;have aE:=wJ aa;have ax:w.heap.size<W1.heap.size:=aa.lt;have cT:Hid (∀U,Below W1.heap.size W1 U->U.cell? ⟨w.heap.size,1,none⟩=some (.slice AC mc cc)/\U.cell? ⟨w.heap.size,2,none⟩=some (.slice AS ms ks)/\U.cell? ⟨w.heap.size,3,none⟩=some (.slice AB mb cb)/\w.heap.size<U.heap.size):=wJ λU hU=>by
    have h:=aE.out.below hU ax;exact⟨h.cell 1,h.cell 2,h.cell 3,h.lt⟩
   clear hT o1 o2 o3 l2 e1 e2 e3 hAC rS oD hAS hms hks hAB nk hcb aa aC kW jD;go_wp2_with fail
   go_loopg [7] ms (λgg vi wr=>∃k:Nat,gg=ms-k/\vi=.int .i64 (k:Nat)/\k<=ms/\Hid (chk l=chkSg l k)/\Hid (Below W1.heap.size W1 wr))
   case atStart=>exact⟨0,rfl,rfl,by omega,ff,wJ (ua _ _)⟩
   case round =>
    obtain⟨k,rfl,rfl,hk,sJ,qH⟩:=hrel;have hsk:=qH.out.size;obtain⟨x1,x2,x3,jv⟩:=cT.out wr qH.out;by_cases cg:k<ms
    ·obtain⟨y,hy⟩:∃y,(sigs l)[k]?=some y:=⟨_,ug (by rw[<-HLS.out];exact cg)⟩
     obtain⟨iy,hyk⟩:=uj.1 hy;obtain⟨g,c',heq,ig⟩:=(HRS.out.below qH.out).at_ k (by rw[zaR];exact iy);injection heq with q1 q2 q3;subst q1;obtain⟨Y,hY⟩:∃Y:ByteArray,⟨y.toArray⟩=Y:=⟨_,rfl⟩;have ij:(Go.Proofs.YtknkclefoiohpaaGreatDoor.strV (sigs l))[k]'(by rw[zaR];exact iy)=.string Y:=by rw[<-hY,<-hyk];simp[Go.Proofs.YtknkclefoiohpaaGreatDoor.strV]
     rw[ij]at ig
     have aV:=zaj ig;obtain⟨q,hq⟩:∃q,decide (Y.data.toList∈binds l)=q:=⟨_,rfl⟩;have HH:=wJ (λU (hU:Below wr.heap.size wr U)=>HHB.out U (qH.out.trans (hU.mono hsk)) Y q hq);have aO:Hid (q=false->chk l=(y,92)/\(⟨y.toArray⟩:ByteArray)=Y):=wJ λh=>⟨by rw[sJ.out];exact zkM hy (by have:=vh (hq.trans h);rwa [zde Y y hY]at this),hY⟩;have bP:Hid (q=true->chk l=chkSg l (k+1)):=wJ λh=>by rw[sJ.out];exact zmG hy (by have:=vg (hq.trans h);rwa [zde Y y hY]at this)
     have qZ:(0:Int)<=(k:Int):=by omega
     have qY:(k:Int)<(ms:Int):=by omega
     clear hy iy hyk ij hY hq q2 q3 sJ;go_wp2_with fail
     go_cut [8] from 46 to 57 (λu wx=>u=.bool q/\Hid (Below wr.heap.size wr wx))
     case first =>
      go_wp2_with fail
      go_region_with (go_at_call 67;(with_reducible refine(HH.out _ (by first|exact ua _ _|exact(ua _ _).drew)).mono ?_);rintro e w3 ⟨rfl,rfl⟩)
      all_goals
       go_wp2_with fail
       go_meet
       case rel=>exact⟨rfl,wJ (by first|exact ua _ _|exact(ua _ _).drew)⟩
     case rest =>
      obtain⟨rfl,dL⟩:=hcut;have ar:=wJ (qH.out.trans (dL.out.mono hsk));have ig:=(dL.out.cell (p:=⟨g,k,none⟩) aV).trans ig;clear x1 x2 x3 jv HH;obtain⟨x1,x2,x3,jv⟩:=cT.out wc ar.out;cases q with
      |false =>
       obtain⟨jj,ls⟩:=aO.out rfl;have cH:=wJ jj;have pT:=wJ ls;clear jj ls;go_wp2_with fail
       go_ret2
       exact zcW cH.out (by rw[pT.out];rfl) (hB.out.trans (ar.out.mono dw))
      |true =>
       have hr:=wJ (bP.out (by trivial));go_wp2_with fail
       go_roundg (ms-(k+1))
       case measure=>omega
       case rel=>exact⟨k+1,rfl,by go_num,by omega,hr,ar⟩
    ·have hkm:k=ms:=by omega
     subst hkm;have HCB:Hid (chk l=chkBd l 0):=wJ (by rw[sJ.out,HLS.out];exact zkN);clear sJ;go_wp2_with fail
     go_loopg [9] i (λgg vi wr=>∃j:Nat,gg=i-j/\vi=.int .i64 (j:Nat)/\j<=i/\Hid (chk l=chkBd l j)/\Hid (Below W1.heap.size W1 wr))
     case atStart=>exact⟨0,rfl,rfl,by omega,HCB,qH⟩
     case round =>
      obtain⟨j,rfl,rfl,hj,oM,oN⟩:=hrel;have hsj:=oN.out.size;clear x1 x2 x3 jv;by_cases jA:j<i
      ·obtain⟨y,hy⟩:∃y,l[j]?=some y:=⟨_,ug (by rw[HN.out];exact jA)⟩
       obtain⟨g,cs,rfl,bh,au,ao⟩:=HL.out.row j y hy;have hgl0:=HS.out g bh;have mX:Hid (∀U,Below W1.heap.size W1 U->∀k,k<w.heap.size->U.heap[k]?=w.heap[k]?):=wJ λU hU k hk=>(hU.block k (by omega)).trans (hB.out.block k hk);have l8:Hid (∀U,Below W1.heap.size W1 U->U.rangeAt g (j*17) cs):=wJ λU hU=>Lie.keep (w:=w) ao (mX.out U hU g hgl0);have bS:=l8.out wr oN.out;obtain⟨h0,-⟩:=zk3 au;have f0:wr.cell? ⟨g,j*17,none⟩=some (.int .i64 (kdD y:Nat)):=bS 0 _ h0;have hglj:=zaj f0;have jj0:(0:Int)<=(j:Int):=by omega
       have jj1:(j:Int)<(i:Int):=by omega
       have gB:=wJ au;have HY:=wJ hy;clear bh au ao bS h0 hy;cases y with
       |data nm ps cs2 =>
        replace f0:wr.cell? ⟨g,j*17,none⟩=some (.int .i64 1):=f0;have hr:Hid (chk l=chkBd l (j+1)):=wJ (by rw[oM.out];exact zfm HY.out rfl);clear oM gB l8 mX;go_wp2_with fail
        go_roundg (i-(j+1))
        case measure=>omega
        case rel=>exact⟨j+1,rfl,by go_num,by omega,hr,oN⟩
       |sig nm t =>
        replace f0:wr.cell? ⟨g,j*17,none⟩=some (.int .i64 2):=f0;have hr:Hid (chk l=chkBd l (j+1)):=wJ (by rw[oM.out];exact zfm HY.out rfl);clear oM gB l8 mX;go_wp2_with fail
        go_roundg (i-(j+1))
        case measure=>omega
        case rel=>exact⟨j+1,rfl,by go_num,by omega,hr,oN⟩
       |bind nm e =>
        replace f0:wr.cell? ⟨g,j*17,none⟩=some (.int .i64 3):=f0;have jz:=uM HY.out;have du:e.wt<=4000:=by
         have h1:=zc4 l _ jz;have h2:=HW.out;simp only[De.wt]at h1;omega
        have rM:e.Ok:=(gb.out _ jz).2;have pv:=zck e rM;have ou:=ziP e;obtain⟨es,hes,sg⟩:=zk4 gB.out;have hle:es.length=9:=pcE.len hes;have nR:Hid ((Tryz.prog.info? 48).map (·.size)=some es.length):=wJ (by rw[hle];exact HINE.out);have HRE:Hid (∀U,Below W1.heap.size W1 U->U.rangeAt g (j*17+8) es):=wJ λU hU k u hu=>by
         have:=l8.out U hU (8+k) u (sg k u hu);rw[<-wk]at this
         exact this
        have sC:∀U,Below W1.heap.size W1 U->RdX S U e (.agg es.toArray):=λU hU=>(zdC.2 hes).keep (λ_ h=>h) (λk hk=>mX.out U hU k (HS.out k hk));have sD:∀U,Below W1.heap.size W1 U->∀k,S k->k<U.heap.size:=λU hU k hk=>by have:=HS.out k hk;have:=hU.size;omega
        have qV:=wJ (λU (hU:Below W1.heap.size W1 U)=>zmA e S _ U (sC U hU) (sD U hU) (by omega));have qR:=wJ (λU (hU:Below W1.heap.size W1 U)=>zoh e S _ U (sC U hU) (sD U hU) (by omega));have nU:=wJ (λU (hU:Below W1.heap.size W1 U)=>zoi e S _ U (sC U hU) (sD U hU) (by omega));have mG:=λU (hU:Below W1.heap.size W1 U)=>zmM e.size e S _ U (tV _) (sC U hU) (sD U hU) (by omega) pv;have eV:=zcQ (ag e) (λx hx=>zjs pv x hx);obtain⟨O,hO⟩:∃O,ag e=O:=⟨_,rfl⟩;rw[hO]at mG eV
        obtain⟨T,hT⟩:∃T,onm O=T:=⟨_,rfl⟩;rw[hT]at mG eV
        have qW:=wJ mG;have HTO:=wJ hT;obtain⟨M,hM⟩:∃M,mis (binds l) (cons l) e=M:=⟨_,rfl⟩;have fE:Hid (misB (binds l) (cons l) e 0=M):=wJ hM;have HMY:Hid (∀x k,M=some (x,k)->chk l=(x,k)):=wJ λx k h=>by rw[oM.out];exact zkP HY.out (hM.trans h)
        have HMN:Hid (M=none->chk l=chkBd l (j+1)):=wJ λh=>by rw[oM.out];exact zmH HY.out (hM.trans h)
        have HOA:Hid (∀x,O=some x->misB (binds l) (cons l) e (zas e).length=some (x,90)):=wJ λx h=>zpk (hO.trans h);have HON:Hid (O=none->misB (binds l) (cons l) e (zas e).length=misF (binds l) (cons l) e 0):=wJ λh=>zpl (hO.trans h);have HR0:=wJ (HRE.out wr oN.out);have nt:(zas e).length<=12000:=by omega
        have hlf:(zaF e).length<=12000:=by omega
        have j9:(zaG e).length<=12000:=by omega
        clear jz du rM pv ou hes sg hle sC sD mG hO hT hM gB l8 mX oM HY;go_wp2_with ((with_reducible refine wpList_load_mid ?_ 48 (.tmp 82) ?_ g (j*17+8) ?_ es _ HR0.out Tryz.underlying48 ?_ nR.out ?_);(exact rfl);(exact rfl);(exact rfl);(exact rfl))
        refine(qV.out wr oN.out).mono ?_;rintro e0 w2 ⟨v2,rfl,aw,b2⟩;obtain⟨A2,k2,rfl,fK⟩:=aw.nms;have ar:=wJ (oN.out.trans (b2.mono hsj));have bN:=wJ fK;obtain⟨n2,fj⟩:∃x,(zas e).length=x:=⟨_,rfl⟩;rw[fj]at nt HOA HON ⊢
        have gi:=wJ fj;clear b2 aw fK fj qV HR0 f0;go_wp2_with fail
        go_loopg [11] n2 (λgg vi wx=>∃k:Nat,gg=n2-k/\vi=.int .i64 (k:Nat)/\k<=n2/\Hid (misB (binds l) (cons l) e k=M)/\Hid (Below w2.heap.size w2 wx))
        case atStart=>exact⟨0,rfl,rfl,by omega,fE,wJ (ua _ _)⟩
        case round =>
         obtain⟨k,rfl,rfl,hk,ik,eh⟩:=hrel;have jx:=eh.out.size;have eF:=wJ (ar.out.trans (eh.out.mono ar.out.size));obtain⟨x1,x2,x3,jv⟩:=cT.out wr eF.out;by_cases hlt4:k<n2
         ·obtain⟨y,hy⟩:∃y,(zas e)[k]?=some y:=⟨_,ug (by rw[gi.out];exact hlt4)⟩
          obtain⟨gy,rfl,ox,lX⟩:=zfK bN.out hy;obtain⟨Y,hY⟩:∃Y:ByteArray,⟨y.toArray⟩=Y:=⟨_,rfl⟩;rw[hY]at lX
          have fy:=(eh.out.cell (p:=⟨gy,k,none⟩) ox).trans lX;have lI:=zaj fy;obtain⟨q,hq⟩:∃q,decide (Y.data.toList∈binds l)=q:=⟨_,rfl⟩;have HH:=wJ (λU (hU:Below wr.heap.size wr U)=>HHB.out U (eF.out.trans (hU.mono eF.out.size)) Y q hq);have aO:Hid (q=true->chk l=(y,90)/\(⟨y.toArray⟩:ByteArray)=Y):=wJ λh=>⟨HMY.out y 90 (by rw[<-ik.out];exact zmI hy (by have:=vg (hq.trans h);rwa [zde Y y hY]at this)),hY⟩;have bP:Hid (q=false->misB (binds l) (cons l) e (k+1)=M):=wJ λh=>by rw[<-ik.out];exact(zon hy (by have:=vh (hq.trans h);rwa [zde Y y hY]at this)).symm
          have qZ:(0:Int)<=(k:Int):=by omega
          have qY:(k:Int)<(n2:Int):=by omega
          clear hy hY hq lX ik ox;go_wp2_with fail
          go_cut [12] from 91 to 99 (λu wx=>u=.bool q/\Hid (Below wr.heap.size wr wx))
          case first =>
           go_wp2_with fail
           go_region_with (go_at_call 67;(with_reducible refine(HH.out _ (by first|exact ua _ _|exact(ua _ _).drew)).mono ?_);rintro e w3 ⟨rfl,rfl⟩)
           all_goals
            go_wp2_with fail
            go_meet
            case rel=>exact⟨rfl,wJ (by first|exact ua _ _|exact(ua _ _).drew)⟩
          case rest =>
           obtain⟨rfl,dL⟩:=hcut;have bU:=wJ (eh.out.trans (dL.out.mono jx));have fy:=(dL.out.cell (p:=⟨gy,k,none⟩) lI).trans fy;clear x1 x2 x3 jv HH;cases q with
           |true =>
            obtain⟨jj,ls⟩:=aO.out rfl;have cH:=wJ jj;have pT:=wJ ls;clear jj ls;go_wp2_with fail
            go_ret2
            exact zcW cH.out (by rw[pT.out];rfl) (hB.out.trans ((ar.out.trans (bU.out.mono ar.out.size)).mono dw))
           |false =>
            have hr:=wJ (bP.out (by trivial));go_wp2_with fail
            go_roundg (n2-(k+1))
            case measure=>omega
            case rel=>exact⟨k+1,rfl,by go_num,by omega,hr,bU⟩
         ·have bg:k=n2:=by omega
          subst bg;have dA:=wJ (HRE.out wr eF.out);have hA:=qW.out wr eF.out;have HA:=wJ hA;have nB:g<wr.heap.size:=by have:=eF.out.size;omega
          clear hA x1 x2 x3 jv bN;cases O with
          |some x =>
           have ia:(T.toList==[])=false:=eV;have cH:Hid (chk l=(x,90)):=wJ (HMY.out x 90 (by rw[<-ik.out];exact HOA.out x rfl));clear eV ik;go_wp2_with ((with_reducible refine wpList_load_mid ?_ 48 (.tmp 108) ?_ g (j*17+8) ?_ es _ dA.out Tryz.underlying48 ?_ nR.out ?_);(exact rfl);(exact rfl);(exact rfl);(exact rfl))
           refine HA.out.mono ?_;rintro e0 w4 ⟨rfl,b4⟩;have bZ:=wJ (eF.out.trans (b4.mono eF.out.size));clear b4 HA;go_wp2_with fail
           go_ret2
           exact zcW cH.out (by rw[<-HTO.out];rfl) (hB.out.trans (bZ.out.mono dw))
          |none =>
           have ia:(T.toList==[])=true:=eV;have HMF:Hid (misF (binds l) (cons l) e 0=M):=wJ (by rw[<-ik.out];exact(HON.out rfl).symm);clear eV ik;go_wp2_with ((with_reducible refine wpList_load_mid ?_ 48 (.tmp 108) ?_ g (j*17+8) ?_ es _ dA.out Tryz.underlying48 ?_ nR.out ?_);(exact rfl);(exact rfl);(exact rfl);(exact rfl))
           refine HA.out.mono ?_;rintro e0 w4 ⟨rfl,b4⟩;have bZ:=wJ (eF.out.trans (b4.mono eF.out.size));have qO:=wJ (HRE.out w4 bZ.out);have nB:g<w4.heap.size:=by have:=bZ.out.size;omega
           have HF:=wJ (qR.out w4 bZ.out);clear b4 HA dA;go_wp2_with ((with_reducible refine wpList_load_mid ?_ 48 (.tmp 117) ?_ g (j*17+8) ?_ es _ qO.out Tryz.underlying48 ?_ nR.out ?_);(exact rfl);(exact rfl);(exact rfl);(exact rfl))
           refine HF.out.mono ?_;rintro e0 w5 ⟨v5,rfl,iK,b5⟩;obtain⟨A5,k5,rfl,hm5⟩:=iK.nms;have gk:=wJ (bZ.out.trans (b5.mono bZ.out.size));have nQ:=wJ hm5;obtain⟨n5,hn5⟩:∃x,(zaF e).length=x:=⟨_,rfl⟩;rw[hn5]at hlf ⊢
           have HN5:=wJ hn5;clear b5 iK hm5 hn5 HF qR qO;go_wp2_with fail
           go_loopg [15] n5 (λgg vi wx=>∃k:Nat,gg=n5-k/\vi=.int .i64 (k:Nat)/\k<=n5/\Hid (misF (binds l) (cons l) e k=M)/\Hid (Below w5.heap.size w5 wx))
           case atStart=>exact⟨0,rfl,rfl,by omega,HMF,wJ (ua _ _)⟩
           case round =>
            obtain⟨k,rfl,rfl,hk,ik,iB⟩:=hrel;have rA:=iB.out.size;have pa:=wJ (gk.out.trans (iB.out.mono gk.out.size));obtain⟨x1,x2,x3,jv⟩:=cT.out wr pa.out;by_cases rU:k<n5
            ·obtain⟨y,hy⟩:∃y,(zaF e)[k]?=some y:=⟨_,ug (by rw[HN5.out];exact rU)⟩
             obtain⟨gy,rfl,ox,lX⟩:=zfK nQ.out hy;obtain⟨Y,hY⟩:∃Y:ByteArray,⟨y.toArray⟩=Y:=⟨_,rfl⟩;rw[hY]at lX
             have fy:=(iB.out.cell (p:=⟨gy,k,none⟩) ox).trans lX;have lI:=zaj fy;obtain⟨q,hq⟩:∃q,decide (Y.data.toList∈binds l)=q:=⟨_,rfl⟩;have HH:=wJ (λU (hU:Below wr.heap.size wr U)=>HHB.out U (pa.out.trans (hU.mono pa.out.size)) Y q hq);have aO:Hid (q=false->chk l=(y,91)/\(⟨y.toArray⟩:ByteArray)=Y):=wJ λh=>⟨HMY.out y 91 (by rw[<-ik.out];exact zmJ hy (by have:=vh (hq.trans h);rwa [zde Y y hY]at this)),hY⟩;have bP:Hid (q=true->misF (binds l) (cons l) e (k+1)=M):=wJ λh=>by rw[<-ik.out];exact(zoo hy (by have:=vg (hq.trans h);rwa [zde Y y hY]at this)).symm
             have qZ:(0:Int)<=(k:Int):=by omega
             have qY:(k:Int)<(n5:Int):=by omega
             clear hy hY hq lX ik ox;go_wp2_with fail
             go_cut [16] from 126 to 134 (λu wx=>u=.bool q/\Hid (Below wr.heap.size wr wx))
             case first =>
              go_wp2_with fail
              go_region_with (go_at_call 67;(with_reducible refine(HH.out _ (by first|exact ua _ _|exact(ua _ _).drew)).mono ?_);rintro e w3 ⟨rfl,rfl⟩)
              all_goals
               go_wp2_with fail
               go_meet
               case rel=>exact⟨rfl,wJ (by first|exact ua _ _|exact(ua _ _).drew)⟩
             case rest =>
              obtain⟨rfl,dL⟩:=hcut;have HB6:=wJ (iB.out.trans (dL.out.mono rA));have fy:=(dL.out.cell (p:=⟨gy,k,none⟩) lI).trans fy;clear x1 x2 x3 jv HH;cases q with
              |false =>
               obtain⟨jj,ls⟩:=aO.out rfl;have cH:=wJ jj;have pT:=wJ ls;clear jj ls;go_wp2_with fail
               go_ret2
               exact zcW cH.out (by rw[pT.out];rfl) (hB.out.trans ((gk.out.trans (HB6.out.mono gk.out.size)).mono dw))
              |true =>
               have hr:=wJ (bP.out (by trivial));go_wp2_with fail
               go_roundg (n5-(k+1))
               case measure=>omega
               case rel=>exact⟨k+1,rfl,by go_num,by omega,hr,HB6⟩
            ·have bg:k=n5:=by omega
             subst bg;have HMC:Hid (misC (cons l) e 0=M):=wJ (by rw[<-ik.out,<-HN5.out];exact misF_c.symm);have qN:=wJ (HRE.out wr pa.out);have HC:=wJ (nU.out wr pa.out);have nB:g<wr.heap.size:=by have:=pa.out.size;omega
             clear ik x1 x2 x3 jv nQ;go_wp2_with ((with_reducible refine wpList_load_mid ?_ 48 (.tmp 144) ?_ g (j*17+8) ?_ es _ qN.out Tryz.underlying48 ?_ nR.out ?_);(exact rfl);(exact rfl);(exact rfl);(exact rfl))
             refine HC.out.mono ?_;rintro e0 w7 ⟨v7,rfl,hr7,b7⟩;obtain⟨A7,k7,rfl,hm7⟩:=hr7.nms;have HB7:=wJ (pa.out.trans (b7.mono pa.out.size));have mV:=wJ hm7;obtain⟨n7,rQ⟩:∃x,(zaG e).length=x:=⟨_,rfl⟩;rw[rQ]at j9 ⊢
             have HN7:=wJ rQ;clear b7 hr7 hm7 rQ HC nU qN;go_wp2_with fail
             go_loopg [18] n7 (λgg vi wx=>∃k:Nat,gg=n7-k/\vi=.int .i64 (k:Nat)/\k<=n7/\Hid (misC (cons l) e k=M)/\Hid (Below w7.heap.size w7 wx))
             case atStart=>exact⟨0,rfl,rfl,by omega,HMC,wJ (ua _ _)⟩
             case round =>
              obtain⟨k,rfl,rfl,hk,ik,hBz⟩:=hrel;have aG:=hBz.out.size;have gP:=wJ (HB7.out.trans (hBz.out.mono HB7.out.size));obtain⟨x1,x2,x3,jv⟩:=cT.out wr gP.out;by_cases hlt6:k<n7
              ·obtain⟨y,hy⟩:∃y,(zaG e)[k]?=some y:=⟨_,ug (by rw[HN7.out];exact hlt6)⟩
               obtain⟨gy,rfl,ox,lX⟩:=zfK mV.out hy;obtain⟨Y,hY⟩:∃Y:ByteArray,⟨y.toArray⟩=Y:=⟨_,rfl⟩;rw[hY]at lX
               have fy:=(hBz.out.cell (p:=⟨gy,k,none⟩) ox).trans lX;have lI:=zaj fy;obtain⟨q,hq⟩:∃q,decide (Y.data.toList∈cons l)=q:=⟨_,rfl⟩;have HH:=wJ (λU (hU:Below wr.heap.size wr U)=>HHC.out U (gP.out.trans (hU.mono gP.out.size)) Y q hq);have aO:Hid (q=false->chk l=(y,91)/\(⟨y.toArray⟩:ByteArray)=Y):=wJ λh=>⟨HMY.out y 91 (by rw[<-ik.out];exact zmK hy (by have:=vh (hq.trans h);rwa [zde Y y hY]at this)),hY⟩;have bP:Hid (q=true->misC (cons l) e (k+1)=M):=wJ λh=>by rw[<-ik.out];exact(zop hy (by have:=vg (hq.trans h);rwa [zde Y y hY]at this)).symm
               have qZ:(0:Int)<=(k:Int):=by omega
               have qY:(k:Int)<(n7:Int):=by omega
               clear hy hY hq lX ik ox;go_wp2_with fail
               go_cut [19] from 153 to 161 (λu wx=>u=.bool q/\Hid (Below wr.heap.size wr wx))
               case first =>
                go_wp2_with fail
                go_region_with (go_at_call 67;(with_reducible refine(HH.out _ (by first|exact ua _ _|exact(ua _ _).drew)).mono ?_);rintro e w3 ⟨rfl,rfl⟩)
                all_goals
                 go_wp2_with fail
                 go_meet
                 case rel=>exact⟨rfl,wJ (by first|exact ua _ _|exact(ua _ _).drew)⟩
               case rest =>
                obtain⟨rfl,dL⟩:=hcut;have kU:=wJ (hBz.out.trans (dL.out.mono aG));have fy:=(dL.out.cell (p:=⟨gy,k,none⟩) lI).trans fy;clear x1 x2 x3 jv HH;cases q with
                |false =>
                 obtain⟨jj,ls⟩:=aO.out rfl;have cH:=wJ jj;have pT:=wJ ls;clear jj ls;go_wp2_with fail
                 go_ret2
                 exact zcW cH.out (by rw[pT.out];rfl) (hB.out.trans ((HB7.out.trans (kU.out.mono HB7.out.size)).mono dw))
                |true =>
                 have hr:=wJ (bP.out (by trivial));go_wp2_with fail
                 go_roundg (n7-(k+1))
                 case measure=>omega
                 case rel=>exact⟨k+1,rfl,by go_num,by omega,hr,kU⟩
              ·have bg:k=n7:=by omega
               subst bg;have hr:Hid (chk l=chkBd l (j+1)):=wJ (HMN.out (by rw[<-ik.out,<-HN7.out];exact zmL));clear ik x1 x2 x3 jv mV;go_wp2_with fail
               go_roundg (i-(j+1))
               case measure=>omega
               case rel=>exact⟨j+1,rfl,by go_num,by omega,hr,gP⟩
      ·have hji:j=i:=by omega
       subst hji;have hr:Hid (chk l=([],0)):=wJ (by rw[oM.out,<-HN.out];exact zkO);go_wp2_with fail
       go_ret2
       exact zcW hr.out rfl (hB.out.trans (oN.out.mono dw))
end Go.Proofs.YtknkclefoiohpaaGreatDoor
namespace Go.Proofs.YtknkclefoiohpaaGreatDoor
open Go.RowKit Lx Tx Sx Go.Maps Go.WideMaps Go.Shelf
set_option maxRecDepth 100000
theorem zkV(s:ByteArray)(w:World)(hs:s.size<=maxLen):Calls Tryz.prog 6 #[.string s] w λe w'=>e=.returned (.bool true)/\Below w.heap.size w w':=by
 have HAW:=wJ (zm0 w);have HP:=wJ (λU=>zhT s U hs);have HQ:=wJ (λU=>zmN s U hs);clear hs;go_enter Tryz.func6,Tryz.ntmps6
 go_wp2_with fail
 refine HAW.out.mono ?_;rintro e wa ⟨rfl,ba⟩;have BA:=wJ ba;clear ba HAW;go_wp2_with fail
 refine(HP.out _).mono ?_;rintro e w1 ⟨b1,au⟩;have B1:=wJ (BA.out.trans (b1.mono BA.out.size));clear HP;rcases au with⟨n,hn,hp,rfl⟩|⟨p,L,m,d,ay,du,hp,rfl,hm,hl⟩
 ·have dn:((n:Int) != 0)=true:=neqT _ _ (by omega)
  clear hp hn b1;go_wp2_with fail
  refine(HQ.out _).mono ?_;rintro e w2 ⟨b2,eQ⟩;obtain⟨Q,k,j,i,rfl⟩:∃(Q:Option Addr) (k j i:Nat),e=.returned (.tuple #[.slice Q k j,.int .i64 (i:Nat)]):=by
   rcases eQ with⟨n,-,-,rfl⟩|⟨y,Q,k,j,-,-,-,rfl,-,-⟩
   ·exact⟨none,0,0,n,rfl⟩
   ·exact⟨Q,k,j,0,rfl⟩
  have B2:=wJ (B1.out.trans (b2.mono B1.out.size));clear b2 eQ HQ;go_wp2_with fail
  go_ret
  exact⟨rfl,B2.out⟩
 ·have HC:=wJ (λU (hU:Below w1.heap.size w1 U)=>zhi p (λg=>g<w1.heap.size) L m d U (hl.keep (λg hg=>hg.2) (λg hg=>hU.block g hg.2)) hm (λg hg=>by have:=hU.size;omega) du ay)
  have oW:=wJ hp;have gb:=wJ ay;have sW:=wJ du;clear hp b1 hl hm ay du;go_wp2_with fail
  refine(HQ.out _).mono ?_;rintro e w2 ⟨b2,eQ⟩;rcases eQ with⟨n,hn,j7,rfl⟩|⟨y,Q,k,j,-,-,j7,rfl,hk,eY⟩
  ·rw[oW.out]at j7;cases j7
  ·rw[oW.out]at j7
   injection j7 with j7;subst j7;have HD:=wJ (λU (hU:Below w2.heap.size w2 U)=>zmP p (λg=>g<w2.heap.size) Q k j U (eY.keep (λg hg=>hg.2) (λg hg=>hU.block g hg.2)) hk.symm (λg hg=>by have:=hU.size;omega) sW.out gb.out);have cH:=wJ (HC.out w2 b2);have B2:=wJ (B1.out.trans (b2.mono B1.out.size));clear b2 eY hk HC HQ oW gb sW;obtain⟨x,hx⟩:∃x,(chk p).1=x:=⟨_,rfl⟩;obtain⟨i,hi⟩:∃i,(chk p).2=i:=⟨_,rfl⟩;unfold CkP at HD;rw[hx,hi]at HD cH
   obtain⟨X,hX⟩:∃X:ByteArray,⟨x.toArray⟩=X:=⟨_,rfl⟩;rw[hX]at HD cH
   have dX:(X.toList==X.toList)=true:=by simp
   have dI:(((i:Nat):Int) ==(i:Nat))=true:=by simp
   clear hx hi hX;go_wp2_with fail
   refine cH.out.mono ?_;rintro e w3 ⟨rfl,b3⟩;have B3:=wJ (B2.out.trans (b3.mono B2.out.size));have HD3:=wJ (HD.out w3 b3);clear b3 cH HD;go_wp2_with fail
   refine HD3.out.mono ?_;rintro e w4 ⟨rfl,b4⟩;have B4:=wJ (B3.out.trans (b4.mono B3.out.size));clear b4 HD3;go_wp2_with fail
   go_ret
   exact⟨rfl,B4.out⟩
end Go.Proofs.YtknkclefoiohpaaGreatDoor
