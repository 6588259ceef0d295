import Derived.Test.YtknkclefoiohpaaGreatDoorKaY
import Derived.Deep.CutRange
set_option maxHeartbeats 12800000
namespace Go.Proofs.YtknkclefoiohpaaGreatDoor
open Go.RowKit Lx Tx Sx
set_option maxRecDepth 100000
theorem zkE {S:Nat->Prop} {w:World} {e:Ex} {v:Value}(h:RdX S w e v):∃(Y:ByteArray)(K:Int)(X:ByteArray)(Z:Int)(A0:Option Addr)(m q:Nat)(KA:Option Addr)(kn kc:Nat)(LA:Option Addr)(ln lc:Nat),
  v=.agg #[.int .i64 (kdE e:Nat),.string Y,.bool (toE e),.int .i64 K,.string X,.int .i64 Z,.slice A0 m q,.slice KA kn kc,.slice LA ln lc]/\∀t,tyE e=some t->RdV S w t (.agg #[.int .i64 K,.string X,.int .i64 Z,.slice A0 m q]):=by
 obtain⟨P,rfl,hT,-⟩:=h;obtain⟨K,X,Z,B,m,q,hs⟩:=zaT (tyE e) P.A P.a;refine⟨_,K,X,Z,B,m,q,P.K,_,_,P.L,_,P.l,by rw[exC,hs];rfl,λt ht=>?_⟩;rw[ht]at hs hT
 refine⟨P.A,P.a,?_,hT⟩;exact uC (λl:List Value=>Value.agg l.toArray) hs.symm
theorem zmn(e:Ex):(toE e=true/\∃t,tyE e=some t/\t.size<=e.wt)\/(toE e=false/\kdE e=7/\∃t,tyE e=some t/\t.size<=e.wt)\/(toE e=false/\kdE e≠7/\tyE e=none):=by
 cases e with
 |lt x t a b =>
  cases t with
  |none=>exact .inr (.inr ⟨rfl,by simp[kdE],rfl⟩)
  |some t=>exact .inl ⟨rfl,t,rfl,by simp only[Ex.wt,zdS];omega⟩
 |ann e t=>exact .inr (.inl ⟨rfl,rfl,t,rfl,by simp only[Ex.wt];omega⟩)
 |_=>exact .inr (.inr ⟨rfl,by simp[kdE],rfl⟩)
theorem zmo(n:Nat):∀(e:Ex)(S:Nat->Prop)(v:Value)(w:World),e.size<=n->n<=400000->e.wt<=1000000->RdX S w e v->(∀g,S g->g<w.heap.size) ->
  Calls Tryz.prog 45 #[v] w λen w'=>en=.returned (.bool e.deepT)/\Below w.heap.size w w':=by
 induction n with
 |zero=>intro e S v w h;have:1<=e.size:=by { cases e <;> simp only[Ex.size] <;> omega };omega
 |succ n ih =>
  intro e S v w hn h5 du hv hS;have dW:=zg4 e;have k9:=zfx e;obtain⟨Y,K,X,Z,A0,m,q,KA,kn,kc,LA,ln,lc,rfl,hty⟩:=zkE hv;obtain⟨kd,ch⟩:∃k,kdE e=k:=⟨_,rfl⟩;obtain⟨td,cI⟩:∃k,toE e=k:=⟨_,rfl⟩;have jw:=zmn e;rw[ch,cI]at jw
  rw[ch,cI]at hv ⊢
  obtain⟨W0,ai⟩:∃W,w.alloc (.cells #[.int .i64 (kd:Nat),.string Y,.bool td,.int .i64 K,.string X,.int .i64 Z,.slice A0 m q,.slice KA kn kc,.slice LA ln lc] 48)=W:=⟨_,rfl⟩;have ax:Below w.heap.size w W0:=ai▸(ua _ w).alloc (tV _) _;have eI:w.heap.size+1<=W0.heap.size/\W0.heap.size<=w.heap.size+1:=by rw[<-ai];simp
  have aa:Blk W0 w.heap.size 48 #[.int .i64 (kd:Nat),.string Y,.bool td,.int .i64 K,.string X,.int .i64 Z,.slice A0 m q,.slice KA kn kc,.slice LA ln lc]:=ai▸tW _ _;have eo:Hid (∀W,Below W0.heap.size W0 W->Calls Tryz.prog 51 #[.agg #[.int .i64 (kd:Nat),.string Y,.bool td,.int .i64 K,.string X,.int .i64 Z,.slice A0 m q,.slice KA kn kc,.slice LA ln lc]] W (InP e W)):=wJ λW hb=>zg3 e S _ W (hv.keep (λ_ h=>h) (λg hg=>(hb.block g (by have:=hS g hg;omega)).trans (ax.block g (hS g hg)))) (λg hg=>by have:=hS g hg;have:=hb.size;omega) (by omega);have ej:Hid (∀t,tyE e=some t->t.size<=e.wt->Calls Tryz.prog 86 #[.agg #[.int .i64 K,.string X,.int .i64 Z,.slice A0 m q]] W0 λen w'=>en=.returned (.int .i64 (t.depth:Nat))/\Below W0.heap.size W0 w'):=wJ λt ht hz=>zdI 1000000 t S _ W0 (by omega) (by omega) ((hty t ht).keep (λ_ h=>h) (λg hg=>ax.block g (hS g hg))) (λg hg=>by have:=hS g hg;omega);obtain⟨L,hL⟩:∃L,parts e=L:=⟨_,rfl⟩;obtain⟨pn,dP⟩:∃k,L.length=k:=⟨_,rfl⟩;unfold InP at eo;rw[hL,dP]at eo
  rw[hL,dP]at dW
  rw[hL]at k9
  have hpn9:pn<=400000:=by omega
  have bM:=wJ ax;have bq:=wJ ih;have HN:=wJ (And.intro hn (And.intro h5 du));have HL:=wJ hL;have jP:=wJ dP;have aE:=wJ aa;obtain⟨R,hR⟩:∃R,e.deepT=R:=⟨_,rfl⟩;rw[hR]at k9
  have tE:=wJ k9;have nL:=wJ jw;obtain⟨⟨f0,f1,f2,f3,f4,f5,f6,f7,f8⟩,-,cU⟩:=zab aa;rw[hR]
  clear hv hS hn h5 ih hL dP ax aa hR hty jw du k9 ch cI;go_enter Tryz.func45,Tryz.ntmps45
  go_upto_region 1 with fail
  try rw[ai]
  clear ai;go_cut [18] from 6 to 32 (λu wx=>u=.bool (zbo (tyE e))/\Hid (Below W0.heap.size W0 wx))
  case first =>
   rcases nL.out with⟨rfl,t,ht,hz⟩|⟨rfl,rfl,t,ht,hz⟩|⟨rfl,hk,ht⟩
   ·have HT:=wJ (ej.out t ht hz)
    obtain⟨D,hD⟩:∃D,t.depth=D:=⟨_,rfl⟩;rw[hD]at HT
    have HO:Hid (zbo (tyE e)=decide (50<D)):=wJ (by rw[ht,zbo,hD]);clear ht hz hD ej;go_wp2_with fail
    refine HT.out.mono ?_;rintro en w3 ⟨rfl,b3⟩;have B3:=wJ b3;clear b3 HT;by_cases h50:50<D
    ·have dd:decide ((50:Int)<(D:Int))=true:=uB (by omega)
     go_wp2_with fail
     go_meet
     case rel=>exact⟨by rw[HO.out,uB h50],B3⟩
    ·have dd:decide ((50:Int)<(D:Int))=false:=ux (by omega)
     go_wp2_with fail
     go_meet
     case rel=>exact⟨by rw[HO.out,ux h50],B3⟩
   ·have HT:=wJ (ej.out t ht hz)
    obtain⟨D,hD⟩:∃D,t.depth=D:=⟨_,rfl⟩;rw[hD]at HT
    have HO:Hid (zbo (tyE e)=decide (50<D)):=wJ (by rw[ht,zbo,hD]);clear ht hz hD ej;go_wp2_with fail
    refine HT.out.mono ?_;rintro en w3 ⟨rfl,b3⟩;have B3:=wJ b3;clear b3 HT;by_cases h50:50<D
    ·have dd:decide ((50:Int)<(D:Int))=true:=uB (by omega)
     go_wp2_with fail
     go_meet
     case rel=>exact⟨by rw[HO.out,uB h50],B3⟩
    ·have dd:decide ((50:Int)<(D:Int))=false:=ux (by omega)
     go_wp2_with fail
     go_meet
     case rel=>exact⟨by rw[HO.out,ux h50],B3⟩
   ·have d7:((kd:Int)==7)=false:=by rw[uo];omega
    have HO:Hid (zbo (tyE e)=false):=wJ (by rw[ht];rfl);clear ht ej;go_wp2_with fail
    go_meet
    case rel=>exact⟨by rw[HO.out],wJ (ua _ _)⟩
  case rest =>
   obtain⟨rfl,so⟩:=hcut;have aa:=aE.out.below so.out (by omega);obtain⟨⟨f0,f1,f2,f3,f4,f5,f6,f7,f8⟩,-,cU⟩:=zab aa;have ix:=so.out.size;clear aa ej;obtain⟨d0,jC⟩:∃q,zbo (tyE e)=q:=⟨_,rfl⟩;rw[jC]
   have kR:=wJ jC;clear jC;cases d0 with
   |true =>
    have hr:Hid (R=true):=wJ (by rw[tE.out,kR.out];rfl);go_wp2_with fail
    go_ret
    exact⟨zar hr.out.symm,bM.out.trans (so.out.mono (by omega))⟩
   |false =>
    go_wp2_with fail
    refine(eo.out _ so.out).mono ?_;rintro en w2 ⟨A,c,rfl,hl,b2⟩;have bo:=b2.size;have HLL:=wJ hl;have ar:=wJ (bM.out.trans ((so.out.mono (by omega)).trans (b2.mono (by omega))));clear hl b2 eo f0 f1 f2 f3 f4 f5 f6 f7 f8;go_wp2_with fail
    go_loopg [4] pn (λgg vi wr=>∃i:Nat,gg=pn-i/\vi=.int .i64 (i:Nat)/\i<=pn/\Hid ((L.take i).any Ex.deepT=false)/\Hid (Below w2.heap.size w2 wr))
    case atStart=>exact⟨0,rfl,rfl,by omega,wJ rfl,wJ (ua _ _)⟩
    case round =>
     obtain⟨i,rfl,rfl,hi,hd,hB⟩:=hrel;have dw:=hB.out.size;by_cases ah:i<pn
     ·obtain⟨x,hx⟩:∃x,L[i]?=some x:=⟨_,ug (by rw[jP.out];exact ah)⟩
      obtain⟨g,rfl,bh,aH⟩:=HLL.out.exAt i x hx;have an:∀g,g<w2.heap.size->wr.heap[g]?=w2.heap[g]?:=λg hg=>hB.out.block g hg;obtain⟨k1,x1,t1,K1,X1,Z1,B1,m1,q1,cE,cz,cA,cD,cw,cy,c0,c1,c2,c3,c4,c5,c6,c7,c8,aq⟩:=(aH.keep (λ_ h=>h) an (an g bh)).cells;have aV:=zaj c0;have iw:(0:Int)<=(i:Int):=by omega
      have gV:(i:Int)<(pn:Int):=by omega
      have pd:(parts e)[i]?=some x:=by rw[HL.out];exact hx
      have ly:=zex e i x pd;have ng:=zeB e x (uM pd);have bC:=bq.out x _ _ wr (by have:=HN.out.1;omega) (by have:=HN.out.2.1;omega) (by have:=HN.out.2.2;omega) aq (λg hg=>by omega);obtain⟨D,hD⟩:∃D,x.deepT=D:=⟨_,rfl⟩;have ey:Hid ((L.take (i+1)).any Ex.deepT=D):=wJ (by rw[zhL L i x hx,hd.out,hD];rfl);have HTR:Hid (D=true->R=true):=wJ (λh=>by
       rw[tE.out,kR.out,wD,wB]
       exact⟨x,uM hx,by rw[hD,h]⟩)
      rw[hD]at bC
      have ak:=wJ bC;clear hx bh aH an aq pd ly bC hD ng;go_wp2_with fail
      refine ak.out.mono ?_;rintro en w3 ⟨rfl,b3⟩;have bU:=wJ (hB.out.trans (b3.mono dw));clear b3 ak;cases D with
      |true =>
       go_wp2_with fail
       go_ret
       exact⟨zar (HTR.out (by trivial)).symm,ar.out.trans (bU.out.mono (by have:=ar.out.size;omega))⟩
      |false =>
       go_wp2_with fail
       go_roundg (pn-(i+1))
       case measure=>omega
       case rel=>exact⟨i+1,rfl,by go_num,by omega,ey,bU⟩
     ·have hip:i=pn:=by omega
      subst hip;have hr:Hid (R=false):=wJ (by
       rw[tE.out,kR.out,wD]
       have:=hd.out;rwa [ur (by rw[jP.out];exact tV _)]at this)
      go_wp2_with fail
      go_ret
      exact⟨zar hr.out.symm,ar.out.trans (hB.out.mono (by have:=ar.out.size;omega))⟩
set_option maxRecDepth 100000
theorem zoa(o:List Nm)(e:Ex)(i:Nat)(x:Ex)(hx:(zac e)[i]?=some x):addA (addA o (preC e++Sx.kF (λ_=>cns) e i)) (cns x)=addA o (preC e++Sx.kF (λ_=>cns) e (i+1)):=by
 rw[Sx.kF_snoc _ e i x hx,<-zaU,uy]
theorem zob(o:List Nm)(e:Ex)(i:Nat)(a:Al)(ha:(zad e)[i]?=some a):addA (addA o (preC e++(Sx.kF (λ_=>cns) e (zac e).length++((zad e).take i).flatMap cns1))) (cns1 a)=addA o (preC e++(Sx.kF (λ_=>cns) e (zac e).length++((zad e).take (i+1)).flatMap cns1)):=by
 rw[zb9 cns1 _ i a ha,<-zaU,uy,uy]
theorem zoc(a:Al):cns1 a=[alCn a]++cns (alB a):=by cases a;rfl
theorem zmu(e:Ex)(i:Nat)(k:Ex)(h:(zac e)[i]?=some k):preC e=[]:=by cases e <;> first|rfl|(simp[zac]at h)
theorem zmv(e:Ex)(i:Nat)(k:Ex)(h:(zac e)[i]?=some k):(preC e).length+(Sx.kF (λ_=>cns) e i).length+k.wt<=e.wt:=by
 have:=ziK (λ_=>cns) (λ_=>zbR) e i k h;rw[zmu e i k h,uF]
 omega
theorem zmw(e:Ex)(i:Nat)(a:Al)(h:(zad e)[i]?=some a):preC e=[]:=by cases e <;> first|rfl|(simp[zad]at h)
def CnOK(n:Nat):Prop:=∀(e:Ex)(S:Nat->Prop)(v vo:Value)(o:List Nm)(w:World),e.size<=n->RdX S w e v->(∀g,S g->g<w.heap.size)->RowV w vo (Go.Proofs.YtknkclefoiohpaaGreatDoor.strV o)->o.length+e.wt<=500000 ->
 Calls Tryz.prog 123 #[v,vo] w λen w'=>∃v',en=.returned v'/\RowV w' v' (Go.Proofs.YtknkclefoiohpaaGreatDoor.strV (addA o (cns e)))/\Below w.heap.size w w'
theorem zg7(n:Nat)(IH:CnOK n)(e:Ex)(S:Nat->Prop)(v vo:Value)(o:List Nm)(w:World)(aG:e.size<=n+1)(hv:RdX S w e v)(hS:∀g,S g->g<w.heap.size)(ho:RowV w vo (Go.Proofs.YtknkclefoiohpaaGreatDoor.strV o))(gZ:o.length+e.wt<=500000):Calls Tryz.prog 123 #[v,vo] w λen w'=>∃v',en=.returned v'/\RowV w' v' (Go.Proofs.YtknkclefoiohpaaGreatDoor.strV (addA o (cns e)))/\Below w.heap.size w w':=by
 obtain⟨K,X,Z,A0,m,q,KA,kc,LA,lc,rfl,bI⟩:=hv.shape;obtain⟨kd,ch⟩:∃x,kdE e=x:=⟨_,rfl⟩;obtain⟨Y,hY⟩:∃Y:ByteArray,⟨(nmE e).toArray⟩=Y:=⟨_,rfl⟩;obtain⟨td,cI⟩:∃x,toE e=x:=⟨_,rfl⟩;obtain⟨kn,bg⟩:∃x,(zac e).length=x:=⟨_,rfl⟩;obtain⟨ln,br⟩:∃x,(zad e).length=x:=⟨_,rfl⟩;obtain⟨q2,cf⟩:∃q,decide (kdE e=2)=q:=⟨_,rfl⟩;have d2:((kd:Int)==2)=q2:=by rw[<-ch,<-cf];exact zcP e 2
 have gp:preC e=if q2=true then[Y.data.toList] else[]:=by
  rw[<-cf,<-hY]
  cases e <;> simp[preC,kdE,nmE]
 have dJ:=zn7 e;rw[ch,hY,cI,bg,br]
 rw[bg]at dJ
 obtain⟨W0,ai⟩:∃W,w.alloc (.cells #[.int .i64 (kd:Nat),.string Y,.bool td,.int .i64 K,.string X,.int .i64 Z,.slice A0 m q,.slice KA kn kc,.slice LA ln lc] 48)=W:=⟨_,rfl⟩;have ax:Below w.heap.size w W0:=ai▸(ua _ w).alloc (tV _) _;have eI:w.heap.size+1<=W0.heap.size/\W0.heap.size<=w.heap.size+1:=by rw[<-ai];simp
 have aa:Blk W0 w.heap.size 48 #[.int .i64 (kd:Nat),.string Y,.bool td,.int .i64 K,.string X,.int .i64 Z,.slice A0 m q,.slice KA kn kc,.slice LA ln lc]:=ai▸tW _ _;have ri:1<=e.wt:=wt_pos e;have HO:=wJ (ho.below ax);have tQ:=wJ (zeg vo o Y W0 (ho.below ax) (by omega));have bM:=wJ ax;have bc:=wJ aa;have eo:=wJ bI;have HS:=wJ hS;have fG:=wJ bg;have fT:=wJ br;have bq:=wJ IH;have HN:=wJ (And.intro aG gZ);have kM:=wJ gp;have mu:=wJ dJ;have iQ:kn<=2:=by rw[<-bg];cases e <;> simp[zac]
 have nr:ln<=500000:=by
  have:∀l:List Al,l.length<=wtA l:=λl=>by
   induction l with
   |nil=>exact vK _
   |cons a r ih=>cases a;simp only[wtA,Al.wt,ui];omega
  rw[<-br]
  cases e with
  |cs e l=>have:=this l;simp only[zad,Ex.wt]at *;omega
  |_=>simp[zad]
 obtain⟨⟨f0,f1,f2,f3,f4,f5,f6,f7,f8⟩,-,cU⟩:=zab aa;clear ho bI hS bg br IH aG gZ ch cf hY cI hv ax aa gp dJ;go_enter Tryz.func123,Tryz.ntmps123
 go_upto_if 9 with fail
 try rw[ai]
 clear ai;go_cut [1] from 10 to 13 (λs1 wx=>Hid (RowV wx s1 (Go.Proofs.YtknkclefoiohpaaGreatDoor.strV (addA o (preC e))))/\Hid (Below W0.heap.size W0 wx))
 case first =>
  cases q2 with
  |true =>
   go_wp2_with fail
   refine tQ.out.mono ?_;rintro en w2 ⟨v2,rfl,h2,b2⟩;have H2:=wJ h2;have B2:=wJ b2;clear h2 b2;go_wp2_with fail
   go_meet
   case rel=>exact⟨wJ (by rw[kM.out];exact H2.out),B2⟩
  |false =>
   go_wp2_with fail
   go_meet
   case rel=>exact⟨wJ (by rw[kM.out];exact HO.out),wJ (ua _ _)⟩
 case rest =>
  obtain⟨sG,hB0⟩:=hcut;have tf:Hid (RowV wc u1 (Go.Proofs.YtknkclefoiohpaaGreatDoor.strV (addA o (preC e++Sx.kF (λ_=>cns) e 0)))):=wJ (by rw[Sx.kF,uW];exact sG.out);clear sG f0 f1 f2 f3 f4 f5 f6 f7 f8 tQ;go_wp2_with fail
  go_loopg [1,5] kn (λgg vu vi wr=>∃i:Nat,gg=kn-i/\vi=.int .i64 (i:Nat)/\i<=kn/\Hid (RowV wr vu (Go.Proofs.YtknkclefoiohpaaGreatDoor.strV (addA o (preC e++Sx.kF (λ_=>cns) e i))))/\Hid (Below W0.heap.size W0 wr))
  case atStart=>exact⟨0,rfl,rfl,by omega,tf,hB0⟩
  case round =>
   obtain⟨i,rfl,rfl,hi,hU,eT⟩:=hrel;have dw:=eT.out.size;obtain⟨⟨f0,f1,f2,f3,f4,f5,f6,f7,f8⟩,-,ax⟩:=zab (bc.out.below eT.out (by omega));by_cases ah:i<kn
   ·obtain⟨x,hx⟩:∃x,(zac e)[i]?=some x:=⟨_,ug (by rw[fG.out];exact ah)⟩
    obtain⟨g,rfl,bh,aH⟩:=eo.out.kid i x hx;have an:∀g,S g->wr.heap[g]?=w.heap[g]?:=λg hg=>(eT.out.block g (by have:=HS.out g hg;omega)).trans (bM.out.block g (HS.out g hg));obtain⟨k1,x1,t1,K1,X1,Z1,B1,m1,q1,cE,cz,cA,cD,cw,cy,c0,c1,c2,c3,c4,c5,c6,c7,c8,aq⟩:=(aH.keep (λ_ h=>h) an (an g bh)).cells;have aV:=zaj c0;have jY:=zmv e i x hx;have lu:=(zg5 cns (λ_=>cns) (λ_ _=>tV _) zbR e i x hx).2;have iw:(0:Int)<=(i:Int):=by omega
    have gV:(i:Int)<(kn:Int):=by omega
    have h1:=bq.out x S _ u1 (addA o (preC e++Sx.kF (λ_=>cns) e i)) wr (by have:=HN.out.1;omega) aq (λg hg=>by have:=HS.out g hg;omega) hU.out (by have:=zbl (o:=o) (l:=preC e++Sx.kF (λ_=>cns) e i);rw[uf]at this;have:=HN.out.2;omega);rw[zoa o e i x hx]at h1
    have ak:=wJ h1;clear hx bh aH an aq jY lu h1;go_wp2_with fail
    refine ak.out.mono ?_;rintro e' w2 ⟨v2,rfl,h2,b2⟩;have H2:=wJ h2;have ar:=wJ (eT.out.trans (b2.mono dw));clear h2 b2 ak;go_wp2_with fail
    go_roundg (kn-(i+1))
    case measure=>omega
    case rel=>exact⟨i+1,rfl,by go_num,by omega,H2,ar⟩
   ·have jg:i=kn:=by omega
    subst jg;clear f0 f1 f2 f3 f4 f5 f6;have HUA:Hid (RowV wr u1 (Go.Proofs.YtknkclefoiohpaaGreatDoor.strV (addA o (preC e++(Sx.kF (λ_=>cns) e (zac e).length++((zad e).take 0).flatMap cns1))))):=wJ (by rw[vW,vr,uW,fG.out];exact hU.out);clear hU;go_wp2_with fail
    go_loopg [1,6] ln (λgg vu vi wx=>∃j:Nat,gg=ln-j/\vi=.int .i64 (j:Nat)/\j<=ln/\Hid (RowV wx vu (Go.Proofs.YtknkclefoiohpaaGreatDoor.strV (addA o (preC e++(Sx.kF (λ_=>cns) e (zac e).length++((zad e).take j).flatMap cns1)))))/\Hid (Below W0.heap.size W0 wx))
    case atStart=>exact⟨0,rfl,rfl,by omega,HUA,eT⟩
    case round =>
     obtain⟨j,rfl,rfl,hj,hU,eh⟩:=hrel;have jx:=eh.out.size;have ax:w.heap.size<wr.heap.size:=by omega
     have f8:=(bc.out.below eh.out (by omega)).cell 8;replace f8:wr.cell? ⟨w.heap.size,8,none⟩=some (.slice LA ln lc):=f8;by_cases cg:j<ln
     ·obtain⟨x,hx⟩:∃x,(zad e)[j]?=some x:=⟨_,ug (by rw[fT.out];exact cg)⟩
      obtain⟨g,rfl,bh,aH⟩:=eo.out.alt j x hx;have an:∀g,S g->wr.heap[g]?=w.heap[g]?:=λg hg=>(eh.out.block g (by have:=HS.out g hg;omega)).trans (bM.out.block g (HS.out g hg));obtain⟨V,vv,a0,-,-,bQ⟩:=AlIn.cellsV (AlIn.keep (λ_ h=>h) an x g _ (an g bh) aH);obtain⟨k1,x1,t1,K1,X1,Z1,B1,m1,q1,cE,cz,cA,cD,cw,cy,c0,c1,c2,c3,c4,c5,c6,c7,c8,aq⟩:=bQ.cells;have aV:=zaj c0;obtain⟨jY,lu⟩:=zfl cns (λ_=>cns) cns1 (λ_ _=>tV _) zbR ziG e j x hx;have kX:=zmw e j x hx;have iw:(0:Int)<=(j:Int):=by omega
      have gV:(j:Int)<(ln:Int):=by omega
      obtain⟨OL,nG⟩:∃l,addA o (preC e++(Sx.kF (λ_=>cns) e (zac e).length++((zad e).take j).flatMap cns1))=l:=⟨_,rfl⟩;have gZ:OL.length+1+(alB x).wt<=500000:=by
       have h5:=zbl (o:=o) (l:=preC e++(Sx.kF (λ_=>cns) e (zac e).length++((zad e).take j).flatMap cns1));rw[nG,kX,vC,uf]at h5
       have:=HN.out.2;omega
      obtain⟨C,hC⟩:∃C:ByteArray,⟨(alCn x).toArray⟩=C:=⟨_,rfl⟩;have jJ:C.data.toList=alCn x:=by rw[<-hC]
      rw[hC]at a0
      rw[nG]at hU
      have mv:Hid (∀W,Below wr.heap.size wr W->Calls Tryz.prog 156 #[u1,.string C] W λen w'=>∃v',en=.returned v'/\RowV w' v' (Go.Proofs.YtknkclefoiohpaaGreatDoor.strV (add1 OL C.data.toList))/\Below wr.heap.size wr w'):=wJ λW hb=>(zeg u1 OL C W (hU.out.below hb) (by omega)).mono λen w' ⟨v',h1,h2,h3⟩=>⟨v',h1,h2,hb.trans (h3.mono hb.size)⟩;have ak:Hid (∀(W:World) (v2:Value),Below wr.heap.size wr W->RowV W v2 (Go.Proofs.YtknkclefoiohpaaGreatDoor.strV (add1 OL C.data.toList))->Calls Tryz.prog 123 #[.agg #[.int .i64 k1,.string x1,.bool t1,.int .i64 K1,.string X1,.int .i64 Z1,.slice B1 m1 q1,.slice cE cz cA,.slice cD cw cy],v2] W (λen w'=>∃v',en=.returned v'/\RowV w' v' (Go.Proofs.YtknkclefoiohpaaGreatDoor.strV (addA o (preC e++(Sx.kF (λ_=>cns) e (zac e).length++((zad e).take (j+1)).flatMap cns1))))/\Below wr.heap.size wr w')):=wJ λW v2 eR ao=>by
       have ft:(add1 OL C.data.toList).length<=OL.length+1:=by unfold add1;split <;> simp
       have h1:=bq.out (alB x) S _ v2 (add1 OL C.data.toList) W (by have:=HN.out.1;omega) (aq.keep (λ_ h=>h) (λg hg=>eR.block g (by have:=HS.out g hg;omega))) (λg hg=>by have:=HS.out g hg;have:=eR.size;omega) ao (by omega);have he:addA (add1 OL C.data.toList) (cns (alB x))=addA o (preC e++(Sx.kF (λ_=>cns) e (zac e).length++((zad e).take (j+1)).flatMap cns1)):=by
        rw[<-zob o e j x hx,nG,zoc,jJ,zaU,zmq]
       rw[he]at h1
       exact h1.mono λen w' ⟨v',k1,k2,k3⟩=>⟨v',k1,k2,eR.trans (k3.mono eR.size)⟩
      have mX:Hid (∀W,Below wr.heap.size wr W->W.cell? ⟨w.heap.size,8,none⟩=some (.slice (some ⟨g,0,none⟩) ln lc)/\W.cell? ⟨g,j*11,none⟩=some (.string C)/\W.cell? ⟨g,j*11+2,none⟩=some (.int .i64 k1)/\W.cell? ⟨g,j*11+2+1,none⟩=some (.string x1)/\W.cell? ⟨g,j*11+2+2,none⟩=some (.bool t1)/\W.cell? ⟨g,j*11+2+3,none⟩=some (.int .i64 K1)/\W.cell? ⟨g,j*11+2+4,none⟩=some (.string X1)/\W.cell? ⟨g,j*11+2+5,none⟩=some (.int .i64 Z1)/\W.cell? ⟨g,j*11+2+6,none⟩=some (.slice B1 m1 q1)/\W.cell? ⟨g,j*11+2+7,none⟩=some (.slice cE cz cA)/\W.cell? ⟨g,j*11+2+8,none⟩=some (.slice cD cw cy)):=wJ λW hb=>⟨(hb.cell (p:=⟨w.heap.size,8,none⟩) ax).trans f8,(hb.cell (p:=⟨g,j*11,none⟩) aV).trans a0,(hb.cell (p:=⟨g,j*11+2,none⟩) aV).trans c0,(hb.cell (p:=⟨g,j*11+2+1,none⟩) aV).trans c1,(hb.cell (p:=⟨g,j*11+2+2,none⟩) aV).trans c2,(hb.cell (p:=⟨g,j*11+2+3,none⟩) aV).trans c3,(hb.cell (p:=⟨g,j*11+2+4,none⟩) aV).trans c4,(hb.cell (p:=⟨g,j*11+2+5,none⟩) aV).trans c5,(hb.cell (p:=⟨g,j*11+2+6,none⟩) aV).trans c6,(hb.cell (p:=⟨g,j*11+2+7,none⟩) aV).trans c7,(hb.cell (p:=⟨g,j*11+2+8,none⟩) aV).trans c8⟩;clear hx bh aH an aq jY lu bQ kX nG hC jJ hU;go_wp2_with fail
      go_region_held3 (λW:World=>W.cell? ⟨w.heap.size,8,none⟩=some (.slice (some ⟨g,0,none⟩) ln lc)/\W.cell? ⟨g,j*11,none⟩=some (.string C)/\W.cell? ⟨g,j*11+2,none⟩=some (.int .i64 k1)/\W.cell? ⟨g,j*11+2+1,none⟩=some (.string x1)/\W.cell? ⟨g,j*11+2+2,none⟩=some (.bool t1)/\W.cell? ⟨g,j*11+2+3,none⟩=some (.int .i64 K1)/\W.cell? ⟨g,j*11+2+4,none⟩=some (.string X1)/\W.cell? ⟨g,j*11+2+5,none⟩=some (.int .i64 Z1)/\W.cell? ⟨g,j*11+2+6,none⟩=some (.slice B1 m1 q1)/\W.cell? ⟨g,j*11+2+7,none⟩=some (.slice cE cz cA)/\W.cell? ⟨g,j*11+2+8,none⟩=some (.slice cD cw cy)) (first|exact mX.out _ (ua _ _)|exact mX.out _ (ua _ _).drew|exact mX.out _ B3.out|exact mX.out _ B2.out)
       (first|(go_at_call 156;(with_reducible refine(mv.out _ (by first|exact ua _ _|exact(ua _ _).drew)).mono ?_);rintro en w2 ⟨v2,rfl,h2,b2⟩;have H2:=wJ h2;have B2:=wJ b2;clear h2 b2)|(go_at_call 123;(with_reducible refine(ak.out _ _ B2.out H2.out).mono ?_);rintro en w3 ⟨v3,rfl,h3,b3⟩;have H3:=wJ h3;have B3:=wJ b3;clear h3 b3))
      all_goals
       have bZ:=wJ (eh.out.trans (B3.out.mono jx));go_wp2_with fail
       go_roundg (ln-(j+1))
       case measure=>omega
       case rel=>exact⟨j+1,rfl,by go_num,by omega,H3,bZ⟩
     ·have kY:j=ln:=by omega
      subst kY;have te:Hid (RowV wr u1 (Go.Proofs.YtknkclefoiohpaaGreatDoor.strV (addA o (cns e)))):=wJ (by
       have:=hU.out;rw[ur (by rw[fT.out];exact tV _),fG.out,<-mu.out]at this
       exact this)
      clear hU;go_wp2_with fail
      go_ret
      exact⟨_,rfl,te.out,bM.out.trans (eh.out.mono (by omega))⟩
theorem zod(n:Nat):CnOK n:=by
 induction n with
 |zero=>intro e S v vo o w aG;have:1<=e.size:=by { cases e <;> simp only[Ex.size] <;> omega };omega
 |succ n ih=>intro e S v vo o w aG hv hS ho gZ;exact zg7 n ih e S v vo o w aG hv hS ho gZ
set_option maxRecDepth 100000
theorem zoe(o:List Nm)(e:Ex)(i:Nat)(x:Ex)(hx:(zac e)[i]?=some x):addA (addA o (preB e++Sx.kF (λ_=>bis) e i)) (bis x)=addA o (preB e++Sx.kF (λ_=>bis) e (i+1)):=by
 rw[Sx.kF_snoc _ e i x hx,<-zaU,uy]
theorem zof(o:List Nm)(e:Ex)(i:Nat)(a:Al)(ha:(zad e)[i]?=some a):addA (addA o (preB e++(Sx.kF (λ_=>bis) e (zac e).length++((zad e).take i).flatMap bis1))) (bis1 a)=addA o (preB e++(Sx.kF (λ_=>bis) e (zac e).length++((zad e).take (i+1)).flatMap bis1)):=by
 rw[zb9 bis1 _ i a ha,<-zaU,uy,uy]
theorem zog(a:Al):bis1 a=alVs a++bis (alB a):=by cases a;rfl
theorem zmx(e:Ex):(preB e).length=Sx.bnd e:=by cases e <;> rfl
theorem zmy(e:Ex)(i:Nat)(k:Ex)(h:(zac e)[i]?=some k):(preB e).length+(Sx.kF (λ_=>bis) e i).length+k.wt<=e.wt:=by
 have:=ziK (λ_=>bis) (λ_=>zbS) e i k h;rw[zmx]
 omega
theorem zmz(e:Ex)(i:Nat)(a:Al)(h:(zad e)[i]?=some a):preB e=[]:=by cases e <;> first|rfl|(simp[zad]at h)
def BdOK(n:Nat):Prop:=∀(e:Ex)(S:Nat->Prop)(v vo:Value)(o:List Nm)(w:World),e.size<=n->RdX S w e v->(∀g,S g->g<w.heap.size)->RowV w vo (Go.Proofs.YtknkclefoiohpaaGreatDoor.strV o)->o.length+e.wt<=500000 ->
 Calls Tryz.prog 121 #[v,vo] w λen w'=>∃v',en=.returned v'/\RowV w' v' (Go.Proofs.YtknkclefoiohpaaGreatDoor.strV (addA o (bis e)))/\Below w.heap.size w w'
theorem zfJ(n:Nat)(IH:BdOK n)(e:Ex)(S:Nat->Prop)(v vo:Value)(o:List Nm)(w:World)(aG:e.size<=n+1)(hv:RdX S w e v)(hS:∀g,S g->g<w.heap.size)(ho:RowV w vo (Go.Proofs.YtknkclefoiohpaaGreatDoor.strV o))(gZ:o.length+e.wt<=500000):Calls Tryz.prog 121 #[v,vo] w λen w'=>∃v',en=.returned v'/\RowV w' v' (Go.Proofs.YtknkclefoiohpaaGreatDoor.strV (addA o (bis e)))/\Below w.heap.size w w':=by
 obtain⟨K,X,Z,A0,m,q,KA,kc,LA,lc,rfl,bI⟩:=hv.shape;obtain⟨kd,ch⟩:∃x,kdE e=x:=⟨_,rfl⟩;obtain⟨Y,hY⟩:∃Y:ByteArray,⟨(nmE e).toArray⟩=Y:=⟨_,rfl⟩;obtain⟨td,cI⟩:∃x,toE e=x:=⟨_,rfl⟩;obtain⟨kn,bg⟩:∃x,(zac e).length=x:=⟨_,rfl⟩;obtain⟨ln,br⟩:∃x,(zad e).length=x:=⟨_,rfl⟩;obtain⟨q3,gE⟩:∃q,decide (kdE e=3)=q:=⟨_,rfl⟩;obtain⟨q5,jc⟩:∃q,decide (kdE e=5)=q:=⟨_,rfl⟩;have d3:((kd:Int)==3)=q3:=by rw[<-ch,<-gE];exact zcP e 3
 have d5:((kd:Int)==5)=q5:=by rw[<-ch,<-jc];exact zcP e 5
 have gp:preB e=if(q3||q5)=true then[Y.data.toList] else[]:=by
  rw[<-gE,<-jc,<-hY]
  cases e <;> simp[preB,kdE,nmE]
 have dJ:=zn8 e;rw[ch,hY,cI,bg,br]
 rw[bg]at dJ
 obtain⟨W0,ai⟩:∃W,w.alloc (.cells #[.int .i64 (kd:Nat),.string Y,.bool td,.int .i64 K,.string X,.int .i64 Z,.slice A0 m q,.slice KA kn kc,.slice LA ln lc] 48)=W:=⟨_,rfl⟩;have ax:Below w.heap.size w W0:=ai▸(ua _ w).alloc (tV _) _;have eI:w.heap.size+1<=W0.heap.size/\W0.heap.size<=w.heap.size+1:=by rw[<-ai];simp
 have aa:Blk W0 w.heap.size 48 #[.int .i64 (kd:Nat),.string Y,.bool td,.int .i64 K,.string X,.int .i64 Z,.slice A0 m q,.slice KA kn kc,.slice LA ln lc]:=ai▸tW _ _;have ri:1<=e.wt:=wt_pos e;have HO:=wJ (ho.below ax);have tQ:=wJ (zeg vo o Y W0 (ho.below ax) (by omega));have bM:=wJ ax;have bc:=wJ aa;have eo:=wJ bI;have HS:=wJ hS;have fG:=wJ bg;have fT:=wJ br;have bq:=wJ IH;have HN:=wJ (And.intro aG gZ);have kM:=wJ gp;have mu:=wJ dJ;have iQ:kn<=2:=by rw[<-bg];cases e <;> simp[zac]
 have nr:ln<=500000:=by
  have:∀l:List Al,l.length<=wtA l:=λl=>by
   induction l with
   |nil=>exact vK _
   |cons a r ih=>cases a;simp only[wtA,Al.wt,ui];omega
  rw[<-br]
  cases e with
  |cs e l=>have:=this l;simp only[zad,Ex.wt]at *;omega
  |_=>simp[zad]
 obtain⟨⟨f0,f1,f2,f3,f4,f5,f6,f7,f8⟩,-,cU⟩:=zab aa;clear ho bI hS bg br IH aG gZ ch gE jc hY cI hv ax aa gp dJ;go_enter Tryz.func121,Tryz.ntmps121
 go_upto_region 1 with fail
 try rw[ai]
 clear ai;go_cut [15] from 8 to 19 (λu wx=>u=.bool (q3||q5)/\wx=W0)
 case first =>
  cases q3 with
  |true =>
   go_wp2_with fail
   go_meet
   case rel=>exact⟨rfl,rfl⟩
  |false =>
   go_wp2_with fail
   go_meet
   case rel=>exact⟨rfl,rfl⟩
 obtain⟨rfl,rfl⟩:=hcut;obtain⟨W0,dH⟩:∃y,y=wc:=⟨_,rfl⟩;subst dH;obtain⟨q35,rJ⟩:∃q,(q3||q5)=q:=⟨_,rfl⟩;rw[rJ]at kM ⊢
 clear rJ d3 d5;go_upto_if 15 with fail
 go_cut [1] from 16 to 19 (λs1 wx=>Hid (RowV wx s1 (Go.Proofs.YtknkclefoiohpaaGreatDoor.strV (addA o (preB e))))/\Hid (Below W0.heap.size W0 wx))
 case first =>
  cases q35 with
  |true =>
   go_wp2_with fail
   refine tQ.out.mono ?_;rintro en w2 ⟨v2,rfl,h2,b2⟩;have H2:=wJ h2;have B2:=wJ b2;clear h2 b2;go_wp2_with fail
   go_meet
   case rel=>exact⟨wJ (by rw[kM.out];exact H2.out),B2⟩
  |false =>
   go_wp2_with fail
   go_meet
   case rel=>exact⟨wJ (by rw[kM.out];exact HO.out),wJ (ua _ _)⟩
 case rest =>
  obtain⟨sG,hB0⟩:=hcut;have tf:Hid (RowV wc u1 (Go.Proofs.YtknkclefoiohpaaGreatDoor.strV (addA o (preB e++Sx.kF (λ_=>bis) e 0)))):=wJ (by rw[Sx.kF,uW];exact sG.out);clear sG f0 f1 f2 f3 f4 f5 f6 f7 f8 tQ;go_wp2_with fail
  go_loopg [1,5] kn (λgg vu vi wr=>∃i:Nat,gg=kn-i/\vi=.int .i64 (i:Nat)/\i<=kn/\Hid (RowV wr vu (Go.Proofs.YtknkclefoiohpaaGreatDoor.strV (addA o (preB e++Sx.kF (λ_=>bis) e i))))/\Hid (Below W0.heap.size W0 wr))
  case atStart=>exact⟨0,rfl,rfl,by omega,tf,hB0⟩
  case round =>
   obtain⟨i,rfl,rfl,hi,hU,eT⟩:=hrel;have dw:=eT.out.size;obtain⟨⟨f0,f1,f2,f3,f4,f5,f6,f7,f8⟩,-,ax⟩:=zab (bc.out.below eT.out (by omega));by_cases ah:i<kn
   ·obtain⟨x,hx⟩:∃x,(zac e)[i]?=some x:=⟨_,ug (by rw[fG.out];exact ah)⟩
    obtain⟨g,rfl,bh,aH⟩:=eo.out.kid i x hx;have an:∀g,S g->wr.heap[g]?=w.heap[g]?:=λg hg=>(eT.out.block g (by have:=HS.out g hg;omega)).trans (bM.out.block g (HS.out g hg));obtain⟨k1,x1,t1,K1,X1,Z1,B1,m1,q1,cE,cz,cA,cD,cw,cy,c0,c1,c2,c3,c4,c5,c6,c7,c8,aq⟩:=(aH.keep (λ_ h=>h) an (an g bh)).cells;have aV:=zaj c0;have jY:=zmy e i x hx;have lu:=(zg5 bis (λ_=>bis) (λ_ _=>tV _) zbS e i x hx).2;have iw:(0:Int)<=(i:Int):=by omega
    have gV:(i:Int)<(kn:Int):=by omega
    have h1:=bq.out x S _ u1 (addA o (preB e++Sx.kF (λ_=>bis) e i)) wr (by have:=HN.out.1;omega) aq (λg hg=>by have:=HS.out g hg;omega) hU.out (by have:=zbl (o:=o) (l:=preB e++Sx.kF (λ_=>bis) e i);rw[uf]at this;have:=HN.out.2;omega);rw[zoe o e i x hx]at h1
    have ak:=wJ h1;clear hx bh aH an aq jY lu h1;go_wp2_with fail
    refine ak.out.mono ?_;rintro e' w2 ⟨v2,rfl,h2,b2⟩;have H2:=wJ h2;have ar:=wJ (eT.out.trans (b2.mono dw));clear h2 b2 ak;go_wp2_with fail
    go_roundg (kn-(i+1))
    case measure=>omega
    case rel=>exact⟨i+1,rfl,by go_num,by omega,H2,ar⟩
   ·have jg:i=kn:=by omega
    subst jg;clear f0 f1 f2 f3 f4 f5 f6;have HUA:Hid (RowV wr u1 (Go.Proofs.YtknkclefoiohpaaGreatDoor.strV (addA o (preB e++(Sx.kF (λ_=>bis) e (zac e).length++((zad e).take 0).flatMap bis1))))):=wJ (by rw[vW,vr,uW,fG.out];exact hU.out);clear hU;go_wp2_with fail
    go_loopg [1,6] ln (λgg vu vi wx=>∃j:Nat,gg=ln-j/\vi=.int .i64 (j:Nat)/\j<=ln/\Hid (RowV wx vu (Go.Proofs.YtknkclefoiohpaaGreatDoor.strV (addA o (preB e++(Sx.kF (λ_=>bis) e (zac e).length++((zad e).take j).flatMap bis1)))))/\Hid (Below W0.heap.size W0 wx))
    case atStart=>exact⟨0,rfl,rfl,by omega,HUA,eT⟩
    case round =>
     obtain⟨j,rfl,rfl,hj,hU,eh⟩:=hrel;have jx:=eh.out.size;have ax:w.heap.size<wr.heap.size:=by omega
     have f8:=(bc.out.below eh.out (by omega)).cell 8;replace f8:wr.cell? ⟨w.heap.size,8,none⟩=some (.slice LA ln lc):=f8;by_cases cg:j<ln
     ·obtain⟨x,hx⟩:∃x,(zad e)[j]?=some x:=⟨_,ug (by rw[fT.out];exact cg)⟩
      obtain⟨g,rfl,bh,aH⟩:=eo.out.alt j x hx;have an:∀g,S g->wr.heap[g]?=w.heap[g]?:=λg hg=>(eh.out.block g (by have:=HS.out g hg;omega)).trans (bM.out.block g (HS.out g hg));obtain⟨V,⟨vv,_⟩,-,a1,dv,bQ⟩:=AlIn.cellsV (AlIn.keep (λ_ h=>h) an x g _ (an g bh) aH);replace a1:wr.cell? ⟨g,j*11+1,none⟩=some (.slice V (alVs x).length vv):=a1;have tC:=wJ bQ;have aV:=zaj a1;obtain⟨jY,lu⟩:=zfl bis (λ_=>bis) bis1 (λ_ _=>tV _) zbS ziI e j x hx;have kX:=zmz e j x hx;have iw:(0:Int)<=(j:Int):=by omega
      have gV:(j:Int)<(ln:Int):=by omega
      obtain⟨OL,nG⟩:∃l,addA o (preB e++(Sx.kF (λ_=>bis) e (zac e).length++((zad e).take j).flatMap bis1))=l:=⟨_,rfl⟩;have gZ:OL.length+(alVs x).length+(alB x).wt<=500000:=by
       have h5:=zbl (o:=o) (l:=preB e++(Sx.kF (λ_=>bis) e (zac e).length++((zad e).take j).flatMap bis1));rw[nG,kX,vC,uf]at h5
       have:=HN.out.2;omega
      rw[nG]at hU
      obtain⟨vl,gl⟩:∃l,alVs x=l:=⟨_,rfl⟩;obtain⟨vn,dU⟩:∃n,vl.length=n:=⟨_,rfl⟩;have jV:Hid (addA (addA OL vl) (bis (alB x))=addA o (preB e++(Sx.kF (λ_=>bis) e (zac e).length++((zad e).take (j+1)).flatMap bis1))):=wJ (by
       rw[<-zof o e j x hx,nG,zog,gl,zaU])
      rw[gl,dU]at gZ
      rw[gl]at dv
      rw[gl,dU]at a1
      have kj:=wJ (NmsIn.row dv (λg hg=>by have:=HS.out g hg;omega) vv);rw[dU]at kj
      have jq:=wJ dU;have ed:Hid (∀(W:World) (v2:Value),Below wr.heap.size wr W->RowV W v2 (Go.Proofs.YtknkclefoiohpaaGreatDoor.strV (addA OL vl))->∃(k1:Int) (x1:ByteArray) (t1:Bool) (K1:Int) (X1:ByteArray) (Z1:Int) (B1:Option Addr) (m1 q1:Nat) (cE:Option Addr) (cz cA:Nat) (cD:Option Addr) (cw cy:Nat),W.cell? ⟨g,j*11+2,none⟩=some (.int .i64 k1)/\W.cell? ⟨g,j*11+2+1,none⟩=some (.string x1)/\W.cell? ⟨g,j*11+2+2,none⟩=some (.bool t1)/\W.cell? ⟨g,j*11+2+3,none⟩=some (.int .i64 K1)/\W.cell? ⟨g,j*11+2+4,none⟩=some (.string X1)/\W.cell? ⟨g,j*11+2+5,none⟩=some (.int .i64 Z1)/\W.cell? ⟨g,j*11+2+6,none⟩=some (.slice B1 m1 q1)/\W.cell? ⟨g,j*11+2+7,none⟩=some (.slice cE cz cA)/\W.cell? ⟨g,j*11+2+8,none⟩=some (.slice cD cw cy) /\
        Calls Tryz.prog 121 #[.agg #[.int .i64 k1,.string x1,.bool t1,.int .i64 K1,.string X1,.int .i64 Z1,.slice B1 m1 q1,.slice cE cz cA,.slice cD cw cy],v2] W (λen w'=>∃v',en=.returned v'/\RowV w' v' (Go.Proofs.YtknkclefoiohpaaGreatDoor.strV (addA o (preB e++(Sx.kF (λ_=>bis) e (zac e).length++((zad e).take (j+1)).flatMap bis1))))/\Below wr.heap.size wr w')):=wJ λW v2 eR ao=>by
       obtain⟨k1,x1,t1,K1,X1,Z1,B1,m1,q1,cE,cz,cA,cD,cw,cy,c0,c1,c2,c3,c4,c5,c6,c7,c8,aq⟩:=(tC.out.keep (λ_ h=>h) (λg hg=>eR.block g (by have:=HS.out g hg;omega)) (eR.block g (by have:=HS.out g bh;omega))).cells;refine⟨k1,x1,t1,K1,X1,Z1,B1,m1,q1,cE,cz,cA,cD,cw,cy,c0,c1,c2,c3,c4,c5,c6,c7,c8,?_⟩;have ft:(addA OL vl).length<=OL.length+vn:=by have:=zbl (o:=OL) (l:=vl);omega
       have h1:=bq.out (alB x) S _ v2 (addA OL vl) W (by have:=HN.out.1;omega) aq (λg hg=>by have:=HS.out g hg;have:=eR.size;omega) ao (by omega);rw[jV.out]at h1
       exact h1.mono λen w' ⟨v',k1,k2,k3⟩=>⟨v',k1,k2,eR.trans (k3.mono eR.size)⟩
      have HU2:=wJ hU.out;clear hx bh aH an jY lu bQ kX nG gl dU dv hU tC jV;go_wp2_with fail
      obtain⟨wq,rj⟩:∃y,y=wr:=⟨_,rfl⟩;subst rj;go_loopg [1,7] vn (λgg vu vi wy=>∃k:Nat,gg=vn-k/\vi=.int .i64 (k:Nat)/\k<=vn/\Hid (RowV wy vu (Go.Proofs.YtknkclefoiohpaaGreatDoor.strV (addA OL (vl.take k))))/\Hid (Below wq.heap.size wq wy))
      case atStart=>exact⟨0,rfl,rfl,by omega,HU2,wJ (ua _ _)⟩
      case round =>
       obtain⟨k,rfl,rfl,hk,hU,iB⟩:=hrel;have rA:=iB.out.size;have f8:=(iB.out.cell (p:=⟨w.heap.size,8,none⟩) ax).trans f8;have a1:=(iB.out.cell (p:=⟨g,j*11+1,none⟩) aV).trans a1;by_cases jA:k<vn
       ·obtain⟨g2,c2,heq,ig⟩:=kj.out.at_ k (by rw[zaR,jq.out];exact jA)
        injection heq with heq1 heq2 heq3;subst heq1;have sa:=zaj ig;have iy:k<vl.length:=by rw[jq.out];exact jA
        obtain⟨C,hC⟩:∃C:ByteArray,⟨(vl[k]'iy).toArray⟩=C:=⟨_,rfl⟩;have jJ:C.data.toList=vl[k]'iy:=by rw[<-hC]
        have sh:(Go.Proofs.YtknkclefoiohpaaGreatDoor.strV vl)[k]'(by rw[zaR];exact iy)=.string C:=by rw[<-hC];simp[Go.Proofs.YtknkclefoiohpaaGreatDoor.strV]
        have ig:=(iB.out.cell (p:=⟨g2,k,none⟩) sa).trans ig;rw[sh]at ig
        have br:(addA OL (vl.take k)).length<=OL.length+k:=by
         have:=zbl (o:=OL) (l:=vl.take k);rw[vN]at this
         omega
        have hq:add1 (addA OL (vl.take k)) C.data.toList=addA OL (vl.take (k+1)):=by
         rw[uL,ug iy,zaU,jJ];rfl
        have h1:=zeg u1 (addA OL (vl.take k)) C wr hU.out (by omega);rw[hq]at h1
        have ak:=wJ h1;have qZ:(0:Int)<=(k:Int):=by omega
        have qY:(k:Int)<(vn:Int):=by omega
        clear h1 hq br sh jJ hC iy heq2 heq3 ed kj;go_wp2_with fail
        refine ak.out.mono ?_;rintro e' w2 ⟨v2,rfl,h2,b2⟩;have H2:=wJ h2;have ar:=wJ (iB.out.trans (b2.mono rA));clear h2 b2 ak;go_wp2_with fail
        go_roundg (vn-(k+1))
        case measure=>omega
        case rel=>exact⟨k+1,rfl,by go_num,by omega,H2,ar⟩
       ·have hkv:k=vn:=by omega
        subst hkv;have HU3:Hid (RowV wr u1 (Go.Proofs.YtknkclefoiohpaaGreatDoor.strV (addA OL vl))):=wJ (by
         have:=hU.out;rw[ur (by rw[jq.out];exact tV _)]at this
         exact this)
        obtain⟨k1,x1,t1,K1,X1,Z1,B1,m1,q1,cE,cz,cA,cD,cw,cy,c0,c1,c2,c3,c4,c5,c6,c7,c8,bC⟩:=ed.out wr u1 iB.out HU3.out;have ak:=wJ bC;clear bC hU HU3 ed kj;go_wp2_with fail
        refine ak.out.mono ?_;rintro e' w2 ⟨v2,rfl,h2,b2⟩;have H2:=wJ h2;have ar:=wJ (eh.out.trans (b2.mono jx));clear h2 b2 ak;go_wp2_with fail
        go_roundg (ln-(j+1))
        case measure=>omega
        case rel=>exact⟨j+1,rfl,by go_num,by omega,H2,ar⟩
     ·have kY:j=ln:=by omega
      subst kY;have te:Hid (RowV wr u1 (Go.Proofs.YtknkclefoiohpaaGreatDoor.strV (addA o (bis e)))):=wJ (by
       have:=hU.out;rw[ur (by rw[fT.out];exact tV _),fG.out,<-mu.out]at this
       exact this)
      clear hU;go_wp2_with fail
      go_ret
      exact⟨_,rfl,te.out,bM.out.trans (eh.out.mono (by omega))⟩
theorem zkJ(n:Nat):BdOK n:=by
 induction n with
 |zero=>intro e S v vo o w aG;have:1<=e.size:=by { cases e <;> simp only[Ex.size] <;> omega };omega
 |succ n ih=>intro e S v vo o w aG hv hS ho gZ;exact zfJ n ih e S v vo o w aG hv hS ho gZ
end Go.Proofs.YtknkclefoiohpaaGreatDoor
