import Derived.Test.YtknkclefoiohpaaGreatDoorKaH
import Derived.Deep.RegionWith
set_option maxHeartbeats 12800000
namespace Go.Proofs.YtknkclefoiohpaaGreatDoor
open Go.RowKit Lx Tx Sx
set_option maxRecDepth 100000
theorem zhJ(l:List Ex)(i:Nat)(x:Ex)(h:l[i]?=some x):((l.take (i+1)).map Ex.size).sum=((l.take i).map Ex.size).sum+x.size:=by
 rw[uL,h]
 simp
theorem zeS(l:List Ex)(i:Nat):((l.take i).map Ex.size).sum<=(l.map Ex.size).sum:=by
 have:=uC (λl=>(l.map Ex.size).sum) (vQ i l);simp only[wb,List.sum_append]at this;omega
set_option maxRecDepth 100000
theorem zls(x:Ex)(S:Nat->Prop)(v:Value)(g a:Nat)(w:World)(hb:Blk w g 3 #[.int .i64 (a:Nat)])(hv:RdX S w x v)
  (HC:∀W,Below w.heap.size w W->Calls Tryz.prog 16 #[v] W λe w'=>e=.returned (.int .i64 (x.depth:Nat))/\Below W.heap.size W w'):Calls Tryz.prog 49 #[v,.pointer (some ⟨g,0,none⟩)] w λe w'=>e=.returned (.tuple #[])/\Blk w' g 3 #[.int .i64 (max a x.depth:Nat)]/\Chg (only g) w w':=by
 obtain⟨K,X,Z,B,m,q,KA,kc,LA,lc,rfl,-⟩:=hv.shape;obtain⟨kd,ch⟩:∃y,kdE x=y:=⟨_,rfl⟩;obtain⟨nm,eC⟩:∃y:ByteArray,⟨(nmE x).toArray⟩=y:=⟨_,rfl⟩;obtain⟨td,cI⟩:∃y,toE x=y:=⟨_,rfl⟩;obtain⟨kn,bg⟩:∃y,(zac x).length=y:=⟨_,rfl⟩;obtain⟨ln,br⟩:∃y,(zad x).length=y:=⟨_,rfl⟩;obtain⟨sz,aG⟩:∃y,x.depth=y:=⟨_,rfl⟩;rw[ch,eC,cI,bg,br,aG]at HC
 rw[ch,eC,cI,bg,br,aG]
 have aC:=hb.lt;obtain⟨W1,aL⟩:∃W,w.alloc (.cells #[.int .i64 (kd:Nat),.string nm,.bool td,.int .i64 K,.string X,.int .i64 Z,.slice B m q,.slice KA kn kc,.slice LA ln lc] 39)=W:=⟨_,rfl⟩;have az:Blk W1 w.heap.size 39 #[.int .i64 (kd:Nat),.string nm,.bool td,.int .i64 K,.string X,.int .i64 Z,.slice B m q,.slice KA kn kc,.slice LA ln lc]:=aL▸tW _ _;have aN:Below w.heap.size w W1:=aL▸(ua _ w).alloc (tV _) _;have nD:Blk W1 g 3 #[.int .i64 (a:Nat)]:=(aN.block g aC).trans hb;have bj:W1.heap.size=w.heap.size+1:=by rw[<-aL];simp
 have fF:Hid (∀W,Below W1.heap.size W1 W->W.cell? ⟨g,0,none⟩=some (.int .i64 (a:Nat))/\W.cell? ⟨w.heap.size,0,none⟩=some (.int .i64 (kd:Nat))/\W.cell? ⟨w.heap.size,1,none⟩=some (.string nm)/\W.cell? ⟨w.heap.size,2,none⟩=some (.bool td) /\
   W.cell? ⟨w.heap.size,3,none⟩=some (.int .i64 K)/\W.cell? ⟨w.heap.size,4,none⟩=some (.string X)/\W.cell? ⟨w.heap.size,5,none⟩=some (.int .i64 Z)/\W.cell? ⟨w.heap.size,6,none⟩=some (.slice B m q)/\W.cell? ⟨w.heap.size,7,none⟩=some (.slice KA kn kc)/\W.cell? ⟨w.heap.size,8,none⟩=some (.slice LA ln lc)) :=
  wJ λW hW=>by
   have h1:Blk W g 3 #[.int .i64 (a:Nat)]:=(hW.block g nD.lt).trans nD;have h2:Blk W w.heap.size 39 #[.int .i64 (kd:Nat),.string nm,.bool td,.int .i64 K,.string X,.int .i64 Z,.slice B m q,.slice KA kn kc,.slice LA ln lc]:=(hW.block _ az.lt).trans az;exact⟨h1.cell 0,h2.cell 0,h2.cell 1,h2.cell 2,h2.cell 3,h2.cell 4,h2.cell 5,h2.cell 6,h2.cell 7,h2.cell 8⟩
 have B4:Hid (Below W1.heap.size W1 W1.drew):=wJ (ua _ W1).drew;have qU:Hid (∀W,Below W1.heap.size W1 W->Calls Tryz.prog 16 #[.agg #[.int .i64 (kd:Nat),.string nm,.bool td,.int .i64 K,.string X,.int .i64 Z,.slice B m q,.slice KA kn kc,.slice LA ln lc]] W λe w'=>e=.returned (.int .i64 (sz:Nat))/\Below W.heap.size W w') :=
  wJ λW hW=>HC W (aN.trans (hW.mono (by omega)))
 have FRZ:Hid (∀W,Below W1.heap.size W1 W->Blk W g 3 #[.int .i64 (a:Nat)]):=wJ λW hW=>(hW.block g nD.lt).trans nD;have HBG:=wJ nD;have aJ:=wJ aN;obtain⟨x0,x1,x2,x3,x4,x5,x6,x7,x8,x9⟩:=fF.out W1 (ua _ _);have mA:=nD.frozen 0;have aV:=nD.lt;clear ch eC cI bg br aG hv HC hb az aN nD;go_enter Tryz.func49,Tryz.ntmps49
 go_upto_region 1 with fail
 try rw[aL]
 clear aL;go_region_with (((with_reducible refine(qU.out _ B4.out).mono ?_);rintro e w5 ⟨rfl,b5⟩;have B5:=wJ (B4.out.trans (b5.mono B4.out.size));have hf5:=(FRZ.out _ B5.out).frozen 0;have qp:=(FRZ.out _ B5.out).lt;have hc5:=(FRZ.out _ B5.out).cell 0;clear b5))
 all_goals
  have aa:=uk w5 g 0 _ _ (.int .i64 (if a<sz then(sz:Int) else(a:Int))) (FRZ.out _ B5.out);have oD:=((Chg.of_below (M:=only g) aJ.out).trans' (Chg.of_below (M:=only g) B5.out) (λ_ _ h=>h)).setCell (p:=⟨g,0,none⟩) (.inr rfl) (.int .i64 (if a<sz then(sz:Int) else(a:Int)));have hwr:Value.int .i64 (if a<sz then(sz:Int) else(a:Int))=.int .i64 ((max a sz:Nat):Int):=by
   congr 1
   split <;> omega
  rw[hwr]at aa oD ⊢
  have aE:=wJ aa;have qc:=wJ oD;clear aa oD hwr;go_wp2_with fail
  first|go_end0|refine ub (vE rfl _ _ _) rfl ?_
  exact⟨rfl,aE.out,qc.out⟩
theorem zhK(l:List Nat)(a x:Nat):(l++[x]).foldl max a=max (l.foldl max a) x:=by rw[vP];rfl
theorem zfz(l:List Nat)(a:Nat):a<=l.foldl max a:=by
 induction l generalizing a with
 |nil=>exact tV _
 |cons x r ih=>exact uX (Nat.le_max_left a x) (ih _)
theorem zjJ(l:List Nat):∀a x,x∈l->x<=l.foldl max a:=by
 induction l with
 |nil=>intro a x h;simp at h
 |cons y r ih =>
  intro a x h;rcases uT.1 h with rfl|h
  ·exact uX (Nat.le_max_right a x) (zfz r _)
  ·exact ih _ x h
theorem zoO(l:List Ex)(i:Nat)(x:Ex)(h:l[i]?=some x):((l.take (i+1)).map Ex.depth).foldl max 0=max (((l.take i).map Ex.depth).foldl max 0) x.depth:=by
 rw[uL,h,wb,Option.toList_some,vI,wh,zhK]
theorem zjK(l:List Ex)(i:Nat):((l.take i).map Ex.depth).foldl max 0<=(l.map Ex.depth).foldl max 0:=by
 have:=uC (λl=>(l.map Ex.depth).foldl max 0) (vQ i l);simp only[wb,vP]at this;rw[<-this]
 exact zfz _ _
theorem zpA(l:List Ex)(i:Nat)(x:Ex)(h:l[i]?=some x):x.depth<=(l.map Ex.depth).foldl max 0:=zjJ _ _ _ (wI.2 ⟨x,vd.2 ⟨i,h⟩,rfl⟩)
mutual
theorem zbb:∀e:Ex,e.depth<=e.size
 |.var _=>by unfold Ex.size Ex.depth;omega
 |.con _=>by unfold Ex.size Ex.depth;omega
 |.lam _ e=>by have:=zbb e;unfold Ex.size Ex.depth;omega
 |.app a b=>by have:=zbb a;have:=zbb b;unfold Ex.size Ex.depth;omega
 |.lt _ t a b=>by have:=zbb a;have:=zbb b;unfold Ex.size Ex.depth;omega
 |.cs e l=>by have:=zbb e;have:=zfA l;unfold Ex.size Ex.depth;omega
 |.ann e t=>by have:=zbb e;unfold Ex.size Ex.depth;omega
theorem zjL:∀a:Al,a.depth<=a.size
 |.mk _ _ b=>by have:=zbb b;unfold Al.size Al.depth;omega
theorem zfA:∀l:List Al,zcY l<=zbn l
 |[]=>by unfold zbn zcY;omega
 |a::r=>by have:=zjL a;have:=zfA r;unfold zbn zcY;omega
end
theorem znl(n:Nat):∀(e:Ex)(S:Nat->Prop)(v:Value)(w:World),e.size<=n->n<=100000->RdX S w e v->(∀g,S g->g<w.heap.size) ->
  Calls Tryz.prog 16 #[v] w λe' w'=>e'=.returned (.int .i64 (e.depth:Nat))/\Below w.heap.size w w':=by
 induction n with
 |zero=>intro e S v w h;have:=zbv e;omega
 |succ n ih =>
  intro e S v w hn h5 hv hS;obtain⟨K,X,Z,B,m,q,KA,kc,LA,lc,rfl,-⟩:=hv.shape;have jd:=zbv e;have k9:=zds e;have iU:=zbb e;have dW:(parts e).length<=n:=by
   have h1:∀l:List Ex,l.length<=(l.map Ex.size).sum:=by
    intro l;induction l with
    |nil=>simp
    |cons x r ih=>have:=zbv x;simp only[vI,List.sum_cons,ui];omega
   have:=h1 (parts e);omega
  obtain⟨W1,aL⟩:∃W,w.alloc (.cells #[.int .i64 (kdE e:Nat),.string ⟨(nmE e).toArray⟩,.bool (toE e),.int .i64 K,.string X,.int .i64 Z,.slice B m q,.slice KA (zac e).length kc,.slice LA (zad e).length lc] 39)=W:=⟨_,rfl⟩;obtain⟨W2,bL⟩:∃W,W1.alloc (.cells #[.int .i64 0] 3)=W:=⟨_,rfl⟩;have bj:W1.heap.size=w.heap.size+1:=by rw[<-aL];simp
  have bo:W2.heap.size=w.heap.size+2:=by rw[<-bL];simp;omega
  have aA:Below w.heap.size w W2:=by rw[<-bL,<-aL];exact((ua _ w).alloc (tV _) _).alloc (by simp) _
  have aZ:Blk W2 (w.heap.size+1) 3 #[.int .i64 0]:=by
   have:=tW W1 (.cells #[.int .i64 0] 3);rw[bj,bL]at this
   exact this
  have bY:∀w',Blk w' (w.heap.size+1) 3 #[.int .i64 1]\/w.heap.size+1<w'.heap.size->∀g,S g->g<w'.heap.size:=λw' h g hg=>by
   have:=hS g hg;rcases h with h|h
   ·have:=h.lt;omega
   ·omega
  have HE:=zeR e S (only (w.heap.size+1)) 49 #[.pointer (some ⟨w.heap.size+1,0,none⟩)]
   (λi W=>Blk W (w.heap.size+1) 3 #[.int .i64 ((((parts e).take i).map Ex.depth).foldl max 0:Nat)]) _ W2 (λ_ _=>rfl)
   (λi a b h _ hk=>(hk _ rfl).trans h) (λi a h g hg=>by unfold only at hg;subst hg;exact h.lt)
   (hv.keep (λ_ h=>h) (λg hg=>aA.block g (hS g hg))) (λg hg=>⟨by have:=hS g hg;omega,by have:=hS g hg;unfold only;omega⟩) aZ (by omega)
   (λi x v' w' hx hi mx=>by
    have jx:=zoO (parts e) i x hx;have hle:=zjK (parts e) i;have ql:=zpA (parts e) i x hx;have hsx2:=zhJ (parts e) i x hx;have hle2:=zeS (parts e) (i+1);have:=zls x S v' (w.heap.size+1) ((((parts e).take i).map Ex.depth).foldl max 0) w' hi mx (λW hW=>ih x S v' W (by omega) (by omega) (mx.keep (λ_ h=>h) (λg hg=>hW.block g (bY w' (.inr hi.lt) g hg))) (λg hg=>by have:=bY w' (.inr hi.lt) g hg;have:=hW.size;omega));refine this.mono ?_;rintro e' w'' ⟨rfl,h1,h2⟩;refine⟨rfl,?_,h2⟩;rw[jx]
    exact h1)
  rw[ur (tV _)]at HE
  obtain⟨D,hD⟩:∃y,((parts e).map Ex.depth).foldl max 0=y:=⟨_,rfl⟩;rw[hD]at HE k9
  have hDs:D<=100000:=by omega
  have ar:=wJ aA;have qS:=wJ HE;have gJ:=wJ bo;obtain⟨kd,ch⟩:∃y,kdE e=y:=⟨_,rfl⟩;obtain⟨nm,eC⟩:∃y:ByteArray,⟨(nmE e).toArray⟩=y:=⟨_,rfl⟩;obtain⟨td,cI⟩:∃y,toE e=y:=⟨_,rfl⟩;obtain⟨kn,bg⟩:∃y,(zac e).length=y:=⟨_,rfl⟩;obtain⟨ln,br⟩:∃y,(zad e).length=y:=⟨_,rfl⟩;rw[k9]
  rw[ch,eC,cI,bg,br]at aL qS ⊢
  subst aL;subst bL;clear ch eC cI bg br hv HE aA bj bo aZ jd dW ih hn hS bY k9 iU hD;go_enter Tryz.func16,Tryz.ntmps16
  go_wp2_with fail
  refine qS.out.mono ?_;rintro e' w3 ⟨rfl,h3,c3⟩;have f0:=h3.cell 0;have C3:=wJ c3;clear h3 c3 qS;go_wp2_with fail
  go_ret
  exact⟨zaK (by simp),ar.out.trans (C3.out.toBelow (by have:=gJ.out;omega) (λk hk=>by unfold only;omega))⟩
end Go.Proofs.YtknkclefoiohpaaGreatDoor
namespace Go.Proofs.YtknkclefoiohpaaGreatDoor
open Go.RowKit Lx Tx
set_option maxRecDepth 100000
theorem znz(n:Nat):∀(t:Ty)(S:Nat->Prop)(v:Value)(w:World),t.size<=n->n<=1000000->RdV S w t v->(∀g,S g->g<w.heap.size) ->
  Calls Tryz.prog 54 #[v] w λe w'=>e=.returned (.int .i64 (t.depth:Nat))/\Below w.heap.size w w':=by
 induction n with
 |zero=>intro t S v w h;rw[zcH]at h;omega
 |succ n ih =>
  intro t S v w hn h5 hv hS;obtain⟨K,X,Z,A,m,c,rfl,-,-,-,hm,ha⟩:=hv.parts;obtain⟨R,hR⟩:∃R,t.depth=R:=⟨_,rfl⟩;have oK:za3 (kids t)+1=R:=by rw[<-zfD];exact hR
  have hm6:m<=n:=by have:=zhV t;omega
  have hR6:R<=n+1:=by have:=zbw t;omega
  have HM:=wJ hm;have HA:=wJ ha;have IH:=wJ ih;have HS:=wJ hS;have HN:=wJ hn;have dA:=wJ oK;rw[hR]
  clear hm hR ha ih hS hn oK hv;go_enter Tryz.func54,Tryz.ntmps54
  go_wp2
  go_loopg [3,9] m (λgg va vi wr=>∃i a:Nat,gg=m-i/\va=.int .i64 a/\vi=.int .i64 i/\i<=m/\Hid (za3 ((kids t).take i)=a)/\Below (w.heap.size+1) (w.alloc (.cells #[.int .i64 K,.string X,.int .i64 Z,.slice A m c] 35)) wr)
  case atStart=>exact⟨0,0,rfl,rfl,rfl,by omega,wJ rfl,ua _ _⟩
  case round =>
   obtain⟨i,a,rfl,rfl,rfl,hi,hd,hb⟩:=hrel;have HB:=wJ hb;clear hb;by_cases ah:i<m
   ·obtain⟨g,u,K1,X1,Z1,A1,n1,c1,rfl,hg,e0,e1,e2,e3,hu,aq,aG⟩:=zgx (w':=wr) HA.out HM.out ah (λg hg=>by rw[HB.out.block g (by have:=HS.out g hg;omega),uc _ _ _ (HS.out g hg)])
    have aV:=zaj e0;have pJ:=HB.out.size;simp at pJ;have bC:=IH.out u S _ (wr.alloc (.cells #[.int .i64 K1,.string X1,.int .i64 Z1,.slice A1 n1 c1] 35)) (by have:=HN.out;omega) (by omega) (aq.keep (λ_ h=>h) (λg hg=>uc _ _ _ (by have:=HS.out g hg;omega))) (λg hg=>by have:=HS.out g hg;simp;omega);have j8:=wJ (zfE _ _ _ _ hd hu);obtain⟨D,hD⟩:∃D,u.depth=D:=⟨_,rfl⟩;rw[hD]at j8 bC
    clear aq hu hD;go_wp2_with fail
    refine bC.mono ?_;rintro e w1 ⟨rfl,b1⟩;have ar:=wJ ((HB.out.alloc (by omega) _).trans (b1.mono (by simp;omega)));clear b1 bC;go_wp2_with fail
    all_goals
     go_roundg (m-(i+1))
     case measure=>omega
     case rel=>exact⟨i+1,_,rfl,rfl,by go_num,by omega,wJ (by rw[j8.out];omega),ar.out⟩
   ·have hr:=wJ (show a+1=R by rw[ur (by rw[HM.out];omega)]at hd;rw[hd.out]at dA;exact dA.out)
    have ha6:a<1000001:=by have:=hr.out;omega
    go_wp2_with fail
    go_ret
    exact⟨zaK (by rw[<-hr.out];simp;omega),((ua _ w).alloc (tV _) _).trans (HB.out.mono (by omega))⟩
theorem zlM(K Z:Int)(X:ByteArray)(A:Option Addr)(c:Nat)(w:World):Calls Tryz.prog 54 #[.agg #[.int .i64 K,.string X,.int .i64 Z,.slice A 0 c]] w λe w'=>e=.returned (.int .i64 1)/\Below w.heap.size w w':=by
 go_enter Tryz.func54,Tryz.ntmps54
 go_wp2
 go_loopg [3,9] 0 (λgg va vi wr=>gg=0/\va=.int .i64 0/\vi=.int .i64 0/\Below (w.heap.size+1) (w.alloc (.cells #[.int .i64 K,.string X,.int .i64 Z,.slice A 0 c] 35)) wr)
 case atStart=>exact⟨rfl,rfl,rfl,ua _ _⟩
 case round =>
  obtain⟨rfl,rfl,rfl,hb⟩:=hrel;have HB:=wJ hb;clear hb;go_wp2_with fail
  go_ret
  exact⟨rfl,((ua _ w).alloc (tV _) _).trans (HB.out.mono (by omega))⟩
end Go.Proofs.YtknkclefoiohpaaGreatDoor
namespace Go.Proofs.YtknkclefoiohpaaGreatDoor
open Go.RowKit Lx Tx Sx
set_option maxRecDepth 100000
def RdO(S:Nat->Prop)(w:World)(t:Option Ty)(v:Value):Prop :=
 match t with
 |none=>v=.agg #[.int .i64 0,.string ⟨#[]⟩,.int .i64 0,.slice none 0 0]
 |some u=>RdV S w u v
theorem RdO.keep {S S':Nat->Prop} {w w':World} {t:Option Ty} {v:Value}(h:RdO S w t v)(hS:∀g,S g->S' g)(hk:∀g,S g->w'.heap[g]?=w.heap[g]?):RdO S' w' t v:=by
 cases t with
 |none=>exact h
 |some u=>exact RdV.keep h hS hk
theorem Sx.RdX.shape2 {S:Nat->Prop} {w:World} {e:Ex} {v:Value}(h:RdX S w e v):∃(K:Int)(X:ByteArray)(Z:Int)(B:Option Addr)(m q:Nat)(KA:Option Addr)(kc:Nat)(LA:Option Addr)(lc:Nat),
  v=.agg #[.int .i64 (kdE e:Nat),.string ⟨(nmE e).toArray⟩,.bool (toE e),.int .i64 K,.string X,.int .i64 Z,.slice B m q,.slice KA (zac e).length kc,.slice LA (zad e).length lc] /\
   RdO S w (tyE e) (.agg #[.int .i64 K,.string X,.int .i64 Z,.slice B m q]):=by
 obtain⟨P,rfl,ht,_⟩:=h;unfold exC;revert ht
 cases tyE e with
 |none=>intro _;exact⟨0,⟨#[]⟩,0,none,0,0,P.K,_,P.L,P.l,rfl,rfl⟩
 |some t=>intro ht;exact⟨_,_,_,_,_,_,P.K,_,P.L,P.l,rfl,P.A,P.a,rfl,ht⟩
def tyW:Option Ty->Nat
 |none=>0
 |some t=>t.size
theorem zlt(t:Option Ty)(S:Nat->Prop)(v:Value)(w:World)(hn:tyW t<=1000000)(hv:RdO S w t v)(hS:∀g,S g->g<w.heap.size):∃d:Nat,(decide (50<d)=zbo t)/\d<=1000001/\Calls Tryz.prog 54 #[v] w λe w'=>e=.returned (.int .i64 (d:Nat))/\Below w.heap.size w w':=by
 cases t with
 |none =>
  subst hv;exact⟨1,rfl,by omega,zlM 0 0 ⟨#[]⟩ none 0 w⟩
 |some u =>
  exact⟨u.depth,rfl,by have:=zbw u;simp only[tyW]at hn;omega,znz 1000000 u S v w hn (tV _) hv hS⟩
theorem zb3(t:Option Ty)(S:Nat->Prop)(K:Int)(X:ByteArray)(Z:Int)(B:Option Addr)(m q:Nat)(w:World)(hn:tyW t<=1000000)(hv:RdO S w t (.agg #[.int .i64 K,.string X,.int .i64 Z,.slice B m q]))(hS:∀g,S g->g<w.heap.size):Calls Tryz.prog 77 #[.agg #[.int .i64 K,.string X,.int .i64 Z,.slice B m q]] w λe w'=>e=.returned (.bool (zbo t))/\Below w.heap.size w w':=by
 obtain⟨d,hd,mB,hc⟩:=zlt t S _ (w.alloc (.cells #[.int .i64 K,.string X,.int .i64 Z,.slice B m q] 35)) hn (hv.keep (λ_ h=>h) (λg hg=>uc _ _ _ (hS g hg))) (λg hg=>by have:=hS g hg;simp;omega);have HC:=wJ hc;have d1:decide ((50:Int)<(d:Nat))=zbo t:=by
  rw[<-hd]
  by_cases h:50<d <;> simp[h] <;> omega
 obtain⟨R,hR⟩:∃R,zbo t=R:=⟨_,rfl⟩;rw[hR]at d1 ⊢
 clear hc hd hv hS hn hR;go_enter Tryz.func77,Tryz.ntmps77
 go_wp2_with fail
 refine HC.out.mono ?_;rintro e w1 ⟨rfl,b1⟩;have B1:=wJ (((ua w.heap.size w).alloc (tV _) (.cells #[.int .i64 K,.string X,.int .i64 Z,.slice B m q] 35)).trans (b1.mono (by simp)));clear b1 HC;cases R
 all_goals
  go_wp2_with fail
  go_ret
  exact⟨rfl,B1.out⟩
end Go.Proofs.YtknkclefoiohpaaGreatDoor
namespace Go.Proofs.YtknkclefoiohpaaGreatDoor
open Go.RowKit Lx Tx Sx
set_option maxRecDepth 100000
theorem zpB(e:Ex):tyW (tyE e)<=e.wt:=by
 cases e with
 |lt x t a b =>
  cases t <;> simp only[tyE,tyW,Ex.wt,zdS] <;> omega
 |ann e t=>simp only[tyE,tyW,Ex.wt];omega
 |_=>simp[tyE,tyW]
theorem zlu:∀(l:List Al)(x:Ex),x∈l.map alB->x.wt<=wtA l
 |[],x,h=>by simp at h
 |.mk c vs b::r,x,h=>by
  simp only[wtA,Al.wt];rcases uT.1 h with rfl|h
  ·omega
  ·have:=zlu r x h;omega
theorem zeB(e x:Ex)(h:x∈parts e):x.wt<=e.wt:=by
 unfold parts at h;rcases uz.1 h with h|h
 ·cases e <;> simp only[zac,uT,u9,vY]at h <;> simp only[Ex.wt]
  ·subst h;omega
  ·rcases h with rfl|rfl <;> omega
  ·rcases h with rfl|rfl <;> omega
  ·subst h;omega
  ·subst h;omega
 ·cases e <;> simp only[zad,wh,u9]at h
  have:=zlu _ x h;simp only[Ex.wt];omega
theorem zlv(x:Ex)(S:Nat->Prop)(v:Value)(g:Nat)(a:Bool)(w:World)(hb:Blk w g 4 #[.bool a])(hv:RdX S w x v)
  (HC:∀W,Below w.heap.size w W->Calls Tryz.prog 99 #[v] W λe w'=>e=.returned (.bool x.deepT)/\Below W.heap.size W w'):Calls Tryz.prog 142 #[v,.pointer (some ⟨g,0,none⟩)] w λe w'=>e=.returned (.tuple #[])/\Blk w' g 4 #[.bool (a||x.deepT)]/\Chg (only g) w w':=by
 obtain⟨K,X,Z,B,m,q,KA,kc,LA,lc,rfl,-⟩:=hv.shape;obtain⟨kd,ch⟩:∃y,kdE x=y:=⟨_,rfl⟩;obtain⟨nm,eC⟩:∃y:ByteArray,⟨(nmE x).toArray⟩=y:=⟨_,rfl⟩;obtain⟨td,cI⟩:∃y,toE x=y:=⟨_,rfl⟩;obtain⟨kn,bg⟩:∃y,(zac x).length=y:=⟨_,rfl⟩;obtain⟨ln,br⟩:∃y,(zad x).length=y:=⟨_,rfl⟩;obtain⟨dt,qw⟩:∃y,x.deepT=y:=⟨_,rfl⟩;rw[ch,eC,cI,bg,br,qw]at HC
 rw[ch,eC,cI,bg,br,qw]
 have aC:=hb.lt;have aN:Below w.heap.size w (w.alloc (.cells #[.int .i64 (kd:Nat),.string nm,.bool td,.int .i64 K,.string X,.int .i64 Z,.slice B m q,.slice KA kn kc,.slice LA ln lc] 39)):=(ua _ w).alloc (tV _) _;have aJ:=wJ aN;have qU:=wJ (HC _ aN);have HB:=wJ hb;have f0:=hb.cell 0;replace f0:w.cell? ⟨g,0,none⟩=some (.bool a):=f0;have fr:=hb.frozen 0;clear ch eC cI bg br qw hv HC hb aN;go_enter Tryz.func142,Tryz.ntmps142
 cases a with
 |true =>
  go_wp2_with fail
  have aa:Blk (w.setCell ⟨g,0,none⟩ (.bool true)) g 4 #[.bool true]:=uk w g 0 _ _ (.bool true) HB.out;have oD:=((Chg.refl (only g) w).setCell (p:=⟨g,0,none⟩) (.inr rfl) (.bool true)).alloc (.cells #[.int .i64 (kd:Nat),.string nm,.bool td,.int .i64 K,.string X,.int .i64 Z,.slice B m q,.slice KA kn kc,.slice LA ln lc] 39);first|go_end0|refine ub (vE rfl _ _ _) rfl ?_
  exact⟨rfl,aa.alloc _,oD⟩
 |false =>
  go_wp2_with fail
  refine qU.out.mono ?_;rintro e w2 ⟨rfl,b2⟩;have B2:=wJ (aJ.out.trans (b2.mono aJ.out.size));have aA:Blk w2 g 4 #[.bool false]:=(B2.out.block g aC).trans HB.out;have f2:=aA.cell 0;replace f2:w2.cell? ⟨g,0,none⟩=some (.bool false):=f2;have fr2:=aA.frozen 0;have eY:=aA.lt;have aE:=wJ (uk w2 g 0 _ _ (.bool dt) aA);have qc:=wJ ((Chg.of_below (M:=only g) B2.out).setCell (p:=⟨g,0,none⟩) (.inr rfl) (.bool dt));clear b2 aA qU;go_wp2_with fail
  first|go_end0|refine ub (vE rfl _ _ _) rfl ?_
  exact⟨rfl,aE.out,qc.out⟩
set_option maxRecDepth 100000
theorem zhL(l:List Ex)(i:Nat)(x:Ex)(h:l[i]?=some x):(l.take (i+1)).any Ex.deepT=((l.take i).any Ex.deepT||x.deepT):=by
 rw[uL,h,List.any_append]
 simp
theorem zjM(n:Nat):∀(e:Ex)(S:Nat->Prop)(v:Value)(w:World),e.size<=n->n<=100000->e.wt<=1000000->RdX S w e v->(∀g,S g->g<w.heap.size) ->
  Calls Tryz.prog 99 #[v] w λe' w'=>e'=.returned (.bool e.deepT)/\Below w.heap.size w w':=by
 induction n with
 |zero=>intro e S v w h;have:=zbv e;omega
 |succ n ih =>
  intro e S v w hn h5 du hv hS;obtain⟨K,X,Z,B,m,q,KA,kc,LA,lc,rfl,hro⟩:=hv.shape2;have jd:=zbv e;have k9:=zfx e;have dW:(parts e).length<=n:=by
   have h1:∀l:List Ex,l.length<=(l.map Ex.size).sum:=by
    intro l;induction l with
    |nil=>simp
    |cons x r ih=>have:=zbv x;simp only[vI,List.sum_cons,ui];omega
   have:=h1 (parts e);omega
  obtain⟨W1,aL⟩:∃W,w.alloc (.cells #[.int .i64 (kdE e:Nat),.string ⟨(nmE e).toArray⟩,.bool (toE e),.int .i64 K,.string X,.int .i64 Z,.slice B m q,.slice KA (zac e).length kc,.slice LA (zad e).length lc] 39)=W:=⟨_,rfl⟩;have aN:Below w.heap.size w W1:=by rw[<-aL];exact(ua _ w).alloc (tV _) _
  have bj:W1.heap.size=w.heap.size+1:=by rw[<-aL];simp
  have az:Blk W1 w.heap.size 39 #[.int .i64 (kdE e:Nat),.string ⟨(nmE e).toArray⟩,.bool (toE e),.int .i64 K,.string X,.int .i64 Z,.slice B m q,.slice KA (zac e).length kc,.slice LA (zad e).length lc]:=by
   have:=tW w (.cells #[.int .i64 (kdE e:Nat),.string ⟨(nmE e).toArray⟩,.bool (toE e),.int .i64 K,.string X,.int .i64 Z,.slice B m q,.slice KA (zac e).length kc,.slice LA (zad e).length lc] 39);rw[aL]at this
   exact this
  have HT:=wJ (zb3 (tyE e) S K X Z B m q W1 (by have:=zpB e;omega) (hro.keep (λ_ h=>h) (λg hg=>aN.block g (hS g hg))) (λg hg=>by have:=hS g hg;omega));have HE:Hid (∀(W2 W3:World) (a:Bool),Below W1.heap.size W1 W2->W3=W2.alloc (.cells #[.bool a] 4)->a=zbo (tyE e)->Calls Tryz.prog 47 #[.agg #[.int .i64 (kdE e:Nat),.string ⟨(nmE e).toArray⟩,.bool (toE e),.int .i64 K,.string X,.int .i64 Z,.slice B m q,.slice KA (zac e).length kc,.slice LA (zad e).length lc],.func (.func 142) #[] #[.pointer (some ⟨W2.heap.size,0,none⟩)]] W3
    λe' w'=>e'=.returned (.tuple #[])/\Blk w' W2.heap.size 4 #[.bool e.deepT]/\Chg (only W2.heap.size) W3 w'):=by
   refine wJ λW2 W3 a h2 h3 ha=>?_;have bE:=h2.size;have hk3:∀g,g<W2.heap.size->W3.heap[g]?=W2.heap[g]?:=λg hg=>by rw[h3];exact uc _ _ _ hg
   have eA:W3.heap.size=W2.heap.size+1:=by rw[h3];simp
   have dy:∀g,S g->W3.heap[g]?=w.heap[g]?:=λg hg=>by
    have:=hS g hg;rw[hk3 g (by omega),h2.block g (by omega),aN.block g this]
   have hc3:Blk W3 W2.heap.size 4 #[.bool a]:=by rw[h3];exact tW W2 _
   have:=zeR e S (only W2.heap.size) 142 #[.pointer (some ⟨W2.heap.size,0,none⟩)]
    (λi W=>Blk W W2.heap.size 4 #[.bool (a ||((parts e).take i).any Ex.deepT)]) _ W3 (λ_ _=>rfl)
    (λi a b h _ hk=>(hk _ rfl).trans h) (λi a h g hg=>by unfold only at hg;subst hg;exact h.lt)
    (hv.keep (λ_ h=>h) dy) (λg hg=>⟨by have:=hS g hg;omega,by have:=hS g hg;unfold only;omega⟩) (by simpa using hc3) (by omega)
    (λi x v' w' hx hi mx=>by
     have hsx2:=zhJ (parts e) i x hx;have hle2:=zeS (parts e) (i+1);have ng:=zeB e x (vd.2 ⟨i,hx⟩);have ah:∀g,S g->g<w'.heap.size:=λg hg=>by have:=hS g hg;have:=hi.lt;omega
     have:=zlv x S v' W2.heap.size (a ||((parts e).take i).any Ex.deepT) w' hi mx (λW hW=>ih x S v' W (by omega) (by omega) (by omega) (mx.keep (λ_ h=>h) (λg hg=>hW.block g (ah g hg))) (λg hg=>by have:=ah g hg;have:=hW.size;omega));refine this.mono ?_;rintro e' w'' ⟨rfl,h1,h2⟩;refine⟨rfl,?_,h2⟩;rw[zhL _ _ _ hx,<-Bool.or_assoc]
     exact h1)
   rw[ur (tV _),ha,<-k9]at this
   exact this
  have aJ:=wJ aN;have bc:=wJ az;have tE:=wJ k9;clear k9 jd dW ih hn hS hro hv aN az du;obtain⟨kd,ch⟩:∃y,kdE e=y:=⟨_,rfl⟩;obtain⟨nm,eC⟩:∃y:ByteArray,⟨(nmE e).toArray⟩=y:=⟨_,rfl⟩;obtain⟨td,cI⟩:∃y,toE e=y:=⟨_,rfl⟩;obtain⟨kn,bg⟩:∃y,(zac e).length=y:=⟨_,rfl⟩;obtain⟨ln,br⟩:∃y,(zad e).length=y:=⟨_,rfl⟩;obtain⟨dt,qw⟩:∃y,e.deepT=y:=⟨_,rfl⟩;obtain⟨d0,jC⟩:∃y,zbo (tyE e)=y:=⟨_,rfl⟩;rw[ch,eC,cI,bg,br]at aL HE bc ⊢
  rw[qw]at HE ⊢
  rw[jC]at HE HT
  obtain⟨f3,f4,f5,f6⟩:W1.cell? ⟨w.heap.size,3,none⟩=some (.int .i64 K)/\W1.cell? ⟨w.heap.size,4,none⟩=some (.string X)/\W1.cell? ⟨w.heap.size,5,none⟩=some (.int .i64 Z)/\W1.cell? ⟨w.heap.size,6,none⟩=some (.slice B m q) :=
   ⟨bc.out.cell 3,bc.out.cell 4,bc.out.cell 5,bc.out.cell 6⟩
  clear ch eC cI bg br qw jC tE;go_enter Tryz.func99,Tryz.ntmps99
  go_wp2_with fail
  try rw[aL]
  refine HT.out.mono ?_;rintro e' w2 ⟨rfl,b2⟩;have aA:=(b2.block w.heap.size (by omega)).trans bc.out;have lv:=b2.size;have ar:Hid (Blk w2 w.heap.size 39 #[.int .i64 (kd:Nat),.string nm,.bool td,.int .i64 K,.string X,.int .i64 Z,.slice B m q,.slice KA kn kc,.slice LA ln lc]):=wJ aA;obtain⟨g0,g1,g2,g3,g4,g5,g6,g7,g8⟩:w2.cell? ⟨w.heap.size,0,none⟩=some (.int .i64 (kd:Nat))/\w2.cell? ⟨w.heap.size,1,none⟩=some (.string nm)/\w2.cell? ⟨w.heap.size,2,none⟩=some (.bool td) /\
   w2.cell? ⟨w.heap.size,3,none⟩=some (.int .i64 K)/\w2.cell? ⟨w.heap.size,4,none⟩=some (.string X)/\w2.cell? ⟨w.heap.size,5,none⟩=some (.int .i64 Z)/\w2.cell? ⟨w.heap.size,6,none⟩=some (.slice B m q)/\w2.cell? ⟨w.heap.size,7,none⟩=some (.slice KA kn kc)/\w2.cell? ⟨w.heap.size,8,none⟩=some (.slice LA ln lc) :=
   ⟨ar.out.cell 0,ar.out.cell 1,ar.out.cell 2,ar.out.cell 3,ar.out.cell 4,ar.out.cell 5,ar.out.cell 6,ar.out.cell 7,ar.out.cell 8⟩
  have ax:=ar.out.lt;have HCE:=wJ (HE.out w2 _ d0 b2 rfl rfl);have B2:=wJ b2;clear f3 f4 f5 f6 aL HT HE aA b2;go_wp2_with fail
  refine HCE.out.mono ?_;rintro e' w3 ⟨rfl,h3,c3⟩;have h0:=h3.cell 0;replace h0:w3.cell? ⟨w2.heap.size,0,none⟩=some (.bool dt):=h0;have C3:=wJ c3;have HL3:=h3.lt;clear h3 c3 HCE;go_wp2_with fail
  go_ret
  exact⟨rfl,(aJ.out.trans (B2.out.mono aJ.out.size)).trans ((((Chg.refl (only w2.heap.size) w2).alloc _).trans C3.out).toBelow (by have:=aJ.out.size;omega) (λk hk=>by unfold only;have:=aJ.out.size;omega))⟩
end Go.Proofs.YtknkclefoiohpaaGreatDoor
