import Derived.Test.YtknkclefoiohpaaGreatDoorKaI
import Derived.Test.YtknkclefoiohpaaGreatDoorKaS
set_option maxHeartbeats 12800000
namespace Go.Proofs.YtknkclefoiohpaaGreatDoor
open Go.RowKit Lx Tx Sx
set_option maxRecDepth 100000
theorem zfB(e:Ex)(S:Nat->Prop)(v:Value)(w:World)(hn:e.size<=100000)(du:e.wt<=1000000)(hv:RdX S w e v)(hS:∀g,S g->g<w.heap.size):Calls Tryz.prog 43 #[v] w λe' w'=>e'=.returned (.bool e.tooDeep)/\Below w.heap.size w w':=by
 obtain⟨K,X,Z,B,m,q,KA,kc,LA,lc,rfl,-⟩:=hv.shape;have an:∀W,Below w.heap.size w W->RdX S W e _/\∀g,S g->g<W.heap.size:=λW hW=>⟨hv.keep (λ_ h=>h) (λg hg=>hW.block g (hS g hg)),λg hg=>by have:=hS g hg;have:=hW.size;omega⟩;have HD:=wJ (λW (hW:Below w.heap.size w W)=>znl 100000 e S _ W hn (tV _) (an W hW).1 (an W hW).2);have HH:=wJ (λW (hW:Below w.heap.size w W)=>zjM 100000 e S _ W hn (tV _) du (an W hW).1 (an W hW).2);obtain⟨kd,ch⟩:∃y,kdE e=y:=⟨_,rfl⟩;obtain⟨nm,eC⟩:∃y:ByteArray,⟨(nmE e).toArray⟩=y:=⟨_,rfl⟩;obtain⟨td,cI⟩:∃y,toE e=y:=⟨_,rfl⟩;obtain⟨kn,bg⟩:∃y,(zac e).length=y:=⟨_,rfl⟩;obtain⟨ln,br⟩:∃y,(zad e).length=y:=⟨_,rfl⟩;obtain⟨d,hd⟩:∃y,e.depth=y:=⟨_,rfl⟩;obtain⟨t,ht⟩:∃y,e.deepT=y:=⟨_,rfl⟩;unfold Ex.tooDeep;rw[ch,eC,cI,bg,br,hd]at HD
 rw[ch,eC,cI,bg,br,ht]at HH
 rw[ch,eC,cI,bg,br,hd,ht]
 clear ch eC cI bg br hd ht hv hS an hn du;have aN:Below w.heap.size w (w.alloc (.cells #[.int .i64 (kd:Nat),.string nm,.bool td,.int .i64 K,.string X,.int .i64 Z,.slice B m q,.slice KA kn kc,.slice LA ln lc] 39)):=(ua _ w).alloc (tV _) _;have aJ:=wJ aN;have bc:=wJ (tW w (.cells #[.int .i64 (kd:Nat),.string nm,.bool td,.int .i64 K,.string X,.int .i64 Z,.slice B m q,.slice KA kn kc,.slice LA ln lc] 39));clear aN;obtain⟨b,hb⟩:∃b,decide (50<d)=b:=⟨_,rfl⟩;have d1:decide ((50:Int)<(d:Nat))=b:=by
  rw[<-hb]
  by_cases h:50<d <;> simp[h] <;> omega
 rw[hb]
 clear hb;go_enter Tryz.func43,Tryz.ntmps43
 go_wp2_with fail
 refine(HD.out _ aJ.out).mono ?_;rintro e' w2 ⟨rfl,b2⟩;have B2:=wJ (aJ.out.trans (b2.mono aJ.out.size));cases b with
 |true =>
  clear b2;go_wp2_with fail
  go_ret
  exact⟨rfl,B2.out⟩
 |false =>
  have aA:Blk w2 w.heap.size 39 #[.int .i64 (kd:Nat),.string nm,.bool td,.int .i64 K,.string X,.int .i64 Z,.slice B m q,.slice KA kn kc,.slice LA ln lc]:=(b2.block w.heap.size (by simp)).trans bc.out;obtain⟨g0,g1,g2,g3,g4,g5,g6,g7,g8⟩:w2.cell? ⟨w.heap.size,0,none⟩=some (.int .i64 (kd:Nat))/\w2.cell? ⟨w.heap.size,1,none⟩=some (.string nm)/\w2.cell? ⟨w.heap.size,2,none⟩=some (.bool td) /\
   w2.cell? ⟨w.heap.size,3,none⟩=some (.int .i64 K)/\w2.cell? ⟨w.heap.size,4,none⟩=some (.string X)/\w2.cell? ⟨w.heap.size,5,none⟩=some (.int .i64 Z)/\w2.cell? ⟨w.heap.size,6,none⟩=some (.slice B m q)/\w2.cell? ⟨w.heap.size,7,none⟩=some (.slice KA kn kc)/\w2.cell? ⟨w.heap.size,8,none⟩=some (.slice LA ln lc) :=
   ⟨aA.cell 0,aA.cell 1,aA.cell 2,aA.cell 3,aA.cell 4,aA.cell 5,aA.cell 6,aA.cell 7,aA.cell 8⟩
  have ax:=aA.lt;clear b2 aA HD;go_wp2_with fail
  refine(HH.out _ B2.out).mono ?_;rintro e' w3 ⟨rfl,b3⟩;go_wp2_with fail
  go_ret
  exact⟨rfl,B2.out.trans (b3.mono B2.out.size)⟩
end Go.Proofs.YtknkclefoiohpaaGreatDoor
namespace Go.Proofs.YtknkclefoiohpaaGreatDoor
open Go.RowKit Lx Tx Sx
set_option maxRecDepth 100000
def zlw(S:Nat->Prop)(b:Nat)(w:World)(o:Option (Ty × List Tok))(e:Ending)(w':World):Prop :=
 ChR b w w'/\∃K X Z A m c,
  ((o=none/\e=.returned (.tuple #[.agg #[.int .i64 K,.string X,.int .i64 Z,.slice A m c],.bool false])) \/
   (∃t r,o=some (t,r)/\e=.returned (.tuple #[.agg #[.int .i64 K,.string X,.int .i64 Z,.slice A m c],.bool true]) /\
    RdV (λg=>w.heap.size<=g/\g<w'.heap.size) w' t (.agg #[.int .i64 K,.string X,.int .i64 Z,.slice A m c])/\RdrS S w' b r))
theorem znm(S:Nat->Prop)(b:Nat)(l:List Tok)(w:World)(h:RdrS S w b l)(hS:∀g,S g->g≠b/\g<w.heap.size)(hG:AllG l)(hl:l.length<=100000):Calls Tryz.prog 166 #[.pointer (some ⟨b,0,none⟩),.func (.func 53) #[] #[]] w (zlw S b w (typ l)):=by
 obtain⟨v,hb,ht⟩:=h;have aC:=hb.lt;have hR:=znk S l v (w.alloc (.cells tyZ 35)) (ht.keep (λg hg=>uc _ _ _ (hS g hg).2)) (λg hg=>by have:=(hS g hg).2;simp;omega) hG hl;unfold typ;obtain⟨O,hO⟩:∃O,read (enough l) l=O:=⟨_,rfl⟩;rw[hO]at hR ⊢
 unfold tyZ at hR;have HR:=wJ hR;have HB:=wJ hb;have HS:=wJ hS;have f0:=hb.cell 0;replace f0:w.cell? ⟨b,0,none⟩=some v:=f0;clear ht hR hO hG hl hb hS;go_enter Tryz.func166,Tryz.ntmps166
 go_wp2_with fail
 refine HR.out.mono ?_;rintro e w2 ⟨b2,K,X,Z,A,m,c,v2,q,rfl,bk,bG⟩;have bo:=b2.size;simp at bo;have aa:Blk w2 w.heap.size 35 #[.int .i64 0,.string ⟨#[]⟩,.int .i64 0,.slice none 0 0]:=(b2.block w.heap.size (by simp)).trans (tW w _);obtain⟨a0,a1,a2,a3,q0,q1,q2,q3,ax⟩:=zae aa;have dY:Blk w2 b 141 #[v]:=(b2.block b (by simp;omega)).trans (HB.out.alloc _);have e0:=dY.cell 0;replace e0:w2.cell? ⟨b,0,none⟩=some v:=e0;have e1:=dY.frozen 0;have e2:=dY.lt;have aE:=wJ aa;have jW:=wJ dY;have B2:=wJ b2;have bf:b≠w.heap.size:=by omega
 clear aa dY b2 HR;cases q with
 |false =>
  obtain⟨ho,rfl⟩:=bk rfl;have HO:=wJ ho;clear ho bk bG;go_wp2_with fail
  try simp only[Exit.inBlock,Exit.then]
  have aX:Below w.heap.size w w2:=((ua w.heap.size w).alloc (tV _) (.cells #[.int .i64 0,.string ⟨#[]⟩,.int .i64 0,.slice none 0 0] 35)).trans (B2.out.mono (by simp));have cP:=((((Chg.of_below (M:=only b) aX).set4 (.int .i64 K) (.string X) (.int .i64 Z) (.slice A m c) (tV _)).setCell (p:=⟨b,0,none⟩) (.inr rfl) (.slice none 0 0)).set4 (.int .i64 K) (.string X) (.int .i64 Z) (.slice A m c) (tV _));have aa:=zai (.int .i64 K) (.string X) (.int .i64 Z) (.slice A m c) ((zai (.int .i64 K) (.string X) (.int .i64 Z) (.slice A m c) aE.out).same (tY _ ⟨b,0,none⟩ (.slice none 0 0) w.heap.size (λe=>bf e.symm)));refine ub (zaa rfl _ _ w.heap.size 35 _ (0,0) _ rfl aa Tryz.underlying35 rfl (by kernel_rfl)) rfl ?_;exact⟨⟨cP,λ_=>⟨none,0,0,(zan _ _ _ _ _ _ _ bf).trans (uk _ b 0 _ _ (.slice none 0 0) (jW.out.same (zan _ _ _ _ _ _ _ bf)))⟩⟩,K,X,Z,A,m,c,.inl ⟨HO.out,rfl⟩⟩
 |true =>
  obtain⟨t,r,A2,c2,ho,rfl,aq,oc⟩:=bG rfl;obtain⟨rn,ep⟩:∃y,r.length=y:=⟨_,rfl⟩;have HO:=wJ ho;have bD:=wJ aq;have oR:=wJ oc;rw[ep]at oR ⊢
  clear ho aq oc bk bG ep;go_wp2_with fail
  try simp only[Exit.inBlock,Exit.then]
  have aX:Below w.heap.size w w2:=((ua w.heap.size w).alloc (tV _) (.cells #[.int .i64 0,.string ⟨#[]⟩,.int .i64 0,.slice none 0 0] 35)).trans (B2.out.mono (by simp));have cP:=((((Chg.of_below (M:=only b) aX).set4 (.int .i64 K) (.string X) (.int .i64 Z) (.slice A m c) (tV _)).setCell (p:=⟨b,0,none⟩) (.inr rfl) (.slice A2 rn c2)).set4 (.int .i64 K) (.string X) (.int .i64 Z) (.slice A m c) (tV _));have aa:=zai (.int .i64 K) (.string X) (.int .i64 Z) (.slice A m c) ((zai (.int .i64 K) (.string X) (.int .i64 Z) (.slice A m c) aE.out).same (tY _ ⟨b,0,none⟩ (.slice A2 rn c2) w.heap.size (λe=>bf e.symm)));refine ub (zaa rfl _ _ w.heap.size 35 _ (0,0) _ rfl aa Tryz.underlying35 rfl (by kernel_rfl)) rfl ?_;have bu:∀k,k≠w.heap.size->k≠b->(((((((((w2.setCell ⟨w.heap.size,0,none⟩ (.int .i64 K)).setCell ⟨w.heap.size,1,none⟩ (.string X)).setCell ⟨w.heap.size,2,none⟩ (.int .i64 Z)).setCell ⟨w.heap.size,3,none⟩ (.slice A m c)).setCell ⟨b,0,none⟩ (.slice A2 rn c2)).setCell ⟨w.heap.size,0,none⟩ (.int .i64 K)).setCell ⟨w.heap.size,1,none⟩ (.string X)).setCell ⟨w.heap.size,2,none⟩ (.int .i64 Z)).setCell ⟨w.heap.size,3,none⟩ (.slice A m c)).heap[k]?=w2.heap[k]?:=λk h1 h2=>by
   rw[zan _ _ _ _ _ _ _ h1,tY _ ⟨b,0,none⟩ _ k h2,zan _ _ _ _ _ _ _ h1]
  refine⟨⟨cP,λ_=>⟨A2,rn,c2,(zan _ _ _ _ _ _ _ bf).trans (uk _ b 0 _ _ (.slice A2 rn c2) (jW.out.same (zan _ _ _ _ _ _ _ bf)))⟩⟩,K,X,Z,A,m,c,.inr ⟨t,r,HO.out,rfl,?_,.slice A2 rn c2,?_,?_⟩⟩
  ·refine bD.out.keep (λg hg=>?_) (λg hg=>bu g (by simp at hg;omega) (by simp at hg;omega))
   simp at hg ⊢;omega
  ·refine(zan _ _ _ _ _ _ _ bf).trans ?_
   exact uk _ b 0 _ _ (.slice A2 rn c2) (jW.out.same (zan _ _ _ _ _ _ _ bf))
  ·exact oR.out.keep (λg hg=>bu g (by have:=(HS.out g hg).2;omega) (HS.out g hg).1)
theorem zdV(S:Nat->Prop)(b:Nat)(l:List Tok)(w:World)(h:RdrS S w b l)(hS:∀g,S g->g≠b/\g<w.heap.size)(hG:AllG l)(hl:l.length<=100000):Calls Tryz.prog 128 #[.pointer (some ⟨b,0,none⟩)] w (zlw S b w (typ l)):=by
 have aC:=h.lt;have HP:=wJ (znm S b l (w.alloc (.cells tyZ 35)) (h.alloc _ (λg hg=>(hS g hg).2)) (λg hg=>⟨(hS g hg).1,by have:=(hS g hg).2;simp;omega⟩) hG hl);unfold tyZ at HP;obtain⟨O,hO⟩:∃O,typ l=O:=⟨_,rfl⟩;rw[hO]at HP ⊢
 have HS:=wJ hS;clear h hS hG hl hO;go_enter Tryz.func128,Tryz.ntmps128
 go_wp2_with fail
 refine HP.out.mono ?_;rintro e w2 ⟨c2,K,X,Z,A,m,c,au⟩;have aa:Blk w2 w.heap.size 35 #[.int .i64 0,.string ⟨#[]⟩,.int .i64 0,.slice none 0 0]:=Blk.chgR (tW _ _) c2 (by unfold only;omega);have bo:=c2.size;simp at bo;obtain⟨a0,a1,a2,a3,q0,q1,q2,q3,ax⟩:=zae aa;have aE:=wJ (zai (.int .i64 K) (.string X) (.int .i64 Z) (.slice A m c) aa);have HCH:=wJ (c2.pre.set4 (.int .i64 K) (.string X) (.int .i64 Z) (.slice A m c) (tV _));have bf:b≠w.heap.size:=by omega
 clear aa c2 HP;rcases au with⟨ho,rfl⟩|⟨t,r,ho,rfl,aq,bV⟩
 ·have HO:=wJ ho
  clear ho;go_wp2_with fail
  try simp only[Exit.inBlock,Exit.then]
  refine ub (zaa rfl _ _ w.heap.size 35 _ (0,0) _ rfl aE.out Tryz.underlying35 rfl (by kernel_rfl)) rfl ?_;exact⟨HCH.out,K,X,Z,A,m,c,.inl ⟨HO.out,rfl⟩⟩
 ·have HO:=wJ ho
  have bD:=wJ aq;have ef:=wJ bV;clear ho aq bV;go_wp2_with fail
  try simp only[Exit.inBlock,Exit.then]
  refine ub (zaa rfl _ _ w.heap.size 35 _ (0,0) _ rfl aE.out Tryz.underlying35 rfl (by kernel_rfl)) rfl ?_;refine⟨HCH.out,K,X,Z,A,m,c,.inr ⟨t,r,HO.out,rfl,?_,?_⟩⟩
  ·refine bD.out.keep (λg hg=>?_) (λg hg=>zan _ _ _ _ _ _ _ (by simp at hg;omega))
   simp at hg ⊢;omega
  ·exact ef.out.keep (zan _ _ _ _ _ _ _ bf) (λk hk=>zan _ _ _ _ _ _ _ (by have:=(HS.out k hk).2;omega))
end Go.Proofs.YtknkclefoiohpaaGreatDoor
namespace Go.Proofs.YtknkclefoiohpaaGreatDoor
open Go.RowKit Lx Tx
set_option maxRecDepth 100000
def VPost(S:Nat->Prop)(b:Nat)(w:World)(o:List (List UInt8) × List Tok)(e:Ending)(w':World):Prop :=
 ∃A c,e=.returned (.tuple #[.slice A o.1.length c,.bool true])/\w'.ownsRow w.heap.size 9 1 (.slice A o.1.length c) o.1.length (strV o.1)/\RdrS S w' b o.2/\Chg (only b) w w'
def HeadNs(S:Nat->Prop)(b:Nat)(r0:List Tok)(w:World)(gg:Nat)(v:Value)(wr:World):Prop :=
 ∃(l:List Tok) (done:List (List UInt8)) (A:Option Addr) (c:Nat),gg=l.length/\v=.slice A done.length c/\l.length+done.length<=r0.length/\Hid (RdrS S wr b l)/\Hid (vars r0=(done++(vars l).1,(vars l).2)) /\
  Hid (wr.ownsRow w.heap.size 9 1 (.slice A done.length c) done.length (strV done))/\Hid (Chg (only b) w wr)
theorem zjN(S:Nat->Prop)(b:Nat)(l:List Tok)(w:World)(h:RdrS S w b l)(hS:∀g,S g->g≠b/\g<w.heap.size)(hl:l.length<=100000):Calls Tryz.prog 185 #[.slice none 0 0,.func (.func 171) #[.pointer (some ⟨b,0,none⟩)] #[],.func (.func 127) #[.pointer (some ⟨b,0,none⟩)] #[]] w (VPost S b w (vars l)):=by
 have aC:=h.lt;obtain⟨i0,bJ,bO,bz,bE⟩:=vz zc5;obtain⟨L,hL⟩:∃L,l.length=L:=⟨_,rfl⟩;have HL:=wJ hL;have HS:=wJ hS;have HH:Hid (HeadNs S b l w L (.slice none 0 0) w):=wJ ⟨l,[],none,0,hL.symm,rfl,by simp,wJ h,wJ (by simp),wJ (uZ _ _ _ _),wJ (Chg.refl _ w)⟩;rw[hL]at hl
 clear h hS hL;go_enter Tryz.func185,Tryz.ntmps185
 go_wp2_with fail
 go_loopg [0] L (λgg v wr=>HeadNs S b l w gg v wr)
 case atStart=>exact HH.out
 case round =>
  obtain⟨r,done,A,c,rfl,rfl,hle,hr,hv,ae,hc⟩:=hrel;rw[HL.out]at hle
  have aG:=hc.out.size;obtain⟨n,hn⟩:∃n,done.length=n:=⟨_,rfl⟩;rw[hn]at hle ae ⊢
  have HN:=wJ hn;obtain⟨rn,ep⟩:∃n,r.length=n:=⟨_,rfl⟩;have ir:=wJ ep;rw[ep]at hle
  have hA:=wJ (zd7 S b r wr hr.out (by rw[ep];omega));clear hn ep HH;obtain⟨q,hq⟩:∃q,((hd r).kind==1)=q:=⟨_,rfl⟩;rw[hq]at hA
  have HQ:=wJ hq;clear hq;go_wp2_with fail
  refine hA.out.mono ?_;rintro e w2 ⟨rfl,b2⟩;have bo:=b2.size;have dD:=wJ (hr.out.below b2 (λg hg=>by have:=(HS.out g hg).2;omega));have cH:=wJ (hc.out.below b2);have cj:=wJ (zcg ae.out (Chg.of_below (M:=only b) b2) aC);clear b2 hA;cases q with
  |true =>
   have hk:(hd r).kind=1:=by simpa using HQ.out
   have hV:=zeQ S b r w2 dD.out (λg hg=>⟨(HS.out g hg).1,by have:=(HS.out g hg).2;omega⟩) (by rw[ir.out];omega);rw[HQ.out]at hV
   obtain⟨X,hX⟩:∃X,anyT r 1=X:=⟨_,rfl⟩;obtain⟨r2,aw⟩:∃x,anyR r 1=x:=⟨_,rfl⟩;rw[hX,aw]at hV
   have dQ:X.data.toList=(hd r).text:=by rw[<-hX,anyT,ud hk]
   have aD:r.tail=r2:=by rw[<-aw,anyR,ud hk]
   have br:r2.length+1=rn:=by
    rw[<-ir.out,<-aD]
    obtain⟨r',e1,e2⟩:=zbr (l:=r) (by rw[hk];decide);rw[e2,e1];rfl
   have iq:=wJ hV;have dU:Hid (vars l=((done++[X.data.toList])++(vars r2).1,(vars r2).2)):=wJ (by rw[hv.out,zfa r hk,aD,dQ];simp);clear hk hV hX aw dQ aD;go_wp2_with fail
   refine iq.out.mono ?_;rintro e w3 ⟨rfl,rr3,c3⟩;have eA:=c3.size;have gz:=wJ rr3;have dF:=wJ (cH.out.trans c3);have dN:=wJ ((zcg cj.out c3 aC).alloc (.cells #[.string X] 9));have ma:=wJ (zcg cj.out c3 aC);clear rr3 c3 iq;go_wp2_with (at_builtin;refine uP _ rfl (.tmp 25) (.tmp 27) 56 rfl w.heap.size 9 i0 _ 1 16 Tryz.underlying56 bJ bO bz bE rfl (by decide) _ n (strV done) rfl dN.out ⟨w3.heap.size,0,none⟩ 1 1 [.string X] rfl rfl (zao _ _ _ _ rfl) (by intro u hu;simp at hu;subst hu;rfl) (by unfold maxLen;omega) (by omega) (by simp;omega) ?_;intro v2 w5 aj ab _ cV;obtain⟨A2,c2,rfl⟩:=zat aj;have bw:=wJ ab;have eU:=wJ aj;clear aj ab cV)
   have ee:=bw.out.size;simp at ee;have bY:=ma.out.lt;go_roundg r2.length
   case measure=>rw[ir.out];omega
   case rel =>
    refine⟨r2,done++[X.data.toList],A2,c2,rfl,by rw[uf,HN.out];rfl,by rw[uf,HN.out,HL.out];simp;omega,wJ (gz.out.keep ?_ ?_),dU,wJ ?_,wJ ((dF.out.alloc _).grown bw.out (λj hj=>.inl (by have:=bY _ hj;omega)))⟩
    ·exact(bw.out.block b (by simp;omega) (λe=>by have:=bY _ e.symm;omega)).trans (uc _ _ _ (by omega))
    ·exact λg hg=>(bw.out.block g (by have:=(HS.out g hg).2;simp;omega) (λe=>by have:=bY _ e.symm;have:=(HS.out g hg).2;omega)).trans (uc _ _ _ (by have:=(HS.out g hg).2;omega))
    ·rw[uf,HN.out,show strV (done++[X.data.toList])=strV done++[.string X] by simp[strV]]
     exact eU.out
  |false =>
   have hk:¬(hd r).kind=1:=by simpa using HQ.out
   have dU:vars l=(done,r):=by rw[hv.out,zfV r hk];simp
   have jq:=wJ dU;clear hk dU;go_wp2_with fail
   go_ret2
   unfold VPost;rw[jq.out]
   exact⟨A,c,by rw[HN.out];rfl,by rw[HN.out];exact cj.out,dD.out,cH.out⟩
theorem zhM(S:Nat->Prop)(b:Nat)(l:List Tok)(w:World)(h:RdrS S w b l)(hS:∀g,S g->g≠b/\g<w.heap.size)(hl:l.length<=100000):Calls Tryz.prog 163 #[.pointer (some ⟨b,0,none⟩)] w (VPost S b w (vars l)):=by
 have HT:=zjN S b l w h hS hl;obtain⟨O,hO⟩:∃O,vars l=O:=⟨_,rfl⟩;rw[hO]at HT ⊢
 have aC:=h.lt;clear h hS hl hO;go_enter Tryz.func163,Tryz.ntmps163
 go_wp2_with fail
 refine HT.mono ?_;rintro e w1 ⟨A,c,rfl,h1,h2,h3⟩;obtain⟨n,hn⟩:∃n,O.1.length=n:=⟨_,rfl⟩;rw[hn]at h1 ⊢
 have HN:=wJ hn;have H1:=wJ h1;clear hn h1;go_wp2_with fail
 go_ret2
 exact⟨A,c,by rw[HN.out];rfl,by rw[HN.out];exact H1.out,h2,h3⟩
theorem zaE(S:Nat->Prop)(b:Nat)(l:List Tok)(X:ByteArray)(w:World)(h:RdrS S w b l)(hS:∀g,S g->g≠b/\g<w.heap.size)(hl:l.length<=100000):Calls Tryz.prog 93 #[.pointer (some ⟨b,0,none⟩),.string X] w λe w'=>e=.returned (.bool (isHd l 6 X.data.toList))/\RdrS S w' b (took l 6 X.data.toList)/\ChR b w w' :=
 (zoM S b l X w h hS hl).mono λ_ _ ⟨h1,h2,h3⟩=>⟨h1,h2,ChR.of_rdr h3 h2⟩
theorem zcs(S:Nat->Prop)(b:Nat)(l:List Tok)(X:ByteArray)(w:World)(h:RdrS S w b l)(hS:∀g,S g->g≠b/\g<w.heap.size)(hl:l.length<=100000):Calls Tryz.prog 95 #[.pointer (some ⟨b,0,none⟩),.string X] w λe w'=>e=.returned (.bool (isHd l 3 X.data.toList))/\RdrS S w' b (took l 3 X.data.toList)/\ChR b w w' :=
 (zoN S b l X w h hS hl).mono λ_ _ ⟨h1,h2,h3⟩=>⟨h1,h2,ChR.of_rdr h3 h2⟩
theorem zcl(S:Nat->Prop)(b:Nat)(l:List Tok)(w:World)(h:RdrS S w b l)(hS:∀g,S g->g≠b/\g<w.heap.size)(hl:l.length<=100000):Calls Tryz.prog 127 #[.pointer (some ⟨b,0,none⟩)] w λe w'=>e=.returned (.tuple #[.string (anyT l 1),.bool ((hd l).kind==1)])/\RdrS S w' b (anyR l 1)/\ChR b w w' :=
 (zeQ S b l w h hS hl).mono λ_ _ ⟨h1,h2,h3⟩=>⟨h1,h2,ChR.of_rdr h3 h2⟩
theorem zcy(S:Nat->Prop)(b:Nat)(l:List Tok)(k:Nat)(K:Int)(hK:K=k)(w:World)(h:RdrS S w b l)(hS:∀g,S g->g≠b/\g<w.heap.size)(hl:l.length<=100000)(kA:k≠0):Calls Tryz.prog 162 #[.pointer (some ⟨b,0,none⟩),.int .i64 K] w λe w'=>e=.returned (.tuple #[.string (anyT l k),.bool ((hd l).kind==k)])/\RdrS S w' b (anyR l k)/\ChR b w w' :=
 (zfy S b l k K hK w h hS hl kA).mono λ_ _ ⟨h1,h2,h3⟩=>⟨h1,h2,ChR.of_rdr h3 h2⟩
theorem zd8(S:Nat->Prop)(b:Nat)(l:List Tok)(w:World)(h:RdrS S w b l)(hS:∀g,S g->g≠b/\g<w.heap.size)(hl:l.length<=100000):Calls Tryz.prog 163 #[.pointer (some ⟨b,0,none⟩)] w λe w'=>∃A c,e=.returned (.tuple #[.slice A (vars l).1.length c,.bool true])/\w'.ownsRow w.heap.size 9 1 (.slice A (vars l).1.length c) (vars l).1.length (strV (vars l).1)/\RdrS S w' b (vars l).2/\ChR b w w' :=
 (zhM S b l w h hS hl).mono λ_ _ ⟨A,c,h1,h2,h3,h4⟩=>⟨A,c,h1,h2,h3,ChR.of_rdr h4 h3⟩
end Go.Proofs.YtknkclefoiohpaaGreatDoor
namespace Go.Proofs.YtknkclefoiohpaaGreatDoor
open Go.RowKit Lx Tx Sx
set_option maxRecDepth 100000
structure C9 where
 k:Int
 x:ByteArray
 t:Bool
 K:Int
 X:ByteArray
 Z:Int
 B:Option Addr
 m:Nat
 q:Nat
 KA:Option Addr
 kn:Nat
 kc:Nat
 LA:Option Addr
 ln:Nat
 lc:Nat
def lamF(f:Nat)(l:List Tok):Option (Ex × List Tok) :=
 match tok1 1 l with
 |none=>none
 |some (x,r2) =>
  match eat pArr r2 with
  |none=>none
  |some r3=>(rdE f r3).map λy=>(.lam x y.1,y.2)
theorem zi3(f:Nat)(l:List Tok):lamF f l=if(hd l).kind=1 then(if isHd l.tail 6 [45,62]=true then(rdE f l.tail.tail).map λy=>(.lam (hd l).text y.1,y.2) else none) else none:=by
 unfold lamF;rw[zbV 1 (by decide)]
 by_cases h:(hd l).kind=1
 ·rw[ud h,ud h]
  have:eat pArr l.tail=if isHd l.tail 6 [45,62]=true then some l.tail.tail else none:=zaH 6 (by decide) [45,62] l.tail
  simp only[this];by_cases h2:isHd l.tail 6 [45,62]=true
  ·rw[ud h2,ud h2]
  ·rw[ue h2,ue h2]
 ·rw[ue h,ue h]
theorem zin(w:World)(g:Nat)(b0 b1 b2 b3 b4:Value)(k:Nat)(hk:k≠g):(((((w.setCell ⟨g,0,none⟩ b0).setCell ⟨g,1,none⟩ b1).setCell ⟨g,2,none⟩ b2).setCell ⟨g,3,none⟩ b3).setCell ⟨g,4,none⟩ b4).heap[k]?=w.heap[k]? :=
 (tY _ ⟨g,4,none⟩ _ k hk).trans (zan _ _ _ _ _ _ _ hk)
theorem zaf(w:World)(g k:Nat)(b0 b1 b2 b3 b4 b5 b6 b7 b8:Value)(hk:k≠g):(((((((((w.setCell ⟨g,0,none⟩ b0).setCell ⟨g,1,none⟩ b1).setCell ⟨g,2,none⟩ b2).setCell ⟨g,3,none⟩ b3).setCell ⟨g,4,none⟩ b4).setCell ⟨g,5,none⟩ b5).setCell ⟨g,6,none⟩ b6).setCell ⟨g,7,none⟩ b7).setCell ⟨g,8,none⟩ b8).heap[k]?=w.heap[k]?:=by
 rw[tY _ ⟨g,8,none⟩ _ k hk,tY _ ⟨g,7,none⟩ _ k hk,tY _ ⟨g,6,none⟩ _ k hk,tY _ ⟨g,5,none⟩ _ k hk,zin _ _ _ _ _ _ _ k hk]
def exZ:Array Value:=#[.int .i64 0,.string ⟨#[]⟩,.bool false,.int .i64 0,.string ⟨#[]⟩,.int .i64 0,.slice none 0 0,.slice none 0 0,.slice none 0 0]
theorem zah {w:World} {g:Nat} {t:TypeId} {a0 a1 a2 a3 a4 a5 a6 a7 a8:Value}(b0 b1 b2 b3 b4 b5 b6 b7 b8:Value)(h:Blk w g t #[a0,a1,a2,a3,a4,a5,a6,a7,a8]):Blk (((((((((w.setCell ⟨g,0,none⟩ b0).setCell ⟨g,1,none⟩ b1).setCell ⟨g,2,none⟩ b2).setCell ⟨g,3,none⟩ b3).setCell ⟨g,4,none⟩ b4).setCell ⟨g,5,none⟩ b5).setCell ⟨g,6,none⟩ b6).setCell ⟨g,7,none⟩ b7).setCell ⟨g,8,none⟩ b8) g t #[b0,b1,b2,b3,b4,b5,b6,b7,b8]:=by
 have s:∀(W:World) (cs:Array Value) (i:Nat) (b:Value),Blk W g t cs->Blk (W.setCell ⟨g,i,none⟩ b) g t (cs.setIfInBounds i b):=λW cs i b h=>uk W g i _ _ b h;have h8:=s _ _ 8 b8 (s _ _ 7 b7 (s _ _ 6 b6 (s _ _ 5 b5 (s _ _ 4 b4 (s _ _ 3 b3 (s _ _ 2 b2 (s _ _ 1 b1 (s _ _ 0 b0 h))))))));have e:((((((((((#[a0,a1,a2,a3,a4,a5,a6,a7,a8]:Array Value).setIfInBounds 0 b0).setIfInBounds 1 b1).setIfInBounds 2 b2).setIfInBounds 3 b3).setIfInBounds 4 b4).setIfInBounds 5 b5).setIfInBounds 6 b6).setIfInBounds 7 b7).setIfInBounds 8 b8)=#[b0,b1,b2,b3,b4,b5,b6,b7,b8]:=by simp
 rw[e]at h8
 exact h8
structure Z9 (w:World) (g:Nat):Prop where
 c:w.cell? ⟨g,0,none⟩=some (.int .i64 0)/\w.cell? ⟨g,1,none⟩=some (.string ⟨#[]⟩)/\w.cell? ⟨g,2,none⟩=some (.bool false) /\
   w.cell? ⟨g,3,none⟩=some (.int .i64 0)/\w.cell? ⟨g,4,none⟩=some (.string ⟨#[]⟩)/\w.cell? ⟨g,5,none⟩=some (.int .i64 0)/\w.cell? ⟨g,6,none⟩=some (.slice none 0 0)/\w.cell? ⟨g,7,none⟩=some (.slice none 0 0)/\w.cell? ⟨g,8,none⟩=some (.slice none 0 0)
 f:w.frozen? ⟨g,0,none⟩=false/\w.frozen? ⟨g,1,none⟩=false/\w.frozen? ⟨g,2,none⟩=false/\w.frozen? ⟨g,3,none⟩=false/\w.frozen? ⟨g,4,none⟩=false/\w.frozen? ⟨g,5,none⟩=false/\w.frozen? ⟨g,6,none⟩=false/\w.frozen? ⟨g,7,none⟩=false/\w.frozen? ⟨g,8,none⟩=false
theorem z9 {w:World} {g:Nat} {t:TypeId}(h:Blk w g t exZ):Z9 w g :=
 ⟨⟨h.cell 0,h.cell 1,h.cell 2,h.cell 3,h.cell 4,h.cell 5,h.cell 6,h.cell 7,h.cell 8⟩,⟨h.frozen 0,h.frozen 1,h.frozen 2,h.frozen 3,h.frozen 4,h.frozen 5,h.frozen 6,h.frozen 7,h.frozen 8⟩⟩
end Go.Proofs.YtknkclefoiohpaaGreatDoor
namespace Go.Proofs.YtknkclefoiohpaaGreatDoor
namespace Sx
open Lx Tx
def zaC {α:Type}(nx:List Tok->Bool)(af:List Tok->List Tok)(rd:Nat->List Tok->Option (α × List Tok)):Nat->List Tok->Option (List α × List Tok)
 |0,_=>none
 |f+1,l =>
  if nx l=true then
   match rd f (af l) with
   |none=>none
   |some y=>(zaC nx af rd f y.2).map λz=>(y.1::z.1,z.2)
  else some ([],l)
theorem zaZ {α:Type} {nx:List Tok->Bool} {af:List Tok->List Tok} {rd:Nat->List Tok->Option (α × List Tok)}(f:Nat)(l:List Tok)(h:nx l=false):zaC nx af rd (f+1) l=some ([],l):=by
 rw[zaC,ue (by rw[h];decide)]
theorem zbj {α:Type} {nx:List Tok->Bool} {af:List Tok->List Tok} {rd:Nat->List Tok->Option (α × List Tok)}(f:Nat)(l:List Tok)(h:nx l=true)(ho:rd f (af l)=none):zaC nx af rd (f+1) l=none:=by
 rw[zaC,ud h,ho]
theorem za6 {α:Type} {nx:List Tok->Bool} {af:List Tok->List Tok} {rd:Nat->List Tok->Option (α × List Tok)}(f:Nat)(l:List Tok)(h:nx l=true)(x:α)(r:List Tok)(ho:rd f (af l)=some (x,r)):zaC nx af rd (f+1) l=(zaC nx af rd f r).map λy=>(x::y.1,y.2):=by
 rw[zaC,ud h,ho]
def semB(l:List Tok):Bool:=isHd l 6 [59]
def sepM {α:Type}(rd:Nat->List Tok->Option (α × List Tok))(f:Nat)(l:List Tok):Option (List α × List Tok) :=
 match rd f l with
 |none=>none
 |some y=>(zaC semB List.tail rd f y.2).map λz=>(y.1::z.1,z.2)
theorem zfO(l:List Tok):eat pSem l=if semB l=true then some l.tail else none:=zaH 6 (by decide) [59] l
def brF {α:Type}(rd:Nat->List Tok->Option (α × List Tok))(f:Nat)(l:List Tok):Option (List α × List Tok) :=
 if isHd l 6 [123]=true then
  if isHd l.tail 6 [125]=true then some ([],l.tail.tail)
  else
   match sepM rd f l.tail with
   |none=>none
   |some y=>if isHd y.2 6 [125]=true then some (y.1,y.2.tail) else none
 else none
theorem zi0(l:List Tok):eat pOpn l=if isHd l 6 [123]=true then some l.tail else none:=zaH 6 (by decide) [123] l
theorem zi1(l:List Tok):eat pCls l=if isHd l 6 [125]=true then some l.tail else none:=zaH 6 (by decide) [125] l
theorem zll(f:Nat):∀a l,rdArgs f a l=(zaC zaN id rdAtom f l).map λy=>(y.1.foldl Ex.app a,y.2):=by
 induction f with
 |zero=>intro a l;rw[rdArgs,zaC];rfl
 |succ f ih =>
  intro a l;cases l with
  |nil=>rw[rdArgs,zaZ f [] rfl];rfl
  |cons t r =>
   rw[rdArgs]
   by_cases h:atomE t=true
   ·rw[ud h]
    have h':zaN (t::r)=true:=h;cases ho:rdAtom f (t::r) with
    |none=>rw[zbj f (t::r) h' ho];rfl
    |some y =>
     obtain⟨b,r2⟩:=y;rw[za6 f (t::r) h' b r2 ho]
     simp only[ih];cases zaC zaN id rdAtom f r2 <;> rfl
   ·rw[ue h]
    have h':zaN (t::r)=false:=by simpa[zaN] using h
    rw[zaZ f (t::r) h']
    rfl
def rdAlt(f:Nat)(l:List Tok):Option (Al × List Tok) :=
 match tok1 2 l with
 |none=>none
 |some y =>
  match eat pArr (vars y.2).2 with
  |none=>none
  |some r2=>(rdE f r2).map λz=>(.mk y.1 (vars y.2).1 z.1,z.2)
theorem zni(f:Nat):∀l,rdAlts (f+1) l=sepM rdAlt f l:=by
 induction f with
 |zero =>
  intro l;rw[rdAlts,sepM,rdAlt]
  cases tok1 2 l with
  |none=>rfl
  |some y =>
   obtain⟨c,r⟩:=y;simp only;cases eat pArr (vars r).2 with
   |none=>rfl
   |some r2=>simp only[rdE];rfl
 |succ f ih =>
  intro l;rw[rdAlts,sepM,rdAlt]
  cases tok1 2 l with
  |none=>rfl
  |some y =>
   obtain⟨c,r⟩:=y;simp only;cases eat pArr (vars r).2 with
   |none=>rfl
   |some r2 =>
    simp only;cases rdE (f+1) r2 with
    |none=>rfl
    |some y =>
     obtain⟨b,r3⟩:=y;simp only[uq,zfO];by_cases h:semB r3=true
     ·simp only[ud h,ih]
      rw[sepM]
      cases ho:rdAlt f r3.tail with
      |none=>simp only;rw[zbj f r3 h ho]
      |some y =>
       obtain⟨x,r4⟩:=y;simp only;rw[za6 f r3 h x r4 ho]
     ·simp only[ue h]
      rw[zaZ f r3 (by simpa using h)];rfl
theorem zi2 {α:Type}(p:List Tok->Option (α × List Tok))(f:Nat):∀l,sepF p (f+1) l=sepM (λ_=>p) (f+1) l:=by
 induction f with
 |zero =>
  intro l;rw[sepF,sepM]
  cases p l with
  |none=>rfl
  |some y =>
   obtain⟨x,r⟩:=y;simp only[zfO];by_cases h:semB r=true
   ·simp only[ud h,sepF]
    cases ho:p r.tail with
    |none=>rw[zbj (rd:=λ_=>p) 0 r h ho]
    |some y=>rw[za6 (rd:=λ_=>p) 0 r h y.1 y.2 ho,zaC];rfl
   ·simp only[ue h]
    rw[zaZ 0 r (by simpa using h)];rfl
 |succ f ih =>
  intro l;rw[sepF,sepM]
  cases p l with
  |none=>rfl
  |some y =>
   obtain⟨x,r⟩:=y;simp only[zfO];by_cases h:semB r=true
   ·simp only[ud h,ih]
    rw[sepM]
    cases ho:p r.tail with
    |none=>simp only;rw[zbj (rd:=λ_=>p) (f+1) r h ho]
    |some y =>
     simp only;rw[za6 (rd:=λ_=>p) (f+1) r h y.1 y.2 ho]
   ·simp only[ue h]
    rw[zaZ (f+1) r (by simpa using h)];rfl
def choF(f:Nat)(l:List Tok):Option (Ex × List Tok) :=
 match rdE (f+1) l with
 |none=>none
 |some y=>if isHd y.2 3 wOf=true then(brF rdAlt f y.2.tail).map λz=>(.cs y.1 z.1,z.2) else none
theorem zgd(f:Nat)(l:List Tok):rdCase (f+2) l=choF f l:=by
 rw[rdCase,choF]
 cases rdE (f+1) l with
 |none=>rfl
 |some y =>
  obtain⟨a,r⟩:=y;simp only;rw[show eat (isKey · wOf) r=if isHd r 3 wOf=true then some r.tail else none from zaH 3 (by decide) wOf r]
  by_cases h:isHd r 3 wOf=true
  ·simp only[ud h,zi0,brF]
   by_cases h2:isHd r.tail 6 [123]=true
   ·simp only[ud h2,zi1]
    by_cases h3:isHd r.tail.tail 6 [125]=true
    ·simp only[ud h3];rfl
    ·simp only[ue h3,zni]
     cases sepM rdAlt f r.tail.tail with
     |none=>rfl
     |some z =>
      simp only;by_cases h4:isHd z.2 6 [125]=true
      ·simp only[ud h4];rfl
      ·simp only[ue h4];rfl
   ·simp only[ue h2];rfl
  ·simp only[ue h]
def letG(f:Nat)(x:Nm)(t:Option Ty)(r:List Tok):Option (Ex × List Tok) :=
 if isHd r 6 [61]=true then
  match rdE f r.tail with
  |none=>none
  |some y=>if isHd y.2 3 wIn=true then(rdE f y.2.tail).map λz=>(.lt x t y.1 z.1,z.2) else none
 else none
def letF(f:Nat)(l:List Tok):Option (Ex × List Tok) :=
 if(hd l).kind=1 then
  if isHd l.tail 6 [58]=true then
   match typ l.tail.tail with
   |none=>none
   |some y=>letG f (hd l).text (some y.1) y.2
  else letG f (hd l).text none l.tail
 else none
theorem zhD(f:Nat)(l:List Tok):rdLet (f+1) l=letF f l:=by
 rw[rdLet,letF,zbV 1 (by decide)]
 by_cases h:(hd l).kind=1
 ·simp only[ud h,told,show eat pCol l.tail=if isHd l.tail 6 [58]=true then some l.tail.tail else none from zaH 6 (by decide) [58] l.tail]
  have hG:∀t r,(match eat pEq r with
    |none=>none
    |some r3 =>
     match rdE f r3 with
     |none=>none
     |some (a,r4) =>
      match eat (isKey · wIn) r4 with
      |none=>none
      |some r5=>(rdE f r5).map λy=>(Ex.lt (hd l).text t a y.1,y.2))=letG f (hd l).text t r:=by
   intro t r;rw[letG,show eat pEq r=if isHd r 6 [61]=true then some r.tail else none from zaH 6 (by decide) [61] r]
   by_cases h1:isHd r 6 [61]=true
   ·simp only[ud h1]
    cases rdE f r.tail with
    |none=>rfl
    |some y =>
     simp only;rw[show eat (isKey · wIn) y.2=if isHd y.2 3 wIn=true then some y.2.tail else none from zaH 3 (by decide) wIn y.2]
     by_cases h2:isHd y.2 3 wIn=true
     ·simp only[ud h2]
     ·simp only[ue h2]
   ·simp only[ue h1]
  by_cases h1:isHd l.tail 6 [58]=true
  ·simp only[ud h1]
   cases typ l.tail.tail with
   |none=>rfl
   |some y=>exact hG (some y.1) y.2
  ·simp only[ue h1]
   exact hG none l.tail
 ·simp only[ue h]
def parF(f:Nat)(l:List Tok):Option (Ex × List Tok) :=
 match rdE f l with
 |none=>none
 |some y =>
  if isHd y.2 6 [58]=true then
   match typ y.2.tail with
   |none=>none
   |some z=>if isHd z.2 6 [41]=true then some (.ann y.1 z.1,z.2.tail) else none
  else if isHd y.2 6 [41]=true then some (y.1,y.2.tail) else none
theorem zcD(f:Nat)(l:List Tok):rdAtom (f+1) l=if(hd l).kind=1 then some (.var (hd l).text,l.tail) else if isHd l 6 [40]=true then parF f l.tail else if(hd l).kind=2 then some (.con (hd l).text,l.tail) else none:=by
 rw[rdAtom,zbV 1 (by decide),zbV 2 (by decide),show eat pLp l=if isHd l 6 [40]=true then some l.tail else none from zaH 6 (by decide) [40] l]
 by_cases h:(hd l).kind=1
 ·simp only[ud h]
 ·simp only[ue h]
  by_cases h1:isHd l 6 [40]=true
  ·simp only[ud h1,parF]
   cases rdE f l.tail with
   |none=>rfl
   |some y =>
    obtain⟨a,r⟩:=y;simp only[told,show eat pCol r=if isHd r 6 [58]=true then some r.tail else none from zaH 6 (by decide) [58] r];have hp:∀r,eat pRp r=if isHd r 6 [41]=true then some r.tail else none:=λr=>zaH 6 (by decide) [41] r
    by_cases h2:isHd r 6 [58]=true
    ·simp only[ud h2]
     cases typ r.tail with
     |none=>rfl
     |some z =>
      simp only[uq,hp];by_cases h3:isHd z.2 6 [41]=true
      ·simp only[ud h3];rfl
      ·simp only[ue h3];rfl
    ·simp only[ue h2,hp]
     by_cases h3:isHd r 6 [41]=true
     ·simp only[ud h3];rfl
     ·simp only[ue h3];rfl
  ·simp only[ue h1]
   by_cases h2:(hd l).kind=2
   ·simp only[ud h2];rfl
   ·simp only[ue h2];rfl
theorem zhE(f:Nat)(l:List Tok):rdApp (f+1) l=match rdAtom f l with
  |none=>none
  |some y=>(zaC zaN id rdAtom f y.2).map λz=>(z.1.foldl Ex.app y.1,z.2):=by
 rw[rdApp]
 cases rdAtom f l with
 |none=>rfl
 |some y=>exact zll f y.1 y.2
theorem zcE(f:Nat)(l:List Tok):rdE (f+1) l=if isHd l 6 [92]=true then lamF f l.tail else if isHd l 3 wLet=true then rdLet f l.tail else if isHd l 3 wCase=true then rdCase f l.tail else rdApp f l:=by
 rw[rdE,show eat pLam l=if isHd l 6 [92]=true then some l.tail else none from zaH 6 (by decide) [92] l,show eat (isKey · wLet) l=if isHd l 3 wLet=true then some l.tail else none from zaH 3 (by decide) wLet l,
  show eat (isKey · wCase) l=if isHd l 3 wCase=true then some l.tail else none from zaH 3 (by decide) wCase l]
 by_cases h:isHd l 6 [92]=true
 ·simp only[ud h];rfl
 ·simp only[ue h]
  by_cases h1:isHd l 3 wLet=true
  ·simp only[ud h1]
  ·simp only[ue h1]
   by_cases h2:isHd l 3 wCase=true
   ·simp only[ud h2]
   ·simp only[ue h2]
theorem zhF(f:Nat)(l:List Tok):rdAlt f l=if(hd l).kind=2 then if isHd (vars l.tail).2 6 [45,62]=true then(rdE f (vars l.tail).2.tail).map λz=>(.mk (hd l).text (vars l.tail).1 z.1,z.2) else none else none:=by
 rw[rdAlt,zbV 2 (by decide)]
 by_cases h:(hd l).kind=2
 ·simp only[ud h]
  rw[show eat pArr (vars l.tail).2=if isHd (vars l.tail).2 6 [45,62]=true then some (vars l.tail).2.tail else none from zaH 6 (by decide) [45,62] _]
  by_cases h1:isHd (vars l.tail).2 6 [45,62]=true
  ·simp only[ud h1]
  ·simp only[ue h1]
 ·simp only[ue h]
end Sx
end Go.Proofs.YtknkclefoiohpaaGreatDoor
namespace Go.Proofs.YtknkclefoiohpaaGreatDoor
open Go.RowKit Lx Tx Sx
theorem ChR.set9 {b:Nat} {w w':World} {g:Nat}(h:ChR b w w')(b0 b1 b2 b3 b4 b5 b6 b7 b8:Value)(hg:w.heap.size<=g):ChR b w (((((((((w'.setCell ⟨g,0,none⟩ b0).setCell ⟨g,1,none⟩ b1).setCell ⟨g,2,none⟩ b2).setCell ⟨g,3,none⟩ b3).setCell ⟨g,4,none⟩ b4).setCell ⟨g,5,none⟩ b5).setCell ⟨g,6,none⟩ b6).setCell ⟨g,7,none⟩ b7).setCell ⟨g,8,none⟩ b8) :=
 (((((h.set4 b0 b1 b2 b3 hg).setCell (p:=⟨g,4,none⟩) (.inl hg) _).setCell (p:=⟨g,5,none⟩) (.inl hg) _).setCell (p:=⟨g,6,none⟩) (.inl hg) _).setCell (p:=⟨g,7,none⟩) (.inl hg) _).setCell (p:=⟨g,8,none⟩) (.inl hg) _
structure Pc (α:Type) where
 n:Nat
 Cs:(Nat->Prop)->World->α->List Value->Prop
 len:∀ {S:Nat->Prop} {w:World} {x:α} {cs:List Value},Cs S w x cs->cs.length=n
 keep:∀ {S S':Nat->Prop} {w w':World} {x:α} {cs:List Value},(∀g,S g->S' g)->(∀g,S g->w'.heap[g]?=w.heap[g]?)->Cs S w x cs->Cs S' w' x cs
def RowG {α:Type}(P:Pc α)(S:Nat->Prop)(w:World):List α->List Value->Prop
 |[],vs=>vs=[]
 |x::r,vs=>∃cs rest,vs=cs++rest/\P.Cs S w x cs/\RowG P S w r rest
theorem RowG.snoc {α:Type} {P:Pc α} {S:Nat->Prop} {w:World} {x:α} {cs:List Value}(hx:P.Cs S w x cs):(l:List α)->∀vs,RowG P S w l vs->RowG P S w (l++[x]) (vs++cs)
 |[],vs,h=>by
  rw[RowG]at h
  rw[vC,RowG]
  exact⟨cs,[],by simp[h],hx,by rw[RowG]⟩
 |u::r,vs,h=>by
  rw[RowG]at h
  obtain⟨c',rest,rfl,h1,h2⟩:=h;rw[uS,RowG]
  exact⟨c',rest++cs,by simp,h1,RowG.snoc hx r rest h2⟩
theorem RowG.keep {α:Type} {P:Pc α} {S S':Nat->Prop} {w w':World}(hS:∀g,S g->S' g)(hk:∀g,S g->w'.heap[g]?=w.heap[g]?):(l:List α)->∀vs,RowG P S w l vs->RowG P S' w' l vs
 |[],vs,h=>by rw[RowG]at h ⊢;exact h
 |x::r,vs,h=>by
  rw[RowG]at h ⊢
  obtain⟨cs,rest,e,h1,h2⟩:=h;exact⟨cs,rest,e,P.keep hS hk h1,RowG.keep hS hk r rest h2⟩
def AtG {α:Type}(P:Pc α)(S:Nat->Prop)(w:World):List α->Nat->Nat->Prop
 |[],_,_=>True
 |x::r,g,o=>(∃cs,P.Cs S w x cs/\Lie w g o cs)/\AtG P S w r g (o+P.n)
theorem RowG.lie {α:Type} {P:Pc α} {S:Nat->Prop} {w:World} {g:Nat} :(l:List α)->∀vs o,RowG P S w l vs->Lie w g o vs->AtG P S w l g o
 |[],_,_,_,_=>by rw[AtG];trivial
 |x::r,vs,o,h,hc=>by
  rw[RowG]at h
  obtain⟨cs,rest,rfl,h1,h2⟩:=h;have hl:=P.len h1;rw[AtG]
  refine⟨⟨cs,h1,λj u hu=>?_⟩,RowG.lie r rest (o+P.n) h2 λj u hu=>?_⟩
  ·exact hc j u (by rw[vB (uj.1 hu).1];exact hu)
  ·rw[show o+P.n+j=o+(P.n+j) by omega]
   exact hc (P.n+j) u (by rw[uI (by omega),hl,vt];exact hu)
theorem AtG.keep {α:Type} {P:Pc α} {S S':Nat->Prop} {w w':World}(hS:∀g,S g->S' g)(hk:∀g,S g->w'.heap[g]?=w.heap[g]?):(l:List α)->∀g o,w'.heap[g]?=w.heap[g]?->AtG P S w l g o->AtG P S' w' l g o
 |[],_,_,_,_=>by rw[AtG];trivial
 |x::r,g,o,hg,h=>by
  rw[AtG]at h ⊢
  obtain⟨⟨cs,h1,h2⟩,h3⟩:=h;exact⟨⟨cs,P.keep hS hk h1,h2.keep hg⟩,AtG.keep hS hk r g (o+P.n) hg h3⟩
theorem AtG.at_ {α:Type} {P:Pc α} {S:Nat->Prop} {w:World} :(l:List α)->∀g o i (hi:i<l.length),AtG P S w l g o->∃cs,P.Cs S w l[i] cs/\Lie w g (o+i*P.n) cs
 |[],_,_,i,hi,_=>absurd hi (by simp)
 |x::r,g,o,0,_,h=>by rw[AtG]at h;simpa using h.1
 |x::r,g,o,i+1,hi,h=>by
  rw[AtG]at h
  have:=AtG.at_ r g (o+P.n) i (by simpa using hi) h.2;rw[show o+P.n+i*P.n=o+(i+1)*P.n by rw[Nat.succ_mul];omega]at this
  simpa using this
def LstG {α:Type}(P:Pc α)(S:Nat->Prop)(w:World)(l:List α)(A:Option Addr):Prop:=l≠[]->∃g,A=some ⟨g,0,none⟩/\S g/\AtG P S w l g 0
theorem LstG.keep {α:Type} {P:Pc α} {S S':Nat->Prop} {w w':World} {l:List α} {A:Option Addr}(h:LstG P S w l A)(hS:∀g,S g->S' g)(hk:∀g,S g->w'.heap[g]?=w.heap[g]?):LstG P S' w' l A:=λhl=>by
 obtain⟨g,h1,h2,h3⟩:=h hl;exact⟨g,h1,hS g h2,h3.keep hS hk l g 0 (hk g h2)⟩
def BuiltG {α:Type}(P:Pc α)(B:Nat)(e:TypeId)(w:World)(l:List α)(v:Value):Prop :=
 ∃vs,w.ownsRow B e P.n v l.length vs/\RowG P (λg=>(B<=g/\g<w.heap.size)/\some g≠v.ownBlock) w l vs
theorem BuiltG.nil {α:Type}(P:Pc α)(B:Nat)(e:TypeId)(w:World):BuiltG P B e w [] (.slice none 0 0):=⟨[],uZ _ _ _ _,by rw[RowG]⟩
theorem BuiltG.chgR {α:Type} {P:Pc α} {b B:Nat} {e:TypeId} {w w':World} {l:List α} {v:Value}(h:BuiltG P B e w l v)(hc:ChR b w w')(hb:b<B):BuiltG P B e w' l v:=by
 obtain⟨vs,h1,h2⟩:=h;have hs:=hc.size;exact⟨vs,zc1 h1 hc hb,RowG.keep (λg hg=>⟨⟨hg.1.1,by have:=hg.1.2;omega⟩,hg.2⟩) (λg hg=>hc.block g hg.1.2 (by have:=hg.1.1;unfold only;omega)) l vs h2⟩
theorem BuiltG.one {α:Type} {P:Pc α} {S:Nat->Prop} {B:Nat} {e:TypeId} {w:World} {x:α} {cs:List Value}(hx:P.Cs S w x cs)(hS:∀g,S g->B<=g/\g<w.heap.size)(hB:B<=w.heap.size)(o:Obj):BuiltG P B e ((w.alloc o).alloc (.cells cs.toArray e)) [x] (.slice (some ⟨w.heap.size+1,0,none⟩) 1 1):=by
 have hl:=P.len hx;have hnew:((w.alloc o).alloc (.cells cs.toArray e)).heap[w.heap.size+1]?=some (.cells cs.toArray e):=by
  have:=tW (w.alloc o) (.cells cs.toArray e);rwa [show(w.alloc o).heap.size=w.heap.size+1 by simp]at this
 refine⟨cs,⟨by simp[hl],.inr ⟨w.heap.size+1,1,cs.toArray,rfl,by omega,hnew,tV _,by unfold maxLen;omega,by simp[hl],by simp[<-hl]⟩⟩,?_⟩;rw[RowG]
 refine⟨cs,[],by simp,P.keep (λg hg=>?_) (λg hg=>?_) hx,by rw[RowG]⟩
 ·have:=hS g hg
  exact⟨⟨this.1,by simp;omega⟩,λe=>by have e:some g=some (w.heap.size+1):=e;injection e with e;omega⟩
 ·have:=hS g hg
  exact(uc _ _ _ (by simp;omega)).trans (uc _ _ _ this.2)
theorem BuiltG.next {α:Type} {P:Pc α} {b B:Nat} {e:TypeId} {w w1 w2 w3:World} {l:List α} {x:α} {v v':Value} {vs cs:List Value}
  (hb:b<B)(hB:B<=w.heap.size)(ae:w.ownsRow B e P.n v l.length vs)(ao:RowG P (λg=>(B<=g/\g<w.heap.size)/\some g≠v.ownBlock) w l vs)
  (b1:ChR b w w1)(hx:P.Cs (λg=>w.heap.size<=g/\g<w1.heap.size) w1 x cs)(b2:Below w1.heap.size w1 w2)
  (ho:w3.ownsRow B e P.n v' (l.length+1) (vs++cs))(hg:w2.grownBy w3 v.ownBlock)(aH:v'.ownBlock=v.ownBlock\/v'.ownBlock=some w2.heap.size):BuiltG P B e w3 (l++[x]) v':=by
 have ah:=ae.lt;have s1:=b1.size;have s2:=b2.size;have s3:=hg.size;have bf:∀g,g<w2.heap.size->some g≠v.ownBlock->some g≠v'.ownBlock:=λg h1 h2=>by
  rcases aH with h|h
  ·rw[h];exact h2
  ·rw[h];intro e;injection e with e;omega
 have hk:∀g,g<w.heap.size->g≠b->some g≠v.ownBlock->w3.heap[g]?=w.heap[g]?:=λg h1 h2 h3 =>
  (hg.block g (by omega) h3).trans ((b2.block g (by omega)).trans (b1.block g h1 h2))
 refine⟨vs++cs,by rw[uf];exact ho,RowG.snoc (P.keep (λg h=>?_) (λg h=>?_) hx) l vs (RowG.keep (λg h=>?_) (λg h=>?_) l vs ao)⟩
 ·have hn:some g≠v.ownBlock:=λe=>by have:=ah _ e.symm;omega
  exact⟨⟨by omega,by omega⟩,bf g (by omega) hn⟩
 ·have hn:some g≠v.ownBlock:=λe=>by have:=ah _ e.symm;omega
  exact(hg.block g (by omega) hn).trans (b2.block g (by omega))
 ·exact⟨⟨h.1.1,by have:=h.1.2;omega⟩,bf g (by have:=h.1.2;omega) h.2⟩
 ·exact hk g h.1.2 (by have:=h.1.1;omega) h.2
theorem BuiltG.lst {α:Type} {P:Pc α} {B:Nat} {e:TypeId} {w:World} {l:List α} {A:Option Addr} {n c:Nat}(h:BuiltG P B e w l (.slice A n c)):n=l.length/\LstG P (λg=>B<=g/\g<w.heap.size) w l A:=by
 obtain⟨vs,h1,h2⟩:=h;have hc:=λg hg=>h1.cells (g:=g) hg;have ah:=h1.lt;rcases h1.2 with⟨h3,h0⟩|⟨g,cap,cur,h3,_⟩
 ·injection h3 with e1 e2 e3
  subst e1 e2 e3;have hk:l=[]:=by cases l with|nil=>rfl|cons a b=>simp at h0
  exact⟨by rw[hk];rfl,λh=>absurd hk h⟩
 ·injection h3 with e1 e2 e3
  subst e1 e2 e3;refine⟨rfl,λh=>⟨g,rfl,⟨(ah g rfl).1,(ah g rfl).2⟩,RowG.lie l vs 0 (RowG.keep (λ_ h=>h.1) (λ_ _=>rfl) l vs h2) λj u hu=>?_⟩⟩;have dS:(⟨g,0,none⟩:Addr).add j=⟨g,j,none⟩:=by unfold Addr.add;split <;> simp_all
  have:=hc g rfl j u hu;rw[dS]at this
  rw[uJ];exact this
def GPost {α:Type}(P:Pc α)(Sh:List Value->Prop)(S:Nat->Prop)(b:Nat)(w:World)(o:Option (α × List Tok))(e:Ending)(w':World):Prop :=
 ChR b w w'/\∃cs,Sh cs/\((o=none/\e=.returned (.tuple #[.agg cs.toArray,.bool false])) \/
  ∃x r,o=some (x,r)/\e=.returned (.tuple #[.agg cs.toArray,.bool true])/\P.Cs (λg=>w.heap.size<=g/\g<w'.heap.size) w' x cs/\RdrS S w' b r)
def LPost {α:Type}(P:Pc α)(S:Nat->Prop)(b:Nat)(w:World)(o:Option (List α × List Tok))(e:Ending)(w':World):Prop :=
 ChR b w w'/\∃A m c,((o=none/\e=.returned (.tuple #[.slice A m c,.bool false])) \/
  ∃x r,o=some (x,r)/\e=.returned (.tuple #[.slice A m c,.bool true])/\m=x.length/\LstG P (λg=>w.heap.size<=g/\g<w'.heap.size) w' x A/\RdrS S w' b r)
def GReads {α:Type}(P:Pc α)(Sh:List Value->Prop)(S:Nat->Prop)(b:Nat)(fv k:Nat)(rd:Nat->List Tok->Option (α × List Tok))(f:Nat):Prop :=
 ∀(w:World) (l:List Tok),RdrS S w b l->(∀g,S g->g≠b/\g<w.heap.size)->AllG l->l.length<=100000->3*l.length+k<=f->Calls Tryz.prog fv #[.pointer (some ⟨b,0,none⟩)] w (GPost P Sh S b w (rd f l))
def zdk {α:Type}(P:Pc α)(nx:List Tok->Bool)(af:List Tok->List Tok)(rd:Nat->List Tok->Option (α × List Tok))(S:Nat->Prop)(b B k f:Nat)(e:TypeId)(l0:List α)(r0:List Tok)(w:World)(gg:Nat)(v:Value)(wr:World):Prop :=
 ∃(l:List Tok) (f':Nat) (done:List α) (A:Option Addr) (c:Nat),gg=l.length/\v=.slice A (l0++done).length c/\AllG l/\l.length+done.length<=r0.length/\3*l.length+k<=f'/\f'<=f/\Hid (RdrS S wr b l) /\
  Hid (zaC nx af rd f r0=(zaC nx af rd f' l).map λy=>(done++y.1,y.2))/\Hid (BuiltG P B e wr (l0++done) (.slice A (l0++done).length c))/\Hid (ChR b w wr)
def pcE:Pc Ex where
 n:=9
 Cs S w e cs:=∃P:Pls,cs=exC e P/\TyA S w (tyE e) P.A/\ExIn S w e P.K P.L
 len:=by rintro S w e cs ⟨P,rfl,-,-⟩;exact zbY e P
 keep:=by
  rintro S S' w w' e cs hS hk ⟨P,rfl,h2,h3⟩;exact⟨P,rfl,h2.keep hS hk,ExIn.keep hS hk e _ _ h3⟩
def shE(cs:List Value):Prop:=∃(k:Int)(x:ByteArray)(t:Bool)(K:Int)(X:ByteArray)(Z:Int)(B:Option Addr)(m q:Nat)(KA:Option Addr)(kn kc:Nat)(LA:Option Addr)(ln lc:Nat),
 cs=[.int .i64 k,.string x,.bool t,.int .i64 K,.string X,.int .i64 Z,.slice B m q,.slice KA kn kc,.slice LA ln lc]
theorem zdC {S:Nat->Prop} {w:World} {e:Ex} {cs:List Value} : RdX S w e (.agg cs.toArray)↔pcE.Cs S w e cs:=by
 constructor
 ·rintro⟨P,h1,h2,h3⟩
  injection h1 with h1;exact⟨P,by simpa using uC Array.toList h1,h2,h3⟩
 ·rintro⟨P,rfl,h2,h3⟩
  exact⟨P,rfl,h2,h3⟩
theorem zlm {S:Nat->Prop} {w:World} :(l:List Ex)->∀g o,AtG pcE S w l g o↔ExsAt S w l g o
 |[],_,_=>by rw[AtG,ExsAt]
 |e::r,g,o=>by
  rw[AtG,ExsAt,zlm r g (o+pcE.n)]
  refine and_congr ⟨?_,?_⟩ wC
  ·rintro⟨cs,⟨P,rfl,h2,h3⟩,h1⟩
   exact⟨P,h1,h2,h3⟩
  ·rintro⟨P,h1,h2,h3⟩
   exact⟨_,⟨P,rfl,h2,h3⟩,h1⟩
def alN:Al->Nat|.mk _ vs _=>vs.length
def alC(a:Al)(V:Option Addr)(v:Nat)(P:Pls):List Value:=match a with|.mk c vs b=>[Sx.strV c,.slice V vs.length v]++exC b P
def pcA:Pc Al where
 n:=11
 Cs S w a cs:=∃V,∃v : {v:Nat // alN a<=v},∃P:Pls,cs=alC a V v P/\(match a with|.mk _ vs b=>NmsIn S w vs V/\TyA S w (tyE b) P.A/\ExIn S w b P.K P.L)
 len:=by rintro S w ⟨c,vs,b⟩ cs ⟨V,v,P,rfl,-⟩;simp[alC,zbY]
 keep:=by
  rintro S S' w w' ⟨c,vs,b⟩ cs hS hk ⟨V,v,P,rfl,h1,h2,h3⟩;exact⟨V,v,P,rfl,h1.keep hS hk,h2.keep hS hk,ExIn.keep hS hk b _ _ h3⟩
theorem zhG {S:Nat->Prop} {w:World} :(l:List Al)->∀g o,AtG pcA S w l g o↔AlsIn S w l g o
 |[],_,_=>by rw[AtG,AlsIn]
 |.mk c vs b::r,g,o=>by
  rw[AtG,AlsIn,zhG r g (o+pcA.n)]
  refine and_congr ⟨?_,?_⟩ wC
  ·rintro⟨cs,⟨V,v,P,rfl,h1,h2,h3⟩,h4⟩
   rw[AlIn]
   refine⟨h4 0 _ rfl,⟨V,v,h4 1 _ rfl,h1⟩,P,λj u hu=>?_,h2,h3⟩;rw[show o+2+j=o+(2+j) by omega]
   exact h4 (2+j) u (by rw[alC,uI (by simp)];simpa using hu)
  ·intro h
   rw[AlIn]at h
   obtain⟨h0,⟨V,v,h1,h2⟩,P,h3,h4,h5⟩:=h;refine⟨_,⟨V,v,P,rfl,h2,h4,h5⟩,λj u hu=>?_⟩;rw[alC]at hu
   match j,hu with
   |0,hu=>simp at hu;subst hu;exact h0
   |1,hu=>simp at hu;subst hu;exact h1
   |j+2,hu =>
    rw[uI (by simp)]at hu
    have:=h3 j u (by simpa using hu);rwa [show o+2+j=o+(j+2) by omega]at this
def shA(cs:List Value):Prop:=∃(s:ByteArray)(V:Option Addr)(vm vq:Nat)(k:Int)(x:ByteArray)(t:Bool)(K:Int)(X:ByteArray)(Z:Int)(B:Option Addr)(m q:Nat)(KA:Option Addr)(kn kc:Nat)(LA:Option Addr)(ln lc:Nat),
 cs=[.string s,.slice V vm vq,.int .i64 k,.string x,.bool t,.int .i64 K,.string X,.int .i64 Z,.slice B m q,.slice KA kn kc,.slice LA ln lc]
def pcC:Pc (Nm × Ty) where
 n:=5
 Cs S w c cs:=∃(A:Option Addr) (a:Nat),cs=Sx.strV c.1::tyV c.2 A a/\Args S w c.2 A
 len:=by rintro S w c cs ⟨A,a,rfl,-⟩;rfl
 keep:=by
  rintro S S' w w' c cs hS hk ⟨A,a,rfl,h⟩;exact⟨A,a,rfl,Args.keep hS hk _ _ h⟩
def shC(cs:List Value):Prop:=∃(s:ByteArray)(K:Int)(X:ByteArray)(Z:Int)(B:Option Addr)(m q:Nat),cs=[.string s,.int .i64 K,.string X,.int .i64 Z,.slice B m q]
def kdD:De->Nat
 |.data _ _ _=>1
 |.sig _ _=>2
 |.bind _ _=>3
def nmD:De->Nm
 |.data n _ _=>n
 |.sig x _=>x
 |.bind x _=>x
def exZl:List Value:=[.int .i64 0,.string ⟨#[]⟩,.bool false,.int .i64 0,.string ⟨#[]⟩,.int .i64 0,.slice none 0 0,.slice none 0 0,.slice none 0 0]
def tyZl:List Value:=[.int .i64 0,.string ⟨#[]⟩,.int .i64 0,.slice none 0 0]
def DeCs(S:Nat->Prop)(w:World):De->List Value->Prop
 |.data n ps l,cs=>∃(V:Option Addr) (v : {v:Nat // ps.length<=v}) (A:Option Addr) (a:Nat),cs=[.int .i64 1,Sx.strV n,.slice V ps.length v,.slice A l.length a]++tyZl++exZl/\NmsIn S w ps V/\LstG pcC S w l A
 |.sig x t,cs=>∃(A:Option Addr) (a:Nat),cs=[.int .i64 2,Sx.strV x,.slice none 0 0,.slice none 0 0]++tyV t A a++exZl/\Args S w t A
 |.bind x e,cs=>∃P:Pls,cs=[.int .i64 3,Sx.strV x,.slice none 0 0,.slice none 0 0]++tyZl++exC e P/\TyA S w (tyE e) P.A/\ExIn S w e P.K P.L
def pcD:Pc De where
 n:=17
 Cs:=DeCs
 len:=by
  intro S w d cs h;cases d with
  |data n ps l=>obtain⟨V,v,A,a,rfl,-⟩:=h;rfl
  |sig x t=>obtain⟨A,a,rfl,-⟩:=h;rfl
  |bind x e=>obtain⟨P,rfl,-⟩:=h;simp[tyZl,zbY]
 keep:=by
  intro S S' w w' d cs hS hk h;cases d with
  |data n ps l=>obtain⟨V,v,A,a,rfl,h1,h2⟩:=h;exact⟨V,v,A,a,rfl,h1.keep hS hk,h2.keep hS hk⟩
  |sig x t=>obtain⟨A,a,rfl,h⟩:=h;exact⟨A,a,rfl,Args.keep hS hk _ _ h⟩
  |bind x e=>obtain⟨P,rfl,h1,h2⟩:=h;exact⟨P,rfl,h1.keep hS hk,ExIn.keep hS hk e _ _ h2⟩
def shD(cs:List Value):Prop:=∃(k0:Int)(s:ByteArray)(V:Option Addr)(vm vq:Nat)(G:Option Addr)(gm gq:Nat)(K0:Int)(X0:ByteArray)(Z0:Int)(B0:Option Addr)(m0 q0:Nat)(k:Int)(x:ByteArray)(t:Bool)(K:Int)(X:ByteArray)(Z:Int)(B:Option Addr)(m q:Nat)(KA:Option Addr)(kn kc:Nat)(LA:Option Addr)(ln lc:Nat),
 cs=[.int .i64 k0,.string s,.slice V vm vq,.slice G gm gq,.int .i64 K0,.string X0,.int .i64 Z0,.slice B0 m0 q0,.int .i64 k,.string x,.bool t,.int .i64 K,.string X,.int .i64 Z,.slice B m q,.slice KA kn kc,.slice LA ln lc]
def conF(l:List Tok):Option ((Nm × Ty) × List Tok) :=
 if(hd l).kind=2 then
  if isHd l.tail 6 [58]=true then(typ l.tail.tail).map λy=>(((hd l).text,y.1),y.2) else none
 else none
theorem zhH(l:List Tok):rdCon l=conF l:=by
 rw[rdCon,conF,zbV 2 (by decide)]
 by_cases h:(hd l).kind=2
 ·simp only[ud h]
  rw[show eat pCol l.tail=if isHd l.tail 6 [58]=true then some l.tail.tail else none from zaH 6 (by decide) [58] _]
  by_cases h1:isHd l.tail 6 [58]=true
  ·simp only[ud h1]
  ·simp only[ue h1]
 ·simp only[ue h]
def zgN(l:List Tok):Option (De × List Tok) :=
 if(hd l).kind=2 then(brF (λ_=>rdCon) ((vars l.tail).2.tail.length+1) (vars l.tail).2).map λy=>(.data (hd l).text (vars l.tail).1 y.1,y.2) else none
theorem zge(l:List Tok):rdData l=zgN l:=by
 rw[rdData,zgN,zbV 2 (by decide)]
 by_cases h:(hd l).kind=2
 ·simp only[ud h,zi0,brF]
  by_cases h2:isHd (vars l.tail).2 6 [123]=true
  ·simp only[ud h2,zi1]
   by_cases h3:isHd (vars l.tail).2.tail 6 [125]=true
   ·simp only[ud h3];rfl
   ·simp only[ue h3,Sx.sep,zi2]
    cases sepM (λ_=>rdCon) ((vars l.tail).2.tail.length+1) (vars l.tail).2.tail with
    |none=>rfl
    |some z =>
     simp only;by_cases h4:isHd z.2 6 [125]=true
     ·simp only[ud h4];rfl
     ·simp only[ue h4];rfl
  ·simp only[ue h2];rfl
 ·simp only[ue h]
def znK(l:List Tok):Option (De × List Tok) :=
 if isHd l 3 wData=true then rdData l.tail
 else if(hd l).kind=1 then
  if isHd l.tail 6 [58]=true then(typ l.tail.tail).map λy=>(.sig (hd l).text y.1,y.2)
  else if isHd l.tail 6 [61]=true then(rdE (zaJ l.tail.tail) l.tail.tail).map λy=>(.bind (hd l).text y.1,y.2)
  else none
 else none
theorem zln(l:List Tok):rdDecl l=znK l:=by
 rw[rdDecl,znK,show eat (isKey · wData) l=if isHd l 3 wData=true then some l.tail else none from zaH 3 (by decide) wData l]
 by_cases h:isHd l 3 wData=true
 ·simp only[ud h]
 ·simp only[ue h]
  rw[zbV 1 (by decide)]
  by_cases h1:(hd l).kind=1
  ·simp only[ud h1,show eat pCol l.tail=if isHd l.tail 6 [58]=true then some l.tail.tail else none from zaH 6 (by decide) [58] _]
   by_cases h2:isHd l.tail 6 [58]=true
   ·simp only[ud h2]
   ·simp only[ue h2,show eat pEq l.tail=if isHd l.tail 6 [61]=true then some l.tail.tail else none from zaH 6 (by decide) [61] _]
    by_cases h3:isHd l.tail 6 [61]=true
    ·simp only[ud h3]
    ·simp only[ue h3]
  ·simp only[ue h1]
theorem zoP(S:Nat->Prop)(b:Nat)(l:List Tok)(w:World)(h:RdrS S w b l)(hS:∀g,S g->g≠b/\g<w.heap.size)(hl:l.length<=100000):Calls Tryz.prog 141 #[.pointer (some ⟨b,0,none⟩)] w λe w'=>e=.returned (.bool (zaN l))/\RdrS S w' b (if zaN l=true then id l else l)/\ChR b w w':=by
 refine(zlq S b l w h (λg hg=>(hS g hg).2) hl).mono ?_;rintro e w' ⟨rfl,hb⟩;refine⟨rfl,?_,ChR.of_below hb⟩;have:(if zaN l=true then id l else l)=l:=by split <;> rfl
 rw[this]
 exact h.below hb (λg hg=>(hS g hg).2)
theorem zjO(l:List Tok)(hG:AllG l)(_:zaN l=true):AllG (id l)/\(id l).length<=l.length/\3*(id l).length+1+1<=3*l.length+2:=⟨hG,tV _,tV _⟩
theorem zep(l:List Tok)(hG:AllG l)(h:semB l=true):AllG l.tail/\l.tail.length<=l.length/\3*l.tail.length+0+1<=3*l.length+1:=by
 obtain⟨t0,r,e,-,-⟩:=zaB l 6 [59] (by decide) h;subst e;exact⟨AllG.tail' hG,by simp,by simp <;> omega⟩
theorem LPost.pre {α:Type} {P:Pc α} {S:Nat->Prop} {b:Nat} {w w0:World} {o:Option (List α × List Tok)} {e:Ending} {w':World}(c:ChR b w w0)(h:LPost P S b w0 o e w'):LPost P S b w o e w':=by
 obtain⟨h1,A,m,d,h⟩:=h;refine⟨c.trans h1,A,m,d,?_⟩;rcases h with h|⟨x,r,h2,h3,h4,h5,h6⟩
 ·exact .inl h
 ·exact .inr ⟨x,r,h2,h3,h4,h5.keep (λg hg=>⟨uX c.size hg.1,hg.2⟩) (λ_ _=>rfl),h6⟩
def brG {α:Type}(rd:Nat->List Tok->Option (α × List Tok))(f:Nat)(r:List Tok):Option (List α × List Tok) :=
 if isHd r 6 [125]=true then some ([],r.tail)
 else
  match sepM rd f r with
  |none=>none
  |some y=>if isHd y.2 6 [125]=true then some (y.1,y.2.tail) else none
theorem zc0 {α:Type}(rd:Nat->List Tok->Option (α × List Tok))(f:Nat)(l:List Tok):brF rd f l=if isHd l 6 [123]=true then brG rd f l.tail else none:=rfl
theorem znj {α:Type} {nx:List Tok->Bool} {af:List Tok->List Tok} {rd:Nat->List Tok->Option (α × List Tok)}(haf:∀l,AllG l->nx l=true->AllG (af l)/\(af l).length<=l.length)
  (aq:∀(f1:Nat)(l:List Tok)(x:α)(r:List Tok),AllG l->rd f1 l=some (x,r)->AllG r/\r.length<l.length)(f:Nat):∀(l:List Tok)(x:List α)(r:List Tok),AllG l->zaC nx af rd f l=some (x,r)->AllG r/\r.length<=l.length:=by
 induction f with
 |zero=>intro l x r _ h;rw[zaC]at h;cases h
 |succ f ih =>
  intro l x r hG h;by_cases hn:nx l=true
  ·obtain⟨g1,l1⟩:=haf l hG hn
   cases ho:rd f (af l) with
   |none=>rw[zbj f l hn ho]at h;cases h
   |some y =>
    obtain⟨p,r1⟩:=y;rw[za6 f l hn p r1 ho]at h
    obtain⟨g2,l2⟩:=aq f _ p r1 g1 ho;cases hm:zaC nx af rd f r1 with
    |none=>rw[hm]at h;cases h
    |some z =>
     obtain⟨xs,r2⟩:=z;rw[hm]at h
     simp only[uq,um,uw]at h;obtain⟨rfl,rfl⟩:=h;obtain⟨g3,l3⟩:=ih r1 xs r2 g2 hm;exact⟨g3,by omega⟩
  ·rw[zaZ f l (by simpa using hn)]at h
   simp only[um,uw]at h;obtain⟨rfl,rfl⟩:=h;exact⟨hG,tV _⟩
theorem zpy(l:List Tok)(hG:AllG l)(h:semB l=true):AllG l.tail/\l.tail.length<=l.length:=by
 obtain⟨t0,r,e,-,-⟩:=zaB l 6 [59] (by decide) h;subst e;exact⟨AllG.tail' hG,by simp⟩
theorem zfP {α:Type} {rd:Nat->List Tok->Option (α × List Tok)}(aq:∀(f1:Nat)(l:List Tok)(x:α)(r:List Tok),AllG l->rd f1 l=some (x,r)->AllG r/\r.length<l.length)(f:Nat)(l:List Tok)(x:List α)(r:List Tok)
  (hG:AllG l)(h:sepM rd f l=some (x,r)):AllG r/\r.length<l.length:=by
 rw[sepM]at h
 cases ho:rd f l with
 |none=>rw[ho]at h;cases h
 |some y =>
  obtain⟨p,r1⟩:=y;rw[ho]at h
  simp only at h;obtain⟨g1,l1⟩:=aq f l p r1 hG ho;cases hm:zaC semB List.tail rd f r1 with
  |none=>rw[hm]at h;cases h
  |some z =>
   obtain⟨xs,r2⟩:=z;rw[hm]at h
   simp only[uq,um,uw]at h;obtain⟨rfl,rfl⟩:=h;obtain⟨g3,l3⟩:=znj zpy aq f r1 xs r2 g1 hm;exact⟨g3,by omega⟩
theorem zpz {α:Type} {rd:Nat->List Tok->Option (α × List Tok)}(aq:∀(f1:Nat)(l:List Tok)(x:α)(r:List Tok),AllG l->rd f1 l=some (x,r)->AllG r/\r.length<l.length)(f:Nat)(l:List Tok)(x:List α)(r:List Tok)
  (hG:AllG l)(h:brF rd f l=some (x,r)):AllG r/\r.length<l.length:=by
 rw[zc0]at h
 by_cases h1:isHd l 6 [123]=true
 ·rw[ud h1,brG]at h
  obtain⟨t0,r0,e,-,-⟩:=zaB l 6 [123] (by decide) h1;subst e;rw[vR]at h
  have dE:AllG r0:=AllG.tail' hG;by_cases h2:isHd r0 6 [125]=true
  ·rw[ud h2]at h
   obtain⟨t1,r1,e,-,-⟩:=zaB r0 6 [125] (by decide) h2;subst e;simp only[vR,um,uw]at h;obtain⟨rfl,rfl⟩:=h;exact⟨AllG.tail' dE,by simp;omega⟩
  ·rw[ue h2]at h
   cases ho:sepM rd f r0 with
   |none=>rw[ho]at h;cases h
   |some y =>
    obtain⟨xs,r1⟩:=y;rw[ho]at h
    simp only at h;obtain⟨g1,l1⟩:=zfP aq f r0 xs r1 dE ho;by_cases h3:isHd r1 6 [125]=true
    ·rw[ud h3]at h
     obtain⟨t1,r2,e,-,-⟩:=zaB r1 6 [125] (by decide) h3;subst e;simp only[vR,um,uw]at h;obtain⟨rfl,rfl⟩:=h;exact⟨AllG.tail' g1,by simp at l1 ⊢;omega⟩
    ·rw[ue h3]at h;cases h
 ·rw[ue h1]at h;cases h
theorem zct {w:World} {g:Nat} {cs:List Value} {t:TypeId}(h:Blk w g t cs.toArray):Lie w g 0 cs:=by
 intro j v hv;have h0:=h.cell j;rw[uJ]
 rw[h0]
 simpa using hv
theorem zcf {S S':Nat->Prop} {w w':World} {y:Ex} {cs:List Value} {g:Nat} {t:TypeId}(hx:pcE.Cs S w y cs)(hS:∀k,S k->S' k)(hk:∀k,S k->w'.heap[k]?=w.heap[k]?)(hl:Blk w' g t cs.toArray):∃P:Pls,Lie w' g 0 (exC y P)/\TyA S' w' (tyE y) P.A/\ExIn S' w' y P.K P.L:=by
 obtain⟨P,rfl,h2,h3⟩:=pcE.keep hS hk hx;exact⟨P,zct hl,h2,h3⟩
theorem zc2 {S S':Nat->Prop} {w w':World} {y z:Ex} {cs ds:List Value} {g:Nat} {t:TypeId}(hx:pcE.Cs S w y cs)(hz:pcE.Cs S w z ds)(hS:∀k,S k->S' k)(hk:∀k,S k->w'.heap[k]?=w.heap[k]?)(hl:Blk w' g t (cs++ds).toArray):(∃P:Pls,Lie w' g 0 (exC y P)/\TyA S' w' (tyE y) P.A/\ExIn S' w' y P.K P.L)/\∃P:Pls,Lie w' g 9 (exC z P)/\TyA S' w' (tyE z) P.A/\ExIn S' w' z P.K P.L:=by
 have ft:=pcE.len hx;have hL:=zct hl;obtain⟨P,rfl,h2,h3⟩:=pcE.keep hS hk hx;obtain⟨Q,rfl,h4,h5⟩:=pcE.keep hS hk hz;refine⟨⟨P,λj v hv=>?_,h2,h3⟩,Q,λj v hv=>?_,h4,h5⟩
 ·exact hL j v (by rw[vB (uj.1 hv).1];exact hv)
 ·have:=hL (9+j) v (by rw[uI (by rw[zbY];omega),zbY,vt];exact hv)
  rwa [uJ]at this
theorem zbN(W:World)(o o2:Obj)(k:Nat)(hk:k<W.heap.size):((W.alloc o).alloc o2).heap[k]?=W.heap[k]?:=(uc _ _ _ (by simp;omega)).trans (uc _ _ _ hk)
theorem zaA(W:World)(o o2:Obj)(n:Nat)(hn:W.heap.size=n):((W.alloc o).alloc o2).heap[n+1]?=some o2:=by
 have:=tW (W.alloc o) o2;rwa [show(W.alloc o).heap.size=n+1 by simp[hn]]at this
theorem zak(w:World)(g:Nat)(b0 b1 b2 b3 b4 b5 b6 b7 b8:Value):(((((((((w.setCell ⟨g,0,none⟩ b0).setCell ⟨g,1,none⟩ b1).setCell ⟨g,2,none⟩ b2).setCell ⟨g,3,none⟩ b3).setCell ⟨g,4,none⟩ b4).setCell ⟨g,5,none⟩ b5).setCell ⟨g,6,none⟩ b6).setCell ⟨g,7,none⟩ b7).setCell ⟨g,8,none⟩ b8).heap.size=w.heap.size:=by simp
set_option maxRecDepth 100000
theorem ze7 {w:World} {g:Nat} {t:TypeId} {a0 a1 a2 a3 a4:Value}(b0 b1 b2 b3 b4:Value)(h:Blk w g t #[a0,a1,a2,a3,a4]):Blk (((((w.setCell ⟨g,0,none⟩ b0).setCell ⟨g,1,none⟩ b1).setCell ⟨g,2,none⟩ b2).setCell ⟨g,3,none⟩ b3).setCell ⟨g,4,none⟩ b4) g t #[b0,b1,b2,b3,b4]:=by
 have s:∀(W:World) (cs:Array Value) (i:Nat) (b:Value),Blk W g t cs->Blk (W.setCell ⟨g,i,none⟩ b) g t (cs.setIfInBounds i b):=λW cs i b h=>uk W g i _ _ b h;have hh:=(s _ _ 4 b4 (s _ _ 3 b3 (s _ _ 2 b2 (s _ _ 1 b1 (s _ _ 0 b0 h)))));have e:((((((#[a0,a1,a2,a3,a4]:Array Value).setIfInBounds 0 b0).setIfInBounds 1 b1).setIfInBounds 2 b2).setIfInBounds 3 b3).setIfInBounds 4 b4)=#[b0,b1,b2,b3,b4]:=by simp
 rw[e]at hh
 exact hh
theorem ChR.set5 {bb:Nat} {w w':World} {g:Nat}(h:ChR bb w w')(b0 b1 b2 b3 b4:Value)(hg:w.heap.size<=g):ChR bb w (((((w'.setCell ⟨g,0,none⟩ b0).setCell ⟨g,1,none⟩ b1).setCell ⟨g,2,none⟩ b2).setCell ⟨g,3,none⟩ b3).setCell ⟨g,4,none⟩ b4) :=
 (((((h.setCell (p:=⟨g,0,none⟩) (.inl hg) b0).setCell (p:=⟨g,1,none⟩) (.inl hg) b1).setCell (p:=⟨g,2,none⟩) (.inl hg) b2).setCell (p:=⟨g,3,none⟩) (.inl hg) b3).setCell (p:=⟨g,4,none⟩) (.inl hg) b4)
theorem ze8(w:World)(g k:Nat)(b0 b1 b2 b3 b4:Value)(hk:k≠g):(((((w.setCell ⟨g,0,none⟩ b0).setCell ⟨g,1,none⟩ b1).setCell ⟨g,2,none⟩ b2).setCell ⟨g,3,none⟩ b3).setCell ⟨g,4,none⟩ b4).heap[k]?=w.heap[k]?:=by
 rw[tY _ ⟨g,4,none⟩ _ k hk,tY _ ⟨g,3,none⟩ _ k hk,tY _ ⟨g,2,none⟩ _ k hk,tY _ ⟨g,1,none⟩ _ k hk,tY _ ⟨g,0,none⟩ _ k hk]
theorem zlo(w:World)(g:Nat)(b0 b1 b2 b3 b4:Value):(((((w.setCell ⟨g,0,none⟩ b0).setCell ⟨g,1,none⟩ b1).setCell ⟨g,2,none⟩ b2).setCell ⟨g,3,none⟩ b3).setCell ⟨g,4,none⟩ b4).heap.size=w.heap.size:=by simp
theorem zbH {w:World} {g:Nat} {t:TypeId} {a0 a1 a2 a3 a4:Value}(h:Blk w g t #[a0,a1,a2,a3,a4]):(w.cell? ⟨g,0,none⟩=some a0/\w.cell? ⟨g,1,none⟩=some a1/\w.cell? ⟨g,2,none⟩=some a2/\w.cell? ⟨g,3,none⟩=some a3/\w.cell? ⟨g,4,none⟩=some a4)/\(w.frozen? ⟨g,0,none⟩=false/\w.frozen? ⟨g,1,none⟩=false/\w.frozen? ⟨g,2,none⟩=false/\w.frozen? ⟨g,3,none⟩=false/\w.frozen? ⟨g,4,none⟩=false)/\g<w.heap.size :=
 ⟨⟨h.cell 0,h.cell 1,h.cell 2,h.cell 3,h.cell 4⟩,⟨h.frozen 0,h.frozen 1,h.frozen 2,h.frozen 3,h.frozen 4⟩,h.lt⟩
theorem zab {w:World} {g:Nat} {t:TypeId} {a0 a1 a2 a3 a4 a5 a6 a7 a8:Value}(h:Blk w g t #[a0,a1,a2,a3,a4,a5,a6,a7,a8]):(w.cell? ⟨g,0,none⟩=some a0/\w.cell? ⟨g,1,none⟩=some a1/\w.cell? ⟨g,2,none⟩=some a2/\w.cell? ⟨g,3,none⟩=some a3/\w.cell? ⟨g,4,none⟩=some a4/\w.cell? ⟨g,5,none⟩=some a5/\w.cell? ⟨g,6,none⟩=some a6/\w.cell? ⟨g,7,none⟩=some a7/\w.cell? ⟨g,8,none⟩=some a8)/\(w.frozen? ⟨g,0,none⟩=false/\w.frozen? ⟨g,1,none⟩=false/\w.frozen? ⟨g,2,none⟩=false/\w.frozen? ⟨g,3,none⟩=false/\w.frozen? ⟨g,4,none⟩=false/\w.frozen? ⟨g,5,none⟩=false/\w.frozen? ⟨g,6,none⟩=false/\w.frozen? ⟨g,7,none⟩=false/\w.frozen? ⟨g,8,none⟩=false)/\g<w.heap.size :=
 ⟨⟨h.cell 0,h.cell 1,h.cell 2,h.cell 3,h.cell 4,h.cell 5,h.cell 6,h.cell 7,h.cell 8⟩,⟨h.frozen 0,h.frozen 1,h.frozen 2,h.frozen 3,h.frozen 4,h.frozen 5,h.frozen 6,h.frozen 7,h.frozen 8⟩,h.lt⟩
theorem zem {w:World} {g:Nat} {t:TypeId} {a0 a1 a2 a3 a4 a5 a6 a7 a8 a9 eD:Value}(b0 b1 b2 b3 b4 b5 b6 b7 b8 b9 cr:Value)(h:Blk w g t #[a0,a1,a2,a3,a4,a5,a6,a7,a8,a9,eD]):Blk (((((((((((w.setCell ⟨g,0,none⟩ b0).setCell ⟨g,1,none⟩ b1).setCell ⟨g,2,none⟩ b2).setCell ⟨g,3,none⟩ b3).setCell ⟨g,4,none⟩ b4).setCell ⟨g,5,none⟩ b5).setCell ⟨g,6,none⟩ b6).setCell ⟨g,7,none⟩ b7).setCell ⟨g,8,none⟩ b8).setCell ⟨g,9,none⟩ b9).setCell ⟨g,10,none⟩ cr) g t #[b0,b1,b2,b3,b4,b5,b6,b7,b8,b9,cr]:=by
 have s:∀(W:World) (cs:Array Value) (i:Nat) (b:Value),Blk W g t cs->Blk (W.setCell ⟨g,i,none⟩ b) g t (cs.setIfInBounds i b):=λW cs i b h=>uk W g i _ _ b h;have hh:=(s _ _ 10 cr (s _ _ 9 b9 (s _ _ 8 b8 (s _ _ 7 b7 (s _ _ 6 b6 (s _ _ 5 b5 (s _ _ 4 b4 (s _ _ 3 b3 (s _ _ 2 b2 (s _ _ 1 b1 (s _ _ 0 b0 h)))))))))));have e:((((((((((((#[a0,a1,a2,a3,a4,a5,a6,a7,a8,a9,eD]:Array Value).setIfInBounds 0 b0).setIfInBounds 1 b1).setIfInBounds 2 b2).setIfInBounds 3 b3).setIfInBounds 4 b4).setIfInBounds 5 b5).setIfInBounds 6 b6).setIfInBounds 7 b7).setIfInBounds 8 b8).setIfInBounds 9 b9).setIfInBounds 10 cr)=#[b0,b1,b2,b3,b4,b5,b6,b7,b8,b9,cr]:=by simp
 rw[e]at hh
 exact hh
theorem ChR.set11 {bb:Nat} {w w':World} {g:Nat}(h:ChR bb w w')(b0 b1 b2 b3 b4 b5 b6 b7 b8 b9 cr:Value)(hg:w.heap.size<=g):ChR bb w (((((((((((w'.setCell ⟨g,0,none⟩ b0).setCell ⟨g,1,none⟩ b1).setCell ⟨g,2,none⟩ b2).setCell ⟨g,3,none⟩ b3).setCell ⟨g,4,none⟩ b4).setCell ⟨g,5,none⟩ b5).setCell ⟨g,6,none⟩ b6).setCell ⟨g,7,none⟩ b7).setCell ⟨g,8,none⟩ b8).setCell ⟨g,9,none⟩ b9).setCell ⟨g,10,none⟩ cr) :=
 (((((((((((h.setCell (p:=⟨g,0,none⟩) (.inl hg) b0).setCell (p:=⟨g,1,none⟩) (.inl hg) b1).setCell (p:=⟨g,2,none⟩) (.inl hg) b2).setCell (p:=⟨g,3,none⟩) (.inl hg) b3).setCell (p:=⟨g,4,none⟩) (.inl hg) b4).setCell (p:=⟨g,5,none⟩) (.inl hg) b5).setCell (p:=⟨g,6,none⟩) (.inl hg) b6).setCell (p:=⟨g,7,none⟩) (.inl hg) b7).setCell (p:=⟨g,8,none⟩) (.inl hg) b8).setCell (p:=⟨g,9,none⟩) (.inl hg) b9).setCell (p:=⟨g,10,none⟩) (.inl hg) cr)
theorem zdl(w:World)(g k:Nat)(b0 b1 b2 b3 b4 b5 b6 b7 b8 b9 cr:Value)(hk:k≠g):(((((((((((w.setCell ⟨g,0,none⟩ b0).setCell ⟨g,1,none⟩ b1).setCell ⟨g,2,none⟩ b2).setCell ⟨g,3,none⟩ b3).setCell ⟨g,4,none⟩ b4).setCell ⟨g,5,none⟩ b5).setCell ⟨g,6,none⟩ b6).setCell ⟨g,7,none⟩ b7).setCell ⟨g,8,none⟩ b8).setCell ⟨g,9,none⟩ b9).setCell ⟨g,10,none⟩ cr).heap[k]?=w.heap[k]?:=by
 rw[tY _ ⟨g,10,none⟩ _ k hk,tY _ ⟨g,9,none⟩ _ k hk,tY _ ⟨g,8,none⟩ _ k hk,tY _ ⟨g,7,none⟩ _ k hk,tY _ ⟨g,6,none⟩ _ k hk,tY _ ⟨g,5,none⟩ _ k hk,tY _ ⟨g,4,none⟩ _ k hk,tY _ ⟨g,3,none⟩ _ k hk,tY _ ⟨g,2,none⟩ _ k hk,tY _ ⟨g,1,none⟩ _ k hk,tY _ ⟨g,0,none⟩ _ k hk]
theorem zdT(w:World)(g:Nat)(b0 b1 b2 b3 b4 b5 b6 b7 b8 b9 cr:Value):(((((((((((w.setCell ⟨g,0,none⟩ b0).setCell ⟨g,1,none⟩ b1).setCell ⟨g,2,none⟩ b2).setCell ⟨g,3,none⟩ b3).setCell ⟨g,4,none⟩ b4).setCell ⟨g,5,none⟩ b5).setCell ⟨g,6,none⟩ b6).setCell ⟨g,7,none⟩ b7).setCell ⟨g,8,none⟩ b8).setCell ⟨g,9,none⟩ b9).setCell ⟨g,10,none⟩ cr).heap.size=w.heap.size:=by simp
theorem zaO {w:World} {g:Nat} {t:TypeId} {a0 a1 a2 a3 a4 a5 a6 a7 a8 a9 eD:Value}(h:Blk w g t #[a0,a1,a2,a3,a4,a5,a6,a7,a8,a9,eD]):(w.cell? ⟨g,0,none⟩=some a0/\w.cell? ⟨g,1,none⟩=some a1/\w.cell? ⟨g,2,none⟩=some a2/\w.cell? ⟨g,3,none⟩=some a3/\w.cell? ⟨g,4,none⟩=some a4/\w.cell? ⟨g,5,none⟩=some a5/\w.cell? ⟨g,6,none⟩=some a6/\w.cell? ⟨g,7,none⟩=some a7/\w.cell? ⟨g,8,none⟩=some a8/\w.cell? ⟨g,9,none⟩=some a9/\w.cell? ⟨g,10,none⟩=some eD)/\(w.frozen? ⟨g,0,none⟩=false/\w.frozen? ⟨g,1,none⟩=false/\w.frozen? ⟨g,2,none⟩=false/\w.frozen? ⟨g,3,none⟩=false/\w.frozen? ⟨g,4,none⟩=false/\w.frozen? ⟨g,5,none⟩=false/\w.frozen? ⟨g,6,none⟩=false/\w.frozen? ⟨g,7,none⟩=false/\w.frozen? ⟨g,8,none⟩=false/\w.frozen? ⟨g,9,none⟩=false/\w.frozen? ⟨g,10,none⟩=false)/\g<w.heap.size :=
 ⟨⟨h.cell 0,h.cell 1,h.cell 2,h.cell 3,h.cell 4,h.cell 5,h.cell 6,h.cell 7,h.cell 8,h.cell 9,h.cell 10⟩,⟨h.frozen 0,h.frozen 1,h.frozen 2,h.frozen 3,h.frozen 4,h.frozen 5,h.frozen 6,h.frozen 7,h.frozen 8,h.frozen 9,h.frozen 10⟩,h.lt⟩
theorem zgf {w:World} {g:Nat} {t:TypeId} {a0 a1 a2 a3 a4 a5 a6 a7 a8 a9 eD kK a12 kJ kI kH kG:Value}(b0 b1 b2 b3 b4 b5 b6 b7 b8 b9 cr fC e6 fB fA fz fx:Value)(h:Blk w g t #[a0,a1,a2,a3,a4,a5,a6,a7,a8,a9,eD,kK,a12,kJ,kI,kH,kG]):Blk (((((((((((((((((w.setCell ⟨g,0,none⟩ b0).setCell ⟨g,1,none⟩ b1).setCell ⟨g,2,none⟩ b2).setCell ⟨g,3,none⟩ b3).setCell ⟨g,4,none⟩ b4).setCell ⟨g,5,none⟩ b5).setCell ⟨g,6,none⟩ b6).setCell ⟨g,7,none⟩ b7).setCell ⟨g,8,none⟩ b8).setCell ⟨g,9,none⟩ b9).setCell ⟨g,10,none⟩ cr).setCell ⟨g,11,none⟩ fC).setCell ⟨g,12,none⟩ e6).setCell ⟨g,13,none⟩ fB).setCell ⟨g,14,none⟩ fA).setCell ⟨g,15,none⟩ fz).setCell ⟨g,16,none⟩ fx) g t #[b0,b1,b2,b3,b4,b5,b6,b7,b8,b9,cr,fC,e6,fB,fA,fz,fx]:=by
 have s:∀(W:World) (cs:Array Value) (i:Nat) (b:Value),Blk W g t cs->Blk (W.setCell ⟨g,i,none⟩ b) g t (cs.setIfInBounds i b):=λW cs i b h=>uk W g i _ _ b h;have hh:=(s _ _ 16 fx (s _ _ 15 fz (s _ _ 14 fA (s _ _ 13 fB (s _ _ 12 e6 (s _ _ 11 fC (s _ _ 10 cr (s _ _ 9 b9 (s _ _ 8 b8 (s _ _ 7 b7 (s _ _ 6 b6 (s _ _ 5 b5 (s _ _ 4 b4 (s _ _ 3 b3 (s _ _ 2 b2 (s _ _ 1 b1 (s _ _ 0 b0 h)))))))))))))))));have e:((((((((((((((((((#[a0,a1,a2,a3,a4,a5,a6,a7,a8,a9,eD,kK,a12,kJ,kI,kH,kG]:Array Value).setIfInBounds 0 b0).setIfInBounds 1 b1).setIfInBounds 2 b2).setIfInBounds 3 b3).setIfInBounds 4 b4).setIfInBounds 5 b5).setIfInBounds 6 b6).setIfInBounds 7 b7).setIfInBounds 8 b8).setIfInBounds 9 b9).setIfInBounds 10 cr).setIfInBounds 11 fC).setIfInBounds 12 e6).setIfInBounds 13 fB).setIfInBounds 14 fA).setIfInBounds 15 fz).setIfInBounds 16 fx)=#[b0,b1,b2,b3,b4,b5,b6,b7,b8,b9,cr,fC,e6,fB,fA,fz,fx]:=by simp
 rw[e]at hh
 exact hh
theorem zen(w:World)(g k:Nat)(b0 b1 b2 b3 b4 b5 b6 b7 b8 b9 cr fC e6 fB fA fz fx:Value)(hk:k≠g):(((((((((((((((((w.setCell ⟨g,0,none⟩ b0).setCell ⟨g,1,none⟩ b1).setCell ⟨g,2,none⟩ b2).setCell ⟨g,3,none⟩ b3).setCell ⟨g,4,none⟩ b4).setCell ⟨g,5,none⟩ b5).setCell ⟨g,6,none⟩ b6).setCell ⟨g,7,none⟩ b7).setCell ⟨g,8,none⟩ b8).setCell ⟨g,9,none⟩ b9).setCell ⟨g,10,none⟩ cr).setCell ⟨g,11,none⟩ fC).setCell ⟨g,12,none⟩ e6).setCell ⟨g,13,none⟩ fB).setCell ⟨g,14,none⟩ fA).setCell ⟨g,15,none⟩ fz).setCell ⟨g,16,none⟩ fx).heap[k]?=w.heap[k]?:=by
 rw[tY _ ⟨g,16,none⟩ _ k hk,tY _ ⟨g,15,none⟩ _ k hk,tY _ ⟨g,14,none⟩ _ k hk,tY _ ⟨g,13,none⟩ _ k hk,tY _ ⟨g,12,none⟩ _ k hk,tY _ ⟨g,11,none⟩ _ k hk,tY _ ⟨g,10,none⟩ _ k hk,tY _ ⟨g,9,none⟩ _ k hk,tY _ ⟨g,8,none⟩ _ k hk,tY _ ⟨g,7,none⟩ _ k hk,tY _ ⟨g,6,none⟩ _ k hk,tY _ ⟨g,5,none⟩ _ k hk,tY _ ⟨g,4,none⟩ _ k hk,tY _ ⟨g,3,none⟩ _ k hk,tY _ ⟨g,2,none⟩ _ k hk,tY _ ⟨g,1,none⟩ _ k hk,tY _ ⟨g,0,none⟩ _ k hk]
theorem zdU(w:World)(g:Nat)(b0 b1 b2 b3 b4 b5 b6 b7 b8 b9 cr fC e6 fB fA fz fx:Value):(((((((((((((((((w.setCell ⟨g,0,none⟩ b0).setCell ⟨g,1,none⟩ b1).setCell ⟨g,2,none⟩ b2).setCell ⟨g,3,none⟩ b3).setCell ⟨g,4,none⟩ b4).setCell ⟨g,5,none⟩ b5).setCell ⟨g,6,none⟩ b6).setCell ⟨g,7,none⟩ b7).setCell ⟨g,8,none⟩ b8).setCell ⟨g,9,none⟩ b9).setCell ⟨g,10,none⟩ cr).setCell ⟨g,11,none⟩ fC).setCell ⟨g,12,none⟩ e6).setCell ⟨g,13,none⟩ fB).setCell ⟨g,14,none⟩ fA).setCell ⟨g,15,none⟩ fz).setCell ⟨g,16,none⟩ fx).heap.size=w.heap.size:=by simp
theorem zay {w:World} {g:Nat} {t:TypeId} {a0 a1 a2 a3 a4 a5 a6 a7 a8 a9 eD kK a12 kJ kI kH kG:Value}(h:Blk w g t #[a0,a1,a2,a3,a4,a5,a6,a7,a8,a9,eD,kK,a12,kJ,kI,kH,kG]):(w.cell? ⟨g,0,none⟩=some a0/\w.cell? ⟨g,1,none⟩=some a1/\w.cell? ⟨g,2,none⟩=some a2/\w.cell? ⟨g,3,none⟩=some a3/\w.cell? ⟨g,4,none⟩=some a4/\w.cell? ⟨g,5,none⟩=some a5/\w.cell? ⟨g,6,none⟩=some a6/\w.cell? ⟨g,7,none⟩=some a7/\w.cell? ⟨g,8,none⟩=some a8/\w.cell? ⟨g,9,none⟩=some a9/\w.cell? ⟨g,10,none⟩=some eD/\w.cell? ⟨g,11,none⟩=some kK/\w.cell? ⟨g,12,none⟩=some a12/\w.cell? ⟨g,13,none⟩=some kJ/\w.cell? ⟨g,14,none⟩=some kI/\w.cell? ⟨g,15,none⟩=some kH/\w.cell? ⟨g,16,none⟩=some kG)/\(w.frozen? ⟨g,0,none⟩=false/\w.frozen? ⟨g,1,none⟩=false/\w.frozen? ⟨g,2,none⟩=false/\w.frozen? ⟨g,3,none⟩=false/\w.frozen? ⟨g,4,none⟩=false/\w.frozen? ⟨g,5,none⟩=false/\w.frozen? ⟨g,6,none⟩=false/\w.frozen? ⟨g,7,none⟩=false/\w.frozen? ⟨g,8,none⟩=false/\w.frozen? ⟨g,9,none⟩=false/\w.frozen? ⟨g,10,none⟩=false/\w.frozen? ⟨g,11,none⟩=false/\w.frozen? ⟨g,12,none⟩=false/\w.frozen? ⟨g,13,none⟩=false/\w.frozen? ⟨g,14,none⟩=false/\w.frozen? ⟨g,15,none⟩=false/\w.frozen? ⟨g,16,none⟩=false)/\g<w.heap.size :=
 ⟨⟨h.cell 0,h.cell 1,h.cell 2,h.cell 3,h.cell 4,h.cell 5,h.cell 6,h.cell 7,h.cell 8,h.cell 9,h.cell 10,h.cell 11,h.cell 12,h.cell 13,h.cell 14,h.cell 15,h.cell 16⟩,⟨h.frozen 0,h.frozen 1,h.frozen 2,h.frozen 3,h.frozen 4,h.frozen 5,h.frozen 6,h.frozen 7,h.frozen 8,h.frozen 9,h.frozen 10,h.frozen 11,h.frozen 12,h.frozen 13,h.frozen 14,h.frozen 15,h.frozen 16⟩,h.lt⟩
set_option maxRecDepth 100000
theorem wt_pos(e:Ex):1<=e.wt:=by
 induction e using Ex.rec (motive_2:=λ_=>True) (motive_3:=λ_=>True) <;> first|trivial|(simp only[Ex.wt];omega)
theorem zbZ(f1:Nat)(l:List Tok)(x:Ex)(r:List Tok)(hG:AllG l)(h:rdE f1 l=some (x,r)):AllG r/\r.length<l.length:=by
 obtain⟨-,h1,h2⟩:=(rd_facts f1).1 l x r hG h;have:=wt_pos x;exact⟨h1,by omega⟩
def parH(y:Ex):Option (Ty × List Tok)->Option (Ex × List Tok)
 |none=>none
 |some z=>if isHd z.2 6 [41]=true then some (.ann y z.1,z.2.tail) else none
def parG(y:Ex)(r:List Tok):Option (Ex × List Tok) :=
 if isHd r 6 [58]=true then parH y (typ r.tail)
 else if isHd r 6 [41]=true then some (y,r.tail) else none
theorem zi4(f:Nat)(l:List Tok):parF f l=match rdE f l with|none=>none|some y=>parG y.1 y.2:=by
 rw[parF]
 cases rdE f l with
 |none=>rfl
 |some y =>
  simp only[parG];by_cases h:isHd y.2 6 [58]=true
  ·simp only[ud h]
   cases typ y.2.tail <;> rfl
  ·simp only[ue h]
theorem znn(f:Nat)(S:Nat->Prop)(b:Nat)(l:List Tok)(w:World)(h:RdrS S w b l)(hS:∀g,S g->g≠b/\g<w.heap.size)(hG:AllG l)(hl:l.length<=100000)(hf:3*l.length+3<=f)
  (IH:GReads pcE shE S b 42 3 rdE f):Calls Tryz.prog 170 #[.pointer (some ⟨b,0,none⟩)] w (GPost pcE shE S b w (parF f l)):=by
 have aC:=h.lt;have hE:=IH (w.alloc (.cells exZ 39)) l (h.alloc _ (λg hg=>(hS g hg).2)) (λg hg=>⟨(hS g hg).1,by have:=(hS g hg).2;simp;omega⟩) hG hl hf;obtain⟨O,hO⟩:∃O,rdE f l=O:=⟨_,rfl⟩;rw[hO]at hE
 obtain⟨M,hM⟩:∃M,parF f l=M:=⟨_,rfl⟩;rw[hM]
 rw[zi4,hO]at hM
 unfold exZ at hE;have HE:=wJ hE;have fE:=wJ hM;have HO:=wJ hO;have HS:=wJ hS;have HG:=wJ hG;clear h hS hE hM hO hG IH hf;go_enter Tryz.func170,Tryz.ntmps170
 go_wp2_with fail
 refine HE.out.mono ?_;rintro e w2 ⟨c2,cs,bA,au⟩;obtain⟨ck,cx,ct,cK,cX,cZ,cB,cm,cq,aU,aR,aS,aT,aP,aQ,rfl⟩:=bA;have bo:=c2.size;simp at bo;have aa:Blk w2 w.heap.size 39 exZ:=Blk.chgR (tW _ _) c2 (by unfold only;omega);obtain⟨W,hW⟩:∃W,w2.alloc (.cells #[.int .i64 ck,.string cx,.bool ct,.int .i64 cK,.string cX,.int .i64 cZ,.slice cB cm cq,.slice aU aR aS,.slice aT aP aQ] 39)=W:=⟨_,rfl⟩;have aX:Below w2.heap.size w2 W:=hW▸(ua _ w2).alloc (tV _) _;have hsW:W.heap.size=w2.heap.size+1:=by rw[<-hW];simp
 have fW:Blk W w2.heap.size 39 #[.int .i64 ck,.string cx,.bool ct,.int .i64 cK,.string cX,.int .i64 cZ,.slice cB cm cq,.slice aU aR aS,.slice aT aP aQ]:=hW▸tW _ _;have aA:Blk W w.heap.size 39 exZ:=(aX.block _ aa.lt).trans aa;have bZ:=wJ fW;have ar:=wJ aA;have iu:=wJ (c2.pre.below aX);have eF:=wJ aX;clear aa c2 HE fW aA aX;rcases au with⟨ho,rfl⟩|⟨y,r2,ho,rfl,aq,bV⟩
 ·subst ho
  go_upto_region 2 with fail
  try rw[hW]
  clear hW;go_upto_region 6 with fail
  obtain⟨⟨f0,f1,f2,f3,f4,f5,f6,f7,f8⟩,-,nu⟩:=zab bZ.out;obtain⟨⟨g0,g1,g2,g3,g4,g5,g6,g7,g8⟩,⟨z0,z1,z2,z3,z4,z5,z6,z7,z8⟩,eY⟩:=zab ar.out;go_region
  all_goals
   go_wp2_with fail
   try simp only[Exit.inBlock,Exit.then]
   refine ub (zaa rfl _ _ w.heap.size 39 _ (0,0) _ rfl ((zah _ _ _ _ _ _ _ _ _ ar.out).drew) Tryz.underlying39 rfl (by kernel_rfl)) rfl ?_;exact⟨(iu.out.set9 _ _ _ _ _ _ _ _ _ (tV _)).drew,_,⟨_,_,_,_,_,_,_,_,_,_,_,_,_,_,_,rfl⟩,.inl ⟨fE.out.symm,rfl⟩⟩
 ·subst ho
  have bH:=zbZ f l y r2 HG.out HO.out;have ja:Hid (M=parG y r2):=wJ fE.out.symm;have p5:Hid (r2.length<=100000):=wJ (by have:=bH.2;omega);have l8:=wJ (bV.below eF.out (λg hg=>by have:=(HS.out g hg).2;omega));have qL:=wJ (pcE.keep (S':=λg=>w.heap.size<=g/\g<w2.heap.size/\g≠w.heap.size) (λg hg=>⟨by have:=hg.1;simp at this;omega,hg.2,by have:=hg.1;simp at this;omega⟩) (λg hg=>eF.out.block g hg.2) aq);have fp:=zaE S b r2 ⟨#[58]⟩ W l8.out (λg hg=>⟨(HS.out g hg).1,by have:=(HS.out g hg).2;omega⟩) p5.out;obtain⟨q2,cf⟩:∃q,isHd r2 6 [58]=q:=⟨_,rfl⟩;rw[show(⟨#[58]⟩:ByteArray).data.toList=[58] from rfl,took,cf]at fp
  have gw:=wJ fp;have dC:=wJ bH.1;have dM:=wJ cf;clear fp aq bV cf bH;go_upto_region 2 with fail
  try rw[hW]
  clear hW;go_wp2_with fail
  refine gw.out.mono ?_;rintro e w3 ⟨rfl,aD,c3⟩;have eA:=c3.size;have qL:=wJ (pcE.keep (S':=λg=>w.heap.size<=g/\g<w2.heap.size/\g≠w.heap.size) (λg hg=>hg) (λg hg=>c3.block g (by omega) (by unfold only;omega)) qL.out);have bZ:=wJ (bZ.out.chgR c3 (by unfold only;omega));have ar:=wJ (ar.out.chgR c3 (by unfold only;omega));have iu:=wJ (iu.out.trans c3);clear c3 gw l8 eF;cases q2 with
  |false =>
   rw[ue (by decide)]at aD
   have HM:Hid (M=if isHd r2 6 [41]=true then some (y,r2.tail) else none):=wJ (by rw[ja.out,parG,dM.out,ue (by decide)]);have ef:=wJ aD;clear aD;go_upto_region 6 with fail
   obtain⟨q6,ku⟩:∃q,isHd r2 6 [41]=q:=⟨_,rfl⟩;have gw:Hid (∀V:World,RdrS S V b r2->w.heap.size<=V.heap.size->Calls Tryz.prog 93 #[.pointer (some ⟨b,0,none⟩),.string ⟨#[41]⟩] V λe w'=>e=.returned (.bool q6)/\RdrS S w' b (if q6=true then r2.tail else r2)/\ChR b V w'):=wJ λV hr hv=>by
    have:=zaE S b r2 ⟨#[41]⟩ V hr (λg hg=>⟨(HS.out g hg).1,by have:=(HS.out g hg).2;omega⟩) (by have:=p5.out;omega);rw[show(⟨#[41]⟩:ByteArray).data.toList=[41] from rfl,took,ku]at this
    exact this
   have tl:=wJ ku;have fF:Hid (∀V:World,V.heap[w2.heap.size]?=w3.heap[w2.heap.size]?->V.cell? ⟨w2.heap.size,0,none⟩=some (.int .i64 ck)/\V.cell? ⟨w2.heap.size,1,none⟩=some (.string cx)/\V.cell? ⟨w2.heap.size,2,none⟩=some (.bool ct)/\V.cell? ⟨w2.heap.size,3,none⟩=some (.int .i64 cK)/\V.cell? ⟨w2.heap.size,4,none⟩=some (.string cX)/\V.cell? ⟨w2.heap.size,5,none⟩=some (.int .i64 cZ)/\V.cell? ⟨w2.heap.size,6,none⟩=some (.slice cB cm cq)/\V.cell? ⟨w2.heap.size,7,none⟩=some (.slice aU aR aS)/\V.cell? ⟨w2.heap.size,8,none⟩=some (.slice aT aP aQ)):=wJ λV hV=>(zab (hV.trans bZ.out)).1;have SET:Hid (∀(V:World) (u0 u1 u2 u3 u4 u5 u6 u7 u8:Value),V.heap[w2.heap.size]?=w3.heap[w2.heap.size]?->(((((((((V.setCell ⟨w.heap.size,0,none⟩ u0).setCell ⟨w.heap.size,1,none⟩ u1).setCell ⟨w.heap.size,2,none⟩ u2).setCell ⟨w.heap.size,3,none⟩ u3).setCell ⟨w.heap.size,4,none⟩ u4).setCell ⟨w.heap.size,5,none⟩ u5).setCell ⟨w.heap.size,6,none⟩ u6).setCell ⟨w.heap.size,7,none⟩ u7).setCell ⟨w.heap.size,8,none⟩ u8).heap[w2.heap.size]?=w3.heap[w2.heap.size]?):=wJ λV u0 u1 u2 u3 u4 u5 u6 u7 u8 hV=>(zaf V w.heap.size w2.heap.size u0 u1 u2 u3 u4 u5 u6 u7 u8 (by omega)).trans hV;obtain⟨f0,f1,f2,f3,f4,f5,f6,f7,f8⟩:=fF.out w3 rfl;have B0:Hid (w3.drew.heap[w2.heap.size]?=w3.heap[w2.heap.size]?):=wJ rfl;have R0:Hid (RdrS S w3.drew b r2):=wJ (ef.out.keep rfl (λ_ _=>rfl));have bL:w.heap.size<=w3.drew.heap.size:=by rw[heap_drew];exact iu.out.size
   clear ku;go_region_held3 (λV=>V.cell? ⟨w2.heap.size,0,none⟩=some (.int .i64 ck)/\V.cell? ⟨w2.heap.size,1,none⟩=some (.string cx)/\V.cell? ⟨w2.heap.size,2,none⟩=some (.bool ct)/\V.cell? ⟨w2.heap.size,3,none⟩=some (.int .i64 cK)/\V.cell? ⟨w2.heap.size,4,none⟩=some (.string cX)/\V.cell? ⟨w2.heap.size,5,none⟩=some (.int .i64 cZ)/\V.cell? ⟨w2.heap.size,6,none⟩=some (.slice cB cm cq)/\V.cell? ⟨w2.heap.size,7,none⟩=some (.slice aU aR aS)/\V.cell? ⟨w2.heap.size,8,none⟩=some (.slice aT aP aQ)) (first|(with_reducible exact fF.out _ B0.out)|(with_reducible exact fF.out _ B5.out)|(with_reducible exact fF.out _ (SET.out _ _ _ _ _ _ _ _ _ _ B5.out))) (((with_reducible refine(gw.out _ R0.out bL).mono ?_);rintro e w5 ⟨rfl,r5,c5⟩;have B5:Hid (w5.heap[w2.heap.size]?=w3.heap[w2.heap.size]?):=wJ (c5.block _ bZ.out.lt (by unfold only;omega));have gk:=wJ (ar.out.drew.chgR c5 (by unfold only;omega));have R5:=wJ r5;have C5:=wJ ((iu.out.drew).trans c5);obtain⟨⟨g0,g1,g2,g3,g4,g5,g6,g7,g8⟩,⟨z0,z1,z2,z3,z4,z5,z6,z7,z8⟩,eY⟩:=zab gk.out;have K5:Hid (∀k,k<w3.heap.size->k≠b->w5.heap[k]?=w3.heap[k]?):=wJ (λk hk bf=>c5.block k hk bf);have L5:Hid (w3.heap.size<=w5.heap.size):=wJ c5.size;clear r5 c5))
   all_goals
    go_wp2_with fail
    try simp only[Exit.inBlock,Exit.then]
    refine ub (zaa rfl _ _ w.heap.size 39 _ (0,0) _ rfl (zah _ _ _ _ _ _ _ _ _ gk.out) Tryz.underlying39 rfl (by kernel_rfl)) rfl ?_;refine⟨C5.out.set9 _ _ _ _ _ _ _ _ _ (tV _),[.int .i64 ck,.string cx,.bool ct,.int .i64 cK,.string cX,.int .i64 cZ,.slice cB cm cq,.slice aU aR aS,.slice aT aP aQ],⟨_,_,_,_,_,_,_,_,_,_,_,_,_,_,_,rfl⟩,?_⟩;have hL5:=L5.out;cases q6 with
    |false=>exact .inl ⟨by rw[HM.out,tl.out,ue (by decide)],rfl⟩
    |true =>
     have hR:=R5.out;rw[ud rfl]at hR
     refine .inr ⟨y,r2.tail,by rw[HM.out,tl.out,ud rfl],rfl,?_,hR.keep (zaf _ _ _ _ _ _ _ _ _ _ _ _ (by omega)) (λk hk=>zaf _ _ _ _ _ _ _ _ _ _ _ _ (by have:=(HS.out k hk).2;omega))⟩;exact pcE.keep (λg hg=>⟨hg.1,by rw[zak];omega⟩) (λg hg=>(zaf _ _ _ _ _ _ _ _ _ _ _ _ hg.2.2).trans (K5.out g (by omega) (by omega))) qL.out
  |true =>
   rw[ud rfl]at aD
   obtain⟨t0,r0,e0,-,-⟩:=zaB r2 6 [58] (by decide) dM.out;have HT:=wJ (zdV S b r2.tail (w3.alloc (.cells tyZ 35)) (aD.alloc _ (λg hg=>by have:=(HS.out g hg).2;omega)) (λg hg=>⟨(HS.out g hg).1,by have:=(HS.out g hg).2;simp;omega⟩) (AllG.tail' dC.out) (by have:=p5.out;rw[e0]at this ⊢;simp at this ⊢;omega));unfold tyZ at HT;obtain⟨O2,eg⟩:∃O2,typ r2.tail=O2:=⟨_,rfl⟩;have bN:Hid (M=parH y O2):=wJ (by rw[ja.out,parG,dM.out,ud rfl,<-eg]);have HLR2:Hid (∀z,O2=some z->z.2.length<=100000):=wJ λz hz=>by
    obtain⟨-,-,h3⟩:=zbC (AllG.tail' dC.out) (show typ r2.tail=some (z.1,z.2) by rw[eg,hz]);have:=p5.out;rw[e0]at this h3
    simp at this h3;omega
   rw[eg]at HT
   clear aD e0 eg p5;go_wp2_with fail
   refine HT.out.mono ?_;rintro e w4 ⟨c4,tK,tX,tZ,tA,tm,tc,au⟩;have kp:=c4.size;simp at kp;have mF:Blk w4 w3.heap.size 35 #[.int .i64 0,.string ⟨#[]⟩,.int .i64 0,.slice none 0 0]:=Blk.chgR (tW _ _) c4 (by unfold only;omega);have fW:=(bZ.out.alloc (.cells #[.int .i64 0,.string ⟨#[]⟩,.int .i64 0,.slice none 0 0] 35)).chgR c4 (by unfold only;omega);have aA:=(ar.out.alloc (.cells #[.int .i64 0,.string ⟨#[]⟩,.int .i64 0,.slice none 0 0] 35)).chgR c4 (by unfold only;omega);have o9:=wJ ((iu.out.alloc (.cells #[.int .i64 0,.string ⟨#[]⟩,.int .i64 0,.slice none 0 0] 35)).trans c4);have qL:=wJ (pcE.keep (S':=λg=>w.heap.size<=g/\g<w2.heap.size/\g≠w.heap.size) (λg hg=>hg) (λg hg=>(c4.block g (by simp;omega) (by unfold only;omega)).trans (uc _ _ _ (by omega))) qL.out);obtain⟨VV,hV⟩:∃V,((((((((((((((w4.setCell ⟨w3.heap.size,0,none⟩ (.int .i64 tK)).setCell ⟨w3.heap.size,1,none⟩ (.string tX)).setCell ⟨w3.heap.size,2,none⟩ (.int .i64 tZ)).setCell ⟨w3.heap.size,3,none⟩ (.slice tA tm tc)).setCell ⟨w2.heap.size,0,none⟩ (.int .i64 7)).setCell ⟨w2.heap.size,1,none⟩ (.string ⟨#[]⟩)).setCell ⟨w2.heap.size,2,none⟩ (.bool false)).setCell ⟨w2.heap.size,3,none⟩ (.int .i64 tK)).setCell ⟨w2.heap.size,4,none⟩ (.string tX)).setCell ⟨w2.heap.size,5,none⟩ (.int .i64 tZ)).setCell ⟨w2.heap.size,6,none⟩ (.slice tA tm tc)).setCell ⟨w2.heap.size,7,none⟩ (.slice (some ⟨w4.heap.size,0,none⟩) 1 1)).setCell ⟨w2.heap.size,8,none⟩ (.slice none 0 0)).alloc (.cells #[.int .i64 ck,.string cx,.bool ct,.int .i64 cK,.string cX,.int .i64 cZ,.slice cB cm cq,.slice aU aR aS,.slice aT aP aQ] 39))=V:=⟨_,rfl⟩;have h6:=zai (.int .i64 tK) (.string tX) (.int .i64 tZ) (.slice tA tm tc) mF;have bu:∀k,k<w4.heap.size->k≠w3.heap.size->k≠w2.heap.size->VV.heap[k]?=w4.heap[k]?:=λk h1 h2 h3=>by
    rw[<-hV,uc _ _ _ (by rw[zak,zdn];exact h1),zaf _ _ _ _ _ _ _ _ _ _ _ _ h3,zan _ _ _ _ _ _ _ h2]
   have hsV:VV.heap.size=w4.heap.size+1:=by rw[<-hV];simp
   have bZ:Hid (Blk VV w2.heap.size 39 #[.int .i64 7,.string ⟨#[]⟩,.bool false,.int .i64 tK,.string tX,.int .i64 tZ,.slice tA tm tc,.slice (some ⟨w4.heap.size,0,none⟩) 1 1,.slice none 0 0]):=wJ (by
    rw[<-hV]
    exact(zah _ _ _ _ _ _ _ _ _ ((zan _ _ _ _ _ _ _ (by omega)).trans fW)).alloc _)
   have ar:Hid (Blk VV w.heap.size 39 exZ):=wJ ((bu _ aA.lt (by omega) (by omega)).trans aA);have pZ:Hid (Blk VV w4.heap.size 39 #[.int .i64 ck,.string cx,.bool ct,.int .i64 cK,.string cX,.int .i64 cZ,.slice cB cm cq,.slice aU aR aS,.slice aT aP aQ]):=wJ (by
    rw[<-hV]
    have:=tW (((((((((((((w4.setCell ⟨w3.heap.size,0,none⟩ (.int .i64 tK)).setCell ⟨w3.heap.size,1,none⟩ (.string tX)).setCell ⟨w3.heap.size,2,none⟩ (.int .i64 tZ)).setCell ⟨w3.heap.size,3,none⟩ (.slice tA tm tc)).setCell ⟨w2.heap.size,0,none⟩ (.int .i64 7)).setCell ⟨w2.heap.size,1,none⟩ (.string ⟨#[]⟩)).setCell ⟨w2.heap.size,2,none⟩ (.bool false)).setCell ⟨w2.heap.size,3,none⟩ (.int .i64 tK)).setCell ⟨w2.heap.size,4,none⟩ (.string tX)).setCell ⟨w2.heap.size,5,none⟩ (.int .i64 tZ)).setCell ⟨w2.heap.size,6,none⟩ (.slice tA tm tc)).setCell ⟨w2.heap.size,7,none⟩ (.slice (some ⟨w4.heap.size,0,none⟩) 1 1)).setCell ⟨w2.heap.size,8,none⟩ (.slice none 0 0)) (.cells #[.int .i64 ck,.string cx,.bool ct,.int .i64 cK,.string cX,.int .i64 cZ,.slice cB cm cq,.slice aU aR aS,.slice aT aP aQ] 39);rwa [zak,zdn]at this)
   have iu:Hid (ChR b w VV):=wJ (by
    rw[<-hV]
    exact(((o9.out.set4 _ _ _ _ (by omega)).set9 _ _ _ _ _ _ _ _ _ (by omega)).alloc _))
   have cL:=wJ bu;obtain⟨⟨f0,f1,f2,f3,f4,f5,f6,f7,f8⟩,⟨y0,y1,y2,y3,y4,y5,y6,y7,y8⟩,nu⟩:=zab fW;obtain⟨a0,a1,a2,a3,s0,s1,s2,s3,hl6⟩:=zae mF;have HXV:=wJ (pcE.keep (S':=λg=>w.heap.size<=g/\g<w2.heap.size/\g≠w.heap.size) (λg hg=>hg) (λg hg=>bu g (by omega) (by omega) (by omega)) qL.out);clear c4 mF fW aA h6 bu HT;rcases au with⟨ho,rfl⟩|⟨t,r4,ho,rfl,aq,bV⟩
   ·subst ho
    go_upto_region 6 with fail
    try rw[hV]
    clear hV f0 f1 f2 f3 f4 f5 f6 f7 f8 y0 y1 y2 y3 y4 y5 y6 y7 y8 a0 a1 a2 a3 s0 s1 s2 s3;obtain⟨⟨f0,f1,f2,f3,f4,f5,f6,f7,f8⟩,-,nu⟩:=zab bZ.out;obtain⟨⟨g0,g1,g2,g3,g4,g5,g6,g7,g8⟩,⟨z0,z1,z2,z3,z4,z5,z6,z7,z8⟩,eY⟩:=zab ar.out;go_region
    all_goals
     go_wp2_with fail
     try simp only[Exit.inBlock,Exit.then]
     refine ub (zaa rfl _ _ w.heap.size 39 _ (0,0) _ rfl ((zah _ _ _ _ _ _ _ _ _ ar.out).drew) Tryz.underlying39 rfl (by kernel_rfl)) rfl ?_;exact⟨(iu.out.set9 _ _ _ _ _ _ _ _ _ (tV _)).drew,_,⟨_,_,_,_,_,_,_,_,_,_,_,_,_,_,_,rfl⟩,.inl ⟨bN.out,rfl⟩⟩
   ·subst ho
    have HM:Hid (M=if isHd r4 6 [41]=true then some (.ann y t,r4.tail) else none):=wJ bN.out;have p5:=wJ (HLR2.out _ rfl);have ef:=wJ (bV.keep (cL.out b (by omega) (by omega) (by omega)) (λg hg=>cL.out g (by have:=(HS.out g hg).2;omega) (by have:=(HS.out g hg).2;omega) (by have:=(HS.out g hg).2;omega)));have ej:Hid (RdV (λg=>w3.heap.size<g/\g<w4.heap.size) VV t (.agg #[.int .i64 tK,.string tX,.int .i64 tZ,.slice tA tm tc])):=wJ (aq.keep (λg hg=>⟨by have:=hg.1;simp at this;omega,hg.2⟩) (λg hg=>cL.out g hg.2 (by have:=hg.1;simp at this;omega) (by have:=hg.1;simp at this;omega)));clear aq bV;go_upto_region 6 with fail
    try rw[hV]
    clear hV f0 f1 f2 f3 f4 f5 f6 f7 f8 y0 y1 y2 y3 y4 y5 y6 y7 y8 a0 a1 a2 a3 s0 s1 s2 s3;obtain⟨q6,ku⟩:∃q,isHd r4 6 [41]=q:=⟨_,rfl⟩;have gw:Hid (∀V:World,RdrS S V b r4->w.heap.size<=V.heap.size->Calls Tryz.prog 93 #[.pointer (some ⟨b,0,none⟩),.string ⟨#[41]⟩] V λe w'=>e=.returned (.bool q6)/\RdrS S w' b (if q6=true then r4.tail else r4)/\ChR b V w'):=wJ λV hr hv=>by
     have:=zaE S b r4 ⟨#[41]⟩ V hr (λg hg=>⟨(HS.out g hg).1,by have:=(HS.out g hg).2;omega⟩) (by have:=p5.out;omega);rw[show(⟨#[41]⟩:ByteArray).data.toList=[41] from rfl,took,ku]at this
     exact this
    have tl:=wJ ku;have fF:Hid (∀V:World,V.heap[w2.heap.size]?=VV.heap[w2.heap.size]?->V.cell? ⟨w2.heap.size,0,none⟩=some (.int .i64 7)/\V.cell? ⟨w2.heap.size,1,none⟩=some (.string ⟨#[]⟩)/\V.cell? ⟨w2.heap.size,2,none⟩=some (.bool false)/\V.cell? ⟨w2.heap.size,3,none⟩=some (.int .i64 tK)/\V.cell? ⟨w2.heap.size,4,none⟩=some (.string tX)/\V.cell? ⟨w2.heap.size,5,none⟩=some (.int .i64 tZ)/\V.cell? ⟨w2.heap.size,6,none⟩=some (.slice tA tm tc)/\V.cell? ⟨w2.heap.size,7,none⟩=some (.slice (some ⟨w4.heap.size,0,none⟩) 1 1)/\V.cell? ⟨w2.heap.size,8,none⟩=some (.slice none 0 0)):=wJ λV hV=>(zab (hV.trans bZ.out)).1;have SET:Hid (∀(V:World) (u0 u1 u2 u3 u4 u5 u6 u7 u8:Value),V.heap[w2.heap.size]?=VV.heap[w2.heap.size]?->(((((((((V.setCell ⟨w.heap.size,0,none⟩ u0).setCell ⟨w.heap.size,1,none⟩ u1).setCell ⟨w.heap.size,2,none⟩ u2).setCell ⟨w.heap.size,3,none⟩ u3).setCell ⟨w.heap.size,4,none⟩ u4).setCell ⟨w.heap.size,5,none⟩ u5).setCell ⟨w.heap.size,6,none⟩ u6).setCell ⟨w.heap.size,7,none⟩ u7).setCell ⟨w.heap.size,8,none⟩ u8).heap[w2.heap.size]?=VV.heap[w2.heap.size]?):=wJ λV u0 u1 u2 u3 u4 u5 u6 u7 u8 hV=>(zaf V w.heap.size w2.heap.size u0 u1 u2 u3 u4 u5 u6 u7 u8 (by omega)).trans hV;obtain⟨f0,f1,f2,f3,f4,f5,f6,f7,f8⟩:=fF.out VV rfl;have B0:Hid (VV.drew.heap[w2.heap.size]?=VV.heap[w2.heap.size]?):=wJ rfl;have R0:Hid (RdrS S VV.drew b r4):=wJ (ef.out.keep rfl (λ_ _=>rfl));have bL:w.heap.size<=VV.drew.heap.size:=by rw[heap_drew];exact iu.out.size
    clear ku;go_region_held3 (λV=>V.cell? ⟨w2.heap.size,0,none⟩=some (.int .i64 7)/\V.cell? ⟨w2.heap.size,1,none⟩=some (.string ⟨#[]⟩)/\V.cell? ⟨w2.heap.size,2,none⟩=some (.bool false)/\V.cell? ⟨w2.heap.size,3,none⟩=some (.int .i64 tK)/\V.cell? ⟨w2.heap.size,4,none⟩=some (.string tX)/\V.cell? ⟨w2.heap.size,5,none⟩=some (.int .i64 tZ)/\V.cell? ⟨w2.heap.size,6,none⟩=some (.slice tA tm tc)/\V.cell? ⟨w2.heap.size,7,none⟩=some (.slice (some ⟨w4.heap.size,0,none⟩) 1 1)/\V.cell? ⟨w2.heap.size,8,none⟩=some (.slice none 0 0)) (first|(with_reducible exact fF.out _ B0.out)|(with_reducible exact fF.out _ B5.out)|(with_reducible exact fF.out _ (SET.out _ _ _ _ _ _ _ _ _ _ B5.out))) (((with_reducible refine(gw.out _ R0.out bL).mono ?_);rintro e w5 ⟨rfl,r5,c5⟩;have B5:Hid (w5.heap[w2.heap.size]?=VV.heap[w2.heap.size]?):=wJ (c5.block _ bZ.out.lt (by unfold only;omega));have gk:=wJ (ar.out.drew.chgR c5 (by unfold only;omega));have R5:=wJ r5;have C5:=wJ ((iu.out.drew).trans c5);obtain⟨⟨g0,g1,g2,g3,g4,g5,g6,g7,g8⟩,⟨z0,z1,z2,z3,z4,z5,z6,z7,z8⟩,eY⟩:=zab gk.out;have K5:Hid (∀k,k<VV.heap.size->k≠b->w5.heap[k]?=VV.heap[k]?):=wJ (λk hk bf=>c5.block k hk bf);have L5:Hid (VV.heap.size<=w5.heap.size):=wJ c5.size;clear r5 c5))
    all_goals
     go_wp2_with fail
     try simp only[Exit.inBlock,Exit.then]
     refine ub (zaa rfl _ _ w.heap.size 39 _ (0,0) _ rfl (zah _ _ _ _ _ _ _ _ _ gk.out) Tryz.underlying39 rfl (by kernel_rfl)) rfl ?_;refine⟨C5.out.set9 _ _ _ _ _ _ _ _ _ (tV _),[.int .i64 7,.string ⟨#[]⟩,.bool false,.int .i64 tK,.string tX,.int .i64 tZ,.slice tA tm tc,.slice (some ⟨w4.heap.size,0,none⟩) 1 1,.slice none 0 0],⟨_,_,_,_,_,_,_,_,_,_,_,_,_,_,_,rfl⟩,?_⟩;have hL5:=L5.out;cases q6 with
     |false=>exact .inl ⟨by rw[HM.out,tl.out,ue (by decide)],rfl⟩
     |true =>
      have hR:=R5.out;rw[ud rfl]at hR
      refine .inr ⟨(.ann y t),r4.tail,by rw[HM.out,tl.out,ud rfl],rfl,?_,hR.keep (zaf _ _ _ _ _ _ _ _ _ _ _ _ (by omega)) (λk hk=>zaf _ _ _ _ _ _ _ _ _ _ _ _ (by have:=(HS.out k hk).2;omega))⟩;obtain⟨A',a',cd,jK⟩:=ej.out;injection cd with cd;have cd:=uC Array.toList cd;simp only[vH,Value.int.injEq,Value.string.injEq,Value.slice.injEq,wz,wj]at cd;obtain⟨rfl,rfl,rfl,rfl,rfl,rfl⟩:=cd;refine⟨⟨tA,tc,some ⟨w4.heap.size,0,none⟩,0,none,0⟩,by simp[exC,kdE,nmE,toE,tyE,tyC,tyV,zac,zad,Sx.strV],?_,?_⟩
      ·exact Args.keep (λg hg=>⟨by omega,by rw[zak];omega⟩) (λg hg=>(zaf _ _ _ _ _ _ _ _ _ _ _ _ (by omega)).trans (K5.out g (by omega) (by omega))) _ _ jK
      ·rw[ExIn]
       exact⟨_,rfl,⟨by omega,by rw[zak];omega⟩,zcf HXV.out (λk hk=>⟨hk.1,by rw[zak];omega⟩) (λk hk=>(zaf _ _ _ _ _ _ _ _ _ _ _ _ hk.2.2).trans (K5.out k (by omega) (by omega))) ((zaf _ _ _ _ _ _ _ _ _ _ _ _ (by omega)).trans ((K5.out _ (by omega) (by omega)).trans pZ.out))⟩
end Go.Proofs.YtknkclefoiohpaaGreatDoor
namespace Go.Proofs.YtknkclefoiohpaaGreatDoor
open Go.RowKit Lx Tx Sx
set_option maxRecDepth 100000
def atmG(f:Nat)(l:List Tok):Option (Ex × List Tok):=if isHd l 6 [40]=true then parF f l.tail else if(hd l).kind=2 then some (.con (hd l).text,l.tail) else none
theorem zjT(f:Nat)(l:List Tok):rdAtom (f+1) l=if(hd l).kind=1 then some (.var (hd l).text,l.tail) else atmG f l:=zcD f l
theorem zoT(f:Nat)(S:Nat->Prop)(b:Nat)(l:List Tok)(w:World)(h:RdrS S w b l)(hS:∀g,S g->g≠b/\g<w.heap.size)(hG:AllG l)(hl:l.length<=100000)(hf:3*l.length<=f)
  (IH:GReads pcE shE S b 42 3 rdE f):Calls Tryz.prog 139 #[.pointer (some ⟨b,0,none⟩)] w (GPost pcE shE S b w (rdAtom (f+1) l)):=by
 have aC:=h.lt;have hV:=zcl S b l (w.alloc (.cells exZ 39)) (h.alloc _ (λg hg=>(hS g hg).2)) (λg hg=>⟨(hS g hg).1,by have:=(hS g hg).2;simp;omega⟩) hl;unfold exZ at hV;obtain⟨M,hM⟩:∃M,rdAtom (f+1) l=M:=⟨_,rfl⟩;rw[hM]
 rw[zjT]at hM
 obtain⟨q,hq⟩:∃q,((hd l).kind==1)=q:=⟨_,rfl⟩;rw[hq]at hV
 obtain⟨X,hX⟩:∃X,anyT l 1=X:=⟨_,rfl⟩;obtain⟨r2,aw⟩:∃x,anyR l 1=x:=⟨_,rfl⟩;rw[hX,aw]at hV
 have HV:=wJ hV;have HS:=wJ hS;clear h hS hV;cases q with
 |true =>
  have hk:(hd l).kind=1:=by simpa using hq
  have dQ:(hd l).text=X.data.toList:=by rw[<-hX,anyT,ud hk]
  have aD:l.tail=r2:=by rw[<-aw,anyR,ud hk]
  rw[ud hk,dQ,aD]at hM
  have HM:=wJ hM;clear hk hq hf IH hG hl hM hX aw dQ aD;go_enter Tryz.func139,Tryz.ntmps139
  go_wp2_with fail
  refine HV.out.mono ?_;rintro e w1 ⟨rfl,r1,c1⟩;have bj:=c1.size;simp at bj;have aa:Blk w1 w.heap.size 39 exZ:=Blk.chgR (tW _ _) c1 (by unfold only;omega);have ax:=aa.lt;obtain⟨⟨g0,g1,g2,g3,g4,g5,g6,g7,g8⟩,z0,z1,z2,z3,z4,z5,z6,z7,z8⟩:=z9 aa;have aE:=wJ aa;have HC:=wJ c1.pre;have HR:=wJ r1;clear aa c1 r1 HV;go_wp2_with fail
  try simp only[Exit.inBlock,Exit.then]
  refine ub (zaa rfl _ _ w.heap.size 39 _ (0,0) _ rfl (zah _ _ _ _ _ _ _ _ _ aE.out) Tryz.underlying39 rfl (by kernel_rfl)) rfl ?_;refine⟨HC.out.set9 _ _ _ _ _ _ _ _ _ (tV _),_,⟨_,_,_,_,_,_,_,_,_,_,_,_,_,_,_,rfl⟩,.inr ⟨.var X.data.toList,r2,HM.out.symm,rfl,?_,HR.out.keep (zaf _ _ _ _ _ _ _ _ _ _ _ _ (by omega)) (λk hk=>zaf _ _ _ _ _ _ _ _ _ _ _ _ (by have:=(HS.out k hk).2;omega))⟩⟩;exact⟨⟨none,0,none,0,none,0⟩,by simp[exC,kdE,nmE,toE,tyE,tyC,zac,zad,Sx.strV],trivial,by rw[ExIn];trivial⟩
 |false =>
  have hk:¬(hd l).kind=1:=by simpa using hq
  have aD:l=r2:=by rw[<-aw,anyR,ue hk]
  subst aD;rw[ue hk]at hM
  have HM:=wJ hM;have bq:=wJ IH;have HG:=wJ hG;have HL:Hid (l.length<=100000/\3*l.length<=f):=wJ ⟨hl,hf⟩;clear hk hq hf IH hG hl hM hX aw;go_enter Tryz.func139,Tryz.ntmps139
  go_wp2_with fail
  refine HV.out.mono ?_;rintro e w1 ⟨rfl,r1,c1⟩;have bj:=c1.size;simp at bj;have aa:Blk w1 w.heap.size 39 exZ:=Blk.chgR (tW _ _) c1 (by unfold only;omega);have aE:=wJ aa;have HC:=wJ c1.pre;have h2:=zaE S b l ⟨#[40]⟩ w1 r1 (λg hg=>⟨(HS.out g hg).1,by have:=(HS.out g hg).2;omega⟩) HL.out.1;rw[show(⟨#[40]⟩:ByteArray).data.toList=[40] from rfl,took]at h2
  obtain⟨q2,cf⟩:∃q,isHd l 6 [40]=q:=⟨_,rfl⟩;rw[cf]at h2
  have H2:=wJ h2;have dM:=wJ cf;clear aa c1 r1 HV h2 cf;go_wp2_with fail
  refine H2.out.mono ?_;rintro e w2 ⟨rfl,r2,c2⟩;have bo:=c2.size;have aE:=wJ (aE.out.chgR c2 (by unfold only;omega));have HC:=wJ (HC.out.trans c2);clear c2 H2;cases q2 with
  |true =>
   rw[ud rfl]at r2
   obtain⟨t0,r0,e0,-,-⟩:=zaB l 6 [40] (by decide) dM.out;have hP:=znn f S b l.tail w2 r2 (λg hg=>⟨(HS.out g hg).1,by have:=(HS.out g hg).2;omega⟩) (AllG.tail' HG.out) (by have:=HL.out.1;rw[e0]at this ⊢;simp at this ⊢;omega) (by have:=HL.out.2;rw[e0]at this ⊢;simp at this ⊢;omega) bq.out;have bN:Hid (M=parF f l.tail):=wJ (by rw[<-HM.out,atmG,dM.out,ud rfl]);obtain⟨O,hO⟩:∃O,parF f l.tail=O:=⟨_,rfl⟩;rw[hO]at hP bN
   have HP:=wJ hP;clear r2 e0 hP hO;go_wp2_with fail
   refine HP.out.mono ?_;rintro e w3 ⟨c3,cs,bA,au⟩;obtain⟨ck,cx,ct,cK,cX,cZ,cB,cm,cq,aU,aR,aS,aT,aP,aQ,rfl⟩:=bA;have eA:=c3.size;have aa:=aE.out.chgR c3 (by unfold only;omega);have ax:=aa.lt;obtain⟨⟨g0,g1,g2,g3,g4,g5,g6,g7,g8⟩,z0,z1,z2,z3,z4,z5,z6,z7,z8⟩:=z9 aa;have bR:=wJ aa;have dF:=wJ (HC.out.trans c3);clear aa c3 HP;rcases au with⟨ho,rfl⟩|⟨y,r5,ho,rfl,aq,bV⟩
   ·have cS:=wJ (bN.out.trans ho)
    clear ho;go_wp2_with fail
    try simp only[Exit.inBlock,Exit.then]
    refine ub (zaa rfl _ _ w.heap.size 39 _ (0,0) _ rfl (zah _ _ _ _ _ _ _ _ _ bR.out) Tryz.underlying39 rfl (by kernel_rfl)) rfl ?_;exact⟨dF.out.set9 _ _ _ _ _ _ _ _ _ (tV _),_,⟨_,_,_,_,_,_,_,_,_,_,_,_,_,_,_,rfl⟩,.inl ⟨cS.out,rfl⟩⟩
   ·have cS:=wJ (bN.out.trans ho)
    have bD:=wJ aq;have ef:=wJ bV;clear ho aq bV;go_wp2_with fail
    try simp only[Exit.inBlock,Exit.then]
    refine ub (zaa rfl _ _ w.heap.size 39 _ (0,0) _ rfl (zah _ _ _ _ _ _ _ _ _ bR.out) Tryz.underlying39 rfl (by kernel_rfl)) rfl ?_;exact⟨dF.out.set9 _ _ _ _ _ _ _ _ _ (tV _),_,⟨_,_,_,_,_,_,_,_,_,_,_,_,_,_,_,rfl⟩,.inr ⟨y,r5,cS.out,rfl,
     pcE.keep (λg hg=>⟨by omega,by rw[zak];exact hg.2⟩) (λg hg=>zaf _ _ _ _ _ _ _ _ _ _ _ _ (by omega)) bD.out,ef.out.keep (zaf _ _ _ _ _ _ _ _ _ _ _ _ (by omega)) (λk hk=>zaf _ _ _ _ _ _ _ _ _ _ _ _ (by have:=(HS.out k hk).2;omega))⟩⟩
  |false =>
   rw[ue (by decide)]at r2
   have hP:=zcy S b l 2 2 rfl w2 r2 (λg hg=>⟨(HS.out g hg).1,by have:=(HS.out g hg).2;omega⟩) HL.out.1 (by decide);have bN:Hid (M=if(hd l).kind=2 then some (.con (hd l).text,l.tail) else none):=wJ (by rw[<-HM.out,atmG,dM.out,ue (by decide)]);obtain⟨q3,gE⟩:∃q,((hd l).kind==2)=q:=⟨_,rfl⟩;obtain⟨X2,hX⟩:∃X,anyT l 2=X:=⟨_,rfl⟩;obtain⟨r3,aD⟩:∃x,anyR l 2=x:=⟨_,rfl⟩;rw[gE,hX,aD]at hP
   have cS:Hid (M=if q3=true then some (.con X2.data.toList,r3) else none):=wJ (by
    rw[bN.out]
    cases q3 with
    |true =>
     have hk:(hd l).kind=2:=by simpa using gE
     rw[ud hk,ud rfl,show(hd l).text=X2.data.toList by rw[<-hX,anyT,ud hk],show l.tail=r3 by rw[<-aD,anyR,ud hk]]
    |false =>
     have hk:¬(hd l).kind=2:=by simpa using gE
     rw[ue hk,ue (by decide)])
   have HP:=wJ hP;clear r2 hP gE hX aD;have nt:b<w2.heap.size:=by omega
   go_wp2_with fail
   refine HP.out.mono ?_;rintro e w3 ⟨rfl,bV,c3⟩;have eA:=c3.size;have aa:=aE.out.chgR c3 (by unfold only;omega);have ax:=aa.lt;obtain⟨⟨g0,g1,g2,g3,g4,g5,g6,g7,g8⟩,z0,z1,z2,z3,z4,z5,z6,z7,z8⟩:=z9 aa;have bR:=wJ aa;have dF:=wJ (HC.out.trans c3);have ef:=wJ bV;clear aa c3 HP bV;go_wp2_with fail
   try simp only[Exit.inBlock,Exit.then]
   refine ub (zaa rfl _ _ w.heap.size 39 _ (0,0) _ rfl (zah _ _ _ _ _ _ _ _ _ bR.out) Tryz.underlying39 rfl (by kernel_rfl)) rfl ?_;refine⟨dF.out.set9 _ _ _ _ _ _ _ _ _ (tV _),[.int .i64 2,.string X2,.bool false,.int .i64 0,.string ⟨#[]⟩,.int .i64 0,.slice none 0 0,.slice none 0 0,.slice none 0 0],⟨_,_,_,_,_,_,_,_,_,_,_,_,_,_,_,rfl⟩,?_⟩;cases q3 with
   |false=>exact .inl ⟨by rw[cS.out,ue (by decide)],rfl⟩
   |true =>
    refine .inr ⟨.con X2.data.toList,r3,by rw[cS.out,ud rfl],rfl,?_,ef.out.keep (zaf _ _ _ _ _ _ _ _ _ _ _ _ (by omega)) (λk hk=>zaf _ _ _ _ _ _ _ _ _ _ _ _ (by have:=(HS.out k hk).2;omega))⟩;exact⟨⟨none,0,none,0,none,0⟩,by simp[exC,kdE,nmE,toE,tyE,tyC,zac,zad,Sx.strV],trivial,by rw[ExIn];trivial⟩
def zpC {α:Type}(P:Pc α)(S:Nat->Prop)(b:Nat)(w:World)(o:Option (List α × List Tok))(e:Ending)(w':World):Prop :=
 ChR b w w'/\∃A m c,((o=none/\m=0/\e=.returned (.tuple #[.slice A m c,.bool false])) \/
  ∃x r,o=some (x,r)/\e=.returned (.tuple #[.slice A m c,.bool true])/\m=x.length/\LstG P (λg=>w.heap.size<=g/\g<w'.heap.size) w' x A/\RdrS S w' b r)
theorem zp0:(Tryz.prog.info? 39).map (λi=>(i.zero,i.size,i.bytes))=some (some (.agg #[.int .i64 0,.string ⟨#[]⟩,.bool false,.int .i64 0,.string ⟨#[]⟩,.int .i64 0,.slice none 0 0,.slice none 0 0,.slice none 0 0]),9,136):=by kernel_rfl
theorem zjS(f:Nat)(S:Nat->Prop)(b:Nat)(l:List Tok)(w0 w:World)(h:RdrS S w b l)(hS:∀g,S g->g≠b/\g<w0.heap.size)(hb:b<w0.heap.size)(eL:ChR b w0 w)(hG:AllG l)(hl:l.length<=100000)(hf:3*l.length+2<=f)
  (IH:∀f1,f1<=f->GReads pcE shE S b 139 1 rdAtom f1)(aq:∀(f1:Nat)(l:List Tok)(x:Ex)(r:List Tok),AllG l->rdAtom f1 l=some (x,r)->AllG r/\r.length<l.length):Calls Tryz.prog 140 #[.slice none 0 0,.func (.func 141) #[.pointer (some ⟨b,0,none⟩)] #[],.func (.func 139) #[.pointer (some ⟨b,0,none⟩)] #[]] w
   (zpC pcE S b w0 ((zaC zaN id rdAtom f l).map λy=>(([]:List Ex)++y.1,y.2))):=by
 obtain⟨i0,bJ,bO,bz,bE⟩:=vz zp0;obtain⟨L,hL⟩:∃L,l.length=L:=⟨_,rfl⟩;have HL:=wJ hL;have HS:=wJ hS;have bq:=wJ IH;have bD:=wJ aq;have HH:Hid (zdk pcE zaN id rdAtom S b w0.heap.size 2 f 39 ([]:List Ex) l w0 L (.slice none 0 0) w):=wJ ⟨l,f,[],none,0,hL.symm,rfl,hG,by simp,hf,tV _,wJ h,wJ (by simp),wJ (by rw[uW];exact(BuiltG.nil _ _ _ _)),wJ eL⟩;rw[hL]at hl hf
 clear h hS hL IH aq eL;go_enter Tryz.func140,Tryz.ntmps140
 go_wp2_with fail
 go_loopg [0] L (λgg v wr=>zdk pcE zaN id rdAtom S b w0.heap.size 2 f 39 ([]:List Ex) l w0 gg v wr)
 case atStart=>exact HH.out
 case round =>
  obtain⟨r,f',done,A,c,rfl,rfl,iz,hle,iS,pD,hr,hv,jF,hc⟩:=hrel;rw[HL.out]at hle
  have aG:=hc.out.size;obtain⟨f1,rfl⟩:∃f1,f'=f1+1:=⟨f'-1,by omega⟩;obtain⟨n,hn⟩:∃n,(([]:List Ex)++done).length=n:=⟨_,rfl⟩;have ib:n<=1+done.length:=by rw[<-hn];simp <;> omega
  rw[hn]at jF ⊢
  have HN:=wJ hn;obtain⟨rn,ep⟩:∃n,r.length=n:=⟨_,rfl⟩;have ir:=wJ ep;rw[ep]at hle iS
  have hA:=wJ (zoP S b r wr hr.out (λg hg=>⟨(HS.out g hg).1,by have:=(HS.out g hg).2;omega⟩) (by rw[ep];omega));have kQ:=wJ iz;clear hn ep HH iz;obtain⟨q,hq⟩:∃q,zaN r=q:=⟨_,rfl⟩;rw[hq]at hA
  have HQ:=wJ hq;clear hq;go_wp2_with fail
  refine hA.out.mono ?_;rintro e w2 ⟨rfl,aw,c2⟩;have bo:=c2.size;have cH:=wJ (hc.out.trans c2);have gP:=wJ (jF.out.chgR c2 hb);clear c2 hA jF;cases q with
  |false =>
   rw[ue (by decide)]at aw
   have dD:=wJ aw;have HV:=wJ (hv.out.trans (uC (Option.map λy:List Ex × List Tok=>(done++y.1,y.2)) (zaZ f1 r HQ.out)));clear aw hv;go_wp2_with fail
   go_ret2
   refine⟨cH.out,A,n,c,.inr ⟨([]:List Ex)++done,r,by rw[HV.out];simp,rfl,HN.out.symm,gP.out.lst.2,dD.out⟩⟩
  |true =>
   rw[ud rfl]at aw
   obtain⟨bH,eY,lK⟩:=zjO r kQ.out HQ.out;rw[ir.out]at eY lK
   have HP:=wJ (bq.out f1 (by omega) w2 _ aw (λg hg=>⟨(HS.out g hg).1,by have:=(HS.out g hg).2;omega⟩) bH (by omega) (by omega));obtain⟨O,hO⟩:∃O,rdAtom f1 (id r)=O:=⟨_,rfl⟩;have HO:=wJ hO;have dC:=wJ bH;rw[hO]at HP
   clear aw bH hO;go_wp2_with fail
   refine HP.out.mono ?_;rintro e w3 ⟨c3,cs,bA,au⟩;obtain⟨ek,ex,et,tk,tx,tz,tA,tm,tq,KA,kn,kc,LA,ln,lc,rfl⟩:=bA;have eA:=c3.size;rcases au with⟨ho,rfl⟩|⟨px,r2,ho,rfl,hx,aD⟩
   ·have HV:=wJ (hv.out.trans (uC (Option.map λy:List Ex × List Tok=>(done++y.1,y.2)) (zbj f1 r HQ.out (HO.out.trans ho))))
    have dF:=wJ (cH.out.trans c3);clear hv ho c3 HP;go_wp2_with fail
    go_ret2
    exact⟨dF.out.alloc _,none,0,0,.inl ⟨by rw[HV.out];rfl,rfl,rfl⟩⟩
   ·have HV:=wJ (hv.out.trans (uC (Option.map λy:List Ex × List Tok=>(done++y.1,y.2)) (za6 f1 r HQ.out px r2 (HO.out.trans ho))))
    have eP:=bD.out f1 _ px r2 dC.out (HO.out.trans ho);have je:=eP.2;have bw:=wJ eP.1;have HX:=wJ hx;have gz:=wJ aD;have C3:=wJ c3;obtain⟨vs,ae,ao⟩:=gP.out;rw[HN.out]at ae
    have aM:=wJ ae;have av:=wJ ao;have aj:=zc1 ae c3 hb;have bY:=aj.lt;have dN:=wJ ((aj.alloc (.cells #[.int .i64 ek,.string ex,.bool et,.int .i64 tk,.string tx,.int .i64 tz,.slice tA tm tq,.slice KA kn kc,.slice LA ln lc] 39)).alloc (.cells #[.int .i64 ek,.string ex,.bool et,.int .i64 tk,.string tx,.int .i64 tz,.slice tA tm tq,.slice KA kn kc,.slice LA ln lc] 39));clear hv ho c3 HP eP hx aD ae ao aj gP;go_wp2_with (at_builtin;refine uP _ rfl (.tmp 25) (.tmp 27) 36 rfl w0.heap.size 39 i0 _ 9 136 Tryz.underlying36 bJ bO bz bE rfl (by decide) _ n vs rfl dN.out ⟨w3.heap.size+1,0,none⟩ 1 1 [.int .i64 ek,.string ex,.bool et,.int .i64 tk,.string tx,.int .i64 tz,.slice tA tm tq,.slice KA kn kc,.slice LA ln lc] rfl rfl (zao _ _ _ _ (by simp)) (by intro u hu;simp at hu;rcases hu with rfl|rfl|rfl|rfl|rfl|rfl|rfl|rfl|rfl <;> rfl) (by unfold maxLen;omega) (by omega) (by simp;omega) ?_;intro v2 w5 aI ab _ cv;obtain⟨A2,c2,rfl⟩:=zat aI;have eU:=wJ aI;have cQ:=wJ ab;have fZ:=wJ cv;clear aI ab cv)
    have ee:=cQ.out.size;simp at ee;have jB:∀k,k<w0.heap.size->w5.heap[k]?=w3.heap[k]?:=λk hk=>(cQ.out.block k (by simp;omega) (λe=>by have:=bY _ e.symm;omega)).trans ((uc _ _ _ (by simp;omega)).trans (uc _ _ _ (by omega)));go_roundg r2.length
    case measure=>rw[ir.out];omega
    case rel =>
     refine⟨r2,f1,done++[px],A2,c2,rfl,?_,bw.out,?_,by omega,by omega,wJ (gz.out.keep (jB b hb) (λg hg=>jB g (HS.out g hg).2)),wJ ?_,wJ ?_,wJ ((((cH.out.trans C3.out).alloc _).alloc _).grown cQ.out (λj hj=>.inl (by have:=bY _ hj;omega)))⟩
     ·rw[<-uy,uf,HN.out];rfl
     ·rw[uf,HL.out];simp;omega
     ·rw[HV.out];simp[Function.comp_def]
     ·rw[<-uy,show(([]:List Ex)++done++[px]).length=n+1 by rw[uf,HN.out];rfl]
      exact BuiltG.next (w:=w2) (w1:=w3) hb (by omega) (by rw[HN.out];exact aM.out) av.out C3.out HX.out (((ua _ w3).alloc (tV _) _).alloc (by simp) _) (by rw[HN.out];exact eU.out) cQ.out fZ.out
end Go.Proofs.YtknkclefoiohpaaGreatDoor
namespace Go.Proofs.YtknkclefoiohpaaGreatDoor
open Go.RowKit Lx Tx Sx
set_option maxRecDepth 100000
theorem zdW(f1:Nat)(l:List Tok)(x:Ex)(r:List Tok)(hG:AllG l)(h:rdAtom f1 l=some (x,r)):AllG r/\r.length<l.length:=by
 obtain⟨-,h1,h2⟩:=(rd_facts f1).2.2.2.2.2.2 l x r hG h;have:=wt_pos x;exact⟨h1,by omega⟩
theorem zno {α:Type} {nx:List Tok->Bool} {af:List Tok->List Tok} {rd:Nat->List Tok->Option (α × List Tok)}(haf:∀l,AllG l->nx l=true->AllG (af l)/\(af l).length<=l.length)
  (aq:∀(f1:Nat)(l:List Tok)(x:α)(r:List Tok),AllG l->rd f1 l=some (x,r)->AllG r/\r.length<l.length)(f:Nat):∀(l:List Tok)(x:List α)(r:List Tok),AllG l->zaC nx af rd f l=some (x,r)->x.length+r.length<=l.length:=by
 induction f with
 |zero=>intro l x r _ h;rw[zaC]at h;cases h
 |succ f ih =>
  intro l x r hG h;by_cases hn:nx l=true
  ·obtain⟨g1,l1⟩:=haf l hG hn
   cases ho:rd f (af l) with
   |none=>rw[zbj f l hn ho]at h;cases h
   |some y =>
    obtain⟨p,r1⟩:=y;rw[za6 f l hn p r1 ho]at h
    obtain⟨g2,l2⟩:=aq f _ p r1 g1 ho;cases hm:zaC nx af rd f r1 with
    |none=>rw[hm]at h;cases h
    |some z =>
     obtain⟨xs,r2⟩:=z;rw[hm]at h
     simp only[uq,um,uw]at h;obtain⟨rfl,rfl⟩:=h;have:=ih r1 xs r2 g2 hm;simp only[ui];omega
  ·rw[zaZ f l (by simpa using hn)]at h
   simp only[um,uw]at h;obtain⟨rfl,rfl⟩:=h;simp
theorem LstG.ex {S:Nat->Prop} {w:World} {l:List Ex} {A:Option Addr}(h:LstG pcE S w l A)(i:Nat)(x:Ex)(hx:l[i]?=some x):∃g,A=some ⟨g,0,none⟩/\S g/\ExAt S w x g (i*9):=by
 obtain⟨hi,rfl⟩:=uj.1 hx;obtain⟨g,h1,h2,h3⟩:=h (by intro e;rw[e]at hi;simp at hi);obtain⟨cs,⟨P,rfl,h4,h5⟩,h6⟩:=AtG.at_ l g 0 i hi h3;exact⟨g,h1,h2,P,by rw[uJ]at h6;exact h6,h4,h5⟩
def HeadAp(S:Nat->Prop)(b g4:Nat)(y:Ex)(xs:List Ex)(A:Option Addr)(r:List Tok)(ok:Bool)(w:World)(gg:Nat)(vi:Value)(wr:World):Prop :=
 ∃(i:Nat) (ek:Int) (ex:ByteArray) (et:Bool) (eK:Int) (eX:ByteArray) (eZ:Int) (eB:Option Addr) (em eq:Nat) (eKA:Option Addr) (ekn ekc:Nat) (eLA:Option Addr) (eln elc:Nat),
  gg=xs.length-i/\vi=.int .i64 (i:Nat)/\i<=xs.length /\
  Hid (Blk wr g4 39 #[.int .i64 ek,.string ex,.bool et,.int .i64 eK,.string eX,.int .i64 eZ,.slice eB em eq,.slice eKA ekn ekc,.slice eLA eln elc]) /\
  Hid (pcE.Cs (λg=>w.heap.size<g/\g≠g4/\g<wr.heap.size) wr ((xs.take i).foldl Ex.app y) [.int .i64 ek,.string ex,.bool et,.int .i64 eK,.string eX,.int .i64 eZ,.slice eB em eq,.slice eKA ekn ekc,.slice eLA eln elc]\/ok=false) /\
  Hid (LstG pcE (λg=>g4<g/\g<wr.heap.size) wr xs A)/\Hid (RdrS S wr b r\/ok=false)/\Hid (Blk wr w.heap.size 39 exZ)/\Hid (ChR b w wr)
theorem zfR(f:Nat)(S:Nat->Prop)(b:Nat)(l:List Tok)(w:World)(h:RdrS S w b l)(hS:∀g,S g->g≠b/\g<w.heap.size)(hG:AllG l)(hl:l.length<=100000)(hf:3*l.length+1<=f)
  (IH:∀f1,f1<=f->GReads pcE shE S b 139 1 rdAtom f1):Calls Tryz.prog 98 #[.pointer (some ⟨b,0,none⟩)] w (GPost pcE shE S b w (rdApp (f+1) l)):=by
 have aC:=h.lt;have hE:=IH f (tV _) (w.alloc (.cells exZ 39)) l (h.alloc _ (λg hg=>(hS g hg).2)) (λg hg=>⟨(hS g hg).1,by have:=(hS g hg).2;simp;omega⟩) hG hl hf;obtain⟨O,hO⟩:∃O,rdAtom f l=O:=⟨_,rfl⟩;rw[hO]at hE
 obtain⟨M,hM⟩:∃M,rdApp (f+1) l=M:=⟨_,rfl⟩;rw[hM]
 rw[zhE,hO]at hM
 unfold exZ at hE;have HE:=wJ hE;have fE:=wJ hM;have HO:=wJ hO;have HS:=wJ hS;have HG:=wJ hG;have bq:=wJ IH;clear h hS hE hM hO hG IH;go_enter Tryz.func98,Tryz.ntmps98
 go_wp2_with fail
 refine HE.out.mono ?_;rintro e w2 ⟨c2,cs,bA,au⟩;obtain⟨ck,cx,ct,cK,cX,cZ,cB,cm,cq,aU,aR,aS,aT,aP,aQ,rfl⟩:=bA;have bo:=c2.size;simp at bo;have aa:Blk w2 w.heap.size 39 exZ:=Blk.chgR (tW _ _) c2 (by unfold only;omega);have ax:=aa.lt;have aE:=wJ aa;have HC:=wJ c2.pre;rcases au with⟨ho,rfl⟩|⟨y,r2,ho,rfl,aq,bV⟩
 ·subst ho
  obtain⟨⟨g0,g1,g2,g3,g4,g5,g6,g7,g8⟩,z0,z1,z2,z3,z4,z5,z6,z7,z8⟩:=z9 aa;clear aa c2 HE;go_wp2_with fail
  try simp only[Exit.inBlock,Exit.then]
  refine ub (zaa rfl _ _ w.heap.size 39 _ (0,0) _ rfl ((zah _ _ _ _ _ _ _ _ _ aE.out).alloc _) Tryz.underlying39 rfl (by kernel_rfl)) rfl ?_;exact⟨(HC.out.set9 _ _ _ _ _ _ _ _ _ (tV _)).alloc _,_,⟨_,_,_,_,_,_,_,_,_,_,_,_,_,_,_,rfl⟩,.inl ⟨fE.out.symm,rfl⟩⟩
 ·subst ho
  have bH:=zdW f l y r2 HG.out HO.out;obtain⟨O2,eg⟩:∃O2,zaC zaN id rdAtom f r2=O2:=⟨_,rfl⟩;have HM:Hid (M=O2.map λz=>(z.1.foldl Ex.app y,z.2)):=wJ (by rw[<-fE.out,<-eg]);obtain⟨W,hW⟩:∃W,w2.alloc (.cells #[.int .i64 ck,.string cx,.bool ct,.int .i64 cK,.string cX,.int .i64 cZ,.slice cB cm cq,.slice aU aR aS,.slice aT aP aQ] 39)=W:=⟨_,rfl⟩;have aX:Below w2.heap.size w2 W:=hW▸(ua _ w2).alloc (tV _) _;have hsW:W.heap.size=w2.heap.size+1:=by rw[<-hW];simp
  have fW:Blk W w2.heap.size 39 #[.int .i64 ck,.string cx,.bool ct,.int .i64 cK,.string cX,.int .i64 cZ,.slice cB cm cq,.slice aU aR aS,.slice aT aP aQ]:=hW▸tW _ _;have iu:=wJ (c2.pre.below aX);have ar:=wJ (show Blk W w.heap.size 39 exZ from(aX.block _ ax).trans aa);have l8:=bV.below aX (λg hg=>by have:=(HS.out g hg).2;omega);have HX:=wJ (pcE.keep (S':=λg=>w.heap.size<g/\g<w2.heap.size) (λg hg=>⟨by have:=hg.1;simp at this;omega,hg.2⟩) (λg hg=>aX.block g hg.2) aq);have bZ:=wJ fW;have hQ:=zjS f S b r2 W W l8 (λg hg=>⟨(HS.out g hg).1,by have:=(HS.out g hg).2;omega⟩) (by omega) (ChR.refl _ _) bH.1 (by omega) (by omega) bq.out zdW;rw[eg,show(O2.map λy:List Ex × List Tok=>(([]:List Ex)++y.1,y.2))=O2 by cases O2 <;> rfl]at hQ
  have HQ:=wJ hQ;have tG:Hid (∀xs r,O2=some (xs,r)->xs.length<=100000):=wJ λxs r h=>by
   have:=zno (nx:=zaN) (af:=id) (λl hG _=>⟨hG,tV _⟩) zdW f r2 xs r bH.1 (eg.trans h);omega
  clear aa c2 HE aq bV aX fW l8 bH eg hQ;go_upto_region 4 with fail
  try rw[hW]
  clear hW;go_wp2_with fail
  refine HQ.out.mono ?_;rintro e w3 ⟨c3,A,m,c,au⟩;have eA:=c3.size;have hU:∃ok xs r,e=.returned (.tuple #[.slice A m c,.bool ok])/\m=xs.length/\xs.length<=100000/\LstG pcE (λg=>W.heap.size<=g/\g<w3.heap.size) w3 xs A/\(RdrS S w3 b r\/ok=false)/\M=(if ok=true then some (xs.foldl Ex.app y,r) else none):=by
   rcases au with⟨ho,hm,he⟩|⟨xs,r,ho,he,hm,hx,hr⟩
   ·exact⟨false,[],r2,he,hm,by simp,(λh=>absurd rfl h),.inr rfl,by rw[HM.out,ho,ue (by decide)];rfl⟩
   ·exact⟨true,xs,r,he,hm,tG.out xs r ho,hx,.inl hr,by rw[HM.out,ho,ud rfl];rfl⟩
  obtain⟨ok,xs,r,rfl,rfl,jv,eO,bV,hM⟩:=hU;have cS:=wJ hM;obtain⟨n,hn⟩:∃n,xs.length=n:=⟨_,rfl⟩;have HN:=wJ hn;have HH:Hid (HeadAp S b w2.heap.size y xs A r ok w n (.int .i64 0) w3):=wJ ⟨0,ck,cx,ct,cK,cX,cZ,cB,cm,cq,aU,aR,aS,aT,aP,aQ,by rw[hn];rfl,rfl,by omega,wJ (bZ.out.chgR c3 (by unfold only;omega)),
   wJ (.inl (by rw[vW];exact pcE.keep (λg hg=>⟨hg.1,by omega,by omega⟩) (λg hg=>c3.block g (by omega) (by unfold only;omega)) HX.out)),wJ (eO.keep (λg hg=>⟨by omega,hg.2⟩) (λ_ _=>rfl)),wJ bV,wJ (ar.out.chgR c3 (by unfold only;omega)),wJ (iu.out.trans c3)⟩
  rw[hn]at jv ⊢
  clear c3 HQ au eO bV hM hn tG HX bZ ar iu HM;go_wp2_with fail
  go_loopg [27] n (λgg vi wr=>HeadAp S b w2.heap.size y xs A r ok w gg vi wr)
  case atStart=>exact HH.out
  case round =>
   obtain⟨i,ek,ex,et,eK,eX,eZ,eB,em,eq,eKA,ekn,ekc,eLA,eln,elc,oy,rfl,hi,sP,hX,hL,hR,iY,hC⟩:=hrel;rw[HN.out]at oy hi
   have dw:=hC.out.size;obtain⟨⟨f0,f1,f2,f3,f4,f5,f6,f7,f8⟩,⟨y0,y1,y2,y3,y4,y5,y6,y7,y8⟩,nu⟩:=zab sP.out;have sa:w2.heap.size<wr.heap.size:=nu;by_cases ah:i<n
   ·obtain⟨x,hx⟩:∃x,xs[i]?=some x:=⟨_,ug (by rw[HN.out];exact ah)⟩
    obtain⟨g,rfl,bh,aH⟩:=hL.out.ex i x hx;obtain⟨k1,x1,t1,K1,X1,Z1,B1,m1,q1,cE,cz,cA,cD,cw,cy,d0,d1,d2,d3,d4,d5,d6,d7,d8,aq⟩:=aH.cells;have aV:=zaj d0;have bD:=wJ (zdC.1 aq);have HXI:=wJ hx;clear aH aq hx HH;go_wp2_with fail
    have oe:(xs.take (i+1)).foldl Ex.app y=.app ((xs.take i).foldl Ex.app y) x:=by rw[uL,HXI.out];simp
    have ey:=wJ oe;clear oe;go_roundg (n-(i+1))
    case measure=>omega
    case rel =>
     refine⟨i+1,4,⟨#[]⟩,false,0,⟨#[]⟩,0,none,0,0,some ⟨wr.heap.size+1,0,none⟩,2,2,none,0,0,by rw[HN.out],by rfl,by rw[HN.out];omega,wJ (((zah _ _ _ _ _ _ _ _ _ sP.out).alloc _).alloc _),wJ ?_,wJ (hL.out.keep (λg hg=>⟨hg.1,by simp;omega⟩) (λg hg=>?_)),wJ ?_,
      wJ ((zbN _ _ _ _ (by rw[zak];omega)).trans ((zaf _ _ _ _ _ _ _ _ _ _ _ _ (by omega)).trans iY.out)),wJ (((hC.out.set9 _ _ _ _ _ _ _ _ _ (by omega)).alloc _).alloc _)⟩
     ·rcases hX.out with hX|hX
      ·refine .inl ?_
       rw[ey.out]
       refine⟨⟨none,0,some ⟨wr.heap.size+1,0,none⟩,0,none,0⟩,by simp[exC,kdE,nmE,toE,tyE,tyC,zac,zad,Sx.strV],trivial,?_⟩;rw[ExIn]
       exact⟨_,rfl,⟨by omega,by omega,by simp⟩,zc2 (S:=λg=>w.heap.size<g/\g≠w2.heap.size/\g<wr.heap.size) hX (pcE.keep (λg hg=>⟨by omega,by omega,hg.2⟩) (λ_ _=>rfl) bD.out) (λg hg=>⟨hg.1,hg.2.1,by simp;omega⟩) (λk hk=>(zbN _ _ _ k (by rw[zak];exact hk.2.2)).trans (zaf _ _ _ _ _ _ _ _ _ _ _ _ hk.2.1)) (zaA _ _ _ _ (zak _ _ _ _ _ _ _ _ _ _ _))⟩
      ·exact .inr hX
     ·exact(zbN _ _ _ g (by rw[zak];exact hg.2)).trans (zaf _ _ _ _ _ _ _ _ _ _ _ _ (by omega))
     ·rcases hR.out with hR|hR
      ·exact .inl (hR.keep ((zbN _ _ _ b (by rw[zak];omega)).trans (zaf _ _ _ _ _ _ _ _ _ _ _ _ (by omega))) (λk hk=>(zbN _ _ _ k (by rw[zak];have:=(HS.out k hk).2;omega)).trans (zaf _ _ _ _ _ _ _ _ _ _ _ _ (by have:=(HS.out k hk).2;omega))))
      ·exact .inr hR
   ·obtain rfl:i=n:=by omega
    obtain⟨⟨g0,g1,g2,g3,g4,g5,g6,g7,g8⟩,⟨z0,z1,z2,z3,z4,z5,z6,z7,z8⟩,eY⟩:=zab iY.out;clear HH ah;go_wp2_with fail
    try simp only[Exit.inBlock,Exit.then]
    refine ub (zaa rfl _ _ w.heap.size 39 _ (0,0) _ rfl (zah _ _ _ _ _ _ _ _ _ iY.out) Tryz.underlying39 rfl (by kernel_rfl)) rfl ?_;refine⟨hC.out.set9 _ _ _ _ _ _ _ _ _ (tV _),[.int .i64 ek,.string ex,.bool et,.int .i64 eK,.string eX,.int .i64 eZ,.slice eB em eq,.slice eKA ekn ekc,.slice eLA eln elc],⟨_,_,_,_,_,_,_,_,_,_,_,_,_,_,_,rfl⟩,?_⟩;cases ok with
    |false=>exact .inl ⟨cS.out,rfl⟩
    |true =>
     have hX:=hX.out.resolve_right (by decide);have hR:=hR.out.resolve_right (by decide);rw[ur (by rw[HN.out];exact tV _)]at hX
     exact .inr ⟨_,r,cS.out,rfl,pcE.keep (λg hg=>⟨by omega,by rw[zak];exact hg.2.2⟩) (λg hg=>zaf _ _ _ _ _ _ _ _ _ _ _ _ (by omega)) hX,hR.keep (zaf _ _ _ _ _ _ _ _ _ _ _ _ (by omega)) (λk hk=>zaf _ _ _ _ _ _ _ _ _ _ _ _ (by have:=(HS.out k hk).2;omega))⟩
set_option maxRecDepth 100000
theorem zfu {w:World} {g:Nat} {t:TypeId} {a0 a1 a2 a3 a4 a5 a6 a7 a8 a9 eD:Value}(b2 b3 b4 b5 b6 b7 b8 b9 cr:Value)(h:Blk w g t #[a0,a1,a2,a3,a4,a5,a6,a7,a8,a9,eD]):Blk (((((((((w.setCell ⟨g,2,none⟩ b2).setCell ⟨g,3,none⟩ b3).setCell ⟨g,4,none⟩ b4).setCell ⟨g,5,none⟩ b5).setCell ⟨g,6,none⟩ b6).setCell ⟨g,7,none⟩ b7).setCell ⟨g,8,none⟩ b8).setCell ⟨g,9,none⟩ b9).setCell ⟨g,10,none⟩ cr) g t #[a0,a1,b2,b3,b4,b5,b6,b7,b8,b9,cr]:=by
 have s:∀(W:World) (cs:Array Value) (i:Nat) (b:Value),Blk W g t cs->Blk (W.setCell ⟨g,i,none⟩ b) g t (cs.setIfInBounds i b):=λW cs i b h=>uk W g i _ _ b h;have hh:=(s _ _ 10 cr (s _ _ 9 b9 (s _ _ 8 b8 (s _ _ 7 b7 (s _ _ 6 b6 (s _ _ 5 b5 (s _ _ 4 b4 (s _ _ 3 b3 (s _ _ 2 b2 h)))))))));have e:((((((((((#[a0,a1,a2,a3,a4,a5,a6,a7,a8,a9,eD]:Array Value).setIfInBounds 2 b2).setIfInBounds 3 b3).setIfInBounds 4 b4).setIfInBounds 5 b5).setIfInBounds 6 b6).setIfInBounds 7 b7).setIfInBounds 8 b8).setIfInBounds 9 b9).setIfInBounds 10 cr)=#[a0,a1,b2,b3,b4,b5,b6,b7,b8,b9,cr]:=by simp
 rw[e]at hh
 exact hh
theorem ChR.so11_2 {bb:Nat} {w w':World} {g:Nat}(h:ChR bb w w')(b2 b3 b4 b5 b6 b7 b8 b9 cr:Value)(hg:w.heap.size<=g):ChR bb w (((((((((w'.setCell ⟨g,2,none⟩ b2).setCell ⟨g,3,none⟩ b3).setCell ⟨g,4,none⟩ b4).setCell ⟨g,5,none⟩ b5).setCell ⟨g,6,none⟩ b6).setCell ⟨g,7,none⟩ b7).setCell ⟨g,8,none⟩ b8).setCell ⟨g,9,none⟩ b9).setCell ⟨g,10,none⟩ cr) :=
 (((((((((h.setCell (p:=⟨g,2,none⟩) (.inl hg) b2).setCell (p:=⟨g,3,none⟩) (.inl hg) b3).setCell (p:=⟨g,4,none⟩) (.inl hg) b4).setCell (p:=⟨g,5,none⟩) (.inl hg) b5).setCell (p:=⟨g,6,none⟩) (.inl hg) b6).setCell (p:=⟨g,7,none⟩) (.inl hg) b7).setCell (p:=⟨g,8,none⟩) (.inl hg) b8).setCell (p:=⟨g,9,none⟩) (.inl hg) b9).setCell (p:=⟨g,10,none⟩) (.inl hg) cr)
theorem zfv(w:World)(g k:Nat)(b2 b3 b4 b5 b6 b7 b8 b9 cr:Value)(hk:k≠g):(((((((((w.setCell ⟨g,2,none⟩ b2).setCell ⟨g,3,none⟩ b3).setCell ⟨g,4,none⟩ b4).setCell ⟨g,5,none⟩ b5).setCell ⟨g,6,none⟩ b6).setCell ⟨g,7,none⟩ b7).setCell ⟨g,8,none⟩ b8).setCell ⟨g,9,none⟩ b9).setCell ⟨g,10,none⟩ cr).heap[k]?=w.heap[k]?:=by
 rw[tY _ ⟨g,10,none⟩ _ k hk,tY _ ⟨g,9,none⟩ _ k hk,tY _ ⟨g,8,none⟩ _ k hk,tY _ ⟨g,7,none⟩ _ k hk,tY _ ⟨g,6,none⟩ _ k hk,tY _ ⟨g,5,none⟩ _ k hk,tY _ ⟨g,4,none⟩ _ k hk,tY _ ⟨g,3,none⟩ _ k hk,tY _ ⟨g,2,none⟩ _ k hk]
theorem zeP(w:World)(g:Nat)(b2 b3 b4 b5 b6 b7 b8 b9 cr:Value):(((((((((w.setCell ⟨g,2,none⟩ b2).setCell ⟨g,3,none⟩ b3).setCell ⟨g,4,none⟩ b4).setCell ⟨g,5,none⟩ b5).setCell ⟨g,6,none⟩ b6).setCell ⟨g,7,none⟩ b7).setCell ⟨g,8,none⟩ b8).setCell ⟨g,9,none⟩ b9).setCell ⟨g,10,none⟩ cr).heap.size=w.heap.size:=by simp
theorem zjD {w:World} {g:Nat} {t:TypeId} {a0 a1 a2 a3 a4 a5 a6 a7 a8 a9 eD kK a12 kJ kI kH kG:Value}(b8 b9 cr fC e6 fB fA fz fx:Value)(h:Blk w g t #[a0,a1,a2,a3,a4,a5,a6,a7,a8,a9,eD,kK,a12,kJ,kI,kH,kG]):Blk (((((((((w.setCell ⟨g,8,none⟩ b8).setCell ⟨g,9,none⟩ b9).setCell ⟨g,10,none⟩ cr).setCell ⟨g,11,none⟩ fC).setCell ⟨g,12,none⟩ e6).setCell ⟨g,13,none⟩ fB).setCell ⟨g,14,none⟩ fA).setCell ⟨g,15,none⟩ fz).setCell ⟨g,16,none⟩ fx) g t #[a0,a1,a2,a3,a4,a5,a6,a7,b8,b9,cr,fC,e6,fB,fA,fz,fx]:=by
 have s:∀(W:World) (cs:Array Value) (i:Nat) (b:Value),Blk W g t cs->Blk (W.setCell ⟨g,i,none⟩ b) g t (cs.setIfInBounds i b):=λW cs i b h=>uk W g i _ _ b h;have hh:=(s _ _ 16 fx (s _ _ 15 fz (s _ _ 14 fA (s _ _ 13 fB (s _ _ 12 e6 (s _ _ 11 fC (s _ _ 10 cr (s _ _ 9 b9 (s _ _ 8 b8 h)))))))));have e:((((((((((#[a0,a1,a2,a3,a4,a5,a6,a7,a8,a9,eD,kK,a12,kJ,kI,kH,kG]:Array Value).setIfInBounds 8 b8).setIfInBounds 9 b9).setIfInBounds 10 cr).setIfInBounds 11 fC).setIfInBounds 12 e6).setIfInBounds 13 fB).setIfInBounds 14 fA).setIfInBounds 15 fz).setIfInBounds 16 fx)=#[a0,a1,a2,a3,a4,a5,a6,a7,b8,b9,cr,fC,e6,fB,fA,fz,fx]:=by simp
 rw[e]at hh
 exact hh
theorem ChR.so17_8 {bb:Nat} {w w':World} {g:Nat}(h:ChR bb w w')(b8 b9 cr fC e6 fB fA fz fx:Value)(hg:w.heap.size<=g):ChR bb w (((((((((w'.setCell ⟨g,8,none⟩ b8).setCell ⟨g,9,none⟩ b9).setCell ⟨g,10,none⟩ cr).setCell ⟨g,11,none⟩ fC).setCell ⟨g,12,none⟩ e6).setCell ⟨g,13,none⟩ fB).setCell ⟨g,14,none⟩ fA).setCell ⟨g,15,none⟩ fz).setCell ⟨g,16,none⟩ fx) :=
 (((((((((h.setCell (p:=⟨g,8,none⟩) (.inl hg) b8).setCell (p:=⟨g,9,none⟩) (.inl hg) b9).setCell (p:=⟨g,10,none⟩) (.inl hg) cr).setCell (p:=⟨g,11,none⟩) (.inl hg) fC).setCell (p:=⟨g,12,none⟩) (.inl hg) e6).setCell (p:=⟨g,13,none⟩) (.inl hg) fB).setCell (p:=⟨g,14,none⟩) (.inl hg) fA).setCell (p:=⟨g,15,none⟩) (.inl hg) fz).setCell (p:=⟨g,16,none⟩) (.inl hg) fx)
theorem zjE(w:World)(g k:Nat)(b8 b9 cr fC e6 fB fA fz fx:Value)(hk:k≠g):(((((((((w.setCell ⟨g,8,none⟩ b8).setCell ⟨g,9,none⟩ b9).setCell ⟨g,10,none⟩ cr).setCell ⟨g,11,none⟩ fC).setCell ⟨g,12,none⟩ e6).setCell ⟨g,13,none⟩ fB).setCell ⟨g,14,none⟩ fA).setCell ⟨g,15,none⟩ fz).setCell ⟨g,16,none⟩ fx).heap[k]?=w.heap[k]?:=by
 rw[tY _ ⟨g,16,none⟩ _ k hk,tY _ ⟨g,15,none⟩ _ k hk,tY _ ⟨g,14,none⟩ _ k hk,tY _ ⟨g,13,none⟩ _ k hk,tY _ ⟨g,12,none⟩ _ k hk,tY _ ⟨g,11,none⟩ _ k hk,tY _ ⟨g,10,none⟩ _ k hk,tY _ ⟨g,9,none⟩ _ k hk,tY _ ⟨g,8,none⟩ _ k hk]
theorem zil(w:World)(g:Nat)(b8 b9 cr fC e6 fB fA fz fx:Value):(((((((((w.setCell ⟨g,8,none⟩ b8).setCell ⟨g,9,none⟩ b9).setCell ⟨g,10,none⟩ cr).setCell ⟨g,11,none⟩ fC).setCell ⟨g,12,none⟩ e6).setCell ⟨g,13,none⟩ fB).setCell ⟨g,14,none⟩ fA).setCell ⟨g,15,none⟩ fz).setCell ⟨g,16,none⟩ fx).heap.size=w.heap.size:=by simp
theorem zjF {w:World} {g:Nat} {t:TypeId} {a0 a1 a2 a3 a4 a5 a6 a7 a8 a9 eD kK a12 kJ kI kH kG:Value}(b4 b5 b6 b7:Value)(h:Blk w g t #[a0,a1,a2,a3,a4,a5,a6,a7,a8,a9,eD,kK,a12,kJ,kI,kH,kG]):Blk ((((w.setCell ⟨g,4,none⟩ b4).setCell ⟨g,5,none⟩ b5).setCell ⟨g,6,none⟩ b6).setCell ⟨g,7,none⟩ b7) g t #[a0,a1,a2,a3,b4,b5,b6,b7,a8,a9,eD,kK,a12,kJ,kI,kH,kG]:=by
 have s:∀(W:World) (cs:Array Value) (i:Nat) (b:Value),Blk W g t cs->Blk (W.setCell ⟨g,i,none⟩ b) g t (cs.setIfInBounds i b):=λW cs i b h=>uk W g i _ _ b h;have hh:=(s _ _ 7 b7 (s _ _ 6 b6 (s _ _ 5 b5 (s _ _ 4 b4 h))));have e:(((((#[a0,a1,a2,a3,a4,a5,a6,a7,a8,a9,eD,kK,a12,kJ,kI,kH,kG]:Array Value).setIfInBounds 4 b4).setIfInBounds 5 b5).setIfInBounds 6 b6).setIfInBounds 7 b7)=#[a0,a1,a2,a3,b4,b5,b6,b7,a8,a9,eD,kK,a12,kJ,kI,kH,kG]:=by simp
 rw[e]at hh
 exact hh
theorem ChR.so17_4 {bb:Nat} {w w':World} {g:Nat}(h:ChR bb w w')(b4 b5 b6 b7:Value)(hg:w.heap.size<=g):ChR bb w ((((w'.setCell ⟨g,4,none⟩ b4).setCell ⟨g,5,none⟩ b5).setCell ⟨g,6,none⟩ b6).setCell ⟨g,7,none⟩ b7) :=
 ((((h.setCell (p:=⟨g,4,none⟩) (.inl hg) b4).setCell (p:=⟨g,5,none⟩) (.inl hg) b5).setCell (p:=⟨g,6,none⟩) (.inl hg) b6).setCell (p:=⟨g,7,none⟩) (.inl hg) b7)
theorem zjG(w:World)(g k:Nat)(b4 b5 b6 b7:Value)(hk:k≠g):((((w.setCell ⟨g,4,none⟩ b4).setCell ⟨g,5,none⟩ b5).setCell ⟨g,6,none⟩ b6).setCell ⟨g,7,none⟩ b7).heap[k]?=w.heap[k]?:=by
 rw[tY _ ⟨g,7,none⟩ _ k hk,tY _ ⟨g,6,none⟩ _ k hk,tY _ ⟨g,5,none⟩ _ k hk,tY _ ⟨g,4,none⟩ _ k hk]
theorem zim(w:World)(g:Nat)(b4 b5 b6 b7:Value):((((w.setCell ⟨g,4,none⟩ b4).setCell ⟨g,5,none⟩ b5).setCell ⟨g,6,none⟩ b6).setCell ⟨g,7,none⟩ b7).heap.size=w.heap.size:=by simp
theorem zgg {w:World} {g:Nat} {t:TypeId} {a0 a1 a2 a3 a4:Value}(b1 b2 b3 b4:Value)(h:Blk w g t #[a0,a1,a2,a3,a4]):Blk ((((w.setCell ⟨g,1,none⟩ b1).setCell ⟨g,2,none⟩ b2).setCell ⟨g,3,none⟩ b3).setCell ⟨g,4,none⟩ b4) g t #[a0,b1,b2,b3,b4]:=by
 have s:∀(W:World) (cs:Array Value) (i:Nat) (b:Value),Blk W g t cs->Blk (W.setCell ⟨g,i,none⟩ b) g t (cs.setIfInBounds i b):=λW cs i b h=>uk W g i _ _ b h;have hh:=(s _ _ 4 b4 (s _ _ 3 b3 (s _ _ 2 b2 (s _ _ 1 b1 h))));have e:(((((#[a0,a1,a2,a3,a4]:Array Value).setIfInBounds 1 b1).setIfInBounds 2 b2).setIfInBounds 3 b3).setIfInBounds 4 b4)=#[a0,b1,b2,b3,b4]:=by simp
 rw[e]at hh
 exact hh
theorem ChR.so5_1 {bb:Nat} {w w':World} {g:Nat}(h:ChR bb w w')(b1 b2 b3 b4:Value)(hg:w.heap.size<=g):ChR bb w ((((w'.setCell ⟨g,1,none⟩ b1).setCell ⟨g,2,none⟩ b2).setCell ⟨g,3,none⟩ b3).setCell ⟨g,4,none⟩ b4) :=
 ((((h.setCell (p:=⟨g,1,none⟩) (.inl hg) b1).setCell (p:=⟨g,2,none⟩) (.inl hg) b2).setCell (p:=⟨g,3,none⟩) (.inl hg) b3).setCell (p:=⟨g,4,none⟩) (.inl hg) b4)
theorem zgh(w:World)(g k:Nat)(b1 b2 b3 b4:Value)(hk:k≠g):((((w.setCell ⟨g,1,none⟩ b1).setCell ⟨g,2,none⟩ b2).setCell ⟨g,3,none⟩ b3).setCell ⟨g,4,none⟩ b4).heap[k]?=w.heap[k]?:=by
 rw[tY _ ⟨g,4,none⟩ _ k hk,tY _ ⟨g,3,none⟩ _ k hk,tY _ ⟨g,2,none⟩ _ k hk,tY _ ⟨g,1,none⟩ _ k hk]
theorem zfw(w:World)(g:Nat)(b1 b2 b3 b4:Value):((((w.setCell ⟨g,1,none⟩ b1).setCell ⟨g,2,none⟩ b2).setCell ⟨g,3,none⟩ b3).setCell ⟨g,4,none⟩ b4).heap.size=w.heap.size:=by simp
theorem zeo {w:World} {g:Nat} {t:TypeId} {a0 a1 a2 a3 a4 a5 a6 a7 a8:Value}(b3 b4 b5 b6:Value)(h:Blk w g t #[a0,a1,a2,a3,a4,a5,a6,a7,a8]):Blk ((((w.setCell ⟨g,3,none⟩ b3).setCell ⟨g,4,none⟩ b4).setCell ⟨g,5,none⟩ b5).setCell ⟨g,6,none⟩ b6) g t #[a0,a1,a2,b3,b4,b5,b6,a7,a8]:=by
 have s:∀(W:World) (cs:Array Value) (i:Nat) (b:Value),Blk W g t cs->Blk (W.setCell ⟨g,i,none⟩ b) g t (cs.setIfInBounds i b):=λW cs i b h=>uk W g i _ _ b h;have hh:=(s _ _ 6 b6 (s _ _ 5 b5 (s _ _ 4 b4 (s _ _ 3 b3 h))));have e:(((((#[a0,a1,a2,a3,a4,a5,a6,a7,a8]:Array Value).setIfInBounds 3 b3).setIfInBounds 4 b4).setIfInBounds 5 b5).setIfInBounds 6 b6)=#[a0,a1,a2,b3,b4,b5,b6,a7,a8]:=by simp
 rw[e]at hh
 exact hh
theorem ChR.so9_3 {bb:Nat} {w w':World} {g:Nat}(h:ChR bb w w')(b3 b4 b5 b6:Value)(hg:w.heap.size<=g):ChR bb w ((((w'.setCell ⟨g,3,none⟩ b3).setCell ⟨g,4,none⟩ b4).setCell ⟨g,5,none⟩ b5).setCell ⟨g,6,none⟩ b6) :=
 ((((h.setCell (p:=⟨g,3,none⟩) (.inl hg) b3).setCell (p:=⟨g,4,none⟩) (.inl hg) b4).setCell (p:=⟨g,5,none⟩) (.inl hg) b5).setCell (p:=⟨g,6,none⟩) (.inl hg) b6)
theorem zdm(w:World)(g k:Nat)(b3 b4 b5 b6:Value)(hk:k≠g):((((w.setCell ⟨g,3,none⟩ b3).setCell ⟨g,4,none⟩ b4).setCell ⟨g,5,none⟩ b5).setCell ⟨g,6,none⟩ b6).heap[k]?=w.heap[k]?:=by
 rw[tY _ ⟨g,6,none⟩ _ k hk,tY _ ⟨g,5,none⟩ _ k hk,tY _ ⟨g,4,none⟩ _ k hk,tY _ ⟨g,3,none⟩ _ k hk]
theorem zjH(w:World)(g:Nat)(b3 b4 b5 b6:Value):((((w.setCell ⟨g,3,none⟩ b3).setCell ⟨g,4,none⟩ b4).setCell ⟨g,5,none⟩ b5).setCell ⟨g,6,none⟩ b6).heap.size=w.heap.size:=by simp
set_option maxRecDepth 100000
theorem zhP {w:World} {B z:Nat} {e:TypeId} {A:Option Addr} {n c:Nat} {xs:List Value}(h:w.ownsRow B e z (.slice A n c) n xs):n<=c:=by
 rcases h.2 with⟨-,h0⟩|⟨g,cap,cur,h3,-,-,h4,-⟩
 ·omega
 ·injection h3 with e1 e2 e3
  omega
theorem zgl {w:World} {B:Nat} {e:TypeId} {A:Option Addr} {n c:Nat} {names:List (List UInt8)}(h:w.ownsRow B e 1 (.slice A n c) n (strV names)):NmsIn (λg=>B<=g/\g<w.heap.size) w names A:=λhn=>by
 have hc:=λg hg=>h.cells (g:=g) hg;have ah:=h.lt;have hl:=h.1;rcases h.2 with⟨h3,h0⟩|⟨g,cap,cur,h3,_⟩
 ·subst h0
  exfalso
  rw[Nat.zero_mul]at hl
  have:names.length=0:=by simpa[strV] using hl
  exact hn (vw.1 this)
 ·injection h3 with e1 e2 e3
  subst e1;refine⟨g,rfl,ah g rfl,λj u hu=>?_⟩;have dS:(⟨g,0,none⟩:Addr).add j=⟨g,j,none⟩:=by unfold Addr.add;split <;> simp_all
  have:=hc g rfl j u hu;rw[dS]at this
  rw[uJ];exact this
def altZ:Array Value:=#[.string ⟨#[]⟩,.slice none 0 0,.int .i64 0,.string ⟨#[]⟩,.bool false,.int .i64 0,.string ⟨#[]⟩,.int .i64 0,.slice none 0 0,.slice none 0 0,.slice none 0 0]
def altG(f:Nat)(x:Nm)(o:List Nm × List Tok):Option (Al × List Tok):=if isHd o.2 6 [45,62]=true then(rdE f o.2.tail).map λz=>(.mk x o.1 z.1,z.2) else none
theorem zgm(f:Nat)(l:List Tok):rdAlt f l=if(hd l).kind=2 then altG f (hd l).text (vars l.tail) else none:=zhF f l
theorem zfS(f:Nat)(S:Nat->Prop)(b:Nat)(l:List Tok)(w:World)(h:RdrS S w b l)(hS:∀g,S g->g≠b/\g<w.heap.size)(hG:AllG l)(hl:l.length<=100000)(hf:3*l.length<=f)
  (IH:GReads pcE shE S b 42 3 rdE f):Calls Tryz.prog 138 #[.pointer (some ⟨b,0,none⟩)] w (GPost pcA shA S b w (rdAlt f l)):=by
 have aC:=h.lt;have hV:=zcy S b l 2 2 rfl (w.alloc (.cells altZ 170)) (h.alloc _ (λg hg=>(hS g hg).2)) (λg hg=>⟨(hS g hg).1,by have:=(hS g hg).2;simp;omega⟩) hl (by decide);unfold altZ at hV;obtain⟨M,hM⟩:∃M,rdAlt f l=M:=⟨_,rfl⟩;rw[hM]
 rw[zgm]at hM
 obtain⟨q,hq⟩:∃q,((hd l).kind==2)=q:=⟨_,rfl⟩;rw[hq]at hV
 obtain⟨X,hX⟩:∃X,anyT l 2=X:=⟨_,rfl⟩;obtain⟨r2,aw⟩:∃x,anyR l 2=x:=⟨_,rfl⟩;rw[hX,aw]at hV
 have HV:=wJ hV;have HS:=wJ hS;clear h hS hV;cases q with
 |false =>
  have hk:¬(hd l).kind=2:=by simpa using hq
  rw[ue hk]at hM
  have HM:=wJ hM;clear hk hq hf IH hG hl hM hX aw;go_enter Tryz.func138,Tryz.ntmps138
  go_wp2_with fail
  refine HV.out.mono ?_;rintro e w1 ⟨rfl,r1,c1⟩;have bj:=c1.size;simp at bj;have aa:Blk w1 w.heap.size 170 altZ:=Blk.chgR (tW _ _) c1 (by unfold only;omega);unfold altZ at aa;obtain⟨⟨g0,g1,g2,g3,g4,g5,g6,g7,g8,g9,g10⟩,⟨z0,z1,z2,z3,z4,z5,z6,z7,z8,z9,eG⟩,ax⟩:=zaO aa;have aE:Hid (Blk (w1.setCell ⟨w.heap.size,0,none⟩ (.string X)) w.heap.size 170 #[.string X,.slice none 0 0,.int .i64 0,.string ⟨#[]⟩,.bool false,.int .i64 0,.string ⟨#[]⟩,.int .i64 0,.slice none 0 0,.slice none 0 0,.slice none 0 0]):=wJ (uk _ _ 0 _ _ _ aa);have HC:=wJ c1.pre;clear aa c1 r1 HV;go_wp2_with fail
  try simp only[Exit.inBlock,Exit.then]
  refine ub (zaa rfl _ _ w.heap.size 170 _ (0,0) _ rfl (zem _ _ _ _ _ _ _ _ _ _ _ aE.out) Tryz.underlying170 rfl (by kernel_rfl)) rfl ?_;exact⟨(HC.out.setCell (.inl (tV _)) _).set11 _ _ _ _ _ _ _ _ _ _ _ (tV _),_,⟨_,_,_,_,_,_,_,_,_,_,_,_,_,_,_,_,_,_,_,rfl⟩,.inl ⟨HM.out.symm,rfl⟩⟩
 |true =>
  have hk:(hd l).kind=2:=by simpa using hq
  have dQ:(hd l).text=X.data.toList:=by rw[<-hX,anyT,ud hk]
  have aD:l.tail=r2:=by rw[<-aw,anyR,ud hk]
  rw[ud hk,dQ,aD]at hM
  obtain⟨l',e1,e2⟩:=zbr (l:=l) (by rw[hk];decide);rw[aD]at e2
  have br:r2.length+1=l.length:=by rw[e1,e2];rfl
  have fw:AllG r2:=by rw[<-aD];exact AllG.tail' hG
  obtain⟨v1,v2,v3⟩:=zbD r2 fw;obtain⟨⟨ns,r3⟩,nF⟩:∃o,vars r2=o:=⟨_,rfl⟩;have hVR:=λ(W:World) (hr:RdrS S W b r2) (hw:w.heap.size<=W.heap.size)=>zd8 S b r2 W hr (λg hg=>⟨(HS.out g hg).1,by have:=(HS.out g hg).2;omega⟩) (by omega);rw[nF]at hM v2 v3 hVR
  have HM:=wJ hM;have kj:=wJ hVR;have bq:=wJ IH;have bw:Hid (AllG r3):=wJ v2;have HL3:Hid (r3.length<=100000/\3*r3.length+3<=f/\ns.length<=100000):=wJ (by have:=v3;simp only at this;omega);clear hk hq IH hG hl hf hX aw dQ aD e1 e2 br fw hM hVR nF v1 v2 v3;go_enter Tryz.func138,Tryz.ntmps138
  go_wp2_with fail
  refine HV.out.mono ?_;rintro e w1 ⟨rfl,r1,c1⟩;have bj:=c1.size;simp at bj;have aa:Blk w1 w.heap.size 170 altZ:=Blk.chgR (tW _ _) c1 (by unfold only;omega);unfold altZ at aa;obtain⟨⟨g0,g1,g2,g3,g4,g5,g6,g7,g8,g9,g10⟩,⟨z0,z1,z2,z3,z4,z5,z6,z7,z8,z9,eG⟩,ax⟩:=zaO aa;obtain⟨W1,aL⟩:∃W,w1.setCell ⟨w.heap.size,0,none⟩ (.string X)=W:=⟨_,rfl⟩;have kq:W1.heap.size=w1.heap.size:=by rw[<-aL];simp
  have aJ:Hid (Blk W1 w.heap.size 170 #[.string X,.slice none 0 0,.int .i64 0,.string ⟨#[]⟩,.bool false,.int .i64 0,.string ⟨#[]⟩,.int .i64 0,.slice none 0 0,.slice none 0 0,.slice none 0 0]):=wJ (aL▸uk _ _ 0 _ _ _ aa);have gO:Hid (ChR b w W1):=wJ (aL▸c1.pre.setCell (.inl (tV _)) _);have dA:RdrS S W1 b r2:=aL▸r1.keep (tY _ ⟨w.heap.size,0,none⟩ _ b (by intro e;simp at e;omega)) (λg hg=>tY _ ⟨w.heap.size,0,none⟩ _ g (by intro e;simp at e;have:=(HS.out g hg).2;omega));have HP:=wJ (kj.out W1 dA (by omega));clear aa c1 r1 HV kj dA;go_upto_region 4 with fail
  try rw[aL]
  clear aL g0 g1 g2 g3 g4 g5 g6 g7 g8 g9 g10 z0 z1 z2 z3 z4 z5 z6 z7 z8 z9 eG;go_wp2_with fail
  refine HP.out.mono ?_;rintro e w2 ⟨V,c,rfl,ae,aw,c2⟩;have bo:=c2.size;try simp only at ae
  obtain⟨n,hn⟩:∃n,ns.length=n:=⟨_,rfl⟩;rw[hn]at ae
  have HN:=wJ hn;have qd:Hid (ns.length<=c):=wJ (by rw[hn];exact zhP ae);have aA:=aJ.out.chgR c2 (by unfold only;omega);obtain⟨⟨g0,g1,g2,g3,g4,g5,g6,g7,g8,g9,g10⟩,⟨z0,z1,z2,z3,z4,z5,z6,z7,z8,z9,eG⟩,lD⟩:=zaO aA;obtain⟨W2,bL⟩:∃W,w2.setCell ⟨w.heap.size,1,none⟩ (.slice V n c)=W:=⟨_,rfl⟩;have iI:W2.heap.size=w2.heap.size:=by rw[<-bL];simp
  have ar:Hid (Blk W2 w.heap.size 170 #[.string X,.slice V n c,.int .i64 0,.string ⟨#[]⟩,.bool false,.int .i64 0,.string ⟨#[]⟩,.int .i64 0,.slice none 0 0,.slice none 0 0,.slice none 0 0]):=wJ (bL▸uk _ _ 1 _ _ _ aA);have cH:Hid (ChR b w W2):=wJ (bL▸(gO.out.trans c2).setCell (.inl (tV _)) _);have lf:RdrS S W2 b r3:=bL▸aw.keep (tY _ ⟨w.heap.size,1,none⟩ _ b (by intro e;simp at e;omega)) (λg hg=>tY _ ⟨w.heap.size,1,none⟩ _ g (by intro e;simp at e;have:=(HS.out g hg).2;omega));have e7:Hid (NmsIn (λg=>w.heap.size<g/\g<w2.heap.size) W2 ns V):=wJ ((zgl ae).keep (λg hg=>⟨by omega,hg.2⟩) (λg hg=>bL▸tY _ ⟨w.heap.size,1,none⟩ _ g (by intro e;simp at e;omega)));have fp:=zaE S b r3 ⟨#[45,62]⟩ W2 lf (λg hg=>⟨(HS.out g hg).1,by have:=(HS.out g hg).2;omega⟩) HL3.out.1;rw[show(⟨#[45,62]⟩:ByteArray).data.toList=[45,62] from rfl,took]at fp
  obtain⟨q2,cf⟩:∃q,isHd r3 6 [45,62]=q:=⟨_,rfl⟩;rw[cf]at fp
  have gw:=wJ fp;have dM:=wJ cf;clear aA c2 aw lf ae hn fp cf HP aJ gO;go_upto_region 5 with fail
  rw[HN.out]
  try rw[bL]
  clear bL g0 g1 g2 g3 g4 g5 g6 g7 g8 g9 g10 z0 z1 z2 z3 z4 z5 z6 z7 z8 z9 eG;go_wp2_with fail
  refine gw.out.mono ?_;rintro e w3 ⟨rfl,aD,c3⟩;have eA:=c3.size;have eS:=ar.out.chgR c3 (by unfold only;omega);have bU:=wJ eS;have dF:=wJ (cH.out.trans c3);have e7:=wJ (e7.out.keep (λg hg=>hg) (λg hg=>c3.block g (by omega) (by unfold only;omega)));obtain⟨⟨g0,g1,g2,g3,g4,g5,g6,g7,g8,g9,g10⟩,⟨z0,z1,z2,z3,z4,z5,z6,z7,z8,z9,eG⟩,fL⟩:=zaO eS;clear eS c3 gw;cases q2 with
  |false =>
   have bN:Hid (M=none):=wJ (by rw[<-HM.out,altG,dM.out,ue (by decide)]);clear aD;go_wp2_with fail
   try simp only[Exit.inBlock,Exit.then]
   refine ub (zaa rfl _ _ w.heap.size 170 _ (0,0) _ rfl (zem _ _ _ _ _ _ _ _ _ _ _ bU.out) Tryz.underlying170 rfl (by kernel_rfl)) rfl ?_;exact⟨dF.out.set11 _ _ _ _ _ _ _ _ _ _ _ (tV _),_,⟨_,_,_,_,_,_,_,_,_,_,_,_,_,_,_,_,_,_,_,rfl⟩,.inl ⟨bN.out,rfl⟩⟩
  |true =>
   rw[ud rfl]at aD
   obtain⟨t0,r0,e0,-,-⟩:=zaB r3 6 [45,62] (by decide) dM.out;have hE:=bq.out w3 r3.tail aD (λg hg=>⟨(HS.out g hg).1,by have:=(HS.out g hg).2;omega⟩) (AllG.tail' bw.out) (by have:=HL3.out.1;rw[e0]at this ⊢;simp at this ⊢;omega) (by have:=HL3.out.2.1;rw[e0]at this ⊢;simp at this ⊢;omega);have bN:Hid (M=(rdE f r3.tail).map λz=>(Al.mk X.data.toList ns z.1,z.2)):=wJ (by rw[<-HM.out,altG,dM.out,ud rfl]);obtain⟨O,hO⟩:∃O,rdE f r3.tail=O:=⟨_,rfl⟩;rw[hO]at hE bN
   have HE:=wJ hE;clear aD e0 hE hO g0 g1 g2 g3 g4 g5 g6 g7 g8 g9 g10 z0 z1 z2 z3 z4 z5 z6 z7 z8 z9 eG;go_wp2_with fail
   refine HE.out.mono ?_;rintro e w4 ⟨c4,cs,bA,au⟩;obtain⟨ck,cx,ct,cK,cX,cZ,cB,cm,cq,aU,aR,aS,aT,aP,aQ,rfl⟩:=bA;have kp:=c4.size;have fW:=bU.out.chgR c4 (by unfold only;omega);obtain⟨⟨g0,g1,g2,g3,g4,g5,g6,g7,g8,g9,g10⟩,⟨z0,z1,z2,z3,z4,z5,z6,z7,z8,z9,eG⟩,rT⟩:=zaO fW;obtain⟨W4,gI⟩:∃W,(((((((((w4.setCell ⟨w.heap.size,2,none⟩ (.int .i64 ck)).setCell ⟨w.heap.size,3,none⟩ (.string cx)).setCell ⟨w.heap.size,4,none⟩ (.bool ct)).setCell ⟨w.heap.size,5,none⟩ (.int .i64 cK)).setCell ⟨w.heap.size,6,none⟩ (.string cX)).setCell ⟨w.heap.size,7,none⟩ (.int .i64 cZ)).setCell ⟨w.heap.size,8,none⟩ (.slice cB cm cq)).setCell ⟨w.heap.size,9,none⟩ (.slice aU aR aS)).setCell ⟨w.heap.size,10,none⟩ (.slice aT aP aQ))=W:=⟨_,rfl⟩;have bu:∀k,k≠w.heap.size->W4.heap[k]?=w4.heap[k]?:=λk hk=>gI▸zfv w4 w.heap.size k _ _ _ _ _ _ _ _ _ hk;have hsz4:W4.heap.size=w4.heap.size:=gI▸zeP w4 w.heap.size _ _ _ _ _ _ _ _ _;have sP:Blk W4 w.heap.size 170 #[.string X,.slice V n c,.int .i64 ck,.string cx,.bool ct,.int .i64 cK,.string cX,.int .i64 cZ,.slice cB cm cq,.slice aU aR aS,.slice aT aP aQ]:=gI▸zfu _ _ _ _ _ _ _ _ _ fW;have hC4:ChR b w W4:=gI▸(dF.out.trans c4).so11_2 _ _ _ _ _ _ _ _ _ (tV _);have bZ:=wJ sP;have o9:=wJ hC4;have e7:=wJ (e7.out.keep (λg hg=>hg) (λg hg=>(bu g (by omega)).trans (c4.block g (by omega) (by unfold only;omega))));have cL:=wJ bu;clear fW c4 HE bu sP hC4;have hU:∃ok,e=.returned (.tuple #[.agg #[.int .i64 ck,.string cx,.bool ct,.int .i64 cK,.string cX,.int .i64 cZ,.slice cB cm cq,.slice aU aR aS,.slice aT aP aQ],.bool ok])/\((ok=false/\M=none)\/(ok=true/\∃y r,M=some (.mk X.data.toList ns y,r) /\
     pcE.Cs (λg=>w3.heap.size<=g/\g<w4.heap.size) w4 y [.int .i64 ck,.string cx,.bool ct,.int .i64 cK,.string cX,.int .i64 cZ,.slice cB cm cq,.slice aU aR aS,.slice aT aP aQ]/\RdrS S w4 b r)):=by
    rcases au with⟨ho,he⟩|⟨y,r,ho,he,hx,hr⟩
    ·exact⟨false,he,.inl ⟨rfl,by rw[bN.out,ho];rfl⟩⟩
    ·exact⟨true,he,.inr ⟨rfl,y,r,by rw[bN.out,ho];rfl,hx,hr⟩⟩
   obtain⟨ok,rfl,hU⟩:=hU;have HU:=wJ hU;clear hU au;go_upto_region 8 with fail
   try rw[gI]
   clear gI g0 g1 g2 g3 g4 g5 g6 g7 g8 g9 g10 z0 z1 z2 z3 z4 z5 z6 z7 z8 z9 eG;obtain⟨⟨g0,g1,g2,g3,g4,g5,g6,g7,g8,g9,g10⟩,⟨z0,z1,z2,z3,z4,z5,z6,z7,z8,z9,eG⟩,hlw5⟩:=zaO bZ.out;go_wp2_with fail
   try simp only[Exit.inBlock,Exit.then]
   refine ub (zaa rfl _ _ w.heap.size 170 _ (0,0) _ rfl (zem _ _ _ _ _ _ _ _ _ _ _ bZ.out) Tryz.underlying170 rfl (by kernel_rfl)) rfl ?_;refine⟨o9.out.set11 _ _ _ _ _ _ _ _ _ _ _ (tV _),[.string X,.slice V n c,.int .i64 ck,.string cx,.bool ct,.int .i64 cK,.string cX,.int .i64 cZ,.slice cB cm cq,.slice aU aR aS,.slice aT aP aQ],⟨_,_,_,_,_,_,_,_,_,_,_,_,_,_,_,_,_,_,_,rfl⟩,?_⟩;rcases HU.out with⟨rfl,hM⟩|⟨rfl,y,r,hM,hx,hr⟩
   ·exact .inl ⟨hM,rfl⟩
   ·refine .inr ⟨_,r,hM,rfl,?_,hr.keep ((zdl _ _ _ _ _ _ _ _ _ _ _ _ _ _ (by omega)).trans (cL.out _ (by omega))) (λk hk=>(zdl _ _ _ _ _ _ _ _ _ _ _ _ _ _ (by have:=(HS.out k hk).2;omega)).trans (cL.out _ (by have:=(HS.out k hk).2;omega)))⟩
    obtain⟨P,hP,h2,h3⟩:=pcE.keep (S':=λg=>w.heap.size<g/\g<w4.heap.size) (λg hg=>⟨by omega,hg.2⟩) (λ_ _=>rfl) hx;have hk:∀g,(w.heap.size<g/\g<w4.heap.size)->_:=λg hg=>(zdl W4 w.heap.size g (.string X) (.slice V n c) (.int .i64 ck) (.string cx) (.bool ct) (.int .i64 cK) (.string cX) (.int .i64 cZ) (.slice cB cm cq) (.slice aU aR aS) (.slice aT aP aQ) (by omega)).trans (cL.out g (by omega));refine⟨V,⟨c,qd.out⟩,P,by show _=[Sx.strV _,.slice V ns.length c]++exC _ P;rw[<-hP,HN.out];simp[Sx.strV],(e7.out.keep (λg hg=>⟨by omega,by rw[zdT];omega⟩) (λg hg=>zdl _ _ _ _ _ _ _ _ _ _ _ _ _ _ (by omega))),h2.keep (λg hg=>⟨by omega,by rw[zdT];omega⟩) hk,ExIn.keep (λg hg=>⟨by omega,by rw[zdT];omega⟩) hk y _ _ h3⟩
set_option maxRecDepth 100000
theorem zoQ(S:Nat->Prop)(b bx:Nat)(l:List Tok)(w:World)(h:RdrS S w b l)(az:w.cell? ⟨bx,0,none⟩=some (.pointer (some ⟨b,0,none⟩)))(hS:∀g,S g->g≠b/\g<w.heap.size)(hl:l.length<=100000):Calls Tryz.prog 189 #[.pointer (some ⟨bx,0,none⟩)] w λe w'=>e=.returned (.bool (semB l))/\RdrS S w' b (if semB l=true then l.tail else l)/\ChR b w w':=by
 have HT:=wJ (zaE S b l ⟨#[59]⟩ w h hS hl);rw[show(⟨#[59]⟩:ByteArray).data.toList=[59] from rfl,took]at HT
 unfold semB;obtain⟨q,hq⟩:∃q,isHd l 6 [59]=q:=⟨_,rfl⟩;rw[hq]at HT ⊢
 obtain⟨L2,fS⟩:∃x,(if q=true then l.tail else l)=x:=⟨_,rfl⟩;rw[fS]at HT ⊢
 have aC:=zaj az;have hb:=h.lt;clear h hS hl hq fS;go_enter Tryz.func189,Tryz.ntmps189
 go_wp2_with fail
 refine HT.out.mono ?_;rintro e w1 ⟨rfl,r1,b1⟩;have R1:=wJ r1;have B1:=wJ b1;clear r1 b1 HT;go_wp2_with fail
 go_ret
 exact⟨rfl,R1.out,B1.out⟩
theorem zpX:(Tryz.prog.info? 170).map (λi=>(i.zero,i.size,i.bytes))=some (some (.agg #[.string ⟨#[]⟩,.slice none 0 0,.int .i64 0,.string ⟨#[]⟩,.bool false,.int .i64 0,.string ⟨#[]⟩,.int .i64 0,.slice none 0 0,.slice none 0 0,.slice none 0 0]),11,176):=by kernel_rfl
theorem zjP(f:Nat)(S:Nat->Prop)(b:Nat)(l:List Tok)(w0 w:World)(x0:Al)(g0 bx:Nat)(az:w0.cell? ⟨bx,0,none⟩=some (.pointer (some ⟨b,0,none⟩)))(dY:bx≠b)(h0:BuiltG pcA w0.heap.size 170 w [x0] (.slice (some ⟨g0,0,none⟩) 1 1))(h:RdrS S w b l)(hS:∀g,S g->g≠b/\g<w0.heap.size)(hb:b<w0.heap.size)(eL:ChR b w0 w)(hG:AllG l)(hl:l.length<=100000)(hf:3*l.length+1<=f)
  (IH:∀f1,f1<=f->GReads pcA shA S b 138 0 rdAlt f1)(aq:∀(f1:Nat)(l:List Tok)(x:Al)(r:List Tok),AllG l->rdAlt f1 l=some (x,r)->AllG r/\r.length<l.length):Calls Tryz.prog 188 #[.slice (some ⟨g0,0,none⟩) 1 1,.func (.func 189) #[] #[.pointer (some ⟨bx,0,none⟩)],.func (.func 138) #[.pointer (some ⟨b,0,none⟩)] #[]] w
   (LPost pcA S b w0 ((zaC semB List.tail rdAlt f l).map λy=>([x0]++y.1,y.2))):=by
 obtain⟨i0,bJ,bO,bz,bE⟩:=vz zpX;have aC:=zaj az;have aZ:∀wr,ChR b w0 wr->wr.cell? ⟨bx,0,none⟩=some (.pointer (some ⟨b,0,none⟩)):=λwr h=>(uV (a:=⟨bx,0,none⟩) (h.block bx aC (by unfold only;omega))).trans az;have cT:=wJ aZ;obtain⟨L,hL⟩:∃L,l.length=L:=⟨_,rfl⟩;have HL:=wJ hL;have HS:=wJ hS;have bq:=wJ IH;have bD:=wJ aq;have HH:Hid (zdk pcA semB List.tail rdAlt S b w0.heap.size 1 f 170 [x0] l w0 L (.slice (some ⟨g0,0,none⟩) 1 1) w):=wJ ⟨l,f,[],some ⟨g0,0,none⟩,1,hL.symm,rfl,hG,by simp,hf,tV _,wJ h,wJ (by simp),wJ (by rw[uW];exact h0),wJ eL⟩;rw[hL]at hl hf
 clear h hS hL IH aq eL h0 az aZ;go_enter Tryz.func188,Tryz.ntmps188
 go_wp2_with fail
 go_loopg [0] L (λgg v wr=>zdk pcA semB List.tail rdAlt S b w0.heap.size 1 f 170 [x0] l w0 gg v wr)
 case atStart=>exact HH.out
 case round =>
  obtain⟨r,f',done,A,c,rfl,rfl,iz,hle,iS,pD,hr,hv,jF,hc⟩:=hrel;rw[HL.out]at hle
  have aG:=hc.out.size;obtain⟨f1,rfl⟩:∃f1,f'=f1+1:=⟨f'-1,by omega⟩;obtain⟨n,hn⟩:∃n,([x0]++done).length=n:=⟨_,rfl⟩;have ib:n<=1+done.length:=by rw[<-hn];simp <;> omega
  rw[hn]at jF ⊢
  have HN:=wJ hn;obtain⟨rn,ep⟩:∃n,r.length=n:=⟨_,rfl⟩;have ir:=wJ ep;rw[ep]at hle iS
  have hA:=wJ (zoQ S b bx r wr hr.out (cT.out wr hc.out) (λg hg=>⟨(HS.out g hg).1,by have:=(HS.out g hg).2;omega⟩) (by rw[ep];omega));have kQ:=wJ iz;clear hn ep HH iz;obtain⟨q,hq⟩:∃q,semB r=q:=⟨_,rfl⟩;rw[hq]at hA
  have HQ:=wJ hq;clear hq;go_wp2_with fail
  refine hA.out.mono ?_;rintro e w2 ⟨rfl,aw,c2⟩;have bo:=c2.size;have cH:=wJ (hc.out.trans c2);have gP:=wJ (jF.out.chgR c2 hb);clear c2 hA jF;cases q with
  |false =>
   rw[ue (by decide)]at aw
   have dD:=wJ aw;have HV:=wJ (hv.out.trans (uC (Option.map λy:List Al × List Tok=>(done++y.1,y.2)) (zaZ f1 r HQ.out)));clear aw hv;go_wp2_with fail
   go_ret2
   refine⟨cH.out,A,n,c,.inr ⟨[x0]++done,r,by rw[HV.out];simp,rfl,HN.out.symm,gP.out.lst.2,dD.out⟩⟩
  |true =>
   rw[ud rfl]at aw
   obtain⟨bH,eY,lK⟩:=zep r kQ.out HQ.out;rw[ir.out]at eY lK
   have HP:=wJ (bq.out f1 (by omega) w2 _ aw (λg hg=>⟨(HS.out g hg).1,by have:=(HS.out g hg).2;omega⟩) bH (by omega) (by omega));obtain⟨O,hO⟩:∃O,rdAlt f1 (List.tail r)=O:=⟨_,rfl⟩;have HO:=wJ hO;have dC:=wJ bH;rw[hO]at HP
   clear aw bH hO;go_wp2_with fail
   refine HP.out.mono ?_;rintro e w3 ⟨c3,cs,bA,au⟩;obtain⟨s,V,vm,vq,ek,ex,et,tk,tx,tz,tA,tm,tq,KA,kn,kc,LA,ln,lc,rfl⟩:=bA;have eA:=c3.size;rcases au with⟨ho,rfl⟩|⟨px,r2,ho,rfl,hx,aD⟩
   ·have HV:=wJ (hv.out.trans (uC (Option.map λy:List Al × List Tok=>(done++y.1,y.2)) (zbj f1 r HQ.out (HO.out.trans ho))))
    have dF:=wJ (cH.out.trans c3);clear hv ho c3 HP;go_wp2_with fail
    go_ret2
    exact⟨dF.out.alloc _,none,0,0,.inl ⟨by rw[HV.out];rfl,rfl⟩⟩
   ·have HV:=wJ (hv.out.trans (uC (Option.map λy:List Al × List Tok=>(done++y.1,y.2)) (za6 f1 r HQ.out px r2 (HO.out.trans ho))))
    have eP:=bD.out f1 _ px r2 dC.out (HO.out.trans ho);have je:=eP.2;have bw:=wJ eP.1;have HX:=wJ hx;have gz:=wJ aD;have C3:=wJ c3;obtain⟨vs,ae,ao⟩:=gP.out;rw[HN.out]at ae
    have aM:=wJ ae;have av:=wJ ao;have aj:=zc1 ae c3 hb;have bY:=aj.lt;have dN:=wJ ((aj.alloc (.cells #[.string s,.slice V vm vq,.int .i64 ek,.string ex,.bool et,.int .i64 tk,.string tx,.int .i64 tz,.slice tA tm tq,.slice KA kn kc,.slice LA ln lc] 170)).alloc (.cells #[.string s,.slice V vm vq,.int .i64 ek,.string ex,.bool et,.int .i64 tk,.string tx,.int .i64 tz,.slice tA tm tq,.slice KA kn kc,.slice LA ln lc] 170));clear hv ho c3 HP eP hx aD ae ao aj gP;go_wp2_with (at_builtin;refine uP _ rfl (.tmp 25) (.tmp 27) 37 rfl w0.heap.size 170 i0 _ 11 176 Tryz.underlying37 bJ bO bz bE rfl (by decide) _ n vs rfl dN.out ⟨w3.heap.size+1,0,none⟩ 1 1 [.string s,.slice V vm vq,.int .i64 ek,.string ex,.bool et,.int .i64 tk,.string tx,.int .i64 tz,.slice tA tm tq,.slice KA kn kc,.slice LA ln lc] rfl rfl (zao _ _ _ _ (by simp)) (by intro u hu;simp at hu;rcases hu with rfl|rfl|rfl|rfl|rfl|rfl|rfl|rfl|rfl|rfl|rfl <;> rfl) (by unfold maxLen;omega) (by omega) (by simp;omega) ?_;intro v2 w5 aI ab _ cv;obtain⟨A2,c2,rfl⟩:=zat aI;have eU:=wJ aI;have cQ:=wJ ab;have fZ:=wJ cv;clear aI ab cv)
    have ee:=cQ.out.size;simp at ee;have jB:∀k,k<w0.heap.size->w5.heap[k]?=w3.heap[k]?:=λk hk=>(cQ.out.block k (by simp;omega) (λe=>by have:=bY _ e.symm;omega)).trans ((uc _ _ _ (by simp;omega)).trans (uc _ _ _ (by omega)));go_roundg r2.length
    case measure=>rw[ir.out];omega
    case rel =>
     refine⟨r2,f1,done++[px],A2,c2,rfl,?_,bw.out,?_,by omega,by omega,wJ (gz.out.keep (jB b hb) (λg hg=>jB g (HS.out g hg).2)),wJ ?_,wJ ?_,wJ ((((cH.out.trans C3.out).alloc _).alloc _).grown cQ.out (λj hj=>.inl (by have:=bY _ hj;omega)))⟩
     ·rw[<-uy,uf,HN.out];rfl
     ·rw[uf,HL.out];simp;omega
     ·rw[HV.out];simp[Function.comp_def]
     ·rw[<-uy,show([x0]++done++[px]).length=n+1 by rw[uf,HN.out];rfl]
      exact BuiltG.next (w:=w2) (w1:=w3) hb (by omega) (by rw[HN.out];exact aM.out) av.out C3.out HX.out (((ua _ w3).alloc (tV _) _).alloc (by simp) _) (by rw[HN.out];exact eU.out) cQ.out fZ.out
set_option maxRecDepth 100000
theorem zgJ(f:Nat)(S:Nat->Prop)(b:Nat)(l:List Tok)(w:World)(h:RdrS S w b l)(hS:∀g,S g->g≠b/\g<w.heap.size)(hG:AllG l)(hl:l.length<=100000)(hf:3*l.length<=f)
  (IH:∀f1,f1<=f->GReads pcA shA S b 138 0 rdAlt f1)(aq:∀(f1:Nat)(l:List Tok)(x:Al)(r:List Tok),AllG l->rdAlt f1 l=some (x,r)->AllG r/\r.length<l.length):Calls Tryz.prog 169 #[.pointer (some ⟨b,0,none⟩),.func (.func 138) #[.pointer (some ⟨b,0,none⟩)] #[]] w (LPost pcA S b w (sepM rdAlt f l)):=by
 have aC:=h.lt;obtain⟨w0,dH⟩:∃x,w.alloc (.cells #[.pointer (some ⟨b,0,none⟩)] 144)=x:=⟨_,rfl⟩;have z0:w0.heap.size=w.heap.size+1:=by rw[<-dH];simp
 have aK:w0.cell? ⟨w.heap.size,0,none⟩=some (.pointer (some ⟨b,0,none⟩)):=by
  have hB:Blk w0 w.heap.size 144 #[.pointer (some ⟨b,0,none⟩)]:=dH▸tW w _;exact hB.cell 0
 have c0:ChR b w w0:=dH▸(ChR.refl b w).alloc _;have h0:RdrS S w0 b l:=dH▸h.alloc _ (λg hg=>(hS g hg).2);have lR:∀g,S g->g≠b/\g<w0.heap.size:=λg hg=>⟨(hS g hg).1,by have:=(hS g hg).2;omega⟩;have fg:=wJ c0;have bT:=wJ aK;have HP:=wJ (IH f (tV _) w0 l h0 lR hG hl (by omega));obtain⟨O,hO⟩:∃O,rdAlt f l=O:=⟨_,rfl⟩;rw[hO]at HP
 have HO:=wJ hO;obtain⟨M,hM⟩:∃M,sepM rdAlt f l=M:=⟨_,rfl⟩;rw[hM]
 have HM:=wJ hM;clear hM;have HS:=wJ lR;have bq:=wJ IH;have bD:=wJ aq;have HG:=wJ hG;clear h h0 hO hS lR IH aq hG c0;go_enter Tryz.func169,Tryz.ntmps169
 go_wp2_with fail
 try rw[dH]
 refine HP.out.mono ?_;clear dH aK;rintro e w2 ⟨c2,cs,bA,au⟩;obtain⟨s,V,vm,vq,ek,ex,et,tk,tx,tz,tA,tm,tq,KA,kn,kc,LA,ln,lc,rfl⟩:=bA;have bo:=c2.size;clear HP;rcases au with⟨ho,rfl⟩|⟨px,r2,ho,rfl,hx,aw⟩
 ·have cj:Hid (M=none):=wJ (by rw[<-HM.out,sepM,HO.out,ho])
  have C2:=wJ c2;clear ho c2;go_wp2_with fail
  go_ret2
  exact LPost.pre fg.out ⟨C2.out.alloc _,none,0,0,.inl ⟨cj.out,rfl⟩⟩
 ·subst ho
  have bH:=bD.out f l px r2 HG.out HO.out;have je:=bH.2;have HQ:=wJ (zjP f S b r2 w0 ((w2.alloc (.cells #[.string s,.slice V vm vq,.int .i64 ek,.string ex,.bool et,.int .i64 tk,.string tx,.int .i64 tz,.slice tA tm tq,.slice KA kn kc,.slice LA ln lc] 170)).alloc (.cells #[.string s,.slice V vm vq,.int .i64 ek,.string ex,.bool et,.int .i64 tk,.string tx,.int .i64 tz,.slice tA tm tq,.slice KA kn kc,.slice LA ln lc] 170)) px (w2.heap.size+1) w.heap.size bT.out (by omega) (BuiltG.one (S:=λg=>w0.heap.size<=g/\g<w2.heap.size) hx (λg hg=>hg) bo _)
   ((aw.alloc _ (λg hg=>by have:=(HS.out g hg).2;omega)).alloc _ (λg hg=>by have:=(HS.out g hg).2;simp;omega)) HS.out (by omega) ((c2.alloc _).alloc _) bH.1 (by omega) (by omega) bq.out bD.out)
  clear bH je hx aw c2;obtain⟨O2,eg⟩:∃O2,zaC semB List.tail rdAlt f r2=O2:=⟨_,rfl⟩;have cj:Hid (M=O2.map λz=>(px::z.1,z.2)):=wJ (by rw[<-HM.out,sepM,HO.out,<-eg]);rw[eg]at HQ
  clear eg;go_wp2_with fail
  refine HQ.out.mono ?_;rintro e w3 ⟨c3,A,m,c,au⟩;have C3:=wJ c3;clear c3 HQ;rcases au with⟨ho,rfl⟩|⟨xs,r3,ho,rfl,hm,hx,aD⟩
  ·have HO:=wJ (cj.out.trans ho)
   clear ho;go_wp2_with fail
   go_ret2
   exact LPost.pre fg.out ⟨C3.out,A,m,c,.inl ⟨HO.out,rfl⟩⟩
  ·have HO:=wJ (cj.out.trans ho)
   have HM:=wJ hm;have HX:=wJ hx;have HR:=wJ aD;clear ho hm hx aD;go_wp2_with fail
   go_ret2
   exact LPost.pre fg.out ⟨C3.out,A,m,c,.inr ⟨xs,r3,HO.out,rfl,HM.out,HX.out,HR.out⟩⟩
set_option maxRecDepth 100000
theorem zhN(f:Nat)(S:Nat->Prop)(b:Nat)(l:List Tok)(w:World)(h:RdrS S w b l)(hS:∀g,S g->g≠b/\g<w.heap.size)(hG:AllG l)(hl:l.length<=100000)(hf:3*l.length<=f+3)
  (IH:∀f1,f1<=f->GReads pcA shA S b 138 0 rdAlt f1)(aq:∀(f1:Nat)(l:List Tok)(x:Al)(r:List Tok),AllG l->rdAlt f1 l=some (x,r)->AllG r/\r.length<l.length)
  (hle:∀(l:List Tok)(x:List Al)(r:List Tok),AllG l->sepM rdAlt f l=some (x,r)->r.length<=l.length):Calls Tryz.prog 137 #[.pointer (some ⟨b,0,none⟩),.func (.func 138) #[.pointer (some ⟨b,0,none⟩)] #[]] w (LPost pcA S b w (brF rdAlt f l)):=by
 have aC:=h.lt;have H1:=zaE S b l ⟨#[123]⟩ w h hS hl;rw[show(⟨#[123]⟩:ByteArray).data.toList=[123] from rfl,took]at H1
 obtain⟨M,hM⟩:∃M,brF rdAlt f l=M:=⟨_,rfl⟩;rw[hM]
 have iH:=wJ hM;have HS:=wJ hS;have bq:=wJ IH;have bD:=wJ aq;have nR:=wJ hle;have HG:=wJ hG;have HL:Hid (l.length<=100000/\3*l.length<=f+3):=wJ ⟨hl,hf⟩;obtain⟨q,hq⟩:∃q,isHd l 6 [123]=q:=⟨_,rfl⟩;rw[hq]at H1
 have HQ:=wJ hq;have H1:=wJ H1;clear h hS IH aq hG hl hf hq hle hM;go_enter Tryz.func137,Tryz.ntmps137
 go_wp2_with fail
 refine H1.out.mono ?_;rintro e w2 ⟨rfl,aw,c2⟩;have bo:=c2.size;cases q with
 |false =>
  have HM:Hid (M=none):=wJ (by rw[<-iH.out,zc0,HQ.out,ue (by decide)]);have C2:=wJ c2;clear c2 aw H1;go_wp2_with fail
  go_ret2
  exact⟨C2.out,none,0,0,.inl ⟨HM.out,rfl⟩⟩
 |true =>
  rw[ud rfl]at aw
  obtain⟨t0,l1,e1,-,-⟩:=zaB l 6 [123] (by decide) HQ.out;have dE:AllG l.tail:=AllG.tail' HG.out;have ft:l.tail.length+1=l.length:=by rw[e1];rfl
  obtain⟨r1,cF⟩:∃r1,l.tail=r1:=⟨_,rfl⟩;have iH:Hid (M=brG rdAlt f r1):=wJ (by rw[<-iH.out,zc0,HQ.out,ud rfl,cF]);rw[cF]at aw dE ft
  have hL:=HL.out;rw[<-ft]at hL
  have H2:=zaE S b r1 ⟨#[125]⟩ w2 aw (λg hg=>⟨(HS.out g hg).1,by have:=(HS.out g hg).2;omega⟩) (by omega);rw[show(⟨#[125]⟩:ByteArray).data.toList=[125] from rfl,took]at H2
  obtain⟨q2,cf⟩:∃q,isHd r1 6 [125]=q:=⟨_,rfl⟩;rw[cf]at H2
  have dM:=wJ cf;have H2:=wJ H2;have C2:=wJ c2;have mi:=wJ dE;clear e1 cF aw cf c2 HL HG HQ ft H1 dE;go_wp2_with fail
  refine H2.out.mono ?_;rintro e w3 ⟨rfl,aD,c3⟩;have eA:=c3.size;have C3:=wJ (C2.out.trans c3);clear c3 H2;cases q2 with
  |true =>
   rw[ud rfl]at aD
   have HM:Hid (M=some ([],r1.tail)):=wJ (by rw[iH.out,brG,dM.out,ud rfl]);have gz:=wJ aD;clear aD;go_wp2_with fail
   go_ret2
   exact⟨C3.out,none,0,0,.inr ⟨[],r1.tail,HM.out,rfl,rfl,(λh=>absurd rfl h),gz.out⟩⟩
  |false =>
   rw[ue (by decide)]at aD
   have H3:=wJ (zgJ f S b r1 w3 aD (λg hg=>⟨(HS.out g hg).1,by have:=(HS.out g hg).2;omega⟩) mi.out (by omega) (by omega) bq.out bD.out);obtain⟨O,hO⟩:∃O,sepM rdAlt f r1=O:=⟨_,rfl⟩;rw[hO]at H3
   have HO:=wJ hO;clear aD hO;go_wp2_with fail
   refine H3.out.mono ?_;rintro e w4 ⟨c4,A,m,c,au⟩;have kp:=c4.size;have C4:=wJ (C3.out.trans c4);have C4':=wJ c4;clear c4 H3;rcases au with⟨ho,rfl⟩|⟨xs,r3,ho,rfl,hm,hx,iM⟩
   ·have HM:Hid (M=none):=wJ (by rw[iH.out,brG,dM.out,ue (by decide),HO.out,ho])
    clear ho;go_wp2_with fail
    go_ret2
    exact⟨C4.out,A,m,c,.inl ⟨HM.out,rfl⟩⟩
   ·subst ho
    have cS:Hid (M=if isHd r3 6 [125]=true then some (xs,r3.tail) else none):=wJ (by rw[iH.out,brG,dM.out,ue (by decide),HO.out]);have hle:=nR.out r1 xs r3 mi.out HO.out;have H4:=zaE S b r3 ⟨#[125]⟩ w4 iM (λg hg=>⟨(HS.out g hg).1,by have:=(HS.out g hg).2;omega⟩) (by omega);rw[show(⟨#[125]⟩:ByteArray).data.toList=[125] from rfl,took]at H4
    obtain⟨q4,jy⟩:∃q,isHd r3 6 [125]=q:=⟨_,rfl⟩;rw[jy]at H4
    have jO:=wJ jy;have H4:=wJ H4;have HM:=wJ hm;have HX:=wJ hx;clear hm hx iM jy hle HO;go_wp2_with fail
    refine H4.out.mono ?_;rintro e w5 ⟨rfl,iK,c5⟩;have ee:=c5.size;have C5:=wJ (C4.out.trans c5);have C5':=wJ c5;clear c5 H4;cases q4 with
    |false =>
     have lq:Hid (M=none):=wJ (by rw[cS.out,jO.out,ue (by decide)]);clear iK;go_wp2_with fail
     go_ret2
     exact⟨C5.out,A,m,c,.inl ⟨lq.out,rfl⟩⟩
    |true =>
     rw[ud rfl]at iK
     have qN:=wJ iK;have lq:Hid (M=some (xs,r3.tail)):=wJ (by rw[cS.out,jO.out,ud rfl]);clear iK;go_wp2_with fail
     go_ret2
     exact⟨C5.out,A,m,c,.inr ⟨xs,r3.tail,lq.out,rfl,HM.out,HX.out.keep (λg hg=>⟨by omega,by omega⟩) (λg hg=>C5'.out.block g hg.2 (by unfold only;omega)),qN.out⟩⟩
set_option maxRecDepth 100000
theorem zgn(f1:Nat)(l:List Tok)(x:Al)(r:List Tok)(hG:AllG l)(h:rdAlt f1 l=some (x,r)):AllG r/\r.length<l.length:=by
 rw[zgm]at h
 by_cases hk:(hd l).kind=2
 ·rw[ud hk,altG]at h
  obtain⟨l',e1,e2⟩:=zbr (l:=l) (by rw[hk];decide);have fw:AllG l.tail:=AllG.tail' hG;have br:l.tail.length+1=l.length:=by rw[e1];rfl
  obtain⟨v1,v2,v3⟩:=zbD l.tail fw;by_cases h1:isHd (vars l.tail).2 6 [45,62]=true
  ·rw[ud h1]at h
   obtain⟨t0,r0,e0,-,-⟩:=zaB _ 6 [45,62] (by decide) h1;cases ho:rdE f1 (vars l.tail).2.tail with
   |none=>rw[ho]at h;cases h
   |some y =>
    obtain⟨e,r1⟩:=y;rw[ho]at h
    simp only[uq,um,uw]at h;obtain⟨rfl,rfl⟩:=h;obtain⟨g1,l1⟩:=zbZ f1 _ e r1 (AllG.tail' v2) ho;rw[e0]at l1 v3
    simp at l1 v3;exact⟨g1,by omega⟩
  ·rw[ue h1]at h;cases h
 ·rw[ue hk]at h;cases h
def choG(f:Nat)(y:Ex)(r:List Tok):Option (Ex × List Tok):=if isHd r 3 wOf=true then(brF rdAlt f r.tail).map λz=>(.cs y z.1,z.2) else none
theorem zoU(f:Nat)(l:List Tok):choF f l=match rdE (f+1) l with|none=>none|some y=>choG f y.1 y.2:=rfl
theorem zly(f:Nat)(S:Nat->Prop)(b:Nat)(l:List Tok)(w:World)(h:RdrS S w b l)(hS:∀g,S g->g≠b/\g<w.heap.size)(hG:AllG l)(hl:l.length<=100000)(hf:3*l.length+3<=f+1)
  (IH:GReads pcE shE S b 42 3 rdE (f+1))(oP:∀f1,f1<=f->GReads pcA shA S b 138 0 rdAlt f1):Calls Tryz.prog 97 #[.pointer (some ⟨b,0,none⟩)] w (GPost pcE shE S b w (choF f l)):=by
 have aC:=h.lt;have hE:=IH (w.alloc (.cells #[.int .i64 6,.string ⟨#[]⟩,.bool false,.int .i64 0,.string ⟨#[]⟩,.int .i64 0,.slice none 0 0,.slice none 0 0,.slice none 0 0] 39)) l (h.alloc _ (λg hg=>(hS g hg).2)) (λg hg=>⟨(hS g hg).1,by have:=(hS g hg).2;simp;omega⟩) hG hl hf;obtain⟨O,hO⟩:∃O,rdE (f+1) l=O:=⟨_,rfl⟩;rw[hO]at hE
 obtain⟨M,hM⟩:∃M,choF f l=M:=⟨_,rfl⟩;rw[hM]
 rw[zoU,hO]at hM
 have HE:=wJ hE;have fE:=wJ hM;have HO:=wJ hO;have HS:=wJ hS;have HG:=wJ hG;have HIA:=wJ oP;clear h hS hE hM hO hG IH oP;go_enter Tryz.func97,Tryz.ntmps97
 go_wp2_with fail
 refine HE.out.mono ?_;rintro e w2 ⟨c2,cs,bA,au⟩;obtain⟨ck,cx,ct,cK,cX,cZ,cB,cm,cq,aU,aR,aS,aT,aP,aQ,rfl⟩:=bA;have bo:=c2.size;simp at bo;have aa:Blk w2 w.heap.size 39 #[.int .i64 6,.string ⟨#[]⟩,.bool false,.int .i64 0,.string ⟨#[]⟩,.int .i64 0,.slice none 0 0,.slice none 0 0,.slice none 0 0]:=Blk.chgR (tW _ _) c2 (by unfold only;omega);have ax:=aa.lt;obtain⟨W,hW⟩:∃W,w2.alloc (.cells #[.int .i64 ck,.string cx,.bool ct,.int .i64 cK,.string cX,.int .i64 cZ,.slice cB cm cq,.slice aU aR aS,.slice aT aP aQ] 39)=W:=⟨_,rfl⟩;have aX:Below w2.heap.size w2 W:=hW▸(ua _ w2).alloc (tV _) _;have hsW:W.heap.size=w2.heap.size+1:=by rw[<-hW];simp
 have bZ:Hid (Blk W w2.heap.size 39 #[.int .i64 ck,.string cx,.bool ct,.int .i64 cK,.string cX,.int .i64 cZ,.slice cB cm cq,.slice aU aR aS,.slice aT aP aQ]):=wJ (hW▸tW _ _);have ar:=wJ (show Blk W w.heap.size 39 #[.int .i64 6,.string ⟨#[]⟩,.bool false,.int .i64 0,.string ⟨#[]⟩,.int .i64 0,.slice none 0 0,.slice none 0 0,.slice none 0 0] from(aX.block _ ax).trans aa);have iu:=wJ (c2.pre.below aX);have eF:=wJ aX;clear aa c2 HE aX;rcases au with⟨ho,rfl⟩|⟨y,r2,ho,rfl,aq,bV⟩
 ·subst ho
  go_upto_region 3 with fail
  try rw[hW]
  clear hW;obtain⟨⟨g0,g1,g2,g3,g4,g5,g6,g7,g8⟩,⟨z0,z1,z2,z3,z4,z5,z6,z7,z8⟩,eY⟩:=zab ar.out;go_wp2_with fail
  try simp only[Exit.inBlock,Exit.then]
  refine ub (zaa rfl _ _ w.heap.size 39 _ (0,0) _ rfl (zah _ _ _ _ _ _ _ _ _ ar.out) Tryz.underlying39 rfl (by kernel_rfl)) rfl ?_;exact⟨iu.out.set9 _ _ _ _ _ _ _ _ _ (tV _),_,⟨_,_,_,_,_,_,_,_,_,_,_,_,_,_,_,rfl⟩,.inl ⟨fE.out.symm,rfl⟩⟩
 ·subst ho
  have bH:=zbZ (f+1) l y r2 HG.out HO.out;have ja:Hid (M=choG f y r2):=wJ fE.out.symm;have oJ:=bV.below eF.out (λg hg=>by have:=(HS.out g hg).2;omega);have HX:=wJ (pcE.keep (S':=λg=>w.heap.size<g/\g<w2.heap.size) (λg hg=>⟨by have:=hg.1;simp at this;omega,hg.2⟩) (λg hg=>eF.out.block g hg.2) aq);have fp:=zcs S b r2 ⟨#[111,102]⟩ W oJ (λg hg=>⟨(HS.out g hg).1,by have:=(HS.out g hg).2;omega⟩) (by have:=bH.2;omega);obtain⟨q2,cf⟩:∃q,isHd r2 3 wOf=q:=⟨_,rfl⟩;rw[show(⟨#[111,102]⟩:ByteArray).data.toList=wOf from rfl,took,cf]at fp
  have gw:=wJ fp;have dC:=wJ bH;have dM:=wJ cf;clear fp aq bV cf bH oJ;go_upto_region 3 with fail
  try rw[hW]
  clear hW;go_wp2_with fail
  refine gw.out.mono ?_;rintro e w3 ⟨rfl,aD,c3⟩;have eA:=c3.size;have HX:=wJ (pcE.keep (S':=λg=>w.heap.size<g/\g<w2.heap.size) (λg hg=>hg) (λg hg=>c3.block g (by omega) (by unfold only;omega)) HX.out);have bZ:=wJ (bZ.out.chgR c3 (by unfold only;omega));have ar:=wJ (ar.out.chgR c3 (by unfold only;omega));have iu:=wJ (iu.out.trans c3);clear c3 gw eF;obtain⟨⟨g0,g1,g2,g3,g4,g5,g6,g7,g8⟩,⟨z0,z1,z2,z3,z4,z5,z6,z7,z8⟩,eY⟩:=zab ar.out;cases q2 with
  |false =>
   have bN:Hid (M=none):=wJ (by rw[ja.out,choG,dM.out,ue (by decide)]);clear aD;go_wp2_with fail
   try simp only[Exit.inBlock,Exit.then]
   refine ub (zaa rfl _ _ w.heap.size 39 _ (0,0) _ rfl (zah _ _ _ _ _ _ _ _ _ ar.out) Tryz.underlying39 rfl (by kernel_rfl)) rfl ?_;exact⟨iu.out.set9 _ _ _ _ _ _ _ _ _ (tV _),_,⟨_,_,_,_,_,_,_,_,_,_,_,_,_,_,_,rfl⟩,.inl ⟨bN.out,rfl⟩⟩
  |true =>
   rw[ud rfl]at aD
   obtain⟨t0,r0,e0,-,-⟩:=zaB r2 3 wOf (by decide) dM.out;obtain⟨⟨f0,f1,f2,f3,f4,f5,f6,f7,f8⟩,-,nu⟩:=zab bZ.out;obtain⟨W5,cW⟩:∃V,(w3.setCell ⟨w.heap.size,7,none⟩ (.slice (some ⟨w3.heap.size,0,none⟩) 1 1)).alloc (.cells #[.int .i64 ck,.string cx,.bool ct,.int .i64 cK,.string cX,.int .i64 cZ,.slice cB cm cq,.slice aU aR aS,.slice aT aP aQ] 39)=V:=⟨_,rfl⟩;have hsV:W5.heap.size=w3.heap.size+1:=by rw[<-cW];simp
   have bu:∀k,k<w3.heap.size->k≠w.heap.size->W5.heap[k]?=w3.heap[k]?:=λk h1 h2=>by
    rw[<-cW,uc _ _ _ (by simp;exact h1)]
    exact tY _ ⟨w.heap.size,7,none⟩ _ k h2
   have gk:Hid (Blk W5 w.heap.size 39 #[.int .i64 6,.string ⟨#[]⟩,.bool false,.int .i64 0,.string ⟨#[]⟩,.int .i64 0,.slice none 0 0,.slice (some ⟨w3.heap.size,0,none⟩) 1 1,.slice none 0 0]):=wJ (by
    rw[<-cW]
    exact Blk.alloc (uk _ _ 7 _ _ _ ar.out) _)
   have pZ:Hid (Blk W5 w3.heap.size 39 #[.int .i64 ck,.string cx,.bool ct,.int .i64 cK,.string cX,.int .i64 cZ,.slice cB cm cq,.slice aU aR aS,.slice aT aP aQ]):=wJ (by
    rw[<-cW]
    have:=tW (w3.setCell ⟨w.heap.size,7,none⟩ (.slice (some ⟨w3.heap.size,0,none⟩) 1 1)) (.cells #[.int .i64 ck,.string cx,.bool ct,.int .i64 cK,.string cX,.int .i64 cZ,.slice cB cm cq,.slice aU aR aS,.slice aT aP aQ] 39);rwa [show(w3.setCell ⟨w.heap.size,7,none⟩ (.slice (some ⟨w3.heap.size,0,none⟩) 1 1)).heap.size=w3.heap.size by simp]at this)
   have HC5:Hid (ChR b w W5):=wJ (cW▸(iu.out.setCell (.inl (tV _)) _).alloc _);have lh:=wJ (pcE.keep (S':=λg=>w.heap.size<g/\g<w2.heap.size) (λg hg=>hg) (λg hg=>bu g (by omega) (by omega)) HX.out);have hR5:RdrS S W5 b r2.tail:=aD.keep (bu b (by omega) (by omega)) (λg hg=>bu g (by have:=(HS.out g hg).2;omega) (by have:=(HS.out g hg).2;omega));have hP:=zhN f S b r2.tail W5 hR5 (λg hg=>⟨(HS.out g hg).1,by have:=(HS.out g hg).2;omega⟩) (AllG.tail' dC.out.1) (by have:=dC.out.2;rw[e0]at this ⊢;simp at this ⊢;omega) (by have:=dC.out.2;rw[e0]at this ⊢;simp at this ⊢;omega) HIA.out zgn (λl x r hG h=>Nat.le_of_lt (zfP zgn f l x r hG h).2);have bN:Hid (M=(brF rdAlt f r2.tail).map λz=>(Ex.cs y z.1,z.2)):=wJ (by rw[ja.out,choG,dM.out,ud rfl]);obtain⟨O2,eg⟩:∃O2,brF rdAlt f r2.tail=O2:=⟨_,rfl⟩;rw[eg]at hP bN
   have HP:=wJ hP;have nt:b<W5.heap.size:=by omega
   clear aD bu hR5 hP eg e0 HX;go_upto_region 6 with fail
   try rw[cW]
   clear cW f0 f1 f2 f3 f4 f5 f6 f7 f8 g0 g1 g2 g3 g4 g5 g6 g7 g8 z0 z1 z2 z3 z4 z5 z6 z7 z8;go_wp2_with fail
   refine HP.out.mono ?_;rintro e w6 ⟨c6,A,m,c,au⟩;have pj:=c6.size;have mF:=gk.out.chgR c6 (by unfold only;omega);obtain⟨⟨g0,g1,g2,g3,g4,g5,g6,g7,g8⟩,⟨z0,z1,z2,z3,z4,z5,z6,z7,z8⟩,hl6⟩:=zab mF;have HB6:Hid (Blk (w6.setCell ⟨w.heap.size,8,none⟩ (.slice A m c)) w.heap.size 39 #[.int .i64 6,.string ⟨#[]⟩,.bool false,.int .i64 0,.string ⟨#[]⟩,.int .i64 0,.slice none 0 0,.slice (some ⟨w3.heap.size,0,none⟩) 1 1,.slice A m c]):=wJ (uk _ _ 8 _ _ _ mF);have kS:=wJ ((HC5.out.trans c6).setCell (p:=⟨w.heap.size,8,none⟩) (.inl (tV _)) (.slice A m c));have HX6:=wJ (pcE.keep (S':=λg=>w.heap.size<g/\g<w2.heap.size) (λg hg=>hg) (λg hg=>c6.block g (by omega) (by unfold only;omega)) lh.out);have HN6:=wJ (pZ.out.chgR c6 (by unfold only;omega));have hU:∃ok,e=.returned (.tuple #[.slice A m c,.bool ok])/\((ok=false/\M=none)\/(ok=true/\∃xs r,M=some (.cs y xs,r)/\m=xs.length/\LstG pcA (λg=>W5.heap.size<=g/\g<w6.heap.size) w6 xs A/\RdrS S w6 b r)):=by
    rcases au with⟨ho,he⟩|⟨xs,r,ho,he,hm,hx,hr⟩
    ·exact⟨false,he,.inl ⟨rfl,by rw[bN.out,ho];rfl⟩⟩
    ·exact⟨true,he,.inr ⟨rfl,xs,r,by rw[bN.out,ho];rfl,hm,hx,hr⟩⟩
   obtain⟨ok,rfl,hU⟩:=hU;have HU:=wJ hU;clear hU au HP c6 mF;go_wp2_with fail
   try simp only[Exit.inBlock,Exit.then]
   refine ub (zaa rfl _ _ w.heap.size 39 _ (0,0) _ rfl (zah _ _ _ _ _ _ _ _ _ HB6.out) Tryz.underlying39 rfl (by kernel_rfl)) rfl ?_;refine⟨kS.out.set9 _ _ _ _ _ _ _ _ _ (tV _),[.int .i64 6,.string ⟨#[]⟩,.bool false,.int .i64 0,.string ⟨#[]⟩,.int .i64 0,.slice none 0 0,.slice (some ⟨w3.heap.size,0,none⟩) 1 1,.slice A m c],⟨_,_,_,_,_,_,_,_,_,_,_,_,_,_,_,rfl⟩,?_⟩;rcases HU.out with⟨rfl,hM⟩|⟨rfl,xs,r,hM,hm,hx,hr⟩
   ·exact .inl ⟨hM,rfl⟩
   ·have hk:∀k,k≠w.heap.size->(((((((((((w6.setCell ⟨w.heap.size,8,none⟩ (.slice A m c)).setCell ⟨w.heap.size,0,none⟩ (.int .i64 6)).setCell ⟨w.heap.size,1,none⟩ (.string ⟨#[]⟩)).setCell ⟨w.heap.size,2,none⟩ (.bool false)).setCell ⟨w.heap.size,3,none⟩ (.int .i64 0)).setCell ⟨w.heap.size,4,none⟩ (.string ⟨#[]⟩)).setCell ⟨w.heap.size,5,none⟩ (.int .i64 0)).setCell ⟨w.heap.size,6,none⟩ (.slice none 0 0)).setCell ⟨w.heap.size,7,none⟩ (.slice (some ⟨w3.heap.size,0,none⟩) 1 1)).setCell ⟨w.heap.size,8,none⟩ (.slice A m c))).heap[k]?=w6.heap[k]?:=λk h=>(zaf _ _ _ _ _ _ _ _ _ _ _ _ h).trans (tY _ ⟨w.heap.size,8,none⟩ _ k h)
    refine .inr ⟨_,r,hM,rfl,?_,hr.keep (hk b (by omega)) (λk hkk=>hk k (by have:=(HS.out k hkk).2;omega))⟩;refine⟨⟨none,0,some ⟨w3.heap.size,0,none⟩,0,A,c⟩,by rw[hm];simp[exC,kdE,nmE,toE,tyE,tyC,zac,zad,Sx.strV],trivial,?_⟩;rw[ExIn]
    refine⟨⟨_,rfl,⟨by omega,by simp;omega⟩,zcf HX6.out (λk h=>⟨by omega,by simp;omega⟩) (λk h=>hk k (by omega)) ((hk _ (by omega)).trans HN6.out)⟩,λbf=>?_⟩;obtain⟨g,h1,h2,h3⟩:=hx bf;exact⟨g,h1,⟨by omega,by simp;omega⟩,(zhG xs g 0).1 (AtG.keep (λg hg=>⟨by omega,by simp;omega⟩) (λg hg=>hk g (by omega)) xs g 0 (hk g (by omega)) h3)⟩
end Go.Proofs.YtknkclefoiohpaaGreatDoor
namespace Go.Proofs.YtknkclefoiohpaaGreatDoor
open Go.RowKit Lx Tx Sx
set_option maxRecDepth 100000
def letJ(f:Nat)(x:Nm)(t:Option Ty):Option (Ex × List Tok)->Option (Ex × List Tok)
 |none=>none
 |some y=>if isHd y.2 3 wIn=true then(rdE f y.2.tail).map λz=>(.lt x t y.1 z.1,z.2) else none
theorem zdD(f:Nat)(x:Nm)(t:Option Ty)(r:List Tok):letG f x t r=if isHd r 6 [61]=true then letJ f x t (rdE f r.tail) else none:=by
 rw[letG]
 by_cases h:isHd r 6 [61]=true
 ·simp only[ud h]
  cases rdE f r.tail <;> rfl
 ·simp only[ue h]
def letT(f:Nat)(x:Nm):Option (Ty × List Tok)->Option (Ex × List Tok)
 |none=>none
 |some y=>letG f x (some y.1) y.2
def letN(f:Nat)(x:Nm)(r:List Tok):Option (Ex × List Tok):=if isHd r 6 [58]=true then letT f x (typ r.tail) else letG f x none r
theorem zi5(f:Nat)(l:List Tok):letF f l=if(hd l).kind=1 then letN f (hd l).text l.tail else none:=by
 rw[letF]
 by_cases h:(hd l).kind=1
 ·simp only[ud h,letN]
  by_cases h1:isHd l.tail 6 [58]=true
  ·simp only[ud h1]
   cases typ l.tail.tail <;> rfl
  ·simp only[ue h1]
 ·simp only[ue h]
def TyL(S:Nat->Prop)(w:World)(o:Option Ty)(vs:List Value):Prop:=∃TA ta,tyC o TA ta=vs/\TyA S w o TA
theorem TyL.keep {S S':Nat->Prop} {w w':World} {o:Option Ty} {vs:List Value}(h:TyL S w o vs)(hS:∀g,S g->S' g)(hk:∀g,S g->w'.heap[g]?=w.heap[g]?):TyL S' w' o vs:=by
 obtain⟨TA,ta,h1,h2⟩:=h;exact⟨TA,ta,h1,h2.keep hS hk⟩
theorem zpD(f:Nat)(S:Nat->Prop)(b:Nat)(l:List Tok)(w:World)(h:RdrS S w b l)(hS:∀g,S g->g≠b/\g<w.heap.size)(hG:AllG l)(hl:l.length<=100000)(hf:3*l.length<=f)
  (IH:GReads pcE shE S b 42 3 rdE f):Calls Tryz.prog 96 #[.pointer (some ⟨b,0,none⟩)] w (GPost pcE shE S b w (letF f l)):=by
 have aC:=h.lt;have hV:=zcl S b l (w.alloc (.cells #[.int .i64 5,.string ⟨#[]⟩,.bool false,.int .i64 0,.string ⟨#[]⟩,.int .i64 0,.slice none 0 0,.slice none 0 0,.slice none 0 0] 39)) (h.alloc _ (λg hg=>(hS g hg).2)) (λg hg=>⟨(hS g hg).1,by have:=(hS g hg).2;simp;omega⟩) hl;obtain⟨M,hM⟩:∃M,letF f l=M:=⟨_,rfl⟩;rw[hM]
 rw[zi5]at hM
 obtain⟨q,hq⟩:∃q,((hd l).kind==1)=q:=⟨_,rfl⟩;rw[hq]at hV
 obtain⟨X,hX⟩:∃X,anyT l 1=X:=⟨_,rfl⟩;obtain⟨r2,aw⟩:∃x,anyR l 1=x:=⟨_,rfl⟩;rw[hX,aw]at hV
 have HV:=wJ hV;have HS:=wJ hS;have bq:=wJ IH;have ja:Hid (q=false/\M=none\/q=true/\M=letN f X.data.toList r2/\AllG r2/\r2.length<=100000/\3*r2.length+3<=f):=wJ (by
  cases q with
  |false =>
   have hk:¬(hd l).kind=1:=by simpa using hq
   rw[ue hk]at hM
   exact .inl ⟨rfl,hM.symm⟩
  |true =>
   have hk:(hd l).kind=1:=by simpa using hq
   have dQ:(hd l).text=X.data.toList:=by rw[<-hX,anyT,ud hk]
   have aD:l.tail=r2:=by rw[<-aw,anyR,ud hk]
   rw[ud hk,dQ,aD]at hM
   obtain⟨l',e1,e2⟩:=zbr (l:=l) (by rw[hk];decide);rw[aD]at e2
   have br:r2.length+1=l.length:=by rw[e1,e2];rfl
   exact .inr ⟨rfl,hM.symm,by rw[<-aD];exact AllG.tail' hG,by omega,by omega⟩)
 clear h hS hV hM hq hf IH hG hl hX aw;go_enter Tryz.func96,Tryz.ntmps96
 go_wp2_with fail
 refine HV.out.mono ?_;rintro e w1 ⟨rfl,r1,c1⟩;have bj:=c1.size;simp at bj;have aa:Blk w1 w.heap.size 39 #[.int .i64 5,.string ⟨#[]⟩,.bool false,.int .i64 0,.string ⟨#[]⟩,.int .i64 0,.slice none 0 0,.slice none 0 0,.slice none 0 0]:=Blk.chgR (tW _ _) c1 (by unfold only;omega);obtain⟨⟨g0,g1,g2,g3,g4,g5,g6,g7,g8⟩,⟨z0,z1,z2,z3,z4,z5,z6,z7,z8⟩,bB⟩:=zab aa;obtain⟨W1,aL⟩:∃W,w1.setCell ⟨w.heap.size,1,none⟩ (.string X)=W:=⟨_,rfl⟩;have kq:W1.heap.size=w1.heap.size:=by rw[<-aL];simp
 have aJ:Hid (Blk W1 w.heap.size 39 #[.int .i64 5,.string X,.bool false,.int .i64 0,.string ⟨#[]⟩,.int .i64 0,.slice none 0 0,.slice none 0 0,.slice none 0 0]):=wJ (aL▸uk _ _ 1 _ _ _ aa);have gO:Hid (ChR b w W1):=wJ (aL▸c1.pre.setCell (.inl (tV _)) _);have oK:RdrS S W1 b r2:=aL▸r1.keep (tY _ ⟨w.heap.size,1,none⟩ _ b (by intro e;simp at e;omega)) (λg hg=>tY _ ⟨w.heap.size,1,none⟩ _ g (by intro e;simp at e;have:=(HS.out g hg).2;omega));have dA:=wJ oK;clear aa c1 r1 HV oK;go_upto_region 3 with fail
 try rw[aL]
 clear aL g0 g1 g2 g3 g4 g5 g6 g7 g8 z0 z1 z2 z3 z4 z5 z6 z7 z8;obtain⟨⟨g0,g1,g2,g3,g4,g5,g6,g7,g8⟩,⟨z0,z1,z2,z3,z4,z5,z6,z7,z8⟩,bB⟩:=zab aJ.out;rcases ja.out with⟨rfl,hM⟩|⟨rfl,hM,fw,fS,sI⟩
 ·have HM:=wJ hM
  clear hM;go_wp2_with fail
  try simp only[Exit.inBlock,Exit.then]
  refine ub (zaa rfl _ _ w.heap.size 39 _ (0,0) _ rfl (zah _ _ _ _ _ _ _ _ _ aJ.out) Tryz.underlying39 rfl (by kernel_rfl)) rfl ?_;exact⟨gO.out.set9 _ _ _ _ _ _ _ _ _ (tV _),_,⟨_,_,_,_,_,_,_,_,_,_,_,_,_,_,_,rfl⟩,.inl ⟨HM.out,rfl⟩⟩
 ·have fE:=wJ hM
  have dC:=wJ fw;have qQ:Hid (r2.length<=100000/\3*r2.length+3<=f):=wJ ⟨fS,sI⟩;have h2:=zaE S b r2 ⟨#[58]⟩ W1 dA.out (λg hg=>⟨(HS.out g hg).1,by have:=(HS.out g hg).2;omega⟩) fS;rw[show(⟨#[58]⟩:ByteArray).data.toList=[58] from rfl,took]at h2
  obtain⟨q2,cf⟩:∃q,isHd r2 6 [58]=q:=⟨_,rfl⟩;rw[cf]at h2
  have H2:=wJ h2;have dM:=wJ cf;clear h2 cf hM fw fS sI dA g0 g1 g2 g3 g4 g5 g6 g7 g8 z0 z1 z2 z3 z4 z5 z6 z7 z8;go_wp2_with fail
  refine H2.out.mono ?_;rintro e w2 ⟨rfl,aw,c2⟩;have bo:=c2.size;have aa:=aJ.out.chgR c2 (by unfold only;omega);obtain⟨⟨g0,g1,g2,g3,g4,g5,g6,g7,g8⟩,⟨z0,z1,z2,z3,z4,z5,z6,z7,z8⟩,bB⟩:=zab aa;obtain⟨W2,bL⟩:∃W,w2.setCell ⟨w.heap.size,2,none⟩ (.bool q2)=W:=⟨_,rfl⟩;have iI:W2.heap.size=w2.heap.size:=by rw[<-bL];simp
  have aE:Hid (Blk W2 w.heap.size 39 #[.int .i64 5,.string X,.bool q2,.int .i64 0,.string ⟨#[]⟩,.int .i64 0,.slice none 0 0,.slice none 0 0,.slice none 0 0]):=wJ (bL▸uk _ _ 2 _ _ _ aa);have ff:Hid (ChR b w W2):=wJ (bL▸(gO.out.trans c2).setCell (.inl (tV _)) _);have lf:RdrS S W2 b (if q2=true then r2.tail else r2):=bL▸aw.keep (tY _ ⟨w.heap.size,2,none⟩ _ b (by intro e;simp at e;omega)) (λg hg=>tY _ ⟨w.heap.size,2,none⟩ _ g (by intro e;simp at e;have:=(HS.out g hg).2;omega));clear aa c2 aw H2 aJ gO;go_upto_region 6 with fail
  try rw[bL]
  clear bL g0 g1 g2 g3 g4 g5 g6 g7 g8 z0 z1 z2 z3 z4 z5 z6 z7 z8;obtain⟨⟨g0,g1,g2,g3,g4,g5,g6,g7,g8⟩,⟨z0,z1,z2,z3,z4,z5,z6,z7,z8⟩,bB⟩:=zab aE.out;cases q2 with
  |false =>
   rw[ue (by decide)]at lf
   have HR:=wJ lf;have HM:Hid (M=letG f X.data.toList none r2):=wJ (by rw[fE.out,letN,dM.out,ue (by decide)]);have ej:Hid (TyL (λg=>w.heap.size<g/\g<W2.heap.size) W2 none [.int .i64 0,.string ⟨#[]⟩,.int .i64 0,.slice none 0 0]):=wJ ⟨none,0,rfl,trivial⟩;have jb:=dC;have HL:=qQ;clear lf;go_upto_region 10 with fail
   clear g0 g1 g2 g3 g4 g5 g6 g7 g8 z0 z1 z2 z3 z4 z5 z6 z7 z8;have gu:=zaE S b r2 ⟨#[61]⟩ W2 HR.out (λg hg=>⟨(HS.out g hg).1,by have:=(HS.out g hg).2;omega⟩) (by have:=HL.out.1;omega);rw[show(⟨#[61]⟩:ByteArray).data.toList=[61] from rfl,took]at gu
   obtain⟨q3,gE⟩:∃q,isHd r2 6 [61]=q:=⟨_,rfl⟩;rw[gE]at gu
   have tT:=wJ gu;have km:=wJ gE;clear gu gE;go_wp2_with fail
   refine tT.out.mono ?_;rintro e w4 ⟨rfl,iM,c4⟩;have kp:=c4.size;have aE:=wJ (aE.out.chgR c4 (by unfold only;omega));have ff:=wJ (ff.out.trans c4);have ej:=wJ (ej.out.keep (S':=λg=>w.heap.size<g/\g<W2.heap.size) (λg hg=>hg) (λg hg=>c4.block g hg.2 (by unfold only;omega)));obtain⟨⟨g0,g1,g2,g3,g4,g5,g6,g7,g8⟩,⟨z0,z1,z2,z3,z4,z5,z6,z7,z8⟩,bB⟩:=zab aE.out;clear c4 tT;cases q3 with
   |false =>
    have bN:Hid (M=none):=wJ (by rw[HM.out,zdD,km.out,ue (by decide)]);clear iM;go_wp2_with fail
    try simp only[Exit.inBlock,Exit.then]
    refine ub (zaa rfl _ _ w.heap.size 39 _ (0,0) _ rfl (zah _ _ _ _ _ _ _ _ _ aE.out) Tryz.underlying39 rfl (by kernel_rfl)) rfl ?_;exact⟨ff.out.set9 _ _ _ _ _ _ _ _ _ (tV _),_,⟨_,_,_,_,_,_,_,_,_,_,_,_,_,_,_,rfl⟩,.inl ⟨bN.out,rfl⟩⟩
   |true =>
    rw[ud rfl]at iM
    obtain⟨t0,r0,e0,-,-⟩:=zaB r2 6 [61] (by decide) km.out;have dE:AllG r2.tail:=AllG.tail' jb.out;have jI:r2.tail.length<=100000/\3*r2.tail.length+3<=f:=by have:=HL.out;rw[e0]at this ⊢;simp at this ⊢;omega
    have hE:=bq.out w4 r2.tail iM (λg hg=>⟨(HS.out g hg).1,by have:=(HS.out g hg).2;omega⟩) dE jI.1 jI.2;obtain⟨O,hO⟩:∃O,rdE f r2.tail=O:=⟨_,rfl⟩;have bN:Hid (M=letJ f X.data.toList (none) O):=wJ (by rw[HM.out,zdD,km.out,ud rfl,hO]);rw[hO]at hE
    have HE:=wJ hE;have HO:=wJ hO;have mi:=wJ dE;have mW:=wJ jI;clear iM e0 hE hO dE jI g0 g1 g2 g3 g4 g5 g6 g7 g8 z0 z1 z2 z3 z4 z5 z6 z7 z8;go_wp2_with fail
    refine HE.out.mono ?_;rintro e w5 ⟨c5,cs,bA,au⟩;obtain⟨ck,cx,ct,cK,cX,cZ,cB,cm,cq,aU,aR,aS,aT,aP,aQ,rfl⟩:=bA;have ee:=c5.size;have cJ:=aE.out.chgR c5 (by unfold only;omega);obtain⟨W5,cW⟩:∃V,w5.alloc (.cells #[.int .i64 ck,.string cx,.bool ct,.int .i64 cK,.string cX,.int .i64 cZ,.slice cB cm cq,.slice aU aR aS,.slice aT aP aQ] 39)=V:=⟨_,rfl⟩;have aX:Below w5.heap.size w5 W5:=cW▸(ua _ w5).alloc (tV _) _;have rE:W5.heap.size=w5.heap.size+1:=by rw[<-cW];simp
    have bZ:Hid (Blk W5 w5.heap.size 39 #[.int .i64 ck,.string cx,.bool ct,.int .i64 cK,.string cX,.int .i64 cZ,.slice cB cm cq,.slice aU aR aS,.slice aT aP aQ]):=wJ (cW▸tW _ _);have aE:=wJ (show Blk W5 w.heap.size 39 #[.int .i64 5,.string X,.bool false,.int .i64 0,.string ⟨#[]⟩,.int .i64 0,.slice none 0 0,.slice none 0 0,.slice none 0 0] from(aX.block _ cJ.lt).trans cJ);have ff:=wJ ((ff.out.trans c5).below aX);have ej:=wJ (ej.out.keep (S':=λg=>w.heap.size<g/\g<W2.heap.size) (λg hg=>hg) (λg hg=>(aX.block g (by omega)).trans (c5.block g (by omega) (by unfold only;omega))));have eF:=wJ aX;clear cJ c5 HE aX;rcases au with⟨ho,rfl⟩|⟨y,rb,ho,rfl,aq,bV⟩
    ·subst ho
     go_upto_region 13 with fail
     try rw[cW]
     clear cW;obtain⟨⟨g0,g1,g2,g3,g4,g5,g6,g7,g8⟩,⟨z0,z1,z2,z3,z4,z5,z6,z7,z8⟩,bB⟩:=zab aE.out;go_wp2_with fail
     try simp only[Exit.inBlock,Exit.then]
     refine ub (zaa rfl _ _ w.heap.size 39 _ (0,0) _ rfl (zah _ _ _ _ _ _ _ _ _ aE.out) Tryz.underlying39 rfl (by kernel_rfl)) rfl ?_;exact⟨ff.out.set9 _ _ _ _ _ _ _ _ _ (tV _),_,⟨_,_,_,_,_,_,_,_,_,_,_,_,_,_,_,rfl⟩,.inl ⟨bN.out,rfl⟩⟩
    ·subst ho
     have bH:=zbZ f r2.tail y rb mi.out HO.out;have oJ:=bV.below eF.out (λg hg=>by have:=(HS.out g hg).2;omega);have HX:=wJ (pcE.keep (S':=λg=>w.heap.size<g/\g<w5.heap.size) (λg hg=>⟨by omega,hg.2⟩) (λg hg=>eF.out.block g hg.2) aq);have fp:=zcs S b rb ⟨#[105,110]⟩ W5 oJ (λg hg=>⟨(HS.out g hg).1,by have:=(HS.out g hg).2;omega⟩) (by have:=bH.2;have:=mW.out.1;omega);obtain⟨q4,jy⟩:∃q,isHd rb 3 wIn=q:=⟨_,rfl⟩;rw[show(⟨#[105,110]⟩:ByteArray).data.toList=wIn from rfl,took,jy]at fp
     have gw:=wJ fp;have dC:=wJ bH;have jO:=wJ jy;clear fp aq bV jy bH oJ;go_upto_region 13 with fail
     try rw[cW]
     clear cW;go_wp2_with fail
     refine gw.out.mono ?_;rintro e w6 ⟨rfl,nh,c6⟩;have pj:=c6.size;have HX:=wJ (pcE.keep (S':=λg=>w.heap.size<g/\g<w5.heap.size) (λg hg=>hg) (λg hg=>c6.block g (by omega) (by unfold only;omega)) HX.out);have bZ:=wJ (bZ.out.chgR c6 (by unfold only;omega));have aE:=wJ (aE.out.chgR c6 (by unfold only;omega));have ff:=wJ (ff.out.trans c6);have ej:=wJ (ej.out.keep (S':=λg=>w.heap.size<g/\g<W2.heap.size) (λg hg=>hg) (λg hg=>c6.block g (by omega) (by unfold only;omega)));obtain⟨⟨g0,g1,g2,g3,g4,g5,g6,g7,g8⟩,⟨z0,z1,z2,z3,z4,z5,z6,z7,z8⟩,bB⟩:=zab aE.out;clear c6 gw eF;cases q4 with
     |false =>
      have cS:Hid (M=none):=wJ (by rw[bN.out,letJ,jO.out,ue (by decide)]);clear nh;go_wp2_with fail
      try simp only[Exit.inBlock,Exit.then]
      refine ub (zaa rfl _ _ w.heap.size 39 _ (0,0) _ rfl (zah _ _ _ _ _ _ _ _ _ aE.out) Tryz.underlying39 rfl (by kernel_rfl)) rfl ?_;exact⟨ff.out.set9 _ _ _ _ _ _ _ _ _ (tV _),_,⟨_,_,_,_,_,_,_,_,_,_,_,_,_,_,_,rfl⟩,.inl ⟨cS.out,rfl⟩⟩
     |true =>
      rw[ud rfl]at nh
      obtain⟨t1,r3,e3,-,-⟩:=zaB rb 3 wIn (by decide) jO.out;have hE:=bq.out w6 rb.tail nh (λg hg=>⟨(HS.out g hg).1,by have:=(HS.out g hg).2;omega⟩) (AllG.tail' dC.out.1) (by have:=dC.out.2;have:=mW.out;rw[e3]at *;simp at *;omega) (by have:=dC.out.2;have:=mW.out;rw[e3]at *;simp at *;omega);obtain⟨O3,pQ⟩:∃O,rdE f rb.tail=O:=⟨_,rfl⟩;have cS:Hid (M=O3.map λz=>(.lt X.data.toList (none) y z.1,z.2)):=wJ (by rw[bN.out,letJ,jO.out,ud rfl,<-pQ]);rw[pQ]at hE
      have HE:=wJ hE;clear nh e3 hE pQ g0 g1 g2 g3 g4 g5 g6 g7 g8 z0 z1 z2 z3 z4 z5 z6 z7 z8;go_wp2_with fail
      refine HE.out.mono ?_;rintro e w7 ⟨c7,cs,bA,au⟩;obtain⟨dk,dx,dt,dK,dX,dZ,dB,dm,dq,dp,df,dh,dj,cY,dc,rfl⟩:=bA;have hs7:=c7.size;have bZ:=wJ (bZ.out.chgR c7 (by unfold only;omega));have mE:=aE.out.chgR c7 (by unfold only;omega);have HX:=wJ (pcE.keep (S':=λg=>w.heap.size<g/\g<w5.heap.size) (λg hg=>hg) (λg hg=>c7.block g (by omega) (by unfold only;omega)) HX.out);have ej:=wJ (ej.out.keep (S':=λg=>w.heap.size<g/\g<W2.heap.size) (λg hg=>hg) (λg hg=>c7.block g (by omega) (by unfold only;omega)));obtain⟨⟨f0,f1,f2,f3,f4,f5,f6,f7,f8⟩,-,nu⟩:=zab bZ.out;obtain⟨⟨g0,g1,g2,g3,g4,g5,g6,g7,g8⟩,⟨z0,z1,z2,z3,z4,z5,z6,z7,z8⟩,bB⟩:=zab mE;obtain⟨W8,fQ⟩:∃V,((w7.setCell ⟨w.heap.size,7,none⟩ (.slice (some ⟨w7.heap.size+1,0,none⟩) 2 2)).alloc (.cells #[.int .i64 dk,.string dx,.bool dt,.int .i64 dK,.string dX,.int .i64 dZ,.slice dB dm dq,.slice dp df dh,.slice dj cY dc] 39)).alloc (.cells #[.int .i64 ck,.string cx,.bool ct,.int .i64 cK,.string cX,.int .i64 cZ,.slice cB cm cq,.slice aU aR aS,.slice aT aP aQ,.int .i64 dk,.string dx,.bool dt,.int .i64 dK,.string dX,.int .i64 dZ,.slice dB dm dq,.slice dp df dh,.slice dj cY dc] 39)=V:=⟨_,rfl⟩;have bu:∀k,k<w7.heap.size->k≠w.heap.size->W8.heap[k]?=w7.heap[k]?:=λk h1 h2=>fQ▸(zbN _ _ _ k (by simp;exact h1)).trans (tY _ ⟨w.heap.size,7,none⟩ _ k h2);have hsW8:W8.heap.size=w7.heap.size+2:=by rw[<-fQ];simp
      have kU:Hid (Blk W8 w.heap.size 39 #[.int .i64 5,.string X,.bool false,.int .i64 0,.string ⟨#[]⟩,.int .i64 0,.slice none 0 0,.slice (some ⟨w7.heap.size+1,0,none⟩) 2 2,.slice none 0 0]):=wJ (fQ▸Blk.alloc (Blk.alloc (uk _ _ 7 _ _ _ mE) _) _);have pZ:Hid (Blk W8 (w7.heap.size+1) 39 #[.int .i64 ck,.string cx,.bool ct,.int .i64 cK,.string cX,.int .i64 cZ,.slice cB cm cq,.slice aU aR aS,.slice aT aP aQ,.int .i64 dk,.string dx,.bool dt,.int .i64 dK,.string dX,.int .i64 dZ,.slice dB dm dq,.slice dp df dh,.slice dj cY dc]):=wJ (fQ▸zaA _ _ _ _ (by simp));have HC8:Hid (ChR b w W8):=wJ (fQ▸((((ff.out.trans c7).setCell (.inl (tV _)) _).alloc _).alloc _));have HX8:=wJ (pcE.keep (S':=λg=>w.heap.size<g/\g<w7.heap.size) (λg hg=>⟨hg.1,by omega⟩) (λg hg=>bu g (by omega) (by omega)) HX.out);have ej:=wJ (ej.out.keep (S':=λg=>w.heap.size<g/\g<W2.heap.size) (λg hg=>hg) (λg hg=>bu g (by omega) (by omega)));have hU:∃ok,e=.returned (.tuple #[.agg #[.int .i64 dk,.string dx,.bool dt,.int .i64 dK,.string dX,.int .i64 dZ,.slice dB dm dq,.slice dp df dh,.slice dj cY dc],.bool ok])/\((ok=false/\M=none)\/(ok=true/\∃z rz,M=some (.lt X.data.toList (none) y z,rz)/\pcE.Cs (λg=>w.heap.size<g/\g<w7.heap.size) W8 z [.int .i64 dk,.string dx,.bool dt,.int .i64 dK,.string dX,.int .i64 dZ,.slice dB dm dq,.slice dp df dh,.slice dj cY dc]/\RdrS S W8 b rz)):=by
       rcases au with⟨ho,he⟩|⟨z,rz,ho,he,hx,hr⟩
       ·exact⟨false,he,.inl ⟨rfl,by rw[cS.out,ho];rfl⟩⟩
       ·exact⟨true,he,.inr ⟨rfl,z,rz,by rw[cS.out,ho];rfl,pcE.keep (λg hg=>⟨by omega,hg.2⟩) (λg hg=>bu g hg.2 (by omega)) hx,hr.keep (bu b (by omega) (by omega)) (λk hk=>bu k (by have:=(HS.out k hk).2;omega) (by have:=(HS.out k hk).2;omega))⟩⟩
      obtain⟨ok,rfl,hU⟩:=hU;have HU:=wJ hU;clear hU au HE c7 mE bu;go_upto_region 17 with fail
      try rw[fQ]
      clear fQ f0 f1 f2 f3 f4 f5 f6 f7 f8 g0 g1 g2 g3 g4 g5 g6 g7 g8 z0 z1 z2 z3 z4 z5 z6 z7 z8;obtain⟨⟨g0,g1,g2,g3,g4,g5,g6,g7,g8⟩,⟨z0,z1,z2,z3,z4,z5,z6,z7,z8⟩,bB⟩:=zab kU.out;go_wp2_with fail
      try simp only[Exit.inBlock,Exit.then]
      refine ub (zaa rfl _ _ w.heap.size 39 _ (0,0) _ rfl (zah _ _ _ _ _ _ _ _ _ kU.out) Tryz.underlying39 rfl (by kernel_rfl)) rfl ?_;refine⟨HC8.out.set9 _ _ _ _ _ _ _ _ _ (tV _),[.int .i64 5,.string X,.bool false,.int .i64 0,.string ⟨#[]⟩,.int .i64 0,.slice none 0 0,.slice (some ⟨w7.heap.size+1,0,none⟩) 2 2,.slice none 0 0],⟨_,_,_,_,_,_,_,_,_,_,_,_,_,_,_,rfl⟩,?_⟩;rcases HU.out with⟨rfl,hM⟩|⟨rfl,z,rz,hM,hz,hr⟩
      ·exact .inl ⟨hM,rfl⟩
      ·refine .inr ⟨_,rz,hM,rfl,?_,hr.keep (zaf _ _ _ _ _ _ _ _ _ _ _ _ (by omega)) (λk hk=>zaf _ _ _ _ _ _ _ _ _ _ _ _ (by have:=(HS.out k hk).2;omega))⟩
       obtain⟨TA,ta,mH,oH⟩:=ej.out;refine⟨⟨TA,ta,some ⟨w7.heap.size+1,0,none⟩,0,none,0⟩,by simp only[exC,tyE,mH];simp[kdE,nmE,toE,zac,zad,Sx.strV],oH.keep (λg hg=>⟨by omega,by rw[zak];omega⟩) (λg hg=>zaf _ _ _ _ _ _ _ _ _ _ _ _ (by omega)),?_⟩;rw[ExIn]
       exact⟨_,rfl,⟨by omega,by rw[zak];omega⟩,zc2 HX8.out hz (λg hg=>⟨by omega,by rw[zak];omega⟩) (λk hk=>zaf _ _ _ _ _ _ _ _ _ _ _ _ (by omega)) ((zaf _ _ _ _ _ _ _ _ _ _ _ _ (by omega)).trans pZ.out)⟩
  |true =>
   rw[ud rfl]at lf
   obtain⟨t9,r9,e9,-,-⟩:=zaB r2 6 [58] (by decide) dM.out;have hG9:AllG r2.tail:=AllG.tail' dC.out;have hL9:r2.tail.length<=100000/\3*r2.tail.length+3<=f:=by have:=qQ.out;rw[e9]at this ⊢;simp at this ⊢;omega
   have hT:=zdV S b r2.tail W2 lf (λg hg=>⟨(HS.out g hg).1,by have:=(HS.out g hg).2;omega⟩) hG9 hL9.1;obtain⟨O9,jn⟩:∃O,typ r2.tail=O:=⟨_,rfl⟩;have mg:Hid (M=letT f X.data.toList O9):=wJ (by rw[fE.out,letN,dM.out,ud rfl,jn]);have HF9:Hid (∀t r,O9=some (t,r)->AllG r/\r.length<=100000/\3*r.length+3<=f):=wJ λt r h=>by
    obtain⟨-,h2,h3⟩:=zbC hG9 (jn.trans h);exact⟨h2,by omega,by omega⟩
   rw[jn]at hT
   have HT:=wJ hT;clear lf e9 hG9 hL9 hT jn;go_upto_region 7 with fail
   clear g0 g1 g2 g3 g4 g5 g6 g7 g8 z0 z1 z2 z3 z4 z5 z6 z7 z8;go_wp2_with fail
   refine HT.out.mono ?_;rintro e w3 ⟨c3,tK,tX,tZ,tA,tm,tc,au⟩;have eA:=c3.size;have aa:=aE.out.chgR c3 (by unfold only;omega);obtain⟨⟨g0,g1,g2,g3,g4,g5,g6,g7,g8⟩,⟨z0,z1,z2,z3,z4,z5,z6,z7,z8⟩,bB⟩:=zab aa;obtain⟨W3,cO⟩:∃W,(((w3.setCell ⟨w.heap.size,3,none⟩ (.int .i64 tK)).setCell ⟨w.heap.size,4,none⟩ (.string tX)).setCell ⟨w.heap.size,5,none⟩ (.int .i64 tZ)).setCell ⟨w.heap.size,6,none⟩ (.slice tA tm tc)=W:=⟨_,rfl⟩;have pg:W3.heap.size=w3.heap.size:=cO▸zjH w3 w.heap.size _ _ _ _;have oz:∀k,k≠w.heap.size->W3.heap[k]?=w3.heap[k]?:=λk hk=>cO▸zdm w3 w.heap.size k _ _ _ _ hk;have aE:Hid (Blk W3 w.heap.size 39 #[.int .i64 5,.string X,.bool true,.int .i64 tK,.string tX,.int .i64 tZ,.slice tA tm tc,.slice none 0 0,.slice none 0 0]):=wJ (cO▸zeo _ _ _ _ aa);have ff:Hid (ChR b w W3):=wJ (cO▸(ff.out.trans c3).so9_3 _ _ _ _ (tV _));have mj:=wJ oz;clear aa c3 HT oz;rcases au with⟨ho,rfl⟩|⟨t,r,ho,rfl,aq,bV⟩
   ·subst ho
    go_upto_region 8 with fail
    try rw[cO]
    clear cO g0 g1 g2 g3 g4 g5 g6 g7 g8 z0 z1 z2 z3 z4 z5 z6 z7 z8;obtain⟨⟨g0,g1,g2,g3,g4,g5,g6,g7,g8⟩,⟨z0,z1,z2,z3,z4,z5,z6,z7,z8⟩,bB⟩:=zab aE.out;go_wp2_with fail
    try simp only[Exit.inBlock,Exit.then]
    refine ub (zaa rfl _ _ w.heap.size 39 _ (0,0) _ rfl (zah _ _ _ _ _ _ _ _ _ aE.out) Tryz.underlying39 rfl (by kernel_rfl)) rfl ?_;exact⟨ff.out.set9 _ _ _ _ _ _ _ _ _ (tV _),_,⟨_,_,_,_,_,_,_,_,_,_,_,_,_,_,_,rfl⟩,.inl ⟨mg.out,rfl⟩⟩
   ·subst ho
    obtain⟨hGr,hLr⟩:=HF9.out t r rfl;have HM:Hid (M=letG f X.data.toList (some t) r):=wJ mg.out;have jb:=wJ hGr;have HL:=wJ hLr;have HR:=wJ (bV.keep (mj.out b (by omega)) (λg hg=>mj.out g (by have:=(HS.out g hg).2;omega)));have ej:Hid (TyL (λg=>w.heap.size<g/\g<W3.heap.size) W3 (some t) [.int .i64 tK,.string tX,.int .i64 tZ,.slice tA tm tc]):=wJ (by
     obtain⟨A',a',cd,jK⟩:=aq;injection cd with cd;have cd:=uC Array.toList cd;simp only[vH,Value.int.injEq,Value.string.injEq,Value.slice.injEq,wz,wj]at cd;obtain⟨rfl,rfl,rfl,rfl,rfl,rfl⟩:=cd;exact⟨tA,tc,rfl,Args.keep (λg hg=>⟨by omega,by omega⟩) (λg hg=>mj.out g (by omega)) _ _ jK⟩)
    clear aq bV hGr hLr;go_upto_region 8 with fail
    try rw[cO]
    clear cO g0 g1 g2 g3 g4 g5 g6 g7 g8 z0 z1 z2 z3 z4 z5 z6 z7 z8;go_upto_region 10 with fail
    have gu:=zaE S b r ⟨#[61]⟩ W3 HR.out (λg hg=>⟨(HS.out g hg).1,by have:=(HS.out g hg).2;omega⟩) (by have:=HL.out.1;omega);rw[show(⟨#[61]⟩:ByteArray).data.toList=[61] from rfl,took]at gu
    obtain⟨q3,gE⟩:∃q,isHd r 6 [61]=q:=⟨_,rfl⟩;rw[gE]at gu
    have tT:=wJ gu;have km:=wJ gE;clear gu gE;go_wp2_with fail
    refine tT.out.mono ?_;rintro e w4 ⟨rfl,iM,c4⟩;have kp:=c4.size;have aE:=wJ (aE.out.chgR c4 (by unfold only;omega));have ff:=wJ (ff.out.trans c4);have ej:=wJ (ej.out.keep (S':=λg=>w.heap.size<g/\g<W3.heap.size) (λg hg=>hg) (λg hg=>c4.block g hg.2 (by unfold only;omega)));obtain⟨⟨g0,g1,g2,g3,g4,g5,g6,g7,g8⟩,⟨z0,z1,z2,z3,z4,z5,z6,z7,z8⟩,bB⟩:=zab aE.out;clear c4 tT;cases q3 with
    |false =>
     have bN:Hid (M=none):=wJ (by rw[HM.out,zdD,km.out,ue (by decide)]);clear iM;go_wp2_with fail
     try simp only[Exit.inBlock,Exit.then]
     refine ub (zaa rfl _ _ w.heap.size 39 _ (0,0) _ rfl (zah _ _ _ _ _ _ _ _ _ aE.out) Tryz.underlying39 rfl (by kernel_rfl)) rfl ?_;exact⟨ff.out.set9 _ _ _ _ _ _ _ _ _ (tV _),_,⟨_,_,_,_,_,_,_,_,_,_,_,_,_,_,_,rfl⟩,.inl ⟨bN.out,rfl⟩⟩
    |true =>
     rw[ud rfl]at iM
     obtain⟨t0,r0,e0,-,-⟩:=zaB r 6 [61] (by decide) km.out;have dE:AllG r.tail:=AllG.tail' jb.out;have jI:r.tail.length<=100000/\3*r.tail.length+3<=f:=by have:=HL.out;rw[e0]at this ⊢;simp at this ⊢;omega
     have hE:=bq.out w4 r.tail iM (λg hg=>⟨(HS.out g hg).1,by have:=(HS.out g hg).2;omega⟩) dE jI.1 jI.2;obtain⟨O,hO⟩:∃O,rdE f r.tail=O:=⟨_,rfl⟩;have bN:Hid (M=letJ f X.data.toList (some t) O):=wJ (by rw[HM.out,zdD,km.out,ud rfl,hO]);rw[hO]at hE
     have HE:=wJ hE;have HO:=wJ hO;have mi:=wJ dE;have mW:=wJ jI;clear iM e0 hE hO dE jI g0 g1 g2 g3 g4 g5 g6 g7 g8 z0 z1 z2 z3 z4 z5 z6 z7 z8;go_wp2_with fail
     refine HE.out.mono ?_;rintro e w5 ⟨c5,cs,bA,au⟩;obtain⟨ck,cx,ct,cK,cX,cZ,cB,cm,cq,aU,aR,aS,aT,aP,aQ,rfl⟩:=bA;have ee:=c5.size;have cJ:=aE.out.chgR c5 (by unfold only;omega);obtain⟨W5,cW⟩:∃V,w5.alloc (.cells #[.int .i64 ck,.string cx,.bool ct,.int .i64 cK,.string cX,.int .i64 cZ,.slice cB cm cq,.slice aU aR aS,.slice aT aP aQ] 39)=V:=⟨_,rfl⟩;have aX:Below w5.heap.size w5 W5:=cW▸(ua _ w5).alloc (tV _) _;have rE:W5.heap.size=w5.heap.size+1:=by rw[<-cW];simp
     have bZ:Hid (Blk W5 w5.heap.size 39 #[.int .i64 ck,.string cx,.bool ct,.int .i64 cK,.string cX,.int .i64 cZ,.slice cB cm cq,.slice aU aR aS,.slice aT aP aQ]):=wJ (cW▸tW _ _);have aE:=wJ (show Blk W5 w.heap.size 39 #[.int .i64 5,.string X,.bool true,.int .i64 tK,.string tX,.int .i64 tZ,.slice tA tm tc,.slice none 0 0,.slice none 0 0] from(aX.block _ cJ.lt).trans cJ);have ff:=wJ ((ff.out.trans c5).below aX);have ej:=wJ (ej.out.keep (S':=λg=>w.heap.size<g/\g<W3.heap.size) (λg hg=>hg) (λg hg=>(aX.block g (by omega)).trans (c5.block g (by omega) (by unfold only;omega))));have eF:=wJ aX;clear cJ c5 HE aX;rcases au with⟨ho,rfl⟩|⟨y,rb,ho,rfl,aq,bV⟩
     ·subst ho
      go_upto_region 13 with fail
      try rw[cW]
      clear cW;obtain⟨⟨g0,g1,g2,g3,g4,g5,g6,g7,g8⟩,⟨z0,z1,z2,z3,z4,z5,z6,z7,z8⟩,bB⟩:=zab aE.out;go_wp2_with fail
      try simp only[Exit.inBlock,Exit.then]
      refine ub (zaa rfl _ _ w.heap.size 39 _ (0,0) _ rfl (zah _ _ _ _ _ _ _ _ _ aE.out) Tryz.underlying39 rfl (by kernel_rfl)) rfl ?_;exact⟨ff.out.set9 _ _ _ _ _ _ _ _ _ (tV _),_,⟨_,_,_,_,_,_,_,_,_,_,_,_,_,_,_,rfl⟩,.inl ⟨bN.out,rfl⟩⟩
     ·subst ho
      have bH:=zbZ f r.tail y rb mi.out HO.out;have oJ:=bV.below eF.out (λg hg=>by have:=(HS.out g hg).2;omega);have HX:=wJ (pcE.keep (S':=λg=>w.heap.size<g/\g<w5.heap.size) (λg hg=>⟨by omega,hg.2⟩) (λg hg=>eF.out.block g hg.2) aq);have fp:=zcs S b rb ⟨#[105,110]⟩ W5 oJ (λg hg=>⟨(HS.out g hg).1,by have:=(HS.out g hg).2;omega⟩) (by have:=bH.2;have:=mW.out.1;omega);obtain⟨q4,jy⟩:∃q,isHd rb 3 wIn=q:=⟨_,rfl⟩;rw[show(⟨#[105,110]⟩:ByteArray).data.toList=wIn from rfl,took,jy]at fp
      have gw:=wJ fp;have dC:=wJ bH;have jO:=wJ jy;clear fp aq bV jy bH oJ;go_upto_region 13 with fail
      try rw[cW]
      clear cW;go_wp2_with fail
      refine gw.out.mono ?_;rintro e w6 ⟨rfl,nh,c6⟩;have pj:=c6.size;have HX:=wJ (pcE.keep (S':=λg=>w.heap.size<g/\g<w5.heap.size) (λg hg=>hg) (λg hg=>c6.block g (by omega) (by unfold only;omega)) HX.out);have bZ:=wJ (bZ.out.chgR c6 (by unfold only;omega));have aE:=wJ (aE.out.chgR c6 (by unfold only;omega));have ff:=wJ (ff.out.trans c6);have ej:=wJ (ej.out.keep (S':=λg=>w.heap.size<g/\g<W3.heap.size) (λg hg=>hg) (λg hg=>c6.block g (by omega) (by unfold only;omega)));obtain⟨⟨g0,g1,g2,g3,g4,g5,g6,g7,g8⟩,⟨z0,z1,z2,z3,z4,z5,z6,z7,z8⟩,bB⟩:=zab aE.out;clear c6 gw eF;cases q4 with
      |false =>
       have cS:Hid (M=none):=wJ (by rw[bN.out,letJ,jO.out,ue (by decide)]);clear nh;go_wp2_with fail
       try simp only[Exit.inBlock,Exit.then]
       refine ub (zaa rfl _ _ w.heap.size 39 _ (0,0) _ rfl (zah _ _ _ _ _ _ _ _ _ aE.out) Tryz.underlying39 rfl (by kernel_rfl)) rfl ?_;exact⟨ff.out.set9 _ _ _ _ _ _ _ _ _ (tV _),_,⟨_,_,_,_,_,_,_,_,_,_,_,_,_,_,_,rfl⟩,.inl ⟨cS.out,rfl⟩⟩
      |true =>
       rw[ud rfl]at nh
       obtain⟨t1,r3,e3,-,-⟩:=zaB rb 3 wIn (by decide) jO.out;have hE:=bq.out w6 rb.tail nh (λg hg=>⟨(HS.out g hg).1,by have:=(HS.out g hg).2;omega⟩) (AllG.tail' dC.out.1) (by have:=dC.out.2;have:=mW.out;rw[e3]at *;simp at *;omega) (by have:=dC.out.2;have:=mW.out;rw[e3]at *;simp at *;omega);obtain⟨O3,pQ⟩:∃O,rdE f rb.tail=O:=⟨_,rfl⟩;have cS:Hid (M=O3.map λz=>(.lt X.data.toList (some t) y z.1,z.2)):=wJ (by rw[bN.out,letJ,jO.out,ud rfl,<-pQ]);rw[pQ]at hE
       have HE:=wJ hE;clear nh e3 hE pQ g0 g1 g2 g3 g4 g5 g6 g7 g8 z0 z1 z2 z3 z4 z5 z6 z7 z8;go_wp2_with fail
       refine HE.out.mono ?_;rintro e w7 ⟨c7,cs,bA,au⟩;obtain⟨dk,dx,dt,dK,dX,dZ,dB,dm,dq,dp,df,dh,dj,cY,dc,rfl⟩:=bA;have hs7:=c7.size;have bZ:=wJ (bZ.out.chgR c7 (by unfold only;omega));have mE:=aE.out.chgR c7 (by unfold only;omega);have HX:=wJ (pcE.keep (S':=λg=>w.heap.size<g/\g<w5.heap.size) (λg hg=>hg) (λg hg=>c7.block g (by omega) (by unfold only;omega)) HX.out);have ej:=wJ (ej.out.keep (S':=λg=>w.heap.size<g/\g<W3.heap.size) (λg hg=>hg) (λg hg=>c7.block g (by omega) (by unfold only;omega)));obtain⟨⟨f0,f1,f2,f3,f4,f5,f6,f7,f8⟩,-,nu⟩:=zab bZ.out;obtain⟨⟨g0,g1,g2,g3,g4,g5,g6,g7,g8⟩,⟨z0,z1,z2,z3,z4,z5,z6,z7,z8⟩,bB⟩:=zab mE;obtain⟨W8,fQ⟩:∃V,((w7.setCell ⟨w.heap.size,7,none⟩ (.slice (some ⟨w7.heap.size+1,0,none⟩) 2 2)).alloc (.cells #[.int .i64 dk,.string dx,.bool dt,.int .i64 dK,.string dX,.int .i64 dZ,.slice dB dm dq,.slice dp df dh,.slice dj cY dc] 39)).alloc (.cells #[.int .i64 ck,.string cx,.bool ct,.int .i64 cK,.string cX,.int .i64 cZ,.slice cB cm cq,.slice aU aR aS,.slice aT aP aQ,.int .i64 dk,.string dx,.bool dt,.int .i64 dK,.string dX,.int .i64 dZ,.slice dB dm dq,.slice dp df dh,.slice dj cY dc] 39)=V:=⟨_,rfl⟩;have bu:∀k,k<w7.heap.size->k≠w.heap.size->W8.heap[k]?=w7.heap[k]?:=λk h1 h2=>fQ▸(zbN _ _ _ k (by simp;exact h1)).trans (tY _ ⟨w.heap.size,7,none⟩ _ k h2);have hsW8:W8.heap.size=w7.heap.size+2:=by rw[<-fQ];simp
       have kU:Hid (Blk W8 w.heap.size 39 #[.int .i64 5,.string X,.bool true,.int .i64 tK,.string tX,.int .i64 tZ,.slice tA tm tc,.slice (some ⟨w7.heap.size+1,0,none⟩) 2 2,.slice none 0 0]):=wJ (fQ▸Blk.alloc (Blk.alloc (uk _ _ 7 _ _ _ mE) _) _);have pZ:Hid (Blk W8 (w7.heap.size+1) 39 #[.int .i64 ck,.string cx,.bool ct,.int .i64 cK,.string cX,.int .i64 cZ,.slice cB cm cq,.slice aU aR aS,.slice aT aP aQ,.int .i64 dk,.string dx,.bool dt,.int .i64 dK,.string dX,.int .i64 dZ,.slice dB dm dq,.slice dp df dh,.slice dj cY dc]):=wJ (fQ▸zaA _ _ _ _ (by simp));have HC8:Hid (ChR b w W8):=wJ (fQ▸((((ff.out.trans c7).setCell (.inl (tV _)) _).alloc _).alloc _));have HX8:=wJ (pcE.keep (S':=λg=>w.heap.size<g/\g<w7.heap.size) (λg hg=>⟨hg.1,by omega⟩) (λg hg=>bu g (by omega) (by omega)) HX.out);have ej:=wJ (ej.out.keep (S':=λg=>w.heap.size<g/\g<W3.heap.size) (λg hg=>hg) (λg hg=>bu g (by omega) (by omega)));have hU:∃ok,e=.returned (.tuple #[.agg #[.int .i64 dk,.string dx,.bool dt,.int .i64 dK,.string dX,.int .i64 dZ,.slice dB dm dq,.slice dp df dh,.slice dj cY dc],.bool ok])/\((ok=false/\M=none)\/(ok=true/\∃z rz,M=some (.lt X.data.toList (some t) y z,rz)/\pcE.Cs (λg=>w.heap.size<g/\g<w7.heap.size) W8 z [.int .i64 dk,.string dx,.bool dt,.int .i64 dK,.string dX,.int .i64 dZ,.slice dB dm dq,.slice dp df dh,.slice dj cY dc]/\RdrS S W8 b rz)):=by
        rcases au with⟨ho,he⟩|⟨z,rz,ho,he,hx,hr⟩
        ·exact⟨false,he,.inl ⟨rfl,by rw[cS.out,ho];rfl⟩⟩
        ·exact⟨true,he,.inr ⟨rfl,z,rz,by rw[cS.out,ho];rfl,pcE.keep (λg hg=>⟨by omega,hg.2⟩) (λg hg=>bu g hg.2 (by omega)) hx,hr.keep (bu b (by omega) (by omega)) (λk hk=>bu k (by have:=(HS.out k hk).2;omega) (by have:=(HS.out k hk).2;omega))⟩⟩
       obtain⟨ok,rfl,hU⟩:=hU;have HU:=wJ hU;clear hU au HE c7 mE bu;go_upto_region 17 with fail
       try rw[fQ]
       clear fQ f0 f1 f2 f3 f4 f5 f6 f7 f8 g0 g1 g2 g3 g4 g5 g6 g7 g8 z0 z1 z2 z3 z4 z5 z6 z7 z8;obtain⟨⟨g0,g1,g2,g3,g4,g5,g6,g7,g8⟩,⟨z0,z1,z2,z3,z4,z5,z6,z7,z8⟩,bB⟩:=zab kU.out;go_wp2_with fail
       try simp only[Exit.inBlock,Exit.then]
       refine ub (zaa rfl _ _ w.heap.size 39 _ (0,0) _ rfl (zah _ _ _ _ _ _ _ _ _ kU.out) Tryz.underlying39 rfl (by kernel_rfl)) rfl ?_;refine⟨HC8.out.set9 _ _ _ _ _ _ _ _ _ (tV _),[.int .i64 5,.string X,.bool true,.int .i64 tK,.string tX,.int .i64 tZ,.slice tA tm tc,.slice (some ⟨w7.heap.size+1,0,none⟩) 2 2,.slice none 0 0],⟨_,_,_,_,_,_,_,_,_,_,_,_,_,_,_,rfl⟩,?_⟩;rcases HU.out with⟨rfl,hM⟩|⟨rfl,z,rz,hM,hz,hr⟩
       ·exact .inl ⟨hM,rfl⟩
       ·refine .inr ⟨_,rz,hM,rfl,?_,hr.keep (zaf _ _ _ _ _ _ _ _ _ _ _ _ (by omega)) (λk hk=>zaf _ _ _ _ _ _ _ _ _ _ _ _ (by have:=(HS.out k hk).2;omega))⟩
        obtain⟨TA,ta,mH,oH⟩:=ej.out;refine⟨⟨TA,ta,some ⟨w7.heap.size+1,0,none⟩,0,none,0⟩,by simp only[exC,tyE,mH];simp[kdE,nmE,toE,zac,zad,Sx.strV],oH.keep (λg hg=>⟨by omega,by rw[zak];omega⟩) (λg hg=>zaf _ _ _ _ _ _ _ _ _ _ _ _ (by omega)),?_⟩;rw[ExIn]
        exact⟨_,rfl,⟨by omega,by rw[zak];omega⟩,zc2 HX8.out hz (λg hg=>⟨by omega,by rw[zak];omega⟩) (λk hk=>zaf _ _ _ _ _ _ _ _ _ _ _ _ (by omega)) ((zaf _ _ _ _ _ _ _ _ _ _ _ _ (by omega)).trans pZ.out)⟩
end Go.Proofs.YtknkclefoiohpaaGreatDoor
