import Derived.Test.YtknkclefoiohpaaGreatDoorKaAA
import Derived.Test.YtknkclefoiohpaaGreatDoorKaAJ
set_option maxHeartbeats 12800000
namespace Go.Proofs.YtknkclefoiohpaaGreatDoor
open Go.RowKit Lx Tx Sx
set_option maxRecDepth 100000
theorem zeJ(w:World):Calls Tryz.prog 86 #[.agg #[.int .i64 0,.string ⟨#[]⟩,.int .i64 0,.slice none 0 0]] w λe w'=>e=.returned (.int .i64 1)/\Below w.heap.size w w':=by
 obtain⟨W0,ai⟩:∃W,w.alloc (.cells #[.int .i64 0,.string ⟨#[]⟩,.int .i64 0,.slice none 0 0] 44)=W:=⟨_,rfl⟩;have ax:Below w.heap.size w W0:=ai▸(ua _ w).alloc (tV _) _;have aa:Blk W0 w.heap.size 44 #[.int .i64 0,.string ⟨#[]⟩,.int .i64 0,.slice none 0 0]:=ai▸tW _ _;obtain⟨f0,f1,f2,f3,-,-,-,-,cU⟩:=zae aa;have bM:=wJ ax;clear ax aa f0 f1 f2;go_enter Tryz.func86,Tryz.ntmps86
 go_upto_region 1 with fail
 try rw[ai]
 clear ai;go_wp2_with fail
 go_loopg [3,4] 0 (λgg va vi wr=>gg=0/\va=.int .i64 0/\vi=.int .i64 0/\wr=W0)
 case atStart=>exact⟨rfl,rfl,rfl,rfl⟩
 case round =>
  obtain⟨rfl,rfl,rfl,rfl⟩:=hrel;go_wp2_with fail
  go_ret
  exact⟨rfl,bM.out⟩
theorem zf4(w:World):Calls Tryz.prog 51 #[.agg #[.int .i64 0,.string ⟨#[]⟩,.bool false,.int .i64 0,.string ⟨#[]⟩,.int .i64 0,.slice none 0 0,.slice none 0 0,.slice none 0 0]] w λe w'=>(∃A c,e=.returned (.slice A 0 c))/\Below w.heap.size w w':=by
 obtain⟨i0,bJ,bO,bz,bE⟩:=vz zg2;obtain⟨W0,ai⟩:∃W,w.alloc (.cells #[.int .i64 0,.string ⟨#[]⟩,.bool false,.int .i64 0,.string ⟨#[]⟩,.int .i64 0,.slice none 0 0,.slice none 0 0,.slice none 0 0] 48)=W:=⟨_,rfl⟩;have ax:Below w.heap.size w W0:=ai▸(ua _ w).alloc (tV _) _;have eI:w.heap.size+1<=W0.heap.size/\W0.heap.size<=w.heap.size+1:=by rw[<-ai];simp
 have aa:Blk W0 w.heap.size 48 #[.int .i64 0,.string ⟨#[]⟩,.bool false,.int .i64 0,.string ⟨#[]⟩,.int .i64 0,.slice none 0 0,.slice none 0 0,.slice none 0 0]:=ai▸tW _ _;obtain⟨⟨f0,f1,f2,f3,f4,f5,f6,f7,f8⟩,-,cU⟩:=zab aa;have bM:=wJ ax;have bc:=wJ aa;clear ax aa;go_enter Tryz.func51,Tryz.ntmps51
 go_upto_region 1 with fail
 try rw[ai]
 clear ai;go_wp2_with (at_builtin;refine zco rfl (.tmp 5) (.tmp 7) 45 rfl W0.heap.size 48 i0 _ 9 136 Tryz.underlying45 bJ bO bz bE rfl (by decide) (.slice (some ⟨W0.heap.size,0,none⟩) 0 0) 0 [] none 0 0 [] rfl rfl ⟨by simp,.inr ⟨W0.heap.size,0,#[],rfl,tV _,tW _ _,tV _,by unfold maxLen;omega,by simp,by simp⟩⟩ rfl (.inl rfl) (by simp) (by unfold maxLen;omega) (by omega) (by simp) ?_;intro A2 c2 w2 aY aA;have ar:=wJ (((ua _ W0).alloc (tV _) (.cells #[] 48)).trans aA);clear aY aA)
 clear f0 f1 f2 f3 f4 f5 f6 f7 f8;have bo:=ar.out.size;obtain⟨⟨f0,f1,f2,f3,f4,f5,f6,f7,f8⟩,-,cg⟩:=zab (bc.out.below ar.out (by omega));go_wp2_with fail
 go_loopg [3,4] 0 (λgg vo vi wr=>gg=0/\vo=.slice A2 0 c2/\vi=.int .i64 0/\wr=w2)
 case atStart=>exact⟨rfl,rfl,rfl,rfl⟩
 case round =>
  obtain⟨rfl,rfl,rfl,rfl⟩:=hrel;go_wp2_with fail
  go_ret
  exact⟨⟨A2,c2,rfl⟩,bM.out.trans (ar.out.mono (by omega))⟩
theorem zf5(w:World):Calls Tryz.prog 19 #[.agg #[.int .i64 0,.string ⟨#[]⟩,.bool false,.int .i64 0,.string ⟨#[]⟩,.int .i64 0,.slice none 0 0,.slice none 0 0,.slice none 0 0]] w λe w'=>e=.returned (.int .i64 1)/\Below w.heap.size w w':=by
 obtain⟨W0,ai⟩:∃W,w.alloc (.cells #[.int .i64 0,.string ⟨#[]⟩,.bool false,.int .i64 0,.string ⟨#[]⟩,.int .i64 0,.slice none 0 0,.slice none 0 0,.slice none 0 0] 48)=W:=⟨_,rfl⟩;have ax:Below w.heap.size w W0:=ai▸(ua _ w).alloc (tV _) _;have aa:Blk W0 w.heap.size 48 #[.int .i64 0,.string ⟨#[]⟩,.bool false,.int .i64 0,.string ⟨#[]⟩,.int .i64 0,.slice none 0 0,.slice none 0 0,.slice none 0 0]:=ai▸tW _ _;obtain⟨⟨f0,f1,f2,f3,f4,f5,f6,f7,f8⟩,-,cU⟩:=zab aa;have bM:=wJ ax;have eo:=wJ (zf4 W0);clear ax aa;go_enter Tryz.func19,Tryz.ntmps19
 go_upto_region 1 with fail
 try rw[ai]
 clear ai;go_wp2_with fail
 refine eo.out.mono ?_;rintro e w2 ⟨⟨A,c,rfl⟩,b2⟩;have ar:=wJ (bM.out.trans (b2.mono bM.out.size));clear b2 eo f0 f1 f2 f3 f4 f5 f6 f7 f8;go_wp2_with fail
 go_loopg [3,5] 0 (λgg va vi wr=>gg=0/\va=.int .i64 0/\vi=.int .i64 0/\wr=w2)
 case atStart=>exact⟨rfl,rfl,rfl,rfl⟩
 case round =>
  obtain⟨rfl,rfl,rfl,rfl⟩:=hrel;go_wp2_with fail
  go_ret
  exact⟨rfl,ar.out⟩
theorem zf6(w:World):Calls Tryz.prog 45 #[.agg #[.int .i64 0,.string ⟨#[]⟩,.bool false,.int .i64 0,.string ⟨#[]⟩,.int .i64 0,.slice none 0 0,.slice none 0 0,.slice none 0 0]] w λe w'=>e=.returned (.bool false)/\Below w.heap.size w w':=by
 obtain⟨W0,ai⟩:∃W,w.alloc (.cells #[.int .i64 0,.string ⟨#[]⟩,.bool false,.int .i64 0,.string ⟨#[]⟩,.int .i64 0,.slice none 0 0,.slice none 0 0,.slice none 0 0] 48)=W:=⟨_,rfl⟩;have ax:Below w.heap.size w W0:=ai▸(ua _ w).alloc (tV _) _;have aa:Blk W0 w.heap.size 48 #[.int .i64 0,.string ⟨#[]⟩,.bool false,.int .i64 0,.string ⟨#[]⟩,.int .i64 0,.slice none 0 0,.slice none 0 0,.slice none 0 0]:=ai▸tW _ _;obtain⟨⟨f0,f1,f2,f3,f4,f5,f6,f7,f8⟩,-,cU⟩:=zab aa;have bM:=wJ ax;have eo:=wJ (zf4 W0);clear ax aa;go_enter Tryz.func45,Tryz.ntmps45
 go_upto_region 1 with fail
 try rw[ai]
 clear ai;go_wp2_with fail
 refine eo.out.mono ?_;rintro e w2 ⟨⟨A,c,rfl⟩,b2⟩;have ar:=wJ (bM.out.trans (b2.mono bM.out.size));clear b2 eo f0 f1 f2 f3 f4 f5 f6 f7 f8;go_wp2_with fail
 go_loopg [4] 0 (λgg vi wr=>gg=0/\vi=.int .i64 0/\wr=w2)
 case atStart=>exact⟨rfl,rfl,rfl⟩
 case round =>
  obtain⟨rfl,rfl,rfl⟩:=hrel;go_wp2_with fail
  go_ret
  exact⟨rfl,ar.out⟩
theorem zeY(l:List (Nm × Ty))(S:Nat->Prop)(k0:Int)(s:ByteArray)(V:Option Addr)(vm vq:Nat)(G:Option Addr)(gm gq:Nat)(K0:Int)(X0:ByteArray)(Z0:Int)(B0:Option Addr)(m0 q0:Nat)(k:Int)(x:ByteArray)(t:Bool)(K:Int)(X:ByteArray)(Z:Int)(B:Option Addr)(m q:Nat)(KA:Option Addr)(kn kc:Nat)(LA:Option Addr)(ln lc:Nat)(D1 D2:Nat)(q2:Bool)(w:World)
  (hl:LstG pcC S w l G)(rZ:l.length=gm)(hS:∀g,S g->g<w.heap.size)(hw:za2 l<=4000)(h1:D1<=1000000)(h2:D2<=1000000)
  (HT:∀W,Below w.heap.size w W->Calls Tryz.prog 86 #[.agg #[.int .i64 K0,.string X0,.int .i64 Z0,.slice B0 m0 q0]] W λe w'=>e=.returned (.int .i64 (D1:Nat))/\Below W.heap.size W w')
  (HE:∀W,Below w.heap.size w W->Calls Tryz.prog 45 #[.agg #[.int .i64 k,.string x,.bool t,.int .i64 K,.string X,.int .i64 Z,.slice B m q,.slice KA kn kc,.slice LA ln lc]] W λe w'=>e=.returned (.bool q2)/\Below W.heap.size W w')
  (HD:∀W,Below w.heap.size w W->Calls Tryz.prog 19 #[.agg #[.int .i64 k,.string x,.bool t,.int .i64 K,.string X,.int .i64 Z,.slice B m q,.slice KA kn kc,.slice LA ln lc]] W λe w'=>e=.returned (.int .i64 (D2:Nat))/\Below W.heap.size W w'):Calls Tryz.prog 35 #[.agg #[.int .i64 k0,.string s,.slice V vm vq,.slice G gm gq,.int .i64 K0,.string X0,.int .i64 Z0,.slice B0 m0 q0,.int .i64 k,.string x,.bool t,.int .i64 K,.string X,.int .i64 Z,.slice B m q,.slice KA kn kc,.slice LA ln lc]] w λe w'=>e=.returned (.bool ((l.any λc=>decide (50<c.2.depth)) ||(q2 ||(decide (50<D1)||decide (50<D2)))))/\Below w.heap.size w w':=by
 obtain⟨W0,ai⟩:∃W,w.alloc (.cells #[.int .i64 k0,.string s,.slice V vm vq,.slice G gm gq,.int .i64 K0,.string X0,.int .i64 Z0,.slice B0 m0 q0,.int .i64 k,.string x,.bool t,.int .i64 K,.string X,.int .i64 Z,.slice B m q,.slice KA kn kc,.slice LA ln lc] 81)=W:=⟨_,rfl⟩;have aK:Below w.heap.size w W0:=ai▸(ua _ w).alloc (tV _) _;have eI:w.heap.size+1<=W0.heap.size:=by rw[<-ai];simp
 have az:Blk W0 w.heap.size 81 #[.int .i64 k0,.string s,.slice V vm vq,.slice G gm gq,.int .i64 K0,.string X0,.int .i64 Z0,.slice B0 m0 q0,.int .i64 k,.string x,.bool t,.int .i64 K,.string X,.int .i64 Z,.slice B m q,.slice KA kn kc,.slice LA ln lc]:=ai▸tW _ _;have bc:=wJ az;have bT:=wJ aK;have HHE:=wJ HE;have HHD:=wJ HD;have HHT:=wJ HT;have HL:=wJ hl;have p8:=wJ rZ;have HS:=wJ hS;have HW:=wJ hw;have hgm4:gm<=4000:=by have:=zgs l;omega
 obtain⟨R,hR⟩:∃R,((l.any λc=>decide (50<c.2.depth)) ||(q2 ||(decide (50<D1)||decide (50<D2))))=R:=⟨_,rfl⟩;rw[hR]
 have HR:=wJ hR;clear aK az HT HE HD hl rZ hS hw hR;go_enter Tryz.func35,Tryz.ntmps35
 go_upto_region 1 with fail
 try rw[ai]
 clear ai;go_wp2_with fail
 go_loopg [3] gm (λgg vi wr=>∃i:Nat,gg=gm-i/\vi=.int .i64 (i:Nat)/\i<=gm/\Hid ((l.take i).any (λc=>decide (50<c.2.depth))=false)/\Hid (Below W0.heap.size W0 wr))
 case atStart=>exact⟨0,rfl,rfl,by omega,wJ rfl,wJ (ua _ _)⟩
 case round =>
  obtain⟨i,rfl,rfl,hi,hU,hB⟩:=hrel;have dw:=hB.out.size;have ax:w.heap.size<wr.heap.size:=by omega
  have lU:=wJ (bT.out.trans (hB.out.mono bT.out.size));by_cases ah:i<gm
  ·have f3:=(bc.out.below hB.out (by omega)).cell 3
   replace f3:wr.cell? ⟨w.heap.size,3,none⟩=some (.slice G gm gq):=f3;obtain⟨c,hx⟩:∃c,l[i]?=some c:=⟨_,ug (by rw[p8.out];exact ah)⟩;obtain⟨g,cs,rfl,bh,⟨A,a,rfl,hA⟩,ao⟩:=HL.out.row i c hx;have an:∀g,S g->wr.heap[g]?=w.heap[g]?:=λg hg=>lU.out.block g (HS.out g hg);have bS:=Lie.keep (w:=w) ao (an g bh);have hd:=zdI 1000000 c.2 S (.agg (tyV c.2 A a).toArray) wr (by have:=zgr l c (uM hx);have:=HW.out;omega) (tV _) ⟨A,a,rfl,Args.keep (λ_ h=>h) an _ _ hA⟩ (λg hg=>by have:=HS.out g hg;omega);obtain⟨D,hD⟩:∃D,c.2.depth=D:=⟨_,rfl⟩;obtain⟨tK,tX,tZ,tm,hs⟩:∃tK tX tZ tm,tyV c.2 A a=[.int .i64 tK,.string tX,.int .i64 tZ,.slice A tm a]:=⟨_,_,_,_,rfl⟩;rw[hs,hD]at hd
   rw[hs]at bS
   have c1:wr.cell? ⟨g,i*5+1,none⟩=some (.int .i64 tK):=bS 1 _ rfl;have c2:wr.cell? ⟨g,i*5+1+1,none⟩=some (.string tX):=bS 2 _ rfl;have c3:wr.cell? ⟨g,i*5+1+2,none⟩=some (.int .i64 tZ):=bS 3 _ rfl;have c4:wr.cell? ⟨g,i*5+1+3,none⟩=some (.slice A tm a):=bS 4 _ rfl;have aV:=zaj c1;have iw:(0:Int)<=(i:Int):=by omega
   have gV:(i:Int)<(gm:Int):=by omega
   have aO:Hid (50<D->R=true):=wJ λh=>by
    rw[<-HR.out,Bool.or_eq_true]
    exact .inl (wB.2 ⟨c,uM hx,by rw[hD];exact uB h⟩)
   have bP:Hid (¬50<D->(l.take (i+1)).any (λc=>decide (50<c.2.depth))=false):=wJ λh=>by
    rw[uL,hx,List.any_append,hU.out]
    simp only[Option.toList_some,List.any_cons,List.any_nil,hD,ux h,Bool.or_false]
   have ak:=wJ hd;clear hx bh hA ao an bS hs hd hD hU;by_cases h50:50<D
   ·have dd:decide ((50:Int)<(D:Int))=true:=uB (by omega)
    have hr:=wJ (aO.out h50);go_wp2_with fail
    refine ak.out.mono ?_;rintro en w3 ⟨rfl,b3⟩;have bU:=wJ (lU.out.trans (b3.mono lU.out.size));clear b3 ak;go_wp2_with fail
    go_ret
    exact⟨zar hr.out.symm,bU.out⟩
   ·have dd:decide ((50:Int)<(D:Int))=false:=ux (by omega)
    have hr:=wJ (bP.out h50);go_wp2_with fail
    refine ak.out.mono ?_;rintro en w3 ⟨rfl,b3⟩;have bU:=wJ (hB.out.trans (b3.mono dw));clear b3 ak;go_wp2_with fail
    go_roundg (gm-(i+1))
    case measure=>omega
    case rel=>exact⟨i+1,rfl,by go_num,by omega,hr,bU⟩
  ·have hig:i=gm:=by omega
   subst hig;have dD:Hid (R=(q2 ||(decide (50<D1)||decide (50<D2)))):=wJ (by
    have:=hU.out;rw[ur (by rw[p8.out];exact tV _)]at this
    rw[<-HR.out,this,wD])
   have aa:=bc.out.below hB.out (by omega);obtain⟨⟨g0,g1,g2,g3,g4,g5,g6,g7,g8,g9,g10,g11,g12,g13,g14,g15,g16⟩,-,bB⟩:=zay aa;have H2:=wJ (HHE.out wr lU.out);clear hU aa;go_wp2_with fail
   refine H2.out.mono ?_;rintro e w2 ⟨rfl,b2⟩;have aA:=lU.out.trans (b2.mono lU.out.size);have ar:=wJ aA;have aa:=bc.out.below (hB.out.trans (b2.mono dw)) (by omega);clear g0 g1 g2 g3 g4 g5 g6 g7 g8 g9 g10 g11 g12 g13 g14 g15 g16 bB;obtain⟨⟨g0,g1,g2,g3,g4,g5,g6,g7,g8,g9,g10,g11,g12,g13,g14,g15,g16⟩,-,bB⟩:=zay aa;have H3:=wJ (HHT.out w2 aA);clear b2 aA aa H2;cases q2 with
   |true =>
    have hr:Hid (R=true):=wJ (by rw[dD.out];rfl);go_wp2_with fail
    go_ret
    exact⟨zar hr.out.symm,ar.out⟩
   |false =>
    have oU:Hid (50<D1->R=true):=wJ λh=>by rw[dD.out,uB h];rfl
    have lj:Hid (¬50<D1->R=decide (50<D2)):=wJ λh=>by rw[dD.out,ux h];rfl
    by_cases h50:50<D1
    ·have dd:decide ((50:Int)<(D1:Int))=true:=uB (by omega)
     have hr:=wJ (oU.out h50);go_wp2_with fail
     refine H3.out.mono ?_;rintro e w3 ⟨rfl,b3⟩;have bU:=wJ (ar.out.trans (b3.mono ar.out.size));clear b3 H3;go_wp2_with fail
     go_ret
     exact⟨zar hr.out.symm,bU.out⟩
    ·have dd:decide ((50:Int)<(D1:Int))=false:=ux (by omega)
     have hr:=wJ (lj.out h50);obtain⟨q5,jc⟩:∃q,decide (50<D2)=q:=⟨_,rfl⟩;have d2:decide ((50:Int)<(D2:Int))=q5:=by rw[<-jc];exact decide_eq_decide.2 (by omega)
     rw[jc]at hr
     clear jc;go_wp2_with fail
     refine H3.out.mono ?_;rintro e w3 ⟨rfl,b3⟩;have eS:=ar.out.trans (b3.mono ar.out.size);have bU:=wJ eS;have ic:=ar.out.size;have e8:=(b3.cell (p:=⟨w.heap.size,8,none⟩) bB).trans g8;have e9:=(b3.cell (p:=⟨w.heap.size,9,none⟩) bB).trans g9;have e10:=(b3.cell (p:=⟨w.heap.size,10,none⟩) bB).trans g10;have e11:=(b3.cell (p:=⟨w.heap.size,11,none⟩) bB).trans g11;have e12:=(b3.cell (p:=⟨w.heap.size,12,none⟩) bB).trans g12;have e13:=(b3.cell (p:=⟨w.heap.size,13,none⟩) bB).trans g13;have e14:=(b3.cell (p:=⟨w.heap.size,14,none⟩) bB).trans g14;have e15:=(b3.cell (p:=⟨w.heap.size,15,none⟩) bB).trans g15;have e16:=(b3.cell (p:=⟨w.heap.size,16,none⟩) bB).trans g16;have H4:=wJ (HHD.out w3 eS);clear b3 eS H3 g0 g1 g2 g3 g4 g5 g6 g7 g8 g9 g10 g11 g12 g13 g14 g15 g16;go_wp2_with fail
     refine H4.out.mono ?_;rintro e w4 ⟨rfl,b4⟩;have bZ:=wJ (bU.out.trans (b4.mono bU.out.size));clear b4 H4;go_wp2_with fail
     go_ret
     exact⟨zar hr.out.symm,bZ.out⟩
theorem zor(d:De)(S:Nat->Prop)(cs:List Value)(w:World)(hc:pcD.Cs S w d cs)(hS:∀g,S g->g<w.heap.size)(hw:d.wt<=4000):Calls Tryz.prog 35 #[.agg cs.toArray] w λe w'=>e=.returned (.bool d.tooDeep)/\Below w.heap.size w w':=by
 have jk:∀W,Below w.heap.size w W->∀g,S g->g<W.heap.size:=λW hW g hg=>by have:=hS g hg;have:=hW.size;omega
 have hL0:LstG pcC S w [] none:=λh=>absurd rfl h;cases d with
 |data n ps l =>
  obtain⟨V,v,A,a,rfl,-,hl⟩:=hc;have hwl:za2 l<=4000:=by simp only[De.wt]at hw;omega
  have:=zeY l S 1 ⟨n.toArray⟩ V ps.length v A l.length a 0 ⟨#[]⟩ 0 none 0 0 0 ⟨#[]⟩ false 0 ⟨#[]⟩ 0 none 0 0 none 0 0 none 0 0 1 1 false w hl rfl hS hwl (by omega) (by omega) (λW _=>zeJ W) (λW _=>zf6 W) (λW _=>zf5 W);rw[show((l.any λc=>decide (50<c.2.depth)) ||(false ||(decide (50<1)||decide (50<1))))=(De.data n ps l).tooDeep by simp[De.tooDeep]]at this
  exact this
 |sig x t =>
  obtain⟨A,a,rfl,hA⟩:=hc;have aG:t.size<=1000000:=by simp only[De.wt]at hw;omega
  have:=zeY [] S 2 ⟨x.toArray⟩ none 0 0 none 0 0 (kd t:Nat) (nmB t) (nn t:Nat) A (kids t).length a 0 ⟨#[]⟩ false 0 ⟨#[]⟩ 0 none 0 0 none 0 0 none 0 0 t.depth 1 false w hL0 rfl hS (by simp[za2]) (by have:=zbw t;omega) (by omega)
   (λW hW=>zdI 1000000 t S _ W aG (tV _) (show RdV S W t _ from⟨A,a,rfl,Args.keep (λ_ h=>h) (λg hg=>hW.block g (hS g hg)) _ _ hA⟩) (jk W hW)) (λW _=>zf6 W) (λW _=>zf5 W)
  rw[show((([]:List (Nm × Ty)).any λc=>decide (50<c.2.depth)) ||(false ||(decide (50<t.depth)||decide (50<1))))=(De.sig x t).tooDeep by simp[De.tooDeep]]at this
  exact this
 |bind x e =>
  obtain⟨P,rfl,h2,h3⟩:=hc;have hX:∀W,Below w.heap.size w W->RdX S W e (.agg (exC e P).toArray):=λW hW=>⟨P,rfl,h2.keep (λ_ h=>h) (λg hg=>hW.block g (hS g hg)),ExIn.keep (λ_ h=>h) (λg hg=>hW.block g (hS g hg)) e _ _ h3⟩;obtain⟨K,X,Z,B,m,q,hs⟩:=zaT (tyE e) P.A P.a;have hL:exC e P=[.int .i64 (kdE e:Nat),.string ⟨(nmE e).toArray⟩,.bool (toE e),.int .i64 K,.string X,.int .i64 Z,.slice B m q,.slice P.K (zac e).length ((zac e).length+P.k),.slice P.L (zad e).length P.l]:=by rw[exC,hs];rfl
  rw[hL]at hX ⊢
  have hwe:e.wt<=4000:=by simp only[De.wt]at hw;omega
  have hse:e.size<=400000:=by have:=Sx.size_wt e;omega
  have:=zeY [] S 3 ⟨x.toArray⟩ none 0 0 none 0 0 0 ⟨#[]⟩ 0 none 0 0 (kdE e:Nat) ⟨(nmE e).toArray⟩ (toE e) K X Z B m q P.K (zac e).length ((zac e).length+P.k) P.L (zad e).length P.l 1 e.depth e.deepT w hL0 rfl hS (by simp[za2]) (by omega) (by have:=zbb e;omega) (λW _=>zeJ W)
   (λW hW=>zmo 400000 e S _ W hse (tV _) (by omega) (hX W hW) (jk W hW)) (λW hW=>zmm 400000 e S _ W hse (tV _) (hX W hW) (jk W hW))
  rw[show((([]:List (Nm × Ty)).any λc=>decide (50<c.2.depth)) ||(e.deepT ||(decide (50<1)||decide (50<e.depth))))=(De.bind x e).tooDeep by simp[De.tooDeep,Ex.tooDeep,Bool.or_comm]]at this
  exact this
set_option maxRecDepth 100000
theorem zju:(Tryz.prog.info? 81).map (λi=>(i.zero,i.size,i.bytes))=some (some (.agg #[.int .i64 0,.string ⟨#[]⟩,.slice none 0 0,.slice none 0 0,.int .i64 0,.string ⟨#[]⟩,.int .i64 0,.slice none 0 0,.int .i64 0,.string ⟨#[]⟩,.bool false,.int .i64 0,.string ⟨#[]⟩,.int .i64 0,.slice none 0 0,.slice none 0 0,.slice none 0 0]),17,264):=by kernel_rfl
def sepD(f:Nat)(l:List Tok):Option (List De × List Tok):=sepM (λ_=>rdDecl) f l
def HdP(ts:List Tok)(SO:Option (List De × List Tok))(w1:World)(gg:Nat)(vo vi vm:Value)(wr:World):Prop :=
 ∃(P:Option (List Tok)) (z:Int) (qm:Bool) (A:Option Addr) (n c:Nat),gg=(if qm=true then P.elim 0 List.length+1 else 0)/\vo=.slice A n c/\vi=.int .i64 z/\vm=.bool qm/\PAt ts P z/\Hid (Below w1.heap.size w1 wr) /\
  Hid (qm=true->∃r f' done,P=some r/\r.length+1<=f'/\n=done.length/\done.length+r.length<=ts.length/\0<ts.length/\SO=(sepD f' r).map (λy=>(done++y.1,y.2))/\BuiltG pcD w1.heap.size 81 wr done (.slice A n c)) /\
  Hid (qm=false->SO.map (·.2)=P/\n<=100001/\∀l rl,SO=some (l,rl)->n=l.length/\BuiltG pcD w1.heap.size 81 wr l (.slice A n c))
theorem zkQ(s:List UInt8)(ts:List Tok)(a:Nat)(h:zaX s=(ts,a,0)):zbe s=match rdProg ts with
  |some (l,[])=>if l.any De.tooDeep then .error 3 else .ok l
  |_=>.error 80:=by
 rw[zbe,h]
 rfl
theorem zkR(s:List UInt8)(ts:List Tok)(a er:Nat)(h:zaX s=(ts,a,er))(he:er≠0):zbe s=.error er:=by
 rw[zbe,h]
 cases er with
 |zero=>exact absurd rfl he
 |succ n=>rfl
theorem zkS(l:List De)(i:Nat)(x:De)(h:l[i]?=some x):(l.take (i+1)).any De.tooDeep=((l.take i).any De.tooDeep||x.tooDeep):=by
 rw[uL,h,List.any_append]
 simp
set_option maxRecDepth 10000000 in
theorem zmN(s:ByteArray)(w:World)(hs:s.size<=maxLen):Calls Tryz.prog 9 #[.string s] w (QPost s.data.toList w):=by
 obtain⟨i0,bJ,bO,bz,bE⟩:=vz zju;have kP:Hid ((Tryz.prog.info? 81).map (·.size)=some 17):=wJ (by kernel_rfl);have th:=wJ (znY s w hs);go_enter Tryz.func9,Tryz.ntmps9
 go_wp2_with fail
 refine th.out.mono ?_;rintro e w1 ⟨b1,v,ts,a,er,ix,rfl,ae⟩;have bj:=b1.size;have aJ:=wJ b1;have l7:=wJ ix;have bD:=wJ (RdT.of_own ae);obtain⟨A1,c1,rfl⟩:∃P c,v=.slice P ts.length c:=zat ae;clear b1 ix ae th;by_cases he:er=0
 ·subst he
  obtain⟨hG,hL⟩:=zev _ _ _ l7.out;have hPA:=zkQ _ _ _ l7.out;obtain⟨SO,ld⟩:∃O,rdProg ts=O:=⟨_,rfl⟩;rw[ld]at hPA
  have kD:=ld;rw[zgp ts hG]at kD
  have pq:0<ts.length->0<w1.heap.size:=λh=>by
   obtain⟨g,c',dv,-,h1,-⟩:=bD.out.at_ 0 h;have:=zaj h1;omega
  obtain⟨N0,lg⟩:∃n,ts.length=n:=⟨_,rfl⟩;obtain⟨q0,qo⟩:∃q,decide (0<N0)=q:=⟨_,rfl⟩;have d0:decide ((0:Int)<(N0:Int))=q0:=by rw[<-qo];exact decide_eq_decide.2 (by omega)
  have hN9:N0<=100000:=by omega
  have ey:Hid (HdP ts SO w1 (if q0=true then N0+1 else 0) (.slice none 0 0) (.int .i64 0) (.bool q0) w1):=wJ (by
   refine⟨some ts,0,q0,none,0,0,by rw[<-lg];rfl,rfl,rfl,rfl,PAt.some_ ts 0 (vK _),wJ (ua _ _),wJ (λh=>?_),wJ (λh=>?_)⟩
   ·have h0:0<N0:=vg (qo.trans h)
    refine⟨ts,3*ts.length,[],rfl,by omega,rfl,by simp,by omega,?_,BuiltG.nil _ _ _ _⟩;rw[ue (by omega)]at kD
    rw[<-kD,sepD]
    cases sepM (λ_=>rdDecl) (3*ts.length) ts <;> simp
   ·have h0:¬0<N0:=vh (qo.trans h)
    rw[ud (by omega)]at kD
    have htn:ts=[]:=vw.1 (by omega);rw[<-kD]
    refine⟨by rw[htn];rfl,by omega,λl rl h=>?_⟩;injection h with h;injection h with h _;subst h;exact⟨rfl,BuiltG.nil _ _ _ _⟩)
  have HPA:=wJ hPA;have pW:=wJ ld;have HG:=wJ hG;have fD:=wJ lg;have HPOS:=wJ pq;rw[lg]at bD hL ⊢
  obtain⟨g0,sb⟩:∃x,(if q0=true then N0+1 else 0)=x:=⟨_,rfl⟩;rw[sb]at ey
  clear ld kD hPA lg hG pq sb;go_wp2_with fail
  go_loopg [7,8,9] g0 (λgg vo vi vm wr=>HdP ts SO w1 gg vo vi vm wr)
  case atStart=>exact ey.out
  case round =>
   obtain⟨P,z,qm,A,n,c,rfl,rfl,rfl,rfl,hpz,hB,hT,hF⟩:=hrel;have dw:=hB.out.size;have hlz:=hpz.lo;cases qm with
   |true =>
    obtain⟨r,f',done,rfl,mA,kx,iV,jd,jk,sM⟩:=hT.out rfl;obtain⟨f1,rfl⟩:∃f1,f'=f1+1:=⟨f'-1,by omega⟩;rcases hpz with⟨h,-⟩|⟨k,hk,rfl,hrk⟩
    ·cases h
    ·injection hrk with hrk
     subst hrk;have h0w:=HPOS.out jd;obtain⟨vs,ae,ao⟩:=sM;rw[<-kx]at ae
     replace ae:wr.ownsRow w1.heap.size 81 17 (.slice A n c) n vs:=ae;have pw:n<=100000:=by have:=fD.out;omega
     have aM:=wJ ae;have av:=wJ ao;have oS:=wJ jk;have gM:=wJ (And.intro kx (And.intro iV mA));have HDC:=wJ (zok ts _ HG.out (by have:=fD.out;omega) wr k hk (bD.out.below hB.out));obtain⟨O,hO⟩:∃O,rdDecl (ts.drop k)=O:=⟨_,rfl⟩;rw[hO]at HDC
     have HO:=wJ hO;have hkN:k<=N0:=by rw[<-fD.out];exact hk
     have p6:Hid (∀y rb,O=some (y,rb)->rb.length+1<=(ts.drop k).length):=wJ λy rb ho=>(zdY (ts.drop k) y rb (λx hx=>HG.out x (List.mem_of_mem_drop hx)) (HO.out.trans ho)).2;clear ae ao jk kx iV mA hO hT hF hk;go_wp2_with fail
     refine HDC.out.mono ?_;rintro e w2 ⟨b2,cs,z2,⟨mM,ds,dV,mJ,mI,dG,mO,mN,mR,mQ,mP,mT,mL,mK,dk,dx,dt,dK,dX,dZ,dB,dm,dq,dp,df,dh,dj,cY,dc,rfl⟩,rfl,j7,au⟩;have bo:=b2.size;have eY:=j7.lo;have gK:=wJ j7;have gB:=wJ au;have kb:Below wr.heap.size wr (w2.alloc (.cells #[.int .i64 mM,.string ds,.slice dV mJ mI,.slice dG mO mN,.int .i64 mR,.string mQ,.int .i64 mP,.slice mT mL mK,.int .i64 dk,.string dx,.bool dt,.int .i64 dK,.string dX,.int .i64 dZ,.slice dB dm dq,.slice dp df dh,.slice dj cY dc] 81)):=b2.alloc bo _;have fU:=wJ kb;have ma:=wJ ((own_below aM.out kb).alloc (.cells #[.int .i64 mM,.string ds,.slice dV mJ mI,.slice dG mO mN,.int .i64 mR,.string mQ,.int .i64 mP,.slice mT mL mK,.int .i64 dk,.string dx,.bool dt,.int .i64 dK,.string dX,.int .i64 dZ,.slice dB dm dq,.slice dp df dh,.slice dj cY dc] 81));clear b2 j7 au kb HDC;go_wp2_with (first
      |((with_reducible refine wpList_store_row ?_ 81 (.tmp 10) (.tmp 31) ?_ w2.heap.size #[.int .i64 mM,.string ds,.slice dV mJ mI,.slice dG mO mN,.int .i64 mR,.string mQ,.int .i64 mP,.slice mT mL mK,.int .i64 dk,.string dx,.bool dt,.int .i64 dK,.string dX,.int .i64 dZ,.slice dB dm dq,.slice dp df dh,.slice dj cY dc] ?_ ?_ 81 #[.int .i64 0,.string ⟨#[]⟩,.slice none 0 0,.slice none 0 0,.int .i64 0,.string ⟨#[]⟩,.int .i64 0,.slice none 0 0,.int .i64 0,.string ⟨#[]⟩,.bool false,.int .i64 0,.string ⟨#[]⟩,.int .i64 0,.slice none 0 0,.slice none 0 0,.slice none 0 0] (tW w2 _) ?_ ?_ ?_ ?_);(exact rfl);(exact rfl);(exact rfl);(exact rfl);(exact(by kernel_rfl));(exact(by kernel_rfl));(exact(zcm _ _ _ _ _ _ _ _ _ _ _ _ _ _ _ _ _ _ _ _ _ _ _ _ _ _ _ _ _));rw[World.setRow_alloc_new])
      |((with_reducible refine wpList_load_row ?_ 81 (.tmp 10) ?_ w2.heap.size ?_ 81 _ (0,0) _ (tW w2 _) Tryz.underlying81 ?_ ?_ ?_);(exact rfl);(exact rfl);(exact rfl);(exact rfl);(exact(by kernel_rfl)))
      |(at_builtin;refine uP _ rfl (.tmp 33) (.tmp 35) 27 rfl w1.heap.size 81 i0 _ 17 264 Tryz.underlying27 bJ bO bz bE rfl (by decide) _ n vs rfl ma.out ⟨w2.heap.size+1,0,none⟩ 1 1 [.int .i64 mM,.string ds,.slice dV mJ mI,.slice dG mO mN,.int .i64 mR,.string mQ,.int .i64 mP,.slice mT mL mK,.int .i64 dk,.string dx,.bool dt,.int .i64 dK,.string dX,.int .i64 dZ,.slice dB dm dq,.slice dp df dh,.slice dj cY dc] rfl rfl (zao _ _ _ _ (by simp)) (by intro u hu;simp at hu;rcases hu with rfl|rfl|rfl|rfl|rfl|rfl|rfl|rfl|rfl|rfl|rfl|rfl|rfl|rfl|rfl|rfl|rfl <;> rfl) (by unfold maxLen;omega) (by omega) (by simp;omega) ?_;intro v2 w5 aI ab _ cv;obtain⟨A2,c2,rfl⟩:=zat aI;have eU:=wJ aI;have cQ:=wJ ab;have fZ:=wJ cv;clear aI ab cv))
     have ee:=cQ.out.size;simp at ee;have oL:=aM.out.lt;have tJ:Hid (∀y rb,O=some (y,rb)->BuiltG pcD w1.heap.size 81 w5 (done++[y]) (.slice A2 (n+1) c2)):=wJ λy rb ho =>
      BuiltG.next (P:=pcD) (b:=0) (w:=wr) (w1:=w2.alloc (.cells #[.int .i64 mM,.string ds,.slice dV mJ mI,.slice dG mO mN,.int .i64 mR,.string mQ,.int .i64 mP,.slice mT mL mK,.int .i64 dk,.string dx,.bool dt,.int .i64 dK,.string dX,.int .i64 dZ,.slice dB dm dq,.slice dp df dh,.slice dj cY dc] 81)) (by omega) (by omega) (by rw[<-gM.out.1];exact aM.out) av.out (ChR.of_below fU.out) (pcD.keep (λg hg=>⟨hg.1,by simp;omega⟩) (λg hg=>uc _ _ _ hg.2) (gB.out y rb ho)) ((ua _ _).alloc (tV _) _) (by rw[<-gM.out.1];exact eU.out) cQ.out fZ.out
     have hB5:Below w1.heap.size w1 w5:=(hB.out.trans (fU.out.mono dw)).trans (((ua w1.heap.size _).alloc (by simp;omega) _).grown cQ.out (by simp;omega) (λj hj=>by have:=oL j hj;omega));have gk:=wJ hB5;have mh:=wJ (zaY _ ts _ z2 6 ⟨#[59]⟩ 6 rfl (by decide) w5 (bD.out.below hB5) gK.out);obtain⟨qs,j5⟩:∃q,isO 6 [59] (O.map (·.2))=q:=⟨_,rfl⟩;rw[show(⟨#[59]⟩:ByteArray).data.toList=[59] from rfl,j5]at mh
     have iZ:=wJ j5;clear j5 hB5 oL;go_wp2_with fail
     refine mh.out.mono ?_;rintro e w7 ⟨rfl,rfl⟩;clear mh;cases qs with
     |true =>
      obtain⟨dP,q8,pc⟩:=zbd (by decide) gK.out iZ.out;obtain⟨⟨y,rb⟩,iY⟩:∃u,O=some u:=by
       cases iY:O with
       |none=>have:=iZ.out;rw[iY]at this;cases this
       |some u=>exact⟨u,rfl⟩
      have hH:nxO 6 [59] (O.map (·.2))=some rb.tail:=by
       have:=iZ.out;rw[iY]at this ⊢
       rw[nxO,this,ud rfl];rfl
      rw[hH]at dP
      have nt:=p6.out y rb iY;have ju:z2<=100000:=by rw[fD.out]at pc;omega
      have ru:rb.tail.length<=rb.length:=by simp
      have iV:(ts.drop k).length=N0-k:=by rw[uR,fD.out]
      rw[iV]at nt
      have jP:=wJ dP;have cR:Hid (∃r' f' done',some rb.tail=some r'/\r'.length+1<=f'/\n+1=done'.length/\done'.length+r'.length<=ts.length/\0<ts.length/\SO=(sepD f' r').map (λy=>(done'++y.1,y.2))/\BuiltG pcD w1.heap.size 81 w5 done' (.slice A2 (n+1) c2)):=wJ (by
       have mB:=gM.out.2.1;have lL:=gM.out.2.2;rw[iV]at mB lL
       refine⟨rb.tail,f1,done++[y],rfl,by omega,by rw[uf,<-gM.out.1];rfl,by rw[uf,we];omega,jd,?_,tJ.out y rb iY⟩;rw[oS.out,sepD,zb8,HO.out,iY]
       have lV:isO 6 [59] (some rb)=true:=by have:=iZ.out;rw[iY]at this;exact this
       simp only[lV,wA,vJ];rw[sepD]
       congr 1
       funext z
       simp)
      clear dP iY hH;go_wp2_with fail
      go_roundg (rb.tail.length+1)
      case measure=>first|(rw[iV];omega)|(simp only[Option.elim_some];rw[iV];omega)|(simp;rw[iV];omega)|(simp;omega)
      case rel=>exact⟨some rb.tail,z2+1,true,A2,n+1,c2,rfl,rfl,by go_num,rfl,jP.out,gk,wJ (λ_=>cR.out),wJ (λh=>by cases h)⟩
     |false =>
      have cR:Hid (SO.map (·.2)=O.map (·.2)/\n+1<=100001/\∀l rl,SO=some (l,rl)->n+1=l.length/\BuiltG pcD w1.heap.size 81 w5 l (.slice A2 (n+1) c2)):=wJ (by
       have h1:=oS.out;rw[sepD,zb8,HO.out]at h1
       cases iY:O with
       |none=>rw[iY]at h1;rw[h1];exact⟨rfl,by omega,λl rl h=>by cases h⟩
       |some u =>
        rw[iY]at h1
        have lV:¬isO 6 [59] (some u.2)=true:=by have:=iZ.out;rw[iY]at this;rw[show isO 6 [59] (some u.2)=false from this];decide
        simp only[ue lV,uq]at h1;rw[h1]
        refine⟨rfl,by omega,λl rl h=>?_⟩;injection h with h;injection h with h _;subst h;exact⟨by rw[uf,<-gM.out.1];rfl,tJ.out u.1 u.2 iY⟩)
      go_wp2_with fail
      go_roundg 0
      case measure=>simp
      case rel=>exact⟨O.map (·.2),z2,false,A2,n+1,c2,rfl,rfl,rfl,rfl,gK.out,gk,wJ (λh=>by cases h),wJ (λ_=>cR.out)⟩
   |false =>
    obtain⟨kq,pw,iI⟩:=hF.out rfl;have ez:=wJ kq;have gJ:=wJ iI;have HPZ:=wJ hpz;clear kq iI hT hF hpz;by_cases hz:z=(N0:Int)
    ·have HX:Hid (∃l,SO=some (l,[])):=wJ (by
      rcases HPZ.out with⟨-,h⟩|⟨k,hk,h1,h2⟩
      ·omega
      ·cases hO:SO with
       |none=>have:=ez.out;rw[hO,h2]at this;cases this
       |some u =>
        have h3:=ez.out;rw[hO,h2]at h3
        replace h3:u.2=ts.drop k:=by injection h3
        exact⟨u.1,by rw[show u=(u.1,u.2) from rfl,h3,uD (by rw[fD.out];omega)]⟩)
     obtain⟨l,hl⟩:=HX.out;obtain⟨rO,eM⟩:=gJ.out l [] hl;obtain⟨-,rV⟩:=eM.lst;obtain⟨ay,-,du⟩:=zel HG.out (pW.out.trans hl);simp only[uF,Nat.add_zero]at du;have rh:desW l<=4000:=by have:=fD.out;have:=du;omega
     have HP:Hid (zbe s.data.toList=if l.any De.tooDeep=true then .error 3 else .ok l):=wJ (by rw[HPA.out,hl]);have HL:=wJ rV;have gb:=wJ ay;have sW:=wJ rh;have gh:=wJ rO;have dz:(z !=(N0:Int))=false:=by rw[hz];simp
     clear hl rO eM rV ay du rh hz HX;obtain⟨wq,rj⟩:∃y,y=wr:=⟨_,rfl⟩;subst rj;go_wp2_with fail
     go_loopg [12] n (λgg vi wy=>∃k:Nat,gg=n-k/\vi=.int .i64 (k:Nat)/\k<=n/\Hid ((l.take k).any De.tooDeep=false)/\Hid (Below wq.heap.size wq wy))
     case atStart=>exact⟨0,rfl,rfl,by omega,wJ rfl,wJ (ua _ _)⟩
     case round =>
      obtain⟨k,rfl,rfl,hk,hU,iB⟩:=hrel;have rA:=iB.out.size;by_cases ah:k<n
      ·obtain⟨x,hx⟩:∃x,l[k]?=some x:=⟨_,ug (by rw[<-gh.out];exact ah)⟩
       obtain⟨g,cs,rfl,bh,au,ao⟩:=HL.out.row k x hx;have hlen:cs.length=17:=pcD.len au;have av:Hid (wr.rangeAt g (k*17) cs):=wJ (Lie.keep (w:=wq) ao (iB.out.block g bh.2));have fc:Hid ((Tryz.prog.info? 81).map (·.size)=some cs.length):=wJ (by rw[hlen];exact kP.out);have aV:g<wr.heap.size:=by have:=bh.2;omega
       have ng:x.wt<=4000:=by have:=zc4 l x (uM hx);have:=sW.out;omega
       have hd:=zor x _ cs wr (pcD.keep (λ_ h=>h) (λg hg=>iB.out.block g hg.2) au) (λg hg=>by have:=hg.2;omega) ng;obtain⟨q,hq⟩:∃q,x.tooDeep=q:=⟨_,rfl⟩;have aO:Hid (q=true->l.any De.tooDeep=true):=wJ λh=>wB.2 ⟨x,uM hx,hq.trans h⟩;have bP:Hid (q=false->(l.take (k+1)).any De.tooDeep=false):=wJ λh=>by rw[zkS l k x hx,hU.out,hq,h];rfl
       rw[hq]at hd
       have ak:=wJ hd;have qZ:(0:Int)<=(k:Int):=by omega
       have qY:(k:Int)<(n:Int):=by omega
       clear hx bh au ao hlen ng hd hq;go_wp2_with ((with_reducible refine wpList_load_mid ?_ 81 (.tmp 56) ?_ g (k*17) ?_ cs _ av.out Tryz.underlying81 ?_ fc.out ?_);(exact rfl);(exact rfl);(exact rfl);(exact rfl))
       refine ak.out.mono ?_;rintro e w8 ⟨rfl,b8⟩;have kU:=wJ (iB.out.trans (b8.mono rA));clear b8 ak;cases q with
       |true =>
        have hr:=wJ (aO.out rfl);go_wp2_with fail
        go_ret2
        exact⟨(aJ.out.trans (hB.out.mono bj)).trans (kU.out.mono (by omega)),.inl ⟨3,by decide,by rw[HP.out,ud hr.out],rfl⟩⟩
       |false =>
        have hr:=wJ (bP.out rfl);go_wp2_with fail
        go_roundg (n-(k+1))
        case measure=>omega
        case rel=>exact⟨k+1,rfl,by go_num,by omega,hr,kU⟩
      ·have bg:k=n:=by omega
       subst bg;have hr:Hid (¬l.any De.tooDeep=true):=wJ (by
        have:=hU.out;rw[ur (by rw[<-gh.out];exact tV _)]at this
        rw[this];decide)
       go_wp2_with fail
       go_ret2
       exact⟨(aJ.out.trans (hB.out.mono bj)).trans (iB.out.mono (by omega)),.inr ⟨l,A,k,c,gb.out,sW.out,by rw[HP.out,ue hr.out],rfl,gh.out,HL.out.keep (λg hg=>⟨by omega,by have:=hg.2;omega⟩) (λg hg=>iB.out.block g hg.2)⟩⟩
    ·have dz:(z !=(N0:Int))=true:=by simpa using hz
     have HP:Hid (zbe s.data.toList=.error 80):=wJ (by
      rw[HPA.out]
      cases hO:SO with
      |none=>rfl
      |some u =>
       obtain⟨y,r⟩:=u;cases r with
       |cons t r=>rfl
       |nil =>
        exfalso
        have h3:=ez.out;rw[hO]at h3
        rcases HPZ.out with⟨h,-⟩|⟨k,hk,h1,h2⟩
        ·rw[h]at h3;cases h3
        ·rw[h2]at h3
         replace h3:([]:List Tok)=ts.drop k:=by injection h3
         have:=uC List.length h3;rw[uR,fD.out]at this
         simp only[uF]at this;rw[fD.out]at hk
         omega)
     clear hz;go_wp2_with fail
     go_ret2
     exact⟨aJ.out.trans (hB.out.mono bj),.inl ⟨80,by decide,HP.out,rfl⟩⟩
 ·have de:=neqT (er:Int) 0 (by omega)
  have HP:Hid (er≠0/\zbe s.data.toList=.error er):=wJ ⟨he,zkR _ _ _ _ l7.out he⟩;clear he;go_wp2_with fail
  go_ret2
  exact⟨aJ.out,.inl ⟨er,HP.out.1,HP.out.2,rfl⟩⟩
end Go.Proofs.YtknkclefoiohpaaGreatDoor
