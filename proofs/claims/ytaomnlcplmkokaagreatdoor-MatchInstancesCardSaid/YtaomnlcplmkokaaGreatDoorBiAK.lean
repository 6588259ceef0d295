import Derived.Test.YtaomnlcplmkokaaGreatDoorBiAJ
import Derived.Test.YtaomnlcplmkokaaGreatDoorCards
import Derived.Test.YtaomnlcplmkokaaGreatDoorTie
import Derived.SevenTiedAt
set_option maxHeartbeats 12800000
namespace Go.Proofs.YtaomnlcplmkokaaGreatDoor
open Go.RowKit Lx Tx Go.Maps Go.WideMaps Go.Shelf
def RdBoth(s:ByteArray)(q:Bool)(w:World)(v vr:Value):Prop:=q=true->∃t,readsTo s t/\RdN w t v/\RdN w t vr
theorem RdBoth.below {s:ByteArray} {q:Bool} {w w':World} {v vr:Value}(h:RdBoth s q w v vr)(hb:Below w.heap.size w w'):RdBoth s q w' v vr:=λhq=>by
 obtain⟨t,h1,h2,h3⟩:=h hq;exact⟨t,h1,h2.below hb,h3.below hb⟩
end Go.Proofs.YtaomnlcplmkokaaGreatDoor
namespace Go.Proofs.YtaomnlcplmkokaaGreatDoor.matchInstances
open Go.ChangeShapes Go.WideShapes Go.ChangeAt Go.RowKit Lx Tx Go.Shelf
open Go.ChangeMaps (open_string shut_string)
set_option maxRecDepth 100000
def CutP(t:Ty)(V wx:World)(s15 s16:Value):Prop :=
 ∃b K X Z A m p cur An nn cn,s15=.slice An nn cn/\s16=.pointer (some ⟨b,0,none⟩)/\Blk wx b 29 #[.int .i64 K,.string X,.int .i64 Z,.slice A m p]/\RdN wx cur (.agg #[.int .i64 K,.string X,.int .i64 Z,.slice A m p])/\RowV wx (.slice An nn cn) (strV (zaG 112 t.free t 0)) /\
  cur.size<=t.size/\db [] cur=inst (fvs (newY 112 t.free t)) 0 (core t)/\Below V.heap.size V wx
theorem zn6 {t:Ty} {V w1 wP:World} {vn:Value} {K Z:Int} {X:ByteArray} {A:Option Addr} {m p:Nat} {cur:Ty}(hV:Below V.heap.size V w1)(bP:Below w1.heap.size w1 wP)(hrow:RowV wP vn (strV (zaG 112 t.free t 0)))
  (hr:RdV (λg=>g<V.heap.size\/w1.heap.size<=g/\g<wP.heap.size) wP cur (.agg #[.int .i64 K,.string X,.int .i64 Z,.slice A m p]))(hz:cur.size<=t.size)(hd:db [] cur=inst (fvs (newY 112 t.free t)) 0 (core t)):CutP t V (wP.alloc (.cells #[.int .i64 K,.string X,.int .i64 Z,.slice A m p] 29)) vn (.pointer (some ⟨wP.heap.size,0,none⟩)):=by
 obtain⟨An,nn,cn,rfl⟩:=hrow.shape;have h1:=hV.size;have h2:=bP.size;have hba:Below wP.heap.size wP (wP.alloc (.cells #[.int .i64 K,.string X,.int .i64 Z,.slice A m p] 29)):=(Below.refl _ _).alloc (Nat.le_refl _) _;exact⟨wP.heap.size,K,X,Z,A,m,p,cur,An,nn,cn,rfl,rfl,heap_alloc_new _ _,hr.keep (λg hg=>by simp;omega) (λg hg=>hba.block g (by omega)),hrow.below hba,hz,hd,(hV.trans (bP.mono h1)).trans (hba.mono (by omega))⟩
theorem zlX {t:Ty} {V w1 wP:World} {b:Nat} {vn:Value} {K Z:Int} {X:ByteArray} {A:Option Addr} {m p:Nat} {cur:Ty} {a0 a1 a2 a3:Value}(hV:Below V.heap.size V w1)(bP:Below w1.heap.size w1 wP)(hrow:RowV wP vn (strV (zaG 112 t.free t 0)))
  (hr:RdV (λg=>g<V.heap.size\/w1.heap.size<=g/\g<wP.heap.size) wP cur (.agg #[.int .i64 K,.string X,.int .i64 Z,.slice A m p]))(hz:cur.size<=t.size)(hd:db [] cur=inst (fvs (newY 112 t.free t)) 0 (core t))(ho:∀g,vn.ownBlock=some g->w1.heap.size<=g)
  (hb1:V.heap.size<=b)(hb2:b<w1.heap.size)(hblk:Blk wP b 29 #[a0,a1,a2,a3]):CutP t V ((((wP.setCell ⟨b,0,none⟩ (.int .i64 K)).setCell ⟨b,1,none⟩ (.string X)).setCell ⟨b,2,none⟩ (.int .i64 Z)).setCell ⟨b,3,none⟩ (.slice A m p)) vn (.pointer (some ⟨b,0,none⟩)):=by
 have h1:=hV.size;have h2:=bP.size;have hrs:=hrow;obtain⟨Ar,cr,hvr,hcr⟩:=hrow;refine⟨b,K,X,Z,A,m,p,cur,Ar,_,cr,hvr,rfl,zad _ _ _ _ hblk,hr.keep (λg hg=>by rw[za3];omega) (λg hg=>zaj _ _ _ _ _ _ _ (by omega)),⟨Ar,cr,rfl,λh0=>?_⟩,hz,hd,zaf (hV.trans (bP.mono h1)) _ _ _ _ hb1⟩;obtain⟨g,hA,hg,hcc⟩:=hcr h0;have hge:=ho g (by rw[hvr,hA];rfl);exact⟨g,hA,by rw[za3];exact hg,λj u hu=>by rw[World.cell?_of_block (w:=wP) (zaj _ _ _ _ _ _ _ (by show g≠b;omega))];exact hcc j u hu⟩
def zsB(n:Nat)(w0:World)(gg:Nat)(vi:Value)(wr:World):Prop:=∃i:Nat,gg=n-i/\vi=.int .i64 (i:Nat)/\i<=n/\Below w0.heap.size w0 wr
theorem walk(s1 s2:ByteArray)(w:World)(ht:Tab w)(hs1:s1.size<=maxLen)(hs2:s2.size<=maxLen):Calls Tryz.prog 4 #[.string s1,.string s2] w λe w'=>e=.returned (.bool true)/\Below w.heap.size w w':=by
 have HT:=hidE ht;have HAW:=hidE (zkk w ht);have HP1:=hidE (λw=>zdJ s1 w hs1);have HP2:=hidE (λw=>zdJ s2 w hs2);clear ht hs1 hs2;go_enter Tryz.func4,Tryz.ntmps4
 go_wp2_with fail
 refine HAW.out.mono ?_;rintro e wa ⟨rfl,hbb⟩;have BW:Hid (Below w.heap.size w wa):=hidE hbb;clear hbb HAW;go_wp2_with fail
 refine(HP1.out _).mono ?_;rintro e w1 ⟨K1,X1,Z1,A1,m1,c1,Kr1,Xr1,Zr1,Ar1,mr1,cr1,q1,rfl,b1,hy⟩;obtain⟨V1,hV1⟩:∃V,(w1.alloc (.cells #[.int .i64 K1,.string X1,.int .i64 Z1,.slice A1 m1 c1] 26)).alloc (.cells #[.int .i64 Kr1,.string Xr1,.int .i64 Zr1,.slice Ar1 mr1 cr1] 29)=V:=⟨_,rfl⟩;have hbk:Blk V1 w1.heap.size 26 #[.int .i64 K1,.string X1,.int .i64 Z1,.slice A1 m1 c1]:=hV1▸zae _ _ _ _ (heap_alloc_new _ _);have hbr:Blk V1 (w1.heap.size+1) 29 #[.int .i64 Kr1,.string Xr1,.int .i64 Zr1,.slice Ar1 mr1 cr1]:=hV1▸alloc_at _ _ _ (by simp);have hba:Below w1.heap.size w1 V1:=hV1▸((Below.refl _ _).alloc (Nat.le_refl _) _).alloc (by simp) _;have hri:RdBoth s1 q1 V1 (.agg #[.int .i64 K1,.string X1,.int .i64 Z1,.slice A1 m1 c1]) (.agg #[.int .i64 Kr1,.string Xr1,.int .i64 Zr1,.slice Ar1 mr1 cr1]):=λhq=>by
  obtain⟨t,h1,h2,h3⟩:=hy hq;exact⟨t,h1,h2.below hba,h3.below hba⟩
 have hbb:Below wa.heap.size wa V1:=b1.trans (hba.mono b1.size);replace BW:Hid (Below w.heap.size w V1):=hidE (BW.out.trans (hbb.mono BW.out.size));have P7:=hidE hbk;have P2:=hidE hbr;have P9:=hidE hri;have HV:=hidE hV1;clear hbk hbr hba hri hbb hy b1 hV1 HP1;go_upto_region 3 with fail
 rw[HV.out]
 clear HV;go_wp2_with fail
 refine(HP2.out _).mono ?_;rintro e w2 ⟨K2,X2,Z2,A2,m2,c2,Kr2,Xr2,Zr2,Ar2,mr2,cr2,q2,rfl,b2,hy⟩;obtain⟨V2,hV2⟩:∃V,(w2.alloc (.cells #[.int .i64 K2,.string X2,.int .i64 Z2,.slice A2 m2 c2] 26)).alloc (.cells #[.int .i64 Kr2,.string Xr2,.int .i64 Zr2,.slice Ar2 mr2 cr2] 29)=V:=⟨_,rfl⟩;have hbk:Blk V2 w2.heap.size 26 #[.int .i64 K2,.string X2,.int .i64 Z2,.slice A2 m2 c2]:=hV2▸zae _ _ _ _ (heap_alloc_new _ _);have hbr:Blk V2 (w2.heap.size+1) 29 #[.int .i64 Kr2,.string Xr2,.int .i64 Zr2,.slice Ar2 mr2 cr2]:=hV2▸alloc_at _ _ _ (by simp);have hba:Below w2.heap.size w2 V2:=hV2▸((Below.refl _ _).alloc (Nat.le_refl _) _).alloc (by simp) _;have hri:RdBoth s2 q2 V2 (.agg #[.int .i64 K2,.string X2,.int .i64 Z2,.slice A2 m2 c2]) (.agg #[.int .i64 Kr2,.string Xr2,.int .i64 Zr2,.slice Ar2 mr2 cr2]):=λhq=>by
  obtain⟨t,h1,h2,h3⟩:=hy hq;exact⟨t,h1,h2.below hba,h3.below hba⟩
 have hbb:Below V1.heap.size V1 V2:=b2.trans (hba.mono b2.size);replace BW:Hid (Below w.heap.size w V2):=hidE (BW.out.trans (hbb.mono BW.out.size));replace P7:=hidE (P7.out.below hbb P7.out.lt);replace P2:=hidE (P2.out.below hbb P2.out.lt);replace P9:=hidE (P9.out.below hbb);have P8:=hidE hbk;have P3:=hidE hbr;have Q1:=hidE hri;have HV:=hidE hV2;clear hbk hbr hba hri hbb hy b2 hV2 HP2;go_upto_region 4 with fail
 rw[HV.out]
 clear HV;by_cases hall:q1=true/\q2=true
 ·obtain⟨rfl,rfl⟩:=hall
  obtain⟨t1,hrt1,hrd1,hrr1⟩:=P9.out rfl;obtain⟨t2,hrt2,hrd2,hrr2⟩:=Q1.out rfl;obtain⟨hn1,hz1⟩:=zcA hrt1;obtain⟨hn2,hz2⟩:=zcA hrt2;have RD1:=hidE hrd1;have RD2:=hidE hrd2;have P4:=hidE hrr1;have P5:=hidE hrr2;have M6:=hidE hn1;have M7:=hidE hn2;clear P9 Q1 hrt1 hrt2 hrd1 hrd2 hrr1 hrr2 hn1 hn2;obtain⟨x0,x1,x2,x3⟩:=blk4 P7.out;obtain⟨y0,y1,y2,y3⟩:=blk4 P8.out;have HI:=hidE (zeG t1 t2 _ _ _ _ V2 (HT.out.below BW.out) RD1.out RD2.out (λ_ h=>h) (λ_ h=>h) M6.out M7.out (by omega) (by omega));go_wp2_with fail
  refine HI.out.mono ?_;rintro e w21 ⟨⟨q21,rfl,hq21⟩,hbb⟩;replace BW:Hid (Below w.heap.size w w21):=hidE (BW.out.trans (hbb.mono BW.out.size));replace P7:=hidE (P7.out.below hbb P7.out.lt);replace P2:=hidE (P2.out.below hbb P2.out.lt);replace P3:=hidE (P3.out.below hbb P3.out.lt);replace RD1:=hidE (RD1.out.below hbb);replace P4:=hidE (P4.out.below hbb);replace P5:=hidE (P5.out.below hbb);have M5:=hidE hq21;clear hbb hq21 HI x0 x1 x2 x3 y0 y1 y2 y3 P8 RD2;obtain⟨x0,x1,x2,x3⟩:=blk4 P7.out;have N5:=hidE (zlN t1 _ _ w21 (HT.out.below BW.out) RD1.out (λ_ h=>h) M6.out (by omega));go_wp2_with fail
  refine N5.out.mono ?_;rintro e w22 ⟨⟨A9,n9,c9,k5,x5,z5,a5,m5,p5,rfl,h5a,h5b,h5c,h5d⟩,b22⟩;obtain⟨V22,hV22⟩:∃V,w22.alloc (.cells #[.int .i64 k5,.string x5,.int .i64 z5,.slice a5 m5 p5] 26)=V:=⟨_,rfl⟩;have hbk:Blk V22 w22.heap.size 26 #[.int .i64 k5,.string x5,.int .i64 z5,.slice a5 m5 p5]:=hV22▸heap_alloc_new w22 _;have hba:Below w22.heap.size w22 V22:=hV22▸(Below.refl _ _).alloc (Nat.le_refl _) _;have hbb:Below w21.heap.size w21 V22:=b22.trans (hba.mono b22.size);have hrd:RdN V22 (zaV 112 (zam t1) t1 0) (.agg #[.int .i64 k5,.string x5,.int .i64 z5,.slice a5 m5 p5]):=RdN.below (h5d.keep (λg hg=>hg.2) (λ_ _=>rfl)) hba;have N8:=hidE ((RowV.of_own h5c).below hba);replace BW:Hid (Below w.heap.size w V22):=hidE (BW.out.trans (hbb.mono BW.out.size));replace P2:=hidE (P2.out.below hbb P2.out.lt);replace P3:=hidE (P3.out.below hbb P3.out.lt);replace P4:=hidE (P4.out.below hbb);replace P5:=hidE (P5.out.below hbb);have M9:=hidE hbk;have P1:=hidE hrd;have N6:=hidE h5a;have hn6:n9<=1000000:=h5b;have HV:=hidE hV22;obtain⟨hpn,hps⟩:=zmC t1 M6.out (by omega);have N1:=hidE hpn;have N2:=hidE hps;clear hbk hba hbb hrd h5a h5b h5c h5d b22 hV22 N5 x0 x1 x2 x3 P7 RD1 hpn hps;go_upto_region 8 with fail
  rw[HV.out]
  clear HV;have hfl:t1.free.length<=400:=by have:=zaU t1;omega
  have FF:=hidE (λW (h:Below V22.heap.size V22 W)=>zbs t1 _ _ W (by omega) (RdN.below P4.out h) (λg hg=>hg));have PE:=hidE (λW v' (h:Below V22.heap.size V22 W) (hr:RowV W v' (strV t1.free))=>zic 112 t1 (λg=>g<V22.heap.size) _ v' t1.free W (RdV.keep (S':=λg=>g<V22.heap.size) P4.out (λ_ h=>h) (λg hg=>h.block g hg)) (λg hg=>Nat.lt_of_lt_of_le hg h.size) hr (by omega) (by omega));have B0:Hid (Below V22.heap.size V22 V22.drew):=hidE (Below.refl _ V22).drew;have BA:Hid (Below V22.heap.size V22 (V22.alloc (.cells #[.int .i64 0,.string ⟨#[]⟩,.int .i64 0,.slice none 0 0] 29)).drew):=hidE ((Below.refl _ V22).alloc (Nat.le_refl _) _).drew;obtain⟨x0,x1,x2,x3⟩:=blk4 P2.out;have hlr:=P2.out.lt;go_cut [15,16] from 47 to 53 (λs15 s16 wx=>Hid (CutP t1 V22 wx s15 s16))
  case first =>
   go_region_law (first
    |(go_simp;(with_reducible refine(PE.out _ _ BF.out RF.out).mono ?_);rintro e wP ⟨bP,vn,K9,X9,Z9,A9',m9,p9,cur,rfl,hrow,hr,hz,hd,-,hown⟩;have BP:=hidE bP;have P6:=hidE hrow;have HR:=hidE hr;have HZ:=hidE hz;have HD:=hidE hd;have HOW:=hidE hown;clear bP hrow hr hz hd hown)
    |(go_simp;(with_reducible refine(PE.out _ _ BFA.out RFA.out).mono ?_);rintro e wP ⟨bP,vn,K9,X9,Z9,A9',m9,p9,cur,rfl,hrow,hr,hz,hd,-,hown⟩;have BPA:=hidE bP;have P6:=hidE hrow;have HR:=hidE hr;have HZ:=hidE hz;have HD:=hidE hd;have HOW:=hidE hown;have hkk:=KA.out.below bP KA.out.lt;obtain⟨v0,v1,v2,v3,v4,v5,v6,v7,v8⟩:=zaa hkk;have KP:=hidE hkk;clear bP hrow hr hz hd hown hkk)
    |(go_simp;(with_reducible refine(PE.out _ _ (BF.out.alloc BF.out.size _) (RF.out.below ((Below.refl _ _).alloc (Nat.le_refl _) _))).mono ?_);rintro e wP ⟨bP,vn,K9,X9,Z9,A9',m9,p9,cur,rfl,hrow,hr,hz,hd,-,hown⟩;have BPB:=hidE bP;have P6:=hidE hrow;have HR:=hidE hr;have HZ:=hidE hz;have HD:=hidE hd;have HOW:=hidE hown;have hkk:Blk wP wF.heap.size _ _:=Blk.below (heap_alloc_new wF _) bP (by simp);obtain⟨v0,v1,v2,v3,v4,v5,v6,v7,v8⟩:=zaa hkk;have KP:=hidE hkk;clear bP hrow hr hz hd hown hkk)
    |(go_simp;(with_reducible refine(FF.out _ B0.out).mono ?_);rintro e wF ⟨vF,rfl,hrF,bF⟩;have RF:=hidE hrF.1;have BF:=hidE (zac B0.out bF);have y0:=(BF.out.cell (p:=⟨w1.heap.size+1,0,none⟩) hlr).trans x0;have y1:=(BF.out.cell (p:=⟨w1.heap.size+1,1,none⟩) hlr).trans x1;have y2:=(BF.out.cell (p:=⟨w1.heap.size+1,2,none⟩) hlr).trans x2;have y3:=(BF.out.cell (p:=⟨w1.heap.size+1,3,none⟩) hlr).trans x3;have hb0:Below wF.heap.size wF (wF.alloc (.cells #[.int .i64 0,.string ⟨#[]⟩,.int .i64 0,.slice none 0 0] 29)):=(Below.refl _ _).alloc (Nat.le_refl _) _;have hlf:w1.heap.size+1<wF.heap.size:=Nat.lt_of_lt_of_le hlr BF.out.size;have z0:=(hb0.cell (p:=⟨w1.heap.size+1,0,none⟩) hlf).trans y0;have z1:=(hb0.cell (p:=⟨w1.heap.size+1,1,none⟩) hlf).trans y1;have z2:=(hb0.cell (p:=⟨w1.heap.size+1,2,none⟩) hlf).trans y2;have z3:=(hb0.cell (p:=⟨w1.heap.size+1,3,none⟩) hlf).trans y3;clear hrF bF hb0 hlf)
    |(go_simp;(with_reducible refine(FF.out _ BA.out).mono ?_);rintro e wF ⟨vF,rfl,hrF,bF⟩;have RFA:=hidE hrF.1;have BFA:=hidE (zac BA.out bF);have KA:Hid (Blk wF V22.heap.size 29 #[.int .i64 0,.string ⟨#[]⟩,.int .i64 0,.slice none 0 0]):=hidE (Blk.below (w:=(V22.alloc (.cells #[.int .i64 0,.string ⟨#[]⟩,.int .i64 0,.slice none 0 0] 29)).drew) (heap_alloc_new V22 _) bF (by show _<(V22.alloc _).heap.size;simp));have y0:=(BFA.out.cell (p:=⟨w1.heap.size+1,0,none⟩) hlr).trans x0;have y1:=(BFA.out.cell (p:=⟨w1.heap.size+1,1,none⟩) hlr).trans x1;have y2:=(BFA.out.cell (p:=⟨w1.heap.size+1,2,none⟩) hlr).trans x2;have y3:=(BFA.out.cell (p:=⟨w1.heap.size+1,3,none⟩) hlr).trans x3;clear hrF bF))
   all_goals
    go_wp2_with fail
    go_meet
    case rel =>
     first
      |(have h0:=BP;clear h0;exact hidE (zn6 BF.out BP.out P6.out HR.out HZ.out HD.out))
      |(have h0:=BPA;clear h0;exact hidE (zlX BFA.out BPA.out P6.out HR.out HZ.out HD.out HOW.out (Nat.le_refl _) KA.out.lt KP.out))
      |(have h0:=BPB;clear h0;exact hidE (zlX (BF.out.alloc BF.out.size _) BPB.out P6.out HR.out HZ.out HD.out HOW.out BF.out.size (by simp) KP.out))
  case rest =>
   rename World=>V0;obtain⟨b,K9,X9,Z9,A9',m9,p9,cur,An,nn,cn,rfl,rfl,hblk,hcr,hrow,hcz,hcd,hbv⟩:=hcut.out;have hroom:Room t1.free t1:=zcJ (by omega) (by omega);have hcan:cur.canonT=(zaV 112 (zam t1) t1 0).canonT:=by rw[zci,zci,hcd,zbH,zb3 112 (.inl rfl) _ _ hroom]
   obtain⟨RS,hRS⟩:∃R:ByteArray,⟨(zaV 112 (zam t1) t1 0).canonT.print.toArray⟩=R:=⟨_,rfl⟩;have N3:=hidE (hcan▸zfi _ (zc0 [] _ N1.out) (by have:=N2.out;omega):Nm cur.canonT);have N4:=hidE hRS;have HRS':Hid ((⟨cur.canonT.print.toArray⟩:ByteArray)=RS):=hidE (by rw[hcan];exact hRS);obtain rfl:n9=nn:=by
    obtain⟨Ax,cx,hsh,-⟩:=id hrow;simp[zaJ]at hsh
    rw[<-N6.out,zbH]
    exact hsh.2.1.symm
   have hll:(zaG 112 t1.free t1 0).length=n9:=by rw[<-zbH];exact N6.out
   have hrn:=N8.out.below hbv;rw[zbH]at hrn
   replace N8:=hidE hrn;have N7:=hidE hll;have N9:=hidE hrow;have M1:=hidE hcr;have M2:=hidE hcz;have M8:=hidE hblk;replace BW:Hid (Below w.heap.size w V0):=hidE (BW.out.trans (hbv.mono BW.out.size));replace P2:=hidE (P2.out.below hbv P2.out.lt);replace P3:=hidE (P3.out.below hbv P3.out.lt);replace M9:=hidE (M9.out.below hbv M9.out.lt);replace P4:=hidE (P4.out.below hbv);replace P5:=hidE (P5.out.below hbv);replace P1:=hidE (P1.out.below hbv);have HZ1:=hidE hz1;have HZ2:=hidE hz2;clear hcut hblk hcr hrow hcz hcd hbv hroom hcan hRS hll hrn N6 x0 x1 x2 x3 hlr FF PE B0 BA hz1 hz2 hfl;go_wp2_with fail
   go_loopg [17] n9 (λgg vi wr=>zsB n9 V0 gg vi wr)
   case atStart=>exact⟨0,rfl,rfl,Nat.zero_le _,Below.refl _ _⟩
   case round =>
    obtain⟨i,rfl,rfl,hin,hbw⟩:=hrel;have M3:=hidE hbw;clear hbw;by_cases hlt:i<n9
    ·have hil:i<(zaG 112 t1.free t1 0).length:=by rw[N7.out];exact hlt
     obtain⟨ga,rfl,ga1,d0⟩:=RowV.nth N8.out i hil;obtain⟨gb,rfl,gb1,e0⟩:=RowV.nth N9.out i hil;obtain⟨PX,hPX⟩:∃PX:ByteArray,(⟨(zaG 112 t1.free t1 0)[i].toArray⟩:ByteArray)=PX:=⟨_,rfl⟩;rw[hPX]at d0 e0
     replace d0:=(M3.out.cell (p:=⟨ga,i,none⟩) ga1).trans d0;replace e0:=(M3.out.cell (p:=⟨gb,i,none⟩) gb1).trans e0;clear hil ga1 gb1 hPX;go_upto_region 14 with fail
     go_region_held3 (λW:World=>W.cell? ⟨ga,i,none⟩=some (.string PX)/\W.cell? ⟨gb,i,none⟩=some (.string PX)) (first|(exact⟨d0,e0⟩))
      (fail)
     all_goals
      go_wp2_with fail
      go_roundg (n9-(i+1))
      case measure=>omega
      case rel=>exact⟨i+1,rfl,by go_num,by omega,M3.out.drew⟩
    ·have M4:=M3.out
     replace BW:Hid (Below w.heap.size w wr):=hidE (BW.out.trans (M4.mono BW.out.size));replace P2:=hidE (P2.out.below M4 P2.out.lt);replace P3:=hidE (P3.out.below M4 P3.out.lt);replace M9:=hidE (M9.out.below M4 M9.out.lt);replace M8:=hidE (M8.out.below M4 M8.out.lt);replace P4:=hidE (P4.out.below M4);replace P5:=hidE (P5.out.below M4);replace P1:=hidE (P1.out.below M4);replace M1:=hidE (M1.out.below M4);have hc:=zp1 P1.out N1.out (by have:=N2.out;omega) (HT.out.below BW.out);rw[N4.out]at hc
     have HC:=hidE hc;obtain⟨x0,x1,x2,x3⟩:=blk4 M9.out;clear M4 M3 N8 N9 N7 P1 hc N1 N2 N4;go_wp2_with fail
     refine HC.out.mono ?_;rintro e w5 ⟨rfl,hbb⟩;replace BW:Hid (Below w.heap.size w w5):=hidE (BW.out.trans (hbb.mono BW.out.size));replace P2:=hidE (P2.out.below hbb P2.out.lt);replace P3:=hidE (P3.out.below hbb P3.out.lt);replace M8:=hidE (M8.out.below hbb M8.out.lt);replace M1:=hidE (M1.out.below hbb);have HI:=hidE (zlq t1 t2 _ _ w5 (P4.out.below hbb) (P5.out.below hbb) M6.out M7.out HZ1.out HZ2.out);clear hbb HC M9 x0 x1 x2 x3 P4 P5;obtain⟨x0,x1,x2,x3⟩:=blk4 P2.out;obtain⟨y0,y1,y2,y3⟩:=blk4 P3.out;go_wp2_with fail
     refine HI.out.mono ?_;rintro e w6 ⟨⟨q6,rfl,hq6⟩,hbb⟩;have hqq:q21=q6:=by
      have h:=M5.out.trans hq6.symm;cases q21 <;> cases q6 <;> simp_all
     subst hqq;have hc:=zdL cur _ _ w6 (by have:=M2.out;have:=HZ1.out;omega) N3.out (M1.out.below hbb) (λ_ h=>h);rw[HRS'.out]at hc
     have HC:=hidE hc;replace BW:Hid (Below w.heap.size w w6):=hidE (BW.out.trans (hbb.mono BW.out.size));replace M8:=hidE (M8.out.below hbb M8.out.lt);clear hbb hc hq6 HI M5 P2 P3 x0 x1 x2 x3 y0 y1 y2 y3 M1 N3 HRS' M2;obtain⟨x0,x1,x2,x3⟩:=blk4 M8.out;go_wp2_with fail
     refine HC.out.mono ?_;rintro e w7 ⟨rfl,hbb⟩;replace BW:Hid (Below w.heap.size w w7):=hidE (BW.out.trans (hbb.mono BW.out.size));go_wp2_with fail
     go_ret
     exact⟨rfl,BW.out⟩
 ·cases q1 with
  |false =>
   go_wp2_with fail
   go_ret
   exact⟨rfl,BW.out⟩
  |true =>
   cases q2 with
   |false =>
    go_wp2_with fail
    go_ret
    exact⟨rfl,BW.out⟩
   |true=>exact absurd ⟨rfl,rfl⟩ hall
theorem lifted(os:Os)(started:os.Started)(H:Type)(enc:TypeId × Value->H):ReturnsInHanded {} Tryz.checked os 4 .any (λw args=>(Rows.matchInstancesSpec.pre enc Tryz.prog Tryz.f4 Rows.matchInstancesRow.domain false w args/\laidMetH Tryz.prog theLaid w)/\sizedMet enc Tryz.prog Tryz.f4 (OpenSpec.ofChange Rows.matchInstancesSpec) false w args)
   (Rows.matchInstancesSpec.post enc Tryz.prog Tryz.f4 false true false false):=by
 refine returnsInHanded_of_change_and (C:=Tryz.checked) (X:=λw _=>laidMetH Tryz.prog theLaid w) (λ_ _ _ hh h=>h.of_heap hh) ownK started (by kernel_rfl) Tryz.func4
  (ChangeSpec.witness_shaped (enc:=enc) (C:=Tryz.checked) (os:=os) (X:=λw _=>laidMetH Tryz.prog theLaid w) false (World.laidAll Tryz.prog os theLaid) #[.string ⟨#[]⟩,.string ⟨#[]⟩] 8 (World.laidAll_os _ _ _)
   (zf0 os) (by kernel_rfl) (by kernel_rfl) (by kernel_rfl)
   (ziP os _)) ?_
 intro W base args ds gs before hval0 hW hc _ hL _;have hval:∀(j:Nat) t v,Tryz.f4.params[j]?=some t->args[j]?=some v->Value.okWide Tryz.prog W .any base t v:=hval0;have hW':=hW;obtain⟨p,q,hA0,hV,rfl,_,_⟩:=hW;have hA:DataW.TrodAll enc Tryz.prog W 0 (λ_=>true) true Tryz.f4.params.toList args.toList ds p:=hA0;rw[Tryz.params4]at hA hval
 obtain⟨v0,vs0,d0,ds0,p0,q0,hg0,rfl,rfl,h0,r0⟩:=trodAll_cons hA;obtain⟨v1,vs1,d1,ds1,p1,q1,hg1,rfl,rfl,h1,r1⟩:=trodAll_cons r0;obtain⟨rfl,rfl,rfl⟩:=trodAll_nil r1;subst hg1;obtain rfl:args=#[v0,v1]:=by cases args;simp_all
 obtain⟨rfl,rfl⟩:=trodVars_none hV;obtain⟨a0,rfl,rfl,rfl,w0⟩:=open_string Tryz.underlying9 (hval 0 9 v0 rfl rfl) h0;obtain⟨a1,rfl,rfl,rfl,w1⟩:=open_string Tryz.underlying9 (hval 1 9 v1 rfl rfl) h1;clear hA0 hval0;simp only[List.append_nil]at hW';refine(walk a0 a1 W (zgE hL) w0 w1).mono λe W' ⟨he,hg⟩=>?_;subst he;exact⟨_,rfl,_,_,_,[],[],[],hW',trodAll_cons_mk (shut_bool Tryz.underlying4 _) trodAll_mk0,(trodAll_cons_mk (shut_string Tryz.underlying9 w0) (trodAll_cons_mk (shut_string Tryz.underlying9 w1) trodAll_mk0)),rfl,hg.frame _,λh=>by cases h⟩
theorem over:Rows.matchInstancesRow.holds Tryz.pinned (OpenSpec.ofChange Rows.matchInstancesSpec) :=
 OpenClaim.holds_of_wide 4 Tryz.f4 rfl rfl rfl rfl rfl rfl rfl ⟨rfl,rfl,rfl,rfl,rfl⟩ rfl rfl rfl rfl rfl (by kernel_rfl) Tryz.func4 (by kernel_rfl)
  (of_decide_eq_true (by kernel_rfl)) (by unfold Func.isWrapper;first|(rw[if_pos (by decide +kernel)];kernel_rfl)|(rw[if_neg (by decide +kernel)];exact⟨rfl,rfl⟩))
  (λos started H enc _=>lifted os started H enc)
theorem proved:Rows.MatchInstancesCardSaid :=
 Claim7.holds_tied_plain_at .later [] [.data,.data,.data,.sentinel,.sentinel] true _ true
  over (λ_ h=>by cases h) (by kernel_rfl) (λ_ h=>by cases h) matchInstances_row_tie rfl ⟨rfl,rfl⟩ (by kernel_rfl) rfl
  (λf fn hf hfn=>by
   obtain rfl:f=4:=Option.some.inj ((show Tryz.prog.funcNamed "savant/savantlaw03.MatchInstances" = some 4 by kernel_rfl).symm.trans hf) |>.symm;obtain rfl:fn=Tryz.f4:=(Option.some.inj (Tryz.func4.symm.trans hfn)).symm;exact⟨by kernel_rfl,λj t ht=>by
    rw[Tryz.params4]at ht
    have hm:t∈[9,9]:=by
     simpa using Array.mem_of_getElem? ht
    have hall:([9,9].all λu=>!Tryz.prog.wantsStandIn u)=true:=by kernel_rfl
    exact(show Tryz.prog.wantsStandIn t=false by simpa using List.all_eq_true.1 hall t hm)⟩)
  (by kernel_rfl)
#print axioms proved
end Go.Proofs.YtaomnlcplmkokaaGreatDoor.matchInstances
