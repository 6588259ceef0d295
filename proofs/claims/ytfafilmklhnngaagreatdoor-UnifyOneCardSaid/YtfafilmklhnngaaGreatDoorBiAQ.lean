import Derived.Test.YtfafilmklhnngaaGreatDoorBiAP
import Derived.Test.YtfafilmklhnngaaGreatDoorBiAG
import Derived.Test.YtfafilmklhnngaaGreatDoorCards
import Derived.Test.YtfafilmklhnngaaGreatDoorTie
import Derived.SevenTiedAt
set_option maxHeartbeats 12800000
namespace Go.Proofs.YtfafilmklhnngaaGreatDoor.unifyOne
open Go.ChangeShapes Go.WideShapes Go.ChangeAt Go.RowKit Lx Tx Go.Shelf
open Go.ChangeMaps (open_string shut_string)
set_option maxRecDepth 100000
theorem zg9 {L:List Nat} {k x:Nat}(h:L[k]?=some x)(m:Nat):(L.take (k+1)).contains m=((L.take k).contains m ||(((x:Nat):Int) ==((m:Nat):Int))):=by
 refine Bool.eq_iff_iff.2 ?_;rw[Bool.or_eq_true,List.contains_iff_mem,List.contains_iff_mem,List.take_add_one,h,List.mem_append]
 simp only[Option.toList_some,List.mem_singleton,beq_iff_eq];constructor
 ·rintro(a|a)
  ·exact .inl a
  ·exact .inr (by omega)
 ·rintro(a|a)
  ·exact .inl a
  ·exact .inr (by omega)
theorem zos(s:ByteArray)(m:Int)(w:World)(ht:Tab w)(hs:s.size<=maxLen)(h:¬(errN s.data.toList=0/\s.size<=120/\0<=m/\m<=99999)):Calls Tryz.prog 10 #[.string s,.int .i64 m] w λe w'=>e=.returned (.bool true)/\Below w.heap.size w w':=by
 have HAW:=hidE (zh2 w ht);have HP:=hidE (λW=>zew s W hs);obtain⟨n1,hn1⟩:∃n,errN s.data.toList=n:=⟨_,rfl⟩;obtain⟨q1,hq1⟩:∃q,(((n1:Nat):Int) != 0)=q:=⟨_,rfl⟩;obtain⟨q2,hq2⟩:∃q,decide ((120:Int)<((s.size:Nat):Int))=q:=⟨_,rfl⟩;obtain⟨q3,hq3⟩:∃q,decide (m<0)=q:=⟨_,rfl⟩;obtain⟨q4,hq4⟩:∃q,decide (99999<m)=q:=⟨_,rfl⟩;have HNO:Hid (¬(q1=false/\q2=false/\q3=false/\q4=false)):=hidE (by
  rintro⟨rfl,rfl,rfl,rfl⟩;refine h ⟨?_,?_,?_,?_⟩
  ·rw[hn1];simpa using hq1
  ·have:=of_decide_eq_false hq2;omega
  ·have:=of_decide_eq_false hq3;omega
  ·have:=of_decide_eq_false hq4;omega)
 have HN:=hidE hn1;clear h hn1 hs ht;go_enter Tryz.func10,Tryz.ntmps10
 go_wp2_with fail
 refine HAW.out.mono ?_;rintro e wa ⟨rfl,ba⟩;have BA:=hidE ba;clear ba HAW;go_wp2_with fail
 refine(HP.out _).mono ?_;rintro e w2 ⟨K,X,Z,A,mm,c,rfl,b2,-⟩;rw[HN.out]
 have B2:=hidE ((BA.out.trans (b2.mono BA.out.size)).alloc (Nat.le_trans BA.out.size b2.size) (.cells #[.int .i64 K,.string X,.int .i64 Z,.slice A mm c] 37));clear b2 HP;cases q1 with
 |true=>go_wp2_with fail;go_ret;exact⟨rfl,B2.out⟩
 |false =>
  cases q2 with
  |true=>go_wp2_with fail;go_ret;exact⟨rfl,B2.out⟩
  |false =>
   cases q3 with
   |true=>go_wp2_with fail;go_ret;exact⟨rfl,B2.out⟩
   |false =>
    cases q4 with
    |true=>go_wp2_with fail;go_ret;exact⟨rfl,B2.out⟩
    |false=>exact absurd ⟨rfl,rfl,rfl,rfl⟩ HNO.out
theorem znh(s:ByteArray)(m:Nat)(t:Ty)(hp:parse s.data.toList=.ok t)(w:World)(ht:Tab w)(hs:s.size<=120)(hm:m<=99999):Calls Tryz.prog 10 #[.string s,.int .i64 (m:Nat)] w λe w'=>e=.returned (.bool true)/\Below w.heap.size w w':=by
 obtain⟨hnt,-,hst,-⟩:=zcY _ _ hp;have hst:t.size<=120:=by have:s.data.toList.length=s.size:=Array.length_toList;omega
 have HAW:=hidE (zh2 w ht);have HP:=hidE (λW=>zjR s t hp W (by unfold maxLen;omega));have hq2:decide ((120:Int)<((s.size:Nat):Int))=false:=decide_eq_false (by omega);have hq3:decide (((m:Nat):Int)<0)=false:=decide_eq_false (by omega);have hq4:decide ((99999:Int)<((m:Nat):Int))=false:=decide_eq_false (by omega);have HT:=hidE ht;have HNT:=hidE hnt;clear hp ht hs hnt;go_enter Tryz.func10,Tryz.ntmps10
 go_wp2_with fail
 refine HAW.out.mono ?_;rintro e wa ⟨rfl,ba⟩;have BA:=hidE ba;clear ba HAW;go_wp2_with fail
 refine(HP.out _).mono ?_;rintro e w2 ⟨K,X,Z,A,mm,c,rfl,hr,b2⟩;obtain⟨V,hV⟩:∃V,w2.alloc (.cells #[.int .i64 K,.string X,.int .i64 Z,.slice A mm c] 37)=V:=⟨_,rfl⟩;have hbx:=Bx.made hr;have hb:Below wa.heap.size wa (w2.alloc (.cells #[.int .i64 K,.string X,.int .i64 Z,.slice A mm c] 37)):=b2.alloc b2.size _;rw[hV]at hbx hb
 have BX:=hidE hbx;have BW:Hid (Below w.heap.size w V):=hidE (BA.out.trans (hb.mono BA.out.size));have HV:=hidE hV;clear hr b2 hV hbx hb HP BA;go_upto_region 5 with fail
 rw[HV.out]
 clear HV;obtain⟨V5,hV5⟩:∃W,V.alloc (.cells #[.int .i64 2,.string ⟨#[]⟩,.int .i64 (m:Nat),.slice none 0 0] 37)=W:=⟨_,rfl⟩;have hb5:Below V.heap.size V (V.alloc (.cells #[.int .i64 2,.string ⟨#[]⟩,.int .i64 (m:Nat),.slice none 0 0] 37)):=(Below.refl _ _).alloc (Nat.le_refl _) _;have hbu:=Bx.made (zo9 (λg=>g<V.heap.size) V m);rw[hV5]at hb5 hbu
 have BU:=hidE hbu;replace BX:=hidE (BX.out.below hb5);replace BW:Hid (Below w.heap.size w V5):=hidE (BW.out.trans (hb5.mono BW.out.size));have HV:=hidE hV5;clear hb5 hbu hV5;go_upto_region 6 with fail
 rw[HV.out]
 clear HV;obtain⟨x0,x1,x2,x3⟩:=BX.out.cells;obtain⟨y0,y1,y2,y3⟩:=BU.out.cells;have HU:=hidE (zi0 BU.out.rn BX.out.rn ⟨.mt m (by omega),HNT.out⟩ ⟨by rw[Ty.size];omega,by omega⟩);go_wp2_with fail
 refine HU.out.mono ?_;rintro e w6 h6;obtain⟨A6,n6,c6,er,rfl,b6,hal⟩:=h6.single (by omega) HNT.out (by omega);have hb:Below V5.heap.size V5 w6:=((Below.refl _ V5).alloc (Nat.le_refl _) _).trans (b6.mono (by rw[size_alloc];omega));replace BX:=hidE (BX.out.below hb);replace BU:=hidE (BU.out.below hb);replace BW:Hid (Below w.heap.size w w6):=hidE (BW.out.trans (hb.mono BW.out.size));have HAL:=hidE hal;clear h6 b6 hal hb x0 x1 x2 x3 y0 y1 y2 y3 HU;obtain⟨x0,x1,x2,x3⟩:=BX.out.cells;have HU:=hidE (zi0 BX.out.rn BX.out.rn ⟨HNT.out,HNT.out⟩ ⟨by omega,by omega⟩);go_wp2_with fail
 refine HU.out.mono ?_;rintro e w7 h7;obtain⟨A7,c7,rfl,b7⟩:=h7.self;have hb:Below w6.heap.size w6 w7:=((Below.refl _ w6).alloc (Nat.le_refl _) _).trans (b7.mono (by rw[size_alloc];omega));replace BX:=hidE (BX.out.below hb);replace BU:=hidE (BU.out.below hb);replace BW:Hid (Below w.heap.size w w7):=hidE (BW.out.trans (hb.mono BW.out.size));replace HAL:=hidE (HAL.out.below hb);clear h7 b7 hb x0 x1 x2 x3 HU;obtain⟨x0,x1,x2,x3⟩:=BX.out.cells;obtain⟨y0,y1,y2,y3⟩:=BU.out.cells;obtain⟨qs,hqs⟩:∃q:Bool,(smT [] [] t (.mt m) 0).1=q:=⟨_,rfl⟩;have HSM:=hidE (zhX BX.out.rn BU.out.rn HNT.out (.mt m (by omega)) (by omega) qs (by rw[<-hqs];exact same_iff t (.mt m)));have hqi:qs=true↔t=.mt m:=by
  rw[<-hqs,same_iff]
  constructor
  ·intro h;rw[show db [] (.mt m)=.mt m by rw[db]]at h;exact zj4 h
  ·intro h;rw[h]
 have HQI:=hidE hqi;clear hqs hqi;go_wp2_with fail
 refine HSM.out.mono ?_;rintro e w8 ⟨rfl,hb⟩;replace BX:=hidE (BX.out.below hb);replace BU:=hidE (BU.out.below hb);replace BW:Hid (Below w.heap.size w w8):=hidE (BW.out.trans (hb.mono BW.out.size));replace HAL:=hidE (HAL.out.below hb);clear hb x0 x1 x2 x3 y0 y1 y2 y3 HSM;cases qs with
 |true =>
  have ht:=HQI.out.1 rfl;obtain⟨rfl,rfl⟩:n6=0/\er=0:=by
   rcases HAL.out with⟨-,a,b⟩|⟨j,a,b,-⟩|⟨a,-⟩|⟨a,-⟩|⟨a,-⟩
   ·exact⟨a,b⟩
   ·rw[ht]at a;injection a with a;exact absurd a.symm b
   ·rw[ht]at a;exact absurd rfl a
   ·rw[ht]at a;exact absurd rfl a
   ·rw[ht]at a;exact absurd rfl a
  clear ht;go_wp2_with fail
  go_ret
  exact⟨rfl,BW.out⟩
 |false =>
  obtain⟨N,hN⟩:∃n,t.metas.length=n:=⟨_,rfl⟩;obtain⟨L,hL⟩:∃l,t.metas=l:=⟨_,rfl⟩;have hml:=hidE (zok BX.out.rn HNT.out (by omega) w8.heap.size N (Nat.le_refl _) hN);rw[hL]at hml
  have hin:L.contains m=true↔MtOcc m (db [] t):=by rw[<-hL,<-zlv];simp
  have HIN:=hidE hin;clear hN hL hin;obtain⟨x0,x1,x2,x3⟩:=BX.out.cells;go_wp2_with fail
  refine hml.out.mono ?_;rintro e w9 ⟨A9,c9,rfl,hr9,hb⟩;have h9:N<=2000000:=hr9.2;have HR9:=hidE (MetR.of_own hr9.1);replace BX:=hidE (BX.out.below hb);replace BU:=hidE (BU.out.below hb);replace BW:Hid (Below w.heap.size w w9):=hidE (BW.out.trans (hb.mono BW.out.size));replace HAL:=hidE (HAL.out.below hb);clear hb hr9 x0 x1 x2 x3 hml;go_wp2_with fail
  go_loopg [14,16] N (λgg vq vi wr=>∃k:Nat,gg=N-k/\k<=N/\vi=.int .i64 k/\vq=.bool ((L.take k).contains m)/\wr=w9)
  case atStart=>exact⟨0,rfl,Nat.zero_le _,rfl,rfl,rfl⟩
  case round =>
   obtain⟨k,rfl,hk9,rfl,rfl,rfl⟩:=hrel;by_cases hlt9:k<N
   ·obtain⟨g,rfl,hc⟩:=HR9.out.2 (by omega)
    have hkl:k<L.length:=by rw[HR9.out.1];exact hlt9
    obtain⟨x,hx⟩:∃x:Nat,L[k]?=some x:=⟨_,List.getElem?_eq_getElem hkl⟩;have x0:=hc k x hx;obtain⟨qk,hqk⟩:∃q,(L.take k).contains m=q:=⟨_,rfl⟩;obtain⟨qx,hqx⟩:∃q,(((x:Nat):Int) ==((m:Nat):Int))=q:=⟨_,rfl⟩;have hnx:(L.take (k+1)).contains m=(qk||qx):=by
     rw[<-hqk,<-hqx]
     exact zg9 hx m
    rw[hqk]
    have HNX:=hidE hnx;clear hc hkl hx hqk hnx;cases qk <;> cases qx <;>(
     go_wp2_with fail
     go_roundg (N-(k+1))
     case measure=>omega
     case rel=>exact⟨k+1,rfl,by omega,by go_num,by rw[HNX.out];rfl,rfl⟩)
   ·have hend:L.take k=L:=List.take_of_length_le (by rw[HR9.out.1];omega)
    rw[hend]
    clear hend;obtain⟨qi,hqi⟩:∃q,L.contains m=q:=⟨_,rfl⟩;have hin:=HIN.out;rw[hqi]at hin
    rw[hqi]
    have HIN2:=hidE hin;obtain⟨qp,hqp⟩:∃q,t.poly=q:=⟨_,rfl⟩;have hpo:=zn7 t _ _ wr (by omega) BX.out.rn (λ_ h=>h);rw[hqp]at hpo
    have HPO:=hidE hpo;have HQP:=hidE hqp;obtain⟨x0,x1,x2,x3⟩:=BX.out.cells;clear HIN hin hqi hpo hqp;go_wp2_with fail
    refine HPO.out.mono ?_;rintro e w10 ⟨rfl,hb⟩;replace BX:=hidE (BX.out.below hb);replace BW:Hid (Below w.heap.size w w10):=hidE (BW.out.trans (hb.mono BW.out.size));replace HAL:=hidE (HAL.out.below hb);clear hb x0 x1 x2 x3 HPO BU;obtain⟨hK,hX,hZ,-,-⟩:=zop (show RdV _ w10 t _ from BX.out.rd);obtain⟨x0,x1,x2,x3⟩:=BX.out.cells;rcases HAL.out with⟨ht,-⟩|⟨j,htj,hjm,rfl,rfl,hka⟩|⟨hk,ho,rfl⟩|⟨hk,ho,hp,rfl⟩|⟨hk,ho,hp,rfl,rfl,u,hu,hnu,hsu,hka⟩
    ·exact absurd (HQI.out.2 ht) (by simp)
    ·obtain rfl:qi=false:=by
      cases qi with
      |false=>rfl
      |true=>have:=HIN2.out.1 rfl;rw[htj,db,MtOcc]at this;exact absurd this.symm hjm
     obtain rfl:qp=false:=by rw[<-HQP.out,htj,Ty.poly]
     obtain⟨g,At,ct,rfl,hg,-,c0,c1,c2,c3,c4⟩:=hka;have hZj:Z=((j:Nat):Int):=by rw[hZ,htj];rfl
     replace c3:w10.cell? ⟨g,3,none⟩=some (.int .i64 ((min m j:Nat):Int)):=c3;rw[hZj]at x2
     have e1:(((max m j:Nat):Int)==max ((m:Nat):Int) ((j:Nat):Int))=true:=by rw[beq_iff_eq];omega
     have e2:(((min m j:Nat):Int)==min ((m:Nat):Int) ((j:Nat):Int))=true:=by rw[beq_iff_eq];omega
     obtain⟨ma,hma⟩:∃k:Int,((max m j:Nat):Int)=k:=⟨_,rfl⟩;obtain⟨mi,hmi⟩:∃k:Int,((min m j:Nat):Int)=k:=⟨_,rfl⟩;rw[hma]at c0 e1
     rw[hmi]at c3 e2
     have dk:(K==2)=true:=by rw[hK,htj];rfl
     clear hma hmi hK hX hZ HIN2 HQP htj hZj hjm;go_upto_region 27 with fail
     go_region
     all_goals
      go_wp2_with fail
      go_ret
      exact⟨rfl,BW.out.drew⟩
    ·obtain rfl:qi=true:=HIN2.out.2 ho
     have dk:(K != 2)=true:=by rw[hK];simp;omega
     clear hk ho hK hX hZ HIN2 HQP;go_wp2_with fail
     go_ret
     exact⟨rfl,BW.out⟩
    ·obtain rfl:qi=false:=by
      cases qi with
      |false=>rfl
      |true=>exact absurd (HIN2.out.1 rfl) ho
     obtain rfl:qp=true:=HQP.out.symm.trans hp;clear hk ho hp hK hX hZ HIN2 HQP;go_wp2_with fail
     go_ret
     exact⟨rfl,BW.out⟩
    ·obtain rfl:qi=false:=by
      cases qi with
      |false=>rfl
      |true=>exact absurd (HIN2.out.1 rfl) ho
     obtain rfl:qp=false:=HQP.out.symm.trans hp;have dk:(K==2)=false:=by rw[hK];simp;omega
     obtain⟨g,At,ct,rfl,hg,hrd,c0,c1,c2,c3,c4⟩:=hka;have HS2:=hidE (λW (h:Below w10.heap.size w10 W)=>zhX (hrd.below h) (BX.out.rn.below h) hnu HNT.out hsu true (by simp[hu]));obtain⟨ku,hku⟩:∃k:Int,((kd u:Nat):Int)=k:=⟨_,rfl⟩;obtain⟨xu,hxu⟩:∃k:ByteArray,nmB u=k:=⟨_,rfl⟩;obtain⟨zu,hzu⟩:∃k:Int,((nn u:Nat):Int)=k:=⟨_,rfl⟩;obtain⟨mu,hmu⟩:∃k,(kids u).length=k:=⟨_,rfl⟩;rw[hku]at c1 HS2
     rw[hxu]at c2 HS2
     rw[hzu]at c3 HS2
     rw[hmu]at c4 HS2
     clear hk ho hp hK hX hZ HIN2 HQP hu hnu hsu hrd hku hxu hzu hmu;have SOF:Hid (∀W:World,Below w10.heap.size w10 W->(λW:World=>W.cell? ⟨g,1,none⟩=some (.int .i64 ku)/\W.cell? ⟨g,2,none⟩=some (.string xu)/\W.cell? ⟨g,3,none⟩=some (.int .i64 zu)/\W.cell? ⟨g,4,none⟩=some (.slice At mu ct)/\W.cell? ⟨w2.heap.size,0,none⟩=some (.int .i64 K)/\W.cell? ⟨w2.heap.size,1,none⟩=some (.string X)/\W.cell? ⟨w2.heap.size,2,none⟩=some (.int .i64 Z)/\W.cell? ⟨w2.heap.size,3,none⟩=some (.slice A mm c)) W):=hidE λW hW=>by
      have hc:∀j u,w10.cell? ⟨g,j,none⟩=some u->W.cell? ⟨g,j,none⟩=some u:=λj u h=>(hW.cell (p:=⟨g,j,none⟩) hg).trans h;obtain⟨t0,t1,t2,t3⟩:=(BX.out.below hW).cells;exact⟨hc _ _ c1,hc _ _ c2,hc _ _ c3,hc _ _ c4,t0,t1,t2,t3⟩
     have HG:Hid (∀W:World,Below w10.heap.size w10 W->W.cell? ⟨g,0,none⟩=some (.int .i64 (m:Nat))):=hidE λW hW=>(hW.cell (p:=⟨g,0,none⟩) hg).trans c0;have B0:Hid (Below w10.heap.size w10 w10.drew):=hidE (Below.refl _ w10).drew;clear c0 c1 c2 c3 c4 hg;go_upto_region 28 with fail
     go_region_held3 (λW:World=>W.cell? ⟨g,1,none⟩=some (.int .i64 ku)/\W.cell? ⟨g,2,none⟩=some (.string xu)/\W.cell? ⟨g,3,none⟩=some (.int .i64 zu)/\W.cell? ⟨g,4,none⟩=some (.slice At mu ct)/\W.cell? ⟨w2.heap.size,0,none⟩=some (.int .i64 K)/\W.cell? ⟨w2.heap.size,1,none⟩=some (.string X)/\W.cell? ⟨w2.heap.size,2,none⟩=some (.int .i64 Z)/\W.cell? ⟨w2.heap.size,3,none⟩=some (.slice A mm c)) (first|(with_reducible exact SOF.out _ B0.out))
      (((with_reducible refine(HS2.out _ B0.out).mono ?_);rintro e w11 ⟨rfl,b11⟩;replace B0:=hidE (B0.out.trans (b11.mono B0.out.size));clear b11))
     all_goals
      have c0:=HG.out _ B0.out;go_wp2_with fail
      go_ret
      exact⟨rfl,BW.out.trans (B0.out.mono BW.out.size)⟩
theorem walk(s:ByteArray)(m:Int)(w:World)(ht:Tab w)(hs:s.size<=maxLen) {p:Prop}(_:p):Calls Tryz.prog 10 #[.string s,.int .i64 m] w λe w'=>e=.returned (.bool true)/\Below w.heap.size w w':=by
 by_cases h:errN s.data.toList=0/\s.size<=120/\0<=m/\m<=99999
 ·obtain⟨h1,h2,h3,h4⟩:=h
  obtain⟨t,e1⟩:=zev h1;obtain⟨n,rfl⟩:∃n:Nat,m=n:=⟨m.toNat,by omega⟩;exact znh s n t e1 w ht h2 (by omega)
 ·exact zos s m w ht hs h
theorem lifted(os:Os)(started:os.Started)(H:Type)(enc:TypeId × Value->H):ReturnsInHanded {} Tryz.checked os 10 .any (λw args=>(Rows.unifyOneSpec.pre enc Tryz.prog Tryz.f10 Rows.unifyOneRow.domain false w args/\laidMetH Tryz.prog theLaid w)/\sizedMet enc Tryz.prog Tryz.f10 (OpenSpec.ofChange Rows.unifyOneSpec) false w args)
   (Rows.unifyOneSpec.post enc Tryz.prog Tryz.f10 false true false false):=by
 refine returnsInHanded_of_change_and (C:=Tryz.checked) (X:=λw _=>laidMetH Tryz.prog theLaid w) (λ_ _ _ hh h=>h.of_heap hh) ownK started (by kernel_rfl) Tryz.func10
  (ChangeSpec.witness_shaped (enc:=enc) (C:=Tryz.checked) (os:=os) (X:=λw _=>laidMetH Tryz.prog theLaid w) false (World.laidAll Tryz.prog os theLaid) #[.string ⟨#[]⟩,.int .i64 0] 8 (World.laidAll_os _ _ _)
   (zhQ os) (by kernel_rfl) (by kernel_rfl) (by kernel_rfl)
   (zls os _)) ?_
 intro W base args ds gs before hval0 hW hc _ hL _;have hval:∀(j:Nat) t v,Tryz.f10.params[j]?=some t->args[j]?=some v->Value.okWide Tryz.prog W .any base t v:=hval0;have hW':=hW;obtain⟨p,q,hA0,hV,rfl,_,_⟩:=hW;have hA:DataW.TrodAll enc Tryz.prog W 0 (λ_=>true) true Tryz.f10.params.toList args.toList ds p:=hA0;rw[Tryz.params10]at hA hval
 obtain⟨v0,vs0,d0,ds0,p0,q0,hg0,rfl,rfl,h0,r0⟩:=trodAll_cons hA;obtain⟨v1,vs1,d1,ds1,p1,q1,hg1,rfl,rfl,h1,r1⟩:=trodAll_cons r0;obtain⟨rfl,rfl,rfl⟩:=trodAll_nil r1;subst hg1;obtain rfl:args=#[v0,v1]:=by cases args;simp_all
 obtain⟨rfl,rfl⟩:=trodVars_none hV;obtain⟨a0,rfl,rfl,rfl,w0⟩:=open_string Tryz.underlying9 (hval 0 9 v0 rfl rfl) h0;obtain⟨a1,rfl,rfl,rfl,w1⟩:=open_int Tryz.underlying3 (hval 1 3 v1 rfl rfl) h1;clear hA0 hval0;simp only[List.append_nil]at hW';refine(walk a0 a1 W (ziE hL) w0 w1).mono λe W' ⟨he,hg⟩=>?_;subst he;exact⟨_,rfl,_,_,_,[],[],[],hW',trodAll_cons_mk (shut_bool Tryz.underlying4 _) trodAll_mk0,(trodAll_cons_mk (shut_string Tryz.underlying9 w0) (trodAll_cons_mk (shut_int Tryz.underlying3 w1) trodAll_mk0)),rfl,hg.frame _,λh=>by cases h⟩
theorem over:Rows.unifyOneRow.holds Tryz.pinned (OpenSpec.ofChange Rows.unifyOneSpec) :=
 OpenClaim.holds_of_wide 10 Tryz.f10 rfl rfl rfl rfl rfl rfl rfl ⟨rfl,rfl,rfl,rfl,rfl⟩ rfl rfl rfl rfl rfl (by kernel_rfl) Tryz.func10 (by kernel_rfl)
  (of_decide_eq_true (by kernel_rfl)) (by unfold Func.isWrapper;first|(rw[if_pos (by decide +kernel)];kernel_rfl)|(rw[if_neg (by decide +kernel)];exact⟨rfl,rfl⟩))
  (λos started H enc _=>lifted os started H enc)
theorem proved:Rows.UnifyOneCardSaid :=
 Claim7.holds_tied_plain_at .later [] [.data,.data,.data,.sentinel,.sentinel] true _ true
  over (λ_ h=>by cases h) (by kernel_rfl) (λ_ h=>by cases h) unifyOne_row_tie rfl ⟨rfl,rfl⟩ (by kernel_rfl) rfl
  (λf fn hf hfn=>by
   obtain rfl:f=10:=Option.some.inj ((show Tryz.prog.funcNamed "savant/savantlaw04.UnifyOne" = some 10 by kernel_rfl).symm.trans hf) |>.symm;obtain rfl:fn=Tryz.f10:=(Option.some.inj (Tryz.func10.symm.trans hfn)).symm;exact⟨by kernel_rfl,λj t ht=>by
    rw[Tryz.params10]at ht
    have hm:t∈[9,3]:=by
     simpa using Array.mem_of_getElem? ht
    have hall:([9,3].all λu=>!Tryz.prog.wantsStandIn u)=true:=by kernel_rfl
    exact(show Tryz.prog.wantsStandIn t=false by simpa using List.all_eq_true.1 hall t hm)⟩)
  (by kernel_rfl)
#print axioms proved
end Go.Proofs.YtfafilmklhnngaaGreatDoor.unifyOne
