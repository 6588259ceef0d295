import Derived.Test.YtaomnlcplmkokaaGreatDoorBiAJ
import Derived.Test.YtaomnlcplmkokaaGreatDoorCards
import Derived.Test.YtaomnlcplmkokaaGreatDoorTie
import Derived.SevenTiedAt
import Derived.SliceStrings
set_option maxHeartbeats 12800000
namespace Go.Proofs.YtaomnlcplmkokaaGreatDoor.matchPlays
open Go.ChangeShapes Go.WideShapes Go.ChangeAt Go.RowKit Lx Tx Go.Shelf
open Go.ChangeMaps (open_string shut_string)
set_option maxRecDepth 100000
def RdBoth(s:ByteArray)(q:Bool)(w:World)(v vr:Value):Prop:=q=true->∃t,readsTo s t/\RdN w t v/\RdN w t vr
theorem RdBoth.below {s:ByteArray} {q:Bool} {w w':World} {v vr:Value}(h:RdBoth s q w v vr)(hb:Below w.heap.size w w'):RdBoth s q w' v vr:=λhq=>by
 obtain⟨t,h1,h2,h3⟩:=h hq;exact⟨t,h1,h2.below hb,h3.below hb⟩
theorem zn7(vars:List Name)(p t:Ty)(hnt:Nm t)(hp:p.size<=1000)(ht:t.size<=1000):(freeIn (zay (zau vars p t)) p).length<=90000000:=by
 have h1:=zdC (zau vars p t) p 1000 (λt' u h=>(zfX (zdq vars 1000 p t hnt ht) t' u h).2);omega
theorem zf1(r:List (Name × Ty)):(l:List Name)->(za7 r l).length<=l.length
 |[]=>by rw[za7];exact Nat.le_refl _
 |x::l=>by
  have h:=zf1 r l;rw[za7]
  cases look x r with
  |none=>exact Nat.le_succ_of_le h
  |some u=>exact Nat.succ_le_succ h
theorem zhB:(l l':List (Name × Ty))->l.map (λe=>(e.1,db [] e.2))=l'.map (λe=>(e.1,db [] e.2))->zaZ l=zaZ l'
 |[],[],_=>rfl
 |[],_::_,h=>by simp at h
 |_::_,[],h=>by simp at h
 |(x,t)::l,(y,u)::l',h=>by
  simp only[List.map_cons,List.cons.injEq,Prod.mk.injEq]at h;obtain⟨⟨rfl,h2⟩,h3⟩:=h;rw[zaZ,zaZ,zhB l l' h3,zci,zci,h2]
theorem zmD(vars:List Name)(p t:Ty)(l:List (Name × Ty))(hp:Nm p)(ht:Nm t)(hv:vars.length<=500)(hps:p.size<=400)(hts:t.size<=400)(h:zbU vars p t l)(hs:zdl 400 l):zaZ (za7 (zau vars p t) (zam p))=zaZ l/\l.length<=400/\(∀e∈l,e.1.length<=24/\Nm e.2/\e.2.size<=1000):=by
 have hb:=Nat.mul_le_mul (show p.size+1<=401 by omega) (show(butM vars p t).length+1<=1301 by have:=zg5 vars p t hv hps hts;omega);have hm:=zn1 vars p t l h (by omega);refine⟨zhB _ _ hm,?_,λe he=>?_⟩
 ·have h1:=congrArg List.length hm
  rw[List.length_map,List.length_map]at h1
  have h2:=zf1 (zau vars p t) (zam p);have h3:=za4 p;omega
 ·have h1:(e.1,db [] e.2)∈(za7 (zau vars p t) (zam p)).map λe=>(e.1,db [] e.2):=by
   rw[hm];exact List.mem_map.2 ⟨e,he,rfl⟩
  obtain⟨e',he',h2⟩:=List.mem_map.1 h1;have h3:=(zg3 vars p t hp ht (by omega) e' he').1;injection h2 with h4 _;rw[h4]at h3
  obtain⟨h5,h6⟩:=hs e he;exact⟨h3,h5,by omega⟩
theorem zn8(w:World):Calls Tryz.prog 13 #[.slice none 0 0,.bool false] w λe w'=>e=.returned (.string ⟨#[110,111]⟩)/\w'=w:=by
 go_enter Tryz.func13,Tryz.ntmps13
 go_wp2_with fail
 go_ret
 exact⟨rfl,rfl⟩
theorem walk(s1 s2:ByteArray)(A9:Option Addr)(nv cv:Nat)(vars:List Name)(w:World)(ht:Tab w)(hs1:s1.size<=maxLen)(hs2:s2.size<=maxLen)(hvs:RowA w (.slice A9 nv cv) (strV vars))(hnv:vars.length=nv)(hl:∀x∈vars,x.length<=maxLen)(hmx:nv<=maxLen):Calls Tryz.prog 3 #[.string s1,.string s2,.slice A9 nv cv] w λe w'=>e=.returned (.bool true)/\Below w.heap.size w w':=by
 have HT:=hidE ht;have HAW:=hidE (zkk w ht);have HP1:=hidE (λw=>zdJ s1 w hs1);have HP2:=hidE (λw=>zdJ s2 w hs2);have HVS:=hidE hvs;have HNV:=hidE hnv;have HL:=hidE hl;clear ht hs1 hs2 hvs hnv hl;go_enter Tryz.func3,Tryz.ntmps3
 go_wp2_with fail
 refine HAW.out.mono ?_;rintro e wa ⟨rfl,hbb⟩;have BW:Hid (Below w.heap.size w wa):=hidE hbb;clear hbb HAW;go_wp2_with fail
 refine(HP1.out _).mono ?_;rintro e w1 ⟨K1,X1,Z1,A1,m1,c1,Kr1,Xr1,Zr1,Ar1,mr1,cr1,q1,rfl,b1,hy⟩;obtain⟨V1,hV1⟩:∃V,(w1.alloc (.cells #[.int .i64 K1,.string X1,.int .i64 Z1,.slice A1 m1 c1] 26)).alloc (.cells #[.int .i64 Kr1,.string Xr1,.int .i64 Zr1,.slice Ar1 mr1 cr1] 29)=V:=⟨_,rfl⟩;have hbk:Blk V1 w1.heap.size 26 #[.int .i64 K1,.string X1,.int .i64 Z1,.slice A1 m1 c1]:=hV1▸zae _ _ _ _ (heap_alloc_new _ _);have hbr:Blk V1 (w1.heap.size+1) 29 #[.int .i64 Kr1,.string Xr1,.int .i64 Zr1,.slice Ar1 mr1 cr1]:=hV1▸alloc_at _ _ _ (by simp);have hba:Below w1.heap.size w1 V1:=hV1▸((Below.refl _ _).alloc (Nat.le_refl _) _).alloc (by simp) _;have hri:RdBoth s1 q1 V1 (.agg #[.int .i64 K1,.string X1,.int .i64 Z1,.slice A1 m1 c1]) (.agg #[.int .i64 Kr1,.string Xr1,.int .i64 Zr1,.slice Ar1 mr1 cr1]):=λhq=>by
  obtain⟨t,h1,h2,h3⟩:=hy hq;exact⟨t,h1,h2.below hba,h3.below hba⟩
 have hbb:Below wa.heap.size wa V1:=b1.trans (hba.mono b1.size);replace BW:Hid (Below w.heap.size w V1):=hidE (BW.out.trans (hbb.mono BW.out.size));have BK1:=hidE hbk;have BR1:=hidE hbr;have RI1:=hidE hri;have HV:=hidE hV1;clear hbk hbr hba hri hbb hy b1 hV1 HP1;go_upto_region 3 with fail
 rw[HV.out]
 clear HV;go_wp2_with fail
 refine(HP2.out _).mono ?_;rintro e w2 ⟨K2,X2,Z2,A2,m2,c2,Kr2,Xr2,Zr2,Ar2,mr2,cr2,q2,rfl,b2,hy⟩;obtain⟨V2,hV2⟩:∃V,(w2.alloc (.cells #[.int .i64 K2,.string X2,.int .i64 Z2,.slice A2 m2 c2] 26)).alloc (.cells #[.int .i64 Kr2,.string Xr2,.int .i64 Zr2,.slice Ar2 mr2 cr2] 29)=V:=⟨_,rfl⟩;have hbk:Blk V2 w2.heap.size 26 #[.int .i64 K2,.string X2,.int .i64 Z2,.slice A2 m2 c2]:=hV2▸zae _ _ _ _ (heap_alloc_new _ _);have hbr:Blk V2 (w2.heap.size+1) 29 #[.int .i64 Kr2,.string Xr2,.int .i64 Zr2,.slice Ar2 mr2 cr2]:=hV2▸alloc_at _ _ _ (by simp);have hba:Below w2.heap.size w2 V2:=hV2▸((Below.refl _ _).alloc (Nat.le_refl _) _).alloc (by simp) _;have hri:RdBoth s2 q2 V2 (.agg #[.int .i64 K2,.string X2,.int .i64 Z2,.slice A2 m2 c2]) (.agg #[.int .i64 Kr2,.string Xr2,.int .i64 Zr2,.slice Ar2 mr2 cr2]):=λhq=>by
  obtain⟨t,h1,h2,h3⟩:=hy hq;exact⟨t,h1,h2.below hba,h3.below hba⟩
 have hbb:Below V1.heap.size V1 V2:=b2.trans (hba.mono b2.size);replace BW:Hid (Below w.heap.size w V2):=hidE (BW.out.trans (hbb.mono BW.out.size));replace BK1:=hidE (BK1.out.below hbb BK1.out.lt);replace BR1:=hidE (BR1.out.below hbb BR1.out.lt);replace RI1:=hidE (RI1.out.below hbb);have BK2:=hidE hbk;have BR2:=hidE hbr;have RI2:=hidE hri;have HV:=hidE hV2;clear hbk hbr hba hri hbb hy b2 hV2 HP2;go_upto_region 4 with fail
 rw[HV.out]
 clear HV;unfold maxLen at hmx;by_cases hall:(q1=true/\q2=true)/\nv<=20
 ·obtain⟨⟨rfl,rfl⟩,hv20⟩:=hall
  obtain⟨t1,hrt1,hrd1,hrr1⟩:=RI1.out rfl;obtain⟨t2,hrt2,hrd2,hrr2⟩:=RI2.out rfl;obtain⟨hn1,hz1⟩:=zcA hrt1;obtain⟨hn2,hz2⟩:=zcA hrt2;have RD1:=hidE hrd1;have RD2:=hidE hrd2;have RR1:=hidE hrr1;have RR2:=hidE hrr2;have HN1:=hidE hn1;have HN2:=hidE hn2;have HEQ:Hid (zca vars t1 t2↔∃l,zbU vars t1 t2 l):=hidE ((ziF vars t1 t2 (by omega) (zn7 vars t1 t2 hn2 (by omega) (by omega))).trans (zgI (by have:=HNV.out;omega) hz1 hz2).symm);have HLS:=hidE (λl h hs=>zmD vars t1 t2 l hn1 hn2 (by have:=HNV.out;omega) hz1 hz2 h hs);have HLO:=hidE (zg3 vars t1 t2 hn1 hn2 (by omega));clear RI1 RI2 hrt1 hrt2 hrd1 hrd2 hrr1 hrr2 hn1 hn2;obtain⟨x0,x1,x2,x3⟩:=blk4 BK1.out;obtain⟨y0,y1,y2,y3⟩:=blk4 BK2.out;have HI:=hidE (ziB t1 t2 vars _ _ _ _ A9 nv cv V2 (HT.out.below BW.out) RD1.out RD2.out (λ_ h=>h) (λ_ h=>h) (HVS.out.below BW.out) HNV.out HL.out (by omega) HN1.out HN2.out (by omega) (by omega));go_wp2_with fail
  refine HI.out.mono ?_;rintro e w21 ⟨hbb,hor⟩;replace BW:Hid (Below w.heap.size w w21):=hidE (BW.out.trans (hbb.mono BW.out.size));replace BR1:=hidE (BR1.out.below hbb BR1.out.lt);replace BR2:=hidE (BR2.out.below hbb BR2.out.lt);replace RR1:=hidE (RR1.out.below hbb);replace RR2:=hidE (RR2.out.below hbb);have LSZ:Hid (V2.heap.size<=w21.heap.size):=hidE hbb.size;clear hbb HI x0 x1 x2 x3 y0 y1 y2 y3 BK1 BK2 RD1 RD2;obtain⟨x0,x1,x2,x3⟩:=blk4 BR1.out;obtain⟨y0,y1,y2,y3⟩:=blk4 BR2.out;have HI2:=hidE (zkD t1 t2 vars _ _ (.slice A9 nv cv) w21 RR1.out RR2.out (HVS.out.below BW.out) (zc0 [] _ HN1.out) (zc0 [] _ HN2.out) hz1 hz2 (by have:=HNV.out;omega));rcases hor with⟨hm,Al,n,cl,rfl,hbr⟩|⟨hm,rfl⟩
  ·have HMM:=hidE hm
   have HBR:=hidE hbr;have hn6:n<=1000:=by
    obtain⟨q,hrel,hq,-⟩:=hbr;have h0:=RelV.len _ q hrel;have h1:=zf1 (zau vars t1 t2) (zam t1);have h2:=za4 t1;omega
   clear hm hbr;go_wp2_with fail
   refine HI2.out.mono ?_;rintro e w22 ⟨hbb,vm,qm,rfl,hf,htr⟩;have hqm:qm=true:=by
    cases qm with
    |true=>rfl
    |false =>
     obtain⟨l,hl⟩:=HEQ.out.1 HMM.out;exact absurd hl ((hf rfl).1 l)
   subst hqm;obtain⟨l,hok,hrow,hsub⟩:=htr rfl;obtain⟨Am,nm,cm,rfl⟩:=hrow.shape;have hlm:l.length=nm:=by
    obtain⟨_,_,⟨Ax,cx,hsh,-⟩,-⟩:=id hrow;injection hsh with _ h2 _;exact h2.symm
   obtain⟨hsame,hl400,hlok⟩:=HLS.out l hok hsub;have hnm:nm<=400:=by omega
   replace BW:Hid (Below w.heap.size w w22):=hidE (BW.out.trans (hbb.mono BW.out.size));replace HBR:=hidE (BindR.below HBR.out (λg hg=>Nat.lt_of_lt_of_le hg LSZ.out) hbb);have HTD0:=zlV _ _ _ Al n cl w22 (HT.out.below BW.out) HBR.out (λg hg=>Nat.lt_of_lt_of_le hg (Nat.le_trans LSZ.out hbb.size)) HLO.out hn6;obtain⟨RS,hRS⟩:∃R:ByteArray,(⟨([121,101,115]++zaZ (za7 (zau vars t1 t2) (zam t1))).toArray⟩:ByteArray)=R:=⟨_,rfl⟩;rw[hRS]at HTD0
   rw[hsame]at hRS
   have HTD:=hidE HTD0;have HRS:=hidE hRS;have HROW:=hidE hrow;have HLM:=hidE hlm;have HL2:=hidE hlok;clear hbb hf htr hok hrow hsub hsame hl400 hlok HTD0 hRS hlm HI2 BR1 BR2 RR1 RR2 x0 x1 x2 x3 y0 y1 y2 y3 HLS HLO HEQ HMM HBR LSZ;go_wp2_with fail
   refine HTD.out.mono ?_;rintro e w23 ⟨rfl,hbb⟩;replace BW:Hid (Below w.heap.size w w23):=hidE (BW.out.trans (hbb.mono BW.out.size));replace HROW:=hidE (HROW.out.below hbb);clear hbb HTD;go_wp2_with fail
   go_loopg [19,20] nm (λgg vs vi wr=>HeadTd l nm w23 gg vs vi wr)
   case atStart=>exact⟨0,rfl,rfl,Nat.zero_le _,by rw[List.take_zero,zaZ];rfl,Below.refl _ _⟩
   case round =>
    obtain⟨i,rfl,rfl,hin,rfl,hbw⟩:=hrel;have HBW:=hidE hbw;clear hbw;by_cases hlt:i<nm
    ·have hil:i<l.length:=by rw[HLM.out];exact hlt
     obtain⟨g,c9,k5,x5,z5,a5,m5,p5,hsh,hg1,d0,d1,d2,d3,d4,hrd⟩:=HROW.out.at i hil;injection hsh with h1 h2 h3;subst h1;clear h2 h3;obtain⟨hx24,hnt,hst⟩:=HL2.out _ (List.getElem_mem hil);have hsn:zaZ (l.take (i+1))=zaZ (l.take i)++(59::(l[i].1++61::l[i].2.canonT.print)):=by
      rw[List.take_succ_eq_append_getElem hil]
      exact zfd l[i].1 l[i].2 (l.take i)
     have hlen:=ziQ (l.take i) (λe he=>HL2.out e (List.mem_of_mem_take he));rw[List.length_take]at hlen
     have hcl:=(zbE l[i].2.canonT (zcN _ hnt (by omega))).1;have hcs:l[i].2.canonT.size=l[i].2.size:=by rw[<-zcM];exact zb7 _ _ _ _
     obtain⟨⟨x,t⟩,he⟩:∃e,l[i]=e:=⟨_,rfl⟩;rw[he]at hx24 hnt hst hsn hcl hcs hrd d0
     have hnt':Nm t:=hnt;have hst':t.size<=1000:=hst;replace hrd:RdN w23 t (.agg #[.int .i64 k5,.string x5,.int .i64 z5,.slice a5 m5 p5]):=hrd;have HC:=hidE (λ(W:World) (hW:Below w23.heap.size w23 W)=>zdL t _ _ W (by omega) (zcN t hnt' (by omega)) (hrd.below hW) (λ_ h=>h));obtain⟨PS,hPS⟩:∃PS:ByteArray,(⟨([121,101,115]++zaZ (l.take i)).toArray⟩:ByteArray)=PS:=⟨_,rfl⟩;obtain⟨PX,hPX⟩:∃PX:ByteArray,(⟨x.toArray⟩:ByteArray)=PX:=⟨_,rfl⟩;obtain⟨PC,hPC⟩:∃PC:ByteArray,(⟨t.canonT.print.toArray⟩:ByteArray)=PC:=⟨_,rfl⟩;have hPSs:PS.size<=50000000:=by
      rw[<-hPS];show(([121,101,115]++zaZ (l.take i)).toArray).size<=_
      rw[List.size_toArray,List.length_append];simp;omega
     have hPXs:PX.size<=24:=by rw[<-hPX];show x.toArray.size<=_;rw[List.size_toArray];exact hx24
     have hPCs:PC.size<=50000:=by rw[<-hPC];show t.canonT.print.toArray.size<=_;rw[List.size_toArray];have h2:t.canonT.size=t.size:=hcs;have h3:t.canonT.print.length+6<=40*t.canonT.size:=hcl;omega
     replace d0:w23.cell? ⟨g,i*5,none⟩=some (.string ⟨x.toArray⟩):=d0;rw[hPX]at d0
     have SOF:Hid (∀W:World,Below w23.heap.size w23 W->(λW:World=>W.cell? ⟨g,i*5,none⟩=some (.string PX)/\W.cell? ⟨g,i*5+1,none⟩=some (.int .i64 k5)/\W.cell? ⟨g,i*5+2,none⟩=some (.string x5)/\W.cell? ⟨g,i*5+3,none⟩=some (.int .i64 z5)/\W.cell? ⟨g,i*5+4,none⟩=some (.slice a5 m5 p5)) W):=hidE λW hW =>
      ⟨(hW.cell (p:=⟨g,i*5,none⟩) hg1).trans d0,(hW.cell (p:=⟨g,i*5+1,none⟩) hg1).trans d1,(hW.cell (p:=⟨g,i*5+2,none⟩) hg1).trans d2,(hW.cell (p:=⟨g,i*5+3,none⟩) hg1).trans d3,(hW.cell (p:=⟨g,i*5+4,none⟩) hg1).trans d4⟩
     have HNX:Hid ((⟨([121,101,115]++zaZ (l.take (i+1))).toArray⟩:ByteArray)=(((PS++⟨#[59]⟩)++PX)++⟨#[61]⟩)++PC):=hidE (by
      rw[hsn,<-hPS,<-hPX,<-hPC]
      simp[ByteArray.ext_iff])
     rw[hPC]at HC
     rw[hPS]
     have B0:Hid (Below w23.heap.size w23 wr.drew):=hidE HBW.out.drew;have hb1:¬9223372036854775807<PS.size+1:=by omega
     have hb2:¬9223372036854775807<PS.size+1+PX.size:=by omega
     have hb3:¬9223372036854775807<PS.size+1+PX.size+1:=by omega
     have hb4:¬9223372036854775807<PS.size+1+PX.size+1+PC.size:=by omega
     clear hx24 hnt hst hsn hlen hcl hcs hrd d0 d1 d2 d3 d4 he hPS hPX hPC hil hnt' hst';go_upto_region 15 with fail
     go_region_held3 (λW:World=>W.cell? ⟨g,i*5,none⟩=some (.string PX)/\W.cell? ⟨g,i*5+1,none⟩=some (.int .i64 k5)/\W.cell? ⟨g,i*5+2,none⟩=some (.string x5)/\W.cell? ⟨g,i*5+3,none⟩=some (.int .i64 z5)/\W.cell? ⟨g,i*5+4,none⟩=some (.slice a5 m5 p5)) (first|(with_reducible exact SOF.out _ B0.out))
      ((first|((with_reducible refine(HC.out _ B0.out).mono ?_);rintro e w5 ⟨rfl,b5⟩;replace B0:=hidE (B0.out.trans (b5.mono B0.out.size));clear b5)))
     all_goals
      go_wp2_with fail
      go_roundg (nm-(i+1))
      case measure=>omega
      case rel=>exact⟨i+1,rfl,by go_num,by omega,by rw[HNX.out],B0.out⟩
    ·have hend:(⟨([121,101,115]++zaZ (l.take i)).toArray⟩:ByteArray)=RS:=by
      rw[List.take_of_length_le (by rw[HLM.out];omega)]
      exact HRS.out
     rw[hend]
     clear hend;go_wp2_with fail
     go_ret
     exact⟨rfl,BW.out.trans (HBW.out.mono BW.out.size)⟩
  ·have HMM:=hidE hm
   clear hm;go_wp2_with fail
   refine HI2.out.mono ?_;rintro e w22 ⟨hbb,vm,qm,rfl,hf,htr⟩;have hqm:qm=false:=by
    cases qm with
    |false=>rfl
    |true =>
     obtain⟨l,hok,-,-⟩:=htr rfl;exact absurd (HEQ.out.2 ⟨l,hok⟩) HMM.out
   subst hqm;obtain⟨-,rfl⟩:=hf rfl;replace BW:Hid (Below w.heap.size w w22):=hidE (BW.out.trans (hbb.mono BW.out.size));have HTD:=hidE (zn8 w22);clear hbb hf htr HI2 BR1 BR2 RR1 RR2 x0 x1 x2 x3 y0 y1 y2 y3;go_wp2_with fail
   refine HTD.out.mono ?_;rintro e w23 ⟨rfl,rfl⟩;go_wp2_with fail
   go_ret
   exact⟨rfl,BW.out⟩
 ·cases q1 with
  |false =>
   go_wp2_with fail
   go_ret
   exact⟨rfl,BW.out⟩
  |true =>
   cases q2 with
   |false =>
    go_wp2_with fail
    go_ret
    exact⟨rfl,BW.out⟩
   |true =>
    have h20:20<nv:=by
     rcases Nat.lt_or_ge 20 nv with h|h
     ·exact h
     ·exact absurd ⟨⟨rfl,rfl⟩,h⟩ hall
    clear hall;go_wp2_with fail
    go_ret
    exact⟨rfl,BW.out⟩
theorem zsC:laidOutB Tryz.prog=true:=by kernel_rfl
theorem zkl:Tryz.prog.underlying 22=some (.slice 9):=by kernel_rfl
theorem zn9:Tryz.prog.cellsOf 9=1:=by kernel_rfl
theorem zoa {H:Type} {enc:TypeId × Value->H} {w:World} {A9:Option Addr} {nv cv:Nat} {d:DataW H} {p:List MemPlace}(h:DataW.Trod enc Tryz.prog w 0 (λ_=>true) true 22 (.slice A9 nv cv) d p):∃vars:List Name,RowA w (.slice A9 nv cv) (strV vars)/\vars.length=nv/\(∀x∈vars,x.length<=maxLen)/\nv<=maxLen:=by
 obtain⟨fuel,hf⟩:=h;rcases open_strings zkl Tryz.underlying9 zn9 hf with⟨hcs,-⟩|⟨a,len,cap,ss,hcs,-,hlc,hm,hz,-,hcell,hsz⟩
 ·simp[Value.cells]at hcs
  obtain⟨rfl,rfl,rfl⟩:=hcs;exact⟨[],⟨none,0,rfl,λh=>by cases h⟩,rfl,(λx hx=>by cases hx),Nat.zero_le _⟩
 ·simp[Value.cells]at hcs
  obtain⟨rfl,rfl,rfl⟩:=hcs;have hss:ss.length=cv:=by simpa using hz
  have hvl:((ss.take nv).map λs=>s.data.toList).length=nv:=by rw[List.length_map,List.length_take];omega
  refine⟨(ss.take nv).map λs=>s.data.toList,⟨some a,cv,by rw[zaJ,hvl],λhp=>⟨a,rfl,?_,λj u hu=>?_⟩⟩,hvl,λx hx=>?_,by omega⟩
  ·rw[zaJ,hvl]at hp
   have h0:=hcell 0 (by omega);rw[<-zc5 a 0]
   exact World.block_lt_of_cell? _ _ h0
  ·have hj:j<nv:=by
    have:=(List.getElem?_eq_some_iff.1 hu).1;rwa [zaJ,hvl]at this
   rw[zha _ j (by rw[hvl];exact hj)]at hu
   rw[hcell j (by omega),<-hu]
   simp[List.getD_eq_getElem?_getD,List.getElem?_eq_getElem (show j<ss.length by omega)]
  ·obtain⟨s,hs,rfl⟩:=List.mem_map.1 hx
   have:=hsz s (List.mem_of_mem_take hs);simpa[Array.length_toList] using this
theorem lifted(os:Os)(started:os.Started)(H:Type)(enc:TypeId × Value->H):ReturnsInHanded {} Tryz.checked os 3 .any (λw args=>(Rows.matchPlaysSpec.pre enc Tryz.prog Tryz.f3 Rows.matchPlaysRow.domain false w args/\laidMetH Tryz.prog theLaid w)/\sizedMet enc Tryz.prog Tryz.f3 (OpenSpec.ofChange Rows.matchPlaysSpec) false w args)
   (Rows.matchPlaysSpec.post enc Tryz.prog Tryz.f3 false true false false):=by
 refine returnsInHanded_of_change_and (C:=Tryz.checked) (X:=λw _=>laidMetH Tryz.prog theLaid w) (λ_ _ _ hh h=>h.of_heap hh) ownK started (by kernel_rfl) Tryz.func3
  (ChangeSpec.witness_shaped (enc:=enc) (C:=Tryz.checked) (os:=os) (X:=λw _=>laidMetH Tryz.prog theLaid w) false (World.laidAll Tryz.prog os theLaid) #[.string ⟨#[]⟩,.string ⟨#[]⟩,.slice none 0 0] 8 (World.laidAll_os _ _ _)
   (zf0 os) (by kernel_rfl) (by kernel_rfl) (by kernel_rfl)
   (ziP os _)) ?_
 intro W base args ds gs before hval0 hW hc _ hL _;have hval:∀(j:Nat) t v,Tryz.f3.params[j]?=some t->args[j]?=some v->Value.okWide Tryz.prog W .any base t v:=hval0;have hW':=hW;obtain⟨p,q,hA0,hV,rfl,_,_⟩:=hW;have hA:DataW.TrodAll enc Tryz.prog W 0 (λ_=>true) true Tryz.f3.params.toList args.toList ds p:=hA0;rw[Tryz.params3]at hA hval
 obtain⟨v0,vs0,d0,ds0,p0,q0,hg0,rfl,rfl,h0,r0⟩:=trodAll_cons hA;obtain⟨v1,vs1,d1,ds1,p1,q1,hg1,rfl,rfl,h1,r1⟩:=trodAll_cons r0;obtain⟨v2,vs2,d2,ds2,p2,q2,hg2,rfl,rfl,h2,r2⟩:=trodAll_cons r1;obtain⟨rfl,rfl,rfl⟩:=trodAll_nil r2;subst hg2;subst hg1;obtain rfl:args=#[v0,v1,v2]:=by cases args;simp_all
 obtain⟨rfl,rfl⟩:=trodVars_none hV;obtain⟨a0,rfl,rfl,rfl,w0⟩:=open_string Tryz.underlying9 (hval 0 9 v0 rfl rfl) h0;obtain⟨a1,rfl,rfl,rfl,w1⟩:=open_string Tryz.underlying9 (hval 1 9 v1 rfl rfl) h1;obtain⟨A9,nv,cv,rfl⟩:=okWide_slice zkl (hval 2 22 v2 rfl rfl);obtain⟨vars,hvs,hnv,hl,hmx⟩:=zoa h2;clear hA0 hval0;simp only[List.nil_append,List.append_nil]at hW';have hlt:∀x∈p2,x.block<W.heap.size:=λx hx=>by simpa using hW'.lt x (by simpa using hx)
 refine(walk a0 a1 A9 nv cv vars W (zgE hL) w0 w1 hvs hnv hl hmx).mono λe W' ⟨he,hg⟩=>?_;subst he;have ha:=(trodAll_cons_mk (shut_string Tryz.underlying9 w0) (trodAll_cons_mk (shut_string Tryz.underlying9 w1) (trodAll_cons_mk (Below.trod zsC (by kernel_rfl) (of_decide_eq_true (by kernel_rfl)) h2 hg hlt) trodAll_mk0)));simp only[List.nil_append,List.append_nil]at ha;exact⟨_,rfl,_,_,_,[],p2,[],hW',trodAll_cons_mk (shut_bool Tryz.underlying4 _) trodAll_mk0,ha,rfl,hg.frame _,λh=>by cases h⟩
theorem over:Rows.matchPlaysRow.holds Tryz.pinned (OpenSpec.ofChange Rows.matchPlaysSpec) :=
 OpenClaim.holds_of_wide 3 Tryz.f3 rfl rfl rfl rfl rfl rfl rfl ⟨rfl,rfl,rfl,rfl,rfl⟩ rfl rfl rfl rfl rfl (by kernel_rfl) Tryz.func3 (by kernel_rfl)
  (of_decide_eq_true (by kernel_rfl)) (by unfold Func.isWrapper;first|(rw[if_pos (by decide +kernel)];kernel_rfl)|(rw[if_neg (by decide +kernel)];exact⟨rfl,rfl⟩))
  (λos started H enc _=>lifted os started H enc)
theorem proved:Rows.MatchPlaysCardSaid :=
 Claim7.holds_tied_plain_at .later [] [.data,.data,.data,.sentinel,.sentinel] true _ true
  over (λ_ h=>by cases h) (by kernel_rfl) (λ_ h=>by cases h) matchPlays_row_tie rfl ⟨rfl,rfl⟩ (by kernel_rfl) rfl
  (λf fn hf hfn=>by
   obtain rfl:f=3:=Option.some.inj ((show Tryz.prog.funcNamed "savant/savantlaw03.MatchPlays" = some 3 by kernel_rfl).symm.trans hf) |>.symm;obtain rfl:fn=Tryz.f3:=(Option.some.inj (Tryz.func3.symm.trans hfn)).symm;exact⟨by kernel_rfl,λj t ht=>by
    rw[Tryz.params3]at ht
    have hm:t∈[9,9,22]:=by
     simpa using Array.mem_of_getElem? ht
    have hall:([9,9,22].all λu=>!Tryz.prog.wantsStandIn u)=true:=by kernel_rfl
    exact(show Tryz.prog.wantsStandIn t=false by simpa using List.all_eq_true.1 hall t hm)⟩)
  (by kernel_rfl)
#print axioms proved
end Go.Proofs.YtaomnlcplmkokaaGreatDoor.matchPlays
