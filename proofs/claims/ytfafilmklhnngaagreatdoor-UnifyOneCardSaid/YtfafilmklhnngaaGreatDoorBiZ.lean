import Derived.Test.YtfafilmklhnngaaGreatDoorBiY
import Derived.Test.YtfafilmklhnngaaGreatDoorBiO
import Derived.Shelf.Abstract
set_option maxHeartbeats 12800000
namespace Go.Proofs.YtfafilmklhnngaaGreatDoor
open Go.RowKit Lx Tx Go.Shelf
set_option maxRecDepth 100000
theorem zil {w:World} {base n:Nat} {v:Value} {ts:List Tok} {e:TypeId}(hn:n=ts.length)(h:w.ownsRow base e 3 v n (za6 ts)):Toks (λg=>g<w.heap.size) w v ts:=by
 subst hn;refine(RdT.of_own h).toks ?_;rcases h.2 with⟨rfl,h0⟩|⟨g,cap,cur,rfl,hr⟩
 ·exact⟨none,0,by rw[h0],by omega⟩
 ·exact⟨_,cap,rfl,by have:=hr.2.2.1;omega⟩
def WhPost(s:List UInt8)(w:World)(e:Ending)(w':World):Prop :=
 Below w.heap.size w w' /\
  ((∃n,n≠0/\parse s=.error n/\e=.returned (.tuple #[.agg #[.int .i64 0,.string ⟨#[]⟩,.int .i64 0,.slice none 0 0],.int .i64 (n:Nat)])) \/
   (∃t K X Z A m c,t.size<=4000/\parse s=(if 50<t.depth then .error 3 else .ok t)/\e=.returned (.tuple #[.agg #[.int .i64 K,.string X,.int .i64 Z,.slice A m c],.int .i64 0]) /\
    RdV (λg=>w.heap.size<=g/\g<w'.heap.size) w' t (.agg #[.int .i64 K,.string X,.int .i64 Z,.slice A m c])))
def zjr:Value:=.func (.func 51) #[] #[]
theorem zmi(s:ByteArray)(w:World)(hs:s.size<=maxLen):Calls Tryz.prog 50 #[.string s,zjr,.int .i64 20] w (WhPost s.data.toList w):=by
 have ek:∀args w,(callFunc 51 args).run Tryz.prog w=.ok (.enter 51 args) w:=enters_of Tryz.func51 (by kernel_rfl) rfl;unfold zjr;obtain⟨W0,hW0⟩:∃W,(w.alloc (.cells #[.int .i64 0,.string ⟨#[]⟩,.int .i64 0,.slice none 0 0] 37)).alloc (.cells #[.int .i64 0,.string ⟨#[]⟩,.int .i64 0,.slice none 0 0] 37)=W:=⟨_,rfl⟩;have hr0:Blk W0 w.heap.size 37 #[.int .i64 0,.string ⟨#[]⟩,.int .i64 0,.slice none 0 0]:=hW0▸Blk.below (heap_alloc_new w _) ((Below.refl _ _).alloc (Nat.le_refl _) _) (by simp);have hn0:Blk W0 (w.heap.size+1) 37 #[.int .i64 0,.string ⟨#[]⟩,.int .i64 0,.slice none 0 0]:=by
  have:=heap_alloc_new (w.alloc (.cells #[.int .i64 0,.string ⟨#[]⟩,.int .i64 0,.slice none 0 0] 37)) (.cells #[.int .i64 0,.string ⟨#[]⟩,.int .i64 0,.slice none 0 0] 37);rw[hW0,show(w.alloc (.cells #[.int .i64 0,.string ⟨#[]⟩,.int .i64 0,.slice none 0 0] 37)).heap.size=w.heap.size+1 by simp]at this
  exact this
 have hb0:Below w.heap.size w W0:=hW0▸((Below.refl _ w).alloc (Nat.le_refl _) _).alloc (by simp) _;have hs0:W0.heap.size=w.heap.size+2:=by rw[<-hW0];simp
 have R0:=hidE hr0;have N0:=hidE hn0;have B0:=hidE hb0;clear hr0 hn0 hb0;go_enter Tryz.func50,Tryz.ntmps50
 go_upto_region 2 with fail
 try rw[hW0]
 clear hW0;go_wp2_with fail
 refine(zlV s _ hs).mono ?_;rintro e w1 ⟨b1,v,ts,a,er,hsc,rfl,hown⟩;have hs1:=b1.size;have hbr:=R0.out.below b1 (by omega);have hbn:=N0.out.below b1 (by omega);obtain⟨a0,a1,a2,a3,r0,r1,r2,r3,hlw⟩:=zaa hbr;obtain⟨n0,n1,n2,n3,-,-,-,-,hln⟩:=zaa hbn;replace R0:=hidE hbr;replace N0:=hidE hbn;replace B0:=hidE (B0.out.trans (b1.mono (by omega)));have HSC:=hidE hsc;have HTK:=hidE (zil rfl hown);clear hbr hbn b1 hsc hown;by_cases he:er=0
 ·subst he
  obtain⟨hG,hL⟩:=zgs _ _ _ HSC.out;have HR:=hidE (znQ ts v w1 HTK.out hG (by omega));obtain⟨O,hO⟩:∃O,read (enough ts) ts=O:=⟨_,rfl⟩;rw[hO]at HR
  have HO:=hidE hO;have HSZ:Hid (∀t r,O=some (t,r)->t.size<=4000):=hidE λt r h=>by have:=((zdz _).1 ts t r hG (hO.trans h)).2.2;omega
  clear hO hG;go_wp2_with fail
  refine HR.out.mono ?_;rintro e w2 ⟨b2,K1,X1,Z1,A1,m1,c1,v2,q,rfl,hno,hyes⟩;have hs2:=b2.size;have hbr:=R0.out.below b2 hlw;have hbn:=N0.out.below b2 hln;clear a0 a1 a2 a3 r0 r1 r2 r3 n0 n1 n2 n3;obtain⟨V,hV⟩:∃V,w2.alloc (.cells #[.int .i64 K1,.string X1,.int .i64 Z1,.slice A1 m1 c1] 37)=V:=⟨_,rfl⟩;have hbt:Blk V w2.heap.size 37 #[.int .i64 K1,.string X1,.int .i64 Z1,.slice A1 m1 c1]:=hV▸heap_alloc_new _ _;have hb2:Below w1.heap.size w1 V:=hV▸b2.alloc b2.size _;have hk2:∀g,g<w2.heap.size->V.heap[g]?=w2.heap[g]?:=λg hg=>hV▸Below.heap_alloc _ _ _ hg;have hvs:V.heap.size=w2.heap.size+1:=by rw[<-hV];simp
  replace hbr:=R0.out.below hb2 hlw;replace hbn:=N0.out.below hb2 hln;obtain⟨a0,a1,a2,a3,r0,r1,r2,r3,hlw2⟩:=zaa hbr;obtain⟨n0,n1,n2,n3,-,-,-,-,hln2⟩:=zaa hbn;obtain⟨t0,t1,t2,t3,-,-,-,-,hlt2⟩:=zaa hbt;have R2:=hidE hbr;have BW:=hidE (B0.out.trans (hb2.mono (by omega)));have HK2:=hidE hk2;have HNO:=hidE hno;have HYES:=hidE hyes;have HV:=hidE hV;clear hbr hbn hbt hb2 hk2 b2 hno hyes HR hV;cases q with
  |false =>
   have hno:=HNO.out rfl;have hv2:=hno.2;subst hv2;have HP:=hidE (zdb _ _ _ HSC.out (by rw[HO.out,hno.1];simp));clear hno HNO HYES;go_upto_region 6 with fail
   try rw[HV.out]
   clear HV;go_wp2_with fail
   try simp only[Exit.inBlock,Exit.then]
   refine bodyPost_ret (zad rfl _ _ w.heap.size 37 _ (0,0) _ rfl (zae _ _ _ _ R2.out) Tryz.underlying37 rfl (by kernel_rfl)) rfl ?_;exact⟨zaj BW.out _ _ _ _ (Nat.le_refl _),.inl ⟨20,by decide,HP.out,rfl⟩⟩
  |true =>
   obtain⟨t,r,A2,c2,ho,rfl,hrd⟩:=HYES.out rfl;have hsz:=HSZ.out t r ho;have HRD:Hid (RdV (λg=>w1.heap.size<=g/\g<w2.heap.size) w2 t (.agg #[.int .i64 K1,.string X1,.int .i64 Z1,.slice A1 m1 c1])):=hidE hrd;obtain⟨n,hn⟩:∃n,r.length=n:=⟨_,rfl⟩;rw[hn]
   clear HNO HYES hrd;go_upto_region 6 with fail
   try rw[HV.out]
   clear HV;by_cases hn0:n=0
   ·subst hn0
    obtain rfl:r=[]:=List.length_eq_zero_iff.1 hn;have HP:=hidE (zfq _ _ _ t HSC.out (by rw[HO.out,ho]));clear hn ho;go_wp2_with fail
    try simp only[Exit.inBlock,Exit.then]
    refine bodyPost_ret (zad rfl _ _ w.heap.size 37 _ (0,0) _ rfl (zae _ _ _ _ R2.out) Tryz.underlying37 rfl (by kernel_rfl)) rfl ?_;refine⟨zaj BW.out _ _ _ _ (Nat.le_refl _),.inr ⟨t,K1,X1,Z1,A1,m1,c1,hsz,HP.out,rfl,?_⟩⟩;refine HRD.out.keep (λg hg=>?_) (λg hg=>?_)
    ·refine⟨by omega,?_⟩
     rw[zc8];omega
    ·rw[zat _ _ _ _ _ _ _ (by omega)]
     exact HK2.out g hg.2
   ·have HP:=hidE (zdb _ _ _ HSC.out (by
     rw[HO.out,ho]
     intro t' e;injection e with e;injection e with _ e;rw[e]at hn
     exact hn0 hn.symm))
    have hnpos:0<n:=by omega
    clear hn ho hn0;go_wp2_with fail
    try simp only[Exit.inBlock,Exit.then]
    refine bodyPost_ret (zad rfl _ _ w.heap.size 37 _ (0,0) _ rfl (zae _ _ _ _ R2.out) Tryz.underlying37 rfl (by kernel_rfl)) rfl ?_;exact⟨zaj BW.out _ _ _ _ (Nat.le_refl _),.inl ⟨20,by decide,HP.out,rfl⟩⟩
 ·have HP:=hidE (zgt _ _ _ _ HSC.out he)
  have dn:((er:Int) != 0)=true:=neqT _ _ (by omega);have HE:=hidE he;clear he;go_wp2_with fail
  try simp only[Exit.inBlock,Exit.then]
  refine bodyPost_ret (zad rfl _ _ w.heap.size 37 _ (0,0) _ rfl (zae _ _ _ _ R0.out) Tryz.underlying37 rfl (by kernel_rfl)) rfl ?_;exact⟨zaj B0.out _ _ _ _ (Nat.le_refl _),.inl ⟨er,HE.out,HP.out,rfl⟩⟩
theorem zhm(s:ByteArray)(w:World)(hs:s.size<=maxLen):Calls Tryz.prog 18 #[.string s] w (PPost s.data.toList w):=by
 obtain⟨W0,hW0⟩:∃W,w.alloc (.cells #[.int .i64 0,.string ⟨#[]⟩,.int .i64 0,.slice none 0 0] 37)=W:=⟨_,rfl⟩;have HWH:=hidE (zmi s W0 hs);unfold zjr at HWH;have R0:Hid (Blk W0 w.heap.size 37 #[.int .i64 0,.string ⟨#[]⟩,.int .i64 0,.slice none 0 0]):=hidE (hW0▸heap_alloc_new _ _);have B0:Hid (Below w.heap.size w W0):=hidE (hW0▸(Below.refl _ w).alloc (Nat.le_refl _) _);have hs0:W0.heap.size=w.heap.size+1:=by rw[<-hW0];simp
 go_enter Tryz.func18,Tryz.ntmps18
 go_upto_region 1 with fail
 try rw[hW0]
 clear hW0;go_wp2_with fail
 refine HWH.out.mono ?_;rintro e w1 ⟨b1,hcases⟩;have hs1:=b1.size;have hbr:=R0.out.below b1 (by omega);have BW:=hidE (B0.out.trans (b1.mono (by omega)));have R1:=hidE hbr;have hlw:=hbr.lt;clear hbr b1 HWH R0 B0;rcases hcases with⟨n,hn,hp,rfl⟩|⟨t,K1,X1,Z1,A1,m1,c1,hsz,hp,rfl,hrd⟩
 ·obtain⟨V,hV⟩:∃V,w1.alloc (.cells #[.int .i64 0,.string ⟨#[]⟩,.int .i64 0,.slice none 0 0] 37)=V:=⟨_,rfl⟩
  have hbt:Blk V w1.heap.size 37 #[.int .i64 0,.string ⟨#[]⟩,.int .i64 0,.slice none 0 0]:=hV▸heap_alloc_new _ _;have hb2:Below w1.heap.size w1 V:=hV▸(Below.refl _ w1).alloc (Nat.le_refl _) _;have hvs:V.heap.size=w1.heap.size+1:=by rw[<-hV];simp
  obtain⟨t0,t1,t2,t3,-,-,-,-,hlt⟩:=zaa hbt;replace R1:=hidE (R1.out.below hb2 hlw);replace BW:=hidE (BW.out.trans (hb2.mono (by omega)));have HBT:=hidE hbt;have HP:=hidE hp;have HN:=hidE hn;have HV:=hidE hV;clear hb2 hbt hp hn hV;go_upto_region 2 with fail
  try rw[HV.out]
  clear HV;go_wp2_with fail
  refine(zkD 0 0 _ none 0 V).mono ?_;rintro e w2 ⟨rfl,b2⟩;have hs2:=b2.size;have hbr:=R1.out.below b2 (by omega);clear t0 t1 t2 t3;obtain⟨t0,t1,t2,t3,-,-,-,-,hlt2⟩:=zaa (HBT.out.below b2 hlt);obtain⟨a0,a1,a2,a3,r0,r1,r2,r3,hlw2⟩:=zaa hbr;replace R1:=hidE hbr;replace BW:=hidE (BW.out.trans (b2.mono (by omega)));clear hbr b2;go_wp2_with fail
  try simp only[Exit.inBlock,Exit.then]
  refine bodyPost_ret (zad rfl _ _ w.heap.size 37 _ (0,0) _ rfl (zae _ _ _ _ R1.out) Tryz.underlying37 rfl (by kernel_rfl)) rfl ?_;exact zbV _ _ _ _ n n (zaj BW.out _ _ _ _ (Nat.le_refl _)) HN.out HP.out rfl rfl
 ·obtain⟨V,hV⟩:∃V,w1.alloc (.cells #[.int .i64 K1,.string X1,.int .i64 Z1,.slice A1 m1 c1] 37)=V:=⟨_,rfl⟩
  have hbt:Blk V w1.heap.size 37 #[.int .i64 K1,.string X1,.int .i64 Z1,.slice A1 m1 c1]:=hV▸heap_alloc_new _ _;have hb2:Below w1.heap.size w1 V:=hV▸(Below.refl _ w1).alloc (Nat.le_refl _) _;have hvs:V.heap.size=w1.heap.size+1:=by rw[<-hV];simp
  have hrd2:RdV (λg=>W0.heap.size<=g/\g<w1.heap.size) V t (.agg #[.int .i64 K1,.string X1,.int .i64 Z1,.slice A1 m1 c1]):=hrd.keep (λ_ h=>h) (λg hg=>hb2.block g hg.2);have HD:=hidE (zmh 1000000 t _ _ V (by omega) (by omega) hrd2 (λg hg=>by omega));obtain⟨D,hD⟩:∃D,t.depth=D:=⟨_,rfl⟩;rw[hD]at HD hp
  obtain⟨t0,t1,t2,t3,-,-,-,-,hlt⟩:=zaa hbt;replace R1:=hidE (R1.out.below hb2 hlw);replace BW:=hidE (BW.out.trans (hb2.mono (by omega)));have HBT:=hidE hbt;have HRD:=hidE hrd2;have HP:=hidE hp;have HV:=hidE hV;clear hb2 hbt hp hV hrd hrd2 hD;go_upto_region 2 with fail
  try rw[HV.out]
  clear HV;go_wp2_with fail
  refine HD.out.mono ?_;rintro e w2 ⟨rfl,b2⟩;have hs2:=b2.size;have hbr:=R1.out.below b2 (by omega);clear t0 t1 t2 t3;obtain⟨t0,t1,t2,t3,-,-,-,-,hlt2⟩:=zaa (HBT.out.below b2 hlt);obtain⟨a0,a1,a2,a3,r0,r1,r2,r3,hlw2⟩:=zaa hbr;replace R1:=hidE hbr;replace BW:=hidE (BW.out.trans (b2.mono (by omega)));replace HRD:=hidE (HRD.out.keep (S':=λg=>W0.heap.size<=g/\g<w1.heap.size) (w':=w2) (λ_ h=>h) (λg hg=>b2.block g (by omega)));clear hbr b2 HD;by_cases hd:50<D
  ·have HP2:=hidE (HP.out.trans (if_pos hd))
   go_wp2_with fail
   try simp only[Exit.inBlock,Exit.then]
   refine bodyPost_ret (zad rfl _ _ w.heap.size 37 _ (0,0) _ rfl (zae _ _ _ _ R1.out) Tryz.underlying37 rfl (by kernel_rfl)) rfl ?_;exact zbV _ _ _ _ 3 3 (zaj BW.out _ _ _ _ (Nat.le_refl _)) (by decide) HP2.out rfl rfl
  ·have HP2:=hidE (HP.out.trans (if_neg hd))
   go_wp2_with fail
   try simp only[Exit.inBlock,Exit.then]
   refine bodyPost_ret (zad rfl _ _ w.heap.size 37 _ (0,0) _ rfl (zae _ _ _ _ R1.out) Tryz.underlying37 rfl (by kernel_rfl)) rfl ?_;refine⟨zaj BW.out _ _ _ _ (Nat.le_refl _),K1,X1,Z1,A1,m1,c1,.inr ⟨t,HP2.out,rfl,?_⟩⟩;refine HRD.out.keep (λg hg=>?_) (λg hg=>?_)
   ·refine⟨by omega,?_⟩
    rw[zc8];omega
   ·rw[zat _ _ _ _ _ _ _ (by omega)]
end Go.Proofs.YtfafilmklhnngaaGreatDoor
