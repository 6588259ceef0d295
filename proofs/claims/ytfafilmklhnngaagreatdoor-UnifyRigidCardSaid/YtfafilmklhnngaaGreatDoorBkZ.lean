import Derived.Test.YtfafilmklhnngaaGreatDoorBkY
import Derived.Test.YtfafilmklhnngaaGreatDoorBkO
import Derived.Shelf.Abstract
set_option maxHeartbeats 12800000
namespace Go.Proofs.YtfafilmklhnngaaGreatDoor
open Go.RowKit Lx Tx Go.Shelf
set_option maxRecDepth 100000
theorem zjm {w:World} {base n:Nat} {v:Value} {ts:List Tok} {e:TypeId}(hn:n=ts.length)(h:w.ownsRow base e 3 v n (zbf ts)):Toks (λg=>g<w.heap.size) w v ts:=by
 subst hn;refine(RdT.of_own h).toks ?_;rcases h.2 with⟨rfl,h0⟩|⟨g,cap,cur,rfl,hr⟩
 ·exact⟨none,0,by rw[h0],by omega⟩
 ·exact⟨_,cap,rfl,by have:=hr.2.2.1;omega⟩
def WhPost(s:List UInt8)(w:World)(e:Ending)(w':World):Prop :=
 Below w.heap.size w w' /\
  ((∃n,n≠0/\parse s=.error n/\e=.returned (.tuple #[.agg #[.int .i64 0,.string ⟨#[]⟩,.int .i64 0,.slice none 0 0],.int .i64 (n:Nat)])) \/
   (∃t K X Z A m c,t.size<=4000/\parse s=(if 50<t.depth then .error 3 else .ok t)/\e=.returned (.tuple #[.agg #[.int .i64 K,.string X,.int .i64 Z,.slice A m c],.int .i64 0]) /\
    RdV (λg=>w.heap.size<=g/\g<w'.heap.size) w' t (.agg #[.int .i64 K,.string X,.int .i64 Z,.slice A m c])))
def zkx:Value:=.func (.func 51) #[] #[]
theorem znt(s:ByteArray)(w:World)(hs:s.size<=maxLen):Calls Tryz.prog 50 #[.string s,zkx,.int .i64 20] w (WhPost s.data.toList w):=by
 have ek:∀args w,(callFunc 51 args).run Tryz.prog w=.ok (.enter 51 args) w:=enters_of Tryz.func51 (by kernel_rfl) rfl;unfold zkx;obtain⟨W0,lV⟩:∃W,(w.alloc (.cells #[.int .i64 0,.string ⟨#[]⟩,.int .i64 0,.slice none 0 0] 37)).alloc (.cells #[.int .i64 0,.string ⟨#[]⟩,.int .i64 0,.slice none 0 0] 37)=W:=⟨_,rfl⟩;have oB:Blk W0 w.heap.size 37 #[.int .i64 0,.string ⟨#[]⟩,.int .i64 0,.slice none 0 0]:=lV▸Blk.below (heap_alloc_new w _) ((Below.refl _ _).alloc (Ai _) _) (by simp);have gI:Blk W0 (w.heap.size+1) 37 #[.int .i64 0,.string ⟨#[]⟩,.int .i64 0,.slice none 0 0]:=by
  have:=heap_alloc_new (w.alloc (.cells #[.int .i64 0,.string ⟨#[]⟩,.int .i64 0,.slice none 0 0] 37)) (.cells #[.int .i64 0,.string ⟨#[]⟩,.int .i64 0,.slice none 0 0] 37);rw[lV,show(w.alloc (.cells #[.int .i64 0,.string ⟨#[]⟩,.int .i64 0,.slice none 0 0] 37)).heap.size=w.heap.size+1 by simp]at this
  exact this
 have aE:Below w.heap.size w W0:=lV▸((Below.refl _ w).alloc (Ai _) _).alloc (by simp) _;have fP:W0.heap.size=w.heap.size+2:=by rw[<-lV];simp
 have R0:=CS oB;have N0:=CS gI;have B0:=CS aE;clear oB gI aE;go_enter Tryz.func50,Tryz.ntmps50
 go_upto_region 2 with fail
 try rw[lV]
 clear lV;go_wp2_with fail
 refine(zm7 s _ hs).mono ?_;rintro e w1 ⟨b1,v,ts,a,er,sp,rfl,ai⟩;have aF:=b1.size;have cD:=R0.out.below b1 (by omega);have lv:=N0.out.below b1 (by omega);obtain⟨a0,a1,a2,a3,r0,r1,r2,r3,dj⟩:=zaa cD;obtain⟨n0,n1,n2,n3,-,-,-,-,kS⟩:=zaa lv;replace R0:=CS cD;replace N0:=CS lv;replace B0:=CS (B0.out.trans (b1.mono (by omega)));have nU:=CS sp;have fm:=CS (zjm rfl ai);clear cD lv b1 sp ai;by_cases he:er=0
 ·subst he
  obtain⟨hG,hL⟩:=zg9 _ _ _ nU.out;have HR:=CS (zo2 ts v w1 fm.out hG (by omega));obtain⟨O,hO⟩:∃O,read (enough ts) ts=O:=⟨_,rfl⟩;rw[hO]at HR
  have HO:=CS hO;have zh:Hid (∀t r,O=some (t,r)->t.size<=4000):=CS λt r h=>by have:=((zdY _).1 ts t r hG (hO.trans h)).2.2;omega
  clear hO hG;go_wp2_with fail
  refine HR.out.mono ?_;rintro e w2 ⟨b2,K1,X1,Z1,A1,m1,c1,v2,q,rfl,cf,cX⟩;have bk:=b2.size;have cD:=R0.out.below b2 dj;have lv:=N0.out.below b2 kS;clear a0 a1 a2 a3 r0 r1 r2 r3 n0 n1 n2 n3;obtain⟨V,hV⟩:∃V,w2.alloc (.cells #[.int .i64 K1,.string X1,.int .i64 Z1,.slice A1 m1 c1] 37)=V:=⟨_,rfl⟩;have gB:Blk V w2.heap.size 37 #[.int .i64 K1,.string X1,.int .i64 Z1,.slice A1 m1 c1]:=hV▸heap_alloc_new _ _;have aT:Below w1.heap.size w1 V:=hV▸b2.alloc b2.size _;have cC:∀g,g<w2.heap.size->V.heap[g]?=w2.heap[g]?:=λg hg=>hV▸Below.heap_alloc _ _ _ hg;have uP:V.heap.size=w2.heap.size+1:=by rw[<-hV];simp
  replace cD:=R0.out.below aT dj;replace lv:=N0.out.below aT kS;obtain⟨a0,a1,a2,a3,r0,r1,r2,r3,ia⟩:=zaa cD;obtain⟨n0,n1,n2,n3,-,-,-,-,hln2⟩:=zaa lv;obtain⟨t0,t1,t2,t3,-,-,-,-,fG⟩:=zaa gB;have R2:=CS cD;have BW:=CS (B0.out.trans (aT.mono (by omega)));have HK2:=CS cC;have fo:=CS cf;have eQ:=CS cX;have HV:=CS hV;clear cD lv gB aT cC b2 cf cX HR hV;cases q with
  |false =>
   have cf:=fo.out rfl;have dK:=cf.2;subst dK;have HP:=CS (zdw _ _ _ nU.out (by rw[HO.out,cf.1];simp));clear cf fo eQ;go_upto_region 6 with fail
   try rw[HV.out]
   clear HV;go_wp2_with fail
   try simp only[Exit.inBlock,Exit.then]
   refine bodyPost_ret (zae rfl _ _ w.heap.size 37 _ (0,0) _ rfl (zah _ _ _ _ R2.out) Tryz.underlying37 rfl (by kernel_rfl)) rfl ?_;exact⟨zak BW.out _ _ _ _ (Ai _),.inl ⟨20,by decide,HP.out,rfl⟩⟩
  |true =>
   obtain⟨t,r,A2,c2,ho,rfl,aK⟩:=eQ.out rfl;have aD:=zh.out t r ho;have cF:Hid (RdV (λg=>w1.heap.size<=g/\g<w2.heap.size) w2 t (.agg #[.int .i64 K1,.string X1,.int .i64 Z1,.slice A1 m1 c1])):=CS aK;obtain⟨n,hn⟩:∃n,r.length=n:=⟨_,rfl⟩;rw[hn]
   clear fo eQ aK;go_upto_region 6 with fail
   try rw[HV.out]
   clear HV;by_cases gI:n=0
   ·subst gI
    obtain rfl:r=[]:=Cs.1 hn;have HP:=CS (zf1 _ _ _ t nU.out (by rw[HO.out,ho]));clear hn ho;go_wp2_with fail
    try simp only[Exit.inBlock,Exit.then]
    refine bodyPost_ret (zae rfl _ _ w.heap.size 37 _ (0,0) _ rfl (zah _ _ _ _ R2.out) Tryz.underlying37 rfl (by kernel_rfl)) rfl ?_;refine⟨zak BW.out _ _ _ _ (Ai _),.inr ⟨t,K1,X1,Z1,A1,m1,c1,aD,HP.out,rfl,?_⟩⟩;refine cF.out.keep (λg hg=>?_) (λg hg=>?_)
    ·refine⟨by omega,?_⟩
     rw[zdt];omega
    ·rw[zat _ _ _ _ _ _ _ (by omega)]
     exact HK2.out g hg.2
   ·have HP:=CS (zdw _ _ _ nU.out (by
     rw[HO.out,ho]
     intro t' e;injection e with e;injection e with _ e;rw[e]at hn
     exact gI hn.symm))
    have hnpos:0<n:=by omega
    clear hn ho gI;go_wp2_with fail
    try simp only[Exit.inBlock,Exit.then]
    refine bodyPost_ret (zae rfl _ _ w.heap.size 37 _ (0,0) _ rfl (zah _ _ _ _ R2.out) Tryz.underlying37 rfl (by kernel_rfl)) rfl ?_;exact⟨zak BW.out _ _ _ _ (Ai _),.inl ⟨20,by decide,HP.out,rfl⟩⟩
 ·have HP:=CS (zha _ _ _ _ nU.out he)
  have dn:((er:Int) != 0)=true:=neqT _ _ (by omega);have HE:=CS he;clear he;go_wp2_with fail
  try simp only[Exit.inBlock,Exit.then]
  refine bodyPost_ret (zae rfl _ _ w.heap.size 37 _ (0,0) _ rfl (zah _ _ _ _ R0.out) Tryz.underlying37 rfl (by kernel_rfl)) rfl ?_;exact⟨zak B0.out _ _ _ _ (Ai _),.inl ⟨er,HE.out,HP.out,rfl⟩⟩
theorem znu(s:ByteArray)(w:World)(hs:s.size<=maxLen):Calls Tryz.prog 18 #[.string s] w (PPost s.data.toList w):=by
 obtain⟨W0,lV⟩:∃W,w.alloc (.cells #[.int .i64 0,.string ⟨#[]⟩,.int .i64 0,.slice none 0 0] 37)=W:=⟨_,rfl⟩;have HWH:=CS (znt s W0 hs);unfold zkx at HWH;have R0:Hid (Blk W0 w.heap.size 37 #[.int .i64 0,.string ⟨#[]⟩,.int .i64 0,.slice none 0 0]):=CS (lV▸heap_alloc_new _ _);have B0:Hid (Below w.heap.size w W0):=CS (lV▸(Below.refl _ w).alloc (Ai _) _);have fP:W0.heap.size=w.heap.size+1:=by rw[<-lV];simp
 go_enter Tryz.func18,Tryz.ntmps18
 go_upto_region 1 with fail
 try rw[lV]
 clear lV;go_wp2_with fail
 refine HWH.out.mono ?_;rintro e w1 ⟨b1,aB⟩;have aF:=b1.size;have cD:=R0.out.below b1 (by omega);have BW:=CS (B0.out.trans (b1.mono (by omega)));have R1:=CS cD;have dj:=cD.lt;clear cD b1 HWH R0 B0;rcases aB with⟨n,hn,hp,rfl⟩|⟨t,K1,X1,Z1,A1,m1,c1,aD,hp,rfl,aK⟩
 ·obtain⟨V,hV⟩:∃V,w1.alloc (.cells #[.int .i64 0,.string ⟨#[]⟩,.int .i64 0,.slice none 0 0] 37)=V:=⟨_,rfl⟩
  have gB:Blk V w1.heap.size 37 #[.int .i64 0,.string ⟨#[]⟩,.int .i64 0,.slice none 0 0]:=hV▸heap_alloc_new _ _;have aT:Below w1.heap.size w1 V:=hV▸(Below.refl _ w1).alloc (Ai _) _;have uP:V.heap.size=w1.heap.size+1:=by rw[<-hV];simp
  obtain⟨t0,t1,t2,t3,-,-,-,-,ah⟩:=zaa gB;replace R1:=CS (R1.out.below aT dj);replace BW:=CS (BW.out.trans (aT.mono (by omega)));have zW:=CS gB;have HP:=CS hp;have HN:=CS hn;have HV:=CS hV;clear aT gB hp hn hV;go_upto_region 2 with fail
  try rw[HV.out]
  clear HV;go_wp2_with fail
  refine(zlH 0 0 _ none 0 V).mono ?_;rintro e w2 ⟨rfl,b2⟩;have bk:=b2.size;have cD:=R1.out.below b2 (by omega);clear t0 t1 t2 t3;obtain⟨t0,t1,t2,t3,-,-,-,-,fG⟩:=zaa (zW.out.below b2 ah);obtain⟨a0,a1,a2,a3,r0,r1,r2,r3,ia⟩:=zaa cD;replace R1:=CS cD;replace BW:=CS (BW.out.trans (b2.mono (by omega)));clear cD b2;go_wp2_with fail
  try simp only[Exit.inBlock,Exit.then]
  refine bodyPost_ret (zae rfl _ _ w.heap.size 37 _ (0,0) _ rfl (zah _ _ _ _ R1.out) Tryz.underlying37 rfl (by kernel_rfl)) rfl ?_;exact zb7 _ _ _ _ n n (zak BW.out _ _ _ _ (Ai _)) HN.out HP.out rfl rfl
 ·obtain⟨V,hV⟩:∃V,w1.alloc (.cells #[.int .i64 K1,.string X1,.int .i64 Z1,.slice A1 m1 c1] 37)=V:=⟨_,rfl⟩
  have gB:Blk V w1.heap.size 37 #[.int .i64 K1,.string X1,.int .i64 Z1,.slice A1 m1 c1]:=hV▸heap_alloc_new _ _;have aT:Below w1.heap.size w1 V:=hV▸(Below.refl _ w1).alloc (Ai _) _;have uP:V.heap.size=w1.heap.size+1:=by rw[<-hV];simp
  have mG:RdV (λg=>W0.heap.size<=g/\g<w1.heap.size) V t (.agg #[.int .i64 K1,.string X1,.int .i64 Z1,.slice A1 m1 c1]):=aK.keep (λ_ h=>h) (λg hg=>aT.block g hg.2);have HD:=CS (zns 1000000 t _ _ V (by omega) (by omega) mG (λg hg=>by omega));obtain⟨D,hD⟩:∃D,t.depth=D:=⟨_,rfl⟩;rw[hD]at HD hp
  obtain⟨t0,t1,t2,t3,-,-,-,-,ah⟩:=zaa gB;replace R1:=CS (R1.out.below aT dj);replace BW:=CS (BW.out.trans (aT.mono (by omega)));have zW:=CS gB;have cF:=CS mG;have HP:=CS hp;have HV:=CS hV;clear aT gB hp hV aK mG hD;go_upto_region 2 with fail
  try rw[HV.out]
  clear HV;go_wp2_with fail
  refine HD.out.mono ?_;rintro e w2 ⟨rfl,b2⟩;have bk:=b2.size;have cD:=R1.out.below b2 (by omega);clear t0 t1 t2 t3;obtain⟨t0,t1,t2,t3,-,-,-,-,fG⟩:=zaa (zW.out.below b2 ah);obtain⟨a0,a1,a2,a3,r0,r1,r2,r3,ia⟩:=zaa cD;replace R1:=CS cD;replace BW:=CS (BW.out.trans (b2.mono (by omega)));replace cF:=CS (cF.out.keep (S':=λg=>W0.heap.size<=g/\g<w1.heap.size) (w':=w2) (λ_ h=>h) (λg hg=>b2.block g (by omega)));clear cD b2 HD;by_cases hd:50<D
  ·have fD:=CS (HP.out.trans (Aq hd))
   go_wp2_with fail
   try simp only[Exit.inBlock,Exit.then]
   refine bodyPost_ret (zae rfl _ _ w.heap.size 37 _ (0,0) _ rfl (zah _ _ _ _ R1.out) Tryz.underlying37 rfl (by kernel_rfl)) rfl ?_;exact zb7 _ _ _ _ 3 3 (zak BW.out _ _ _ _ (Ai _)) (by decide) fD.out rfl rfl
  ·have fD:=CS (HP.out.trans (Am hd))
   go_wp2_with fail
   try simp only[Exit.inBlock,Exit.then]
   refine bodyPost_ret (zae rfl _ _ w.heap.size 37 _ (0,0) _ rfl (zah _ _ _ _ R1.out) Tryz.underlying37 rfl (by kernel_rfl)) rfl ?_;refine⟨zak BW.out _ _ _ _ (Ai _),K1,X1,Z1,A1,m1,c1,.inr ⟨t,fD.out,rfl,?_⟩⟩;refine cF.out.keep (λg hg=>?_) (λg hg=>?_)
   ·refine⟨by omega,?_⟩
    rw[zdt];omega
   ·rw[zat _ _ _ _ _ _ _ (by omega)]
end Go.Proofs.YtfafilmklhnngaaGreatDoor
