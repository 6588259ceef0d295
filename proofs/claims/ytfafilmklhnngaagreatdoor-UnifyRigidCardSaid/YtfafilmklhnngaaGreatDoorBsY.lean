import Derived.Test.YtfafilmklhnngaaGreatDoorBsX
import Derived.Test.YtfafilmklhnngaaGreatDoorBsN
import Derived.Shelf.Abstract
set_option maxHeartbeats 12800000
set_option maxRecDepth 100000
namespace Go.Proofs.YtfafilmklhnngaaGreatDoor
open Tryz
section
open Go.RowKit Lx Tx Go.Shelf
set_option maxRecDepth 100000
theorem zj9 {w:World} {base n:Nat} {v:Value} {ts:List Tok} {e:TypeId}(hn:n=ts.length)(h:w.ownsRow base e 3 v n (JR ts)):Jt (λg=>g<w.heap.size) w v ts:=by
 subst hn;refine(GJ.Jy h).YU ?_;rcases h.2 with⟨rfl,h0⟩|⟨g,cap,cur,rfl,hr⟩
 ·exact⟨none,0,by rw[h0],by omega⟩
 ·exact⟨_,cap,rfl,by have:=hr.2.2.1;omega⟩
def Ph(s:List UInt8)(w:World)(e:Ending)(w':World):Prop :=
 Below w.heap.size w w' /\
  ((∃n,n≠0/\parse s=.error n/\e=.returned (.tuple #[.agg #[.int .i64 0,.string ⟨#[]⟩,.int .i64 0,.slice none 0 0],.int .i64 (n:Nat)])) \/
   (∃t K X Z A m c,t.size<=4000/\parse s=(if 50<t.depth then .error 3 else .ok t)/\e=.returned (.tuple #[.agg #[.int .i64 K,.string X,.int .i64 Z,.slice A m c],.int .i64 0]) /\
    nc (λg=>w.heap.size<=g/\g<w'.heap.size) w' t (.agg #[.int .i64 K,.string X,.int .i64 Z,.slice A m c])))
def UI:Value:=.func (.func 51) #[] #[]
theorem zoS(s:ByteArray)(w:World)(hs:s.size<=maxLen):Calls prog 50 #[.string s,UI,.int .i64 20] w (Ph s.data.toList w):=by
 have ek:∀args w,(callFunc 51 args).run prog w=.ok (.enter 51 args) w:=enters_of func51 (by kernel_rfl) rfl;unfold UI;obtain⟨W0,nK⟩:∃W,(w.alloc (.cells #[.int .i64 0,.string ⟨#[]⟩,.int .i64 0,.slice none 0 0] 37)).alloc (.cells #[.int .i64 0,.string ⟨#[]⟩,.int .i64 0,.slice none 0 0] 37)=W:=⟨_,rfl⟩;have qg:ar W0 w.heap.size 37 #[.int .i64 0,.string ⟨#[]⟩,.int .i64 0,.slice none 0 0]:=nK▸ar.below (BZ w _) ((Cc _ _).alloc (BU _) _) (by simp);have fy:ar W0 (w.heap.size+1) 37 #[.int .i64 0,.string ⟨#[]⟩,.int .i64 0,.slice none 0 0]:=by
  have:=BZ (w.alloc (.cells #[.int .i64 0,.string ⟨#[]⟩,.int .i64 0,.slice none 0 0] 37)) (.cells #[.int .i64 0,.string ⟨#[]⟩,.int .i64 0,.slice none 0 0] 37);rw[nK,show(w.alloc (.cells #[.int .i64 0,.string ⟨#[]⟩,.int .i64 0,.slice none 0 0] 37)).heap.size=w.heap.size+1 by simp]at this;exact this
 have aB:Below w.heap.size w W0:=nK▸((Cc _ w).alloc (BU _) _).alloc (by simp) _;have gI:W0.heap.size=w.heap.size+2:=by rw[<-nK];simp
 have R0:=EP qg;have N0:=EP fy;have B0:=EP aB;clear qg fy aB;go_in;go_upto_region 2 with fail;try rw[nK]
 clear nK;go_wp2_with fail;refine(zok s _ hs).mono ?_;rintro e w1 ⟨b1,v,ts,a,er,sk,rfl,aj⟩;have aH:=b1.size;have cI:=R0.o.below b1 (by omega);have mV:=N0.o.below b1 (by omega);obtain⟨a0,a1,a2,a3,r0,r1,r2,r3,cZ⟩:=n_ cI;obtain⟨n0,n1,n2,n3,-,-,-,-,oO⟩:=n_ mV;replace R0:=EP cI;replace N0:=EP mV;replace B0:=EP (B0.o.trans (b1.mono (by omega)));have pK:=EP sk;have eF:=EP (zj9 rfl aj);clear cI mV b1 sk aj;by_cases he:er=0
 ·subst he
  obtain⟨hG,hL⟩:=zhT _ _ _ pK.o;have HR:=EP (zqH ts v w1 eF.o hG (by omega));obtain⟨O,hO⟩:∃O,read (FH ts) ts=O:=⟨_,rfl⟩;rw[hO]at HR;have HO:=EP hO;have xn:Hid (∀t r,O=some (t,r)->t.size<=4000):=EP λt r h=>by have:=((Qq _).1 ts t r hG (hO.trans h)).2.2;omega
  clear hO hG;go_wp2_with fail;refine HR.o.mono ?_;rintro e w2 ⟨b2,K1,X1,Z1,A1,m1,c1,v2,q,rfl,bN,cw⟩;have aZ:=b2.size;have cI:=R0.o.below b2 cZ;have mV:=N0.o.below b2 oO;clear a0 a1 a2 a3 r0 r1 r2 r3 n0 n1 n2 n3;obtain⟨V,hV⟩:∃V,w2.alloc (.cells #[.int .i64 K1,.string X1,.int .i64 Z1,.slice A1 m1 c1] 37)=V:=⟨_,rfl⟩;have iK:ar V w2.heap.size 37 #[.int .i64 K1,.string X1,.int .i64 Z1,.slice A1 m1 c1]:=hV▸BZ _ _;have aV:Below w1.heap.size w1 V:=hV▸b2.alloc b2.size _;have bZ:∀g,g<w2.heap.size->V.heap[g]?=w2.heap[g]?:=λg hg=>hV▸BX _ _ _ hg;have qI:V.heap.size=w2.heap.size+1:=by rw[<-hV];simp
  replace cI:=R0.o.below aV cZ;replace mV:=N0.o.below aV oO;obtain⟨a0,a1,a2,a3,r0,r1,r2,r3,ju⟩:=n_ cI;obtain⟨n0,n1,n2,n3,-,-,-,-,arT⟩:=n_ mV;obtain⟨t0,t1,t2,t3,-,-,-,-,cO⟩:=n_ iK;have R2:=EP cI;have BW:=EP (B0.o.trans (aV.mono (by omega)));have HK2:=EP bZ;have gw:=EP bN;have fG:=EP cw;have HV:=EP hV;clear cI mV iK aV bZ b2 bN cw HR hV;cases q with
  |false =>
   have bN:=gw.o rfl;have fg:=bN.2;subst fg;have HP:=EP (SS _ _ _ pK.o (by rw[HO.o,bN.1];simp));clear bN gw fG;go_upto_region 6 with fail
   try rw[HV.o]
   clear HV;go_wp2_with fail;try simp only[Exit.inBlock,Exit.then]
   refine Ce (FC rfl _ _ w.heap.size 37 _ (0,0) _ rfl (Fh _ _ _ _ R2.o) underlying37 rfl (by kernel_rfl)) rfl ?_;exact⟨GH BW.o _ _ _ _ (BU _),.inl ⟨20,by decide,HP.o,rfl⟩⟩
  |true =>
   obtain⟨t,r,A2,c2,ho,rfl,aG⟩:=fG.o rfl;have aA:=xn.o t r ho;have cg:Hid (nc (λg=>w1.heap.size<=g/\g<w2.heap.size) w2 t (.agg #[.int .i64 K1,.string X1,.int .i64 Z1,.slice A1 m1 c1])):=EP aG;obtain⟨n,hn⟩:∃n,r.length=n:=⟨_,rfl⟩;rw[hn];clear gw fG aG;go_upto_region 6 with fail
   try rw[HV.o]
   clear HV;by_cases fy:n=0
   ·subst fy
    obtain rfl:r=[]:=List.length_eq_zero_iff.1 hn;have HP:=EP (zgO _ _ _ t pK.o (by rw[HO.o,ho]));clear hn ho;go_wp2_with fail;try simp only[Exit.inBlock,Exit.then]
    refine Ce (FC rfl _ _ w.heap.size 37 _ (0,0) _ rfl (Fh _ _ _ _ R2.o) underlying37 rfl (by kernel_rfl)) rfl ?_;refine⟨GH BW.o _ _ _ _ (BU _),.inr ⟨t,K1,X1,Z1,A1,m1,c1,aA,HP.o,rfl,?_⟩⟩;refine cg.o.al (λg hg=>?_) (λg hg=>?_)
    ·refine⟨by omega,?_⟩
     rw[SX];omega
    ·rw[G3 _ _ _ _ _ _ _ (by omega)]
     exact HK2.o g hg.2
   ·have HP:=EP (SS _ _ _ pK.o (by
     rw[HO.o,ho];intro t' e;injection e with e;injection e with _ e;rw[e]at hn
     exact fy hn.symm))
    have ahe:0<n:=by omega
    clear hn ho fy;go_wp2_with fail;try simp only[Exit.inBlock,Exit.then]
    refine Ce (FC rfl _ _ w.heap.size 37 _ (0,0) _ rfl (Fh _ _ _ _ R2.o) underlying37 rfl (by kernel_rfl)) rfl ?_;exact⟨GH BW.o _ _ _ _ (BU _),.inl ⟨20,by decide,HP.o,rfl⟩⟩
 ·have HP:=EP (zhU _ _ _ _ pK.o he)
  have dn:((er:Int) != 0)=true:=Ng _ _ (by omega);have HE:=EP he;clear he;go_wp2_with fail;try simp only[Exit.inBlock,Exit.then]
  refine Ce (FC rfl _ _ w.heap.size 37 _ (0,0) _ rfl (Fh _ _ _ _ R0.o) underlying37 rfl (by kernel_rfl)) rfl ?_;exact⟨GH B0.o _ _ _ _ (BU _),.inl ⟨er,HE.o,HP.o,rfl⟩⟩
theorem zoT(s:ByteArray)(w:World)(hs:s.size<=maxLen):Calls prog 18 #[.string s] w (Lz s.data.toList w):=by
 obtain⟨W0,nK⟩:∃W,w.alloc (.cells #[.int .i64 0,.string ⟨#[]⟩,.int .i64 0,.slice none 0 0] 37)=W:=⟨_,rfl⟩;have X6:=EP (zoS s W0 hs);unfold UI at X6;have R0:Hid (ar W0 w.heap.size 37 #[.int .i64 0,.string ⟨#[]⟩,.int .i64 0,.slice none 0 0]):=EP (nK▸BZ _ _);have B0:Hid (Below w.heap.size w W0):=EP (nK▸(Cc _ w).alloc (BU _) _);have gI:W0.heap.size=w.heap.size+1:=by rw[<-nK];simp
 go_in;go_upto_region 1 with fail;try rw[nK]
 clear nK;go_wp2_with fail;refine X6.o.mono ?_;rintro e w1 ⟨b1,aD⟩;have aH:=b1.size;have cI:=R0.o.below b1 (by omega);have BW:=EP (B0.o.trans (b1.mono (by omega)));have R1:=EP cI;have cZ:=cI.lt;clear cI b1 X6 R0 B0;rcases aD with⟨n,hn,hp,rfl⟩|⟨t,K1,X1,Z1,A1,m1,c1,aA,hp,rfl,aG⟩
 ·obtain⟨V,hV⟩:∃V,w1.alloc (.cells #[.int .i64 0,.string ⟨#[]⟩,.int .i64 0,.slice none 0 0] 37)=V:=⟨_,rfl⟩
  have iK:ar V w1.heap.size 37 #[.int .i64 0,.string ⟨#[]⟩,.int .i64 0,.slice none 0 0]:=hV▸BZ _ _;have aV:Below w1.heap.size w1 V:=hV▸(Cc _ w1).alloc (BU _) _;have qI:V.heap.size=w1.heap.size+1:=by rw[<-hV];simp
  obtain⟨t0,t1,t2,t3,-,-,-,-,af⟩:=n_ iK;replace R1:=EP (R1.o.below aV cZ);replace BW:=EP (BW.o.trans (aV.mono (by omega)));have BI:=EP iK;have HP:=EP hp;have HN:=EP hn;have HV:=EP hV;clear aV iK hp hn hV;go_upto_region 2 with fail
  try rw[HV.o]
  clear HV;go_wp2_with fail;refine(zmO 0 0 _ none 0 V).mono ?_;rintro e w2 ⟨rfl,b2⟩;have aZ:=b2.size;have cI:=R1.o.below b2 (by omega);clear t0 t1 t2 t3;obtain⟨t0,t1,t2,t3,-,-,-,-,cO⟩:=n_ (BI.o.below b2 af);obtain⟨a0,a1,a2,a3,r0,r1,r2,r3,ju⟩:=n_ cI;replace R1:=EP cI;replace BW:=EP (BW.o.trans (b2.mono (by omega)));clear cI b2;go_wp2_with fail;try simp only[Exit.inBlock,Exit.then]
  refine Ce (FC rfl _ _ w.heap.size 37 _ (0,0) _ rfl (Fh _ _ _ _ R1.o) underlying37 rfl (by kernel_rfl)) rfl ?_;exact PO _ _ _ _ n n (GH BW.o _ _ _ _ (BU _)) HN.o HP.o rfl rfl
 ·obtain⟨V,hV⟩:∃V,w1.alloc (.cells #[.int .i64 K1,.string X1,.int .i64 Z1,.slice A1 m1 c1] 37)=V:=⟨_,rfl⟩
  have iK:ar V w1.heap.size 37 #[.int .i64 K1,.string X1,.int .i64 Z1,.slice A1 m1 c1]:=hV▸BZ _ _;have aV:Below w1.heap.size w1 V:=hV▸(Cc _ w1).alloc (BU _) _;have qI:V.heap.size=w1.heap.size+1:=by rw[<-hV];simp
  have iA:nc (λg=>W0.heap.size<=g/\g<w1.heap.size) V t (.agg #[.int .i64 K1,.string X1,.int .i64 Z1,.slice A1 m1 c1]):=aG.al (λ_ h=>h) (λg hg=>aV.block g hg.2);have HD:=EP (zoR 1000000 t _ _ V (by omega) (by omega) iA (λg hg=>by omega));obtain⟨D,hD⟩:∃D,t.depth=D:=⟨_,rfl⟩;rw[hD]at HD hp;obtain⟨t0,t1,t2,t3,-,-,-,-,af⟩:=n_ iK;replace R1:=EP (R1.o.below aV cZ);replace BW:=EP (BW.o.trans (aV.mono (by omega)));have BI:=EP iK;have cg:=EP iA;have HP:=EP hp;have HV:=EP hV;clear aV iK hp hV aG iA hD;go_upto_region 2 with fail
  try rw[HV.o]
  clear HV;go_wp2_with fail;refine HD.o.mono ?_;rintro e w2 ⟨rfl,b2⟩;have aZ:=b2.size;have cI:=R1.o.below b2 (by omega);clear t0 t1 t2 t3;obtain⟨t0,t1,t2,t3,-,-,-,-,cO⟩:=n_ (BI.o.below b2 af);obtain⟨a0,a1,a2,a3,r0,r1,r2,r3,ju⟩:=n_ cI;replace R1:=EP cI;replace BW:=EP (BW.o.trans (b2.mono (by omega)));replace cg:=EP (cg.o.al (S':=λg=>W0.heap.size<=g/\g<w1.heap.size) (w':=w2) (λ_ h=>h) (λg hg=>b2.block g (by omega)));clear cI b2 HD;by_cases hd:50<D
  ·have gE:=EP (HP.o.trans (Ch hd))
   go_wp2_with fail;try simp only[Exit.inBlock,Exit.then]
   refine Ce (FC rfl _ _ w.heap.size 37 _ (0,0) _ rfl (Fh _ _ _ _ R1.o) underlying37 rfl (by kernel_rfl)) rfl ?_;exact PO _ _ _ _ 3 3 (GH BW.o _ _ _ _ (BU _)) (by decide) gE.o rfl rfl
  ·have gE:=EP (HP.o.trans (Cg hd))
   go_wp2_with fail;try simp only[Exit.inBlock,Exit.then]
   refine Ce (FC rfl _ _ w.heap.size 37 _ (0,0) _ rfl (Fh _ _ _ _ R1.o) underlying37 rfl (by kernel_rfl)) rfl ?_;refine⟨GH BW.o _ _ _ _ (BU _),K1,X1,Z1,A1,m1,c1,.inr ⟨t,gE.o,rfl,?_⟩⟩;refine cg.o.al (λg hg=>?_) (λg hg=>?_)
   ·refine⟨by omega,?_⟩
    rw[SX];omega
   ·rw[G3 _ _ _ _ _ _ _ (by omega)]
end
end Go.Proofs.YtfafilmklhnngaaGreatDoor
