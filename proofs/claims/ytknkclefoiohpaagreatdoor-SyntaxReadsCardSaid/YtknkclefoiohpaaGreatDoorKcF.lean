import Derived.Test.YtknkclefoiohpaaGreatDoorKcD
import Derived.Test.YtknkclefoiohpaaGreatDoorKcC
set_option maxHeartbeats 12800000
namespace Go.Proofs.YtknkclefoiohpaaGreatDoor
open Go.RowKit Lx Tx Sx
set_option maxRecDepth 100000
theorem s8_reads(s:ByteArray)(w:World)(hs:s.size<=maxLen)(ht:Tab w):Calls Tryz.prog 3 #[.string s] w λe w'=>e=.returned (.bool true)/\Below w.heap.size w w':=by
 have HAW:=hidE (s8_awake w ht);have HC:=hidE (λU=>sx_parse s U hs);have HD:=hidE (λU=>r8_parse s U hs);have HT:=hidE ht;clear ht;go_enter Tryz.func3,Tryz.ntmps3
 go_wp2_with fail
 refine HAW.out.mono ?_;rintro e w1 ⟨rfl,hb⟩;have BX:=hidE hb;have hs1:=hb.size;clear hb HAW;go_wp2_with fail
 refine(HC.out _).mono ?_;rintro e w2 ⟨hb,hcs⟩;have hs2:=hb.size;replace BX:=hidE (BX.out.trans (hb.mono BX.out.size));clear HC hb;rcases hcs with⟨n,hn,hp,rfl⟩|⟨p,L,m,d,hok,hwt,hp,rfl,hm,hl⟩
 ·have dn:((n:Int) != 0)=true:=neqT _ _ (by omega)
  have HPE:=hidE hp;clear hn hp;go_wp2_with fail
  refine(HD.out _).mono ?_;rintro e w3 ⟨hb,hcs⟩;replace BX:=hidE (BX.out.trans (hb.mono BX.out.size));clear HD hb;rcases hcs with⟨n',hn',hp',rfl⟩|⟨p,L,m,d,hok,hwt,hp',rfl,hm,hl⟩;case inr=>rw[HPE.out]at hp';cases hp'
  obtain rfl:n=n':=by rw[HPE.out]at hp';injection hp'
  clear hp' hn' HPE;go_wp2_with fail
  go_ret
  exact⟨rfl,BX.out⟩
 ·have HPE:=hidE hp
  have HL1:=hidE hl;have HM1:=hidE hm;clear hp hl hm;go_wp2_with fail
  refine(HD.out _).mono ?_;rintro e w3 ⟨hb,hcs⟩;have hs4:=hb.size;have HB3:=hidE hb;replace BX:=hidE (BX.out.trans (hb.mono BX.out.size));clear HD hb;rcases hcs with⟨n',hn',hp',rfl⟩|⟨p2,L2,m2,d2,hok2,hwt2,hp',rfl,hm2,hl2⟩;case inl=>rw[HPE.out]at hp';cases hp'
  obtain rfl:p=p2:=by rw[HPE.out]at hp';injection hp'
  obtain rfl:m=m2:=HM1.out.trans hm2.symm;have HP1:=hidE (λU (hU:Below w3.heap.size w3 U)=>sx_printPA p _ L m d U (HL1.out.keep (λ_ h=>h) (λg hg=>(hU.block g (by omega)).trans (HB3.out.block g hg.2))) HM1.out.symm hok (by omega) (λg hg=>by have:=hU.size;omega) (HT.out.below (BX.out.trans (hU.mono BX.out.size))));have HP2:=hidE (λU (hU:Below w3.heap.size w3 U)=>d8_printP p _ L2 m d2 U (hl2.keep (λ_ h=>h) (λg hg=>hU.block g hg.2)) HM1.out.symm hok (by omega) (λg hg=>by have:=hU.size;omega));obtain⟨PP,hPP⟩:∃q:ByteArray,⟨(printP p).toArray⟩=q:=⟨_,rfl⟩;rw[hPP]at HP1 HP2
  have BW:Hid (Below w3.heap.size w3 w3):=hidE (Below.refl _ _);clear hp' HPE hPP hok hok2 hwt hwt2 HB3 HT HL1 hl2 HM1 hm2;go_wp2_with fail
  refine(HP1.out _ BW.out).mono ?_;rintro e w4 ⟨rfl,hb⟩;replace BW:=hidE (BW.out.trans (hb.mono BW.out.size));clear hb HP1;go_wp2_with fail
  refine(HP2.out _ BW.out).mono ?_;rintro e w5 ⟨rfl,hb⟩;replace BW:=hidE (BW.out.trans (hb.mono BW.out.size));clear hb HP2;go_wp2_with fail
  go_ret
  exact⟨rfl,BX.out.trans (BW.out.mono BX.out.size)⟩
end Go.Proofs.YtknkclefoiohpaaGreatDoor
