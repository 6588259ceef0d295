/-
  Contracts of the code's functions, part 40.
-/
import Derived.Test.YtknkclefoiohpaaGreatDoorKbAL
import Derived.Test.YtknkclefoiohpaaGreatDoorKbAM
import Derived.Test.YtknkclefoiohpaaGreatDoorKbX
namespace Go.Proofs.YtknkclefoiohpaaGreatDoor
open Go.RowKit Lx Tx Sx
set_option maxRecDepth 100000
theorem exZ_gen:∃(k:Int)(x:ByteArray)(t:Bool)(K:Int)(X:ByteArray)(Z:Int)(B:Option Addr)(m q:Nat)(KA:Option Addr)(kn kc:Nat)(LA:Option Addr)(ln lc:Nat),exZ=#[.int .i64 k,.string x,.bool t,.int .i64 K,.string X,.int .i64 Z,.slice B m q,.slice KA kn kc,.slice LA ln lc]:=⟨_,_,_,_,_,_,_,_,_,_,_,_,_,_,_,rfl⟩
set_option maxHeartbeats 12800000 in
theorem s8_exprs(s:ByteArray)(w:World)(hs:s.size<=maxLen)(ht:Tab w):Calls Tryz.prog 4 #[.string s] w λe w'=>e=.returned (.bool true)/\Below w.heap.size w w':=by
 have HAW:=hidE (s8_awake w ht)
 have HC:=hidE (λU=>sx_parseExpr s U hs)
 have HD:=hidE (λU=>r8_parseExpr s U hs)
 have HT:=hidE ht
 clear ht
 go_enter Tryz.func4,Tryz.ntmps4
 go_wp2_with fail
 refine HAW.out.mono ?_
 rintro e w1 ⟨rfl,hb⟩
 have BX:=hidE hb
 have hs1:=hb.size
 clear hb HAW
 go_wp2_with fail
 refine(HC.out _).mono ?_
 rintro e w2 ⟨hb,hcs⟩
 have hs2:=hb.size
 replace BX:=hidE (BX.out.trans (hb.mono BX.out.size))
 clear HC hb
 rcases hcs with⟨n,hn,hp,rfl⟩|⟨ex,cs,hsh,hok,hwt,hp,rfl,hx⟩
 ·obtain⟨k1,x1,t1,K1,X1,Z1,B1,m1,q1,KA1,kn1,kc1,LA1,ln1,lc1,hz⟩:=exZ_gen
  rw[hz]
  clear hz
  obtain⟨W2,hW2⟩:∃y,w2.alloc (.cells #[.int .i64 k1,.string x1,.bool t1,.int .i64 K1,.string X1,.int .i64 Z1,.slice B1 m1 q1,.slice KA1 kn1 kc1,.slice LA1 ln1 lc1] 39)=y:=⟨_,rfl⟩
  replace BX:=hidE (BX.out.trans (hW2▸(Below.refl _ w2).alloc BX.out.size _:Below w.heap.size w2 W2))
  have hs3:W2.heap.size=w2.heap.size+1:=by rw[<-hW2];simp
  have dn:((n:Int) != 0)=true:=neqT _ _ (by omega)
  have HPE:=hidE hp
  clear hn hp
  go_upto_region 3 with fail
  try rw[hW2]
  clear hW2
  go_wp2_with fail
  refine(HD.out _).mono ?_
  rintro e w3 ⟨hb,cs,hsh,hcs⟩
  replace BX:=hidE (BX.out.trans (hb.mono BX.out.size))
  clear HD hb
  rcases hcs with⟨n',hn',hp',rfl⟩|⟨ex,hok,hwt,hp',rfl,hx⟩
  case inr=>rw[HPE.out]at hp';cases hp'
  obtain rfl:n=n':=by rw[HPE.out]at hp';injection hp'
  obtain⟨k2,x2,t2,K2,X2,Z2,B2,m2,q2,KA2,kn2,kc2,LA2,ln2,lc2,rfl⟩:=hsh
  clear hp' hn' HPE
  replace BX:=hidE (BX.out.trans ((Below.refl _ w3).alloc BX.out.size (.cells #[.int .i64 k2,.string x2,.bool t2,.int .i64 K2,.string X2,.int .i64 Z2,.slice B2 m2 q2,.slice KA2 kn2 kc2,.slice LA2 ln2 lc2] 48)))
  go_wp2_with fail
  go_ret
  exact⟨rfl,BX.out⟩
 ·obtain⟨k1,x1,t1,K1,X1,Z1,B1,m1,q1,KA1,kn1,kc1,LA1,ln1,lc1,rfl⟩:=hsh
  have hvx:=rdX_cs.2 hx
  obtain⟨W2,hW2⟩:∃y,w2.alloc (.cells #[.int .i64 k1,.string x1,.bool t1,.int .i64 K1,.string X1,.int .i64 Z1,.slice B1 m1 q1,.slice KA1 kn1 kc1,.slice LA1 ln1 lc1] 39)=y:=⟨_,rfl⟩
  have hbW:Below w2.heap.size w2 W2:=hW2▸(Below.refl _ w2).alloc (Nat.le_refl _) _
  have hs3:W2.heap.size=w2.heap.size+1:=by rw[<-hW2];simp
  replace BX:=hidE (BX.out.trans (hbW.mono BX.out.size))
  have HB1:=hidE (hW2▸heap_alloc_new w2 _:Blk W2 w2.heap.size 39 #[.int .i64 k1,.string x1,.bool t1,.int .i64 K1,.string X1,.int .i64 Z1,.slice B1 m1 q1,.slice KA1 kn1 kc1,.slice LA1 ln1 lc1])
  have HV1:Hid (∀U,Below W2.heap.size W2 U->RdX (λg=>w1.heap.size<=g/\g<w2.heap.size) U ex (.agg #[.int .i64 k1,.string x1,.bool t1,.int .i64 K1,.string X1,.int .i64 Z1,.slice B1 m1 q1,.slice KA1 kn1 kc1,.slice LA1 ln1 lc1])):=hidE λU hU=>hvx.keep (λ_ h=>h) (λg hg=>(hbW.trans (hU.mono (by omega))).block g hg.2)
  have HPE:=hidE hp
  clear hp hx hvx hbW
  go_upto_region 3 with fail
  try rw[hW2]
  clear hW2
  go_wp2_with fail
  refine(HD.out _).mono ?_
  rintro e w3 ⟨hb,cs,hsh,hcs⟩
  have hs4:=hb.size
  have HB3:=hidE hb
  replace BX:=hidE (BX.out.trans (hb.mono BX.out.size))
  clear HD hb
  rcases hcs with⟨n',hn',hp',rfl⟩|⟨ex2,hok2,hwt2,hp',rfl,hx⟩
  case inl=>rw[HPE.out]at hp';cases hp'
  obtain rfl:ex=ex2:=by rw[HPE.out]at hp';injection hp'
  obtain⟨k2,x2,t2,K2,X2,Z2,B2,m2,q2,KA2,kn2,kc2,LA2,ln2,lc2,rfl⟩:=hsh
  have hvx:=rdX_cs.2 hx
  obtain⟨W3,hW3⟩:∃y,w3.alloc (.cells #[.int .i64 k2,.string x2,.bool t2,.int .i64 K2,.string X2,.int .i64 Z2,.slice B2 m2 q2,.slice KA2 kn2 kc2,.slice LA2 ln2 lc2] 48)=y:=⟨_,rfl⟩
  have hbW:Below w3.heap.size w3 W3:=hW3▸(Below.refl _ w3).alloc (Nat.le_refl _) _
  have hs5:W3.heap.size=w3.heap.size+1:=by rw[<-hW3];simp
  replace BX:=hidE (BX.out.trans (hbW.mono BX.out.size))
  have HB2:=hidE (hW3▸heap_alloc_new w3 _:Blk W3 w3.heap.size 48 #[.int .i64 k2,.string x2,.bool t2,.int .i64 K2,.string X2,.int .i64 Z2,.slice B2 m2 q2,.slice KA2 kn2 kc2,.slice LA2 ln2 lc2])
  replace HB1:=hidE ((HB1.out.below HB3.out (by omega)).below hbW (by omega))
  have HV2:Hid (∀U,Below W3.heap.size W3 U->RdX (λg=>W2.heap.size<=g/\g<w3.heap.size) U ex (.agg #[.int .i64 k2,.string x2,.bool t2,.int .i64 K2,.string X2,.int .i64 Z2,.slice B2 m2 q2,.slice KA2 kn2 kc2,.slice LA2 ln2 lc2])):=hidE λU hU=>hvx.keep (λ_ h=>h) (λg hg=>(hbW.trans (hU.mono (by omega))).block g hg.2)
  have HU:∀U,Below W3.heap.size W3 U->Below W2.heap.size W2 U:=λU hU=>HB3.out.trans ((hbW.trans (hU.mono (by omega))).mono (by omega))
  have hzz:=size_wt ex
  have HP1:=hidE (λU (hU:Below W3.heap.size W3 U)=>sx_printE ex _ _ U hok (by omega) (HV1.out U (HU U hU)) (λg hg=>by have:=hU.size;omega) (HT.out.below (BX.out.trans (hU.mono BX.out.size))))
  have HS1:=hidE (λU (hU:Below W3.heap.size W3 U)=>sx_size 100000 ex _ _ U (by omega) (by decide) (HV1.out U (HU U hU)) (λg hg=>by have:=hU.size;omega))
  have HD1:=hidE (λU (hU:Below W3.heap.size W3 U)=>sx_depth 100000 ex _ _ U (by omega) (by decide) (HV1.out U (HU U hU)) (λg hg=>by have:=hU.size;omega))
  have HP2:=hidE (λU (hU:Below W3.heap.size W3 U)=>d8_printE ex _ _ U hok (by omega) (HV2.out U hU) (λg hg=>by have:=hU.size;omega))
  have HS2:=hidE (λU (hU:Below W3.heap.size W3 U)=>r8_size 400000 ex _ _ U (by omega) (by decide) (HV2.out U hU) (λg hg=>by have:=hU.size;omega))
  have HD2:=hidE (λU (hU:Below W3.heap.size W3 U)=>r8_depth 400000 ex _ _ U (by omega) (by decide) (HV2.out U hU) (λg hg=>by have:=hU.size;omega))
  obtain⟨PP,hPP⟩:∃p:ByteArray,⟨ex.print.toArray⟩=p:=⟨_,rfl⟩
  obtain⟨sz,hsz⟩:∃p,ex.size=p:=⟨_,rfl⟩
  obtain⟨dp,hdp⟩:∃p,ex.depth=p:=⟨_,rfl⟩
  rw[hPP]at HP1 HP2
  rw[hsz]at HS1 HS2
  rw[hdp]at HD1 HD2
  have BW:Hid (Below W3.heap.size W3 W3):=hidE (Below.refl _ _)
  obtain⟨⟨g0,g1,g2,g3,g4,g5,g6,g7,g8⟩,-,-⟩:=blk_facts9 HB1.out
  clear hp' hx hvx hbW HPE HU hzz hPP hsz hdp HV1 HV2 hok hok2 hwt hwt2 HB3 HT
  go_upto_region 4 with fail
  try rw[hW3]
  clear hW3
  go_wp2_with fail
  refine(HP1.out _ BW.out).mono ?_
  rintro e w4 ⟨rfl,hb⟩
  replace BW:=hidE (BW.out.trans (hb.mono BW.out.size))
  clear hb HP1 g0 g1 g2 g3 g4 g5 g6 g7 g8
  obtain⟨⟨g0,g1,g2,g3,g4,g5,g6,g7,g8⟩,-,-⟩:=blk_facts9 (HB1.out.below BW.out (by omega))
  go_wp2_with fail
  refine(HS1.out _ BW.out).mono ?_
  rintro e w5 ⟨rfl,hb⟩
  replace BW:=hidE (BW.out.trans (hb.mono BW.out.size))
  clear hb HS1 g0 g1 g2 g3 g4 g5 g6 g7 g8
  obtain⟨⟨g0,g1,g2,g3,g4,g5,g6,g7,g8⟩,-,-⟩:=blk_facts9 (HB1.out.below BW.out (by omega))
  go_wp2_with fail
  refine(HD1.out _ BW.out).mono ?_
  rintro e w6 ⟨rfl,hb⟩
  replace BW:=hidE (BW.out.trans (hb.mono BW.out.size))
  clear hb HD1 g0 g1 g2 g3 g4 g5 g6 g7 g8
  obtain⟨⟨g0,g1,g2,g3,g4,g5,g6,g7,g8⟩,-,-⟩:=blk_facts9 (HB2.out.below BW.out (by omega))
  go_wp2_with fail
  refine(HP2.out _ BW.out).mono ?_
  rintro e w7 ⟨rfl,hb⟩
  replace BW:=hidE (BW.out.trans (hb.mono BW.out.size))
  clear hb HP2 g0 g1 g2 g3 g4 g5 g6 g7 g8
  obtain⟨⟨g0,g1,g2,g3,g4,g5,g6,g7,g8⟩,-,-⟩:=blk_facts9 (HB2.out.below BW.out (by omega))
  go_wp2_with fail
  refine(HS2.out _ BW.out).mono ?_
  rintro e w8 ⟨rfl,hb⟩
  replace BW:=hidE (BW.out.trans (hb.mono BW.out.size))
  clear hb HS2 g0 g1 g2 g3 g4 g5 g6 g7 g8
  obtain⟨⟨g0,g1,g2,g3,g4,g5,g6,g7,g8⟩,-,-⟩:=blk_facts9 (HB2.out.below BW.out (by omega))
  go_wp2_with fail
  refine(HD2.out _ BW.out).mono ?_
  rintro e w9 ⟨rfl,hb⟩
  replace BW:=hidE (BW.out.trans (hb.mono BW.out.size))
  clear hb HD2 g0 g1 g2 g3 g4 g5 g6 g7 g8
  go_wp2_with fail
  go_ret
  exact⟨rfl,BX.out.trans (BW.out.mono BX.out.size)⟩
end Go.Proofs.YtknkclefoiohpaaGreatDoor
