import Derived.Test.YtknkclefoiohpaaGreatDoorKbS
import Derived.Test.YtknkclefoiohpaaGreatDoorKbAK
import Derived.Test.YtknkclefoiohpaaGreatDoorKbW
import Derived.Test.YtknkclefoiohpaaGreatDoorKbT
set_option maxHeartbeats 12800000
namespace Go.Proofs.YtknkclefoiohpaaGreatDoor
open Go.RowKit Lx Tx Sx
set_option maxRecDepth 100000
theorem blk_set17 {w:World} {g:Nat} {t:TypeId} {a0 a1 a2 a3 a4 a5 a6 a7 a8 a9 a10 a11 a12 a13 a14 a15 a16:Value}(b0 b1 b2 b3 b4 b5 b6 b7 b8 b9 b10 b11 b12 b13 b14 b15 b16:Value)(h:Blk w g t #[a0,a1,a2,a3,a4,a5,a6,a7,a8,a9,a10,a11,a12,a13,a14,a15,a16]):Blk (((((((((((((((((w.setCell ⟨g,0,none⟩ b0).setCell ⟨g,1,none⟩ b1).setCell ⟨g,2,none⟩ b2).setCell ⟨g,3,none⟩ b3).setCell ⟨g,4,none⟩ b4).setCell ⟨g,5,none⟩ b5).setCell ⟨g,6,none⟩ b6).setCell ⟨g,7,none⟩ b7).setCell ⟨g,8,none⟩ b8).setCell ⟨g,9,none⟩ b9).setCell ⟨g,10,none⟩ b10).setCell ⟨g,11,none⟩ b11).setCell ⟨g,12,none⟩ b12).setCell ⟨g,13,none⟩ b13).setCell ⟨g,14,none⟩ b14).setCell ⟨g,15,none⟩ b15).setCell ⟨g,16,none⟩ b16) g t #[b0,b1,b2,b3,b4,b5,b6,b7,b8,b9,b10,b11,b12,b13,b14,b15,b16]:=by
 have s:∀(W:World) (cs:Array Value) (i:Nat) (b:Value),Blk W g t cs->Blk (W.setCell ⟨g,i,none⟩ b) g t (cs.setIfInBounds i b):=λW cs i b h=>heap_setCell_same W g i _ _ b h;have hh:=(s _ _ 16 b16 (s _ _ 15 b15 (s _ _ 14 b14 (s _ _ 13 b13 (s _ _ 12 b12 (s _ _ 11 b11 (s _ _ 10 b10 (s _ _ 9 b9 (s _ _ 8 b8 (s _ _ 7 b7 (s _ _ 6 b6 (s _ _ 5 b5 (s _ _ 4 b4 (s _ _ 3 b3 (s _ _ 2 b2 (s _ _ 1 b1 (s _ _ 0 b0 h)))))))))))))))));have e:((((((((((((((((((#[a0,a1,a2,a3,a4,a5,a6,a7,a8,a9,a10,a11,a12,a13,a14,a15,a16]:Array Value).setIfInBounds 0 b0).setIfInBounds 1 b1).setIfInBounds 2 b2).setIfInBounds 3 b3).setIfInBounds 4 b4).setIfInBounds 5 b5).setIfInBounds 6 b6).setIfInBounds 7 b7).setIfInBounds 8 b8).setIfInBounds 9 b9).setIfInBounds 10 b10).setIfInBounds 11 b11).setIfInBounds 12 b12).setIfInBounds 13 b13).setIfInBounds 14 b14).setIfInBounds 15 b15).setIfInBounds 16 b16)=#[b0,b1,b2,b3,b4,b5,b6,b7,b8,b9,b10,b11,b12,b13,b14,b15,b16]:=by simp
 rw[e]at hh
 exact hh
theorem set17_far(w:World)(g k:Nat)(b0 b1 b2 b3 b4 b5 b6 b7 b8 b9 b10 b11 b12 b13 b14 b15 b16:Value)(hk:k≠g):(((((((((((((((((w.setCell ⟨g,0,none⟩ b0).setCell ⟨g,1,none⟩ b1).setCell ⟨g,2,none⟩ b2).setCell ⟨g,3,none⟩ b3).setCell ⟨g,4,none⟩ b4).setCell ⟨g,5,none⟩ b5).setCell ⟨g,6,none⟩ b6).setCell ⟨g,7,none⟩ b7).setCell ⟨g,8,none⟩ b8).setCell ⟨g,9,none⟩ b9).setCell ⟨g,10,none⟩ b10).setCell ⟨g,11,none⟩ b11).setCell ⟨g,12,none⟩ b12).setCell ⟨g,13,none⟩ b13).setCell ⟨g,14,none⟩ b14).setCell ⟨g,15,none⟩ b15).setCell ⟨g,16,none⟩ b16).heap[k]?=w.heap[k]?:=by
 rw[Below.heap_setCell _ ⟨g,16,none⟩ _ k hk,Below.heap_setCell _ ⟨g,15,none⟩ _ k hk,Below.heap_setCell _ ⟨g,14,none⟩ _ k hk,Below.heap_setCell _ ⟨g,13,none⟩ _ k hk,Below.heap_setCell _ ⟨g,12,none⟩ _ k hk,Below.heap_setCell _ ⟨g,11,none⟩ _ k hk,Below.heap_setCell _ ⟨g,10,none⟩ _ k hk,Below.heap_setCell _ ⟨g,9,none⟩ _ k hk,Below.heap_setCell _ ⟨g,8,none⟩ _ k hk,Below.heap_setCell _ ⟨g,7,none⟩ _ k hk,Below.heap_setCell _ ⟨g,6,none⟩ _ k hk,Below.heap_setCell _ ⟨g,5,none⟩ _ k hk,Below.heap_setCell _ ⟨g,4,none⟩ _ k hk,Below.heap_setCell _ ⟨g,3,none⟩ _ k hk,Below.heap_setCell _ ⟨g,2,none⟩ _ k hk,Below.heap_setCell _ ⟨g,1,none⟩ _ k hk,Below.heap_setCell _ ⟨g,0,none⟩ _ k hk]
theorem size_set17(w:World)(g:Nat)(b0 b1 b2 b3 b4 b5 b6 b7 b8 b9 b10 b11 b12 b13 b14 b15 b16:Value):(((((((((((((((((w.setCell ⟨g,0,none⟩ b0).setCell ⟨g,1,none⟩ b1).setCell ⟨g,2,none⟩ b2).setCell ⟨g,3,none⟩ b3).setCell ⟨g,4,none⟩ b4).setCell ⟨g,5,none⟩ b5).setCell ⟨g,6,none⟩ b6).setCell ⟨g,7,none⟩ b7).setCell ⟨g,8,none⟩ b8).setCell ⟨g,9,none⟩ b9).setCell ⟨g,10,none⟩ b10).setCell ⟨g,11,none⟩ b11).setCell ⟨g,12,none⟩ b12).setCell ⟨g,13,none⟩ b13).setCell ⟨g,14,none⟩ b14).setCell ⟨g,15,none⟩ b15).setCell ⟨g,16,none⟩ b16).heap.size=w.heap.size:=by simp
set_option maxRecDepth 100000
theorem below_set17 {B:Nat} {w w':World} {g:Nat}(h:Below B w w')(hg:B<=g)(b0 b1 b2 b3 b4 b5 b6 b7 b8 b9 b10 b11 b12 b13 b14 b15 b16:Value):Below B w (((((((((((((((((w'.setCell ⟨g,0,none⟩ b0).setCell ⟨g,1,none⟩ b1).setCell ⟨g,2,none⟩ b2).setCell ⟨g,3,none⟩ b3).setCell ⟨g,4,none⟩ b4).setCell ⟨g,5,none⟩ b5).setCell ⟨g,6,none⟩ b6).setCell ⟨g,7,none⟩ b7).setCell ⟨g,8,none⟩ b8).setCell ⟨g,9,none⟩ b9).setCell ⟨g,10,none⟩ b10).setCell ⟨g,11,none⟩ b11).setCell ⟨g,12,none⟩ b12).setCell ⟨g,13,none⟩ b13).setCell ⟨g,14,none⟩ b14).setCell ⟨g,15,none⟩ b15).setCell ⟨g,16,none⟩ b16) :=
 ((((((((((((((((h.setCell (p:=⟨g,0,none⟩) hg b0).setCell (p:=⟨g,1,none⟩) hg b1).setCell (p:=⟨g,2,none⟩) hg b2).setCell (p:=⟨g,3,none⟩) hg b3).setCell (p:=⟨g,4,none⟩) hg b4).setCell (p:=⟨g,5,none⟩) hg b5).setCell (p:=⟨g,6,none⟩) hg b6).setCell (p:=⟨g,7,none⟩) hg b7).setCell (p:=⟨g,8,none⟩) hg b8).setCell (p:=⟨g,9,none⟩) hg b9).setCell (p:=⟨g,10,none⟩) hg b10).setCell (p:=⟨g,11,none⟩) hg b11).setCell (p:=⟨g,12,none⟩) hg b12).setCell (p:=⟨g,13,none⟩) hg b13).setCell (p:=⟨g,14,none⟩) hg b14).setCell (p:=⟨g,15,none⟩) hg b15).setCell (p:=⟨g,16,none⟩) hg b16
def XPD(ts:List Tok)(w:World)(o:Option (De × List Tok))(e:Ending)(w':World):Prop :=
 Below w.heap.size w w'/\∃(cs:List Value) (z:Int),shD cs/\e=.returned (.tuple #[.agg cs.toArray,.int .i64 z])/\PAt ts (o.map (·.2)) z/\∀x r,o=some (x,r)->pcD.Cs (λg=>w.heap.size<=g/\g<w'.heap.size) w' x cs
theorem XPD.drew {ts:List Tok} {w W:World} {o:Option (De × List Tok)} {e:Ending}(h:XPD ts w o e W):XPD ts w o e W.drew:=by
 obtain⟨h1,cs,z,h2,h3,h4,h5⟩:=h;exact⟨h1.drew,cs,z,h2,h3,h4,λx r ho=>pcD.keep (w:=W) (S:=λg=>w.heap.size<=g/\g<W.heap.size) (λ_ h=>h) (λ_ _=>rfl) (h5 x r ho)⟩
def rdEE(r:List Tok):Option (Ex × List Tok):=rdE (enoughE r) r
theorem dec_o(l:List Tok)(h:isO 3 wData (some l)=false):rdDecl l=if isO 6 [58] (nxO 1 [] (some l))=true then((nxO 6 [58] (nxO 1 [] (some l))).bind typ).map λy=>(.sig (txO (some l)) y.1,y.2) else((nxO 6 [61] (nxO 1 [] (some l))).bind rdEE).map λy=>(.bind (txO (some l)) y.1,y.2):=by
 rw[isO_hd _ _ (by decide)]at h
 rw[declF_eq,h,if_neg (by decide),decN,nx_kind]
 by_cases h1:(hd l).kind=1
 ·rw[if_pos h1,if_pos h1,decG,isO_hd _ _ (by decide),nx_some _ _ (by decide),nx_some _ _ (by decide)]
  by_cases h2:isHd l.tail 6 [58]=true
  ·rw[if_pos h2,if_pos h2,if_pos h2];rfl
  ·rw[if_neg h2,if_neg h2,decH]
   by_cases h3:isHd l.tail 6 [61]=true
   ·rw[if_pos h3,if_pos h3];rfl
   ·rw[if_neg h3,if_neg h3];rfl
 ·rw[if_neg h1,if_neg h1];rfl
theorem r8_readP(ts:List Tok)(v:Value)(p:Option (List Tok))(z:Int)(w:World)(hG:AllG ts)(hn:ts.length<=100000)(hv:RdT w v ts)(hp:PAt ts p z):Calls Tryz.prog 44 #[v,.int .i64 z] w (XP8 ts w (p.bind rdEE)):=by
 cases p with
 |none=>exact(r8_all ts v hG hn 3).1 3 (Nat.le_refl _) w none z hv hp (λr h=>by cases h)
 |some r=>exact(r8_all ts v hG hn (enoughE r)).1 (enoughE r) (Nat.le_refl _) w (some r) z hv hp (λr h=>by injection h with h;subst h;unfold enoughE;omega)
set_option maxRecDepth 100000
theorem r8_decl_sb(ts:List Tok)(v:Value)(hG:AllG ts)(hn:ts.length<=100000)(w:World)(i:Nat)(hi:i<=ts.length)(hv:RdT w v ts)(hq:isO 3 wData (some (ts.drop i))=false):Calls Tryz.prog 33 #[v,.int .i64 (i:Nat)] w (XPD ts w (rdDecl (ts.drop i))):=by
 have hp0:PAt ts (some (ts.drop i)) (i:Nat):=PAt.some_ ts i hi;have HI1:Hid (∀W,Below w.heap.size w W->Calls Tryz.prog 34 #[v,.int .i64 (i:Nat),.int .i64 3,.string ⟨#[100,97,116,97]⟩] W λe w'=>e=.returned (.bool false)/\W=w'):=hidE λW hb=>by
  have:=r8_is v ts _ _ 3 ⟨#[100,97,116,97]⟩ 3 rfl (by decide) W (hv.below hb) hp0;rwa [show(⟨#[100,97,116,97]⟩:ByteArray).data.toList=wData from rfl,hq]at this
 obtain⟨O,hO⟩:∃O,rdDecl (ts.drop i)=O:=⟨_,rfl⟩;rw[hO]
 rw[dec_o _ hq]at hO
 have HN1:=hidE (λW (hb:Below w.heap.size w W)=>r8_next v ts _ _ 1 ⟨#[]⟩ 1 rfl (by decide) W (hv.below hb) hn hp0);have HTX:=hidE (λW (hb:Below w.heap.size w W)=>r8_text v ts _ _ W (hv.below hb) hp0);obtain⟨P1,hP1⟩:∃P,nxO 1 [] (some (ts.drop i))=P:=⟨_,rfl⟩;obtain⟨X,hX⟩:∃X:ByteArray,⟨(txO (some (ts.drop i))).toArray⟩=X:=⟨_,rfl⟩;have hX2:txO (some (ts.drop i))=X.data.toList:=by rw[<-hX]
 rw[hP1,hX2]at hO
 rw[hX]at HTX
 have HO:=hidE hO;have HP1:=hidE hP1;have HV:=hidE hv;have HG:=hidE hG;have hi9:(i:Int)<=100000:=by omega
 obtain⟨W0,hW0⟩:∃W,w.alloc (.cells #[.int .i64 0,.string ⟨#[]⟩,.slice none 0 0,.slice none 0 0,.int .i64 0,.string ⟨#[]⟩,.int .i64 0,.slice none 0 0,.int .i64 0,.string ⟨#[]⟩,.bool false,.int .i64 0,.string ⟨#[]⟩,.int .i64 0,.slice none 0 0,.slice none 0 0,.slice none 0 0] 81)=W:=⟨_,rfl⟩;have hal:Below w.heap.size w W0:=hW0▸(Below.refl _ w).alloc (Nat.le_refl _) _;have hs0:w.heap.size+1<=W0.heap.size/\W0.heap.size<=w.heap.size+1:=by rw[<-hW0];simp
 have hbk:Blk W0 w.heap.size 81 #[.int .i64 0,.string ⟨#[]⟩,.slice none 0 0,.slice none 0 0,.int .i64 0,.string ⟨#[]⟩,.int .i64 0,.slice none 0 0,.int .i64 0,.string ⟨#[]⟩,.bool false,.int .i64 0,.string ⟨#[]⟩,.int .i64 0,.slice none 0 0,.slice none 0 0,.slice none 0 0]:=hW0▸heap_alloc_new _ _;have HAL:=hidE hal;have HBK:=hidE hbk;clear hv hq hp0 hP1 hX hX2 hO hal hbk hG hi;go_enter Tryz.func33,Tryz.ntmps33
 go_wp2_with fail
 try rw[hW0]
 refine(HI1.out _ HAL.out).mono ?_;rintro e w1 ⟨rfl,rfl⟩;clear HI1 hW0;go_wp2_with fail
 refine(HN1.out _ HAL.out).mono ?_;rintro e w1 ⟨rfl,za,rfl,hza⟩;replace hza:=(show(⟨#[]⟩:ByteArray).data.toList=[] from rfl)▸hza;rw[HP1.out]at hza
 have HZA:=hidE hza;have HIC:=hidE (r8_is v ts P1 za 6 ⟨#[58]⟩ 6 rfl (by decide) W0 (HV.out.below HAL.out) hza);have hlo:=hza.lo;obtain⟨q,hq⟩:∃q,isO 6 [58] P1=q:=⟨_,rfl⟩;rw[show(⟨#[58]⟩:ByteArray).data.toList=[58] from rfl,hq]at HIC
 have HQ:=hidE hq;clear hza HN1 hq;go_wp2_with fail
 refine HIC.out.mono ?_;rintro e w1 ⟨rfl,rfl⟩;clear HIC;cases q with
 |true =>
  obtain⟨hpn,hza0,hza1⟩:=pat_next (by decide) HZA.out HQ.out;have HT:=hidE (r8_typ v ts _ (za+1) W0 (HV.out.below HAL.out) HG.out hn hpn);have HO2:Hid (((nxO 6 [58] P1).bind typ).map (λy=>(De.sig X.data.toList y.1,y.2))=O):=hidE (by rw[<-HO.out,HQ.out,if_pos rfl]);obtain⟨M,hM⟩:∃M,(nxO 6 [58] P1).bind typ=M:=⟨_,rfl⟩;rw[hM]at HT HO2
  clear hpn hM HO;go_wp2_with fail
  refine HT.out.mono ?_;rintro e w3 ⟨b3,tK,tX,tZ,tA,tm,tc,zt,rfl,hpt,htc⟩;have hs3:=b3.size;obtain⟨W3,hW3⟩:∃W,w3.alloc (.cells #[.int .i64 tK,.string tX,.int .i64 tZ,.slice tA tm tc] 44)=W:=⟨_,rfl⟩;have hbw:Below w3.heap.size w3 W3:=hW3▸(Below.refl _ w3).alloc (Nat.le_refl _) _;have hsW3:w3.heap.size+1<=W3.heap.size/\W3.heap.size<=w3.heap.size+1:=by rw[<-hW3];simp
  have hbt:Blk W3 w3.heap.size 44 #[.int .i64 tK,.string tX,.int .i64 tZ,.slice tA tm tc]:=hW3▸heap_alloc_new _ _;have HB3:Hid (Below w.heap.size w W3):=hidE (HAL.out.trans ((b3.mono (by omega)).trans (hbw.mono (by omega))));have HBK3:=hidE ((HBK.out.below b3 (by omega)).below hbw (by omega));have HBT:=hidE hbt;have HPT:=hidE hpt;have HTC:Hid (∀t r,M=some (t,r)->RdV (λg=>w.heap.size<g/\g<w3.heap.size) W3 t (.agg #[.int .i64 tK,.string tX,.int .i64 tZ,.slice tA tm tc])):=hidE λt r ho=>(htc t r ho).keep (λg hg=>⟨by omega,hg.2⟩) (λg hg=>hbw.block g hg.2);have HW3:=hidE hW3;clear b3 hbw hbt hpt htc HT hW3;go_upto_region 23 with fail
  rw[HW3.out]
  clear HW3;obtain⟨g0,g1,g2,g3,-,-,-,-,hlg⟩:=blk_facts4 HBT.out;obtain⟨⟨m0,m1,m2,m3,m4,m5,m6,m7,m8,m9,m10,m11,m12,m13,m14,m15,m16⟩,⟨y0,y1,y2,y3,y4,y5,y6,y7,y8,y9,y10,y11,y12,y13,y14,y15,y16⟩,hlm⟩:=blk_facts17 HBK3.out;go_region_with (go_at_call 81;(with_reducible refine(HTX.out _ (by first|exact HB3.out|exact HB3.out.drew)).mono ?_);rintro e w5 ⟨rfl,rfl⟩)
  all_goals
   go_wp2_with fail
   refine bodyPost_ret (results_ct rfl _ _ w.heap.size 81 _ (0,0) _ rfl (blk_set17 _ _ _ _ _ _ _ _ _ _ _ _ _ _ _ _ _ HBK3.out).drew Tryz.underlying81 rfl (by kernel_rfl)) rfl ?_;refine XPD.drew ⟨below_set17 HB3.out (Nat.le_refl _) _ _ _ _ _ _ _ _ _ _ _ _ _ _ _ _ _,_,zt,⟨_,_,_,_,_,_,_,_,_,_,_,_,_,_,_,_,_,_,_,_,_,_,_,_,_,_,_,_,_,rfl⟩,rfl,?_,λy r ho=>?_⟩
   ·rw[<-HO2.out,Option.map_map];exact HPT.out
   ·rw[<-HO2.out]at ho
    cases hM:M with
    |none=>rw[hM]at ho;cases ho
    |some u =>
     rw[hM]at ho
     simp only[Option.map_some,Option.some.injEq,Prod.mk.injEq]at ho;obtain⟨rfl,-⟩:=ho;obtain⟨A',a',hv',hA'⟩:=HTC.out u.1 u.2 hM;injection hv' with hv';have hv':=congrArg Array.toList hv';simp only[List.cons.injEq,Value.int.injEq,Value.string.injEq,Value.slice.injEq,and_true,true_and]at hv';obtain⟨rfl,rfl,rfl,rfl,rfl,rfl⟩:=hv';exact⟨tA,tc,rfl,Args.keep (λg hg=>⟨by omega,by rw[size_set17];omega⟩) (λg hg=>set17_far _ _ _ _ _ _ _ _ _ _ _ _ _ _ _ _ _ _ _ _ (by omega)) _ _ hA'⟩
 |false =>
  have HO2:Hid (((nxO 6 [61] P1).bind rdEE).map (λy=>(De.bind X.data.toList y.1,y.2))=O):=hidE (by rw[<-HO.out,HQ.out,if_neg (by decide)]);have HNE:=hidE (r8_next v ts P1 za 6 ⟨#[61]⟩ 6 rfl (by decide) W0 (HV.out.below HAL.out) hn HZA.out);clear HO;go_wp2_with fail
  refine HNE.out.mono ?_;rintro e w1 ⟨rfl,zb,rfl,hzb⟩;replace hzb:=(show(⟨#[61]⟩:ByteArray).data.toList=[61] from rfl)▸hzb;have HT:=hidE (r8_readP ts v _ zb W0 HG.out hn (HV.out.below HAL.out) hzb);obtain⟨M,hM⟩:∃M,(nxO 6 [61] P1).bind rdEE=M:=⟨_,rfl⟩;rw[hM]at HT HO2
  clear hzb HNE hM;go_wp2_with fail
  refine HT.out.mono ?_;rintro e w3 ⟨b3,cs,zt,hsh,rfl,hpt,htc⟩;obtain⟨ck,cx,ct,cK,cX,cZ,cB,cm,cq,cKA,ckn,ckc,cLA,cln,clc,rfl⟩:=hsh;have hs3:=b3.size;obtain⟨W3,hW3⟩:∃W,w3.alloc (.cells #[.int .i64 ck,.string cx,.bool ct,.int .i64 cK,.string cX,.int .i64 cZ,.slice cB cm cq,.slice cKA ckn ckc,.slice cLA cln clc] 48)=W:=⟨_,rfl⟩;have hbw:Below w3.heap.size w3 W3:=hW3▸(Below.refl _ w3).alloc (Nat.le_refl _) _;have hsW3:w3.heap.size+1<=W3.heap.size/\W3.heap.size<=w3.heap.size+1:=by rw[<-hW3];simp
  have hbt:Blk W3 w3.heap.size 48 #[.int .i64 ck,.string cx,.bool ct,.int .i64 cK,.string cX,.int .i64 cZ,.slice cB cm cq,.slice cKA ckn ckc,.slice cLA cln clc]:=hW3▸heap_alloc_new _ _;have HB3:Hid (Below w.heap.size w W3):=hidE (HAL.out.trans ((b3.mono (by omega)).trans (hbw.mono (by omega))));have HBK3:=hidE ((HBK.out.below b3 (by omega)).below hbw (by omega));have HBT:=hidE hbt;have HPT:=hidE hpt;have HTC:Hid (∀x r,M=some (x,r)->pcE.Cs (λg=>w.heap.size<g/\g<w3.heap.size) W3 x [.int .i64 ck,.string cx,.bool ct,.int .i64 cK,.string cX,.int .i64 cZ,.slice cB cm cq,.slice cKA ckn ckc,.slice cLA cln clc]):=hidE λx r ho=>pcE.keep (λg hg=>⟨by omega,hg.2⟩) (λg hg=>hbw.block g hg.2) (htc x r ho);have HW3:=hidE hW3;clear b3 hbw hbt hpt htc HT hW3;go_upto_region 25 with fail
  rw[HW3.out]
  clear HW3;obtain⟨⟨g0,g1,g2,g3,g4,g5,g6,g7,g8⟩,-,hlg⟩:=blk_facts9 HBT.out;obtain⟨⟨m0,m1,m2,m3,m4,m5,m6,m7,m8,m9,m10,m11,m12,m13,m14,m15,m16⟩,⟨y0,y1,y2,y3,y4,y5,y6,y7,y8,y9,y10,y11,y12,y13,y14,y15,y16⟩,hlm⟩:=blk_facts17 HBK3.out;go_region_with (go_at_call 81;(with_reducible refine(HTX.out _ (by first|exact HB3.out|exact HB3.out.drew)).mono ?_);rintro e w5 ⟨rfl,rfl⟩)
  all_goals
   go_wp2_with fail
   refine bodyPost_ret (results_ct rfl _ _ w.heap.size 81 _ (0,0) _ rfl (blk_set17 _ _ _ _ _ _ _ _ _ _ _ _ _ _ _ _ _ HBK3.out).drew Tryz.underlying81 rfl (by kernel_rfl)) rfl ?_;refine XPD.drew ⟨below_set17 HB3.out (Nat.le_refl _) _ _ _ _ _ _ _ _ _ _ _ _ _ _ _ _ _,_,zt,⟨_,_,_,_,_,_,_,_,_,_,_,_,_,_,_,_,_,_,_,_,_,_,_,_,_,_,_,_,_,rfl⟩,rfl,?_,λy r ho=>?_⟩
   ·rw[<-HO2.out,Option.map_map];exact HPT.out
   ·rw[<-HO2.out]at ho
    cases hM:M with
    |none=>rw[hM]at ho;cases ho
    |some u =>
     rw[hM]at ho
     simp only[Option.map_some,Option.some.injEq,Prod.mk.injEq]at ho;obtain⟨rfl,-⟩:=ho;obtain⟨PP,he,h1,h2⟩:=HTC.out u.1 u.2 hM;refine⟨PP,?_,h1.keep (λg hg=>⟨by omega,by rw[size_set17];omega⟩) (λg hg=>set17_far _ _ _ _ _ _ _ _ _ _ _ _ _ _ _ _ _ _ _ _ (by omega)),ExIn.keep (λg hg=>⟨by omega,by rw[size_set17];omega⟩) (λg hg=>set17_far _ _ _ _ _ _ _ _ _ _ _ _ _ _ _ _ _ _ _ _ (by omega)) _ _ _ h2⟩;rw[<-he];rfl
end Go.Proofs.YtknkclefoiohpaaGreatDoor
namespace Go.Proofs.YtknkclefoiohpaaGreatDoor
open Go.RowKit Lx Tx Sx
set_option maxRecDepth 100000
def conB(P:Option (List Tok)):Option (Ty × List Tok):=(nxO 6 [58] (nxO 2 [] P)).bind typ
theorem con_o(l:List Tok):rdCon l=(conB (some l)).map λz=>((txO (some l),z.1),z.2):=by
 rw[rdCon_eq,conF,conB,nx_kind]
 by_cases h:(hd l).kind=2
 ·rw[if_pos h,if_pos h,nx_some _ _ (by decide)]
  by_cases h2:isHd l.tail 6 [58]=true
  ·rw[if_pos h2,if_pos h2];rfl
  ·rw[if_neg h2,if_neg h2];rfl
 ·rw[if_neg h,if_neg h];rfl
def sepC(r:List Tok):Option (List (Nm × Ty) × List Tok):=sepM (λ_=>rdCon) (r.length+1) r
def datP(l:List Tok):Option (List Tok):=nxO 6 [123] (nsR (nxO 2 [] (some l)))
theorem dat_all(l:List Tok):(isO 6 [125] (datP l)=true->rdData l=(nxO 6 [125] (datP l)).map λr=>(.data (txO (some l)) (nsO (nxO 2 [] (some l))) [],r)) /\
  (isO 6 [125] (datP l)=false->(rdData l).map (·.2)=nxO 6 [125] (((datP l).bind sepC).map (·.2)) /\
   ∀x r,rdData l=some (x,r)->∃cs rc,(datP l).bind sepC=some (cs,rc)/\x=.data (txO (some l)) (nsO (nxO 2 [] (some l))) cs):=by
 rw[rdData_eq,dataF,datP,nx_kind]
 by_cases h:(hd l).kind=2
 ·simp only[if_pos h]
  rw[show nsR (some l.tail)=some (vars l.tail).2 from rfl,show nsO (some l.tail)=(vars l.tail).1 from rfl,nx_some 6 [123] (by decide),brF]
  by_cases h2:isHd (vars l.tail).2 6 [123]=true
  ·simp only[if_pos h2]
   rw[isO_hd _ _ (by decide),nx_some 6 [125] (by decide)]
   by_cases h3:isHd (vars l.tail).2.tail 6 [125]=true
   ·simp only[if_pos h3]
    exact⟨λ_=>rfl,λh=>by rw[h3]at h;cases h⟩
   ·simp only[if_neg h3]
    refine⟨λh=>absurd h h3,λ_=>?_⟩;rw[Option.bind_some,sepC]
    cases sepM (λ_=>rdCon) ((vars l.tail).2.tail.length+1) (vars l.tail).2.tail with
    |none=>exact⟨rfl,λx r h=>by cases h⟩
    |some z =>
     simp only;rw[Option.map_some,nx_some 6 [125] (by decide)]
     by_cases h4:isHd z.2 6 [125]=true
     ·rw[if_pos h4,if_pos h4]
      refine⟨rfl,λx r h=>?_⟩;simp only[Option.map_some,Option.some.injEq,Prod.mk.injEq]at h;exact⟨z.1,z.2,rfl,h.1.symm⟩
     ·rw[if_neg h4,if_neg h4]
      exact⟨rfl,λx r h=>by cases h⟩
  ·simp only[if_neg h2]
   exact⟨(λh=>by cases h),λ_=>⟨rfl,λx r h=>by cases h⟩⟩
 ·simp only[if_neg h]
  exact⟨(λh=>by cases h),λ_=>⟨rfl,λx r h=>by cases h⟩⟩
theorem dec_data(l:List Tok)(h:isO 3 wData (some l)=true):rdDecl l=rdData l.tail:=by
 rw[isO_hd _ _ (by decide)]at h
 rw[declF_eq,if_pos h]
theorem con8_info:(Tryz.prog.info? 97).map (λi=>(i.zero,i.size,i.bytes))=some (some (.agg #[.string ⟨#[]⟩,.int .i64 0,.string ⟨#[]⟩,.int .i64 0,.slice none 0 0]),5,72):=by kernel_rfl
theorem con_cs {S:Nat->Prop} {w:World} {c:Nm} {t:Ty} {K:Int} {X:ByteArray} {Z:Int} {A:Option Addr} {m a:Nat}(h:RdV S w t (.agg #[.int .i64 K,.string X,.int .i64 Z,.slice A m a])):pcC.Cs S w (c,t) [Sx.strV c,.int .i64 K,.string X,.int .i64 Z,.slice A m a]:=by
 obtain⟨A',a',hv',hA'⟩:=h;injection hv' with hv';have hv':=congrArg Array.toList hv';simp only[List.cons.injEq,Value.int.injEq,Value.string.injEq,Value.slice.injEq,and_true,true_and]at hv';obtain⟨rfl,rfl,rfl,rfl,rfl,rfl⟩:=hv';exact⟨A,a,rfl,hA'⟩
end Go.Proofs.YtknkclefoiohpaaGreatDoor
namespace Go.Proofs.YtknkclefoiohpaaGreatDoor
open Go.RowKit Lx Tx Sx
set_option maxRecDepth 100000
theorem step_load_row {P:Program} {ops:Array Oper} {o:Oper} {a:Act} {K:Act->World->Prop} {Q:Exit->Act->World->Prop} {E:Prop} {w:World}(hgd:o.guard=none)(ty:TypeId)(x:Operand)(ho:o.op=.load ty x)
  (g:Nat)(hx:a.eval x=.pointer (some ⟨g,0,none⟩))(t:TypeId)(cs:Array Value)(fr:Nat × Nat)(d:TypeDesc)(hg:w.heap[g]?=some (.cells cs t fr))
  (hu:P.underlying ty=some d)(hd:(match d with|.struct _|.array _ _=>true|_=>false)=true)(hi:(P.info? ty).map (·.size)=some cs.size)
  (h:K (a.put o.dst (.agg cs)) w):if Region.wanted o (yielded ops a.tmps)=true then Oper.wp P o a w K Q else E:=by
 rw[if_pos (by simp[Region.wanted,hgd])]
 exact wp_load_row ty x ho g hx t cs fr d hg hu hd hi h
theorem step_store_row {P:Program} {ops:Array Oper} {o:Oper} {a:Act} {K:Act->World->Prop} {Q:Exit->Act->World->Prop} {E:Prop} {w:World}(hgd:o.guard=none)(ty:TypeId)(x y:Operand)(ho:o.op=.store ty x y)
  (g:Nat)(cells:Array Value)(hx:a.eval x=.pointer (some ⟨g,0,none⟩))(hy:a.eval y=.agg cells)
  (t:TypeId)(old:Array Value)(hg:w.heap[g]?=some (.cells old t (0,0)))(hi:(P.info? ty).map (·.size)=some cells.size)
  (hold:old.size=cells.size)(h1:cells.all (·.oneCell')=true)
  (h:K (a.put o.dst undef) (w.setRow g cells)):if Region.wanted o (yielded ops a.tmps)=true then Oper.wp P o a w K Q else E:=by
 rw[if_pos (by simp[Region.wanted,hgd])]
 exact wp_store_row ty x y ho g cells hx hy t old hg hi hold h1 h
theorem below_setRow {B:Nat} {a w:World}(h:Below B a w) {g:Nat}(hg:B<=g)(cs:Array Value):Below B a (w.setRow g cs) :=
 ⟨h.os,h.tape,h.output,by rw[setRow_size];exact h.size,λk hk=>(setRow_other w g k cs (by omega)).trans (h.block k hk)⟩
theorem below_so5_1 {B:Nat} {w w':World} {g:Nat}(h:Below B w w')(hg:B<=g)(b1 b2 b3 b4:Value):Below B w ((((w'.setCell ⟨g,1,none⟩ b1).setCell ⟨g,2,none⟩ b2).setCell ⟨g,3,none⟩ b3).setCell ⟨g,4,none⟩ b4) :=
 (((h.setCell (p:=⟨g,1,none⟩) hg b1).setCell (p:=⟨g,2,none⟩) hg b2).setCell (p:=⟨g,3,none⟩) hg b3).setCell (p:=⟨g,4,none⟩) hg b4
def datC(X:ByteArray)(V:Option Addr)(vn vc:Nat)(A:Option Addr)(n c:Nat):Array Value:=#[.int .i64 1,.string X,.slice V vn vc,.slice A n c,.int .i64 0,.string ⟨#[]⟩,.int .i64 0,.slice none 0 0,.int .i64 0,.string ⟨#[]⟩,.bool false,.int .i64 0,.string ⟨#[]⟩,.int .i64 0,.slice none 0 0,.slice none 0 0,.slice none 0 0]
def DatH(ts:List Tok)(SO:Option (List (Nm × Ty) × List Tok))(W2:World)(gd:Nat)(X:ByteArray)(V:Option Addr)(vn vc:Nat)(gg:Nat)(vk vq:Value)(wr:World):Prop :=
 ∃(zk:Int) (qm:Bool) (P:Option (List Tok)) (A:Option Addr) (n c:Nat),gg=(if qm=true then P.elim 0 List.length+1 else 0)/\vk=.int .i64 zk/\vq=.bool qm/\PAt ts P zk/\Hid (Blk wr gd 81 (datC X V vn vc A n c))/\Hid (Chg (only gd) W2 wr) /\
  Hid (qm=true->∃r f' done,P=some r/\r.length+1<=f'/\n=done.length/\done.length+r.length<=ts.length/\SO=(sepM (λ_=>rdCon) f' r).map (λy=>(done++y.1,y.2))/\BuiltG pcC W2.heap.size 97 wr done (.slice A n c)) /\
  Hid (qm=false->SO.map (·.2)=P/\∀l rl,SO=some (l,rl)->n=l.length/\BuiltG pcC W2.heap.size 97 wr l (.slice A n c))
set_option maxRecDepth 10000000 in
theorem r8_decl_data(ts:List Tok)(v:Value)(hG:AllG ts)(hn:ts.length<=100000)(w:World)(i:Nat)(hv:RdT w v ts)(hq:isO 3 wData (some (ts.drop i))=true):Calls Tryz.prog 33 #[v,.int .i64 (i:Nat)] w (XPD ts w (rdDecl (ts.drop i))):=by
 obtain⟨i0,hi0,hz0,hz1,hz2⟩:=info_parts con8_info;have hlt:=isO_lt (by decide) hq;have hp0:PAt ts (some (ts.drop i)) (i:Nat):=PAt.some_ ts i (by omega);obtain⟨hp1,-,-⟩:=pat_next (by decide) hp0 hq;have e1:nxO 3 wData (some (ts.drop i))=some (ts.drop i).tail:=by rw[nxO,hq,if_pos rfl];rfl
 rw[e1]at hp1
 have HI1:Hid (∀W,Below w.heap.size w W->Calls Tryz.prog 34 #[v,.int .i64 (i:Nat),.int .i64 3,.string ⟨#[100,97,116,97]⟩] W λe w'=>e=.returned (.bool true)/\W=w'):=hidE λW hb=>by
  have:=r8_is v ts _ _ 3 ⟨#[100,97,116,97]⟩ 3 rfl (by decide) W (hv.below hb) hp0;rwa [show(⟨#[100,97,116,97]⟩:ByteArray).data.toList=wData from rfl,hq]at this
 obtain⟨O,hO⟩:∃O,rdDecl (ts.drop i)=O:=⟨_,rfl⟩;rw[hO]
 rw[dec_data _ hq]at hO
 obtain⟨hA1,hA2⟩:=dat_all (ts.drop i).tail;rw[hO]at hA1 hA2
 obtain⟨L,hL⟩:∃L,(ts.drop i).tail=L:=⟨_,rfl⟩;have hLl:L.length<=ts.length:=by rw[<-hL];simp
 rw[hL]at hp1 hA1 hA2
 obtain⟨X,hX⟩:∃X:ByteArray,⟨(txO (some L)).toArray⟩=X:=⟨_,rfl⟩;have hX2:txO (some L)=X.data.toList:=by rw[<-hX]
 obtain⟨vl,hvl⟩:∃l,nsO (nxO 2 [] (some L))=l:=⟨_,rfl⟩;rw[hX2,hvl]at hA1 hA2
 have hlenP:∀r,datP L=some r->r.length<=ts.length:=λr hr=>by
  obtain⟨l,h1,h2,h3,-⟩:=nxO_len (by decide) hr;cases hN:nxO 2 [] (some L) with
  |none=>rw[hN]at h1;cases h1
  |some l2 =>
   rw[hN,nsR,Option.map_some]at h1
   injection h1 with h1;obtain⟨l3,h4,h5,h6,-⟩:=nxO_len (by decide) hN;injection h4 with h4;subst h4;have:=vars_len l2;rw[h1]at this
   omega
 have HTX:=hidE (λW (hb:Below w.heap.size w W)=>r8_text v ts _ _ W (hv.below hb) hp1);rw[hX]at HTX
 have HN1:=hidE (λW (hb:Below w.heap.size w W)=>r8_next v ts _ _ 2 ⟨#[]⟩ 2 rfl (by decide) W (hv.below hb) hn hp1);have HA1:=hidE hA1;have HA2:=hidE hA2;have HLP:=hidE hlenP;have HV:=hidE hv;have HG:=hidE hG;have HVL:=hidE hvl;have hi9:(i:Int)<100000:=by omega
 obtain⟨W0,hW0⟩:∃W,w.alloc (.cells #[.int .i64 0,.string ⟨#[]⟩,.slice none 0 0,.slice none 0 0,.int .i64 0,.string ⟨#[]⟩,.int .i64 0,.slice none 0 0,.int .i64 0,.string ⟨#[]⟩,.bool false,.int .i64 0,.string ⟨#[]⟩,.int .i64 0,.slice none 0 0,.slice none 0 0,.slice none 0 0] 81)=W:=⟨_,rfl⟩;have hal:Below w.heap.size w W0:=hW0▸(Below.refl _ w).alloc (Nat.le_refl _) _;have hs0:w.heap.size+1<=W0.heap.size/\W0.heap.size<=w.heap.size+1:=by rw[<-hW0];simp
 have hbk:Blk W0 w.heap.size 81 #[.int .i64 0,.string ⟨#[]⟩,.slice none 0 0,.slice none 0 0,.int .i64 0,.string ⟨#[]⟩,.int .i64 0,.slice none 0 0,.int .i64 0,.string ⟨#[]⟩,.bool false,.int .i64 0,.string ⟨#[]⟩,.int .i64 0,.slice none 0 0,.slice none 0 0,.slice none 0 0]:=hW0▸heap_alloc_new _ _;have HAL:=hidE hal;have HBK:=hidE hbk;clear hv hq hlt hp0 hp1 e1 hO hal hbk hA1 hA2 hG hlenP hX hX2 hvl hL;go_enter Tryz.func33,Tryz.ntmps33
 go_wp2_with fail
 try rw[hW0]
 refine(HI1.out _ HAL.out).mono ?_;rintro e w1 ⟨rfl,rfl⟩;clear HI1 hW0;obtain⟨W1,hW1⟩:∃W,W0.alloc (.cells (datC X none 0 0 none 0 0) 81)=W:=⟨_,rfl⟩;have hb1:Below W0.heap.size W0 W1:=hW1▸(Below.refl _ W0).alloc (Nat.le_refl _) _;have hs1:W0.heap.size+1<=W1.heap.size/\W1.heap.size<=W0.heap.size+1:=by rw[<-hW1];simp
 have he1:Blk W1 W0.heap.size 81 (datC X none 0 0 none 0 0):=hW1▸heap_alloc_new _ _;have HB1:=hidE (HAL.out.trans (hb1.mono (by omega)));have HBK1:=hidE (HBK.out.below hb1 (by omega));have HE1:=hidE he1;unfold datC at hW1;have HW1:=hidE hW1;clear hb1 he1 hW1 HBK;go_upto_region 4 with(refine(HTX.out _ HAL.out).mono ?_;rintro e w3 ⟨rfl,rfl⟩)
 rw[HW1.out]
 clear HW1 HTX;go_wp2_with fail
 refine(HN1.out _ HB1.out).mono ?_;rintro e w1 ⟨rfl,za,rfl,hza⟩;replace hza:PAt ts (nxO 2 [] (some L)) za:=hza;have HNM:=hidE (r8_names v ts _ za W1 (HV.out.below HB1.out) hn hza);clear hza HN1;go_wp2_with fail
 refine HNM.out.mono ?_;rintro e w2 ⟨b2,V,vc,zn,rfl,hzn,hvc,hvs⟩;have hs2':=b2.size;obtain⟨vn,hvn⟩:∃n,vl.length=n:=⟨_,rfl⟩;rw[HVL.out]at hvs
 rw[HVL.out]at hvc
 have HVC:=hidE hvc;clear hvc;rw[HVL.out,hvn]
 obtain⟨gd,hgd⟩:∃g,W0.heap.size=g:=⟨_,rfl⟩;rw[hgd]at HE1
 obtain⟨WB,hWB⟩:∃W,w2.setCell ⟨gd,2,none⟩ (.slice V vn vc)=W:=⟨_,rfl⟩;have hsB:w2.heap.size<=WB.heap.size/\WB.heap.size<=w2.heap.size:=by rw[<-hWB];simp
 have haB:Blk WB gd 81 (datC X V vn vc none 0 0):=hWB▸heap_setCell_same _ _ 2 _ _ _ (HE1.out.below b2 (by omega));have hbB:Below w.heap.size w WB:=hWB▸(HB1.out.trans (b2.mono (by omega))).setCell (p:=⟨gd,2,none⟩) (by simp;omega) _;have hkB:Blk WB w.heap.size 81 #[.int .i64 0,.string ⟨#[]⟩,.slice none 0 0,.slice none 0 0,.int .i64 0,.string ⟨#[]⟩,.int .i64 0,.slice none 0 0,.int .i64 0,.string ⟨#[]⟩,.bool false,.int .i64 0,.string ⟨#[]⟩,.int .i64 0,.slice none 0 0,.slice none 0 0,.slice none 0 0]:=hWB▸(HBK1.out.below b2 (by omega)).same (Below.heap_setCell _ ⟨gd,2,none⟩ _ _ (by simp;omega));have HVS:Hid (NmsIn (λg=>gd<g/\g<WB.heap.size) WB vl V):=hidE (hvs.keep (λg hg=>⟨by omega,by omega⟩) (λg hg=>hWB▸Below.heap_setCell _ ⟨gd,2,none⟩ _ _ (by simp;omega)));have HVN:=hidE hvn;have HWB:=hidE hWB;have HBB:=hidE hbB;have HAB:=hidE haB;have HKB:=hidE hkB;have HNC:=hidE (r8_next v ts _ zn 6 ⟨#[123]⟩ 6 rfl (by decide) WB (HV.out.below hbB) hn hzn);have haw:=HE1.out.below b2 (by omega);unfold datC at haw;obtain⟨⟨g0,g1,g2,g3,g4,g5,g6,g7,g8,g9,g10,g11,g12,g13,g14,g15,g16⟩,⟨z0,z1,z2,z3,z4,z5,z6,z7,z8,z9,z10,z11,z12,z13,z14,z15,z16⟩,hla⟩:=blk_facts17 haw;clear b2 hvs hzn hWB hbB haB hvn haw HNM HE1 hkB HBK1;go_upto_region 6 with fail
 try rw[hgd]
 rw[HWB.out]
 clear HWB g0 g1 g2 g3 g4 g5 g6 g7 g8 g9 g10 g11 g12 g13 g14 g15 g16 z0 z1 z2 z3 z4 z5 z6 z7 z8 z9 z10 z11 z12 z13 z14 z15 z16;go_wp2_with fail
 refine HNC.out.mono ?_;rintro e w3 ⟨rfl,zk,rfl,hzk⟩;replace hzk:PAt ts (datP L) zk:=hzk;have HZK:=hidE hzk;have hlo:=hzk.lo;have HIC:=hidE (r8_is v ts (datP L) zk 6 ⟨#[125]⟩ 6 rfl (by decide) WB (HV.out.below HBB.out) hzk);obtain⟨q,hq⟩:∃q,isO 6 [125] (datP L)=q:=⟨_,rfl⟩;rw[show(⟨#[125]⟩:ByteArray).data.toList=[125] from rfl,hq]at HIC
 have HQ:=hidE hq;clear hzk HNC hq;go_wp2_with fail
 refine HIC.out.mono ?_;rintro e w3 ⟨rfl,rfl⟩;clear HIC;have hgd3:W0.heap.size<=gd/\gd<=W0.heap.size:=by omega
 clear hgd;cases q with
 |true =>
  have hOO:=HA1.out HQ.out;obtain⟨hpn,hzk0,hzk1⟩:=pat_next (by decide) HZK.out HQ.out;have HOO:=hidE hOO;have HPN:=hidE hpn;have HRD:Hid (WB.heap[gd]?=some (.cells #[.int .i64 1,.string X,.slice V vn vc,.slice none 0 0,.int .i64 0,.string ⟨#[]⟩,.int .i64 0,.slice none 0 0,.int .i64 0,.string ⟨#[]⟩,.bool false,.int .i64 0,.string ⟨#[]⟩,.int .i64 0,.slice none 0 0,.slice none 0 0,.slice none 0 0] 81 (0,0))):=hidE HAB.out;have HRK:Hid (WB.heap[w.heap.size]?=some (.cells #[.int .i64 0,.string ⟨#[]⟩,.slice none 0 0,.slice none 0 0,.int .i64 0,.string ⟨#[]⟩,.int .i64 0,.slice none 0 0,.int .i64 0,.string ⟨#[]⟩,.bool false,.int .i64 0,.string ⟨#[]⟩,.int .i64 0,.slice none 0 0,.slice none 0 0,.slice none 0 0] 81 (0,0))):=hidE HKB.out;clear hOO hpn;go_wp2_with (first|((with_reducible refine wpList_load_row ?_ 81 (.tmp 7) ?_ gd ?_ 81 _ (0,0) _ HRD.out Tryz.underlying81 ?_ ?_ ?_);(exact rfl);(exact rfl);(exact rfl);(exact rfl);(exact(by kernel_rfl)))|((with_reducible refine wpList_store_row ?_ 81 (.tmp 4) (.tmp 46) ?_ w.heap.size #[.int .i64 1,.string X,.slice V vn vc,.slice none 0 0,.int .i64 0,.string ⟨#[]⟩,.int .i64 0,.slice none 0 0,.int .i64 0,.string ⟨#[]⟩,.bool false,.int .i64 0,.string ⟨#[]⟩,.int .i64 0,.slice none 0 0,.slice none 0 0,.slice none 0 0] ?_ ?_ 81 #[.int .i64 0,.string ⟨#[]⟩,.slice none 0 0,.slice none 0 0,.int .i64 0,.string ⟨#[]⟩,.int .i64 0,.slice none 0 0,.int .i64 0,.string ⟨#[]⟩,.bool false,.int .i64 0,.string ⟨#[]⟩,.int .i64 0,.slice none 0 0,.slice none 0 0,.slice none 0 0] HRK.out ?_ ?_ ?_ ?_);(exact rfl);(exact rfl);(exact rfl);(exact rfl);(exact(by kernel_rfl));(exact(by kernel_rfl));(exact(one17 _ _ _ _ _ _ _ _ _ _ _ _ _ _ _ _ _ _ _ _ _ _ _ _ _ _ _ _ _))))
  try simp only[Exit.inBlock,Exit.then]
  refine bodyPost_ret (results_ct rfl _ _ w.heap.size 81 _ (0,0) _ rfl (setRow_heap _ _ _ _ _ _ HRK.out) Tryz.underlying81 rfl (by kernel_rfl)) rfl ?_;refine⟨below_setRow HBB.out (Nat.le_refl _) _,_,_,⟨_,_,_,_,_,_,_,_,_,_,_,_,_,_,_,_,_,_,_,_,_,_,_,_,_,_,_,_,_,rfl⟩,rfl,?_,λx r ho=>?_⟩
  ·rw[HOO.out,Option.map_map]
   have:=HPN.out;cases hN:nxO 6 [125] (datP L) with
   |none=>rw[hN]at this;exact this
   |some r=>rw[hN]at this;exact this
  ·rw[HOO.out]at ho
   cases hN:nxO 6 [125] (datP L) with
   |none=>rw[hN]at ho;cases ho
   |some r1 =>
    rw[hN]at ho
    simp only[Option.map_some,Option.some.injEq,Prod.mk.injEq]at ho;obtain⟨rfl,-⟩:=ho;refine⟨V,⟨vc,HVC.out⟩,none,0,?_,HVS.out.keep (λg hg=>⟨by omega,by rw[setRow_size];exact hg.2⟩) (λg hg=>setRow_other _ _ _ _ (by omega)),λh=>absurd rfl h⟩;show _=[.int .i64 1,Sx.strV _,.slice V vl.length vc,.slice _ _ _]++tyZl++exZl;rw[HVN.out];simp[tyZl,exZl,Sx.strV]
 |false =>
  obtain⟨SO,hSO⟩:∃S,(datP L).bind sepC=S:=⟨_,rfl⟩;have hA:=HA2.out HQ.out;rw[hSO]at hA
  have HAA:=hidE hA;have HSO:=hidE hSO;obtain⟨qm,hqm⟩:∃q,decide (0<=zk)=q:=⟨_,rfl⟩;have HQM:=hidE hqm;have HST:Hid (DatH ts SO WB gd X V vn vc (if qm=true then(datP L).elim 0 List.length+1 else 0) (.int .i64 zk) (.bool qm) WB):=hidE (by
   refine⟨zk,qm,datP L,none,0,0,rfl,rfl,rfl,HZK.out,hidE HAB.out,hidE (Chg.refl _ _),hidE (λhq=>?_),hidE (λhq=>?_)⟩
   ·rcases HZK.out with⟨-,hz⟩|⟨k,hk,hz,hp⟩
    ·rw[hz]at hqm;rw[hq]at hqm;simp at hqm
    ·have h1:=HLP.out _ hp
     exact⟨_,_,[],hp,Nat.le_refl _,rfl,by simp only[List.length_nil];omega,by rw[<-HSO.out,hp,Option.bind_some,sepC];simp,BuiltG.nil _ _ _ _⟩
   ·rcases HZK.out with⟨hp,-⟩|⟨k,hk,hz,-⟩
    ·rw[<-HSO.out,hp]
     exact⟨rfl,λl rl h=>by cases h⟩
    ·rw[hz,hq]at hqm;simp at hqm)
  clear hA hSO HA1 HA2 HAB;go_wp2_with fail
  go_loopg [9,11] (if qm=true then(datP L).elim 0 List.length+1 else 0) (λgg vk vq wr=>DatH ts SO WB gd X V vn vc gg vk vq wr)
  case atStart=>exact HST.out
  case round =>
   obtain⟨zr,qr,P,A,n,c,rfl,rfl,rfl,hzr,hE,hC,hT,hF⟩:=hrel;have hsr:=hC.out.size;have hlz:=hzr.lo;clear HST;cases qr with
   |false =>
    obtain⟨hs1,hs2⟩:=hF.out rfl;have HS1:=hidE hs1;have HS2:=hidE hs2;have HZR:=hidE hzr;have hbr:Below w.heap.size w wr:=HBB.out.trans (hC.out.toBelow (by omega) (λk hk=>by unfold only;omega));have HBR:=hidE hbr;have HVR:Hid (NmsIn (λg=>gd<g/\g<wr.heap.size) wr vl V):=hidE (HVS.out.keep (λg hg=>⟨hg.1,by omega⟩) (λg hg=>hC.out.block g hg.2 (by have:=hg.1;unfold only;omega)));have HRK:Hid (wr.heap[w.heap.size]?=some (.cells #[.int .i64 0,.string ⟨#[]⟩,.slice none 0 0,.slice none 0 0,.int .i64 0,.string ⟨#[]⟩,.int .i64 0,.slice none 0 0,.int .i64 0,.string ⟨#[]⟩,.bool false,.int .i64 0,.string ⟨#[]⟩,.int .i64 0,.slice none 0 0,.slice none 0 0,.slice none 0 0] 81 (0,0))):=hidE ((HKB.out.same (hC.out.block _ (by omega) (by unfold only;omega))));have HRD:Hid (wr.heap[gd]?=some (.cells #[.int .i64 1,.string X,.slice V vn vc,.slice A n c,.int .i64 0,.string ⟨#[]⟩,.int .i64 0,.slice none 0 0,.int .i64 0,.string ⟨#[]⟩,.bool false,.int .i64 0,.string ⟨#[]⟩,.int .i64 0,.slice none 0 0,.slice none 0 0,.slice none 0 0] 81 (0,0))):=hidE hE.out;have HNZ:=hidE (λW (hb:Below w.heap.size w W)=>r8_next v ts P zr 6 ⟨#[125]⟩ 6 rfl (by decide) W (HV.out.below hb) hn HZR.out);clear hs1 hs2 hzr hT hF hbr;go_wp2_with fail
    refine wp_region_any (by kernel_rfl) ?_;try (change wpAny _ _ _ _ _ _ _ (World.drew _))
    refine wpAny_take (i:=1) (v:=v) rfl (by kernel_rfl) (by kernel_rfl) (by kernel_rfl) (λ_ _ _ h=>h) (Or.inl ⟨by rfl,λw=>by go_simp⟩) ?_;refine wpAny_take (i:=2) (v:=.int .i64 zr) rfl (by kernel_rfl) (by kernel_rfl) (by kernel_rfl) (λ_ _ _ h=>h) (Or.inl ⟨by rfl,λw=>by go_simp⟩) ?_;refine wpAny_ready (rs:=[0,3]) (by kernel_rfl) (by simp) ?_;refine AllReady.cons (i:=0) rfl (λK hK=>?_) ?_
    ·refine step_load_row rfl 81 (.tmp 7) rfl gd rfl 81 _ (0,0) _ HRD.out Tryz.underlying81 rfl (by kernel_rfl) ?_
     refine hK _ _ ?_;clear hK K;refine wpAny_ready (rs:=[3]) (by kernel_rfl) (by simp) ?_;refine AllReady.cons (i:=3) rfl (λK hK=>?_) ?_
     ·go_simp
      go_wp2_with (go_at_call 83;(with_reducible refine(HNZ.out _ HBR.out.drew).mono ?_);rintro e w3 ⟨rfl,z9,rfl,hz9⟩;have HQQ:=hidE hz9;clear hz9)
      first|(refine hK _ _ ?_;clear hK K)|skip
      refine wpAny_ready (rs:=[4]) (by kernel_rfl) (by simp) ?_;refine AllReady.cons (i:=4) rfl (λK hK=>?_) ?_
      ·refine step_store_row rfl 81 (.tmp 4) (.tmp 79) rfl w.heap.size #[.int .i64 1,.string X,.slice V vn vc,.slice A n c,.int .i64 0,.string ⟨#[]⟩,.int .i64 0,.slice none 0 0,.int .i64 0,.string ⟨#[]⟩,.bool false,.int .i64 0,.string ⟨#[]⟩,.int .i64 0,.slice none 0 0,.slice none 0 0,.slice none 0 0] rfl rfl 81 #[.int .i64 0,.string ⟨#[]⟩,.slice none 0 0,.slice none 0 0,.int .i64 0,.string ⟨#[]⟩,.int .i64 0,.slice none 0 0,.int .i64 0,.string ⟨#[]⟩,.bool false,.int .i64 0,.string ⟨#[]⟩,.int .i64 0,.slice none 0 0,.slice none 0 0,.slice none 0 0] HRK.out (by kernel_rfl) (by kernel_rfl) (one17 _ _ _ _ _ _ _ _ _ _ _ _ _ _ _ _ _ _ _ _ _ _ _ _ _ _ _ _ _) ?_
       refine hK _ _ ?_;clear hK K;refine wpAny_ready (rs:=[5]) (by kernel_rfl) (by simp) ?_;refine AllReady.cons (i:=5) rfl (λK hK=>?_) ?_
       ·go_simp
        refine hK _ _ ?_;clear hK K;refine wpAny_done (by kernel_rfl) ?_ _;go_wp2_with fail
        refine bodyPost_ret (results_ct rfl _ _ w.heap.size 81 _ (0,0) _ rfl (setRow_heap _ _ _ _ _ _ HRK.out) Tryz.underlying81 rfl (by kernel_rfl)) rfl ?_;refine⟨below_setRow HBR.out.drew (Nat.le_refl _) _,_,z9,⟨_,_,_,_,_,_,_,_,_,_,_,_,_,_,_,_,_,_,_,_,_,_,_,_,_,_,_,_,_,rfl⟩,rfl,?_,λx r ho=>?_⟩
        ·rw[HAA.out.1,HS1.out];exact HQQ.out
        ·obtain⟨cs,rc,h2,rfl⟩:=HAA.out.2 x r ho
         obtain⟨h3,h4⟩:=HS2.out cs rc h2;obtain⟨-,h5⟩:=h4.lst;refine⟨V,⟨vc,HVC.out⟩,A,c,?_,HVR.out.keep (λg hg=>⟨by omega,by rw[setRow_size];exact hg.2⟩) (λg hg=>setRow_other _ _ _ _ (by omega)),h5.keep (λg hg=>⟨by omega,by rw[setRow_size];exact hg.2⟩) (λg hg=>setRow_other _ _ _ _ (by omega))⟩;show _=[.int .i64 1,Sx.strV _,.slice V vl.length vc,.slice _ _ _]++tyZl++exZl;rw[HVN.out,<-h3];simp[tyZl,exZl,Sx.strV]
       exact AllReady.nil
      exact AllReady.nil
     exact AllReady.nil
    refine AllReady.cons (i:=3) rfl (λK hK=>?_) ?_
    ·go_simp
     go_wp2_with (go_at_call 83;(with_reducible refine(HNZ.out _ HBR.out.drew).mono ?_);rintro e w3 ⟨rfl,z9,rfl,hz9⟩;have HQQ:=hidE hz9;clear hz9)
     first|(refine hK _ _ ?_;clear hK K)|skip
     refine wpAny_ready (rs:=[0]) (by kernel_rfl) (by simp) ?_;refine AllReady.cons (i:=0) rfl (λK hK=>?_) ?_
     ·refine step_load_row rfl 81 (.tmp 7) rfl gd rfl 81 _ (0,0) _ HRD.out Tryz.underlying81 rfl (by kernel_rfl) ?_
      refine hK _ _ ?_;clear hK K;refine wpAny_ready (rs:=[4]) (by kernel_rfl) (by simp) ?_;refine AllReady.cons (i:=4) rfl (λK hK=>?_) ?_
      ·refine step_store_row rfl 81 (.tmp 4) (.tmp 79) rfl w.heap.size #[.int .i64 1,.string X,.slice V vn vc,.slice A n c,.int .i64 0,.string ⟨#[]⟩,.int .i64 0,.slice none 0 0,.int .i64 0,.string ⟨#[]⟩,.bool false,.int .i64 0,.string ⟨#[]⟩,.int .i64 0,.slice none 0 0,.slice none 0 0,.slice none 0 0] rfl rfl 81 #[.int .i64 0,.string ⟨#[]⟩,.slice none 0 0,.slice none 0 0,.int .i64 0,.string ⟨#[]⟩,.int .i64 0,.slice none 0 0,.int .i64 0,.string ⟨#[]⟩,.bool false,.int .i64 0,.string ⟨#[]⟩,.int .i64 0,.slice none 0 0,.slice none 0 0,.slice none 0 0] HRK.out (by kernel_rfl) (by kernel_rfl) (one17 _ _ _ _ _ _ _ _ _ _ _ _ _ _ _ _ _ _ _ _ _ _ _ _ _ _ _ _ _) ?_
       refine hK _ _ ?_;clear hK K;refine wpAny_ready (rs:=[5]) (by kernel_rfl) (by simp) ?_;refine AllReady.cons (i:=5) rfl (λK hK=>?_) ?_
       ·go_simp
        refine hK _ _ ?_;clear hK K;refine wpAny_done (by kernel_rfl) ?_ _;go_wp2_with fail
        refine bodyPost_ret (results_ct rfl _ _ w.heap.size 81 _ (0,0) _ rfl (setRow_heap _ _ _ _ _ _ HRK.out) Tryz.underlying81 rfl (by kernel_rfl)) rfl ?_;refine⟨below_setRow HBR.out.drew (Nat.le_refl _) _,_,z9,⟨_,_,_,_,_,_,_,_,_,_,_,_,_,_,_,_,_,_,_,_,_,_,_,_,_,_,_,_,_,rfl⟩,rfl,?_,λx r ho=>?_⟩
        ·rw[HAA.out.1,HS1.out];exact HQQ.out
        ·obtain⟨cs,rc,h2,rfl⟩:=HAA.out.2 x r ho
         obtain⟨h3,h4⟩:=HS2.out cs rc h2;obtain⟨-,h5⟩:=h4.lst;refine⟨V,⟨vc,HVC.out⟩,A,c,?_,HVR.out.keep (λg hg=>⟨by omega,by rw[setRow_size];exact hg.2⟩) (λg hg=>setRow_other _ _ _ _ (by omega)),h5.keep (λg hg=>⟨by omega,by rw[setRow_size];exact hg.2⟩) (λg hg=>setRow_other _ _ _ _ (by omega))⟩;show _=[.int .i64 1,Sx.strV _,.slice V vl.length vc,.slice _ _ _]++tyZl++exZl;rw[HVN.out,<-h3];simp[tyZl,exZl,Sx.strV]
       exact AllReady.nil
      exact AllReady.nil
     exact AllReady.nil
    exact AllReady.nil
   |true =>
    obtain⟨r,f',done,rfl,hfr,hnd,hdl,hSS,hBT⟩:=hT.out rfl;obtain⟨f1,rfl⟩:∃f1,f'=f1+1:=⟨f'-1,by omega⟩;have HSS:=hidE hSS;obtain⟨vs,hown,hrow⟩:=hBT;rw[<-hnd]at hown
    replace hown:wr.ownsRow WB.heap.size 97 5 (.slice A n c) n vs:=hown;have HOWN:=hidE hown;have HROW:=hidE hrow;have hbr:Below w.heap.size w wr:=HBB.out.trans (hC.out.toBelow (by omega) (λk hk=>by unfold only;omega));have HBR:=hidE hbr;have HZR:=hidE hzr;have HTX:=hidE (r8_text v ts _ zr wr (HV.out.below hbr) hzr);obtain⟨CX,hCX⟩:∃X:ByteArray,⟨(txO (some r)).toArray⟩=X:=⟨_,rfl⟩;have HCX:Hid (txO (some r)=CX.data.toList):=hidE (by rw[<-hCX]);rw[hCX]at HTX
    obtain⟨WA,hWA⟩:∃W,wr.alloc (.cells #[.string CX,.int .i64 0,.string ⟨#[]⟩,.int .i64 0,.slice none 0 0] 97)=W:=⟨_,rfl⟩;have hbA:Below wr.heap.size wr WA:=hWA▸(Below.refl _ wr).alloc (Nat.le_refl _) _;have hsA:wr.heap.size+1<=WA.heap.size/\WA.heap.size<=wr.heap.size+1:=by rw[<-hWA];simp
    have haA:Blk WA wr.heap.size 97 #[.string CX,.int .i64 0,.string ⟨#[]⟩,.int .i64 0,.slice none 0 0]:=hWA▸heap_alloc_new _ _;have HBA:=hidE hbA;have HAA2:=hidE haA;have HNA:=hidE (r8_next v ts _ zr 2 ⟨#[]⟩ 2 rfl (by decide) WA (HV.out.below (hbr.trans (hbA.mono (by have:=hbr.size;omega)))) hn hzr);have hrw:=hbr.size;have HWA:=hidE hWA;have HDN:=hidE (And.intro hnd hdl);clear hWA hbA haA hSS hown hrow hbr hzr hT hF hCX hnd hdl;go_upto_region 13 with(refine HTX.out.mono ?_;rintro e w3 ⟨rfl,rfl⟩)
    rw[HWA.out]
    clear HWA HTX;go_wp2_with fail
    refine HNA.out.mono ?_;rintro e w3 ⟨rfl,za,rfl,hza⟩;replace hza:PAt ts (nxO 2 [] (some r)) za:=hza;have HNM:=hidE (r8_next v ts _ za 6 ⟨#[58]⟩ 6 rfl (by decide) WA (HV.out.below (HBR.out.trans (HBA.out.mono hrw))) hn hza);clear hza HNA;go_wp2_with fail
    refine HNM.out.mono ?_;rintro e w3 ⟨rfl,zb,rfl,hzb⟩;replace hzb:PAt ts (nxO 6 [58] (nxO 2 [] (some r))) zb:=hzb;have hR:=r8_typ v ts _ zb WA (HV.out.below (HBR.out.trans (HBA.out.mono hrw))) HG.out hn hzb;rw[show(nxO 6 [58] (nxO 2 [] (some r))).bind typ=conB (some r) from rfl]at hR
    obtain⟨B,hB⟩:∃B,conB (some r)=B:=⟨_,rfl⟩;rw[hB]at hR
    have HBE:=hidE hB;have HR:=hidE hR;clear hzb hR hB HNM;go_wp2_with fail
    refine HR.out.mono ?_;rintro e w4 ⟨b4,tK,tX,tZ,tA,tm,tc,zl,rfl,hpl,hds⟩;have hs4:=b4.size;have ha4:=HAA2.out.below b4 (by omega);obtain⟨WC,hWC⟩:∃W,((((w4.setCell ⟨wr.heap.size,1,none⟩ (.int .i64 tK)).setCell ⟨wr.heap.size,2,none⟩ (.string tX)).setCell ⟨wr.heap.size,3,none⟩ (.int .i64 tZ)).setCell ⟨wr.heap.size,4,none⟩ (.slice tA tm tc))=W:=⟨_,rfl⟩;have hsC:w4.heap.size<=WC.heap.size/\WC.heap.size<=w4.heap.size:=by rw[<-hWC,size_so5_1];omega
    have haC:Blk WC wr.heap.size 97 #[.string CX,.int .i64 tK,.string tX,.int .i64 tZ,.slice tA tm tc]:=hWC▸blk_so5_1 _ _ _ _ ha4;have hfC:∀k,k≠wr.heap.size->WC.heap[k]?=w4.heap[k]?:=λk hk=>hWC▸so5_1_far _ _ _ _ _ _ _ hk;have hbC:Below wr.heap.size wr WC:=hWC▸below_so5_1 (HBA.out.trans (b4.mono (by omega))) (Nat.le_refl _) _ _ _ _;have HPC:Hid (∀y rb,B=some (y,rb)->pcC.Cs (λg=>wr.heap.size<=g/\g<WC.heap.size) WC (CX.data.toList,y) [.string CX,.int .i64 tK,.string tX,.int .i64 tZ,.slice tA tm tc]):=hidE λy rb ho=>by
     have h1:=(hds y rb ho).keep (S':=λg=>wr.heap.size<=g/\g<WC.heap.size) (w':=WC) (λg hg=>⟨by omega,by omega⟩) (λg hg=>hfC g (by omega));have h3:=con_cs (c:=CX.data.toList) h1;simpa[Sx.strV] using h3
    have HEC:Hid (Blk WC gd 81 (datC X V vn vc A n c)):=hidE (hE.out.below hbC (by omega));have HBC:=hidE hbC;have HAC:=hidE haC;have HPL:=hidE hpl;have HWC:=hidE hWC;obtain⟨⟨g0,g1,g2,g3,g4⟩,⟨z0,z1,z2,z3,z4⟩,hla⟩:=blk_facts5 ha4;clear b4 hds hpl hWC hbC haC hfC ha4 HR;go_upto_region 14 with fail
    rw[HWC.out]
    clear HWC g0 g1 g2 g3 g4 z0 z1 z2 z3 z4;have HOW:=hidE ((own_below HOWN.out HBC.out).alloc (.cells #[.string CX,.int .i64 tK,.string tX,.int .i64 tZ,.slice tA tm tc] 97));have g3:=HEC.out.cell 3;replace g3:WC.cell? ⟨gd,3,none⟩=some (.slice A n c):=g3;have hlg:=HEC.out.lt;obtain⟨⟨y0,y1,y2,y3,y4⟩,-,hla⟩:=blk_facts5 HAC.out;have hn9:n<=100000:=by have:=HDN.out;omega
    have hHL:=HOWN.out.lt;have HLT:=hidE hHL;clear hHL;go_wp2_with (at_builtin;refine wpList_append_own_at _ rfl (.tmp 68) (.tmp 70) 79 rfl WB.heap.size 97 i0 _ 5 72 Tryz.underlying79 hi0 hz0 hz1 hz2 rfl (by decide) _ n vs rfl HOW.out ⟨WC.heap.size,0,none⟩ 1 1 [.string CX,.int .i64 tK,.string tX,.int .i64 tZ,.slice tA tm tc] rfl rfl (new_cells' _ _ _ _ rfl) (by intro u hu;simp at hu;rcases hu with rfl|rfl|rfl|rfl|rfl <;> rfl) (by unfold maxLen;omega) (by omega) (by simp;omega) ?_;intro v2 w5 hown5 hgrow _ hat5;obtain⟨A2,c2,rfl⟩:=own_shape hown5;have HO5:=hidE hown5;have HG5:=hidE hgrow;have HT5:=hidE hat5;clear hown5 hgrow hat5;have he5:=(HEC.out.alloc (.cells #[.string CX,.int .i64 tK,.string tX,.int .i64 tZ,.slice tA tm tc] 97)).grown HG5.out (λe=>by have:=HLT.out _ e.symm;omega);have HE5:=hidE he5;have m3:=he5.cell 3;have o3:=he5.frozen 3;have hlm:=he5.lt;clear he5)
    obtain⟨W6,hW6⟩:∃W,w5.setCell ⟨gd,3,none⟩ (.slice A2 (n+1) c2)=W:=⟨_,rfl⟩;have hs5:=HG5.out.size;simp at hs5;have hs6:w5.heap.size<=W6.heap.size/\W6.heap.size<=w5.heap.size:=by rw[<-hW6];simp
    have HE6:Hid (Blk W6 gd 81 (datC X V vn vc A2 (n+1) c2)):=hidE (hW6▸heap_setCell_same _ _ 3 _ _ _ HE5.out);have hc6:Chg (only gd) w5 W6:=hW6▸(Chg.refl (only gd) w5).setCell (p:=⟨gd,3,none⟩) (.inr rfl) _;have HC6:Hid (Chg (only gd) WB W6):=hidE (((hC.out.trans (Chg.of_below HBC.out)).alloc _ |>.grown HG5.out (λk hk=>by have:=HLT.out _ hk;exact .inl (by omega))).trans hc6);have HBT6:Hid (∀y rb,B=some (y,rb)->BuiltG pcC WB.heap.size 97 W6 (done++[(CX.data.toList,y)]) (.slice A2 (n+1) c2)):=hidE λy rb ho=>by
     have h1:=BuiltG.next (P:=pcC) (b:=gd) (w:=wr) (w1:=WC) (by omega) (by omega) (by rw[<-HDN.out.1];exact HOWN.out) HROW.out (ChR.of_below HBC.out) (HPC.out y rb ho) ((Below.refl _ WC).alloc (Nat.le_refl _) _) (by rw[<-HDN.out.1];exact HO5.out) HG5.out HT5.out;exact h1.low hc6 (by omega)
    have hB6:Below w.heap.size w W6:=HBB.out.trans (HC6.out.toBelow (by omega) (λk hk=>by unfold only;omega));have HIZ:=hidE (r8_is v ts _ zl 6 ⟨#[59]⟩ 6 rfl (by decide) W6 (HV.out.below hB6) HPL.out);have HW6:=hidE hW6;clear hW6 hc6 hB6 g3 y0 y1 y2 y3 y4 m3 o3;obtain⟨qs,hqs⟩:∃q,isO 6 [59] (B.map (·.2))=q:=⟨_,rfl⟩;rw[show(⟨#[59]⟩:ByteArray).data.toList=[59] from rfl,hqs]at HIZ
    have HQS:=hidE hqs;have HRA:Hid (rdCon r=B.map λz=>((CX.data.toList,z.1),z.2)):=hidE (by rw[con_o,HBE.out,HCX.out]);have HLB:Hid (∀y rb,B=some (y,rb)->rb.length<r.length):=hidE λy rb ho=>by
     have h:=HRA.out;rw[ho]at h
     exact(rdCon_len r _ rb (HZR.out.good HG.out _ rfl) h).2
    clear hqs;go_wp2_with fail
    try rw[HW6.out]
    refine HIZ.out.mono ?_;rintro e w7 ⟨rfl,rfl⟩;clear HIZ HW6;cases qs with
    |true =>
     obtain⟨hpn,hz0',hz1'⟩:=pat_next (by decide) HPL.out HQS.out;obtain⟨⟨y,rb⟩,hB⟩:∃u,B=some u:=by
      cases hB:B with
      |none=>have:=HQS.out;rw[hB]at this;cases this
      |some u=>exact⟨u,rfl⟩
     have hnx:nxO 6 [59] (B.map (·.2))=some rb.tail:=by
      have:=HQS.out;rw[hB]at this ⊢
      rw[nxO,this,if_pos rfl];rfl
     rw[hnx]at hpn
     have hlb:=HLB.out y rb hB;have htl:rb.tail.length<=rb.length:=by simp
     have HPN:=hidE hpn;have HNEW:Hid (∃r' f' done',some rb.tail=some r'/\r'.length+1<=f'/\n+1=done'.length/\done'.length+r'.length<=ts.length/\SO=(sepM (λ_=>rdCon) f' r').map (λy=>(done'++y.1,y.2))/\BuiltG pcC WB.heap.size 97 W6 done' (.slice A2 (n+1) c2)):=hidE (by
      refine⟨rb.tail,f1,done++[(CX.data.toList,y)],rfl,by omega,by rw[List.length_append,<-HDN.out.1];rfl,by have:=HDN.out.2;rw[List.length_append,List.length_singleton];omega,?_,HBT6.out y rb hB⟩;rw[HSS.out,sepM_step,HRA.out,hB]
      have h59:isO 6 [59] (some rb)=true:=by have:=HQS.out;rw[hB]at this;exact this
      simp only[Option.map_some,h59,if_true,Option.map_map];congr 1
      funext z
      simp)
     clear hpn hB hnx;go_wp2_with fail
     go_roundg (rb.tail.length+1)
     case measure=>simp;omega
     case rel=>exact⟨zl+1,true,some rb.tail,A2,n+1,c2,by simp,by go_num,rfl,HPN.out,HE6,HC6,hidE (λ_=>HNEW.out),hidE (λh=>by cases h)⟩
    |false =>
     have HNEW:Hid (SO.map (·.2)=B.map (·.2)/\∀l rl,SO=some (l,rl)->n+1=l.length/\BuiltG pcC WB.heap.size 97 W6 l (.slice A2 (n+1) c2)):=hidE (by
      have h1:=HSS.out;rw[sepM_step,HRA.out]at h1
      cases hB:B with
      |none=>rw[hB]at h1;rw[h1];exact⟨rfl,λl rl h=>by cases h⟩
      |some u =>
       rw[hB]at h1
       have h59:¬isO 6 [59] (some u.2)=true:=by have:=HQS.out;rw[hB]at this;rw[show isO 6 [59] (some u.2)=false from this];decide
       simp only[Option.map_some,if_neg h59]at h1;rw[h1]
       refine⟨rfl,λl rl h=>?_⟩;injection h with h;injection h with h _;subst h;exact⟨by rw[List.length_append,<-HDN.out.1];rfl,HBT6.out u.1 u.2 hB⟩)
     go_wp2_with fail
     go_roundg 0
     case measure=>simp
     case rel=>exact⟨zl,false,B.map (·.2),A2,n+1,c2,by simp,rfl,rfl,HPL.out,HE6,HC6,hidE (λh=>by cases h),hidE (λ_=>HNEW.out)⟩
set_option maxRecDepth 100000
theorem r8_decl(ts:List Tok)(v:Value)(hG:AllG ts)(hn:ts.length<=100000)(w:World)(i:Nat)(hi:i<=ts.length)(hv:RdT w v ts):Calls Tryz.prog 33 #[v,.int .i64 (i:Nat)] w (XPD ts w (rdDecl (ts.drop i))):=by
 cases hq:isO 3 wData (some (ts.drop i)) with
 |true=>exact r8_decl_data ts v hG hn w i hv hq
 |false=>exact r8_decl_sb ts v hG hn w i hi hv hq
end Go.Proofs.YtknkclefoiohpaaGreatDoor
