/-
  Contracts of the code's functions, part 19.
-/
import Derived.Test.YtknkclefoiohpaaGreatDoorKbI
import Derived.Test.YtknkclefoiohpaaGreatDoorKbR
namespace Go.Proofs.YtknkclefoiohpaaGreatDoor
open Go.RowKit Lx Tx Sx
set_option maxRecDepth 100000
set_option maxHeartbeats 1600000 in
theorem sx_tooDeep(e:Ex)(S:Nat->Prop)(v:Value)(w:World)(hn:e.size<=100000)(hwt:e.wt<=1000000)(hv:RdX S w e v)(hS:∀g,S g->g<w.heap.size) :
  Calls Tryz.prog 43 #[v] w λe' w'=>e'=.returned (.bool e.tooDeep)/\Below w.heap.size w w':=by
 obtain⟨K,X,Z,B,m,q,KA,kc,LA,lc,rfl,-⟩:=hv.shape
 have hkeep:∀W,Below w.heap.size w W->RdX S W e _/\∀g,S g->g<W.heap.size:=λW hW=>⟨hv.keep (λ_ h=>h) (λg hg=>hW.block g (hS g hg)),λg hg=>by have:=hS g hg;have:=hW.size;omega⟩
 have HD:=hidE (λW (hW:Below w.heap.size w W)=>sx_depth 100000 e S _ W hn (Nat.le_refl _) (hkeep W hW).1 (hkeep W hW).2)
 have HH:=hidE (λW (hW:Below w.heap.size w W)=>sx_hasDeep 100000 e S _ W hn (Nat.le_refl _) hwt (hkeep W hW).1 (hkeep W hW).2)
 obtain⟨kd,hkd⟩:∃y,kdE e=y:=⟨_,rfl⟩
 obtain⟨nm,hnm⟩:∃y:ByteArray,⟨(nmE e).toArray⟩=y:=⟨_,rfl⟩
 obtain⟨td,htd⟩:∃y,toE e=y:=⟨_,rfl⟩
 obtain⟨kn,hkn⟩:∃y,(kidsE e).length=y:=⟨_,rfl⟩
 obtain⟨ln,hln⟩:∃y,(altsE e).length=y:=⟨_,rfl⟩
 obtain⟨d,hd⟩:∃y,e.depth=y:=⟨_,rfl⟩
 obtain⟨t,ht⟩:∃y,e.deepT=y:=⟨_,rfl⟩
 unfold Ex.tooDeep
 rw[hkd,hnm,htd,hkn,hln,hd]at HD
 rw[hkd,hnm,htd,hkn,hln,ht]at HH
 rw[hkd,hnm,htd,hkn,hln,hd,ht]
 clear hkd hnm htd hkn hln hd ht hv hS hkeep hn hwt
 have hb1:Below w.heap.size w (w.alloc (.cells #[.int .i64 (kd:Nat),.string nm,.bool td,.int .i64 K,.string X,.int .i64 Z,.slice B m q,.slice KA kn kc,.slice LA ln lc] 39)):=(Below.refl _ w).alloc (Nat.le_refl _) _
 have HB1:=hidE hb1
 have HBX:=hidE (heap_alloc_new w (.cells #[.int .i64 (kd:Nat),.string nm,.bool td,.int .i64 K,.string X,.int .i64 Z,.slice B m q,.slice KA kn kc,.slice LA ln lc] 39))
 clear hb1
 obtain⟨b,hb⟩:∃b,decide (50<d)=b:=⟨_,rfl⟩
 have d1:decide ((50:Int)<(d:Nat))=b:=by
  rw[<-hb]
  by_cases h:50<d <;> simp[h] <;> omega
 rw[hb]
 clear hb
 go_enter Tryz.func43,Tryz.ntmps43
 go_wp2_with fail
 refine(HD.out _ HB1.out).mono ?_
 rintro e' w2 ⟨rfl,b2⟩
 have B2:=hidE (HB1.out.trans (b2.mono HB1.out.size))
 cases b with
 | true =>
  clear b2
  go_wp2_with fail
  go_ret
  exact⟨rfl,B2.out⟩
 | false =>
  have hb2:Blk w2 w.heap.size 39 #[.int .i64 (kd:Nat),.string nm,.bool td,.int .i64 K,.string X,.int .i64 Z,.slice B m q,.slice KA kn kc,.slice LA ln lc]:=(b2.block w.heap.size (by simp)).trans HBX.out
  obtain⟨g0,g1,g2,g3,g4,g5,g6,g7,g8⟩:w2.cell? ⟨w.heap.size,0,none⟩=some (.int .i64 (kd:Nat))/\w2.cell? ⟨w.heap.size,1,none⟩=some (.string nm)/\w2.cell? ⟨w.heap.size,2,none⟩=some (.bool td) /\
   w2.cell? ⟨w.heap.size,3,none⟩=some (.int .i64 K)/\w2.cell? ⟨w.heap.size,4,none⟩=some (.string X)/\w2.cell? ⟨w.heap.size,5,none⟩=some (.int .i64 Z)/\w2.cell? ⟨w.heap.size,6,none⟩=some (.slice B m q)/\w2.cell? ⟨w.heap.size,7,none⟩=some (.slice KA kn kc)/\w2.cell? ⟨w.heap.size,8,none⟩=some (.slice LA ln lc) :=
   ⟨hb2.cell 0,hb2.cell 1,hb2.cell 2,hb2.cell 3,hb2.cell 4,hb2.cell 5,hb2.cell 6,hb2.cell 7,hb2.cell 8⟩
  have hlw:=hb2.lt
  clear b2 hb2 HD
  go_wp2_with fail
  refine(HH.out _ B2.out).mono ?_
  rintro e' w3 ⟨rfl,b3⟩
  go_wp2_with fail
  go_ret
  exact⟨rfl,B2.out.trans (b3.mono B2.out.size)⟩
end Go.Proofs.YtknkclefoiohpaaGreatDoor

namespace Go.Proofs.YtknkclefoiohpaaGreatDoor
open Go.RowKit Lx Tx Sx
set_option maxRecDepth 100000
def TPostS(S:Nat->Prop)(b:Nat)(w:World)(o:Option (Ty × List Tok))(e:Ending)(w':World):Prop :=
 ChR b w w'/\∃K X Z A m c,
  ((o=none/\e=.returned (.tuple #[.agg #[.int .i64 K,.string X,.int .i64 Z,.slice A m c],.bool false])) \/
   (∃t r,o=some (t,r)/\e=.returned (.tuple #[.agg #[.int .i64 K,.string X,.int .i64 Z,.slice A m c],.bool true]) /\
    RdV (λg=>w.heap.size<=g/\g<w'.heap.size) w' t (.agg #[.int .i64 K,.string X,.int .i64 Z,.slice A m c])/\RdrS S w' b r))
set_option maxHeartbeats 1600000 in
theorem sx_piece(S:Nat->Prop)(b:Nat)(l:List Tok)(w:World)(h:RdrS S w b l)(hS:∀g,S g->g≠b/\g<w.heap.size)(hG:AllG l)(hl:l.length<=100000) :
  Calls Tryz.prog 166 #[.pointer (some ⟨b,0,none⟩),.func (.func 53) #[] #[]] w (TPostS S b w (typ l)):=by
 obtain⟨v,hb,ht⟩:=h
 have hbl:=hb.lt
 have hR:=tc_readS S l v (w.alloc (.cells tyZ 35)) (ht.keep (λg hg=>Below.heap_alloc _ _ _ (hS g hg).2)) (λg hg=>by have:=(hS g hg).2;simp;omega) hG hl
 unfold typ
 obtain⟨O,hO⟩:∃O,read (enough l) l=O:=⟨_,rfl⟩
 rw[hO]at hR ⊢
 unfold tyZ at hR
 have HR:=hidE hR
 have HB:=hidE hb
 have HS:=hidE hS
 have f0:=hb.cell 0
 replace f0:w.cell? ⟨b,0,none⟩=some v:=f0
 clear ht hR hO hG hl hb hS
 go_enter Tryz.func166,Tryz.ntmps166
 go_wp2_with fail
 refine HR.out.mono ?_
 rintro e w2 ⟨b2,K,X,Z,A,m,c,v2,q,rfl,hno,hyes⟩
 have hs2:=b2.size
 simp at hs2
 have hbk:Blk w2 w.heap.size 35 #[.int .i64 0,.string ⟨#[]⟩,.int .i64 0,.slice none 0 0]:=(b2.block w.heap.size (by simp)).trans (heap_alloc_new w _)
 obtain⟨a0,a1,a2,a3,q0,q1,q2,q3,hlw⟩:=blk_facts4 hbk
 have hbb:Blk w2 b 141 #[v]:=(b2.block b (by simp;omega)).trans (HB.out.alloc _)
 have e0:=hbb.cell 0
 replace e0:w2.cell? ⟨b,0,none⟩=some v:=e0
 have e1:=hbb.frozen 0
 have e2:=hbb.lt
 have HBK:=hidE hbk
 have HBB:=hidE hbb
 have B2:=hidE b2
 have hne:b≠w.heap.size:=by omega
 clear hbk hbb b2 HR
 cases q with
 | false =>
  obtain⟨ho,rfl⟩:=hno rfl
  have HO:=hidE ho
  clear ho hno hyes
  go_wp2_with fail
  try simp only[Exit.inBlock,Exit.then]
  have hbw:Below w.heap.size w w2:=((Below.refl w.heap.size w).alloc (Nat.le_refl _) (.cells #[.int .i64 0,.string ⟨#[]⟩,.int .i64 0,.slice none 0 0] 35)).trans (B2.out.mono (by simp))
  have hch:=((((Chg.of_below (M:=only b) hbw).set4 (.int .i64 K) (.string X) (.int .i64 Z) (.slice A m c) (Nat.le_refl _)).setCell (p:=⟨b,0,none⟩) (.inr rfl) (.slice none 0 0)).set4 (.int .i64 K) (.string X) (.int .i64 Z) (.slice A m c) (Nat.le_refl _))
  have hbk:=blk_set4 (.int .i64 K) (.string X) (.int .i64 Z) (.slice A m c) ((blk_set4 (.int .i64 K) (.string X) (.int .i64 Z) (.slice A m c) HBK.out).same (Below.heap_setCell _ ⟨b,0,none⟩ (.slice none 0 0) w.heap.size (λe=>hne e.symm)))
  refine bodyPost_ret (results_ct rfl _ _ w.heap.size 35 _ (0,0) _ rfl hbk Tryz.underlying35 rfl (by kernel_rfl)) rfl ?_
  exact⟨⟨hch,λ_=>⟨none,0,0,(heap_set4 _ _ _ _ _ _ _ hne).trans (heap_setCell_same _ b 0 _ _ (.slice none 0 0) (HBB.out.same (heap_set4 _ _ _ _ _ _ _ hne)))⟩⟩,K,X,Z,A,m,c,.inl ⟨HO.out,rfl⟩⟩
 | true =>
  obtain⟨t,r,A2,c2,ho,rfl,hrd,htk⟩:=hyes rfl
  obtain⟨rn,hrn⟩:∃y,r.length=y:=⟨_,rfl⟩
  have HO:=hidE ho
  have HRD:=hidE hrd
  have HTK:=hidE htk
  rw[hrn]at HTK ⊢
  clear ho hrd htk hno hyes hrn
  go_wp2_with fail
  try simp only[Exit.inBlock,Exit.then]
  have hbw:Below w.heap.size w w2:=((Below.refl w.heap.size w).alloc (Nat.le_refl _) (.cells #[.int .i64 0,.string ⟨#[]⟩,.int .i64 0,.slice none 0 0] 35)).trans (B2.out.mono (by simp))
  have hch:=((((Chg.of_below (M:=only b) hbw).set4 (.int .i64 K) (.string X) (.int .i64 Z) (.slice A m c) (Nat.le_refl _)).setCell (p:=⟨b,0,none⟩) (.inr rfl) (.slice A2 rn c2)).set4 (.int .i64 K) (.string X) (.int .i64 Z) (.slice A m c) (Nat.le_refl _))
  have hbk:=blk_set4 (.int .i64 K) (.string X) (.int .i64 Z) (.slice A m c) ((blk_set4 (.int .i64 K) (.string X) (.int .i64 Z) (.slice A m c) HBK.out).same (Below.heap_setCell _ ⟨b,0,none⟩ (.slice A2 rn c2) w.heap.size (λe=>hne e.symm)))
  refine bodyPost_ret (results_ct rfl _ _ w.heap.size 35 _ (0,0) _ rfl hbk Tryz.underlying35 rfl (by kernel_rfl)) rfl ?_
  have hfar:∀k,k≠w.heap.size->k≠b->(((((((((w2.setCell ⟨w.heap.size,0,none⟩ (.int .i64 K)).setCell ⟨w.heap.size,1,none⟩ (.string X)).setCell ⟨w.heap.size,2,none⟩ (.int .i64 Z)).setCell ⟨w.heap.size,3,none⟩ (.slice A m c)).setCell ⟨b,0,none⟩ (.slice A2 rn c2)).setCell ⟨w.heap.size,0,none⟩ (.int .i64 K)).setCell ⟨w.heap.size,1,none⟩ (.string X)).setCell ⟨w.heap.size,2,none⟩ (.int .i64 Z)).setCell ⟨w.heap.size,3,none⟩ (.slice A m c)).heap[k]? = w2.heap[k]?:=λk h1 h2=>by
   rw[heap_set4 _ _ _ _ _ _ _ h1,Below.heap_setCell _ ⟨b,0,none⟩ _ k h2,heap_set4 _ _ _ _ _ _ _ h1]
  refine⟨⟨hch,λ_=>⟨A2,rn,c2,(heap_set4 _ _ _ _ _ _ _ hne).trans (heap_setCell_same _ b 0 _ _ (.slice A2 rn c2) (HBB.out.same (heap_set4 _ _ _ _ _ _ _ hne)))⟩⟩,K,X,Z,A,m,c,.inr ⟨t,r,HO.out,rfl,?_,.slice A2 rn c2,?_,?_⟩⟩
  ·refine HRD.out.keep (λg hg=>?_) (λg hg=>hfar g (by simp at hg;omega) (by simp at hg;omega))
   simp at hg ⊢
   omega
  ·refine(heap_set4 _ _ _ _ _ _ _ hne).trans ?_
   exact heap_setCell_same _ b 0 _ _ (.slice A2 rn c2) (HBB.out.same (heap_set4 _ _ _ _ _ _ _ hne))
  ·exact HTK.out.keep (λg hg=>hfar g (by have:=(HS.out g hg).2;omega) (HS.out g hg).1)
set_option maxHeartbeats 800000 in
theorem sx_whole(S:Nat->Prop)(b:Nat)(l:List Tok)(w:World)(h:RdrS S w b l)(hS:∀g,S g->g≠b/\g<w.heap.size)(hG:AllG l)(hl:l.length<=100000) :
  Calls Tryz.prog 128 #[.pointer (some ⟨b,0,none⟩)] w (TPostS S b w (typ l)):=by
 have hbl:=h.lt
 have HP:=hidE (sx_piece S b l (w.alloc (.cells tyZ 35)) (h.alloc _ (λg hg=>(hS g hg).2)) (λg hg=>⟨(hS g hg).1,by have:=(hS g hg).2;simp;omega⟩) hG hl)
 unfold tyZ at HP
 obtain⟨O,hO⟩:∃O,typ l=O:=⟨_,rfl⟩
 rw[hO]at HP ⊢
 have HS:=hidE hS
 clear h hS hG hl hO
 go_enter Tryz.func128,Tryz.ntmps128
 go_wp2_with fail
 refine HP.out.mono ?_
 rintro e w2 ⟨c2,K,X,Z,A,m,c,hcs⟩
 have hbk:Blk w2 w.heap.size 35 #[.int .i64 0,.string ⟨#[]⟩,.int .i64 0,.slice none 0 0]:=Blk.chgR (heap_alloc_new _ _) c2 (by unfold only;omega)
 have hs2:=c2.size
 simp at hs2
 obtain⟨a0,a1,a2,a3,q0,q1,q2,q3,hlw⟩:=blk_facts4 hbk
 have HBK:=hidE (blk_set4 (.int .i64 K) (.string X) (.int .i64 Z) (.slice A m c) hbk)
 have HCH:=hidE (c2.pre.set4 (.int .i64 K) (.string X) (.int .i64 Z) (.slice A m c) (Nat.le_refl _))
 have hne:b≠w.heap.size:=by omega
 clear hbk c2 HP
 rcases hcs with⟨ho,rfl⟩|⟨t,r,ho,rfl,hrd,hrr⟩
 ·have HO:=hidE ho
  clear ho
  go_wp2_with fail
  try simp only[Exit.inBlock,Exit.then]
  refine bodyPost_ret (results_ct rfl _ _ w.heap.size 35 _ (0,0) _ rfl HBK.out Tryz.underlying35 rfl (by kernel_rfl)) rfl ?_
  exact⟨HCH.out,K,X,Z,A,m,c,.inl ⟨HO.out,rfl⟩⟩
 ·have HO:=hidE ho
  have HRD:=hidE hrd
  have HRR:=hidE hrr
  clear ho hrd hrr
  go_wp2_with fail
  try simp only[Exit.inBlock,Exit.then]
  refine bodyPost_ret (results_ct rfl _ _ w.heap.size 35 _ (0,0) _ rfl HBK.out Tryz.underlying35 rfl (by kernel_rfl)) rfl ?_
  refine⟨HCH.out,K,X,Z,A,m,c,.inr ⟨t,r,HO.out,rfl,?_,?_⟩⟩
  ·refine HRD.out.keep (λg hg=>?_) (λg hg=>heap_set4 _ _ _ _ _ _ _ (by simp at hg;omega))
   simp at hg ⊢
   omega
  ·exact HRR.out.keep (heap_set4 _ _ _ _ _ _ _ hne) (λk hk=>heap_set4 _ _ _ _ _ _ _ (by have:=(HS.out k hk).2;omega))
end Go.Proofs.YtknkclefoiohpaaGreatDoor

namespace Go.Proofs.YtknkclefoiohpaaGreatDoor
open Go.RowKit Lx Tx
set_option maxRecDepth 100000
def VPost(S:Nat->Prop)(b:Nat)(w:World)(o:List (List UInt8) × List Tok)(e:Ending)(w':World):Prop :=
 ∃A c,e=.returned (.tuple #[.slice A o.1.length c,.bool true])/\w'.ownsRow w.heap.size 9 1 (.slice A o.1.length c) o.1.length (strV o.1)/\RdrS S w' b o.2/\Chg (only b) w w'
def HeadNs(S:Nat->Prop)(b:Nat)(r0:List Tok)(w:World)(gg:Nat)(v:Value)(wr:World):Prop :=
 ∃(l:List Tok) (done:List (List UInt8)) (A:Option Addr) (c:Nat),gg=l.length/\v=.slice A done.length c/\l.length+done.length<=r0.length/\Hid (RdrS S wr b l)/\Hid (vars r0=(done++(vars l).1,(vars l).2)) /\
  Hid (wr.ownsRow w.heap.size 9 1 (.slice A done.length c) done.length (strV done))/\Hid (Chg (only b) w wr)
set_option maxHeartbeats 1600000 in
theorem sx_longerS(S:Nat->Prop)(b:Nat)(l:List Tok)(w:World)(h:RdrS S w b l)(hS:∀g,S g->g≠b/\g<w.heap.size)(hl:l.length<=100000) :
  Calls Tryz.prog 185 #[.slice none 0 0,.func (.func 171) #[.pointer (some ⟨b,0,none⟩)] #[],.func (.func 127) #[.pointer (some ⟨b,0,none⟩)] #[]] w (VPost S b w (vars l)):=by
 have hbl:=h.lt
 obtain⟨i0,hi0,hz0,hz1,hz2⟩:=info_parts str_info
 obtain⟨L,hL⟩:∃L,l.length=L:=⟨_,rfl⟩
 have HL:=hidE hL
 have HS:=hidE hS
 have HH:Hid (HeadNs S b l w L (.slice none 0 0) w):=hidE ⟨l,[],none,0,hL.symm,rfl,by simp,hidE h,hidE (by simp),hidE (World.ownsRow_nil _ _ _ _),hidE (Chg.refl _ w)⟩
 rw[hL]at hl
 clear h hS hL
 go_enter Tryz.func185,Tryz.ntmps185
 go_wp2_with fail
 go_loopg [0] L (λgg v wr=>HeadNs S b l w gg v wr)
 case atStart=>exact HH.out
 case round =>
  obtain⟨r,done,A,c,rfl,rfl,hle,hr,hv,hown,hc⟩:=hrel
  rw[HL.out]at hle
  have hsz:=hc.out.size
  obtain⟨n,hn⟩:∃n,done.length=n:=⟨_,rfl⟩
  rw[hn]at hle hown ⊢
  have HN:=hidE hn
  obtain⟨rn,hrn⟩:∃n,r.length=n:=⟨_,rfl⟩
  have HRN:=hidE hrn
  rw[hrn]at hle
  have hA:=hidE (sx_atVariable S b r wr hr.out (by rw[hrn];omega))
  clear hn hrn HH
  obtain⟨q,hq⟩:∃q,((hd r).kind==1)=q:=⟨_,rfl⟩
  rw[hq]at hA
  have HQ:=hidE hq
  clear hq
  go_wp2_with fail
  refine hA.out.mono ?_
  rintro e w2 ⟨rfl,b2⟩
  have hs2:=b2.size
  have HR2:=hidE (hr.out.below b2 (λg hg=>by have:=(HS.out g hg).2;omega))
  have HC2:=hidE (hc.out.below b2)
  have HO2:=hidE (own_chg hown.out (Chg.of_below (M:=only b) b2) hbl)
  clear b2 hA
  cases q with
  | true =>
   have hk:(hd r).kind=1:=by simpa using HQ.out
   have hV:=sx_variable S b r w2 HR2.out (λg hg=>⟨(HS.out g hg).1,by have:=(HS.out g hg).2;omega⟩) (by rw[HRN.out];omega)
   rw[HQ.out]at hV
   obtain⟨X,hX⟩:∃X,anyT r 1=X:=⟨_,rfl⟩
   obtain⟨r2,hr2⟩:∃x,anyR r 1=x:=⟨_,rfl⟩
   rw[hX,hr2]at hV
   have hX2:X.data.toList=(hd r).text:=by rw[<-hX,anyT,if_pos hk]
   have hr3:r.tail=r2:=by rw[<-hr2,anyR,if_pos hk]
   have hln:r2.length+1=rn:=by
    rw[<-HRN.out,<-hr3]
    obtain⟨r',e1,e2⟩:=hd_cons (l:=r) (by rw[hk];decide)
    rw[e2,e1];rfl
   have HVV:=hidE hV
   have hvn:Hid (vars l=((done++[X.data.toList])++(vars r2).1,(vars r2).2)):=hidE (by rw[hv.out,vars_yes r hk,hr3,hX2];simp)
   clear hk hV hX hr2 hX2 hr3
   go_wp2_with fail
   refine HVV.out.mono ?_
   rintro e w3 ⟨rfl,rr3,c3⟩
   have hs3:=c3.size
   have HR3:=hidE rr3
   have HC3:=hidE (HC2.out.trans c3)
   have HO3:=hidE ((own_chg HO2.out c3 hbl).alloc (.cells #[.string X] 9))
   have HOW:=hidE (own_chg HO2.out c3 hbl)
   clear rr3 c3 HVV
   go_wp2_with (at_builtin;refine wpList_append_own_at _ rfl (.tmp 25) (.tmp 27) 56 rfl w.heap.size 9 i0 _ 1 16 Tryz.underlying56 hi0 hz0 hz1 hz2 rfl (by decide) _ n (strV done) rfl HO3.out ⟨w3.heap.size,0,none⟩ 1 1 [.string X] rfl rfl (new_cells' _ _ _ _ rfl) (by intro u hu;simp at hu;subst hu;rfl) (by unfold maxLen;omega) (by omega) (by simp;omega) ?_;intro v2 w5 hown3 hgrow _ hat3;obtain⟨A2,c2,rfl⟩:=own_shape hown3;have HG3:=hidE hgrow;have HO5:=hidE hown3;clear hown3 hgrow hat3)
   have hs5:=HG3.out.size
   simp at hs5
   have HLT:=HOW.out.lt
   go_roundg r2.length
   case measure=>rw[HRN.out];omega
   case rel =>
    refine⟨r2,done++[X.data.toList],A2,c2,rfl,by rw[List.length_append,HN.out];rfl,by rw[List.length_append,HN.out,HL.out];simp;omega,hidE (HR3.out.keep ?_ ?_),hvn,hidE ?_,hidE ((HC3.out.alloc _).grown HG3.out (λj hj=>.inl (by have:=HLT _ hj;omega)))⟩
    ·exact(HG3.out.block b (by simp;omega) (λe=>by have:=HLT _ e.symm;omega)).trans (Below.heap_alloc _ _ _ (by omega))
    ·exact λg hg=>(HG3.out.block g (by have:=(HS.out g hg).2;simp;omega) (λe=>by have:=HLT _ e.symm;have:=(HS.out g hg).2;omega)).trans (Below.heap_alloc _ _ _ (by have:=(HS.out g hg).2;omega))
    ·rw[List.length_append,HN.out,show strV (done++[X.data.toList])=strV done++[.string X] by simp[strV]]
     exact HO5.out
  | false =>
   have hk:¬(hd r).kind=1:=by simpa using HQ.out
   have hvn:vars l=(done,r):=by rw[hv.out,vars_no r hk];simp
   have HVN:=hidE hvn
   clear hk hvn
   go_wp2_with fail
   go_ret2
   unfold VPost
   rw[HVN.out]
   exact⟨A,c,by rw[HN.out];rfl,by rw[HN.out];exact HO2.out,HR2.out,HC2.out⟩
set_option maxHeartbeats 400000 in
theorem sx_variables(S:Nat->Prop)(b:Nat)(l:List Tok)(w:World)(h:RdrS S w b l)(hS:∀g,S g->g≠b/\g<w.heap.size)(hl:l.length<=100000) :
  Calls Tryz.prog 163 #[.pointer (some ⟨b,0,none⟩)] w (VPost S b w (vars l)):=by
 have HT:=sx_longerS S b l w h hS hl
 obtain⟨O,hO⟩:∃O,vars l=O:=⟨_,rfl⟩
 rw[hO]at HT ⊢
 have hbl:=h.lt
 clear h hS hl hO
 go_enter Tryz.func163,Tryz.ntmps163
 go_wp2_with fail
 refine HT.mono ?_
 rintro e w1 ⟨A,c,rfl,h1,h2,h3⟩
 obtain⟨n,hn⟩:∃n,O.1.length=n:=⟨_,rfl⟩
 rw[hn]at h1 ⊢
 have HN:=hidE hn
 have H1:=hidE h1
 clear hn h1
 go_wp2_with fail
 go_ret2
 exact⟨A,c,by rw[HN.out];rfl,by rw[HN.out];exact H1.out,h2,h3⟩
theorem sx_signR(S:Nat->Prop)(b:Nat)(l:List Tok)(X:ByteArray)(w:World)(h:RdrS S w b l)(hS:∀g,S g->g≠b/\g<w.heap.size)(hl:l.length<=100000) :
  Calls Tryz.prog 93 #[.pointer (some ⟨b,0,none⟩),.string X] w λe w'=>e=.returned (.bool (isHd l 6 X.data.toList))/\RdrS S w' b (took l 6 X.data.toList)/\ChR b w w' :=
 (sx_sign S b l X w h hS hl).mono λ_ _ ⟨h1,h2,h3⟩=>⟨h1,h2,ChR.of_rdr h3 h2⟩
theorem sx_wordR(S:Nat->Prop)(b:Nat)(l:List Tok)(X:ByteArray)(w:World)(h:RdrS S w b l)(hS:∀g,S g->g≠b/\g<w.heap.size)(hl:l.length<=100000) :
  Calls Tryz.prog 95 #[.pointer (some ⟨b,0,none⟩),.string X] w λe w'=>e=.returned (.bool (isHd l 3 X.data.toList))/\RdrS S w' b (took l 3 X.data.toList)/\ChR b w w' :=
 (sx_word S b l X w h hS hl).mono λ_ _ ⟨h1,h2,h3⟩=>⟨h1,h2,ChR.of_rdr h3 h2⟩
theorem sx_variableR(S:Nat->Prop)(b:Nat)(l:List Tok)(w:World)(h:RdrS S w b l)(hS:∀g,S g->g≠b/\g<w.heap.size)(hl:l.length<=100000) :
  Calls Tryz.prog 127 #[.pointer (some ⟨b,0,none⟩)] w λe w'=>e=.returned (.tuple #[.string (anyT l 1),.bool ((hd l).kind==1)])/\RdrS S w' b (anyR l 1)/\ChR b w w' :=
 (sx_variable S b l w h hS hl).mono λ_ _ ⟨h1,h2,h3⟩=>⟨h1,h2,ChR.of_rdr h3 h2⟩
theorem sx_takeAnyR(S:Nat->Prop)(b:Nat)(l:List Tok)(k:Nat)(K:Int)(hK:K=k)(w:World)(h:RdrS S w b l)(hS:∀g,S g->g≠b/\g<w.heap.size)(hl:l.length<=100000)(hk0:k≠0) :
  Calls Tryz.prog 162 #[.pointer (some ⟨b,0,none⟩),.int .i64 K] w λe w'=>e=.returned (.tuple #[.string (anyT l k),.bool ((hd l).kind==k)])/\RdrS S w' b (anyR l k)/\ChR b w w' :=
 (sx_takeAny S b l k K hK w h hS hl hk0).mono λ_ _ ⟨h1,h2,h3⟩=>⟨h1,h2,ChR.of_rdr h3 h2⟩
theorem sx_variablesR(S:Nat->Prop)(b:Nat)(l:List Tok)(w:World)(h:RdrS S w b l)(hS:∀g,S g->g≠b/\g<w.heap.size)(hl:l.length<=100000) :
  Calls Tryz.prog 163 #[.pointer (some ⟨b,0,none⟩)] w λe w'=>∃A c,e=.returned (.tuple #[.slice A (vars l).1.length c,.bool true])/\w'.ownsRow w.heap.size 9 1 (.slice A (vars l).1.length c) (vars l).1.length (strV (vars l).1)/\RdrS S w' b (vars l).2/\ChR b w w' :=
 (sx_variables S b l w h hS hl).mono λ_ _ ⟨A,c,h1,h2,h3,h4⟩=>⟨A,c,h1,h2,h3,ChR.of_rdr h4 h3⟩
end Go.Proofs.YtknkclefoiohpaaGreatDoor

namespace Go.Proofs.YtknkclefoiohpaaGreatDoor
open Go.RowKit Lx Tx Sx
set_option maxRecDepth 100000
structure C9 where
 k:Int
 x:ByteArray
 t:Bool
 K:Int
 X:ByteArray
 Z:Int
 B:Option Addr
 m:Nat
 q:Nat
 KA:Option Addr
 kn:Nat
 kc:Nat
 LA:Option Addr
 ln:Nat
 lc:Nat
def lamF(f:Nat)(l:List Tok):Option (Ex × List Tok) :=
 match tok1 1 l with
 | none=>none
 | some (x,r2) =>
  match eat pArr r2 with
  | none=>none
  | some r3=>(rdE f r3).map λy=>(.lam x y.1,y.2)
theorem lamF_eq(f:Nat)(l:List Tok):lamF f l=if(hd l).kind=1 then(if isHd l.tail 6 [45,62]=true then(rdE f l.tail.tail).map λy=>(.lam (hd l).text y.1,y.2) else none) else none:=by
 unfold lamF
 rw[tok1_any 1 (by decide)]
 by_cases h:(hd l).kind=1
 ·rw[if_pos h,if_pos h]
  have:eat pArr l.tail=if isHd l.tail 6 [45,62]=true then some l.tail.tail else none:=eat_isHd 6 (by decide) [45,62] l.tail
  simp only[this]
  by_cases h2:isHd l.tail 6 [45,62]=true
  ·rw[if_pos h2,if_pos h2]
  ·rw[if_neg h2,if_neg h2]
 ·rw[if_neg h,if_neg h]
theorem heap_set4_5(w:World)(g:Nat)(b0 b1 b2 b3 b4:Value)(k:Nat)(hk:k≠g) :
  (((((w.setCell ⟨g,0,none⟩ b0).setCell ⟨g,1,none⟩ b1).setCell ⟨g,2,none⟩ b2).setCell ⟨g,3,none⟩ b3).setCell ⟨g,4,none⟩ b4).heap[k]? = w.heap[k]? :=
 (Below.heap_setCell _ ⟨g,4,none⟩ _ k hk).trans (heap_set4 _ _ _ _ _ _ _ hk)
theorem set9_far(w:World)(g k:Nat)(b0 b1 b2 b3 b4 b5 b6 b7 b8:Value)(hk:k≠g) :
  (((((((((w.setCell ⟨g,0,none⟩ b0).setCell ⟨g,1,none⟩ b1).setCell ⟨g,2,none⟩ b2).setCell ⟨g,3,none⟩ b3).setCell ⟨g,4,none⟩ b4).setCell ⟨g,5,none⟩ b5).setCell ⟨g,6,none⟩ b6).setCell ⟨g,7,none⟩ b7).setCell ⟨g,8,none⟩ b8).heap[k]? = w.heap[k]?:=by
 rw[Below.heap_setCell _ ⟨g,8,none⟩ _ k hk,Below.heap_setCell _ ⟨g,7,none⟩ _ k hk,Below.heap_setCell _ ⟨g,6,none⟩ _ k hk,Below.heap_setCell _ ⟨g,5,none⟩ _ k hk,heap_set4_5 _ _ _ _ _ _ _ k hk]
end Go.Proofs.YtknkclefoiohpaaGreatDoor

namespace Go.Proofs.YtknkclefoiohpaaGreatDoor
open Go.RowKit Lx Tx Sx
set_option maxRecDepth 100000
def exZ:Array Value:=#[.int .i64 0,.string ⟨#[]⟩,.bool false,.int .i64 0,.string ⟨#[]⟩,.int .i64 0,.slice none 0 0,.slice none 0 0,.slice none 0 0]
theorem blk_set9 {w:World} {g:Nat} {t:TypeId} {a0 a1 a2 a3 a4 a5 a6 a7 a8:Value}(b0 b1 b2 b3 b4 b5 b6 b7 b8:Value)(h:Blk w g t #[a0,a1,a2,a3,a4,a5,a6,a7,a8]) :
  Blk (((((((((w.setCell ⟨g,0,none⟩ b0).setCell ⟨g,1,none⟩ b1).setCell ⟨g,2,none⟩ b2).setCell ⟨g,3,none⟩ b3).setCell ⟨g,4,none⟩ b4).setCell ⟨g,5,none⟩ b5).setCell ⟨g,6,none⟩ b6).setCell ⟨g,7,none⟩ b7).setCell ⟨g,8,none⟩ b8) g t #[b0,b1,b2,b3,b4,b5,b6,b7,b8]:=by
 have s:∀(W:World) (cs:Array Value) (i:Nat) (b:Value),Blk W g t cs->Blk (W.setCell ⟨g,i,none⟩ b) g t (cs.setIfInBounds i b):=λW cs i b h=>heap_setCell_same W g i _ _ b h
 have h8:=s _ _ 8 b8 (s _ _ 7 b7 (s _ _ 6 b6 (s _ _ 5 b5 (s _ _ 4 b4 (s _ _ 3 b3 (s _ _ 2 b2 (s _ _ 1 b1 (s _ _ 0 b0 h))))))))
 have e:((((((((((#[a0,a1,a2,a3,a4,a5,a6,a7,a8]:Array Value).setIfInBounds 0 b0).setIfInBounds 1 b1).setIfInBounds 2 b2).setIfInBounds 3 b3).setIfInBounds 4 b4).setIfInBounds 5 b5).setIfInBounds 6 b6).setIfInBounds 7 b7).setIfInBounds 8 b8)=#[b0,b1,b2,b3,b4,b5,b6,b7,b8]:=by simp
 rw[e]at h8
 exact h8
structure Z9 (w:World) (g:Nat):Prop where
 c:w.cell? ⟨g,0,none⟩=some (.int .i64 0)/\w.cell? ⟨g,1,none⟩=some (.string ⟨#[]⟩)/\w.cell? ⟨g,2,none⟩=some (.bool false) /\
   w.cell? ⟨g,3,none⟩=some (.int .i64 0)/\w.cell? ⟨g,4,none⟩=some (.string ⟨#[]⟩)/\w.cell? ⟨g,5,none⟩=some (.int .i64 0)/\w.cell? ⟨g,6,none⟩=some (.slice none 0 0)/\w.cell? ⟨g,7,none⟩=some (.slice none 0 0)/\w.cell? ⟨g,8,none⟩=some (.slice none 0 0)
 f:w.frozen? ⟨g,0,none⟩=false/\w.frozen? ⟨g,1,none⟩=false/\w.frozen? ⟨g,2,none⟩=false/\w.frozen? ⟨g,3,none⟩=false/\w.frozen? ⟨g,4,none⟩=false/\w.frozen? ⟨g,5,none⟩=false/\w.frozen? ⟨g,6,none⟩=false/\w.frozen? ⟨g,7,none⟩=false/\w.frozen? ⟨g,8,none⟩=false
theorem z9 {w:World} {g:Nat} {t:TypeId}(h:Blk w g t exZ):Z9 w g :=
 ⟨⟨h.cell 0,h.cell 1,h.cell 2,h.cell 3,h.cell 4,h.cell 5,h.cell 6,h.cell 7,h.cell 8⟩,⟨h.frozen 0,h.frozen 1,h.frozen 2,h.frozen 3,h.frozen 4,h.frozen 5,h.frozen 6,h.frozen 7,h.frozen 8⟩⟩
end Go.Proofs.YtknkclefoiohpaaGreatDoor

namespace Go.Proofs.YtknkclefoiohpaaGreatDoor
namespace Sx
open Lx Tx
def manyF {α:Type}(nx:List Tok->Bool)(af:List Tok->List Tok)(rd:Nat->List Tok->Option (α × List Tok)):Nat->List Tok->Option (List α × List Tok)
 | 0,_=>none
 | f+1,l =>
  if nx l=true then
   match rd f (af l) with
   | none=>none
   | some y=>(manyF nx af rd f y.2).map λz=>(y.1::z.1,z.2)
  else some ([],l)
theorem many_end {α:Type} {nx:List Tok->Bool} {af:List Tok->List Tok} {rd:Nat->List Tok->Option (α × List Tok)}(f:Nat)(l:List Tok)(h:nx l=false):manyF nx af rd (f+1) l=some ([],l):=by
 rw[manyF,if_neg (by rw[h];decide)]
theorem many_no {α:Type} {nx:List Tok->Bool} {af:List Tok->List Tok} {rd:Nat->List Tok->Option (α × List Tok)}(f:Nat)(l:List Tok)(h:nx l=true)(ho:rd f (af l)=none):manyF nx af rd (f+1) l=none:=by
 rw[manyF,if_pos h,ho]
theorem many_yes {α:Type} {nx:List Tok->Bool} {af:List Tok->List Tok} {rd:Nat->List Tok->Option (α × List Tok)}(f:Nat)(l:List Tok)(h:nx l=true)(x:α)(r:List Tok)(ho:rd f (af l)=some (x,r)) :
  manyF nx af rd (f+1) l=(manyF nx af rd f r).map λy=>(x::y.1,y.2):=by
 rw[manyF,if_pos h,ho]
def semB(l:List Tok):Bool:=isHd l 6 [59]
def sepM {α:Type}(rd:Nat->List Tok->Option (α × List Tok))(f:Nat)(l:List Tok):Option (List α × List Tok) :=
 match rd f l with
 | none=>none
 | some y=>(manyF semB List.tail rd f y.2).map λz=>(y.1::z.1,z.2)
theorem eat_sem(l:List Tok):eat pSem l=if semB l=true then some l.tail else none:=eat_isHd 6 (by decide) [59] l
def brF {α:Type}(rd:Nat->List Tok->Option (α × List Tok))(f:Nat)(l:List Tok):Option (List α × List Tok) :=
 if isHd l 6 [123]=true then
  if isHd l.tail 6 [125]=true then some ([],l.tail.tail)
  else
   match sepM rd f l.tail with
   | none=>none
   | some y=>if isHd y.2 6 [125]=true then some (y.1,y.2.tail) else none
 else none
theorem eat_opn(l:List Tok):eat pOpn l=if isHd l 6 [123]=true then some l.tail else none:=eat_isHd 6 (by decide) [123] l
theorem eat_cls(l:List Tok):eat pCls l=if isHd l 6 [125]=true then some l.tail else none:=eat_isHd 6 (by decide) [125] l
theorem args_many(f:Nat):∀a l,rdArgs f a l=(manyF atomEB id rdAtom f l).map λy=>(y.1.foldl Ex.app a,y.2):=by
 induction f with
 | zero=>intro a l;rw[rdArgs,manyF];rfl
 | succ f ih =>
  intro a l
  cases l with
  | nil=>rw[rdArgs,many_end f [] rfl];rfl
  | cons t r =>
   rw[rdArgs]
   by_cases h:atomE t=true
   ·rw[if_pos h]
    have h':atomEB (t::r)=true:=h
    cases ho:rdAtom f (t::r) with
    | none=>rw[many_no f (t::r) h' ho];rfl
    | some y =>
     obtain⟨b,r2⟩:=y
     rw[many_yes f (t::r) h' b r2 ho]
     simp only[ih]
     cases manyF atomEB id rdAtom f r2 <;> rfl
   ·rw[if_neg h]
    have h':atomEB (t::r)=false:=by simpa[atomEB] using h
    rw[many_end f (t::r) h']
    rfl
def rdAlt(f:Nat)(l:List Tok):Option (Al × List Tok) :=
 match tok1 2 l with
 | none=>none
 | some y =>
  match eat pArr (vars y.2).2 with
  | none=>none
  | some r2=>(rdE f r2).map λz=>(.mk y.1 (vars y.2).1 z.1,z.2)
theorem alts_sep(f:Nat):∀l,rdAlts (f+1) l=sepM rdAlt f l:=by
 induction f with
 | zero =>
  intro l
  rw[rdAlts,sepM,rdAlt]
  cases tok1 2 l with
  | none=>rfl
  | some y =>
   obtain⟨c,r⟩:=y
   simp only
   cases eat pArr (vars r).2 with
   | none=>rfl
   | some r2=>simp only[rdE];rfl
 | succ f ih =>
  intro l
  rw[rdAlts,sepM,rdAlt]
  cases tok1 2 l with
  | none=>rfl
  | some y =>
   obtain⟨c,r⟩:=y
   simp only
   cases eat pArr (vars r).2 with
   | none=>rfl
   | some r2 =>
    simp only
    cases rdE (f+1) r2 with
    | none=>rfl
    | some y =>
     obtain⟨b,r3⟩:=y
     simp only[Option.map_some,eat_sem]
     by_cases h:semB r3=true
     ·simp only[if_pos h,ih]
      rw[sepM]
      cases ho:rdAlt f r3.tail with
      | none=>simp only;rw[many_no f r3 h ho]
      | some y =>
       obtain⟨x,r4⟩:=y
       simp only
       rw[many_yes f r3 h x r4 ho]
     ·simp only[if_neg h]
      rw[many_end f r3 (by simpa using h)];rfl
theorem sep_sep {α:Type}(p:List Tok->Option (α × List Tok))(f:Nat):∀l,sepF p (f+1) l=sepM (λ_=>p) (f+1) l:=by
 induction f with
 | zero =>
  intro l
  rw[sepF,sepM]
  cases p l with
  | none=>rfl
  | some y =>
   obtain⟨x,r⟩:=y
   simp only[eat_sem]
   by_cases h:semB r=true
   ·simp only[if_pos h,sepF]
    cases ho:p r.tail with
    | none=>rw[many_no (rd:=λ_=>p) 0 r h ho]
    | some y=>rw[many_yes (rd:=λ_=>p) 0 r h y.1 y.2 ho,manyF];rfl
   ·simp only[if_neg h]
    rw[many_end 0 r (by simpa using h)];rfl
 | succ f ih =>
  intro l
  rw[sepF,sepM]
  cases p l with
  | none=>rfl
  | some y =>
   obtain⟨x,r⟩:=y
   simp only[eat_sem]
   by_cases h:semB r=true
   ·simp only[if_pos h,ih]
    rw[sepM]
    cases ho:p r.tail with
    | none=>simp only;rw[many_no (rd:=λ_=>p) (f+1) r h ho]
    | some y =>
     simp only
     rw[many_yes (rd:=λ_=>p) (f+1) r h y.1 y.2 ho]
   ·simp only[if_neg h]
    rw[many_end (f+1) r (by simpa using h)];rfl
def choF(f:Nat)(l:List Tok):Option (Ex × List Tok) :=
 match rdE (f+1) l with
 | none=>none
 | some y=>if isHd y.2 3 wOf=true then(brF rdAlt f y.2.tail).map λz=>(.cs y.1 z.1,z.2) else none
theorem rdCase_eq(f:Nat)(l:List Tok):rdCase (f+2) l=choF f l:=by
 rw[rdCase,choF]
 cases rdE (f+1) l with
 | none=>rfl
 | some y =>
  obtain⟨a,r⟩:=y
  simp only
  rw[show eat (isKey · wOf) r=if isHd r 3 wOf=true then some r.tail else none from eat_isHd 3 (by decide) wOf r]
  by_cases h:isHd r 3 wOf=true
  ·simp only[if_pos h,eat_opn,brF]
   by_cases h2:isHd r.tail 6 [123]=true
   ·simp only[if_pos h2,eat_cls]
    by_cases h3:isHd r.tail.tail 6 [125]=true
    ·simp only[if_pos h3];rfl
    ·simp only[if_neg h3,alts_sep]
     cases sepM rdAlt f r.tail.tail with
     | none=>rfl
     | some z =>
      simp only
      by_cases h4:isHd z.2 6 [125]=true
      ·simp only[if_pos h4];rfl
      ·simp only[if_neg h4];rfl
   ·simp only[if_neg h2];rfl
  ·simp only[if_neg h]
def letG(f:Nat)(x:Nm)(t:Option Ty)(r:List Tok):Option (Ex × List Tok) :=
 if isHd r 6 [61]=true then
  match rdE f r.tail with
  | none=>none
  | some y=>if isHd y.2 3 wIn=true then(rdE f y.2.tail).map λz=>(.lt x t y.1 z.1,z.2) else none
 else none
def letF(f:Nat)(l:List Tok):Option (Ex × List Tok) :=
 if(hd l).kind=1 then
  if isHd l.tail 6 [58]=true then
   match typ l.tail.tail with
   | none=>none
   | some y=>letG f (hd l).text (some y.1) y.2
  else letG f (hd l).text none l.tail
 else none
theorem rdLet_eq(f:Nat)(l:List Tok):rdLet (f+1) l=letF f l:=by
 rw[rdLet,letF,tok1_any 1 (by decide)]
 by_cases h:(hd l).kind=1
 ·simp only[if_pos h,told,show eat pCol l.tail=if isHd l.tail 6 [58]=true then some l.tail.tail else none from eat_isHd 6 (by decide) [58] l.tail]
  have hG:∀t r,(match eat pEq r with
    | none=>none
    | some r3 =>
     match rdE f r3 with
     | none=>none
     | some (a,r4) =>
      match eat (isKey · wIn) r4 with
      | none=>none
      | some r5=>(rdE f r5).map λy=>(Ex.lt (hd l).text t a y.1,y.2))=letG f (hd l).text t r:=by
   intro t r
   rw[letG,show eat pEq r=if isHd r 6 [61]=true then some r.tail else none from eat_isHd 6 (by decide) [61] r]
   by_cases h1:isHd r 6 [61]=true
   ·simp only[if_pos h1]
    cases rdE f r.tail with
    | none=>rfl
    | some y =>
     simp only
     rw[show eat (isKey · wIn) y.2=if isHd y.2 3 wIn=true then some y.2.tail else none from eat_isHd 3 (by decide) wIn y.2]
     by_cases h2:isHd y.2 3 wIn=true
     ·simp only[if_pos h2]
     ·simp only[if_neg h2]
   ·simp only[if_neg h1]
  by_cases h1:isHd l.tail 6 [58]=true
  ·simp only[if_pos h1]
   cases typ l.tail.tail with
   | none=>rfl
   | some y=>exact hG (some y.1) y.2
  ·simp only[if_neg h1]
   exact hG none l.tail
 ·simp only[if_neg h]
def parF(f:Nat)(l:List Tok):Option (Ex × List Tok) :=
 match rdE f l with
 | none=>none
 | some y =>
  if isHd y.2 6 [58]=true then
   match typ y.2.tail with
   | none=>none
   | some z=>if isHd z.2 6 [41]=true then some (.ann y.1 z.1,z.2.tail) else none
  else if isHd y.2 6 [41]=true then some (y.1,y.2.tail) else none
theorem rdAtom_eq(f:Nat)(l:List Tok):rdAtom (f+1) l=if(hd l).kind=1 then some (.var (hd l).text,l.tail) else if isHd l 6 [40]=true then parF f l.tail else if(hd l).kind=2 then some (.con (hd l).text,l.tail) else none:=by
 rw[rdAtom,tok1_any 1 (by decide),tok1_any 2 (by decide),show eat pLp l=if isHd l 6 [40]=true then some l.tail else none from eat_isHd 6 (by decide) [40] l]
 by_cases h:(hd l).kind=1
 ·simp only[if_pos h]
 ·simp only[if_neg h]
  by_cases h1:isHd l 6 [40]=true
  ·simp only[if_pos h1,parF]
   cases rdE f l.tail with
   | none=>rfl
   | some y =>
    obtain⟨a,r⟩:=y
    simp only[told,show eat pCol r=if isHd r 6 [58]=true then some r.tail else none from eat_isHd 6 (by decide) [58] r]
    have hp:∀r,eat pRp r=if isHd r 6 [41]=true then some r.tail else none:=λr=>eat_isHd 6 (by decide) [41] r
    by_cases h2:isHd r 6 [58]=true
    ·simp only[if_pos h2]
     cases typ r.tail with
     | none=>rfl
     | some z =>
      simp only[Option.map_some,hp]
      by_cases h3:isHd z.2 6 [41]=true
      ·simp only[if_pos h3];rfl
      ·simp only[if_neg h3];rfl
    ·simp only[if_neg h2,hp]
     by_cases h3:isHd r 6 [41]=true
     ·simp only[if_pos h3];rfl
     ·simp only[if_neg h3];rfl
  ·simp only[if_neg h1]
   by_cases h2:(hd l).kind=2
   ·simp only[if_pos h2];rfl
   ·simp only[if_neg h2];rfl
theorem rdApp_eq(f:Nat)(l:List Tok):rdApp (f+1) l=match rdAtom f l with
  | none=>none
  | some y=>(manyF atomEB id rdAtom f y.2).map λz=>(z.1.foldl Ex.app y.1,z.2):=by
 rw[rdApp]
 cases rdAtom f l with
 | none=>rfl
 | some y=>exact args_many f y.1 y.2
theorem rdE_eq(f:Nat)(l:List Tok):rdE (f+1) l=if isHd l 6 [92]=true then lamF f l.tail else if isHd l 3 wLet=true then rdLet f l.tail else if isHd l 3 wCase=true then rdCase f l.tail else rdApp f l:=by
 rw[rdE,show eat pLam l=if isHd l 6 [92]=true then some l.tail else none from eat_isHd 6 (by decide) [92] l,show eat (isKey · wLet) l=if isHd l 3 wLet=true then some l.tail else none from eat_isHd 3 (by decide) wLet l,
  show eat (isKey · wCase) l=if isHd l 3 wCase=true then some l.tail else none from eat_isHd 3 (by decide) wCase l]
 by_cases h:isHd l 6 [92]=true
 ·simp only[if_pos h];rfl
 ·simp only[if_neg h]
  by_cases h1:isHd l 3 wLet=true
  ·simp only[if_pos h1]
  ·simp only[if_neg h1]
   by_cases h2:isHd l 3 wCase=true
   ·simp only[if_pos h2]
   ·simp only[if_neg h2]
theorem rdAlt_eq(f:Nat)(l:List Tok):rdAlt f l=if(hd l).kind=2 then if isHd (vars l.tail).2 6 [45,62]=true then(rdE f (vars l.tail).2.tail).map λz=>(.mk (hd l).text (vars l.tail).1 z.1,z.2) else none else none:=by
 rw[rdAlt,tok1_any 2 (by decide)]
 by_cases h:(hd l).kind=2
 ·simp only[if_pos h]
  rw[show eat pArr (vars l.tail).2=if isHd (vars l.tail).2 6 [45,62]=true then some (vars l.tail).2.tail else none from eat_isHd 6 (by decide) [45,62] _]
  by_cases h1:isHd (vars l.tail).2 6 [45,62]=true
  ·simp only[if_pos h1]
  ·simp only[if_neg h1]
 ·simp only[if_neg h]
end Sx
end Go.Proofs.YtknkclefoiohpaaGreatDoor

namespace Go.Proofs.YtknkclefoiohpaaGreatDoor
open Go.RowKit Lx Tx Sx
theorem ChR.set9 {b:Nat} {w w':World} {g:Nat}(h:ChR b w w')(b0 b1 b2 b3 b4 b5 b6 b7 b8:Value)(hg:w.heap.size<=g) :
  ChR b w (((((((((w'.setCell ⟨g,0,none⟩ b0).setCell ⟨g,1,none⟩ b1).setCell ⟨g,2,none⟩ b2).setCell ⟨g,3,none⟩ b3).setCell ⟨g,4,none⟩ b4).setCell ⟨g,5,none⟩ b5).setCell ⟨g,6,none⟩ b6).setCell ⟨g,7,none⟩ b7).setCell ⟨g,8,none⟩ b8) :=
 (((((h.set4 b0 b1 b2 b3 hg).setCell (p:=⟨g,4,none⟩) (.inl hg) _).setCell (p:=⟨g,5,none⟩) (.inl hg) _).setCell (p:=⟨g,6,none⟩) (.inl hg) _).setCell (p:=⟨g,7,none⟩) (.inl hg) _).setCell (p:=⟨g,8,none⟩) (.inl hg) _
structure Pc (α:Type) where
 n:Nat
 Cs:(Nat->Prop)->World->α->List Value->Prop
 len:∀ {S:Nat->Prop} {w:World} {x:α} {cs:List Value},Cs S w x cs->cs.length=n
 keep:∀ {S S':Nat->Prop} {w w':World} {x:α} {cs:List Value},(∀g,S g->S' g)->(∀g,S g->w'.heap[g]? = w.heap[g]?)->Cs S w x cs->Cs S' w' x cs
def RowG {α:Type}(P:Pc α)(S:Nat->Prop)(w:World):List α->List Value->Prop
 | [],vs=>vs=[]
 | x::r,vs=>∃cs rest,vs=cs++rest/\P.Cs S w x cs/\RowG P S w r rest
theorem RowG.snoc {α:Type} {P:Pc α} {S:Nat->Prop} {w:World} {x:α} {cs:List Value}(hx:P.Cs S w x cs):(l:List α)->∀vs,RowG P S w l vs->RowG P S w (l++[x]) (vs++cs)
 | [],vs,h=>by
  rw[RowG]at h
  rw[List.nil_append,RowG]
  exact⟨cs,[],by simp[h],hx,by rw[RowG]⟩
 | u::r,vs,h=>by
  rw[RowG]at h
  obtain⟨c',rest,rfl,h1,h2⟩:=h
  rw[List.cons_append,RowG]
  exact⟨c',rest++cs,by simp,h1,RowG.snoc hx r rest h2⟩
theorem RowG.keep {α:Type} {P:Pc α} {S S':Nat->Prop} {w w':World}(hS:∀g,S g->S' g)(hk:∀g,S g->w'.heap[g]? = w.heap[g]?):(l:List α)->∀vs,RowG P S w l vs->RowG P S' w' l vs
 | [],vs,h=>by rw[RowG]at h ⊢;exact h
 | x::r,vs,h=>by
  rw[RowG]at h ⊢
  obtain⟨cs,rest,e,h1,h2⟩:=h
  exact⟨cs,rest,e,P.keep hS hk h1,RowG.keep hS hk r rest h2⟩
def AtG {α:Type}(P:Pc α)(S:Nat->Prop)(w:World):List α->Nat->Nat->Prop
 | [],_,_=>True
 | x::r,g,o=>(∃cs,P.Cs S w x cs/\Lie w g o cs)/\AtG P S w r g (o+P.n)
theorem RowG.lie {α:Type} {P:Pc α} {S:Nat->Prop} {w:World} {g:Nat} :(l:List α)->∀vs o,RowG P S w l vs->Lie w g o vs->AtG P S w l g o
 | [],_,_,_,_=>by rw[AtG];trivial
 | x::r,vs,o,h,hc=>by
  rw[RowG]at h
  obtain⟨cs,rest,rfl,h1,h2⟩:=h
  have hl:=P.len h1
  rw[AtG]
  refine⟨⟨cs,h1,λj u hu=>?_⟩,RowG.lie r rest (o+P.n) h2 λj u hu=>?_⟩
  ·exact hc j u (by rw[List.getElem?_append_left (List.getElem?_eq_some_iff.1 hu).1];exact hu)
  ·rw[show o+P.n+j=o+(P.n+j) by omega]
   exact hc (P.n+j) u (by rw[List.getElem?_append_right (by omega),hl,Nat.add_sub_cancel_left];exact hu)
theorem AtG.keep {α:Type} {P:Pc α} {S S':Nat->Prop} {w w':World}(hS:∀g,S g->S' g)(hk:∀g,S g->w'.heap[g]? = w.heap[g]?):(l:List α)->∀g o,w'.heap[g]? = w.heap[g]?->AtG P S w l g o->AtG P S' w' l g o
 | [],_,_,_,_=>by rw[AtG];trivial
 | x::r,g,o,hg,h=>by
  rw[AtG]at h ⊢
  obtain⟨⟨cs,h1,h2⟩,h3⟩:=h
  exact⟨⟨cs,P.keep hS hk h1,h2.keep hg⟩,AtG.keep hS hk r g (o+P.n) hg h3⟩
theorem AtG.at_ {α:Type} {P:Pc α} {S:Nat->Prop} {w:World} :(l:List α)->∀g o i (hi:i<l.length),AtG P S w l g o->∃cs,P.Cs S w l[i] cs/\Lie w g (o+i*P.n) cs
 | [],_,_,i,hi,_=>absurd hi (by simp)
 | x::r,g,o,0,_,h=>by rw[AtG]at h;simpa using h.1
 | x::r,g,o,i+1,hi,h=>by
  rw[AtG]at h
  have:=AtG.at_ r g (o+P.n) i (by simpa using hi) h.2
  rw[show o+P.n+i*P.n=o+(i+1)*P.n by rw[Nat.succ_mul];omega]at this
  simpa using this
def LstG {α:Type}(P:Pc α)(S:Nat->Prop)(w:World)(l:List α)(A:Option Addr):Prop:=l≠[]->∃g,A=some ⟨g,0,none⟩/\S g/\AtG P S w l g 0
theorem LstG.keep {α:Type} {P:Pc α} {S S':Nat->Prop} {w w':World} {l:List α} {A:Option Addr}(h:LstG P S w l A)(hS:∀g,S g->S' g)(hk:∀g,S g->w'.heap[g]? = w.heap[g]?):LstG P S' w' l A:=λhl=>by
 obtain⟨g,h1,h2,h3⟩:=h hl
 exact⟨g,h1,hS g h2,h3.keep hS hk l g 0 (hk g h2)⟩
def BuiltG {α:Type}(P:Pc α)(B:Nat)(e:TypeId)(w:World)(l:List α)(v:Value):Prop :=
 ∃vs,w.ownsRow B e P.n v l.length vs/\RowG P (λg=>(B<=g/\g<w.heap.size)/\some g≠v.ownBlock) w l vs
theorem BuiltG.nil {α:Type}(P:Pc α)(B:Nat)(e:TypeId)(w:World):BuiltG P B e w [] (.slice none 0 0):=⟨[],World.ownsRow_nil _ _ _ _,by rw[RowG]⟩
theorem BuiltG.chgR {α:Type} {P:Pc α} {b B:Nat} {e:TypeId} {w w':World} {l:List α} {v:Value}(h:BuiltG P B e w l v)(hc:ChR b w w')(hb:b<B):BuiltG P B e w' l v:=by
 obtain⟨vs,h1,h2⟩:=h
 have hs:=hc.size
 exact⟨vs,own_chgR h1 hc hb,RowG.keep (λg hg=>⟨⟨hg.1.1,by have:=hg.1.2;omega⟩,hg.2⟩) (λg hg=>hc.block g hg.1.2 (by have:=hg.1.1;unfold only;omega)) l vs h2⟩
theorem BuiltG.one {α:Type} {P:Pc α} {S:Nat->Prop} {B:Nat} {e:TypeId} {w:World} {x:α} {cs:List Value}(hx:P.Cs S w x cs)(hS:∀g,S g->B<=g/\g<w.heap.size)(hB:B<=w.heap.size)(o:Obj) :
  BuiltG P B e ((w.alloc o).alloc (.cells cs.toArray e)) [x] (.slice (some ⟨w.heap.size+1,0,none⟩) 1 1):=by
 have hl:=P.len hx
 have hnew:((w.alloc o).alloc (.cells cs.toArray e)).heap[w.heap.size+1]? = some (.cells cs.toArray e):=by
  have:=heap_alloc_new (w.alloc o) (.cells cs.toArray e)
  rwa [show(w.alloc o).heap.size=w.heap.size+1 by simp]at this
 refine⟨cs,⟨by simp[hl],.inr ⟨w.heap.size+1,1,cs.toArray,rfl,by omega,hnew,Nat.le_refl _,by unfold maxLen;omega,by simp[hl],by simp[<-hl]⟩⟩,?_⟩
 rw[RowG]
 refine⟨cs,[],by simp,P.keep (λg hg=>?_) (λg hg=>?_) hx,by rw[RowG]⟩
 ·have:=hS g hg
  exact⟨⟨this.1,by simp;omega⟩,λe=>by have e:some g=some (w.heap.size+1):=e;injection e with e;omega⟩
 ·have:=hS g hg
  exact(Below.heap_alloc _ _ _ (by simp;omega)).trans (Below.heap_alloc _ _ _ this.2)
theorem BuiltG.next {α:Type} {P:Pc α} {b B:Nat} {e:TypeId} {w w1 w2 w3:World} {l:List α} {x:α} {v v':Value} {vs cs:List Value}
  (hb:b<B)(hB:B<=w.heap.size)(hown:w.ownsRow B e P.n v l.length vs)(hrow:RowG P (λg=>(B<=g/\g<w.heap.size)/\some g≠v.ownBlock) w l vs)
  (b1:ChR b w w1)(hx:P.Cs (λg=>w.heap.size<=g/\g<w1.heap.size) w1 x cs)(b2:Below w1.heap.size w1 w2)
  (ho:w3.ownsRow B e P.n v' (l.length+1) (vs++cs))(hg:w2.grownBy w3 v.ownBlock)(hat:v'.ownBlock=v.ownBlock\/v'.ownBlock=some w2.heap.size) :
  BuiltG P B e w3 (l++[x]) v':=by
 have hlt:=hown.lt
 have s1:=b1.size
 have s2:=b2.size
 have s3:=hg.size
 have hne:∀g,g<w2.heap.size->some g≠v.ownBlock->some g≠v'.ownBlock:=λg h1 h2=>by
  rcases hat with h|h
  ·rw[h];exact h2
  ·rw[h];intro e;injection e with e;omega
 have hk:∀g,g<w.heap.size->g≠b->some g≠v.ownBlock->w3.heap[g]? = w.heap[g]?:=λg h1 h2 h3 =>
  (hg.block g (by omega) h3).trans ((b2.block g (by omega)).trans (b1.block g h1 h2))
 refine⟨vs++cs,by rw[List.length_append];exact ho,RowG.snoc (P.keep (λg h=>?_) (λg h=>?_) hx) l vs (RowG.keep (λg h=>?_) (λg h=>?_) l vs hrow)⟩
 ·have hn:some g≠v.ownBlock:=λe=>by have:=hlt _ e.symm;omega
  exact⟨⟨by omega,by omega⟩,hne g (by omega) hn⟩
 ·have hn:some g≠v.ownBlock:=λe=>by have:=hlt _ e.symm;omega
  exact(hg.block g (by omega) hn).trans (b2.block g (by omega))
 ·exact⟨⟨h.1.1,by have:=h.1.2;omega⟩,hne g (by have:=h.1.2;omega) h.2⟩
 ·exact hk g h.1.2 (by have:=h.1.1;omega) h.2
theorem BuiltG.lst {α:Type} {P:Pc α} {B:Nat} {e:TypeId} {w:World} {l:List α} {A:Option Addr} {n c:Nat}(h:BuiltG P B e w l (.slice A n c)):n=l.length/\LstG P (λg=>B<=g/\g<w.heap.size) w l A:=by
 obtain⟨vs,h1,h2⟩:=h
 have hc:=λg hg=>h1.cells (g:=g) hg
 have hlt:=h1.lt
 rcases h1.2 with⟨h3,h0⟩|⟨g,cap,cur,h3,_⟩
 ·injection h3 with e1 e2 e3
  subst e1 e2 e3
  have hk:l=[]:=by cases l with|nil=>rfl|cons a b=>simp at h0
  exact⟨by rw[hk];rfl,λh=>absurd hk h⟩
 ·injection h3 with e1 e2 e3
  subst e1 e2 e3
  refine⟨rfl,λh=>⟨g,rfl,⟨(hlt g rfl).1,(hlt g rfl).2⟩,RowG.lie l vs 0 (RowG.keep (λ_ h=>h.1) (λ_ _=>rfl) l vs h2) λj u hu=>?_⟩⟩
  have hadd:(⟨g,0,none⟩:Addr).add j=⟨g,j,none⟩:=by unfold Addr.add;split <;> simp_all
  have:=hc g rfl j u hu
  rw[hadd]at this
  rw[Nat.zero_add];exact this
def GPost {α:Type}(P:Pc α)(Sh:List Value->Prop)(S:Nat->Prop)(b:Nat)(w:World)(o:Option (α × List Tok))(e:Ending)(w':World):Prop :=
 ChR b w w'/\∃cs,Sh cs/\((o=none/\e=.returned (.tuple #[.agg cs.toArray,.bool false])) \/
  ∃x r,o=some (x,r)/\e=.returned (.tuple #[.agg cs.toArray,.bool true])/\P.Cs (λg=>w.heap.size<=g/\g<w'.heap.size) w' x cs/\RdrS S w' b r)
def LPost {α:Type}(P:Pc α)(S:Nat->Prop)(b:Nat)(w:World)(o:Option (List α × List Tok))(e:Ending)(w':World):Prop :=
 ChR b w w'/\∃A m c,((o=none/\e=.returned (.tuple #[.slice A m c,.bool false])) \/
  ∃x r,o=some (x,r)/\e=.returned (.tuple #[.slice A m c,.bool true])/\m=x.length/\LstG P (λg=>w.heap.size<=g/\g<w'.heap.size) w' x A/\RdrS S w' b r)
def GReads {α:Type}(P:Pc α)(Sh:List Value->Prop)(S:Nat->Prop)(b:Nat)(fv k:Nat)(rd:Nat->List Tok->Option (α × List Tok))(f:Nat):Prop :=
 ∀(w:World) (l:List Tok),RdrS S w b l->(∀g,S g->g≠b/\g<w.heap.size)->AllG l->l.length<=100000->3*l.length+k<=f->Calls Tryz.prog fv #[.pointer (some ⟨b,0,none⟩)] w (GPost P Sh S b w (rd f l))
def HeadG {α:Type}(P:Pc α)(nx:List Tok->Bool)(af:List Tok->List Tok)(rd:Nat->List Tok->Option (α × List Tok))(S:Nat->Prop)(b B k f:Nat)(e:TypeId)(l0:List α)(r0:List Tok)(w:World)(gg:Nat)(v:Value)(wr:World):Prop :=
 ∃(l:List Tok) (f':Nat) (done:List α) (A:Option Addr) (c:Nat),gg=l.length/\v=.slice A (l0++done).length c/\AllG l/\l.length+done.length<=r0.length/\3*l.length+k<=f'/\f'<=f/\Hid (RdrS S wr b l) /\
  Hid (manyF nx af rd f r0=(manyF nx af rd f' l).map λy=>(done++y.1,y.2))/\Hid (BuiltG P B e wr (l0++done) (.slice A (l0++done).length c))/\Hid (ChR b w wr)
def pcE:Pc Ex where
 n:=9
 Cs S w e cs:=∃P:Pls,cs=exC e P/\TyA S w (tyE e) P.A/\ExIn S w e P.K P.L
 len:=by rintro S w e cs ⟨P,rfl,-,-⟩;exact exC_length e P
 keep:=by
  rintro S S' w w' e cs hS hk ⟨P,rfl,h2,h3⟩
  exact⟨P,rfl,h2.keep hS hk,ExIn.keep hS hk e _ _ h3⟩
def shE(cs:List Value):Prop:=∃(k:Int)(x:ByteArray)(t:Bool)(K:Int)(X:ByteArray)(Z:Int)(B:Option Addr)(m q:Nat)(KA:Option Addr)(kn kc:Nat)(LA:Option Addr)(ln lc:Nat),
 cs=[.int .i64 k,.string x,.bool t,.int .i64 K,.string X,.int .i64 Z,.slice B m q,.slice KA kn kc,.slice LA ln lc]
theorem rdX_cs {S:Nat->Prop} {w:World} {e:Ex} {cs:List Value} : RdX S w e (.agg cs.toArray)↔pcE.Cs S w e cs:=by
 constructor
 ·rintro⟨P,h1,h2,h3⟩
  injection h1 with h1
  exact⟨P,by simpa using congrArg Array.toList h1,h2,h3⟩
 ·rintro⟨P,rfl,h2,h3⟩
  exact⟨P,rfl,h2,h3⟩
theorem atG_ex {S:Nat->Prop} {w:World} :(l:List Ex)->∀g o,AtG pcE S w l g o↔ExsAt S w l g o
 | [],_,_=>by rw[AtG,ExsAt]
 | e::r,g,o=>by
  rw[AtG,ExsAt,atG_ex r g (o+pcE.n)]
  refine and_congr ⟨?_,?_⟩ Iff.rfl
  ·rintro⟨cs,⟨P,rfl,h2,h3⟩,h1⟩
   exact⟨P,h1,h2,h3⟩
  ·rintro⟨P,h1,h2,h3⟩
   exact⟨_,⟨P,rfl,h2,h3⟩,h1⟩
def alN:Al->Nat|.mk _ vs _=>vs.length
def alC(a:Al)(V:Option Addr)(v:Nat)(P:Pls):List Value:=match a with|.mk c vs b=>[Sx.strV c,.slice V vs.length v]++exC b P
def pcA:Pc Al where
 n:=11
 Cs S w a cs:=∃V,∃v : {v:Nat // alN a<=v},∃P:Pls,cs=alC a V v P/\(match a with|.mk _ vs b=>NmsIn S w vs V/\TyA S w (tyE b) P.A/\ExIn S w b P.K P.L)
 len:=by rintro S w ⟨c,vs,b⟩ cs ⟨V,v,P,rfl,-⟩;simp[alC,exC_length]
 keep:=by
  rintro S S' w w' ⟨c,vs,b⟩ cs hS hk ⟨V,v,P,rfl,h1,h2,h3⟩
  exact⟨V,v,P,rfl,h1.keep hS hk,h2.keep hS hk,ExIn.keep hS hk b _ _ h3⟩
theorem atG_al {S:Nat->Prop} {w:World} :(l:List Al)->∀g o,AtG pcA S w l g o↔AlsIn S w l g o
 | [],_,_=>by rw[AtG,AlsIn]
 | .mk c vs b::r,g,o=>by
  rw[AtG,AlsIn,atG_al r g (o+pcA.n)]
  refine and_congr ⟨?_,?_⟩ Iff.rfl
  ·rintro⟨cs,⟨V,v,P,rfl,h1,h2,h3⟩,h4⟩
   rw[AlIn]
   refine⟨h4 0 _ rfl,⟨V,v,h4 1 _ rfl,h1⟩,P,λj u hu=>?_,h2,h3⟩
   rw[show o+2+j=o+(2+j) by omega]
   exact h4 (2+j) u (by rw[alC,List.getElem?_append_right (by simp)];simpa using hu)
  ·intro h
   rw[AlIn]at h
   obtain⟨h0,⟨V,v,h1,h2⟩,P,h3,h4,h5⟩:=h
   refine⟨_,⟨V,v,P,rfl,h2,h4,h5⟩,λj u hu=>?_⟩
   rw[alC]at hu
   match j,hu with
   | 0,hu=>simp at hu;subst hu;exact h0
   | 1,hu=>simp at hu;subst hu;exact h1
   | j+2,hu =>
    rw[List.getElem?_append_right (by simp)]at hu
    have:=h3 j u (by simpa using hu)
    rwa [show o+2+j=o+(j+2) by omega]at this
def shA(cs:List Value):Prop:=∃(s:ByteArray)(V:Option Addr)(vm vq:Nat)(k:Int)(x:ByteArray)(t:Bool)(K:Int)(X:ByteArray)(Z:Int)(B:Option Addr)(m q:Nat)(KA:Option Addr)(kn kc:Nat)(LA:Option Addr)(ln lc:Nat),
 cs=[.string s,.slice V vm vq,.int .i64 k,.string x,.bool t,.int .i64 K,.string X,.int .i64 Z,.slice B m q,.slice KA kn kc,.slice LA ln lc]
end Go.Proofs.YtknkclefoiohpaaGreatDoor

namespace Go.Proofs.YtknkclefoiohpaaGreatDoor
open Go.RowKit Lx Tx Sx
def pcC:Pc (Nm × Ty) where
 n:=5
 Cs S w c cs:=∃(A:Option Addr) (a:Nat),cs=Sx.strV c.1::tyV c.2 A a/\Args S w c.2 A
 len:=by rintro S w c cs ⟨A,a,rfl,-⟩;rfl
 keep:=by
  rintro S S' w w' c cs hS hk ⟨A,a,rfl,h⟩
  exact⟨A,a,rfl,Args.keep hS hk _ _ h⟩
def shC(cs:List Value):Prop:=∃(s:ByteArray)(K:Int)(X:ByteArray)(Z:Int)(B:Option Addr)(m q:Nat),cs=[.string s,.int .i64 K,.string X,.int .i64 Z,.slice B m q]
def exZl:List Value:=[.int .i64 0,.string ⟨#[]⟩,.bool false,.int .i64 0,.string ⟨#[]⟩,.int .i64 0,.slice none 0 0,.slice none 0 0,.slice none 0 0]
def tyZl:List Value:=[.int .i64 0,.string ⟨#[]⟩,.int .i64 0,.slice none 0 0]
def DeCs(S:Nat->Prop)(w:World):De->List Value->Prop
 | .data n ps l,cs=>∃(V:Option Addr) (v : {v:Nat // ps.length<=v}) (A:Option Addr) (a:Nat),cs=[.int .i64 1,Sx.strV n,.slice V ps.length v,.slice A l.length a]++tyZl++exZl/\NmsIn S w ps V/\LstG pcC S w l A
 | .sig x t,cs=>∃(A:Option Addr) (a:Nat),cs=[.int .i64 2,Sx.strV x,.slice none 0 0,.slice none 0 0]++tyV t A a++exZl/\Args S w t A
 | .bind x e,cs=>∃P:Pls,cs=[.int .i64 3,Sx.strV x,.slice none 0 0,.slice none 0 0]++tyZl++exC e P/\TyA S w (tyE e) P.A/\ExIn S w e P.K P.L
def pcD:Pc De where
 n:=17
 Cs:=DeCs
 len:=by
  intro S w d cs h
  cases d with
  | data n ps l=>obtain⟨V,v,A,a,rfl,-⟩:=h;rfl
  | sig x t=>obtain⟨A,a,rfl,-⟩:=h;rfl
  | bind x e=>obtain⟨P,rfl,-⟩:=h;simp[tyZl,exC_length]
 keep:=by
  intro S S' w w' d cs hS hk h
  cases d with
  | data n ps l=>obtain⟨V,v,A,a,rfl,h1,h2⟩:=h;exact⟨V,v,A,a,rfl,h1.keep hS hk,h2.keep hS hk⟩
  | sig x t=>obtain⟨A,a,rfl,h⟩:=h;exact⟨A,a,rfl,Args.keep hS hk _ _ h⟩
  | bind x e=>obtain⟨P,rfl,h1,h2⟩:=h;exact⟨P,rfl,h1.keep hS hk,ExIn.keep hS hk e _ _ h2⟩
def shD(cs:List Value):Prop:=∃(k0:Int)(s:ByteArray)(V:Option Addr)(vm vq:Nat)(G:Option Addr)(gm gq:Nat)(K0:Int)(X0:ByteArray)(Z0:Int)(B0:Option Addr)(m0 q0:Nat)(k:Int)(x:ByteArray)(t:Bool)(K:Int)(X:ByteArray)(Z:Int)(B:Option Addr)(m q:Nat)(KA:Option Addr)(kn kc:Nat)(LA:Option Addr)(ln lc:Nat),
 cs=[.int .i64 k0,.string s,.slice V vm vq,.slice G gm gq,.int .i64 K0,.string X0,.int .i64 Z0,.slice B0 m0 q0,.int .i64 k,.string x,.bool t,.int .i64 K,.string X,.int .i64 Z,.slice B m q,.slice KA kn kc,.slice LA ln lc]
def conF(l:List Tok):Option ((Nm × Ty) × List Tok) :=
 if(hd l).kind=2 then
  if isHd l.tail 6 [58]=true then(typ l.tail.tail).map λy=>(((hd l).text,y.1),y.2) else none
 else none
theorem rdCon_eq(l:List Tok):rdCon l=conF l:=by
 rw[rdCon,conF,tok1_any 2 (by decide)]
 by_cases h:(hd l).kind=2
 ·simp only[if_pos h]
  rw[show eat pCol l.tail=if isHd l.tail 6 [58]=true then some l.tail.tail else none from eat_isHd 6 (by decide) [58] _]
  by_cases h1:isHd l.tail 6 [58]=true
  ·simp only[if_pos h1]
  ·simp only[if_neg h1]
 ·simp only[if_neg h]
def dataF(l:List Tok):Option (De × List Tok) :=
 if(hd l).kind=2 then(brF (λ_=>rdCon) ((vars l.tail).2.tail.length+1) (vars l.tail).2).map λy=>(.data (hd l).text (vars l.tail).1 y.1,y.2) else none
theorem rdData_eq(l:List Tok):rdData l=dataF l:=by
 rw[rdData,dataF,tok1_any 2 (by decide)]
 by_cases h:(hd l).kind=2
 ·simp only[if_pos h,eat_opn,brF]
  by_cases h2:isHd (vars l.tail).2 6 [123]=true
  ·simp only[if_pos h2,eat_cls]
   by_cases h3:isHd (vars l.tail).2.tail 6 [125]=true
   ·simp only[if_pos h3];rfl
   ·simp only[if_neg h3,Sx.sep,sep_sep]
    cases sepM (λ_=>rdCon) ((vars l.tail).2.tail.length+1) (vars l.tail).2.tail with
    | none=>rfl
    | some z =>
     simp only
     by_cases h4:isHd z.2 6 [125]=true
     ·simp only[if_pos h4];rfl
     ·simp only[if_neg h4];rfl
  ·simp only[if_neg h2];rfl
 ·simp only[if_neg h]
def declF(l:List Tok):Option (De × List Tok) :=
 if isHd l 3 wData=true then rdData l.tail
 else if(hd l).kind=1 then
  if isHd l.tail 6 [58]=true then(typ l.tail.tail).map λy=>(.sig (hd l).text y.1,y.2)
  else if isHd l.tail 6 [61]=true then(rdE (enoughE l.tail.tail) l.tail.tail).map λy=>(.bind (hd l).text y.1,y.2)
  else none
 else none
theorem rdDecl_eq(l:List Tok):rdDecl l=declF l:=by
 rw[rdDecl,declF,show eat (isKey · wData) l=if isHd l 3 wData=true then some l.tail else none from eat_isHd 3 (by decide) wData l]
 by_cases h:isHd l 3 wData=true
 ·simp only[if_pos h]
 ·simp only[if_neg h]
  rw[tok1_any 1 (by decide)]
  by_cases h1:(hd l).kind=1
  ·simp only[if_pos h1,show eat pCol l.tail=if isHd l.tail 6 [58]=true then some l.tail.tail else none from eat_isHd 6 (by decide) [58] _]
   by_cases h2:isHd l.tail 6 [58]=true
   ·simp only[if_pos h2]
   ·simp only[if_neg h2,show eat pEq l.tail=if isHd l.tail 6 [61]=true then some l.tail.tail else none from eat_isHd 6 (by decide) [61] _]
    by_cases h3:isHd l.tail 6 [61]=true
    ·simp only[if_pos h3]
    ·simp only[if_neg h3]
  ·simp only[if_neg h1]
end Go.Proofs.YtknkclefoiohpaaGreatDoor

namespace Go.Proofs.YtknkclefoiohpaaGreatDoor
open Go.RowKit Lx Tx Sx
theorem nx_atom(S:Nat->Prop)(b:Nat)(l:List Tok)(w:World)(h:RdrS S w b l)(hS:∀g,S g->g≠b/\g<w.heap.size)(hl:l.length<=100000) :
  Calls Tryz.prog 141 #[.pointer (some ⟨b,0,none⟩)] w λe w'=>e=.returned (.bool (atomEB l))/\RdrS S w' b (if atomEB l=true then id l else l)/\ChR b w w':=by
 refine(sx_atAtom S b l w h (λg hg=>(hS g hg).2) hl).mono ?_
 rintro e w' ⟨rfl,hb⟩
 refine⟨rfl,?_,ChR.of_below hb⟩
 have:(if atomEB l=true then id l else l)=l:=by split <;> rfl
 rw[this]
 exact h.below hb (λg hg=>(hS g hg).2)
theorem nx_atom_af(l:List Tok)(hG:AllG l)(_:atomEB l=true):AllG (id l)/\(id l).length<=l.length/\3*(id l).length+1+1<=3*l.length+2:=⟨hG,Nat.le_refl _,Nat.le_refl _⟩
theorem nx_sep_af(l:List Tok)(hG:AllG l)(h:semB l=true):AllG l.tail/\l.tail.length<=l.length/\3*l.tail.length+0+1<=3*l.length+1:=by
 obtain⟨t0,r,e,-,-⟩:=isHd_ne l 6 [59] (by decide) h
 subst e
 exact⟨AllG.tail' hG,by simp,by simp <;> omega⟩
theorem LPost.pre {α:Type} {P:Pc α} {S:Nat->Prop} {b:Nat} {w w0:World} {o:Option (List α × List Tok)} {e:Ending} {w':World}(c:ChR b w w0)(h:LPost P S b w0 o e w'):LPost P S b w o e w':=by
 obtain⟨h1,A,m,d,h⟩:=h
 refine⟨c.trans h1,A,m,d,?_⟩
 rcases h with h|⟨x,r,h2,h3,h4,h5,h6⟩
 ·exact .inl h
 ·exact .inr ⟨x,r,h2,h3,h4,h5.keep (λg hg=>⟨Nat.le_trans c.size hg.1,hg.2⟩) (λ_ _=>rfl),h6⟩
end Go.Proofs.YtknkclefoiohpaaGreatDoor

namespace Go.Proofs.YtknkclefoiohpaaGreatDoor
open Go.RowKit Lx Tx Sx
def brG {α:Type}(rd:Nat->List Tok->Option (α × List Tok))(f:Nat)(r:List Tok):Option (List α × List Tok) :=
 if isHd r 6 [125]=true then some ([],r.tail)
 else
  match sepM rd f r with
  | none=>none
  | some y=>if isHd y.2 6 [125]=true then some (y.1,y.2.tail) else none
theorem brF_eq {α:Type}(rd:Nat->List Tok->Option (α × List Tok))(f:Nat)(l:List Tok):brF rd f l=if isHd l 6 [123]=true then brG rd f l.tail else none:=rfl
theorem many_len {α:Type} {nx:List Tok->Bool} {af:List Tok->List Tok} {rd:Nat->List Tok->Option (α × List Tok)}(haf:∀l,AllG l->nx l=true->AllG (af l)/\(af l).length<=l.length)
  (hrd:∀(f1:Nat)(l:List Tok)(x:α)(r:List Tok),AllG l->rd f1 l=some (x,r)->AllG r/\r.length<l.length)(f:Nat):∀(l:List Tok)(x:List α)(r:List Tok),AllG l->manyF nx af rd f l=some (x,r)->AllG r/\r.length<=l.length:=by
 induction f with
 | zero=>intro l x r _ h;rw[manyF]at h;cases h
 | succ f ih =>
  intro l x r hG h
  by_cases hn:nx l=true
  ·obtain⟨g1,l1⟩:=haf l hG hn
   cases ho:rd f (af l) with
   | none=>rw[many_no f l hn ho]at h;cases h
   | some y =>
    obtain⟨p,r1⟩:=y
    rw[many_yes f l hn p r1 ho]at h
    obtain⟨g2,l2⟩:=hrd f _ p r1 g1 ho
    cases hm:manyF nx af rd f r1 with
    | none=>rw[hm]at h;cases h
    | some z =>
     obtain⟨xs,r2⟩:=z
     rw[hm]at h
     simp only[Option.map_some,Option.some.injEq,Prod.mk.injEq]at h
     obtain⟨rfl,rfl⟩:=h
     obtain⟨g3,l3⟩:=ih r1 xs r2 g2 hm
     exact⟨g3,by omega⟩
  ·rw[many_end f l (by simpa using hn)]at h
   simp only[Option.some.injEq,Prod.mk.injEq]at h
   obtain⟨rfl,rfl⟩:=h
   exact⟨hG,Nat.le_refl _⟩
theorem sem_af(l:List Tok)(hG:AllG l)(h:semB l=true):AllG l.tail/\l.tail.length<=l.length:=by
 obtain⟨t0,r,e,-,-⟩:=isHd_ne l 6 [59] (by decide) h
 subst e
 exact⟨AllG.tail' hG,by simp⟩
theorem sep_len {α:Type} {rd:Nat->List Tok->Option (α × List Tok)}(hrd:∀(f1:Nat)(l:List Tok)(x:α)(r:List Tok),AllG l->rd f1 l=some (x,r)->AllG r/\r.length<l.length)(f:Nat)(l:List Tok)(x:List α)(r:List Tok)
  (hG:AllG l)(h:sepM rd f l=some (x,r)):AllG r/\r.length<l.length:=by
 rw[sepM]at h
 cases ho:rd f l with
 | none=>rw[ho]at h;cases h
 | some y =>
  obtain⟨p,r1⟩:=y
  rw[ho]at h
  simp only at h
  obtain⟨g1,l1⟩:=hrd f l p r1 hG ho
  cases hm:manyF semB List.tail rd f r1 with
  | none=>rw[hm]at h;cases h
  | some z =>
   obtain⟨xs,r2⟩:=z
   rw[hm]at h
   simp only[Option.map_some,Option.some.injEq,Prod.mk.injEq]at h
   obtain⟨rfl,rfl⟩:=h
   obtain⟨g3,l3⟩:=many_len sem_af hrd f r1 xs r2 g1 hm
   exact⟨g3,by omega⟩
theorem br_len {α:Type} {rd:Nat->List Tok->Option (α × List Tok)}(hrd:∀(f1:Nat)(l:List Tok)(x:α)(r:List Tok),AllG l->rd f1 l=some (x,r)->AllG r/\r.length<l.length)(f:Nat)(l:List Tok)(x:List α)(r:List Tok)
  (hG:AllG l)(h:brF rd f l=some (x,r)):AllG r/\r.length<l.length:=by
 rw[brF_eq]at h
 by_cases h1:isHd l 6 [123]=true
 ·rw[if_pos h1,brG]at h
  obtain⟨t0,r0,e,-,-⟩:=isHd_ne l 6 [123] (by decide) h1
  subst e
  rw[List.tail_cons]at h
  have hG1:AllG r0:=AllG.tail' hG
  by_cases h2:isHd r0 6 [125]=true
  ·rw[if_pos h2]at h
   obtain⟨t1,r1,e,-,-⟩:=isHd_ne r0 6 [125] (by decide) h2
   subst e
   simp only[List.tail_cons,Option.some.injEq,Prod.mk.injEq]at h
   obtain⟨rfl,rfl⟩:=h
   exact⟨AllG.tail' hG1,by simp;omega⟩
  ·rw[if_neg h2]at h
   cases ho:sepM rd f r0 with
   | none=>rw[ho]at h;cases h
   | some y =>
    obtain⟨xs,r1⟩:=y
    rw[ho]at h
    simp only at h
    obtain⟨g1,l1⟩:=sep_len hrd f r0 xs r1 hG1 ho
    by_cases h3:isHd r1 6 [125]=true
    ·rw[if_pos h3]at h
     obtain⟨t1,r2,e,-,-⟩:=isHd_ne r1 6 [125] (by decide) h3
     subst e
     simp only[List.tail_cons,Option.some.injEq,Prod.mk.injEq]at h
     obtain⟨rfl,rfl⟩:=h
     exact⟨AllG.tail' g1,by simp at l1 ⊢;omega⟩
    ·rw[if_neg h3]at h;cases h
 ·rw[if_neg h1]at h;cases h
end Go.Proofs.YtknkclefoiohpaaGreatDoor

namespace Go.Proofs.YtknkclefoiohpaaGreatDoor
open Go.RowKit Lx Tx Sx
theorem lie_blk {w:World} {g:Nat} {cs:List Value} {t:TypeId}(h:Blk w g t cs.toArray):Lie w g 0 cs:=by
 intro j v hv
 have h0:=h.cell j
 rw[Nat.zero_add]
 rw[h0]
 simpa using hv
theorem kid_new {S S':Nat->Prop} {w w':World} {y:Ex} {cs:List Value} {g:Nat} {t:TypeId}(hx:pcE.Cs S w y cs)(hS:∀k,S k->S' k)(hk:∀k,S k->w'.heap[k]? = w.heap[k]?)(hl:Blk w' g t cs.toArray) :
  ∃P:Pls,Lie w' g 0 (exC y P)/\TyA S' w' (tyE y) P.A/\ExIn S' w' y P.K P.L:=by
 obtain⟨P,rfl,h2,h3⟩:=pcE.keep hS hk hx
 exact⟨P,lie_blk hl,h2,h3⟩
theorem kids_new {S S':Nat->Prop} {w w':World} {y z:Ex} {cs ds:List Value} {g:Nat} {t:TypeId}(hx:pcE.Cs S w y cs)(hz:pcE.Cs S w z ds)(hS:∀k,S k->S' k)(hk:∀k,S k->w'.heap[k]? = w.heap[k]?)(hl:Blk w' g t (cs++ds).toArray) :
  (∃P:Pls,Lie w' g 0 (exC y P)/\TyA S' w' (tyE y) P.A/\ExIn S' w' y P.K P.L)/\∃P:Pls,Lie w' g 9 (exC z P)/\TyA S' w' (tyE z) P.A/\ExIn S' w' z P.K P.L:=by
 have hl1:=pcE.len hx
 have hL:=lie_blk hl
 obtain⟨P,rfl,h2,h3⟩:=pcE.keep hS hk hx
 obtain⟨Q,rfl,h4,h5⟩:=pcE.keep hS hk hz
 refine⟨⟨P,λj v hv=>?_,h2,h3⟩,Q,λj v hv=>?_,h4,h5⟩
 ·exact hL j v (by rw[List.getElem?_append_left (List.getElem?_eq_some_iff.1 hv).1];exact hv)
 ·have:=hL (9+j) v (by rw[List.getElem?_append_right (by rw[exC_length];omega),exC_length,Nat.add_sub_cancel_left];exact hv)
  rwa [Nat.zero_add]at this
theorem two_new(W:World)(o o2:Obj)(k:Nat)(hk:k<W.heap.size):((W.alloc o).alloc o2).heap[k]? = W.heap[k]?:=(Below.heap_alloc _ _ _ (by simp;omega)).trans (Below.heap_alloc _ _ _ hk)
theorem two_top(W:World)(o o2:Obj)(n:Nat)(hn:W.heap.size=n):((W.alloc o).alloc o2).heap[n+1]? = some o2:=by
 have:=heap_alloc_new (W.alloc o) o2
 rwa [show(W.alloc o).heap.size=n+1 by simp[hn]]at this
theorem size_set9(w:World)(g:Nat)(b0 b1 b2 b3 b4 b5 b6 b7 b8:Value) :
  (((((((((w.setCell ⟨g,0,none⟩ b0).setCell ⟨g,1,none⟩ b1).setCell ⟨g,2,none⟩ b2).setCell ⟨g,3,none⟩ b3).setCell ⟨g,4,none⟩ b4).setCell ⟨g,5,none⟩ b5).setCell ⟨g,6,none⟩ b6).setCell ⟨g,7,none⟩ b7).setCell ⟨g,8,none⟩ b8).heap.size=w.heap.size:=by simp
end Go.Proofs.YtknkclefoiohpaaGreatDoor

namespace Go.Proofs.YtknkclefoiohpaaGreatDoor
open Go.RowKit Lx Tx Sx
set_option maxRecDepth 100000
theorem blk_set5 {w:World} {g:Nat} {t:TypeId} {a0 a1 a2 a3 a4:Value}(b0 b1 b2 b3 b4:Value)(h:Blk w g t #[a0,a1,a2,a3,a4]):Blk (((((w.setCell ⟨g,0,none⟩ b0).setCell ⟨g,1,none⟩ b1).setCell ⟨g,2,none⟩ b2).setCell ⟨g,3,none⟩ b3).setCell ⟨g,4,none⟩ b4) g t #[b0,b1,b2,b3,b4]:=by
 have s:∀(W:World) (cs:Array Value) (i:Nat) (b:Value),Blk W g t cs->Blk (W.setCell ⟨g,i,none⟩ b) g t (cs.setIfInBounds i b):=λW cs i b h=>heap_setCell_same W g i _ _ b h
 have hh:=(s _ _ 4 b4 (s _ _ 3 b3 (s _ _ 2 b2 (s _ _ 1 b1 (s _ _ 0 b0 h)))))
 have e:((((((#[a0,a1,a2,a3,a4]:Array Value).setIfInBounds 0 b0).setIfInBounds 1 b1).setIfInBounds 2 b2).setIfInBounds 3 b3).setIfInBounds 4 b4)=#[b0,b1,b2,b3,b4]:=by simp
 rw[e]at hh
 exact hh
theorem ChR.set5 {bb:Nat} {w w':World} {g:Nat}(h:ChR bb w w')(b0 b1 b2 b3 b4:Value)(hg:w.heap.size<=g):ChR bb w (((((w'.setCell ⟨g,0,none⟩ b0).setCell ⟨g,1,none⟩ b1).setCell ⟨g,2,none⟩ b2).setCell ⟨g,3,none⟩ b3).setCell ⟨g,4,none⟩ b4) :=
 (((((h.setCell (p:=⟨g,0,none⟩) (.inl hg) b0).setCell (p:=⟨g,1,none⟩) (.inl hg) b1).setCell (p:=⟨g,2,none⟩) (.inl hg) b2).setCell (p:=⟨g,3,none⟩) (.inl hg) b3).setCell (p:=⟨g,4,none⟩) (.inl hg) b4)
theorem set5_far(w:World)(g k:Nat)(b0 b1 b2 b3 b4:Value)(hk:k≠g):(((((w.setCell ⟨g,0,none⟩ b0).setCell ⟨g,1,none⟩ b1).setCell ⟨g,2,none⟩ b2).setCell ⟨g,3,none⟩ b3).setCell ⟨g,4,none⟩ b4).heap[k]? = w.heap[k]?:=by
 rw[Below.heap_setCell _ ⟨g,4,none⟩ _ k hk,Below.heap_setCell _ ⟨g,3,none⟩ _ k hk,Below.heap_setCell _ ⟨g,2,none⟩ _ k hk,Below.heap_setCell _ ⟨g,1,none⟩ _ k hk,Below.heap_setCell _ ⟨g,0,none⟩ _ k hk]
theorem size_set5(w:World)(g:Nat)(b0 b1 b2 b3 b4:Value):(((((w.setCell ⟨g,0,none⟩ b0).setCell ⟨g,1,none⟩ b1).setCell ⟨g,2,none⟩ b2).setCell ⟨g,3,none⟩ b3).setCell ⟨g,4,none⟩ b4).heap.size=w.heap.size:=by simp
theorem blk_facts5 {w:World} {g:Nat} {t:TypeId} {a0 a1 a2 a3 a4:Value}(h:Blk w g t #[a0,a1,a2,a3,a4]):(w.cell? ⟨g,0,none⟩=some a0/\w.cell? ⟨g,1,none⟩=some a1/\w.cell? ⟨g,2,none⟩=some a2/\w.cell? ⟨g,3,none⟩=some a3/\w.cell? ⟨g,4,none⟩=some a4)/\(w.frozen? ⟨g,0,none⟩=false/\w.frozen? ⟨g,1,none⟩=false/\w.frozen? ⟨g,2,none⟩=false/\w.frozen? ⟨g,3,none⟩=false/\w.frozen? ⟨g,4,none⟩=false)/\g<w.heap.size :=
 ⟨⟨h.cell 0,h.cell 1,h.cell 2,h.cell 3,h.cell 4⟩,⟨h.frozen 0,h.frozen 1,h.frozen 2,h.frozen 3,h.frozen 4⟩,h.lt⟩
theorem blk_facts9 {w:World} {g:Nat} {t:TypeId} {a0 a1 a2 a3 a4 a5 a6 a7 a8:Value}(h:Blk w g t #[a0,a1,a2,a3,a4,a5,a6,a7,a8]):(w.cell? ⟨g,0,none⟩=some a0/\w.cell? ⟨g,1,none⟩=some a1/\w.cell? ⟨g,2,none⟩=some a2/\w.cell? ⟨g,3,none⟩=some a3/\w.cell? ⟨g,4,none⟩=some a4/\w.cell? ⟨g,5,none⟩=some a5/\w.cell? ⟨g,6,none⟩=some a6/\w.cell? ⟨g,7,none⟩=some a7/\w.cell? ⟨g,8,none⟩=some a8)/\(w.frozen? ⟨g,0,none⟩=false/\w.frozen? ⟨g,1,none⟩=false/\w.frozen? ⟨g,2,none⟩=false/\w.frozen? ⟨g,3,none⟩=false/\w.frozen? ⟨g,4,none⟩=false/\w.frozen? ⟨g,5,none⟩=false/\w.frozen? ⟨g,6,none⟩=false/\w.frozen? ⟨g,7,none⟩=false/\w.frozen? ⟨g,8,none⟩=false)/\g<w.heap.size :=
 ⟨⟨h.cell 0,h.cell 1,h.cell 2,h.cell 3,h.cell 4,h.cell 5,h.cell 6,h.cell 7,h.cell 8⟩,⟨h.frozen 0,h.frozen 1,h.frozen 2,h.frozen 3,h.frozen 4,h.frozen 5,h.frozen 6,h.frozen 7,h.frozen 8⟩,h.lt⟩
theorem blk_set11 {w:World} {g:Nat} {t:TypeId} {a0 a1 a2 a3 a4 a5 a6 a7 a8 a9 a10:Value}(b0 b1 b2 b3 b4 b5 b6 b7 b8 b9 b10:Value)(h:Blk w g t #[a0,a1,a2,a3,a4,a5,a6,a7,a8,a9,a10]):Blk (((((((((((w.setCell ⟨g,0,none⟩ b0).setCell ⟨g,1,none⟩ b1).setCell ⟨g,2,none⟩ b2).setCell ⟨g,3,none⟩ b3).setCell ⟨g,4,none⟩ b4).setCell ⟨g,5,none⟩ b5).setCell ⟨g,6,none⟩ b6).setCell ⟨g,7,none⟩ b7).setCell ⟨g,8,none⟩ b8).setCell ⟨g,9,none⟩ b9).setCell ⟨g,10,none⟩ b10) g t #[b0,b1,b2,b3,b4,b5,b6,b7,b8,b9,b10]:=by
 have s:∀(W:World) (cs:Array Value) (i:Nat) (b:Value),Blk W g t cs->Blk (W.setCell ⟨g,i,none⟩ b) g t (cs.setIfInBounds i b):=λW cs i b h=>heap_setCell_same W g i _ _ b h
 have hh:=(s _ _ 10 b10 (s _ _ 9 b9 (s _ _ 8 b8 (s _ _ 7 b7 (s _ _ 6 b6 (s _ _ 5 b5 (s _ _ 4 b4 (s _ _ 3 b3 (s _ _ 2 b2 (s _ _ 1 b1 (s _ _ 0 b0 h)))))))))))
 have e:((((((((((((#[a0,a1,a2,a3,a4,a5,a6,a7,a8,a9,a10]:Array Value).setIfInBounds 0 b0).setIfInBounds 1 b1).setIfInBounds 2 b2).setIfInBounds 3 b3).setIfInBounds 4 b4).setIfInBounds 5 b5).setIfInBounds 6 b6).setIfInBounds 7 b7).setIfInBounds 8 b8).setIfInBounds 9 b9).setIfInBounds 10 b10)=#[b0,b1,b2,b3,b4,b5,b6,b7,b8,b9,b10]:=by simp
 rw[e]at hh
 exact hh
theorem ChR.set11 {bb:Nat} {w w':World} {g:Nat}(h:ChR bb w w')(b0 b1 b2 b3 b4 b5 b6 b7 b8 b9 b10:Value)(hg:w.heap.size<=g):ChR bb w (((((((((((w'.setCell ⟨g,0,none⟩ b0).setCell ⟨g,1,none⟩ b1).setCell ⟨g,2,none⟩ b2).setCell ⟨g,3,none⟩ b3).setCell ⟨g,4,none⟩ b4).setCell ⟨g,5,none⟩ b5).setCell ⟨g,6,none⟩ b6).setCell ⟨g,7,none⟩ b7).setCell ⟨g,8,none⟩ b8).setCell ⟨g,9,none⟩ b9).setCell ⟨g,10,none⟩ b10) :=
 (((((((((((h.setCell (p:=⟨g,0,none⟩) (.inl hg) b0).setCell (p:=⟨g,1,none⟩) (.inl hg) b1).setCell (p:=⟨g,2,none⟩) (.inl hg) b2).setCell (p:=⟨g,3,none⟩) (.inl hg) b3).setCell (p:=⟨g,4,none⟩) (.inl hg) b4).setCell (p:=⟨g,5,none⟩) (.inl hg) b5).setCell (p:=⟨g,6,none⟩) (.inl hg) b6).setCell (p:=⟨g,7,none⟩) (.inl hg) b7).setCell (p:=⟨g,8,none⟩) (.inl hg) b8).setCell (p:=⟨g,9,none⟩) (.inl hg) b9).setCell (p:=⟨g,10,none⟩) (.inl hg) b10)
theorem set11_far(w:World)(g k:Nat)(b0 b1 b2 b3 b4 b5 b6 b7 b8 b9 b10:Value)(hk:k≠g):(((((((((((w.setCell ⟨g,0,none⟩ b0).setCell ⟨g,1,none⟩ b1).setCell ⟨g,2,none⟩ b2).setCell ⟨g,3,none⟩ b3).setCell ⟨g,4,none⟩ b4).setCell ⟨g,5,none⟩ b5).setCell ⟨g,6,none⟩ b6).setCell ⟨g,7,none⟩ b7).setCell ⟨g,8,none⟩ b8).setCell ⟨g,9,none⟩ b9).setCell ⟨g,10,none⟩ b10).heap[k]? = w.heap[k]?:=by
 rw[Below.heap_setCell _ ⟨g,10,none⟩ _ k hk,Below.heap_setCell _ ⟨g,9,none⟩ _ k hk,Below.heap_setCell _ ⟨g,8,none⟩ _ k hk,Below.heap_setCell _ ⟨g,7,none⟩ _ k hk,Below.heap_setCell _ ⟨g,6,none⟩ _ k hk,Below.heap_setCell _ ⟨g,5,none⟩ _ k hk,Below.heap_setCell _ ⟨g,4,none⟩ _ k hk,Below.heap_setCell _ ⟨g,3,none⟩ _ k hk,Below.heap_setCell _ ⟨g,2,none⟩ _ k hk,Below.heap_setCell _ ⟨g,1,none⟩ _ k hk,Below.heap_setCell _ ⟨g,0,none⟩ _ k hk]
theorem size_set11(w:World)(g:Nat)(b0 b1 b2 b3 b4 b5 b6 b7 b8 b9 b10:Value):(((((((((((w.setCell ⟨g,0,none⟩ b0).setCell ⟨g,1,none⟩ b1).setCell ⟨g,2,none⟩ b2).setCell ⟨g,3,none⟩ b3).setCell ⟨g,4,none⟩ b4).setCell ⟨g,5,none⟩ b5).setCell ⟨g,6,none⟩ b6).setCell ⟨g,7,none⟩ b7).setCell ⟨g,8,none⟩ b8).setCell ⟨g,9,none⟩ b9).setCell ⟨g,10,none⟩ b10).heap.size=w.heap.size:=by simp
theorem blk_facts11 {w:World} {g:Nat} {t:TypeId} {a0 a1 a2 a3 a4 a5 a6 a7 a8 a9 a10:Value}(h:Blk w g t #[a0,a1,a2,a3,a4,a5,a6,a7,a8,a9,a10]):(w.cell? ⟨g,0,none⟩=some a0/\w.cell? ⟨g,1,none⟩=some a1/\w.cell? ⟨g,2,none⟩=some a2/\w.cell? ⟨g,3,none⟩=some a3/\w.cell? ⟨g,4,none⟩=some a4/\w.cell? ⟨g,5,none⟩=some a5/\w.cell? ⟨g,6,none⟩=some a6/\w.cell? ⟨g,7,none⟩=some a7/\w.cell? ⟨g,8,none⟩=some a8/\w.cell? ⟨g,9,none⟩=some a9/\w.cell? ⟨g,10,none⟩=some a10)/\(w.frozen? ⟨g,0,none⟩=false/\w.frozen? ⟨g,1,none⟩=false/\w.frozen? ⟨g,2,none⟩=false/\w.frozen? ⟨g,3,none⟩=false/\w.frozen? ⟨g,4,none⟩=false/\w.frozen? ⟨g,5,none⟩=false/\w.frozen? ⟨g,6,none⟩=false/\w.frozen? ⟨g,7,none⟩=false/\w.frozen? ⟨g,8,none⟩=false/\w.frozen? ⟨g,9,none⟩=false/\w.frozen? ⟨g,10,none⟩=false)/\g<w.heap.size :=
 ⟨⟨h.cell 0,h.cell 1,h.cell 2,h.cell 3,h.cell 4,h.cell 5,h.cell 6,h.cell 7,h.cell 8,h.cell 9,h.cell 10⟩,⟨h.frozen 0,h.frozen 1,h.frozen 2,h.frozen 3,h.frozen 4,h.frozen 5,h.frozen 6,h.frozen 7,h.frozen 8,h.frozen 9,h.frozen 10⟩,h.lt⟩
theorem blk_facts17 {w:World} {g:Nat} {t:TypeId} {a0 a1 a2 a3 a4 a5 a6 a7 a8 a9 a10 a11 a12 a13 a14 a15 a16:Value}(h:Blk w g t #[a0,a1,a2,a3,a4,a5,a6,a7,a8,a9,a10,a11,a12,a13,a14,a15,a16]):(w.cell? ⟨g,0,none⟩=some a0/\w.cell? ⟨g,1,none⟩=some a1/\w.cell? ⟨g,2,none⟩=some a2/\w.cell? ⟨g,3,none⟩=some a3/\w.cell? ⟨g,4,none⟩=some a4/\w.cell? ⟨g,5,none⟩=some a5/\w.cell? ⟨g,6,none⟩=some a6/\w.cell? ⟨g,7,none⟩=some a7/\w.cell? ⟨g,8,none⟩=some a8/\w.cell? ⟨g,9,none⟩=some a9/\w.cell? ⟨g,10,none⟩=some a10/\w.cell? ⟨g,11,none⟩=some a11/\w.cell? ⟨g,12,none⟩=some a12/\w.cell? ⟨g,13,none⟩=some a13/\w.cell? ⟨g,14,none⟩=some a14/\w.cell? ⟨g,15,none⟩=some a15/\w.cell? ⟨g,16,none⟩=some a16)/\(w.frozen? ⟨g,0,none⟩=false/\w.frozen? ⟨g,1,none⟩=false/\w.frozen? ⟨g,2,none⟩=false/\w.frozen? ⟨g,3,none⟩=false/\w.frozen? ⟨g,4,none⟩=false/\w.frozen? ⟨g,5,none⟩=false/\w.frozen? ⟨g,6,none⟩=false/\w.frozen? ⟨g,7,none⟩=false/\w.frozen? ⟨g,8,none⟩=false/\w.frozen? ⟨g,9,none⟩=false/\w.frozen? ⟨g,10,none⟩=false/\w.frozen? ⟨g,11,none⟩=false/\w.frozen? ⟨g,12,none⟩=false/\w.frozen? ⟨g,13,none⟩=false/\w.frozen? ⟨g,14,none⟩=false/\w.frozen? ⟨g,15,none⟩=false/\w.frozen? ⟨g,16,none⟩=false)/\g<w.heap.size :=
 ⟨⟨h.cell 0,h.cell 1,h.cell 2,h.cell 3,h.cell 4,h.cell 5,h.cell 6,h.cell 7,h.cell 8,h.cell 9,h.cell 10,h.cell 11,h.cell 12,h.cell 13,h.cell 14,h.cell 15,h.cell 16⟩,⟨h.frozen 0,h.frozen 1,h.frozen 2,h.frozen 3,h.frozen 4,h.frozen 5,h.frozen 6,h.frozen 7,h.frozen 8,h.frozen 9,h.frozen 10,h.frozen 11,h.frozen 12,h.frozen 13,h.frozen 14,h.frozen 15,h.frozen 16⟩,h.lt⟩
end Go.Proofs.YtknkclefoiohpaaGreatDoor

namespace Go.Proofs.YtknkclefoiohpaaGreatDoor
open Go.RowKit Lx Tx Sx
set_option maxRecDepth 100000
theorem wt_pos(e:Ex):1<=e.wt:=by
 induction e using Ex.rec (motive_2:=λ_=>True) (motive_3:=λ_=>True) <;> first|trivial|(simp only[Ex.wt];omega)
theorem rdE_len(f1:Nat)(l:List Tok)(x:Ex)(r:List Tok)(hG:AllG l)(h:rdE f1 l=some (x,r)):AllG r/\r.length<l.length:=by
 obtain⟨-,h1,h2⟩:=(rd_facts f1).1 l x r hG h
 have:=wt_pos x
 exact⟨h1,by omega⟩
def parH(y:Ex):Option (Ty × List Tok)->Option (Ex × List Tok)
 | none=>none
 | some z=>if isHd z.2 6 [41]=true then some (.ann y z.1,z.2.tail) else none
def parG(y:Ex)(r:List Tok):Option (Ex × List Tok) :=
 if isHd r 6 [58]=true then parH y (typ r.tail)
 else if isHd r 6 [41]=true then some (y,r.tail) else none
theorem parF_eq(f:Nat)(l:List Tok):parF f l=match rdE f l with|none=>none|some y=>parG y.1 y.2:=by
 rw[parF]
 cases rdE f l with
 | none=>rfl
 | some y =>
  simp only[parG]
  by_cases h:isHd y.2 6 [58]=true
  ·simp only[if_pos h]
   cases typ y.2.tail <;> rfl
  ·simp only[if_neg h]
set_option maxHeartbeats 6400000 in
theorem sx_inPar(f:Nat)(S:Nat->Prop)(b:Nat)(l:List Tok)(w:World)(h:RdrS S w b l)(hS:∀g,S g->g≠b/\g<w.heap.size)(hG:AllG l)(hl:l.length<=100000)(hf:3*l.length+3<=f)
  (IH:GReads pcE shE S b 42 3 rdE f) :
  Calls Tryz.prog 170 #[.pointer (some ⟨b,0,none⟩)] w (GPost pcE shE S b w (parF f l)):=by
 have hbl:=h.lt
 have hE:=IH (w.alloc (.cells exZ 39)) l (h.alloc _ (λg hg=>(hS g hg).2)) (λg hg=>⟨(hS g hg).1,by have:=(hS g hg).2;simp;omega⟩) hG hl hf
 obtain⟨O,hO⟩:∃O,rdE f l=O:=⟨_,rfl⟩
 rw[hO]at hE
 obtain⟨M,hM⟩:∃M,parF f l=M:=⟨_,rfl⟩
 rw[hM]
 rw[parF_eq,hO]at hM
 unfold exZ at hE
 have HE:=hidE hE
 have HM0:=hidE hM
 have HO:=hidE hO
 have HS:=hidE hS
 have HG:=hidE hG
 clear h hS hE hM hO hG IH hf
 go_enter Tryz.func170,Tryz.ntmps170
 go_wp2_with fail
 refine HE.out.mono ?_
 rintro e w2 ⟨c2,cs,hsh,hcs⟩
 obtain⟨ck,cx,ct,cK,cX,cZ,cB,cm,cq,cKA,ckn,ckc,cLA,cln,clc,rfl⟩:=hsh
 have hs2:=c2.size
 simp at hs2
 have hbk:Blk w2 w.heap.size 39 exZ:=Blk.chgR (heap_alloc_new _ _) c2 (by unfold only;omega)
 obtain⟨W,hW⟩:∃W,w2.alloc (.cells #[.int .i64 ck,.string cx,.bool ct,.int .i64 cK,.string cX,.int .i64 cZ,.slice cB cm cq,.slice cKA ckn ckc,.slice cLA cln clc] 39)=W:=⟨_,rfl⟩
 have hbw:Below w2.heap.size w2 W:=hW▸(Below.refl _ w2).alloc (Nat.le_refl _) _
 have hsW:W.heap.size=w2.heap.size+1:=by rw[<-hW];simp
 have hb4:Blk W w2.heap.size 39 #[.int .i64 ck,.string cx,.bool ct,.int .i64 cK,.string cX,.int .i64 cZ,.slice cB cm cq,.slice cKA ckn ckc,.slice cLA cln clc]:=hW▸heap_alloc_new _ _
 have hb2:Blk W w.heap.size 39 exZ:=(hbw.block _ hbk.lt).trans hbk
 have HB4:=hidE hb4
 have HB2:=hidE hb2
 have HCW:=hidE (c2.pre.below hbw)
 have HBW:=hidE hbw
 clear hbk c2 HE hb4 hb2 hbw
 rcases hcs with⟨ho,rfl⟩|⟨y,r2,ho,rfl,hrd,hrr⟩
 ·subst ho
  go_upto_region 2 with fail
  try rw[hW]
  clear hW
  go_upto_region 6 with fail
  obtain⟨⟨f0,f1,f2,f3,f4,f5,f6,f7,f8⟩,-,hl4⟩:=blk_facts9 HB4.out
  obtain⟨⟨g0,g1,g2,g3,g4,g5,g6,g7,g8⟩,⟨z0,z1,z2,z3,z4,z5,z6,z7,z8⟩,hl2⟩:=blk_facts9 HB2.out
  go_region
  all_goals
   go_wp2_with fail
   try simp only[Exit.inBlock,Exit.then]
   refine bodyPost_ret (results_ct rfl _ _ w.heap.size 39 _ (0,0) _ rfl ((blk_set9 _ _ _ _ _ _ _ _ _ HB2.out).drew) Tryz.underlying39 rfl (by kernel_rfl)) rfl ?_
   exact⟨(HCW.out.set9 _ _ _ _ _ _ _ _ _ (Nat.le_refl _)).drew,_,⟨_,_,_,_,_,_,_,_,_,_,_,_,_,_,_,rfl⟩,.inl ⟨HM0.out.symm,rfl⟩⟩
 ·subst ho
  have hg2:=rdE_len f l y r2 HG.out HO.out
  have HM1:Hid (M=parG y r2):=hidE HM0.out.symm
  have HLR:Hid (r2.length<=100000):=hidE (by have:=hg2.2;omega)
  have HRW:=hidE (hrr.below HBW.out (λg hg=>by have:=(HS.out g hg).2;omega))
  have HXW:=hidE (pcE.keep (S':=λg=>w.heap.size<=g/\g<w2.heap.size/\g≠w.heap.size) (λg hg=>⟨by have:=hg.1;simp at this;omega,hg.2,by have:=hg.1;simp at this;omega⟩) (λg hg=>HBW.out.block g hg.2) hrd)
  have hSG:=sx_signR S b r2 ⟨#[58]⟩ W HRW.out (λg hg=>⟨(HS.out g hg).1,by have:=(HS.out g hg).2;omega⟩) HLR.out
  obtain⟨q2,hq2⟩:∃q,isHd r2 6 [58]=q:=⟨_,rfl⟩
  rw[show(⟨#[58]⟩:ByteArray).data.toList=[58] from rfl,took,hq2]at hSG
  have HSG:=hidE hSG
  have HG2:=hidE hg2.1
  have HQ2:=hidE hq2
  clear hSG hrd hrr hq2 hg2
  go_upto_region 2 with fail
  try rw[hW]
  clear hW
  go_wp2_with fail
  refine HSG.out.mono ?_
  rintro e w3 ⟨rfl,hr3,c3⟩
  have hs3:=c3.size
  have HXW:=hidE (pcE.keep (S':=λg=>w.heap.size<=g/\g<w2.heap.size/\g≠w.heap.size) (λg hg=>hg) (λg hg=>c3.block g (by omega) (by unfold only;omega)) HXW.out)
  have HB4:=hidE (HB4.out.chgR c3 (by unfold only;omega))
  have HB2:=hidE (HB2.out.chgR c3 (by unfold only;omega))
  have HCW:=hidE (HCW.out.trans c3)
  clear c3 HSG HRW HBW
  cases q2 with
  | false =>
   rw[if_neg (by decide)]at hr3
   have HM:Hid (M=if isHd r2 6 [41]=true then some (y,r2.tail) else none):=hidE (by rw[HM1.out,parG,HQ2.out,if_neg (by decide)])
   have HRR:=hidE hr3
   clear hr3
   go_upto_region 6 with fail
   obtain⟨q6,hq6⟩:∃q,isHd r2 6 [41]=q:=⟨_,rfl⟩
   have HSG:Hid (∀V:World,RdrS S V b r2->w.heap.size<=V.heap.size->Calls Tryz.prog 93 #[.pointer (some ⟨b,0,none⟩),.string ⟨#[41]⟩] V λe w'=>e=.returned (.bool q6)/\RdrS S w' b (if q6=true then r2.tail else r2)/\ChR b V w'):=hidE λV hr hv=>by
    have:=sx_signR S b r2 ⟨#[41]⟩ V hr (λg hg=>⟨(HS.out g hg).1,by have:=(HS.out g hg).2;omega⟩) (by have:=HLR.out;omega)
    rw[show(⟨#[41]⟩:ByteArray).data.toList=[41] from rfl,took,hq6]at this
    exact this
   have HQ6:=hidE hq6
   have SOF:Hid (∀V:World,V.heap[w2.heap.size]? = w3.heap[w2.heap.size]?->V.cell? ⟨w2.heap.size,0,none⟩=some (.int .i64 ck)/\V.cell? ⟨w2.heap.size,1,none⟩=some (.string cx)/\V.cell? ⟨w2.heap.size,2,none⟩=some (.bool ct)/\V.cell? ⟨w2.heap.size,3,none⟩=some (.int .i64 cK)/\V.cell? ⟨w2.heap.size,4,none⟩=some (.string cX)/\V.cell? ⟨w2.heap.size,5,none⟩=some (.int .i64 cZ)/\V.cell? ⟨w2.heap.size,6,none⟩=some (.slice cB cm cq)/\V.cell? ⟨w2.heap.size,7,none⟩=some (.slice cKA ckn ckc)/\V.cell? ⟨w2.heap.size,8,none⟩=some (.slice cLA cln clc)):=hidE λV hV=>(blk_facts9 (hV.trans HB4.out)).1
   have SET:Hid (∀(V:World) (u0 u1 u2 u3 u4 u5 u6 u7 u8:Value),V.heap[w2.heap.size]? = w3.heap[w2.heap.size]?->(((((((((V.setCell ⟨w.heap.size,0,none⟩ u0).setCell ⟨w.heap.size,1,none⟩ u1).setCell ⟨w.heap.size,2,none⟩ u2).setCell ⟨w.heap.size,3,none⟩ u3).setCell ⟨w.heap.size,4,none⟩ u4).setCell ⟨w.heap.size,5,none⟩ u5).setCell ⟨w.heap.size,6,none⟩ u6).setCell ⟨w.heap.size,7,none⟩ u7).setCell ⟨w.heap.size,8,none⟩ u8).heap[w2.heap.size]? = w3.heap[w2.heap.size]?):=hidE λV u0 u1 u2 u3 u4 u5 u6 u7 u8 hV=>(set9_far V w.heap.size w2.heap.size u0 u1 u2 u3 u4 u5 u6 u7 u8 (by omega)).trans hV
   obtain⟨f0,f1,f2,f3,f4,f5,f6,f7,f8⟩:=SOF.out w3 rfl
   have B0:Hid (w3.drew.heap[w2.heap.size]? = w3.heap[w2.heap.size]?):=hidE rfl
   have R0:Hid (RdrS S w3.drew b r2):=hidE (HRR.out.keep rfl (λ_ _=>rfl))
   have hW2:w.heap.size<=w3.drew.heap.size:=by rw[heap_drew];exact HCW.out.size
   clear hq6
   go_region_held3 (λV=>V.cell? ⟨w2.heap.size,0,none⟩=some (.int .i64 ck)/\V.cell? ⟨w2.heap.size,1,none⟩=some (.string cx)/\V.cell? ⟨w2.heap.size,2,none⟩=some (.bool ct)/\V.cell? ⟨w2.heap.size,3,none⟩=some (.int .i64 cK)/\V.cell? ⟨w2.heap.size,4,none⟩=some (.string cX)/\V.cell? ⟨w2.heap.size,5,none⟩=some (.int .i64 cZ)/\V.cell? ⟨w2.heap.size,6,none⟩=some (.slice cB cm cq)/\V.cell? ⟨w2.heap.size,7,none⟩=some (.slice cKA ckn ckc)/\V.cell? ⟨w2.heap.size,8,none⟩=some (.slice cLA cln clc)) (first|(with_reducible exact SOF.out _ B0.out)|(with_reducible exact SOF.out _ B5.out)|(with_reducible exact SOF.out _ (SET.out _ _ _ _ _ _ _ _ _ _ B5.out))) (((with_reducible refine(HSG.out _ R0.out hW2).mono ?_);rintro e w5 ⟨rfl,r5,c5⟩;have B5:Hid (w5.heap[w2.heap.size]? = w3.heap[w2.heap.size]?):=hidE (c5.block _ HB4.out.lt (by unfold only;omega));have HB5:=hidE (HB2.out.drew.chgR c5 (by unfold only;omega));have R5:=hidE r5;have C5:=hidE ((HCW.out.drew).trans c5);obtain⟨⟨g0,g1,g2,g3,g4,g5,g6,g7,g8⟩,⟨z0,z1,z2,z3,z4,z5,z6,z7,z8⟩,hl2⟩:=blk_facts9 HB5.out;have K5:Hid (∀k,k<w3.heap.size->k≠b->w5.heap[k]? = w3.heap[k]?):=hidE (λk hk hne=>c5.block k hk hne);have L5:Hid (w3.heap.size<=w5.heap.size):=hidE c5.size;clear r5 c5))
   all_goals
    go_wp2_with fail
    try simp only[Exit.inBlock,Exit.then]
    refine bodyPost_ret (results_ct rfl _ _ w.heap.size 39 _ (0,0) _ rfl (blk_set9 _ _ _ _ _ _ _ _ _ HB5.out) Tryz.underlying39 rfl (by kernel_rfl)) rfl ?_
    refine⟨C5.out.set9 _ _ _ _ _ _ _ _ _ (Nat.le_refl _),[.int .i64 ck,.string cx,.bool ct,.int .i64 cK,.string cX,.int .i64 cZ,.slice cB cm cq,.slice cKA ckn ckc,.slice cLA cln clc],⟨_,_,_,_,_,_,_,_,_,_,_,_,_,_,_,rfl⟩,?_⟩
    have hL5:=L5.out
    cases q6 with
    | false=>exact .inl ⟨by rw[HM.out,HQ6.out,if_neg (by decide)],rfl⟩
    | true =>
     have hR:=R5.out
     rw[if_pos rfl]at hR
     refine .inr ⟨y,r2.tail,by rw[HM.out,HQ6.out,if_pos rfl],rfl,?_,hR.keep (set9_far _ _ _ _ _ _ _ _ _ _ _ _ (by omega)) (λk hk=>set9_far _ _ _ _ _ _ _ _ _ _ _ _ (by have:=(HS.out k hk).2;omega))⟩
     exact pcE.keep (λg hg=>⟨hg.1,by rw[size_set9];omega⟩) (λg hg=>(set9_far _ _ _ _ _ _ _ _ _ _ _ _ hg.2.2).trans (K5.out g (by omega) (by omega))) HXW.out
  | true =>
   rw[if_pos rfl]at hr3
   obtain⟨t0,r0,e0,-,-⟩:=isHd_ne r2 6 [58] (by decide) HQ2.out
   have HT:=hidE (sx_whole S b r2.tail (w3.alloc (.cells tyZ 35)) (hr3.alloc _ (λg hg=>by have:=(HS.out g hg).2;omega)) (λg hg=>⟨(HS.out g hg).1,by have:=(HS.out g hg).2;simp;omega⟩) (AllG.tail' HG2.out) (by have:=HLR.out;rw[e0]at this ⊢;simp at this ⊢;omega))
   unfold tyZ at HT
   obtain⟨O2,hO2⟩:∃O2,typ r2.tail=O2:=⟨_,rfl⟩
   have HM2:Hid (M=parH y O2):=hidE (by rw[HM1.out,parG,HQ2.out,if_pos rfl,<-hO2])
   have HLR2:Hid (∀z,O2=some z->z.2.length<=100000):=hidE λz hz=>by
    obtain⟨-,-,h3⟩:=typ_facts (AllG.tail' HG2.out) (show typ r2.tail=some (z.1,z.2) by rw[hO2,hz])
    have:=HLR.out
    rw[e0]at this h3
    simp at this h3
    omega
   rw[hO2]at HT
   clear hr3 e0 hO2 HLR
   go_wp2_with fail
   refine HT.out.mono ?_
   rintro e w4 ⟨c4,tK,tX,tZ,tA,tm,tc,hcs⟩
   have hs4:=c4.size
   simp at hs4
   have hb6:Blk w4 w3.heap.size 35 #[.int .i64 0,.string ⟨#[]⟩,.int .i64 0,.slice none 0 0]:=Blk.chgR (heap_alloc_new _ _) c4 (by unfold only;omega)
   have hb4:=(HB4.out.alloc (.cells #[.int .i64 0,.string ⟨#[]⟩,.int .i64 0,.slice none 0 0] 35)).chgR c4 (by unfold only;omega)
   have hb2:=(HB2.out.alloc (.cells #[.int .i64 0,.string ⟨#[]⟩,.int .i64 0,.slice none 0 0] 35)).chgR c4 (by unfold only;omega)
   have HC4:=hidE ((HCW.out.alloc (.cells #[.int .i64 0,.string ⟨#[]⟩,.int .i64 0,.slice none 0 0] 35)).trans c4)
   have HXW:=hidE (pcE.keep (S':=λg=>w.heap.size<=g/\g<w2.heap.size/\g≠w.heap.size) (λg hg=>hg) (λg hg=>(c4.block g (by simp;omega) (by unfold only;omega)).trans (Below.heap_alloc _ _ _ (by omega))) HXW.out)
   obtain⟨VV,hV⟩:∃V,((((((((((((((w4.setCell ⟨w3.heap.size,0,none⟩ (.int .i64 tK)).setCell ⟨w3.heap.size,1,none⟩ (.string tX)).setCell ⟨w3.heap.size,2,none⟩ (.int .i64 tZ)).setCell ⟨w3.heap.size,3,none⟩ (.slice tA tm tc)).setCell ⟨w2.heap.size,0,none⟩ (.int .i64 7)).setCell ⟨w2.heap.size,1,none⟩ (.string ⟨#[]⟩)).setCell ⟨w2.heap.size,2,none⟩ (.bool false)).setCell ⟨w2.heap.size,3,none⟩ (.int .i64 tK)).setCell ⟨w2.heap.size,4,none⟩ (.string tX)).setCell ⟨w2.heap.size,5,none⟩ (.int .i64 tZ)).setCell ⟨w2.heap.size,6,none⟩ (.slice tA tm tc)).setCell ⟨w2.heap.size,7,none⟩ (.slice (some ⟨w4.heap.size,0,none⟩) 1 1)).setCell ⟨w2.heap.size,8,none⟩ (.slice none 0 0)).alloc (.cells #[.int .i64 ck,.string cx,.bool ct,.int .i64 cK,.string cX,.int .i64 cZ,.slice cB cm cq,.slice cKA ckn ckc,.slice cLA cln clc] 39))=V:=⟨_,rfl⟩
   have h6:=blk_set4 (.int .i64 tK) (.string tX) (.int .i64 tZ) (.slice tA tm tc) hb6
   have hfar:∀k,k<w4.heap.size->k≠w3.heap.size->k≠w2.heap.size->VV.heap[k]? = w4.heap[k]?:=λk h1 h2 h3=>by
    rw[<-hV,Below.heap_alloc _ _ _ (by rw[size_set9,size_set4];exact h1),set9_far _ _ _ _ _ _ _ _ _ _ _ _ h3,heap_set4 _ _ _ _ _ _ _ h2]
   have hsV:VV.heap.size=w4.heap.size+1:=by rw[<-hV];simp
   have HB4:Hid (Blk VV w2.heap.size 39 #[.int .i64 7,.string ⟨#[]⟩,.bool false,.int .i64 tK,.string tX,.int .i64 tZ,.slice tA tm tc,.slice (some ⟨w4.heap.size,0,none⟩) 1 1,.slice none 0 0]):=hidE (by
    rw[<-hV]
    exact(blk_set9 _ _ _ _ _ _ _ _ _ ((heap_set4 _ _ _ _ _ _ _ (by omega)).trans hb4)).alloc _)
   have HB2:Hid (Blk VV w.heap.size 39 exZ):=hidE ((hfar _ hb2.lt (by omega) (by omega)).trans hb2)
   have HNW:Hid (Blk VV w4.heap.size 39 #[.int .i64 ck,.string cx,.bool ct,.int .i64 cK,.string cX,.int .i64 cZ,.slice cB cm cq,.slice cKA ckn ckc,.slice cLA cln clc]):=hidE (by
    rw[<-hV]
    have:=heap_alloc_new (((((((((((((w4.setCell ⟨w3.heap.size,0,none⟩ (.int .i64 tK)).setCell ⟨w3.heap.size,1,none⟩ (.string tX)).setCell ⟨w3.heap.size,2,none⟩ (.int .i64 tZ)).setCell ⟨w3.heap.size,3,none⟩ (.slice tA tm tc)).setCell ⟨w2.heap.size,0,none⟩ (.int .i64 7)).setCell ⟨w2.heap.size,1,none⟩ (.string ⟨#[]⟩)).setCell ⟨w2.heap.size,2,none⟩ (.bool false)).setCell ⟨w2.heap.size,3,none⟩ (.int .i64 tK)).setCell ⟨w2.heap.size,4,none⟩ (.string tX)).setCell ⟨w2.heap.size,5,none⟩ (.int .i64 tZ)).setCell ⟨w2.heap.size,6,none⟩ (.slice tA tm tc)).setCell ⟨w2.heap.size,7,none⟩ (.slice (some ⟨w4.heap.size,0,none⟩) 1 1)).setCell ⟨w2.heap.size,8,none⟩ (.slice none 0 0)) (.cells #[.int .i64 ck,.string cx,.bool ct,.int .i64 cK,.string cX,.int .i64 cZ,.slice cB cm cq,.slice cKA ckn ckc,.slice cLA cln clc] 39)
    rwa [size_set9,size_set4]at this)
   have HCW:Hid (ChR b w VV):=hidE (by
    rw[<-hV]
    exact(((HC4.out.set4 _ _ _ _ (by omega)).set9 _ _ _ _ _ _ _ _ _ (by omega)).alloc _))
   have HFAR:=hidE hfar
   obtain⟨⟨f0,f1,f2,f3,f4,f5,f6,f7,f8⟩,⟨y0,y1,y2,y3,y4,y5,y6,y7,y8⟩,hl4⟩:=blk_facts9 hb4
   obtain⟨a0,a1,a2,a3,s0,s1,s2,s3,hl6⟩:=blk_facts4 hb6
   have HXV:=hidE (pcE.keep (S':=λg=>w.heap.size<=g/\g<w2.heap.size/\g≠w.heap.size) (λg hg=>hg) (λg hg=>hfar g (by omega) (by omega) (by omega)) HXW.out)
   clear c4 hb6 hb4 hb2 h6 hfar HT
   rcases hcs with⟨ho,rfl⟩|⟨t,r4,ho,rfl,hrd,hrr⟩
   ·subst ho
    go_upto_region 6 with fail
    try rw[hV]
    clear hV f0 f1 f2 f3 f4 f5 f6 f7 f8 y0 y1 y2 y3 y4 y5 y6 y7 y8 a0 a1 a2 a3 s0 s1 s2 s3
    obtain⟨⟨f0,f1,f2,f3,f4,f5,f6,f7,f8⟩,-,hl4⟩:=blk_facts9 HB4.out
    obtain⟨⟨g0,g1,g2,g3,g4,g5,g6,g7,g8⟩,⟨z0,z1,z2,z3,z4,z5,z6,z7,z8⟩,hl2⟩:=blk_facts9 HB2.out
    go_region
    all_goals
     go_wp2_with fail
     try simp only[Exit.inBlock,Exit.then]
     refine bodyPost_ret (results_ct rfl _ _ w.heap.size 39 _ (0,0) _ rfl ((blk_set9 _ _ _ _ _ _ _ _ _ HB2.out).drew) Tryz.underlying39 rfl (by kernel_rfl)) rfl ?_
     exact⟨(HCW.out.set9 _ _ _ _ _ _ _ _ _ (Nat.le_refl _)).drew,_,⟨_,_,_,_,_,_,_,_,_,_,_,_,_,_,_,rfl⟩,.inl ⟨HM2.out,rfl⟩⟩
   ·subst ho
    have HM:Hid (M=if isHd r4 6 [41]=true then some (.ann y t,r4.tail) else none):=hidE HM2.out
    have HLR:=hidE (HLR2.out _ rfl)
    have HRR:=hidE (hrr.keep (HFAR.out b (by omega) (by omega) (by omega)) (λg hg=>HFAR.out g (by have:=(HS.out g hg).2;omega) (by have:=(HS.out g hg).2;omega) (by have:=(HS.out g hg).2;omega)))
    have HTY:Hid (RdV (λg=>w3.heap.size<g/\g<w4.heap.size) VV t (.agg #[.int .i64 tK,.string tX,.int .i64 tZ,.slice tA tm tc])):=hidE (hrd.keep (λg hg=>⟨by have:=hg.1;simp at this;omega,hg.2⟩) (λg hg=>HFAR.out g hg.2 (by have:=hg.1;simp at this;omega) (by have:=hg.1;simp at this;omega)))
    clear hrd hrr
    go_upto_region 6 with fail
    try rw[hV]
    clear hV f0 f1 f2 f3 f4 f5 f6 f7 f8 y0 y1 y2 y3 y4 y5 y6 y7 y8 a0 a1 a2 a3 s0 s1 s2 s3
    obtain⟨q6,hq6⟩:∃q,isHd r4 6 [41]=q:=⟨_,rfl⟩
    have HSG:Hid (∀V:World,RdrS S V b r4->w.heap.size<=V.heap.size->Calls Tryz.prog 93 #[.pointer (some ⟨b,0,none⟩),.string ⟨#[41]⟩] V λe w'=>e=.returned (.bool q6)/\RdrS S w' b (if q6=true then r4.tail else r4)/\ChR b V w'):=hidE λV hr hv=>by
     have:=sx_signR S b r4 ⟨#[41]⟩ V hr (λg hg=>⟨(HS.out g hg).1,by have:=(HS.out g hg).2;omega⟩) (by have:=HLR.out;omega)
     rw[show(⟨#[41]⟩:ByteArray).data.toList=[41] from rfl,took,hq6]at this
     exact this
    have HQ6:=hidE hq6
    have SOF:Hid (∀V:World,V.heap[w2.heap.size]? = VV.heap[w2.heap.size]?->V.cell? ⟨w2.heap.size,0,none⟩=some (.int .i64 7)/\V.cell? ⟨w2.heap.size,1,none⟩=some (.string ⟨#[]⟩)/\V.cell? ⟨w2.heap.size,2,none⟩=some (.bool false)/\V.cell? ⟨w2.heap.size,3,none⟩=some (.int .i64 tK)/\V.cell? ⟨w2.heap.size,4,none⟩=some (.string tX)/\V.cell? ⟨w2.heap.size,5,none⟩=some (.int .i64 tZ)/\V.cell? ⟨w2.heap.size,6,none⟩=some (.slice tA tm tc)/\V.cell? ⟨w2.heap.size,7,none⟩=some (.slice (some ⟨w4.heap.size,0,none⟩) 1 1)/\V.cell? ⟨w2.heap.size,8,none⟩=some (.slice none 0 0)):=hidE λV hV=>(blk_facts9 (hV.trans HB4.out)).1
    have SET:Hid (∀(V:World) (u0 u1 u2 u3 u4 u5 u6 u7 u8:Value),V.heap[w2.heap.size]? = VV.heap[w2.heap.size]?->(((((((((V.setCell ⟨w.heap.size,0,none⟩ u0).setCell ⟨w.heap.size,1,none⟩ u1).setCell ⟨w.heap.size,2,none⟩ u2).setCell ⟨w.heap.size,3,none⟩ u3).setCell ⟨w.heap.size,4,none⟩ u4).setCell ⟨w.heap.size,5,none⟩ u5).setCell ⟨w.heap.size,6,none⟩ u6).setCell ⟨w.heap.size,7,none⟩ u7).setCell ⟨w.heap.size,8,none⟩ u8).heap[w2.heap.size]? = VV.heap[w2.heap.size]?):=hidE λV u0 u1 u2 u3 u4 u5 u6 u7 u8 hV=>(set9_far V w.heap.size w2.heap.size u0 u1 u2 u3 u4 u5 u6 u7 u8 (by omega)).trans hV
    obtain⟨f0,f1,f2,f3,f4,f5,f6,f7,f8⟩:=SOF.out VV rfl
    have B0:Hid (VV.drew.heap[w2.heap.size]? = VV.heap[w2.heap.size]?):=hidE rfl
    have R0:Hid (RdrS S VV.drew b r4):=hidE (HRR.out.keep rfl (λ_ _=>rfl))
    have hW2:w.heap.size<=VV.drew.heap.size:=by rw[heap_drew];exact HCW.out.size
    clear hq6
    go_region_held3 (λV=>V.cell? ⟨w2.heap.size,0,none⟩=some (.int .i64 7)/\V.cell? ⟨w2.heap.size,1,none⟩=some (.string ⟨#[]⟩)/\V.cell? ⟨w2.heap.size,2,none⟩=some (.bool false)/\V.cell? ⟨w2.heap.size,3,none⟩=some (.int .i64 tK)/\V.cell? ⟨w2.heap.size,4,none⟩=some (.string tX)/\V.cell? ⟨w2.heap.size,5,none⟩=some (.int .i64 tZ)/\V.cell? ⟨w2.heap.size,6,none⟩=some (.slice tA tm tc)/\V.cell? ⟨w2.heap.size,7,none⟩=some (.slice (some ⟨w4.heap.size,0,none⟩) 1 1)/\V.cell? ⟨w2.heap.size,8,none⟩=some (.slice none 0 0)) (first|(with_reducible exact SOF.out _ B0.out)|(with_reducible exact SOF.out _ B5.out)|(with_reducible exact SOF.out _ (SET.out _ _ _ _ _ _ _ _ _ _ B5.out))) (((with_reducible refine(HSG.out _ R0.out hW2).mono ?_);rintro e w5 ⟨rfl,r5,c5⟩;have B5:Hid (w5.heap[w2.heap.size]? = VV.heap[w2.heap.size]?):=hidE (c5.block _ HB4.out.lt (by unfold only;omega));have HB5:=hidE (HB2.out.drew.chgR c5 (by unfold only;omega));have R5:=hidE r5;have C5:=hidE ((HCW.out.drew).trans c5);obtain⟨⟨g0,g1,g2,g3,g4,g5,g6,g7,g8⟩,⟨z0,z1,z2,z3,z4,z5,z6,z7,z8⟩,hl2⟩:=blk_facts9 HB5.out;have K5:Hid (∀k,k<VV.heap.size->k≠b->w5.heap[k]? = VV.heap[k]?):=hidE (λk hk hne=>c5.block k hk hne);have L5:Hid (VV.heap.size<=w5.heap.size):=hidE c5.size;clear r5 c5))
    all_goals
     go_wp2_with fail
     try simp only[Exit.inBlock,Exit.then]
     refine bodyPost_ret (results_ct rfl _ _ w.heap.size 39 _ (0,0) _ rfl (blk_set9 _ _ _ _ _ _ _ _ _ HB5.out) Tryz.underlying39 rfl (by kernel_rfl)) rfl ?_
     refine⟨C5.out.set9 _ _ _ _ _ _ _ _ _ (Nat.le_refl _),[.int .i64 7,.string ⟨#[]⟩,.bool false,.int .i64 tK,.string tX,.int .i64 tZ,.slice tA tm tc,.slice (some ⟨w4.heap.size,0,none⟩) 1 1,.slice none 0 0],⟨_,_,_,_,_,_,_,_,_,_,_,_,_,_,_,rfl⟩,?_⟩
     have hL5:=L5.out
     cases q6 with
     | false=>exact .inl ⟨by rw[HM.out,HQ6.out,if_neg (by decide)],rfl⟩
     | true =>
      have hR:=R5.out
      rw[if_pos rfl]at hR
      refine .inr ⟨(.ann y t),r4.tail,by rw[HM.out,HQ6.out,if_pos rfl],rfl,?_,hR.keep (set9_far _ _ _ _ _ _ _ _ _ _ _ _ (by omega)) (λk hk=>set9_far _ _ _ _ _ _ _ _ _ _ _ _ (by have:=(HS.out k hk).2;omega))⟩
      obtain⟨A',a',hv',hA'⟩:=HTY.out
      injection hv' with hv'
      have hv':=congrArg Array.toList hv'
      simp only[List.cons.injEq,Value.int.injEq,Value.string.injEq,Value.slice.injEq,and_true,true_and]at hv'
      obtain⟨rfl,rfl,rfl,rfl,rfl,rfl⟩:=hv'
      refine⟨⟨tA,tc,some ⟨w4.heap.size,0,none⟩,0,none,0⟩,by simp[exC,kdE,nmE,toE,tyE,tyC,tyV,kidsE,altsE,Sx.strV],?_,?_⟩
      ·exact Args.keep (λg hg=>⟨by omega,by rw[size_set9];omega⟩) (λg hg=>(set9_far _ _ _ _ _ _ _ _ _ _ _ _ (by omega)).trans (K5.out g (by omega) (by omega))) _ _ hA'
      ·rw[ExIn]
       exact⟨_,rfl,⟨by omega,by rw[size_set9];omega⟩,kid_new HXV.out (λk hk=>⟨hk.1,by rw[size_set9];omega⟩) (λk hk=>(set9_far _ _ _ _ _ _ _ _ _ _ _ _ hk.2.2).trans (K5.out k (by omega) (by omega))) ((set9_far _ _ _ _ _ _ _ _ _ _ _ _ (by omega)).trans ((K5.out _ (by omega) (by omega)).trans HNW.out))⟩
end Go.Proofs.YtknkclefoiohpaaGreatDoor

namespace Go.Proofs.YtknkclefoiohpaaGreatDoor
open Go.RowKit Lx Tx Sx
set_option maxRecDepth 100000
def atmG(f:Nat)(l:List Tok):Option (Ex × List Tok):=if isHd l 6 [40]=true then parF f l.tail else if(hd l).kind=2 then some (.con (hd l).text,l.tail) else none
theorem rdAtom_eq'(f:Nat)(l:List Tok):rdAtom (f+1) l=if(hd l).kind=1 then some (.var (hd l).text,l.tail) else atmG f l:=rdAtom_eq f l
set_option maxHeartbeats 3200000 in
theorem sx_atom(f:Nat)(S:Nat->Prop)(b:Nat)(l:List Tok)(w:World)(h:RdrS S w b l)(hS:∀g,S g->g≠b/\g<w.heap.size)(hG:AllG l)(hl:l.length<=100000)(hf:3*l.length<=f)
  (IH:GReads pcE shE S b 42 3 rdE f) :
  Calls Tryz.prog 139 #[.pointer (some ⟨b,0,none⟩)] w (GPost pcE shE S b w (rdAtom (f+1) l)):=by
 have hbl:=h.lt
 have hV:=sx_variableR S b l (w.alloc (.cells exZ 39)) (h.alloc _ (λg hg=>(hS g hg).2)) (λg hg=>⟨(hS g hg).1,by have:=(hS g hg).2;simp;omega⟩) hl
 unfold exZ at hV
 obtain⟨M,hM⟩:∃M,rdAtom (f+1) l=M:=⟨_,rfl⟩
 rw[hM]
 rw[rdAtom_eq']at hM
 obtain⟨q,hq⟩:∃q,((hd l).kind==1)=q:=⟨_,rfl⟩
 rw[hq]at hV
 obtain⟨X,hX⟩:∃X,anyT l 1=X:=⟨_,rfl⟩
 obtain⟨r2,hr2⟩:∃x,anyR l 1=x:=⟨_,rfl⟩
 rw[hX,hr2]at hV
 have HV:=hidE hV
 have HS:=hidE hS
 clear h hS hV
 cases q with
 | true =>
  have hk:(hd l).kind=1:=by simpa using hq
  have hX2:(hd l).text=X.data.toList:=by rw[<-hX,anyT,if_pos hk]
  have hr3:l.tail=r2:=by rw[<-hr2,anyR,if_pos hk]
  rw[if_pos hk,hX2,hr3]at hM
  have HM:=hidE hM
  clear hk hq hf IH hG hl hM hX hr2 hX2 hr3
  go_enter Tryz.func139,Tryz.ntmps139
  go_wp2_with fail
  refine HV.out.mono ?_
  rintro e w1 ⟨rfl,r1,c1⟩
  have hs1:=c1.size
  simp at hs1
  have hbk:Blk w1 w.heap.size 39 exZ:=Blk.chgR (heap_alloc_new _ _) c1 (by unfold only;omega)
  have hlw:=hbk.lt
  obtain⟨⟨g0,g1,g2,g3,g4,g5,g6,g7,g8⟩,z0,z1,z2,z3,z4,z5,z6,z7,z8⟩:=z9 hbk
  have HBK:=hidE hbk
  have HC:=hidE c1.pre
  have HR:=hidE r1
  clear hbk c1 r1 HV
  go_wp2_with fail
  try simp only[Exit.inBlock,Exit.then]
  refine bodyPost_ret (results_ct rfl _ _ w.heap.size 39 _ (0,0) _ rfl (blk_set9 _ _ _ _ _ _ _ _ _ HBK.out) Tryz.underlying39 rfl (by kernel_rfl)) rfl ?_
  refine⟨HC.out.set9 _ _ _ _ _ _ _ _ _ (Nat.le_refl _),_,⟨_,_,_,_,_,_,_,_,_,_,_,_,_,_,_,rfl⟩,.inr ⟨.var X.data.toList,r2,HM.out.symm,rfl,?_,HR.out.keep (set9_far _ _ _ _ _ _ _ _ _ _ _ _ (by omega)) (λk hk=>set9_far _ _ _ _ _ _ _ _ _ _ _ _ (by have:=(HS.out k hk).2;omega))⟩⟩
  exact⟨⟨none,0,none,0,none,0⟩,by simp[exC,kdE,nmE,toE,tyE,tyC,kidsE,altsE,Sx.strV],trivial,by rw[ExIn];trivial⟩
 | false =>
  have hk:¬(hd l).kind=1:=by simpa using hq
  have hr3:l=r2:=by rw[<-hr2,anyR,if_neg hk]
  subst hr3
  rw[if_neg hk]at hM
  have HM:=hidE hM
  have HIH:=hidE IH
  have HG:=hidE hG
  have HL:Hid (l.length<=100000/\3*l.length<=f):=hidE ⟨hl,hf⟩
  clear hk hq hf IH hG hl hM hX hr2
  go_enter Tryz.func139,Tryz.ntmps139
  go_wp2_with fail
  refine HV.out.mono ?_
  rintro e w1 ⟨rfl,r1,c1⟩
  have hs1:=c1.size
  simp at hs1
  have hbk:Blk w1 w.heap.size 39 exZ:=Blk.chgR (heap_alloc_new _ _) c1 (by unfold only;omega)
  have HBK:=hidE hbk
  have HC:=hidE c1.pre
  have h2:=sx_signR S b l ⟨#[40]⟩ w1 r1 (λg hg=>⟨(HS.out g hg).1,by have:=(HS.out g hg).2;omega⟩) HL.out.1
  rw[show(⟨#[40]⟩:ByteArray).data.toList=[40] from rfl,took]at h2
  obtain⟨q2,hq2⟩:∃q,isHd l 6 [40]=q:=⟨_,rfl⟩
  rw[hq2]at h2
  have H2:=hidE h2
  have HQ2:=hidE hq2
  clear hbk c1 r1 HV h2 hq2
  go_wp2_with fail
  refine H2.out.mono ?_
  rintro e w2 ⟨rfl,r2,c2⟩
  have hs2:=c2.size
  have HBK:=hidE (HBK.out.chgR c2 (by unfold only;omega))
  have HC:=hidE (HC.out.trans c2)
  clear c2 H2
  cases q2 with
  | true =>
   rw[if_pos rfl]at r2
   obtain⟨t0,r0,e0,-,-⟩:=isHd_ne l 6 [40] (by decide) HQ2.out
   have hP:=sx_inPar f S b l.tail w2 r2 (λg hg=>⟨(HS.out g hg).1,by have:=(HS.out g hg).2;omega⟩) (AllG.tail' HG.out) (by have:=HL.out.1;rw[e0]at this ⊢;simp at this ⊢;omega) (by have:=HL.out.2;rw[e0]at this ⊢;simp at this ⊢;omega) HIH.out
   have HM2:Hid (M=parF f l.tail):=hidE (by rw[<-HM.out,atmG,HQ2.out,if_pos rfl])
   obtain⟨O,hO⟩:∃O,parF f l.tail=O:=⟨_,rfl⟩
   rw[hO]at hP HM2
   have HP:=hidE hP
   clear r2 e0 hP hO
   go_wp2_with fail
   refine HP.out.mono ?_
   rintro e w3 ⟨c3,cs,hsh,hcs⟩
   obtain⟨ck,cx,ct,cK,cX,cZ,cB,cm,cq,cKA,ckn,ckc,cLA,cln,clc,rfl⟩:=hsh
   have hs3:=c3.size
   have hbk:=HBK.out.chgR c3 (by unfold only;omega)
   have hlw:=hbk.lt
   obtain⟨⟨g0,g1,g2,g3,g4,g5,g6,g7,g8⟩,z0,z1,z2,z3,z4,z5,z6,z7,z8⟩:=z9 hbk
   have HBK3:=hidE hbk
   have HC3:=hidE (HC.out.trans c3)
   clear hbk c3 HP
   rcases hcs with⟨ho,rfl⟩|⟨y,r5,ho,rfl,hrd,hrr⟩
   ·have HM3:=hidE (HM2.out.trans ho)
    clear ho
    go_wp2_with fail
    try simp only[Exit.inBlock,Exit.then]
    refine bodyPost_ret (results_ct rfl _ _ w.heap.size 39 _ (0,0) _ rfl (blk_set9 _ _ _ _ _ _ _ _ _ HBK3.out) Tryz.underlying39 rfl (by kernel_rfl)) rfl ?_
    exact⟨HC3.out.set9 _ _ _ _ _ _ _ _ _ (Nat.le_refl _),_,⟨_,_,_,_,_,_,_,_,_,_,_,_,_,_,_,rfl⟩,.inl ⟨HM3.out,rfl⟩⟩
   ·have HM3:=hidE (HM2.out.trans ho)
    have HRD:=hidE hrd
    have HRR:=hidE hrr
    clear ho hrd hrr
    go_wp2_with fail
    try simp only[Exit.inBlock,Exit.then]
    refine bodyPost_ret (results_ct rfl _ _ w.heap.size 39 _ (0,0) _ rfl (blk_set9 _ _ _ _ _ _ _ _ _ HBK3.out) Tryz.underlying39 rfl (by kernel_rfl)) rfl ?_
    exact⟨HC3.out.set9 _ _ _ _ _ _ _ _ _ (Nat.le_refl _),_,⟨_,_,_,_,_,_,_,_,_,_,_,_,_,_,_,rfl⟩,.inr ⟨y,r5,HM3.out,rfl,
     pcE.keep (λg hg=>⟨by omega,by rw[size_set9];exact hg.2⟩) (λg hg=>set9_far _ _ _ _ _ _ _ _ _ _ _ _ (by omega)) HRD.out,HRR.out.keep (set9_far _ _ _ _ _ _ _ _ _ _ _ _ (by omega)) (λk hk=>set9_far _ _ _ _ _ _ _ _ _ _ _ _ (by have:=(HS.out k hk).2;omega))⟩⟩
  | false =>
   rw[if_neg (by decide)]at r2
   have hP:=sx_takeAnyR S b l 2 2 rfl w2 r2 (λg hg=>⟨(HS.out g hg).1,by have:=(HS.out g hg).2;omega⟩) HL.out.1 (by decide)
   have HM2:Hid (M=if(hd l).kind=2 then some (.con (hd l).text,l.tail) else none):=hidE (by rw[<-HM.out,atmG,HQ2.out,if_neg (by decide)])
   obtain⟨q3,hq3⟩:∃q,((hd l).kind==2)=q:=⟨_,rfl⟩
   obtain⟨X2,hX⟩:∃X,anyT l 2=X:=⟨_,rfl⟩
   obtain⟨r3,hr3⟩:∃x,anyR l 2=x:=⟨_,rfl⟩
   rw[hq3,hX,hr3]at hP
   have HM3:Hid (M=if q3=true then some (.con X2.data.toList,r3) else none):=hidE (by
    rw[HM2.out]
    cases q3 with
    | true =>
     have hk:(hd l).kind=2:=by simpa using hq3
     rw[if_pos hk,if_pos rfl,show(hd l).text=X2.data.toList by rw[<-hX,anyT,if_pos hk],show l.tail=r3 by rw[<-hr3,anyR,if_pos hk]]
    | false =>
     have hk:¬(hd l).kind=2:=by simpa using hq3
     rw[if_neg hk,if_neg (by decide)])
   have HP:=hidE hP
   clear r2 hP hq3 hX hr3
   have hlb:b<w2.heap.size:=by omega
   go_wp2_with fail
   refine HP.out.mono ?_
   rintro e w3 ⟨rfl,hrr,c3⟩
   have hs3:=c3.size
   have hbk:=HBK.out.chgR c3 (by unfold only;omega)
   have hlw:=hbk.lt
   obtain⟨⟨g0,g1,g2,g3,g4,g5,g6,g7,g8⟩,z0,z1,z2,z3,z4,z5,z6,z7,z8⟩:=z9 hbk
   have HBK3:=hidE hbk
   have HC3:=hidE (HC.out.trans c3)
   have HRR:=hidE hrr
   clear hbk c3 HP hrr
   go_wp2_with fail
   try simp only[Exit.inBlock,Exit.then]
   refine bodyPost_ret (results_ct rfl _ _ w.heap.size 39 _ (0,0) _ rfl (blk_set9 _ _ _ _ _ _ _ _ _ HBK3.out) Tryz.underlying39 rfl (by kernel_rfl)) rfl ?_
   refine⟨HC3.out.set9 _ _ _ _ _ _ _ _ _ (Nat.le_refl _),[.int .i64 2,.string X2,.bool false,.int .i64 0,.string ⟨#[]⟩,.int .i64 0,.slice none 0 0,.slice none 0 0,.slice none 0 0],⟨_,_,_,_,_,_,_,_,_,_,_,_,_,_,_,rfl⟩,?_⟩
   cases q3 with
   | false=>exact .inl ⟨by rw[HM3.out,if_neg (by decide)],rfl⟩
   | true =>
    refine .inr ⟨.con X2.data.toList,r3,by rw[HM3.out,if_pos rfl],rfl,?_,HRR.out.keep (set9_far _ _ _ _ _ _ _ _ _ _ _ _ (by omega)) (λk hk=>set9_far _ _ _ _ _ _ _ _ _ _ _ _ (by have:=(HS.out k hk).2;omega))⟩
    exact⟨⟨none,0,none,0,none,0⟩,by simp[exC,kdE,nmE,toE,tyE,tyC,kidsE,altsE,Sx.strV],trivial,by rw[ExIn];trivial⟩
end Go.Proofs.YtknkclefoiohpaaGreatDoor

namespace Go.Proofs.YtknkclefoiohpaaGreatDoor
open Go.RowKit Lx Tx Sx
set_option maxRecDepth 100000
def LPost0 {α:Type}(P:Pc α)(S:Nat->Prop)(b:Nat)(w:World)(o:Option (List α × List Tok))(e:Ending)(w':World):Prop :=
 ChR b w w'/\∃A m c,((o=none/\m=0/\e=.returned (.tuple #[.slice A m c,.bool false])) \/
  ∃x r,o=some (x,r)/\e=.returned (.tuple #[.slice A m c,.bool true])/\m=x.length/\LstG P (λg=>w.heap.size<=g/\g<w'.heap.size) w' x A/\RdrS S w' b r)
theorem infoE:(Tryz.prog.info? 39).map (λi=>(i.zero,i.size,i.bytes))=some (some (.agg #[.int .i64 0,.string ⟨#[]⟩,.bool false,.int .i64 0,.string ⟨#[]⟩,.int .i64 0,.slice none 0 0,.slice none 0 0,.slice none 0 0]),9,136):=by kernel_rfl
set_option maxHeartbeats 3200000 in
theorem sx_longerE(f:Nat)(S:Nat->Prop)(b:Nat)(l:List Tok)(w0 w:World)(h:RdrS S w b l)(hS:∀g,S g->g≠b/\g<w0.heap.size)(hb:b<w0.heap.size)(hc0:ChR b w0 w)(hG:AllG l)(hl:l.length<=100000)(hf:3*l.length+2<=f)
  (IH:∀f1,f1<=f->GReads pcE shE S b 139 1 rdAtom f1)(hrd:∀(f1:Nat)(l:List Tok)(x:Ex)(r:List Tok),AllG l->rdAtom f1 l=some (x,r)->AllG r/\r.length<l.length) :
  Calls Tryz.prog 140 #[.slice none 0 0,.func (.func 141) #[.pointer (some ⟨b,0,none⟩)] #[],.func (.func 139) #[.pointer (some ⟨b,0,none⟩)] #[]] w
   (LPost0 pcE S b w0 ((manyF atomEB id rdAtom f l).map λy=>(([]:List Ex)++y.1,y.2))):=by
 obtain⟨i0,hi0,hz0,hz1,hz2⟩:=info_parts infoE
 obtain⟨L,hL⟩:∃L,l.length=L:=⟨_,rfl⟩
 have HL:=hidE hL
 have HS:=hidE hS
 have HIH:=hidE IH
 have HRD:=hidE hrd
 have HH:Hid (HeadG pcE atomEB id rdAtom S b w0.heap.size 2 f 39 ([]:List Ex) l w0 L (.slice none 0 0) w):=hidE ⟨l,f,[],none,0,hL.symm,rfl,hG,by simp,hf,Nat.le_refl _,hidE h,hidE (by simp),hidE (by rw[List.append_nil];exact(BuiltG.nil _ _ _ _)),hidE hc0⟩
 rw[hL]at hl hf
 clear h hS hL IH hrd hc0
 go_enter Tryz.func140,Tryz.ntmps140
 go_wp2_with fail
 go_loopg [0] L (λgg v wr=>HeadG pcE atomEB id rdAtom S b w0.heap.size 2 f 39 ([]:List Ex) l w0 gg v wr)
 case atStart=>exact HH.out
 case round =>
  obtain⟨r,f',done,A,c,rfl,rfl,hG',hle,hf1,hf2,hr,hv,hbu,hc⟩:=hrel
  rw[HL.out]at hle
  have hsz:=hc.out.size
  obtain⟨f1,rfl⟩:∃f1,f'=f1+1:=⟨f'-1,by omega⟩
  obtain⟨n,hn⟩:∃n,(([]:List Ex)++done).length=n:=⟨_,rfl⟩
  have hn':n<=1+done.length:=by rw[<-hn];simp <;> omega
  rw[hn]at hbu ⊢
  have HN:=hidE hn
  obtain⟨rn,hrn⟩:∃n,r.length=n:=⟨_,rfl⟩
  have HRN:=hidE hrn
  rw[hrn]at hle hf1
  have hA:=hidE (nx_atom S b r wr hr.out (λg hg=>⟨(HS.out g hg).1,by have:=(HS.out g hg).2;omega⟩) (by rw[hrn];omega))
  have HG':=hidE hG'
  clear hn hrn HH hG'
  obtain⟨q,hq⟩:∃q,atomEB r=q:=⟨_,rfl⟩
  rw[hq]at hA
  have HQ:=hidE hq
  clear hq
  go_wp2_with fail
  refine hA.out.mono ?_
  rintro e w2 ⟨rfl,hr2,c2⟩
  have hs2:=c2.size
  have HC2:=hidE (hc.out.trans c2)
  have HBU:=hidE (hbu.out.chgR c2 hb)
  clear c2 hA hbu
  cases q with
  | false =>
   rw[if_neg (by decide)]at hr2
   have HR2:=hidE hr2
   have HV:=hidE (hv.out.trans (congrArg (Option.map λy:List Ex × List Tok=>(done++y.1,y.2)) (many_end f1 r HQ.out)))
   clear hr2 hv
   go_wp2_with fail
   go_ret2
   refine⟨HC2.out,A,n,c,.inr ⟨([]:List Ex)++done,r,by rw[HV.out];simp,rfl,HN.out.symm,HBU.out.lst.2,HR2.out⟩⟩
  | true =>
   rw[if_pos rfl]at hr2
   obtain⟨hg2,hl2,hf3⟩:=nx_atom_af r HG'.out HQ.out
   rw[HRN.out]at hl2 hf3
   have HP:=hidE (HIH.out f1 (by omega) w2 _ hr2 (λg hg=>⟨(HS.out g hg).1,by have:=(HS.out g hg).2;omega⟩) hg2 (by omega) (by omega))
   obtain⟨O,hO⟩:∃O,rdAtom f1 (id r)=O:=⟨_,rfl⟩
   have HO:=hidE hO
   have HG2:=hidE hg2
   rw[hO]at HP
   clear hr2 hg2 hO
   go_wp2_with fail
   refine HP.out.mono ?_
   rintro e w3 ⟨c3,cs,hsh,hcs⟩
   obtain⟨ek,ex,et,tk,tx,tz,tA,tm,tq,KA,kn,kc,LA,ln,lc,rfl⟩:=hsh
   have hs3:=c3.size
   rcases hcs with⟨ho,rfl⟩|⟨px,r2,ho,rfl,hx,hr3⟩
   ·have HV:=hidE (hv.out.trans (congrArg (Option.map λy:List Ex × List Tok=>(done++y.1,y.2)) (many_no f1 r HQ.out (HO.out.trans ho))))
    have HC3:=hidE (HC2.out.trans c3)
    clear hv ho c3 HP
    go_wp2_with fail
    go_ret2
    exact⟨HC3.out.alloc _,none,0,0,.inl ⟨by rw[HV.out];rfl,rfl,rfl⟩⟩
   ·have HV:=hidE (hv.out.trans (congrArg (Option.map λy:List Ex × List Tok=>(done++y.1,y.2)) (many_yes f1 r HQ.out px r2 (HO.out.trans ho))))
    have hg3:=HRD.out f1 _ px r2 HG2.out (HO.out.trans ho)
    have hlr:=hg3.2
    have HG3:=hidE hg3.1
    have HX:=hidE hx
    have HR3:=hidE hr3
    have C3:=hidE c3
    obtain⟨vs,hown,hrow⟩:=HBU.out
    rw[HN.out]at hown
    have HOWN:=hidE hown
    have HROW:=hidE hrow
    have hown3:=own_chgR hown c3 hb
    have HLT:=hown3.lt
    have HO3:=hidE ((hown3.alloc (.cells #[.int .i64 ek,.string ex,.bool et,.int .i64 tk,.string tx,.int .i64 tz,.slice tA tm tq,.slice KA kn kc,.slice LA ln lc] 39)).alloc (.cells #[.int .i64 ek,.string ex,.bool et,.int .i64 tk,.string tx,.int .i64 tz,.slice tA tm tq,.slice KA kn kc,.slice LA ln lc] 39))
    clear hv ho c3 HP hg3 hx hr3 hown hrow hown3 HBU
    go_wp2_with (at_builtin;refine wpList_append_own_at _ rfl (.tmp 25) (.tmp 27) 36 rfl w0.heap.size 39 i0 _ 9 136 Tryz.underlying36 hi0 hz0 hz1 hz2 rfl (by decide) _ n vs rfl HO3.out ⟨w3.heap.size+1,0,none⟩ 1 1 [.int .i64 ek,.string ex,.bool et,.int .i64 tk,.string tx,.int .i64 tz,.slice tA tm tq,.slice KA kn kc,.slice LA ln lc] rfl rfl (new_cells' _ _ _ _ (by simp)) (by intro u hu;simp at hu;rcases hu with rfl|rfl|rfl|rfl|rfl|rfl|rfl|rfl|rfl <;> rfl) (by unfold maxLen;omega) (by omega) (by simp;omega) ?_;intro v2 w5 hown5 hgrow _ hat5;obtain⟨A2,c2,rfl⟩:=own_shape hown5;have HO5:=hidE hown5;have HG5:=hidE hgrow;have HT5:=hidE hat5;clear hown5 hgrow hat5)
    have hs5:=HG5.out.size
    simp at hs5
    have hk5:∀k,k<w0.heap.size->w5.heap[k]? = w3.heap[k]?:=λk hk=>(HG5.out.block k (by simp;omega) (λe=>by have:=HLT _ e.symm;omega)).trans ((Below.heap_alloc _ _ _ (by simp;omega)).trans (Below.heap_alloc _ _ _ (by omega)))
    go_roundg r2.length
    case measure=>rw[HRN.out];omega
    case rel =>
     refine⟨r2,f1,done++[px],A2,c2,rfl,?_,HG3.out,?_,by omega,by omega,hidE (HR3.out.keep (hk5 b hb) (λg hg=>hk5 g (HS.out g hg).2)),hidE ?_,hidE ?_,hidE ((((HC2.out.trans C3.out).alloc _).alloc _).grown HG5.out (λj hj=>.inl (by have:=HLT _ hj;omega)))⟩
     ·rw[<-List.append_assoc,List.length_append,HN.out];rfl
     ·rw[List.length_append,HL.out];simp;omega
     ·rw[HV.out];simp[Function.comp_def]
     ·rw[<-List.append_assoc,show(([]:List Ex)++done++[px]).length=n+1 by rw[List.length_append,HN.out];rfl]
      exact BuiltG.next (w:=w2) (w1:=w3) hb (by omega) (by rw[HN.out];exact HOWN.out) HROW.out C3.out HX.out (((Below.refl _ w3).alloc (Nat.le_refl _) _).alloc (by simp) _) (by rw[HN.out];exact HO5.out) HG5.out HT5.out
end Go.Proofs.YtknkclefoiohpaaGreatDoor

namespace Go.Proofs.YtknkclefoiohpaaGreatDoor
open Go.RowKit Lx Tx Sx
set_option maxRecDepth 100000
theorem rdAtom_len(f1:Nat)(l:List Tok)(x:Ex)(r:List Tok)(hG:AllG l)(h:rdAtom f1 l=some (x,r)):AllG r/\r.length<l.length:=by
 obtain⟨-,h1,h2⟩:=(rd_facts f1).2.2.2.2.2.2 l x r hG h
 have:=wt_pos x
 exact⟨h1,by omega⟩
theorem many_cnt {α:Type} {nx:List Tok->Bool} {af:List Tok->List Tok} {rd:Nat->List Tok->Option (α × List Tok)}(haf:∀l,AllG l->nx l=true->AllG (af l)/\(af l).length<=l.length)
  (hrd:∀(f1:Nat)(l:List Tok)(x:α)(r:List Tok),AllG l->rd f1 l=some (x,r)->AllG r/\r.length<l.length)(f:Nat):∀(l:List Tok)(x:List α)(r:List Tok),AllG l->manyF nx af rd f l=some (x,r)->x.length+r.length<=l.length:=by
 induction f with
 | zero=>intro l x r _ h;rw[manyF]at h;cases h
 | succ f ih =>
  intro l x r hG h
  by_cases hn:nx l=true
  ·obtain⟨g1,l1⟩:=haf l hG hn
   cases ho:rd f (af l) with
   | none=>rw[many_no f l hn ho]at h;cases h
   | some y =>
    obtain⟨p,r1⟩:=y
    rw[many_yes f l hn p r1 ho]at h
    obtain⟨g2,l2⟩:=hrd f _ p r1 g1 ho
    cases hm:manyF nx af rd f r1 with
    | none=>rw[hm]at h;cases h
    | some z =>
     obtain⟨xs,r2⟩:=z
     rw[hm]at h
     simp only[Option.map_some,Option.some.injEq,Prod.mk.injEq]at h
     obtain⟨rfl,rfl⟩:=h
     have:=ih r1 xs r2 g2 hm
     simp only[List.length_cons]
     omega
  ·rw[many_end f l (by simpa using hn)]at h
   simp only[Option.some.injEq,Prod.mk.injEq]at h
   obtain⟨rfl,rfl⟩:=h
   simp
theorem LstG.ex {S:Nat->Prop} {w:World} {l:List Ex} {A:Option Addr}(h:LstG pcE S w l A)(i:Nat)(x:Ex)(hx:l[i]? = some x):∃g,A=some ⟨g,0,none⟩/\S g/\ExAt S w x g (i*9):=by
 obtain⟨hi,rfl⟩:=List.getElem?_eq_some_iff.1 hx
 obtain⟨g,h1,h2,h3⟩:=h (by intro e;rw[e]at hi;simp at hi)
 obtain⟨cs,⟨P,rfl,h4,h5⟩,h6⟩:=AtG.at_ l g 0 i hi h3
 exact⟨g,h1,h2,P,by rw[Nat.zero_add]at h6;exact h6,h4,h5⟩
def HeadAp(S:Nat->Prop)(b g4:Nat)(y:Ex)(xs:List Ex)(A:Option Addr)(r:List Tok)(ok:Bool)(w:World)(gg:Nat)(vi:Value)(wr:World):Prop :=
 ∃(i:Nat) (ek:Int) (ex:ByteArray) (et:Bool) (eK:Int) (eX:ByteArray) (eZ:Int) (eB:Option Addr) (em eq:Nat) (eKA:Option Addr) (ekn ekc:Nat) (eLA:Option Addr) (eln elc:Nat),
  gg=xs.length-i/\vi=.int .i64 (i:Nat)/\i<=xs.length /\
  Hid (Blk wr g4 39 #[.int .i64 ek,.string ex,.bool et,.int .i64 eK,.string eX,.int .i64 eZ,.slice eB em eq,.slice eKA ekn ekc,.slice eLA eln elc]) /\
  Hid (pcE.Cs (λg=>w.heap.size<g/\g≠g4/\g<wr.heap.size) wr ((xs.take i).foldl Ex.app y) [.int .i64 ek,.string ex,.bool et,.int .i64 eK,.string eX,.int .i64 eZ,.slice eB em eq,.slice eKA ekn ekc,.slice eLA eln elc]\/ok=false) /\
  Hid (LstG pcE (λg=>g4<g/\g<wr.heap.size) wr xs A)/\Hid (RdrS S wr b r\/ok=false)/\Hid (Blk wr w.heap.size 39 exZ)/\Hid (ChR b w wr)
set_option maxHeartbeats 6400000 in
theorem sx_application(f:Nat)(S:Nat->Prop)(b:Nat)(l:List Tok)(w:World)(h:RdrS S w b l)(hS:∀g,S g->g≠b/\g<w.heap.size)(hG:AllG l)(hl:l.length<=100000)(hf:3*l.length+1<=f)
  (IH:∀f1,f1<=f->GReads pcE shE S b 139 1 rdAtom f1) :
  Calls Tryz.prog 98 #[.pointer (some ⟨b,0,none⟩)] w (GPost pcE shE S b w (rdApp (f+1) l)):=by
 have hbl:=h.lt
 have hE:=IH f (Nat.le_refl _) (w.alloc (.cells exZ 39)) l (h.alloc _ (λg hg=>(hS g hg).2)) (λg hg=>⟨(hS g hg).1,by have:=(hS g hg).2;simp;omega⟩) hG hl hf
 obtain⟨O,hO⟩:∃O,rdAtom f l=O:=⟨_,rfl⟩
 rw[hO]at hE
 obtain⟨M,hM⟩:∃M,rdApp (f+1) l=M:=⟨_,rfl⟩
 rw[hM]
 rw[rdApp_eq,hO]at hM
 unfold exZ at hE
 have HE:=hidE hE
 have HM0:=hidE hM
 have HO:=hidE hO
 have HS:=hidE hS
 have HG:=hidE hG
 have HIH:=hidE IH
 clear h hS hE hM hO hG IH
 go_enter Tryz.func98,Tryz.ntmps98
 go_wp2_with fail
 refine HE.out.mono ?_
 rintro e w2 ⟨c2,cs,hsh,hcs⟩
 obtain⟨ck,cx,ct,cK,cX,cZ,cB,cm,cq,cKA,ckn,ckc,cLA,cln,clc,rfl⟩:=hsh
 have hs2:=c2.size
 simp at hs2
 have hbk:Blk w2 w.heap.size 39 exZ:=Blk.chgR (heap_alloc_new _ _) c2 (by unfold only;omega)
 have hlw:=hbk.lt
 have HBK:=hidE hbk
 have HC:=hidE c2.pre
 rcases hcs with⟨ho,rfl⟩|⟨y,r2,ho,rfl,hrd,hrr⟩
 ·subst ho
  obtain⟨⟨g0,g1,g2,g3,g4,g5,g6,g7,g8⟩,z0,z1,z2,z3,z4,z5,z6,z7,z8⟩:=z9 hbk
  clear hbk c2 HE
  go_wp2_with fail
  try simp only[Exit.inBlock,Exit.then]
  refine bodyPost_ret (results_ct rfl _ _ w.heap.size 39 _ (0,0) _ rfl ((blk_set9 _ _ _ _ _ _ _ _ _ HBK.out).alloc _) Tryz.underlying39 rfl (by kernel_rfl)) rfl ?_
  exact⟨(HC.out.set9 _ _ _ _ _ _ _ _ _ (Nat.le_refl _)).alloc _,_,⟨_,_,_,_,_,_,_,_,_,_,_,_,_,_,_,rfl⟩,.inl ⟨HM0.out.symm,rfl⟩⟩
 ·subst ho
  have hg2:=rdAtom_len f l y r2 HG.out HO.out
  obtain⟨O2,hO2⟩:∃O2,manyF atomEB id rdAtom f r2=O2:=⟨_,rfl⟩
  have HM:Hid (M=O2.map λz=>(z.1.foldl Ex.app y,z.2)):=hidE (by rw[<-HM0.out,<-hO2])
  obtain⟨W,hW⟩:∃W,w2.alloc (.cells #[.int .i64 ck,.string cx,.bool ct,.int .i64 cK,.string cX,.int .i64 cZ,.slice cB cm cq,.slice cKA ckn ckc,.slice cLA cln clc] 39)=W:=⟨_,rfl⟩
  have hbw:Below w2.heap.size w2 W:=hW▸(Below.refl _ w2).alloc (Nat.le_refl _) _
  have hsW:W.heap.size=w2.heap.size+1:=by rw[<-hW];simp
  have hb4:Blk W w2.heap.size 39 #[.int .i64 ck,.string cx,.bool ct,.int .i64 cK,.string cX,.int .i64 cZ,.slice cB cm cq,.slice cKA ckn ckc,.slice cLA cln clc]:=hW▸heap_alloc_new _ _
  have HCW:=hidE (c2.pre.below hbw)
  have HB2:=hidE (show Blk W w.heap.size 39 exZ from(hbw.block _ hlw).trans hbk)
  have HRW:=hrr.below hbw (λg hg=>by have:=(HS.out g hg).2;omega)
  have HX:=hidE (pcE.keep (S':=λg=>w.heap.size<g/\g<w2.heap.size) (λg hg=>⟨by have:=hg.1;simp at this;omega,hg.2⟩) (λg hg=>hbw.block g hg.2) hrd)
  have HB4:=hidE hb4
  have hQ:=sx_longerE f S b r2 W W HRW (λg hg=>⟨(HS.out g hg).1,by have:=(HS.out g hg).2;omega⟩) (by omega) (ChR.refl _ _) hg2.1 (by omega) (by omega) HIH.out rdAtom_len
  rw[hO2,show(O2.map λy:List Ex × List Tok=>(([]:List Ex)++y.1,y.2))=O2 by cases O2 <;> rfl]at hQ
  have HQ:=hidE hQ
  have HCNT:Hid (∀xs r,O2=some (xs,r)->xs.length<=100000):=hidE λxs r h=>by
   have:=many_cnt (nx:=atomEB) (af:=id) (λl hG _=>⟨hG,Nat.le_refl _⟩) rdAtom_len f r2 xs r hg2.1 (hO2.trans h)
   omega
  clear hbk c2 HE hrd hrr hbw hb4 HRW hg2 hO2 hQ
  go_upto_region 4 with fail
  try rw[hW]
  clear hW
  go_wp2_with fail
  refine HQ.out.mono ?_
  rintro e w3 ⟨c3,A,m,c,hcs⟩
  have hs3:=c3.size
  have hU:∃ok xs r,e=.returned (.tuple #[.slice A m c,.bool ok])/\m=xs.length/\xs.length<=100000/\LstG pcE (λg=>W.heap.size<=g/\g<w3.heap.size) w3 xs A/\(RdrS S w3 b r\/ok=false)/\M=(if ok=true then some (xs.foldl Ex.app y,r) else none):=by
   rcases hcs with⟨ho,hm,he⟩|⟨xs,r,ho,he,hm,hx,hr⟩
   ·exact⟨false,[],r2,he,hm,by simp,(λh=>absurd rfl h),.inr rfl,by rw[HM.out,ho,if_neg (by decide)];rfl⟩
   ·exact⟨true,xs,r,he,hm,HCNT.out xs r ho,hx,.inl hr,by rw[HM.out,ho,if_pos rfl];rfl⟩
  obtain⟨ok,xs,r,rfl,rfl,hxl,hxs,hrr,hM⟩:=hU
  have HM3:=hidE hM
  obtain⟨n,hn⟩:∃n,xs.length=n:=⟨_,rfl⟩
  have HN:=hidE hn
  have HH:Hid (HeadAp S b w2.heap.size y xs A r ok w n (.int .i64 0) w3):=hidE ⟨0,ck,cx,ct,cK,cX,cZ,cB,cm,cq,cKA,ckn,ckc,cLA,cln,clc,by rw[hn];rfl,rfl,by omega,hidE (HB4.out.chgR c3 (by unfold only;omega)),
   hidE (.inl (by rw[List.take_zero];exact pcE.keep (λg hg=>⟨hg.1,by omega,by omega⟩) (λg hg=>c3.block g (by omega) (by unfold only;omega)) HX.out)),hidE (hxs.keep (λg hg=>⟨by omega,hg.2⟩) (λ_ _=>rfl)),hidE hrr,hidE (HB2.out.chgR c3 (by unfold only;omega)),hidE (HCW.out.trans c3)⟩
  rw[hn]at hxl ⊢
  clear c3 HQ hcs hxs hrr hM hn HCNT HX HB4 HB2 HCW HM
  go_wp2_with fail
  go_loopg [27] n (λgg vi wr=>HeadAp S b w2.heap.size y xs A r ok w gg vi wr)
  case atStart=>exact HH.out
  case round =>
   obtain⟨i,ek,ex,et,eK,eX,eZ,eB,em,eq,eKA,ekn,ekc,eLA,eln,elc,hgg,rfl,hi,hB4,hX,hL,hR,hB2,hC⟩:=hrel
   rw[HN.out]at hgg hi
   have hsr:=hC.out.size
   obtain⟨⟨f0,f1,f2,f3,f4,f5,f6,f7,f8⟩,⟨y0,y1,y2,y3,y4,y5,y6,y7,y8⟩,hl4⟩:=blk_facts9 hB4.out
   have hgl2:w2.heap.size<wr.heap.size:=hl4
   by_cases hlt:i<n
   ·obtain⟨x,hx⟩:∃x,xs[i]? = some x:=⟨_,List.getElem?_eq_getElem (by rw[HN.out];exact hlt)⟩
    obtain⟨g,rfl,hSg,hat⟩:=hL.out.ex i x hx
    obtain⟨k1,x1,t1,K1,X1,Z1,B1,m1,q1,KA1,kn1,kc1,LA1,ln1,lc1,d0,d1,d2,d3,d4,d5,d6,d7,d8,hrd⟩:=hat.cells
    have hgl:=lt_cell d0
    have HRD:=hidE (rdX_cs.1 hrd)
    have HXI:=hidE hx
    clear hat hrd hx HH
    go_wp2_with fail
    have hstep:(xs.take (i+1)).foldl Ex.app y=.app ((xs.take i).foldl Ex.app y) x:=by rw[List.take_add_one,HXI.out];simp
    have HST:=hidE hstep
    clear hstep
    go_roundg (n-(i+1))
    case measure=>omega
    case rel =>
     refine⟨i+1,4,⟨#[]⟩,false,0,⟨#[]⟩,0,none,0,0,some ⟨wr.heap.size+1,0,none⟩,2,2,none,0,0,by rw[HN.out],by rfl,by rw[HN.out];omega,hidE (((blk_set9 _ _ _ _ _ _ _ _ _ hB4.out).alloc _).alloc _),hidE ?_,hidE (hL.out.keep (λg hg=>⟨hg.1,by simp;omega⟩) (λg hg=>?_)),hidE ?_,
      hidE ((two_new _ _ _ _ (by rw[size_set9];omega)).trans ((set9_far _ _ _ _ _ _ _ _ _ _ _ _ (by omega)).trans hB2.out)),hidE (((hC.out.set9 _ _ _ _ _ _ _ _ _ (by omega)).alloc _).alloc _)⟩
     ·rcases hX.out with hX|hX
      ·refine .inl ?_
       rw[HST.out]
       refine⟨⟨none,0,some ⟨wr.heap.size+1,0,none⟩,0,none,0⟩,by simp[exC,kdE,nmE,toE,tyE,tyC,kidsE,altsE,Sx.strV],trivial,?_⟩
       rw[ExIn]
       exact⟨_,rfl,⟨by omega,by omega,by simp⟩,kids_new (S:=λg=>w.heap.size<g/\g≠w2.heap.size/\g<wr.heap.size) hX (pcE.keep (λg hg=>⟨by omega,by omega,hg.2⟩) (λ_ _=>rfl) HRD.out) (λg hg=>⟨hg.1,hg.2.1,by simp;omega⟩) (λk hk=>(two_new _ _ _ k (by rw[size_set9];exact hk.2.2)).trans (set9_far _ _ _ _ _ _ _ _ _ _ _ _ hk.2.1)) (two_top _ _ _ _ (size_set9 _ _ _ _ _ _ _ _ _ _ _))⟩
      ·exact .inr hX
     ·exact(two_new _ _ _ g (by rw[size_set9];exact hg.2)).trans (set9_far _ _ _ _ _ _ _ _ _ _ _ _ (by omega))
     ·rcases hR.out with hR|hR
      ·exact .inl (hR.keep ((two_new _ _ _ b (by rw[size_set9];omega)).trans (set9_far _ _ _ _ _ _ _ _ _ _ _ _ (by omega))) (λk hk=>(two_new _ _ _ k (by rw[size_set9];have:=(HS.out k hk).2;omega)).trans (set9_far _ _ _ _ _ _ _ _ _ _ _ _ (by have:=(HS.out k hk).2;omega))))
      ·exact .inr hR
   ·obtain rfl:i=n:=by omega
    obtain⟨⟨g0,g1,g2,g3,g4,g5,g6,g7,g8⟩,⟨z0,z1,z2,z3,z4,z5,z6,z7,z8⟩,hl2⟩:=blk_facts9 hB2.out
    clear HH hlt
    go_wp2_with fail
    try simp only[Exit.inBlock,Exit.then]
    refine bodyPost_ret (results_ct rfl _ _ w.heap.size 39 _ (0,0) _ rfl (blk_set9 _ _ _ _ _ _ _ _ _ hB2.out) Tryz.underlying39 rfl (by kernel_rfl)) rfl ?_
    refine⟨hC.out.set9 _ _ _ _ _ _ _ _ _ (Nat.le_refl _),[.int .i64 ek,.string ex,.bool et,.int .i64 eK,.string eX,.int .i64 eZ,.slice eB em eq,.slice eKA ekn ekc,.slice eLA eln elc],⟨_,_,_,_,_,_,_,_,_,_,_,_,_,_,_,rfl⟩,?_⟩
    cases ok with
    | false=>exact .inl ⟨HM3.out,rfl⟩
    | true =>
     have hX:=hX.out.resolve_right (by decide)
     have hR:=hR.out.resolve_right (by decide)
     rw[List.take_of_length_le (by rw[HN.out];exact Nat.le_refl _)]at hX
     exact .inr ⟨_,r,HM3.out,rfl,pcE.keep (λg hg=>⟨by omega,by rw[size_set9];exact hg.2.2⟩) (λg hg=>set9_far _ _ _ _ _ _ _ _ _ _ _ _ (by omega)) hX,hR.keep (set9_far _ _ _ _ _ _ _ _ _ _ _ _ (by omega)) (λk hk=>set9_far _ _ _ _ _ _ _ _ _ _ _ _ (by have:=(HS.out k hk).2;omega))⟩
end Go.Proofs.YtknkclefoiohpaaGreatDoor

namespace Go.Proofs.YtknkclefoiohpaaGreatDoor
open Go.RowKit Lx Tx Sx
set_option maxRecDepth 100000
theorem blk_so11_2 {w:World} {g:Nat} {t:TypeId} {a0 a1 a2 a3 a4 a5 a6 a7 a8 a9 a10:Value}(b2 b3 b4 b5 b6 b7 b8 b9 b10:Value)(h:Blk w g t #[a0,a1,a2,a3,a4,a5,a6,a7,a8,a9,a10]):Blk (((((((((w.setCell ⟨g,2,none⟩ b2).setCell ⟨g,3,none⟩ b3).setCell ⟨g,4,none⟩ b4).setCell ⟨g,5,none⟩ b5).setCell ⟨g,6,none⟩ b6).setCell ⟨g,7,none⟩ b7).setCell ⟨g,8,none⟩ b8).setCell ⟨g,9,none⟩ b9).setCell ⟨g,10,none⟩ b10) g t #[a0,a1,b2,b3,b4,b5,b6,b7,b8,b9,b10]:=by
 have s:∀(W:World) (cs:Array Value) (i:Nat) (b:Value),Blk W g t cs->Blk (W.setCell ⟨g,i,none⟩ b) g t (cs.setIfInBounds i b):=λW cs i b h=>heap_setCell_same W g i _ _ b h
 have hh:=(s _ _ 10 b10 (s _ _ 9 b9 (s _ _ 8 b8 (s _ _ 7 b7 (s _ _ 6 b6 (s _ _ 5 b5 (s _ _ 4 b4 (s _ _ 3 b3 (s _ _ 2 b2 h)))))))))
 have e:((((((((((#[a0,a1,a2,a3,a4,a5,a6,a7,a8,a9,a10]:Array Value).setIfInBounds 2 b2).setIfInBounds 3 b3).setIfInBounds 4 b4).setIfInBounds 5 b5).setIfInBounds 6 b6).setIfInBounds 7 b7).setIfInBounds 8 b8).setIfInBounds 9 b9).setIfInBounds 10 b10)=#[a0,a1,b2,b3,b4,b5,b6,b7,b8,b9,b10]:=by simp
 rw[e]at hh
 exact hh
theorem ChR.so11_2 {bb:Nat} {w w':World} {g:Nat}(h:ChR bb w w')(b2 b3 b4 b5 b6 b7 b8 b9 b10:Value)(hg:w.heap.size<=g):ChR bb w (((((((((w'.setCell ⟨g,2,none⟩ b2).setCell ⟨g,3,none⟩ b3).setCell ⟨g,4,none⟩ b4).setCell ⟨g,5,none⟩ b5).setCell ⟨g,6,none⟩ b6).setCell ⟨g,7,none⟩ b7).setCell ⟨g,8,none⟩ b8).setCell ⟨g,9,none⟩ b9).setCell ⟨g,10,none⟩ b10) :=
 (((((((((h.setCell (p:=⟨g,2,none⟩) (.inl hg) b2).setCell (p:=⟨g,3,none⟩) (.inl hg) b3).setCell (p:=⟨g,4,none⟩) (.inl hg) b4).setCell (p:=⟨g,5,none⟩) (.inl hg) b5).setCell (p:=⟨g,6,none⟩) (.inl hg) b6).setCell (p:=⟨g,7,none⟩) (.inl hg) b7).setCell (p:=⟨g,8,none⟩) (.inl hg) b8).setCell (p:=⟨g,9,none⟩) (.inl hg) b9).setCell (p:=⟨g,10,none⟩) (.inl hg) b10)
theorem so11_2_far(w:World)(g k:Nat)(b2 b3 b4 b5 b6 b7 b8 b9 b10:Value)(hk:k≠g):(((((((((w.setCell ⟨g,2,none⟩ b2).setCell ⟨g,3,none⟩ b3).setCell ⟨g,4,none⟩ b4).setCell ⟨g,5,none⟩ b5).setCell ⟨g,6,none⟩ b6).setCell ⟨g,7,none⟩ b7).setCell ⟨g,8,none⟩ b8).setCell ⟨g,9,none⟩ b9).setCell ⟨g,10,none⟩ b10).heap[k]? = w.heap[k]?:=by
 rw[Below.heap_setCell _ ⟨g,10,none⟩ _ k hk,Below.heap_setCell _ ⟨g,9,none⟩ _ k hk,Below.heap_setCell _ ⟨g,8,none⟩ _ k hk,Below.heap_setCell _ ⟨g,7,none⟩ _ k hk,Below.heap_setCell _ ⟨g,6,none⟩ _ k hk,Below.heap_setCell _ ⟨g,5,none⟩ _ k hk,Below.heap_setCell _ ⟨g,4,none⟩ _ k hk,Below.heap_setCell _ ⟨g,3,none⟩ _ k hk,Below.heap_setCell _ ⟨g,2,none⟩ _ k hk]
theorem size_so11_2(w:World)(g:Nat)(b2 b3 b4 b5 b6 b7 b8 b9 b10:Value):(((((((((w.setCell ⟨g,2,none⟩ b2).setCell ⟨g,3,none⟩ b3).setCell ⟨g,4,none⟩ b4).setCell ⟨g,5,none⟩ b5).setCell ⟨g,6,none⟩ b6).setCell ⟨g,7,none⟩ b7).setCell ⟨g,8,none⟩ b8).setCell ⟨g,9,none⟩ b9).setCell ⟨g,10,none⟩ b10).heap.size=w.heap.size:=by simp
theorem blk_so17_8 {w:World} {g:Nat} {t:TypeId} {a0 a1 a2 a3 a4 a5 a6 a7 a8 a9 a10 a11 a12 a13 a14 a15 a16:Value}(b8 b9 b10 b11 b12 b13 b14 b15 b16:Value)(h:Blk w g t #[a0,a1,a2,a3,a4,a5,a6,a7,a8,a9,a10,a11,a12,a13,a14,a15,a16]):Blk (((((((((w.setCell ⟨g,8,none⟩ b8).setCell ⟨g,9,none⟩ b9).setCell ⟨g,10,none⟩ b10).setCell ⟨g,11,none⟩ b11).setCell ⟨g,12,none⟩ b12).setCell ⟨g,13,none⟩ b13).setCell ⟨g,14,none⟩ b14).setCell ⟨g,15,none⟩ b15).setCell ⟨g,16,none⟩ b16) g t #[a0,a1,a2,a3,a4,a5,a6,a7,b8,b9,b10,b11,b12,b13,b14,b15,b16]:=by
 have s:∀(W:World) (cs:Array Value) (i:Nat) (b:Value),Blk W g t cs->Blk (W.setCell ⟨g,i,none⟩ b) g t (cs.setIfInBounds i b):=λW cs i b h=>heap_setCell_same W g i _ _ b h
 have hh:=(s _ _ 16 b16 (s _ _ 15 b15 (s _ _ 14 b14 (s _ _ 13 b13 (s _ _ 12 b12 (s _ _ 11 b11 (s _ _ 10 b10 (s _ _ 9 b9 (s _ _ 8 b8 h)))))))))
 have e:((((((((((#[a0,a1,a2,a3,a4,a5,a6,a7,a8,a9,a10,a11,a12,a13,a14,a15,a16]:Array Value).setIfInBounds 8 b8).setIfInBounds 9 b9).setIfInBounds 10 b10).setIfInBounds 11 b11).setIfInBounds 12 b12).setIfInBounds 13 b13).setIfInBounds 14 b14).setIfInBounds 15 b15).setIfInBounds 16 b16)=#[a0,a1,a2,a3,a4,a5,a6,a7,b8,b9,b10,b11,b12,b13,b14,b15,b16]:=by simp
 rw[e]at hh
 exact hh
theorem ChR.so17_8 {bb:Nat} {w w':World} {g:Nat}(h:ChR bb w w')(b8 b9 b10 b11 b12 b13 b14 b15 b16:Value)(hg:w.heap.size<=g):ChR bb w (((((((((w'.setCell ⟨g,8,none⟩ b8).setCell ⟨g,9,none⟩ b9).setCell ⟨g,10,none⟩ b10).setCell ⟨g,11,none⟩ b11).setCell ⟨g,12,none⟩ b12).setCell ⟨g,13,none⟩ b13).setCell ⟨g,14,none⟩ b14).setCell ⟨g,15,none⟩ b15).setCell ⟨g,16,none⟩ b16) :=
 (((((((((h.setCell (p:=⟨g,8,none⟩) (.inl hg) b8).setCell (p:=⟨g,9,none⟩) (.inl hg) b9).setCell (p:=⟨g,10,none⟩) (.inl hg) b10).setCell (p:=⟨g,11,none⟩) (.inl hg) b11).setCell (p:=⟨g,12,none⟩) (.inl hg) b12).setCell (p:=⟨g,13,none⟩) (.inl hg) b13).setCell (p:=⟨g,14,none⟩) (.inl hg) b14).setCell (p:=⟨g,15,none⟩) (.inl hg) b15).setCell (p:=⟨g,16,none⟩) (.inl hg) b16)
theorem so17_8_far(w:World)(g k:Nat)(b8 b9 b10 b11 b12 b13 b14 b15 b16:Value)(hk:k≠g):(((((((((w.setCell ⟨g,8,none⟩ b8).setCell ⟨g,9,none⟩ b9).setCell ⟨g,10,none⟩ b10).setCell ⟨g,11,none⟩ b11).setCell ⟨g,12,none⟩ b12).setCell ⟨g,13,none⟩ b13).setCell ⟨g,14,none⟩ b14).setCell ⟨g,15,none⟩ b15).setCell ⟨g,16,none⟩ b16).heap[k]? = w.heap[k]?:=by
 rw[Below.heap_setCell _ ⟨g,16,none⟩ _ k hk,Below.heap_setCell _ ⟨g,15,none⟩ _ k hk,Below.heap_setCell _ ⟨g,14,none⟩ _ k hk,Below.heap_setCell _ ⟨g,13,none⟩ _ k hk,Below.heap_setCell _ ⟨g,12,none⟩ _ k hk,Below.heap_setCell _ ⟨g,11,none⟩ _ k hk,Below.heap_setCell _ ⟨g,10,none⟩ _ k hk,Below.heap_setCell _ ⟨g,9,none⟩ _ k hk,Below.heap_setCell _ ⟨g,8,none⟩ _ k hk]
theorem size_so17_8(w:World)(g:Nat)(b8 b9 b10 b11 b12 b13 b14 b15 b16:Value):(((((((((w.setCell ⟨g,8,none⟩ b8).setCell ⟨g,9,none⟩ b9).setCell ⟨g,10,none⟩ b10).setCell ⟨g,11,none⟩ b11).setCell ⟨g,12,none⟩ b12).setCell ⟨g,13,none⟩ b13).setCell ⟨g,14,none⟩ b14).setCell ⟨g,15,none⟩ b15).setCell ⟨g,16,none⟩ b16).heap.size=w.heap.size:=by simp
theorem blk_so17_4 {w:World} {g:Nat} {t:TypeId} {a0 a1 a2 a3 a4 a5 a6 a7 a8 a9 a10 a11 a12 a13 a14 a15 a16:Value}(b4 b5 b6 b7:Value)(h:Blk w g t #[a0,a1,a2,a3,a4,a5,a6,a7,a8,a9,a10,a11,a12,a13,a14,a15,a16]):Blk ((((w.setCell ⟨g,4,none⟩ b4).setCell ⟨g,5,none⟩ b5).setCell ⟨g,6,none⟩ b6).setCell ⟨g,7,none⟩ b7) g t #[a0,a1,a2,a3,b4,b5,b6,b7,a8,a9,a10,a11,a12,a13,a14,a15,a16]:=by
 have s:∀(W:World) (cs:Array Value) (i:Nat) (b:Value),Blk W g t cs->Blk (W.setCell ⟨g,i,none⟩ b) g t (cs.setIfInBounds i b):=λW cs i b h=>heap_setCell_same W g i _ _ b h
 have hh:=(s _ _ 7 b7 (s _ _ 6 b6 (s _ _ 5 b5 (s _ _ 4 b4 h))))
 have e:(((((#[a0,a1,a2,a3,a4,a5,a6,a7,a8,a9,a10,a11,a12,a13,a14,a15,a16]:Array Value).setIfInBounds 4 b4).setIfInBounds 5 b5).setIfInBounds 6 b6).setIfInBounds 7 b7)=#[a0,a1,a2,a3,b4,b5,b6,b7,a8,a9,a10,a11,a12,a13,a14,a15,a16]:=by simp
 rw[e]at hh
 exact hh
theorem ChR.so17_4 {bb:Nat} {w w':World} {g:Nat}(h:ChR bb w w')(b4 b5 b6 b7:Value)(hg:w.heap.size<=g):ChR bb w ((((w'.setCell ⟨g,4,none⟩ b4).setCell ⟨g,5,none⟩ b5).setCell ⟨g,6,none⟩ b6).setCell ⟨g,7,none⟩ b7) :=
 ((((h.setCell (p:=⟨g,4,none⟩) (.inl hg) b4).setCell (p:=⟨g,5,none⟩) (.inl hg) b5).setCell (p:=⟨g,6,none⟩) (.inl hg) b6).setCell (p:=⟨g,7,none⟩) (.inl hg) b7)
theorem so17_4_far(w:World)(g k:Nat)(b4 b5 b6 b7:Value)(hk:k≠g):((((w.setCell ⟨g,4,none⟩ b4).setCell ⟨g,5,none⟩ b5).setCell ⟨g,6,none⟩ b6).setCell ⟨g,7,none⟩ b7).heap[k]? = w.heap[k]?:=by
 rw[Below.heap_setCell _ ⟨g,7,none⟩ _ k hk,Below.heap_setCell _ ⟨g,6,none⟩ _ k hk,Below.heap_setCell _ ⟨g,5,none⟩ _ k hk,Below.heap_setCell _ ⟨g,4,none⟩ _ k hk]
theorem size_so17_4(w:World)(g:Nat)(b4 b5 b6 b7:Value):((((w.setCell ⟨g,4,none⟩ b4).setCell ⟨g,5,none⟩ b5).setCell ⟨g,6,none⟩ b6).setCell ⟨g,7,none⟩ b7).heap.size=w.heap.size:=by simp
theorem blk_so5_1 {w:World} {g:Nat} {t:TypeId} {a0 a1 a2 a3 a4:Value}(b1 b2 b3 b4:Value)(h:Blk w g t #[a0,a1,a2,a3,a4]):Blk ((((w.setCell ⟨g,1,none⟩ b1).setCell ⟨g,2,none⟩ b2).setCell ⟨g,3,none⟩ b3).setCell ⟨g,4,none⟩ b4) g t #[a0,b1,b2,b3,b4]:=by
 have s:∀(W:World) (cs:Array Value) (i:Nat) (b:Value),Blk W g t cs->Blk (W.setCell ⟨g,i,none⟩ b) g t (cs.setIfInBounds i b):=λW cs i b h=>heap_setCell_same W g i _ _ b h
 have hh:=(s _ _ 4 b4 (s _ _ 3 b3 (s _ _ 2 b2 (s _ _ 1 b1 h))))
 have e:(((((#[a0,a1,a2,a3,a4]:Array Value).setIfInBounds 1 b1).setIfInBounds 2 b2).setIfInBounds 3 b3).setIfInBounds 4 b4)=#[a0,b1,b2,b3,b4]:=by simp
 rw[e]at hh
 exact hh
theorem ChR.so5_1 {bb:Nat} {w w':World} {g:Nat}(h:ChR bb w w')(b1 b2 b3 b4:Value)(hg:w.heap.size<=g):ChR bb w ((((w'.setCell ⟨g,1,none⟩ b1).setCell ⟨g,2,none⟩ b2).setCell ⟨g,3,none⟩ b3).setCell ⟨g,4,none⟩ b4) :=
 ((((h.setCell (p:=⟨g,1,none⟩) (.inl hg) b1).setCell (p:=⟨g,2,none⟩) (.inl hg) b2).setCell (p:=⟨g,3,none⟩) (.inl hg) b3).setCell (p:=⟨g,4,none⟩) (.inl hg) b4)
theorem so5_1_far(w:World)(g k:Nat)(b1 b2 b3 b4:Value)(hk:k≠g):((((w.setCell ⟨g,1,none⟩ b1).setCell ⟨g,2,none⟩ b2).setCell ⟨g,3,none⟩ b3).setCell ⟨g,4,none⟩ b4).heap[k]? = w.heap[k]?:=by
 rw[Below.heap_setCell _ ⟨g,4,none⟩ _ k hk,Below.heap_setCell _ ⟨g,3,none⟩ _ k hk,Below.heap_setCell _ ⟨g,2,none⟩ _ k hk,Below.heap_setCell _ ⟨g,1,none⟩ _ k hk]
theorem size_so5_1(w:World)(g:Nat)(b1 b2 b3 b4:Value):((((w.setCell ⟨g,1,none⟩ b1).setCell ⟨g,2,none⟩ b2).setCell ⟨g,3,none⟩ b3).setCell ⟨g,4,none⟩ b4).heap.size=w.heap.size:=by simp
theorem blk_so9_3 {w:World} {g:Nat} {t:TypeId} {a0 a1 a2 a3 a4 a5 a6 a7 a8:Value}(b3 b4 b5 b6:Value)(h:Blk w g t #[a0,a1,a2,a3,a4,a5,a6,a7,a8]):Blk ((((w.setCell ⟨g,3,none⟩ b3).setCell ⟨g,4,none⟩ b4).setCell ⟨g,5,none⟩ b5).setCell ⟨g,6,none⟩ b6) g t #[a0,a1,a2,b3,b4,b5,b6,a7,a8]:=by
 have s:∀(W:World) (cs:Array Value) (i:Nat) (b:Value),Blk W g t cs->Blk (W.setCell ⟨g,i,none⟩ b) g t (cs.setIfInBounds i b):=λW cs i b h=>heap_setCell_same W g i _ _ b h
 have hh:=(s _ _ 6 b6 (s _ _ 5 b5 (s _ _ 4 b4 (s _ _ 3 b3 h))))
 have e:(((((#[a0,a1,a2,a3,a4,a5,a6,a7,a8]:Array Value).setIfInBounds 3 b3).setIfInBounds 4 b4).setIfInBounds 5 b5).setIfInBounds 6 b6)=#[a0,a1,a2,b3,b4,b5,b6,a7,a8]:=by simp
 rw[e]at hh
 exact hh
theorem ChR.so9_3 {bb:Nat} {w w':World} {g:Nat}(h:ChR bb w w')(b3 b4 b5 b6:Value)(hg:w.heap.size<=g):ChR bb w ((((w'.setCell ⟨g,3,none⟩ b3).setCell ⟨g,4,none⟩ b4).setCell ⟨g,5,none⟩ b5).setCell ⟨g,6,none⟩ b6) :=
 ((((h.setCell (p:=⟨g,3,none⟩) (.inl hg) b3).setCell (p:=⟨g,4,none⟩) (.inl hg) b4).setCell (p:=⟨g,5,none⟩) (.inl hg) b5).setCell (p:=⟨g,6,none⟩) (.inl hg) b6)
theorem so9_3_far(w:World)(g k:Nat)(b3 b4 b5 b6:Value)(hk:k≠g):((((w.setCell ⟨g,3,none⟩ b3).setCell ⟨g,4,none⟩ b4).setCell ⟨g,5,none⟩ b5).setCell ⟨g,6,none⟩ b6).heap[k]? = w.heap[k]?:=by
 rw[Below.heap_setCell _ ⟨g,6,none⟩ _ k hk,Below.heap_setCell _ ⟨g,5,none⟩ _ k hk,Below.heap_setCell _ ⟨g,4,none⟩ _ k hk,Below.heap_setCell _ ⟨g,3,none⟩ _ k hk]
theorem size_so9_3(w:World)(g:Nat)(b3 b4 b5 b6:Value):((((w.setCell ⟨g,3,none⟩ b3).setCell ⟨g,4,none⟩ b4).setCell ⟨g,5,none⟩ b5).setCell ⟨g,6,none⟩ b6).heap.size=w.heap.size:=by simp
end Go.Proofs.YtknkclefoiohpaaGreatDoor

namespace Go.Proofs.YtknkclefoiohpaaGreatDoor
open Go.RowKit Lx Tx Sx
set_option maxRecDepth 100000
theorem own_le {w:World} {B z:Nat} {e:TypeId} {A:Option Addr} {n c:Nat} {xs:List Value}(h:w.ownsRow B e z (.slice A n c) n xs):n<=c:=by
 rcases h.2 with⟨-,h0⟩|⟨g,cap,cur,h3,-,-,h4,-⟩
 ·omega
 ·injection h3 with e1 e2 e3
  omega
theorem nmsIn_own {w:World} {B:Nat} {e:TypeId} {A:Option Addr} {n c:Nat} {names:List (List UInt8)}(h:w.ownsRow B e 1 (.slice A n c) n (strV names)):NmsIn (λg=>B<=g/\g<w.heap.size) w names A:=λhn=>by
 have hc:=λg hg=>h.cells (g:=g) hg
 have hlt:=h.lt
 have hl:=h.1
 rcases h.2 with⟨h3,h0⟩|⟨g,cap,cur,h3,_⟩
 ·subst h0
  exfalso
  rw[Nat.zero_mul]at hl
  have:names.length=0:=by simpa[strV] using hl
  exact hn (List.length_eq_zero_iff.1 this)
 ·injection h3 with e1 e2 e3
  subst e1
  refine⟨g,rfl,hlt g rfl,λj u hu=>?_⟩
  have hadd:(⟨g,0,none⟩:Addr).add j=⟨g,j,none⟩:=by unfold Addr.add;split <;> simp_all
  have:=hc g rfl j u hu
  rw[hadd]at this
  rw[Nat.zero_add];exact this
def altZ:Array Value:=#[.string ⟨#[]⟩,.slice none 0 0,.int .i64 0,.string ⟨#[]⟩,.bool false,.int .i64 0,.string ⟨#[]⟩,.int .i64 0,.slice none 0 0,.slice none 0 0,.slice none 0 0]
def altG(f:Nat)(x:Nm)(o:List Nm × List Tok):Option (Al × List Tok):=if isHd o.2 6 [45,62]=true then(rdE f o.2.tail).map λz=>(.mk x o.1 z.1,z.2) else none
theorem rdAlt_eq'(f:Nat)(l:List Tok):rdAlt f l=if(hd l).kind=2 then altG f (hd l).text (vars l.tail) else none:=rdAlt_eq f l
set_option maxHeartbeats 6400000 in
theorem sx_alternative(f:Nat)(S:Nat->Prop)(b:Nat)(l:List Tok)(w:World)(h:RdrS S w b l)(hS:∀g,S g->g≠b/\g<w.heap.size)(hG:AllG l)(hl:l.length<=100000)(hf:3*l.length<=f)
  (IH:GReads pcE shE S b 42 3 rdE f) :
  Calls Tryz.prog 138 #[.pointer (some ⟨b,0,none⟩)] w (GPost pcA shA S b w (rdAlt f l)):=by
 have hbl:=h.lt
 have hV:=sx_takeAnyR S b l 2 2 rfl (w.alloc (.cells altZ 170)) (h.alloc _ (λg hg=>(hS g hg).2)) (λg hg=>⟨(hS g hg).1,by have:=(hS g hg).2;simp;omega⟩) hl (by decide)
 unfold altZ at hV
 obtain⟨M,hM⟩:∃M,rdAlt f l=M:=⟨_,rfl⟩
 rw[hM]
 rw[rdAlt_eq']at hM
 obtain⟨q,hq⟩:∃q,((hd l).kind==2)=q:=⟨_,rfl⟩
 rw[hq]at hV
 obtain⟨X,hX⟩:∃X,anyT l 2=X:=⟨_,rfl⟩
 obtain⟨r2,hr2⟩:∃x,anyR l 2=x:=⟨_,rfl⟩
 rw[hX,hr2]at hV
 have HV:=hidE hV
 have HS:=hidE hS
 clear h hS hV
 cases q with
 | false =>
  have hk:¬(hd l).kind=2:=by simpa using hq
  rw[if_neg hk]at hM
  have HM:=hidE hM
  clear hk hq hf IH hG hl hM hX hr2
  go_enter Tryz.func138,Tryz.ntmps138
  go_wp2_with fail
  refine HV.out.mono ?_
  rintro e w1 ⟨rfl,r1,c1⟩
  have hs1:=c1.size
  simp at hs1
  have hbk:Blk w1 w.heap.size 170 altZ:=Blk.chgR (heap_alloc_new _ _) c1 (by unfold only;omega)
  unfold altZ at hbk
  obtain⟨⟨g0,g1,g2,g3,g4,g5,g6,g7,g8,g9,g10⟩,⟨z0,z1,z2,z3,z4,z5,z6,z7,z8,z9,z10⟩,hlw⟩:=blk_facts11 hbk
  have HBK:Hid (Blk (w1.setCell ⟨w.heap.size,0,none⟩ (.string X)) w.heap.size 170 #[.string X,.slice none 0 0,.int .i64 0,.string ⟨#[]⟩,.bool false,.int .i64 0,.string ⟨#[]⟩,.int .i64 0,.slice none 0 0,.slice none 0 0,.slice none 0 0]):=hidE (heap_setCell_same _ _ 0 _ _ _ hbk)
  have HC:=hidE c1.pre
  clear hbk c1 r1 HV
  go_wp2_with fail
  try simp only[Exit.inBlock,Exit.then]
  refine bodyPost_ret (results_ct rfl _ _ w.heap.size 170 _ (0,0) _ rfl (blk_set11 _ _ _ _ _ _ _ _ _ _ _ HBK.out) Tryz.underlying170 rfl (by kernel_rfl)) rfl ?_
  exact⟨(HC.out.setCell (.inl (Nat.le_refl _)) _).set11 _ _ _ _ _ _ _ _ _ _ _ (Nat.le_refl _),_,⟨_,_,_,_,_,_,_,_,_,_,_,_,_,_,_,_,_,_,_,rfl⟩,.inl ⟨HM.out.symm,rfl⟩⟩
 | true =>
  have hk:(hd l).kind=2:=by simpa using hq
  have hX2:(hd l).text=X.data.toList:=by rw[<-hX,anyT,if_pos hk]
  have hr3:l.tail=r2:=by rw[<-hr2,anyR,if_pos hk]
  rw[if_pos hk,hX2,hr3]at hM
  obtain⟨l',e1,e2⟩:=hd_cons (l:=l) (by rw[hk];decide)
  rw[hr3]at e2
  have hln:r2.length+1=l.length:=by rw[e1,e2];rfl
  have hG2:AllG r2:=by rw[<-hr3];exact AllG.tail' hG
  obtain⟨v1,v2,v3⟩:=vars_spec r2 hG2
  obtain⟨⟨ns,r3⟩,hV2⟩:∃o,vars r2=o:=⟨_,rfl⟩
  have hVR:=λ(W:World) (hr:RdrS S W b r2) (hw:w.heap.size<=W.heap.size)=>sx_variablesR S b r2 W hr (λg hg=>⟨(HS.out g hg).1,by have:=(HS.out g hg).2;omega⟩) (by omega)
  rw[hV2]at hM v2 v3 hVR
  have HM:=hidE hM
  have HVR:=hidE hVR
  have HIH:=hidE IH
  have HG3:Hid (AllG r3):=hidE v2
  have HL3:Hid (r3.length<=100000/\3*r3.length+3<=f/\ns.length<=100000):=hidE (by have:=v3;simp only at this;omega)
  clear hk hq IH hG hl hf hX hr2 hX2 hr3 e1 e2 hln hG2 hM hVR hV2 v1 v2 v3
  go_enter Tryz.func138,Tryz.ntmps138
  go_wp2_with fail
  refine HV.out.mono ?_
  rintro e w1 ⟨rfl,r1,c1⟩
  have hs1:=c1.size
  simp at hs1
  have hbk:Blk w1 w.heap.size 170 altZ:=Blk.chgR (heap_alloc_new _ _) c1 (by unfold only;omega)
  unfold altZ at hbk
  obtain⟨⟨g0,g1,g2,g3,g4,g5,g6,g7,g8,g9,g10⟩,⟨z0,z1,z2,z3,z4,z5,z6,z7,z8,z9,z10⟩,hlw⟩:=blk_facts11 hbk
  obtain⟨W1,hW1⟩:∃W,w1.setCell ⟨w.heap.size,0,none⟩ (.string X)=W:=⟨_,rfl⟩
  have hs1':W1.heap.size=w1.heap.size:=by rw[<-hW1];simp
  have HB1:Hid (Blk W1 w.heap.size 170 #[.string X,.slice none 0 0,.int .i64 0,.string ⟨#[]⟩,.bool false,.int .i64 0,.string ⟨#[]⟩,.int .i64 0,.slice none 0 0,.slice none 0 0,.slice none 0 0]):=hidE (hW1▸heap_setCell_same _ _ 0 _ _ _ hbk)
  have HC1:Hid (ChR b w W1):=hidE (hW1▸c1.pre.setCell (.inl (Nat.le_refl _)) _)
  have HR1:RdrS S W1 b r2:=hW1▸r1.keep (Below.heap_setCell _ ⟨w.heap.size,0,none⟩ _ b (by intro e;simp at e;omega)) (λg hg=>Below.heap_setCell _ ⟨w.heap.size,0,none⟩ _ g (by intro e;simp at e;have:=(HS.out g hg).2;omega))
  have HP:=hidE (HVR.out W1 HR1 (by omega))
  clear hbk c1 r1 HV HVR HR1
  go_upto_region 4 with fail
  try rw[hW1]
  clear hW1 g0 g1 g2 g3 g4 g5 g6 g7 g8 g9 g10 z0 z1 z2 z3 z4 z5 z6 z7 z8 z9 z10
  go_wp2_with fail
  refine HP.out.mono ?_
  rintro e w2 ⟨V,c,rfl,hown,hr2,c2⟩
  have hs2:=c2.size
  try simp only at hown
  obtain⟨n,hn⟩:∃n,ns.length=n:=⟨_,rfl⟩
  rw[hn]at hown
  have HN:=hidE hn
  have HCAP:Hid (ns.length<=c):=hidE (by rw[hn];exact own_le hown)
  have hb2:=HB1.out.chgR c2 (by unfold only;omega)
  obtain⟨⟨g0,g1,g2,g3,g4,g5,g6,g7,g8,g9,g10⟩,⟨z0,z1,z2,z3,z4,z5,z6,z7,z8,z9,z10⟩,hlw2⟩:=blk_facts11 hb2
  obtain⟨W2,hW2⟩:∃W,w2.setCell ⟨w.heap.size,1,none⟩ (.slice V n c)=W:=⟨_,rfl⟩
  have hs2':W2.heap.size=w2.heap.size:=by rw[<-hW2];simp
  have HB2:Hid (Blk W2 w.heap.size 170 #[.string X,.slice V n c,.int .i64 0,.string ⟨#[]⟩,.bool false,.int .i64 0,.string ⟨#[]⟩,.int .i64 0,.slice none 0 0,.slice none 0 0,.slice none 0 0]):=hidE (hW2▸heap_setCell_same _ _ 1 _ _ _ hb2)
  have HC2:Hid (ChR b w W2):=hidE (hW2▸(HC1.out.trans c2).setCell (.inl (Nat.le_refl _)) _)
  have hR2:RdrS S W2 b r3:=hW2▸hr2.keep (Below.heap_setCell _ ⟨w.heap.size,1,none⟩ _ b (by intro e;simp at e;omega)) (λg hg=>Below.heap_setCell _ ⟨w.heap.size,1,none⟩ _ g (by intro e;simp at e;have:=(HS.out g hg).2;omega))
  have HNM:Hid (NmsIn (λg=>w.heap.size<g/\g<w2.heap.size) W2 ns V):=hidE ((nmsIn_own hown).keep (λg hg=>⟨by omega,hg.2⟩) (λg hg=>hW2▸Below.heap_setCell _ ⟨w.heap.size,1,none⟩ _ g (by intro e;simp at e;omega)))
  have hSG:=sx_signR S b r3 ⟨#[45,62]⟩ W2 hR2 (λg hg=>⟨(HS.out g hg).1,by have:=(HS.out g hg).2;omega⟩) HL3.out.1
  rw[show(⟨#[45,62]⟩:ByteArray).data.toList=[45,62] from rfl,took]at hSG
  obtain⟨q2,hq2⟩:∃q,isHd r3 6 [45,62]=q:=⟨_,rfl⟩
  rw[hq2]at hSG
  have HSG:=hidE hSG
  have HQ2:=hidE hq2
  clear hb2 c2 hr2 hR2 hown hn hSG hq2 HP HB1 HC1
  go_upto_region 5 with fail
  rw[HN.out]
  try rw[hW2]
  clear hW2 g0 g1 g2 g3 g4 g5 g6 g7 g8 g9 g10 z0 z1 z2 z3 z4 z5 z6 z7 z8 z9 z10
  go_wp2_with fail
  refine HSG.out.mono ?_
  rintro e w3 ⟨rfl,hr3,c3⟩
  have hs3:=c3.size
  have hb3:=HB2.out.chgR c3 (by unfold only;omega)
  have HB3:=hidE hb3
  have HC3:=hidE (HC2.out.trans c3)
  have HNM:=hidE (HNM.out.keep (λg hg=>hg) (λg hg=>c3.block g (by omega) (by unfold only;omega)))
  obtain⟨⟨g0,g1,g2,g3,g4,g5,g6,g7,g8,g9,g10⟩,⟨z0,z1,z2,z3,z4,z5,z6,z7,z8,z9,z10⟩,hlw3⟩:=blk_facts11 hb3
  clear hb3 c3 HSG
  cases q2 with
  | false =>
   have HM2:Hid (M=none):=hidE (by rw[<-HM.out,altG,HQ2.out,if_neg (by decide)])
   clear hr3
   go_wp2_with fail
   try simp only[Exit.inBlock,Exit.then]
   refine bodyPost_ret (results_ct rfl _ _ w.heap.size 170 _ (0,0) _ rfl (blk_set11 _ _ _ _ _ _ _ _ _ _ _ HB3.out) Tryz.underlying170 rfl (by kernel_rfl)) rfl ?_
   exact⟨HC3.out.set11 _ _ _ _ _ _ _ _ _ _ _ (Nat.le_refl _),_,⟨_,_,_,_,_,_,_,_,_,_,_,_,_,_,_,_,_,_,_,rfl⟩,.inl ⟨HM2.out,rfl⟩⟩
  | true =>
   rw[if_pos rfl]at hr3
   obtain⟨t0,r0,e0,-,-⟩:=isHd_ne r3 6 [45,62] (by decide) HQ2.out
   have hE:=HIH.out w3 r3.tail hr3 (λg hg=>⟨(HS.out g hg).1,by have:=(HS.out g hg).2;omega⟩) (AllG.tail' HG3.out) (by have:=HL3.out.1;rw[e0]at this ⊢;simp at this ⊢;omega) (by have:=HL3.out.2.1;rw[e0]at this ⊢;simp at this ⊢;omega)
   have HM2:Hid (M=(rdE f r3.tail).map λz=>(Al.mk X.data.toList ns z.1,z.2)):=hidE (by rw[<-HM.out,altG,HQ2.out,if_pos rfl])
   obtain⟨O,hO⟩:∃O,rdE f r3.tail=O:=⟨_,rfl⟩
   rw[hO]at hE HM2
   have HE:=hidE hE
   clear hr3 e0 hE hO g0 g1 g2 g3 g4 g5 g6 g7 g8 g9 g10 z0 z1 z2 z3 z4 z5 z6 z7 z8 z9 z10
   go_wp2_with fail
   refine HE.out.mono ?_
   rintro e w4 ⟨c4,cs,hsh,hcs⟩
   obtain⟨ck,cx,ct,cK,cX,cZ,cB,cm,cq,cKA,ckn,ckc,cLA,cln,clc,rfl⟩:=hsh
   have hs4:=c4.size
   have hb4:=HB3.out.chgR c4 (by unfold only;omega)
   obtain⟨⟨g0,g1,g2,g3,g4,g5,g6,g7,g8,g9,g10⟩,⟨z0,z1,z2,z3,z4,z5,z6,z7,z8,z9,z10⟩,hlw4⟩:=blk_facts11 hb4
   obtain⟨W4,hW4⟩:∃W,(((((((((w4.setCell ⟨w.heap.size,2,none⟩ (.int .i64 ck)).setCell ⟨w.heap.size,3,none⟩ (.string cx)).setCell ⟨w.heap.size,4,none⟩ (.bool ct)).setCell ⟨w.heap.size,5,none⟩ (.int .i64 cK)).setCell ⟨w.heap.size,6,none⟩ (.string cX)).setCell ⟨w.heap.size,7,none⟩ (.int .i64 cZ)).setCell ⟨w.heap.size,8,none⟩ (.slice cB cm cq)).setCell ⟨w.heap.size,9,none⟩ (.slice cKA ckn ckc)).setCell ⟨w.heap.size,10,none⟩ (.slice cLA cln clc))=W:=⟨_,rfl⟩
   have hfar:∀k,k≠w.heap.size->W4.heap[k]? = w4.heap[k]?:=λk hk=>hW4▸so11_2_far w4 w.heap.size k _ _ _ _ _ _ _ _ _ hk
   have hsz4:W4.heap.size=w4.heap.size:=hW4▸size_so11_2 w4 w.heap.size _ _ _ _ _ _ _ _ _
   have hB4:Blk W4 w.heap.size 170 #[.string X,.slice V n c,.int .i64 ck,.string cx,.bool ct,.int .i64 cK,.string cX,.int .i64 cZ,.slice cB cm cq,.slice cKA ckn ckc,.slice cLA cln clc]:=hW4▸blk_so11_2 _ _ _ _ _ _ _ _ _ hb4
   have hC4:ChR b w W4:=hW4▸(HC3.out.trans c4).so11_2 _ _ _ _ _ _ _ _ _ (Nat.le_refl _)
   have HB4:=hidE hB4
   have HC4:=hidE hC4
   have HNM:=hidE (HNM.out.keep (λg hg=>hg) (λg hg=>(hfar g (by omega)).trans (c4.block g (by omega) (by unfold only;omega))))
   have HFAR:=hidE hfar
   clear hb4 c4 HE hfar hB4 hC4
   have hU:∃ok,e=.returned (.tuple #[.agg #[.int .i64 ck,.string cx,.bool ct,.int .i64 cK,.string cX,.int .i64 cZ,.slice cB cm cq,.slice cKA ckn ckc,.slice cLA cln clc],.bool ok])/\((ok=false/\M=none)\/(ok=true/\∃y r,M=some (.mk X.data.toList ns y,r) /\
     pcE.Cs (λg=>w3.heap.size<=g/\g<w4.heap.size) w4 y [.int .i64 ck,.string cx,.bool ct,.int .i64 cK,.string cX,.int .i64 cZ,.slice cB cm cq,.slice cKA ckn ckc,.slice cLA cln clc]/\RdrS S w4 b r)):=by
    rcases hcs with⟨ho,he⟩|⟨y,r,ho,he,hx,hr⟩
    ·exact⟨false,he,.inl ⟨rfl,by rw[HM2.out,ho];rfl⟩⟩
    ·exact⟨true,he,.inr ⟨rfl,y,r,by rw[HM2.out,ho];rfl,hx,hr⟩⟩
   obtain⟨ok,rfl,hU⟩:=hU
   have HU:=hidE hU
   clear hU hcs
   go_upto_region 8 with fail
   try rw[hW4]
   clear hW4 g0 g1 g2 g3 g4 g5 g6 g7 g8 g9 g10 z0 z1 z2 z3 z4 z5 z6 z7 z8 z9 z10
   obtain⟨⟨g0,g1,g2,g3,g4,g5,g6,g7,g8,g9,g10⟩,⟨z0,z1,z2,z3,z4,z5,z6,z7,z8,z9,z10⟩,hlw5⟩:=blk_facts11 HB4.out
   go_wp2_with fail
   try simp only[Exit.inBlock,Exit.then]
   refine bodyPost_ret (results_ct rfl _ _ w.heap.size 170 _ (0,0) _ rfl (blk_set11 _ _ _ _ _ _ _ _ _ _ _ HB4.out) Tryz.underlying170 rfl (by kernel_rfl)) rfl ?_
   refine⟨HC4.out.set11 _ _ _ _ _ _ _ _ _ _ _ (Nat.le_refl _),[.string X,.slice V n c,.int .i64 ck,.string cx,.bool ct,.int .i64 cK,.string cX,.int .i64 cZ,.slice cB cm cq,.slice cKA ckn ckc,.slice cLA cln clc],⟨_,_,_,_,_,_,_,_,_,_,_,_,_,_,_,_,_,_,_,rfl⟩,?_⟩
   rcases HU.out with⟨rfl,hM⟩|⟨rfl,y,r,hM,hx,hr⟩
   ·exact .inl ⟨hM,rfl⟩
   ·refine .inr ⟨_,r,hM,rfl,?_,hr.keep ((set11_far _ _ _ _ _ _ _ _ _ _ _ _ _ _ (by omega)).trans (HFAR.out _ (by omega))) (λk hk=>(set11_far _ _ _ _ _ _ _ _ _ _ _ _ _ _ (by have:=(HS.out k hk).2;omega)).trans (HFAR.out _ (by have:=(HS.out k hk).2;omega)))⟩
    obtain⟨P,hP,h2,h3⟩:=pcE.keep (S':=λg=>w.heap.size<g/\g<w4.heap.size) (λg hg=>⟨by omega,hg.2⟩) (λ_ _=>rfl) hx
    have hk:∀g,(w.heap.size<g/\g<w4.heap.size)->_:=λg hg=>(set11_far W4 w.heap.size g (.string X) (.slice V n c) (.int .i64 ck) (.string cx) (.bool ct) (.int .i64 cK) (.string cX) (.int .i64 cZ) (.slice cB cm cq) (.slice cKA ckn ckc) (.slice cLA cln clc) (by omega)).trans (HFAR.out g (by omega))
    refine⟨V,⟨c,HCAP.out⟩,P,by show _=[Sx.strV _,.slice V ns.length c]++exC _ P;rw[<-hP,HN.out];simp[Sx.strV],(HNM.out.keep (λg hg=>⟨by omega,by rw[size_set11];omega⟩) (λg hg=>set11_far _ _ _ _ _ _ _ _ _ _ _ _ _ _ (by omega))),h2.keep (λg hg=>⟨by omega,by rw[size_set11];omega⟩) hk,ExIn.keep (λg hg=>⟨by omega,by rw[size_set11];omega⟩) hk y _ _ h3⟩
end Go.Proofs.YtknkclefoiohpaaGreatDoor

namespace Go.Proofs.YtknkclefoiohpaaGreatDoor
open Go.RowKit Lx Tx Sx
set_option maxRecDepth 100000
set_option maxHeartbeats 400000 in
theorem nx_sepA(S:Nat->Prop)(b bx:Nat)(l:List Tok)(w:World)(h:RdrS S w b l)(hbx:w.cell? ⟨bx,0,none⟩=some (.pointer (some ⟨b,0,none⟩)))(hS:∀g,S g->g≠b/\g<w.heap.size)(hl:l.length<=100000) :
  Calls Tryz.prog 189 #[.pointer (some ⟨bx,0,none⟩)] w λe w'=>e=.returned (.bool (semB l))/\RdrS S w' b (if semB l=true then l.tail else l)/\ChR b w w':=by
 have HT:=hidE (sx_signR S b l ⟨#[59]⟩ w h hS hl)
 rw[show(⟨#[59]⟩:ByteArray).data.toList=[59] from rfl,took]at HT
 unfold semB
 obtain⟨q,hq⟩:∃q,isHd l 6 [59]=q:=⟨_,rfl⟩
 rw[hq]at HT ⊢
 obtain⟨L2,hL2⟩:∃x,(if q=true then l.tail else l)=x:=⟨_,rfl⟩
 rw[hL2]at HT ⊢
 have hbl:=lt_cell hbx
 have hb:=h.lt
 clear h hS hl hq hL2
 go_enter Tryz.func189,Tryz.ntmps189
 go_wp2_with fail
 refine HT.out.mono ?_
 rintro e w1 ⟨rfl,r1,b1⟩
 have R1:=hidE r1
 have B1:=hidE b1
 clear r1 b1 HT
 go_wp2_with fail
 go_ret
 exact⟨rfl,R1.out,B1.out⟩
theorem infoA:(Tryz.prog.info? 170).map (λi=>(i.zero,i.size,i.bytes))=some (some (.agg #[.string ⟨#[]⟩,.slice none 0 0,.int .i64 0,.string ⟨#[]⟩,.bool false,.int .i64 0,.string ⟨#[]⟩,.int .i64 0,.slice none 0 0,.slice none 0 0,.slice none 0 0]),11,176):=by kernel_rfl
set_option maxHeartbeats 3200000 in
theorem sx_longerA(f:Nat)(S:Nat->Prop)(b:Nat)(l:List Tok)(w0 w:World)(x0:Al)(g0 bx:Nat)(hbx:w0.cell? ⟨bx,0,none⟩=some (.pointer (some ⟨b,0,none⟩)))(hbb:bx≠b)(h0:BuiltG pcA w0.heap.size 170 w [x0] (.slice (some ⟨g0,0,none⟩) 1 1))(h:RdrS S w b l)(hS:∀g,S g->g≠b/\g<w0.heap.size)(hb:b<w0.heap.size)(hc0:ChR b w0 w)(hG:AllG l)(hl:l.length<=100000)(hf:3*l.length+1<=f)
  (IH:∀f1,f1<=f->GReads pcA shA S b 138 0 rdAlt f1)(hrd:∀(f1:Nat)(l:List Tok)(x:Al)(r:List Tok),AllG l->rdAlt f1 l=some (x,r)->AllG r/\r.length<l.length) :
  Calls Tryz.prog 188 #[.slice (some ⟨g0,0,none⟩) 1 1,.func (.func 189) #[] #[.pointer (some ⟨bx,0,none⟩)],.func (.func 138) #[.pointer (some ⟨b,0,none⟩)] #[]] w
   (LPost pcA S b w0 ((manyF semB List.tail rdAlt f l).map λy=>([x0]++y.1,y.2))):=by
 obtain⟨i0,hi0,hz0,hz1,hz2⟩:=info_parts infoA
 have hbl:=lt_cell hbx
 have hcell:∀wr,ChR b w0 wr->wr.cell? ⟨bx,0,none⟩=some (.pointer (some ⟨b,0,none⟩)):=λwr h=>(World.cell?_of_block (a:=⟨bx,0,none⟩) (h.block bx hbl (by unfold only;omega))).trans hbx
 have HCELL:=hidE hcell
 obtain⟨L,hL⟩:∃L,l.length=L:=⟨_,rfl⟩
 have HL:=hidE hL
 have HS:=hidE hS
 have HIH:=hidE IH
 have HRD:=hidE hrd
 have HH:Hid (HeadG pcA semB List.tail rdAlt S b w0.heap.size 1 f 170 [x0] l w0 L (.slice (some ⟨g0,0,none⟩) 1 1) w):=hidE ⟨l,f,[],some ⟨g0,0,none⟩,1,hL.symm,rfl,hG,by simp,hf,Nat.le_refl _,hidE h,hidE (by simp),hidE (by rw[List.append_nil];exact h0),hidE hc0⟩
 rw[hL]at hl hf
 clear h hS hL IH hrd hc0 h0 hbx hcell
 go_enter Tryz.func188,Tryz.ntmps188
 go_wp2_with fail
 go_loopg [0] L (λgg v wr=>HeadG pcA semB List.tail rdAlt S b w0.heap.size 1 f 170 [x0] l w0 gg v wr)
 case atStart=>exact HH.out
 case round =>
  obtain⟨r,f',done,A,c,rfl,rfl,hG',hle,hf1,hf2,hr,hv,hbu,hc⟩:=hrel
  rw[HL.out]at hle
  have hsz:=hc.out.size
  obtain⟨f1,rfl⟩:∃f1,f'=f1+1:=⟨f'-1,by omega⟩
  obtain⟨n,hn⟩:∃n,([x0]++done).length=n:=⟨_,rfl⟩
  have hn':n<=1+done.length:=by rw[<-hn];simp <;> omega
  rw[hn]at hbu ⊢
  have HN:=hidE hn
  obtain⟨rn,hrn⟩:∃n,r.length=n:=⟨_,rfl⟩
  have HRN:=hidE hrn
  rw[hrn]at hle hf1
  have hA:=hidE (nx_sepA S b bx r wr hr.out (HCELL.out wr hc.out) (λg hg=>⟨(HS.out g hg).1,by have:=(HS.out g hg).2;omega⟩) (by rw[hrn];omega))
  have HG':=hidE hG'
  clear hn hrn HH hG'
  obtain⟨q,hq⟩:∃q,semB r=q:=⟨_,rfl⟩
  rw[hq]at hA
  have HQ:=hidE hq
  clear hq
  go_wp2_with fail
  refine hA.out.mono ?_
  rintro e w2 ⟨rfl,hr2,c2⟩
  have hs2:=c2.size
  have HC2:=hidE (hc.out.trans c2)
  have HBU:=hidE (hbu.out.chgR c2 hb)
  clear c2 hA hbu
  cases q with
  | false =>
   rw[if_neg (by decide)]at hr2
   have HR2:=hidE hr2
   have HV:=hidE (hv.out.trans (congrArg (Option.map λy:List Al × List Tok=>(done++y.1,y.2)) (many_end f1 r HQ.out)))
   clear hr2 hv
   go_wp2_with fail
   go_ret2
   refine⟨HC2.out,A,n,c,.inr ⟨[x0]++done,r,by rw[HV.out];simp,rfl,HN.out.symm,HBU.out.lst.2,HR2.out⟩⟩
  | true =>
   rw[if_pos rfl]at hr2
   obtain⟨hg2,hl2,hf3⟩:=nx_sep_af r HG'.out HQ.out
   rw[HRN.out]at hl2 hf3
   have HP:=hidE (HIH.out f1 (by omega) w2 _ hr2 (λg hg=>⟨(HS.out g hg).1,by have:=(HS.out g hg).2;omega⟩) hg2 (by omega) (by omega))
   obtain⟨O,hO⟩:∃O,rdAlt f1 (List.tail r)=O:=⟨_,rfl⟩
   have HO:=hidE hO
   have HG2:=hidE hg2
   rw[hO]at HP
   clear hr2 hg2 hO
   go_wp2_with fail
   refine HP.out.mono ?_
   rintro e w3 ⟨c3,cs,hsh,hcs⟩
   obtain⟨s,V,vm,vq,ek,ex,et,tk,tx,tz,tA,tm,tq,KA,kn,kc,LA,ln,lc,rfl⟩:=hsh
   have hs3:=c3.size
   rcases hcs with⟨ho,rfl⟩|⟨px,r2,ho,rfl,hx,hr3⟩
   ·have HV:=hidE (hv.out.trans (congrArg (Option.map λy:List Al × List Tok=>(done++y.1,y.2)) (many_no f1 r HQ.out (HO.out.trans ho))))
    have HC3:=hidE (HC2.out.trans c3)
    clear hv ho c3 HP
    go_wp2_with fail
    go_ret2
    exact⟨HC3.out.alloc _,none,0,0,.inl ⟨by rw[HV.out];rfl,rfl⟩⟩
   ·have HV:=hidE (hv.out.trans (congrArg (Option.map λy:List Al × List Tok=>(done++y.1,y.2)) (many_yes f1 r HQ.out px r2 (HO.out.trans ho))))
    have hg3:=HRD.out f1 _ px r2 HG2.out (HO.out.trans ho)
    have hlr:=hg3.2
    have HG3:=hidE hg3.1
    have HX:=hidE hx
    have HR3:=hidE hr3
    have C3:=hidE c3
    obtain⟨vs,hown,hrow⟩:=HBU.out
    rw[HN.out]at hown
    have HOWN:=hidE hown
    have HROW:=hidE hrow
    have hown3:=own_chgR hown c3 hb
    have HLT:=hown3.lt
    have HO3:=hidE ((hown3.alloc (.cells #[.string s,.slice V vm vq,.int .i64 ek,.string ex,.bool et,.int .i64 tk,.string tx,.int .i64 tz,.slice tA tm tq,.slice KA kn kc,.slice LA ln lc] 170)).alloc (.cells #[.string s,.slice V vm vq,.int .i64 ek,.string ex,.bool et,.int .i64 tk,.string tx,.int .i64 tz,.slice tA tm tq,.slice KA kn kc,.slice LA ln lc] 170))
    clear hv ho c3 HP hg3 hx hr3 hown hrow hown3 HBU
    go_wp2_with (at_builtin;refine wpList_append_own_at _ rfl (.tmp 25) (.tmp 27) 37 rfl w0.heap.size 170 i0 _ 11 176 Tryz.underlying37 hi0 hz0 hz1 hz2 rfl (by decide) _ n vs rfl HO3.out ⟨w3.heap.size+1,0,none⟩ 1 1 [.string s,.slice V vm vq,.int .i64 ek,.string ex,.bool et,.int .i64 tk,.string tx,.int .i64 tz,.slice tA tm tq,.slice KA kn kc,.slice LA ln lc] rfl rfl (new_cells' _ _ _ _ (by simp)) (by intro u hu;simp at hu;rcases hu with rfl|rfl|rfl|rfl|rfl|rfl|rfl|rfl|rfl|rfl|rfl <;> rfl) (by unfold maxLen;omega) (by omega) (by simp;omega) ?_;intro v2 w5 hown5 hgrow _ hat5;obtain⟨A2,c2,rfl⟩:=own_shape hown5;have HO5:=hidE hown5;have HG5:=hidE hgrow;have HT5:=hidE hat5;clear hown5 hgrow hat5)
    have hs5:=HG5.out.size
    simp at hs5
    have hk5:∀k,k<w0.heap.size->w5.heap[k]? = w3.heap[k]?:=λk hk=>(HG5.out.block k (by simp;omega) (λe=>by have:=HLT _ e.symm;omega)).trans ((Below.heap_alloc _ _ _ (by simp;omega)).trans (Below.heap_alloc _ _ _ (by omega)))
    go_roundg r2.length
    case measure=>rw[HRN.out];omega
    case rel =>
     refine⟨r2,f1,done++[px],A2,c2,rfl,?_,HG3.out,?_,by omega,by omega,hidE (HR3.out.keep (hk5 b hb) (λg hg=>hk5 g (HS.out g hg).2)),hidE ?_,hidE ?_,hidE ((((HC2.out.trans C3.out).alloc _).alloc _).grown HG5.out (λj hj=>.inl (by have:=HLT _ hj;omega)))⟩
     ·rw[<-List.append_assoc,List.length_append,HN.out];rfl
     ·rw[List.length_append,HL.out];simp;omega
     ·rw[HV.out];simp[Function.comp_def]
     ·rw[<-List.append_assoc,show([x0]++done++[px]).length=n+1 by rw[List.length_append,HN.out];rfl]
      exact BuiltG.next (w:=w2) (w1:=w3) hb (by omega) (by rw[HN.out];exact HOWN.out) HROW.out C3.out HX.out (((Below.refl _ w3).alloc (Nat.le_refl _) _).alloc (by simp) _) (by rw[HN.out];exact HO5.out) HG5.out HT5.out
end Go.Proofs.YtknkclefoiohpaaGreatDoor

namespace Go.Proofs.YtknkclefoiohpaaGreatDoor
open Go.RowKit Lx Tx Sx
set_option maxRecDepth 100000
set_option maxHeartbeats 3200000 in
theorem sx_separatedA(f:Nat)(S:Nat->Prop)(b:Nat)(l:List Tok)(w:World)(h:RdrS S w b l)(hS:∀g,S g->g≠b/\g<w.heap.size)(hG:AllG l)(hl:l.length<=100000)(hf:3*l.length<=f)
  (IH:∀f1,f1<=f->GReads pcA shA S b 138 0 rdAlt f1)(hrd:∀(f1:Nat)(l:List Tok)(x:Al)(r:List Tok),AllG l->rdAlt f1 l=some (x,r)->AllG r/\r.length<l.length) :
  Calls Tryz.prog 169 #[.pointer (some ⟨b,0,none⟩),.func (.func 138) #[.pointer (some ⟨b,0,none⟩)] #[]] w (LPost pcA S b w (sepM rdAlt f l)):=by
 have hbl:=h.lt
 obtain⟨w0,hw0⟩:∃x,w.alloc (.cells #[.pointer (some ⟨b,0,none⟩)] 144)=x:=⟨_,rfl⟩
 have z0:w0.heap.size=w.heap.size+1:=by rw[<-hw0];simp
 have hb0:w0.cell? ⟨w.heap.size,0,none⟩=some (.pointer (some ⟨b,0,none⟩)):=by
  have hB:Blk w0 w.heap.size 144 #[.pointer (some ⟨b,0,none⟩)]:=hw0▸heap_alloc_new w _
  exact hB.cell 0
 have c0:ChR b w w0:=hw0▸(ChR.refl b w).alloc _
 have h0:RdrS S w0 b l:=hw0▸h.alloc _ (λg hg=>(hS g hg).2)
 have hS0:∀g,S g->g≠b/\g<w0.heap.size:=λg hg=>⟨(hS g hg).1,by have:=(hS g hg).2;omega⟩
 have HC0:=hidE c0
 have HB0:=hidE hb0
 have HP:=hidE (IH f (Nat.le_refl _) w0 l h0 hS0 hG hl (by omega))
 obtain⟨O,hO⟩:∃O,rdAlt f l=O:=⟨_,rfl⟩
 rw[hO]at HP
 have HO:=hidE hO
 obtain⟨M,hM⟩:∃M,sepM rdAlt f l=M:=⟨_,rfl⟩
 rw[hM]
 have HM:=hidE hM
 clear hM
 have HS:=hidE hS0
 have HIH:=hidE IH
 have HRD:=hidE hrd
 have HG:=hidE hG
 clear h h0 hO hS hS0 IH hrd hG c0
 go_enter Tryz.func169,Tryz.ntmps169
 go_wp2_with fail
 try rw[hw0]
 refine HP.out.mono ?_
 clear hw0 hb0
 rintro e w2 ⟨c2,cs,hsh,hcs⟩
 obtain⟨s,V,vm,vq,ek,ex,et,tk,tx,tz,tA,tm,tq,KA,kn,kc,LA,ln,lc,rfl⟩:=hsh
 have hs2:=c2.size
 clear HP
 rcases hcs with⟨ho,rfl⟩|⟨px,r2,ho,rfl,hx,hr2⟩
 ·have HO2:Hid (M=none):=hidE (by rw[<-HM.out,sepM,HO.out,ho])
  have C2:=hidE c2
  clear ho c2
  go_wp2_with fail
  go_ret2
  exact LPost.pre HC0.out ⟨C2.out.alloc _,none,0,0,.inl ⟨HO2.out,rfl⟩⟩
 ·subst ho
  have hg2:=HRD.out f l px r2 HG.out HO.out
  have hlr:=hg2.2
  have HQ:=hidE (sx_longerA f S b r2 w0 ((w2.alloc (.cells #[.string s,.slice V vm vq,.int .i64 ek,.string ex,.bool et,.int .i64 tk,.string tx,.int .i64 tz,.slice tA tm tq,.slice KA kn kc,.slice LA ln lc] 170)).alloc (.cells #[.string s,.slice V vm vq,.int .i64 ek,.string ex,.bool et,.int .i64 tk,.string tx,.int .i64 tz,.slice tA tm tq,.slice KA kn kc,.slice LA ln lc] 170)) px (w2.heap.size+1) w.heap.size HB0.out (by omega) (BuiltG.one (S:=λg=>w0.heap.size<=g/\g<w2.heap.size) hx (λg hg=>hg) hs2 _)
   ((hr2.alloc _ (λg hg=>by have:=(HS.out g hg).2;omega)).alloc _ (λg hg=>by have:=(HS.out g hg).2;simp;omega)) HS.out (by omega) ((c2.alloc _).alloc _) hg2.1 (by omega) (by omega) HIH.out HRD.out)
  clear hg2 hlr hx hr2 c2
  obtain⟨O2,hO2⟩:∃O2,manyF semB List.tail rdAlt f r2=O2:=⟨_,rfl⟩
  have HO2:Hid (M=O2.map λz=>(px::z.1,z.2)):=hidE (by rw[<-HM.out,sepM,HO.out,<-hO2])
  rw[hO2]at HQ
  clear hO2
  go_wp2_with fail
  refine HQ.out.mono ?_
  rintro e w3 ⟨c3,A,m,c,hcs⟩
  have C3:=hidE c3
  clear c3 HQ
  rcases hcs with⟨ho,rfl⟩|⟨xs,r3,ho,rfl,hm,hx,hr3⟩
  ·have HO:=hidE (HO2.out.trans ho)
   clear ho
   go_wp2_with fail
   go_ret2
   exact LPost.pre HC0.out ⟨C3.out,A,m,c,.inl ⟨HO.out,rfl⟩⟩
  ·have HO:=hidE (HO2.out.trans ho)
   have HM:=hidE hm
   have HX:=hidE hx
   have HR:=hidE hr3
   clear ho hm hx hr3
   go_wp2_with fail
   go_ret2
   exact LPost.pre HC0.out ⟨C3.out,A,m,c,.inr ⟨xs,r3,HO.out,rfl,HM.out,HX.out,HR.out⟩⟩
end Go.Proofs.YtknkclefoiohpaaGreatDoor

namespace Go.Proofs.YtknkclefoiohpaaGreatDoor
open Go.RowKit Lx Tx Sx
set_option maxRecDepth 100000
set_option maxHeartbeats 3200000 in
theorem sx_inBracesA(f:Nat)(S:Nat->Prop)(b:Nat)(l:List Tok)(w:World)(h:RdrS S w b l)(hS:∀g,S g->g≠b/\g<w.heap.size)(hG:AllG l)(hl:l.length<=100000)(hf:3*l.length<=f+3)
  (IH:∀f1,f1<=f->GReads pcA shA S b 138 0 rdAlt f1)(hrd:∀(f1:Nat)(l:List Tok)(x:Al)(r:List Tok),AllG l->rdAlt f1 l=some (x,r)->AllG r/\r.length<l.length)
  (hle:∀(l:List Tok)(x:List Al)(r:List Tok),AllG l->sepM rdAlt f l=some (x,r)->r.length<=l.length) :
  Calls Tryz.prog 137 #[.pointer (some ⟨b,0,none⟩),.func (.func 138) #[.pointer (some ⟨b,0,none⟩)] #[]] w (LPost pcA S b w (brF rdAlt f l)):=by
 have hbl:=h.lt
 have H1:=sx_signR S b l ⟨#[123]⟩ w h hS hl
 rw[show(⟨#[123]⟩:ByteArray).data.toList=[123] from rfl,took]at H1
 obtain⟨M,hM⟩:∃M,brF rdAlt f l=M:=⟨_,rfl⟩
 rw[hM]
 have HMM:=hidE hM
 have HS:=hidE hS
 have HIH:=hidE IH
 have HRD:=hidE hrd
 have HLE:=hidE hle
 have HG:=hidE hG
 have HL:Hid (l.length<=100000/\3*l.length<=f+3):=hidE ⟨hl,hf⟩
 obtain⟨q,hq⟩:∃q,isHd l 6 [123]=q:=⟨_,rfl⟩
 rw[hq]at H1
 have HQ:=hidE hq
 have H1:=hidE H1
 clear h hS IH hrd hG hl hf hq hle hM
 go_enter Tryz.func137,Tryz.ntmps137
 go_wp2_with fail
 refine H1.out.mono ?_
 rintro e w2 ⟨rfl,hr2,c2⟩
 have hs2:=c2.size
 cases q with
 | false =>
  have HM:Hid (M=none):=hidE (by rw[<-HMM.out,brF_eq,HQ.out,if_neg (by decide)])
  have C2:=hidE c2
  clear c2 hr2 H1
  go_wp2_with fail
  go_ret2
  exact⟨C2.out,none,0,0,.inl ⟨HM.out,rfl⟩⟩
 | true =>
  rw[if_pos rfl]at hr2
  obtain⟨t0,l1,e1,-,-⟩:=isHd_ne l 6 [123] (by decide) HQ.out
  have hG1:AllG l.tail:=AllG.tail' HG.out
  have hl1:l.tail.length+1=l.length:=by rw[e1];rfl
  obtain⟨r1,hr1⟩:∃r1,l.tail=r1:=⟨_,rfl⟩
  have HMM:Hid (M=brG rdAlt f r1):=hidE (by rw[<-HMM.out,brF_eq,HQ.out,if_pos rfl,hr1])
  rw[hr1]at hr2 hG1 hl1
  have hL:=HL.out
  rw[<-hl1]at hL
  have H2:=sx_signR S b r1 ⟨#[125]⟩ w2 hr2 (λg hg=>⟨(HS.out g hg).1,by have:=(HS.out g hg).2;omega⟩) (by omega)
  rw[show(⟨#[125]⟩:ByteArray).data.toList=[125] from rfl,took]at H2
  obtain⟨q2,hq2⟩:∃q,isHd r1 6 [125]=q:=⟨_,rfl⟩
  rw[hq2]at H2
  have HQ2:=hidE hq2
  have H2:=hidE H2
  have C2:=hidE c2
  have HG1:=hidE hG1
  clear e1 hr1 hr2 hq2 c2 HL HG HQ hl1 H1 hG1
  go_wp2_with fail
  refine H2.out.mono ?_
  rintro e w3 ⟨rfl,hr3,c3⟩
  have hs3:=c3.size
  have C3:=hidE (C2.out.trans c3)
  clear c3 H2
  cases q2 with
  | true =>
   rw[if_pos rfl]at hr3
   have HM:Hid (M=some ([],r1.tail)):=hidE (by rw[HMM.out,brG,HQ2.out,if_pos rfl])
   have HR3:=hidE hr3
   clear hr3
   go_wp2_with fail
   go_ret2
   exact⟨C3.out,none,0,0,.inr ⟨[],r1.tail,HM.out,rfl,rfl,(λh=>absurd rfl h),HR3.out⟩⟩
  | false =>
   rw[if_neg (by decide)]at hr3
   have H3:=hidE (sx_separatedA f S b r1 w3 hr3 (λg hg=>⟨(HS.out g hg).1,by have:=(HS.out g hg).2;omega⟩) HG1.out (by omega) (by omega) HIH.out HRD.out)
   obtain⟨O,hO⟩:∃O,sepM rdAlt f r1=O:=⟨_,rfl⟩
   rw[hO]at H3
   have HO:=hidE hO
   clear hr3 hO
   go_wp2_with fail
   refine H3.out.mono ?_
   rintro e w4 ⟨c4,A,m,c,hcs⟩
   have hs4:=c4.size
   have C4:=hidE (C3.out.trans c4)
   have C4':=hidE c4
   clear c4 H3
   rcases hcs with⟨ho,rfl⟩|⟨xs,r3,ho,rfl,hm,hx,hr4⟩
   ·have HM:Hid (M=none):=hidE (by rw[HMM.out,brG,HQ2.out,if_neg (by decide),HO.out,ho])
    clear ho
    go_wp2_with fail
    go_ret2
    exact⟨C4.out,A,m,c,.inl ⟨HM.out,rfl⟩⟩
   ·subst ho
    have HM3:Hid (M=if isHd r3 6 [125]=true then some (xs,r3.tail) else none):=hidE (by rw[HMM.out,brG,HQ2.out,if_neg (by decide),HO.out])
    have hle:=HLE.out r1 xs r3 HG1.out HO.out
    have H4:=sx_signR S b r3 ⟨#[125]⟩ w4 hr4 (λg hg=>⟨(HS.out g hg).1,by have:=(HS.out g hg).2;omega⟩) (by omega)
    rw[show(⟨#[125]⟩:ByteArray).data.toList=[125] from rfl,took]at H4
    obtain⟨q4,hq4⟩:∃q,isHd r3 6 [125]=q:=⟨_,rfl⟩
    rw[hq4]at H4
    have HQ4:=hidE hq4
    have H4:=hidE H4
    have HM:=hidE hm
    have HX:=hidE hx
    clear hm hx hr4 hq4 hle HO
    go_wp2_with fail
    refine H4.out.mono ?_
    rintro e w5 ⟨rfl,hr5,c5⟩
    have hs5:=c5.size
    have C5:=hidE (C4.out.trans c5)
    have C5':=hidE c5
    clear c5 H4
    cases q4 with
    | false =>
     have HM4:Hid (M=none):=hidE (by rw[HM3.out,HQ4.out,if_neg (by decide)])
     clear hr5
     go_wp2_with fail
     go_ret2
     exact⟨C5.out,A,m,c,.inl ⟨HM4.out,rfl⟩⟩
    | true =>
     rw[if_pos rfl]at hr5
     have HR5:=hidE hr5
     have HM4:Hid (M=some (xs,r3.tail)):=hidE (by rw[HM3.out,HQ4.out,if_pos rfl])
     clear hr5
     go_wp2_with fail
     go_ret2
     exact⟨C5.out,A,m,c,.inr ⟨xs,r3.tail,HM4.out,rfl,HM.out,HX.out.keep (λg hg=>⟨by omega,by omega⟩) (λg hg=>C5'.out.block g hg.2 (by unfold only;omega)),HR5.out⟩⟩
end Go.Proofs.YtknkclefoiohpaaGreatDoor

namespace Go.Proofs.YtknkclefoiohpaaGreatDoor
open Go.RowKit Lx Tx Sx
set_option maxRecDepth 100000
theorem rdAlt_len(f1:Nat)(l:List Tok)(x:Al)(r:List Tok)(hG:AllG l)(h:rdAlt f1 l=some (x,r)):AllG r/\r.length<l.length:=by
 rw[rdAlt_eq']at h
 by_cases hk:(hd l).kind=2
 ·rw[if_pos hk,altG]at h
  obtain⟨l',e1,e2⟩:=hd_cons (l:=l) (by rw[hk];decide)
  have hG2:AllG l.tail:=AllG.tail' hG
  have hln:l.tail.length+1=l.length:=by rw[e1];rfl
  obtain⟨v1,v2,v3⟩:=vars_spec l.tail hG2
  by_cases h1:isHd (vars l.tail).2 6 [45,62]=true
  ·rw[if_pos h1]at h
   obtain⟨t0,r0,e0,-,-⟩:=isHd_ne _ 6 [45,62] (by decide) h1
   cases ho:rdE f1 (vars l.tail).2.tail with
   | none=>rw[ho]at h;cases h
   | some y =>
    obtain⟨e,r1⟩:=y
    rw[ho]at h
    simp only[Option.map_some,Option.some.injEq,Prod.mk.injEq]at h
    obtain⟨rfl,rfl⟩:=h
    obtain⟨g1,l1⟩:=rdE_len f1 _ e r1 (AllG.tail' v2) ho
    rw[e0]at l1 v3
    simp at l1 v3
    exact⟨g1,by omega⟩
  ·rw[if_neg h1]at h;cases h
 ·rw[if_neg hk]at h;cases h
def choG(f:Nat)(y:Ex)(r:List Tok):Option (Ex × List Tok):=if isHd r 3 wOf=true then(brF rdAlt f r.tail).map λz=>(.cs y z.1,z.2) else none
theorem choF_eq(f:Nat)(l:List Tok):choF f l=match rdE (f+1) l with|none=>none|some y=>choG f y.1 y.2:=rfl
set_option maxHeartbeats 6400000 in
theorem sx_choice(f:Nat)(S:Nat->Prop)(b:Nat)(l:List Tok)(w:World)(h:RdrS S w b l)(hS:∀g,S g->g≠b/\g<w.heap.size)(hG:AllG l)(hl:l.length<=100000)(hf:3*l.length+3<=f+1)
  (IH:GReads pcE shE S b 42 3 rdE (f+1))(IHA:∀f1,f1<=f->GReads pcA shA S b 138 0 rdAlt f1) :
  Calls Tryz.prog 97 #[.pointer (some ⟨b,0,none⟩)] w (GPost pcE shE S b w (choF f l)):=by
 have hbl:=h.lt
 have hE:=IH (w.alloc (.cells #[.int .i64 6,.string ⟨#[]⟩,.bool false,.int .i64 0,.string ⟨#[]⟩,.int .i64 0,.slice none 0 0,.slice none 0 0,.slice none 0 0] 39)) l (h.alloc _ (λg hg=>(hS g hg).2)) (λg hg=>⟨(hS g hg).1,by have:=(hS g hg).2;simp;omega⟩) hG hl hf
 obtain⟨O,hO⟩:∃O,rdE (f+1) l=O:=⟨_,rfl⟩
 rw[hO]at hE
 obtain⟨M,hM⟩:∃M,choF f l=M:=⟨_,rfl⟩
 rw[hM]
 rw[choF_eq,hO]at hM
 have HE:=hidE hE
 have HM0:=hidE hM
 have HO:=hidE hO
 have HS:=hidE hS
 have HG:=hidE hG
 have HIA:=hidE IHA
 clear h hS hE hM hO hG IH IHA
 go_enter Tryz.func97,Tryz.ntmps97
 go_wp2_with fail
 refine HE.out.mono ?_
 rintro e w2 ⟨c2,cs,hsh,hcs⟩
 obtain⟨ck,cx,ct,cK,cX,cZ,cB,cm,cq,cKA,ckn,ckc,cLA,cln,clc,rfl⟩:=hsh
 have hs2:=c2.size
 simp at hs2
 have hbk:Blk w2 w.heap.size 39 #[.int .i64 6,.string ⟨#[]⟩,.bool false,.int .i64 0,.string ⟨#[]⟩,.int .i64 0,.slice none 0 0,.slice none 0 0,.slice none 0 0]:=Blk.chgR (heap_alloc_new _ _) c2 (by unfold only;omega)
 have hlw:=hbk.lt
 obtain⟨W,hW⟩:∃W,w2.alloc (.cells #[.int .i64 ck,.string cx,.bool ct,.int .i64 cK,.string cX,.int .i64 cZ,.slice cB cm cq,.slice cKA ckn ckc,.slice cLA cln clc] 39)=W:=⟨_,rfl⟩
 have hbw:Below w2.heap.size w2 W:=hW▸(Below.refl _ w2).alloc (Nat.le_refl _) _
 have hsW:W.heap.size=w2.heap.size+1:=by rw[<-hW];simp
 have HB4:Hid (Blk W w2.heap.size 39 #[.int .i64 ck,.string cx,.bool ct,.int .i64 cK,.string cX,.int .i64 cZ,.slice cB cm cq,.slice cKA ckn ckc,.slice cLA cln clc]):=hidE (hW▸heap_alloc_new _ _)
 have HB2:=hidE (show Blk W w.heap.size 39 #[.int .i64 6,.string ⟨#[]⟩,.bool false,.int .i64 0,.string ⟨#[]⟩,.int .i64 0,.slice none 0 0,.slice none 0 0,.slice none 0 0] from(hbw.block _ hlw).trans hbk)
 have HCW:=hidE (c2.pre.below hbw)
 have HBW:=hidE hbw
 clear hbk c2 HE hbw
 rcases hcs with⟨ho,rfl⟩|⟨y,r2,ho,rfl,hrd,hrr⟩
 ·subst ho
  go_upto_region 3 with fail
  try rw[hW]
  clear hW
  obtain⟨⟨g0,g1,g2,g3,g4,g5,g6,g7,g8⟩,⟨z0,z1,z2,z3,z4,z5,z6,z7,z8⟩,hl2⟩:=blk_facts9 HB2.out
  go_wp2_with fail
  try simp only[Exit.inBlock,Exit.then]
  refine bodyPost_ret (results_ct rfl _ _ w.heap.size 39 _ (0,0) _ rfl (blk_set9 _ _ _ _ _ _ _ _ _ HB2.out) Tryz.underlying39 rfl (by kernel_rfl)) rfl ?_
  exact⟨HCW.out.set9 _ _ _ _ _ _ _ _ _ (Nat.le_refl _),_,⟨_,_,_,_,_,_,_,_,_,_,_,_,_,_,_,rfl⟩,.inl ⟨HM0.out.symm,rfl⟩⟩
 ·subst ho
  have hg2:=rdE_len (f+1) l y r2 HG.out HO.out
  have HM1:Hid (M=choG f y r2):=hidE HM0.out.symm
  have hRW:=hrr.below HBW.out (λg hg=>by have:=(HS.out g hg).2;omega)
  have HX:=hidE (pcE.keep (S':=λg=>w.heap.size<g/\g<w2.heap.size) (λg hg=>⟨by have:=hg.1;simp at this;omega,hg.2⟩) (λg hg=>HBW.out.block g hg.2) hrd)
  have hSG:=sx_wordR S b r2 ⟨#[111,102]⟩ W hRW (λg hg=>⟨(HS.out g hg).1,by have:=(HS.out g hg).2;omega⟩) (by have:=hg2.2;omega)
  obtain⟨q2,hq2⟩:∃q,isHd r2 3 wOf=q:=⟨_,rfl⟩
  rw[show(⟨#[111,102]⟩:ByteArray).data.toList=wOf from rfl,took,hq2]at hSG
  have HSG:=hidE hSG
  have HG2:=hidE hg2
  have HQ2:=hidE hq2
  clear hSG hrd hrr hq2 hg2 hRW
  go_upto_region 3 with fail
  try rw[hW]
  clear hW
  go_wp2_with fail
  refine HSG.out.mono ?_
  rintro e w3 ⟨rfl,hr3,c3⟩
  have hs3:=c3.size
  have HX:=hidE (pcE.keep (S':=λg=>w.heap.size<g/\g<w2.heap.size) (λg hg=>hg) (λg hg=>c3.block g (by omega) (by unfold only;omega)) HX.out)
  have HB4:=hidE (HB4.out.chgR c3 (by unfold only;omega))
  have HB2:=hidE (HB2.out.chgR c3 (by unfold only;omega))
  have HCW:=hidE (HCW.out.trans c3)
  clear c3 HSG HBW
  obtain⟨⟨g0,g1,g2,g3,g4,g5,g6,g7,g8⟩,⟨z0,z1,z2,z3,z4,z5,z6,z7,z8⟩,hl2⟩:=blk_facts9 HB2.out
  cases q2 with
  | false =>
   have HM2:Hid (M=none):=hidE (by rw[HM1.out,choG,HQ2.out,if_neg (by decide)])
   clear hr3
   go_wp2_with fail
   try simp only[Exit.inBlock,Exit.then]
   refine bodyPost_ret (results_ct rfl _ _ w.heap.size 39 _ (0,0) _ rfl (blk_set9 _ _ _ _ _ _ _ _ _ HB2.out) Tryz.underlying39 rfl (by kernel_rfl)) rfl ?_
   exact⟨HCW.out.set9 _ _ _ _ _ _ _ _ _ (Nat.le_refl _),_,⟨_,_,_,_,_,_,_,_,_,_,_,_,_,_,_,rfl⟩,.inl ⟨HM2.out,rfl⟩⟩
  | true =>
   rw[if_pos rfl]at hr3
   obtain⟨t0,r0,e0,-,-⟩:=isHd_ne r2 3 wOf (by decide) HQ2.out
   obtain⟨⟨f0,f1,f2,f3,f4,f5,f6,f7,f8⟩,-,hl4⟩:=blk_facts9 HB4.out
   obtain⟨W5,hW5⟩:∃V,(w3.setCell ⟨w.heap.size,7,none⟩ (.slice (some ⟨w3.heap.size,0,none⟩) 1 1)).alloc (.cells #[.int .i64 ck,.string cx,.bool ct,.int .i64 cK,.string cX,.int .i64 cZ,.slice cB cm cq,.slice cKA ckn ckc,.slice cLA cln clc] 39)=V:=⟨_,rfl⟩
   have hsV:W5.heap.size=w3.heap.size+1:=by rw[<-hW5];simp
   have hfar:∀k,k<w3.heap.size->k≠w.heap.size->W5.heap[k]? = w3.heap[k]?:=λk h1 h2=>by
    rw[<-hW5,Below.heap_alloc _ _ _ (by simp;exact h1)]
    exact Below.heap_setCell _ ⟨w.heap.size,7,none⟩ _ k h2
   have HB5:Hid (Blk W5 w.heap.size 39 #[.int .i64 6,.string ⟨#[]⟩,.bool false,.int .i64 0,.string ⟨#[]⟩,.int .i64 0,.slice none 0 0,.slice (some ⟨w3.heap.size,0,none⟩) 1 1,.slice none 0 0]):=hidE (by
    rw[<-hW5]
    exact Blk.alloc (heap_setCell_same _ _ 7 _ _ _ HB2.out) _)
   have HNW:Hid (Blk W5 w3.heap.size 39 #[.int .i64 ck,.string cx,.bool ct,.int .i64 cK,.string cX,.int .i64 cZ,.slice cB cm cq,.slice cKA ckn ckc,.slice cLA cln clc]):=hidE (by
    rw[<-hW5]
    have:=heap_alloc_new (w3.setCell ⟨w.heap.size,7,none⟩ (.slice (some ⟨w3.heap.size,0,none⟩) 1 1)) (.cells #[.int .i64 ck,.string cx,.bool ct,.int .i64 cK,.string cX,.int .i64 cZ,.slice cB cm cq,.slice cKA ckn ckc,.slice cLA cln clc] 39)
    rwa [show(w3.setCell ⟨w.heap.size,7,none⟩ (.slice (some ⟨w3.heap.size,0,none⟩) 1 1)).heap.size=w3.heap.size by simp]at this)
   have HC5:Hid (ChR b w W5):=hidE (hW5▸(HCW.out.setCell (.inl (Nat.le_refl _)) _).alloc _)
   have HX5:=hidE (pcE.keep (S':=λg=>w.heap.size<g/\g<w2.heap.size) (λg hg=>hg) (λg hg=>hfar g (by omega) (by omega)) HX.out)
   have hR5:RdrS S W5 b r2.tail:=hr3.keep (hfar b (by omega) (by omega)) (λg hg=>hfar g (by have:=(HS.out g hg).2;omega) (by have:=(HS.out g hg).2;omega))
   have hP:=sx_inBracesA f S b r2.tail W5 hR5 (λg hg=>⟨(HS.out g hg).1,by have:=(HS.out g hg).2;omega⟩) (AllG.tail' HG2.out.1) (by have:=HG2.out.2;rw[e0]at this ⊢;simp at this ⊢;omega) (by have:=HG2.out.2;rw[e0]at this ⊢;simp at this ⊢;omega) HIA.out rdAlt_len (λl x r hG h=>Nat.le_of_lt (sep_len rdAlt_len f l x r hG h).2)
   have HM2:Hid (M=(brF rdAlt f r2.tail).map λz=>(Ex.cs y z.1,z.2)):=hidE (by rw[HM1.out,choG,HQ2.out,if_pos rfl])
   obtain⟨O2,hO2⟩:∃O2,brF rdAlt f r2.tail=O2:=⟨_,rfl⟩
   rw[hO2]at hP HM2
   have HP:=hidE hP
   have hlb:b<W5.heap.size:=by omega
   clear hr3 hfar hR5 hP hO2 e0 HX
   go_upto_region 6 with fail
   try rw[hW5]
   clear hW5 f0 f1 f2 f3 f4 f5 f6 f7 f8 g0 g1 g2 g3 g4 g5 g6 g7 g8 z0 z1 z2 z3 z4 z5 z6 z7 z8
   go_wp2_with fail
   refine HP.out.mono ?_
   rintro e w6 ⟨c6,A,m,c,hcs⟩
   have hs6:=c6.size
   have hb6:=HB5.out.chgR c6 (by unfold only;omega)
   obtain⟨⟨g0,g1,g2,g3,g4,g5,g6,g7,g8⟩,⟨z0,z1,z2,z3,z4,z5,z6,z7,z8⟩,hl6⟩:=blk_facts9 hb6
   have HB6:Hid (Blk (w6.setCell ⟨w.heap.size,8,none⟩ (.slice A m c)) w.heap.size 39 #[.int .i64 6,.string ⟨#[]⟩,.bool false,.int .i64 0,.string ⟨#[]⟩,.int .i64 0,.slice none 0 0,.slice (some ⟨w3.heap.size,0,none⟩) 1 1,.slice A m c]):=hidE (heap_setCell_same _ _ 8 _ _ _ hb6)
   have HC6:=hidE ((HC5.out.trans c6).setCell (p:=⟨w.heap.size,8,none⟩) (.inl (Nat.le_refl _)) (.slice A m c))
   have HX6:=hidE (pcE.keep (S':=λg=>w.heap.size<g/\g<w2.heap.size) (λg hg=>hg) (λg hg=>c6.block g (by omega) (by unfold only;omega)) HX5.out)
   have HN6:=hidE (HNW.out.chgR c6 (by unfold only;omega))
   have hU:∃ok,e=.returned (.tuple #[.slice A m c,.bool ok])/\((ok=false/\M=none)\/(ok=true/\∃xs r,M=some (.cs y xs,r)/\m=xs.length/\LstG pcA (λg=>W5.heap.size<=g/\g<w6.heap.size) w6 xs A/\RdrS S w6 b r)):=by
    rcases hcs with⟨ho,he⟩|⟨xs,r,ho,he,hm,hx,hr⟩
    ·exact⟨false,he,.inl ⟨rfl,by rw[HM2.out,ho];rfl⟩⟩
    ·exact⟨true,he,.inr ⟨rfl,xs,r,by rw[HM2.out,ho];rfl,hm,hx,hr⟩⟩
   obtain⟨ok,rfl,hU⟩:=hU
   have HU:=hidE hU
   clear hU hcs HP c6 hb6
   go_wp2_with fail
   try simp only[Exit.inBlock,Exit.then]
   refine bodyPost_ret (results_ct rfl _ _ w.heap.size 39 _ (0,0) _ rfl (blk_set9 _ _ _ _ _ _ _ _ _ HB6.out) Tryz.underlying39 rfl (by kernel_rfl)) rfl ?_
   refine⟨HC6.out.set9 _ _ _ _ _ _ _ _ _ (Nat.le_refl _),[.int .i64 6,.string ⟨#[]⟩,.bool false,.int .i64 0,.string ⟨#[]⟩,.int .i64 0,.slice none 0 0,.slice (some ⟨w3.heap.size,0,none⟩) 1 1,.slice A m c],⟨_,_,_,_,_,_,_,_,_,_,_,_,_,_,_,rfl⟩,?_⟩
   rcases HU.out with⟨rfl,hM⟩|⟨rfl,xs,r,hM,hm,hx,hr⟩
   ·exact .inl ⟨hM,rfl⟩
   ·have hk:∀k,k≠w.heap.size->(((((((((((w6.setCell ⟨w.heap.size,8,none⟩ (.slice A m c)).setCell ⟨w.heap.size,0,none⟩ (.int .i64 6)).setCell ⟨w.heap.size,1,none⟩ (.string ⟨#[]⟩)).setCell ⟨w.heap.size,2,none⟩ (.bool false)).setCell ⟨w.heap.size,3,none⟩ (.int .i64 0)).setCell ⟨w.heap.size,4,none⟩ (.string ⟨#[]⟩)).setCell ⟨w.heap.size,5,none⟩ (.int .i64 0)).setCell ⟨w.heap.size,6,none⟩ (.slice none 0 0)).setCell ⟨w.heap.size,7,none⟩ (.slice (some ⟨w3.heap.size,0,none⟩) 1 1)).setCell ⟨w.heap.size,8,none⟩ (.slice A m c))).heap[k]? = w6.heap[k]?:=λk h=>(set9_far _ _ _ _ _ _ _ _ _ _ _ _ h).trans (Below.heap_setCell _ ⟨w.heap.size,8,none⟩ _ k h)
    refine .inr ⟨_,r,hM,rfl,?_,hr.keep (hk b (by omega)) (λk hkk=>hk k (by have:=(HS.out k hkk).2;omega))⟩
    refine⟨⟨none,0,some ⟨w3.heap.size,0,none⟩,0,A,c⟩,by rw[hm];simp[exC,kdE,nmE,toE,tyE,tyC,kidsE,altsE,Sx.strV],trivial,?_⟩
    rw[ExIn]
    refine⟨⟨_,rfl,⟨by omega,by simp;omega⟩,kid_new HX6.out (λk h=>⟨by omega,by simp;omega⟩) (λk h=>hk k (by omega)) ((hk _ (by omega)).trans HN6.out)⟩,λhne=>?_⟩
    obtain⟨g,h1,h2,h3⟩:=hx hne
    exact⟨g,h1,⟨by omega,by simp;omega⟩,(atG_al xs g 0).1 (AtG.keep (λg hg=>⟨by omega,by simp;omega⟩) (λg hg=>hk g (by omega)) xs g 0 (hk g (by omega)) h3)⟩
end Go.Proofs.YtknkclefoiohpaaGreatDoor
