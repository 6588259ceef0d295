/-
  Contracts of the code's functions, part 23.
-/
import Derived.Test.YtmbmjneibkihkaaGreatDoorDaK
import Derived.Test.YtmbmjneibkihkaaGreatDoorDaV
namespace Go.Proofs.YtmbmjneibkihkaaGreatDoor
open Go.RowKit Lx Tx Sx
set_option maxRecDepth 100000
set_option maxHeartbeats 1600000 in
theorem sx_tooDeep(e:Ex)(S:Nat->Prop)(v:Value)(w:World)(hn:e.size<=100000)(hwt:e.wt<=1000000)(hv:RdX S w e v)(hS:∀g,S g->g<w.heap.size) :
  Calls Tryz.prog 51 #[v] w λe' w'=>e'=.returned (.bool e.tooDeep)/\Below w.heap.size w w':=by
 obtain⟨K,X,Z,B,m,q,KA,kc,LA,lc,rfl,-⟩:=hv.shape
 have hkeep:∀W,Below w.heap.size w W->RdX S W e _/\∀g,S g->g<W.heap.size:=λW hW=>⟨hv.keep (λ_ h=>h) (λg hg=>hW.block g (hS g hg)),λg hg=>by have:=hS g hg;have:=hW.size;omega⟩
 have HD:=hidE (λW (hW:Below w.heap.size w W)=>sx_depth 100000 e S _ W hn (Nat.le_refl _) (hkeep W hW).1 (hkeep W hW).2)
 have HH:=hidE (λW (hW:Below w.heap.size w W)=>sx_hasDeep 100000 e S _ W hn (Nat.le_refl _) hwt (hkeep W hW).1 (hkeep W hW).2)
 obtain⟨kd,hkd⟩:∃y,kdE e=y:=⟨_,rfl⟩
 obtain⟨nm,hnm⟩:∃y:ByteArray,⟨(nmE e).toArray⟩=y:=⟨_,rfl⟩
 obtain⟨td,htd⟩:∃y,toE e=y:=⟨_,rfl⟩
 obtain⟨kn,hkn⟩:∃y,(kidsE e).length=y:=⟨_,rfl⟩
 obtain⟨ln,hln⟩:∃y,(altsE e).length=y:=⟨_,rfl⟩
 obtain⟨d,hd⟩:∃y,e.depth=y:=⟨_,rfl⟩
 obtain⟨t,ht⟩:∃y,e.deepT=y:=⟨_,rfl⟩
 unfold Ex.tooDeep
 rw[hkd,hnm,htd,hkn,hln,hd]at HD
 rw[hkd,hnm,htd,hkn,hln,ht]at HH
 rw[hkd,hnm,htd,hkn,hln,hd,ht]
 clear hkd hnm htd hkn hln hd ht hv hS hkeep hn hwt
 have hb1:Below w.heap.size w (w.alloc (.cells #[.int .i64 (kd:Nat),.string nm,.bool td,.int .i64 K,.string X,.int .i64 Z,.slice B m q,.slice KA kn kc,.slice LA ln lc] 39)):=(Below.refl _ w).alloc (Nat.le_refl _) _
 have HB1:=hidE hb1
 have HBX:=hidE (heap_alloc_new w (.cells #[.int .i64 (kd:Nat),.string nm,.bool td,.int .i64 K,.string X,.int .i64 Z,.slice B m q,.slice KA kn kc,.slice LA ln lc] 39))
 clear hb1
 obtain⟨b,hb⟩:∃b,decide (50<d)=b:=⟨_,rfl⟩
 have d1:decide ((50:Int)<(d:Nat))=b:=by
  rw[<-hb]
  by_cases h:50<d <;> simp[h] <;> omega
 rw[hb]
 clear hb
 go_enter Tryz.func51,Tryz.ntmps51
 go_wp2_with fail
 refine(HD.out _ HB1.out).mono ?_
 rintro e' w2 ⟨rfl,b2⟩
 have B2:=hidE (HB1.out.trans (b2.mono HB1.out.size))
 cases b with
 | true =>
  clear b2
  go_wp2_with fail
  go_ret
  exact⟨rfl,B2.out⟩
 | false =>
  have hb2:Blk w2 w.heap.size 39 #[.int .i64 (kd:Nat),.string nm,.bool td,.int .i64 K,.string X,.int .i64 Z,.slice B m q,.slice KA kn kc,.slice LA ln lc]:=(b2.block w.heap.size (by simp)).trans HBX.out
  obtain⟨g0,g1,g2,g3,g4,g5,g6,g7,g8⟩:w2.cell? ⟨w.heap.size,0,none⟩=some (.int .i64 (kd:Nat))/\w2.cell? ⟨w.heap.size,1,none⟩=some (.string nm)/\w2.cell? ⟨w.heap.size,2,none⟩=some (.bool td) /\
   w2.cell? ⟨w.heap.size,3,none⟩=some (.int .i64 K)/\w2.cell? ⟨w.heap.size,4,none⟩=some (.string X)/\w2.cell? ⟨w.heap.size,5,none⟩=some (.int .i64 Z)/\w2.cell? ⟨w.heap.size,6,none⟩=some (.slice B m q)/\w2.cell? ⟨w.heap.size,7,none⟩=some (.slice KA kn kc)/\w2.cell? ⟨w.heap.size,8,none⟩=some (.slice LA ln lc) :=
   ⟨hb2.cell 0,hb2.cell 1,hb2.cell 2,hb2.cell 3,hb2.cell 4,hb2.cell 5,hb2.cell 6,hb2.cell 7,hb2.cell 8⟩
  have hlw:=hb2.lt
  clear b2 hb2 HD
  go_wp2_with fail
  refine(HH.out _ B2.out).mono ?_
  rintro e' w3 ⟨rfl,b3⟩
  go_wp2_with fail
  go_ret
  exact⟨rfl,B2.out.trans (b3.mono B2.out.size)⟩
end Go.Proofs.YtmbmjneibkihkaaGreatDoor

namespace Go.Proofs.YtmbmjneibkihkaaGreatDoor
open Go.RowKit Lx Tx Sx
set_option maxRecDepth 100000
def TPostS(S:Nat->Prop)(b:Nat)(w:World)(o:Option (Ty × List Tok))(e:Ending)(w':World):Prop :=
 ChR b w w'/\∃K X Z A m c,
  ((o=none/\e=.returned (.tuple #[.agg #[.int .i64 K,.string X,.int .i64 Z,.slice A m c],.bool false])) \/
   (∃t r,o=some (t,r)/\e=.returned (.tuple #[.agg #[.int .i64 K,.string X,.int .i64 Z,.slice A m c],.bool true]) /\
    RdV (λg=>w.heap.size<=g/\g<w'.heap.size) w' t (.agg #[.int .i64 K,.string X,.int .i64 Z,.slice A m c])/\RdrS S w' b r))
set_option maxHeartbeats 1600000 in
theorem sx_piece(S:Nat->Prop)(b:Nat)(l:List Tok)(w:World)(h:RdrS S w b l)(hS:∀g,S g->g≠b/\g<w.heap.size)(hG:AllG l)(hl:l.length<=100000) :
  Calls Tryz.prog 167 #[.pointer (some ⟨b,0,none⟩),.func (.func 61) #[] #[]] w (TPostS S b w (typ l)):=by
 obtain⟨v,hb,ht⟩:=h
 have hbl:=hb.lt
 have hR:=tc_readS S l v (w.alloc (.cells tyZ 35)) (ht.keep (λg hg=>Below.heap_alloc _ _ _ (hS g hg).2)) (λg hg=>by have:=(hS g hg).2;simp;omega) hG hl
 unfold typ
 obtain⟨O,hO⟩:∃O,read (enough l) l=O:=⟨_,rfl⟩
 rw[hO]at hR ⊢
 unfold tyZ at hR
 have HR:=hidE hR
 have HB:=hidE hb
 have HS:=hidE hS
 have f0:=hb.cell 0
 replace f0:w.cell? ⟨b,0,none⟩=some v:=f0
 clear ht hR hO hG hl hb hS
 go_enter Tryz.func167,Tryz.ntmps167
 go_wp2_with fail
 refine HR.out.mono ?_
 rintro e w2 ⟨b2,K,X,Z,A,m,c,v2,q,rfl,hno,hyes⟩
 have hs2:=b2.size
 simp at hs2
 have hbk:Blk w2 w.heap.size 35 #[.int .i64 0,.string ⟨#[]⟩,.int .i64 0,.slice none 0 0]:=(b2.block w.heap.size (by simp)).trans (heap_alloc_new w _)
 obtain⟨a0,a1,a2,a3,q0,q1,q2,q3,hlw⟩:=blk_facts4 hbk
 have hbb:Blk w2 b 145 #[v]:=(b2.block b (by simp;omega)).trans (HB.out.alloc _)
 have e0:=hbb.cell 0
 replace e0:w2.cell? ⟨b,0,none⟩=some v:=e0
 have e1:=hbb.frozen 0
 have e2:=hbb.lt
 have HBK:=hidE hbk
 have HBB:=hidE hbb
 have B2:=hidE b2
 have hne:b≠w.heap.size:=by omega
 clear hbk hbb b2 HR
 cases q with
 | false =>
  obtain⟨ho,rfl⟩:=hno rfl
  have HO:=hidE ho
  clear ho hno hyes
  go_wp2_with fail
  try simp only[Exit.inBlock,Exit.then]
  have hbw:Below w.heap.size w w2:=((Below.refl w.heap.size w).alloc (Nat.le_refl _) (.cells #[.int .i64 0,.string ⟨#[]⟩,.int .i64 0,.slice none 0 0] 35)).trans (B2.out.mono (by simp))
  have hch:=((((Chg.of_below (M:=only b) hbw).set4 (.int .i64 K) (.string X) (.int .i64 Z) (.slice A m c) (Nat.le_refl _)).setCell (p:=⟨b,0,none⟩) (.inr rfl) (.slice none 0 0)).set4 (.int .i64 K) (.string X) (.int .i64 Z) (.slice A m c) (Nat.le_refl _))
  have hbk:=blk_set4 (.int .i64 K) (.string X) (.int .i64 Z) (.slice A m c) ((blk_set4 (.int .i64 K) (.string X) (.int .i64 Z) (.slice A m c) HBK.out).same (Below.heap_setCell _ ⟨b,0,none⟩ (.slice none 0 0) w.heap.size (λe=>hne e.symm)))
  refine bodyPost_ret (results_ct rfl _ _ w.heap.size 35 _ (0,0) _ rfl hbk Tryz.underlying35 rfl (by kernel_rfl)) rfl ?_
  exact⟨⟨hch,λ_=>⟨none,0,0,(heap_set4 _ _ _ _ _ _ _ hne).trans (heap_setCell_same _ b 0 _ _ (.slice none 0 0) (HBB.out.same (heap_set4 _ _ _ _ _ _ _ hne)))⟩⟩,K,X,Z,A,m,c,.inl ⟨HO.out,rfl⟩⟩
 | true =>
  obtain⟨t,r,A2,c2,ho,rfl,hrd,htk⟩:=hyes rfl
  obtain⟨rn,hrn⟩:∃y,r.length=y:=⟨_,rfl⟩
  have HO:=hidE ho
  have HRD:=hidE hrd
  have HTK:=hidE htk
  rw[hrn]at HTK ⊢
  clear ho hrd htk hno hyes hrn
  go_wp2_with fail
  try simp only[Exit.inBlock,Exit.then]
  have hbw:Below w.heap.size w w2:=((Below.refl w.heap.size w).alloc (Nat.le_refl _) (.cells #[.int .i64 0,.string ⟨#[]⟩,.int .i64 0,.slice none 0 0] 35)).trans (B2.out.mono (by simp))
  have hch:=((((Chg.of_below (M:=only b) hbw).set4 (.int .i64 K) (.string X) (.int .i64 Z) (.slice A m c) (Nat.le_refl _)).setCell (p:=⟨b,0,none⟩) (.inr rfl) (.slice A2 rn c2)).set4 (.int .i64 K) (.string X) (.int .i64 Z) (.slice A m c) (Nat.le_refl _))
  have hbk:=blk_set4 (.int .i64 K) (.string X) (.int .i64 Z) (.slice A m c) ((blk_set4 (.int .i64 K) (.string X) (.int .i64 Z) (.slice A m c) HBK.out).same (Below.heap_setCell _ ⟨b,0,none⟩ (.slice A2 rn c2) w.heap.size (λe=>hne e.symm)))
  refine bodyPost_ret (results_ct rfl _ _ w.heap.size 35 _ (0,0) _ rfl hbk Tryz.underlying35 rfl (by kernel_rfl)) rfl ?_
  have hfar:∀k,k≠w.heap.size->k≠b->(((((((((w2.setCell ⟨w.heap.size,0,none⟩ (.int .i64 K)).setCell ⟨w.heap.size,1,none⟩ (.string X)).setCell ⟨w.heap.size,2,none⟩ (.int .i64 Z)).setCell ⟨w.heap.size,3,none⟩ (.slice A m c)).setCell ⟨b,0,none⟩ (.slice A2 rn c2)).setCell ⟨w.heap.size,0,none⟩ (.int .i64 K)).setCell ⟨w.heap.size,1,none⟩ (.string X)).setCell ⟨w.heap.size,2,none⟩ (.int .i64 Z)).setCell ⟨w.heap.size,3,none⟩ (.slice A m c)).heap[k]? = w2.heap[k]?:=λk h1 h2=>by
   rw[heap_set4 _ _ _ _ _ _ _ h1,Below.heap_setCell _ ⟨b,0,none⟩ _ k h2,heap_set4 _ _ _ _ _ _ _ h1]
  refine⟨⟨hch,λ_=>⟨A2,rn,c2,(heap_set4 _ _ _ _ _ _ _ hne).trans (heap_setCell_same _ b 0 _ _ (.slice A2 rn c2) (HBB.out.same (heap_set4 _ _ _ _ _ _ _ hne)))⟩⟩,K,X,Z,A,m,c,.inr ⟨t,r,HO.out,rfl,?_,.slice A2 rn c2,?_,?_⟩⟩
  ·refine HRD.out.keep (λg hg=>?_) (λg hg=>hfar g (by simp at hg;omega) (by simp at hg;omega))
   simp at hg ⊢
   omega
  ·refine(heap_set4 _ _ _ _ _ _ _ hne).trans ?_
   exact heap_setCell_same _ b 0 _ _ (.slice A2 rn c2) (HBB.out.same (heap_set4 _ _ _ _ _ _ _ hne))
  ·exact HTK.out.keep (λg hg=>hfar g (by have:=(HS.out g hg).2;omega) (HS.out g hg).1)
set_option maxHeartbeats 800000 in
theorem sx_whole(S:Nat->Prop)(b:Nat)(l:List Tok)(w:World)(h:RdrS S w b l)(hS:∀g,S g->g≠b/\g<w.heap.size)(hG:AllG l)(hl:l.length<=100000) :
  Calls Tryz.prog 131 #[.pointer (some ⟨b,0,none⟩)] w (TPostS S b w (typ l)):=by
 have hbl:=h.lt
 have HP:=hidE (sx_piece S b l (w.alloc (.cells tyZ 35)) (h.alloc _ (λg hg=>(hS g hg).2)) (λg hg=>⟨(hS g hg).1,by have:=(hS g hg).2;simp;omega⟩) hG hl)
 unfold tyZ at HP
 obtain⟨O,hO⟩:∃O,typ l=O:=⟨_,rfl⟩
 rw[hO]at HP ⊢
 have HS:=hidE hS
 clear h hS hG hl hO
 go_enter Tryz.func131,Tryz.ntmps131
 go_wp2_with fail
 refine HP.out.mono ?_
 rintro e w2 ⟨c2,K,X,Z,A,m,c,hcs⟩
 have hbk:Blk w2 w.heap.size 35 #[.int .i64 0,.string ⟨#[]⟩,.int .i64 0,.slice none 0 0]:=Blk.chgR (heap_alloc_new _ _) c2 (by unfold only;omega)
 have hs2:=c2.size
 simp at hs2
 obtain⟨a0,a1,a2,a3,q0,q1,q2,q3,hlw⟩:=blk_facts4 hbk
 have HBK:=hidE (blk_set4 (.int .i64 K) (.string X) (.int .i64 Z) (.slice A m c) hbk)
 have HCH:=hidE (c2.pre.set4 (.int .i64 K) (.string X) (.int .i64 Z) (.slice A m c) (Nat.le_refl _))
 have hne:b≠w.heap.size:=by omega
 clear hbk c2 HP
 rcases hcs with⟨ho,rfl⟩|⟨t,r,ho,rfl,hrd,hrr⟩
 ·have HO:=hidE ho
  clear ho
  go_wp2_with fail
  try simp only[Exit.inBlock,Exit.then]
  refine bodyPost_ret (results_ct rfl _ _ w.heap.size 35 _ (0,0) _ rfl HBK.out Tryz.underlying35 rfl (by kernel_rfl)) rfl ?_
  exact⟨HCH.out,K,X,Z,A,m,c,.inl ⟨HO.out,rfl⟩⟩
 ·have HO:=hidE ho
  have HRD:=hidE hrd
  have HRR:=hidE hrr
  clear ho hrd hrr
  go_wp2_with fail
  try simp only[Exit.inBlock,Exit.then]
  refine bodyPost_ret (results_ct rfl _ _ w.heap.size 35 _ (0,0) _ rfl HBK.out Tryz.underlying35 rfl (by kernel_rfl)) rfl ?_
  refine⟨HCH.out,K,X,Z,A,m,c,.inr ⟨t,r,HO.out,rfl,?_,?_⟩⟩
  ·refine HRD.out.keep (λg hg=>?_) (λg hg=>heap_set4 _ _ _ _ _ _ _ (by simp at hg;omega))
   simp at hg ⊢
   omega
  ·exact HRR.out.keep (heap_set4 _ _ _ _ _ _ _ hne) (λk hk=>heap_set4 _ _ _ _ _ _ _ (by have:=(HS.out k hk).2;omega))
end Go.Proofs.YtmbmjneibkihkaaGreatDoor

namespace Go.Proofs.YtmbmjneibkihkaaGreatDoor
open Go.RowKit Lx Tx
set_option maxRecDepth 100000
def VPost(S:Nat->Prop)(b:Nat)(w:World)(o:List (List UInt8) × List Tok)(e:Ending)(w':World):Prop :=
 ∃A c,e=.returned (.tuple #[.slice A o.1.length c,.bool true])/\w'.ownsRow w.heap.size 9 1 (.slice A o.1.length c) o.1.length (strV o.1)/\RdrS S w' b o.2/\Chg (only b) w w'
def HeadNs(S:Nat->Prop)(b:Nat)(r0:List Tok)(w:World)(gg:Nat)(v:Value)(wr:World):Prop :=
 ∃(l:List Tok) (done:List (List UInt8)) (A:Option Addr) (c:Nat),gg=l.length/\v=.slice A done.length c/\l.length+done.length<=r0.length/\Hid (RdrS S wr b l)/\Hid (vars r0=(done++(vars l).1,(vars l).2)) /\
  Hid (wr.ownsRow w.heap.size 9 1 (.slice A done.length c) done.length (strV done))/\Hid (Chg (only b) w wr)
set_option maxHeartbeats 1600000 in
theorem sx_longerS(S:Nat->Prop)(b:Nat)(l:List Tok)(w:World)(h:RdrS S w b l)(hS:∀g,S g->g≠b/\g<w.heap.size)(hl:l.length<=100000) :
  Calls Tryz.prog 186 #[.slice none 0 0,.func (.func 172) #[.pointer (some ⟨b,0,none⟩)] #[],.func (.func 130) #[.pointer (some ⟨b,0,none⟩)] #[]] w (VPost S b w (vars l)):=by
 have hbl:=h.lt
 obtain⟨i0,hi0,hz0,hz1,hz2⟩:=info_parts str_info
 obtain⟨L,hL⟩:∃L,l.length=L:=⟨_,rfl⟩
 have HL:=hidE hL
 have HS:=hidE hS
 have HH:Hid (HeadNs S b l w L (.slice none 0 0) w):=hidE ⟨l,[],none,0,hL.symm,rfl,by simp,hidE h,hidE (by simp),hidE (World.ownsRow_nil _ _ _ _),hidE (Chg.refl _ w)⟩
 rw[hL]at hl
 clear h hS hL
 go_enter Tryz.func186,Tryz.ntmps186
 go_wp2_with fail
 go_loopg [0] L (λgg v wr=>HeadNs S b l w gg v wr)
 case atStart=>exact HH.out
 case round =>
  obtain⟨r,done,A,c,rfl,rfl,hle,hr,hv,hown,hc⟩:=hrel
  rw[HL.out]at hle
  have hsz:=hc.out.size
  obtain⟨n,hn⟩:∃n,done.length=n:=⟨_,rfl⟩
  rw[hn]at hle hown ⊢
  have HN:=hidE hn
  obtain⟨rn,hrn⟩:∃n,r.length=n:=⟨_,rfl⟩
  have HRN:=hidE hrn
  rw[hrn]at hle
  have hA:=hidE (sx_atVariable S b r wr hr.out (by rw[hrn];omega))
  clear hn hrn HH
  obtain⟨q,hq⟩:∃q,((hd r).kind==1)=q:=⟨_,rfl⟩
  rw[hq]at hA
  have HQ:=hidE hq
  clear hq
  go_wp2_with fail
  refine hA.out.mono ?_
  rintro e w2 ⟨rfl,b2⟩
  have hs2:=b2.size
  have HR2:=hidE (hr.out.below b2 (λg hg=>by have:=(HS.out g hg).2;omega))
  have HC2:=hidE (hc.out.below b2)
  have HO2:=hidE (own_chg hown.out (Chg.of_below (M:=only b) b2) hbl)
  clear b2 hA
  cases q with
  | true =>
   have hk:(hd r).kind=1:=by simpa using HQ.out
   have hV:=sx_variable S b r w2 HR2.out (λg hg=>⟨(HS.out g hg).1,by have:=(HS.out g hg).2;omega⟩) (by rw[HRN.out];omega)
   rw[HQ.out]at hV
   obtain⟨X,hX⟩:∃X,anyT r 1=X:=⟨_,rfl⟩
   obtain⟨r2,hr2⟩:∃x,anyR r 1=x:=⟨_,rfl⟩
   rw[hX,hr2]at hV
   have hX2:X.data.toList=(hd r).text:=by rw[<-hX,anyT,if_pos hk]
   have hr3:r.tail=r2:=by rw[<-hr2,anyR,if_pos hk]
   have hln:r2.length+1=rn:=by
    rw[<-HRN.out,<-hr3]
    obtain⟨r',e1,e2⟩:=hd_cons (l:=r) (by rw[hk];decide)
    rw[e2,e1];rfl
   have HVV:=hidE hV
   have hvn:Hid (vars l=((done++[X.data.toList])++(vars r2).1,(vars r2).2)):=hidE (by rw[hv.out,vars_yes r hk,hr3,hX2];simp)
   clear hk hV hX hr2 hX2 hr3
   go_wp2_with fail
   refine HVV.out.mono ?_
   rintro e w3 ⟨rfl,rr3,c3⟩
   have hs3:=c3.size
   have HR3:=hidE rr3
   have HC3:=hidE (HC2.out.trans c3)
   have HO3:=hidE ((own_chg HO2.out c3 hbl).alloc (.cells #[.string X] 9))
   have HOW:=hidE (own_chg HO2.out c3 hbl)
   clear rr3 c3 HVV
   go_wp2_with (at_builtin;refine wpList_append_own_at _ rfl (.tmp 25) (.tmp 27) 56 rfl w.heap.size 9 i0 _ 1 16 Tryz.underlying56 hi0 hz0 hz1 hz2 rfl (by decide) _ n (strV done) rfl HO3.out ⟨w3.heap.size,0,none⟩ 1 1 [.string X] rfl rfl (new_cells' _ _ _ _ rfl) (by intro u hu;simp at hu;subst hu;rfl) (by unfold maxLen;omega) (by omega) (by simp;omega) ?_;intro v2 w5 hown3 hgrow _ hat3;obtain⟨A2,c2,rfl⟩:=own_shape hown3;have HG3:=hidE hgrow;have HO5:=hidE hown3;clear hown3 hgrow hat3)
   have hs5:=HG3.out.size
   simp at hs5
   have HLT:=HOW.out.lt
   go_roundg r2.length
   case measure=>rw[HRN.out];omega
   case rel =>
    refine⟨r2,done++[X.data.toList],A2,c2,rfl,by rw[List.length_append,HN.out];rfl,by rw[List.length_append,HN.out,HL.out];simp;omega,hidE (HR3.out.keep ?_ ?_),hvn,hidE ?_,hidE ((HC3.out.alloc _).grown HG3.out (λj hj=>.inl (by have:=HLT _ hj;omega)))⟩
    ·exact(HG3.out.block b (by simp;omega) (λe=>by have:=HLT _ e.symm;omega)).trans (Below.heap_alloc _ _ _ (by omega))
    ·exact λg hg=>(HG3.out.block g (by have:=(HS.out g hg).2;simp;omega) (λe=>by have:=HLT _ e.symm;have:=(HS.out g hg).2;omega)).trans (Below.heap_alloc _ _ _ (by have:=(HS.out g hg).2;omega))
    ·rw[List.length_append,HN.out,show strV (done++[X.data.toList])=strV done++[.string X] by simp[strV]]
     exact HO5.out
  | false =>
   have hk:¬(hd r).kind=1:=by simpa using HQ.out
   have hvn:vars l=(done,r):=by rw[hv.out,vars_no r hk];simp
   have HVN:=hidE hvn
   clear hk hvn
   go_wp2_with fail
   go_ret2
   unfold VPost
   rw[HVN.out]
   exact⟨A,c,by rw[HN.out];rfl,by rw[HN.out];exact HO2.out,HR2.out,HC2.out⟩
set_option maxHeartbeats 400000 in
theorem sx_variables(S:Nat->Prop)(b:Nat)(l:List Tok)(w:World)(h:RdrS S w b l)(hS:∀g,S g->g≠b/\g<w.heap.size)(hl:l.length<=100000) :
  Calls Tryz.prog 164 #[.pointer (some ⟨b,0,none⟩)] w (VPost S b w (vars l)):=by
 have HT:=sx_longerS S b l w h hS hl
 obtain⟨O,hO⟩:∃O,vars l=O:=⟨_,rfl⟩
 rw[hO]at HT ⊢
 have hbl:=h.lt
 clear h hS hl hO
 go_enter Tryz.func164,Tryz.ntmps164
 go_wp2_with fail
 refine HT.mono ?_
 rintro e w1 ⟨A,c,rfl,h1,h2,h3⟩
 obtain⟨n,hn⟩:∃n,O.1.length=n:=⟨_,rfl⟩
 rw[hn]at h1 ⊢
 have HN:=hidE hn
 have H1:=hidE h1
 clear hn h1
 go_wp2_with fail
 go_ret2
 exact⟨A,c,by rw[HN.out];rfl,by rw[HN.out];exact H1.out,h2,h3⟩
theorem sx_signR(S:Nat->Prop)(b:Nat)(l:List Tok)(X:ByteArray)(w:World)(h:RdrS S w b l)(hS:∀g,S g->g≠b/\g<w.heap.size)(hl:l.length<=100000) :
  Calls Tryz.prog 101 #[.pointer (some ⟨b,0,none⟩),.string X] w λe w'=>e=.returned (.bool (isHd l 6 X.data.toList))/\RdrS S w' b (took l 6 X.data.toList)/\ChR b w w' :=
 (sx_sign S b l X w h hS hl).mono λ_ _ ⟨h1,h2,h3⟩=>⟨h1,h2,ChR.of_rdr h3 h2⟩
theorem sx_wordR(S:Nat->Prop)(b:Nat)(l:List Tok)(X:ByteArray)(w:World)(h:RdrS S w b l)(hS:∀g,S g->g≠b/\g<w.heap.size)(hl:l.length<=100000) :
  Calls Tryz.prog 103 #[.pointer (some ⟨b,0,none⟩),.string X] w λe w'=>e=.returned (.bool (isHd l 3 X.data.toList))/\RdrS S w' b (took l 3 X.data.toList)/\ChR b w w' :=
 (sx_word S b l X w h hS hl).mono λ_ _ ⟨h1,h2,h3⟩=>⟨h1,h2,ChR.of_rdr h3 h2⟩
theorem sx_variableR(S:Nat->Prop)(b:Nat)(l:List Tok)(w:World)(h:RdrS S w b l)(hS:∀g,S g->g≠b/\g<w.heap.size)(hl:l.length<=100000) :
  Calls Tryz.prog 130 #[.pointer (some ⟨b,0,none⟩)] w λe w'=>e=.returned (.tuple #[.string (anyT l 1),.bool ((hd l).kind==1)])/\RdrS S w' b (anyR l 1)/\ChR b w w' :=
 (sx_variable S b l w h hS hl).mono λ_ _ ⟨h1,h2,h3⟩=>⟨h1,h2,ChR.of_rdr h3 h2⟩
theorem sx_takeAnyR(S:Nat->Prop)(b:Nat)(l:List Tok)(k:Nat)(K:Int)(hK:K=k)(w:World)(h:RdrS S w b l)(hS:∀g,S g->g≠b/\g<w.heap.size)(hl:l.length<=100000)(hk0:k≠0) :
  Calls Tryz.prog 163 #[.pointer (some ⟨b,0,none⟩),.int .i64 K] w λe w'=>e=.returned (.tuple #[.string (anyT l k),.bool ((hd l).kind==k)])/\RdrS S w' b (anyR l k)/\ChR b w w' :=
 (sx_takeAny S b l k K hK w h hS hl hk0).mono λ_ _ ⟨h1,h2,h3⟩=>⟨h1,h2,ChR.of_rdr h3 h2⟩
theorem sx_variablesR(S:Nat->Prop)(b:Nat)(l:List Tok)(w:World)(h:RdrS S w b l)(hS:∀g,S g->g≠b/\g<w.heap.size)(hl:l.length<=100000) :
  Calls Tryz.prog 164 #[.pointer (some ⟨b,0,none⟩)] w λe w'=>∃A c,e=.returned (.tuple #[.slice A (vars l).1.length c,.bool true])/\w'.ownsRow w.heap.size 9 1 (.slice A (vars l).1.length c) (vars l).1.length (strV (vars l).1)/\RdrS S w' b (vars l).2/\ChR b w w' :=
 (sx_variables S b l w h hS hl).mono λ_ _ ⟨A,c,h1,h2,h3,h4⟩=>⟨A,c,h1,h2,h3,ChR.of_rdr h4 h3⟩
end Go.Proofs.YtmbmjneibkihkaaGreatDoor

namespace Go.Proofs.YtmbmjneibkihkaaGreatDoor
open Go.RowKit Lx Tx Sx
set_option maxRecDepth 100000
structure C9 where
 k:Int
 x:ByteArray
 t:Bool
 K:Int
 X:ByteArray
 Z:Int
 B:Option Addr
 m:Nat
 q:Nat
 KA:Option Addr
 kn:Nat
 kc:Nat
 LA:Option Addr
 ln:Nat
 lc:Nat
def lamF(f:Nat)(l:List Tok):Option (Ex × List Tok) :=
 match tok1 1 l with
 | none=>none
 | some (x,r2) =>
  match eat pArr r2 with
  | none=>none
  | some r3=>(rdE f r3).map λy=>(.lam x y.1,y.2)
theorem lamF_eq(f:Nat)(l:List Tok):lamF f l=if(hd l).kind=1 then(if isHd l.tail 6 [45,62]=true then(rdE f l.tail.tail).map λy=>(.lam (hd l).text y.1,y.2) else none) else none:=by
 unfold lamF
 rw[tok1_any 1 (by decide)]
 by_cases h:(hd l).kind=1
 ·rw[if_pos h,if_pos h]
  have:eat pArr l.tail=if isHd l.tail 6 [45,62]=true then some l.tail.tail else none:=eat_isHd 6 (by decide) [45,62] l.tail
  simp only[this]
  by_cases h2:isHd l.tail 6 [45,62]=true
  ·rw[if_pos h2,if_pos h2]
  ·rw[if_neg h2,if_neg h2]
 ·rw[if_neg h,if_neg h]
theorem heap_set4_5(w:World)(g:Nat)(b0 b1 b2 b3 b4:Value)(k:Nat)(hk:k≠g) :
  (((((w.setCell ⟨g,0,none⟩ b0).setCell ⟨g,1,none⟩ b1).setCell ⟨g,2,none⟩ b2).setCell ⟨g,3,none⟩ b3).setCell ⟨g,4,none⟩ b4).heap[k]? = w.heap[k]? :=
 (Below.heap_setCell _ ⟨g,4,none⟩ _ k hk).trans (heap_set4 _ _ _ _ _ _ _ hk)
theorem set9_far(w:World)(g k:Nat)(b0 b1 b2 b3 b4 b5 b6 b7 b8:Value)(hk:k≠g) :
  (((((((((w.setCell ⟨g,0,none⟩ b0).setCell ⟨g,1,none⟩ b1).setCell ⟨g,2,none⟩ b2).setCell ⟨g,3,none⟩ b3).setCell ⟨g,4,none⟩ b4).setCell ⟨g,5,none⟩ b5).setCell ⟨g,6,none⟩ b6).setCell ⟨g,7,none⟩ b7).setCell ⟨g,8,none⟩ b8).heap[k]? = w.heap[k]?:=by
 rw[Below.heap_setCell _ ⟨g,8,none⟩ _ k hk,Below.heap_setCell _ ⟨g,7,none⟩ _ k hk,Below.heap_setCell _ ⟨g,6,none⟩ _ k hk,Below.heap_setCell _ ⟨g,5,none⟩ _ k hk,heap_set4_5 _ _ _ _ _ _ _ k hk]
end Go.Proofs.YtmbmjneibkihkaaGreatDoor

namespace Go.Proofs.YtmbmjneibkihkaaGreatDoor
open Go.RowKit Lx Tx Sx
set_option maxRecDepth 100000
def exZ:Array Value:=#[.int .i64 0,.string ⟨#[]⟩,.bool false,.int .i64 0,.string ⟨#[]⟩,.int .i64 0,.slice none 0 0,.slice none 0 0,.slice none 0 0]
theorem blk_set9 {w:World} {g:Nat} {t:TypeId} {a0 a1 a2 a3 a4 a5 a6 a7 a8:Value}(b0 b1 b2 b3 b4 b5 b6 b7 b8:Value)(h:Blk w g t #[a0,a1,a2,a3,a4,a5,a6,a7,a8]) :
  Blk (((((((((w.setCell ⟨g,0,none⟩ b0).setCell ⟨g,1,none⟩ b1).setCell ⟨g,2,none⟩ b2).setCell ⟨g,3,none⟩ b3).setCell ⟨g,4,none⟩ b4).setCell ⟨g,5,none⟩ b5).setCell ⟨g,6,none⟩ b6).setCell ⟨g,7,none⟩ b7).setCell ⟨g,8,none⟩ b8) g t #[b0,b1,b2,b3,b4,b5,b6,b7,b8]:=by
 have s:∀(W:World) (cs:Array Value) (i:Nat) (b:Value),Blk W g t cs->Blk (W.setCell ⟨g,i,none⟩ b) g t (cs.setIfInBounds i b):=λW cs i b h=>heap_setCell_same W g i _ _ b h
 have h8:=s _ _ 8 b8 (s _ _ 7 b7 (s _ _ 6 b6 (s _ _ 5 b5 (s _ _ 4 b4 (s _ _ 3 b3 (s _ _ 2 b2 (s _ _ 1 b1 (s _ _ 0 b0 h))))))))
 have e:((((((((((#[a0,a1,a2,a3,a4,a5,a6,a7,a8]:Array Value).setIfInBounds 0 b0).setIfInBounds 1 b1).setIfInBounds 2 b2).setIfInBounds 3 b3).setIfInBounds 4 b4).setIfInBounds 5 b5).setIfInBounds 6 b6).setIfInBounds 7 b7).setIfInBounds 8 b8)=#[b0,b1,b2,b3,b4,b5,b6,b7,b8]:=by simp
 rw[e]at h8
 exact h8
structure Z9 (w:World) (g:Nat):Prop where
 c:w.cell? ⟨g,0,none⟩=some (.int .i64 0)/\w.cell? ⟨g,1,none⟩=some (.string ⟨#[]⟩)/\w.cell? ⟨g,2,none⟩=some (.bool false) /\
   w.cell? ⟨g,3,none⟩=some (.int .i64 0)/\w.cell? ⟨g,4,none⟩=some (.string ⟨#[]⟩)/\w.cell? ⟨g,5,none⟩=some (.int .i64 0)/\w.cell? ⟨g,6,none⟩=some (.slice none 0 0)/\w.cell? ⟨g,7,none⟩=some (.slice none 0 0)/\w.cell? ⟨g,8,none⟩=some (.slice none 0 0)
 f:w.frozen? ⟨g,0,none⟩=false/\w.frozen? ⟨g,1,none⟩=false/\w.frozen? ⟨g,2,none⟩=false/\w.frozen? ⟨g,3,none⟩=false/\w.frozen? ⟨g,4,none⟩=false/\w.frozen? ⟨g,5,none⟩=false/\w.frozen? ⟨g,6,none⟩=false/\w.frozen? ⟨g,7,none⟩=false/\w.frozen? ⟨g,8,none⟩=false
theorem z9 {w:World} {g:Nat} {t:TypeId}(h:Blk w g t exZ):Z9 w g :=
 ⟨⟨h.cell 0,h.cell 1,h.cell 2,h.cell 3,h.cell 4,h.cell 5,h.cell 6,h.cell 7,h.cell 8⟩,⟨h.frozen 0,h.frozen 1,h.frozen 2,h.frozen 3,h.frozen 4,h.frozen 5,h.frozen 6,h.frozen 7,h.frozen 8⟩⟩
end Go.Proofs.YtmbmjneibkihkaaGreatDoor

namespace Go.Proofs.YtmbmjneibkihkaaGreatDoor
namespace Sx
open Lx Tx
def manyF {α:Type}(nx:List Tok->Bool)(af:List Tok->List Tok)(rd:Nat->List Tok->Option (α × List Tok)):Nat->List Tok->Option (List α × List Tok)
 | 0,_=>none
 | f+1,l =>
  if nx l=true then
   match rd f (af l) with
   | none=>none
   | some y=>(manyF nx af rd f y.2).map λz=>(y.1::z.1,z.2)
  else some ([],l)
theorem many_end {α:Type} {nx:List Tok->Bool} {af:List Tok->List Tok} {rd:Nat->List Tok->Option (α × List Tok)}(f:Nat)(l:List Tok)(h:nx l=false):manyF nx af rd (f+1) l=some ([],l):=by
 rw[manyF,if_neg (by rw[h];decide)]
theorem many_no {α:Type} {nx:List Tok->Bool} {af:List Tok->List Tok} {rd:Nat->List Tok->Option (α × List Tok)}(f:Nat)(l:List Tok)(h:nx l=true)(ho:rd f (af l)=none):manyF nx af rd (f+1) l=none:=by
 rw[manyF,if_pos h,ho]
theorem many_yes {α:Type} {nx:List Tok->Bool} {af:List Tok->List Tok} {rd:Nat->List Tok->Option (α × List Tok)}(f:Nat)(l:List Tok)(h:nx l=true)(x:α)(r:List Tok)(ho:rd f (af l)=some (x,r)) :
  manyF nx af rd (f+1) l=(manyF nx af rd f r).map λy=>(x::y.1,y.2):=by
 rw[manyF,if_pos h,ho]
def semB(l:List Tok):Bool:=isHd l 6 [59]
def sepM {α:Type}(rd:Nat->List Tok->Option (α × List Tok))(f:Nat)(l:List Tok):Option (List α × List Tok) :=
 match rd f l with
 | none=>none
 | some y=>(manyF semB List.tail rd f y.2).map λz=>(y.1::z.1,z.2)
theorem eat_sem(l:List Tok):eat pSem l=if semB l=true then some l.tail else none:=eat_isHd 6 (by decide) [59] l
def brF {α:Type}(rd:Nat->List Tok->Option (α × List Tok))(f:Nat)(l:List Tok):Option (List α × List Tok) :=
 if isHd l 6 [123]=true then
  if isHd l.tail 6 [125]=true then some ([],l.tail.tail)
  else
   match sepM rd f l.tail with
   | none=>none
   | some y=>if isHd y.2 6 [125]=true then some (y.1,y.2.tail) else none
 else none
theorem eat_opn(l:List Tok):eat pOpn l=if isHd l 6 [123]=true then some l.tail else none:=eat_isHd 6 (by decide) [123] l
theorem eat_cls(l:List Tok):eat pCls l=if isHd l 6 [125]=true then some l.tail else none:=eat_isHd 6 (by decide) [125] l
theorem args_many(f:Nat):∀a l,rdArgs f a l=(manyF atomEB id rdAtom f l).map λy=>(y.1.foldl Ex.app a,y.2):=by
 induction f with
 | zero=>intro a l;rw[rdArgs,manyF];rfl
 | succ f ih =>
  intro a l
  cases l with
  | nil=>rw[rdArgs,many_end f [] rfl];rfl
  | cons t r =>
   rw[rdArgs]
   by_cases h:atomE t=true
   ·rw[if_pos h]
    have h':atomEB (t::r)=true:=h
    cases ho:rdAtom f (t::r) with
    | none=>rw[many_no f (t::r) h' ho];rfl
    | some y =>
     obtain⟨b,r2⟩:=y
     rw[many_yes f (t::r) h' b r2 ho]
     simp only[ih]
     cases manyF atomEB id rdAtom f r2 <;> rfl
   ·rw[if_neg h]
    have h':atomEB (t::r)=false:=by simpa[atomEB] using h
    rw[many_end f (t::r) h']
    rfl
def rdAlt(f:Nat)(l:List Tok):Option (Al × List Tok) :=
 match tok1 2 l with
 | none=>none
 | some y =>
  match eat pArr (vars y.2).2 with
  | none=>none
  | some r2=>(rdE f r2).map λz=>(.mk y.1 (vars y.2).1 z.1,z.2)
theorem alts_sep(f:Nat):∀l,rdAlts (f+1) l=sepM rdAlt f l:=by
 induction f with
 | zero =>
  intro l
  rw[rdAlts,sepM,rdAlt]
  cases tok1 2 l with
  | none=>rfl
  | some y =>
   obtain⟨c,r⟩:=y
   simp only
   cases eat pArr (vars r).2 with
   | none=>rfl
   | some r2=>simp only[rdE];rfl
 | succ f ih =>
  intro l
  rw[rdAlts,sepM,rdAlt]
  cases tok1 2 l with
  | none=>rfl
  | some y =>
   obtain⟨c,r⟩:=y
   simp only
   cases eat pArr (vars r).2 with
   | none=>rfl
   | some r2 =>
    simp only
    cases rdE (f+1) r2 with
    | none=>rfl
    | some y =>
     obtain⟨b,r3⟩:=y
     simp only[Option.map_some,eat_sem]
     by_cases h:semB r3=true
     ·simp only[if_pos h,ih]
      rw[sepM]
      cases ho:rdAlt f r3.tail with
      | none=>simp only;rw[many_no f r3 h ho]
      | some y =>
       obtain⟨x,r4⟩:=y
       simp only
       rw[many_yes f r3 h x r4 ho]
     ·simp only[if_neg h]
      rw[many_end f r3 (by simpa using h)];rfl
theorem sep_sep {α:Type}(p:List Tok->Option (α × List Tok))(f:Nat):∀l,sepF p (f+1) l=sepM (λ_=>p) (f+1) l:=by
 induction f with
 | zero =>
  intro l
  rw[sepF,sepM]
  cases p l with
  | none=>rfl
  | some y =>
   obtain⟨x,r⟩:=y
   simp only[eat_sem]
   by_cases h:semB r=true
   ·simp only[if_pos h,sepF]
    cases ho:p r.tail with
    | none=>rw[many_no (rd:=λ_=>p) 0 r h ho]
    | some y=>rw[many_yes (rd:=λ_=>p) 0 r h y.1 y.2 ho,manyF];rfl
   ·simp only[if_neg h]
    rw[many_end 0 r (by simpa using h)];rfl
 | succ f ih =>
  intro l
  rw[sepF,sepM]
  cases p l with
  | none=>rfl
  | some y =>
   obtain⟨x,r⟩:=y
   simp only[eat_sem]
   by_cases h:semB r=true
   ·simp only[if_pos h,ih]
    rw[sepM]
    cases ho:p r.tail with
    | none=>simp only;rw[many_no (rd:=λ_=>p) (f+1) r h ho]
    | some y =>
     simp only
     rw[many_yes (rd:=λ_=>p) (f+1) r h y.1 y.2 ho]
   ·simp only[if_neg h]
    rw[many_end (f+1) r (by simpa using h)];rfl
def choF(f:Nat)(l:List Tok):Option (Ex × List Tok) :=
 match rdE (f+1) l with
 | none=>none
 | some y=>if isHd y.2 3 wOf=true then(brF rdAlt f y.2.tail).map λz=>(.cs y.1 z.1,z.2) else none
theorem rdCase_eq(f:Nat)(l:List Tok):rdCase (f+2) l=choF f l:=by
 rw[rdCase,choF]
 cases rdE (f+1) l with
 | none=>rfl
 | some y =>
  obtain⟨a,r⟩:=y
  simp only
  rw[show eat (isKey · wOf) r=if isHd r 3 wOf=true then some r.tail else none from eat_isHd 3 (by decide) wOf r]
  by_cases h:isHd r 3 wOf=true
  ·simp only[if_pos h,eat_opn,brF]
   by_cases h2:isHd r.tail 6 [123]=true
   ·simp only[if_pos h2,eat_cls]
    by_cases h3:isHd r.tail.tail 6 [125]=true
    ·simp only[if_pos h3];rfl
    ·simp only[if_neg h3,alts_sep]
     cases sepM rdAlt f r.tail.tail with
     | none=>rfl
     | some z =>
      simp only
      by_cases h4:isHd z.2 6 [125]=true
      ·simp only[if_pos h4];rfl
      ·simp only[if_neg h4];rfl
   ·simp only[if_neg h2];rfl
  ·simp only[if_neg h]
def letG(f:Nat)(x:Nm)(t:Option Ty)(r:List Tok):Option (Ex × List Tok) :=
 if isHd r 6 [61]=true then
  match rdE f r.tail with
  | none=>none
  | some y=>if isHd y.2 3 wIn=true then(rdE f y.2.tail).map λz=>(.lt x t y.1 z.1,z.2) else none
 else none
def letF(f:Nat)(l:List Tok):Option (Ex × List Tok) :=
 if(hd l).kind=1 then
  if isHd l.tail 6 [58]=true then
   match typ l.tail.tail with
   | none=>none
   | some y=>letG f (hd l).text (some y.1) y.2
  else letG f (hd l).text none l.tail
 else none
theorem rdLet_eq(f:Nat)(l:List Tok):rdLet (f+1) l=letF f l:=by
 rw[rdLet,letF,tok1_any 1 (by decide)]
 by_cases h:(hd l).kind=1
 ·simp only[if_pos h,told,show eat pCol l.tail=if isHd l.tail 6 [58]=true then some l.tail.tail else none from eat_isHd 6 (by decide) [58] l.tail]
  have hG:∀t r,(match eat pEq r with
    | none=>none
    | some r3 =>
     match rdE f r3 with
     | none=>none
     | some (a,r4) =>
      match eat (isKey · wIn) r4 with
      | none=>none
      | some r5=>(rdE f r5).map λy=>(Ex.lt (hd l).text t a y.1,y.2))=letG f (hd l).text t r:=by
   intro t r
   rw[letG,show eat pEq r=if isHd r 6 [61]=true then some r.tail else none from eat_isHd 6 (by decide) [61] r]
   by_cases h1:isHd r 6 [61]=true
   ·simp only[if_pos h1]
    cases rdE f r.tail with
    | none=>rfl
    | some y =>
     simp only
     rw[show eat (isKey · wIn) y.2=if isHd y.2 3 wIn=true then some y.2.tail else none from eat_isHd 3 (by decide) wIn y.2]
     by_cases h2:isHd y.2 3 wIn=true
     ·simp only[if_pos h2]
     ·simp only[if_neg h2]
   ·simp only[if_neg h1]
  by_cases h1:isHd l.tail 6 [58]=true
  ·simp only[if_pos h1]
   cases typ l.tail.tail with
   | none=>rfl
   | some y=>exact hG (some y.1) y.2
  ·simp only[if_neg h1]
   exact hG none l.tail
 ·simp only[if_neg h]
def parF(f:Nat)(l:List Tok):Option (Ex × List Tok) :=
 match rdE f l with
 | none=>none
 | some y =>
  if isHd y.2 6 [58]=true then
   match typ y.2.tail with
   | none=>none
   | some z=>if isHd z.2 6 [41]=true then some (.ann y.1 z.1,z.2.tail) else none
  else if isHd y.2 6 [41]=true then some (y.1,y.2.tail) else none
theorem rdAtom_eq(f:Nat)(l:List Tok):rdAtom (f+1) l=if(hd l).kind=1 then some (.var (hd l).text,l.tail) else if isHd l 6 [40]=true then parF f l.tail else if(hd l).kind=2 then some (.con (hd l).text,l.tail) else none:=by
 rw[rdAtom,tok1_any 1 (by decide),tok1_any 2 (by decide),show eat pLp l=if isHd l 6 [40]=true then some l.tail else none from eat_isHd 6 (by decide) [40] l]
 by_cases h:(hd l).kind=1
 ·simp only[if_pos h]
 ·simp only[if_neg h]
  by_cases h1:isHd l 6 [40]=true
  ·simp only[if_pos h1,parF]
   cases rdE f l.tail with
   | none=>rfl
   | some y =>
    obtain⟨a,r⟩:=y
    simp only[told,show eat pCol r=if isHd r 6 [58]=true then some r.tail else none from eat_isHd 6 (by decide) [58] r]
    have hp:∀r,eat pRp r=if isHd r 6 [41]=true then some r.tail else none:=λr=>eat_isHd 6 (by decide) [41] r
    by_cases h2:isHd r 6 [58]=true
    ·simp only[if_pos h2]
     cases typ r.tail with
     | none=>rfl
     | some z =>
      simp only[Option.map_some,hp]
      by_cases h3:isHd z.2 6 [41]=true
      ·simp only[if_pos h3];rfl
      ·simp only[if_neg h3];rfl
    ·simp only[if_neg h2,hp]
     by_cases h3:isHd r 6 [41]=true
     ·simp only[if_pos h3];rfl
     ·simp only[if_neg h3];rfl
  ·simp only[if_neg h1]
   by_cases h2:(hd l).kind=2
   ·simp only[if_pos h2];rfl
   ·simp only[if_neg h2];rfl
theorem rdApp_eq(f:Nat)(l:List Tok):rdApp (f+1) l=match rdAtom f l with
  | none=>none
  | some y=>(manyF atomEB id rdAtom f y.2).map λz=>(z.1.foldl Ex.app y.1,z.2):=by
 rw[rdApp]
 cases rdAtom f l with
 | none=>rfl
 | some y=>exact args_many f y.1 y.2
theorem rdE_eq(f:Nat)(l:List Tok):rdE (f+1) l=if isHd l 6 [92]=true then lamF f l.tail else if isHd l 3 wLet=true then rdLet f l.tail else if isHd l 3 wCase=true then rdCase f l.tail else rdApp f l:=by
 rw[rdE,show eat pLam l=if isHd l 6 [92]=true then some l.tail else none from eat_isHd 6 (by decide) [92] l,show eat (isKey · wLet) l=if isHd l 3 wLet=true then some l.tail else none from eat_isHd 3 (by decide) wLet l,
  show eat (isKey · wCase) l=if isHd l 3 wCase=true then some l.tail else none from eat_isHd 3 (by decide) wCase l]
 by_cases h:isHd l 6 [92]=true
 ·simp only[if_pos h];rfl
 ·simp only[if_neg h]
  by_cases h1:isHd l 3 wLet=true
  ·simp only[if_pos h1]
  ·simp only[if_neg h1]
   by_cases h2:isHd l 3 wCase=true
   ·simp only[if_pos h2]
   ·simp only[if_neg h2]
theorem rdAlt_eq(f:Nat)(l:List Tok):rdAlt f l=if(hd l).kind=2 then if isHd (vars l.tail).2 6 [45,62]=true then(rdE f (vars l.tail).2.tail).map λz=>(.mk (hd l).text (vars l.tail).1 z.1,z.2) else none else none:=by
 rw[rdAlt,tok1_any 2 (by decide)]
 by_cases h:(hd l).kind=2
 ·simp only[if_pos h]
  rw[show eat pArr (vars l.tail).2=if isHd (vars l.tail).2 6 [45,62]=true then some (vars l.tail).2.tail else none from eat_isHd 6 (by decide) [45,62] _]
  by_cases h1:isHd (vars l.tail).2 6 [45,62]=true
  ·simp only[if_pos h1]
  ·simp only[if_neg h1]
 ·simp only[if_neg h]
end Sx
end Go.Proofs.YtmbmjneibkihkaaGreatDoor

namespace Go.Proofs.YtmbmjneibkihkaaGreatDoor
open Go.RowKit Lx Tx Sx
theorem ChR.set9 {b:Nat} {w w':World} {g:Nat}(h:ChR b w w')(b0 b1 b2 b3 b4 b5 b6 b7 b8:Value)(hg:w.heap.size<=g) :
  ChR b w (((((((((w'.setCell ⟨g,0,none⟩ b0).setCell ⟨g,1,none⟩ b1).setCell ⟨g,2,none⟩ b2).setCell ⟨g,3,none⟩ b3).setCell ⟨g,4,none⟩ b4).setCell ⟨g,5,none⟩ b5).setCell ⟨g,6,none⟩ b6).setCell ⟨g,7,none⟩ b7).setCell ⟨g,8,none⟩ b8) :=
 (((((h.set4 b0 b1 b2 b3 hg).setCell (p:=⟨g,4,none⟩) (.inl hg) _).setCell (p:=⟨g,5,none⟩) (.inl hg) _).setCell (p:=⟨g,6,none⟩) (.inl hg) _).setCell (p:=⟨g,7,none⟩) (.inl hg) _).setCell (p:=⟨g,8,none⟩) (.inl hg) _
structure Pc (α:Type) where
 n:Nat
 Cs:(Nat->Prop)->World->α->List Value->Prop
 len:∀ {S:Nat->Prop} {w:World} {x:α} {cs:List Value},Cs S w x cs->cs.length=n
 keep:∀ {S S':Nat->Prop} {w w':World} {x:α} {cs:List Value},(∀g,S g->S' g)->(∀g,S g->w'.heap[g]? = w.heap[g]?)->Cs S w x cs->Cs S' w' x cs
def RowG {α:Type}(P:Pc α)(S:Nat->Prop)(w:World):List α->List Value->Prop
 | [],vs=>vs=[]
 | x::r,vs=>∃cs rest,vs=cs++rest/\P.Cs S w x cs/\RowG P S w r rest
theorem RowG.snoc {α:Type} {P:Pc α} {S:Nat->Prop} {w:World} {x:α} {cs:List Value}(hx:P.Cs S w x cs):(l:List α)->∀vs,RowG P S w l vs->RowG P S w (l++[x]) (vs++cs)
 | [],vs,h=>by
  rw[RowG]at h
  rw[List.nil_append,RowG]
  exact⟨cs,[],by simp[h],hx,by rw[RowG]⟩
 | u::r,vs,h=>by
  rw[RowG]at h
  obtain⟨c',rest,rfl,h1,h2⟩:=h
  rw[List.cons_append,RowG]
  exact⟨c',rest++cs,by simp,h1,RowG.snoc hx r rest h2⟩
theorem RowG.keep {α:Type} {P:Pc α} {S S':Nat->Prop} {w w':World}(hS:∀g,S g->S' g)(hk:∀g,S g->w'.heap[g]? = w.heap[g]?):(l:List α)->∀vs,RowG P S w l vs->RowG P S' w' l vs
 | [],vs,h=>by rw[RowG]at h ⊢;exact h
 | x::r,vs,h=>by
  rw[RowG]at h ⊢
  obtain⟨cs,rest,e,h1,h2⟩:=h
  exact⟨cs,rest,e,P.keep hS hk h1,RowG.keep hS hk r rest h2⟩
def AtG {α:Type}(P:Pc α)(S:Nat->Prop)(w:World):List α->Nat->Nat->Prop
 | [],_,_=>True
 | x::r,g,o=>(∃cs,P.Cs S w x cs/\Lie w g o cs)/\AtG P S w r g (o+P.n)
theorem RowG.lie {α:Type} {P:Pc α} {S:Nat->Prop} {w:World} {g:Nat} :(l:List α)->∀vs o,RowG P S w l vs->Lie w g o vs->AtG P S w l g o
 | [],_,_,_,_=>by rw[AtG];trivial
 | x::r,vs,o,h,hc=>by
  rw[RowG]at h
  obtain⟨cs,rest,rfl,h1,h2⟩:=h
  have hl:=P.len h1
  rw[AtG]
  refine⟨⟨cs,h1,λj u hu=>?_⟩,RowG.lie r rest (o+P.n) h2 λj u hu=>?_⟩
  ·exact hc j u (by rw[List.getElem?_append_left (List.getElem?_eq_some_iff.1 hu).1];exact hu)
  ·rw[show o+P.n+j=o+(P.n+j) by omega]
   exact hc (P.n+j) u (by rw[List.getElem?_append_right (by omega),hl,Nat.add_sub_cancel_left];exact hu)
theorem AtG.keep {α:Type} {P:Pc α} {S S':Nat->Prop} {w w':World}(hS:∀g,S g->S' g)(hk:∀g,S g->w'.heap[g]? = w.heap[g]?):(l:List α)->∀g o,w'.heap[g]? = w.heap[g]?->AtG P S w l g o->AtG P S' w' l g o
 | [],_,_,_,_=>by rw[AtG];trivial
 | x::r,g,o,hg,h=>by
  rw[AtG]at h ⊢
  obtain⟨⟨cs,h1,h2⟩,h3⟩:=h
  exact⟨⟨cs,P.keep hS hk h1,h2.keep hg⟩,AtG.keep hS hk r g (o+P.n) hg h3⟩
theorem AtG.at_ {α:Type} {P:Pc α} {S:Nat->Prop} {w:World} :(l:List α)->∀g o i (hi:i<l.length),AtG P S w l g o->∃cs,P.Cs S w l[i] cs/\Lie w g (o+i*P.n) cs
 | [],_,_,i,hi,_=>absurd hi (by simp)
 | x::r,g,o,0,_,h=>by rw[AtG]at h;simpa using h.1
 | x::r,g,o,i+1,hi,h=>by
  rw[AtG]at h
  have:=AtG.at_ r g (o+P.n) i (by simpa using hi) h.2
  rw[show o+P.n+i*P.n=o+(i+1)*P.n by rw[Nat.succ_mul];omega]at this
  simpa using this
def LstG {α:Type}(P:Pc α)(S:Nat->Prop)(w:World)(l:List α)(A:Option Addr):Prop:=l≠[]->∃g,A=some ⟨g,0,none⟩/\S g/\AtG P S w l g 0
theorem LstG.keep {α:Type} {P:Pc α} {S S':Nat->Prop} {w w':World} {l:List α} {A:Option Addr}(h:LstG P S w l A)(hS:∀g,S g->S' g)(hk:∀g,S g->w'.heap[g]? = w.heap[g]?):LstG P S' w' l A:=λhl=>by
 obtain⟨g,h1,h2,h3⟩:=h hl
 exact⟨g,h1,hS g h2,h3.keep hS hk l g 0 (hk g h2)⟩
def BuiltG {α:Type}(P:Pc α)(B:Nat)(e:TypeId)(w:World)(l:List α)(v:Value):Prop :=
 ∃vs,w.ownsRow B e P.n v l.length vs/\RowG P (λg=>(B<=g/\g<w.heap.size)/\some g≠v.ownBlock) w l vs
theorem BuiltG.nil {α:Type}(P:Pc α)(B:Nat)(e:TypeId)(w:World):BuiltG P B e w [] (.slice none 0 0):=⟨[],World.ownsRow_nil _ _ _ _,by rw[RowG]⟩
theorem BuiltG.chgR {α:Type} {P:Pc α} {b B:Nat} {e:TypeId} {w w':World} {l:List α} {v:Value}(h:BuiltG P B e w l v)(hc:ChR b w w')(hb:b<B):BuiltG P B e w' l v:=by
 obtain⟨vs,h1,h2⟩:=h
 have hs:=hc.size
 exact⟨vs,own_chgR h1 hc hb,RowG.keep (λg hg=>⟨⟨hg.1.1,by have:=hg.1.2;omega⟩,hg.2⟩) (λg hg=>hc.block g hg.1.2 (by have:=hg.1.1;unfold only;omega)) l vs h2⟩
theorem BuiltG.one {α:Type} {P:Pc α} {S:Nat->Prop} {B:Nat} {e:TypeId} {w:World} {x:α} {cs:List Value}(hx:P.Cs S w x cs)(hS:∀g,S g->B<=g/\g<w.heap.size)(hB:B<=w.heap.size)(o:Obj) :
  BuiltG P B e ((w.alloc o).alloc (.cells cs.toArray e)) [x] (.slice (some ⟨w.heap.size+1,0,none⟩) 1 1):=by
 have hl:=P.len hx
 have hnew:((w.alloc o).alloc (.cells cs.toArray e)).heap[w.heap.size+1]? = some (.cells cs.toArray e):=by
  have:=heap_alloc_new (w.alloc o) (.cells cs.toArray e)
  rwa [show(w.alloc o).heap.size=w.heap.size+1 by simp]at this
 refine⟨cs,⟨by simp[hl],.inr ⟨w.heap.size+1,1,cs.toArray,rfl,by omega,hnew,Nat.le_refl _,by unfold maxLen;omega,by simp[hl],by simp[<-hl]⟩⟩,?_⟩
 rw[RowG]
 refine⟨cs,[],by simp,P.keep (λg hg=>?_) (λg hg=>?_) hx,by rw[RowG]⟩
 ·have:=hS g hg
  exact⟨⟨this.1,by simp;omega⟩,λe=>by have e:some g=some (w.heap.size+1):=e;injection e with e;omega⟩
 ·have:=hS g hg
  exact(Below.heap_alloc _ _ _ (by simp;omega)).trans (Below.heap_alloc _ _ _ this.2)
theorem BuiltG.next {α:Type} {P:Pc α} {b B:Nat} {e:TypeId} {w w1 w2 w3:World} {l:List α} {x:α} {v v':Value} {vs cs:List Value}
  (hb:b<B)(hB:B<=w.heap.size)(hown:w.ownsRow B e P.n v l.length vs)(hrow:RowG P (λg=>(B<=g/\g<w.heap.size)/\some g≠v.ownBlock) w l vs)
  (b1:ChR b w w1)(hx:P.Cs (λg=>w.heap.size<=g/\g<w1.heap.size) w1 x cs)(b2:Below w1.heap.size w1 w2)
  (ho:w3.ownsRow B e P.n v' (l.length+1) (vs++cs))(hg:w2.grownBy w3 v.ownBlock)(hat:v'.ownBlock=v.ownBlock\/v'.ownBlock=some w2.heap.size) :
  BuiltG P B e w3 (l++[x]) v':=by
 have hlt:=hown.lt
 have s1:=b1.size
 have s2:=b2.size
 have s3:=hg.size
 have hne:∀g,g<w2.heap.size->some g≠v.ownBlock->some g≠v'.ownBlock:=λg h1 h2=>by
  rcases hat with h|h
  ·rw[h];exact h2
  ·rw[h];intro e;injection e with e;omega
 have hk:∀g,g<w.heap.size->g≠b->some g≠v.ownBlock->w3.heap[g]? = w.heap[g]?:=λg h1 h2 h3 =>
  (hg.block g (by omega) h3).trans ((b2.block g (by omega)).trans (b1.block g h1 h2))
 refine⟨vs++cs,by rw[List.length_append];exact ho,RowG.snoc (P.keep (λg h=>?_) (λg h=>?_) hx) l vs (RowG.keep (λg h=>?_) (λg h=>?_) l vs hrow)⟩
 ·have hn:some g≠v.ownBlock:=λe=>by have:=hlt _ e.symm;omega
  exact⟨⟨by omega,by omega⟩,hne g (by omega) hn⟩
 ·have hn:some g≠v.ownBlock:=λe=>by have:=hlt _ e.symm;omega
  exact(hg.block g (by omega) hn).trans (b2.block g (by omega))
 ·exact⟨⟨h.1.1,by have:=h.1.2;omega⟩,hne g (by have:=h.1.2;omega) h.2⟩
 ·exact hk g h.1.2 (by have:=h.1.1;omega) h.2
theorem BuiltG.lst {α:Type} {P:Pc α} {B:Nat} {e:TypeId} {w:World} {l:List α} {A:Option Addr} {n c:Nat}(h:BuiltG P B e w l (.slice A n c)):n=l.length/\LstG P (λg=>B<=g/\g<w.heap.size) w l A:=by
 obtain⟨vs,h1,h2⟩:=h
 have hc:=λg hg=>h1.cells (g:=g) hg
 have hlt:=h1.lt
 rcases h1.2 with⟨h3,h0⟩|⟨g,cap,cur,h3,_⟩
 ·injection h3 with e1 e2 e3
  subst e1 e2 e3
  have hk:l=[]:=by cases l with|nil=>rfl|cons a b=>simp at h0
  exact⟨by rw[hk];rfl,λh=>absurd hk h⟩
 ·injection h3 with e1 e2 e3
  subst e1 e2 e3
  refine⟨rfl,λh=>⟨g,rfl,⟨(hlt g rfl).1,(hlt g rfl).2⟩,RowG.lie l vs 0 (RowG.keep (λ_ h=>h.1) (λ_ _=>rfl) l vs h2) λj u hu=>?_⟩⟩
  have hadd:(⟨g,0,none⟩:Addr).add j=⟨g,j,none⟩:=by unfold Addr.add;split <;> simp_all
  have:=hc g rfl j u hu
  rw[hadd]at this
  rw[Nat.zero_add];exact this
def GPost {α:Type}(P:Pc α)(Sh:List Value->Prop)(S:Nat->Prop)(b:Nat)(w:World)(o:Option (α × List Tok))(e:Ending)(w':World):Prop :=
 ChR b w w'/\∃cs,Sh cs/\((o=none/\e=.returned (.tuple #[.agg cs.toArray,.bool false])) \/
  ∃x r,o=some (x,r)/\e=.returned (.tuple #[.agg cs.toArray,.bool true])/\P.Cs (λg=>w.heap.size<=g/\g<w'.heap.size) w' x cs/\RdrS S w' b r)
def LPost {α:Type}(P:Pc α)(S:Nat->Prop)(b:Nat)(w:World)(o:Option (List α × List Tok))(e:Ending)(w':World):Prop :=
 ChR b w w'/\∃A m c,((o=none/\e=.returned (.tuple #[.slice A m c,.bool false])) \/
  ∃x r,o=some (x,r)/\e=.returned (.tuple #[.slice A m c,.bool true])/\m=x.length/\LstG P (λg=>w.heap.size<=g/\g<w'.heap.size) w' x A/\RdrS S w' b r)
def GReads {α:Type}(P:Pc α)(Sh:List Value->Prop)(S:Nat->Prop)(b:Nat)(fv k:Nat)(rd:Nat->List Tok->Option (α × List Tok))(f:Nat):Prop :=
 ∀(w:World) (l:List Tok),RdrS S w b l->(∀g,S g->g≠b/\g<w.heap.size)->AllG l->l.length<=100000->3*l.length+k<=f->Calls Tryz.prog fv #[.pointer (some ⟨b,0,none⟩)] w (GPost P Sh S b w (rd f l))
def HeadG {α:Type}(P:Pc α)(nx:List Tok->Bool)(af:List Tok->List Tok)(rd:Nat->List Tok->Option (α × List Tok))(S:Nat->Prop)(b B k f:Nat)(e:TypeId)(l0:List α)(r0:List Tok)(w:World)(gg:Nat)(v:Value)(wr:World):Prop :=
 ∃(l:List Tok) (f':Nat) (done:List α) (A:Option Addr) (c:Nat),gg=l.length/\v=.slice A (l0++done).length c/\AllG l/\l.length+done.length<=r0.length/\3*l.length+k<=f'/\f'<=f/\Hid (RdrS S wr b l) /\
  Hid (manyF nx af rd f r0=(manyF nx af rd f' l).map λy=>(done++y.1,y.2))/\Hid (BuiltG P B e wr (l0++done) (.slice A (l0++done).length c))/\Hid (ChR b w wr)
def pcE:Pc Ex where
 n:=9
 Cs S w e cs:=∃P:Pls,cs=exC e P/\TyA S w (tyE e) P.A/\ExIn S w e P.K P.L
 len:=by rintro S w e cs ⟨P,rfl,-,-⟩;exact exC_length e P
 keep:=by
  rintro S S' w w' e cs hS hk ⟨P,rfl,h2,h3⟩
  exact⟨P,rfl,h2.keep hS hk,ExIn.keep hS hk e _ _ h3⟩
def shE(cs:List Value):Prop:=∃(k:Int)(x:ByteArray)(t:Bool)(K:Int)(X:ByteArray)(Z:Int)(B:Option Addr)(m q:Nat)(KA:Option Addr)(kn kc:Nat)(LA:Option Addr)(ln lc:Nat),
 cs=[.int .i64 k,.string x,.bool t,.int .i64 K,.string X,.int .i64 Z,.slice B m q,.slice KA kn kc,.slice LA ln lc]
theorem rdX_cs {S:Nat->Prop} {w:World} {e:Ex} {cs:List Value} : RdX S w e (.agg cs.toArray)↔pcE.Cs S w e cs:=by
 constructor
 ·rintro⟨P,h1,h2,h3⟩
  injection h1 with h1
  exact⟨P,by simpa using congrArg Array.toList h1,h2,h3⟩
 ·rintro⟨P,rfl,h2,h3⟩
  exact⟨P,rfl,h2,h3⟩
theorem atG_ex {S:Nat->Prop} {w:World} :(l:List Ex)->∀g o,AtG pcE S w l g o↔ExsAt S w l g o
 | [],_,_=>by rw[AtG,ExsAt]
 | e::r,g,o=>by
  rw[AtG,ExsAt,atG_ex r g (o+pcE.n)]
  refine and_congr ⟨?_,?_⟩ Iff.rfl
  ·rintro⟨cs,⟨P,rfl,h2,h3⟩,h1⟩
   exact⟨P,h1,h2,h3⟩
  ·rintro⟨P,h1,h2,h3⟩
   exact⟨_,⟨P,rfl,h2,h3⟩,h1⟩
def alC(a:Al)(V:Option Addr)(v:Nat)(P:Pls):List Value:=match a with|.mk c vs b=>[Sx.strV c,.slice V vs.length v]++exC b P
def pcA:Pc Al where
 n:=11
 Cs S w a cs:=∃V v,∃P:Pls,cs=alC a V v P/\(match a with|.mk _ vs b=>NmsIn S w vs V/\TyA S w (tyE b) P.A/\ExIn S w b P.K P.L)
 len:=by rintro S w ⟨c,vs,b⟩ cs ⟨V,v,P,rfl,-⟩;simp[alC,exC_length]
 keep:=by
  rintro S S' w w' ⟨c,vs,b⟩ cs hS hk ⟨V,v,P,rfl,h1,h2,h3⟩
  exact⟨V,v,P,rfl,h1.keep hS hk,h2.keep hS hk,ExIn.keep hS hk b _ _ h3⟩
theorem atG_al {S:Nat->Prop} {w:World} :(l:List Al)->∀g o,AtG pcA S w l g o↔AlsIn S w l g o
 | [],_,_=>by rw[AtG,AlsIn]
 | .mk c vs b::r,g,o=>by
  rw[AtG,AlsIn,atG_al r g (o+pcA.n)]
  refine and_congr ⟨?_,?_⟩ Iff.rfl
  ·rintro⟨cs,⟨V,v,P,rfl,h1,h2,h3⟩,h4⟩
   rw[AlIn]
   refine⟨h4 0 _ rfl,⟨V,v,h4 1 _ rfl,h1⟩,P,λj u hu=>?_,h2,h3⟩
   rw[show o+2+j=o+(2+j) by omega]
   exact h4 (2+j) u (by rw[alC,List.getElem?_append_right (by simp)];simpa using hu)
  ·intro h
   rw[AlIn]at h
   obtain⟨h0,⟨V,v,h1,h2⟩,P,h3,h4,h5⟩:=h
   refine⟨_,⟨V,v,P,rfl,h2,h4,h5⟩,λj u hu=>?_⟩
   rw[alC]at hu
   match j,hu with
   | 0,hu=>simp at hu;subst hu;exact h0
   | 1,hu=>simp at hu;subst hu;exact h1
   | j+2,hu =>
    rw[List.getElem?_append_right (by simp)]at hu
    have:=h3 j u (by simpa using hu)
    rwa [show o+2+j=o+(j+2) by omega]at this
def shA(cs:List Value):Prop:=∃(s:ByteArray)(V:Option Addr)(vm vq:Nat)(k:Int)(x:ByteArray)(t:Bool)(K:Int)(X:ByteArray)(Z:Int)(B:Option Addr)(m q:Nat)(KA:Option Addr)(kn kc:Nat)(LA:Option Addr)(ln lc:Nat),
 cs=[.string s,.slice V vm vq,.int .i64 k,.string x,.bool t,.int .i64 K,.string X,.int .i64 Z,.slice B m q,.slice KA kn kc,.slice LA ln lc]
end Go.Proofs.YtmbmjneibkihkaaGreatDoor

namespace Go.Proofs.YtmbmjneibkihkaaGreatDoor
open Go.RowKit Lx Tx Sx
def pcC:Pc (Nm × Ty) where
 n:=5
 Cs S w c cs:=∃(A:Option Addr) (a:Nat),cs=Sx.strV c.1::tyV c.2 A a/\Args S w c.2 A
 len:=by rintro S w c cs ⟨A,a,rfl,-⟩;rfl
 keep:=by
  rintro S S' w w' c cs hS hk ⟨A,a,rfl,h⟩
  exact⟨A,a,rfl,Args.keep hS hk _ _ h⟩
def shC(cs:List Value):Prop:=∃(s:ByteArray)(K:Int)(X:ByteArray)(Z:Int)(B:Option Addr)(m q:Nat),cs=[.string s,.int .i64 K,.string X,.int .i64 Z,.slice B m q]
def exZl:List Value:=[.int .i64 0,.string ⟨#[]⟩,.bool false,.int .i64 0,.string ⟨#[]⟩,.int .i64 0,.slice none 0 0,.slice none 0 0,.slice none 0 0]
def tyZl:List Value:=[.int .i64 0,.string ⟨#[]⟩,.int .i64 0,.slice none 0 0]
def DeCs(S:Nat->Prop)(w:World):De->List Value->Prop
 | .data n ps l,cs=>∃(V:Option Addr) (v:Nat) (A:Option Addr) (a:Nat),cs=[.int .i64 1,Sx.strV n,.slice V ps.length v,.slice A l.length a]++tyZl++exZl/\NmsIn S w ps V/\LstG pcC S w l A
 | .sig x t,cs=>∃(A:Option Addr) (a:Nat),cs=[.int .i64 2,Sx.strV x,.slice none 0 0,.slice none 0 0]++tyV t A a++exZl/\Args S w t A
 | .bind x e,cs=>∃P:Pls,cs=[.int .i64 3,Sx.strV x,.slice none 0 0,.slice none 0 0]++tyZl++exC e P/\TyA S w (tyE e) P.A/\ExIn S w e P.K P.L
def pcD:Pc De where
 n:=17
 Cs:=DeCs
 len:=by
  intro S w d cs h
  cases d with
  | data n ps l=>obtain⟨V,v,A,a,rfl,-⟩:=h;rfl
  | sig x t=>obtain⟨A,a,rfl,-⟩:=h;rfl
  | bind x e=>obtain⟨P,rfl,-⟩:=h;simp[tyZl,exC_length]
 keep:=by
  intro S S' w w' d cs hS hk h
  cases d with
  | data n ps l=>obtain⟨V,v,A,a,rfl,h1,h2⟩:=h;exact⟨V,v,A,a,rfl,h1.keep hS hk,h2.keep hS hk⟩
  | sig x t=>obtain⟨A,a,rfl,h⟩:=h;exact⟨A,a,rfl,Args.keep hS hk _ _ h⟩
  | bind x e=>obtain⟨P,rfl,h1,h2⟩:=h;exact⟨P,rfl,h1.keep hS hk,ExIn.keep hS hk e _ _ h2⟩
def shD(cs:List Value):Prop:=∃(k0:Int)(s:ByteArray)(V:Option Addr)(vm vq:Nat)(G:Option Addr)(gm gq:Nat)(K0:Int)(X0:ByteArray)(Z0:Int)(B0:Option Addr)(m0 q0:Nat)(k:Int)(x:ByteArray)(t:Bool)(K:Int)(X:ByteArray)(Z:Int)(B:Option Addr)(m q:Nat)(KA:Option Addr)(kn kc:Nat)(LA:Option Addr)(ln lc:Nat),
 cs=[.int .i64 k0,.string s,.slice V vm vq,.slice G gm gq,.int .i64 K0,.string X0,.int .i64 Z0,.slice B0 m0 q0,.int .i64 k,.string x,.bool t,.int .i64 K,.string X,.int .i64 Z,.slice B m q,.slice KA kn kc,.slice LA ln lc]
def conF(l:List Tok):Option ((Nm × Ty) × List Tok) :=
 if(hd l).kind=2 then
  if isHd l.tail 6 [58]=true then(typ l.tail.tail).map λy=>(((hd l).text,y.1),y.2) else none
 else none
theorem rdCon_eq(l:List Tok):rdCon l=conF l:=by
 rw[rdCon,conF,tok1_any 2 (by decide)]
 by_cases h:(hd l).kind=2
 ·simp only[if_pos h]
  rw[show eat pCol l.tail=if isHd l.tail 6 [58]=true then some l.tail.tail else none from eat_isHd 6 (by decide) [58] _]
  by_cases h1:isHd l.tail 6 [58]=true
  ·simp only[if_pos h1]
  ·simp only[if_neg h1]
 ·simp only[if_neg h]
def dataF(l:List Tok):Option (De × List Tok) :=
 if(hd l).kind=2 then(brF (λ_=>rdCon) ((vars l.tail).2.tail.length+1) (vars l.tail).2).map λy=>(.data (hd l).text (vars l.tail).1 y.1,y.2) else none
theorem rdData_eq(l:List Tok):rdData l=dataF l:=by
 rw[rdData,dataF,tok1_any 2 (by decide)]
 by_cases h:(hd l).kind=2
 ·simp only[if_pos h,eat_opn,brF]
  by_cases h2:isHd (vars l.tail).2 6 [123]=true
  ·simp only[if_pos h2,eat_cls]
   by_cases h3:isHd (vars l.tail).2.tail 6 [125]=true
   ·simp only[if_pos h3];rfl
   ·simp only[if_neg h3,Sx.sep,sep_sep]
    cases sepM (λ_=>rdCon) ((vars l.tail).2.tail.length+1) (vars l.tail).2.tail with
    | none=>rfl
    | some z =>
     simp only
     by_cases h4:isHd z.2 6 [125]=true
     ·simp only[if_pos h4];rfl
     ·simp only[if_neg h4];rfl
  ·simp only[if_neg h2];rfl
 ·simp only[if_neg h]
def declF(l:List Tok):Option (De × List Tok) :=
 if isHd l 3 wData=true then rdData l.tail
 else if(hd l).kind=1 then
  if isHd l.tail 6 [58]=true then(typ l.tail.tail).map λy=>(.sig (hd l).text y.1,y.2)
  else if isHd l.tail 6 [61]=true then(rdE (enoughE l.tail.tail) l.tail.tail).map λy=>(.bind (hd l).text y.1,y.2)
  else none
 else none
theorem rdDecl_eq(l:List Tok):rdDecl l=declF l:=by
 rw[rdDecl,declF,show eat (isKey · wData) l=if isHd l 3 wData=true then some l.tail else none from eat_isHd 3 (by decide) wData l]
 by_cases h:isHd l 3 wData=true
 ·simp only[if_pos h]
 ·simp only[if_neg h]
  rw[tok1_any 1 (by decide)]
  by_cases h1:(hd l).kind=1
  ·simp only[if_pos h1,show eat pCol l.tail=if isHd l.tail 6 [58]=true then some l.tail.tail else none from eat_isHd 6 (by decide) [58] _]
   by_cases h2:isHd l.tail 6 [58]=true
   ·simp only[if_pos h2]
   ·simp only[if_neg h2,show eat pEq l.tail=if isHd l.tail 6 [61]=true then some l.tail.tail else none from eat_isHd 6 (by decide) [61] _]
    by_cases h3:isHd l.tail 6 [61]=true
    ·simp only[if_pos h3]
    ·simp only[if_neg h3]
  ·simp only[if_neg h1]
end Go.Proofs.YtmbmjneibkihkaaGreatDoor

namespace Go.Proofs.YtmbmjneibkihkaaGreatDoor
open Go.RowKit Lx Tx Sx
theorem nx_atom(S:Nat->Prop)(b:Nat)(l:List Tok)(w:World)(h:RdrS S w b l)(hS:∀g,S g->g≠b/\g<w.heap.size)(hl:l.length<=100000) :
  Calls Tryz.prog 144 #[.pointer (some ⟨b,0,none⟩)] w λe w'=>e=.returned (.bool (atomEB l))/\RdrS S w' b (if atomEB l=true then id l else l)/\ChR b w w':=by
 refine(sx_atAtom S b l w h (λg hg=>(hS g hg).2) hl).mono ?_
 rintro e w' ⟨rfl,hb⟩
 refine⟨rfl,?_,ChR.of_below hb⟩
 have:(if atomEB l=true then id l else l)=l:=by split <;> rfl
 rw[this]
 exact h.below hb (λg hg=>(hS g hg).2)
theorem nx_atom_af(l:List Tok)(hG:AllG l)(_:atomEB l=true):AllG (id l)/\(id l).length<=l.length/\3*(id l).length+1+1<=3*l.length+2:=⟨hG,Nat.le_refl _,Nat.le_refl _⟩
theorem nx_sep_af(l:List Tok)(hG:AllG l)(h:semB l=true):AllG l.tail/\l.tail.length<=l.length/\3*l.tail.length+0+1<=3*l.length+1:=by
 obtain⟨t0,r,e,-,-⟩:=isHd_ne l 6 [59] (by decide) h
 subst e
 exact⟨AllG.tail' hG,by simp,by simp <;> omega⟩
theorem LPost.pre {α:Type} {P:Pc α} {S:Nat->Prop} {b:Nat} {w w0:World} {o:Option (List α × List Tok)} {e:Ending} {w':World}(c:ChR b w w0)(h:LPost P S b w0 o e w'):LPost P S b w o e w':=by
 obtain⟨h1,A,m,d,h⟩:=h
 refine⟨c.trans h1,A,m,d,?_⟩
 rcases h with h|⟨x,r,h2,h3,h4,h5,h6⟩
 ·exact .inl h
 ·exact .inr ⟨x,r,h2,h3,h4,h5.keep (λg hg=>⟨Nat.le_trans c.size hg.1,hg.2⟩) (λ_ _=>rfl),h6⟩
end Go.Proofs.YtmbmjneibkihkaaGreatDoor

namespace Go.Proofs.YtmbmjneibkihkaaGreatDoor
open Go.RowKit Lx Tx Sx
def brG {α:Type}(rd:Nat->List Tok->Option (α × List Tok))(f:Nat)(r:List Tok):Option (List α × List Tok) :=
 if isHd r 6 [125]=true then some ([],r.tail)
 else
  match sepM rd f r with
  | none=>none
  | some y=>if isHd y.2 6 [125]=true then some (y.1,y.2.tail) else none
theorem brF_eq {α:Type}(rd:Nat->List Tok->Option (α × List Tok))(f:Nat)(l:List Tok):brF rd f l=if isHd l 6 [123]=true then brG rd f l.tail else none:=rfl
theorem many_len {α:Type} {nx:List Tok->Bool} {af:List Tok->List Tok} {rd:Nat->List Tok->Option (α × List Tok)}(haf:∀l,AllG l->nx l=true->AllG (af l)/\(af l).length<=l.length)
  (hrd:∀(f1:Nat)(l:List Tok)(x:α)(r:List Tok),AllG l->rd f1 l=some (x,r)->AllG r/\r.length<l.length)(f:Nat):∀(l:List Tok)(x:List α)(r:List Tok),AllG l->manyF nx af rd f l=some (x,r)->AllG r/\r.length<=l.length:=by
 induction f with
 | zero=>intro l x r _ h;rw[manyF]at h;cases h
 | succ f ih =>
  intro l x r hG h
  by_cases hn:nx l=true
  ·obtain⟨g1,l1⟩:=haf l hG hn
   cases ho:rd f (af l) with
   | none=>rw[many_no f l hn ho]at h;cases h
   | some y =>
    obtain⟨p,r1⟩:=y
    rw[many_yes f l hn p r1 ho]at h
    obtain⟨g2,l2⟩:=hrd f _ p r1 g1 ho
    cases hm:manyF nx af rd f r1 with
    | none=>rw[hm]at h;cases h
    | some z =>
     obtain⟨xs,r2⟩:=z
     rw[hm]at h
     simp only[Option.map_some,Option.some.injEq,Prod.mk.injEq]at h
     obtain⟨rfl,rfl⟩:=h
     obtain⟨g3,l3⟩:=ih r1 xs r2 g2 hm
     exact⟨g3,by omega⟩
  ·rw[many_end f l (by simpa using hn)]at h
   simp only[Option.some.injEq,Prod.mk.injEq]at h
   obtain⟨rfl,rfl⟩:=h
   exact⟨hG,Nat.le_refl _⟩
theorem sem_af(l:List Tok)(hG:AllG l)(h:semB l=true):AllG l.tail/\l.tail.length<=l.length:=by
 obtain⟨t0,r,e,-,-⟩:=isHd_ne l 6 [59] (by decide) h
 subst e
 exact⟨AllG.tail' hG,by simp⟩
theorem sep_len {α:Type} {rd:Nat->List Tok->Option (α × List Tok)}(hrd:∀(f1:Nat)(l:List Tok)(x:α)(r:List Tok),AllG l->rd f1 l=some (x,r)->AllG r/\r.length<l.length)(f:Nat)(l:List Tok)(x:List α)(r:List Tok)
  (hG:AllG l)(h:sepM rd f l=some (x,r)):AllG r/\r.length<l.length:=by
 rw[sepM]at h
 cases ho:rd f l with
 | none=>rw[ho]at h;cases h
 | some y =>
  obtain⟨p,r1⟩:=y
  rw[ho]at h
  simp only at h
  obtain⟨g1,l1⟩:=hrd f l p r1 hG ho
  cases hm:manyF semB List.tail rd f r1 with
  | none=>rw[hm]at h;cases h
  | some z =>
   obtain⟨xs,r2⟩:=z
   rw[hm]at h
   simp only[Option.map_some,Option.some.injEq,Prod.mk.injEq]at h
   obtain⟨rfl,rfl⟩:=h
   obtain⟨g3,l3⟩:=many_len sem_af hrd f r1 xs r2 g1 hm
   exact⟨g3,by omega⟩
theorem br_len {α:Type} {rd:Nat->List Tok->Option (α × List Tok)}(hrd:∀(f1:Nat)(l:List Tok)(x:α)(r:List Tok),AllG l->rd f1 l=some (x,r)->AllG r/\r.length<l.length)(f:Nat)(l:List Tok)(x:List α)(r:List Tok)
  (hG:AllG l)(h:brF rd f l=some (x,r)):AllG r/\r.length<l.length:=by
 rw[brF_eq]at h
 by_cases h1:isHd l 6 [123]=true
 ·rw[if_pos h1,brG]at h
  obtain⟨t0,r0,e,-,-⟩:=isHd_ne l 6 [123] (by decide) h1
  subst e
  rw[List.tail_cons]at h
  have hG1:AllG r0:=AllG.tail' hG
  by_cases h2:isHd r0 6 [125]=true
  ·rw[if_pos h2]at h
   obtain⟨t1,r1,e,-,-⟩:=isHd_ne r0 6 [125] (by decide) h2
   subst e
   simp only[List.tail_cons,Option.some.injEq,Prod.mk.injEq]at h
   obtain⟨rfl,rfl⟩:=h
   exact⟨AllG.tail' hG1,by simp;omega⟩
  ·rw[if_neg h2]at h
   cases ho:sepM rd f r0 with
   | none=>rw[ho]at h;cases h
   | some y =>
    obtain⟨xs,r1⟩:=y
    rw[ho]at h
    simp only at h
    obtain⟨g1,l1⟩:=sep_len hrd f r0 xs r1 hG1 ho
    by_cases h3:isHd r1 6 [125]=true
    ·rw[if_pos h3]at h
     obtain⟨t1,r2,e,-,-⟩:=isHd_ne r1 6 [125] (by decide) h3
     subst e
     simp only[List.tail_cons,Option.some.injEq,Prod.mk.injEq]at h
     obtain⟨rfl,rfl⟩:=h
     exact⟨AllG.tail' g1,by simp at l1 ⊢;omega⟩
    ·rw[if_neg h3]at h;cases h
 ·rw[if_neg h1]at h;cases h
end Go.Proofs.YtmbmjneibkihkaaGreatDoor

namespace Go.Proofs.YtmbmjneibkihkaaGreatDoor
open Go.RowKit Lx Tx Sx
theorem lie_blk {w:World} {g:Nat} {cs:List Value} {t:TypeId}(h:Blk w g t cs.toArray):Lie w g 0 cs:=by
 intro j v hv
 have h0:=h.cell j
 rw[Nat.zero_add]
 rw[h0]
 simpa using hv
theorem kid_new {S S':Nat->Prop} {w w':World} {y:Ex} {cs:List Value} {g:Nat} {t:TypeId}(hx:pcE.Cs S w y cs)(hS:∀k,S k->S' k)(hk:∀k,S k->w'.heap[k]? = w.heap[k]?)(hl:Blk w' g t cs.toArray) :
  ∃P:Pls,Lie w' g 0 (exC y P)/\TyA S' w' (tyE y) P.A/\ExIn S' w' y P.K P.L:=by
 obtain⟨P,rfl,h2,h3⟩:=pcE.keep hS hk hx
 exact⟨P,lie_blk hl,h2,h3⟩
theorem kids_new {S S':Nat->Prop} {w w':World} {y z:Ex} {cs ds:List Value} {g:Nat} {t:TypeId}(hx:pcE.Cs S w y cs)(hz:pcE.Cs S w z ds)(hS:∀k,S k->S' k)(hk:∀k,S k->w'.heap[k]? = w.heap[k]?)(hl:Blk w' g t (cs++ds).toArray) :
  (∃P:Pls,Lie w' g 0 (exC y P)/\TyA S' w' (tyE y) P.A/\ExIn S' w' y P.K P.L)/\∃P:Pls,Lie w' g 9 (exC z P)/\TyA S' w' (tyE z) P.A/\ExIn S' w' z P.K P.L:=by
 have hl1:=pcE.len hx
 have hL:=lie_blk hl
 obtain⟨P,rfl,h2,h3⟩:=pcE.keep hS hk hx
 obtain⟨Q,rfl,h4,h5⟩:=pcE.keep hS hk hz
 refine⟨⟨P,λj v hv=>?_,h2,h3⟩,Q,λj v hv=>?_,h4,h5⟩
 ·exact hL j v (by rw[List.getElem?_append_left (List.getElem?_eq_some_iff.1 hv).1];exact hv)
 ·have:=hL (9+j) v (by rw[List.getElem?_append_right (by rw[exC_length];omega),exC_length,Nat.add_sub_cancel_left];exact hv)
  rwa [Nat.zero_add]at this
theorem two_new(W:World)(o o2:Obj)(k:Nat)(hk:k<W.heap.size):((W.alloc o).alloc o2).heap[k]? = W.heap[k]?:=(Below.heap_alloc _ _ _ (by simp;omega)).trans (Below.heap_alloc _ _ _ hk)
theorem two_top(W:World)(o o2:Obj)(n:Nat)(hn:W.heap.size=n):((W.alloc o).alloc o2).heap[n+1]? = some o2:=by
 have:=heap_alloc_new (W.alloc o) o2
 rwa [show(W.alloc o).heap.size=n+1 by simp[hn]]at this
theorem size_set9(w:World)(g:Nat)(b0 b1 b2 b3 b4 b5 b6 b7 b8:Value) :
  (((((((((w.setCell ⟨g,0,none⟩ b0).setCell ⟨g,1,none⟩ b1).setCell ⟨g,2,none⟩ b2).setCell ⟨g,3,none⟩ b3).setCell ⟨g,4,none⟩ b4).setCell ⟨g,5,none⟩ b5).setCell ⟨g,6,none⟩ b6).setCell ⟨g,7,none⟩ b7).setCell ⟨g,8,none⟩ b8).heap.size=w.heap.size:=by simp
end Go.Proofs.YtmbmjneibkihkaaGreatDoor

namespace Go.Proofs.YtmbmjneibkihkaaGreatDoor
open Go.RowKit Lx Tx Sx
set_option maxRecDepth 100000
theorem blk_set5 {w:World} {g:Nat} {t:TypeId} {a0 a1 a2 a3 a4:Value}(b0 b1 b2 b3 b4:Value)(h:Blk w g t #[a0,a1,a2,a3,a4]):Blk (((((w.setCell ⟨g,0,none⟩ b0).setCell ⟨g,1,none⟩ b1).setCell ⟨g,2,none⟩ b2).setCell ⟨g,3,none⟩ b3).setCell ⟨g,4,none⟩ b4) g t #[b0,b1,b2,b3,b4]:=by
 have s:∀(W:World) (cs:Array Value) (i:Nat) (b:Value),Blk W g t cs->Blk (W.setCell ⟨g,i,none⟩ b) g t (cs.setIfInBounds i b):=λW cs i b h=>heap_setCell_same W g i _ _ b h
 have hh:=(s _ _ 4 b4 (s _ _ 3 b3 (s _ _ 2 b2 (s _ _ 1 b1 (s _ _ 0 b0 h)))))
 have e:((((((#[a0,a1,a2,a3,a4]:Array Value).setIfInBounds 0 b0).setIfInBounds 1 b1).setIfInBounds 2 b2).setIfInBounds 3 b3).setIfInBounds 4 b4)=#[b0,b1,b2,b3,b4]:=by simp
 rw[e]at hh
 exact hh
theorem ChR.set5 {bb:Nat} {w w':World} {g:Nat}(h:ChR bb w w')(b0 b1 b2 b3 b4:Value)(hg:w.heap.size<=g):ChR bb w (((((w'.setCell ⟨g,0,none⟩ b0).setCell ⟨g,1,none⟩ b1).setCell ⟨g,2,none⟩ b2).setCell ⟨g,3,none⟩ b3).setCell ⟨g,4,none⟩ b4) :=
 (((((h.setCell (p:=⟨g,0,none⟩) (.inl hg) b0).setCell (p:=⟨g,1,none⟩) (.inl hg) b1).setCell (p:=⟨g,2,none⟩) (.inl hg) b2).setCell (p:=⟨g,3,none⟩) (.inl hg) b3).setCell (p:=⟨g,4,none⟩) (.inl hg) b4)
theorem set5_far(w:World)(g k:Nat)(b0 b1 b2 b3 b4:Value)(hk:k≠g):(((((w.setCell ⟨g,0,none⟩ b0).setCell ⟨g,1,none⟩ b1).setCell ⟨g,2,none⟩ b2).setCell ⟨g,3,none⟩ b3).setCell ⟨g,4,none⟩ b4).heap[k]? = w.heap[k]?:=by
 rw[Below.heap_setCell _ ⟨g,4,none⟩ _ k hk,Below.heap_setCell _ ⟨g,3,none⟩ _ k hk,Below.heap_setCell _ ⟨g,2,none⟩ _ k hk,Below.heap_setCell _ ⟨g,1,none⟩ _ k hk,Below.heap_setCell _ ⟨g,0,none⟩ _ k hk]
theorem size_set5(w:World)(g:Nat)(b0 b1 b2 b3 b4:Value):(((((w.setCell ⟨g,0,none⟩ b0).setCell ⟨g,1,none⟩ b1).setCell ⟨g,2,none⟩ b2).setCell ⟨g,3,none⟩ b3).setCell ⟨g,4,none⟩ b4).heap.size=w.heap.size:=by simp
theorem blk_facts5 {w:World} {g:Nat} {t:TypeId} {a0 a1 a2 a3 a4:Value}(h:Blk w g t #[a0,a1,a2,a3,a4]):(w.cell? ⟨g,0,none⟩=some a0/\w.cell? ⟨g,1,none⟩=some a1/\w.cell? ⟨g,2,none⟩=some a2/\w.cell? ⟨g,3,none⟩=some a3/\w.cell? ⟨g,4,none⟩=some a4)/\(w.frozen? ⟨g,0,none⟩=false/\w.frozen? ⟨g,1,none⟩=false/\w.frozen? ⟨g,2,none⟩=false/\w.frozen? ⟨g,3,none⟩=false/\w.frozen? ⟨g,4,none⟩=false)/\g<w.heap.size :=
 ⟨⟨h.cell 0,h.cell 1,h.cell 2,h.cell 3,h.cell 4⟩,⟨h.frozen 0,h.frozen 1,h.frozen 2,h.frozen 3,h.frozen 4⟩,h.lt⟩
theorem blk_facts9 {w:World} {g:Nat} {t:TypeId} {a0 a1 a2 a3 a4 a5 a6 a7 a8:Value}(h:Blk w g t #[a0,a1,a2,a3,a4,a5,a6,a7,a8]):(w.cell? ⟨g,0,none⟩=some a0/\w.cell? ⟨g,1,none⟩=some a1/\w.cell? ⟨g,2,none⟩=some a2/\w.cell? ⟨g,3,none⟩=some a3/\w.cell? ⟨g,4,none⟩=some a4/\w.cell? ⟨g,5,none⟩=some a5/\w.cell? ⟨g,6,none⟩=some a6/\w.cell? ⟨g,7,none⟩=some a7/\w.cell? ⟨g,8,none⟩=some a8)/\(w.frozen? ⟨g,0,none⟩=false/\w.frozen? ⟨g,1,none⟩=false/\w.frozen? ⟨g,2,none⟩=false/\w.frozen? ⟨g,3,none⟩=false/\w.frozen? ⟨g,4,none⟩=false/\w.frozen? ⟨g,5,none⟩=false/\w.frozen? ⟨g,6,none⟩=false/\w.frozen? ⟨g,7,none⟩=false/\w.frozen? ⟨g,8,none⟩=false)/\g<w.heap.size :=
 ⟨⟨h.cell 0,h.cell 1,h.cell 2,h.cell 3,h.cell 4,h.cell 5,h.cell 6,h.cell 7,h.cell 8⟩,⟨h.frozen 0,h.frozen 1,h.frozen 2,h.frozen 3,h.frozen 4,h.frozen 5,h.frozen 6,h.frozen 7,h.frozen 8⟩,h.lt⟩
theorem blk_set11 {w:World} {g:Nat} {t:TypeId} {a0 a1 a2 a3 a4 a5 a6 a7 a8 a9 a10:Value}(b0 b1 b2 b3 b4 b5 b6 b7 b8 b9 b10:Value)(h:Blk w g t #[a0,a1,a2,a3,a4,a5,a6,a7,a8,a9,a10]):Blk (((((((((((w.setCell ⟨g,0,none⟩ b0).setCell ⟨g,1,none⟩ b1).setCell ⟨g,2,none⟩ b2).setCell ⟨g,3,none⟩ b3).setCell ⟨g,4,none⟩ b4).setCell ⟨g,5,none⟩ b5).setCell ⟨g,6,none⟩ b6).setCell ⟨g,7,none⟩ b7).setCell ⟨g,8,none⟩ b8).setCell ⟨g,9,none⟩ b9).setCell ⟨g,10,none⟩ b10) g t #[b0,b1,b2,b3,b4,b5,b6,b7,b8,b9,b10]:=by
 have s:∀(W:World) (cs:Array Value) (i:Nat) (b:Value),Blk W g t cs->Blk (W.setCell ⟨g,i,none⟩ b) g t (cs.setIfInBounds i b):=λW cs i b h=>heap_setCell_same W g i _ _ b h
 have hh:=(s _ _ 10 b10 (s _ _ 9 b9 (s _ _ 8 b8 (s _ _ 7 b7 (s _ _ 6 b6 (s _ _ 5 b5 (s _ _ 4 b4 (s _ _ 3 b3 (s _ _ 2 b2 (s _ _ 1 b1 (s _ _ 0 b0 h)))))))))))
 have e:((((((((((((#[a0,a1,a2,a3,a4,a5,a6,a7,a8,a9,a10]:Array Value).setIfInBounds 0 b0).setIfInBounds 1 b1).setIfInBounds 2 b2).setIfInBounds 3 b3).setIfInBounds 4 b4).setIfInBounds 5 b5).setIfInBounds 6 b6).setIfInBounds 7 b7).setIfInBounds 8 b8).setIfInBounds 9 b9).setIfInBounds 10 b10)=#[b0,b1,b2,b3,b4,b5,b6,b7,b8,b9,b10]:=by simp
 rw[e]at hh
 exact hh
theorem ChR.set11 {bb:Nat} {w w':World} {g:Nat}(h:ChR bb w w')(b0 b1 b2 b3 b4 b5 b6 b7 b8 b9 b10:Value)(hg:w.heap.size<=g):ChR bb w (((((((((((w'.setCell ⟨g,0,none⟩ b0).setCell ⟨g,1,none⟩ b1).setCell ⟨g,2,none⟩ b2).setCell ⟨g,3,none⟩ b3).setCell ⟨g,4,none⟩ b4).setCell ⟨g,5,none⟩ b5).setCell ⟨g,6,none⟩ b6).setCell ⟨g,7,none⟩ b7).setCell ⟨g,8,none⟩ b8).setCell ⟨g,9,none⟩ b9).setCell ⟨g,10,none⟩ b10) :=
 (((((((((((h.setCell (p:=⟨g,0,none⟩) (.inl hg) b0).setCell (p:=⟨g,1,none⟩) (.inl hg) b1).setCell (p:=⟨g,2,none⟩) (.inl hg) b2).setCell (p:=⟨g,3,none⟩) (.inl hg) b3).setCell (p:=⟨g,4,none⟩) (.inl hg) b4).setCell (p:=⟨g,5,none⟩) (.inl hg) b5).setCell (p:=⟨g,6,none⟩) (.inl hg) b6).setCell (p:=⟨g,7,none⟩) (.inl hg) b7).setCell (p:=⟨g,8,none⟩) (.inl hg) b8).setCell (p:=⟨g,9,none⟩) (.inl hg) b9).setCell (p:=⟨g,10,none⟩) (.inl hg) b10)
theorem set11_far(w:World)(g k:Nat)(b0 b1 b2 b3 b4 b5 b6 b7 b8 b9 b10:Value)(hk:k≠g):(((((((((((w.setCell ⟨g,0,none⟩ b0).setCell ⟨g,1,none⟩ b1).setCell ⟨g,2,none⟩ b2).setCell ⟨g,3,none⟩ b3).setCell ⟨g,4,none⟩ b4).setCell ⟨g,5,none⟩ b5).setCell ⟨g,6,none⟩ b6).setCell ⟨g,7,none⟩ b7).setCell ⟨g,8,none⟩ b8).setCell ⟨g,9,none⟩ b9).setCell ⟨g,10,none⟩ b10).heap[k]? = w.heap[k]?:=by
 rw[Below.heap_setCell _ ⟨g,10,none⟩ _ k hk,Below.heap_setCell _ ⟨g,9,none⟩ _ k hk,Below.heap_setCell _ ⟨g,8,none⟩ _ k hk,Below.heap_setCell _ ⟨g,7,none⟩ _ k hk,Below.heap_setCell _ ⟨g,6,none⟩ _ k hk,Below.heap_setCell _ ⟨g,5,none⟩ _ k hk,Below.heap_setCell _ ⟨g,4,none⟩ _ k hk,Below.heap_setCell _ ⟨g,3,none⟩ _ k hk,Below.heap_setCell _ ⟨g,2,none⟩ _ k hk,Below.heap_setCell _ ⟨g,1,none⟩ _ k hk,Below.heap_setCell _ ⟨g,0,none⟩ _ k hk]
theorem size_set11(w:World)(g:Nat)(b0 b1 b2 b3 b4 b5 b6 b7 b8 b9 b10:Value):(((((((((((w.setCell ⟨g,0,none⟩ b0).setCell ⟨g,1,none⟩ b1).setCell ⟨g,2,none⟩ b2).setCell ⟨g,3,none⟩ b3).setCell ⟨g,4,none⟩ b4).setCell ⟨g,5,none⟩ b5).setCell ⟨g,6,none⟩ b6).setCell ⟨g,7,none⟩ b7).setCell ⟨g,8,none⟩ b8).setCell ⟨g,9,none⟩ b9).setCell ⟨g,10,none⟩ b10).heap.size=w.heap.size:=by simp
theorem blk_facts11 {w:World} {g:Nat} {t:TypeId} {a0 a1 a2 a3 a4 a5 a6 a7 a8 a9 a10:Value}(h:Blk w g t #[a0,a1,a2,a3,a4,a5,a6,a7,a8,a9,a10]):(w.cell? ⟨g,0,none⟩=some a0/\w.cell? ⟨g,1,none⟩=some a1/\w.cell? ⟨g,2,none⟩=some a2/\w.cell? ⟨g,3,none⟩=some a3/\w.cell? ⟨g,4,none⟩=some a4/\w.cell? ⟨g,5,none⟩=some a5/\w.cell? ⟨g,6,none⟩=some a6/\w.cell? ⟨g,7,none⟩=some a7/\w.cell? ⟨g,8,none⟩=some a8/\w.cell? ⟨g,9,none⟩=some a9/\w.cell? ⟨g,10,none⟩=some a10)/\(w.frozen? ⟨g,0,none⟩=false/\w.frozen? ⟨g,1,none⟩=false/\w.frozen? ⟨g,2,none⟩=false/\w.frozen? ⟨g,3,none⟩=false/\w.frozen? ⟨g,4,none⟩=false/\w.frozen? ⟨g,5,none⟩=false/\w.frozen? ⟨g,6,none⟩=false/\w.frozen? ⟨g,7,none⟩=false/\w.frozen? ⟨g,8,none⟩=false/\w.frozen? ⟨g,9,none⟩=false/\w.frozen? ⟨g,10,none⟩=false)/\g<w.heap.size :=
 ⟨⟨h.cell 0,h.cell 1,h.cell 2,h.cell 3,h.cell 4,h.cell 5,h.cell 6,h.cell 7,h.cell 8,h.cell 9,h.cell 10⟩,⟨h.frozen 0,h.frozen 1,h.frozen 2,h.frozen 3,h.frozen 4,h.frozen 5,h.frozen 6,h.frozen 7,h.frozen 8,h.frozen 9,h.frozen 10⟩,h.lt⟩
theorem blk_facts17 {w:World} {g:Nat} {t:TypeId} {a0 a1 a2 a3 a4 a5 a6 a7 a8 a9 a10 a11 a12 a13 a14 a15 a16:Value}(h:Blk w g t #[a0,a1,a2,a3,a4,a5,a6,a7,a8,a9,a10,a11,a12,a13,a14,a15,a16]):(w.cell? ⟨g,0,none⟩=some a0/\w.cell? ⟨g,1,none⟩=some a1/\w.cell? ⟨g,2,none⟩=some a2/\w.cell? ⟨g,3,none⟩=some a3/\w.cell? ⟨g,4,none⟩=some a4/\w.cell? ⟨g,5,none⟩=some a5/\w.cell? ⟨g,6,none⟩=some a6/\w.cell? ⟨g,7,none⟩=some a7/\w.cell? ⟨g,8,none⟩=some a8/\w.cell? ⟨g,9,none⟩=some a9/\w.cell? ⟨g,10,none⟩=some a10/\w.cell? ⟨g,11,none⟩=some a11/\w.cell? ⟨g,12,none⟩=some a12/\w.cell? ⟨g,13,none⟩=some a13/\w.cell? ⟨g,14,none⟩=some a14/\w.cell? ⟨g,15,none⟩=some a15/\w.cell? ⟨g,16,none⟩=some a16)/\(w.frozen? ⟨g,0,none⟩=false/\w.frozen? ⟨g,1,none⟩=false/\w.frozen? ⟨g,2,none⟩=false/\w.frozen? ⟨g,3,none⟩=false/\w.frozen? ⟨g,4,none⟩=false/\w.frozen? ⟨g,5,none⟩=false/\w.frozen? ⟨g,6,none⟩=false/\w.frozen? ⟨g,7,none⟩=false/\w.frozen? ⟨g,8,none⟩=false/\w.frozen? ⟨g,9,none⟩=false/\w.frozen? ⟨g,10,none⟩=false/\w.frozen? ⟨g,11,none⟩=false/\w.frozen? ⟨g,12,none⟩=false/\w.frozen? ⟨g,13,none⟩=false/\w.frozen? ⟨g,14,none⟩=false/\w.frozen? ⟨g,15,none⟩=false/\w.frozen? ⟨g,16,none⟩=false)/\g<w.heap.size :=
 ⟨⟨h.cell 0,h.cell 1,h.cell 2,h.cell 3,h.cell 4,h.cell 5,h.cell 6,h.cell 7,h.cell 8,h.cell 9,h.cell 10,h.cell 11,h.cell 12,h.cell 13,h.cell 14,h.cell 15,h.cell 16⟩,⟨h.frozen 0,h.frozen 1,h.frozen 2,h.frozen 3,h.frozen 4,h.frozen 5,h.frozen 6,h.frozen 7,h.frozen 8,h.frozen 9,h.frozen 10,h.frozen 11,h.frozen 12,h.frozen 13,h.frozen 14,h.frozen 15,h.frozen 16⟩,h.lt⟩
end Go.Proofs.YtmbmjneibkihkaaGreatDoor
