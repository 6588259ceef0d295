/-
  Contracts of the code's functions, part 25.
-/
import Derived.Test.YtknkclefoiohpaaGreatDoorKbW
import Derived.Test.YtknkclefoiohpaaGreatDoorKbT
import Derived.Shelf.Abstract
namespace Go.Proofs.YtknkclefoiohpaaGreatDoor
open Go.RowKit Lx Tx Sx Go.Shelf
set_option maxRecDepth 100000
theorem rdDecl_len(l:List Tok)(x:De)(r:List Tok)(hG:AllG l)(h:rdDecl l=some (x,r)):AllG r/\r.length<l.length:=by
 have hd3:∀(r0:List Tok) (y:De) (r1:List Tok),AllG r0->rdData r0=some (y,r1)->AllG r1/\r1.length<r0.length:=by
  intro r0 y r1 hG h
  rw[dataF_eq r0 hG]at h
  by_cases hk:(hd r0).kind=2
  ·rw[if_pos hk,datG]at h
   obtain⟨l',e1,-⟩:=hd_cons (l:=r0) (by rw[hk];decide)
   have hln:r0.tail.length+1=r0.length:=by rw[e1];rfl
   obtain⟨-,v2,v3⟩:=vars_spec r0.tail (AllG.tail' hG)
   cases ho:brF (λ_=>rdCon) (3*(vars r0.tail).2.length) (vars r0.tail).2 with
   | none=>rw[ho]at h;cases h
   | some z =>
    obtain⟨cs,r2⟩:=z
    rw[ho]at h
    simp only[Option.map_some,Option.some.injEq,Prod.mk.injEq]at h
    obtain⟨-,rfl⟩:=h
    obtain⟨g1,l1⟩:=br_len (rd:=λ_=>rdCon) (λ_=>rdCon_len) _ _ cs r2 v2 ho
    exact⟨g1,by omega⟩
  ·rw[if_neg hk]at h;cases h
 rw[declF_eq]at h
 by_cases h1:isHd l 3 wData=true
 ·rw[if_pos h1]at h
  obtain⟨t0,r0,e0,-,-⟩:=isHd_ne l 3 wData (by decide) h1
  obtain⟨g1,l1⟩:=hd3 l.tail x r (AllG.tail' hG) h
  rw[e0]at l1 ⊢
  simp at l1 ⊢
  exact⟨g1,by omega⟩
 ·rw[if_neg h1,decN]at h
  by_cases hk:(hd l).kind=1
  ·rw[if_pos hk,decG]at h
   obtain⟨l',e1,-⟩:=hd_cons (l:=l) (by rw[hk];decide)
   have hln:l.tail.length+1=l.length:=by rw[e1];rfl
   have hG1:AllG l.tail:=AllG.tail' hG
   have htt:l.tail.tail.length<=l.tail.length:=by simp
   by_cases h2:isHd l.tail 6 [58]=true
   ·rw[if_pos h2]at h
    cases ho:typ l.tail.tail with
    | none=>rw[ho]at h;cases h
    | some z =>
     obtain⟨t,r2⟩:=z
     rw[ho]at h
     simp only[Option.map_some,Option.some.injEq,Prod.mk.injEq]at h
     obtain⟨-,rfl⟩:=h
     obtain⟨-,g1,l1⟩:=typ_facts (AllG.tail' hG1) ho
     exact⟨g1,by omega⟩
   ·rw[if_neg h2,decH]at h
    by_cases h3:isHd l.tail 6 [61]=true
    ·rw[if_pos h3]at h
     cases ho:rdE (enoughE l.tail.tail) l.tail.tail with
     | none=>rw[ho]at h;cases h
     | some z =>
      obtain⟨t,r2⟩:=z
      rw[ho]at h
      simp only[Option.map_some,Option.some.injEq,Prod.mk.injEq]at h
      obtain⟨-,rfl⟩:=h
      obtain⟨g1,l1⟩:=rdE_len _ _ t r2 (AllG.tail' hG1) ho
      exact⟨g1,by omega⟩
    ·rw[if_neg h3]at h;cases h
  ·rw[if_neg hk]at h;cases h
theorem rdProg_eq(l:List Tok)(hG:AllG l):rdProg l=if l.length=0 then some ([],[]) else sepM (λ_=>rdDecl) (3*l.length) l:=by
 rw[rdProg]
 by_cases h:l=[]
 ·subst h;rfl
 ·rw[if_neg h,if_neg (by intro e;exact h (List.length_eq_zero_iff.1 e)),Sx.sep,sep_sep]
  exact sepM_fuel rdDecl_len _ _ l hG (by omega) (by omega)
set_option maxHeartbeats 3200000 in
theorem sx_upToEnd(S:Nat->Prop)(b:Nat)(l:List Tok)(w:World)(h:RdrS S w b l)(hS:∀g,S g->g≠b/\g<w.heap.size)(hG:AllG l)(hl:l.length<=100000) :
  Calls Tryz.prog 74 #[.pointer (some ⟨b,0,none⟩),.func (.func 75) #[.pointer (some ⟨b,0,none⟩)] #[]] w (LPost pcD S b w (rdProg l)):=by
 have hbl:=h.lt
 have hP:=sx_separatedD (3*l.length) S b l w h hS hG hl (Nat.le_refl _) (λ_ _ W l1 hr hs hG hl _=>sx_decl S b l1 W hr hs hG hl) (λ_=>rdDecl_len)
 obtain⟨M,hM⟩:∃M,rdProg l=M:=⟨_,rfl⟩
 rw[hM]
 rw[rdProg_eq l hG]at hM
 have HR:=hidE h
 obtain⟨v,hb,hv⟩:=h
 obtain⟨A,c,rfl,hlc,-⟩:=hv
 have f0:=hb.cell 0
 obtain⟨n,hn⟩:∃n,l.length=n:=⟨_,rfl⟩
 rw[hn]at f0 hM
 replace f0:w.cell? ⟨b,0,none⟩=some (.slice A n c):=f0
 have HP:=hidE hP
 by_cases hn0:n=0
 ·subst hn0
  have hl0:l=[]:=List.length_eq_zero_iff.1 hn
  subst hl0
  have HM:=hidE hM
  clear hM hP HP hb hlc hn hG hS
  go_enter Tryz.func74,Tryz.ntmps74
  go_wp2_with fail
  go_ret2
  exact⟨ChR.refl _ _,none,0,0,.inr ⟨[],[],by rw[<-HM.out];rfl,rfl,rfl,(λh=>absurd rfl h),HR.out⟩⟩
 ·have dn:((n:Int)==0)=false:=neq_int n 0 0 rfl hn0
  rw[if_neg hn0,<-hn]at hM
  obtain⟨O,hO⟩:∃O,sepM (λ_=>rdDecl) (3*l.length) l=O:=⟨_,rfl⟩
  rw[hO]at HP hM
  have HM:=hidE hM
  clear hM hP hb hlc hn hG hS hO hn0
  go_enter Tryz.func74,Tryz.ntmps74
  go_wp2_with fail
  refine HP.out.mono ?_
  rintro e w1 ⟨c1,A1,m1,q1,hcs⟩
  have C1:=hidE c1
  clear c1 HP
  rcases hcs with⟨ho,rfl⟩|⟨xs,r3,ho,rfl,hm,hx,hr3⟩
  ·have HO:=hidE ho
   clear ho
   go_wp2_with fail
   go_ret2
   exact⟨C1.out,A1,m1,q1,.inl ⟨HM.out.symm.trans HO.out,rfl⟩⟩
  ·have HO:=hidE ho
   have HMM:=hidE hm
   have HX:=hidE hx
   have HR3:=hidE hr3
   clear ho hm hx hr3
   go_wp2_with fail
   go_ret2
   exact⟨C1.out,A1,m1,q1,.inr ⟨xs,r3,HM.out.symm.trans HO.out,rfl,HMM.out,HX.out,HR3.out⟩⟩
set_option maxHeartbeats 800000 in
theorem sx_program(S:Nat->Prop)(b:Nat)(l:List Tok)(w:World)(h:RdrS S w b l)(hS:∀g,S g->g≠b/\g<w.heap.size)(hG:AllG l)(hl:l.length<=100000) :
  Calls Tryz.prog 29 #[.pointer (some ⟨b,0,none⟩)] w (LPost pcD S b w (rdProg l)):=by
 have HC:=hidE (sx_upToEnd S b l w h hS hG hl)
 have hbl:=h.lt
 obtain⟨M,hM⟩:∃M,rdProg l=M:=⟨_,rfl⟩
 rw[hM]at HC ⊢
 clear h hS hG hl hM
 go_enter Tryz.func29,Tryz.ntmps29
 go_wp2_with fail
 refine HC.out.mono ?_
 rintro e w1 h1
 obtain⟨c1,A1,m1,q1,hcs⟩:=id h1
 have H1:=hidE h1
 clear h1 c1 HC
 rcases hcs with⟨-,rfl⟩|⟨xs,r3,-,rfl,-⟩
 all_goals
  go_wp2_with fail
  go_ret2
  exact H1.out
def AhE(w:World)(o:Option (Ex × List Tok))(e:Ending)(w':World):Prop :=
 Below w.heap.size w w'/\∃cs A n c q,shE cs/\e=.returned (.tuple #[.agg cs.toArray,.slice A n c,.bool q])/\(q=false->o=none) /\
  (q=true->∃x r,o=some (x,r)/\n=r.length/\pcE.Cs (λg=>w.heap.size<=g/\g<w'.heap.size) w' x cs)
def AhP(w:World)(o:Option (List De × List Tok))(e:Ending)(w':World):Prop :=
 Below w.heap.size w w'/\∃L m d A n c q,e=.returned (.tuple #[.slice L m d,.slice A n c,.bool q])/\(q=false->o=none) /\
  (q=true->∃x r,o=some (x,r)/\n=r.length/\m=x.length/\LstG pcD (λg=>w.heap.size<=g/\g<w'.heap.size) w' x L)
set_option maxHeartbeats 6400000 in
theorem sx_aheadE(S:Nat->Prop)(g:Nat)(l:List Tok)(v:Value)(w:World)(h:Toks S w v l)(hS:∀g,S g->g<w.heap.size)(hG:AllG l)(hl:l.length<=100000)(hc:w.cell? ⟨g,0,none⟩=some (.func (.func 42) #[] #[])) :
  Calls Tryz.prog 92 #[v,.pointer (some ⟨g,0,none⟩)] w (AhE w (rdE (enoughE l) l)):=by
 have ek:∀args w,(callFunc 42 args).run Tryz.prog w=.ok (.enter 42 args) w:=enters_of Tryz.func42 (by kernel_rfl) rfl
 have hgl:=lt_cell hc
 obtain⟨M,hM⟩:∃M,rdE (enoughE l) l=M:=⟨_,rfl⟩
 obtain⟨A,c,rfl,hlc,-⟩:=id h
 obtain⟨n,hn⟩:∃n,l.length=n:=⟨_,rfl⟩
 rw[hn]at h ⊢
 have HR:RdrS S ((w.alloc (.cells exZ 39)).alloc (.cells #[.slice A n c] 141)) (w.heap.size+1) l:=by
  refine⟨_,?_,h.keep (λg hg=>?_)⟩
  ·have:=heap_alloc_new (w.alloc (.cells exZ 39)) (.cells #[.slice A n c] 141)
   rw[show(w.alloc (.cells exZ 39)).heap.size=w.heap.size+1 by simp]at this
   exact this
  ·have hgw:=hS g hg
   exact(Below.heap_alloc _ _ _ (by simp;omega)).trans (Below.heap_alloc _ _ _ hgw)
 have hE:=sx_expr S (w.heap.size+1) (enoughE l) _ l HR (λg hg=>by have:=hS g hg;simp;omega) hG hl (by unfold enoughE;omega)
 rw[hM]at hE ⊢
 have HRB:=hidE HR.rdB
 unfold exZ at hE HRB
 have HE:=hidE hE
 have HS:=hidE hS
 clear h hE hlc hM hn HR hG hl hS
 go_enter Tryz.func92,Tryz.ntmps92
 go_wp2_with fail
 refine HE.out.mono ?_
 rintro e w2 ⟨c2,cs,hsh,hcs⟩
 obtain⟨ck,cx,ct,cK,cX,cZ,cB,cm,cq,cKA,ckn,ckc,cLA,cln,clc,rfl⟩:=hsh
 have hs2:=c2.size
 simp at hs2
 have hU:∃q A2 n2 d2,e=.returned (.tuple #[.agg #[.int .i64 ck,.string cx,.bool ct,.int .i64 cK,.string cX,.int .i64 cZ,.slice cB cm cq,.slice cKA ckn ckc,.slice cLA cln clc],.bool q])/\Blk w2 (w.heap.size+1) 141 #[.slice A2 n2 d2] /\
   (q=false->M=none)/\(q=true->∃x r,M=some (x,r)/\n2=r.length/\pcE.Cs (λg=>w.heap.size<g/\g<w2.heap.size) w2 x [.int .i64 ck,.string cx,.bool ct,.int .i64 cK,.string cX,.int .i64 cZ,.slice cB cm cq,.slice cKA ckn ckc,.slice cLA cln clc]):=by
  rcases hcs with⟨ho,he⟩|⟨x,r,ho,he,hx,hr⟩
  ·obtain⟨A2,n2,d2,hb⟩:=c2.r HRB.out
   exact⟨false,A2,n2,d2,he,hb,(λ_=>ho),(λh=>by cases h)⟩
  ·obtain⟨v2,hb,A2,d2,rfl,-⟩:=hr
   exact⟨true,A2,_,d2,he,hb,(λh=>by cases h),λ_=>⟨x,r,ho,rfl,pcE.keep (λg hg=>⟨by have:=hg.1;simp at this;omega,hg.2⟩) (λ_ _=>rfl) hx⟩⟩
 obtain⟨q,A2,n2,d2,rfl,hb2,hno,hyes⟩:=hU
 have hb0:Blk w2 w.heap.size 39 exZ:=Blk.chgR (Blk.alloc (heap_alloc_new w (.cells exZ 39)) (.cells #[.slice A n c] 141)) c2 (by unfold only;omega)
 have hBW:Below w.heap.size w w2:=(((Below.refl w.heap.size w).alloc (Nat.le_refl _) (.cells exZ 39)).alloc (by simp) (.cells #[.slice A n c] 141)).trans (c2.c.toBelow (by simp;omega) (λk hk=>by unfold only;omega))
 obtain⟨W,hW⟩:∃V,w2.alloc (.cells #[.int .i64 ck,.string cx,.bool ct,.int .i64 cK,.string cX,.int .i64 cZ,.slice cB cm cq,.slice cKA ckn ckc,.slice cLA cln clc] 39)=V:=⟨_,rfl⟩
 have hbw:Below w2.heap.size w2 W:=hW▸(Below.refl _ w2).alloc (Nat.le_refl _) _
 have hsW:W.heap.size=w2.heap.size+1:=by rw[<-hW];simp
 have hb7:Blk W w2.heap.size 39 #[.int .i64 ck,.string cx,.bool ct,.int .i64 cK,.string cX,.int .i64 cZ,.slice cB cm cq,.slice cKA ckn ckc,.slice cLA cln clc]:=hW▸heap_alloc_new _ _
 have HB0:=hidE (show Blk W w.heap.size 39 exZ from(hbw.block _ hb0.lt).trans hb0)
 have hb6:Blk W (w.heap.size+1) 141 #[.slice A2 n2 d2]:=(hbw.block _ hb2.lt).trans hb2
 have HBW:=hidE (hBW.trans (hbw.mono (by omega)))
 have HNO:=hidE hno
 have HYES:Hid (q=true->∃x r,M=some (x,r)/\n2=r.length/\pcE.Cs (λg=>w.heap.size<g/\g<w2.heap.size) W x [.int .i64 ck,.string cx,.bool ct,.int .i64 cK,.string cX,.int .i64 cZ,.slice cB cm cq,.slice cKA ckn ckc,.slice cLA cln clc]):=hidE λh=>by
  obtain⟨x,r,h1,h2,h3⟩:=hyes h
  exact⟨x,r,h1,h2,pcE.keep (λ_ h=>h) (λg hg=>hbw.block g hg.2) h3⟩
 obtain⟨⟨f0,f1,f2,f3,f4,f5,f6,f7,f8⟩,-,hl7⟩:=blk_facts9 hb7
 obtain⟨⟨g0,g1,g2,g3,g4,g5,g6,g7,g8⟩,⟨z0,z1,z2,z3,z4,z5,z6,z7,z8⟩,hl0⟩:=blk_facts9 HB0.out
 have r0:=hb6.cell 0
 replace r0:W.cell? ⟨w.heap.size+1,0,none⟩=some (.slice A2 n2 d2):=r0
 clear hcs c2 hb2 hno hyes hb0 hBW hbw hb7 hb6 HE HRB
 go_upto_region 3 with fail
 try rw[hW]
 clear hW
 go_region
 all_goals
  go_wp2_with fail
  try simp only[Exit.inBlock,Exit.then]
  refine bodyPost_ret (results_ctt rfl _ _ w.heap.size 39 _ (0,0) _ rfl (blk_set9 _ _ _ _ _ _ _ _ _ HB0.out).drew Tryz.underlying39 rfl (by kernel_rfl)) rfl ?_
  refine⟨(((((((((HBW.out.setCell (p:=⟨w.heap.size,0,none⟩) (Nat.le_refl _) _).setCell (p:=⟨w.heap.size,1,none⟩) (Nat.le_refl _) _).setCell (p:=⟨w.heap.size,2,none⟩) (Nat.le_refl _) _).setCell (p:=⟨w.heap.size,3,none⟩) (Nat.le_refl _) _).setCell (p:=⟨w.heap.size,4,none⟩) (Nat.le_refl _) _).setCell (p:=⟨w.heap.size,5,none⟩) (Nat.le_refl _) _).setCell (p:=⟨w.heap.size,6,none⟩) (Nat.le_refl _) _).setCell (p:=⟨w.heap.size,7,none⟩) (Nat.le_refl _) _).setCell (p:=⟨w.heap.size,8,none⟩) (Nat.le_refl _) _).drew,[.int .i64 ck,.string cx,.bool ct,.int .i64 cK,.string cX,.int .i64 cZ,.slice cB cm cq,.slice cKA ckn ckc,.slice cLA cln clc],A2,n2,d2,q,⟨_,_,_,_,_,_,_,_,_,_,_,_,_,_,_,rfl⟩,rfl,HNO.out,λhq=>?_⟩
  obtain⟨x,r,h1,h2,h3⟩:=HYES.out hq
  exact⟨x,r,h1,h2,pcE.keep (λg hg=>⟨by omega,by rw[heap_drew,size_set9];omega⟩) (λg hg=>by rw[heap_drew];exact set9_far _ _ _ _ _ _ _ _ _ _ _ _ (by omega)) h3⟩
set_option maxHeartbeats 6400000 in
theorem sx_aheadP(S:Nat->Prop)(g:Nat)(l:List Tok)(v:Value)(w:World)(h:Toks S w v l)(hS:∀g,S g->g<w.heap.size)(hG:AllG l)(hl:l.length<=100000)(hc:w.cell? ⟨g,0,none⟩=some (.func (.func 29) #[] #[])) :
  Calls Tryz.prog 73 #[v,.pointer (some ⟨g,0,none⟩)] w (AhP w (rdProg l)):=by
 have ek:∀args w,(callFunc 29 args).run Tryz.prog w=.ok (.enter 29 args) w:=enters_of Tryz.func29 (by kernel_rfl) rfl
 have hgl:=lt_cell hc
 obtain⟨M,hM⟩:∃M,rdProg l=M:=⟨_,rfl⟩
 obtain⟨A,c,rfl,hlc,-⟩:=id h
 obtain⟨n,hn⟩:∃n,l.length=n:=⟨_,rfl⟩
 rw[hn]at h ⊢
 have HR:RdrS S (w.alloc (.cells #[.slice A n c] 141)) w.heap.size l:=⟨_,heap_alloc_new _ _,h.keep (λg hg=>Below.heap_alloc _ _ _ (hS g hg))⟩
 have hE:=sx_program S w.heap.size l _ HR (λg hg=>by have:=hS g hg;simp;omega) hG hl
 rw[hM]at hE ⊢
 have HRB:=hidE HR.rdB
 have HE:=hidE hE
 clear h hE hlc hM hn HR hG hl hS
 go_enter Tryz.func73,Tryz.ntmps73
 go_wp2_with fail
 refine HE.out.mono ?_
 rintro e w2 ⟨c2,L,m,d,hcs⟩
 have hs2:=c2.size
 simp at hs2
 have hU:∃q A2 n2 d2,e=.returned (.tuple #[.slice L m d,.bool q])/\Blk w2 w.heap.size 141 #[.slice A2 n2 d2] /\
   (q=false->M=none)/\(q=true->∃x r,M=some (x,r)/\n2=r.length/\m=x.length/\LstG pcD (λg=>w.heap.size<=g/\g<w2.heap.size) w2 x L):=by
  rcases hcs with⟨ho,he⟩|⟨x,r,ho,he,hm,hx,hr⟩
  ·obtain⟨A2,n2,d2,hb⟩:=c2.r HRB.out
   exact⟨false,A2,n2,d2,he,hb,(λ_=>ho),(λh=>by cases h)⟩
  ·obtain⟨v2,hb,A2,d2,rfl,-⟩:=hr
   exact⟨true,A2,_,d2,he,hb,(λh=>by cases h),λ_=>⟨x,r,ho,rfl,hm,hx.keep (λg hg=>⟨by have:=hg.1;simp at this;omega,hg.2⟩) (λ_ _=>rfl)⟩⟩
 obtain⟨q,A2,n2,d2,rfl,hb2,hno,hyes⟩:=hU
 have hBW:Below w.heap.size w w2:=((Below.refl w.heap.size w).alloc (Nat.le_refl _) (.cells #[.slice A n c] 141)).trans (c2.c.toBelow (by simp) (λk hk=>by unfold only;omega))
 have HBW:=hidE hBW
 have HNO:=hidE hno
 have HYES:=hidE hyes
 have hl0:=hb2.lt
 have r0:=hb2.cell 0
 replace r0:w2.cell? ⟨w.heap.size,0,none⟩=some (.slice A2 n2 d2):=r0
 clear hcs c2 hb2 hno hyes hBW HE HRB
 go_upto_region 3 with fail
 go_region
 all_goals
  go_wp2_with fail
  try simp only[Exit.inBlock,Exit.then]
  go_ret3
  exact⟨HBW.out.drew,L,m,d,A2,n2,d2,q,rfl,HNO.out,λhq=>by
   obtain⟨x,r,h1,h2,h3,h4⟩:=HYES.out hq
   exact⟨x,r,h1,h2,h3,h4.keep (λ_ h=>h) (λ_ _=>rfl)⟩⟩
end Go.Proofs.YtknkclefoiohpaaGreatDoor

namespace Go.Proofs.YtknkclefoiohpaaGreatDoor
open Go.RowKit Lx Tx Sx
set_option maxRecDepth 100000
set_option maxHeartbeats 1600000 in
theorem sx_eachPart0(k:Nat)(caps:Array Value)(w:World) :
  Calls Tryz.prog 47 #[.agg #[.int .i64 0,.string ⟨#[]⟩,.bool false,.int .i64 0,.string ⟨#[]⟩,.int .i64 0,.slice none 0 0,.slice none 0 0,.slice none 0 0],.func (.func k) #[] caps] w λe' w'=>e'=.returned (.tuple #[])/\Below w.heap.size w w':=by
 go_enter Tryz.func47,Tryz.ntmps47
 go_wp2_with fail
 obtain⟨W0,hW0⟩:∃W,w.alloc (.cells #[.int .i64 0,.string ⟨#[]⟩,.bool false,.int .i64 0,.string ⟨#[]⟩,.int .i64 0,.slice none 0 0,.slice none 0 0,.slice none 0 0] 39)=W:=⟨_,rfl⟩
 have hbox:Blk W0 w.heap.size 39 exZ:=hW0▸heap_alloc_new _ _
 have hb0:Below w.heap.size w W0:=hW0▸(Below.refl _ w).alloc (Nat.le_refl _) _
 have HBOX:=hidE hbox
 have HB0:=hidE hb0
 rw[hW0]
 clear hW0 hbox hb0
 go_loopg [11] 0 (λgg vi wr=>gg=0/\vi=.int .i64 0/\Hid (wr=W0))
 case atStart=>exact⟨rfl,rfl,hidE rfl⟩
 case round =>
  obtain⟨rfl,rfl,hw⟩:=hrel
  have hw:=hw.out
  subst hw
  have f8:=HBOX.out.cell 8
  replace f8:wr.cell? ⟨w.heap.size,8,none⟩=some (.slice none 0 0):=f8
  have hbl:=HBOX.out.lt
  obtain⟨W1,rfl⟩:∃X,X=wr:=⟨_,rfl⟩
  go_wp2_with fail
  go_loopg [22] 0 (λgg vi wx=>gg=0/\vi=.int .i64 0/\Hid (wx=W1))
  case atStart=>exact⟨rfl,rfl,hidE rfl⟩
  case round =>
   obtain⟨rfl,rfl,hw⟩:=hrel
   have hw:=hw.out
   subst hw
   go_wp2_with fail
   first|go_end0|refine bodyPost_ret (results_none rfl _ _ _) rfl ?_
   exact⟨rfl,HB0.out⟩
set_option maxHeartbeats 800000 in
theorem sx_depth0(w:World):Calls Tryz.prog 16 #[.agg #[.int .i64 0,.string ⟨#[]⟩,.bool false,.int .i64 0,.string ⟨#[]⟩,.int .i64 0,.slice none 0 0,.slice none 0 0,.slice none 0 0]] w λe' w'=>e'=.returned (.int .i64 1)/\Below w.heap.size w w':=by
 obtain⟨W2,hW2⟩:∃W,(w.alloc (.cells #[.int .i64 0,.string ⟨#[]⟩,.bool false,.int .i64 0,.string ⟨#[]⟩,.int .i64 0,.slice none 0 0,.slice none 0 0,.slice none 0 0] 39)).alloc (.cells #[.int .i64 0] 3)=W:=⟨_,rfl⟩
 have hs2:W2.heap.size=w.heap.size+2:=by rw[<-hW2];simp
 have hcell:Blk W2 (w.heap.size+1) 3 #[.int .i64 0]:=hW2▸two_top _ _ _ _ rfl
 have hb2:Below w.heap.size w W2:=hW2▸((Below.refl _ w).alloc (Nat.le_refl _) _).alloc (by simp) _
 have HE:=hidE (sx_eachPart0 49 #[.pointer (some ⟨w.heap.size+1,0,none⟩)] W2)
 have HCELL:=hidE hcell
 have HB2:=hidE hb2
 subst hW2
 clear hcell hb2
 go_enter Tryz.func16,Tryz.ntmps16
 go_wp2_with fail
 refine HE.out.mono ?_
 rintro e' w3 ⟨rfl,b3⟩
 have f0:=(HCELL.out.below b3 HCELL.out.lt).cell 0
 have B3:=hidE (HB2.out.trans (b3.mono (by omega)))
 clear b3 HE
 go_wp2_with fail
 go_ret
 exact⟨rfl,B3.out⟩
set_option maxHeartbeats 800000 in
theorem sx_hasDeep0(w:World):Calls Tryz.prog 99 #[.agg #[.int .i64 0,.string ⟨#[]⟩,.bool false,.int .i64 0,.string ⟨#[]⟩,.int .i64 0,.slice none 0 0,.slice none 0 0,.slice none 0 0]] w λe' w'=>e'=.returned (.bool false)/\Below w.heap.size w w':=by
 obtain⟨W1,hW1⟩:∃W,w.alloc (.cells #[.int .i64 0,.string ⟨#[]⟩,.bool false,.int .i64 0,.string ⟨#[]⟩,.int .i64 0,.slice none 0 0,.slice none 0 0,.slice none 0 0] 39)=W:=⟨_,rfl⟩
 have hb1:Below w.heap.size w W1:=hW1▸(Below.refl _ w).alloc (Nat.le_refl _) _
 have hbx:Blk W1 w.heap.size 39 exZ:=hW1▸heap_alloc_new _ _
 have hs1:W1.heap.size=w.heap.size+1:=by rw[<-hW1];simp
 have HT:=hidE (sx_typeDeep none (λ_=>False) 0 ⟨#[]⟩ 0 none 0 0 W1 (by simp[tyW]) rfl (λ_ h=>h.elim))
 have HBX:=hidE hbx
 have HB1:=hidE hb1
 obtain⟨⟨g0,g1,g2,g3,g4,g5,g6,g7,g8⟩,-⟩:=z9 hbx
 clear hbx hb1
 go_enter Tryz.func99,Tryz.ntmps99
 go_wp2_with fail
 try rw[hW1]
 clear hW1
 refine HT.out.mono ?_
 rintro e' w2 ⟨rfl,b2⟩
 have hs2:=b2.size
 clear g0 g1 g2 g3 g4 g5 g6 g7 g8
 obtain⟨⟨g0,g1,g2,g3,g4,g5,g6,g7,g8⟩,-⟩:=z9 (HBX.out.below b2 HBX.out.lt)
 have hlw:w.heap.size<w2.heap.size:=by omega
 have HB2:=hidE (HB1.out.trans (b2.mono (by omega)))
 have HE:=hidE (sx_eachPart0 142 #[.pointer (some ⟨w2.heap.size,0,none⟩)] (w2.alloc (.cells #[.bool false] 4)))
 clear b2 HT
 rw[show deepO none=false from rfl]
 go_wp2_with fail
 refine HE.out.mono ?_
 rintro e' w3 ⟨rfl,b3⟩
 have f0:=(Blk.below (heap_alloc_new w2 (.cells #[.bool false] 4)) b3 (by simp)).cell 0
 replace f0:w3.cell? ⟨w2.heap.size,0,none⟩=some (.bool false):=f0
 have B3:=hidE ((HB2.out.alloc (by omega) (.cells #[.bool false] 4)).trans (b3.mono (by simp;omega)))
 clear b3 HE
 go_wp2_with fail
 go_ret
 exact⟨rfl,B3.out⟩
set_option maxHeartbeats 800000 in
theorem sx_tooDeep0(w:World):Calls Tryz.prog 43 #[.agg #[.int .i64 0,.string ⟨#[]⟩,.bool false,.int .i64 0,.string ⟨#[]⟩,.int .i64 0,.slice none 0 0,.slice none 0 0,.slice none 0 0]] w λe' w'=>e'=.returned (.bool false)/\Below w.heap.size w w':=by
 obtain⟨W1,hW1⟩:∃W,w.alloc (.cells #[.int .i64 0,.string ⟨#[]⟩,.bool false,.int .i64 0,.string ⟨#[]⟩,.int .i64 0,.slice none 0 0,.slice none 0 0,.slice none 0 0] 39)=W:=⟨_,rfl⟩
 have hb1:Below w.heap.size w W1:=hW1▸(Below.refl _ w).alloc (Nat.le_refl _) _
 have hbx:Blk W1 w.heap.size 39 exZ:=hW1▸heap_alloc_new _ _
 have hs1:W1.heap.size=w.heap.size+1:=by rw[<-hW1];simp
 have HD:=hidE (sx_depth0 W1)
 have HBX:=hidE hbx
 have HB1:=hidE hb1
 subst hW1
 clear hbx hb1
 go_enter Tryz.func43,Tryz.ntmps43
 go_wp2_with fail
 refine HD.out.mono ?_
 rintro e' w2 ⟨rfl,b2⟩
 have hs2:=b2.size
 obtain⟨⟨g0,g1,g2,g3,g4,g5,g6,g7,g8⟩,-⟩:=z9 (HBX.out.below b2 HBX.out.lt)
 have hlw:w.heap.size<w2.heap.size:=by omega
 have HB2:=hidE (HB1.out.trans (b2.mono (by omega)))
 have HH:=hidE (sx_hasDeep0 w2)
 clear b2 HD
 go_wp2_with fail
 refine HH.out.mono ?_
 rintro e' w3 ⟨rfl,b3⟩
 have B3:=hidE (HB2.out.trans (b3.mono (by omega)))
 clear b3 HH
 go_wp2_with fail
 go_ret
 exact⟨rfl,B3.out⟩
end Go.Proofs.YtknkclefoiohpaaGreatDoor
