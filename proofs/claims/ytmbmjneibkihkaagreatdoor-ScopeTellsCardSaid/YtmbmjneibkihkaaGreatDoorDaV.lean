/-
  Contracts of the code's functions, part 22.
-/
import Derived.Test.YtmbmjneibkihkaaGreatDoorDaU
import Derived.Test.YtmbmjneibkihkaaGreatDoorDaJ
namespace Go.Proofs.YtmbmjneibkihkaaGreatDoor
open Go.RowKit Lx Tx
set_option maxRecDepth 100000
def arrow(f:Nat):Option (Ty × List Tok)->Option (Ty × List Tok)
 | none=>none
 | some x=>if isHd x.2 6 [45,62]=true then(read f x.2.tail).map λy=>(.fn x.1 y.1,y.2) else some x
theorem arrow_no(f:Nat)(O:Option (Ty × List Tok))(h:O=none):arrow f O=none:=by rw[h,arrow]
theorem arrow_yes(f:Nat)(O:Option (Ty × List Tok))(t:Ty)(r:List Tok)(h:O=some (t,r)):arrow f O=if isHd r 6 [45,62]=true then(read f r.tail).map λy=>(.fn t y.1,y.2) else some (t,r):=by rw[h,arrow]
theorem eat_hd(k:Nat)(X:List UInt8)(l:List Tok)(hk:k≠0):eat (λt=>t.kind==k&&t.text==X) l=if isHd l k X=true then some l.tail else none:=by
 cases l with
 | nil=>rw[eat,if_neg];simp[isHd,hd];intro e;exact absurd e.symm hk
 | cons t r=>exact(by rw[eat]:eat (λt=>t.kind==k&&t.text==X) (t::r)=if(t.kind==k&&t.text==X)=true then some r else none)
theorem eat_key2(l:List Tok):eat (isKey · wForall) l=if isHd l 3 wForall=true then some l.tail else none:=eat_hd 3 wForall l (by decide)
theorem eat_sign2(X:List UInt8)(l:List Tok):eat (isSign · X) l=if isHd l 6 X=true then some l.tail else none:=eat_hd 6 X l (by decide)
theorem read_hd(f:Nat)(l:List Tok):read (f+1) l=if isHd l 3 wForall=true then fall f l.tail else arrow f (app f l):=by
 rw[Tx.read,eat_key2]
 by_cases h:isHd l 3 wForall=true
 ·rw[if_pos h,if_pos h]
  show(if(vars l.tail).1=[] then none else match eat (isSign · [46]) (vars l.tail).2 with|none=>none|some r2=>(read f r2).map λx:Ty × List Tok=>(alls (vars l.tail).1 x.1,x.2))=fallD f (vars l.tail).1 (vars l.tail).2
  unfold fallD
  rw[eat_sign2]
  by_cases hv:(vars l.tail).1=[]
  ·rw[if_pos hv,if_pos hv]
  ·rw[if_neg hv,if_neg hv]
   by_cases hq:isHd (vars l.tail).2 6 [46]=true
   ·rw[if_pos hq,if_pos hq]
   ·rw[if_neg hq,if_neg hq]
 ·rw[if_neg h,if_neg h]
  show(match app f l with|none=>none|some (a,r)=>match eat (isSign · [45,62]) r with|none=>some (a,r)|some r2=>(read f r2).map λx:Ty × List Tok=>(.fn a x.1,x.2))=_
  cases app f l with
  | none=>rfl
  | some x =>
   obtain⟨a,r⟩:=x
   rw[arrow]
   show(match eat (isSign · [45,62]) r with|none=>some (a,r)|some r2=>(read f r2).map λx:Ty × List Tok=>(.fn a x.1,x.2))=_
   rw[eat_sign2]
   by_cases hq:isHd r 6 [45,62]=true
   ·rw[if_pos hq,if_pos hq]
   ·rw[if_neg hq,if_neg hq]
theorem arrow_step {f:Nat} {O O2:Option (Ty × List Tok)} {t:Ty} {r:List Tok}(h:O=some (t,r))(hq:isHd r 6 [45,62]=true)(hr:read f r.tail=O2):arrow f O=O2.map λy=>(.fn t y.1,y.2):=by
 rw[arrow_yes f O t r h,if_pos hq,hr]
theorem whole_fn(w w4 W:World)(t u:Ty)(S1 S2:Nat->Prop)(K1 K2 Z1 Z2:Int)(X1 X2:ByteArray)(A1 A2:Option Addr)(m1 m2 c1 c2:Nat)(hw:w.heap.size<w4.heap.size)
  (h1:RdV S1 w4 t (.agg #[.int .i64 K1,.string X1,.int .i64 Z1,.slice A1 m1 c1]))(h2:RdV S2 w4 u (.agg #[.int .i64 K2,.string X2,.int .i64 Z2,.slice A2 m2 c2]))
  (k1:∀g,S1 g->w.heap.size<g/\g<w4.heap.size)(k2:∀g,S2 g->w.heap.size<g/\g<w4.heap.size)
  (hsz:W.heap.size=w4.heap.size+2)(key:∀k,k<w4.heap.size->k≠w.heap.size->W.heap[k]? = w4.heap[k]?)
  (hc:∀j v,[Value.int .i64 K1,.string X1,.int .i64 Z1,.slice A1 m1 c1,.int .i64 K2,.string X2,.int .i64 Z2,.slice A2 m2 c2][j]? = some v->W.cell? ((⟨w4.heap.size+1,0,none⟩:Addr).add j)=some v) :
  RdV (λg=>w.heap.size<=g/\g<W.heap.size) W (.fn t u) (.agg #[.int .i64 4,.string ⟨#[]⟩,.int .i64 0,.slice (some ⟨w4.heap.size+1,0,none⟩) 2 2]):=by
 rw[hsz]
 refine fn_cells (S:=λg=>w.heap.size<=g/\g<w4.heap.size+2) (h1.keep (λg hg=>?_) (λg hg=>?_)) (h2.keep (λg hg=>?_) (λg hg=>?_)) ⟨by omega,by omega⟩ (λj v hj=>?_)
 ·have:=k1 g hg;exact⟨by omega,by omega⟩
 ·have:=k1 g hg;exact key g (by omega) (by omega)
 ·have:=k2 g hg;exact⟨by omega,by omega⟩
 ·have:=k2 g hg;exact key g (by omega) (by omega)
 ·rw[<-add_zero_addr];exact hc j v hj
set_option maxHeartbeats 1600000 in
theorem tc_whole(f:Nat)(S:Nat->Prop)(b:Nat)(l:List Tok)(w:World)(h:Rdr S w b l)(hS:∀g,S g->g≠b/\g<w.heap.size)(hG:AllG l)(hl:l.length<=100000)(hf:4*l.length+4<=f+1)
  (IHR:Reads S b 111 4 read f)(IHA:Reads S b 151 3 app f) :
  Calls Tryz.prog 111 #[.pointer (some ⟨b,0,none⟩)] w (TPost S b l.length w (read (f+1) l)):=by
 have hbl:=h.lt
 have hT:=tc_take S b l 3 3 rfl ⟨#[102,111,114,97,108,108]⟩ (w.alloc (.cells tyZ 35)) (h.alloc _ (λg hg=>(hS g hg).2)) (λg hg=>⟨(hS g hg).1,by have:=(hS g hg).2;simp;omega⟩) hl (by decide)
 unfold tyZ at hT
 have eb:(⟨#[102,111,114,97,108,108]⟩:ByteArray).data.toList=wForall:=rfl
 rw[eb]at hT
 rw[read_hd]
 unfold took at hT
 obtain⟨q,hq⟩:∃q,isHd l 3 wForall=q:=⟨_,rfl⟩
 rw[hq]at hT ⊢
 have HS:=hidE hS
 have HG:=hidE hG
 have HR:=hidE IHR
 have HA:=hidE IHA
 clear eb h hS hG IHR IHA
 cases q with
 | true =>
  obtain⟨t0,r0,rfl,-,-⟩:=isHd_ne _ _ _ (by decide) hq
  simp only[if_true,List.tail_cons]at hT ⊢
  rw[List.length_cons]at hl hf ⊢
  obtain⟨n,hn⟩:∃n,r0.length=n:=⟨_,rfl⟩
  have HN:=hidE hn
  rw[hn]at hl hf ⊢
  obtain⟨O,hO⟩:∃O,fall f r0=O:=⟨_,rfl⟩
  have HF:Hid (∀w1,Rdr S w1 b r0->(∀g,S g->g≠b/\g<w1.heap.size)->Calls Tryz.prog 150 #[.pointer (some ⟨b,0,none⟩)] w1 (TPost S b n w1 O)):=by
   refine hidE λw1 hr hs=>?_
   have:=tc_forAll f S b r0 w1 hr hs (AllG.tail HG.out) (by omega) (by omega) HR.out
   rwa [hO,hn]at this
  rw[hO]
  clear hq hn hO hf
  go_enter Tryz.func111,Tryz.ntmps111
  go_wp2_with fail
  refine hT.mono ?_
  rintro e w1 ⟨rfl,r1,b1⟩
  have hs1:=b1.size
  simp at hs1
  have HB1:=hidE (Blk.chg (heap_alloc_new w (.cells tyZ 35)) b1 (by unfold only;omega))
  have HR1:=hidE r1
  have C1:=hidE b1.pre
  clear hT b1 r1
  go_wp2_with fail
  refine(HF.out w1 HR1.out (λg hg=>by have:=HS.out g hg;omega)).mono ?_
  intro e w2 hP
  obtain⟨b2,K1,X1,Z1,A1,m1,c1,qq,rfl,hno,hyes⟩:=tpost_out hP
  have hbk:=HB1.out.chg b2 (by unfold only;omega)
  unfold tyZ at hbk
  obtain⟨a0,a1,a2,a3,q0,q1,q2,q3,hlw2⟩:=blk_facts4 hbk
  have HB2:=hidE hbk
  have C2:=hidE (C1.out.trans b2)
  have HNO:=hidE hno
  have HYES:=hidE hyes
  clear hbk b2 hP hno hyes
  go_wp2_with fail
  try simp only[Exit.inBlock,Exit.then]
  refine bodyPost_ret (results_ct rfl _ _ w.heap.size 35 _ (0,0) _ rfl (blk_set4 _ _ _ _ HB2.out) Tryz.underlying35 rfl (by kernel_rfl)) rfl ?_
  cases qq with
  | false=>exact tpost_none S b (n+1) w _ _ _ K1 X1 Z1 A1 m1 c1 (C2.out.set4 _ _ _ _ (Nat.le_refl _)) (HNO.out rfl) rfl
  | true =>
   obtain⟨t,r,hrl,ho,hrd,hrr⟩:=HYES.out rfl
   refine tpost_some S b (n+1) w _ _ _ K1 X1 Z1 A1 m1 c1 t r (C2.out.set4 _ _ _ _ (Nat.le_refl _)) (by omega) ho rfl ?_ (hrr.set4 _ _ _ _ (by omega) (λk hk=>by have:=HS.out k hk;omega))
   exact(hrd.set4 _ _ _ _ (λk hk=>by omega)).keep (λg hg=>by simp;omega) (λ_ _=>rfl)
 | false =>
  simp only[Bool.false_eq_true,if_false]at hT ⊢
  obtain⟨n,hn⟩:∃n,l.length=n:=⟨_,rfl⟩
  have HN:=hidE hn
  rw[hn]at hl hf ⊢
  obtain⟨O,hO⟩:∃O,app f l=O:=⟨_,rfl⟩
  have HP:Hid (∀w1,Rdr S w1 b l->(∀g,S g->g≠b/\g<w1.heap.size)->Calls Tryz.prog 151 #[.pointer (some ⟨b,0,none⟩)] w1 (TPost S b n w1 O)):=by
   refine hidE λw1 hr hs=>?_
   have:=HA.out w1 l hr hs HG.out (by omega) (by omega)
   rwa [hO,hn]at this
  have HGA:Hid (∀t r,O=some (t,r)->AllG r):=hidE λt r h=>((read_nm f).2.1 l t r HG.out (hO.trans h)).2.1
  obtain⟨R,hR⟩:∃R,arrow f O=R:=⟨_,rfl⟩
  have HRR:=hidE hR
  rw[hO,hR]
  clear hq hn hO hR
  go_enter Tryz.func111,Tryz.ntmps111
  go_wp2_with fail
  refine hT.mono ?_
  rintro e w1 ⟨rfl,r1,b1⟩
  have hs1:=b1.size
  simp at hs1
  have HB1:=hidE (Blk.chg (heap_alloc_new w (.cells tyZ 35)) b1 (by unfold only;omega))
  have HR1:=hidE r1
  have C1:=hidE b1.pre
  clear hT b1 r1
  go_wp2_with fail
  refine(HP.out w1 HR1.out (λg hg=>by have:=HS.out g hg;omega)).mono ?_
  intro e w2 hP
  obtain⟨b2,K1,X1,Z1,A1,m1,c1,qq,rfl,hno,hyes⟩:=tpost_out hP
  have hs2:=b2.size
  have hbk:=HB1.out.chg b2 (by unfold only;omega)
  unfold tyZ at hbk
  obtain⟨a0,a1,a2,a3,q0,q1,q2,q3,hlw2⟩:=blk_facts4 hbk
  have HB2:=hidE hbk
  have C2:=hidE (C1.out.trans b2)
  have HNO:=hidE hno
  have HYES:=hidE hyes
  clear hbk b2 hP hno hyes HP
  cases qq with
  | false =>
   have HO:=hidE (HRR.out.symm.trans (arrow_no f O (HNO.out rfl)))
   go_wp2_with fail
   try simp only[Exit.inBlock,Exit.then]
   refine bodyPost_ret (results_ct rfl _ _ w.heap.size 35 _ (0,0) _ rfl ((blk_set4 _ _ _ _ HB2.out).alloc _) Tryz.underlying35 rfl (by kernel_rfl)) rfl ?_
   exact tpost_none S b n w _ _ _ K1 X1 Z1 A1 m1 c1 ((C2.out.set4 _ _ _ _ (Nat.le_refl _)).alloc _) HO.out rfl
  | true =>
   obtain⟨t,r,hrl,ho,hrd,hrr⟩:=HYES.out rfl
   obtain⟨q',hq'⟩:∃q',isHd r 6 [45,62]=q':=⟨_,rfl⟩
   have HQ':=hidE hq'
   have HO:=hidE ho
   have HRD:=hidE hrd
   have hbr:=hrr.lt
   have HS2:Hid (∀g,S g->g≠b/\g<w2.heap.size):=hidE λg hg=>by have:=HS.out g hg;omega
   have HT2:Hid (Calls Tryz.prog 139 #[.pointer (some ⟨b,0,none⟩),.int .i64 6,.string ⟨#[45,62]⟩] (w2.alloc (.cells #[.int .i64 K1,.string X1,.int .i64 Z1,.slice A1 m1 c1] 35)) λe w'=>e=.returned (.bool q')/\Rdr S w' b (if q'=true then r.tail else r)/\Chg (only b) (w2.alloc (.cells #[.int .i64 K1,.string X1,.int .i64 Z1,.slice A1 m1 c1] 35)) w'):=by
    have:=tc_take S b r 6 6 rfl ⟨#[45,62]⟩ (w2.alloc (.cells #[.int .i64 K1,.string X1,.int .i64 Z1,.slice A1 m1 c1] 35)) (hrr.alloc _ (λg hg=>(HS2.out g hg).2)) (λg hg=>by have:=HS2.out g hg;simp;omega) (by omega) (by decide)
    have eb:(⟨#[45,62]⟩:ByteArray).data.toList=[45,62]:=rfl
    rw[eb,took,hq']at this
    exact hidE this
   clear hq' ho hrd hrr
   go_wp2_with fail
   refine HT2.out.mono ?_
   rintro e w3 ⟨rfl,r3,b3⟩
   have hs3:=b3.size
   simp at hs3
   have HF3:=hidE (Blk.chg (heap_alloc_new w2 (.cells #[.int .i64 K1,.string X1,.int .i64 Z1,.slice A1 m1 c1] 35)) b3 (by unfold only;omega))
   have hbk:=(HB2.out.alloc _).chg b3 (by unfold only;omega)
   have HB3:=hidE hbk
   have C3:=hidE ((C2.out.alloc _).trans b3)
   have HR3:=hidE r3
   have HRD3:Hid (RdV (λg=>w1.heap.size<=g/\g<w2.heap.size) w3 t (.agg #[.int .i64 K1,.string X1,.int .i64 Z1,.slice A1 m1 c1])) :=
    hidE (HRD.out.keep (λ_ h=>h) (λg hg=>(b3.block g (by simp;omega) (by unfold only;omega)).trans (Below.heap_alloc _ _ _ hg.2)))
   clear b3 r3 hbk HT2
   cases q' with
   | false =>
    have HO2:=hidE (HRR.out.symm.trans ((arrow_yes f O t r HO.out).trans (by rw[HQ'.out,if_neg (by decide)])))
    obtain⟨p0,p1,p2,p3,s0,s1,s2,s3,hlx⟩:=blk_facts4 HF3.out
    obtain⟨a0,a1,a2,a3,q0,q1,q2,q3,hlw3⟩:=blk_facts4 HB3.out
    go_wp2_with fail
    try simp only[Exit.inBlock,Exit.then]
    refine bodyPost_ret (results_ct rfl _ _ w.heap.size 35 _ (0,0) _ rfl (blk_set4 _ _ _ _ HB3.out) Tryz.underlying35 rfl (by kernel_rfl)) rfl ?_
    have hr3:=HR3.out
    rw[if_neg (by decide)]at hr3
    refine tpost_some S b n w _ _ _ K1 X1 Z1 A1 m1 c1 t r (C3.out.set4 _ _ _ _ (Nat.le_refl _)) hrl HO2.out rfl ?_ (hr3.set4 _ _ _ _ (by omega) (λk hk=>by have:=HS.out k hk;omega))
    exact(HRD3.out.set4 _ _ _ _ (λk hk=>by omega)).keep (λg hg=>by simp;omega) (λ_ _=>rfl)
   | true =>
    obtain⟨t1,r1,hr1,-,-⟩:=isHd_ne r 6 [45,62] (by decide) HQ'.out
    obtain⟨O2,hO2⟩:∃O2,read f r1=O2:=⟨_,rfl⟩
    have HO2:Hid (R=O2.map λy=>(.fn t y.1,y.2)):=hidE (HRR.out.symm.trans (arrow_step HO.out HQ'.out (by rw[hr1];exact hO2)))
    have hr3:Rdr S w3 b r1:=by have:=HR3.out;rw[if_pos rfl,hr1]at this;exact this
    have hlr:r1.length+1<n:=by
      have:r.length=r1.length+1:=by rw[hr1];rfl
      omega
    have hG1:AllG r1:=λt ht=>HGA.out _ r HO.out t (by rw[hr1];exact List.mem_cons_of_mem _ ht)
    have hW:=HR.out w3 r1 hr3 (λg hg=>by have:=HS2.out g hg;omega) hG1 (by omega) (by omega)
    rw[hO2]at hW
    clear hr1 hO2 hr3 hG1 HR3
    go_wp2_with fail
    refine hW.mono ?_
    intro e w4 hP
    obtain⟨b4,K2,X2,Z2,A2,m2,c2,q4,rfl,hno,hyes⟩:=tpost_out hP
    have hs4:=b4.size
    have hf4:=HF3.out.chg b4 (by unfold only;omega)
    have hbk:=HB3.out.chg b4 (by unfold only;omega)
    obtain⟨p0,p1,p2,p3,s0,s1,s2,s3,hlx⟩:=blk_facts4 hf4
    obtain⟨a0,a1,a2,a3,q0,q1,q2,q3,hlw4⟩:=blk_facts4 hbk
    have HB4:=hidE hbk
    have C4:=hidE (C3.out.trans b4)
    have HNO4:=hidE hno
    have HYES4:=hidE hyes
    have HRD4:Hid (RdV (λg=>w1.heap.size<=g/\g<w2.heap.size) w4 t (.agg #[.int .i64 K1,.string X1,.int .i64 Z1,.slice A1 m1 c1])) :=
     hidE (HRD3.out.keep (λ_ h=>h) (λg hg=>b4.block g (by omega) (by unfold only;omega)))
    clear hf4 hbk b4 hno hyes hP hW
    go_wp2_with fail
    try simp only[Exit.inBlock,Exit.then]
    refine bodyPost_ret (results_ct rfl _ _ w.heap.size 35 _ (0,0) _ rfl (((blk_set4 _ _ _ _ HB4.out).alloc _).alloc _) Tryz.underlying35 rfl (by kernel_rfl)) rfl ?_
    have c4:Chg (only b) w _:=((C4.out.set4 (g:=w.heap.size) (.int .i64 4) (.string ⟨#[]⟩) (.int .i64 0) (.slice (some ⟨w4.heap.size+1,0,none⟩) 2 2) (Nat.le_refl _)).alloc (.cells #[.int .i64 K2,.string X2,.int .i64 Z2,.slice A2 m2 c2] 35)).alloc (.cells #[.int .i64 K1,.string X1,.int .i64 Z1,.slice A1 m1 c1,.int .i64 K2,.string X2,.int .i64 Z2,.slice A2 m2 c2] 35)
    cases q4 with
    | false=>exact tpost_none S b n w _ _ _ 4 ⟨#[]⟩ 0 (some ⟨w4.heap.size+1,0,none⟩) 2 2 c4 (by rw[HO2.out,HNO4.out rfl];rfl) rfl
    | true =>
     obtain⟨u,r2,hr2l,ho2,hrd2,hrr2⟩:=HYES4.out rfl
     refine tpost_some S b n w _ _ _ 4 ⟨#[]⟩ 0 (some ⟨w4.heap.size+1,0,none⟩) 2 2 (.fn t u) r2 c4 (by omega) (by rw[HO2.out,ho2];rfl) rfl ?_ ?_
     ·exact whole_fn w w4 _ t u _ _ K1 K2 Z1 Z2 X1 X2 A1 A2 m1 m2 c1 c2 hlw4 HRD4.out hrd2 (λg hg=>by omega) (λg hg=>by omega) (by simp)
       (λk hk hne=>(Below.heap_alloc _ _ _ (by simp;omega)).trans ((Below.heap_alloc _ _ _ (by simp;omega)).trans (heap_set4 _ _ _ _ _ _ _ hne))) (λj v hj=>new_cells' _ _ _ _ (by simp) j v hj)
     ·have hb2:=hrr2.lt
      have hS4:∀g,S g->g<w4.heap.size:=λg hg=>by have:=HS.out g hg;omega
      exact((hrr2.set4 _ _ _ _ (by omega) (λk hk=>by have:=HS.out k hk;omega)).alloc _ (λg hg=>by have:=hS4 g hg;simp;omega)).alloc _ (λg hg=>by have:=hS4 g hg;simp;omega)
theorem tc_all(S:Nat->Prop)(b:Nat)(f:Nat):∀f1,f1<=f ->
  Reads S b 111 4 read f1/\Reads S b 151 3 app f1/\Reads S b 175 2 atom f1:=by
 induction f with
 | zero =>
  intro f1 h
  exact⟨λw l _ _ _ _ h2=>by omega,λw l _ _ _ _ h2=>by omega,λw l _ _ _ _ h2=>by omega⟩
 | succ f ih =>
  intro f1 h1
  by_cases h:f1<=f
  ·exact ih f1 h
  ·obtain rfl:f1=f+1:=by omega
   have i0:=ih f (Nat.le_refl _)
   exact⟨λw l hr hS hG hl hf=>tc_whole f S b l w hr hS hG hl hf i0.1 i0.2.1,λw l hr hS hG hl hf=>tc_app f S b l w hr hS hG hl hf (λf1 h=>(ih f1 h).2.2),λw l hr hS hG hl hf=>tc_atom f S b l w hr hS hG hl hf i0.1⟩
theorem results_ctt {P:Program} {fn:Func} {p u z:Tmp} {ty:TypeId}(h:fn.results=#[.cell p ty,.tmp u,.tmp z])(tmps:Array Value)(w:World)(g:Nat)(t:TypeId)(cs:Array Value)(fr:Nat × Nat)(d:TypeDesc)
  (hp:tmps.getD p undef=.pointer (some ⟨g,0,none⟩))(hg:w.heap[g]? = some (.cells cs t fr))
  (hu:P.underlying ty=some d)(hd:(match d with|.struct _|.array _ _=>true|_=>false)=true)(hi:(P.info? ty).map (·.size)=some cs.size) :
  (results fn tmps).run P w=.ok (.tuple #[.agg cs,tmps.getD u undef,tmps.getD z undef]) w:=by
 have hp':tmps[p]?.getD undef=.pointer (some ⟨g,0,none⟩):=by simpa using hp
 simp[results,h,hp',asAddr,run_loadVar_row w g t ty cs fr d hg hu hd hi]
theorem heap_drew(w:World):w.drew.heap=w.heap:=rfl
theorem size_set4(w:World)(g:Nat)(b0 b1 b2 b3:Value):((((w.setCell ⟨g,0,none⟩ b0).setCell ⟨g,1,none⟩ b1).setCell ⟨g,2,none⟩ b2).setCell ⟨g,3,none⟩ b3).heap.size=w.heap.size:=by simp
theorem RdT.toks {w:World} {v:Value} {l:List Tok}(h:RdT w v l)(hc:∃A c,v=.slice A l.length c/\l.length<=c):Toks (λg=>g<w.heap.size) w v l:=by
 obtain⟨A,c,rfl,hlc⟩:=hc
 obtain⟨A',c',hv,hp⟩:=h
 injection hv with e1 e2 e3
 subst e1 e3
 refine⟨A,c,rfl,hlc,λh0=>?_⟩
 obtain⟨g,hA,hg,hcell⟩:=hp h0
 exact⟨g,0,hA,hg,λj u hu=>by rw[Nat.zero_add];exact hcell j u hu⟩
end Go.Proofs.YtmbmjneibkihkaaGreatDoor

namespace Go.Proofs.YtmbmjneibkihkaaGreatDoor
open Go.RowKit Lx Tx
set_option maxRecDepth 100000
def ReadPostS(S:Nat->Prop)(w:World)(o:Option (Ty × List Tok))(e:Ending)(w':World):Prop :=
 Below w.heap.size w w'/\∃K X Z A m c v q,e=.returned (.tuple #[.agg #[.int .i64 K,.string X,.int .i64 Z,.slice A m c],v,.bool q])/\(q=false->o=none/\v=.slice none 0 0) /\
  (q=true->∃t r A2 c2,o=some (t,r)/\v=.slice A2 r.length c2/\RdV (λg=>w.heap.size<=g/\g<w'.heap.size) w' t (.agg #[.int .i64 K,.string X,.int .i64 Z,.slice A m c])/\Toks S w' (.slice A2 r.length c2) r)
set_option maxHeartbeats 800000 in
theorem tc_readS(S:Nat->Prop)(l:List Tok)(v:Value)(w:World)(h:Toks S w v l)(hS:∀g,S g->g<w.heap.size)(hG:AllG l)(hl:l.length<=100000) :
  Calls Tryz.prog 61 #[v] w (ReadPostS S w (read (enough l) l)):=by
 have HV:=hidE h
 have HS:=hidE hS
 obtain⟨O,hO⟩:∃O,read (enough l) l=O:=⟨_,rfl⟩
 have hW:=λw1 hr hs=>(tc_all S (w.heap.size+1) (enough l) (enough l) (Nat.le_refl _)).1 w1 l hr hs hG hl (by unfold enough;omega)
 rw[hO]at hW ⊢
 have HW:=hidE hW
 clear h hG hl hO hW
 obtain⟨A,c,rfl,hlc,_⟩:=HV.out
 obtain⟨n,hn⟩:∃n,l.length=n:=⟨_,rfl⟩
 rw[hn]at HV HW ⊢
 clear hlc hn
 have HR:Hid (Rdr S ((w.alloc (.cells tyZ 35)).alloc (.cells #[.slice A n c] 176)) (w.heap.size+1) l):=by
  refine hidE ⟨_,?_,HV.out.keep (λg hg=>?_)⟩
  ·have:=heap_alloc_new (w.alloc (.cells tyZ 35)) (.cells #[.slice A n c] 176)
   rw[show(w.alloc (.cells tyZ 35)).heap.size=w.heap.size+1 by simp]at this
   exact this
  ·have hgw:=hS g hg
   exact(Below.heap_alloc _ _ _ (by simp;omega)).trans (Below.heap_alloc _ _ _ hgw)
 unfold tyZ at HR
 go_enter Tryz.func61,Tryz.ntmps61
 go_wp2_with fail
 refine(HW.out _ HR.out (λg hg=>by have:=HS.out g hg;simp;omega)).mono ?_
 intro e w1 hP
 obtain⟨b1,K1,X1,Z1,A1,m1,c1,q,rfl,hno,hyes⟩:=tpost_out hP
 have hs1:=b1.size
 simp at hs1
 have hbk:=Blk.chg (Blk.alloc (heap_alloc_new w (.cells tyZ 35)) (.cells #[.slice A n c] 176)) b1 (by unfold only;omega)
 unfold tyZ at hbk
 obtain⟨a0,a1,a2,a3,q0,q1,q2,q3,hlw⟩:=blk_facts4 hbk
 have HBK:=hidE hbk
 have C1:=hidE b1
 have HNO:=hidE hno
 have HYES:=hidE hyes
 clear hbk b1 hno hyes hP
 cases q with
 | false =>
  go_wp2_with fail
  try simp only[Exit.inBlock,Exit.then]
  refine bodyPost_ret (results_ctt rfl _ _ w.heap.size 35 _ (0,0) _ rfl (blk_set4 _ _ _ _ (blk_set4 _ _ _ _ HBK.out)) Tryz.underlying35 rfl (by kernel_rfl)) rfl ?_
  have hb:Below w.heap.size w w1:=(((Chg.refl (only (w.heap.size+1)) w).alloc _).alloc _ |>.trans C1.out).toBelow (Nat.le_refl _) (λk hk=>by unfold only;omega)
  exact⟨below_set4 (below_set4 hb _ _ _ _ (Nat.le_refl _)) _ _ _ _ (Nat.le_refl _),0,⟨#[]⟩,0,none,0,0,.slice none 0 0,false,rfl,λ_=>⟨HNO.out (by first|rfl|trivial),rfl⟩,(λh=>by cases h)⟩
 | true =>
  obtain⟨t,r,hrl,ho,hrd,hrr⟩:=HYES.out rfl
  obtain⟨v2,hv1,hv2⟩:=hrr
  have hv2':=hv2
  obtain⟨A2,c2,rfl,-,-⟩:=hv2
  have HT2:Hid (Toks S w1 (.slice A2 r.length c2) r):=hidE hv2'
  clear hv2'
  have f0:=hv1.cell 0
  have HRD:Hid (RdV (λg=>w.heap.size<g/\g<w1.heap.size) w1 t (.agg #[.int .i64 K1,.string X1,.int .i64 Z1,.slice A1 m1 c1])):=hidE (hrd.keep (λg hg=>by simp at hg;omega) (λ_ _=>rfl))
  have HO:=hidE ho
  obtain⟨rn,hrn⟩:∃rn,r.length=rn:=⟨_,rfl⟩
  have HRN:=hidE hrn
  rw[hrn]at f0
  replace f0:w1.cell? ⟨w.heap.size+1,0,none⟩=some (.slice A2 rn c2):=f0
  clear hv1 hrl ho hrd hrn
  go_wp2_with fail
  go_region
  all_goals
   go_wp2_with fail
   try simp only[Exit.inBlock,Exit.then]
   refine bodyPost_ret (results_ctt rfl _ _ w.heap.size 35 _ (0,0) _ rfl (blk_set4 _ _ _ _ (blk_set4 _ _ _ _ HBK.out)).drew Tryz.underlying35 rfl (by kernel_rfl)) rfl ?_
   have hb:Below w.heap.size w w1:=(((Chg.refl (only (w.heap.size+1)) w).alloc _).alloc _ |>.trans C1.out).toBelow (Nat.le_refl _) (λk hk=>by unfold only;omega)
   refine⟨(below_set4 (below_set4 hb _ _ _ _ (Nat.le_refl _)) _ _ _ _ (Nat.le_refl _)).drew,K1,X1,Z1,A1,m1,c1,.slice A2 rn c2,true,rfl,(λh=>by cases h),λ_=>⟨t,r,A2,c2,HO.out,by rw[HRN.out],?_,?_⟩⟩
   ·refine HRD.out.keep (λg hg=>?_) (λg hg=>?_)
    ·refine⟨Nat.le_of_lt hg.1,?_⟩
     rw[heap_drew,size_set4,size_set4]
     exact hg.2
    ·have hne:g≠w.heap.size:=Nat.ne_of_gt hg.1
     rw[heap_drew,heap_set4 _ _ _ _ _ _ _ hne,heap_set4 _ _ _ _ _ _ _ hne]
   ·exact HT2.out.keep (λg hg=>by
     have hne:g≠w.heap.size:=Nat.ne_of_lt (HS.out g hg)
     rw[heap_drew,heap_set4 _ _ _ _ _ _ _ hne,heap_set4 _ _ _ _ _ _ _ hne])
end Go.Proofs.YtmbmjneibkihkaaGreatDoor

namespace Go.Proofs.YtmbmjneibkihkaaGreatDoor
open Go.RowKit Lx Tx
def RdB(w:World)(b:Nat):Prop:=∃A n c,Blk w b 145 #[.slice A n c]
theorem RdB.lt {w:World} {b:Nat}(h:RdB w b):b<w.heap.size:=by obtain⟨A,n,c,h⟩:=h;exact h.lt
theorem RdB.same {w w':World} {b:Nat}(h:RdB w b)(he:w'.heap[b]? = w.heap[b]?):RdB w' b:=by obtain⟨A,n,c,h⟩:=h;exact⟨A,n,c,h.same he⟩
theorem RdrS.rdB {S:Nat->Prop} {w:World} {b:Nat} {l:List Tok}(h:RdrS S w b l):RdB w b:=by
 obtain⟨v,h1,A,c,rfl,-⟩:=h
 exact⟨A,_,c,h1⟩
structure ChR (b:Nat) (w w':World):Prop where
 c:Chg (only b) w w'
 r:RdB w b->RdB w' b
theorem ChR.size {b:Nat} {w w':World}(h:ChR b w w'):w.heap.size<=w'.heap.size:=h.c.size
theorem ChR.block {b:Nat} {w w':World}(h:ChR b w w')(k:Nat)(hk:k<w.heap.size)(hn:¬only b k):w'.heap[k]? = w.heap[k]?:=h.c.block k hk hn
theorem ChR.refl(b:Nat)(w:World):ChR b w w:=⟨Chg.refl _ _,id⟩
theorem ChR.trans {b:Nat} {w w1 w2:World}(h:ChR b w w1)(k:ChR b w1 w2):ChR b w w2:=⟨h.c.trans k.c,λx=>k.r (h.r x)⟩
theorem ChR.of_below {b:Nat} {w w':World}(h:Below w.heap.size w w'):ChR b w w':=⟨Chg.of_below h,λx=>x.same (h.block b x.lt)⟩
theorem ChR.below {b:Nat} {w w1 w2:World}(h:ChR b w w1)(k:Below w1.heap.size w1 w2):ChR b w w2:=h.trans (ChR.of_below k)
theorem ChR.alloc {b:Nat} {w w1:World}(h:ChR b w w1)(o:Obj):ChR b w (w1.alloc o):=h.below ((Below.refl _ _).alloc (Nat.le_refl _) o)
theorem ChR.pre {b:Nat} {w w':World} {o:Obj}(h:ChR b (w.alloc o) w'):ChR b w w':=((ChR.refl b w).alloc o).trans h
theorem ChR.drew {b:Nat} {w w1:World}(h:ChR b w w1):ChR b w w1.drew:=⟨h.c.drew,λx=>(h.r x).same rfl⟩
theorem ChR.setCell {b:Nat} {a w:World}(h:ChR b a w) {p:Addr}(hp:a.heap.size<=p.block\/False)(u:Value):ChR b a (w.setCell p u):=by
 have hp:=hp.resolve_right id
 exact⟨h.c.setCell (.inl hp) u,λx=>(h.r x).same (Below.heap_setCell w p u b (λe=>by have:=x.lt;omega))⟩
theorem ChR.set4 {b:Nat} {w w':World} {g:Nat}(h:ChR b w w')(b0 b1 b2 b3:Value)(hg:w.heap.size<=g) :
  ChR b w ((((w'.setCell ⟨g,0,none⟩ b0).setCell ⟨g,1,none⟩ b1).setCell ⟨g,2,none⟩ b2).setCell ⟨g,3,none⟩ b3) :=
 (((h.setCell (p:=⟨g,0,none⟩) (.inl hg) _).setCell (p:=⟨g,1,none⟩) (.inl hg) _).setCell (p:=⟨g,2,none⟩) (.inl hg) _).setCell (p:=⟨g,3,none⟩) (.inl hg) _
theorem ChR.grown {b:Nat} {a w w':World} {row:Option Nat}(h:ChR b a w)(hg:w.grownBy w' row)(hr:∀k,row=some k->a.heap.size<=k\/False):ChR b a w':=by
 refine⟨h.c.grown hg (λk hk=>.inl ((hr k hk).resolve_right id)),λx=>(h.r x).same (hg.block b (h.r x).lt (λe=>?_))⟩
 have:=(hr b e.symm).resolve_right id
 have:=x.lt
 omega
theorem Blk.chgR {b:Nat} {w w':World} {g:Nat} {t:TypeId} {cs:Array Value}(h:Blk w g t cs)(hc:ChR b w w')(hm:¬only b g):Blk w' g t cs:=h.chg hc.c hm
theorem own_chgR {b B:Nat} {e:TypeId} {size n:Nat} {v:Value} {xs:List Value} {w w':World}(h:w.ownsRow B e size v n xs)(hc:ChR b w w')(hb:b<B):w'.ownsRow B e size v n xs:=own_chg h hc.c hb
theorem ChR.of_rdr {S:Nat->Prop} {b:Nat} {w w':World} {l:List Tok}(h:Chg (only b) w w')(hr:RdrS S w' b l):ChR b w w':=⟨h,λ_=>hr.rdB⟩
end Go.Proofs.YtmbmjneibkihkaaGreatDoor
