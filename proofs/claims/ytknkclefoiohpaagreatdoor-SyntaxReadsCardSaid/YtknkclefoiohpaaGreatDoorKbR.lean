/-
  Contracts of the code's functions, part 18.
-/
import Derived.Test.YtknkclefoiohpaaGreatDoorKbH
import Derived.Test.YtknkclefoiohpaaGreatDoorKbQ
import Derived.Deep.RegionHeld3
import Derived.Deep.LoopGhost
namespace Go.Proofs.YtknkclefoiohpaaGreatDoor
open Go.RowKit Lx Tx
set_option maxRecDepth 100000
def TPost(S:Nat->Prop)(b n:Nat)(w:World)(o:Option (Ty × List Tok))(e:Ending)(w':World):Prop :=
 Chg (only b) w w'/\∃K X Z A m c,
  ((o=none/\e=.returned (.tuple #[.agg #[.int .i64 K,.string X,.int .i64 Z,.slice A m c],.bool false])) \/
   (∃t r,r.length<n/\o=some (t,r)/\e=.returned (.tuple #[.agg #[.int .i64 K,.string X,.int .i64 Z,.slice A m c],.bool true]) /\
    RdV (λg=>w.heap.size<=g/\g<w'.heap.size) w' t (.agg #[.int .i64 K,.string X,.int .i64 Z,.slice A m c])/\Rdr S w' b r))
theorem tpost_none(S:Nat->Prop)(b n:Nat)(w w':World)(o:Option (Ty × List Tok))(e:Ending)(K:Int)(X:ByteArray)(Z:Int)(A:Option Addr)(m c:Nat)(hb:Chg (only b) w w')(ho:o=none)
  (he:e=.returned (.tuple #[.agg #[.int .i64 K,.string X,.int .i64 Z,.slice A m c],.bool false])):TPost S b n w o e w' :=
 ⟨hb,K,X,Z,A,m,c,.inl ⟨ho,he⟩⟩
theorem tpost_some(S:Nat->Prop)(b n:Nat)(w w':World)(o:Option (Ty × List Tok))(e:Ending)(K:Int)(X:ByteArray)(Z:Int)(A:Option Addr)(m c:Nat)(t:Ty)(r:List Tok)(hb:Chg (only b) w w')(hr:r.length<n)(ho:o=some (t,r))
  (he:e=.returned (.tuple #[.agg #[.int .i64 K,.string X,.int .i64 Z,.slice A m c],.bool true]))
  (hv:RdV (λg=>w.heap.size<=g/\g<w'.heap.size) w' t (.agg #[.int .i64 K,.string X,.int .i64 Z,.slice A m c]))(hd:Rdr S w' b r):TPost S b n w o e w' :=
 ⟨hb,K,X,Z,A,m,c,.inr ⟨t,r,hr,ho,he,hv,hd⟩⟩
def Reads(S:Nat->Prop)(b F k:Nat)(rd:Nat->List Tok->Option (Ty × List Tok))(f:Nat):Prop :=
 ∀(w:World) (l:List Tok),Rdr S w b l->(∀g,S g->g≠b/\g<w.heap.size)->AllG l->l.length<=100000->4*l.length+k<=f->Calls Tryz.prog F #[.pointer (some ⟨b,0,none⟩)] w (TPost S b l.length w (rd f l))
def tyZ:Array Value:=#[.int .i64 0,.string ⟨#[]⟩,.int .i64 0,.slice none 0 0]
theorem tc_variable(X:ByteArray)(w:World) :
  Calls Tryz.prog 190 #[.string X] w λe w'=>e=.returned (.agg #[.int .i64 1,.string X,.int .i64 0,.slice none 0 0])/\Below w.heap.size w w':=by
 go_enter Tryz.func190,Tryz.ntmps190
 go_wp2
 exact bodyPost_ret (results_cell_row rfl _ _ w.heap.size 35 _ (0,0) _ rfl (heap_alloc_new _ _) Tryz.underlying35 rfl (by kernel_rfl)) rfl ⟨rfl,(Below.refl _ w).alloc (Nat.le_refl _) _⟩
theorem Chg.pre {M:Nat->Prop} {w w':World} {o:Obj}(h:Chg M (w.alloc o) w'):Chg M w w':=((Chg.refl M w).alloc o).trans h
theorem Chg.set4 {M:Nat->Prop} {w w':World} {g:Nat}(h:Chg M w w')(b0 b1 b2 b3:Value)(hg:w.heap.size<=g) :
  Chg M w ((((w'.setCell ⟨g,0,none⟩ b0).setCell ⟨g,1,none⟩ b1).setCell ⟨g,2,none⟩ b2).setCell ⟨g,3,none⟩ b3) :=
 (((h.setCell (p:=⟨g,0,none⟩) (.inl hg) _).setCell (p:=⟨g,1,none⟩) (.inl hg) _).setCell (p:=⟨g,2,none⟩) (.inl hg) _).setCell (p:=⟨g,3,none⟩) (.inl hg) _
theorem Rdr.set4 {S:Nat->Prop} {w:World} {b g:Nat} {l:List Tok}(h:Rdr S w b l)(b0 b1 b2 b3:Value)(hb:b≠g)(hS:∀k,S k->k≠g) :
  Rdr S ((((w.setCell ⟨g,0,none⟩ b0).setCell ⟨g,1,none⟩ b1).setCell ⟨g,2,none⟩ b2).setCell ⟨g,3,none⟩ b3) b l :=
 h.keep (heap_set4 _ _ _ _ _ _ _ hb) (λk hk=>heap_set4 _ _ _ _ _ _ _ (hS k hk))
theorem RdV.set4 {S:Nat->Prop} {w:World} {g:Nat} {t:Ty} {v:Value}(h:RdV S w t v)(b0 b1 b2 b3:Value)(hS:∀k,S k->k≠g) :
  RdV S ((((w.setCell ⟨g,0,none⟩ b0).setCell ⟨g,1,none⟩ b1).setCell ⟨g,2,none⟩ b2).setCell ⟨g,3,none⟩ b3) t v :=
 h.keep (λ_ h=>h) (λk hk=>heap_set4 _ _ _ _ _ _ _ (hS k hk))
def closed:Option (Ty × List Tok)->Option (Ty × List Tok)
 | none=>none
 | some x=>if isHd x.2 6 [41]=true then some (x.1,x.2.tail) else none
def paren(f:Nat)(l:List Tok):Option (Ty × List Tok):=if isHd l 6 [40]=true then closed (read f l.tail) else none
theorem closed_no(O:Option (Ty × List Tok))(h:O=none):closed O=none:=by rw[h,closed]
theorem closed_yes(O:Option (Ty × List Tok))(t:Ty)(r:List Tok)(h:O=some (t,r)):closed O=if isHd r 6 [41]=true then some (t,r.tail) else none:=by rw[h,closed]
theorem AllG.tail' {l:List Tok}(h:AllG l):AllG l.tail:=by
 cases l with
 | nil=>exact h
 | cons a r=>exact h.tail
theorem isHd_ne(l:List Tok)(k:Nat)(X:List UInt8)(hk:k≠0)(h:isHd l k X=true):∃t r,l=t::r/\t.kind=k/\t.text=X:=by
 cases l with
 | nil=>simp[isHd,hd]at h;exact absurd h.1.symm hk
 | cons t r=>simp[isHd,hd]at h;exact⟨t,r,rfl,h.1,h.2⟩
set_option maxHeartbeats 1600000 in
theorem tc_paren(f:Nat)(S:Nat->Prop)(b:Nat)(l:List Tok)(w:World)(h:Rdr S w b l)(hS:∀g,S g->g≠b/\g<w.heap.size)(hG:AllG l)(hl:l.length<=100000)(hf:4*l.length+2<=f+1)
  (IH:Reads S b 103 4 read f) :
  Calls Tryz.prog 193 #[.pointer (some ⟨b,0,none⟩)] w (TPost S b l.length w (paren f l)):=by
 have hbl:=h.lt
 have hT:=tc_take S b l 6 6 rfl ⟨#[40]⟩ (w.alloc (.cells tyZ 35)) (h.alloc _ (λg hg=>(hS g hg).2)) (λg hg=>⟨(hS g hg).1,by have:=(hS g hg).2;simp;omega⟩) hl (by decide)
 unfold tyZ at hT
 have eb:(⟨#[40]⟩:ByteArray).data.toList=[40]:=rfl
 rw[eb]at hT
 unfold paren
 unfold took at hT
 obtain⟨q,hq⟩:∃q,isHd l 6 [40]=q:=⟨_,rfl⟩
 rw[hq]at hT ⊢
 have HS:=hidE hS
 have HG:=hidE hG
 clear eb h hS hG
 cases q with
 | false =>
  clear hq hf IH HS HG
  simp only[Bool.false_eq_true,if_false]at hT ⊢
  obtain⟨n,hn⟩:∃n,l.length=n:=⟨_,rfl⟩
  rw[hn]at hl ⊢
  clear hn hl
  go_enter Tryz.func193,Tryz.ntmps193
  go_wp2_with fail
  refine hT.mono ?_
  rintro e w1 ⟨rfl,r1,b1⟩
  have hblk:Blk w1 w.heap.size 35 #[.int .i64 0,.string ⟨#[]⟩,.int .i64 0,.slice none 0 0]:=Blk.chg (heap_alloc_new _ _) b1 (by unfold only;omega)
  obtain⟨a0,a1,a2,a3,r0,r1',r2,r3,hlw⟩:=blk_facts4 hblk
  have HBLK:=hidE hblk
  have B1:=hidE b1
  clear hblk b1 r1 hT
  go_wp2_with fail
  try simp only[Exit.inBlock,Exit.then]
  refine bodyPost_ret (results_ct rfl _ _ w.heap.size 35 _ (0,0) _ rfl (blk_set4 _ _ _ _ HBLK.out) Tryz.underlying35 rfl (by kernel_rfl)) rfl ?_
  exact tpost_none S b n w _ _ _ 0 ⟨#[]⟩ 0 none 0 0 (B1.out.pre.set4 _ _ _ _ (Nat.le_refl _)) rfl rfl
 | true =>
  obtain⟨t0,r0,rfl,-,-⟩:=isHd_ne _ _ _ (by decide) hq
  simp only[if_true,List.tail_cons]at hT ⊢
  have HL:Hid (r0.length<=100000/\4*r0.length+4<=f):=hidE (by simp at hl hf;omega)
  rw[List.length_cons]
  obtain⟨n,hn⟩:∃n,r0.length=n:=⟨_,rfl⟩
  have HN:=hidE hn
  rw[hn]
  have HIH:=hidE IH
  clear hq hf hl IH hn
  obtain⟨O,hO⟩:∃O,read f r0=O:=⟨_,rfl⟩
  obtain⟨O2,hO2⟩:∃O2,closed O=O2:=⟨_,rfl⟩
  rw[hO,hO2]
  have HO:=hidE hO
  have HOO:=hidE hO2
  clear hO hO2
  go_enter Tryz.func193,Tryz.ntmps193
  go_wp2_with fail
  refine hT.mono ?_
  rintro e w1 ⟨rfl,r1,b1⟩
  have hblk:Blk w1 w.heap.size 35 #[.int .i64 0,.string ⟨#[]⟩,.int .i64 0,.slice none 0 0]:=Blk.chg (heap_alloc_new _ _) b1 (by unfold only;omega)
  have h1:=b1.size
  simp at h1
  have hS1:∀g,S g->g≠b/\g<w1.heap.size:=λg hg=>by have:=HS.out g hg;omega
  have hC:=HIH.out w1 r0 r1 hS1 (AllG.tail HG.out) HL.out.1 HL.out.2
  rw[HO.out,HN.out]at hC
  have HBLK:=hidE hblk
  have B1:=hidE b1.pre
  have H1:=hidE h1
  have HS1:=hidE hS1
  clear hblk b1 r1 hT h1 hS1
  go_wp2_with fail
  refine hC.mono ?_
  rintro e w2 ⟨b2,K1,X1,Z1,A1,m1,c1,hcases⟩
  have hblk:Blk w2 w.heap.size 35 #[.int .i64 0,.string ⟨#[]⟩,.int .i64 0,.slice none 0 0]:=Blk.chg HBLK.out b2 (by unfold only;omega)
  obtain⟨a0,a1,a2,a3,q0,q1,q2,q3,hlw⟩:=blk_facts4 hblk
  have h2:=b2.size
  have H2:=hidE h2
  have HB2:=hidE hblk
  have B2:=hidE (B1.out.trans b2)
  clear hblk hC h2
  rcases hcases with⟨ho,rfl⟩|⟨t,r,hrl,ho,rfl,hrd,hr⟩
  ·have HO2:=hidE (HOO.out.symm.trans (closed_no O ho))
   clear ho b2
   go_wp2_with fail
   go_region
   all_goals
    go_wp2_with fail
    try simp only[Exit.inBlock,Exit.then]
    refine bodyPost_ret (results_ct rfl _ _ w.heap.size 35 _ (0,0) _ rfl ((blk_set4 _ _ _ _ HB2.out).alloc _).drew Tryz.underlying35 rfl (by kernel_rfl)) rfl ?_
    exact tpost_none S b (n+1) w _ _ _ K1 X1 Z1 A1 m1 c1 (((B2.out.set4 _ _ _ _ (Nat.le_refl _)).alloc _).drew) HO2.out rfl
  ·have hS2:∀g,S g->g≠b/\g<w2.heap.size:=λg hg=>by have:=HS1.out g hg;have:=H2.out;omega
   have hrl2:r.length<=100000:=by have:=HL.out.1;have:=HN.out;omega
   obtain⟨q',hq'⟩:∃q',isHd r 6 [41]=q':=⟨_,rfl⟩
   have HO2:Hid (O2=if q'=true then some (t,r.tail) else none):=hidE (HOO.out.symm.trans ((closed_yes O t r ho).trans (by rw[hq'])))
   have hbn:b≠w2.heap.size:=by have:=hr.lt;omega
   have SOF:Hid (∀W,Blk W w2.heap.size 35 #[.int .i64 K1,.string X1,.int .i64 Z1,.slice A1 m1 c1] ->
     (W.cell? ⟨w2.heap.size,0,none⟩=some (.int .i64 K1)/\W.cell? ⟨w2.heap.size,1,none⟩=some (.string X1)/\W.cell? ⟨w2.heap.size,2,none⟩=some (.int .i64 Z1)/\W.cell? ⟨w2.heap.size,3,none⟩=some (.slice A1 m1 c1))) :=
    hidE λW hbk=>⟨hbk.cell 0,hbk.cell 1,hbk.cell 2,hbk.cell 3⟩
   have BKX:Hid (∀W,Chg (only b) (w2.alloc (.cells #[.int .i64 K1,.string X1,.int .i64 Z1,.slice A1 m1 c1] 35)) W->Blk W w2.heap.size 35 #[.int .i64 K1,.string X1,.int .i64 Z1,.slice A1 m1 c1]) :=
    hidE λW hW=>Blk.chg (heap_alloc_new _ _) hW (by unfold only;omega)
   have hne:w2.heap.size≠w.heap.size:=by omega
   have HRL:=hidE hrl
   have HRD:=hidE hrd
   have HC2:Hid (∀W,Rdr S W b r->w2.heap.size<=W.heap.size->Calls Tryz.prog 136 #[.pointer (some ⟨b,0,none⟩),.int .i64 6,.string ⟨#[41]⟩] W λe w'=>e=.returned (.bool q')/\Rdr S w' b (if q'=true then r.tail else r)/\Chg (only b) W w'):=by
    refine hidE λW hR hsz=>?_
    have:=tc_take S b r 6 6 rfl ⟨#[41]⟩ W hR (λg hg=>by have:=hS2 g hg;omega) hrl2 (by decide)
    have eb:(⟨#[41]⟩:ByteArray).data.toList=[41]:=rfl
    rw[eb,took,hq']at this
    exact this
   have R4:Hid (Rdr S (w2.alloc (.cells #[.int .i64 K1,.string X1,.int .i64 Z1,.slice A1 m1 c1] 35)).drew b r):=hidE (hr.alloc _ (λg hg=>(hS2 g hg).2))
   have B4:Hid (Chg (only b) (w2.alloc (.cells #[.int .i64 K1,.string X1,.int .i64 Z1,.slice A1 m1 c1] 35)) (w2.alloc (.cells #[.int .i64 K1,.string X1,.int .i64 Z1,.slice A1 m1 c1] 35)).drew):=hidE (Chg.refl _ _).drew
   have RES:Hid (∀W,Chg (only b) (w2.alloc (.cells #[.int .i64 K1,.string X1,.int .i64 Z1,.slice A1 m1 c1] 35)) W->Blk W w.heap.size 35 #[.int .i64 0,.string ⟨#[]⟩,.int .i64 0,.slice none 0 0]) :=
    hidE λW hW=>(HB2.out.alloc _).chg hW (by unfold only;omega)
   have hnt:∀(x:Bool) (w:World),(Op.unary .not (.bool x)).run Tryz.prog w=.ok (.bool (!x)) w:=λ_ _=>rfl
   obtain⟨x0,x1,x2,x3⟩:=SOF.out _ (BKX.out _ (Chg.refl _ _))
   clear hr hrd hS2 hrl2 hq' hrl ho b2
   cases q'
   all_goals
    go_wp2_with fail
    go_region_held3 (λW=>W.cell? ⟨w2.heap.size,0,none⟩=some (.int .i64 K1)/\W.cell? ⟨w2.heap.size,1,none⟩=some (.string X1)/\W.cell? ⟨w2.heap.size,2,none⟩=some (.int .i64 Z1)/\W.cell? ⟨w2.heap.size,3,none⟩=some (.slice A1 m1 c1)) (first|(with_reducible exact SOF.out _ (BKX.out _ B4.out))|(with_reducible exact SOF.out _ (BKX.out _ B5.out))|(with_reducible exact SOF.out _ (blk_far4 hne (BKX.out _ B5.out)))) (((with_reducible refine(HC2.out _ R4.out (by simp)).mono ?_);rintro e w5 ⟨rfl,r5,b5⟩;have B5:=hidE (B4.out.trans b5);have R5:=hidE r5;obtain⟨z0,z1,z2,z3,y0,y1,y2,y3,hlz⟩:=blk_facts4 (RES.out _ B5.out);clear b5 r5))
   ·go_wp2_with fail
    try simp only[Exit.inBlock,Exit.then]
    refine bodyPost_ret (results_ct rfl _ _ w.heap.size 35 _ (0,0) _ rfl (blk_set4 _ _ _ _ (RES.out _ B5.out)) Tryz.underlying35 rfl (by kernel_rfl)) rfl ?_
    exact tpost_none S b (n+1) w _ _ _ K1 X1 Z1 A1 m1 c1 ((((B2.out.alloc _).trans B5.out)).set4 _ _ _ _ (Nat.le_refl _)) HO2.out rfl
   ·go_wp2_with fail
    try simp only[Exit.inBlock,Exit.then]
    refine bodyPost_ret (results_ct rfl _ _ w.heap.size 35 _ (0,0) _ rfl (blk_set4 _ _ _ _ (RES.out _ B5.out)) Tryz.underlying35 rfl (by kernel_rfl)) rfl ?_
    have h5:=B5.out.size
    have h1:=H1.out
    have h2:=H2.out
    have hrl:=HRL.out
    simp at h5
    refine tpost_some S b (n+1) w _ _ _ K1 X1 Z1 A1 m1 c1 t r.tail ((((B2.out.alloc _).trans B5.out)).set4 _ _ _ _ (Nat.le_refl _)) (by simp;omega) HO2.out rfl ?_ (R5.out.set4 _ _ _ _ (by omega) (λk hk=>by have:=HS.out k hk;omega))
    have hv:RdV (λg=>w1.heap.size<=g/\g<w2.heap.size) w5 t (.agg #[.int .i64 K1,.string X1,.int .i64 Z1,.slice A1 m1 c1]) :=
     HRD.out.keep (λ_ h=>h) (λg hg=>(B5.out.block g (by simp;omega) (by unfold only;omega)).trans (Below.heap_alloc _ _ _ hg.2))
    exact(hv.set4 _ _ _ _ (λk hk=>by omega)).keep (λg hg=>by simp;omega) (λ_ _=>rfl)
end Go.Proofs.YtknkclefoiohpaaGreatDoor

namespace Go.Proofs.YtknkclefoiohpaaGreatDoor
open Go.RowKit Lx Tx
set_option maxRecDepth 100000
theorem good_meta2(t:Tok)(h:Lx.Good t)(hk:t.kind=5):∃ds,t.text=63::ds/\ds≠[]:=by
 obtain⟨h1,h2,_⟩:=h
 rw[hk]at h2
 cases hx:t.text with
 | nil=>exact absurd hx h1
 | cons c r =>
  rw[hx]at h2
  rw[first]at h2
  split at h2
  ·exfalso
   unfold word at h2
   split at h2
   ·injection h2 with a _;omega
   ·injection h2 with a _
    unfold wordKind at a
    split at a
    ·omega
    ·split at a <;> omega
  ·split at h2
   ·exfalso
    rcases number_cases (c::r) with e|⟨e,_,_⟩ <;> rw[e]at h2 <;> injection h2 with a _ <;> omega
   ·split at h2
    ·rename_i hc
     subst hc
     refine⟨r,rfl,λhr=>?_⟩
     subst hr
     unfold meta_ at h2
     split at h2
     ·injection h2 with a _;omega
     ·rename_i hn
      exact hn (by decide)
    ·exfalso
     unfold sign at h2
     split at h2
     ·injection h2 with a _;omega
     ·split at h2
      ·injection h2 with a _;omega
      ·injection h2 with a _;omega
theorem decFrom_digits(l:List UInt8):∀acc,(∀d∈l,isDig d=true)->Lib.decFrom acc l=some (l.foldl (λn c=>10*n+(c.toNat-48)) acc):=by
 induction l with
 | nil=>intro acc _;rfl
 | cons a r ih =>
  intro acc h
  have ha:=h a List.mem_cons_self
  have hd:Lib.digitVal a=some (a.toNat-48):=by
   unfold Lib.digitVal
   unfold isDig at ha
   simp at ha
   rw[if_pos ha]
  rw[Lib.decFrom,hd,List.foldl_cons]
  simp only
  rw[ih _ (λd hd=>h d (List.mem_cons_of_mem _ hd)),Nat.mul_comm acc 10]
theorem atoi_digits(l:List UInt8)(h0:l≠[])(h:∀d∈l,isDig d=true):Lib.atoi l=some (numOf l:Nat):=by
 cases l with
 | nil=>exact absurd rfl h0
 | cons a r =>
  have ha:=h a List.mem_cons_self
  unfold isDig at ha
  simp at ha
  have h1:(a==45)=false:=by rw[beq_eq_false_iff_ne];rintro rfl;exact absurd ha.1 (by decide)
  have h2:(a==43)=false:=by rw[beq_eq_false_iff_ne];rintro rfl;exact absurd ha.1 (by decide)
  rw[Lib.atoi,h1,h2]
  simp only[Bool.false_eq_true,if_false]
  rw[Lib.decNat]
  simp only[List.isEmpty_cons,Bool.false_eq_true,if_false]
  rw[decFrom_digits _ 0 h]
  rfl
theorem below_bytesWorld(w:World)(t:ByteArray):Below w.heap.size w (Lib.bytesWorld w 5 t):=by
 unfold Lib.bytesWorld
 exact Lib.below_freeze (((Below.refl _ w).drew).alloc (Nat.le_refl _) _) (p:=⟨w.heap.size,_,none⟩) (Nat.le_refl _) _
theorem closed_eat(o:Option (Ty × List Tok)):closed o=match o with|none=>none|some (x,r2)=>(eat (isSign · [41]) r2).map λr3=>(x,r3):=by
 cases o with
 | none=>rfl
 | some y =>
  obtain⟨x,r2⟩:=y
  rw[closed]
  cases r2 with
  | nil=>simp[isHd,hd,eat]
  | cons t r =>
   show(if(t.kind==6&&t.text==[41])=true then some (x,r) else none)=(if(t.kind==6&&t.text==[41])=true then some r else none).map λr3=>(x,r3)
   cases (t.kind==6&&t.text==[41]) <;> rfl
theorem good_paren(t:Tok)(h:Lx.Good t)(hx:t.text=[40]):t.kind=6:=by
 have h2:=h.2.1
 rw[hx]at h2
 have:first [40]=(6,1):=by decide
 rw[this]at h2
 injection h2 with a _
 exact a.symm
theorem atom_eq(f:Nat)(l:List Tok)(hG:AllG l):atom (f+1) l=if(hd l).kind=1 then some (.var (hd l).text,l.tail) else if(hd l).kind=2 then some (.con (hd l).text [],l.tail) else
  if(hd l).kind=5 then some (.mt (numOf ((hd l).text.drop 1)),l.tail) else paren f l:=by
 cases l with
 | nil=>rw[atom];simp[hd,paren,isHd]
 | cons t r =>
  show atom (f+1) (t::r)=if t.kind=1 then some (.var t.text,r) else if t.kind=2 then some (.con t.text [],r) else if t.kind=5 then some (.mt (numOf (t.text.drop 1)),r) else paren f (t::r)
  rw[atom]
  by_cases k1:t.kind=1
  ·rw[if_pos k1,if_pos k1]
  ·rw[if_neg k1,if_neg k1]
   by_cases k2:t.kind=2
   ·rw[if_pos k2,if_pos k2]
   ·rw[if_neg k2,if_neg k2]
    by_cases k5:t.kind=5
    ·rw[if_pos k5,if_pos k5]
    ·rw[if_neg k5,if_neg k5]
     unfold paren
     rw[closed_eat]
     show _=if(t.kind==6&&t.text==[40])=true then(match read f r with|none=>none|some (x,r2)=>(eat (isSign · [41]) r2).map λr3=>(x,r3)) else none
     by_cases hx:t.text=[40]
     ·rw[if_pos hx,if_pos (by rw[hx,good_paren t (hG t List.mem_cons_self) hx];rfl)]
      cases read f r with
      | none=>rfl
      | some y=>rfl
     ·rw[if_neg hx,if_neg (by simp[hx])]
theorem hd_cons {l:List Tok}(h:(hd l).kind≠0):∃r,l=hd l::r/\l.tail=r:=by
 cases l with
 | nil=>exact absurd rfl h
 | cons t r=>exact⟨r,rfl,rfl⟩
structure AnyK (S:Nat->Prop) (b m n:Nat) (l r:List Tok) (X:ByteArray):Prop where
 yes:∀(K:Int) (w1:World),K=m->m≠0->Rdr S w1 b l->(∀g,S g->g≠b/\g<w1.heap.size)->Calls Tryz.prog 162 #[.pointer (some ⟨b,0,none⟩),.int .i64 K] w1 λe w'=>e=.returned (.tuple #[.string X,.bool true])/\Rdr S w' b r/\Chg (only b) w1 w'/\r.length<n
 no:∀(K:Int) (k:Nat) (w1:World),K=k->k≠0->m≠k->Rdr S w1 b l->(∀g,S g->g≠b/\g<w1.heap.size)->Calls Tryz.prog 162 #[.pointer (some ⟨b,0,none⟩),.int .i64 K] w1 λe w'=>e=.returned (.tuple #[.string ⟨#[]⟩,.bool false])/\Rdr S w' b l/\Chg (only b) w1 w'
theorem anyK(S:Nat->Prop)(b m n:Nat)(l r:List Tok)(X:ByteArray)(hl:l.length<=100000)(hm:(hd l).kind=m)(hX:(⟨(hd l).text.toArray⟩:ByteArray)=X)(hn:l.length=n)(hr:l.tail=r):AnyK S b m n l r X:=by
 subst hm hX hn hr
 refine⟨λK w1 hK h0 h hS=>?_,λK k w1 hK h0 hne h hS=>?_⟩
 ·refine(tc_takeAny S b l _ K hK w1 h hS hl h0).mono ?_
  rintro e w' ⟨rfl,h2,h3⟩
  unfold anyR at h2
  rw[if_pos rfl]at h2
  refine⟨by unfold anyT;rw[if_pos rfl];simp,h2,h3,?_⟩
  obtain⟨r,e1,e2⟩:=hd_cons h0
  rw[e2,e1];simp
 ·refine(tc_takeAny S b l k K hK w1 h hS hl h0).mono ?_
  rintro e w' ⟨rfl,h2,h3⟩
  unfold anyR at h2
  rw[if_neg hne]at h2
  exact⟨by unfold anyT;rw[if_neg hne,beq_eq_false_iff_ne.2 hne],h2,h3⟩
theorem key_chg {b:Nat} {S:Nat->Prop} {w w1:World} {cs:Array Value} {t:TypeId}(hbl:b<w.heap.size)(hS:∀g,S g->g≠b/\g<w.heap.size)(c:Chg (only b) (w.alloc (.cells cs t)) w1) :
  (∀g,S g->g≠b/\g<w1.heap.size)/\Blk w1 w.heap.size t cs/\Chg (only b) w w1:=by
 have hs:=c.size
 simp at hs
 exact⟨λg hg=>by have:=hS g hg;omega,Blk.chg (heap_alloc_new _ _) c (by unfold only;omega),c.pre⟩
set_option maxHeartbeats 1600000 in
theorem tc_atom(f:Nat)(S:Nat->Prop)(b:Nat)(l:List Tok)(w:World)(h:Rdr S w b l)(hS:∀g,S g->g≠b/\g<w.heap.size)(hG:AllG l)(hl:l.length<=100000)(hf:4*l.length+2<=f+1)
  (IH:Reads S b 103 4 read f) :
  Calls Tryz.prog 174 #[.pointer (some ⟨b,0,none⟩)] w (TPost S b l.length w (atom (f+1) l)):=by
 have hbl:=h.lt
 rw[atom_eq f l hG]
 have R0:=hidE (h.alloc (.cells tyZ 35) (λg hg=>(hS g hg).2))
 have S0:Hid (∀g,S g->g≠b/\g<(w.alloc (.cells tyZ 35)).heap.size):=hidE λg hg=>⟨(hS g hg).1,by have:=(hS g hg).2;simp;omega⟩
 have KEY:=hidE (λ(w1:World) (c:Chg (only b) (w.alloc (.cells tyZ 35)) w1)=>key_chg hbl hS c)
 unfold tyZ at R0 S0 KEY
 obtain⟨m,hm⟩:∃m,(hd l).kind=m:=⟨_,rfl⟩
 obtain⟨X,hX⟩:∃X:ByteArray,⟨(hd l).text.toArray⟩=X:=⟨_,rfl⟩
 have hX':(hd l).text=X.data.toList:=by rw[<-hX]
 obtain⟨n,hn⟩:∃n,l.length=n:=⟨_,rfl⟩
 obtain⟨r,hr⟩:∃r,l.tail=r:=⟨_,rfl⟩
 have TK:=hidE (anyK S b m n l r X hl hm hX hn hr)
 have HG:Hid (m=5->∃ds,X.data.toList=63::ds/\ds≠[]/\(∀d∈ds,isDig d=true)/\ds.length<=6):=by
  refine hidE λh5=>?_
  obtain⟨r,e1,_⟩:=hd_cons (by rw[hm,h5];decide)
  have hg:=hG (hd l) (by rw[e1];simp[hd])
  obtain⟨ds,d1,d2⟩:=good_meta2 _ hg (by rw[hm,h5])
  obtain⟨g1,g2,_⟩:=good_meta _ hg (by rw[hm,h5])
  rw[d1]at g1 g2
  exact⟨ds,by rw[<-hX',d1],d2,g1,g2⟩
 have PAR:Hid (∀w1,Rdr S w1 b l->(∀g,S g->g≠b/\g<w1.heap.size)->Calls Tryz.prog 193 #[.pointer (some ⟨b,0,none⟩)] w1 (TPost S b l.length w1 (paren f l))) :=
  hidE λw1 hr hs=>tc_paren f S b l w1 hr hs hG hl hf IH
 have HS:=hidE hS
 rw[hn]at PAR ⊢
 rw[hm,hX',hr]
 obtain⟨O,hO⟩:∃O,paren f l=O:=⟨_,rfl⟩
 rw[hO]at PAR ⊢
 clear h hS hG hl hf IH hm hX hX' hn hr hO
 by_cases k1:m=1
 ·subst k1
  rw[if_pos rfl]
  go_enter Tryz.func174,Tryz.ntmps174
  go_wp2_with fail
  refine(TK.out.yes 1 _ rfl (by decide) R0.out S0.out).mono ?_
  rintro e w2 ⟨rfl,hr2,b2,hlt⟩
  obtain⟨hs2,hbk,hc2⟩:=KEY.out w2 b2
  obtain⟨a0,a1,a2,a3,q0,q1,q2,q3,hlw⟩:=blk_facts4 hbk
  have HB2:=hidE hbk
  have HR2:=hidE hr2
  have C2:=hidE hc2
  have HLT:=hidE hlt
  have HS2:=hidE hs2
  clear hbk hr2 b2 hlt hs2 hc2
  go_wp2_with fail
  refine(tc_variable X w2).mono ?_
  rintro e w3 ⟨rfl,b3⟩
  have hbk:=HB2.out.below b3 hlw
  obtain⟨a0,a1,a2,a3,q0,q1,q2,q3,hlw3⟩:=blk_facts4 hbk
  have HB3:=hidE hbk
  have B3:=hidE b3
  clear hbk b3
  go_wp2_with fail
  try simp only[Exit.inBlock,Exit.then]
  refine bodyPost_ret (results_ct rfl _ _ w.heap.size 35 _ (0,0) _ rfl (blk_set4 _ _ _ _ HB3.out) Tryz.underlying35 rfl (by kernel_rfl)) rfl ?_
  exact tpost_some S b n w _ _ _ 1 X 0 none 0 0 (.var X.data.toList) r ((C2.out.below B3.out).set4 _ _ _ _ (Nat.le_refl _)) HLT.out rfl rfl ⟨none,0,rfl,by rw[Args];trivial⟩
   ((HR2.out.below B3.out (λg hg=>(HS2.out g hg).2)).set4 _ _ _ _ (by omega) (λk hk=>by have:=HS.out k hk;omega))
 ·rw[if_neg k1]
  have NO1:=hidE (TK.out.no 1 1 _ rfl (by decide) k1 R0.out S0.out)
  by_cases k2:m=2
  ·subst k2
   rw[if_pos rfl]
   go_enter Tryz.func174,Tryz.ntmps174
   go_wp2_with fail
   refine NO1.out.mono ?_
   rintro e w1 ⟨rfl,hr1,b1⟩
   obtain⟨hs1,-,-⟩:=KEY.out w1 b1
   have HR1:=hidE hr1
   have HS1:=hidE hs1
   have B1:=hidE b1
   clear NO1 b1 hr1 hs1
   go_wp2_with fail
   refine(TK.out.yes 2 _ rfl (by decide) HR1.out HS1.out).mono ?_
   rintro e w2 ⟨rfl,hr2,b2,hlt⟩
   obtain⟨hs2,hbk,hc2⟩:=KEY.out w2 (B1.out.trans b2)
   obtain⟨a0,a1,a2,a3,q0,q1,q2,q3,hlw⟩:=blk_facts4 hbk
   have HB2:=hidE hbk
   have HR2:=hidE hr2
   have C2:=hidE hc2
   have HLT:=hidE hlt
   have HS2:=hidE hs2
   clear hbk hr2 b2 hlt hs2 hc2
   go_wp2_with fail
   try simp only[Exit.inBlock,Exit.then]
   refine bodyPost_ret (results_ct rfl _ _ w.heap.size 35 _ (0,0) _ rfl (blk_set4 _ _ _ _ HB2.out) Tryz.underlying35 rfl (by kernel_rfl)) rfl ?_
   exact tpost_some S b n w _ _ _ 3 X 0 none 0 0 (.con X.data.toList []) r (C2.out.set4 _ _ _ _ (Nat.le_refl _)) HLT.out rfl rfl ⟨none,0,rfl,by rw[Args];intro h;exact absurd rfl h⟩
    (HR2.out.set4 _ _ _ _ (by omega) (λk hk=>by have:=HS.out k hk;omega))
  ·rw[if_neg k2]
   have K2:=hidE k2
   by_cases k5:m=5
   ·subst k5
    rw[if_pos rfl]
    obtain⟨ds,g1,g2,g3,g4⟩:=HG.out rfl
    have hX1:(⟨(Lib.trimPrefix X.data.toList [63]).toArray⟩:ByteArray)=⟨ds.toArray⟩:=by rw[g1];rfl
    have hTP:=λw=>Tryz.strings_TrimPrefix X ⟨#[63]⟩ w
    have eb:(⟨#[63]⟩:ByteArray).data.toList=[63]:=rfl
    rw[eb,hX1]at hTP
    have hds:(⟨ds.toArray⟩:ByteArray).data.toList=ds:=rfl
    have hAT:=λw=>Tryz.strconv_Atoi ⟨ds.toArray⟩ (numOf ds:Nat) (by rw[Lib.size_eq,hds];omega) (by rw[hds];exact atoi_digits ds g2 g3) w
    have hnum:numOf (X.data.toList.drop 1)=numOf ds:=by rw[g1];rfl
    obtain⟨N,hNn⟩:∃N,numOf ds=N:=⟨_,rfl⟩
    rw[hnum,hNn]
    rw[hNn]at hAT
    obtain⟨D,hD⟩:∃D:ByteArray,⟨ds.toArray⟩=D:=⟨_,rfl⟩
    rw[hD]at hTP hAT
    clear eb hX1 hds hnum hNn hD g1 g2 g3 g4
    go_enter Tryz.func174,Tryz.ntmps174
    go_wp2_with fail
    refine NO1.out.mono ?_
    rintro e w1 ⟨rfl,hr1,b1⟩
    obtain⟨hs1,-,-⟩:=KEY.out w1 b1
    have HR1:=hidE hr1
    have HS1:=hidE hs1
    have B1:=hidE b1
    clear NO1 b1 hr1 hs1
    go_wp2_with fail
    refine(TK.out.no 2 2 _ rfl (by decide) (by decide) HR1.out HS1.out).mono ?_
    rintro e w11 ⟨rfl,hr1,b1⟩
    obtain⟨hs1,-,-⟩:=KEY.out w11 (B1.out.trans b1)
    replace HR1:=hidE hr1
    replace HS1:=hidE hs1
    replace B1:=hidE (B1.out.trans b1)
    clear b1 hr1 hs1
    go_wp2_with fail
    refine(TK.out.yes 5 _ rfl (by decide) HR1.out HS1.out).mono ?_
    rintro e w2 ⟨rfl,hr2,b2,hlt⟩
    obtain⟨hs2,hbk,hc2⟩:=KEY.out w2 (B1.out.trans b2)
    obtain⟨a0,a1,a2,a3,q0,q1,q2,q3,hlw⟩:=blk_facts4 hbk
    have HB2:=hidE hbk
    have HR2:=hidE hr2
    have C2:=hidE hc2
    have HLT:=hidE hlt
    have HS2:=hidE hs2
    clear hbk hr2 b2 hlt hs2 hc2
    go_wp2_with fail
    refine(hTP w2).mono ?_
    rintro e w3 ⟨rfl,rfl⟩
    go_wp2_with fail
    refine(hAT w3).mono ?_
    rintro e w4 ⟨rfl,tt,rfl⟩
    have hbb:=below_bytesWorld w3 tt
    have hbk:=HB2.out.below hbb hlw
    obtain⟨W,hW⟩:∃W,Lib.bytesWorld w3 5 tt=W:=⟨_,rfl⟩
    rw[hW]at hbk hbb ⊢
    obtain⟨a0,a1,a2,a3,q0,q1,q2,q3,hlw3⟩:=blk_facts4 hbk
    have HB3:=hidE hbk
    have B3:=hidE hbb
    clear hbk hbb hW
    go_wp2_with fail
    go_region
    all_goals
     go_wp2_with fail
     try simp only[Exit.inBlock,Exit.then]
     refine bodyPost_ret (results_ct rfl _ _ w.heap.size 35 _ (0,0) _ rfl (blk_set4 _ _ _ _ HB3.out).drew Tryz.underlying35 rfl (by kernel_rfl)) rfl ?_
     exact tpost_some S b n w _ _ _ 2 ⟨#[]⟩ (N:Nat) none 0 0 (.mt N) r (((C2.out.below B3.out).set4 _ _ _ _ (Nat.le_refl _)).drew) HLT.out rfl rfl ⟨none,0,rfl,by rw[Args];trivial⟩
      ((HR2.out.below B3.out (λg hg=>(HS2.out g hg).2)).set4 _ _ _ _ (by omega) (λk hk=>by have:=HS.out k hk;omega))
   ·rw[if_neg k5]
    have K5:=hidE k5
    go_enter Tryz.func174,Tryz.ntmps174
    go_wp2_with fail
    refine NO1.out.mono ?_
    rintro e w1 ⟨rfl,hr1,b1⟩
    obtain⟨hs1,-,-⟩:=KEY.out w1 b1
    have HR1:=hidE hr1
    have HS1:=hidE hs1
    have B1:=hidE b1
    clear NO1 b1 hr1 hs1
    go_wp2_with fail
    refine(TK.out.no 2 2 _ rfl (by decide) K2.out HR1.out HS1.out).mono ?_
    rintro e w11 ⟨rfl,hr1,b1⟩
    obtain⟨hs1,-,-⟩:=KEY.out w11 (B1.out.trans b1)
    replace HR1:=hidE hr1
    replace HS1:=hidE hs1
    replace B1:=hidE (B1.out.trans b1)
    clear b1 hr1 hs1
    go_wp2_with fail
    refine(TK.out.no 5 5 _ rfl (by decide) K5.out HR1.out HS1.out).mono ?_
    rintro e w12 ⟨rfl,hr1,b1⟩
    obtain⟨hs1,hbk,hc1⟩:=KEY.out w12 (B1.out.trans b1)
    replace HR1:=hidE hr1
    replace HS1:=hidE hs1
    have HB:=hidE hbk
    have BEL:=hidE hc1
    clear b1 hr1 hs1 hbk hc1 B1
    go_wp2_with fail
    refine(PAR.out w12 HR1.out HS1.out).mono ?_
    rintro e w2 ⟨b2,K1,X1,Z1,A1,m1,c1,hcases⟩
    have hbk:=HB.out.chg b2 (by unfold only;omega)
    obtain⟨a0,a1,a2,a3,q0,q1,q2,q3,hlw2⟩:=blk_facts4 hbk
    have HB2:=hidE hbk
    have C2:=hidE (BEL.out.trans b2)
    have h1:=BEL.out.size
    have h1':=HB.out.lt
    have H1:=hidE h1
    have H1':=hidE h1'
    clear hbk b2 h1 h1'
    rcases hcases with⟨ho,rfl⟩|⟨t,r',hrl,ho,rfl,hrd,hr⟩
    ·have HO:=hidE ho
     clear ho
     go_wp2_with fail
     try simp only[Exit.inBlock,Exit.then]
     refine bodyPost_ret (results_ct rfl _ _ w.heap.size 35 _ (0,0) _ rfl (blk_set4 _ _ _ _ HB2.out) Tryz.underlying35 rfl (by kernel_rfl)) rfl ?_
     exact tpost_none S b n w _ _ _ K1 X1 Z1 A1 m1 c1 (C2.out.set4 _ _ _ _ (Nat.le_refl _)) HO.out rfl
    ·have HO:=hidE ho
     have HRD:=hidE hrd
     have HR2:=hidE hr
     have HRL:=hidE hrl
     clear ho hrd hr hrl
     go_wp2_with fail
     try simp only[Exit.inBlock,Exit.then]
     refine bodyPost_ret (results_ct rfl _ _ w.heap.size 35 _ (0,0) _ rfl (blk_set4 _ _ _ _ HB2.out) Tryz.underlying35 rfl (by kernel_rfl)) rfl ?_
     refine tpost_some S b n w _ _ _ K1 X1 Z1 A1 m1 c1 t r' (C2.out.set4 _ _ _ _ (Nat.le_refl _)) HRL.out HO.out rfl ?_ (HR2.out.set4 _ _ _ _ (by omega) (λk hk=>by have:=HS.out k hk;omega))
     have h1:=H1'.out
     exact(HRD.out.set4 _ _ _ _ (λk hk=>by omega)).keep (λg hg=>by have:=H1.out;simp;omega) (λ_ _=>rfl)
end Go.Proofs.YtknkclefoiohpaaGreatDoor

namespace Go.Proofs.YtknkclefoiohpaaGreatDoor
open Go.RowKit Lx Tx
set_option maxRecDepth 100000
theorem ty_info:(Tryz.prog.info? 35).map (λi=>(i.zero,i.size,i.bytes))=some (some (.agg #[.int .i64 0,.string ⟨#[]⟩,.int .i64 0,.slice none 0 0]),4,56):=by kernel_rfl
def atomB:List Tok->Bool
 | []=>false
 | t::_=>atomic t
theorem atomB_eq(l:List Tok)(hG:AllG l):atomB l=((hd l).kind==1 ||(hd l).kind==5 ||(hd l).kind==2||isHd l 6 [40]):=by
 cases l with
 | nil=>rfl
 | cons t r =>
  show(t.kind==1||t.kind==5||t.kind==2||t.text==[40])=(t.kind==1||t.kind==5||t.kind==2 ||(t.kind==6&&t.text==[40]))
  by_cases hx:t.text=[40]
  ·rw[good_paren t (hG t List.mem_cons_self) hx];rfl
  ·rw[beq_eq_false_iff_ne.2 hx,Bool.and_false]
set_option maxHeartbeats 800000 in
theorem tc_atAtom(S:Nat->Prop)(b:Nat)(l:List Tok)(w:World)(h:Rdr S w b l)(hS:∀g,S g->g<w.heap.size)(hG:AllG l)(hl:l.length<=100000) :
  Calls Tryz.prog 175 #[.pointer (some ⟨b,0,none⟩)] w λe w'=>e=.returned (.bool (atomB l))/\Below w.heap.size w w':=by
 have hN:=tc_next S b l w h hl
 have HA:Hid (∀w1,Below w.heap.size w w1->Calls Tryz.prog 168 #[.pointer (some ⟨b,0,none⟩),.int .i64 6,.string ⟨#[40]⟩] w1 λe w'=>e=.returned (.bool (isHd l 6 [40]))/\Below w1.heap.size w1 w') :=
  hidE λw1 b1=>tc_at S b l 6 6 rfl ⟨#[40]⟩ w1 (h.below b1 hS) hl
 unfold tokA at hN
 rw[atomB_eq l hG]
 obtain⟨m,hm⟩:∃m,(hd l).kind=m:=⟨_,rfl⟩
 obtain⟨X,hX⟩:∃X:ByteArray,⟨(hd l).text.toArray⟩=X:=⟨_,rfl⟩
 obtain⟨a,ha⟩:∃a,(hd l).at_=a:=⟨_,rfl⟩
 obtain⟨q,hq⟩:∃q,isHd l 6 [40]=q:=⟨_,rfl⟩
 rw[hm,hX,ha]at hN
 rw[hq]at HA
 rw[hm,hq]
 have hfl:=run_kind
 clear h hS hG hl hm hX ha hq
 by_cases k1:m=1
 ·subst k1
  go_enter Tryz.func175,Tryz.ntmps175
  go_wp2_with (go_at_call 172;refine hN.mono ?_;rintro e w1 ⟨rfl,b1⟩)
  go_ret
  exact⟨rfl,b1⟩
 ·have d1:=neq_int m 1 1 rfl k1
  have n1:=beq_eq_false_iff_ne.2 k1
  by_cases k5:m=5
  ·subst k5
   go_enter Tryz.func175,Tryz.ntmps175
   go_wp2_with (go_at_call 172;refine hN.mono ?_;rintro e w1 ⟨rfl,b1⟩)
   go_ret
   exact⟨rfl,b1⟩
  ·have d5:=neq_int m 5 5 rfl k5
   have n5:=beq_eq_false_iff_ne.2 k5
   by_cases k2:m=2
   ·subst k2
    go_enter Tryz.func175,Tryz.ntmps175
    go_wp2_with (go_at_call 172;refine hN.mono ?_;rintro e w1 ⟨rfl,b1⟩)
    go_ret
    exact⟨rfl,b1⟩
   ·have d2:=neq_int m 2 2 rfl k2
    have n2:=beq_eq_false_iff_ne.2 k2
    rw[n1,n2,n5]
    clear n1 n2 n5 k1 k2 k5
    go_enter Tryz.func175,Tryz.ntmps175
    go_wp2_with fail
    refine hN.mono ?_
    rintro e w1 ⟨rfl,b1⟩
    have B1:=hidE b1
    clear b1
    go_wp2_with fail
    refine(HA.out w1 B1.out).mono ?_
    rintro e w2 ⟨rfl,b2⟩
    go_wp2_with fail
    go_ret
    exact⟨rfl,B1.out.trans (b2.mono B1.out.size)⟩
theorem grown_of_chg {b:Nat} {w w':World}(h:Chg (only b) w w'):w.grownBy w' (some b):=⟨h.os,h.tape,h.output,h.size,λi hi hne=>h.block i hi (λe=>hne (by rw[show i=b from e]))⟩
theorem own_chg {b B:Nat} {e:TypeId} {size n:Nat} {v:Value} {xs:List Value} {w w':World}(h:w.ownsRow B e size v n xs)(hc:Chg (only b) w w')(hb:b<B):w'.ownsRow B e size v n xs :=
 h.kept (grown_of_chg hc) (.inr (λe=>by have:=(h.lt b e).1;omega))
theorem Built.nextC {b B:Nat} {e:TypeId} {w w1 w2 w3:World} {l:List Ty} {x:Ty} {v v':Value} {vs:List Value} {k z:Int} {s:ByteArray} {A:Option Addr} {m c:Nat}
  (hb:b<B)(hB:B<=w.heap.size)(hown:w.ownsRow B e 4 v l.length vs)(hrow:TyRow (λg=>(False\/B<=g/\g<w.heap.size)/\some g≠v.ownBlock) w l vs)
  (b1:Chg (only b) w w1)(hr:RdV (λg=>w.heap.size<=g/\g<w1.heap.size) w1 x (.agg #[.int .i64 k,.string s,.int .i64 z,.slice A m c]))(b2:Below w1.heap.size w1 w2)
  (ho:w3.ownsRow B e 4 v' (l.length+1) (vs++[.int .i64 k,.string s,.int .i64 z,.slice A m c]))(hg:w2.grownBy w3 v.ownBlock)(hat:v'.ownBlock=v.ownBlock\/v'.ownBlock=some w2.heap.size) :
  Built (λ_=>False) B e w3 (l++[x]) v':=by
 obtain⟨A',c',hv,ha⟩:=hr
 injection hv with hv
 have hv:=congrArg Array.toList hv
 simp only[List.cons.injEq,Value.int.injEq,Value.string.injEq,Value.slice.injEq,and_true,true_and]at hv
 obtain⟨rfl,rfl,rfl,rfl,rfl,rfl⟩:=hv
 have hlt:=hown.lt
 have s1:=b1.size
 have s2:=b2.size
 have hk:∀g,g<w.heap.size->g≠b->w2.heap[g]? = w.heap[g]?:=λg hg hne=>(b2.block g (by omega)).trans (b1.block g hg hne)
 refine Built.snoc (w:=w2) (c:=c) (λ_ h=>h.elim) (by omega) (TyRow.keep (λg h=>?_) (λg h=>?_) l vs hrow) (Args.keep (λg h=>?_) (λg h=>?_) x A ha) ho hg hat
 ·refine⟨?_,h.2⟩
  rcases h.1 with h1|h1
  ·exact h1.elim
  ·exact .inr ⟨h1.1,by omega⟩
 ·rcases h.1 with h1|h1
  ·exact h1.elim
  ·exact hk g h1.2 (by omega)
 ·refine⟨.inr ⟨by omega,by omega⟩,λe=>?_⟩
  have:=hlt _ e.symm
  omega
 ·exact b2.block g (by omega)
theorem args_no(f:Nat)(l:List Tok)(h:atomB l=true)(ho:atom f l=none):args (f+1) l=none:=by
 cases l with
 | nil=>simp[atomB]at h
 | cons t r=>rw[args];rw[atomB]at h;simp only[h,if_true,ho]
theorem args_yes(f:Nat)(l:List Tok)(h:atomB l=true)(x:Ty)(r:List Tok)(ho:atom f l=some (x,r)):args (f+1) l=(args f r).map λy=>(x::y.1,y.2):=by
 cases l with
 | nil=>simp[atomB]at h
 | cons t r=>rw[args];rw[atomB]at h;simp only[h,if_true,ho]
theorem args_end(f:Nat)(l:List Tok)(h:atomB l=false):args (f+1) l=some ([],l):=by
 cases l with
 | nil=>rw[args]
 | cons t r=>rw[args];rw[atomB]at h;simp only[h,Bool.false_eq_true,if_false]
def HeadP(S:Nat->Prop)(b f g4:Nat)(X:ByteArray)(r0:List Tok)(w:World)(gg:Nat)(wr:World):Prop :=
 ∃l f' done v',gg=l.length/\Rdr S wr b l/\(∀g,S g->g≠b/\g<wr.heap.size)/\AllG l/\l.length<=r0.length/\4*l.length+3<=f'/\f'<=f/\Hid (args f r0=(args f' l).map λy=>(done++y.1,y.2))/\done.length+l.length<=r0.length /\
  Built (λ_=>False) (g4+1) 35 wr done v'/\Blk wr g4 35 #[.int .i64 3,.string X,.int .i64 0,v'] /\
  Blk wr w.heap.size 35 tyZ/\Chg (only b) w wr
set_option maxHeartbeats 1600000 in
theorem tc_app(f:Nat)(S:Nat->Prop)(b:Nat)(l:List Tok)(w:World)(h:Rdr S w b l)(hS:∀g,S g->g≠b/\g<w.heap.size)(hG:AllG l)(hl:l.length<=100000)(hf:4*l.length+3<=f+1)
  (IH:∀f1,f1<=f->Reads S b 174 2 atom f1) :
  Calls Tryz.prog 148 #[.pointer (some ⟨b,0,none⟩)] w (TPost S b l.length w (app (f+1) l)):=by
 have hbl:=h.lt
 have R0:=hidE (h.alloc (.cells tyZ 35) (λg hg=>(hS g hg).2))
 have S0:Hid (∀g,S g->g≠b/\g<(w.alloc (.cells tyZ 35)).heap.size):=hidE λg hg=>⟨(hS g hg).1,by have:=(hS g hg).2;simp;omega⟩
 have KEY:=hidE (λ(w1:World) (c:Chg (only b) (w.alloc (.cells tyZ 35)) w1)=>key_chg hbl hS c)
 unfold tyZ at R0 S0 KEY
 obtain⟨m,hm⟩:∃m,(hd l).kind=m:=⟨_,rfl⟩
 obtain⟨X,hX⟩:∃X:ByteArray,⟨(hd l).text.toArray⟩=X:=⟨_,rfl⟩
 have hX':(hd l).text=X.data.toList:=by rw[<-hX]
 by_cases k2:m=2
 ·subst k2
  obtain⟨r0,e1,e2⟩:=hd_cons (by rw[hm];decide)
  have HO:Hid (app (f+1) l=(args f r0).map λx=>(.con X.data.toList x.1,x.2)):=by
   refine hidE ?_
   rw[e1,app,if_pos hm,hX']
  rw[HO.out]
  have TK:=hidE ((anyK S b 2 _ l r0 X hl hm hX rfl e2).yes 2 _ rfl (by decide) R0.out S0.out)
  have hlen:l.length=r0.length+1:=by rw[e1];rfl
  have hG0:AllG r0:=λt ht=>hG t (by rw[e1];exact List.mem_cons_of_mem _ ht)
  rw[hlen]at hl hf TK ⊢
  obtain⟨i0,hi0,hz0,hz1,hz2⟩:=info_parts ty_info
  have HG0:=hidE hG0
  have HIH:=hidE IH
  have HS:=hidE hS
  clear HO hlen e1 e2 hm hX hX' hG0 IH hG h hS
  go_enter Tryz.func148,Tryz.ntmps148
  go_wp2_with fail
  refine TK.out.mono ?_
  rintro e w2 ⟨rfl,hr2,b2,-⟩
  obtain⟨hs2,hbk,hc2⟩:=KEY.out w2 b2
  have HB2:=hidE hbk
  have HR2:=hidE hr2
  have C2:=hidE hc2
  have HS2:=hidE hs2
  have hlw:=hbk.lt
  clear hbk hr2 b2 hs2 hc2 TK KEY R0 S0
  go_wp2_with fail
  go_loopg [8] r0.length (λgg v wr=>HeadP S b f w2.heap.size X r0 w gg wr)
  case atStart =>
   refine⟨r0,f,[],.slice none 0 0,rfl,HR2.out.alloc _ (λg hg=>(HS2.out g hg).2),λg hg=>by have:=HS2.out g hg;simp;omega,HG0.out,Nat.le_refl _,by omega,Nat.le_refl _,hidE (by simp),by simp,Built.nil _ _ _ _,heap_alloc_new _ _,HB2.out.alloc _,C2.out.alloc _⟩
  case round =>
   obtain⟨l',f',done,v',rfl,hr,hS',hG',hle,hf1,hf2,hargs,hdl,hbuilt,hb1,hb0,hc⟩:=hrel
   obtain⟨f1,rfl⟩:∃f1,f'=f1+1:=⟨f'-1,by omega⟩
   have hAt:=tc_atAtom S b l' wr hr (λg hg=>(hS' g hg).2) hG' (by omega)
   obtain⟨q,hq⟩:∃q,atomB l'=q:=⟨_,rfl⟩
   rw[hq]at hAt
   have HQ:=hidE hq
   obtain⟨vs,hown,hrow⟩:=hbuilt
   obtain⟨A0,c0,rfl⟩:=own_shape hown
   obtain⟨n',hn'⟩:∃n',l'.length=n':=⟨_,rfl⟩
   have HN':=hidE hn'
   rw[hn']at hle hf1 hdl
   have HR:=hidE hr
   have HS':=hidE hS'
   have HG':=hidE hG'
   have HOWN:=hidE hown
   have HROW:=hidE hrow
   have HB1:=hidE hb1
   have HB0:=hidE hb0
   have HC:=hidE hc
   have hlx:=hb1.lt
   have hbr:=hr.lt
   clear hq hn' hr hS' hG' hown hrow hb1 hb0 hc
   cases q with
   | false =>
    have HO2:=hidE (hargs.out.trans (congrArg (Option.map λy:List Ty × List Tok=>(done++y.1,y.2)) (args_end f1 l' HQ.out)))
    go_wp2_with fail
    refine hAt.mono ?_
    rintro e w3 ⟨rfl,b3⟩
    have hb1:=HB1.out.below b3 hlx
    have hb0:=HB0.out.below b3 (by omega)
    obtain⟨p0,p1,p2,p3,s0,s1,s2,s3,hlp⟩:=blk_facts4 hb1
    obtain⟨a0,a1,a2,a3,q0,q1,q2,q3,hlq⟩:=blk_facts4 hb0
    have HB13:=hidE hb1
    have HB03:=hidE hb0
    have B3:=hidE b3
    clear hb1 hb0 b3 hAt hargs
    go_wp2_with fail
    try simp only[Exit.inBlock,Exit.then]
    refine bodyPost_ret (results_ct rfl _ _ w.heap.size 35 _ (0,0) _ rfl (blk_set4 _ _ _ _ HB03.out) Tryz.underlying35 rfl (by kernel_rfl)) rfl ?_
    have hbuilt:Built (λ_=>False) (w2.heap.size+1) 35 wr done (.slice A0 done.length c0):=⟨vs,HOWN.out,HROW.out⟩
    have hargs2:=Built.args (t:=.con X.data.toList done) (hbuilt.below (λ_ h=>h.elim) B3.out)
    have hsz:=HC.out.size
    have hsz3:=B3.out.size
    refine tpost_some S b (r0.length+1) w _ _ _ 3 X 0 A0 done.length c0 (.con X.data.toList done) l' ((HC.out.below B3.out).set4 _ _ _ _ (Nat.le_refl _)) (by rw[HN'.out];omega) (by rw[HO2.out];simp) rfl ?_
     ((HR.out.below B3.out (λg hg=>(HS'.out g hg).2)).set4 _ _ _ _ (by omega) (λk hk=>by have:=HS.out k hk;omega))
    exact RdV.keep (S:=λg=>w2.heap.size+1<=g/\g<w3.heap.size) (w:=w3) ⟨A0,c0,rfl,hargs2.2.keep (λg hg=>by simpa using hg) (λ_ _=>rfl)⟩ (λg hg=>by simp;omega) (λg hg=>heap_set4 _ _ _ _ _ _ _ (by omega))
   | true =>
    have hC:Hid (∀w3,Below wr.heap.size wr w3->Calls Tryz.prog 174 #[.pointer (some ⟨b,0,none⟩)] w3 (TPost S b n' w3 (atom f1 l'))):=by
     refine hidE λw3 b3=>?_
     have:=HIH.out f1 (by omega) w3 l' (HR.out.below b3 (λg hg=>(HS'.out g hg).2)) (λg hg=>by have:=HS'.out g hg;have:=b3.size;omega) HG'.out (by rw[HN'.out];omega) (by rw[HN'.out];omega)
     rwa [HN'.out]at this
    go_wp2_with fail
    refine hAt.mono ?_
    rintro e w3 ⟨rfl,b3⟩
    have B3:=hidE b3
    clear b3 hAt
    go_wp2_with fail
    refine(hC.out w3 B3.out).mono ?_
    rintro e w4 ⟨b4,K1,X1,Z1,A1,m1,c1,hcases⟩
    have hsz3:=B3.out.size
    have hb1:=(HB1.out.below B3.out hlx).chg b4 (by unfold only;omega)
    have hb0:=(HB0.out.below B3.out (by omega)).chg b4 (by unfold only;omega)
    obtain⟨p0,p1,p2,p3,s0,s1,s2,s3,hlp⟩:=blk_facts4 hb1
    obtain⟨a0,a1,a2,a3,q0,q1,q2,q3,hlq⟩:=blk_facts4 hb0
    have HB14:=hidE hb1
    have HB04:=hidE hb0
    have B4:=hidE b4
    clear hb1 hb0 b4 hC
    rcases hcases with⟨ho,rfl⟩|⟨t,r,hrl,ho,rfl,hrd,hr⟩
    ·have HO2:=hidE (hargs.out.trans (congrArg (Option.map λy:List Ty × List Tok=>(done++y.1,y.2)) (args_no f1 l' HQ.out ho)))
     clear ho hargs
     go_wp2_with fail
     try simp only[Exit.inBlock,Exit.then]
     refine bodyPost_ret (results_ct rfl _ _ w.heap.size 35 _ (0,0) _ rfl ((blk_set4 _ _ _ _ HB04.out).alloc _) Tryz.underlying35 rfl (by kernel_rfl)) rfl ?_
     exact tpost_none S b (r0.length+1) w _ _ _ 0 ⟨#[]⟩ 0 none 0 0 ((((HC.out.below B3.out).trans B4.out).set4 _ _ _ _ (Nat.le_refl _)).alloc _) (by rw[HO2.out];rfl) rfl
    ·have HO2:=hidE (app_step (hargs.out.trans (congrArg (Option.map λy:List Ty × List Tok=>(done++y.1,y.2)) (args_yes f1 l' HQ.out t r ho))))
     have HRD:=hidE hrd
     have HR4:=hidE hr
     have HRL:=hidE hrl
     have HGR:Hid (AllG r):=hidE ((read_nm f1).2.2.2 l' t r HG'.out ho).2.1
     clear ho hargs hrd hr hrl
     have hown4:=own_chg (own_below HOWN.out B3.out) B4.out (by omega)
     have HLT:=hidE hown4.lt
     have hown2:=hidE ((hown4.alloc (.cells #[.int .i64 K1,.string X1,.int .i64 Z1,.slice A1 m1 c1] 35)).alloc (.cells #[.int .i64 K1,.string X1,.int .i64 Z1,.slice A1 m1 c1] 35))
     clear hown4
     go_wp2_with (at_builtin;refine wpList_append_own_at _ rfl (.tmp 35) (.tmp 37) 33 rfl (w2.heap.size+1) 35 i0 _ 4 56 Tryz.underlying33 hi0 hz0 hz1 hz2 rfl (by decide) _ done.length vs rfl hown2.out ⟨w4.heap.size+1,0,none⟩ 1 1 [.int .i64 K1,.string X1,.int .i64 Z1,.slice A1 m1 c1] rfl rfl (new_cells' _ _ _ _ (by simp)) (by intro u hu;simp at hu;rcases hu with rfl|rfl|rfl|rfl <;> rfl) (by unfold maxLen;omega) (by omega) (by have:=B4.out.size;have:=B3.out.size;simp;omega) ?_;intro v2 w5 hown3 hgrow _ hat3;obtain⟨A2,c2,rfl⟩:=own_shape hown3;have HO3:=hidE hown3;have HG3:=hidE hgrow;have HT3:=hidE hat3;clear hown3 hgrow hat3;have hc1:=((HB14.out.alloc _).alloc _).grown HG3.out (λe=>by have:=HLT.out _ e.symm;omega);have hc0:=((HB04.out.alloc _).alloc _).grown HG3.out (λe=>by have:=HLT.out _ e.symm;omega);obtain⟨y0,y1,y2,y3,z0,z1,z2,z3,hly⟩:=blk_facts4 hc1;have HD1:=hidE hc1;have HD0:=hidE hc0;clear hc1 hc0)
     go_roundg r.length
     case measure=>have:=HRL.out;have:=HN'.out;omega
     case rel =>
      have hsz4:=B4.out.size
      have hrl:=HRL.out
      have hb:=Built.nextC (w:=w3) (w1:=w4) (b:=b) (by omega) (by omega) (own_below HOWN.out B3.out) (TyRow.keep (λg hg=>⟨hg.1.elim (λh=>.inl h) (λh=>.inr ⟨h.1,by omega⟩),hg.2⟩) (λg hg=>B3.out.block g (hg.1.elim (λh=>h.elim) (λh=>h.2))) done vs HROW.out) B4.out HRD.out (((Below.refl _ w4).alloc (Nat.le_refl _) _).alloc (by simp) _) HO3.out HG3.out HT3.out
      have hlx2:w2.heap.size<w4.heap.size:=by omega
      have hszw:=HC.out.size
      have hs5:=HG3.out.size
      simp at hs5
      have c5:Chg (only b) w w5:=((((HC.out.below B3.out).trans B4.out).alloc _).alloc _).grown HG3.out (λj hj=>.inl (by have:=HLT.out _ hj;omega))
      have hk5:∀k,k<w2.heap.size->w5.heap[k]? = w4.heap[k]?:=λk hk=>(HG3.out.block k (by simp;omega) (λe=>by have:=HLT.out _ e.symm;omega)).trans ((Below.heap_alloc _ _ _ (by simp;omega)).trans (Below.heap_alloc _ _ _ (by omega)))
      refine⟨r,f1,done++[t],_,rfl,HR4.out.keep ((Below.heap_setCell _ _ _ _ (by simp;omega)).trans (hk5 b (by omega))) (λg hg=>(Below.heap_setCell _ _ _ _ (by have:=HS.out g hg;simp;omega)).trans (hk5 g (by have:=HS.out g hg;omega))),λg hg=>by have:=HS.out g hg;simp;omega,?_,by omega,by omega,by omega,HO2,by simp;omega,
       hb.setCell _ (by simp) (λh=>h),heap_setCell_same _ _ 3 _ _ _ HD1.out,HD0.out.far (by simp;omega) _,c5.setCell (.inl (by simp;omega)) _⟩
      exact HGR.out
 ·have TK:=hidE ((anyK S b m _ l _ X hl hm hX rfl rfl).no 2 2 _ rfl (by decide) k2 R0.out S0.out)
  obtain⟨f',rfl⟩:∃f',f=f'+1:=⟨f-1,by omega⟩
  have HO:Hid (app (f'+1+1) l=atom (f'+1) l):=by
   refine hidE ?_
   cases l with
   | nil=>rw[app,atom]
   | cons t r=>rw[app,if_neg (by show ¬t.kind=2;have e:t.kind=m:=hm;omega)]
  rw[HO.out]
  have hAT:Hid (∀w1,Rdr S w1 b l->(∀g,S g->g≠b/\g<w1.heap.size)->Calls Tryz.prog 174 #[.pointer (some ⟨b,0,none⟩)] w1 (TPost S b l.length w1 (atom (f'+1) l))) :=
   hidE λw1 hr hs=>IH (f'+1) (Nat.le_refl _) w1 l hr hs hG hl (by omega)
  obtain⟨n,hn⟩:∃n,l.length=n:=⟨_,rfl⟩
  obtain⟨O,hO⟩:∃O,atom (f'+1) l=O:=⟨_,rfl⟩
  have HS:=hidE hS
  rw[hn,hO]at hAT
  rw[hn,hO]
  clear h hS hG hl hf IH hm hX hX' hn hO HO k2 R0 S0
  go_enter Tryz.func148,Tryz.ntmps148
  go_wp2_with fail
  refine TK.out.mono ?_
  rintro e w1 ⟨rfl,hr1,b1⟩
  obtain⟨hS1,hbk,bel⟩:=KEY.out w1 b1
  have hlw:=hbk.lt
  have HR1:=hidE hr1
  have HS1:=hidE hS1
  have HB:=hidE hbk
  have BEL:=hidE bel
  clear TK b1 hr1 hS1 hbk bel
  go_wp2_with fail
  refine(hAT.out w1 HR1.out HS1.out).mono ?_
  rintro e w2 ⟨b2,K1,X1,Z1,A1,m1,c1,hcases⟩
  have hbk:=HB.out.chg b2 (by unfold only;omega)
  obtain⟨a0,a1,a2,a3,q0,q1,q2,q3,hlw2⟩:=blk_facts4 hbk
  have HB2:=hidE hbk
  have C2:=hidE (BEL.out.trans b2)
  have h1:=BEL.out.size
  have H1:=hidE h1
  clear hbk b2 h1
  rcases hcases with⟨ho,rfl⟩|⟨t,r',hrl,ho,rfl,hrd,hr⟩
  ·have HO:=hidE ho
   clear ho
   go_wp2_with fail
   try simp only[Exit.inBlock,Exit.then]
   refine bodyPost_ret (results_ct rfl _ _ w.heap.size 35 _ (0,0) _ rfl (blk_set4 _ _ _ _ HB2.out) Tryz.underlying35 rfl (by kernel_rfl)) rfl ?_
   exact tpost_none S b n w _ _ _ K1 X1 Z1 A1 m1 c1 (C2.out.set4 _ _ _ _ (Nat.le_refl _)) HO.out rfl
  ·have HO:=hidE ho
   have HRD:=hidE hrd
   have HR2:=hidE hr
   have HRL:=hidE hrl
   clear ho hrd hr hrl
   go_wp2_with fail
   try simp only[Exit.inBlock,Exit.then]
   refine bodyPost_ret (results_ct rfl _ _ w.heap.size 35 _ (0,0) _ rfl (blk_set4 _ _ _ _ HB2.out) Tryz.underlying35 rfl (by kernel_rfl)) rfl ?_
   refine tpost_some S b n w _ _ _ K1 X1 Z1 A1 m1 c1 t r' (C2.out.set4 _ _ _ _ (Nat.le_refl _)) HRL.out HO.out rfl ?_ (HR2.out.set4 _ _ _ _ (by omega) (λk hk=>by have:=HS.out k hk;omega))
   have h1:=H1.out
   exact(HRD.out.set4 _ _ _ _ (λk hk=>by omega)).keep (λg hg=>by simp;omega) (λ_ _=>rfl)
end Go.Proofs.YtknkclefoiohpaaGreatDoor

namespace Go.Proofs.YtknkclefoiohpaaGreatDoor
open Go.RowKit Lx Tx
set_option maxRecDepth 100000
theorem tpost_out {S:Nat->Prop} {b n:Nat} {w w':World} {o:Option (Ty × List Tok)} {e:Ending}(h:TPost S b n w o e w') :
  Chg (only b) w w'/\∃K X Z A m c q,e=.returned (.tuple #[.agg #[.int .i64 K,.string X,.int .i64 Z,.slice A m c],.bool q])/\(q=false->o=none) /\
   (q=true->∃t r,r.length<n/\o=some (t,r)/\RdV (λg=>w.heap.size<=g/\g<w'.heap.size) w' t (.agg #[.int .i64 K,.string X,.int .i64 Z,.slice A m c])/\Rdr S w' b r):=by
 obtain⟨h1,K,X,Z,A,m,c,h2⟩:=h
 refine⟨h1,K,X,Z,A,m,c,?_⟩
 rcases h2 with⟨h2,h3⟩|⟨t,r,h2,h3,h4,h5,h6⟩
 ·exact⟨false,h3,(λ_=>h2),(λh=>by cases h)⟩
 ·exact⟨true,h4,(λh=>by cases h),λ_=>⟨t,r,h2,h3,h5,h6⟩⟩
def fallD(f:Nat)(V:List (List UInt8))(l:List Tok):Option (Ty × List Tok) :=
 if V=[] then none else if isHd l 6 [46]=true then(read f l.tail).map λx=>(alls V x.1,x.2) else none
def fall(f:Nat)(l:List Tok):Option (Ty × List Tok):=fallD f (vars l).1 (vars l).2
theorem vars_yes(l:List Tok)(h:(hd l).kind=1):vars l=((hd l).text::(vars l.tail).1,(vars l.tail).2):=by
 cases l with
 | nil=>simp[hd]at h
 | cons t r=>exact(by rw[vars,if_pos (show t.kind=1 from h)]:vars (t::r)=(t.text::(vars r).1,(vars r).2))
theorem vars_no(l:List Tok)(h:¬(hd l).kind=1):vars l=([],l):=by
 cases l with
 | nil=>rfl
 | cons t r=>rw[vars,if_neg (show ¬t.kind=1 from h)]
theorem tc_var(S:Nat->Prop)(b:Nat)(l:List Tok)(w:World)(h:Rdr S w b l)(hS:∀g,S g->g≠b/\g<w.heap.size)(hG:AllG l)(hl:l.length<=100000) :
  Calls Tryz.prog 162 #[.pointer (some ⟨b,0,none⟩),.int .i64 1] w λe w'=>∃X q l2,e=.returned (.tuple #[.string X,.bool q])/\Rdr S w' b l2/\AllG l2/\l2.length+q.toNat=l.length /\
   vars l=(match q with|true=>(X.data.toList::(vars l2).1,(vars l2).2)|false=>([],l2))/\Chg (only b) w w':=by
 refine(tc_takeAny S b l 1 1 rfl w h hS hl (by decide)).mono ?_
 rintro e w' ⟨rfl,h2,h3⟩
 refine⟨_,_,anyR l 1,rfl,h2,?_,?_,?_,h3⟩
 ·unfold anyR
  split
  ·exact AllG.tail' hG
  ·exact hG
 ·by_cases hk:(hd l).kind=1
  ·obtain⟨r,e1,e2⟩:=hd_cons (by rw[hk];decide)
   rw[beq_iff_eq.2 hk,anyR,if_pos hk,e2,e1];rfl
  ·rw[beq_eq_false_iff_ne.2 hk,anyR,if_neg hk];rfl
 ·by_cases hk:(hd l).kind=1
  ·rw[beq_iff_eq.2 hk,anyR,if_pos hk,anyT,if_pos hk];exact vars_yes l hk
  ·rw[beq_eq_false_iff_ne.2 hk,anyR,if_neg hk];exact vars_no l hk
def vcons(done:List (List UInt8))(X:ByteArray)(q:Bool)(l:List Tok):List (List UInt8) × List Tok:=match q with|true=>(done++X.data.toList::(vars l).1,(vars l).2)|false=>(done,l)
def HeadV(S:Nat->Prop)(b:Nat)(r0:List Tok)(w:World)(gg:Nat)(v vx vq:Value)(wr:World):Prop :=
 ∃l done X q,gg=l.length+q.toNat/\vx=.string X/\vq=.bool q/\Rdr S wr b l/\(∀g,S g->g≠b/\g<wr.heap.size)/\AllG l/\l.length+done.length+q.toNat<=r0.length/\Hid (vars r0=vcons done X q l) /\
  wr.ownsRow (w.heap.size+1) 9 1 v done.length (strV done)/\Blk wr w.heap.size 35 tyZ/\Chg (only b) w wr
def HeadW(b9:Nat)(V:List (List UInt8))(o:Option Ty)(w w3:World)(gg:Nat)(vj:Value)(wr:World):Prop :=
 ∃j K X Z A m c,gg=j/\vj=.int .i64 ((j:Int)-1)/\j<=V.length/\Blk wr b9 35 #[.int .i64 K,.string X,.int .i64 Z,.slice A m c]/\Below b9 w3 wr/\b9<wr.heap.size /\
  ∀t0,o=some t0->RdV (λg=>w.heap.size<g/\g<wr.heap.size/\g≠b9) wr (alls (V.drop j) t0) (.agg #[.int .i64 K,.string X,.int .i64 Z,.slice A m c])
theorem str_info:(Tryz.prog.info? 9).map (λi=>(i.zero,i.size,i.bytes))=some (some (.string ⟨#[]⟩),1,16):=by kernel_rfl
set_option maxHeartbeats 1600000 in
theorem tc_forAll(f:Nat)(S:Nat->Prop)(b:Nat)(l:List Tok)(w:World)(h:Rdr S w b l)(hS:∀g,S g->g≠b/\g<w.heap.size)(hG:AllG l)(hl:l.length<=100000)(hf:4*l.length+4<=f)
  (IH:Reads S b 103 4 read f) :
  Calls Tryz.prog 147 #[.pointer (some ⟨b,0,none⟩)] w (TPost S b l.length w (fall f l)):=by
 have hbl:=h.lt
 obtain⟨i0,hi0,hz0,hz1,hz2⟩:=info_parts str_info
 have H:=hidE h
 have HS:=hidE hS
 have HG:=hidE hG
 have HIH:=hidE IH
 obtain⟨O,hO⟩:∃O,fall f l=O:=⟨_,rfl⟩
 have HFO:=hidE hO
 obtain⟨L,hL⟩:∃L,l.length=L:=⟨_,rfl⟩
 have HL:=hidE hL
 rw[hO,hL]
 rw[hL]at hl hf
 clear h hS hG IH hO hL
 go_enter Tryz.func147,Tryz.ntmps147
 go_wp2_with fail
 refine(tc_var S b l _ (H.out.alloc (.cells tyZ 35) (λg hg=>(HS.out g hg).2)) (λg hg=>by have:=HS.out g hg;simp;omega) HG.out (by rw[HL.out];exact hl)).mono ?_
 rintro e w1 ⟨X1,q1,l1,rfl,hr1,hG1,hlen1,hv1,b1⟩
 have hs1:=b1.size
 simp at hs1
 have HH:Hid (HeadV S b l w L (.slice none 0 0) (.string X1) (.bool q1) w1):=hidE ⟨l1,[],X1,q1,by rw[hlen1,HL.out],rfl,rfl,hr1,λg hg=>by have:=HS.out g hg;omega,hG1,by simp;omega,hidE (by rw[hv1];cases q1 <;> rfl),World.ownsRow_nil _ _ _ _,Blk.chg (heap_alloc_new w _) b1 (by unfold only;omega),b1.pre⟩
 clear hr1 hG1 hlen1 hv1 b1
 go_wp2_with fail
 go_loopg [4,5,6] L (λgg v vx vq wr=>HeadV S b l w gg v vx vq wr)
 case atStart=>exact HH.out
 case round =>
  obtain⟨l',done,X,q,rfl,rfl,rfl,hr,hS',hG',hle,hvars,hown,hb0,hc⟩:=hrel
  have hlw:=hb0.lt
  have hbr:=hr.lt
  obtain⟨A0,c0,rfl⟩:=own_shape hown
  rw[HL.out]at hle
  have HR:=hidE hr
  have HS':=hidE hS'
  have HG':=hidE hG'
  have HB0:=hidE hb0
  have HC:=hidE hc
  clear hr hS' hG' hb0 hc HH
  cases q with
  | true =>
   have HV:Hid (vars l=(done++X.data.toList::(vars l').1,(vars l').2)):=hidE hvars.out
   have hle':l'.length+done.length+1<=L:=hle
   have HLT:=hidE hown.lt
   have HOWN2:=hidE (hown.alloc (.cells #[.string X] 9))
   clear hown hvars hle
   go_wp2_with (at_builtin;refine wpList_append_own_at _ rfl (.tmp 25) (.tmp 27) 56 rfl (w.heap.size+1) 9 i0 _ 1 16 Tryz.underlying56 hi0 hz0 hz1 hz2 rfl (by decide) _ done.length (strV done) rfl HOWN2.out ⟨wr.heap.size,0,none⟩ 1 1 [.string X] rfl rfl (new_cells' _ _ _ _ rfl) (by intro u hu;simp at hu;subst hu;rfl) (by unfold maxLen;omega) (by omega) (by simp;omega) ?_;intro v2 w5 hown3 hgrow _ hat3;obtain⟨A2,c2,rfl⟩:=own_shape hown3;have HO3:=hidE hown3;have HG3:=hidE hgrow;have HT3:=hidE hat3;clear hown3 hgrow hat3)
   have hs5:=HG3.out.size
   simp at hs5
   have HK5:Hid (∀k,k<w.heap.size+1->w5.heap[k]? = wr.heap[k]?):=hidE λk hk=>(HG3.out.block k (by simp;omega) (λe=>by have:=HLT.out _ e.symm;omega)).trans (Below.heap_alloc _ _ _ (by omega))
   refine(tc_var S b l' w5 (HR.out.keep (HK5.out b (by omega)) (λg hg=>HK5.out g (by have:=HS.out g hg;omega))) (λg hg=>by have:=HS'.out g hg;omega) HG'.out (by omega)).mono ?_
   rintro e w6 ⟨X2,q2,l2,rfl,hr2,hG2,hlen2,hv2,b6⟩
   have hs6:=b6.size
   have hq2:l2.length+q2.toNat<l'.length+true.toNat:=by show _<l'.length+1;omega
   have HR2:=hidE hr2
   have HG2:=hidE hG2
   have HLEN2:=hidE hlen2
   have HV2:=hidE hv2
   have B6:=hidE b6
   clear hr2 hG2 hlen2 hv2 b6
   go_wp2_with fail
   go_roundg (l2.length+q2.toNat)
   case measure=>exact hq2
   case rel =>
    have hlen2:=HLEN2.out
    refine⟨l2,done++[X.data.toList],X2,q2,rfl,rfl,rfl,HR2.out,λg hg=>by have:=HS'.out g hg;omega,HG2.out,by rw[HL.out];simp;omega,hidE ?_,?_,(HB0.out.same (HK5.out _ (by omega))).chg B6.out (by unfold only;omega),((HC.out.alloc _).grown HG3.out (λj hj=>.inl (by have:=HLT.out _ hj;omega))).trans B6.out⟩
    ·rw[HV.out,HV2.out]
     cases q2 <;> simp[vcons]
    ·rw[List.length_append,show strV (done++[X.data.toList])=strV done++[.string X] by simp[strV]]
     exact own_chg HO3.out B6.out (by omega)
  | false =>
   have HV:Hid (vars l=(done,l')):=hidE hvars.out
   replace hle:l'.length+done.length<=L:=by have:l'.length+done.length+false.toNat<=L:=hle;simpa using this
   have HOWN:=hidE hown
   obtain⟨n,hn⟩:∃n,done.length=n:=⟨_,rfl⟩
   have HNL:=hidE hn
   rw[hn]at hle
   have HOWN':Hid (wr.ownsRow (w.heap.size+1) 9 1 (.slice A0 n c0) n (strV done)):=by rw[hn]at HOWN;exact HOWN
   have HO:Hid (O=fallD f done l'):=hidE (by rw[<-HFO.out,fall,HV.out])
   clear hvars hn HOWN hown
   rw[HNL.out]
   by_cases hn0:n=0
   ·subst hn0
    have HO2:Hid (O=none):=hidE (by rw[HO.out,fallD,if_pos (List.length_eq_zero_iff.1 HNL.out)])
    have hb:=HB0.out
    unfold tyZ at hb
    obtain⟨a0,a1,a2,a3,q0,q1,q2,q3,hlw1⟩:=blk_facts4 hb
    have HB1:=hidE hb
    have C1:=HC
    clear hb
    go_wp2_with fail
    try simp only[Exit.inBlock,Exit.then]
    refine bodyPost_ret (results_ct rfl _ _ w.heap.size 35 _ (0,0) _ rfl (blk_set4 _ _ _ _ HB1.out) Tryz.underlying35 rfl (by kernel_rfl)) rfl ?_
    exact tpost_none S b L w _ _ _ 0 ⟨#[]⟩ 0 none 0 0 (C1.out.set4 _ _ _ _ (Nat.le_refl _)) HO2.out rfl
   ·have dn:((n:Int)==0)=false:=neq_int n 0 0 rfl hn0
    have hne:done≠[]:=λe=>hn0 (by rw[<-HNL.out,e];rfl)
    obtain⟨q,hq⟩:∃q,isHd l' 6 [46]=q:=⟨_,rfl⟩
    have hTK:Hid (∀w1,Below wr.heap.size wr w1->Calls Tryz.prog 136 #[.pointer (some ⟨b,0,none⟩),.int .i64 6,.string ⟨#[46]⟩] w1 λe w'=>e=.returned (.bool q)/\Rdr S w' b (if q=true then l'.tail else l')/\Chg (only b) w1 w'):=by
     refine hidE λw1 b1=>?_
     have:=tc_take S b l' 6 6 rfl ⟨#[46]⟩ w1 (HR.out.below b1 (λg hg=>(HS'.out g hg).2)) (λg hg=>by have:=HS'.out g hg;have:=b1.size;omega) (by omega) (by decide)
     have eb:(⟨#[46]⟩:ByteArray).data.toList=[46]:=rfl
     rw[eb,took,hq]at this
     exact this
    have HQ:=hidE hq
    clear hq
    have HB1:=HB0
    have C1:=HC
    have HOWN1:=HOWN'
    go_wp2_with fail
    refine(hTK.out wr (Below.refl _ _)).mono ?_
    rintro e w2 ⟨rfl,hr2,b2⟩
    have hs2:=b2.size
    have hb:=HB1.out.chg b2 (by unfold only;omega)
    obtain⟨a0,a1,a2,a3,q0,q1,q2,q3,hlw2⟩:=blk_facts4 hb
    have HB2:=hidE hb
    have C2:=hidE (C1.out.trans b2)
    have HOWN2:=hidE (own_chg HOWN1.out b2 (by omega))
    have HR2:=hidE hr2
    clear hb b2 hTK hr2
    cases q with
    | false =>
     have HO2:Hid (O=none):=hidE (by rw[HO.out,fallD,if_neg hne,HQ.out,if_neg (by decide)])
     go_wp2_with fail
     try simp only[Exit.inBlock,Exit.then]
     refine bodyPost_ret (results_ct rfl _ _ w.heap.size 35 _ (0,0) _ rfl (blk_set4 _ _ _ _ HB2.out) Tryz.underlying35 rfl (by kernel_rfl)) rfl ?_
     exact tpost_none S b L w _ _ _ 0 ⟨#[]⟩ 0 none 0 0 (C2.out.set4 _ _ _ _ (Nat.le_refl _)) HO2.out rfl
    | true =>
     obtain⟨t0,r1,hl1,-,-⟩:=isHd_ne l' 6 [46] (by decide) HQ.out
     have HO2:Hid (O=(read f r1).map λx=>(alls done x.1,x.2)):=hidE (by rw[HO.out,fallD,if_neg hne,HQ.out,if_pos rfl,hl1];rfl)
     have HR2':Hid (Rdr S w2 b r1):=hidE (by have:=HR2.out;rw[hl1]at this;exact this)
     have HG1:Hid (AllG r1):=hidE λt ht=>HG'.out t (by rw[hl1];exact List.mem_cons_of_mem _ ht)
     have hlr:r1.length+1+n<=L:=by
       have:l'.length=r1.length+1:=by rw[hl1];rfl
       omega
     have hW:=HIH.out w2 r1 HR2'.out (λg hg=>by have:=HS'.out g hg;omega) HG1.out (by omega) (by omega)
     obtain⟨O1,hO1⟩:∃O1,read f r1=O1:=⟨_,rfl⟩
     rw[hO1]at hW HO2
     obtain⟨gN,hgN⟩:∃gN,A0=some ⟨gN,0,none⟩:=by
      rcases HOWN2.out.2 with⟨e,h0⟩|⟨g,cap,cur,e,_⟩
      ·exact absurd h0 hn0
      ·injection e with e;exact⟨g,e⟩
     subst hgN
     have HNM:Hid (w.heap.size+1<=gN/\gN<w2.heap.size/\∀j u,(strV done)[j]? = some u->w2.cell? ⟨gN,j,none⟩=some u):=by
      refine hidE ⟨(HOWN2.out.lt gN rfl).1,(HOWN2.out.lt gN rfl).2,λj u hu=>?_⟩
      have hadd:(⟨gN,0,none⟩:Addr).add j=⟨gN,j,none⟩:=by unfold Addr.add;split <;> simp_all
      have:=HOWN2.out.cells (g:=gN) rfl j u hu
      rwa [hadd]at this
     clear hl1 HR2 hO1 HOWN2 HOWN1 HOWN'
     go_wp2_with fail
     refine hW.mono ?_
     intro e w3 hT
     obtain⟨b3,K1,X1,Z1,A1,m1,c1,qq,rfl,hno,hyes⟩:=tpost_out hT
     have hs3:=b3.size
     have HB3:=hidE (HB2.out.chg b3 (by unfold only;omega))
     have C3:=hidE (C2.out.trans b3)
     have HNM3:Hid (w.heap.size+1<=gN/\gN<w3.heap.size/\∀j u,(strV done)[j]? = some u->w3.cell? ⟨gN,j,none⟩=some u):=by
      obtain⟨n1,n2,n3⟩:=HNM.out
      exact hidE ⟨n1,by omega,λj u hu=>(World.cell?_of_block (w:=w2) (a:=⟨gN,j,none⟩) (b3.block gN n2 (by unfold only;omega))).trans (n3 j u hu)⟩
     have HNO:=hidE hno
     have HYES:=hidE hyes
     clear b3 hW hT hno hyes HB2 C2 HNM HB1 C1 a0 a1 a2 a3 q0 q1 q2 q3
     go_wp2_with fail
     go_loopg [9] n (λgg vj wr=>HeadW w3.heap.size done (O1.map (·.1)) w w3 gg vj wr)
     case atStart =>
      refine⟨n,K1,X1,Z1,A1,m1,c1,rfl,rfl,by rw[HNL.out];omega,heap_alloc_new _ _,(Below.refl _ w3).alloc (Nat.le_refl _) _,by simp,λt0 h=>?_⟩
      cases qq with
      | false=>rw[HNO.out rfl]at h;cases h
      | true =>
       obtain⟨t,r,-,ho,hrd,-⟩:=HYES.out rfl
       rw[ho]at h
       injection h with h
       subst h
       rw[List.drop_eq_nil_of_le (by rw[HNL.out];omega)]
       exact hrd.keep (λg hg=>by simp at hg ⊢;omega) (λg hg=>Below.heap_alloc _ _ _ hg.2)
     case round =>
      obtain⟨j,K,X,Z,A,mm,cc,hgg,rfl,hjn,hb9,hbel,hlt9,hrd⟩:=hrel
      rw[HNL.out]at hjn
      have hb0:=HB3.out.below hbel HB3.out.lt
      have HBEL:=hidE hbel
      obtain⟨p0,p1,p2,p3,s0,s1,s2,s3,hlx⟩:=blk_facts4 hb9
      obtain⟨a0,a1,a2,a3,r0,r1',r2,r3,hlw3⟩:=blk_facts4 hb0
      have HB9:=hidE hb9
      have HB0':=hidE hb0
      have HRD:=hidE hrd
      obtain⟨n1,n2,n3⟩:=HNM3.out
      have hsb:=hbel.size
      by_cases hj0:0<j
      ·have hjd:j-1<done.length:=by rw[HNL.out];omega
       have e1:=n3 (j-1) _ (strV_at done (j-1) hjd)
       rw[<-World.cell?_of_block (w:=w3) (w':=wr) (a:=⟨gN,j-1,none⟩) (hbel.block gN n2)]at e1
       obtain⟨Y,hY⟩:∃Y:ByteArray,⟨(done[j-1]).toArray⟩=Y:=⟨_,rfl⟩
       rw[hY]at e1
       have HY:Hid (Y=⟨(done.getD (j-1) []).toArray⟩):=hidE (by rw[<-hY,List.getD_eq_getElem?_getD,List.getElem?_eq_getElem hjd];rfl)
       have hgw:gN<wr.heap.size:=by omega
       clear hb9 hb0 hrd hbel hY n3
       go_wp2_with fail
       go_region
       all_goals
        go_wp2_with fail
        go_roundg (j-1)
        case measure=>omega
        case rel =>
         refine⟨j-1,5,Y,0,some ⟨wr.heap.size,0,none⟩,1,1,rfl,by rw[show((j-1:Nat):Int)=(j:Int)-1 by omega],by rw[HNL.out];omega,((blk_set4 _ _ _ _ HB9.out).alloc _).drew,((below_set4 HBEL.out _ _ _ _ (Nat.le_refl _)).alloc (by simp;omega) _).drew,by simp;omega,λt0 h=>?_⟩
         rw[alls_step done (j-1) t0 (by rw[HNL.out];omega),show j-1+1=j by omega]
         refine all_cells (w:=wr) HY.out (HRD.out t0 h) (λg hg=>?_) (λg hg=>?_) ?_ ?_
         ·have:=hg.2.1
          exact⟨hg.1,by simp;omega,hg.2.2⟩
         ·exact(Below.heap_alloc _ _ _ (by simp;exact hg.2.1)).trans (heap_set4 _ _ _ _ _ _ _ hg.2.2)
         ·exact⟨by omega,by simp,by omega⟩
         ·intro d u hu
          have:=new_cells' ((((wr.setCell ⟨w3.heap.size,0,none⟩ (.int .i64 5)).setCell ⟨w3.heap.size,1,none⟩ (.string Y)).setCell ⟨w3.heap.size,2,none⟩ (.int .i64 0)).setCell ⟨w3.heap.size,3,none⟩ (.slice (some ⟨wr.heap.size,0,none⟩) 1 1)) #[.int .i64 K,.string X,.int .i64 Z,.slice A mm cc] 35 wr.heap.size (by simp) d u hu
          have hadd:(⟨wr.heap.size,0,none⟩:Addr).add d=⟨wr.heap.size,d,none⟩:=by unfold Addr.add;split <;> simp_all
          rw[hadd]at this
          exact this
      ·obtain rfl:j=0:=by omega
       clear hb9 hb0 hrd hbel n3
       go_wp2_with fail
       try simp only[Exit.inBlock,Exit.then]
       refine bodyPost_ret (results_ct rfl _ _ w.heap.size 35 _ (0,0) _ rfl (blk_set4 _ _ _ _ HB0'.out) Tryz.underlying35 rfl (by kernel_rfl)) rfl ?_
       have hc:Chg (only b) w wr:=C3.out.belowB HBEL.out (by omega)
       cases qq with
       | false=>exact tpost_none S b L w _ _ _ K X Z A mm cc (hc.set4 _ _ _ _ (Nat.le_refl _)) (by rw[HO2.out,HNO.out rfl];rfl) rfl
       | true =>
        obtain⟨t,r,hrl,ho,-,hrr⟩:=HYES.out rfl
        have hrd:=HRD.out t (by rw[ho];rfl)
        rw[List.drop_zero]at hrd
        refine tpost_some S b L w _ _ _ K X Z A mm cc (alls done t) r (hc.set4 _ _ _ _ (Nat.le_refl _)) (by omega) (by rw[HO2.out,ho];rfl) rfl ?_ ?_
        ·exact(hrd.set4 _ _ _ _ (λk hk=>by omega)).keep (λg hg=>by simp;omega) (λ_ _=>rfl)
        ·exact(hrr.keep (HBEL.out.block b (by omega)) (λg hg=>HBEL.out.block g (by have:=HS.out g hg;omega))).set4 _ _ _ _ (by omega) (λk hk=>by have:=HS.out k hk;omega)
end Go.Proofs.YtknkclefoiohpaaGreatDoor

namespace Go.Proofs.YtknkclefoiohpaaGreatDoor
open Go.RowKit Lx Tx
set_option maxRecDepth 100000
def arrow(f:Nat):Option (Ty × List Tok)->Option (Ty × List Tok)
 | none=>none
 | some x=>if isHd x.2 6 [45,62]=true then(read f x.2.tail).map λy=>(.fn x.1 y.1,y.2) else some x
theorem arrow_no(f:Nat)(O:Option (Ty × List Tok))(h:O=none):arrow f O=none:=by rw[h,arrow]
theorem arrow_yes(f:Nat)(O:Option (Ty × List Tok))(t:Ty)(r:List Tok)(h:O=some (t,r)):arrow f O=if isHd r 6 [45,62]=true then(read f r.tail).map λy=>(.fn t y.1,y.2) else some (t,r):=by rw[h,arrow]
theorem eat_hd(k:Nat)(X:List UInt8)(l:List Tok)(hk:k≠0):eat (λt=>t.kind==k&&t.text==X) l=if isHd l k X=true then some l.tail else none:=by
 cases l with
 | nil=>rw[eat,if_neg];simp[isHd,hd];intro e;exact absurd e.symm hk
 | cons t r=>exact(by rw[eat]:eat (λt=>t.kind==k&&t.text==X) (t::r)=if(t.kind==k&&t.text==X)=true then some r else none)
theorem eat_key2(l:List Tok):eat (isKey · wForall) l=if isHd l 3 wForall=true then some l.tail else none:=eat_hd 3 wForall l (by decide)
theorem eat_sign2(X:List UInt8)(l:List Tok):eat (isSign · X) l=if isHd l 6 X=true then some l.tail else none:=eat_hd 6 X l (by decide)
theorem read_hd(f:Nat)(l:List Tok):read (f+1) l=if isHd l 3 wForall=true then fall f l.tail else arrow f (app f l):=by
 rw[Tx.read,eat_key2]
 by_cases h:isHd l 3 wForall=true
 ·rw[if_pos h,if_pos h]
  show(if(vars l.tail).1=[] then none else match eat (isSign · [46]) (vars l.tail).2 with|none=>none|some r2=>(read f r2).map λx:Ty × List Tok=>(alls (vars l.tail).1 x.1,x.2))=fallD f (vars l.tail).1 (vars l.tail).2
  unfold fallD
  rw[eat_sign2]
  by_cases hv:(vars l.tail).1=[]
  ·rw[if_pos hv,if_pos hv]
  ·rw[if_neg hv,if_neg hv]
   by_cases hq:isHd (vars l.tail).2 6 [46]=true
   ·rw[if_pos hq,if_pos hq]
   ·rw[if_neg hq,if_neg hq]
 ·rw[if_neg h,if_neg h]
  show(match app f l with|none=>none|some (a,r)=>match eat (isSign · [45,62]) r with|none=>some (a,r)|some r2=>(read f r2).map λx:Ty × List Tok=>(.fn a x.1,x.2))=_
  cases app f l with
  | none=>rfl
  | some x =>
   obtain⟨a,r⟩:=x
   rw[arrow]
   show(match eat (isSign · [45,62]) r with|none=>some (a,r)|some r2=>(read f r2).map λx:Ty × List Tok=>(.fn a x.1,x.2))=_
   rw[eat_sign2]
   by_cases hq:isHd r 6 [45,62]=true
   ·rw[if_pos hq,if_pos hq]
   ·rw[if_neg hq,if_neg hq]
theorem arrow_step {f:Nat} {O O2:Option (Ty × List Tok)} {t:Ty} {r:List Tok}(h:O=some (t,r))(hq:isHd r 6 [45,62]=true)(hr:read f r.tail=O2):arrow f O=O2.map λy=>(.fn t y.1,y.2):=by
 rw[arrow_yes f O t r h,if_pos hq,hr]
theorem whole_fn(w w4 W:World)(t u:Ty)(S1 S2:Nat->Prop)(K1 K2 Z1 Z2:Int)(X1 X2:ByteArray)(A1 A2:Option Addr)(m1 m2 c1 c2:Nat)(hw:w.heap.size<w4.heap.size)
  (h1:RdV S1 w4 t (.agg #[.int .i64 K1,.string X1,.int .i64 Z1,.slice A1 m1 c1]))(h2:RdV S2 w4 u (.agg #[.int .i64 K2,.string X2,.int .i64 Z2,.slice A2 m2 c2]))
  (k1:∀g,S1 g->w.heap.size<g/\g<w4.heap.size)(k2:∀g,S2 g->w.heap.size<g/\g<w4.heap.size)
  (hsz:W.heap.size=w4.heap.size+2)(key:∀k,k<w4.heap.size->k≠w.heap.size->W.heap[k]? = w4.heap[k]?)
  (hc:∀j v,[Value.int .i64 K1,.string X1,.int .i64 Z1,.slice A1 m1 c1,.int .i64 K2,.string X2,.int .i64 Z2,.slice A2 m2 c2][j]? = some v->W.cell? ((⟨w4.heap.size+1,0,none⟩:Addr).add j)=some v) :
  RdV (λg=>w.heap.size<=g/\g<W.heap.size) W (.fn t u) (.agg #[.int .i64 4,.string ⟨#[]⟩,.int .i64 0,.slice (some ⟨w4.heap.size+1,0,none⟩) 2 2]):=by
 rw[hsz]
 refine fn_cells (S:=λg=>w.heap.size<=g/\g<w4.heap.size+2) (h1.keep (λg hg=>?_) (λg hg=>?_)) (h2.keep (λg hg=>?_) (λg hg=>?_)) ⟨by omega,by omega⟩ (λj v hj=>?_)
 ·have:=k1 g hg;exact⟨by omega,by omega⟩
 ·have:=k1 g hg;exact key g (by omega) (by omega)
 ·have:=k2 g hg;exact⟨by omega,by omega⟩
 ·have:=k2 g hg;exact key g (by omega) (by omega)
 ·rw[<-add_zero_addr];exact hc j v hj
set_option maxHeartbeats 1600000 in
theorem tc_whole(f:Nat)(S:Nat->Prop)(b:Nat)(l:List Tok)(w:World)(h:Rdr S w b l)(hS:∀g,S g->g≠b/\g<w.heap.size)(hG:AllG l)(hl:l.length<=100000)(hf:4*l.length+4<=f+1)
  (IHR:Reads S b 103 4 read f)(IHA:Reads S b 148 3 app f) :
  Calls Tryz.prog 103 #[.pointer (some ⟨b,0,none⟩)] w (TPost S b l.length w (read (f+1) l)):=by
 have hbl:=h.lt
 have hT:=tc_take S b l 3 3 rfl ⟨#[102,111,114,97,108,108]⟩ (w.alloc (.cells tyZ 35)) (h.alloc _ (λg hg=>(hS g hg).2)) (λg hg=>⟨(hS g hg).1,by have:=(hS g hg).2;simp;omega⟩) hl (by decide)
 unfold tyZ at hT
 have eb:(⟨#[102,111,114,97,108,108]⟩:ByteArray).data.toList=wForall:=rfl
 rw[eb]at hT
 rw[read_hd]
 unfold took at hT
 obtain⟨q,hq⟩:∃q,isHd l 3 wForall=q:=⟨_,rfl⟩
 rw[hq]at hT ⊢
 have HS:=hidE hS
 have HG:=hidE hG
 have HR:=hidE IHR
 have HA:=hidE IHA
 clear eb h hS hG IHR IHA
 cases q with
 | true =>
  obtain⟨t0,r0,rfl,-,-⟩:=isHd_ne _ _ _ (by decide) hq
  simp only[if_true,List.tail_cons]at hT ⊢
  rw[List.length_cons]at hl hf ⊢
  obtain⟨n,hn⟩:∃n,r0.length=n:=⟨_,rfl⟩
  have HN:=hidE hn
  rw[hn]at hl hf ⊢
  obtain⟨O,hO⟩:∃O,fall f r0=O:=⟨_,rfl⟩
  have HF:Hid (∀w1,Rdr S w1 b r0->(∀g,S g->g≠b/\g<w1.heap.size)->Calls Tryz.prog 147 #[.pointer (some ⟨b,0,none⟩)] w1 (TPost S b n w1 O)):=by
   refine hidE λw1 hr hs=>?_
   have:=tc_forAll f S b r0 w1 hr hs (AllG.tail HG.out) (by omega) (by omega) HR.out
   rwa [hO,hn]at this
  rw[hO]
  clear hq hn hO hf
  go_enter Tryz.func103,Tryz.ntmps103
  go_wp2_with fail
  refine hT.mono ?_
  rintro e w1 ⟨rfl,r1,b1⟩
  have hs1:=b1.size
  simp at hs1
  have HB1:=hidE (Blk.chg (heap_alloc_new w (.cells tyZ 35)) b1 (by unfold only;omega))
  have HR1:=hidE r1
  have C1:=hidE b1.pre
  clear hT b1 r1
  go_wp2_with fail
  refine(HF.out w1 HR1.out (λg hg=>by have:=HS.out g hg;omega)).mono ?_
  intro e w2 hP
  obtain⟨b2,K1,X1,Z1,A1,m1,c1,qq,rfl,hno,hyes⟩:=tpost_out hP
  have hbk:=HB1.out.chg b2 (by unfold only;omega)
  unfold tyZ at hbk
  obtain⟨a0,a1,a2,a3,q0,q1,q2,q3,hlw2⟩:=blk_facts4 hbk
  have HB2:=hidE hbk
  have C2:=hidE (C1.out.trans b2)
  have HNO:=hidE hno
  have HYES:=hidE hyes
  clear hbk b2 hP hno hyes
  go_wp2_with fail
  try simp only[Exit.inBlock,Exit.then]
  refine bodyPost_ret (results_ct rfl _ _ w.heap.size 35 _ (0,0) _ rfl (blk_set4 _ _ _ _ HB2.out) Tryz.underlying35 rfl (by kernel_rfl)) rfl ?_
  cases qq with
  | false=>exact tpost_none S b (n+1) w _ _ _ K1 X1 Z1 A1 m1 c1 (C2.out.set4 _ _ _ _ (Nat.le_refl _)) (HNO.out rfl) rfl
  | true =>
   obtain⟨t,r,hrl,ho,hrd,hrr⟩:=HYES.out rfl
   refine tpost_some S b (n+1) w _ _ _ K1 X1 Z1 A1 m1 c1 t r (C2.out.set4 _ _ _ _ (Nat.le_refl _)) (by omega) ho rfl ?_ (hrr.set4 _ _ _ _ (by omega) (λk hk=>by have:=HS.out k hk;omega))
   exact(hrd.set4 _ _ _ _ (λk hk=>by omega)).keep (λg hg=>by simp;omega) (λ_ _=>rfl)
 | false =>
  simp only[Bool.false_eq_true,if_false]at hT ⊢
  obtain⟨n,hn⟩:∃n,l.length=n:=⟨_,rfl⟩
  have HN:=hidE hn
  rw[hn]at hl hf ⊢
  obtain⟨O,hO⟩:∃O,app f l=O:=⟨_,rfl⟩
  have HP:Hid (∀w1,Rdr S w1 b l->(∀g,S g->g≠b/\g<w1.heap.size)->Calls Tryz.prog 148 #[.pointer (some ⟨b,0,none⟩)] w1 (TPost S b n w1 O)):=by
   refine hidE λw1 hr hs=>?_
   have:=HA.out w1 l hr hs HG.out (by omega) (by omega)
   rwa [hO,hn]at this
  have HGA:Hid (∀t r,O=some (t,r)->AllG r):=hidE λt r h=>((read_nm f).2.1 l t r HG.out (hO.trans h)).2.1
  obtain⟨R,hR⟩:∃R,arrow f O=R:=⟨_,rfl⟩
  have HRR:=hidE hR
  rw[hO,hR]
  clear hq hn hO hR
  go_enter Tryz.func103,Tryz.ntmps103
  go_wp2_with fail
  refine hT.mono ?_
  rintro e w1 ⟨rfl,r1,b1⟩
  have hs1:=b1.size
  simp at hs1
  have HB1:=hidE (Blk.chg (heap_alloc_new w (.cells tyZ 35)) b1 (by unfold only;omega))
  have HR1:=hidE r1
  have C1:=hidE b1.pre
  clear hT b1 r1
  go_wp2_with fail
  refine(HP.out w1 HR1.out (λg hg=>by have:=HS.out g hg;omega)).mono ?_
  intro e w2 hP
  obtain⟨b2,K1,X1,Z1,A1,m1,c1,qq,rfl,hno,hyes⟩:=tpost_out hP
  have hs2:=b2.size
  have hbk:=HB1.out.chg b2 (by unfold only;omega)
  unfold tyZ at hbk
  obtain⟨a0,a1,a2,a3,q0,q1,q2,q3,hlw2⟩:=blk_facts4 hbk
  have HB2:=hidE hbk
  have C2:=hidE (C1.out.trans b2)
  have HNO:=hidE hno
  have HYES:=hidE hyes
  clear hbk b2 hP hno hyes HP
  cases qq with
  | false =>
   have HO:=hidE (HRR.out.symm.trans (arrow_no f O (HNO.out rfl)))
   go_wp2_with fail
   try simp only[Exit.inBlock,Exit.then]
   refine bodyPost_ret (results_ct rfl _ _ w.heap.size 35 _ (0,0) _ rfl ((blk_set4 _ _ _ _ HB2.out).alloc _) Tryz.underlying35 rfl (by kernel_rfl)) rfl ?_
   exact tpost_none S b n w _ _ _ K1 X1 Z1 A1 m1 c1 ((C2.out.set4 _ _ _ _ (Nat.le_refl _)).alloc _) HO.out rfl
  | true =>
   obtain⟨t,r,hrl,ho,hrd,hrr⟩:=HYES.out rfl
   obtain⟨q',hq'⟩:∃q',isHd r 6 [45,62]=q':=⟨_,rfl⟩
   have HQ':=hidE hq'
   have HO:=hidE ho
   have HRD:=hidE hrd
   have hbr:=hrr.lt
   have HS2:Hid (∀g,S g->g≠b/\g<w2.heap.size):=hidE λg hg=>by have:=HS.out g hg;omega
   have HT2:Hid (Calls Tryz.prog 136 #[.pointer (some ⟨b,0,none⟩),.int .i64 6,.string ⟨#[45,62]⟩] (w2.alloc (.cells #[.int .i64 K1,.string X1,.int .i64 Z1,.slice A1 m1 c1] 35)) λe w'=>e=.returned (.bool q')/\Rdr S w' b (if q'=true then r.tail else r)/\Chg (only b) (w2.alloc (.cells #[.int .i64 K1,.string X1,.int .i64 Z1,.slice A1 m1 c1] 35)) w'):=by
    have:=tc_take S b r 6 6 rfl ⟨#[45,62]⟩ (w2.alloc (.cells #[.int .i64 K1,.string X1,.int .i64 Z1,.slice A1 m1 c1] 35)) (hrr.alloc _ (λg hg=>(HS2.out g hg).2)) (λg hg=>by have:=HS2.out g hg;simp;omega) (by omega) (by decide)
    have eb:(⟨#[45,62]⟩:ByteArray).data.toList=[45,62]:=rfl
    rw[eb,took,hq']at this
    exact hidE this
   clear hq' ho hrd hrr
   go_wp2_with fail
   refine HT2.out.mono ?_
   rintro e w3 ⟨rfl,r3,b3⟩
   have hs3:=b3.size
   simp at hs3
   have HF3:=hidE (Blk.chg (heap_alloc_new w2 (.cells #[.int .i64 K1,.string X1,.int .i64 Z1,.slice A1 m1 c1] 35)) b3 (by unfold only;omega))
   have hbk:=(HB2.out.alloc _).chg b3 (by unfold only;omega)
   have HB3:=hidE hbk
   have C3:=hidE ((C2.out.alloc _).trans b3)
   have HR3:=hidE r3
   have HRD3:Hid (RdV (λg=>w1.heap.size<=g/\g<w2.heap.size) w3 t (.agg #[.int .i64 K1,.string X1,.int .i64 Z1,.slice A1 m1 c1])) :=
    hidE (HRD.out.keep (λ_ h=>h) (λg hg=>(b3.block g (by simp;omega) (by unfold only;omega)).trans (Below.heap_alloc _ _ _ hg.2)))
   clear b3 r3 hbk HT2
   cases q' with
   | false =>
    have HO2:=hidE (HRR.out.symm.trans ((arrow_yes f O t r HO.out).trans (by rw[HQ'.out,if_neg (by decide)])))
    obtain⟨p0,p1,p2,p3,s0,s1,s2,s3,hlx⟩:=blk_facts4 HF3.out
    obtain⟨a0,a1,a2,a3,q0,q1,q2,q3,hlw3⟩:=blk_facts4 HB3.out
    go_wp2_with fail
    try simp only[Exit.inBlock,Exit.then]
    refine bodyPost_ret (results_ct rfl _ _ w.heap.size 35 _ (0,0) _ rfl (blk_set4 _ _ _ _ HB3.out) Tryz.underlying35 rfl (by kernel_rfl)) rfl ?_
    have hr3:=HR3.out
    rw[if_neg (by decide)]at hr3
    refine tpost_some S b n w _ _ _ K1 X1 Z1 A1 m1 c1 t r (C3.out.set4 _ _ _ _ (Nat.le_refl _)) hrl HO2.out rfl ?_ (hr3.set4 _ _ _ _ (by omega) (λk hk=>by have:=HS.out k hk;omega))
    exact(HRD3.out.set4 _ _ _ _ (λk hk=>by omega)).keep (λg hg=>by simp;omega) (λ_ _=>rfl)
   | true =>
    obtain⟨t1,r1,hr1,-,-⟩:=isHd_ne r 6 [45,62] (by decide) HQ'.out
    obtain⟨O2,hO2⟩:∃O2,read f r1=O2:=⟨_,rfl⟩
    have HO2:Hid (R=O2.map λy=>(.fn t y.1,y.2)):=hidE (HRR.out.symm.trans (arrow_step HO.out HQ'.out (by rw[hr1];exact hO2)))
    have hr3:Rdr S w3 b r1:=by have:=HR3.out;rw[if_pos rfl,hr1]at this;exact this
    have hlr:r1.length+1<n:=by
      have:r.length=r1.length+1:=by rw[hr1];rfl
      omega
    have hG1:AllG r1:=λt ht=>HGA.out _ r HO.out t (by rw[hr1];exact List.mem_cons_of_mem _ ht)
    have hW:=HR.out w3 r1 hr3 (λg hg=>by have:=HS2.out g hg;omega) hG1 (by omega) (by omega)
    rw[hO2]at hW
    clear hr1 hO2 hr3 hG1 HR3
    go_wp2_with fail
    refine hW.mono ?_
    intro e w4 hP
    obtain⟨b4,K2,X2,Z2,A2,m2,c2,q4,rfl,hno,hyes⟩:=tpost_out hP
    have hs4:=b4.size
    have hf4:=HF3.out.chg b4 (by unfold only;omega)
    have hbk:=HB3.out.chg b4 (by unfold only;omega)
    obtain⟨p0,p1,p2,p3,s0,s1,s2,s3,hlx⟩:=blk_facts4 hf4
    obtain⟨a0,a1,a2,a3,q0,q1,q2,q3,hlw4⟩:=blk_facts4 hbk
    have HB4:=hidE hbk
    have C4:=hidE (C3.out.trans b4)
    have HNO4:=hidE hno
    have HYES4:=hidE hyes
    have HRD4:Hid (RdV (λg=>w1.heap.size<=g/\g<w2.heap.size) w4 t (.agg #[.int .i64 K1,.string X1,.int .i64 Z1,.slice A1 m1 c1])) :=
     hidE (HRD3.out.keep (λ_ h=>h) (λg hg=>b4.block g (by omega) (by unfold only;omega)))
    clear hf4 hbk b4 hno hyes hP hW
    go_wp2_with fail
    try simp only[Exit.inBlock,Exit.then]
    refine bodyPost_ret (results_ct rfl _ _ w.heap.size 35 _ (0,0) _ rfl (((blk_set4 _ _ _ _ HB4.out).alloc _).alloc _) Tryz.underlying35 rfl (by kernel_rfl)) rfl ?_
    have c4:Chg (only b) w _:=((C4.out.set4 (g:=w.heap.size) (.int .i64 4) (.string ⟨#[]⟩) (.int .i64 0) (.slice (some ⟨w4.heap.size+1,0,none⟩) 2 2) (Nat.le_refl _)).alloc (.cells #[.int .i64 K2,.string X2,.int .i64 Z2,.slice A2 m2 c2] 35)).alloc (.cells #[.int .i64 K1,.string X1,.int .i64 Z1,.slice A1 m1 c1,.int .i64 K2,.string X2,.int .i64 Z2,.slice A2 m2 c2] 35)
    cases q4 with
    | false=>exact tpost_none S b n w _ _ _ 4 ⟨#[]⟩ 0 (some ⟨w4.heap.size+1,0,none⟩) 2 2 c4 (by rw[HO2.out,HNO4.out rfl];rfl) rfl
    | true =>
     obtain⟨u,r2,hr2l,ho2,hrd2,hrr2⟩:=HYES4.out rfl
     refine tpost_some S b n w _ _ _ 4 ⟨#[]⟩ 0 (some ⟨w4.heap.size+1,0,none⟩) 2 2 (.fn t u) r2 c4 (by omega) (by rw[HO2.out,ho2];rfl) rfl ?_ ?_
     ·exact whole_fn w w4 _ t u _ _ K1 K2 Z1 Z2 X1 X2 A1 A2 m1 m2 c1 c2 hlw4 HRD4.out hrd2 (λg hg=>by omega) (λg hg=>by omega) (by simp)
       (λk hk hne=>(Below.heap_alloc _ _ _ (by simp;omega)).trans ((Below.heap_alloc _ _ _ (by simp;omega)).trans (heap_set4 _ _ _ _ _ _ _ hne))) (λj v hj=>new_cells' _ _ _ _ (by simp) j v hj)
     ·have hb2:=hrr2.lt
      have hS4:∀g,S g->g<w4.heap.size:=λg hg=>by have:=HS.out g hg;omega
      exact((hrr2.set4 _ _ _ _ (by omega) (λk hk=>by have:=HS.out k hk;omega)).alloc _ (λg hg=>by have:=hS4 g hg;simp;omega)).alloc _ (λg hg=>by have:=hS4 g hg;simp;omega)
theorem tc_all(S:Nat->Prop)(b:Nat)(f:Nat):∀f1,f1<=f ->
  Reads S b 103 4 read f1/\Reads S b 148 3 app f1/\Reads S b 174 2 atom f1:=by
 induction f with
 | zero =>
  intro f1 h
  exact⟨λw l _ _ _ _ h2=>by omega,λw l _ _ _ _ h2=>by omega,λw l _ _ _ _ h2=>by omega⟩
 | succ f ih =>
  intro f1 h1
  by_cases h:f1<=f
  ·exact ih f1 h
  ·obtain rfl:f1=f+1:=by omega
   have i0:=ih f (Nat.le_refl _)
   exact⟨λw l hr hS hG hl hf=>tc_whole f S b l w hr hS hG hl hf i0.1 i0.2.1,λw l hr hS hG hl hf=>tc_app f S b l w hr hS hG hl hf (λf1 h=>(ih f1 h).2.2),λw l hr hS hG hl hf=>tc_atom f S b l w hr hS hG hl hf i0.1⟩
theorem results_ctt {P:Program} {fn:Func} {p u z:Tmp} {ty:TypeId}(h:fn.results=#[.cell p ty,.tmp u,.tmp z])(tmps:Array Value)(w:World)(g:Nat)(t:TypeId)(cs:Array Value)(fr:Nat × Nat)(d:TypeDesc)
  (hp:tmps.getD p undef=.pointer (some ⟨g,0,none⟩))(hg:w.heap[g]? = some (.cells cs t fr))
  (hu:P.underlying ty=some d)(hd:(match d with|.struct _|.array _ _=>true|_=>false)=true)(hi:(P.info? ty).map (·.size)=some cs.size) :
  (results fn tmps).run P w=.ok (.tuple #[.agg cs,tmps.getD u undef,tmps.getD z undef]) w:=by
 have hp':tmps[p]?.getD undef=.pointer (some ⟨g,0,none⟩):=by simpa using hp
 simp[results,h,hp',asAddr,run_loadVar_row w g t ty cs fr d hg hu hd hi]
theorem heap_drew(w:World):w.drew.heap=w.heap:=rfl
theorem size_set4(w:World)(g:Nat)(b0 b1 b2 b3:Value):((((w.setCell ⟨g,0,none⟩ b0).setCell ⟨g,1,none⟩ b1).setCell ⟨g,2,none⟩ b2).setCell ⟨g,3,none⟩ b3).heap.size=w.heap.size:=by simp
theorem RdT.toks {w:World} {v:Value} {l:List Tok}(h:RdT w v l)(hc:∃A c,v=.slice A l.length c/\l.length<=c):Toks (λg=>g<w.heap.size) w v l:=by
 obtain⟨A,c,rfl,hlc⟩:=hc
 obtain⟨A',c',hv,hp⟩:=h
 injection hv with e1 e2 e3
 subst e1 e3
 refine⟨A,c,rfl,hlc,λh0=>?_⟩
 obtain⟨g,hA,hg,hcell⟩:=hp h0
 exact⟨g,0,hA,hg,λj u hu=>by rw[Nat.zero_add];exact hcell j u hu⟩
end Go.Proofs.YtknkclefoiohpaaGreatDoor

namespace Go.Proofs.YtknkclefoiohpaaGreatDoor
open Go.RowKit Lx Tx
set_option maxRecDepth 100000
def ReadPostS(S:Nat->Prop)(w:World)(o:Option (Ty × List Tok))(e:Ending)(w':World):Prop :=
 Below w.heap.size w w'/\∃K X Z A m c v q,e=.returned (.tuple #[.agg #[.int .i64 K,.string X,.int .i64 Z,.slice A m c],v,.bool q])/\(q=false->o=none/\v=.slice none 0 0) /\
  (q=true->∃t r A2 c2,o=some (t,r)/\v=.slice A2 r.length c2/\RdV (λg=>w.heap.size<=g/\g<w'.heap.size) w' t (.agg #[.int .i64 K,.string X,.int .i64 Z,.slice A m c])/\Toks S w' (.slice A2 r.length c2) r)
set_option maxHeartbeats 800000 in
theorem tc_readS(S:Nat->Prop)(l:List Tok)(v:Value)(w:World)(h:Toks S w v l)(hS:∀g,S g->g<w.heap.size)(hG:AllG l)(hl:l.length<=100000) :
  Calls Tryz.prog 53 #[v] w (ReadPostS S w (read (enough l) l)):=by
 have HV:=hidE h
 have HS:=hidE hS
 obtain⟨O,hO⟩:∃O,read (enough l) l=O:=⟨_,rfl⟩
 have hW:=λw1 hr hs=>(tc_all S (w.heap.size+1) (enough l) (enough l) (Nat.le_refl _)).1 w1 l hr hs hG hl (by unfold enough;omega)
 rw[hO]at hW ⊢
 have HW:=hidE hW
 clear h hG hl hO hW
 obtain⟨A,c,rfl,hlc,_⟩:=HV.out
 obtain⟨n,hn⟩:∃n,l.length=n:=⟨_,rfl⟩
 rw[hn]at HV HW ⊢
 clear hlc hn
 have HR:Hid (Rdr S ((w.alloc (.cells tyZ 35)).alloc (.cells #[.slice A n c] 172)) (w.heap.size+1) l):=by
  refine hidE ⟨_,?_,HV.out.keep (λg hg=>?_)⟩
  ·have:=heap_alloc_new (w.alloc (.cells tyZ 35)) (.cells #[.slice A n c] 172)
   rw[show(w.alloc (.cells tyZ 35)).heap.size=w.heap.size+1 by simp]at this
   exact this
  ·have hgw:=hS g hg
   exact(Below.heap_alloc _ _ _ (by simp;omega)).trans (Below.heap_alloc _ _ _ hgw)
 unfold tyZ at HR
 go_enter Tryz.func53,Tryz.ntmps53
 go_wp2_with fail
 refine(HW.out _ HR.out (λg hg=>by have:=HS.out g hg;simp;omega)).mono ?_
 intro e w1 hP
 obtain⟨b1,K1,X1,Z1,A1,m1,c1,q,rfl,hno,hyes⟩:=tpost_out hP
 have hs1:=b1.size
 simp at hs1
 have hbk:=Blk.chg (Blk.alloc (heap_alloc_new w (.cells tyZ 35)) (.cells #[.slice A n c] 172)) b1 (by unfold only;omega)
 unfold tyZ at hbk
 obtain⟨a0,a1,a2,a3,q0,q1,q2,q3,hlw⟩:=blk_facts4 hbk
 have HBK:=hidE hbk
 have C1:=hidE b1
 have HNO:=hidE hno
 have HYES:=hidE hyes
 clear hbk b1 hno hyes hP
 cases q with
 | false =>
  go_wp2_with fail
  try simp only[Exit.inBlock,Exit.then]
  refine bodyPost_ret (results_ctt rfl _ _ w.heap.size 35 _ (0,0) _ rfl (blk_set4 _ _ _ _ (blk_set4 _ _ _ _ HBK.out)) Tryz.underlying35 rfl (by kernel_rfl)) rfl ?_
  have hb:Below w.heap.size w w1:=(((Chg.refl (only (w.heap.size+1)) w).alloc _).alloc _ |>.trans C1.out).toBelow (Nat.le_refl _) (λk hk=>by unfold only;omega)
  exact⟨below_set4 (below_set4 hb _ _ _ _ (Nat.le_refl _)) _ _ _ _ (Nat.le_refl _),0,⟨#[]⟩,0,none,0,0,.slice none 0 0,false,rfl,λ_=>⟨HNO.out (by first|rfl|trivial),rfl⟩,(λh=>by cases h)⟩
 | true =>
  obtain⟨t,r,hrl,ho,hrd,hrr⟩:=HYES.out rfl
  obtain⟨v2,hv1,hv2⟩:=hrr
  have hv2':=hv2
  obtain⟨A2,c2,rfl,-,-⟩:=hv2
  have HT2:Hid (Toks S w1 (.slice A2 r.length c2) r):=hidE hv2'
  clear hv2'
  have f0:=hv1.cell 0
  have HRD:Hid (RdV (λg=>w.heap.size<g/\g<w1.heap.size) w1 t (.agg #[.int .i64 K1,.string X1,.int .i64 Z1,.slice A1 m1 c1])):=hidE (hrd.keep (λg hg=>by simp at hg;omega) (λ_ _=>rfl))
  have HO:=hidE ho
  obtain⟨rn,hrn⟩:∃rn,r.length=rn:=⟨_,rfl⟩
  have HRN:=hidE hrn
  rw[hrn]at f0
  replace f0:w1.cell? ⟨w.heap.size+1,0,none⟩=some (.slice A2 rn c2):=f0
  clear hv1 hrl ho hrd hrn
  go_wp2_with fail
  go_region
  all_goals
   go_wp2_with fail
   try simp only[Exit.inBlock,Exit.then]
   refine bodyPost_ret (results_ctt rfl _ _ w.heap.size 35 _ (0,0) _ rfl (blk_set4 _ _ _ _ (blk_set4 _ _ _ _ HBK.out)).drew Tryz.underlying35 rfl (by kernel_rfl)) rfl ?_
   have hb:Below w.heap.size w w1:=(((Chg.refl (only (w.heap.size+1)) w).alloc _).alloc _ |>.trans C1.out).toBelow (Nat.le_refl _) (λk hk=>by unfold only;omega)
   refine⟨(below_set4 (below_set4 hb _ _ _ _ (Nat.le_refl _)) _ _ _ _ (Nat.le_refl _)).drew,K1,X1,Z1,A1,m1,c1,.slice A2 rn c2,true,rfl,(λh=>by cases h),λ_=>⟨t,r,A2,c2,HO.out,by rw[HRN.out],?_,?_⟩⟩
   ·refine HRD.out.keep (λg hg=>?_) (λg hg=>?_)
    ·refine⟨Nat.le_of_lt hg.1,?_⟩
     rw[heap_drew,size_set4,size_set4]
     exact hg.2
    ·have hne:g≠w.heap.size:=Nat.ne_of_gt hg.1
     rw[heap_drew,heap_set4 _ _ _ _ _ _ _ hne,heap_set4 _ _ _ _ _ _ _ hne]
   ·exact HT2.out.keep (λg hg=>by
     have hne:g≠w.heap.size:=Nat.ne_of_lt (HS.out g hg)
     rw[heap_drew,heap_set4 _ _ _ _ _ _ _ hne,heap_set4 _ _ _ _ _ _ _ hne])
end Go.Proofs.YtknkclefoiohpaaGreatDoor

namespace Go.Proofs.YtknkclefoiohpaaGreatDoor
open Go.RowKit Lx Tx
def RdB(w:World)(b:Nat):Prop:=∃A n c,Blk w b 141 #[.slice A n c]
theorem RdB.lt {w:World} {b:Nat}(h:RdB w b):b<w.heap.size:=by obtain⟨A,n,c,h⟩:=h;exact h.lt
theorem RdB.same {w w':World} {b:Nat}(h:RdB w b)(he:w'.heap[b]? = w.heap[b]?):RdB w' b:=by obtain⟨A,n,c,h⟩:=h;exact⟨A,n,c,h.same he⟩
theorem RdrS.rdB {S:Nat->Prop} {w:World} {b:Nat} {l:List Tok}(h:RdrS S w b l):RdB w b:=by
 obtain⟨v,h1,A,c,rfl,-⟩:=h
 exact⟨A,_,c,h1⟩
structure ChR (b:Nat) (w w':World):Prop where
 c:Chg (only b) w w'
 r:RdB w b->RdB w' b
theorem ChR.size {b:Nat} {w w':World}(h:ChR b w w'):w.heap.size<=w'.heap.size:=h.c.size
theorem ChR.block {b:Nat} {w w':World}(h:ChR b w w')(k:Nat)(hk:k<w.heap.size)(hn:¬only b k):w'.heap[k]? = w.heap[k]?:=h.c.block k hk hn
theorem ChR.refl(b:Nat)(w:World):ChR b w w:=⟨Chg.refl _ _,id⟩
theorem ChR.trans {b:Nat} {w w1 w2:World}(h:ChR b w w1)(k:ChR b w1 w2):ChR b w w2:=⟨h.c.trans k.c,λx=>k.r (h.r x)⟩
theorem ChR.of_below {b:Nat} {w w':World}(h:Below w.heap.size w w'):ChR b w w':=⟨Chg.of_below h,λx=>x.same (h.block b x.lt)⟩
theorem ChR.below {b:Nat} {w w1 w2:World}(h:ChR b w w1)(k:Below w1.heap.size w1 w2):ChR b w w2:=h.trans (ChR.of_below k)
theorem ChR.alloc {b:Nat} {w w1:World}(h:ChR b w w1)(o:Obj):ChR b w (w1.alloc o):=h.below ((Below.refl _ _).alloc (Nat.le_refl _) o)
theorem ChR.pre {b:Nat} {w w':World} {o:Obj}(h:ChR b (w.alloc o) w'):ChR b w w':=((ChR.refl b w).alloc o).trans h
theorem ChR.drew {b:Nat} {w w1:World}(h:ChR b w w1):ChR b w w1.drew:=⟨h.c.drew,λx=>(h.r x).same rfl⟩
theorem ChR.setCell {b:Nat} {a w:World}(h:ChR b a w) {p:Addr}(hp:a.heap.size<=p.block\/False)(u:Value):ChR b a (w.setCell p u):=by
 have hp:=hp.resolve_right id
 exact⟨h.c.setCell (.inl hp) u,λx=>(h.r x).same (Below.heap_setCell w p u b (λe=>by have:=x.lt;omega))⟩
theorem ChR.set4 {b:Nat} {w w':World} {g:Nat}(h:ChR b w w')(b0 b1 b2 b3:Value)(hg:w.heap.size<=g) :
  ChR b w ((((w'.setCell ⟨g,0,none⟩ b0).setCell ⟨g,1,none⟩ b1).setCell ⟨g,2,none⟩ b2).setCell ⟨g,3,none⟩ b3) :=
 (((h.setCell (p:=⟨g,0,none⟩) (.inl hg) _).setCell (p:=⟨g,1,none⟩) (.inl hg) _).setCell (p:=⟨g,2,none⟩) (.inl hg) _).setCell (p:=⟨g,3,none⟩) (.inl hg) _
theorem ChR.grown {b:Nat} {a w w':World} {row:Option Nat}(h:ChR b a w)(hg:w.grownBy w' row)(hr:∀k,row=some k->a.heap.size<=k\/False):ChR b a w':=by
 refine⟨h.c.grown hg (λk hk=>.inl ((hr k hk).resolve_right id)),λx=>(h.r x).same (hg.block b (h.r x).lt (λe=>?_))⟩
 have:=(hr b e.symm).resolve_right id
 have:=x.lt
 omega
theorem Blk.chgR {b:Nat} {w w':World} {g:Nat} {t:TypeId} {cs:Array Value}(h:Blk w g t cs)(hc:ChR b w w')(hm:¬only b g):Blk w' g t cs:=h.chg hc.c hm
theorem own_chgR {b B:Nat} {e:TypeId} {size n:Nat} {v:Value} {xs:List Value} {w w':World}(h:w.ownsRow B e size v n xs)(hc:ChR b w w')(hb:b<B):w'.ownsRow B e size v n xs:=own_chg h hc.c hb
theorem ChR.of_rdr {S:Nat->Prop} {b:Nat} {w w':World} {l:List Tok}(h:Chg (only b) w w')(hr:RdrS S w' b l):ChR b w w':=⟨h,λ_=>hr.rdB⟩
end Go.Proofs.YtknkclefoiohpaaGreatDoor
