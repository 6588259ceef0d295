import Derived.Test.YtknkclefoiohpaaGreatDoorKaH
import Derived.Test.YtknkclefoiohpaaGreatDoorKaR
set_option maxHeartbeats 12800000
namespace Go.Proofs.YtknkclefoiohpaaGreatDoor
open Go.RowKit Lx Tx
set_option maxRecDepth 100000
def TPost(S:Nat->Prop)(b n:Nat)(w:World)(o:Option (Ty × List Tok))(e:Ending)(w':World):Prop :=
 Chg (only b) w w'/\∃K X Z A m c,
  ((o=none/\e=.returned (.tuple #[.agg #[.int .i64 K,.string X,.int .i64 Z,.slice A m c],.bool false])) \/
   (∃t r,r.length<n/\o=some (t,r)/\e=.returned (.tuple #[.agg #[.int .i64 K,.string X,.int .i64 Z,.slice A m c],.bool true]) /\
    RdV (λg=>w.heap.size<=g/\g<w'.heap.size) w' t (.agg #[.int .i64 K,.string X,.int .i64 Z,.slice A m c])/\Rdr S w' b r))
theorem zaV(S:Nat->Prop)(b n:Nat)(w w':World)(o:Option (Ty × List Tok))(e:Ending)(K:Int)(X:ByteArray)(Z:Int)(A:Option Addr)(m c:Nat)(hb:Chg (only b) w w')(ho:o=none)
  (he:e=.returned (.tuple #[.agg #[.int .i64 K,.string X,.int .i64 Z,.slice A m c],.bool false])):TPost S b n w o e w' :=
 ⟨hb,K,X,Z,A,m,c,.inl ⟨ho,he⟩⟩
theorem za0(S:Nat->Prop)(b n:Nat)(w w':World)(o:Option (Ty × List Tok))(e:Ending)(K:Int)(X:ByteArray)(Z:Int)(A:Option Addr)(m c:Nat)(t:Ty)(r:List Tok)(hb:Chg (only b) w w')(hr:r.length<n)(ho:o=some (t,r))
  (he:e=.returned (.tuple #[.agg #[.int .i64 K,.string X,.int .i64 Z,.slice A m c],.bool true]))
  (hv:RdV (λg=>w.heap.size<=g/\g<w'.heap.size) w' t (.agg #[.int .i64 K,.string X,.int .i64 Z,.slice A m c]))(hd:Rdr S w' b r):TPost S b n w o e w' :=
 ⟨hb,K,X,Z,A,m,c,.inr ⟨t,r,hr,ho,he,hv,hd⟩⟩
def Reads(S:Nat->Prop)(b F k:Nat)(rd:Nat->List Tok->Option (Ty × List Tok))(f:Nat):Prop :=
 ∀(w:World) (l:List Tok),Rdr S w b l->(∀g,S g->g≠b/\g<w.heap.size)->AllG l->l.length<=100000->4*l.length+k<=f->Calls Tryz.prog F #[.pointer (some ⟨b,0,none⟩)] w (TPost S b l.length w (rd f l))
def tyZ:Array Value:=#[.int .i64 0,.string ⟨#[]⟩,.int .i64 0,.slice none 0 0]
theorem ziu(X:ByteArray)(w:World):Calls Tryz.prog 190 #[.string X] w λe w'=>e=.returned (.agg #[.int .i64 1,.string X,.int .i64 0,.slice none 0 0])/\Below w.heap.size w w':=by
 go_enter Tryz.func190,Tryz.ntmps190
 go_wp2
 exact ub (results_cell_row rfl _ _ w.heap.size 35 _ (0,0) _ rfl (tW _ _) Tryz.underlying35 rfl (by kernel_rfl)) rfl ⟨rfl,(ua _ w).alloc (tV _) _⟩
theorem Chg.pre {M:Nat->Prop} {w w':World} {o:Obj}(h:Chg M (w.alloc o) w'):Chg M w w':=((Chg.refl M w).alloc o).trans h
theorem Chg.set4 {M:Nat->Prop} {w w':World} {g:Nat}(h:Chg M w w')(b0 b1 b2 b3:Value)(hg:w.heap.size<=g):Chg M w ((((w'.setCell ⟨g,0,none⟩ b0).setCell ⟨g,1,none⟩ b1).setCell ⟨g,2,none⟩ b2).setCell ⟨g,3,none⟩ b3) :=
 (((h.setCell (p:=⟨g,0,none⟩) (.inl hg) _).setCell (p:=⟨g,1,none⟩) (.inl hg) _).setCell (p:=⟨g,2,none⟩) (.inl hg) _).setCell (p:=⟨g,3,none⟩) (.inl hg) _
theorem Rdr.set4 {S:Nat->Prop} {w:World} {b g:Nat} {l:List Tok}(h:Rdr S w b l)(b0 b1 b2 b3:Value)(hb:b≠g)(hS:∀k,S k->k≠g):Rdr S ((((w.setCell ⟨g,0,none⟩ b0).setCell ⟨g,1,none⟩ b1).setCell ⟨g,2,none⟩ b2).setCell ⟨g,3,none⟩ b3) b l :=
 h.keep (zan _ _ _ _ _ _ _ hb) (λk hk=>zan _ _ _ _ _ _ _ (hS k hk))
theorem RdV.set4 {S:Nat->Prop} {w:World} {g:Nat} {t:Ty} {v:Value}(h:RdV S w t v)(b0 b1 b2 b3:Value)(hS:∀k,S k->k≠g):RdV S ((((w.setCell ⟨g,0,none⟩ b0).setCell ⟨g,1,none⟩ b1).setCell ⟨g,2,none⟩ b2).setCell ⟨g,3,none⟩ b3) t v :=
 h.keep (λ_ h=>h) (λk hk=>zan _ _ _ _ _ _ _ (hS k hk))
def closed:Option (Ty × List Tok)->Option (Ty × List Tok)
 |none=>none
 |some x=>if isHd x.2 6 [41]=true then some (x.1,x.2.tail) else none
def paren(f:Nat)(l:List Tok):Option (Ty × List Tok):=if isHd l 6 [40]=true then closed (read f l.tail) else none
theorem zlH(O:Option (Ty × List Tok))(h:O=none):closed O=none:=by rw[h,closed]
theorem zjZ(O:Option (Ty × List Tok))(t:Ty)(r:List Tok)(h:O=some (t,r)):closed O=if isHd r 6 [41]=true then some (t,r.tail) else none:=by rw[h,closed]
theorem AllG.tail' {l:List Tok}(h:AllG l):AllG l.tail:=by
 cases l with
 |nil=>exact h
 |cons a r=>exact h.tail
theorem zaB(l:List Tok)(k:Nat)(X:List UInt8)(hk:k≠0)(h:isHd l k X=true):∃t r,l=t::r/\t.kind=k/\t.text=X:=by
 cases l with
 |nil=>simp[isHd,hd]at h;exact absurd h.1.symm hk
 |cons t r=>simp[isHd,hd]at h;exact⟨t,r,rfl,h.1,h.2⟩
theorem znr(f:Nat)(S:Nat->Prop)(b:Nat)(l:List Tok)(w:World)(h:Rdr S w b l)(hS:∀g,S g->g≠b/\g<w.heap.size)(hG:AllG l)(hl:l.length<=100000)(hf:4*l.length+2<=f+1)
  (IH:Reads S b 103 4 read f):Calls Tryz.prog 193 #[.pointer (some ⟨b,0,none⟩)] w (TPost S b l.length w (paren f l)):=by
 have aC:=h.lt;have hT:=zcR S b l 6 6 rfl ⟨#[40]⟩ (w.alloc (.cells tyZ 35)) (h.alloc _ (λg hg=>(hS g hg).2)) (λg hg=>⟨(hS g hg).1,by have:=(hS g hg).2;simp;omega⟩) hl (by decide);unfold tyZ at hT;have eb:(⟨#[40]⟩:ByteArray).data.toList=[40]:=rfl;rw[eb]at hT
 unfold paren;unfold took at hT;obtain⟨q,hq⟩:∃q,isHd l 6 [40]=q:=⟨_,rfl⟩;rw[hq]at hT ⊢
 have HS:=wJ hS;have HG:=wJ hG;clear eb h hS hG;cases q with
 |false =>
  clear hq hf IH HS HG;simp only[vy,vZ]at hT ⊢;obtain⟨n,hn⟩:∃n,l.length=n:=⟨_,rfl⟩;rw[hn]at hl ⊢
  clear hn hl;go_enter Tryz.func193,Tryz.ntmps193
  go_wp2_with fail
  refine hT.mono ?_;rintro e w1 ⟨rfl,r1,b1⟩;have cu:Blk w1 w.heap.size 35 #[.int .i64 0,.string ⟨#[]⟩,.int .i64 0,.slice none 0 0]:=Blk.chg (tW _ _) b1 (by unfold only;omega);obtain⟨a0,a1,a2,a3,r0,r1',r2,r3,ax⟩:=zae cu;have dT:=wJ cu;have B1:=wJ b1;clear cu b1 r1 hT;go_wp2_with fail
  try simp only[Exit.inBlock,Exit.then]
  refine ub (zaa rfl _ _ w.heap.size 35 _ (0,0) _ rfl (zai _ _ _ _ dT.out) Tryz.underlying35 rfl (by kernel_rfl)) rfl ?_;exact zaV S b n w _ _ _ 0 ⟨#[]⟩ 0 none 0 0 (B1.out.pre.set4 _ _ _ _ (tV _)) rfl rfl
 |true =>
  obtain⟨t0,r0,rfl,-,-⟩:=zaB _ _ _ (by decide) hq;simp only[wA,vR]at hT ⊢;have HL:Hid (r0.length<=100000/\4*r0.length+4<=f):=wJ (by simp at hl hf;omega);rw[ui]
  obtain⟨n,hn⟩:∃n,r0.length=n:=⟨_,rfl⟩;have HN:=wJ hn;rw[hn]
  have bq:=wJ IH;clear hq hf hl IH hn;obtain⟨O,hO⟩:∃O,read f r0=O:=⟨_,rfl⟩;obtain⟨O2,eg⟩:∃O2,closed O=O2:=⟨_,rfl⟩;rw[hO,eg]
  have HO:=wJ hO;have lp:=wJ eg;clear hO eg;go_enter Tryz.func193,Tryz.ntmps193
  go_wp2_with fail
  refine hT.mono ?_;rintro e w1 ⟨rfl,r1,b1⟩;have cu:Blk w1 w.heap.size 35 #[.int .i64 0,.string ⟨#[]⟩,.int .i64 0,.slice none 0 0]:=Blk.chg (tW _ _) b1 (by unfold only;omega);have h1:=b1.size;simp at h1;have jH:∀g,S g->g≠b/\g<w1.heap.size:=λg hg=>by have:=HS.out g hg;omega
  have hC:=bq.out w1 r0 r1 jH (AllG.tail HG.out) HL.out.1 HL.out.2;rw[HO.out,HN.out]at hC
  have dT:=wJ cu;have B1:=wJ b1.pre;have H1:=wJ h1;have ez:=wJ jH;clear cu b1 r1 hT h1 jH;go_wp2_with fail
  refine hC.mono ?_;rintro e w2 ⟨b2,K1,X1,Z1,A1,m1,c1,aB⟩;have cu:Blk w2 w.heap.size 35 #[.int .i64 0,.string ⟨#[]⟩,.int .i64 0,.slice none 0 0]:=Blk.chg dT.out b2 (by unfold only;omega);obtain⟨a0,a1,a2,a3,q0,q1,q2,q3,ax⟩:=zae cu;have h2:=b2.size;have H2:=wJ h2;have ar:=wJ cu;have B2:=wJ (B1.out.trans b2);clear cu hC h2;rcases aB with⟨ho,rfl⟩|⟨t,r,gD,ho,rfl,aq,hr⟩
  ·have cj:=wJ (lp.out.symm.trans (zlH O ho))
   clear ho b2;go_wp2_with fail
   go_region
   all_goals
    go_wp2_with fail
    try simp only[Exit.inBlock,Exit.then]
    refine ub (zaa rfl _ _ w.heap.size 35 _ (0,0) _ rfl ((zai _ _ _ _ ar.out).alloc _).drew Tryz.underlying35 rfl (by kernel_rfl)) rfl ?_;exact zaV S b (n+1) w _ _ _ K1 X1 Z1 A1 m1 c1 (((B2.out.set4 _ _ _ _ (tV _)).alloc _).drew) cj.out rfl
  ·have kE:∀g,S g->g≠b/\g<w2.heap.size:=λg hg=>by have:=ez.out g hg;have:=H2.out;omega
   have rG:r.length<=100000:=by have:=HL.out.1;have:=HN.out;omega
   obtain⟨q',nj⟩:∃q',isHd r 6 [41]=q':=⟨_,rfl⟩;have cj:Hid (O2=if q'=true then some (t,r.tail) else none):=wJ (lp.out.symm.trans ((zjZ O t r ho).trans (by rw[nj])));have mD:b≠w2.heap.size:=by have:=hr.lt;omega
   have fF:Hid (∀W,Blk W w2.heap.size 35 #[.int .i64 K1,.string X1,.int .i64 Z1,.slice A1 m1 c1] ->
     (W.cell? ⟨w2.heap.size,0,none⟩=some (.int .i64 K1)/\W.cell? ⟨w2.heap.size,1,none⟩=some (.string X1)/\W.cell? ⟨w2.heap.size,2,none⟩=some (.int .i64 Z1)/\W.cell? ⟨w2.heap.size,3,none⟩=some (.slice A1 m1 c1))) :=
    wJ λW aa=>⟨aa.cell 0,aa.cell 1,aa.cell 2,aa.cell 3⟩
   have BKX:Hid (∀W,Chg (only b) (w2.alloc (.cells #[.int .i64 K1,.string X1,.int .i64 Z1,.slice A1 m1 c1] 35)) W->Blk W w2.heap.size 35 #[.int .i64 K1,.string X1,.int .i64 Z1,.slice A1 m1 c1]) :=
    wJ λW hW=>Blk.chg (tW _ _) hW (by unfold only;omega)
   have bf:w2.heap.size≠w.heap.size:=by omega
   have oT:=wJ gD;have bD:=wJ aq;have cH:Hid (∀W,Rdr S W b r->w2.heap.size<=W.heap.size->Calls Tryz.prog 136 #[.pointer (some ⟨b,0,none⟩),.int .i64 6,.string ⟨#[41]⟩] W λe w'=>e=.returned (.bool q')/\Rdr S w' b (if q'=true then r.tail else r)/\Chg (only b) W w'):=by
    refine wJ λW hR aG=>?_;have:=zcR S b r 6 6 rfl ⟨#[41]⟩ W hR (λg hg=>by have:=kE g hg;omega) rG (by decide);have eb:(⟨#[41]⟩:ByteArray).data.toList=[41]:=rfl;rw[eb,took,nj]at this
    exact this
   have R4:Hid (Rdr S (w2.alloc (.cells #[.int .i64 K1,.string X1,.int .i64 Z1,.slice A1 m1 c1] 35)).drew b r):=wJ (hr.alloc _ (λg hg=>(kE g hg).2));have B4:Hid (Chg (only b) (w2.alloc (.cells #[.int .i64 K1,.string X1,.int .i64 Z1,.slice A1 m1 c1] 35)) (w2.alloc (.cells #[.int .i64 K1,.string X1,.int .i64 Z1,.slice A1 m1 c1] 35)).drew):=wJ (Chg.refl _ _).drew;have RES:Hid (∀W,Chg (only b) (w2.alloc (.cells #[.int .i64 K1,.string X1,.int .i64 Z1,.slice A1 m1 c1] 35)) W->Blk W w.heap.size 35 #[.int .i64 0,.string ⟨#[]⟩,.int .i64 0,.slice none 0 0]) :=
    wJ λW hW=>(ar.out.alloc _).chg hW (by unfold only;omega)
   have hnt:∀(x:Bool) (w:World),(Op.unary .not (.bool x)).run Tryz.prog w=.ok (.bool (!x)) w:=λ_ _=>rfl;obtain⟨x0,x1,x2,x3⟩:=fF.out _ (BKX.out _ (Chg.refl _ _));clear hr aq kE rG nj gD ho b2;cases q'
   all_goals
    go_wp2_with fail
    go_region_held3 (λW=>W.cell? ⟨w2.heap.size,0,none⟩=some (.int .i64 K1)/\W.cell? ⟨w2.heap.size,1,none⟩=some (.string X1)/\W.cell? ⟨w2.heap.size,2,none⟩=some (.int .i64 Z1)/\W.cell? ⟨w2.heap.size,3,none⟩=some (.slice A1 m1 c1)) (first|(with_reducible exact fF.out _ (BKX.out _ B4.out))|(with_reducible exact fF.out _ (BKX.out _ B5.out))|(with_reducible exact fF.out _ (zfb bf (BKX.out _ B5.out)))) (((with_reducible refine(cH.out _ R4.out (by simp)).mono ?_);rintro e w5 ⟨rfl,r5,b5⟩;have B5:=wJ (B4.out.trans b5);have R5:=wJ r5;obtain⟨z0,z1,z2,z3,y0,y1,y2,y3,hlz⟩:=zae (RES.out _ B5.out);clear b5 r5))
   ·go_wp2_with fail
    try simp only[Exit.inBlock,Exit.then]
    refine ub (zaa rfl _ _ w.heap.size 35 _ (0,0) _ rfl (zai _ _ _ _ (RES.out _ B5.out)) Tryz.underlying35 rfl (by kernel_rfl)) rfl ?_;exact zaV S b (n+1) w _ _ _ K1 X1 Z1 A1 m1 c1 ((((B2.out.alloc _).trans B5.out)).set4 _ _ _ _ (tV _)) cj.out rfl
   ·go_wp2_with fail
    try simp only[Exit.inBlock,Exit.then]
    refine ub (zaa rfl _ _ w.heap.size 35 _ (0,0) _ rfl (zai _ _ _ _ (RES.out _ B5.out)) Tryz.underlying35 rfl (by kernel_rfl)) rfl ?_;have h5:=B5.out.size;have h1:=H1.out;have h2:=H2.out;have gD:=oT.out;simp at h5;refine za0 S b (n+1) w _ _ _ K1 X1 Z1 A1 m1 c1 t r.tail ((((B2.out.alloc _).trans B5.out)).set4 _ _ _ _ (tV _)) (by simp;omega) cj.out rfl ?_ (R5.out.set4 _ _ _ _ (by omega) (λk hk=>by have:=HS.out k hk;omega));have hv:RdV (λg=>w1.heap.size<=g/\g<w2.heap.size) w5 t (.agg #[.int .i64 K1,.string X1,.int .i64 Z1,.slice A1 m1 c1]) :=
     bD.out.keep (λ_ h=>h) (λg hg=>(B5.out.block g (by simp;omega) (by unfold only;omega)).trans (uc _ _ _ hg.2))
    exact(hv.set4 _ _ _ _ (λk hk=>by omega)).keep (λg hg=>by simp;omega) (λ_ _=>rfl)
end Go.Proofs.YtknkclefoiohpaaGreatDoor
namespace Go.Proofs.YtknkclefoiohpaaGreatDoor
open Go.RowKit Lx Tx
set_option maxRecDepth 100000
theorem zj0(t:Tok)(h:Lx.Good t)(hk:t.kind=5):∃ds,t.text=63::ds/\ds≠[]:=by
 obtain⟨h1,h2,_⟩:=h;rw[hk]at h2
 cases hx:t.text with
 |nil=>exact absurd hx h1
 |cons c r =>
  rw[hx]at h2
  rw[first]at h2
  split at h2
  ·exfalso
   unfold word at h2;split at h2
   ·injection h2 with a _;omega
   ·injection h2 with a _
    unfold wordKind at a;split at a
    ·omega
    ·split at a <;> omega
  ·split at h2
   ·exfalso
    rcases zaD (c::r) with e|⟨e,_,_⟩ <;> rw[e]at h2 <;> injection h2 with a _ <;> omega
   ·split at h2
    ·rename_i hc
     subst hc;refine⟨r,rfl,λhr=>?_⟩;subst hr;unfold zbf at h2;split at h2
     ·injection h2 with a _;omega
     ·rename_i hn
      exact hn (by decide)
    ·exfalso
     unfold sign at h2;split at h2
     ·injection h2 with a _;omega
     ·split at h2
      ·injection h2 with a _;omega
      ·injection h2 with a _;omega
theorem zfU(l:List UInt8):∀acc,(∀d∈l,isDig d=true)->Lib.decFrom acc l=some (l.foldl (λn c=>10*n+(c.toNat-48)) acc):=by
 induction l with
 |nil=>intro acc _;rfl
 |cons a r ih =>
  intro acc h;have ha:=h a ve;have hd:Lib.digitVal a=some (a.toNat-48):=by
   unfold Lib.digitVal;unfold isDig at ha;simp at ha;rw[ud ha]
  rw[Lib.decFrom,hd,vF]
  simp only;rw[ih _ (λd hd=>h d (vp _ hd)),Nat.mul_comm acc 10]
theorem ziv(l:List UInt8)(h0:l≠[])(h:∀d∈l,isDig d=true):Lib.atoi l=some (numOf l:Nat):=by
 cases l with
 |nil=>exact absurd rfl h0
 |cons a r =>
  have ha:=h a ve;unfold isDig at ha;simp at ha;have h1:(a==45)=false:=by rw[uo];rintro rfl;exact absurd ha.1 (by decide)
  have h2:(a==43)=false:=by rw[uo];rintro rfl;exact absurd ha.1 (by decide)
  rw[Lib.atoi,h1,h2]
  simp only[vy,vZ];rw[Lib.decNat]
  simp only[List.isEmpty_cons,vy,vZ];rw[zfU _ 0 h]
  rfl
theorem below_bytesWorld(w:World)(t:ByteArray):Below w.heap.size w (Lib.bytesWorld w 5 t):=by
 unfold Lib.bytesWorld;exact Lib.below_freeze (((ua _ w).drew).alloc (tV _) _) (p:=⟨w.heap.size,_,none⟩) (tV _) _
theorem zj1(o:Option (Ty × List Tok)):closed o=match o with|none=>none|some (x,r2)=>(eat (isSign · [41]) r2).map λr3=>(x,r3):=by
 cases o with
 |none=>rfl
 |some y =>
  obtain⟨x,r2⟩:=y;rw[closed]
  cases r2 with
  |nil=>simp[isHd,hd,eat]
  |cons t r =>
   show(if(t.kind==6&&t.text==[41])=true then some (x,r) else none)=(if(t.kind==6&&t.text==[41])=true then some r else none).map λr3=>(x,r3);cases (t.kind==6&&t.text==[41]) <;> rfl
theorem zfC(t:Tok)(h:Lx.Good t)(hx:t.text=[40]):t.kind=6:=by
 have h2:=h.2.1;rw[hx]at h2
 have:first [40]=(6,1):=by decide
 rw[this]at h2
 injection h2 with a _;exact a.symm
theorem zoX(f:Nat)(l:List Tok)(hG:AllG l):atom (f+1) l=if(hd l).kind=1 then some (.var (hd l).text,l.tail) else if(hd l).kind=2 then some (.con (hd l).text [],l.tail) else
  if(hd l).kind=5 then some (.mt (numOf ((hd l).text.drop 1)),l.tail) else paren f l:=by
 cases l with
 |nil=>rw[atom];simp[hd,paren,isHd]
 |cons t r =>
  show atom (f+1) (t::r)=if t.kind=1 then some (.var t.text,r) else if t.kind=2 then some (.con t.text [],r) else if t.kind=5 then some (.mt (numOf (t.text.drop 1)),r) else paren f (t::r)
  rw[atom]
  by_cases k1:t.kind=1
  ·rw[ud k1,ud k1]
  ·rw[ue k1,ue k1]
   by_cases k2:t.kind=2
   ·rw[ud k2,ud k2]
   ·rw[ue k2,ue k2]
    by_cases k5:t.kind=5
    ·rw[ud k5,ud k5]
    ·rw[ue k5,ue k5]
     unfold paren;rw[zj1]
     show _=if(t.kind==6&&t.text==[40])=true then(match read f r with|none=>none|some (x,r2)=>(eat (isSign · [41]) r2).map λr3=>(x,r3)) else none
     by_cases hx:t.text=[40]
     ·rw[ud hx,ud (by rw[hx,zfC t (hG t ve) hx];rfl)]
      cases read f r with
      |none=>rfl
      |some y=>rfl
     ·rw[ue hx,ue (by simp[hx])]
theorem zbr {l:List Tok}(h:(hd l).kind≠0):∃r,l=hd l::r/\l.tail=r:=by
 cases l with
 |nil=>exact absurd rfl h
 |cons t r=>exact⟨r,rfl,rfl⟩
structure AnyK (S:Nat->Prop) (b m n:Nat) (l r:List Tok) (X:ByteArray):Prop where
 yes:∀(K:Int) (w1:World),K=m->m≠0->Rdr S w1 b l->(∀g,S g->g≠b/\g<w1.heap.size)->Calls Tryz.prog 162 #[.pointer (some ⟨b,0,none⟩),.int .i64 K] w1 λe w'=>e=.returned (.tuple #[.string X,.bool true])/\Rdr S w' b r/\Chg (only b) w1 w'/\r.length<n
 no:∀(K:Int) (k:Nat) (w1:World),K=k->k≠0->m≠k->Rdr S w1 b l->(∀g,S g->g≠b/\g<w1.heap.size)->Calls Tryz.prog 162 #[.pointer (some ⟨b,0,none⟩),.int .i64 K] w1 λe w'=>e=.returned (.tuple #[.string ⟨#[]⟩,.bool false])/\Rdr S w' b l/\Chg (only b) w1 w'
theorem anyK(S:Nat->Prop)(b m n:Nat)(l r:List Tok)(X:ByteArray)(hl:l.length<=100000)(hm:(hd l).kind=m)(hX:(⟨(hd l).text.toArray⟩:ByteArray)=X)(hn:l.length=n)(hr:l.tail=r):AnyK S b m n l r X:=by
 subst hm hX hn hr;refine⟨λK w1 hK h0 h hS=>?_,λK k w1 hK h0 bf h hS=>?_⟩
 ·refine(zdZ S b l _ K hK w1 h hS hl h0).mono ?_
  rintro e w' ⟨rfl,h2,h3⟩;unfold anyR at h2;rw[ud rfl]at h2
  refine⟨by unfold anyT;rw[ud rfl];simp,h2,h3,?_⟩;obtain⟨r,e1,e2⟩:=zbr h0;rw[e2,e1];simp
 ·refine(zdZ S b l k K hK w1 h hS hl h0).mono ?_
  rintro e w' ⟨rfl,h2,h3⟩;unfold anyR at h2;rw[ue bf]at h2
  exact⟨by unfold anyT;rw[ue bf,uo.2 bf],h2,h3⟩
theorem zi9 {b:Nat} {S:Nat->Prop} {w w1:World} {cs:Array Value} {t:TypeId}(aC:b<w.heap.size)(hS:∀g,S g->g≠b/\g<w.heap.size)(c:Chg (only b) (w.alloc (.cells cs t)) w1):(∀g,S g->g≠b/\g<w1.heap.size)/\Blk w1 w.heap.size t cs/\Chg (only b) w w1:=by
 have hs:=c.size;simp at hs;exact⟨λg hg=>by have:=hS g hg;omega,Blk.chg (tW _ _) c (by unfold only;omega),c.pre⟩
theorem zoY(f:Nat)(S:Nat->Prop)(b:Nat)(l:List Tok)(w:World)(h:Rdr S w b l)(hS:∀g,S g->g≠b/\g<w.heap.size)(hG:AllG l)(hl:l.length<=100000)(hf:4*l.length+2<=f+1)
  (IH:Reads S b 103 4 read f):Calls Tryz.prog 174 #[.pointer (some ⟨b,0,none⟩)] w (TPost S b l.length w (atom (f+1) l)):=by
 have aC:=h.lt;rw[zoX f l hG]
 have R0:=wJ (h.alloc (.cells tyZ 35) (λg hg=>(hS g hg).2));have S0:Hid (∀g,S g->g≠b/\g<(w.alloc (.cells tyZ 35)).heap.size):=wJ λg hg=>⟨(hS g hg).1,by have:=(hS g hg).2;simp;omega⟩;have jL:=wJ (λ(w1:World) (c:Chg (only b) (w.alloc (.cells tyZ 35)) w1)=>zi9 aC hS c);unfold tyZ at R0 S0 jL;obtain⟨m,hm⟩:∃m,(hd l).kind=m:=⟨_,rfl⟩;obtain⟨X,hX⟩:∃X:ByteArray,⟨(hd l).text.toArray⟩=X:=⟨_,rfl⟩;have pO:(hd l).text=X.data.toList:=by rw[<-hX]
 obtain⟨n,hn⟩:∃n,l.length=n:=⟨_,rfl⟩;obtain⟨r,hr⟩:∃r,l.tail=r:=⟨_,rfl⟩;have TK:=wJ (anyK S b m n l r X hl hm hX hn hr);have HG:Hid (m=5->∃ds,X.data.toList=63::ds/\ds≠[]/\(∀d∈ds,isDig d=true)/\ds.length<=6):=by
  refine wJ λh5=>?_;obtain⟨r,e1,_⟩:=zbr (by rw[hm,h5];decide);have hg:=hG (hd l) (by rw[e1];simp[hd]);obtain⟨ds,d1,d2⟩:=zj0 _ hg (by rw[hm,h5]);obtain⟨g1,g2,_⟩:=zgy _ hg (by rw[hm,h5]);rw[d1]at g1 g2
  exact⟨ds,by rw[<-pO,d1],d2,g1,g2⟩
 have PAR:Hid (∀w1,Rdr S w1 b l->(∀g,S g->g≠b/\g<w1.heap.size)->Calls Tryz.prog 193 #[.pointer (some ⟨b,0,none⟩)] w1 (TPost S b l.length w1 (paren f l))) :=
  wJ λw1 hr hs=>znr f S b l w1 hr hs hG hl hf IH
 have HS:=wJ hS;rw[hn]at PAR ⊢
 rw[hm,pO,hr]
 obtain⟨O,hO⟩:∃O,paren f l=O:=⟨_,rfl⟩;rw[hO]at PAR ⊢
 clear h hS hG hl hf IH hm hX pO hn hr hO;by_cases k1:m=1
 ·subst k1
  rw[ud rfl]
  go_enter Tryz.func174,Tryz.ntmps174
  go_wp2_with fail
  refine(TK.out.yes 1 _ rfl (by decide) R0.out S0.out).mono ?_;rintro e w2 ⟨rfl,aw,b2,ah⟩;obtain⟨bo,aa,eQ⟩:=jL.out w2 b2;obtain⟨a0,a1,a2,a3,q0,q1,q2,q3,ax⟩:=zae aa;have ar:=wJ aa;have dD:=wJ aw;have C2:=wJ eQ;have bY:=wJ ah;have gJ:=wJ bo;clear aa aw b2 ah bo eQ;go_wp2_with fail
  refine(ziu X w2).mono ?_;rintro e w3 ⟨rfl,b3⟩;have aa:=ar.out.below b3 ax;obtain⟨a0,a1,a2,a3,q0,q1,q2,q3,fL⟩:=zae aa;have bU:=wJ aa;have B3:=wJ b3;clear aa b3;go_wp2_with fail
  try simp only[Exit.inBlock,Exit.then]
  refine ub (zaa rfl _ _ w.heap.size 35 _ (0,0) _ rfl (zai _ _ _ _ bU.out) Tryz.underlying35 rfl (by kernel_rfl)) rfl ?_;exact za0 S b n w _ _ _ 1 X 0 none 0 0 (.var X.data.toList) r ((C2.out.below B3.out).set4 _ _ _ _ (tV _)) bY.out rfl rfl ⟨none,0,rfl,by rw[Args];trivial⟩
   ((dD.out.below B3.out (λg hg=>(gJ.out g hg).2)).set4 _ _ _ _ (by omega) (λk hk=>by have:=HS.out k hk;omega))
 ·rw[ue k1]
  have qK:=wJ (TK.out.no 1 1 _ rfl (by decide) k1 R0.out S0.out);by_cases k2:m=2
  ·subst k2
   rw[ud rfl]
   go_enter Tryz.func174,Tryz.ntmps174
   go_wp2_with fail
   refine qK.out.mono ?_;rintro e w1 ⟨rfl,cF,b1⟩;obtain⟨bj,-,-⟩:=jL.out w1 b1;have dA:=wJ cF;have ez:=wJ bj;have B1:=wJ b1;clear qK b1 cF bj;go_wp2_with fail
   refine(TK.out.yes 2 _ rfl (by decide) dA.out ez.out).mono ?_;rintro e w2 ⟨rfl,aw,b2,ah⟩;obtain⟨bo,aa,eQ⟩:=jL.out w2 (B1.out.trans b2);obtain⟨a0,a1,a2,a3,q0,q1,q2,q3,ax⟩:=zae aa;have ar:=wJ aa;have dD:=wJ aw;have C2:=wJ eQ;have bY:=wJ ah;have gJ:=wJ bo;clear aa aw b2 ah bo eQ;go_wp2_with fail
   try simp only[Exit.inBlock,Exit.then]
   refine ub (zaa rfl _ _ w.heap.size 35 _ (0,0) _ rfl (zai _ _ _ _ ar.out) Tryz.underlying35 rfl (by kernel_rfl)) rfl ?_;exact za0 S b n w _ _ _ 3 X 0 none 0 0 (.con X.data.toList []) r (C2.out.set4 _ _ _ _ (tV _)) bY.out rfl rfl ⟨none,0,rfl,by rw[Args];intro h;exact absurd rfl h⟩
    (dD.out.set4 _ _ _ _ (by omega) (λk hk=>by have:=HS.out k hk;omega))
  ·rw[ue k2]
   have K2:=wJ k2;by_cases k5:m=5
   ·subst k5
    rw[ud rfl]
    obtain⟨ds,g1,g2,g3,g4⟩:=HG.out rfl;have hX1:(⟨(Lib.trimPrefix X.data.toList [63]).toArray⟩:ByteArray)=⟨ds.toArray⟩:=by rw[g1];rfl
    have kC:=λw=>Tryz.strings_TrimPrefix X ⟨#[63]⟩ w;have eb:(⟨#[63]⟩:ByteArray).data.toList=[63]:=rfl;rw[eb,hX1]at kC
    have iU:(⟨ds.toArray⟩:ByteArray).data.toList=ds:=rfl;have qJ:=λw=>Tryz.strconv_Atoi ⟨ds.toArray⟩ (numOf ds:Nat) (by rw[vf,iU];omega) (by rw[iU];exact ziv ds g2 g3) w;have kv:numOf (X.data.toList.drop 1)=numOf ds:=by rw[g1];rfl
    obtain⟨N,qC⟩:∃N,numOf ds=N:=⟨_,rfl⟩;rw[kv,qC]
    rw[qC]at qJ
    obtain⟨D,hD⟩:∃D:ByteArray,⟨ds.toArray⟩=D:=⟨_,rfl⟩;rw[hD]at kC qJ
    clear eb hX1 iU kv qC hD g1 g2 g3 g4;go_enter Tryz.func174,Tryz.ntmps174
    go_wp2_with fail
    refine qK.out.mono ?_;rintro e w1 ⟨rfl,cF,b1⟩;obtain⟨bj,-,-⟩:=jL.out w1 b1;have dA:=wJ cF;have ez:=wJ bj;have B1:=wJ b1;clear qK b1 cF bj;go_wp2_with fail
    refine(TK.out.no 2 2 _ rfl (by decide) (by decide) dA.out ez.out).mono ?_;rintro e w11 ⟨rfl,cF,b1⟩;obtain⟨bj,-,-⟩:=jL.out w11 (B1.out.trans b1);replace dA:=wJ cF;replace ez:=wJ bj;replace B1:=wJ (B1.out.trans b1);clear b1 cF bj;go_wp2_with fail
    refine(TK.out.yes 5 _ rfl (by decide) dA.out ez.out).mono ?_;rintro e w2 ⟨rfl,aw,b2,ah⟩;obtain⟨bo,aa,eQ⟩:=jL.out w2 (B1.out.trans b2);obtain⟨a0,a1,a2,a3,q0,q1,q2,q3,ax⟩:=zae aa;have ar:=wJ aa;have dD:=wJ aw;have C2:=wJ eQ;have bY:=wJ ah;have gJ:=wJ bo;clear aa aw b2 ah bo eQ;go_wp2_with fail
    refine(kC w2).mono ?_;rintro e w3 ⟨rfl,rfl⟩;go_wp2_with fail
    refine(qJ w3).mono ?_;rintro e w4 ⟨rfl,tt,rfl⟩;have dY:=below_bytesWorld w3 tt;have aa:=ar.out.below dY ax;obtain⟨W,hW⟩:∃W,Lib.bytesWorld w3 5 tt=W:=⟨_,rfl⟩;rw[hW]at aa dY ⊢
    obtain⟨a0,a1,a2,a3,q0,q1,q2,q3,fL⟩:=zae aa;have bU:=wJ aa;have B3:=wJ dY;clear aa dY hW;go_wp2_with fail
    go_region
    all_goals
     go_wp2_with fail
     try simp only[Exit.inBlock,Exit.then]
     refine ub (zaa rfl _ _ w.heap.size 35 _ (0,0) _ rfl (zai _ _ _ _ bU.out).drew Tryz.underlying35 rfl (by kernel_rfl)) rfl ?_;exact za0 S b n w _ _ _ 2 ⟨#[]⟩ (N:Nat) none 0 0 (.mt N) r (((C2.out.below B3.out).set4 _ _ _ _ (tV _)).drew) bY.out rfl rfl ⟨none,0,rfl,by rw[Args];trivial⟩
      ((dD.out.below B3.out (λg hg=>(gJ.out g hg).2)).set4 _ _ _ _ (by omega) (λk hk=>by have:=HS.out k hk;omega))
   ·rw[ue k5]
    have K5:=wJ k5;go_enter Tryz.func174,Tryz.ntmps174
    go_wp2_with fail
    refine qK.out.mono ?_;rintro e w1 ⟨rfl,cF,b1⟩;obtain⟨bj,-,-⟩:=jL.out w1 b1;have dA:=wJ cF;have ez:=wJ bj;have B1:=wJ b1;clear qK b1 cF bj;go_wp2_with fail
    refine(TK.out.no 2 2 _ rfl (by decide) K2.out dA.out ez.out).mono ?_;rintro e w11 ⟨rfl,cF,b1⟩;obtain⟨bj,-,-⟩:=jL.out w11 (B1.out.trans b1);replace dA:=wJ cF;replace ez:=wJ bj;replace B1:=wJ (B1.out.trans b1);clear b1 cF bj;go_wp2_with fail
    refine(TK.out.no 5 5 _ rfl (by decide) K5.out dA.out ez.out).mono ?_;rintro e w12 ⟨rfl,cF,b1⟩;obtain⟨bj,aa,fl⟩:=jL.out w12 (B1.out.trans b1);replace dA:=wJ cF;replace ez:=wJ bj;have HB:=wJ aa;have tU:=wJ fl;clear b1 cF bj aa fl B1;go_wp2_with fail
    refine(PAR.out w12 dA.out ez.out).mono ?_;rintro e w2 ⟨b2,K1,X1,Z1,A1,m1,c1,aB⟩;have aa:=HB.out.chg b2 (by unfold only;omega);obtain⟨a0,a1,a2,a3,q0,q1,q2,q3,lD⟩:=zae aa;have ar:=wJ aa;have C2:=wJ (tU.out.trans b2);have h1:=tU.out.size;have h1':=HB.out.lt;have H1:=wJ h1;have H1':=wJ h1';clear aa b2 h1 h1';rcases aB with⟨ho,rfl⟩|⟨t,r',gD,ho,rfl,aq,hr⟩
    ·have HO:=wJ ho
     clear ho;go_wp2_with fail
     try simp only[Exit.inBlock,Exit.then]
     refine ub (zaa rfl _ _ w.heap.size 35 _ (0,0) _ rfl (zai _ _ _ _ ar.out) Tryz.underlying35 rfl (by kernel_rfl)) rfl ?_;exact zaV S b n w _ _ _ K1 X1 Z1 A1 m1 c1 (C2.out.set4 _ _ _ _ (tV _)) HO.out rfl
    ·have HO:=wJ ho
     have bD:=wJ aq;have dD:=wJ hr;have oT:=wJ gD;clear ho aq hr gD;go_wp2_with fail
     try simp only[Exit.inBlock,Exit.then]
     refine ub (zaa rfl _ _ w.heap.size 35 _ (0,0) _ rfl (zai _ _ _ _ ar.out) Tryz.underlying35 rfl (by kernel_rfl)) rfl ?_;refine za0 S b n w _ _ _ K1 X1 Z1 A1 m1 c1 t r' (C2.out.set4 _ _ _ _ (tV _)) oT.out HO.out rfl ?_ (dD.out.set4 _ _ _ _ (by omega) (λk hk=>by have:=HS.out k hk;omega));have h1:=H1'.out;exact(bD.out.set4 _ _ _ _ (λk hk=>by omega)).keep (λg hg=>by have:=H1.out;simp;omega) (λ_ _=>rfl)
set_option maxRecDepth 100000
theorem zoZ:(Tryz.prog.info? 35).map (λi=>(i.zero,i.size,i.bytes))=some (some (.agg #[.int .i64 0,.string ⟨#[]⟩,.int .i64 0,.slice none 0 0]),4,56):=by kernel_rfl
def zcn:List Tok->Bool
 |[]=>false
 |t::_=>atomic t
theorem zns(l:List Tok)(hG:AllG l):zcn l=((hd l).kind==1 ||(hd l).kind==5 ||(hd l).kind==2||isHd l 6 [40]):=by
 cases l with
 |nil=>rfl
 |cons t r =>
  show(t.kind==1||t.kind==5||t.kind==2||t.text==[40])=(t.kind==1||t.kind==5||t.kind==2 ||(t.kind==6&&t.text==[40]));by_cases hx:t.text=[40]
  ·rw[zfC t (hG t ve) hx];rfl
  ·rw[uo.2 hx,Bool.and_false]
theorem zlI(S:Nat->Prop)(b:Nat)(l:List Tok)(w:World)(h:Rdr S w b l)(hS:∀g,S g->g<w.heap.size)(hG:AllG l)(hl:l.length<=100000):Calls Tryz.prog 175 #[.pointer (some ⟨b,0,none⟩)] w λe w'=>e=.returned (.bool (zcn l))/\Below w.heap.size w w':=by
 have hN:=zfT S b l w h hl;have HA:Hid (∀w1,Below w.heap.size w w1->Calls Tryz.prog 168 #[.pointer (some ⟨b,0,none⟩),.int .i64 6,.string ⟨#[40]⟩] w1 λe w'=>e=.returned (.bool (isHd l 6 [40]))/\Below w1.heap.size w1 w') :=
  wJ λw1 b1=>znO S b l 6 6 rfl ⟨#[40]⟩ w1 (h.below b1 hS) hl
 unfold tokA at hN;rw[zns l hG]
 obtain⟨m,hm⟩:∃m,(hd l).kind=m:=⟨_,rfl⟩;obtain⟨X,hX⟩:∃X:ByteArray,⟨(hd l).text.toArray⟩=X:=⟨_,rfl⟩;obtain⟨a,ha⟩:∃a,(hd l).at_=a:=⟨_,rfl⟩;obtain⟨q,hq⟩:∃q,isHd l 6 [40]=q:=⟨_,rfl⟩;rw[hm,hX,ha]at hN
 rw[hq]at HA
 rw[hm,hq]
 have hfl:=ze9;clear h hS hG hl hm hX ha hq;by_cases k1:m=1
 ·subst k1
  go_enter Tryz.func175,Tryz.ntmps175
  go_wp2_with (go_at_call 172;refine hN.mono ?_;rintro e w1 ⟨rfl,b1⟩)
  go_ret
  exact⟨rfl,b1⟩
 ·have d1:=zbO m 1 1 rfl k1
  have n1:=uo.2 k1;by_cases k5:m=5
  ·subst k5
   go_enter Tryz.func175,Tryz.ntmps175
   go_wp2_with (go_at_call 172;refine hN.mono ?_;rintro e w1 ⟨rfl,b1⟩)
   go_ret
   exact⟨rfl,b1⟩
  ·have d5:=zbO m 5 5 rfl k5
   have n5:=uo.2 k5;by_cases k2:m=2
   ·subst k2
    go_enter Tryz.func175,Tryz.ntmps175
    go_wp2_with (go_at_call 172;refine hN.mono ?_;rintro e w1 ⟨rfl,b1⟩)
    go_ret
    exact⟨rfl,b1⟩
   ·have d2:=zbO m 2 2 rfl k2
    have n2:=uo.2 k2;rw[n1,n2,n5]
    clear n1 n2 n5 k1 k2 k5;go_enter Tryz.func175,Tryz.ntmps175
    go_wp2_with fail
    refine hN.mono ?_;rintro e w1 ⟨rfl,b1⟩;have B1:=wJ b1;clear b1;go_wp2_with fail
    refine(HA.out w1 B1.out).mono ?_;rintro e w2 ⟨rfl,b2⟩;go_wp2_with fail
    go_ret
    exact⟨rfl,B1.out.trans (b2.mono B1.out.size)⟩
theorem zhU {b:Nat} {w w':World}(h:Chg (only b) w w'):w.grownBy w' (some b):=⟨h.os,h.tape,h.output,h.size,λi hi bf=>h.block i hi (λe=>bf (by rw[show i=b from e]))⟩
theorem zcg {b B:Nat} {e:TypeId} {size n:Nat} {v:Value} {xs:List Value} {w w':World}(h:w.ownsRow B e size v n xs)(hc:Chg (only b) w w')(hb:b<B):w'.ownsRow B e size v n xs :=
 h.kept (zhU hc) (.inr (λe=>by have:=(h.lt b e).1;omega))
theorem Built.nextC {b B:Nat} {e:TypeId} {w w1 w2 w3:World} {l:List Ty} {x:Ty} {v v':Value} {vs:List Value} {k z:Int} {s:ByteArray} {A:Option Addr} {m c:Nat}
  (hb:b<B)(hB:B<=w.heap.size)(ae:w.ownsRow B e 4 v l.length vs)(ao:TyRow (λg=>(False\/B<=g/\g<w.heap.size)/\some g≠v.ownBlock) w l vs)
  (b1:Chg (only b) w w1)(hr:RdV (λg=>w.heap.size<=g/\g<w1.heap.size) w1 x (.agg #[.int .i64 k,.string s,.int .i64 z,.slice A m c]))(b2:Below w1.heap.size w1 w2)
  (ho:w3.ownsRow B e 4 v' (l.length+1) (vs++[.int .i64 k,.string s,.int .i64 z,.slice A m c]))(hg:w2.grownBy w3 v.ownBlock)(aH:v'.ownBlock=v.ownBlock\/v'.ownBlock=some w2.heap.size):Built (λ_=>False) B e w3 (l++[x]) v':=by
 obtain⟨A',c',hv,ha⟩:=hr;injection hv with hv;have hv:=uC Array.toList hv;simp only[vH,Value.int.injEq,Value.string.injEq,Value.slice.injEq,wz,wj]at hv;obtain⟨rfl,rfl,rfl,rfl,rfl,rfl⟩:=hv;have ah:=ae.lt;have s1:=b1.size;have s2:=b2.size;have hk:∀g,g<w.heap.size->g≠b->w2.heap[g]?=w.heap[g]?:=λg hg bf=>(b2.block g (by omega)).trans (b1.block g hg bf);refine Built.snoc (w:=w2) (c:=c) (λ_ h=>h.elim) (by omega) (TyRow.keep (λg h=>?_) (λg h=>?_) l vs ao) (Args.keep (λg h=>?_) (λg h=>?_) x A ha) ho hg aH
 ·refine⟨?_,h.2⟩
  rcases h.1 with h1|h1
  ·exact h1.elim
  ·exact .inr ⟨h1.1,by omega⟩
 ·rcases h.1 with h1|h1
  ·exact h1.elim
  ·exact hk g h1.2 (by omega)
 ·refine⟨.inr ⟨by omega,by omega⟩,λe=>?_⟩
  have:=ah _ e.symm;omega
 ·exact b2.block g (by omega)
theorem zo0(f:Nat)(l:List Tok)(h:zcn l=true)(ho:atom f l=none):args (f+1) l=none:=by
 cases l with
 |nil=>simp[zcn]at h
 |cons t r=>rw[args];rw[zcn]at h;simp only[h,wA,ho]
theorem znt(f:Nat)(l:List Tok)(h:zcn l=true)(x:Ty)(r:List Tok)(ho:atom f l=some (x,r)):args (f+1) l=(args f r).map λy=>(x::y.1,y.2):=by
 cases l with
 |nil=>simp[zcn]at h
 |cons t r=>rw[args];rw[zcn]at h;simp only[h,wA,ho]
theorem znu(f:Nat)(l:List Tok)(h:zcn l=false):args (f+1) l=some ([],l):=by
 cases l with
 |nil=>rw[args]
 |cons t r=>rw[args];rw[zcn]at h;simp only[h,vy,vZ]
def zp1(S:Nat->Prop)(b f g4:Nat)(X:ByteArray)(r0:List Tok)(w:World)(gg:Nat)(wr:World):Prop :=
 ∃l f' done v',gg=l.length/\Rdr S wr b l/\(∀g,S g->g≠b/\g<wr.heap.size)/\AllG l/\l.length<=r0.length/\4*l.length+3<=f'/\f'<=f/\Hid (args f r0=(args f' l).map λy=>(done++y.1,y.2))/\done.length+l.length<=r0.length /\
  Built (λ_=>False) (g4+1) 35 wr done v'/\Blk wr g4 35 #[.int .i64 3,.string X,.int .i64 0,v'] /\
  Blk wr w.heap.size 35 tyZ/\Chg (only b) w wr
theorem zpH(f:Nat)(S:Nat->Prop)(b:Nat)(l:List Tok)(w:World)(h:Rdr S w b l)(hS:∀g,S g->g≠b/\g<w.heap.size)(hG:AllG l)(hl:l.length<=100000)(hf:4*l.length+3<=f+1)
  (IH:∀f1,f1<=f->Reads S b 174 2 atom f1):Calls Tryz.prog 148 #[.pointer (some ⟨b,0,none⟩)] w (TPost S b l.length w (app (f+1) l)):=by
 have aC:=h.lt;have R0:=wJ (h.alloc (.cells tyZ 35) (λg hg=>(hS g hg).2));have S0:Hid (∀g,S g->g≠b/\g<(w.alloc (.cells tyZ 35)).heap.size):=wJ λg hg=>⟨(hS g hg).1,by have:=(hS g hg).2;simp;omega⟩;have jL:=wJ (λ(w1:World) (c:Chg (only b) (w.alloc (.cells tyZ 35)) w1)=>zi9 aC hS c);unfold tyZ at R0 S0 jL;obtain⟨m,hm⟩:∃m,(hd l).kind=m:=⟨_,rfl⟩;obtain⟨X,hX⟩:∃X:ByteArray,⟨(hd l).text.toArray⟩=X:=⟨_,rfl⟩;have pO:(hd l).text=X.data.toList:=by rw[<-hX]
 by_cases k2:m=2
 ·subst k2
  obtain⟨r0,e1,e2⟩:=zbr (by rw[hm];decide);have HO:Hid (app (f+1) l=(args f r0).map λx=>(.con X.data.toList x.1,x.2)):=by
   refine wJ ?_;rw[e1,app,ud hm,pO]
  rw[HO.out]
  have TK:=wJ ((anyK S b 2 _ l r0 X hl hm hX rfl e2).yes 2 _ rfl (by decide) R0.out S0.out);have hlen:l.length=r0.length+1:=by rw[e1];rfl
  have hG0:AllG r0:=λt ht=>hG t (by rw[e1];exact vp _ ht);rw[hlen]at hl hf TK ⊢
  obtain⟨i0,bJ,bO,bz,bE⟩:=vz zoZ;have HG0:=wJ hG0;have bq:=wJ IH;have HS:=wJ hS;clear HO hlen e1 e2 hm hX pO hG0 IH hG h hS;go_enter Tryz.func148,Tryz.ntmps148
  go_wp2_with fail
  refine TK.out.mono ?_;rintro e w2 ⟨rfl,aw,b2,-⟩;obtain⟨bo,aa,eQ⟩:=jL.out w2 b2;have ar:=wJ aa;have dD:=wJ aw;have C2:=wJ eQ;have gJ:=wJ bo;have ax:=aa.lt;clear aa aw b2 bo eQ TK jL R0 S0;go_wp2_with fail
  go_loopg [8] r0.length (λgg v wr=>zp1 S b f w2.heap.size X r0 w gg wr)
  case atStart =>
   refine⟨r0,f,[],.slice none 0 0,rfl,dD.out.alloc _ (λg hg=>(gJ.out g hg).2),λg hg=>by have:=gJ.out g hg;simp;omega,HG0.out,tV _,by omega,tV _,wJ (by simp),by simp,Built.nil _ _ _ _,tW _ _,ar.out.alloc _,C2.out.alloc _⟩
  case round =>
   obtain⟨l',f',done,v',rfl,hr,qB,iz,hle,iS,pD,hargs,iV,fP,aN,aK,hc⟩:=hrel;obtain⟨f1,rfl⟩:∃f1,f'=f1+1:=⟨f'-1,by omega⟩;have sQ:=zlI S b l' wr hr (λg hg=>(qB g hg).2) iz (by omega);obtain⟨q,hq⟩:∃q,zcn l'=q:=⟨_,rfl⟩;rw[hq]at sQ
   have HQ:=wJ hq;obtain⟨vs,ae,ao⟩:=fP;obtain⟨A0,c0,rfl⟩:=zat ae;obtain⟨n',ib⟩:∃n',l'.length=n':=⟨_,rfl⟩;have tp:=wJ ib;rw[ib]at hle iS iV
   have HR:=wJ hr;have nN:=wJ qB;have kQ:=wJ iz;have aM:=wJ ae;have av:=wJ ao;have aJ:=wJ aN;have bT:=wJ aK;have HC:=wJ hc;have ic:=aN.lt;have cN:=hr.lt;clear hq ib hr qB iz ae ao aN aK hc;cases q with
   |false =>
    have cj:=wJ (hargs.out.trans (uC (Option.map λy:List Ty × List Tok=>(done++y.1,y.2)) (znu f1 l' HQ.out)));go_wp2_with fail
    refine sQ.mono ?_;rintro e w3 ⟨rfl,b3⟩;have aN:=aJ.out.below b3 ic;have aK:=bT.out.below b3 (by omega);obtain⟨p0,p1,p2,p3,s0,s1,s2,s3,hlp⟩:=zae aN;obtain⟨a0,a1,a2,a3,q0,q1,q2,q3,hlq⟩:=zae aK;have HB13:=wJ aN;have HB03:=wJ aK;have B3:=wJ b3;clear aN aK b3 sQ hargs;go_wp2_with fail
    try simp only[Exit.inBlock,Exit.then]
    refine ub (zaa rfl _ _ w.heap.size 35 _ (0,0) _ rfl (zai _ _ _ _ HB03.out) Tryz.underlying35 rfl (by kernel_rfl)) rfl ?_;have fP:Built (λ_=>False) (w2.heap.size+1) 35 wr done (.slice A0 done.length c0):=⟨vs,aM.out,av.out⟩;have pM:=Built.args (t:=.con X.data.toList done) (fP.below (λ_ h=>h.elim) B3.out);have aG:=HC.out.size;have hsz3:=B3.out.size;refine za0 S b (r0.length+1) w _ _ _ 3 X 0 A0 done.length c0 (.con X.data.toList done) l' ((HC.out.below B3.out).set4 _ _ _ _ (tV _)) (by rw[tp.out];omega) (by rw[cj.out];simp) rfl ?_
     ((HR.out.below B3.out (λg hg=>(nN.out g hg).2)).set4 _ _ _ _ (by omega) (λk hk=>by have:=HS.out k hk;omega))
    exact RdV.keep (S:=λg=>w2.heap.size+1<=g/\g<w3.heap.size) (w:=w3) ⟨A0,c0,rfl,pM.2.keep (λg hg=>by simpa using hg) (λ_ _=>rfl)⟩ (λg hg=>by simp;omega) (λg hg=>zan _ _ _ _ _ _ _ (by omega))
   |true =>
    have hC:Hid (∀w3,Below wr.heap.size wr w3->Calls Tryz.prog 174 #[.pointer (some ⟨b,0,none⟩)] w3 (TPost S b n' w3 (atom f1 l'))):=by
     refine wJ λw3 b3=>?_;have:=bq.out f1 (by omega) w3 l' (HR.out.below b3 (λg hg=>(nN.out g hg).2)) (λg hg=>by have:=nN.out g hg;have:=b3.size;omega) kQ.out (by rw[tp.out];omega) (by rw[tp.out];omega);rwa [tp.out]at this
    go_wp2_with fail
    refine sQ.mono ?_;rintro e w3 ⟨rfl,b3⟩;have B3:=wJ b3;clear b3 sQ;go_wp2_with fail
    refine(hC.out w3 B3.out).mono ?_;rintro e w4 ⟨b4,K1,X1,Z1,A1,m1,c1,aB⟩;have hsz3:=B3.out.size;have aN:=(aJ.out.below B3.out ic).chg b4 (by unfold only;omega);have aK:=(bT.out.below B3.out (by omega)).chg b4 (by unfold only;omega);obtain⟨p0,p1,p2,p3,s0,s1,s2,s3,hlp⟩:=zae aN;obtain⟨a0,a1,a2,a3,q0,q1,q2,q3,hlq⟩:=zae aK;have HB14:=wJ aN;have tP:=wJ aK;have B4:=wJ b4;clear aN aK b4 hC;rcases aB with⟨ho,rfl⟩|⟨t,r,gD,ho,rfl,aq,hr⟩
    ·have cj:=wJ (hargs.out.trans (uC (Option.map λy:List Ty × List Tok=>(done++y.1,y.2)) (zo0 f1 l' HQ.out ho)))
     clear ho hargs;go_wp2_with fail
     try simp only[Exit.inBlock,Exit.then]
     refine ub (zaa rfl _ _ w.heap.size 35 _ (0,0) _ rfl ((zai _ _ _ _ tP.out).alloc _) Tryz.underlying35 rfl (by kernel_rfl)) rfl ?_;exact zaV S b (r0.length+1) w _ _ _ 0 ⟨#[]⟩ 0 none 0 0 ((((HC.out.below B3.out).trans B4.out).set4 _ _ _ _ (tV _)).alloc _) (by rw[cj.out];rfl) rfl
    ·have cj:=wJ (zc8 (hargs.out.trans (uC (Option.map λy:List Ty × List Tok=>(done++y.1,y.2)) (znt f1 l' HQ.out t r ho))))
     have bD:=wJ aq;have qO:=wJ hr;have oT:=wJ gD;have jb:Hid (AllG r):=wJ ((zfX f1).2.2.2 l' t r kQ.out ho).2.1;clear ho hargs aq hr gD;have lA:=zcg (own_below aM.out B3.out) B4.out (by omega);have bY:=wJ lA.lt;have aY:=wJ ((lA.alloc (.cells #[.int .i64 K1,.string X1,.int .i64 Z1,.slice A1 m1 c1] 35)).alloc (.cells #[.int .i64 K1,.string X1,.int .i64 Z1,.slice A1 m1 c1] 35));clear lA;go_wp2_with (at_builtin;refine uP _ rfl (.tmp 35) (.tmp 37) 33 rfl (w2.heap.size+1) 35 i0 _ 4 56 Tryz.underlying33 bJ bO bz bE rfl (by decide) _ done.length vs rfl aY.out ⟨w4.heap.size+1,0,none⟩ 1 1 [.int .i64 K1,.string X1,.int .i64 Z1,.slice A1 m1 c1] rfl rfl (zao _ _ _ _ (by simp)) (by intro u hu;simp at hu;rcases hu with rfl|rfl|rfl|rfl <;> rfl) (by unfold maxLen;omega) (by omega) (by have:=B4.out.size;have:=B3.out.size;simp;omega) ?_;intro v2 w5 aj ab _ cV;obtain⟨A2,c2,rfl⟩:=zat aj;have dN:=wJ aj;have bw:=wJ ab;have jr:=wJ cV;clear aj ab cV;have fl:=((HB14.out.alloc _).alloc _).grown bw.out (λe=>by have:=bY.out _ e.symm;omega);have eL:=((tP.out.alloc _).alloc _).grown bw.out (λe=>by have:=bY.out _ e.symm;omega);obtain⟨y0,y1,y2,y3,z0,z1,z2,z3,nl⟩:=zae fl;have nT:=wJ fl;have kR:=wJ eL;clear fl eL)
     go_roundg r.length
     case measure=>have:=oT.out;have:=tp.out;omega
     case rel =>
      have hsz4:=B4.out.size;have gD:=oT.out;have hb:=Built.nextC (w:=w3) (w1:=w4) (b:=b) (by omega) (by omega) (own_below aM.out B3.out) (TyRow.keep (λg hg=>⟨hg.1.elim (λh=>.inl h) (λh=>.inr ⟨h.1,by omega⟩),hg.2⟩) (λg hg=>B3.out.block g (hg.1.elim (λh=>h.elim) (λh=>h.2))) done vs av.out) B4.out bD.out (((ua _ w4).alloc (tV _) _).alloc (by simp) _) dN.out bw.out jr.out;have hlx2:w2.heap.size<w4.heap.size:=by omega
      have hszw:=HC.out.size;have ee:=bw.out.size;simp at ee;have c5:Chg (only b) w w5:=((((HC.out.below B3.out).trans B4.out).alloc _).alloc _).grown bw.out (λj hj=>.inl (by have:=bY.out _ hj;omega));have jB:∀k,k<w2.heap.size->w5.heap[k]?=w4.heap[k]?:=λk hk=>(bw.out.block k (by simp;omega) (λe=>by have:=bY.out _ e.symm;omega)).trans ((uc _ _ _ (by simp;omega)).trans (uc _ _ _ (by omega)));refine⟨r,f1,done++[t],_,rfl,qO.out.keep ((tY _ _ _ _ (by simp;omega)).trans (jB b (by omega))) (λg hg=>(tY _ _ _ _ (by have:=HS.out g hg;simp;omega)).trans (jB g (by have:=HS.out g hg;omega))),λg hg=>by have:=HS.out g hg;simp;omega,?_,by omega,by omega,by omega,cj,by simp;omega,
       hb.setCell _ (by simp) (λh=>h),uk _ _ 3 _ _ _ nT.out,kR.out.far (by simp;omega) _,c5.setCell (.inl (by simp;omega)) _⟩
      exact jb.out
 ·have TK:=wJ ((anyK S b m _ l _ X hl hm hX rfl rfl).no 2 2 _ rfl (by decide) k2 R0.out S0.out)
  obtain⟨f',rfl⟩:∃f',f=f'+1:=⟨f-1,by omega⟩;have HO:Hid (app (f'+1+1) l=atom (f'+1) l):=by
   refine wJ ?_;cases l with
   |nil=>rw[app,atom]
   |cons t r=>rw[app,ue (by show ¬t.kind=2;have e:t.kind=m:=hm;omega)]
  rw[HO.out]
  have qJ:Hid (∀w1,Rdr S w1 b l->(∀g,S g->g≠b/\g<w1.heap.size)->Calls Tryz.prog 174 #[.pointer (some ⟨b,0,none⟩)] w1 (TPost S b l.length w1 (atom (f'+1) l))) :=
   wJ λw1 hr hs=>IH (f'+1) (tV _) w1 l hr hs hG hl (by omega)
  obtain⟨n,hn⟩:∃n,l.length=n:=⟨_,rfl⟩;obtain⟨O,hO⟩:∃O,atom (f'+1) l=O:=⟨_,rfl⟩;have HS:=wJ hS;rw[hn,hO]at qJ
  rw[hn,hO]
  clear h hS hG hl hf IH hm hX pO hn hO HO k2 R0 S0;go_enter Tryz.func148,Tryz.ntmps148
  go_wp2_with fail
  refine TK.out.mono ?_;rintro e w1 ⟨rfl,cF,b1⟩;obtain⟨jH,aa,bel⟩:=jL.out w1 b1;have ax:=aa.lt;have dA:=wJ cF;have ez:=wJ jH;have HB:=wJ aa;have tU:=wJ bel;clear TK b1 cF jH aa bel;go_wp2_with fail
  refine(qJ.out w1 dA.out ez.out).mono ?_;rintro e w2 ⟨b2,K1,X1,Z1,A1,m1,c1,aB⟩;have aa:=HB.out.chg b2 (by unfold only;omega);obtain⟨a0,a1,a2,a3,q0,q1,q2,q3,lD⟩:=zae aa;have ar:=wJ aa;have C2:=wJ (tU.out.trans b2);have h1:=tU.out.size;have H1:=wJ h1;clear aa b2 h1;rcases aB with⟨ho,rfl⟩|⟨t,r',gD,ho,rfl,aq,hr⟩
  ·have HO:=wJ ho
   clear ho;go_wp2_with fail
   try simp only[Exit.inBlock,Exit.then]
   refine ub (zaa rfl _ _ w.heap.size 35 _ (0,0) _ rfl (zai _ _ _ _ ar.out) Tryz.underlying35 rfl (by kernel_rfl)) rfl ?_;exact zaV S b n w _ _ _ K1 X1 Z1 A1 m1 c1 (C2.out.set4 _ _ _ _ (tV _)) HO.out rfl
  ·have HO:=wJ ho
   have bD:=wJ aq;have dD:=wJ hr;have oT:=wJ gD;clear ho aq hr gD;go_wp2_with fail
   try simp only[Exit.inBlock,Exit.then]
   refine ub (zaa rfl _ _ w.heap.size 35 _ (0,0) _ rfl (zai _ _ _ _ ar.out) Tryz.underlying35 rfl (by kernel_rfl)) rfl ?_;refine za0 S b n w _ _ _ K1 X1 Z1 A1 m1 c1 t r' (C2.out.set4 _ _ _ _ (tV _)) oT.out HO.out rfl ?_ (dD.out.set4 _ _ _ _ (by omega) (λk hk=>by have:=HS.out k hk;omega));have h1:=H1.out;exact(bD.out.set4 _ _ _ _ (λk hk=>by omega)).keep (λg hg=>by simp;omega) (λ_ _=>rfl)
set_option maxRecDepth 100000
theorem zcG {S:Nat->Prop} {b n:Nat} {w w':World} {o:Option (Ty × List Tok)} {e:Ending}(h:TPost S b n w o e w'):Chg (only b) w w'/\∃K X Z A m c q,e=.returned (.tuple #[.agg #[.int .i64 K,.string X,.int .i64 Z,.slice A m c],.bool q])/\(q=false->o=none) /\
   (q=true->∃t r,r.length<n/\o=some (t,r)/\RdV (λg=>w.heap.size<=g/\g<w'.heap.size) w' t (.agg #[.int .i64 K,.string X,.int .i64 Z,.slice A m c])/\Rdr S w' b r):=by
 obtain⟨h1,K,X,Z,A,m,c,h2⟩:=h;refine⟨h1,K,X,Z,A,m,c,?_⟩;rcases h2 with⟨h2,h3⟩|⟨t,r,h2,h3,h4,h5,h6⟩
 ·exact⟨false,h3,(λ_=>h2),(λh=>by cases h)⟩
 ·exact⟨true,h4,(λh=>by cases h),λ_=>⟨t,r,h2,h3,h5,h6⟩⟩
def zd0(f:Nat)(V:List (List UInt8))(l:List Tok):Option (Ty × List Tok) :=
 if V=[] then none else if isHd l 6 [46]=true then(read f l.tail).map λx=>(alls V x.1,x.2) else none
def fall(f:Nat)(l:List Tok):Option (Ty × List Tok):=zd0 f (vars l).1 (vars l).2
theorem zfa(l:List Tok)(h:(hd l).kind=1):vars l=((hd l).text::(vars l.tail).1,(vars l.tail).2):=by
 cases l with
 |nil=>simp[hd]at h
 |cons t r=>exact(by rw[vars,ud (show t.kind=1 from h)]:vars (t::r)=(t.text::(vars r).1,(vars r).2))
theorem zfV(l:List Tok)(h:¬(hd l).kind=1):vars l=([],l):=by
 cases l with
 |nil=>rfl
 |cons t r=>rw[vars,ue (show ¬t.kind=1 from h)]
theorem zlJ(S:Nat->Prop)(b:Nat)(l:List Tok)(w:World)(h:Rdr S w b l)(hS:∀g,S g->g≠b/\g<w.heap.size)(hG:AllG l)(hl:l.length<=100000):Calls Tryz.prog 162 #[.pointer (some ⟨b,0,none⟩),.int .i64 1] w λe w'=>∃X q l2,e=.returned (.tuple #[.string X,.bool q])/\Rdr S w' b l2/\AllG l2/\l2.length+q.toNat=l.length /\
   vars l=(match q with|true=>(X.data.toList::(vars l2).1,(vars l2).2)|false=>([],l2))/\Chg (only b) w w':=by
 refine(zdZ S b l 1 1 rfl w h hS hl (by decide)).mono ?_;rintro e w' ⟨rfl,h2,h3⟩;refine⟨_,_,anyR l 1,rfl,h2,?_,?_,?_,h3⟩
 ·unfold anyR
  split
  ·exact AllG.tail' hG
  ·exact hG
 ·by_cases hk:(hd l).kind=1
  ·obtain⟨r,e1,e2⟩:=zbr (by rw[hk];decide)
   rw[wE.2 hk,anyR,ud hk,e2,e1];rfl
  ·rw[uo.2 hk,anyR,ue hk];rfl
 ·by_cases hk:(hd l).kind=1
  ·rw[wE.2 hk,anyR,ud hk,anyT,ud hk];exact zfa l hk
  ·rw[uo.2 hk,anyR,ue hk];exact zfV l hk
def vcons(done:List (List UInt8))(X:ByteArray)(q:Bool)(l:List Tok):List (List UInt8) × List Tok:=match q with|true=>(done++X.data.toList::(vars l).1,(vars l).2)|false=>(done,l)
def znP(S:Nat->Prop)(b:Nat)(r0:List Tok)(w:World)(gg:Nat)(v vx vq:Value)(wr:World):Prop :=
 ∃l done X q,gg=l.length+q.toNat/\vx=.string X/\vq=.bool q/\Rdr S wr b l/\(∀g,S g->g≠b/\g<wr.heap.size)/\AllG l/\l.length+done.length+q.toNat<=r0.length/\Hid (vars r0=vcons done X q l) /\
  wr.ownsRow (w.heap.size+1) 9 1 v done.length (strV done)/\Blk wr w.heap.size 35 tyZ/\Chg (only b) w wr
def zp2(b9:Nat)(V:List (List UInt8))(o:Option Ty)(w w3:World)(gg:Nat)(vj:Value)(wr:World):Prop :=
 ∃j K X Z A m c,gg=j/\vj=.int .i64 ((j:Int)-1)/\j<=V.length/\Blk wr b9 35 #[.int .i64 K,.string X,.int .i64 Z,.slice A m c]/\Below b9 w3 wr/\b9<wr.heap.size /\
  ∀t0,o=some t0->RdV (λg=>w.heap.size<g/\g<wr.heap.size/\g≠b9) wr (alls (V.drop j) t0) (.agg #[.int .i64 K,.string X,.int .i64 Z,.slice A m c])
theorem zc5:(Tryz.prog.info? 9).map (λi=>(i.zero,i.size,i.bytes))=some (some (.string ⟨#[]⟩),1,16):=by kernel_rfl
theorem zlK(f:Nat)(S:Nat->Prop)(b:Nat)(l:List Tok)(w:World)(h:Rdr S w b l)(hS:∀g,S g->g≠b/\g<w.heap.size)(hG:AllG l)(hl:l.length<=100000)(hf:4*l.length+4<=f)
  (IH:Reads S b 103 4 read f):Calls Tryz.prog 147 #[.pointer (some ⟨b,0,none⟩)] w (TPost S b l.length w (fall f l)):=by
 have aC:=h.lt;obtain⟨i0,bJ,bO,bz,bE⟩:=vz zc5;have H:=wJ h;have HS:=wJ hS;have HG:=wJ hG;have bq:=wJ IH;obtain⟨O,hO⟩:∃O,fall f l=O:=⟨_,rfl⟩;have HFO:=wJ hO;obtain⟨L,hL⟩:∃L,l.length=L:=⟨_,rfl⟩;have HL:=wJ hL;rw[hO,hL]
 rw[hL]at hl hf
 clear h hS hG IH hO hL;go_enter Tryz.func147,Tryz.ntmps147
 go_wp2_with fail
 refine(zlJ S b l _ (H.out.alloc (.cells tyZ 35) (λg hg=>(HS.out g hg).2)) (λg hg=>by have:=HS.out g hg;simp;omega) HG.out (by rw[HL.out];exact hl)).mono ?_;rintro e w1 ⟨X1,q1,l1,rfl,cF,dE,ot,ob,b1⟩;have bj:=b1.size;simp at bj;have HH:Hid (znP S b l w L (.slice none 0 0) (.string X1) (.bool q1) w1):=wJ ⟨l1,[],X1,q1,by rw[ot,HL.out],rfl,rfl,cF,λg hg=>by have:=HS.out g hg;omega,dE,by simp;omega,wJ (by rw[ob];cases q1 <;> rfl),uZ _ _ _ _,Blk.chg (tW w _) b1 (by unfold only;omega),b1.pre⟩;clear cF dE ot ob b1;go_wp2_with fail
 go_loopg [4,5,6] L (λgg v vx vq wr=>znP S b l w gg v vx vq wr)
 case atStart=>exact HH.out
 case round =>
  obtain⟨l',done,X,q,rfl,rfl,rfl,hr,qB,iz,hle,jZ,ae,aK,hc⟩:=hrel;have ax:=aK.lt;have cN:=hr.lt;obtain⟨A0,c0,rfl⟩:=zat ae;rw[HL.out]at hle
  have HR:=wJ hr;have nN:=wJ qB;have kQ:=wJ iz;have bT:=wJ aK;have HC:=wJ hc;clear hr qB iz aK hc HH;cases q with
  |true =>
   have HV:Hid (vars l=(done++X.data.toList::(vars l').1,(vars l').2)):=wJ jZ.out;have hle':l'.length+done.length+1<=L:=hle;have bY:=wJ ae.lt;have bX:=wJ (ae.alloc (.cells #[.string X] 9));clear ae jZ hle;go_wp2_with (at_builtin;refine uP _ rfl (.tmp 25) (.tmp 27) 56 rfl (w.heap.size+1) 9 i0 _ 1 16 Tryz.underlying56 bJ bO bz bE rfl (by decide) _ done.length (strV done) rfl bX.out ⟨wr.heap.size,0,none⟩ 1 1 [.string X] rfl rfl (zao _ _ _ _ rfl) (by intro u hu;simp at hu;subst hu;rfl) (by unfold maxLen;omega) (by omega) (by simp;omega) ?_;intro v2 w5 aj ab _ cV;obtain⟨A2,c2,rfl⟩:=zat aj;have dN:=wJ aj;have bw:=wJ ab;have jr:=wJ cV;clear aj ab cV)
   have ee:=bw.out.size;simp at ee;have HK5:Hid (∀k,k<w.heap.size+1->w5.heap[k]?=wr.heap[k]?):=wJ λk hk=>(bw.out.block k (by simp;omega) (λe=>by have:=bY.out _ e.symm;omega)).trans (uc _ _ _ (by omega));refine(zlJ S b l' w5 (HR.out.keep (HK5.out b (by omega)) (λg hg=>HK5.out g (by have:=HS.out g hg;omega))) (λg hg=>by have:=nN.out g hg;omega) kQ.out (by omega)).mono ?_;rintro e w6 ⟨X2,q2,l2,rfl,aw,fw,gH,oa,b6⟩;have pj:=b6.size;have cf:l2.length+q2.toNat<l'.length+true.toNat:=by show _<l'.length+1;omega
   have dD:=wJ aw;have dC:=wJ fw;have ko:=wJ gH;have HV2:=wJ oa;have B6:=wJ b6;clear aw fw gH oa b6;go_wp2_with fail
   go_roundg (l2.length+q2.toNat)
   case measure=>exact cf
   case rel =>
    have gH:=ko.out;refine⟨l2,done++[X.data.toList],X2,q2,rfl,rfl,rfl,dD.out,λg hg=>by have:=nN.out g hg;omega,dC.out,by rw[HL.out];simp;omega,wJ ?_,?_,(bT.out.same (HK5.out _ (by omega))).chg B6.out (by unfold only;omega),((HC.out.alloc _).grown bw.out (λj hj=>.inl (by have:=bY.out _ hj;omega))).trans B6.out⟩
    ·rw[HV.out,HV2.out]
     cases q2 <;> simp[vcons]
    ·rw[uf,show strV (done++[X.data.toList])=strV done++[.string X] by simp[strV]]
     exact zcg dN.out B6.out (by omega)
  |false =>
   have HV:Hid (vars l=(done,l')):=wJ jZ.out;replace hle:l'.length+done.length<=L:=by have:l'.length+done.length+false.toNat<=L:=hle;simpa using this
   have aM:=wJ ae;obtain⟨n,hn⟩:∃n,done.length=n:=⟨_,rfl⟩;have gh:=wJ hn;rw[hn]at hle
   have oY:Hid (wr.ownsRow (w.heap.size+1) 9 1 (.slice A0 n c0) n (strV done)):=by rw[hn]at aM;exact aM
   have HO:Hid (O=zd0 f done l'):=wJ (by rw[<-HFO.out,fall,HV.out]);clear jZ hn aM ae;rw[gh.out]
   by_cases eW:n=0
   ·subst eW
    have cj:Hid (O=none):=wJ (by rw[HO.out,zd0,ud (vw.1 gh.out)]);have hb:=bT.out;unfold tyZ at hb;obtain⟨a0,a1,a2,a3,q0,q1,q2,q3,np⟩:=zae hb;have aJ:=wJ hb;have C1:=HC;clear hb;go_wp2_with fail
    try simp only[Exit.inBlock,Exit.then]
    refine ub (zaa rfl _ _ w.heap.size 35 _ (0,0) _ rfl (zai _ _ _ _ aJ.out) Tryz.underlying35 rfl (by kernel_rfl)) rfl ?_;exact zaV S b L w _ _ _ 0 ⟨#[]⟩ 0 none 0 0 (C1.out.set4 _ _ _ _ (tV _)) cj.out rfl
   ·have dn:((n:Int)==0)=false:=zbO n 0 0 rfl eW
    have bf:done≠[]:=λe=>eW (by rw[<-gh.out,e];rfl);obtain⟨q,hq⟩:∃q,isHd l' 6 [46]=q:=⟨_,rfl⟩;have hTK:Hid (∀w1,Below wr.heap.size wr w1->Calls Tryz.prog 136 #[.pointer (some ⟨b,0,none⟩),.int .i64 6,.string ⟨#[46]⟩] w1 λe w'=>e=.returned (.bool q)/\Rdr S w' b (if q=true then l'.tail else l')/\Chg (only b) w1 w'):=by
     refine wJ λw1 b1=>?_;have:=zcR S b l' 6 6 rfl ⟨#[46]⟩ w1 (HR.out.below b1 (λg hg=>(nN.out g hg).2)) (λg hg=>by have:=nN.out g hg;have:=b1.size;omega) (by omega) (by decide);have eb:(⟨#[46]⟩:ByteArray).data.toList=[46]:=rfl;rw[eb,took,hq]at this
     exact this
    have HQ:=wJ hq;clear hq;have aJ:=bT;have C1:=HC;have oX:=oY;go_wp2_with fail
    refine(hTK.out wr (ua _ _)).mono ?_;rintro e w2 ⟨rfl,aw,b2⟩;have bo:=b2.size;have hb:=aJ.out.chg b2 (by unfold only;omega);obtain⟨a0,a1,a2,a3,q0,q1,q2,q3,lD⟩:=zae hb;have ar:=wJ hb;have C2:=wJ (C1.out.trans b2);have bX:=wJ (zcg oX.out b2 (by omega));have dD:=wJ aw;clear hb b2 hTK aw;cases q with
    |false =>
     have cj:Hid (O=none):=wJ (by rw[HO.out,zd0,ue bf,HQ.out,ue (by decide)]);go_wp2_with fail
     try simp only[Exit.inBlock,Exit.then]
     refine ub (zaa rfl _ _ w.heap.size 35 _ (0,0) _ rfl (zai _ _ _ _ ar.out) Tryz.underlying35 rfl (by kernel_rfl)) rfl ?_;exact zaV S b L w _ _ _ 0 ⟨#[]⟩ 0 none 0 0 (C2.out.set4 _ _ _ _ (tV _)) cj.out rfl
    |true =>
     obtain⟨t0,r1,ft,-,-⟩:=zaB l' 6 [46] (by decide) HQ.out;have cj:Hid (O=(read f r1).map λx=>(alls done x.1,x.2)):=wJ (by rw[HO.out,zd0,ue bf,HQ.out,ud rfl,ft];rfl);have HR2':Hid (Rdr S w2 b r1):=wJ (by have:=dD.out;rw[ft]at this;exact this);have mi:Hid (AllG r1):=wJ λt ht=>kQ.out t (by rw[ft];exact vp _ ht);have je:r1.length+1+n<=L:=by
       have:l'.length=r1.length+1:=by rw[ft];rfl
       omega
     have hW:=bq.out w2 r1 HR2'.out (λg hg=>by have:=nN.out g hg;omega) mi.out (by omega) (by omega);obtain⟨O1,sH⟩:∃O1,read f r1=O1:=⟨_,rfl⟩;rw[sH]at hW cj
     obtain⟨gN,hgN⟩:∃gN,A0=some ⟨gN,0,none⟩:=by
      rcases bX.out.2 with⟨e,h0⟩|⟨g,cap,cur,e,_⟩
      ·exact absurd h0 eW
      ·injection e with e;exact⟨g,e⟩
     subst hgN;have e7:Hid (w.heap.size+1<=gN/\gN<w2.heap.size/\∀j u,(strV done)[j]?=some u->w2.cell? ⟨gN,j,none⟩=some u):=by
      refine wJ ⟨(bX.out.lt gN rfl).1,(bX.out.lt gN rfl).2,λj u hu=>?_⟩;have dS:(⟨gN,0,none⟩:Addr).add j=⟨gN,j,none⟩:=by unfold Addr.add;split <;> simp_all
      have:=bX.out.cells (g:=gN) rfl j u hu;rwa [dS]at this
     clear ft dD sH bX oX oY;go_wp2_with fail
     refine hW.mono ?_;intro e w3 hT;obtain⟨b3,K1,X1,Z1,A1,m1,c1,qq,rfl,bk,bG⟩:=zcG hT;have eA:=b3.size;have bU:=wJ (ar.out.chg b3 (by unfold only;omega));have C3:=wJ (C2.out.trans b3);have HNM3:Hid (w.heap.size+1<=gN/\gN<w3.heap.size/\∀j u,(strV done)[j]?=some u->w3.cell? ⟨gN,j,none⟩=some u):=by
      obtain⟨n1,n2,n3⟩:=e7.out;exact wJ ⟨n1,by omega,λj u hu=>(uV (w:=w2) (a:=⟨gN,j,none⟩) (b3.block gN n2 (by unfold only;omega))).trans (n3 j u hu)⟩
     have bP:=wJ bk;have aO:=wJ bG;clear b3 hW hT bk bG ar C2 e7 aJ C1 a0 a1 a2 a3 q0 q1 q2 q3;go_wp2_with fail
     go_loopg [9] n (λgg vj wr=>zp2 w3.heap.size done (O1.map (·.1)) w w3 gg vj wr)
     case atStart =>
      refine⟨n,K1,X1,Z1,A1,m1,c1,rfl,rfl,by rw[gh.out];omega,tW _ _,(ua _ w3).alloc (tV _) _,by simp,λt0 h=>?_⟩;cases qq with
      |false=>rw[bP.out rfl]at h;cases h
      |true =>
       obtain⟨t,r,-,ho,aq,-⟩:=aO.out rfl;rw[ho]at h
       injection h with h;subst h;rw[uD (by rw[gh.out];omega)]
       exact aq.keep (λg hg=>by simp at hg ⊢;omega) (λg hg=>uc _ _ _ hg.2)
     case round =>
      obtain⟨j,K,X,Z,A,mm,cc,oy,rfl,nz,lb,bp,hlt9,aq⟩:=hrel;rw[gh.out]at nz
      have aK:=bU.out.below bp bU.out.lt;have aW:=wJ bp;obtain⟨p0,p1,p2,p3,s0,s1,s2,s3,ic⟩:=zae lb;obtain⟨a0,a1,a2,a3,r0,r1',r2,r3,fL⟩:=zae aK;have tO:=wJ lb;have HB0':=wJ aK;have bD:=wJ aq;obtain⟨n1,n2,n3⟩:=HNM3.out;have hsb:=bp.size;by_cases hj0:0<j
      ·have hjd:j-1<done.length:=by rw[gh.out];omega
       have e1:=n3 (j-1) _ (zja done (j-1) hjd);rw[<-uV (w:=w3) (w':=wr) (a:=⟨gN,j-1,none⟩) (bp.block gN n2)]at e1
       obtain⟨Y,hY⟩:∃Y:ByteArray,⟨(done[j-1]).toArray⟩=Y:=⟨_,rfl⟩;rw[hY]at e1
       have HY:Hid (Y=⟨(done.getD (j-1) []).toArray⟩):=wJ (by rw[<-hY,wH,ug hjd];rfl);have kZ:gN<wr.heap.size:=by omega
       clear lb aK aq bp hY n3;go_wp2_with fail
       go_region
       all_goals
        go_wp2_with fail
        go_roundg (j-1)
        case measure=>omega
        case rel =>
         refine⟨j-1,5,Y,0,some ⟨wr.heap.size,0,none⟩,1,1,rfl,by rw[show((j-1:Nat):Int)=(j:Int)-1 by omega],by rw[gh.out];omega,((zai _ _ _ _ tO.out).alloc _).drew,((zaq aW.out _ _ _ _ (tV _)).alloc (by simp;omega) _).drew,by simp;omega,λt0 h=>?_⟩;rw[zeu done (j-1) t0 (by rw[gh.out];omega),show j-1+1=j by omega]
         refine zet (w:=wr) HY.out (bD.out t0 h) (λg hg=>?_) (λg hg=>?_) ?_ ?_
         ·have:=hg.2.1
          exact⟨hg.1,by simp;omega,hg.2.2⟩
         ·exact(uc _ _ _ (by simp;exact hg.2.1)).trans (zan _ _ _ _ _ _ _ hg.2.2)
         ·exact⟨by omega,by simp,by omega⟩
         ·intro d u hu
          have:=zao ((((wr.setCell ⟨w3.heap.size,0,none⟩ (.int .i64 5)).setCell ⟨w3.heap.size,1,none⟩ (.string Y)).setCell ⟨w3.heap.size,2,none⟩ (.int .i64 0)).setCell ⟨w3.heap.size,3,none⟩ (.slice (some ⟨wr.heap.size,0,none⟩) 1 1)) #[.int .i64 K,.string X,.int .i64 Z,.slice A mm cc] 35 wr.heap.size (by simp) d u hu;have dS:(⟨wr.heap.size,0,none⟩:Addr).add d=⟨wr.heap.size,d,none⟩:=by unfold Addr.add;split <;> simp_all
          rw[dS]at this
          exact this
      ·obtain rfl:j=0:=by omega
       clear lb aK aq bp n3;go_wp2_with fail
       try simp only[Exit.inBlock,Exit.then]
       refine ub (zaa rfl _ _ w.heap.size 35 _ (0,0) _ rfl (zai _ _ _ _ HB0'.out) Tryz.underlying35 rfl (by kernel_rfl)) rfl ?_;have hc:Chg (only b) w wr:=C3.out.belowB aW.out (by omega);cases qq with
       |false=>exact zaV S b L w _ _ _ K X Z A mm cc (hc.set4 _ _ _ _ (tV _)) (by rw[cj.out,bP.out rfl];rfl) rfl
       |true =>
        obtain⟨t,r,gD,ho,-,bV⟩:=aO.out rfl;have aq:=bD.out t (by rw[ho];rfl);rw[vS]at aq
        refine za0 S b L w _ _ _ K X Z A mm cc (alls done t) r (hc.set4 _ _ _ _ (tV _)) (by omega) (by rw[cj.out,ho];rfl) rfl ?_ ?_
        ·exact(aq.set4 _ _ _ _ (λk hk=>by omega)).keep (λg hg=>by simp;omega) (λ_ _=>rfl)
        ·exact(bV.keep (aW.out.block b (by omega)) (λg hg=>aW.out.block g (by have:=HS.out g hg;omega))).set4 _ _ _ _ (by omega) (λk hk=>by have:=HS.out k hk;omega)
end Go.Proofs.YtknkclefoiohpaaGreatDoor
namespace Go.Proofs.YtknkclefoiohpaaGreatDoor
open Go.RowKit Lx Tx
set_option maxRecDepth 100000
def arrow(f:Nat):Option (Ty × List Tok)->Option (Ty × List Tok)
 |none=>none
 |some x=>if isHd x.2 6 [45,62]=true then(read f x.2.tail).map λy=>(.fn x.1 y.1,y.2) else some x
theorem znv(f:Nat)(O:Option (Ty × List Tok))(h:O=none):arrow f O=none:=by rw[h,arrow]
theorem zgu(f:Nat)(O:Option (Ty × List Tok))(t:Ty)(r:List Tok)(h:O=some (t,r)):arrow f O=if isHd r 6 [45,62]=true then(read f r.tail).map λy=>(.fn t y.1,y.2) else some (t,r):=by rw[h,arrow]
theorem zlL(k:Nat)(X:List UInt8)(l:List Tok)(hk:k≠0):eat (λt=>t.kind==k&&t.text==X) l=if isHd l k X=true then some l.tail else none:=by
 cases l with
 |nil=>rw[eat,ue];simp[isHd,hd];intro e;exact absurd e.symm hk
 |cons t r=>exact(by rw[eat]:eat (λt=>t.kind==k&&t.text==X) (t::r)=if(t.kind==k&&t.text==X)=true then some r else none)
theorem znw(l:List Tok):eat (isKey · wForall) l=if isHd l 3 wForall=true then some l.tail else none:=zlL 3 wForall l (by decide)
theorem zgv(X:List UInt8)(l:List Tok):eat (isSign · X) l=if isHd l 6 X=true then some l.tail else none:=zlL 6 X l (by decide)
theorem zo1(f:Nat)(l:List Tok):read (f+1) l=if isHd l 3 wForall=true then fall f l.tail else arrow f (app f l):=by
 rw[Tx.read,znw]
 by_cases h:isHd l 3 wForall=true
 ·rw[ud h,ud h]
  show(if(vars l.tail).1=[] then none else match eat (isSign · [46]) (vars l.tail).2 with|none=>none|some r2=>(read f r2).map λx:Ty × List Tok=>(alls (vars l.tail).1 x.1,x.2))=zd0 f (vars l.tail).1 (vars l.tail).2;unfold zd0;rw[zgv]
  by_cases hv:(vars l.tail).1=[]
  ·rw[ud hv,ud hv]
  ·rw[ue hv,ue hv]
   by_cases hq:isHd (vars l.tail).2 6 [46]=true
   ·rw[ud hq,ud hq]
   ·rw[ue hq,ue hq]
 ·rw[ue h,ue h]
  show(match app f l with|none=>none|some (a,r)=>match eat (isSign · [45,62]) r with|none=>some (a,r)|some r2=>(read f r2).map λx:Ty × List Tok=>(.fn a x.1,x.2))=_;cases app f l with
  |none=>rfl
  |some x =>
   obtain⟨a,r⟩:=x;rw[arrow]
   show(match eat (isSign · [45,62]) r with|none=>some (a,r)|some r2=>(read f r2).map λx:Ty × List Tok=>(.fn a x.1,x.2))=_;rw[zgv]
   by_cases hq:isHd r 6 [45,62]=true
   ·rw[ud hq,ud hq]
   ·rw[ue hq,ue hq]
theorem zj2 {f:Nat} {O O2:Option (Ty × List Tok)} {t:Ty} {r:List Tok}(h:O=some (t,r))(hq:isHd r 6 [45,62]=true)(hr:read f r.tail=O2):arrow f O=O2.map λy=>(.fn t y.1,y.2):=by
 rw[zgu f O t r h,ud hq,hr]
theorem znx(w w4 W:World)(t u:Ty)(S1 S2:Nat->Prop)(K1 K2 Z1 Z2:Int)(X1 X2:ByteArray)(A1 A2:Option Addr)(m1 m2 c1 c2:Nat)(hw:w.heap.size<w4.heap.size)
  (h1:RdV S1 w4 t (.agg #[.int .i64 K1,.string X1,.int .i64 Z1,.slice A1 m1 c1]))(h2:RdV S2 w4 u (.agg #[.int .i64 K2,.string X2,.int .i64 Z2,.slice A2 m2 c2]))
  (k1:∀g,S1 g->w.heap.size<g/\g<w4.heap.size)(k2:∀g,S2 g->w.heap.size<g/\g<w4.heap.size)
  (aG:W.heap.size=w4.heap.size+2)(key:∀k,k<w4.heap.size->k≠w.heap.size->W.heap[k]?=w4.heap[k]?)
  (hc:∀j v,[Value.int .i64 K1,.string X1,.int .i64 Z1,.slice A1 m1 c1,.int .i64 K2,.string X2,.int .i64 Z2,.slice A2 m2 c2][j]?=some v->W.cell? ((⟨w4.heap.size+1,0,none⟩:Addr).add j)=some v):RdV (λg=>w.heap.size<=g/\g<W.heap.size) W (.fn t u) (.agg #[.int .i64 4,.string ⟨#[]⟩,.int .i64 0,.slice (some ⟨w4.heap.size+1,0,none⟩) 2 2]):=by
 rw[aG]
 refine zhX (S:=λg=>w.heap.size<=g/\g<w4.heap.size+2) (h1.keep (λg hg=>?_) (λg hg=>?_)) (h2.keep (λg hg=>?_) (λg hg=>?_)) ⟨by omega,by omega⟩ (λj v hj=>?_)
 ·have:=k1 g hg;exact⟨by omega,by omega⟩
 ·have:=k1 g hg;exact key g (by omega) (by omega)
 ·have:=k2 g hg;exact⟨by omega,by omega⟩
 ·have:=k2 g hg;exact key g (by omega) (by omega)
 ·rw[<-zbs];exact hc j v hj
theorem zny(f:Nat)(S:Nat->Prop)(b:Nat)(l:List Tok)(w:World)(h:Rdr S w b l)(hS:∀g,S g->g≠b/\g<w.heap.size)(hG:AllG l)(hl:l.length<=100000)(hf:4*l.length+4<=f+1)
  (nH:Reads S b 103 4 read f)(oP:Reads S b 148 3 app f):Calls Tryz.prog 103 #[.pointer (some ⟨b,0,none⟩)] w (TPost S b l.length w (read (f+1) l)):=by
 have aC:=h.lt;have hT:=zcR S b l 3 3 rfl ⟨#[102,111,114,97,108,108]⟩ (w.alloc (.cells tyZ 35)) (h.alloc _ (λg hg=>(hS g hg).2)) (λg hg=>⟨(hS g hg).1,by have:=(hS g hg).2;simp;omega⟩) hl (by decide);unfold tyZ at hT;have eb:(⟨#[102,111,114,97,108,108]⟩:ByteArray).data.toList=wForall:=rfl;rw[eb]at hT
 rw[zo1]
 unfold took at hT;obtain⟨q,hq⟩:∃q,isHd l 3 wForall=q:=⟨_,rfl⟩;rw[hq]at hT ⊢
 have HS:=wJ hS;have HG:=wJ hG;have HR:=wJ nH;have HA:=wJ oP;clear eb h hS hG nH oP;cases q with
 |true =>
  obtain⟨t0,r0,rfl,-,-⟩:=zaB _ _ _ (by decide) hq;simp only[wA,vR]at hT ⊢;rw[ui]at hl hf ⊢
  obtain⟨n,hn⟩:∃n,r0.length=n:=⟨_,rfl⟩;have HN:=wJ hn;rw[hn]at hl hf ⊢
  obtain⟨O,hO⟩:∃O,fall f r0=O:=⟨_,rfl⟩;have HF:Hid (∀w1,Rdr S w1 b r0->(∀g,S g->g≠b/\g<w1.heap.size)->Calls Tryz.prog 147 #[.pointer (some ⟨b,0,none⟩)] w1 (TPost S b n w1 O)):=by
   refine wJ λw1 hr hs=>?_;have:=zlK f S b r0 w1 hr hs (AllG.tail HG.out) (by omega) (by omega) HR.out;rwa [hO,hn]at this
  rw[hO]
  clear hq hn hO hf;go_enter Tryz.func103,Tryz.ntmps103
  go_wp2_with fail
  refine hT.mono ?_;rintro e w1 ⟨rfl,r1,b1⟩;have bj:=b1.size;simp at bj;have aJ:=wJ (Blk.chg (tW w (.cells tyZ 35)) b1 (by unfold only;omega));have dA:=wJ r1;have C1:=wJ b1.pre;clear hT b1 r1;go_wp2_with fail
  refine(HF.out w1 dA.out (λg hg=>by have:=HS.out g hg;omega)).mono ?_;intro e w2 hP;obtain⟨b2,K1,X1,Z1,A1,m1,c1,qq,rfl,bk,bG⟩:=zcG hP;have aa:=aJ.out.chg b2 (by unfold only;omega);unfold tyZ at aa;obtain⟨a0,a1,a2,a3,q0,q1,q2,q3,lD⟩:=zae aa;have ar:=wJ aa;have C2:=wJ (C1.out.trans b2);have bP:=wJ bk;have aO:=wJ bG;clear aa b2 hP bk bG;go_wp2_with fail
  try simp only[Exit.inBlock,Exit.then]
  refine ub (zaa rfl _ _ w.heap.size 35 _ (0,0) _ rfl (zai _ _ _ _ ar.out) Tryz.underlying35 rfl (by kernel_rfl)) rfl ?_;cases qq with
  |false=>exact zaV S b (n+1) w _ _ _ K1 X1 Z1 A1 m1 c1 (C2.out.set4 _ _ _ _ (tV _)) (bP.out rfl) rfl
  |true =>
   obtain⟨t,r,gD,ho,aq,bV⟩:=aO.out rfl;refine za0 S b (n+1) w _ _ _ K1 X1 Z1 A1 m1 c1 t r (C2.out.set4 _ _ _ _ (tV _)) (by omega) ho rfl ?_ (bV.set4 _ _ _ _ (by omega) (λk hk=>by have:=HS.out k hk;omega));exact(aq.set4 _ _ _ _ (λk hk=>by omega)).keep (λg hg=>by simp;omega) (λ_ _=>rfl)
 |false =>
  simp only[vy,vZ]at hT ⊢;obtain⟨n,hn⟩:∃n,l.length=n:=⟨_,rfl⟩;have HN:=wJ hn;rw[hn]at hl hf ⊢
  obtain⟨O,hO⟩:∃O,app f l=O:=⟨_,rfl⟩;have HP:Hid (∀w1,Rdr S w1 b l->(∀g,S g->g≠b/\g<w1.heap.size)->Calls Tryz.prog 148 #[.pointer (some ⟨b,0,none⟩)] w1 (TPost S b n w1 O)):=by
   refine wJ λw1 hr hs=>?_;have:=HA.out w1 l hr hs HG.out (by omega) (by omega);rwa [hO,hn]at this
  have HGA:Hid (∀t r,O=some (t,r)->AllG r):=wJ λt r h=>((zfX f).2.1 l t r HG.out (hO.trans h)).2.1;obtain⟨R,hR⟩:∃R,arrow f O=R:=⟨_,rfl⟩;have ef:=wJ hR;rw[hO,hR]
  clear hq hn hO hR;go_enter Tryz.func103,Tryz.ntmps103
  go_wp2_with fail
  refine hT.mono ?_;rintro e w1 ⟨rfl,r1,b1⟩;have bj:=b1.size;simp at bj;have aJ:=wJ (Blk.chg (tW w (.cells tyZ 35)) b1 (by unfold only;omega));have dA:=wJ r1;have C1:=wJ b1.pre;clear hT b1 r1;go_wp2_with fail
  refine(HP.out w1 dA.out (λg hg=>by have:=HS.out g hg;omega)).mono ?_;intro e w2 hP;obtain⟨b2,K1,X1,Z1,A1,m1,c1,qq,rfl,bk,bG⟩:=zcG hP;have bo:=b2.size;have aa:=aJ.out.chg b2 (by unfold only;omega);unfold tyZ at aa;obtain⟨a0,a1,a2,a3,q0,q1,q2,q3,lD⟩:=zae aa;have ar:=wJ aa;have C2:=wJ (C1.out.trans b2);have bP:=wJ bk;have aO:=wJ bG;clear aa b2 hP bk bG HP;cases qq with
  |false =>
   have HO:=wJ (ef.out.symm.trans (znv f O (bP.out rfl)));go_wp2_with fail
   try simp only[Exit.inBlock,Exit.then]
   refine ub (zaa rfl _ _ w.heap.size 35 _ (0,0) _ rfl ((zai _ _ _ _ ar.out).alloc _) Tryz.underlying35 rfl (by kernel_rfl)) rfl ?_;exact zaV S b n w _ _ _ K1 X1 Z1 A1 m1 c1 ((C2.out.set4 _ _ _ _ (tV _)).alloc _) HO.out rfl
  |true =>
   obtain⟨t,r,gD,ho,aq,bV⟩:=aO.out rfl;obtain⟨q',nj⟩:∃q',isHd r 6 [45,62]=q':=⟨_,rfl⟩;have HQ':=wJ nj;have HO:=wJ ho;have bD:=wJ aq;have cN:=bV.lt;have gJ:Hid (∀g,S g->g≠b/\g<w2.heap.size):=wJ λg hg=>by have:=HS.out g hg;omega
   have kL:Hid (Calls Tryz.prog 136 #[.pointer (some ⟨b,0,none⟩),.int .i64 6,.string ⟨#[45,62]⟩] (w2.alloc (.cells #[.int .i64 K1,.string X1,.int .i64 Z1,.slice A1 m1 c1] 35)) λe w'=>e=.returned (.bool q')/\Rdr S w' b (if q'=true then r.tail else r)/\Chg (only b) (w2.alloc (.cells #[.int .i64 K1,.string X1,.int .i64 Z1,.slice A1 m1 c1] 35)) w'):=by
    have:=zcR S b r 6 6 rfl ⟨#[45,62]⟩ (w2.alloc (.cells #[.int .i64 K1,.string X1,.int .i64 Z1,.slice A1 m1 c1] 35)) (bV.alloc _ (λg hg=>(gJ.out g hg).2)) (λg hg=>by have:=gJ.out g hg;simp;omega) (by omega) (by decide);have eb:(⟨#[45,62]⟩:ByteArray).data.toList=[45,62]:=rfl;rw[eb,took,nj]at this
    exact wJ this
   clear nj ho aq bV;go_wp2_with fail
   refine kL.out.mono ?_;rintro e w3 ⟨rfl,r3,b3⟩;have eA:=b3.size;simp at eA;have tB:=wJ (Blk.chg (tW w2 (.cells #[.int .i64 K1,.string X1,.int .i64 Z1,.slice A1 m1 c1] 35)) b3 (by unfold only;omega));have aa:=(ar.out.alloc _).chg b3 (by unfold only;omega);have bU:=wJ aa;have C3:=wJ ((C2.out.alloc _).trans b3);have gz:=wJ r3;have ti:Hid (RdV (λg=>w1.heap.size<=g/\g<w2.heap.size) w3 t (.agg #[.int .i64 K1,.string X1,.int .i64 Z1,.slice A1 m1 c1])) :=
    wJ (bD.out.keep (λ_ h=>h) (λg hg=>(b3.block g (by simp;omega) (by unfold only;omega)).trans (uc _ _ _ hg.2)))
   clear b3 r3 aa kL;cases q' with
   |false =>
    have cj:=wJ (ef.out.symm.trans ((zgu f O t r HO.out).trans (by rw[HQ'.out,ue (by decide)])));obtain⟨p0,p1,p2,p3,s0,s1,s2,s3,ic⟩:=zae tB.out;obtain⟨a0,a1,a2,a3,q0,q1,q2,q3,fL⟩:=zae bU.out;go_wp2_with fail
    try simp only[Exit.inBlock,Exit.then]
    refine ub (zaa rfl _ _ w.heap.size 35 _ (0,0) _ rfl (zai _ _ _ _ bU.out) Tryz.underlying35 rfl (by kernel_rfl)) rfl ?_;have aD:=gz.out;rw[ue (by decide)]at aD
    refine za0 S b n w _ _ _ K1 X1 Z1 A1 m1 c1 t r (C3.out.set4 _ _ _ _ (tV _)) gD cj.out rfl ?_ (aD.set4 _ _ _ _ (by omega) (λk hk=>by have:=HS.out k hk;omega));exact(ti.out.set4 _ _ _ _ (λk hk=>by omega)).keep (λg hg=>by simp;omega) (λ_ _=>rfl)
   |true =>
    obtain⟨t1,r1,cF,-,-⟩:=zaB r 6 [45,62] (by decide) HQ'.out;obtain⟨O2,eg⟩:∃O2,read f r1=O2:=⟨_,rfl⟩;have cj:Hid (R=O2.map λy=>(.fn t y.1,y.2)):=wJ (ef.out.symm.trans (zj2 HO.out HQ'.out (by rw[cF];exact eg)));have aD:Rdr S w3 b r1:=by have:=gz.out;rw[ud rfl,cF]at this;exact this
    have je:r1.length+1<n:=by
      have:r.length=r1.length+1:=by rw[cF];rfl
      omega
    have dE:AllG r1:=λt ht=>HGA.out _ r HO.out t (by rw[cF];exact vp _ ht);have hW:=HR.out w3 r1 aD (λg hg=>by have:=gJ.out g hg;omega) dE (by omega) (by omega);rw[eg]at hW
    clear cF eg aD dE gz;go_wp2_with fail
    refine hW.mono ?_;intro e w4 hP;obtain⟨b4,K2,X2,Z2,A2,m2,c2,q4,rfl,bk,bG⟩:=zcG hP;have kp:=b4.size;have oA:=tB.out.chg b4 (by unfold only;omega);have aa:=bU.out.chg b4 (by unfold only;omega);obtain⟨p0,p1,p2,p3,s0,s1,s2,s3,ic⟩:=zae oA;obtain⟨a0,a1,a2,a3,q0,q1,q2,q3,rT⟩:=zae aa;have bZ:=wJ aa;have C4:=wJ (C3.out.trans b4);have HNO4:=wJ bk;have sT:=wJ bG;have HRD4:Hid (RdV (λg=>w1.heap.size<=g/\g<w2.heap.size) w4 t (.agg #[.int .i64 K1,.string X1,.int .i64 Z1,.slice A1 m1 c1])) :=
     wJ (ti.out.keep (λ_ h=>h) (λg hg=>b4.block g (by omega) (by unfold only;omega)))
    clear oA aa b4 bk bG hP hW;go_wp2_with fail
    try simp only[Exit.inBlock,Exit.then]
    refine ub (zaa rfl _ _ w.heap.size 35 _ (0,0) _ rfl (((zai _ _ _ _ bZ.out).alloc _).alloc _) Tryz.underlying35 rfl (by kernel_rfl)) rfl ?_;have c4:Chg (only b) w _:=((C4.out.set4 (g:=w.heap.size) (.int .i64 4) (.string ⟨#[]⟩) (.int .i64 0) (.slice (some ⟨w4.heap.size+1,0,none⟩) 2 2) (tV _)).alloc (.cells #[.int .i64 K2,.string X2,.int .i64 Z2,.slice A2 m2 c2] 35)).alloc (.cells #[.int .i64 K1,.string X1,.int .i64 Z1,.slice A1 m1 c1,.int .i64 K2,.string X2,.int .i64 Z2,.slice A2 m2 c2] 35);cases q4 with
    |false=>exact zaV S b n w _ _ _ 4 ⟨#[]⟩ 0 (some ⟨w4.heap.size+1,0,none⟩) 2 2 c4 (by rw[cj.out,HNO4.out rfl];rfl) rfl
    |true =>
     obtain⟨u,r2,hr2l,ho2,hrd2,rF⟩:=sT.out rfl;refine za0 S b n w _ _ _ 4 ⟨#[]⟩ 0 (some ⟨w4.heap.size+1,0,none⟩) 2 2 (.fn t u) r2 c4 (by omega) (by rw[cj.out,ho2];rfl) rfl ?_ ?_
     ·exact znx w w4 _ t u _ _ K1 K2 Z1 Z2 X1 X2 A1 A2 m1 m2 c1 c2 rT HRD4.out hrd2 (λg hg=>by omega) (λg hg=>by omega) (by simp)
       (λk hk bf=>(uc _ _ _ (by simp;omega)).trans ((uc _ _ _ (by simp;omega)).trans (zan _ _ _ _ _ _ _ bf))) (λj v hj=>zao _ _ _ _ (by simp) j v hj)
     ·have aA:=rF.lt
      have hS4:∀g,S g->g<w4.heap.size:=λg hg=>by have:=HS.out g hg;omega
      exact((rF.set4 _ _ _ _ (by omega) (λk hk=>by have:=HS.out k hk;omega)).alloc _ (λg hg=>by have:=hS4 g hg;simp;omega)).alloc _ (λg hg=>by have:=hS4 g hg;simp;omega)
theorem zpI(S:Nat->Prop)(b:Nat)(f:Nat):∀f1,f1<=f ->
  Reads S b 103 4 read f1/\Reads S b 148 3 app f1/\Reads S b 174 2 atom f1:=by
 induction f with
 |zero =>
  intro f1 h;exact⟨λw l _ _ _ _ h2=>by omega,λw l _ _ _ _ h2=>by omega,λw l _ _ _ _ h2=>by omega⟩
 |succ f ih =>
  intro f1 h1;by_cases h:f1<=f
  ·exact ih f1 h
  ·obtain rfl:f1=f+1:=by omega
   have i0:=ih f (tV _);exact⟨λw l hr hS hG hl hf=>zny f S b l w hr hS hG hl hf i0.1 i0.2.1,λw l hr hS hG hl hf=>zpH f S b l w hr hS hG hl hf (λf1 h=>(ih f1 h).2.2),λw l hr hS hG hl hf=>zoY f S b l w hr hS hG hl hf i0.1⟩
theorem zdu {P:Program} {fn:Func} {p u z:Tmp} {ty:TypeId}(h:fn.results=#[.cell p ty,.tmp u,.tmp z])(tmps:Array Value)(w:World)(g:Nat)(t:TypeId)(cs:Array Value)(fr:Nat × Nat)(d:TypeDesc)
  (hp:tmps.getD p undef=.pointer (some ⟨g,0,none⟩))(hg:w.heap[g]?=some (.cells cs t fr))
  (hu:P.underlying ty=some d)(hd:(match d with|.struct _|.array _ _=>true|_=>false)=true)(hi:(P.info? ty).map (·.size)=some cs.size):(results fn tmps).run P w=.ok (.tuple #[.agg cs,tmps.getD u undef,tmps.getD z undef]) w:=by
 have oj:tmps[p]?.getD undef=.pointer (some ⟨g,0,none⟩):=by simpa using hp
 simp[results,h,oj,asAddr,run_loadVar_row w g t ty cs fr d hg hu hd hi]
theorem heap_drew(w:World):w.drew.heap=w.heap:=rfl
theorem zdn(w:World)(g:Nat)(b0 b1 b2 b3:Value):((((w.setCell ⟨g,0,none⟩ b0).setCell ⟨g,1,none⟩ b1).setCell ⟨g,2,none⟩ b2).setCell ⟨g,3,none⟩ b3).heap.size=w.heap.size:=by simp
theorem RdT.toks {w:World} {v:Value} {l:List Tok}(h:RdT w v l)(hc:∃A c,v=.slice A l.length c/\l.length<=c):Toks (λg=>g<w.heap.size) w v l:=by
 obtain⟨A,c,rfl,j9⟩:=hc;obtain⟨A',c',hv,hp⟩:=h;injection hv with e1 e2 e3;subst e1 e3;refine⟨A,c,rfl,j9,λh0=>?_⟩;obtain⟨g,hA,hg,aZ⟩:=hp h0;exact⟨g,0,hA,hg,λj u hu=>by rw[uJ];exact aZ j u hu⟩
def zlr(S:Nat->Prop)(w:World)(o:Option (Ty × List Tok))(e:Ending)(w':World):Prop :=
 Below w.heap.size w w'/\∃K X Z A m c v q,e=.returned (.tuple #[.agg #[.int .i64 K,.string X,.int .i64 Z,.slice A m c],v,.bool q])/\(q=false->o=none/\v=.slice none 0 0) /\
  (q=true->∃t r A2 c2,o=some (t,r)/\v=.slice A2 r.length c2/\RdV (λg=>w.heap.size<=g/\g<w'.heap.size) w' t (.agg #[.int .i64 K,.string X,.int .i64 Z,.slice A m c])/\Toks S w' (.slice A2 r.length c2) r)
theorem znk(S:Nat->Prop)(l:List Tok)(v:Value)(w:World)(h:Toks S w v l)(hS:∀g,S g->g<w.heap.size)(hG:AllG l)(hl:l.length<=100000):Calls Tryz.prog 53 #[v] w (zlr S w (read (enough l) l)):=by
 have HV:=wJ h;have HS:=wJ hS;obtain⟨O,hO⟩:∃O,read (enough l) l=O:=⟨_,rfl⟩;have hW:=λw1 hr hs=>(zpI S (w.heap.size+1) (enough l) (enough l) (tV _)).1 w1 l hr hs hG hl (by unfold enough;omega);rw[hO]at hW ⊢
 have HW:=wJ hW;clear h hG hl hO hW;obtain⟨A,c,rfl,j9,_⟩:=HV.out;obtain⟨n,hn⟩:∃n,l.length=n:=⟨_,rfl⟩;rw[hn]at HV HW ⊢
 clear j9 hn;have HR:Hid (Rdr S ((w.alloc (.cells tyZ 35)).alloc (.cells #[.slice A n c] 172)) (w.heap.size+1) l):=by
  refine wJ ⟨_,?_,HV.out.keep (λg hg=>?_)⟩
  ·have:=tW (w.alloc (.cells tyZ 35)) (.cells #[.slice A n c] 172)
   rw[show(w.alloc (.cells tyZ 35)).heap.size=w.heap.size+1 by simp]at this
   exact this
  ·have kZ:=hS g hg
   exact(uc _ _ _ (by simp;omega)).trans (uc _ _ _ kZ)
 unfold tyZ at HR;go_enter Tryz.func53,Tryz.ntmps53
 go_wp2_with fail
 refine(HW.out _ HR.out (λg hg=>by have:=HS.out g hg;simp;omega)).mono ?_;intro e w1 hP;obtain⟨b1,K1,X1,Z1,A1,m1,c1,q,rfl,bk,bG⟩:=zcG hP;have bj:=b1.size;simp at bj;have aa:=Blk.chg (Blk.alloc (tW w (.cells tyZ 35)) (.cells #[.slice A n c] 172)) b1 (by unfold only;omega);unfold tyZ at aa;obtain⟨a0,a1,a2,a3,q0,q1,q2,q3,ax⟩:=zae aa;have aE:=wJ aa;have C1:=wJ b1;have bP:=wJ bk;have aO:=wJ bG;clear aa b1 bk bG hP;cases q with
 |false =>
  go_wp2_with fail
  try simp only[Exit.inBlock,Exit.then]
  refine ub (zdu rfl _ _ w.heap.size 35 _ (0,0) _ rfl (zai _ _ _ _ (zai _ _ _ _ aE.out)) Tryz.underlying35 rfl (by kernel_rfl)) rfl ?_;have hb:Below w.heap.size w w1:=(((Chg.refl (only (w.heap.size+1)) w).alloc _).alloc _ |>.trans C1.out).toBelow (tV _) (λk hk=>by unfold only;omega);exact⟨zaq (zaq hb _ _ _ _ (tV _)) _ _ _ _ (tV _),0,⟨#[]⟩,0,none,0,0,.slice none 0 0,false,rfl,λ_=>⟨bP.out (by first|rfl|trivial),rfl⟩,(λh=>by cases h)⟩
 |true =>
  obtain⟨t,r,gD,ho,aq,bV⟩:=aO.out rfl;obtain⟨v2,ob,oa⟩:=bV;have rr:=oa;obtain⟨A2,c2,rfl,-,-⟩:=oa;have kL:Hid (Toks S w1 (.slice A2 r.length c2) r):=wJ rr;clear rr;have f0:=ob.cell 0;have bD:Hid (RdV (λg=>w.heap.size<g/\g<w1.heap.size) w1 t (.agg #[.int .i64 K1,.string X1,.int .i64 Z1,.slice A1 m1 c1])):=wJ (aq.keep (λg hg=>by simp at hg;omega) (λ_ _=>rfl));have HO:=wJ ho;obtain⟨rn,ep⟩:∃rn,r.length=rn:=⟨_,rfl⟩;have ir:=wJ ep;rw[ep]at f0
  replace f0:w1.cell? ⟨w.heap.size+1,0,none⟩=some (.slice A2 rn c2):=f0;clear ob gD ho aq ep;go_wp2_with fail
  go_region
  all_goals
   go_wp2_with fail
   try simp only[Exit.inBlock,Exit.then]
   refine ub (zdu rfl _ _ w.heap.size 35 _ (0,0) _ rfl (zai _ _ _ _ (zai _ _ _ _ aE.out)).drew Tryz.underlying35 rfl (by kernel_rfl)) rfl ?_;have hb:Below w.heap.size w w1:=(((Chg.refl (only (w.heap.size+1)) w).alloc _).alloc _ |>.trans C1.out).toBelow (tV _) (λk hk=>by unfold only;omega);refine⟨(zaq (zaq hb _ _ _ _ (tV _)) _ _ _ _ (tV _)).drew,K1,X1,Z1,A1,m1,c1,.slice A2 rn c2,true,rfl,(λh=>by cases h),λ_=>⟨t,r,A2,c2,HO.out,by rw[ir.out],?_,?_⟩⟩
   ·refine bD.out.keep (λg hg=>?_) (λg hg=>?_)
    ·refine⟨Nat.le_of_lt hg.1,?_⟩
     rw[heap_drew,zdn,zdn]
     exact hg.2
    ·have bf:g≠w.heap.size:=Nat.ne_of_gt hg.1
     rw[heap_drew,zan _ _ _ _ _ _ _ bf,zan _ _ _ _ _ _ _ bf]
   ·exact kL.out.keep (λg hg=>by
     have bf:g≠w.heap.size:=Nat.ne_of_lt (HS.out g hg);rw[heap_drew,zan _ _ _ _ _ _ _ bf,zan _ _ _ _ _ _ _ bf])
end Go.Proofs.YtknkclefoiohpaaGreatDoor
namespace Go.Proofs.YtknkclefoiohpaaGreatDoor
open Go.RowKit Lx Tx
def RdB(w:World)(b:Nat):Prop:=∃A n c,Blk w b 141 #[.slice A n c]
theorem RdB.lt {w:World} {b:Nat}(h:RdB w b):b<w.heap.size:=by obtain⟨A,n,c,h⟩:=h;exact h.lt
theorem RdB.same {w w':World} {b:Nat}(h:RdB w b)(he:w'.heap[b]?=w.heap[b]?):RdB w' b:=by obtain⟨A,n,c,h⟩:=h;exact⟨A,n,c,h.same he⟩
theorem RdrS.rdB {S:Nat->Prop} {w:World} {b:Nat} {l:List Tok}(h:RdrS S w b l):RdB w b:=by
 obtain⟨v,h1,A,c,rfl,-⟩:=h;exact⟨A,_,c,h1⟩
structure ChR (b:Nat) (w w':World):Prop where
 c:Chg (only b) w w'
 r:RdB w b->RdB w' b
theorem ChR.size {b:Nat} {w w':World}(h:ChR b w w'):w.heap.size<=w'.heap.size:=h.c.size
theorem ChR.block {b:Nat} {w w':World}(h:ChR b w w')(k:Nat)(hk:k<w.heap.size)(hn:¬only b k):w'.heap[k]?=w.heap[k]?:=h.c.block k hk hn
theorem ChR.refl(b:Nat)(w:World):ChR b w w:=⟨Chg.refl _ _,id⟩
theorem ChR.trans {b:Nat} {w w1 w2:World}(h:ChR b w w1)(k:ChR b w1 w2):ChR b w w2:=⟨h.c.trans k.c,λx=>k.r (h.r x)⟩
theorem ChR.of_below {b:Nat} {w w':World}(h:Below w.heap.size w w'):ChR b w w':=⟨Chg.of_below h,λx=>x.same (h.block b x.lt)⟩
theorem ChR.below {b:Nat} {w w1 w2:World}(h:ChR b w w1)(k:Below w1.heap.size w1 w2):ChR b w w2:=h.trans (ChR.of_below k)
theorem ChR.alloc {b:Nat} {w w1:World}(h:ChR b w w1)(o:Obj):ChR b w (w1.alloc o):=h.below ((ua _ _).alloc (tV _) o)
theorem ChR.pre {b:Nat} {w w':World} {o:Obj}(h:ChR b (w.alloc o) w'):ChR b w w':=((ChR.refl b w).alloc o).trans h
theorem ChR.drew {b:Nat} {w w1:World}(h:ChR b w w1):ChR b w w1.drew:=⟨h.c.drew,λx=>(h.r x).same rfl⟩
theorem ChR.setCell {b:Nat} {a w:World}(h:ChR b a w) {p:Addr}(hp:a.heap.size<=p.block\/False)(u:Value):ChR b a (w.setCell p u):=by
 have hp:=hp.resolve_right id;exact⟨h.c.setCell (.inl hp) u,λx=>(h.r x).same (tY w p u b (λe=>by have:=x.lt;omega))⟩
theorem ChR.set4 {b:Nat} {w w':World} {g:Nat}(h:ChR b w w')(b0 b1 b2 b3:Value)(hg:w.heap.size<=g):ChR b w ((((w'.setCell ⟨g,0,none⟩ b0).setCell ⟨g,1,none⟩ b1).setCell ⟨g,2,none⟩ b2).setCell ⟨g,3,none⟩ b3) :=
 (((h.setCell (p:=⟨g,0,none⟩) (.inl hg) _).setCell (p:=⟨g,1,none⟩) (.inl hg) _).setCell (p:=⟨g,2,none⟩) (.inl hg) _).setCell (p:=⟨g,3,none⟩) (.inl hg) _
theorem ChR.grown {b:Nat} {a w w':World} {row:Option Nat}(h:ChR b a w)(hg:w.grownBy w' row)(hr:∀k,row=some k->a.heap.size<=k\/False):ChR b a w':=by
 refine⟨h.c.grown hg (λk hk=>.inl ((hr k hk).resolve_right id)),λx=>(h.r x).same (hg.block b (h.r x).lt (λe=>?_))⟩;have:=(hr b e.symm).resolve_right id;have:=x.lt;omega
theorem Blk.chgR {b:Nat} {w w':World} {g:Nat} {t:TypeId} {cs:Array Value}(h:Blk w g t cs)(hc:ChR b w w')(hm:¬only b g):Blk w' g t cs:=h.chg hc.c hm
theorem zc1 {b B:Nat} {e:TypeId} {size n:Nat} {v:Value} {xs:List Value} {w w':World}(h:w.ownsRow B e size v n xs)(hc:ChR b w w')(hb:b<B):w'.ownsRow B e size v n xs:=zcg h hc.c hb
theorem ChR.of_rdr {S:Nat->Prop} {b:Nat} {w w':World} {l:List Tok}(h:Chg (only b) w w')(hr:RdrS S w' b l):ChR b w w':=⟨h,λ_=>hr.rdB⟩
end Go.Proofs.YtknkclefoiohpaaGreatDoor
