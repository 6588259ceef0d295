import Derived.Test.YtfafilmklhnngaaGreatDoorBkN
import Derived.Test.YtfafilmklhnngaaGreatDoorBkX
set_option maxHeartbeats 12800000
namespace Go.Proofs.YtfafilmklhnngaaGreatDoor
open Go.RowKit Lx Tx
set_option maxRecDepth 100000
def TPost(S:Nat->Prop)(b n:Nat)(w:World)(o:Option (Ty × List Tok))(e:Ending)(w':World):Prop :=
 Chg (only b) w w'/\∃K X Z A m c,
  ((o=none/\e=.returned (.tuple #[.agg #[.int .i64 K,.string X,.int .i64 Z,.slice A m c],.bool false])) \/
   (∃t r,r.length<n/\o=some (t,r)/\e=.returned (.tuple #[.agg #[.int .i64 K,.string X,.int .i64 Z,.slice A m c],.bool true]) /\
    RdV (λg=>w.heap.size<=g/\g<w'.heap.size) w' t (.agg #[.int .i64 K,.string X,.int .i64 Z,.slice A m c])/\Rdr S w' b r))
theorem zaT(S:Nat->Prop)(b n:Nat)(w w':World)(o:Option (Ty × List Tok))(e:Ending)(K:Int)(X:ByteArray)(Z:Int)(A:Option Addr)(m c:Nat)(hb:Chg (only b) w w')(ho:o=none)
  (he:e=.returned (.tuple #[.agg #[.int .i64 K,.string X,.int .i64 Z,.slice A m c],.bool false])):TPost S b n w o e w' :=
 ⟨hb,K,X,Z,A,m,c,.inl ⟨ho,he⟩⟩
theorem za1(S:Nat->Prop)(b n:Nat)(w w':World)(o:Option (Ty × List Tok))(e:Ending)(K:Int)(X:ByteArray)(Z:Int)(A:Option Addr)(m c:Nat)(t:Ty)(r:List Tok)(hb:Chg (only b) w w')(hr:r.length<n)(ho:o=some (t,r))
  (he:e=.returned (.tuple #[.agg #[.int .i64 K,.string X,.int .i64 Z,.slice A m c],.bool true]))
  (hv:RdV (λg=>w.heap.size<=g/\g<w'.heap.size) w' t (.agg #[.int .i64 K,.string X,.int .i64 Z,.slice A m c]))(hd:Rdr S w' b r):TPost S b n w o e w' :=
 ⟨hb,K,X,Z,A,m,c,.inr ⟨t,r,hr,ho,he,hv,hd⟩⟩
def Reads(S:Nat->Prop)(b F k:Nat)(rd:Nat->List Tok->Option (Ty × List Tok))(f:Nat):Prop :=
 ∀(w:World) (l:List Tok),Rdr S w b l->(∀g,S g->g≠b/\g<w.heap.size)->AllG l->l.length<=100000->4*l.length+k<=f->Calls Tryz.prog F #[.pointer (some ⟨b,0,none⟩)] w (TPost S b l.length w (rd f l))
def tyZ:Array Value:=#[.int .i64 0,.string ⟨#[]⟩,.int .i64 0,.slice none 0 0]
theorem zfp(X:ByteArray)(w:World):Calls Tryz.prog 134 #[.string X] w λe w'=>e=.returned (.agg #[.int .i64 1,.string X,.int .i64 0,.slice none 0 0])/\Below w.heap.size w w':=by
 go_enter Tryz.func134,Tryz.ntmps134
 go_wp2
 exact bodyPost_ret (results_cell_row rfl _ _ w.heap.size 37 _ (0,0) _ rfl (heap_alloc_new _ _) Tryz.underlying37 rfl (by kernel_rfl)) rfl ⟨rfl,(Below.refl _ w).alloc (Ai _) _⟩
theorem Chg.pre {M:Nat->Prop} {w w':World} {o:Obj}(h:Chg M (w.alloc o) w'):Chg M w w':=((Chg.refl M w).alloc o).trans h
theorem Chg.set4 {M:Nat->Prop} {w w':World} {g:Nat}(h:Chg M w w')(b0 b1 b2 b3:Value)(hg:w.heap.size<=g):Chg M w ((((w'.setCell ⟨g,0,none⟩ b0).setCell ⟨g,1,none⟩ b1).setCell ⟨g,2,none⟩ b2).setCell ⟨g,3,none⟩ b3) :=
 (((h.setCell (p:=⟨g,0,none⟩) (.inl hg) _).setCell (p:=⟨g,1,none⟩) (.inl hg) _).setCell (p:=⟨g,2,none⟩) (.inl hg) _).setCell (p:=⟨g,3,none⟩) (.inl hg) _
theorem Rdr.set4 {S:Nat->Prop} {w:World} {b g:Nat} {l:List Tok}(h:Rdr S w b l)(b0 b1 b2 b3:Value)(hb:b≠g)(hS:∀k,S k->k≠g):Rdr S ((((w.setCell ⟨g,0,none⟩ b0).setCell ⟨g,1,none⟩ b1).setCell ⟨g,2,none⟩ b2).setCell ⟨g,3,none⟩ b3) b l :=
 h.keep (zat _ _ _ _ _ _ _ hb) (λk hk=>zat _ _ _ _ _ _ _ (hS k hk))
theorem RdV.set4 {S:Nat->Prop} {w:World} {g:Nat} {t:Ty} {v:Value}(h:RdV S w t v)(b0 b1 b2 b3:Value)(hS:∀k,S k->k≠g):RdV S ((((w.setCell ⟨g,0,none⟩ b0).setCell ⟨g,1,none⟩ b1).setCell ⟨g,2,none⟩ b2).setCell ⟨g,3,none⟩ b3) t v :=
 h.keep (λ_ h=>h) (λk hk=>zat _ _ _ _ _ _ _ (hS k hk))
def closed:Option (Ty × List Tok)->Option (Ty × List Tok)
 |none=>none
 |some x=>if isHd x.2 6 [41]=true then some (x.1,x.2.tail) else none
def paren(f:Nat)(l:List Tok):Option (Ty × List Tok):=if isHd l 6 [40]=true then closed (read f l.tail) else none
theorem zlC(O:Option (Ty × List Tok))(h:O=none):closed O=none:=by rw[h,closed]
theorem zkt(O:Option (Ty × List Tok))(t:Ty)(r:List Tok)(h:O=some (t,r)):closed O=if isHd r 6 [41]=true then some (t,r.tail) else none:=by rw[h,closed]
theorem AllG.tail' {l:List Tok}(h:AllG l):AllG l.tail:=by
 cases l with
 |nil=>exact h
 |cons a r=>exact h.tail
theorem ze8(l:List Tok)(k:Nat)(X:List UInt8)(hk:k≠0)(h:isHd l k X=true):∃t r,l=t::r/\t.kind=k/\t.text=X:=by
 cases l with
 |nil=>simp[isHd,hd]at h;exact absurd h.1.symm hk
 |cons t r=>simp[isHd,hd]at h;exact⟨t,r,rfl,h.1,h.2⟩
theorem znj(f:Nat)(S:Nat->Prop)(b:Nat)(l:List Tok)(w:World)(h:Rdr S w b l)(hS:∀g,S g->g≠b/\g<w.heap.size)(hG:AllG l)(hl:l.length<=100000)(hf:4*l.length+2<=f+1)
  (IH:Reads S b 95 4 read f):Calls Tryz.prog 205 #[.pointer (some ⟨b,0,none⟩)] w (TPost S b l.length w (paren f l)):=by
 have bJ:=h.lt;have hT:=zc3 S b l 6 6 rfl ⟨#[40]⟩ (w.alloc (.cells tyZ 37)) (h.alloc _ (λg hg=>(hS g hg).2)) (λg hg=>⟨(hS g hg).1,by have:=(hS g hg).2;simp;omega⟩) hl (by decide);unfold tyZ at hT;have eb:(⟨#[40]⟩:ByteArray).data.toList=[40]:=rfl;rw[eb]at hT
 unfold paren;unfold took at hT;obtain⟨q,hq⟩:∃q,isHd l 6 [40]=q:=⟨_,rfl⟩;rw[hq]at hT ⊢
 have HS:=CS hS;have HG:=CS hG;clear eb h hS hG;cases q with
 |false =>
  clear hq hf IH HS HG;simp only[Bg,BX]at hT ⊢;obtain⟨n,hn⟩:∃n,l.length=n:=⟨_,rfl⟩;rw[hn]at hl ⊢
  clear hn hl;go_enter Tryz.func205,Tryz.ntmps205
  go_wp2_with fail
  refine hT.mono ?_;rintro e w1 ⟨rfl,r1,b1⟩;have hblk:Blk w1 w.heap.size 37 #[.int .i64 0,.string ⟨#[]⟩,.int .i64 0,.slice none 0 0]:=Blk.chg (heap_alloc_new _ _) b1 (by unfold only;omega);obtain⟨a0,a1,a2,a3,r0,r1',r2,r3,dj⟩:=zaa hblk;have dW:=CS hblk;have B1:=CS b1;clear hblk b1 r1 hT;go_wp2_with fail
  try simp only[Exit.inBlock,Exit.then]
  refine bodyPost_ret (zae rfl _ _ w.heap.size 37 _ (0,0) _ rfl (zah _ _ _ _ dW.out) Tryz.underlying37 rfl (by kernel_rfl)) rfl ?_;exact zaT S b n w _ _ _ 0 ⟨#[]⟩ 0 none 0 0 (B1.out.pre.set4 _ _ _ _ (Ai _)) rfl rfl
 |true =>
  obtain⟨t0,r0,rfl,-,-⟩:=ze8 _ _ _ (by decide) hq;simp only[CA,List.tail_cons]at hT ⊢;have HL:Hid (r0.length<=100000/\4*r0.length+4<=f):=CS (by simp at hl hf;omega);rw[Ao]
  obtain⟨n,hn⟩:∃n,r0.length=n:=⟨_,rfl⟩;have HN:=CS hn;rw[hn]
  have kg:=CS IH;clear hq hf hl IH hn;obtain⟨O,hO⟩:∃O,read f r0=O:=⟨_,rfl⟩;obtain⟨O2,tp⟩:∃O2,closed O=O2:=⟨_,rfl⟩;rw[hO,tp]
  have HO:=CS hO;have vC:=CS tp;clear hO tp;go_enter Tryz.func205,Tryz.ntmps205
  go_wp2_with fail
  refine hT.mono ?_;rintro e w1 ⟨rfl,r1,b1⟩;have hblk:Blk w1 w.heap.size 37 #[.int .i64 0,.string ⟨#[]⟩,.int .i64 0,.slice none 0 0]:=Blk.chg (heap_alloc_new _ _) b1 (by unfold only;omega);have h1:=b1.size;simp at h1;have nP:∀g,S g->g≠b/\g<w1.heap.size:=λg hg=>by have:=HS.out g hg;omega
  have hC:=kg.out w1 r0 r1 nP (AllG.tail HG.out) HL.out.1 HL.out.2;rw[HO.out,HN.out]at hC
  have dW:=CS hblk;have B1:=CS b1.pre;have H1:=CS h1;have fL:=CS nP;clear hblk b1 r1 hT h1 nP;go_wp2_with fail
  refine hC.mono ?_;rintro e w2 ⟨b2,K1,X1,Z1,A1,m1,c1,aB⟩;have hblk:Blk w2 w.heap.size 37 #[.int .i64 0,.string ⟨#[]⟩,.int .i64 0,.slice none 0 0]:=Blk.chg dW.out b2 (by unfold only;omega);obtain⟨a0,a1,a2,a3,q0,q1,q2,q3,dj⟩:=zaa hblk;have h2:=b2.size;have H2:=CS h2;have bQ:=CS hblk;have B2:=CS (B1.out.trans b2);clear hblk hC h2;rcases aB with⟨ho,rfl⟩|⟨t,r,fQ,ho,rfl,aK,hr⟩
  ·have cG:=CS (vC.out.symm.trans (zlC O ho))
   clear ho b2;go_wp2_with fail
   go_region
   all_goals
    go_wp2_with fail
    try simp only[Exit.inBlock,Exit.then]
    refine bodyPost_ret (zae rfl _ _ w.heap.size 37 _ (0,0) _ rfl ((zah _ _ _ _ bQ.out).alloc _).drew Tryz.underlying37 rfl (by kernel_rfl)) rfl ?_;exact zaT S b (n+1) w _ _ _ K1 X1 Z1 A1 m1 c1 (((B2.out.set4 _ _ _ _ (Ai _)).alloc _).drew) cG.out rfl
  ·have nO:∀g,S g->g≠b/\g<w2.heap.size:=λg hg=>by have:=fL.out g hg;have:=H2.out;omega
   have mE:r.length<=100000:=by have:=HL.out.1;have:=HN.out;omega
   obtain⟨q',eV⟩:∃q',isHd r 6 [41]=q':=⟨_,rfl⟩;have cG:Hid (O2=if q'=true then some (t,r.tail) else none):=CS (vC.out.symm.trans ((zkt O t r ho).trans (by rw[eV])));have lv:b≠w2.heap.size:=by have:=hr.lt;omega
   have ck:Hid (∀W,Blk W w2.heap.size 37 #[.int .i64 K1,.string X1,.int .i64 Z1,.slice A1 m1 c1] ->
     (W.cell? ⟨w2.heap.size,0,none⟩=some (.int .i64 K1)/\W.cell? ⟨w2.heap.size,1,none⟩=some (.string X1)/\W.cell? ⟨w2.heap.size,2,none⟩=some (.int .i64 Z1)/\W.cell? ⟨w2.heap.size,3,none⟩=some (.slice A1 m1 c1))) :=
    CS λW an=>⟨an.cell 0,an.cell 1,an.cell 2,an.cell 3⟩
   have BKX:Hid (∀W,Chg (only b) (w2.alloc (.cells #[.int .i64 K1,.string X1,.int .i64 Z1,.slice A1 m1 c1] 37)) W->Blk W w2.heap.size 37 #[.int .i64 K1,.string X1,.int .i64 Z1,.slice A1 m1 c1]) :=
    CS λW hW=>Blk.chg (heap_alloc_new _ _) hW (by unfold only;omega)
   have af:w2.heap.size≠w.heap.size:=by omega
   have rP:=CS fQ;have cF:=CS aK;have qB:Hid (∀W,Rdr S W b r->w2.heap.size<=W.heap.size->Calls Tryz.prog 140 #[.pointer (some ⟨b,0,none⟩),.int .i64 6,.string ⟨#[41]⟩] W λe w'=>e=.returned (.bool q')/\Rdr S w' b (if q'=true then r.tail else r)/\Chg (only b) W w'):=by
    refine CS λW hR aD=>?_;have:=zc3 S b r 6 6 rfl ⟨#[41]⟩ W hR (λg hg=>by have:=nO g hg;omega) mE (by decide);have eb:(⟨#[41]⟩:ByteArray).data.toList=[41]:=rfl;rw[eb,took,eV]at this
    exact this
   have R4:Hid (Rdr S (w2.alloc (.cells #[.int .i64 K1,.string X1,.int .i64 Z1,.slice A1 m1 c1] 37)).drew b r):=CS (hr.alloc _ (λg hg=>(nO g hg).2));have B4:Hid (Chg (only b) (w2.alloc (.cells #[.int .i64 K1,.string X1,.int .i64 Z1,.slice A1 m1 c1] 37)) (w2.alloc (.cells #[.int .i64 K1,.string X1,.int .i64 Z1,.slice A1 m1 c1] 37)).drew):=CS (Chg.refl _ _).drew;have RES:Hid (∀W,Chg (only b) (w2.alloc (.cells #[.int .i64 K1,.string X1,.int .i64 Z1,.slice A1 m1 c1] 37)) W->Blk W w.heap.size 37 #[.int .i64 0,.string ⟨#[]⟩,.int .i64 0,.slice none 0 0]) :=
    CS λW hW=>(bQ.out.alloc _).chg hW (by unfold only;omega)
   have lR:∀(x:Bool) (w:World),(Op.unary .not (.bool x)).run Tryz.prog w=.ok (.bool (!x)) w:=λ_ _=>rfl;obtain⟨x0,x1,x2,x3⟩:=ck.out _ (BKX.out _ (Chg.refl _ _));clear hr aK nO mE eV fQ ho b2;cases q'
   all_goals
    go_wp2_with fail
    go_region_held3 (λW=>W.cell? ⟨w2.heap.size,0,none⟩=some (.int .i64 K1)/\W.cell? ⟨w2.heap.size,1,none⟩=some (.string X1)/\W.cell? ⟨w2.heap.size,2,none⟩=some (.int .i64 Z1)/\W.cell? ⟨w2.heap.size,3,none⟩=some (.slice A1 m1 c1)) (first|(with_reducible exact ck.out _ (BKX.out _ B4.out))|(with_reducible exact ck.out _ (BKX.out _ B5.out))|(with_reducible exact ck.out _ (zfC af (BKX.out _ B5.out)))) (((with_reducible refine(qB.out _ R4.out (by simp)).mono ?_);rintro e w5 ⟨rfl,r5,b5⟩;have B5:=CS (B4.out.trans b5);have R5:=CS r5;obtain⟨z0,z1,z2,z3,y0,y1,y2,y3,hlz⟩:=zaa (RES.out _ B5.out);clear b5 r5))
   ·go_wp2_with fail
    try simp only[Exit.inBlock,Exit.then]
    refine bodyPost_ret (zae rfl _ _ w.heap.size 37 _ (0,0) _ rfl (zah _ _ _ _ (RES.out _ B5.out)) Tryz.underlying37 rfl (by kernel_rfl)) rfl ?_;exact zaT S b (n+1) w _ _ _ K1 X1 Z1 A1 m1 c1 ((((B2.out.alloc _).trans B5.out)).set4 _ _ _ _ (Ai _)) cG.out rfl
   ·go_wp2_with fail
    try simp only[Exit.inBlock,Exit.then]
    refine bodyPost_ret (zae rfl _ _ w.heap.size 37 _ (0,0) _ rfl (zah _ _ _ _ (RES.out _ B5.out)) Tryz.underlying37 rfl (by kernel_rfl)) rfl ?_;have h5:=B5.out.size;have h1:=H1.out;have h2:=H2.out;have fQ:=rP.out;simp at h5;refine za1 S b (n+1) w _ _ _ K1 X1 Z1 A1 m1 c1 t r.tail ((((B2.out.alloc _).trans B5.out)).set4 _ _ _ _ (Ai _)) (by simp;omega) cG.out rfl ?_ (R5.out.set4 _ _ _ _ (by omega) (λk hk=>by have:=HS.out k hk;omega));have hv:RdV (λg=>w1.heap.size<=g/\g<w2.heap.size) w5 t (.agg #[.int .i64 K1,.string X1,.int .i64 Z1,.slice A1 m1 c1]) :=
     cF.out.keep (λ_ h=>h) (λg hg=>(B5.out.block g (by simp;omega) (by unfold only;omega)).trans (Below.heap_alloc _ _ _ hg.2))
    exact(hv.set4 _ _ _ _ (λk hk=>by omega)).keep (λg hg=>by simp;omega) (λ_ _=>rfl)
end Go.Proofs.YtfafilmklhnngaaGreatDoor
namespace Go.Proofs.YtfafilmklhnngaaGreatDoor
open Go.RowKit Lx Tx
set_option maxRecDepth 100000
theorem zku(t:Tok)(h:Lx.Good t)(hk:t.kind=5):∃ds,t.text=63::ds/\ds≠[]:=by
 obtain⟨h1,h2,_⟩:=h;rw[hk]at h2
 cases hx:t.text with
 |nil=>exact absurd hx h1
 |cons c r =>
  rw[hx]at h2
  rw[first]at h2
  split at h2
  ·exfalso
   unfold word at h2;split at h2
   ·injection h2 with a _;omega
   ·injection h2 with a _
    unfold wordKind at a;split at a
    ·omega
    ·split at a <;> omega
  ·split at h2
   ·exfalso
    rcases zaB (c::r) with e|⟨e,_,_⟩ <;> rw[e]at h2 <;> injection h2 with a _ <;> omega
   ·split at h2
    ·rename_i hc
     subst hc;refine⟨r,rfl,λhr=>?_⟩;subst hr;unfold zbj at h2;split at h2
     ·injection h2 with a _;omega
     ·rename_i hn
      exact hn (by decide)
    ·exfalso
     unfold sign at h2;split at h2
     ·injection h2 with a _;omega
     ·split at h2
      ·injection h2 with a _;omega
      ·injection h2 with a _;omega
theorem zgD(l:List UInt8):∀acc,(∀d∈l,isDig d=true)->Lib.decFrom acc l=some (l.foldl (λn c=>10*n+(c.toNat-48)) acc):=by
 induction l with
 |nil=>intro acc _;rfl
 |cons a r ih =>
  intro acc h;have ha:=h a Ay;have hd:Lib.digitVal a=some (a.toNat-48):=by
   unfold Lib.digitVal;unfold isDig at ha;simp at ha;rw[Aq ha]
  rw[Lib.decFrom,hd,CL]
  simp only;rw[ih _ (λd hd=>h d (Ar _ hd)),Nat.mul_comm acc 10]
theorem zjl(l:List UInt8)(h0:l≠[])(h:∀d∈l,isDig d=true):Lib.atoi l=some (numOf l:Nat):=by
 cases l with
 |nil=>exact absurd rfl h0
 |cons a r =>
  have ha:=h a Ay;unfold isDig at ha;simp at ha;have h1:(a==45)=false:=by rw[AF];rintro rfl;exact absurd ha.1 (by decide)
  have h2:(a==43)=false:=by rw[AF];rintro rfl;exact absurd ha.1 (by decide)
  rw[Lib.atoi,h1,h2]
  simp only[Bg,BX];rw[Lib.decNat]
  simp only[List.isEmpty_cons,Bg,BX];rw[zgD _ 0 h]
  rfl
theorem below_bytesWorld(w:World)(t:ByteArray):Below w.heap.size w (Lib.bytesWorld w 5 t):=by
 unfold Lib.bytesWorld;exact Lib.below_freeze (((Below.refl _ w).drew).alloc (Ai _) _) (p:=⟨w.heap.size,_,none⟩) (Ai _) _
theorem zkv(o:Option (Ty × List Tok)):closed o=match o with|none=>none|some (x,r2)=>(eat (isSign · [41]) r2).map λr3=>(x,r3):=by
 cases o with
 |none=>rfl
 |some y =>
  obtain⟨x,r2⟩:=y;rw[closed]
  cases r2 with
  |nil=>simp[isHd,hd,eat]
  |cons t r =>
   show(if(t.kind==6&&t.text==[41])=true then some (x,r) else none)=(if(t.kind==6&&t.text==[41])=true then some r else none).map λr3=>(x,r3);cases (t.kind==6&&t.text==[41]) <;> rfl
theorem zfY(t:Tok)(h:Lx.Good t)(hx:t.text=[40]):t.kind=6:=by
 have h2:=h.2.1;rw[hx]at h2
 have:first [40]=(6,1):=by decide
 rw[this]at h2
 injection h2 with a _;exact a.symm
theorem zoX(f:Nat)(l:List Tok)(hG:AllG l):atom (f+1) l=if(hd l).kind=1 then some (.var (hd l).text,l.tail) else if(hd l).kind=2 then some (.con (hd l).text [],l.tail) else
  if(hd l).kind=5 then some (.mt (numOf ((hd l).text.drop 1)),l.tail) else paren f l:=by
 cases l with
 |nil=>rw[atom];simp[hd,paren,isHd]
 |cons t r =>
  show atom (f+1) (t::r)=if t.kind=1 then some (.var t.text,r) else if t.kind=2 then some (.con t.text [],r) else if t.kind=5 then some (.mt (numOf (t.text.drop 1)),r) else paren f (t::r)
  rw[atom]
  by_cases k1:t.kind=1
  ·rw[Aq k1,Aq k1]
  ·rw[Am k1,Am k1]
   by_cases k2:t.kind=2
   ·rw[Aq k2,Aq k2]
   ·rw[Am k2,Am k2]
    by_cases k5:t.kind=5
    ·rw[Aq k5,Aq k5]
    ·rw[Am k5,Am k5]
     unfold paren;rw[zkv]
     show _=if(t.kind==6&&t.text==[40])=true then(match read f r with|none=>none|some (x,r2)=>(eat (isSign · [41]) r2).map λr3=>(x,r3)) else none
     by_cases hx:t.text=[40]
     ·rw[Aq hx,Aq (by rw[hx,zfY t (hG t Ay) hx];rfl)]
      cases read f r with
      |none=>rfl
      |some y=>rfl
     ·rw[Am hx,Am (by simp[hx])]
theorem ze9 {l:List Tok}(h:(hd l).kind≠0):∃r,l=hd l::r/\l.tail=r:=by
 cases l with
 |nil=>exact absurd rfl h
 |cons t r=>exact⟨r,rfl,rfl⟩
structure AnyK (S:Nat->Prop) (b m n:Nat) (l r:List Tok) (X:ByteArray):Prop where
 yes:∀(K:Int) (w1:World),K=m->m≠0->Rdr S w1 b l->(∀g,S g->g≠b/\g<w1.heap.size)->Calls Tryz.prog 180 #[.pointer (some ⟨b,0,none⟩),.int .i64 K] w1 λe w'=>e=.returned (.tuple #[.string X,.bool true])/\Rdr S w' b r/\Chg (only b) w1 w'/\r.length<n
 no:∀(K:Int) (k:Nat) (w1:World),K=k->k≠0->m≠k->Rdr S w1 b l->(∀g,S g->g≠b/\g<w1.heap.size)->Calls Tryz.prog 180 #[.pointer (some ⟨b,0,none⟩),.int .i64 K] w1 λe w'=>e=.returned (.tuple #[.string ⟨#[]⟩,.bool false])/\Rdr S w' b l/\Chg (only b) w1 w'
theorem anyK(S:Nat->Prop)(b m n:Nat)(l r:List Tok)(X:ByteArray)(hl:l.length<=100000)(hm:(hd l).kind=m)(hX:(⟨(hd l).text.toArray⟩:ByteArray)=X)(hn:l.length=n)(hr:l.tail=r):AnyK S b m n l r X:=by
 subst hm hX hn hr;refine⟨λK w1 hK h0 h hS=>?_,λK k w1 hK h0 af h hS=>?_⟩
 ·refine(zd8 S b l _ K hK w1 h hS hl h0).mono ?_
  rintro e w' ⟨rfl,h2,h3⟩;unfold anyR at h2;rw[Aq rfl]at h2
  refine⟨by unfold anyT;rw[Aq rfl];simp,h2,h3,?_⟩;obtain⟨r,e1,e2⟩:=ze9 h0;rw[e2,e1];simp
 ·refine(zd8 S b l k K hK w1 h hS hl h0).mono ?_
  rintro e w' ⟨rfl,h2,h3⟩;unfold anyR at h2;rw[Am af]at h2
  exact⟨by unfold anyT;rw[Am af,AF.2 af],h2,h3⟩
theorem zjM {b:Nat} {S:Nat->Prop} {w w1:World} {cs:Array Value} {t:TypeId}(bJ:b<w.heap.size)(hS:∀g,S g->g≠b/\g<w.heap.size)(c:Chg (only b) (w.alloc (.cells cs t)) w1):(∀g,S g->g≠b/\g<w1.heap.size)/\Blk w1 w.heap.size t cs/\Chg (only b) w w1:=by
 have hs:=c.size;simp at hs;exact⟨λg hg=>by have:=hS g hg;omega,Blk.chg (heap_alloc_new _ _) c (by unfold only;omega),c.pre⟩
theorem zoY(f:Nat)(S:Nat->Prop)(b:Nat)(l:List Tok)(w:World)(h:Rdr S w b l)(hS:∀g,S g->g≠b/\g<w.heap.size)(hG:AllG l)(hl:l.length<=100000)(hf:4*l.length+2<=f+1)
  (IH:Reads S b 95 4 read f):Calls Tryz.prog 181 #[.pointer (some ⟨b,0,none⟩)] w (TPost S b l.length w (atom (f+1) l)):=by
 have bJ:=h.lt;rw[zoX f l hG]
 have R0:=CS (h.alloc (.cells tyZ 37) (λg hg=>(hS g hg).2));have S0:Hid (∀g,S g->g≠b/\g<(w.alloc (.cells tyZ 37)).heap.size):=CS λg hg=>⟨(hS g hg).1,by have:=(hS g hg).2;simp;omega⟩;have jB:=CS (λ(w1:World) (c:Chg (only b) (w.alloc (.cells tyZ 37)) w1)=>zjM bJ hS c);unfold tyZ at R0 S0 jB;obtain⟨m,hm⟩:∃m,(hd l).kind=m:=⟨_,rfl⟩;obtain⟨X,hX⟩:∃X:ByteArray,⟨(hd l).text.toArray⟩=X:=⟨_,rfl⟩;have gM:(hd l).text=X.data.toList:=by rw[<-hX]
 obtain⟨n,hn⟩:∃n,l.length=n:=⟨_,rfl⟩;obtain⟨r,hr⟩:∃r,l.tail=r:=⟨_,rfl⟩;have TK:=CS (anyK S b m n l r X hl hm hX hn hr);have HG:Hid (m=5->∃ds,X.data.toList=63::ds/\ds≠[]/\(∀d∈ds,isDig d=true)/\ds.length<=6):=by
  refine CS λh5=>?_;obtain⟨r,e1,_⟩:=ze9 (by rw[hm,h5];decide);have hg:=hG (hd l) (by rw[e1];simp[hd]);obtain⟨ds,d1,d2⟩:=zku _ hg (by rw[hm,h5]);obtain⟨g1,g2,_⟩:=zg7 _ hg (by rw[hm,h5]);rw[d1]at g1 g2
  exact⟨ds,by rw[<-gM,d1],d2,g1,g2⟩
 have PAR:Hid (∀w1,Rdr S w1 b l->(∀g,S g->g≠b/\g<w1.heap.size)->Calls Tryz.prog 205 #[.pointer (some ⟨b,0,none⟩)] w1 (TPost S b l.length w1 (paren f l))) :=
  CS λw1 hr hs=>znj f S b l w1 hr hs hG hl hf IH
 have HS:=CS hS;rw[hn]at PAR ⊢
 rw[hm,gM,hr]
 obtain⟨O,hO⟩:∃O,paren f l=O:=⟨_,rfl⟩;rw[hO]at PAR ⊢
 clear h hS hG hl hf IH hm hX gM hn hr hO;by_cases k1:m=1
 ·subst k1
  rw[Aq rfl]
  go_enter Tryz.func181,Tryz.ntmps181
  go_wp2_with fail
  refine(TK.out.yes 1 _ rfl (by decide) R0.out S0.out).mono ?_;rintro e w2 ⟨rfl,cR,b2,ah⟩;obtain⟨bk,an,cw⟩:=jB.out w2 b2;obtain⟨a0,a1,a2,a3,q0,q1,q2,q3,dj⟩:=zaa an;have bQ:=CS an;have eE:=CS cR;have C2:=CS cw;have aC:=CS ah;have eT:=CS bk;clear an cR b2 ah bk cw;go_wp2_with fail
  refine(zfp X w2).mono ?_;rintro e w3 ⟨rfl,b3⟩;have an:=bQ.out.below b3 dj;obtain⟨a0,a1,a2,a3,q0,q1,q2,q3,je⟩:=zaa an;have gb:=CS an;have B3:=CS b3;clear an b3;go_wp2_with fail
  try simp only[Exit.inBlock,Exit.then]
  refine bodyPost_ret (zae rfl _ _ w.heap.size 37 _ (0,0) _ rfl (zah _ _ _ _ gb.out) Tryz.underlying37 rfl (by kernel_rfl)) rfl ?_;exact za1 S b n w _ _ _ 1 X 0 none 0 0 (.var X.data.toList) r ((C2.out.below B3.out).set4 _ _ _ _ (Ai _)) aC.out rfl rfl ⟨none,0,rfl,by rw[Args];trivial⟩
   ((eE.out.below B3.out (λg hg=>(eT.out g hg).2)).set4 _ _ _ _ (by omega) (λk hk=>by have:=HS.out k hk;omega))
 ·rw[Am k1]
  have vu:=CS (TK.out.no 1 1 _ rfl (by decide) k1 R0.out S0.out);by_cases k2:m=2
  ·subst k2
   rw[Aq rfl]
   go_enter Tryz.func181,Tryz.ntmps181
   go_wp2_with fail
   refine vu.out.mono ?_;rintro e w1 ⟨rfl,bE,b1⟩;obtain⟨aF,-,-⟩:=jB.out w1 b1;have bY:=CS bE;have fL:=CS aF;have B1:=CS b1;clear vu b1 bE aF;go_wp2_with fail
   refine(TK.out.yes 2 _ rfl (by decide) bY.out fL.out).mono ?_;rintro e w2 ⟨rfl,cR,b2,ah⟩;obtain⟨bk,an,cw⟩:=jB.out w2 (B1.out.trans b2);obtain⟨a0,a1,a2,a3,q0,q1,q2,q3,dj⟩:=zaa an;have bQ:=CS an;have eE:=CS cR;have C2:=CS cw;have aC:=CS ah;have eT:=CS bk;clear an cR b2 ah bk cw;go_wp2_with fail
   try simp only[Exit.inBlock,Exit.then]
   refine bodyPost_ret (zae rfl _ _ w.heap.size 37 _ (0,0) _ rfl (zah _ _ _ _ bQ.out) Tryz.underlying37 rfl (by kernel_rfl)) rfl ?_;exact za1 S b n w _ _ _ 3 X 0 none 0 0 (.con X.data.toList []) r (C2.out.set4 _ _ _ _ (Ai _)) aC.out rfl rfl ⟨none,0,rfl,by rw[Args];intro h;exact absurd rfl h⟩
    (eE.out.set4 _ _ _ _ (by omega) (λk hk=>by have:=HS.out k hk;omega))
  ·rw[Am k2]
   have K2:=CS k2;by_cases k5:m=5
   ·subst k5
    rw[Aq rfl]
    obtain⟨ds,g1,g2,g3,g4⟩:=HG.out rfl;have pZ:(⟨(Lib.trimPrefix X.data.toList [63]).toArray⟩:ByteArray)=⟨ds.toArray⟩:=by rw[g1];rfl
    have hTP:=λw=>Tryz.strings_TrimPrefix X ⟨#[63]⟩ w;have eb:(⟨#[63]⟩:ByteArray).data.toList=[63]:=rfl;rw[eb,pZ]at hTP
    have oI:(⟨ds.toArray⟩:ByteArray).data.toList=ds:=rfl;have vp:=λw=>Tryz.strconv_Atoi ⟨ds.toArray⟩ (numOf ds:Nat) (by rw[Lib.size_eq,oI];omega) (by rw[oI];exact zjl ds g2 g3) w;have cA:numOf (X.data.toList.drop 1)=numOf ds:=by rw[g1];rfl
    obtain⟨N,vh⟩:∃N,numOf ds=N:=⟨_,rfl⟩;rw[cA,vh]
    rw[vh]at vp
    obtain⟨D,hD⟩:∃D:ByteArray,⟨ds.toArray⟩=D:=⟨_,rfl⟩;rw[hD]at hTP vp
    clear eb pZ oI cA vh hD g1 g2 g3 g4;go_enter Tryz.func181,Tryz.ntmps181
    go_wp2_with fail
    refine vu.out.mono ?_;rintro e w1 ⟨rfl,bE,b1⟩;obtain⟨aF,-,-⟩:=jB.out w1 b1;have bY:=CS bE;have fL:=CS aF;have B1:=CS b1;clear vu b1 bE aF;go_wp2_with fail
    refine(TK.out.no 2 2 _ rfl (by decide) (by decide) bY.out fL.out).mono ?_;rintro e w11 ⟨rfl,bE,b1⟩;obtain⟨aF,-,-⟩:=jB.out w11 (B1.out.trans b1);replace bY:=CS bE;replace fL:=CS aF;replace B1:=CS (B1.out.trans b1);clear b1 bE aF;go_wp2_with fail
    refine(TK.out.yes 5 _ rfl (by decide) bY.out fL.out).mono ?_;rintro e w2 ⟨rfl,cR,b2,ah⟩;obtain⟨bk,an,cw⟩:=jB.out w2 (B1.out.trans b2);obtain⟨a0,a1,a2,a3,q0,q1,q2,q3,dj⟩:=zaa an;have bQ:=CS an;have eE:=CS cR;have C2:=CS cw;have aC:=CS ah;have eT:=CS bk;clear an cR b2 ah bk cw;go_wp2_with fail
    refine(hTP w2).mono ?_;rintro e w3 ⟨rfl,rfl⟩;go_wp2_with fail
    refine(vp w3).mono ?_;rintro e w4 ⟨rfl,tt,rfl⟩;have cL:=below_bytesWorld w3 tt;have an:=bQ.out.below cL dj;obtain⟨W,hW⟩:∃W,Lib.bytesWorld w3 5 tt=W:=⟨_,rfl⟩;rw[hW]at an cL ⊢
    obtain⟨a0,a1,a2,a3,q0,q1,q2,q3,je⟩:=zaa an;have gb:=CS an;have B3:=CS cL;clear an cL hW;go_wp2_with fail
    go_region
    all_goals
     go_wp2_with fail
     try simp only[Exit.inBlock,Exit.then]
     refine bodyPost_ret (zae rfl _ _ w.heap.size 37 _ (0,0) _ rfl (zah _ _ _ _ gb.out).drew Tryz.underlying37 rfl (by kernel_rfl)) rfl ?_;exact za1 S b n w _ _ _ 2 ⟨#[]⟩ (N:Nat) none 0 0 (.mt N) r (((C2.out.below B3.out).set4 _ _ _ _ (Ai _)).drew) aC.out rfl rfl ⟨none,0,rfl,by rw[Args];trivial⟩
      ((eE.out.below B3.out (λg hg=>(eT.out g hg).2)).set4 _ _ _ _ (by omega) (λk hk=>by have:=HS.out k hk;omega))
   ·rw[Am k5]
    have K5:=CS k5;go_enter Tryz.func181,Tryz.ntmps181
    go_wp2_with fail
    refine vu.out.mono ?_;rintro e w1 ⟨rfl,bE,b1⟩;obtain⟨aF,-,-⟩:=jB.out w1 b1;have bY:=CS bE;have fL:=CS aF;have B1:=CS b1;clear vu b1 bE aF;go_wp2_with fail
    refine(TK.out.no 2 2 _ rfl (by decide) K2.out bY.out fL.out).mono ?_;rintro e w11 ⟨rfl,bE,b1⟩;obtain⟨aF,-,-⟩:=jB.out w11 (B1.out.trans b1);replace bY:=CS bE;replace fL:=CS aF;replace B1:=CS (B1.out.trans b1);clear b1 bE aF;go_wp2_with fail
    refine(TK.out.no 5 5 _ rfl (by decide) K5.out bY.out fL.out).mono ?_;rintro e dI ⟨rfl,bE,b1⟩;obtain⟨aF,an,bc⟩:=jB.out dI (B1.out.trans b1);replace bY:=CS bE;replace fL:=CS aF;have HB:=CS an;have lO:=CS bc;clear b1 bE aF an bc B1;go_wp2_with fail
    refine(PAR.out dI bY.out fL.out).mono ?_;rintro e w2 ⟨b2,K1,X1,Z1,A1,m1,c1,aB⟩;have an:=HB.out.chg b2 (by unfold only;omega);obtain⟨a0,a1,a2,a3,q0,q1,q2,q3,ia⟩:=zaa an;have bQ:=CS an;have C2:=CS (lO.out.trans b2);have h1:=lO.out.size;have h1':=HB.out.lt;have H1:=CS h1;have H1':=CS h1';clear an b2 h1 h1';rcases aB with⟨ho,rfl⟩|⟨t,r',fQ,ho,rfl,aK,hr⟩
    ·have HO:=CS ho
     clear ho;go_wp2_with fail
     try simp only[Exit.inBlock,Exit.then]
     refine bodyPost_ret (zae rfl _ _ w.heap.size 37 _ (0,0) _ rfl (zah _ _ _ _ bQ.out) Tryz.underlying37 rfl (by kernel_rfl)) rfl ?_;exact zaT S b n w _ _ _ K1 X1 Z1 A1 m1 c1 (C2.out.set4 _ _ _ _ (Ai _)) HO.out rfl
    ·have HO:=CS ho
     have cF:=CS aK;have eE:=CS hr;have rP:=CS fQ;clear ho aK hr fQ;go_wp2_with fail
     try simp only[Exit.inBlock,Exit.then]
     refine bodyPost_ret (zae rfl _ _ w.heap.size 37 _ (0,0) _ rfl (zah _ _ _ _ bQ.out) Tryz.underlying37 rfl (by kernel_rfl)) rfl ?_;refine za1 S b n w _ _ _ K1 X1 Z1 A1 m1 c1 t r' (C2.out.set4 _ _ _ _ (Ai _)) rP.out HO.out rfl ?_ (eE.out.set4 _ _ _ _ (by omega) (λk hk=>by have:=HS.out k hk;omega));have h1:=H1'.out;exact(cF.out.set4 _ _ _ _ (λk hk=>by omega)).keep (λg hg=>by have:=H1.out;simp;omega) (λ_ _=>rfl)
set_option maxRecDepth 100000
theorem zjN:(Tryz.prog.info? 37).map (λi=>(i.zero,i.size,i.bytes))=some (some (.agg #[.int .i64 0,.string ⟨#[]⟩,.int .i64 0,.slice none 0 0]),4,56):=by kernel_rfl
def zcd:List Tok->Bool
 |[]=>false
 |t::_=>atomic t
theorem znk(l:List Tok)(hG:AllG l):zcd l=((hd l).kind==1 ||(hd l).kind==5 ||(hd l).kind==2||isHd l 6 [40]):=by
 cases l with
 |nil=>rfl
 |cons t r =>
  show(t.kind==1||t.kind==5||t.kind==2||t.text==[40])=(t.kind==1||t.kind==5||t.kind==2 ||(t.kind==6&&t.text==[40]));by_cases hx:t.text=[40]
  ·rw[zfY t (hG t Ay) hx];rfl
  ·rw[AF.2 hx,Bool.and_false]
theorem zlD(S:Nat->Prop)(b:Nat)(l:List Tok)(w:World)(h:Rdr S w b l)(hS:∀g,S g->g<w.heap.size)(hG:AllG l)(hl:l.length<=100000):Calls Tryz.prog 182 #[.pointer (some ⟨b,0,none⟩)] w λe w'=>e=.returned (.bool (zcd l))/\Below w.heap.size w w':=by
 have hN:=zgC S b l w h hl;have HA:Hid (∀w1,Below w.heap.size w w1->Calls Tryz.prog 179 #[.pointer (some ⟨b,0,none⟩),.int .i64 6,.string ⟨#[40]⟩] w1 λe w'=>e=.returned (.bool (isHd l 6 [40]))/\Below w1.heap.size w1 w') :=
  CS λw1 b1=>zoG S b l 6 6 rfl ⟨#[40]⟩ w1 (h.below b1 hS) hl
 unfold tokA at hN;rw[znk l hG]
 obtain⟨m,hm⟩:∃m,(hd l).kind=m:=⟨_,rfl⟩;obtain⟨X,hX⟩:∃X:ByteArray,⟨(hd l).text.toArray⟩=X:=⟨_,rfl⟩;obtain⟨a,ha⟩:∃a,(hd l).at_=a:=⟨_,rfl⟩;obtain⟨q,hq⟩:∃q,isHd l 6 [40]=q:=⟨_,rfl⟩;rw[hm,hX,ha]at hN
 rw[hq]at HA
 rw[hm,hq]
 have pT:=zni;clear h hS hG hl hm hX ha hq;by_cases k1:m=1
 ·subst k1
  go_enter Tryz.func182,Tryz.ntmps182
  go_wp2_with (go_at_call 202;refine hN.mono ?_;rintro e w1 ⟨rfl,b1⟩)
  go_ret
  exact⟨rfl,b1⟩
 ·have d1:=zb6 m 1 1 rfl k1
  have n1:=AF.2 k1;by_cases k5:m=5
  ·subst k5
   go_enter Tryz.func182,Tryz.ntmps182
   go_wp2_with (go_at_call 202;refine hN.mono ?_;rintro e w1 ⟨rfl,b1⟩)
   go_ret
   exact⟨rfl,b1⟩
  ·have d5:=zb6 m 5 5 rfl k5
   have n5:=AF.2 k5;by_cases k2:m=2
   ·subst k2
    go_enter Tryz.func182,Tryz.ntmps182
    go_wp2_with (go_at_call 202;refine hN.mono ?_;rintro e w1 ⟨rfl,b1⟩)
    go_ret
    exact⟨rfl,b1⟩
   ·have d2:=zb6 m 2 2 rfl k2
    have n2:=AF.2 k2;rw[n1,n2,n5]
    clear n1 n2 n5 k1 k2 k5;go_enter Tryz.func182,Tryz.ntmps182
    go_wp2_with fail
    refine hN.mono ?_;rintro e w1 ⟨rfl,b1⟩;have B1:=CS b1;clear b1;go_wp2_with fail
    refine(HA.out w1 B1.out).mono ?_;rintro e w2 ⟨rfl,b2⟩;go_wp2_with fail
    go_ret
    exact⟨rfl,B1.out.trans (b2.mono B1.out.size)⟩
theorem zib {b:Nat} {w w':World}(h:Chg (only b) w w'):w.grownBy w' (some b):=⟨h.os,h.tape,h.output,h.size,λi hi af=>h.block i hi (λe=>af (by rw[show i=b from e]))⟩
theorem zgE {b B:Nat} {e:TypeId} {size n:Nat} {v:Value} {xs:List Value} {w w':World}(h:w.ownsRow B e size v n xs)(hc:Chg (only b) w w')(hb:b<B):w'.ownsRow B e size v n xs :=
 h.kept (zib hc) (.inr (λe=>by have:=(h.lt b e).1;omega))
theorem Built.nextC {b B:Nat} {e:TypeId} {w w1 w2 w3:World} {l:List Ty} {x:Ty} {v v':Value} {vs:List Value} {k z:Int} {s:ByteArray} {A:Option Addr} {m c:Nat}
  (hb:b<B)(hB:B<=w.heap.size)(ai:w.ownsRow B e 4 v l.length vs)(aJ:TyRow (λg=>(False\/B<=g/\g<w.heap.size)/\some g≠v.ownBlock) w l vs)
  (b1:Chg (only b) w w1)(hr:RdV (λg=>w.heap.size<=g/\g<w1.heap.size) w1 x (.agg #[.int .i64 k,.string s,.int .i64 z,.slice A m c]))(b2:Below w1.heap.size w1 w2)
  (ho:w3.ownsRow B e 4 v' (l.length+1) (vs++[.int .i64 k,.string s,.int .i64 z,.slice A m c]))(hg:w2.grownBy w3 v.ownBlock)(bF:v'.ownBlock=v.ownBlock\/v'.ownBlock=some w2.heap.size):Built (λ_=>False) B e w3 (l++[x]) v':=by
 obtain⟨A',c',hv,ha⟩:=hr;injection hv with hv;have hv:=Az Array.toList hv;simp only[BB,Value.int.injEq,Value.string.injEq,Value.slice.injEq,and_true,true_and]at hv;obtain⟨rfl,rfl,rfl,rfl,rfl,rfl⟩:=hv;have ah:=ai.lt;have s1:=b1.size;have s2:=b2.size;have hk:∀g,g<w.heap.size->g≠b->w2.heap[g]?=w.heap[g]?:=λg hg af=>(b2.block g (by omega)).trans (b1.block g hg af);refine Built.snoc (w:=w2) (c:=c) (λ_ h=>h.elim) (by omega) (TyRow.keep (λg h=>?_) (λg h=>?_) l vs aJ) (Args.keep (λg h=>?_) (λg h=>?_) x A ha) ho hg bF
 ·refine⟨?_,h.2⟩
  rcases h.1 with h1|h1
  ·exact h1.elim
  ·exact .inr ⟨h1.1,by omega⟩
 ·rcases h.1 with h1|h1
  ·exact h1.elim
  ·exact hk g h1.2 (by omega)
 ·refine⟨.inr ⟨by omega,by omega⟩,λe=>?_⟩
  have:=ah _ e.symm;omega
 ·exact b2.block g (by omega)
theorem zoZ(f:Nat)(l:List Tok)(h:zcd l=true)(ho:atom f l=none):args (f+1) l=none:=by
 cases l with
 |nil=>simp[zcd]at h
 |cons t r=>rw[args];rw[zcd]at h;simp only[h,CA,ho]
theorem znl(f:Nat)(l:List Tok)(h:zcd l=true)(x:Ty)(r:List Tok)(ho:atom f l=some (x,r)):args (f+1) l=(args f r).map λy=>(x::y.1,y.2):=by
 cases l with
 |nil=>simp[zcd]at h
 |cons t r=>rw[args];rw[zcd]at h;simp only[h,CA,ho]
theorem znm(f:Nat)(l:List Tok)(h:zcd l=false):args (f+1) l=some ([],l):=by
 cases l with
 |nil=>rw[args]
 |cons t r=>rw[args];rw[zcd]at h;simp only[h,Bg,BX]
def zqc(S:Nat->Prop)(b f g4:Nat)(X:ByteArray)(r0:List Tok)(w:World)(gg:Nat)(wr:World):Prop :=
 ∃l f' done v',gg=l.length/\Rdr S wr b l/\(∀g,S g->g≠b/\g<wr.heap.size)/\AllG l/\l.length<=r0.length/\4*l.length+3<=f'/\f'<=f/\Hid (args f r0=(args f' l).map λy=>(done++y.1,y.2))/\done.length+l.length<=r0.length /\
  Built (λ_=>False) (g4+1) 37 wr done v'/\Blk wr g4 37 #[.int .i64 3,.string X,.int .i64 0,v'] /\
  Blk wr w.heap.size 37 tyZ/\Chg (only b) w wr
theorem zpP(f:Nat)(S:Nat->Prop)(b:Nat)(l:List Tok)(w:World)(h:Rdr S w b l)(hS:∀g,S g->g≠b/\g<w.heap.size)(hG:AllG l)(hl:l.length<=100000)(hf:4*l.length+3<=f+1)
  (IH:∀f1,f1<=f->Reads S b 181 2 atom f1):Calls Tryz.prog 142 #[.pointer (some ⟨b,0,none⟩)] w (TPost S b l.length w (app (f+1) l)):=by
 have bJ:=h.lt;have R0:=CS (h.alloc (.cells tyZ 37) (λg hg=>(hS g hg).2));have S0:Hid (∀g,S g->g≠b/\g<(w.alloc (.cells tyZ 37)).heap.size):=CS λg hg=>⟨(hS g hg).1,by have:=(hS g hg).2;simp;omega⟩;have jB:=CS (λ(w1:World) (c:Chg (only b) (w.alloc (.cells tyZ 37)) w1)=>zjM bJ hS c);unfold tyZ at R0 S0 jB;obtain⟨m,hm⟩:∃m,(hd l).kind=m:=⟨_,rfl⟩;obtain⟨X,hX⟩:∃X:ByteArray,⟨(hd l).text.toArray⟩=X:=⟨_,rfl⟩;have gM:(hd l).text=X.data.toList:=by rw[<-hX]
 by_cases k2:m=2
 ·subst k2
  obtain⟨r0,e1,e2⟩:=ze9 (by rw[hm];decide);have HO:Hid (app (f+1) l=(args f r0).map λx=>(.con X.data.toList x.1,x.2)):=by
   refine CS ?_;rw[e1,app,Aq hm,gM]
  rw[HO.out]
  have TK:=CS ((anyK S b 2 _ l r0 X hl hm hX rfl e2).yes 2 _ rfl (by decide) R0.out S0.out);have hlen:l.length=r0.length+1:=by rw[e1];rfl
  have hG0:AllG r0:=λt ht=>hG t (by rw[e1];exact Ar _ ht);rw[hlen]at hl hf TK ⊢
  obtain⟨i0,bm,bO,bD,bj⟩:=info_parts zjN;have oo:=CS hG0;have kg:=CS IH;have HS:=CS hS;clear HO hlen e1 e2 hm hX gM hG0 IH hG h hS;go_enter Tryz.func142,Tryz.ntmps142
  go_wp2_with fail
  refine TK.out.mono ?_;rintro e w2 ⟨rfl,cR,b2,-⟩;obtain⟨bk,an,cw⟩:=jB.out w2 b2;have bQ:=CS an;have eE:=CS cR;have C2:=CS cw;have eT:=CS bk;have dj:=an.lt;clear an cR b2 bk cw TK jB R0 S0;go_wp2_with fail
  go_loopg [8] r0.length (λgg v wr=>zqc S b f w2.heap.size X r0 w gg wr)
  case atStart =>
   refine⟨r0,f,[],.slice none 0 0,rfl,eE.out.alloc _ (λg hg=>(eT.out g hg).2),λg hg=>by have:=eT.out g hg;simp;omega,oo.out,Ai _,by omega,Ai _,CS (by simp),by simp,Built.nil _ _ _ _,heap_alloc_new _ _,bQ.out.alloc _,C2.out.alloc _⟩
  case round =>
   obtain⟨l',f',done,v',rfl,hr,jZ,vm,hle,hf1,hf2,hargs,hdl,ff,aw,aE,hc⟩:=hrel;obtain⟨f1,rfl⟩:∃f1,f'=f1+1:=⟨f'-1,by omega⟩;have yF:=zlD S b l' wr hr (λg hg=>(jZ g hg).2) vm (by omega);obtain⟨q,hq⟩:∃q,zcd l'=q:=⟨_,rfl⟩;rw[hq]at yF
   have HQ:=CS hq;obtain⟨vs,ai,aJ⟩:=ff;obtain⟨A0,c0,rfl⟩:=zam ai;obtain⟨n',eu⟩:∃n',l'.length=n':=⟨_,rfl⟩;have zB:=CS eu;rw[eu]at hle hf1 hdl
   have HR:=CS hr;have qm:=CS jZ;have zO:=CS vm;have ay:=CS ai;have dG:=CS aJ;have bN:=CS aw;have cQ:=CS aE;have HC:=CS hc;have di:=aw.lt;have cD:=hr.lt;clear hq eu hr jZ vm ai aJ aw aE hc;cases q with
   |false =>
    have cG:=CS (hargs.out.trans (Az (Option.map λy:List Ty × List Tok=>(done++y.1,y.2)) (znm f1 l' HQ.out)));go_wp2_with fail
    refine yF.mono ?_;rintro e w3 ⟨rfl,b3⟩;have aw:=bN.out.below b3 di;have aE:=cQ.out.below b3 (by omega);obtain⟨p0,p1,p2,p3,s0,s1,s2,s3,lS⟩:=zaa aw;obtain⟨a0,a1,a2,a3,q0,q1,q2,q3,jf⟩:=zaa aE;have HB13:=CS aw;have HB03:=CS aE;have B3:=CS b3;clear aw aE b3 yF hargs;go_wp2_with fail
    try simp only[Exit.inBlock,Exit.then]
    refine bodyPost_ret (zae rfl _ _ w.heap.size 37 _ (0,0) _ rfl (zah _ _ _ _ HB03.out) Tryz.underlying37 rfl (by kernel_rfl)) rfl ?_;have ff:Built (λ_=>False) (w2.heap.size+1) 37 wr done (.slice A0 done.length c0):=⟨vs,ay.out,dG.out⟩;have tj:=Built.args (t:=.con X.data.toList done) (ff.below (λ_ h=>h.elim) B3.out);have aD:=HC.out.size;have wz:=B3.out.size;refine za1 S b (r0.length+1) w _ _ _ 3 X 0 A0 done.length c0 (.con X.data.toList done) l' ((HC.out.below B3.out).set4 _ _ _ _ (Ai _)) (by rw[zB.out];omega) (by rw[cG.out];simp) rfl ?_
     ((HR.out.below B3.out (λg hg=>(qm.out g hg).2)).set4 _ _ _ _ (by omega) (λk hk=>by have:=HS.out k hk;omega))
    exact RdV.keep (S:=λg=>w2.heap.size+1<=g/\g<w3.heap.size) (w:=w3) ⟨A0,c0,rfl,tj.2.keep (λg hg=>by simpa using hg) (λ_ _=>rfl)⟩ (λg hg=>by simp;omega) (λg hg=>zat _ _ _ _ _ _ _ (by omega))
   |true =>
    have hC:Hid (∀w3,Below wr.heap.size wr w3->Calls Tryz.prog 181 #[.pointer (some ⟨b,0,none⟩)] w3 (TPost S b n' w3 (atom f1 l'))):=by
     refine CS λw3 b3=>?_;have:=kg.out f1 (by omega) w3 l' (HR.out.below b3 (λg hg=>(qm.out g hg).2)) (λg hg=>by have:=qm.out g hg;have:=b3.size;omega) zO.out (by rw[zB.out];omega) (by rw[zB.out];omega);rwa [zB.out]at this
    go_wp2_with fail
    refine yF.mono ?_;rintro e w3 ⟨rfl,b3⟩;have B3:=CS b3;clear b3 yF;go_wp2_with fail
    refine(hC.out w3 B3.out).mono ?_;rintro e w4 ⟨b4,K1,X1,Z1,A1,m1,c1,aB⟩;have wz:=B3.out.size;have aw:=(bN.out.below B3.out di).chg b4 (by unfold only;omega);have aE:=(cQ.out.below B3.out (by omega)).chg b4 (by unfold only;omega);obtain⟨p0,p1,p2,p3,s0,s1,s2,s3,lS⟩:=zaa aw;obtain⟨a0,a1,a2,a3,q0,q1,q2,q3,jf⟩:=zaa aE;have HB14:=CS aw;have zY:=CS aE;have B4:=CS b4;clear aw aE b4 hC;rcases aB with⟨ho,rfl⟩|⟨t,r,fQ,ho,rfl,aK,hr⟩
    ·have cG:=CS (hargs.out.trans (Az (Option.map λy:List Ty × List Tok=>(done++y.1,y.2)) (zoZ f1 l' HQ.out ho)))
     clear ho hargs;go_wp2_with fail
     try simp only[Exit.inBlock,Exit.then]
     refine bodyPost_ret (zae rfl _ _ w.heap.size 37 _ (0,0) _ rfl ((zah _ _ _ _ zY.out).alloc _) Tryz.underlying37 rfl (by kernel_rfl)) rfl ?_;exact zaT S b (r0.length+1) w _ _ _ 0 ⟨#[]⟩ 0 none 0 0 ((((HC.out.below B3.out).trans B4.out).set4 _ _ _ _ (Ai _)).alloc _) (by rw[cG.out];rfl) rfl
    ·have cG:=CS (zdb (hargs.out.trans (Az (Option.map λy:List Ty × List Tok=>(done++y.1,y.2)) (znl f1 l' HQ.out t r ho))))
     have cF:=CS aK;have nY:=CS hr;have rP:=CS fQ;have lL:Hid (AllG r):=CS ((zdY f1).2.2.2 l' t r zO.out ho).2.1;clear ho hargs aK hr fQ;have mL:=zgE (own_below ay.out B3.out) B4.out (by omega);have aC:=CS mL.lt;have aM:=CS ((mL.alloc (.cells #[.int .i64 K1,.string X1,.int .i64 Z1,.slice A1 m1 c1] 37)).alloc (.cells #[.int .i64 K1,.string X1,.int .i64 Z1,.slice A1 m1 c1] 37));clear mL;go_wp2_with (at_builtin;refine wpList_append_own_at _ rfl (.tmp 35) (.tmp 37) 35 rfl (w2.heap.size+1) 37 i0 _ 4 56 Tryz.underlying35 bm bO bD bj rfl (by decide) _ done.length vs rfl aM.out ⟨w4.heap.size+1,0,none⟩ 1 1 [.int .i64 K1,.string X1,.int .i64 Z1,.slice A1 m1 c1] rfl rfl (zas _ _ _ _ (by simp)) (by intro u hu;simp at hu;rcases hu with rfl|rfl|rfl|rfl <;> rfl) (by unfold maxLen;omega) (by omega) (by have:=B4.out.size;have:=B3.out.size;simp;omega) ?_;intro v2 w5 aj ae _ aS;obtain⟨A2,c2,rfl⟩:=zam aj;have cV:=CS aj;have bg:=CS ae;have eR:=CS aS;clear aj ae aS;have bc:=((HB14.out.alloc _).alloc _).grown bg.out (λe=>by have:=aC.out _ e.symm;omega);have eO:=((zY.out.alloc _).alloc _).grown bg.out (λe=>by have:=aC.out _ e.symm;omega);obtain⟨y0,y1,y2,y3,z0,z1,z2,z3,uW⟩:=zaa bc;have lM:=CS bc;have qA:=CS eO;clear bc eO)
     go_roundg r.length
     case measure=>have:=rP.out;have:=zB.out;omega
     case rel =>
      have hsz4:=B4.out.size;have fQ:=rP.out;have hb:=Built.nextC (w:=w3) (w1:=w4) (b:=b) (by omega) (by omega) (own_below ay.out B3.out) (TyRow.keep (λg hg=>⟨hg.1.elim (λh=>.inl h) (λh=>.inr ⟨h.1,by omega⟩),hg.2⟩) (λg hg=>B3.out.block g (hg.1.elim (λh=>h.elim) (λh=>h.2))) done vs dG.out) B4.out cF.out (((Below.refl _ w4).alloc (Ai _) _).alloc (by simp) _) cV.out bg.out eR.out;have sQ:w2.heap.size<w4.heap.size:=by omega
      have hszw:=HC.out.size;have ej:=bg.out.size;simp at ej;have c5:Chg (only b) w w5:=((((HC.out.below B3.out).trans B4.out).alloc _).alloc _).grown bg.out (λj hj=>.inl (by have:=aC.out _ hj;omega));have aO:∀k,k<w2.heap.size->w5.heap[k]?=w4.heap[k]?:=λk hk=>(bg.out.block k (by simp;omega) (λe=>by have:=aC.out _ e.symm;omega)).trans ((Below.heap_alloc _ _ _ (by simp;omega)).trans (Below.heap_alloc _ _ _ (by omega)));refine⟨r,f1,done++[t],_,rfl,nY.out.keep ((Below.heap_setCell _ _ _ _ (by simp;omega)).trans (aO b (by omega))) (λg hg=>(Below.heap_setCell _ _ _ _ (by have:=HS.out g hg;simp;omega)).trans (aO g (by have:=HS.out g hg;omega))),λg hg=>by have:=HS.out g hg;simp;omega,?_,by omega,by omega,by omega,cG,by simp;omega,
       hb.setCell _ (by simp) (λh=>h),heap_setCell_same _ _ 3 _ _ _ lM.out,qA.out.far (by simp;omega) _,c5.setCell (.inl (by simp;omega)) _⟩
      exact lL.out
 ·have TK:=CS ((anyK S b m _ l _ X hl hm hX rfl rfl).no 2 2 _ rfl (by decide) k2 R0.out S0.out)
  obtain⟨f',rfl⟩:∃f',f=f'+1:=⟨f-1,by omega⟩;have HO:Hid (app (f'+1+1) l=atom (f'+1) l):=by
   refine CS ?_;cases l with
   |nil=>rw[app,atom]
   |cons t r=>rw[app,Am (by show ¬t.kind=2;have e:t.kind=m:=hm;omega)]
  rw[HO.out]
  have vp:Hid (∀w1,Rdr S w1 b l->(∀g,S g->g≠b/\g<w1.heap.size)->Calls Tryz.prog 181 #[.pointer (some ⟨b,0,none⟩)] w1 (TPost S b l.length w1 (atom (f'+1) l))) :=
   CS λw1 hr hs=>IH (f'+1) (Ai _) w1 l hr hs hG hl (by omega)
  obtain⟨n,hn⟩:∃n,l.length=n:=⟨_,rfl⟩;obtain⟨O,hO⟩:∃O,atom (f'+1) l=O:=⟨_,rfl⟩;have HS:=CS hS;rw[hn,hO]at vp
  rw[hn,hO]
  clear h hS hG hl hf IH hm hX gM hn hO HO k2 R0 S0;go_enter Tryz.func142,Tryz.ntmps142
  go_wp2_with fail
  refine TK.out.mono ?_;rintro e w1 ⟨rfl,bE,b1⟩;obtain⟨nP,an,jy⟩:=jB.out w1 b1;have dj:=an.lt;have bY:=CS bE;have fL:=CS nP;have HB:=CS an;have lO:=CS jy;clear TK b1 bE nP an jy;go_wp2_with fail
  refine(vp.out w1 bY.out fL.out).mono ?_;rintro e w2 ⟨b2,K1,X1,Z1,A1,m1,c1,aB⟩;have an:=HB.out.chg b2 (by unfold only;omega);obtain⟨a0,a1,a2,a3,q0,q1,q2,q3,ia⟩:=zaa an;have bQ:=CS an;have C2:=CS (lO.out.trans b2);have h1:=lO.out.size;have H1:=CS h1;clear an b2 h1;rcases aB with⟨ho,rfl⟩|⟨t,r',fQ,ho,rfl,aK,hr⟩
  ·have HO:=CS ho
   clear ho;go_wp2_with fail
   try simp only[Exit.inBlock,Exit.then]
   refine bodyPost_ret (zae rfl _ _ w.heap.size 37 _ (0,0) _ rfl (zah _ _ _ _ bQ.out) Tryz.underlying37 rfl (by kernel_rfl)) rfl ?_;exact zaT S b n w _ _ _ K1 X1 Z1 A1 m1 c1 (C2.out.set4 _ _ _ _ (Ai _)) HO.out rfl
  ·have HO:=CS ho
   have cF:=CS aK;have eE:=CS hr;have rP:=CS fQ;clear ho aK hr fQ;go_wp2_with fail
   try simp only[Exit.inBlock,Exit.then]
   refine bodyPost_ret (zae rfl _ _ w.heap.size 37 _ (0,0) _ rfl (zah _ _ _ _ bQ.out) Tryz.underlying37 rfl (by kernel_rfl)) rfl ?_;refine za1 S b n w _ _ _ K1 X1 Z1 A1 m1 c1 t r' (C2.out.set4 _ _ _ _ (Ai _)) rP.out HO.out rfl ?_ (eE.out.set4 _ _ _ _ (by omega) (λk hk=>by have:=HS.out k hk;omega));have h1:=H1.out;exact(cF.out.set4 _ _ _ _ (λk hk=>by omega)).keep (λg hg=>by simp;omega) (λ_ _=>rfl)
set_option maxRecDepth 100000
theorem zcF {S:Nat->Prop} {b n:Nat} {w w':World} {o:Option (Ty × List Tok)} {e:Ending}(h:TPost S b n w o e w'):Chg (only b) w w'/\∃K X Z A m c q,e=.returned (.tuple #[.agg #[.int .i64 K,.string X,.int .i64 Z,.slice A m c],.bool q])/\(q=false->o=none) /\
   (q=true->∃t r,r.length<n/\o=some (t,r)/\RdV (λg=>w.heap.size<=g/\g<w'.heap.size) w' t (.agg #[.int .i64 K,.string X,.int .i64 Z,.slice A m c])/\Rdr S w' b r):=by
 obtain⟨h1,K,X,Z,A,m,c,h2⟩:=h;refine⟨h1,K,X,Z,A,m,c,?_⟩;rcases h2 with⟨h2,h3⟩|⟨t,r,h2,h3,h4,h5,h6⟩
 ·exact⟨false,h3,(λ_=>h2),(λh=>by cases h)⟩
 ·exact⟨true,h4,(λh=>by cases h),λ_=>⟨t,r,h2,h3,h5,h6⟩⟩
def zd9(f:Nat)(V:List (List UInt8))(l:List Tok):Option (Ty × List Tok) :=
 if V=[] then none else if isHd l 6 [46]=true then(read f l.tail).map λx=>(alls V x.1,x.2) else none
def fall(f:Nat)(l:List Tok):Option (Ty × List Tok):=zd9 f (vars l).1 (vars l).2
theorem znn(l:List Tok)(h:(hd l).kind=1):vars l=((hd l).text::(vars l.tail).1,(vars l.tail).2):=by
 cases l with
 |nil=>simp[hd]at h
 |cons t r=>exact(by rw[vars,Aq (show t.kind=1 from h)]:vars (t::r)=(t.text::(vars r).1,(vars r).2))
theorem zo0(l:List Tok)(h:¬(hd l).kind=1):vars l=([],l):=by
 cases l with
 |nil=>rfl
 |cons t r=>rw[vars,Am (show ¬t.kind=1 from h)]
theorem zlE(S:Nat->Prop)(b:Nat)(l:List Tok)(w:World)(h:Rdr S w b l)(hS:∀g,S g->g≠b/\g<w.heap.size)(hG:AllG l)(hl:l.length<=100000):Calls Tryz.prog 180 #[.pointer (some ⟨b,0,none⟩),.int .i64 1] w λe w'=>∃X q l2,e=.returned (.tuple #[.string X,.bool q])/\Rdr S w' b l2/\AllG l2/\l2.length+q.toNat=l.length /\
   vars l=(match q with|true=>(X.data.toList::(vars l2).1,(vars l2).2)|false=>([],l2))/\Chg (only b) w w':=by
 refine(zd8 S b l 1 1 rfl w h hS hl (by decide)).mono ?_;rintro e w' ⟨rfl,h2,h3⟩;refine⟨_,_,anyR l 1,rfl,h2,?_,?_,?_,h3⟩
 ·unfold anyR
  split
  ·exact AllG.tail' hG
  ·exact hG
 ·by_cases hk:(hd l).kind=1
  ·obtain⟨r,e1,e2⟩:=ze9 (by rw[hk];decide)
   rw[CF.2 hk,anyR,Aq hk,e2,e1];rfl
  ·rw[AF.2 hk,anyR,Am hk];rfl
 ·by_cases hk:(hd l).kind=1
  ·rw[CF.2 hk,anyR,Aq hk,anyT,Aq hk];exact znn l hk
  ·rw[AF.2 hk,anyR,Am hk];exact zo0 l hk
def vcons(done:List (List UInt8))(X:ByteArray)(q:Bool)(l:List Tok):List (List UInt8) × List Tok:=match q with|true=>(done++X.data.toList::(vars l).1,(vars l).2)|false=>(done,l)
def zoH(S:Nat->Prop)(b:Nat)(r0:List Tok)(w:World)(gg:Nat)(v vx vq:Value)(wr:World):Prop :=
 ∃l done X q,gg=l.length+q.toNat/\vx=.string X/\vq=.bool q/\Rdr S wr b l/\(∀g,S g->g≠b/\g<wr.heap.size)/\AllG l/\l.length+done.length+q.toNat<=r0.length/\Hid (vars r0=vcons done X q l) /\
  wr.ownsRow (w.heap.size+1) 9 1 v done.length (strV done)/\Blk wr w.heap.size 37 tyZ/\Chg (only b) w wr
def zqd(b9:Nat)(V:List (List UInt8))(o:Option Ty)(w w3:World)(gg:Nat)(vj:Value)(wr:World):Prop :=
 ∃j K X Z A m c,gg=j/\vj=.int .i64 ((j:Int)-1)/\j<=V.length/\Blk wr b9 37 #[.int .i64 K,.string X,.int .i64 Z,.slice A m c]/\Below b9 w3 wr/\b9<wr.heap.size /\
  ∀t0,o=some t0->RdV (λg=>w.heap.size<g/\g<wr.heap.size/\g≠b9) wr (alls (V.drop j) t0) (.agg #[.int .i64 K,.string X,.int .i64 Z,.slice A m c])
theorem zic:(Tryz.prog.info? 9).map (λi=>(i.zero,i.size,i.bytes))=some (some (.string ⟨#[]⟩),1,16):=by kernel_rfl
theorem zlF(f:Nat)(S:Nat->Prop)(b:Nat)(l:List Tok)(w:World)(h:Rdr S w b l)(hS:∀g,S g->g≠b/\g<w.heap.size)(hG:AllG l)(hl:l.length<=100000)(hf:4*l.length+4<=f)
  (IH:Reads S b 95 4 read f):Calls Tryz.prog 141 #[.pointer (some ⟨b,0,none⟩)] w (TPost S b l.length w (fall f l)):=by
 have bJ:=h.lt;obtain⟨i0,bm,bO,bD,bj⟩:=info_parts zic;have H:=CS h;have HS:=CS hS;have HG:=CS hG;have kg:=CS IH;obtain⟨O,hO⟩:∃O,fall f l=O:=⟨_,rfl⟩;have HFO:=CS hO;obtain⟨L,hL⟩:∃L,l.length=L:=⟨_,rfl⟩;have HL:=CS hL;rw[hO,hL]
 rw[hL]at hl hf
 clear h hS hG IH hO hL;go_enter Tryz.func141,Tryz.ntmps141
 go_wp2_with fail
 refine(zlE S b l _ (H.out.alloc (.cells tyZ 37) (λg hg=>(HS.out g hg).2)) (λg hg=>by have:=HS.out g hg;simp;omega) HG.out (by rw[HL.out];exact hl)).mono ?_;rintro e w1 ⟨X1,q1,l1,rfl,bE,j8,jT,dm,b1⟩;have aF:=b1.size;simp at aF;have HH:Hid (zoH S b l w L (.slice none 0 0) (.string X1) (.bool q1) w1):=CS ⟨l1,[],X1,q1,by rw[jT,HL.out],rfl,rfl,bE,λg hg=>by have:=HS.out g hg;omega,j8,by simp;omega,CS (by rw[dm];cases q1 <;> rfl),World.ownsRow_nil _ _ _ _,Blk.chg (heap_alloc_new w _) b1 (by unfold only;omega),b1.pre⟩;clear bE j8 jT dm b1;go_wp2_with fail
 go_loopg [4,5,6] L (λgg v vx vq wr=>zoH S b l w gg v vx vq wr)
 case atStart=>exact HH.out
 case round =>
  obtain⟨l',done,X,q,rfl,rfl,rfl,hr,jZ,vm,hle,jL,ai,aE,hc⟩:=hrel;have dj:=aE.lt;have cD:=hr.lt;obtain⟨A0,c0,rfl⟩:=zam ai;rw[HL.out]at hle
  have HR:=CS hr;have qm:=CS jZ;have zO:=CS vm;have cQ:=CS aE;have HC:=CS hc;clear hr jZ vm aE hc HH;cases q with
  |true =>
   have HV:Hid (vars l=(done++X.data.toList::(vars l').1,(vars l').2)):=CS jL.out;have hle':l'.length+done.length+1<=L:=hle;have aC:=CS ai.lt;have bp:=CS (ai.alloc (.cells #[.string X] 9));clear ai jL hle;go_wp2_with (at_builtin;refine wpList_append_own_at _ rfl (.tmp 25) (.tmp 27) 95 rfl (w.heap.size+1) 9 i0 _ 1 16 Tryz.underlying95 bm bO bD bj rfl (by decide) _ done.length (strV done) rfl bp.out ⟨wr.heap.size,0,none⟩ 1 1 [.string X] rfl rfl (zas _ _ _ _ rfl) (by intro u hu;simp at hu;subst hu;rfl) (by unfold maxLen;omega) (by omega) (by simp;omega) ?_;intro v2 w5 aj ae _ aS;obtain⟨A2,c2,rfl⟩:=zam aj;have cV:=CS aj;have bg:=CS ae;have eR:=CS aS;clear aj ae aS)
   have ej:=bg.out.size;simp at ej;have iQ:Hid (∀k,k<w.heap.size+1->w5.heap[k]?=wr.heap[k]?):=CS λk hk=>(bg.out.block k (by simp;omega) (λe=>by have:=aC.out _ e.symm;omega)).trans (Below.heap_alloc _ _ _ (by omega));refine(zlE S b l' w5 (HR.out.keep (iQ.out b (by omega)) (λg hg=>iQ.out g (by have:=HS.out g hg;omega))) (λg hg=>by have:=qm.out g hg;omega) zO.out (by omega)).mono ?_;rintro e w6 ⟨X2,q2,l2,rfl,cR,hG2,mV,dK,b6⟩;have dO:=b6.size;have lQ:l2.length+q2.toNat<l'.length+true.toNat:=by show _<l'.length+1;omega
   have eE:=CS cR;have vH:=CS hG2;have zH:=CS mV;have iO:=CS dK;have B6:=CS b6;clear cR hG2 mV dK b6;go_wp2_with fail
   go_roundg (l2.length+q2.toNat)
   case measure=>exact lQ
   case rel =>
    have mV:=zH.out;refine⟨l2,done++[X.data.toList],X2,q2,rfl,rfl,rfl,eE.out,λg hg=>by have:=qm.out g hg;omega,vH.out,by rw[HL.out];simp;omega,CS ?_,?_,(cQ.out.same (iQ.out _ (by omega))).chg B6.out (by unfold only;omega),((HC.out.alloc _).grown bg.out (λj hj=>.inl (by have:=aC.out _ hj;omega))).trans B6.out⟩
    ·rw[HV.out,iO.out]
     cases q2 <;> simp[vcons]
    ·rw[Ap,show strV (done++[X.data.toList])=strV done++[.string X] by simp[strV]]
     exact zgE cV.out B6.out (by omega)
  |false =>
   have HV:Hid (vars l=(done,l')):=CS jL.out;replace hle:l'.length+done.length<=L:=by have:l'.length+done.length+false.toNat<=L:=hle;simpa using this
   have ay:=CS ai;obtain⟨n,hn⟩:∃n,done.length=n:=⟨_,rfl⟩;have qt:=CS hn;rw[hn]at hle
   have rQ:Hid (wr.ownsRow (w.heap.size+1) 9 1 (.slice A0 n c0) n (strV done)):=by rw[hn]at ay;exact ay
   have HO:Hid (O=zd9 f done l'):=CS (by rw[<-HFO.out,fall,HV.out]);clear jL hn ay ai;rw[qt.out]
   by_cases gI:n=0
   ·subst gI
    have cG:Hid (O=none):=CS (by rw[HO.out,zd9,Aq (Cs.1 qt.out)]);have hb:=cQ.out;unfold tyZ at hb;obtain⟨a0,a1,a2,a3,q0,q1,q2,q3,pK⟩:=zaa hb;have bN:=CS hb;have C1:=HC;clear hb;go_wp2_with fail
    try simp only[Exit.inBlock,Exit.then]
    refine bodyPost_ret (zae rfl _ _ w.heap.size 37 _ (0,0) _ rfl (zah _ _ _ _ bN.out) Tryz.underlying37 rfl (by kernel_rfl)) rfl ?_;exact zaT S b L w _ _ _ 0 ⟨#[]⟩ 0 none 0 0 (C1.out.set4 _ _ _ _ (Ai _)) cG.out rfl
   ·have dn:((n:Int)==0)=false:=zb6 n 0 0 rfl gI
    have af:done≠[]:=λe=>gI (by rw[<-qt.out,e];rfl);obtain⟨q,hq⟩:∃q,isHd l' 6 [46]=q:=⟨_,rfl⟩;have hTK:Hid (∀w1,Below wr.heap.size wr w1->Calls Tryz.prog 140 #[.pointer (some ⟨b,0,none⟩),.int .i64 6,.string ⟨#[46]⟩] w1 λe w'=>e=.returned (.bool q)/\Rdr S w' b (if q=true then l'.tail else l')/\Chg (only b) w1 w'):=by
     refine CS λw1 b1=>?_;have:=zc3 S b l' 6 6 rfl ⟨#[46]⟩ w1 (HR.out.below b1 (λg hg=>(qm.out g hg).2)) (λg hg=>by have:=qm.out g hg;have:=b1.size;omega) (by omega) (by decide);have eb:(⟨#[46]⟩:ByteArray).data.toList=[46]:=rfl;rw[eb,took,hq]at this
     exact this
    have HQ:=CS hq;clear hq;have bN:=cQ;have C1:=HC;have cE:=rQ;go_wp2_with fail
    refine(hTK.out wr (Below.refl _ _)).mono ?_;rintro e w2 ⟨rfl,cR,b2⟩;have bk:=b2.size;have hb:=bN.out.chg b2 (by unfold only;omega);obtain⟨a0,a1,a2,a3,q0,q1,q2,q3,ia⟩:=zaa hb;have bQ:=CS hb;have C2:=CS (C1.out.trans b2);have bp:=CS (zgE cE.out b2 (by omega));have eE:=CS cR;clear hb b2 hTK cR;cases q with
    |false =>
     have cG:Hid (O=none):=CS (by rw[HO.out,zd9,Am af,HQ.out,Am (by decide)]);go_wp2_with fail
     try simp only[Exit.inBlock,Exit.then]
     refine bodyPost_ret (zae rfl _ _ w.heap.size 37 _ (0,0) _ rfl (zah _ _ _ _ bQ.out) Tryz.underlying37 rfl (by kernel_rfl)) rfl ?_;exact zaT S b L w _ _ _ 0 ⟨#[]⟩ 0 none 0 0 (C2.out.set4 _ _ _ _ (Ai _)) cG.out rfl
    |true =>
     obtain⟨t0,r1,cg,-,-⟩:=ze8 l' 6 [46] (by decide) HQ.out;have cG:Hid (O=(read f r1).map λx=>(alls done x.1,x.2)):=CS (by rw[HO.out,zd9,Am af,HQ.out,Aq rfl,cg];rfl);have HR2':Hid (Rdr S w2 b r1):=CS (by have:=eE.out;rw[cg]at this;exact this);have oT:Hid (AllG r1):=CS λt ht=>zO.out t (by rw[cg];exact Ar _ ht);have gJ:r1.length+1+n<=L:=by
       have:l'.length=r1.length+1:=by rw[cg];rfl
       omega
     have hW:=kg.out w2 r1 HR2'.out (λg hg=>by have:=qm.out g hg;omega) oT.out (by omega) (by omega);obtain⟨O1,hO1⟩:∃O1,read f r1=O1:=⟨_,rfl⟩;rw[hO1]at hW cG
     obtain⟨gN,hgN⟩:∃gN,A0=some ⟨gN,0,none⟩:=by
      rcases bp.out.2 with⟨e,h0⟩|⟨g,cap,cur,e,_⟩
      ·exact absurd h0 gI
      ·injection e with e;exact⟨g,e⟩
     subst hgN;have bK:Hid (w.heap.size+1<=gN/\gN<w2.heap.size/\∀j u,(strV done)[j]?=some u->w2.cell? ⟨gN,j,none⟩=some u):=by
      refine CS ⟨(bp.out.lt gN rfl).1,(bp.out.lt gN rfl).2,λj u hu=>?_⟩;have aW:(⟨gN,0,none⟩:Addr).add j=⟨gN,j,none⟩:=by unfold Addr.add;split <;> simp_all
      have:=bp.out.cells (g:=gN) rfl j u hu;rwa [aW]at this
     clear cg eE hO1 bp cE rQ;go_wp2_with fail
     refine hW.mono ?_;intro e w3 hT;obtain⟨b3,K1,X1,Z1,A1,m1,c1,qq,rfl,cf,cX⟩:=zcF hT;have cY:=b3.size;have gb:=CS (bQ.out.chg b3 (by unfold only;omega));have C3:=CS (C2.out.trans b3);have HNM3:Hid (w.heap.size+1<=gN/\gN<w3.heap.size/\∀j u,(strV done)[j]?=some u->w3.cell? ⟨gN,j,none⟩=some u):=by
      obtain⟨n1,n2,n3⟩:=bK.out;exact CS ⟨n1,by omega,λj u hu=>(World.cell?_of_block (w:=w2) (a:=⟨gN,j,none⟩) (b3.block gN n2 (by unfold only;omega))).trans (n3 j u hu)⟩
     have fo:=CS cf;have eQ:=CS cX;clear b3 hW hT cf cX bQ C2 bK bN C1 a0 a1 a2 a3 q0 q1 q2 q3;go_wp2_with fail
     go_loopg [9] n (λgg vj wr=>zqd w3.heap.size done (O1.map (·.1)) w w3 gg vj wr)
     case atStart =>
      refine⟨n,K1,X1,Z1,A1,m1,c1,rfl,rfl,by rw[qt.out];omega,heap_alloc_new _ _,(Below.refl _ w3).alloc (Ai _) _,by simp,λt0 h=>?_⟩;cases qq with
      |false=>rw[fo.out rfl]at h;cases h
      |true =>
       obtain⟨t,r,-,ho,aK,-⟩:=eQ.out rfl;rw[ho]at h
       injection h with h;subst h;rw[AP (by rw[qt.out];omega)]
       exact aK.keep (λg hg=>by simp at hg ⊢;omega) (λg hg=>Below.heap_alloc _ _ _ hg.2)
     case round =>
      obtain⟨j,K,X,Z,A,mm,cc,kY,rfl,pQ,bM,aH,hlt9,aK⟩:=hrel;rw[qt.out]at pQ
      have aE:=gb.out.below aH gb.out.lt;have aG:=CS aH;obtain⟨p0,p1,p2,p3,s0,s1,s2,s3,di⟩:=zaa bM;obtain⟨a0,a1,a2,a3,r0,r1',r2,r3,je⟩:=zaa aE;have qE:=CS bM;have HB0':=CS aE;have cF:=CS aK;obtain⟨n1,n2,n3⟩:=HNM3.out;have iH:=aH.size;by_cases jm:0<j
      ·have hjd:j-1<done.length:=by rw[qt.out];omega
       have e1:=n3 (j-1) _ (zo3 done (j-1) hjd);rw[<-World.cell?_of_block (w:=w3) (w':=wr) (a:=⟨gN,j-1,none⟩) (aH.block gN n2)]at e1
       obtain⟨Y,hY⟩:∃Y:ByteArray,⟨(done[j-1]).toArray⟩=Y:=⟨_,rfl⟩;rw[hY]at e1
       have HY:Hid (Y=⟨(done.getD (j-1) []).toArray⟩):=CS (by rw[<-hY,AO,Ak hjd];rfl);have uX:gN<wr.heap.size:=by omega
       clear bM aE aK aH hY n3;go_wp2_with fail
       go_region
       all_goals
        go_wp2_with fail
        go_roundg (j-1)
        case measure=>omega
        case rel =>
         refine⟨j-1,5,Y,0,some ⟨wr.heap.size,0,none⟩,1,1,rfl,by rw[show((j-1:Nat):Int)=(j:Int)-1 by omega],by rw[qt.out];omega,((zah _ _ _ _ qE.out).alloc _).drew,((zak aG.out _ _ _ _ (Ai _)).alloc (by simp;omega) _).drew,by simp;omega,λt0 h=>?_⟩;rw[zeM done (j-1) t0 (by rw[qt.out];omega),show j-1+1=j by omega]
         refine zeL (w:=wr) HY.out (cF.out t0 h) (λg hg=>?_) (λg hg=>?_) ?_ ?_
         ·have:=hg.2.1
          exact⟨hg.1,by simp;omega,hg.2.2⟩
         ·exact(Below.heap_alloc _ _ _ (by simp;exact hg.2.1)).trans (zat _ _ _ _ _ _ _ hg.2.2)
         ·exact⟨by omega,by simp,by omega⟩
         ·intro d u hu
          have:=zas ((((wr.setCell ⟨w3.heap.size,0,none⟩ (.int .i64 5)).setCell ⟨w3.heap.size,1,none⟩ (.string Y)).setCell ⟨w3.heap.size,2,none⟩ (.int .i64 0)).setCell ⟨w3.heap.size,3,none⟩ (.slice (some ⟨wr.heap.size,0,none⟩) 1 1)) #[.int .i64 K,.string X,.int .i64 Z,.slice A mm cc] 37 wr.heap.size (by simp) d u hu;have aW:(⟨wr.heap.size,0,none⟩:Addr).add d=⟨wr.heap.size,d,none⟩:=by unfold Addr.add;split <;> simp_all
          rw[aW]at this
          exact this
      ·obtain rfl:j=0:=by omega
       clear bM aE aK aH n3;go_wp2_with fail
       try simp only[Exit.inBlock,Exit.then]
       refine bodyPost_ret (zae rfl _ _ w.heap.size 37 _ (0,0) _ rfl (zah _ _ _ _ HB0'.out) Tryz.underlying37 rfl (by kernel_rfl)) rfl ?_;have hc:Chg (only b) w wr:=C3.out.belowB aG.out (by omega);cases qq with
       |false=>exact zaT S b L w _ _ _ K X Z A mm cc (hc.set4 _ _ _ _ (Ai _)) (by rw[cG.out,fo.out rfl];rfl) rfl
       |true =>
        obtain⟨t,r,fQ,ho,-,pA⟩:=eQ.out rfl;have aK:=cF.out t (by rw[ho];rfl);rw[BM]at aK
        refine za1 S b L w _ _ _ K X Z A mm cc (alls done t) r (hc.set4 _ _ _ _ (Ai _)) (by omega) (by rw[cG.out,ho];rfl) rfl ?_ ?_
        ·exact(aK.set4 _ _ _ _ (λk hk=>by omega)).keep (λg hg=>by simp;omega) (λ_ _=>rfl)
        ·exact(pA.keep (aG.out.block b (by omega)) (λg hg=>aG.out.block g (by have:=HS.out g hg;omega))).set4 _ _ _ _ (by omega) (λk hk=>by have:=HS.out k hk;omega)
end Go.Proofs.YtfafilmklhnngaaGreatDoor
namespace Go.Proofs.YtfafilmklhnngaaGreatDoor
open Go.RowKit Lx Tx
set_option maxRecDepth 100000
def arrow(f:Nat):Option (Ty × List Tok)->Option (Ty × List Tok)
 |none=>none
 |some x=>if isHd x.2 6 [45,62]=true then(read f x.2.tail).map λy=>(.fn x.1 y.1,y.2) else some x
theorem zno(f:Nat)(O:Option (Ty × List Tok))(h:O=none):arrow f O=none:=by rw[h,arrow]
theorem zg5(f:Nat)(O:Option (Ty × List Tok))(t:Ty)(r:List Tok)(h:O=some (t,r)):arrow f O=if isHd r 6 [45,62]=true then(read f r.tail).map λy=>(.fn t y.1,y.2) else some (t,r):=by rw[h,arrow]
theorem zlG(k:Nat)(X:List UInt8)(l:List Tok)(hk:k≠0):eat (λt=>t.kind==k&&t.text==X) l=if isHd l k X=true then some l.tail else none:=by
 cases l with
 |nil=>rw[eat,Am];simp[isHd,hd];intro e;exact absurd e.symm hk
 |cons t r=>exact(by rw[eat]:eat (λt=>t.kind==k&&t.text==X) (t::r)=if(t.kind==k&&t.text==X)=true then some r else none)
theorem znp(l:List Tok):eat (isKey · wForall) l=if isHd l 3 wForall=true then some l.tail else none:=zlG 3 wForall l (by decide)
theorem zg6(X:List UInt8)(l:List Tok):eat (isSign · X) l=if isHd l 6 X=true then some l.tail else none:=zlG 6 X l (by decide)
theorem zo1(f:Nat)(l:List Tok):read (f+1) l=if isHd l 3 wForall=true then fall f l.tail else arrow f (app f l):=by
 rw[Tx.read,znp]
 by_cases h:isHd l 3 wForall=true
 ·rw[Aq h,Aq h]
  show(if(vars l.tail).1=[] then none else match eat (isSign · [46]) (vars l.tail).2 with|none=>none|some r2=>(read f r2).map λx:Ty × List Tok=>(alls (vars l.tail).1 x.1,x.2))=zd9 f (vars l.tail).1 (vars l.tail).2;unfold zd9;rw[zg6]
  by_cases hv:(vars l.tail).1=[]
  ·rw[Aq hv,Aq hv]
  ·rw[Am hv,Am hv]
   by_cases hq:isHd (vars l.tail).2 6 [46]=true
   ·rw[Aq hq,Aq hq]
   ·rw[Am hq,Am hq]
 ·rw[Am h,Am h]
  show(match app f l with|none=>none|some (a,r)=>match eat (isSign · [45,62]) r with|none=>some (a,r)|some r2=>(read f r2).map λx:Ty × List Tok=>(.fn a x.1,x.2))=_;cases app f l with
  |none=>rfl
  |some x =>
   obtain⟨a,r⟩:=x;rw[arrow]
   show(match eat (isSign · [45,62]) r with|none=>some (a,r)|some r2=>(read f r2).map λx:Ty × List Tok=>(.fn a x.1,x.2))=_;rw[zg6]
   by_cases hq:isHd r 6 [45,62]=true
   ·rw[Aq hq,Aq hq]
   ·rw[Am hq,Am hq]
theorem zkw {f:Nat} {O O2:Option (Ty × List Tok)} {t:Ty} {r:List Tok}(h:O=some (t,r))(hq:isHd r 6 [45,62]=true)(hr:read f r.tail=O2):arrow f O=O2.map λy=>(.fn t y.1,y.2):=by
 rw[zg5 f O t r h,Aq hq,hr]
theorem znq(w w4 W:World)(t u:Ty)(S1 S2:Nat->Prop)(K1 K2 Z1 Z2:Int)(X1 X2:ByteArray)(A1 A2:Option Addr)(m1 m2 c1 c2:Nat)(hw:w.heap.size<w4.heap.size)
  (h1:RdV S1 w4 t (.agg #[.int .i64 K1,.string X1,.int .i64 Z1,.slice A1 m1 c1]))(h2:RdV S2 w4 u (.agg #[.int .i64 K2,.string X2,.int .i64 Z2,.slice A2 m2 c2]))
  (k1:∀g,S1 g->w.heap.size<g/\g<w4.heap.size)(k2:∀g,S2 g->w.heap.size<g/\g<w4.heap.size)
  (aD:W.heap.size=w4.heap.size+2)(key:∀k,k<w4.heap.size->k≠w.heap.size->W.heap[k]?=w4.heap[k]?)
  (hc:∀j v,[Value.int .i64 K1,.string X1,.int .i64 Z1,.slice A1 m1 c1,.int .i64 K2,.string X2,.int .i64 Z2,.slice A2 m2 c2][j]?=some v->W.cell? ((⟨w4.heap.size+1,0,none⟩:Addr).add j)=some v):RdV (λg=>w.heap.size<=g/\g<W.heap.size) W (.fn t u) (.agg #[.int .i64 4,.string ⟨#[]⟩,.int .i64 0,.slice (some ⟨w4.heap.size+1,0,none⟩) 2 2]):=by
 rw[aD]
 refine zie (S:=λg=>w.heap.size<=g/\g<w4.heap.size+2) (h1.keep (λg hg=>?_) (λg hg=>?_)) (h2.keep (λg hg=>?_) (λg hg=>?_)) ⟨by omega,by omega⟩ (λj v hj=>?_)
 ·have:=k1 g hg;exact⟨by omega,by omega⟩
 ·have:=k1 g hg;exact key g (by omega) (by omega)
 ·have:=k2 g hg;exact⟨by omega,by omega⟩
 ·have:=k2 g hg;exact key g (by omega) (by omega)
 ·rw[<-zbh];exact hc j v hj
theorem znr(f:Nat)(S:Nat->Prop)(b:Nat)(l:List Tok)(w:World)(h:Rdr S w b l)(hS:∀g,S g->g≠b/\g<w.heap.size)(hG:AllG l)(hl:l.length<=100000)(hf:4*l.length+4<=f+1)
  (qj:Reads S b 95 4 read f)(yU:Reads S b 142 3 app f):Calls Tryz.prog 95 #[.pointer (some ⟨b,0,none⟩)] w (TPost S b l.length w (read (f+1) l)):=by
 have bJ:=h.lt;have hT:=zc3 S b l 3 3 rfl ⟨#[102,111,114,97,108,108]⟩ (w.alloc (.cells tyZ 37)) (h.alloc _ (λg hg=>(hS g hg).2)) (λg hg=>⟨(hS g hg).1,by have:=(hS g hg).2;simp;omega⟩) hl (by decide);unfold tyZ at hT;have eb:(⟨#[102,111,114,97,108,108]⟩:ByteArray).data.toList=wForall:=rfl;rw[eb]at hT
 rw[zo1]
 unfold took at hT;obtain⟨q,hq⟩:∃q,isHd l 3 wForall=q:=⟨_,rfl⟩;rw[hq]at hT ⊢
 have HS:=CS hS;have HG:=CS hG;have HR:=CS qj;have HA:=CS yU;clear eb h hS hG qj yU;cases q with
 |true =>
  obtain⟨t0,r0,rfl,-,-⟩:=ze8 _ _ _ (by decide) hq;simp only[CA,List.tail_cons]at hT ⊢;rw[Ao]at hl hf ⊢
  obtain⟨n,hn⟩:∃n,r0.length=n:=⟨_,rfl⟩;have HN:=CS hn;rw[hn]at hl hf ⊢
  obtain⟨O,hO⟩:∃O,fall f r0=O:=⟨_,rfl⟩;have HF:Hid (∀w1,Rdr S w1 b r0->(∀g,S g->g≠b/\g<w1.heap.size)->Calls Tryz.prog 141 #[.pointer (some ⟨b,0,none⟩)] w1 (TPost S b n w1 O)):=by
   refine CS λw1 hr hs=>?_;have:=zlF f S b r0 w1 hr hs (AllG.tail HG.out) (by omega) (by omega) HR.out;rwa [hO,hn]at this
  rw[hO]
  clear hq hn hO hf;go_enter Tryz.func95,Tryz.ntmps95
  go_wp2_with fail
  refine hT.mono ?_;rintro e w1 ⟨rfl,r1,b1⟩;have aF:=b1.size;simp at aF;have bN:=CS (Blk.chg (heap_alloc_new w (.cells tyZ 37)) b1 (by unfold only;omega));have bY:=CS r1;have C1:=CS b1.pre;clear hT b1 r1;go_wp2_with fail
  refine(HF.out w1 bY.out (λg hg=>by have:=HS.out g hg;omega)).mono ?_;intro e w2 hP;obtain⟨b2,K1,X1,Z1,A1,m1,c1,qq,rfl,cf,cX⟩:=zcF hP;have an:=bN.out.chg b2 (by unfold only;omega);unfold tyZ at an;obtain⟨a0,a1,a2,a3,q0,q1,q2,q3,ia⟩:=zaa an;have bQ:=CS an;have C2:=CS (C1.out.trans b2);have fo:=CS cf;have eQ:=CS cX;clear an b2 hP cf cX;go_wp2_with fail
  try simp only[Exit.inBlock,Exit.then]
  refine bodyPost_ret (zae rfl _ _ w.heap.size 37 _ (0,0) _ rfl (zah _ _ _ _ bQ.out) Tryz.underlying37 rfl (by kernel_rfl)) rfl ?_;cases qq with
  |false=>exact zaT S b (n+1) w _ _ _ K1 X1 Z1 A1 m1 c1 (C2.out.set4 _ _ _ _ (Ai _)) (fo.out rfl) rfl
  |true =>
   obtain⟨t,r,fQ,ho,aK,pA⟩:=eQ.out rfl;refine za1 S b (n+1) w _ _ _ K1 X1 Z1 A1 m1 c1 t r (C2.out.set4 _ _ _ _ (Ai _)) (by omega) ho rfl ?_ (pA.set4 _ _ _ _ (by omega) (λk hk=>by have:=HS.out k hk;omega));exact(aK.set4 _ _ _ _ (λk hk=>by omega)).keep (λg hg=>by simp;omega) (λ_ _=>rfl)
 |false =>
  simp only[Bg,BX]at hT ⊢;obtain⟨n,hn⟩:∃n,l.length=n:=⟨_,rfl⟩;have HN:=CS hn;rw[hn]at hl hf ⊢
  obtain⟨O,hO⟩:∃O,app f l=O:=⟨_,rfl⟩;have HP:Hid (∀w1,Rdr S w1 b l->(∀g,S g->g≠b/\g<w1.heap.size)->Calls Tryz.prog 142 #[.pointer (some ⟨b,0,none⟩)] w1 (TPost S b n w1 O)):=by
   refine CS λw1 hr hs=>?_;have:=HA.out w1 l hr hs HG.out (by omega) (by omega);rwa [hO,hn]at this
  have HGA:Hid (∀t r,O=some (t,r)->AllG r):=CS λt r h=>((zdY f).2.1 l t r HG.out (hO.trans h)).2.1;obtain⟨R,hR⟩:∃R,arrow f O=R:=⟨_,rfl⟩;have tP:=CS hR;rw[hO,hR]
  clear hq hn hO hR;go_enter Tryz.func95,Tryz.ntmps95
  go_wp2_with fail
  refine hT.mono ?_;rintro e w1 ⟨rfl,r1,b1⟩;have aF:=b1.size;simp at aF;have bN:=CS (Blk.chg (heap_alloc_new w (.cells tyZ 37)) b1 (by unfold only;omega));have bY:=CS r1;have C1:=CS b1.pre;clear hT b1 r1;go_wp2_with fail
  refine(HP.out w1 bY.out (λg hg=>by have:=HS.out g hg;omega)).mono ?_;intro e w2 hP;obtain⟨b2,K1,X1,Z1,A1,m1,c1,qq,rfl,cf,cX⟩:=zcF hP;have bk:=b2.size;have an:=bN.out.chg b2 (by unfold only;omega);unfold tyZ at an;obtain⟨a0,a1,a2,a3,q0,q1,q2,q3,ia⟩:=zaa an;have bQ:=CS an;have C2:=CS (C1.out.trans b2);have fo:=CS cf;have eQ:=CS cX;clear an b2 hP cf cX HP;cases qq with
  |false =>
   have HO:=CS (tP.out.symm.trans (zno f O (fo.out rfl)));go_wp2_with fail
   try simp only[Exit.inBlock,Exit.then]
   refine bodyPost_ret (zae rfl _ _ w.heap.size 37 _ (0,0) _ rfl ((zah _ _ _ _ bQ.out).alloc _) Tryz.underlying37 rfl (by kernel_rfl)) rfl ?_;exact zaT S b n w _ _ _ K1 X1 Z1 A1 m1 c1 ((C2.out.set4 _ _ _ _ (Ai _)).alloc _) HO.out rfl
  |true =>
   obtain⟨t,r,fQ,ho,aK,pA⟩:=eQ.out rfl;obtain⟨q',eV⟩:∃q',isHd r 6 [45,62]=q':=⟨_,rfl⟩;have HQ':=CS eV;have HO:=CS ho;have cF:=CS aK;have cD:=pA.lt;have eT:Hid (∀g,S g->g≠b/\g<w2.heap.size):=CS λg hg=>by have:=HS.out g hg;omega
   have l7:Hid (Calls Tryz.prog 140 #[.pointer (some ⟨b,0,none⟩),.int .i64 6,.string ⟨#[45,62]⟩] (w2.alloc (.cells #[.int .i64 K1,.string X1,.int .i64 Z1,.slice A1 m1 c1] 37)) λe w'=>e=.returned (.bool q')/\Rdr S w' b (if q'=true then r.tail else r)/\Chg (only b) (w2.alloc (.cells #[.int .i64 K1,.string X1,.int .i64 Z1,.slice A1 m1 c1] 37)) w'):=by
    have:=zc3 S b r 6 6 rfl ⟨#[45,62]⟩ (w2.alloc (.cells #[.int .i64 K1,.string X1,.int .i64 Z1,.slice A1 m1 c1] 37)) (pA.alloc _ (λg hg=>(eT.out g hg).2)) (λg hg=>by have:=eT.out g hg;simp;omega) (by omega) (by decide);have eb:(⟨#[45,62]⟩:ByteArray).data.toList=[45,62]:=rfl;rw[eb,took,eV]at this
    exact CS this
   clear eV ho aK pA;go_wp2_with fail
   refine l7.out.mono ?_;rintro e w3 ⟨rfl,r3,b3⟩;have cY:=b3.size;simp at cY;have HF3:=CS (Blk.chg (heap_alloc_new w2 (.cells #[.int .i64 K1,.string X1,.int .i64 Z1,.slice A1 m1 c1] 37)) b3 (by unfold only;omega));have an:=(bQ.out.alloc _).chg b3 (by unfold only;omega);have gb:=CS an;have C3:=CS ((C2.out.alloc _).trans b3);have qo:=CS r3;have qn:Hid (RdV (λg=>w1.heap.size<=g/\g<w2.heap.size) w3 t (.agg #[.int .i64 K1,.string X1,.int .i64 Z1,.slice A1 m1 c1])) :=
    CS (cF.out.keep (λ_ h=>h) (λg hg=>(b3.block g (by simp;omega) (by unfold only;omega)).trans (Below.heap_alloc _ _ _ hg.2)))
   clear b3 r3 an l7;cases q' with
   |false =>
    have cG:=CS (tP.out.symm.trans ((zg5 f O t r HO.out).trans (by rw[HQ'.out,Am (by decide)])));obtain⟨p0,p1,p2,p3,s0,s1,s2,s3,di⟩:=zaa HF3.out;obtain⟨a0,a1,a2,a3,q0,q1,q2,q3,je⟩:=zaa gb.out;go_wp2_with fail
    try simp only[Exit.inBlock,Exit.then]
    refine bodyPost_ret (zae rfl _ _ w.heap.size 37 _ (0,0) _ rfl (zah _ _ _ _ gb.out) Tryz.underlying37 rfl (by kernel_rfl)) rfl ?_;have jO:=qo.out;rw[Am (by decide)]at jO
    refine za1 S b n w _ _ _ K1 X1 Z1 A1 m1 c1 t r (C3.out.set4 _ _ _ _ (Ai _)) fQ cG.out rfl ?_ (jO.set4 _ _ _ _ (by omega) (λk hk=>by have:=HS.out k hk;omega));exact(qn.out.set4 _ _ _ _ (λk hk=>by omega)).keep (λg hg=>by simp;omega) (λ_ _=>rfl)
   |true =>
    obtain⟨t1,r1,bE,-,-⟩:=ze8 r 6 [45,62] (by decide) HQ'.out;obtain⟨O2,tp⟩:∃O2,read f r1=O2:=⟨_,rfl⟩;have cG:Hid (R=O2.map λy=>(.fn t y.1,y.2)):=CS (tP.out.symm.trans (zkw HO.out HQ'.out (by rw[bE];exact tp)));have jO:Rdr S w3 b r1:=by have:=qo.out;rw[Aq rfl,bE]at this;exact this
    have gJ:r1.length+1<n:=by
      have:r.length=r1.length+1:=by rw[bE];rfl
      omega
    have j8:AllG r1:=λt ht=>HGA.out _ r HO.out t (by rw[bE];exact Ar _ ht);have hW:=HR.out w3 r1 jO (λg hg=>by have:=eT.out g hg;omega) j8 (by omega) (by omega);rw[tp]at hW
    clear bE tp jO j8 qo;go_wp2_with fail
    refine hW.mono ?_;intro e w4 hP;obtain⟨b4,K2,X2,Z2,A2,m2,c2,q4,rfl,cf,cX⟩:=zcF hP;have en:=b4.size;have hf4:=HF3.out.chg b4 (by unfold only;omega);have an:=gb.out.chg b4 (by unfold only;omega);obtain⟨p0,p1,p2,p3,s0,s1,s2,s3,di⟩:=zaa hf4;obtain⟨a0,a1,a2,a3,q0,q1,q2,q3,hlw4⟩:=zaa an;have lN:=CS an;have C4:=CS (C3.out.trans b4);have HNO4:=CS cf;have yV:=CS cX;have HRD4:Hid (RdV (λg=>w1.heap.size<=g/\g<w2.heap.size) w4 t (.agg #[.int .i64 K1,.string X1,.int .i64 Z1,.slice A1 m1 c1])) :=
     CS (qn.out.keep (λ_ h=>h) (λg hg=>b4.block g (by omega) (by unfold only;omega)))
    clear hf4 an b4 cf cX hP hW;go_wp2_with fail
    try simp only[Exit.inBlock,Exit.then]
    refine bodyPost_ret (zae rfl _ _ w.heap.size 37 _ (0,0) _ rfl (((zah _ _ _ _ lN.out).alloc _).alloc _) Tryz.underlying37 rfl (by kernel_rfl)) rfl ?_;have c4:Chg (only b) w _:=((C4.out.set4 (g:=w.heap.size) (.int .i64 4) (.string ⟨#[]⟩) (.int .i64 0) (.slice (some ⟨w4.heap.size+1,0,none⟩) 2 2) (Ai _)).alloc (.cells #[.int .i64 K2,.string X2,.int .i64 Z2,.slice A2 m2 c2] 37)).alloc (.cells #[.int .i64 K1,.string X1,.int .i64 Z1,.slice A1 m1 c1,.int .i64 K2,.string X2,.int .i64 Z2,.slice A2 m2 c2] 37);cases q4 with
    |false=>exact zaT S b n w _ _ _ 4 ⟨#[]⟩ 0 (some ⟨w4.heap.size+1,0,none⟩) 2 2 c4 (by rw[cG.out,HNO4.out rfl];rfl) rfl
    |true =>
     obtain⟨u,r2,hr2l,ho2,mG,wH⟩:=yV.out rfl;refine za1 S b n w _ _ _ 4 ⟨#[]⟩ 0 (some ⟨w4.heap.size+1,0,none⟩) 2 2 (.fn t u) r2 c4 (by omega) (by rw[cG.out,ho2];rfl) rfl ?_ ?_
     ·exact znq w w4 _ t u _ _ K1 K2 Z1 Z2 X1 X2 A1 A2 m1 m2 c1 c2 hlw4 HRD4.out mG (λg hg=>by omega) (λg hg=>by omega) (by simp)
       (λk hk af=>(Below.heap_alloc _ _ _ (by simp;omega)).trans ((Below.heap_alloc _ _ _ (by simp;omega)).trans (zat _ _ _ _ _ _ _ af))) (λj v hj=>zas _ _ _ _ (by simp) j v hj)
     ·have aT:=wH.lt
      have hS4:∀g,S g->g<w4.heap.size:=λg hg=>by have:=HS.out g hg;omega
      exact((wH.set4 _ _ _ _ (by omega) (λk hk=>by have:=HS.out k hk;omega)).alloc _ (λg hg=>by have:=hS4 g hg;simp;omega)).alloc _ (λg hg=>by have:=hS4 g hg;simp;omega)
theorem zpQ(S:Nat->Prop)(b:Nat)(f:Nat):∀f1,f1<=f ->
  Reads S b 95 4 read f1/\Reads S b 142 3 app f1/\Reads S b 181 2 atom f1:=by
 induction f with
 |zero =>
  intro f1 h;exact⟨λw l _ _ _ _ h2=>by omega,λw l _ _ _ _ h2=>by omega,λw l _ _ _ _ h2=>by omega⟩
 |succ f ih =>
  intro f1 h1;by_cases h:f1<=f
  ·exact ih f1 h
  ·obtain rfl:f1=f+1:=by omega
   have i0:=ih f (Ai _);exact⟨λw l hr hS hG hl hf=>znr f S b l w hr hS hG hl hf i0.1 i0.2.1,λw l hr hS hG hl hf=>zpP f S b l w hr hS hG hl hf (λf1 h=>(ih f1 h).2.2),λw l hr hS hG hl hf=>zoY f S b l w hr hS hG hl hf i0.1⟩
def ReadPost(w:World)(o:Option (Ty × List Tok))(e:Ending)(w':World):Prop :=
 Below w.heap.size w w'/\∃K X Z A m c v q,e=.returned (.tuple #[.agg #[.int .i64 K,.string X,.int .i64 Z,.slice A m c],v,.bool q])/\(q=false->o=none/\v=.slice none 0 0) /\
  (q=true->∃t r A2 c2,o=some (t,r)/\v=.slice A2 r.length c2/\RdV (λg=>w.heap.size<=g/\g<w'.heap.size) w' t (.agg #[.int .i64 K,.string X,.int .i64 Z,.slice A m c]))
theorem zfq {P:Program} {fn:Func} {p u z:Tmp} {ty:TypeId}(h:fn.results=#[.cell p ty,.tmp u,.tmp z])(tmps:Array Value)(w:World)(g:Nat)(t:TypeId)(cs:Array Value)(fr:Nat × Nat)(d:TypeDesc)
  (hp:tmps.getD p undef=.pointer (some ⟨g,0,none⟩))(hg:w.heap[g]?=some (.cells cs t fr))
  (hu:P.underlying ty=some d)(hd:(match d with|.struct _|.array _ _=>true|_=>false)=true)(hi:(P.info? ty).map (·.size)=some cs.size):(results fn tmps).run P w=.ok (.tuple #[.agg cs,tmps.getD u undef,tmps.getD z undef]) w:=by
 have df:tmps[p]?.getD undef=.pointer (some ⟨g,0,none⟩):=by simpa using hp
 simp[results,h,df,asAddr,run_loadVar_row w g t ty cs fr d hg hu hd hi]
theorem heap_drew(w:World):w.drew.heap=w.heap:=rfl
theorem zdt(w:World)(g:Nat)(b0 b1 b2 b3:Value):((((w.setCell ⟨g,0,none⟩ b0).setCell ⟨g,1,none⟩ b1).setCell ⟨g,2,none⟩ b2).setCell ⟨g,3,none⟩ b3).heap.size=w.heap.size:=by simp
theorem RdT.toks {w:World} {v:Value} {l:List Tok}(h:RdT w v l)(hc:∃A c,v=.slice A l.length c/\l.length<=c):Toks (λg=>g<w.heap.size) w v l:=by
 obtain⟨A,c,rfl,hlc⟩:=hc;obtain⟨A',c',hv,hp⟩:=h;injection hv with e1 e2 e3;subst e1 e3;refine⟨A,c,rfl,hlc,λh0=>?_⟩;obtain⟨g,hA,hg,au⟩:=hp h0;exact⟨g,0,hA,hg,λj u hu=>by rw[Bo];exact au j u hu⟩
theorem zo2(l:List Tok)(v:Value)(w:World)(h:Toks (λg=>g<w.heap.size) w v l)(hG:AllG l)(hl:l.length<=100000):Calls Tryz.prog 51 #[v] w (ReadPost w (read (enough l) l)):=by
 have HV:=CS h;obtain⟨O,hO⟩:∃O,read (enough l) l=O:=⟨_,rfl⟩;have hW:=λw1 hr hs=>(zpQ (λg=>g<w.heap.size) (w.heap.size+1) (enough l) (enough l) (Ai _)).1 w1 l hr hs hG hl (by unfold enough;omega);rw[hO]at hW ⊢
 have HW:=CS hW;clear h hG hl hO hW;obtain⟨A,c,rfl,hlc,_⟩:=HV.out;obtain⟨n,hn⟩:∃n,l.length=n:=⟨_,rfl⟩;rw[hn]at HV HW ⊢
 clear hlc hn;have HR:Hid (Rdr (λg=>g<w.heap.size) ((w.alloc (.cells tyZ 37)).alloc (.cells #[.slice A n c] 171)) (w.heap.size+1) l):=by
  refine CS ⟨_,?_,HV.out.keep (λg hg=>?_)⟩
  ·have:=heap_alloc_new (w.alloc (.cells tyZ 37)) (.cells #[.slice A n c] 171)
   rw[show(w.alloc (.cells tyZ 37)).heap.size=w.heap.size+1 by simp]at this
   exact this
  ·exact(Below.heap_alloc _ _ _ (by simp;omega)).trans (Below.heap_alloc _ _ _ hg)
 unfold tyZ at HR;go_enter Tryz.func51,Tryz.ntmps51
 go_wp2_with fail
 refine(HW.out _ HR.out (λg hg=>by simp;omega)).mono ?_;intro e w1 hP;obtain⟨b1,K1,X1,Z1,A1,m1,c1,q,rfl,cf,cX⟩:=zcF hP;have aF:=b1.size;simp at aF;have an:=Blk.chg (Blk.alloc (heap_alloc_new w (.cells tyZ 37)) (.cells #[.slice A n c] 171)) b1 (by unfold only;omega);unfold tyZ at an;obtain⟨a0,a1,a2,a3,q0,q1,q2,q3,dj⟩:=zaa an;have eJ:=CS an;have C1:=CS b1;have fo:=CS cf;have eQ:=CS cX;clear an b1 cf cX hP;cases q with
 |false =>
  go_wp2_with fail
  try simp only[Exit.inBlock,Exit.then]
  refine bodyPost_ret (zfq rfl _ _ w.heap.size 37 _ (0,0) _ rfl (zah _ _ _ _ (zah _ _ _ _ eJ.out)) Tryz.underlying37 rfl (by kernel_rfl)) rfl ?_;have hb:Below w.heap.size w w1:=(((Chg.refl (only (w.heap.size+1)) w).alloc _).alloc _ |>.trans C1.out).toBelow (Ai _) (λk hk=>by unfold only;omega);exact⟨zak (zak hb _ _ _ _ (Ai _)) _ _ _ _ (Ai _),0,⟨#[]⟩,0,none,0,0,.slice none 0 0,false,rfl,λ_=>⟨fo.out (by first|rfl|trivial),rfl⟩,(λh=>by cases h)⟩
 |true =>
  obtain⟨t,r,fQ,ho,aK,pA⟩:=eQ.out rfl;obtain⟨v2,dm,dK⟩:=pA;obtain⟨A2,c2,rfl,-,-⟩:=dK;have f0:=dm.cell 0;have cF:Hid (RdV (λg=>w.heap.size<g/\g<w1.heap.size) w1 t (.agg #[.int .i64 K1,.string X1,.int .i64 Z1,.slice A1 m1 c1])):=CS (aK.keep (λg hg=>by simp at hg;omega) (λ_ _=>rfl));have HO:=CS ho;obtain⟨rn,mD⟩:∃rn,r.length=rn:=⟨_,rfl⟩;have zq:=CS mD;rw[mD]at f0
  replace f0:w1.cell? ⟨w.heap.size+1,0,none⟩=some (.slice A2 rn c2):=f0;clear dm fQ ho aK mD;go_wp2_with fail
  go_region
  all_goals
   go_wp2_with fail
   try simp only[Exit.inBlock,Exit.then]
   refine bodyPost_ret (zfq rfl _ _ w.heap.size 37 _ (0,0) _ rfl (zah _ _ _ _ (zah _ _ _ _ eJ.out)).drew Tryz.underlying37 rfl (by kernel_rfl)) rfl ?_;have hb:Below w.heap.size w w1:=(((Chg.refl (only (w.heap.size+1)) w).alloc _).alloc _ |>.trans C1.out).toBelow (Ai _) (λk hk=>by unfold only;omega);refine⟨(zak (zak hb _ _ _ _ (Ai _)) _ _ _ _ (Ai _)).drew,K1,X1,Z1,A1,m1,c1,.slice A2 rn c2,true,rfl,(λh=>by cases h),λ_=>⟨t,r,A2,c2,HO.out,by rw[zq.out],?_⟩⟩;refine cF.out.keep (λg hg=>?_) (λg hg=>?_)
   ·refine⟨Nat.le_of_lt hg.1,?_⟩
    rw[heap_drew,zdt,zdt]
    exact hg.2
   ·have af:g≠w.heap.size:=Nat.ne_of_gt hg.1
    rw[heap_drew,zat _ _ _ _ _ _ _ af,zat _ _ _ _ _ _ _ af]
end Go.Proofs.YtfafilmklhnngaaGreatDoor
