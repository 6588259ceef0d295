import Derived.Test.YtfafilmklhnngaaGreatDoorBsM
import Derived.Test.YtfafilmklhnngaaGreatDoorBsW
set_option maxHeartbeats 12800000
set_option maxRecDepth 100000
namespace Go.Proofs.YtfafilmklhnngaaGreatDoor
open Tryz
section
open Go.RowKit Lx Tx
def Gy(S:Nat->Prop)(b n:Nat)(w:World)(o:Option (Ty × List Tok))(e:Ending)(w':World):Prop :=
 b_ (only b) w w'/\∃K X Z A m c,
  ((o=none/\e=.returned (.tuple #[.agg #[.int .i64 K,.string X,.int .i64 Z,.slice A m c],.bool false])) \/
   (∃t r,r.length<n/\o=some (t,r)/\e=.returned (.tuple #[.agg #[.int .i64 K,.string X,.int .i64 Z,.slice A m c],.bool true]) /\
    nc (λg=>w.heap.size<=g/\g<w'.heap.size) w' t (.agg #[.int .i64 K,.string X,.int .i64 Z,.slice A m c])/\FP S w' b r))
theorem LZ(S:Nat->Prop)(b n:Nat)(w w':World)(o:Option (Ty × List Tok))(e:Ending)(K:Int)(X:ByteArray)(Z:Int)(A:Option Addr)(m c:Nat)(hb:b_ (only b) w w')(ho:o=none)
  (he:e=.returned (.tuple #[.agg #[.int .i64 K,.string X,.int .i64 Z,.slice A m c],.bool false])):Gy S b n w o e w' :=
 ⟨hb,K,X,Z,A,m,c,.inl ⟨ho,he⟩⟩
theorem Me(S:Nat->Prop)(b n:Nat)(w w':World)(o:Option (Ty × List Tok))(e:Ending)(K:Int)(X:ByteArray)(Z:Int)(A:Option Addr)(m c:Nat)(t:Ty)(r:List Tok)(hb:b_ (only b) w w')(hr:r.length<n)(ho:o=some (t,r))
  (he:e=.returned (.tuple #[.agg #[.int .i64 K,.string X,.int .i64 Z,.slice A m c],.bool true]))
  (hv:nc (λg=>w.heap.size<=g/\g<w'.heap.size) w' t (.agg #[.int .i64 K,.string X,.int .i64 Z,.slice A m c]))(hd:FP S w' b r):Gy S b n w o e w' :=
 ⟨hb,K,X,Z,A,m,c,.inr ⟨t,r,hr,ho,he,hv,hd⟩⟩
def Reads(S:Nat->Prop)(b F k:Nat)(rd:Nat->List Tok->Option (Ty × List Tok))(f:Nat):Prop :=
 ∀(w:World) (l:List Tok),FP S w b l->(∀g,S g->g≠b/\g<w.heap.size)->E_ l->l.length<=100000->4*l.length+k<=f->Calls prog F #[.pointer (some ⟨b,0,none⟩)] w (Gy S b l.length w (rd f l))
def IV:Array Value:=#[.int .i64 0,.string ⟨#[]⟩,.int .i64 0,.slice none 0 0]
theorem zf4(X:ByteArray)(w:World):Calls prog 134 #[.string X] w λe w'=>e=.returned (.agg #[.int .i64 1,.string X,.int .i64 0,.slice none 0 0])/\Below w.heap.size w w':=by
 go_in;go_wp2
 exact Ce (CW rfl _ _ w.heap.size 37 _ (0,0) _ rfl (BZ _ _) underlying37 rfl (by kernel_rfl)) rfl ⟨rfl,(Cc _ w).alloc (BU _) _⟩
theorem b_.pre {M:Nat->Prop} {w w':World} {o:Obj}(h:b_ M (w.alloc o) w'):b_ M w w':=((b_.refl M w).alloc o).trans h
theorem b_.C_ {M:Nat->Prop} {w w':World} {g:Nat}(h:b_ M w w')(b0 b1 b2 b3:Value)(hg:w.heap.size<=g):b_ M w ((((w'.setCell ⟨g,0,none⟩ b0).setCell ⟨g,1,none⟩ b1).setCell ⟨g,2,none⟩ b2).setCell ⟨g,3,none⟩ b3) :=
 (((h.setCell (p:=⟨g,0,none⟩) (.inl hg) _).setCell (p:=⟨g,1,none⟩) (.inl hg) _).setCell (p:=⟨g,2,none⟩) (.inl hg) _).setCell (p:=⟨g,3,none⟩) (.inl hg) _
theorem FP.C_ {S:Nat->Prop} {w:World} {b g:Nat} {l:List Tok}(h:FP S w b l)(b0 b1 b2 b3:Value)(hb:b≠g)(hS:∀k,S k->k≠g):FP S ((((w.setCell ⟨g,0,none⟩ b0).setCell ⟨g,1,none⟩ b1).setCell ⟨g,2,none⟩ b2).setCell ⟨g,3,none⟩ b3) b l :=
 h.al (G3 _ _ _ _ _ _ _ hb) (λk hk=>G3 _ _ _ _ _ _ _ (hS k hk))
theorem nc.C_ {S:Nat->Prop} {w:World} {g:Nat} {t:Ty} {v:Value}(h:nc S w t v)(b0 b1 b2 b3:Value)(hS:∀k,S k->k≠g):nc S ((((w.setCell ⟨g,0,none⟩ b0).setCell ⟨g,1,none⟩ b1).setCell ⟨g,2,none⟩ b2).setCell ⟨g,3,none⟩ b3) t v :=
 h.al (λ_ h=>h) (λk hk=>G3 _ _ _ _ _ _ _ (hS k hk))
def closed:Option (Ty × List Tok)->Option (Ty × List Tok)
 |none=>none
 |some x=>if Fl x.2 6 [41]=true then some (x.1,x.2.tail) else none
def paren(f:Nat)(l:List Tok):Option (Ty × List Tok):=if Fl l 6 [40]=true then closed (read f l.tail) else none
theorem zmJ(O:Option (Ty × List Tok))(h:O=none):closed O=none:=by rw[h,closed]
theorem zln(O:Option (Ty × List Tok))(t:Ty)(r:List Tok)(h:O=some (t,r)):closed O=if Fl r 6 [41]=true then some (t,r.tail) else none:=by rw[h,closed]
theorem E_.Rx {l:List Tok}(h:E_ l):E_ l.tail:=by
 cases l with
 |nil=>exact h
 |cons a r=>exact h.tail
theorem Sa(l:List Tok)(k:Nat)(X:List UInt8)(hk:k≠0)(h:Fl l k X=true):∃t r,l=t::r/\t.kind=k/\t.text=X:=by
 cases l with
 |nil=>simp[Fl,hd]at h;exact absurd h.1.symm hk
 |cons t r=>simp[Fl,hd]at h;exact⟨t,r,rfl,h.1,h.2⟩
theorem zoI(f:Nat)(S:Nat->Prop)(b:Nat)(l:List Tok)(w:World)(h:FP S w b l)(hS:∀g,S g->g≠b/\g<w.heap.size)(hG:E_ l)(hl:l.length<=100000)(hf:4*l.length+2<=f+1)
  (IH:Reads S b 95 4 read f):Calls prog 205 #[.pointer (some ⟨b,0,none⟩)] w (Gy S b l.length w (paren f l)):=by
 have a8:=h.lt;have hT:=PE S b l 6 6 rfl ⟨#[40]⟩ (w.alloc (.cells IV 37)) (h.alloc _ (λg hg=>(hS g hg).2)) (λg hg=>⟨(hS g hg).1,by have:=(hS g hg).2;simp;omega⟩) hl (by decide);unfold IV at hT;have eb:(⟨#[40]⟩:ByteArray).data.toList=[40]:=rfl;rw[eb]at hT;unfold paren;unfold Kr at hT;obtain⟨q,hq⟩:∃q,Fl l 6 [40]=q:=⟨_,rfl⟩;rw[hq]at hT ⊢;have HS:=EP hS;have HG:=EP hG;clear eb h hS hG;cases q with
 |false =>
  clear hq hf IH HS HG;simp only[Dg,D3]at hT ⊢;obtain⟨n,hn⟩:∃n,l.length=n:=⟨_,rfl⟩;rw[hn]at hl ⊢;clear hn hl;go_in;go_wp2_with fail;refine hT.mono ?_;rintro e w1 ⟨rfl,r1,b1⟩;have hblk:ar w1 w.heap.size 37 #[.int .i64 0,.string ⟨#[]⟩,.int .i64 0,.slice none 0 0]:=ar.iF (BZ _ _) b1 (by unfold only;omega);obtain⟨a0,a1,a2,a3,r0,r1',r2,r3,cZ⟩:=n_ hblk;have eU:=EP hblk;have B1:=EP b1;clear hblk b1 r1 hT;go_wp2_with fail;try simp only[Exit.inBlock,Exit.then]
  refine Ce (FC rfl _ _ w.heap.size 37 _ (0,0) _ rfl (Fh _ _ _ _ eU.o) underlying37 rfl (by kernel_rfl)) rfl ?_;exact LZ S b n w _ _ _ 0 ⟨#[]⟩ 0 none 0 0 (B1.o.pre.C_ _ _ _ _ (BU _)) rfl rfl
 |true =>
  obtain⟨t0,r0,rfl,-,-⟩:=Sa _ _ _ (by decide) hq;simp only[Ez,List.tail_cons]at hT ⊢;have HL:Hid (r0.length<=100000/\4*r0.length+4<=f):=EP (by simp at hl hf;omega);rw[Ca];obtain⟨n,hn⟩:∃n,r0.length=n:=⟨_,rfl⟩;have HN:=EP hn;rw[hn];have mg:=EP IH;clear hq hf hl IH hn;obtain⟨O,hO⟩:∃O,read f r0=O:=⟨_,rfl⟩;obtain⟨O2,uW⟩:∃O2,closed O=O2:=⟨_,rfl⟩;rw[hO,uW];have HO:=EP hO;have xr:=EP uW;clear hO uW;go_in;go_wp2_with fail;refine hT.mono ?_;rintro e w1 ⟨rfl,r1,b1⟩;have hblk:ar w1 w.heap.size 37 #[.int .i64 0,.string ⟨#[]⟩,.int .i64 0,.slice none 0 0]:=ar.iF (BZ _ _) b1 (by unfold only;omega);have h1:=b1.size;simp at h1;have pE:∀g,S g->g≠b/\g<w1.heap.size:=λg hg=>by have:=HS.o g hg;omega
  have hC:=mg.o w1 r0 r1 pE (E_.tail HG.o) HL.o.1 HL.o.2;rw[HO.o,HN.o]at hC;have eU:=EP hblk;have B1:=EP b1.pre;have H1:=EP h1;have fP:=EP pE;clear hblk b1 r1 hT h1 pE;go_wp2_with fail;refine hC.mono ?_;rintro e w2 ⟨b2,K1,X1,Z1,A1,m1,c1,aD⟩;have hblk:ar w2 w.heap.size 37 #[.int .i64 0,.string ⟨#[]⟩,.int .i64 0,.slice none 0 0]:=ar.iF eU.o b2 (by unfold only;omega);obtain⟨a0,a1,a2,a3,q0,q1,q2,q3,cZ⟩:=n_ hblk;have h2:=b2.size;have H2:=EP h2;have cC:=EP hblk;have B2:=EP (B1.o.trans b2);clear hblk hC h2;rcases aD with⟨ho,rfl⟩|⟨t,r,gY,ho,rfl,aG,hr⟩
  ·have cS:=EP (xr.o.symm.trans (zmJ O ho))
   clear ho b2;go_wp2_with fail;go_region
   all_goals
    go_wp2_with fail;try simp only[Exit.inBlock,Exit.then]
    refine Ce (FC rfl _ _ w.heap.size 37 _ (0,0) _ rfl ((Fh _ _ _ _ cC.o).alloc _).drew underlying37 rfl (by kernel_rfl)) rfl ?_;exact LZ S b (n+1) w _ _ _ K1 X1 Z1 A1 m1 c1 (((B2.o.C_ _ _ _ _ (BU _)).alloc _).drew) cS.o rfl
  ·have pD:∀g,S g->g≠b/\g<w2.heap.size:=λg hg=>by have:=fP.o g hg;have:=H2.o;omega
   have ow:r.length<=100000:=by have:=HL.o.1;have:=HN.o;omega
   obtain⟨q',fx⟩:∃q',Fl r 6 [41]=q':=⟨_,rfl⟩;have cS:Hid (O2=if q'=true then some (t,r.tail) else none):=EP (xr.o.symm.trans ((zln O t r ho).trans (by rw[fx])));have mV:b≠w2.heap.size:=by have:=hr.lt;omega
   have bh:Hid (∀W,ar W w2.heap.size 37 #[.int .i64 K1,.string X1,.int .i64 Z1,.slice A1 m1 c1] ->
     (W.cell? ⟨w2.heap.size,0,none⟩=some (.int .i64 K1)/\W.cell? ⟨w2.heap.size,1,none⟩=some (.string X1)/\W.cell? ⟨w2.heap.size,2,none⟩=some (.int .i64 Z1)/\W.cell? ⟨w2.heap.size,3,none⟩=some (.slice A1 m1 c1))) :=
    EP λW aq=>⟨aq.cell 0,aq.cell 1,aq.cell 2,aq.cell 3⟩
   have UD:Hid (∀W,b_ (only b) (w2.alloc (.cells #[.int .i64 K1,.string X1,.int .i64 Z1,.slice A1 m1 c1] 37)) W->ar W w2.heap.size 37 #[.int .i64 K1,.string X1,.int .i64 Z1,.slice A1 m1 c1]) :=
    EP λW hW=>ar.iF (BZ _ _) hW (by unfold only;omega)
   have ai:w2.heap.size≠w.heap.size:=by omega
   have td:=EP gY;have cg:=EP aG;have sa:Hid (∀W,FP S W b r->w2.heap.size<=W.heap.size->Calls prog 140 #[.pointer (some ⟨b,0,none⟩),.int .i64 6,.string ⟨#[41]⟩] W λe w'=>e=.returned (.bool q')/\FP S w' b (if q'=true then r.tail else r)/\b_ (only b) W w'):=by
    refine EP λW hR aA=>?_;have:=PE S b r 6 6 rfl ⟨#[41]⟩ W hR (λg hg=>by have:=pD g hg;omega) ow (by decide);have eb:(⟨#[41]⟩:ByteArray).data.toList=[41]:=rfl;rw[eb,Kr,fx]at this
    exact this
   have R4:Hid (FP S (w2.alloc (.cells #[.int .i64 K1,.string X1,.int .i64 Z1,.slice A1 m1 c1] 37)).drew b r):=EP (hr.alloc _ (λg hg=>(pD g hg).2));have B4:Hid (b_ (only b) (w2.alloc (.cells #[.int .i64 K1,.string X1,.int .i64 Z1,.slice A1 m1 c1] 37)) (w2.alloc (.cells #[.int .i64 K1,.string X1,.int .i64 Z1,.slice A1 m1 c1] 37)).drew):=EP (b_.refl _ _).drew;have XN:Hid (∀W,b_ (only b) (w2.alloc (.cells #[.int .i64 K1,.string X1,.int .i64 Z1,.slice A1 m1 c1] 37)) W->ar W w.heap.size 37 #[.int .i64 0,.string ⟨#[]⟩,.int .i64 0,.slice none 0 0]) :=
    EP λW hW=>(cC.o.alloc _).iF hW (by unfold only;omega)
   have iW:∀(x:Bool) (w:World),(Op.unary .not (.bool x)).run prog w=.ok (.bool (!x)) w:=λ_ _=>rfl;obtain⟨x0,x1,x2,x3⟩:=bh.o _ (UD.o _ (b_.refl _ _));clear hr aG pD ow fx gY ho b2;cases q'
   all_goals
    go_wp2_with fail;go_region_held3 (λW=>W.cell? ⟨w2.heap.size,0,none⟩=some (.int .i64 K1)/\W.cell? ⟨w2.heap.size,1,none⟩=some (.string X1)/\W.cell? ⟨w2.heap.size,2,none⟩=some (.int .i64 Z1)/\W.cell? ⟨w2.heap.size,3,none⟩=some (.slice A1 m1 c1)) (first|(with_reducible exact bh.o _ (UD.o _ B4.o))|(with_reducible exact bh.o _ (UD.o _ B5.o))|(with_reducible exact bh.o _ (Vt ai (UD.o _ B5.o)))) (((with_reducible refine(sa.o _ R4.o (by simp)).mono ?_);rintro e w5 ⟨rfl,r5,b5⟩;have B5:=EP (B4.o.trans b5);have R5:=EP r5;obtain⟨z0,z1,z2,z3,y0,y1,y2,y3,hlz⟩:=n_ (XN.o _ B5.o);clear b5 r5))
   ·go_wp2_with fail
    try simp only[Exit.inBlock,Exit.then]
    refine Ce (FC rfl _ _ w.heap.size 37 _ (0,0) _ rfl (Fh _ _ _ _ (XN.o _ B5.o)) underlying37 rfl (by kernel_rfl)) rfl ?_;exact LZ S b (n+1) w _ _ _ K1 X1 Z1 A1 m1 c1 ((((B2.o.alloc _).trans B5.o)).C_ _ _ _ _ (BU _)) cS.o rfl
   ·go_wp2_with fail
    try simp only[Exit.inBlock,Exit.then]
    refine Ce (FC rfl _ _ w.heap.size 37 _ (0,0) _ rfl (Fh _ _ _ _ (XN.o _ B5.o)) underlying37 rfl (by kernel_rfl)) rfl ?_;have h5:=B5.o.size;have h1:=H1.o;have h2:=H2.o;have gY:=td.o;simp at h5;refine Me S b (n+1) w _ _ _ K1 X1 Z1 A1 m1 c1 t r.tail ((((B2.o.alloc _).trans B5.o)).C_ _ _ _ _ (BU _)) (by simp;omega) cS.o rfl ?_ (R5.o.C_ _ _ _ _ (by omega) (λk hk=>by have:=HS.o k hk;omega));have hv:nc (λg=>w1.heap.size<=g/\g<w2.heap.size) w5 t (.agg #[.int .i64 K1,.string X1,.int .i64 Z1,.slice A1 m1 c1]) :=
     cg.o.al (λ_ h=>h) (λg hg=>(B5.o.block g (by simp;omega) (by unfold only;omega)).trans (BX _ _ _ hg.2))
    exact(hv.C_ _ _ _ _ (λk hk=>by omega)).al (λg hg=>by simp;omega) (λ_ _=>rfl)
end
section
open Go.RowKit Lx Tx
set_option maxRecDepth 100000
theorem zlo(t:Tok)(h:Lx.Good t)(hk:t.kind=5):∃ds,t.text=63::ds/\ds≠[]:=by
 obtain⟨h1,h2,_⟩:=h;rw[hk]at h2;cases hx:t.text with
 |nil=>exact absurd hx h1
 |cons c r =>
  rw[hx]at h2;rw[first]at h2;split at h2
  ·exfalso
   unfold word at h2;split at h2
   ·injection h2 with a _;omega
   ·injection h2 with a _
    unfold o_ at a;split at a
    ·omega
    ·split at a <;> omega
  ·split at h2
   ·exfalso
    rcases KV (c::r) with e|⟨e,_,_⟩ <;> rw[e]at h2 <;> injection h2 with a _ <;> omega
   ·split at h2
    ·rename_i hc
     subst hc;refine⟨r,rfl,λhr=>?_⟩;subst hr;unfold JZ at h2;split at h2
     ·injection h2 with a _;omega
     ·rename_i hn
      exact hn (by decide)
    ·exfalso
     unfold sign at h2;split at h2
     ·injection h2 with a _;omega
     ·split at h2
      ·injection h2 with a _;omega
      ·injection h2 with a _;omega
theorem zho(l:List UInt8):∀acc,(∀d∈l,f_ d=true)->Lib.decFrom acc l=some (l.foldl (λn c=>10*n+(c.toNat-48)) acc):=by
 induction l with
 |nil=>intro acc _;rfl
 |cons a r ih =>
  intro acc h;have ha:=h a Cs;have hd:Lib.digitVal a=some (a.toNat-48):=by
   unfold Lib.digitVal;unfold f_ at ha;simp at ha;rw[Ch ha]
  rw[Lib.decFrom,hd,Ep];simp only;rw[ih _ (λd hd=>h d (Cf _ hd)),Nat.mul_comm acc 10]
theorem zj8(l:List UInt8)(h0:l≠[])(h:∀d∈l,f_ d=true):Lib.atoi l=some (numOf l:Nat):=by
 cases l with
 |nil=>exact absurd rfl h0
 |cons a r =>
  have ha:=h a Cs;unfold f_ at ha;simp at ha;have h1:(a==45)=false:=by rw[Cv];rintro rfl;exact absurd ha.1 (by decide)
  have h2:(a==43)=false:=by rw[Cv];rintro rfl;exact absurd ha.1 (by decide)
  rw[Lib.atoi,h1,h2];simp only[Dg,D3];rw[Lib.decNat];simp only[List.isEmpty_cons,Dg,D3];rw[zho _ 0 h];rfl
theorem IS(w:World)(t:ByteArray):Below w.heap.size w (Lib.bytesWorld w 5 t):=by
 unfold Lib.bytesWorld;exact Lib.below_freeze (((Cc _ w).drew).alloc (BU _) _) (p:=⟨w.heap.size,_,none⟩) (BU _) _
theorem zlp(o:Option (Ty × List Tok)):closed o=match o with|none=>none|some (x,r2)=>(Ht (Ft · [41]) r2).map λr3=>(x,r3):=by
 cases o with
 |none=>rfl
 |some y =>
  obtain⟨x,r2⟩:=y;rw[closed];cases r2 with
  |nil=>simp[Fl,hd,Ht]
  |cons t r =>
   show(if(t.kind==6&&t.text==[41])=true then some (x,r) else none)=(if(t.kind==6&&t.text==[41])=true then some r else none).map λr3=>(x,r3);cases (t.kind==6&&t.text==[41]) <;> rfl
theorem zgL(t:Tok)(h:Lx.Good t)(hx:t.text=[40]):t.kind=6:=by
 have h2:=h.2.1;rw[hx]at h2;have:first [40]=(6,1):=by decide
 rw[this]at h2;injection h2 with a _;exact a.symm
theorem zqC(f:Nat)(l:List Tok)(hG:E_ l):atom (f+1) l=if(hd l).kind=1 then some (.var (hd l).text,l.tail) else if(hd l).kind=2 then some (.h_ (hd l).text [],l.tail) else
  if(hd l).kind=5 then some (.mt (numOf ((hd l).text.drop 1)),l.tail) else paren f l:=by
 cases l with
 |nil=>rw[atom];simp[hd,paren,Fl]
 |cons t r =>
  show atom (f+1) (t::r)=if t.kind=1 then some (.var t.text,r) else if t.kind=2 then some (.h_ t.text [],r) else if t.kind=5 then some (.mt (numOf (t.text.drop 1)),r) else paren f (t::r)
  rw[atom];by_cases k1:t.kind=1
  ·rw[Ch k1,Ch k1]
  ·rw[Cg k1,Cg k1]
   by_cases k2:t.kind=2
   ·rw[Ch k2,Ch k2]
   ·rw[Cg k2,Cg k2]
    by_cases k5:t.kind=5
    ·rw[Ch k5,Ch k5]
    ·rw[Cg k5,Cg k5]
     unfold paren;rw[zlp];show _=if(t.kind==6&&t.text==[40])=true then(match read f r with|none=>none|some (x,r2)=>(Ht (Ft · [41]) r2).map λr3=>(x,r3)) else none
     by_cases hx:t.text=[40]
     ·rw[Ch hx,Ch (by rw[hx,zgL t (hG t Cs) hx];rfl)]
      cases read f r with
      |none=>rfl
      |some y=>rfl
     ·rw[Cg hx,Cg (by simp[hx])]
theorem R_ {l:List Tok}(h:(hd l).kind≠0):∃r,l=hd l::r/\l.tail=r:=by
 cases l with
 |nil=>exact absurd rfl h
 |cons t r=>exact⟨r,rfl,rfl⟩
structure aaj (S:Nat->Prop) (b m n:Nat) (l r:List Tok) (X:ByteArray):Prop where
 yes:∀(K:Int) (w1:World),K=m->m≠0->FP S w1 b l->(∀g,S g->g≠b/\g<w1.heap.size)->Calls prog 180 #[.pointer (some ⟨b,0,none⟩),.int .i64 K] w1 λe w'=>e=.returned (.tuple #[.string X,.bool true])/\FP S w' b r/\b_ (only b) w1 w'/\r.length<n
 no:∀(K:Int) (k:Nat) (w1:World),K=k->k≠0->m≠k->FP S w1 b l->(∀g,S g->g≠b/\g<w1.heap.size)->Calls prog 180 #[.pointer (some ⟨b,0,none⟩),.int .i64 K] w1 λe w'=>e=.returned (.tuple #[.string ⟨#[]⟩,.bool false])/\FP S w' b l/\b_ (only b) w1 w'
theorem OT(S:Nat->Prop)(b m n:Nat)(l r:List Tok)(X:ByteArray)(hl:l.length<=100000)(hm:(hd l).kind=m)(hX:(⟨(hd l).text.toArray⟩:ByteArray)=X)(hn:l.length=n)(hr:l.tail=r):aaj S b m n l r X:=by
 subst hm hX hn hr;refine⟨λK w1 hK h0 h hS=>?_,λK k w1 hK h0 ai h hS=>?_⟩
 ·refine(VR S b l _ K hK w1 h hS hl h0).mono ?_
  rintro e w' ⟨rfl,h2,h3⟩;unfold IG at h2;rw[Ch rfl]at h2;refine⟨by unfold Kt;rw[Ch rfl];simp,h2,h3,?_⟩;obtain⟨r,e1,e2⟩:=R_ h0;rw[e2,e1];simp
 ·refine(VR S b l k K hK w1 h hS hl h0).mono ?_
  rintro e w' ⟨rfl,h2,h3⟩;unfold IG at h2;rw[Cg ai]at h2;exact⟨by unfold Kt;rw[Cg ai,Cv.2 ai],h2,h3⟩
theorem zky {b:Nat} {S:Nat->Prop} {w w1:World} {cs:Array Value} {t:TypeId}(a8:b<w.heap.size)(hS:∀g,S g->g≠b/\g<w.heap.size)(c:b_ (only b) (w.alloc (.cells cs t)) w1):(∀g,S g->g≠b/\g<w1.heap.size)/\ar w1 w.heap.size t cs/\b_ (only b) w w1:=by
 have hs:=c.size;simp at hs;exact⟨λg hg=>by have:=hS g hg;omega,ar.iF (BZ _ _) c (by unfold only;omega),c.pre⟩
theorem zqD(f:Nat)(S:Nat->Prop)(b:Nat)(l:List Tok)(w:World)(h:FP S w b l)(hS:∀g,S g->g≠b/\g<w.heap.size)(hG:E_ l)(hl:l.length<=100000)(hf:4*l.length+2<=f+1)
  (IH:Reads S b 95 4 read f):Calls prog 181 #[.pointer (some ⟨b,0,none⟩)] w (Gy S b l.length w (atom (f+1) l)):=by
 have a8:=h.lt;rw[zqC f l hG];have R0:=EP (h.alloc (.cells IV 37) (λg hg=>(hS g hg).2));have S0:Hid (∀g,S g->g≠b/\g<(w.alloc (.cells IV 37)).heap.size):=EP λg hg=>⟨(hS g hg).1,by have:=(hS g hg).2;simp;omega⟩;have kY:=EP (λ(w1:World) (c:b_ (only b) (w.alloc (.cells IV 37)) w1)=>zky a8 hS c);unfold IV at R0 S0 kY;obtain⟨m,hm⟩:∃m,(hd l).kind=m:=⟨_,rfl⟩;obtain⟨X,hX⟩:∃X:ByteArray,⟨(hd l).text.toArray⟩=X:=⟨_,rfl⟩;have jc:(hd l).text=X.data.toList:=by rw[<-hX]
 obtain⟨n,hn⟩:∃n,l.length=n:=⟨_,rfl⟩;obtain⟨r,hr⟩:∃r,l.tail=r:=⟨_,rfl⟩;have TK:=EP (OT S b m n l r X hl hm hX hn hr);have HG:Hid (m=5->∃ds,X.data.toList=63::ds/\ds≠[]/\(∀d∈ds,f_ d=true)/\ds.length<=6):=by
  refine EP λh5=>?_;obtain⟨r,e1,_⟩:=R_ (by rw[hm,h5];decide);have hg:=hG (hd l) (by rw[e1];simp[hd]);obtain⟨ds,d1,d2⟩:=zlo _ hg (by rw[hm,h5]);obtain⟨g1,g2,_⟩:=zhR _ hg (by rw[hm,h5]);rw[d1]at g1 g2
  exact⟨ds,by rw[<-jc,d1],d2,g1,g2⟩
 have XQ:Hid (∀w1,FP S w1 b l->(∀g,S g->g≠b/\g<w1.heap.size)->Calls prog 205 #[.pointer (some ⟨b,0,none⟩)] w1 (Gy S b l.length w1 (paren f l))) :=
  EP λw1 hr hs=>zoI f S b l w1 hr hs hG hl hf IH
 have HS:=EP hS;rw[hn]at XQ ⊢;rw[hm,jc,hr];obtain⟨O,hO⟩:∃O,paren f l=O:=⟨_,rfl⟩;rw[hO]at XQ ⊢;clear h hS hG hl hf IH hm hX jc hn hr hO;by_cases k1:m=1
 ·subst k1
  rw[Ch rfl];go_in;go_wp2_with fail;refine(TK.o.yes 1 _ rfl (by decide) R0.o S0.o).mono ?_;rintro e w2 ⟨rfl,cD,b2,af⟩;obtain⟨aZ,aq,cH⟩:=kY.o w2 b2;obtain⟨a0,a1,a2,a3,q0,q1,q2,q3,cZ⟩:=n_ aq;have cC:=EP aq;have dY:=EP cD;have C2:=EP cH;have au:=EP af;have cE:=EP aZ;clear aq cD b2 af aZ cH;go_wp2_with fail;refine(zf4 X w2).mono ?_;rintro e w3 ⟨rfl,b3⟩;have aq:=cC.o.below b3 cZ;obtain⟨a0,a1,a2,a3,q0,q1,q2,q3,kr⟩:=n_ aq;have gF:=EP aq;have B3:=EP b3;clear aq b3;go_wp2_with fail;try simp only[Exit.inBlock,Exit.then]
  refine Ce (FC rfl _ _ w.heap.size 37 _ (0,0) _ rfl (Fh _ _ _ _ gF.o) underlying37 rfl (by kernel_rfl)) rfl ?_;exact Me S b n w _ _ _ 1 X 0 none 0 0 (.var X.data.toList) r ((C2.o.below B3.o).C_ _ _ _ _ (BU _)) au.o rfl rfl ⟨none,0,rfl,by rw[j_];trivial⟩
   ((dY.o.below B3.o (λg hg=>(cE.o g hg).2)).C_ _ _ _ _ (by omega) (λk hk=>by have:=HS.o k hk;omega))
 ·rw[Cg k1]
  have xa:=EP (TK.o.no 1 1 _ rfl (by decide) k1 R0.o S0.o);by_cases k2:m=2
  ·subst k2
   rw[Ch rfl];go_in;go_wp2_with fail;refine xa.o.mono ?_;rintro e w1 ⟨rfl,bm,b1⟩;obtain⟨aH,-,-⟩:=kY.o w1 b1;have bW:=EP bm;have fP:=EP aH;have B1:=EP b1;clear xa b1 bm aH;go_wp2_with fail;refine(TK.o.yes 2 _ rfl (by decide) bW.o fP.o).mono ?_;rintro e w2 ⟨rfl,cD,b2,af⟩;obtain⟨aZ,aq,cH⟩:=kY.o w2 (B1.o.trans b2);obtain⟨a0,a1,a2,a3,q0,q1,q2,q3,cZ⟩:=n_ aq;have cC:=EP aq;have dY:=EP cD;have C2:=EP cH;have au:=EP af;have cE:=EP aZ;clear aq cD b2 af aZ cH;go_wp2_with fail;try simp only[Exit.inBlock,Exit.then]
   refine Ce (FC rfl _ _ w.heap.size 37 _ (0,0) _ rfl (Fh _ _ _ _ cC.o) underlying37 rfl (by kernel_rfl)) rfl ?_;exact Me S b n w _ _ _ 3 X 0 none 0 0 (.h_ X.data.toList []) r (C2.o.C_ _ _ _ _ (BU _)) au.o rfl rfl ⟨none,0,rfl,by rw[j_];intro h;exact absurd rfl h⟩
    (dY.o.C_ _ _ _ _ (by omega) (λk hk=>by have:=HS.o k hk;omega))
  ·rw[Cg k2]
   have K2:=EP k2;by_cases k5:m=5
   ·subst k5
    rw[Ch rfl];obtain⟨ds,g1,g2,g3,g4⟩:=HG.o rfl;have kU:(⟨(Lib.trimPrefix X.data.toList [63]).toArray⟩:ByteArray)=⟨ds.toArray⟩:=by rw[g1];rfl
    have Xw:=λw=>Tryz.strings_TrimPrefix X ⟨#[63]⟩ w;have eb:(⟨#[63]⟩:ByteArray).data.toList=[63]:=rfl;rw[eb,kU]at Xw
    have qn:(⟨ds.toArray⟩:ByteArray).data.toList=ds:=rfl;have wX:=λw=>Tryz.strconv_Atoi ⟨ds.toArray⟩ (numOf ds:Nat) (by rw[Dc,qn];omega) (by rw[qn];exact zj8 ds g2 g3) w;have mI:numOf (X.data.toList.drop 1)=numOf ds:=by rw[g1];rfl
    obtain⟨N,wU⟩:∃N,numOf ds=N:=⟨_,rfl⟩;rw[mI,wU];rw[wU]at wX;obtain⟨D,hD⟩:∃D:ByteArray,⟨ds.toArray⟩=D:=⟨_,rfl⟩;rw[hD]at Xw wX;clear eb kU qn mI wU hD g1 g2 g3 g4;go_in;go_wp2_with fail;refine xa.o.mono ?_;rintro e w1 ⟨rfl,bm,b1⟩;obtain⟨aH,-,-⟩:=kY.o w1 b1;have bW:=EP bm;have fP:=EP aH;have B1:=EP b1;clear xa b1 bm aH;go_wp2_with fail;refine(TK.o.no 2 2 _ rfl (by decide) (by decide) bW.o fP.o).mono ?_;rintro e Td ⟨rfl,bm,b1⟩;obtain⟨aH,-,-⟩:=kY.o Td (B1.o.trans b1);replace bW:=EP bm;replace fP:=EP aH;replace B1:=EP (B1.o.trans b1);clear b1 bm aH;go_wp2_with fail;refine(TK.o.yes 5 _ rfl (by decide) bW.o fP.o).mono ?_;rintro e w2 ⟨rfl,cD,b2,af⟩;obtain⟨aZ,aq,cH⟩:=kY.o w2 (B1.o.trans b2);obtain⟨a0,a1,a2,a3,q0,q1,q2,q3,cZ⟩:=n_ aq;have cC:=EP aq;have dY:=EP cD;have C2:=EP cH;have au:=EP af;have cE:=EP aZ;clear aq cD b2 af aZ cH;go_wp2_with fail;refine(Xw w2).mono ?_;rintro e w3 ⟨rfl,rfl⟩;go_wp2_with fail;refine(wX w3).mono ?_;rintro e w4 ⟨rfl,tt,rfl⟩;have cJ:=IS w3 tt;have aq:=cC.o.below cJ cZ;obtain⟨W,hW⟩:∃W,Lib.bytesWorld w3 5 tt=W:=⟨_,rfl⟩;rw[hW]at aq cJ ⊢;obtain⟨a0,a1,a2,a3,q0,q1,q2,q3,kr⟩:=n_ aq;have gF:=EP aq;have B3:=EP cJ;clear aq cJ hW;go_wp2_with fail;go_region
    all_goals
     go_wp2_with fail;try simp only[Exit.inBlock,Exit.then]
     refine Ce (FC rfl _ _ w.heap.size 37 _ (0,0) _ rfl (Fh _ _ _ _ gF.o).drew underlying37 rfl (by kernel_rfl)) rfl ?_;exact Me S b n w _ _ _ 2 ⟨#[]⟩ (N:Nat) none 0 0 (.mt N) r (((C2.o.below B3.o).C_ _ _ _ _ (BU _)).drew) au.o rfl rfl ⟨none,0,rfl,by rw[j_];trivial⟩
      ((dY.o.below B3.o (λg hg=>(cE.o g hg).2)).C_ _ _ _ _ (by omega) (λk hk=>by have:=HS.o k hk;omega))
   ·rw[Cg k5]
    have K5:=EP k5;go_in;go_wp2_with fail;refine xa.o.mono ?_;rintro e w1 ⟨rfl,bm,b1⟩;obtain⟨aH,-,-⟩:=kY.o w1 b1;have bW:=EP bm;have fP:=EP aH;have B1:=EP b1;clear xa b1 bm aH;go_wp2_with fail;refine(TK.o.no 2 2 _ rfl (by decide) K2.o bW.o fP.o).mono ?_;rintro e Td ⟨rfl,bm,b1⟩;obtain⟨aH,-,-⟩:=kY.o Td (B1.o.trans b1);replace bW:=EP bm;replace fP:=EP aH;replace B1:=EP (B1.o.trans b1);clear b1 bm aH;go_wp2_with fail;refine(TK.o.no 5 5 _ rfl (by decide) K5.o bW.o fP.o).mono ?_;rintro e w12 ⟨rfl,bm,b1⟩;obtain⟨aH,aq,bj⟩:=kY.o w12 (B1.o.trans b1);replace bW:=EP bm;replace fP:=EP aH;have HB:=EP aq;have jk:=EP bj;clear b1 bm aH aq bj B1;go_wp2_with fail;refine(XQ.o w12 bW.o fP.o).mono ?_;rintro e w2 ⟨b2,K1,X1,Z1,A1,m1,c1,aD⟩;have aq:=HB.o.iF b2 (by unfold only;omega);obtain⟨a0,a1,a2,a3,q0,q1,q2,q3,ju⟩:=n_ aq;have cC:=EP aq;have C2:=EP (jk.o.trans b2);have h1:=jk.o.size;have T8:=HB.o.lt;have H1:=EP h1;have H1':=EP T8;clear aq b2 h1 T8;rcases aD with⟨ho,rfl⟩|⟨t,r',gY,ho,rfl,aG,hr⟩
    ·have HO:=EP ho
     clear ho;go_wp2_with fail;try simp only[Exit.inBlock,Exit.then]
     refine Ce (FC rfl _ _ w.heap.size 37 _ (0,0) _ rfl (Fh _ _ _ _ cC.o) underlying37 rfl (by kernel_rfl)) rfl ?_;exact LZ S b n w _ _ _ K1 X1 Z1 A1 m1 c1 (C2.o.C_ _ _ _ _ (BU _)) HO.o rfl
    ·have HO:=EP ho
     have cg:=EP aG;have dY:=EP hr;have td:=EP gY;clear ho aG hr gY;go_wp2_with fail;try simp only[Exit.inBlock,Exit.then]
     refine Ce (FC rfl _ _ w.heap.size 37 _ (0,0) _ rfl (Fh _ _ _ _ cC.o) underlying37 rfl (by kernel_rfl)) rfl ?_;refine Me S b n w _ _ _ K1 X1 Z1 A1 m1 c1 t r' (C2.o.C_ _ _ _ _ (BU _)) td.o HO.o rfl ?_ (dY.o.C_ _ _ _ _ (by omega) (λk hk=>by have:=HS.o k hk;omega));have h1:=H1'.o;exact(cg.o.C_ _ _ _ _ (λk hk=>by omega)).al (λg hg=>by have:=H1.o;simp;omega) (λ_ _=>rfl)
set_option maxRecDepth 100000
theorem zkz:(prog.info? 37).map (λi=>(i.zero,i.size,i.bytes))=some (some (.agg #[.int .i64 0,.string ⟨#[]⟩,.int .i64 0,.slice none 0 0]),4,56):=by kernel_rfl
def Mb:List Tok->Bool
 |[]=>false
 |t::_=>atomic t
theorem zoJ(l:List Tok)(hG:E_ l):Mb l=((hd l).kind==1 ||(hd l).kind==5 ||(hd l).kind==2||Fl l 6 [40]):=by
 cases l with
 |nil=>rfl
 |cons t r =>
  show(t.kind==1||t.kind==5||t.kind==2||t.text==[40])=(t.kind==1||t.kind==5||t.kind==2 ||(t.kind==6&&t.text==[40]));by_cases hx:t.text=[40]
  ·rw[zgL t (hG t Cs) hx];rfl
  ·rw[Cv.2 hx,Bool.and_false]
theorem zmK(S:Nat->Prop)(b:Nat)(l:List Tok)(w:World)(h:FP S w b l)(hS:∀g,S g->g<w.heap.size)(hG:E_ l)(hl:l.length<=100000):Calls prog 182 #[.pointer (some ⟨b,0,none⟩)] w λe w'=>e=.returned (.bool (Mb l))/\Below w.heap.size w w':=by
 have hN:=U8 S b l w h hl;have HA:Hid (∀w1,Below w.heap.size w w1->Calls prog 179 #[.pointer (some ⟨b,0,none⟩),.int .i64 6,.string ⟨#[40]⟩] w1 λe w'=>e=.returned (.bool (Fl l 6 [40]))/\Below w1.heap.size w1 w') :=
  EP λw1 b1=>zqe S b l 6 6 rfl ⟨#[40]⟩ w1 (h.below b1 hS) hl
 unfold Nf at hN;rw[zoJ l hG];obtain⟨m,hm⟩:∃m,(hd l).kind=m:=⟨_,rfl⟩;obtain⟨X,hX⟩:∃X:ByteArray,⟨(hd l).text.toArray⟩=X:=⟨_,rfl⟩;obtain⟨a,ha⟩:∃a,(hd l).at_=a:=⟨_,rfl⟩;obtain⟨q,hq⟩:∃q,Fl l 6 [40]=q:=⟨_,rfl⟩;rw[hm,hX,ha]at hN;rw[hq]at HA;rw[hm,hq];have gO:=zoH;clear h hS hG hl hm hX ha hq;by_cases k1:m=1
 ·subst k1
  go_in;go_wp2_with (go_at_call 202;refine hN.mono ?_;rintro e w1 ⟨rfl,b1⟩);go_ret
  exact⟨rfl,b1⟩
 ·have d1:=NS m 1 1 rfl k1
  have n1:=Cv.2 k1;by_cases k5:m=5
  ·subst k5
   go_in;go_wp2_with (go_at_call 202;refine hN.mono ?_;rintro e w1 ⟨rfl,b1⟩);go_ret
   exact⟨rfl,b1⟩
  ·have d5:=NS m 5 5 rfl k5
   have n5:=Cv.2 k5;by_cases k2:m=2
   ·subst k2
    go_in;go_wp2_with (go_at_call 202;refine hN.mono ?_;rintro e w1 ⟨rfl,b1⟩);go_ret
    exact⟨rfl,b1⟩
   ·have d2:=NS m 2 2 rfl k2
    have n2:=Cv.2 k2;rw[n1,n2,n5];clear n1 n2 n5 k1 k2 k5;go_in;go_wp2_with fail;refine hN.mono ?_;rintro e w1 ⟨rfl,b1⟩;have B1:=EP b1;clear b1;go_wp2_with fail;refine(HA.o w1 B1.o).mono ?_;rintro e w2 ⟨rfl,b2⟩;go_wp2_with fail;go_ret
    exact⟨rfl,B1.o.trans (b2.mono B1.o.size)⟩
theorem zi3 {b:Nat} {w w':World}(h:b_ (only b) w w'):w.grownBy w' (some b):=⟨h.os,h.tape,h.output,h.size,λi hi ai=>h.block i hi (λe=>ai (by rw[show i=b from e]))⟩
theorem U7 {b B:Nat} {e:TypeId} {size n:Nat} {v:Value} {xs:List Value} {w w':World}(h:w.ownsRow B e size v n xs)(hc:b_ (only b) w w')(hb:b<B):w'.ownsRow B e size v n xs :=
 h.kept (zi3 hc) (.inr (λe=>by have:=(h.lt b e).1;omega))
theorem EU.Rz {b B:Nat} {e:TypeId} {w w1 w2 w3:World} {l:List Ty} {x:Ty} {v v':Value} {vs:List Value} {k z:Int} {s:ByteArray} {A:Option Addr} {m c:Nat}
  (hb:b<B)(hB:B<=w.heap.size)(aj:w.ownsRow B e 4 v l.length vs)(aE:fs (λg=>(False\/B<=g/\g<w.heap.size)/\some g≠v.ownBlock) w l vs)
  (b1:b_ (only b) w w1)(hr:nc (λg=>w.heap.size<=g/\g<w1.heap.size) w1 x (.agg #[.int .i64 k,.string s,.int .i64 z,.slice A m c]))(b2:Below w1.heap.size w1 w2)
  (ho:w3.ownsRow B e 4 v' (l.length+1) (vs++[.int .i64 k,.string s,.int .i64 z,.slice A m c]))(hg:w2.grownBy w3 v.ownBlock)(bz:v'.ownBlock=v.ownBlock\/v'.ownBlock=some w2.heap.size):EU (λ_=>False) B e w3 (l++[x]) v':=by
 obtain⟨A',c',hv,ha⟩:=hr;injection hv with hv;have hv:=Cp Array.toList hv;simp only[DF,Value.int.injEq,Value.string.injEq,Value.slice.injEq,and_true,true_and]at hv;obtain⟨rfl,rfl,rfl,rfl,rfl,rfl⟩:=hv;have af:=aj.lt;have s1:=b1.size;have s2:=b2.size;have hk:∀g,g<w.heap.size->g≠b->w2.heap[g]?=w.heap[g]?:=λg hg ai=>(b2.block g (by omega)).trans (b1.block g hg ai);refine EU.snoc (w:=w2) (c:=c) (λ_ h=>h.elim) (by omega) (fs.al (λg h=>?_) (λg h=>?_) l vs aE) (j_.al (λg h=>?_) (λg h=>?_) x A ha) ho hg bz
 ·refine⟨?_,h.2⟩
  rcases h.1 with h1|h1
  ·exact h1.elim
  ·exact .inr ⟨h1.1,by omega⟩
 ·rcases h.1 with h1|h1
  ·exact h1.elim
  ·exact hk g h1.2 (by omega)
 ·refine⟨.inr ⟨by omega,by omega⟩,λe=>?_⟩
  have:=af _ e.symm;omega
 ·exact b2.block g (by omega)
theorem zqE(f:Nat)(l:List Tok)(h:Mb l=true)(ho:atom f l=none):args (f+1) l=none:=by
 cases l with
 |nil=>simp[Mb]at h
 |cons t r=>rw[args];rw[Mb]at h;simp only[h,Ez,ho]
theorem zoK(f:Nat)(l:List Tok)(h:Mb l=true)(x:Ty)(r:List Tok)(ho:atom f l=some (x,r)):args (f+1) l=(args f r).map λy=>(x::y.1,y.2):=by
 cases l with
 |nil=>simp[Mb]at h
 |cons t r=>rw[args];rw[Mb]at h;simp only[h,Ez,ho]
theorem zoL(f:Nat)(l:List Tok)(h:Mb l=false):args (f+1) l=some ([],l):=by
 cases l with
 |nil=>rw[args]
 |cons t r=>rw[args];rw[Mb]at h;simp only[h,Dg,D3]
def zrM(S:Nat->Prop)(b f g4:Nat)(X:ByteArray)(r0:List Tok)(w:World)(gg:Nat)(wr:World):Prop :=
 ∃l f' done v',gg=l.length/\FP S wr b l/\(∀g,S g->g≠b/\g<wr.heap.size)/\E_ l/\l.length<=r0.length/\4*l.length+3<=f'/\f'<=f/\Hid (args f r0=(args f' l).map λy=>(done++y.1,y.2))/\done.length+l.length<=r0.length /\
  EU (λ_=>False) (g4+1) 37 wr done v'/\ar wr g4 37 #[.int .i64 3,.string X,.int .i64 0,v'] /\
  ar wr w.heap.size 37 IV/\b_ (only b) w wr
theorem zro(f:Nat)(S:Nat->Prop)(b:Nat)(l:List Tok)(w:World)(h:FP S w b l)(hS:∀g,S g->g≠b/\g<w.heap.size)(hG:E_ l)(hl:l.length<=100000)(hf:4*l.length+3<=f+1)
  (IH:∀f1,f1<=f->Reads S b 181 2 atom f1):Calls prog 142 #[.pointer (some ⟨b,0,none⟩)] w (Gy S b l.length w (app (f+1) l)):=by
 have a8:=h.lt;have R0:=EP (h.alloc (.cells IV 37) (λg hg=>(hS g hg).2));have S0:Hid (∀g,S g->g≠b/\g<(w.alloc (.cells IV 37)).heap.size):=EP λg hg=>⟨(hS g hg).1,by have:=(hS g hg).2;simp;omega⟩;have kY:=EP (λ(w1:World) (c:b_ (only b) (w.alloc (.cells IV 37)) w1)=>zky a8 hS c);unfold IV at R0 S0 kY;obtain⟨m,hm⟩:∃m,(hd l).kind=m:=⟨_,rfl⟩;obtain⟨X,hX⟩:∃X:ByteArray,⟨(hd l).text.toArray⟩=X:=⟨_,rfl⟩;have jc:(hd l).text=X.data.toList:=by rw[<-hX]
 by_cases k2:m=2
 ·subst k2
  obtain⟨r0,e1,e2⟩:=R_ (by rw[hm];decide);have HO:Hid (app (f+1) l=(args f r0).map λx=>(.h_ X.data.toList x.1,x.2)):=by
   refine EP ?_;rw[e1,app,Ch hm,jc]
  rw[HO.o];have TK:=EP ((OT S b 2 _ l r0 X hl hm hX rfl e2).yes 2 _ rfl (by decide) R0.o S0.o);have hlen:l.length=r0.length+1:=by rw[e1];rfl
  have hG0:E_ r0:=λt ht=>hG t (by rw[e1];exact Cf _ ht);rw[hlen]at hl hf TK ⊢
  obtain⟨i0,bK,cj,bS,bC⟩:=Dx zkz;have pX:=EP hG0;have mg:=EP IH;have HS:=EP hS;clear HO hlen e1 e2 hm hX jc hG0 IH hG h hS;go_in;go_wp2_with fail;refine TK.o.mono ?_;rintro e w2 ⟨rfl,cD,b2,-⟩;obtain⟨aZ,aq,cH⟩:=kY.o w2 b2;have cC:=EP aq;have dY:=EP cD;have C2:=EP cH;have cE:=EP aZ;have cZ:=aq.lt;clear aq cD b2 aZ cH TK kY R0 S0;go_wp2_with fail;go_loopg [8] r0.length (λgg v wr=>zrM S b f w2.heap.size X r0 w gg wr)
  case atStart =>
   refine⟨r0,f,[],.slice none 0 0,rfl,dY.o.alloc _ (λg hg=>(cE.o g hg).2),λg hg=>by have:=cE.o g hg;simp;omega,pX.o,BU _,by omega,BU _,EP (by simp),by simp,EU.nil _ _ _ _,BZ _ _,cC.o.alloc _,C2.o.alloc _⟩
  case round =>
   obtain⟨l',f',done,v',rfl,hr,pF,wW,hle,zG,TC,FG,hdl,gi,av,aB,hc⟩:=hrel;obtain⟨f1,rfl⟩:∃f1,f'=f1+1:=⟨f'-1,by omega⟩;have Ay:=zmK S b l' wr hr (λg hg=>(pF g hg).2) wW (by omega);obtain⟨q,hq⟩:∃q,Mb l'=q:=⟨_,rfl⟩;rw[hq]at Ay;have HQ:=EP hq;obtain⟨vs,aj,aE⟩:=gi;obtain⟨A0,c0,rfl⟩:=GS aj;obtain⟨n',eX⟩:∃n',l'.length=n':=⟨_,rfl⟩;have Bh:=EP eX;rw[eX]at hle zG hdl;have HR:=EP hr;have rL:=EP pF;have By:=EP wW;have az:=EP aj;have eG:=EP aE;have bc:=EP av;have cK:=EP aB;have HC:=EP hc;have dp:=av.lt;have cI:=hr.lt;clear hq eX hr pF wW aj aE av aB hc;cases q with
   |false =>
    have cS:=EP (FG.o.trans (Cp (Option.map λy:List Ty × List Tok=>(done++y.1,y.2)) (zoL f1 l' HQ.o)));go_wp2_with fail;refine Ay.mono ?_;rintro e w3 ⟨rfl,b3⟩;have av:=bc.o.below b3 dp;have aB:=cK.o.below b3 (by omega);obtain⟨p0,p1,p2,p3,s0,s1,s2,s3,mM⟩:=n_ av;obtain⟨a0,a1,a2,a3,q0,q1,q2,q3,ku⟩:=n_ aB;have ar_:=EP av;have aae:=EP aB;have B3:=EP b3;clear av aB b3 Ay FG;go_wp2_with fail;try simp only[Exit.inBlock,Exit.then]
    refine Ce (FC rfl _ _ w.heap.size 37 _ (0,0) _ rfl (Fh _ _ _ _ aae.o) underlying37 rfl (by kernel_rfl)) rfl ?_;have gi:EU (λ_=>False) (w2.heap.size+1) 37 wr done (.slice A0 done.length c0):=⟨vs,az.o,eG.o⟩;have uR:=EU.args (t:=.h_ X.data.toList done) (gi.below (λ_ h=>h.elim) B3.o);have aA:=HC.o.size;have xY:=B3.o.size;refine Me S b (r0.length+1) w _ _ _ 3 X 0 A0 done.length c0 (.h_ X.data.toList done) l' ((HC.o.below B3.o).C_ _ _ _ _ (BU _)) (by rw[Bh.o];omega) (by rw[cS.o];simp) rfl ?_
     ((HR.o.below B3.o (λg hg=>(rL.o g hg).2)).C_ _ _ _ _ (by omega) (λk hk=>by have:=HS.o k hk;omega))
    exact nc.al (S:=λg=>w2.heap.size+1<=g/\g<w3.heap.size) (w:=w3) ⟨A0,c0,rfl,uR.2.al (λg hg=>by simpa using hg) (λ_ _=>rfl)⟩ (λg hg=>by simp;omega) (λg hg=>G3 _ _ _ _ _ _ _ (by omega))
   |true =>
    have hC:Hid (∀w3,Below wr.heap.size wr w3->Calls prog 181 #[.pointer (some ⟨b,0,none⟩)] w3 (Gy S b n' w3 (atom f1 l'))):=by
     refine EP λw3 b3=>?_;have:=mg.o f1 (by omega) w3 l' (HR.o.below b3 (λg hg=>(rL.o g hg).2)) (λg hg=>by have:=rL.o g hg;have:=b3.size;omega) By.o (by rw[Bh.o];omega) (by rw[Bh.o];omega);rwa [Bh.o]at this
    go_wp2_with fail;refine Ay.mono ?_;rintro e w3 ⟨rfl,b3⟩;have B3:=EP b3;clear b3 Ay;go_wp2_with fail;refine(hC.o w3 B3.o).mono ?_;rintro e w4 ⟨b4,K1,X1,Z1,A1,m1,c1,aD⟩;have xY:=B3.o.size;have av:=(bc.o.below B3.o dp).iF b4 (by unfold only;omega);have aB:=(cK.o.below B3.o (by omega)).iF b4 (by unfold only;omega);obtain⟨p0,p1,p2,p3,s0,s1,s2,s3,mM⟩:=n_ av;obtain⟨a0,a1,a2,a3,q0,q1,q2,q3,ku⟩:=n_ aB;have aad:=EP av;have BL:=EP aB;have B4:=EP b4;clear av aB b4 hC;rcases aD with⟨ho,rfl⟩|⟨t,r,gY,ho,rfl,aG,hr⟩
    ·have cS:=EP (FG.o.trans (Cp (Option.map λy:List Ty × List Tok=>(done++y.1,y.2)) (zqE f1 l' HQ.o ho)))
     clear ho FG;go_wp2_with fail;try simp only[Exit.inBlock,Exit.then]
     refine Ce (FC rfl _ _ w.heap.size 37 _ (0,0) _ rfl ((Fh _ _ _ _ BL.o).alloc _) underlying37 rfl (by kernel_rfl)) rfl ?_;exact LZ S b (r0.length+1) w _ _ _ 0 ⟨#[]⟩ 0 none 0 0 ((((HC.o.below B3.o).trans B4.o).C_ _ _ _ _ (BU _)).alloc _) (by rw[cS.o];rfl) rfl
    ·have cS:=EP (QB (FG.o.trans (Cp (Option.map λy:List Ty × List Tok=>(done++y.1,y.2)) (zoK f1 l' HQ.o t r ho))))
     have cg:=EP aG;have iM:=EP hr;have td:=EP gY;have nC:Hid (E_ r):=EP ((Qq f1).2.2.2 l' t r By.o ho).2.1;clear ho FG aG hr gY;have oD:=U7 (FN az.o B3.o) B4.o (by omega);have au:=EP oD.lt;have aL:=EP ((oD.alloc (.cells #[.int .i64 K1,.string X1,.int .i64 Z1,.slice A1 m1 c1] 37)).alloc (.cells #[.int .i64 K1,.string X1,.int .i64 Z1,.slice A1 m1 c1] 37));clear oD;go_wp2_with (at_builtin;refine C7 _ rfl (.tmp 35) (.tmp 37) 35 rfl (w2.heap.size+1) 37 i0 _ 4 56 underlying35 bK cj bS bC rfl (by decide) _ done.length vs rfl aL.o ⟨w4.heap.size+1,0,none⟩ 1 1 [.int .i64 K1,.string X1,.int .i64 Z1,.slice A1 m1 c1] rfl rfl (Iz _ _ _ _ (by simp)) (by intro u hu;simp at hu;rcases hu with rfl|rfl|rfl|rfl <;> rfl) (by unfold maxLen;omega) (by omega) (by have:=B4.o.size;have:=B3.o.size;simp;omega) ?_;intro v2 w5 an ae _ bF;obtain⟨A2,c2,rfl⟩:=GS an;have dZ:=EP an;have bk:=EP ae;have gu:=EP bF;clear an ae bF;have bj:=((aad.o.alloc _).alloc _).grown bk.o (λe=>by have:=au.o _ e.symm;omega);have eL:=((BL.o.alloc _).alloc _).grown bk.o (λe=>by have:=au.o _ e.symm;omega);obtain⟨y0,y1,y2,y3,z0,z1,z2,z3,wG⟩:=n_ bj;have nE:=EP bj;have r9:=EP eL;clear bj eL);go_roundg r.length
     case measure=>have:=td.o;have:=Bh.o;omega
     case rel =>
      have ary:=B4.o.size;have gY:=td.o;have hb:=EU.Rz (w:=w3) (w1:=w4) (b:=b) (by omega) (by omega) (FN az.o B3.o) (fs.al (λg hg=>⟨hg.1.elim (λh=>.inl h) (λh=>.inr ⟨h.1,by omega⟩),hg.2⟩) (λg hg=>B3.o.block g (hg.1.elim (λh=>h.elim) (λh=>h.2))) done vs eG.o) B4.o cg.o (((Cc _ w4).alloc (BU _) _).alloc (by simp) _) dZ.o bk.o gu.o;have um:w2.heap.size<w4.heap.size:=by omega
      have arv:=HC.o.size;have eI:=bk.o.size;simp at eI;have c5:b_ (only b) w w5:=((((HC.o.below B3.o).trans B4.o).alloc _).alloc _).grown bk.o (λj hj=>.inl (by have:=au.o _ hj;omega));have aM:∀k,k<w2.heap.size->w5.heap[k]?=w4.heap[k]?:=λk hk=>(bk.o.block k (by simp;omega) (λe=>by have:=au.o _ e.symm;omega)).trans ((BX _ _ _ (by simp;omega)).trans (BX _ _ _ (by omega)));refine⟨r,f1,done++[t],_,rfl,iM.o.al ((B8 _ _ _ _ (by simp;omega)).trans (aM b (by omega))) (λg hg=>(B8 _ _ _ _ (by have:=HS.o g hg;simp;omega)).trans (aM g (by have:=HS.o g hg;omega))),λg hg=>by have:=HS.o g hg;simp;omega,?_,by omega,by omega,by omega,cS,by simp;omega,
       hb.setCell _ (by simp) (λh=>h),Cl _ _ 3 _ _ _ nE.o,r9.o.I8 (by simp;omega) _,c5.setCell (.inl (by simp;omega)) _⟩
      exact nC.o
 ·have TK:=EP ((OT S b m _ l _ X hl hm hX rfl rfl).no 2 2 _ rfl (by decide) k2 R0.o S0.o)
  obtain⟨f',rfl⟩:∃f',f=f'+1:=⟨f-1,by omega⟩;have HO:Hid (app (f'+1+1) l=atom (f'+1) l):=by
   refine EP ?_;cases l with
   |nil=>rw[app,atom]
   |cons t r=>rw[app,Cg (by show ¬t.kind=2;have e:t.kind=m:=hm;omega)]
  rw[HO.o];have wX:Hid (∀w1,FP S w1 b l->(∀g,S g->g≠b/\g<w1.heap.size)->Calls prog 181 #[.pointer (some ⟨b,0,none⟩)] w1 (Gy S b l.length w1 (atom (f'+1) l))) :=
   EP λw1 hr hs=>IH (f'+1) (BU _) w1 l hr hs hG hl (by omega)
  obtain⟨n,hn⟩:∃n,l.length=n:=⟨_,rfl⟩;obtain⟨O,hO⟩:∃O,atom (f'+1) l=O:=⟨_,rfl⟩;have HS:=EP hS;rw[hn,hO]at wX;rw[hn,hO];clear h hS hG hl hf IH hm hX jc hn hO HO k2 R0 S0;go_in;go_wp2_with fail;refine TK.o.mono ?_;rintro e w1 ⟨rfl,bm,b1⟩;obtain⟨pE,aq,kX⟩:=kY.o w1 b1;have cZ:=aq.lt;have bW:=EP bm;have fP:=EP pE;have HB:=EP aq;have jk:=EP kX;clear TK b1 bm pE aq kX;go_wp2_with fail;refine(wX.o w1 bW.o fP.o).mono ?_;rintro e w2 ⟨b2,K1,X1,Z1,A1,m1,c1,aD⟩;have aq:=HB.o.iF b2 (by unfold only;omega);obtain⟨a0,a1,a2,a3,q0,q1,q2,q3,ju⟩:=n_ aq;have cC:=EP aq;have C2:=EP (jk.o.trans b2);have h1:=jk.o.size;have H1:=EP h1;clear aq b2 h1;rcases aD with⟨ho,rfl⟩|⟨t,r',gY,ho,rfl,aG,hr⟩
  ·have HO:=EP ho
   clear ho;go_wp2_with fail;try simp only[Exit.inBlock,Exit.then]
   refine Ce (FC rfl _ _ w.heap.size 37 _ (0,0) _ rfl (Fh _ _ _ _ cC.o) underlying37 rfl (by kernel_rfl)) rfl ?_;exact LZ S b n w _ _ _ K1 X1 Z1 A1 m1 c1 (C2.o.C_ _ _ _ _ (BU _)) HO.o rfl
  ·have HO:=EP ho
   have cg:=EP aG;have dY:=EP hr;have td:=EP gY;clear ho aG hr gY;go_wp2_with fail;try simp only[Exit.inBlock,Exit.then]
   refine Ce (FC rfl _ _ w.heap.size 37 _ (0,0) _ rfl (Fh _ _ _ _ cC.o) underlying37 rfl (by kernel_rfl)) rfl ?_;refine Me S b n w _ _ _ K1 X1 Z1 A1 m1 c1 t r' (C2.o.C_ _ _ _ _ (BU _)) td.o HO.o rfl ?_ (dY.o.C_ _ _ _ _ (by omega) (λk hk=>by have:=HS.o k hk;omega));have h1:=H1.o;exact(cg.o.C_ _ _ _ _ (λk hk=>by omega)).al (λg hg=>by simp;omega) (λ_ _=>rfl)
set_option maxRecDepth 100000
theorem QQ {S:Nat->Prop} {b n:Nat} {w w':World} {o:Option (Ty × List Tok)} {e:Ending}(h:Gy S b n w o e w'):b_ (only b) w w'/\∃K X Z A m c q,e=.returned (.tuple #[.agg #[.int .i64 K,.string X,.int .i64 Z,.slice A m c],.bool q])/\(q=false->o=none) /\
   (q=true->∃t r,r.length<n/\o=some (t,r)/\nc (λg=>w.heap.size<=g/\g<w'.heap.size) w' t (.agg #[.int .i64 K,.string X,.int .i64 Z,.slice A m c])/\FP S w' b r):=by
 obtain⟨h1,K,X,Z,A,m,c,h2⟩:=h;refine⟨h1,K,X,Z,A,m,c,?_⟩;rcases h2 with⟨h2,h3⟩|⟨t,r,h2,h3,h4,h5,h6⟩
 ·exact⟨false,h3,(λ_=>h2),(λh=>by cases h)⟩
 ·exact⟨true,h4,(λh=>by cases h),λ_=>⟨t,r,h2,h3,h5,h6⟩⟩
def Oo(f:Nat)(V:List (List UInt8))(l:List Tok):Option (Ty × List Tok) :=
 if V=[] then none else if Fl l 6 [46]=true then(read f l.tail).map λx=>(G5 V x.1,x.2) else none
def Mo(f:Nat)(l:List Tok):Option (Ty × List Tok):=Oo f (vars l).1 (vars l).2
theorem zoM(l:List Tok)(h:(hd l).kind=1):vars l=((hd l).text::(vars l.tail).1,(vars l.tail).2):=by
 cases l with
 |nil=>simp[hd]at h
 |cons t r=>exact(by rw[vars,Ch (show t.kind=1 from h)]:vars (t::r)=(t.text::(vars r).1,(vars r).2))
theorem zqF(l:List Tok)(h:¬(hd l).kind=1):vars l=([],l):=by
 cases l with
 |nil=>rfl
 |cons t r=>rw[vars,Cg (show ¬t.kind=1 from h)]
theorem zmL(S:Nat->Prop)(b:Nat)(l:List Tok)(w:World)(h:FP S w b l)(hS:∀g,S g->g≠b/\g<w.heap.size)(hG:E_ l)(hl:l.length<=100000):Calls prog 180 #[.pointer (some ⟨b,0,none⟩),.int .i64 1] w λe w'=>∃X q l2,e=.returned (.tuple #[.string X,.bool q])/\FP S w' b l2/\E_ l2/\l2.length+q.toNat=l.length /\
   vars l=(match q with|true=>(X.data.toList::(vars l2).1,(vars l2).2)|false=>([],l2))/\b_ (only b) w w':=by
 refine(VR S b l 1 1 rfl w h hS hl (by decide)).mono ?_;rintro e w' ⟨rfl,h2,h3⟩;refine⟨_,_,IG l 1,rfl,h2,?_,?_,?_,h3⟩
 ·unfold IG
  split
  ·exact E_.Rx hG
  ·exact hG
 ·by_cases hk:(hd l).kind=1
  ·obtain⟨r,e1,e2⟩:=R_ (by rw[hk];decide)
   rw[ED.2 hk,IG,Ch hk,e2,e1];rfl
  ·rw[Cv.2 hk,IG,Cg hk];rfl
 ·by_cases hk:(hd l).kind=1
  ·rw[ED.2 hk,IG,Ch hk,Kt,Ch hk];exact zoM l hk
  ·rw[Cv.2 hk,IG,Cg hk];exact zqF l hk
def Oe(done:List (List UInt8))(X:ByteArray)(q:Bool)(l:List Tok):List (List UInt8) × List Tok:=match q with|true=>(done++X.data.toList::(vars l).1,(vars l).2)|false=>(done,l)
def zqf(S:Nat->Prop)(b:Nat)(r0:List Tok)(w:World)(gg:Nat)(v vx vq:Value)(wr:World):Prop :=
 ∃l done X q,gg=l.length+q.toNat/\vx=.string X/\vq=.bool q/\FP S wr b l/\(∀g,S g->g≠b/\g<wr.heap.size)/\E_ l/\l.length+done.length+q.toNat<=r0.length/\Hid (vars r0=Oe done X q l) /\
  wr.ownsRow (w.heap.size+1) 9 1 v done.length (FQ done)/\ar wr w.heap.size 37 IV/\b_ (only b) w wr
def zrN(b9:Nat)(V:List (List UInt8))(o:Option Ty)(w w3:World)(gg:Nat)(vj:Value)(wr:World):Prop :=
 ∃j K X Z A m c,gg=j/\vj=.int .i64 ((j:Int)-1)/\j<=V.length/\ar wr b9 37 #[.int .i64 K,.string X,.int .i64 Z,.slice A m c]/\Below b9 w3 wr/\b9<wr.heap.size /\
  ∀t0,o=some t0->nc (λg=>w.heap.size<g/\g<wr.heap.size/\g≠b9) wr (G5 (V.drop j) t0) (.agg #[.int .i64 K,.string X,.int .i64 Z,.slice A m c])
theorem zi4:(prog.info? 9).map (λi=>(i.zero,i.size,i.bytes))=some (some (.string ⟨#[]⟩),1,16):=by kernel_rfl
theorem zmM(f:Nat)(S:Nat->Prop)(b:Nat)(l:List Tok)(w:World)(h:FP S w b l)(hS:∀g,S g->g≠b/\g<w.heap.size)(hG:E_ l)(hl:l.length<=100000)(hf:4*l.length+4<=f)
  (IH:Reads S b 95 4 read f):Calls prog 141 #[.pointer (some ⟨b,0,none⟩)] w (Gy S b l.length w (Mo f l)):=by
 have a8:=h.lt;obtain⟨i0,bK,cj,bS,bC⟩:=Dx zi4;have H:=EP h;have HS:=EP hS;have HG:=EP hG;have mg:=EP IH;obtain⟨O,hO⟩:∃O,Mo f l=O:=⟨_,rfl⟩;have HFO:=EP hO;obtain⟨L,hL⟩:∃L,l.length=L:=⟨_,rfl⟩;have HL:=EP hL;rw[hO,hL];rw[hL]at hl hf;clear h hS hG IH hO hL;go_in;go_wp2_with fail;refine(zmL S b l _ (H.o.alloc (.cells IV 37) (λg hg=>(HS.o g hg).2)) (λg hg=>by have:=HS.o g hg;simp;omega) HG.o (by rw[HL.o];exact hl)).mono ?_;rintro e w1 ⟨X1,q1,l1,rfl,bm,lX,lO,di,b1⟩;have aH:=b1.size;simp at aH;have HH:Hid (zqf S b l w L (.slice none 0 0) (.string X1) (.bool q1) w1):=EP ⟨l1,[],X1,q1,by rw[lO,HL.o],rfl,rfl,bm,λg hg=>by have:=HS.o g hg;omega,lX,by simp;omega,EP (by rw[di];cases q1 <;> rfl),CM _ _ _ _,ar.iF (BZ w _) b1 (by unfold only;omega),b1.pre⟩;clear bm lX lO di b1;go_wp2_with fail;go_loopg [4,5,6] L (λgg v vx vq wr=>zqf S b l w gg v vx vq wr)
 case atStart=>exact HH.o
 case round =>
  obtain⟨l',done,X,q,rfl,rfl,rfl,hr,pF,wW,hle,lF,aj,aB,hc⟩:=hrel;have cZ:=aB.lt;have cI:=hr.lt;obtain⟨A0,c0,rfl⟩:=GS aj;rw[HL.o]at hle;have HR:=EP hr;have rL:=EP pF;have By:=EP wW;have cK:=EP aB;have HC:=EP hc;clear hr pF wW aB hc HH;cases q with
  |true =>
   have HV:Hid (vars l=(done++X.data.toList::(vars l').1,(vars l').2)):=EP lF.o;have arW:l'.length+done.length+1<=L:=hle;have au:=EP aj.lt;have bB:=EP (aj.alloc (.cells #[.string X] 9));clear aj lF hle;go_wp2_with (at_builtin;refine C7 _ rfl (.tmp 25) (.tmp 27) 95 rfl (w.heap.size+1) 9 i0 _ 1 16 underlying95 bK cj bS bC rfl (by decide) _ done.length (FQ done) rfl bB.o ⟨wr.heap.size,0,none⟩ 1 1 [.string X] rfl rfl (Iz _ _ _ _ rfl) (by intro u hu;simp at hu;subst hu;rfl) (by unfold maxLen;omega) (by omega) (by simp;omega) ?_;intro v2 w5 an ae _ bF;obtain⟨A2,c2,rfl⟩:=GS an;have dZ:=EP an;have bk:=EP ae;have gu:=EP bF;clear an ae bF);have eI:=bk.o.size;simp at eI;have jU:Hid (∀k,k<w.heap.size+1->w5.heap[k]?=wr.heap[k]?):=EP λk hk=>(bk.o.block k (by simp;omega) (λe=>by have:=au.o _ e.symm;omega)).trans (BX _ _ _ (by omega));refine(zmL S b l' w5 (HR.o.al (jU.o b (by omega)) (λg hg=>jU.o g (by have:=HS.o g hg;omega))) (λg hg=>by have:=rL.o g hg;omega) By.o (by omega)).mono ?_;rintro e w6 ⟨X2,q2,l2,rfl,cD,hG2,oP,fg,b6⟩;have dS:=b6.size;have fw:l2.length+q2.toNat<l'.length+true.toNat:=by show _<l'.length+1;omega
   have dY:=EP cD;have xB:=EP hG2;have Bn:=EP oP;have l7:=EP fg;have B6:=EP b6;clear cD hG2 oP fg b6;go_wp2_with fail;go_roundg (l2.length+q2.toNat)
   case measure=>exact fw
   case rel =>
    have oP:=Bn.o;refine⟨l2,done++[X.data.toList],X2,q2,rfl,rfl,rfl,dY.o,λg hg=>by have:=rL.o g hg;omega,xB.o,by rw[HL.o];simp;omega,EP ?_,?_,(cK.o.same (jU.o _ (by omega))).iF B6.o (by unfold only;omega),((HC.o.alloc _).grown bk.o (λj hj=>.inl (by have:=au.o _ hj;omega))).trans B6.o⟩
    ·rw[HV.o,l7.o]
     cases q2 <;> simp[Oe]
    ·rw[Cb,show FQ (done++[X.data.toList])=FQ done++[.string X] by simp[FQ]]
     exact U7 dZ.o B6.o (by omega)
  |false =>
   have HV:Hid (vars l=(done,l')):=EP lF.o;replace hle:l'.length+done.length<=L:=by have:l'.length+done.length+false.toNat<=L:=hle;simpa using this
   have az:=EP aj;obtain⟨n,hn⟩:∃n,done.length=n:=⟨_,rfl⟩;have pT:=EP hn;rw[hn]at hle;have tf:Hid (wr.ownsRow (w.heap.size+1) 9 1 (.slice A0 n c0) n (FQ done)):=by rw[hn]at az;exact az
   have HO:Hid (O=Oo f done l'):=EP (by rw[<-HFO.o,Mo,HV.o]);clear lF hn az aj;rw[pT.o];by_cases fy:n=0
   ·subst fy
    have cS:Hid (O=none):=EP (by rw[HO.o,Oo,Ch (List.length_eq_zero_iff.1 pT.o)]);have hb:=cK.o;unfold IV at hb;obtain⟨a0,a1,a2,a3,q0,q1,q2,q3,qY⟩:=n_ hb;have bc:=EP hb;have C1:=HC;clear hb;go_wp2_with fail;try simp only[Exit.inBlock,Exit.then]
    refine Ce (FC rfl _ _ w.heap.size 37 _ (0,0) _ rfl (Fh _ _ _ _ bc.o) underlying37 rfl (by kernel_rfl)) rfl ?_;exact LZ S b L w _ _ _ 0 ⟨#[]⟩ 0 none 0 0 (C1.o.C_ _ _ _ _ (BU _)) cS.o rfl
   ·have dn:((n:Int)==0)=false:=NS n 0 0 rfl fy
    have ai:done≠[]:=λe=>fy (by rw[<-pT.o,e];rfl);obtain⟨q,hq⟩:∃q,Fl l' 6 [46]=q:=⟨_,rfl⟩;have hTK:Hid (∀w1,Below wr.heap.size wr w1->Calls prog 140 #[.pointer (some ⟨b,0,none⟩),.int .i64 6,.string ⟨#[46]⟩] w1 λe w'=>e=.returned (.bool q)/\FP S w' b (if q=true then l'.tail else l')/\b_ (only b) w1 w'):=by
     refine EP λw1 b1=>?_;have:=PE S b l' 6 6 rfl ⟨#[46]⟩ w1 (HR.o.below b1 (λg hg=>(rL.o g hg).2)) (λg hg=>by have:=rL.o g hg;have:=b1.size;omega) (by omega) (by decide);have eb:(⟨#[46]⟩:ByteArray).data.toList=[46]:=rfl;rw[eb,Kr,hq]at this
     exact this
    have HQ:=EP hq;clear hq;have bc:=cK;have C1:=HC;have cP:=tf;go_wp2_with fail;refine(hTK.o wr (Cc _ _)).mono ?_;rintro e w2 ⟨rfl,cD,b2⟩;have aZ:=b2.size;have hb:=bc.o.iF b2 (by unfold only;omega);obtain⟨a0,a1,a2,a3,q0,q1,q2,q3,ju⟩:=n_ hb;have cC:=EP hb;have C2:=EP (C1.o.trans b2);have bB:=EP (U7 cP.o b2 (by omega));have dY:=EP cD;clear hb b2 hTK cD;cases q with
    |false =>
     have cS:Hid (O=none):=EP (by rw[HO.o,Oo,Cg ai,HQ.o,Cg (by decide)]);go_wp2_with fail;try simp only[Exit.inBlock,Exit.then]
     refine Ce (FC rfl _ _ w.heap.size 37 _ (0,0) _ rfl (Fh _ _ _ _ cC.o) underlying37 rfl (by kernel_rfl)) rfl ?_;exact LZ S b L w _ _ _ 0 ⟨#[]⟩ 0 none 0 0 (C2.o.C_ _ _ _ _ (BU _)) cS.o rfl
    |true =>
     obtain⟨t0,r1,cR,-,-⟩:=Sa l' 6 [46] (by decide) HQ.o;have cS:Hid (O=(read f r1).map λx=>(G5 done x.1,x.2)):=EP (by rw[HO.o,Oo,Cg ai,HQ.o,Ch rfl,cR];rfl);have ZX:Hid (FP S w2 b r1):=EP (by have:=dY.o;rw[cR]at this;exact this);have mh:Hid (E_ r1):=EP λt ht=>By.o t (by rw[cR];exact Cf _ ht);have gz:r1.length+1+n<=L:=by
       have:l'.length=r1.length+1:=by rw[cR];rfl
       omega
     have hW:=mg.o w2 r1 ZX.o (λg hg=>by have:=rL.o g hg;omega) mh.o (by omega) (by omega);obtain⟨O1,hO1⟩:∃O1,read f r1=O1:=⟨_,rfl⟩;rw[hO1]at hW cS;obtain⟨gN,hgN⟩:∃gN,A0=some ⟨gN,0,none⟩:=by
      rcases bB.o.2 with⟨e,h0⟩|⟨g,cap,cur,e,_⟩
      ·exact absurd h0 fy
      ·injection e with e;exact⟨g,e⟩
     subst hgN;have bQ:Hid (w.heap.size+1<=gN/\gN<w2.heap.size/\∀j u,(FQ done)[j]?=some u->w2.cell? ⟨gN,j,none⟩=some u):=by
      refine EP ⟨(bB.o.lt gN rfl).1,(bB.o.lt gN rfl).2,λj u hu=>?_⟩;have aN:(⟨gN,0,none⟩:Addr).add j=⟨gN,j,none⟩:=by unfold Addr.add;split <;> simp_all
      have:=bB.o.cells (g:=gN) rfl j u hu;rwa [aN]at this
     clear cR dY hO1 bB cP tf;go_wp2_with fail;refine hW.mono ?_;intro e w3 hT;obtain⟨b3,K1,X1,Z1,A1,m1,c1,qq,rfl,bN,cw⟩:=QQ hT;have dy:=b3.size;have gF:=EP (cC.o.iF b3 (by unfold only;omega));have C3:=EP (C2.o.trans b3);have Z5:Hid (w.heap.size+1<=gN/\gN<w3.heap.size/\∀j u,(FQ done)[j]?=some u->w3.cell? ⟨gN,j,none⟩=some u):=by
      obtain⟨n1,n2,n3⟩:=bQ.o;exact EP ⟨n1,by omega,λj u hu=>(Ck (w:=w2) (a:=⟨gN,j,none⟩) (b3.block gN n2 (by unfold only;omega))).trans (n3 j u hu)⟩
     have gw:=EP bN;have fG:=EP cw;clear b3 hW hT bN cw cC C2 bQ bc C1 a0 a1 a2 a3 q0 q1 q2 q3;go_wp2_with fail;go_loopg [9] n (λgg vj wr=>zrN w3.heap.size done (O1.map (·.1)) w w3 gg vj wr)
     case atStart =>
      refine⟨n,K1,X1,Z1,A1,m1,c1,rfl,rfl,by rw[pT.o];omega,BZ _ _,(Cc _ w3).alloc (BU _) _,by simp,λt0 h=>?_⟩;cases qq with
      |false=>rw[gw.o rfl]at h;cases h
      |true =>
       obtain⟨t,r,-,ho,aG,-⟩:=fG.o rfl;rw[ho]at h;injection h with h;subst h;rw[CH (by rw[pT.o];omega)]
       exact aG.al (λg hg=>by simp at hg ⊢;omega) (λg hg=>BX _ _ _ hg.2)
     case round =>
      obtain⟨j,K,X,Z,A,mm,cc,lS,rfl,qj,cM,aI,uq,aG⟩:=hrel;rw[pT.o]at qj;have aB:=gF.o.below aI gF.o.lt;have aF:=EP aI;obtain⟨p0,p1,p2,p3,s0,s1,s2,s3,dp⟩:=n_ cM;obtain⟨a0,a1,a2,a3,r0,r1',r2,r3,kr⟩:=n_ aB;have se:=EP cM;have aaf:=EP aB;have cg:=EP aG;obtain⟨n1,n2,n3⟩:=Z5.o;have jm:=aI.size;by_cases kH:0<j
      ·have hjd:j-1<done.length:=by rw[pT.o];omega
       have e1:=n3 (j-1) _ (zkA done (j-1) hjd);rw[<-Ck (w:=w3) (w':=wr) (a:=⟨gN,j-1,none⟩) (aI.block gN n2)]at e1;obtain⟨Y,hY⟩:∃Y:ByteArray,⟨(done[j-1]).toArray⟩=Y:=⟨_,rfl⟩;rw[hY]at e1;have HY:Hid (Y=⟨(done.getD (j-1) []).toArray⟩):=EP (by rw[<-hY,Du,BY hjd];rfl);have qm:gN<wr.heap.size:=by omega
       clear cM aB aG aI hY n3;go_wp2_with fail;go_region
       all_goals
        go_wp2_with fail;go_roundg (j-1)
        case measure=>omega
        case rel =>
         refine⟨j-1,5,Y,0,some ⟨wr.heap.size,0,none⟩,1,1,rfl,by rw[show((j-1:Nat):Int)=(j:Int)-1 by omega],by rw[pT.o];omega,((Fh _ _ _ _ se.o).alloc _).drew,((GH aF.o _ _ _ _ (BU _)).alloc (by simp;omega) _).drew,by simp;omega,λt0 h=>?_⟩;rw[VE done (j-1) t0 (by rw[pT.o];omega),show j-1+1=j by omega];refine VF (w:=wr) HY.o (cg.o t0 h) (λg hg=>?_) (λg hg=>?_) ?_ ?_
         ·have:=hg.2.1
          exact⟨hg.1,by simp;omega,hg.2.2⟩
         ·exact(BX _ _ _ (by simp;exact hg.2.1)).trans (G3 _ _ _ _ _ _ _ hg.2.2)
         ·exact⟨by omega,by simp,by omega⟩
         ·intro d u hu
          have:=Iz ((((wr.setCell ⟨w3.heap.size,0,none⟩ (.int .i64 5)).setCell ⟨w3.heap.size,1,none⟩ (.string Y)).setCell ⟨w3.heap.size,2,none⟩ (.int .i64 0)).setCell ⟨w3.heap.size,3,none⟩ (.slice (some ⟨wr.heap.size,0,none⟩) 1 1)) #[.int .i64 K,.string X,.int .i64 Z,.slice A mm cc] 37 wr.heap.size (by simp) d u hu;have aN:(⟨wr.heap.size,0,none⟩:Addr).add d=⟨wr.heap.size,d,none⟩:=by unfold Addr.add;split <;> simp_all
          rw[aN]at this;exact this
      ·obtain rfl:j=0:=by omega
       clear cM aB aG aI n3;go_wp2_with fail;try simp only[Exit.inBlock,Exit.then]
       refine Ce (FC rfl _ _ w.heap.size 37 _ (0,0) _ rfl (Fh _ _ _ _ aaf.o) underlying37 rfl (by kernel_rfl)) rfl ?_;have hc:b_ (only b) w wr:=C3.o.Jz aF.o (by omega);cases qq with
       |false=>exact LZ S b L w _ _ _ K X Z A mm cc (hc.C_ _ _ _ _ (BU _)) (by rw[cS.o,gw.o rfl];rfl) rfl
       |true =>
        obtain⟨t,r,gY,ho,-,qP⟩:=fG.o rfl;have aG:=cg.o t (by rw[ho];rfl);rw[DR]at aG;refine Me S b L w _ _ _ K X Z A mm cc (G5 done t) r (hc.C_ _ _ _ _ (BU _)) (by omega) (by rw[cS.o,ho];rfl) rfl ?_ ?_
        ·exact(aG.C_ _ _ _ _ (λk hk=>by omega)).al (λg hg=>by simp;omega) (λ_ _=>rfl)
        ·exact(qP.al (aF.o.block b (by omega)) (λg hg=>aF.o.block g (by have:=HS.o g hg;omega))).C_ _ _ _ _ (by omega) (λk hk=>by have:=HS.o k hk;omega)
end
section
open Go.RowKit Lx Tx
def arrow(f:Nat):Option (Ty × List Tok)->Option (Ty × List Tok)
 |none=>none
 |some x=>if Fl x.2 6 [45,62]=true then(read f x.2.tail).map λy=>(.fn x.1 y.1,y.2) else some x
theorem zoN(f:Nat)(O:Option (Ty × List Tok))(h:O=none):arrow f O=none:=by rw[h,arrow]
theorem zhP(f:Nat)(O:Option (Ty × List Tok))(t:Ty)(r:List Tok)(h:O=some (t,r)):arrow f O=if Fl r 6 [45,62]=true then(read f r.tail).map λy=>(.fn t y.1,y.2) else some (t,r):=by rw[h,arrow]
theorem zmN(k:Nat)(X:List UInt8)(l:List Tok)(hk:k≠0):Ht (λt=>t.kind==k&&t.text==X) l=if Fl l k X=true then some l.tail else none:=by
 cases l with
 |nil=>rw[Ht,Cg];simp[Fl,hd];intro e;exact absurd e.symm hk
 |cons t r=>exact(by rw[Ht]:Ht (λt=>t.kind==k&&t.text==X) (t::r)=if(t.kind==k&&t.text==X)=true then some r else none)
theorem zoO(l:List Tok):Ht (isKey · ub) l=if Fl l 3 ub=true then some l.tail else none:=zmN 3 ub l (by decide)
theorem zhQ(X:List UInt8)(l:List Tok):Ht (Ft · X) l=if Fl l 6 X=true then some l.tail else none:=zmN 6 X l (by decide)
theorem zqG(f:Nat)(l:List Tok):read (f+1) l=if Fl l 3 ub=true then Mo f l.tail else arrow f (app f l):=by
 rw[Tx.read,zoO];by_cases h:Fl l 3 ub=true
 ·rw[Ch h,Ch h]
  show(if(vars l.tail).1=[] then none else match Ht (Ft · [46]) (vars l.tail).2 with|none=>none|some r2=>(read f r2).map λx:Ty × List Tok=>(G5 (vars l.tail).1 x.1,x.2))=Oo f (vars l.tail).1 (vars l.tail).2;unfold Oo;rw[zhQ];by_cases hv:(vars l.tail).1=[]
  ·rw[Ch hv,Ch hv]
  ·rw[Cg hv,Cg hv]
   by_cases hq:Fl (vars l.tail).2 6 [46]=true
   ·rw[Ch hq,Ch hq]
   ·rw[Cg hq,Cg hq]
 ·rw[Cg h,Cg h]
  show(match app f l with|none=>none|some (a,r)=>match Ht (Ft · [45,62]) r with|none=>some (a,r)|some r2=>(read f r2).map λx:Ty × List Tok=>(.fn a x.1,x.2))=_;cases app f l with
  |none=>rfl
  |some x =>
   obtain⟨a,r⟩:=x;rw[arrow];show(match Ht (Ft · [45,62]) r with|none=>some (a,r)|some r2=>(read f r2).map λx:Ty × List Tok=>(.fn a x.1,x.2))=_;rw[zhQ];by_cases hq:Fl r 6 [45,62]=true
   ·rw[Ch hq,Ch hq]
   ·rw[Cg hq,Cg hq]
theorem zlq {f:Nat} {O O2:Option (Ty × List Tok)} {t:Ty} {r:List Tok}(h:O=some (t,r))(hq:Fl r 6 [45,62]=true)(hr:read f r.tail=O2):arrow f O=O2.map λy=>(.fn t y.1,y.2):=by
 rw[zhP f O t r h,Ch hq,hr]
theorem zoP(w w4 W:World)(t u:Ty)(S1 S2:Nat->Prop)(K1 K2 Z1 Z2:Int)(X1 X2:ByteArray)(A1 A2:Option Addr)(m1 m2 c1 c2:Nat)(hw:w.heap.size<w4.heap.size)
  (h1:nc S1 w4 t (.agg #[.int .i64 K1,.string X1,.int .i64 Z1,.slice A1 m1 c1]))(h2:nc S2 w4 u (.agg #[.int .i64 K2,.string X2,.int .i64 Z2,.slice A2 m2 c2]))
  (k1:∀g,S1 g->w.heap.size<g/\g<w4.heap.size)(k2:∀g,S2 g->w.heap.size<g/\g<w4.heap.size)
  (aA:W.heap.size=w4.heap.size+2)(key:∀k,k<w4.heap.size->k≠w.heap.size->W.heap[k]?=w4.heap[k]?)
  (hc:∀j v,[Value.int .i64 K1,.string X1,.int .i64 Z1,.slice A1 m1 c1,.int .i64 K2,.string X2,.int .i64 Z2,.slice A2 m2 c2][j]?=some v->W.cell? ((⟨w4.heap.size+1,0,none⟩:Addr).add j)=some v):nc (λg=>w.heap.size<=g/\g<W.heap.size) W (.fn t u) (.agg #[.int .i64 4,.string ⟨#[]⟩,.int .i64 0,.slice (some ⟨w4.heap.size+1,0,none⟩) 2 2]):=by
 rw[aA];refine zi6 (S:=λg=>w.heap.size<=g/\g<w4.heap.size+2) (h1.al (λg hg=>?_) (λg hg=>?_)) (h2.al (λg hg=>?_) (λg hg=>?_)) ⟨by omega,by omega⟩ (λj v hj=>?_)
 ·have:=k1 g hg;exact⟨by omega,by omega⟩
 ·have:=k1 g hg;exact key g (by omega) (by omega)
 ·have:=k2 g hg;exact⟨by omega,by omega⟩
 ·have:=k2 g hg;exact key g (by omega) (by omega)
 ·rw[<-Q_];exact hc j v hj
theorem zoQ(f:Nat)(S:Nat->Prop)(b:Nat)(l:List Tok)(w:World)(h:FP S w b l)(hS:∀g,S g->g≠b/\g<w.heap.size)(hG:E_ l)(hl:l.length<=100000)(hf:4*l.length+4<=f+1)
  (rH:Reads S b 95 4 read f)(AK:Reads S b 142 3 app f):Calls prog 95 #[.pointer (some ⟨b,0,none⟩)] w (Gy S b l.length w (read (f+1) l)):=by
 have a8:=h.lt;have hT:=PE S b l 3 3 rfl ⟨#[102,111,114,97,108,108]⟩ (w.alloc (.cells IV 37)) (h.alloc _ (λg hg=>(hS g hg).2)) (λg hg=>⟨(hS g hg).1,by have:=(hS g hg).2;simp;omega⟩) hl (by decide);unfold IV at hT;have eb:(⟨#[102,111,114,97,108,108]⟩:ByteArray).data.toList=ub:=rfl;rw[eb]at hT;rw[zqG];unfold Kr at hT;obtain⟨q,hq⟩:∃q,Fl l 3 ub=q:=⟨_,rfl⟩;rw[hq]at hT ⊢;have HS:=EP hS;have HG:=EP hG;have HR:=EP rH;have HA:=EP AK;clear eb h hS hG rH AK;cases q with
 |true =>
  obtain⟨t0,r0,rfl,-,-⟩:=Sa _ _ _ (by decide) hq;simp only[Ez,List.tail_cons]at hT ⊢;rw[Ca]at hl hf ⊢;obtain⟨n,hn⟩:∃n,r0.length=n:=⟨_,rfl⟩;have HN:=EP hn;rw[hn]at hl hf ⊢;obtain⟨O,hO⟩:∃O,Mo f r0=O:=⟨_,rfl⟩;have HF:Hid (∀w1,FP S w1 b r0->(∀g,S g->g≠b/\g<w1.heap.size)->Calls prog 141 #[.pointer (some ⟨b,0,none⟩)] w1 (Gy S b n w1 O)):=by
   refine EP λw1 hr hs=>?_;have:=zmM f S b r0 w1 hr hs (E_.tail HG.o) (by omega) (by omega) HR.o;rwa [hO,hn]at this
  rw[hO];clear hq hn hO hf;go_in;go_wp2_with fail;refine hT.mono ?_;rintro e w1 ⟨rfl,r1,b1⟩;have aH:=b1.size;simp at aH;have bc:=EP (ar.iF (BZ w (.cells IV 37)) b1 (by unfold only;omega));have bW:=EP r1;have C1:=EP b1.pre;clear hT b1 r1;go_wp2_with fail;refine(HF.o w1 bW.o (λg hg=>by have:=HS.o g hg;omega)).mono ?_;intro e w2 hP;obtain⟨b2,K1,X1,Z1,A1,m1,c1,qq,rfl,bN,cw⟩:=QQ hP;have aq:=bc.o.iF b2 (by unfold only;omega);unfold IV at aq;obtain⟨a0,a1,a2,a3,q0,q1,q2,q3,ju⟩:=n_ aq;have cC:=EP aq;have C2:=EP (C1.o.trans b2);have gw:=EP bN;have fG:=EP cw;clear aq b2 hP bN cw;go_wp2_with fail;try simp only[Exit.inBlock,Exit.then]
  refine Ce (FC rfl _ _ w.heap.size 37 _ (0,0) _ rfl (Fh _ _ _ _ cC.o) underlying37 rfl (by kernel_rfl)) rfl ?_;cases qq with
  |false=>exact LZ S b (n+1) w _ _ _ K1 X1 Z1 A1 m1 c1 (C2.o.C_ _ _ _ _ (BU _)) (gw.o rfl) rfl
  |true =>
   obtain⟨t,r,gY,ho,aG,qP⟩:=fG.o rfl;refine Me S b (n+1) w _ _ _ K1 X1 Z1 A1 m1 c1 t r (C2.o.C_ _ _ _ _ (BU _)) (by omega) ho rfl ?_ (qP.C_ _ _ _ _ (by omega) (λk hk=>by have:=HS.o k hk;omega));exact(aG.C_ _ _ _ _ (λk hk=>by omega)).al (λg hg=>by simp;omega) (λ_ _=>rfl)
 |false =>
  simp only[Dg,D3]at hT ⊢;obtain⟨n,hn⟩:∃n,l.length=n:=⟨_,rfl⟩;have HN:=EP hn;rw[hn]at hl hf ⊢;obtain⟨O,hO⟩:∃O,app f l=O:=⟨_,rfl⟩;have HP:Hid (∀w1,FP S w1 b l->(∀g,S g->g≠b/\g<w1.heap.size)->Calls prog 142 #[.pointer (some ⟨b,0,none⟩)] w1 (Gy S b n w1 O)):=by
   refine EP λw1 hr hs=>?_;have:=HA.o w1 l hr hs HG.o (by omega) (by omega);rwa [hO,hn]at this
  have HGA:Hid (∀t r,O=some (t,r)->E_ r):=EP λt r h=>((Qq f).2.1 l t r HG.o (hO.trans h)).2.1;obtain⟨R,hR⟩:∃R,arrow f O=R:=⟨_,rfl⟩;have rM:=EP hR;rw[hO,hR]
  clear hq hn hO hR;go_in;go_wp2_with fail;refine hT.mono ?_;rintro e w1 ⟨rfl,r1,b1⟩;have aH:=b1.size;simp at aH;have bc:=EP (ar.iF (BZ w (.cells IV 37)) b1 (by unfold only;omega));have bW:=EP r1;have C1:=EP b1.pre;clear hT b1 r1;go_wp2_with fail;refine(HP.o w1 bW.o (λg hg=>by have:=HS.o g hg;omega)).mono ?_;intro e w2 hP;obtain⟨b2,K1,X1,Z1,A1,m1,c1,qq,rfl,bN,cw⟩:=QQ hP;have aZ:=b2.size;have aq:=bc.o.iF b2 (by unfold only;omega);unfold IV at aq;obtain⟨a0,a1,a2,a3,q0,q1,q2,q3,ju⟩:=n_ aq;have cC:=EP aq;have C2:=EP (C1.o.trans b2);have gw:=EP bN;have fG:=EP cw;clear aq b2 hP bN cw HP;cases qq with
  |false =>
   have HO:=EP (rM.o.symm.trans (zoN f O (gw.o rfl)));go_wp2_with fail;try simp only[Exit.inBlock,Exit.then]
   refine Ce (FC rfl _ _ w.heap.size 37 _ (0,0) _ rfl ((Fh _ _ _ _ cC.o).alloc _) underlying37 rfl (by kernel_rfl)) rfl ?_;exact LZ S b n w _ _ _ K1 X1 Z1 A1 m1 c1 ((C2.o.C_ _ _ _ _ (BU _)).alloc _) HO.o rfl
  |true =>
   obtain⟨t,r,gY,ho,aG,qP⟩:=fG.o rfl;obtain⟨q',fx⟩:∃q',Fl r 6 [45,62]=q':=⟨_,rfl⟩;have Yo:=EP fx;have HO:=EP ho;have cg:=EP aG;have cI:=qP.lt;have cE:Hid (∀g,S g->g≠b/\g<w2.heap.size):=EP λg hg=>by have:=HS.o g hg;omega
   have nR:Hid (Calls prog 140 #[.pointer (some ⟨b,0,none⟩),.int .i64 6,.string ⟨#[45,62]⟩] (w2.alloc (.cells #[.int .i64 K1,.string X1,.int .i64 Z1,.slice A1 m1 c1] 37)) λe w'=>e=.returned (.bool q')/\FP S w' b (if q'=true then r.tail else r)/\b_ (only b) (w2.alloc (.cells #[.int .i64 K1,.string X1,.int .i64 Z1,.slice A1 m1 c1] 37)) w'):=by
    have:=PE S b r 6 6 rfl ⟨#[45,62]⟩ (w2.alloc (.cells #[.int .i64 K1,.string X1,.int .i64 Z1,.slice A1 m1 c1] 37)) (qP.alloc _ (λg hg=>(cE.o g hg).2)) (λg hg=>by have:=cE.o g hg;simp;omega) (by omega) (by decide);have eb:(⟨#[45,62]⟩:ByteArray).data.toList=[45,62]:=rfl;rw[eb,Kr,fx]at this;exact EP this
   clear fx ho aG qP;go_wp2_with fail;refine nR.o.mono ?_;rintro e w3 ⟨rfl,r3,b3⟩;have dy:=b3.size;simp at dy;have HF3:=EP (ar.iF (BZ w2 (.cells #[.int .i64 K1,.string X1,.int .i64 Z1,.slice A1 m1 c1] 37)) b3 (by unfold only;omega));have aq:=(cC.o.alloc _).iF b3 (by unfold only;omega);have gF:=EP aq;have C3:=EP ((C2.o.alloc _).trans b3);have nA:=EP r3;have rO:Hid (nc (λg=>w1.heap.size<=g/\g<w2.heap.size) w3 t (.agg #[.int .i64 K1,.string X1,.int .i64 Z1,.slice A1 m1 c1])) :=
    EP (cg.o.al (λ_ h=>h) (λg hg=>(b3.block g (by simp;omega) (by unfold only;omega)).trans (BX _ _ _ hg.2)))
   clear b3 r3 aq nR;cases q' with
   |false =>
    have cS:=EP (rM.o.symm.trans ((zhP f O t r HO.o).trans (by rw[Yo.o,Cg (by decide)])));obtain⟨p0,p1,p2,p3,s0,s1,s2,s3,dp⟩:=n_ HF3.o;obtain⟨a0,a1,a2,a3,q0,q1,q2,q3,kr⟩:=n_ gF.o;go_wp2_with fail;try simp only[Exit.inBlock,Exit.then]
    refine Ce (FC rfl _ _ w.heap.size 37 _ (0,0) _ rfl (Fh _ _ _ _ gF.o) underlying37 rfl (by kernel_rfl)) rfl ?_;have gZ:=nA.o;rw[Cg (by decide)]at gZ;refine Me S b n w _ _ _ K1 X1 Z1 A1 m1 c1 t r (C3.o.C_ _ _ _ _ (BU _)) gY cS.o rfl ?_ (gZ.C_ _ _ _ _ (by omega) (λk hk=>by have:=HS.o k hk;omega));exact(rO.o.C_ _ _ _ _ (λk hk=>by omega)).al (λg hg=>by simp;omega) (λ_ _=>rfl)
   |true =>
    obtain⟨t1,r1,bm,-,-⟩:=Sa r 6 [45,62] (by decide) Yo.o;obtain⟨O2,uW⟩:∃O2,read f r1=O2:=⟨_,rfl⟩;have cS:Hid (R=O2.map λy=>(.fn t y.1,y.2)):=EP (rM.o.symm.trans (zlq HO.o Yo.o (by rw[bm];exact uW)));have gZ:FP S w3 b r1:=by have:=nA.o;rw[Ch rfl,bm]at this;exact this
    have gz:r1.length+1<n:=by
      have:r.length=r1.length+1:=by rw[bm];rfl
      omega
    have lX:E_ r1:=λt ht=>HGA.o _ r HO.o t (by rw[bm];exact Cf _ ht);have hW:=HR.o w3 r1 gZ (λg hg=>by have:=cE.o g hg;omega) lX (by omega) (by omega);rw[uW]at hW
    clear bm uW gZ lX nA;go_wp2_with fail;refine hW.mono ?_;intro e w4 hP;obtain⟨b4,K2,X2,Z2,A2,m2,c2,q4,rfl,bN,cw⟩:=QQ hP;have dz:=b4.size;have hf4:=HF3.o.iF b4 (by unfold only;omega);have aq:=gF.o.iF b4 (by unfold only;omega);obtain⟨p0,p1,p2,p3,s0,s1,s2,s3,dp⟩:=n_ hf4;obtain⟨a0,a1,a2,a3,q0,q1,q2,q3,Zb⟩:=n_ aq;have nF:=EP aq;have C4:=EP (C3.o.trans b4);have Z0:=EP bN;have AL:=EP cw;have ZV:Hid (nc (λg=>w1.heap.size<=g/\g<w2.heap.size) w4 t (.agg #[.int .i64 K1,.string X1,.int .i64 Z1,.slice A1 m1 c1])) :=
     EP (rO.o.al (λ_ h=>h) (λg hg=>b4.block g (by omega) (by unfold only;omega)))
    clear hf4 aq b4 bN cw hP hW;go_wp2_with fail;try simp only[Exit.inBlock,Exit.then]
    refine Ce (FC rfl _ _ w.heap.size 37 _ (0,0) _ rfl (((Fh _ _ _ _ nF.o).alloc _).alloc _) underlying37 rfl (by kernel_rfl)) rfl ?_;have c4:b_ (only b) w _:=((C4.o.C_ (g:=w.heap.size) (.int .i64 4) (.string ⟨#[]⟩) (.int .i64 0) (.slice (some ⟨w4.heap.size+1,0,none⟩) 2 2) (BU _)).alloc (.cells #[.int .i64 K2,.string X2,.int .i64 Z2,.slice A2 m2 c2] 37)).alloc (.cells #[.int .i64 K1,.string X1,.int .i64 Z1,.slice A1 m1 c1,.int .i64 K2,.string X2,.int .i64 Z2,.slice A2 m2 c2] 37);cases q4 with
    |false=>exact LZ S b n w _ _ _ 4 ⟨#[]⟩ 0 (some ⟨w4.heap.size+1,0,none⟩) 2 2 c4 (by rw[cS.o,Z0.o rfl];rfl) rfl
    |true =>
     obtain⟨u,r2,arE,Ts,iA,yh⟩:=AL.o rfl;refine Me S b n w _ _ _ 4 ⟨#[]⟩ 0 (some ⟨w4.heap.size+1,0,none⟩) 2 2 (.fn t u) r2 c4 (by omega) (by rw[cS.o,Ts];rfl) rfl ?_ ?_
     ·exact zoP w w4 _ t u _ _ K1 K2 Z1 Z2 X1 X2 A1 A2 m1 m2 c1 c2 Zb ZV.o iA (λg hg=>by omega) (λg hg=>by omega) (by simp)
       (λk hk ai=>(BX _ _ _ (by simp;omega)).trans ((BX _ _ _ (by simp;omega)).trans (G3 _ _ _ _ _ _ _ ai))) (λj v hj=>Iz _ _ _ _ (by simp) j v hj)
     ·have aV:=yh.lt
      have hS4:∀g,S g->g<w4.heap.size:=λg hg=>by have:=HS.o g hg;omega
      exact((yh.C_ _ _ _ _ (by omega) (λk hk=>by have:=HS.o k hk;omega)).alloc _ (λg hg=>by have:=hS4 g hg;simp;omega)).alloc _ (λg hg=>by have:=hS4 g hg;simp;omega)
theorem zrp(S:Nat->Prop)(b:Nat)(f:Nat):∀f1,f1<=f ->
  Reads S b 95 4 read f1/\Reads S b 142 3 app f1/\Reads S b 181 2 atom f1:=by
 induction f with
 |zero =>
  intro f1 h;exact⟨λw l _ _ _ _ h2=>by omega,λw l _ _ _ _ h2=>by omega,λw l _ _ _ _ h2=>by omega⟩
 |succ f ih =>
  intro f1 h1;by_cases h:f1<=f
  ·exact ih f1 h
  ·obtain rfl:f1=f+1:=by omega
   have i0:=ih f (BU _);exact⟨λw l hr hS hG hl hf=>zoQ f S b l w hr hS hG hl hf i0.1 i0.2.1,λw l hr hS hG hl hf=>zro f S b l w hr hS hG hl hf (λf1 h=>(ih f1 h).2.2),λw l hr hS hG hl hf=>zqD f S b l w hr hS hG hl hf i0.1⟩
def MA(w:World)(o:Option (Ty × List Tok))(e:Ending)(w':World):Prop :=
 Below w.heap.size w w'/\∃K X Z A m c v q,e=.returned (.tuple #[.agg #[.int .i64 K,.string X,.int .i64 Z,.slice A m c],v,.bool q])/\(q=false->o=none/\v=.slice none 0 0) /\
  (q=true->∃t r A2 c2,o=some (t,r)/\v=.slice A2 r.length c2/\nc (λg=>w.heap.size<=g/\g<w'.heap.size) w' t (.agg #[.int .i64 K,.string X,.int .i64 Z,.slice A m c]))
theorem zf5 {P:Program} {fn:Func} {p u z:Tmp} {ty:TypeId}(h:fn.results=#[.cell p ty,.tmp u,.tmp z])(tmps:Array Value)(w:World)(g:Nat)(t:TypeId)(cs:Array Value)(fr:Nat × Nat)(d:TypeDesc)
  (hp:tmps.getD p undef=.pointer (some ⟨g,0,none⟩))(hg:w.heap[g]?=some (.cells cs t fr))
  (hu:P.underlying ty=some d)(hd:(match d with|.struct _|.array _ _=>true|_=>false)=true)(hi:(P.info? ty).map (·.size)=some cs.size):(results fn tmps).run P w=.ok (.tuple #[.agg cs,tmps.getD u undef,tmps.getD z undef]) w:=by
 have bY:tmps[p]?.getD undef=.pointer (some ⟨g,0,none⟩):=by simpa using hp
 simp[results,h,bY,asAddr,run_loadVar_row w g t ty cs fr d hg hu hd hi]
theorem heap_drew(w:World):w.drew.heap=w.heap:=rfl
theorem SX(w:World)(g:Nat)(b0 b1 b2 b3:Value):((((w.setCell ⟨g,0,none⟩ b0).setCell ⟨g,1,none⟩ b1).setCell ⟨g,2,none⟩ b2).setCell ⟨g,3,none⟩ b3).heap.size=w.heap.size:=by simp
theorem GJ.YU {w:World} {v:Value} {l:List Tok}(h:GJ w v l)(hc:∃A c,v=.slice A l.length c/\l.length<=c):Jt (λg=>g<w.heap.size) w v l:=by
 obtain⟨A,c,rfl,W6⟩:=hc;obtain⟨A',c',hv,hp⟩:=h;injection hv with e1 e2 e3;subst e1 e3;refine⟨A,c,rfl,W6,λh0=>?_⟩;obtain⟨g,hA,hg,ay⟩:=hp h0;exact⟨g,0,hA,hg,λj u hu=>by rw[Dm];exact ay j u hu⟩
theorem zqH(l:List Tok)(v:Value)(w:World)(h:Jt (λg=>g<w.heap.size) w v l)(hG:E_ l)(hl:l.length<=100000):Calls prog 51 #[v] w (MA w (read (FH l) l)):=by
 have HV:=EP h;obtain⟨O,hO⟩:∃O,read (FH l) l=O:=⟨_,rfl⟩;have hW:=λw1 hr hs=>(zrp (λg=>g<w.heap.size) (w.heap.size+1) (FH l) (FH l) (BU _)).1 w1 l hr hs hG hl (by unfold FH;omega);rw[hO]at hW ⊢
 have HW:=EP hW;clear h hG hl hO hW;obtain⟨A,c,rfl,W6,_⟩:=HV.o;obtain⟨n,hn⟩:∃n,l.length=n:=⟨_,rfl⟩;rw[hn]at HV HW ⊢;clear W6 hn;have HR:Hid (FP (λg=>g<w.heap.size) ((w.alloc (.cells IV 37)).alloc (.cells #[.slice A n c] 171)) (w.heap.size+1) l):=by
  refine EP ⟨_,?_,HV.o.al (λg hg=>?_)⟩
  ·have:=BZ (w.alloc (.cells IV 37)) (.cells #[.slice A n c] 171)
   rw[show(w.alloc (.cells IV 37)).heap.size=w.heap.size+1 by simp]at this;exact this
  ·exact(BX _ _ _ (by simp;omega)).trans (BX _ _ _ hg)
 unfold IV at HR;go_in;go_wp2_with fail;refine(HW.o _ HR.o (λg hg=>by simp;omega)).mono ?_;intro e w1 hP;obtain⟨b1,K1,X1,Z1,A1,m1,c1,q,rfl,bN,cw⟩:=QQ hP;have aH:=b1.size;simp at aH;have aq:=ar.iF (ar.alloc (BZ w (.cells IV 37)) (.cells #[.slice A n c] 171)) b1 (by unfold only;omega);unfold IV at aq;obtain⟨a0,a1,a2,a3,q0,q1,q2,q3,cZ⟩:=n_ aq;have iu:=EP aq;have C1:=EP b1;have gw:=EP bN;have fG:=EP cw;clear aq b1 bN cw hP;cases q with
 |false =>
  go_wp2_with fail;try simp only[Exit.inBlock,Exit.then]
  refine Ce (zf5 rfl _ _ w.heap.size 37 _ (0,0) _ rfl (Fh _ _ _ _ (Fh _ _ _ _ iu.o)) underlying37 rfl (by kernel_rfl)) rfl ?_;have hb:Below w.heap.size w w1:=(((b_.refl (only (w.heap.size+1)) w).alloc _).alloc _ |>.trans C1.o).toBelow (BU _) (λk hk=>by unfold only;omega);exact⟨GH (GH hb _ _ _ _ (BU _)) _ _ _ _ (BU _),0,⟨#[]⟩,0,none,0,0,.slice none 0 0,false,rfl,λ_=>⟨gw.o (by first|rfl|trivial),rfl⟩,(λh=>by cases h)⟩
 |true =>
  obtain⟨t,r,gY,ho,aG,qP⟩:=fG.o rfl;obtain⟨v2,di,fg⟩:=qP;obtain⟨A2,c2,rfl,-,-⟩:=fg;have f0:=di.cell 0;have cg:Hid (nc (λg=>w.heap.size<g/\g<w1.heap.size) w1 t (.agg #[.int .i64 K1,.string X1,.int .i64 Z1,.slice A1 m1 c1])):=EP (aG.al (λg hg=>by simp at hg;omega) (λ_ _=>rfl));have HO:=EP ho;obtain⟨rn,ov⟩:∃rn,r.length=rn:=⟨_,rfl⟩;have Ba:=EP ov;rw[ov]at f0;replace f0:w1.cell? ⟨w.heap.size+1,0,none⟩=some (.slice A2 rn c2):=f0;clear di gY ho aG ov;go_wp2_with fail;go_region
  all_goals
   go_wp2_with fail;try simp only[Exit.inBlock,Exit.then]
   refine Ce (zf5 rfl _ _ w.heap.size 37 _ (0,0) _ rfl (Fh _ _ _ _ (Fh _ _ _ _ iu.o)).drew underlying37 rfl (by kernel_rfl)) rfl ?_;have hb:Below w.heap.size w w1:=(((b_.refl (only (w.heap.size+1)) w).alloc _).alloc _ |>.trans C1.o).toBelow (BU _) (λk hk=>by unfold only;omega);refine⟨(GH (GH hb _ _ _ _ (BU _)) _ _ _ _ (BU _)).drew,K1,X1,Z1,A1,m1,c1,.slice A2 rn c2,true,rfl,(λh=>by cases h),λ_=>⟨t,r,A2,c2,HO.o,by rw[Ba.o],?_⟩⟩;refine cg.o.al (λg hg=>?_) (λg hg=>?_)
   ·refine⟨Nat.le_of_lt hg.1,?_⟩
    rw[heap_drew,SX,SX];exact hg.2
   ·have ai:g≠w.heap.size:=Nat.ne_of_gt hg.1
    rw[heap_drew,G3 _ _ _ _ _ _ _ ai,G3 _ _ _ _ _ _ _ ai]
end
end Go.Proofs.YtfafilmklhnngaaGreatDoor
