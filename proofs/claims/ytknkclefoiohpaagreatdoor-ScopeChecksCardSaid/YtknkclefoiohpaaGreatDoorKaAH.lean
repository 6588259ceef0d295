import Derived.Test.YtknkclefoiohpaaGreatDoorKaAG
import Derived.Test.YtknkclefoiohpaaGreatDoorKaW
import Derived.Deep.MidRow
set_option maxHeartbeats 12800000
namespace Go.Proofs.YtknkclefoiohpaaGreatDoor
open Go.RowKit Lx Tx Sx Go.Shelf
set_option maxRecDepth 100000
theorem zhS {α:Type}(p:α->Bool)(l:List α)(i:Nat)(x:α)(h:l[i]?=some x):(l.take (i+1)).any p=((l.take i).any p||p x):=by
 rw[uL,h]
 simp
theorem LstG.row {α:Type} {P:Pc α} {S:Nat->Prop} {w:World} {l:List α} {A:Option Addr}(h:LstG P S w l A)(i:Nat)(x:α)(hx:l[i]?=some x):∃g cs,A=some ⟨g,0,none⟩/\S g/\P.Cs S w x cs/\w.rangeAt g (i*P.n) cs:=by
 obtain⟨hi,rfl⟩:=uj.1 hx;obtain⟨g,h1,h2,h3⟩:=h (by intro e;rw[e]at hi;simp at hi);obtain⟨cs,h4,h6⟩:=AtG.at_ l g 0 i hi h3;exact⟨g,cs,h1,h2,h4,by rw[uJ]at h6;exact h6⟩
theorem zlE(l:List (Nm × Ty))(S:Nat->Prop)(F:Nat)(pr:Nm × Ty->Bool)(A:Option Addr)(m d:Nat)(w:World)(ek:∀args w,(callFunc F args).run Tryz.prog w=.ok (.enter F args) w)(hl:LstG pcC S w l A)(hm:m=l.length)(hS:∀g,S g->g<w.heap.size)(hn:l.length<=100000)
  (HV:∀x∈l,∀cs W,pcC.Cs S W x cs->(∀g,S g->g<W.heap.size)->Calls Tryz.prog F #[.agg cs.toArray] W λe w'=>e=.returned (.bool (pr x))/\Below W.heap.size W w'):Calls Tryz.prog 129 #[.slice A m d,.func (.func F) #[] #[]] w λe w'=>∃r:Int,e=.returned (.int .i64 r)/\decide (0<=r)=l.any pr/\Below w.heap.size w w':=by
 subst hm;obtain⟨n,ib⟩:∃n,l.length=n:=⟨_,rfl⟩;rw[ib]at hn ⊢
 have HN:=wJ ib;have HL:=wJ hl;have HS:=wJ hS;have iq:=wJ HV;clear hl hS HV ib;go_enter Tryz.func129,Tryz.ntmps129
 go_wp2_with fail
 go_loopg [8] n (λgg vi wr=>∃i:Nat,gg=n-i/\vi=.int .i64 (i:Nat)/\i<=n/\Hid (Below w.heap.size w wr)/\Hid ((l.take i).any pr=false))
 case atStart=>exact⟨0,rfl,rfl,by omega,wJ (ua _ _),wJ (by simp)⟩
 case round =>
  obtain⟨i,oy,rfl,hi,hB,hA⟩:=hrel;have dw:=hB.out.size;by_cases ah:i<n
  ·obtain⟨x,hx⟩:∃x,l[i]?=some x:=⟨_,ug (by rw[HN.out];exact ah)⟩
   obtain⟨g,cs,rfl,bh,au,ao⟩:=HL.out.row i x hx;have dy:∀k,S k->wr.heap[k]?=w.heap[k]?:=λk hk=>hB.out.block k (HS.out k hk);have av:Hid (wr.rangeAt g (i*5) cs):=wJ (Lie.keep (w:=w) ao (dy g bh));have aV:g<wr.heap.size:=by have:=HS.out g bh;omega
   have ak:=wJ (iq.out x (vd.2 ⟨i,hx⟩) cs wr (pcC.keep (λ_ h=>h) dy au) (λk hk=>by have:=HS.out k hk;omega));have hlen:=pcC.len au;have fc:Hid ((Tryz.prog.info? 61).map (·.size)=some cs.length):=wJ (by rw[hlen];kernel_rfl);have kV:=wJ (zhS pr l i x hx);obtain⟨q,hq⟩:∃q,pr x=q:=⟨_,rfl⟩;rw[hq]at ak kV
   have p4:=wJ (vd.2 ⟨i,hx⟩);have HQ:=wJ hq;clear hx bh au ao dy hlen hq;go_wp2_with ((with_reducible refine wpList_load_mid ?_ 61 (.tmp 14) ?_ g (i*5) ?_ cs _ av.out Tryz.underlying61 ?_ fc.out ?_);(exact rfl);(exact rfl);(exact rfl);(exact rfl))
   refine ak.out.mono ?_;rintro e w2 ⟨rfl,b2⟩;have B2:=wJ (hB.out.trans (b2.mono (by omega)));clear b2 ak;cases q with
   |true =>
    have jX:Hid (l.any pr=true):=wJ (wB.2 ⟨x,p4.out,HQ.out⟩);go_wp2_with fail
    go_ret
    refine⟨(i:Int),rfl,?_,B2.out⟩;rw[jX.out]
    simp
   |false =>
    have HA3:Hid ((l.take (i+1)).any pr=false):=wJ (by rw[kV.out,hA.out];rfl);go_wp2_with fail
    go_roundg (n-(i+1))
    case measure=>omega
    case rel=>exact⟨i+1,rfl,by go_num,by omega,B2,HA3⟩
  ·obtain rfl:i=n:=by omega
   have jX:Hid (l.any pr=false):=wJ (by
    have:=hA.out;rwa [ur (by rw[HN.out];exact tV _)]at this)
   clear ah;go_wp2_with fail
   go_ret
   exact⟨-1,rfl,by rw[jX.out];decide,hB.out⟩
set_option maxRecDepth 100000
theorem zlF(l:List De)(S:Nat->Prop)(F:Nat)(pr:De->Bool)(A:Option Addr)(m d:Nat)(w:World)(ek:∀args w,(callFunc F args).run Tryz.prog w=.ok (.enter F args) w)(hl:LstG pcD S w l A)(hm:m=l.length)(hS:∀g,S g->g<w.heap.size)(hn:l.length<=100000)
  (HV:∀x∈l,∀cs W,pcD.Cs S W x cs->(∀g,S g->g<W.heap.size)->Calls Tryz.prog F #[.agg cs.toArray] W λe w'=>e=.returned (.bool (pr x))/\Below W.heap.size W w'):Calls Tryz.prog 76 #[.slice A m d,.func (.func F) #[] #[]] w λe w'=>∃r:Int,e=.returned (.int .i64 r)/\decide (0<=r)=l.any pr/\Below w.heap.size w w':=by
 subst hm;obtain⟨n,ib⟩:∃n,l.length=n:=⟨_,rfl⟩;rw[ib]at hn ⊢
 have HN:=wJ ib;have HL:=wJ hl;have HS:=wJ hS;have iq:=wJ HV;clear hl hS HV ib;go_enter Tryz.func76,Tryz.ntmps76
 go_wp2_with fail
 go_loopg [8] n (λgg vi wr=>∃i:Nat,gg=n-i/\vi=.int .i64 (i:Nat)/\i<=n/\Hid (Below w.heap.size w wr)/\Hid ((l.take i).any pr=false))
 case atStart=>exact⟨0,rfl,rfl,by omega,wJ (ua _ _),wJ (by simp)⟩
 case round =>
  obtain⟨i,oy,rfl,hi,hB,hA⟩:=hrel;have dw:=hB.out.size;by_cases ah:i<n
  ·obtain⟨x,hx⟩:∃x,l[i]?=some x:=⟨_,ug (by rw[HN.out];exact ah)⟩
   obtain⟨g,cs,rfl,bh,au,ao⟩:=HL.out.row i x hx;have dy:∀k,S k->wr.heap[k]?=w.heap[k]?:=λk hk=>hB.out.block k (HS.out k hk);have av:Hid (wr.rangeAt g (i*17) cs):=wJ (Lie.keep (w:=w) ao (dy g bh));have aV:g<wr.heap.size:=by have:=HS.out g bh;omega
   have ak:=wJ (iq.out x (vd.2 ⟨i,hx⟩) cs wr (pcD.keep (λ_ h=>h) dy au) (λk hk=>by have:=HS.out k hk;omega));have hlen:=pcD.len au;have fc:Hid ((Tryz.prog.info? 59).map (·.size)=some cs.length):=wJ (by rw[hlen];kernel_rfl);have kV:=wJ (zhS pr l i x hx);obtain⟨q,hq⟩:∃q,pr x=q:=⟨_,rfl⟩;rw[hq]at ak kV
   have p4:=wJ (vd.2 ⟨i,hx⟩);have HQ:=wJ hq;clear hx bh au ao dy hlen hq;go_wp2_with ((with_reducible refine wpList_load_mid ?_ 59 (.tmp 14) ?_ g (i*17) ?_ cs _ av.out Tryz.underlying59 ?_ fc.out ?_);(exact rfl);(exact rfl);(exact rfl);(exact rfl))
   refine ak.out.mono ?_;rintro e w2 ⟨rfl,b2⟩;have B2:=wJ (hB.out.trans (b2.mono (by omega)));clear b2 ak;cases q with
   |true =>
    have jX:Hid (l.any pr=true):=wJ (wB.2 ⟨x,p4.out,HQ.out⟩);go_wp2_with fail
    go_ret
    refine⟨(i:Int),rfl,?_,B2.out⟩;rw[jX.out]
    simp
   |false =>
    have HA3:Hid ((l.take (i+1)).any pr=false):=wJ (by rw[kV.out,hA.out];rfl);go_wp2_with fail
    go_roundg (n-(i+1))
    case measure=>omega
    case rel=>exact⟨i+1,rfl,by go_num,by omega,B2,HA3⟩
  ·obtain rfl:i=n:=by omega
   have jX:Hid (l.any pr=false):=wJ (by
    have:=hA.out;rwa [ur (by rw[HN.out];exact tV _)]at this)
   clear ah;go_wp2_with fail
   go_ret
   exact⟨-1,rfl,by rw[jX.out];decide,hB.out⟩
theorem zer(l:List (Nm × Ty))(S:Nat->Prop)(F:Nat)(pr:(Nm × Ty)->Bool)(A:Option Addr)(m d:Nat)(w:World)(ek:∀args w,(callFunc F args).run Tryz.prog w=.ok (.enter F args) w)(hl:LstG pcC S w l A)(hm:m=l.length)(hS:∀g,S g->g<w.heap.size)(hn:l.length<=100000)
  (HV:∀x∈l,∀cs W,pcC.Cs S W x cs->(∀g,S g->g<W.heap.size)->Calls Tryz.prog F #[.agg cs.toArray] W λe w'=>e=.returned (.bool (pr x))/\Below W.heap.size W w'):Calls Tryz.prog 78 #[.slice A m d,.func (.func F) #[] #[]] w λe w'=>e=.returned (.bool (l.any pr))/\Below w.heap.size w w':=by
 have HI:=wJ (zlE l S F pr A m d w ek hl hm hS hn HV);obtain⟨q,hq⟩:∃q,l.any pr=q:=⟨_,rfl⟩;rw[hq]at HI ⊢
 clear hl hm hS hn HV hq ek;go_enter Tryz.func78,Tryz.ntmps78
 go_wp2_with fail
 refine HI.out.mono ?_;rintro e w2 ⟨r,rfl,hr,b2⟩;have B2:=wJ b2;clear b2 HI;cases q with
 |true =>
  have h0:(0:Int)<=r:=vg hr;clear hr;go_wp2_with fail
  go_ret
  exact⟨by first|rfl|simp[h0],B2.out⟩
 |false =>
  have h0:¬(0:Int)<=r:=vh hr;clear hr;go_wp2_with fail
  go_ret
  exact⟨by first|rfl|simp[h0],B2.out⟩
theorem zes(l:List De)(S:Nat->Prop)(F:Nat)(pr:De->Bool)(A:Option Addr)(m d:Nat)(w:World)(ek:∀args w,(callFunc F args).run Tryz.prog w=.ok (.enter F args) w)(hl:LstG pcD S w l A)(hm:m=l.length)(hS:∀g,S g->g<w.heap.size)(hn:l.length<=100000)
  (HV:∀x∈l,∀cs W,pcD.Cs S W x cs->(∀g,S g->g<W.heap.size)->Calls Tryz.prog F #[.agg cs.toArray] W λe w'=>e=.returned (.bool (pr x))/\Below W.heap.size W w'):Calls Tryz.prog 30 #[.slice A m d,.func (.func F) #[] #[]] w λe w'=>e=.returned (.bool (l.any pr))/\Below w.heap.size w w':=by
 have HI:=wJ (zlF l S F pr A m d w ek hl hm hS hn HV);obtain⟨q,hq⟩:∃q,l.any pr=q:=⟨_,rfl⟩;rw[hq]at HI ⊢
 clear hl hm hS hn HV hq ek;go_enter Tryz.func30,Tryz.ntmps30
 go_wp2_with fail
 refine HI.out.mono ?_;rintro e w2 ⟨r,rfl,hr,b2⟩;have B2:=wJ b2;clear b2 HI;cases q with
 |true =>
  have h0:(0:Int)<=r:=vg hr;clear hr;go_wp2_with fail
  go_ret
  exact⟨by first|rfl|simp[h0],B2.out⟩
 |false =>
  have h0:¬(0:Int)<=r:=vh hr;clear hr;go_wp2_with fail
  go_ret
  exact⟨by first|rfl|simp[h0],B2.out⟩
set_option maxRecDepth 100000
theorem zjX(c:Nm × Ty)(S:Nat->Prop)(cs:List Value)(w:World)(hc:pcC.Cs S w c cs)(hS:∀g,S g->g<w.heap.size)(aG:c.2.size<=1000000):Calls Tryz.prog 79 #[.agg cs.toArray] w λe w'=>e=.returned (.bool (decide (50<c.2.depth)))/\Below w.heap.size w w':=by
 obtain⟨A,a,rfl,hA⟩:=hc;obtain⟨X0,hX0⟩:∃X:ByteArray,⟨c.1.toArray⟩=X:=⟨_,rfl⟩;have oG:=λ(W:World) (hW:Below w.heap.size w W)=>zb3 (some c.2) S (kd c.2:Nat) (nmB c.2) (nn c.2:Nat) A (kids c.2).length a W (by simpa[tyW] using aG) (show RdV S W c.2 _ from⟨A,a,rfl,Args.keep (λ_ h=>h) (λg hg=>hW.block g (hS g hg)) _ _ hA⟩) (λg hg=>by have:=hS g hg;have:=hW.size;omega);unfold tyV Sx.strV;rw[hX0]
 obtain⟨K,hK⟩:∃y:Int,(kd c.2:Nat)=y:=⟨_,rfl⟩;obtain⟨X,hX⟩:∃y,nmB c.2=y:=⟨_,rfl⟩;obtain⟨Z,hZ⟩:∃y:Int,(nn c.2:Nat)=y:=⟨_,rfl⟩;obtain⟨m,hm⟩:∃y,(kids c.2).length=y:=⟨_,rfl⟩;obtain⟨q,hq⟩:∃q,zbo (some c.2)=q:=⟨_,rfl⟩;rw[hK,hX,hZ,hm,hq]at oG
 rw[hK,hX,hZ,hm,show decide (50<c.2.depth)=q from hq]
 have oG:=oG (w.alloc (.cells #[.string X0,.int .i64 K,.string X,.int .i64 Z,.slice A m a] 61)) ((ua _ w).alloc (tV _) _);have HT:=wJ oG;clear oG hK hX hZ hm hq hA hS aG hX0;go_enter Tryz.func79,Tryz.ntmps79
 go_wp2_with fail
 refine HT.out.mono ?_;rintro e w2 ⟨rfl,b2⟩;have B2:=wJ (((ua w.heap.size w).alloc (tV _) (.cells #[.string X0,.int .i64 K,.string X,.int .i64 Z,.slice A m a] 61)).trans (b2.mono (by simp)));clear b2 HT;go_wp2_with fail
 go_ret
 exact⟨rfl,B2.out⟩
theorem zc3(k0:Int)(s:ByteArray)(V:Option Addr)(vm vq:Nat)(G:Option Addr)(gm gq:Nat)(K0:Int)(X0:ByteArray)(Z0:Int)(B0:Option Addr)(m0 q0:Nat)(k:Int)(x:ByteArray)(t:Bool)(K:Int)(X:ByteArray)(Z:Int)(B:Option Addr)(m q:Nat)(KA:Option Addr)(kn kc:Nat)(LA:Option Addr)(ln lc:Nat)(q1 q2 q3:Bool)(w:World)
  (HT:∀W,Below w.heap.size w W->Calls Tryz.prog 77 #[.agg #[.int .i64 K0,.string X0,.int .i64 Z0,.slice B0 m0 q0]] W λe w'=>e=.returned (.bool q1)/\Below W.heap.size W w')
  (HE:∀W,Below w.heap.size w W->Calls Tryz.prog 43 #[.agg #[.int .i64 k,.string x,.bool t,.int .i64 K,.string X,.int .i64 Z,.slice B m q,.slice KA kn kc,.slice LA ln lc]] W λe w'=>e=.returned (.bool q2)/\Below W.heap.size W w')
  (HC:∀W,Below w.heap.size w W->Calls Tryz.prog 78 #[.slice G gm gq,.func (.func 79) #[] #[]] W λe w'=>e=.returned (.bool q3)/\Below W.heap.size W w'):Calls Tryz.prog 31 #[.agg #[.int .i64 k0,.string s,.slice V vm vq,.slice G gm gq,.int .i64 K0,.string X0,.int .i64 Z0,.slice B0 m0 q0,.int .i64 k,.string x,.bool t,.int .i64 K,.string X,.int .i64 Z,.slice B m q,.slice KA kn kc,.slice LA ln lc]] w λe w'=>e=.returned (.bool (q1 ||(q2||q3)))/\Below w.heap.size w w':=by
 obtain⟨W0,ai⟩:∃W,w.alloc (.cells #[.int .i64 k0,.string s,.slice V vm vq,.slice G gm gq,.int .i64 K0,.string X0,.int .i64 Z0,.slice B0 m0 q0,.int .i64 k,.string x,.bool t,.int .i64 K,.string X,.int .i64 Z,.slice B m q,.slice KA kn kc,.slice LA ln lc] 59)=W:=⟨_,rfl⟩;have aK:Below w.heap.size w W0:=ai▸(ua _ w).alloc (tV _) _;have az:Blk W0 w.heap.size 59 #[.int .i64 k0,.string s,.slice V vm vq,.slice G gm gq,.int .i64 K0,.string X0,.int .i64 Z0,.slice B0 m0 q0,.int .i64 k,.string x,.bool t,.int .i64 K,.string X,.int .i64 Z,.slice B m q,.slice KA kn kc,.slice LA ln lc]:=ai▸tW _ _;have bc:=wJ az;have bT:=wJ aK;have H1:=wJ (HT W0 aK);have HHE:=wJ HE;have HHC:=wJ HC;obtain⟨⟨g0,g1,g2,g3,g4,g5,g6,g7,g8,g9,g10,g11,g12,g13,g14,g15,g16⟩,-,bB⟩:=zay az;subst ai;clear aK az HT HE HC g0 g1 g2 g3 g4 g5 g6 g7 g8 g9 g10 g11 g12 g13 g14 g15 g16 bB;go_enter Tryz.func31,Tryz.ntmps31
 go_wp2_with fail
 refine H1.out.mono ?_;rintro e w1 ⟨rfl,b1⟩;have aJ:=wJ (bT.out.trans (b1.mono bT.out.size));have bc:=wJ (bc.out.below b1 bc.out.lt);clear b1 H1;cases q1 with
 |true =>
  go_wp2_with fail
  go_ret
  exact⟨rfl,aJ.out⟩
 |false =>
  obtain⟨⟨g0,g1,g2,g3,g4,g5,g6,g7,g8,g9,g10,g11,g12,g13,g14,g15,g16⟩,-,bB⟩:=zay bc.out;have H2:=wJ (HHE.out w1 aJ.out);go_wp2_with fail
  refine H2.out.mono ?_;rintro e w2 ⟨rfl,b2⟩;have ar:=wJ (aJ.out.trans (b2.mono aJ.out.size));have bc:=wJ (bc.out.below b2 bc.out.lt);clear b2 H2 g0 g1 g2 g3 g4 g5 g6 g7 g8 g9 g10 g11 g12 g13 g14 g15 g16 bB;cases q2 with
  |true =>
   go_wp2_with fail
   go_ret
   exact⟨rfl,ar.out⟩
  |false =>
   obtain⟨⟨g0,g1,g2,g3,g4,g5,g6,g7,g8,g9,g10,g11,g12,g13,g14,g15,g16⟩,-,bB⟩:=zay bc.out;have H3:=wJ (HHC.out w2 ar.out);go_wp2_with fail
   refine H3.out.mono ?_;rintro e w3 ⟨rfl,b3⟩;have bU:=wJ (ar.out.trans (b3.mono ar.out.size));clear b3 H3;go_wp2_with fail
   go_ret
   exact⟨rfl,bU.out⟩
theorem zgr(l:List (Nm × Ty))(c:Nm × Ty)(h:c∈l):c.2.size<=za2 l:=by
 induction l with
 |nil=>cases h
 |cons a r ih =>
  rcases uT.1 h with rfl|h
  ·simp only[za2,conW];omega
  ·have:=ih h;simp only[za2];omega
theorem zgs(l:List (Nm × Ty)):l.length<=za2 l:=by
 induction l with
 |nil=>simp[za2]
 |cons a r ih=>simp only[za2,conW,ui];omega
theorem zis(d:De)(S:Nat->Prop)(cs:List Value)(w:World)(hc:pcD.Cs S w d cs)(hS:∀g,S g->g<w.heap.size)(hw:d.wt<=4000):Calls Tryz.prog 31 #[.agg cs.toArray] w λe w'=>e=.returned (.bool d.tooDeep)/\Below w.heap.size w w':=by
 have ek:∀args w,(callFunc 79 args).run Tryz.prog w=.ok (.enter 79 args) w:=enters_of Tryz.func79 (by kernel_rfl) rfl;have jk:∀W,Below w.heap.size w W->∀g,S g->g<W.heap.size:=λW hW g hg=>by have:=hS g hg;have:=hW.size;omega
 have iW:∀W:World,Calls Tryz.prog 77 #[.agg #[.int .i64 0,.string ⟨#[]⟩,.int .i64 0,.slice none 0 0]] W λe w'=>e=.returned (.bool false)/\Below W.heap.size W w':=λW =>
  zb3 none (λ_=>False) 0 ⟨#[]⟩ 0 none 0 0 W (by simp[tyW]) rfl (λ_ h=>h.elim)
 have hC0:∀W:World,Calls Tryz.prog 78 #[.slice none 0 0,.func (.func 79) #[] #[]] W λe w'=>e=.returned (.bool false)/\Below W.heap.size W w':=λW =>
  zer [] (λ_=>False) 79 (λc=>decide (50<c.2.depth)) none 0 0 W ek (λh=>absurd rfl h) rfl (λ_ h=>h.elim) (by simp) (λx h=>by cases h)
 cases d with
 |data n ps l =>
  obtain⟨V,v,A,a,rfl,-,hl⟩:=hc;have hwl:za2 l<=4000:=by simp only[De.wt]at hw;omega
  have:=zc3 1 ⟨n.toArray⟩ V ps.length v A l.length a 0 ⟨#[]⟩ 0 none 0 0 0 ⟨#[]⟩ false 0 ⟨#[]⟩ 0 none 0 0 none 0 0 none 0 0 false false (l.any λc=>decide (50<c.2.depth)) w (λW _=>iW W) (λW _=>zdt W)
   (λW hW=>zer l S _ (λc=>decide (50<c.2.depth)) A l.length a W ek (hl.keep (λ_ h=>h) (λg hg=>hW.block g (hS g hg))) rfl (jk W hW) (by have:=zgs l;omega)
    (λx hx cs W2 hc kE=>zjX x S cs W2 hc kE (by have:=zgr l x hx;omega)))
  exact this
 |sig x t =>
  obtain⟨A,a,rfl,hA⟩:=hc;have:=zc3 2 ⟨x.toArray⟩ none 0 0 none 0 0 (kd t:Nat) (nmB t) (nn t:Nat) A (kids t).length a 0 ⟨#[]⟩ false 0 ⟨#[]⟩ 0 none 0 0 none 0 0 none 0 0 (decide (50<t.depth)) false false w
   (λW hW=>zb3 (some t) S (kd t:Nat) (nmB t) (nn t:Nat) A (kids t).length a W (by simp only[De.wt]at hw;simp only[tyW];omega) (show RdV S W t _ from⟨A,a,rfl,Args.keep (λ_ h=>h) (λg hg=>hW.block g (hS g hg)) _ _ hA⟩) (jk W hW)) (λW _=>zdt W) (λW _=>hC0 W)
  rw[show(decide (50<t.depth) ||(false||false))=(De.sig x t).tooDeep by simp[De.tooDeep]]at this
  exact this
 |bind x e =>
  obtain⟨P,rfl,h2,h3⟩:=hc;have hX:∀W,Below w.heap.size w W->RdX S W e (.agg (exC e P).toArray):=λW hW=>⟨P,rfl,h2.keep (λ_ h=>h) (λg hg=>hW.block g (hS g hg)),ExIn.keep (λ_ h=>h) (λg hg=>hW.block g (hS g hg)) e _ _ h3⟩;obtain⟨K,X,Z,B,m,q,hs⟩:=zaT (tyE e) P.A P.a;have hL:exC e P=[.int .i64 (kdE e:Nat),.string ⟨(nmE e).toArray⟩,.bool (toE e),.int .i64 K,.string X,.int .i64 Z,.slice B m q,.slice P.K (zac e).length ((zac e).length+P.k),.slice P.L (zad e).length P.l]:=by rw[exC,hs];rfl
  rw[hL]at hX ⊢
  have:=zc3 3 ⟨x.toArray⟩ none 0 0 none 0 0 0 ⟨#[]⟩ 0 none 0 0 (kdE e:Nat) ⟨(nmE e).toArray⟩ (toE e) K X Z B m q P.K (zac e).length ((zac e).length+P.k) P.L (zad e).length P.l false e.tooDeep false w (λW _=>iW W)
   (λW hW=>zfB e S _ W (by have:=Sx.size_wt e;simp only[De.wt]at hw;omega) (by simp only[De.wt]at hw;omega) (hX W hW) (jk W hW)) (λW _=>hC0 W)
  rw[show(false ||(e.tooDeep||false))=(De.bind x e).tooDeep by simp[De.tooDeep]]at this
  exact this
end Go.Proofs.YtknkclefoiohpaaGreatDoor
namespace Go.Proofs.YtknkclefoiohpaaGreatDoor
open Go.RowKit Lx Tx Sx Go.Shelf
set_option maxRecDepth 100000
def endP(o:Option (List De × List Tok)):Except Nat (List De):=match o with|some (e,[])=>.ok e|_=>.error 80
def zbq(s:List UInt8):Except Nat (List De):=match zaX s with|(ts,_,0)=>endP (rdProg ts)|(_,_,e)=>.error e
def znN(o:Except Nat (List De)):Except Nat (List De):=match o with|.ok l=>if l.any De.tooDeep=true then .error 3 else .ok l|.error n=>.error n
theorem zgt(s:List UInt8):zbe s=znN (zbq s):=by
 unfold zbe zbq znN;rcases zaX s with⟨ts,a,er⟩;cases er with
 |zero =>
  simp only[endP];rcases rdProg ts with _|⟨e,r⟩
  ·rfl
  ·cases r <;> rfl
 |succ n=>rfl
theorem zit(s:List UInt8)(ts:List Tok)(a er:Nat)(h:zaX s=(ts,a,er))(he:er≠0):zbq s=.error er:=by
 unfold zbq;rw[h]
 cases er with
 |zero=>exact absurd rfl he
 |succ n=>rfl
theorem zjY(s:List UInt8)(ts:List Tok)(a:Nat)(h:zaX s=(ts,a,0)):zbq s=endP (rdProg ts):=by
 unfold zbq;rw[h]
 rfl
def WhP(s:List UInt8)(w:World)(e:Ending)(w':World):Prop :=
 Below w.heap.size w w' /\
  ((∃n,n≠0/\zbq s=.error n/\e=.returned (.tuple #[.slice none 0 0,.int .i64 (n:Nat)])) \/
   (∃p L m d,(∀x∈p,De.Ok x)/\desW p<=4000/\zbq s=.ok p/\e=.returned (.tuple #[.slice L m d,.int .i64 0])/\m=p.length/\LstG pcD (λg=>w.heap.size<=g/\g<w'.heap.size) w' p L))
theorem zlG(s:ByteArray)(gf:Nat)(w:World)(hs:s.size<=maxLen)(hc:w.cell? ⟨gf,0,none⟩=some (.func (.func 29) #[] #[])):Calls Tryz.prog 27 #[.string s,.func (.func 73) #[] #[.pointer (some ⟨gf,0,none⟩)],.int .i64 80] w (WhP s.data.toList w):=by
 have ek:∀args w,(callFunc 73 args).run Tryz.prog w=.ok (.enter 73 args) w:=enters_of Tryz.func73 (by kernel_rfl) rfl;have aV:=zaj hc;have HC:Hid (∀V,Below w.heap.size w V->V.cell? ⟨gf,0,none⟩=some (.func (.func 29) #[] #[])):=wJ λV hV =>
  (uV (w:=w) (a:=⟨gf,0,none⟩) (hV.block gf aV)).trans hc
 clear hc;go_enter Tryz.func27,Tryz.ntmps27
 go_wp2_with fail
 refine(zgT s _ hs).mono ?_;rintro e w1 ⟨b1,v,ts,a,er,ix,rfl,ae⟩;have bj:=b1.size;have l7:=wJ ix;have oR:=wJ (zeT rfl ae);have pG:=HC.out w1 b1;have B1:=wJ b1;by_cases he:er=0
 ·subst he
  obtain⟨hG,hL⟩:=zev _ _ _ l7.out;have HR:=wJ (zlB _ gf ts v w1 oR.out (λ_ h=>h) hG (by omega) pG);obtain⟨O,hO⟩:∃O,rdProg ts=O:=⟨_,rfl⟩;rw[hO]at HR
  have HP:Hid (zbq s.data.toList=endP O):=wJ (by rw[zjY _ _ _ l7.out,hO]);have tg:Hid (∀x r,O=some (x,r)->(∀d∈x,De.Ok d)/\desW x<=4000):=wJ λx r h=>by
   obtain⟨o1,-,o3⟩:=zel hG (hO.trans h);exact⟨o1,by omega⟩
  clear hO hG b1 ix ae pG;go_wp2_with fail
  refine HR.out.mono ?_;rintro e w2 ⟨b2,L,m,d,A2,n,c2,q,rfl,bk,bG⟩;have bo:=b2.size;have BW:=wJ (B1.out.trans (b2.mono (by omega)));have bP:=wJ bk;have aO:=wJ bG;clear b2 bk bG HR;cases q with
  |false =>
   have gK:Hid (zbq s.data.toList=.error 80):=wJ (by rw[HP.out,bP.out rfl];rfl);clear bP aO;go_wp2_with fail
   go_ret2
   exact⟨BW.out,.inl ⟨80,by decide,gK.out,rfl⟩⟩
  |true =>
   obtain⟨x,r,ho,hn,hm,hx⟩:=aO.out rfl;replace hn:=hn.symm;obtain⟨ay,du⟩:=tg.out x r ho;have HX:=wJ hx;have gb:=wJ ay;have HM:=wJ hm;clear bP aO hx ay hm;by_cases eW:n=0
   ·subst eW
    obtain rfl:r=[]:=vw.1 hn;have gK:Hid (zbq s.data.toList=.ok x):=wJ (by rw[HP.out,ho];rfl);clear hn ho;go_wp2_with fail
    go_ret2
    exact⟨BW.out,.inr ⟨x,L,m,d,gb.out,du,gK.out,rfl,HM.out,HX.out.keep (λg hg=>⟨by omega,hg.2⟩) (λ_ _=>rfl)⟩⟩
   ·have gK:Hid (zbq s.data.toList=.error 80):=wJ (by
     rw[HP.out,ho]
     cases r with
     |nil=>exact absurd hn.symm eW
     |cons a r=>rfl)
    have rN:0<n:=by omega
    clear hn ho eW;go_wp2_with fail
    go_ret2
    exact⟨BW.out,.inl ⟨80,by decide,gK.out,rfl⟩⟩
 ·have HP:=wJ (zit _ _ _ _ l7.out he)
  have dn:((er:Int) != 0)=true:=neqT _ _ (by omega);have HE:=wJ he;clear he b1 ix ae pG;go_wp2_with fail
  go_ret2
  exact⟨B1.out,.inl ⟨er,HE.out,HP.out,rfl⟩⟩
theorem zpG(w:World):Calls Tryz.prog 28 #[.func (.func 29) #[] #[]] w λe w' =>
  e=.returned (.func (.func 73) #[] #[.pointer (some ⟨w.heap.size,0,none⟩)])/\w'=w.alloc (.cells #[.func (.func 29) #[] #[]] 71):=by
 have mk:∀(W:World) (p:Addr),(Instr.makeFunc (.func 73) #[] #[.pointer (some p)]).run Tryz.prog W=.ok (.func (.func 73) #[] #[.pointer (some p)]) W:=λ_ _=>rfl;go_enter Tryz.func28,Tryz.ntmps28
 go_wp2_with fail
 go_ret
 exact⟨rfl,rfl⟩
def QPost(s:List UInt8)(w:World)(e:Ending)(w':World):Prop :=
 Below w.heap.size w w' /\
  ((∃n,n≠0/\zbe s=.error n/\e=.returned (.tuple #[.slice none 0 0,.int .i64 (n:Nat)])) \/
   (∃p L m d,(∀x∈p,De.Ok x)/\desW p<=4000/\zbe s=.ok p/\e=.returned (.tuple #[.slice L m d,.int .i64 0])/\m=p.length/\LstG pcD (λg=>w.heap.size<=g/\g<w'.heap.size) w' p L))
theorem zc4(l:List De)(d:De)(h:d∈l):d.wt<=desW l:=by
 induction l with
 |nil=>cases h
 |cons a r ih =>
  rcases uT.1 h with rfl|h
  ·simp only[desW];omega
  ·have:=ih h;simp only[desW];omega
theorem znq(l:List De):l.length<=desW l:=by
 induction l with
 |nil=>simp[desW]
 |cons a r ih=>cases a <;> simp only[desW,De.wt,ui] <;> omega
theorem zhT(s:ByteArray)(w:World)(hs:s.size<=maxLen):Calls Tryz.prog 8 #[.string s] w (QPost s.data.toList w):=by
 have ek:∀args w,(callFunc 31 args).run Tryz.prog w=.ok (.enter 31 args) w:=enters_of Tryz.func31 (by kernel_rfl) rfl;obtain⟨W0,ai⟩:∃W,w.alloc (.cells #[.func (.func 29) #[] #[]] 71)=W:=⟨_,rfl⟩;have eI:W0.heap.size=w.heap.size+1:=by rw[<-ai];simp
 have sf:Blk W0 w.heap.size 71 #[.func (.func 29) #[] #[]]:=ai▸tW _ _;have aK:Below w.heap.size w W0:=ai▸(ua _ w).alloc (tV _) _;have sX:=wJ (zlG s w.heap.size W0 hs (sf.cell 0));have B0:=wJ aK;clear sf aK;go_enter Tryz.func8,Tryz.ntmps8
 go_wp2_with fail
 refine(zpG _).mono ?_;rintro e w0 ⟨rfl,rfl⟩;try rw[ai]
 go_wp2_with fail
 try rw[ai]
 refine sX.out.mono ?_;rintro e w1 ⟨b1,aB⟩;have bj:=b1.size;have B1:=wJ (B0.out.trans (b1.mono (by omega)));clear sX b1;try clear ai
 rcases aB with⟨n,hn,hp,rfl⟩|⟨p,L,m,d,ay,du,hp,rfl,hm,hx⟩
 ·have HP:Hid (n≠0/\zbe s.data.toList=.error n):=wJ ⟨hn,by rw[zgt,hp];rfl⟩
  have HD:=wJ (zes [] (λ_=>False) 31 De.tooDeep none 0 0 w1 ek (λh=>absurd rfl h) rfl (λ_ h=>h.elim) (by simp) (λx h=>by cases h));clear hn hp ek;go_wp2_with fail
  refine HD.out.mono ?_;rintro e w2 ⟨rfl,b2⟩;have B2:=wJ (B1.out.trans (b2.mono (by omega)));clear b2 HD;rw[show([]:List De).any De.tooDeep=false from rfl]
  go_wp2_with fail
  go_ret2
  exact⟨B2.out,.inl ⟨n,HP.out.1,HP.out.2,rfl⟩⟩
 ·have HD:=wJ (zes p _ 31 De.tooDeep L m d w1 ek hx hm (λg hg=>by have:=hg.2;omega) (by have:=znq p;omega) (λx h cs W hc hS=>zis x _ cs W hc hS (by have:=zc4 p x h;omega)))
  have HP:Hid (zbe s.data.toList=if p.any De.tooDeep=true then .error 3 else .ok p):=wJ (by rw[zgt,hp];rfl);obtain⟨q,hq⟩:∃q,p.any De.tooDeep=q:=⟨_,rfl⟩;rw[hq]at HD HP
  have HX:=wJ hx;have gb:=wJ ay;have HM:=wJ hm;clear hp hx hq ay hm ek;go_wp2_with fail
  refine HD.out.mono ?_;rintro e w2 ⟨rfl,b2⟩;have bo:=b2.size;have B2:=wJ (B1.out.trans (b2.mono (by omega)));have qM:=wJ (HX.out.keep (S':=λg=>W0.heap.size<=g/\g<w2.heap.size) (λg hg=>⟨hg.1,by omega⟩) (λg hg=>b2.block g hg.2));clear b2 HD;cases q with
  |true =>
   go_wp2_with fail
   go_ret2
   exact⟨B2.out,.inl ⟨3,by decide,by rw[HP.out];simp,rfl⟩⟩
  |false =>
   go_wp2_with fail
   go_ret2
   exact⟨B2.out,.inr ⟨p,L,m,d,gb.out,du,by rw[HP.out];simp,rfl,HM.out,qM.out.keep (λg hg=>⟨by omega,hg.2⟩) (λ_ _=>rfl)⟩⟩
def evW:Ev->Int
 |.use _=>0
 |.cn _=>1
 |.bi _=>2
 |.beg _=>3
 |.fin _=>4
def evN:Ev->List Nm
 |.use x=>[x]
 |.cn c=>[c]
 |.bi xs=>xs
 |.beg xs=>xs
 |.fin xs=>xs
def evL:Ev->Nat
 |.bi xs=>xs.length+1
 |.use _=>1
 |.cn _=>1
 |.beg xs=>xs.length
 |.fin xs=>xs.length
theorem zpu(ev:Ev):evL ev=(evN ev).length\/evL ev=(evN ev).length+1:=by cases ev <;> simp[evL,evN]
def cost(l:List Ev):Nat:=(l.map evL).sum
theorem zb6:cost []=0:=rfl
theorem zaz(v:Ev)(l:List Ev):cost (v::l)=evL v+cost l:=by simp[cost]
theorem zax(a b:List Ev):cost (a++b)=cost a+cost b:=by simp[cost]
section
variable {σ:Type}
def runS(st:Ev->σ->σ)(l:List Ev)(s:σ):σ:=l.foldl (λs v=>st v s) s
theorem zcx(st:Ev->σ->σ)(a b:List Ev)(s:σ):runS st (a++b) s=runS st b (runS st a s):=by unfold runS;rw[vP]
theorem zbt(st:Ev->σ->σ)(v:Ev)(l:List Ev)(s:σ):runS st (v::l) s=runS st l (st v s):=rfl
structure InvS (I:Nat->σ->(Nat->Prop)->World->Prop):Prop where
 lt:∀c s M w,I c s M w->∀g,M g->g<w.heap.size
 keep:∀c s M w w',I c s M w->w.heap.size<=w'.heap.size->(∀g,M g->w'.heap[g]?=w.heap[g]?)->I c s M w'
 up:∀c s M w,I c s M w->I (c+1) s M w
structure InvB (I:Nat->σ->(Nat->Prop)->World->Prop):Prop where
 lt:∀c s M w,I c s M w->∀g,M g->g<w.heap.size
 keep:∀c s M w w',I c s M w->Below w.heap.size w w'->I c s M w'
theorem InvS.toB {I:Nat->σ->(Nat->Prop)->World->Prop}(h:InvS I):InvB I:=⟨h.lt,λc s M w w' hi hb=>h.keep c s M w w' hi hb.size (λg hg=>hb.block g (h.lt c s M w hi g hg))⟩
def Sta(I:Nat->σ->(Nat->Prop)->World->Prop)(M0:Nat->Prop)(w0:World)(c:Nat)(s:σ)(W:World):Prop :=
 ∃M,I c s M W/\(∀g,M g->M0 g\/w0.heap.size<=g)/\Chg M0 w0 W
theorem Sta.init {I:Nat->σ->(Nat->Prop)->World->Prop} {M:Nat->Prop} {w:World} {c:Nat} {s:σ}(h:I c s M w):Sta I M w c s w:=⟨M,h,λ_ h=>.inl h,Chg.refl _ _⟩
theorem Sta.size {I:Nat->σ->(Nat->Prop)->World->Prop} {M0:Nat->Prop} {w0 W:World} {c:Nat} {s:σ}(h:Sta I M0 w0 c s W):w0.heap.size<=W.heap.size:=by obtain⟨M,_,_,h⟩:=h;exact h.size
theorem Sta.block {I:Nat->σ->(Nat->Prop)->World->Prop} {M0:Nat->Prop} {w0 W:World} {c:Nat} {s:σ}(h:Sta I M0 w0 c s W)(k:Nat)(hk:k<w0.heap.size)(hm:¬M0 k):W.heap[k]?=w0.heap[k]?:=by obtain⟨M,_,_,h⟩:=h;exact h.block k hk hm
theorem Sta.below {I:Nat->σ->(Nat->Prop)->World->Prop}(hI:InvB I) {M0:Nat->Prop} {w0 W W':World} {c:Nat} {s:σ}(h:Sta I M0 w0 c s W)(hb:Below W.heap.size W W'):Sta I M0 w0 c s W':=by
 obtain⟨M,h1,h2,h3⟩:=h;exact⟨M,hI.keep _ _ _ _ _ h1 hb,h2,h3.below hb⟩
theorem Sta.alloc {I:Nat->σ->(Nat->Prop)->World->Prop}(hI:InvB I) {M0:Nat->Prop} {w0 W:World} {c:Nat} {s:σ}(h:Sta I M0 w0 c s W)(o:Obj):Sta I M0 w0 c s (W.alloc o):=h.below hI ((ua _ W).alloc (tV _) o)
theorem Sta.up {I:Nat->σ->(Nat->Prop)->World->Prop}(hI:InvS I) {M0:Nat->Prop} {w0 W:World} {c:Nat} {s:σ}(h:Sta I M0 w0 c s W):Sta I M0 w0 (c+1) s W:=by
 obtain⟨M,h1,h2,h3⟩:=h;exact⟨M,hI.up _ _ _ _ h1,h2,h3⟩
theorem Sta.call {I:Nat->σ->(Nat->Prop)->World->Prop} {M0:Nat->Prop} {w0 W:World} {c c':Nat} {s s':σ}(h:Sta I M0 w0 c s W) {P:Program} {F:Nat} {args:Array Value}
  (hc:∀M,I c s M W->(∀g,M g->M0 g\/w0.heap.size<=g)->Calls P F args W λe w'=>e=.returned (.tuple #[])/\Sta I M W c' s' w'):Calls P F args W λe w'=>e=.returned (.tuple #[])/\Sta I M0 w0 c' s' w':=by
 obtain⟨M,h1,h2,h3⟩:=h;refine(hc M h1 h2).mono ?_;rintro e w' ⟨rfl,M',k1,k2,k3⟩;refine⟨rfl,M',k1,λg hg=>?_,h3.trans' k3 (λi hi hm=>?_)⟩
 ·rcases k2 g hg with h|h
  ·exact h2 g h
  ·exact .inr (uX h3.size h)
 ·rcases h2 i hm with h|h
  ·exact h
  ·omega
def VisE(k:Nat)(al:Array Value)(B:Nat)(I:Nat->σ->(Nat->Prop)->World->Prop)(st:Ev->σ->σ):Prop :=
 ∀(c:Nat) (s:σ) (M:Nat->Prop) (ev:Ev) (S:Nat->Prop) (V:Option Addr) (v:Nat) (w:World),I c s M w->NmsIn S w (evN ev) V->(∀g,S g->g<w.heap.size/\¬M g)->(∀x∈evN ev,x.length<=24)->c+evL ev<=B ->
  Calls Tryz.prog k (#[.int .i64 (evW ev),.slice V (evN ev).length v]++al) w λe w'=>e=.returned (.tuple #[])/\Sta I M w (c+evL ev) (st ev s) w'
def zcC(n k:Nat)(al:Array Value)(B:Nat)(I:Nat->σ->(Nat->Prop)->World->Prop)(st:Ev->σ->σ):Prop :=
 ∀(c:Nat) (s:σ) (M:Nat->Prop) (e:Ex) (S:Nat->Prop) (v:Value) (w:World),e.size<=n->I c s M w->RdX S w e v->(∀g,S g->g<w.heap.size/\¬M g)->e.Ok->c+cost (evs e)<=B ->
  Calls Tryz.prog 117 #[v,.func (.func k) #[] al] w λe' w'=>e'=.returned (.tuple #[])/\Sta I M w (c+cost (evs e)) (runS st (evs e) s) w'
end
def PartsAt(S:Nat->Prop)(w:World)(l:List Ex)(A:Option Addr):Prop:=l≠[]->∃g o,A=some ⟨g,o,none⟩/\S g/\ExsAt S w l g o
theorem Sx.ExsAt.keep {S S':Nat->Prop} {w w':World}(hS:∀g,S g->S' g)(hk:∀g,S g->w'.heap[g]?=w.heap[g]?):(l:List Ex)->∀g o,w'.heap[g]?=w.heap[g]?->ExsAt S w l g o->ExsAt S' w' l g o
 |[],_,_,_,_=>by rw[ExsAt];trivial
 |e::r,g,o,hg,h=>by
  rw[ExsAt]at h ⊢
  exact⟨h.1.keep hS hk hg,Sx.ExsAt.keep hS hk r g (o+9) hg h.2⟩
theorem PartsAt.keep {S S':Nat->Prop} {w w':World} {l:List Ex} {A:Option Addr}(h:PartsAt S w l A)(hS:∀g,S g->S' g)(hk:∀g,S g->w'.heap[g]?=w.heap[g]?):PartsAt S' w' l A:=λhl=>by
 obtain⟨g,o,h1,h2,h3⟩:=h hl;exact⟨g,o,h1,hS g h2,Sx.ExsAt.keep hS hk l g o (hk g h2) h3⟩
theorem PartsAt.at_ {S:Nat->Prop} {w:World} {l:List Ex} {A:Option Addr}(h:PartsAt S w l A)(i:Nat)(x:Ex)(hx:l[i]?=some x):∃g o,A=some ⟨g,o,none⟩/\S g/\ExAt S w x g (o+i*9):=by
 obtain⟨hi,rfl⟩:=uj.1 hx;obtain⟨g,o,h1,h2,h3⟩:=h (by intro e;rw[e]at hi;simp at hi);exact⟨g,o,h1,h2,ExsAt.at_ l g o i hi h3⟩
def wEv(xs:List Nm)(l:List Ex):List Ev:=.beg xs::(l.flatMap evs++[.fin xs])
theorem zb9(l:List Ex)(i:Nat)(x:Ex)(h:l[i]?=some x):(l.take (i+1)).flatMap evs=(l.take i).flatMap evs++evs x:=by
 rw[uL,h]
 simp
theorem zk6 {σ:Type}(n k:Nat)(al:Array Value)(B:Nat)(I:Nat->σ->(Nat->Prop)->World->Prop)(st:Ev->σ->σ)(hI:InvB I)(ek:∀args w,(callFunc k args).run Tryz.prog w=.ok (.enter k args) w)(HV:VisE k al B I st)(HW:zcC n k al B I st)
  (l:List Ex)(xs:List Nm)(c:Nat)(s:σ)(M S:Nat->Prop)(A:Option Addr)(d:Nat)(V:Option Addr)(v bx:Nat)(w:World)(hi:I c s M w)(hp:PartsAt S w l A)(hx:NmsIn S w xs V)(hS:∀g,S g->g<w.heap.size/\¬M g)
  (hb:w.cell? ⟨bx,0,none⟩=some (.func (.func k) #[] al))(hbM:¬M bx)(ay:∀e∈l,e.Ok/\e.size<=n)(eO:∀x∈xs,x.length<=24)(br:l.length<=100000)(hB:c+cost (wEv xs l)<=B):Calls Tryz.prog 155 #[.slice A l.length d,.slice V xs.length v,.pointer (some ⟨bx,0,none⟩)] w λe w'=>e=.returned (.tuple #[])/\Sta I M w (c+cost (wEv xs l)) (runS st (wEv xs l) s) w':=by
 have aC:=zaj hb;obtain⟨N,hN⟩:∃N,l.length=N:=⟨_,rfl⟩;obtain⟨xn,re⟩:∃y,xs.length=y:=⟨_,rfl⟩;have oB:∀i,c+cost (.beg xs::(l.take i).flatMap evs)+xn<=B:=λi=>by
  have h1:cost ((l.take i).flatMap evs)<=cost (l.flatMap evs):=by
   have:=uC (λl=>cost (l.flatMap evs)) (vQ i l);simp only[uA,zax]at this;omega
  unfold wEv at hB;rw[zaz,zax,zaz,zb6]at hB
  rw[zaz]
  simp only[evL]at hB ⊢;omega
 have H1:=HV c s M (.beg xs) S V v w hi hx hS eO (by unfold wEv at hB;rw[zaz]at hB;omega);simp only[evN,evW,evL,re]at H1;have HP:=wJ hp;have HX:=wJ hx;have HS:=wJ hS;have HB:=wJ hb;have gb:=wJ ay;have sU:=wJ eO;have HXN:=wJ re;have HN:=wJ hN;have nU:=wJ oB;have HIV:=wJ hI;have iq:=wJ HV;have jo:=wJ HW;have H1:=wJ H1;have jV:Hid (c+cost (wEv xs l)=c+cost (.beg xs::(l.take N).flatMap evs)+xn/\runS st (wEv xs l) s=st (.fin xs) (runS st (.beg xs::(l.take N).flatMap evs) s)):=wJ (by
  rw[ur (by omega)]
  unfold wEv;rw[zaz,zax,zaz,zb6,zaz,zbt,zcx,zbt]
  simp only[evL,re];exact⟨by omega,rfl⟩)
 have an:∀W c s,Sta I M w c s W->(∀g,S g->W.heap[g]?=w.heap[g]?)/\W.cell? ⟨bx,0,none⟩=some (.func (.func k) #[] al)/\w.heap.size<=W.heap.size:=λW c s h =>
  ⟨λg hg=>h.block g (hS g hg).1 (hS g hg).2,(uV (w:=w) (a:=⟨bx,0,none⟩) (h.block bx aC hbM)).trans hb,h.size⟩
 have HK:=wJ an;rw[hN]at br
 rw[hN,re]
 rw[jV.out.1,jV.out.2]
 clear hp hx hS ay eO re hN oB hI HV HW hB hi an;go_enter Tryz.func155,Tryz.ntmps155
 go_wp2_with fail
 refine H1.out.mono ?_;rintro e w1 ⟨rfl,s1⟩;have bj:=s1.size;have aN:=(HK.out w1 _ _ s1).2.1;have S1:=wJ s1;clear s1 hb H1;go_wp2_with fail
 go_loopg [12] N (λgg vi wr=>∃i:Nat,gg=N-i/\vi=.int .i64 (i:Nat)/\i<=N/\Hid (Sta I M w (c+cost (.beg xs::(l.take i).flatMap evs)) (runS st (.beg xs::(l.take i).flatMap evs) s) wr))
 case atStart =>
  refine⟨0,rfl,rfl,by omega,wJ ?_⟩;have:=S1.out;rw[<-HXN.out]at this
  simpa[cost,runS,evL] using this
 case round =>
  obtain⟨i,oy,rfl,hi,be⟩:=hrel;have dw:=be.out.size;have cN:=(HK.out wr _ _ be.out).2.1;have hbr2:bx<wr.heap.size:=by omega
  clear aN S1;by_cases ah:i<N
  ·obtain⟨x,hx⟩:∃x,l[i]?=some x:=⟨_,ug (by rw[HN.out];exact ah)⟩
   obtain⟨g,o,rfl,bh,aH⟩:=HP.out.at_ i x hx;have dy:=(HK.out wr _ _ be.out).1;obtain⟨k1,x1,t1,K1,X1,Z1,B1,m1,q1,cE,cz,cA,cD,cw,cy,f0,f1,f2,f3,f4,f5,f6,f7,f8,aq⟩:=(aH.keep (λ_ h=>h) dy (dy g bh)).cells;have aV:=zaj f0;have jz:=gb.out x (vd.2 ⟨i,hx⟩);have rC:=be.out.alloc HIV.out (.cells #[.int .i64 k1,.string x1,.bool t1,.int .i64 K1,.string X1,.int .i64 Z1,.slice B1 m1 q1,.slice cE cz cA,.slice cD cw cy] 39);have oC:c+cost (.beg xs::(l.take i).flatMap evs)+cost (evs x)<=B:=by
    have:=nU.out (i+1);rw[zb9 l i x hx,zaz,zax]at this
    rw[zaz]
    omega
   have ak:=wJ (rC.call (P:=Tryz.prog) (F:=117) (args:=#[.agg #[.int .i64 k1,.string x1,.bool t1,.int .i64 K1,.string X1,.int .i64 Z1,.slice B1 m1 q1,.slice cE cz cA,.slice cD cw cy],.func (.func k) #[] al]) (λM2 i2 qF=>jo.out _ _ M2 x S _ _ jz.2 i2
    (aq.keep (λ_ h=>h) (λg hg=>uc _ _ _ (by have:=(HS.out g hg).1;omega))) (λg hg=>⟨by have:=(HS.out g hg).1;simp;omega,λh=>by
     rcases qF g h with h|h
     ·exact(HS.out g hg).2 h
     ·have:=(HS.out g hg).1;omega⟩) jz.1 oC))
   have qM:=wJ (zb9 l i x hx);clear hx bh aH dy aq jz rC oC;go_wp2_with fail
   refine ak.out.mono ?_;rintro e' w2 ⟨rfl,s2⟩;have S2:=wJ s2;clear s2 ak;go_wp2_with fail
   go_roundg (N-(i+1))
   case measure=>omega
   case rel =>
    refine⟨i+1,rfl,by go_num,by omega,wJ ?_⟩;have:=S2.out;rw[qM.out,<-uS,zax,<-wk,zcx]
    exact this
  ·obtain rfl:i=N:=by omega
   have dy:=(HK.out wr _ _ be.out).1;have ak:=wJ (be.out.call (P:=Tryz.prog) (F:=k) (args:=#[.int .i64 4,.slice V xn v]++al) (c':=c+cost (.beg xs::(l.take i).flatMap evs)+xn) (s':=st (.fin xs) (runS st (.beg xs::(l.take i).flatMap evs) s)) (λM2 i2 qF=>by
    have:=iq.out _ _ M2 (.fin xs) S V v wr i2 (HX.out.keep (λ_ h=>h) dy) (λg hg=>⟨by have:=(HS.out g hg).1;omega,λh=>by
     rcases qF g h with h|h
     ·exact(HS.out g hg).2 h
     ·have:=(HS.out g hg).1;omega⟩) sU.out (by have:=nU.out i;simp only[evL,HXN.out];omega)
    simp only[evN,evW,evL,HXN.out]at this;exact this))
   clear dy ah;go_wp2_with fail
   refine ak.out.mono ?_;rintro e' w2 ⟨rfl,s2⟩;have S2:=wJ s2;clear s2 ak;go_wp2_with fail
   first|go_end0|refine ub (vE rfl _ _ _) rfl ?_
   exact⟨rfl,S2.out⟩
end Go.Proofs.YtknkclefoiohpaaGreatDoor
namespace Go.Proofs.YtknkclefoiohpaaGreatDoor
open Go.RowKit Lx Tx Sx Go.Shelf
set_option maxRecDepth 100000
theorem Sta.pre {σ:Type} {I:Nat->σ->(Nat->Prop)->World->Prop} {M0:Nat->Prop} {w w0 W:World} {c:Nat} {s:σ}(h:Sta I M0 w0 c s W)(hb:Below w.heap.size w w0):Sta I M0 w c s W:=by
 obtain⟨M,h1,h2,h3⟩:=h;refine⟨M,h1,λg hg=>?_,(Chg.of_below hb).trans h3⟩;rcases h2 g hg with h|h
 ·exact .inl h
 ·exact .inr (uX hb.size h)
theorem Sta.callB {σ:Type} {I:Nat->σ->(Nat->Prop)->World->Prop}(hI:InvB I) {M0:Nat->Prop} {w0 Wp W:World} {c c':Nat} {s s':σ}(h:Sta I M0 w0 c s Wp)(hb:Below Wp.heap.size Wp W) {P:Program} {F:Nat} {args:Array Value}
  (hc:∀M,I c s M W->(∀g,M g->(M0 g\/w0.heap.size<=g)/\g<Wp.heap.size)->Calls P F args W λe w'=>e=.returned (.tuple #[])/\Sta I M W c' s' w'):Calls P F args W λe w'=>e=.returned (.tuple #[])/\Sta I M0 w0 c' s' w':=by
 obtain⟨M,h1,h2,h3⟩:=h;have ah:=hI.lt _ _ _ _ h1;have h3':Chg M0 w0 W:=h3.below hb;refine(hc M (hI.keep _ _ _ _ _ h1 hb) (λg hg=>⟨h2 g hg,ah g hg⟩)).mono ?_;rintro e w' ⟨rfl,M',k1,k2,k3⟩;refine⟨rfl,M',k1,λg hg=>?_,h3'.trans' k3 (λi hi hm=>?_)⟩
 ·rcases k2 g hg with h|h
  ·exact h2 g h
  ·exact .inr (uX h3'.size h)
 ·rcases h2 i hm with h|h
  ·exact h
  ·omega
def OldNew(M0:Nat->Prop)(w0 Wp W:World)(g:Nat):Prop:=(g<w0.heap.size/\¬M0 g)\/(Wp.heap.size<=g/\g<W.heap.size)
theorem OldNew.no {M0 M:Nat->Prop} {w0 Wp W:World} {g:Nat}(h:OldNew M0 w0 Wp W g)(hM:M g->(M0 g\/w0.heap.size<=g)/\g<Wp.heap.size)(h0:w0.heap.size<=Wp.heap.size)(h1:Wp.heap.size<=W.heap.size):g<W.heap.size/\¬M g:=by
 rcases h with⟨a,b⟩|⟨a,b⟩
 ·refine⟨by omega,λe=>?_⟩
  rcases(hM e).1 with x|x
  ·exact b x
  ·omega
 ·exact⟨b,λe=>by have:=(hM e).2;omega⟩
theorem evS {σ:Type} {k:Nat} {al:Array Value} {B:Nat} {I:Nat->σ->(Nat->Prop)->World->Prop} {st:Ev->σ->σ}(hI:InvB I)(HV:VisE k al B I st) {M0:Nat->Prop} {w0 Wp W:World} {c:Nat} {s:σ}(h:Sta I M0 w0 c s Wp)(hb:Below Wp.heap.size Wp W)
  (S2:Nat->Prop)(kE:∀g,S2 g->OldNew M0 w0 Wp W g)(ev:Ev)(V:Option Addr)(v:Nat)(hN:NmsIn S2 W (evN ev) V)(hl:∀x∈evN ev,x.length<=24)(hc:c+evL ev<=B):Calls Tryz.prog k (#[.int .i64 (evW ev),.slice V (evN ev).length v]++al) W λe w'=>e=.returned (.tuple #[])/\Sta I M0 w0 (c+evL ev) (st ev s) w' :=
 h.callB hI hb λM i2 hM=>HV c s M ev S2 V v W i2 hN (λg hg=>(kE g hg).no (hM g) h.size hb.size) hl hc
theorem nms1 {W:World}(X:ByteArray)(x:Nm)(hx:(⟨x.toArray⟩:ByteArray)=X)(t:TypeId):NmsIn (λg=>g=W.heap.size) (W.alloc (.cells #[.string X] t)) [x] (some ⟨W.heap.size,0,none⟩):=λ_ =>
 ⟨_,rfl,rfl,zct (t:=t) (cs:=[.string X]) (tW _ _) |> λh=>by simpa[Sx.strV,hx] using h⟩
theorem ev1 {σ:Type} {k:Nat} {al:Array Value} {B:Nat} {I:Nat->σ->(Nat->Prop)->World->Prop} {st:Ev->σ->σ}(hI:InvB I)(HV:VisE k al B I st) {M0:Nat->Prop} {w0 W:World} {c:Nat} {s:σ}(h:Sta I M0 w0 c s W)
  (ev:Ev)(x:Nm)(X:ByteArray)(q:Nat)(hq:evL ev=q)(jh:evN ev=[x])(hx:(⟨x.toArray⟩:ByteArray)=X)(hl:x.length<=24)(hc:c+q<=B):Calls Tryz.prog k (#[.int .i64 (evW ev),.slice (some ⟨W.heap.size,0,none⟩) 1 1]++al) (W.alloc (.cells #[.string X] 9)) λe w'=>e=.returned (.tuple #[])/\Sta I M0 w0 (c+q) (st ev s) w':=by
 have:=evS hI HV h ((ua _ W).alloc (tV _) (.cells #[.string X] 9)) (λg=>g=W.heap.size) (λg hg=>.inr ⟨by omega,by simp;omega⟩) ev (some ⟨W.heap.size,0,none⟩) 1 (by rw[jh];exact nms1 X x hx _) (by rw[jh];simpa using hl) (by rw[hq];exact hc);rw[jh,hq]at this
 exact this
theorem wiS {σ:Type} {n k:Nat} {al:Array Value} {B:Nat} {I:Nat->σ->(Nat->Prop)->World->Prop} {st:Ev->σ->σ}(hI:InvB I)(ek:∀args w,(callFunc k args).run Tryz.prog w=.ok (.enter k args) w)(HV:VisE k al B I st)(HW:zcC n k al B I st)
  {M0:Nat->Prop} {w0 Wp W:World} {c:Nat} {s:σ} (h:Sta I M0 w0 c s Wp) (hb:Below Wp.heap.size Wp W) (S2:Nat->Prop) (kE:∀g,S2 g->OldNew M0 w0 Wp W g) (l:List Ex) (xs:List Nm) (A:Option Addr) (d:Nat) (V:Option Addr) (v bx:Nat)
  (hp:PartsAt S2 W l A)(hx:NmsIn S2 W xs V)(az:W.cell? ⟨bx,0,none⟩=some (.func (.func k) #[] al))(aK:bx<w0.heap.size)(hbM:¬M0 bx)(ay:∀e∈l,e.Ok/\e.size<=n)(eO:∀x∈xs,x.length<=24)(br:l.length<=100000)(hB:c+cost (wEv xs l)<=B):Calls Tryz.prog 155 #[.slice A l.length d,.slice V xs.length v,.pointer (some ⟨bx,0,none⟩)] W λe w'=>e=.returned (.tuple #[])/\Sta I M0 w0 (c+cost (wEv xs l)) (runS st (wEv xs l) s) w' :=
 h.callB hI hb λM i2 hM=>zk6 n k al B I st hI ek HV HW l xs c s M S2 A d V v bx W i2 hp hx (λg hg=>(kE g hg).no (hM g) h.size hb.size) az
  (λe=>by rcases(hM bx e).1 with x|x;exact hbM x;omega) ay eO br hB
structure Box (k:Nat) (al:Array Value) (M S:Nat->Prop) (w W0:World) (cs:Array Value):Prop where
 b0:Blk W0 w.heap.size 39 cs
 b1:Blk W0 (w.heap.size+1) 187 #[.func (.func k) #[] al]
 sz:W0.heap.size=w.heap.size+2
 lw:Below w.heap.size w W0
 s:∀g,S g->g<w.heap.size/\¬M g
 m:∀g,M g->g<w.heap.size
theorem Box.old {k:Nat} {al cs:Array Value} {M S:Nat->Prop} {w W0 Wp W:World}(h:Box k al M S w W0 cs)(g:Nat)(hg:S g):OldNew M W0 Wp W g:=.inl ⟨by have:=(h.s g hg).1;have:=h.sz;omega,(h.s g hg).2⟩
theorem Box.at_ {σ:Type} {I:Nat->σ->(Nat->Prop)->World->Prop} {k:Nat} {al cs:Array Value} {M S:Nat->Prop} {w W0 W:World} {c:Nat} {s:σ}(h:Box k al M S w W0 cs)(hs:Sta I M W0 c s W):Blk W w.heap.size 39 cs/\Blk W (w.heap.size+1) 187 #[.func (.func k) #[] al]/\w.heap.size+2<=W.heap.size/\∀g,S g->W.heap[g]?=w.heap[g]?:=by
 have h2:=h.sz;have h3:=hs.size;refine⟨h.b0.same (hs.block _ (by omega) (λe=>by have:=h.m _ e;omega)),h.b1.same (hs.block _ (by omega) (λe=>by have:=h.m _ e;omega)),by omega,λg hg=>?_⟩;have:=h.s g hg;exact(hs.block g (by omega) this.2).trans (h.lw.block g this.1)
theorem zic {σ:Type}(k:Nat)(al:Array Value)(B:Nat)(I:Nat->σ->(Nat->Prop)->World->Prop)(st:Ev->σ->σ)(hI:InvB I)(ek:∀args w,(callFunc k args).run Tryz.prog w=.ok (.enter k args) w)(HV:VisE k al B I st)
  (x:Nm)(c:Nat)(s:σ)(M S:Nat->Prop)(v:Value)(w:World)(hi:I c s M w)(hv:RdX S w (Ex.var x:Ex) v)(hS:∀g,S g->g<w.heap.size/\¬M g)(ay:(Ex.var x:Ex).Ok)(hB:c+cost (evs (Ex.var x))<=B):Calls Tryz.prog 117 #[v,.func (.func k) #[] al] w λe' w'=>e'=.returned (.tuple #[])/\Sta I M w (c+cost (evs (Ex.var x))) (runS st (evs (Ex.var x)) s) w':=by
 have ew:∀args w,(callFunc 155 args).run Tryz.prog w=.ok (.enter 155 args) w:=enters_of Tryz.func155 (by kernel_rfl) rfl;have mk:∀(W:World) (p:Addr),(Instr.makeFunc (.func 155) #[] #[.pointer (some p)]).run Tryz.prog W=.ok (.func (.func 155) #[] #[.pointer (some p)]) W:=λ_ _=>rfl;obtain⟨K,X,Z,A0,m,q,KA,kc,LA,lc,rfl,bI⟩:=hv.shape;simp only[kdE,nmE,toE,zac,zad,uF]at bI ⊢;have ah:=hI.lt _ _ _ _ hi;obtain⟨Y,hY⟩:∃Y:ByteArray,⟨x.toArray⟩=Y:=⟨_,rfl⟩;rw[hY]
 have gX:x.length<=24:=zaQ (show Gd 1 x from ay) (by decide);have au:cost (evs (Ex.var x))=1:=rfl;rw[au]at hB ⊢
 obtain⟨W0,ai⟩:∃W,(w.alloc (.cells #[.int .i64 1,.string Y,.bool false,.int .i64 K,.string X,.int .i64 Z,.slice A0 m q,.slice KA 0 kc,.slice LA 0 lc] 39)).alloc (.cells #[.func (.func k) #[] al] 187)=W:=⟨_,rfl⟩;have az:Box k al M S w W0 #[.int .i64 1,.string Y,.bool false,.int .i64 K,.string X,.int .i64 Z,.slice A0 m q,.slice KA 0 kc,.slice LA 0 lc]:=by
  refine⟨ai▸Blk.below (tW w _) ((ua _ _).alloc (tV _) _) (by simp),ai▸zaA _ _ _ _ rfl,by rw[<-ai];simp,ai▸((ua _ w).alloc (tV _) _).alloc (by simp) _,hS,ah⟩
 have be:=Sta.init (hI.keep _ _ _ _ W0 hi az.lw);have bc:=wJ az;have S0:=wJ be;have bM:=wJ az.lw;obtain⟨b0,b1,gn,-⟩:=az.at_ be;obtain⟨⟨g0,g1,g2,g3,g4,g5,g6,g7,g8⟩,-,-⟩:=zab b0;have d0:=b1.cell 0;replace d0:W0.cell? ⟨w.heap.size+1,0,none⟩=some (.func (.func k) #[] al):=d0;have gL:=wJ (ev1 hI HV be (.use x) x Y 1 rfl rfl hY gX hB);simp only[evW]at gL;clear az be b0 b1 hi hv hS ay hB bI ah HV;go_enter Tryz.func117,Tryz.ntmps117
 go_upto_region 2 with fail
 try rw[ai]
 clear ai;go_wp2_with fail
 refine gL.out.mono ?_;rintro e1 w1 ⟨rfl,s1⟩;have S1:=wJ s1;clear s1 gL g0 g1 g2 g3 g4 g5 g6 g7 g8 d0;obtain⟨b0,b1,gn,dy⟩:=bc.out.at_ S1.out;obtain⟨⟨g0,g1,g2,g3,g4,g5,g6,g7,g8⟩,-,-⟩:=zab b0;have d0:=b1.cell 0;replace d0:w1.cell? ⟨w.heap.size+1,0,none⟩=some (.func (.func k) #[] al):=d0;clear b0 b1;go_wp2_with fail
 go_loopg [72] 0 (λgg vi wr=>gg=0/\vi=.int .i64 0/\Hid (wr=w1))
 case atStart=>exact⟨rfl,rfl,wJ rfl⟩
 case round =>
  obtain⟨rfl,rfl,hw⟩:=hrel;have hw:=hw.out;subst hw;go_wp2_with fail
  first|go_end0|refine ub (vE rfl _ _ _) rfl ?_
  refine⟨rfl,?_⟩;have:=S1.out.pre bM.out;exact this
theorem zid {σ:Type}(k:Nat)(al:Array Value)(B:Nat)(I:Nat->σ->(Nat->Prop)->World->Prop)(st:Ev->σ->σ)(hI:InvB I)(ek:∀args w,(callFunc k args).run Tryz.prog w=.ok (.enter k args) w)(HV:VisE k al B I st)
  (x:Nm)(c:Nat)(s:σ)(M S:Nat->Prop)(v:Value)(w:World)(hi:I c s M w)(hv:RdX S w (Ex.con x:Ex) v)(hS:∀g,S g->g<w.heap.size/\¬M g)(ay:(Ex.con x:Ex).Ok)(hB:c+cost (evs (Ex.con x))<=B):Calls Tryz.prog 117 #[v,.func (.func k) #[] al] w λe' w'=>e'=.returned (.tuple #[])/\Sta I M w (c+cost (evs (Ex.con x))) (runS st (evs (Ex.con x)) s) w':=by
 have ew:∀args w,(callFunc 155 args).run Tryz.prog w=.ok (.enter 155 args) w:=enters_of Tryz.func155 (by kernel_rfl) rfl;have mk:∀(W:World) (p:Addr),(Instr.makeFunc (.func 155) #[] #[.pointer (some p)]).run Tryz.prog W=.ok (.func (.func 155) #[] #[.pointer (some p)]) W:=λ_ _=>rfl;obtain⟨K,X,Z,A0,m,q,KA,kc,LA,lc,rfl,bI⟩:=hv.shape;simp only[kdE,nmE,toE,zac,zad,uF]at bI ⊢;have ah:=hI.lt _ _ _ _ hi;obtain⟨Y,hY⟩:∃Y:ByteArray,⟨x.toArray⟩=Y:=⟨_,rfl⟩;rw[hY]
 have gX:x.length<=24:=zaQ (show Gd 2 x from ay) (by decide);have au:cost (evs (Ex.con x))=1:=rfl;rw[au]at hB ⊢
 obtain⟨W0,ai⟩:∃W,(w.alloc (.cells #[.int .i64 2,.string Y,.bool false,.int .i64 K,.string X,.int .i64 Z,.slice A0 m q,.slice KA 0 kc,.slice LA 0 lc] 39)).alloc (.cells #[.func (.func k) #[] al] 187)=W:=⟨_,rfl⟩;have az:Box k al M S w W0 #[.int .i64 2,.string Y,.bool false,.int .i64 K,.string X,.int .i64 Z,.slice A0 m q,.slice KA 0 kc,.slice LA 0 lc]:=by
  refine⟨ai▸Blk.below (tW w _) ((ua _ _).alloc (tV _) _) (by simp),ai▸zaA _ _ _ _ rfl,by rw[<-ai];simp,ai▸((ua _ w).alloc (tV _) _).alloc (by simp) _,hS,ah⟩
 have be:=Sta.init (hI.keep _ _ _ _ W0 hi az.lw);have bc:=wJ az;have S0:=wJ be;have bM:=wJ az.lw;obtain⟨b0,b1,gn,-⟩:=az.at_ be;obtain⟨⟨g0,g1,g2,g3,g4,g5,g6,g7,g8⟩,-,-⟩:=zab b0;have d0:=b1.cell 0;replace d0:W0.cell? ⟨w.heap.size+1,0,none⟩=some (.func (.func k) #[] al):=d0;have gL:=wJ (ev1 hI HV be (.cn x) x Y 1 rfl rfl hY gX hB);simp only[evW]at gL;clear az be b0 b1 hi hv hS ay hB bI ah HV;go_enter Tryz.func117,Tryz.ntmps117
 go_upto_region 2 with fail
 try rw[ai]
 clear ai;go_wp2_with fail
 refine gL.out.mono ?_;rintro e1 w1 ⟨rfl,s1⟩;have S1:=wJ s1;clear s1 gL g0 g1 g2 g3 g4 g5 g6 g7 g8 d0;obtain⟨b0,b1,gn,dy⟩:=bc.out.at_ S1.out;obtain⟨⟨g0,g1,g2,g3,g4,g5,g6,g7,g8⟩,-,-⟩:=zab b0;have d0:=b1.cell 0;replace d0:w1.cell? ⟨w.heap.size+1,0,none⟩=some (.func (.func k) #[] al):=d0;clear b0 b1;go_wp2_with fail
 go_loopg [72] 0 (λgg vi wr=>gg=0/\vi=.int .i64 0/\Hid (wr=w1))
 case atStart=>exact⟨rfl,rfl,wJ rfl⟩
 case round =>
  obtain⟨rfl,rfl,hw⟩:=hrel;have hw:=hw.out;subst hw;go_wp2_with fail
  first|go_end0|refine ub (vE rfl _ _ _) rfl ?_
  refine⟨rfl,?_⟩;have:=S1.out.pre bM.out;exact this
theorem zie {σ:Type}(n k:Nat)(al:Array Value)(B:Nat)(I:Nat->σ->(Nat->Prop)->World->Prop)(st:Ev->σ->σ)(hI:InvB I)(ek:∀args w,(callFunc k args).run Tryz.prog w=.ok (.enter k args) w)(HV:VisE k al B I st)(HW:zcC n k al B I st)
  (x:Nm)(e:Ex)(c:Nat)(s:σ)(M S:Nat->Prop)(v:Value)(w:World)(hi:I c s M w)(hv:RdX S w (Ex.lam x e:Ex) v)(hS:∀g,S g->g<w.heap.size/\¬M g)(ay:(Ex.lam x e:Ex).Ok)(aG:(Ex.lam x e:Ex).size<=n+1)(hB:c+cost (evs (Ex.lam x e))<=B):Calls Tryz.prog 117 #[v,.func (.func k) #[] al] w λe' w'=>e'=.returned (.tuple #[])/\Sta I M w (c+cost (evs (Ex.lam x e))) (runS st (evs (Ex.lam x e)) s) w':=by
 have ew:∀args w,(callFunc 155 args).run Tryz.prog w=.ok (.enter 155 args) w:=enters_of Tryz.func155 (by kernel_rfl) rfl;have mk:∀(W:World) (p:Addr),(Instr.makeFunc (.func 155) #[] #[.pointer (some p)]).run Tryz.prog W=.ok (.func (.func 155) #[] #[.pointer (some p)]) W:=λ_ _=>rfl;obtain⟨K,X,Z,A0,m,q,KA,kc,LA,lc,rfl,bI⟩:=hv.shape;simp only[kdE,nmE,toE,zac,zad,ui,uF,uJ]at bI ⊢;have ah:=hI.lt _ _ _ _ hi;obtain⟨Y,hY⟩:∃Y:ByteArray,⟨x.toArray⟩=Y:=⟨_,rfl⟩;rw[hY]
 have gX:x.length<=24:=zaQ (show Gd 1 x from ay.1) (by decide);have jh:evs (Ex.lam x e)=.bi [x]::wEv [x] [e]:=by simp[evs,wEv]
 rw[jh]at hB ⊢
 rw[zaz]at hB ⊢
 rw[zbt]
 simp only[evL,ui,uF,uJ]at hB ⊢;obtain⟨W0,ai⟩:∃W,(w.alloc (.cells #[.int .i64 3,.string Y,.bool false,.int .i64 K,.string X,.int .i64 Z,.slice A0 m q,.slice KA 1 kc,.slice LA 0 lc] 39)).alloc (.cells #[.func (.func k) #[] al] 187)=W:=⟨_,rfl⟩;have az:Box k al M S w W0 #[.int .i64 3,.string Y,.bool false,.int .i64 K,.string X,.int .i64 Z,.slice A0 m q,.slice KA 1 kc,.slice LA 0 lc]:=by
  refine⟨ai▸Blk.below (tW w _) ((ua _ _).alloc (tV _) _) (by simp),ai▸zaA _ _ _ _ rfl,by rw[<-ai];simp,ai▸((ua _ w).alloc (tV _) _).alloc (by simp) _,hS,ah⟩
 have be:=Sta.init (hI.keep _ _ _ _ W0 hi az.lw);have bc:=wJ az;have S0:=wJ be;have bM:=wJ az.lw;obtain⟨b0,b1,gn,-⟩:=az.at_ be;obtain⟨⟨g0,g1,g2,g3,g4,g5,g6,g7,g8⟩,-,-⟩:=zab b0;have d0:=b1.cell 0;replace d0:W0.cell? ⟨w.heap.size+1,0,none⟩=some (.func (.func k) #[] al):=d0;have gL:=wJ (ev1 hI HV be (.bi [x]) x Y 2 rfl rfl hY gX (by omega));simp only[evW]at gL;have fs:PartsAt S w [e] KA:=λ_=>by
  obtain⟨g,h1,h2,h3⟩:=((zce (Ex.lam x e) KA LA).1 bI).1 (by simp[zac]);exact⟨g,0,h1,h2,h3⟩
 have HPAR:=wJ fs;have HWI:=wJ (λ(w1:World) (s1:Sta I M W0 (c+2) (st (.bi [x]) s) w1)=>wiS hI ek HV HW s1 ((ua _ w1).alloc (tV _) (.cells #[.string Y] 9)) (λg=>S g\/g=w1.heap.size) (λg hg=>by
   rcases hg with h|h
   ·exact az.old g h
   ·exact .inr ⟨by omega,by simp;omega⟩) [e] [x] KA kc (some ⟨w1.heap.size,0,none⟩) 1 (w.heap.size+1)
  (fs.keep (λg hg=>.inl hg) (λg hg=>(uc _ _ _ (by have:=(hS g hg).1;have:=(az.at_ s1).2.2.1;omega)).trans ((az.at_ s1).2.2.2 g hg)))
  ((nms1 Y x hY _).keep (λg hg=>.inr hg) (λ_ _=>rfl)) (((az.at_ s1).2.1.alloc _).cell 0) (by have:=az.sz;omega) (λe=>by have:=ah _ e;omega) (by simp;exact⟨ay.2,by simp only[Ex.size]at aG;omega⟩) (by simpa using gX) (by simp) (by omega))
 simp only[ui,uF,uJ]at HWI;clear az be b0 b1 hi hv hS ay aG hB bI ah HV HW fs;go_enter Tryz.func117,Tryz.ntmps117
 go_upto_region 2 with fail
 try rw[ai]
 clear ai;go_wp2_with fail
 refine gL.out.mono ?_;rintro e1 w1 ⟨rfl,s1⟩;have S1:=wJ s1;have jo:=wJ (HWI.out w1 s1);clear s1 gL HWI g0 g1 g2 g3 g4 g5 g6 g7 g8 d0;obtain⟨b0,b1,gn,dy⟩:=bc.out.at_ S1.out;obtain⟨⟨g0,g1,g2,g3,g4,g5,g6,g7,g8⟩,-,-⟩:=zab b0;have d0:=b1.cell 0;replace d0:w1.cell? ⟨w.heap.size+1,0,none⟩=some (.func (.func k) #[] al):=d0;clear b0 b1;go_wp2_with fail
 refine jo.out.mono ?_;rintro e2 w2 ⟨rfl,s2⟩;have S2:=wJ s2;clear s2 jo gn g0 g1 g2 g3 g4 g5 g6 g7 g8 d0 dy;obtain⟨b0,b1,gn,dy⟩:=bc.out.at_ S2.out;obtain⟨⟨g0,g1,g2,g3,g4,g5,g6,g7,g8⟩,-,-⟩:=zab b0;have d0:=b1.cell 0;replace d0:w2.cell? ⟨w.heap.size+1,0,none⟩=some (.func (.func k) #[] al):=d0;clear b0 b1;go_wp2_with fail
 go_loopg [72] 0 (λgg vi wr=>gg=0/\vi=.int .i64 0/\Hid (wr=w2))
 case atStart=>exact⟨rfl,rfl,wJ rfl⟩
 case round =>
  obtain⟨rfl,rfl,hw⟩:=hrel;have hw:=hw.out;subst hw;go_wp2_with fail
  first|go_end0|refine ub (vE rfl _ _ _) rfl ?_
  refine⟨rfl,?_⟩;have:=S2.out.pre bM.out;rw[<-wk]
  exact this
theorem zif {σ:Type}(n k:Nat)(al:Array Value)(B:Nat)(I:Nat->σ->(Nat->Prop)->World->Prop)(st:Ev->σ->σ)(hI:InvB I)(ek:∀args w,(callFunc k args).run Tryz.prog w=.ok (.enter k args) w)(HV:VisE k al B I st)(HW:zcC n k al B I st)
  (a b:Ex)(c:Nat)(s:σ)(M S:Nat->Prop)(v:Value)(w:World)(hi:I c s M w)(hv:RdX S w (Ex.app a b:Ex) v)(hS:∀g,S g->g<w.heap.size/\¬M g)(ay:(Ex.app a b:Ex).Ok)(aG:(Ex.app a b:Ex).size<=n+1)(hB:c+cost (evs (Ex.app a b))<=B):Calls Tryz.prog 117 #[v,.func (.func k) #[] al] w λe' w'=>e'=.returned (.tuple #[])/\Sta I M w (c+cost (evs (Ex.app a b))) (runS st (evs (Ex.app a b)) s) w':=by
 have ew:∀args w,(callFunc 155 args).run Tryz.prog w=.ok (.enter 155 args) w:=enters_of Tryz.func155 (by kernel_rfl) rfl;have mk:∀(W:World) (p:Addr),(Instr.makeFunc (.func 155) #[] #[.pointer (some p)]).run Tryz.prog W=.ok (.func (.func 155) #[] #[.pointer (some p)]) W:=λ_ _=>rfl;obtain⟨K,X,Z,A0,m,q,KA,kc,LA,lc,rfl,bI⟩:=hv.shape;simp only[kdE,nmE,toE,zac,zad,ui,uF,uJ]at bI ⊢;have ah:=hI.lt _ _ _ _ hi;rw[show(⟨([]:Nm).toArray⟩:ByteArray)=⟨#[]⟩ from rfl]
 have jh:evs (Ex.app a b)=wEv [] [a,b]:=by simp[evs,wEv]
 rw[jh]at hB ⊢
 obtain⟨W0,ai⟩:∃W,(w.alloc (.cells #[.int .i64 4,.string ⟨#[]⟩,.bool false,.int .i64 K,.string X,.int .i64 Z,.slice A0 m q,.slice KA 2 kc,.slice LA 0 lc] 39)).alloc (.cells #[.func (.func k) #[] al] 187)=W:=⟨_,rfl⟩;have az:Box k al M S w W0 #[.int .i64 4,.string ⟨#[]⟩,.bool false,.int .i64 K,.string X,.int .i64 Z,.slice A0 m q,.slice KA 2 kc,.slice LA 0 lc]:=by
  refine⟨ai▸Blk.below (tW w _) ((ua _ _).alloc (tV _) _) (by simp),ai▸zaA _ _ _ _ rfl,by rw[<-ai];simp,ai▸((ua _ w).alloc (tV _) _).alloc (by simp) _,hS,ah⟩
 have be:=Sta.init (hI.keep _ _ _ _ W0 hi az.lw);have bc:=wJ az;have S0:=wJ be;have bM:=wJ az.lw;obtain⟨b0,b1,gn,-⟩:=az.at_ be;obtain⟨⟨g0,g1,g2,g3,g4,g5,g6,g7,g8⟩,-,-⟩:=zab b0;have d0:=b1.cell 0;replace d0:W0.cell? ⟨w.heap.size+1,0,none⟩=some (.func (.func k) #[] al):=d0;have fs:PartsAt S w [a,b] KA:=λ_=>by
  obtain⟨g,h1,h2,h3⟩:=((zce (Ex.app a b) KA LA).1 bI).1 (by simp[zac]);exact⟨g,0,h1,h2,h3⟩
 have jo:=wJ (wiS hI ek HV HW be (ua _ W0) S (λg hg=>az.old g hg) [a,b] [] KA kc none 0 (w.heap.size+1)
  (fs.keep (λ_ h=>h) (λg hg=>(az.at_ be).2.2.2 g hg)) (λh=>absurd rfl h) (az.b1.cell 0) (by have:=az.sz;omega) (λe=>by have:=ah _ e;omega) (by simp;exact⟨⟨ay.1,by simp only[Ex.size]at aG;omega⟩,ay.2,by simp only[Ex.size]at aG;omega⟩) (by simp) (by simp) hB)
 simp only[ui,uF,uJ]at jo;clear az be b0 b1 hi hv hS ay aG hB bI ah HV HW fs;go_enter Tryz.func117,Tryz.ntmps117
 go_upto_region 2 with fail
 try rw[ai]
 clear ai;go_wp2_with fail
 refine jo.out.mono ?_;rintro e1 w1 ⟨rfl,s1⟩;have S1:=wJ s1;clear s1 jo g0 g1 g2 g3 g4 g5 g6 g7 g8 d0;obtain⟨b0,b1,gn,dy⟩:=bc.out.at_ S1.out;obtain⟨⟨g0,g1,g2,g3,g4,g5,g6,g7,g8⟩,-,-⟩:=zab b0;have d0:=b1.cell 0;replace d0:w1.cell? ⟨w.heap.size+1,0,none⟩=some (.func (.func k) #[] al):=d0;clear b0 b1;go_wp2_with fail
 go_loopg [72] 0 (λgg vi wr=>gg=0/\vi=.int .i64 0/\Hid (wr=w1))
 case atStart=>exact⟨rfl,rfl,wJ rfl⟩
 case round =>
  obtain⟨rfl,rfl,hw⟩:=hrel;have hw:=hw.out;subst hw;go_wp2_with fail
  first|go_end0|refine ub (vE rfl _ _ _) rfl ?_
  refine⟨rfl,?_⟩;have:=S1.out.pre bM.out;exact this
theorem zih {σ:Type}(n k:Nat)(al:Array Value)(B:Nat)(I:Nat->σ->(Nat->Prop)->World->Prop)(st:Ev->σ->σ)(hI:InvB I)(ek:∀args w,(callFunc k args).run Tryz.prog w=.ok (.enter k args) w)(HV:VisE k al B I st)(HW:zcC n k al B I st)
  (a:Ex)(t:Ty)(c:Nat)(s:σ)(M S:Nat->Prop)(v:Value)(w:World)(hi:I c s M w)(hv:RdX S w (Ex.ann a t:Ex) v)(hS:∀g,S g->g<w.heap.size/\¬M g)(ay:(Ex.ann a t:Ex).Ok)(aG:(Ex.ann a t:Ex).size<=n+1)(hB:c+cost (evs (Ex.ann a t))<=B):Calls Tryz.prog 117 #[v,.func (.func k) #[] al] w λe' w'=>e'=.returned (.tuple #[])/\Sta I M w (c+cost (evs (Ex.ann a t))) (runS st (evs (Ex.ann a t)) s) w':=by
 have ew:∀args w,(callFunc 155 args).run Tryz.prog w=.ok (.enter 155 args) w:=enters_of Tryz.func155 (by kernel_rfl) rfl;have mk:∀(W:World) (p:Addr),(Instr.makeFunc (.func 155) #[] #[.pointer (some p)]).run Tryz.prog W=.ok (.func (.func 155) #[] #[.pointer (some p)]) W:=λ_ _=>rfl;obtain⟨K,X,Z,A0,m,q,KA,kc,LA,lc,rfl,bI⟩:=hv.shape;simp only[kdE,nmE,toE,zac,zad,ui,uF,uJ]at bI ⊢;have ah:=hI.lt _ _ _ _ hi;rw[show(⟨([]:Nm).toArray⟩:ByteArray)=⟨#[]⟩ from rfl]
 have jh:evs (Ex.ann a t)=wEv [] [a]:=by simp[evs,wEv]
 rw[jh]at hB ⊢
 obtain⟨W0,ai⟩:∃W,(w.alloc (.cells #[.int .i64 7,.string ⟨#[]⟩,.bool false,.int .i64 K,.string X,.int .i64 Z,.slice A0 m q,.slice KA 1 kc,.slice LA 0 lc] 39)).alloc (.cells #[.func (.func k) #[] al] 187)=W:=⟨_,rfl⟩;have az:Box k al M S w W0 #[.int .i64 7,.string ⟨#[]⟩,.bool false,.int .i64 K,.string X,.int .i64 Z,.slice A0 m q,.slice KA 1 kc,.slice LA 0 lc]:=by
  refine⟨ai▸Blk.below (tW w _) ((ua _ _).alloc (tV _) _) (by simp),ai▸zaA _ _ _ _ rfl,by rw[<-ai];simp,ai▸((ua _ w).alloc (tV _) _).alloc (by simp) _,hS,ah⟩
 have be:=Sta.init (hI.keep _ _ _ _ W0 hi az.lw);have bc:=wJ az;have S0:=wJ be;have bM:=wJ az.lw;obtain⟨b0,b1,gn,-⟩:=az.at_ be;obtain⟨⟨g0,g1,g2,g3,g4,g5,g6,g7,g8⟩,-,-⟩:=zab b0;have d0:=b1.cell 0;replace d0:W0.cell? ⟨w.heap.size+1,0,none⟩=some (.func (.func k) #[] al):=d0;have fs:PartsAt S w [a] KA:=λ_=>by
  obtain⟨g,h1,h2,h3⟩:=((zce (Ex.ann a t) KA LA).1 bI).1 (by simp[zac]);exact⟨g,0,h1,h2,h3⟩
 have jo:=wJ (wiS hI ek HV HW be (ua _ W0) S (λg hg=>az.old g hg) [a] [] KA kc none 0 (w.heap.size+1)
  (fs.keep (λ_ h=>h) (λg hg=>(az.at_ be).2.2.2 g hg)) (λh=>absurd rfl h) (az.b1.cell 0) (by have:=az.sz;omega) (λe=>by have:=ah _ e;omega) (by simp;exact⟨ay.1,by simp only[Ex.size]at aG;omega⟩) (by simp) (by simp) hB)
 simp only[ui,uF,uJ]at jo;clear az be b0 b1 hi hv hS ay aG hB bI ah HV HW fs;go_enter Tryz.func117,Tryz.ntmps117
 go_upto_region 2 with fail
 try rw[ai]
 clear ai;go_wp2_with fail
 refine jo.out.mono ?_;rintro e1 w1 ⟨rfl,s1⟩;have S1:=wJ s1;clear s1 jo g0 g1 g2 g3 g4 g5 g6 g7 g8 d0;obtain⟨b0,b1,gn,dy⟩:=bc.out.at_ S1.out;obtain⟨⟨g0,g1,g2,g3,g4,g5,g6,g7,g8⟩,-,-⟩:=zab b0;have d0:=b1.cell 0;replace d0:w1.cell? ⟨w.heap.size+1,0,none⟩=some (.func (.func k) #[] al):=d0;clear b0 b1;go_wp2_with fail
 go_loopg [72] 0 (λgg vi wr=>gg=0/\vi=.int .i64 0/\Hid (wr=w1))
 case atStart=>exact⟨rfl,rfl,wJ rfl⟩
 case round =>
  obtain⟨rfl,rfl,hw⟩:=hrel;have hw:=hw.out;subst hw;go_wp2_with fail
  first|go_end0|refine ub (vE rfl _ _ _) rfl ?_
  refine⟨rfl,?_⟩;have:=S1.out.pre bM.out;exact this
set_option maxRecDepth 100000
theorem zjx {σ:Type}(n k:Nat)(al:Array Value)(B:Nat)(I:Nat->σ->(Nat->Prop)->World->Prop)(st:Ev->σ->σ)(hI:InvB I)(ek:∀args w,(callFunc k args).run Tryz.prog w=.ok (.enter k args) w)(HV:VisE k al B I st)(HW:zcC n k al B I st)
  (x:Nm)(t:Option Ty)(a b:Ex)(c:Nat)(s:σ)(M S:Nat->Prop)(v:Value)(w:World)(hi:I c s M w)(hv:RdX S w (Ex.lt x t a b:Ex) v)(hS:∀g,S g->g<w.heap.size/\¬M g)(ay:(Ex.lt x t a b:Ex).Ok)(aG:(Ex.lt x t a b:Ex).size<=n+1)(hB:c+cost (evs (Ex.lt x t a b))<=B):Calls Tryz.prog 117 #[v,.func (.func k) #[] al] w λe' w'=>e'=.returned (.tuple #[])/\Sta I M w (c+cost (evs (Ex.lt x t a b))) (runS st (evs (Ex.lt x t a b)) s) w':=by
 have ew:∀args w,(callFunc 155 args).run Tryz.prog w=.ok (.enter 155 args) w:=enters_of Tryz.func155 (by kernel_rfl) rfl;have mk:∀(W:World) (p:Addr),(Instr.makeFunc (.func 155) #[] #[.pointer (some p)]).run Tryz.prog W=.ok (.func (.func 155) #[] #[.pointer (some p)]) W:=λ_ _=>rfl;obtain⟨K,X,Z,A0,m,q,KA,kc,LA,lc,rfl,bI⟩:=hv.shapeC;simp only[kdE,nmE,zac,zad,ui,uF,uJ]at bI ⊢;have ah:=hI.lt _ _ _ _ hi;obtain⟨T,hT⟩:∃T,toE (Ex.lt x t a b)=T:=⟨_,rfl⟩;rw[hT]
 obtain⟨Y,hY⟩:∃Y:ByteArray,⟨x.toArray⟩=Y:=⟨_,rfl⟩;rw[hY]
 have gX:x.length<=24:=zaQ (show Gd 1 x from ay.1) (by decide);have jh:evs (Ex.lt x t a b)=.bi [x]::(wEv [] [a]++wEv [x] [b]):=by simp[evs,wEv]
 rw[jh]at hB ⊢
 rw[zaz,zax]at hB ⊢
 rw[zbt,zcx]
 simp only[evL,ui,uF,uJ]at hB ⊢;obtain⟨g,rfl,hgS,nC⟩:=((zce (Ex.lt x t a b) KA LA).1 bI).1 (by simp[zac]);simp only[zac,ExsAt]at nC;have kX:PartsAt S w [a] (some ⟨g,0,none⟩):=λ_=>⟨g,0,rfl,hgS,by rw[ExsAt,ExsAt];exact⟨nC.1,trivial⟩⟩;have hpb:PartsAt S w [b] (some ⟨g,9,none⟩):=λ_=>⟨g,9,rfl,hgS,by rw[ExsAt,ExsAt];exact⟨nC.2.1,trivial⟩⟩;obtain⟨KC,hKC⟩:∃KC,2+kc=KC:=⟨_,rfl⟩;rw[hKC]
 have hK0:(0:Int)<=(KC:Int):=by omega
 have hK1:(1:Int)<=(KC:Int):=by omega
 have hK2:(2:Int)<=(KC:Int):=by omega
 have hKA:(if KC=1 then some (⟨g,0,none⟩:Addr) else some ⟨g,9,none⟩)=some ⟨g,9,none⟩:=ue (by omega);clear nC hKC;obtain⟨W0,ai⟩:∃W,(w.alloc (.cells #[.int .i64 5,.string Y,.bool T,.int .i64 K,.string X,.int .i64 Z,.slice A0 m q,.slice (some ⟨g,0,none⟩) 2 KC,.slice LA 0 lc] 39)).alloc (.cells #[.func (.func k) #[] al] 187)=W:=⟨_,rfl⟩;have az:Box k al M S w W0 #[.int .i64 5,.string Y,.bool T,.int .i64 K,.string X,.int .i64 Z,.slice A0 m q,.slice (some ⟨g,0,none⟩) 2 KC,.slice LA 0 lc]:=by
  refine⟨ai▸Blk.below (tW w _) ((ua _ _).alloc (tV _) _) (by simp),ai▸zaA _ _ _ _ rfl,by rw[<-ai];simp,ai▸((ua _ w).alloc (tV _) _).alloc (by simp) _,hS,ah⟩
 have be:=Sta.init (hI.keep _ _ _ _ W0 hi az.lw);have bc:=wJ az;have S0:=wJ be;have bM:=wJ az.lw;obtain⟨b0,b1,gn,-⟩:=az.at_ be;obtain⟨⟨g0,g1,g2,g3,g4,g5,g6,g7,g8⟩,-,-⟩:=zab b0;have d0:=b1.cell 0;replace d0:W0.cell? ⟨w.heap.size+1,0,none⟩=some (.func (.func k) #[] al):=d0;have gL:=wJ (ev1 hI HV be (.bi [x]) x Y 2 rfl rfl hY gX (by omega));simp only[evW]at gL;have nK:=wJ (λ(d:Nat) (w1:World) (s1:Sta I M W0 (c+2) (st (.bi [x]) s) w1)=>wiS hI ek HV HW s1 (ua _ w1) S (λg hg=>az.old g hg) [a] [] (some ⟨g,0,none⟩) d none 0 (w.heap.size+1)
  (kX.keep (λ_ h=>h) (λg hg=>(az.at_ s1).2.2.2 g hg)) (λh=>absurd rfl h) ((az.at_ s1).2.1.cell 0) (by have:=az.sz;omega) (λe=>by have:=ah _ e;omega) (by simp;exact⟨ay.2.2.1,by simp only[Ex.size]at aG;omega⟩) (by simp) (by simp) (by omega))
 simp only[ui,uF,uJ]at nK;have nJ:=wJ (λ(d:Nat) (w1 Wc:World) (s1:Sta I M W0 (c+2+cost (wEv [] [a])) (runS st (wEv [] [a]) (st (.bi [x]) s)) w1) (hb:Below w1.heap.size w1 Wc) (hn:Blk Wc w1.heap.size 9 #[.string Y])=>wiS hI ek HV HW s1 hb (λg=>S g\/g=w1.heap.size) (λg hg=>by
   rcases hg with h|h
   ·exact az.old g h
   ·exact .inr ⟨by omega,by rw[h];exact hn.lt⟩) [b] [x] (some ⟨g,9,none⟩) d (some ⟨w1.heap.size,0,none⟩) 1 (w.heap.size+1)
  (hpb.keep (λg hg=>.inl hg) (λg hg=>(hb.block g (by have:=(hS g hg).1;have:=(az.at_ s1).2.2.1;omega)).trans ((az.at_ s1).2.2.2 g hg)))
  (λ_=>⟨_,rfl,.inr rfl,zct hn |> λh=>by simpa[Sx.strV,hY] using h⟩) ((Blk.below (az.at_ s1).2.1 hb (by have:=(az.at_ s1).2.2.1;omega)).cell 0) (by have:=az.sz;omega) (λe=>by have:=ah _ e;omega) (by simp;exact⟨ay.2.2.2,by simp only[Ex.size]at aG;omega⟩) (by simpa using gX) (by simp) (by omega))
 simp only[ui,uF,uJ]at nJ;clear az be b0 b1 hi hv hS ay aG hB bI ah HV HW kX hpb hgS;go_enter Tryz.func117,Tryz.ntmps117
 go_upto_region 2 with fail
 try rw[ai]
 clear ai;go_wp2_with fail
 refine gL.out.mono ?_;rintro e1 w1 ⟨rfl,s1⟩;have S1:=wJ s1;have s5:=wJ (λd=>nK.out d w1 s1);clear s1 gL nK g0 g1 g2 g3 g4 g5 g6 g7 g8 d0;obtain⟨b0,b1,gn,dy⟩:=bc.out.at_ S1.out;obtain⟨⟨g0,g1,g2,g3,g4,g5,g6,g7,g8⟩,-,-⟩:=zab b0;have d0:=b1.cell 0;replace d0:w1.cell? ⟨w.heap.size+1,0,none⟩=some (.func (.func k) #[] al):=d0;clear b0 b1;go_wp2_with fail
 refine(s5.out _).mono ?_;rintro e2 w2 ⟨rfl,s2⟩;have S2:=wJ s2;have sZ:=wJ (λd Wc=>nJ.out d w2 Wc s2);clear s2 s5 nJ gn g0 g1 g2 g3 g4 g5 g6 g7 g8 d0 dy;obtain⟨b0,b1,gn,dy⟩:=bc.out.at_ S2.out;obtain⟨⟨g0,g1,g2,g3,g4,g5,g6,g7,g8⟩,-,-⟩:=zab b0;have d0:=b1.cell 0;replace d0:w2.cell? ⟨w.heap.size+1,0,none⟩=some (.func (.func k) #[] al):=d0;clear b0 b1;have fF:Hid (∀W:World,Below w2.heap.size w2 W->W.cell? ⟨w.heap.size,7,none⟩=some (.slice (some ⟨g,0,none⟩) 2 KC)/\W.cell? ⟨w.heap.size,1,none⟩=some (.string Y)):=wJ (λW hW=>⟨(hW.cell (by show w.heap.size<_;omega)).trans g7,(hW.cell (by show w.heap.size<_;omega)).trans g1⟩);rw[show min (1:Int) 2=1 from rfl]
 go_wp2_with fail
 go_region_held3 (λW:World=>W.cell? ⟨w.heap.size,7,none⟩=some (.slice (some ⟨g,0,none⟩) 2 KC)/\W.cell? ⟨w.heap.size,1,none⟩=some (.string Y)) (first|(exact⟨g7,g1⟩)|(refine fF.out _ ?_;repeat first|exact ua _ _|(refine uN ?_ (by first|omega|(simp;done)|(simp;omega)) _)|(refine uQ ?_)))
  (first
   |((with_reducible refine(sZ.out _ _ ?hb ?hn).mono ?hm);(case hb=>exact((ua _ _).alloc (tV _) _).drew);(case hn=>exact tW _ _);rintro e3 w3 ⟨rfl,s3⟩;have S3:=wJ s3;clear s3 sZ gn g0 g1 g2 g3 g4 g5 g6 g7 g8 d0 dy;obtain⟨b0,b1,gn,dy⟩:=bc.out.at_ S3.out;obtain⟨⟨g0,g1,g2,g3,g4,g5,g6,g7,g8⟩,-,-⟩:=zab b0;clear b0 b1 dy))
 go_wp2_with fail
 go_loopg [72] 0 (λgg vi wr=>gg=0/\vi=.int .i64 0/\Hid (wr=w3))
 case atStart=>exact⟨rfl,rfl,wJ rfl⟩
 case round =>
  obtain⟨rfl,rfl,hw⟩:=hrel;have hw:=hw.out;subst hw;go_wp2_with fail
  first|go_end0|refine ub (vE rfl _ _ _) rfl ?_
  refine⟨rfl,?_⟩;have:=S3.out.pre bM.out;rw[<-wk,<-wk]
  exact this
set_option maxRecDepth 100000
theorem zeK(a b:List Al):evsA (a++b)=evsA a++evsA b:=by
 induction a with
 |nil=>simp[evsA]
 |cons x r ih=>simp[evsA,ih]
theorem zf8(l:List Al)(i:Nat)(x:Al)(h:l[i]?=some x):evsA (l.take (i+1))=evsA (l.take i)++evs1 x:=by
 rw[uL,h,zeK]
 simp[evsA]
theorem zm1(l:List Al)(i:Nat):cost (evsA (l.take i))<=cost (evsA l):=by
 have:=uC (λl=>cost (evsA l)) (vQ i l);simp only[zeK,zax]at this;omega
theorem zk7:∀(l:List Al)(i:Nat)(x:Al),okA l->l[i]?=some x->x.Ok
 |[],_,_,_,h=>by simp at h
 |a::r,0,x,h,hx=>by
  rw[okA]at h
  simp at hx;exact hx▸h.1
 |a::r,i+1,x,h,hx=>by
  rw[okA]at h
  exact zk7 r i x h.2 (by simpa using hx)
theorem zhl:∀(l:List Al)(i:Nat)(x:Al),l[i]?=some x->x.size<=zbn l
 |[],_,_,h=>by simp at h
 |a::r,0,x,hx=>by
  simp at hx;rw[zbn,hx]
  omega
 |a::r,i+1,x,hx=>by
  have:=zhl r i x (by simpa using hx);rw[zbn]
  omega
theorem zeZ(e:Ex):1<=e.size:=by cases e <;> simp only[Ex.size] <;> omega
theorem ziQ:∀l:List Al,l.length<=zbn l
 |[]=>by simp
 |.mk _ _ b::r=>by
  have:=ziQ r;have:=zeZ b;rw[zbn,Al.size,ui]
  omega
theorem AlIn.full {S:Nat->Prop} {w:World} {c:Nm} {vs:List Nm} {b:Ex} {g o:Nat}(h:AlIn S w (.mk c vs b) g o):∃V v,w.cell? ⟨g,o,none⟩=some (Sx.strV c)/\w.cell? ⟨g,o+1,none⟩=some (.slice V vs.length v)/\NmsIn S w vs V/\ExAt S w b g (o+2):=by
 rw[AlIn]at h
 obtain⟨h1,⟨V,v,h2,h4⟩,h3⟩:=h;exact⟨V,v.1,h1,h2,h4,h3⟩
theorem RdX.lay {S S':Nat->Prop} {w w':World} {e:Ex} {cs:Array Value} {g:Nat} {t:TypeId}(h:RdX S w e (.agg cs))(hS:∀k,S k->S' k)(hk:∀k,S k->w'.heap[k]?=w.heap[k]?)(hl:Blk w' g t cs):ExAt S' w' e g 0:=by
 obtain⟨P,hv,h2,h3⟩:=h;injection hv with hv;subst hv;exact zcf (y:=e) (cs:=exC e P) ⟨P,rfl,h2,h3⟩ hS hk hl
theorem Sta.join {σ:Type} {I:Nat->σ->(Nat->Prop)->World->Prop} {M0 M1:Nat->Prop} {w0 wa W:World} {c:Nat} {s:σ}(hm:∀g,M1 g->M0 g\/w0.heap.size<=g)(hc:Chg M0 w0 wa)(h:Sta I M1 wa c s W):Sta I M0 w0 c s W:=by
 obtain⟨M',k1,k2,k3⟩:=h;refine⟨M',k1,λg hg=>?_,hc.trans' k3 (λi hi hm'=>?_)⟩
 ·rcases k2 g hg with h|h
  ·exact hm g h
  ·exact .inr (uX hc.size h)
 ·rcases hm i hm' with h|h
  ·exact h
  ·omega
structure Rb (k:Nat) (al:Array Value) (M1 S:Nat->Prop) (w wa:World) (bx ba:Nat) (cs:Array Value):Prop where
 b1:Blk wa bx 187 #[.func (.func k) #[] al]
 b2:Blk wa ba 170 cs
 n1:¬M1 bx
 na:¬M1 ba
 s:∀g,S g->g<wa.heap.size/\¬M1 g
 k:∀g,S g->wa.heap[g]?=w.heap[g]?
theorem Rb.at_ {σ:Type} {I:Nat->σ->(Nat->Prop)->World->Prop} {k:Nat} {al cs:Array Value} {M1 S:Nat->Prop} {w wa W:World} {bx ba c:Nat} {s:σ}(h:Rb k al M1 S w wa bx ba cs)(hs:Sta I M1 wa c s W):Blk W bx 187 #[.func (.func k) #[] al]/\Blk W ba 170 cs/\wa.heap.size<=W.heap.size/\∀g,S g->W.heap[g]?=w.heap[g]? :=
 ⟨h.b1.same (hs.block _ h.b1.lt h.n1),h.b2.same (hs.block _ h.b2.lt h.na),hs.size,λg hg=>(hs.block g (h.s g hg).1 (h.s g hg).2).trans (h.k g hg)⟩
theorem zjy {σ:Type}(n k:Nat)(al:Array Value)(B:Nat)(I:Nat->σ->(Nat->Prop)->World->Prop)(st:Ev->σ->σ)(hI:InvB I)(ek:∀args w,(callFunc k args).run Tryz.prog w=.ok (.enter k args) w)(HV:VisE k al B I st)(HW:zcC n k al B I st)
  (e:Ex)(l:List Al)(c:Nat)(s:σ)(M S:Nat->Prop)(v:Value)(w:World)(hi:I c s M w)(hv:RdX S w (Ex.cs e l:Ex) v)(hS:∀g,S g->g<w.heap.size/\¬M g)(ay:(Ex.cs e l:Ex).Ok)(aG:(Ex.cs e l:Ex).size<=n+1)(hn:n<=90000)(hB:c+cost (evs (Ex.cs e l))<=B):Calls Tryz.prog 117 #[v,.func (.func k) #[] al] w λe' w'=>e'=.returned (.tuple #[])/\Sta I M w (c+cost (evs (Ex.cs e l))) (runS st (evs (Ex.cs e l)) s) w':=by
 have ew:∀args w,(callFunc 155 args).run Tryz.prog w=.ok (.enter 155 args) w:=enters_of Tryz.func155 (by kernel_rfl) rfl;have mk:∀(W:World) (p:Addr),(Instr.makeFunc (.func 155) #[] #[.pointer (some p)]).run Tryz.prog W=.ok (.func (.func 155) #[] #[.pointer (some p)]) W:=λ_ _=>rfl;obtain⟨K,X,Z,A0,m,q,KA,kc,LA,lc,rfl,bI⟩:=hv.shape;simp only[kdE,nmE,toE,zac,zad,ui,uF,uJ]at bI ⊢;have ah:=hI.lt _ _ _ _ hi;rw[show(⟨([]:Nm).toArray⟩:ByteArray)=⟨#[]⟩ from rfl]
 obtain⟨N,hN⟩:∃N,l.length=N:=⟨_,rfl⟩;rw[hN]
 have jh:evs (Ex.cs e l)=wEv [] [e]++evsA l:=by simp[evs,wEv]
 rw[jh]at hB ⊢
 obtain⟨E0,hE0⟩:∃E0,wEv [] [e]=E0:=⟨_,rfl⟩;rw[hE0]at hB ⊢
 obtain⟨W0,ai⟩:∃W,(w.alloc (.cells #[.int .i64 6,.string ⟨#[]⟩,.bool false,.int .i64 K,.string X,.int .i64 Z,.slice A0 m q,.slice KA 1 kc,.slice LA N lc] 39)).alloc (.cells #[.func (.func k) #[] al] 187)=W:=⟨_,rfl⟩;have az:Box k al M S w W0 #[.int .i64 6,.string ⟨#[]⟩,.bool false,.int .i64 K,.string X,.int .i64 Z,.slice A0 m q,.slice KA 1 kc,.slice LA N lc]:=by
  refine⟨ai▸Blk.below (tW w _) ((ua _ _).alloc (tV _) _) (by simp),ai▸zaA _ _ _ _ rfl,by rw[<-ai];simp,ai▸((ua _ w).alloc (tV _) _).alloc (by simp) _,hS,ah⟩
 have be:=Sta.init (hI.keep _ _ _ _ W0 hi az.lw);have bc:=wJ az;have S0:=wJ be;have bM:=wJ az.lw;obtain⟨b0,b1,gn,-⟩:=az.at_ be;obtain⟨⟨g0,g1,g2,g3,g4,g5,g6,g7,g8⟩,-,-⟩:=zab b0;have d0:=b1.cell 0;replace d0:W0.cell? ⟨w.heap.size+1,0,none⟩=some (.func (.func k) #[] al):=d0;have fs:PartsAt S w [e] KA:=λ_=>by
  obtain⟨g,h1,h2,h3⟩:=((zce (Ex.cs e l) KA LA).1 bI).1 (by simp[zac]);exact⟨g,0,h1,h2,h3⟩
 have hN9:N<=90000:=by have:=ziQ l;have:=zeZ e;simp only[Ex.size]at aG;omega
 have HALT:=wJ (λi x (hx:l[i]?=some x)=>ExIn.alt (e:=Ex.cs e l) bI i x hx);have hBB:∀i x,l[i]?=some x->c+cost (E0++evsA (l.take i))+cost (evs1 x)<=B:=λi x hx=>by
  have h1:=zm1 l (i+1);rw[zf8 l i x hx,zax]at h1
  rw[zax]at hB ⊢
  omega
 have jW:=wJ hBB;have gb:=wJ (λi x (hx:l[i]?=some x)=>zk7 l i x ay.2 hx);have tg:=wJ (λi (x:Al) (hx:l[i]?=some x)=>show x.size<=n by have:=zhl l i x hx;simp only[Ex.size]at aG;omega);have jo:=wJ (wiS hI ek HV HW be (ua _ W0) S (λg hg=>az.old g hg) [e] [] KA kc none 0 (w.heap.size+1)
  (fs.keep (λ_ h=>h) (λg hg=>(az.at_ be).2.2.2 g hg)) (λh=>absurd rfl h) (az.b1.cell 0) (by have:=az.sz;omega) (λe=>by have:=ah _ e;omega) (by simp;exact⟨ay.1,by simp only[Ex.size]at aG;omega⟩) (by simp) (by simp) (by rw[hE0];rw[zax]at hB;omega))
 simp only[ui,uF,uJ,hE0]at jo;have HI:=wJ hI;have iq:=wJ HV;have im:=wJ HW;have HS:=wJ hS;have HM:=wJ ah;have HN:=wJ hN;have tI:=wJ az.sz;clear az be b0 b1 hi hv hS ay aG hB bI ah HV HW fs hBB hN;go_enter Tryz.func117,Tryz.ntmps117
 go_upto_region 2 with fail
 try rw[ai]
 clear ai;go_wp2_with fail
 refine jo.out.mono ?_;rintro e1 w1 ⟨rfl,s1⟩;have S1:=wJ s1;clear s1 jo g0 g1 g2 g3 g4 g5 g6 g7 g8 d0;obtain⟨b0,b1,gn,dy⟩:=bc.out.at_ S1.out;obtain⟨⟨g0,g1,g2,g3,g4,g5,g6,g7,g8⟩,-,-⟩:=zab b0;have d0:=b1.cell 0;replace d0:w1.cell? ⟨w.heap.size+1,0,none⟩=some (.func (.func k) #[] al):=d0;clear b0 b1;clear dy;go_wp2_with fail
 clear g0 g1 g2 g3 g4 g5 g6 g7 g8 d0;go_loopg [72] N (λgg vi wr=>∃j:Nat,gg=N-j/\vi=.int .i64 (j:Nat)/\j<=N/\Hid (Sta I M W0 (c+cost (E0++evsA (l.take j))) (runS st (E0++evsA (l.take j)) s) wr))
 case atStart =>
  refine⟨0,rfl,rfl,by omega,wJ ?_⟩;have:=S1.out;simpa[evsA] using this
 case round =>
  obtain⟨j,rfl,rfl,hj,be⟩:=hrel;clear S1;by_cases cg:j<N
  ·obtain⟨x,hx⟩:∃x,l[j]?=some x:=⟨_,ug (by rw[HN.out];exact cg)⟩
   obtain⟨M1,i1,oo,cP⟩:=be.out;have om:=HI.out.lt _ _ _ _ i1;obtain⟨aK,aN,hszz,pC⟩:=bc.out.at_ be.out;obtain⟨g,rfl,bh,aH⟩:=HALT.out j x hx;obtain⟨cn,vs,b⟩:=x;obtain⟨V,vc,f0,f1,eC,bQ⟩:=AlIn.full (AlIn.keep (λ_ h=>h) pC _ g _ (pC g bh) aH);obtain⟨k1,x1,t1,K1,X1,Z1,B1,m1,q1,cE,cz,cA,cD,cw,cy,f2,f3,f4,f5,f6,f7,f8,f9,f10,aq⟩:=bQ.cells;have aV:=zaj f0;have lB:=gb.out j _ hx;have rv:=tg.out j _ hx;have dY:=jW.out j _ hx;have lZ:=wJ (zf8 l j _ hx);obtain⟨Y,hY⟩:∃Y:ByteArray,⟨cn.toArray⟩=Y:=⟨_,rfl⟩;simp only[Sx.strV,hY]at f0;obtain⟨vn,dU⟩:∃vn,vs.length=vn:=⟨_,rfl⟩;rw[dU]at f1
   have pE:evs1 (.mk cn vs b)=.cn cn::.bi vs::wEv vs [b]:=by simp[evs1,wEv]
   rw[pE,zaz,zaz]at dY
   simp only[evL,dU]at dY;obtain⟨Cj,hCj⟩:∃Cj,c+cost (E0++evsA (l.take j))=Cj:=⟨_,rfl⟩;obtain⟨Sj,hSj⟩:∃Sj,runS st (E0++evsA (l.take j)) s=Sj:=⟨_,rfl⟩;rw[hCj]at dY
   rw[hCj,hSj]at i1
   have gB:=wJ (And.intro hCj hSj);obtain⟨wa,hwa⟩:∃wa,wr.alloc (.cells #[.string Y,.slice V vn vc,.int .i64 k1,.string x1,.bool t1,.int .i64 K1,.string X1,.int .i64 Z1,.slice B1 m1 q1,.slice cE cz cA,.slice cD cw cy] 170)=wa:=⟨_,rfl⟩;have rk:Below wr.heap.size wr wa:=hwa▸(ua _ wr).alloc (tV _) _;have hwz:wa.heap.size=wr.heap.size+1:=by rw[<-hwa];simp
   have j3:Rb k al M1 S w wa (w.heap.size+1) wr.heap.size #[.string Y,.slice V vn vc,.int .i64 k1,.string x1,.bool t1,.int .i64 K1,.string X1,.int .i64 Z1,.slice B1 m1 q1,.slice cE cz cA,.slice cD cw cy]:=by
    refine⟨aN.below rk (by omega),hwa▸tW wr _,λe=>?_,λe=>by have:=om _ e;omega,λg hg=>⟨by have:=(HS.out g hg).1;omega,λe=>?_⟩,λg hg=>(rk.block g (by have:=(HS.out g hg).1;omega)).trans (pC g hg)⟩
    ·rcases oo _ e with h|h
     ·have:=HM.out _ h;omega
     ·have:=tI.out;omega
    ·rcases oo _ e with h|h
     ·exact(HS.out g hg).2 h
     ·have:=(HS.out g hg).1;have:=tI.out;omega
   have lj:=wJ j3;have HJ:=wJ (λc' s' W (h:Sta I M1 wa c' s' W)=>Sta.join oo (cP.below rk) h);have hsa:Sta I M1 wa Cj Sj wa:=Sta.init (HI.out.keep _ _ _ _ wa i1 rk);have HSA:=wJ hsa;have gL:=wJ (ev1 HI.out iq.out hsa (.cn cn) cn Y 1 rfl rfl hY (zaQ lB.1 (by decide)) (by omega));simp only[evW]at gL;rw[hwz]at gL
   have p9:=wJ (λw1 (s1:Sta I M1 wa (Cj+1) (st (.cn cn) Sj) w1)=>evS HI.out iq.out s1 (ua _ w1) S (λg hg=>.inl (j3.s g hg)) (.bi vs) V vc (eC.keep (λ_ h=>h) (λg hg=>((j3.at_ s1).2.2.2 g hg).trans (pC g hg).symm)) (λx hx=>zaQ (lB.2.1 x hx) (by decide)) (by simp only[evL,dU];omega));simp only[evW,evN,evL,dU]at p9;have jM:=wJ (λ(d:Nat) w2 (s2:Sta I M1 wa (Cj+1+(vn+1)) (st (.bi vs) (st (.cn cn) Sj)) w2)=>wiS HI.out ek iq.out im.out s2 ((ua _ w2).alloc (tV _) (.cells #[.int .i64 k1,.string x1,.bool t1,.int .i64 K1,.string X1,.int .i64 Z1,.slice B1 m1 q1,.slice cE cz cA,.slice cD cw cy] 39)) (λg=>S g\/g=w2.heap.size) (λg hg=>by
     rcases hg with h|h
     ·exact .inl (j3.s g h)
     ·exact .inr ⟨by omega,by simp;omega⟩) [b] vs (some ⟨w2.heap.size,0,none⟩) d V vc (w.heap.size+1)
    (λ_=>⟨_,0,rfl,.inr rfl,by
     rw[ExsAt,ExsAt]
     exact⟨RdX.lay aq (λ_ h=>.inl h) (λg hg=>(uc _ _ _ (by have:=(j3.s g hg).1;have:=s2.size;omega)).trans (((j3.at_ s2).2.2.2 g hg).trans (pC g hg).symm)) (tW w2 _),trivial⟩⟩)
    (eC.keep (λ_ h=>.inl h) (λg hg=>(uc _ _ _ (by have:=(j3.s g hg).1;have:=s2.size;omega)).trans (((j3.at_ s2).2.2.2 g hg).trans (pC g hg).symm)))
    (((j3.at_ s2).1.alloc _).cell 0) j3.b1.lt j3.n1 (by simp;exact⟨lB.2.2,rv⟩) (λx hx=>zaQ (lB.2.1 x hx) (by decide)) (by simp) (by omega))
   simp only[ui,uF,uJ,dU]at jM;have jq:=wJ dU;have mY:=wJ pE;clear hx aH bh eC bQ aq lB rv dY pC oo om cP i1 aK j3 hsa hCj hSj pE dU rk;have ji:=aN.cell 0;replace ji:wr.cell? ⟨w.heap.size+1,0,none⟩=some (.func (.func k) #[] al):=ji;clear aN;obtain⟨e1,ea,-,-⟩:=lj.out.at_ HSA.out;obtain⟨⟨a0,a1,a2,a3,a4,a5,a6,a7,a8,a9,eD⟩,-,-⟩:=zaO ea;have d0:=e1.cell 0;replace d0:wa.cell? ⟨w.heap.size+1,0,none⟩=some (.func (.func k) #[] al):=d0;clear e1 ea;go_wp2_with fail
   try rw[hwa]
   go_wp2_with fail
   refine gL.out.mono ?_;rintro e2 w2 ⟨rfl,s2⟩;have S2:=wJ s2;have lr:=wJ (p9.out w2 s2);clear s2 gL p9 a0 a1 a2 a3 a4 a5 a6 a7 a8 a9 eD d0;obtain⟨e1,ea,hzw,rX⟩:=lj.out.at_ S2.out;obtain⟨⟨a0,a1,a2,a3,a4,a5,a6,a7,a8,a9,eD⟩,-,-⟩:=zaO ea;have d0:=e1.cell 0;replace d0:w2.cell? ⟨w.heap.size+1,0,none⟩=some (.func (.func k) #[] al):=d0;clear e1 ea rX;go_wp2_with fail
   refine lr.out.mono ?_;rintro e3 w3 ⟨rfl,s3⟩;have S3:=wJ s3;have HW4:=wJ (λd=>jM.out d w3 s3);clear s3 lr jM hzw a0 a1 a2 a3 a4 a5 a6 a7 a8 a9 eD d0;obtain⟨e1,ea,hzw,rX⟩:=lj.out.at_ S3.out;obtain⟨⟨a0,a1,a2,a3,a4,a5,a6,a7,a8,a9,eD⟩,-,-⟩:=zaO ea;have d0:=e1.cell 0;replace d0:w3.cell? ⟨w.heap.size+1,0,none⟩=some (.func (.func k) #[] al):=d0;clear e1 ea rX;have ax:wr.heap.size<w3.heap.size:=by omega
   have hnw:wr.heap.size≠w3.heap.size:=by omega
   go_wp2_with fail
   refine(HW4.out _).mono ?_;rintro e4 w4 ⟨rfl,s4⟩;have S4:=wJ s4;clear s4 HW4 hzw a0 a1 a2 a3 a4 a5 a6 a7 a8 a9 eD d0;go_wp2_with fail
   go_roundg (N-(j+1))
   case measure=>omega
   case rel =>
    refine⟨j+1,rfl,by go_num,by omega,wJ ?_⟩;have:=HJ.out _ _ _ S4.out;rw[lZ.out,mY.out,<-uy,zax,zaz,zaz,zcx,zbt,zbt,gB.out.2,<-wk,gB.out.1]
    simp only[evL,jq.out];rw[show Cj+(1+(vn+1+cost (wEv vs [b])))=Cj+1+(vn+1)+cost (wEv vs [b]) by omega]
    exact this
  ·obtain rfl:j=N:=by omega
   go_wp2_with fail
   first|go_end0|refine ub (vE rfl _ _ _) rfl ?_
   refine⟨rfl,?_⟩;have:=be.out.pre bM.out;rw[show l.take j=l from ur (by rw[HN.out];exact tV _)]at this
   exact this
theorem zf9 {σ:Type}(k:Nat)(al:Array Value)(B:Nat)(I:Nat->σ->(Nat->Prop)->World->Prop)(st:Ev->σ->σ)(hI:InvB I)(ek:∀args w,(callFunc k args).run Tryz.prog w=.ok (.enter k args) w)(HV:VisE k al B I st):∀n,n<=90001->zcC n k al B I st:=by
 intro n;induction n with
 |zero=>intro _ c s M e S v w hz;have:=zeZ e;omega
 |succ n ih =>
  intro hn c s M e S v w hz hi hv hS ay hB;have HW:=ih (by omega);cases e with
  |var x=>exact zic k al B I st hI ek HV x c s M S v w hi hv hS ay hB
  |con x=>exact zid k al B I st hI ek HV x c s M S v w hi hv hS ay hB
  |lam x e=>exact zie n k al B I st hI ek HV HW x e c s M S v w hi hv hS ay hz hB
  |app a b=>exact zif n k al B I st hI ek HV HW a b c s M S v w hi hv hS ay hz hB
  |lt x t a b=>exact zjx n k al B I st hI ek HV HW x t a b c s M S v w hi hv hS ay hz hB
  |cs e l=>exact zjy n k al B I st hI ek HV HW e l c s M S v w hi hv hS ay hz (by omega) hB
  |ann a t=>exact zih n k al B I st hI ek HV HW a t c s M S v w hi hv hS ay hz hB
end Go.Proofs.YtknkclefoiohpaaGreatDoor
namespace Go.Proofs.YtknkclefoiohpaaGreatDoor
open Go.RowKit Lx Tx Sx Go.Maps Go.WideMaps Go.Shelf
set_option maxRecDepth 100000
def mkMet:MK Unit where
 t:=123
 e:=121
 R:=unitElem
 enc _:=.nil
 val _:=.agg #[]
 ok _:=True
 z:=.agg #[]
 zd:=.nil
 hT:=Tryz.underlying123
 hz _:=by kernel_rfl
 hR _ _:=rfl
 hzd:=rfl
 inv _ _ _ h:=unitElem_inv h
 invz _ _ h:=unitElem_inv h
theorem zm2 {w:World} {b:Nat} {L:List Name}(h:MapE mkMet w b (units L))(X:ByteArray)(hX:X.size<=24):(Instr.lookup 123 (.map (some b)) (.string X) true).run Tryz.prog w=.ok (.tuple #[.agg #[],.bool (decide (X.data.toList∈L))]) w:=by
 have:=h.getOk X (by unfold maxLen;omega);rw[zj5]at this
 by_cases hm:X.data.toList∈L
 ·rw[ud hm]at this
  rw[uB hm]
  exact this
 ·rw[ue hm]at this
  rw[ux hm]
  exact this
theorem zhm(b:Nat)(L:List Name)(X:ByteArray)(w:World)(h:MapE mkMet w b (units L))(hX:X.size<=24):Calls Tryz.prog 116 #[.map (some b),.string X] w λe w'=>e=.returned (.bool (decide (X.data.toList∈L)))/\Below w.heap.size w w':=by
 have hl:=zm2 h X hX;obtain⟨q,hq⟩:∃q,decide (X.data.toList∈L)=q:=⟨_,rfl⟩;rw[hq]at hl ⊢
 clear h;go_enter Tryz.func116,Tryz.ntmps116
 go_wp2_with fail
 go_ret
 exact⟨rfl,(ua _ w).alloc (tV _) _⟩
theorem zm3(b:Nat)(L:List Name)(X:ByteArray)(w:World)(h:MapE mkMet w b (units L))(hX:X.size<=24):Calls Tryz.prog 115 #[.map (some b),.string X] w λe w'=>e=.returned (.bool (!decide (X.data.toList∈L)))/\Below w.heap.size w w':=by
 have HC:=wJ (zhm b L X w h hX);obtain⟨q,hq⟩:∃q,decide (X.data.toList∈L)=q:=⟨_,rfl⟩;rw[hq]at HC ⊢
 clear h;go_enter Tryz.func115,Tryz.ntmps115
 go_wp2_with fail
 refine HC.out.mono ?_;rintro e w' ⟨rfl,hb⟩;have HB:=wJ hb;clear hb;go_wp2_with fail
 go_ret
 exact⟨rfl,HB.out⟩
theorem zhn(b:Nat)(L:List Name)(X:ByteArray)(w:World)(h:MapE mkMet w b (units L))(hX:X.size<=24)(hL:L.length<=1000000):Calls Tryz.prog 113 #[.map (some b),.string X] w λe w'=>e=.returned (.bool (decide (X.data.toList∈L)))/\MapE mkMet w' b (units (L++[X.data.toList]))/\Chg (only b) w w':=by
 have HC:=wJ (zhm b L X w h hX);have bY:=wJ h.lt;have HM:=wJ h;have HX:=wJ hX;have HUL:Hid ((units L).length<100000000000000):=wJ (by simp[units];omega);obtain⟨q,hq⟩:∃q,decide (X.data.toList∈L)=q:=⟨_,rfl⟩;rw[hq]at HC ⊢
 clear h hX;go_enter Tryz.func113,Tryz.ntmps113
 go_wp2_with fail
 refine HC.out.mono ?_;rintro e w1 ⟨rfl,hb⟩;have HB:=wJ hb;have ja:=wJ (HM.out.keep (hb.block b bY.out));clear hb HC;go_wp2_with (at_mapUpdate;refine zd2 mkMet _ rfl _ _ _ rfl b (units L) rfl ja.out HUL.out X (by have:=HX.out;unfold maxLen;omega) rfl () trivial rfl ?_;intro w2 fK bH;have bN:=wJ fK;have dC:=wJ bH;clear fK bH)
 go_ret
 refine⟨rfl,by rw[zj6];exact bN.out,(Chg.of_below HB.out).grown dC.out (λe hh=>?_)⟩;injection hh with hh;exact .inr hh.symm
def VisN {τ:Type}(k:Nat)(al:Array Value)(B:Nat)(J:Nat->τ->(Nat->Prop)->World->Prop)(yes:Int->Nm->τ->Bool)(tr:Int->Nm->τ->τ):Prop :=
 ∀(c:Nat) (s:τ) (M:Nat->Prop) (aF:Int) (X:ByteArray) (w:World),J c s M w->X.size<=24->c+1<=B ->
  Calls Tryz.prog k (#[.int .i64 aF,.string X]++al) w λe w'=>e=.returned (.bool (yes aF X.data.toList s))/\Sta J M w (c+1) (tr aF X.data.toList s) w'
def JNone(_:Nat)(_:Unit)(M:Nat->Prop)(_:World):Prop:=∀g,¬M g
theorem JNone.inv:InvS JNone:=⟨λ_ _ _ _ h g hg=>absurd hg (h g),λ_ _ _ _ _ h _ _=>h,λ_ _ _ _ h=>h⟩
theorem zm4(B:Nat):VisN 111 #[] B JNone (λaF _ _=>aF==1) (λ_ _ _=>()):=by
 intro c s M aF X w hj hX hB;show Calls Tryz.prog 111 #[.int .i64 aF,.string X] w _;have HS:=wJ (show Sta JNone M w (c+1) () w from Sta.init hj);clear hj hX hB;go_enter Tryz.func111,Tryz.ntmps111
 go_wp2_with fail
 go_ret
 exact⟨rfl,HS.out⟩
theorem zk8(B:Nat):VisN 112 #[] B JNone (λaF _ _=>aF==2) (λ_ _ _=>()):=by
 intro c s M aF X w hj hX hB;show Calls Tryz.prog 112 #[.int .i64 aF,.string X] w _;have HS:=wJ (show Sta JNone M w (c+1) () w from Sta.init hj);clear hj hX hB;go_enter Tryz.func112,Tryz.ntmps112
 go_wp2_with fail
 go_ret
 exact⟨rfl,HS.out⟩
def mkCnt:MK Int where
 t:=114
 e:=3
 R:=intElem
 enc v:=.lit (.int .i64 v)
 val v:=.int .i64 v
 ok _:=True
 z:=.int .i64 0
 zd:=.lit (.int .i64 0)
 hT:=Tryz.underlying114
 hz _:=by kernel_rfl
 hR _ _:=rfl
 hzd:=rfl
 inv _ _ _ h:=zeV h
 invz _ _ h:=zeV h
def cnt(x:Nm)(r:List (Nm × Int)):Int:=(look x r).getD 0
theorem zm5 {w:World} {b:Nat} {r:List (Nm × Int)}(h:MapE mkCnt w b r)(X:ByteArray)(hX:X.size<=24):(Instr.lookup 114 (.map (some b)) (.string X) false).run Tryz.prog w=.ok (.int .i64 (cnt X.data.toList r)) w:=by
 have:=h.get X (by unfold maxLen;omega);unfold cnt;cases hl:look X.data.toList r with
 |none=>rw[hl]at this;exact this
 |some v=>rw[hl]at this;exact this
structure JFree (pb cb:Nat) (c:Nat) (r:List (Nm × Int)) (M:Nat->Prop) (w:World):Prop where
 ptr:Blk w pb 114 #[.map (some cb)]
 map:MapE mkCnt w cb r
 len:r.length<=c
 num:∀x,-(c:Int)<=cnt x r/\cnt x r<=c
 low:M pb/\M cb
 ne:pb≠cb
 all:∀g,M g->g<w.heap.size
theorem JFree.up {pb cb c:Nat} {r:List (Nm × Int)} {M:Nat->Prop} {w:World}(h:JFree pb cb c r M w):JFree pb cb (c+1) r M w :=
 {h with len:=by have:=h.len;omega,num:=λx=>by have:=h.num x;omega }
theorem JFree.inv(pb cb:Nat):InvS (JFree pb cb) where
 lt _ _ _ _ h:=h.all
 keep _ _ _ _ _ h hs hk:={ h with ptr:=h.ptr.same (hk _ h.low.1),map:=h.map.keep (hk _ h.low.2),all:=λg hg=>uO (h.all g hg) hs }
 up _ _ _ _ h:=h.up
theorem JFree.put {pb cb c:Nat} {r:List (Nm × Int)} {M:Nat->Prop} {w w':World}(h:JFree pb cb c r M w)(x:Nm)(v:Int)(hv:v=cnt x r+1\/v=cnt x r-1)(hm:MapE mkCnt w' cb ((x,v)::r))(hg:w.grownBy w' (some cb)):Sta (JFree pb cb) M w (c+1) ((x,v)::r) w':=by
 refine⟨M,{ h with ptr:=h.ptr.grown hg (λe=>by injection e with e;exact h.ne e),map:=hm,len:=by have:=h.len;simp;omega,num:=λy=>?_,all:=λg bH=>uO (h.all g bH) hg.size },λ_ h=>.inl h,(Chg.refl M w).grown hg (λe hh=>by injection hh with hh;exact .inr (hh▸h.low.2))⟩;have h1:=h.num x;have h2:=h.num y;by_cases hy:x=y
 ·have e:cnt y ((x,v)::r)=v:=by unfold cnt;rw[look,ud hy];rfl
  rw[e]
  rcases hv with rfl|rfl <;> omega
 ·have e:cnt y ((x,v)::r)=cnt y r:=by unfold cnt;rw[look,ue hy]
  rw[e]
  omega
def yesF(aF:Int)(x:Nm)(r:List (Nm × Int)):Bool:=aF==0&&cnt x r==0
def trF(aF:Int)(x:Nm)(r:List (Nm × Int)):List (Nm × Int):=if aF=3 then(x,cnt x r+1)::r else if aF=4 then(x,cnt x r-1)::r else r
theorem zm6(pb cb B:Nat)(qI:B<=100000000):VisN 110 #[.pointer (some ⟨pb,0,none⟩)] B (JFree pb cb) yesF trF:=by
 intro c s M aF X w hj hX hB;show Calls Tryz.prog 110 #[.int .i64 aF,.string X,.pointer (some ⟨pb,0,none⟩)] w _;have lE:=zm5 hj.map X hX;obtain⟨z0,z1,z2⟩:=zbh hj.ptr;have hn:=hj.num X.data.toList;have HJ:=wJ hj;have HM:=wJ hj.map;have HX:=wJ (show X.size<=maxLen by unfold maxLen;omega);have fc:Hid (s.length<100000000000000):=wJ (by have:=hj.len;omega);obtain⟨q,hq⟩:∃q,cnt X.data.toList s=q:=⟨_,rfl⟩;rw[hq]at lE hn
 have hn1 : -100000000<=q:=by omega
 have fj:q<=100000000:=by omega
 have HQ:=wJ hq;clear hj hX hn hq hB qI;by_cases h3:aF=3
 ·subst h3
  go_enter Tryz.func110,Tryz.ntmps110
  go_wp2_with (at_mapUpdate;refine zd2 mkCnt _ rfl _ _ _ rfl cb s rfl HM.out fc.out X HX.out rfl (q+1) trivial rfl ?_;intro w2 fK bH;have bN:=wJ fK;have dC:=wJ bH;clear fK bH)
  go_ret
  refine⟨rfl,?_⟩;have:=HJ.out.put X.data.toList (q+1) (.inl (by rw[HQ.out])) bN.out dC.out;unfold trF;rw[ud rfl,HQ.out]
  exact this
 ·by_cases h4:aF=4
  ·subst h4
   go_enter Tryz.func110,Tryz.ntmps110
   go_wp2_with (at_mapUpdate;refine zd2 mkCnt _ rfl _ _ _ rfl cb s rfl HM.out fc.out X HX.out rfl (q-1) trivial rfl ?_;intro w2 fK bH;have bN:=wJ fK;have dC:=wJ bH;clear fK bH)
   go_ret
   refine⟨rfl,?_⟩;have:=HJ.out.put X.data.toList (q-1) (.inr (by rw[HQ.out])) bN.out dC.out;unfold trF;rw[ue (by decide),ud rfl,HQ.out]
   exact this
  ·have HT:Hid (Sta (JFree pb cb) M w (c+1) (trF aF X.data.toList s) w):=wJ (by unfold trF;rw[ue h3,ue h4];exact Sta.init HJ.out.up)
   have d3:(aF==3)=false:=by simpa using h3
   have d4:(aF==4)=false:=by simpa using h4
   clear h3 h4;by_cases h0:aF=0
   ·subst h0
    go_enter Tryz.func110,Tryz.ntmps110
    go_wp2_with fail
    go_ret
    exact⟨by unfold yesF;rw[HQ.out];rfl,HT.out⟩
   ·have d0:(aF==0)=false:=by simpa using h0
    go_enter Tryz.func110,Tryz.ntmps110
    go_wp2_with fail
    go_ret
    exact⟨by unfold yesF;rw[d0];rfl,HT.out⟩
end Go.Proofs.YtknkclefoiohpaaGreatDoor
namespace Go.Proofs.YtknkclefoiohpaaGreatDoor
open Go.RowKit Lx Tx Sx Go.Maps Go.WideMaps Go.Shelf
set_option maxRecDepth 100000
theorem zoB {L:List Nm} {x:Nm}(h:x∈L):addA [] (L++[x])=addA [] L:=by
 rw[zaU,zdh,zdO]
 exact ud (zbU.2 (.inr h))
theorem zho {L:List Nm} {x:Nm}(h:x∉L):addA [] (L++[x])=addA [] L++[x]:=by
 rw[zaU,zdh,zdO]
 exact ue (λe=>by rcases zbU.1 e with e|e;cases e;exact h e)
structure NOf {τ:Type} (b:Nat) (fv:Value) (J:Nat->τ->(Nat->Prop)->World->Prop) (c:Nat) (s:τ) (L:List Nm) (M MJ:Nat->Prop) (w:World):Prop where
 fn:Blk w b 182 #[fv]
 met:Blk w (b+3) 123 #[.map (some (b+2))]
 set:MapE mkMet w (b+2) (units L)
 len:L.length<=c
 j:J c s MJ w
 jm:∀g,MJ g->M g/\(g<b\/b+4<=g)
 low:M b/\M (b+1)/\M (b+2)/\M (b+3)
 all:∀g,M g->g<w.heap.size
 row:∃A cp,Blk w (b+1) 56 #[.slice A (addA [] L).length cp]/\w.ownsRow (b+4) 9 1 (.slice A (addA [] L).length cp) (addA [] L).length ((addA [] L).map Sx.strV)/\∀a,A=some a->M a.block/\¬MJ a.block
def INo {τ:Type}(b:Nat)(fv:Value)(J:Nat->τ->(Nat->Prop)->World->Prop)(c:Nat)(st:τ × List Nm)(M:Nat->Prop)(w:World):Prop:=∃MJ,NOf b fv J c st.1 st.2 M MJ w
section
variable {τ:Type} {b:Nat} {fv:Value} {J:Nat->τ->(Nat->Prop)->World->Prop} {c:Nat} {s:τ} {L:List Nm} {M MJ:Nat->Prop} {w:World}
theorem NOf.keep(hJ:InvS J)(h:NOf b fv J c s L M MJ w) {w':World}(hs:w.heap.size<=w'.heap.size)(hk:∀g,M g->w'.heap[g]?=w.heap[g]?):NOf b fv J c s L M MJ w' where
 fn:=h.fn.same (hk _ h.low.1)
 met:=h.met.same (hk _ h.low.2.2.2)
 set:=h.set.keep (hk _ h.low.2.2.1)
 len:=h.len
 j:=hJ.keep _ _ _ _ _ h.j hs (λg hg=>hk g (h.jm g hg).1)
 jm:=h.jm
 low:=h.low
 all:=λg hg=>uO (h.all g hg) hs
 row:=by
  obtain⟨A,cp,h1,h2,h3⟩:=h.row;exact⟨A,cp,h1.same (hk _ h.low.2.1),zbi h2 (λa ha=>hk _ (h3 a ha).1),h3⟩
theorem INo.inv(hJ:InvS J):InvS (INo b fv J) where
 lt:=λ_ _ _ _ ⟨_,h⟩=>h.all
 keep:=λ_ _ _ _ _ ⟨MJ,h⟩ hs hk=>⟨MJ,h.keep hJ hs hk⟩
 up:=λ_ _ _ _ ⟨MJ,h⟩=>⟨MJ,{ h with len:=Nat.le_succ_of_le h.len,j:=hJ.up _ _ _ _ h.j }⟩
theorem NOf.ask(hJ:InvS J)(h:NOf b fv J c s L M MJ w) {c':Nat} {s':τ} {w1:World}(hs:Sta J MJ w c' s' w1)(hc:c<=c'):∃M' sS,NOf b fv J c' s' L M' sS w1/\(∀g,M' g->M g\/w.heap.size<=g)/\Chg M w w1:=by
 obtain⟨sS,j1,hm,cP⟩:=hs;have h3:=h.all _ h.low.2.2.2;have hb:∀k,M k->¬MJ k->w1.heap[k]?=w.heap[k]?:=λk hk hn=>cP.block k (h.all k hk) hn;have hn:∀k,b<=k->k<b+4->¬MJ k:=λk h1 h2 e=>by have:=(h.jm k e).2;omega
 refine⟨λg=>M g\/sS g,sS,⟨h.fn.same (hb _ h.low.1 (hn _ (by omega) (by omega))),h.met.same (hb _ h.low.2.2.2 (hn _ (by omega) (by omega))),h.set.keep (hb _ h.low.2.2.1 (hn _ (by omega) (by omega))),uX h.len hc,j1,λg hg=>⟨.inr hg,?_⟩,⟨.inl h.low.1,.inl h.low.2.1,.inl h.low.2.2.1,.inl h.low.2.2.2⟩,λg hg=>?_,?_⟩,λg hg=>?_,cP.mono (λk _ hk=>(h.jm k hk).1)⟩
 ·rcases hm g hg with e|e
  ·exact(h.jm g e).2
  ·omega
 ·rcases hg with e|e
  ·exact uO (h.all g e) cP.size
  ·exact hJ.lt _ _ _ _ j1 g e
 ·obtain⟨A,cp,k1,k2,k3⟩:=h.row
  refine⟨A,cp,k1.same (hb _ h.low.2.1 (hn _ (by omega) (by omega))),zbi k2 (λa ha=>hb _ (k3 a ha).1 (k3 a ha).2),λa ha=>⟨.inl (k3 a ha).1,λe=>?_⟩⟩;rcases hm _ e with e|e
  ·exact(k3 a ha).2 e
  ·have:=h.all _ (k3 a ha).1;omega
 ·rcases hg with e|e
  ·exact .inl e
  ·rcases hm g e with e|e
   ·exact .inl (h.jm g e).1
   ·exact .inr e
theorem NOf.old(hJ:InvS J)(h:NOf b fv J c s L M MJ w) {x:Nm}(hx:x∈L) {w1:World}(hm:MapE mkMet w1 (b+2) (units (L++[x])))(hc:Chg (only (b+2)) w w1)(hl:L.length+1<=c):NOf b fv J c s (L++[x]) M MJ w1:=by
 have hk:∀k,M k->k≠b+2->w1.heap[k]?=w.heap[k]?:=λk hk hn=>hc.block k (h.all k hk) hn;refine⟨h.fn.same (hk _ h.low.1 (by omega)),h.met.same (hk _ h.low.2.2.2 (by omega)),hm,by simpa using hl,hJ.keep _ _ _ _ _ h.j hc.size (λg hg=>hk g (h.jm g hg).1 (by have:=(h.jm g hg).2;omega)),h.jm,h.low,λg hg=>uO (h.all g hg) hc.size,?_⟩;rw[zoB hx]
 obtain⟨A,cp,k1,k2,k3⟩:=h.row;exact⟨A,cp,k1.same (hk _ h.low.2.1 (by omega)),zbi k2 (λa ha=>hk _ (k3 a ha).1 (by have:=(k2.lt a.block (by rw[ha];rfl)).1;omega)),k3⟩
theorem NOf.fresh(hJ:InvS J)(h:NOf b fv J c s L M MJ w) {X:ByteArray}(hx:X.data.toList∉L) {w1 W w5:World} {A:Option Addr} {cp g3 c3:Nat}(hm:MapE mkMet w1 (b+2) (units (L++[X.data.toList])))(hc:Chg (only (b+2)) w w1)(hl:L.length+1<=c)
  (hA:∀a,A=some a->M a.block/\¬MJ a.block)(ae:w.ownsRow (b+4) 9 1 (.slice A (addA [] L).length cp) (addA [] L).length ((addA [] L).map Sx.strV))
  (hW:∀k,k<w1.heap.size->W.heap[k]?=w1.heap[k]?)(hWs:W.heap.size=w1.heap.size+1)(hCW:Chg M w W)(ho3:w5.ownsRow (b+4) 9 1 (.slice (some ⟨g3,0,none⟩) ((addA [] L).length+1) c3) ((addA [] L).length+1) ((addA [] L).map Sx.strV++[.string X]))
  (eP:W.grownBy w5 (Value.slice A (addA [] L).length cp).ownBlock)(aH:(Value.slice A (addA [] L).length cp).ownBlock=some g3\/g3=W.heap.size)(cJ:Blk w5 (b+1) 56 #[.slice A (addA [] L).length cp])(ah:g3<w5.heap.size):∃M',NOf b fv J c s (L++[X.data.toList]) M' MJ (w5.setCell ⟨b+1,0,none⟩ (.slice (some ⟨g3,0,none⟩) ((addA [] L).length+1) c3))/\(∀g,M' g->M g\/w.heap.size<=g)/\Chg M w (w5.setCell ⟨b+1,0,none⟩ (.slice (some ⟨g3,0,none⟩) ((addA [] L).length+1) c3)):=by
 have ao:∀k,some k=(Value.slice A (addA [] L).length cp).ownBlock->b+4<=k/\M k/\¬MJ k:=λk hk=>by
  refine⟨(ae.lt k hk.symm).1,?_⟩;cases A with
  |none=>cases hk
  |some a=>injection hk with hk;rw[hk];exact hA a rfl
 have hg3b:b+4<=g3:=(ho3.lt g3 rfl).1;have h3:=h.all _ h.low.2.2.2;have bj:=hc.size;have ee:=eP.size;obtain⟨V,hV⟩:∃V,(w5.setCell ⟨b+1,0,none⟩ (.slice (some ⟨g3,0,none⟩) ((addA [] L).length+1) c3))=V:=⟨_,rfl⟩;have hVs:V.heap.size=w5.heap.size:=by rw[<-hV];simp
 have hf:∀k,M k->k≠b+1->(b+4<=k->MJ k)->V.heap[k]?=w1.heap[k]?:=λk hk bf hj=>by
  have iy:=h.all k hk;rw[<-hV]
  exact(tY w5 ⟨b+1,0,none⟩ _ k bf).trans ((eP.block k (by omega) (λe=>by have:=ao k e;exact this.2.2 (hj this.1))).trans (hW k (by omega)))
 have iS:∀k,M k->k≠b+1->k≠b+2->(b+4<=k->MJ k)->V.heap[k]?=w.heap[k]?:=λk hk bf fj hj=>(hf k hk bf hj).trans (hc.block k (h.all k hk) fj);have hg3J:¬MJ g3:=λe=>by
  rcases aH with a|a
  ·exact(ao g3 a.symm).2.2 e
  ·have:=h.all _ (h.jm _ e).1;omega
 rw[hV]
 refine⟨λg=>M g\/g=g3,⟨h.fn.same (iS _ h.low.1 (by omega) (by omega) (by omega)),h.met.same (iS _ h.low.2.2.2 (by omega) (by omega) (by omega)),hm.keep (hf _ h.low.2.2.1 (by omega) (by omega)),by simpa using hl,
  hJ.keep _ _ _ _ _ h.j (by omega) (λg hg=>iS g (h.jm g hg).1 (by have:=(h.jm g hg).2;omega) (by have:=(h.jm g hg).2;omega) (λ_=>hg)),λg hg=>⟨.inl (h.jm g hg).1,(h.jm g hg).2⟩,⟨.inl h.low.1,.inl h.low.2.1,.inl h.low.2.2.1,.inl h.low.2.2.2⟩,λg hg=>?_,some ⟨g3,0,none⟩,c3,?_,?_,λa ha=>by injection ha with ha;rw[<-ha];exact⟨.inr rfl,hg3J⟩⟩,λg hg=>?_,?_⟩
 ·rcases hg with hg|rfl
  ·have:=h.all g hg;omega
  ·omega
 ·rw[zho hx,uf,we,<-hV]
  exact one_setCell (u:=.slice (some ⟨g3,0,none⟩) ((addA [] L).length+1) c3) cJ
 ·rw[zho hx,uf,we,wb,show[X.data.toList].map Sx.strV=[.string X] from rfl]
  exact zbi ho3 (λa ha=>by injection ha with ha;rw[<-ha,<-hV];exact tY w5 ⟨b+1,0,none⟩ _ g3 (by show g3≠b+1;omega))
 ·rcases hg with hg|rfl
  ·exact .inl hg
  ·rcases aH with h|h
   ·exact .inl (ao _ h.symm).2.1
   ·exact .inr (by omega)
 ·rw[<-hV]
  exact(hCW.grown eP (λk hk=>.inr (ao k hk.symm).2.1)).setCell (p:=⟨b+1,0,none⟩) (.inr h.low.2.1) _
end
end Go.Proofs.YtknkclefoiohpaaGreatDoor
namespace Go.Proofs.YtknkclefoiohpaaGreatDoor
open Go.RowKit Lx Tx Sx Go.Maps Go.WideMaps Go.Shelf
set_option maxRecDepth 100000
def nstep {τ:Type}(yes:Int->Nm->τ->Bool)(tr:Int->Nm->τ->τ)(aF:Int)(st:τ × List Nm)(x:Nm):τ × List Nm:=(tr aF x st.1,if yes aF x st.1=true then st.2++[x] else st.2)
def stN {τ:Type}(yes:Int->Nm->τ->Bool)(tr:Int->Nm->τ->τ)(ev:Ev)(st:τ × List Nm):τ × List Nm:=(evN ev).foldl (nstep yes tr (evW ev)) st
theorem zii {τ:Type}(b kk:Nat)(cG:Array Value)(B:Nat)(J:Nat->τ->(Nat->Prop)->World->Prop)(yes:Int->Nm->τ->Bool)(tr:Int->Nm->τ->τ)(hJ:InvS J)(ek:∀args w,(callFunc kk args).run Tryz.prog w=.ok (.enter kk args) w)(HV:VisN kk cG B J yes tr)(qI:B<=1000000):VisE 154 #[.pointer (some ⟨b,0,none⟩),.pointer (some ⟨b+3,0,none⟩),.pointer (some ⟨b+1,0,none⟩)] B (INo b (.func (.func kk) #[] cG) J) (stN yes tr):=by
 intro c st M ev S V v w hi hx hS eO hB;unfold stN;obtain⟨aF,hwh⟩:∃y,evW ev=y:=⟨_,rfl⟩;obtain⟨xs,hxe⟩:∃y,evN ev=y:=⟨_,rfl⟩;rw[hwh]
 have ig:=zpu ev;obtain⟨el,jh⟩:∃y,evL ev=y:=⟨_,rfl⟩;rw[jh]at hB ig ⊢
 rw[hxe]at hx eO ig ⊢
 obtain⟨N,hN⟩:∃n,xs.length=n:=⟨_,rfl⟩;rw[hN]at ig ⊢
 show Calls Tryz.prog 154 #[.int .i64 aF,.slice V N v,.pointer (some ⟨b,0,none⟩),.pointer (some ⟨b+3,0,none⟩),.pointer (some ⟨b+1,0,none⟩)] w _;have H0:=wJ (Sta.init hi);have HN:=wJ hN;have HX:=wJ hx;have HS:=wJ hS;have sU:=wJ eO;have iq:=wJ HV;have HJ:=wJ hJ;have hN9:N<=1000000:=by omega
 obtain⟨i0,bJ,bO,bz,bE⟩:=vz zc5;have HIV:=wJ (INo.inv (b:=b) (fv:=.func (.func kk) #[] cG) hJ);clear hi hx hS eO HV hN hxe hwh hJ jh;go_enter Tryz.func154,Tryz.ntmps154
 go_wp2_with fail
 go_loopg [11] N (λgg vi wr=>∃i:Nat,gg=N-i/\vi=.int .i64 (i:Nat)/\i<=N/\Hid (Sta (INo b (.func (.func kk) #[] cG) J) M w (c+i) ((xs.take i).foldl (nstep yes tr aF) st) wr))
 case atStart=>exact⟨0,rfl,rfl,by omega,H0⟩
 case round =>
  obtain⟨i,rfl,rfl,hi,be⟩:=hrel;clear H0;by_cases ah:i<N
  ·obtain⟨x,hx⟩:∃x,xs[i]?=some x:=⟨_,ug (by rw[HN.out];exact ah)⟩
   have ql:=sU.out x (vd.2 ⟨i,hx⟩);obtain⟨g,rfl,bh,fN⟩:=HX.out (λe=>by rw[e]at hx;simp at hx);obtain⟨X,hX⟩:∃X:ByteArray,⟨x.toArray⟩=X:=⟨_,rfl⟩;have sA:X.data.toList=x:=by rw[<-hX]
   have f0:wr.cell? ⟨g,i,none⟩=some (.string X):=by
    have h1:=fN i (Sx.strV x) (by rw[vA,hx];rfl);rw[uJ]at h1
    rw[<-hX]
    exact zcd h1 (be.out.block g (HS.out g bh).1 (HS.out g bh).2)
   obtain⟨M1,⟨MJ,hn⟩,oo,cP⟩:=be.out;obtain⟨⟨s,L⟩,kW⟩:∃p,(xs.take i).foldl (nstep yes tr aF) st=p:=⟨_,rfl⟩;rw[kW]at hn
   replace hn:NOf b (.func (.func kk) #[] cG) J (c+i) s L M1 MJ wr:=hn;have lP:X.size<=24:=by rw[<-hX];show x.toArray.size<=24;simpa using ql
   have mn:=wJ (λs' L' M3 MJ3 w3 (h:NOf b (.func (.func kk) #[] cG) J (c+(i+1)) s' L' M3 MJ3 w3) (h2:∀g,M3 g->M1 g\/wr.heap.size<=g) (h3:Chg M1 wr w3) (h4:(s',L')=nstep yes tr aF (s,L) x)=>show Sta (INo b (.func (.func kk) #[] cG) J) M w (c+(i+1)) ((xs.take (i+1)).foldl (nstep yes tr aF) st) w3 by
    rw[uL,hx,vP,kW]
    refine⟨M3,⟨MJ3,?_⟩,λg hg=>?_,cP.trans' h3 (λj hj hm=>?_)⟩
    ·show NOf b (.func (.func kk) #[] cG) J (c+(i+1)) (nstep yes tr aF (s,L) x).1 (nstep yes tr aF (s,L) x).2 M3 MJ3 w3
     rw[<-h4]
     exact h
    ·rcases h2 g hg with e|e
     ·exact oo g e
     ·exact .inr (uX cP.size e)
    ·rcases oo j hm with e|e
     ·exact e
     ·omega)
   have iv:=wJ (iq.out (c+i) s MJ aF X wr hn.j lP (by omega));have nP:=wJ hn;have br:=hn.len;obtain⟨z0,-,zl⟩:=zbh hn.fn;have HXX:=wJ sA;have aV:=zaj f0;obtain⟨q,hq⟩:∃q,yes aF X.data.toList s=q:=⟨_,rfl⟩;rw[hq]at iv
   have HQ:=wJ hq;clear hx ql bh fN hX sA oo cP kW hn hq be;go_wp2_with fail
   refine iv.out.mono ?_;rintro e w1 ⟨rfl,s1⟩;obtain⟨M2,MJ2,fj,fK,eQ⟩:=nP.out.ask HJ.out s1 (by omega);cases q with
   |false =>
    have HE:=wJ (mn.out _ _ _ _ w1 fj fK eQ (by unfold nstep;rw[<-HXX.out,HQ.out];rfl));clear mn iv s1 fj fK eQ z0;go_wp2_with fail
    go_roundg (N-(i+1))
    case measure=>omega
    case rel=>exact⟨i+1,rfl,by go_num,by omega,HE⟩
   |true =>
    obtain⟨m0,-,ml⟩:=zbh fj.met;have qW:=wJ (zhn (b+2) L X w1 fj.set lP (by omega));have gi:=wJ fj;have bN:=wJ fK;have cH:=wJ eQ;have HCN:=wJ (λw2 (h:Chg (only (b+2)) w1 w2)=>eQ.trans' h (λj hj hm=>show M1 j by have e:j=b+2:=hm;rw[e];exact nP.out.low.2.2.1));obtain⟨p,hp⟩:∃p,decide (X.data.toList∈L)=p:=⟨_,rfl⟩;rw[hp]at qW
    have HP:=wJ hp;clear iv s1 fj fK eQ z0 hp;go_wp2_with fail
    refine qW.out.mono ?_;rintro e w2 ⟨rfl,hm,cP⟩;cases p with
    |true =>
     have bI:X.data.toList∈L:=vg HP.out;have HE:=wJ (mn.out _ _ _ _ w2 (gi.out.old HJ.out bI hm cP (by omega)) bN.out (HCN.out w2 cP) (by unfold nstep;rw[<-HXX.out];simp only[HQ.out,wA]));clear mn qW hm cP m0 bI;go_wp2_with fail
     go_roundg (N-(i+1))
     case measure=>omega
     case rel=>exact⟨i+1,rfl,by go_num,by omega,HE⟩
    |false =>
     have hout:X.data.toList∉L:=vh HP.out;obtain⟨A,cp,k1,k2,k3⟩:=gi.out.row;have hw12:=cP.size;have k1':Blk w2 (b+1) 56 #[.slice A (addA [] L).length cp]:=k1.same (cP.block _ (gi.out.all _ gi.out.low.2.1) (by unfold only;omega));have k2':w2.ownsRow (b+4) 9 1 (.slice A (addA [] L).length cp) (addA [] L).length ((addA [] L).map Sx.strV):=zbi k2 (λa ha=>cP.block _ (gi.out.all _ (k3 a ha).1) (by have:=(k2.lt a.block (by rw[ha];rfl)).1;unfold only;omega));obtain⟨n,lC⟩:∃n,(addA [] L).length=n:=⟨_,rfl⟩;have hnb:n<=L.length:=by have:=zbl (o:=[]) (l:=L);simp at this;omega
     have fW:b+4<=w2.heap.size:=by have:=gi.out.all _ gi.out.low.2.2.2;omega
     rw[lC]at k1' k2'
     obtain⟨r0,r1,r2⟩:=zbh k1';have K1:=wJ k1';have K2:=wJ k2';have dN:=wJ (k2'.alloc (.cells #[.string X] 9));have HF:=wJ (λw5 g3 c3=>(gi.out.fresh HJ.out hout (w1:=w2) (W:=w2.alloc (.cells #[.string X] 9)) (w5:=w5) (g3:=g3) (c3:=c3) hm cP (by omega) k3 k2 (λk hk=>uc _ _ _ hk) (by simp) ((HCN.out w2 cP |> λ_=>(cP.mono (λj _ hj=>by have e:j=b+2:=hj;rw[e];exact gi.out.low.2.2.1)).alloc _))));simp only[lC]at HF;have HNN2:=wJ lC;clear qW hm cP m0 k1 k2 k3 k1' k2' lC;go_wp2_with (at_builtin;refine wpList_append_lies _ rfl (.tmp 25) (.tmp 27) 56 rfl (b+4) 9 i0 _ 1 16 Tryz.underlying56 bJ bO bz bE rfl (by decide) _ n ((addA [] L).map Sx.strV) rfl dN.out ⟨w2.heap.size,0,none⟩ 1 1 [.string X] rfl rfl (zao _ _ _ _ rfl) (by intro u hu;simp at hu;subst hu;rfl) (by omega) (by unfold maxLen;omega) (by omega) (by simp;omega) _ rfl ?_;intro g3 c3 w5 aj ab aH jA;have cJ:Blk w5 (b+1) 56 #[.slice A n cp]:=(K1.out.alloc _).grown ab (λe=>by have:=(K2.out.lt (b+1) e.symm).1;omega);obtain⟨d0,d1,d2⟩:=zbh cJ;have eU:=wJ aj;have cQ:=wJ ab;have eN:=wJ aH;have gk:=wJ cJ;clear aj ab aH cJ)
     go_roundg (N-(i+1))
     case measure=>omega
     case rel =>
      refine⟨i+1,rfl,by go_num,by omega,wJ ?_⟩;obtain⟨M3,e1,e2,e3⟩:=HF.out w5 g3 c3 eU.out cQ.out eN.out gk.out jA;refine mn.out _ _ _ _ _ e1 (λg hg=>?_) (cH.out.trans' e3 (λj hj hm=>?_)) (by unfold nstep;rw[<-HXX.out];simp only[HQ.out,wA])
      ·rcases e2 g hg with e|e
       ·exact bN.out g e
       ·exact .inr (uX cH.out.size e)
      ·rcases bN.out j hm with e|e
       ·exact e
       ·omega
  ·obtain rfl:i=N:=by omega
   go_wp2_with fail
   first|go_end0|refine ub (vE rfl _ _ _) rfl ?_
   refine⟨rfl,?_⟩;have:=be.out;rw[show xs.take i=xs from ur (by rw[HN.out];exact tV _)]at this
   rcases ig with rfl|rfl
   ·exact this
   ·exact this.up HIV.out
def zdf {τ:Type}(yes:Int->Nm->τ->Bool)(tr:Int->Nm->τ->τ)(s0:τ)(e:Ex):List Nm:=(runS (stN yes tr) (evs e) (s0,[])).2
def NmsPost(M0:Nat->Prop)(w:World)(L:List Nm)(e:Ending)(w':World):Prop :=
 ∃A n cp,e=.returned (.slice A n cp)/\n=(addA [] L).length/\w'.ownsRow (w.heap.size+1+4) 9 1 (.slice A n cp) n ((addA [] L).map Sx.strV)/\Chg M0 w w'
theorem zdM {τ:Type}(kk:Nat)(cG:Array Value)(B:Nat)(J:Nat->τ->(Nat->Prop)->World->Prop)(yes:Int->Nm->τ->Bool)(tr:Int->Nm->τ->τ)(hJ:InvS J)(ek:∀args w,(callFunc kk args).run Tryz.prog w=.ok (.enter kk args) w)(HV:VisN kk cG B J yes tr)(qI:B<=1000000)
  (e:Ex)(s0:τ)(M0 S:Nat->Prop)(v:Value)(w:World)(hj:J 0 s0 M0 w)(hv:RdX S w e v)(hS:∀g,S g->g<w.heap.size/\¬M0 g)(ay:e.Ok)(aG:e.size<=90001)(hB:cost (evs e)<=B):Calls Tryz.prog 109 #[v,.func (.func kk) #[] cG] w (NmsPost M0 w (zdf yes tr s0 e)):=by
 have hM0:=hJ.lt _ _ _ _ hj;have e1:∀args w,(callFunc 154 args).run Tryz.prog w=.ok (.enter 154 args) w:=enters_of Tryz.func154 (by kernel_rfl) rfl;have fk:∀w,(Instr.makeMap 123 none).run Tryz.prog w=.ok (.map (some w.heap.size)) (w.alloc (.map #[] 0)):=λ_=>rfl;obtain⟨K,X,Z,A0,m,q,KA,kc,LA,lc,rfl,bI⟩:=hv.shape;obtain⟨E,hE⟩:∃E:Obj,(.cells #[.int .i64 (kdE e:Nat),.string ⟨(nmE e).toArray⟩,.bool (toE e),.int .i64 K,.string X,.int .i64 Z,.slice A0 m q,.slice KA (zac e).length kc,.slice LA (zad e).length lc] 39)=E:=⟨_,rfl⟩;obtain⟨w1,h1⟩:∃x,w.alloc E=x:=⟨_,rfl⟩;have z1:w1.heap.size=w.heap.size+1:=by rw[<-h1];simp
 have c1:Below w.heap.size w w1:=h1▸(ua _ w).alloc (tV _) _;have b1:Blk w1 w.heap.size 39 #[.int .i64 (kdE e:Nat),.string ⟨(nmE e).toArray⟩,.bool (toE e),.int .i64 K,.string X,.int .i64 Z,.slice A0 m q,.slice KA (zac e).length kc,.slice LA (zad e).length lc]:=h1▸hE▸tW w _;obtain⟨w2,h2⟩:∃x,w1.alloc (.cells #[.func (.func kk) #[] cG] 182)=x:=⟨_,rfl⟩;have z2:w2.heap.size=w.heap.size+1+1:=by rw[<-h2];simp[z1]
 have c2:Below w.heap.size w w2:=h2▸c1.alloc (by omega) _;have b2:Blk w2 (w.heap.size+1) 182 #[.func (.func kk) #[] cG]:=z1▸h2▸tW w1 _;obtain⟨w3,h3⟩:∃x,w2.alloc (.cells #[.slice none 0 0] 56)=x:=⟨_,rfl⟩;have z3:w3.heap.size=w.heap.size+1+2:=by rw[<-h3];simp[z2]
 have c3:Below w.heap.size w w3:=h3▸c2.alloc (by omega) _;have b3:Blk w3 (w.heap.size+1+1) 56 #[.slice none 0 0]:=z2▸h3▸tW w2 _;obtain⟨w4,h4⟩:∃x,w3.alloc (.map #[] 0)=x:=⟨_,rfl⟩;have z4:w4.heap.size=w.heap.size+1+3:=by rw[<-h4];simp[z3]
 have c4:Below w.heap.size w w4:=h4▸c3.alloc (by omega) _;have m4:MapE mkMet w4 (w.heap.size+1+2) (units []):=z3▸h4▸MapE.made mkMet w3;obtain⟨W,h5⟩:∃x,w4.alloc (.cells #[.map (some (w.heap.size+1+1+1))] 123)=x:=⟨_,rfl⟩;have z5:W.heap.size=w.heap.size+1+4:=by rw[<-h5];simp[z4]
 have c5:Below w.heap.size w W:=h5▸c4.alloc (by omega) _;have b5:Blk W (w.heap.size+1+3) 123 #[.map (some (w.heap.size+1+2))]:=z4▸h5▸tW w4 _;have bW:Blk W w.heap.size 39 #[.int .i64 (kdE e:Nat),.string ⟨(nmE e).toArray⟩,.bool (toE e),.int .i64 K,.string X,.int .i64 Z,.slice A0 m q,.slice KA (zac e).length kc,.slice LA (zad e).length lc]:=h5▸(h4▸(h3▸(h2▸b1.alloc _:Blk w2 _ _ _).alloc _:Blk w3 _ _ _).alloc _:Blk w4 _ _ _).alloc _;obtain⟨⟨g0,g1,g2,g3,g4,g5,g6,g7,g8⟩,-,-⟩:=zab bW;have hn:NOf (w.heap.size+1) (.func (.func kk) #[] cG) J 0 s0 [] (λg=>M0 g\/(w.heap.size+1<=g/\g<w.heap.size+1+4)) M0 W:=by
  refine⟨h5▸(h4▸(h3▸b2.alloc _:Blk w3 _ _ _).alloc _:Blk w4 _ _ _).alloc _,b5,m4.keep (h5▸uc _ _ _ (by omega)),tV _,hJ.keep _ _ _ _ W hj c5.size (λg hg=>c5.block g (hM0 g hg)),λg hg=>⟨.inl hg,.inl (by have:=hM0 g hg;omega)⟩,⟨.inr ⟨by omega,by omega⟩,.inr ⟨by omega,by omega⟩,.inr ⟨by omega,by omega⟩,.inr ⟨by omega,by omega⟩⟩,λg hg=>?_,none,0,h5▸(h4▸b3.alloc _:Blk w4 _ _ _).alloc _,uZ _ _ _ _,λa ha=>by cases ha⟩;rcases hg with h|h
  ·have:=hM0 g h;omega
  ·omega
 have HW:=wJ (zf9 154 #[.pointer (some ⟨w.heap.size+1,0,none⟩),.pointer (some ⟨w.heap.size+1+3,0,none⟩),.pointer (some ⟨w.heap.size+1+1,0,none⟩)] B (INo (w.heap.size+1) (.func (.func kk) #[] cG) J) (stN yes tr) (INo.inv hJ).toB e1 (zii (w.heap.size+1) kk cG B J yes tr hJ ek HV qI) 90001 (tV _) 0 (s0,[]) _ e S _ W aG ⟨M0,hn⟩
   (hv.keep (λ_ h=>h) (λg hg=>c5.block g (hS g hg).1)) (λg hg=>⟨by have:=(hS g hg).1;omega,λh=>by
    rcases h with h|h
    ·exact(hS g hg).2 h
    ·have:=(hS g hg).1;omega⟩) ay (by omega))
 have HC:=wJ c5;clear hv bI hS ay aG hB HV hJ hj hM0 ek e1 hn b1 bW b2 b3 m4 b5 c1 c2 c3 c4 c5;go_enter Tryz.func109,Tryz.ntmps109
 go_wp2_with fail
 refine HW.out.mono ?_;rintro e' w' ⟨rfl,M',⟨sS,hn⟩,hm,cP⟩;obtain⟨A,cp,k1,k2,-⟩:=hn.row;obtain⟨r0,r1,r2⟩:=zbh k1;have HR:Hid (NmsPost M0 w (zdf yes tr s0 e) (.returned (.slice A (addA [] (runS (stN yes tr) (evs e) (s0,[])).2).length cp)) w'):=wJ ⟨A,_,cp,rfl,rfl,k2,(Chg.of_below HC.out).trans' cP (λi hi hm=>by
  rcases hm with h|h
  ·exact h
  ·omega)⟩
 obtain⟨n,lC⟩:∃n,(addA [] (runS (stN yes tr) (evs e) (s0,[])).2).length=n:=⟨_,rfl⟩;rw[lC]at r0 HR
 clear hn hm cP k1 k2 HW;go_wp2_with fail
 go_ret
 exact HR.out
end Go.Proofs.YtknkclefoiohpaaGreatDoor
namespace Go.Proofs.YtknkclefoiohpaaGreatDoor
open Go.RowKit Lx Tx Sx Go.Maps Go.WideMaps Go.Shelf
set_option maxRecDepth 100000
theorem zjz(p:Int->Bool)(aF:Int)(xs o:List Nm):xs.foldl (nstep (λk _ _=>p k) (λ_ _ _=>()) aF) ((),o)=((),if p aF=true then o++xs else o):=by
 induction xs generalizing o with
 |nil=>cases p aF <;> simp
 |cons x r ih =>
  rw[vF]
  show r.foldl _ ((),if p aF=true then o++[x] else o)=_;rw[ih]
  cases p aF <;> simp
theorem zga(p:Int->Bool)(f:Ev->List Nm)(hf:∀ev,(if p (evW ev)=true then evN ev else[])=f ev)(l:List Ev)(o:List Nm):runS (stN (λk _ _=>p k) (λ_ _ _=>())) l ((),o)=((),o++l.flatMap f):=by
 induction l generalizing o with
 |nil=>simp[runS]
 |cons ev r ih =>
  rw[zbt]
  unfold stN;rw[zjz,show(if p (evW ev)=true then o++evN ev else o)=o++f ev by rw[<-hf];cases p (evW ev) <;> simp]
  have:=ih (o++f ev);unfold stN at this;rw[this,uH,uy]
theorem zk9(e:Ex):zdf (λk _ _=>k==1) (λ_ _ _=>()) () e=cns e:=by
 unfold zdf;rw[zga (λk=>k==1) cnOf (λev=>by cases ev <;> rfl),vC,zbL]
theorem zjA(e:Ex):zdf (λk _ _=>k==2) (λ_ _ _=>()) () e=bis e:=by
 unfold zdf;rw[zga (λk=>k==2) biOf (λev=>by cases ev <;> rfl),vC,zbM]
theorem zm7(x y:Nm)(v:Int)(r:List (Nm × Int)):cnt y ((x,v)::r)=if x=y then v else cnt y r:=by
 unfold cnt;rw[look]
 by_cases h:x=y
 ·rw[ud h,ud h];rfl
 ·rw[ue h,ue h]
theorem zeL(aF d:Int)(hw:(aF=3/\d=1)\/(aF=4/\d = -1))(xs:List Nm):∀(r:List (Nm × Int))(o:List Nm),∃r',xs.foldl (nstep yesF trF aF) (r,o)=(r',o)/\(λy=>cnt y r')=bump (λy=>cnt y r) d xs:=by
 induction xs with
 |nil=>exact λr o=>⟨r,rfl,(ze4 _ _).symm⟩
 |cons x l ih =>
  intro r o;have hy:yesF aF x r=false:=by unfold yesF;rcases hw with⟨rfl,_⟩|⟨rfl,_⟩ <;> rfl
  have ht:trF aF x r=(x,cnt x r+d)::r:=by
   unfold trF;rcases hw with⟨rfl,rfl⟩|⟨rfl,rfl⟩
   ·rw[ud rfl]
   ·rw[ue (by decide),ud rfl];rfl
  obtain⟨r',h1,h2⟩:=ih ((x,cnt x r+d)::r) o;refine⟨r',?_,?_⟩
  ·rw[vF,<-h1]
   unfold nstep;simp only[hy,ht];rfl
  ·rw[h2]
   funext y
   unfold bump;simp only[zm7,List.count_cons];by_cases h:x=y
   ·subst h;simp;rw[Int.mul_add];omega
   ·rw[ue h];simp[h]
theorem zeM(aF:Int)(h3:aF≠3)(h4:aF≠4)(h0:aF≠0)(xs:List Nm):∀(r:List (Nm × Int))(o:List Nm),xs.foldl (nstep yesF trF aF) (r,o)=(r,o):=by
 induction xs with
 |nil=>exact λ_ _=>rfl
 |cons x l ih =>
  intro r o;have hy:yesF aF x r=false:=by unfold yesF;rw[show(aF==0)=false by simpa using h0];rfl
  have ht:trF aF x r=r:=by unfold trF;rw[ue h3,ue h4]
  rw[vF,show nstep yesF trF aF (r,o) x=(r,o) by unfold nstep;simp only[hy,ht];rfl]
  exact ih r o
theorem zm8(l:List Ev):∀(r:List (Nm × Int))(o:List Nm),(runS (stN yesF trF) l (r,o)).2=o++runF (λy=>cnt y r) l:=by
 induction l with
 |nil=>intro r o;simp[runS,runF]
 |cons ev t ih =>
  intro r o;rw[zbt,runF]
  cases ev with
  |use x =>
   have:stN yesF trF (.use x) (r,o)=(r,o++zjC (λy=>cnt y r) (.use x)):=by
    show nstep yesF trF 0 (r,o) x=_;unfold nstep yesF trF zjC;rw[ue (by decide),ue (by decide)]
    by_cases h:cnt x r=0
    ·simp[h]
    ·simp[h]
   rw[this,ih,uy]
   rfl
  |cn x =>
   rw[show stN yesF trF (.cn x) (r,o)=(r,o) from zeM 1 (by decide) (by decide) (by decide) [x] r o,ih]
   rfl
  |bi xs =>
   rw[show stN yesF trF (.bi xs) (r,o)=(r,o) from zeM 2 (by decide) (by decide) (by decide) xs r o,ih]
   rfl
  |beg xs =>
   obtain⟨r',h1,h2⟩:=zeL 3 1 (.inl ⟨rfl,rfl⟩) xs r o;rw[show stN yesF trF (.beg xs) (r,o)=(r',o) from h1,ih,h2]
   rfl
  |fin xs =>
   obtain⟨r',h1,h2⟩:=zeL 4 (-1) (.inr ⟨rfl,rfl⟩) xs r o;rw[show stN yesF trF (.fin xs) (r,o)=(r',o) from h1,ih,h2]
   rfl
theorem zla(e:Ex):zdf yesF trF [] e=fr e:=by
 unfold zdf;rw[zm8,vC]
 exact zlk e
end Go.Proofs.YtknkclefoiohpaaGreatDoor
namespace Go.Proofs.YtknkclefoiohpaaGreatDoor
open Go.RowKit Lx Tx Sx Go.Maps Go.WideMaps Go.Shelf
set_option maxRecDepth 100000
def LPostN(w:World)(L:List Nm)(e:Ending)(w':World):Prop :=
 ∃A n cp,e=.returned (.slice A n cp)/\n=L.length/\w'.ownsRow w.heap.size 9 1 (.slice A n cp) n (L.map Sx.strV)/\Below w.heap.size w w'
theorem Value.ownsLow {w:World} {B B':Nat} {e:TypeId} {size n:Nat} {v:Value} {xs:List Value}(h:w.ownsRow B e size v n xs)(hB:B'<=B):w.ownsRow B' e size v n xs:=by
 obtain⟨h0,h⟩:=h;refine⟨h0,?_⟩;rcases h with h|⟨g,cap,cur,hv,hg,h⟩
 ·exact .inl h
 ·exact .inr ⟨g,cap,cur,hv,by omega,h⟩
theorem ziR(e:Ex)(S:Nat->Prop)(v:Value)(w:World)(hv:RdX S w e v)(hS:∀g,S g->g<w.heap.size)(ay:e.Ok)(aG:e.size<=90001)(hB:cost (evs e)<=1000000):Calls Tryz.prog 59 #[v] w (LPostN w (zaG e)):=by
 obtain⟨K,X,Z,A0,m,q,KA,kc,LA,lc,rfl,bI⟩:=hv.shape;have ek:∀args w,(callFunc 111 args).run Tryz.prog w=.ok (.enter 111 args) w:=enters_of Tryz.func111 (by kernel_rfl) rfl;have HC:=wJ (zdM 111 #[] 1000000 JNone (λaF _ _=>aF==1) (λ_ _ _=>()) JNone.inv ek (zm4 1000000) (tV _) e () (λ_=>False) S _ (w.alloc (.cells #[.int .i64 (kdE e:Nat),.string ⟨(nmE e).toArray⟩,.bool (toE e),.int .i64 K,.string X,.int .i64 Z,.slice A0 m q,.slice KA (zac e).length kc,.slice LA (zad e).length lc] 39)) (λ_ h=>h) (hv.keep (λ_ h=>h) (λg hg=>uc _ _ _ (hS g hg))) (λg hg=>⟨by have:=hS g hg;simp;omega,λh=>h⟩) ay aG hB);rw[zk9]at HC
 have HP:=wJ (λA n cp w' (hn:n=(addA [] (cns e)).length) (hr:w'.ownsRow ((w.alloc (.cells #[.int .i64 (kdE e:Nat),.string ⟨(nmE e).toArray⟩,.bool (toE e),.int .i64 K,.string X,.int .i64 Z,.slice A0 m q,.slice KA (zac e).length kc,.slice LA (zad e).length lc] 39)).heap.size+1+4) 9 1 (.slice A n cp) n ((addA [] (cns e)).map Sx.strV)) (hc:Chg (λ_=>False) (w.alloc (.cells #[.int .i64 (kdE e:Nat),.string ⟨(nmE e).toArray⟩,.bool (toE e),.int .i64 K,.string X,.int .i64 Z,.slice A0 m q,.slice KA (zac e).length kc,.slice LA (zad e).length lc] 39)) w')=>show LPostN w (zaG e) (.returned (.slice A n cp)) w' from
  ⟨A,n,cp,rfl,hn,Value.ownsLow hr (by simp;omega),((ua _ w).alloc (tV _) _).trans ⟨hc.os,hc.tape,hc.output,hc.size,λj hj=>hc.block j (by simp;omega) (λh=>h)⟩⟩)
 clear hv bI hS ay aG hB ek;go_enter Tryz.func59,Tryz.ntmps59
 go_wp2_with fail
 refine HC.out.mono ?_;rintro e' w' ⟨A,n,cp,rfl,hn,hr,hc⟩;have HR:Hid (LPostN w (zaG e) (.returned (.slice A n cp)) w'):=wJ (HP.out A n cp w' hn hr hc);clear hn hr hc HC HP;go_wp2_with fail
 go_ret
 exact HR.out
theorem zhp(e:Ex)(S:Nat->Prop)(v:Value)(w:World)(hv:RdX S w e v)(hS:∀g,S g->g<w.heap.size)(ay:e.Ok)(aG:e.size<=90001)(hB:cost (evs e)<=1000000):Calls Tryz.prog 60 #[v] w (LPostN w (zas e)):=by
 obtain⟨K,X,Z,A0,m,q,KA,kc,LA,lc,rfl,bI⟩:=hv.shape;have ek:∀args w,(callFunc 112 args).run Tryz.prog w=.ok (.enter 112 args) w:=enters_of Tryz.func112 (by kernel_rfl) rfl;have HC:=wJ (zdM 112 #[] 1000000 JNone (λaF _ _=>aF==2) (λ_ _ _=>()) JNone.inv ek (zk8 1000000) (tV _) e () (λ_=>False) S _ (w.alloc (.cells #[.int .i64 (kdE e:Nat),.string ⟨(nmE e).toArray⟩,.bool (toE e),.int .i64 K,.string X,.int .i64 Z,.slice A0 m q,.slice KA (zac e).length kc,.slice LA (zad e).length lc] 39)) (λ_ h=>h) (hv.keep (λ_ h=>h) (λg hg=>uc _ _ _ (hS g hg))) (λg hg=>⟨by have:=hS g hg;simp;omega,λh=>h⟩) ay aG hB);rw[zjA]at HC
 have HP:=wJ (λA n cp w' (hn:n=(addA [] (bis e)).length) (hr:w'.ownsRow ((w.alloc (.cells #[.int .i64 (kdE e:Nat),.string ⟨(nmE e).toArray⟩,.bool (toE e),.int .i64 K,.string X,.int .i64 Z,.slice A0 m q,.slice KA (zac e).length kc,.slice LA (zad e).length lc] 39)).heap.size+1+4) 9 1 (.slice A n cp) n ((addA [] (bis e)).map Sx.strV)) (hc:Chg (λ_=>False) (w.alloc (.cells #[.int .i64 (kdE e:Nat),.string ⟨(nmE e).toArray⟩,.bool (toE e),.int .i64 K,.string X,.int .i64 Z,.slice A0 m q,.slice KA (zac e).length kc,.slice LA (zad e).length lc] 39)) w')=>show LPostN w (zas e) (.returned (.slice A n cp)) w' from
  ⟨A,n,cp,rfl,hn,Value.ownsLow hr (by simp;omega),((ua _ w).alloc (tV _) _).trans ⟨hc.os,hc.tape,hc.output,hc.size,λj hj=>hc.block j (by simp;omega) (λh=>h)⟩⟩)
 clear hv bI hS ay aG hB ek;go_enter Tryz.func60,Tryz.ntmps60
 go_wp2_with fail
 refine HC.out.mono ?_;rintro e' w' ⟨A,n,cp,rfl,hn,hr,hc⟩;have HR:Hid (LPostN w (zas e) (.returned (.slice A n cp)) w'):=wJ (HP.out A n cp w' hn hr hc);clear hn hr hc HC HP;go_wp2_with fail
 go_ret
 exact HR.out
theorem ziS(e:Ex)(S:Nat->Prop)(v:Value)(w:World)(hv:RdX S w e v)(hS:∀g,S g->g<w.heap.size)(ay:e.Ok)(aG:e.size<=90001)(hB:cost (evs e)<=1000000):Calls Tryz.prog 58 #[v] w (LPostN w (zaF e)):=by
 obtain⟨K,X,Z,A0,m,q,KA,kc,LA,lc,rfl,bI⟩:=hv.shape;have ek:∀args w,(callFunc 110 args).run Tryz.prog w=.ok (.enter 110 args) w:=enters_of Tryz.func110 (by kernel_rfl) rfl;have fk:∀w,(Instr.makeMap 114 none).run Tryz.prog w=.ok (.map (some w.heap.size)) (w.alloc (.map #[] 0)):=λ_=>rfl;obtain⟨w1,h1⟩:∃x,w.alloc (.cells #[.int .i64 (kdE e:Nat),.string ⟨(nmE e).toArray⟩,.bool (toE e),.int .i64 K,.string X,.int .i64 Z,.slice A0 m q,.slice KA (zac e).length kc,.slice LA (zad e).length lc] 39)=x:=⟨_,rfl⟩;have z1:w1.heap.size=w.heap.size+1:=by rw[<-h1];simp
 have c1:Below w.heap.size w w1:=h1▸(ua _ w).alloc (tV _) _;have b1:Blk w1 w.heap.size 39 #[.int .i64 (kdE e:Nat),.string ⟨(nmE e).toArray⟩,.bool (toE e),.int .i64 K,.string X,.int .i64 Z,.slice A0 m q,.slice KA (zac e).length kc,.slice LA (zad e).length lc]:=h1▸tW w _;obtain⟨w2,h2⟩:∃x,w1.alloc (.map #[] 0)=x:=⟨_,rfl⟩;have z2:w2.heap.size=w.heap.size+1+1:=by rw[<-h2];simp[z1]
 have c2:Below w.heap.size w w2:=h2▸c1.alloc (by omega) _;have m2:MapE mkCnt w2 (w.heap.size+1) []:=z1▸h2▸MapE.made mkCnt w1;obtain⟨W,h3⟩:∃x,w2.alloc (.cells #[.map (some (w.heap.size+1))] 114)=x:=⟨_,rfl⟩;have z3:W.heap.size=w.heap.size+1+2:=by rw[<-h3];simp[z2]
 have c3:Below w.heap.size w W:=h3▸c2.alloc (by omega) _;have b3:Blk W (w.heap.size+1+1) 114 #[.map (some (w.heap.size+1))]:=z2▸h3▸tW w2 _;have bW:Blk W w.heap.size 39 #[.int .i64 (kdE e:Nat),.string ⟨(nmE e).toArray⟩,.bool (toE e),.int .i64 K,.string X,.int .i64 Z,.slice A0 m q,.slice KA (zac e).length kc,.slice LA (zad e).length lc]:=h3▸(h2▸b1.alloc _:Blk w2 _ _ _).alloc _;obtain⟨⟨g0,g1,g2,g3,g4,g5,g6,g7,g8⟩,-,-⟩:=zab bW;have hj:JFree (w.heap.size+1+1) (w.heap.size+1) 0 [] (λg=>g=w.heap.size+1+1\/g=w.heap.size+1) W :=
  ⟨b3,m2.keep (h3▸uc _ _ _ (by omega)),tV _,λx=>⟨Int.le_refl _,Int.le_refl _⟩,⟨.inl rfl,.inr rfl⟩,by omega,λg hg=>by rcases hg with h|h <;> omega⟩
 have HC:=wJ (zdM 110 #[.pointer (some ⟨w.heap.size+1+1,0,none⟩)] 1000000 (JFree (w.heap.size+1+1) (w.heap.size+1)) yesF trF (JFree.inv _ _) ek (zm6 _ _ 1000000 (by decide)) (tV _) e [] _ S _ W hj (hv.keep (λ_ h=>h) (λg hg=>c3.block g (hS g hg))) (λg hg=>⟨by have:=hS g hg;omega,λh=>by have:=hS g hg;rcases h with h|h <;> omega⟩) ay aG hB);rw[zla]at HC
 have HP:=wJ (λA n cp w' (hn:n=(addA [] (fr e)).length) (hr:w'.ownsRow (W.heap.size+1+4) 9 1 (.slice A n cp) n ((addA [] (fr e)).map Sx.strV)) (hc:Chg (λg=>g=w.heap.size+1+1\/g=w.heap.size+1) W w')=>show LPostN w (zaF e) (.returned (.slice A n cp)) w' from
  ⟨A,n,cp,rfl,hn,Value.ownsLow hr (by omega),c3.trans ⟨hc.os,hc.tape,hc.output,by have:=hc.size;omega,λj hj=>hc.block j (by omega) (λh=>by rcases h with h|h <;> omega)⟩⟩)
 clear hv bI hS ay aG hB ek hj b1 bW b3 m2 c1 c2 c3;go_enter Tryz.func58,Tryz.ntmps58
 go_wp2_with fail
 refine HC.out.mono ?_;rintro e' w' ⟨A,n,cp,rfl,hn,hr,hc⟩;have HR:Hid (LPostN w (zaF e) (.returned (.slice A n cp)) w'):=wJ (HP.out A n cp w' hn hr hc);clear hn hr hc HC HP;go_wp2_with fail
 go_ret
 exact HR.out
end Go.Proofs.YtknkclefoiohpaaGreatDoor
namespace Go.Proofs.YtknkclefoiohpaaGreatDoor
open Go.RowKit Lx Tx Sx Go.Maps Go.WideMaps Go.Shelf
set_option maxRecDepth 100000
theorem zbX {w:World} {B n cp:Nat} {A:Option Addr} {L:List Nm}(hn:n=L.length)(h:w.ownsRow B 9 1 (.slice A n cp) n (L.map Sx.strV)):NmsIn (λg=>B<=g/\g<w.heap.size) w L A:=λhl=>by
 have hp:0<n:=by rw[hn];exact wF.2 hl
 obtain⟨g,cap,hv,hb,hg⟩:=h.form hp;injection hv with hv _ _;refine⟨g,hv,⟨hb,hg⟩,λj v hj=>?_⟩;have nz:j<n:=by
  rw[hn]
  have:=(uj.1 hj).1;simpa using this
 obtain⟨g',eu,-,-,hc⟩:=znG h nz hj;rw[hv]at eu
 injection eu with eu;injection eu with eu;rw[uJ,eu]
 exact hc w rfl
theorem zm9(L R:List Nm)(S S':Nat->Prop)(A C:Option Addr)(p q:Nat)(w:World)(hA:NmsIn S w L A)(hC:NmsIn S' w R C)(hl:L.length<=1000000):Calls Tryz.prog 57 #[.slice A L.length p,.slice C R.length q] w λe w'=>e=.returned (.bool (decide (L=R)))/\Below w.heap.size w w':=by
 obtain⟨n,hn⟩:∃n,L.length=n:=⟨_,rfl⟩;obtain⟨m,hm⟩:∃n,R.length=n:=⟨_,rfl⟩;rw[hn,hm]
 rw[hn]at hl
 by_cases he:n=m
 ·subst he
  have HN:=wJ hn;have HM:=wJ hm;have HA:=wJ hA;have HC:=wJ hC;clear hn hm hA hC;go_enter Tryz.func57,Tryz.ntmps57
  go_wp2_with fail
  go_loopg [5] n (λgg vi wr=>∃i:Nat,gg=n-i/\vi=.int .i64 (i:Nat)/\i<=n/\Hid (L.take i=R.take i)/\Hid (Below w.heap.size w wr))
  case atStart=>exact⟨0,rfl,rfl,by omega,wJ rfl,wJ (ua _ _)⟩
  case round =>
   obtain⟨i,rfl,rfl,hi,hT,hB⟩:=hrel;by_cases ah:i<n
   ·obtain⟨x,hx⟩:∃x,L[i]?=some x:=⟨_,ug (by rw[HN.out];exact ah)⟩
    obtain⟨y,hy⟩:∃x,R[i]?=some x:=⟨_,ug (by rw[HM.out];exact ah)⟩;obtain⟨g,rfl,bh,fN⟩:=HA.out (λe=>by rw[e]at hx;simp at hx);obtain⟨k,rfl,hSk,pB⟩:=HC.out (λe=>by rw[e]at hy;simp at hy);have f0:=fN i (Sx.strV x) (by rw[vA,hx];rfl);have f1:=pB i (Sx.strV y) (by rw[vA,hy];rfl);rw[uJ]at f0 f1
    replace f0:=(hB.out.cell (p:=⟨g,i,none⟩) (zaj f0)).trans f0;replace f1:=(hB.out.cell (p:=⟨k,i,none⟩) (zaj f1)).trans f1;simp only[Sx.strV]at f0 f1;have i0:(0:Int)<=(i:Int):=by omega
    have i1:(i:Int)<n:=by omega
    obtain⟨X,hX⟩:∃X:ByteArray,⟨x.toArray⟩=X:=⟨_,rfl⟩;obtain⟨Y,hY⟩:∃X:ByteArray,⟨y.toArray⟩=X:=⟨_,rfl⟩;rw[hX]at f0
    rw[hY]at f1
    have lZ:Hid (∀(l:List Nm) z,l[i]?=some z->l.take (i+1)=l.take i++[z]):=wJ (λ(l:List Nm) z h=>by rw[uL,h];rfl);have HXY:=wJ (And.intro hx hy);by_cases hxy:x=y
    ·have HEQ:Hid (L.take (i+1)=R.take (i+1)):=wJ (by rw[lZ.out L x hx,lZ.out R y hy,hT.out,hxy])
     have d:(X.toList==Y.toList)=true:=by rw[<-hX,<-hY,hxy];exact beq_self_eq_true _
     clear hx hy bh hSk fN pB hxy;go_wp2_with fail
     go_region_held3 (λW:World=>W.cell? ⟨g,i,none⟩=some (.string X)/\W.cell? ⟨k,i,none⟩=some (.string Y)) (first|exact⟨f0,f1⟩) (fail)
     all_goals
      go_wp2_with fail
      go_roundg (n-(i+1))
      case measure=>omega
      case rel=>exact⟨i+1,rfl,by go_num,by omega,HEQ,wJ hB.out.drew⟩
    ·have HE:Hid (decide (L=R)=false):=wJ (ux (λe=>hxy (by rw[e,hy]at hx;injection hx with hx;exact hx.symm)))
     have d:(X.toList==Y.toList)=false:=by rw[uK,uK,<-hX,<-hY];exact uo.2 hxy
     clear hx hy bh hSk fN pB hxy;go_wp2_with fail
     go_region_held3 (λW:World=>W.cell? ⟨g,i,none⟩=some (.string X)/\W.cell? ⟨k,i,none⟩=some (.string Y)) (first|exact⟨f0,f1⟩) (fail)
     all_goals
      go_wp2_with fail
      go_ret
      refine⟨?_,hB.out.drew⟩;rw[HE.out]
      rfl
   ·obtain rfl:i=n:=by omega
    have HE:Hid (decide (L=R)=true):=wJ (uB (by
     have:=hT.out;rw[ur (by rw[HN.out];exact tV _),ur (by rw[HM.out];exact tV _)]at this
     exact this))
    go_wp2_with fail
    go_ret
    refine⟨?_,hB.out⟩;rw[HE.out]
    rfl
 ·clear hA hC
  have HE:Hid (decide (L=R)=false):=wJ (ux (λe=>he (by rw[<-hn,<-hm,e])));have d:((n:Int) !=(m:Int))=true:=by simpa using λe=>he (by omega)
  clear hn hm hl;go_enter Tryz.func57,Tryz.ntmps57
  go_wp2_with fail
  go_ret
  refine⟨?_,ua _ _⟩;rw[HE.out]
  rfl
end Go.Proofs.YtknkclefoiohpaaGreatDoor
namespace Go.Proofs.YtknkclefoiohpaaGreatDoor
open Go.RowKit Lx Tx Sx
set_option maxRecDepth 100000
def TP8(ts:List Tok)(w:World)(o:Option (Ty × List Tok))(e:Ending)(w':World):Prop :=
 Below w.heap.size w w'/\∃(K:Int) (X:ByteArray) (Z:Int) (A:Option Addr) (m c:Nat) (z:Int),e=.returned (.tuple #[.agg #[.int .i64 K,.string X,.int .i64 Z,.slice A m c],.int .i64 z])/\PAt ts (o.map (·.2)) z /\
  ∀t r,o=some (t,r)->RdV (λg=>w.heap.size<=g/\g<w'.heap.size) w' t (.agg #[.int .i64 K,.string X,.int .i64 Z,.slice A m c])
theorem zfk(v:Value)(ts:List Tok)(p:Option (List Tok))(z:Int)(w:World)(h:RdT w v ts)(hG:AllG ts)(hn:ts.length<=100000)(hp:PAt ts p z):Calls Tryz.prog 84 #[v,.int .i64 z] w (TP8 ts w (p.bind typ)):=by
 rcases hp with⟨rfl,rfl⟩|⟨i,hi,rfl,rfl⟩
 ·go_enter Tryz.func84,Tryz.ntmps84
  go_wp2_with fail
  try simp only[Exit.inBlock,Exit.then]
  refine ub (zaa rfl _ _ w.heap.size 44 _ (0,0) _ rfl (tW _ _) Tryz.underlying44 rfl (by kernel_rfl)) rfl ?_;exact⟨(ua _ _).alloc (tV _) _,0,⟨#[]⟩,0,none,0,0,-1,rfl,PAt.none_ ts,λt r h=>by cases h⟩
 ·have HR:=wJ ((zl7 ts v hG hn (enough (ts.drop i)) (enough (ts.drop i)) (tV _)).1 (w.alloc (.cells tyZ 44)) i (h.alloc _) hi (by unfold enough;rw[uR];omega))
  have d0:decide ((i:Int)<0)=false:=ux (by omega);rw[uE,typ]
  obtain⟨O,hO⟩:∃O,read (enough (ts.drop i)) (ts.drop i)=O:=⟨_,rfl⟩;rw[hO]at HR ⊢
  unfold tyZ at HR;clear hO h hG;go_enter Tryz.func84,Tryz.ntmps84
  go_wp2_with fail
  refine HR.out.mono ?_;rintro e w1 ⟨b1,K1,X1,Z1,A1,m1,c1,aB⟩;have cu:Blk w1 w.heap.size 44 #[.int .i64 0,.string ⟨#[]⟩,.int .i64 0,.slice none 0 0]:=Blk.below (tW _ _) b1 (by simp);obtain⟨a0,a1,a2,a3,r0,r1,r2,r3,ax⟩:=zae cu;have bj:=b1.size;simp at bj;have dT:=wJ cu;have B1:=wJ b1;clear cu b1;rcases aB with⟨ho,rfl⟩|⟨t,k,hk,bg,ho,rfl,hr⟩
  ·subst ho
   go_wp2_with fail
   try simp only[Exit.inBlock,Exit.then]
   refine ub (zaa rfl _ _ w.heap.size 44 _ (0,0) _ rfl (zai _ _ _ _ dT.out) Tryz.underlying44 rfl (by kernel_rfl)) rfl ?_;exact⟨zaq (zaW B1.out (tV _)) _ _ _ _ (tV _),K1,X1,Z1,A1,m1,c1,-1,rfl,PAt.none_ ts,λt r h=>by cases h⟩
  ·subst ho
   have HT:=wJ hr;clear hr;go_wp2_with fail
   try simp only[Exit.inBlock,Exit.then]
   refine ub (zaa rfl _ _ w.heap.size 44 _ (0,0) _ rfl (zai _ _ _ _ dT.out) Tryz.underlying44 rfl (by kernel_rfl)) rfl ?_;refine⟨zaq (zaW B1.out (tV _)) _ _ _ _ (tV _),K1,X1,Z1,A1,m1,c1,(k:Nat),rfl,PAt.some_ ts k bg,λt' r h=>?_⟩;injection h with h;injection h with h _;subst h;exact HT.out.keep (λg hg=>by simp at hg ⊢;omega) (λg hg=>zan _ _ _ _ _ _ _ (by simp at hg;omega))
def nsO(p:Option (List Tok)):List (List UInt8):=match p with
 |none=>[]
 |some r=>(vars r).1
def nsR(p:Option (List Tok)):Option (List Tok):=p.map λr=>(vars r).2
def zpa(ts:List Tok)(p:Option (List Tok))(w:World)(gg:Nat)(vo vi vq:Value)(wr:World):Prop :=
 ∃(r:Option (List Tok)) (z:Int) (q:Bool) (done:List (List UInt8)) (A:Option Addr) (c:Nat),gg=(r.elim 0 List.length)/\vo=.slice A done.length c/\vi=.int .i64 z/\vq=.bool q/\PAt ts r z/\isO 1 [] r=q /\
  Hid (nsO p=done++nsO r/\nsR p=nsR r)/\Hid (wr.ownsRow w.heap.size 9 1 (.slice A done.length c) done.length (strV done))/\Hid (Below w.heap.size w wr)/\gg+done.length<=ts.length
theorem zpb {p:Option (List Tok)}(h:isO 1 [] p=false):nsO p=[]/\nsR p=p:=by
 cases p with
 |none=>exact⟨rfl,rfl⟩
 |some r =>
  rw[zbQ]at h
  have hk:¬(hd r).kind=1:=by simpa using h
  simp only[nsO,nsR,uq,zfV r hk];exact⟨trivial,trivial⟩
theorem znZ {r:List Tok}(h:isO 1 [] (some r)=true):nsO (some r)=(hd r).text::nsO (some r.tail)/\nsR (some r)=nsR (some r.tail):=by
 rw[zbQ]at h
 have hk:(hd r).kind=1:=by simpa using h
 simp only[nsO,nsR,uq,zfa r hk];exact⟨trivial,trivial⟩
theorem zgZ(v:Value)(ts:List Tok)(p:Option (List Tok))(z:Int)(w:World)(h:RdT w v ts)(hn:ts.length<=100000)(hp:PAt ts p z):Calls Tryz.prog 82 #[v,.int .i64 z] w λe w'=>Below w.heap.size w w'/\∃A c z',e=.returned (.tuple #[.slice A (nsO p).length c,.int .i64 z'])/\PAt ts (nsR p) z'/\(nsO p).length<=c/\NmsIn (λg=>w.heap.size<=g/\g<w'.heap.size) w' (nsO p) A:=by
 obtain⟨i0,bJ,bO,bz,bE⟩:=vz zc5;have pz:=hp.lo;have HV:=wJ h;have HA:Hid (∀(W:World) (r:Option (List Tok)) (y:Int),Below w.heap.size w W->PAt ts r y->Calls Tryz.prog 34 #[v,.int .i64 y,.int .i64 1,.string ⟨#[]⟩] W λe w'=>e=.returned (.bool (isO 1 [] r))/\W=w') :=
  wJ λW r y hb hr=>zaY v ts r y 1 ⟨#[]⟩ 1 rfl (by decide) W (h.below hb) hr
 have HP:=wJ hp;have hlen:(p.elim 0 List.length)<=ts.length:=by
  cases p with
  |none=>exact vK _
  |some r=>exact hp.len r rfl
 obtain⟨q0,qo⟩:∃q,isO 1 [] p=q:=⟨_,rfl⟩;have HQ0:=wJ qo;obtain⟨A0,c0,rfl,-⟩:=h;obtain⟨N0,lg⟩:∃n,ts.length=n:=⟨_,rfl⟩;have fD:=wJ lg;rw[lg]at hn hlen pz HV HA ⊢
 clear lg;clear hp qo;go_enter Tryz.func82,Tryz.ntmps82
 go_wp2_with fail
 refine(HA.out _ p z (ua _ _) HP.out).mono ?_;rintro e w1 ⟨rfl,rfl⟩;go_wp2_with fail
 go_loopg [1,6,7] (p.elim 0 List.length) (λgg vi vo vq wr=>zpa ts p w gg vo vi vq wr)
 case atStart=>exact⟨p,z,isO 1 [] p,[],none,0,rfl,rfl,rfl,rfl,HP.out,rfl,wJ ⟨rfl,rfl⟩,wJ (uZ _ _ _ _),wJ (ua _ _),by rw[fD.out];simpa using hlen⟩
 case round =>
  obtain⟨r,y,q,done,A,c,rfl,rfl,rfl,rfl,hr,hq,he,ae,hb,hle⟩:=hrel;obtain⟨n,hn⟩:∃n,done.length=n:=⟨_,rfl⟩;rw[hn]at hle ae ⊢
  have nP:=wJ hn;clear hn;cases q with
  |false =>
   obtain⟨e1,e2⟩:=zpb hq;have hO:nsO p=done:=by rw[he.out.1,e1,uW]
   have hR:nsR p=r:=by rw[he.out.2,e2]
   have HO:=wJ hO;have HR:=wJ hR;have HPR:=wJ hr;clear hO hR he hq hr e1 e2;go_wp2_with fail
   go_ret2
   refine⟨hb.out,A,c,y,by rw[HO.out,nP.out];rfl,by rw[HR.out];exact HPR.out,by rw[HO.out,nP.out];exact zhP ae.out,?_⟩;rw[HO.out]
   exact zbX nP.out.symm ae.out
  |true =>
   rcases hr with⟨rfl,-⟩|⟨k,hk,rfl,rfl⟩
   ·cases hq
   ·have ah:=zch (by decide) hq
    rw[fD.out]at hle
    simp only[Option.elim_some,uR,fD.out]at hle;have cU:k<N0:=by rw[<-fD.out];exact ah
    obtain⟨g,c',dv,-,h1,-⟩:=(HV.out.below hb.out).at_ k ah;rw[fD.out]at dv
    injection dv with q1 q2 q3;subst q1 q3;clear q2;obtain⟨X,hX⟩:∃X:ByteArray,⟨ts[k].text.toArray⟩=X:=⟨_,rfl⟩;obtain⟨e1,e2⟩:=znZ hq;simp only[zdy ts k ah,tail_drop]at e1 e2;have HE:Hid (nsO p=(done++[X.data.toList])++nsO (some (ts.drop (k+1)))/\nsR p=nsR (some (ts.drop (k+1)))):=wJ ⟨by rw[he.out.1,e1,<-hX];simp,by rw[he.out.2,e2]⟩;rw[hX]at h1
    have k0:(0:Int)<=(k:Int):=by omega
    have k1:(k:Int)<(N0:Int):=by omega
    have aG:=hb.out.size;have ma:=wJ (ae.out.alloc (.cells #[.string X] 9));have aV:=zaj h1;clear he e1 e2 hX hq hk ah HP HQ0;go_wp2_with (at_builtin;refine uP _ rfl (.tmp 12) (.tmp 18) 56 rfl w.heap.size 9 i0 _ 1 16 Tryz.underlying56 bJ bO bz bE rfl (by decide) _ n (strV done) rfl ma.out ⟨wr.heap.size,0,none⟩ 1 1 [.string X] rfl rfl (zao _ _ _ _ rfl) (by intro u hu;simp at hu;subst hu;rfl) (by unfold maxLen;omega) (by omega) (by simp;omega) ?_;intro v2 w5 aj ab _ cV;obtain⟨A2,c2,rfl⟩:=zat aj;have bw:=wJ ab;have eU:=wJ aj;clear aj ab cV)
    have gk:Hid (Below w.heap.size w w5):=wJ ((hb.out.alloc aG _).grown bw.out (by simp;omega) (λj hj=>by have:=ae.out.lt j hj;omega));refine(HA.out w5 (some (ts.drop (k+1))) ((k:Int)+1) gk.out (.inr ⟨k+1,by rw[fD.out];omega,by omega,rfl⟩)).mono ?_;rintro e w6 ⟨rfl,rfl⟩;go_wp2_with fail
    go_roundg (N0-(k+1))
    case measure=>simp only[Option.elim_some,uR,fD.out];omega
    case rel =>
     refine⟨some (ts.drop (k+1)),(k:Int)+1,_,done++[X.data.toList],A2,c2,by simp[fD.out],by rw[uf,nP.out];rfl,rfl,rfl,.inr ⟨k+1,by rw[fD.out];omega,by omega,rfl⟩,rfl,HE,wJ ?_,gk,by rw[uf,nP.out,fD.out];simp;omega⟩;rw[uf,nP.out,show strV (done++[X.data.toList])=strV done++[.string X] by simp[strV]]
     exact eU.out
end Go.Proofs.YtknkclefoiohpaaGreatDoor
namespace Go.Proofs.YtknkclefoiohpaaGreatDoor
open Go.RowKit Lx Tx Sx
set_option maxRecDepth 100000
theorem zaP(k:Nat)(X:List UInt8)(hX:X≠[])(l:List Tok):nxO k X (some l)=if isHd l k X=true then some l.tail else none:=by rw[nxO,zba k X hX];rfl
theorem zcO(k:Nat)(l:List Tok):nxO k [] (some l)=if(hd l).kind=k then some l.tail else none:=by
 rw[nxO,zbQ]
 by_cases h:(hd l).kind=k
 ·rw[ud h,ud (by simpa using h)];rfl
 ·rw[ue h,ue (by simpa using h)]
theorem zpM(f:Nat)(l:List Tok):lamF f l=((nxO 6 [45,62] (nxO 1 [] (some l))).bind (rdE f)).map λy=>(.lam (txO (some l)) y.1,y.2):=by
 rw[zi3,zcO]
 by_cases h:(hd l).kind=1
 ·rw[ud h,ud h,zaP _ _ (by decide)]
  by_cases h2:isHd l.tail 6 [45,62]=true
  ·rw[ud h2,ud h2];rfl
  ·rw[ue h2,ue h2];rfl
 ·rw[ue h,ue h];rfl
def letO(f:Nat)(x:Nm)(t:Option Ty)(p:Option (List Tok)):Option (Ex × List Tok) :=
 ((nxO 6 [61] p).bind (rdE f)).bind λy=>((nxO 3 wIn (some y.2)).bind (rdE f)).map λz=>(.lt x t y.1 z.1,z.2)
theorem zkz(f:Nat)(x:Nm)(t:Option Ty)(r:List Tok):letG f x t r=letO f x t (some r):=by
 rw[zdD,letO,zaP _ _ (by decide)]
 by_cases h:isHd r 6 [61]=true
 ·rw[ud h,ud h,uE]
  cases rdE f r.tail with
  |none=>rfl
  |some y =>
   rw[uE,letJ,zaP _ _ (by decide)]
   by_cases h2:isHd y.2 3 wIn=true
   ·rw[ud h2,ud h2];rfl
   ·rw[ue h2,ue h2];rfl
 ·rw[ue h,ue h];rfl
theorem zmh(f:Nat)(x:Nm)(t:Option Ty)(p:Option (List Tok)):(letO f x t p).map (·.2)=((nxO 3 wIn (((nxO 6 [61] p).bind (rdE f)).map (·.2))).bind (rdE f)).map (·.2):=by
 rw[letO]
 cases (nxO 6 [61] p).bind (rdE f) with
 |none=>rfl
 |some y =>
  simp only[uE,uq,vJ];rfl
theorem zkA {f:Nat} {x:Nm} {t:Option Ty} {p:Option (List Tok)} {e:Ex} {r:List Tok}(h:letO f x t p=some (e,r)):∃a b ra,e=.lt x t a b/\(nxO 6 [61] p).bind (rdE f)=some (a,ra)/\(nxO 3 wIn (some ra)).bind (rdE f)=some (b,r):=by
 rw[letO]at h
 cases h1:(nxO 6 [61] p).bind (rdE f) with
 |none=>rw[h1]at h;cases h
 |some y =>
  rw[h1,uE]at h
  cases h2:(nxO 3 wIn (some y.2)).bind (rdE f) with
  |none=>rw[h2]at h;cases h
  |some z =>
   rw[h2]at h
   simp only[uq,um,uw]at h;obtain⟨rfl,rfl⟩:=h;exact⟨y.1,z.1,y.2,rfl,rfl,h2⟩
theorem zpN(f:Nat)(l:List Tok):letF f l=if isO 6 [58] (nxO 1 [] (some l))=true then((nxO 6 [58] (nxO 1 [] (some l))).bind typ).bind λy=>letO f (txO (some l)) (some y.1) (some y.2) else letO f (txO (some l)) none (nxO 1 [] (some l)):=by
 rw[zi5,zcO]
 by_cases h:(hd l).kind=1
 ·rw[ud h,ud h,letN,zba _ _ (by decide),zaP _ _ (by decide)]
  by_cases h2:isHd l.tail 6 [58]=true
  ·rw[ud h2,ud h2,ud h2,uE]
   cases typ l.tail.tail with
   |none=>rfl
   |some y=>rw[letT,uE,zkz];rfl
  ·rw[ue h2,ue h2,zkz];rfl
 ·rw[ue h,ue h];rfl
theorem zpO(f:Nat)(l:List Tok):parF f l=(rdE f l).bind λy=>if isO 6 [58] (some y.2)=true then((nxO 6 [58] (some y.2)).bind typ).bind λz=>(nxO 6 [41] (some z.2)).map λr=>(.ann y.1 z.1,r) else(nxO 6 [41] (some y.2)).map λr=>(y.1,r):=by
 rw[zi4]
 cases rdE f l with
 |none=>rfl
 |some y =>
  rw[uE]
  simp only[parG];rw[zba _ _ (by decide),zaP _ _ (by decide),zaP _ _ (by decide)]
  by_cases h:isHd y.2 6 [58]=true
  ·rw[ud h,ud h,ud h,uE]
   cases typ y.2.tail with
   |none=>rfl
   |some z =>
    rw[parH,uE,zaP _ _ (by decide)]
    by_cases h2:isHd z.2 6 [41]=true
    ·rw[ud h2,ud h2];rfl
    ·rw[ue h2,ue h2];rfl
  ·rw[ue h,ue h]
   by_cases h2:isHd y.2 6 [41]=true
   ·rw[ud h2,ud h2];rfl
   ·rw[ue h2,ue h2];rfl
theorem zbd {ts:List Tok} {p:Option (List Tok)} {z:Int} {k:Nat} {X:List UInt8}(hk:k≠0)(hp:PAt ts p z)(h:isO k X p=true):PAt ts (nxO k X p) (z+1)/\0<=z/\z<ts.length:=by
 rcases hp with⟨rfl,rfl⟩|⟨i,hi,rfl,rfl⟩
 ·cases h
 ·have ah:=zch hk h
  rw[nxO,h,ud rfl,uq,tail_drop]
  exact⟨.inr ⟨i+1,by omega,by omega,rfl⟩,by omega,by omega⟩
def parO(M:Option (Ex × List Tok)):Option (Ex × List Tok) :=
 M.bind λy=>if isO 6 [58] (some y.2)=true then((nxO 6 [58] (some y.2)).bind typ).bind λz=>(nxO 6 [41] (some z.2)).map λr=>(.ann y.1 z.1,r) else(nxO 6 [41] (some y.2)).map λr=>(y.1,r)
theorem ziC {M:Option (Ex × List Tok)}(h:isO 6 [58] (M.map (·.2))=false):(parO M).map (·.2)=nxO 6 [41] (M.map (·.2))/\∀x r,parO M=some (x,r)->∃r0,M=some (x,r0):=by
 cases M with
 |none=>exact⟨rfl,λx r h=>by cases h⟩
 |some y =>
  have h':¬isO 6 [58] (some y.2)=true:=by rw[show isO 6 [58] (some y.2)=false from h];decide
  have e:parO (some y)=(nxO 6 [41] (some y.2)).map λr=>(y.1,r):=by rw[parO,uE,ue h']
  rw[e]
  refine⟨?_,λx r h=>?_⟩
  ·rw[vJ,uq]
   cases nxO 6 [41] (some y.2) <;> rfl
  ·cases hn:nxO 6 [41] (some y.2) with
   |none=>rw[hn]at h;cases h
   |some r1 =>
    rw[hn]at h
    simp only[uq,um,uw]at h;obtain⟨rfl,-⟩:=h;exact⟨y.2,rfl⟩
theorem zmi {M:Option (Ex × List Tok)}(h:isO 6 [58] (M.map (·.2))=true):∃y r0,M=some (y,r0)/\(parO M).map (·.2)=nxO 6 [41] (((nxO 6 [58] (M.map (·.2))).bind typ).map (·.2))/\∀x r,parO M=some (x,r)->∃t r1,(nxO 6 [58] (M.map (·.2))).bind typ=some (t,r1)/\x=.ann y t:=by
 cases M with
 |none=>cases h
 |some y =>
  have h':isO 6 [58] (some y.2)=true:=h;have e:parO (some y)=((nxO 6 [58] (some y.2)).bind typ).bind λz=>(nxO 6 [41] (some z.2)).map λr=>(.ann y.1 z.1,r):=by rw[parO,uE,ud h']
  refine⟨y.1,y.2,rfl,?_,λx r h=>?_⟩
  ·rw[e,uq]
   cases (nxO 6 [58] (some y.2)).bind typ with
   |none=>rfl
   |some z =>
    rw[uE,vJ,uq]
    cases nxO 6 [41] (some z.2) <;> rfl
  ·rw[e]at h
   rw[uq]
   cases ht:(nxO 6 [58] (some y.2)).bind typ with
   |none=>rw[ht]at h;cases h
   |some z =>
    rw[ht,uE]at h
    cases hn:nxO 6 [41] (some z.2) with
    |none=>rw[hn]at h;cases h
    |some r1 =>
     rw[hn]at h
     simp only[uq,um,uw]at h;obtain⟨rfl,-⟩:=h;exact⟨z.1,z.2,rfl,rfl⟩
def XP8(ts:List Tok)(w:World)(o:Option (Ex × List Tok))(e:Ending)(w':World):Prop :=
 Below w.heap.size w w'/\∃(cs:List Value) (z:Int),shE cs/\e=.returned (.tuple #[.agg cs.toArray,.int .i64 z])/\PAt ts (o.map (·.2)) z/\∀x r,o=some (x,r)->pcE.Cs (λg=>w.heap.size<=g/\g<w'.heap.size) w' x cs
def Rd8(ts:List Tok)(v:Value)(f:Nat):Prop:=∀f1,f1<=f->∀(w:World)(p:Option (List Tok))(z:Int),RdT w v ts->PAt ts p z->(∀r,p=some r->3*r.length+3<=f1)->Calls Tryz.prog 44 #[v,.int .i64 z] w (XP8 ts w (p.bind (rdE f1)))
def At8(ts:List Tok)(v:Value)(f:Nat):Prop:=∀f1,f1<=f->∀(w:World)(p:Option (List Tok))(z:Int),RdT w v ts->PAt ts p z->(∀r,p=some r->3*r.length+1<=f1)->Calls Tryz.prog 100 #[v,.int .i64 z] w (XP8 ts w (p.bind (rdAtom f1)))
set_option maxRecDepth 100000
theorem zbF {ts:List Tok} {w W:World} {o:Option (Ex × List Tok)} {z k:Int} {x:ByteArray} {t:Bool} {K:Int} {X:ByteArray} {Z:Int} {B:Option Addr} {m q:Nat} {KA:Option Addr} {kn kc:Nat} {LA:Option Addr} {ln lc:Nat}
  (hb:Below w.heap.size w W)(hp:PAt ts (o.map (·.2)) z)
  (hx:∀y r,o=some (y,r)->pcE.Cs (λg=>w.heap.size<g/\g<W.heap.size) W y [.int .i64 k,.string x,.bool t,.int .i64 K,.string X,.int .i64 Z,.slice B m q,.slice KA kn kc,.slice LA ln lc]):XP8 ts w o (.returned (.tuple #[.agg #[.int .i64 k,.string x,.bool t,.int .i64 K,.string X,.int .i64 Z,.slice B m q,.slice KA kn kc,.slice LA ln lc],.int .i64 z]))
   (((((((((W.setCell ⟨w.heap.size,0,none⟩ (.int .i64 k)).setCell ⟨w.heap.size,1,none⟩ (.string x)).setCell ⟨w.heap.size,2,none⟩ (.bool t)).setCell ⟨w.heap.size,3,none⟩ (.int .i64 K)).setCell ⟨w.heap.size,4,none⟩ (.string X)).setCell ⟨w.heap.size,5,none⟩ (.int .i64 Z)).setCell ⟨w.heap.size,6,none⟩ (.slice B m q)).setCell ⟨w.heap.size,7,none⟩ (.slice KA kn kc)).setCell ⟨w.heap.size,8,none⟩ (.slice LA ln lc)):=by
 refine⟨za8 hb (tV _) _ _ _ _ _ _ _ _ _,_,z,⟨_,_,_,_,_,_,_,_,_,_,_,_,_,_,_,rfl⟩,rfl,hp,λy r ho=>?_⟩;exact pcE.keep (λg hg=>⟨by omega,by rw[zak];omega⟩) (λg hg=>zaf _ _ _ _ _ _ _ _ _ _ _ _ (by omega)) (hx y r ho)
theorem XP8.drew {ts:List Tok} {w W:World} {o:Option (Ex × List Tok)} {e:Ending}(h:XP8 ts w o e W):XP8 ts w o e W.drew:=by
 obtain⟨h1,cs,z,h2,h3,h4,h5⟩:=h;exact⟨h1.drew,cs,z,h2,h3,h4,λx r ho=>pcE.keep (w:=W) (S:=λg=>w.heap.size<=g/\g<W.heap.size) (λ_ h=>h) (λ_ _=>rfl) (h5 x r ho)⟩
theorem zeF {B:Nat} {w w':World} {g:Nat}(h:Below B w w')(b3 b4 b5 b6:Value)(hg:B<=g):Below B w ((((w'.setCell ⟨g,3,none⟩ b3).setCell ⟨g,4,none⟩ b4).setCell ⟨g,5,none⟩ b5).setCell ⟨g,6,none⟩ b6) :=
 (((h.setCell (p:=⟨g,3,none⟩) hg b3).setCell (p:=⟨g,4,none⟩) hg b4).setCell (p:=⟨g,5,none⟩) hg b5).setCell (p:=⟨g,6,none⟩) hg b6
theorem ziD(f:Nat)(ts:List Tok)(v:Value)(hG:AllG ts)(hn:ts.length<=100000)(w:World)(p:Option (List Tok))(z:Int)(IH:∀r,p=some r->Rd8 ts v f)(hv:RdT w v ts)(hp:PAt ts p z)(hf:∀r,p=some r->3*r.length+1<=f+1):Calls Tryz.prog 100 #[v,.int .i64 z] w (XP8 ts w (p.bind (rdAtom (f+1)))):=by
 have eE:Hid (∀W,Below w.heap.size w W->Calls Tryz.prog 34 #[v,.int .i64 z,.int .i64 1,.string ⟨#[]⟩] W λe w'=>e=.returned (.bool (isO 1 [] p))/\W=w'):=wJ λW hb=>zaY v ts p z 1 ⟨#[]⟩ 1 rfl (by decide) W (hv.below hb) hp;have js:Hid (∀W,Below w.heap.size w W->Calls Tryz.prog 34 #[v,.int .i64 z,.int .i64 2,.string ⟨#[]⟩] W λe w'=>e=.returned (.bool (isO 2 [] p))/\W=w'):=wJ λW hb=>zaY v ts p z 2 ⟨#[]⟩ 2 rfl (by decide) W (hv.below hb) hp;have nO:Hid (∀W,Below w.heap.size w W->Calls Tryz.prog 83 #[v,.int .i64 z,.int .i64 6,.string ⟨#[40]⟩] W λe w'=>W=w'/\∃z',e=.returned (.int .i64 z')/\PAt ts (nxO 6 [40] p) z'):=wJ λW hb=>zaL v ts p z 6 ⟨#[40]⟩ 6 rfl (by decide) W (hv.below hb) hn hp;obtain⟨W0,ai⟩:∃W,w.alloc (.cells #[.int .i64 0,.string ⟨#[]⟩,.bool false,.int .i64 0,.string ⟨#[]⟩,.int .i64 0,.slice none 0 0,.slice none 0 0,.slice none 0 0] 48)=W:=⟨_,rfl⟩;have fX:Below w.heap.size w W0:=ai▸(ua _ w).alloc (tV _) _;have eI:w.heap.size+1<=W0.heap.size/\W0.heap.size<=w.heap.size+1:=by rw[<-ai];simp
 have aa:Blk W0 w.heap.size 48 #[.int .i64 0,.string ⟨#[]⟩,.bool false,.int .i64 0,.string ⟨#[]⟩,.int .i64 0,.slice none 0 0,.slice none 0 0,.slice none 0 0]:=ai▸tW _ _;have cM:=wJ fX;have aE:=wJ aa;obtain⟨O,hO⟩:∃O,p.bind (rdAtom (f+1))=O:=⟨_,rfl⟩;rw[hO]
 have HO:=wJ hO;have HV:=wJ hv;clear fX aa hO;obtain⟨q1,ni⟩:∃q,isO 1 [] p=q:=⟨_,rfl⟩;rw[ni]at eE
 obtain⟨⟨g0,g1,g2,g3,g4,g5,g6,g7,g8⟩,⟨z0,z1,z2,z3,z4,z5,z6,z7,z8⟩,ax⟩:=zab aE.out;cases q1 with
 |true =>
  rcases hp with⟨rfl,-⟩|⟨i,hi,rfl,rfl⟩
  ·cases ni
  ·have ah:=zch (by decide) ni
   obtain⟨g,c,rfl,-,h1,-⟩:=hv.at_ i ah;obtain⟨X,hX⟩:∃X:ByteArray,⟨ts[i].text.toArray⟩=X:=⟨_,rfl⟩;have pY:Hid (O=some (.var X.data.toList,ts.drop (i+1))):=wJ (by
    rw[<-HO.out,uE,zcD,ud (by simpa[zbQ] using ni),zdy ts i ah,tail_drop,<-hX])
   rw[hX]at h1
   obtain⟨n,hN⟩:∃n,ts.length=n:=⟨_,rfl⟩;have HN:=wJ hN;rw[hN]at ah hn eE HV ⊢
   have iw:(0:Int)<=(i:Int):=by omega
   have gV:(i:Int)<(n:Int):=by omega
   have aV:=zaj h1;replace h1:W0.cell? ⟨g,i*3+1,none⟩=some (.string X):=(cM.out.cell (p:=⟨g,i*3+1,none⟩) aV).trans h1;clear hv js nO HO hX ni hf IH hi hN hG HV;go_enter Tryz.func100,Tryz.ntmps100
   go_wp2_with fail
   try rw[ai]
   refine(eE.out _ cM.out).mono ?_;rintro e w1 ⟨rfl,rfl⟩;clear eE ai;go_wp2_with fail
   try simp only[Exit.inBlock,Exit.then]
   refine ub (zaa rfl _ _ w.heap.size 48 _ (0,0) _ rfl (zah _ _ _ _ _ _ _ _ _ aE.out) Tryz.underlying48 rfl (by kernel_rfl)) rfl ?_;refine zbF cM.out (.inr ⟨i+1,by rw[HN.out];omega,by go_num,by rw[pY.out];rfl⟩) (λy r ho=>?_);rw[pY.out]at ho
   injection ho with ho;injection ho with ho _;subst ho;exact⟨⟨none,0,none,0,none,0⟩,by simp[exC,kdE,nmE,toE,tyE,tyC,zac,zad,Sx.strV],trivial,by rw[ExIn];trivial⟩
 |false =>
  obtain⟨q2,cf⟩:∃q,isO 2 [] p=q:=⟨_,rfl⟩;rw[cf]at js
  cases q2 with
  |true =>
   rcases hp with⟨rfl,-⟩|⟨i,hi,rfl,rfl⟩
   ·cases cf
   ·have ah:=zch (by decide) cf
    obtain⟨g,c,rfl,-,h1,-⟩:=hv.at_ i ah;obtain⟨X,hX⟩:∃X:ByteArray,⟨ts[i].text.toArray⟩=X:=⟨_,rfl⟩;have pY:Hid (O=some (.con X.data.toList,ts.drop (i+1))):=wJ (by
     have k2:(hd (ts.drop i)).kind=2:=by simpa[zbQ] using cf
     rw[<-HO.out,uE,zcD,ue (by rw[k2];decide),ue (by simp[isHd,k2]),ud k2,zdy ts i ah,tail_drop,<-hX])
    rw[hX]at h1
    obtain⟨n,hN⟩:∃n,ts.length=n:=⟨_,rfl⟩;have HN:=wJ hN;rw[hN]at ah hn eE js HV ⊢
    have iw:(0:Int)<=(i:Int):=by omega
    have gV:(i:Int)<(n:Int):=by omega
    have aV:=zaj h1;replace h1:W0.cell? ⟨g,i*3+1,none⟩=some (.string X):=(cM.out.cell (p:=⟨g,i*3+1,none⟩) aV).trans h1;clear hv nO HO hX ni cf hf IH hi hN hG HV;go_enter Tryz.func100,Tryz.ntmps100
    go_wp2_with fail
    try rw[ai]
    refine(eE.out _ cM.out).mono ?_;rintro e w1 ⟨rfl,rfl⟩;clear eE ai;go_wp2_with fail
    refine(js.out _ cM.out).mono ?_;rintro e w1 ⟨rfl,rfl⟩;clear js;go_wp2_with fail
    try simp only[Exit.inBlock,Exit.then]
    refine ub (zaa rfl _ _ w.heap.size 48 _ (0,0) _ rfl (zah _ _ _ _ _ _ _ _ _ aE.out) Tryz.underlying48 rfl (by kernel_rfl)) rfl ?_;refine zbF cM.out (.inr ⟨i+1,by rw[HN.out];omega,by go_num,by rw[pY.out];rfl⟩) (λy r ho=>?_);rw[pY.out]at ho
    injection ho with ho;injection ho with ho _;subst ho;exact⟨⟨none,0,none,0,none,0⟩,by simp[exC,kdE,nmE,toE,tyE,tyC,zac,zad,Sx.strV],trivial,by rw[ExIn];trivial⟩
  |false =>
   have HNP:Hid (nxO 6 [40] p=none\/∃r,p=some r/\nxO 6 [40] p=some r.tail/\3*r.tail.length+3<=f/\O=parF f r.tail):=wJ (by
    cases hx:nxO 6 [40] p with
    |none=>exact .inl rfl
    |some r' =>
     obtain⟨l,rfl,rfl,hl,hq⟩:=za1 (by decide) hx;refine .inr ⟨l,rfl,rfl,by have:=hf l rfl;omega,?_⟩;have k6:isHd l 6 [40]=true:=by rw[<-zba _ _ (by decide)];exact hq
     rw[<-HO.out,uE,zcD,ue (by simpa[zbQ] using ni),ud k6])
   have jR:Hid (nxO 6 [40] p=none->O=none):=wJ (λhx=>by
    rw[<-HO.out]
    cases p with
    |none=>rfl
    |some l =>
     rw[uE,zcD,ue (by simpa[zbQ] using ni)]
     rw[zaP _ _ (by decide)]at hx
     rw[ue (by intro h;rw[ud h]at hx;cases hx),ue (by simpa[zbQ] using cf)])
   have bq:=wJ IH;have HG:=wJ hG;clear hv hp hf IH hG ni cf HO;go_enter Tryz.func100,Tryz.ntmps100
   go_wp2_with fail
   try rw[ai]
   refine(eE.out _ cM.out).mono ?_;rintro e w1 ⟨rfl,rfl⟩;clear eE ai;go_wp2_with fail
   refine(js.out _ cM.out).mono ?_;rintro e w1 ⟨rfl,rfl⟩;clear js;go_wp2_with fail
   refine(nO.out _ cM.out).mono ?_;rintro e w1 ⟨rfl,zk,rfl,hz⟩;clear nO;rcases HNP.out with hx|⟨r,hp,hx,mA,hO⟩
   ·have hon:=jR.out hx
    rw[hx]at hz
    rcases hz with⟨-,rfl⟩|⟨_,_,_,h⟩
    ·subst hon
     clear hx jR HNP;go_wp2_with fail
     try simp only[Exit.inBlock,Exit.then]
     refine ub (zaa rfl _ _ w.heap.size 48 _ (0,0) _ rfl (zah _ _ _ _ _ _ _ _ _ aE.out) Tryz.underlying48 rfl (by kernel_rfl)) rfl ?_;exact zbF cM.out (PAt.none_ ts) (λy r ho=>by cases ho)
    ·cases h
   ·rw[hx]at hz
    have qk:0<=zk:=by
     rcases hz with⟨h,-⟩|⟨k,hk,h,-⟩
     ·cases h
     ·omega
    have d0:decide (zk<0)=false:=ux (by omega);have hR:=bq.out r hp f (tV _) W0 (some r.tail) zk (HV.out.below cM.out) hz (λr' h=>by injection h with h;subst h;exact mA);rw[uE]at hR
    obtain⟨M,hM⟩:∃M,rdE f r.tail=M:=⟨_,rfl⟩;have HOM:Hid (O=parO M):=wJ (by rw[hO,zpO,hM];rfl);rw[hM]at hR
    have HR:=wJ hR;clear hR hz hx hp mA hO hM HNP jR bq g0 g1 g2 g3 g4 g5 g6 g7 g8 z0 z1 z2 z3 z4 z5 z6 z7 z8;go_wp2_with fail
    refine HR.out.mono ?_;rintro e w1 ⟨b1,cs,ze,bA,rfl,iN,au⟩;obtain⟨ck,cx,ct,cK,cX,cZ,cB,cm,cq,aU,aR,aS,aT,aP,aQ,rfl⟩:=bA;have bj:=b1.size;obtain⟨W1,aL⟩:∃W,w1.alloc (.cells #[.int .i64 ck,.string cx,.bool ct,.int .i64 cK,.string cX,.int .i64 cZ,.slice cB cm cq,.slice aU aR aS,.slice aT aP aQ] 48)=W:=⟨_,rfl⟩;have aX:Below w1.heap.size w1 W1:=aL▸(ua _ w1).alloc (tV _) _;have ph:w1.heap.size+1<=W1.heap.size/\W1.heap.size<=w1.heap.size+1:=by rw[<-aL];simp
    have oE:Blk W1 w1.heap.size 48 #[.int .i64 ck,.string cx,.bool ct,.int .i64 cK,.string cX,.int .i64 cZ,.slice cB cm cq,.slice aU aR aS,.slice aT aP aQ]:=aL▸tW _ _;have aJ:Hid (Below w.heap.size w W1):=wJ (cM.out.trans ((b1.mono (by omega)).trans (aX.mono (by omega))));have dO:=wJ ((aE.out.below b1 ax).below aX (by omega));have gj:=wJ oE;have oW:=wJ iN;have gB:Hid (∀y r,M=some (y,r)->pcE.Cs (λg=>w.heap.size<g/\g<w1.heap.size) W1 y [.int .i64 ck,.string cx,.bool ct,.int .i64 cK,.string cX,.int .i64 cZ,.slice cB cm cq,.slice aU aR aS,.slice aT aP aQ]):=wJ λy r ho=>pcE.keep (λg hg=>⟨by omega,hg.2⟩) (λg hg=>aX.block g hg.2) (au y r ho);have HIS:=wJ (zaY v ts (M.map (·.2)) ze 6 ⟨#[58]⟩ 6 rfl (by decide) W1 (HV.out.below aJ.out) iN);have pz:=iN.lo;clear b1 aX oE iN au HR;go_upto_region 11 with fail
    try rw[aL]
    clear aL;obtain⟨q,hq⟩:∃q,isO 6 [58] (M.map (·.2))=q:=⟨_,rfl⟩;rw[hq]at HIS
    have HQ:=wJ hq;clear hq;go_wp2_with fail
    refine HIS.out.mono ?_;rintro e w2 ⟨rfl,rfl⟩;clear HIS;obtain⟨⟨g0,g1,g2,g3,g4,g5,g6,g7,g8⟩,⟨z0,z1,z2,z3,z4,z5,z6,z7,z8⟩,bB⟩:=zab gj.out;cases q with
    |false =>
     obtain⟨⟨m0,m1,m2,m3,m4,m5,m6,m7,m8⟩,⟨y0,y1,y2,y3,y4,y5,y6,y7,y8⟩,pA⟩:=zab dO.out;have HNR:=wJ (λW (hb:Below w.heap.size w W)=>zaL v ts (M.map (·.2)) ze 6 ⟨#[41]⟩ 6 rfl (by decide) W (HV.out.below hb) hn oW.out);have HPO:=wJ (ziC HQ.out);go_wp2_with fail
     go_region_with (go_at_call 83;(with_reducible refine(HNR.out _ (by first|exact aJ.out|exact aJ.out.drew)).mono ?_);rintro e w3 ⟨rfl,z9,rfl,ju⟩;have HZ9:=wJ ju;clear ju)
     have HPO:=wJ (ziC HQ.out);all_goals
      go_wp2_with fail
      refine ub (zaa rfl _ _ w.heap.size 48 _ (0,0) _ rfl (zah _ _ _ _ _ _ _ _ _ dO.out).drew Tryz.underlying48 rfl (by kernel_rfl)) rfl ?_;refine XP8.drew (zbF aJ.out ?_ ?_)
      ·rw[HOM.out,HPO.out.1];exact HZ9.out
      ·intro y r ho
       rw[HOM.out]at ho
       obtain⟨r0,hM⟩:=HPO.out.2 y r ho;exact pcE.keep (λg hg=>⟨hg.1,by have:=hg.2;omega⟩) (λ_ _=>rfl) (gB.out y r0 hM)
    |true =>
     obtain⟨yy,r0,qE,fV,j7⟩:=zmi HQ.out;have lk:=wJ fV;have gK:=wJ j7;have iH:=wJ qE;obtain⟨dP,hze0,hze1⟩:=zbd (by decide) oW.out HQ.out;obtain⟨W2,bL⟩:∃W,(W1.alloc (.cells #[.int .i64 ck,.string cx,.bool ct,.int .i64 cK,.string cX,.int .i64 cZ,.slice cB cm cq,.slice aU aR aS,.slice aT aP aQ] 48)).alloc (.cells #[.int .i64 7,.string ⟨#[]⟩,.bool false,.int .i64 0,.string ⟨#[]⟩,.int .i64 0,.slice none 0 0,.slice (some ⟨W1.heap.size,0,none⟩) 1 1,.slice none 0 0] 48)=W:=⟨_,rfl⟩;have aA:Below W1.heap.size W1 W2:=bL▸((ua _ W1).alloc (tV _) _).alloc (by simp) _;have bo:W1.heap.size+2<=W2.heap.size/\W2.heap.size<=W1.heap.size+2:=by rw[<-bL];simp
     have ie:Blk W2 W1.heap.size 48 #[.int .i64 ck,.string cx,.bool ct,.int .i64 cK,.string cX,.int .i64 cZ,.slice cB cm cq,.slice aU aR aS,.slice aT aP aQ]:=bL▸Blk.below (tW W1 _) ((ua _ _).alloc (tV _) _) (by simp);have gY:Blk W2 (W1.heap.size+1) 48 #[.int .i64 7,.string ⟨#[]⟩,.bool false,.int .i64 0,.string ⟨#[]⟩,.int .i64 0,.slice none 0 0,.slice (some ⟨W1.heap.size,0,none⟩) 1 1,.slice none 0 0]:=bL▸zaA _ _ _ _ rfl;have ar:=wJ (aJ.out.trans (aA.mono (by omega)));have kL:=wJ (zfk v ts (nxO 6 [58] (M.map (·.2))) (ze+1) W2 (HV.out.below (aJ.out.trans (aA.mono (by omega)))) HG.out hn dP);have tN:=wJ (gj.out.below aA (by omega));have fh:=wJ (dO.out.below aA (by omega));have p7:=wJ ie;have qM:=wJ gY;have mq:Hid (pcE.Cs (λg=>w.heap.size<g/\g<w1.heap.size) W2 yy [.int .i64 ck,.string cx,.bool ct,.int .i64 cK,.string cX,.int .i64 cZ,.slice cB cm cq,.slice aU aR aS,.slice aT aP aQ]):=wJ (pcE.keep (λ_ h=>h) (λg hg=>aA.block g (by have:=hg.2;omega)) (gB.out yy r0 qE));obtain⟨TO,pP⟩:∃x,(nxO 6 [58] (M.map (·.2))).bind typ=x:=⟨_,rfl⟩;rw[pP]at kL lk gK
     have im:=wJ bL;clear fV j7 qE dP aA ie gY pP gB dO bL;go_upto_region 14 with fail
     rw[im.out]
     clear im g0 g1 g2 g3 g4 g5 g6 g7 g8 z0 z1 z2 z3 z4 z5 z6 z7 z8 gj;go_wp2_with fail
     refine kL.out.mono ?_;rintro e w3 ⟨b3,tK,tX,tZ,tA,tm,tc,zt,rfl,lz,jw⟩;have eA:=b3.size;have hx3:=qM.out.below b3 (by omega);obtain⟨W3,cO⟩:∃W,((((w3.setCell ⟨W1.heap.size+1,3,none⟩ (.int .i64 tK)).setCell ⟨W1.heap.size+1,4,none⟩ (.string tX)).setCell ⟨W1.heap.size+1,5,none⟩ (.int .i64 tZ)).setCell ⟨W1.heap.size+1,6,none⟩ (.slice tA tm tc))=W:=⟨_,rfl⟩;have rf:Blk W3 (W1.heap.size+1) 48 #[.int .i64 7,.string ⟨#[]⟩,.bool false,.int .i64 tK,.string tX,.int .i64 tZ,.slice tA tm tc,.slice (some ⟨W1.heap.size,0,none⟩) 1 1,.slice none 0 0]:=cO▸zeo _ _ _ _ hx3;have lK:∀k,k≠W1.heap.size+1->W3.heap[k]?=w3.heap[k]?:=λk hk=>cO▸zdm _ _ _ _ _ _ _ hk;have hz3:w3.heap.size<=W3.heap.size/\W3.heap.size<=w3.heap.size:=by rw[<-cO];simp
     have dY:∀k,k<W2.heap.size->k≠W1.heap.size+1->W3.heap[k]?=W2.heap[k]?:=λk h1 h2=>(lK k h2).trans (b3.block k h1);have qe:Hid (Blk W3 w1.heap.size 48 #[.int .i64 ck,.string cx,.bool ct,.int .i64 cK,.string cX,.int .i64 cZ,.slice cB cm cq,.slice aU aR aS,.slice aT aP aQ]):=wJ (tN.out.same (dY _ (by omega) (by omega)));have bR:Hid (Blk W3 w.heap.size 48 #[.int .i64 0,.string ⟨#[]⟩,.bool false,.int .i64 0,.string ⟨#[]⟩,.int .i64 0,.slice none 0 0,.slice none 0 0,.slice none 0 0]):=wJ (fh.out.same (dY _ (by omega) (by omega)));have HK3:Hid (Blk W3 W1.heap.size 48 #[.int .i64 ck,.string cx,.bool ct,.int .i64 cK,.string cX,.int .i64 cZ,.slice cB cm cq,.slice aU aR aS,.slice aT aP aQ]):=wJ (p7.out.same (dY _ (by omega) (by omega)));have pU:=wJ rf;have bU:Hid (Below w.heap.size w W3):=wJ (cO▸zeF (ar.out.trans (b3.mono (by omega))) _ _ _ _ (by omega));have nL:Hid (∀t r,TO=some (t,r)->RdV (λg=>W2.heap.size<=g/\g<W3.heap.size) W3 t (.agg #[.int .i64 tK,.string tX,.int .i64 tZ,.slice tA tm tc])):=wJ λt r ho=>(jw t r ho).keep (λg hg=>⟨by omega,by omega⟩) (λg hg=>lK g (by omega));have tF:=wJ (pcE.keep (S':=λg=>w.heap.size<g/\g<w1.heap.size) (λ_ h=>h) (λg hg=>dY g (by omega) (by omega)) mq.out);have l9:=wJ lz;obtain⟨⟨g0,g1,g2,g3,g4,g5,g6,g7,g8⟩,⟨z0,z1,z2,z3,z4,z5,z6,z7,z8⟩,ic⟩:=zab hx3;clear b3 hx3 rf lK dY lz jw kL tN fh p7 qM mq;go_upto_region 15 with fail
     try rw[cO]
     clear cO g0 g1 g2 g3 g4 g5 g6 g7 g8 z0 z1 z2 z3 z4 z5 z6 z7 z8;obtain⟨W4,gI⟩:∃W,(((((((((W3.setCell ⟨w1.heap.size,0,none⟩ (.int .i64 7)).setCell ⟨w1.heap.size,1,none⟩ (.string ⟨#[]⟩)).setCell ⟨w1.heap.size,2,none⟩ (.bool false)).setCell ⟨w1.heap.size,3,none⟩ (.int .i64 tK)).setCell ⟨w1.heap.size,4,none⟩ (.string tX)).setCell ⟨w1.heap.size,5,none⟩ (.int .i64 tZ)).setCell ⟨w1.heap.size,6,none⟩ (.slice tA tm tc)).setCell ⟨w1.heap.size,7,none⟩ (.slice (some ⟨W1.heap.size,0,none⟩) 1 1)).setCell ⟨w1.heap.size,8,none⟩ (.slice none 0 0))=W:=⟨_,rfl⟩;have hz4:W3.heap.size<=W4.heap.size/\W4.heap.size<=W3.heap.size:=by rw[<-gI,zak];omega
     have oA:∀k,k≠w1.heap.size->W4.heap[k]?=W3.heap[k]?:=λk hk=>gI▸zaf _ _ _ _ _ _ _ _ _ _ _ _ hk;have HBE4:Hid (Blk W4 w1.heap.size 48 #[.int .i64 7,.string ⟨#[]⟩,.bool false,.int .i64 tK,.string tX,.int .i64 tZ,.slice tA tm tc,.slice (some ⟨W1.heap.size,0,none⟩) 1 1,.slice none 0 0]):=wJ (gI▸zah _ _ _ _ _ _ _ _ _ qe.out);have tM:Hid (Blk W4 w.heap.size 48 #[.int .i64 0,.string ⟨#[]⟩,.bool false,.int .i64 0,.string ⟨#[]⟩,.int .i64 0,.slice none 0 0,.slice none 0 0,.slice none 0 0]):=wJ (bR.out.same (oA _ (by omega)));have bZ:Hid (Below w.heap.size w W4):=wJ (gI▸za8 bU.out (by omega) _ _ _ _ _ _ _ _ _);have HK4:Hid (Blk W4 W1.heap.size 48 #[.int .i64 ck,.string cx,.bool ct,.int .i64 cK,.string cX,.int .i64 cZ,.slice cB cm cq,.slice aU aR aS,.slice aT aP aQ]):=wJ (HK3.out.same (oA _ (by omega)));have HTC4:Hid (∀t r,TO=some (t,r)->RdV (λg=>w.heap.size<g/\g<W3.heap.size) W4 t (.agg #[.int .i64 tK,.string tX,.int .i64 tZ,.slice tA tm tc])):=wJ λt r ho=>(nL.out t r ho).keep (λg hg=>⟨by omega,hg.2⟩) (λg hg=>oA g (by omega));have HCS4:=wJ (pcE.keep (S':=λg=>w.heap.size<g/\g<w1.heap.size) (λ_ h=>h) (λg hg=>oA g (by omega)) tF.out);obtain⟨⟨g0,g1,g2,g3,g4,g5,g6,g7,g8⟩,⟨z0,z1,z2,z3,z4,z5,z6,z7,z8⟩,hle⟩:=zab qe.out;obtain⟨⟨m0,m1,m2,m3,m4,m5,m6,m7,m8⟩,-,pA⟩:=zab pU.out;clear oA tF qe bR bU pU HK3;go_upto_region 16 with fail
     try rw[gI]
     clear gI g0 g1 g2 g3 g4 g5 g6 g7 g8 z0 z1 z2 z3 z4 z5 z6 z7 z8 m0 m1 m2 m3 m4 m5 m6 m7 m8;obtain⟨⟨g0,g1,g2,g3,g4,g5,g6,g7,g8⟩,-,-⟩:=zab HBE4.out;obtain⟨⟨m0,m1,m2,m3,m4,m5,m6,m7,m8⟩,⟨y0,y1,y2,y3,y4,y5,y6,y7,y8⟩,pA⟩:=zab tM.out;have HNR:=wJ (λW (hb:Below w.heap.size w W)=>zaL v ts (TO.map (·.2)) zt 6 ⟨#[41]⟩ 6 rfl (by decide) W (HV.out.below hb) hn l9.out);go_region_with (go_at_call 83;(with_reducible refine(HNR.out _ (by first|exact bZ.out|exact bZ.out.drew)).mono ?_);rintro e w3 ⟨rfl,z9,rfl,ju⟩;have HZ9:=wJ ju;clear ju)
     all_goals
      go_wp2_with fail
      refine ub (zaa rfl _ _ w.heap.size 48 _ (0,0) _ rfl (zah _ _ _ _ _ _ _ _ _ tM.out).drew Tryz.underlying48 rfl (by kernel_rfl)) rfl ?_;refine XP8.drew (zbF bZ.out ?_ ?_)
      ·rw[HOM.out,lk.out];exact HZ9.out
      ·intro y r ho
       rw[HOM.out]at ho
       obtain⟨t,r1,hto,rfl⟩:=gK.out y r ho;obtain⟨A',a',cd,jK⟩:=HTC4.out t r1 hto;injection cd with cd;have cd:=uC Array.toList cd;simp only[vH,Value.int.injEq,Value.string.injEq,Value.slice.injEq,wz,wj]at cd;obtain⟨rfl,rfl,rfl,rfl,rfl,rfl⟩:=cd;refine⟨⟨tA,tc,some ⟨W1.heap.size,0,none⟩,0,none,0⟩,rfl,Args.keep (λg hg=>⟨hg.1,by omega⟩) (λ_ _=>rfl) _ _ jK,?_⟩;rw[ExIn]
       exact⟨_,rfl,⟨by omega,by omega⟩,zcf HCS4.out (λg hg=>⟨hg.1,by have:=hg.2;omega⟩) (λ_ _=>rfl) HK4.out⟩
set_option maxRecDepth 100000
theorem zn0(f:Nat)(l:List Tok)(h:isO 6 [92] (some l)=true):rdE (f+1) l=((nxO 6 [45,62] (nxO 1 [] (some l.tail))).bind (rdE f)).map λy=>(.lam (txO (some l.tail)) y.1,y.2):=by
 rw[zcE,ud (by rw[<-zba _ _ (by decide)];exact h),zpM]
theorem zh5(f:Nat)(ts:List Tok)(v:Value)(hn:ts.length<=100000)(IH:Rd8 ts v f)(w:World)(i:Nat)(hv:RdT w v ts)(hq:isO 6 [92] (some (ts.drop i))=true)(hf:3*(ts.drop i).length+3<=f+1):Calls Tryz.prog 44 #[v,.int .i64 (i:Nat)] w (XP8 ts w (rdE (f+1) (ts.drop i))):=by
 have ah:=zch (by decide) hq;have fI:PAt ts (some (ts.drop i)) (i:Nat):=PAt.some_ ts i (by omega);obtain⟨fV,-,-⟩:=zbd (by decide) fI hq;have e1:nxO 6 [92] (some (ts.drop i))=some (ts.drop i).tail:=by rw[nxO,hq,ud rfl];rfl
 rw[e1]at fV
 have ft:(ts.drop i).tail.length+1=(ts.drop i).length:=by
  obtain⟨l,h1,h2,h3,-⟩:=za1 (by decide) e1;injection h1 with h1;subst h1;omega
 have eE:Hid (∀W,Below w.heap.size w W->Calls Tryz.prog 34 #[v,.int .i64 (i:Nat),.int .i64 6,.string ⟨#[92]⟩] W λe w'=>e=.returned (.bool true)/\W=w'):=wJ λW hb=>by
  have:=zaY v ts _ _ 6 ⟨#[92]⟩ 6 rfl (by decide) W (hv.below hb) fI;rwa [show(⟨#[92]⟩:ByteArray).data.toList=[92] from rfl,hq]at this
 obtain⟨O,hO⟩:∃O,rdE (f+1) (ts.drop i)=O:=⟨_,rfl⟩;rw[hO]
 rw[zn0 f _ hq]at hO
 have mf:=wJ (λW (hb:Below w.heap.size w W)=>zaL v ts _ _ 1 ⟨#[]⟩ 1 rfl (by decide) W (hv.below hb) hn fV);have fY:=wJ (λW (hb:Below w.heap.size w W)=>zcN v ts _ _ W (hv.below hb) fV);obtain⟨P1,jl⟩:∃P,nxO 1 [] (some (ts.drop i).tail)=P:=⟨_,rfl⟩;obtain⟨P2,hP2⟩:∃P,nxO 6 [45,62] P1=P:=⟨_,rfl⟩;obtain⟨X,hX⟩:∃X:ByteArray,⟨(txO (some (ts.drop i).tail)).toArray⟩=X:=⟨_,rfl⟩;have dQ:txO (some (ts.drop i).tail)=X.data.toList:=by rw[<-hX]
 have gH:∀r,P2=some r->3*r.length+3<=f:=λr hr=>by
  obtain⟨l,hl,-,h3,-⟩:=za1 (by decide) (hP2.trans hr);obtain⟨l2,eY,-,h5,-⟩:=za1 (by decide) (jl.trans hl);injection eY with eY;subst eY;omega
 rw[jl,hP2,dQ]at hO
 rw[hX]at fY
 have gi:=wJ (λW z (hb:Below w.heap.size w W) (hz:PAt ts P1 z)=>zaL v ts P1 z 6 ⟨#[45,62]⟩ 6 rfl (by decide) W (hv.below hb) hn hz);have HR:=wJ (λW z (hb:Below w.heap.size w W) (hz:PAt ts P2 z)=>IH f (tV _) W P2 z (hv.below hb) hz gH);obtain⟨M,hM⟩:∃M,P2.bind (rdE f)=M:=⟨_,rfl⟩;rw[hM]at HR hO
 have HO:=wJ hO;have lk:=wJ jl;have gK:=wJ hP2;have hi9:(i:Int)<100000:=by omega
 obtain⟨W0,ai⟩:∃W,w.alloc (.cells #[.int .i64 0,.string ⟨#[]⟩,.bool false,.int .i64 0,.string ⟨#[]⟩,.int .i64 0,.slice none 0 0,.slice none 0 0,.slice none 0 0] 48)=W:=⟨_,rfl⟩;have fX:Below w.heap.size w W0:=ai▸(ua _ w).alloc (tV _) _;have eI:w.heap.size+1<=W0.heap.size/\W0.heap.size<=w.heap.size+1:=by rw[<-ai];simp
 have aa:Blk W0 w.heap.size 48 #[.int .i64 0,.string ⟨#[]⟩,.bool false,.int .i64 0,.string ⟨#[]⟩,.int .i64 0,.slice none 0 0,.slice none 0 0,.slice none 0 0]:=ai▸tW _ _;have cM:=wJ fX;have aE:=wJ aa;clear hv hq hf IH ah fI fV e1 ft jl hP2 hX dQ gH hM hO fX aa;go_enter Tryz.func44,Tryz.ntmps44
 go_wp2_with fail
 try rw[ai]
 refine(eE.out _ cM.out).mono ?_;rintro e w1 ⟨rfl,rfl⟩;clear eE ai;go_wp2_with fail
 refine(mf.out _ cM.out).mono ?_;rintro e w1 ⟨rfl,za,rfl,dr⟩;replace dr:=(show(⟨#[]⟩:ByteArray).data.toList=[] from rfl)▸dr;rw[lk.out]at dr
 have nI:=wJ dr;clear dr mf;go_wp2_with fail
 refine(gi.out _ _ cM.out nI.out).mono ?_;rintro e w1 ⟨rfl,zb,rfl,fH⟩;replace fH:=(show(⟨#[45,62]⟩:ByteArray).data.toList=[45,62] from rfl)▸fH;rw[gK.out]at fH
 have HZB:=wJ fH;clear fH gi;go_wp2_with fail
 refine(HR.out _ _ cM.out HZB.out).mono ?_;rintro e w1 ⟨b1,cs,ze,bA,rfl,iN,au⟩;obtain⟨ck,cx,ct,cK,cX,cZ,cB,cm,cq,aU,aR,aS,aT,aP,aQ,rfl⟩:=bA;have bj:=b1.size;obtain⟨W1,aL⟩:∃W,w1.alloc (.cells #[.int .i64 ck,.string cx,.bool ct,.int .i64 cK,.string cX,.int .i64 cZ,.slice cB cm cq,.slice aU aR aS,.slice aT aP aQ] 48)=W:=⟨_,rfl⟩;have aX:Below w1.heap.size w1 W1:=aL▸(ua _ w1).alloc (tV _) _;have ph:w1.heap.size+1<=W1.heap.size/\W1.heap.size<=w1.heap.size+1:=by rw[<-aL];simp
 have oE:Blk W1 w1.heap.size 48 #[.int .i64 ck,.string cx,.bool ct,.int .i64 cK,.string cX,.int .i64 cZ,.slice cB cm cq,.slice aU aR aS,.slice aT aP aQ]:=aL▸tW _ _;have aJ:Hid (Below w.heap.size w W1):=wJ (cM.out.trans ((b1.mono (by omega)).trans (aX.mono (by omega))));have dO:=wJ ((aE.out.below b1 (by omega)).below aX (by omega));have gj:=wJ oE;have oW:=wJ iN;have gB:Hid (∀y r,M=some (y,r)->pcE.Cs (λg=>w.heap.size<g/\g<w1.heap.size) W1 y [.int .i64 ck,.string cx,.bool ct,.int .i64 cK,.string cX,.int .i64 cZ,.slice cB cm cq,.slice aU aR aS,.slice aT aP aQ]):=wJ λy r ho=>pcE.keep (λg hg=>⟨by omega,hg.2⟩) (λg hg=>aX.block g hg.2) (au y r ho);have ki:=wJ aL;clear b1 aX oE iN au HR aE aL;go_upto_region 5 with fail
 rw[ki.out]
 clear ki;obtain⟨⟨g0,g1,g2,g3,g4,g5,g6,g7,g8⟩,-,bB⟩:=zab gj.out;obtain⟨⟨m0,m1,m2,m3,m4,m5,m6,m7,m8⟩,⟨y0,y1,y2,y3,y4,y5,y6,y7,y8⟩,pA⟩:=zab dO.out;have HNK:Hid (Below w.heap.size w (W1.alloc (.cells #[.int .i64 ck,.string cx,.bool ct,.int .i64 cK,.string cX,.int .i64 cZ,.slice cB cm cq,.slice aU aR aS,.slice aT aP aQ] 48))):=wJ (aJ.out.alloc (by omega) _);have hwi:IntKind.i64.wrap ((i:Int)+1)=(i:Int)+1:=IntWalk.i64_in _ (by omega);go_region_with (go_at_call 81;(try rw[hwi]);(with_reducible refine(fY.out _ (by first|exact aJ.out|exact aJ.out.drew|exact HNK.out|exact HNK.out.drew)).mono ?_);rintro e w3 ⟨rfl,rfl⟩)
 all_goals
  go_wp2_with fail
  refine ub (zaa rfl _ _ w.heap.size 48 _ (0,0) _ rfl ((zah _ _ _ _ _ _ _ _ _ dO.out).alloc _).drew Tryz.underlying48 rfl (by kernel_rfl)) rfl ?_;refine XP8.drew ⟨(za8 aJ.out (tV _) _ _ _ _ _ _ _ _ _).alloc (by rw[zak];omega) _,_,ze,⟨_,_,_,_,_,_,_,_,_,_,_,_,_,_,_,rfl⟩,rfl,?_,λy r ho=>?_⟩
  ·rw[<-HO.out,vJ];exact oW.out
  ·rw[<-HO.out]at ho
   cases hM:M with
   |none=>rw[hM]at ho;cases ho
   |some u =>
    rw[hM]at ho
    simp only[uq,um,uw]at ho;obtain⟨rfl,-⟩:=ho;refine⟨⟨none,0,some ⟨W1.heap.size,0,none⟩,0,none,0⟩,by simp[exC,kdE,nmE,toE,tyE,tyC,zac,zad,Sx.strV],trivial,?_⟩;rw[ExIn]
    refine⟨_,rfl,⟨by omega,by rw[World.size_alloc,zak];omega⟩,zcf (gB.out u.1 u.2 hM) (λg hg=>⟨by omega,by rw[World.size_alloc,zak];omega⟩) (λg hg=>?_) (alloc_at _ _ _ (by rw[zak]))⟩;exact(uc _ _ _ (by rw[zak];omega)).trans (zaf _ _ _ _ _ _ _ _ _ _ _ _ (by omega))
end Go.Proofs.YtknkclefoiohpaaGreatDoor
namespace Go.Proofs.YtknkclefoiohpaaGreatDoor
open Go.RowKit Lx Tx Sx Go.Maps Go.WideMaps Go.Shelf
set_option maxRecDepth 100000
theorem zfL(l:List (Nm × Ty))(S:Nat->Prop)(A:Option Addr)(m d:Nat)(w:World)(hl:LstG pcC S w l A)(hm:m=l.length)(hS:∀g,S g->g<w.heap.size)(hn:l.length<=100000):Calls Tryz.prog 114 #[.slice A m d] w (LPostN w (l.map Prod.fst)):=by
 subst hm;obtain⟨n,ib⟩:∃n,l.length=n:=⟨_,rfl⟩;rw[ib]at hn ⊢
 obtain⟨i0,bJ,bO,bz,bE⟩:=vz zc5;have HN:=wJ ib;have HL:=wJ hl;have HS:=wJ hS;clear hl hS ib;go_enter Tryz.func114,Tryz.ntmps114
 go_wp2_with fail
 go_loopg [3,8] n (λgg v3 vi wr=>∃(i:Nat) (C:Option Addr) (cp:Nat),gg=n-i/\vi=.int .i64 (i:Nat)/\v3=.slice C i cp/\i<=n/\Hid (Chg (λ_=>False) w wr)/\Hid (wr.ownsRow w.heap.size 9 1 (.slice C i cp) i (((l.take i).map Prod.fst).map Sx.strV)))
 case atStart=>exact⟨0,none,0,rfl,rfl,rfl,by omega,wJ (Chg.refl _ _),wJ (uZ _ _ _ _)⟩
 case round =>
  obtain⟨i,C,cp,rfl,rfl,rfl,hi,hB,hO⟩:=hrel;have dw:=hB.out.size;by_cases ah:i<n
  ·obtain⟨x,hx⟩:∃x,l[i]?=some x:=⟨_,ug (by rw[HN.out];exact ah)⟩
   obtain⟨g,cs,rfl,bh,au,ao⟩:=HL.out.row i x hx;have dy:∀k,S k->wr.heap[k]?=w.heap[k]?:=λk hk=>hB.out.block k (HS.out k hk) (λh=>h);have bS:=Lie.keep (w:=w) ao (dy g bh);obtain⟨c,t⟩:=x;obtain⟨X,hX⟩:∃X:ByteArray,⟨c.toArray⟩=X:=⟨_,rfl⟩;obtain⟨k0,X0,Z0,B0,m0,q0,rfl⟩:∃k0 X0 Z0 B0 m0 q0,cs=[.string X,.int .i64 k0,.string X0,.int .i64 Z0,.slice B0 m0 q0]:=by
    obtain⟨TA,ta,rfl,-⟩:=au;obtain⟨K,Y,Z,B,m,q,hs⟩:=zaT (some t) TA ta;exact⟨K,Y,Z,B,m,q,by rw[show tyV t TA ta=tyC (some t) TA ta from rfl,hs,Sx.strV,hX]⟩
   have f0:wr.cell? ⟨g,i*5,none⟩=some (.string X):=bS 0 _ rfl;have f1:wr.cell? ⟨g,i*5+1,none⟩=some (.int .i64 k0):=bS 1 _ rfl;have f2:wr.cell? ⟨g,i*5+2,none⟩=some (.string X0):=bS 2 _ rfl;have f3:wr.cell? ⟨g,i*5+3,none⟩=some (.int .i64 Z0):=bS 3 _ rfl;have f4:wr.cell? ⟨g,i*5+4,none⟩=some (.slice B0 m0 q0):=bS 4 _ rfl;have aV:=zaj f0;have dQ:X.data.toList=c:=by rw[<-hX]
   have dN:=wJ ((hO.out.alloc (.cells #[.string X,.int .i64 k0,.string X0,.int .i64 Z0,.slice B0 m0 q0] 61)).alloc (.cells #[.string X] 9));have lZ:Hid (((l.take (i+1)).map Prod.fst).map Sx.strV=((l.take i).map Prod.fst).map Sx.strV++[.string X]):=wJ (by rw[uL,hx,<-hX];simp[Sx.strV]);clear hx bh au ao dy bS hX;go_wp2_with (at_builtin;refine wpList_append_lies _ rfl (.tmp 12) (.tmp 15) 56 rfl w.heap.size 9 i0 _ 1 16 Tryz.underlying56 bJ bO bz bE rfl (by decide) _ i (((l.take i).map Prod.fst).map Sx.strV) rfl dN.out ⟨wr.heap.size+1,0,none⟩ 1 1 [.string X] rfl rfl (zao _ _ _ _ (by simp)) (by intro u hu;simp at hu;subst hu;rfl) (by omega) (by unfold maxLen;omega) (by omega) (by simp;omega) _ rfl ?_;intro g3 c3 w5 aj ab aH jA;have eU:=wJ aj;have cQ:=wJ ab;clear aj ab aH)
   go_roundg (n-(i+1))
   case measure=>omega
   case rel =>
    refine⟨i+1,some ⟨g3,0,none⟩,c3,rfl,by go_num,rfl,by omega,wJ (((hB.out.alloc _).alloc _).grown cQ.out (λk hk=>.inl (hO.out.lt k hk).1)),wJ (lZ.out▸eU.out)⟩
  ·obtain rfl:i=n:=by omega
   have HR:Hid (LPostN w (l.map Prod.fst) (.returned (.slice C i cp)) wr):=wJ ⟨C,i,cp,rfl,by rw[wG,HN.out],by
    have:=hO.out;rw[ur (by rw[HN.out];exact tV _)]at this
    exact this,⟨hB.out.os,hB.out.tape,hB.out.output,hB.out.size,λj hj=>hB.out.block j hj (λh=>h)⟩⟩
   go_wp2_with fail
   go_ret
   exact HR.out
end Go.Proofs.YtknkclefoiohpaaGreatDoor
namespace Go.Proofs.YtknkclefoiohpaaGreatDoor
open Go.RowKit Lx Tx Sx Go.Maps Go.WideMaps Go.Shelf
set_option maxRecDepth 100000
def VisQ {τ:Type}(k:Nat)(bd:Array Value)(B:Nat)(J:Nat->τ->(Nat->Prop)->World->Prop)(ask:Nm->τ->Bool)(tr:Nm->τ->τ):Prop :=
 ∀(c:Nat) (s:τ) (M:Nat->Prop) (X:ByteArray) (w:World),J c s M w->X.size<=24->c+1<=B ->
  Calls Tryz.prog k (bd++#[.string X]) w λe w'=>e=.returned (.bool (ask X.data.toList s))/\Sta J M w (c+1) (tr X.data.toList s) w'
def stA {τ:Type}(tr:Nm->τ->τ)(xs:List Nm)(s:τ):τ:=xs.foldl (λs x=>tr x s) s
def noes {τ:Type}(ask:Nm->τ->Bool)(tr:Nm->τ->τ):List Nm->τ->Nat
 |[],_=>0
 |x::r,s=>if ask x s=true then 0 else noes ask tr r (tr x s)+1
theorem ziT {τ:Type}(ask:Nm->τ->Bool)(tr:Nm->τ->τ):∀(xs:List Nm)(s:τ)(i:Nat)(x:Nm),xs[i]?=some x->(∀j y,j<i->xs[j]?=some y->ask y (stA tr (xs.take j) s)=false)->ask x (stA tr (xs.take i) s)=true->noes ask tr xs s=i
 |[],_,_,_,h,_,_=>by simp at h
 |y::r,s,0,x,h,_,h2=>by
  simp at h;subst h;rw[noes]
  exact ud h2
 |y::r,s,i+1,x,h,h1,h2=>by
  have h0:=h1 0 y (by omega) rfl;rw[noes,ue (by rw[show ask y s=false from h0];decide)]
  rw[ziT ask tr r (tr y s) i x (by simpa using h) (λj z hj hz=>h1 (j+1) z (by omega) (by simpa using hz)) h2]
theorem zhq {τ:Type}(ask:Nm->τ->Bool)(tr:Nm->τ->τ):∀(xs:List Nm)(s:τ),(∀j y,xs[j]?=some y->ask y (stA tr (xs.take j) s)=false)->noes ask tr xs s=xs.length
 |[],_,_=>rfl
 |y::r,s,h1=>by
  have h0:=h1 0 y rfl;rw[noes,ue (by rw[show ask y s=false from h0];decide)]
  rw[zhq ask tr r (tr y s) (λj z hz=>h1 (j+1) z (by simpa using hz))]
  rfl
theorem Sta.ask {τ:Type} {J:Nat->τ->(Nat->Prop)->World->Prop} {M0:Nat->Prop} {w0 W:World} {c c':Nat} {s s':τ}(h:Sta J M0 w0 c s W) {P:Program} {F:Nat} {args:Array Value} {u:Value}
  (hc:∀M,J c s M W->Calls P F args W λe w'=>e=.returned u/\Sta J M W c' s' w'):Calls P F args W λe w'=>e=.returned u/\Sta J M0 w0 c' s' w':=by
 obtain⟨M,h1,h2,h3⟩:=h;refine(hc M h1).mono ?_;rintro e w' ⟨rfl,hs⟩;exact⟨rfl,Sta.join h2 h3 hs⟩
theorem zlb {τ:Type}(k:Nat)(bd:Array Value)(B:Nat)(J:Nat->τ->(Nat->Prop)->World->Prop)(ask:Nm->τ->Bool)(tr:Nm->τ->τ)(ek:∀args w,(callFunc k args).run Tryz.prog w=.ok (.enter k args) w)(HV:VisQ k bd B J ask tr)(qI:B<=1000000)
  (xs:List Nm)(c:Nat)(s:τ)(M S:Nat->Prop)(V:Option Addr)(n v:Nat)(w:World)(hj:J c s M w)(hx:NmsIn S w xs V)(hn:n=xs.length)(hS:∀g,S g->g<w.heap.size/\¬M g)(eO:∀x∈xs,x.length<=24)(hB:c+n<=B):Calls Tryz.prog 119 #[.slice V n v,.func (.func k) bd #[]] w λe w'=>∃r:Int,e=.returned (.int .i64 r) /\
   ((r = -1/\noes ask tr xs s=n)\/(r=(noes ask tr xs s:Nat)/\noes ask tr xs s<n))/\∃d,d<=c+n/\Sta J M w d (stA tr (xs.take (noes ask tr xs s+1)) s) w':=by
 have H0:=wJ (Sta.init hj);have HX:=wJ hx;have HN:=wJ hn.symm;have HS:=wJ hS;have sU:=wJ eO;have iq:=wJ HV;have pw:n<=1000000:=by omega
 clear hj hx hn hS eO HV;go_enter Tryz.func119,Tryz.ntmps119
 go_wp2_with fail
 go_loopg [8] n (λgg vi wr=>∃i:Nat,gg=n-i/\vi=.int .i64 (i:Nat)/\i<=n/\Hid (Sta J M w (c+i) (stA tr (xs.take i) s) wr)/\Hid (∀j y,j<i->xs[j]?=some y->ask y (stA tr (xs.take j) s)=false))
 case atStart=>exact⟨0,rfl,rfl,by omega,H0,wJ (λj y h=>by omega)⟩
 case round =>
  obtain⟨i,rfl,rfl,hi,be,bk⟩:=hrel;clear H0;by_cases ah:i<n
  ·obtain⟨x,hx⟩:∃x,xs[i]?=some x:=⟨_,ug (by rw[HN.out];exact ah)⟩
   have ql:=sU.out x (vd.2 ⟨i,hx⟩);obtain⟨g,rfl,bh,fN⟩:=HX.out (λe=>by rw[e]at hx;simp at hx);obtain⟨X,hX⟩:∃X:ByteArray,⟨x.toArray⟩=X:=⟨_,rfl⟩;have sA:X.data.toList=x:=by rw[<-hX]
   have lP:X.size<=24:=by rw[<-hX];show x.toArray.size<=24;simpa using ql
   have f0:wr.cell? ⟨g,i,none⟩=some (.string X):=by
    have h1:=fN i (Sx.strV x) (by rw[vA,hx];rfl);rw[uJ]at h1
    rw[<-hX]
    exact zcd h1 (be.out.block g (HS.out g bh).1 (HS.out g bh).2)
   have lZ:Hid (stA tr (xs.take (i+1)) s=tr x (stA tr (xs.take i) s)):=wJ (by rw[uL,hx];unfold stA;rw[vP];rfl);have iv:=wJ (be.out.ask (λM2 j2=>iq.out (c+i) _ M2 X wr j2 lP (by omega)));have aV:=zaj f0;obtain⟨q,hq⟩:∃q,ask x (stA tr (xs.take i) s)=q:=⟨_,rfl⟩;rw[sA,hq,<-lZ.out]at iv
   have HQ:=wJ hq;have pU:=wJ hx;clear hx ql bh fN hX sA lP hq;go_wp2_with fail
   refine iv.out.mono ?_;rintro e w1 ⟨rfl,s1⟩;cases q with
   |true =>
    have HR:Hid (noes ask tr xs s=i):=wJ (ziT ask tr xs s i x pU.out bk.out HQ.out);have ez:=wJ s1;clear s1 iv;go_wp2_with fail
    go_ret
    refine⟨(i:Int),rfl,.inr ⟨by rw[HR.out],by rw[HR.out];exact ah⟩,?_⟩;rw[HR.out]
    exact⟨c+(i+1),by omega,ez.out⟩
   |false =>
    have bP:Hid (∀j y,j<i+1->xs[j]?=some y->ask y (stA tr (xs.take j) s)=false):=wJ (λj y hj hy=>by
     by_cases h:j<i
     ·exact bk.out j y h hy
     ·obtain rfl:j=i:=by omega
      have:=pU.out.symm.trans hy;injection this with this;rw[<-this]
      exact HQ.out)
    have ez:=wJ s1;clear s1 iv;go_wp2_with fail
    go_roundg (n-(i+1))
    case measure=>omega
    case rel=>exact⟨i+1,rfl,by go_num,by omega,ez,bP⟩
  ·obtain rfl:i=n:=by omega
   have dJ:=zhq ask tr xs s (λj y h=>bk.out j y (by rw[<-HN.out];exact(uj.1 h).1) h);have HR:Hid (noes ask tr xs s=i):=wJ (dJ.trans HN.out);clear dJ ah;go_wp2_with fail
   go_ret
   refine⟨-1,rfl,.inl ⟨rfl,HR.out⟩,?_⟩;have:=be.out;refine⟨c+i,tV _,?_⟩;rw[HR.out,ur (by rw[HN.out];omega)]
   rwa [ur (by rw[HN.out];exact tV _)]at this
structure JMet (mb:Nat) (c:Nat) (L:List Nm) (M:Nat->Prop) (w:World):Prop where
 map:MapE mkMet w mb (units L)
 len:L.length<=c
 low:M mb
 all:∀g,M g->g<w.heap.size
theorem JMet.below {mb c:Nat} {L:List Nm} {M:Nat->Prop} {w w':World}(h:JMet mb c L M w)(hb:Below w.heap.size w w'):Sta (JMet mb) M w (c+1) L w' :=
 ⟨M,{ map:=h.map.keep (hb.block _ h.map.lt),len:=by have:=h.len;omega,low:=h.low,all:=λg hg=>uO (h.all g hg) hb.size },λ_ h=>.inl h,Chg.of_below hb⟩
theorem zcb(mb B:Nat)(hB:B<=1000000):VisQ 113 #[.map (some mb)] B (JMet mb) (λx L=>decide (x∈L)) (λx L=>L++[x]):=λc L M X w hj hX hc =>
 (zhn mb L X w hj.map hX (by have:=hj.len;omega)).mono λ_ w' ⟨h1,h2,h3⟩=>⟨h1,M,{ map:=h2,len:=by have:=hj.len;simp;omega,low:=hj.low,all:=λg hg=>uO (hj.all g hg) h3.size },λ_ h=>.inl h,h3.mono (λk _ h=>by have e:k=mb:=h;exact e▸hj.low)⟩
theorem zoC(mb B:Nat):VisQ 116 #[.map (some mb)] B (JMet mb) (λx L=>decide (x∈L)) (λ_ L=>L):=λ_ L _ X w hj hX _ =>
 (zhm mb L X w hj.map hX).mono λ_ _ ⟨h1,h2⟩=>⟨h1,hj.below h2⟩
theorem zej(mb B:Nat):VisQ 115 #[.map (some mb)] B (JMet mb) (λx L=>!decide (x∈L)) (λ_ L=>L):=λ_ L _ X w hj hX _ =>
 (zm3 mb L X w hj.map hX).mono λ_ _ ⟨h1,h2⟩=>⟨h1,hj.below h2⟩
def FAsk(I:Nat->World->Prop)(j:Nat)(V:Option Addr)(n v:Nat)(fn:Value)(ans:Option ByteArray):Prop :=
 ∀(W Wc:World),I j W->Below W.heap.size W Wc->Calls Tryz.prog 119 #[.slice V n v,fn] Wc λe w'=>∃r:Int,e=.returned (.int .i64 r)/\I (j+1) w'/\(∀k,W.heap.size<=k->k<Wc.heap.size->w'.heap[k]?=Wc.heap[k]?) /\
  match ans with
  |none=>r = -1
  |some X=>∃i gx:Nat,r=(i:Nat)/\i<n/\V=some ⟨gx,0,none⟩/\w'.cell? ⟨gx,i,none⟩=some (.string X)
structure Flt where
 V:Option Addr
 n:Nat
 v:Nat
 kf:Nat
 bd:Array Value
 e:Int
 ans:Option ByteArray
def fst1:List Flt->ByteArray × Int
 |[]=>(⟨#[]⟩,0)
 |f::r=>match f.ans with|some X=>(X,f.e)|none=>fst1 r
theorem ziU:∀(l:List Flt)(i:Nat)(f:Flt)(X:ByteArray),l[i]?=some f->(∀j f,j<i->l[j]?=some f->f.ans=none)->f.ans=some X->fst1 l=(X,f.e)
 |[],_,_,_,h,_,_=>by simp at h
 |g::r,0,f,X,h,_,h2=>by
  simp at h;subst h;rw[fst1,h2]
 |g::r,i+1,f,X,h,h1,h2=>by
  rw[fst1,h1 0 g (by omega) rfl]
  exact ziU r i f X (by simpa using h) (λj k hj hk=>h1 (j+1) k (by omega) (by simpa using hk)) h2
theorem zhr:∀l:List Flt,(∀(j:Nat)(f:Flt),l[j]?=some f->f.ans=none)->fst1 l=(⟨#[]⟩,0)
 |[],_=>rfl
 |g::r,h=>by
  rw[fst1,h 0 g rfl]
  exact zhr r (λj k hk=>h (j+1) k (by simpa using hk))
theorem ze0(l:List Flt)(I:Nat->World->Prop)(g n d:Nat)(w:World)(hn:n=l.length)(pw:n<=100000)
  (ao:∀j f,l[j]?=some f->∀W,I j W->g<W.heap.size/\W.cell? ⟨g,j*3,none⟩=some (.slice f.V f.n f.v)/\W.cell? ⟨g,j*3+1,none⟩=some (.func (.func f.kf) f.bd #[])/\W.cell? ⟨g,j*3+2,none⟩=some (.int .i64 f.e))
  (sq:∀j f,l[j]?=some f->FAsk I j f.V f.n f.v (.func (.func f.kf) f.bd #[]) f.ans/\f.n<=1000000)(hI:I 0 w)(an:∀j (W W':World),I j W->Below W.heap.size W W'->I j W'):Calls Tryz.prog 65 #[.slice (some ⟨g,0,none⟩) n d] w λe w'=>e=.returned (.tuple #[.string (fst1 l).1,.int .i64 (fst1 l).2])/\∃j,j<=n/\I j w'/\((∀(j:Nat) (f:Flt),l[j]?=some f->f.ans=none)->j=n):=by
 have HN:=wJ hn.symm;have HR:=wJ ao;have HA:=wJ sq;have HI:=wJ hI;have HK:=wJ an;clear hn ao sq hI an;go_enter Tryz.func65,Tryz.ntmps65
 go_wp2_with fail
 go_loopg [9] n (λgg vi wr=>∃i:Nat,gg=n-i/\vi=.int .i64 (i:Nat)/\i<=n/\Hid (I i wr)/\Hid (∀j f,j<i->l[j]?=some f->f.ans=none))
 case atStart=>exact⟨0,rfl,rfl,by omega,HI,wJ (λj f h=>by omega)⟩
 case round =>
  obtain⟨i,rfl,rfl,hi,be,bk⟩:=hrel;clear HI;by_cases ah:i<n
  ·obtain⟨f,hf⟩:∃x,l[i]?=some x:=⟨_,ug (by rw[HN.out];exact ah)⟩
   obtain⟨aV,f0,f1,f2⟩:=HR.out i f hf wr be.out;obtain⟨ha,hfn⟩:=HA.out i f hf;have HFF:=wJ hf;have nO:Hid (f.ans=none->∀j k,j<i+1->l[j]?=some k->k.ans=none):=wJ (λk8 j k hj hk=>by
    by_cases h:j<i
    ·exact bk.out j k h hk
    ·obtain rfl:j=i:=by omega
     have:=hf.symm.trans hk;injection this with this;exact this▸k8)
   have eN:Hid (∀X,f.ans=some X->fst1 l=(X,f.e)):=wJ (λX h=>ziU l i f X hf bk.out h);obtain⟨V,m,v,kf,bd,e,ans⟩:=f;simp only at f0 f1 f2 ha hfn;have ak:=wJ (ha wr (wr.alloc (.cells #[.slice V m v,.func (.func kf) bd #[],.int .i64 e] 184)) be.out ((ua _ wr).alloc (tV _) _));clear ha hf;go_wp2_with fail
   refine ak.out.mono ?_;rintro e' w1 ⟨r,rfl,qG,hk,ho⟩;have hb:Blk w1 wr.heap.size 184 #[.slice V m v,.func (.func kf) bd #[],.int .i64 e]:=(hk _ (tV _) (by simp)).trans (tW wr _);have c0:w1.cell? ⟨wr.heap.size,0,none⟩=some (.slice V m v):=hb.cell 0;have c2:w1.cell? ⟨wr.heap.size,2,none⟩=some (.int .i64 e):=hb.cell 2;have eE:=wJ qG;clear qG hk hb ak;cases ans with
   |none =>
    have hr:r = -1:=ho;subst hr;clear ho;have bP:=wJ (nO.out rfl);go_wp2_with fail
    go_roundg (n-(i+1))
    case measure=>omega
    case rel=>exact⟨i+1,rfl,by go_num,by omega,eE,bP⟩
   |some X =>
    obtain⟨q,gx,rfl,hq,rfl,hc⟩:∃i gx:Nat,r=(i:Nat)/\i<m/\V=some ⟨gx,0,none⟩/\w1.cell? ⟨gx,i,none⟩=some (.string X):=ho;have HF:=wJ (eN.out X rfl);have q0:(0:Int)<=(q:Int):=by omega
    have q1:(q:Int)<(m:Int):=by omega
    go_wp2_with fail
    go_region_held3 (λW:World=>W.cell? ⟨wr.heap.size,0,none⟩=some (.slice (some ⟨gx,0,none⟩) m v)/\W.cell? ⟨wr.heap.size,2,none⟩=some (.int .i64 e)/\W.cell? ⟨gx,q,none⟩=some (.string X)) (first|exact⟨c0,c2,hc⟩) (fail)
    all_goals
     go_wp2_with fail
     go_ret2
     exact⟨by rw[HF.out];rfl,i+1,by omega,HK.out _ _ _ eE.out (ua _ _).drew,λh=>by have:=h i _ HFF.out;cases this⟩
  ·obtain rfl:i=n:=by omega
   have HF:=wJ (zhr l (λj f h=>bk.out j f (by have:=(uj.1 h).1;have:=HN.out;omega) h));go_wp2_with fail
   go_ret2
   exact⟨by rw[HF.out];rfl,i,tV _,be.out,λ_=>rfl⟩
def OneFault(w:World)(X:ByteArray)(F mb:Nat)(c:Int)(e:Ending)(w':World):Prop :=
 ∃g k:Nat,e=.returned (.slice (some ⟨g,0,none⟩) 1 1)/\w.heap.size<=g/\w.heap.size<=k/\g≠k/\Blk w' g 184 #[.slice (some ⟨k,0,none⟩) 1 1,.func (.func F) #[.map (some mb)] #[],.int .i64 c]/\Blk w' k 9 #[.string X]/\Below w.heap.size w w'
theorem ze1(da co si bi:Nat)(k0:Int)(X:ByteArray)(A0:Option Addr)(m0 c0:Nat)(A1:Option Addr)(m1 c1:Nat)(K0:Int)(X0:ByteArray)(Z0:Int)(B0:Option Addr)(n0 d0:Nat)(k1:Int)(X1:ByteArray)(t1:Bool)(K1:Int)(X2:ByteArray)(Z1:Int)(B1:Option Addr)(n1 d1:Nat)(C1:Option Addr)(p1 e1:Nat)(D1:Option Addr)(q1 f1:Nat)(w:World):Calls Tryz.prog 63 #[.agg #[.map (some da),.map (some co),.map (some si),.map (some bi)],
   .agg #[.int .i64 k0,.string X,.slice A0 m0 c0,.slice A1 m1 c1,.int .i64 K0,.string X0,.int .i64 Z0,.slice B0 n0 d0,.int .i64 k1,.string X1,.bool t1,.int .i64 K1,.string X2,.int .i64 Z1,.slice B1 n1 d1,.slice C1 p1 e1,.slice D1 q1 f1]] w λe w' =>
    if k0=2 then OneFault w X 115 bi 92 e w' else e=.returned (.slice none 0 0)/\Below w.heap.size w w':=by
 obtain⟨W,hW⟩:∃W,(w.alloc (.cells #[.map (some da),.map (some co),.map (some si),.map (some bi)] 125)).alloc (.cells #[.int .i64 k0,.string X,.slice A0 m0 c0,.slice A1 m1 c1,.int .i64 K0,.string X0,.int .i64 Z0,.slice B0 n0 d0,.int .i64 k1,.string X1,.bool t1,.int .i64 K1,.string X2,.int .i64 Z1,.slice B1 n1 d1,.slice C1 p1 e1,.slice D1 q1 f1] 59)=W:=⟨_,rfl⟩;have hb:Below w.heap.size w W:=hW▸((ua _ w).alloc (tV _) _).alloc (by simp) _;have hz:W.heap.size=w.heap.size+1+1:=by rw[<-hW];simp
 have b1:Blk W (w.heap.size+1) 59 #[.int .i64 k0,.string X,.slice A0 m0 c0,.slice A1 m1 c1,.int .i64 K0,.string X0,.int .i64 Z0,.slice B0 n0 d0,.int .i64 k1,.string X1,.bool t1,.int .i64 K1,.string X2,.int .i64 Z1,.slice B1 n1 d1,.slice C1 p1 e1,.slice D1 q1 f1]:=hW▸zaA _ _ _ _ rfl;have b0:Blk W w.heap.size 125 #[.map (some da),.map (some co),.map (some si),.map (some bi)]:=hW▸Blk.alloc (tW w _) _;have g0:W.cell? ⟨w.heap.size+1,0,none⟩=some (.int .i64 k0):=b1.cell 0;have g1:W.cell? ⟨w.heap.size+1,1,none⟩=some (.string X):=b1.cell 1;have g2:W.cell? ⟨w.heap.size,3,none⟩=some (.map (some bi)):=b0.cell 3;have HB:=wJ hb;clear b0 b1 hb;by_cases h:k0=2
 ·rw[show(λ(e:Ending) (w':World)=>if k0=2 then OneFault w X 115 bi 92 e w' else e=.returned (.slice none 0 0)/\Below w.heap.size w w')=OneFault w X 115 bi 92 from by funext e w';rw[ud h]]
  subst h;go_enter Tryz.func63,Tryz.ntmps63
  go_wp2_with fail
  go_ret
  refine⟨w.heap.size+1+1+1,w.heap.size+1+1,rfl,by omega,by omega,by omega,?_,?_,(HB.out.alloc (by omega) _).alloc (by simp;omega) _⟩
  ·rw[<-hz]
   exact zaA _ _ _ _ rfl
  ·rw[<-hz]
   exact Blk.alloc (tW W _) _
 ·rw[show(λ(e:Ending) (w':World)=>if k0=2 then OneFault w X 115 bi 92 e w' else e=.returned (.slice none 0 0)/\Below w.heap.size w w')=(λe w'=>e=.returned (.slice none 0 0)/\Below w.heap.size w w') from by funext e w';rw[ue h]]
  have d:(k0 != 2)=true:=by simpa using h
  go_enter Tryz.func63,Tryz.ntmps63
  go_wp2_with fail
  go_ret
  exact⟨rfl,HB.out⟩
end Go.Proofs.YtknkclefoiohpaaGreatDoor
namespace Go.Proofs.YtknkclefoiohpaaGreatDoor
open Go.RowKit Lx Tx Sx Go.Maps Go.WideMaps Go.Shelf
theorem zcX:∀(xs L s:List Nm),(∀x,x∈L↔x∈s)->xs[noes (λx L=>decide (x∈L)) (λx L=>L++[x]) xs L]?=rep s xs
 |[],_,_,_=>rfl
 |x::r,L,s,h=>by
  rw[noes,rep]
  by_cases hx:x∈L
  ·rw[ud (uB hx),ud ((h x).1 hx)];rfl
  ·rw[ue (by rw[ux hx];decide),ue (λe=>hx ((h x).2 e))]
   rw[wm]
   exact zcX r _ _ (λy=>by simp[h y,or_comm])
theorem zlc(p:Nm->Bool):∀(xs L:List Nm),xs[noes (λx (_:List Nm)=>p x) (λ_ L=>L) xs L]?=xs.find? p
 |[],_=>rfl
 |x::r,L=>by
  rw[noes,vG]
  cases hx:p x with
  |true=>rw[ud rfl];rfl
  |false =>
   rw[ue (by decide)]
   rw[wm]
   exact zlc p r L
theorem zhs:∀(xs B:List Nm),xs[noes (λx (L:List Nm)=>decide (x∈L)) (λ_ L=>L) xs B]?=xs.find? (λx=>decide (x∈B))
 |[],_=>rfl
 |x::r,B=>by
  rw[noes,vG]
  cases hx:decide (x∈B) with
  |true=>rw[ud rfl];rfl
  |false =>
   rw[ue (by decide),wm]
   exact zhs r B
theorem zdN:∀(xs B:List Nm),xs[noes (λx (L:List Nm)=>!decide (x∈L)) (λ_ L=>L) xs B]?=xs.find? (λx=>decide (x∉B))
 |[],_=>rfl
 |x::r,B=>by
  rw[noes,vG]
  by_cases hx:x∈B
  ·rw[ue (by simp[hx])]
   simp only[hx,not_true,decide_false];rw[wm]
   exact zdN r B
  ·rw[ud (by simp[hx])]
   simp[hx]
theorem zht:∀(xs L:List Nm),stA (λx (L:List Nm)=>L++[x]) xs L=L++xs
 |[],L=>(uW L).symm
 |x::r,L=>by
  have:=zht r (L++[x]);rw[uy]at this
  exact this
theorem zfo:∀(xs L:List Nm),stA (λ_ (L:List Nm)=>L) xs L=L
 |[],_=>rfl
 |_::r,L=>zfo r L
structure Mets where
 d:List Nm
 c:List Nm
 s:List Nm
 b:List Nm
def Mets.next(m:Mets):De->Mets
 |.data n _ cs=>{ m with d:=m.d++[n],c:=m.c++conNames cs }
 |.sig x _=>{ m with s:=m.s++[x] }
 |.bind x _=>{ m with b:=m.b++[x] }
def twOne(m:Mets):De->Option Nm
 |.data n ps cs=>if n∈m.d then some n else match rep [] ps with
  |some x=>some x
  |none=>rep m.c (conNames cs)
 |.sig x _=>if x∈m.s then some x else none
 |.bind x _=>if x∈m.b then some x else none
theorem zcB:∀(l s t:List Nm),(∀x,x∈s↔x∈t)->rep s l=rep t l
 |[],_,_,_=>rfl
 |x::r,s,t,h=>by
  rw[rep,rep]
  by_cases hx:x∈s
  ·rw[ud hx,ud ((h x).1 hx)]
  ·rw[ue hx,ue (λe=>hx ((h x).2 e))]
   exact zcB r _ _ (λy=>by simp[h y])
theorem zby:∀(l:List De)(d c s b d' c' s' b':List Nm),(∀x,x∈d↔x∈d')->(∀x,x∈c↔x∈c')->(∀x,x∈s↔x∈s')->(∀x,x∈b↔x∈b')->tw d c s b l=tw d' c' s' b' l
 |[],_,_,_,_,_,_,_,_,_,_,_,_=>rfl
 |.data n ps cs::r,d,c,s,b,d',c',s',b',hd,hc,hs,hb=>by
  rw[tw,tw]
  by_cases hx:n∈d
  ·rw[ud hx,ud ((hd n).1 hx)]
  ·rw[ue hx,ue (λe=>hx ((hd n).2 e)),zcB _ c c' hc]
   rw[zby r (n::d) (conNames cs++c) s b (n::d') (conNames cs++c') s' b' (λy=>by simp[hd y]) (λy=>by simp[hc y]) hs hb]
 |.sig x t::r,d,c,s,b,d',c',s',b',hd,hc,hs,hb=>by
  rw[tw,tw]
  by_cases hx:x∈s
  ·rw[ud hx,ud ((hs x).1 hx)]
  ·rw[ue hx,ue (λe=>hx ((hs x).2 e))]
   exact zby r d c (x::s) b d' c' (x::s') b' hd hc (λy=>by simp[hs y]) hb
 |.bind x t::r,d,c,s,b,d',c',s',b',hd,hc,hs,hb=>by
  rw[tw,tw]
  by_cases hx:x∈b
  ·rw[ud hx,ud ((hb x).1 hx)]
  ·rw[ue hx,ue (λe=>hx ((hb x).2 e))]
   exact zby r d c s (x::b) d' c' s' (x::b') hd hc hs (λy=>by simp[hb y])
theorem zoD(m:Mets)(x:De)(r:List De):tw m.d m.c m.s m.b (x::r)=match twOne m x with
  |some y=>some y
  |none=>tw (m.next x).d (m.next x).c (m.next x).s (m.next x).b r:=by
 cases x with
 |data n ps cs =>
  rw[tw]
  unfold twOne;by_cases hx:n∈m.d
  ·rw[ud hx];simp[hx]
  ·rw[ue hx]
   simp only[hx,vZ];cases h1:rep [] ps with
   |some y=>rfl
   |none =>
    simp only;cases h2:rep m.c (conNames cs) with
    |some y=>rfl
    |none=>exact zby r _ _ _ _ _ _ _ _ (λy=>by simp[Mets.next,or_comm]) (λy=>by simp[Mets.next,or_comm]) (λ_=>wC) (λ_=>wC)
 |sig n t =>
  rw[tw]
  unfold twOne;by_cases hx:n∈m.s
  ·rw[ud hx];simp[hx]
  ·rw[ue hx]
   simp only[hx,vZ];exact zby r _ _ _ _ _ _ _ _ (λ_=>wC) (λ_=>wC) (λy=>by simp[Mets.next,or_comm]) (λ_=>wC)
 |bind n t =>
  rw[tw]
  unfold twOne;by_cases hx:n∈m.b
  ·rw[ud hx];simp[hx]
  ·rw[ue hx]
   simp only[hx,vZ];exact zby r _ _ _ _ _ _ _ _ (λ_=>wC) (λ_=>wC) (λ_=>wC) (λy=>by simp[Mets.next,or_comm])
theorem ze2:∀(l:List De)(m:Mets),l.foldl Mets.next m=⟨m.d++l.flatMap (λ|.data n _ _=>[n]|_=>[]),m.c++cons l,m.s++sigs l,m.b++binds l⟩
 |[],m=>by simp[cons,sigs,binds]
 |x::r,m=>by
  rw[vF,ze2 r]
  cases x <;> simp[Mets.next,cons,sigs,binds,conOf,sigOf,bindOf]
def za7(j:Nat)(m:Mets)(x:De):Option (Nm × Nat) :=
 if j=0 then(twOne m x).map λy=>(y,90)
 else if j=1 then(match x with|.sig n _=>if n∈m.b then none else some (n,92)|_=>none)
 else(match x with|.bind _ e=>mis m.b m.c e|_=>none)
def zaS(j:Nat)(m:Mets)(x:De):Mets:=if j=0 then m.next x else m
def goL(j:Nat):Mets->List De->Option (Nm × Nat)
 |_,[]=>none
 |m,x::r=>match za7 j m x with
  |some y=>some y
  |none=>goL j (zaS j m x) r
def met0:Mets:=⟨[wAny],[],[],[]⟩
theorem goL0:∀(l:List De)(m:Mets),goL 0 m l=(tw m.d m.c m.s m.b l).map λy=>(y,90)
 |[],_=>rfl
 |x::r,m=>by
  rw[goL,zoD,show za7 0 m x=(twOne m x).map λy=>(y,90) from rfl,show zaS 0 m x=m.next x from rfl,goL0 r]
  cases twOne m x <;> rfl
theorem goL1:∀(l:List De)(m:Mets),goL 1 m l=((sigs l).find? (λx=>decide (x∉m.b))).map λy=>(y,92)
 |[],_=>rfl
 |x::r,m=>by
  rw[goL,show zaS 1 m x=m from rfl,goL1 r]
  cases x with
  |data n ps cs=>rfl
  |bind n e=>rfl
  |sig n t =>
   rw[show za7 1 m (De.sig n t)=if n∈m.b then none else some (n,92) from rfl,show sigs (De.sig n t::r)=n::sigs r from rfl,vG]
   by_cases h:n∈m.b
   ·simp[h]
   ·simp[h]
theorem goL2:∀(l:List De)(m:Mets),goL 2 m l=(exs l).findSome? (mis m.b m.c)
 |[],_=>rfl
 |x::r,m=>by
  rw[goL,show zaS 2 m x=m from rfl,goL2 r]
  cases x with
  |data n ps cs=>rfl
  |sig n e=>rfl
  |bind n e =>
   rw[show za7 2 m (De.bind n e)=mis m.b m.c e from rfl,show exs (De.bind n e::r)=e::exs r from rfl,uU]
   cases mis m.b m.c e <;> rfl
def metF(l:List De):Mets:=l.foldl Mets.next met0
theorem zgb(l:List De):chk l=match goL 0 met0 l with
  |some y=>y
  |none=>match goL 1 (metF l) l with
   |some y=>y
   |none=>match goL 2 (metF l) l with
    |some y=>y
    |none=>([],0):=by
 have hb:(metF l).b=binds l:=by unfold metF;rw[ze2];rfl
 have hc:(metF l).c=cons l:=by unfold metF;rw[ze2];rfl
 rw[goL0,goL1,goL2,hb,hc]
 unfold chk;rw[show tw met0.d met0.c met0.s met0.b l=tw [wAny] [] [] [] l from rfl]
 cases tw [wAny] [] [] [] l with
 |some y=>rfl
 |none =>
  simp only[Option.map_none];cases (sigs l).find? (λx=>decide (x∉binds l)) with
  |some y=>rfl
  |none=>rfl
end Go.Proofs.YtknkclefoiohpaaGreatDoor
namespace Go.Proofs.YtknkclefoiohpaaGreatDoor
open Go.RowKit Lx Tx Sx Go.Maps Go.WideMaps Go.Shelf
set_option maxRecDepth 100000
mutual
theorem za5:∀e:Ex,cost (evs e)<=4*e.wt
 |.var _=>by simp[evs,cost,evL,Ex.wt]
 |.con _=>by simp[evs,cost,evL,Ex.wt]
 |.lam x e=>by
  have:=za5 e;simp only[evs,zaz,zax,zb6,evL,Ex.wt,ui,uF];omega
 |.app a b=>by
  have:=za5 a;have:=za5 b;simp only[evs,zaz,zax,zb6,evL,Ex.wt,uF];omega
 |.lt x t a b=>by
  have:=za5 a;have:=za5 b;simp only[evs,zaz,zax,zb6,evL,Ex.wt,ui,uF];omega
 |.cs e l=>by
  have:=za5 e;have:=zhu l;simp only[evs,zaz,zax,evL,Ex.wt,uF];omega
 |.ann e t=>by
  have:=za5 e;simp only[evs,zaz,zax,zb6,evL,Ex.wt,uF];omega
theorem zna:∀a:Al,cost (evs1 a)<=4*a.wt
 |.mk c vs b=>by
  have:=za5 b;simp only[evs1,zaz,zax,zb6,evL,Al.wt];omega
theorem zhu:∀l:List Al,cost (evsA l)<=4*wtA l
 |[]=>by simp[evsA,cost]
 |a::r=>by
  have:=zna a;have:=zhu r;simp only[evsA,zax,wtA];omega
end
theorem zbT {F:Nat} {ask:Nm->List Nm->Bool} {tr:Nm->List Nm->List Nm}(ek:∀args w,(callFunc F args).run Tryz.prog w=.ok (.enter F args) w)(mb:Nat)(HV:VisQ F #[.map (some mb)] 1000000 (JMet mb) ask tr)
  {I:Nat->World->Prop} {j:Nat} {L xs:List Nm} {V:Option Addr} {v:Nat} {S:Nat->Prop}
  (hI:∀W,I j W->MapE mkMet W mb (units L)/\NmsIn S W xs V/\∀g,S g->g<W.heap.size/\g≠mb)
  (eO:∀x∈xs,x.length<=24)(hL:L.length+xs.length<=1000000)
  (rP:∀W Wc w',I j W->Below W.heap.size W Wc->Chg (only mb) Wc w'->MapE mkMet w' mb (units (stA tr (xs.take (noes ask tr xs L+1)) L))->I (j+1) w'):FAsk I j V xs.length v (.func (.func F) #[.map (some mb)] #[]) ((xs[noes ask tr xs L]?).map λx=>⟨x.toArray⟩):=by
 intro W Wc hi hb;obtain⟨hm,hx,hS⟩:=hI W hi;have rS:MapE mkMet Wc mb (units L):=hm.keep (hb.block _ hm.lt);have hxc:NmsIn S Wc xs V:=hx.keep (λ_ h=>h) (λg hg=>hb.block g (hS g hg).1);have hj:JMet mb L.length L (only mb) Wc:=⟨rS,tV _,rfl,λg hg=>by have e:g=mb:=hg;rw[e];exact rS.lt⟩;refine(zlb F #[.map (some mb)] 1000000 (JMet mb) ask tr ek HV (tV _) xs L.length L (only mb) S V xs.length v Wc hj hxc rfl (λg hg=>⟨uO (hS g hg).1 hb.size,(hS g hg).2⟩) eO hL).mono ?_;rintro e w' ⟨r,rfl,hr,d,-,M',hj',-,cP⟩;refine⟨r,rfl,rP W Wc w' hi hb cP hj'.map,λk h1 h2=>cP.block k h2 (by have:=hm.lt;unfold only;omega),?_⟩;rcases hr with⟨rfl,bk⟩|⟨rfl,ah⟩
 ·rw[List.getElem?_eq_none (by omega)]
  exact rfl
 ·obtain⟨x,gY⟩:∃x,xs[noes ask tr xs L]?=some x:=⟨_,ug ah⟩
  rw[gY]
  obtain⟨g,hV,hg,fN⟩:=hxc (λe=>by rw[e]at ah;simp at ah);refine⟨_,g,rfl,ah,hV,?_⟩;have h1:=fN _ (Sx.strV x) (by rw[vA,gY];rfl);rw[uJ]at h1
  exact zcd h1 (cP.block g (uO (hS g hg).1 hb.size) (hS g hg).2)
def metB(da co:Nat)(g:Nat):Prop:=g=da\/g=co\/g=co+1\/g=co+2
structure MetsAt (da co:Nat) (m:Mets) (W:World):Prop where
 d:MapE mkMet W da (units m.d)
 c:MapE mkMet W co (units m.c)
 s:MapE mkMet W (co+1) (units m.s)
 b:MapE mkMet W (co+2) (units m.b)
theorem MetsAt.keep {da co:Nat} {m:Mets} {W W':World}(h:MetsAt da co m W)(hk:∀g,metB da co g->W'.heap[g]?=W.heap[g]?):MetsAt da co m W' :=
 ⟨h.d.keep (hk _ (.inl rfl)),h.c.keep (hk _ (.inr (.inl rfl))),h.s.keep (hk _ (.inr (.inr (.inl rfl)))),h.b.keep (hk _ (.inr (.inr (.inr rfl))))⟩
theorem MetsAt.lt {da co:Nat} {m:Mets} {W:World}(h:MetsAt da co m W):∀g,metB da co g->g<W.heap.size:=by
 rintro g (rfl|rfl|rfl|rfl)
 ·exact h.d.lt
 ·exact h.c.lt
 ·exact h.s.lt
 ·exact h.b.lt
theorem MetsAt.below {da co:Nat} {m:Mets} {W W':World}(h:MetsAt da co m W)(hb:Below W.heap.size W W'):MetsAt da co m W':=h.keep (λg hg=>hb.block g (h.lt g hg))
def Mets.size(m:Mets):Nat:=m.d.length+m.c.length+m.s.length+m.b.length
def FPost(M:Nat->Prop)(w:World)(ans:Option (Nm × Nat))(Q:World->Prop)(e:Ending)(w':World):Prop :=
 Chg M w w'/\∃X k,e=.returned (.tuple #[.string X,.int .i64 k])/\(ans=none->X=⟨#[]⟩/\k=0/\Q w')/\∀y,ans=some y->X=⟨y.1.toArray⟩/\k=(y.2:Nat)
def LPostF(da co:Nat)(w:World)(ans:Option (Nm × Nat))(Q:World->Prop)(e:Ending)(w':World):Prop :=
 ∃A n c,e=.returned (.slice A n c)/\Below w.heap.size w w'/\Calls Tryz.prog 65 #[.slice A n c] w' (FPost (λg=>metB da co g\/w.heap.size<=g) w' ans Q)
theorem zld(A:Option Addr)(d:Nat)(w:World):Calls Tryz.prog 65 #[.slice A 0 d] w λe w'=>e=.returned (.tuple #[.string ⟨#[]⟩,.int .i64 0])/\Below w.heap.size w w':=by
 go_enter Tryz.func65,Tryz.ntmps65
 go_wp2_with fail
 go_loopg [9] 0 (λgg vi wr=>gg=0/\vi=.int .i64 0/\Hid (Below w.heap.size w wr))
 case atStart=>exact⟨rfl,rfl,wJ (ua _ _)⟩
 case round =>
  obtain⟨rfl,rfl,hb⟩:=hrel;go_wp2_with fail
  go_ret2
  exact⟨rfl,hb.out⟩
theorem LPostF.none {da co:Nat} {w w':World} {Q:World->Prop}(hb:Below w.heap.size w w')(hQ:∀W,Below w'.heap.size w' W->Q W):LPostF da co w none Q (.returned (.slice none 0 0)) w' :=
 ⟨_,_,_,rfl,hb,(zld _ _ w').mono λe W ⟨h1,h2⟩=>⟨Chg.of_below h2,_,_,h1,λ_=>⟨rfl,rfl,hQ W h2⟩,λy h=>by cases h⟩⟩
end Go.Proofs.YtknkclefoiohpaaGreatDoor
