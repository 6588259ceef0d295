import Derived.Test.YtfafilmklhnngaaGreatDoorBsP
import Derived.Test.YtfafilmklhnngaaGreatDoorBsO
import Derived.Test.YtfafilmklhnngaaGreatDoorBsW
set_option maxHeartbeats 12800000
set_option maxRecDepth 100000
namespace Go.Proofs.YtfafilmklhnngaaGreatDoor
open Tryz
section
open Go.RowKit Lx Tx
def FO(w:World):Prop:=Lib.TabIs prog w "internal/strconv.uint64pow10" .u64 Lib.pow10Tab
theorem zja:prog.globalNamed "internal/strconv.uint64pow10" = some 0:=by kernel_rfl
theorem FO.al {w w':World}(h:FO w)(hk:w'.heap[0]?=w.heap[0]?):FO w':=by
 unfold FO Lib.TabIs World.var? at h ⊢;rw[zja]at h ⊢;simp only[Option.bind_some]at h ⊢;rw[hk];exact h
theorem FO.lt {w:World}(h:FO w):0<w.heap.size:=by
 unfold FO Lib.TabIs World.var? at h;rw[zja]at h;simp only[Option.bind_some]at h;refine Nat.lt_of_not_le λhl=>?_;have e:w.heap[0]?=none:=Es hl;rw[e]at h
 cases h
theorem FO.below {w w':World}(h:FO w)(hb:Below w.heap.size w w'):FO w':=h.al (hb.block _ h.lt)
theorem FO.Jz {B:Nat} {w w':World}(h:FO w)(hB:0<B)(hb:Below B w w'):FO w':=h.al (hb.block _ hB)
theorem FO.alloc {w:World}(h:FO w)(o:Obj):FO (w.alloc o):=h.below ((Cc _ w).alloc (BU _) o)
theorem zoY(f n:Nat)(h:n<10 ^ f)(hf:1<=f):Gh f n=Lib.decDigits n:=by
 induction f generalizing n with
 |zero=>omega
 |succ f ih =>
  rw[Gh,Lib.decDigits];by_cases h1:n<10
  ·rw[Ch h1,dif_pos h1,digit,Nat.mod_eq_of_lt h1]
  ·rw[Cg h1,dif_neg h1,digit]
   have sM:1<=f:=by
    cases f with
    |zero=>simp at h;omega
    |succ f=>omega
   rw[ih (n / 10) (by rw[Nat.div_lt_iff_lt_mul (by decide)];rw[EN]at h;exact h) sM]
theorem zqK(n:Nat)(h:n<10 ^ 20):dec n=Lib.decDigits n:=zoY 20 n h (by decide)
theorem zoZ(n:Nat)(h:n<10 ^ 20):Lib.itoa (n:Int)=dec n:=by rw[Lib.itoa_nonneg,zqK n h]
theorem Lj(w:World)(os:Array Obj):Below w.heap.size w (Sort.grow w os) :=
 ⟨rfl,rfl,rfl,by show w.heap.size<=(w.heap++os).size;simp,λk hk=>by show(w.heap++os)[k]?=_;rw[EJ hk]⟩
theorem zkB(n:Nat)(w:World)(hn:n<10 ^ 15)(ht:FO w):Calls prog 86 #[.int .i64 n] w λe w'=>e=.returned (.string ⟨(dec n).toArray⟩)/\Below w.heap.size w w':=by
 refine(Tryz.strconv_Itoa n (by omega) (by omega) w ht).mono ?_;rintro e w' ⟨rfl,k,os,rfl⟩;exact⟨by rw[zoZ n (by omega)],(Cc _ w |> λh=>(⟨h.os,h.tape,h.output,h.size,h.block⟩:Below w.heap.size w (w.drewN k))).trans (Lj (w.drewN k) os)⟩
def KM(t:Ty):Bool:=kd t==5
theorem zo0(t:Ty):(KM t=true/\((kd t:Int)==5)=true/\(kids t).length=1)\/(KM t=false/\((kd t:Int)==5)=false):=by
 cases t <;> simp[KM,kd,kids]
theorem Wp(t:Ty)(S:Nat->Prop)(v:Value)(w:World)(hv:nc S w t v):Calls prog 173 #[v] w λe w'=>e=.returned (.bool (KM t))/\Below w.heap.size w w':=by
 obtain⟨K,X,Z,A,m,c,rfl,hK,-,-,hm,-⟩:=hv.parts;have hw:=zo0 t;rw[<-hK]at hw;obtain⟨q,hq⟩:∃q,KM t=q:=⟨_,rfl⟩;rw[hq]at hw ⊢;rw[hm]at hw;clear hK hm hv hq;rcases hw with⟨rfl,d5,rfl⟩|⟨rfl,d5⟩
 ·go_in
  go_wp2
  go_ret
  exact⟨rfl,(Cc _ w).alloc (BU _) _⟩
 ·go_in
  go_wp2
  go_ret
  exact⟨rfl,(Cc _ w).alloc (BU _) _⟩
def LV(t:Ty):Nat->Bool
 |0=>false
 |1=>t.LL
 |_=>t.ON
theorem zmS(t:Ty)(p:Nat)(hp:p<=2):((kd t:Int)==4)=true/\LV t p=(((p:Nat):Int) != 0)\/((kd t:Int)==4)=false/\((kd t:Int)==5)=true/\LV t p=(((p:Nat):Int) != 0) \/
  ((kd t:Int)==4)=false/\((kd t:Int)==5)=false/\((kd t:Int)==3)=true/\LV t p=(((p:Nat):Int)==2&&decide (0<(kids t).length)) \/
  ((kd t:Int)==4)=false/\((kd t:Int)==5)=false/\((kd t:Int)==3)=false/\LV t p=false:=by
 have qU:p=0\/p=1\/p=2:=by omega
 cases t with
 |var x=>exact .inr (.inr (.inr ⟨rfl,rfl,rfl,by rcases qU with rfl|rfl|rfl <;> rfl⟩))
 |mt x=>exact .inr (.inr (.inr ⟨rfl,rfl,rfl,by rcases qU with rfl|rfl|rfl <;> rfl⟩))
 |h_ d l=>exact .inr (.inr (.inl ⟨rfl,rfl,rfl,by rcases qU with rfl|rfl|rfl <;> cases l <;> simp[LV,Ty.ON,Ty.LL,kids]⟩))
 |fn a b=>exact .inl ⟨rfl,by rcases qU with rfl|rfl|rfl <;> rfl⟩
 |all x t=>exact .inr (.inl ⟨rfl,rfl,by rcases qU with rfl|rfl|rfl <;> rfl⟩)
theorem zqL(t:Ty)(p:Nat)(P:Int)(hP:P=p)(hp:p<=2)(S:Nat->Prop)(v:Value)(w:World)(hv:nc S w t v):Calls prog 136 #[v,.int .i64 P] w λe w'=>e=.returned (.bool (LV t p))/\Below w.heap.size w w':=by
 subst hP;obtain⟨K,X,Z,A,m,c,rfl,hK,-,-,hm,-⟩:=hv.parts;have hw:=zmS t p hp;rw[<-hK]at hw;obtain⟨q,hq⟩:∃q,LV t p=q:=⟨_,rfl⟩;rw[hq]at hw ⊢;rw[hm]at hw;clear hK hm hv hq;rcases hw with⟨d4,hr⟩|⟨d4,d5,hr⟩|⟨d4,d5,d3,hr⟩|⟨d4,d5,d3,hr⟩
 ·have HR:=EP hr
  clear hr;go_in;go_wp2
  go_ret
  exact⟨Iy HR.o.symm,(Cc _ w).alloc (BU _) _⟩
 ·have HR:=EP hr
  clear hr;go_in;go_wp2
  go_ret
  exact⟨Iy HR.o.symm,(Cc _ w).alloc (BU _) _⟩
 ·by_cases h2:p=2
  ·subst h2
   by_cases oL:0<m
   ·have HR:Hid (q=true):=EP (by rw[hr];simp;omega)
    clear hr;go_in;go_wp2
    go_ret
    exact⟨Iy HR.o.symm,(Cc _ w).alloc (BU _) _⟩
   ·have HR:Hid (q=false):=EP (by rw[hr];simp;omega)
    clear hr;go_in;go_wp2
    go_ret
    exact⟨Iy HR.o.symm,(Cc _ w).alloc (BU _) _⟩
  ·have d2:=NS p 2 2 rfl h2
   have HR:Hid (q=false):=EP (by rw[hr,d2];simp);clear hr h2;go_in;go_wp2
   go_ret
   exact⟨Iy HR.o.symm,(Cc _ w).alloc (BU _) _⟩
 ·have HR:=EP hr
  clear hr;go_in;go_wp2
  go_ret
  exact⟨Iy HR.o.symm,(Cc _ w).alloc (BU _) _⟩
def GW(t:Ty)(p:Nat):List UInt8:=if LV t p=true then 40::(t.print++[41]) else t.print
theorem Qk(t:Ty):GW t 0=t.print:=by simp[GW,LV]
theorem zrq(t:Ty):GW t 1=(if t.LL then 40::(t.print++[41]) else t.print):=by simp[GW,LV]
theorem zrr(t:Ty):GW t 2=(if t.ON then 40::(t.print++[41]) else t.print):=by simp[GW,LV]
theorem zlw(l:List Ty)(i:Nat)(hi:i<l.length):ID (l.take (i+1))=ID (l.take i)++[32]++GW l[i] 2:=by
 rw[zkd l i hi,zrr];split <;> simp
def Lw(n:Nat):Prop :=
 ∀(t:Ty) (S:Nat->Prop) (v:Value) (B b:Nat) (l:List UInt8) (w:World),t.size<=n->n<=1000000000000->Nm t->nc S w t v->(∀g,S g->g<B)->Lu B b l w->0<B->FO w->l.length+t.print.length<=50000000000000 ->
  Calls prog 137 #[v,.pointer (some ⟨b,0,none⟩)] w λe w'=>e=.returned (.tuple #[])/\v_ B b (l++t.print) w w'
def Qa(n:Nat):Prop :=
 ∀(t:Ty) (p:Nat) (P:Int) (S:Nat->Prop) (v:Value) (B b:Nat) (l:List UInt8) (w:World),P=p->p<=2->t.size<=n->n<=1000000000000->Nm t->nc S w t v->(∀g,S g->g<B)->Lu B b l w->0<B->FO w->l.length+(GW t p).length<=50000000000000 ->
  Calls prog 90 #[v,.pointer (some ⟨b,0,none⟩),.int .i64 P] w λe w'=>e=.returned (.tuple #[])/\v_ B b (l++GW t p) w w'
theorem v_.rd {S:Nat->Prop} {B b:Nat} {l:List UInt8} {w w1:World} {t:Ty} {v:Value}(h:v_ B b l w w1)(hr:nc S w t v)(hS:∀g,S g->g<B):nc S w1 t v :=
 hr.al (λ_ h=>h) (λg hg=>h.2.1.block g (hS g hg))
theorem v_.tab {B b:Nat} {l:List UInt8} {w w1:World}(h:v_ B b l w w1)(ht:FO w)(hB:0<B):FO w1:=ht.Jz hB h.2.1
theorem v_.sz {B b:Nat} {l:List UInt8} {w w1:World}(h:v_ B b l w w1):w.heap.size<=w1.heap.size:=h.2.1.size
theorem zjb(n:Nat)(HB:Lw n):Qa n:=by
 intro t p P S v B b l w hP hp hn h6 aw hv hS hb hB ht hlen;subst hP;obtain⟨rF,bG⟩:=hb.lt;have hM:=λw hv=>zqL t p p rfl hp S v w hv;have HC:=λ(l:List UInt8) (w:World) hv hb ht hlen=>HB t S v B b l w hn h6 aw hv hS hb hB ht hlen;unfold GW at hlen ⊢;obtain⟨q,hq⟩:∃q,LV t p=q:=⟨_,rfl⟩;rw[hq]at hM hlen ⊢
 obtain⟨K,X,Z,A,m,c,rfl,-,-,-,-,-⟩:=hv.parts;have HS:=EP hS;have HV:=EP hv;have xD:=EP hb;have HT:=EP ht;have HM:=EP hM;have YH:=EP HC;have tQ:Hid (nc S (w.alloc (.cells #[.int .i64 K,.string X,.int .i64 Z,.slice A m c] 37)) t (.agg #[.int .i64 K,.string X,.int .i64 Z,.slice A m c])) :=
  EP (hv.al (λ_ h=>h) (λg hg=>BX _ _ _ (by have:=hS g hg;omega)))
 clear hS hv hb ht hM HC hq HB hn aw;go_in;go_wp2_with fail;refine(HM.o _ tQ.o).mono ?_;rintro e w1 ⟨rfl,b1⟩;have aH:=b1.size;simp at aH;have aq:=ar.below (BZ w (.cells #[.int .i64 K,.string X,.int .i64 Z,.slice A m c] 37)) b1 (by simp);obtain⟨p0,p1,p2,p3,s0,s1,s2,s3,dp⟩:=n_ aq;have kX:=J1 b1 (BU _);have iu:=EP aq;have fm:=EP ((v_.refl xD.o).below (by omega) kX);have fO:=EP (HV.o.al (λ_ h=>h) (λg hg=>kX.block g (by have:=HS.o g hg;omega)));have qw:=EP (HT.o.below kX);clear aq b1 kX;cases q with
 |false =>
  simp only[Dg,D3]at hlen ⊢;go_wp2_with fail;refine(YH.o l w1 fO.o fm.o.1 qw.o hlen).mono ?_;rintro e w2 ⟨rfl,h2⟩;have H2:=EP h2;clear h2;go_wp2_with fail;first|go_end0|refine Ce (CQ rfl _ _ _) rfl ?_
  exact⟨rfl,fm.o.trans H2.o⟩
 |true =>
  simp only[Ez]at hlen ⊢;have cR:l.length+t.print.length+2<=50000000000000:=by simp at hlen;omega
  clear hlen;go_wp2_with fail;refine(Qd B b l 40 40 rfl w1 fm.o.1 (by omega) (by omega)).mono ?_;rintro e w2 ⟨rfl,h2⟩;have aq:=h2.Jm iu.o (by omega) (by decide);obtain⟨p0,p1,p2,p3,s0,s1,s2,s3,um⟩:=n_ aq;have aZ:=h2.sz;have l7:=EP (h2.rd fO.o HS.o);have nR:=EP (h2.tab qw.o hB);have H2:=EP (fm.o.trans h2);clear h2 aq;go_wp2_with fail;refine(YH.o (l++[40]) w2 l7.o H2.o.1 nR.o (by simp;omega)).mono ?_;rintro e w3 ⟨rfl,h3⟩;have dy:=h3.sz;have H3:=EP (H2.o.trans h3);clear h3;go_wp2_with fail;refine(Qd B b _ 41 41 rfl w3 H3.o.1 (by simp;omega) (by omega)).mono ?_;rintro e w4 ⟨rfl,h4⟩;have H4:=EP (H3.o.trans h4);clear h4;go_wp2_with fail;first|go_end0|refine Ce (CQ rfl _ _ _) rfl ?_
  refine⟨rfl,?_⟩;have:=H4.o;rwa [show l++[40]++t.print++[41]=l++40::(t.print++[41]) by simp]at this
end
section
open Go.RowKit Lx Tx
set_option maxRecDepth 100000
theorem zlx(w:World)(g:Nat)(b0 b1 b2 b3:Value):((((w.setCell ⟨g,0,none⟩ b0).setCell ⟨g,1,none⟩ b1).setCell ⟨g,2,none⟩ b2).setCell ⟨g,3,none⟩ b3).heap.size=w.heap.size:=by simp
theorem zkC(u:Ty)(h:KM u=true):∃y v,u=.all y v:=by
 cases u <;> simp[KM,kd]at h;exact⟨_,_,rfl⟩
theorem zqM(u:Ty)(h:KM u=false):J3 u=[46,32]++u.print :=
 Rc u (λy v e=>by rw[e]at h;simp[KM,kd]at h)
theorem zly {B b g:Nat} {l:List UInt8} {w w1:World}(h:v_ B b l w w1) {cs:Array Value} {t:TypeId}(b0 b1 b2 b3:Value)(hB:B<=g)(hw:w.heap.size<=g)(hb:g≠b)(hk:ar w1 g t cs)(ht:t≠5):v_ B b l w ((((w1.setCell ⟨g,0,none⟩ b0).setCell ⟨g,1,none⟩ b1).setCell ⟨g,2,none⟩ b2).setCell ⟨g,3,none⟩ b3):=by
 have bZ:∀k,k≠g->((((w1.setCell ⟨g,0,none⟩ b0).setCell ⟨g,1,none⟩ b1).setCell ⟨g,2,none⟩ b2).setCell ⟨g,3,none⟩ b3).heap[k]?=w1.heap[k]?:=λk hk=>G3 _ _ _ _ _ _ _ hk;have hg:w1.grownBy ((((w1.setCell ⟨g,0,none⟩ b0).setCell ⟨g,1,none⟩ b1).setCell ⟨g,2,none⟩ b2).setCell ⟨g,3,none⟩ b3) (some g):=by
  have hb:Below 0 w1 ((((w1.setCell ⟨g,0,none⟩ b0).setCell ⟨g,1,none⟩ b1).setCell ⟨g,2,none⟩ b2).setCell ⟨g,3,none⟩ b3):=GH (Cc 0 w1) _ _ _ _ (Cw _);exact⟨hb.os,hb.tape,hb.output,hb.size,λi _ hi=>bZ i (λe=>hi (by rw[e]))⟩
 refine⟨?_,GH h.2.1 _ _ _ _ hB,λk o aU jM hko=>?_⟩
 ·have key:∀p,Lib.BuilderAtF 163 5 B b p (Lib.byteCells l) w1->Lib.BuilderAtF 163 5 B b p (Lib.byteCells l) ((((w1.setCell ⟨g,0,none⟩ b0).setCell ⟨g,1,none⟩ b1).setCell ⟨g,2,none⟩ b2).setCell ⟨g,3,none⟩ b3):=by
   rintro p ⟨hB',v,aq,aj,ai⟩;refine⟨hB',v,(bZ b (λe=>hb e.symm)).trans aq,aj.kept hg ?_,ai⟩;rcases hv:v.ownBlock with _|g'
   ·exact .inl rfl
   ·refine .inr λe=>?_
    injection e with e;obtain⟨c,fz,hc⟩:=Lib.ownsRowF_kind aj g' hv;rw[e]at hc
    rw[show w1.heap[g]?=_ from hk]at hc;injection hc with hc;injection hc with _ hc _;exact ht hc
  rcases h.1 with h1|h1
  ·exact .inl (key _ h1)
  ·exact .inr (key _ h1)
 ·have af:k<w.heap.size:=(BV.1 aU).1
  rw[bZ k (by omega)];exact h.2.2 k o aU jM hko
def zrO(S:Nat->Prop)(B b n:Nat)(R:List UInt8)(w:World)(gg:Nat)(wr:World):Prop :=
 ∃u l K X Z A m c,gg=u.size/\ar wr w.heap.size 37 #[.int .i64 K,.string X,.int .i64 Z,.slice A m c]/\nc S wr u (.agg #[.int .i64 K,.string X,.int .i64 Z,.slice A m c])/\v_ B b l w wr/\w.heap.size<wr.heap.size /\
  Hid (l++J3 u=R)/\(KM u=true\/u.size<=n)/\u.size<=n+1/\Nm u/\FO wr
theorem zht(n:Nat)(HW:Qa n)(t:Ty)(S:Nat->Prop)(v:Value)(B b:Nat)(l:List UInt8)(w:World)(hA:KM t=true)(hn:t.size<=n+1)(h6:n<=1000000000000)(aw:Nm t)(hv:nc S w t v)(hS:∀g,S g->g<B)
  (hb:Lu B b l w)(hB:0<B)(ht:FO w)(hlen:l.length+t.print.length<=50000000000000):Calls prog 174 #[v,.pointer (some ⟨b,0,none⟩)] w λe w'=>e=.returned (.tuple #[])/\v_ B b (l++t.print) w w':=by
 obtain⟨rF,bG⟩:=hb.lt;obtain⟨K,X,Z,A,m,c,rfl,-,-,-,-,-⟩:=hv.parts;have fU:t.print=ub++J3 t:=by
  obtain⟨y,u,rfl⟩:=zkC t hA;rw[Ty.print,SH];simp
 obtain⟨R,hR⟩:∃R,l++t.print=R:=⟨_,rfl⟩;have hRl:R.length<=50000000000000:=by rw[<-hR];simpa using hlen
 have HR:Hid (l++ub++J3 t=R):=EP (by rw[<-hR,fU];simp);have q8:l.length<=50000000000000:=by omega
 rw[hR];have HS:=EP hS;have HV:=EP hv;have xD:=EP hb;have HT:=EP ht;have xf:=EP HW;have bQ:=EP aw;have HA:=EP hA;have si:=(v_.refl hb).below (by omega) ((Cc _ w).alloc (BU _) (.cells #[.int .i64 K,.string X,.int .i64 Z,.slice A m c] 37));have jF:=EP si;clear hS hv hb ht HW aw hA fU hR hlen si;go_in;go_wp2_with fail;refine(Pr B b l ⟨#[102,111,114,97,108,108]⟩ _ jF.o.1 (by omega) (by decide) (by simp;omega)).mono ?_;rintro e w1 ⟨rfl,h1⟩;have aH:=h1.sz;simp at aH;have aq:=h1.Jm (BZ w (.cells #[.int .i64 K,.string X,.int .i64 Z,.slice A m c] 37)) (by omega) (by decide);have H1:=EP (jF.o.trans h1);have bc:=EP aq;have fO:=EP (H1.o.rd HV.o HS.o);have qw:=EP (H1.o.tab HT.o hB);clear h1 aq;go_wp2_with fail;go_loopg [7] t.size (λgg _ wr=>zrO S B b n R w gg wr)
 case atStart=>exact⟨t,_,K,X,Z,A,m,c,rfl,bc.o,fO.o,H1.o,by omega,HR.o,.inl HA.o,hn,bQ.o,qw.o⟩
 case round =>
  obtain⟨u,l',K',X',Z',A',m',c',lS,aq,aG,qH,af,fD,Tq,fR,aw,gH⟩:=hrel;have fZ:l'.length+(J3 u).length<=50000000000000:=by rw[<-Cb,fD.o];exact hRl
  obtain⟨p0,p1,p2,p3,s0,s1,s2,s3,dp⟩:=n_ aq;have hF:=Wp u S _ wr aG;obtain⟨q,hq⟩:∃q,KM u=q:=⟨_,rfl⟩;rw[hq]at hF Tq;have iu:=EP aq;have cg:=EP aG;have Ui:=EP qH;have rS:=EP aw;have im:=EP gH;clear aq aG qH aw gH;cases q with
  |true =>
   obtain⟨y,u2,rfl⟩:=zkC u hq;have ph:Hid (l'++[32]++y++J3 u2=R):=EP (by rw[<-fD.o,SH];simp);have wG:l'.length+1+y.length+(J3 u2).length<=50000000000000:=by rw[SH]at fZ;simp at fZ;omega
   have j6:(Ty.all y u2).size=u2.size+1:=by rw[Ty.size]
   have yL:Nm u2:=by cases rS.o;assumption
   have rU:=EP yL;obtain⟨-,rfl,rfl,g,rfl,hg,K1,X1,Z1,A1,n1,c1,e0,e1,e2,e3,bm⟩:=zoX cg.o;obtain⟨Y,hY⟩:∃Y:ByteArray,⟨y.toArray⟩=Y:=⟨_,rfl⟩;have HY:Hid (Y.data.toList=y):=EP (by rw[<-hY]);have hYs:Y.size=y.length:=by rw[Dc,HY.o]
   have bW:=EP bm;have TB:=HS.o g hg;rw[hY]at p1 hF iu cg;clear hq Tq fD fZ bm yL hY;go_wp2_with fail;refine hF.mono ?_;rintro e w2 ⟨rfl,b2⟩;have aZ:=b2.size;have cC:=EP (iu.o.below b2 dp);have gE:=EP (Ui.o.below (by omega) b2);have dY:=EP (bW.o.al (λ_ h=>h) (λg hg=>b2.block g (by have:=HS.o g hg;omega)));have nR:=EP (im.o.below b2);have C0:=EP (λi=>Ck (w:=wr) (w':=w2) (a:=⟨g,i,none⟩) (b2.block g (by omega)));clear b2 hF;go_wp2_with fail;refine(Qd B b l' 32 32 rfl w2 gE.o.1 (by omega) (by omega)).mono ?_;rintro e w3 ⟨rfl,h3⟩;have dy:=h3.sz;have aq:=h3.Jm cC.o (by omega) (by decide);obtain⟨p0,p1,p2,p3,s0,s1,s2,s3,uk⟩:=n_ aq;have gF:=EP aq;have nA:=EP (h3.rd dY.o HS.o);have gu:=EP (h3.tab nR.o hB);have C3:=EP (λi=>Ck (w:=w2) (w':=w3) (a:=⟨g,i,none⟩) (h3.2.1.block g TB));have H3:=EP (gE.o.trans h3);clear h3 aq;go_wp2_with fail;refine(Pr B b (l'++[32]) Y w3 H3.o.1 (by simp;omega) (by omega) (by omega)).mono ?_;rintro e w4 ⟨rfl,h4⟩;have dz:=h4.sz;have aq:=h4.Jm gF.o (by omega) (by decide);obtain⟨p0,p1,p2,p3,s0,s1,s2,s3,arQ⟩:=n_ aq;have nF:=EP aq;have iM:=EP (h4.rd nA.o HS.o);have AV:=EP (h4.tab gu.o hB);have C4:Hid (∀i,w4.cell? ⟨g,i,none⟩=wr.cell? ⟨g,i,none⟩):=EP (λi=>(Ck (w:=w3) (w':=w4) (a:=⟨g,i,none⟩) (h4.2.1.block g TB)).trans ((C3.o i).trans (C0.o i)));have e0':=(C4.o 0).trans e0;have e1':=(C4.o 1).trans e1;have T_:=(C4.o 2).trans e2;have e3':=(C4.o 3).trans e3;have H4:=EP (H3.o.trans h4);clear h4 aq e0 e1 e2 e3;go_wp2_with fail;go_roundg u2.size
   case measure=>omega
   case rel =>
    have hcz:l'++[32]++Y.data.toList++J3 u2=R:=by rw[HY.o];exact ph.o
    have bZ:∀k,k<B->((((w4.setCell ⟨w.heap.size,0,none⟩ (.int .i64 K1)).setCell ⟨w.heap.size,1,none⟩ (.string X1)).setCell ⟨w.heap.size,2,none⟩ (.int .i64 Z1)).setCell ⟨w.heap.size,3,none⟩ (.slice A1 n1 c1)).heap[k]?=w4.heap[k]?:=λk hk=>G3 _ _ _ _ _ _ _ (by omega);refine⟨u2,l'++[32]++Y.data.toList,K1,X1,Z1,A1,n1,c1,rfl,Fh _ _ _ _ nF.o,iM.o.al (λ_ h=>h) (λg hg=>bZ g (HS.o g hg)),zly H4.o _ _ _ _ (by omega) (BU _) (by omega) nF.o (by decide),?_,EP hcz,.inr (by omega),by omega,rU.o,AV.o.al (bZ _ hB)⟩;rw[zlx];omega
  |false =>
   have Y2:u.size<=n:=by rcases Tq with h|h;cases h;exact h
   have fU:=zqM u hq;have ph:Hid (l'++[46,32]++u.print=R):=EP (by rw[<-fD.o,fU];simp);have hlu:l'.length+2+u.print.length<=50000000000000:=by rw[fU]at fZ;simp at fZ;omega
   clear hq Tq fU fZ fD;go_wp2_with fail;refine hF.mono ?_;rintro e w2 ⟨rfl,b2⟩;have aZ:=b2.size;have cC:=EP (iu.o.below b2 dp);have gE:=EP (Ui.o.below (by omega) b2);have l7:=EP (cg.o.al (λ_ h=>h) (λg hg=>b2.block g (by have:=HS.o g hg;omega)));have nR:=EP (im.o.below b2);clear b2 hF;go_wp2_with fail;refine(Pr B b l' ⟨#[46,32]⟩ w2 gE.o.1 (by omega) (by decide) (by omega)).mono ?_;rintro e w3 ⟨rfl,h3⟩;have dy:=h3.sz;have aq:=h3.Jm cC.o (by omega) (by decide);obtain⟨p0,p1,p2,p3,s0,s1,s2,s3,uk⟩:=n_ aq;have Yc:=EP (h3.rd l7.o HS.o);have gu:=EP (h3.tab nR.o hB);have H3:=EP (gE.o.trans h3);clear h3 aq;go_wp2_with fail;refine(xf.o u 0 0 S _ B b _ w3 rfl (by decide) Y2 h6 rS.o Yc.o HS.o H3.o.1 hB gu.o (by rw[Qk];simp;omega)).mono ?_;rintro e w4 ⟨rfl,h4⟩;have H4:=EP (H3.o.trans h4);clear h4;go_wp2_with fail;first|go_end0|refine Ce (CQ rfl _ _ _) rfl ?_
   refine⟨rfl,?_⟩;have:=H4.o;rw[Qk]at this;have e:l'++(⟨#[46,32]⟩:ByteArray).data.toList++u.print=R:=ph.o;rwa [e]at this
end
section
open Go.RowKit Lx Tx
structure Rj (n:Nat) (t:Ty) (S:Nat->Prop) (v:Value) (B b:Nat) (l:List UInt8) (w:World):Prop where
 size:t.size<=n
 max:n<=1000000000001
 nm:Nm t
 rd:nc S w t v
 lt:∀g,S g->g<B
 M_:Lu B b l w
 Mn:0<B
 tab:FO w
 len:l.length+t.print.length<=50000000000000
theorem zqN(k:Nat)(S:Nat->Prop)(v:Value)(B b:Nat)(l:List UInt8)(w:World)(h:Rj 1000000000001 (.mt k) S v B b l w):Calls prog 137 #[v,.pointer (some ⟨b,0,none⟩)] w λe w'=>e=.returned (.tuple #[])/\v_ B b (l++(Ty.mt k).print) w w':=by
 obtain⟨rF,bG⟩:=h.M_.lt;obtain⟨A,c,rfl,-⟩:=h.rd;have hk:k<=999999:=by cases h.nm;assumption
 have hlen:l.length+1+(dec k).length<=50000000000000:=by have:=h.len;rw[Ty.print]at this;simp at this;omega
 have hd:(dec k).length<=20:=Sl 20 20 k (by omega) (by decide);rw[Ty.print];have xD:=EP h.M_;have HT:=EP h.tab;have hB:=h.Mn;have jF:=EP ((v_.refl h.M_).below (by omega) ((Cc _ w).alloc (BU _) (.cells #[.int .i64 2,.string ⟨#[]⟩,.int .i64 (k:Nat),.slice A 0 c] 37)));have e0:(Value.agg #[.int .i64 (kd (.mt k):Nat),.string (ER (.mt k)),.int .i64 (nn (.mt k):Nat),.slice A (kids (.mt k)).length c])=.agg #[.int .i64 2,.string ⟨#[]⟩,.int .i64 (k:Nat),.slice A 0 c]:=rfl;rw[e0];clear h e0;go_in;go_wp2_with fail;refine(Qd B b l 63 63 rfl _ jF.o.1 (by omega) (by simp;omega)).mono ?_;rintro e w1 ⟨rfl,h1⟩;have aH:=h1.sz;simp at aH;have aq:=h1.Jm (BZ w (.cells #[.int .i64 2,.string ⟨#[]⟩,.int .i64 (k:Nat),.slice A 0 c] 37)) (by omega) (by decide);obtain⟨p0,p1,p2,p3,s0,s1,s2,s3,dp⟩:=n_ aq;have H1:=EP (jF.o.trans h1);have qw:=EP (H1.o.tab HT.o hB);clear h1 aq;go_wp2_with fail;refine(zkB k w1 (by omega) qw.o).mono ?_;rintro e w2 ⟨rfl,b2⟩;have aZ:=b2.size;have H2:=EP (H1.o.below (by omega) b2);obtain⟨D,hD⟩:∃D:ByteArray,⟨(dec k).toArray⟩=D:=⟨_,rfl⟩;have HD:Hid (D.data.toList=dec k):=EP (by rw[<-hD]);have XC:D.size<=20:=by rw[Dc,HD.o];exact hd
 rw[hD];clear b2 hD;go_wp2_with fail;refine(Pr B b (l++[63]) D w2 H2.o.1 (by simp;omega) (by omega) (by omega)).mono ?_;rintro e w3 ⟨rfl,h3⟩;have H3:=EP (H2.o.trans h3);clear h3;go_wp2_with fail;first|go_end0|refine Ce (CQ rfl _ _ _) rfl ?_
 refine⟨rfl,?_⟩;have:=H3.o;rwa [HD.o,show l++[63]++dec k=l++63::dec k by simp]at this
theorem zqO(n:Nat)(HW:Qa n)(x y:Ty)(S:Nat->Prop)(v:Value)(B b:Nat)(l:List UInt8)(w:World)(h6:n<=1000000000000)(h:Rj (n+1) (.fn x y) S v B b l w):Calls prog 137 #[v,.pointer (some ⟨b,0,none⟩)] w λe w'=>e=.returned (.tuple #[])/\v_ B b (l++(Ty.fn x y).print) w w':=by
 obtain⟨rF,bG⟩:=h.M_.lt;obtain⟨A,c,rfl,ha⟩:=h.rd;have aA:=h.size;rw[Ty.size]at aA;obtain⟨iY,lM⟩:Nm x/\Nm y:=by cases h.nm;exact⟨by assumption,by assumption⟩
 have fU:(Ty.fn x y).print=GW x 1++[32,45,62,32]++GW y 0:=by rw[Ty.print,zrq,Qk]
 have hlen:=h.len;rw[fU]at hlen;simp only[Cb,Ca,CR]at hlen;rw[fU];rw[j_]at ha;obtain⟨g,rfl,hg,⟨A1,c1,bj,uT⟩,⟨A2,c2,cH,uS⟩⟩:=ha;obtain⟨K1,X1,Z1,n1,e0,e1,e2,e3,bm,-,-⟩:=Wr bj uT;obtain⟨K2,X2,Z2,n2,f0,f1,f2,f3,cD,-,-⟩:=Wr cH uS;have qm:=M7 e0;replace e1:w.cell? ⟨g,1,none⟩=some (.string X1):=e1;replace e2:w.cell? ⟨g,2,none⟩=some (.int .i64 Z1):=e2;replace e3:w.cell? ⟨g,3,none⟩=some (.slice A1 n1 c1):=e3;have TB:=h.lt g hg;have HS:=EP h.lt;have HT:=EP h.tab;have hB:=h.Mn;have jF:=EP ((v_.refl h.M_).below (by omega) ((Cc _ w).alloc (BU _) (.cells #[.int .i64 4,.string ⟨#[]⟩,.int .i64 0,.slice (some ⟨g,0,none⟩) 2 c] 37)));have bW:=EP (jF.o.rd bm h.lt);have dY:=EP cD;have Yt:=EP iY;have rU:=EP lM;have xf:=EP HW;have jY:(Value.agg #[.int .i64 (kd (.fn x y):Nat),.string (ER (.fn x y)),.int .i64 (nn (.fn x y):Nat),.slice (some ⟨g,0,none⟩) (kids (.fn x y)).length c])=.agg #[.int .i64 4,.string ⟨#[]⟩,.int .i64 0,.slice (some ⟨g,0,none⟩) 2 c]:=rfl;rw[jY];have HF:Hid (w.cell? ⟨g,4,none⟩=some (.int .i64 K2)/\w.cell? ⟨g,5,none⟩=some (.string X2)/\w.cell? ⟨g,6,none⟩=some (.int .i64 Z2)/\w.cell? ⟨g,7,none⟩=some (.slice A2 n2 c2)):=EP ⟨f0,f1,f2,f3⟩;clear h jY bm cD iY lM HW bj cH uT uS f0 f1 f2 f3 fU;go_in;go_wp2_with fail;refine(xf.o x 1 1 S _ B b l _ rfl (by decide) (by omega) h6 Yt.o bW.o HS.o jF.o.1 hB (HT.o.alloc _) (by omega)).mono ?_;rintro e w1 ⟨rfl,h1⟩;have aH:=h1.sz;simp at aH;have aq:=h1.Jm (BZ w (.cells #[.int .i64 4,.string ⟨#[]⟩,.int .i64 0,.slice (some ⟨g,0,none⟩) 2 c] 37)) (by omega) (by decide);have H1:=EP (jF.o.trans h1);have bc:=EP aq;clear h1 aq e0 e1 e2 e3;go_wp2_with fail;refine(Pr B b _ ⟨#[32,45,62,32]⟩ w1 H1.o.1 (by simp;omega) (by decide) (by omega)).mono ?_;rintro e w2 ⟨rfl,h2⟩;have aZ:=h2.sz;have aq:=h2.Jm bc.o (by omega) (by decide);obtain⟨p0,p1,p2,p3,s0,s1,s2,s3,dp⟩:=n_ aq;have H2:=EP (H1.o.trans h2);have ZW:=EP (H2.o.rd dY.o HS.o);have nR:=EP (H2.o.tab HT.o hB);have zM:=λi=>Ck (w:=w) (w':=w2) (a:=⟨g,i,none⟩) (H2.o.2.1.block g TB);have f0:=(zM 4).trans HF.o.1;have f1:=(zM 5).trans HF.o.2.1;have f2:=(zM 6).trans HF.o.2.2.1;have f3:=(zM 7).trans HF.o.2.2.2;clear h2 aq zM;go_wp2_with fail
 refine(xf.o y 0 0 S _ B b _ w2 rfl (by decide) (by omega) h6 rU.o ZW.o HS.o H2.o.1 hB nR.o (by
  simp only[Cb,Ca,CR];omega)).mono ?_
 rintro e w3 ⟨rfl,h3⟩;have H3:=EP (H2.o.trans h3);clear h3;go_wp2_with fail;first|go_end0|refine Ce (CQ rfl _ _ _) rfl ?_
 refine⟨rfl,?_⟩;have:=H3.o;rwa [show l++GW x 1++(⟨#[32,45,62,32]⟩:ByteArray).data.toList++GW y 0=l++(GW x 1++[32,45,62,32]++GW y 0) by simp]at this
theorem zlz(l:List Ty)(i:Nat)(u:Ty)(P:List UInt8)(a:List UInt8)(h:Hid (a++ID (l.take i)=P))(hu:∃hi:i<l.length,l[i]=u):a++ID (l.take (i+1))=P++[32]++GW u 2:=by
 obtain⟨hi,rfl⟩:=hu;rw[zlw l i hi,<-h.o];simp
def zrP(B b m:Nat)(a:List UInt8)(l:List Ty)(w:World)(gg:Nat)(vi:Value)(wr:World):Prop :=
 ∃i P,gg=m-i/\vi=.int .i64 (i:Nat)/\i<=m/\v_ B b P w wr/\w.heap.size<wr.heap.size/\Hid (a++ID (l.take i)=P)/\FO wr
theorem zjc(n:Nat)(HW:Qa n)(t:Ty)(hk:kd t=1\/kd t=3)(S:Nat->Prop)(v:Value)(B b:Nat)(l:List UInt8)(w:World)(h6:n<=1000000000000)(h:Rj (n+1) t S v B b l w):Calls prog 137 #[v,.pointer (some ⟨b,0,none⟩)] w λe w'=>e=.returned (.tuple #[])/\v_ B b (l++t.print) w w':=by
 obtain⟨rF,bG⟩:=h.M_.lt;obtain⟨K,X,Z,A,m,c,rfl,hK,hX,-,hm,ha⟩:=h.rd.parts;have d2:((K:Int)==2)=false:=by rw[hK];rcases hk with e|e <;> rw[e] <;> rfl
 have d4:((K:Int)==4)=false:=by rw[hK];rcases hk with e|e <;> rw[e] <;> rfl
 have hq:KM t=false:=by unfold KM;rcases hk with e|e <;> rw[e] <;> rfl
 have fU:t.print=X.data.toList++ID (kids t):=by
  rw[hX];cases t with
  |var x=>rw[Ty.print,kids,ID];simp[ER]
  |h_ d l=>rw[Ty.print];rfl
  |mt k=>simp[kd]at hk
  |fn a b=>simp[kd]at hk
  |all x t=>simp[kd]at hk
 have hF:=λw hv=>Wp t S (.agg #[.int .i64 K,.string X,.int .i64 Z,.slice A m c]) w hv;rw[hq]at hF
 have hlen:=h.len;obtain⟨R,hR⟩:∃R,l++t.print=R:=⟨_,rfl⟩;have hRl:R.length<=50000000000000:=by rw[<-hR];simpa using hlen
 have HR:Hid ((l++X.data.toList)++ID (kids t)=R):=EP (by rw[<-hR,fU];simp);have zV:l.length+X.size<=50000000000000:=by rw[fU,Cb,<-Dc]at hlen;omega
 have dI:m<=n:=by have:=LF t;have:=h.size;omega
 rw[hR];have HS:=EP h.lt;have HT:=EP h.tab;have HV:=EP h.rd;have xf:=EP HW;have HA:=EP ha;have HM:=EP hm;have xn:=EP h.size;have bQ:Hid (∀i (hi:i<(kids t).length),Nm (kids t)[i]):=EP λi hi=>Mc h.nm i hi;have hB:=h.Mn;have jF:=EP ((v_.refl h.M_).below (by omega) ((Cc _ w).alloc (BU _) (.cells #[.int .i64 K,.string X,.int .i64 Z,.slice A m c] 37)));have Ul:Hid (nc S (w.alloc (.cells #[.int .i64 K,.string X,.int .i64 Z,.slice A m c] 37)) t (.agg #[.int .i64 K,.string X,.int .i64 Z,.slice A m c])):=EP (jF.o.rd h.rd h.lt);clear h hK hX hm ha hk hq fU hR hlen HW;go_in
 go_wp2_with fail;refine(hF _ Ul.o).mono ?_;rintro e w1 ⟨rfl,b1⟩;have aH:=b1.size;simp at aH;have aq:=ar.below (BZ w (.cells #[.int .i64 K,.string X,.int .i64 Z,.slice A m c] 37)) b1 (by simp);obtain⟨p0,p1,p2,p3,s0,s1,s2,s3,dp⟩:=n_ aq;have bc:=EP aq;have H1:=EP (jF.o.below (by simp;omega) b1);clear b1 aq hF;go_wp2_with fail;refine(Pr B b l X w1 H1.o.1 (by omega) (by omega) (by omega)).mono ?_;rintro e w2 ⟨rfl,h2⟩;have aZ:=h2.sz;have aq:=h2.Jm bc.o (by omega) (by decide);obtain⟨p0,p1,p2,p3,s0,s1,s2,s3,um⟩:=n_ aq;have H2:=EP (H1.o.trans h2);have nR:=EP (H2.o.tab HT.o hB);clear h2 aq;go_wp2_with fail;go_loopg [13] m (λgg vi wr=>zrP B b m (l++X.data.toList) (kids t) w gg vi wr)
 case atStart=>exact⟨0,_,rfl,rfl,by omega,H2.o,by omega,EP (by rw[CK,ID,CJ]),nR.o⟩
 case round =>
  obtain⟨i,P,rfl,rfl,hi,qH,af,fD,gH⟩:=hrel;have Ui:=EP qH;have im:=EP gH;have ar0:=qH.1.lt;by_cases mL:i<m
  ·obtain⟨g,u,K1,X1,Z1,A1,n1,c1,rfl,hg,e0,e1,e2,e3,hu,aG,aA,-,-⟩:=QJ (w':=wr) HA.o HM.o mL (λg hg=>qH.2.1.block g (HS.o g hg))
   have kK:=M7 e0;have bT:Nm u:=by obtain⟨fB,rfl⟩:=hu;exact bQ.o i fB
   have rS:=EP bT;have sx:=EP (zlz _ _ _ _ _ fD hu);have ez:P.length+1+(GW u 2).length<=50000000000000:=by
    have h1:=Cp List.length sx.o;have h2:=Cp List.length HR.o;have h3:=zhq (kids t) (i+1);simp only[Cb,Ca,CR]at h1 h2;omega
   have dD:u.size<=n:=by have:=xn.o;omega
   have cg:=EP aG;have AP:=EP (qH.below (by omega) ((Cc _ wr).alloc (BU _) (.cells #[.int .i64 K1,.string X1,.int .i64 Z1,.slice A1 n1 c1] 37)));clear qH gH hu aG bT;go_wp2_with fail;refine(Qd B b P 32 32 rfl _ AP.o.1 (by omega) (by simp;omega)).mono ?_;rintro e w3 ⟨rfl,h3⟩;have dy:=h3.sz;simp at dy;have aq:=h3.Jm (BZ wr (.cells #[.int .i64 K1,.string X1,.int .i64 Z1,.slice A1 n1 c1] 37)) (by omega) (by decide);obtain⟨q0,q1,q2,q3,y0,y1,y2,y3,wG⟩:=n_ aq;have rO:=EP ((h3.rd (nc.al cg.o (λ_ h=>h) (λg hg=>BX _ _ _ (by have:=HS.o g hg;omega))) HS.o));have H3:=EP (AP.o.trans h3);have gu:=EP (h3.tab (im.o.alloc _) hB);clear h3 aq e0 e1 e2 e3;go_wp2_with fail;refine(xf.o u 2 2 S _ B b (P++[32]) w3 rfl (by decide) dD h6 rS.o rO.o HS.o H3.o.1 hB gu.o (by simp;omega)).mono ?_;rintro e w4 ⟨rfl,h4⟩;have dz:=h4.sz;have H4:=EP (H3.o.trans h4);have AV:=EP (h4.tab gu.o hB);clear h4;go_wp2_with fail;go_roundg (m-(i+1))
   case measure=>omega
   case rel=>exact⟨i+1,P++[32]++GW u 2,rfl,by go_num,by omega,H4.o,by omega,EP sx.o,AV.o⟩
  ·have aJ:=EP (show P=R by rw[Cq (by rw[HM.o];omega)]at fD;rw[<-fD.o,HR.o])
   clear qH gH;go_wp2_with fail;first|go_end0|refine Ce (CQ rfl _ _ _) rfl ?_
   refine⟨rfl,?_⟩;have:=Ui.o;rwa [aJ.o]at this
theorem zo1(n:Nat)(HW:Qa n)(t:Ty)(hA:KM t=true)(S:Nat->Prop)(v:Value)(B b:Nat)(l:List UInt8)(w:World)(h6:n<=1000000000000)(h:Rj (n+1) t S v B b l w):Calls prog 137 #[v,.pointer (some ⟨b,0,none⟩)] w λe w'=>e=.returned (.tuple #[])/\v_ B b (l++t.print) w w':=by
 obtain⟨rF,bG⟩:=h.M_.lt;obtain⟨K,X,Z,A,m,c,rfl,hK,-,-,hm,-⟩:=h.rd.parts;have aM:kd t=5:=by simpa[KM] using hA
 have d2:((K:Int)==2)=false:=by rw[hK,aM];rfl
 have d4:((K:Int)==4)=false:=by rw[hK,aM];rfl
 have hF:=λw hv=>Wp t S (.agg #[.int .i64 K,.string X,.int .i64 Z,.slice A m c]) w hv;rw[hA]at hF
 have BB:=λw1 hv hb ht=>zht n HW t S (.agg #[.int .i64 K,.string X,.int .i64 Z,.slice A m c]) B b l w1 hA h.size h6 h.nm hv h.lt hb h.Mn ht h.len;have HS:=EP h.lt;have HT:=EP h.tab;have hB:=h.Mn;have aac:=EP BB;have jF:=EP ((v_.refl h.M_).below (by omega) ((Cc _ w).alloc (BU _) (.cells #[.int .i64 K,.string X,.int .i64 Z,.slice A m c] 37)));have Ul:Hid (nc S (w.alloc (.cells #[.int .i64 K,.string X,.int .i64 Z,.slice A m c] 37)) t (.agg #[.int .i64 K,.string X,.int .i64 Z,.slice A m c])):=EP (jF.o.rd h.rd h.lt);clear h hK hm hA aM HW BB;go_in
 go_wp2_with fail;refine(hF _ Ul.o).mono ?_;rintro e w1 ⟨rfl,b1⟩;have aH:=b1.size;simp at aH;have aq:=ar.below (BZ w (.cells #[.int .i64 K,.string X,.int .i64 Z,.slice A m c] 37)) b1 (by simp);obtain⟨p0,p1,p2,p3,s0,s1,s2,s3,dp⟩:=n_ aq;have H1:=EP (jF.o.below (by simp;omega) b1);have bW:=EP (Ul.o.al (λ_ h=>h) (λg hg=>b1.block g (by have:=HS.o g hg;simp;omega)));have qw:=EP ((HT.o.alloc _).below b1);clear b1 aq hF;go_wp2_with fail;refine(aac.o w1 bW.o H1.o.1 qw.o).mono ?_;rintro e w2 ⟨rfl,h2⟩;have H2:=EP (H1.o.trans h2);clear h2;go_wp2_with fail;first|go_end0|refine Ce (CQ rfl _ _ _) rfl ?_
 exact⟨rfl,H2.o⟩
theorem zlA(n:Nat):Lw n/\Qa n:=by
 induction n with
 |zero =>
  have hb:Lw 0:=λt S v B b l w hn=>by rw[Gv]at hn;omega
  exact⟨hb,zjb 0 hb⟩
 |succ n ih =>
  have hb:Lw (n+1):=by
   intro t S v B b l w hn h6 aw hv hS hb hB ht hlen;have h:Rj (n+1) t S v B b l w:=⟨hn,by omega,aw,hv,hS,hb,hB,ht,hlen⟩;cases t with
   |var x=>exact zjc n ih.2 _ (.inl rfl) S v B b l w (by omega) h
   |h_ d ts=>exact zjc n ih.2 _ (.inr rfl) S v B b l w (by omega) h
   |mt k=>exact zqN k S v B b l w { h with size:=by omega,max:=by omega }
   |fn x y=>exact zqO n ih.2 x y S v B b l w (by omega) h
   |all x t=>exact zo1 n ih.2 _ rfl S v B b l w (by omega) h
  exact⟨hb,zjb (n+1) hb⟩
theorem zmT(t:Ty)(S:Nat->Prop)(v:Value)(w:World)(hs:t.size<=1000000000000)(aw:Nm t)(hv:nc S w t v)(hS:∀g,S g->g<w.heap.size)(ht:FO w)(hlen:t.print.length<=50000000000000):Calls prog 46 #[v] w λe w'=>e=.returned (.string ⟨t.print.toArray⟩)/\Below w.heap.size w w':=by
 obtain⟨K,X,Z,A,m,c,rfl,-,-,-,-,-⟩:=hv.parts;have HW:=EP (zlA 1000000000000).2;have HS:=EP hS;have HV:=EP hv;have hB:=ht.lt;have HT:=EP ht;have bQ:=EP aw;have HL:=EP hlen;have xn:=EP hs;have iI:=Lib.IsBuilderF.of (Lib.fresh_isBuilder 163 5 (w.alloc (.cells #[.int .i64 K,.string X,.int .i64 Z,.slice A m c] 37)));have e0:(w.alloc (.cells #[.int .i64 K,.string X,.int .i64 Z,.slice A m c] 37)).heap.size=w.heap.size+1:=by simp
 rw[e0]at iI;have xD:Hid (Lu w.heap.size (w.heap.size+1) [] ((w.alloc (.cells #[.int .i64 K,.string X,.int .i64 Z,.slice A m c] 37)).alloc (.cells #[.pointer none,.slice none 0 0] 163))):=by
  refine EP ?_;have key:∀p,Lib.BuilderAtF 163 5 (w.heap.size+1) (w.heap.size+1) p [] ((w.alloc (.cells #[.int .i64 K,.string X,.int .i64 Z,.slice A m c] 37)).alloc (.cells #[.pointer none,.slice none 0 0] 163))->Lib.BuilderAtF 163 5 w.heap.size (w.heap.size+1) p [] ((w.alloc (.cells #[.int .i64 K,.string X,.int .i64 Z,.slice A m c] 37)).alloc (.cells #[.pointer none,.slice none 0 0] 163)):=by
   rintro p ⟨h1,v,h2,h3,h4⟩;refine⟨by omega,v,h2,⟨h3.1,?_⟩,h4⟩;rcases h3.2 with h|⟨g,cap,cur,fz,h5,h6,h7⟩
   ·exact .inl h
   ·exact .inr ⟨g,cap,cur,fz,h5,by omega,h7⟩
  rcases iI with h|h
  ·exact .inl (key _ h)
  ·exact .inr (key _ h)
 have l7:Hid (nc S ((w.alloc (.cells #[.int .i64 K,.string X,.int .i64 Z,.slice A m c] 37)).alloc (.cells #[.pointer none,.slice none 0 0] 163)) t (.agg #[.int .i64 K,.string X,.int .i64 Z,.slice A m c])) :=
  EP (hv.al (λ_ h=>h) (λg hg=>(BX _ _ _ (by have:=hS g hg;simp;omega)).trans (BX _ _ _ (hS g hg))))
 clear hS hv ht aw hlen hs iI e0;go_in;go_wp2_with fail;refine(HW.o t 0 0 S _ w.heap.size (w.heap.size+1) [] _ rfl (by decide) xn.o (by decide) bQ.o l7.o HS.o xD.o hB ((HT.o.alloc _).alloc _) (by rw[Qk];simpa using HL.o)).mono ?_;rintro e w1 ⟨rfl,h1⟩;have H1:=EP h1;have aH:=h1.sz;simp at aH;clear h1;go_wp2_with fail;refine(Tryz.Builder_String_any_k w.heap.size (w.heap.size+1) t.print w1 (by have:=H1.o.1;rw[Qk,Cu]at this;exact this) (by omega)).mono ?_;rintro e w2 ⟨rfl,-,b2,-⟩;have B2:=EP b2;clear b2;go_wp2_with fail;go_ret
 exact⟨rfl,(((Cc _ w).alloc (BU _) _).alloc (by simp) _).trans (H1.o.2.1.trans B2.o)⟩
end
end Go.Proofs.YtfafilmklhnngaaGreatDoor
