import Derived.Test.YtfafilmklhnngaaGreatDoorBkQ
import Derived.Test.YtfafilmklhnngaaGreatDoorBkP
import Derived.Test.YtfafilmklhnngaaGreatDoorBkX
set_option maxHeartbeats 12800000
namespace Go.Proofs.YtfafilmklhnngaaGreatDoor
open Go.RowKit Lx Tx
set_option maxRecDepth 100000
def Tab(w:World):Prop:=Lib.TabIs Tryz.prog w "internal/strconv.uint64pow10" .u64 Lib.pow10Tab
theorem zij:Tryz.prog.globalNamed "internal/strconv.uint64pow10" = some 0:=by kernel_rfl
theorem Tab.keep {w w':World}(h:Tab w)(hk:w'.heap[0]?=w.heap[0]?):Tab w':=by
 unfold Tab Lib.TabIs World.var? at h ⊢;rw[zij]at h ⊢
 simp only[Option.bind_some]at h ⊢;rw[hk]
 exact h
theorem Tab.lt {w:World}(h:Tab w):0<w.heap.size:=by
 unfold Tab Lib.TabIs World.var? at h;rw[zij]at h
 simp only[Option.bind_some]at h;refine Nat.lt_of_not_le λhl=>?_;have e:w.heap[0]?=none:=Cv hl;rw[e]at h
 cases h
theorem Tab.below {w w':World}(h:Tab w)(hb:Below w.heap.size w w'):Tab w':=h.keep (hb.block _ h.lt)
theorem Tab.belowB {B:Nat} {w w':World}(h:Tab w)(hB:0<B)(hb:Below B w w'):Tab w':=h.keep (hb.block _ hB)
theorem Tab.alloc {w:World}(h:Tab w)(o:Obj):Tab (w.alloc o):=h.below ((Below.refl _ w).alloc (Ai _) o)
theorem znB(f n:Nat)(h:n<10 ^ f)(hf:1<=f):decF f n=Lib.decDigits n:=by
 induction f generalizing n with
 |zero=>omega
 |succ f ih =>
  rw[decF,Lib.decDigits]
  by_cases h1:n<10
  ·rw[Aq h1,dif_pos h1,digit,Nat.mod_eq_of_lt h1]
  ·rw[Am h1,dif_neg h1,digit]
   have hf0:1<=f:=by
    cases f with
    |zero=>simp at h;omega
    |succ f=>omega
   rw[ih (n / 10) (by rw[Nat.div_lt_iff_lt_mul (by decide)];rw[CQ]at h;exact h) hf0]
theorem zo6(n:Nat)(h:n<10 ^ 20):dec n=Lib.decDigits n:=znB 20 n h (by decide)
theorem znC(n:Nat)(h:n<10 ^ 20):Lib.itoa (n:Int)=dec n:=by rw[Lib.itoa_nonneg,zo6 n h]
theorem below_grow(w:World)(os:Array Obj):Below w.heap.size w (Sort.grow w os) :=
 ⟨rfl,rfl,rfl,by show w.heap.size<=(w.heap++os).size;simp,λk hk=>by show(w.heap++os)[k]?=_;rw[CO hk]⟩
theorem zjO(n:Nat)(w:World)(hn:n<10 ^ 15)(ht:Tab w):Calls Tryz.prog 86 #[.int .i64 n] w λe w'=>e=.returned (.string ⟨(dec n).toArray⟩)/\Below w.heap.size w w':=by
 refine(Tryz.strconv_Itoa n (by omega) (by omega) w ht).mono ?_;rintro e w' ⟨rfl,k,os,rfl⟩;exact⟨by rw[znC n (by omega)],(Below.refl _ w |> λh=>(⟨h.os,h.tape,h.output,h.size,h.block⟩:Below w.heap.size w (w.drewN k))).trans (below_grow (w.drewN k) os)⟩
def isA(t:Ty):Bool:=kd t==5
theorem znD(t:Ty):(isA t=true/\((kd t:Int)==5)=true/\(kids t).length=1)\/(isA t=false/\((kd t:Int)==5)=false):=by
 cases t <;> simp[isA,kd,kids]
theorem zdH(t:Ty)(S:Nat->Prop)(v:Value)(w:World)(hv:RdV S w t v):Calls Tryz.prog 173 #[v] w λe w'=>e=.returned (.bool (isA t))/\Below w.heap.size w w':=by
 obtain⟨K,X,Z,A,m,c,rfl,hK,-,-,hm,-⟩:=hv.parts;have hw:=znD t;rw[<-hK]at hw
 obtain⟨q,hq⟩:∃q,isA t=q:=⟨_,rfl⟩;rw[hq]at hw ⊢
 rw[hm]at hw
 clear hK hm hv hq;rcases hw with⟨rfl,d5,rfl⟩|⟨rfl,d5⟩
 ·go_enter Tryz.func173,Tryz.ntmps173
  go_wp2
  go_ret
  exact⟨rfl,(Below.refl _ w).alloc (Ai _) _⟩
 ·go_enter Tryz.func173,Tryz.ntmps173
  go_wp2
  go_ret
  exact⟨rfl,(Below.refl _ w).alloc (Ai _) _⟩
def zb2(t:Ty):Nat->Bool
 |0=>false
 |1=>t.isFA
 |_=>t.big
theorem zlK(t:Ty)(p:Nat)(hp:p<=2):((kd t:Int)==4)=true/\zb2 t p=(((p:Nat):Int) != 0)\/((kd t:Int)==4)=false/\((kd t:Int)==5)=true/\zb2 t p=(((p:Nat):Int) != 0) \/
  ((kd t:Int)==4)=false/\((kd t:Int)==5)=false/\((kd t:Int)==3)=true/\zb2 t p=(((p:Nat):Int)==2&&decide (0<(kids t).length)) \/
  ((kd t:Int)==4)=false/\((kd t:Int)==5)=false/\((kd t:Int)==3)=false/\zb2 t p=false:=by
 have wX:p=0\/p=1\/p=2:=by omega
 cases t with
 |var x=>exact .inr (.inr (.inr ⟨rfl,rfl,rfl,by rcases wX with rfl|rfl|rfl <;> rfl⟩))
 |mt x=>exact .inr (.inr (.inr ⟨rfl,rfl,rfl,by rcases wX with rfl|rfl|rfl <;> rfl⟩))
 |con d l=>exact .inr (.inr (.inl ⟨rfl,rfl,rfl,by rcases wX with rfl|rfl|rfl <;> cases l <;> simp[zb2,Ty.big,Ty.isFA,kids]⟩))
 |fn a b=>exact .inl ⟨rfl,by rcases wX with rfl|rfl|rfl <;> rfl⟩
 |all x t=>exact .inr (.inl ⟨rfl,rfl,by rcases wX with rfl|rfl|rfl <;> rfl⟩)
theorem zo7(t:Ty)(p:Nat)(P:Int)(hP:P=p)(hp:p<=2)(S:Nat->Prop)(v:Value)(w:World)(hv:RdV S w t v):Calls Tryz.prog 136 #[v,.int .i64 P] w λe w'=>e=.returned (.bool (zb2 t p))/\Below w.heap.size w w':=by
 subst hP;obtain⟨K,X,Z,A,m,c,rfl,hK,-,-,hm,-⟩:=hv.parts;have hw:=zlK t p hp;rw[<-hK]at hw
 obtain⟨q,hq⟩:∃q,zb2 t p=q:=⟨_,rfl⟩;rw[hq]at hw ⊢
 rw[hm]at hw
 clear hK hm hv hq;rcases hw with⟨d4,hr⟩|⟨d4,d5,hr⟩|⟨d4,d5,d3,hr⟩|⟨d4,d5,d3,hr⟩
 ·have HR:=CS hr
  clear hr;go_enter Tryz.func136,Tryz.ntmps136
  go_wp2
  go_ret
  exact⟨zax HR.out.symm,(Below.refl _ w).alloc (Ai _) _⟩
 ·have HR:=CS hr
  clear hr;go_enter Tryz.func136,Tryz.ntmps136
  go_wp2
  go_ret
  exact⟨zax HR.out.symm,(Below.refl _ w).alloc (Ai _) _⟩
 ·by_cases h2:p=2
  ·subst h2
   by_cases sN:0<m
   ·have HR:Hid (q=true):=CS (by rw[hr];simp;omega)
    clear hr;go_enter Tryz.func136,Tryz.ntmps136
    go_wp2
    go_ret
    exact⟨zax HR.out.symm,(Below.refl _ w).alloc (Ai _) _⟩
   ·have HR:Hid (q=false):=CS (by rw[hr];simp;omega)
    clear hr;go_enter Tryz.func136,Tryz.ntmps136
    go_wp2
    go_ret
    exact⟨zax HR.out.symm,(Below.refl _ w).alloc (Ai _) _⟩
  ·have d2:=zb6 p 2 2 rfl h2
   have HR:Hid (q=false):=CS (by rw[hr,d2];simp);clear hr h2;go_enter Tryz.func136,Tryz.ntmps136
   go_wp2
   go_ret
   exact⟨zax HR.out.symm,(Below.refl _ w).alloc (Ai _) _⟩
 ·have HR:=CS hr
  clear hr;go_enter Tryz.func136,Tryz.ntmps136
  go_wp2
  go_ret
  exact⟨zax HR.out.symm,(Below.refl _ w).alloc (Ai _) _⟩
def outW(t:Ty)(p:Nat):List UInt8:=if zb2 t p=true then 40::(t.print++[41]) else t.print
theorem zeP(t:Ty):outW t 0=t.print:=by simp[outW,zb2]
theorem zpR(t:Ty):outW t 1=(if t.isFA then 40::(t.print++[41]) else t.print):=by simp[outW,zb2]
theorem zpS(t:Ty):outW t 2=(if t.big then 40::(t.print++[41]) else t.print):=by simp[outW,zb2]
theorem zkA(l:List Ty)(i:Nat)(hi:i<l.length):zaG (l.take (i+1))=zaG (l.take i)++[32]++outW l[i] 2:=by
 rw[zjr l i hi,zpS]
 split <;> simp
def WBare(n:Nat):Prop :=
 ∀(t:Ty) (S:Nat->Prop) (v:Value) (B b:Nat) (l:List UInt8) (w:World),t.size<=n->n<=1000000->Nm t->RdV S w t v->(∀g,S g->g<B)->Bld B b l w->0<B->Tab w->l.length+t.print.length<=10000000000 ->
  Calls Tryz.prog 137 #[v,.pointer (some ⟨b,0,none⟩)] w λe w'=>e=.returned (.tuple #[])/\WPost B b (l++t.print) w w'
def WWr(n:Nat):Prop :=
 ∀(t:Ty) (p:Nat) (P:Int) (S:Nat->Prop) (v:Value) (B b:Nat) (l:List UInt8) (w:World),P=p->p<=2->t.size<=n->n<=1000000->Nm t->RdV S w t v->(∀g,S g->g<B)->Bld B b l w->0<B->Tab w->l.length+(outW t p).length<=10000000000 ->
  Calls Tryz.prog 90 #[v,.pointer (some ⟨b,0,none⟩),.int .i64 P] w λe w'=>e=.returned (.tuple #[])/\WPost B b (l++outW t p) w w'
theorem WPost.rd {S:Nat->Prop} {B b:Nat} {l:List UInt8} {w w1:World} {t:Ty} {v:Value}(h:WPost B b l w w1)(hr:RdV S w t v)(hS:∀g,S g->g<B):RdV S w1 t v :=
 hr.keep (λ_ h=>h) (λg hg=>h.2.1.block g (hS g hg))
theorem WPost.tab {B b:Nat} {l:List UInt8} {w w1:World}(h:WPost B b l w w1)(ht:Tab w)(hB:0<B):Tab w1:=ht.belowB hB h.2.1
theorem WPost.sz {B b:Nat} {l:List UInt8} {w w1:World}(h:WPost B b l w w1):w.heap.size<=w1.heap.size:=h.2.1.size
theorem zik(n:Nat)(HB:WBare n):WWr n:=by
 intro t p P S v B b l w hP hp hn h6 az hv hS hb hB ht hlen;subst hP;obtain⟨qg,dM⟩:=hb.lt;have hM:=λw hv=>zo7 t p p rfl hp S v w hv;have HC:=λ(l:List UInt8) (w:World) hv hb ht hlen=>HB t S v B b l w hn h6 az hv hS hb hB ht hlen;unfold outW at hlen ⊢;obtain⟨q,hq⟩:∃q,zb2 t p=q:=⟨_,rfl⟩;rw[hq]at hM hlen ⊢
 obtain⟨K,X,Z,A,m,c,rfl,-,-,-,-,-⟩:=hv.parts;have HS:=CS hS;have HV:=CS hv;have vK:=CS hb;have HT:=CS ht;have HM:=CS hM;have HHC:=CS HC;have hrd1:Hid (RdV S (w.alloc (.cells #[.int .i64 K,.string X,.int .i64 Z,.slice A m c] 37)) t (.agg #[.int .i64 K,.string X,.int .i64 Z,.slice A m c])) :=
  CS (hv.keep (λ_ h=>h) (λg hg=>Below.heap_alloc _ _ _ (by have:=hS g hg;omega)))
 clear hS hv hb ht hM HC hq HB hn az;go_enter Tryz.func90,Tryz.ntmps90
 go_wp2_with fail
 refine(HM.out _ hrd1.out).mono ?_;rintro e w1 ⟨rfl,b1⟩;have aF:=b1.size;simp at aF;have an:=Blk.below (heap_alloc_new w (.cells #[.int .i64 K,.string X,.int .i64 Z,.slice A m c] 37)) b1 (by simp);obtain⟨p0,p1,p2,p3,s0,s1,s2,s3,di⟩:=zaa an;have jy:=zaC b1 (Ai _);have eJ:=CS an;have eI:=CS ((WPost.refl vK.out).below (by omega) jy);have fK:=CS (HV.out.keep (λ_ h=>h) (λg hg=>jy.block g (by have:=HS.out g hg;omega)));have oP:=CS (HT.out.below jy);clear an b1 jy;cases q with
 |false =>
  simp only[Bg,BX]at hlen ⊢;go_wp2_with fail
  refine(HHC.out l w1 fK.out eI.out.1 oP.out hlen).mono ?_;rintro e w2 ⟨rfl,h2⟩;have H2:=CS h2;clear h2;go_wp2_with fail
  first|go_end0|refine bodyPost_ret (results_none rfl _ _ _) rfl ?_
  exact⟨rfl,eI.out.trans H2.out⟩
 |true =>
  simp only[CA]at hlen ⊢;have cg:l.length+t.print.length+2<=10000000000:=by simp at hlen;omega
  clear hlen;go_wp2_with fail
  refine(zf2 B b l 40 40 rfl w1 eI.out.1 (by omega) (by omega)).mono ?_;rintro e w2 ⟨rfl,h2⟩;have an:=h2.blk eJ.out (by omega) (by decide);obtain⟨p0,p1,p2,p3,s0,s1,s2,s3,sQ⟩:=zaa an;have bk:=h2.sz;have iO:=CS (h2.rd fK.out HS.out);have l7:=CS (h2.tab oP.out hB);have H2:=CS (eI.out.trans h2);clear h2 an;go_wp2_with fail
  refine(HHC.out (l++[40]) w2 iO.out H2.out.1 l7.out (by simp;omega)).mono ?_;rintro e w3 ⟨rfl,h3⟩;have cY:=h3.sz;have H3:=CS (H2.out.trans h3);clear h3;go_wp2_with fail
  refine(zf2 B b _ 41 41 rfl w3 H3.out.1 (by simp;omega) (by omega)).mono ?_;rintro e w4 ⟨rfl,h4⟩;have H4:=CS (H3.out.trans h4);clear h4;go_wp2_with fail
  first|go_end0|refine bodyPost_ret (results_none rfl _ _ _) rfl ?_
  refine⟨rfl,?_⟩;have:=H4.out;rwa [show l++[40]++t.print++[41]=l++40::(t.print++[41]) by simp]at this
end Go.Proofs.YtfafilmklhnngaaGreatDoor
namespace Go.Proofs.YtfafilmklhnngaaGreatDoor
open Go.RowKit Lx Tx
set_option maxRecDepth 100000
theorem zkB(w:World)(g:Nat)(b0 b1 b2 b3:Value):((((w.setCell ⟨g,0,none⟩ b0).setCell ⟨g,1,none⟩ b1).setCell ⟨g,2,none⟩ b2).setCell ⟨g,3,none⟩ b3).heap.size=w.heap.size:=by simp
theorem zjP(u:Ty)(h:isA u=true):∃y v,u=.all y v:=by
 cases u <;> simp[isA,kd]at h
 exact⟨_,_,rfl⟩
theorem zo8(u:Ty)(h:isA u=false):za2 u=[46,32]++u.print :=
 zbQ u (λy v e=>by rw[e]at h;simp[isA,kd]at h)
theorem zkC {B b g:Nat} {l:List UInt8} {w w1:World}(h:WPost B b l w w1) {cs:Array Value} {t:TypeId}(b0 b1 b2 b3:Value)(hB:B<=g)(hw:w.heap.size<=g)(hb:g≠b)(hk:Blk w1 g t cs)(ht:t≠5):WPost B b l w ((((w1.setCell ⟨g,0,none⟩ b0).setCell ⟨g,1,none⟩ b1).setCell ⟨g,2,none⟩ b2).setCell ⟨g,3,none⟩ b3):=by
 have cC:∀k,k≠g->((((w1.setCell ⟨g,0,none⟩ b0).setCell ⟨g,1,none⟩ b1).setCell ⟨g,2,none⟩ b2).setCell ⟨g,3,none⟩ b3).heap[k]?=w1.heap[k]?:=λk hk=>zat _ _ _ _ _ _ _ hk;have hg:w1.grownBy ((((w1.setCell ⟨g,0,none⟩ b0).setCell ⟨g,1,none⟩ b1).setCell ⟨g,2,none⟩ b2).setCell ⟨g,3,none⟩ b3) (some g):=by
  have hb:Below 0 w1 ((((w1.setCell ⟨g,0,none⟩ b0).setCell ⟨g,1,none⟩ b1).setCell ⟨g,2,none⟩ b2).setCell ⟨g,3,none⟩ b3):=zak (Below.refl 0 w1) _ _ _ _ (AV _);exact⟨hb.os,hb.tape,hb.output,hb.size,λi _ hi=>cC i (λe=>hi (by rw[e]))⟩
 refine⟨?_,zak h.2.1 _ _ _ _ hB,λk o bI xC hko=>?_⟩
 ·have key:∀p,Lib.BuilderAtF 163 5 B b p (Lib.byteCells l) w1->Lib.BuilderAtF 163 5 B b p (Lib.byteCells l) ((((w1.setCell ⟨g,0,none⟩ b0).setCell ⟨g,1,none⟩ b1).setCell ⟨g,2,none⟩ b2).setCell ⟨g,3,none⟩ b3):=by
   rintro p ⟨hB',v,an,ai,af⟩;refine⟨hB',v,(cC b (λe=>hb e.symm)).trans an,ai.kept hg ?_,af⟩;rcases hv:v.ownBlock with _|g'
   ·exact .inl rfl
   ·refine .inr λe=>?_
    injection e with e;obtain⟨c,fz,hc⟩:=Lib.ownsRowF_kind ai g' hv;rw[e]at hc
    rw[show w1.heap[g]?=_ from hk]at hc
    injection hc with hc;injection hc with _ hc _;exact ht hc
  rcases h.1 with h1|h1
  ·exact .inl (key _ h1)
  ·exact .inr (key _ h1)
 ·have ah:k<w.heap.size:=(Aj.1 bI).1
  rw[cC k (by omega)]
  exact h.2.2 k o bI xC hko
def zqe(S:Nat->Prop)(B b n:Nat)(R:List UInt8)(w:World)(gg:Nat)(wr:World):Prop :=
 ∃u l K X Z A m c,gg=u.size/\Blk wr w.heap.size 37 #[.int .i64 K,.string X,.int .i64 Z,.slice A m c]/\RdV S wr u (.agg #[.int .i64 K,.string X,.int .i64 Z,.slice A m c])/\WPost B b l w wr/\w.heap.size<wr.heap.size /\
  Hid (l++za2 u=R)/\(isA u=true\/u.size<=n)/\u.size<=n+1/\Nm u/\Tab wr
theorem zgI(n:Nat)(HW:WWr n)(t:Ty)(S:Nat->Prop)(v:Value)(B b:Nat)(l:List UInt8)(w:World)(hA:isA t=true)(hn:t.size<=n+1)(h6:n<=1000000)(az:Nm t)(hv:RdV S w t v)(hS:∀g,S g->g<B)
  (hb:Bld B b l w)(hB:0<B)(ht:Tab w)(hlen:l.length+t.print.length<=10000000000):Calls Tryz.prog 174 #[v,.pointer (some ⟨b,0,none⟩)] w λe w'=>e=.returned (.tuple #[])/\WPost B b (l++t.print) w w':=by
 obtain⟨qg,dM⟩:=hb.lt;obtain⟨K,X,Z,A,m,c,rfl,-,-,-,-,-⟩:=hv.parts;have eX:t.print=wForall++za2 t:=by
  obtain⟨y,u,rfl⟩:=zjP t hA;rw[Ty.print,zcW];simp
 obtain⟨R,hR⟩:∃R,l++t.print=R:=⟨_,rfl⟩;have hRl:R.length<=10000000000:=by rw[<-hR];simpa using hlen
 have HR:Hid (l++wForall++za2 t=R):=CS (by rw[<-hR,eX];simp);have sV:l.length<=10000000000:=by omega
 rw[hR]
 have HS:=CS hS;have HV:=CS hv;have vK:=CS hb;have HT:=CS ht;have vw:=CS HW;have bK:=CS az;have HA:=CS hA;have qG:=(WPost.refl hb).below (by omega) ((Below.refl _ w).alloc (Ai _) (.cells #[.int .i64 K,.string X,.int .i64 Z,.slice A m c] 37));have iy:=CS qG;clear hS hv hb ht HW az hA eX hR hlen qG;go_enter Tryz.func174,Tryz.ntmps174
 go_wp2_with fail
 refine(zfa B b l ⟨#[102,111,114,97,108,108]⟩ _ iy.out.1 (by omega) (by decide) (by simp;omega)).mono ?_;rintro e w1 ⟨rfl,h1⟩;have aF:=h1.sz;simp at aF;have an:=h1.blk (heap_alloc_new w (.cells #[.int .i64 K,.string X,.int .i64 Z,.slice A m c] 37)) (by omega) (by decide);have H1:=CS (iy.out.trans h1);have bN:=CS an;have fK:=CS (H1.out.rd HV.out HS.out);have oP:=CS (H1.out.tab HT.out hB);clear h1 an;go_wp2_with fail
 go_loopg [7] t.size (λgg _ wr=>zqe S B b n R w gg wr)
 case atStart=>exact⟨t,_,K,X,Z,A,m,c,rfl,bN.out,fK.out,H1.out,by omega,HR.out,.inl HA.out,hn,bK.out,oP.out⟩
 case round =>
  obtain⟨u,l',K',X',Z',A',m',c',kY,an,aK,o8,ah,fJ,hor,wm,az,gS⟩:=hrel;have e9:l'.length+(za2 u).length<=10000000000:=by rw[<-Ap,fJ.out];exact hRl
  obtain⟨p0,p1,p2,p3,s0,s1,s2,s3,di⟩:=zaa an;have hF:=zdH u S _ wr aK;obtain⟨q,hq⟩:∃q,isA u=q:=⟨_,rfl⟩;rw[hq]at hF hor
  have eJ:=CS an;have cF:=CS aK;have HWP:=CS o8;have iP:=CS az;have HTB:=CS gS;clear an aK o8 az gS;cases q with
  |true =>
   obtain⟨y,u2,rfl⟩:=zjP u hq;have nH:Hid (l'++[32]++y++za2 u2=R):=CS (by rw[<-fJ.out,zcW];simp);have uW:l'.length+1+y.length+(za2 u2).length<=10000000000:=by rw[zcW]at e9;simp at e9;omega
   have qK:(Ty.all y u2).size=u2.size+1:=by rw[Ty.size]
   have xc:Nm u2:=by cases iP.out;assumption
   have iB:=CS xc;obtain⟨-,rfl,rfl,g,rfl,hg,K1,X1,Z1,A1,n1,c1,e0,e1,e2,e3,bE⟩:=znz cF.out;obtain⟨Y,hY⟩:∃Y:ByteArray,⟨y.toArray⟩=Y:=⟨_,rfl⟩;have HY:Hid (Y.data.toList=y):=CS (by rw[<-hY]);have hYs:Y.size=y.length:=by rw[Lib.size_eq,HY.out]
   have bY:=CS bE;have hgB:=HS.out g hg;rw[hY]at p1 hF eJ cF
   clear hq hor fJ e9 bE xc hY;go_wp2_with fail
   refine hF.mono ?_;rintro e w2 ⟨rfl,b2⟩;have bk:=b2.size;have bQ:=CS (eJ.out.below b2 di);have fD:=CS (HWP.out.below (by omega) b2);have eE:=CS (bY.out.keep (λ_ h=>h) (λg hg=>b2.block g (by have:=HS.out g hg;omega)));have l7:=CS (HTB.out.below b2);have C0:=CS (λi=>World.cell?_of_block (w:=wr) (w':=w2) (a:=⟨g,i,none⟩) (b2.block g (by omega)));clear b2 hF;go_wp2_with fail
   refine(zf2 B b l' 32 32 rfl w2 fD.out.1 (by omega) (by omega)).mono ?_;rintro e w3 ⟨rfl,h3⟩;have cY:=h3.sz;have an:=h3.blk bQ.out (by omega) (by decide);obtain⟨p0,p1,p2,p3,s0,s1,s2,s3,sP⟩:=zaa an;have gb:=CS an;have qo:=CS (h3.rd eE.out HS.out);have eR:=CS (h3.tab l7.out hB);have C3:=CS (λi=>World.cell?_of_block (w:=w2) (w':=w3) (a:=⟨g,i,none⟩) (h3.2.1.block g hgB));have H3:=CS (fD.out.trans h3);clear h3 an;go_wp2_with fail
   refine(zfa B b (l'++[32]) Y w3 H3.out.1 (by simp;omega) (by omega) (by omega)).mono ?_;rintro e w4 ⟨rfl,h4⟩;have en:=h4.sz;have an:=h4.blk gb.out (by omega) (by decide);obtain⟨p0,p1,p2,p3,s0,s1,s2,s3,hlx4⟩:=zaa an;have lN:=CS an;have nY:=CS (h4.rd qo.out HS.out);have vB:=CS (h4.tab eR.out hB);have C4:Hid (∀i,w4.cell? ⟨g,i,none⟩=wr.cell? ⟨g,i,none⟩):=CS (λi=>(World.cell?_of_block (w:=w3) (w':=w4) (a:=⟨g,i,none⟩) (h4.2.1.block g hgB)).trans ((C3.out i).trans (C0.out i)));have e0':=(C4.out 0).trans e0;have e1':=(C4.out 1).trans e1;have e2':=(C4.out 2).trans e2;have e3':=(C4.out 3).trans e3;have H4:=CS (H3.out.trans h4);clear h4 an e0 e1 e2 e3;go_wp2_with fail
   go_roundg u2.size
   case measure=>omega
   case rel =>
    have hcz:l'++[32]++Y.data.toList++za2 u2=R:=by rw[HY.out];exact nH.out
    have cC:∀k,k<B->((((w4.setCell ⟨w.heap.size,0,none⟩ (.int .i64 K1)).setCell ⟨w.heap.size,1,none⟩ (.string X1)).setCell ⟨w.heap.size,2,none⟩ (.int .i64 Z1)).setCell ⟨w.heap.size,3,none⟩ (.slice A1 n1 c1)).heap[k]?=w4.heap[k]?:=λk hk=>zat _ _ _ _ _ _ _ (by omega);refine⟨u2,l'++[32]++Y.data.toList,K1,X1,Z1,A1,n1,c1,rfl,zah _ _ _ _ lN.out,nY.out.keep (λ_ h=>h) (λg hg=>cC g (HS.out g hg)),zkC H4.out _ _ _ _ (by omega) (Ai _) (by omega) lN.out (by decide),?_,CS hcz,.inr (by omega),by omega,iB.out,vB.out.keep (cC _ hB)⟩;rw[zkB];omega
  |false =>
   have hun2:u.size<=n:=by rcases hor with h|h;cases h;exact h
   have eX:=zo8 u hq;have nH:Hid (l'++[46,32]++u.print=R):=CS (by rw[<-fJ.out,eX];simp);have hlu:l'.length+2+u.print.length<=10000000000:=by rw[eX]at e9;simp at e9;omega
   clear hq hor eX e9 fJ;go_wp2_with fail
   refine hF.mono ?_;rintro e w2 ⟨rfl,b2⟩;have bk:=b2.size;have bQ:=CS (eJ.out.below b2 di);have fD:=CS (HWP.out.below (by omega) b2);have iO:=CS (cF.out.keep (λ_ h=>h) (λg hg=>b2.block g (by have:=HS.out g hg;omega)));have l7:=CS (HTB.out.below b2);clear b2 hF;go_wp2_with fail
   refine(zfa B b l' ⟨#[46,32]⟩ w2 fD.out.1 (by omega) (by decide) (by omega)).mono ?_;rintro e w3 ⟨rfl,h3⟩;have cY:=h3.sz;have an:=h3.blk bQ.out (by omega) (by decide);obtain⟨p0,p1,p2,p3,s0,s1,s2,s3,sP⟩:=zaa an;have HV3:=CS (h3.rd iO.out HS.out);have eR:=CS (h3.tab l7.out hB);have H3:=CS (fD.out.trans h3);clear h3 an;go_wp2_with fail
   refine(vw.out u 0 0 S _ B b _ w3 rfl (by decide) hun2 h6 iP.out HV3.out HS.out H3.out.1 hB eR.out (by rw[zeP];simp;omega)).mono ?_;rintro e w4 ⟨rfl,h4⟩;have H4:=CS (H3.out.trans h4);clear h4;go_wp2_with fail
   first|go_end0|refine bodyPost_ret (results_none rfl _ _ _) rfl ?_
   refine⟨rfl,?_⟩;have:=H4.out;rw[zeP]at this
   have e:l'++(⟨#[46,32]⟩:ByteArray).data.toList++u.print=R:=nH.out;rwa [e]at this
end Go.Proofs.YtfafilmklhnngaaGreatDoor
namespace Go.Proofs.YtfafilmklhnngaaGreatDoor
open Go.RowKit Lx Tx
set_option maxRecDepth 100000
structure WIn (n:Nat) (t:Ty) (S:Nat->Prop) (v:Value) (B b:Nat) (l:List UInt8) (w:World):Prop where
 size:t.size<=n
 max:n<=1000001
 nm:Nm t
 rd:RdV S w t v
 lt:∀g,S g->g<B
 bld:Bld B b l w
 glob:0<B
 tab:Tab w
 len:l.length+t.print.length<=10000000000
theorem zo9(k:Nat)(S:Nat->Prop)(v:Value)(B b:Nat)(l:List UInt8)(w:World)(h:WIn 1000001 (.mt k) S v B b l w):Calls Tryz.prog 137 #[v,.pointer (some ⟨b,0,none⟩)] w λe w'=>e=.returned (.tuple #[])/\WPost B b (l++(Ty.mt k).print) w w':=by
 obtain⟨qg,dM⟩:=h.bld.lt;obtain⟨A,c,rfl,-⟩:=h.rd;have hk:k<=999999:=by cases h.nm;assumption
 have hlen:l.length+1+(dec k).length<=10000000000:=by have:=h.len;rw[Ty.print]at this;simp at this;omega
 have hd:(dec k).length<=20:=zdj 20 20 k (by omega) (by decide);rw[Ty.print]
 have vK:=CS h.bld;have HT:=CS h.tab;have hB:=h.glob;have iy:=CS ((WPost.refl h.bld).below (by omega) ((Below.refl _ w).alloc (Ai _) (.cells #[.int .i64 2,.string ⟨#[]⟩,.int .i64 (k:Nat),.slice A 0 c] 37)));have e0:(Value.agg #[.int .i64 (kd (.mt k):Nat),.string (nmB (.mt k)),.int .i64 (nn (.mt k):Nat),.slice A (kids (.mt k)).length c])=.agg #[.int .i64 2,.string ⟨#[]⟩,.int .i64 (k:Nat),.slice A 0 c]:=rfl;rw[e0]
 clear h e0;go_enter Tryz.func137,Tryz.ntmps137
 go_wp2_with fail
 refine(zf2 B b l 63 63 rfl _ iy.out.1 (by omega) (by simp;omega)).mono ?_;rintro e w1 ⟨rfl,h1⟩;have aF:=h1.sz;simp at aF;have an:=h1.blk (heap_alloc_new w (.cells #[.int .i64 2,.string ⟨#[]⟩,.int .i64 (k:Nat),.slice A 0 c] 37)) (by omega) (by decide);obtain⟨p0,p1,p2,p3,s0,s1,s2,s3,di⟩:=zaa an;have H1:=CS (iy.out.trans h1);have oP:=CS (H1.out.tab HT.out hB);clear h1 an;go_wp2_with fail
 refine(zjO k w1 (by omega) oP.out).mono ?_;rintro e w2 ⟨rfl,b2⟩;have bk:=b2.size;have H2:=CS (H1.out.below (by omega) b2);obtain⟨D,hD⟩:∃D:ByteArray,⟨(dec k).toArray⟩=D:=⟨_,rfl⟩;have HD:Hid (D.data.toList=dec k):=CS (by rw[<-hD]);have hDs:D.size<=20:=by rw[Lib.size_eq,HD.out];exact hd
 rw[hD]
 clear b2 hD;go_wp2_with fail
 refine(zfa B b (l++[63]) D w2 H2.out.1 (by simp;omega) (by omega) (by omega)).mono ?_;rintro e w3 ⟨rfl,h3⟩;have H3:=CS (H2.out.trans h3);clear h3;go_wp2_with fail
 first|go_end0|refine bodyPost_ret (results_none rfl _ _ _) rfl ?_
 refine⟨rfl,?_⟩;have:=H3.out;rwa [HD.out,show l++[63]++dec k=l++63::dec k by simp]at this
theorem zpa(n:Nat)(HW:WWr n)(x y:Ty)(S:Nat->Prop)(v:Value)(B b:Nat)(l:List UInt8)(w:World)(h6:n<=1000000)(h:WIn (n+1) (.fn x y) S v B b l w):Calls Tryz.prog 137 #[v,.pointer (some ⟨b,0,none⟩)] w λe w'=>e=.returned (.tuple #[])/\WPost B b (l++(Ty.fn x y).print) w w':=by
 obtain⟨qg,dM⟩:=h.bld.lt;obtain⟨A,c,rfl,ha⟩:=h.rd;have aD:=h.size;rw[Ty.size]at aD
 obtain⟨gH,fw⟩:Nm x/\Nm y:=by cases h.nm;exact⟨by assumption,by assumption⟩
 have eX:(Ty.fn x y).print=outW x 1++[32,45,62,32]++outW y 0:=by rw[Ty.print,zpR,zeP]
 have hlen:=h.len;rw[eX]at hlen
 simp only[Ap,Ao,Be]at hlen;rw[eX]
 rw[Args]at ha
 obtain⟨g,rfl,hg,⟨A1,c1,bc,tn⟩,⟨A2,c2,cw,tm⟩⟩:=ha;obtain⟨K1,X1,Z1,n1,e0,e1,e2,e3,bE,-,-⟩:=zdG bc tn;obtain⟨K2,X2,Z2,n2,f0,f1,f2,f3,cR,-,-⟩:=zdG cw tm;have uX:=zbV e0;replace e1:w.cell? ⟨g,1,none⟩=some (.string X1):=e1;replace e2:w.cell? ⟨g,2,none⟩=some (.int .i64 Z1):=e2;replace e3:w.cell? ⟨g,3,none⟩=some (.slice A1 n1 c1):=e3;have hgB:=h.lt g hg;have HS:=CS h.lt;have HT:=CS h.tab;have hB:=h.glob;have iy:=CS ((WPost.refl h.bld).below (by omega) ((Below.refl _ w).alloc (Ai _) (.cells #[.int .i64 4,.string ⟨#[]⟩,.int .i64 0,.slice (some ⟨g,0,none⟩) 2 c] 37)));have bY:=CS (iy.out.rd bE h.lt);have eE:=CS cR;have kf:=CS gH;have iB:=CS fw;have vw:=CS HW;have ph:(Value.agg #[.int .i64 (kd (.fn x y):Nat),.string (nmB (.fn x y)),.int .i64 (nn (.fn x y):Nat),.slice (some ⟨g,0,none⟩) (kids (.fn x y)).length c])=.agg #[.int .i64 4,.string ⟨#[]⟩,.int .i64 0,.slice (some ⟨g,0,none⟩) 2 c]:=rfl;rw[ph]
 have HF:Hid (w.cell? ⟨g,4,none⟩=some (.int .i64 K2)/\w.cell? ⟨g,5,none⟩=some (.string X2)/\w.cell? ⟨g,6,none⟩=some (.int .i64 Z2)/\w.cell? ⟨g,7,none⟩=some (.slice A2 n2 c2)):=CS ⟨f0,f1,f2,f3⟩;clear h ph bE cR gH fw HW bc cw tn tm f0 f1 f2 f3 eX;go_enter Tryz.func137,Tryz.ntmps137
 go_wp2_with fail
 refine(vw.out x 1 1 S _ B b l _ rfl (by decide) (by omega) h6 kf.out bY.out HS.out iy.out.1 hB (HT.out.alloc _) (by omega)).mono ?_;rintro e w1 ⟨rfl,h1⟩;have aF:=h1.sz;simp at aF;have an:=h1.blk (heap_alloc_new w (.cells #[.int .i64 4,.string ⟨#[]⟩,.int .i64 0,.slice (some ⟨g,0,none⟩) 2 c] 37)) (by omega) (by decide);have H1:=CS (iy.out.trans h1);have bN:=CS an;clear h1 an e0 e1 e2 e3;go_wp2_with fail
 refine(zfa B b _ ⟨#[32,45,62,32]⟩ w1 H1.out.1 (by simp;omega) (by decide) (by omega)).mono ?_;rintro e w2 ⟨rfl,h2⟩;have bk:=h2.sz;have an:=h2.blk bN.out (by omega) (by decide);obtain⟨p0,p1,p2,p3,s0,s1,s2,s3,di⟩:=zaa an;have H2:=CS (H1.out.trans h2);have HR22:=CS (H2.out.rd eE.out HS.out);have l7:=CS (H2.out.tab HT.out hB);have xW:=λi=>World.cell?_of_block (w:=w) (w':=w2) (a:=⟨g,i,none⟩) (H2.out.2.1.block g hgB);have f0:=(xW 4).trans HF.out.1;have f1:=(xW 5).trans HF.out.2.1;have f2:=(xW 6).trans HF.out.2.2.1;have f3:=(xW 7).trans HF.out.2.2.2;clear h2 an xW;go_wp2_with fail
 refine(vw.out y 0 0 S _ B b _ w2 rfl (by decide) (by omega) h6 iB.out HR22.out HS.out H2.out.1 hB l7.out (by
  simp only[Ap,Ao,Be];omega)).mono ?_
 rintro e w3 ⟨rfl,h3⟩;have H3:=CS (H2.out.trans h3);clear h3;go_wp2_with fail
 first|go_end0|refine bodyPost_ret (results_none rfl _ _ _) rfl ?_
 refine⟨rfl,?_⟩;have:=H3.out;rwa [show l++outW x 1++(⟨#[32,45,62,32]⟩:ByteArray).data.toList++outW y 0=l++(outW x 1++[32,45,62,32]++outW y 0) by simp]at this
theorem zkD(l:List Ty)(i:Nat)(u:Ty)(P:List UInt8)(a:List UInt8)(h:Hid (a++zaG (l.take i)=P))(hu:∃hi:i<l.length,l[i]=u):a++zaG (l.take (i+1))=P++[32]++outW u 2:=by
 obtain⟨hi,rfl⟩:=hu;rw[zkA l i hi,<-h.out]
 simp
def zqf(B b m:Nat)(a:List UInt8)(l:List Ty)(w:World)(gg:Nat)(vi:Value)(wr:World):Prop :=
 ∃i P,gg=m-i/\vi=.int .i64 (i:Nat)/\i<=m/\WPost B b P w wr/\w.heap.size<wr.heap.size/\Hid (a++zaG (l.take i)=P)/\Tab wr
theorem zil(n:Nat)(HW:WWr n)(t:Ty)(hk:kd t=1\/kd t=3)(S:Nat->Prop)(v:Value)(B b:Nat)(l:List UInt8)(w:World)(h6:n<=1000000)(h:WIn (n+1) t S v B b l w):Calls Tryz.prog 137 #[v,.pointer (some ⟨b,0,none⟩)] w λe w'=>e=.returned (.tuple #[])/\WPost B b (l++t.print) w w':=by
 obtain⟨qg,dM⟩:=h.bld.lt;obtain⟨K,X,Z,A,m,c,rfl,hK,hX,-,hm,ha⟩:=h.rd.parts;have d2:((K:Int)==2)=false:=by rw[hK];rcases hk with e|e <;> rw[e] <;> rfl
 have d4:((K:Int)==4)=false:=by rw[hK];rcases hk with e|e <;> rw[e] <;> rfl
 have hq:isA t=false:=by unfold isA;rcases hk with e|e <;> rw[e] <;> rfl
 have eX:t.print=X.data.toList++zaG (kids t):=by
  rw[hX]
  cases t with
  |var x=>rw[Ty.print,kids,zaG];simp[nmB]
  |con d l=>rw[Ty.print];rfl
  |mt k=>simp[kd]at hk
  |fn a b=>simp[kd]at hk
  |all x t=>simp[kd]at hk
 have hF:=λw hv=>zdH t S (.agg #[.int .i64 K,.string X,.int .i64 Z,.slice A m c]) w hv;rw[hq]at hF
 have hlen:=h.len;obtain⟨R,hR⟩:∃R,l++t.print=R:=⟨_,rfl⟩;have hRl:R.length<=10000000000:=by rw[<-hR];simpa using hlen
 have HR:Hid ((l++X.data.toList)++zaG (kids t)=R):=CS (by rw[<-hR,eX];simp);have yi:l.length+X.size<=10000000000:=by rw[eX,Ap,<-Lib.size_eq]at hlen;omega
 have dZ:m<=n:=by have:=zbw t;have:=h.size;omega
 rw[hR]
 have HS:=CS h.lt;have HT:=CS h.tab;have HV:=CS h.rd;have vw:=CS HW;have HA:=CS ha;have HM:=CS hm;have zh:=CS h.size;have bK:Hid (∀i (hi:i<(kids t).length),Nm (kids t)[i]):=CS λi hi=>zcH h.nm i hi;have hB:=h.glob;have iy:=CS ((WPost.refl h.bld).below (by omega) ((Below.refl _ w).alloc (Ai _) (.cells #[.int .i64 K,.string X,.int .i64 Z,.slice A m c] 37)));have HRA:Hid (RdV S (w.alloc (.cells #[.int .i64 K,.string X,.int .i64 Z,.slice A m c] 37)) t (.agg #[.int .i64 K,.string X,.int .i64 Z,.slice A m c])):=CS (iy.out.rd h.rd h.lt);clear h hK hX hm ha hk hq eX hR hlen HW;go_enter Tryz.func137,Tryz.ntmps137
 go_wp2_with fail
 refine(hF _ HRA.out).mono ?_;rintro e w1 ⟨rfl,b1⟩;have aF:=b1.size;simp at aF;have an:=Blk.below (heap_alloc_new w (.cells #[.int .i64 K,.string X,.int .i64 Z,.slice A m c] 37)) b1 (by simp);obtain⟨p0,p1,p2,p3,s0,s1,s2,s3,di⟩:=zaa an;have bN:=CS an;have H1:=CS (iy.out.below (by simp;omega) b1);clear b1 an hF;go_wp2_with fail
 refine(zfa B b l X w1 H1.out.1 (by omega) (by omega) (by omega)).mono ?_;rintro e w2 ⟨rfl,h2⟩;have bk:=h2.sz;have an:=h2.blk bN.out (by omega) (by decide);obtain⟨p0,p1,p2,p3,s0,s1,s2,s3,sQ⟩:=zaa an;have H2:=CS (H1.out.trans h2);have l7:=CS (H2.out.tab HT.out hB);clear h2 an;go_wp2_with fail
 go_loopg [13] m (λgg vi wr=>zqf B b m (l++X.data.toList) (kids t) w gg vi wr)
 case atStart=>exact⟨0,_,rfl,rfl,by omega,H2.out,by omega,CS (by rw[Ba,zaG,AU]),l7.out⟩
 case round =>
  obtain⟨i,P,rfl,rfl,hi,o8,ah,fJ,gS⟩:=hrel;have HWP:=CS o8;have HTB:=CS gS;have hbwr:=o8.1.lt;by_cases kR:i<m
  ·obtain⟨g,u,K1,X1,Z1,A1,n1,c1,rfl,hg,e0,e1,e2,e3,hu,aK,aD,-,-⟩:=zce (w':=wr) HA.out HM.out kR (λg hg=>o8.2.1.block g (HS.out g hg))
   have ik:=zbV e0;have cK:Nm u:=by obtain⟨fx,rfl⟩:=hu;exact bK.out i fx
   have iP:=CS cK;have qU:=CS (zkD _ _ _ _ _ fJ hu);have dw:P.length+1+(outW u 2).length<=10000000000:=by
    have h1:=Az List.length qU.out;have h2:=Az List.length HR.out;have h3:=zgF (kids t) (i+1);simp only[Ap,Ao,Be]at h1 h2;omega
   have ei:u.size<=n:=by have:=zh.out;omega
   have cF:=CS aK;have za:=CS (o8.below (by omega) ((Below.refl _ wr).alloc (Ai _) (.cells #[.int .i64 K1,.string X1,.int .i64 Z1,.slice A1 n1 c1] 37)));clear o8 gS hu aK cK;go_wp2_with fail
   refine(zf2 B b P 32 32 rfl _ za.out.1 (by omega) (by simp;omega)).mono ?_;rintro e w3 ⟨rfl,h3⟩;have cY:=h3.sz;simp at cY;have an:=h3.blk (heap_alloc_new wr (.cells #[.int .i64 K1,.string X1,.int .i64 Z1,.slice A1 n1 c1] 37)) (by omega) (by decide);obtain⟨q0,q1,q2,q3,y0,y1,y2,y3,uW⟩:=zaa an;have qn:=CS ((h3.rd (RdV.keep cF.out (λ_ h=>h) (λg hg=>Below.heap_alloc _ _ _ (by have:=HS.out g hg;omega))) HS.out));have H3:=CS (za.out.trans h3);have eR:=CS (h3.tab (HTB.out.alloc _) hB);clear h3 an e0 e1 e2 e3;go_wp2_with fail
   refine(vw.out u 2 2 S _ B b (P++[32]) w3 rfl (by decide) ei h6 iP.out qn.out HS.out H3.out.1 hB eR.out (by simp;omega)).mono ?_;rintro e w4 ⟨rfl,h4⟩;have en:=h4.sz;have H4:=CS (H3.out.trans h4);have vB:=CS (h4.tab eR.out hB);clear h4;go_wp2_with fail
   go_roundg (m-(i+1))
   case measure=>omega
   case rel=>exact⟨i+1,P++[32]++outW u 2,rfl,by go_num,by omega,H4.out,by omega,CS qU.out,vB.out⟩
  ·have aU:=CS (show P=R by rw[AK (by rw[HM.out];omega)]at fJ;rw[<-fJ.out,HR.out])
   clear o8 gS;go_wp2_with fail
   first|go_end0|refine bodyPost_ret (results_none rfl _ _ _) rfl ?_
   refine⟨rfl,?_⟩;have:=HWP.out;rwa [aU.out]at this
theorem znE(n:Nat)(HW:WWr n)(t:Ty)(hA:isA t=true)(S:Nat->Prop)(v:Value)(B b:Nat)(l:List UInt8)(w:World)(h6:n<=1000000)(h:WIn (n+1) t S v B b l w):Calls Tryz.prog 137 #[v,.pointer (some ⟨b,0,none⟩)] w λe w'=>e=.returned (.tuple #[])/\WPost B b (l++t.print) w w':=by
 obtain⟨qg,dM⟩:=h.bld.lt;obtain⟨K,X,Z,A,m,c,rfl,hK,-,-,hm,-⟩:=h.rd.parts;have aO:kd t=5:=by simpa[isA] using hA
 have d2:((K:Int)==2)=false:=by rw[hK,aO];rfl
 have d4:((K:Int)==4)=false:=by rw[hK,aO];rfl
 have hF:=λw hv=>zdH t S (.agg #[.int .i64 K,.string X,.int .i64 Z,.slice A m c]) w hv;rw[hA]at hF
 have zQ:=λw1 hv hb ht=>zgI n HW t S (.agg #[.int .i64 K,.string X,.int .i64 Z,.slice A m c]) B b l w1 hA h.size h6 h.nm hv h.lt hb h.glob ht h.len;have HS:=CS h.lt;have HT:=CS h.tab;have hB:=h.glob;have HFAH:=CS zQ;have iy:=CS ((WPost.refl h.bld).below (by omega) ((Below.refl _ w).alloc (Ai _) (.cells #[.int .i64 K,.string X,.int .i64 Z,.slice A m c] 37)));have HRA:Hid (RdV S (w.alloc (.cells #[.int .i64 K,.string X,.int .i64 Z,.slice A m c] 37)) t (.agg #[.int .i64 K,.string X,.int .i64 Z,.slice A m c])):=CS (iy.out.rd h.rd h.lt);clear h hK hm hA aO HW zQ;go_enter Tryz.func137,Tryz.ntmps137
 go_wp2_with fail
 refine(hF _ HRA.out).mono ?_;rintro e w1 ⟨rfl,b1⟩;have aF:=b1.size;simp at aF;have an:=Blk.below (heap_alloc_new w (.cells #[.int .i64 K,.string X,.int .i64 Z,.slice A m c] 37)) b1 (by simp);obtain⟨p0,p1,p2,p3,s0,s1,s2,s3,di⟩:=zaa an;have H1:=CS (iy.out.below (by simp;omega) b1);have bY:=CS (HRA.out.keep (λ_ h=>h) (λg hg=>b1.block g (by have:=HS.out g hg;simp;omega)));have oP:=CS ((HT.out.alloc _).below b1);clear b1 an hF;go_wp2_with fail
 refine(HFAH.out w1 bY.out H1.out.1 oP.out).mono ?_;rintro e w2 ⟨rfl,h2⟩;have H2:=CS (H1.out.trans h2);clear h2;go_wp2_with fail
 first|go_end0|refine bodyPost_ret (results_none rfl _ _ _) rfl ?_
 exact⟨rfl,H2.out⟩
theorem zkE(n:Nat):WBare n/\WWr n:=by
 induction n with
 |zero =>
  have hb:WBare 0:=λt S v B b l w hn=>by rw[zaj]at hn;omega
  exact⟨hb,zik 0 hb⟩
 |succ n ih =>
  have hb:WBare (n+1):=by
   intro t S v B b l w hn h6 az hv hS hb hB ht hlen;have h:WIn (n+1) t S v B b l w:=⟨hn,by omega,az,hv,hS,hb,hB,ht,hlen⟩;cases t with
   |var x=>exact zil n ih.2 _ (.inl rfl) S v B b l w (by omega) h
   |con d ts=>exact zil n ih.2 _ (.inr rfl) S v B b l w (by omega) h
   |mt k=>exact zo9 k S v B b l w { h with size:=by omega,max:=by omega }
   |fn x y=>exact zpa n ih.2 x y S v B b l w (by omega) h
   |all x t=>exact znE n ih.2 _ rfl S v B b l w (by omega) h
  exact⟨hb,zik (n+1) hb⟩
theorem znF(t:Ty)(S:Nat->Prop)(v:Value)(w:World)(hs:t.size<=1000000)(az:Nm t)(hv:RdV S w t v)(hS:∀g,S g->g<w.heap.size)(ht:Tab w)(hlen:t.print.length<=10000000000):Calls Tryz.prog 46 #[v] w λe w'=>e=.returned (.string ⟨t.print.toArray⟩)/\Below w.heap.size w w':=by
 obtain⟨K,X,Z,A,m,c,rfl,-,-,-,-,-⟩:=hv.parts;have HW:=CS (zkE 1000000).2;have HS:=CS hS;have HV:=CS hv;have hB:=ht.lt;have HT:=CS ht;have bK:=CS az;have HL:=CS hlen;have zh:=CS hs;have pS:=Lib.IsBuilderF.of (Lib.fresh_isBuilder 163 5 (w.alloc (.cells #[.int .i64 K,.string X,.int .i64 Z,.slice A m c] 37)));have e0:(w.alloc (.cells #[.int .i64 K,.string X,.int .i64 Z,.slice A m c] 37)).heap.size=w.heap.size+1:=by simp
 rw[e0]at pS
 have vK:Hid (Bld w.heap.size (w.heap.size+1) [] ((w.alloc (.cells #[.int .i64 K,.string X,.int .i64 Z,.slice A m c] 37)).alloc (.cells #[.pointer none,.slice none 0 0] 163))):=by
  refine CS ?_;have key:∀p,Lib.BuilderAtF 163 5 (w.heap.size+1) (w.heap.size+1) p [] ((w.alloc (.cells #[.int .i64 K,.string X,.int .i64 Z,.slice A m c] 37)).alloc (.cells #[.pointer none,.slice none 0 0] 163))->Lib.BuilderAtF 163 5 w.heap.size (w.heap.size+1) p [] ((w.alloc (.cells #[.int .i64 K,.string X,.int .i64 Z,.slice A m c] 37)).alloc (.cells #[.pointer none,.slice none 0 0] 163)):=by
   rintro p ⟨h1,v,h2,h3,h4⟩;refine⟨by omega,v,h2,⟨h3.1,?_⟩,h4⟩;rcases h3.2 with h|⟨g,cap,cur,fz,h5,h6,h7⟩
   ·exact .inl h
   ·exact .inr ⟨g,cap,cur,fz,h5,by omega,h7⟩
  rcases pS with h|h
  ·exact .inl (key _ h)
  ·exact .inr (key _ h)
 have iO:Hid (RdV S ((w.alloc (.cells #[.int .i64 K,.string X,.int .i64 Z,.slice A m c] 37)).alloc (.cells #[.pointer none,.slice none 0 0] 163)) t (.agg #[.int .i64 K,.string X,.int .i64 Z,.slice A m c])) :=
  CS (hv.keep (λ_ h=>h) (λg hg=>(Below.heap_alloc _ _ _ (by have:=hS g hg;simp;omega)).trans (Below.heap_alloc _ _ _ (hS g hg))))
 clear hS hv ht az hlen hs pS e0;go_enter Tryz.func46,Tryz.ntmps46
 go_wp2_with fail
 refine(HW.out t 0 0 S _ w.heap.size (w.heap.size+1) [] _ rfl (by decide) zh.out (by decide) bK.out iO.out HS.out vK.out hB ((HT.out.alloc _).alloc _) (by rw[zeP];simpa using HL.out)).mono ?_;rintro e w1 ⟨rfl,h1⟩;have H1:=CS h1;have aF:=h1.sz;simp at aF;clear h1;go_wp2_with fail
 refine(Tryz.Builder_String_any_k w.heap.size (w.heap.size+1) t.print w1 (by have:=H1.out.1;rw[zeP,AL]at this;exact this) (by omega)).mono ?_;rintro e w2 ⟨rfl,-,b2,-⟩;have B2:=CS b2;clear b2;go_wp2_with fail
 go_ret
 exact⟨rfl,(((Below.refl _ w).alloc (Ai _) _).alloc (by simp) _).trans (H1.out.2.1.trans B2.out)⟩
end Go.Proofs.YtfafilmklhnngaaGreatDoor
