/-
  Contracts of the code's functions, part 27.
-/
import Derived.Test.YtknkclefoiohpaaGreatDoorKbL
import Derived.Test.YtknkclefoiohpaaGreatDoorKbJ
import Derived.Test.YtknkclefoiohpaaGreatDoorKbQ
import Derived.Deep.LoopGhost
namespace Go.Proofs.YtknkclefoiohpaaGreatDoor
open Go.RowKit Lx Tx
set_option maxRecDepth 100000
def Tab(w:World):Prop:=Lib.TabIs Tryz.prog w "internal/strconv.uint64pow10" .u64 Lib.pow10Tab
theorem tab_glob:Tryz.prog.globalNamed "internal/strconv.uint64pow10" = some 0:=by kernel_rfl
theorem Tab.keep {w w':World}(h:Tab w)(hk:w'.heap[0]? = w.heap[0]?):Tab w':=by
 unfold Tab Lib.TabIs World.var? at h ⊢
 rw[tab_glob]at h ⊢
 simp only[Option.bind_some]at h ⊢
 rw[hk]
 exact h
theorem Tab.lt {w:World}(h:Tab w):0<w.heap.size:=by
 unfold Tab Lib.TabIs World.var? at h
 rw[tab_glob]at h
 simp only[Option.bind_some]at h
 refine Nat.lt_of_not_le λhl=>?_
 have e:w.heap[0]? = none:=Array.getElem?_eq_none hl
 rw[e]at h
 cases h
theorem Tab.below {w w':World}(h:Tab w)(hb:Below w.heap.size w w'):Tab w':=h.keep (hb.block _ h.lt)
theorem Tab.belowB {B:Nat} {w w':World}(h:Tab w)(hB:0<B)(hb:Below B w w'):Tab w':=h.keep (hb.block _ hB)
theorem Tab.alloc {w:World}(h:Tab w)(o:Obj):Tab (w.alloc o):=h.below ((Below.refl _ w).alloc (Nat.le_refl _) o)
theorem decF_lib(f n:Nat)(h:n<10 ^ f)(hf:1<=f):decF f n=Lib.decDigits n:=by
 induction f generalizing n with
 | zero=>omega
 | succ f ih =>
  rw[decF,Lib.decDigits]
  by_cases h1:n<10
  ·rw[if_pos h1,dif_pos h1,digit,Nat.mod_eq_of_lt h1]
  ·rw[if_neg h1,dif_neg h1,digit]
   have hf0:1<=f:=by
    cases f with
    | zero=>simp at h;omega
    | succ f=>omega
   rw[ih (n / 10) (by rw[Nat.div_lt_iff_lt_mul (by decide)];rw[Nat.pow_succ]at h;exact h) hf0]
theorem dec_lib(n:Nat)(h:n<10 ^ 20):dec n=Lib.decDigits n:=decF_lib 20 n h (by decide)
theorem itoa_dec(n:Nat)(h:n<10 ^ 20):Lib.itoa (n:Int)=dec n:=by rw[Lib.itoa_nonneg,dec_lib n h]
theorem below_grow(w:World)(os:Array Obj):Below w.heap.size w (Sort.grow w os) :=
 ⟨rfl,rfl,rfl,by show w.heap.size<=(w.heap++os).size;simp,λk hk=>by show(w.heap++os)[k]? = _;rw[Array.getElem?_append_left hk]⟩
theorem tc_itoa(n:Nat)(w:World)(hn:n<10 ^ 15)(ht:Tab w):Calls Tryz.prog 150 #[.int .i64 n] w λe w'=>e=.returned (.string ⟨(dec n).toArray⟩)/\Below w.heap.size w w':=by
 refine(Tryz.strconv_Itoa n (by omega) (by omega) w ht).mono ?_
 rintro e w' ⟨rfl,k,os,rfl⟩
 exact⟨by rw[itoa_dec n (by omega)],(Below.refl _ w |> λh=>(⟨h.os,h.tape,h.output,h.size,h.block⟩:Below w.heap.size w (w.drewN k))).trans (below_grow (w.drewN k) os)⟩
def isA(t:Ty):Bool:=kd t==5
theorem isA_ways(t:Ty):(isA t=true/\((kd t:Int)==5)=true/\(kids t).length=1)\/(isA t=false/\((kd t:Int)==5)=false):=by
 cases t <;> simp[isA,kd,kids]
set_option maxHeartbeats 400000 in
theorem tc_isForAll(t:Ty)(S:Nat->Prop)(v:Value)(w:World)(hv:RdV S w t v):Calls Tryz.prog 151 #[v] w λe w'=>e=.returned (.bool (isA t))/\Below w.heap.size w w':=by
 obtain⟨K,X,Z,A,m,c,rfl,hK,-,-,hm,-⟩:=hv.parts
 have hw:=isA_ways t
 rw[<-hK]at hw
 obtain⟨q,hq⟩:∃q,isA t=q:=⟨_,rfl⟩
 rw[hq]at hw ⊢
 rw[hm]at hw
 clear hK hm hv hq
 rcases hw with⟨rfl,d5,rfl⟩|⟨rfl,d5⟩
 ·go_enter Tryz.func151,Tryz.ntmps151
  go_wp2
  go_ret
  exact⟨rfl,(Below.refl _ w).alloc (Nat.le_refl _) _⟩
 ·go_enter Tryz.func151,Tryz.ntmps151
  go_wp2
  go_ret
  exact⟨rfl,(Below.refl _ w).alloc (Nat.le_refl _) _⟩
def mustP(t:Ty):Nat->Bool
 | 0=>false
 | 1=>t.isFA
 | _=>t.big
theorem must_ways(t:Ty)(p:Nat)(hp:p<=2):((kd t:Int)==4)=true/\mustP t p=(((p:Nat):Int) != 0)\/((kd t:Int)==4)=false/\((kd t:Int)==5)=true/\mustP t p=(((p:Nat):Int) != 0) \/
  ((kd t:Int)==4)=false/\((kd t:Int)==5)=false/\((kd t:Int)==3)=true/\mustP t p=(((p:Nat):Int)==2&&decide (0<(kids t).length)) \/
  ((kd t:Int)==4)=false/\((kd t:Int)==5)=false/\((kd t:Int)==3)=false/\mustP t p=false:=by
 have hp3:p=0\/p=1\/p=2:=by omega
 cases t with
 | var x=>exact .inr (.inr (.inr ⟨rfl,rfl,rfl,by rcases hp3 with rfl|rfl|rfl <;> rfl⟩))
 | mt x=>exact .inr (.inr (.inr ⟨rfl,rfl,rfl,by rcases hp3 with rfl|rfl|rfl <;> rfl⟩))
 | con d l=>exact .inr (.inr (.inl ⟨rfl,rfl,rfl,by rcases hp3 with rfl|rfl|rfl <;> cases l <;> simp[mustP,Ty.big,Ty.isFA,kids]⟩))
 | fn a b=>exact .inl ⟨rfl,by rcases hp3 with rfl|rfl|rfl <;> rfl⟩
 | all x t=>exact .inr (.inl ⟨rfl,rfl,by rcases hp3 with rfl|rfl|rfl <;> rfl⟩)
set_option maxHeartbeats 800000 in
theorem tc_must(t:Ty)(p:Nat)(P:Int)(hP:P=p)(hp:p<=2)(S:Nat->Prop)(v:Value)(w:World)(hv:RdV S w t v) :
  Calls Tryz.prog 106 #[v,.int .i64 P] w λe w'=>e=.returned (.bool (mustP t p))/\Below w.heap.size w w':=by
 subst hP
 obtain⟨K,X,Z,A,m,c,rfl,hK,-,-,hm,-⟩:=hv.parts
 have hw:=must_ways t p hp
 rw[<-hK]at hw
 obtain⟨q,hq⟩:∃q,mustP t p=q:=⟨_,rfl⟩
 rw[hq]at hw ⊢
 rw[hm]at hw
 clear hK hm hv hq
 rcases hw with⟨d4,hr⟩|⟨d4,d5,hr⟩|⟨d4,d5,d3,hr⟩|⟨d4,d5,d3,hr⟩
 ·have HR:=hidE hr
  clear hr
  go_enter Tryz.func106,Tryz.ntmps106
  go_wp2
  go_ret
  exact⟨ret_bool HR.out.symm,(Below.refl _ w).alloc (Nat.le_refl _) _⟩
 ·have HR:=hidE hr
  clear hr
  go_enter Tryz.func106,Tryz.ntmps106
  go_wp2
  go_ret
  exact⟨ret_bool HR.out.symm,(Below.refl _ w).alloc (Nat.le_refl _) _⟩
 ·by_cases h2:p=2
  ·subst h2
   by_cases hm0:0<m
   ·have HR:Hid (q=true):=hidE (by rw[hr];simp;omega)
    clear hr
    go_enter Tryz.func106,Tryz.ntmps106
    go_wp2
    go_ret
    exact⟨ret_bool HR.out.symm,(Below.refl _ w).alloc (Nat.le_refl _) _⟩
   ·have HR:Hid (q=false):=hidE (by rw[hr];simp;omega)
    clear hr
    go_enter Tryz.func106,Tryz.ntmps106
    go_wp2
    go_ret
    exact⟨ret_bool HR.out.symm,(Below.refl _ w).alloc (Nat.le_refl _) _⟩
  ·have d2:=neq_int p 2 2 rfl h2
   have HR:Hid (q=false):=hidE (by rw[hr,d2];simp)
   clear hr h2
   go_enter Tryz.func106,Tryz.ntmps106
   go_wp2
   go_ret
   exact⟨ret_bool HR.out.symm,(Below.refl _ w).alloc (Nat.le_refl _) _⟩
 ·have HR:=hidE hr
  clear hr
  go_enter Tryz.func106,Tryz.ntmps106
  go_wp2
  go_ret
  exact⟨ret_bool HR.out.symm,(Below.refl _ w).alloc (Nat.le_refl _) _⟩
end Go.Proofs.YtknkclefoiohpaaGreatDoor

namespace Go.Proofs.YtknkclefoiohpaaGreatDoor
open Go.RowKit Lx Tx
set_option maxRecDepth 100000
def outW(t:Ty)(p:Nat):List UInt8:=if mustP t p=true then 40::(t.print++[41]) else t.print
theorem outW_0(t:Ty):outW t 0=t.print:=by simp[outW,mustP]
theorem outW_1(t:Ty):outW t 1=(if t.isFA then 40::(t.print++[41]) else t.print):=by simp[outW,mustP]
theorem outW_2(t:Ty):outW t 2=(if t.big then 40::(t.print++[41]) else t.print):=by simp[outW,mustP]
theorem printL_out(l:List Ty)(i:Nat)(hi:i<l.length):printL (l.take (i+1))=printL (l.take i)++[32]++outW l[i] 2:=by
 rw[printL_take l i hi,outW_2]
 split <;> simp
def WBare(n:Nat):Prop :=
 ∀(t:Ty) (S:Nat->Prop) (v:Value) (B b:Nat) (l:List UInt8) (w:World),t.size<=n->n<=1000000000000->Nm t->RdV S w t v->(∀g,S g->g<B)->Bld B b l w->0<B->Tab w->l.length+t.print.length<=50000000000000 ->
  Calls Tryz.prog 107 #[v,.pointer (some ⟨b,0,none⟩)] w λe w'=>e=.returned (.tuple #[])/\WPost B b (l++t.print) w w'
def WWr(n:Nat):Prop :=
 ∀(t:Ty) (p:Nat) (P:Int) (S:Nat->Prop) (v:Value) (B b:Nat) (l:List UInt8) (w:World),P=p->p<=2->t.size<=n->n<=1000000000000->Nm t->RdV S w t v->(∀g,S g->g<B)->Bld B b l w->0<B->Tab w->l.length+(outW t p).length<=50000000000000 ->
  Calls Tryz.prog 56 #[v,.pointer (some ⟨b,0,none⟩),.int .i64 P] w λe w'=>e=.returned (.tuple #[])/\WPost B b (l++outW t p) w w'
theorem WPost.rd {S:Nat->Prop} {B b:Nat} {l:List UInt8} {w w1:World} {t:Ty} {v:Value}(h:WPost B b l w w1)(hr:RdV S w t v)(hS:∀g,S g->g<B):RdV S w1 t v :=
 hr.keep (λ_ h=>h) (λg hg=>h.2.1.block g (hS g hg))
theorem WPost.tab {B b:Nat} {l:List UInt8} {w w1:World}(h:WPost B b l w w1)(ht:Tab w)(hB:0<B):Tab w1:=ht.belowB hB h.2.1
theorem WPost.sz {B b:Nat} {l:List UInt8} {w w1:World}(h:WPost B b l w w1):w.heap.size<=w1.heap.size:=h.2.1.size
set_option maxHeartbeats 1600000 in
theorem tc_write(n:Nat)(HB:WBare n):WWr n:=by
 intro t p P S v B b l w hP hp hn h6 hnm hv hS hb hB ht hlen
 subst hP
 obtain⟨hBb,hbw⟩:=hb.lt
 have hM:=λw hv=>tc_must t p p rfl hp S v w hv
 have HC:=λ(l:List UInt8) (w:World) hv hb ht hlen=>HB t S v B b l w hn h6 hnm hv hS hb hB ht hlen
 unfold outW at hlen ⊢
 obtain⟨q,hq⟩:∃q,mustP t p=q:=⟨_,rfl⟩
 rw[hq]at hM hlen ⊢
 obtain⟨K,X,Z,A,m,c,rfl,-,-,-,-,-⟩:=hv.parts
 have HS:=hidE hS
 have HV:=hidE hv
 have HBL:=hidE hb
 have HT:=hidE ht
 have HM:=hidE hM
 have HHC:=hidE HC
 have hrd1:Hid (RdV S (w.alloc (.cells #[.int .i64 K,.string X,.int .i64 Z,.slice A m c] 35)) t (.agg #[.int .i64 K,.string X,.int .i64 Z,.slice A m c])) :=
  hidE (hv.keep (λ_ h=>h) (λg hg=>Below.heap_alloc _ _ _ (by have:=hS g hg;omega)))
 clear hS hv hb ht hM HC hq HB hn hnm
 go_enter Tryz.func56,Tryz.ntmps56
 go_wp2_with fail
 refine(HM.out _ hrd1.out).mono ?_
 rintro e w1 ⟨rfl,b1⟩
 have hs1:=b1.size
 simp at hs1
 have hbk:=Blk.below (heap_alloc_new w (.cells #[.int .i64 K,.string X,.int .i64 Z,.slice A m c] 35)) b1 (by simp)
 obtain⟨p0,p1,p2,p3,s0,s1,s2,s3,hlx⟩:=blk_facts4 hbk
 have bel:=below_pre b1 (Nat.le_refl _)
 have HBK:=hidE hbk
 have HW1:=hidE ((WPost.refl HBL.out).below (by omega) bel)
 have HV1:=hidE (HV.out.keep (λ_ h=>h) (λg hg=>bel.block g (by have:=HS.out g hg;omega)))
 have HT1:=hidE (HT.out.below bel)
 clear hbk b1 bel
 cases q with
 | false =>
  simp only[Bool.false_eq_true,if_false]at hlen ⊢
  go_wp2_with fail
  refine(HHC.out l w1 HV1.out HW1.out.1 HT1.out hlen).mono ?_
  rintro e w2 ⟨rfl,h2⟩
  have H2:=hidE h2
  clear h2
  go_wp2_with fail
  first|go_end0|refine bodyPost_ret (results_none rfl _ _ _) rfl ?_
  exact⟨rfl,HW1.out.trans H2.out⟩
 | true =>
  simp only[if_true]at hlen ⊢
  have hl1:l.length+t.print.length+2<=50000000000000:=by simp at hlen;omega
  clear hlen
  go_wp2_with fail
  refine(tc_wb B b l 40 40 rfl w1 HW1.out.1 (by omega) (by omega)).mono ?_
  rintro e w2 ⟨rfl,h2⟩
  have hbk:=h2.blk HBK.out (by omega) (by decide)
  obtain⟨p0,p1,p2,p3,s0,s1,s2,s3,hlx2⟩:=blk_facts4 hbk
  have hs2:=h2.sz
  have HV2:=hidE (h2.rd HV1.out HS.out)
  have HT2:=hidE (h2.tab HT1.out hB)
  have H2:=hidE (HW1.out.trans h2)
  clear h2 hbk
  go_wp2_with fail
  refine(HHC.out (l++[40]) w2 HV2.out H2.out.1 HT2.out (by simp;omega)).mono ?_
  rintro e w3 ⟨rfl,h3⟩
  have hs3:=h3.sz
  have H3:=hidE (H2.out.trans h3)
  clear h3
  go_wp2_with fail
  refine(tc_wb B b _ 41 41 rfl w3 H3.out.1 (by simp;omega) (by omega)).mono ?_
  rintro e w4 ⟨rfl,h4⟩
  have H4:=hidE (H3.out.trans h4)
  clear h4
  go_wp2_with fail
  first|go_end0|refine bodyPost_ret (results_none rfl _ _ _) rfl ?_
  refine⟨rfl,?_⟩
  have:=H4.out
  rwa [show l++[40]++t.print++[41]=l++40::(t.print++[41]) by simp]at this
end Go.Proofs.YtknkclefoiohpaaGreatDoor

namespace Go.Proofs.YtknkclefoiohpaaGreatDoor
open Go.RowKit Lx Tx
set_option maxRecDepth 100000
theorem size_set4'(w:World)(g:Nat)(b0 b1 b2 b3:Value):((((w.setCell ⟨g,0,none⟩ b0).setCell ⟨g,1,none⟩ b1).setCell ⟨g,2,none⟩ b2).setCell ⟨g,3,none⟩ b3).heap.size=w.heap.size:=by simp
theorem isA_all(u:Ty)(h:isA u=true):∃y v,u=.all y v:=by
 cases u <;> simp[isA,kd]at h
 exact⟨_,_,rfl⟩
theorem isA_not(u:Ty)(h:isA u=false):printA u=[46,32]++u.print :=
 printA_other u (λy v e=>by rw[e]at h;simp[isA,kd]at h)
theorem wpost_set4 {B b g:Nat} {l:List UInt8} {w w1:World}(h:WPost B b l w w1) {cs:Array Value} {t:TypeId}(b0 b1 b2 b3:Value)(hB:B<=g)(hw:w.heap.size<=g)(hb:g≠b)(hk:Blk w1 g t cs)(ht:t≠5) :
  WPost B b l w ((((w1.setCell ⟨g,0,none⟩ b0).setCell ⟨g,1,none⟩ b1).setCell ⟨g,2,none⟩ b2).setCell ⟨g,3,none⟩ b3):=by
 have hk2:∀k,k≠g->((((w1.setCell ⟨g,0,none⟩ b0).setCell ⟨g,1,none⟩ b1).setCell ⟨g,2,none⟩ b2).setCell ⟨g,3,none⟩ b3).heap[k]? = w1.heap[k]?:=λk hk=>heap_set4 _ _ _ _ _ _ _ hk
 have hg:w1.grownBy ((((w1.setCell ⟨g,0,none⟩ b0).setCell ⟨g,1,none⟩ b1).setCell ⟨g,2,none⟩ b2).setCell ⟨g,3,none⟩ b3) (some g):=by
  have hb:Below 0 w1 ((((w1.setCell ⟨g,0,none⟩ b0).setCell ⟨g,1,none⟩ b1).setCell ⟨g,2,none⟩ b2).setCell ⟨g,3,none⟩ b3):=below_set4 (Below.refl 0 w1) _ _ _ _ (Nat.zero_le _)
  exact⟨hb.os,hb.tape,hb.output,hb.size,λi _ hi=>hk2 i (λe=>hi (by rw[e]))⟩
 refine⟨?_,below_set4 h.2.1 _ _ _ _ hB,λk o hk1 hkb hko=>?_⟩
 ·have key:∀p,Lib.BuilderAtF 88 5 B b p (Lib.byteCells l) w1->Lib.BuilderAtF 88 5 B b p (Lib.byteCells l) ((((w1.setCell ⟨g,0,none⟩ b0).setCell ⟨g,1,none⟩ b1).setCell ⟨g,2,none⟩ b2).setCell ⟨g,3,none⟩ b3):=by
   rintro p ⟨hB',v,hbk,hown,hne⟩
   refine⟨hB',v,(hk2 b (λe=>hb e.symm)).trans hbk,hown.kept hg ?_,hne⟩
   rcases hv:v.ownBlock with _|g'
   ·exact .inl rfl
   ·refine .inr λe=>?_
    injection e with e
    obtain⟨c,fz,hc⟩:=Lib.ownsRowF_kind hown g' hv
    rw[e]at hc
    rw[show w1.heap[g]? = _ from hk]at hc
    injection hc with hc
    injection hc with _ hc _
    exact ht hc
  rcases h.1 with h1|h1
  ·exact .inl (key _ h1)
  ·exact .inr (key _ h1)
 ·have hlt:k<w.heap.size:=(Array.getElem?_eq_some_iff.1 hk1).1
  rw[hk2 k (by omega)]
  exact h.2.2 k o hk1 hkb hko
def HeadF(S:Nat->Prop)(B b n:Nat)(R:List UInt8)(w:World)(gg:Nat)(wr:World):Prop :=
 ∃u l K X Z A m c,gg=u.size/\Blk wr w.heap.size 35 #[.int .i64 K,.string X,.int .i64 Z,.slice A m c]/\RdV S wr u (.agg #[.int .i64 K,.string X,.int .i64 Z,.slice A m c])/\WPost B b l w wr/\w.heap.size<wr.heap.size /\
  Hid (l++printA u=R)/\(isA u=true\/u.size<=n)/\u.size<=n+1/\Nm u/\Tab wr
set_option maxHeartbeats 3200000 in
theorem tc_writeForAll(n:Nat)(HW:WWr n)(t:Ty)(S:Nat->Prop)(v:Value)(B b:Nat)(l:List UInt8)(w:World)(hA:isA t=true)(hn:t.size<=n+1)(h6:n<=1000000000000)(hnm:Nm t)(hv:RdV S w t v)(hS:∀g,S g->g<B)
  (hb:Bld B b l w)(hB:0<B)(ht:Tab w)(hlen:l.length+t.print.length<=50000000000000) :
  Calls Tryz.prog 152 #[v,.pointer (some ⟨b,0,none⟩)] w λe w'=>e=.returned (.tuple #[])/\WPost B b (l++t.print) w w':=by
 obtain⟨hBb,hbw⟩:=hb.lt
 obtain⟨K,X,Z,A,m,c,rfl,-,-,-,-,-⟩:=hv.parts
 have hpr:t.print=wForall++printA t:=by
  obtain⟨y,u,rfl⟩:=isA_all t hA
  rw[Ty.print,printA_all];simp
 obtain⟨R,hR⟩:∃R,l++t.print=R:=⟨_,rfl⟩
 have hRl:R.length<=50000000000000:=by rw[<-hR];simpa using hlen
 have HR:Hid (l++wForall++printA t=R):=hidE (by rw[<-hR,hpr];simp)
 have hl0:l.length<=50000000000000:=by omega
 rw[hR]
 have HS:=hidE hS
 have HV:=hidE hv
 have HBL:=hidE hb
 have HT:=hidE ht
 have HWR:=hidE HW
 have HNM:=hidE hnm
 have HA:=hidE hA
 have hw0:=(WPost.refl hb).below (by omega) ((Below.refl _ w).alloc (Nat.le_refl _) (.cells #[.int .i64 K,.string X,.int .i64 Z,.slice A m c] 35))
 have HW0:=hidE hw0
 clear hS hv hb ht HW hnm hA hpr hR hlen hw0
 go_enter Tryz.func152,Tryz.ntmps152
 go_wp2_with fail
 refine(tc_ws B b l ⟨#[102,111,114,97,108,108]⟩ _ HW0.out.1 (by omega) (by decide) (by simp;omega)).mono ?_
 rintro e w1 ⟨rfl,h1⟩
 have hs1:=h1.sz
 simp at hs1
 have hbk:=h1.blk (heap_alloc_new w (.cells #[.int .i64 K,.string X,.int .i64 Z,.slice A m c] 35)) (by omega) (by decide)
 have H1:=hidE (HW0.out.trans h1)
 have HB1:=hidE hbk
 have HV1:=hidE (H1.out.rd HV.out HS.out)
 have HT1:=hidE (H1.out.tab HT.out hB)
 clear h1 hbk
 go_wp2_with fail
 go_loopg [7] t.size (λgg _ wr=>HeadF S B b n R w gg wr)
 case atStart=>exact⟨t,_,K,X,Z,A,m,c,rfl,HB1.out,HV1.out,H1.out,by omega,HR.out,.inl HA.out,hn,HNM.out,HT1.out⟩
 case round =>
  obtain⟨u,l',K',X',Z',A',m',c',hgg,hbk,hrd,hwp,hlt,hcat,hor,hun,hnm,htab⟩:=hrel
  have hl':l'.length+(printA u).length<=50000000000000:=by rw[<-List.length_append,hcat.out];exact hRl
  obtain⟨p0,p1,p2,p3,s0,s1,s2,s3,hlx⟩:=blk_facts4 hbk
  have hF:=tc_isForAll u S _ wr hrd
  obtain⟨q,hq⟩:∃q,isA u=q:=⟨_,rfl⟩
  rw[hq]at hF hor
  have HBK:=hidE hbk
  have HRD:=hidE hrd
  have HWP:=hidE hwp
  have HNU:=hidE hnm
  have HTB:=hidE htab
  clear hbk hrd hwp hnm htab
  cases q with
  | true =>
   obtain⟨y,u2,rfl⟩:=isA_all u hq
   have hcat2:Hid (l'++[32]++y++printA u2=R):=hidE (by rw[<-hcat.out,printA_all];simp)
   have hly:l'.length+1+y.length+(printA u2).length<=50000000000000:=by rw[printA_all]at hl';simp at hl';omega
   have hsu:(Ty.all y u2).size=u2.size+1:=by rw[Ty.size]
   have hnu2:Nm u2:=by cases HNU.out;assumption
   have HN2:=hidE hnu2
   obtain⟨-,rfl,rfl,g,rfl,hg,K1,X1,Z1,A1,n1,c1,e0,e1,e2,e3,hr1⟩:=all_open HRD.out
   obtain⟨Y,hY⟩:∃Y:ByteArray,⟨y.toArray⟩=Y:=⟨_,rfl⟩
   have HY:Hid (Y.data.toList=y):=hidE (by rw[<-hY])
   have hYs:Y.size=y.length:=by rw[Lib.size_eq,HY.out]
   have HR1:=hidE hr1
   have hgB:=HS.out g hg
   rw[hY]at p1 hF HBK HRD
   clear hq hor hcat hl' hr1 hnu2 hY
   go_wp2_with fail
   refine hF.mono ?_
   rintro e w2 ⟨rfl,b2⟩
   have hs2:=b2.size
   have HB2:=hidE (HBK.out.below b2 hlx)
   have HP2:=hidE (HWP.out.below (by omega) b2)
   have HR2:=hidE (HR1.out.keep (λ_ h=>h) (λg hg=>b2.block g (by have:=HS.out g hg;omega)))
   have HT2:=hidE (HTB.out.below b2)
   have C0:=hidE (λi=>World.cell?_of_block (w:=wr) (w':=w2) (a:=⟨g,i,none⟩) (b2.block g (by omega)))
   clear b2 hF
   go_wp2_with fail
   refine(tc_wb B b l' 32 32 rfl w2 HP2.out.1 (by omega) (by omega)).mono ?_
   rintro e w3 ⟨rfl,h3⟩
   have hs3:=h3.sz
   have hbk:=h3.blk HB2.out (by omega) (by decide)
   obtain⟨p0,p1,p2,p3,s0,s1,s2,s3,hlx3⟩:=blk_facts4 hbk
   have HB3:=hidE hbk
   have HR3:=hidE (h3.rd HR2.out HS.out)
   have HT3:=hidE (h3.tab HT2.out hB)
   have C3:=hidE (λi=>World.cell?_of_block (w:=w2) (w':=w3) (a:=⟨g,i,none⟩) (h3.2.1.block g hgB))
   have H3:=hidE (HP2.out.trans h3)
   clear h3 hbk
   go_wp2_with fail
   refine(tc_ws B b (l'++[32]) Y w3 H3.out.1 (by simp;omega) (by omega) (by omega)).mono ?_
   rintro e w4 ⟨rfl,h4⟩
   have hs4:=h4.sz
   have hbk:=h4.blk HB3.out (by omega) (by decide)
   obtain⟨p0,p1,p2,p3,s0,s1,s2,s3,hlx4⟩:=blk_facts4 hbk
   have HB4:=hidE hbk
   have HR4:=hidE (h4.rd HR3.out HS.out)
   have HT4:=hidE (h4.tab HT3.out hB)
   have C4:Hid (∀i,w4.cell? ⟨g,i,none⟩=wr.cell? ⟨g,i,none⟩):=hidE (λi=>(World.cell?_of_block (w:=w3) (w':=w4) (a:=⟨g,i,none⟩) (h4.2.1.block g hgB)).trans ((C3.out i).trans (C0.out i)))
   have e0':=(C4.out 0).trans e0
   have e1':=(C4.out 1).trans e1
   have e2':=(C4.out 2).trans e2
   have e3':=(C4.out 3).trans e3
   have H4:=hidE (H3.out.trans h4)
   clear h4 hbk e0 e1 e2 e3
   go_wp2_with fail
   go_roundg u2.size
   case measure=>omega
   case rel =>
    have hcz:l'++[32]++Y.data.toList++printA u2=R:=by rw[HY.out];exact hcat2.out
    have hk2:∀k,k<B->((((w4.setCell ⟨w.heap.size,0,none⟩ (.int .i64 K1)).setCell ⟨w.heap.size,1,none⟩ (.string X1)).setCell ⟨w.heap.size,2,none⟩ (.int .i64 Z1)).setCell ⟨w.heap.size,3,none⟩ (.slice A1 n1 c1)).heap[k]? = w4.heap[k]?:=λk hk=>heap_set4 _ _ _ _ _ _ _ (by omega)
    refine⟨u2,l'++[32]++Y.data.toList,K1,X1,Z1,A1,n1,c1,rfl,blk_set4 _ _ _ _ HB4.out,HR4.out.keep (λ_ h=>h) (λg hg=>hk2 g (HS.out g hg)),wpost_set4 H4.out _ _ _ _ (by omega) (Nat.le_refl _) (by omega) HB4.out (by decide),?_,hidE hcz,.inr (by omega),by omega,HN2.out,HT4.out.keep (hk2 _ hB)⟩
    rw[size_set4'];omega
  | false =>
   have hun2:u.size<=n:=by rcases hor with h|h;cases h;exact h
   have hpr:=isA_not u hq
   have hcat2:Hid (l'++[46,32]++u.print=R):=hidE (by rw[<-hcat.out,hpr];simp)
   have hlu:l'.length+2+u.print.length<=50000000000000:=by rw[hpr]at hl';simp at hl';omega
   clear hq hor hpr hl' hcat
   go_wp2_with fail
   refine hF.mono ?_
   rintro e w2 ⟨rfl,b2⟩
   have hs2:=b2.size
   have HB2:=hidE (HBK.out.below b2 hlx)
   have HP2:=hidE (HWP.out.below (by omega) b2)
   have HV2:=hidE (HRD.out.keep (λ_ h=>h) (λg hg=>b2.block g (by have:=HS.out g hg;omega)))
   have HT2:=hidE (HTB.out.below b2)
   clear b2 hF
   go_wp2_with fail
   refine(tc_ws B b l' ⟨#[46,32]⟩ w2 HP2.out.1 (by omega) (by decide) (by omega)).mono ?_
   rintro e w3 ⟨rfl,h3⟩
   have hs3:=h3.sz
   have hbk:=h3.blk HB2.out (by omega) (by decide)
   obtain⟨p0,p1,p2,p3,s0,s1,s2,s3,hlx3⟩:=blk_facts4 hbk
   have HV3:=hidE (h3.rd HV2.out HS.out)
   have HT3:=hidE (h3.tab HT2.out hB)
   have H3:=hidE (HP2.out.trans h3)
   clear h3 hbk
   go_wp2_with fail
   refine(HWR.out u 0 0 S _ B b _ w3 rfl (by decide) hun2 h6 HNU.out HV3.out HS.out H3.out.1 hB HT3.out (by rw[outW_0];simp;omega)).mono ?_
   rintro e w4 ⟨rfl,h4⟩
   have H4:=hidE (H3.out.trans h4)
   clear h4
   go_wp2_with fail
   first|go_end0|refine bodyPost_ret (results_none rfl _ _ _) rfl ?_
   refine⟨rfl,?_⟩
   have:=H4.out
   rw[outW_0]at this
   have e:l'++(⟨#[46,32]⟩:ByteArray).data.toList++u.print=R:=hcat2.out
   rwa [e]at this
end Go.Proofs.YtknkclefoiohpaaGreatDoor

namespace Go.Proofs.YtknkclefoiohpaaGreatDoor
open Go.RowKit Lx Tx
set_option maxRecDepth 100000
structure WIn (n:Nat) (t:Ty) (S:Nat->Prop) (v:Value) (B b:Nat) (l:List UInt8) (w:World):Prop where
 size:t.size<=n
 max:n<=1000000000001
 nm:Nm t
 rd:RdV S w t v
 lt:∀g,S g->g<B
 bld:Bld B b l w
 glob:0<B
 tab:Tab w
 len:l.length+t.print.length<=50000000000000
set_option maxHeartbeats 1600000 in
theorem bare_mt(k:Nat)(S:Nat->Prop)(v:Value)(B b:Nat)(l:List UInt8)(w:World)(h:WIn 1000000000001 (.mt k) S v B b l w) :
  Calls Tryz.prog 107 #[v,.pointer (some ⟨b,0,none⟩)] w λe w'=>e=.returned (.tuple #[])/\WPost B b (l++(Ty.mt k).print) w w':=by
 obtain⟨hBb,hbw⟩:=h.bld.lt
 obtain⟨A,c,rfl,-⟩:=h.rd
 have hk:k<=999999:=by cases h.nm;assumption
 have hlen:l.length+1+(dec k).length<=50000000000000:=by have:=h.len;rw[Ty.print]at this;simp at this;omega
 have hd:(dec k).length<=20:=decF_len 20 20 k (by omega) (by decide)
 rw[Ty.print]
 have HBL:=hidE h.bld
 have HT:=hidE h.tab
 have hB:=h.glob
 have HW0:=hidE ((WPost.refl h.bld).below (by omega) ((Below.refl _ w).alloc (Nat.le_refl _) (.cells #[.int .i64 2,.string ⟨#[]⟩,.int .i64 (k:Nat),.slice A 0 c] 35)))
 have e0:(Value.agg #[.int .i64 (kd (.mt k):Nat),.string (nmB (.mt k)),.int .i64 (nn (.mt k):Nat),.slice A (kids (.mt k)).length c])=.agg #[.int .i64 2,.string ⟨#[]⟩,.int .i64 (k:Nat),.slice A 0 c]:=rfl
 rw[e0]
 clear h e0
 go_enter Tryz.func107,Tryz.ntmps107
 go_wp2_with fail
 refine(tc_wb B b l 63 63 rfl _ HW0.out.1 (by omega) (by simp;omega)).mono ?_
 rintro e w1 ⟨rfl,h1⟩
 have hs1:=h1.sz
 simp at hs1
 have hbk:=h1.blk (heap_alloc_new w (.cells #[.int .i64 2,.string ⟨#[]⟩,.int .i64 (k:Nat),.slice A 0 c] 35)) (by omega) (by decide)
 obtain⟨p0,p1,p2,p3,s0,s1,s2,s3,hlx⟩:=blk_facts4 hbk
 have H1:=hidE (HW0.out.trans h1)
 have HT1:=hidE (H1.out.tab HT.out hB)
 clear h1 hbk
 go_wp2_with fail
 refine(tc_itoa k w1 (by omega) HT1.out).mono ?_
 rintro e w2 ⟨rfl,b2⟩
 have hs2:=b2.size
 have H2:=hidE (H1.out.below (by omega) b2)
 obtain⟨D,hD⟩:∃D:ByteArray,⟨(dec k).toArray⟩=D:=⟨_,rfl⟩
 have HD:Hid (D.data.toList=dec k):=hidE (by rw[<-hD])
 have hDs:D.size<=20:=by rw[Lib.size_eq,HD.out];exact hd
 rw[hD]
 clear b2 hD
 go_wp2_with fail
 refine(tc_ws B b (l++[63]) D w2 H2.out.1 (by simp;omega) (by omega) (by omega)).mono ?_
 rintro e w3 ⟨rfl,h3⟩
 have H3:=hidE (H2.out.trans h3)
 clear h3
 go_wp2_with fail
 first|go_end0|refine bodyPost_ret (results_none rfl _ _ _) rfl ?_
 refine⟨rfl,?_⟩
 have:=H3.out
 rwa [HD.out,show l++[63]++dec k=l++63::dec k by simp]at this
set_option maxHeartbeats 1600000 in
theorem bare_fn(n:Nat)(HW:WWr n)(x y:Ty)(S:Nat->Prop)(v:Value)(B b:Nat)(l:List UInt8)(w:World)(h6:n<=1000000000000)(h:WIn (n+1) (.fn x y) S v B b l w) :
  Calls Tryz.prog 107 #[v,.pointer (some ⟨b,0,none⟩)] w λe w'=>e=.returned (.tuple #[])/\WPost B b (l++(Ty.fn x y).print) w w':=by
 obtain⟨hBb,hbw⟩:=h.bld.lt
 obtain⟨A,c,rfl,ha⟩:=h.rd
 have hsz:=h.size
 rw[Ty.size]at hsz
 obtain⟨hn1,hn2⟩:Nm x/\Nm y:=by cases h.nm;exact⟨by assumption,by assumption⟩
 have hpr:(Ty.fn x y).print=outW x 1++[32,45,62,32]++outW y 0:=by rw[Ty.print,outW_1,outW_0]
 have hlen:=h.len
 rw[hpr]at hlen
 simp only[List.length_append,List.length_cons,List.length_nil]at hlen
 rw[hpr]
 rw[Args]at ha
 obtain⟨g,rfl,hg,⟨A1,c1,hc1,ha1⟩,⟨A2,c2,hc2,ha2⟩⟩:=ha
 obtain⟨K1,X1,Z1,n1,e0,e1,e2,e3,hr1,-,-⟩:=cell4_parts hc1 ha1
 obtain⟨K2,X2,Z2,n2,f0,f1,f2,f3,hr2,-,-⟩:=cell4_parts hc2 ha2
 have hgw:=lt_cell e0
 replace e1:w.cell? ⟨g,1,none⟩=some (.string X1):=e1
 replace e2:w.cell? ⟨g,2,none⟩=some (.int .i64 Z1):=e2
 replace e3:w.cell? ⟨g,3,none⟩=some (.slice A1 n1 c1):=e3
 have hgB:=h.lt g hg
 have HS:=hidE h.lt
 have HT:=hidE h.tab
 have hB:=h.glob
 have HW0:=hidE ((WPost.refl h.bld).below (by omega) ((Below.refl _ w).alloc (Nat.le_refl _) (.cells #[.int .i64 4,.string ⟨#[]⟩,.int .i64 0,.slice (some ⟨g,0,none⟩) 2 c] 35)))
 have HR1:=hidE (HW0.out.rd hr1 h.lt)
 have HR2:=hidE hr2
 have HN1:=hidE hn1
 have HN2:=hidE hn2
 have HWR:=hidE HW
 have hv0:(Value.agg #[.int .i64 (kd (.fn x y):Nat),.string (nmB (.fn x y)),.int .i64 (nn (.fn x y):Nat),.slice (some ⟨g,0,none⟩) (kids (.fn x y)).length c])=.agg #[.int .i64 4,.string ⟨#[]⟩,.int .i64 0,.slice (some ⟨g,0,none⟩) 2 c]:=rfl
 rw[hv0]
 have HF:Hid (w.cell? ⟨g,4,none⟩=some (.int .i64 K2)/\w.cell? ⟨g,5,none⟩=some (.string X2)/\w.cell? ⟨g,6,none⟩=some (.int .i64 Z2)/\w.cell? ⟨g,7,none⟩=some (.slice A2 n2 c2)):=hidE ⟨f0,f1,f2,f3⟩
 clear h hv0 hr1 hr2 hn1 hn2 HW hc1 hc2 ha1 ha2 f0 f1 f2 f3 hpr
 go_enter Tryz.func107,Tryz.ntmps107
 go_wp2_with fail
 refine(HWR.out x 1 1 S _ B b l _ rfl (by decide) (by omega) h6 HN1.out HR1.out HS.out HW0.out.1 hB (HT.out.alloc _) (by omega)).mono ?_
 rintro e w1 ⟨rfl,h1⟩
 have hs1:=h1.sz
 simp at hs1
 have hbk:=h1.blk (heap_alloc_new w (.cells #[.int .i64 4,.string ⟨#[]⟩,.int .i64 0,.slice (some ⟨g,0,none⟩) 2 c] 35)) (by omega) (by decide)
 have H1:=hidE (HW0.out.trans h1)
 have HB1:=hidE hbk
 clear h1 hbk e0 e1 e2 e3
 go_wp2_with fail
 refine(tc_ws B b _ ⟨#[32,45,62,32]⟩ w1 H1.out.1 (by simp;omega) (by decide) (by omega)).mono ?_
 rintro e w2 ⟨rfl,h2⟩
 have hs2:=h2.sz
 have hbk:=h2.blk HB1.out (by omega) (by decide)
 obtain⟨p0,p1,p2,p3,s0,s1,s2,s3,hlx⟩:=blk_facts4 hbk
 have H2:=hidE (H1.out.trans h2)
 have HR22:=hidE (H2.out.rd HR2.out HS.out)
 have HT2:=hidE (H2.out.tab HT.out hB)
 have hce:=λi=>World.cell?_of_block (w:=w) (w':=w2) (a:=⟨g,i,none⟩) (H2.out.2.1.block g hgB)
 have f0:=(hce 4).trans HF.out.1
 have f1:=(hce 5).trans HF.out.2.1
 have f2:=(hce 6).trans HF.out.2.2.1
 have f3:=(hce 7).trans HF.out.2.2.2
 clear h2 hbk hce
 go_wp2_with fail
 refine(HWR.out y 0 0 S _ B b _ w2 rfl (by decide) (by omega) h6 HN2.out HR22.out HS.out H2.out.1 hB HT2.out (by
  simp only[List.length_append,List.length_cons,List.length_nil]
  omega)).mono ?_
 rintro e w3 ⟨rfl,h3⟩
 have H3:=hidE (H2.out.trans h3)
 clear h3
 go_wp2_with fail
 first|go_end0|refine bodyPost_ret (results_none rfl _ _ _) rfl ?_
 refine⟨rfl,?_⟩
 have:=H3.out
 rwa [show l++outW x 1++(⟨#[32,45,62,32]⟩:ByteArray).data.toList++outW y 0=l++(outW x 1++[32,45,62,32]++outW y 0) by simp]at this
theorem printL_cut(l:List Ty)(i:Nat)(u:Ty)(P:List UInt8)(a:List UInt8)(h:Hid (a++printL (l.take i)=P))(hu:∃hi:i<l.length,l[i]=u):a++printL (l.take (i+1))=P++[32]++outW u 2:=by
 obtain⟨hi,rfl⟩:=hu
 rw[printL_out l i hi,<-h.out]
 simp
def HeadC(B b m:Nat)(a:List UInt8)(l:List Ty)(w:World)(gg:Nat)(vi:Value)(wr:World):Prop :=
 ∃i P,gg=m-i/\vi=.int .i64 (i:Nat)/\i<=m/\WPost B b P w wr/\w.heap.size<wr.heap.size/\Hid (a++printL (l.take i)=P)/\Tab wr
set_option maxHeartbeats 3200000 in
theorem bare_app(n:Nat)(HW:WWr n)(t:Ty)(hk:kd t=1\/kd t=3)(S:Nat->Prop)(v:Value)(B b:Nat)(l:List UInt8)(w:World)(h6:n<=1000000000000)(h:WIn (n+1) t S v B b l w) :
  Calls Tryz.prog 107 #[v,.pointer (some ⟨b,0,none⟩)] w λe w'=>e=.returned (.tuple #[])/\WPost B b (l++t.print) w w':=by
 obtain⟨hBb,hbw⟩:=h.bld.lt
 obtain⟨K,X,Z,A,m,c,rfl,hK,hX,-,hm,ha⟩:=h.rd.parts
 have d2:((K:Int)==2)=false:=by rw[hK];rcases hk with e|e <;> rw[e] <;> rfl
 have d4:((K:Int)==4)=false:=by rw[hK];rcases hk with e|e <;> rw[e] <;> rfl
 have hq:isA t=false:=by unfold isA;rcases hk with e|e <;> rw[e] <;> rfl
 have hpr:t.print=X.data.toList++printL (kids t):=by
  rw[hX]
  cases t with
  | var x=>rw[Ty.print,kids,printL];simp[nmB]
  | con d l=>rw[Ty.print];rfl
  | mt k=>simp[kd]at hk
  | fn a b=>simp[kd]at hk
  | all x t=>simp[kd]at hk
 have hF:=λw hv=>tc_isForAll t S (.agg #[.int .i64 K,.string X,.int .i64 Z,.slice A m c]) w hv
 rw[hq]at hF
 have hlen:=h.len
 obtain⟨R,hR⟩:∃R,l++t.print=R:=⟨_,rfl⟩
 have hRl:R.length<=50000000000000:=by rw[<-hR];simpa using hlen
 have HR:Hid ((l++X.data.toList)++printL (kids t)=R):=hidE (by rw[<-hR,hpr];simp)
 have hXs:l.length+X.size<=50000000000000:=by rw[hpr,List.length_append,<-Lib.size_eq]at hlen;omega
 have hm6:m<=n:=by have:=kids_len t;have:=h.size;omega
 rw[hR]
 have HS:=hidE h.lt
 have HT:=hidE h.tab
 have HV:=hidE h.rd
 have HWR:=hidE HW
 have HA:=hidE ha
 have HM:=hidE hm
 have HSZ:=hidE h.size
 have HNM:Hid (∀i (hi:i<(kids t).length),Nm (kids t)[i]):=hidE λi hi=>nm_kid h.nm i hi
 have hB:=h.glob
 have HW0:=hidE ((WPost.refl h.bld).below (by omega) ((Below.refl _ w).alloc (Nat.le_refl _) (.cells #[.int .i64 K,.string X,.int .i64 Z,.slice A m c] 35)))
 have HRA:Hid (RdV S (w.alloc (.cells #[.int .i64 K,.string X,.int .i64 Z,.slice A m c] 35)) t (.agg #[.int .i64 K,.string X,.int .i64 Z,.slice A m c])):=hidE (HW0.out.rd h.rd h.lt)
 clear h hK hX hm ha hk hq hpr hR hlen HW
 go_enter Tryz.func107,Tryz.ntmps107
 go_wp2_with fail
 refine(hF _ HRA.out).mono ?_
 rintro e w1 ⟨rfl,b1⟩
 have hs1:=b1.size
 simp at hs1
 have hbk:=Blk.below (heap_alloc_new w (.cells #[.int .i64 K,.string X,.int .i64 Z,.slice A m c] 35)) b1 (by simp)
 obtain⟨p0,p1,p2,p3,s0,s1,s2,s3,hlx⟩:=blk_facts4 hbk
 have HB1:=hidE hbk
 have H1:=hidE (HW0.out.below (by simp;omega) b1)
 clear b1 hbk hF
 go_wp2_with fail
 refine(tc_ws B b l X w1 H1.out.1 (by omega) (by omega) (by omega)).mono ?_
 rintro e w2 ⟨rfl,h2⟩
 have hs2:=h2.sz
 have hbk:=h2.blk HB1.out (by omega) (by decide)
 obtain⟨p0,p1,p2,p3,s0,s1,s2,s3,hlx2⟩:=blk_facts4 hbk
 have H2:=hidE (H1.out.trans h2)
 have HT2:=hidE (H2.out.tab HT.out hB)
 clear h2 hbk
 go_wp2_with fail
 go_loopg [13] m (λgg vi wr=>HeadC B b m (l++X.data.toList) (kids t) w gg vi wr)
 case atStart=>exact⟨0,_,rfl,rfl,by omega,H2.out,by omega,hidE (by rw[List.take_zero,printL,List.append_nil]),HT2.out⟩
 case round =>
  obtain⟨i,P,rfl,rfl,hi,hwp,hlt,hcat,htab⟩:=hrel
  have HWP:=hidE hwp
  have HTB:=hidE htab
  have hbwr:=hwp.1.lt
  by_cases hlti:i<m
  ·obtain⟨g,u,K1,X1,Z1,A1,n1,c1,rfl,hg,e0,e1,e2,e3,hu,hrd,hsz,-,-⟩:=kid_cells2 (w':=wr) HA.out HM.out hlti (λg hg=>hwp.2.1.block g (HS.out g hg))
   have hgl:=lt_cell e0
   have hnu:Nm u:=by obtain⟨hi',rfl⟩:=hu;exact HNM.out i hi'
   have HNU:=hidE hnu
   have hnext:=hidE (printL_cut _ _ _ _ _ hcat hu)
   have hl2:P.length+1+(outW u 2).length<=50000000000000:=by
    have h1:=congrArg List.length hnext.out
    have h2:=congrArg List.length HR.out
    have h3:=printL_take_le (kids t) (i+1)
    simp only[List.length_append,List.length_cons,List.length_nil]at h1 h2
    omega
   have hszu:u.size<=n:=by have:=HSZ.out;omega
   have HRD:=hidE hrd
   have HW3:=hidE (hwp.below (by omega) ((Below.refl _ wr).alloc (Nat.le_refl _) (.cells #[.int .i64 K1,.string X1,.int .i64 Z1,.slice A1 n1 c1] 35)))
   clear hwp htab hu hrd hnu
   go_wp2_with fail
   refine(tc_wb B b P 32 32 rfl _ HW3.out.1 (by omega) (by simp;omega)).mono ?_
   rintro e w3 ⟨rfl,h3⟩
   have hs3:=h3.sz
   simp at hs3
   have hbk:=h3.blk (heap_alloc_new wr (.cells #[.int .i64 K1,.string X1,.int .i64 Z1,.slice A1 n1 c1] 35)) (by omega) (by decide)
   obtain⟨q0,q1,q2,q3,y0,y1,y2,y3,hly⟩:=blk_facts4 hbk
   have HRD3:=hidE ((h3.rd (RdV.keep HRD.out (λ_ h=>h) (λg hg=>Below.heap_alloc _ _ _ (by have:=HS.out g hg;omega))) HS.out))
   have H3:=hidE (HW3.out.trans h3)
   have HT3:=hidE (h3.tab (HTB.out.alloc _) hB)
   clear h3 hbk e0 e1 e2 e3
   go_wp2_with fail
   refine(HWR.out u 2 2 S _ B b (P++[32]) w3 rfl (by decide) hszu h6 HNU.out HRD3.out HS.out H3.out.1 hB HT3.out (by simp;omega)).mono ?_
   rintro e w4 ⟨rfl,h4⟩
   have hs4:=h4.sz
   have H4:=hidE (H3.out.trans h4)
   have HT4:=hidE (h4.tab HT3.out hB)
   clear h4
   go_wp2_with fail
   go_roundg (m-(i+1))
   case measure=>omega
   case rel=>exact⟨i+1,P++[32]++outW u 2,rfl,by go_num,by omega,H4.out,by omega,hidE hnext.out,HT4.out⟩
  ·have hend:=hidE (show P=R by rw[List.take_of_length_le (by rw[HM.out];omega)]at hcat;rw[<-hcat.out,HR.out])
   clear hwp htab
   go_wp2_with fail
   first|go_end0|refine bodyPost_ret (results_none rfl _ _ _) rfl ?_
   refine⟨rfl,?_⟩
   have:=HWP.out
   rwa [hend.out]at this
set_option maxHeartbeats 1600000 in
theorem bare_all(n:Nat)(HW:WWr n)(t:Ty)(hA:isA t=true)(S:Nat->Prop)(v:Value)(B b:Nat)(l:List UInt8)(w:World)(h6:n<=1000000000000)(h:WIn (n+1) t S v B b l w) :
  Calls Tryz.prog 107 #[v,.pointer (some ⟨b,0,none⟩)] w λe w'=>e=.returned (.tuple #[])/\WPost B b (l++t.print) w w':=by
 obtain⟨hBb,hbw⟩:=h.bld.lt
 obtain⟨K,X,Z,A,m,c,rfl,hK,-,-,hm,-⟩:=h.rd.parts
 have hk5:kd t=5:=by simpa[isA] using hA
 have d2:((K:Int)==2)=false:=by rw[hK,hk5];rfl
 have d4:((K:Int)==4)=false:=by rw[hK,hk5];rfl
 have hF:=λw hv=>tc_isForAll t S (.agg #[.int .i64 K,.string X,.int .i64 Z,.slice A m c]) w hv
 rw[hA]at hF
 have HFA:=λw1 hv hb ht=>tc_writeForAll n HW t S (.agg #[.int .i64 K,.string X,.int .i64 Z,.slice A m c]) B b l w1 hA h.size h6 h.nm hv h.lt hb h.glob ht h.len
 have HS:=hidE h.lt
 have HT:=hidE h.tab
 have hB:=h.glob
 have HFAH:=hidE HFA
 have HW0:=hidE ((WPost.refl h.bld).below (by omega) ((Below.refl _ w).alloc (Nat.le_refl _) (.cells #[.int .i64 K,.string X,.int .i64 Z,.slice A m c] 35)))
 have HRA:Hid (RdV S (w.alloc (.cells #[.int .i64 K,.string X,.int .i64 Z,.slice A m c] 35)) t (.agg #[.int .i64 K,.string X,.int .i64 Z,.slice A m c])):=hidE (HW0.out.rd h.rd h.lt)
 clear h hK hm hA hk5 HW HFA
 go_enter Tryz.func107,Tryz.ntmps107
 go_wp2_with fail
 refine(hF _ HRA.out).mono ?_
 rintro e w1 ⟨rfl,b1⟩
 have hs1:=b1.size
 simp at hs1
 have hbk:=Blk.below (heap_alloc_new w (.cells #[.int .i64 K,.string X,.int .i64 Z,.slice A m c] 35)) b1 (by simp)
 obtain⟨p0,p1,p2,p3,s0,s1,s2,s3,hlx⟩:=blk_facts4 hbk
 have H1:=hidE (HW0.out.below (by simp;omega) b1)
 have HR1:=hidE (HRA.out.keep (λ_ h=>h) (λg hg=>b1.block g (by have:=HS.out g hg;simp;omega)))
 have HT1:=hidE ((HT.out.alloc _).below b1)
 clear b1 hbk hF
 go_wp2_with fail
 refine(HFAH.out w1 HR1.out H1.out.1 HT1.out).mono ?_
 rintro e w2 ⟨rfl,h2⟩
 have H2:=hidE (H1.out.trans h2)
 clear h2
 go_wp2_with fail
 first|go_end0|refine bodyPost_ret (results_none rfl _ _ _) rfl ?_
 exact⟨rfl,H2.out⟩
theorem writes_all(n:Nat):WBare n/\WWr n:=by
 induction n with
 | zero =>
  have hb:WBare 0:=λt S v B b l w hn=>by rw[size_kids]at hn;omega
  exact⟨hb,tc_write 0 hb⟩
 | succ n ih =>
  have hb:WBare (n+1):=by
   intro t S v B b l w hn h6 hnm hv hS hb hB ht hlen
   have h:WIn (n+1) t S v B b l w:=⟨hn,by omega,hnm,hv,hS,hb,hB,ht,hlen⟩
   cases t with
   | var x=>exact bare_app n ih.2 _ (.inl rfl) S v B b l w (by omega) h
   | con d ts=>exact bare_app n ih.2 _ (.inr rfl) S v B b l w (by omega) h
   | mt k=>exact bare_mt k S v B b l w { h with size:=by omega,max:=by omega }
   | fn x y=>exact bare_fn n ih.2 x y S v B b l w (by omega) h
   | all x t=>exact bare_all n ih.2 _ rfl S v B b l w (by omega) h
  exact⟨hb,tc_write (n+1) hb⟩
set_option maxHeartbeats 1600000 in
theorem tc_printB(t:Ty)(S:Nat->Prop)(v:Value)(w:World)(hs:t.size<=1000000000000)(hnm:Nm t)(hv:RdV S w t v)(hS:∀g,S g->g<w.heap.size)(ht:Tab w)(hlen:t.print.length<=50000000000000) :
  Calls Tryz.prog 22 #[v] w λe w'=>e=.returned (.string ⟨t.print.toArray⟩)/\Below w.heap.size w w':=by
 obtain⟨K,X,Z,A,m,c,rfl,-,-,-,-,-⟩:=hv.parts
 have HW:=hidE (writes_all 1000000000000).2
 have HS:=hidE hS
 have HV:=hidE hv
 have hB:=ht.lt
 have HT:=hidE ht
 have HNM:=hidE hnm
 have HL:=hidE hlen
 have HSZ:=hidE hs
 have hfr:=Lib.IsBuilderF.of (Lib.fresh_isBuilder 88 5 (w.alloc (.cells #[.int .i64 K,.string X,.int .i64 Z,.slice A m c] 35)))
 have e0:(w.alloc (.cells #[.int .i64 K,.string X,.int .i64 Z,.slice A m c] 35)).heap.size=w.heap.size+1:=by simp
 rw[e0]at hfr
 have HBL:Hid (Bld w.heap.size (w.heap.size+1) [] ((w.alloc (.cells #[.int .i64 K,.string X,.int .i64 Z,.slice A m c] 35)).alloc (.cells #[.pointer none,.slice none 0 0] 88))):=by
  refine hidE ?_
  have key:∀p,Lib.BuilderAtF 88 5 (w.heap.size+1) (w.heap.size+1) p [] ((w.alloc (.cells #[.int .i64 K,.string X,.int .i64 Z,.slice A m c] 35)).alloc (.cells #[.pointer none,.slice none 0 0] 88))->Lib.BuilderAtF 88 5 w.heap.size (w.heap.size+1) p [] ((w.alloc (.cells #[.int .i64 K,.string X,.int .i64 Z,.slice A m c] 35)).alloc (.cells #[.pointer none,.slice none 0 0] 88)):=by
   rintro p ⟨h1,v,h2,h3,h4⟩
   refine⟨by omega,v,h2,⟨h3.1,?_⟩,h4⟩
   rcases h3.2 with h|⟨g,cap,cur,fz,h5,h6,h7⟩
   ·exact .inl h
   ·exact .inr ⟨g,cap,cur,fz,h5,by omega,h7⟩
  rcases hfr with h|h
  ·exact .inl (key _ h)
  ·exact .inr (key _ h)
 have HV2:Hid (RdV S ((w.alloc (.cells #[.int .i64 K,.string X,.int .i64 Z,.slice A m c] 35)).alloc (.cells #[.pointer none,.slice none 0 0] 88)) t (.agg #[.int .i64 K,.string X,.int .i64 Z,.slice A m c])) :=
  hidE (hv.keep (λ_ h=>h) (λg hg=>(Below.heap_alloc _ _ _ (by have:=hS g hg;simp;omega)).trans (Below.heap_alloc _ _ _ (hS g hg))))
 clear hS hv ht hnm hlen hs hfr e0
 go_enter Tryz.func22,Tryz.ntmps22
 go_wp2_with fail
 refine(HW.out t 0 0 S _ w.heap.size (w.heap.size+1) [] _ rfl (by decide) HSZ.out (by decide) HNM.out HV2.out HS.out HBL.out hB ((HT.out.alloc _).alloc _) (by rw[outW_0];simpa using HL.out)).mono ?_
 rintro e w1 ⟨rfl,h1⟩
 have H1:=hidE h1
 have hs1:=h1.sz
 simp at hs1
 clear h1
 go_wp2_with fail
 refine(Tryz.Builder_String_any_k w.heap.size (w.heap.size+1) t.print w1 (by have:=H1.out.1;rw[outW_0,List.nil_append]at this;exact this) (by omega)).mono ?_
 rintro e w2 ⟨rfl,-,b2,-⟩
 have B2:=hidE b2
 clear b2
 go_wp2_with fail
 go_ret
 exact⟨rfl,(((Below.refl _ w).alloc (Nat.le_refl _) _).alloc (by simp) _).trans (H1.out.2.1.trans B2.out)⟩
theorem tc_print(t:Ty)(S:Nat->Prop)(v:Value)(w:World)(hs:t.size<=1000000)(hnm:Nm t)(hv:RdV S w t v)(hS:∀g,S g->g<w.heap.size)(ht:Tab w)(hlen:t.print.length<=10000000000) :
  Calls Tryz.prog 22 #[v] w λe w'=>e=.returned (.string ⟨t.print.toArray⟩)/\Below w.heap.size w w' :=
 tc_printB t S v w (by omega) hnm hv hS ht (by omega)
end Go.Proofs.YtknkclefoiohpaaGreatDoor
