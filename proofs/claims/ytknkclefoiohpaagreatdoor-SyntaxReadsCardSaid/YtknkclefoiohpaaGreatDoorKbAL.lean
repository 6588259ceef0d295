/-
  Contracts of the code's functions, part 38.
-/
import Derived.Test.YtknkclefoiohpaaGreatDoorKbAI
import Derived.Test.YtknkclefoiohpaaGreatDoorKbAJ
import Derived.Test.YtknkclefoiohpaaGreatDoorKbJ
import Derived.Deep.WholeRow
import Derived.Deep.MidRow
import Derived.Shelf.Abstract
import Derived.Deep.RegionHeld3
import Derived.Deep.CutRange
namespace Go.Proofs.YtknkclefoiohpaaGreatDoor
open Go.RowKit Lx Tx Sx
set_option maxRecDepth 100000
theorem sepS_snoc:∀(l:List Nm)(y:Nm),sepS (l++[y])=sepS l++((if l=[] then[] else sSem)++y)
 | [],y=>by simp[sepS]
 | x::r,y=>by simp[sepS,List.flatMap_append]
theorem sepS_take {α:Type}(l:List α)(pr:α->List UInt8)(i:Nat)(x:α)(h:l[i]? = some x):sepS ((l.take (i+1)).map pr)=sepS ((l.take i).map pr)++((if i=0 then[] else sSem)++pr x):=by
 have hil:=(List.getElem?_eq_some_iff.1 h).1
 rw[List.take_add_one,h,List.map_append]
 show sepS (List.map pr (List.take i l)++[pr x])=_
 rw[sepS_snoc]
 by_cases h0:i=0
 ·subst h0;simp
 ·have:(l.take i).map pr≠[]:=by
   intro e
   have:=congrArg List.length e
   simp at this
   rcases this with h|h
   ·exact h0 h
   ·rw[h]at hil;simp at hil
  rw[if_neg this,if_neg h0]
theorem sepS_len {α:Type}(l:List α)(pr:α->List UInt8)(i:Nat):(sepS ((l.take i).map pr)).length<=(sepS (l.map pr)).length:=by
 cases l with
 | nil=>simp
 | cons x r =>
  cases i with
  | zero=>simp[sepS]
  | succ i =>
   simp only[List.take_succ_cons,List.map_cons,sepS,List.length_append]
   have hkey:∀(r:List α) (i:Nat),(((r.take i).map pr).flatMap λy=>sSem++y).length<=((r.map pr).flatMap λy=>sSem++y).length:=λr=>by
    induction r with
    | nil=>intro i;simp
    | cons y r ih =>
     intro i
     cases i with
     | zero=>simp
     | succ i=>have:=ih i;simp only[List.take_succ_cons,List.map_cons,List.flatMap_cons,List.length_append];omega
   exact Nat.add_le_add_left (hkey r i) _
theorem exC_shp(e:Ex)(P:Pls):∃(k:Int)(x:ByteArray)(t:Bool)(K:Int)(X:ByteArray)(Z:Int)(B:Option Addr)(m q:Nat)(KA:Option Addr)(kn kc:Nat)(LA:Option Addr)(ln lc:Nat),exC e P=[.int .i64 k,.string x,.bool t,.int .i64 K,.string X,.int .i64 Z,.slice B m q,.slice KA kn kc,.slice LA ln lc]:=by
 obtain⟨K,X,Z,B,m,q,hs⟩:=tyC_shape (tyE e) P.A P.a
 refine⟨(kdE e:Nat),⟨(nmE e).toArray⟩,toE e,K,X,Z,B,m,q,P.K,(kidsE e).length,(kidsE e).length+P.k,P.L,(altsE e).length,P.l,?_⟩
 rw[exC,hs]
 rfl
theorem alCs_one {S:Nat->Prop} {w:World} {a:Al} {cs:List Value}(h:pcA.Cs S w a cs):cs.length=11/\cs.toArray.all (·.oneCell')=true:=by
 refine⟨pcA.len h,?_⟩
 obtain⟨c,vs,b⟩:=a
 obtain⟨V,v,P,rfl,-⟩:=h
 obtain⟨k1,x1,t1,K1,X1,Z1,B1,m1,q1,KA1,kn1,kc1,LA1,ln1,lc1,hs⟩:=exC_shp b P
 rw[alC,hs]
 simp[Value.oneCell',Sx.strV]
set_option maxHeartbeats 6400000 in
theorem wr_SepAl(F:Nat)(ek:∀args w,(callFunc F args).run Tryz.prog w=.ok (.enter F args) w)(pr:Al->List UInt8)(l:List (Al))(S:Nat->Prop)(A:Option Addr)(m c:Nat)(B b:Nat)(l0:List UInt8)(w:World)(h:BldX B b l0 w)(hl:LstG pcA S w l A)(hm:l.length=m)(hm9:m<=100000)(hS:∀g,S g->g<B)(hlen:l0.length+(sepS (l.map pr)).length<=40000000000000)
  (HV:∀x∈l,∀(cs:List Value)(U:World)(l1:List UInt8),pcA.Cs S U x cs->WPX B b l1 w U->l1.length+(pr x).length<=40000000000000->Calls Tryz.prog F #[.pointer (some ⟨b,0,none⟩),.agg cs.toArray] U (PutP B b (l1++pr x) U)) :
  Calls Tryz.prog 173 #[.pointer (some ⟨b,0,none⟩),.slice A m c,.func (.func F) #[.pointer (some ⟨b,0,none⟩)] #[]] w (PutP B b (l0++sepS (l.map pr)) w):=by
 have HL:=hidE hl
 have HM:=hidE hm
 have HS:=hidE hS
 have HHV:=hidE HV
 have H0:=hidE (WPX.refl h)
 have hbl:=h.lt
 have HINF:Hid ((Tryz.prog.info? 170).map (·.size)=some 11):=hidE (by kernel_rfl)
 clear hl hm h hS HV
 go_enter Tryz.func173,Tryz.ntmps173
 go_wp2_with fail
 go_loopg [10] m (λgg vi wr=>∃i:Nat,gg=m-i/\vi=.int .i64 (i:Nat)/\i<=m/\Hid (WPX B b (l0++sepS ((l.take i).map pr)) w wr))
 case atStart=>exact⟨0,rfl,rfl,by omega,hidE (by simpa[sepS] using H0.out)⟩
 case round =>
  obtain⟨i,rfl,rfl,hi,hW⟩:=hrel
  have hsr:=hW.out.sz
  by_cases hlt:i<m
  ·obtain⟨x,hx⟩:∃x,l[i]? = some x:=⟨_,List.getElem?_eq_getElem (by rw[HM.out];exact hlt)⟩
   obtain⟨g,cs,rfl,hSg,hcs,hrow⟩:=HL.out.row i x hx
   have hgB:=HS.out g hSg
   have hkS:∀k,S k->wr.heap[k]? = w.heap[k]?:=λk hk=>hW.out.2.1.block k (HS.out k hk)
   obtain⟨hlen1,hone⟩:=alCs_one hcs
   have HROW:Hid (wr.rangeAt g (i*11) cs):=hidE (Lie.keep hrow (hkS g hSg))
   have HLEN:Hid ((Tryz.prog.info? 170).map (·.size)=some cs.length):=hidE (by rw[hlen1];exact HINF.out)
   have HLEN2:Hid ((Tryz.prog.info? 170).map (·.size)=some cs.toArray.size):=hidE (by rw[List.size_toArray,hlen1];exact HINF.out)
   have HZ:Hid ((#[.string ⟨#[]⟩,.slice none 0 0,.int .i64 0,.string ⟨#[]⟩,.bool false,.int .i64 0,.string ⟨#[]⟩,.int .i64 0,.slice none 0 0,.slice none 0 0,.slice none 0 0]:Array Value).size=cs.toArray.size):=hidE (by rw[show cs.toArray.size=11 by rw[List.size_toArray,hlen1]];rfl)
   have HONE:=hidE hone
   have hgl:g<wr.heap.size:=by omega
   have hmem:=List.mem_of_getElem? hx
   have hl1:=sepS_take l pr i x hx
   have hl2:=sepS_len l pr (i+1)
   rw[hl1]at hl2
   have ii0:(0:Int)<=(i:Int):=by omega
   have ii1:(i:Int)<(m:Int):=by omega
   obtain⟨Wx,hWx⟩:∃y,wr.alloc (.cells cs.toArray 170)=y:=⟨_,rfl⟩
   have hbx:Below wr.heap.size wr Wx:=hWx▸(Below.refl _ wr).alloc (Nat.le_refl _) _
   have hsx:wr.heap.size+1<=Wx.heap.size:=by rw[<-hWx];simp
   have HBX:Hid (Wx.heap[wr.heap.size]? = some (.cells cs.toArray 170 (0,0))):=hidE (hWx▸heap_alloc_new wr _)
   have HX:=hidE (hW.out.next hbx)
   have HCS:=hidE hcs
   have HST:=hidE hl1
   have hblx:=HX.out.1.lt
   have HMEM:=hidE hmem
   simp only[List.length_append]at hl2
   clear hx hSg hcs hrow hkS hlen1 hone hbx hl1 hmem
   by_cases h0:i=0
   ·subst h0
    have HC:=hidE (HHV.out x HMEM.out cs Wx (l0++sepS ((l.take 0).map pr)) (pcA.keep (λ_ h=>h) (λk hk=>HX.out.2.1.block k (HS.out k hk)) HCS.out) HX.out (by simp only[List.length_append];simp only[if_true,List.length_nil]at hl2;omega))
    go_wp2_with (first|((with_reducible refine wpList_load_mid ?_ 170 (.tmp 13) ?_ g 0 ?_ cs _ HROW.out Tryz.underlying170 ?_ HLEN.out ?_);(exact rfl);(exact rfl);(exact rfl);(exact rfl))|((with_reducible refine wpList_store_row ?_ 170 (.tmp 7) (.tmp 14) ?_ wr.heap.size cs.toArray ?_ ?_ 170 #[.string ⟨#[]⟩,.slice none 0 0,.int .i64 0,.string ⟨#[]⟩,.bool false,.int .i64 0,.string ⟨#[]⟩,.int .i64 0,.slice none 0 0,.slice none 0 0,.slice none 0 0] (heap_alloc_new wr _) HLEN2.out HZ.out HONE.out ?_);(exact rfl);(exact rfl);(exact rfl);(exact rfl);rw[World.setRow_alloc_new])|((with_reducible refine wpList_load_row ?_ 170 (.tmp 7) ?_ wr.heap.size ?_ 170 cs.toArray (0,0) _ HBX.out Tryz.underlying170 ?_ HLEN2.out ?_);(exact rfl);(exact rfl);(exact rfl);(exact rfl)))
    try rw[hWx]
    refine HC.out.mono ?_
    rintro e w3 ⟨rfl,h3⟩
    have HW3:=hidE (HX.out.trans h3)
    clear h3 HC
    go_wp2_with fail
    go_roundg (m-(0+1))
    case measure=>omega
    case rel=>exact⟨1,rfl,by go_num,by omega,hidE (by rw[HST.out];simpa[List.append_assoc] using HW3.out)⟩
   ·have d0:decide ((0:Int)<(i:Int))=true:=decide_eq_true (by omega)
    have d1:decide (0<i)=true:=decide_eq_true (by omega)
    rw[if_neg h0]at hl2
    simp only[sSem,List.length_cons,List.length_nil]at hl2
    have HP:=hidE (wr_put1 (WPX.refl HX.out.1) ⟨#[59,32]⟩ (by show(l0++sepS ((l.take i).map pr)).length+2<=_;simp only[List.length_append];omega))
    go_wp2_with (first|((with_reducible refine wpList_load_mid ?_ 170 (.tmp 13) ?_ g (i*11) ?_ cs _ HROW.out Tryz.underlying170 ?_ HLEN.out ?_);(exact rfl);(exact rfl);(exact rfl);(exact rfl))|((with_reducible refine wpList_store_row ?_ 170 (.tmp 7) (.tmp 14) ?_ wr.heap.size cs.toArray ?_ ?_ 170 #[.string ⟨#[]⟩,.slice none 0 0,.int .i64 0,.string ⟨#[]⟩,.bool false,.int .i64 0,.string ⟨#[]⟩,.int .i64 0,.slice none 0 0,.slice none 0 0,.slice none 0 0] (heap_alloc_new wr _) HLEN2.out HZ.out HONE.out ?_);(exact rfl);(exact rfl);(exact rfl);(exact rfl);rw[World.setRow_alloc_new]))
    try rw[hWx]
    refine HP.out.mono ?_
    rintro e w2 ⟨rfl,h2⟩
    have HB2:=hidE (h2.2.2 wr.heap.size _ HBX.out (by simp;omega) (λc fz e=>by injection e with e1 e2;revert e2;decide))
    have H2:=hidE (HX.out.trans h2)
    have hs2:=h2.sz
    have HC:=hidE (HHV.out x HMEM.out cs w2 (l0++sepS ((l.take i).map pr)++[59,32]) (pcA.keep (λ_ h=>h) (λk hk=>H2.out.2.1.block k (HS.out k hk)) HCS.out) H2.out (by simp only[List.length_append,List.length_cons,List.length_nil];omega))
    clear h2 HP
    go_wp2_with ((with_reducible refine wpList_load_row ?_ 170 (.tmp 7) ?_ wr.heap.size ?_ 170 cs.toArray (0,0) _ HB2.out Tryz.underlying170 ?_ HLEN2.out ?_);(exact rfl);(exact rfl);(exact rfl);(exact rfl))
    refine HC.out.mono ?_
    rintro e w3 ⟨rfl,h3⟩
    have HW3:=hidE (H2.out.trans h3)
    clear h3 HC
    go_wp2_with fail
    go_roundg (m-(i+1))
    case measure=>omega
    case rel=>exact⟨i+1,rfl,by go_num,by omega,hidE (by rw[HST.out,if_neg h0];simpa[sSem,List.append_assoc] using HW3.out)⟩
  ·have him:i=m:=by omega
   subst him
   have HF:Hid (WPX B b (l0++sepS (l.map pr)) w wr):=hidE (by have:=hW.out;rwa [List.take_of_length_le (by rw[HM.out];exact Nat.le_refl _)]at this)
   clear hW
   go_wp2_with fail
   first|go_end0|refine bodyPost_ret (results_none rfl _ _ _) rfl ?_
   exact⟨rfl,HF.out⟩
set_option maxHeartbeats 1600000 in
theorem wr_BraceAl(F:Nat)(ek:∀args w,(callFunc F args).run Tryz.prog w=.ok (.enter F args) w)(pr:Al->List UInt8)(l:List (Al))(S:Nat->Prop)(A:Option Addr)(m c:Nat)(B b:Nat)(l0:List UInt8)(w:World)(h:BldX B b l0 w)(hl:LstG pcA S w l A)(hm:l.length=m)(hm9:m<=100000)(hS:∀g,S g->g<B)(hlen:l0.length+(sepS (l.map pr)).length+2<=40000000000000)
  (HV:∀x∈l,∀(cs:List Value)(U:World)(l1:List UInt8),pcA.Cs S U x cs->WPX B b l1 w U->l1.length+(pr x).length<=40000000000000->Calls Tryz.prog F #[.pointer (some ⟨b,0,none⟩),.agg cs.toArray] U (PutP B b (l1++pr x) U)) :
  Calls Tryz.prog 145 #[.pointer (some ⟨b,0,none⟩),.slice A m c,.func (.func F) #[.pointer (some ⟨b,0,none⟩)] #[]] w (PutP B b (l0++123::(sepS (l.map pr)++[125])) w):=by
 have H0:=hidE (WPX.refl h)
 have HP:=hidE (wr_put1 (WPX.refl h) ⟨#[123]⟩ (by show l0.length+1<=_;omega))
 have HSEP:Hid (∀U,WPX B b (l0++[123]) w U->Calls Tryz.prog 173 #[.pointer (some ⟨b,0,none⟩),.slice A m c,.func (.func F) #[.pointer (some ⟨b,0,none⟩)] #[]] U (PutP B b (l0++[123]++sepS (l.map pr)) U)):=hidE λU hU =>
  wr_SepAl F ek pr l S A m c B b (l0++[123]) U hU.1 (hl.keep (λ_ h=>h) (λg hg=>hU.2.1.block g (hS g hg))) hm hm9 hS (by simp only[List.length_append,List.length_cons,List.length_nil];omega) (λx hx cs V l1 h1 h2 h3=>HV x hx cs V l1 h1 (hU.trans h2) h3)
 clear hl hS HV h
 go_enter Tryz.func145,Tryz.ntmps145
 go_wp2_with fail
 refine HP.out.mono ?_
 rintro e w2 ⟨rfl,h2⟩
 have H2:=hidE (H0.out.trans h2)
 have HC:=hidE (HSEP.out w2 H2.out)
 clear h2 HP HSEP
 go_wp2_with fail
 refine HC.out.mono ?_
 rintro e w3 ⟨rfl,h3⟩
 have H3:=hidE (H2.out.trans h3)
 have HP:=hidE (wr_put1 (WPX.refl h3.1) ⟨#[125]⟩ (by show(l0++[123]++sepS (l.map pr)).length+1<=_;simp only[List.length_append,List.length_cons,List.length_nil];omega))
 clear h3 HC
 go_wp2_with fail
 refine HP.out.mono ?_
 rintro e w4 ⟨rfl,h4⟩
 have H4:=hidE (H3.out.trans h4)
 clear h4 HP
 go_wp2_with fail
 first|go_end0|refine bodyPost_ret (results_none rfl _ _ _) rfl ?_
 exact⟨rfl,by have:=H4.out;simpa[List.append_assoc] using this⟩
end Go.Proofs.YtknkclefoiohpaaGreatDoor

namespace Go.Proofs.YtknkclefoiohpaaGreatDoor
open Go.RowKit Lx Tx Sx Go.Shelf
set_option maxRecDepth 100000
structure AIn (a:Al) (S:Nat->Prop) (cs:List Value) (B b:Nat) (l:List UInt8) (w:World):Prop where
 ok:(alB a).Ok
 wt:(alB a).wt<=9000
 nl:(match a with|.mk _ vs _=>vs.length)<=100000
 cs:pcA.Cs S w a cs
 lt:∀g,S g->g<B
 bld:BldX B b l w
 glob:0<B
 tab:Tab w
set_option maxHeartbeats 6400000 in
theorem wr_alt(n:Nat)(HW:WXp n)(a:Al)(S:Nat->Prop)(cs:List Value)(B b:Nat)(l:List UInt8)(w:World)(hn:(alB a).size<=n)(hA:AIn a S cs B b l w)(hll:l.length+a.print.length<=40000000000000) :
  Calls Tryz.prog 146 #[.pointer (some ⟨b,0,none⟩),.agg cs.toArray] w (PutP B b (l++a.print) w):=by
 obtain⟨c,vs,y⟩:=a
 obtain⟨V,⟨vc,hvc⟩,P,rfl,hV,hT,hI⟩:=hA.cs
 obtain⟨k1,x1,t1,K1,X1,Z1,B1,m1,q1,KA1,kn1,kc1,LA1,ln1,lc1,hs⟩:=exC_shp y P
 have hrd:RdX S w y (.agg #[.int .i64 k1,.string x1,.bool t1,.int .i64 K1,.string X1,.int .i64 Z1,.slice B1 m1 q1,.slice KA1 kn1 kc1,.slice LA1 ln1 lc1]):=⟨P,by rw[hs],hT,hI⟩
 obtain⟨Y,hY⟩:∃Y:ByteArray,⟨c.toArray⟩=Y:=⟨_,rfl⟩
 have hY2:Y.data.toList=c:=by rw[<-hY]
 have hYs:Y.size=c.length:=by rw[<-hY];rfl
 obtain⟨vn,hvn⟩:∃n,vs.length=n:=⟨_,rfl⟩
 have hvn9:vn<=100000:=by have:=hA.nl;simp only at this;omega
 rw[show(alC (.mk c vs y) V vc P).toArray=#[.string Y,.slice V vn vc,.int .i64 k1,.string x1,.bool t1,.int .i64 K1,.string X1,.int .i64 Z1,.slice B1 m1 q1,.slice KA1 kn1 kc1,.slice LA1 ln1 lc1] by rw[alC,hs,hvn];simp[Sx.strV,hY]]
 have hpr:(Al.mk c vs y).print=c++spaced vs++[32,45,62,32]++y.print:=by rw[Al.print];rfl
 rw[hpr]at hll ⊢
 simp only[List.length_append,List.length_cons,List.length_nil]at hll
 have hbl:=hA.bld.lt
 obtain⟨W0,hW0⟩:∃W,w.alloc (.cells #[.string Y,.slice V vn vc,.int .i64 k1,.string x1,.bool t1,.int .i64 K1,.string X1,.int .i64 Z1,.slice B1 m1 q1,.slice KA1 kn1 kc1,.slice LA1 ln1 lc1] 170)=W:=⟨_,rfl⟩
 have hlw:Below w.heap.size w W0:=hW0▸(Below.refl _ w).alloc (Nat.le_refl _) _
 have hbk:Blk W0 w.heap.size 170 #[.string Y,.slice V vn vc,.int .i64 k1,.string x1,.bool t1,.int .i64 K1,.string X1,.int .i64 Z1,.slice B1 m1 q1,.slice KA1 kn1 kc1,.slice LA1 ln1 lc1]:=hW0▸heap_alloc_new _ _
 have H0:=hidE ((WPX.refl hA.bld).next hlw)
 have HA:=hidE hA
 have HBK:=hidE hbk
 have HHW:=hidE HW
 have HLT:=hidE hA.lt
 have HN:=hidE hn
 have HV:=hidE hV
 have HRD:=hidE hrd
 have HVN:=hidE hvn
 have hlt0:=hbk.lt
 obtain⟨⟨f0,f1,f2,f3,f4,f5,f6,f7,f8,f9,f10⟩,-,-⟩:=blk_facts11 hbk
 clear hA hlw hbk HW hn hV hT hI hs hrd hY hvn
 go_enter Tryz.func146,Tryz.ntmps146
 go_upto_region 1 with fail
 try rw[hW0]
 clear hW0
 have HP2:=hidE (wr_put1d H0.out.1 Y (by omega))
 go_cut [0] from 4 to 10 (λu wx=>u=.pointer (some ⟨b,0,none⟩)/\Hid (WPX B b (l++c) W0 wx))
 case first =>
  go_wp2_with fail
  go_region_with (go_at_call 87;(with_reducible refine HP2.out.mono ?_);rintro en w2 ⟨rfl,h2⟩)
  all_goals
   rw[hY2]at h2
   have HQ:=hidE h2
   clear h2
   go_wp2_with fail
   go_meet
   case rel=>exact⟨rfl,HQ⟩
 obtain⟨rfl,hc2⟩:=hcut
 have h2:=hc2.out
 have hs2:=h2.sz
 have hbk2:=h2.blk HBK.out (by omega) (by decide)
 have HBK:=hidE hbk2
 have H2:=hidE (H0.out.trans h2)
 have hbl2:=h2.1.lt
 clear f0 f1 f2 f3 f4 f5 f6 f7 f8 f9 f10 hc2 HP2
 obtain⟨⟨f0,f1,f2,f3,f4,f5,f6,f7,f8,f9,f10⟩,-,hlt2⟩:=blk_facts11 hbk2
 clear h2 hbk2
 have HNM:Hid (∀U,Below wc.heap.size wc U->Calls Tryz.prog 88 #[.pointer (some ⟨b,0,none⟩),.string ⟨#[32]⟩,.slice V vn vc] U λe w'=>e=.returned (.tuple #[])/\WPX B b (l++c++spaced vs) U w'):=hidE λU hU =>
  wr_Names B b (l++c) vs S V vn vc U (H2.out.next hU).1 (HV.out.keep (λ_ h=>h) (λg hg=>(H2.out.next hU).2.1.block g (HLT.out g hg))) HLT.out HVN.out hvn9 (by rw[List.length_append];omega)
 obtain⟨w2,hw2⟩:∃y,y=wc:=⟨_,rfl⟩
 subst hw2
 go_upto_region 2 with fail
 go_cut [0] from 11 to 16 (λu wx=>u=.pointer (some ⟨b,0,none⟩)/\Hid (∃U,Below w2.heap.size w2 U/\WPX B b (l++c++spaced vs) U wx))
 case first =>
  go_wp2_with fail
  go_region_with (go_at_call 88;(with_reducible refine(HNM.out _ (by first|exact Below.refl _ _|exact(Below.refl _ _).drew)).mono ?_);rintro en w3 ⟨rfl,h3⟩)
  all_goals
   have HQ:Hid (∃U,Below w2.heap.size w2 U/\WPX B b (l++c++spaced vs) U w3):=hidE ⟨_,(by first|exact(Below.refl w2.heap.size w2).drew|exact Below.refl _ _),h3⟩
   clear h3
   go_wp2_with fail
   go_meet
   case rel=>exact⟨rfl,HQ⟩
 obtain⟨rfl,hc3⟩:=hcut
 obtain⟨U3,hu3,h3⟩:=hc3.out
 have hsu:=hu3.size
 have hs3:=h3.sz
 have hbk3:=h3.blk (HBK.out.below hu3 hlt2) (by omega) (by decide)
 have HBK:=hidE hbk3
 have H3:=hidE ((H2.out.next hu3).trans h3)
 have hbl3:=h3.1.lt
 clear f0 f1 f2 f3 f4 f5 f6 f7 f8 f9 f10 hc3 HNM
 obtain⟨⟨f0,f1,f2,f3,f4,f5,f6,f7,f8,f9,f10⟩,-,hlt3⟩:=blk_facts11 hbk3
 clear h3 hbk3
 have HP4:=hidE (wr_put1 (WPX.refl H3.out.1) ⟨#[32,45,62,32]⟩ (by show(l++c++spaced vs).length+4<=_;simp only[List.length_append];omega))
 go_wp2_with fail
 refine HP4.out.mono ?_
 rintro en w4 ⟨rfl,h4⟩
 have hs4:=h4.sz
 have hbk4:=h4.blk HBK.out (by omega) (by decide)
 have H4:=hidE (H3.out.trans h4)
 replace H4:Hid (WPX B b (l++c++spaced vs++[32,45,62,32]) w w4):=H4
 clear f0 f1 f2 f3 f4 f5 f6 f7 f8 f9 f10 HP4
 obtain⟨⟨f0,f1,f2,f3,f4,f5,f6,f7,f8,f9,f10⟩,-,hlt4⟩:=blk_facts11 hbk4
 have HE:=hidE (HHW.out y 0 S _ B b _ w4 HN.out (by decide) ⟨HA.out.ok,HA.out.wt,H4.out.rdX HRD.out HLT.out,HLT.out,H4.out.1,HA.out.glob,H4.out.tab HA.out.tab HA.out.glob⟩ (by rw[outE_0];simp only[List.length_append,List.length_cons,List.length_nil];omega))
 clear h4 hbk4
 go_wp2_with fail
 refine HE.out.mono ?_
 rintro en w5 ⟨rfl,h5⟩
 have H5:=hidE (H4.out.trans h5)
 clear h5 HE
 go_wp2_with fail
 first|go_end0|refine bodyPost_ret (results_none rfl _ _ _) rfl ?_
 exact⟨rfl,by have:=H5.out;rw[outE_0]at this;simpa[List.append_assoc] using this⟩
theorem printAr_sep:∀l:List Al,printAr l=(l.map Al.print).flatMap λy=>sSem++y
 | []=>by simp[printAr]
 | a::r=>by rw[printAr,printAr_sep r];simp
theorem printAs_sep(l:List Al):printAs l=sepS (l.map Al.print):=by
 cases l with
 | nil=>rfl
 | cons a r=>rw[printAs,printAr_sep];rfl
theorem part_lt2(e:Ex)(i:Nat)(x:Ex)(hx:(parts e)[i]? = some x):x.size<e.size:=by
 have hm:=List.mem_of_getElem? hx
 have h2:∀(l:List Al) (a:Al),a∈l->(alB a).size<=sizeA l:=λl=>by
  induction l with
  | nil=>intro a h;cases h
  | cons b r ih =>
   intro a h
   rw[sizeA]
   rcases List.mem_cons.1 h with rfl|h
   ·cases a;rw[Al.size];simp only[alB];omega
   ·have:=ih a h;omega
 cases e with
 | var v=>simp[parts,kidsE,altsE]at hm
 | con v=>simp[parts,kidsE,altsE]at hm
 | lam v b=>simp[parts,kidsE,altsE]at hm;subst hm;rw[Ex.size];omega
 | app a b=>simp[parts,kidsE,altsE]at hm;rw[Ex.size];exact hm.elim (λh=>h▸by omega) (λh=>h▸by omega)
 | lt v t a b=>simp[parts,kidsE,altsE]at hm;rw[Ex.size];exact hm.elim (λh=>h▸by omega) (λh=>h▸by omega)
 | ann b t=>simp[parts,kidsE,altsE]at hm;subst hm;rw[Ex.size];omega
 | cs b l =>
  simp[parts,kidsE,altsE]at hm
  rw[Ex.size]
  rcases hm with rfl|⟨a,ha,rfl⟩
  ·omega
  ·have:=h2 l a ha;omega
theorem ok_al(l:List Al)(a:Al)(ha:a∈l)(h:okA l):(alB a).Ok:=by
 induction l with
 | nil=>cases ha
 | cons c r ih =>
  rcases List.mem_cons.1 ha with rfl|h2
  ·cases a;exact h.1.2.2
  ·exact ih h2 h.2
theorem wt_al(l:List Al)(a:Al)(ha:a∈l):a.wt<=wtA l:=by
 induction l with
 | nil=>cases ha
 | cons c r ih =>
  rw[wtA]
  rcases List.mem_cons.1 ha with rfl|h2
  ·omega
  ·have:=ih h2;omega
set_option maxHeartbeats 6400000 in
theorem bare_cs(n:Nat)(HW:WXp n)(y:Ex)(als:List Al)(S:Nat->Prop)(v:Value)(B b:Nat)(l:List UInt8)(w:World)(hn:(Ex.cs y als).size<=n+1)(hX:XIn (Ex.cs y als) S v B b l w)(hll:l.length+(Ex.cs y als).print.length<=40000000000000) :
  Calls Tryz.prog 102 #[.pointer (some ⟨b,0,none⟩),v] w (PutP B b (l++(Ex.cs y als).print) w):=by
 obtain⟨Y,td,K,X,Z,A0,m,q,KA,kn,kc,LA,ln,lc,rfl,hY,htd,hkn,hln,hty⟩:=bx_facts hX
 replace hX:XIn (Ex.cs y als) S (.agg #[.int .i64 6,.string Y,.bool td,.int .i64 K,.string X,.int .i64 Z,.slice A0 m q,.slice KA kn kc,.slice LA ln lc]) B b l w:=hX
 show Calls Tryz.prog _ #[_,.agg #[.int .i64 6,.string Y,.bool td,.int .i64 K,.string X,.int .i64 Z,.slice A0 m q,.slice KA kn kc,.slice LA ln lc]] w _
 have hbl:=hX.bld.lt
 obtain⟨W0,hW0⟩:∃W,w.alloc (.cells #[.int .i64 6,.string Y,.bool td,.int .i64 K,.string X,.int .i64 Z,.slice A0 m q,.slice KA kn kc,.slice LA ln lc] 39)=W:=⟨_,rfl⟩
 have hlw:Below w.heap.size w W0:=hW0▸(Below.refl _ w).alloc (Nat.le_refl _) _
 have hbk:Blk W0 w.heap.size 39 #[.int .i64 6,.string Y,.bool td,.int .i64 K,.string X,.int .i64 Z,.slice A0 m q,.slice KA kn kc,.slice LA ln lc]:=hW0▸heap_alloc_new _ _
 have H0:=hidE ((WPX.refl hX.bld).next hlw)
 have HX:=hidE hX
 have HBK:=hidE hbk
 have HHW:=hidE HW
 have HLT:=hidE hX.lt
 have hlt0:=hbk.lt
 have HN:Hid (y.size<=n/\∀a∈als,(alB a).size<=n):=hidE (by
  refine⟨by rw[Ex.size]at hn;omega,λa ha=>?_⟩
  obtain⟨i,hi⟩:=List.getElem?_of_mem ha
  have:=part_lt2 (Ex.cs y als) _ _ (parts_alt (Ex.cs y als) i a hi)
  omega)
 have hpr:(Ex.cs y als).print=[99,97,115,101,32]++y.print++[32,111,102,32]++(123::(sepS (als.map Al.print)++[125])):=by rw[Ex.print,printAs_sep];simp[wCase,wOf]
 have hmf:(Instr.makeFunc (Fn.func 146) #[.pointer (some ⟨b,0,none⟩)] #[])=(Instr.makeFunc (Fn.func 146) #[.pointer (some ⟨b,0,none⟩)] #[]):=rfl
 have hal9:als.length<=100000:=by
  have h1:=hX.wt
  have:∀l:List Al,l.length<=wtA l:=λl=>by
   induction l with
   | nil=>exact Nat.zero_le _
   | cons a r ih=>cases a;simp only[wtA,Al.wt,List.length_cons];omega
  have:=this als
  rw[Ex.wt]at h1
  omega
 have HLS:Hid (LstG pcA S w als LA):=hidE (λh=>by
  obtain⟨P,hv,-,hI⟩:=hX.rd
  rw[ExIn]at hI
  obtain⟨g,h1,h2,h3⟩:=hI.2 h
  have:LA=P.L:=by
   have:=congrArg (λv:Value=>match v with|.agg a=>a.toList|_=>[]) hv
   obtain⟨K',X',Z',B',m',q',hs'⟩:=tyC_shape (tyE (Ex.cs y als)) P.A P.a
   rw[exC,hs']at this
   simp at this
   exact this.2.2.2.2.2.2.2.2.1
  exact⟨g,by rw[this,h1],h2,(atG_al als g 0).2 h3⟩)
 have hln2:als.length=ln:=hln.symm
 have ek:∀args w,(callFunc 146 args).run Tryz.prog w=.ok (.enter 146 args) w:=enters_of Tryz.func146 (by kernel_rfl) rfl
 rw[hpr]at hll ⊢
 simp only[List.length_append,List.length_cons,List.length_nil]at hll
 clear hty hln hkn htd hY hmf
 obtain⟨⟨f0,f1,f2,f3,f4,f5,f6,f7,f8⟩,-,-⟩:=blk_facts9 hbk
 clear hX hlw hbk HW hn
 go_enter Tryz.func102,Tryz.ntmps102
 go_upto_region 1 with fail
 try rw[hW0]
 clear hW0
 have HP2:=hidE (wr_put1 (WPX.refl H0.out.1) ⟨#[99,97,115,101,32]⟩ (by show l.length+5<=_;omega))
 go_wp2_with fail
 refine HP2.out.mono ?_
 rintro en w2 ⟨rfl,h2⟩
 clear HP2
 have H2:=hidE (H0.out.trans h2)
 replace H2:Hid (WPX B b (l++[99,97,115,101,32]) w w2):=hidE (by have:=H2.out;simpa[List.append_assoc,sArr,sCol,sEq,wLet,wIn,wCase,wOf] using this)
 have hbk2:=h2.blk HBK.out (by omega) (by decide)
 have HBK:=hidE hbk2
 clear f0 f1 f2 f3 f4 f5 f6 f7 f8
 obtain⟨⟨f0,f1,f2,f3,f4,f5,f6,f7,f8⟩,-,hlt2⟩:=blk_facts9 hbk2
 have hs2:=h2.sz
 clear hbk2
 clear h2
 have hbl2:=H2.out.1.lt
 have HK3:=hidE (wr_kid (Ex.cs y als) 0 y S _ w2 (H2.out.rdX HX.out.rd HLT.out) (λg hg=>by have:=HLT.out g hg;omega) rfl)
 go_wp2_with fail
 refine HK3.out.mono ?_
 rintro en k3 ⟨⟨a0,a1,a2,a3,a4,a5,a6,a7,a8,a9,b0,b1,b2,b3,b4,rfl,hr3⟩,c3⟩
 have G3:=hidE (H2.out.next c3)
 have hck3:=c3.size
 have HE3:=hidE (HHW.out y 0 S _ B b _ k3 (by have:=HN.out;omega) (by decide) (HX.out.part (x:=y) (by simp[parts,kidsE,altsE]) G3.out hr3) (by rw[outE_0];simp only[List.length_append,List.length_cons,List.length_nil];omega))
 have hbc3:=HBK.out.below c3 (by omega)
 have HBK:=hidE hbc3
 clear HK3 c3 hr3 hbc3
 go_wp2_with fail
 refine HE3.out.mono ?_
 rintro en w3 ⟨rfl,h3⟩
 clear HE3
 have H3:=hidE (G3.out.trans h3)
 replace H3:Hid (WPX B b (l++([99,97,115,101,32]++y.print)) w w3):=hidE (by have:=H3.out;simpa[List.append_assoc,sArr,sCol,sEq,wLet,wIn,wCase,wOf,outE_0] using this)
 have hbk3:=h3.blk HBK.out (by omega) (by decide)
 have HBK:=hidE hbk3
 clear f0 f1 f2 f3 f4 f5 f6 f7 f8
 obtain⟨⟨f0,f1,f2,f3,f4,f5,f6,f7,f8⟩,-,hlt3⟩:=blk_facts9 hbk3
 have hs3:=h3.sz
 clear hbk3
 clear h3
 have hbl3:=H3.out.1.lt
 have HP4:=hidE (wr_put1 (WPX.refl H3.out.1) ⟨#[32,111,102,32]⟩ (by show(l++([99,97,115,101,32]++y.print)).length+4<=_;simp only[List.length_append,List.length_cons,List.length_nil];omega))
 go_wp2_with fail
 refine HP4.out.mono ?_
 rintro en w4 ⟨rfl,h4⟩
 clear HP4
 have H4:=hidE (H3.out.trans h4)
 replace H4:Hid (WPX B b (l++([99,97,115,101,32]++y.print++[32,111,102,32])) w w4):=hidE (by have:=H4.out;simpa[List.append_assoc,sArr,sCol,sEq,wLet,wIn,wCase,wOf] using this)
 have hbk4:=h4.blk HBK.out (by omega) (by decide)
 have HBK:=hidE hbk4
 clear f0 f1 f2 f3 f4 f5 f6 f7 f8
 obtain⟨⟨f0,f1,f2,f3,f4,f5,f6,f7,f8⟩,-,hlt4⟩:=blk_facts9 hbk4
 have hs4:=h4.sz
 clear hbk4
 clear h4
 have hbl4:=H4.out.1.lt
 have HBR:Hid (∀U,Below w4.heap.size w4 U->Calls Tryz.prog 145 #[.pointer (some ⟨b,0,none⟩),.slice LA ln lc,.func (.func 146) #[.pointer (some ⟨b,0,none⟩)] #[]] U (PutP B b (l++([99,97,115,101,32]++y.print++[32,111,102,32])++123::(sepS (als.map Al.print)++[125])) U)):=hidE λU hU =>
  wr_BraceAl _ ek Al.print als S LA ln lc B b _ U (H4.out.next hU).1 (HLS.out.keep (λ_ h=>h) (λg hg=>(H4.out.next hU).2.1.block g (HLT.out g hg))) hln2 (by omega) HLT.out (by simp only[List.length_append,List.length_cons,List.length_nil];omega)
   (λa ha cs V l1 h1 h2 h3=>wr_alt n HHW.out a S cs B b l1 V (HN.out.2 a ha) ⟨ok_al als a ha HX.out.ok.2,by have h5:=wt_al als a ha;have h6:=HX.out.wt;rw[Ex.wt]at h6;cases a;simp only[Al.wt]at h5;simp only[alB];omega,by have h5:=wt_al als a ha;have h6:=HX.out.wt;rw[Ex.wt]at h6;cases a;simp only[Al.wt]at h5;simp only;omega,h1,HLT.out,h2.1,HX.out.glob,((H4.out.next hU).trans h2).tab HX.out.tab HX.out.glob⟩ h3)
 go_wp2_with fail
 go_region_with (go_at_call 145;(with_reducible refine(HBR.out _ (by first|exact Below.refl _ _|exact(Below.refl _ _).drew)).mono ?_);rintro en w5 ⟨rfl,h5⟩)
 all_goals
  have H5:=hidE ((H4.out.next (Below.refl w4.heap.size w4).drew).trans h5)
  clear h5
  go_wp2_with fail
  first|go_end0|refine bodyPost_ret (results_none rfl _ _ _) rfl ?_
  exact⟨rfl,by have:=H5.out;simpa[List.append_assoc] using this⟩
end Go.Proofs.YtknkclefoiohpaaGreatDoor

namespace Go.Proofs.YtknkclefoiohpaaGreatDoor
open Go.RowKit Lx Tx Sx
set_option maxRecDepth 100000
set_option maxHeartbeats 1600000 in
theorem bare_lt(n:Nat)(HW:WXp n)(x:Nm)(t:Option Ty)(y z:Ex)(S:Nat->Prop)(v:Value)(B b:Nat)(l:List UInt8)(w:World)(hn:(Ex.lt x t y z).size<=n+1)(hX:XIn (Ex.lt x t y z) S v B b l w)(hll:l.length+(Ex.lt x t y z).print.length<=40000000000000) :
  Calls Tryz.prog 102 #[.pointer (some ⟨b,0,none⟩),v] w (PutP B b (l++(Ex.lt x t y z).print) w):=by
 have hlet:∀U,WPX B b l w U->Calls Tryz.prog 144 #[.pointer (some ⟨b,0,none⟩),v] U (PutP B b (l++(Ex.lt x t y z).print) U):=λU hU=>by
  cases t with
  | none=>exact let_none n HW x y z S v B b l U hn (hX.at hU) hll
  | some t=>exact let_some n HW x t y z S v B b l U hn (hX.at hU) hll
 obtain⟨Y,td,K,X,Z,A0,m,q,KA,kn,kc,LA,ln,lc,rfl,-,-,-,-,-⟩:=bx_facts hX
 replace hlet:∀U,WPX B b l w U->Calls Tryz.prog 144 #[.pointer (some ⟨b,0,none⟩),.agg #[.int .i64 5,.string Y,.bool td,.int .i64 K,.string X,.int .i64 Z,.slice A0 m q,.slice KA kn kc,.slice LA ln lc]] U (PutP B b (l++(Ex.lt x t y z).print) U):=hlet
 show Calls Tryz.prog _ #[_,.agg #[.int .i64 5,.string Y,.bool td,.int .i64 K,.string X,.int .i64 Z,.slice A0 m q,.slice KA kn kc,.slice LA ln lc]] w _
 obtain⟨W0,hW0⟩:∃W,w.alloc (.cells #[.int .i64 5,.string Y,.bool td,.int .i64 K,.string X,.int .i64 Z,.slice A0 m q,.slice KA kn kc,.slice LA ln lc] 39)=W:=⟨_,rfl⟩
 have hlw:Below w.heap.size w W0:=hW0▸(Below.refl _ w).alloc (Nat.le_refl _) _
 have hbk:Blk W0 w.heap.size 39 #[.int .i64 5,.string Y,.bool td,.int .i64 K,.string X,.int .i64 Z,.slice A0 m q,.slice KA kn kc,.slice LA ln lc]:=hW0▸heap_alloc_new _ _
 have H0:=hidE ((WPX.refl hX.bld).next hlw)
 have HC:=hidE (hlet W0 H0.out)
 obtain⟨PR,hPR⟩:∃p,(Ex.lt x t y z).print=p:=⟨_,rfl⟩
 rw[hPR]at HC ⊢
 obtain⟨⟨f0,f1,f2,f3,f4,f5,f6,f7,f8⟩,-,hlt0⟩:=blk_facts9 hbk
 clear hX hlw hbk HW hn hlet hPR hll
 go_enter Tryz.func102,Tryz.ntmps102
 go_upto_region 1 with fail
 try rw[hW0]
 clear hW0
 go_wp2_with fail
 refine HC.out.mono ?_
 rintro en w2 ⟨rfl,h2⟩
 have H2:=hidE (H0.out.trans h2)
 clear h2 HC
 go_wp2_with fail
 first|go_end0|refine bodyPost_ret (results_none rfl _ _ _) rfl ?_
 exact⟨rfl,H2.out⟩
theorem wr_bare(n:Nat):WBp n:=by
 induction n with
 | zero=>intro e S v B b l w hn;have:1<=e.size:=by { cases e <;> simp only[Ex.size] <;> omega };omega
 | succ n ih =>
  have HW:=wr_expr n ih
  intro e S v B b l w hn hX hll
  cases e with
  | var x=>exact bare_nm (.var x) ⟨.inl rfl,by rw[Ex.print];rfl⟩ S v B b l w hX hll
  | con x=>exact bare_nm (.con x) ⟨.inr rfl,by rw[Ex.print];rfl⟩ S v B b l w hX hll
  | lam x y=>exact bare_lam n HW x y S v B b l w hn hX hll
  | app x y=>exact bare_app2 n HW x y S v B b l w hn hX hll
  | ann y t=>exact bare_ann n HW y t S v B b l w hn hX hll
  | cs y als=>exact bare_cs n HW y als S v B b l w hn hX hll
  | lt x t y z=>exact bare_lt n HW x t y z S v B b l w hn hX hll
theorem bldX_new(B:Nat)(w:World)(hB:B<=w.heap.size):BldX B w.heap.size [] (w.alloc (.cells #[.pointer none,.slice none 0 0] 92)):=by
 have hfr:=Lib.IsBuilderF.of (Lib.fresh_isBuilder 92 5 w)
 have key:∀p,Lib.BuilderAtF 92 5 w.heap.size w.heap.size p [] (w.alloc (.cells #[.pointer none,.slice none 0 0] 92))->Lib.BuilderAtF 92 5 B w.heap.size p [] (w.alloc (.cells #[.pointer none,.slice none 0 0] 92)):=by
  rintro p ⟨h1,v,h2,h3,h4⟩
  refine⟨by omega,v,h2,⟨h3.1,?_⟩,h4⟩
  rcases h3.2 with h|⟨g,cap,cur,fz,h5,h6,h7⟩
  ·exact .inl h
  ·exact .inr ⟨g,cap,cur,fz,h5,by omega,h7⟩
 rcases hfr with h|h
 ·exact .inl (key _ h)
 ·exact .inr (key _ h)
theorem print_ne(e:Ex)(hok:e.Ok):e.print≠[]:=by
 cases e with
 | var x=>rw[Ex.print];exact gd_ne hok
 | con x=>rw[Ex.print];exact gd_ne hok
 | lam x y=>rw[Ex.print];simp
 | app a b=>rw[Ex.print];simp
 | lt x t a b=>rw[Ex.print];simp[wLet]
 | cs e l=>rw[Ex.print];simp[wCase]
 | ann e t=>rw[Ex.print];simp
set_option maxHeartbeats 1600000 in
theorem sx_printE(e:Ex)(S:Nat->Prop)(v:Value)(w:World)(hok:e.Ok)(hwt:e.wt<=9000)(hv:RdX S w e v)(hS:∀g,S g->g<w.heap.size)(ht:Tab w) :
  Calls Tryz.prog 14 #[v] w λen w'=>en=.returned (.string ⟨e.print.toArray⟩)/\Below w.heap.size w w':=by
 obtain⟨K,X,Z,A0,m,q,KA,kc,LA,lc,rfl,-⟩:=hv.shape
 obtain⟨kd,hkd⟩:∃x,kdE e=x:=⟨_,rfl⟩
 obtain⟨Y,hY⟩:∃Y:ByteArray,⟨(nmE e).toArray⟩=Y:=⟨_,rfl⟩
 obtain⟨td,htd⟩:∃x,toE e=x:=⟨_,rfl⟩
 obtain⟨kn,hkn⟩:∃x,(kidsE e).length=x:=⟨_,rfl⟩
 obtain⟨ln,hln⟩:∃x,(altsE e).length=x:=⟨_,rfl⟩
 rw[hkd,hY,htd,hkn,hln]at hv ⊢
 obtain⟨Wa,hWa⟩:∃W,w.alloc (.cells #[.int .i64 (kd:Nat),.string Y,.bool td,.int .i64 K,.string X,.int .i64 Z,.slice A0 m q,.slice KA kn kc,.slice LA ln lc] 39)=W:=⟨_,rfl⟩
 have hba:Below w.heap.size w Wa:=hWa▸(Below.refl _ w).alloc (Nat.le_refl _) _
 have hsa:Wa.heap.size=w.heap.size+1:=by rw[<-hWa];simp
 have hka:Blk Wa w.heap.size 39 #[.int .i64 (kd:Nat),.string Y,.bool td,.int .i64 K,.string X,.int .i64 Z,.slice A0 m q,.slice KA kn kc,.slice LA ln lc]:=hWa▸heap_alloc_new _ _
 obtain⟨W0,hW0⟩:∃W,Wa.alloc (.cells #[.pointer none,.slice none 0 0] 92)=W:=⟨_,rfl⟩
 have hb0:Below Wa.heap.size Wa W0:=hW0▸(Below.refl _ Wa).alloc (Nat.le_refl _) _
 have hbl:BldX w.heap.size (w.heap.size+1) [] W0:=by
  have:=bldX_new w.heap.size Wa (by omega)
  rw[hW0,hsa]at this
  exact this
 have hlw:Below w.heap.size w W0:=hba.trans (hb0.mono (by omega))
 have hbk:=hka.below hb0 (by omega)
 have hp:=print_wt e hok
 have hne:=print_ne e hok
 have HE:=hidE (wr_expr (e.size) (wr_bare _) e 0 S _ w.heap.size (w.heap.size+1) [] W0 (Nat.le_refl _) (by decide) ⟨hok,hwt,hv.keep (λ_ h=>h) (λg hg=>hlw.block g (hS g hg)),hS,hbl,ht.lt,ht.below hlw⟩ (by rw[outE_0,List.length_nil];omega))
 rw[outE_0,List.nil_append]at HE
 have HLW:=hidE hlw
 obtain⟨PR,hPR⟩:∃p,e.print=p:=⟨_,rfl⟩
 rw[hPR]at HE hne ⊢
 have HNE:=hidE hne
 obtain⟨⟨f0,f1,f2,f3,f4,f5,f6,f7,f8⟩,-,hlt0⟩:=blk_facts9 hbk
 have HWW:Hid ((w.alloc (.cells #[.int .i64 (kd:Nat),.string Y,.bool td,.int .i64 K,.string X,.int .i64 Z,.slice A0 m q,.slice KA kn kc,.slice LA ln lc] 39)).alloc (.cells #[.pointer none,.slice none 0 0] 92)=W0):=hidE (by rw[hWa];exact hW0)
 clear hv hS hkd hY htd hkn hln hba hka hb0 hbl hlw hbk hp hne hPR hWa hW0 hsa
 go_enter Tryz.func14,Tryz.ntmps14
 go_upto_region 2 with fail
 rw[HWW.out]
 clear HWW
 go_wp2_with fail
 refine HE.out.mono ?_
 rintro en w2 ⟨rfl,h2⟩
 have HS2:=hidE (wr_String w.heap.size (w.heap.size+1) PR w2 h2.1 HNE.out)
 have H2:=hidE (HLW.out.trans h2.2.1)
 clear h2 HE
 go_wp2_with fail
 refine HS2.out.mono ?_
 rintro en w3 ⟨rfl,b3⟩
 have H3:=hidE (H2.out.trans b3)
 clear b3 HS2
 go_wp2_with fail
 go_ret
 exact⟨rfl,H3.out⟩
end Go.Proofs.YtknkclefoiohpaaGreatDoor

namespace Go.Proofs.YtknkclefoiohpaaGreatDoor
open Go.RowKit Lx Tx Sx Go.Shelf
set_option maxRecDepth 100000
theorem coCs_one {S:Nat->Prop} {w:World} {c:Nm × Ty} {cs:List Value}(h:pcC.Cs S w c cs):cs.length=5/\cs.toArray.all (·.oneCell')=true:=by
 refine⟨pcC.len h,?_⟩
 obtain⟨A,a,rfl,-⟩:=h
 obtain⟨K,X,Z,B,mm,q,hs⟩:=tyC_shape (some c.2) A a
 rw[show tyV c.2 A a=tyC (some c.2) A a from rfl,hs]
 simp[Value.oneCell',Sx.strV]
set_option maxHeartbeats 6400000 in
theorem wr_SepCo(F:Nat)(ek:∀args w,(callFunc F args).run Tryz.prog w=.ok (.enter F args) w)(pr:Nm × Ty->List UInt8)(l:List (Nm × Ty))(S:Nat->Prop)(A:Option Addr)(m c:Nat)(B b:Nat)(l0:List UInt8)(w:World)(h:BldX B b l0 w)(hl:LstG pcC S w l A)(hm:l.length=m)(hm9:m<=100000)(hS:∀g,S g->g<B)(hlen:l0.length+(sepS (l.map pr)).length<=40000000000000)
  (HV:∀x∈l,∀(cs:List Value)(U:World)(l1:List UInt8),pcC.Cs S U x cs->WPX B b l1 w U->l1.length+(pr x).length<=40000000000000->Calls Tryz.prog F #[.pointer (some ⟨b,0,none⟩),.agg cs.toArray] U (PutP B b (l1++pr x) U)) :
  Calls Tryz.prog 135 #[.pointer (some ⟨b,0,none⟩),.slice A m c,.func (.func F) #[.pointer (some ⟨b,0,none⟩)] #[]] w (PutP B b (l0++sepS (l.map pr)) w):=by
 have HL:=hidE hl
 have HM:=hidE hm
 have HS:=hidE hS
 have HHV:=hidE HV
 have H0:=hidE (WPX.refl h)
 have hbl:=h.lt
 have HINF:Hid ((Tryz.prog.info? 61).map (·.size)=some 5):=hidE (by kernel_rfl)
 clear hl hm h hS HV
 go_enter Tryz.func135,Tryz.ntmps135
 go_wp2_with fail
 go_loopg [10] m (λgg vi wr=>∃i:Nat,gg=m-i/\vi=.int .i64 (i:Nat)/\i<=m/\Hid (WPX B b (l0++sepS ((l.take i).map pr)) w wr))
 case atStart=>exact⟨0,rfl,rfl,by omega,hidE (by simpa[sepS] using H0.out)⟩
 case round =>
  obtain⟨i,rfl,rfl,hi,hW⟩:=hrel
  have hsr:=hW.out.sz
  by_cases hlt:i<m
  ·obtain⟨x,hx⟩:∃x,l[i]? = some x:=⟨_,List.getElem?_eq_getElem (by rw[HM.out];exact hlt)⟩
   obtain⟨g,cs,rfl,hSg,hcs,hrow⟩:=HL.out.row i x hx
   have hgB:=HS.out g hSg
   have hkS:∀k,S k->wr.heap[k]? = w.heap[k]?:=λk hk=>hW.out.2.1.block k (HS.out k hk)
   obtain⟨hlen1,hone⟩:=coCs_one hcs
   have HROW:Hid (wr.rangeAt g (i*5) cs):=hidE (Lie.keep hrow (hkS g hSg))
   have HLEN:Hid ((Tryz.prog.info? 61).map (·.size)=some cs.length):=hidE (by rw[hlen1];exact HINF.out)
   have HLEN2:Hid ((Tryz.prog.info? 61).map (·.size)=some cs.toArray.size):=hidE (by rw[List.size_toArray,hlen1];exact HINF.out)
   have HZ:Hid ((#[.string ⟨#[]⟩,.int .i64 0,.string ⟨#[]⟩,.int .i64 0,.slice none 0 0]:Array Value).size=cs.toArray.size):=hidE (by rw[show cs.toArray.size=5 by rw[List.size_toArray,hlen1]];rfl)
   have HONE:=hidE hone
   have hgl:g<wr.heap.size:=by omega
   have hmem:=List.mem_of_getElem? hx
   have hl1:=sepS_take l pr i x hx
   have hl2:=sepS_len l pr (i+1)
   rw[hl1]at hl2
   have ii0:(0:Int)<=(i:Int):=by omega
   have ii1:(i:Int)<(m:Int):=by omega
   obtain⟨Wx,hWx⟩:∃y,wr.alloc (.cells cs.toArray 61)=y:=⟨_,rfl⟩
   have hbx:Below wr.heap.size wr Wx:=hWx▸(Below.refl _ wr).alloc (Nat.le_refl _) _
   have hsx:wr.heap.size+1<=Wx.heap.size:=by rw[<-hWx];simp
   have HBX:Hid (Wx.heap[wr.heap.size]? = some (.cells cs.toArray 61 (0,0))):=hidE (hWx▸heap_alloc_new wr _)
   have HX:=hidE (hW.out.next hbx)
   have HCS:=hidE hcs
   have HST:=hidE hl1
   have hblx:=HX.out.1.lt
   have HMEM:=hidE hmem
   simp only[List.length_append]at hl2
   clear hx hSg hcs hrow hkS hlen1 hone hbx hl1 hmem
   by_cases h0:i=0
   ·subst h0
    have HC:=hidE (HHV.out x HMEM.out cs Wx (l0++sepS ((l.take 0).map pr)) (pcC.keep (λ_ h=>h) (λk hk=>HX.out.2.1.block k (HS.out k hk)) HCS.out) HX.out (by simp only[List.length_append];simp only[if_true,List.length_nil]at hl2;omega))
    go_wp2_with (first|((with_reducible refine wpList_load_mid ?_ 61 (.tmp 13) ?_ g 0 ?_ cs _ HROW.out Tryz.underlying61 ?_ HLEN.out ?_);(exact rfl);(exact rfl);(exact rfl);(exact rfl))|((with_reducible refine wpList_store_row ?_ 61 (.tmp 7) (.tmp 14) ?_ wr.heap.size cs.toArray ?_ ?_ 61 #[.string ⟨#[]⟩,.int .i64 0,.string ⟨#[]⟩,.int .i64 0,.slice none 0 0] (heap_alloc_new wr _) HLEN2.out HZ.out HONE.out ?_);(exact rfl);(exact rfl);(exact rfl);(exact rfl);rw[World.setRow_alloc_new])|((with_reducible refine wpList_load_row ?_ 61 (.tmp 7) ?_ wr.heap.size ?_ 61 cs.toArray (0,0) _ HBX.out Tryz.underlying61 ?_ HLEN2.out ?_);(exact rfl);(exact rfl);(exact rfl);(exact rfl)))
    try rw[hWx]
    refine HC.out.mono ?_
    rintro e w3 ⟨rfl,h3⟩
    have HW3:=hidE (HX.out.trans h3)
    clear h3 HC
    go_wp2_with fail
    go_roundg (m-(0+1))
    case measure=>omega
    case rel=>exact⟨1,rfl,by go_num,by omega,hidE (by rw[HST.out];simpa[List.append_assoc] using HW3.out)⟩
   ·have d0:decide ((0:Int)<(i:Int))=true:=decide_eq_true (by omega)
    have d1:decide (0<i)=true:=decide_eq_true (by omega)
    rw[if_neg h0]at hl2
    simp only[sSem,List.length_cons,List.length_nil]at hl2
    have HP:=hidE (wr_put1 (WPX.refl HX.out.1) ⟨#[59,32]⟩ (by show(l0++sepS ((l.take i).map pr)).length+2<=_;simp only[List.length_append];omega))
    go_wp2_with (first|((with_reducible refine wpList_load_mid ?_ 61 (.tmp 13) ?_ g (i*5) ?_ cs _ HROW.out Tryz.underlying61 ?_ HLEN.out ?_);(exact rfl);(exact rfl);(exact rfl);(exact rfl))|((with_reducible refine wpList_store_row ?_ 61 (.tmp 7) (.tmp 14) ?_ wr.heap.size cs.toArray ?_ ?_ 61 #[.string ⟨#[]⟩,.int .i64 0,.string ⟨#[]⟩,.int .i64 0,.slice none 0 0] (heap_alloc_new wr _) HLEN2.out HZ.out HONE.out ?_);(exact rfl);(exact rfl);(exact rfl);(exact rfl);rw[World.setRow_alloc_new]))
    try rw[hWx]
    refine HP.out.mono ?_
    rintro e w2 ⟨rfl,h2⟩
    have HB2:=hidE (h2.2.2 wr.heap.size _ HBX.out (by simp;omega) (λc fz e=>by injection e with e1 e2;revert e2;decide))
    have H2:=hidE (HX.out.trans h2)
    have hs2:=h2.sz
    have HC:=hidE (HHV.out x HMEM.out cs w2 (l0++sepS ((l.take i).map pr)++[59,32]) (pcC.keep (λ_ h=>h) (λk hk=>H2.out.2.1.block k (HS.out k hk)) HCS.out) H2.out (by simp only[List.length_append,List.length_cons,List.length_nil];omega))
    clear h2 HP
    go_wp2_with ((with_reducible refine wpList_load_row ?_ 61 (.tmp 7) ?_ wr.heap.size ?_ 61 cs.toArray (0,0) _ HB2.out Tryz.underlying61 ?_ HLEN2.out ?_);(exact rfl);(exact rfl);(exact rfl);(exact rfl))
    refine HC.out.mono ?_
    rintro e w3 ⟨rfl,h3⟩
    have HW3:=hidE (H2.out.trans h3)
    clear h3 HC
    go_wp2_with fail
    go_roundg (m-(i+1))
    case measure=>omega
    case rel=>exact⟨i+1,rfl,by go_num,by omega,hidE (by rw[HST.out,if_neg h0];simpa[sSem,List.append_assoc] using HW3.out)⟩
  ·have him:i=m:=by omega
   subst him
   have HF:Hid (WPX B b (l0++sepS (l.map pr)) w wr):=hidE (by have:=hW.out;rwa [List.take_of_length_le (by rw[HM.out];exact Nat.le_refl _)]at this)
   clear hW
   go_wp2_with fail
   first|go_end0|refine bodyPost_ret (results_none rfl _ _ _) rfl ?_
   exact⟨rfl,HF.out⟩
set_option maxHeartbeats 1600000 in
theorem wr_BraceCo(F:Nat)(ek:∀args w,(callFunc F args).run Tryz.prog w=.ok (.enter F args) w)(pr:Nm × Ty->List UInt8)(l:List (Nm × Ty))(S:Nat->Prop)(A:Option Addr)(m c:Nat)(B b:Nat)(l0:List UInt8)(w:World)(h:BldX B b l0 w)(hl:LstG pcC S w l A)(hm:l.length=m)(hm9:m<=100000)(hS:∀g,S g->g<B)(hlen:l0.length+(sepS (l.map pr)).length+2<=40000000000000)
  (HV:∀x∈l,∀(cs:List Value)(U:World)(l1:List UInt8),pcC.Cs S U x cs->WPX B b l1 w U->l1.length+(pr x).length<=40000000000000->Calls Tryz.prog F #[.pointer (some ⟨b,0,none⟩),.agg cs.toArray] U (PutP B b (l1++pr x) U)) :
  Calls Tryz.prog 89 #[.pointer (some ⟨b,0,none⟩),.slice A m c,.func (.func F) #[.pointer (some ⟨b,0,none⟩)] #[]] w (PutP B b (l0++123::(sepS (l.map pr)++[125])) w):=by
 have H0:=hidE (WPX.refl h)
 have HP:=hidE (wr_put1 (WPX.refl h) ⟨#[123]⟩ (by show l0.length+1<=_;omega))
 have HSEP:Hid (∀U,WPX B b (l0++[123]) w U->Calls Tryz.prog 135 #[.pointer (some ⟨b,0,none⟩),.slice A m c,.func (.func F) #[.pointer (some ⟨b,0,none⟩)] #[]] U (PutP B b (l0++[123]++sepS (l.map pr)) U)):=hidE λU hU =>
  wr_SepCo F ek pr l S A m c B b (l0++[123]) U hU.1 (hl.keep (λ_ h=>h) (λg hg=>hU.2.1.block g (hS g hg))) hm hm9 hS (by simp only[List.length_append,List.length_cons,List.length_nil];omega) (λx hx cs V l1 h1 h2 h3=>HV x hx cs V l1 h1 (hU.trans h2) h3)
 clear hl hS HV h
 go_enter Tryz.func89,Tryz.ntmps89
 go_wp2_with fail
 refine HP.out.mono ?_
 rintro e w2 ⟨rfl,h2⟩
 have H2:=hidE (H0.out.trans h2)
 have HC:=hidE (HSEP.out w2 H2.out)
 clear h2 HP HSEP
 go_wp2_with fail
 refine HC.out.mono ?_
 rintro e w3 ⟨rfl,h3⟩
 have H3:=hidE (H2.out.trans h3)
 have HP:=hidE (wr_put1 (WPX.refl h3.1) ⟨#[125]⟩ (by show(l0++[123]++sepS (l.map pr)).length+1<=_;simp only[List.length_append,List.length_cons,List.length_nil];omega))
 clear h3 HC
 go_wp2_with fail
 refine HP.out.mono ?_
 rintro e w4 ⟨rfl,h4⟩
 have H4:=hidE (H3.out.trans h4)
 clear h4 HP
 go_wp2_with fail
 first|go_end0|refine bodyPost_ret (results_none rfl _ _ _) rfl ?_
 exact⟨rfl,by have:=H4.out;simpa[List.append_assoc] using this⟩
theorem wr_type {t:Ty} {S:Nat->Prop} {v:Value} {B b:Nat} {l:List UInt8} {w w1:World}(hsz:t.size<=1000000)(hnm:Tx.Nm t)(hr:RdV S w t v)(hlt:∀g,S g->g<B)(hg:0<B)(htab:Tab w)(hl:t.print.length<=10000000000)(h:WPX B b l w w1) :
  ∀U,Below w1.heap.size w1 U->Calls Tryz.prog 22 #[v] U λe w'=>e=.returned (.string ⟨t.print.toArray⟩)/\Below U.heap.size U w':=λU hU=>by
 have hbl:=h.1.lt
 exact tc_print t S v U hsz hnm (hr.keep (λ_ h=>h) (λg hg=>(hU.block g (by have:=hlt g hg;omega)).trans (h.2.1.block g (hlt g hg)))) (λg hg=>by have:=hlt g hg;have:=hU.size;omega) ((h.tab htab hg).below hU) hl
set_option maxHeartbeats 3200000 in
theorem wr_con(c:Nm × Ty)(S:Nat->Prop)(cs:List Value)(B b:Nat)(l:List UInt8)(w:World)(hsz:c.2.size<=1000000)(hnm:Tx.Nm c.2)(hl:c.2.print.length<=10000000000)(hc:pcC.Cs S w c cs)(hlt:∀g,S g->g<B)(hbld:BldX B b l w)(hg:0<B)(htab:Tab w)(hll:l.length+(conS c).length<=40000000000000) :
  Calls Tryz.prog 90 #[.pointer (some ⟨b,0,none⟩),.agg cs.toArray] w (PutP B b (l++conS c) w):=by
 obtain⟨A,a,rfl,hA⟩:=hc
 obtain⟨K,X,Z,B0,m,q,hs⟩:=tyC_shape (some c.2) A a
 rw[show tyC (some c.2) A a=tyV c.2 A a from rfl]at hs
 have hr:RdV S w c.2 (.agg #[.int .i64 K,.string X,.int .i64 Z,.slice B0 m q]):=⟨A,a,congrArg (λl:List Value=>Value.agg l.toArray) hs.symm,hA⟩
 obtain⟨Y,hY⟩:∃Y:ByteArray,⟨c.1.toArray⟩=Y:=⟨_,rfl⟩
 have hY2:Y.data.toList=c.1:=by rw[<-hY]
 have hYs:Y.size=c.1.length:=by rw[<-hY];rfl
 obtain⟨TP,hTP⟩:∃P:ByteArray,⟨c.2.print.toArray⟩=P:=⟨_,rfl⟩
 have hTQ:TP.data.toList=c.2.print:=by rw[<-hTP]
 have hTs:TP.size=c.2.print.length:=by rw[<-hTP];rfl
 rw[hs,show(Sx.strV c.1::[Value.int .i64 K,.string X,.int .i64 Z,.slice B0 m q]).toArray=#[.string Y,.int .i64 K,.string X,.int .i64 Z,.slice B0 m q] by simp[Sx.strV,hY]]
 have hpr:conS c=c.1++([32,58,32]++c.2.print):=by simp[conS,sCol]
 rw[hpr]at hll ⊢
 simp only[List.length_append,List.length_cons,List.length_nil]at hll
 have hbl:=hbld.lt
 obtain⟨W0,hW0⟩:∃W,w.alloc (.cells #[.string Y,.int .i64 K,.string X,.int .i64 Z,.slice B0 m q] 61)=W:=⟨_,rfl⟩
 have hlw:Below w.heap.size w W0:=hW0▸(Below.refl _ w).alloc (Nat.le_refl _) _
 have hbk:Blk W0 w.heap.size 61 #[.string Y,.int .i64 K,.string X,.int .i64 Z,.slice B0 m q]:=hW0▸heap_alloc_new _ _
 have H0:=hidE ((WPX.refl hbld).next hlw)
 have hty:=wr_type hsz hnm hr hlt hg htab hl H0.out
 rw[hTP]at hty
 have HTY:=hidE hty
 have HTQ:Hid (Y.data.toList++((⟨#[32,58,32]⟩:ByteArray).data.toList++TP.data.toList)=c.1++([32,58,32]++c.2.print)):=hidE (by rw[hY2,hTQ])
 have f0:W0.cell? ⟨w.heap.size,0,none⟩=some (.string Y):=hbk.cell 0
 have f1:W0.cell? ⟨w.heap.size,1,none⟩=some (.int .i64 K):=hbk.cell 1
 have f2:W0.cell? ⟨w.heap.size,2,none⟩=some (.string X):=hbk.cell 2
 have f3:W0.cell? ⟨w.heap.size,3,none⟩=some (.int .i64 Z):=hbk.cell 3
 have f4:W0.cell? ⟨w.heap.size,4,none⟩=some (.slice B0 m q):=hbk.cell 4
 have hlt0:=hbk.lt
 have HBK:=hidE hbk
 clear hlw hbk hs hr hA hY hY2 hTP hTQ hbld hty hpr hnm hl hsz hlt htab
 go_enter Tryz.func90,Tryz.ntmps90
 go_upto_region 1 with fail
 try rw[hW0]
 clear hW0
 go_wp2_with fail
 go_region_with (first
  |(go_at_call 22;(with_reducible refine(HTY.out _ (by first|exact Below.refl _ _|exact(Below.refl _ _).drew)).mono ?_);rintro en k5 ⟨rfl,c5⟩;have GK5:Hid (Below W0.heap.size W0 k5):=hidE ((Below.refl W0.heap.size W0).drew.trans c5);have HK5:=hidE (HBK.out.below GK5.out hlt0);have e0:k5.cell? ⟨w.heap.size,0,none⟩=some (.string Y):=HK5.out.cell 0;have G5:=hidE (H0.out.next GK5.out);have HP5:=hidE (wr_put3 (WPX.refl G5.out.1) Y ⟨#[32,58,32]⟩ TP (by show l.length+Y.size+3+TP.size<=_;omega));clear c5)
  |(go_at_call 87;(with_reducible refine HP5.out.mono ?_);rintro en w6 ⟨rfl,h6⟩))
 all_goals
  rw[HTQ.out]at h6
  have H6:=hidE (G5.out.trans h6)
  clear h6
  go_wp2_with fail
  first|go_end0|refine bodyPost_ret (results_none rfl _ _ _) rfl ?_
  exact⟨rfl,H6.out⟩
end Go.Proofs.YtknkclefoiohpaaGreatDoor

namespace Go.Proofs.YtknkclefoiohpaaGreatDoor
open Go.RowKit Lx Tx Sx Go.Shelf
set_option maxRecDepth 100000
set_option maxHeartbeats 6400000 in
theorem decl_sig(t:Ty)(Y:ByteArray)(V:Option Addr)(vm vq:Nat)(G:Option Addr)(gm gq:Nat)(K0:Int)(X0:ByteArray)(Z0:Int)(B0:Option Addr)(m0 q0:Nat)(k:Int)(x:ByteArray)(t1:Bool)(K:Int)(X:ByteArray)(Z:Int)(B1:Option Addr)(m q:Nat)(KA:Option Addr)(kn kc:Nat)(LA:Option Addr)(ln lc:Nat)(S:Nat->Prop)(B b:Nat)(l:List UInt8)(w:World)(hlt:∀g,S g->g<B)(hbld:BldX B b l w)(hg:0<B)(htab:Tab w)
  (hsz:t.size<=1000000)(hnm:Tx.Nm t)(hr:RdV S w t (.agg #[.int .i64 K0,.string X0,.int .i64 Z0,.slice B0 m0 q0]))(hll:l.length+Y.size+3+t.print.length<=40000000000000) :
  Calls Tryz.prog 37 #[.pointer (some ⟨b,0,none⟩),.agg #[.int .i64 2,.string Y,.slice V vm vq,.slice G gm gq,.int .i64 K0,.string X0,.int .i64 Z0,.slice B0 m0 q0,.int .i64 k,.string x,.bool t1,.int .i64 K,.string X,.int .i64 Z,.slice B1 m q,.slice KA kn kc,.slice LA ln lc]] w (PutP B b (l++(Y.data.toList++([32,58,32]++t.print))) w):=by
 have hbl:=hbld.lt
 obtain⟨W0,hW0⟩:∃W,w.alloc (.cells #[.int .i64 2,.string Y,.slice V vm vq,.slice G gm gq,.int .i64 K0,.string X0,.int .i64 Z0,.slice B0 m0 q0,.int .i64 k,.string x,.bool t1,.int .i64 K,.string X,.int .i64 Z,.slice B1 m q,.slice KA kn kc,.slice LA ln lc] 59)=W:=⟨_,rfl⟩
 have hlw:Below w.heap.size w W0:=hW0▸(Below.refl _ w).alloc (Nat.le_refl _) _
 have hbk:Blk W0 w.heap.size 59 #[.int .i64 2,.string Y,.slice V vm vq,.slice G gm gq,.int .i64 K0,.string X0,.int .i64 Z0,.slice B0 m0 q0,.int .i64 k,.string x,.bool t1,.int .i64 K,.string X,.int .i64 Z,.slice B1 m q,.slice KA kn kc,.slice LA ln lc]:=hW0▸heap_alloc_new _ _
 have H0:=hidE ((WPX.refl hbld).next hlw)
 have HBK:=hidE hbk
 have HLT:=hidE hlt
 have hlt0:=hbk.lt
 have hpl:t.print.length<=10000000000:=by have:=(print_len t hnm).1;omega
 have hty:=wr_type hsz hnm hr hlt hg htab hpl H0.out
 obtain⟨TP,hTP⟩:∃P:ByteArray,⟨t.print.toArray⟩=P:=⟨_,rfl⟩
 have hTs:TP.size=t.print.length:=by rw[<-hTP];rfl
 have HTQ:Hid (Y.data.toList++((⟨#[32,58,32]⟩:ByteArray).data.toList++TP.data.toList)=Y.data.toList++([32,58,32]++t.print)):=hidE (by rw[<-hTP])
 rw[hTP]at hty
 have HTY:=hidE hty
 obtain⟨⟨f0,f1,f2,f3,f4,f5,f6,f7,f8,f9,f10,f11,f12,f13,f14,f15,f16⟩,-,-⟩:=blk_facts17 hbk
 clear hlw hbk hbld hlt htab hty hr hnm hTP hsz hpl
 go_enter Tryz.func37,Tryz.ntmps37
 go_upto_region 1 with fail
 try rw[hW0]
 clear hW0
 go_wp2_with fail
 go_region_with (first
  |(go_at_call 22;(with_reducible refine(HTY.out _ (by first|exact Below.refl _ _|exact(Below.refl _ _).drew)).mono ?_);rintro en k5 ⟨rfl,c5⟩;have GK5:Hid (Below W0.heap.size W0 k5):=hidE ((Below.refl W0.heap.size W0).drew.trans c5);have HK5:=hidE (HBK.out.below GK5.out hlt0);have e0:k5.cell? ⟨w.heap.size,1,none⟩=some (.string Y):=HK5.out.cell 1;have G5:=hidE (H0.out.next GK5.out);have HP5:=hidE (wr_put3 (WPX.refl G5.out.1) Y ⟨#[32,58,32]⟩ TP (by show l.length+Y.size+3+TP.size<=_;omega));clear c5)
  |(go_at_call 87;(with_reducible refine HP5.out.mono ?_);rintro en w6 ⟨rfl,h6⟩))
 all_goals
  rw[HTQ.out]at h6
  have H6:=hidE (G5.out.trans h6)
  clear h6
  go_wp2_with fail
  first|go_end0|refine bodyPost_ret (results_none rfl _ _ _) rfl ?_
  exact⟨rfl,H6.out⟩
set_option maxHeartbeats 6400000 in
theorem decl_bind(e:Ex)(Y:ByteArray)(V:Option Addr)(vm vq:Nat)(G:Option Addr)(gm gq:Nat)(K0:Int)(X0:ByteArray)(Z0:Int)(B0:Option Addr)(m0 q0:Nat)(k:Int)(x:ByteArray)(t1:Bool)(K:Int)(X:ByteArray)(Z:Int)(B1:Option Addr)(m q:Nat)(KA:Option Addr)(kn kc:Nat)(LA:Option Addr)(ln lc:Nat)(S:Nat->Prop)(B b:Nat)(l:List UInt8)(w:World)(hlt:∀g,S g->g<B)(hbld:BldX B b l w)(hg:0<B)(htab:Tab w)
  (hok:e.Ok)(hwt:e.wt<=9000)(hr:RdX S w e (.agg #[.int .i64 k,.string x,.bool t1,.int .i64 K,.string X,.int .i64 Z,.slice B1 m q,.slice KA kn kc,.slice LA ln lc]))(hll:l.length+Y.size+3+e.print.length<=40000000000000) :
  Calls Tryz.prog 37 #[.pointer (some ⟨b,0,none⟩),.agg #[.int .i64 3,.string Y,.slice V vm vq,.slice G gm gq,.int .i64 K0,.string X0,.int .i64 Z0,.slice B0 m0 q0,.int .i64 k,.string x,.bool t1,.int .i64 K,.string X,.int .i64 Z,.slice B1 m q,.slice KA kn kc,.slice LA ln lc]] w (PutP B b (l++(Y.data.toList++([32,61,32]++e.print))) w):=by
 have hbl:=hbld.lt
 obtain⟨W0,hW0⟩:∃W,w.alloc (.cells #[.int .i64 3,.string Y,.slice V vm vq,.slice G gm gq,.int .i64 K0,.string X0,.int .i64 Z0,.slice B0 m0 q0,.int .i64 k,.string x,.bool t1,.int .i64 K,.string X,.int .i64 Z,.slice B1 m q,.slice KA kn kc,.slice LA ln lc] 59)=W:=⟨_,rfl⟩
 have hlw:Below w.heap.size w W0:=hW0▸(Below.refl _ w).alloc (Nat.le_refl _) _
 have hbk:Blk W0 w.heap.size 59 #[.int .i64 3,.string Y,.slice V vm vq,.slice G gm gq,.int .i64 K0,.string X0,.int .i64 Z0,.slice B0 m0 q0,.int .i64 k,.string x,.bool t1,.int .i64 K,.string X,.int .i64 Z,.slice B1 m q,.slice KA kn kc,.slice LA ln lc]:=hW0▸heap_alloc_new _ _
 have H0:=hidE ((WPX.refl hbld).next hlw)
 have HBK:=hidE hbk
 have HLT:=hidE hlt
 have hlt0:=hbk.lt
 have HR:=hidE hr
 have HTB:=hidE htab
 have HO:=hidE (And.intro hok hwt)
 have HP2:=hidE (wr_put2d H0.out.1 Y ⟨#[32,61,32]⟩ (by show l.length+Y.size+3<=_;omega))
 obtain⟨⟨f0,f1,f2,f3,f4,f5,f6,f7,f8,f9,f10,f11,f12,f13,f14,f15,f16⟩,-,-⟩:=blk_facts17 hbk
 clear hlw hbk hbld hlt htab hr hok hwt
 go_enter Tryz.func37,Tryz.ntmps37
 go_upto_region 1 with fail
 try rw[hW0]
 clear hW0
 go_wp2_with fail
 go_region_with (go_at_call 87;(with_reducible refine HP2.out.mono ?_);rintro en w2 ⟨rfl,h2⟩)
 all_goals
  replace h2:WPX B b (l++(Y.data.toList++[32,61,32])) W0 w2:=h2
  have hs2:=h2.sz
  have hbk2:=h2.blk HBK.out (by omega) (by decide)
  have H2:=hidE (H0.out.trans h2)
  clear f0 f1 f2 f3 f4 f5 f6 f7 f8 f9 f10 f11 f12 f13 f14 f15 f16 h2
  obtain⟨⟨f0,f1,f2,f3,f4,f5,f6,f7,f8,f9,f10,f11,f12,f13,f14,f15,f16⟩,-,-⟩:=blk_facts17 hbk2
  have hlt2:=hbk2.lt
  have HE:=hidE (wr_expr e.size (wr_bare _) e 0 S _ B b _ w2 (Nat.le_refl _) (by decide) ⟨HO.out.1,HO.out.2,H2.out.rdX HR.out HLT.out,HLT.out,H2.out.1,hg,H2.out.tab HTB.out hg⟩ (by rw[outE_0];simp only[List.length_append,List.length_cons,List.length_nil];rw[<-Lib.size_eq];omega))
  rw[outE_0]at HE
  clear hbk2
  go_wp2_with fail
  refine HE.out.mono ?_
  rintro en w3 ⟨rfl,h3⟩
  have H3:=hidE (H2.out.trans h3)
  clear h3 HE
  go_wp2_with fail
  first|go_end0|refine bodyPost_ret (results_none rfl _ _ _) rfl ?_
  exact⟨rfl,by have:=H3.out;simpa[List.append_assoc] using this⟩
set_option maxHeartbeats 6400000 in
theorem decl_dat(ps:List Nm)(cl:List (Nm × Ty))(Y:ByteArray)(V:Option Addr)(vm vq:Nat)(G:Option Addr)(gm gq:Nat)(K0:Int)(X0:ByteArray)(Z0:Int)(B0:Option Addr)(m0 q0:Nat)(k:Int)(x:ByteArray)(t1:Bool)(K:Int)(X:ByteArray)(Z:Int)(B1:Option Addr)(m q:Nat)(KA:Option Addr)(kn kc:Nat)(LA:Option Addr)(ln lc:Nat)(S:Nat->Prop)(B b:Nat)(l:List UInt8)(w:World)(hlt:∀g,S g->g<B)(hbld:BldX B b l w)(hg:0<B)(htab:Tab w)
  (hV:NmsIn S w ps V)(hvm:ps.length=vm)(hvm9:vm<=100000)(hG:LstG pcC S w cl G)(hgm:cl.length=gm)(hgm9:gm<=100000)(hcl:∀c∈cl,c.2.size<=1000000/\Tx.Nm c.2)
  (hll:l.length+Y.size+(spaced ps).length+(sepS (cl.map conS)).length+8<=40000000000000) :
  Calls Tryz.prog 37 #[.pointer (some ⟨b,0,none⟩),.agg #[.int .i64 1,.string Y,.slice V vm vq,.slice G gm gq,.int .i64 K0,.string X0,.int .i64 Z0,.slice B0 m0 q0,.int .i64 k,.string x,.bool t1,.int .i64 K,.string X,.int .i64 Z,.slice B1 m q,.slice KA kn kc,.slice LA ln lc]] w (PutP B b (l++([100,97,116,97,32]++Y.data.toList++spaced ps++[32]++123::(sepS (cl.map conS)++[125]))) w):=by
 have hbl:=hbld.lt
 obtain⟨W0,hW0⟩:∃W,w.alloc (.cells #[.int .i64 1,.string Y,.slice V vm vq,.slice G gm gq,.int .i64 K0,.string X0,.int .i64 Z0,.slice B0 m0 q0,.int .i64 k,.string x,.bool t1,.int .i64 K,.string X,.int .i64 Z,.slice B1 m q,.slice KA kn kc,.slice LA ln lc] 59)=W:=⟨_,rfl⟩
 have hlw:Below w.heap.size w W0:=hW0▸(Below.refl _ w).alloc (Nat.le_refl _) _
 have hbk:Blk W0 w.heap.size 59 #[.int .i64 1,.string Y,.slice V vm vq,.slice G gm gq,.int .i64 K0,.string X0,.int .i64 Z0,.slice B0 m0 q0,.int .i64 k,.string x,.bool t1,.int .i64 K,.string X,.int .i64 Z,.slice B1 m q,.slice KA kn kc,.slice LA ln lc]:=hW0▸heap_alloc_new _ _
 have H0:=hidE ((WPX.refl hbld).next hlw)
 have HBK:=hidE hbk
 have HLT:=hidE hlt
 have hlt0:=hbk.lt
 have HV:=hidE hV
 have HG:=hidE hG
 have HTB:=hidE htab
 have HCL:=hidE hcl
 have HVM:=hidE (And.intro hvm hgm)
 have hYs:Y.size=Y.data.toList.length:=Lib.size_eq Y
 have ek:∀args w,(callFunc 90 args).run Tryz.prog w=.ok (.enter 90 args) w:=enters_of Tryz.func90 (by kernel_rfl) rfl
 have HP2:=hidE (wr_put2d H0.out.1 ⟨#[100,97,116,97,32]⟩ Y (by show l.length+5+Y.size<=_;omega))
 obtain⟨L2,hL2⟩:∃L2,l++([100,97,116,97,32]++Y.data.toList)=L2:=⟨_,rfl⟩
 have hl2:L2.length=l.length+5+Y.size:=by rw[<-hL2];simp only[List.length_append,List.length_cons,List.length_nil];omega
 have HL2:=hidE hL2
 obtain⟨⟨f0,f1,f2,f3,f4,f5,f6,f7,f8,f9,f10,f11,f12,f13,f14,f15,f16⟩,-,-⟩:=blk_facts17 hbk
 clear hlw hbk hbld hlt htab hV hG hcl hvm hgm hL2
 go_enter Tryz.func37,Tryz.ntmps37
 go_upto_region 1 with fail
 try rw[hW0]
 clear hW0
 go_wp2_with fail
 go_cut [0] from 8 to 14 (λu wx=>u=.pointer (some ⟨b,0,none⟩)/\Hid (WPX B b L2 W0 wx))
 case first =>
  go_wp2_with fail
  go_region_with (go_at_call 87;(with_reducible refine HP2.out.mono ?_);rintro en w2 ⟨rfl,h2⟩)
  all_goals
   have HQ:Hid (WPX B b L2 W0 w2):=hidE (by rw[<-HL2.out];exact h2)
   clear h2
   go_wp2_with fail
   go_meet
   case rel=>exact⟨rfl,HQ⟩
 obtain⟨rfl,hc2⟩:=hcut
 have h2:=hc2.out
 have hs2:=h2.sz
 have hbk2:=h2.blk HBK.out (by omega) (by decide)
 have HBK:=hidE hbk2
 have H2:=hidE (H0.out.trans h2)
 have hbl2:=h2.1.lt
 clear f0 f1 f2 f3 f4 f5 f6 f7 f8 f9 f10 f11 f12 f13 f14 f15 f16 hc2 HP2
 obtain⟨⟨f0,f1,f2,f3,f4,f5,f6,f7,f8,f9,f10,f11,f12,f13,f14,f15,f16⟩,-,hlt2⟩:=blk_facts17 hbk2
 clear h2 hbk2
 have HNM:Hid (∀U,Below wc.heap.size wc U->Calls Tryz.prog 88 #[.pointer (some ⟨b,0,none⟩),.string ⟨#[32]⟩,.slice V vm vq] U λe w'=>e=.returned (.tuple #[])/\WPX B b (L2++spaced ps) U w'):=hidE λU hU =>
  wr_Names B b L2 ps S V vm vq U (H2.out.next hU).1 (HV.out.keep (λ_ h=>h) (λg hg=>(H2.out.next hU).2.1.block g (HLT.out g hg))) HLT.out HVM.out.1 hvm9 (by omega)
 obtain⟨w2,hw2⟩:∃y,y=wc:=⟨_,rfl⟩
 subst hw2
 go_upto_region 4 with fail
 go_cut [0] from 15 to 20 (λu wx=>u=.pointer (some ⟨b,0,none⟩)/\Hid (∃U,Below w2.heap.size w2 U/\WPX B b (L2++spaced ps) U wx))
 case first =>
  go_wp2_with fail
  go_region_with (go_at_call 88;(with_reducible refine(HNM.out _ (by first|exact Below.refl _ _|exact(Below.refl _ _).drew)).mono ?_);rintro en w3 ⟨rfl,h3⟩)
  all_goals
   have HQ:Hid (∃U,Below w2.heap.size w2 U/\WPX B b (L2++spaced ps) U w3):=hidE ⟨_,(by first|exact(Below.refl w2.heap.size w2).drew|exact Below.refl _ _),h3⟩
   clear h3
   go_wp2_with fail
   go_meet
   case rel=>exact⟨rfl,HQ⟩
 obtain⟨rfl,hc3⟩:=hcut
 obtain⟨U3,hu3,h3⟩:=hc3.out
 have hsu:=hu3.size
 have hs3:=h3.sz
 have hbk3:=h3.blk (HBK.out.below hu3 hlt2) (by omega) (by decide)
 have HBK:=hidE hbk3
 have H3:=hidE ((H2.out.next hu3).trans h3)
 have hbl3:=h3.1.lt
 clear f0 f1 f2 f3 f4 f5 f6 f7 f8 f9 f10 f11 f12 f13 f14 f15 f16 hc3 HNM
 obtain⟨⟨f0,f1,f2,f3,f4,f5,f6,f7,f8,f9,f10,f11,f12,f13,f14,f15,f16⟩,-,hlt3⟩:=blk_facts17 hbk3
 clear h3 hbk3
 have HP4:=hidE (wr_put1 (WPX.refl H3.out.1) ⟨#[32]⟩ (by show(L2++spaced ps).length+1<=_;simp only[List.length_append];omega))
 go_wp2_with fail
 refine HP4.out.mono ?_
 rintro en w4 ⟨rfl,h4⟩
 have hs4:=h4.sz
 have hbk4:=h4.blk HBK.out (by omega) (by decide)
 have H4:=hidE (H3.out.trans h4)
 replace H4:Hid (WPX B b (L2++spaced ps++[32]) w w4):=H4
 clear f0 f1 f2 f3 f4 f5 f6 f7 f8 f9 f10 f11 f12 f13 f14 f15 f16 HP4
 obtain⟨⟨f0,f1,f2,f3,f4,f5,f6,f7,f8,f9,f10,f11,f12,f13,f14,f15,f16⟩,-,hlt4⟩:=blk_facts17 hbk4
 have HBR:Hid (∀U,Below w4.heap.size w4 U->Calls Tryz.prog 89 #[.pointer (some ⟨b,0,none⟩),.slice G gm gq,.func (.func 90) #[.pointer (some ⟨b,0,none⟩)] #[]] U (PutP B b (L2++spaced ps++[32]++123::(sepS (cl.map conS)++[125])) U)):=hidE λU hU =>
  wr_BraceCo _ ek conS cl S G gm gq B b _ U (H4.out.next hU).1 (HG.out.keep (λ_ h=>h) (λg hg=>(H4.out.next hU).2.1.block g (HLT.out g hg))) HVM.out.2 hgm9 HLT.out (by simp only[List.length_append,List.length_cons,List.length_nil];omega)
   (λc hc cs V' l1 h1 h2 h3=>wr_con c S cs B b l1 V' (HCL.out c hc).1 (HCL.out c hc).2 (by have:=(print_len c.2 (HCL.out c hc).2).1;have:=(HCL.out c hc).1;omega) h1 HLT.out h2.1 hg (((H4.out.next hU).trans h2).tab HTB.out hg) h3)
 have hbl4:=H4.out.1.lt
 clear h4 hbk4
 go_wp2_with fail
 go_region_with (go_at_call 89;(with_reducible refine(HBR.out _ (by first|exact Below.refl _ _|exact(Below.refl _ _).drew)).mono ?_);rintro en w5 ⟨rfl,h5⟩)
 all_goals
  have H5:=hidE ((H4.out.next (Below.refl w4.heap.size w4).drew).trans h5)
  clear h5
  go_wp2_with fail
  first|go_end0|refine bodyPost_ret (results_none rfl _ _ _) rfl ?_
  exact⟨rfl,by have:=H5.out;rw[<-HL2.out]at this;simpa[List.append_assoc] using this⟩
end Go.Proofs.YtknkclefoiohpaaGreatDoor

namespace Go.Proofs.YtknkclefoiohpaaGreatDoor
open Go.RowKit Lx Tx Sx Go.Shelf
set_option maxRecDepth 100000
theorem wr_decl(d:De)(S:Nat->Prop)(cs:List Value)(B b:Nat)(l:List UInt8)(w:World)(hok:d.Ok)(hwt:d.wt<=9000)(hc:pcD.Cs S w d cs)(hlt:∀g,S g->g<B)(hbld:BldX B b l w)(hg:0<B)(htab:Tab w)(hll:l.length+d.print.length<=40000000000000) :
  Calls Tryz.prog 37 #[.pointer (some ⟨b,0,none⟩),.agg cs.toArray] w (PutP B b (l++d.print) w):=by
 cases d with
 | data n ps cl =>
  obtain⟨V,v,A,a,rfl,hV,hG⟩:=hc
  have hw:=hwt
  rw[De.wt]at hw
  have hcl:=consW_len cl
  rw[De.print]at hll
  simp only[List.length_append,List.length_cons,List.length_nil,wData]at hll
  have hns:(⟨n.toArray⟩:ByteArray).size=n.length:=rfl
  have:=decl_dat ps cl ⟨n.toArray⟩ V ps.length v A cl.length a 0 ⟨#[]⟩ 0 none 0 0 0 ⟨#[]⟩ false 0 ⟨#[]⟩ 0 none 0 0 none 0 0 none 0 0 S B b l w hlt hbld hg htab hV rfl (by omega) hG rfl (by omega) (λc hc=>⟨by have:=consW_mem cl c hc;omega,(hok.2.2 c hc).2⟩) (by rw[hns];omega)
  rw[show([100,97,116,97,32]++(⟨n.toArray⟩:ByteArray).data.toList++spaced ps++[32]++123::(sepS (cl.map conS)++[125]))=(De.data n ps cl).print by rw[De.print];simp[wData]]at this
  exact this
 | sig x t =>
  obtain⟨A,a,rfl,hA⟩:=hc
  have hw:=hwt
  rw[De.wt]at hw
  rw[De.print]at hll
  simp only[List.length_append,sCol,List.length_cons,List.length_nil]at hll
  have hns:(⟨x.toArray⟩:ByteArray).size=x.length:=rfl
  have:=decl_sig t ⟨x.toArray⟩ none 0 0 none 0 0 (kd t:Nat) (nmB t) (nn t:Nat) A (kids t).length a 0 ⟨#[]⟩ false 0 ⟨#[]⟩ 0 none 0 0 none 0 0 none 0 0 S B b l w hlt hbld hg htab (by omega) hok.2 ⟨A,a,rfl,hA⟩ (by rw[hns];omega)
  rw[show((⟨x.toArray⟩:ByteArray).data.toList++([32,58,32]++t.print))=(De.sig x t).print by rw[De.print];simp[sCol]]at this
  exact this
 | bind x e =>
  obtain⟨P,rfl,h2,h3⟩:=hc
  have hw:=hwt
  rw[De.wt]at hw
  rw[De.print]at hll
  simp only[List.length_append,sEq,List.length_cons,List.length_nil]at hll
  obtain⟨k1,x1,t1,K1,X1,Z1,B1,m1,q1,KA1,kn1,kc1,LA1,ln1,lc1,hs⟩:=exC_shp e P
  rw[hs]
  have hns:(⟨x.toArray⟩:ByteArray).size=x.length:=rfl
  have:=decl_bind e ⟨x.toArray⟩ none 0 0 none 0 0 0 ⟨#[]⟩ 0 none 0 0 k1 x1 t1 K1 X1 Z1 B1 m1 q1 KA1 kn1 kc1 LA1 ln1 lc1 S B b l w hlt hbld hg htab hok.2 (by omega) ⟨P,by rw[hs],h2,h3⟩ (by rw[hns];omega)
  rw[show((⟨x.toArray⟩:ByteArray).data.toList++([32,61,32]++e.print))=(De.bind x e).print by rw[De.print];simp[sEq]]at this
  exact this
theorem deCs_one2 {S:Nat->Prop} {w:World} {x:De} {cs:List Value}(h:pcD.Cs S w x cs):cs.length=17/\cs.toArray.all (·.oneCell')=true:=by
 refine⟨pcD.len h,?_⟩
 cases x with
 | data n ps l =>
  obtain⟨V,v,A,a,rfl,-⟩:=h
  simp[tyZl,exZl,Value.oneCell',Sx.strV]
 | sig n t =>
  obtain⟨A,a,rfl,-⟩:=h
  obtain⟨K,X,Z,B,mm,q,hs⟩:=tyC_shape (some t) A a
  rw[show tyV t A a=tyC (some t) A a from rfl,hs]
  simp[exZl,Value.oneCell',Sx.strV]
 | bind n e =>
  obtain⟨P,rfl,-⟩:=h
  obtain⟨k1,x1,t1,K1,X1,Z1,B1,m1,q1,KA1,kn1,kc1,LA1,ln1,lc1,hs⟩:=exC_shp e P
  rw[hs]
  simp[tyZl,Value.oneCell',Sx.strV]
set_option maxHeartbeats 6400000 in
theorem wr_SepDe(F:Nat)(ek:∀args w,(callFunc F args).run Tryz.prog w=.ok (.enter F args) w)(pr:De->List UInt8)(l:List (De))(S:Nat->Prop)(A:Option Addr)(m c:Nat)(B b:Nat)(l0:List UInt8)(w:World)(h:BldX B b l0 w)(hl:LstG pcD S w l A)(hm:l.length=m)(hm9:m<=100000)(hS:∀g,S g->g<B)(hlen:l0.length+(sepS (l.map pr)).length<=40000000000000)
  (HV:∀x∈l,∀(cs:List Value)(U:World)(l1:List UInt8),pcD.Cs S U x cs->WPX B b l1 w U->l1.length+(pr x).length<=40000000000000->Calls Tryz.prog F #[.pointer (some ⟨b,0,none⟩),.agg cs.toArray] U (PutP B b (l1++pr x) U)) :
  Calls Tryz.prog 36 #[.pointer (some ⟨b,0,none⟩),.slice A m c,.func (.func F) #[.pointer (some ⟨b,0,none⟩)] #[]] w (PutP B b (l0++sepS (l.map pr)) w):=by
 have HL:=hidE hl
 have HM:=hidE hm
 have HS:=hidE hS
 have HHV:=hidE HV
 have H0:=hidE (WPX.refl h)
 have hbl:=h.lt
 have HINF:Hid ((Tryz.prog.info? 59).map (·.size)=some 17):=hidE (by kernel_rfl)
 clear hl hm h hS HV
 go_enter Tryz.func36,Tryz.ntmps36
 go_wp2_with fail
 go_loopg [10] m (λgg vi wr=>∃i:Nat,gg=m-i/\vi=.int .i64 (i:Nat)/\i<=m/\Hid (WPX B b (l0++sepS ((l.take i).map pr)) w wr))
 case atStart=>exact⟨0,rfl,rfl,by omega,hidE (by simpa[sepS] using H0.out)⟩
 case round =>
  obtain⟨i,rfl,rfl,hi,hW⟩:=hrel
  have hsr:=hW.out.sz
  by_cases hlt:i<m
  ·obtain⟨x,hx⟩:∃x,l[i]? = some x:=⟨_,List.getElem?_eq_getElem (by rw[HM.out];exact hlt)⟩
   obtain⟨g,cs,rfl,hSg,hcs,hrow⟩:=HL.out.row i x hx
   have hgB:=HS.out g hSg
   have hkS:∀k,S k->wr.heap[k]? = w.heap[k]?:=λk hk=>hW.out.2.1.block k (HS.out k hk)
   obtain⟨hlen1,hone⟩:=deCs_one2 hcs
   have HROW:Hid (wr.rangeAt g (i*17) cs):=hidE (Lie.keep hrow (hkS g hSg))
   have HLEN:Hid ((Tryz.prog.info? 59).map (·.size)=some cs.length):=hidE (by rw[hlen1];exact HINF.out)
   have HLEN2:Hid ((Tryz.prog.info? 59).map (·.size)=some cs.toArray.size):=hidE (by rw[List.size_toArray,hlen1];exact HINF.out)
   have HZ:Hid ((#[.int .i64 0,.string ⟨#[]⟩,.slice none 0 0,.slice none 0 0,.int .i64 0,.string ⟨#[]⟩,.int .i64 0,.slice none 0 0,.int .i64 0,.string ⟨#[]⟩,.bool false,.int .i64 0,.string ⟨#[]⟩,.int .i64 0,.slice none 0 0,.slice none 0 0,.slice none 0 0]:Array Value).size=cs.toArray.size):=hidE (by rw[show cs.toArray.size=17 by rw[List.size_toArray,hlen1]];rfl)
   have HONE:=hidE hone
   have hgl:g<wr.heap.size:=by omega
   have hmem:=List.mem_of_getElem? hx
   have hl1:=sepS_take l pr i x hx
   have hl2:=sepS_len l pr (i+1)
   rw[hl1]at hl2
   have ii0:(0:Int)<=(i:Int):=by omega
   have ii1:(i:Int)<(m:Int):=by omega
   obtain⟨Wx,hWx⟩:∃y,wr.alloc (.cells cs.toArray 59)=y:=⟨_,rfl⟩
   have hbx:Below wr.heap.size wr Wx:=hWx▸(Below.refl _ wr).alloc (Nat.le_refl _) _
   have hsx:wr.heap.size+1<=Wx.heap.size:=by rw[<-hWx];simp
   have HBX:Hid (Wx.heap[wr.heap.size]? = some (.cells cs.toArray 59 (0,0))):=hidE (hWx▸heap_alloc_new wr _)
   have HX:=hidE (hW.out.next hbx)
   have HCS:=hidE hcs
   have HST:=hidE hl1
   have hblx:=HX.out.1.lt
   have HMEM:=hidE hmem
   simp only[List.length_append]at hl2
   clear hx hSg hcs hrow hkS hlen1 hone hbx hl1 hmem
   by_cases h0:i=0
   ·subst h0
    have HC:=hidE (HHV.out x HMEM.out cs Wx (l0++sepS ((l.take 0).map pr)) (pcD.keep (λ_ h=>h) (λk hk=>HX.out.2.1.block k (HS.out k hk)) HCS.out) HX.out (by simp only[List.length_append];simp only[if_true,List.length_nil]at hl2;omega))
    go_wp2_with (first|((with_reducible refine wpList_load_mid ?_ 59 (.tmp 13) ?_ g 0 ?_ cs _ HROW.out Tryz.underlying59 ?_ HLEN.out ?_);(exact rfl);(exact rfl);(exact rfl);(exact rfl))|((with_reducible refine wpList_store_row ?_ 59 (.tmp 7) (.tmp 14) ?_ wr.heap.size cs.toArray ?_ ?_ 59 #[.int .i64 0,.string ⟨#[]⟩,.slice none 0 0,.slice none 0 0,.int .i64 0,.string ⟨#[]⟩,.int .i64 0,.slice none 0 0,.int .i64 0,.string ⟨#[]⟩,.bool false,.int .i64 0,.string ⟨#[]⟩,.int .i64 0,.slice none 0 0,.slice none 0 0,.slice none 0 0] (heap_alloc_new wr _) HLEN2.out HZ.out HONE.out ?_);(exact rfl);(exact rfl);(exact rfl);(exact rfl);rw[World.setRow_alloc_new])|((with_reducible refine wpList_load_row ?_ 59 (.tmp 7) ?_ wr.heap.size ?_ 59 cs.toArray (0,0) _ HBX.out Tryz.underlying59 ?_ HLEN2.out ?_);(exact rfl);(exact rfl);(exact rfl);(exact rfl)))
    try rw[hWx]
    refine HC.out.mono ?_
    rintro e w3 ⟨rfl,h3⟩
    have HW3:=hidE (HX.out.trans h3)
    clear h3 HC
    go_wp2_with fail
    go_roundg (m-(0+1))
    case measure=>omega
    case rel=>exact⟨1,rfl,by go_num,by omega,hidE (by rw[HST.out];simpa[List.append_assoc] using HW3.out)⟩
   ·have d0:decide ((0:Int)<(i:Int))=true:=decide_eq_true (by omega)
    have d1:decide (0<i)=true:=decide_eq_true (by omega)
    rw[if_neg h0]at hl2
    simp only[sSem,List.length_cons,List.length_nil]at hl2
    have HP:=hidE (wr_put1 (WPX.refl HX.out.1) ⟨#[59,32]⟩ (by show(l0++sepS ((l.take i).map pr)).length+2<=_;simp only[List.length_append];omega))
    go_wp2_with (first|((with_reducible refine wpList_load_mid ?_ 59 (.tmp 13) ?_ g (i*17) ?_ cs _ HROW.out Tryz.underlying59 ?_ HLEN.out ?_);(exact rfl);(exact rfl);(exact rfl);(exact rfl))|((with_reducible refine wpList_store_row ?_ 59 (.tmp 7) (.tmp 14) ?_ wr.heap.size cs.toArray ?_ ?_ 59 #[.int .i64 0,.string ⟨#[]⟩,.slice none 0 0,.slice none 0 0,.int .i64 0,.string ⟨#[]⟩,.int .i64 0,.slice none 0 0,.int .i64 0,.string ⟨#[]⟩,.bool false,.int .i64 0,.string ⟨#[]⟩,.int .i64 0,.slice none 0 0,.slice none 0 0,.slice none 0 0] (heap_alloc_new wr _) HLEN2.out HZ.out HONE.out ?_);(exact rfl);(exact rfl);(exact rfl);(exact rfl);rw[World.setRow_alloc_new]))
    try rw[hWx]
    refine HP.out.mono ?_
    rintro e w2 ⟨rfl,h2⟩
    have HB2:=hidE (h2.2.2 wr.heap.size _ HBX.out (by simp;omega) (λc fz e=>by injection e with e1 e2;revert e2;decide))
    have H2:=hidE (HX.out.trans h2)
    have hs2:=h2.sz
    have HC:=hidE (HHV.out x HMEM.out cs w2 (l0++sepS ((l.take i).map pr)++[59,32]) (pcD.keep (λ_ h=>h) (λk hk=>H2.out.2.1.block k (HS.out k hk)) HCS.out) H2.out (by simp only[List.length_append,List.length_cons,List.length_nil];omega))
    clear h2 HP
    go_wp2_with ((with_reducible refine wpList_load_row ?_ 59 (.tmp 7) ?_ wr.heap.size ?_ 59 cs.toArray (0,0) _ HB2.out Tryz.underlying59 ?_ HLEN2.out ?_);(exact rfl);(exact rfl);(exact rfl);(exact rfl))
    refine HC.out.mono ?_
    rintro e w3 ⟨rfl,h3⟩
    have HW3:=hidE (H2.out.trans h3)
    clear h3 HC
    go_wp2_with fail
    go_roundg (m-(i+1))
    case measure=>omega
    case rel=>exact⟨i+1,rfl,by go_num,by omega,hidE (by rw[HST.out,if_neg h0];simpa[sSem,List.append_assoc] using HW3.out)⟩
  ·have him:i=m:=by omega
   subst him
   have HF:Hid (WPX B b (l0++sepS (l.map pr)) w wr):=hidE (by have:=hW.out;rwa [List.take_of_length_le (by rw[HM.out];exact Nat.le_refl _)]at this)
   clear hW
   go_wp2_with fail
   first|go_end0|refine bodyPost_ret (results_none rfl _ _ _) rfl ?_
   exact⟨rfl,HF.out⟩
theorem printD_len(d:De)(hok:d.Ok):d.print≠[]/\d.print.length<=200*d.wt:=by
 cases d with
 | data n ps cl =>
  refine⟨by rw[De.print];simp[wData],?_⟩
  have h1:=gd_len hok.1 (by decide)
  have h2:∀ps:List Nm,(∀x∈ps,Gd 1 x)->(spaced ps).length<=25*ps.length:=λps=>by
   induction ps with
   | nil=>intro _;simp[spaced]
   | cons x r ih =>
    intro h
    have:=ih (λy hy=>h y (List.mem_cons_of_mem _ hy))
    have:=gd_len (h x List.mem_cons_self) (by decide)
    unfold spaced at *
    simp only[List.flatMap_cons,List.length_append,List.length_cons]
    omega
  have h3:∀cl:List (Nm × Ty),(∀c∈cl,Gd 2 c.1/\Tx.Nm c.2)->((cl.map conS).flatMap λy=>sSem++y).length<=60*consW cl:=λcl=>by
   induction cl with
   | nil=>intro _;simp
   | cons c r ih =>
    intro h
    have h4:=ih (λy hy=>h y (List.mem_cons_of_mem _ hy))
    have h5:=gd_len (h c List.mem_cons_self).1 (by decide)
    have h6:=(print_len c.2 (h c List.mem_cons_self).2).1
    simp only[List.map_cons,List.flatMap_cons,List.length_append,conS,sCol,sSem,List.length_cons,List.length_nil,consW,conW]at *
    omega
  have h4:=h2 ps hok.2.1
  have h5:=h3 cl hok.2.2
  have h6:(sepS (cl.map conS)).length<=((cl.map conS).flatMap λy=>sSem++y).length:=by
   cases cl with
   | nil=>simp[sepS]
   | cons c r=>simp only[List.map_cons,sepS,List.flatMap_cons,List.length_append];omega
  rw[De.print,De.wt]
  simp only[List.length_append,wData,List.length_cons,List.length_nil]
  omega
 | sig x t =>
  have h1:=gd_len hok.1 (by decide)
  have h2:=(print_len t hok.2).1
  rw[De.print,De.wt]
  simp only[List.length_append,sCol,List.length_cons,List.length_nil]
  exact⟨by simp,by omega⟩
 | bind x e =>
  have h1:=gd_len hok.1 (by decide)
  have h2:=printE_len e hok.2
  rw[De.print,De.wt]
  simp only[List.length_append,sEq,List.length_cons,List.length_nil]
  exact⟨by simp,by omega⟩
theorem sepD_len:∀l:List De,(∀d∈l,d.Ok)->((l.map De.print).flatMap λy=>sSem++y).length<=202*desW l
 | [],_=>by simp
 | d::r,h=>by
  have h1:=sepD_len r (λy hy=>h y (List.mem_cons_of_mem _ hy))
  have h2:=(printD_len d (h d List.mem_cons_self)).2
  have:1<=d.wt:=by cases d <;> simp[De.wt]
  simp only[List.map_cons,List.flatMap_cons,List.length_append,sSem,List.length_cons,List.length_nil,desW]at *
  omega
theorem printP_len(l:List De)(h:∀d∈l,d.Ok):(printP l).length<=202*desW l:=by
 have h1:=sepD_len l h
 unfold printP
 cases l with
 | nil=>simp[sepS]
 | cons d r=>simp only[List.map_cons,sepS,List.flatMap_cons,List.length_append]at *;omega
theorem desW_memb(l:List De)(d:De)(h:d∈l):d.wt<=desW l/\l.length<=desW l:=by
 induction l with
 | nil=>cases h
 | cons a r ih =>
  have ha:1<=a.wt:=by cases a <;> simp[De.wt]
  have hr:∀r:List De,r.length<=desW r:=λr=>by
   induction r with
   | nil=>simp
   | cons b r ih=>have:1<=b.wt:=by { cases b <;> simp[De.wt] };simp only[List.length_cons,desW];omega
  have:=hr r
  rw[desW,List.length_cons]
  rcases List.mem_cons.1 h with rfl|h
  ·omega
  ·have:=(ih h).1;omega
set_option maxHeartbeats 1600000 in
theorem sx_printP(l:List De)(S:Nat->Prop)(A:Option Addr)(m c:Nat)(w:World)(hl:LstG pcD S w l A)(hm:l.length=m)(hok:∀d∈l,d.Ok)(hwt:desW l<=9000)(hS:∀g,S g->g<w.heap.size)(ht:Tab w)(hne:l≠[]) :
  Calls Tryz.prog 10 #[.slice A m c] w λen w'=>en=.returned (.string ⟨(printP l).toArray⟩)/\Below w.heap.size w w':=by
 have ek:∀args w,(callFunc 37 args).run Tryz.prog w=.ok (.enter 37 args) w:=enters_of Tryz.func37 (by kernel_rfl) rfl
 obtain⟨W0,hW0⟩:∃W,w.alloc (.cells #[.pointer none,.slice none 0 0] 92)=W:=⟨_,rfl⟩
 have hlw:Below w.heap.size w W0:=hW0▸(Below.refl _ w).alloc (Nat.le_refl _) _
 have hbl:BldX w.heap.size w.heap.size [] W0:=hW0▸bldX_new w.heap.size w (Nat.le_refl _)
 have hpl:=printP_len l hok
 have hml:m<=9000:=by
  obtain⟨d,hd⟩:=List.exists_mem_of_ne_nil l hne
  have:=(desW_memb l d hd).2
  omega
 have hg:=ht.lt
 have HSEP:=hidE (wr_SepDe _ ek De.print l S A m c w.heap.size w.heap.size [] W0 hbl (hl.keep (λ_ h=>h) (λg hg=>hlw.block g (hS g hg))) hm (by omega) hS (by show 0+(printP l).length<=_;omega)
  (λd hd cs U l1 h1 h2 h3=>wr_decl d S cs w.heap.size w.heap.size l1 U (hok d hd) (by have:=(desW_memb l d hd).1;omega) h1 hS h2.1 hg (h2.tab (ht.below hlw) hg) h3))
 rw[List.nil_append,show sepS (l.map De.print)=printP l from rfl]at HSEP
 have hpn:printP l≠[]:=by
  cases l with
  | nil=>exact absurd rfl hne
  | cons d r =>
   have:=(printD_len d (hok d List.mem_cons_self)).1
   intro e
   simp[printP,sepS]at e
   exact this e.1
 have HLW:=hidE hlw
 have HNE:=hidE hpn
 obtain⟨PR,hPR⟩:∃p,printP l=p:=⟨_,rfl⟩
 rw[hPR]at HSEP HNE ⊢
 clear hl hm hok hS ht hne hlw hbl hpl hpn hPR hwt
 go_enter Tryz.func10,Tryz.ntmps10
 go_upto_region 2 with fail
 try rw[hW0]
 clear hW0
 go_wp2_with fail
 refine HSEP.out.mono ?_
 rintro en w2 ⟨rfl,h2⟩
 have HS2:=hidE (wr_String w.heap.size w.heap.size PR w2 h2.1 HNE.out)
 have H2:=hidE (HLW.out.trans h2.2.1)
 clear h2 HSEP
 go_wp2_with fail
 refine HS2.out.mono ?_
 rintro en w3 ⟨rfl,b3⟩
 have H3:=hidE (H2.out.trans b3)
 clear b3 HS2
 go_wp2_with fail
 go_ret
 exact⟨rfl,H3.out⟩
end Go.Proofs.YtknkclefoiohpaaGreatDoor

namespace Go.Proofs.YtknkclefoiohpaaGreatDoor
open Go.RowKit Lx Tx Sx
set_option maxRecDepth 100000
def txtO(s:List UInt8):List UInt8:=match parseP s with
 | .ok p=>printP p
 | .error _=>[110,111,110,101]
theorem txtO_ok {s:List UInt8} {p:List De}(h:parseP s=.ok p):txtO s=printP p:=by unfold txtO;rw[h]
theorem txtO_err {s:List UInt8} {n:Nat}(h:parseP s=.error n):txtO s=[110,111,110,101]:=by unfold txtO;rw[h]
theorem ba_of_list {a b:ByteArray}(h:a.data.toList=b.data.toList):a=b:=by
 cases a;cases b
 simp only[ByteArray.mk.injEq]at *
 exact Array.toList_inj.1 h
set_option maxHeartbeats 3200000 in
theorem s8_text(s O:ByteArray)(w:World)(hs:s.size<=maxLen)(ht:Tab w)(h:txtO s.data.toList=O.data.toList)(hO:O.data.toList≠[]) :
  Calls Tryz.prog 26 #[.string s] w λe w'=>e=.returned (.string O)/\Below w.heap.size w w':=by
 have HP:=hidE (sx_parse s w hs)
 have HO:=hidE h
 have HT:=hidE ht
 have HNE:=hidE hO
 clear h ht hO
 go_enter Tryz.func26,Tryz.ntmps26
 go_wp2_with fail
 refine HP.out.mono ?_
 rintro e w1 ⟨b1,hcs⟩
 have B1:=hidE b1
 have hs1:=b1.size
 clear HP
 rcases hcs with⟨n,hn,hp,rfl⟩|⟨p,L,m,d,hok,hwt,hp,rfl,hm,hl⟩
 ·have HOO:Hid ((⟨#[110,111,110,101]⟩:ByteArray)=O):=hidE (ba_of_list (by rw[<-HO.out,txtO_err hp]))
  have dn:((n:Int) != 0)=true:=neqT _ _ (by omega)
  clear hp hn b1
  go_wp2_with fail
  go_ret
  exact⟨by rw[<-HOO.out];rfl,B1.out⟩
 ·have hne:p≠[]:=by
   intro e
   have:=HO.out
   rw[txtO_ok hp,e]at this
   exact HNE.out this.symm
  have HC:=hidE (sx_printP p _ L m d w1 hl hm.symm hok (by omega) (λg hg=>hg.2) (HT.out.below b1) hne)
  have HOO:Hid (⟨(printP p).toArray⟩=O):=hidE (ba_of_list (by rw[<-HO.out,txtO_ok hp]))
  rw[HOO.out]at HC
  clear hp hm hl hok hwt hne b1
  go_wp2_with fail
  refine HC.out.mono ?_
  rintro e w2 ⟨rfl,b2⟩
  have B2:=hidE (B1.out.trans (b2.mono hs1))
  clear b2 HC
  go_wp2_with fail
  go_ret
  exact⟨rfl,B2.out⟩
theorem tx_a:txtO [100,97,116,97,32,32,78,123,90,58,78,59,83,32,58,78,45,62,78,125,59,116,119,111,61,83,32,40,83,32,90,41]=[100,97,116,97,32,78,32,123,90,32,58,32,78,59,32,83,32,58,32,78,32,45,62,32,78,125,59,32,116,119,111,32,61,32,83,32,40,83,32,90,41]:=by decide +kernel
theorem tx_b:txtO [102,58,78,45,62,78,59,32,102,61,92,120,45,62,99,97,115,101,32,40,120,41,32,111,102,123,90,45,62,120,59,83,32,121,45,62,40,102,32,121,58,78,41,125]=[102,32,58,32,78,32,45,62,32,78,59,32,102,32,61,32,92,120,32,45,62,32,99,97,115,101,32,120,32,111,102,32,123,90,32,45,62,32,120,59,32,83,32,121,32,45,62,32,40,102,32,121,32,58,32,78,41,125]:=by decide +kernel
theorem tx_c:txtO [103,32,61,32,40,92,120,32,45,62,32,120,41,32,40,104,32,40,105,32,106,41,41,32,108,101,116]=[110,111,110,101]:=by decide +kernel
theorem tx_d:txtO [107,32,61,32,108,101,116,32,120,32,58,32,102,111,114,97,108,108,32,97,46,32,97,32,61,32,121,32,105,110,32,40,108,101,116,32,122,32,61,32,120,32,105,110,32,122,41,32,120]=[107,32,61,32,108,101,116,32,120,32,58,32,102,111,114,97,108,108,32,97,46,32,97,32,61,32,121,32,105,110,32,40,108,101,116,32,122,32,61,32,120,32,105,110,32,122,41,32,120]:=by decide +kernel
def txE:List UInt8:=[102,32,40,103,32,120,41,32,92,121,32,45,62,32,121]
def txG:List UInt8:=[102,32,40,103,32,120,41,32,40,92,121,32,45,62,32,121,41]
def txB:Bool:=(match parseE txE with
 | .error n=>decide (n=80)
 | .ok _=>false)&&match parseE txG with
 | .ok x=>decide (x.size=8)&&decide (x.depth=4)
 | .error _=>false
theorem txB_true:txB=true:=by decide +kernel
theorem tx_e {n:Nat}(h:parseE txE=.error n):n=80:=by
 have:=txB_true
 unfold txB at this
 rw[h]at this
 simp only[Bool.and_eq_true,decide_eq_true_eq]at this
 exact this.1
theorem tx_e0 {x:Ex}(h:parseE txE=.ok x):False:=by
 have:=txB_true
 unfold txB at this
 rw[h]at this
 simp at this
theorem tx_g0 {n:Nat}(h:parseE txG=.error n):False:=by
 have:=txB_true
 unfold txB at this
 rw[h]at this
 simp at this
theorem tx_g {x:Ex}(h:parseE txG=.ok x):x.size=8/\x.depth=4:=by
 have:=txB_true
 unfold txB at this
 rw[h]at this
 simp only[Bool.and_eq_true,decide_eq_true_eq]at this
 exact this.2
end Go.Proofs.YtknkclefoiohpaaGreatDoor

namespace Go.Proofs.YtknkclefoiohpaaGreatDoor
open Go.RowKit Lx Tx Sx
set_option maxRecDepth 100000
set_option maxHeartbeats 12800000 in
theorem s8_awake(w:World)(ht:Tab w):Calls Tryz.prog 7 #[] w λe w'=>e=.returned (.bool true)/\Below w.heap.size w w':=by
 have Ha:=hidE (λU (hU:Tab U)=>s8_text ⟨#[100,97,116,97,32,32,78,123,90,58,78,59,83,32,58,78,45,62,78,125,59,116,119,111,61,83,32,40,83,32,90,41]⟩ ⟨#[100,97,116,97,32,78,32,123,90,32,58,32,78,59,32,83,32,58,32,78,32,45,62,32,78,125,59,32,116,119,111,32,61,32,83,32,40,83,32,90,41]⟩ U (by decide) hU tx_a (by decide))
 have Hb:=hidE (λU (hU:Tab U)=>s8_text ⟨#[102,58,78,45,62,78,59,32,102,61,92,120,45,62,99,97,115,101,32,40,120,41,32,111,102,123,90,45,62,120,59,83,32,121,45,62,40,102,32,121,58,78,41,125]⟩ ⟨#[102,32,58,32,78,32,45,62,32,78,59,32,102,32,61,32,92,120,32,45,62,32,99,97,115,101,32,120,32,111,102,32,123,90,32,45,62,32,120,59,32,83,32,121,32,45,62,32,40,102,32,121,32,58,32,78,41,125]⟩ U (by decide) hU tx_b (by decide))
 have Hc:=hidE (λU (hU:Tab U)=>s8_text ⟨#[103,32,61,32,40,92,120,32,45,62,32,120,41,32,40,104,32,40,105,32,106,41,41,32,108,101,116]⟩ ⟨#[110,111,110,101]⟩ U (by decide) hU tx_c (by decide))
 have Hd:=hidE (λU (hU:Tab U)=>s8_text ⟨#[107,32,61,32,108,101,116,32,120,32,58,32,102,111,114,97,108,108,32,97,46,32,97,32,61,32,121,32,105,110,32,40,108,101,116,32,122,32,61,32,120,32,105,110,32,122,41,32,120]⟩ ⟨#[107,32,61,32,108,101,116,32,120,32,58,32,102,111,114,97,108,108,32,97,46,32,97,32,61,32,121,32,105,110,32,40,108,101,116,32,122,32,61,32,120,32,105,110,32,122,41,32,120]⟩ U (by decide) hU tx_d (by decide))
 have HE:=hidE (λU=>sx_parseExpr ⟨#[102,32,40,103,32,120,41,32,92,121,32,45,62,32,121]⟩ U (by decide))
 have HG:=hidE (λU=>sx_parseExpr ⟨#[102,32,40,103,32,120,41,32,40,92,121,32,45,62,32,121,41]⟩ U (by decide))
 have HT:=hidE ht
 have BX:Hid (Below w.heap.size w w):=hidE (Below.refl _ _)
 clear ht
 go_enter Tryz.func7,Tryz.ntmps7
 go_wp2_with fail
 refine(Ha.out _ (HT.out.below BX.out)).mono ?_
 rintro e w1 ⟨rfl,hb⟩
 replace BX:=hidE (BX.out.trans (hb.mono BX.out.size))
 clear hb Ha
 go_wp2_with fail
 refine(Hb.out _ (HT.out.below BX.out)).mono ?_
 rintro e w2 ⟨rfl,hb⟩
 replace BX:=hidE (BX.out.trans (hb.mono BX.out.size))
 clear hb Hb
 go_wp2_with fail
 refine(Hc.out _ (HT.out.below BX.out)).mono ?_
 rintro e w3 ⟨rfl,hb⟩
 replace BX:=hidE (BX.out.trans (hb.mono BX.out.size))
 clear hb Hc
 go_wp2_with fail
 refine(Hd.out _ (HT.out.below BX.out)).mono ?_
 rintro e w4 ⟨rfl,hb⟩
 replace BX:=hidE (BX.out.trans (hb.mono BX.out.size))
 clear hb Hd
 go_wp2_with fail
 refine(HE.out _).mono ?_
 rintro e w5 ⟨hb,hcs⟩
 replace BX:=hidE (BX.out.trans (hb.mono BX.out.size))
 clear HE hb
 rcases hcs with⟨n,hn,hp,rfl⟩|⟨ex,cs,hsh,hok,hwt,hp,rfl,hx⟩
 case inr=>exact absurd hp (λh=>tx_e0 h)
 obtain rfl:=tx_e hp
 clear hn hp
 obtain⟨x5,t5,K5,X5,Z5,B5,m5,q5,KA5,kn5,kc5,LA5,ln5,lc5,hz⟩:∃(x:ByteArray) (t:Bool) (K:Int) (X:ByteArray) (Z:Int) (B:Option Addr) (m q:Nat) (KA:Option Addr) (kn kc:Nat) (LA:Option Addr) (ln lc:Nat),exZ=#[.int .i64 0,.string x,.bool t,.int .i64 K,.string X,.int .i64 Z,.slice B m q,.slice KA kn kc,.slice LA ln lc]:=⟨_,_,_,_,_,_,_,_,_,_,_,_,_,_,rfl⟩
 rw[hz]
 clear hz
 obtain⟨W5,hW5⟩:∃y,w5.alloc (.cells #[.int .i64 0,.string x5,.bool t5,.int .i64 K5,.string X5,.int .i64 Z5,.slice B5 m5 q5,.slice KA5 kn5 kc5,.slice LA5 ln5 lc5] 39)=y:=⟨_,rfl⟩
 have hs5:W5.heap.size=w5.heap.size+1:=by rw[<-hW5];simp
 have HB5:=hidE (hW5▸heap_alloc_new w5 _:Blk W5 w5.heap.size 39 #[.int .i64 0,.string x5,.bool t5,.int .i64 K5,.string X5,.int .i64 Z5,.slice B5 m5 q5,.slice KA5 kn5 kc5,.slice LA5 ln5 lc5])
 replace BX:=hidE (BX.out.trans (hW5▸(Below.refl _ w5).alloc BX.out.size _:Below w.heap.size w5 W5))
 go_upto_region 6 with fail
 try rw[hW5]
 clear hW5
 go_wp2_with fail
 refine(HG.out _).mono ?_
 rintro e w6 ⟨hb,hcs⟩
 have HB6:=hidE (HB5.out.below hb (by omega))
 have hs6:=hb.size
 replace BX:=hidE (BX.out.trans (hb.mono BX.out.size))
 clear HG HB5
 rcases hcs with⟨n,hn,hp,rfl⟩|⟨ex,cs,hsh,hok,hwt,hp,rfl,hx⟩
 case inl=>exact absurd hp (λh=>tx_g0 h)
 obtain⟨h8,h4⟩:=tx_g hp
 obtain⟨k,x,t,K,X,Z,B,m,q,KA,kn,kc,LA,ln,lc,rfl⟩:=hsh
 have hvx:=rdX_cs.2 hx
 obtain⟨W6,hW6⟩:∃y,w6.alloc (.cells #[.int .i64 k,.string x,.bool t,.int .i64 K,.string X,.int .i64 Z,.slice B m q,.slice KA kn kc,.slice LA ln lc] 39)=y:=⟨_,rfl⟩
 have hs7:W6.heap.size=w6.heap.size+1:=by rw[<-hW6];simp
 have hbW:Below w6.heap.size w6 W6:=hW6▸(Below.refl _ w6).alloc (Nat.le_refl _) _
 have HB7:=hidE (hW6▸heap_alloc_new w6 _:Blk W6 w6.heap.size 39 #[.int .i64 k,.string x,.bool t,.int .i64 K,.string X,.int .i64 Z,.slice B m q,.slice KA kn kc,.slice LA ln lc])
 replace HB6:=hidE (HB6.out.below hbW (by omega))
 replace BX:=hidE (BX.out.trans (hbW.mono BX.out.size))
 have hzz:=size_wt ex
 have HV:Hid (∀U,Below W6.heap.size W6 U->RdX (λg=>W5.heap.size<=g/\g<w6.heap.size) U ex (.agg #[.int .i64 k,.string x,.bool t,.int .i64 K,.string X,.int .i64 Z,.slice B m q,.slice KA kn kc,.slice LA ln lc])):=hidE λU hU=>hvx.keep (λ_ h=>h) (λg hg=>(hbW.trans (hU.mono (by omega))).block g hg.2)
 have HSZ:=hidE (λU (hU:Below W6.heap.size W6 U)=>sx_size 100000 ex _ _ U (by omega) (by decide) (HV.out U hU) (λg hg=>by have:=hU.size;omega))
 have HDP:=hidE (λU (hU:Below W6.heap.size W6 U)=>sx_depth 100000 ex _ _ U (by omega) (by decide) (HV.out U hU) (λg hg=>by have:=hU.size;omega))
 rw[h8]at HSZ
 rw[h4]at HDP
 have BW:Hid (Below W6.heap.size W6 W6):=hidE (Below.refl _ _)
 obtain⟨⟨g0,g1,g2,g3,g4,g5,g6,g7,g8⟩,-,-⟩:=blk_facts9 HB7.out
 clear hb hok hwt hp hx hvx hbW hzz HV h8 h4
 go_upto_region 7 with fail
 try rw[hW6]
 clear hW6
 go_wp2_with fail
 refine(HSZ.out _ BW.out).mono ?_
 rintro e w7 ⟨rfl,hb⟩
 replace BW:=hidE (BW.out.trans (hb.mono BW.out.size))
 clear hb HSZ g0 g1 g2 g3 g4 g5 g6 g7 g8
 obtain⟨⟨g0,g1,g2,g3,g4,g5,g6,g7,g8⟩,-,-⟩:=blk_facts9 (HB7.out.below BW.out (by omega))
 go_wp2_with fail
 refine(HDP.out _ BW.out).mono ?_
 rintro e w8 ⟨rfl,hb⟩
 replace BW:=hidE (BW.out.trans (hb.mono BW.out.size))
 clear hb HDP g0 g1 g2 g3 g4 g5 g6 g7 g8
 obtain⟨⟨g0,g1,g2,g3,g4,g5,g6,g7,g8⟩,-,-⟩:=blk_facts9 (HB6.out.below BW.out (by omega))
 replace BX:=hidE (BX.out.trans (BW.out.mono BX.out.size))
 clear BW HB6 HB7
 go_wp2_with fail
 go_ret
 exact⟨rfl,BX.out⟩
end Go.Proofs.YtknkclefoiohpaaGreatDoor

namespace Go.Proofs.YtknkclefoiohpaaGreatDoor
open Go.RowKit Lx Tx Sx
set_option maxRecDepth 100000
theorem bx8 {e:Ex} {S:Nat->Prop} {w:World} {v:Value}(h:RdX S w e v):∃(Y:ByteArray)(td:Bool)(K:Int)(X:ByteArray)(Z:Int)(A0:Option Addr)(m q:Nat)(KA:Option Addr)(kc:Nat)(LA:Option Addr)(ln lc:Nat),
  v=.agg #[.int .i64 (kdE e:Nat),.string Y,.bool td,.int .i64 K,.string X,.int .i64 Z,.slice A0 m q,.slice KA (kidsE e).length kc,.slice LA ln lc]/\Y.data.toList=nmE e/\td=toE e/\ln=(altsE e).length/\(∀t,tyE e=some t->RdV S w t (.agg #[.int .i64 K,.string X,.int .i64 Z,.slice A0 m q]))/\ExIn S w e KA LA:=by
 obtain⟨P,rfl,hT,hin⟩:=h
 obtain⟨K,X,Z,B0,m,q,hs⟩:=tyC_shape (tyE e) P.A P.a
 refine⟨⟨(nmE e).toArray⟩,toE e,K,X,Z,B0,m,q,P.K,_,P.L,_,P.l,by rw[exC,hs];rfl,by simp,rfl,rfl,λt ht=>?_,hin⟩
 rw[ht]at hs hT
 exact⟨P.A,P.a,congrArg (λl:List Value=>Value.agg l.toArray) hs.symm,hT⟩
namespace Sx
theorem ExAt.cells2 {S:Nat->Prop} {w:World} {e:Ex} {g o:Nat}(h:ExAt S w e g o):∃(x:ByteArray)(t:Bool)(K:Int)(X:ByteArray)(Z:Int)(B:Option Addr)(m q:Nat)(KA:Option Addr)(kn kc:Nat)(LA:Option Addr)(ln lc:Nat),
  w.cell? ⟨g,o,none⟩=some (.int .i64 (kdE e:Nat))/\w.cell? ⟨g,o+1,none⟩=some (.string x)/\w.cell? ⟨g,o+2,none⟩=some (.bool t)/\w.cell? ⟨g,o+3,none⟩=some (.int .i64 K)/\w.cell? ⟨g,o+4,none⟩=some (.string X) /\
   w.cell? ⟨g,o+5,none⟩=some (.int .i64 Z)/\w.cell? ⟨g,o+6,none⟩=some (.slice B m q)/\w.cell? ⟨g,o+7,none⟩=some (.slice KA kn kc)/\w.cell? ⟨g,o+8,none⟩=some (.slice LA ln lc) /\
   RdX S w e (.agg #[.int .i64 (kdE e:Nat),.string x,.bool t,.int .i64 K,.string X,.int .i64 Z,.slice B m q,.slice KA kn kc,.slice LA ln lc]):=by
 obtain⟨P,h1,h2,h3⟩:=h
 obtain⟨K,X,Z,B,m,q,hs⟩:=tyC_shape (tyE e) P.A P.a
 have hL:exC e P=[.int .i64 (kdE e:Nat),.string ⟨(nmE e).toArray⟩,.bool (toE e),.int .i64 K,.string X,.int .i64 Z,.slice B m q,.slice P.K (kidsE e).length ((kidsE e).length+P.k),.slice P.L (altsE e).length P.l]:=by rw[exC,hs];rfl
 rw[hL]at h1
 exact⟨_,_,K,X,Z,B,m,q,P.K,_,_,P.L,_,P.l,h1 0 _ rfl,h1 1 _ rfl,h1 2 _ rfl,h1 3 _ rfl,h1 4 _ rfl,h1 5 _ rfl,h1 6 _ rfl,h1 7 _ rfl,h1 8 _ rfl,P,by rw[hL],h2,h3⟩
end Sx
def PE8(n:Nat):Prop:=∀(e:Ex)(S:Nat->Prop)(v:Value)(w:World),e.size<=n->e.Ok->e.wt<=9000->RdX S w e v->(∀g,S g->g<w.heap.size) ->
 Calls Tryz.prog 17 #[v] w λen w'=>en=.returned (.string ⟨e.print.toArray⟩)/\Below w.heap.size w w'
set_option maxHeartbeats 1600000 in
theorem d8_wide(e:Ex)(S:Nat->Prop)(v:Value)(w:World)(hv:RdX S w e v) :
  Calls Tryz.prog 50 #[v] w λen w'=>en=.returned (.bool e.wide)/\Below w.heap.size w w':=by
 obtain⟨Y,td,K,X,Z,A0,m,q,KA,kc,LA,ln,lc,rfl,-⟩:=bx8 hv
 cases e
 all_goals
  simp only[kdE,Ex.wide]
  go_enter Tryz.func50,Tryz.ntmps50
  go_wp2_with fail
  go_ret
  exact⟨rfl,(Below.refl _ _).alloc (Nat.le_refl _) _⟩
set_option maxHeartbeats 1600000 in
theorem d8_print_nm(e:Ex)(he:(kdE e=1\/kdE e=2)/\e.print=nmE e)(S:Nat->Prop)(v:Value)(w:World)(hv:RdX S w e v) :
  Calls Tryz.prog 17 #[v] w λen w'=>en=.returned (.string ⟨e.print.toArray⟩)/\Below w.heap.size w w':=by
 obtain⟨Y,td,K,X,Z,A0,m,q,KA,kc,LA,ln,lc,rfl,hY,-⟩:=bx8 hv
 rw[he.2,<-hY]
 have hk:=he.1
 obtain⟨kd,hkd⟩:∃x,kdE e=x:=⟨_,rfl⟩
 obtain⟨kn,hkn⟩:∃x,(kidsE e).length=x:=⟨_,rfl⟩
 rw[hkd]at hk ⊢
 rw[hkn]
 clear hv he hY hkd hkn
 rcases hk with rfl|rfl
 all_goals
  go_enter Tryz.func17,Tryz.ntmps17
  go_wp2_with fail
  go_ret
  exact⟨rfl,(Below.refl _ _).alloc (Nat.le_refl _) _⟩
set_option maxHeartbeats 6400000 in
theorem d8_print_lam(n:Nat)(IH:PE8 n)(x:Nm)(y:Ex)(S:Nat->Prop)(v:Value)(w:World)(hn:(Ex.lam x y).size<=n+1)(hok:(Ex.lam x y).Ok)(hwt:(Ex.lam x y).wt<=9000)(hv:RdX S w (Ex.lam x y) v)(hS:∀g,S g->g<w.heap.size) :
  Calls Tryz.prog 17 #[v] w λen w'=>en=.returned (.string ⟨(Ex.lam x y).print.toArray⟩)/\Below w.heap.size w w':=by
 have hlen:=print_wt _ hok
 obtain⟨Y,td,K,X,Z,A0,m,q,KA,kc,LA,ln,lc,rfl,hY,htd,-,hty,hin⟩:=bx8 hv
 obtain⟨g,rfl,hg,hat0⟩:=hin.kid 0 y rfl
 obtain⟨x0,t0,K0,X0,Z0,D0,m0,q0,KA0,kn0,kc0,LA0,ln0,lc0,c00,c01,c02,c03,c04,c05,c06,c07,c08,hr0⟩:=hat0.cells2
 have hgw:=hS g hg
 show Calls Tryz.prog _ #[.agg #[.int .i64 3,.string Y,.bool td,.int .i64 K,.string X,.int .i64 Z,.slice A0 m q,.slice (some ⟨g,0,none⟩) 1 kc,.slice LA ln lc]] w _
 obtain⟨W0,hW0⟩:∃W,w.alloc (.cells #[.int .i64 3,.string Y,.bool td,.int .i64 K,.string X,.int .i64 Z,.slice A0 m q,.slice (some ⟨g,0,none⟩) 1 kc,.slice LA ln lc] 48)=W:=⟨_,rfl⟩
 have hlw:Below w.heap.size w W0:=hW0▸(Below.refl _ w).alloc (Nat.le_refl _) _
 have hs0:W0.heap.size=w.heap.size+1:=by rw[<-hW0];simp
 have hbk:Blk W0 w.heap.size 48 #[.int .i64 3,.string Y,.bool td,.int .i64 K,.string X,.int .i64 Z,.slice A0 m q,.slice (some ⟨g,0,none⟩) 1 kc,.slice LA ln lc]:=hW0▸heap_alloc_new _ _
 have hlt0:=hbk.lt
 have KEEP:∀W,Below W0.heap.size W0 W->w.heap.size<W.heap.size/\∀k,k<w.heap.size->W.heap[k]? = w.heap[k]?:=λW hb=>⟨by have:=hb.size;omega,λk hk=>(hb.block k (by omega)).trans (hlw.block k hk)⟩
 have SOF:Hid (∀W,Below W0.heap.size W0 W->W.cell? ⟨w.heap.size,0,none⟩=some (.int .i64 3)/\W.cell? ⟨w.heap.size,1,none⟩=some (.string Y)/\W.cell? ⟨w.heap.size,2,none⟩=some (.bool td)/\W.cell? ⟨w.heap.size,3,none⟩=some (.int .i64 K)/\W.cell? ⟨w.heap.size,4,none⟩=some (.string X)/\W.cell? ⟨w.heap.size,5,none⟩=some (.int .i64 Z)/\W.cell? ⟨w.heap.size,6,none⟩=some (.slice A0 m q)/\W.cell? ⟨w.heap.size,7,none⟩=some (.slice (some ⟨g,0,none⟩) 1 kc)/\W.cell? ⟨g,0,none⟩=some (.int .i64 (kdE y:Nat))/\W.cell? ⟨g,1,none⟩=some (.string x0)/\W.cell? ⟨g,2,none⟩=some (.bool t0)/\W.cell? ⟨g,3,none⟩=some (.int .i64 K0)/\W.cell? ⟨g,4,none⟩=some (.string X0)/\W.cell? ⟨g,5,none⟩=some (.int .i64 Z0)/\W.cell? ⟨g,6,none⟩=some (.slice D0 m0 q0)/\W.cell? ⟨g,7,none⟩=some (.slice KA0 kn0 kc0)/\W.cell? ⟨g,8,none⟩=some (.slice LA0 ln0 lc0)):=hidE λW hb=>by
  have hc:∀i,W.cell? ⟨g,i,none⟩=w.cell? ⟨g,i,none⟩:=λi=>World.cell?_of_block (w:=w) (a:=⟨g,i,none⟩) ((KEEP W hb).2 g hgw)
  have hbx:=hbk.below hb hbk.lt
  exact⟨hbx.cell 0,hbx.cell 1,hbx.cell 2,hbx.cell 3,hbx.cell 4,hbx.cell 5,hbx.cell 6,hbx.cell 7,(hc _).trans c00,(hc _).trans c01,(hc _).trans c02,(hc _).trans c03,(hc _).trans c04,(hc _).trans c05,(hc _).trans c06,(hc _).trans c07,(hc _).trans c08⟩
 have HSG:∀W,Below W0.heap.size W0 W->∀g,S g->g<W.heap.size:=λW hb g hg=>Nat.lt_trans (hS g hg) (KEEP W hb).1
 have HR0:∀W,Below W0.heap.size W0 W->RdX S W y (.agg #[.int .i64 (kdE y:Nat),.string x0,.bool t0,.int .i64 K0,.string X0,.int .i64 Z0,.slice D0 m0 q0,.slice KA0 kn0 kc0,.slice LA0 ln0 lc0]):=λW hb=>hr0.keep (λ_ h=>h) (λg hg=>(KEEP W hb).2 g (hS g hg))
 obtain⟨P0,hP0⟩:∃P:ByteArray,⟨(y).print.toArray⟩=P:=⟨_,rfl⟩
 have hps0:P0.size=(y).print.length:=by rw[<-hP0];rfl
 have CA0:Hid (∀W,Below W0.heap.size W0 W->Calls Tryz.prog 17 #[.agg #[.int .i64 (kdE y:Nat),.string x0,.bool t0,.int .i64 K0,.string X0,.int .i64 Z0,.slice D0 m0 q0,.slice KA0 kn0 kc0,.slice LA0 ln0 lc0]] W λen w'=>en=.returned (.string P0)/\Below W.heap.size W w'):=hidE λW hb=>by
  have h:=IH y S _ W (by rw[Ex.size]at hn;omega) (ok_part _ y (by simp[parts,kidsE,altsE]) hok) (Nat.le_trans (part_wt _ y (by simp[parts,kidsE,altsE])) hwt) (HR0 W hb) (HSG W hb)
  rw[hP0]at h
  exact h
 have B0:Hid (Below W0.heap.size W0 W0.drew):=hidE (Below.refl _ _).drew
 have BZ:Hid (Below W0.heap.size W0 W0):=hidE (Below.refl _ _)
 have hend:Hid (∀W,Below W0.heap.size W0 W->Below w.heap.size w W):=hidE λW hb=>hlw.trans (hb.mono (by omega))
 obtain⟨R,hR⟩:∃R:ByteArray,⟨(Ex.lam x y).print.toArray⟩=R:=⟨_,rfl⟩
 rw[hR]
 have hpr:(Ex.lam x y).print=92::x++[32,45,62,32]++y.print:=by rw[Ex.print];rfl
 have hYx:Y=⟨x.toArray⟩:=by apply ByteArray.ext;apply Array.ext';exact hY
 have hys:Y.size=x.length:=by rw[hYx];rfl
 have HX:Hid (⟨#[92]⟩++Y++⟨#[32,45,62,32]⟩++P0=R):=hidE (by rw[<-hR,<-hP0,hpr,hYx];apply ByteArray.ext;simp)
 have hsum:x.length+y.print.length<=900000:=by rw[hpr]at hlen;simp only[List.length_append,List.length_cons,List.length_nil]at hlen;omega
 have hys2:Y.size<=900000:=by omega
 have hps2:P0.size<=900000:=by omega
 have o1:¬9223372036854775807<1+Y.size:=by omega
 have o2:¬9223372036854775807<1+Y.size+4:=by omega
 have o3:¬9223372036854775807<1+Y.size+4+P0.size:=by omega
 obtain⟨f0,f1,f2,f3,f4,f5,f6,f7,y00,y01,y02,y03,y04,y05,y06,y07,y08⟩:=SOF.out _ BZ.out
 clear c00 c01 c02 c03 c04 c05 c06 c07 c08 hr0 hat0 HR0 hP0 hps0 hin hty hn hwt hok hv hS hg KEEP HSG IH hbk hlw hlen hY htd hR hpr hYx hys hsum
 go_enter Tryz.func17,Tryz.ntmps17
 go_upto_region 1 with fail
 try rw[hW0]
 clear hW0
 go_wp2_with fail
 go_region_held3 (λw'=>w'.cell? ⟨w.heap.size,0,none⟩=some (.int .i64 3)/\w'.cell? ⟨w.heap.size,1,none⟩=some (.string Y)/\w'.cell? ⟨w.heap.size,2,none⟩=some (.bool td)/\w'.cell? ⟨w.heap.size,3,none⟩=some (.int .i64 K)/\w'.cell? ⟨w.heap.size,4,none⟩=some (.string X)/\w'.cell? ⟨w.heap.size,5,none⟩=some (.int .i64 Z)/\w'.cell? ⟨w.heap.size,6,none⟩=some (.slice A0 m q)/\w'.cell? ⟨w.heap.size,7,none⟩=some (.slice (some ⟨g,0,none⟩) 1 kc)/\w'.cell? ⟨g,0,none⟩=some (.int .i64 (kdE y:Nat))/\w'.cell? ⟨g,1,none⟩=some (.string x0)/\w'.cell? ⟨g,2,none⟩=some (.bool t0)/\w'.cell? ⟨g,3,none⟩=some (.int .i64 K0)/\w'.cell? ⟨g,4,none⟩=some (.string X0)/\w'.cell? ⟨g,5,none⟩=some (.int .i64 Z0)/\w'.cell? ⟨g,6,none⟩=some (.slice D0 m0 q0)/\w'.cell? ⟨g,7,none⟩=some (.slice KA0 kn0 kc0)/\w'.cell? ⟨g,8,none⟩=some (.slice LA0 ln0 lc0)) (first|exact SOF.out _ B1.out|exact SOF.out _ B0.out) (first|((with_reducible refine(CA0.out _ (by first|exact B1.out|exact B0.out)).mono ?_);rintro e w1 ⟨rfl,b1⟩;first|(have B2:=hidE (bnext B1.out b1 (by omega)))|(have B1:=hidE (bnext B0.out b1 (by simp)));clear b1))
 all_goals
  go_wp2_with fail
  go_ret
  exact⟨ret_string HX.out,hend.out _ B1.out⟩
set_option maxHeartbeats 6400000 in
theorem d8_print_ann(n:Nat)(IH:PE8 n)(y:Ex)(t:Ty)(S:Nat->Prop)(v:Value)(w:World)(hn:(Ex.ann y t).size<=n+1)(hok:(Ex.ann y t).Ok)(hwt:(Ex.ann y t).wt<=9000)(hv:RdX S w (Ex.ann y t) v)(hS:∀g,S g->g<w.heap.size) :
  Calls Tryz.prog 17 #[v] w λen w'=>en=.returned (.string ⟨(Ex.ann y t).print.toArray⟩)/\Below w.heap.size w w':=by
 have hlen:=print_wt _ hok
 obtain⟨Y,td,K,X,Z,A0,m,q,KA,kc,LA,ln,lc,rfl,hY,htd,-,hty,hin⟩:=bx8 hv
 obtain⟨g,rfl,hg,hat0⟩:=hin.kid 0 y rfl
 obtain⟨x0,t0,K0,X0,Z0,D0,m0,q0,KA0,kn0,kc0,LA0,ln0,lc0,c00,c01,c02,c03,c04,c05,c06,c07,c08,hr0⟩:=hat0.cells2
 have hgw:=hS g hg
 show Calls Tryz.prog _ #[.agg #[.int .i64 7,.string Y,.bool td,.int .i64 K,.string X,.int .i64 Z,.slice A0 m q,.slice (some ⟨g,0,none⟩) 1 kc,.slice LA ln lc]] w _
 obtain⟨W0,hW0⟩:∃W,w.alloc (.cells #[.int .i64 7,.string Y,.bool td,.int .i64 K,.string X,.int .i64 Z,.slice A0 m q,.slice (some ⟨g,0,none⟩) 1 kc,.slice LA ln lc] 48)=W:=⟨_,rfl⟩
 have hlw:Below w.heap.size w W0:=hW0▸(Below.refl _ w).alloc (Nat.le_refl _) _
 have hs0:W0.heap.size=w.heap.size+1:=by rw[<-hW0];simp
 have hbk:Blk W0 w.heap.size 48 #[.int .i64 7,.string Y,.bool td,.int .i64 K,.string X,.int .i64 Z,.slice A0 m q,.slice (some ⟨g,0,none⟩) 1 kc,.slice LA ln lc]:=hW0▸heap_alloc_new _ _
 have hlt0:=hbk.lt
 have KEEP:∀W,Below W0.heap.size W0 W->w.heap.size<W.heap.size/\∀k,k<w.heap.size->W.heap[k]? = w.heap[k]?:=λW hb=>⟨by have:=hb.size;omega,λk hk=>(hb.block k (by omega)).trans (hlw.block k hk)⟩
 have SOF:Hid (∀W,Below W0.heap.size W0 W->W.cell? ⟨w.heap.size,0,none⟩=some (.int .i64 7)/\W.cell? ⟨w.heap.size,1,none⟩=some (.string Y)/\W.cell? ⟨w.heap.size,2,none⟩=some (.bool td)/\W.cell? ⟨w.heap.size,3,none⟩=some (.int .i64 K)/\W.cell? ⟨w.heap.size,4,none⟩=some (.string X)/\W.cell? ⟨w.heap.size,5,none⟩=some (.int .i64 Z)/\W.cell? ⟨w.heap.size,6,none⟩=some (.slice A0 m q)/\W.cell? ⟨w.heap.size,7,none⟩=some (.slice (some ⟨g,0,none⟩) 1 kc)/\W.cell? ⟨g,0,none⟩=some (.int .i64 (kdE y:Nat))/\W.cell? ⟨g,1,none⟩=some (.string x0)/\W.cell? ⟨g,2,none⟩=some (.bool t0)/\W.cell? ⟨g,3,none⟩=some (.int .i64 K0)/\W.cell? ⟨g,4,none⟩=some (.string X0)/\W.cell? ⟨g,5,none⟩=some (.int .i64 Z0)/\W.cell? ⟨g,6,none⟩=some (.slice D0 m0 q0)/\W.cell? ⟨g,7,none⟩=some (.slice KA0 kn0 kc0)/\W.cell? ⟨g,8,none⟩=some (.slice LA0 ln0 lc0)):=hidE λW hb=>by
  have hc:∀i,W.cell? ⟨g,i,none⟩=w.cell? ⟨g,i,none⟩:=λi=>World.cell?_of_block (w:=w) (a:=⟨g,i,none⟩) ((KEEP W hb).2 g hgw)
  have hbx:=hbk.below hb hbk.lt
  exact⟨hbx.cell 0,hbx.cell 1,hbx.cell 2,hbx.cell 3,hbx.cell 4,hbx.cell 5,hbx.cell 6,hbx.cell 7,(hc _).trans c00,(hc _).trans c01,(hc _).trans c02,(hc _).trans c03,(hc _).trans c04,(hc _).trans c05,(hc _).trans c06,(hc _).trans c07,(hc _).trans c08⟩
 have HSG:∀W,Below W0.heap.size W0 W->∀g,S g->g<W.heap.size:=λW hb g hg=>Nat.lt_trans (hS g hg) (KEEP W hb).1
 have HR0:∀W,Below W0.heap.size W0 W->RdX S W y (.agg #[.int .i64 (kdE y:Nat),.string x0,.bool t0,.int .i64 K0,.string X0,.int .i64 Z0,.slice D0 m0 q0,.slice KA0 kn0 kc0,.slice LA0 ln0 lc0]):=λW hb=>hr0.keep (λ_ h=>h) (λg hg=>(KEEP W hb).2 g (hS g hg))
 obtain⟨P0,hP0⟩:∃P:ByteArray,⟨(y).print.toArray⟩=P:=⟨_,rfl⟩
 have hps0:P0.size=(y).print.length:=by rw[<-hP0];rfl
 have CA0:Hid (∀W,Below W0.heap.size W0 W->Calls Tryz.prog 17 #[.agg #[.int .i64 (kdE y:Nat),.string x0,.bool t0,.int .i64 K0,.string X0,.int .i64 Z0,.slice D0 m0 q0,.slice KA0 kn0 kc0,.slice LA0 ln0 lc0]] W λen w'=>en=.returned (.string P0)/\Below W.heap.size W w'):=hidE λW hb=>by
  have h:=IH y S _ W (by rw[Ex.size]at hn;omega) (ok_part _ y (by simp[parts,kidsE,altsE]) hok) (Nat.le_trans (part_wt _ y (by simp[parts,kidsE,altsE])) hwt) (HR0 W hb) (HSG W hb)
  rw[hP0]at h
  exact h
 obtain⟨PT,hPT⟩:∃P:ByteArray,⟨(t).print.toArray⟩=P:=⟨_,rfl⟩
 have hpsT:PT.size=(t).print.length:=by rw[<-hPT];rfl
 have CT:Hid (∀W,Below W0.heap.size W0 W->Calls Tryz.prog 39 #[.agg #[.int .i64 K,.string X,.int .i64 Z,.slice A0 m q]] W λen w'=>en=.returned (.string PT)/\Below W.heap.size W w'):=hidE λW hb=>by
  have h:=ref2_print t S _ W (by rw[Ex.wt]at hwt;omega) hok.2 (by have:=hlen;rw[Ex.print]at this;simp[sCol]at this;omega) ((hty t rfl).keep (λ_ h=>h) (λg hg=>(KEEP W hb).2 g (hS g hg))) (HSG W hb)
  rw[hPT]at h
  exact h
 have B0:Hid (Below W0.heap.size W0 W0.drew):=hidE (Below.refl _ _).drew
 have BZ:Hid (Below W0.heap.size W0 W0):=hidE (Below.refl _ _)
 have hend:Hid (∀W,Below W0.heap.size W0 W->Below w.heap.size w W):=hidE λW hb=>hlw.trans (hb.mono (by omega))
 obtain⟨R,hR⟩:∃R:ByteArray,⟨(Ex.ann y t).print.toArray⟩=R:=⟨_,rfl⟩
 rw[hR]
 have hpr:(Ex.ann y t).print=40::y.print++[32,58,32]++t.print++[41]:=by rw[Ex.print];rfl
 have HX:Hid (⟨#[40]⟩++P0++⟨#[32,58,32]⟩++PT++⟨#[41]⟩=R):=hidE (by rw[<-hR,<-hP0,<-hPT,hpr];apply ByteArray.ext;simp)
 have hsum:y.print.length+t.print.length<=900000:=by rw[hpr]at hlen;simp only[List.length_append,List.length_cons,List.length_nil]at hlen;omega
 have hps2:P0.size<=900000:=by omega
 have hpt2:PT.size<=900000:=by omega
 have o1:¬9223372036854775807<1+P0.size:=by omega
 have o2:¬9223372036854775807<1+P0.size+3:=by omega
 have o3:¬9223372036854775807<1+P0.size+3+PT.size:=by omega
 have o4:¬9223372036854775807<1+P0.size+3+PT.size+1:=by omega
 obtain⟨f0,f1,f2,f3,f4,f5,f6,f7,y00,y01,y02,y03,y04,y05,y06,y07,y08⟩:=SOF.out _ BZ.out
 clear c00 c01 c02 c03 c04 c05 c06 c07 c08 hr0 hat0 HR0 hP0 hps0 hPT hpsT hin hty hn hwt hok hv hS hg KEEP HSG IH hbk hlw hlen hY htd hR hpr hsum
 go_enter Tryz.func17,Tryz.ntmps17
 go_upto_region 1 with fail
 try rw[hW0]
 clear hW0
 go_wp2_with fail
 go_region_held3 (λw'=>w'.cell? ⟨w.heap.size,0,none⟩=some (.int .i64 7)/\w'.cell? ⟨w.heap.size,1,none⟩=some (.string Y)/\w'.cell? ⟨w.heap.size,2,none⟩=some (.bool td)/\w'.cell? ⟨w.heap.size,3,none⟩=some (.int .i64 K)/\w'.cell? ⟨w.heap.size,4,none⟩=some (.string X)/\w'.cell? ⟨w.heap.size,5,none⟩=some (.int .i64 Z)/\w'.cell? ⟨w.heap.size,6,none⟩=some (.slice A0 m q)/\w'.cell? ⟨w.heap.size,7,none⟩=some (.slice (some ⟨g,0,none⟩) 1 kc)/\w'.cell? ⟨g,0,none⟩=some (.int .i64 (kdE y:Nat))/\w'.cell? ⟨g,1,none⟩=some (.string x0)/\w'.cell? ⟨g,2,none⟩=some (.bool t0)/\w'.cell? ⟨g,3,none⟩=some (.int .i64 K0)/\w'.cell? ⟨g,4,none⟩=some (.string X0)/\w'.cell? ⟨g,5,none⟩=some (.int .i64 Z0)/\w'.cell? ⟨g,6,none⟩=some (.slice D0 m0 q0)/\w'.cell? ⟨g,7,none⟩=some (.slice KA0 kn0 kc0)/\w'.cell? ⟨g,8,none⟩=some (.slice LA0 ln0 lc0)) (first|exact SOF.out _ B2.out|exact SOF.out _ B1.out|exact SOF.out _ B0.out) (first|(first|((with_reducible refine(CA0.out _ (by first|exact B1.out|exact B0.out)).mono ?_);rintro e w1 ⟨rfl,b1⟩;first|(have B2:=hidE (bnext B1.out b1 (by omega)))|(have B1:=hidE (bnext B0.out b1 (by simp)));clear b1))|(first|((with_reducible refine(CT.out _ (by first|exact B1.out|exact B0.out)).mono ?_);rintro e w1 ⟨rfl,b1⟩;first|(have B2:=hidE (bnext B1.out b1 (by omega)))|(have B1:=hidE (bnext B0.out b1 (by simp)));clear b1)))
 all_goals
  go_wp2_with fail
  go_ret
  exact⟨ret_string HX.out,hend.out _ B2.out⟩
end Go.Proofs.YtknkclefoiohpaaGreatDoor

namespace Go.Proofs.YtknkclefoiohpaaGreatDoor
open Go.RowKit Lx Tx Sx
set_option maxRecDepth 100000
set_option maxHeartbeats 6400000 in
theorem d8_app_tw(n:Nat)(IH:PE8 n)(y z:Ex)(S:Nat->Prop)(v:Value)(w:World)(hn:(Ex.app y z).size<=n+1)(hok:(Ex.app y z).Ok)(hwt:(Ex.app y z).wt<=9000)(hv:RdX S w (Ex.app y z) v)(hS:∀g,S g->g<w.heap.size)(hl:y.wide=true)(hr:z.wide=true) :
  Calls Tryz.prog 17 #[v] w λen w'=>en=.returned (.string ⟨(Ex.app y z).print.toArray⟩)/\Below w.heap.size w w':=by
 have hlen:=print_wt _ hok
 obtain⟨Y,td,K,X,Z,A0,m,q,KA,kc,LA,ln,lc,rfl,hY,htd,-,hty,hin⟩:=bx8 hv
 obtain⟨g,rfl,hg,hat0⟩:=hin.kid 0 y rfl
 obtain⟨x0,t0,K0,X0,Z0,D0,m0,q0,KA0,kn0,kc0,LA0,ln0,lc0,c00,c01,c02,c03,c04,c05,c06,c07,c08,hr0⟩:=hat0.cells2
 obtain⟨g1,hgg,-,hat1⟩:=hin.kid 1 z rfl
 obtain rfl:g=g1:=congrArg Addr.block (Option.some.inj hgg)
 obtain⟨x1,t1,K1,X1,Z1,D1,m1,q1,KA1,kn1,kc1,LA1,ln1,lc1,c10,c11,c12,c13,c14,c15,c16,c17,c18,hr1⟩:=hat1.cells2
 have hgw:=hS g hg
 show Calls Tryz.prog _ #[.agg #[.int .i64 4,.string Y,.bool td,.int .i64 K,.string X,.int .i64 Z,.slice A0 m q,.slice (some ⟨g,0,none⟩) 2 kc,.slice LA ln lc]] w _
 obtain⟨W0,hW0⟩:∃W,w.alloc (.cells #[.int .i64 4,.string Y,.bool td,.int .i64 K,.string X,.int .i64 Z,.slice A0 m q,.slice (some ⟨g,0,none⟩) 2 kc,.slice LA ln lc] 48)=W:=⟨_,rfl⟩
 have hlw:Below w.heap.size w W0:=hW0▸(Below.refl _ w).alloc (Nat.le_refl _) _
 have hs0:W0.heap.size=w.heap.size+1:=by rw[<-hW0];simp
 have hbk:Blk W0 w.heap.size 48 #[.int .i64 4,.string Y,.bool td,.int .i64 K,.string X,.int .i64 Z,.slice A0 m q,.slice (some ⟨g,0,none⟩) 2 kc,.slice LA ln lc]:=hW0▸heap_alloc_new _ _
 have hlt0:=hbk.lt
 have KEEP:∀W,Below W0.heap.size W0 W->w.heap.size<W.heap.size/\∀k,k<w.heap.size->W.heap[k]? = w.heap[k]?:=λW hb=>⟨by have:=hb.size;omega,λk hk=>(hb.block k (by omega)).trans (hlw.block k hk)⟩
 have SOF:Hid (∀W,Below W0.heap.size W0 W->W.cell? ⟨w.heap.size,0,none⟩=some (.int .i64 4)/\W.cell? ⟨w.heap.size,1,none⟩=some (.string Y)/\W.cell? ⟨w.heap.size,2,none⟩=some (.bool td)/\W.cell? ⟨w.heap.size,3,none⟩=some (.int .i64 K)/\W.cell? ⟨w.heap.size,4,none⟩=some (.string X)/\W.cell? ⟨w.heap.size,5,none⟩=some (.int .i64 Z)/\W.cell? ⟨w.heap.size,6,none⟩=some (.slice A0 m q)/\W.cell? ⟨w.heap.size,7,none⟩=some (.slice (some ⟨g,0,none⟩) 2 kc)/\W.cell? ⟨g,0,none⟩=some (.int .i64 (kdE y:Nat))/\W.cell? ⟨g,1,none⟩=some (.string x0)/\W.cell? ⟨g,2,none⟩=some (.bool t0)/\W.cell? ⟨g,3,none⟩=some (.int .i64 K0)/\W.cell? ⟨g,4,none⟩=some (.string X0)/\W.cell? ⟨g,5,none⟩=some (.int .i64 Z0)/\W.cell? ⟨g,6,none⟩=some (.slice D0 m0 q0)/\W.cell? ⟨g,7,none⟩=some (.slice KA0 kn0 kc0)/\W.cell? ⟨g,8,none⟩=some (.slice LA0 ln0 lc0)/\W.cell? ⟨g,9,none⟩=some (.int .i64 (kdE z:Nat))/\W.cell? ⟨g,10,none⟩=some (.string x1)/\W.cell? ⟨g,11,none⟩=some (.bool t1)/\W.cell? ⟨g,12,none⟩=some (.int .i64 K1)/\W.cell? ⟨g,13,none⟩=some (.string X1)/\W.cell? ⟨g,14,none⟩=some (.int .i64 Z1)/\W.cell? ⟨g,15,none⟩=some (.slice D1 m1 q1)/\W.cell? ⟨g,16,none⟩=some (.slice KA1 kn1 kc1)/\W.cell? ⟨g,17,none⟩=some (.slice LA1 ln1 lc1)):=hidE λW hb=>by
  have hc:∀i,W.cell? ⟨g,i,none⟩=w.cell? ⟨g,i,none⟩:=λi=>World.cell?_of_block (w:=w) (a:=⟨g,i,none⟩) ((KEEP W hb).2 g hgw)
  have hbx:=hbk.below hb hbk.lt
  exact⟨hbx.cell 0,hbx.cell 1,hbx.cell 2,hbx.cell 3,hbx.cell 4,hbx.cell 5,hbx.cell 6,hbx.cell 7,(hc _).trans c00,(hc _).trans c01,(hc _).trans c02,(hc _).trans c03,(hc _).trans c04,(hc _).trans c05,(hc _).trans c06,(hc _).trans c07,(hc _).trans c08,(hc _).trans c10,(hc _).trans c11,(hc _).trans c12,(hc _).trans c13,(hc _).trans c14,(hc _).trans c15,(hc _).trans c16,(hc _).trans c17,(hc _).trans c18⟩
 have HSG:∀W,Below W0.heap.size W0 W->∀g,S g->g<W.heap.size:=λW hb g hg=>Nat.lt_trans (hS g hg) (KEEP W hb).1
 have HR0:∀W,Below W0.heap.size W0 W->RdX S W y (.agg #[.int .i64 (kdE y:Nat),.string x0,.bool t0,.int .i64 K0,.string X0,.int .i64 Z0,.slice D0 m0 q0,.slice KA0 kn0 kc0,.slice LA0 ln0 lc0]):=λW hb=>hr0.keep (λ_ h=>h) (λg hg=>(KEEP W hb).2 g (hS g hg))
 obtain⟨P0,hP0⟩:∃P:ByteArray,⟨(y).print.toArray⟩=P:=⟨_,rfl⟩
 have hps0:P0.size=(y).print.length:=by rw[<-hP0];rfl
 have CA0:Hid (∀W,Below W0.heap.size W0 W->Calls Tryz.prog 17 #[.agg #[.int .i64 (kdE y:Nat),.string x0,.bool t0,.int .i64 K0,.string X0,.int .i64 Z0,.slice D0 m0 q0,.slice KA0 kn0 kc0,.slice LA0 ln0 lc0]] W λen w'=>en=.returned (.string P0)/\Below W.heap.size W w'):=hidE λW hb=>by
  have h:=IH y S _ W (by rw[Ex.size]at hn;omega) (ok_part _ y (by simp[parts,kidsE,altsE]) hok) (Nat.le_trans (part_wt _ y (by simp[parts,kidsE,altsE])) hwt) (HR0 W hb) (HSG W hb)
  rw[hP0]at h
  exact h
 have HR1:∀W,Below W0.heap.size W0 W->RdX S W z (.agg #[.int .i64 (kdE z:Nat),.string x1,.bool t1,.int .i64 K1,.string X1,.int .i64 Z1,.slice D1 m1 q1,.slice KA1 kn1 kc1,.slice LA1 ln1 lc1]):=λW hb=>hr1.keep (λ_ h=>h) (λg hg=>(KEEP W hb).2 g (hS g hg))
 obtain⟨P1,hP1⟩:∃P:ByteArray,⟨(z).print.toArray⟩=P:=⟨_,rfl⟩
 have hps1:P1.size=(z).print.length:=by rw[<-hP1];rfl
 have CA1:Hid (∀W,Below W0.heap.size W0 W->Calls Tryz.prog 17 #[.agg #[.int .i64 (kdE z:Nat),.string x1,.bool t1,.int .i64 K1,.string X1,.int .i64 Z1,.slice D1 m1 q1,.slice KA1 kn1 kc1,.slice LA1 ln1 lc1]] W λen w'=>en=.returned (.string P1)/\Below W.heap.size W w'):=hidE λW hb=>by
  have h:=IH z S _ W (by rw[Ex.size]at hn;omega) (ok_part _ z (by simp[parts,kidsE,altsE]) hok) (Nat.le_trans (part_wt _ z (by simp[parts,kidsE,altsE])) hwt) (HR1 W hb) (HSG W hb)
  rw[hP1]at h
  exact h
 have B0:Hid (Below W0.heap.size W0 W0.drew):=hidE (Below.refl _ _).drew
 have BZ:Hid (Below W0.heap.size W0 W0):=hidE (Below.refl _ _)
 have hend:Hid (∀W,Below W0.heap.size W0 W->Below w.heap.size w W):=hidE λW hb=>hlw.trans (hb.mono (by omega))
 obtain⟨R,hR⟩:∃R:ByteArray,⟨(Ex.app y z).print.toArray⟩=R:=⟨_,rfl⟩
 rw[hR]
 have hpr:(Ex.app y z).print=(40::(y.print++[41]))++[32]++(40::(z.print++[41])):=by rw[Ex.print,hl,hr];rfl
 have HX:Hid ((⟨#[40]⟩++P0++⟨#[41]⟩)++⟨#[32]⟩++(⟨#[40]⟩++P1++⟨#[41]⟩)=R):=hidE (by rw[<-hR,<-hP0,<-hP1,hpr];apply ByteArray.ext;simp)
 have hsum:y.print.length+z.print.length<=900000:=by rw[hpr]at hlen;simp only[List.length_append,List.length_cons,List.length_nil]at hlen;omega
 have hps2:P0.size<=900000:=by omega
 have hpt2:P1.size<=900000:=by omega
 have CW0:Hid (∀W,Below W0.heap.size W0 W->Calls Tryz.prog 50 #[.agg #[.int .i64 (kdE y:Nat),.string x0,.bool t0,.int .i64 K0,.string X0,.int .i64 Z0,.slice D0 m0 q0,.slice KA0 kn0 kc0,.slice LA0 ln0 lc0]] W λen w'=>en=.returned (.bool true)/\Below W.heap.size W w'):=hidE λW hb=>by have:=d8_wide y S _ W (HR0 W hb);rwa [hl]at this
 have CW1:Hid (∀W,Below W0.heap.size W0 W->Calls Tryz.prog 50 #[.agg #[.int .i64 (kdE z:Nat),.string x1,.bool t1,.int .i64 K1,.string X1,.int .i64 Z1,.slice D1 m1 q1,.slice KA1 kn1 kc1,.slice LA1 ln1 lc1]] W λen w'=>en=.returned (.bool true)/\Below W.heap.size W w'):=hidE λW hb=>by have:=d8_wide z S _ W (HR1 W hb);rwa [hr]at this
 obtain⟨f0,f1,f2,f3,f4,f5,f6,f7,y00,y01,y02,y03,y04,y05,y06,y07,y08,y10,y11,y12,y13,y14,y15,y16,y17,y18⟩:=SOF.out _ BZ.out
 clear c00 c01 c02 c03 c04 c05 c06 c07 c08 c10 c11 c12 c13 c14 c15 c16 c17 c18 hr0 hat0 HR0 hP0 hps0 hr1 hat1 HR1 hP1 hps1 hin hty hn hwt hok hv hS hg KEEP HSG IH hbk hlw hlen hY htd hR hpr hsum hl hr
 go_enter Tryz.func17,Tryz.ntmps17
 go_upto_region 1 with fail
 try rw[hW0]
 clear hW0
 go_wp2_with fail
 refine(CA0.out _ BZ.out).mono ?_
 rintro en w1 ⟨rfl,b1⟩
 have B1:=hidE (b1)
 clear b1
 clear f0 f1 f2 f3 f4 f5 f6 f7 y00 y01 y02 y03 y04 y05 y06 y07 y08 y10 y11 y12 y13 y14 y15 y16 y17 y18
 obtain⟨f0,f1,f2,f3,f4,f5,f6,f7,y00,y01,y02,y03,y04,y05,y06,y07,y08,y10,y11,y12,y13,y14,y15,y16,y17,y18⟩:=SOF.out w1 B1.out
 go_wp2_with fail
 refine(CA1.out _ B1.out).mono ?_
 rintro en w2 ⟨rfl,b2⟩
 have B2:=hidE (bnext B1.out b2 (by omega))
 clear b2
 clear f0 f1 f2 f3 f4 f5 f6 f7 y00 y01 y02 y03 y04 y05 y06 y07 y08 y10 y11 y12 y13 y14 y15 y16 y17 y18
 obtain⟨f0,f1,f2,f3,f4,f5,f6,f7,y00,y01,y02,y03,y04,y05,y06,y07,y08,y10,y11,y12,y13,y14,y15,y16,y17,y18⟩:=SOF.out w2 B2.out
 go_wp2_with fail
 refine(CW0.out _ B2.out).mono ?_
 rintro en w3 ⟨rfl,b3⟩
 have B3:=hidE (bnext B2.out b3 (by omega))
 clear b3
 clear f0 f1 f2 f3 f4 f5 f6 f7 y00 y01 y02 y03 y04 y05 y06 y07 y08 y10 y11 y12 y13 y14 y15 y16 y17 y18
 obtain⟨f0,f1,f2,f3,f4,f5,f6,f7,y00,y01,y02,y03,y04,y05,y06,y07,y08,y10,y11,y12,y13,y14,y15,y16,y17,y18⟩:=SOF.out w3 B3.out
 go_wp2_with fail
 refine(CW1.out _ B3.out).mono ?_
 rintro en w4 ⟨rfl,b4⟩
 have B4:=hidE (bnext B3.out b4 (by omega))
 clear b4
 clear f0 f1 f2 f3 f4 f5 f6 f7 y00 y01 y02 y03 y04 y05 y06 y07 y08 y10 y11 y12 y13 y14 y15 y16 y17 y18
 obtain⟨f0,f1,f2,f3,f4,f5,f6,f7,y00,y01,y02,y03,y04,y05,y06,y07,y08,y10,y11,y12,y13,y14,y15,y16,y17,y18⟩:=SOF.out w4 B4.out
 go_wp2_with fail
 go_ret
 exact⟨ret_string HX.out,hend.out _ B4.out⟩
set_option maxHeartbeats 6400000 in
theorem d8_app_ta(n:Nat)(IH:PE8 n)(y z:Ex)(S:Nat->Prop)(v:Value)(w:World)(hn:(Ex.app y z).size<=n+1)(hok:(Ex.app y z).Ok)(hwt:(Ex.app y z).wt<=9000)(hv:RdX S w (Ex.app y z) v)(hS:∀g,S g->g<w.heap.size)(hl:y.wide=true)(hr:z.wide=false)(ha:z.isApp=true) :
  Calls Tryz.prog 17 #[v] w λen w'=>en=.returned (.string ⟨(Ex.app y z).print.toArray⟩)/\Below w.heap.size w w':=by
 have hlen:=print_wt _ hok
 obtain⟨Y,td,K,X,Z,A0,m,q,KA,kc,LA,ln,lc,rfl,hY,htd,-,hty,hin⟩:=bx8 hv
 obtain⟨g,rfl,hg,hat0⟩:=hin.kid 0 y rfl
 obtain⟨x0,t0,K0,X0,Z0,D0,m0,q0,KA0,kn0,kc0,LA0,ln0,lc0,c00,c01,c02,c03,c04,c05,c06,c07,c08,hr0⟩:=hat0.cells2
 obtain⟨g1,hgg,-,hat1⟩:=hin.kid 1 z rfl
 obtain rfl:g=g1:=congrArg Addr.block (Option.some.inj hgg)
 obtain⟨x1,t1,K1,X1,Z1,D1,m1,q1,KA1,kn1,kc1,LA1,ln1,lc1,c10,c11,c12,c13,c14,c15,c16,c17,c18,hr1⟩:=hat1.cells2
 have hgw:=hS g hg
 show Calls Tryz.prog _ #[.agg #[.int .i64 4,.string Y,.bool td,.int .i64 K,.string X,.int .i64 Z,.slice A0 m q,.slice (some ⟨g,0,none⟩) 2 kc,.slice LA ln lc]] w _
 obtain⟨W0,hW0⟩:∃W,w.alloc (.cells #[.int .i64 4,.string Y,.bool td,.int .i64 K,.string X,.int .i64 Z,.slice A0 m q,.slice (some ⟨g,0,none⟩) 2 kc,.slice LA ln lc] 48)=W:=⟨_,rfl⟩
 have hlw:Below w.heap.size w W0:=hW0▸(Below.refl _ w).alloc (Nat.le_refl _) _
 have hs0:W0.heap.size=w.heap.size+1:=by rw[<-hW0];simp
 have hbk:Blk W0 w.heap.size 48 #[.int .i64 4,.string Y,.bool td,.int .i64 K,.string X,.int .i64 Z,.slice A0 m q,.slice (some ⟨g,0,none⟩) 2 kc,.slice LA ln lc]:=hW0▸heap_alloc_new _ _
 have hlt0:=hbk.lt
 have KEEP:∀W,Below W0.heap.size W0 W->w.heap.size<W.heap.size/\∀k,k<w.heap.size->W.heap[k]? = w.heap[k]?:=λW hb=>⟨by have:=hb.size;omega,λk hk=>(hb.block k (by omega)).trans (hlw.block k hk)⟩
 have SOF:Hid (∀W,Below W0.heap.size W0 W->W.cell? ⟨w.heap.size,0,none⟩=some (.int .i64 4)/\W.cell? ⟨w.heap.size,1,none⟩=some (.string Y)/\W.cell? ⟨w.heap.size,2,none⟩=some (.bool td)/\W.cell? ⟨w.heap.size,3,none⟩=some (.int .i64 K)/\W.cell? ⟨w.heap.size,4,none⟩=some (.string X)/\W.cell? ⟨w.heap.size,5,none⟩=some (.int .i64 Z)/\W.cell? ⟨w.heap.size,6,none⟩=some (.slice A0 m q)/\W.cell? ⟨w.heap.size,7,none⟩=some (.slice (some ⟨g,0,none⟩) 2 kc)/\W.cell? ⟨g,0,none⟩=some (.int .i64 (kdE y:Nat))/\W.cell? ⟨g,1,none⟩=some (.string x0)/\W.cell? ⟨g,2,none⟩=some (.bool t0)/\W.cell? ⟨g,3,none⟩=some (.int .i64 K0)/\W.cell? ⟨g,4,none⟩=some (.string X0)/\W.cell? ⟨g,5,none⟩=some (.int .i64 Z0)/\W.cell? ⟨g,6,none⟩=some (.slice D0 m0 q0)/\W.cell? ⟨g,7,none⟩=some (.slice KA0 kn0 kc0)/\W.cell? ⟨g,8,none⟩=some (.slice LA0 ln0 lc0)/\W.cell? ⟨g,9,none⟩=some (.int .i64 (kdE z:Nat))/\W.cell? ⟨g,10,none⟩=some (.string x1)/\W.cell? ⟨g,11,none⟩=some (.bool t1)/\W.cell? ⟨g,12,none⟩=some (.int .i64 K1)/\W.cell? ⟨g,13,none⟩=some (.string X1)/\W.cell? ⟨g,14,none⟩=some (.int .i64 Z1)/\W.cell? ⟨g,15,none⟩=some (.slice D1 m1 q1)/\W.cell? ⟨g,16,none⟩=some (.slice KA1 kn1 kc1)/\W.cell? ⟨g,17,none⟩=some (.slice LA1 ln1 lc1)):=hidE λW hb=>by
  have hc:∀i,W.cell? ⟨g,i,none⟩=w.cell? ⟨g,i,none⟩:=λi=>World.cell?_of_block (w:=w) (a:=⟨g,i,none⟩) ((KEEP W hb).2 g hgw)
  have hbx:=hbk.below hb hbk.lt
  exact⟨hbx.cell 0,hbx.cell 1,hbx.cell 2,hbx.cell 3,hbx.cell 4,hbx.cell 5,hbx.cell 6,hbx.cell 7,(hc _).trans c00,(hc _).trans c01,(hc _).trans c02,(hc _).trans c03,(hc _).trans c04,(hc _).trans c05,(hc _).trans c06,(hc _).trans c07,(hc _).trans c08,(hc _).trans c10,(hc _).trans c11,(hc _).trans c12,(hc _).trans c13,(hc _).trans c14,(hc _).trans c15,(hc _).trans c16,(hc _).trans c17,(hc _).trans c18⟩
 have HSG:∀W,Below W0.heap.size W0 W->∀g,S g->g<W.heap.size:=λW hb g hg=>Nat.lt_trans (hS g hg) (KEEP W hb).1
 have HR0:∀W,Below W0.heap.size W0 W->RdX S W y (.agg #[.int .i64 (kdE y:Nat),.string x0,.bool t0,.int .i64 K0,.string X0,.int .i64 Z0,.slice D0 m0 q0,.slice KA0 kn0 kc0,.slice LA0 ln0 lc0]):=λW hb=>hr0.keep (λ_ h=>h) (λg hg=>(KEEP W hb).2 g (hS g hg))
 obtain⟨P0,hP0⟩:∃P:ByteArray,⟨(y).print.toArray⟩=P:=⟨_,rfl⟩
 have hps0:P0.size=(y).print.length:=by rw[<-hP0];rfl
 have CA0:Hid (∀W,Below W0.heap.size W0 W->Calls Tryz.prog 17 #[.agg #[.int .i64 (kdE y:Nat),.string x0,.bool t0,.int .i64 K0,.string X0,.int .i64 Z0,.slice D0 m0 q0,.slice KA0 kn0 kc0,.slice LA0 ln0 lc0]] W λen w'=>en=.returned (.string P0)/\Below W.heap.size W w'):=hidE λW hb=>by
  have h:=IH y S _ W (by rw[Ex.size]at hn;omega) (ok_part _ y (by simp[parts,kidsE,altsE]) hok) (Nat.le_trans (part_wt _ y (by simp[parts,kidsE,altsE])) hwt) (HR0 W hb) (HSG W hb)
  rw[hP0]at h
  exact h
 have HR1:∀W,Below W0.heap.size W0 W->RdX S W z (.agg #[.int .i64 (kdE z:Nat),.string x1,.bool t1,.int .i64 K1,.string X1,.int .i64 Z1,.slice D1 m1 q1,.slice KA1 kn1 kc1,.slice LA1 ln1 lc1]):=λW hb=>hr1.keep (λ_ h=>h) (λg hg=>(KEEP W hb).2 g (hS g hg))
 obtain⟨P1,hP1⟩:∃P:ByteArray,⟨(z).print.toArray⟩=P:=⟨_,rfl⟩
 have hps1:P1.size=(z).print.length:=by rw[<-hP1];rfl
 have CA1:Hid (∀W,Below W0.heap.size W0 W->Calls Tryz.prog 17 #[.agg #[.int .i64 (kdE z:Nat),.string x1,.bool t1,.int .i64 K1,.string X1,.int .i64 Z1,.slice D1 m1 q1,.slice KA1 kn1 kc1,.slice LA1 ln1 lc1]] W λen w'=>en=.returned (.string P1)/\Below W.heap.size W w'):=hidE λW hb=>by
  have h:=IH z S _ W (by rw[Ex.size]at hn;omega) (ok_part _ z (by simp[parts,kidsE,altsE]) hok) (Nat.le_trans (part_wt _ z (by simp[parts,kidsE,altsE])) hwt) (HR1 W hb) (HSG W hb)
  rw[hP1]at h
  exact h
 have B0:Hid (Below W0.heap.size W0 W0.drew):=hidE (Below.refl _ _).drew
 have BZ:Hid (Below W0.heap.size W0 W0):=hidE (Below.refl _ _)
 have hend:Hid (∀W,Below W0.heap.size W0 W->Below w.heap.size w W):=hidE λW hb=>hlw.trans (hb.mono (by omega))
 obtain⟨R,hR⟩:∃R:ByteArray,⟨(Ex.app y z).print.toArray⟩=R:=⟨_,rfl⟩
 rw[hR]
 have hpr:(Ex.app y z).print=(40::(y.print++[41]))++[32]++(40::(z.print++[41])):=by rw[Ex.print,hl,hr];rw[ha];rfl
 have HX:Hid ((⟨#[40]⟩++P0++⟨#[41]⟩)++⟨#[32]⟩++(⟨#[40]⟩++P1++⟨#[41]⟩)=R):=hidE (by rw[<-hR,<-hP0,<-hP1,hpr];apply ByteArray.ext;simp)
 have hsum:y.print.length+z.print.length<=900000:=by rw[hpr]at hlen;simp only[List.length_append,List.length_cons,List.length_nil]at hlen;omega
 have hps2:P0.size<=900000:=by omega
 have hpt2:P1.size<=900000:=by omega
 have CW0:Hid (∀W,Below W0.heap.size W0 W->Calls Tryz.prog 50 #[.agg #[.int .i64 (kdE y:Nat),.string x0,.bool t0,.int .i64 K0,.string X0,.int .i64 Z0,.slice D0 m0 q0,.slice KA0 kn0 kc0,.slice LA0 ln0 lc0]] W λen w'=>en=.returned (.bool true)/\Below W.heap.size W w'):=hidE λW hb=>by have:=d8_wide y S _ W (HR0 W hb);rwa [hl]at this
 have CW1:Hid (∀W,Below W0.heap.size W0 W->Calls Tryz.prog 50 #[.agg #[.int .i64 (kdE z:Nat),.string x1,.bool t1,.int .i64 K1,.string X1,.int .i64 Z1,.slice D1 m1 q1,.slice KA1 kn1 kc1,.slice LA1 ln1 lc1]] W λen w'=>en=.returned (.bool false)/\Below W.heap.size W w'):=hidE λW hb=>by have:=d8_wide z S _ W (HR1 W hb);rwa [hr]at this
 have d4:kdE z=4:=by cases z <;> simp[Ex.isApp]at ha;rfl
 have D5:Hid (((kdE z:Nat):Int)=4):=hidE (by rw[d4];rfl)
 clear d4
 obtain⟨f0,f1,f2,f3,f4,f5,f6,f7,y00,y01,y02,y03,y04,y05,y06,y07,y08,y10,y11,y12,y13,y14,y15,y16,y17,y18⟩:=SOF.out _ BZ.out
 clear c00 c01 c02 c03 c04 c05 c06 c07 c08 c10 c11 c12 c13 c14 c15 c16 c17 c18 hr0 hat0 HR0 hP0 hps0 hr1 hat1 HR1 hP1 hps1 hin hty hn hwt hok hv hS hg KEEP HSG IH hbk hlw hlen hY htd hR hpr hsum hl hr ha
 go_enter Tryz.func17,Tryz.ntmps17
 go_upto_region 1 with fail
 try rw[hW0]
 clear hW0
 go_wp2_with fail
 refine(CA0.out _ BZ.out).mono ?_
 rintro en w1 ⟨rfl,b1⟩
 have B1:=hidE (b1)
 clear b1
 clear f0 f1 f2 f3 f4 f5 f6 f7 y00 y01 y02 y03 y04 y05 y06 y07 y08 y10 y11 y12 y13 y14 y15 y16 y17 y18
 obtain⟨f0,f1,f2,f3,f4,f5,f6,f7,y00,y01,y02,y03,y04,y05,y06,y07,y08,y10,y11,y12,y13,y14,y15,y16,y17,y18⟩:=SOF.out w1 B1.out
 go_wp2_with fail
 refine(CA1.out _ B1.out).mono ?_
 rintro en w2 ⟨rfl,b2⟩
 have B2:=hidE (bnext B1.out b2 (by omega))
 clear b2
 clear f0 f1 f2 f3 f4 f5 f6 f7 y00 y01 y02 y03 y04 y05 y06 y07 y08 y10 y11 y12 y13 y14 y15 y16 y17 y18
 obtain⟨f0,f1,f2,f3,f4,f5,f6,f7,y00,y01,y02,y03,y04,y05,y06,y07,y08,y10,y11,y12,y13,y14,y15,y16,y17,y18⟩:=SOF.out w2 B2.out
 go_wp2_with fail
 refine(CW0.out _ B2.out).mono ?_
 rintro en w3 ⟨rfl,b3⟩
 have B3:=hidE (bnext B2.out b3 (by omega))
 clear b3
 clear f0 f1 f2 f3 f4 f5 f6 f7 y00 y01 y02 y03 y04 y05 y06 y07 y08 y10 y11 y12 y13 y14 y15 y16 y17 y18
 obtain⟨f0,f1,f2,f3,f4,f5,f6,f7,y00,y01,y02,y03,y04,y05,y06,y07,y08,y10,y11,y12,y13,y14,y15,y16,y17,y18⟩:=SOF.out w3 B3.out
 go_wp2_with fail
 refine(CW1.out _ B3.out).mono ?_
 rintro en w4 ⟨rfl,b4⟩
 have B4:=hidE (bnext B3.out b4 (by omega))
 clear b4
 clear f0 f1 f2 f3 f4 f5 f6 f7 y00 y01 y02 y03 y04 y05 y06 y07 y08 y10 y11 y12 y13 y14 y15 y16 y17 y18
 obtain⟨f0,f1,f2,f3,f4,f5,f6,f7,y00,y01,y02,y03,y04,y05,y06,y07,y08,y10,y11,y12,y13,y14,y15,y16,y17,y18⟩:=SOF.out w4 B4.out
 have d5:=D5.out
 go_wp2_with fail
 go_ret
 exact⟨ret_string HX.out,hend.out _ B4.out⟩
set_option maxHeartbeats 6400000 in
theorem d8_app_tn(n:Nat)(IH:PE8 n)(y z:Ex)(S:Nat->Prop)(v:Value)(w:World)(hn:(Ex.app y z).size<=n+1)(hok:(Ex.app y z).Ok)(hwt:(Ex.app y z).wt<=9000)(hv:RdX S w (Ex.app y z) v)(hS:∀g,S g->g<w.heap.size)(hl:y.wide=true)(hr:z.wide=false)(ha:z.isApp=false) :
  Calls Tryz.prog 17 #[v] w λen w'=>en=.returned (.string ⟨(Ex.app y z).print.toArray⟩)/\Below w.heap.size w w':=by
 have hlen:=print_wt _ hok
 obtain⟨Y,td,K,X,Z,A0,m,q,KA,kc,LA,ln,lc,rfl,hY,htd,-,hty,hin⟩:=bx8 hv
 obtain⟨g,rfl,hg,hat0⟩:=hin.kid 0 y rfl
 obtain⟨x0,t0,K0,X0,Z0,D0,m0,q0,KA0,kn0,kc0,LA0,ln0,lc0,c00,c01,c02,c03,c04,c05,c06,c07,c08,hr0⟩:=hat0.cells2
 obtain⟨g1,hgg,-,hat1⟩:=hin.kid 1 z rfl
 obtain rfl:g=g1:=congrArg Addr.block (Option.some.inj hgg)
 obtain⟨x1,t1,K1,X1,Z1,D1,m1,q1,KA1,kn1,kc1,LA1,ln1,lc1,c10,c11,c12,c13,c14,c15,c16,c17,c18,hr1⟩:=hat1.cells2
 have hgw:=hS g hg
 show Calls Tryz.prog _ #[.agg #[.int .i64 4,.string Y,.bool td,.int .i64 K,.string X,.int .i64 Z,.slice A0 m q,.slice (some ⟨g,0,none⟩) 2 kc,.slice LA ln lc]] w _
 obtain⟨W0,hW0⟩:∃W,w.alloc (.cells #[.int .i64 4,.string Y,.bool td,.int .i64 K,.string X,.int .i64 Z,.slice A0 m q,.slice (some ⟨g,0,none⟩) 2 kc,.slice LA ln lc] 48)=W:=⟨_,rfl⟩
 have hlw:Below w.heap.size w W0:=hW0▸(Below.refl _ w).alloc (Nat.le_refl _) _
 have hs0:W0.heap.size=w.heap.size+1:=by rw[<-hW0];simp
 have hbk:Blk W0 w.heap.size 48 #[.int .i64 4,.string Y,.bool td,.int .i64 K,.string X,.int .i64 Z,.slice A0 m q,.slice (some ⟨g,0,none⟩) 2 kc,.slice LA ln lc]:=hW0▸heap_alloc_new _ _
 have hlt0:=hbk.lt
 have KEEP:∀W,Below W0.heap.size W0 W->w.heap.size<W.heap.size/\∀k,k<w.heap.size->W.heap[k]? = w.heap[k]?:=λW hb=>⟨by have:=hb.size;omega,λk hk=>(hb.block k (by omega)).trans (hlw.block k hk)⟩
 have SOF:Hid (∀W,Below W0.heap.size W0 W->W.cell? ⟨w.heap.size,0,none⟩=some (.int .i64 4)/\W.cell? ⟨w.heap.size,1,none⟩=some (.string Y)/\W.cell? ⟨w.heap.size,2,none⟩=some (.bool td)/\W.cell? ⟨w.heap.size,3,none⟩=some (.int .i64 K)/\W.cell? ⟨w.heap.size,4,none⟩=some (.string X)/\W.cell? ⟨w.heap.size,5,none⟩=some (.int .i64 Z)/\W.cell? ⟨w.heap.size,6,none⟩=some (.slice A0 m q)/\W.cell? ⟨w.heap.size,7,none⟩=some (.slice (some ⟨g,0,none⟩) 2 kc)/\W.cell? ⟨g,0,none⟩=some (.int .i64 (kdE y:Nat))/\W.cell? ⟨g,1,none⟩=some (.string x0)/\W.cell? ⟨g,2,none⟩=some (.bool t0)/\W.cell? ⟨g,3,none⟩=some (.int .i64 K0)/\W.cell? ⟨g,4,none⟩=some (.string X0)/\W.cell? ⟨g,5,none⟩=some (.int .i64 Z0)/\W.cell? ⟨g,6,none⟩=some (.slice D0 m0 q0)/\W.cell? ⟨g,7,none⟩=some (.slice KA0 kn0 kc0)/\W.cell? ⟨g,8,none⟩=some (.slice LA0 ln0 lc0)/\W.cell? ⟨g,9,none⟩=some (.int .i64 (kdE z:Nat))/\W.cell? ⟨g,10,none⟩=some (.string x1)/\W.cell? ⟨g,11,none⟩=some (.bool t1)/\W.cell? ⟨g,12,none⟩=some (.int .i64 K1)/\W.cell? ⟨g,13,none⟩=some (.string X1)/\W.cell? ⟨g,14,none⟩=some (.int .i64 Z1)/\W.cell? ⟨g,15,none⟩=some (.slice D1 m1 q1)/\W.cell? ⟨g,16,none⟩=some (.slice KA1 kn1 kc1)/\W.cell? ⟨g,17,none⟩=some (.slice LA1 ln1 lc1)):=hidE λW hb=>by
  have hc:∀i,W.cell? ⟨g,i,none⟩=w.cell? ⟨g,i,none⟩:=λi=>World.cell?_of_block (w:=w) (a:=⟨g,i,none⟩) ((KEEP W hb).2 g hgw)
  have hbx:=hbk.below hb hbk.lt
  exact⟨hbx.cell 0,hbx.cell 1,hbx.cell 2,hbx.cell 3,hbx.cell 4,hbx.cell 5,hbx.cell 6,hbx.cell 7,(hc _).trans c00,(hc _).trans c01,(hc _).trans c02,(hc _).trans c03,(hc _).trans c04,(hc _).trans c05,(hc _).trans c06,(hc _).trans c07,(hc _).trans c08,(hc _).trans c10,(hc _).trans c11,(hc _).trans c12,(hc _).trans c13,(hc _).trans c14,(hc _).trans c15,(hc _).trans c16,(hc _).trans c17,(hc _).trans c18⟩
 have HSG:∀W,Below W0.heap.size W0 W->∀g,S g->g<W.heap.size:=λW hb g hg=>Nat.lt_trans (hS g hg) (KEEP W hb).1
 have HR0:∀W,Below W0.heap.size W0 W->RdX S W y (.agg #[.int .i64 (kdE y:Nat),.string x0,.bool t0,.int .i64 K0,.string X0,.int .i64 Z0,.slice D0 m0 q0,.slice KA0 kn0 kc0,.slice LA0 ln0 lc0]):=λW hb=>hr0.keep (λ_ h=>h) (λg hg=>(KEEP W hb).2 g (hS g hg))
 obtain⟨P0,hP0⟩:∃P:ByteArray,⟨(y).print.toArray⟩=P:=⟨_,rfl⟩
 have hps0:P0.size=(y).print.length:=by rw[<-hP0];rfl
 have CA0:Hid (∀W,Below W0.heap.size W0 W->Calls Tryz.prog 17 #[.agg #[.int .i64 (kdE y:Nat),.string x0,.bool t0,.int .i64 K0,.string X0,.int .i64 Z0,.slice D0 m0 q0,.slice KA0 kn0 kc0,.slice LA0 ln0 lc0]] W λen w'=>en=.returned (.string P0)/\Below W.heap.size W w'):=hidE λW hb=>by
  have h:=IH y S _ W (by rw[Ex.size]at hn;omega) (ok_part _ y (by simp[parts,kidsE,altsE]) hok) (Nat.le_trans (part_wt _ y (by simp[parts,kidsE,altsE])) hwt) (HR0 W hb) (HSG W hb)
  rw[hP0]at h
  exact h
 have HR1:∀W,Below W0.heap.size W0 W->RdX S W z (.agg #[.int .i64 (kdE z:Nat),.string x1,.bool t1,.int .i64 K1,.string X1,.int .i64 Z1,.slice D1 m1 q1,.slice KA1 kn1 kc1,.slice LA1 ln1 lc1]):=λW hb=>hr1.keep (λ_ h=>h) (λg hg=>(KEEP W hb).2 g (hS g hg))
 obtain⟨P1,hP1⟩:∃P:ByteArray,⟨(z).print.toArray⟩=P:=⟨_,rfl⟩
 have hps1:P1.size=(z).print.length:=by rw[<-hP1];rfl
 have CA1:Hid (∀W,Below W0.heap.size W0 W->Calls Tryz.prog 17 #[.agg #[.int .i64 (kdE z:Nat),.string x1,.bool t1,.int .i64 K1,.string X1,.int .i64 Z1,.slice D1 m1 q1,.slice KA1 kn1 kc1,.slice LA1 ln1 lc1]] W λen w'=>en=.returned (.string P1)/\Below W.heap.size W w'):=hidE λW hb=>by
  have h:=IH z S _ W (by rw[Ex.size]at hn;omega) (ok_part _ z (by simp[parts,kidsE,altsE]) hok) (Nat.le_trans (part_wt _ z (by simp[parts,kidsE,altsE])) hwt) (HR1 W hb) (HSG W hb)
  rw[hP1]at h
  exact h
 have B0:Hid (Below W0.heap.size W0 W0.drew):=hidE (Below.refl _ _).drew
 have BZ:Hid (Below W0.heap.size W0 W0):=hidE (Below.refl _ _)
 have hend:Hid (∀W,Below W0.heap.size W0 W->Below w.heap.size w W):=hidE λW hb=>hlw.trans (hb.mono (by omega))
 obtain⟨R,hR⟩:∃R:ByteArray,⟨(Ex.app y z).print.toArray⟩=R:=⟨_,rfl⟩
 rw[hR]
 have hpr:(Ex.app y z).print=(40::(y.print++[41]))++[32]++z.print:=by rw[Ex.print,hl,hr];rw[ha];rfl
 have HX:Hid ((⟨#[40]⟩++P0++⟨#[41]⟩)++⟨#[32]⟩++(P1)=R):=hidE (by rw[<-hR,<-hP0,<-hP1,hpr];apply ByteArray.ext;simp)
 have hsum:y.print.length+z.print.length<=900000:=by rw[hpr]at hlen;simp only[List.length_append,List.length_cons,List.length_nil]at hlen;omega
 have hps2:P0.size<=900000:=by omega
 have hpt2:P1.size<=900000:=by omega
 have CW0:Hid (∀W,Below W0.heap.size W0 W->Calls Tryz.prog 50 #[.agg #[.int .i64 (kdE y:Nat),.string x0,.bool t0,.int .i64 K0,.string X0,.int .i64 Z0,.slice D0 m0 q0,.slice KA0 kn0 kc0,.slice LA0 ln0 lc0]] W λen w'=>en=.returned (.bool true)/\Below W.heap.size W w'):=hidE λW hb=>by have:=d8_wide y S _ W (HR0 W hb);rwa [hl]at this
 have CW1:Hid (∀W,Below W0.heap.size W0 W->Calls Tryz.prog 50 #[.agg #[.int .i64 (kdE z:Nat),.string x1,.bool t1,.int .i64 K1,.string X1,.int .i64 Z1,.slice D1 m1 q1,.slice KA1 kn1 kc1,.slice LA1 ln1 lc1]] W λen w'=>en=.returned (.bool false)/\Below W.heap.size W w'):=hidE λW hb=>by have:=d8_wide z S _ W (HR1 W hb);rwa [hr]at this
 have d4:¬kdE z=4:=by cases z <;> simp[Ex.isApp,kdE]at ha ⊢
 have d5:¬((kdE z:Nat):Int)=4:=by omega
 obtain⟨f0,f1,f2,f3,f4,f5,f6,f7,y00,y01,y02,y03,y04,y05,y06,y07,y08,y10,y11,y12,y13,y14,y15,y16,y17,y18⟩:=SOF.out _ BZ.out
 clear c00 c01 c02 c03 c04 c05 c06 c07 c08 c10 c11 c12 c13 c14 c15 c16 c17 c18 hr0 hat0 HR0 hP0 hps0 hr1 hat1 HR1 hP1 hps1 hin hty hn hwt hok hv hS hg KEEP HSG IH hbk hlw hlen hY htd hR hpr hsum hl hr ha
 go_enter Tryz.func17,Tryz.ntmps17
 go_upto_region 1 with fail
 try rw[hW0]
 clear hW0
 go_wp2_with fail
 refine(CA0.out _ BZ.out).mono ?_
 rintro en w1 ⟨rfl,b1⟩
 have B1:=hidE (b1)
 clear b1
 clear f0 f1 f2 f3 f4 f5 f6 f7 y00 y01 y02 y03 y04 y05 y06 y07 y08 y10 y11 y12 y13 y14 y15 y16 y17 y18
 obtain⟨f0,f1,f2,f3,f4,f5,f6,f7,y00,y01,y02,y03,y04,y05,y06,y07,y08,y10,y11,y12,y13,y14,y15,y16,y17,y18⟩:=SOF.out w1 B1.out
 go_wp2_with fail
 refine(CA1.out _ B1.out).mono ?_
 rintro en w2 ⟨rfl,b2⟩
 have B2:=hidE (bnext B1.out b2 (by omega))
 clear b2
 clear f0 f1 f2 f3 f4 f5 f6 f7 y00 y01 y02 y03 y04 y05 y06 y07 y08 y10 y11 y12 y13 y14 y15 y16 y17 y18
 obtain⟨f0,f1,f2,f3,f4,f5,f6,f7,y00,y01,y02,y03,y04,y05,y06,y07,y08,y10,y11,y12,y13,y14,y15,y16,y17,y18⟩:=SOF.out w2 B2.out
 go_wp2_with fail
 refine(CW0.out _ B2.out).mono ?_
 rintro en w3 ⟨rfl,b3⟩
 have B3:=hidE (bnext B2.out b3 (by omega))
 clear b3
 clear f0 f1 f2 f3 f4 f5 f6 f7 y00 y01 y02 y03 y04 y05 y06 y07 y08 y10 y11 y12 y13 y14 y15 y16 y17 y18
 obtain⟨f0,f1,f2,f3,f4,f5,f6,f7,y00,y01,y02,y03,y04,y05,y06,y07,y08,y10,y11,y12,y13,y14,y15,y16,y17,y18⟩:=SOF.out w3 B3.out
 go_wp2_with fail
 refine(CW1.out _ B3.out).mono ?_
 rintro en w4 ⟨rfl,b4⟩
 have B4:=hidE (bnext B3.out b4 (by omega))
 clear b4
 clear f0 f1 f2 f3 f4 f5 f6 f7 y00 y01 y02 y03 y04 y05 y06 y07 y08 y10 y11 y12 y13 y14 y15 y16 y17 y18
 obtain⟨f0,f1,f2,f3,f4,f5,f6,f7,y00,y01,y02,y03,y04,y05,y06,y07,y08,y10,y11,y12,y13,y14,y15,y16,y17,y18⟩:=SOF.out w4 B4.out
 go_wp2_with fail
 go_ret
 exact⟨ret_string HX.out,hend.out _ B4.out⟩
set_option maxHeartbeats 6400000 in
theorem d8_app_fw(n:Nat)(IH:PE8 n)(y z:Ex)(S:Nat->Prop)(v:Value)(w:World)(hn:(Ex.app y z).size<=n+1)(hok:(Ex.app y z).Ok)(hwt:(Ex.app y z).wt<=9000)(hv:RdX S w (Ex.app y z) v)(hS:∀g,S g->g<w.heap.size)(hl:y.wide=false)(hr:z.wide=true) :
  Calls Tryz.prog 17 #[v] w λen w'=>en=.returned (.string ⟨(Ex.app y z).print.toArray⟩)/\Below w.heap.size w w':=by
 have hlen:=print_wt _ hok
 obtain⟨Y,td,K,X,Z,A0,m,q,KA,kc,LA,ln,lc,rfl,hY,htd,-,hty,hin⟩:=bx8 hv
 obtain⟨g,rfl,hg,hat0⟩:=hin.kid 0 y rfl
 obtain⟨x0,t0,K0,X0,Z0,D0,m0,q0,KA0,kn0,kc0,LA0,ln0,lc0,c00,c01,c02,c03,c04,c05,c06,c07,c08,hr0⟩:=hat0.cells2
 obtain⟨g1,hgg,-,hat1⟩:=hin.kid 1 z rfl
 obtain rfl:g=g1:=congrArg Addr.block (Option.some.inj hgg)
 obtain⟨x1,t1,K1,X1,Z1,D1,m1,q1,KA1,kn1,kc1,LA1,ln1,lc1,c10,c11,c12,c13,c14,c15,c16,c17,c18,hr1⟩:=hat1.cells2
 have hgw:=hS g hg
 show Calls Tryz.prog _ #[.agg #[.int .i64 4,.string Y,.bool td,.int .i64 K,.string X,.int .i64 Z,.slice A0 m q,.slice (some ⟨g,0,none⟩) 2 kc,.slice LA ln lc]] w _
 obtain⟨W0,hW0⟩:∃W,w.alloc (.cells #[.int .i64 4,.string Y,.bool td,.int .i64 K,.string X,.int .i64 Z,.slice A0 m q,.slice (some ⟨g,0,none⟩) 2 kc,.slice LA ln lc] 48)=W:=⟨_,rfl⟩
 have hlw:Below w.heap.size w W0:=hW0▸(Below.refl _ w).alloc (Nat.le_refl _) _
 have hs0:W0.heap.size=w.heap.size+1:=by rw[<-hW0];simp
 have hbk:Blk W0 w.heap.size 48 #[.int .i64 4,.string Y,.bool td,.int .i64 K,.string X,.int .i64 Z,.slice A0 m q,.slice (some ⟨g,0,none⟩) 2 kc,.slice LA ln lc]:=hW0▸heap_alloc_new _ _
 have hlt0:=hbk.lt
 have KEEP:∀W,Below W0.heap.size W0 W->w.heap.size<W.heap.size/\∀k,k<w.heap.size->W.heap[k]? = w.heap[k]?:=λW hb=>⟨by have:=hb.size;omega,λk hk=>(hb.block k (by omega)).trans (hlw.block k hk)⟩
 have SOF:Hid (∀W,Below W0.heap.size W0 W->W.cell? ⟨w.heap.size,0,none⟩=some (.int .i64 4)/\W.cell? ⟨w.heap.size,1,none⟩=some (.string Y)/\W.cell? ⟨w.heap.size,2,none⟩=some (.bool td)/\W.cell? ⟨w.heap.size,3,none⟩=some (.int .i64 K)/\W.cell? ⟨w.heap.size,4,none⟩=some (.string X)/\W.cell? ⟨w.heap.size,5,none⟩=some (.int .i64 Z)/\W.cell? ⟨w.heap.size,6,none⟩=some (.slice A0 m q)/\W.cell? ⟨w.heap.size,7,none⟩=some (.slice (some ⟨g,0,none⟩) 2 kc)/\W.cell? ⟨g,0,none⟩=some (.int .i64 (kdE y:Nat))/\W.cell? ⟨g,1,none⟩=some (.string x0)/\W.cell? ⟨g,2,none⟩=some (.bool t0)/\W.cell? ⟨g,3,none⟩=some (.int .i64 K0)/\W.cell? ⟨g,4,none⟩=some (.string X0)/\W.cell? ⟨g,5,none⟩=some (.int .i64 Z0)/\W.cell? ⟨g,6,none⟩=some (.slice D0 m0 q0)/\W.cell? ⟨g,7,none⟩=some (.slice KA0 kn0 kc0)/\W.cell? ⟨g,8,none⟩=some (.slice LA0 ln0 lc0)/\W.cell? ⟨g,9,none⟩=some (.int .i64 (kdE z:Nat))/\W.cell? ⟨g,10,none⟩=some (.string x1)/\W.cell? ⟨g,11,none⟩=some (.bool t1)/\W.cell? ⟨g,12,none⟩=some (.int .i64 K1)/\W.cell? ⟨g,13,none⟩=some (.string X1)/\W.cell? ⟨g,14,none⟩=some (.int .i64 Z1)/\W.cell? ⟨g,15,none⟩=some (.slice D1 m1 q1)/\W.cell? ⟨g,16,none⟩=some (.slice KA1 kn1 kc1)/\W.cell? ⟨g,17,none⟩=some (.slice LA1 ln1 lc1)):=hidE λW hb=>by
  have hc:∀i,W.cell? ⟨g,i,none⟩=w.cell? ⟨g,i,none⟩:=λi=>World.cell?_of_block (w:=w) (a:=⟨g,i,none⟩) ((KEEP W hb).2 g hgw)
  have hbx:=hbk.below hb hbk.lt
  exact⟨hbx.cell 0,hbx.cell 1,hbx.cell 2,hbx.cell 3,hbx.cell 4,hbx.cell 5,hbx.cell 6,hbx.cell 7,(hc _).trans c00,(hc _).trans c01,(hc _).trans c02,(hc _).trans c03,(hc _).trans c04,(hc _).trans c05,(hc _).trans c06,(hc _).trans c07,(hc _).trans c08,(hc _).trans c10,(hc _).trans c11,(hc _).trans c12,(hc _).trans c13,(hc _).trans c14,(hc _).trans c15,(hc _).trans c16,(hc _).trans c17,(hc _).trans c18⟩
 have HSG:∀W,Below W0.heap.size W0 W->∀g,S g->g<W.heap.size:=λW hb g hg=>Nat.lt_trans (hS g hg) (KEEP W hb).1
 have HR0:∀W,Below W0.heap.size W0 W->RdX S W y (.agg #[.int .i64 (kdE y:Nat),.string x0,.bool t0,.int .i64 K0,.string X0,.int .i64 Z0,.slice D0 m0 q0,.slice KA0 kn0 kc0,.slice LA0 ln0 lc0]):=λW hb=>hr0.keep (λ_ h=>h) (λg hg=>(KEEP W hb).2 g (hS g hg))
 obtain⟨P0,hP0⟩:∃P:ByteArray,⟨(y).print.toArray⟩=P:=⟨_,rfl⟩
 have hps0:P0.size=(y).print.length:=by rw[<-hP0];rfl
 have CA0:Hid (∀W,Below W0.heap.size W0 W->Calls Tryz.prog 17 #[.agg #[.int .i64 (kdE y:Nat),.string x0,.bool t0,.int .i64 K0,.string X0,.int .i64 Z0,.slice D0 m0 q0,.slice KA0 kn0 kc0,.slice LA0 ln0 lc0]] W λen w'=>en=.returned (.string P0)/\Below W.heap.size W w'):=hidE λW hb=>by
  have h:=IH y S _ W (by rw[Ex.size]at hn;omega) (ok_part _ y (by simp[parts,kidsE,altsE]) hok) (Nat.le_trans (part_wt _ y (by simp[parts,kidsE,altsE])) hwt) (HR0 W hb) (HSG W hb)
  rw[hP0]at h
  exact h
 have HR1:∀W,Below W0.heap.size W0 W->RdX S W z (.agg #[.int .i64 (kdE z:Nat),.string x1,.bool t1,.int .i64 K1,.string X1,.int .i64 Z1,.slice D1 m1 q1,.slice KA1 kn1 kc1,.slice LA1 ln1 lc1]):=λW hb=>hr1.keep (λ_ h=>h) (λg hg=>(KEEP W hb).2 g (hS g hg))
 obtain⟨P1,hP1⟩:∃P:ByteArray,⟨(z).print.toArray⟩=P:=⟨_,rfl⟩
 have hps1:P1.size=(z).print.length:=by rw[<-hP1];rfl
 have CA1:Hid (∀W,Below W0.heap.size W0 W->Calls Tryz.prog 17 #[.agg #[.int .i64 (kdE z:Nat),.string x1,.bool t1,.int .i64 K1,.string X1,.int .i64 Z1,.slice D1 m1 q1,.slice KA1 kn1 kc1,.slice LA1 ln1 lc1]] W λen w'=>en=.returned (.string P1)/\Below W.heap.size W w'):=hidE λW hb=>by
  have h:=IH z S _ W (by rw[Ex.size]at hn;omega) (ok_part _ z (by simp[parts,kidsE,altsE]) hok) (Nat.le_trans (part_wt _ z (by simp[parts,kidsE,altsE])) hwt) (HR1 W hb) (HSG W hb)
  rw[hP1]at h
  exact h
 have B0:Hid (Below W0.heap.size W0 W0.drew):=hidE (Below.refl _ _).drew
 have BZ:Hid (Below W0.heap.size W0 W0):=hidE (Below.refl _ _)
 have hend:Hid (∀W,Below W0.heap.size W0 W->Below w.heap.size w W):=hidE λW hb=>hlw.trans (hb.mono (by omega))
 obtain⟨R,hR⟩:∃R:ByteArray,⟨(Ex.app y z).print.toArray⟩=R:=⟨_,rfl⟩
 rw[hR]
 have hpr:(Ex.app y z).print=y.print++[32]++(40::(z.print++[41])):=by rw[Ex.print,hl,hr];rfl
 have HX:Hid ((P0)++⟨#[32]⟩++(⟨#[40]⟩++P1++⟨#[41]⟩)=R):=hidE (by rw[<-hR,<-hP0,<-hP1,hpr];apply ByteArray.ext;simp)
 have hsum:y.print.length+z.print.length<=900000:=by rw[hpr]at hlen;simp only[List.length_append,List.length_cons,List.length_nil]at hlen;omega
 have hps2:P0.size<=900000:=by omega
 have hpt2:P1.size<=900000:=by omega
 have CW0:Hid (∀W,Below W0.heap.size W0 W->Calls Tryz.prog 50 #[.agg #[.int .i64 (kdE y:Nat),.string x0,.bool t0,.int .i64 K0,.string X0,.int .i64 Z0,.slice D0 m0 q0,.slice KA0 kn0 kc0,.slice LA0 ln0 lc0]] W λen w'=>en=.returned (.bool false)/\Below W.heap.size W w'):=hidE λW hb=>by have:=d8_wide y S _ W (HR0 W hb);rwa [hl]at this
 have CW1:Hid (∀W,Below W0.heap.size W0 W->Calls Tryz.prog 50 #[.agg #[.int .i64 (kdE z:Nat),.string x1,.bool t1,.int .i64 K1,.string X1,.int .i64 Z1,.slice D1 m1 q1,.slice KA1 kn1 kc1,.slice LA1 ln1 lc1]] W λen w'=>en=.returned (.bool true)/\Below W.heap.size W w'):=hidE λW hb=>by have:=d8_wide z S _ W (HR1 W hb);rwa [hr]at this
 obtain⟨f0,f1,f2,f3,f4,f5,f6,f7,y00,y01,y02,y03,y04,y05,y06,y07,y08,y10,y11,y12,y13,y14,y15,y16,y17,y18⟩:=SOF.out _ BZ.out
 clear c00 c01 c02 c03 c04 c05 c06 c07 c08 c10 c11 c12 c13 c14 c15 c16 c17 c18 hr0 hat0 HR0 hP0 hps0 hr1 hat1 HR1 hP1 hps1 hin hty hn hwt hok hv hS hg KEEP HSG IH hbk hlw hlen hY htd hR hpr hsum hl hr
 go_enter Tryz.func17,Tryz.ntmps17
 go_upto_region 1 with fail
 try rw[hW0]
 clear hW0
 go_wp2_with fail
 refine(CA0.out _ BZ.out).mono ?_
 rintro en w1 ⟨rfl,b1⟩
 have B1:=hidE (b1)
 clear b1
 clear f0 f1 f2 f3 f4 f5 f6 f7 y00 y01 y02 y03 y04 y05 y06 y07 y08 y10 y11 y12 y13 y14 y15 y16 y17 y18
 obtain⟨f0,f1,f2,f3,f4,f5,f6,f7,y00,y01,y02,y03,y04,y05,y06,y07,y08,y10,y11,y12,y13,y14,y15,y16,y17,y18⟩:=SOF.out w1 B1.out
 go_wp2_with fail
 refine(CA1.out _ B1.out).mono ?_
 rintro en w2 ⟨rfl,b2⟩
 have B2:=hidE (bnext B1.out b2 (by omega))
 clear b2
 clear f0 f1 f2 f3 f4 f5 f6 f7 y00 y01 y02 y03 y04 y05 y06 y07 y08 y10 y11 y12 y13 y14 y15 y16 y17 y18
 obtain⟨f0,f1,f2,f3,f4,f5,f6,f7,y00,y01,y02,y03,y04,y05,y06,y07,y08,y10,y11,y12,y13,y14,y15,y16,y17,y18⟩:=SOF.out w2 B2.out
 go_wp2_with fail
 refine(CW0.out _ B2.out).mono ?_
 rintro en w3 ⟨rfl,b3⟩
 have B3:=hidE (bnext B2.out b3 (by omega))
 clear b3
 clear f0 f1 f2 f3 f4 f5 f6 f7 y00 y01 y02 y03 y04 y05 y06 y07 y08 y10 y11 y12 y13 y14 y15 y16 y17 y18
 obtain⟨f0,f1,f2,f3,f4,f5,f6,f7,y00,y01,y02,y03,y04,y05,y06,y07,y08,y10,y11,y12,y13,y14,y15,y16,y17,y18⟩:=SOF.out w3 B3.out
 go_wp2_with fail
 refine(CW1.out _ B3.out).mono ?_
 rintro en w4 ⟨rfl,b4⟩
 have B4:=hidE (bnext B3.out b4 (by omega))
 clear b4
 clear f0 f1 f2 f3 f4 f5 f6 f7 y00 y01 y02 y03 y04 y05 y06 y07 y08 y10 y11 y12 y13 y14 y15 y16 y17 y18
 obtain⟨f0,f1,f2,f3,f4,f5,f6,f7,y00,y01,y02,y03,y04,y05,y06,y07,y08,y10,y11,y12,y13,y14,y15,y16,y17,y18⟩:=SOF.out w4 B4.out
 go_wp2_with fail
 go_ret
 exact⟨ret_string HX.out,hend.out _ B4.out⟩
set_option maxHeartbeats 6400000 in
theorem d8_app_fa(n:Nat)(IH:PE8 n)(y z:Ex)(S:Nat->Prop)(v:Value)(w:World)(hn:(Ex.app y z).size<=n+1)(hok:(Ex.app y z).Ok)(hwt:(Ex.app y z).wt<=9000)(hv:RdX S w (Ex.app y z) v)(hS:∀g,S g->g<w.heap.size)(hl:y.wide=false)(hr:z.wide=false)(ha:z.isApp=true) :
  Calls Tryz.prog 17 #[v] w λen w'=>en=.returned (.string ⟨(Ex.app y z).print.toArray⟩)/\Below w.heap.size w w':=by
 have hlen:=print_wt _ hok
 obtain⟨Y,td,K,X,Z,A0,m,q,KA,kc,LA,ln,lc,rfl,hY,htd,-,hty,hin⟩:=bx8 hv
 obtain⟨g,rfl,hg,hat0⟩:=hin.kid 0 y rfl
 obtain⟨x0,t0,K0,X0,Z0,D0,m0,q0,KA0,kn0,kc0,LA0,ln0,lc0,c00,c01,c02,c03,c04,c05,c06,c07,c08,hr0⟩:=hat0.cells2
 obtain⟨g1,hgg,-,hat1⟩:=hin.kid 1 z rfl
 obtain rfl:g=g1:=congrArg Addr.block (Option.some.inj hgg)
 obtain⟨x1,t1,K1,X1,Z1,D1,m1,q1,KA1,kn1,kc1,LA1,ln1,lc1,c10,c11,c12,c13,c14,c15,c16,c17,c18,hr1⟩:=hat1.cells2
 have hgw:=hS g hg
 show Calls Tryz.prog _ #[.agg #[.int .i64 4,.string Y,.bool td,.int .i64 K,.string X,.int .i64 Z,.slice A0 m q,.slice (some ⟨g,0,none⟩) 2 kc,.slice LA ln lc]] w _
 obtain⟨W0,hW0⟩:∃W,w.alloc (.cells #[.int .i64 4,.string Y,.bool td,.int .i64 K,.string X,.int .i64 Z,.slice A0 m q,.slice (some ⟨g,0,none⟩) 2 kc,.slice LA ln lc] 48)=W:=⟨_,rfl⟩
 have hlw:Below w.heap.size w W0:=hW0▸(Below.refl _ w).alloc (Nat.le_refl _) _
 have hs0:W0.heap.size=w.heap.size+1:=by rw[<-hW0];simp
 have hbk:Blk W0 w.heap.size 48 #[.int .i64 4,.string Y,.bool td,.int .i64 K,.string X,.int .i64 Z,.slice A0 m q,.slice (some ⟨g,0,none⟩) 2 kc,.slice LA ln lc]:=hW0▸heap_alloc_new _ _
 have hlt0:=hbk.lt
 have KEEP:∀W,Below W0.heap.size W0 W->w.heap.size<W.heap.size/\∀k,k<w.heap.size->W.heap[k]? = w.heap[k]?:=λW hb=>⟨by have:=hb.size;omega,λk hk=>(hb.block k (by omega)).trans (hlw.block k hk)⟩
 have SOF:Hid (∀W,Below W0.heap.size W0 W->W.cell? ⟨w.heap.size,0,none⟩=some (.int .i64 4)/\W.cell? ⟨w.heap.size,1,none⟩=some (.string Y)/\W.cell? ⟨w.heap.size,2,none⟩=some (.bool td)/\W.cell? ⟨w.heap.size,3,none⟩=some (.int .i64 K)/\W.cell? ⟨w.heap.size,4,none⟩=some (.string X)/\W.cell? ⟨w.heap.size,5,none⟩=some (.int .i64 Z)/\W.cell? ⟨w.heap.size,6,none⟩=some (.slice A0 m q)/\W.cell? ⟨w.heap.size,7,none⟩=some (.slice (some ⟨g,0,none⟩) 2 kc)/\W.cell? ⟨g,0,none⟩=some (.int .i64 (kdE y:Nat))/\W.cell? ⟨g,1,none⟩=some (.string x0)/\W.cell? ⟨g,2,none⟩=some (.bool t0)/\W.cell? ⟨g,3,none⟩=some (.int .i64 K0)/\W.cell? ⟨g,4,none⟩=some (.string X0)/\W.cell? ⟨g,5,none⟩=some (.int .i64 Z0)/\W.cell? ⟨g,6,none⟩=some (.slice D0 m0 q0)/\W.cell? ⟨g,7,none⟩=some (.slice KA0 kn0 kc0)/\W.cell? ⟨g,8,none⟩=some (.slice LA0 ln0 lc0)/\W.cell? ⟨g,9,none⟩=some (.int .i64 (kdE z:Nat))/\W.cell? ⟨g,10,none⟩=some (.string x1)/\W.cell? ⟨g,11,none⟩=some (.bool t1)/\W.cell? ⟨g,12,none⟩=some (.int .i64 K1)/\W.cell? ⟨g,13,none⟩=some (.string X1)/\W.cell? ⟨g,14,none⟩=some (.int .i64 Z1)/\W.cell? ⟨g,15,none⟩=some (.slice D1 m1 q1)/\W.cell? ⟨g,16,none⟩=some (.slice KA1 kn1 kc1)/\W.cell? ⟨g,17,none⟩=some (.slice LA1 ln1 lc1)):=hidE λW hb=>by
  have hc:∀i,W.cell? ⟨g,i,none⟩=w.cell? ⟨g,i,none⟩:=λi=>World.cell?_of_block (w:=w) (a:=⟨g,i,none⟩) ((KEEP W hb).2 g hgw)
  have hbx:=hbk.below hb hbk.lt
  exact⟨hbx.cell 0,hbx.cell 1,hbx.cell 2,hbx.cell 3,hbx.cell 4,hbx.cell 5,hbx.cell 6,hbx.cell 7,(hc _).trans c00,(hc _).trans c01,(hc _).trans c02,(hc _).trans c03,(hc _).trans c04,(hc _).trans c05,(hc _).trans c06,(hc _).trans c07,(hc _).trans c08,(hc _).trans c10,(hc _).trans c11,(hc _).trans c12,(hc _).trans c13,(hc _).trans c14,(hc _).trans c15,(hc _).trans c16,(hc _).trans c17,(hc _).trans c18⟩
 have HSG:∀W,Below W0.heap.size W0 W->∀g,S g->g<W.heap.size:=λW hb g hg=>Nat.lt_trans (hS g hg) (KEEP W hb).1
 have HR0:∀W,Below W0.heap.size W0 W->RdX S W y (.agg #[.int .i64 (kdE y:Nat),.string x0,.bool t0,.int .i64 K0,.string X0,.int .i64 Z0,.slice D0 m0 q0,.slice KA0 kn0 kc0,.slice LA0 ln0 lc0]):=λW hb=>hr0.keep (λ_ h=>h) (λg hg=>(KEEP W hb).2 g (hS g hg))
 obtain⟨P0,hP0⟩:∃P:ByteArray,⟨(y).print.toArray⟩=P:=⟨_,rfl⟩
 have hps0:P0.size=(y).print.length:=by rw[<-hP0];rfl
 have CA0:Hid (∀W,Below W0.heap.size W0 W->Calls Tryz.prog 17 #[.agg #[.int .i64 (kdE y:Nat),.string x0,.bool t0,.int .i64 K0,.string X0,.int .i64 Z0,.slice D0 m0 q0,.slice KA0 kn0 kc0,.slice LA0 ln0 lc0]] W λen w'=>en=.returned (.string P0)/\Below W.heap.size W w'):=hidE λW hb=>by
  have h:=IH y S _ W (by rw[Ex.size]at hn;omega) (ok_part _ y (by simp[parts,kidsE,altsE]) hok) (Nat.le_trans (part_wt _ y (by simp[parts,kidsE,altsE])) hwt) (HR0 W hb) (HSG W hb)
  rw[hP0]at h
  exact h
 have HR1:∀W,Below W0.heap.size W0 W->RdX S W z (.agg #[.int .i64 (kdE z:Nat),.string x1,.bool t1,.int .i64 K1,.string X1,.int .i64 Z1,.slice D1 m1 q1,.slice KA1 kn1 kc1,.slice LA1 ln1 lc1]):=λW hb=>hr1.keep (λ_ h=>h) (λg hg=>(KEEP W hb).2 g (hS g hg))
 obtain⟨P1,hP1⟩:∃P:ByteArray,⟨(z).print.toArray⟩=P:=⟨_,rfl⟩
 have hps1:P1.size=(z).print.length:=by rw[<-hP1];rfl
 have CA1:Hid (∀W,Below W0.heap.size W0 W->Calls Tryz.prog 17 #[.agg #[.int .i64 (kdE z:Nat),.string x1,.bool t1,.int .i64 K1,.string X1,.int .i64 Z1,.slice D1 m1 q1,.slice KA1 kn1 kc1,.slice LA1 ln1 lc1]] W λen w'=>en=.returned (.string P1)/\Below W.heap.size W w'):=hidE λW hb=>by
  have h:=IH z S _ W (by rw[Ex.size]at hn;omega) (ok_part _ z (by simp[parts,kidsE,altsE]) hok) (Nat.le_trans (part_wt _ z (by simp[parts,kidsE,altsE])) hwt) (HR1 W hb) (HSG W hb)
  rw[hP1]at h
  exact h
 have B0:Hid (Below W0.heap.size W0 W0.drew):=hidE (Below.refl _ _).drew
 have BZ:Hid (Below W0.heap.size W0 W0):=hidE (Below.refl _ _)
 have hend:Hid (∀W,Below W0.heap.size W0 W->Below w.heap.size w W):=hidE λW hb=>hlw.trans (hb.mono (by omega))
 obtain⟨R,hR⟩:∃R:ByteArray,⟨(Ex.app y z).print.toArray⟩=R:=⟨_,rfl⟩
 rw[hR]
 have hpr:(Ex.app y z).print=y.print++[32]++(40::(z.print++[41])):=by rw[Ex.print,hl,hr];rw[ha];rfl
 have HX:Hid ((P0)++⟨#[32]⟩++(⟨#[40]⟩++P1++⟨#[41]⟩)=R):=hidE (by rw[<-hR,<-hP0,<-hP1,hpr];apply ByteArray.ext;simp)
 have hsum:y.print.length+z.print.length<=900000:=by rw[hpr]at hlen;simp only[List.length_append,List.length_cons,List.length_nil]at hlen;omega
 have hps2:P0.size<=900000:=by omega
 have hpt2:P1.size<=900000:=by omega
 have CW0:Hid (∀W,Below W0.heap.size W0 W->Calls Tryz.prog 50 #[.agg #[.int .i64 (kdE y:Nat),.string x0,.bool t0,.int .i64 K0,.string X0,.int .i64 Z0,.slice D0 m0 q0,.slice KA0 kn0 kc0,.slice LA0 ln0 lc0]] W λen w'=>en=.returned (.bool false)/\Below W.heap.size W w'):=hidE λW hb=>by have:=d8_wide y S _ W (HR0 W hb);rwa [hl]at this
 have CW1:Hid (∀W,Below W0.heap.size W0 W->Calls Tryz.prog 50 #[.agg #[.int .i64 (kdE z:Nat),.string x1,.bool t1,.int .i64 K1,.string X1,.int .i64 Z1,.slice D1 m1 q1,.slice KA1 kn1 kc1,.slice LA1 ln1 lc1]] W λen w'=>en=.returned (.bool false)/\Below W.heap.size W w'):=hidE λW hb=>by have:=d8_wide z S _ W (HR1 W hb);rwa [hr]at this
 have d4:kdE z=4:=by cases z <;> simp[Ex.isApp]at ha;rfl
 have D5:Hid (((kdE z:Nat):Int)=4):=hidE (by rw[d4];rfl)
 clear d4
 obtain⟨f0,f1,f2,f3,f4,f5,f6,f7,y00,y01,y02,y03,y04,y05,y06,y07,y08,y10,y11,y12,y13,y14,y15,y16,y17,y18⟩:=SOF.out _ BZ.out
 clear c00 c01 c02 c03 c04 c05 c06 c07 c08 c10 c11 c12 c13 c14 c15 c16 c17 c18 hr0 hat0 HR0 hP0 hps0 hr1 hat1 HR1 hP1 hps1 hin hty hn hwt hok hv hS hg KEEP HSG IH hbk hlw hlen hY htd hR hpr hsum hl hr ha
 go_enter Tryz.func17,Tryz.ntmps17
 go_upto_region 1 with fail
 try rw[hW0]
 clear hW0
 go_wp2_with fail
 refine(CA0.out _ BZ.out).mono ?_
 rintro en w1 ⟨rfl,b1⟩
 have B1:=hidE (b1)
 clear b1
 clear f0 f1 f2 f3 f4 f5 f6 f7 y00 y01 y02 y03 y04 y05 y06 y07 y08 y10 y11 y12 y13 y14 y15 y16 y17 y18
 obtain⟨f0,f1,f2,f3,f4,f5,f6,f7,y00,y01,y02,y03,y04,y05,y06,y07,y08,y10,y11,y12,y13,y14,y15,y16,y17,y18⟩:=SOF.out w1 B1.out
 go_wp2_with fail
 refine(CA1.out _ B1.out).mono ?_
 rintro en w2 ⟨rfl,b2⟩
 have B2:=hidE (bnext B1.out b2 (by omega))
 clear b2
 clear f0 f1 f2 f3 f4 f5 f6 f7 y00 y01 y02 y03 y04 y05 y06 y07 y08 y10 y11 y12 y13 y14 y15 y16 y17 y18
 obtain⟨f0,f1,f2,f3,f4,f5,f6,f7,y00,y01,y02,y03,y04,y05,y06,y07,y08,y10,y11,y12,y13,y14,y15,y16,y17,y18⟩:=SOF.out w2 B2.out
 go_wp2_with fail
 refine(CW0.out _ B2.out).mono ?_
 rintro en w3 ⟨rfl,b3⟩
 have B3:=hidE (bnext B2.out b3 (by omega))
 clear b3
 clear f0 f1 f2 f3 f4 f5 f6 f7 y00 y01 y02 y03 y04 y05 y06 y07 y08 y10 y11 y12 y13 y14 y15 y16 y17 y18
 obtain⟨f0,f1,f2,f3,f4,f5,f6,f7,y00,y01,y02,y03,y04,y05,y06,y07,y08,y10,y11,y12,y13,y14,y15,y16,y17,y18⟩:=SOF.out w3 B3.out
 go_wp2_with fail
 refine(CW1.out _ B3.out).mono ?_
 rintro en w4 ⟨rfl,b4⟩
 have B4:=hidE (bnext B3.out b4 (by omega))
 clear b4
 clear f0 f1 f2 f3 f4 f5 f6 f7 y00 y01 y02 y03 y04 y05 y06 y07 y08 y10 y11 y12 y13 y14 y15 y16 y17 y18
 obtain⟨f0,f1,f2,f3,f4,f5,f6,f7,y00,y01,y02,y03,y04,y05,y06,y07,y08,y10,y11,y12,y13,y14,y15,y16,y17,y18⟩:=SOF.out w4 B4.out
 have d5:=D5.out
 go_wp2_with fail
 go_ret
 exact⟨ret_string HX.out,hend.out _ B4.out⟩
set_option maxHeartbeats 6400000 in
theorem d8_app_fn(n:Nat)(IH:PE8 n)(y z:Ex)(S:Nat->Prop)(v:Value)(w:World)(hn:(Ex.app y z).size<=n+1)(hok:(Ex.app y z).Ok)(hwt:(Ex.app y z).wt<=9000)(hv:RdX S w (Ex.app y z) v)(hS:∀g,S g->g<w.heap.size)(hl:y.wide=false)(hr:z.wide=false)(ha:z.isApp=false) :
  Calls Tryz.prog 17 #[v] w λen w'=>en=.returned (.string ⟨(Ex.app y z).print.toArray⟩)/\Below w.heap.size w w':=by
 have hlen:=print_wt _ hok
 obtain⟨Y,td,K,X,Z,A0,m,q,KA,kc,LA,ln,lc,rfl,hY,htd,-,hty,hin⟩:=bx8 hv
 obtain⟨g,rfl,hg,hat0⟩:=hin.kid 0 y rfl
 obtain⟨x0,t0,K0,X0,Z0,D0,m0,q0,KA0,kn0,kc0,LA0,ln0,lc0,c00,c01,c02,c03,c04,c05,c06,c07,c08,hr0⟩:=hat0.cells2
 obtain⟨g1,hgg,-,hat1⟩:=hin.kid 1 z rfl
 obtain rfl:g=g1:=congrArg Addr.block (Option.some.inj hgg)
 obtain⟨x1,t1,K1,X1,Z1,D1,m1,q1,KA1,kn1,kc1,LA1,ln1,lc1,c10,c11,c12,c13,c14,c15,c16,c17,c18,hr1⟩:=hat1.cells2
 have hgw:=hS g hg
 show Calls Tryz.prog _ #[.agg #[.int .i64 4,.string Y,.bool td,.int .i64 K,.string X,.int .i64 Z,.slice A0 m q,.slice (some ⟨g,0,none⟩) 2 kc,.slice LA ln lc]] w _
 obtain⟨W0,hW0⟩:∃W,w.alloc (.cells #[.int .i64 4,.string Y,.bool td,.int .i64 K,.string X,.int .i64 Z,.slice A0 m q,.slice (some ⟨g,0,none⟩) 2 kc,.slice LA ln lc] 48)=W:=⟨_,rfl⟩
 have hlw:Below w.heap.size w W0:=hW0▸(Below.refl _ w).alloc (Nat.le_refl _) _
 have hs0:W0.heap.size=w.heap.size+1:=by rw[<-hW0];simp
 have hbk:Blk W0 w.heap.size 48 #[.int .i64 4,.string Y,.bool td,.int .i64 K,.string X,.int .i64 Z,.slice A0 m q,.slice (some ⟨g,0,none⟩) 2 kc,.slice LA ln lc]:=hW0▸heap_alloc_new _ _
 have hlt0:=hbk.lt
 have KEEP:∀W,Below W0.heap.size W0 W->w.heap.size<W.heap.size/\∀k,k<w.heap.size->W.heap[k]? = w.heap[k]?:=λW hb=>⟨by have:=hb.size;omega,λk hk=>(hb.block k (by omega)).trans (hlw.block k hk)⟩
 have SOF:Hid (∀W,Below W0.heap.size W0 W->W.cell? ⟨w.heap.size,0,none⟩=some (.int .i64 4)/\W.cell? ⟨w.heap.size,1,none⟩=some (.string Y)/\W.cell? ⟨w.heap.size,2,none⟩=some (.bool td)/\W.cell? ⟨w.heap.size,3,none⟩=some (.int .i64 K)/\W.cell? ⟨w.heap.size,4,none⟩=some (.string X)/\W.cell? ⟨w.heap.size,5,none⟩=some (.int .i64 Z)/\W.cell? ⟨w.heap.size,6,none⟩=some (.slice A0 m q)/\W.cell? ⟨w.heap.size,7,none⟩=some (.slice (some ⟨g,0,none⟩) 2 kc)/\W.cell? ⟨g,0,none⟩=some (.int .i64 (kdE y:Nat))/\W.cell? ⟨g,1,none⟩=some (.string x0)/\W.cell? ⟨g,2,none⟩=some (.bool t0)/\W.cell? ⟨g,3,none⟩=some (.int .i64 K0)/\W.cell? ⟨g,4,none⟩=some (.string X0)/\W.cell? ⟨g,5,none⟩=some (.int .i64 Z0)/\W.cell? ⟨g,6,none⟩=some (.slice D0 m0 q0)/\W.cell? ⟨g,7,none⟩=some (.slice KA0 kn0 kc0)/\W.cell? ⟨g,8,none⟩=some (.slice LA0 ln0 lc0)/\W.cell? ⟨g,9,none⟩=some (.int .i64 (kdE z:Nat))/\W.cell? ⟨g,10,none⟩=some (.string x1)/\W.cell? ⟨g,11,none⟩=some (.bool t1)/\W.cell? ⟨g,12,none⟩=some (.int .i64 K1)/\W.cell? ⟨g,13,none⟩=some (.string X1)/\W.cell? ⟨g,14,none⟩=some (.int .i64 Z1)/\W.cell? ⟨g,15,none⟩=some (.slice D1 m1 q1)/\W.cell? ⟨g,16,none⟩=some (.slice KA1 kn1 kc1)/\W.cell? ⟨g,17,none⟩=some (.slice LA1 ln1 lc1)):=hidE λW hb=>by
  have hc:∀i,W.cell? ⟨g,i,none⟩=w.cell? ⟨g,i,none⟩:=λi=>World.cell?_of_block (w:=w) (a:=⟨g,i,none⟩) ((KEEP W hb).2 g hgw)
  have hbx:=hbk.below hb hbk.lt
  exact⟨hbx.cell 0,hbx.cell 1,hbx.cell 2,hbx.cell 3,hbx.cell 4,hbx.cell 5,hbx.cell 6,hbx.cell 7,(hc _).trans c00,(hc _).trans c01,(hc _).trans c02,(hc _).trans c03,(hc _).trans c04,(hc _).trans c05,(hc _).trans c06,(hc _).trans c07,(hc _).trans c08,(hc _).trans c10,(hc _).trans c11,(hc _).trans c12,(hc _).trans c13,(hc _).trans c14,(hc _).trans c15,(hc _).trans c16,(hc _).trans c17,(hc _).trans c18⟩
 have HSG:∀W,Below W0.heap.size W0 W->∀g,S g->g<W.heap.size:=λW hb g hg=>Nat.lt_trans (hS g hg) (KEEP W hb).1
 have HR0:∀W,Below W0.heap.size W0 W->RdX S W y (.agg #[.int .i64 (kdE y:Nat),.string x0,.bool t0,.int .i64 K0,.string X0,.int .i64 Z0,.slice D0 m0 q0,.slice KA0 kn0 kc0,.slice LA0 ln0 lc0]):=λW hb=>hr0.keep (λ_ h=>h) (λg hg=>(KEEP W hb).2 g (hS g hg))
 obtain⟨P0,hP0⟩:∃P:ByteArray,⟨(y).print.toArray⟩=P:=⟨_,rfl⟩
 have hps0:P0.size=(y).print.length:=by rw[<-hP0];rfl
 have CA0:Hid (∀W,Below W0.heap.size W0 W->Calls Tryz.prog 17 #[.agg #[.int .i64 (kdE y:Nat),.string x0,.bool t0,.int .i64 K0,.string X0,.int .i64 Z0,.slice D0 m0 q0,.slice KA0 kn0 kc0,.slice LA0 ln0 lc0]] W λen w'=>en=.returned (.string P0)/\Below W.heap.size W w'):=hidE λW hb=>by
  have h:=IH y S _ W (by rw[Ex.size]at hn;omega) (ok_part _ y (by simp[parts,kidsE,altsE]) hok) (Nat.le_trans (part_wt _ y (by simp[parts,kidsE,altsE])) hwt) (HR0 W hb) (HSG W hb)
  rw[hP0]at h
  exact h
 have HR1:∀W,Below W0.heap.size W0 W->RdX S W z (.agg #[.int .i64 (kdE z:Nat),.string x1,.bool t1,.int .i64 K1,.string X1,.int .i64 Z1,.slice D1 m1 q1,.slice KA1 kn1 kc1,.slice LA1 ln1 lc1]):=λW hb=>hr1.keep (λ_ h=>h) (λg hg=>(KEEP W hb).2 g (hS g hg))
 obtain⟨P1,hP1⟩:∃P:ByteArray,⟨(z).print.toArray⟩=P:=⟨_,rfl⟩
 have hps1:P1.size=(z).print.length:=by rw[<-hP1];rfl
 have CA1:Hid (∀W,Below W0.heap.size W0 W->Calls Tryz.prog 17 #[.agg #[.int .i64 (kdE z:Nat),.string x1,.bool t1,.int .i64 K1,.string X1,.int .i64 Z1,.slice D1 m1 q1,.slice KA1 kn1 kc1,.slice LA1 ln1 lc1]] W λen w'=>en=.returned (.string P1)/\Below W.heap.size W w'):=hidE λW hb=>by
  have h:=IH z S _ W (by rw[Ex.size]at hn;omega) (ok_part _ z (by simp[parts,kidsE,altsE]) hok) (Nat.le_trans (part_wt _ z (by simp[parts,kidsE,altsE])) hwt) (HR1 W hb) (HSG W hb)
  rw[hP1]at h
  exact h
 have B0:Hid (Below W0.heap.size W0 W0.drew):=hidE (Below.refl _ _).drew
 have BZ:Hid (Below W0.heap.size W0 W0):=hidE (Below.refl _ _)
 have hend:Hid (∀W,Below W0.heap.size W0 W->Below w.heap.size w W):=hidE λW hb=>hlw.trans (hb.mono (by omega))
 obtain⟨R,hR⟩:∃R:ByteArray,⟨(Ex.app y z).print.toArray⟩=R:=⟨_,rfl⟩
 rw[hR]
 have hpr:(Ex.app y z).print=y.print++[32]++z.print:=by rw[Ex.print,hl,hr];rw[ha];rfl
 have HX:Hid ((P0)++⟨#[32]⟩++(P1)=R):=hidE (by rw[<-hR,<-hP0,<-hP1,hpr];apply ByteArray.ext;simp)
 have hsum:y.print.length+z.print.length<=900000:=by rw[hpr]at hlen;simp only[List.length_append,List.length_cons,List.length_nil]at hlen;omega
 have hps2:P0.size<=900000:=by omega
 have hpt2:P1.size<=900000:=by omega
 have CW0:Hid (∀W,Below W0.heap.size W0 W->Calls Tryz.prog 50 #[.agg #[.int .i64 (kdE y:Nat),.string x0,.bool t0,.int .i64 K0,.string X0,.int .i64 Z0,.slice D0 m0 q0,.slice KA0 kn0 kc0,.slice LA0 ln0 lc0]] W λen w'=>en=.returned (.bool false)/\Below W.heap.size W w'):=hidE λW hb=>by have:=d8_wide y S _ W (HR0 W hb);rwa [hl]at this
 have CW1:Hid (∀W,Below W0.heap.size W0 W->Calls Tryz.prog 50 #[.agg #[.int .i64 (kdE z:Nat),.string x1,.bool t1,.int .i64 K1,.string X1,.int .i64 Z1,.slice D1 m1 q1,.slice KA1 kn1 kc1,.slice LA1 ln1 lc1]] W λen w'=>en=.returned (.bool false)/\Below W.heap.size W w'):=hidE λW hb=>by have:=d8_wide z S _ W (HR1 W hb);rwa [hr]at this
 have d4:¬kdE z=4:=by cases z <;> simp[Ex.isApp,kdE]at ha ⊢
 have d5:¬((kdE z:Nat):Int)=4:=by omega
 obtain⟨f0,f1,f2,f3,f4,f5,f6,f7,y00,y01,y02,y03,y04,y05,y06,y07,y08,y10,y11,y12,y13,y14,y15,y16,y17,y18⟩:=SOF.out _ BZ.out
 clear c00 c01 c02 c03 c04 c05 c06 c07 c08 c10 c11 c12 c13 c14 c15 c16 c17 c18 hr0 hat0 HR0 hP0 hps0 hr1 hat1 HR1 hP1 hps1 hin hty hn hwt hok hv hS hg KEEP HSG IH hbk hlw hlen hY htd hR hpr hsum hl hr ha
 go_enter Tryz.func17,Tryz.ntmps17
 go_upto_region 1 with fail
 try rw[hW0]
 clear hW0
 go_wp2_with fail
 refine(CA0.out _ BZ.out).mono ?_
 rintro en w1 ⟨rfl,b1⟩
 have B1:=hidE (b1)
 clear b1
 clear f0 f1 f2 f3 f4 f5 f6 f7 y00 y01 y02 y03 y04 y05 y06 y07 y08 y10 y11 y12 y13 y14 y15 y16 y17 y18
 obtain⟨f0,f1,f2,f3,f4,f5,f6,f7,y00,y01,y02,y03,y04,y05,y06,y07,y08,y10,y11,y12,y13,y14,y15,y16,y17,y18⟩:=SOF.out w1 B1.out
 go_wp2_with fail
 refine(CA1.out _ B1.out).mono ?_
 rintro en w2 ⟨rfl,b2⟩
 have B2:=hidE (bnext B1.out b2 (by omega))
 clear b2
 clear f0 f1 f2 f3 f4 f5 f6 f7 y00 y01 y02 y03 y04 y05 y06 y07 y08 y10 y11 y12 y13 y14 y15 y16 y17 y18
 obtain⟨f0,f1,f2,f3,f4,f5,f6,f7,y00,y01,y02,y03,y04,y05,y06,y07,y08,y10,y11,y12,y13,y14,y15,y16,y17,y18⟩:=SOF.out w2 B2.out
 go_wp2_with fail
 refine(CW0.out _ B2.out).mono ?_
 rintro en w3 ⟨rfl,b3⟩
 have B3:=hidE (bnext B2.out b3 (by omega))
 clear b3
 clear f0 f1 f2 f3 f4 f5 f6 f7 y00 y01 y02 y03 y04 y05 y06 y07 y08 y10 y11 y12 y13 y14 y15 y16 y17 y18
 obtain⟨f0,f1,f2,f3,f4,f5,f6,f7,y00,y01,y02,y03,y04,y05,y06,y07,y08,y10,y11,y12,y13,y14,y15,y16,y17,y18⟩:=SOF.out w3 B3.out
 go_wp2_with fail
 refine(CW1.out _ B3.out).mono ?_
 rintro en w4 ⟨rfl,b4⟩
 have B4:=hidE (bnext B3.out b4 (by omega))
 clear b4
 clear f0 f1 f2 f3 f4 f5 f6 f7 y00 y01 y02 y03 y04 y05 y06 y07 y08 y10 y11 y12 y13 y14 y15 y16 y17 y18
 obtain⟨f0,f1,f2,f3,f4,f5,f6,f7,y00,y01,y02,y03,y04,y05,y06,y07,y08,y10,y11,y12,y13,y14,y15,y16,y17,y18⟩:=SOF.out w4 B4.out
 go_wp2_with fail
 go_ret
 exact⟨ret_string HX.out,hend.out _ B4.out⟩
theorem d8_print_app(n:Nat)(IH:PE8 n)(y z:Ex)(S:Nat->Prop)(v:Value)(w:World)(hn:(Ex.app y z).size<=n+1)(hok:(Ex.app y z).Ok)(hwt:(Ex.app y z).wt<=9000)(hv:RdX S w (Ex.app y z) v)(hS:∀g,S g->g<w.heap.size) :
  Calls Tryz.prog 17 #[v] w λen w'=>en=.returned (.string ⟨(Ex.app y z).print.toArray⟩)/\Below w.heap.size w w':=by
 cases hl:y.wide <;> cases hr:z.wide
 ·cases ha:z.isApp
  ·exact d8_app_fn n IH y z S v w hn hok hwt hv hS hl hr ha
  ·exact d8_app_fa n IH y z S v w hn hok hwt hv hS hl hr ha
 ·exact d8_app_fw n IH y z S v w hn hok hwt hv hS hl hr
 ·cases ha:z.isApp
  ·exact d8_app_tn n IH y z S v w hn hok hwt hv hS hl hr ha
  ·exact d8_app_ta n IH y z S v w hn hok hwt hv hS hl hr ha
 ·exact d8_app_tw n IH y z S v w hn hok hwt hv hS hl hr
end Go.Proofs.YtknkclefoiohpaaGreatDoor

namespace Go.Proofs.YtknkclefoiohpaaGreatDoor
open Go.RowKit Lx Tx Sx
set_option maxRecDepth 100000
set_option maxHeartbeats 6400000 in
theorem d8_let_none(n:Nat)(IH:PE8 n)(x:Nm)(y z:Ex)(S:Nat->Prop)(v:Value)(w:World)(hn:(Ex.lt x none y z).size<=n+1)(hok:(Ex.lt x none y z).Ok)(hwt:(Ex.lt x none y z).wt<=9000)(hv:RdX S w (Ex.lt x none y z) v)(hS:∀g,S g->g<w.heap.size) :
  Calls Tryz.prog 17 #[v] w λen w'=>en=.returned (.string ⟨(Ex.lt x none y z).print.toArray⟩)/\Below w.heap.size w w':=by
 have hlen:=print_wt _ hok
 obtain⟨Y,td,K,X,Z,A0,m,q,KA,kc,LA,ln,lc,rfl,hY,htd,-,hty,hin⟩:=bx8 hv
 obtain⟨g,rfl,hg,hat0⟩:=hin.kid 0 y rfl
 obtain⟨x0,t0,K0,X0,Z0,D0,m0,q0,KA0,kn0,kc0,LA0,ln0,lc0,c00,c01,c02,c03,c04,c05,c06,c07,c08,hr0⟩:=hat0.cells2
 obtain⟨g1,hgg,-,hat1⟩:=hin.kid 1 z rfl
 obtain rfl:g=g1:=congrArg Addr.block (Option.some.inj hgg)
 obtain⟨x1,t1,K1,X1,Z1,D1,m1,q1,KA1,kn1,kc1,LA1,ln1,lc1,c10,c11,c12,c13,c14,c15,c16,c17,c18,hr1⟩:=hat1.cells2
 have hgw:=hS g hg
 show Calls Tryz.prog _ #[.agg #[.int .i64 5,.string Y,.bool td,.int .i64 K,.string X,.int .i64 Z,.slice A0 m q,.slice (some ⟨g,0,none⟩) 2 kc,.slice LA ln lc]] w _
 obtain⟨W0,hW0⟩:∃W,w.alloc (.cells #[.int .i64 5,.string Y,.bool td,.int .i64 K,.string X,.int .i64 Z,.slice A0 m q,.slice (some ⟨g,0,none⟩) 2 kc,.slice LA ln lc] 48)=W:=⟨_,rfl⟩
 have hlw:Below w.heap.size w W0:=hW0▸(Below.refl _ w).alloc (Nat.le_refl _) _
 have hs0:W0.heap.size=w.heap.size+1:=by rw[<-hW0];simp
 have hbk:Blk W0 w.heap.size 48 #[.int .i64 5,.string Y,.bool td,.int .i64 K,.string X,.int .i64 Z,.slice A0 m q,.slice (some ⟨g,0,none⟩) 2 kc,.slice LA ln lc]:=hW0▸heap_alloc_new _ _
 have hlt0:=hbk.lt
 have KEEP:∀W,Below W0.heap.size W0 W->w.heap.size<W.heap.size/\∀k,k<w.heap.size->W.heap[k]? = w.heap[k]?:=λW hb=>⟨by have:=hb.size;omega,λk hk=>(hb.block k (by omega)).trans (hlw.block k hk)⟩
 have SOF:Hid (∀W,Below W0.heap.size W0 W->W.cell? ⟨w.heap.size,0,none⟩=some (.int .i64 5)/\W.cell? ⟨w.heap.size,1,none⟩=some (.string Y)/\W.cell? ⟨w.heap.size,2,none⟩=some (.bool td)/\W.cell? ⟨w.heap.size,3,none⟩=some (.int .i64 K)/\W.cell? ⟨w.heap.size,4,none⟩=some (.string X)/\W.cell? ⟨w.heap.size,5,none⟩=some (.int .i64 Z)/\W.cell? ⟨w.heap.size,6,none⟩=some (.slice A0 m q)/\W.cell? ⟨w.heap.size,7,none⟩=some (.slice (some ⟨g,0,none⟩) 2 kc)/\W.cell? ⟨g,0,none⟩=some (.int .i64 (kdE y:Nat))/\W.cell? ⟨g,1,none⟩=some (.string x0)/\W.cell? ⟨g,2,none⟩=some (.bool t0)/\W.cell? ⟨g,3,none⟩=some (.int .i64 K0)/\W.cell? ⟨g,4,none⟩=some (.string X0)/\W.cell? ⟨g,5,none⟩=some (.int .i64 Z0)/\W.cell? ⟨g,6,none⟩=some (.slice D0 m0 q0)/\W.cell? ⟨g,7,none⟩=some (.slice KA0 kn0 kc0)/\W.cell? ⟨g,8,none⟩=some (.slice LA0 ln0 lc0)/\W.cell? ⟨g,9,none⟩=some (.int .i64 (kdE z:Nat))/\W.cell? ⟨g,10,none⟩=some (.string x1)/\W.cell? ⟨g,11,none⟩=some (.bool t1)/\W.cell? ⟨g,12,none⟩=some (.int .i64 K1)/\W.cell? ⟨g,13,none⟩=some (.string X1)/\W.cell? ⟨g,14,none⟩=some (.int .i64 Z1)/\W.cell? ⟨g,15,none⟩=some (.slice D1 m1 q1)/\W.cell? ⟨g,16,none⟩=some (.slice KA1 kn1 kc1)/\W.cell? ⟨g,17,none⟩=some (.slice LA1 ln1 lc1)):=hidE λW hb=>by
  have hc:∀i,W.cell? ⟨g,i,none⟩=w.cell? ⟨g,i,none⟩:=λi=>World.cell?_of_block (w:=w) (a:=⟨g,i,none⟩) ((KEEP W hb).2 g hgw)
  have hbx:=hbk.below hb hbk.lt
  exact⟨hbx.cell 0,hbx.cell 1,hbx.cell 2,hbx.cell 3,hbx.cell 4,hbx.cell 5,hbx.cell 6,hbx.cell 7,(hc _).trans c00,(hc _).trans c01,(hc _).trans c02,(hc _).trans c03,(hc _).trans c04,(hc _).trans c05,(hc _).trans c06,(hc _).trans c07,(hc _).trans c08,(hc _).trans c10,(hc _).trans c11,(hc _).trans c12,(hc _).trans c13,(hc _).trans c14,(hc _).trans c15,(hc _).trans c16,(hc _).trans c17,(hc _).trans c18⟩
 have HSG:∀W,Below W0.heap.size W0 W->∀g,S g->g<W.heap.size:=λW hb g hg=>Nat.lt_trans (hS g hg) (KEEP W hb).1
 have HR0:∀W,Below W0.heap.size W0 W->RdX S W y (.agg #[.int .i64 (kdE y:Nat),.string x0,.bool t0,.int .i64 K0,.string X0,.int .i64 Z0,.slice D0 m0 q0,.slice KA0 kn0 kc0,.slice LA0 ln0 lc0]):=λW hb=>hr0.keep (λ_ h=>h) (λg hg=>(KEEP W hb).2 g (hS g hg))
 obtain⟨P0,hP0⟩:∃P:ByteArray,⟨(y).print.toArray⟩=P:=⟨_,rfl⟩
 have hps0:P0.size=(y).print.length:=by rw[<-hP0];rfl
 have CA0:Hid (∀W,Below W0.heap.size W0 W->Calls Tryz.prog 17 #[.agg #[.int .i64 (kdE y:Nat),.string x0,.bool t0,.int .i64 K0,.string X0,.int .i64 Z0,.slice D0 m0 q0,.slice KA0 kn0 kc0,.slice LA0 ln0 lc0]] W λen w'=>en=.returned (.string P0)/\Below W.heap.size W w'):=hidE λW hb=>by
  have h:=IH y S _ W (by rw[Ex.size]at hn;omega) (ok_part _ y (by simp[parts,kidsE,altsE]) hok) (Nat.le_trans (part_wt _ y (by simp[parts,kidsE,altsE])) hwt) (HR0 W hb) (HSG W hb)
  rw[hP0]at h
  exact h
 have HR1:∀W,Below W0.heap.size W0 W->RdX S W z (.agg #[.int .i64 (kdE z:Nat),.string x1,.bool t1,.int .i64 K1,.string X1,.int .i64 Z1,.slice D1 m1 q1,.slice KA1 kn1 kc1,.slice LA1 ln1 lc1]):=λW hb=>hr1.keep (λ_ h=>h) (λg hg=>(KEEP W hb).2 g (hS g hg))
 obtain⟨P1,hP1⟩:∃P:ByteArray,⟨(z).print.toArray⟩=P:=⟨_,rfl⟩
 have hps1:P1.size=(z).print.length:=by rw[<-hP1];rfl
 have CA1:Hid (∀W,Below W0.heap.size W0 W->Calls Tryz.prog 17 #[.agg #[.int .i64 (kdE z:Nat),.string x1,.bool t1,.int .i64 K1,.string X1,.int .i64 Z1,.slice D1 m1 q1,.slice KA1 kn1 kc1,.slice LA1 ln1 lc1]] W λen w'=>en=.returned (.string P1)/\Below W.heap.size W w'):=hidE λW hb=>by
  have h:=IH z S _ W (by rw[Ex.size]at hn;omega) (ok_part _ z (by simp[parts,kidsE,altsE]) hok) (Nat.le_trans (part_wt _ z (by simp[parts,kidsE,altsE])) hwt) (HR1 W hb) (HSG W hb)
  rw[hP1]at h
  exact h
 have B0:Hid (Below W0.heap.size W0 W0.drew):=hidE (Below.refl _ _).drew
 have BZ:Hid (Below W0.heap.size W0 W0):=hidE (Below.refl _ _)
 have hend:Hid (∀W,Below W0.heap.size W0 W->Below w.heap.size w W):=hidE λW hb=>hlw.trans (hb.mono (by omega))
 obtain⟨R,hR⟩:∃R:ByteArray,⟨(Ex.lt x none y z).print.toArray⟩=R:=⟨_,rfl⟩
 rw[hR]
 have hYx:Y=⟨x.toArray⟩:=by apply ByteArray.ext;apply Array.ext';exact hY
 have hys:Y.size=x.length:=by rw[hYx];rfl
 obtain rfl:td=false:=htd
 have hpr:(Ex.lt x none y z).print=[108,101,116,32]++x++[]++[32,61,32]++y.print++[32,105,110,32]++z.print:=by rw[Ex.print];simp[toldS,wLet,wIn,sEq]
 have hsum:x.length+y.print.length+z.print.length<=900000:=by rw[hpr]at hlen;simp only[List.length_append,List.length_cons,List.length_nil]at hlen;omega
 have hys2:Y.size<=900000:=by omega
 have hps2:P0.size<=900000:=by omega
 have hpq2:P1.size<=900000:=by omega
 obtain⟨TS,hTS⟩:∃T:ByteArray,(⟨#[]⟩:ByteArray)=T:=⟨_,rfl⟩
 have hts2:TS.size<=900003:=by rw[<-hTS];exact Nat.zero_le _
 have HTS:=hidE hTS
 have HX:Hid (⟨#[108,101,116,32]⟩++Y++TS++⟨#[32,61,32]⟩++P0++⟨#[32,105,110,32]⟩++P1=R):=hidE (by rw[<-hR,<-hP0,<-hP1,<-hTS,hpr,hYx];apply ByteArray.ext;simp)
 have o1:¬9223372036854775807<4+Y.size:=by omega
 have o2:¬9223372036854775807<4+Y.size+TS.size:=by omega
 have o3:¬9223372036854775807<4+Y.size+TS.size+3:=by omega
 have o4:¬9223372036854775807<4+Y.size+TS.size+3+P0.size:=by omega
 have o5:¬9223372036854775807<4+Y.size+TS.size+3+P0.size+4:=by omega
 have o6:¬9223372036854775807<4+Y.size+TS.size+3+P0.size+4+P1.size:=by omega
 obtain⟨f0,f1,f2,f3,f4,f5,f6,f7,y00,y01,y02,y03,y04,y05,y06,y07,y08,y10,y11,y12,y13,y14,y15,y16,y17,y18⟩:=SOF.out _ BZ.out
 clear c00 c01 c02 c03 c04 c05 c06 c07 c08 c10 c11 c12 c13 c14 c15 c16 c17 c18 hr0 hat0 HR0 hP0 hps0 hr1 hat1 HR1 hP1 hps1 hin hty hn hwt hok hv hS hg KEEP HSG IH hbk hlw hlen hY hR hpr hsum hYx hys hTS
 go_enter Tryz.func17,Tryz.ntmps17
 go_upto_region 1 with fail
 try rw[hW0]
 clear hW0
 go_upto_region 21 with fail
 rw[HTS.out]
 clear HTS
 go_region_held3 (λw'=>w'.cell? ⟨w.heap.size,0,none⟩=some (.int .i64 5)/\w'.cell? ⟨w.heap.size,1,none⟩=some (.string Y)/\w'.cell? ⟨w.heap.size,2,none⟩=some (.bool false)/\w'.cell? ⟨w.heap.size,3,none⟩=some (.int .i64 K)/\w'.cell? ⟨w.heap.size,4,none⟩=some (.string X)/\w'.cell? ⟨w.heap.size,5,none⟩=some (.int .i64 Z)/\w'.cell? ⟨w.heap.size,6,none⟩=some (.slice A0 m q)/\w'.cell? ⟨w.heap.size,7,none⟩=some (.slice (some ⟨g,0,none⟩) 2 kc)/\w'.cell? ⟨g,0,none⟩=some (.int .i64 (kdE y:Nat))/\w'.cell? ⟨g,1,none⟩=some (.string x0)/\w'.cell? ⟨g,2,none⟩=some (.bool t0)/\w'.cell? ⟨g,3,none⟩=some (.int .i64 K0)/\w'.cell? ⟨g,4,none⟩=some (.string X0)/\w'.cell? ⟨g,5,none⟩=some (.int .i64 Z0)/\w'.cell? ⟨g,6,none⟩=some (.slice D0 m0 q0)/\w'.cell? ⟨g,7,none⟩=some (.slice KA0 kn0 kc0)/\w'.cell? ⟨g,8,none⟩=some (.slice LA0 ln0 lc0)/\w'.cell? ⟨g,9,none⟩=some (.int .i64 (kdE z:Nat))/\w'.cell? ⟨g,10,none⟩=some (.string x1)/\w'.cell? ⟨g,11,none⟩=some (.bool t1)/\w'.cell? ⟨g,12,none⟩=some (.int .i64 K1)/\w'.cell? ⟨g,13,none⟩=some (.string X1)/\w'.cell? ⟨g,14,none⟩=some (.int .i64 Z1)/\w'.cell? ⟨g,15,none⟩=some (.slice D1 m1 q1)/\w'.cell? ⟨g,16,none⟩=some (.slice KA1 kn1 kc1)/\w'.cell? ⟨g,17,none⟩=some (.slice LA1 ln1 lc1)) (first|exact SOF.out _ B2.out|exact SOF.out _ B1.out|exact SOF.out _ B0.out) (first|(first|((with_reducible refine(CA0.out _ (by first|exact B1.out|exact B0.out)).mono ?_);rintro e w1 ⟨rfl,b1⟩;first|(have B2:=hidE (bnext B1.out b1 (by omega)))|(have B1:=hidE (bnext B0.out b1 (by omega)));clear b1))|(first|((with_reducible refine(CA1.out _ (by first|exact B1.out|exact B0.out)).mono ?_);rintro e w1 ⟨rfl,b1⟩;first|(have B2:=hidE (bnext B1.out b1 (by omega)))|(have B1:=hidE (bnext B0.out b1 (by omega)));clear b1)))
 all_goals
  go_wp2_with fail
  go_ret
  exact⟨ret_string HX.out,hend.out _ B2.out⟩
set_option maxHeartbeats 6400000 in
theorem d8_let_some(n:Nat)(IH:PE8 n)(x:Nm)(t:Ty)(y z:Ex)(S:Nat->Prop)(v:Value)(w:World)(hn:(Ex.lt x (some t) y z).size<=n+1)(hok:(Ex.lt x (some t) y z).Ok)(hwt:(Ex.lt x (some t) y z).wt<=9000)(hv:RdX S w (Ex.lt x (some t) y z) v)(hS:∀g,S g->g<w.heap.size) :
  Calls Tryz.prog 17 #[v] w λen w'=>en=.returned (.string ⟨(Ex.lt x (some t) y z).print.toArray⟩)/\Below w.heap.size w w':=by
 have hlen:=print_wt _ hok
 obtain⟨Y,td,K,X,Z,A0,m,q,KA,kc,LA,ln,lc,rfl,hY,htd,-,hty,hin⟩:=bx8 hv
 obtain⟨g,rfl,hg,hat0⟩:=hin.kid 0 y rfl
 obtain⟨x0,t0,K0,X0,Z0,D0,m0,q0,KA0,kn0,kc0,LA0,ln0,lc0,c00,c01,c02,c03,c04,c05,c06,c07,c08,hr0⟩:=hat0.cells2
 obtain⟨g1,hgg,-,hat1⟩:=hin.kid 1 z rfl
 obtain rfl:g=g1:=congrArg Addr.block (Option.some.inj hgg)
 obtain⟨x1,t1,K1,X1,Z1,D1,m1,q1,KA1,kn1,kc1,LA1,ln1,lc1,c10,c11,c12,c13,c14,c15,c16,c17,c18,hr1⟩:=hat1.cells2
 have hgw:=hS g hg
 show Calls Tryz.prog _ #[.agg #[.int .i64 5,.string Y,.bool td,.int .i64 K,.string X,.int .i64 Z,.slice A0 m q,.slice (some ⟨g,0,none⟩) 2 kc,.slice LA ln lc]] w _
 obtain⟨W0,hW0⟩:∃W,w.alloc (.cells #[.int .i64 5,.string Y,.bool td,.int .i64 K,.string X,.int .i64 Z,.slice A0 m q,.slice (some ⟨g,0,none⟩) 2 kc,.slice LA ln lc] 48)=W:=⟨_,rfl⟩
 have hlw:Below w.heap.size w W0:=hW0▸(Below.refl _ w).alloc (Nat.le_refl _) _
 have hs0:W0.heap.size=w.heap.size+1:=by rw[<-hW0];simp
 have hbk:Blk W0 w.heap.size 48 #[.int .i64 5,.string Y,.bool td,.int .i64 K,.string X,.int .i64 Z,.slice A0 m q,.slice (some ⟨g,0,none⟩) 2 kc,.slice LA ln lc]:=hW0▸heap_alloc_new _ _
 have hlt0:=hbk.lt
 have KEEP:∀W,Below W0.heap.size W0 W->w.heap.size<W.heap.size/\∀k,k<w.heap.size->W.heap[k]? = w.heap[k]?:=λW hb=>⟨by have:=hb.size;omega,λk hk=>(hb.block k (by omega)).trans (hlw.block k hk)⟩
 have SOF:Hid (∀W,Below W0.heap.size W0 W->W.cell? ⟨w.heap.size,0,none⟩=some (.int .i64 5)/\W.cell? ⟨w.heap.size,1,none⟩=some (.string Y)/\W.cell? ⟨w.heap.size,2,none⟩=some (.bool td)/\W.cell? ⟨w.heap.size,3,none⟩=some (.int .i64 K)/\W.cell? ⟨w.heap.size,4,none⟩=some (.string X)/\W.cell? ⟨w.heap.size,5,none⟩=some (.int .i64 Z)/\W.cell? ⟨w.heap.size,6,none⟩=some (.slice A0 m q)/\W.cell? ⟨w.heap.size,7,none⟩=some (.slice (some ⟨g,0,none⟩) 2 kc)/\W.cell? ⟨g,0,none⟩=some (.int .i64 (kdE y:Nat))/\W.cell? ⟨g,1,none⟩=some (.string x0)/\W.cell? ⟨g,2,none⟩=some (.bool t0)/\W.cell? ⟨g,3,none⟩=some (.int .i64 K0)/\W.cell? ⟨g,4,none⟩=some (.string X0)/\W.cell? ⟨g,5,none⟩=some (.int .i64 Z0)/\W.cell? ⟨g,6,none⟩=some (.slice D0 m0 q0)/\W.cell? ⟨g,7,none⟩=some (.slice KA0 kn0 kc0)/\W.cell? ⟨g,8,none⟩=some (.slice LA0 ln0 lc0)/\W.cell? ⟨g,9,none⟩=some (.int .i64 (kdE z:Nat))/\W.cell? ⟨g,10,none⟩=some (.string x1)/\W.cell? ⟨g,11,none⟩=some (.bool t1)/\W.cell? ⟨g,12,none⟩=some (.int .i64 K1)/\W.cell? ⟨g,13,none⟩=some (.string X1)/\W.cell? ⟨g,14,none⟩=some (.int .i64 Z1)/\W.cell? ⟨g,15,none⟩=some (.slice D1 m1 q1)/\W.cell? ⟨g,16,none⟩=some (.slice KA1 kn1 kc1)/\W.cell? ⟨g,17,none⟩=some (.slice LA1 ln1 lc1)):=hidE λW hb=>by
  have hc:∀i,W.cell? ⟨g,i,none⟩=w.cell? ⟨g,i,none⟩:=λi=>World.cell?_of_block (w:=w) (a:=⟨g,i,none⟩) ((KEEP W hb).2 g hgw)
  have hbx:=hbk.below hb hbk.lt
  exact⟨hbx.cell 0,hbx.cell 1,hbx.cell 2,hbx.cell 3,hbx.cell 4,hbx.cell 5,hbx.cell 6,hbx.cell 7,(hc _).trans c00,(hc _).trans c01,(hc _).trans c02,(hc _).trans c03,(hc _).trans c04,(hc _).trans c05,(hc _).trans c06,(hc _).trans c07,(hc _).trans c08,(hc _).trans c10,(hc _).trans c11,(hc _).trans c12,(hc _).trans c13,(hc _).trans c14,(hc _).trans c15,(hc _).trans c16,(hc _).trans c17,(hc _).trans c18⟩
 have HSG:∀W,Below W0.heap.size W0 W->∀g,S g->g<W.heap.size:=λW hb g hg=>Nat.lt_trans (hS g hg) (KEEP W hb).1
 have HR0:∀W,Below W0.heap.size W0 W->RdX S W y (.agg #[.int .i64 (kdE y:Nat),.string x0,.bool t0,.int .i64 K0,.string X0,.int .i64 Z0,.slice D0 m0 q0,.slice KA0 kn0 kc0,.slice LA0 ln0 lc0]):=λW hb=>hr0.keep (λ_ h=>h) (λg hg=>(KEEP W hb).2 g (hS g hg))
 obtain⟨P0,hP0⟩:∃P:ByteArray,⟨(y).print.toArray⟩=P:=⟨_,rfl⟩
 have hps0:P0.size=(y).print.length:=by rw[<-hP0];rfl
 have CA0:Hid (∀W,Below W0.heap.size W0 W->Calls Tryz.prog 17 #[.agg #[.int .i64 (kdE y:Nat),.string x0,.bool t0,.int .i64 K0,.string X0,.int .i64 Z0,.slice D0 m0 q0,.slice KA0 kn0 kc0,.slice LA0 ln0 lc0]] W λen w'=>en=.returned (.string P0)/\Below W.heap.size W w'):=hidE λW hb=>by
  have h:=IH y S _ W (by rw[Ex.size]at hn;omega) (ok_part _ y (by simp[parts,kidsE,altsE]) hok) (Nat.le_trans (part_wt _ y (by simp[parts,kidsE,altsE])) hwt) (HR0 W hb) (HSG W hb)
  rw[hP0]at h
  exact h
 have HR1:∀W,Below W0.heap.size W0 W->RdX S W z (.agg #[.int .i64 (kdE z:Nat),.string x1,.bool t1,.int .i64 K1,.string X1,.int .i64 Z1,.slice D1 m1 q1,.slice KA1 kn1 kc1,.slice LA1 ln1 lc1]):=λW hb=>hr1.keep (λ_ h=>h) (λg hg=>(KEEP W hb).2 g (hS g hg))
 obtain⟨P1,hP1⟩:∃P:ByteArray,⟨(z).print.toArray⟩=P:=⟨_,rfl⟩
 have hps1:P1.size=(z).print.length:=by rw[<-hP1];rfl
 have CA1:Hid (∀W,Below W0.heap.size W0 W->Calls Tryz.prog 17 #[.agg #[.int .i64 (kdE z:Nat),.string x1,.bool t1,.int .i64 K1,.string X1,.int .i64 Z1,.slice D1 m1 q1,.slice KA1 kn1 kc1,.slice LA1 ln1 lc1]] W λen w'=>en=.returned (.string P1)/\Below W.heap.size W w'):=hidE λW hb=>by
  have h:=IH z S _ W (by rw[Ex.size]at hn;omega) (ok_part _ z (by simp[parts,kidsE,altsE]) hok) (Nat.le_trans (part_wt _ z (by simp[parts,kidsE,altsE])) hwt) (HR1 W hb) (HSG W hb)
  rw[hP1]at h
  exact h
 obtain⟨PT,hPT⟩:∃P:ByteArray,⟨(t).print.toArray⟩=P:=⟨_,rfl⟩
 have hpsT:PT.size=(t).print.length:=by rw[<-hPT];rfl
 have CT:Hid (∀W,Below W0.heap.size W0 W->Calls Tryz.prog 39 #[.agg #[.int .i64 K,.string X,.int .i64 Z,.slice A0 m q]] W λen w'=>en=.returned (.string PT)/\Below W.heap.size W w'):=hidE λW hb=>by
  have h:=ref2_print t S _ W (by rw[Ex.wt,toldW]at hwt;omega) (hok.2.1 t rfl) (by have:=hlen;rw[Ex.print]at this;simp[toldS,sCol]at this;omega) ((hty t rfl).keep (λ_ h=>h) (λg hg=>(KEEP W hb).2 g (hS g hg))) (HSG W hb)
  rw[hPT]at h
  exact h
 have B0:Hid (Below W0.heap.size W0 W0.drew):=hidE (Below.refl _ _).drew
 have BZ:Hid (Below W0.heap.size W0 W0):=hidE (Below.refl _ _)
 have hend:Hid (∀W,Below W0.heap.size W0 W->Below w.heap.size w W):=hidE λW hb=>hlw.trans (hb.mono (by omega))
 obtain⟨R,hR⟩:∃R:ByteArray,⟨(Ex.lt x (some t) y z).print.toArray⟩=R:=⟨_,rfl⟩
 rw[hR]
 have hYx:Y=⟨x.toArray⟩:=by apply ByteArray.ext;apply Array.ext';exact hY
 have hys:Y.size=x.length:=by rw[hYx];rfl
 obtain rfl:td=true:=htd
 have hpr:(Ex.lt x (some t) y z).print=[108,101,116,32]++x++([32,58,32]++t.print)++[32,61,32]++y.print++[32,105,110,32]++z.print:=by rw[Ex.print];simp[toldS,wLet,wIn,sEq,sCol]
 have hsum:x.length+y.print.length+z.print.length+t.print.length<=900000:=by rw[hpr]at hlen;simp only[List.length_append,List.length_cons,List.length_nil]at hlen;omega
 have hys2:Y.size<=900000:=by omega
 have hps2:P0.size<=900000:=by omega
 have hpq2:P1.size<=900000:=by omega
 obtain⟨TS,hTS⟩:∃T:ByteArray,⟨#[32,58,32]⟩++PT=T:=⟨_,rfl⟩
 have hpt2:PT.size<=900000:=by omega
 have hts2:TS.size<=900003:=by rw[<-hTS,ByteArray.size_append];show 3+PT.size<=_;omega
 have HTS:=hidE hTS
 have HX:Hid (⟨#[108,101,116,32]⟩++Y++TS++⟨#[32,61,32]⟩++P0++⟨#[32,105,110,32]⟩++P1=R):=hidE (by rw[<-hR,<-hP0,<-hP1,<-hTS,<-hPT,hpr,hYx];apply ByteArray.ext;simp)
 have o1:¬9223372036854775807<4+Y.size:=by omega
 have o2:¬9223372036854775807<4+Y.size+TS.size:=by omega
 have o3:¬9223372036854775807<4+Y.size+TS.size+3:=by omega
 have o4:¬9223372036854775807<4+Y.size+TS.size+3+P0.size:=by omega
 have o5:¬9223372036854775807<4+Y.size+TS.size+3+P0.size+4:=by omega
 have o6:¬9223372036854775807<4+Y.size+TS.size+3+P0.size+4+P1.size:=by omega
 obtain⟨f0,f1,f2,f3,f4,f5,f6,f7,y00,y01,y02,y03,y04,y05,y06,y07,y08,y10,y11,y12,y13,y14,y15,y16,y17,y18⟩:=SOF.out _ BZ.out
 clear c00 c01 c02 c03 c04 c05 c06 c07 c08 c10 c11 c12 c13 c14 c15 c16 c17 c18 hr0 hat0 HR0 hP0 hps0 hr1 hat1 HR1 hP1 hps1 hPT hpsT hin hty hn hwt hok hv hS hg KEEP HSG IH hbk hlw hlen hY hR hpr hsum hYx hys hTS
 go_enter Tryz.func17,Tryz.ntmps17
 go_upto_region 1 with fail
 try rw[hW0]
 clear hW0
 go_wp2_with fail
 refine(CT.out _ BZ.out).mono ?_
 rintro en w0 ⟨rfl,b0⟩
 replace B0:=hidE (b0.drew)
 replace BZ:=hidE b0
 clear b0
 clear f0 f1 f2 f3 f4 f5 f6 f7 y00 y01 y02 y03 y04 y05 y06 y07 y08 y10 y11 y12 y13 y14 y15 y16 y17 y18
 obtain⟨f0,f1,f2,f3,f4,f5,f6,f7,y00,y01,y02,y03,y04,y05,y06,y07,y08,y10,y11,y12,y13,y14,y15,y16,y17,y18⟩:=SOF.out w0 BZ.out
 go_upto_region 21 with fail
 rw[HTS.out]
 clear HTS
 go_region_held3 (λw'=>w'.cell? ⟨w.heap.size,0,none⟩=some (.int .i64 5)/\w'.cell? ⟨w.heap.size,1,none⟩=some (.string Y)/\w'.cell? ⟨w.heap.size,2,none⟩=some (.bool true)/\w'.cell? ⟨w.heap.size,3,none⟩=some (.int .i64 K)/\w'.cell? ⟨w.heap.size,4,none⟩=some (.string X)/\w'.cell? ⟨w.heap.size,5,none⟩=some (.int .i64 Z)/\w'.cell? ⟨w.heap.size,6,none⟩=some (.slice A0 m q)/\w'.cell? ⟨w.heap.size,7,none⟩=some (.slice (some ⟨g,0,none⟩) 2 kc)/\w'.cell? ⟨g,0,none⟩=some (.int .i64 (kdE y:Nat))/\w'.cell? ⟨g,1,none⟩=some (.string x0)/\w'.cell? ⟨g,2,none⟩=some (.bool t0)/\w'.cell? ⟨g,3,none⟩=some (.int .i64 K0)/\w'.cell? ⟨g,4,none⟩=some (.string X0)/\w'.cell? ⟨g,5,none⟩=some (.int .i64 Z0)/\w'.cell? ⟨g,6,none⟩=some (.slice D0 m0 q0)/\w'.cell? ⟨g,7,none⟩=some (.slice KA0 kn0 kc0)/\w'.cell? ⟨g,8,none⟩=some (.slice LA0 ln0 lc0)/\w'.cell? ⟨g,9,none⟩=some (.int .i64 (kdE z:Nat))/\w'.cell? ⟨g,10,none⟩=some (.string x1)/\w'.cell? ⟨g,11,none⟩=some (.bool t1)/\w'.cell? ⟨g,12,none⟩=some (.int .i64 K1)/\w'.cell? ⟨g,13,none⟩=some (.string X1)/\w'.cell? ⟨g,14,none⟩=some (.int .i64 Z1)/\w'.cell? ⟨g,15,none⟩=some (.slice D1 m1 q1)/\w'.cell? ⟨g,16,none⟩=some (.slice KA1 kn1 kc1)/\w'.cell? ⟨g,17,none⟩=some (.slice LA1 ln1 lc1)) (first|exact SOF.out _ B2.out|exact SOF.out _ B1.out|exact SOF.out _ B0.out) (first|(first|((with_reducible refine(CA0.out _ (by first|exact B1.out|exact B0.out)).mono ?_);rintro e w1 ⟨rfl,b1⟩;first|(have B2:=hidE (bnext B1.out b1 (by omega)))|(have B1:=hidE (bnext B0.out b1 (by omega)));clear b1))|(first|((with_reducible refine(CA1.out _ (by first|exact B1.out|exact B0.out)).mono ?_);rintro e w1 ⟨rfl,b1⟩;first|(have B2:=hidE (bnext B1.out b1 (by omega)))|(have B1:=hidE (bnext B0.out b1 (by omega)));clear b1)))
 all_goals
  go_wp2_with fail
  go_ret
  exact⟨ret_string HX.out,hend.out _ B2.out⟩
end Go.Proofs.YtknkclefoiohpaaGreatDoor

namespace Go.Proofs.YtknkclefoiohpaaGreatDoor
open Go.RowKit Lx Tx Sx
set_option maxRecDepth 100000
theorem nms_rowU {S:Nat->Prop} {w:World} {L:List Nm} {A:Option Addr}(h:NmsIn S w L A) {j:Nat} {y:Nm}(hy:L[j]? = some y):∃g,A=some ⟨g,0,none⟩/\S g/\w.cell? ⟨g,j,none⟩=some (.string ⟨y.toArray⟩):=by
 have hj:=(List.getElem?_eq_some_iff.1 hy).1
 obtain⟨g,hA,hg,hl⟩:=h (by intro e;rw[e]at hj;simp at hj)
 refine⟨g,hA,hg,?_⟩
 have:=hl j (Sx.strV y) (by rw[List.getElem?_map,hy];rfl)
 rw[Nat.zero_add]at this
 exact this
theorem al_full {S:Nat->Prop} {w:World} {c:Nm} {vs:List Nm} {b:Ex} {g o:Nat}(h:AlIn S w (.mk c vs b) g o):∃V v,w.cell? ⟨g,o,none⟩=some (.string ⟨c.toArray⟩)/\w.cell? ⟨g,o+1,none⟩=some (.slice V vs.length v)/\NmsIn S w vs V/\ExAt S w b g (o+2):=by
 rw[AlIn]at h
 obtain⟨h1,⟨V,v,h2,h4⟩,h3⟩:=h
 exact⟨V,v.1,h1,h2,h4,h3⟩
set_option maxHeartbeats 6400000 in
theorem d8_print_cs(n:Nat)(IH:PE8 n)(y:Ex)(als:List Al)(S:Nat->Prop)(v:Value)(w:World)(hn:(Ex.cs y als).size<=n+1)(hok:(Ex.cs y als).Ok)(hwt:(Ex.cs y als).wt<=9000)(hv:RdX S w (Ex.cs y als) v)(hS:∀g,S g->g<w.heap.size) :
  Calls Tryz.prog 17 #[v] w λen w'=>en=.returned (.string ⟨(Ex.cs y als).print.toArray⟩)/\Below w.heap.size w w':=by
 have hlen:=print_wt _ hok
 obtain⟨Y,td,K,X,Z,A0,m,q,KA,kc,LA,ln,lc,rfl,hY,htd,hln,hty,hin⟩:=bx8 hv
 obtain⟨g,rfl,hg,hat0⟩:=hin.kid 0 y rfl
 obtain⟨x0,t0,K0,X0,Z0,D0,m0,q0,KA0,kn0,kc0,LA0,ln0,lc0,c00,c01,c02,c03,c04,c05,c06,c07,c08,hr0⟩:=hat0.cells2
 have hgw:=hS g hg
 show Calls Tryz.prog _ #[.agg #[.int .i64 6,.string Y,.bool td,.int .i64 K,.string X,.int .i64 Z,.slice A0 m q,.slice (some ⟨g,0,none⟩) 1 kc,.slice LA ln lc]] w _
 obtain⟨W0,hW0⟩:∃W,w.alloc (.cells #[.int .i64 6,.string Y,.bool td,.int .i64 K,.string X,.int .i64 Z,.slice A0 m q,.slice (some ⟨g,0,none⟩) 1 kc,.slice LA ln lc] 48)=W:=⟨_,rfl⟩
 have hlw:Below w.heap.size w W0:=hW0▸(Below.refl _ w).alloc (Nat.le_refl _) _
 have hs0:W0.heap.size=w.heap.size+1:=by rw[<-hW0];simp
 have hbk:Blk W0 w.heap.size 48 #[.int .i64 6,.string Y,.bool td,.int .i64 K,.string X,.int .i64 Z,.slice A0 m q,.slice (some ⟨g,0,none⟩) 1 kc,.slice LA ln lc]:=hW0▸heap_alloc_new _ _
 have hlt0:=hbk.lt
 have KEEP:∀W,Below W0.heap.size W0 W->w.heap.size<W.heap.size/\∀k,k<w.heap.size->W.heap[k]? = w.heap[k]?:=λW hb=>⟨by have:=hb.size;omega,λk hk=>(hb.block k (by omega)).trans (hlw.block k hk)⟩
 have SOF:Hid (∀W,Below W0.heap.size W0 W->W.cell? ⟨w.heap.size,0,none⟩=some (.int .i64 6)/\W.cell? ⟨w.heap.size,1,none⟩=some (.string Y)/\W.cell? ⟨w.heap.size,2,none⟩=some (.bool td)/\W.cell? ⟨w.heap.size,3,none⟩=some (.int .i64 K)/\W.cell? ⟨w.heap.size,4,none⟩=some (.string X)/\W.cell? ⟨w.heap.size,5,none⟩=some (.int .i64 Z)/\W.cell? ⟨w.heap.size,6,none⟩=some (.slice A0 m q)/\W.cell? ⟨w.heap.size,7,none⟩=some (.slice (some ⟨g,0,none⟩) 1 kc)/\W.cell? ⟨g,0,none⟩=some (.int .i64 (kdE y:Nat))/\W.cell? ⟨g,1,none⟩=some (.string x0)/\W.cell? ⟨g,2,none⟩=some (.bool t0)/\W.cell? ⟨g,3,none⟩=some (.int .i64 K0)/\W.cell? ⟨g,4,none⟩=some (.string X0)/\W.cell? ⟨g,5,none⟩=some (.int .i64 Z0)/\W.cell? ⟨g,6,none⟩=some (.slice D0 m0 q0)/\W.cell? ⟨g,7,none⟩=some (.slice KA0 kn0 kc0)/\W.cell? ⟨g,8,none⟩=some (.slice LA0 ln0 lc0)):=hidE λW hb=>by
  have hc:∀i,W.cell? ⟨g,i,none⟩=w.cell? ⟨g,i,none⟩:=λi=>World.cell?_of_block (w:=w) (a:=⟨g,i,none⟩) ((KEEP W hb).2 g hgw)
  have hbx:=hbk.below hb hbk.lt
  exact⟨hbx.cell 0,hbx.cell 1,hbx.cell 2,hbx.cell 3,hbx.cell 4,hbx.cell 5,hbx.cell 6,hbx.cell 7,(hc _).trans c00,(hc _).trans c01,(hc _).trans c02,(hc _).trans c03,(hc _).trans c04,(hc _).trans c05,(hc _).trans c06,(hc _).trans c07,(hc _).trans c08⟩
 have HSG:∀W,Below W0.heap.size W0 W->∀g,S g->g<W.heap.size:=λW hb g hg=>Nat.lt_trans (hS g hg) (KEEP W hb).1
 have HR0:∀W,Below W0.heap.size W0 W->RdX S W y (.agg #[.int .i64 (kdE y:Nat),.string x0,.bool t0,.int .i64 K0,.string X0,.int .i64 Z0,.slice D0 m0 q0,.slice KA0 kn0 kc0,.slice LA0 ln0 lc0]):=λW hb=>hr0.keep (λ_ h=>h) (λg hg=>(KEEP W hb).2 g (hS g hg))
 obtain⟨P0,hP0⟩:∃P:ByteArray,⟨(y).print.toArray⟩=P:=⟨_,rfl⟩
 have hps0:P0.size=(y).print.length:=by rw[<-hP0];rfl
 have CA0:Hid (∀W,Below W0.heap.size W0 W->Calls Tryz.prog 17 #[.agg #[.int .i64 (kdE y:Nat),.string x0,.bool t0,.int .i64 K0,.string X0,.int .i64 Z0,.slice D0 m0 q0,.slice KA0 kn0 kc0,.slice LA0 ln0 lc0]] W λen w'=>en=.returned (.string P0)/\Below W.heap.size W w'):=hidE λW hb=>by
  have h:=IH y S _ W (by rw[Ex.size]at hn;omega) (ok_part _ y (by simp[parts,kidsE,altsE]) hok) (Nat.le_trans (part_wt _ y (by simp[parts,kidsE,altsE])) hwt) (HR0 W hb) (HSG W hb)
  rw[hP0]at h
  exact h
 have B0:Hid (Below W0.heap.size W0 W0.drew):=hidE (Below.refl _ _).drew
 have BZ:Hid (Below W0.heap.size W0 W0):=hidE (Below.refl _ _)
 have hend:Hid (∀W,Below W0.heap.size W0 W->Below w.heap.size w W):=hidE λW hb=>hlw.trans (hb.mono (by omega))
 obtain⟨R,hR⟩:∃R:ByteArray,⟨(Ex.cs y als).print.toArray⟩=R:=⟨_,rfl⟩
 rw[hR]
 have hpr:(Ex.cs y als).print=[99,97,115,101,32]++y.print++[32,111,102,32,123]++sepS (als.map Al.print)++[125]:=by rw[Ex.print,printAs_sep];simp[wCase,wOf]
 have hsum:y.print.length+(sepS (als.map Al.print)).length+11<=900000:=by rw[hpr]at hlen;simp only[List.length_append,List.length_cons,List.length_nil]at hlen;omega
 have hps2:P0.size<=900000:=by omega
 obtain⟨PRE,hPRE⟩:∃p:List UInt8,[99,97,115,101,32]++y.print++[32,111,102,32,123]=p:=⟨_,rfl⟩
 have hpl:PRE.length=y.print.length+10:=by rw[<-hPRE];simp
 have HX0:Hid ((⟨#[99,97,115,101,32]⟩++P0++⟨#[32,111,102,32,123]⟩:ByteArray).data.toList=PRE):=hidE (by rw[<-hPRE,<-hP0];simp)
 have HEND:Hid (∀X:ByteArray,X.data.toList=PRE++sepS (als.map Al.print)->X++⟨#[125]⟩=R):=hidE λX hX=>by
  rw[<-hR,hpr,hPRE,<-hX]
  apply ByteArray.ext
  apply Array.ext'
  simp
 have HTOT:Hid (∀i,PRE.length+(sepS ((als.take i).map Al.print)).length<=900000):=hidE λi=>by have:=sepS_len als Al.print i;omega
 have HLN:Hid (als.length=ln):=hidE hln.symm
 have hln9:ln<=100000:=by
  have:∀l:List Al,l.length<=wtA l:=λl=>by
   induction l with
   | nil=>exact Nat.zero_le _
   | cons a r ih=>cases a;simp only[wtA,Al.wt,List.length_cons];omega
  have h2:=this als
  rw[Ex.wt]at hwt
  have:=HLN.out
  omega
 have HALT:Hid (∀W,Below W0.heap.size W0 W->∀(i:Nat) (c:Nm) (vs:List Nm) (b:Ex),als[i]? = some (.mk c vs b)->∃ga,LA=some ⟨ga,0,none⟩/\ga<w.heap.size/\∃V vc,W.cell? ⟨ga,i*11,none⟩=some (.string ⟨c.toArray⟩)/\W.cell? ⟨ga,i*11+1,none⟩=some (.slice V vs.length vc)/\NmsIn S W vs V/\ExAt S W b ga (i*11+2)):=hidE λW hb i c vs b ha=>by
  obtain⟨ga,h1,h2,h3⟩:=hin.alt i _ ha
  obtain⟨V,vc,h4,h5,h6,h7⟩:=al_full (AlIn.keep (λ_ h=>h) (λg hg=>(KEEP W hb).2 g (hS g hg)) _ ga _ ((KEEP W hb).2 ga (hS ga h2)) h3)
  exact⟨ga,h1,hS ga h2,V,vc,h4,h5,h6,h7⟩
 have HIB:Hid (∀(i:Nat) (c:Nm) (vs:List Nm) (b:Ex),als[i]? = some (.mk c vs b)->∀W v,Below W0.heap.size W0 W->RdX S W b v->Calls Tryz.prog 17 #[v] W λen w'=>en=.returned (.string ⟨b.print.toArray⟩)/\Below W.heap.size W w'):=hidE λi c vs b ha W v hb hv=>by
  have hmem:b∈parts (Ex.cs y als):=List.mem_of_getElem? (parts_alt (Ex.cs y als) i _ ha)
  exact IH b S v W (by have:=part_lt2 (Ex.cs y als) _ _ (parts_alt (Ex.cs y als) i _ ha);have h3:(alB (.mk c vs b)).size=b.size:=rfl;omega) (ok_part _ b hmem hok) (Nat.le_trans (part_wt _ b hmem) hwt) hv (HSG W hb)
 have HSG2:=hidE HSG
 have HSS:=hidE hS
 obtain⟨f0,f1,f2,f3,f4,f5,f6,f7,y00,y01,y02,y03,y04,y05,y06,y07,y08⟩:=SOF.out _ BZ.out
 have HBK:=hidE hbk
 clear c00 c01 c02 c03 c04 c05 c06 c07 c08 hr0 hat0 HR0 hP0 hps0 hin hty hn hwt hok hv hS hg KEEP HSG IH hbk hlw hlen hY htd hR hpr hsum hPRE hpl hln
 go_enter Tryz.func17,Tryz.ntmps17
 go_upto_region 1 with fail
 try rw[hW0]
 clear hW0
 go_wp2_with fail
 refine(CA0.out _ BZ.out).mono ?_
 rintro en w1 ⟨rfl,b1⟩
 have B1:=hidE b1
 have hs1:=b1.size
 clear b1 f0 f1 f2 f3 f4 f5 f6 f7 y00 y01 y02 y03 y04 y05 y06 y07 y08
 obtain⟨⟨f0,f1,f2,f3,f4,f5,f6,f7,f8⟩,-,hlt1⟩:=blk_facts9 (HBK.out.below B1.out (by omega))
 go_wp2_with fail
 go_loopg [8,9] ln (λgg vs vi wr=>∃(i:Nat) (X:ByteArray),gg=ln-i/\vs=.string X/\vi=.int .i64 (i:Nat)/\i<=ln/\X.size<=900000/\Hid (X.data.toList=PRE++sepS ((als.take i).map Al.print))/\Hid (Below W0.heap.size W0 wr))
 case atStart=>exact⟨0,_,rfl,rfl,rfl,by omega,by rw[Lib.size_eq,HX0.out];have:=HTOT.out 0;omega,hidE (by rw[HX0.out];simp[sepS]),B1⟩
 case round =>
  clear f0 f1 f2 f3 f4 f5 f6 f7 f8
  obtain⟨i,XX,rfl,rfl,rfl,hi,hXs,hX,hB⟩:=hrel
  obtain⟨wq,hwq⟩:∃y,y=wr:=⟨_,rfl⟩
  subst hwq
  have hsq:=hB.out.size
  obtain⟨⟨f0,f1,f2,f3,f4,f5,f6,f7,f8⟩,-,hltq⟩:=blk_facts9 (HBK.out.below hB.out (by omega))
  by_cases hlt:i<ln
  ·obtain⟨⟨c,vs,b⟩,ha⟩:∃x,als[i]? = some x:=⟨_,List.getElem?_eq_getElem (by rw[HLN.out];exact hlt)⟩
   obtain⟨ga,rfl,hga,V,vc,q0,q1,hV,hbody⟩:=HALT.out _ hB.out i c vs b ha
   obtain⟨k1,x1,t1,K1,X1,Z1,D1,m1,q1',KA1,kn1,kc1,LA1,ln1,lc1,e0,e1,e2,e3,e4,e5,e6,e7,e8,hrd⟩:=hbody.cells
   have hgl:=lt_cell q0
   have ii0:(0:Int)<=(i:Int):=by omega
   have ii1:(i:Int)<(ln:Int):=by omega
   obtain⟨C,hC⟩:∃C:ByteArray,⟨c.toArray⟩=C:=⟨_,rfl⟩
   rw[hC]at q0
   have hCl:C.data.toList=c:=by rw[<-hC]
   have hst:=sepS_take als Al.print i _ ha
   have htot:=HTOT.out (i+1)
   rw[hst]at htot
   have hap:(Al.mk c vs b).print=c++spaced vs++[32,45,62,32]++b.print:=by rw[Al.print];rfl
   rw[hap]at htot hst
   have hXl:XX.size=(PRE++sepS ((als.take i).map Al.print)).length:=by rw[Lib.size_eq,hX.out]
   have hCs:C.size=c.length:=by rw[<-hC];rfl
   simp only[List.length_append,List.length_cons,List.length_nil]at htot hXl
   obtain⟨sm,hsm⟩:∃z:List UInt8,(if i=0 then[] else sSem)=z:=⟨_,rfl⟩
   rw[hsm]at htot hst
   have hb1:XX.size+sm.length+c.length+(spaced vs).length+b.print.length+4<=900000:=by omega
   have HB1:=hidE hb1
   obtain⟨vn,hvn⟩:∃k,vs.length=k:=⟨_,rfl⟩
   rw[hvn]at q1
   have HVN:=hidE hvn
   have HVL:Hid (∀k,(spaced (vs.take k)).length<=(spaced vs).length):=hidE (spaced_len vs)
   have hvn9:vn<=900000:=by
    have:∀l:List Nm,l.length<=(spaced l).length:=λl=>by
     induction l with
     | nil=>exact Nat.zero_le _
     | cons a r ih=>simp only[spaced,List.flatMap_cons,List.length_append,List.length_cons]at ih ⊢;omega
    have:=this vs
    omega
   have HCL:=hidE hCl
   have HCS:=hidE hCs
   have HST:Hid (sepS ((als.take (i+1)).map Al.print)=sepS ((als.take i).map Al.print)++(sm++(c++spaced vs++[32,45,62,32]++b.print))):=hidE hst
   have HSM:=hidE hsm
   have HV:=hidE hV
   have HCB:=hidE (HIB.out i c vs b ha _ _ hB.out hrd)
   have hpb:b.print.length<=900000:=by omega
   obtain⟨PB,hPB⟩:∃P:ByteArray,⟨b.print.toArray⟩=P:=⟨_,rfl⟩
   have HPB:=hidE hPB
   have hPBs:PB.size<=900000:=by rw[<-hPB];exact hpb
   rw[hPB]at HCB
   have hCs9:C.size<=900000:=by omega
   clear ha hV hbody hrd hC hCl hst htot hap hXl hCs hsm hvn hpb hPB hb1
   by_cases h0:i=0
   ·have HL9:Hid ((XX++C:ByteArray).data.toList=XX.data.toList++sm++c):=hidE (by rw[<-HSM.out,if_pos h0];simp[HCL.out])
    have HZ9:Hid ((XX++C:ByteArray).size=XX.size+sm.length+c.length):=hidE (by rw[Lib.size_eq,HL9.out];simp only[List.length_append,<-Lib.size_eq])
    obtain⟨X9,hX9⟩:∃Z:ByteArray,XX++C=Z:=⟨_,rfl⟩
    have HX9:=hidE hX9
    have HS9:=HZ9
    rw[hX9]at HL9 HS9
    have d0:¬(0:Int)<(i:Int):=by omega
    have d1:¬0<i:=by omega
    clear h0 hX9 HZ9
    go_wp2_with fail
    rw[HX9.out]
    clear HX9
    go_loopg [8,10] vn (λgg vs' vk wx=>∃(k:Nat) (XK:ByteArray),gg=vn-k/\vs'=.string XK/\vk=.int .i64 (k:Nat)/\k<=vn/\XK.size<=900000/\wx=wq/\Hid (XK.data.toList=X9.data.toList++spaced (vs.take k)))
    case atStart=>exact⟨0,X9,rfl,rfl,rfl,by omega,by have:=HS9.out;have:=HB1.out;omega,rfl,hidE (by simp[spaced])⟩
    case round =>
     obtain⟨k,XK,rfl,rfl,rfl,hk,hKs,rfl,hKL⟩:=hrel
     by_cases hlk:k<vn
     ·obtain⟨x,hx⟩:∃x,vs[k]? = some x:=⟨_,List.getElem?_eq_getElem (by rw[HVN.out];exact hlk)⟩
      obtain⟨gv,rfl,hgv,y0⟩:=nms_rowU HV.out hx
      have hgvl:=lt_cell y0
      have kk0:(0:Int)<=(k:Int):=by omega
      have kk1:(k:Int)<(vn:Int):=by omega
      obtain⟨N,hN⟩:∃N:ByteArray,⟨x.toArray⟩=N:=⟨_,rfl⟩
      rw[hN]at y0
      have hsk:spaced (vs.take (k+1))=spaced (vs.take k)++(32::x):=by rw[spaced_take vs k x hx];simp
      have hlb:=HVL.out (k+1)
      rw[hsk]at hlb
      have HKL2:Hid ((XK++⟨#[32]⟩++N:ByteArray).data.toList=X9.data.toList++spaced (vs.take (k+1))):=hidE (by rw[hsk,<-hN];simp[hKL.out])
      have HKS2:Hid ((XK++⟨#[32]⟩++N:ByteArray).size<=900000):=hidE (by rw[Lib.size_eq,HKL2.out,hsk];have h1:=HS9.out;have h2:=HB1.out;simp only[List.length_append,List.length_cons,<-Lib.size_eq]at hlb ⊢;omega)
      have hNs:N.size<=900000:=by rw[<-hN];show x.length<=_;simp only[List.length_append,List.length_cons]at hlb;have h2:=HB1.out;omega
      clear hx hN hsk hlb hgv
      go_wp2_with fail
      go_roundg (vn-(k+1))
      case measure=>omega
      case rel=>exact⟨k+1,_,rfl,rfl,by go_num,by omega,HKS2.out,rfl,HKL2⟩
     ·have hkv:k=vn:=by omega
      subst hkv
      obtain⟨XV,hXV⟩:∃Z:ByteArray,XK++⟨#[32,45,62,32]⟩++PB=Z:=⟨_,rfl⟩
      have HXV:Hid ((XK++⟨#[32,45,62,32]⟩++PB:ByteArray).data.toList=PRE++sepS ((als.take (i+1)).map Al.print)):=hidE (by
       have h1:=hKL.out
       rw[List.take_of_length_le (by rw[HVN.out];exact Nat.le_refl _),HL9.out,hX.out]at h1
       rw[HST.out,<-HPB.out]
       simp[h1])
      have HXS:Hid ((XK++⟨#[32,45,62,32]⟩++PB:ByteArray).size<=900000):=hidE (by rw[Lib.size_eq,HXV.out,List.length_append];exact HTOT.out _)
      clear hXV
      go_wp2_with fail
      refine HCB.out.mono ?_
      rintro en w5 ⟨rfl,b5⟩
      have HB5:=hidE (hB.out.trans (b5.mono hsq))
      clear b5
      go_wp2_with fail
      go_roundg (ln-(i+1))
      case measure=>omega
      case rel=>exact⟨i+1,_,rfl,rfl,by go_num,by omega,HXS.out,HXV,HB5⟩
   ·have HL9:Hid ((XX++⟨#[59,32]⟩++C:ByteArray).data.toList=XX.data.toList++sm++c):=hidE (by rw[<-HSM.out,if_neg h0];simp[sSem,HCL.out])
    have HZ9:Hid ((XX++⟨#[59,32]⟩++C:ByteArray).size=XX.size+sm.length+c.length):=hidE (by rw[Lib.size_eq,HL9.out];simp only[List.length_append,<-Lib.size_eq])
    obtain⟨X9,hX9⟩:∃Z:ByteArray,XX++⟨#[59,32]⟩++C=Z:=⟨_,rfl⟩
    have HX9:=hidE hX9
    have HS9:=HZ9
    rw[hX9]at HL9 HS9
    have d0:(0:Int)<(i:Int):=by omega
    have d1:0<i:=by omega
    clear h0 hX9 HZ9
    go_wp2_with fail
    rw[HX9.out]
    clear HX9
    go_loopg [8,10] vn (λgg vs' vk wx=>∃(k:Nat) (XK:ByteArray),gg=vn-k/\vs'=.string XK/\vk=.int .i64 (k:Nat)/\k<=vn/\XK.size<=900000/\wx=wq/\Hid (XK.data.toList=X9.data.toList++spaced (vs.take k)))
    case atStart=>exact⟨0,X9,rfl,rfl,rfl,by omega,by have:=HS9.out;have:=HB1.out;omega,rfl,hidE (by simp[spaced])⟩
    case round =>
     obtain⟨k,XK,rfl,rfl,rfl,hk,hKs,rfl,hKL⟩:=hrel
     by_cases hlk:k<vn
     ·obtain⟨x,hx⟩:∃x,vs[k]? = some x:=⟨_,List.getElem?_eq_getElem (by rw[HVN.out];exact hlk)⟩
      obtain⟨gv,rfl,hgv,y0⟩:=nms_rowU HV.out hx
      have hgvl:=lt_cell y0
      have kk0:(0:Int)<=(k:Int):=by omega
      have kk1:(k:Int)<(vn:Int):=by omega
      obtain⟨N,hN⟩:∃N:ByteArray,⟨x.toArray⟩=N:=⟨_,rfl⟩
      rw[hN]at y0
      have hsk:spaced (vs.take (k+1))=spaced (vs.take k)++(32::x):=by rw[spaced_take vs k x hx];simp
      have hlb:=HVL.out (k+1)
      rw[hsk]at hlb
      have HKL2:Hid ((XK++⟨#[32]⟩++N:ByteArray).data.toList=X9.data.toList++spaced (vs.take (k+1))):=hidE (by rw[hsk,<-hN];simp[hKL.out])
      have HKS2:Hid ((XK++⟨#[32]⟩++N:ByteArray).size<=900000):=hidE (by rw[Lib.size_eq,HKL2.out,hsk];have h1:=HS9.out;have h2:=HB1.out;simp only[List.length_append,List.length_cons,<-Lib.size_eq]at hlb ⊢;omega)
      have hNs:N.size<=900000:=by rw[<-hN];show x.length<=_;simp only[List.length_append,List.length_cons]at hlb;have h2:=HB1.out;omega
      clear hx hN hsk hlb hgv
      go_wp2_with fail
      go_roundg (vn-(k+1))
      case measure=>omega
      case rel=>exact⟨k+1,_,rfl,rfl,by go_num,by omega,HKS2.out,rfl,HKL2⟩
     ·have hkv:k=vn:=by omega
      subst hkv
      obtain⟨XV,hXV⟩:∃Z:ByteArray,XK++⟨#[32,45,62,32]⟩++PB=Z:=⟨_,rfl⟩
      have HXV:Hid ((XK++⟨#[32,45,62,32]⟩++PB:ByteArray).data.toList=PRE++sepS ((als.take (i+1)).map Al.print)):=hidE (by
       have h1:=hKL.out
       rw[List.take_of_length_le (by rw[HVN.out];exact Nat.le_refl _),HL9.out,hX.out]at h1
       rw[HST.out,<-HPB.out]
       simp[h1])
      have HXS:Hid ((XK++⟨#[32,45,62,32]⟩++PB:ByteArray).size<=900000):=hidE (by rw[Lib.size_eq,HXV.out,List.length_append];exact HTOT.out _)
      clear hXV
      go_wp2_with fail
      refine HCB.out.mono ?_
      rintro en w5 ⟨rfl,b5⟩
      have HB5:=hidE (hB.out.trans (b5.mono hsq))
      clear b5
      go_wp2_with fail
      go_roundg (ln-(i+1))
      case measure=>omega
      case rel=>exact⟨i+1,_,rfl,rfl,by go_num,by omega,HXS.out,HXV,HB5⟩
  ·have hil:i=ln:=by omega
   have HF:=hidE (HEND.out XX (by rw[hX.out,List.take_of_length_le (by rw[HLN.out];omega)]))
   go_wp2_with fail
   go_ret
   exact⟨ret_string HF.out,hend.out _ hB.out⟩
theorem d8_printN(n:Nat):PE8 n:=by
 induction n with
 | zero=>intro e S v w hn;have:1<=e.size:=by { cases e <;> simp only[Ex.size] <;> omega };omega
 | succ n ih =>
  intro e S v w hn hok hwt hv hS
  cases e with
  | var x=>exact d8_print_nm (.var x) ⟨.inl rfl,by rw[Ex.print];rfl⟩ S v w hv
  | con x=>exact d8_print_nm (.con x) ⟨.inr rfl,by rw[Ex.print];rfl⟩ S v w hv
  | lam x y=>exact d8_print_lam n ih x y S v w hn hok hwt hv hS
  | app x y=>exact d8_print_app n ih x y S v w hn hok hwt hv hS
  | ann y t=>exact d8_print_ann n ih y t S v w hn hok hwt hv hS
  | cs y als=>exact d8_print_cs n ih y als S v w hn hok hwt hv hS
  | lt x t y z =>
   cases t with
   | none=>exact d8_let_none n ih x y z S v w hn hok hwt hv hS
   | some t=>exact d8_let_some n ih x t y z S v w hn hok hwt hv hS
theorem d8_printE(e:Ex)(S:Nat->Prop)(v:Value)(w:World)(hok:e.Ok)(hwt:e.wt<=9000)(hv:RdX S w e v)(hS:∀g,S g->g<w.heap.size) :
  Calls Tryz.prog 17 #[v] w λen w'=>en=.returned (.string ⟨e.print.toArray⟩)/\Below w.heap.size w w' :=
 d8_printN e.size e S v w (Nat.le_refl _) hok hwt hv hS
end Go.Proofs.YtknkclefoiohpaaGreatDoor
