/-
  Contracts of the code's functions, part 36.
-/
import Derived.Test.YtknkclefoiohpaaGreatDoorKbAH
import Derived.Test.YtknkclefoiohpaaGreatDoorKbD
import Derived.Test.YtknkclefoiohpaaGreatDoorKbAC
import Derived.Test.YtknkclefoiohpaaGreatDoorKbAD
import Derived.Test.YtknkclefoiohpaaGreatDoorKbV
import Derived.Test.YtknkclefoiohpaaGreatDoorKbS
import Derived.Test.YtknkclefoiohpaaGreatDoorKbT
import Derived.Deep.MidRow
import Derived.Deep.LoopGhost
import Derived.Deep.RegionHeld3
namespace Go.Proofs.YtknkclefoiohpaaGreatDoor
open Go.RowKit Lx Tx Sx Go.Shelf
set_option maxRecDepth 100000
theorem any_snoc {α:Type}(p:α->Bool)(l:List α)(i:Nat)(x:α)(h:l[i]? = some x):(l.take (i+1)).any p=((l.take i).any p||p x):=by
 rw[List.take_add_one,h]
 simp
theorem LstG.row {α:Type} {P:Pc α} {S:Nat->Prop} {w:World} {l:List α} {A:Option Addr}(h:LstG P S w l A)(i:Nat)(x:α)(hx:l[i]? = some x):∃g cs,A=some ⟨g,0,none⟩/\S g/\P.Cs S w x cs/\w.rangeAt g (i*P.n) cs:=by
 obtain⟨hi,rfl⟩:=List.getElem?_eq_some_iff.1 hx
 obtain⟨g,h1,h2,h3⟩:=h (by intro e;rw[e]at hi;simp at hi)
 obtain⟨cs,h4,h6⟩:=AtG.at_ l g 0 i hi h3
 exact⟨g,cs,h1,h2,h4,by rw[Nat.zero_add]at h6;exact h6⟩
set_option maxHeartbeats 3200000 in
theorem sx_indexC(l:List (Nm × Ty))(S:Nat->Prop)(F:Nat)(pr:Nm × Ty->Bool)(A:Option Addr)(m d:Nat)(w:World)(ek:∀args w,(callFunc F args).run Tryz.prog w=.ok (.enter F args) w)(hl:LstG pcC S w l A)(hm:m=l.length)(hS:∀g,S g->g<w.heap.size)(hn:l.length<=100000)
  (HV:∀x∈l,∀cs W,pcC.Cs S W x cs->(∀g,S g->g<W.heap.size)->Calls Tryz.prog F #[.agg cs.toArray] W λe w'=>e=.returned (.bool (pr x))/\Below W.heap.size W w') :
  Calls Tryz.prog 129 #[.slice A m d,.func (.func F) #[] #[]] w λe w'=>∃r:Int,e=.returned (.int .i64 r)/\decide (0<=r)=l.any pr/\Below w.heap.size w w':=by
 subst hm
 obtain⟨n,hn'⟩:∃n,l.length=n:=⟨_,rfl⟩
 rw[hn']at hn ⊢
 have HN:=hidE hn'
 have HL:=hidE hl
 have HS:=hidE hS
 have HVV:=hidE HV
 clear hl hS HV hn'
 go_enter Tryz.func129,Tryz.ntmps129
 go_wp2_with fail
 go_loopg [8] n (λgg vi wr=>∃i:Nat,gg=n-i/\vi=.int .i64 (i:Nat)/\i<=n/\Hid (Below w.heap.size w wr)/\Hid ((l.take i).any pr=false))
 case atStart=>exact⟨0,rfl,rfl,by omega,hidE (Below.refl _ _),hidE (by simp)⟩
 case round =>
  obtain⟨i,hgg,rfl,hi,hB,hA⟩:=hrel
  have hsr:=hB.out.size
  by_cases hlt:i<n
  ·obtain⟨x,hx⟩:∃x,l[i]? = some x:=⟨_,List.getElem?_eq_getElem (by rw[HN.out];exact hlt)⟩
   obtain⟨g,cs,rfl,hSg,hcs,hrow⟩:=HL.out.row i x hx
   have hkS:∀k,S k->wr.heap[k]? = w.heap[k]?:=λk hk=>hB.out.block k (HS.out k hk)
   have HROW:Hid (wr.rangeAt g (i*5) cs):=hidE (Lie.keep (w:=w) hrow (hkS g hSg))
   have hgl:g<wr.heap.size:=by have:=HS.out g hSg;omega
   have HCALL:=hidE (HVV.out x (List.mem_iff_getElem?.2 ⟨i,hx⟩) cs wr (pcC.keep (λ_ h=>h) hkS hcs) (λk hk=>by have:=HS.out k hk;omega))
   have hlen:=pcC.len hcs
   have HLEN:Hid ((Tryz.prog.info? 61).map (·.size)=some cs.length):=hidE (by rw[hlen];kernel_rfl)
   have HA2:=hidE (any_snoc pr l i x hx)
   obtain⟨q,hq⟩:∃q,pr x=q:=⟨_,rfl⟩
   rw[hq]at HCALL HA2
   have HMEM:=hidE (List.mem_iff_getElem?.2 ⟨i,hx⟩)
   have HQ:=hidE hq
   clear hx hSg hcs hrow hkS hlen hq
   go_wp2_with ((with_reducible refine wpList_load_mid ?_ 61 (.tmp 14) ?_ g (i*5) ?_ cs _ HROW.out Tryz.underlying61 ?_ HLEN.out ?_);(exact rfl);(exact rfl);(exact rfl);(exact rfl))
   refine HCALL.out.mono ?_
   rintro e w2 ⟨rfl,b2⟩
   have B2:=hidE (hB.out.trans (b2.mono (by omega)))
   clear b2 HCALL
   cases q with
   | true =>
    have HANY:Hid (l.any pr=true):=hidE (List.any_eq_true.2 ⟨x,HMEM.out,HQ.out⟩)
    go_wp2_with fail
    go_ret
    refine⟨(i:Int),rfl,?_,B2.out⟩
    rw[HANY.out]
    simp
   | false =>
    have HA3:Hid ((l.take (i+1)).any pr=false):=hidE (by rw[HA2.out,hA.out];rfl)
    go_wp2_with fail
    go_roundg (n-(i+1))
    case measure=>omega
    case rel=>exact⟨i+1,rfl,by go_num,by omega,B2,HA3⟩
  ·obtain rfl:i=n:=by omega
   have HANY:Hid (l.any pr=false):=hidE (by
    have:=hA.out
    rwa [List.take_of_length_le (by rw[HN.out];exact Nat.le_refl _)]at this)
   clear hlt
   go_wp2_with fail
   go_ret
   exact⟨-1,rfl,by rw[HANY.out];decide,hB.out⟩
end Go.Proofs.YtknkclefoiohpaaGreatDoor

namespace Go.Proofs.YtknkclefoiohpaaGreatDoor
open Go.RowKit Lx Tx Sx Go.Shelf
set_option maxRecDepth 100000
set_option maxHeartbeats 3200000 in
theorem sx_indexD(l:List De)(S:Nat->Prop)(F:Nat)(pr:De->Bool)(A:Option Addr)(m d:Nat)(w:World)(ek:∀args w,(callFunc F args).run Tryz.prog w=.ok (.enter F args) w)(hl:LstG pcD S w l A)(hm:m=l.length)(hS:∀g,S g->g<w.heap.size)(hn:l.length<=100000)
  (HV:∀x∈l,∀cs W,pcD.Cs S W x cs->(∀g,S g->g<W.heap.size)->Calls Tryz.prog F #[.agg cs.toArray] W λe w'=>e=.returned (.bool (pr x))/\Below W.heap.size W w') :
  Calls Tryz.prog 76 #[.slice A m d,.func (.func F) #[] #[]] w λe w'=>∃r:Int,e=.returned (.int .i64 r)/\decide (0<=r)=l.any pr/\Below w.heap.size w w':=by
 subst hm
 obtain⟨n,hn'⟩:∃n,l.length=n:=⟨_,rfl⟩
 rw[hn']at hn ⊢
 have HN:=hidE hn'
 have HL:=hidE hl
 have HS:=hidE hS
 have HVV:=hidE HV
 clear hl hS HV hn'
 go_enter Tryz.func76,Tryz.ntmps76
 go_wp2_with fail
 go_loopg [8] n (λgg vi wr=>∃i:Nat,gg=n-i/\vi=.int .i64 (i:Nat)/\i<=n/\Hid (Below w.heap.size w wr)/\Hid ((l.take i).any pr=false))
 case atStart=>exact⟨0,rfl,rfl,by omega,hidE (Below.refl _ _),hidE (by simp)⟩
 case round =>
  obtain⟨i,hgg,rfl,hi,hB,hA⟩:=hrel
  have hsr:=hB.out.size
  by_cases hlt:i<n
  ·obtain⟨x,hx⟩:∃x,l[i]? = some x:=⟨_,List.getElem?_eq_getElem (by rw[HN.out];exact hlt)⟩
   obtain⟨g,cs,rfl,hSg,hcs,hrow⟩:=HL.out.row i x hx
   have hkS:∀k,S k->wr.heap[k]? = w.heap[k]?:=λk hk=>hB.out.block k (HS.out k hk)
   have HROW:Hid (wr.rangeAt g (i*17) cs):=hidE (Lie.keep (w:=w) hrow (hkS g hSg))
   have hgl:g<wr.heap.size:=by have:=HS.out g hSg;omega
   have HCALL:=hidE (HVV.out x (List.mem_iff_getElem?.2 ⟨i,hx⟩) cs wr (pcD.keep (λ_ h=>h) hkS hcs) (λk hk=>by have:=HS.out k hk;omega))
   have hlen:=pcD.len hcs
   have HLEN:Hid ((Tryz.prog.info? 59).map (·.size)=some cs.length):=hidE (by rw[hlen];kernel_rfl)
   have HA2:=hidE (any_snoc pr l i x hx)
   obtain⟨q,hq⟩:∃q,pr x=q:=⟨_,rfl⟩
   rw[hq]at HCALL HA2
   have HMEM:=hidE (List.mem_iff_getElem?.2 ⟨i,hx⟩)
   have HQ:=hidE hq
   clear hx hSg hcs hrow hkS hlen hq
   go_wp2_with ((with_reducible refine wpList_load_mid ?_ 59 (.tmp 14) ?_ g (i*17) ?_ cs _ HROW.out Tryz.underlying59 ?_ HLEN.out ?_);(exact rfl);(exact rfl);(exact rfl);(exact rfl))
   refine HCALL.out.mono ?_
   rintro e w2 ⟨rfl,b2⟩
   have B2:=hidE (hB.out.trans (b2.mono (by omega)))
   clear b2 HCALL
   cases q with
   | true =>
    have HANY:Hid (l.any pr=true):=hidE (List.any_eq_true.2 ⟨x,HMEM.out,HQ.out⟩)
    go_wp2_with fail
    go_ret
    refine⟨(i:Int),rfl,?_,B2.out⟩
    rw[HANY.out]
    simp
   | false =>
    have HA3:Hid ((l.take (i+1)).any pr=false):=hidE (by rw[HA2.out,hA.out];rfl)
    go_wp2_with fail
    go_roundg (n-(i+1))
    case measure=>omega
    case rel=>exact⟨i+1,rfl,by go_num,by omega,B2,HA3⟩
  ·obtain rfl:i=n:=by omega
   have HANY:Hid (l.any pr=false):=hidE (by
    have:=hA.out
    rwa [List.take_of_length_le (by rw[HN.out];exact Nat.le_refl _)]at this)
   clear hlt
   go_wp2_with fail
   go_ret
   exact⟨-1,rfl,by rw[HANY.out];decide,hB.out⟩
set_option maxHeartbeats 800000 in
theorem sx_containsC(l:List (Nm × Ty))(S:Nat->Prop)(F:Nat)(pr:(Nm × Ty)->Bool)(A:Option Addr)(m d:Nat)(w:World)(ek:∀args w,(callFunc F args).run Tryz.prog w=.ok (.enter F args) w)(hl:LstG pcC S w l A)(hm:m=l.length)(hS:∀g,S g->g<w.heap.size)(hn:l.length<=100000)
  (HV:∀x∈l,∀cs W,pcC.Cs S W x cs->(∀g,S g->g<W.heap.size)->Calls Tryz.prog F #[.agg cs.toArray] W λe w'=>e=.returned (.bool (pr x))/\Below W.heap.size W w') :
  Calls Tryz.prog 78 #[.slice A m d,.func (.func F) #[] #[]] w λe w'=>e=.returned (.bool (l.any pr))/\Below w.heap.size w w':=by
 have HI:=hidE (sx_indexC l S F pr A m d w ek hl hm hS hn HV)
 obtain⟨q,hq⟩:∃q,l.any pr=q:=⟨_,rfl⟩
 rw[hq]at HI ⊢
 clear hl hm hS hn HV hq ek
 go_enter Tryz.func78,Tryz.ntmps78
 go_wp2_with fail
 refine HI.out.mono ?_
 rintro e w2 ⟨r,rfl,hr,b2⟩
 have B2:=hidE b2
 clear b2 HI
 cases q with
 | true =>
  have h0:(0:Int)<=r:=of_decide_eq_true hr
  clear hr
  go_wp2_with fail
  go_ret
  exact⟨by first|rfl|simp[h0],B2.out⟩
 | false =>
  have h0:¬(0:Int)<=r:=of_decide_eq_false hr
  clear hr
  go_wp2_with fail
  go_ret
  exact⟨by first|rfl|simp[h0],B2.out⟩
set_option maxHeartbeats 800000 in
theorem sx_containsD(l:List De)(S:Nat->Prop)(F:Nat)(pr:De->Bool)(A:Option Addr)(m d:Nat)(w:World)(ek:∀args w,(callFunc F args).run Tryz.prog w=.ok (.enter F args) w)(hl:LstG pcD S w l A)(hm:m=l.length)(hS:∀g,S g->g<w.heap.size)(hn:l.length<=100000)
  (HV:∀x∈l,∀cs W,pcD.Cs S W x cs->(∀g,S g->g<W.heap.size)->Calls Tryz.prog F #[.agg cs.toArray] W λe w'=>e=.returned (.bool (pr x))/\Below W.heap.size W w') :
  Calls Tryz.prog 30 #[.slice A m d,.func (.func F) #[] #[]] w λe w'=>e=.returned (.bool (l.any pr))/\Below w.heap.size w w':=by
 have HI:=hidE (sx_indexD l S F pr A m d w ek hl hm hS hn HV)
 obtain⟨q,hq⟩:∃q,l.any pr=q:=⟨_,rfl⟩
 rw[hq]at HI ⊢
 clear hl hm hS hn HV hq ek
 go_enter Tryz.func30,Tryz.ntmps30
 go_wp2_with fail
 refine HI.out.mono ?_
 rintro e w2 ⟨r,rfl,hr,b2⟩
 have B2:=hidE b2
 clear b2 HI
 cases q with
 | true =>
  have h0:(0:Int)<=r:=of_decide_eq_true hr
  clear hr
  go_wp2_with fail
  go_ret
  exact⟨by first|rfl|simp[h0],B2.out⟩
 | false =>
  have h0:¬(0:Int)<=r:=of_decide_eq_false hr
  clear hr
  go_wp2_with fail
  go_ret
  exact⟨by first|rfl|simp[h0],B2.out⟩
end Go.Proofs.YtknkclefoiohpaaGreatDoor

namespace Go.Proofs.YtknkclefoiohpaaGreatDoor
open Go.RowKit Lx Tx Sx Go.Shelf
set_option maxRecDepth 100000
set_option maxHeartbeats 800000 in
theorem sx_conDeep(c:Nm × Ty)(S:Nat->Prop)(cs:List Value)(w:World)(hc:pcC.Cs S w c cs)(hS:∀g,S g->g<w.heap.size)(hsz:c.2.size<=1000000) :
  Calls Tryz.prog 79 #[.agg cs.toArray] w λe w'=>e=.returned (.bool (decide (50<c.2.depth)))/\Below w.heap.size w w':=by
 obtain⟨A,a,rfl,hA⟩:=hc
 obtain⟨X0,hX0⟩:∃X:ByteArray,⟨c.1.toArray⟩=X:=⟨_,rfl⟩
 have hTT:=λ(W:World) (hW:Below w.heap.size w W)=>sx_typeDeep (some c.2) S (kd c.2:Nat) (nmB c.2) (nn c.2:Nat) A (kids c.2).length a W (by simpa[tyW] using hsz) (show RdV S W c.2 _ from⟨A,a,rfl,Args.keep (λ_ h=>h) (λg hg=>hW.block g (hS g hg)) _ _ hA⟩) (λg hg=>by have:=hS g hg;have:=hW.size;omega)
 unfold tyV Sx.strV
 rw[hX0]
 obtain⟨K,hK⟩:∃y:Int,(kd c.2:Nat)=y:=⟨_,rfl⟩
 obtain⟨X,hX⟩:∃y,nmB c.2=y:=⟨_,rfl⟩
 obtain⟨Z,hZ⟩:∃y:Int,(nn c.2:Nat)=y:=⟨_,rfl⟩
 obtain⟨m,hm⟩:∃y,(kids c.2).length=y:=⟨_,rfl⟩
 obtain⟨q,hq⟩:∃q,deepO (some c.2)=q:=⟨_,rfl⟩
 rw[hK,hX,hZ,hm,hq]at hTT
 rw[hK,hX,hZ,hm,show decide (50<c.2.depth)=q from hq]
 have hTT:=hTT (w.alloc (.cells #[.string X0,.int .i64 K,.string X,.int .i64 Z,.slice A m a] 61)) ((Below.refl _ w).alloc (Nat.le_refl _) _)
 have HT:=hidE hTT
 clear hTT hK hX hZ hm hq hA hS hsz hX0
 go_enter Tryz.func79,Tryz.ntmps79
 go_wp2_with fail
 refine HT.out.mono ?_
 rintro e w2 ⟨rfl,b2⟩
 have B2:=hidE (((Below.refl w.heap.size w).alloc (Nat.le_refl _) (.cells #[.string X0,.int .i64 K,.string X,.int .i64 Z,.slice A m a] 61)).trans (b2.mono (by simp)))
 clear b2 HT
 go_wp2_with fail
 go_ret
 exact⟨rfl,B2.out⟩
set_option maxHeartbeats 3200000 in
theorem sx_declDeepG(k0:Int)(s:ByteArray)(V:Option Addr)(vm vq:Nat)(G:Option Addr)(gm gq:Nat)(K0:Int)(X0:ByteArray)(Z0:Int)(B0:Option Addr)(m0 q0:Nat)(k:Int)(x:ByteArray)(t:Bool)(K:Int)(X:ByteArray)(Z:Int)(B:Option Addr)(m q:Nat)(KA:Option Addr)(kn kc:Nat)(LA:Option Addr)(ln lc:Nat)(q1 q2 q3:Bool)(w:World)
  (HT:∀W,Below w.heap.size w W->Calls Tryz.prog 77 #[.agg #[.int .i64 K0,.string X0,.int .i64 Z0,.slice B0 m0 q0]] W λe w'=>e=.returned (.bool q1)/\Below W.heap.size W w')
  (HE:∀W,Below w.heap.size w W->Calls Tryz.prog 43 #[.agg #[.int .i64 k,.string x,.bool t,.int .i64 K,.string X,.int .i64 Z,.slice B m q,.slice KA kn kc,.slice LA ln lc]] W λe w'=>e=.returned (.bool q2)/\Below W.heap.size W w')
  (HC:∀W,Below w.heap.size w W->Calls Tryz.prog 78 #[.slice G gm gq,.func (.func 79) #[] #[]] W λe w'=>e=.returned (.bool q3)/\Below W.heap.size W w') :
  Calls Tryz.prog 31 #[.agg #[.int .i64 k0,.string s,.slice V vm vq,.slice G gm gq,.int .i64 K0,.string X0,.int .i64 Z0,.slice B0 m0 q0,.int .i64 k,.string x,.bool t,.int .i64 K,.string X,.int .i64 Z,.slice B m q,.slice KA kn kc,.slice LA ln lc]] w λe w'=>e=.returned (.bool (q1 ||(q2||q3)))/\Below w.heap.size w w':=by
 obtain⟨W0,hW0⟩:∃W,w.alloc (.cells #[.int .i64 k0,.string s,.slice V vm vq,.slice G gm gq,.int .i64 K0,.string X0,.int .i64 Z0,.slice B0 m0 q0,.int .i64 k,.string x,.bool t,.int .i64 K,.string X,.int .i64 Z,.slice B m q,.slice KA kn kc,.slice LA ln lc] 59)=W:=⟨_,rfl⟩
 have hb0:Below w.heap.size w W0:=hW0▸(Below.refl _ w).alloc (Nat.le_refl _) _
 have hbx:Blk W0 w.heap.size 59 #[.int .i64 k0,.string s,.slice V vm vq,.slice G gm gq,.int .i64 K0,.string X0,.int .i64 Z0,.slice B0 m0 q0,.int .i64 k,.string x,.bool t,.int .i64 K,.string X,.int .i64 Z,.slice B m q,.slice KA kn kc,.slice LA ln lc]:=hW0▸heap_alloc_new _ _
 have HBX:=hidE hbx
 have HB0:=hidE hb0
 have H1:=hidE (HT W0 hb0)
 have HHE:=hidE HE
 have HHC:=hidE HC
 obtain⟨⟨g0,g1,g2,g3,g4,g5,g6,g7,g8,g9,g10,g11,g12,g13,g14,g15,g16⟩,-,hlg⟩:=blk_facts17 hbx
 subst hW0
 clear hb0 hbx HT HE HC g0 g1 g2 g3 g4 g5 g6 g7 g8 g9 g10 g11 g12 g13 g14 g15 g16 hlg
 go_enter Tryz.func31,Tryz.ntmps31
 go_wp2_with fail
 refine H1.out.mono ?_
 rintro e w1 ⟨rfl,b1⟩
 have HB1:=hidE (HB0.out.trans (b1.mono HB0.out.size))
 have HBX:=hidE (HBX.out.below b1 HBX.out.lt)
 clear b1 H1
 cases q1 with
 | true =>
  go_wp2_with fail
  go_ret
  exact⟨rfl,HB1.out⟩
 | false =>
  obtain⟨⟨g0,g1,g2,g3,g4,g5,g6,g7,g8,g9,g10,g11,g12,g13,g14,g15,g16⟩,-,hlg⟩:=blk_facts17 HBX.out
  have H2:=hidE (HHE.out w1 HB1.out)
  go_wp2_with fail
  refine H2.out.mono ?_
  rintro e w2 ⟨rfl,b2⟩
  have HB2:=hidE (HB1.out.trans (b2.mono HB1.out.size))
  have HBX:=hidE (HBX.out.below b2 HBX.out.lt)
  clear b2 H2 g0 g1 g2 g3 g4 g5 g6 g7 g8 g9 g10 g11 g12 g13 g14 g15 g16 hlg
  cases q2 with
  | true =>
   go_wp2_with fail
   go_ret
   exact⟨rfl,HB2.out⟩
  | false =>
   obtain⟨⟨g0,g1,g2,g3,g4,g5,g6,g7,g8,g9,g10,g11,g12,g13,g14,g15,g16⟩,-,hlg⟩:=blk_facts17 HBX.out
   have H3:=hidE (HHC.out w2 HB2.out)
   go_wp2_with fail
   refine H3.out.mono ?_
   rintro e w3 ⟨rfl,b3⟩
   have HB3:=hidE (HB2.out.trans (b3.mono HB2.out.size))
   clear b3 H3
   go_wp2_with fail
   go_ret
   exact⟨rfl,HB3.out⟩
theorem consW_mem(l:List (Nm × Ty))(c:Nm × Ty)(h:c∈l):c.2.size<=consW l:=by
 induction l with
 | nil=>cases h
 | cons a r ih =>
  rcases List.mem_cons.1 h with rfl|h
  ·simp only[consW,conW];omega
  ·have:=ih h;simp only[consW];omega
theorem consW_len(l:List (Nm × Ty)):l.length<=consW l:=by
 induction l with
 | nil=>simp[consW]
 | cons a r ih=>simp only[consW,conW,List.length_cons];omega
theorem sx_declDeep(d:De)(S:Nat->Prop)(cs:List Value)(w:World)(hc:pcD.Cs S w d cs)(hS:∀g,S g->g<w.heap.size)(hw:d.wt<=4000) :
  Calls Tryz.prog 31 #[.agg cs.toArray] w λe w'=>e=.returned (.bool d.tooDeep)/\Below w.heap.size w w':=by
 have ek:∀args w,(callFunc 79 args).run Tryz.prog w=.ok (.enter 79 args) w:=enters_of Tryz.func79 (by kernel_rfl) rfl
 have hSS:∀W,Below w.heap.size w W->∀g,S g->g<W.heap.size:=λW hW g hg=>by have:=hS g hg;have:=hW.size;omega
 have hT0:∀W:World,Calls Tryz.prog 77 #[.agg #[.int .i64 0,.string ⟨#[]⟩,.int .i64 0,.slice none 0 0]] W λe w'=>e=.returned (.bool false)/\Below W.heap.size W w':=λW =>
  sx_typeDeep none (λ_=>False) 0 ⟨#[]⟩ 0 none 0 0 W (by simp[tyW]) rfl (λ_ h=>h.elim)
 have hC0:∀W:World,Calls Tryz.prog 78 #[.slice none 0 0,.func (.func 79) #[] #[]] W λe w'=>e=.returned (.bool false)/\Below W.heap.size W w':=λW =>
  sx_containsC [] (λ_=>False) 79 (λc=>decide (50<c.2.depth)) none 0 0 W ek (λh=>absurd rfl h) rfl (λ_ h=>h.elim) (by simp) (λx h=>by cases h)
 cases d with
 | data n ps l =>
  obtain⟨V,v,A,a,rfl,-,hl⟩:=hc
  have hwl:consW l<=4000:=by simp only[De.wt]at hw;omega
  have:=sx_declDeepG 1 ⟨n.toArray⟩ V ps.length v A l.length a 0 ⟨#[]⟩ 0 none 0 0 0 ⟨#[]⟩ false 0 ⟨#[]⟩ 0 none 0 0 none 0 0 none 0 0 false false (l.any λc=>decide (50<c.2.depth)) w (λW _=>hT0 W) (λW _=>sx_tooDeep0 W)
   (λW hW=>sx_containsC l S _ (λc=>decide (50<c.2.depth)) A l.length a W ek (hl.keep (λ_ h=>h) (λg hg=>hW.block g (hS g hg))) rfl (hSS W hW) (by have:=consW_len l;omega)
    (λx hx cs W2 hc hS2=>sx_conDeep x S cs W2 hc hS2 (by have:=consW_mem l x hx;omega)))
  exact this
 | sig x t =>
  obtain⟨A,a,rfl,hA⟩:=hc
  have:=sx_declDeepG 2 ⟨x.toArray⟩ none 0 0 none 0 0 (kd t:Nat) (nmB t) (nn t:Nat) A (kids t).length a 0 ⟨#[]⟩ false 0 ⟨#[]⟩ 0 none 0 0 none 0 0 none 0 0 (decide (50<t.depth)) false false w
   (λW hW=>sx_typeDeep (some t) S (kd t:Nat) (nmB t) (nn t:Nat) A (kids t).length a W (by simp only[De.wt]at hw;simp only[tyW];omega) (show RdV S W t _ from⟨A,a,rfl,Args.keep (λ_ h=>h) (λg hg=>hW.block g (hS g hg)) _ _ hA⟩) (hSS W hW)) (λW _=>sx_tooDeep0 W) (λW _=>hC0 W)
  rw[show(decide (50<t.depth) ||(false||false))=(De.sig x t).tooDeep by simp[De.tooDeep]]at this
  exact this
 | bind x e =>
  obtain⟨P,rfl,h2,h3⟩:=hc
  have hX:∀W,Below w.heap.size w W->RdX S W e (.agg (exC e P).toArray):=λW hW=>⟨P,rfl,h2.keep (λ_ h=>h) (λg hg=>hW.block g (hS g hg)),ExIn.keep (λ_ h=>h) (λg hg=>hW.block g (hS g hg)) e _ _ h3⟩
  obtain⟨K,X,Z,B,m,q,hs⟩:=tyC_shape (tyE e) P.A P.a
  have hL:exC e P=[.int .i64 (kdE e:Nat),.string ⟨(nmE e).toArray⟩,.bool (toE e),.int .i64 K,.string X,.int .i64 Z,.slice B m q,.slice P.K (kidsE e).length ((kidsE e).length+P.k),.slice P.L (altsE e).length P.l]:=by rw[exC,hs];rfl
  rw[hL]at hX ⊢
  have:=sx_declDeepG 3 ⟨x.toArray⟩ none 0 0 none 0 0 0 ⟨#[]⟩ 0 none 0 0 (kdE e:Nat) ⟨(nmE e).toArray⟩ (toE e) K X Z B m q P.K (kidsE e).length ((kidsE e).length+P.k) P.L (altsE e).length P.l false e.tooDeep false w (λW _=>hT0 W)
   (λW hW=>sx_tooDeep e S _ W (by have:=Sx.size_wt e;simp only[De.wt]at hw;omega) (by simp only[De.wt]at hw;omega) (hX W hW) (hSS W hW)) (λW _=>hC0 W)
  rw[show(false ||(e.tooDeep||false))=(De.bind x e).tooDeep by simp[De.tooDeep]]at this
  exact this
end Go.Proofs.YtknkclefoiohpaaGreatDoor

namespace Go.Proofs.YtknkclefoiohpaaGreatDoor
open Go.RowKit Lx Tx Sx Go.Shelf
set_option maxRecDepth 100000
def endP(o:Option (List De × List Tok)):Except Nat (List De):=match o with|some (e,[])=>.ok e|_=>.error 80
def parse0P(s:List UInt8):Except Nat (List De):=match scanS s with|(ts,_,0)=>endP (rdProg ts)|(_,_,e)=>.error e
def deepP(o:Except Nat (List De)):Except Nat (List De):=match o with|.ok l=>if l.any De.tooDeep=true then .error 3 else .ok l|.error n=>.error n
theorem parseP_eq(s:List UInt8):parseP s=deepP (parse0P s):=by
 unfold parseP parse0P deepP
 rcases scanS s with⟨ts,a,er⟩
 cases er with
 | zero =>
  simp only[endP]
  rcases rdProg ts with _|⟨e,r⟩
  ·rfl
  ·cases r <;> rfl
 | succ n=>rfl
theorem parse0P_err(s:List UInt8)(ts:List Tok)(a er:Nat)(h:scanS s=(ts,a,er))(he:er≠0):parse0P s=.error er:=by
 unfold parse0P
 rw[h]
 cases er with
 | zero=>exact absurd rfl he
 | succ n=>rfl
theorem parse0P_ok(s:List UInt8)(ts:List Tok)(a:Nat)(h:scanS s=(ts,a,0)):parse0P s=endP (rdProg ts):=by
 unfold parse0P
 rw[h]
 rfl
def WhP(s:List UInt8)(w:World)(e:Ending)(w':World):Prop :=
 Below w.heap.size w w' /\
  ((∃n,n≠0/\parse0P s=.error n/\e=.returned (.tuple #[.slice none 0 0,.int .i64 (n:Nat)])) \/
   (∃p L m d,(∀x∈p,De.Ok x)/\desW p<=4000/\parse0P s=.ok p/\e=.returned (.tuple #[.slice L m d,.int .i64 0])/\m=p.length/\LstG pcD (λg=>w.heap.size<=g/\g<w'.heap.size) w' p L))
set_option maxHeartbeats 6400000 in
theorem sx_WholeP(s:ByteArray)(gf:Nat)(w:World)(hs:s.size<=maxLen)(hc:w.cell? ⟨gf,0,none⟩=some (.func (.func 29) #[] #[])) :
  Calls Tryz.prog 27 #[.string s,.func (.func 73) #[] #[.pointer (some ⟨gf,0,none⟩)],.int .i64 80] w (WhP s.data.toList w):=by
 have ek:∀args w,(callFunc 73 args).run Tryz.prog w=.ok (.enter 73 args) w:=enters_of Tryz.func73 (by kernel_rfl) rfl
 have hgl:=lt_cell hc
 have HC:Hid (∀V,Below w.heap.size w V->V.cell? ⟨gf,0,none⟩=some (.func (.func 29) #[] #[])):=hidE λV hV =>
  (World.cell?_of_block (w:=w) (a:=⟨gf,0,none⟩) (hV.block gf hgl)).trans hc
 clear hc
 go_enter Tryz.func27,Tryz.ntmps27
 go_wp2_with fail
 refine(scan_any s _ hs).mono ?_
 rintro e w1 ⟨b1,v,ts,a,er,hsc,rfl,hown⟩
 have hs1:=b1.size
 have HSC:=hidE hsc
 have HTK:=hidE (toks_of_own rfl hown)
 have hcf:=HC.out w1 b1
 have B1:=hidE b1
 by_cases he:er=0
 ·subst he
  obtain⟨hG,hL⟩:=scan_good _ _ _ HSC.out
  have HR:=hidE (sx_aheadP _ gf ts v w1 HTK.out (λ_ h=>h) hG (by omega) hcf)
  obtain⟨O,hO⟩:∃O,rdProg ts=O:=⟨_,rfl⟩
  rw[hO]at HR
  have HP:Hid (parse0P s.data.toList=endP O):=hidE (by rw[parse0P_ok _ _ _ HSC.out,hO])
  have HSZ:Hid (∀x r,O=some (x,r)->(∀d∈x,De.Ok d)/\desW x<=4000):=hidE λx r h=>by
   obtain⟨o1,-,o3⟩:=rdProg_facts hG (hO.trans h)
   exact⟨o1,by omega⟩
  clear hO hG b1 hsc hown hcf
  go_wp2_with fail
  refine HR.out.mono ?_
  rintro e w2 ⟨b2,L,m,d,A2,n,c2,q,rfl,hno,hyes⟩
  have hs2:=b2.size
  have BW:=hidE (B1.out.trans (b2.mono (by omega)))
  have HNO:=hidE hno
  have HYES:=hidE hyes
  clear b2 hno hyes HR
  cases q with
  | false =>
   have HP2:Hid (parse0P s.data.toList=.error 80):=hidE (by rw[HP.out,HNO.out rfl];rfl)
   clear HNO HYES
   go_wp2_with fail
   go_ret2
   exact⟨BW.out,.inl ⟨80,by decide,HP2.out,rfl⟩⟩
  | true =>
   obtain⟨x,r,ho,hn,hm,hx⟩:=HYES.out rfl
   replace hn:=hn.symm
   obtain⟨hok,hwt⟩:=HSZ.out x r ho
   have HX:=hidE hx
   have HOK:=hidE hok
   have HM:=hidE hm
   clear HNO HYES hx hok hm
   by_cases hn0:n=0
   ·subst hn0
    obtain rfl:r=[]:=List.length_eq_zero_iff.1 hn
    have HP2:Hid (parse0P s.data.toList=.ok x):=hidE (by rw[HP.out,ho];rfl)
    clear hn ho
    go_wp2_with fail
    go_ret2
    exact⟨BW.out,.inr ⟨x,L,m,d,HOK.out,hwt,HP2.out,rfl,HM.out,HX.out.keep (λg hg=>⟨by omega,hg.2⟩) (λ_ _=>rfl)⟩⟩
   ·have HP2:Hid (parse0P s.data.toList=.error 80):=hidE (by
     rw[HP.out,ho]
     cases r with
     | nil=>exact absurd hn.symm hn0
     | cons a r=>rfl)
    have hnpos:0<n:=by omega
    clear hn ho hn0
    go_wp2_with fail
    go_ret2
    exact⟨BW.out,.inl ⟨80,by decide,HP2.out,rfl⟩⟩
 ·have HP:=hidE (parse0P_err _ _ _ _ HSC.out he)
  have dn:((er:Int) != 0)=true:=neqT _ _ (by omega)
  have HE:=hidE he
  clear he b1 hsc hown hcf
  go_wp2_with fail
  go_ret2
  exact⟨B1.out,.inl ⟨er,HE.out,HP.out,rfl⟩⟩
set_option maxHeartbeats 800000 in
theorem sx_mkP(w:World):Calls Tryz.prog 28 #[.func (.func 29) #[] #[]] w λe w' =>
  e=.returned (.func (.func 73) #[] #[.pointer (some ⟨w.heap.size,0,none⟩)])/\w'=w.alloc (.cells #[.func (.func 29) #[] #[]] 71):=by
 have mk:∀(W:World) (p:Addr),(Instr.makeFunc (.func 73) #[] #[.pointer (some p)]).run Tryz.prog W=.ok (.func (.func 73) #[] #[.pointer (some p)]) W:=λ_ _=>rfl
 go_enter Tryz.func28,Tryz.ntmps28
 go_wp2_with fail
 go_ret
 exact⟨rfl,rfl⟩
def QPost(s:List UInt8)(w:World)(e:Ending)(w':World):Prop :=
 Below w.heap.size w w' /\
  ((∃n,n≠0/\parseP s=.error n/\e=.returned (.tuple #[.slice none 0 0,.int .i64 (n:Nat)])) \/
   (∃p L m d,(∀x∈p,De.Ok x)/\desW p<=4000/\parseP s=.ok p/\e=.returned (.tuple #[.slice L m d,.int .i64 0])/\m=p.length/\LstG pcD (λg=>w.heap.size<=g/\g<w'.heap.size) w' p L))
theorem desW_mem(l:List De)(d:De)(h:d∈l):d.wt<=desW l:=by
 induction l with
 | nil=>cases h
 | cons a r ih =>
  rcases List.mem_cons.1 h with rfl|h
  ·simp only[desW];omega
  ·have:=ih h;simp only[desW];omega
theorem desW_len(l:List De):l.length<=desW l:=by
 induction l with
 | nil=>simp[desW]
 | cons a r ih=>cases a <;> simp only[desW,De.wt,List.length_cons] <;> omega
set_option maxHeartbeats 3200000 in
theorem sx_parse(s:ByteArray)(w:World)(hs:s.size<=maxLen):Calls Tryz.prog 8 #[.string s] w (QPost s.data.toList w):=by
 have ek:∀args w,(callFunc 31 args).run Tryz.prog w=.ok (.enter 31 args) w:=enters_of Tryz.func31 (by kernel_rfl) rfl
 obtain⟨W0,hW0⟩:∃W,w.alloc (.cells #[.func (.func 29) #[] #[]] 71)=W:=⟨_,rfl⟩
 have hs0:W0.heap.size=w.heap.size+1:=by rw[<-hW0];simp
 have hf0:Blk W0 w.heap.size 71 #[.func (.func 29) #[] #[]]:=hW0▸heap_alloc_new _ _
 have hb0:Below w.heap.size w W0:=hW0▸(Below.refl _ w).alloc (Nat.le_refl _) _
 have HWH:=hidE (sx_WholeP s w.heap.size W0 hs (hf0.cell 0))
 have B0:=hidE hb0
 clear hf0 hb0
 go_enter Tryz.func8,Tryz.ntmps8
 go_wp2_with fail
 refine(sx_mkP _).mono ?_
 rintro e w0 ⟨rfl,rfl⟩
 try rw[hW0]
 go_wp2_with fail
 try rw[hW0]
 refine HWH.out.mono ?_
 rintro e w1 ⟨b1,hcases⟩
 have hs1:=b1.size
 have B1:=hidE (B0.out.trans (b1.mono (by omega)))
 clear HWH b1
 try clear hW0
 rcases hcases with⟨n,hn,hp,rfl⟩|⟨p,L,m,d,hok,hwt,hp,rfl,hm,hx⟩
 ·have HP:Hid (n≠0/\parseP s.data.toList=.error n):=hidE ⟨hn,by rw[parseP_eq,hp];rfl⟩
  have HD:=hidE (sx_containsD [] (λ_=>False) 31 De.tooDeep none 0 0 w1 ek (λh=>absurd rfl h) rfl (λ_ h=>h.elim) (by simp) (λx h=>by cases h))
  clear hn hp ek
  go_wp2_with fail
  refine HD.out.mono ?_
  rintro e w2 ⟨rfl,b2⟩
  have B2:=hidE (B1.out.trans (b2.mono (by omega)))
  clear b2 HD
  rw[show([]:List De).any De.tooDeep=false from rfl]
  go_wp2_with fail
  go_ret2
  exact⟨B2.out,.inl ⟨n,HP.out.1,HP.out.2,rfl⟩⟩
 ·have HD:=hidE (sx_containsD p _ 31 De.tooDeep L m d w1 ek hx hm (λg hg=>by have:=hg.2;omega) (by have:=desW_len p;omega) (λx h cs W hc hS=>sx_declDeep x _ cs W hc hS (by have:=desW_mem p x h;omega)))
  have HP:Hid (parseP s.data.toList=if p.any De.tooDeep=true then .error 3 else .ok p):=hidE (by rw[parseP_eq,hp];rfl)
  obtain⟨q,hq⟩:∃q,p.any De.tooDeep=q:=⟨_,rfl⟩
  rw[hq]at HD HP
  have HX:=hidE hx
  have HOK:=hidE hok
  have HM:=hidE hm
  clear hp hx hq hok hm ek
  go_wp2_with fail
  refine HD.out.mono ?_
  rintro e w2 ⟨rfl,b2⟩
  have hs2:=b2.size
  have B2:=hidE (B1.out.trans (b2.mono (by omega)))
  have HX2:=hidE (HX.out.keep (S':=λg=>W0.heap.size<=g/\g<w2.heap.size) (λg hg=>⟨hg.1,by omega⟩) (λg hg=>b2.block g hg.2))
  clear b2 HD
  cases q with
  | true =>
   go_wp2_with fail
   go_ret2
   exact⟨B2.out,.inl ⟨3,by decide,by rw[HP.out];simp,rfl⟩⟩
  | false =>
   go_wp2_with fail
   go_ret2
   exact⟨B2.out,.inr ⟨p,L,m,d,HOK.out,hwt,by rw[HP.out];simp,rfl,HM.out,HX2.out.keep (λg hg=>⟨by omega,hg.2⟩) (λ_ _=>rfl)⟩⟩
end Go.Proofs.YtknkclefoiohpaaGreatDoor

namespace Go.Proofs.YtknkclefoiohpaaGreatDoor
open Go.RowKit Lx Tx Sx Go.Shelf
set_option maxRecDepth 100000
section
variable {σ:Type}
end
end Go.Proofs.YtknkclefoiohpaaGreatDoor

namespace Go.Proofs.YtknkclefoiohpaaGreatDoor
open Go.RowKit Lx Tx Sx Go.Shelf
set_option maxRecDepth 100000
end Go.Proofs.YtknkclefoiohpaaGreatDoor

namespace Go.Proofs.YtknkclefoiohpaaGreatDoor
open Go.RowKit Lx Tx Sx Go.Shelf
set_option maxRecDepth 100000
end Go.Proofs.YtknkclefoiohpaaGreatDoor

namespace Go.Proofs.YtknkclefoiohpaaGreatDoor
open Go.RowKit Lx Tx Sx Go.Shelf
set_option maxRecDepth 100000
end Go.Proofs.YtknkclefoiohpaaGreatDoor

namespace Go.Proofs.YtknkclefoiohpaaGreatDoor
open Go.RowKit Lx Tx Sx Go.Shelf
end Go.Proofs.YtknkclefoiohpaaGreatDoor

namespace Go.Proofs.YtknkclefoiohpaaGreatDoor
open Go.RowKit Lx Tx Sx Go.Maps Go.WideMaps Go.Shelf
set_option maxRecDepth 100000
end Go.Proofs.YtknkclefoiohpaaGreatDoor

namespace Go.Proofs.YtknkclefoiohpaaGreatDoor
open Go.RowKit Lx Tx Sx Go.Maps Go.WideMaps Go.Shelf
set_option maxRecDepth 100000
end Go.Proofs.YtknkclefoiohpaaGreatDoor

namespace Go.Proofs.YtknkclefoiohpaaGreatDoor
open Go.RowKit Lx Tx Sx Go.Maps Go.WideMaps Go.Shelf
set_option maxRecDepth 100000
section
variable {τ:Type} {b:Nat} {fv:Value} {J:Nat->τ->(Nat->Prop)->World->Prop} {c:Nat} {s:τ} {L:List Nm} {M MJ:Nat->Prop} {w:World}
end
end Go.Proofs.YtknkclefoiohpaaGreatDoor

namespace Go.Proofs.YtknkclefoiohpaaGreatDoor
open Go.RowKit Lx Tx Sx Go.Maps Go.WideMaps Go.Shelf
set_option maxRecDepth 100000
end Go.Proofs.YtknkclefoiohpaaGreatDoor

namespace Go.Proofs.YtknkclefoiohpaaGreatDoor
open Go.RowKit Lx Tx Sx Go.Maps Go.WideMaps Go.Shelf
set_option maxRecDepth 100000
end Go.Proofs.YtknkclefoiohpaaGreatDoor

namespace Go.Proofs.YtknkclefoiohpaaGreatDoor
open Go.RowKit Lx Tx Sx Go.Maps Go.WideMaps Go.Shelf
set_option maxRecDepth 100000
end Go.Proofs.YtknkclefoiohpaaGreatDoor

namespace Go.Proofs.YtknkclefoiohpaaGreatDoor
open Go.RowKit Lx Tx Sx Go.Maps Go.WideMaps Go.Shelf
set_option maxRecDepth 100000
end Go.Proofs.YtknkclefoiohpaaGreatDoor

namespace Go.Proofs.YtknkclefoiohpaaGreatDoor
open Go.RowKit Lx Tx Sx Go.Maps Go.WideMaps Go.Shelf
set_option maxRecDepth 100000
theorem own_nms {w:World} {B n cp:Nat} {A:Option Addr} {L:List Nm}(hn:n=L.length)(h:w.ownsRow B 9 1 (.slice A n cp) n (L.map Sx.strV)):NmsIn (λg=>B<=g/\g<w.heap.size) w L A:=λhl=>by
 have hp:0<n:=by rw[hn];exact List.length_pos_iff.2 hl
 obtain⟨g,cap,hv,hb,hg⟩:=h.form hp
 injection hv with hv _ _
 refine⟨g,hv,⟨hb,hg⟩,λj v hj=>?_⟩
 have hjn:j<n:=by
  rw[hn]
  have:=(List.getElem?_eq_some_iff.1 hj).1
  simpa using this
 obtain⟨g',hg',-,-,hc⟩:=own_cell h hjn hj
 rw[hv]at hg'
 injection hg' with hg'
 injection hg' with hg'
 rw[Nat.zero_add,hg']
 exact hc w rfl
end Go.Proofs.YtknkclefoiohpaaGreatDoor

namespace Go.Proofs.YtknkclefoiohpaaGreatDoor
open Go.RowKit Lx Tx Sx
set_option maxRecDepth 100000
def TP8(ts:List Tok)(w:World)(o:Option (Ty × List Tok))(e:Ending)(w':World):Prop :=
 Below w.heap.size w w'/\∃(K:Int) (X:ByteArray) (Z:Int) (A:Option Addr) (m c:Nat) (z:Int),e=.returned (.tuple #[.agg #[.int .i64 K,.string X,.int .i64 Z,.slice A m c],.int .i64 z])/\PAt ts (o.map (·.2)) z /\
  ∀t r,o=some (t,r)->RdV (λg=>w.heap.size<=g/\g<w'.heap.size) w' t (.agg #[.int .i64 K,.string X,.int .i64 Z,.slice A m c])
set_option maxHeartbeats 800000 in
theorem r8_typ(v:Value)(ts:List Tok)(p:Option (List Tok))(z:Int)(w:World)(h:RdT w v ts)(hG:AllG ts)(hn:ts.length<=100000)(hp:PAt ts p z) :
  Calls Tryz.prog 84 #[v,.int .i64 z] w (TP8 ts w (p.bind typ)):=by
 rcases hp with⟨rfl,rfl⟩|⟨i,hi,rfl,rfl⟩
 ·go_enter Tryz.func84,Tryz.ntmps84
  go_wp2_with fail
  try simp only[Exit.inBlock,Exit.then]
  refine bodyPost_ret (results_ct rfl _ _ w.heap.size 44 _ (0,0) _ rfl (heap_alloc_new _ _) Tryz.underlying44 rfl (by kernel_rfl)) rfl ?_
  exact⟨(Below.refl _ _).alloc (Nat.le_refl _) _,0,⟨#[]⟩,0,none,0,0,-1,rfl,PAt.none_ ts,λt r h=>by cases h⟩
 ·have HR:=hidE ((ref2_all ts v hG hn (enough (ts.drop i)) (enough (ts.drop i)) (Nat.le_refl _)).1 (w.alloc (.cells tyZ 44)) i (h.alloc _) hi (by unfold enough;rw[List.length_drop];omega))
  have d0:decide ((i:Int)<0)=false:=decide_eq_false (by omega)
  rw[Option.bind_some,typ]
  obtain⟨O,hO⟩:∃O,read (enough (ts.drop i)) (ts.drop i)=O:=⟨_,rfl⟩
  rw[hO]at HR ⊢
  unfold tyZ at HR
  clear hO h hG
  go_enter Tryz.func84,Tryz.ntmps84
  go_wp2_with fail
  refine HR.out.mono ?_
  rintro e w1 ⟨b1,K1,X1,Z1,A1,m1,c1,hcases⟩
  have hblk:Blk w1 w.heap.size 44 #[.int .i64 0,.string ⟨#[]⟩,.int .i64 0,.slice none 0 0]:=Blk.below (heap_alloc_new _ _) b1 (by simp)
  obtain⟨a0,a1,a2,a3,r0,r1,r2,r3,hlw⟩:=blk_facts4 hblk
  have hs1:=b1.size
  simp at hs1
  have HBLK:=hidE hblk
  have B1:=hidE b1
  clear hblk b1
  rcases hcases with⟨ho,rfl⟩|⟨t,k,hk,hkn,ho,rfl,hr⟩
  ·subst ho
   go_wp2_with fail
   try simp only[Exit.inBlock,Exit.then]
   refine bodyPost_ret (results_ct rfl _ _ w.heap.size 44 _ (0,0) _ rfl (blk_set4 _ _ _ _ HBLK.out) Tryz.underlying44 rfl (by kernel_rfl)) rfl ?_
   exact⟨below_set4 (below_pre B1.out (Nat.le_refl _)) _ _ _ _ (Nat.le_refl _),K1,X1,Z1,A1,m1,c1,-1,rfl,PAt.none_ ts,λt r h=>by cases h⟩
  ·subst ho
   have HT:=hidE hr
   clear hr
   go_wp2_with fail
   try simp only[Exit.inBlock,Exit.then]
   refine bodyPost_ret (results_ct rfl _ _ w.heap.size 44 _ (0,0) _ rfl (blk_set4 _ _ _ _ HBLK.out) Tryz.underlying44 rfl (by kernel_rfl)) rfl ?_
   refine⟨below_set4 (below_pre B1.out (Nat.le_refl _)) _ _ _ _ (Nat.le_refl _),K1,X1,Z1,A1,m1,c1,(k:Nat),rfl,PAt.some_ ts k hkn,λt' r h=>?_⟩
   injection h with h
   injection h with h _
   subst h
   exact HT.out.keep (λg hg=>by simp at hg ⊢;omega) (λg hg=>heap_set4 _ _ _ _ _ _ _ (by simp at hg;omega))
def nsO(p:Option (List Tok)):List (List UInt8):=match p with
 | none=>[]
 | some r=>(vars r).1
def nsR(p:Option (List Tok)):Option (List Tok):=p.map λr=>(vars r).2
def HeadN8(ts:List Tok)(p:Option (List Tok))(w:World)(gg:Nat)(vo vi vq:Value)(wr:World):Prop :=
 ∃(r:Option (List Tok)) (z:Int) (q:Bool) (done:List (List UInt8)) (A:Option Addr) (c:Nat),gg=(r.elim 0 List.length)/\vo=.slice A done.length c/\vi=.int .i64 z/\vq=.bool q/\PAt ts r z/\isO 1 [] r=q /\
  Hid (nsO p=done++nsO r/\nsR p=nsR r)/\Hid (wr.ownsRow w.heap.size 9 1 (.slice A done.length c) done.length (strV done))/\Hid (Below w.heap.size w wr)/\gg+done.length<=ts.length
theorem nsO_no {p:Option (List Tok)}(h:isO 1 [] p=false):nsO p=[]/\nsR p=p:=by
 cases p with
 | none=>exact⟨rfl,rfl⟩
 | some r =>
  rw[isO_kind]at h
  have hk:¬(hd r).kind=1:=by simpa using h
  simp only[nsO,nsR,Option.map_some,vars_no r hk]
  exact⟨trivial,trivial⟩
theorem nsO_yes {r:List Tok}(h:isO 1 [] (some r)=true):nsO (some r)=(hd r).text::nsO (some r.tail)/\nsR (some r)=nsR (some r.tail):=by
 rw[isO_kind]at h
 have hk:(hd r).kind=1:=by simpa using h
 simp only[nsO,nsR,Option.map_some,vars_yes r hk]
 exact⟨trivial,trivial⟩
set_option maxHeartbeats 1600000 in
theorem r8_names(v:Value)(ts:List Tok)(p:Option (List Tok))(z:Int)(w:World)(h:RdT w v ts)(hn:ts.length<=100000)(hp:PAt ts p z) :
  Calls Tryz.prog 82 #[v,.int .i64 z] w λe w'=>Below w.heap.size w w'/\∃A c z',e=.returned (.tuple #[.slice A (nsO p).length c,.int .i64 z'])/\PAt ts (nsR p) z'/\(nsO p).length<=c/\NmsIn (λg=>w.heap.size<=g/\g<w'.heap.size) w' (nsO p) A:=by
 obtain⟨i0,hi0,hz0,hz1,hz2⟩:=info_parts str_info
 have hlo:=hp.lo
 have HV:=hidE h
 have HA:Hid (∀(W:World) (r:Option (List Tok)) (y:Int),Below w.heap.size w W->PAt ts r y->Calls Tryz.prog 34 #[v,.int .i64 y,.int .i64 1,.string ⟨#[]⟩] W λe w'=>e=.returned (.bool (isO 1 [] r))/\W=w') :=
  hidE λW r y hb hr=>r8_is v ts r y 1 ⟨#[]⟩ 1 rfl (by decide) W (h.below hb) hr
 have HP:=hidE hp
 have hlen:(p.elim 0 List.length)<=ts.length:=by
  cases p with
  | none=>exact Nat.zero_le _
  | some r=>exact hp.len r rfl
 obtain⟨q0,hq0⟩:∃q,isO 1 [] p=q:=⟨_,rfl⟩
 have HQ0:=hidE hq0
 obtain⟨A0,c0,rfl,-⟩:=h
 obtain⟨N0,hN0⟩:∃n,ts.length=n:=⟨_,rfl⟩
 have HN0:=hidE hN0
 rw[hN0]at hn hlen hlo HV HA ⊢
 clear hN0
 clear hp hq0
 go_enter Tryz.func82,Tryz.ntmps82
 go_wp2_with fail
 refine(HA.out _ p z (Below.refl _ _) HP.out).mono ?_
 rintro e w1 ⟨rfl,rfl⟩
 go_wp2_with fail
 go_loopg [1,6,7] (p.elim 0 List.length) (λgg vi vo vq wr=>HeadN8 ts p w gg vo vi vq wr)
 case atStart=>exact⟨p,z,isO 1 [] p,[],none,0,rfl,rfl,rfl,rfl,HP.out,rfl,hidE ⟨rfl,rfl⟩,hidE (World.ownsRow_nil _ _ _ _),hidE (Below.refl _ _),by rw[HN0.out];simpa using hlen⟩
 case round =>
  obtain⟨r,y,q,done,A,c,rfl,rfl,rfl,rfl,hr,hq,he,hown,hb,hle⟩:=hrel
  obtain⟨n,hn⟩:∃n,done.length=n:=⟨_,rfl⟩
  rw[hn]at hle hown ⊢
  have HNN:=hidE hn
  clear hn
  cases q with
  | false =>
   obtain⟨e1,e2⟩:=nsO_no hq
   have hO:nsO p=done:=by rw[he.out.1,e1,List.append_nil]
   have hR:nsR p=r:=by rw[he.out.2,e2]
   have HO:=hidE hO
   have HR:=hidE hR
   have HPR:=hidE hr
   clear hO hR he hq hr e1 e2
   go_wp2_with fail
   go_ret2
   refine⟨hb.out,A,c,y,by rw[HO.out,HNN.out];rfl,by rw[HR.out];exact HPR.out,by rw[HO.out,HNN.out];exact own_le hown.out,?_⟩
   rw[HO.out]
   exact own_nms HNN.out.symm hown.out
  | true =>
   rcases hr with⟨rfl,-⟩|⟨k,hk,rfl,rfl⟩
   ·cases hq
   ·have hlt:=isO_lt (by decide) hq
    rw[HN0.out]at hle
    simp only[Option.elim_some,List.length_drop,HN0.out]at hle
    have hlt0:k<N0:=by rw[<-HN0.out];exact hlt
    obtain⟨g,c',hvs,-,h1,-⟩:=(HV.out.below hb.out).at_ k hlt
    rw[HN0.out]at hvs
    injection hvs with q1 q2 q3
    subst q1 q3
    clear q2
    obtain⟨X,hX⟩:∃X:ByteArray,⟨ts[k].text.toArray⟩=X:=⟨_,rfl⟩
    obtain⟨e1,e2⟩:=nsO_yes hq
    simp only[hd_drop ts k hlt,tail_drop]at e1 e2
    have HE:Hid (nsO p=(done++[X.data.toList])++nsO (some (ts.drop (k+1)))/\nsR p=nsR (some (ts.drop (k+1)))):=hidE ⟨by rw[he.out.1,e1,<-hX];simp,by rw[he.out.2,e2]⟩
    rw[hX]at h1
    have k0:(0:Int)<=(k:Int):=by omega
    have k1:(k:Int)<(N0:Int):=by omega
    have hsz:=hb.out.size
    have HOW:=hidE (hown.out.alloc (.cells #[.string X] 9))
    have hgl:=lt_cell h1
    clear he e1 e2 hX hq hk hlt HP HQ0
    go_wp2_with (at_builtin;refine wpList_append_own_at _ rfl (.tmp 12) (.tmp 18) 56 rfl w.heap.size 9 i0 _ 1 16 Tryz.underlying56 hi0 hz0 hz1 hz2 rfl (by decide) _ n (strV done) rfl HOW.out ⟨wr.heap.size,0,none⟩ 1 1 [.string X] rfl rfl (new_cells' _ _ _ _ rfl) (by intro u hu;simp at hu;subst hu;rfl) (by unfold maxLen;omega) (by omega) (by simp;omega) ?_;intro v2 w5 hown3 hgrow _ hat3;obtain⟨A2,c2,rfl⟩:=own_shape hown3;have HG3:=hidE hgrow;have HO5:=hidE hown3;clear hown3 hgrow hat3)
    have HB5:Hid (Below w.heap.size w w5):=hidE ((hb.out.alloc hsz _).grown HG3.out (by simp;omega) (λj hj=>by have:=hown.out.lt j hj;omega))
    refine(HA.out w5 (some (ts.drop (k+1))) ((k:Int)+1) HB5.out (.inr ⟨k+1,by rw[HN0.out];omega,by omega,rfl⟩)).mono ?_
    rintro e w6 ⟨rfl,rfl⟩
    go_wp2_with fail
    go_roundg (N0-(k+1))
    case measure=>simp only[Option.elim_some,List.length_drop,HN0.out];omega
    case rel =>
     refine⟨some (ts.drop (k+1)),(k:Int)+1,_,done++[X.data.toList],A2,c2,by simp[HN0.out],by rw[List.length_append,HNN.out];rfl,rfl,rfl,.inr ⟨k+1,by rw[HN0.out];omega,by omega,rfl⟩,rfl,HE,hidE ?_,HB5,by rw[List.length_append,HNN.out,HN0.out];simp;omega⟩
     rw[List.length_append,HNN.out,show strV (done++[X.data.toList])=strV done++[.string X] by simp[strV]]
     exact HO5.out
end Go.Proofs.YtknkclefoiohpaaGreatDoor

namespace Go.Proofs.YtknkclefoiohpaaGreatDoor
open Go.RowKit Lx Tx Sx
set_option maxRecDepth 100000
theorem nx_some(k:Nat)(X:List UInt8)(hX:X≠[])(l:List Tok):nxO k X (some l)=if isHd l k X=true then some l.tail else none:=by rw[nxO,isO_hd k X hX];rfl
theorem nx_kind(k:Nat)(l:List Tok):nxO k [] (some l)=if(hd l).kind=k then some l.tail else none:=by
 rw[nxO,isO_kind]
 by_cases h:(hd l).kind=k
 ·rw[if_pos h,if_pos (by simpa using h)];rfl
 ·rw[if_neg h,if_neg (by simpa using h)]
theorem lam_o(f:Nat)(l:List Tok):lamF f l=((nxO 6 [45,62] (nxO 1 [] (some l))).bind (rdE f)).map λy=>(.lam (txO (some l)) y.1,y.2):=by
 rw[lamF_eq,nx_kind]
 by_cases h:(hd l).kind=1
 ·rw[if_pos h,if_pos h,nx_some _ _ (by decide)]
  by_cases h2:isHd l.tail 6 [45,62]=true
  ·rw[if_pos h2,if_pos h2];rfl
  ·rw[if_neg h2,if_neg h2];rfl
 ·rw[if_neg h,if_neg h];rfl
def letO(f:Nat)(x:Nm)(t:Option Ty)(p:Option (List Tok)):Option (Ex × List Tok) :=
 ((nxO 6 [61] p).bind (rdE f)).bind λy=>((nxO 3 wIn (some y.2)).bind (rdE f)).map λz=>(.lt x t y.1 z.1,z.2)
theorem letG_o(f:Nat)(x:Nm)(t:Option Ty)(r:List Tok):letG f x t r=letO f x t (some r):=by
 rw[letG_eq,letO,nx_some _ _ (by decide)]
 by_cases h:isHd r 6 [61]=true
 ·rw[if_pos h,if_pos h,Option.bind_some]
  cases rdE f r.tail with
  | none=>rfl
  | some y =>
   rw[Option.bind_some,letJ,nx_some _ _ (by decide)]
   by_cases h2:isHd y.2 3 wIn=true
   ·rw[if_pos h2,if_pos h2];rfl
   ·rw[if_neg h2,if_neg h2];rfl
 ·rw[if_neg h,if_neg h];rfl
theorem letO_snd(f:Nat)(x:Nm)(t:Option Ty)(p:Option (List Tok)):(letO f x t p).map (·.2)=((nxO 3 wIn (((nxO 6 [61] p).bind (rdE f)).map (·.2))).bind (rdE f)).map (·.2):=by
 rw[letO]
 cases (nxO 6 [61] p).bind (rdE f) with
 | none=>rfl
 | some y =>
  simp only[Option.bind_some,Option.map_some,Option.map_map]
  rfl
theorem letO_some {f:Nat} {x:Nm} {t:Option Ty} {p:Option (List Tok)} {e:Ex} {r:List Tok}(h:letO f x t p=some (e,r)):∃a b ra,e=.lt x t a b/\(nxO 6 [61] p).bind (rdE f)=some (a,ra)/\(nxO 3 wIn (some ra)).bind (rdE f)=some (b,r):=by
 rw[letO]at h
 cases h1:(nxO 6 [61] p).bind (rdE f) with
 | none=>rw[h1]at h;cases h
 | some y =>
  rw[h1,Option.bind_some]at h
  cases h2:(nxO 3 wIn (some y.2)).bind (rdE f) with
  | none=>rw[h2]at h;cases h
  | some z =>
   rw[h2]at h
   simp only[Option.map_some,Option.some.injEq,Prod.mk.injEq]at h
   obtain⟨rfl,rfl⟩:=h
   exact⟨y.1,z.1,y.2,rfl,rfl,h2⟩
theorem let_o(f:Nat)(l:List Tok):letF f l=if isO 6 [58] (nxO 1 [] (some l))=true then((nxO 6 [58] (nxO 1 [] (some l))).bind typ).bind λy=>letO f (txO (some l)) (some y.1) (some y.2) else letO f (txO (some l)) none (nxO 1 [] (some l)):=by
 rw[letF_eq,nx_kind]
 by_cases h:(hd l).kind=1
 ·rw[if_pos h,if_pos h,letN,isO_hd _ _ (by decide),nx_some _ _ (by decide)]
  by_cases h2:isHd l.tail 6 [58]=true
  ·rw[if_pos h2,if_pos h2,if_pos h2,Option.bind_some]
   cases typ l.tail.tail with
   | none=>rfl
   | some y=>rw[letT,Option.bind_some,letG_o];rfl
  ·rw[if_neg h2,if_neg h2,letG_o];rfl
 ·rw[if_neg h,if_neg h];rfl
theorem par_o(f:Nat)(l:List Tok):parF f l=(rdE f l).bind λy=>if isO 6 [58] (some y.2)=true then((nxO 6 [58] (some y.2)).bind typ).bind λz=>(nxO 6 [41] (some z.2)).map λr=>(.ann y.1 z.1,r) else(nxO 6 [41] (some y.2)).map λr=>(y.1,r):=by
 rw[parF_eq]
 cases rdE f l with
 | none=>rfl
 | some y =>
  rw[Option.bind_some]
  simp only[parG]
  rw[isO_hd _ _ (by decide),nx_some _ _ (by decide),nx_some _ _ (by decide)]
  by_cases h:isHd y.2 6 [58]=true
  ·rw[if_pos h,if_pos h,if_pos h,Option.bind_some]
   cases typ y.2.tail with
   | none=>rfl
   | some z =>
    rw[parH,Option.bind_some,nx_some _ _ (by decide)]
    by_cases h2:isHd z.2 6 [41]=true
    ·rw[if_pos h2,if_pos h2];rfl
    ·rw[if_neg h2,if_neg h2];rfl
  ·rw[if_neg h,if_neg h]
   by_cases h2:isHd y.2 6 [41]=true
   ·rw[if_pos h2,if_pos h2];rfl
   ·rw[if_neg h2,if_neg h2];rfl
theorem pat_next {ts:List Tok} {p:Option (List Tok)} {z:Int} {k:Nat} {X:List UInt8}(hk:k≠0)(hp:PAt ts p z)(h:isO k X p=true):PAt ts (nxO k X p) (z+1)/\0<=z/\z<ts.length:=by
 rcases hp with⟨rfl,rfl⟩|⟨i,hi,rfl,rfl⟩
 ·cases h
 ·have hlt:=isO_lt hk h
  rw[nxO,h,if_pos rfl,Option.map_some,tail_drop]
  exact⟨.inr ⟨i+1,by omega,by omega,rfl⟩,by omega,by omega⟩
def parO(M:Option (Ex × List Tok)):Option (Ex × List Tok) :=
 M.bind λy=>if isO 6 [58] (some y.2)=true then((nxO 6 [58] (some y.2)).bind typ).bind λz=>(nxO 6 [41] (some z.2)).map λr=>(.ann y.1 z.1,r) else(nxO 6 [41] (some y.2)).map λr=>(y.1,r)
theorem parO_no {M:Option (Ex × List Tok)}(h:isO 6 [58] (M.map (·.2))=false):(parO M).map (·.2)=nxO 6 [41] (M.map (·.2))/\∀x r,parO M=some (x,r)->∃r0,M=some (x,r0):=by
 cases M with
 | none=>exact⟨rfl,λx r h=>by cases h⟩
 | some y =>
  have h':¬isO 6 [58] (some y.2)=true:=by rw[show isO 6 [58] (some y.2)=false from h];decide
  have e:parO (some y)=(nxO 6 [41] (some y.2)).map λr=>(y.1,r):=by rw[parO,Option.bind_some,if_neg h']
  rw[e]
  refine⟨?_,λx r h=>?_⟩
  ·rw[Option.map_map,Option.map_some]
   cases nxO 6 [41] (some y.2) <;> rfl
  ·cases hn:nxO 6 [41] (some y.2) with
   | none=>rw[hn]at h;cases h
   | some r1 =>
    rw[hn]at h
    simp only[Option.map_some,Option.some.injEq,Prod.mk.injEq]at h
    obtain⟨rfl,-⟩:=h
    exact⟨y.2,rfl⟩
theorem parO_yes {M:Option (Ex × List Tok)}(h:isO 6 [58] (M.map (·.2))=true):∃y r0,M=some (y,r0)/\(parO M).map (·.2)=nxO 6 [41] (((nxO 6 [58] (M.map (·.2))).bind typ).map (·.2))/\∀x r,parO M=some (x,r)->∃t r1,(nxO 6 [58] (M.map (·.2))).bind typ=some (t,r1)/\x=.ann y t:=by
 cases M with
 | none=>cases h
 | some y =>
  have h':isO 6 [58] (some y.2)=true:=h
  have e:parO (some y)=((nxO 6 [58] (some y.2)).bind typ).bind λz=>(nxO 6 [41] (some z.2)).map λr=>(.ann y.1 z.1,r):=by rw[parO,Option.bind_some,if_pos h']
  refine⟨y.1,y.2,rfl,?_,λx r h=>?_⟩
  ·rw[e,Option.map_some]
   cases (nxO 6 [58] (some y.2)).bind typ with
   | none=>rfl
   | some z =>
    rw[Option.bind_some,Option.map_map,Option.map_some]
    cases nxO 6 [41] (some z.2) <;> rfl
  ·rw[e]at h
   rw[Option.map_some]
   cases ht:(nxO 6 [58] (some y.2)).bind typ with
   | none=>rw[ht]at h;cases h
   | some z =>
    rw[ht,Option.bind_some]at h
    cases hn:nxO 6 [41] (some z.2) with
    | none=>rw[hn]at h;cases h
    | some r1 =>
     rw[hn]at h
     simp only[Option.map_some,Option.some.injEq,Prod.mk.injEq]at h
     obtain⟨rfl,-⟩:=h
     exact⟨z.1,z.2,rfl,rfl⟩
def XP8(ts:List Tok)(w:World)(o:Option (Ex × List Tok))(e:Ending)(w':World):Prop :=
 Below w.heap.size w w'/\∃(cs:List Value) (z:Int),shE cs/\e=.returned (.tuple #[.agg cs.toArray,.int .i64 z])/\PAt ts (o.map (·.2)) z/\∀x r,o=some (x,r)->pcE.Cs (λg=>w.heap.size<=g/\g<w'.heap.size) w' x cs
def Rd8(ts:List Tok)(v:Value)(f:Nat):Prop:=∀f1,f1<=f->∀(w:World)(p:Option (List Tok))(z:Int),RdT w v ts->PAt ts p z->(∀r,p=some r->3*r.length+3<=f1)->Calls Tryz.prog 44 #[v,.int .i64 z] w (XP8 ts w (p.bind (rdE f1)))
def At8(ts:List Tok)(v:Value)(f:Nat):Prop:=∀f1,f1<=f->∀(w:World)(p:Option (List Tok))(z:Int),RdT w v ts->PAt ts p z->(∀r,p=some r->3*r.length+1<=f1)->Calls Tryz.prog 100 #[v,.int .i64 z] w (XP8 ts w (p.bind (rdAtom f1)))
end Go.Proofs.YtknkclefoiohpaaGreatDoor

namespace Go.Proofs.YtknkclefoiohpaaGreatDoor
open Go.RowKit Lx Tx Sx
set_option maxRecDepth 100000
theorem xp8_set9 {ts:List Tok} {w W:World} {o:Option (Ex × List Tok)} {z k:Int} {x:ByteArray} {t:Bool} {K:Int} {X:ByteArray} {Z:Int} {B:Option Addr} {m q:Nat} {KA:Option Addr} {kn kc:Nat} {LA:Option Addr} {ln lc:Nat}
  (hb:Below w.heap.size w W)(hp:PAt ts (o.map (·.2)) z)
  (hx:∀y r,o=some (y,r)->pcE.Cs (λg=>w.heap.size<g/\g<W.heap.size) W y [.int .i64 k,.string x,.bool t,.int .i64 K,.string X,.int .i64 Z,.slice B m q,.slice KA kn kc,.slice LA ln lc]) :
  XP8 ts w o (.returned (.tuple #[.agg #[.int .i64 k,.string x,.bool t,.int .i64 K,.string X,.int .i64 Z,.slice B m q,.slice KA kn kc,.slice LA ln lc],.int .i64 z]))
   (((((((((W.setCell ⟨w.heap.size,0,none⟩ (.int .i64 k)).setCell ⟨w.heap.size,1,none⟩ (.string x)).setCell ⟨w.heap.size,2,none⟩ (.bool t)).setCell ⟨w.heap.size,3,none⟩ (.int .i64 K)).setCell ⟨w.heap.size,4,none⟩ (.string X)).setCell ⟨w.heap.size,5,none⟩ (.int .i64 Z)).setCell ⟨w.heap.size,6,none⟩ (.slice B m q)).setCell ⟨w.heap.size,7,none⟩ (.slice KA kn kc)).setCell ⟨w.heap.size,8,none⟩ (.slice LA ln lc)):=by
 refine⟨below_set9 hb (Nat.le_refl _) _ _ _ _ _ _ _ _ _,_,z,⟨_,_,_,_,_,_,_,_,_,_,_,_,_,_,_,rfl⟩,rfl,hp,λy r ho=>?_⟩
 exact pcE.keep (λg hg=>⟨by omega,by rw[size_set9];omega⟩) (λg hg=>set9_far _ _ _ _ _ _ _ _ _ _ _ _ (by omega)) (hx y r ho)
theorem XP8.drew {ts:List Tok} {w W:World} {o:Option (Ex × List Tok)} {e:Ending}(h:XP8 ts w o e W):XP8 ts w o e W.drew:=by
 obtain⟨h1,cs,z,h2,h3,h4,h5⟩:=h
 exact⟨h1.drew,cs,z,h2,h3,h4,λx r ho=>pcE.keep (w:=W) (S:=λg=>w.heap.size<=g/\g<W.heap.size) (λ_ h=>h) (λ_ _=>rfl) (h5 x r ho)⟩
theorem below_so9_3 {B:Nat} {w w':World} {g:Nat}(h:Below B w w')(b3 b4 b5 b6:Value)(hg:B<=g):Below B w ((((w'.setCell ⟨g,3,none⟩ b3).setCell ⟨g,4,none⟩ b4).setCell ⟨g,5,none⟩ b5).setCell ⟨g,6,none⟩ b6) :=
 (((h.setCell (p:=⟨g,3,none⟩) hg b3).setCell (p:=⟨g,4,none⟩) hg b4).setCell (p:=⟨g,5,none⟩) hg b5).setCell (p:=⟨g,6,none⟩) hg b6
set_option maxHeartbeats 6400000 in
theorem r8_atom(f:Nat)(ts:List Tok)(v:Value)(hG:AllG ts)(hn:ts.length<=100000)(w:World)(p:Option (List Tok))(z:Int)(IH:∀r,p=some r->Rd8 ts v f)(hv:RdT w v ts)(hp:PAt ts p z)(hf:∀r,p=some r->3*r.length+1<=f+1) :
  Calls Tryz.prog 100 #[v,.int .i64 z] w (XP8 ts w (p.bind (rdAtom (f+1)))):=by
 have HI1:Hid (∀W,Below w.heap.size w W->Calls Tryz.prog 34 #[v,.int .i64 z,.int .i64 1,.string ⟨#[]⟩] W λe w'=>e=.returned (.bool (isO 1 [] p))/\W=w'):=hidE λW hb=>r8_is v ts p z 1 ⟨#[]⟩ 1 rfl (by decide) W (hv.below hb) hp
 have HI2:Hid (∀W,Below w.heap.size w W->Calls Tryz.prog 34 #[v,.int .i64 z,.int .i64 2,.string ⟨#[]⟩] W λe w'=>e=.returned (.bool (isO 2 [] p))/\W=w'):=hidE λW hb=>r8_is v ts p z 2 ⟨#[]⟩ 2 rfl (by decide) W (hv.below hb) hp
 have HNX:Hid (∀W,Below w.heap.size w W->Calls Tryz.prog 83 #[v,.int .i64 z,.int .i64 6,.string ⟨#[40]⟩] W λe w'=>W=w'/\∃z',e=.returned (.int .i64 z')/\PAt ts (nxO 6 [40] p) z'):=hidE λW hb=>r8_next v ts p z 6 ⟨#[40]⟩ 6 rfl (by decide) W (hv.below hb) hn hp
 obtain⟨W0,hW0⟩:∃W,w.alloc (.cells #[.int .i64 0,.string ⟨#[]⟩,.bool false,.int .i64 0,.string ⟨#[]⟩,.int .i64 0,.slice none 0 0,.slice none 0 0,.slice none 0 0] 48)=W:=⟨_,rfl⟩
 have hal:Below w.heap.size w W0:=hW0▸(Below.refl _ w).alloc (Nat.le_refl _) _
 have hs0:w.heap.size+1<=W0.heap.size/\W0.heap.size<=w.heap.size+1:=by rw[<-hW0];simp
 have hbk:Blk W0 w.heap.size 48 #[.int .i64 0,.string ⟨#[]⟩,.bool false,.int .i64 0,.string ⟨#[]⟩,.int .i64 0,.slice none 0 0,.slice none 0 0,.slice none 0 0]:=hW0▸heap_alloc_new _ _
 have HAL:=hidE hal
 have HBK:=hidE hbk
 obtain⟨O,hO⟩:∃O,p.bind (rdAtom (f+1))=O:=⟨_,rfl⟩
 rw[hO]
 have HO:=hidE hO
 have HV:=hidE hv
 clear hal hbk hO
 obtain⟨q1,hq1⟩:∃q,isO 1 [] p=q:=⟨_,rfl⟩
 rw[hq1]at HI1
 obtain⟨⟨g0,g1,g2,g3,g4,g5,g6,g7,g8⟩,⟨z0,z1,z2,z3,z4,z5,z6,z7,z8⟩,hlw⟩:=blk_facts9 HBK.out
 cases q1 with
 | true =>
  rcases hp with⟨rfl,-⟩|⟨i,hi,rfl,rfl⟩
  ·cases hq1
  ·have hlt:=isO_lt (by decide) hq1
   obtain⟨g,c,rfl,-,h1,-⟩:=hv.at_ i hlt
   obtain⟨X,hX⟩:∃X:ByteArray,⟨ts[i].text.toArray⟩=X:=⟨_,rfl⟩
   have HOE:Hid (O=some (.var X.data.toList,ts.drop (i+1))):=hidE (by
    rw[<-HO.out,Option.bind_some,rdAtom_eq,if_pos (by simpa[isO_kind] using hq1),hd_drop ts i hlt,tail_drop,<-hX])
   rw[hX]at h1
   obtain⟨n,hN⟩:∃n,ts.length=n:=⟨_,rfl⟩
   have HN:=hidE hN
   rw[hN]at hlt hn HI1 HV ⊢
   have ii0:(0:Int)<=(i:Int):=by omega
   have ii1:(i:Int)<(n:Int):=by omega
   have hgl:=lt_cell h1
   replace h1:W0.cell? ⟨g,i*3+1,none⟩=some (.string X):=(HAL.out.cell (p:=⟨g,i*3+1,none⟩) hgl).trans h1
   clear hv HI2 HNX HO hX hq1 hf IH hi hN hG HV
   go_enter Tryz.func100,Tryz.ntmps100
   go_wp2_with fail
   try rw[hW0]
   refine(HI1.out _ HAL.out).mono ?_
   rintro e w1 ⟨rfl,rfl⟩
   clear HI1 hW0
   go_wp2_with fail
   try simp only[Exit.inBlock,Exit.then]
   refine bodyPost_ret (results_ct rfl _ _ w.heap.size 48 _ (0,0) _ rfl (blk_set9 _ _ _ _ _ _ _ _ _ HBK.out) Tryz.underlying48 rfl (by kernel_rfl)) rfl ?_
   refine xp8_set9 HAL.out (.inr ⟨i+1,by rw[HN.out];omega,by go_num,by rw[HOE.out];rfl⟩) (λy r ho=>?_)
   rw[HOE.out]at ho
   injection ho with ho
   injection ho with ho _
   subst ho
   exact⟨⟨none,0,none,0,none,0⟩,by simp[exC,kdE,nmE,toE,tyE,tyC,kidsE,altsE,Sx.strV],trivial,by rw[ExIn];trivial⟩
 | false =>
  obtain⟨q2,hq2⟩:∃q,isO 2 [] p=q:=⟨_,rfl⟩
  rw[hq2]at HI2
  cases q2 with
  | true =>
   rcases hp with⟨rfl,-⟩|⟨i,hi,rfl,rfl⟩
   ·cases hq2
   ·have hlt:=isO_lt (by decide) hq2
    obtain⟨g,c,rfl,-,h1,-⟩:=hv.at_ i hlt
    obtain⟨X,hX⟩:∃X:ByteArray,⟨ts[i].text.toArray⟩=X:=⟨_,rfl⟩
    have HOE:Hid (O=some (.con X.data.toList,ts.drop (i+1))):=hidE (by
     have k2:(hd (ts.drop i)).kind=2:=by simpa[isO_kind] using hq2
     rw[<-HO.out,Option.bind_some,rdAtom_eq,if_neg (by rw[k2];decide),if_neg (by simp[isHd,k2]),if_pos k2,hd_drop ts i hlt,tail_drop,<-hX])
    rw[hX]at h1
    obtain⟨n,hN⟩:∃n,ts.length=n:=⟨_,rfl⟩
    have HN:=hidE hN
    rw[hN]at hlt hn HI1 HI2 HV ⊢
    have ii0:(0:Int)<=(i:Int):=by omega
    have ii1:(i:Int)<(n:Int):=by omega
    have hgl:=lt_cell h1
    replace h1:W0.cell? ⟨g,i*3+1,none⟩=some (.string X):=(HAL.out.cell (p:=⟨g,i*3+1,none⟩) hgl).trans h1
    clear hv HNX HO hX hq1 hq2 hf IH hi hN hG HV
    go_enter Tryz.func100,Tryz.ntmps100
    go_wp2_with fail
    try rw[hW0]
    refine(HI1.out _ HAL.out).mono ?_
    rintro e w1 ⟨rfl,rfl⟩
    clear HI1 hW0
    go_wp2_with fail
    refine(HI2.out _ HAL.out).mono ?_
    rintro e w1 ⟨rfl,rfl⟩
    clear HI2
    go_wp2_with fail
    try simp only[Exit.inBlock,Exit.then]
    refine bodyPost_ret (results_ct rfl _ _ w.heap.size 48 _ (0,0) _ rfl (blk_set9 _ _ _ _ _ _ _ _ _ HBK.out) Tryz.underlying48 rfl (by kernel_rfl)) rfl ?_
    refine xp8_set9 HAL.out (.inr ⟨i+1,by rw[HN.out];omega,by go_num,by rw[HOE.out];rfl⟩) (λy r ho=>?_)
    rw[HOE.out]at ho
    injection ho with ho
    injection ho with ho _
    subst ho
    exact⟨⟨none,0,none,0,none,0⟩,by simp[exC,kdE,nmE,toE,tyE,tyC,kidsE,altsE,Sx.strV],trivial,by rw[ExIn];trivial⟩
  | false =>
   have HNP:Hid (nxO 6 [40] p=none\/∃r,p=some r/\nxO 6 [40] p=some r.tail/\3*r.tail.length+3<=f/\O=parF f r.tail):=hidE (by
    cases hx:nxO 6 [40] p with
    | none=>exact .inl rfl
    | some r' =>
     obtain⟨l,rfl,rfl,hl,hq⟩:=nxO_len (by decide) hx
     refine .inr ⟨l,rfl,rfl,by have:=hf l rfl;omega,?_⟩
     have k6:isHd l 6 [40]=true:=by rw[<-isO_hd _ _ (by decide)];exact hq
     rw[<-HO.out,Option.bind_some,rdAtom_eq,if_neg (by simpa[isO_kind] using hq1),if_pos k6])
   have HONE:Hid (nxO 6 [40] p=none->O=none):=hidE (λhx=>by
    rw[<-HO.out]
    cases p with
    | none=>rfl
    | some l =>
     rw[Option.bind_some,rdAtom_eq,if_neg (by simpa[isO_kind] using hq1)]
     rw[nx_some _ _ (by decide)]at hx
     rw[if_neg (by intro h;rw[if_pos h]at hx;cases hx),if_neg (by simpa[isO_kind] using hq2)])
   have HIH:=hidE IH
   have HG:=hidE hG
   clear hv hp hf IH hG hq1 hq2 HO
   go_enter Tryz.func100,Tryz.ntmps100
   go_wp2_with fail
   try rw[hW0]
   refine(HI1.out _ HAL.out).mono ?_
   rintro e w1 ⟨rfl,rfl⟩
   clear HI1 hW0
   go_wp2_with fail
   refine(HI2.out _ HAL.out).mono ?_
   rintro e w1 ⟨rfl,rfl⟩
   clear HI2
   go_wp2_with fail
   refine(HNX.out _ HAL.out).mono ?_
   rintro e w1 ⟨rfl,zk,rfl,hz⟩
   clear HNX
   rcases HNP.out with hx|⟨r,hp,hx,hfr,hO⟩
   ·have hon:=HONE.out hx
    rw[hx]at hz
    rcases hz with⟨-,rfl⟩|⟨_,_,_,h⟩
    ·subst hon
     clear hx HONE HNP
     go_wp2_with fail
     try simp only[Exit.inBlock,Exit.then]
     refine bodyPost_ret (results_ct rfl _ _ w.heap.size 48 _ (0,0) _ rfl (blk_set9 _ _ _ _ _ _ _ _ _ HBK.out) Tryz.underlying48 rfl (by kernel_rfl)) rfl ?_
     exact xp8_set9 HAL.out (PAt.none_ ts) (λy r ho=>by cases ho)
    ·cases h
   ·rw[hx]at hz
    have hzn:0<=zk:=by
     rcases hz with⟨h,-⟩|⟨k,hk,h,-⟩
     ·cases h
     ·omega
    have d0:decide (zk<0)=false:=decide_eq_false (by omega)
    have hR:=HIH.out r hp f (Nat.le_refl _) W0 (some r.tail) zk (HV.out.below HAL.out) hz (λr' h=>by injection h with h;subst h;exact hfr)
    rw[Option.bind_some]at hR
    obtain⟨M,hM⟩:∃M,rdE f r.tail=M:=⟨_,rfl⟩
    have HOM:Hid (O=parO M):=hidE (by rw[hO,par_o,hM];rfl)
    rw[hM]at hR
    have HR:=hidE hR
    clear hR hz hx hp hfr hO hM HNP HONE HIH g0 g1 g2 g3 g4 g5 g6 g7 g8 z0 z1 z2 z3 z4 z5 z6 z7 z8
    go_wp2_with fail
    refine HR.out.mono ?_
    rintro e w1 ⟨b1,cs,ze,hsh,rfl,hpe,hcs⟩
    obtain⟨ck,cx,ct,cK,cX,cZ,cB,cm,cq,cKA,ckn,ckc,cLA,cln,clc,rfl⟩:=hsh
    have hs1:=b1.size
    obtain⟨W1,hW1⟩:∃W,w1.alloc (.cells #[.int .i64 ck,.string cx,.bool ct,.int .i64 cK,.string cX,.int .i64 cZ,.slice cB cm cq,.slice cKA ckn ckc,.slice cLA cln clc] 48)=W:=⟨_,rfl⟩
    have hbw:Below w1.heap.size w1 W1:=hW1▸(Below.refl _ w1).alloc (Nat.le_refl _) _
    have hsW1:w1.heap.size+1<=W1.heap.size/\W1.heap.size<=w1.heap.size+1:=by rw[<-hW1];simp
    have hbe:Blk W1 w1.heap.size 48 #[.int .i64 ck,.string cx,.bool ct,.int .i64 cK,.string cX,.int .i64 cZ,.slice cB cm cq,.slice cKA ckn ckc,.slice cLA cln clc]:=hW1▸heap_alloc_new _ _
    have HB1:Hid (Below w.heap.size w W1):=hidE (HAL.out.trans ((b1.mono (by omega)).trans (hbw.mono (by omega))))
    have HBK1:=hidE ((HBK.out.below b1 hlw).below hbw (by omega))
    have HBE:=hidE hbe
    have HPE:=hidE hpe
    have HCS:Hid (∀y r,M=some (y,r)->pcE.Cs (λg=>w.heap.size<g/\g<w1.heap.size) W1 y [.int .i64 ck,.string cx,.bool ct,.int .i64 cK,.string cX,.int .i64 cZ,.slice cB cm cq,.slice cKA ckn ckc,.slice cLA cln clc]):=hidE λy r ho=>pcE.keep (λg hg=>⟨by omega,hg.2⟩) (λg hg=>hbw.block g hg.2) (hcs y r ho)
    have HIS:=hidE (r8_is v ts (M.map (·.2)) ze 6 ⟨#[58]⟩ 6 rfl (by decide) W1 (HV.out.below HB1.out) hpe)
    have hlo:=hpe.lo
    clear b1 hbw hbe hpe hcs HR
    go_upto_region 11 with fail
    try rw[hW1]
    clear hW1
    obtain⟨q,hq⟩:∃q,isO 6 [58] (M.map (·.2))=q:=⟨_,rfl⟩
    rw[hq]at HIS
    have HQ:=hidE hq
    clear hq
    go_wp2_with fail
    refine HIS.out.mono ?_
    rintro e w2 ⟨rfl,rfl⟩
    clear HIS
    obtain⟨⟨g0,g1,g2,g3,g4,g5,g6,g7,g8⟩,⟨z0,z1,z2,z3,z4,z5,z6,z7,z8⟩,hlg⟩:=blk_facts9 HBE.out
    cases q with
    | false =>
     obtain⟨⟨m0,m1,m2,m3,m4,m5,m6,m7,m8⟩,⟨y0,y1,y2,y3,y4,y5,y6,y7,y8⟩,hlm⟩:=blk_facts9 HBK1.out
     have HNR:=hidE (λW (hb:Below w.heap.size w W)=>r8_next v ts (M.map (·.2)) ze 6 ⟨#[41]⟩ 6 rfl (by decide) W (HV.out.below hb) hn HPE.out)
     have HPO:=hidE (parO_no HQ.out)
     go_wp2_with fail
     go_region_with (go_at_call 83;(with_reducible refine(HNR.out _ (by first|exact HB1.out|exact HB1.out.drew)).mono ?_);rintro e w3 ⟨rfl,z9,rfl,hz9⟩;have HZ9:=hidE hz9;clear hz9)
     have HPO:=hidE (parO_no HQ.out)
     all_goals
      go_wp2_with fail
      refine bodyPost_ret (results_ct rfl _ _ w.heap.size 48 _ (0,0) _ rfl (blk_set9 _ _ _ _ _ _ _ _ _ HBK1.out).drew Tryz.underlying48 rfl (by kernel_rfl)) rfl ?_
      refine XP8.drew (xp8_set9 HB1.out ?_ ?_)
      ·rw[HOM.out,HPO.out.1];exact HZ9.out
      ·intro y r ho
       rw[HOM.out]at ho
       obtain⟨r0,hM⟩:=HPO.out.2 y r ho
       exact pcE.keep (λg hg=>⟨hg.1,by have:=hg.2;omega⟩) (λ_ _=>rfl) (HCS.out y r0 hM)
    | true =>
     obtain⟨yy,r0,hMM,hp1,hp2⟩:=parO_yes HQ.out
     have HP1:=hidE hp1
     have HP2:=hidE hp2
     have HMM:=hidE hMM
     obtain⟨hpn,hze0,hze1⟩:=pat_next (by decide) HPE.out HQ.out
     obtain⟨W2,hW2⟩:∃W,(W1.alloc (.cells #[.int .i64 ck,.string cx,.bool ct,.int .i64 cK,.string cX,.int .i64 cZ,.slice cB cm cq,.slice cKA ckn ckc,.slice cLA cln clc] 48)).alloc (.cells #[.int .i64 7,.string ⟨#[]⟩,.bool false,.int .i64 0,.string ⟨#[]⟩,.int .i64 0,.slice none 0 0,.slice (some ⟨W1.heap.size,0,none⟩) 1 1,.slice none 0 0] 48)=W:=⟨_,rfl⟩
     have hb2:Below W1.heap.size W1 W2:=hW2▸((Below.refl _ W1).alloc (Nat.le_refl _) _).alloc (by simp) _
     have hs2:W1.heap.size+2<=W2.heap.size/\W2.heap.size<=W1.heap.size+2:=by rw[<-hW2];simp
     have hk2:Blk W2 W1.heap.size 48 #[.int .i64 ck,.string cx,.bool ct,.int .i64 cK,.string cX,.int .i64 cZ,.slice cB cm cq,.slice cKA ckn ckc,.slice cLA cln clc]:=hW2▸Blk.below (heap_alloc_new W1 _) ((Below.refl _ _).alloc (Nat.le_refl _) _) (by simp)
     have hx2:Blk W2 (W1.heap.size+1) 48 #[.int .i64 7,.string ⟨#[]⟩,.bool false,.int .i64 0,.string ⟨#[]⟩,.int .i64 0,.slice none 0 0,.slice (some ⟨W1.heap.size,0,none⟩) 1 1,.slice none 0 0]:=hW2▸two_top _ _ _ _ rfl
     have HB2:=hidE (HB1.out.trans (hb2.mono (by omega)))
     have HT2:=hidE (r8_typ v ts (nxO 6 [58] (M.map (·.2))) (ze+1) W2 (HV.out.below (HB1.out.trans (hb2.mono (by omega)))) HG.out hn hpn)
     have HBE2:=hidE (HBE.out.below hb2 (by omega))
     have HBK2:=hidE (HBK1.out.below hb2 (by omega))
     have HK2:=hidE hk2
     have HX2:=hidE hx2
     have HCS2:Hid (pcE.Cs (λg=>w.heap.size<g/\g<w1.heap.size) W2 yy [.int .i64 ck,.string cx,.bool ct,.int .i64 cK,.string cX,.int .i64 cZ,.slice cB cm cq,.slice cKA ckn ckc,.slice cLA cln clc]):=hidE (pcE.keep (λ_ h=>h) (λg hg=>hb2.block g (by have:=hg.2;omega)) (HCS.out yy r0 hMM))
     obtain⟨TO,hTO⟩:∃x,(nxO 6 [58] (M.map (·.2))).bind typ=x:=⟨_,rfl⟩
     rw[hTO]at HT2 HP1 HP2
     have HW2:=hidE hW2
     clear hp1 hp2 hMM hpn hb2 hk2 hx2 hTO HCS HBK1 hW2
     go_upto_region 14 with fail
     rw[HW2.out]
     clear HW2 g0 g1 g2 g3 g4 g5 g6 g7 g8 z0 z1 z2 z3 z4 z5 z6 z7 z8 HBE
     go_wp2_with fail
     refine HT2.out.mono ?_
     rintro e w3 ⟨b3,tK,tX,tZ,tA,tm,tc,zt,rfl,hpt,htc⟩
     have hs3:=b3.size
     have hx3:=HX2.out.below b3 (by omega)
     obtain⟨W3,hW3⟩:∃W,((((w3.setCell ⟨W1.heap.size+1,3,none⟩ (.int .i64 tK)).setCell ⟨W1.heap.size+1,4,none⟩ (.string tX)).setCell ⟨W1.heap.size+1,5,none⟩ (.int .i64 tZ)).setCell ⟨W1.heap.size+1,6,none⟩ (.slice tA tm tc))=W:=⟨_,rfl⟩
     have hx3':Blk W3 (W1.heap.size+1) 48 #[.int .i64 7,.string ⟨#[]⟩,.bool false,.int .i64 tK,.string tX,.int .i64 tZ,.slice tA tm tc,.slice (some ⟨W1.heap.size,0,none⟩) 1 1,.slice none 0 0]:=hW3▸blk_so9_3 _ _ _ _ hx3
     have hf3:∀k,k≠W1.heap.size+1->W3.heap[k]? = w3.heap[k]?:=λk hk=>hW3▸so9_3_far _ _ _ _ _ _ _ hk
     have hz3:w3.heap.size<=W3.heap.size/\W3.heap.size<=w3.heap.size:=by rw[<-hW3];simp
     have hbb:∀k,k<W2.heap.size->k≠W1.heap.size+1->W3.heap[k]? = W2.heap[k]?:=λk h1 h2=>(hf3 k h2).trans (b3.block k h1)
     have HBE3:Hid (Blk W3 w1.heap.size 48 #[.int .i64 ck,.string cx,.bool ct,.int .i64 cK,.string cX,.int .i64 cZ,.slice cB cm cq,.slice cKA ckn ckc,.slice cLA cln clc]):=hidE (HBE2.out.same (hbb _ (by omega) (by omega)))
     have HBK3:Hid (Blk W3 w.heap.size 48 #[.int .i64 0,.string ⟨#[]⟩,.bool false,.int .i64 0,.string ⟨#[]⟩,.int .i64 0,.slice none 0 0,.slice none 0 0,.slice none 0 0]):=hidE (HBK2.out.same (hbb _ (by omega) (by omega)))
     have HK3:Hid (Blk W3 W1.heap.size 48 #[.int .i64 ck,.string cx,.bool ct,.int .i64 cK,.string cX,.int .i64 cZ,.slice cB cm cq,.slice cKA ckn ckc,.slice cLA cln clc]):=hidE (HK2.out.same (hbb _ (by omega) (by omega)))
     have HX3:=hidE hx3'
     have HB3:Hid (Below w.heap.size w W3):=hidE (hW3▸below_so9_3 (HB2.out.trans (b3.mono (by omega))) _ _ _ _ (by omega))
     have HTC:Hid (∀t r,TO=some (t,r)->RdV (λg=>W2.heap.size<=g/\g<W3.heap.size) W3 t (.agg #[.int .i64 tK,.string tX,.int .i64 tZ,.slice tA tm tc])):=hidE λt r ho=>(htc t r ho).keep (λg hg=>⟨by omega,by omega⟩) (λg hg=>hf3 g (by omega))
     have HCS3:=hidE (pcE.keep (S':=λg=>w.heap.size<g/\g<w1.heap.size) (λ_ h=>h) (λg hg=>hbb g (by omega) (by omega)) HCS2.out)
     have HPT:=hidE hpt
     obtain⟨⟨g0,g1,g2,g3,g4,g5,g6,g7,g8⟩,⟨z0,z1,z2,z3,z4,z5,z6,z7,z8⟩,hlx⟩:=blk_facts9 hx3
     clear b3 hx3 hx3' hf3 hbb hpt htc HT2 HBE2 HBK2 HK2 HX2 HCS2
     go_upto_region 15 with fail
     try rw[hW3]
     clear hW3 g0 g1 g2 g3 g4 g5 g6 g7 g8 z0 z1 z2 z3 z4 z5 z6 z7 z8
     obtain⟨W4,hW4⟩:∃W,(((((((((W3.setCell ⟨w1.heap.size,0,none⟩ (.int .i64 7)).setCell ⟨w1.heap.size,1,none⟩ (.string ⟨#[]⟩)).setCell ⟨w1.heap.size,2,none⟩ (.bool false)).setCell ⟨w1.heap.size,3,none⟩ (.int .i64 tK)).setCell ⟨w1.heap.size,4,none⟩ (.string tX)).setCell ⟨w1.heap.size,5,none⟩ (.int .i64 tZ)).setCell ⟨w1.heap.size,6,none⟩ (.slice tA tm tc)).setCell ⟨w1.heap.size,7,none⟩ (.slice (some ⟨W1.heap.size,0,none⟩) 1 1)).setCell ⟨w1.heap.size,8,none⟩ (.slice none 0 0))=W:=⟨_,rfl⟩
     have hz4:W3.heap.size<=W4.heap.size/\W4.heap.size<=W3.heap.size:=by rw[<-hW4,size_set9];omega
     have hf4:∀k,k≠w1.heap.size->W4.heap[k]? = W3.heap[k]?:=λk hk=>hW4▸set9_far _ _ _ _ _ _ _ _ _ _ _ _ hk
     have HBE4:Hid (Blk W4 w1.heap.size 48 #[.int .i64 7,.string ⟨#[]⟩,.bool false,.int .i64 tK,.string tX,.int .i64 tZ,.slice tA tm tc,.slice (some ⟨W1.heap.size,0,none⟩) 1 1,.slice none 0 0]):=hidE (hW4▸blk_set9 _ _ _ _ _ _ _ _ _ HBE3.out)
     have HBK4:Hid (Blk W4 w.heap.size 48 #[.int .i64 0,.string ⟨#[]⟩,.bool false,.int .i64 0,.string ⟨#[]⟩,.int .i64 0,.slice none 0 0,.slice none 0 0,.slice none 0 0]):=hidE (HBK3.out.same (hf4 _ (by omega)))
     have HB4:Hid (Below w.heap.size w W4):=hidE (hW4▸below_set9 HB3.out (by omega) _ _ _ _ _ _ _ _ _)
     have HK4:Hid (Blk W4 W1.heap.size 48 #[.int .i64 ck,.string cx,.bool ct,.int .i64 cK,.string cX,.int .i64 cZ,.slice cB cm cq,.slice cKA ckn ckc,.slice cLA cln clc]):=hidE (HK3.out.same (hf4 _ (by omega)))
     have HTC4:Hid (∀t r,TO=some (t,r)->RdV (λg=>w.heap.size<g/\g<W3.heap.size) W4 t (.agg #[.int .i64 tK,.string tX,.int .i64 tZ,.slice tA tm tc])):=hidE λt r ho=>(HTC.out t r ho).keep (λg hg=>⟨by omega,hg.2⟩) (λg hg=>hf4 g (by omega))
     have HCS4:=hidE (pcE.keep (S':=λg=>w.heap.size<g/\g<w1.heap.size) (λ_ h=>h) (λg hg=>hf4 g (by omega)) HCS3.out)
     obtain⟨⟨g0,g1,g2,g3,g4,g5,g6,g7,g8⟩,⟨z0,z1,z2,z3,z4,z5,z6,z7,z8⟩,hle⟩:=blk_facts9 HBE3.out
     obtain⟨⟨m0,m1,m2,m3,m4,m5,m6,m7,m8⟩,-,hlm⟩:=blk_facts9 HX3.out
     clear hf4 HCS3 HBE3 HBK3 HB3 HX3 HK3
     go_upto_region 16 with fail
     try rw[hW4]
     clear hW4 g0 g1 g2 g3 g4 g5 g6 g7 g8 z0 z1 z2 z3 z4 z5 z6 z7 z8 m0 m1 m2 m3 m4 m5 m6 m7 m8
     obtain⟨⟨g0,g1,g2,g3,g4,g5,g6,g7,g8⟩,-,-⟩:=blk_facts9 HBE4.out
     obtain⟨⟨m0,m1,m2,m3,m4,m5,m6,m7,m8⟩,⟨y0,y1,y2,y3,y4,y5,y6,y7,y8⟩,hlm⟩:=blk_facts9 HBK4.out
     have HNR:=hidE (λW (hb:Below w.heap.size w W)=>r8_next v ts (TO.map (·.2)) zt 6 ⟨#[41]⟩ 6 rfl (by decide) W (HV.out.below hb) hn HPT.out)
     go_region_with (go_at_call 83;(with_reducible refine(HNR.out _ (by first|exact HB4.out|exact HB4.out.drew)).mono ?_);rintro e w3 ⟨rfl,z9,rfl,hz9⟩;have HZ9:=hidE hz9;clear hz9)
     all_goals
      go_wp2_with fail
      refine bodyPost_ret (results_ct rfl _ _ w.heap.size 48 _ (0,0) _ rfl (blk_set9 _ _ _ _ _ _ _ _ _ HBK4.out).drew Tryz.underlying48 rfl (by kernel_rfl)) rfl ?_
      refine XP8.drew (xp8_set9 HB4.out ?_ ?_)
      ·rw[HOM.out,HP1.out];exact HZ9.out
      ·intro y r ho
       rw[HOM.out]at ho
       obtain⟨t,r1,hto,rfl⟩:=HP2.out y r ho
       obtain⟨A',a',hv',hA'⟩:=HTC4.out t r1 hto
       injection hv' with hv'
       have hv':=congrArg Array.toList hv'
       simp only[List.cons.injEq,Value.int.injEq,Value.string.injEq,Value.slice.injEq,and_true,true_and]at hv'
       obtain⟨rfl,rfl,rfl,rfl,rfl,rfl⟩:=hv'
       refine⟨⟨tA,tc,some ⟨W1.heap.size,0,none⟩,0,none,0⟩,rfl,Args.keep (λg hg=>⟨hg.1,by omega⟩) (λ_ _=>rfl) _ _ hA',?_⟩
       rw[ExIn]
       exact⟨_,rfl,⟨by omega,by omega⟩,kid_new HCS4.out (λg hg=>⟨hg.1,by have:=hg.2;omega⟩) (λ_ _=>rfl) HK4.out⟩
end Go.Proofs.YtknkclefoiohpaaGreatDoor

namespace Go.Proofs.YtknkclefoiohpaaGreatDoor
open Go.RowKit Lx Tx Sx
set_option maxRecDepth 100000
theorem rdE_lam(f:Nat)(l:List Tok)(h:isO 6 [92] (some l)=true):rdE (f+1) l=((nxO 6 [45,62] (nxO 1 [] (some l.tail))).bind (rdE f)).map λy=>(.lam (txO (some l.tail)) y.1,y.2):=by
 rw[rdE_eq,if_pos (by rw[<-isO_hd _ _ (by decide)];exact h),lam_o]
set_option maxHeartbeats 6400000 in
theorem r8_read_lam(f:Nat)(ts:List Tok)(v:Value)(hn:ts.length<=100000)(IH:Rd8 ts v f)(w:World)(i:Nat)(hv:RdT w v ts)(hq:isO 6 [92] (some (ts.drop i))=true)(hf:3*(ts.drop i).length+3<=f+1) :
  Calls Tryz.prog 44 #[v,.int .i64 (i:Nat)] w (XP8 ts w (rdE (f+1) (ts.drop i))):=by
 have hlt:=isO_lt (by decide) hq
 have hp0:PAt ts (some (ts.drop i)) (i:Nat):=PAt.some_ ts i (by omega)
 obtain⟨hp1,-,-⟩:=pat_next (by decide) hp0 hq
 have e1:nxO 6 [92] (some (ts.drop i))=some (ts.drop i).tail:=by rw[nxO,hq,if_pos rfl];rfl
 rw[e1]at hp1
 have hl1:(ts.drop i).tail.length+1=(ts.drop i).length:=by
  obtain⟨l,h1,h2,h3,-⟩:=nxO_len (by decide) e1
  injection h1 with h1
  subst h1
  omega
 have HI1:Hid (∀W,Below w.heap.size w W->Calls Tryz.prog 34 #[v,.int .i64 (i:Nat),.int .i64 6,.string ⟨#[92]⟩] W λe w'=>e=.returned (.bool true)/\W=w'):=hidE λW hb=>by
  have:=r8_is v ts _ _ 6 ⟨#[92]⟩ 6 rfl (by decide) W (hv.below hb) hp0
  rwa [show(⟨#[92]⟩:ByteArray).data.toList=[92] from rfl,hq]at this
 obtain⟨O,hO⟩:∃O,rdE (f+1) (ts.drop i)=O:=⟨_,rfl⟩
 rw[hO]
 rw[rdE_lam f _ hq]at hO
 have HN1:=hidE (λW (hb:Below w.heap.size w W)=>r8_next v ts _ _ 1 ⟨#[]⟩ 1 rfl (by decide) W (hv.below hb) hn hp1)
 have HTX:=hidE (λW (hb:Below w.heap.size w W)=>r8_text v ts _ _ W (hv.below hb) hp1)
 obtain⟨P1,hP1⟩:∃P,nxO 1 [] (some (ts.drop i).tail)=P:=⟨_,rfl⟩
 obtain⟨P2,hP2⟩:∃P,nxO 6 [45,62] P1=P:=⟨_,rfl⟩
 obtain⟨X,hX⟩:∃X:ByteArray,⟨(txO (some (ts.drop i).tail)).toArray⟩=X:=⟨_,rfl⟩
 have hX2:txO (some (ts.drop i).tail)=X.data.toList:=by rw[<-hX]
 have hlen2:∀r,P2=some r->3*r.length+3<=f:=λr hr=>by
  obtain⟨l,hl,-,h3,-⟩:=nxO_len (by decide) (hP2.trans hr)
  obtain⟨l2,hl2,-,h5,-⟩:=nxO_len (by decide) (hP1.trans hl)
  injection hl2 with hl2
  subst hl2
  omega
 rw[hP1,hP2,hX2]at hO
 rw[hX]at HTX
 have HN2:=hidE (λW z (hb:Below w.heap.size w W) (hz:PAt ts P1 z)=>r8_next v ts P1 z 6 ⟨#[45,62]⟩ 6 rfl (by decide) W (hv.below hb) hn hz)
 have HR:=hidE (λW z (hb:Below w.heap.size w W) (hz:PAt ts P2 z)=>IH f (Nat.le_refl _) W P2 z (hv.below hb) hz hlen2)
 obtain⟨M,hM⟩:∃M,P2.bind (rdE f)=M:=⟨_,rfl⟩
 rw[hM]at HR hO
 have HO:=hidE hO
 have HP1:=hidE hP1
 have HP2:=hidE hP2
 have hi9:(i:Int)<100000:=by omega
 obtain⟨W0,hW0⟩:∃W,w.alloc (.cells #[.int .i64 0,.string ⟨#[]⟩,.bool false,.int .i64 0,.string ⟨#[]⟩,.int .i64 0,.slice none 0 0,.slice none 0 0,.slice none 0 0] 48)=W:=⟨_,rfl⟩
 have hal:Below w.heap.size w W0:=hW0▸(Below.refl _ w).alloc (Nat.le_refl _) _
 have hs0:w.heap.size+1<=W0.heap.size/\W0.heap.size<=w.heap.size+1:=by rw[<-hW0];simp
 have hbk:Blk W0 w.heap.size 48 #[.int .i64 0,.string ⟨#[]⟩,.bool false,.int .i64 0,.string ⟨#[]⟩,.int .i64 0,.slice none 0 0,.slice none 0 0,.slice none 0 0]:=hW0▸heap_alloc_new _ _
 have HAL:=hidE hal
 have HBK:=hidE hbk
 clear hv hq hf IH hlt hp0 hp1 e1 hl1 hP1 hP2 hX hX2 hlen2 hM hO hal hbk
 go_enter Tryz.func44,Tryz.ntmps44
 go_wp2_with fail
 try rw[hW0]
 refine(HI1.out _ HAL.out).mono ?_
 rintro e w1 ⟨rfl,rfl⟩
 clear HI1 hW0
 go_wp2_with fail
 refine(HN1.out _ HAL.out).mono ?_
 rintro e w1 ⟨rfl,za,rfl,hza⟩
 replace hza:=(show(⟨#[]⟩:ByteArray).data.toList=[] from rfl)▸hza
 rw[HP1.out]at hza
 have HZA:=hidE hza
 clear hza HN1
 go_wp2_with fail
 refine(HN2.out _ _ HAL.out HZA.out).mono ?_
 rintro e w1 ⟨rfl,zb,rfl,hzb⟩
 replace hzb:=(show(⟨#[45,62]⟩:ByteArray).data.toList=[45,62] from rfl)▸hzb
 rw[HP2.out]at hzb
 have HZB:=hidE hzb
 clear hzb HN2
 go_wp2_with fail
 refine(HR.out _ _ HAL.out HZB.out).mono ?_
 rintro e w1 ⟨b1,cs,ze,hsh,rfl,hpe,hcs⟩
 obtain⟨ck,cx,ct,cK,cX,cZ,cB,cm,cq,cKA,ckn,ckc,cLA,cln,clc,rfl⟩:=hsh
 have hs1:=b1.size
 obtain⟨W1,hW1⟩:∃W,w1.alloc (.cells #[.int .i64 ck,.string cx,.bool ct,.int .i64 cK,.string cX,.int .i64 cZ,.slice cB cm cq,.slice cKA ckn ckc,.slice cLA cln clc] 48)=W:=⟨_,rfl⟩
 have hbw:Below w1.heap.size w1 W1:=hW1▸(Below.refl _ w1).alloc (Nat.le_refl _) _
 have hsW1:w1.heap.size+1<=W1.heap.size/\W1.heap.size<=w1.heap.size+1:=by rw[<-hW1];simp
 have hbe:Blk W1 w1.heap.size 48 #[.int .i64 ck,.string cx,.bool ct,.int .i64 cK,.string cX,.int .i64 cZ,.slice cB cm cq,.slice cKA ckn ckc,.slice cLA cln clc]:=hW1▸heap_alloc_new _ _
 have HB1:Hid (Below w.heap.size w W1):=hidE (HAL.out.trans ((b1.mono (by omega)).trans (hbw.mono (by omega))))
 have HBK1:=hidE ((HBK.out.below b1 (by omega)).below hbw (by omega))
 have HBE:=hidE hbe
 have HPE:=hidE hpe
 have HCS:Hid (∀y r,M=some (y,r)->pcE.Cs (λg=>w.heap.size<g/\g<w1.heap.size) W1 y [.int .i64 ck,.string cx,.bool ct,.int .i64 cK,.string cX,.int .i64 cZ,.slice cB cm cq,.slice cKA ckn ckc,.slice cLA cln clc]):=hidE λy r ho=>pcE.keep (λg hg=>⟨by omega,hg.2⟩) (λg hg=>hbw.block g hg.2) (hcs y r ho)
 have HW1:=hidE hW1
 clear b1 hbw hbe hpe hcs HR HBK hW1
 go_upto_region 5 with fail
 rw[HW1.out]
 clear HW1
 obtain⟨⟨g0,g1,g2,g3,g4,g5,g6,g7,g8⟩,-,hlg⟩:=blk_facts9 HBE.out
 obtain⟨⟨m0,m1,m2,m3,m4,m5,m6,m7,m8⟩,⟨y0,y1,y2,y3,y4,y5,y6,y7,y8⟩,hlm⟩:=blk_facts9 HBK1.out
 have HNK:Hid (Below w.heap.size w (W1.alloc (.cells #[.int .i64 ck,.string cx,.bool ct,.int .i64 cK,.string cX,.int .i64 cZ,.slice cB cm cq,.slice cKA ckn ckc,.slice cLA cln clc] 48))):=hidE (HB1.out.alloc (by omega) _)
 have hwi:IntKind.i64.wrap ((i:Int)+1)=(i:Int)+1:=IntWalk.i64_in _ (by omega)
 go_region_with (go_at_call 81;(try rw[hwi]);(with_reducible refine(HTX.out _ (by first|exact HB1.out|exact HB1.out.drew|exact HNK.out|exact HNK.out.drew)).mono ?_);rintro e w3 ⟨rfl,rfl⟩)
 all_goals
  go_wp2_with fail
  refine bodyPost_ret (results_ct rfl _ _ w.heap.size 48 _ (0,0) _ rfl ((blk_set9 _ _ _ _ _ _ _ _ _ HBK1.out).alloc _).drew Tryz.underlying48 rfl (by kernel_rfl)) rfl ?_
  refine XP8.drew ⟨(below_set9 HB1.out (Nat.le_refl _) _ _ _ _ _ _ _ _ _).alloc (by rw[size_set9];omega) _,_,ze,⟨_,_,_,_,_,_,_,_,_,_,_,_,_,_,_,rfl⟩,rfl,?_,λy r ho=>?_⟩
  ·rw[<-HO.out,Option.map_map];exact HPE.out
  ·rw[<-HO.out]at ho
   cases hM:M with
   | none=>rw[hM]at ho;cases ho
   | some u =>
    rw[hM]at ho
    simp only[Option.map_some,Option.some.injEq,Prod.mk.injEq]at ho
    obtain⟨rfl,-⟩:=ho
    refine⟨⟨none,0,some ⟨W1.heap.size,0,none⟩,0,none,0⟩,by simp[exC,kdE,nmE,toE,tyE,tyC,kidsE,altsE,Sx.strV],trivial,?_⟩
    rw[ExIn]
    refine⟨_,rfl,⟨by omega,by rw[World.size_alloc,size_set9];omega⟩,kid_new (HCS.out u.1 u.2 hM) (λg hg=>⟨by omega,by rw[World.size_alloc,size_set9];omega⟩) (λg hg=>?_) (alloc_at _ _ _ (by rw[size_set9]))⟩
    exact(Below.heap_alloc _ _ _ (by rw[size_set9];omega)).trans (set9_far _ _ _ _ _ _ _ _ _ _ _ _ (by omega))
end Go.Proofs.YtknkclefoiohpaaGreatDoor
