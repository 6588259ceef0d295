/-
  Contracts of the code's functions, part 40.
-/
import Derived.Test.YtmbmjneibkihkaaGreatDoorDaAM
import Derived.Test.YtmbmjneibkihkaaGreatDoorDaF
import Derived.Deep.MidRow
import Derived.Deep.LoopGhost
import Derived.Deep.RegionHeld3
namespace Go.Proofs.YtmbmjneibkihkaaGreatDoor
open Go.RowKit Lx Tx Sx Go.Shelf
set_option maxRecDepth 100000
theorem any_snoc {α:Type}(p:α->Bool)(l:List α)(i:Nat)(x:α)(h:l[i]? = some x):(l.take (i+1)).any p=((l.take i).any p||p x):=by
 rw[List.take_add_one,h]
 simp
theorem LstG.row {α:Type} {P:Pc α} {S:Nat->Prop} {w:World} {l:List α} {A:Option Addr}(h:LstG P S w l A)(i:Nat)(x:α)(hx:l[i]? = some x):∃g cs,A=some ⟨g,0,none⟩/\S g/\P.Cs S w x cs/\w.rangeAt g (i*P.n) cs:=by
 obtain⟨hi,rfl⟩:=List.getElem?_eq_some_iff.1 hx
 obtain⟨g,h1,h2,h3⟩:=h (by intro e;rw[e]at hi;simp at hi)
 obtain⟨cs,h4,h6⟩:=AtG.at_ l g 0 i hi h3
 exact⟨g,cs,h1,h2,h4,by rw[Nat.zero_add]at h6;exact h6⟩
set_option maxHeartbeats 3200000 in
theorem sx_indexC(l:List (Nm × Ty))(S:Nat->Prop)(F:Nat)(pr:Nm × Ty->Bool)(A:Option Addr)(m d:Nat)(w:World)(ek:∀args w,(callFunc F args).run Tryz.prog w=.ok (.enter F args) w)(hl:LstG pcC S w l A)(hm:m=l.length)(hS:∀g,S g->g<w.heap.size)(hn:l.length<=100000)
  (HV:∀x∈l,∀cs W,pcC.Cs S W x cs->(∀g,S g->g<W.heap.size)->Calls Tryz.prog F #[.agg cs.toArray] W λe w'=>e=.returned (.bool (pr x))/\Below W.heap.size W w') :
  Calls Tryz.prog 132 #[.slice A m d,.func (.func F) #[] #[]] w λe w'=>∃r:Int,e=.returned (.int .i64 r)/\decide (0<=r)=l.any pr/\Below w.heap.size w w':=by
 subst hm
 obtain⟨n,hn'⟩:∃n,l.length=n:=⟨_,rfl⟩
 rw[hn']at hn ⊢
 have HN:=hidE hn'
 have HL:=hidE hl
 have HS:=hidE hS
 have HVV:=hidE HV
 clear hl hS HV hn'
 go_enter Tryz.func132,Tryz.ntmps132
 go_wp2_with fail
 go_loopg [8] n (λgg vi wr=>∃i:Nat,gg=n-i/\vi=.int .i64 (i:Nat)/\i<=n/\Hid (Below w.heap.size w wr)/\Hid ((l.take i).any pr=false))
 case atStart=>exact⟨0,rfl,rfl,by omega,hidE (Below.refl _ _),hidE (by simp)⟩
 case round =>
  obtain⟨i,hgg,rfl,hi,hB,hA⟩:=hrel
  have hsr:=hB.out.size
  by_cases hlt:i<n
  ·obtain⟨x,hx⟩:∃x,l[i]? = some x:=⟨_,List.getElem?_eq_getElem (by rw[HN.out];exact hlt)⟩
   obtain⟨g,cs,rfl,hSg,hcs,hrow⟩:=HL.out.row i x hx
   have hkS:∀k,S k->wr.heap[k]? = w.heap[k]?:=λk hk=>hB.out.block k (HS.out k hk)
   have HROW:Hid (wr.rangeAt g (i*5) cs):=hidE (Lie.keep (w:=w) hrow (hkS g hSg))
   have hgl:g<wr.heap.size:=by have:=HS.out g hSg;omega
   have HCALL:=hidE (HVV.out x (List.mem_iff_getElem?.2 ⟨i,hx⟩) cs wr (pcC.keep (λ_ h=>h) hkS hcs) (λk hk=>by have:=HS.out k hk;omega))
   have hlen:=pcC.len hcs
   have HLEN:Hid ((Tryz.prog.info? 61).map (·.size)=some cs.length):=hidE (by rw[hlen];kernel_rfl)
   have HA2:=hidE (any_snoc pr l i x hx)
   obtain⟨q,hq⟩:∃q,pr x=q:=⟨_,rfl⟩
   rw[hq]at HCALL HA2
   have HMEM:=hidE (List.mem_iff_getElem?.2 ⟨i,hx⟩)
   have HQ:=hidE hq
   clear hx hSg hcs hrow hkS hlen hq
   go_wp2_with ((with_reducible refine wpList_load_mid ?_ 61 (.tmp 14) ?_ g (i*5) ?_ cs _ HROW.out Tryz.underlying61 ?_ HLEN.out ?_);(exact rfl);(exact rfl);(exact rfl);(exact rfl))
   refine HCALL.out.mono ?_
   rintro e w2 ⟨rfl,b2⟩
   have B2:=hidE (hB.out.trans (b2.mono (by omega)))
   clear b2 HCALL
   cases q with
   | true =>
    have HANY:Hid (l.any pr=true):=hidE (List.any_eq_true.2 ⟨x,HMEM.out,HQ.out⟩)
    go_wp2_with fail
    go_ret
    refine⟨(i:Int),rfl,?_,B2.out⟩
    rw[HANY.out]
    simp
   | false =>
    have HA3:Hid ((l.take (i+1)).any pr=false):=hidE (by rw[HA2.out,hA.out];rfl)
    go_wp2_with fail
    go_roundg (n-(i+1))
    case measure=>omega
    case rel=>exact⟨i+1,rfl,by go_num,by omega,B2,HA3⟩
  ·obtain rfl:i=n:=by omega
   have HANY:Hid (l.any pr=false):=hidE (by
    have:=hA.out
    rwa [List.take_of_length_le (by rw[HN.out];exact Nat.le_refl _)]at this)
   clear hlt
   go_wp2_with fail
   go_ret
   exact⟨-1,rfl,by rw[HANY.out];decide,hB.out⟩
end Go.Proofs.YtmbmjneibkihkaaGreatDoor

namespace Go.Proofs.YtmbmjneibkihkaaGreatDoor
open Go.RowKit Lx Tx Sx Go.Shelf
set_option maxRecDepth 100000
set_option maxHeartbeats 3200000 in
theorem sx_indexD(l:List De)(S:Nat->Prop)(F:Nat)(pr:De->Bool)(A:Option Addr)(m d:Nat)(w:World)(ek:∀args w,(callFunc F args).run Tryz.prog w=.ok (.enter F args) w)(hl:LstG pcD S w l A)(hm:m=l.length)(hS:∀g,S g->g<w.heap.size)(hn:l.length<=100000)
  (HV:∀x∈l,∀cs W,pcD.Cs S W x cs->(∀g,S g->g<W.heap.size)->Calls Tryz.prog F #[.agg cs.toArray] W λe w'=>e=.returned (.bool (pr x))/\Below W.heap.size W w') :
  Calls Tryz.prog 84 #[.slice A m d,.func (.func F) #[] #[]] w λe w'=>∃r:Int,e=.returned (.int .i64 r)/\decide (0<=r)=l.any pr/\Below w.heap.size w w':=by
 subst hm
 obtain⟨n,hn'⟩:∃n,l.length=n:=⟨_,rfl⟩
 rw[hn']at hn ⊢
 have HN:=hidE hn'
 have HL:=hidE hl
 have HS:=hidE hS
 have HVV:=hidE HV
 clear hl hS HV hn'
 go_enter Tryz.func84,Tryz.ntmps84
 go_wp2_with fail
 go_loopg [8] n (λgg vi wr=>∃i:Nat,gg=n-i/\vi=.int .i64 (i:Nat)/\i<=n/\Hid (Below w.heap.size w wr)/\Hid ((l.take i).any pr=false))
 case atStart=>exact⟨0,rfl,rfl,by omega,hidE (Below.refl _ _),hidE (by simp)⟩
 case round =>
  obtain⟨i,hgg,rfl,hi,hB,hA⟩:=hrel
  have hsr:=hB.out.size
  by_cases hlt:i<n
  ·obtain⟨x,hx⟩:∃x,l[i]? = some x:=⟨_,List.getElem?_eq_getElem (by rw[HN.out];exact hlt)⟩
   obtain⟨g,cs,rfl,hSg,hcs,hrow⟩:=HL.out.row i x hx
   have hkS:∀k,S k->wr.heap[k]? = w.heap[k]?:=λk hk=>hB.out.block k (HS.out k hk)
   have HROW:Hid (wr.rangeAt g (i*17) cs):=hidE (Lie.keep (w:=w) hrow (hkS g hSg))
   have hgl:g<wr.heap.size:=by have:=HS.out g hSg;omega
   have HCALL:=hidE (HVV.out x (List.mem_iff_getElem?.2 ⟨i,hx⟩) cs wr (pcD.keep (λ_ h=>h) hkS hcs) (λk hk=>by have:=HS.out k hk;omega))
   have hlen:=pcD.len hcs
   have HLEN:Hid ((Tryz.prog.info? 59).map (·.size)=some cs.length):=hidE (by rw[hlen];kernel_rfl)
   have HA2:=hidE (any_snoc pr l i x hx)
   obtain⟨q,hq⟩:∃q,pr x=q:=⟨_,rfl⟩
   rw[hq]at HCALL HA2
   have HMEM:=hidE (List.mem_iff_getElem?.2 ⟨i,hx⟩)
   have HQ:=hidE hq
   clear hx hSg hcs hrow hkS hlen hq
   go_wp2_with ((with_reducible refine wpList_load_mid ?_ 59 (.tmp 14) ?_ g (i*17) ?_ cs _ HROW.out Tryz.underlying59 ?_ HLEN.out ?_);(exact rfl);(exact rfl);(exact rfl);(exact rfl))
   refine HCALL.out.mono ?_
   rintro e w2 ⟨rfl,b2⟩
   have B2:=hidE (hB.out.trans (b2.mono (by omega)))
   clear b2 HCALL
   cases q with
   | true =>
    have HANY:Hid (l.any pr=true):=hidE (List.any_eq_true.2 ⟨x,HMEM.out,HQ.out⟩)
    go_wp2_with fail
    go_ret
    refine⟨(i:Int),rfl,?_,B2.out⟩
    rw[HANY.out]
    simp
   | false =>
    have HA3:Hid ((l.take (i+1)).any pr=false):=hidE (by rw[HA2.out,hA.out];rfl)
    go_wp2_with fail
    go_roundg (n-(i+1))
    case measure=>omega
    case rel=>exact⟨i+1,rfl,by go_num,by omega,B2,HA3⟩
  ·obtain rfl:i=n:=by omega
   have HANY:Hid (l.any pr=false):=hidE (by
    have:=hA.out
    rwa [List.take_of_length_le (by rw[HN.out];exact Nat.le_refl _)]at this)
   clear hlt
   go_wp2_with fail
   go_ret
   exact⟨-1,rfl,by rw[HANY.out];decide,hB.out⟩
set_option maxHeartbeats 800000 in
theorem sx_containsC(l:List (Nm × Ty))(S:Nat->Prop)(F:Nat)(pr:(Nm × Ty)->Bool)(A:Option Addr)(m d:Nat)(w:World)(ek:∀args w,(callFunc F args).run Tryz.prog w=.ok (.enter F args) w)(hl:LstG pcC S w l A)(hm:m=l.length)(hS:∀g,S g->g<w.heap.size)(hn:l.length<=100000)
  (HV:∀x∈l,∀cs W,pcC.Cs S W x cs->(∀g,S g->g<W.heap.size)->Calls Tryz.prog F #[.agg cs.toArray] W λe w'=>e=.returned (.bool (pr x))/\Below W.heap.size W w') :
  Calls Tryz.prog 86 #[.slice A m d,.func (.func F) #[] #[]] w λe w'=>e=.returned (.bool (l.any pr))/\Below w.heap.size w w':=by
 have HI:=hidE (sx_indexC l S F pr A m d w ek hl hm hS hn HV)
 obtain⟨q,hq⟩:∃q,l.any pr=q:=⟨_,rfl⟩
 rw[hq]at HI ⊢
 clear hl hm hS hn HV hq ek
 go_enter Tryz.func86,Tryz.ntmps86
 go_wp2_with fail
 refine HI.out.mono ?_
 rintro e w2 ⟨r,rfl,hr,b2⟩
 have B2:=hidE b2
 clear b2 HI
 cases q with
 | true =>
  have h0:(0:Int)<=r:=of_decide_eq_true hr
  clear hr
  go_wp2_with fail
  go_ret
  exact⟨by first|rfl|simp[h0],B2.out⟩
 | false =>
  have h0:¬(0:Int)<=r:=of_decide_eq_false hr
  clear hr
  go_wp2_with fail
  go_ret
  exact⟨by first|rfl|simp[h0],B2.out⟩
set_option maxHeartbeats 800000 in
theorem sx_containsD(l:List De)(S:Nat->Prop)(F:Nat)(pr:De->Bool)(A:Option Addr)(m d:Nat)(w:World)(ek:∀args w,(callFunc F args).run Tryz.prog w=.ok (.enter F args) w)(hl:LstG pcD S w l A)(hm:m=l.length)(hS:∀g,S g->g<w.heap.size)(hn:l.length<=100000)
  (HV:∀x∈l,∀cs W,pcD.Cs S W x cs->(∀g,S g->g<W.heap.size)->Calls Tryz.prog F #[.agg cs.toArray] W λe w'=>e=.returned (.bool (pr x))/\Below W.heap.size W w') :
  Calls Tryz.prog 38 #[.slice A m d,.func (.func F) #[] #[]] w λe w'=>e=.returned (.bool (l.any pr))/\Below w.heap.size w w':=by
 have HI:=hidE (sx_indexD l S F pr A m d w ek hl hm hS hn HV)
 obtain⟨q,hq⟩:∃q,l.any pr=q:=⟨_,rfl⟩
 rw[hq]at HI ⊢
 clear hl hm hS hn HV hq ek
 go_enter Tryz.func38,Tryz.ntmps38
 go_wp2_with fail
 refine HI.out.mono ?_
 rintro e w2 ⟨r,rfl,hr,b2⟩
 have B2:=hidE b2
 clear b2 HI
 cases q with
 | true =>
  have h0:(0:Int)<=r:=of_decide_eq_true hr
  clear hr
  go_wp2_with fail
  go_ret
  exact⟨by first|rfl|simp[h0],B2.out⟩
 | false =>
  have h0:¬(0:Int)<=r:=of_decide_eq_false hr
  clear hr
  go_wp2_with fail
  go_ret
  exact⟨by first|rfl|simp[h0],B2.out⟩
end Go.Proofs.YtmbmjneibkihkaaGreatDoor

namespace Go.Proofs.YtmbmjneibkihkaaGreatDoor
open Go.RowKit Lx Tx Sx Go.Shelf
set_option maxRecDepth 100000
set_option maxHeartbeats 800000 in
theorem sx_conDeep(c:Nm × Ty)(S:Nat->Prop)(cs:List Value)(w:World)(hc:pcC.Cs S w c cs)(hS:∀g,S g->g<w.heap.size)(hsz:c.2.size<=1000000) :
  Calls Tryz.prog 87 #[.agg cs.toArray] w λe w'=>e=.returned (.bool (decide (50<c.2.depth)))/\Below w.heap.size w w':=by
 obtain⟨A,a,rfl,hA⟩:=hc
 obtain⟨X0,hX0⟩:∃X:ByteArray,⟨c.1.toArray⟩=X:=⟨_,rfl⟩
 have hTT:=λ(W:World) (hW:Below w.heap.size w W)=>sx_typeDeep (some c.2) S (kd c.2:Nat) (nmB c.2) (nn c.2:Nat) A (kids c.2).length a W (by simpa[tyW] using hsz) (show RdV S W c.2 _ from⟨A,a,rfl,Args.keep (λ_ h=>h) (λg hg=>hW.block g (hS g hg)) _ _ hA⟩) (λg hg=>by have:=hS g hg;have:=hW.size;omega)
 unfold tyV Sx.strV
 rw[hX0]
 obtain⟨K,hK⟩:∃y:Int,(kd c.2:Nat)=y:=⟨_,rfl⟩
 obtain⟨X,hX⟩:∃y,nmB c.2=y:=⟨_,rfl⟩
 obtain⟨Z,hZ⟩:∃y:Int,(nn c.2:Nat)=y:=⟨_,rfl⟩
 obtain⟨m,hm⟩:∃y,(kids c.2).length=y:=⟨_,rfl⟩
 obtain⟨q,hq⟩:∃q,deepO (some c.2)=q:=⟨_,rfl⟩
 rw[hK,hX,hZ,hm,hq]at hTT
 rw[hK,hX,hZ,hm,show decide (50<c.2.depth)=q from hq]
 have hTT:=hTT (w.alloc (.cells #[.string X0,.int .i64 K,.string X,.int .i64 Z,.slice A m a] 61)) ((Below.refl _ w).alloc (Nat.le_refl _) _)
 have HT:=hidE hTT
 clear hTT hK hX hZ hm hq hA hS hsz hX0
 go_enter Tryz.func87,Tryz.ntmps87
 go_wp2_with fail
 refine HT.out.mono ?_
 rintro e w2 ⟨rfl,b2⟩
 have B2:=hidE (((Below.refl w.heap.size w).alloc (Nat.le_refl _) (.cells #[.string X0,.int .i64 K,.string X,.int .i64 Z,.slice A m a] 61)).trans (b2.mono (by simp)))
 clear b2 HT
 go_wp2_with fail
 go_ret
 exact⟨rfl,B2.out⟩
set_option maxHeartbeats 3200000 in
theorem sx_declDeepG(k0:Int)(s:ByteArray)(V:Option Addr)(vm vq:Nat)(G:Option Addr)(gm gq:Nat)(K0:Int)(X0:ByteArray)(Z0:Int)(B0:Option Addr)(m0 q0:Nat)(k:Int)(x:ByteArray)(t:Bool)(K:Int)(X:ByteArray)(Z:Int)(B:Option Addr)(m q:Nat)(KA:Option Addr)(kn kc:Nat)(LA:Option Addr)(ln lc:Nat)(q1 q2 q3:Bool)(w:World)
  (HT:∀W,Below w.heap.size w W->Calls Tryz.prog 85 #[.agg #[.int .i64 K0,.string X0,.int .i64 Z0,.slice B0 m0 q0]] W λe w'=>e=.returned (.bool q1)/\Below W.heap.size W w')
  (HE:∀W,Below w.heap.size w W->Calls Tryz.prog 51 #[.agg #[.int .i64 k,.string x,.bool t,.int .i64 K,.string X,.int .i64 Z,.slice B m q,.slice KA kn kc,.slice LA ln lc]] W λe w'=>e=.returned (.bool q2)/\Below W.heap.size W w')
  (HC:∀W,Below w.heap.size w W->Calls Tryz.prog 86 #[.slice G gm gq,.func (.func 87) #[] #[]] W λe w'=>e=.returned (.bool q3)/\Below W.heap.size W w') :
  Calls Tryz.prog 39 #[.agg #[.int .i64 k0,.string s,.slice V vm vq,.slice G gm gq,.int .i64 K0,.string X0,.int .i64 Z0,.slice B0 m0 q0,.int .i64 k,.string x,.bool t,.int .i64 K,.string X,.int .i64 Z,.slice B m q,.slice KA kn kc,.slice LA ln lc]] w λe w'=>e=.returned (.bool (q1 ||(q2||q3)))/\Below w.heap.size w w':=by
 obtain⟨W0,hW0⟩:∃W,w.alloc (.cells #[.int .i64 k0,.string s,.slice V vm vq,.slice G gm gq,.int .i64 K0,.string X0,.int .i64 Z0,.slice B0 m0 q0,.int .i64 k,.string x,.bool t,.int .i64 K,.string X,.int .i64 Z,.slice B m q,.slice KA kn kc,.slice LA ln lc] 59)=W:=⟨_,rfl⟩
 have hb0:Below w.heap.size w W0:=hW0▸(Below.refl _ w).alloc (Nat.le_refl _) _
 have hbx:Blk W0 w.heap.size 59 #[.int .i64 k0,.string s,.slice V vm vq,.slice G gm gq,.int .i64 K0,.string X0,.int .i64 Z0,.slice B0 m0 q0,.int .i64 k,.string x,.bool t,.int .i64 K,.string X,.int .i64 Z,.slice B m q,.slice KA kn kc,.slice LA ln lc]:=hW0▸heap_alloc_new _ _
 have HBX:=hidE hbx
 have HB0:=hidE hb0
 have H1:=hidE (HT W0 hb0)
 have HHE:=hidE HE
 have HHC:=hidE HC
 obtain⟨⟨g0,g1,g2,g3,g4,g5,g6,g7,g8,g9,g10,g11,g12,g13,g14,g15,g16⟩,-,hlg⟩:=blk_facts17 hbx
 subst hW0
 clear hb0 hbx HT HE HC g0 g1 g2 g3 g4 g5 g6 g7 g8 g9 g10 g11 g12 g13 g14 g15 g16 hlg
 go_enter Tryz.func39,Tryz.ntmps39
 go_wp2_with fail
 refine H1.out.mono ?_
 rintro e w1 ⟨rfl,b1⟩
 have HB1:=hidE (HB0.out.trans (b1.mono HB0.out.size))
 have HBX:=hidE (HBX.out.below b1 HBX.out.lt)
 clear b1 H1
 cases q1 with
 | true =>
  go_wp2_with fail
  go_ret
  exact⟨rfl,HB1.out⟩
 | false =>
  obtain⟨⟨g0,g1,g2,g3,g4,g5,g6,g7,g8,g9,g10,g11,g12,g13,g14,g15,g16⟩,-,hlg⟩:=blk_facts17 HBX.out
  have H2:=hidE (HHE.out w1 HB1.out)
  go_wp2_with fail
  refine H2.out.mono ?_
  rintro e w2 ⟨rfl,b2⟩
  have HB2:=hidE (HB1.out.trans (b2.mono HB1.out.size))
  have HBX:=hidE (HBX.out.below b2 HBX.out.lt)
  clear b2 H2 g0 g1 g2 g3 g4 g5 g6 g7 g8 g9 g10 g11 g12 g13 g14 g15 g16 hlg
  cases q2 with
  | true =>
   go_wp2_with fail
   go_ret
   exact⟨rfl,HB2.out⟩
  | false =>
   obtain⟨⟨g0,g1,g2,g3,g4,g5,g6,g7,g8,g9,g10,g11,g12,g13,g14,g15,g16⟩,-,hlg⟩:=blk_facts17 HBX.out
   have H3:=hidE (HHC.out w2 HB2.out)
   go_wp2_with fail
   refine H3.out.mono ?_
   rintro e w3 ⟨rfl,b3⟩
   have HB3:=hidE (HB2.out.trans (b3.mono HB2.out.size))
   clear b3 H3
   go_wp2_with fail
   go_ret
   exact⟨rfl,HB3.out⟩
theorem consW_mem(l:List (Nm × Ty))(c:Nm × Ty)(h:c∈l):c.2.size<=consW l:=by
 induction l with
 | nil=>cases h
 | cons a r ih =>
  rcases List.mem_cons.1 h with rfl|h
  ·simp only[consW,conW];omega
  ·have:=ih h;simp only[consW];omega
theorem consW_len(l:List (Nm × Ty)):l.length<=consW l:=by
 induction l with
 | nil=>simp[consW]
 | cons a r ih=>simp only[consW,conW,List.length_cons];omega
theorem sx_declDeep(d:De)(S:Nat->Prop)(cs:List Value)(w:World)(hc:pcD.Cs S w d cs)(hS:∀g,S g->g<w.heap.size)(hw:d.wt<=4000) :
  Calls Tryz.prog 39 #[.agg cs.toArray] w λe w'=>e=.returned (.bool d.tooDeep)/\Below w.heap.size w w':=by
 have ek:∀args w,(callFunc 87 args).run Tryz.prog w=.ok (.enter 87 args) w:=enters_of Tryz.func87 (by kernel_rfl) rfl
 have hSS:∀W,Below w.heap.size w W->∀g,S g->g<W.heap.size:=λW hW g hg=>by have:=hS g hg;have:=hW.size;omega
 have hT0:∀W:World,Calls Tryz.prog 85 #[.agg #[.int .i64 0,.string ⟨#[]⟩,.int .i64 0,.slice none 0 0]] W λe w'=>e=.returned (.bool false)/\Below W.heap.size W w':=λW =>
  sx_typeDeep none (λ_=>False) 0 ⟨#[]⟩ 0 none 0 0 W (by simp[tyW]) rfl (λ_ h=>h.elim)
 have hC0:∀W:World,Calls Tryz.prog 86 #[.slice none 0 0,.func (.func 87) #[] #[]] W λe w'=>e=.returned (.bool false)/\Below W.heap.size W w':=λW =>
  sx_containsC [] (λ_=>False) 87 (λc=>decide (50<c.2.depth)) none 0 0 W ek (λh=>absurd rfl h) rfl (λ_ h=>h.elim) (by simp) (λx h=>by cases h)
 cases d with
 | data n ps l =>
  obtain⟨V,v,A,a,rfl,-,hl⟩:=hc
  have hwl:consW l<=4000:=by simp only[De.wt]at hw;omega
  have:=sx_declDeepG 1 ⟨n.toArray⟩ V ps.length v A l.length a 0 ⟨#[]⟩ 0 none 0 0 0 ⟨#[]⟩ false 0 ⟨#[]⟩ 0 none 0 0 none 0 0 none 0 0 false false (l.any λc=>decide (50<c.2.depth)) w (λW _=>hT0 W) (λW _=>sx_tooDeep0 W)
   (λW hW=>sx_containsC l S _ (λc=>decide (50<c.2.depth)) A l.length a W ek (hl.keep (λ_ h=>h) (λg hg=>hW.block g (hS g hg))) rfl (hSS W hW) (by have:=consW_len l;omega)
    (λx hx cs W2 hc hS2=>sx_conDeep x S cs W2 hc hS2 (by have:=consW_mem l x hx;omega)))
  exact this
 | sig x t =>
  obtain⟨A,a,rfl,hA⟩:=hc
  have:=sx_declDeepG 2 ⟨x.toArray⟩ none 0 0 none 0 0 (kd t:Nat) (nmB t) (nn t:Nat) A (kids t).length a 0 ⟨#[]⟩ false 0 ⟨#[]⟩ 0 none 0 0 none 0 0 none 0 0 (decide (50<t.depth)) false false w
   (λW hW=>sx_typeDeep (some t) S (kd t:Nat) (nmB t) (nn t:Nat) A (kids t).length a W (by simp only[De.wt]at hw;simp only[tyW];omega) (show RdV S W t _ from⟨A,a,rfl,Args.keep (λ_ h=>h) (λg hg=>hW.block g (hS g hg)) _ _ hA⟩) (hSS W hW)) (λW _=>sx_tooDeep0 W) (λW _=>hC0 W)
  rw[show(decide (50<t.depth) ||(false||false))=(De.sig x t).tooDeep by simp[De.tooDeep]]at this
  exact this
 | bind x e =>
  obtain⟨P,rfl,h2,h3⟩:=hc
  have hX:∀W,Below w.heap.size w W->RdX S W e (.agg (exC e P).toArray):=λW hW=>⟨P,rfl,h2.keep (λ_ h=>h) (λg hg=>hW.block g (hS g hg)),ExIn.keep (λ_ h=>h) (λg hg=>hW.block g (hS g hg)) e _ _ h3⟩
  obtain⟨K,X,Z,B,m,q,hs⟩:=tyC_shape (tyE e) P.A P.a
  have hL:exC e P=[.int .i64 (kdE e:Nat),.string ⟨(nmE e).toArray⟩,.bool (toE e),.int .i64 K,.string X,.int .i64 Z,.slice B m q,.slice P.K (kidsE e).length ((kidsE e).length+P.k),.slice P.L (altsE e).length P.l]:=by rw[exC,hs];rfl
  rw[hL]at hX ⊢
  have:=sx_declDeepG 3 ⟨x.toArray⟩ none 0 0 none 0 0 0 ⟨#[]⟩ 0 none 0 0 (kdE e:Nat) ⟨(nmE e).toArray⟩ (toE e) K X Z B m q P.K (kidsE e).length ((kidsE e).length+P.k) P.L (altsE e).length P.l false e.tooDeep false w (λW _=>hT0 W)
   (λW hW=>sx_tooDeep e S _ W (by have:=Sx.size_wt e;simp only[De.wt]at hw;omega) (by simp only[De.wt]at hw;omega) (hX W hW) (hSS W hW)) (λW _=>hC0 W)
  rw[show(false ||(e.tooDeep||false))=(De.bind x e).tooDeep by simp[De.tooDeep]]at this
  exact this
end Go.Proofs.YtmbmjneibkihkaaGreatDoor

namespace Go.Proofs.YtmbmjneibkihkaaGreatDoor
open Go.RowKit Lx Tx Sx Go.Shelf
set_option maxRecDepth 100000
def endP(o:Option (List De × List Tok)):Except Nat (List De):=match o with|some (e,[])=>.ok e|_=>.error 80
def parse0P(s:List UInt8):Except Nat (List De):=match scanS s with|(ts,_,0)=>endP (rdProg ts)|(_,_,e)=>.error e
def deepP(o:Except Nat (List De)):Except Nat (List De):=match o with|.ok l=>if l.any De.tooDeep=true then .error 3 else .ok l|.error n=>.error n
theorem parseP_eq(s:List UInt8):parseP s=deepP (parse0P s):=by
 unfold parseP parse0P deepP
 rcases scanS s with⟨ts,a,er⟩
 cases er with
 | zero =>
  simp only[endP]
  rcases rdProg ts with _|⟨e,r⟩
  ·rfl
  ·cases r <;> rfl
 | succ n=>rfl
theorem parse0P_err(s:List UInt8)(ts:List Tok)(a er:Nat)(h:scanS s=(ts,a,er))(he:er≠0):parse0P s=.error er:=by
 unfold parse0P
 rw[h]
 cases er with
 | zero=>exact absurd rfl he
 | succ n=>rfl
theorem parse0P_ok(s:List UInt8)(ts:List Tok)(a:Nat)(h:scanS s=(ts,a,0)):parse0P s=endP (rdProg ts):=by
 unfold parse0P
 rw[h]
 rfl
def WhP(s:List UInt8)(w:World)(e:Ending)(w':World):Prop :=
 Below w.heap.size w w' /\
  ((∃n,n≠0/\parse0P s=.error n/\e=.returned (.tuple #[.slice none 0 0,.int .i64 (n:Nat)])) \/
   (∃p L m d,(∀x∈p,De.Ok x)/\desW p<=4000/\parse0P s=.ok p/\e=.returned (.tuple #[.slice L m d,.int .i64 0])/\m=p.length/\LstG pcD (λg=>w.heap.size<=g/\g<w'.heap.size) w' p L))
set_option maxHeartbeats 6400000 in
theorem sx_WholeP(s:ByteArray)(gf:Nat)(w:World)(hs:s.size<=maxLen)(hc:w.cell? ⟨gf,0,none⟩=some (.func (.func 37) #[] #[])) :
  Calls Tryz.prog 35 #[.string s,.func (.func 81) #[] #[.pointer (some ⟨gf,0,none⟩)],.int .i64 80] w (WhP s.data.toList w):=by
 have ek:∀args w,(callFunc 81 args).run Tryz.prog w=.ok (.enter 81 args) w:=enters_of Tryz.func81 (by kernel_rfl) rfl
 have hgl:=lt_cell hc
 have HC:Hid (∀V,Below w.heap.size w V->V.cell? ⟨gf,0,none⟩=some (.func (.func 37) #[] #[])):=hidE λV hV =>
  (World.cell?_of_block (w:=w) (a:=⟨gf,0,none⟩) (hV.block gf hgl)).trans hc
 clear hc
 go_enter Tryz.func35,Tryz.ntmps35
 go_wp2_with fail
 refine(scan_any s _ hs).mono ?_
 rintro e w1 ⟨b1,v,ts,a,er,hsc,rfl,hown⟩
 have hs1:=b1.size
 have HSC:=hidE hsc
 have HTK:=hidE (toks_of_own rfl hown)
 have hcf:=HC.out w1 b1
 have B1:=hidE b1
 by_cases he:er=0
 ·subst he
  obtain⟨hG,hL⟩:=scan_good _ _ _ HSC.out
  have HR:=hidE (sx_aheadP _ gf ts v w1 HTK.out (λ_ h=>h) hG (by omega) hcf)
  obtain⟨O,hO⟩:∃O,rdProg ts=O:=⟨_,rfl⟩
  rw[hO]at HR
  have HP:Hid (parse0P s.data.toList=endP O):=hidE (by rw[parse0P_ok _ _ _ HSC.out,hO])
  have HSZ:Hid (∀x r,O=some (x,r)->(∀d∈x,De.Ok d)/\desW x<=4000):=hidE λx r h=>by
   obtain⟨o1,-,o3⟩:=rdProg_facts hG (hO.trans h)
   exact⟨o1,by omega⟩
  clear hO hG b1 hsc hown hcf
  go_wp2_with fail
  refine HR.out.mono ?_
  rintro e w2 ⟨b2,L,m,d,A2,n,c2,q,rfl,hno,hyes⟩
  have hs2:=b2.size
  have BW:=hidE (B1.out.trans (b2.mono (by omega)))
  have HNO:=hidE hno
  have HYES:=hidE hyes
  clear b2 hno hyes HR
  cases q with
  | false =>
   have HP2:Hid (parse0P s.data.toList=.error 80):=hidE (by rw[HP.out,HNO.out rfl];rfl)
   clear HNO HYES
   go_wp2_with fail
   go_ret2
   exact⟨BW.out,.inl ⟨80,by decide,HP2.out,rfl⟩⟩
  | true =>
   obtain⟨x,r,ho,hn,hm,hx⟩:=HYES.out rfl
   replace hn:=hn.symm
   obtain⟨hok,hwt⟩:=HSZ.out x r ho
   have HX:=hidE hx
   have HOK:=hidE hok
   have HM:=hidE hm
   clear HNO HYES hx hok hm
   by_cases hn0:n=0
   ·subst hn0
    obtain rfl:r=[]:=List.length_eq_zero_iff.1 hn
    have HP2:Hid (parse0P s.data.toList=.ok x):=hidE (by rw[HP.out,ho];rfl)
    clear hn ho
    go_wp2_with fail
    go_ret2
    exact⟨BW.out,.inr ⟨x,L,m,d,HOK.out,hwt,HP2.out,rfl,HM.out,HX.out.keep (λg hg=>⟨by omega,hg.2⟩) (λ_ _=>rfl)⟩⟩
   ·have HP2:Hid (parse0P s.data.toList=.error 80):=hidE (by
     rw[HP.out,ho]
     cases r with
     | nil=>exact absurd hn.symm hn0
     | cons a r=>rfl)
    have hnpos:0<n:=by omega
    clear hn ho hn0
    go_wp2_with fail
    go_ret2
    exact⟨BW.out,.inl ⟨80,by decide,HP2.out,rfl⟩⟩
 ·have HP:=hidE (parse0P_err _ _ _ _ HSC.out he)
  have dn:((er:Int) != 0)=true:=neqT _ _ (by omega)
  have HE:=hidE he
  clear he b1 hsc hown hcf
  go_wp2_with fail
  go_ret2
  exact⟨B1.out,.inl ⟨er,HE.out,HP.out,rfl⟩⟩
set_option maxHeartbeats 800000 in
theorem sx_mkP(w:World):Calls Tryz.prog 36 #[.func (.func 37) #[] #[]] w λe w' =>
  e=.returned (.func (.func 81) #[] #[.pointer (some ⟨w.heap.size,0,none⟩)])/\w'=w.alloc (.cells #[.func (.func 37) #[] #[]] 74):=by
 have mk:∀(W:World) (p:Addr),(Instr.makeFunc (.func 81) #[] #[.pointer (some p)]).run Tryz.prog W=.ok (.func (.func 81) #[] #[.pointer (some p)]) W:=λ_ _=>rfl
 go_enter Tryz.func36,Tryz.ntmps36
 go_wp2_with fail
 go_ret
 exact⟨rfl,rfl⟩
def QPost(s:List UInt8)(w:World)(e:Ending)(w':World):Prop :=
 Below w.heap.size w w' /\
  ((∃n,n≠0/\parseP s=.error n/\e=.returned (.tuple #[.slice none 0 0,.int .i64 (n:Nat)])) \/
   (∃p L m d,(∀x∈p,De.Ok x)/\desW p<=4000/\parseP s=.ok p/\e=.returned (.tuple #[.slice L m d,.int .i64 0])/\m=p.length/\LstG pcD (λg=>w.heap.size<=g/\g<w'.heap.size) w' p L))
theorem desW_mem(l:List De)(d:De)(h:d∈l):d.wt<=desW l:=by
 induction l with
 | nil=>cases h
 | cons a r ih =>
  rcases List.mem_cons.1 h with rfl|h
  ·simp only[desW];omega
  ·have:=ih h;simp only[desW];omega
theorem desW_len(l:List De):l.length<=desW l:=by
 induction l with
 | nil=>simp[desW]
 | cons a r ih=>cases a <;> simp only[desW,De.wt,List.length_cons] <;> omega
set_option maxHeartbeats 3200000 in
theorem sx_parse(s:ByteArray)(w:World)(hs:s.size<=maxLen):Calls Tryz.prog 9 #[.string s] w (QPost s.data.toList w):=by
 have ek:∀args w,(callFunc 39 args).run Tryz.prog w=.ok (.enter 39 args) w:=enters_of Tryz.func39 (by kernel_rfl) rfl
 obtain⟨W0,hW0⟩:∃W,w.alloc (.cells #[.func (.func 37) #[] #[]] 74)=W:=⟨_,rfl⟩
 have hs0:W0.heap.size=w.heap.size+1:=by rw[<-hW0];simp
 have hf0:Blk W0 w.heap.size 74 #[.func (.func 37) #[] #[]]:=hW0▸heap_alloc_new _ _
 have hb0:Below w.heap.size w W0:=hW0▸(Below.refl _ w).alloc (Nat.le_refl _) _
 have HWH:=hidE (sx_WholeP s w.heap.size W0 hs (hf0.cell 0))
 have B0:=hidE hb0
 clear hf0 hb0
 go_enter Tryz.func9,Tryz.ntmps9
 go_wp2_with fail
 refine(sx_mkP _).mono ?_
 rintro e w0 ⟨rfl,rfl⟩
 try rw[hW0]
 go_wp2_with fail
 try rw[hW0]
 refine HWH.out.mono ?_
 rintro e w1 ⟨b1,hcases⟩
 have hs1:=b1.size
 have B1:=hidE (B0.out.trans (b1.mono (by omega)))
 clear HWH b1
 try clear hW0
 rcases hcases with⟨n,hn,hp,rfl⟩|⟨p,L,m,d,hok,hwt,hp,rfl,hm,hx⟩
 ·have HP:Hid (n≠0/\parseP s.data.toList=.error n):=hidE ⟨hn,by rw[parseP_eq,hp];rfl⟩
  have HD:=hidE (sx_containsD [] (λ_=>False) 39 De.tooDeep none 0 0 w1 ek (λh=>absurd rfl h) rfl (λ_ h=>h.elim) (by simp) (λx h=>by cases h))
  clear hn hp ek
  go_wp2_with fail
  refine HD.out.mono ?_
  rintro e w2 ⟨rfl,b2⟩
  have B2:=hidE (B1.out.trans (b2.mono (by omega)))
  clear b2 HD
  rw[show([]:List De).any De.tooDeep=false from rfl]
  go_wp2_with fail
  go_ret2
  exact⟨B2.out,.inl ⟨n,HP.out.1,HP.out.2,rfl⟩⟩
 ·have HD:=hidE (sx_containsD p _ 39 De.tooDeep L m d w1 ek hx hm (λg hg=>by have:=hg.2;omega) (by have:=desW_len p;omega) (λx h cs W hc hS=>sx_declDeep x _ cs W hc hS (by have:=desW_mem p x h;omega)))
  have HP:Hid (parseP s.data.toList=if p.any De.tooDeep=true then .error 3 else .ok p):=hidE (by rw[parseP_eq,hp];rfl)
  obtain⟨q,hq⟩:∃q,p.any De.tooDeep=q:=⟨_,rfl⟩
  rw[hq]at HD HP
  have HX:=hidE hx
  have HOK:=hidE hok
  have HM:=hidE hm
  clear hp hx hq hok hm ek
  go_wp2_with fail
  refine HD.out.mono ?_
  rintro e w2 ⟨rfl,b2⟩
  have hs2:=b2.size
  have B2:=hidE (B1.out.trans (b2.mono (by omega)))
  have HX2:=hidE (HX.out.keep (S':=λg=>W0.heap.size<=g/\g<w2.heap.size) (λg hg=>⟨hg.1,by omega⟩) (λg hg=>b2.block g hg.2))
  clear b2 HD
  cases q with
  | true =>
   go_wp2_with fail
   go_ret2
   exact⟨B2.out,.inl ⟨3,by decide,by rw[HP.out];simp,rfl⟩⟩
  | false =>
   go_wp2_with fail
   go_ret2
   exact⟨B2.out,.inr ⟨p,L,m,d,HOK.out,hwt,by rw[HP.out];simp,rfl,HM.out,HX2.out.keep (λg hg=>⟨by omega,hg.2⟩) (λ_ _=>rfl)⟩⟩
end Go.Proofs.YtmbmjneibkihkaaGreatDoor

namespace Go.Proofs.YtmbmjneibkihkaaGreatDoor
open Go.RowKit Lx Tx Sx Go.Shelf
set_option maxRecDepth 100000
def evW:Ev->Int
 | .use _=>0
 | .cn _=>1
 | .bi _=>2
 | .beg _=>3
 | .fin _=>4
def evN:Ev->List Nm
 | .use x=>[x]
 | .cn c=>[c]
 | .bi xs=>xs
 | .beg xs=>xs
 | .fin xs=>xs
def evL:Ev->Nat
 | .bi xs=>xs.length+1
 | .use _=>1
 | .cn _=>1
 | .beg xs=>xs.length
 | .fin xs=>xs.length
theorem evL_or(ev:Ev):evL ev=(evN ev).length\/evL ev=(evN ev).length+1:=by cases ev <;> simp[evL,evN]
def cost(l:List Ev):Nat:=(l.map evL).sum
theorem cost_nil:cost []=0:=rfl
theorem cost_cons(v:Ev)(l:List Ev):cost (v::l)=evL v+cost l:=by simp[cost]
theorem cost_append(a b:List Ev):cost (a++b)=cost a+cost b:=by simp[cost]
section
variable {σ:Type}
def runS(st:Ev->σ->σ)(l:List Ev)(s:σ):σ:=l.foldl (λs v=>st v s) s
theorem runS_append(st:Ev->σ->σ)(a b:List Ev)(s:σ):runS st (a++b) s=runS st b (runS st a s):=by unfold runS;rw[List.foldl_append]
theorem runS_cons(st:Ev->σ->σ)(v:Ev)(l:List Ev)(s:σ):runS st (v::l) s=runS st l (st v s):=rfl
structure InvS (I:Nat->σ->(Nat->Prop)->World->Prop):Prop where
 lt:∀c s M w,I c s M w->∀g,M g->g<w.heap.size
 keep:∀c s M w w',I c s M w->w.heap.size<=w'.heap.size->(∀g,M g->w'.heap[g]? = w.heap[g]?)->I c s M w'
 up:∀c s M w,I c s M w->I (c+1) s M w
structure InvB (I:Nat->σ->(Nat->Prop)->World->Prop):Prop where
 lt:∀c s M w,I c s M w->∀g,M g->g<w.heap.size
 keep:∀c s M w w',I c s M w->Below w.heap.size w w'->I c s M w'
theorem InvS.toB {I:Nat->σ->(Nat->Prop)->World->Prop}(h:InvS I):InvB I:=⟨h.lt,λc s M w w' hi hb=>h.keep c s M w w' hi hb.size (λg hg=>hb.block g (h.lt c s M w hi g hg))⟩
def Sta(I:Nat->σ->(Nat->Prop)->World->Prop)(M0:Nat->Prop)(w0:World)(c:Nat)(s:σ)(W:World):Prop :=
 ∃M,I c s M W/\(∀g,M g->M0 g\/w0.heap.size<=g)/\Chg M0 w0 W
theorem Sta.init {I:Nat->σ->(Nat->Prop)->World->Prop} {M:Nat->Prop} {w:World} {c:Nat} {s:σ}(h:I c s M w):Sta I M w c s w:=⟨M,h,λ_ h=>.inl h,Chg.refl _ _⟩
theorem Sta.size {I:Nat->σ->(Nat->Prop)->World->Prop} {M0:Nat->Prop} {w0 W:World} {c:Nat} {s:σ}(h:Sta I M0 w0 c s W):w0.heap.size<=W.heap.size:=by obtain⟨M,_,_,h⟩:=h;exact h.size
theorem Sta.block {I:Nat->σ->(Nat->Prop)->World->Prop} {M0:Nat->Prop} {w0 W:World} {c:Nat} {s:σ}(h:Sta I M0 w0 c s W)(k:Nat)(hk:k<w0.heap.size)(hm:¬M0 k):W.heap[k]? = w0.heap[k]?:=by obtain⟨M,_,_,h⟩:=h;exact h.block k hk hm
theorem Sta.below {I:Nat->σ->(Nat->Prop)->World->Prop}(hI:InvB I) {M0:Nat->Prop} {w0 W W':World} {c:Nat} {s:σ}(h:Sta I M0 w0 c s W)(hb:Below W.heap.size W W'):Sta I M0 w0 c s W':=by
 obtain⟨M,h1,h2,h3⟩:=h
 exact⟨M,hI.keep _ _ _ _ _ h1 hb,h2,h3.below hb⟩
theorem Sta.alloc {I:Nat->σ->(Nat->Prop)->World->Prop}(hI:InvB I) {M0:Nat->Prop} {w0 W:World} {c:Nat} {s:σ}(h:Sta I M0 w0 c s W)(o:Obj):Sta I M0 w0 c s (W.alloc o):=h.below hI ((Below.refl _ W).alloc (Nat.le_refl _) o)
theorem Sta.up {I:Nat->σ->(Nat->Prop)->World->Prop}(hI:InvS I) {M0:Nat->Prop} {w0 W:World} {c:Nat} {s:σ}(h:Sta I M0 w0 c s W):Sta I M0 w0 (c+1) s W:=by
 obtain⟨M,h1,h2,h3⟩:=h
 exact⟨M,hI.up _ _ _ _ h1,h2,h3⟩
theorem Sta.call {I:Nat->σ->(Nat->Prop)->World->Prop} {M0:Nat->Prop} {w0 W:World} {c c':Nat} {s s':σ}(h:Sta I M0 w0 c s W) {P:Program} {F:Nat} {args:Array Value}
  (hc:∀M,I c s M W->(∀g,M g->M0 g\/w0.heap.size<=g)->Calls P F args W λe w'=>e=.returned (.tuple #[])/\Sta I M W c' s' w') :
  Calls P F args W λe w'=>e=.returned (.tuple #[])/\Sta I M0 w0 c' s' w':=by
 obtain⟨M,h1,h2,h3⟩:=h
 refine(hc M h1 h2).mono ?_
 rintro e w' ⟨rfl,M',k1,k2,k3⟩
 refine⟨rfl,M',k1,λg hg=>?_,h3.trans' k3 (λi hi hm=>?_)⟩
 ·rcases k2 g hg with h|h
  ·exact h2 g h
  ·exact .inr (Nat.le_trans h3.size h)
 ·rcases h2 i hm with h|h
  ·exact h
  ·omega
def VisE(k:Nat)(caps:Array Value)(B:Nat)(I:Nat->σ->(Nat->Prop)->World->Prop)(st:Ev->σ->σ):Prop :=
 ∀(c:Nat) (s:σ) (M:Nat->Prop) (ev:Ev) (S:Nat->Prop) (V:Option Addr) (v:Nat) (w:World),I c s M w->NmsIn S w (evN ev) V->(∀g,S g->g<w.heap.size/\¬M g)->(∀x∈evN ev,x.length<=24)->c+evL ev<=B ->
  Calls Tryz.prog k (#[.int .i64 (evW ev),.slice V (evN ev).length v]++caps) w λe w'=>e=.returned (.tuple #[])/\Sta I M w (c+evL ev) (st ev s) w'
def WalkOK(n k:Nat)(caps:Array Value)(B:Nat)(I:Nat->σ->(Nat->Prop)->World->Prop)(st:Ev->σ->σ):Prop :=
 ∀(c:Nat) (s:σ) (M:Nat->Prop) (e:Ex) (S:Nat->Prop) (v:Value) (w:World),e.size<=n->I c s M w->RdX S w e v->(∀g,S g->g<w.heap.size/\¬M g)->e.Ok->c+cost (evs e)<=B ->
  Calls Tryz.prog 117 #[v,.func (.func k) #[] caps] w λe' w'=>e'=.returned (.tuple #[])/\Sta I M w (c+cost (evs e)) (runS st (evs e) s) w'
end
def PartsAt(S:Nat->Prop)(w:World)(l:List Ex)(A:Option Addr):Prop:=l≠[]->∃g o,A=some ⟨g,o,none⟩/\S g/\ExsAt S w l g o
theorem Sx.ExsAt.keep {S S':Nat->Prop} {w w':World}(hS:∀g,S g->S' g)(hk:∀g,S g->w'.heap[g]? = w.heap[g]?):(l:List Ex)->∀g o,w'.heap[g]? = w.heap[g]?->ExsAt S w l g o->ExsAt S' w' l g o
 | [],_,_,_,_=>by rw[ExsAt];trivial
 | e::r,g,o,hg,h=>by
  rw[ExsAt]at h ⊢
  exact⟨h.1.keep hS hk hg,Sx.ExsAt.keep hS hk r g (o+9) hg h.2⟩
theorem PartsAt.keep {S S':Nat->Prop} {w w':World} {l:List Ex} {A:Option Addr}(h:PartsAt S w l A)(hS:∀g,S g->S' g)(hk:∀g,S g->w'.heap[g]? = w.heap[g]?):PartsAt S' w' l A:=λhl=>by
 obtain⟨g,o,h1,h2,h3⟩:=h hl
 exact⟨g,o,h1,hS g h2,Sx.ExsAt.keep hS hk l g o (hk g h2) h3⟩
theorem PartsAt.at_ {S:Nat->Prop} {w:World} {l:List Ex} {A:Option Addr}(h:PartsAt S w l A)(i:Nat)(x:Ex)(hx:l[i]? = some x):∃g o,A=some ⟨g,o,none⟩/\S g/\ExAt S w x g (o+i*9):=by
 obtain⟨hi,rfl⟩:=List.getElem?_eq_some_iff.1 hx
 obtain⟨g,o,h1,h2,h3⟩:=h (by intro e;rw[e]at hi;simp at hi)
 exact⟨g,o,h1,h2,ExsAt.at_ l g o i hi h3⟩
def wEv(xs:List Nm)(l:List Ex):List Ev:=.beg xs::(l.flatMap evs++[.fin xs])
theorem flat_snoc(l:List Ex)(i:Nat)(x:Ex)(h:l[i]? = some x):(l.take (i+1)).flatMap evs=(l.take i).flatMap evs++evs x:=by
 rw[List.take_add_one,h]
 simp
set_option maxHeartbeats 6400000 in
theorem sc_within {σ:Type}(n k:Nat)(caps:Array Value)(B:Nat)(I:Nat->σ->(Nat->Prop)->World->Prop)(st:Ev->σ->σ)(hI:InvB I)(ek:∀args w,(callFunc k args).run Tryz.prog w=.ok (.enter k args) w)(HV:VisE k caps B I st)(HW:WalkOK n k caps B I st)
  (l:List Ex)(xs:List Nm)(c:Nat)(s:σ)(M S:Nat->Prop)(A:Option Addr)(d:Nat)(V:Option Addr)(v bx:Nat)(w:World)(hi:I c s M w)(hp:PartsAt S w l A)(hx:NmsIn S w xs V)(hS:∀g,S g->g<w.heap.size/\¬M g)
  (hb:w.cell? ⟨bx,0,none⟩=some (.func (.func k) #[] caps))(hbM:¬M bx)(hok:∀e∈l,e.Ok/\e.size<=n)(hxs:∀x∈xs,x.length<=24)(hln:l.length<=100000)(hB:c+cost (wEv xs l)<=B) :
  Calls Tryz.prog 157 #[.slice A l.length d,.slice V xs.length v,.pointer (some ⟨bx,0,none⟩)] w λe w'=>e=.returned (.tuple #[])/\Sta I M w (c+cost (wEv xs l)) (runS st (wEv xs l) s) w':=by
 have hbl:=lt_cell hb
 obtain⟨N,hN⟩:∃N,l.length=N:=⟨_,rfl⟩
 obtain⟨xn,hxn⟩:∃y,xs.length=y:=⟨_,rfl⟩
 have hcost:∀i,c+cost (.beg xs::(l.take i).flatMap evs)+xn<=B:=λi=>by
  have h1:cost ((l.take i).flatMap evs)<=cost (l.flatMap evs):=by
   have:=congrArg (λl=>cost (l.flatMap evs)) (List.take_append_drop i l)
   simp only[List.flatMap_append,cost_append]at this
   omega
  unfold wEv at hB
  rw[cost_cons,cost_append,cost_cons,cost_nil]at hB
  rw[cost_cons]
  simp only[evL]at hB ⊢
  omega
 have H1:=HV c s M (.beg xs) S V v w hi hx hS hxs (by unfold wEv at hB;rw[cost_cons]at hB;omega)
 simp only[evN,evW,evL,hxn]at H1
 have HP:=hidE hp
 have HX:=hidE hx
 have HS:=hidE hS
 have HB:=hidE hb
 have HOK:=hidE hok
 have HXS:=hidE hxs
 have HXN:=hidE hxn
 have HN:=hidE hN
 have HCO:=hidE hcost
 have HIV:=hidE hI
 have HVV:=hidE HV
 have HWW:=hidE HW
 have H1:=hidE H1
 have HFIN:Hid (c+cost (wEv xs l)=c+cost (.beg xs::(l.take N).flatMap evs)+xn/\runS st (wEv xs l) s=st (.fin xs) (runS st (.beg xs::(l.take N).flatMap evs) s)):=hidE (by
  rw[List.take_of_length_le (by omega)]
  unfold wEv
  rw[cost_cons,cost_append,cost_cons,cost_nil,cost_cons,runS_cons,runS_append,runS_cons]
  simp only[evL,hxn]
  exact⟨by omega,rfl⟩)
 have hkeep:∀W c s,Sta I M w c s W->(∀g,S g->W.heap[g]? = w.heap[g]?)/\W.cell? ⟨bx,0,none⟩=some (.func (.func k) #[] caps)/\w.heap.size<=W.heap.size:=λW c s h =>
  ⟨λg hg=>h.block g (hS g hg).1 (hS g hg).2,(World.cell?_of_block (w:=w) (a:=⟨bx,0,none⟩) (h.block bx hbl hbM)).trans hb,h.size⟩
 have HK:=hidE hkeep
 rw[hN]at hln
 rw[hN,hxn]
 rw[HFIN.out.1,HFIN.out.2]
 clear hp hx hS hok hxs hxn hN hcost hI HV HW hB hi hkeep
 go_enter Tryz.func157,Tryz.ntmps157
 go_wp2_with fail
 refine H1.out.mono ?_
 rintro e w1 ⟨rfl,s1⟩
 have hs1:=s1.size
 have hb1:=(HK.out w1 _ _ s1).2.1
 have S1:=hidE s1
 clear s1 hb H1
 go_wp2_with fail
 go_loopg [12] N (λgg vi wr=>∃i:Nat,gg=N-i/\vi=.int .i64 (i:Nat)/\i<=N/\Hid (Sta I M w (c+cost (.beg xs::(l.take i).flatMap evs)) (runS st (.beg xs::(l.take i).flatMap evs) s) wr))
 case atStart =>
  refine⟨0,rfl,rfl,by omega,hidE ?_⟩
  have:=S1.out
  rw[<-HXN.out]at this
  simpa[cost,runS,evL] using this
 case round =>
  obtain⟨i,hgg,rfl,hi,hst⟩:=hrel
  have hsr:=hst.out.size
  have hbr:=(HK.out wr _ _ hst.out).2.1
  have hbr2:bx<wr.heap.size:=by omega
  clear hb1 S1
  by_cases hlt:i<N
  ·obtain⟨x,hx⟩:∃x,l[i]? = some x:=⟨_,List.getElem?_eq_getElem (by rw[HN.out];exact hlt)⟩
   obtain⟨g,o,rfl,hSg,hat⟩:=HP.out.at_ i x hx
   have hkS:=(HK.out wr _ _ hst.out).1
   obtain⟨k1,x1,t1,K1,X1,Z1,B1,m1,q1,KA1,kn1,kc1,LA1,ln1,lc1,f0,f1,f2,f3,f4,f5,f6,f7,f8,hrd⟩:=(hat.keep (λ_ h=>h) hkS (hkS g hSg)).cells
   have hgl:=lt_cell f0
   have hmem:=HOK.out x (List.mem_iff_getElem?.2 ⟨i,hx⟩)
   have hst2:=hst.out.alloc HIV.out (.cells #[.int .i64 k1,.string x1,.bool t1,.int .i64 K1,.string X1,.int .i64 Z1,.slice B1 m1 q1,.slice KA1 kn1 kc1,.slice LA1 ln1 lc1] 39)
   have hco:c+cost (.beg xs::(l.take i).flatMap evs)+cost (evs x)<=B:=by
    have:=HCO.out (i+1)
    rw[flat_snoc l i x hx,cost_cons,cost_append]at this
    rw[cost_cons]
    omega
   have HCALL:=hidE (hst2.call (P:=Tryz.prog) (F:=117) (args:=#[.agg #[.int .i64 k1,.string x1,.bool t1,.int .i64 K1,.string X1,.int .i64 Z1,.slice B1 m1 q1,.slice KA1 kn1 kc1,.slice LA1 ln1 lc1],.func (.func k) #[] caps]) (λM2 i2 hM2=>HWW.out _ _ M2 x S _ _ hmem.2 i2
    (hrd.keep (λ_ h=>h) (λg hg=>Below.heap_alloc _ _ _ (by have:=(HS.out g hg).1;omega))) (λg hg=>⟨by have:=(HS.out g hg).1;simp;omega,λh=>by
     rcases hM2 g h with h|h
     ·exact(HS.out g hg).2 h
     ·have:=(HS.out g hg).1;omega⟩) hmem.1 hco))
   have HX2:=hidE (flat_snoc l i x hx)
   clear hx hSg hat hkS hrd hmem hst2 hco
   go_wp2_with fail
   refine HCALL.out.mono ?_
   rintro e' w2 ⟨rfl,s2⟩
   have S2:=hidE s2
   clear s2 HCALL
   go_wp2_with fail
   go_roundg (N-(i+1))
   case measure=>omega
   case rel =>
    refine⟨i+1,rfl,by go_num,by omega,hidE ?_⟩
    have:=S2.out
    rw[HX2.out,<-List.cons_append,cost_append,<-Nat.add_assoc,runS_append]
    exact this
  ·obtain rfl:i=N:=by omega
   have hkS:=(HK.out wr _ _ hst.out).1
   have HCALL:=hidE (hst.out.call (P:=Tryz.prog) (F:=k) (args:=#[.int .i64 4,.slice V xn v]++caps) (c':=c+cost (.beg xs::(l.take i).flatMap evs)+xn) (s':=st (.fin xs) (runS st (.beg xs::(l.take i).flatMap evs) s)) (λM2 i2 hM2=>by
    have:=HVV.out _ _ M2 (.fin xs) S V v wr i2 (HX.out.keep (λ_ h=>h) hkS) (λg hg=>⟨by have:=(HS.out g hg).1;omega,λh=>by
     rcases hM2 g h with h|h
     ·exact(HS.out g hg).2 h
     ·have:=(HS.out g hg).1;omega⟩) HXS.out (by have:=HCO.out i;simp only[evL,HXN.out];omega)
    simp only[evN,evW,evL,HXN.out]at this
    exact this))
   clear hkS hlt
   go_wp2_with fail
   refine HCALL.out.mono ?_
   rintro e' w2 ⟨rfl,s2⟩
   have S2:=hidE s2
   clear s2 HCALL
   go_wp2_with fail
   first|go_end0|refine bodyPost_ret (results_none rfl _ _ _) rfl ?_
   exact⟨rfl,S2.out⟩
end Go.Proofs.YtmbmjneibkihkaaGreatDoor

namespace Go.Proofs.YtmbmjneibkihkaaGreatDoor
open Go.RowKit Lx Tx Sx Go.Shelf
set_option maxRecDepth 100000
theorem Sta.pre {σ:Type} {I:Nat->σ->(Nat->Prop)->World->Prop} {M0:Nat->Prop} {w w0 W:World} {c:Nat} {s:σ}(h:Sta I M0 w0 c s W)(hb:Below w.heap.size w w0):Sta I M0 w c s W:=by
 obtain⟨M,h1,h2,h3⟩:=h
 refine⟨M,h1,λg hg=>?_,(Chg.of_below hb).trans h3⟩
 rcases h2 g hg with h|h
 ·exact .inl h
 ·exact .inr (Nat.le_trans hb.size h)
theorem Sta.callB {σ:Type} {I:Nat->σ->(Nat->Prop)->World->Prop}(hI:InvB I) {M0:Nat->Prop} {w0 Wp W:World} {c c':Nat} {s s':σ}(h:Sta I M0 w0 c s Wp)(hb:Below Wp.heap.size Wp W) {P:Program} {F:Nat} {args:Array Value}
  (hc:∀M,I c s M W->(∀g,M g->(M0 g\/w0.heap.size<=g)/\g<Wp.heap.size)->Calls P F args W λe w'=>e=.returned (.tuple #[])/\Sta I M W c' s' w') :
  Calls P F args W λe w'=>e=.returned (.tuple #[])/\Sta I M0 w0 c' s' w':=by
 obtain⟨M,h1,h2,h3⟩:=h
 have hlt:=hI.lt _ _ _ _ h1
 have h3':Chg M0 w0 W:=h3.below hb
 refine(hc M (hI.keep _ _ _ _ _ h1 hb) (λg hg=>⟨h2 g hg,hlt g hg⟩)).mono ?_
 rintro e w' ⟨rfl,M',k1,k2,k3⟩
 refine⟨rfl,M',k1,λg hg=>?_,h3'.trans' k3 (λi hi hm=>?_)⟩
 ·rcases k2 g hg with h|h
  ·exact h2 g h
  ·exact .inr (Nat.le_trans h3'.size h)
 ·rcases h2 i hm with h|h
  ·exact h
  ·omega
def OldNew(M0:Nat->Prop)(w0 Wp W:World)(g:Nat):Prop:=(g<w0.heap.size/\¬M0 g)\/(Wp.heap.size<=g/\g<W.heap.size)
theorem OldNew.no {M0 M:Nat->Prop} {w0 Wp W:World} {g:Nat}(h:OldNew M0 w0 Wp W g)(hM:M g->(M0 g\/w0.heap.size<=g)/\g<Wp.heap.size)(h0:w0.heap.size<=Wp.heap.size)(h1:Wp.heap.size<=W.heap.size):g<W.heap.size/\¬M g:=by
 rcases h with⟨a,b⟩|⟨a,b⟩
 ·refine⟨by omega,λe=>?_⟩
  rcases(hM e).1 with x|x
  ·exact b x
  ·omega
 ·exact⟨b,λe=>by have:=(hM e).2;omega⟩
theorem evS {σ:Type} {k:Nat} {caps:Array Value} {B:Nat} {I:Nat->σ->(Nat->Prop)->World->Prop} {st:Ev->σ->σ}(hI:InvB I)(HV:VisE k caps B I st) {M0:Nat->Prop} {w0 Wp W:World} {c:Nat} {s:σ}(h:Sta I M0 w0 c s Wp)(hb:Below Wp.heap.size Wp W)
  (S2:Nat->Prop)(hS2:∀g,S2 g->OldNew M0 w0 Wp W g)(ev:Ev)(V:Option Addr)(v:Nat)(hN:NmsIn S2 W (evN ev) V)(hl:∀x∈evN ev,x.length<=24)(hc:c+evL ev<=B) :
  Calls Tryz.prog k (#[.int .i64 (evW ev),.slice V (evN ev).length v]++caps) W λe w'=>e=.returned (.tuple #[])/\Sta I M0 w0 (c+evL ev) (st ev s) w' :=
 h.callB hI hb λM i2 hM=>HV c s M ev S2 V v W i2 hN (λg hg=>(hS2 g hg).no (hM g) h.size hb.size) hl hc
theorem nms1 {W:World}(X:ByteArray)(x:Nm)(hx:(⟨x.toArray⟩:ByteArray)=X)(t:TypeId):NmsIn (λg=>g=W.heap.size) (W.alloc (.cells #[.string X] t)) [x] (some ⟨W.heap.size,0,none⟩):=λ_ =>
 ⟨_,rfl,rfl,lie_blk (t:=t) (cs:=[.string X]) (heap_alloc_new _ _) |> λh=>by simpa[Sx.strV,hx] using h⟩
theorem ev1 {σ:Type} {k:Nat} {caps:Array Value} {B:Nat} {I:Nat->σ->(Nat->Prop)->World->Prop} {st:Ev->σ->σ}(hI:InvB I)(HV:VisE k caps B I st) {M0:Nat->Prop} {w0 W:World} {c:Nat} {s:σ}(h:Sta I M0 w0 c s W)
  (ev:Ev)(x:Nm)(X:ByteArray)(q:Nat)(hq:evL ev=q)(hev:evN ev=[x])(hx:(⟨x.toArray⟩:ByteArray)=X)(hl:x.length<=24)(hc:c+q<=B) :
  Calls Tryz.prog k (#[.int .i64 (evW ev),.slice (some ⟨W.heap.size,0,none⟩) 1 1]++caps) (W.alloc (.cells #[.string X] 9)) λe w'=>e=.returned (.tuple #[])/\Sta I M0 w0 (c+q) (st ev s) w':=by
 have:=evS hI HV h ((Below.refl _ W).alloc (Nat.le_refl _) (.cells #[.string X] 9)) (λg=>g=W.heap.size) (λg hg=>.inr ⟨by omega,by simp;omega⟩) ev (some ⟨W.heap.size,0,none⟩) 1 (by rw[hev];exact nms1 X x hx _) (by rw[hev];simpa using hl) (by rw[hq];exact hc)
 rw[hev,hq]at this
 exact this
theorem wiS {σ:Type} {n k:Nat} {caps:Array Value} {B:Nat} {I:Nat->σ->(Nat->Prop)->World->Prop} {st:Ev->σ->σ}(hI:InvB I)(ek:∀args w,(callFunc k args).run Tryz.prog w=.ok (.enter k args) w)(HV:VisE k caps B I st)(HW:WalkOK n k caps B I st)
  {M0:Nat->Prop} {w0 Wp W:World} {c:Nat} {s:σ} (h:Sta I M0 w0 c s Wp) (hb:Below Wp.heap.size Wp W) (S2:Nat->Prop) (hS2:∀g,S2 g->OldNew M0 w0 Wp W g) (l:List Ex) (xs:List Nm) (A:Option Addr) (d:Nat) (V:Option Addr) (v bx:Nat)
  (hp:PartsAt S2 W l A)(hx:NmsIn S2 W xs V)(hbx:W.cell? ⟨bx,0,none⟩=some (.func (.func k) #[] caps))(hb0:bx<w0.heap.size)(hbM:¬M0 bx)(hok:∀e∈l,e.Ok/\e.size<=n)(hxs:∀x∈xs,x.length<=24)(hln:l.length<=100000)(hB:c+cost (wEv xs l)<=B) :
  Calls Tryz.prog 157 #[.slice A l.length d,.slice V xs.length v,.pointer (some ⟨bx,0,none⟩)] W λe w'=>e=.returned (.tuple #[])/\Sta I M0 w0 (c+cost (wEv xs l)) (runS st (wEv xs l) s) w' :=
 h.callB hI hb λM i2 hM=>sc_within n k caps B I st hI ek HV HW l xs c s M S2 A d V v bx W i2 hp hx (λg hg=>(hS2 g hg).no (hM g) h.size hb.size) hbx
  (λe=>by rcases(hM bx e).1 with x|x;exact hbM x;omega) hok hxs hln hB
structure Box (k:Nat) (caps:Array Value) (M S:Nat->Prop) (w W0:World) (cs:Array Value):Prop where
 b0:Blk W0 w.heap.size 39 cs
 b1:Blk W0 (w.heap.size+1) 186 #[.func (.func k) #[] caps]
 sz:W0.heap.size=w.heap.size+2
 lw:Below w.heap.size w W0
 s:∀g,S g->g<w.heap.size/\¬M g
 m:∀g,M g->g<w.heap.size
theorem Box.old {k:Nat} {caps cs:Array Value} {M S:Nat->Prop} {w W0 Wp W:World}(h:Box k caps M S w W0 cs)(g:Nat)(hg:S g):OldNew M W0 Wp W g:=.inl ⟨by have:=(h.s g hg).1;have:=h.sz;omega,(h.s g hg).2⟩
theorem Box.at_ {σ:Type} {I:Nat->σ->(Nat->Prop)->World->Prop} {k:Nat} {caps cs:Array Value} {M S:Nat->Prop} {w W0 W:World} {c:Nat} {s:σ}(h:Box k caps M S w W0 cs)(hs:Sta I M W0 c s W) :
  Blk W w.heap.size 39 cs/\Blk W (w.heap.size+1) 186 #[.func (.func k) #[] caps]/\w.heap.size+2<=W.heap.size/\∀g,S g->W.heap[g]? = w.heap[g]?:=by
 have h2:=h.sz
 have h3:=hs.size
 refine⟨h.b0.same (hs.block _ (by omega) (λe=>by have:=h.m _ e;omega)),h.b1.same (hs.block _ (by omega) (λe=>by have:=h.m _ e;omega)),by omega,λg hg=>?_⟩
 have:=h.s g hg
 exact(hs.block g (by omega) this.2).trans (h.lw.block g this.1)
set_option maxHeartbeats 6400000 in
theorem sc_walk_var {σ:Type}(k:Nat)(caps:Array Value)(B:Nat)(I:Nat->σ->(Nat->Prop)->World->Prop)(st:Ev->σ->σ)(hI:InvB I)(ek:∀args w,(callFunc k args).run Tryz.prog w=.ok (.enter k args) w)(HV:VisE k caps B I st)
  (x:Nm)(c:Nat)(s:σ)(M S:Nat->Prop)(v:Value)(w:World)(hi:I c s M w)(hv:RdX S w (Ex.var x:Ex) v)(hS:∀g,S g->g<w.heap.size/\¬M g)(hok:(Ex.var x:Ex).Ok)(hB:c+cost (evs (Ex.var x))<=B) :
  Calls Tryz.prog 117 #[v,.func (.func k) #[] caps] w λe' w'=>e'=.returned (.tuple #[])/\Sta I M w (c+cost (evs (Ex.var x))) (runS st (evs (Ex.var x)) s) w':=by
 have ew:∀args w,(callFunc 157 args).run Tryz.prog w=.ok (.enter 157 args) w:=enters_of Tryz.func157 (by kernel_rfl) rfl
 have mk:∀(W:World) (p:Addr),(Instr.makeFunc (.func 157) #[] #[.pointer (some p)]).run Tryz.prog W=.ok (.func (.func 157) #[] #[.pointer (some p)]) W:=λ_ _=>rfl
 obtain⟨K,X,Z,A0,m,q,KA,kc,LA,lc,rfl,hin⟩:=hv.shape
 simp only[kdE,nmE,toE,kidsE,altsE,List.length_nil]at hin ⊢
 have hlt:=hI.lt _ _ _ _ hi
 obtain⟨Y,hY⟩:∃Y:ByteArray,⟨x.toArray⟩=Y:=⟨_,rfl⟩
 rw[hY]
 have hx24:x.length<=24:=gd_len (show Gd 1 x from hok) (by decide)
 have hcs:cost (evs (Ex.var x))=1:=rfl
 rw[hcs]at hB ⊢
 obtain⟨W0,hW0⟩:∃W,(w.alloc (.cells #[.int .i64 1,.string Y,.bool false,.int .i64 K,.string X,.int .i64 Z,.slice A0 m q,.slice KA 0 kc,.slice LA 0 lc] 39)).alloc (.cells #[.func (.func k) #[] caps] 186)=W:=⟨_,rfl⟩
 have hbx:Box k caps M S w W0 #[.int .i64 1,.string Y,.bool false,.int .i64 K,.string X,.int .i64 Z,.slice A0 m q,.slice KA 0 kc,.slice LA 0 lc]:=by
  refine⟨hW0▸Blk.below (heap_alloc_new w _) ((Below.refl _ _).alloc (Nat.le_refl _) _) (by simp),hW0▸two_top _ _ _ _ rfl,by rw[<-hW0];simp,hW0▸((Below.refl _ w).alloc (Nat.le_refl _) _).alloc (by simp) _,hS,hlt⟩
 have hst:=Sta.init (hI.keep _ _ _ _ W0 hi hbx.lw)
 have HBX:=hidE hbx
 have S0:=hidE hst
 have HLW:=hidE hbx.lw
 obtain⟨b0,b1,hsw,-⟩:=hbx.at_ hst
 obtain⟨⟨g0,g1,g2,g3,g4,g5,g6,g7,g8⟩,-,-⟩:=blk_facts9 b0
 have d0:=b1.cell 0
 replace d0:W0.cell? ⟨w.heap.size+1,0,none⟩=some (.func (.func k) #[] caps):=d0
 have HEV:=hidE (ev1 hI HV hst (.use x) x Y 1 rfl rfl hY hx24 hB)
 simp only[evW]at HEV
 clear hbx hst b0 b1 hi hv hS hok hB hin hlt HV
 go_enter Tryz.func117,Tryz.ntmps117
 go_upto_region 2 with fail
 try rw[hW0]
 clear hW0
 go_wp2_with fail
 refine HEV.out.mono ?_
 rintro e1 w1 ⟨rfl,s1⟩
 have S1:=hidE s1
 clear s1 HEV g0 g1 g2 g3 g4 g5 g6 g7 g8 d0
 obtain⟨b0,b1,hsw,hkS⟩:=HBX.out.at_ S1.out
 obtain⟨⟨g0,g1,g2,g3,g4,g5,g6,g7,g8⟩,-,-⟩:=blk_facts9 b0
 have d0:=b1.cell 0
 replace d0:w1.cell? ⟨w.heap.size+1,0,none⟩=some (.func (.func k) #[] caps):=d0
 clear b0 b1
 go_wp2_with fail
 go_loopg [72] 0 (λgg vi wr=>gg=0/\vi=.int .i64 0/\Hid (wr=w1))
 case atStart=>exact⟨rfl,rfl,hidE rfl⟩
 case round =>
  obtain⟨rfl,rfl,hw⟩:=hrel
  have hw:=hw.out
  subst hw
  go_wp2_with fail
  first|go_end0|refine bodyPost_ret (results_none rfl _ _ _) rfl ?_
  refine⟨rfl,?_⟩
  have:=S1.out.pre HLW.out
  exact this
set_option maxHeartbeats 6400000 in
theorem sc_walk_con {σ:Type}(k:Nat)(caps:Array Value)(B:Nat)(I:Nat->σ->(Nat->Prop)->World->Prop)(st:Ev->σ->σ)(hI:InvB I)(ek:∀args w,(callFunc k args).run Tryz.prog w=.ok (.enter k args) w)(HV:VisE k caps B I st)
  (x:Nm)(c:Nat)(s:σ)(M S:Nat->Prop)(v:Value)(w:World)(hi:I c s M w)(hv:RdX S w (Ex.con x:Ex) v)(hS:∀g,S g->g<w.heap.size/\¬M g)(hok:(Ex.con x:Ex).Ok)(hB:c+cost (evs (Ex.con x))<=B) :
  Calls Tryz.prog 117 #[v,.func (.func k) #[] caps] w λe' w'=>e'=.returned (.tuple #[])/\Sta I M w (c+cost (evs (Ex.con x))) (runS st (evs (Ex.con x)) s) w':=by
 have ew:∀args w,(callFunc 157 args).run Tryz.prog w=.ok (.enter 157 args) w:=enters_of Tryz.func157 (by kernel_rfl) rfl
 have mk:∀(W:World) (p:Addr),(Instr.makeFunc (.func 157) #[] #[.pointer (some p)]).run Tryz.prog W=.ok (.func (.func 157) #[] #[.pointer (some p)]) W:=λ_ _=>rfl
 obtain⟨K,X,Z,A0,m,q,KA,kc,LA,lc,rfl,hin⟩:=hv.shape
 simp only[kdE,nmE,toE,kidsE,altsE,List.length_nil]at hin ⊢
 have hlt:=hI.lt _ _ _ _ hi
 obtain⟨Y,hY⟩:∃Y:ByteArray,⟨x.toArray⟩=Y:=⟨_,rfl⟩
 rw[hY]
 have hx24:x.length<=24:=gd_len (show Gd 2 x from hok) (by decide)
 have hcs:cost (evs (Ex.con x))=1:=rfl
 rw[hcs]at hB ⊢
 obtain⟨W0,hW0⟩:∃W,(w.alloc (.cells #[.int .i64 2,.string Y,.bool false,.int .i64 K,.string X,.int .i64 Z,.slice A0 m q,.slice KA 0 kc,.slice LA 0 lc] 39)).alloc (.cells #[.func (.func k) #[] caps] 186)=W:=⟨_,rfl⟩
 have hbx:Box k caps M S w W0 #[.int .i64 2,.string Y,.bool false,.int .i64 K,.string X,.int .i64 Z,.slice A0 m q,.slice KA 0 kc,.slice LA 0 lc]:=by
  refine⟨hW0▸Blk.below (heap_alloc_new w _) ((Below.refl _ _).alloc (Nat.le_refl _) _) (by simp),hW0▸two_top _ _ _ _ rfl,by rw[<-hW0];simp,hW0▸((Below.refl _ w).alloc (Nat.le_refl _) _).alloc (by simp) _,hS,hlt⟩
 have hst:=Sta.init (hI.keep _ _ _ _ W0 hi hbx.lw)
 have HBX:=hidE hbx
 have S0:=hidE hst
 have HLW:=hidE hbx.lw
 obtain⟨b0,b1,hsw,-⟩:=hbx.at_ hst
 obtain⟨⟨g0,g1,g2,g3,g4,g5,g6,g7,g8⟩,-,-⟩:=blk_facts9 b0
 have d0:=b1.cell 0
 replace d0:W0.cell? ⟨w.heap.size+1,0,none⟩=some (.func (.func k) #[] caps):=d0
 have HEV:=hidE (ev1 hI HV hst (.cn x) x Y 1 rfl rfl hY hx24 hB)
 simp only[evW]at HEV
 clear hbx hst b0 b1 hi hv hS hok hB hin hlt HV
 go_enter Tryz.func117,Tryz.ntmps117
 go_upto_region 2 with fail
 try rw[hW0]
 clear hW0
 go_wp2_with fail
 refine HEV.out.mono ?_
 rintro e1 w1 ⟨rfl,s1⟩
 have S1:=hidE s1
 clear s1 HEV g0 g1 g2 g3 g4 g5 g6 g7 g8 d0
 obtain⟨b0,b1,hsw,hkS⟩:=HBX.out.at_ S1.out
 obtain⟨⟨g0,g1,g2,g3,g4,g5,g6,g7,g8⟩,-,-⟩:=blk_facts9 b0
 have d0:=b1.cell 0
 replace d0:w1.cell? ⟨w.heap.size+1,0,none⟩=some (.func (.func k) #[] caps):=d0
 clear b0 b1
 go_wp2_with fail
 go_loopg [72] 0 (λgg vi wr=>gg=0/\vi=.int .i64 0/\Hid (wr=w1))
 case atStart=>exact⟨rfl,rfl,hidE rfl⟩
 case round =>
  obtain⟨rfl,rfl,hw⟩:=hrel
  have hw:=hw.out
  subst hw
  go_wp2_with fail
  first|go_end0|refine bodyPost_ret (results_none rfl _ _ _) rfl ?_
  refine⟨rfl,?_⟩
  have:=S1.out.pre HLW.out
  exact this
set_option maxHeartbeats 6400000 in
theorem sc_walk_lam {σ:Type}(n k:Nat)(caps:Array Value)(B:Nat)(I:Nat->σ->(Nat->Prop)->World->Prop)(st:Ev->σ->σ)(hI:InvB I)(ek:∀args w,(callFunc k args).run Tryz.prog w=.ok (.enter k args) w)(HV:VisE k caps B I st)(HW:WalkOK n k caps B I st)
  (x:Nm)(e:Ex)(c:Nat)(s:σ)(M S:Nat->Prop)(v:Value)(w:World)(hi:I c s M w)(hv:RdX S w (Ex.lam x e:Ex) v)(hS:∀g,S g->g<w.heap.size/\¬M g)(hok:(Ex.lam x e:Ex).Ok)(hsz:(Ex.lam x e:Ex).size<=n+1)(hB:c+cost (evs (Ex.lam x e))<=B) :
  Calls Tryz.prog 117 #[v,.func (.func k) #[] caps] w λe' w'=>e'=.returned (.tuple #[])/\Sta I M w (c+cost (evs (Ex.lam x e))) (runS st (evs (Ex.lam x e)) s) w':=by
 have ew:∀args w,(callFunc 157 args).run Tryz.prog w=.ok (.enter 157 args) w:=enters_of Tryz.func157 (by kernel_rfl) rfl
 have mk:∀(W:World) (p:Addr),(Instr.makeFunc (.func 157) #[] #[.pointer (some p)]).run Tryz.prog W=.ok (.func (.func 157) #[] #[.pointer (some p)]) W:=λ_ _=>rfl
 obtain⟨K,X,Z,A0,m,q,KA,kc,LA,lc,rfl,hin⟩:=hv.shape
 simp only[kdE,nmE,toE,kidsE,altsE,List.length_cons,List.length_nil,Nat.zero_add]at hin ⊢
 have hlt:=hI.lt _ _ _ _ hi
 obtain⟨Y,hY⟩:∃Y:ByteArray,⟨x.toArray⟩=Y:=⟨_,rfl⟩
 rw[hY]
 have hx24:x.length<=24:=gd_len (show Gd 1 x from hok.1) (by decide)
 have hev:evs (Ex.lam x e)=.bi [x]::wEv [x] [e]:=by simp[evs,wEv]
 rw[hev]at hB ⊢
 rw[cost_cons]at hB ⊢
 rw[runS_cons]
 simp only[evL,List.length_cons,List.length_nil,Nat.zero_add]at hB ⊢
 obtain⟨W0,hW0⟩:∃W,(w.alloc (.cells #[.int .i64 3,.string Y,.bool false,.int .i64 K,.string X,.int .i64 Z,.slice A0 m q,.slice KA 1 kc,.slice LA 0 lc] 39)).alloc (.cells #[.func (.func k) #[] caps] 186)=W:=⟨_,rfl⟩
 have hbx:Box k caps M S w W0 #[.int .i64 3,.string Y,.bool false,.int .i64 K,.string X,.int .i64 Z,.slice A0 m q,.slice KA 1 kc,.slice LA 0 lc]:=by
  refine⟨hW0▸Blk.below (heap_alloc_new w _) ((Below.refl _ _).alloc (Nat.le_refl _) _) (by simp),hW0▸two_top _ _ _ _ rfl,by rw[<-hW0];simp,hW0▸((Below.refl _ w).alloc (Nat.le_refl _) _).alloc (by simp) _,hS,hlt⟩
 have hst:=Sta.init (hI.keep _ _ _ _ W0 hi hbx.lw)
 have HBX:=hidE hbx
 have S0:=hidE hst
 have HLW:=hidE hbx.lw
 obtain⟨b0,b1,hsw,-⟩:=hbx.at_ hst
 obtain⟨⟨g0,g1,g2,g3,g4,g5,g6,g7,g8⟩,-,-⟩:=blk_facts9 b0
 have d0:=b1.cell 0
 replace d0:W0.cell? ⟨w.heap.size+1,0,none⟩=some (.func (.func k) #[] caps):=d0
 have HEV:=hidE (ev1 hI HV hst (.bi [x]) x Y 2 rfl rfl hY hx24 (by omega))
 simp only[evW]at HEV
 have hpar:PartsAt S w [e] KA:=λ_=>by
  obtain⟨g,h1,h2,h3⟩:=((kids_at (Ex.lam x e) KA LA).1 hin).1 (by simp[kidsE])
  exact⟨g,0,h1,h2,h3⟩
 have HPAR:=hidE hpar
 have HWI:=hidE (λ(w1:World) (s1:Sta I M W0 (c+2) (st (.bi [x]) s) w1)=>wiS hI ek HV HW s1 ((Below.refl _ w1).alloc (Nat.le_refl _) (.cells #[.string Y] 9)) (λg=>S g\/g=w1.heap.size) (λg hg=>by
   rcases hg with h|h
   ·exact hbx.old g h
   ·exact .inr ⟨by omega,by simp;omega⟩) [e] [x] KA kc (some ⟨w1.heap.size,0,none⟩) 1 (w.heap.size+1)
  (hpar.keep (λg hg=>.inl hg) (λg hg=>(Below.heap_alloc _ _ _ (by have:=(hS g hg).1;have:=(hbx.at_ s1).2.2.1;omega)).trans ((hbx.at_ s1).2.2.2 g hg)))
  ((nms1 Y x hY _).keep (λg hg=>.inr hg) (λ_ _=>rfl)) (((hbx.at_ s1).2.1.alloc _).cell 0) (by have:=hbx.sz;omega) (λe=>by have:=hlt _ e;omega) (by simp;exact⟨hok.2,by simp only[Ex.size]at hsz;omega⟩) (by simpa using hx24) (by simp) (by omega))
 simp only[List.length_cons,List.length_nil,Nat.zero_add]at HWI
 clear hbx hst b0 b1 hi hv hS hok hsz hB hin hlt HV HW hpar
 go_enter Tryz.func117,Tryz.ntmps117
 go_upto_region 2 with fail
 try rw[hW0]
 clear hW0
 go_wp2_with fail
 refine HEV.out.mono ?_
 rintro e1 w1 ⟨rfl,s1⟩
 have S1:=hidE s1
 have HWW:=hidE (HWI.out w1 s1)
 clear s1 HEV HWI g0 g1 g2 g3 g4 g5 g6 g7 g8 d0
 obtain⟨b0,b1,hsw,hkS⟩:=HBX.out.at_ S1.out
 obtain⟨⟨g0,g1,g2,g3,g4,g5,g6,g7,g8⟩,-,-⟩:=blk_facts9 b0
 have d0:=b1.cell 0
 replace d0:w1.cell? ⟨w.heap.size+1,0,none⟩=some (.func (.func k) #[] caps):=d0
 clear b0 b1
 go_wp2_with fail
 refine HWW.out.mono ?_
 rintro e2 w2 ⟨rfl,s2⟩
 have S2:=hidE s2
 clear s2 HWW hsw g0 g1 g2 g3 g4 g5 g6 g7 g8 d0 hkS
 obtain⟨b0,b1,hsw,hkS⟩:=HBX.out.at_ S2.out
 obtain⟨⟨g0,g1,g2,g3,g4,g5,g6,g7,g8⟩,-,-⟩:=blk_facts9 b0
 have d0:=b1.cell 0
 replace d0:w2.cell? ⟨w.heap.size+1,0,none⟩=some (.func (.func k) #[] caps):=d0
 clear b0 b1
 go_wp2_with fail
 go_loopg [72] 0 (λgg vi wr=>gg=0/\vi=.int .i64 0/\Hid (wr=w2))
 case atStart=>exact⟨rfl,rfl,hidE rfl⟩
 case round =>
  obtain⟨rfl,rfl,hw⟩:=hrel
  have hw:=hw.out
  subst hw
  go_wp2_with fail
  first|go_end0|refine bodyPost_ret (results_none rfl _ _ _) rfl ?_
  refine⟨rfl,?_⟩
  have:=S2.out.pre HLW.out
  rw[<-Nat.add_assoc]
  exact this
set_option maxHeartbeats 6400000 in
theorem sc_walk_app {σ:Type}(n k:Nat)(caps:Array Value)(B:Nat)(I:Nat->σ->(Nat->Prop)->World->Prop)(st:Ev->σ->σ)(hI:InvB I)(ek:∀args w,(callFunc k args).run Tryz.prog w=.ok (.enter k args) w)(HV:VisE k caps B I st)(HW:WalkOK n k caps B I st)
  (a b:Ex)(c:Nat)(s:σ)(M S:Nat->Prop)(v:Value)(w:World)(hi:I c s M w)(hv:RdX S w (Ex.app a b:Ex) v)(hS:∀g,S g->g<w.heap.size/\¬M g)(hok:(Ex.app a b:Ex).Ok)(hsz:(Ex.app a b:Ex).size<=n+1)(hB:c+cost (evs (Ex.app a b))<=B) :
  Calls Tryz.prog 117 #[v,.func (.func k) #[] caps] w λe' w'=>e'=.returned (.tuple #[])/\Sta I M w (c+cost (evs (Ex.app a b))) (runS st (evs (Ex.app a b)) s) w':=by
 have ew:∀args w,(callFunc 157 args).run Tryz.prog w=.ok (.enter 157 args) w:=enters_of Tryz.func157 (by kernel_rfl) rfl
 have mk:∀(W:World) (p:Addr),(Instr.makeFunc (.func 157) #[] #[.pointer (some p)]).run Tryz.prog W=.ok (.func (.func 157) #[] #[.pointer (some p)]) W:=λ_ _=>rfl
 obtain⟨K,X,Z,A0,m,q,KA,kc,LA,lc,rfl,hin⟩:=hv.shape
 simp only[kdE,nmE,toE,kidsE,altsE,List.length_cons,List.length_nil,Nat.zero_add]at hin ⊢
 have hlt:=hI.lt _ _ _ _ hi
 rw[show(⟨([]:Nm).toArray⟩:ByteArray)=⟨#[]⟩ from rfl]
 have hev:evs (Ex.app a b)=wEv [] [a,b]:=by simp[evs,wEv]
 rw[hev]at hB ⊢
 obtain⟨W0,hW0⟩:∃W,(w.alloc (.cells #[.int .i64 4,.string ⟨#[]⟩,.bool false,.int .i64 K,.string X,.int .i64 Z,.slice A0 m q,.slice KA 2 kc,.slice LA 0 lc] 39)).alloc (.cells #[.func (.func k) #[] caps] 186)=W:=⟨_,rfl⟩
 have hbx:Box k caps M S w W0 #[.int .i64 4,.string ⟨#[]⟩,.bool false,.int .i64 K,.string X,.int .i64 Z,.slice A0 m q,.slice KA 2 kc,.slice LA 0 lc]:=by
  refine⟨hW0▸Blk.below (heap_alloc_new w _) ((Below.refl _ _).alloc (Nat.le_refl _) _) (by simp),hW0▸two_top _ _ _ _ rfl,by rw[<-hW0];simp,hW0▸((Below.refl _ w).alloc (Nat.le_refl _) _).alloc (by simp) _,hS,hlt⟩
 have hst:=Sta.init (hI.keep _ _ _ _ W0 hi hbx.lw)
 have HBX:=hidE hbx
 have S0:=hidE hst
 have HLW:=hidE hbx.lw
 obtain⟨b0,b1,hsw,-⟩:=hbx.at_ hst
 obtain⟨⟨g0,g1,g2,g3,g4,g5,g6,g7,g8⟩,-,-⟩:=blk_facts9 b0
 have d0:=b1.cell 0
 replace d0:W0.cell? ⟨w.heap.size+1,0,none⟩=some (.func (.func k) #[] caps):=d0
 have hpar:PartsAt S w [a,b] KA:=λ_=>by
  obtain⟨g,h1,h2,h3⟩:=((kids_at (Ex.app a b) KA LA).1 hin).1 (by simp[kidsE])
  exact⟨g,0,h1,h2,h3⟩
 have HWW:=hidE (wiS hI ek HV HW hst (Below.refl _ W0) S (λg hg=>hbx.old g hg) [a,b] [] KA kc none 0 (w.heap.size+1)
  (hpar.keep (λ_ h=>h) (λg hg=>(hbx.at_ hst).2.2.2 g hg)) (λh=>absurd rfl h) (hbx.b1.cell 0) (by have:=hbx.sz;omega) (λe=>by have:=hlt _ e;omega) (by simp;exact⟨⟨hok.1,by simp only[Ex.size]at hsz;omega⟩,hok.2,by simp only[Ex.size]at hsz;omega⟩) (by simp) (by simp) hB)
 simp only[List.length_cons,List.length_nil,Nat.zero_add]at HWW
 clear hbx hst b0 b1 hi hv hS hok hsz hB hin hlt HV HW hpar
 go_enter Tryz.func117,Tryz.ntmps117
 go_upto_region 2 with fail
 try rw[hW0]
 clear hW0
 go_wp2_with fail
 refine HWW.out.mono ?_
 rintro e1 w1 ⟨rfl,s1⟩
 have S1:=hidE s1
 clear s1 HWW g0 g1 g2 g3 g4 g5 g6 g7 g8 d0
 obtain⟨b0,b1,hsw,hkS⟩:=HBX.out.at_ S1.out
 obtain⟨⟨g0,g1,g2,g3,g4,g5,g6,g7,g8⟩,-,-⟩:=blk_facts9 b0
 have d0:=b1.cell 0
 replace d0:w1.cell? ⟨w.heap.size+1,0,none⟩=some (.func (.func k) #[] caps):=d0
 clear b0 b1
 go_wp2_with fail
 go_loopg [72] 0 (λgg vi wr=>gg=0/\vi=.int .i64 0/\Hid (wr=w1))
 case atStart=>exact⟨rfl,rfl,hidE rfl⟩
 case round =>
  obtain⟨rfl,rfl,hw⟩:=hrel
  have hw:=hw.out
  subst hw
  go_wp2_with fail
  first|go_end0|refine bodyPost_ret (results_none rfl _ _ _) rfl ?_
  refine⟨rfl,?_⟩
  have:=S1.out.pre HLW.out
  exact this
set_option maxHeartbeats 6400000 in
theorem sc_walk_ann {σ:Type}(n k:Nat)(caps:Array Value)(B:Nat)(I:Nat->σ->(Nat->Prop)->World->Prop)(st:Ev->σ->σ)(hI:InvB I)(ek:∀args w,(callFunc k args).run Tryz.prog w=.ok (.enter k args) w)(HV:VisE k caps B I st)(HW:WalkOK n k caps B I st)
  (a:Ex)(t:Ty)(c:Nat)(s:σ)(M S:Nat->Prop)(v:Value)(w:World)(hi:I c s M w)(hv:RdX S w (Ex.ann a t:Ex) v)(hS:∀g,S g->g<w.heap.size/\¬M g)(hok:(Ex.ann a t:Ex).Ok)(hsz:(Ex.ann a t:Ex).size<=n+1)(hB:c+cost (evs (Ex.ann a t))<=B) :
  Calls Tryz.prog 117 #[v,.func (.func k) #[] caps] w λe' w'=>e'=.returned (.tuple #[])/\Sta I M w (c+cost (evs (Ex.ann a t))) (runS st (evs (Ex.ann a t)) s) w':=by
 have ew:∀args w,(callFunc 157 args).run Tryz.prog w=.ok (.enter 157 args) w:=enters_of Tryz.func157 (by kernel_rfl) rfl
 have mk:∀(W:World) (p:Addr),(Instr.makeFunc (.func 157) #[] #[.pointer (some p)]).run Tryz.prog W=.ok (.func (.func 157) #[] #[.pointer (some p)]) W:=λ_ _=>rfl
 obtain⟨K,X,Z,A0,m,q,KA,kc,LA,lc,rfl,hin⟩:=hv.shape
 simp only[kdE,nmE,toE,kidsE,altsE,List.length_cons,List.length_nil,Nat.zero_add]at hin ⊢
 have hlt:=hI.lt _ _ _ _ hi
 rw[show(⟨([]:Nm).toArray⟩:ByteArray)=⟨#[]⟩ from rfl]
 have hev:evs (Ex.ann a t)=wEv [] [a]:=by simp[evs,wEv]
 rw[hev]at hB ⊢
 obtain⟨W0,hW0⟩:∃W,(w.alloc (.cells #[.int .i64 7,.string ⟨#[]⟩,.bool false,.int .i64 K,.string X,.int .i64 Z,.slice A0 m q,.slice KA 1 kc,.slice LA 0 lc] 39)).alloc (.cells #[.func (.func k) #[] caps] 186)=W:=⟨_,rfl⟩
 have hbx:Box k caps M S w W0 #[.int .i64 7,.string ⟨#[]⟩,.bool false,.int .i64 K,.string X,.int .i64 Z,.slice A0 m q,.slice KA 1 kc,.slice LA 0 lc]:=by
  refine⟨hW0▸Blk.below (heap_alloc_new w _) ((Below.refl _ _).alloc (Nat.le_refl _) _) (by simp),hW0▸two_top _ _ _ _ rfl,by rw[<-hW0];simp,hW0▸((Below.refl _ w).alloc (Nat.le_refl _) _).alloc (by simp) _,hS,hlt⟩
 have hst:=Sta.init (hI.keep _ _ _ _ W0 hi hbx.lw)
 have HBX:=hidE hbx
 have S0:=hidE hst
 have HLW:=hidE hbx.lw
 obtain⟨b0,b1,hsw,-⟩:=hbx.at_ hst
 obtain⟨⟨g0,g1,g2,g3,g4,g5,g6,g7,g8⟩,-,-⟩:=blk_facts9 b0
 have d0:=b1.cell 0
 replace d0:W0.cell? ⟨w.heap.size+1,0,none⟩=some (.func (.func k) #[] caps):=d0
 have hpar:PartsAt S w [a] KA:=λ_=>by
  obtain⟨g,h1,h2,h3⟩:=((kids_at (Ex.ann a t) KA LA).1 hin).1 (by simp[kidsE])
  exact⟨g,0,h1,h2,h3⟩
 have HWW:=hidE (wiS hI ek HV HW hst (Below.refl _ W0) S (λg hg=>hbx.old g hg) [a] [] KA kc none 0 (w.heap.size+1)
  (hpar.keep (λ_ h=>h) (λg hg=>(hbx.at_ hst).2.2.2 g hg)) (λh=>absurd rfl h) (hbx.b1.cell 0) (by have:=hbx.sz;omega) (λe=>by have:=hlt _ e;omega) (by simp;exact⟨hok.1,by simp only[Ex.size]at hsz;omega⟩) (by simp) (by simp) hB)
 simp only[List.length_cons,List.length_nil,Nat.zero_add]at HWW
 clear hbx hst b0 b1 hi hv hS hok hsz hB hin hlt HV HW hpar
 go_enter Tryz.func117,Tryz.ntmps117
 go_upto_region 2 with fail
 try rw[hW0]
 clear hW0
 go_wp2_with fail
 refine HWW.out.mono ?_
 rintro e1 w1 ⟨rfl,s1⟩
 have S1:=hidE s1
 clear s1 HWW g0 g1 g2 g3 g4 g5 g6 g7 g8 d0
 obtain⟨b0,b1,hsw,hkS⟩:=HBX.out.at_ S1.out
 obtain⟨⟨g0,g1,g2,g3,g4,g5,g6,g7,g8⟩,-,-⟩:=blk_facts9 b0
 have d0:=b1.cell 0
 replace d0:w1.cell? ⟨w.heap.size+1,0,none⟩=some (.func (.func k) #[] caps):=d0
 clear b0 b1
 go_wp2_with fail
 go_loopg [72] 0 (λgg vi wr=>gg=0/\vi=.int .i64 0/\Hid (wr=w1))
 case atStart=>exact⟨rfl,rfl,hidE rfl⟩
 case round =>
  obtain⟨rfl,rfl,hw⟩:=hrel
  have hw:=hw.out
  subst hw
  go_wp2_with fail
  first|go_end0|refine bodyPost_ret (results_none rfl _ _ _) rfl ?_
  refine⟨rfl,?_⟩
  have:=S1.out.pre HLW.out
  exact this
end Go.Proofs.YtmbmjneibkihkaaGreatDoor
