/-
  Contracts of the code's functions, part 42.
-/
import Derived.Test.YtmbmjneibkihkaaGreatDoorDaAO
import Derived.Test.YtmbmjneibkihkaaGreatDoorDaAJ
import Derived.Test.YtmbmjneibkihkaaGreatDoorDaAN
import Derived.Deep.RegionHeld3
namespace Go.Proofs.YtmbmjneibkihkaaGreatDoor
open Go.RowKit Lx Tx Sx Go.Maps Go.WideMaps Go.Shelf
set_option maxRecDepth 100000
theorem own_nms {w:World} {B n cp:Nat} {A:Option Addr} {L:List Nm}(hn:n=L.length)(h:w.ownsRow B 9 1 (.slice A n cp) n (L.map Sx.strV)):NmsIn (λg=>B<=g/\g<w.heap.size) w L A:=λhl=>by
 have hp:0<n:=by rw[hn];exact List.length_pos_iff.2 hl
 obtain⟨g,cap,hv,hb,hg⟩:=h.form hp
 injection hv with hv _ _
 refine⟨g,hv,⟨hb,hg⟩,λj v hj=>?_⟩
 have hjn:j<n:=by
  rw[hn]
  have:=(List.getElem?_eq_some_iff.1 hj).1
  simpa using this
 obtain⟨g',hg',-,-,hc⟩:=own_cell h hjn hj
 rw[hv]at hg'
 injection hg' with hg'
 injection hg' with hg'
 rw[Nat.zero_add,hg']
 exact hc w rfl
set_option maxHeartbeats 3200000 in
theorem sc_names(L R:List Nm)(S S':Nat->Prop)(A C:Option Addr)(p q:Nat)(w:World)(hA:NmsIn S w L A)(hC:NmsIn S' w R C)(hl:L.length<=1000000) :
  Calls Tryz.prog 25 #[.slice A L.length p,.slice C R.length q] w λe w'=>e=.returned (.bool (decide (L=R)))/\Below w.heap.size w w':=by
 obtain⟨n,hn⟩:∃n,L.length=n:=⟨_,rfl⟩
 obtain⟨m,hm⟩:∃n,R.length=n:=⟨_,rfl⟩
 rw[hn,hm]
 rw[hn]at hl
 by_cases he:n=m
 ·subst he
  have HN:=hidE hn
  have HM:=hidE hm
  have HA:=hidE hA
  have HC:=hidE hC
  clear hn hm hA hC
  go_enter Tryz.func25,Tryz.ntmps25
  go_wp2_with fail
  go_loopg [5] n (λgg vi wr=>∃i:Nat,gg=n-i/\vi=.int .i64 (i:Nat)/\i<=n/\Hid (L.take i=R.take i)/\Hid (Below w.heap.size w wr))
  case atStart=>exact⟨0,rfl,rfl,by omega,hidE rfl,hidE (Below.refl _ _)⟩
  case round =>
   obtain⟨i,rfl,rfl,hi,hT,hB⟩:=hrel
   by_cases hlt:i<n
   ·obtain⟨x,hx⟩:∃x,L[i]? = some x:=⟨_,List.getElem?_eq_getElem (by rw[HN.out];exact hlt)⟩
    obtain⟨y,hy⟩:∃x,R[i]? = some x:=⟨_,List.getElem?_eq_getElem (by rw[HM.out];exact hlt)⟩
    obtain⟨g,rfl,hSg,hlie⟩:=HA.out (λe=>by rw[e]at hx;simp at hx)
    obtain⟨k,rfl,hSk,hlik⟩:=HC.out (λe=>by rw[e]at hy;simp at hy)
    have f0:=hlie i (Sx.strV x) (by rw[List.getElem?_map,hx];rfl)
    have f1:=hlik i (Sx.strV y) (by rw[List.getElem?_map,hy];rfl)
    rw[Nat.zero_add]at f0 f1
    replace f0:=(hB.out.cell (p:=⟨g,i,none⟩) (lt_cell f0)).trans f0
    replace f1:=(hB.out.cell (p:=⟨k,i,none⟩) (lt_cell f1)).trans f1
    simp only[Sx.strV]at f0 f1
    have i0:(0:Int)<=(i:Int):=by omega
    have i1:(i:Int)<n:=by omega
    obtain⟨X,hX⟩:∃X:ByteArray,⟨x.toArray⟩=X:=⟨_,rfl⟩
    obtain⟨Y,hY⟩:∃X:ByteArray,⟨y.toArray⟩=X:=⟨_,rfl⟩
    rw[hX]at f0
    rw[hY]at f1
    have HSN:Hid (∀(l:List Nm) z,l[i]? = some z->l.take (i+1)=l.take i++[z]):=hidE (λ(l:List Nm) z h=>by rw[List.take_add_one,h];rfl)
    have HXY:=hidE (And.intro hx hy)
    by_cases hxy:x=y
    ·have HEQ:Hid (L.take (i+1)=R.take (i+1)):=hidE (by rw[HSN.out L x hx,HSN.out R y hy,hT.out,hxy])
     have d:(X.toList==Y.toList)=true:=by rw[<-hX,<-hY,hxy];exact beq_self_eq_true _
     clear hx hy hSg hSk hlie hlik hxy
     go_wp2_with fail
     go_region_held3 (λW:World=>W.cell? ⟨g,i,none⟩=some (.string X)/\W.cell? ⟨k,i,none⟩=some (.string Y)) (first|exact⟨f0,f1⟩) (fail)
     all_goals
      go_wp2_with fail
      go_roundg (n-(i+1))
      case measure=>omega
      case rel=>exact⟨i+1,rfl,by go_num,by omega,HEQ,hidE hB.out.drew⟩
    ·have HE:Hid (decide (L=R)=false):=hidE (decide_eq_false (λe=>hxy (by rw[e,hy]at hx;injection hx with hx;exact hx.symm)))
     have d:(X.toList==Y.toList)=false:=by rw[Lib.toList_data,Lib.toList_data,<-hX,<-hY];exact beq_eq_false_iff_ne.2 hxy
     clear hx hy hSg hSk hlie hlik hxy
     go_wp2_with fail
     go_region_held3 (λW:World=>W.cell? ⟨g,i,none⟩=some (.string X)/\W.cell? ⟨k,i,none⟩=some (.string Y)) (first|exact⟨f0,f1⟩) (fail)
     all_goals
      go_wp2_with fail
      go_ret
      refine⟨?_,hB.out.drew⟩
      rw[HE.out]
      rfl
   ·obtain rfl:i=n:=by omega
    have HE:Hid (decide (L=R)=true):=hidE (decide_eq_true (by
     have:=hT.out
     rw[List.take_of_length_le (by rw[HN.out];exact Nat.le_refl _),List.take_of_length_le (by rw[HM.out];exact Nat.le_refl _)]at this
     exact this))
    go_wp2_with fail
    go_ret
    refine⟨?_,hB.out⟩
    rw[HE.out]
    rfl
 ·clear hA hC
  have HE:Hid (decide (L=R)=false):=hidE (decide_eq_false (λe=>he (by rw[<-hn,<-hm,e])))
  have d:((n:Int) !=(m:Int))=true:=by simpa using λe=>he (by omega)
  clear hn hm hl
  go_enter Tryz.func25,Tryz.ntmps25
  go_wp2_with fail
  go_ret
  refine⟨?_,Below.refl _ _⟩
  rw[HE.out]
  rfl
end Go.Proofs.YtmbmjneibkihkaaGreatDoor

namespace Go.Proofs.YtmbmjneibkihkaaGreatDoor
open Go.RowKit Lx Tx Sx Go.Maps Go.WideMaps Go.Shelf
set_option maxRecDepth 100000
set_option maxHeartbeats 3200000 in
theorem sc_namesOfCons(l:List (Nm × Ty))(S:Nat->Prop)(A:Option Addr)(m d:Nat)(w:World)(hl:LstG pcC S w l A)(hm:m=l.length)(hS:∀g,S g->g<w.heap.size)(hn:l.length<=100000) :
  Calls Tryz.prog 121 #[.slice A m d] w (LPostN w (l.map Prod.fst)):=by
 subst hm
 obtain⟨n,hn'⟩:∃n,l.length=n:=⟨_,rfl⟩
 rw[hn']at hn ⊢
 obtain⟨i0,hi0,hz0,hz1,hz2⟩:=info_parts str_info
 have HN:=hidE hn'
 have HL:=hidE hl
 have HS:=hidE hS
 clear hl hS hn'
 go_enter Tryz.func121,Tryz.ntmps121
 go_wp2_with fail
 go_loopg [3,8] n (λgg v3 vi wr=>∃(i:Nat) (C:Option Addr) (cp:Nat),gg=n-i/\vi=.int .i64 (i:Nat)/\v3=.slice C i cp/\i<=n/\Hid (Chg (λ_=>False) w wr)/\Hid (wr.ownsRow w.heap.size 9 1 (.slice C i cp) i (((l.take i).map Prod.fst).map Sx.strV)))
 case atStart=>exact⟨0,none,0,rfl,rfl,rfl,by omega,hidE (Chg.refl _ _),hidE (World.ownsRow_nil _ _ _ _)⟩
 case round =>
  obtain⟨i,C,cp,rfl,rfl,rfl,hi,hB,hO⟩:=hrel
  have hsr:=hB.out.size
  by_cases hlt:i<n
  ·obtain⟨x,hx⟩:∃x,l[i]? = some x:=⟨_,List.getElem?_eq_getElem (by rw[HN.out];exact hlt)⟩
   obtain⟨g,cs,rfl,hSg,hcs,hrow⟩:=HL.out.row i x hx
   have hkS:∀k,S k->wr.heap[k]? = w.heap[k]?:=λk hk=>hB.out.block k (HS.out k hk) (λh=>h)
   have hrow2:=Lie.keep (w:=w) hrow (hkS g hSg)
   obtain⟨c,t⟩:=x
   obtain⟨X,hX⟩:∃X:ByteArray,⟨c.toArray⟩=X:=⟨_,rfl⟩
   obtain⟨k0,X0,Z0,B0,m0,q0,rfl⟩:∃k0 X0 Z0 B0 m0 q0,cs=[.string X,.int .i64 k0,.string X0,.int .i64 Z0,.slice B0 m0 q0]:=by
    obtain⟨TA,ta,rfl,-⟩:=hcs
    obtain⟨K,Y,Z,B,m,q,hs⟩:=tyC_shape (some t) TA ta
    exact⟨K,Y,Z,B,m,q,by rw[show tyV t TA ta=tyC (some t) TA ta from rfl,hs,Sx.strV,hX]⟩
   have f0:wr.cell? ⟨g,i*5,none⟩=some (.string X):=hrow2 0 _ rfl
   have f1:wr.cell? ⟨g,i*5+1,none⟩=some (.int .i64 k0):=hrow2 1 _ rfl
   have f2:wr.cell? ⟨g,i*5+2,none⟩=some (.string X0):=hrow2 2 _ rfl
   have f3:wr.cell? ⟨g,i*5+3,none⟩=some (.int .i64 Z0):=hrow2 3 _ rfl
   have f4:wr.cell? ⟨g,i*5+4,none⟩=some (.slice B0 m0 q0):=hrow2 4 _ rfl
   have hgl:=lt_cell f0
   have hX2:X.data.toList=c:=by rw[<-hX]
   have HO3:=hidE ((hO.out.alloc (.cells #[.string X,.int .i64 k0,.string X0,.int .i64 Z0,.slice B0 m0 q0] 61)).alloc (.cells #[.string X] 9))
   have HSN:Hid (((l.take (i+1)).map Prod.fst).map Sx.strV=((l.take i).map Prod.fst).map Sx.strV++[.string X]):=hidE (by rw[List.take_add_one,hx,<-hX];simp[Sx.strV])
   clear hx hSg hcs hrow hkS hrow2 hX
   go_wp2_with (at_builtin;refine wpList_append_lies _ rfl (.tmp 12) (.tmp 15) 56 rfl w.heap.size 9 i0 _ 1 16 Tryz.underlying56 hi0 hz0 hz1 hz2 rfl (by decide) _ i (((l.take i).map Prod.fst).map Sx.strV) rfl HO3.out ⟨wr.heap.size+1,0,none⟩ 1 1 [.string X] rfl rfl (new_cells' _ _ _ _ (by simp)) (by intro u hu;simp at hu;subst hu;rfl) (by omega) (by unfold maxLen;omega) (by omega) (by simp;omega) _ rfl ?_;intro g3 c3 w5 hown3 hgrow hat hlt3;have HO5:=hidE hown3;have HG5:=hidE hgrow;clear hown3 hgrow hat)
   go_roundg (n-(i+1))
   case measure=>omega
   case rel =>
    refine⟨i+1,some ⟨g3,0,none⟩,c3,rfl,by go_num,rfl,by omega,hidE (((hB.out.alloc _).alloc _).grown HG5.out (λk hk=>.inl (hO.out.lt k hk).1)),hidE (HSN.out▸HO5.out)⟩
  ·obtain rfl:i=n:=by omega
   have HR:Hid (LPostN w (l.map Prod.fst) (.returned (.slice C i cp)) wr):=hidE ⟨C,i,cp,rfl,by rw[List.length_map,HN.out],by
    have:=hO.out
    rw[List.take_of_length_le (by rw[HN.out];exact Nat.le_refl _)]at this
    exact this,⟨hB.out.os,hB.out.tape,hB.out.output,hB.out.size,λj hj=>hB.out.block j hj (λh=>h)⟩⟩
   go_wp2_with fail
   go_ret
   exact HR.out
end Go.Proofs.YtmbmjneibkihkaaGreatDoor

namespace Go.Proofs.YtmbmjneibkihkaaGreatDoor
open Go.RowKit Lx Tx Sx Go.Maps Go.WideMaps Go.Shelf
set_option maxRecDepth 100000
def VisQ {τ:Type}(k:Nat)(bd:Array Value)(B:Nat)(J:Nat->τ->(Nat->Prop)->World->Prop)(ask:Nm->τ->Bool)(tr:Nm->τ->τ):Prop :=
 ∀(c:Nat) (s:τ) (M:Nat->Prop) (X:ByteArray) (w:World),J c s M w->X.size<=24->c+1<=B ->
  Calls Tryz.prog k (bd++#[.string X]) w λe w'=>e=.returned (.bool (ask X.data.toList s))/\Sta J M w (c+1) (tr X.data.toList s) w'
def stA {τ:Type}(tr:Nm->τ->τ)(xs:List Nm)(s:τ):τ:=xs.foldl (λs x=>tr x s) s
def noes {τ:Type}(ask:Nm->τ->Bool)(tr:Nm->τ->τ):List Nm->τ->Nat
 | [],_=>0
 | x::r,s=>if ask x s=true then 0 else noes ask tr r (tr x s)+1
theorem noes_at {τ:Type}(ask:Nm->τ->Bool)(tr:Nm->τ->τ):∀(xs:List Nm)(s:τ)(i:Nat)(x:Nm),xs[i]? = some x->(∀j y,j<i->xs[j]? = some y->ask y (stA tr (xs.take j) s)=false)->ask x (stA tr (xs.take i) s)=true->noes ask tr xs s=i
 | [],_,_,_,h,_,_=>by simp at h
 | y::r,s,0,x,h,_,h2=>by
  simp at h
  subst h
  rw[noes]
  exact if_pos h2
 | y::r,s,i+1,x,h,h1,h2=>by
  have h0:=h1 0 y (by omega) rfl
  rw[noes,if_neg (by rw[show ask y s=false from h0];decide)]
  rw[noes_at ask tr r (tr y s) i x (by simpa using h) (λj z hj hz=>h1 (j+1) z (by omega) (by simpa using hz)) h2]
theorem noes_all {τ:Type}(ask:Nm->τ->Bool)(tr:Nm->τ->τ):∀(xs:List Nm)(s:τ),(∀j y,xs[j]? = some y->ask y (stA tr (xs.take j) s)=false)->noes ask tr xs s=xs.length
 | [],_,_=>rfl
 | y::r,s,h1=>by
  have h0:=h1 0 y rfl
  rw[noes,if_neg (by rw[show ask y s=false from h0];decide)]
  rw[noes_all ask tr r (tr y s) (λj z hz=>h1 (j+1) z (by simpa using hz))]
  rfl
theorem Sta.ask {τ:Type} {J:Nat->τ->(Nat->Prop)->World->Prop} {M0:Nat->Prop} {w0 W:World} {c c':Nat} {s s':τ}(h:Sta J M0 w0 c s W) {P:Program} {F:Nat} {args:Array Value} {u:Value}
  (hc:∀M,J c s M W->Calls P F args W λe w'=>e=.returned u/\Sta J M W c' s' w') :
  Calls P F args W λe w'=>e=.returned u/\Sta J M0 w0 c' s' w':=by
 obtain⟨M,h1,h2,h3⟩:=h
 refine(hc M h1).mono ?_
 rintro e w' ⟨rfl,hs⟩
 exact⟨rfl,Sta.join h2 h3 hs⟩
set_option maxHeartbeats 3200000 in
theorem sc_indexS {τ:Type}(k:Nat)(bd:Array Value)(B:Nat)(J:Nat->τ->(Nat->Prop)->World->Prop)(ask:Nm->τ->Bool)(tr:Nm->τ->τ)(ek:∀args w,(callFunc k args).run Tryz.prog w=.ok (.enter k args) w)(HV:VisQ k bd B J ask tr)(hB9:B<=1000000)
  (xs:List Nm)(c:Nat)(s:τ)(M S:Nat->Prop)(V:Option Addr)(n v:Nat)(w:World)(hj:J c s M w)(hx:NmsIn S w xs V)(hn:n=xs.length)(hS:∀g,S g->g<w.heap.size/\¬M g)(hxs:∀x∈xs,x.length<=24)(hB:c+n<=B) :
  Calls Tryz.prog 125 #[.slice V n v,.func (.func k) bd #[]] w λe w'=>∃r:Int,e=.returned (.int .i64 r) /\
   ((r = -1/\noes ask tr xs s=n)\/(r=(noes ask tr xs s:Nat)/\noes ask tr xs s<n))/\∃d,d<=c+n/\Sta J M w d (stA tr (xs.take (noes ask tr xs s+1)) s) w':=by
 have H0:=hidE (Sta.init hj)
 have HX:=hidE hx
 have HN:=hidE hn.symm
 have HS:=hidE hS
 have HXS:=hidE hxs
 have HVV:=hidE HV
 have hn9:n<=1000000:=by omega
 clear hj hx hn hS hxs HV
 go_enter Tryz.func125,Tryz.ntmps125
 go_wp2_with fail
 go_loopg [8] n (λgg vi wr=>∃i:Nat,gg=n-i/\vi=.int .i64 (i:Nat)/\i<=n/\Hid (Sta J M w (c+i) (stA tr (xs.take i) s) wr)/\Hid (∀j y,j<i->xs[j]? = some y->ask y (stA tr (xs.take j) s)=false))
 case atStart=>exact⟨0,rfl,rfl,by omega,H0,hidE (λj y h=>by omega)⟩
 case round =>
  obtain⟨i,rfl,rfl,hi,hst,hno⟩:=hrel
  clear H0
  by_cases hlt:i<n
  ·obtain⟨x,hx⟩:∃x,xs[i]? = some x:=⟨_,List.getElem?_eq_getElem (by rw[HN.out];exact hlt)⟩
   have hxm:=HXS.out x (List.mem_iff_getElem?.2 ⟨i,hx⟩)
   obtain⟨g,rfl,hSg,hlie⟩:=HX.out (λe=>by rw[e]at hx;simp at hx)
   obtain⟨X,hX⟩:∃X:ByteArray,⟨x.toArray⟩=X:=⟨_,rfl⟩
   have hXx:X.data.toList=x:=by rw[<-hX]
   have hX24:X.size<=24:=by rw[<-hX];show x.toArray.size<=24;simpa using hxm
   have f0:wr.cell? ⟨g,i,none⟩=some (.string X):=by
    have h1:=hlie i (Sx.strV x) (by rw[List.getElem?_map,hx];rfl)
    rw[Nat.zero_add]at h1
    rw[<-hX]
    exact cell_keep h1 (hst.out.block g (HS.out g hSg).1 (HS.out g hSg).2)
   have HSN:Hid (stA tr (xs.take (i+1)) s=tr x (stA tr (xs.take i) s)):=hidE (by rw[List.take_add_one,hx];unfold stA;rw[List.foldl_append];rfl)
   have HASK:=hidE (hst.out.ask (λM2 j2=>HVV.out (c+i) _ M2 X wr j2 hX24 (by omega)))
   have hgl:=lt_cell f0
   obtain⟨q,hq⟩:∃q,ask x (stA tr (xs.take i) s)=q:=⟨_,rfl⟩
   rw[hXx,hq,<-HSN.out]at HASK
   have HQ:=hidE hq
   have HX3:=hidE hx
   clear hx hxm hSg hlie hX hXx hX24 hq
   go_wp2_with fail
   refine HASK.out.mono ?_
   rintro e w1 ⟨rfl,s1⟩
   cases q with
   | true =>
    have HR:Hid (noes ask tr xs s=i):=hidE (noes_at ask tr xs s i x HX3.out hno.out HQ.out)
    have HS1:=hidE s1
    clear s1 HASK
    go_wp2_with fail
    go_ret
    refine⟨(i:Int),rfl,.inr ⟨by rw[HR.out],by rw[HR.out];exact hlt⟩,?_⟩
    rw[HR.out]
    exact⟨c+(i+1),by omega,HS1.out⟩
   | false =>
    have HNO:Hid (∀j y,j<i+1->xs[j]? = some y->ask y (stA tr (xs.take j) s)=false):=hidE (λj y hj hy=>by
     by_cases h:j<i
     ·exact hno.out j y h hy
     ·obtain rfl:j=i:=by omega
      have:=HX3.out.symm.trans hy
      injection this with this
      rw[<-this]
      exact HQ.out)
    have HS1:=hidE s1
    clear s1 HASK
    go_wp2_with fail
    go_roundg (n-(i+1))
    case measure=>omega
    case rel=>exact⟨i+1,rfl,by go_num,by omega,HS1,HNO⟩
  ·obtain rfl:i=n:=by omega
   have hall:=noes_all ask tr xs s (λj y h=>hno.out j y (by rw[<-HN.out];exact(List.getElem?_eq_some_iff.1 h).1) h)
   have HR:Hid (noes ask tr xs s=i):=hidE (hall.trans HN.out)
   clear hall hlt
   go_wp2_with fail
   go_ret
   refine⟨-1,rfl,.inl ⟨rfl,HR.out⟩,?_⟩
   have:=hst.out
   refine⟨c+i,Nat.le_refl _,?_⟩
   rw[HR.out,List.take_of_length_le (by rw[HN.out];omega)]
   rwa [List.take_of_length_le (by rw[HN.out];exact Nat.le_refl _)]at this
end Go.Proofs.YtmbmjneibkihkaaGreatDoor

namespace Go.Proofs.YtmbmjneibkihkaaGreatDoor
open Go.RowKit Lx Tx Sx Go.Maps Go.WideMaps Go.Shelf
set_option maxRecDepth 100000
structure JMet (mb:Nat) (c:Nat) (L:List Nm) (M:Nat->Prop) (w:World):Prop where
 map:MapE mkMet w mb (units L)
 len:L.length<=c
 low:M mb
 all:∀g,M g->g<w.heap.size
theorem JMet.below {mb c:Nat} {L:List Nm} {M:Nat->Prop} {w w':World}(h:JMet mb c L M w)(hb:Below w.heap.size w w'):Sta (JMet mb) M w (c+1) L w' :=
 ⟨M,{ map:=h.map.keep (hb.block _ h.map.lt),len:=by have:=h.len;omega,low:=h.low,all:=λg hg=>Nat.lt_of_lt_of_le (h.all g hg) hb.size },λ_ h=>.inl h,Chg.of_below hb⟩
theorem sc_againQ(mb B:Nat)(hB:B<=1000000):VisQ 119 #[.map (some mb)] B (JMet mb) (λx L=>decide (x∈L)) (λx L=>L++[x]):=λc L M X w hj hX hc =>
 (sc_again mb L X w hj.map hX (by have:=hj.len;omega)).mono λ_ w' ⟨h1,h2,h3⟩=>⟨h1,M,{ map:=h2,len:=by have:=hj.len;simp;omega,low:=hj.low,all:=λg hg=>Nat.lt_of_lt_of_le (hj.all g hg) h3.size },λ_ h=>.inl h,h3.mono (λk _ h=>by have e:k=mb:=h;exact e▸hj.low)⟩
theorem sc_hasQ(mb B:Nat):VisQ 123 #[.map (some mb)] B (JMet mb) (λx L=>decide (x∈L)) (λ_ L=>L):=λ_ L _ X w hj hX _ =>
 (sc_has mb L X w hj.map hX).mono λ_ _ ⟨h1,h2⟩=>⟨h1,hj.below h2⟩
theorem sc_lacksQ(mb B:Nat):VisQ 122 #[.map (some mb)] B (JMet mb) (λx L=>!decide (x∈L)) (λ_ L=>L):=λ_ L _ X w hj hX _ =>
 (sc_lacks mb L X w hj.map hX).mono λ_ _ ⟨h1,h2⟩=>⟨h1,hj.below h2⟩
end Go.Proofs.YtmbmjneibkihkaaGreatDoor

namespace Go.Proofs.YtmbmjneibkihkaaGreatDoor
open Go.RowKit Lx Tx Sx Go.Maps Go.WideMaps Go.Shelf
set_option maxRecDepth 100000
def FAsk(I:Nat->World->Prop)(j:Nat)(V:Option Addr)(n v:Nat)(fn:Value)(ans:Option ByteArray):Prop :=
 ∀(W Wc:World),I j W->Below W.heap.size W Wc->Calls Tryz.prog 125 #[.slice V n v,fn] Wc λe w'=>∃r:Int,e=.returned (.int .i64 r)/\I (j+1) w'/\(∀k,W.heap.size<=k->k<Wc.heap.size->w'.heap[k]? = Wc.heap[k]?) /\
  match ans with
  | none=>r = -1
  | some X=>∃i gx:Nat,r=(i:Nat)/\i<n/\V=some ⟨gx,0,none⟩/\w'.cell? ⟨gx,i,none⟩=some (.string X)
structure Flt where
 V:Option Addr
 n:Nat
 v:Nat
 kf:Nat
 bd:Array Value
 e:Int
 ans:Option ByteArray
def fst1:List Flt->ByteArray × Int
 | []=>(⟨#[]⟩,0)
 | f::r=>match f.ans with|some X=>(X,f.e)|none=>fst1 r
theorem fst1_at:∀(l:List Flt)(i:Nat)(f:Flt)(X:ByteArray),l[i]? = some f->(∀j f,j<i->l[j]? = some f->f.ans=none)->f.ans=some X->fst1 l=(X,f.e)
 | [],_,_,_,h,_,_=>by simp at h
 | g::r,0,f,X,h,_,h2=>by
  simp at h
  subst h
  rw[fst1,h2]
 | g::r,i+1,f,X,h,h1,h2=>by
  rw[fst1,h1 0 g (by omega) rfl]
  exact fst1_at r i f X (by simpa using h) (λj k hj hk=>h1 (j+1) k (by omega) (by simpa using hk)) h2
theorem fst1_all:∀l:List Flt,(∀(j:Nat)(f:Flt),l[j]? = some f->f.ans=none)->fst1 l=(⟨#[]⟩,0)
 | [],_=>rfl
 | g::r,h=>by
  rw[fst1,h 0 g rfl]
  exact fst1_all r (λj k hk=>h (j+1) k (by simpa using hk))
set_option maxHeartbeats 3200000 in
theorem sc_first(l:List Flt)(I:Nat->World->Prop)(g n d:Nat)(w:World)(hn:n=l.length)(hn9:n<=100000)
  (hrow:∀j f,l[j]? = some f->∀W,I j W->g<W.heap.size/\W.cell? ⟨g,j*3,none⟩=some (.slice f.V f.n f.v)/\W.cell? ⟨g,j*3+1,none⟩=some (.func (.func f.kf) f.bd #[])/\W.cell? ⟨g,j*3+2,none⟩=some (.int .i64 f.e))
  (hask:∀j f,l[j]? = some f->FAsk I j f.V f.n f.v (.func (.func f.kf) f.bd #[]) f.ans/\f.n<=1000000)(hI:I 0 w)(hkeep:∀j (W W':World),I j W->Below W.heap.size W W'->I j W') :
  Calls Tryz.prog 76 #[.slice (some ⟨g,0,none⟩) n d] w λe w'=>e=.returned (.tuple #[.string (fst1 l).1,.int .i64 (fst1 l).2])/\∃j,j<=n/\I j w'/\((∀(j:Nat) (f:Flt),l[j]? = some f->f.ans=none)->j=n):=by
 have HN:=hidE hn.symm
 have HR:=hidE hrow
 have HA:=hidE hask
 have HI:=hidE hI
 have HK:=hidE hkeep
 clear hn hrow hask hI hkeep
 go_enter Tryz.func76,Tryz.ntmps76
 go_wp2_with fail
 go_loopg [9] n (λgg vi wr=>∃i:Nat,gg=n-i/\vi=.int .i64 (i:Nat)/\i<=n/\Hid (I i wr)/\Hid (∀j f,j<i->l[j]? = some f->f.ans=none))
 case atStart=>exact⟨0,rfl,rfl,by omega,HI,hidE (λj f h=>by omega)⟩
 case round =>
  obtain⟨i,rfl,rfl,hi,hst,hno⟩:=hrel
  clear HI
  by_cases hlt:i<n
  ·obtain⟨f,hf⟩:∃x,l[i]? = some x:=⟨_,List.getElem?_eq_getElem (by rw[HN.out];exact hlt)⟩
   obtain⟨hgl,f0,f1,f2⟩:=HR.out i f hf wr hst.out
   obtain⟨ha,hfn⟩:=HA.out i f hf
   have HFF:=hidE hf
   have HNX:Hid (f.ans=none->∀j k,j<i+1->l[j]? = some k->k.ans=none):=hidE (λhfa j k hj hk=>by
    by_cases h:j<i
    ·exact hno.out j k h hk
    ·obtain rfl:j=i:=by omega
     have:=hf.symm.trans hk
     injection this with this
     exact this▸hfa)
   have HAT:Hid (∀X,f.ans=some X->fst1 l=(X,f.e)):=hidE (λX h=>fst1_at l i f X hf hno.out h)
   obtain⟨V,m,v,kf,bd,e,ans⟩:=f
   simp only at f0 f1 f2 ha hfn
   have HCALL:=hidE (ha wr (wr.alloc (.cells #[.slice V m v,.func (.func kf) bd #[],.int .i64 e] 189)) hst.out ((Below.refl _ wr).alloc (Nat.le_refl _) _))
   clear ha hf
   go_wp2_with fail
   refine HCALL.out.mono ?_
   rintro e' w1 ⟨r,rfl,hI1,hk,ho⟩
   have hb:Blk w1 wr.heap.size 189 #[.slice V m v,.func (.func kf) bd #[],.int .i64 e]:=(hk _ (Nat.le_refl _) (by simp)).trans (heap_alloc_new wr _)
   have c0:w1.cell? ⟨wr.heap.size,0,none⟩=some (.slice V m v):=hb.cell 0
   have c2:w1.cell? ⟨wr.heap.size,2,none⟩=some (.int .i64 e):=hb.cell 2
   have HI1:=hidE hI1
   clear hI1 hk hb HCALL
   cases ans with
   | none =>
    have hr:r = -1:=ho
    subst hr
    clear ho
    have HNO:=hidE (HNX.out rfl)
    go_wp2_with fail
    go_roundg (n-(i+1))
    case measure=>omega
    case rel=>exact⟨i+1,rfl,by go_num,by omega,HI1,HNO⟩
   | some X =>
    obtain⟨q,gx,rfl,hq,rfl,hc⟩:∃i gx:Nat,r=(i:Nat)/\i<m/\V=some ⟨gx,0,none⟩/\w1.cell? ⟨gx,i,none⟩=some (.string X):=ho
    have HF:=hidE (HAT.out X rfl)
    have q0:(0:Int)<=(q:Int):=by omega
    have q1:(q:Int)<(m:Int):=by omega
    go_wp2_with fail
    go_region_held3 (λW:World=>W.cell? ⟨wr.heap.size,0,none⟩=some (.slice (some ⟨gx,0,none⟩) m v)/\W.cell? ⟨wr.heap.size,2,none⟩=some (.int .i64 e)/\W.cell? ⟨gx,q,none⟩=some (.string X)) (first|exact⟨c0,c2,hc⟩) (fail)
    all_goals
     go_wp2_with fail
     go_ret2
     exact⟨by rw[HF.out];rfl,i+1,by omega,HK.out _ _ _ HI1.out (Below.refl _ _).drew,λh=>by have:=h i _ HFF.out;cases this⟩
  ·obtain rfl:i=n:=by omega
   have HF:=hidE (fst1_all l (λj f h=>hno.out j f (by have:=(List.getElem?_eq_some_iff.1 h).1;have:=HN.out;omega) h))
   go_wp2_with fail
   go_ret2
   exact⟨by rw[HF.out];rfl,i,Nat.le_refl _,hst.out,λ_=>rfl⟩
end Go.Proofs.YtmbmjneibkihkaaGreatDoor

namespace Go.Proofs.YtmbmjneibkihkaaGreatDoor
open Go.RowKit Lx Tx Sx Go.Maps Go.WideMaps Go.Shelf
set_option maxRecDepth 100000
def OneFault(w:World)(X:ByteArray)(F mb:Nat)(c:Int)(e:Ending)(w':World):Prop :=
 ∃g k:Nat,e=.returned (.slice (some ⟨g,0,none⟩) 1 1)/\w.heap.size<=g/\w.heap.size<=k/\g≠k/\Blk w' g 189 #[.slice (some ⟨k,0,none⟩) 1 1,.func (.func F) #[.map (some mb)] #[],.int .i64 c]/\Blk w' k 9 #[.string X]/\Below w.heap.size w w'
set_option maxHeartbeats 3200000 in
theorem sc_alone(da co si bi:Nat)(k0:Int)(X:ByteArray)(A0:Option Addr)(m0 c0:Nat)(A1:Option Addr)(m1 c1:Nat)(K0:Int)(X0:ByteArray)(Z0:Int)(B0:Option Addr)(n0 d0:Nat)(k1:Int)(X1:ByteArray)(t1:Bool)(K1:Int)(X2:ByteArray)(Z1:Int)(B1:Option Addr)(n1 d1:Nat)(C1:Option Addr)(p1 e1:Nat)(D1:Option Addr)(q1 f1:Nat)(w:World) :
  Calls Tryz.prog 74 #[.agg #[.map (some da),.map (some co),.map (some si),.map (some bi)],
   .agg #[.int .i64 k0,.string X,.slice A0 m0 c0,.slice A1 m1 c1,.int .i64 K0,.string X0,.int .i64 Z0,.slice B0 n0 d0,.int .i64 k1,.string X1,.bool t1,.int .i64 K1,.string X2,.int .i64 Z1,.slice B1 n1 d1,.slice C1 p1 e1,.slice D1 q1 f1]] w λe w' =>
    if k0=2 then OneFault w X 122 bi 92 e w' else e=.returned (.slice none 0 0)/\Below w.heap.size w w':=by
 obtain⟨W,hW⟩:∃W,(w.alloc (.cells #[.map (some da),.map (some co),.map (some si),.map (some bi)] 130)).alloc (.cells #[.int .i64 k0,.string X,.slice A0 m0 c0,.slice A1 m1 c1,.int .i64 K0,.string X0,.int .i64 Z0,.slice B0 n0 d0,.int .i64 k1,.string X1,.bool t1,.int .i64 K1,.string X2,.int .i64 Z1,.slice B1 n1 d1,.slice C1 p1 e1,.slice D1 q1 f1] 59)=W:=⟨_,rfl⟩
 have hb:Below w.heap.size w W:=hW▸((Below.refl _ w).alloc (Nat.le_refl _) _).alloc (by simp) _
 have hz:W.heap.size=w.heap.size+1+1:=by rw[<-hW];simp
 have b1:Blk W (w.heap.size+1) 59 #[.int .i64 k0,.string X,.slice A0 m0 c0,.slice A1 m1 c1,.int .i64 K0,.string X0,.int .i64 Z0,.slice B0 n0 d0,.int .i64 k1,.string X1,.bool t1,.int .i64 K1,.string X2,.int .i64 Z1,.slice B1 n1 d1,.slice C1 p1 e1,.slice D1 q1 f1]:=hW▸two_top _ _ _ _ rfl
 have b0:Blk W w.heap.size 130 #[.map (some da),.map (some co),.map (some si),.map (some bi)]:=hW▸Blk.alloc (heap_alloc_new w _) _
 have g0:W.cell? ⟨w.heap.size+1,0,none⟩=some (.int .i64 k0):=b1.cell 0
 have g1:W.cell? ⟨w.heap.size+1,1,none⟩=some (.string X):=b1.cell 1
 have g2:W.cell? ⟨w.heap.size,3,none⟩=some (.map (some bi)):=b0.cell 3
 have HB:=hidE hb
 clear b0 b1 hb
 by_cases h:k0=2
 ·rw[show(λ(e:Ending) (w':World)=>if k0=2 then OneFault w X 122 bi 92 e w' else e=.returned (.slice none 0 0)/\Below w.heap.size w w')=OneFault w X 122 bi 92 from by funext e w';rw[if_pos h]]
  subst h
  go_enter Tryz.func74,Tryz.ntmps74
  go_wp2_with fail
  go_ret
  refine⟨w.heap.size+1+1+1,w.heap.size+1+1,rfl,by omega,by omega,by omega,?_,?_,(HB.out.alloc (by omega) _).alloc (by simp;omega) _⟩
  ·rw[<-hz]
   exact two_top _ _ _ _ rfl
  ·rw[<-hz]
   exact Blk.alloc (heap_alloc_new W _) _
 ·rw[show(λ(e:Ending) (w':World)=>if k0=2 then OneFault w X 122 bi 92 e w' else e=.returned (.slice none 0 0)/\Below w.heap.size w w')=(λe w'=>e=.returned (.slice none 0 0)/\Below w.heap.size w w') from by funext e w';rw[if_neg h]]
  have d:(k0 != 2)=true:=by simpa using h
  go_enter Tryz.func74,Tryz.ntmps74
  go_wp2_with fail
  go_ret
  exact⟨rfl,HB.out⟩
end Go.Proofs.YtmbmjneibkihkaaGreatDoor

namespace Go.Proofs.YtmbmjneibkihkaaGreatDoor
open Go.RowKit Lx Tx Sx Go.Maps Go.WideMaps Go.Shelf
theorem noes_rep:∀(xs L s:List Nm),(∀x,x∈L↔x∈s)->xs[noes (λx L=>decide (x∈L)) (λx L=>L++[x]) xs L]? = rep s xs
 | [],_,_,_=>rfl
 | x::r,L,s,h=>by
  rw[noes,rep]
  by_cases hx:x∈L
  ·rw[if_pos (decide_eq_true hx),if_pos ((h x).1 hx)];rfl
  ·rw[if_neg (by rw[decide_eq_false hx];decide),if_neg (λe=>hx ((h x).2 e))]
   rw[List.getElem?_cons_succ]
   exact noes_rep r _ _ (λy=>by simp[h y,or_comm])
theorem noes_find(p:Nm->Bool):∀(xs L:List Nm),xs[noes (λx (_:List Nm)=>p x) (λ_ L=>L) xs L]? = xs.find? p
 | [],_=>rfl
 | x::r,L=>by
  rw[noes,List.find?_cons]
  cases hx:p x with
  | true=>rw[if_pos rfl];rfl
  | false =>
   rw[if_neg (by decide)]
   rw[List.getElem?_cons_succ]
   exact noes_find p r L
theorem noes_has:∀(xs B:List Nm),xs[noes (λx (L:List Nm)=>decide (x∈L)) (λ_ L=>L) xs B]? = xs.find? (λx=>decide (x∈B))
 | [],_=>rfl
 | x::r,B=>by
  rw[noes,List.find?_cons]
  cases hx:decide (x∈B) with
  | true=>rw[if_pos rfl];rfl
  | false =>
   rw[if_neg (by decide),List.getElem?_cons_succ]
   exact noes_has r B
theorem noes_lacks:∀(xs B:List Nm),xs[noes (λx (L:List Nm)=>!decide (x∈L)) (λ_ L=>L) xs B]? = xs.find? (λx=>decide (x∉B))
 | [],_=>rfl
 | x::r,B=>by
  rw[noes,List.find?_cons]
  by_cases hx:x∈B
  ·rw[if_neg (by simp[hx])]
   simp only[hx,not_true,decide_false]
   rw[List.getElem?_cons_succ]
   exact noes_lacks r B
  ·rw[if_pos (by simp[hx])]
   simp[hx]
theorem stA_snoc:∀(xs L:List Nm),stA (λx (L:List Nm)=>L++[x]) xs L=L++xs
 | [],L=>(List.append_nil L).symm
 | x::r,L=>by
  have:=stA_snoc r (L++[x])
  rw[List.append_assoc]at this
  exact this
theorem stA_id:∀(xs L:List Nm),stA (λ_ (L:List Nm)=>L) xs L=L
 | [],_=>rfl
 | _::r,L=>stA_id r L
structure Mets where
 d:List Nm
 c:List Nm
 s:List Nm
 b:List Nm
def Mets.next(m:Mets):De->Mets
 | .data n _ cs=>{ m with d:=m.d++[n],c:=m.c++conNames cs }
 | .sig x _=>{ m with s:=m.s++[x] }
 | .bind x _=>{ m with b:=m.b++[x] }
def twOne(m:Mets):De->Option Nm
 | .data n ps cs=>if n∈m.d then some n else match rep [] ps with
  | some x=>some x
  | none=>rep m.c (conNames cs)
 | .sig x _=>if x∈m.s then some x else none
 | .bind x _=>if x∈m.b then some x else none
theorem rep_congr:∀(l s t:List Nm),(∀x,x∈s↔x∈t)->rep s l=rep t l
 | [],_,_,_=>rfl
 | x::r,s,t,h=>by
  rw[rep,rep]
  by_cases hx:x∈s
  ·rw[if_pos hx,if_pos ((h x).1 hx)]
  ·rw[if_neg hx,if_neg (λe=>hx ((h x).2 e))]
   exact rep_congr r _ _ (λy=>by simp[h y])
theorem tw_congr:∀(l:List De)(d c s b d' c' s' b':List Nm),(∀x,x∈d↔x∈d')->(∀x,x∈c↔x∈c')->(∀x,x∈s↔x∈s')->(∀x,x∈b↔x∈b')->tw d c s b l=tw d' c' s' b' l
 | [],_,_,_,_,_,_,_,_,_,_,_,_=>rfl
 | .data n ps cs::r,d,c,s,b,d',c',s',b',hd,hc,hs,hb=>by
  rw[tw,tw]
  by_cases hx:n∈d
  ·rw[if_pos hx,if_pos ((hd n).1 hx)]
  ·rw[if_neg hx,if_neg (λe=>hx ((hd n).2 e)),rep_congr _ c c' hc]
   rw[tw_congr r (n::d) (conNames cs++c) s b (n::d') (conNames cs++c') s' b' (λy=>by simp[hd y]) (λy=>by simp[hc y]) hs hb]
 | .sig x t::r,d,c,s,b,d',c',s',b',hd,hc,hs,hb=>by
  rw[tw,tw]
  by_cases hx:x∈s
  ·rw[if_pos hx,if_pos ((hs x).1 hx)]
  ·rw[if_neg hx,if_neg (λe=>hx ((hs x).2 e))]
   exact tw_congr r d c (x::s) b d' c' (x::s') b' hd hc (λy=>by simp[hs y]) hb
 | .bind x t::r,d,c,s,b,d',c',s',b',hd,hc,hs,hb=>by
  rw[tw,tw]
  by_cases hx:x∈b
  ·rw[if_pos hx,if_pos ((hb x).1 hx)]
  ·rw[if_neg hx,if_neg (λe=>hx ((hb x).2 e))]
   exact tw_congr r d c s (x::b) d' c' s' (x::b') hd hc hs (λy=>by simp[hb y])
theorem tw_step(m:Mets)(x:De)(r:List De):tw m.d m.c m.s m.b (x::r)=match twOne m x with
  | some y=>some y
  | none=>tw (m.next x).d (m.next x).c (m.next x).s (m.next x).b r:=by
 cases x with
 | data n ps cs =>
  rw[tw]
  unfold twOne
  by_cases hx:n∈m.d
  ·rw[if_pos hx];simp[hx]
  ·rw[if_neg hx]
   simp only[hx,if_false]
   cases h1:rep [] ps with
   | some y=>rfl
   | none =>
    simp only
    cases h2:rep m.c (conNames cs) with
    | some y=>rfl
    | none=>exact tw_congr r _ _ _ _ _ _ _ _ (λy=>by simp[Mets.next,or_comm]) (λy=>by simp[Mets.next,or_comm]) (λ_=>Iff.rfl) (λ_=>Iff.rfl)
 | sig n t =>
  rw[tw]
  unfold twOne
  by_cases hx:n∈m.s
  ·rw[if_pos hx];simp[hx]
  ·rw[if_neg hx]
   simp only[hx,if_false]
   exact tw_congr r _ _ _ _ _ _ _ _ (λ_=>Iff.rfl) (λ_=>Iff.rfl) (λy=>by simp[Mets.next,or_comm]) (λ_=>Iff.rfl)
 | bind n t =>
  rw[tw]
  unfold twOne
  by_cases hx:n∈m.b
  ·rw[if_pos hx];simp[hx]
  ·rw[if_neg hx]
   simp only[hx,if_false]
   exact tw_congr r _ _ _ _ _ _ _ _ (λ_=>Iff.rfl) (λ_=>Iff.rfl) (λ_=>Iff.rfl) (λy=>by simp[Mets.next,or_comm])
theorem next_all:∀(l:List De)(m:Mets),l.foldl Mets.next m=⟨m.d++l.flatMap (λ|.data n _ _=>[n]|_=>[]),m.c++cons l,m.s++sigs l,m.b++binds l⟩
 | [],m=>by simp[cons,sigs,binds]
 | x::r,m=>by
  rw[List.foldl_cons,next_all r]
  cases x <;> simp[Mets.next,cons,sigs,binds,conOf,sigOf,bindOf]
def lookA(j:Nat)(m:Mets)(x:De):Option (Nm × Nat) :=
 if j=0 then(twOne m x).map λy=>(y,90)
 else if j=1 then(match x with|.sig n _=>if n∈m.b then none else some (n,92)|_=>none)
 else(match x with|.bind _ e=>mis m.b m.c e|_=>none)
def nextA(j:Nat)(m:Mets)(x:De):Mets:=if j=0 then m.next x else m
def goL(j:Nat):Mets->List De->Option (Nm × Nat)
 | _,[]=>none
 | m,x::r=>match lookA j m x with
  | some y=>some y
  | none=>goL j (nextA j m x) r
def met0:Mets:=⟨[wAny],[],[],[]⟩
theorem goL0:∀(l:List De)(m:Mets),goL 0 m l=(tw m.d m.c m.s m.b l).map λy=>(y,90)
 | [],_=>rfl
 | x::r,m=>by
  rw[goL,tw_step,show lookA 0 m x=(twOne m x).map λy=>(y,90) from rfl,show nextA 0 m x=m.next x from rfl,goL0 r]
  cases twOne m x <;> rfl
theorem goL1:∀(l:List De)(m:Mets),goL 1 m l=((sigs l).find? (λx=>decide (x∉m.b))).map λy=>(y,92)
 | [],_=>rfl
 | x::r,m=>by
  rw[goL,show nextA 1 m x=m from rfl,goL1 r]
  cases x with
  | data n ps cs=>rfl
  | bind n e=>rfl
  | sig n t =>
   rw[show lookA 1 m (De.sig n t)=if n∈m.b then none else some (n,92) from rfl,show sigs (De.sig n t::r)=n::sigs r from rfl,List.find?_cons]
   by_cases h:n∈m.b
   ·simp[h]
   ·simp[h]
theorem goL2:∀(l:List De)(m:Mets),goL 2 m l=(exs l).findSome? (mis m.b m.c)
 | [],_=>rfl
 | x::r,m=>by
  rw[goL,show nextA 2 m x=m from rfl,goL2 r]
  cases x with
  | data n ps cs=>rfl
  | sig n e=>rfl
  | bind n e =>
   rw[show lookA 2 m (De.bind n e)=mis m.b m.c e from rfl,show exs (De.bind n e::r)=e::exs r from rfl,List.findSome?_cons]
   cases mis m.b m.c e <;> rfl
def metF(l:List De):Mets:=l.foldl Mets.next met0
theorem chk_looks(l:List De):chk l=match goL 0 met0 l with
  | some y=>y
  | none=>match goL 1 (metF l) l with
   | some y=>y
   | none=>match goL 2 (metF l) l with
    | some y=>y
    | none=>([],0):=by
 have hb:(metF l).b=binds l:=by unfold metF;rw[next_all];rfl
 have hc:(metF l).c=cons l:=by unfold metF;rw[next_all];rfl
 rw[goL0,goL1,goL2,hb,hc]
 unfold chk
 rw[show tw met0.d met0.c met0.s met0.b l=tw [wAny] [] [] [] l from rfl]
 cases tw [wAny] [] [] [] l with
 | some y=>rfl
 | none =>
  simp only[Option.map_none]
  cases (sigs l).find? (λx=>decide (x∉binds l)) with
  | some y=>rfl
  | none=>rfl
end Go.Proofs.YtmbmjneibkihkaaGreatDoor

namespace Go.Proofs.YtmbmjneibkihkaaGreatDoor
open Go.RowKit Lx Tx Sx Go.Maps Go.WideMaps Go.Shelf
set_option maxRecDepth 100000
mutual
theorem cost_wt:∀e:Ex,cost (evs e)<=4*e.wt
 | .var _=>by simp[evs,cost,evL,Ex.wt]
 | .con _=>by simp[evs,cost,evL,Ex.wt]
 | .lam x e=>by
  have:=cost_wt e
  simp only[evs,cost_cons,cost_append,cost_nil,evL,Ex.wt,List.length_cons,List.length_nil]
  omega
 | .app a b=>by
  have:=cost_wt a
  have:=cost_wt b
  simp only[evs,cost_cons,cost_append,cost_nil,evL,Ex.wt,List.length_nil]
  omega
 | .lt x t a b=>by
  have:=cost_wt a
  have:=cost_wt b
  simp only[evs,cost_cons,cost_append,cost_nil,evL,Ex.wt,List.length_cons,List.length_nil]
  omega
 | .cs e l=>by
  have:=cost_wt e
  have:=cost_wtA l
  simp only[evs,cost_cons,cost_append,evL,Ex.wt,List.length_nil]
  omega
 | .ann e t=>by
  have:=cost_wt e
  simp only[evs,cost_cons,cost_append,cost_nil,evL,Ex.wt,List.length_nil]
  omega
theorem cost_wt1:∀a:Al,cost (evs1 a)<=4*a.wt
 | .mk c vs b=>by
  have:=cost_wt b
  simp only[evs1,cost_cons,cost_append,cost_nil,evL,Al.wt]
  omega
theorem cost_wtA:∀l:List Al,cost (evsA l)<=4*wtA l
 | []=>by simp[evsA,cost]
 | a::r=>by
  have:=cost_wt1 a
  have:=cost_wtA r
  simp only[evsA,cost_append,wtA]
  omega
end
theorem fask_met {F:Nat} {ask:Nm->List Nm->Bool} {tr:Nm->List Nm->List Nm}(ek:∀args w,(callFunc F args).run Tryz.prog w=.ok (.enter F args) w)(mb:Nat)(HV:VisQ F #[.map (some mb)] 1000000 (JMet mb) ask tr)
  {I:Nat->World->Prop} {j:Nat} {L xs:List Nm} {V:Option Addr} {v:Nat} {S:Nat->Prop}
  (hI:∀W,I j W->MapE mkMet W mb (units L)/\NmsIn S W xs V/\∀g,S g->g<W.heap.size/\g≠mb)
  (hxs:∀x∈xs,x.length<=24)(hL:L.length+xs.length<=1000000)
  (hnext:∀W Wc w',I j W->Below W.heap.size W Wc->Chg (only mb) Wc w'->MapE mkMet w' mb (units (stA tr (xs.take (noes ask tr xs L+1)) L))->I (j+1) w') :
  FAsk I j V xs.length v (.func (.func F) #[.map (some mb)] #[]) ((xs[noes ask tr xs L]?).map λx=>⟨x.toArray⟩):=by
 intro W Wc hi hb
 obtain⟨hm,hx,hS⟩:=hI W hi
 have hmc:MapE mkMet Wc mb (units L):=hm.keep (hb.block _ hm.lt)
 have hxc:NmsIn S Wc xs V:=hx.keep (λ_ h=>h) (λg hg=>hb.block g (hS g hg).1)
 have hj:JMet mb L.length L (only mb) Wc:=⟨hmc,Nat.le_refl _,rfl,λg hg=>by have e:g=mb:=hg;rw[e];exact hmc.lt⟩
 refine(sc_indexS F #[.map (some mb)] 1000000 (JMet mb) ask tr ek HV (Nat.le_refl _) xs L.length L (only mb) S V xs.length v Wc hj hxc rfl (λg hg=>⟨Nat.lt_of_lt_of_le (hS g hg).1 hb.size,(hS g hg).2⟩) hxs hL).mono ?_
 rintro e w' ⟨r,rfl,hr,d,-,M',hj',-,hch⟩
 refine⟨r,rfl,hnext W Wc w' hi hb hch hj'.map,λk h1 h2=>hch.block k h2 (by have:=hm.lt;unfold only;omega),?_⟩
 rcases hr with⟨rfl,hno⟩|⟨rfl,hlt⟩
 ·rw[List.getElem?_eq_none (by omega)]
  exact rfl
 ·obtain⟨x,hx2⟩:∃x,xs[noes ask tr xs L]? = some x:=⟨_,List.getElem?_eq_getElem hlt⟩
  rw[hx2]
  obtain⟨g,hV,hg,hlie⟩:=hxc (λe=>by rw[e]at hlt;simp at hlt)
  refine⟨_,g,rfl,hlt,hV,?_⟩
  have h1:=hlie _ (Sx.strV x) (by rw[List.getElem?_map,hx2];rfl)
  rw[Nat.zero_add]at h1
  exact cell_keep h1 (hch.block g (Nat.lt_of_lt_of_le (hS g hg).1 hb.size) (hS g hg).2)
def metB(da co:Nat)(g:Nat):Prop:=g=da\/g=co\/g=co+1\/g=co+2
structure MetsAt (da co:Nat) (m:Mets) (W:World):Prop where
 d:MapE mkMet W da (units m.d)
 c:MapE mkMet W co (units m.c)
 s:MapE mkMet W (co+1) (units m.s)
 b:MapE mkMet W (co+2) (units m.b)
theorem MetsAt.keep {da co:Nat} {m:Mets} {W W':World}(h:MetsAt da co m W)(hk:∀g,metB da co g->W'.heap[g]? = W.heap[g]?):MetsAt da co m W' :=
 ⟨h.d.keep (hk _ (.inl rfl)),h.c.keep (hk _ (.inr (.inl rfl))),h.s.keep (hk _ (.inr (.inr (.inl rfl)))),h.b.keep (hk _ (.inr (.inr (.inr rfl))))⟩
theorem MetsAt.lt {da co:Nat} {m:Mets} {W:World}(h:MetsAt da co m W):∀g,metB da co g->g<W.heap.size:=by
 rintro g (rfl|rfl|rfl|rfl)
 ·exact h.d.lt
 ·exact h.c.lt
 ·exact h.s.lt
 ·exact h.b.lt
theorem MetsAt.below {da co:Nat} {m:Mets} {W W':World}(h:MetsAt da co m W)(hb:Below W.heap.size W W'):MetsAt da co m W':=h.keep (λg hg=>hb.block g (h.lt g hg))
def Mets.size(m:Mets):Nat:=m.d.length+m.c.length+m.s.length+m.b.length
def FPost(M:Nat->Prop)(w:World)(ans:Option (Nm × Nat))(Q:World->Prop)(e:Ending)(w':World):Prop :=
 Chg M w w'/\∃X k,e=.returned (.tuple #[.string X,.int .i64 k])/\(ans=none->X=⟨#[]⟩/\k=0/\Q w')/\∀y,ans=some y->X=⟨y.1.toArray⟩/\k=(y.2:Nat)
def LPostF(da co:Nat)(w:World)(ans:Option (Nm × Nat))(Q:World->Prop)(e:Ending)(w':World):Prop :=
 ∃A n c,e=.returned (.slice A n c)/\Below w.heap.size w w'/\Calls Tryz.prog 76 #[.slice A n c] w' (FPost (λg=>metB da co g\/w.heap.size<=g) w' ans Q)
set_option maxHeartbeats 1600000 in
theorem sc_first0(A:Option Addr)(d:Nat)(w:World):Calls Tryz.prog 76 #[.slice A 0 d] w λe w'=>e=.returned (.tuple #[.string ⟨#[]⟩,.int .i64 0])/\Below w.heap.size w w':=by
 go_enter Tryz.func76,Tryz.ntmps76
 go_wp2_with fail
 go_loopg [9] 0 (λgg vi wr=>gg=0/\vi=.int .i64 0/\Hid (Below w.heap.size w wr))
 case atStart=>exact⟨rfl,rfl,hidE (Below.refl _ _)⟩
 case round =>
  obtain⟨rfl,rfl,hb⟩:=hrel
  go_wp2_with fail
  go_ret2
  exact⟨rfl,hb.out⟩
theorem LPostF.none {da co:Nat} {w w':World} {Q:World->Prop}(hb:Below w.heap.size w w')(hQ:∀W,Below w'.heap.size w' W->Q W):LPostF da co w none Q (.returned (.slice none 0 0)) w' :=
 ⟨_,_,_,rfl,hb,(sc_first0 _ _ w').mono λe W ⟨h1,h2⟩=>⟨Chg.of_below h2,_,_,h1,λ_=>⟨rfl,rfl,hQ W h2⟩,λy h=>by cases h⟩⟩
end Go.Proofs.YtmbmjneibkihkaaGreatDoor

namespace Go.Proofs.YtmbmjneibkihkaaGreatDoor
open Go.RowKit Lx Tx Sx Go.Maps Go.WideMaps Go.Shelf
set_option maxRecDepth 100000
theorem ek_again:∀args w,(callFunc 119 args).run Tryz.prog w=.ok (.enter 119 args) w:=enters_of Tryz.func119 (by kernel_rfl) rfl
theorem ek_has:∀args w,(callFunc 123 args).run Tryz.prog w=.ok (.enter 123 args) w:=enters_of Tryz.func123 (by kernel_rfl) rfl
theorem ek_lacks:∀args w,(callFunc 122 args).run Tryz.prog w=.ok (.enter 122 args) w:=enters_of Tryz.func122 (by kernel_rfl) rfl
theorem take_one {τ:Type}(ask:Nm->τ->Bool)(tr:Nm->τ->τ)(x:Nm)(s:τ):[x].take (noes ask tr [x] s+1)=[x]:=List.take_of_length_le (by simp)
theorem take_all {τ:Type}(ask:Nm->τ->Bool)(tr:Nm->τ->τ)(xs:List Nm)(s:τ)(h:xs[noes ask tr xs s]? = none):xs.take (noes ask tr xs s+1)=xs:=List.take_of_length_le (by have:=List.getElem?_eq_none_iff.1 h;omega)
theorem first_one {F:Nat} {ask:Nm->List Nm->Bool} {tr:Nm->List Nm->List Nm}(ek:∀args w,(callFunc F args).run Tryz.prog w=.ok (.enter F args) w)(mb:Nat)(HV:VisQ F #[.map (some mb)] 1000000 (JMet mb) ask tr)
  {da co:Nat} (hmb:metB da co mb) {L:List Nm} {x:Nm} {c:Nat} {w W:World} {g k d:Nat} {Q:World->Prop} {ans:Option (Nm × Nat)}
  (hb:Below w.heap.size w W)(hm:MapE mkMet W mb (units L))(hmw:mb<w.heap.size)(hg:Blk W g 189 #[.slice (some ⟨k,0,none⟩) 1 1,.func (.func F) #[.map (some mb)] #[],.int .i64 (c:Nat)])(hk:Blk W k 9 #[.string ⟨x.toArray⟩])(hgw:w.heap.size<=g)(hkw:w.heap.size<=k)
  (hx:x.length<=24)(hL:L.length+1<=1000000)(hans:ans=if ask x L=true then some (x,c) else none)
  (hQ:∀W',Chg (only mb) W W'->MapE mkMet W' mb (units (tr x L))->Q W') :
  LPostF da co w ans Q (.returned (.slice (some ⟨g,0,none⟩) 1 d)) W:=by
 obtain⟨I,hI⟩:∃I:Nat->World->Prop,I=λj W'=>Chg (only mb) W W'/\(j=0->MapE mkMet W' mb (units L))/\(0<j->MapE mkMet W' mb (units (tr x L))):=⟨_,rfl⟩
 have hcell:∀j W',I j W'->W'.heap[g]? = W.heap[g]?/\W'.heap[k]? = W.heap[k]?:=by
  intro j W' h
  rw[hI]at h
  exact⟨h.1.block g hg.lt (by unfold only;omega),h.1.block k hk.lt (by unfold only;omega)⟩
 refine⟨_,_,_,rfl,hb,?_⟩
 refine(sc_first [⟨some ⟨k,0,none⟩,1,1,F,#[.map (some mb)],(c:Nat),([x][noes ask tr [x] L]?).map λx=>⟨x.toArray⟩⟩] I g 1 d W rfl (show 1<=100000 by omega) ?_ ?_ ?_ ?_).mono ?_
 ·intro j f hf W' hi
  have hh:=(hcell j W' hi).1
  have hg':Blk W' g _ _:=hg.same hh
  match j,hf with
  | 0,hf =>
   simp at hf
   subst hf
   exact⟨hg'.lt,hg'.cell 0,hg'.cell 1,hg'.cell 2⟩
 ·intro j f hf
  match j,hf with
  | 0,hf =>
   simp at hf
   subst hf
   refine⟨fask_met (S:=λg=>g=k) ek mb HV (λW' hi=>⟨?_,?_,?_⟩) (by simpa using hx) hL ?_,show 1<=1000000 by omega⟩
   ·rw[hI]at hi
    exact hi.2.1 rfl
   ·intro _
    exact⟨k,rfl,rfl,by
     have:=lie_blk (hk.same (hcell 0 W' hi).2)
     simpa[Sx.strV] using this⟩
   ·intro g' hg'
    have e:g'=k:=hg'
    subst e
    exact⟨(hk.same (hcell 0 W' hi).2).lt,by omega⟩
   ·intro W' Wc w' hi hbl hc hmm
    rw[take_one]at hmm
    rw[hI]at hi ⊢
    exact⟨(hi.1.below hbl).trans' hc (λi _ h=>h),λh=>by omega,λ_=>hmm⟩
 ·rw[hI]
  exact⟨Chg.refl _ _,λ_=>hm,λh=>by omega⟩
 ·intro j W1 W2 h hbl
  rw[hI]at h ⊢
  have hlt:mb<W1.heap.size:=Nat.lt_of_lt_of_le hm.lt h.1.size
  exact⟨h.1.below hbl,λe=>(h.2.1 e).keep (hbl.block _ hlt),λe=>(h.2.2 e).keep (hbl.block _ hlt)⟩
 ·rintro e w' ⟨rfl,j,hj,hi,hall⟩
  rw[hI]at hi
  refine⟨hi.1.mono (λg' _ h=>by have e:g'=mb:=h;exact .inl (e▸hmb)),_,_,rfl,?_,?_⟩
  ·intro hno
   have hf:ask x L=false:=by
    rw[hans]at hno
    cases ha:ask x L with
    | true=>rw[ha,if_pos rfl]at hno;cases hno
    | false=>rfl
   have hn:noes ask tr [x] L=1:=by rw[noes,if_neg (by rw[hf];decide)];rfl
   have hj1:j=1:=hall (λj f hf=>by
    match j,hf with
    | 0,hf =>
     simp at hf
     subst hf
     simp[hn])
   subst hj1
   exact⟨by simp[fst1,hn],by simp[fst1,hn],hQ w' hi.1 (hi.2.2 (by omega))⟩
  ·intro y hy
   have ht:ask x L=true:=by
    rw[hans]at hy
    cases ha:ask x L with
    | true=>rfl
    | false=>rw[ha,if_neg (by decide)]at hy;cases hy
   rw[hans,if_pos ht]at hy
   injection hy with hy
   subst hy
   have hn:noes ask tr [x] L=0:=by rw[noes,if_pos ht]
   exact⟨by simp[fst1,hn],by simp[fst1,hn]⟩
def twRest(m:Mets)(ps:List Nm)(cs:List (Nm × Ty)):Option Nm:=match rep [] ps with
 | some x=>some x
 | none=>rep m.c (conNames cs)
theorem twRest_some {m:Mets} {ps:List Nm} {cs:List (Nm × Ty)} {y:Nm}(h:rep [] ps=some y):twRest m ps cs=some y:=by unfold twRest;rw[h]
theorem twRest_none {m:Mets} {ps:List Nm} {cs:List (Nm × Ty)}(h:rep [] ps=none):twRest m ps cs=rep m.c (conNames cs):=by unfold twRest;rw[h]
theorem twOne_data(m:Mets)(n:Nm)(ps:List Nm)(cs:List (Nm × Ty)):twOne m (.data n ps cs)=if n∈m.d then some n else twRest m ps cs:=rfl
def ITw(da fm co:Nat)(D C:List Nm)(W:World)(j:Nat)(W':World):Prop :=
 Chg (λg=>(0<j/\g=da)\/(1<j/\g=fm)\/(2<j/\g=co)) W W'/\(0<j->MapE mkMet W' da (units D))/\(2<j->MapE mkMet W' co (units C))
theorem first_data {da co fm:Nat}(hd1:da≠co)(hd2:da≠co+1)(hd3:da≠co+2) {m:Mets} {n:Nm} {ps:List Nm} {cs:List (Nm × Ty)} {S:Nat->Prop} {V A:Option Addr} {v cp N nb fb d:Nat} {w W:World}
  (hM:MetsAt da co m W)(hlow:∀g,metB da co g->g<w.heap.size)(hb:Below w.heap.size w W)(hfw:w.heap.size<=fm)(hfm:MapE mkMet W fm (units []))
  (hps:NmsIn S W ps V)(hS:∀g,S g->g<w.heap.size/\¬metB da co g)(hN:N=cs.length)(hrow:NmsIn (λg=>w.heap.size<=g/\g<W.heap.size/\g≠fm) W (conNames cs) A)
  (hk:Blk W nb 9 #[.string ⟨n.toArray⟩])(hkw:w.heap.size<=nb)(hkf:nb≠fm)
  (hg:Blk W fb 189 #[.slice (some ⟨nb,0,none⟩) 1 1,.func (.func 119) #[.map (some da)] #[],.int .i64 90,.slice V ps.length v,.func (.func 119) #[.map (some fm)] #[],.int .i64 90,.slice A N cp,.func (.func 119) #[.map (some co)] #[],.int .i64 90])(hgw:w.heap.size<=fb)(hgf:fb≠fm)
  (hsz:m.size+ps.length+cs.length+1<=100000)(hn:n.length<=24)(hpl:∀x∈ps,x.length<=24)(hcl:∀x∈conNames cs,x.length<=24) :
  LPostF da co w (lookA 0 m (.data n ps cs)) (MetsAt da co (m.next (.data n ps cs))) (.returned (.slice (some ⟨fb,0,none⟩) 3 d)) W:=by
 have hdw:=hlow da (.inl rfl)
 have hcw:=hlow co (.inr (.inl rfl))
 have hsw:=hlow (co+1) (.inr (.inr (.inl rfl)))
 have hbw:=hlow (co+2) (.inr (.inr (.inr rfl)))
 have hbs:=hb.size
 unfold Mets.size at hsz
 have hcn:(conNames cs).length=cs.length:=by simp[conNames]
 obtain⟨A0,hA0⟩:∃a,[n][noes (λx L=>decide (x∈L)) (λx L=>L++[x]) [n] m.d]? = a:=⟨_,rfl⟩
 obtain⟨A1,hA1⟩:∃a,ps[noes (λx L=>decide (x∈L)) (λx L=>L++[x]) ps []]? = a:=⟨_,rfl⟩
 obtain⟨A2,hA2⟩:∃a,(conNames cs)[noes (λx L=>decide (x∈L)) (λx L=>L++[x]) (conNames cs) m.c]? = a:=⟨_,rfl⟩
 have r0:A0=if n∈m.d then some n else none:=by rw[<-hA0,noes_rep [n] m.d m.d (λ_=>Iff.rfl)];rfl
 have r1:A1=rep [] ps:=by rw[<-hA1,noes_rep ps [] [] (λ_=>Iff.rfl)]
 have r2:A2=rep m.c (conNames cs):=by rw[<-hA2,noes_rep _ m.c m.c (λ_=>Iff.rfl)]
 obtain⟨C,hC⟩:∃C,m.c++(conNames cs).take (noes (λx L=>decide (x∈L)) (λx L=>L++[x]) (conNames cs) m.c+1)=C:=⟨_,rfl⟩
 have hkeep:∀j W1 W2,ITw da fm co (m.d++[n]) C W j W1->Below W1.heap.size W1 W2->ITw da fm co (m.d++[n]) C W j W2:=by
  intro j W1 W2 h hbl
  have s:=h.1.size
  exact⟨h.1.below hbl,λe=>(h.2.1 e).keep (hbl.block _ (by omega)),λe=>(h.2.2 e).keep (hbl.block _ (by omega))⟩
 refine⟨_,_,_,rfl,hb,?_⟩
 refine(sc_first [⟨some ⟨nb,0,none⟩,1,1,119,#[.map (some da)],90,A0.map λx=>⟨x.toArray⟩⟩,⟨V,ps.length,v,119,#[.map (some fm)],90,A1.map λx=>⟨x.toArray⟩⟩,⟨A,N,cp,119,#[.map (some co)],90,A2.map λx=>⟨x.toArray⟩⟩] (ITw da fm co (m.d++[n]) C W) fb 3 d W rfl (show 3<=100000 by omega) ?_ ?_ ⟨Chg.refl _ _,λh=>by omega,λh=>by omega⟩ hkeep).mono ?_
 ·intro j f hf W' hi
  have hg':Blk W' fb _ _:=hg.same (hi.1.block fb hg.lt (by omega))
  match j,hf with
  | 0,hf=>simp at hf;subst hf;exact⟨hg'.lt,hg'.cell 0,hg'.cell 1,hg'.cell 2⟩
  | 1,hf=>simp at hf;subst hf;exact⟨hg'.lt,hg'.cell 3,hg'.cell 4,hg'.cell 5⟩
  | 2,hf=>simp at hf;subst hf;exact⟨hg'.lt,hg'.cell 6,hg'.cell 7,hg'.cell 8⟩
 ·intro j f hf
  match j,hf with
  | 0,hf =>
   simp at hf
   subst hf
   rw[<-hA0]
   refine⟨fask_met (S:=λg=>g=nb) ek_again da (sc_againQ da 1000000 (Nat.le_refl _)) (λW' hi=>⟨hM.d.keep (hi.1.block _ hM.d.lt (by omega)),λ_=>⟨nb,rfl,rfl,?_⟩,?_⟩) (by simpa using hn) (by simp;omega) ?_,show 1<=1000000 by omega⟩
   ·have:=lie_blk (hk.same (hi.1.block nb hk.lt (by omega)))
    simpa[Sx.strV] using this
   ·intro g' hg'
    have e:g'=nb:=hg'
    subst e
    exact⟨Nat.lt_of_lt_of_le hk.lt hi.1.size,by omega⟩
   ·intro W' Wc w' hi hbl hc hmm
    rw[take_one]at hmm
    refine⟨((hi.1.below hbl).mono (λi _ h=>by omega)).trans' hc (λi _ h=>?_),λ_=>hmm,λh=>by omega⟩
    have e:i=da:=h
    exact .inl ⟨by omega,e⟩
  | 1,hf =>
   simp at hf
   subst hf
   rw[<-hA1]
   refine⟨fask_met (S:=S) ek_again fm (sc_againQ fm 1000000 (Nat.le_refl _)) (λW' hi=>⟨hfm.keep (hi.1.block _ hfm.lt (by omega)),hps.keep (λ_ h=>h) (λg hg=>?_),?_⟩) hpl (by simp;omega) ?_,show ps.length<=1000000 by omega⟩
   ·have:=hS g hg
    exact hi.1.block g (by omega) (λe=>this.2 (by rcases e with e|e|e <;> simp at e;exact .inl e))
   ·intro g' hg'
    have:=hS g' hg'
    exact⟨by have:=hi.1.size;omega,by omega⟩
   ·intro W' Wc w' hi hbl hc _
    have s:=hi.1.size
    refine⟨((hi.1.below hbl).mono (λi _ h=>by omega)).trans' hc (λi _ h=>?_),λ_=>(hi.2.1 (by omega)).keep ((hc.block _ (by have:=hbl.size;omega) (by unfold only;omega)).trans (hbl.block _ (by omega))),λh=>by omega⟩
    have e:i=fm:=h
    exact .inr (.inl ⟨by omega,e⟩)
  | 2,hf =>
   simp at hf
   subst hf
   rw[<-hA2,hN,<-hcn]
   refine⟨fask_met (S:=λg=>w.heap.size<=g/\g<W.heap.size/\g≠fm) ek_again co (sc_againQ co 1000000 (Nat.le_refl _)) (λW' hi=>⟨hM.c.keep (hi.1.block _ hM.c.lt (by omega)),hrow.keep (λ_ h=>h) (λg hg=>?_),?_⟩) hcl (by rw[hcn];omega) ?_,show(conNames cs).length<=1000000 by omega⟩
   ·exact hi.1.block g hg.2.1 (by omega)
   ·intro g' hg'
    exact⟨by have:=hi.1.size;omega,by omega⟩
   ·intro W' Wc w' hi hbl hc hmm
    have s:=hi.1.size
    rw[stA_snoc,hC]at hmm
    refine⟨((hi.1.below hbl).mono (λi _ h=>by omega)).trans' hc (λi _ h=>?_),λ_=>(hi.2.1 (by omega)).keep ((hc.block _ (by have:=hbl.size;omega) (by unfold only;omega)).trans (hbl.block _ (by omega))),λ_=>hmm⟩
    have e:i=co:=h
    exact .inr (.inr ⟨by omega,e⟩)
 ·rintro e w' ⟨rfl,j,hj,hi,hall⟩
  refine⟨hi.1.mono (λg' _ h=>by
   rcases h with⟨-,h⟩|⟨-,h⟩|⟨-,h⟩
   ·exact .inl (.inl h)
   ·exact .inr (by omega)
   ·exact .inl (.inr (.inl h))),_,_,rfl,?_,?_⟩
  ·intro hno
   rw[show lookA 0 m (.data n ps cs)=(twOne m (.data n ps cs)).map λy=>(y,90) from rfl,Option.map_eq_none_iff]at hno
   rw[twOne_data]at hno
   have hn0:n∉m.d:=λh=>by rw[if_pos h]at hno;cases hno
   rw[if_neg hn0]at hno
   rw[if_neg hn0]at r0
   cases h1:rep [] ps with
   | some y=>rw[twRest_some h1]at hno;cases hno
   | none =>
    rw[twRest_none h1]at hno
    rw[h1]at r1
    rw[hno]at r2
    subst r0 r1 r2
    have hj3:j=3:=hall (λj f hf=>by
     match j,hf with
     | 0,hf=>simp at hf;subst hf;rfl
     | 1,hf=>simp at hf;subst hf;rfl
     | 2,hf=>simp at hf;subst hf;rfl)
    subst hj3
    have hCC:C=m.c++conNames cs:=by rw[<-hC,take_all _ _ _ _ hA2]
    refine⟨rfl,rfl,hi.2.1 (by omega),(by have:=hi.2.2 (by omega);rw[hCC]at this;exact this),hM.s.keep (hi.1.block _ hM.s.lt (by omega)),hM.b.keep (hi.1.block _ hM.b.lt (by omega))⟩
  ·intro y hy
   rw[show lookA 0 m (.data n ps cs)=(twOne m (.data n ps cs)).map λy=>(y,90) from rfl]at hy
   obtain⟨z,hz,rfl⟩:=Option.map_eq_some_iff.1 hy
   rw[twOne_data]at hz
   by_cases hn0:n∈m.d
   ·rw[if_pos hn0]at hz r0
    injection hz with hz
    subst hz r0
    exact⟨rfl,rfl⟩
   ·rw[if_neg hn0]at hz r0
    subst r0
    cases h1:rep [] ps with
    | some y =>
     rw[twRest_some h1]at hz
     rw[h1]at r1
     injection hz with hz
     subst hz r1
     exact⟨rfl,rfl⟩
    | none =>
     rw[twRest_none h1]at hz
     rw[h1]at r1
     rw[hz]at r2
     subst r1 r2
     exact⟨rfl,rfl⟩
end Go.Proofs.YtmbmjneibkihkaaGreatDoor

namespace Go.Proofs.YtmbmjneibkihkaaGreatDoor
open Go.RowKit Lx Tx Sx Go.Maps Go.WideMaps Go.Shelf
set_option maxRecDepth 100000
theorem takeH {P:Program} {md:Region.Mode} {ops:Array Oper} {Q:Exit->Act->World->Prop} {S:World->Prop} {i d:Nat} {oi:Oper} {v:Value} {fuel:Nat} {listed:Array Bool} {a:Act} {w:World}(hi:ops[i]? = some oi)(hd:oi.dst=some d)
  (hs:Region.noSelect ops=true)(hf:Region.free md ops listed i=true)(hr:(Region.ready md ops listed).contains i=true)
  (hQ:∀c a w,Q (.panic c) (a.put oi.dst v) w->Q (.panic c) a w)(hy:YieldsIf P ops S oi v a)(hS:S w)
  (h:wpAnyH P md ops Q S fuel (listed.setIfInBounds i true) { tmps:=a.tmps.setIfInBounds d v,defers:=a.defers } w):wpAnyH P md ops Q S (fuel+1) listed a w:=by
 refine wpAnyH_take hi hs hf hr hQ hy hS ?_
 rw[hd]
 exact h
theorem tw_fin {da co:Nat}(hd1:da≠co)(hd2:da≠co+1)(hd3:da≠co+2) {m:Mets} {n:Nm} {ps:List Nm} {cs:List (Nm × Ty)} {S:Nat->Prop} {V A2:Option Addr} {v n2 c2 pl fm fb:Nat} {X:ByteArray} {w W1 Wm:World}(hfb:Wm.heap.size=fb)
  (hM:MetsAt da co m w)(hps:NmsIn S w ps V)(hS:∀g,S g->g<w.heap.size/\¬metB da co g)(hsz:m.size+ps.length+cs.length+1<=100000)(hok:De.Ok (.data n ps cs))(hX:(⟨n.toArray⟩:ByteArray)=X)(hpl:ps.length=pl)(hn2:n2=cs.length)
  (hb1:Below w.heap.size w W1)(hz1:W1.heap.size=w.heap.size+1+1+1)(bn:Blk W1 (w.heap.size+1+1) 9 #[.string X])(hbm:Below W1.heap.size W1 Wm)(hfw:W1.heap.size<=fm)(hfm:MapE mkMet Wm fm (units []))
  (hrow:NmsIn (λg=>W1.heap.size<=g/\g<Wm.heap.size/\g≠fm) Wm (conNames cs) A2) :
  LPostF da co w (lookA 0 m (.data n ps cs)) (MetsAt da co (m.next (.data n ps cs))) (.returned (.slice (some ⟨fb,0,none⟩) 3 3))
   (Wm.alloc (.cells #[.slice (some ⟨w.heap.size+1+1,0,none⟩) 1 1,.func (.func 119) #[.map (some da)] #[],.int .i64 90,.slice V pl v,.func (.func 119) #[.map (some fm)] #[],.int .i64 90,.slice A2 n2 c2,.func (.func 119) #[.map (some co)] #[],.int .i64 90] 189)):=by
 subst hpl hfb
 have hs1:=hb1.size
 have hsm:=hbm.size
 have hbw:Below w.heap.size w Wm:=hb1.trans (hbm.mono hs1)
 have hfl:=hfm.lt
 have hb:∀o,Below w.heap.size w (Wm.alloc o):=λo=>hbw.alloc (by omega) o
 have h24:∀ {k:Nat} {x:Nm},Gd k x->k<=2->x.length<=24:=λh hk=>gd_len h hk
 refine first_data hd1 hd2 hd3 (hM.below (hb _)) hM.lt (hb _) (by omega) (hfm.keep (Below.heap_alloc _ _ _ hfl)) (hps.keep (λ_ h=>h) (λg hg=>(hb _).block g (hS g hg).1)) hS hn2
  (hrow.keep (λg hg=>⟨by omega,by simp;omega,hg.2.2⟩) (λg hg=>Below.heap_alloc _ _ _ hg.2.1)) (hX.symm▸(bn.below hbm (by omega)).alloc _) (by omega) (by omega) (heap_alloc_new _ _) (by omega) (by omega) hsz (h24 hok.1 (by decide)) (λx hx=>h24 (hok.2.1 x hx) (by decide)) (λx hx=>?_)
 obtain⟨c,hc,rfl⟩:=List.mem_map.1 hx
 exact h24 (hok.2.2 c hc).1 (by decide)
set_option maxHeartbeats 12800000 in
theorem sc_twice_data {da co:Nat}(hd1:da≠co)(hd2:da≠co+1)(hd3:da≠co+2)(m:Mets)(n:Nm)(ps:List Nm)(cs:List (Nm × Ty))(S:Nat->Prop)(V A:Option Addr)(v a:Nat)(w:World)
  (hM:MetsAt da co m w)(hps:NmsIn S w ps V)(hcs:LstG pcC S w cs A)(hS:∀g,S g->g<w.heap.size/\¬metB da co g)(hsz:m.size+ps.length+cs.length+1<=100000)(hok:De.Ok (.data n ps cs)) :
  Calls Tryz.prog 73 #[.agg #[.map (some da),.map (some co),.map (some (co+1)),.map (some (co+2))],
   .agg #[.int .i64 1,.string ⟨n.toArray⟩,.slice V ps.length v,.slice A cs.length a,.int .i64 0,.string ⟨#[]⟩,.int .i64 0,.slice none 0 0,.int .i64 0,.string ⟨#[]⟩,.bool false,.int .i64 0,.string ⟨#[]⟩,.int .i64 0,.slice none 0 0,.slice none 0 0,.slice none 0 0]] w
   (LPostF da co w (lookA 0 m (.data n ps cs)) (MetsAt da co (m.next (.data n ps cs)))):=by
 have hmm:∀w,(Instr.makeMap 128 none).run Tryz.prog w=.ok (.map (some w.heap.size)) (w.alloc (.map #[] 0)):=λ_=>rfl
 obtain⟨X,hX⟩:∃X:ByteArray,⟨n.toArray⟩=X:=⟨_,rfl⟩
 obtain⟨pl,hpl⟩:∃k,ps.length=k:=⟨_,rfl⟩
 obtain⟨cl,hcl⟩:∃k,cs.length=k:=⟨_,rfl⟩
 rw[hX,hpl,hcl]
 obtain⟨W,hW⟩:∃W,(w.alloc (.cells #[.map (some da),.map (some co),.map (some (co+1)),.map (some (co+2))] 130)).alloc (.cells #[.int .i64 1,.string X,.slice V pl v,.slice A cl a,.int .i64 0,.string ⟨#[]⟩,.int .i64 0,.slice none 0 0,.int .i64 0,.string ⟨#[]⟩,.bool false,.int .i64 0,.string ⟨#[]⟩,.int .i64 0,.slice none 0 0,.slice none 0 0,.slice none 0 0] 59)=W:=⟨_,rfl⟩
 have hb:Below w.heap.size w W:=hW▸((Below.refl _ w).alloc (Nat.le_refl _) _).alloc (by simp) _
 have hz:W.heap.size=w.heap.size+1+1:=by rw[<-hW];simp
 have b1:Blk W (w.heap.size+1) 59 #[.int .i64 1,.string X,.slice V pl v,.slice A cl a,.int .i64 0,.string ⟨#[]⟩,.int .i64 0,.slice none 0 0,.int .i64 0,.string ⟨#[]⟩,.bool false,.int .i64 0,.string ⟨#[]⟩,.int .i64 0,.slice none 0 0,.slice none 0 0,.slice none 0 0]:=hW▸two_top _ _ _ _ rfl
 have b0:Blk W w.heap.size 130 #[.map (some da),.map (some co),.map (some (co+1)),.map (some (co+2))]:=hW▸Blk.alloc (heap_alloc_new w _) _
 have g0:W.cell? ⟨w.heap.size+1,0,none⟩=some (.int .i64 1):=b1.cell 0
 have g1:W.cell? ⟨w.heap.size+1,1,none⟩=some (.string X):=b1.cell 1
 obtain⟨W1,hW1⟩:∃x,W.alloc (.cells #[.string X] 9)=x:=⟨_,rfl⟩
 have hz1:W1.heap.size=w.heap.size+1+1+1:=by rw[<-hW1];simp[hz]
 have hb1:Below w.heap.size w W1:=hW1▸hb.alloc (by omega) _
 have B0:=hidE (hW1▸b0.alloc _:Blk W1 _ _ _)
 have B1:=hidE (hW1▸b1.alloc _:Blk W1 _ _ _)
 have BN:=hidE (hz▸hW1▸heap_alloc_new W _:Blk W1 (w.heap.size+1+1) 9 #[.string X])
 have HC:Hid (∀U,Below W1.heap.size W1 U->Calls Tryz.prog 121 #[.slice A cl a] U (λe w'=>∃A2 n2 c2,e=.returned (.slice A2 n2 c2)/\n2=cl/\w'.ownsRow U.heap.size 9 1 (.slice A2 n2 c2) n2 ((conNames cs).map Sx.strV)/\Below U.heap.size U w'/\Below W1.heap.size W1 w')):=hidE (λU hU=>by
  have h:=sc_namesOfCons cs S A cl a U (hcs.keep (λ_ h=>h) (λg hg=>((hb1.trans (hU.mono (by omega))).block g (hS g hg).1))) hcl.symm (λg hg=>by have:=(hS g hg).1;have:=hU.size;omega) (by omega)
  refine h.mono ?_
  rintro e w' ⟨A2,n2,c2,rfl,hn,hr,hbl⟩
  exact⟨A2,n2,c2,rfl,by rw[hn,<-hcl];simp,hr,hbl,hU.trans (hbl.mono hU.size)⟩)
 have HLD:Hid (∀U,Below W1.heap.size W1 U->(U.cell? ⟨w.heap.size,0,none⟩=some (.map (some da))/\U.cell? ⟨w.heap.size,1,none⟩=some (.map (some co))/\U.cell? ⟨w.heap.size+1,2,none⟩=some (.slice V pl v)/\U.cell? ⟨w.heap.size+1,3,none⟩=some (.slice A cl a))):=hidE λU hU=>by
  have c0:=B0.out.below hU (by omega)
  have c1:=B1.out.below hU (by omega)
  exact⟨c0.cell 0,c0.cell 1,c1.cell 2,c1.cell 3⟩
 have k0:W1.cell? ⟨w.heap.size+1,0,none⟩=some (.int .i64 1):=B1.out.cell 0
 have HB1:=hidE hb1
 have BB:Hid (Below W1.heap.size W1 W1):=hidE (Below.refl _ _)
 clear b0 b1 hb hb1
 go_enter Tryz.func73,Tryz.ntmps73
 go_upto_region 4 with fail
 try rw[hW]
 try rw[hW1]
 clear hW hW1 g0 g1
 refine wp_region_held_drew (S:=λU:World=>U.cell? ⟨w.heap.size,0,none⟩=some (.map (some da))/\U.cell? ⟨w.heap.size,1,none⟩=some (.map (some co))/\U.cell? ⟨w.heap.size+1,2,none⟩=some (.slice V pl v)/\U.cell? ⟨w.heap.size+1,3,none⟩=some (.slice A cl a)) (by kernel_rfl) ?_ (λhHeld=>?_)
 ·refine HLD.out _ ?_;(repeat first|(with_reducible exact BB.out)|(with_reducible refine Below.drew ?_)|(with_reducible refine Below.alloc ?_ (by have:=BB.out.size;first|omega|(simp;done)|(simp;omega)) _))
 refine takeH (i:=0) (d:=13) (v:=?_) rfl rfl (by kernel_rfl) (by kernel_rfl) (by kernel_rfl) (λ_ _ _ h=>h) (Or.inl ⟨by rfl,?_⟩) (by assumption) ?_
 rotate_left 1
 ·(intro w hSw;(try dsimp only at hSw);go_simp;(try with_reducible rfl))
 simp only[List.setIfInBounds_toArray,List.set_cons_zero,List.set_cons_succ]
 refine takeH (i:=1) (d:=14) (v:=?_) rfl rfl (by kernel_rfl) (by kernel_rfl) (by kernel_rfl) (λ_ _ _ h=>h) (Or.inl ⟨by rfl,?_⟩) (by assumption) ?_
 rotate_left 1
 ·(intro w hSw;(try dsimp only at hSw);go_simp;(try with_reducible rfl))
 simp only[List.setIfInBounds_toArray,List.set_cons_zero,List.set_cons_succ]
 refine takeH (i:=2) (d:=15) (v:=?_) rfl rfl (by kernel_rfl) (by kernel_rfl) (by kernel_rfl) (λ_ _ _ h=>h) (Or.inl ⟨by rfl,?_⟩) (by assumption) ?_
 rotate_left 1
 ·(intro w hSw;(try dsimp only at hSw);go_simp;(try with_reducible rfl))
 simp only[List.setIfInBounds_toArray,List.set_cons_zero,List.set_cons_succ]
 refine takeH (i:=3) (d:=16) (v:=?_) rfl rfl (by kernel_rfl) (by kernel_rfl) (by kernel_rfl) (λ_ _ _ h=>h) (Or.inl ⟨by rfl,?_⟩) (by assumption) ?_
 rotate_left 1
 ·(intro w hSw;(try dsimp only at hSw);go_simp;(try with_reducible rfl))
 simp only[List.setIfInBounds_toArray,List.set_cons_zero,List.set_cons_succ]
 refine takeH (i:=4) (d:=17) (v:=?_) rfl rfl (by kernel_rfl) (by kernel_rfl) (by kernel_rfl) (λ_ _ _ h=>h) (Or.inl ⟨by rfl,?_⟩) (by assumption) ?_
 rotate_left 1
 ·(intro w hSw;(try dsimp only at hSw);go_simp;(try with_reducible rfl))
 simp only[List.setIfInBounds_toArray,List.set_cons_zero,List.set_cons_succ]
 refine takeH (i:=5) (d:=18) (v:=?_) rfl rfl (by kernel_rfl) (by kernel_rfl) (by kernel_rfl) (λ_ _ _ h=>h) (Or.inl ⟨by rfl,?_⟩) (by assumption) ?_
 rotate_left 1
 ·(intro w hSw;(try dsimp only at hSw);go_simp;(try with_reducible rfl))
 simp only[List.setIfInBounds_toArray,List.set_cons_zero,List.set_cons_succ]
 refine takeH (i:=6) (d:=19) (v:=?_) rfl rfl (by kernel_rfl) (by kernel_rfl) (by kernel_rfl) (λ_ _ _ h=>h) (Or.inl ⟨by rfl,?_⟩) (by assumption) ?_
 rotate_left 1
 ·(intro w hSw;(try dsimp only at hSw);go_simp;(try with_reducible rfl))
 simp only[List.setIfInBounds_toArray,List.set_cons_zero,List.set_cons_succ]
 refine takeH (i:=10) (d:=23) (v:=?_) rfl rfl (by kernel_rfl) (by kernel_rfl) (by kernel_rfl) (λ_ _ _ h=>h) (Or.inl ⟨by rfl,?_⟩) (by assumption) ?_
 rotate_left 1
 ·(intro w hSw;(try dsimp only at hSw);go_simp;(try with_reducible rfl))
 simp only[List.setIfInBounds_toArray,List.set_cons_zero,List.set_cons_succ]
 refine takeH (i:=11) (d:=24) (v:=?_) rfl rfl (by kernel_rfl) (by kernel_rfl) (by kernel_rfl) (λ_ _ _ h=>h) (Or.inl ⟨by rfl,?_⟩) (by assumption) ?_
 rotate_left 1
 ·(intro w hSw;(try dsimp only at hSw);go_simp;(try with_reducible rfl))
 simp only[List.setIfInBounds_toArray,List.set_cons_zero,List.set_cons_succ]
 refine takeH (i:=13) (d:=26) (v:=?_) rfl rfl (by kernel_rfl) (by kernel_rfl) (by kernel_rfl) (λ_ _ _ h=>h) (Or.inl ⟨by rfl,?_⟩) (by assumption) ?_
 rotate_left 1
 ·(intro w hSw;(try dsimp only at hSw);go_simp;(try with_reducible rfl))
 simp only[List.setIfInBounds_toArray,List.set_cons_zero,List.set_cons_succ]
 refine takeH (i:=14) (d:=27) (v:=?_) rfl rfl (by kernel_rfl) (by kernel_rfl) (by kernel_rfl) (λ_ _ _ h=>h) (Or.inl ⟨by rfl,?_⟩) (by assumption) ?_
 rotate_left 1
 ·(intro w hSw;(try dsimp only at hSw);go_simp;(try with_reducible rfl))
 simp only[List.setIfInBounds_toArray,List.set_cons_zero,List.set_cons_succ]
 refine takeH (i:=15) (d:=28) (v:=?_) rfl rfl (by kernel_rfl) (by kernel_rfl) (by kernel_rfl) (λ_ _ _ h=>h) (Or.inl ⟨by rfl,?_⟩) (by assumption) ?_
 rotate_left 1
 ·(intro w hSw;(try dsimp only at hSw);go_simp;(try with_reducible rfl))
 simp only[List.setIfInBounds_toArray,List.set_cons_zero,List.set_cons_succ]
 refine wpAnyH_ready (rs:=[7,12]) (by kernel_rfl) (by simp) ?_
 refine AllReadyH.cons (i:=7) rfl (λK hK=>?_) ?_
 ·go_simp
  refine hK.out _ _ ?_ (λhHeld=>?_)
  ·try dsimp only
   refine HLD.out _ ?_;(repeat first|(with_reducible exact BB.out)|(with_reducible refine Below.drew ?_)|(with_reducible refine Below.alloc ?_ (by have:=BB.out.size;first|omega|(simp;done)|(simp;omega)) _))
  clear hK K
  refine takeH (i:=8) (d:=21) (v:=?_) rfl rfl (by kernel_rfl) (by kernel_rfl) (by kernel_rfl) (λ_ _ _ h=>h) (Or.inl ⟨by rfl,?_⟩) (by assumption) ?_
  rotate_left 1
  ·(intro w hSw;(try dsimp only at hSw);go_simp;(try with_reducible rfl))
  simp only[List.setIfInBounds_toArray,List.set_cons_zero,List.set_cons_succ]
  refine takeH (i:=9) (d:=22) (v:=?_) rfl rfl (by kernel_rfl) (by kernel_rfl) (by kernel_rfl) (λ_ _ _ h=>h) (Or.inl ⟨by rfl,?_⟩) (by assumption) ?_
  rotate_left 1
  ·(intro w hSw;(try dsimp only at hSw);go_simp;(try with_reducible rfl))
  simp only[List.setIfInBounds_toArray,List.set_cons_zero,List.set_cons_succ]
  refine wpAnyH_ready (rs:=[12]) (by kernel_rfl) (by simp) ?_
  refine AllReadyH.cons (i:=12) rfl (λK hK=>?_) ?_
  ·go_simp
   with_reducible refine(HC.out _ (by(repeat first|(with_reducible exact BB.out)|(with_reducible refine Below.drew ?_)|(with_reducible refine Below.alloc ?_ (by have:=BB.out.size;first|omega|(simp;done)|(simp;omega)) _)))).mono ?_
   rintro e w2 ⟨A2,n2,c2,rfl,rfl,hr2,b2,bb2⟩
   have HR2:=hidE hr2
   have B2:=hidE b2
   replace BB:=hidE bb2
   clear hr2 b2 bb2 HC
   go_wp2_with fail
   refine hK.out _ _ ?_ (λhHeld=>?_)
   ·try dsimp only
    refine HLD.out _ ?_;(repeat first|(with_reducible exact BB.out)|(with_reducible refine Below.drew ?_)|(with_reducible refine Below.alloc ?_ (by have:=BB.out.size;first|omega|(simp;done)|(simp;omega)) _))
   clear hK K
   refine takeH (i:=16) (d:=29) (v:=?_) rfl rfl (by kernel_rfl) (by kernel_rfl) (by kernel_rfl) (λ_ _ _ h=>h) (Or.inl ⟨by rfl,?_⟩) (by assumption) ?_
   rotate_left 1
   ·(intro w hSw;(try dsimp only at hSw);go_simp;(try with_reducible rfl))
   simp only[List.setIfInBounds_toArray,List.set_cons_zero,List.set_cons_succ]
   refine wpAnyH_ready (rs:=[17]) (by kernel_rfl) (by simp) ?_
   refine AllReadyH.cons (i:=17) rfl (λK hK=>?_) ?_
   ·go_simp
    refine hK.out _ _ ?_ (λhHeld=>?_)
    ·try dsimp only
     refine HLD.out _ ?_;(repeat first|(with_reducible exact BB.out)|(with_reducible refine Below.drew ?_)|(with_reducible refine Below.alloc ?_ (by have:=BB.out.size;first|omega|(simp;done)|(simp;omega)) _))
    clear hK K
    refine takeH (i:=18) (d:=4) (v:=?_) rfl rfl (by kernel_rfl) (by kernel_rfl) (by kernel_rfl) (λ_ _ _ h=>h) (Or.inl ⟨by rfl,?_⟩) (by assumption) ?_
    rotate_left 1
    ·(intro w hSw;(try dsimp only at hSw);go_simp;(try with_reducible rfl))
    simp only[List.setIfInBounds_toArray,List.set_cons_zero,List.set_cons_succ]
    refine wpAnyH_done (by kernel_rfl) ?_ _
    go_wp2_with fail
    go_ret
    exact tw_fin (hfb:=rfl) hd1 hd2 hd3 hM hps hS hsz hok hX hpl hcl.symm HB1.out hz1 BN.out BB.out (Nat.le_of_eq hz1) (((hz1▸MapE.made mkMet W1:MapE mkMet _ _ _).keep (w':=(W1.alloc (.map #[] 0)).drew) rfl).keep (B2.out.block _ (by simp;omega))) ((own_nms (by rw[<-hcl];simp[conNames]) HR2.out).keep (λg hg=>⟨by have:=hg.1;simp at this;omega,hg.2,by have:=hg.1;simp at this;omega⟩) (λ_ _=>rfl))
   exact AllReadyH.nil
  exact AllReadyH.nil
 refine AllReadyH.cons (i:=12) rfl (λK hK=>?_) ?_
 ·go_simp
  with_reducible refine(HC.out _ (by(repeat first|(with_reducible exact BB.out)|(with_reducible refine Below.drew ?_)|(with_reducible refine Below.alloc ?_ (by have:=BB.out.size;first|omega|(simp;done)|(simp;omega)) _)))).mono ?_
  rintro e w2 ⟨A2,n2,c2,rfl,rfl,hr2,b2,bb2⟩
  have HR2:=hidE hr2
  have B2:=hidE b2
  replace BB:=hidE bb2
  clear hr2 b2 bb2 HC
  go_wp2_with fail
  refine hK.out _ _ ?_ (λhHeld=>?_)
  ·try dsimp only
   refine HLD.out _ ?_;(repeat first|(with_reducible exact BB.out)|(with_reducible refine Below.drew ?_)|(with_reducible refine Below.alloc ?_ (by have:=BB.out.size;first|omega|(simp;done)|(simp;omega)) _))
  clear hK K
  refine takeH (i:=16) (d:=29) (v:=?_) rfl rfl (by kernel_rfl) (by kernel_rfl) (by kernel_rfl) (λ_ _ _ h=>h) (Or.inl ⟨by rfl,?_⟩) (by assumption) ?_
  rotate_left 1
  ·(intro w hSw;(try dsimp only at hSw);go_simp;(try with_reducible rfl))
  simp only[List.setIfInBounds_toArray,List.set_cons_zero,List.set_cons_succ]
  refine wpAnyH_ready (rs:=[7]) (by kernel_rfl) (by simp) ?_
  refine AllReadyH.cons (i:=7) rfl (λK hK=>?_) ?_
  ·go_simp
   refine hK.out _ _ ?_ (λhHeld=>?_)
   ·try dsimp only
    refine HLD.out _ ?_;(repeat first|(with_reducible exact BB.out)|(with_reducible refine Below.drew ?_)|(with_reducible refine Below.alloc ?_ (by have:=BB.out.size;first|omega|(simp;done)|(simp;omega)) _))
   clear hK K
   refine takeH (i:=8) (d:=21) (v:=?_) rfl rfl (by kernel_rfl) (by kernel_rfl) (by kernel_rfl) (λ_ _ _ h=>h) (Or.inl ⟨by rfl,?_⟩) (by assumption) ?_
   rotate_left 1
   ·(intro w hSw;(try dsimp only at hSw);go_simp;(try with_reducible rfl))
   simp only[List.setIfInBounds_toArray,List.set_cons_zero,List.set_cons_succ]
   refine takeH (i:=9) (d:=22) (v:=?_) rfl rfl (by kernel_rfl) (by kernel_rfl) (by kernel_rfl) (λ_ _ _ h=>h) (Or.inl ⟨by rfl,?_⟩) (by assumption) ?_
   rotate_left 1
   ·(intro w hSw;(try dsimp only at hSw);go_simp;(try with_reducible rfl))
   simp only[List.setIfInBounds_toArray,List.set_cons_zero,List.set_cons_succ]
   refine wpAnyH_ready (rs:=[17]) (by kernel_rfl) (by simp) ?_
   refine AllReadyH.cons (i:=17) rfl (λK hK=>?_) ?_
   ·go_simp
    refine hK.out _ _ ?_ (λhHeld=>?_)
    ·try dsimp only
     refine HLD.out _ ?_;(repeat first|(with_reducible exact BB.out)|(with_reducible refine Below.drew ?_)|(with_reducible refine Below.alloc ?_ (by have:=BB.out.size;first|omega|(simp;done)|(simp;omega)) _))
    clear hK K
    refine takeH (i:=18) (d:=4) (v:=?_) rfl rfl (by kernel_rfl) (by kernel_rfl) (by kernel_rfl) (λ_ _ _ h=>h) (Or.inl ⟨by rfl,?_⟩) (by assumption) ?_
    rotate_left 1
    ·(intro w hSw;(try dsimp only at hSw);go_simp;(try with_reducible rfl))
    simp only[List.setIfInBounds_toArray,List.set_cons_zero,List.set_cons_succ]
    refine wpAnyH_done (by kernel_rfl) ?_ _
    go_wp2_with fail
    go_ret
    exact tw_fin (hfb:=by simp) hd1 hd2 hd3 hM hps hS hsz hok hX hpl hcl.symm HB1.out hz1 BN.out (BB.out.alloc BB.out.size _) BB.out.size (MapE.made mkMet w2) ((own_nms (by rw[<-hcl];simp[conNames]) HR2.out).keep (λg hg=>⟨by have:=hg.1;simp at this;omega,by have:=hg.2;simp;omega,by omega⟩) (λg hg=>Below.heap_alloc _ _ _ hg.2))
   exact AllReadyH.nil
  exact AllReadyH.nil
 exact AllReadyH.nil
end Go.Proofs.YtmbmjneibkihkaaGreatDoor
