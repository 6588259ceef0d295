import Derived.Test.YtaomnlcplmkokaaGreatDoorBiX
import Derived.Test.YtaomnlcplmkokaaGreatDoorBiW
set_option maxHeartbeats 12800000
namespace Go.Proofs.YtaomnlcplmkokaaGreatDoor
open Go.RowKit Lx Tx Go.Maps Go.WideMaps Go.Shelf
set_option maxRecDepth 100000
def Pt(w:World)(pb mb kl:Nat)(cl:Array Value)(vc vn:Value):Prop:=Blk w pb 145 #[fnV kl cl,.map (some mb),vc,vn]
section
variable {σ:Type}
def zdT(kl:Nat)(cl:Array Value)(I:Nat->σ->World->Prop)(M Su:Nat->Prop)(place:Ty->Option Ty):Prop :=
 ∀(c:Nat) (s:σ) (t:Ty) (S:Nat->Prop) (v:Value) (w:World),I c s w->RdV S w t v->(∀g,S g->g<w.heap.size)->kd t=1\/kd t=2->Nm t ->
  Calls Tryz.prog kl (#[v]++cl) w λe w'=>∃k x z a m p q,e=.returned (.tuple #[.agg #[.int .i64 k,.string x,.int .i64 z,.slice a m p],.bool q])/\(q=true->∃u,place t=some u/\RdV Su w' u (.agg #[.int .i64 k,.string x,.int .i64 z,.slice a m p]))/\(q=false->place t=none)/\I c s w'/\Chg M w w'
def lfP(place:Ty->Option Ty)(t:Ty):Ty:=(place t).getD t
def CutL(I:Nat->σ->World->Prop)(M Su:Nat->Prop)(place:Ty->Option Ty)(t:Ty)(c:Nat)(s:σ)(W0:World)(b:Nat)(q:Bool)(wx:World):Prop :=
 ∃k x z a m p,Blk wx b 26 #[.int .i64 k,.string x,.int .i64 z,.slice a m p]/\W0.heap.size<=b/\(q=true->∃u,place t=some u/\RdV Su wx u (.agg #[.int .i64 k,.string x,.int .i64 z,.slice a m p]))/\(q=false->place t=none)/\I c s wx/\Chg M W0 wx
theorem zpE {I:Nat->σ->World->Prop} {K M Su:Nat->Prop} {place:Ty->Option Ty} {t:Ty} {c:Nat} {s:σ} {W0 W w1:World} {q:Bool} {k z:Int} {x:ByteArray} {a:Option Addr} {m p:Nat}(hI:InvC I K)(hSu:∀g,Su g->K g)(h0:Below W0.heap.size W0 W)(c1:Chg M W w1)(hi:I c s w1)
  (h1:q=true->∃u,place t=some u/\RdV Su w1 u (.agg #[.int .i64 k,.string x,.int .i64 z,.slice a m p]))(h2:q=false->place t=none):CutL I M Su place t c s W0 w1.heap.size q (w1.alloc (.cells #[.int .i64 k,.string x,.int .i64 z,.slice a m p] 26)):=by
 have hlt:=hI.lt _ _ _ hi;refine⟨k,x,z,a,m,p,heap_alloc_new _ _,Nat.le_trans h0.size c1.size,λh=>?_,h2,hI.keep _ _ _ _ hi (by simp) (λg hg=>Below.heap_alloc _ _ _ (hlt g hg)),((Chg.of_below h0).trans c1).alloc _⟩;obtain⟨u,e1,e2⟩:=h1 h;exact⟨u,e1,e2.keep (λ_ h=>h) (λg hg=>Below.heap_alloc _ _ _ (hlt g (hSu g hg)))⟩
theorem zpF {I:Nat->σ->World->Prop} {K M Su:Nat->Prop} {place:Ty->Option Ty} {t:Ty} {c:Nat} {s:σ} {W0 W w1:World} {q:Bool} {k z:Int} {x:ByteArray} {a:Option Addr} {m p g:Nat}(hI:InvC I K)(hSu:∀g,Su g->K g)(hK:∀g,K g->g<W0.heap.size)(hg:W0.heap.size<=g)(h0:Below W0.heap.size W0 W)(c1:Chg M W w1)(hi:I c s w1)
  (hz:Blk w1 g 26 #[.int .i64 0,.string ⟨#[]⟩,.int .i64 0,.slice none 0 0])
  (h1:q=true->∃u,place t=some u/\RdV Su w1 u (.agg #[.int .i64 k,.string x,.int .i64 z,.slice a m p]))(h2:q=false->place t=none):CutL I M Su place t c s W0 g q ((((w1.setCell ⟨g,0,none⟩ (.int .i64 k)).setCell ⟨g,1,none⟩ (.string x)).setCell ⟨g,2,none⟩ (.int .i64 z)).setCell ⟨g,3,none⟩ (.slice a m p)):=by
 refine⟨k,x,z,a,m,p,zad _ _ _ _ hz,hg,λh=>?_,h2,hI.keep _ _ _ _ hi (by simp) (λg' hg'=>zaj _ _ _ _ _ _ _ (by have:=hK g' hg';omega)),((Chg.of_below h0).trans c1).set4 _ _ _ _ hg⟩;obtain⟨u,e1,e2⟩:=h1 h;exact⟨u,e1,e2.keep (λ_ h=>h) (λg' hg'=>zaj _ _ _ _ _ _ _ (by have:=hK g' (hSu g' hg');omega))⟩
end
theorem zsf {σ:Type}(bind:Name->σ->Name × σ)(leaf:Ty->Ty)(env:List (Name × Name))(t:Ty)(s:σ)(h:kd t=1\/kd t=2):chg bind leaf env t s=(if kd t=1 then((look (nmB t).data.toList env).map Ty.var).getD (leaf t) else leaf t,s):=by
 cases t with
 |var x=>rw[chg];exact congrArg (λz=>(z,s)) (if_pos (show kd (Ty.var x)=1 from rfl)).symm
 |mt n=>rw[chg];exact congrArg (λz=>(z,s)) (if_neg (show ¬kd (Ty.mt n)=1 by simp[kd])).symm
 |con d l=>simp[kd]at h
 |fn a b=>simp[kd]at h
 |all x t=>simp[kd]at h
theorem zgW {σ:Type} {mb:Nat} {I:Nat->σ->World->Prop} {K M Su:Nat->Prop} {env:List (Name × Name)} {c:Nat} {O:Ty × σ} {w V:World} {g:Nat} {k z:Int} {x:ByteArray} {a:Option Addr} {m p:Nat}(hI:InvC I K)(hSu:∀g,Su g->K g)(hlt:∀g,K g->g<w.heap.size)(hg:w.heap.size<=g)(hmb:mb<w.heap.size)
  (hi:I c O.2 V)(hm:MapE mkTy V mb env)(hc:Chg M w V)(hr:RdV Su V O.1 (.agg #[.int .i64 k,.string x,.int .i64 z,.slice a m p])):CPst mb I M Su env c O w (.returned (.agg #[.int .i64 k,.string x,.int .i64 z,.slice a m p])) ((((V.setCell ⟨g,0,none⟩ (.int .i64 k)).setCell ⟨g,1,none⟩ (.string x)).setCell ⟨g,2,none⟩ (.int .i64 z)).setCell ⟨g,3,none⟩ (.slice a m p)):=by
 have hf:∀q,q<w.heap.size->((((V.setCell ⟨g,0,none⟩ (.int .i64 k)).setCell ⟨g,1,none⟩ (.string x)).setCell ⟨g,2,none⟩ (.int .i64 z)).setCell ⟨g,3,none⟩ (.slice a m p)).heap[q]?=V.heap[q]?:=λq hq=>zaj _ _ _ _ _ _ _ (by omega);exact⟨k,x,z,a,m,p,rfl,hr.keep (λ_ h=>.inl h) (λq hq=>hf q (hlt q (hSu q hq))),hI.keep _ _ _ _ hi (by simp) (λq hq=>hf q (hlt q hq)),hm.keep (hf mb hmb),(hc.set4 _ _ _ _ hg).mono (λ_ _ h=>.inl h)⟩
set_option maxRecDepth 2000 in
theorem zrh {σ:Type}(pb mb kl:Nat)(cl:Array Value)(vc vn:Value)(I:Nat->σ->World->Prop)(K M Su:Nat->Prop)(bind:Name->σ->Name × σ)(place:Ty->Option Ty)(hI:InvC I K)(hMK:∀g,M g->K g)(hSu:∀g,Su g->K g)(hmb:¬K mb)
  (hpk:K pb)(hpm:¬M pb)(hpt:∀c s w,I c s w->Pt w pb mb kl cl vc vn)(el:∀args w,(callFunc kl args).run Tryz.prog w=.ok (.enter kl args) w)(HP:zdT kl cl I M Su place)
  (c:Nat)(s:σ)(env:List (Name × Name))(t:Ty)(S:Nat->Prop)(v:Value)(w:World)(hk12:kd t=1\/kd t=2)(hi:I c s w)(hm:MapE mkTy w mb env)(hv:RdV S w t v)(hS:∀g,S g->g<w.heap.size)(hnm:Nm t):Calls Tryz.prog 113 #[.pointer (some ⟨pb,0,none⟩),v] w (CPst mb I M Su env c (chg bind (lfP place) env t s) w):=by
 obtain⟨k,X,Z,A,m,cp,rfl,hk,hX,hZ,hkm,-⟩:=hv.parts;obtain⟨l0,l1,ls,lb⟩:=za8 w (.cells #[.int .i64 k,.string X,.int .i64 Z,.slice A m cp] 26) (.cells #[.int .i64 0,.string ⟨#[]⟩,.int .i64 0,.slice none 0 0] 26);have hX24:X.size<=maxLen:=by
  have:(nmB t).size<=24:=by
   rcases hk12 with h|h
   ·cases t with
    |var x=>exact zbf hnm
    |_=>simp[kd]at h
   ·cases t with
    |mt n=>exact Nat.zero_le _
    |_=>simp[kd]at h
  rw[<-hX]at this
  unfold maxLen;omega
 have hml:=hm.lt;have hlt:=hI.lt c s w hi;have hi2:=hI.keep c s w _ hi lb.size (λg hg=>lb.block g (hlt g hg));have hp2:=hpt c s _ hi2;have hm2:=hm.keep (lb.block _ hml);obtain⟨W0,hW⟩:∃W,(w.alloc (.cells #[.int .i64 k,.string X,.int .i64 Z,.slice A m cp] 26)).alloc (.cells #[.int .i64 0,.string ⟨#[]⟩,.int .i64 0,.slice none 0 0] 26)=W:=⟨_,rfl⟩;rw[hW]at l0 l1 ls lb hi2 hp2 hm2
 obtain⟨K5,X5,q5,hq5,hlk5⟩:∃K5 X5 q5,(look X.data.toList env).isSome=q5/\(mkTy.valO (look X.data.toList env)=.agg #[.int .i64 K5,.string X5,.int .i64 0,.slice none 0 0]/\∀y,look X.data.toList env=some y->K5=1/\X5=⟨y.toArray⟩):=by
  cases look X.data.toList env with
  |none=>exact⟨0,⟨#[]⟩,false,rfl,rfl,λy h=>by cases h⟩
  |some y=>exact⟨1,⟨y.toArray⟩,true,rfl,rfl,λz h=>by injection h with h;rw[h];exact⟨rfl,rfl⟩⟩
 obtain⟨hlk5,hlk6⟩:=hlk5;have SOF:Hid (∀W,Below W0.heap.size W0 W->(λW=>W.cell? ⟨pb,1,none⟩=some (.map (some mb))/\W.cell? ⟨w.heap.size,1,none⟩=some (.string X)/\(Instr.lookup 65 (.map (some mb)) (.string X) true).run Tryz.prog W=.ok (.tuple #[.agg #[.int .i64 K5,.string X5,.int .i64 0,.slice none 0 0],.bool q5]) W) W):=hidE λW h=>by
  have h1:=(hm2.keep (h.block mb hm2.lt)).getOk X hX24;rw[hlk5,hq5]at h1
  exact⟨(h.cell (p:=⟨pb,1,none⟩) hp2.lt).trans (Blk.cell hp2 1),(h.cell (p:=⟨w.heap.size,1,none⟩) (by show w.heap.size<_;omega)).trans (Blk.cell l0 1),h1⟩
 have SOG:Hid (∀W,Below W0.heap.size W0 W->(λW=>W.cell? ⟨pb,0,none⟩=some (fnV kl cl)/\W.cell? ⟨w.heap.size,0,none⟩=some (.int .i64 k)/\W.cell? ⟨w.heap.size,1,none⟩=some (.string X)/\W.cell? ⟨w.heap.size,2,none⟩=some (.int .i64 Z)/\W.cell? ⟨w.heap.size,3,none⟩=some (.slice A m cp)) W):=hidE λW h =>
  ⟨(h.cell (p:=⟨pb,0,none⟩) hp2.lt).trans (Blk.cell hp2 0),(h.cell (p:=⟨w.heap.size,0,none⟩) (by show w.heap.size<_;omega)).trans (Blk.cell l0 0),(h.cell (p:=⟨w.heap.size,1,none⟩) (by show w.heap.size<_;omega)).trans (Blk.cell l0 1),(h.cell (p:=⟨w.heap.size,2,none⟩) (by show w.heap.size<_;omega)).trans (Blk.cell l0 2),(h.cell (p:=⟨w.heap.size,3,none⟩) (by show w.heap.size<_;omega)).trans (Blk.cell l0 3)⟩
 have hlt2:=hI.lt c s W0 hi2;have hv2:=hv.keep (S':=S) (w':=W0) (λ_ h=>h) (λg hg=>lb.block g (hS g hg));have F1:=hidE (λW (h:Below W0.heap.size W0 W)=>HP c s t S _ W (hI.keep _ _ _ _ hi2 h.size (λg hg=>h.block g (hlt2 g hg))) (hv2.keep (S':=S) (λ_ h=>h) (λg hg=>h.block g (by have:=hS g hg;omega))) (λg hg=>by have:=hS g hg;have:=h.size;omega) hk12 hnm);have B0:Hid (Below W0.heap.size W0 W0.drew):=hidE (Below.refl _ W0).drew;obtain⟨O,hO⟩:∃O,chg bind (lfP place) env t s=O:=⟨_,rfl⟩;rw[hO]
 have HO:=hidE hO;have HW:=hidE hW;have L0:=hidE l0;have L1:=hidE l1;have LS:=hidE ls;have LB:=hidE lb;have HI2:=hidE hi2;have HM:=hidE hm;have HM2:=hidE hm2;have HLT2:=hidE hlt2;have HLT:=hidE hlt;have HML:=hidE hml;have HV:=hidE hv;have HS:=hidE hS;have HK:=hidE hk;have HX:=hidE hX;have HZ:=hidE hZ;have HKM:=hidE hkm;have HQ5:=hidE hq5;have HL6:=hidE hlk6;have HK12:=hidE hk12;have hnn:pb≠W0.heap.size:=by have:=hp2.lt;omega
 clear hi hm hv hS hnm hlt l0 l1 ls lb hi2 hp2 hm2 hlt2 hv2 hk hX hZ hkm hq5 hlk5 hlk6 hk12 hO hX24 hml;go_enter Tryz.func113,Tryz.ntmps113
 go_upto_region 1 with fail
 clear hW;go_cut [5,6] from 9 (λs5 s6 wx=>s6=.bool q5/\Hid (∃b,s5=.pointer (some ⟨b,0,none⟩)/\Blk wx b 26 #[.int .i64 K5,.string X5,.int .i64 0,.slice none 0 0]/\W0.heap.size<=b/\Below W0.heap.size W0 wx))
 case first =>
  go_region_held3 (λW=>W.cell? ⟨pb,1,none⟩=some (.map (some mb))/\W.cell? ⟨w.heap.size,1,none⟩=some (.string X)/\(Instr.lookup 65 (.map (some mb)) (.string X) true).run Tryz.prog W=.ok (.tuple #[.agg #[.int .i64 K5,.string X5,.int .i64 0,.slice none 0 0],.bool q5]) W)
   (first|(with_reducible exact SOF.out _ B0.out)|(refine SOF.out _ ?_;repeat first|exact Below.refl _ _|(refine Below.alloc ?_ (by first|omega|(simp;done)|(simp;omega)) _)|(refine Below.drew ?_)))
   (fail)
  all_goals
   go_wp2_with fail
   go_meet
   case rel=>exact⟨rfl,hidE ⟨_,rfl,heap_alloc_new _ _,Nat.le_refl _,((Below.refl _ W0).alloc (Nat.le_refl _) _).drew⟩⟩
 case rest =>
  rename World=>V1;obtain⟨rfl,hcx⟩:=hcut;obtain⟨b,rfl,hbk,hble,hb1⟩:=hcx.out;have hvs:=hb1.size;have hws:=LS.out;have h0:=L0.out;have h1:=L1.out;have z3:Blk V1 w.heap.size 26 #[.int .i64 k,.string X,.int .i64 Z,.slice A m cp]:=Blk.below h0 hb1 (by omega);have z4:Blk V1 (w.heap.size+1) 26 #[.int .i64 0,.string ⟨#[]⟩,.int .i64 0,.slice none 0 0]:=Blk.below h1 hb1 (by omega);obtain⟨x0,x1,x2,x3,-,-,-,-,-⟩:=zaa z3;obtain⟨y0,y1,y2,y3,y4,y5,y6,y7,y8⟩:=zaa z4;obtain⟨p0,p1,p2,p3,-,-,-,-,-⟩:=zaa hbk;have Z3:=hidE z3;have Z4:=hidE z4;have BK:=hidE hbk;have BLE:=hidE hble;have HB1:=hidE hb1;have HOV:=hidE (HO.out.symm.trans (zsf bind (lfP place) env t s HK12.out));by_cases hA:kd t=1/\q5=true
  ·obtain⟨hk1,rfl⟩:=hA
   have d1:((k:Int)==1)=true:=by rw[HK.out,hk1];rfl
   obtain⟨y,hy⟩:=Option.isSome_iff_exists.1 HQ5.out;obtain⟨rfl,rfl⟩:=HL6.out y hy;have hov:O=(.var y,s):=by
    rw[HOV.out,if_pos hk1,<-HX.out,hy];rfl
   have HOV2:=hidE hov;clear hcx hbk hb1 z3 z4 HOV hov hk1 hy HL6 HQ5;go_wp2_with fail
   try simp only[Exit.inBlock,Exit.then]
   refine bodyPost_ret (results_cell_row rfl _ _ (w.heap.size+1) 26 _ (0,0) _ rfl (zad (.int .i64 1) (.string ⟨y.toArray⟩) (.int .i64 0) (.slice none 0 0) Z4.out) Tryz.underlying26 rfl (by kernel_rfl)) rfl ?_;exact zgW hI hSu HLT.out (Nat.le_succ _) HML.out (by rw[HOV2.out];exact hI.keep _ _ _ _ HI2.out HB1.out.size (λg hg=>HB1.out.block g (HLT2.out g hg))) (HM2.out.keep (HB1.out.block mb HM2.out.lt)) (Chg.of_below (LB.out.trans (HB1.out.mono (by omega)))) (by rw[HOV2.out];exact⟨none,0,rfl,trivial⟩)
  ·have hov:O=(lfP place t,s):=by
    rw[HOV.out]
    by_cases hk1:kd t=1
    ·rw[if_pos hk1]
     have hq0:q5=false:=by
      cases q5 with
      |true=>exact absurd ⟨hk1,rfl⟩ hA
      |false=>rfl
     rw[hq0]at HQ5
     have hnone:=HQ5.out;rw[Option.isSome_eq_false_iff,Option.isNone_iff_eq_none]at hnone
     rw[<-HX.out,hnone]
     rfl
    ·rw[if_neg hk1]
   have dq:(kd t=1/\q5=false)\/((k:Int)==1)=false:=by
    by_cases hk1:kd t=1
    ·left
     cases q5 with
     |true=>exact absurd ⟨hk1,rfl⟩ hA
     |false=>exact⟨hk1,rfl⟩
    ·right
     rw[HK.out]
     exact kF _ 1 hk1
   have HOV2:=hidE hov;have HDQ:=hidE dq;have BD:Hid (Below W0.heap.size W0 V1.drew):=hidE HB1.out.drew;have BA:Hid (Below W0.heap.size W0 (V1.alloc (.cells #[.int .i64 0,.string ⟨#[]⟩,.int .i64 0,.slice none 0 0] 26)).drew):=hidE (HB1.out.alloc hvs _).drew;have SOK:Hid (∀W':World,(∀g,g=pb\/g=w.heap.size->W'.heap[g]?=W0.heap[g]?)->(λW=>W.cell? ⟨pb,0,none⟩=some (fnV kl cl)/\W.cell? ⟨w.heap.size,0,none⟩=some (.int .i64 k)/\W.cell? ⟨w.heap.size,1,none⟩=some (.string X)/\W.cell? ⟨w.heap.size,2,none⟩=some (.int .i64 Z)/\W.cell? ⟨w.heap.size,3,none⟩=some (.slice A m cp)) W'):=hidE λW' h=>by
    obtain⟨t0,t1,t2,t3,t4⟩:=SOG.out W0 (Below.refl _ _);exact⟨(World.cell?_of_block (w:=W0) (a:=⟨pb,0,none⟩) (h pb (.inl rfl))).trans t0,(World.cell?_of_block (w:=W0) (a:=⟨w.heap.size,0,none⟩) (h w.heap.size (.inr rfl))).trans t1,(World.cell?_of_block (w:=W0) (a:=⟨w.heap.size,1,none⟩) (h w.heap.size (.inr rfl))).trans t2,(World.cell?_of_block (w:=W0) (a:=⟨w.heap.size,2,none⟩) (h w.heap.size (.inr rfl))).trans t3,(World.cell?_of_block (w:=W0) (a:=⟨w.heap.size,3,none⟩) (h w.heap.size (.inr rfl))).trans t4⟩
   have GP:Hid (∀g,g=pb\/g=w.heap.size->g<W0.heap.size/\¬M g):=hidE λg hg=>by
    rcases hg with rfl|rfl
    ·exact⟨HLT2.out _ hpk,hpm⟩
    ·exact⟨by omega,λh=>by have:=HLT.out _ (hMK _ h);omega⟩
   obtain⟨g0,g1,g2,g3,g4⟩:=SOG.out V1 hb1;clear hcx hbk hb1 z3 z4 HOV hov hA HL6 HQ5 dq;go_upto_region 2 with fail
   go_cut [24] from 19 (λs24 wx=>s24=.bool false/\wx=V1)
   case first =>
    rcases HDQ.out with⟨-,rfl⟩|dk
    ·go_wp2_with fail
     go_meet
     case rel=>exact⟨rfl,rfl⟩
    ·cases q5 with
     |false =>
      go_wp2_with fail
      go_meet
      case rel=>exact⟨rfl,rfl⟩
     |true =>
      go_wp2_with fail
      go_meet
      case rel=>exact⟨rfl,rfl⟩
   case rest =>
    obtain⟨rfl,hwv⟩:=hcut;rw[hwv]
    clear hwv p0 p1 p2 p3 x0 x1 x2 x3 y0 y1 y2 y3 y4 y5 y6 y7 y8;unfold fnV at SOK g0;go_upto_region 4 with fail
    go_cut [7,8] from 26 (λs7 s8 wx=>Hid (∃b q,s7=.pointer (some ⟨b,0,none⟩)/\s8=.bool q/\CutL I M Su place t c s W0 b q wx))
    case first =>
     go_region_held3 (λW=>W.cell? ⟨pb,0,none⟩=some (.func (.func kl) #[] cl)/\W.cell? ⟨w.heap.size,0,none⟩=some (.int .i64 k)/\W.cell? ⟨w.heap.size,1,none⟩=some (.string X)/\W.cell? ⟨w.heap.size,2,none⟩=some (.int .i64 Z)/\W.cell? ⟨w.heap.size,3,none⟩=some (.slice A m cp))
      (first|(exact⟨g0,g1,g2,g3,g4⟩)|(exact SOK.out _ GK1.out)|(exact SOK.out _ (λg hg=>(Below.heap_alloc _ _ _ (GL1.out g hg)).trans (GK1.out g hg)))|(exact SOK.out _ (λg hg=>(zaj _ _ _ _ _ _ _ (GN1.out g hg)).trans (GK1.out g hg)))|(exact SOK.out _ (λg hg=>(Below.heap_alloc _ _ _ (by have:=(GP.out g hg).1;omega)).trans (HB1.out.block g (GP.out g hg).1))))
      ((first
       |((with_reducible refine(F1.out _ BD.out).mono ?_);rintro e w1 ⟨k',x',z',a',m',p',q',rfl,h1,h2,hi1,c1⟩;have H1:=hidE h1;have H2:=hidE h2;have HI1:=hidE hi1;have C1:=hidE c1;have GK1:Hid (∀g,g=pb\/g=w.heap.size->w1.heap[g]?=W0.heap[g]?):=hidE (λg hg=>(C1.out.block g (Nat.lt_of_lt_of_le (GP.out g hg).1 BD.out.size) (GP.out g hg).2).trans (BD.out.block g (GP.out g hg).1));have GL1:Hid (∀g,g=pb\/g=w.heap.size->g<w1.heap.size):=hidE (λg hg=>Nat.lt_of_lt_of_le (GP.out g hg).1 (Nat.le_trans BD.out.size C1.out.size));clear h1 h2 hi1 c1)
       |((with_reducible refine(F1.out _ BA.out).mono ?_);rintro e w1 ⟨k',x',z',a',m',p',q',rfl,h1,h2,hi1,c1⟩;have H1:=hidE h1;have H2:=hidE h2;have HI1:=hidE hi1;have C1:=hidE c1;have GK1:Hid (∀g,g=pb\/g=w.heap.size->w1.heap[g]?=W0.heap[g]?):=hidE (λg hg=>(C1.out.block g (Nat.lt_of_lt_of_le (GP.out g hg).1 BA.out.size) (GP.out g hg).2).trans (BA.out.block g (GP.out g hg).1));have GN1:Hid (∀g,g=pb\/g=w.heap.size->g≠V1.heap.size):=hidE (λg hg=>by have:=(GP.out g hg).1;omega);have hz:Blk w1 V1.heap.size 26 #[.int .i64 0,.string ⟨#[]⟩,.int .i64 0,.slice none 0 0]:=Blk.chg (heap_alloc_new V1 _) (w:=(V1.alloc (.cells #[.int .i64 0,.string ⟨#[]⟩,.int .i64 0,.slice none 0 0] 26)).drew) c1 (λh=>by have:=HLT2.out _ (hMK _ h);omega);obtain⟨y0,y1,y2,y3,y4,y5,y6,y7,y8⟩:=zaa hz;have HZ1:=hidE hz;clear h1 h2 hi1 c1 hz)))
     all_goals
      go_wp2_with fail
      go_meet
      case rel=>first
       |(have hzz:=HZ1.out;exact hidE ⟨_,_,rfl,rfl,zpF hI hSu HLT2.out hvs BA.out C1.out HI1.out hzz H1.out H2.out⟩)
       |exact hidE ⟨_,_,rfl,rfl,zpE hI hSu BD.out C1.out HI1.out H1.out H2.out⟩
    case rest =>
     obtain⟨b7,q7,rfl,rfl,k7,x7,z7,a7,m7,p7,hb7,hbl7,hq1,hq2,hi7,hc7⟩:=hcut.out;have hn3:¬M w.heap.size:=λh=>by have:=HLT.out _ (hMK _ h);omega
     have hn4:¬M (w.heap.size+1):=λh=>by have:=HLT.out _ (hMK _ h);omega
     have w3:=Blk.chg h0 hc7 hn3;have w4:=Blk.chg h1 hc7 hn4;have hm7:=HM2.out.keep (hc7.block mb HM2.out.lt (λh=>hmb (hMK _ h)));have hcw:Chg M w wc:=(Chg.of_below LB.out).trans' hc7 (λ_ _ h=>h);obtain⟨x0,x1,x2,x3,-,-,-,-,-⟩:=zaa w3;obtain⟨y0,y1,y2,y3,y4,y5,y6,y7,y8⟩:=zaa w4;obtain⟨p0,p1,p2,p3,-,-,-,-,-⟩:=zaa hb7;have W4:=hidE w4;have HM7:=hidE hm7;have HC7:=hidE hcw;have HI7:=hidE hi7;have HQ1:=hidE hq1;have HQ2:=hidE hq2;clear hcut hb7 hq1 hq2 hi7 hc7 w3 w4 hm7 hcw F1 SOK SOG SOF g0 g1 g2 g3 g4;cases q7 with
     |true =>
      obtain⟨u,hu1,hu2⟩:=HQ1.out rfl;have hlo:O=(u,s):=by rw[HOV2.out];unfold lfP;rw[hu1];rfl
      have HLO:=hidE hlo;have HU2:=hidE hu2;clear hu1 hu2 hlo;go_wp2_with fail
      try simp only[Exit.inBlock,Exit.then]
      refine bodyPost_ret (results_cell_row rfl _ _ (w.heap.size+1) 26 _ (0,0) _ rfl (zad (.int .i64 k7) (.string x7) (.int .i64 z7) (.slice a7 m7 p7) W4.out) Tryz.underlying26 rfl (by kernel_rfl)) rfl ?_;exact zgW hI hSu HLT.out (Nat.le_succ _) HML.out (by rw[HLO.out];exact HI7.out) HM7.out HC7.out (by rw[HLO.out];exact HU2.out)
     |false =>
      have hn:=HQ2.out rfl;have hlo:O=(t,s):=by rw[HOV2.out];unfold lfP;rw[hn];rfl
      have HLO:=hidE hlo;clear hn hlo;go_wp2_with fail
      try simp only[Exit.inBlock,Exit.then]
      refine bodyPost_ret (results_cell_row rfl _ _ (w.heap.size+1) 26 _ (0,0) _ rfl (zad (.int .i64 k) (.string X) (.int .i64 Z) (.slice A m cp) W4.out) Tryz.underlying26 rfl (by kernel_rfl)) rfl ?_;exact zgW hI hSu HLT.out (Nat.le_succ _) HML.out (by rw[HLO.out];exact HI7.out) HM7.out HC7.out (by rw[HLO.out];exact zkX HV.out HK12.out)
section
variable {σ:Type}
def zmp(n pb mb:Nat)(I:Nat->σ->World->Prop)(M Su:Nat->Prop)(bind:Name->σ->Name × σ)(leaf:Ty->Ty)(G:Ty->Prop):Prop :=
 ∀(c:Nat) (s:σ) (env:List (Name × Name)) (t:Ty) (S:Nat->Prop) (v:Value) (w:World),G t->t.size<=n->n<=1000000 ->
  I c s w->MapE mkTy w mb env->RdV S w t v->(∀g,S g->g<w.heap.size/\¬M g/\g≠mb)->Nm t->c+t.fas<=10000000->env.length+t.size<=100000000 ->
  Calls Tryz.prog 90 #[.pointer (some ⟨pb,0,none⟩),v] w (CPst mb I M Su env (c+t.fas) (chg bind leaf env t s) w)
end
theorem zhj {σ:Type}(pb mb kl:Nat)(cl:Array Value)(vc vn:Value)(I:Nat->σ->World->Prop)(K M Su:Nat->Prop)(bind:Name->σ->Name × σ)(place:Ty->Option Ty)(hI:InvC I K)(hMK:∀g,M g->K g)(hSu:∀g,Su g->K g)(hmb:¬K mb)
  (hpk:K pb)(hpm:¬M pb)(hpt:∀c s w,I c s w->Pt w pb mb kl cl vc vn)(el:∀args w,(callFunc kl args).run Tryz.prog w=.ok (.enter kl args) w)(HP:zdT kl cl I M Su place)
  (c:Nat)(s:σ)(env:List (Name × Name))(t:Ty)(S:Nat->Prop)(v:Value)(w:World)(hk12:kd t=1\/kd t=2)(hi:I c s w)(hm:MapE mkTy w mb env)(hv:RdV S w t v)(hS:∀g,S g->g<w.heap.size)(hnm:Nm t):Calls Tryz.prog 90 #[.pointer (some ⟨pb,0,none⟩),v] w (CPst mb I M Su env (c+t.fas) (chg bind (lfP place) env t s) w):=by
 obtain⟨k,X,Z,A,m,cp,rfl,hk,-,-,-,-⟩:=hv.parts;have hlt:=hI.lt c s w hi;have hml:=hm.lt;obtain⟨-,k1,ks,bl⟩:=za8 w (.cells #[.int .i64 k,.string X,.int .i64 Z,.slice A m cp] 26) (.cells #[.int .i64 0,.string ⟨#[]⟩,.int .i64 0,.slice none 0 0] 26);have HCALL:=hidE (zrh pb mb kl cl vc vn I K M Su bind place hI hMK hSu hmb hpk hpm hpt el HP c s env t S _ _ hk12 (hI.keep _ _ _ _ hi bl.size (λg hg=>bl.block g (hlt g hg))) (hm.keep (bl.block _ hml)) (hv.keep (S':=S) (λ_ h=>h) (λg hg=>bl.block g (hS g hg))) (λg hg=>by have:=hS g hg;omega) hnm);obtain⟨O,hO⟩:∃O,chg bind (lfP place) env t s=O:=⟨_,rfl⟩;rw[hO]at HCALL ⊢
 have K1:=hidE k1;have KS:=hidE ks;have KB:=hidE bl;have HLT:=hidE hlt;have HML:=hidE hml;clear hi hm hv hS hnm k1 ks bl hlt hml hO;have d12:((k:Int)==1)=true\/(((k:Int)==1)=false/\((k:Int)==2)=true):=by
  rcases hk12 with h|h
  ·left;rw[hk,h];rfl
  ·right;rw[hk,h];exact⟨rfl,rfl⟩
 clear hk hk12;rcases d12 with d1|⟨d1,d2⟩;all_goals
  go_enter_defers Tryz.func90,Tryz.ntmps90
  go_wp2_with fail
  refine HCALL.out.mono ?_;rintro e w1 ⟨k',x',z',a',m',p',rfl,hr,hi1,hm1,c1⟩;have hn1:¬(M (w.heap.size+1)\/w.heap.size+1=mb):=λh=>by
   rcases h with h|h
   ·have:=HLT.out _ (hMK _ h);omega
   ·have:=HML.out;omega
  have hb1:=Blk.chg K1.out c1 hn1;obtain⟨q0,q1,q2,q3,t0,t1,t2,t3,hlx⟩:=zaa hb1;have HR:=hidE hr;have HI1:=hidE hi1;have HM1:=hidE hm1;have C1:=hidE c1;have HB1:=hidE hb1;have hs1:=c1.size;clear hr hi1 hm1 c1 hb1 HCALL;go_wp2_with fail
  have hb:=zad (.int .i64 k') (.string x') (.int .i64 z') (.slice a' m' p') HB1.out;have hf:∀g,g≠w.heap.size+1->((((w1.setCell ⟨w.heap.size+1,0,none⟩ (.int .i64 k')).setCell ⟨w.heap.size+1,1,none⟩ (.string x')).setCell ⟨w.heap.size+1,2,none⟩ (.int .i64 z')).setCell ⟨w.heap.size+1,3,none⟩ (.slice a' m' p')).heap[g]?=w1.heap[g]?:=λg hg=>zaj _ _ _ _ _ _ _ hg;have hsz:((((w1.setCell ⟨w.heap.size+1,0,none⟩ (.int .i64 k')).setCell ⟨w.heap.size+1,1,none⟩ (.string x')).setCell ⟨w.heap.size+1,2,none⟩ (.int .i64 z')).setCell ⟨w.heap.size+1,3,none⟩ (.slice a' m' p')).heap.size=w1.heap.size:=by simp
  have hks:=KS.out;refine⟨_,results_cell_row rfl _ _ (w.heap.size+1) 26 _ (0,0) _ rfl hb Tryz.underlying26 rfl (by kernel_rfl),k',x',z',a',m',p',rfl,?_,?_,?_,?_⟩
  ·refine HR.out.keep (λq hq=>?_) (λq hq=>hf q ?_)
   ·rcases hq with hq|⟨h1,h2⟩
    ·exact .inl hq
    ·exact .inr ⟨by omega,by rw[hsz];exact h2⟩
   ·rcases hq with hq|⟨h1,h2⟩
    ·have:=HLT.out q (hSu q hq);omega
    ·omega
  ·exact hI.mono _ _ _ _ (hI.keep _ _ _ _ HI1.out (Nat.le_of_eq hsz.symm) (λg hg=>hf g (by have:=HLT.out g hg;omega))) (by omega)
  ·exact HM1.out.keep (hf mb (by have:=HML.out;omega))
  ·exact((Chg.of_below KB.out).trans' C1.out (λg _ h=>h)).set4 _ _ _ _ (by omega)
end Go.Proofs.YtaomnlcplmkokaaGreatDoor
namespace Go.Proofs.YtaomnlcplmkokaaGreatDoor
open Go.RowKit Lx Tx Go.Maps Go.WideMaps Go.Shelf
set_option maxRecDepth 100000
theorem zit {σ:Type}(n pb mb:Nat)(I:Nat->σ->World->Prop)(K M Su:Nat->Prop)(bind:Name->σ->Name × σ)(leaf:Ty->Ty)(hI:InvC I K)(hMK:∀g,M g->K g)(hSu:∀g,Su g->K g/\¬M g)(hmb:¬K mb)
  (G:Ty->Prop)(hGk:∀t,G t->∀u∈kids t,G u)(HC:zmp n pb mb I M Su bind leaf G)
  (c:Nat)(s:σ)(env:List (Name × Name))(t:Ty)(hGt:G t)(S:Nat->Prop)(v:Value)(w:World)(hk34:kd t=3\/kd t=4)(hn:t.size<=n+1)(h6:n<1000000)
  (hi:I c s w)(hm:MapE mkTy w mb env)(hv:RdV S w t v)(hS:∀g,S g->g<w.heap.size/\¬M g/\g≠mb)(hnm:Nm t)(hc:c+t.fas<=10000000)(hlen:env.length+t.size<=100000000):Calls Tryz.prog 90 #[.pointer (some ⟨pb,0,none⟩),v] w (CPst mb I M Su env (c+t.fas) (chg bind leaf env t s) w):=by
 obtain⟨k,X,Z,A,m,cp,rfl,hk,hX,hZ,hkm,ha⟩:=hv.parts;have hsk:zab (kids t)+1=t.size:=by rw[zak t]
 have hfk:t.fas=fasL (kids t):=by rw[zft t,if_neg (by omega),Nat.add_zero]
 have hm6:m<=n:=by have:=zaW t;omega
 have d1:((k:Int)==1)=false:=by rw[hk];exact kF _ 1 (by omega)
 have d2:((k:Int)==2)=false:=by rw[hk];exact kF _ 2 (by omega)
 have d5:((k:Int)==5)=false:=by rw[hk];exact kF _ 5 (by omega)
 obtain⟨vs,hvl,hvr,hv0,hv1,hvc⟩:=zdR ha hkm;obtain⟨-,-,ls,lb⟩:=za8 w (.cells #[.int .i64 k,.string X,.int .i64 Z,.slice A m cp] 26) (.cells #[.int .i64 0,.string ⟨#[]⟩,.int .i64 0,.slice none 0 0] 26);obtain⟨l0,l1,-,-⟩:=za8 w (.cells #[.int .i64 k,.string X,.int .i64 Z,.slice A m cp] 26) (.cells #[.int .i64 0,.string ⟨#[]⟩,.int .i64 0,.slice none 0 0] 26);have hcl:=zfs A m cp vs ((w.alloc (.cells #[.int .i64 k,.string X,.int .i64 Z,.slice A m cp] 26)).alloc (.cells #[.int .i64 0,.string ⟨#[]⟩,.int .i64 0,.slice none 0 0] 26)) hv0 hvl
  (λad had w' hw j u hu=>hvc ad had w' (λq hq=>(hw.block q (by have:=hS q hq;omega)).trans (lb.block q (hS q hq).1)) j u hu) hv1 (by omega)
 rw[ls]at hcl
 obtain⟨hr1,hr2,hr3,hr4,hr5⟩:=zl9 bind leaf env t s hk34;have HR1:=hidE hr1;have HR2:=hidE hr2;have HR3:=hidE hr3;have HR4:=hidE hr4;have HR5:=hidE hr5;have HK:=hidE hk;have HX:=hidE hX;have HZ:=hidE hZ;have HKM:=hidE hkm;have HS:=hidE hS;have HI:=hidE hi;have HM:=hidE hm;have HLT:=hidE (hI.lt c s w hi);have HNK:Hid (∀i (hi:i<(kids t).length),Nm (kids t)[i]):=hidE λi hi=>zbu hnm i hi;have HCL:=hidE hcl;have HVR:=hidE hvr;have L0:=hidE l0;have L1:=hidE l1;have LB:=hidE lb;have LSZ:=hidE ls;have hml:=hm.lt;clear hr1 hr2 hr3 hr4 hr5 hk hX hZ hkm hS hi hm hnm hcl hvl hvr hv0 hv1 hvc l0 l1 ls lb hv ha hk34;go_enter_defers Tryz.func90,Tryz.ntmps90
 go_wp2_with fail
 refine HCL.out.mono ?_;rintro e w3 ⟨A3,c3,rfl,hown,hbl⟩;have hs3:w.heap.size+2<=w3.heap.size:=Nat.le_trans (Nat.le_of_eq LSZ.out.symm) hbl.size;have hb0:=Blk.below L0.out hbl (by omega);have hb1:=Blk.below L1.out hbl (by omega);have hbel:=LB.out.trans (hbl.mono (by omega));obtain⟨g3,hg3,hrow⟩:=zez (R:=λk=>Su k\/(w3.heap.size<=k/\k<w3.heap.size)) hown (HVR.out.keep (λ_ h=>h) (λq hq=>hbel.block q (HS.out q hq).1));obtain⟨p0,p1,p2,p3,s0,s1,s2,s3,hlx⟩:=zaa hb0;have HB0:=hidE hb0;have HB1:=hidE hb1;have BEL:=hidE hbel;have HROW:=hidE hrow;clear hown hb0 hb1 hbel hrow hbl HCL HVR;go_wp2_with fail
 have hw4:Blk (w3.setCell ⟨w.heap.size,3,none⟩ (.slice A3 m c3)) w.heap.size 26 #[.int .i64 k,.string X,.int .i64 Z,.slice A3 m c3]:=heap_setCell_same _ w.heap.size 3 _ _ (.slice A3 m c3) HB0.out;have hr4:Blk (w3.setCell ⟨w.heap.size,3,none⟩ (.slice A3 m c3)) (w.heap.size+1) 26 #[.int .i64 0,.string ⟨#[]⟩,.int .i64 0,.slice none 0 0]:=HB1.out.far (p:=⟨w.heap.size,3,none⟩) (Nat.succ_ne_self _) _;have hs4:(w3.setCell ⟨w.heap.size,3,none⟩ (.slice A3 m c3)).heap.size=w3.heap.size:=by simp
 have hk4:∀q,q<w.heap.size->(w3.setCell ⟨w.heap.size,3,none⟩ (.slice A3 m c3)).heap[q]?=w.heap[q]?:=λq hq=>(Below.heap_setCell w3 ⟨w.heap.size,3,none⟩ _ q (by show q≠w.heap.size;omega)).trans (BEL.out.block q hq);have hch4:Chg (λk=>M k\/k=mb) w (w3.setCell ⟨w.heap.size,3,none⟩ (.slice A3 m c3)):=(Chg.of_below BEL.out).setCell (p:=⟨w.heap.size,3,none⟩) (.inl (Nat.le_refl _)) _;have hi4:=hI.keep c s w _ HI.out (by rw[hs4];exact BEL.out.size) (λq hq=>hk4 q (HLT.out q hq));have hm4:=HM.out.keep (hk4 mb hml);have HW4:=hidE hw4;have HR4':=hidE hr4;have HK4:=hidE hk4;have HCH4:=hidE hch4;have HI4:=hidE hi4;have HM4:=hidE hm4;have HS4:=hidE hs4;have hbs:=BEL.out.size;have hst4:Hid (0<m->A3=some ⟨g3,0,none⟩/\RowSt (λk=>Su k\/(w3.heap.size<=k/\k<(w3.setCell ⟨w.heap.size,3,none⟩ (.slice A3 m c3)).heap.size)) S (w3.setCell ⟨w.heap.size,3,none⟩ (.slice A3 m c3)) (kids t) [] g3 0):=hidE λh0=>by
  obtain⟨x1,x2⟩:=HROW.out h0;refine⟨x1,x2.keep (λq hq=>by rw[hs4];exact hq) (λq hq=>Below.heap_setCell w3 ⟨w.heap.size,3,none⟩ _ q ?_) (by rw[hs4];exact Nat.le_refl _)⟩;show q≠w.heap.size;rcases hq with(hq|hq)|hq|hq
  ·have:=HLT.out q (hSu q hq).1;omega
  ·omega
  ·have:=(HS.out q hq).1;omega
  ·omega
 clear hw4 hr4 hk4 hch4 hi4 hm4 hs4 p0 p1 p2 p3 s0 s1 s2 s3;go_loopg [55] m (λgg vi wr=>HeadChg mb I M Su S bind leaf env (kids t) c s w3.heap.size g3 m (w3.setCell ⟨w.heap.size,3,none⟩ (.slice A3 m c3)) gg vi wr)
 case atStart =>
  exact⟨0,by omega,rfl,Nat.zero_le _,by rw[List.take_zero,fasL,chgL];exact HI4.out,HM4.out,λh0=>by rw[List.take_zero,chgL];exact(hst4.out h0).2,Chg.refl _ _⟩
 case round =>
  obtain⟨i,rfl,rfl,hi,i1,mp1,hrw,c1⟩:=hrel;have I1:=hidE i1;have MP1:=hidE mp1;have HRW:=hidE hrw;have C1:=hidE c1;have hsr:=c1.size;rw[HS4.out]at hsr
  have hnr:∀q,w.heap.size<=q->q<w.heap.size+2->wr.heap[q]? =(w3.setCell ⟨w.heap.size,3,none⟩ (.slice A3 m c3)).heap[q]?:=λq h1 h2=>c1.block q (by rw[HS4.out];omega) (λh=>by
   rcases h with h|h|h
   ·have:=HLT.out q (hMK q h);omega
   ·omega
   ·omega)
  have BN:=hidE (HW4.out.same (hnr _ (Nat.le_refl _) (by omega)));have BR:=hidE (HR4'.out.same (hnr _ (by omega) (by omega)));clear i1 mp1 hrw c1 hnr;by_cases hlt:i<m
  ·obtain⟨rfl,hst0⟩:=hst4.out (by omega)
   have hg3l:=hst0.lt;rw[HS4.out]at hg3l
   clear hst0;have hst:=HRW.out (by omega);have hil:i<(kids t).length:=by rw[HKM.out];exact hlt
   obtain⟨A1,q1,h4,harg⟩:=hst.old i hil (Nat.le_refl _);have hnu:=HNK.out i hil;have hgu:=hGk t hGt _ (List.getElem_mem hil);have htk:(kids t).take (i+1)=(kids t).take i++[(kids t)[i]]:=List.take_succ_eq_append_getElem hil;have hsn:=zbC (kids t) i (kids t)[i] ⟨hil,rfl⟩;have hsle:=za1 (kids t) (i+1);have hfn:=zey (kids t) i (kids t)[i] ⟨hil,rfl⟩;have hfle:=zcY (kids t) (i+1);obtain⟨u,hu⟩:∃u,(kids t)[i]=u:=⟨_,rfl⟩;rw[hu]at h4 harg hnu htk hsn hfn hgu
   have hszu:u.size<=n:=by omega
   have hrd:RdV S wr u (.agg #[.int .i64 (kd u:Nat),.string (nmB u),.int .i64 (nn u:Nat),.slice A1 (kids u).length q1]):=⟨A1,q1,rfl,harg⟩;obtain⟨e0,e1,e2,e3⟩:=h4;obtain⟨K1,hK1⟩:∃K1:Int,((kd u:Nat):Int)=K1:=⟨_,rfl⟩;obtain⟨X1,hX1⟩:∃X1,nmB u=X1:=⟨_,rfl⟩;obtain⟨Z1,hZ1⟩:∃Z1:Int,((nn u:Nat):Int)=Z1:=⟨_,rfl⟩;obtain⟨n1,hn1⟩:∃n1,(kids u).length=n1:=⟨_,rfl⟩;rw[hK1]at e0 hrd
   rw[hX1]at e1 hrd
   rw[hZ1]at e2 hrd
   rw[hn1]at e3 hrd
   have HTK:=hidE htk;have HSN:=hidE hfn;have hcall:=HC (c+fasL ((kids t).take i)) (chgL bind leaf env ((kids t).take i) s).2 env u S _ ((wr.alloc (.cells #[.int .i64 K1,.string X1,.int .i64 Z1,.slice A1 n1 q1] 26)).drew) hgu hszu (by omega)
    (hI.keep _ _ _ _ I1.out (by show wr.heap.size<=(wr.alloc _).heap.size;simp) (λg hg=>Below.heap_alloc wr _ g (hI.lt _ _ _ I1.out g hg))) (MP1.out.keep (Below.heap_alloc wr _ mb MP1.out.lt)) (hrd.keep (λ_ h=>h) (λg hg=>Below.heap_alloc wr _ g (by have:=(HS.out g hg).1;omega)))
    (λg hg=>⟨by show g<(wr.alloc _).heap.size;have:=(HS.out g hg).1;simp;omega,(HS.out g hg).2⟩) hnu (by omega) (by omega)
   have HCALL:=hidE hcall;have NB0:Hid (Blk ((wr.alloc (.cells #[.int .i64 K1,.string X1,.int .i64 Z1,.slice A1 n1 q1] 26)).drew) w.heap.size 26 #[.int .i64 k,.string X,.int .i64 Z,.slice (some ⟨g3,0,none⟩) m c3]):=hidE (Blk.alloc BN.out _);have PB0:Hid (Blk ((wr.alloc (.cells #[.int .i64 K1,.string X1,.int .i64 Z1,.slice A1 n1 q1] 26)).drew) wr.heap.size 26 #[.int .i64 K1,.string X1,.int .i64 Z1,.slice A1 n1 q1]):=hidE (heap_alloc_new wr _);have SOF:Hid (∀W:World,Blk W w.heap.size 26 #[.int .i64 k,.string X,.int .i64 Z,.slice (some ⟨g3,0,none⟩) m c3]->Blk W wr.heap.size 26 #[.int .i64 K1,.string X1,.int .i64 Z1,.slice A1 n1 q1] ->
    W.cell? ⟨w.heap.size,3,none⟩=some (.slice (some ⟨g3,0,none⟩) m c3)/\W.cell? ⟨wr.heap.size,0,none⟩=some (.int .i64 K1)/\W.cell? ⟨wr.heap.size,1,none⟩=some (.string X1)/\W.cell? ⟨wr.heap.size,2,none⟩=some (.int .i64 Z1)/\W.cell? ⟨wr.heap.size,3,none⟩=some (.slice A1 n1 q1)) :=
    hidE λW h1 h2=>⟨h1.cell 3,h2.cell 0,h2.cell 1,h2.cell 2,h2.cell 3⟩
   have HST:=hidE hst;have hgl:=hst.lt;have hneN:w.heap.size≠g3:=by omega
   have hneP:wr.heap.size≠g3:=by omega
   clear hst hrd hnu hcall hu hK1 hX1 hZ1 hn1 htk hsn hfn harg;go_wp2_with fail
   go_region_held3 (λW=>W.cell? ⟨w.heap.size,3,none⟩=some (.slice (some ⟨g3,0,none⟩) m c3)/\W.cell? ⟨wr.heap.size,0,none⟩=some (.int .i64 K1)/\W.cell? ⟨wr.heap.size,1,none⟩=some (.string X1)/\W.cell? ⟨wr.heap.size,2,none⟩=some (.int .i64 Z1)/\W.cell? ⟨wr.heap.size,3,none⟩=some (.slice A1 n1 q1)) (first|(with_reducible exact SOF.out _ NB0.out PB0.out)|(with_reducible exact SOF.out _ NB1.out PB1.out)|(with_reducible exact SOF.out _ (zch NB1.out hneN) (zch PB1.out hneP)))
    (((with_reducible refine HCALL.out.mono ?_);rintro e w5 ⟨k',x',z',a',m',p',rfl,hr5,hi5,hm5,c5⟩;have hn5:∀q,w.heap.size<=q->q<=wr.heap.size->w5.heap[q]? =(wr.alloc (.cells #[.int .i64 K1,.string X1,.int .i64 Z1,.slice A1 n1 q1] 26)).heap[q]?:=(λq h1 h2=>c5.block q (by show q<(wr.alloc _).heap.size;rw[size_alloc];omega) (λh=>by rcases h with h|h;(have:=HLT.out q (hMK q h);omega);omega));have NB1:=hidE (NB0.out.same (hn5 _ (Nat.le_refl _) (by omega)));have PB1:=hidE (PB0.out.same (hn5 _ (by omega) (Nat.le_refl _)));have hs5:wr.heap.size+1<=w5.heap.size:=(by have:=c5.size;rw[show((wr.alloc (.cells #[.int .i64 K1,.string X1,.int .i64 Z1,.slice A1 n1 q1] 26)).drew).heap.size=wr.heap.size+1 from size_alloc _ _]at this;exact this);have st5:=HST.out.keep (R':=λk=>Su k\/(w3.heap.size<=k/\k<w5.heap.size)) (w':=w5) (λq hq=>(by rcases hq with hq|hq;exact .inl hq;exact .inr ⟨hq.1,by omega⟩)) (λq hq=>(c5.block q (by show q<(wr.alloc _).heap.size;rw[size_alloc];rcases hq with(hq|hq)|hq|hq;(have:=HLT.out q (hSu q hq).1;omega);omega;(have:=(HS.out q hq).1;omega);omega) (by rcases hq with(hq|hq)|hq|hq;(exact λh=>by rcases h with h|h;exact(hSu q hq).2 h;exact hmb (by rw[<-h];exact(hSu q hq).1));(exact λh=>by rcases h with h|h;(have:=HLT.out q (hMK q h);omega);omega);(exact λh=>by rcases h with h|h;exact(HS.out q hq).2.1 h;exact(HS.out q hq).2.2 h);(exact λh=>by rcases h with h|h;(have:=HLT.out q (hMK q h);omega);omega))).trans (Below.heap_alloc wr _ q (by rcases hq with(hq|hq)|hq|hq;(have:=HLT.out q (hSu q hq).1;omega);omega;(have:=(HS.out q hq).1;omega);omega))) (by omega);obtain⟨A5,q5,⟨y0,y1,y2,y3⟩,-⟩:=st5.old i hil (Nat.le_refl _);have f0:=st5.free (i*4);have f1:=st5.free (i*4+1);have f2:=st5.free (i*4+2);have f3:=st5.free (i*4+3);have ST5:=hidE st5;have HR5:=hidE hr5;have HI5:=hidE hi5;have HM5:=hidE hm5;have C5:=hidE c5;clear st5 hr5 hi5 hm5 c5 hn5))
   all_goals
    go_wp2_with fail
    have hput:=RowSt.put ST5.out hil (by rw[zby,List.length_take];omega) (HR5.out.keep (S':=λk=>Su k\/(w3.heap.size<=k/\k<w5.heap.size)) (λq hq=>by rcases hq with hq|hq;exact .inl hq;exact .inr ⟨by have h1:=hq.1;have h2:((wr.alloc (.cells #[.int .i64 K1,.string X1,.int .i64 Z1,.slice A1 n1 q1] 26)).drew).heap.size=wr.heap.size+1:=size_alloc _ _;omega,hq.2⟩) (λq _=>rfl)) (λh=>by rcases h with h|h;(have:=HLT.out _ (hSu _ h).1;omega);omega) (λh=>by have:=(HS.out _ h).1;omega);have HPUT:=hidE hput;clear hput;go_roundg (m-(i+1))
    case measure=>omega
    case rel =>
     have hfin:HeadChg mb I M Su S bind leaf env (kids t) c s w3.heap.size g3 m (w3.setCell ⟨w.heap.size,3,none⟩ (.slice (some ⟨g3,0,none⟩) m c3)) (m-(i+1)) (.int .i64 ((i+1:Nat):Int)) (setO w5 g3 (i*4) (.int .i64 k') (.string x') (.int .i64 z') (.slice a' m' p')):=by
      refine⟨i+1,rfl,rfl,by omega,?_,?_,λ_=>?_,?_⟩
      ·rw[HTK.out,zb1,<-HTK.out,HSN.out]
       have:=hI.keep _ _ _ (setO w5 g3 (i*4) (.int .i64 k') (.string x') (.int .i64 z') (.slice a' m' p')) HI5.out (by rw[zbQ];exact Nat.le_refl _) (λq hq=>zbk _ _ _ _ _ _ _ _ (by have:=HLT.out q hq;omega));rw[Nat.add_assoc]at this
       exact this
      ·exact HM5.out.keep (zbk _ _ _ _ _ _ _ _ (by omega))
      ·rw[HTK.out,zb1]
       exact HPUT.out.keep (λq hq=>by rw[zbQ];exact hq) (λ_ _=>rfl) (Nat.le_refl _)
      ·have h1:Chg (λk=>M k\/k=mb\/k=g3) (w3.setCell ⟨w.heap.size,3,none⟩ (.slice (some ⟨g3,0,none⟩) m c3)) w5:=((C1.out.alloc _).drew).trans' C5.out (λq _ h=>by
        rcases h with h|h
        ·exact .inl h
        ·exact .inr (.inl h))
       exact h1.setO _ _ _ _ _ (.inr (.inr (.inr rfl)))
     refine cast (congrArg (λv=>HeadChg mb I M Su S bind leaf env (kids t) c s w3.heap.size g3 m _ (m-(i+1)) v _) ?_) hfin;go_num
  ·have him:i=m:=by omega
   subst him;have hend:(kids t).take i=kids t:=List.take_of_length_le (by rw[HKM.out];exact Nat.le_refl _);have hi1:=I1.out;have hrw1:=HRW.out;rw[hend,<-HR5.out]at hi1
   rw[hend,<-HR4.out]at hrw1
   have HI1:=hidE hi1;have HRW1:=hidE hrw1;obtain⟨p0,p1,p2,p3,s0,s1,s2,s3,-⟩:=zaa BN.out;obtain⟨q0,q1,q2,q3,t0,t1,t2,t3,-⟩:=zaa BR.out;clear hi1 hrw1 hend;go_wp2_with fail
   have hb:=zad (.int .i64 k) (.string X) (.int .i64 Z) (.slice A3 i c3) BR.out;have hf:∀g,g≠w.heap.size+1->((((wr.setCell ⟨w.heap.size+1,0,none⟩ (.int .i64 k)).setCell ⟨w.heap.size+1,1,none⟩ (.string X)).setCell ⟨w.heap.size+1,2,none⟩ (.int .i64 Z)).setCell ⟨w.heap.size+1,3,none⟩ (.slice A3 i c3)).heap[g]?=wr.heap[g]?:=λg hg=>zaj _ _ _ _ _ _ _ hg;have hsz:((((wr.setCell ⟨w.heap.size+1,0,none⟩ (.int .i64 k)).setCell ⟨w.heap.size+1,1,none⟩ (.string X)).setCell ⟨w.heap.size+1,2,none⟩ (.int .i64 Z)).setCell ⟨w.heap.size+1,3,none⟩ (.slice A3 i c3)).heap.size=wr.heap.size:=by simp
   refine⟨_,results_cell_row rfl _ _ (w.heap.size+1) 26 _ (0,0) _ rfl hb Tryz.underlying26 rfl (by kernel_rfl),k,X,Z,A3,i,c3,rfl,⟨A3,c3,?_,?_⟩,?_,?_,?_⟩
   ·rw[HR1.out,HR2.out,HR3.out,HR4.out,zby,HKM.out,<-HK.out,<-HX.out,<-HZ.out]
   ·refine(zcj _ _ _ _).2 λhne=>?_
    have h0:0<i:=by
     refine Nat.pos_of_ne_zero λe=>hne ?_;rw[HR4.out]
     refine List.eq_nil_of_length_eq_zero ?_;rw[zby,HKM.out,e]
    obtain⟨hA,h4⟩:=hst4.out h0;have hl4:=h4.lt;rw[HS4.out]at hl4
    have hrow:=HRW1.out h0;refine⟨g3,hA,.inr ⟨by omega,by rw[hsz];omega⟩,RowT.keep (λq hq=>by rw[hsz];rcases hq with hq|hq;exact .inl hq;exact .inr ⟨by omega,hq.2⟩) (λq hq=>hf q (by rcases hq with hq|hq;(have:=HLT.out q (hSu q hq).1;omega);omega)) _ _ _ (hf g3 (by omega)) hrow.new⟩
   ·refine hI.mono _ _ _ _ (hI.keep _ _ _ _ HI1.out (Nat.le_of_eq hsz.symm) (λq hq=>hf q (by have:=HLT.out q hq;omega))) (by omega)
   ·exact MP1.out.keep (hf mb (by omega))
   ·refine Chg.set4 (HCH4.out.trans' C1.out (λq hq h=>?_)) _ _ _ _ (Nat.le_succ _)
    rcases h with h|h|h
    ·exact .inl h
    ·exact .inr h
    ·omega
end Go.Proofs.YtaomnlcplmkokaaGreatDoor
namespace Go.Proofs.YtaomnlcplmkokaaGreatDoor
open Go.RowKit Lx Tx Go.Maps Go.WideMaps Go.Shelf
set_option maxRecDepth 100000
def zmq {σ:Type}(vc vn:Value)(I:Nat->σ->World->Prop)(M:Nat->Prop)(bind:Name->σ->Name × σ)(inC:Name->Bool):Prop :=
 (∀(c:Nat)(s:σ)(X:ByteArray)(w:World),I c s w->X.size<=24->(Instr.lookup 77 vc (.string X) true).run Tryz.prog w=.ok (.tuple #[.agg #[],.bool (inC X.data.toList)]) w) /\
 (∀x s,inC x=false->bind x s=(x,s)) /\
 ∃kn cn,vn=fnV kn cn/\(∀args w,(callFunc kn args).run Tryz.prog w=.ok (.enter kn args) w)/\∀(c:Nat) (s:σ) (X:ByteArray) (w:World),I c s w->X.size<=24->c<10000000->inC X.data.toList=true ->
  Calls Tryz.prog kn cn w λe w'=>e=.returned (.string ⟨(bind X.data.toList s).1.toArray⟩)/\I (c+1) (bind X.data.toList s).2 w'/\Chg M w w'
theorem znS {σ:Type}(n pb mb kl:Nat)(cl:Array Value)(vc vn:Value)(inC:Name->Bool)(I:Nat->σ->World->Prop)(K M Su:Nat->Prop)(bind:Name->σ->Name × σ)(leaf:Ty->Ty)(hI:InvC I K)(hMK:∀g,M g->K g)(hSu:∀g,Su g->K g/\¬M g)(hmb:¬K mb)
  (hpk:K pb)(hpt:∀c s w,I c s w->Pt w pb mb kl cl vc vn)(HB:zmq vc vn I M bind inC)(G:Ty->Prop)(hGk:∀t,G t->∀u∈kids t,G u)(HC:zmp n pb mb I M Su bind leaf G)
  (c:Nat)(s:σ)(env:List (Name × Name))(t:Ty)(hGt:G t)(S:Nat->Prop)(v:Value)(w:World)(hk5:kd t=5)(hn:t.size<=n+1)(h6:n<1000000)
  (hi:I c s w)(hm:MapE mkTy w mb env)(hv:RdV S w t v)(hS:∀g,S g->g<w.heap.size/\¬M g/\g≠mb)(hnm:Nm t)(hc:c+t.fas<=10000000)(hlen:env.length+t.size<=100000000):Calls Tryz.prog 90 #[.pointer (some ⟨pb,0,none⟩),v] w (CPst mb I M Su env (c+t.fas) (chg bind leaf env t s) w):=by
 obtain⟨k,X,Z,A,m,cp,rfl,hk,hX,hZ,hkm,ha⟩:=hv.parts;have hsk:zab (kids t)+1=t.size:=by rw[zak t]
 have hfk:t.fas=fasL (kids t)+1:=by rw[zft t,if_pos (by omega)]
 have hm6:m<=n:=by have:=zaW t;omega
 have d1:((k:Int)==1)=false:=by rw[hk];exact kF _ 1 (by omega)
 have d2:((k:Int)==2)=false:=by rw[hk];exact kF _ 2 (by omega)
 have d5:((k:Int)==5)=true:=by rw[hk,hk5];rfl
 obtain⟨vs,hvl,hvr,hv0,hv1,hvc⟩:=zdR ha hkm;have hX24:X.size<=24:=by have:=zbf hnm;rw[<-hX]at this;exact this
 obtain⟨l0,l1,ls,lb⟩:=za8 w (.cells #[.int .i64 k,.string X,.int .i64 Z,.slice A m cp] 26) (.cells #[.int .i64 0,.string ⟨#[]⟩,.int .i64 0,.slice none 0 0] 26);have hlt0:=hI.lt c s w hi;obtain⟨V0,hV0⟩:∃W,(w.alloc (.cells #[.int .i64 k,.string X,.int .i64 Z,.slice A m cp] 26)).alloc (.cells #[.int .i64 0,.string ⟨#[]⟩,.int .i64 0,.slice none 0 0] 26)=W:=⟨_,rfl⟩;rw[hV0]at l0 l1 ls lb
 have hiW:=hI.keep c s w _ hi lb.size (λg hg=>lb.block g (hlt0 g hg));obtain⟨hB1,hB2,kn,cn,rfl,en,hB3⟩:=HB;have hlkq:=hB1 c s X _ hiW hX24;obtain⟨qc,hqc⟩:∃q,inC X.data.toList=q:=⟨_,rfl⟩;rw[hqc]at hlkq
 have hptW:=hpt c s _ hiW;have hltW:=hI.lt c s _ hiW;have hiV:=hI.keep c s _ (V0.alloc (.cells #[] 116)) hiW (by simp) (λg hg=>Below.heap_alloc _ _ _ (hltW g hg));have hptV:=hpt c s _ hiV;have hbind:=λhq:qc=true=>hB3 c s X _ hiV hX24 (by omega) (hqc.trans hq);have hbno:qc=false->(bind X.data.toList s).1=X.data.toList/\(bind X.data.toList s).2=s:=λhq=>by rw[hB2 _ s (hqc.trans hq)];exact⟨rfl,rfl⟩
 have cp1:=Blk.cell hptW 1;have cp2:=Blk.cell hptW 2;have cp3:=Blk.cell hptV 3;have cp4:=Blk.cell hptW 3;have hpl:=hptW.lt;unfold fnV at cp3 cp4;obtain⟨f0,f1,f2,f3,-,-,-,-,-⟩:=zaa l0;obtain⟨hr1,hr2,hr3,hr4,hr5⟩:=zma bind leaf env t s hk5;rw[<-hX]at hr2 hr4 hr5
 obtain⟨y,hy⟩:∃y,(bind X.data.toList s).1=y:=⟨_,rfl⟩;obtain⟨s1,hs1⟩:∃s1,(bind X.data.toList s).2=s1:=⟨_,rfl⟩;rw[hy]at hr2
 rw[hy,hs1]at hr4 hr5 hbind hbno
 obtain⟨Y,hY⟩:∃Y:ByteArray,(⟨y.toArray⟩:ByteArray)=Y:=⟨_,rfl⟩;have hYl:Y.data.toList=y:=by rw[<-hY]
 have hYX:qc=false->Y=X/\s1=s:=λhq=>⟨by rw[<-hY,(hbno hq).1],(hbno hq).2⟩;rw[hY]at hr2 hbind
 obtain⟨ev,hev⟩:∃ev,((X.data.toList,y)::env)=ev:=⟨_,rfl⟩;rw[hev]at hr4 hr5
 have hevl:ev.length=env.length+1:=by rw[<-hev];rfl
 have HEV:=hidE hev;have HR1:=hidE hr1;have HR2:=hidE hr2;have HR3:=hidE hr3;have HR4:=hidE hr4;have HR5:=hidE hr5;have HK:=hidE hk;have HX:=hidE hX;have HZ:=hidE hZ;have HKM:=hidE hkm;have HS:=hidE hS;have HM:=hidE hm;have HLT:=hidE (hI.lt c s w hi);have HNK:Hid (∀i (hi:i<(kids t).length),Nm (kids t)[i]):=hidE λi hi=>zbu hnm i hi;have HVR:=hidE hvr;have HVC:=hidE hvc;have HV0:=hidE hv0;have HV1:=hidE hv1;have HVL:=hidE hvl;have L0:=hidE l0;have L1:=hidE l1;have LB:=hidE lb;have LSZ:=hidE ls;have HYL:=hidE hYl;have HBIND:=hidE hbind;have HYX:=hidE hYX;have HIV:=hidE hiV;have HPT:=hidE hptW;have hml:=hm.lt;have HXm:Hid (X.size<=maxLen):=hidE (by unfold maxLen;omega);have HEL:Hid (env.length<1000000000):=hidE (by omega);clear hev hr1 hr2 hr3 hr4 hr5 hk hX hZ hkm hS hi hm hnm hvl hvr hv0 hv1 hvc l0 l1 ls lb hv ha hk5 hlt0 hbind hbno hy hs1 hY hYl hX24 hYX hiW hiV hptW hptV hltW hB1 hB2 hB3 hqc;go_enter_defers Tryz.func90,Tryz.ntmps90
 go_upto_if 31 with fail
 go_cut [5] from 32 (λs5 wx=>s5=.string Y/\Hid (I (c+1) s1 wx/\Chg M V0 wx))
 case first =>
  cases qc with
  |true =>
   have HN:=hidE (HBIND.out rfl);clear hV0;go_wp2_with fail
   refine HN.out.mono ?_;rintro e w2 ⟨rfl,ib,cbb⟩;have IB:=hidE ib;have CB:=hidE cbb;clear ib cbb;go_wp2_with fail
   go_meet
   case rel=>exact⟨rfl,hidE ⟨IB.out,CB.out.pre⟩⟩
  |false =>
   obtain⟨rfl,rfl⟩:=HYX.out rfl;clear hV0;go_wp2_with fail
   go_meet
   case rel=>exact⟨rfl,hidE ⟨hI.mono _ _ _ _ HIV.out (Nat.le_succ _),(Chg.refl _ _).alloc _⟩⟩
 case rest =>
  rename World=>wb;obtain⟨rfl,hib⟩:=hcut;obtain⟨ib,cbb⟩:=hib.out;have hsb:w.heap.size+2<=wb.heap.size:=Nat.le_trans (Nat.le_of_eq LSZ.out.symm) cbb.size;have hne2:∀q,w.heap.size<=q->¬M q:=λq hq h=>by have:=HLT.out q (hMK q h);omega
  have hb0:=Blk.chg L0.out cbb (hne2 _ (Nat.le_refl _));have hb1:=Blk.chg L1.out cbb (hne2 _ (Nat.le_succ _));have hbm:wb.heap[mb]?=w.heap[mb]?:=(cbb.block mb (by rw[LSZ.out];omega) (λh=>hmb (hMK _ h))).trans (LB.out.block mb hml);have hch:=(Chg.of_below (M:=M) LB.out).trans' cbb (λq _ h=>h);have hptb:=hpt _ _ _ ib;obtain⟨p0,p1,p2,p3,u0,u1,u2,u3,hlx⟩:=zaa hb0;have NBW:Hid (Blk wb w.heap.size 26 #[.int .i64 k,.string X,.int .i64 Z,.slice A m cp]):=hidE hb0;have MPB:Hid (MapE mkTy wb.drew mb env):=hidE (HM.out.keep hbm);have RB0:=hidE hb1;have IB:=hidE ib;have CHB:=hidE hch;have PTB:=hidE hptb;have cq1:=Blk.cell hptb 1;have HCV:Hid (Calls Tryz.prog 92 #[.map (some mb),.string X,.agg #[.int .i64 1,.string Y,.int .i64 0,.slice none 0 0]] wb.drew λe w'=>e=.returned (zhS wb.heap.size)/\CovT w' wb.heap.size mb X env/\MapE mkTy w' mb ((X.data.toList,Y.data.toList)::env)/\Chg (only mb) wb w'):=hidE (by
   refine(zje mb env X Y wb.drew MPB.out HXm.out HEL.out).mono ?_;rintro e w' ⟨h1,h2,h3,h4⟩;exact⟨h1,h2,h3,⟨h4.os,h4.tape,h4.output,h4.size,h4.block⟩⟩)
  have SOF:Hid (∀W:World,W.heap[w.heap.size]?=wb.heap[w.heap.size]?->W.heap[pb]?=wb.heap[pb]?->W.cell? ⟨w.heap.size,1,none⟩=some (.string X)/\W.cell? ⟨pb,1,none⟩=some (.map (some mb))):=hidE λW h1 h2=>⟨Blk.cell (h1.trans NBW.out) 1,Blk.cell (h2.trans PTB.out) 1⟩;have hpmb:pb≠mb:=λe=>hmb (by rw[<-e];exact hpk);clear hib hb0 hb1 hbm hch ib cbb HBIND hptb hV0 hlkq cp1 cp2 cp3 cp4 f0 f1 f2 f3;go_upto_region 10 with fail
  go_region_held3 (λW=>W.cell? ⟨w.heap.size,1,none⟩=some (.string X)/\W.cell? ⟨pb,1,none⟩=some (.map (some mb))) (first|(exact SOF.out _ rfl rfl)|(exact SOF.out _ HS1.out HS2.out))
   (((with_reducible refine HCV.out.mono ?_);rintro e w5 ⟨rfl,cov,mp5,c5⟩;unfold zhS;have NB2:=hidE (NBW.out.chg c5 (by unfold only;omega));have HS1:Hid (w5.heap[w.heap.size]?=wb.heap[w.heap.size]?):=hidE (c5.block _ (by omega) (by unfold only;omega));have HS2:Hid (w5.heap[pb]?=wb.heap[pb]?):=hidE (c5.block _ PTB.out.lt (by unfold only;exact hpmb));have COV:=hidE cov;have MP5:=hidE mp5;have C5:=hidE c5;clear cov mp5 c5))
  have B4:Hid (Below wb.heap.size wb wb):=hidE (Below.refl _ _);have hs4:=B4.out.size;have hs5:=C5.out.size;replace hs4:wb.heap.size<=wb.heap.size:=hs4;have hRB5:Blk w5 (w.heap.size+1) 26 #[.int .i64 0,.string ⟨#[]⟩,.int .i64 0,.slice none 0 0]:=Blk.chg (Blk.below (w:=wb) RB0.out B4.out (by show w.heap.size+1<wb.heap.size;omega)) C5.out (by unfold only;omega);have hb45:∀q,q<wb.heap.size->q≠mb->w5.heap[q]?=wb.heap[q]?:=λq h1 h2=>(C5.out.block q (by omega) h2).trans (B4.out.block q h1);have hI5:=hI.keep _ _ _ w5 IB.out (by omega) (λq hq=>hb45 q (by have:=HLT.out q hq;omega) (λe=>hmb (by rw[<-e];exact hq)));have hch5:Chg (λk=>M k\/k=mb) w w5:=((CHB.out.mono (λq _ h=>.inl h)).trans' (M1:=λ_=>False) (b:=wb) (c:=wb) ⟨B4.out.os,B4.out.tape,B4.out.output,B4.out.size,λq hq _=>B4.out.block q hq⟩ (λ_ _ h=>h.elim)).trans' C5.out (λq _ h=>.inr h);have hmp5:=MP5.out;rw[HYL.out,HEV.out]at hmp5
  obtain⟨p0,p1,p2,p3,u0,u1,u2,u3,-⟩:=zaa NB2.out;have NB6:=hidE (heap_setCell_same w5 w.heap.size 1 _ _ (.string Y) NB2.out);have hcl:=zfs A m cp vs (w5.setCell ⟨w.heap.size,1,none⟩ (.string Y)) HV0.out HVL.out
   (λad had w' hw j u hu=>HVC.out ad had w' (λq hq=>(hw.block q (by have:=(HS.out q hq).1;simp;omega)).trans ((Below.heap_setCell w5 ⟨w.heap.size,1,none⟩ _ q (by have:=(HS.out q hq).1;show q≠w.heap.size;omega)).trans (hch5.block q (HS.out q hq).1 (λh=>by rcases h with h|h;exact(HS.out q hq).2.1 h;exact(HS.out q hq).2.2 h)))) j u hu) HV1.out (by omega)
  have hs6:(w5.setCell ⟨w.heap.size,1,none⟩ (.string Y)).heap.size=w5.heap.size:=by simp
  rw[hs6]at hcl
  have HS6:=hidE hs6;have HCL:=hidE hcl;have RB5:=hidE hRB5;have I5:=hidE hI5;have CH5:=hidE hch5;have MPE:=hidE hmp5;clear hcl hRB5 hb45 hI5 hch5 hmp5 hs6;go_wp2_with fail
  refine HCL.out.mono ?_;rintro e w3 ⟨A3,c3,rfl,hown,hbl⟩;have hs3:w5.heap.size<=w3.heap.size:=Nat.le_trans (Nat.le_of_eq HS6.out.symm) hbl.size;have hb0:=Blk.below NB6.out hbl (by omega);have hb1:=Blk.below (RB5.out.far (p:=⟨w.heap.size,1,none⟩) (Nat.succ_ne_self _) (.string Y)) hbl (by omega);have hk3:∀q,q<w5.heap.size->q≠w.heap.size->w3.heap[q]?=w5.heap[q]?:=λq h1 h2=>(hbl.block q h1).trans (Below.heap_setCell w5 ⟨w.heap.size,1,none⟩ _ q h2);obtain⟨g3,hg3,hrow⟩:=zez (R:=λk=>Su k\/(w3.heap.size<=k/\k<w3.heap.size)) hown (HVR.out.keep (λ_ h=>h) (λq hq=>(hk3 q (by have:=(HS.out q hq).1;omega) (by have:=(HS.out q hq).1;omega)).trans (CH5.out.block q (HS.out q hq).1 (λh=>by rcases h with h|h;exact(HS.out q hq).2.1 h;exact(HS.out q hq).2.2 h))));obtain⟨p0,p1,p2,p3,s0,s1',s2,s3,hlx⟩:=zaa hb0;have HB0:=hidE hb0;have HB1:=hidE hb1;have HK3:=hidE hk3;have CH3:=hidE ((CH5.out.setCell (p:=⟨w.heap.size,1,none⟩) (.inl (Nat.le_refl _)) (.string Y)).trans' (M1:=λ_=>False) (Chg.mono (Chg.of_below (M:=λ_=>False) (hbl.mono (Nat.le_of_eq HS6.out))) (λ_ _ h=>h)) (λ_ _ h=>h.elim));have HROW:=hidE hrow;clear hown hb0 hb1 hk3 hrow hbl HCL HVR;go_wp2_with fail
  have hw4:Blk (w3.setCell ⟨w.heap.size,3,none⟩ (.slice A3 m c3)) w.heap.size 26 #[.int .i64 k,.string Y,.int .i64 Z,.slice A3 m c3]:=heap_setCell_same _ w.heap.size 3 _ _ (.slice A3 m c3) HB0.out;have hr4:Blk (w3.setCell ⟨w.heap.size,3,none⟩ (.slice A3 m c3)) (w.heap.size+1) 26 #[.int .i64 0,.string ⟨#[]⟩,.int .i64 0,.slice none 0 0]:=HB1.out.far (p:=⟨w.heap.size,3,none⟩) (Nat.succ_ne_self _) _;have hs4':(w3.setCell ⟨w.heap.size,3,none⟩ (.slice A3 m c3)).heap.size=w3.heap.size:=by simp
  have hk4:∀q,q<w5.heap.size->q≠w.heap.size->(w3.setCell ⟨w.heap.size,3,none⟩ (.slice A3 m c3)).heap[q]?=w5.heap[q]?:=λq hq hne=>(Below.heap_setCell w3 ⟨w.heap.size,3,none⟩ _ q hne).trans (HK3.out q hq hne);have hch4:Chg (λk=>M k\/k=mb) w (w3.setCell ⟨w.heap.size,3,none⟩ (.slice A3 m c3)):=CH3.out.setCell (p:=⟨w.heap.size,3,none⟩) (.inl (Nat.le_refl _)) _;have hi4:=hI.keep _ _ _ _ I5.out (by rw[hs4'];exact hs3) (λq hq=>hk4 q (by have:=HLT.out q hq;omega) (by have:=HLT.out q hq;omega));have hm4:=MPE.out.keep (hk4 mb (by omega) (by omega));have hcov4:=hidE (COV.out.keep (λq h1 h2=>hk4 q (by have:=COV.out.2.2.2.lt;omega) (by omega)));have hcl4:=COV.out.2.2.2.lt;have HW4:=hidE hw4;have HR4':=hidE hr4;have HK4:=hidE hk4;have HCH4:=hidE hch4;have HI4:=hidE hi4;have HM4:=hidE hm4;have HS4:=hidE hs4';have hbs:w.heap.size<=w3.heap.size:=by omega
  have hst4:Hid (0<m->A3=some ⟨g3,0,none⟩/\RowSt (λk=>Su k\/(w3.heap.size<=k/\k<(w3.setCell ⟨w.heap.size,3,none⟩ (.slice A3 m c3)).heap.size)) S (w3.setCell ⟨w.heap.size,3,none⟩ (.slice A3 m c3)) (kids t) [] g3 0):=hidE λh0=>by
   obtain⟨x1,x2⟩:=HROW.out h0;refine⟨x1,x2.keep (λq hq=>by rw[hs4'];exact hq) (λq hq=>Below.heap_setCell w3 ⟨w.heap.size,3,none⟩ _ q ?_) (by rw[hs4'];exact Nat.le_refl _)⟩;show q≠w.heap.size;rcases hq with(hq|hq)|hq|hq
   ·have:=HLT.out q (hSu q hq).1;omega
   ·omega
   ·have:=(HS.out q hq).1;omega
   ·omega
  clear hw4 hr4 hk4 hch4 hi4 hm4 hs4' p0 p1 p2 p3 s0 s1' s2 s3;go_loopg [55] m (λgg vi wr=>HeadChg mb I M Su S bind leaf ev (kids t) (c+1) s1 w3.heap.size g3 m (w3.setCell ⟨w.heap.size,3,none⟩ (.slice A3 m c3)) gg vi wr)
  case atStart =>
   exact⟨0,by omega,rfl,Nat.zero_le _,by rw[List.take_zero,fasL,chgL];exact HI4.out,HM4.out,λh0=>by rw[List.take_zero,chgL];exact(hst4.out h0).2,Chg.refl _ _⟩
  case round =>
   obtain⟨i,rfl,rfl,hi,i1,mp1,hrw,c1⟩:=hrel;have I1:=hidE i1;have MP1:=hidE mp1;have HRW:=hidE hrw;have C1:=hidE c1;have hsr:=c1.size;rw[HS4.out]at hsr
   have hnr:∀q,w.heap.size<=q->q<w.heap.size+2->wr.heap[q]? =(w3.setCell ⟨w.heap.size,3,none⟩ (.slice A3 m c3)).heap[q]?:=λq h1 h2=>c1.block q (by rw[HS4.out];omega) (λh=>by
    rcases h with h|h|h
    ·have:=HLT.out q (hMK q h);omega
    ·omega
    ·omega)
   have BN:=hidE (HW4.out.same (hnr _ (Nat.le_refl _) (by omega)));have BR:=hidE (HR4'.out.same (hnr _ (by omega) (by omega)));clear i1 mp1 hrw c1 hnr;by_cases hlt:i<m
   ·obtain⟨rfl,hst0⟩:=hst4.out (by omega)
    have hg3l:=hst0.lt;rw[HS4.out]at hg3l
    clear hst0;have hst:=HRW.out (by omega);have hil:i<(kids t).length:=by rw[HKM.out];exact hlt
    obtain⟨A1,q1,h4,harg⟩:=hst.old i hil (Nat.le_refl _);have hnu:=HNK.out i hil;have hgu:=hGk t hGt _ (List.getElem_mem hil);have htk:(kids t).take (i+1)=(kids t).take i++[(kids t)[i]]:=List.take_succ_eq_append_getElem hil;have hsn:=zbC (kids t) i (kids t)[i] ⟨hil,rfl⟩;have hsle:=za1 (kids t) (i+1);have hfn:=zey (kids t) i (kids t)[i] ⟨hil,rfl⟩;have hfle:=zcY (kids t) (i+1);obtain⟨u,hu⟩:∃u,(kids t)[i]=u:=⟨_,rfl⟩;rw[hu]at h4 harg hnu htk hsn hfn hgu
    have hszu:u.size<=n:=by omega
    have hrd:RdV S wr u (.agg #[.int .i64 (kd u:Nat),.string (nmB u),.int .i64 (nn u:Nat),.slice A1 (kids u).length q1]):=⟨A1,q1,rfl,harg⟩;obtain⟨e0,e1,e2,e3⟩:=h4;obtain⟨K1,hK1⟩:∃K1:Int,((kd u:Nat):Int)=K1:=⟨_,rfl⟩;obtain⟨X1,hX1⟩:∃X1,nmB u=X1:=⟨_,rfl⟩;obtain⟨Z1,hZ1⟩:∃Z1:Int,((nn u:Nat):Int)=Z1:=⟨_,rfl⟩;obtain⟨n1,hn1⟩:∃n1,(kids u).length=n1:=⟨_,rfl⟩;rw[hK1]at e0 hrd
    rw[hX1]at e1 hrd
    rw[hZ1]at e2 hrd
    rw[hn1]at e3 hrd
    have HTK:=hidE htk;have HSN:=hidE hfn;have hcall:=HC (c+1+fasL ((kids t).take i)) (chgL bind leaf ev ((kids t).take i) s1).2 ev u S _ ((wr.alloc (.cells #[.int .i64 K1,.string X1,.int .i64 Z1,.slice A1 n1 q1] 26)).drew) hgu hszu (by omega)
     (hI.keep _ _ _ _ I1.out (by show wr.heap.size<=(wr.alloc _).heap.size;simp) (λg hg=>Below.heap_alloc wr _ g (hI.lt _ _ _ I1.out g hg))) (MP1.out.keep (Below.heap_alloc wr _ mb MP1.out.lt)) (hrd.keep (λ_ h=>h) (λg hg=>Below.heap_alloc wr _ g (by have:=(HS.out g hg).1;omega)))
     (λg hg=>⟨by show g<(wr.alloc _).heap.size;have:=(HS.out g hg).1;simp;omega,(HS.out g hg).2⟩) hnu (by omega) (by omega)
    have HCALL:=hidE hcall;have NB0:Hid (Blk ((wr.alloc (.cells #[.int .i64 K1,.string X1,.int .i64 Z1,.slice A1 n1 q1] 26)).drew) w.heap.size 26 #[.int .i64 k,.string Y,.int .i64 Z,.slice (some ⟨g3,0,none⟩) m c3]):=hidE (Blk.alloc BN.out _);have PB0:Hid (Blk ((wr.alloc (.cells #[.int .i64 K1,.string X1,.int .i64 Z1,.slice A1 n1 q1] 26)).drew) wr.heap.size 26 #[.int .i64 K1,.string X1,.int .i64 Z1,.slice A1 n1 q1]):=hidE (heap_alloc_new wr _);have SOF:Hid (∀W:World,Blk W w.heap.size 26 #[.int .i64 k,.string Y,.int .i64 Z,.slice (some ⟨g3,0,none⟩) m c3]->Blk W wr.heap.size 26 #[.int .i64 K1,.string X1,.int .i64 Z1,.slice A1 n1 q1] ->
     W.cell? ⟨w.heap.size,3,none⟩=some (.slice (some ⟨g3,0,none⟩) m c3)/\W.cell? ⟨wr.heap.size,0,none⟩=some (.int .i64 K1)/\W.cell? ⟨wr.heap.size,1,none⟩=some (.string X1)/\W.cell? ⟨wr.heap.size,2,none⟩=some (.int .i64 Z1)/\W.cell? ⟨wr.heap.size,3,none⟩=some (.slice A1 n1 q1)) :=
     hidE λW h1 h2=>⟨h1.cell 3,h2.cell 0,h2.cell 1,h2.cell 2,h2.cell 3⟩
    have HST:=hidE hst;have hgl:=hst.lt;have hneN:w.heap.size≠g3:=by omega
    have hneP:wr.heap.size≠g3:=by omega
    clear hst hrd hnu hcall hu hK1 hX1 hZ1 hn1 htk hsn hfn harg;go_wp2_with fail
    go_region_held3 (λW=>W.cell? ⟨w.heap.size,3,none⟩=some (.slice (some ⟨g3,0,none⟩) m c3)/\W.cell? ⟨wr.heap.size,0,none⟩=some (.int .i64 K1)/\W.cell? ⟨wr.heap.size,1,none⟩=some (.string X1)/\W.cell? ⟨wr.heap.size,2,none⟩=some (.int .i64 Z1)/\W.cell? ⟨wr.heap.size,3,none⟩=some (.slice A1 n1 q1)) (first|(with_reducible exact SOF.out _ NB0.out PB0.out)|(with_reducible exact SOF.out _ NB1.out PB1.out)|(with_reducible exact SOF.out _ (zch NB1.out hneN) (zch PB1.out hneP)))
     (((with_reducible refine HCALL.out.mono ?_);rintro e w5 ⟨k',x',z',a',m',p',rfl,hr5,hi5,hm5,c5⟩;have hn5:∀q,w.heap.size<=q->q<=wr.heap.size->w5.heap[q]? =(wr.alloc (.cells #[.int .i64 K1,.string X1,.int .i64 Z1,.slice A1 n1 q1] 26)).heap[q]?:=(λq h1 h2=>c5.block q (by show q<(wr.alloc _).heap.size;rw[size_alloc];omega) (λh=>by rcases h with h|h;(have:=HLT.out q (hMK q h);omega);omega));have NB1:=hidE (NB0.out.same (hn5 _ (Nat.le_refl _) (by omega)));have PB1:=hidE (PB0.out.same (hn5 _ (by omega) (Nat.le_refl _)));have hs5:wr.heap.size+1<=w5.heap.size:=(by have:=c5.size;rw[show((wr.alloc (.cells #[.int .i64 K1,.string X1,.int .i64 Z1,.slice A1 n1 q1] 26)).drew).heap.size=wr.heap.size+1 from size_alloc _ _]at this;exact this);have st5:=HST.out.keep (R':=λk=>Su k\/(w3.heap.size<=k/\k<w5.heap.size)) (w':=w5) (λq hq=>(by rcases hq with hq|hq;exact .inl hq;exact .inr ⟨hq.1,by omega⟩)) (λq hq=>(c5.block q (by show q<(wr.alloc _).heap.size;rw[size_alloc];rcases hq with(hq|hq)|hq|hq;(have:=HLT.out q (hSu q hq).1;omega);omega;(have:=(HS.out q hq).1;omega);omega) (by rcases hq with(hq|hq)|hq|hq;(exact λh=>by rcases h with h|h;exact(hSu q hq).2 h;exact hmb (by rw[<-h];exact(hSu q hq).1));(exact λh=>by rcases h with h|h;(have:=HLT.out q (hMK q h);omega);omega);(exact λh=>by rcases h with h|h;exact(HS.out q hq).2.1 h;exact(HS.out q hq).2.2 h);(exact λh=>by rcases h with h|h;(have:=HLT.out q (hMK q h);omega);omega))).trans (Below.heap_alloc wr _ q (by rcases hq with(hq|hq)|hq|hq;(have:=HLT.out q (hSu q hq).1;omega);omega;(have:=(HS.out q hq).1;omega);omega))) (by omega);obtain⟨A5,q5,⟨y0,y1,y2,y3⟩,-⟩:=st5.old i hil (Nat.le_refl _);have f0:=st5.free (i*4);have f1:=st5.free (i*4+1);have f2:=st5.free (i*4+2);have f3:=st5.free (i*4+3);have ST5:=hidE st5;have HR5:=hidE hr5;have HI5:=hidE hi5;have HM5:=hidE hm5;have C5:=hidE c5;clear st5 hr5 hi5 hm5 c5 hn5))
    all_goals
     go_wp2_with fail
     have hput:=RowSt.put ST5.out hil (by rw[zby,List.length_take];omega) (HR5.out.keep (S':=λk=>Su k\/(w3.heap.size<=k/\k<w5.heap.size)) (λq hq=>by rcases hq with hq|hq;exact .inl hq;exact .inr ⟨by have h1:=hq.1;have h2:((wr.alloc (.cells #[.int .i64 K1,.string X1,.int .i64 Z1,.slice A1 n1 q1] 26)).drew).heap.size=wr.heap.size+1:=size_alloc _ _;omega,hq.2⟩) (λq _=>rfl)) (λh=>by rcases h with h|h;(have:=HLT.out _ (hSu _ h).1;omega);omega) (λh=>by have:=(HS.out _ h).1;omega);have HPUT:=hidE hput;clear hput;go_roundg (m-(i+1))
     case measure=>omega
     case rel =>
      have hfin:HeadChg mb I M Su S bind leaf ev (kids t) (c+1) s1 w3.heap.size g3 m (w3.setCell ⟨w.heap.size,3,none⟩ (.slice (some ⟨g3,0,none⟩) m c3)) (m-(i+1)) (.int .i64 ((i+1:Nat):Int)) (setO w5 g3 (i*4) (.int .i64 k') (.string x') (.int .i64 z') (.slice a' m' p')):=by
       refine⟨i+1,rfl,rfl,by omega,?_,?_,λ_=>?_,?_⟩
       ·rw[HTK.out,zb1,<-HTK.out,HSN.out]
        have:=hI.keep _ _ _ (setO w5 g3 (i*4) (.int .i64 k') (.string x') (.int .i64 z') (.slice a' m' p')) HI5.out (by rw[zbQ];exact Nat.le_refl _) (λq hq=>zbk _ _ _ _ _ _ _ _ (by have:=HLT.out q hq;omega));rw[Nat.add_assoc]at this
        exact this
       ·exact HM5.out.keep (zbk _ _ _ _ _ _ _ _ (by omega))
       ·rw[HTK.out,zb1]
        exact HPUT.out.keep (λq hq=>by rw[zbQ];exact hq) (λ_ _=>rfl) (Nat.le_refl _)
       ·have h1:Chg (λk=>M k\/k=mb\/k=g3) (w3.setCell ⟨w.heap.size,3,none⟩ (.slice (some ⟨g3,0,none⟩) m c3)) w5:=((C1.out.alloc _).drew).trans' C5.out (λq _ h=>by
         rcases h with h|h
         ·exact .inl h
         ·exact .inr (.inl h))
        exact h1.setO _ _ _ _ _ (.inr (.inr (.inr rfl)))
      refine cast (congrArg (λv=>HeadChg mb I M Su S bind leaf ev (kids t) (c+1) s1 w3.heap.size g3 m _ (m-(i+1)) v _) ?_) hfin;go_num
   ·have him:i=m:=by omega
    subst him;have hend:(kids t).take i=kids t:=List.take_of_length_le (by rw[HKM.out];exact Nat.le_refl _);have hi1:=I1.out;have hrw1:=HRW.out;rw[hend,<-HR5.out]at hi1
    rw[hend,<-HR4.out]at hrw1
    have HI1:=hidE hi1;have HRW1:=hidE hrw1;obtain⟨p0,p1,p2,p3,s0,s1',s2,s3,-⟩:=zaa BN.out;obtain⟨q0,q1,q2,q3,t0,t1,t2,t3,-⟩:=zaa BR.out;clear hi1 hrw1 hend;go_wp2_with fail
    have hb:=zad (.int .i64 k) (.string Y) (.int .i64 Z) (.slice A3 i c3) BR.out;have hf:∀g,g≠w.heap.size+1->((((wr.setCell ⟨w.heap.size+1,0,none⟩ (.int .i64 k)).setCell ⟨w.heap.size+1,1,none⟩ (.string Y)).setCell ⟨w.heap.size+1,2,none⟩ (.int .i64 Z)).setCell ⟨w.heap.size+1,3,none⟩ (.slice A3 i c3)).heap[g]?=wr.heap[g]?:=λg hg=>zaj _ _ _ _ _ _ _ hg;have hsz:((((wr.setCell ⟨w.heap.size+1,0,none⟩ (.int .i64 k)).setCell ⟨w.heap.size+1,1,none⟩ (.string Y)).setCell ⟨w.heap.size+1,2,none⟩ (.int .i64 Z)).setCell ⟨w.heap.size+1,3,none⟩ (.slice A3 i c3)).heap.size=wr.heap.size:=by simp
    have hcanon:=HM.out.canon;have hmpw:=MP1.out.keep (hf mb (by omega));rw[<-HEV.out]at hmpw
    have hcovw:=hcov4.out.keep (w':=((((wr.setCell ⟨w.heap.size+1,0,none⟩ (.int .i64 k)).setCell ⟨w.heap.size+1,1,none⟩ (.string Y)).setCell ⟨w.heap.size+1,2,none⟩ (.int .i64 Z)).setCell ⟨w.heap.size+1,3,none⟩ (.slice A3 i c3))) (λq h1 h2=>(hf q (by omega)).trans (C1.out.block q (by rw[HS4.out];omega) (λh=>by
     rcases h with h|h|h
     ·have:=HLT.out q (hMK q h);omega
     ·omega
     ·omega)))
    refine leaves_cons (f:=115) (args:=#[.pointer (some ⟨wb.heap.size+4,0,none⟩),.pointer (some ⟨wb.heap.size+3,0,none⟩),.pointer (some ⟨wb.heap.size,0,none⟩),.pointer (some ⟨wb.heap.size+1,0,none⟩)]) (by simp) (by simp[go_sem]) ?_;refine(zgQ wb.heap.size mb env X y .returning _ hcovw hmpw hcanon HXm.out HEL.out).mono ?_;rintro e u' wf ⟨rfl,rfl,mf,bf⟩;have hbf:=hb.chg bf (by unfold only;omega);have hff:∀q,q≠w.heap.size+1->q≠mb->q<wr.heap.size->wf.heap[q]?=wr.heap[q]?:=λq h1 h2 h3=>(bf.block q (by rw[hsz];exact h3) h2).trans (hf q h1);have hszf:wr.heap.size<=wf.heap.size:=by have:=bf.size;rw[hsz]at this;exact this
    refine⟨_,results_cell_row rfl _ _ (w.heap.size+1) 26 _ (0,0) _ rfl hbf Tryz.underlying26 rfl (by kernel_rfl),k,Y,Z,A3,i,c3,rfl,⟨A3,c3,?_,?_⟩,?_,mf,?_⟩
    ·rw[HR1.out,HR2.out,HR3.out,HR4.out,zby,HKM.out,<-HK.out,<-HZ.out]
    ·refine(zcj _ _ _ _).2 λhne=>?_
     have h0:0<i:=by
      refine Nat.pos_of_ne_zero λe=>hne ?_;rw[HR4.out]
      refine List.eq_nil_of_length_eq_zero ?_;rw[zby,HKM.out,e]
     obtain⟨hA,h4⟩:=hst4.out h0;have hl4:=h4.lt;rw[HS4.out]at hl4
     have hrow:=HRW1.out h0;refine⟨g3,hA,.inr ⟨by omega,by omega⟩,RowT.keep (λq hq=>by rcases hq with hq|hq;exact .inl hq;exact .inr ⟨by omega,by omega⟩) (λq hq=>by
      rcases hq with hq|hq
      ·have h1:=HLT.out q (hSu q hq).1
       exact hff q (by omega) (λe=>hmb (by rw[<-e];exact(hSu q hq).1)) (by omega)
      ·exact hff q (by omega) (by omega) hq.2) _ _ _ (hff g3 (by omega) (by omega) (by omega)) hrow.new⟩
    ·refine hI.mono _ _ _ _ (hI.keep _ _ _ _ HI1.out hszf (λq hq=>hff q (by have:=HLT.out q hq;omega) (λe=>hmb (by rw[<-e];exact hq)) (by have:=HLT.out q hq;omega))) (by omega)
    ·have h1:Chg (λk=>M k\/k=mb) w wr:=HCH4.out.trans' C1.out (λq hq h=>by
      rcases h with h|h|h
      ·exact .inl h
      ·exact .inr h
      ·omega)
     exact(h1.set4 (.int .i64 k) (.string Y) (.int .i64 Z) (.slice A3 i c3) (Nat.le_succ _)).trans' bf (λq _ h=>.inr h)
end Go.Proofs.YtaomnlcplmkokaaGreatDoor
namespace Go.Proofs.YtaomnlcplmkokaaGreatDoor
open Go.RowKit Lx Tx Go.Maps Go.WideMaps Go.Shelf
set_option maxRecDepth 100000
theorem znT {σ:Type}(pb mb kl:Nat)(cl:Array Value)(vc vn:Value)(inC:Name->Bool)(I:Nat->σ->World->Prop)(K M Su:Nat->Prop)(bind:Name->σ->Name × σ)(place:Ty->Option Ty)(hI:InvC I K)(hMK:∀g,M g->K g)(hSu:∀g,Su g->K g/\¬M g)(hmb:¬K mb)
  (hpk:K pb)(hpm:¬M pb)(hpt:∀c s w,I c s w->Pt w pb mb kl cl vc vn)(el:∀args w,(callFunc kl args).run Tryz.prog w=.ok (.enter kl args) w)(HP:zdT kl cl I M Su place)(G:Ty->Prop)(hGk:∀t,G t->∀u∈kids t,G u)(HB:∀t,G t->kd t=5->zmq vc vn I M bind inC)(n:Nat):zmp n pb mb I M Su bind (lfP place) G:=by
 induction n with
 |zero=>intro c s env t S v w _ hn;rw[zak]at hn;omega
 |succ n ih =>
  intro c s env t S v w hG hn h6 hi hm hv hS hnm hc hlen;cases t with
  |var x=>exact zhj pb mb kl cl vc vn I K M Su bind place hI hMK (λg hg=>(hSu g hg).1) hmb hpk hpm hpt el HP c s env _ S v w (.inl rfl) hi hm hv (λg hg=>(hS g hg).1) hnm
  |mt x=>exact zhj pb mb kl cl vc vn I K M Su bind place hI hMK (λg hg=>(hSu g hg).1) hmb hpk hpm hpt el HP c s env _ S v w (.inr rfl) hi hm hv (λg hg=>(hS g hg).1) hnm
  |con d l=>exact zit n pb mb I K M Su bind (lfP place) hI hMK hSu hmb G hGk ih c s env _ hG S v w (.inl rfl) hn (by omega) hi hm hv hS hnm hc hlen
  |fn a b=>exact zit n pb mb I K M Su bind (lfP place) hI hMK hSu hmb G hGk ih c s env _ hG S v w (.inr rfl) hn (by omega) hi hm hv hS hnm hc hlen
  |all x t=>exact znS n pb mb kl cl vc vn inC I K M Su bind (lfP place) hI hMK hSu hmb hpk hpt (HB _ hG rfl) G hGk ih c s env _ hG S v w rfl hn (by omega) hi hm hv hS hnm hc hlen
end Go.Proofs.YtaomnlcplmkokaaGreatDoor
namespace Go.Proofs.YtaomnlcplmkokaaGreatDoor
open Go.RowKit Lx Tx
set_option maxRecDepth 100000
theorem zhE(n:Nat):zq5 n:=by
 induction n with
 |zero=>intro t S v vn vbut lc but xs ys k w h;have:=zak t;omega
 |succ n ih =>
  intro t S v vn vbut lc but xs ys k w hn hv hS hnv hbut hxy hxl hbl hk;obtain⟨A,c,rfl,ha⟩:=hv;cases t with
  |var x=>exact zjF x A _ c vn vbut ⟨#[lc]⟩ lc but xs ys k w hnv hxy (by omega)
  |mt j=>exact zcp n ih (.mt j) S _ _ _ A _ c vn vbut lc but xs ys k w hn (λ_ h=>by cases h) rfl rfl rfl rfl false rfl rfl rfl ha hS hnv hbut hxy hxl hbl hk
  |con j l=>exact zcp n ih (.con j l) S _ _ _ A _ c vn vbut lc but xs ys k w hn (λ_ h=>by cases h) rfl rfl rfl rfl false rfl rfl rfl ha hS hnv hbut hxy hxl hbl hk
  |fn a b=>exact zcp n ih (.fn a b) S _ _ _ A _ c vn vbut lc but xs ys k w hn (λ_ h=>by cases h) rfl rfl rfl rfl false rfl rfl rfl ha hS hnv hbut hxy hxl hbl hk
  |all x t=>exact zcp n ih (.all x t) S _ _ _ A _ c vn vbut lc but xs ys k w hn (λ_ h=>by cases h) rfl rfl rfl rfl true rfl rfl rfl ha hS hnv hbut hxy hxl hbl hk
theorem zkq {wr wq w1:World} {g:Nat} {t:Ty} {K Z:Int} {X:ByteArray} {A:Option Addr} {m c:Nat}(hb:Below wr.heap.size wr w1)(hg:wr.heap.size<=g)(hlt:g<wq.heap.size)(hz:Blk w1 g 29 #[.int .i64 0,.string ⟨#[]⟩,.int .i64 0,.slice none 0 0])
  (hr:RdV (λg=>wq.heap.size<=g/\g<w1.heap.size) w1 t (.agg #[.int .i64 K,.string X,.int .i64 Z,.slice A m c])):CutN wr g t ((((w1.setCell ⟨g,0,none⟩ (.int .i64 K)).setCell ⟨g,1,none⟩ (.string X)).setCell ⟨g,2,none⟩ (.int .i64 Z)).setCell ⟨g,3,none⟩ (.slice A m c)) :=
 ⟨K,X,Z,A,m,c,zad _ _ _ _ hz,hg,hr.keep (λg' hg'=>by simp;omega) (λg' hg'=>zaj _ _ _ _ _ _ _ (by omega)),zaf hb _ _ _ _ hg⟩
theorem zrw(t:Ty)(h:t.size<=1000000):0+t.size*(t.free.length+2)<=10 ^ 15:=by
 have h1:=zaU t;have h2:t.size*(t.free.length+2)<=1000000*1000002:=Nat.mul_le_mul h (by omega);omega
theorem zmJ(t:Ty):t.canonT.size=t.size:=zbP _ _ t _ _ _
set_option maxRecDepth 2000 in
theorem zdL(t:Ty)(S:Nat->Prop)(v:Value)(w:World)(hs:t.size<=1000000)(hnm:Nm t.canonT)(hv:RdV S w t v)(hS:∀g,S g->g<w.heap.size):Calls Tryz.prog 14 #[v] w λe w'=>e=.returned (.string ⟨t.canonT.print.toArray⟩)/\Below w.heap.size w w':=by
 obtain⟨K,X,Z,A,m,c,rfl,-,-,-,hm,ha⟩:=hv.parts;obtain⟨W0,hW⟩:∃W,w.alloc (.cells #[.int .i64 K,.string X,.int .i64 Z,.slice A m c] 29)=W:=⟨_,rfl⟩;have hb0:Below w.heap.size w W0:=hW▸(Below.refl _ w).alloc (Nat.le_refl _) _;have k0:Blk W0 w.heap.size 29 #[.int .i64 K,.string X,.int .i64 Z,.slice A m c]:=hW▸heap_alloc_new _ _;have hv0:RdV S W0 t (.agg #[.int .i64 K,.string X,.int .i64 Z,.slice A m c]):=hv.keep (λ_ h=>h) (λg hg=>hb0.block g (hS g hg));have hS0:∀g,S g->g<W0.heap.size:=λg hg=>by have:=hS g hg;have:=hb0.size;omega
 have hl0:=k0.lt;have F1:=hidE (λW (h:Below W0.heap.size W0 W)=>zbs t S _ W hs (hv0.keep (S':=S) (λ_ h=>h) (λg hg=>h.block g (hS0 g hg))) (λg hg=>by have:=hS0 g hg;have:=h.size;omega));have hfl:t.free.length<=1000000:=by have:=zaU t;omega
 have hkk:=zrw t hs;have F2:=hidE (λW v' (h:Below W0.heap.size W0 W) (hr:RowV W v' (strV t.free))=>(show Calls Tryz.prog 37 #[.agg #[.int .i64 K,.string X,.int .i64 Z,.slice A m c],.agg #[.slice none 0 0,.slice none 0 0],.string ⟨#[120]⟩,v',.int .i64 0] W (NPost (numb 120 t.free [] [] t 0) W) from
  zhE 1000000 t S _ _ v' 120 t.free [] [] 0 W hs (hv0.keep (S':=S) (λ_ h=>h) (λg hg=>h.block g (hS0 g hg))) (λg hg=>by have:=hS0 g hg;have:=h.size;omega) ⟨_,_,rfl,RowN.nil W,RowN.nil W⟩ hr rfl (by simpa using hs) hfl hkk))
 obtain⟨o,ho⟩:∃o,numb 120 t.free [] [] t 0=o:=⟨_,rfl⟩;rw[ho]at F2
 have hoc:t.canonT=o.1:=by rw[<-ho];rfl
 have hos:o.1.size<=1000000:=by rw[<-hoc,zmJ];exact hs
 rw[hoc]at hnm ⊢
 have hol:o.1.print.length<=10 ^ 12:=by have:=(zbE o.1 hnm).1;omega
 have SOF:Hid (∀W,Below W0.heap.size W0 W->(λW=>W.cell? ⟨w.heap.size,0,none⟩=some (.int .i64 K)/\W.cell? ⟨w.heap.size,1,none⟩=some (.string X)/\W.cell? ⟨w.heap.size,2,none⟩=some (.int .i64 Z)/\W.cell? ⟨w.heap.size,3,none⟩=some (.slice A m c)) W) :=
  hidE λW h=>by
   obtain⟨a0,a1,a2,a3,-,-,-,-,-⟩:=zaa (k0.below h hl0);exact⟨a0,a1,a2,a3⟩
 obtain⟨x0,x1,x2,x3,-,-,-,-,-⟩:=zaa k0;have B0:Hid (Below W0.heap.size W0 W0.drew):=hidE (Below.refl _ W0).drew;have BA:Hid (Below W0.heap.size W0 (W0.alloc (.cells #[.int .i64 0,.string ⟨#[]⟩,.int .i64 0,.slice none 0 0] 29)).drew):=hidE ((Below.refl _ W0).alloc (Nat.le_refl _) _).drew;have HB0:=hidE hb0;have HNM:=hidE hnm;have HOS:=hidE hos;have HOL:=hidE hol;clear hv hm ha hS hs hnm hb0 k0 hv0 hS0 hfl hkk ho hoc hos hol;go_enter Tryz.func14,Tryz.ntmps14
 go_upto_region 1 with fail
 go_cut [3,4] from 5 (λs3 s4 wx=>s4=.int .i64 (o.2:Nat)/\Hid (∃b,s3=.pointer (some ⟨b,0,none⟩)/\CutN W0 b o.1 wx))
 case first =>
  go_region_held3 (λW=>W.cell? ⟨w.heap.size,0,none⟩=some (.int .i64 K)/\W.cell? ⟨w.heap.size,1,none⟩=some (.string X)/\W.cell? ⟨w.heap.size,2,none⟩=some (.int .i64 Z)/\W.cell? ⟨w.heap.size,3,none⟩=some (.slice A m c))
   (first|(with_reducible exact SOF.out _ B0.out)|(with_reducible exact SOF.out _ BA.out)|(with_reducible exact SOF.out _ B2.out)|(with_reducible exact SOF.out _ B1.out)|(with_reducible exact SOF.out _ (B1.out.alloc B1.out.size _))|(with_reducible exact SOF.out _ (B2.out.alloc B2.out.size _))|(exact SOF.out _ (zaf B2.out _ _ _ _ LB.out))|(refine SOF.out _ ?_;repeat first|exact Below.refl _ _|(refine Below.alloc ?_ (by first|omega|(simp;done)|(simp;omega)) _)|(refine Below.drew ?_)))
   ((first
    |((with_reducible refine(F1.out _ B0.out).mono ?_);rintro e w9 ⟨v9,rfl,hr9,b9⟩;have R1:=hidE hr9.1;have B1:=hidE (zac B0.out b9);clear hr9 b9)
    |((with_reducible refine(F1.out _ BA.out).mono ?_);rintro e w9 ⟨v9,rfl,hr9,b9⟩;have R1:=hidE hr9.1;have ZB:=hidE (zkn b9);have ZL:=hidE ZB.out.lt;have B1:=hidE (zac BA.out b9);clear hr9 b9)
    |((with_reducible refine(F2.out _ _ B1.out R1.out).mono ?_);rintro e w8 ⟨b8,K2,X2,Z2,A2,m2,c2,rfl,hr2⟩;have HR:=hidE hr2;(try (have hz:=Blk.below ZB.out b8 ZL.out;obtain⟨y0,y1,y2,y3,y4,y5,y6,y7,y8⟩:=zaa hz;have HZ:=hidE hz;have LB:Hid (W0.heap.size<=W0.heap.size):=hidE (Nat.le_refl _);clear hz));have B2:=hidE (zac B1.out b8);clear b8 hr2)
    |((with_reducible refine(F2.out _ _ (B1.out.alloc B1.out.size _) (R1.out.below ((Below.refl _ _).alloc (Nat.le_refl _) _))).mono ?_);rintro e w8 ⟨b8,K2,X2,Z2,A2,m2,c2,rfl,hr2⟩;have HR:=hidE hr2;have hz:Blk w8 w9.heap.size 29 #[.int .i64 0,.string ⟨#[]⟩,.int .i64 0,.slice none 0 0]:=Blk.below (heap_alloc_new _ _) b8 (by simp);obtain⟨y0,y1,y2,y3,y4,y5,y6,y7,y8⟩:=zaa hz;have HZ:=hidE hz;have LB:=hidE B1.out.size;have B2:=hidE (zac (B1.out.alloc B1.out.size _) b8);clear hz b8 hr2)))
  all_goals
   go_wp2_with fail
   go_meet
   case rel=>first
    |(have hzz:=HZ.out;have hzl:=ZL.out;exact⟨rfl,hidE ⟨_,rfl,zkq B2.out LB.out hzl hzz HR.out⟩⟩)
    |(have hzz:=HZ.out;exact⟨rfl,hidE ⟨_,rfl,zkq B2.out LB.out (by simp) hzz HR.out⟩⟩)
    |exact⟨rfl,hidE ⟨_,rfl,zko B1.out B2.out HR.out⟩⟩
 case rest =>
  obtain⟨rfl,hcx⟩:=hcut;obtain⟨b,rfl,K2,X2,Z2,A2,m2,c2,hbk,hble,hr2,hb2⟩:=hcx.out;obtain⟨p0,p1,p2,p3,p4,p5,p6,p7,p8⟩:=zaa hbk;have HP:=hidE (zmF o.1 _ _ wc HOS.out HNM.out HOL.out hr2 (λg hg=>hg.2));have HB2:=hidE (zac HB0.out hb2);clear hcx hbk hr2 hb2 F1 F2 SOF;go_wp2_with fail
  refine HP.out.mono ?_;rintro e w4 ⟨rfl,b4⟩;have B4:=hidE (zac HB2.out b4);clear b4;go_wp2_with fail
  go_ret
  exact⟨rfl,B4.out⟩
set_option maxRecDepth 100000
theorem zoj {w0 w w':World}(h:Below w0.heap.size w0 w)(hb:Below w.heap.size w w'):Below w0.heap.size w0 w':=h.trans (hb.mono h.size)
def zmK(Su:Nat->Prop)(w:World)(r:Ty)(e:Ending)(w':World):Prop :=
 Below w.heap.size w w'/\∃K X Z A m c,e=.returned (.agg #[.int .i64 K,.string X,.int .i64 Z,.slice A m c])/\RdV (λg=>Su g\/w.heap.size<=g/\g<w'.heap.size) w' r (.agg #[.int .i64 K,.string X,.int .i64 Z,.slice A m c])
def AtP(k z:Int)(Y:ByteArray)(isP:Ty->Bool):Prop :=
 ∀t:Ty,(((kd t:Nat):Int)==k &&(nmB t).toList==Y.toList &&((nn t:Nat):Int)==z)=(match t with|.var _=>isP t|.mt _=>isP t|_=>false)
def zkr(k z:Int)(Y:ByteArray)(isP:Ty->Bool)(u:Ty)(n:Nat):Prop :=
 ∀(t:Ty) (S Su:Nat->Prop) (v:Value) (Ku:Int) (Xu:ByteArray) (Zu:Int) (Au:Option Addr) (mu cu:Nat) (w:World),t.size<=n->RdV S w t v->(∀g,S g->g<w.heap.size)->RdV Su w u (.agg #[.int .i64 Ku,.string Xu,.int .i64 Zu,.slice Au mu cu])->(∀g,Su g->g<w.heap.size) ->
  Calls Tryz.prog 68 #[v,.int .i64 k,.string Y,.int .i64 z,.agg #[.int .i64 Ku,.string Xu,.int .i64 Zu,.slice Au mu cu]] w (zmK Su w (raw isP u t))
theorem zok(isP:Ty->Bool)(u:Ty)(l:List Ty)(i:Nat)(x:Ty)(done:List Ty)(h:Hid (rawL isP u (l.take i)=done))(hx:l[i]?=some x):rawL isP u (l.take (i+1))=done++[raw isP u x]:=by
 have key:∀(a:List Ty) (y:Ty),rawL isP u (a++[y])=rawL isP u a++[raw isP u y]:=by
  intro a y;induction a with
  |nil=>simp[rawL]
  |cons b r ih=>rw[List.cons_append,rawL,ih,rawL];rfl
 obtain⟨hi,e⟩:=List.getElem?_eq_some_iff.1 hx;rw[zbj l i hi,key,e,h.out]
theorem zol(k z:Int)(Y:ByteArray)(isP:Ty->Bool)(u t:Ty)(hP:AtP k z Y isP)(h:(((kd t:Nat):Int)==k &&(nmB t).toList==Y.toList &&((nn t:Nat):Int)==z)=true):raw isP u t=u:=by
 rw[hP t]at h
 cases t with
 |var x=>rw[raw,if_pos h]
 |mt n=>rw[raw,if_pos h]
 |con c l=>cases h
 |fn a b=>cases h
 |all x t=>cases h
theorem zp9(k z:Int)(Y:ByteArray)(isP:Ty->Bool)(u t:Ty)(hP:AtP k z Y isP)(h:(((kd t:Nat):Int)==k &&(nmB t).toList==Y.toList &&((nn t:Nat):Int)==z)=false):kd (raw isP u t)=kd t/\nmB (raw isP u t)=nmB t/\nn (raw isP u t)=nn t/\kids (raw isP u t)=rawL isP u (kids t):=by
 rw[hP t]at h
 cases t with
 |var x=>rw[raw,if_neg (by simpa using h),kids,rawL];exact⟨rfl,rfl,rfl,rfl⟩
 |mt n=>rw[raw,if_neg (by simpa using h),kids,rawL];exact⟨rfl,rfl,rfl,rfl⟩
 |con c l=>rw[raw,kids];exact⟨rfl,rfl,rfl,rfl⟩
 |fn a b=>simp only[raw,kids,rawL];exact⟨rfl,rfl,rfl,trivial⟩
 |all x t=>simp only[raw,kids,rawL];exact⟨rfl,rfl,rfl,trivial⟩
def zks(isP:Ty->Bool)(u t:Ty)(Su:Nat->Prop)(m B b11:Nat)(K:Int)(X:ByteArray)(Z:Int)(w W0:World)(gg:Nat)(vi:Value)(wr:World):Prop :=
 ∃i done v',gg=m-i/\vi=.int .i64 (i:Nat)/\i<=m/\Hid (rawL isP u ((kids t).take i)=done)/\done.length=i/\Built Su B 29 wr done v' /\
  Blk wr b11 29 #[.int .i64 K,.string X,.int .i64 Z,v']/\B<=wr.heap.size/\(∀g,g<B->g≠b11->wr.heap[g]?=W0.heap[g]?)/\Below w.heap.size w wr
theorem zmL {isP:Ty->Bool} {u t o:Ty} {Su:Nat->Prop} {m i n1 cap2 gg2 c' m2 c2:Nat} {K Z K2 Z2:Int} {X X2:ByteArray} {w V1 wr w1 w3:World} {done:List Ty} {vs:List Value} {A' A2:Option Addr}(hi:i<m)(HSU:∀g,Su g->g<w.heap.size)(HB:w.heap.size+4<=wr.heap.size)
  (HOWN:wr.ownsRow (w.heap.size+4) 29 4 (.slice A' done.length c') done.length vs)(HROW:TyRow (λg=>(Su g\/w.heap.size+4<=g/\g<wr.heap.size)/\some g≠(Value.slice A' done.length c').ownBlock) wr done vs)(HDL:done.length=i)
  (HKEEP:∀g,g<w.heap.size+4->g≠w.heap.size+3->wr.heap[g]?=V1.heap[g]?)(HBEL:Below w.heap.size w wr)(hnx:Hid (rawL isP u ((kids t).take (i+1))=done++[o]))(B1:Below wr.heap.size wr w1)
  (HR2:RdV (λg=>Su g\/wr.drew.heap.size<=g/\g<w1.heap.size) w1 o (.agg #[.int .i64 K2,.string X2,.int .i64 Z2,.slice A2 m2 c2]))(hn:n1=done.length+1)
  (HO3:w3.ownsRow (w.heap.size+4) 29 4 (.slice (some ⟨gg2,0,none⟩) n1 cap2) n1 (vs++[.int .i64 K2,.string X2,.int .i64 Z2,.slice A2 m2 c2]))
  (HG3:(w1.alloc (.cells #[.int .i64 K2,.string X2,.int .i64 Z2,.slice A2 m2 c2] 29)).grownBy w3 (Value.slice A' done.length c').ownBlock)
  (HT3:(Value.slice A' done.length c').ownBlock=some gg2\/gg2=(w1.alloc (.cells #[.int .i64 K2,.string X2,.int .i64 Z2,.slice A2 m2 c2] 29)).heap.size)
  (HD1:Blk w3 (w.heap.size+3) 29 #[.int .i64 K,.string X,.int .i64 Z,.slice A' done.length c']):zks isP u t Su m (w.heap.size+4) (w.heap.size+3) K X Z w V1 (m-(i+1)) (.int .i64 ((i:Int)+1)) (w3.setCell ⟨w.heap.size+3,3,none⟩ (.slice (some ⟨gg2,0,none⟩) n1 cap2)):=by
 subst hn;have HLT:=HOWN.lt;have hsz3:=HBEL.size;have hsz2:=B1.size;have hb:=Built.next (T:=Su) (w:=wr) (w1:=w1) (λg hg=>by have:=HSU g hg;omega) HB HOWN HROW B1 HR2 ((Below.refl _ w1).alloc (Nat.le_refl _) _) HO3 HG3 (HT3.elim (λe=>.inl e.symm) (λe=>.inr (by rw[e];rfl)));have hbl:Below w.heap.size w w3:=(((HBEL.trans (B1.mono hsz3)).alloc (by omega) _).grown HG3 (by simp;omega) (λj hj=>by have:=HLT j hj;omega));refine⟨i+1,done++[o],_,rfl,rfl,by omega,hnx,by rw[List.length_append,HDL];rfl,?_,heap_setCell_same _ _ 3 _ _ _ HD1,?_,λg hg hne=>?_,hbl.setCell (p:=⟨w.heap.size+3,3,none⟩) (by show w.heap.size<=w.heap.size+3;omega) _⟩
 ·have:=hb.setCell (p:=⟨w.heap.size+3,3,none⟩) (.slice (some ⟨gg2,0,none⟩) (done.length+1) cap2) (by show w.heap.size+3<_;omega) (λh=>by have:=HSU _ h;simp at this;omega)
  exact this
 ·have:=HG3.size
  simp at this ⊢;omega
 ·rw[Below.heap_setCell _ _ _ _ hne,HG3.block g (by simp;omega) (λe=>by have:=HLT g e.symm;omega),Below.heap_alloc _ _ _ (by omega),B1.block g (by omega)]
  exact HKEEP g hg hne
set_option maxRecDepth 2000 in
theorem zjG(k z:Int)(Y:ByteArray)(isP:Ty->Bool)(hP:AtP k z Y isP)(u:Ty)(n:Nat)(h6:n<=1000000)(IH:zkr k z Y isP u n):zkr k z Y isP u (n+1):=by
 intro t S Su v Ku Xu Zu Au mu cu w hn hv hS hu hSu;obtain⟨K,X,Z,A,m,c,rfl,hK,hX,hZ,hm,ha⟩:=hv.parts;obtain⟨q,hq⟩:∃q,((K==k) &&(X.toList==Y.toList) &&(Z==z))=q:=⟨_,rfl⟩;have hq':(((kd t:Nat):Int)==k &&(nmB t).toList==Y.toList &&((nn t:Nat):Int)==z)=q:=by rw[<-hq,hK,hX,hZ]
 have HM:=hidE hm;have HA:=hidE ha;have HIH:=hidE IH;have HS:=hidE hS;have HN:=hidE hn;have HU:=hidE hu;have HSU:=hidE hSu;have HQ:=hidE hq';have HK:=hidE hK;have HX:=hidE hX;have HZ:=hidE hZ;have HP:=hidE hP;have HQ0:=hidE hq;have hm6:m<=1000000:=by have:=zaW t;omega
 obtain⟨R,hR⟩:∃R,raw isP u t=R:=⟨_,rfl⟩;have HRR:=hidE hR;rw[hR]
 clear hR hv hm ha IH hS hn hu hSu hq hq' hK hX hZ hP;go_enter Tryz.func68,Tryz.ntmps68
 go_upto_region 1 with fail
 obtain⟨W0,hW⟩:∃W:World,(((w.alloc (.cells #[.int .i64 K,.string X,.int .i64 Z,.slice A m c] 29)).alloc (.cells #[.int .i64 Ku,.string Xu,.int .i64 Zu,.slice Au mu cu] 29)).alloc (.cells #[.int .i64 0,.string ⟨#[]⟩,.int .i64 0,.slice none 0 0] 29))=W:=⟨_,rfl⟩;have k5:Blk W0 w.heap.size 29 #[.int .i64 K,.string X,.int .i64 Z,.slice A m c]:=hW▸zae _ _ _ _ (zae _ _ _ _ (heap_alloc_new _ _));have k9:Blk W0 (w.heap.size+1) 29 #[.int .i64 Ku,.string Xu,.int .i64 Zu,.slice Au mu cu]:=hW▸zae _ _ _ _ (alloc_at _ _ _ (by simp));have k10:Blk W0 (w.heap.size+2) 29 #[.int .i64 0,.string ⟨#[]⟩,.int .i64 0,.slice none 0 0]:=hW▸alloc_at _ _ _ (by simp);have kb:Below w.heap.size w W0:=hW▸((((Below.refl _ w).alloc (Nat.le_refl _) _).alloc (by simp) _).alloc (by simp;omega) _);have hsz:W0.heap.size=w.heap.size+3:=by rw[<-hW];simp
 have HSZ:=hidE hsz;have K5:=hidE k5;have K9:=hidE k9;have K10:=hidE k10;have KB:=hidE kb;obtain⟨x0,x1,x2,x3,-,-,-,-,-⟩:=zaa k5;rw[hW]
 clear k5 k9 k10 kb hW hsz;go_cut [28] from 13 (λs28 wx=>s28=.bool q/\wx=W0)
 case first =>
  have hq0:=HQ0.out;cases h1:(K==k) <;> cases h2:(X.toList==Y.toList) <;> cases h3:(Z==z)
  all_goals
   rw[h1,h2,h3]at hq0
   go_wp2_with fail
   go_meet
   case rel=>exact⟨by rw[<-hq0];rfl,rfl⟩
 case rest =>
  rename World=>V0;obtain⟨rfl,rfl⟩:=hcut;obtain⟨y0,y1,y2,y3,-,-,-,-,yl⟩:=zaa K9.out;obtain⟨z0,z1,z2,z3,z4,z5,z6,z7,zl⟩:=zaa K10.out;cases q with
  |true =>
   have hr:R=u:=by rw[<-HRR.out];exact zol k z Y isP u t HP.out HQ.out
   have HR:=hidE hr;go_wp2_with fail
   try simp only[Exit.inBlock,Exit.then]
   refine bodyPost_ret (results_cell_row rfl _ _ (w.heap.size+2) 29 _ (0,0) _ rfl (zad _ _ _ _ K10.out) Tryz.underlying29 rfl (by kernel_rfl)) rfl ?_;refine⟨zaf KB.out _ _ _ _ (by omega),Ku,Xu,Zu,Au,mu,cu,rfl,?_⟩;rw[HR.out]
   exact HU.out.keep (λg hg=>.inl hg) (λg hg=>by
    have:=HSU.out g hg;rw[zaj _ _ _ _ _ _ _ (by omega)]
    exact KB.out.block g this)
  |false =>
   obtain⟨q2,q3,q4,q5⟩:=zp9 k z Y isP u t HP.out HQ.out;have HQ2:Hid (K=(kd (raw isP u t):Nat)):=hidE (by rw[q2];exact HK.out);have HQ3:Hid (X=nmB (raw isP u t)):=hidE (by rw[q3];exact HX.out);have HQ4:Hid (Z=(nn (raw isP u t):Nat)):=hidE (by rw[q4];exact HZ.out);have HQ5:=hidE q5;rw[HRR.out]at HQ2 HQ3 HQ4 HQ5
   clear q2 q3 q4 q5 y0 y1 y2 y3 z0 z1 z2 z3 z4 z5 z6 z7 zl yl HK HX HZ HQ HQ0 HP;go_wp2_with fail
   obtain⟨V1,hV1⟩:∃W,V0.alloc (.cells #[.int .i64 K,.string X,.int .i64 Z,.slice none 0 0] 29)=W:=⟨_,rfl⟩;have v5:Blk V1 w.heap.size 29 #[.int .i64 K,.string X,.int .i64 Z,.slice A m c]:=hV1▸zae _ _ _ _ K5.out;have v9:Blk V1 (w.heap.size+1) 29 #[.int .i64 Ku,.string Xu,.int .i64 Zu,.slice Au mu cu]:=hV1▸zae _ _ _ _ K9.out;have v10:Blk V1 (w.heap.size+2) 29 #[.int .i64 0,.string ⟨#[]⟩,.int .i64 0,.slice none 0 0]:=hV1▸zae _ _ _ _ K10.out;have v11:Blk V1 (w.heap.size+3) 29 #[.int .i64 K,.string X,.int .i64 Z,.slice none 0 0]:=hV1▸alloc_at _ _ _ HSZ.out.symm;have vb:Below w.heap.size w V1:=hV1▸KB.out.alloc KB.out.size _;have vs:w.heap.size+4=V1.heap.size:=by rw[<-hV1];simp;have:=HSZ.out;omega
   obtain⟨i0,hi0,hz0,hz1,hz2⟩:=info_parts zeo;replace K5:=hidE v5;replace K9:=hidE v9;replace K10:=hidE v10;have K11:=hidE v11;have VB:=hidE vb;have VS:=hidE vs;have hA3:V1.cell? ⟨w.heap.size,3,none⟩=some (.slice A m c):=v5.cell 3;rw[hV1]
   clear hV1 v5 v9 v10 v11 vb vs;rw[HSZ.out]
   go_loopg [12] m (λgg vi wr=>zks isP u t Su m (w.heap.size+4) (w.heap.size+3) K X Z w V1 gg vi wr)
   case atStart=>exact⟨0,[],.slice none 0 0,rfl,rfl,Nat.zero_le _,hidE (by simp[rawL]),rfl,Built.nil _ _ _ _,K11.out,Nat.le_of_eq VS.out,λ_ _ _=>rfl,VB.out⟩
   case round =>
    obtain⟨i,done,v',rfl,rfl,hi,hnb,hdl,hbuilt,hb11,hB,hkeep,hbel⟩:=hrel;obtain⟨vs,hown,hrow⟩:=hbuilt;obtain⟨A',c',rfl⟩:=zaz hown;have c3:wr.cell? ⟨w.heap.size,3,none⟩=some (.slice A m c):=(World.cell?_of_block (w:=V1) (a:=⟨w.heap.size,3,none⟩) (hkeep w.heap.size (by omega) (by omega))).trans hA3;have hb9:Blk wr (w.heap.size+1) 29 #[.int .i64 Ku,.string Xu,.int .i64 Zu,.slice Au mu cu]:=(hkeep _ (by omega) (by omega)).trans K9.out;have hb10:Blk wr (w.heap.size+2) 29 #[.int .i64 0,.string ⟨#[]⟩,.int .i64 0,.slice none 0 0]:=(hkeep _ (by omega) (by omega)).trans K10.out;have HOWN:=hidE hown;have HROW:=hidE hrow;have HB11:=hidE hb11;have HB9:=hidE hb9;have HB10:=hidE hb10;have HKEEP:=hidE hkeep;have HBEL:=hidE hbel;have HB:=hidE hB;have HDL:=hidE hdl;have HLT:=hidE hown.lt;by_cases hlt:i<m
    ·obtain⟨g,x,K1,X1,Z1,A1,n1,c1,rfl,hg,e0,e1,e2,e3,hu,hrd,hsz⟩:=zaP (w':=wr) HA.out HM.out hlt (λg hg=>hbel.block g (HS.out g hg))
     have hgw:g<wr.heap.size:=by have:=hbel.size;have:=HS.out g hg;omega
     have hnx:=hidE (zok isP u (kids t) i x done hnb hu);have F1:=hidE (λW (h:Below wr.heap.size wr W)=>HIH.out x S Su _ Ku Xu Zu Au mu cu W (by have:=HN.out;omega) (hrd.keep (S':=S) (λ_ h=>h) (λg hg=>h.block g (by have:=HS.out g hg;have:=HBEL.out.size;omega))) (λg hg=>by have:=HS.out g hg;have:=HBEL.out.size;have:=h.size;omega)
      (HU.out.keep (S':=Su) (λ_ h=>h) (λg hg=>((h.block g (by have:=HSU.out g hg;have:=HBEL.out.size;omega)).trans (HBEL.out.block g (HSU.out g hg))))) (λg hg=>by have:=HSU.out g hg;have:=HBEL.out.size;have:=h.size;omega))
     obtain⟨o,ho⟩:∃o,raw isP u x=o:=⟨_,rfl⟩;rw[ho]at F1 hnx
     obtain⟨y0,y1,y2,y3,-,-,-,-,-⟩:=zaa hb9;obtain⟨z0,z1,z2,z3,-,-,-,-,-⟩:=zaa hb11;have B0:Hid (Below wr.heap.size wr wr.drew):=hidE (Below.refl _ wr).drew;have hdl6:done.length<=1000000:=by omega
     clear hnb hrd hu ho hsz hown hrow hbel hb11 hb9 hb10 hkeep hdl;go_upto_region 7 with fail
     go_region_law (first
      |(refine step_append_lies _ (by rfl) _ _ _ (by rfl) (w.heap.size+4) 29 i0 _ 4 56 Tryz.underlying27 hi0 hz0 hz1 hz2 rfl (by decide) _ done.length vs (by rfl) (hown2.out.alloc _) _ 1 1 [.int .i64 K2,.string X2,.int .i64 Z2,.slice A2 m2 c2] (by rfl) (by rfl) (World.news_of_block (cs:=#[.int .i64 K2,.string X2,.int .i64 Z2,.slice A2 m2 c2]) (t:=29) (fr:=(0,0)) (alloc_at _ _ _ rfl)) (by intro u hu;simp at hu;rcases hu with rfl|rfl|rfl|rfl <;> rfl) (by omega) (by unfold maxLen;omega) (by omega) (by have:=B1.out.size;have:=HB.out;first|omega|(simp;done)|(simp;omega)) _ rfl ?_;intro gg2 cap2 w3 hown3 hgrow hat3 hlt3;have HO3:=hidE hown3;have HG3:=hidE hgrow;have HT3:=hidE hat3;clear hown3 hgrow hat3;have hc1:=((HB11.out.below B1.out (by have:=HB.out;omega)).alloc (.cells #[.int .i64 K2,.string X2,.int .i64 Z2,.slice A2 m2 c2] 29)).grown HG3.out (λe=>by have:=HLT.out _ e.symm;omega);obtain⟨p0,p1,p2,p3,p4,p5,p6,p7,hly⟩:=zaa hc1;have HD1:=hidE hc1;clear hc1)
      |(go_simp;(with_reducible refine(F1.out _ B0.out).mono ?_);rintro e w1 ⟨b1,K2,X2,Z2,A2,m2,c2,rfl,hr2⟩;have HR2:=hidE hr2;have B1:=hidE (zoj B0.out b1);have z3':w1.cell? ⟨w.heap.size+3,3,none⟩=some (.slice A' done.length c'):=(B1.out.cell (p:=⟨w.heap.size+3,3,none⟩) (by have:=HB.out;show w.heap.size+3<_;omega)).trans (HB11.out.cell 3);have hl1:w.heap.size+3<w1.heap.size:=(by have:=HB.out;have:=B1.out.size;omega);have hown2:=hidE (own_below HOWN.out B1.out);clear b1 hr2))
     all_goals
      go_wp2_with fail
      go_roundg (m-(i+1))
      case measure=>omega
      case rel=>exact zmL hlt HSU.out HB.out HOWN.out HROW.out HDL.out HKEEP.out HBEL.out hnx B1.out HR2.out rfl HO3.out HG3.out HT3.out HD1.out
    ·have himn:i=m:=by omega
     have hq5:kids R=done:=by
      rw[HQ5.out,<-hnb.out,List.take_of_length_le (by rw[HM.out];omega)]
     have hargs:=Built.args (t:=R) (show Built Su (w.heap.size+4) 29 wr (kids R) (.slice A' done.length c') from by rw[hq5];exact⟨vs,HOWN.out,HROW.out⟩);have HARG:=hidE hargs.2;have HLEN:=hidE hargs.1;obtain⟨y0,y1,y2,y3,y4,y5,y6,y7,y8⟩:=zaa hb11;obtain⟨z0,z1,z2,z3,z4,z5,z6,z7,z8⟩:=zaa hb10;clear hnb hown hrow hbel hb11 hb9 hb10 hkeep hdl hargs hq5;go_wp2_with fail
     try simp only[Exit.inBlock,Exit.then]
     refine bodyPost_ret (results_cell_row rfl _ _ (w.heap.size+2) 29 _ (0,0) _ rfl (zad _ _ _ _ HB10.out) Tryz.underlying29 rfl (by kernel_rfl)) rfl ?_;refine⟨zaf HBEL.out _ _ _ _ (by omega),K,X,Z,A',done.length,c',rfl,A',c',by rw[HQ2.out,HQ3.out,HQ4.out,HLEN.out],?_⟩;refine Args.keep (λg hg=>?_) (λg hg=>zaj _ _ _ _ _ _ _ ?_) _ _ HARG.out
     ·rcases hg with hg|hg
      ·exact .inl hg
      ·right;simp;omega
     ·rcases hg with hg|hg
      ·have:=HSU.out g hg;omega
      ·omega
theorem zom(k z:Int)(Y:ByteArray)(isP:Ty->Bool)(hP:AtP k z Y isP)(u:Ty)(n:Nat)(h6:n<=1000001):zkr k z Y isP u n:=by
 induction n with
 |zero=>intro t S Su v Ku Xu Zu Au mu cu w h;have:=zak t;omega
 |succ n ih=>exact zjG k z Y isP hP u n (by omega) (ih (by omega))
end Go.Proofs.YtaomnlcplmkokaaGreatDoor
