import Derived.Test.YtaomnlcplmkokaaGreatDoorBiY
import Derived.Laws.OwnMore
set_option maxHeartbeats 12800000
namespace Go.Proofs.YtaomnlcplmkokaaGreatDoor
open Go.RowKit Lx Tx
set_option maxRecDepth 100000
theorem zcW {P:Program} {ops:Array Oper} {o:Oper} {a:Act} {K:Act->World->Prop} {Q:Exit->Act->World->Prop} {E:Prop} {w:World}(hgd:o.guard=none)(s x:Operand)(t:TypeId)
  (ho:o.op=.call { callee:=.builtin .append,args:=#[s,x],argTypes:=#[t,t] })
  (N:Nat)(e:TypeId)(i:TypeInfo)(z:Value)(bytes:Nat)(ht:P.underlying t=some (.slice e))(hi:P.info? e=some i)(hz:i.zero=some z)
  (hsize:i.size=1)(hby:i.bytes=bytes)(hzs:z.cells.size=1)
  (v u:Value)(n m:Nat)(xs ys:List Value)(hs:a.eval s=v)(hx:a.eval x=u)(hv:w.ownsRow N e 1 v n xs)(hu:RowN w u ys)(hm:ys.length=m)(h1:∀y∈ys,y.oneCell'=true)
  (h63:n+m<=maxLen)(hbytes:(n+m)*bytes<=140737488355328)(hN:N<=w.heap.size)
  (h:∀A c w',w'.ownsRow N e 1 (.slice A (n+m) c) (n+m) (xs++ys)->Below N w w'->K (a.put o.dst (.slice A (n+m) c)) w'):if Region.wanted o (yielded ops a.tmps)=true then Oper.wp P o a w K Q else E:=by
 have hw:Region.wanted o (yielded ops a.tmps)=true:=by simp[Region.wanted,hgd]
 rw[if_pos hw]
 by_cases h0:ys=[]
 ·have hu2:=hu.2 h0
  subst h0;subst hu2;obtain rfl:m=0:=hm.symm;have hrun:=run_append_owned_none (P:=P) (w:=w) N t o.type e i 1 ht hi v n xs hv;obtain⟨A,c,rfl⟩:=zaz hv;have hk:=h A c w (by rw[List.append_nil];exact hv) (Below.refl _ w);unfold Oper.wp execOp;simp only[ho,resolve,invoke,builtin,Sem.run_bind,Sem.run_pure,Result.andThen_ok,List.map_toArray,List.map_cons,List.map_nil,hs,hx,hrun];exact hk
 ·obtain⟨A0,cap,hq,hc⟩:=hu.1
  obtain⟨g,rfl,hg,hcells⟩:=hc (List.length_pos_iff.2 h0);rw[hm]at hq
  subst hq;obtain⟨v',w',hr,h2,h3,-,-⟩:=run_append_own_at (P:=P) (w:=w) N t o.type e i z 1 bytes ht hi hz hsize hby hzs (by omega) v n xs hv ⟨g,0,none⟩ m cap ys (by omega)
   (λj y hy=>by rw[zaQ];exact hcells j y hy) h1 h63 hbytes hN
  obtain⟨A,c,rfl⟩:=zaz h2;have hk:=h A c w' h2 (Below.grown (Below.refl _ w) h3 hN (λk hk=>(hv.lt k hk).1));unfold Oper.wp execOp;simp only[ho,resolve,invoke,builtin,Sem.run_bind,Sem.run_pure,Result.andThen_ok,List.map_toArray,List.map_cons,List.map_nil,hs,hx,hr];exact hk
theorem zd4(a b:List (List UInt8)):strV a++strV b=strV (a++b):=by unfold strV;rw[List.map_append]
def butA(Y:ByteArray)(t u:Ty):List Name:=(Y.data.toList::u.free)++t.free
def APst(w:World)(r:Ty)(e:Ending)(w':World):Prop :=
 Below w.heap.size w w'/\∃K X Z A m c,e=.returned (.agg #[.int .i64 K,.string X,.int .i64 Z,.slice A m c])/\RdV (λg=>w.heap.size<=g/\g<w'.heap.size) w' r (.agg #[.int .i64 K,.string X,.int .i64 Z,.slice A m c])
theorem zqb {w V:World} {b n1 n2:Nat} {t:Ty} {K Z:Int} {X:ByteArray} {A:Option Addr} {m c:Nat}(hb:w.heap.size<=b)(h:Below w.heap.size w V)(h1:b<n1)(h2:n2<V.heap.size)(hr:RdV (λg=>n1<=g/\g<n2) V t (.agg #[.int .i64 K,.string X,.int .i64 Z,.slice A m c])):APst w t (.returned (.agg #[.int .i64 K,.string X,.int .i64 Z,.slice A m c])) ((((V.setCell ⟨b,0,none⟩ (.int .i64 K)).setCell ⟨b,1,none⟩ (.string X)).setCell ⟨b,2,none⟩ (.int .i64 Z)).setCell ⟨b,3,none⟩ (.slice A m c)) :=
 ⟨zaf h _ _ _ _ hb,K,X,Z,A,m,c,rfl,hr.keep (λg hg=>⟨by omega,by simp;omega⟩) (λg hg=>zaj _ _ _ _ _ _ _ (by omega))⟩
theorem zsi(Y:ByteArray)(t u:Ty)(h:t.size<=400000)(hu:u.size<=100000):0+t.size*((butA Y t u).length+2)<=10 ^ 15/\(butA Y t u).length<=1000000:=by
 have h1:=zaU t;have h3:=zaU u;have h2:(butA Y t u).length=u.free.length+1+t.free.length:=by unfold butA;simp;omega
 rw[h2]
 have h4:t.size*(u.free.length+1+t.free.length+2)<=400000*500003:=Nat.mul_le_mul h (by omega);exact⟨by omega,by omega⟩
set_option maxRecDepth 2000 in
theorem zmM(t u:Ty)(S Su:Nat->Prop)(Y:ByteArray)(v uv:Value)(w:World)(hs:t.size<=400000)(hsu:u.size<=100000)(hv:RdV S w t v)(hS:∀g,S g->g<w.heap.size)(hu:RdV Su w u uv)(hSu:∀g,Su g->g<w.heap.size):Calls Tryz.prog 67 #[v,uv,.string Y] w (APst w (numb 121 (butA Y t u) [] [] t 0).1):=by
 obtain⟨K,X,Z,A,m,c,rfl,-,-,-,-,-⟩:=hv.parts;obtain⟨Ku,Xu,Zu,Au,mu,cu,rfl,-,-,-,-,-⟩:=hu.parts;obtain⟨W0,hW⟩:∃W,((w.alloc (.cells #[.int .i64 K,.string X,.int .i64 Z,.slice A m c] 29)).alloc (.cells #[.int .i64 Ku,.string Xu,.int .i64 Zu,.slice Au mu cu] 29)).alloc (.cells #[.int .i64 0,.string ⟨#[]⟩,.int .i64 0,.slice none 0 0] 29)=W:=⟨_,rfl⟩;have k3:Blk W0 w.heap.size 29 #[.int .i64 K,.string X,.int .i64 Z,.slice A m c]:=hW▸zae _ _ _ _ (zae _ _ _ _ (heap_alloc_new _ _));have k4:Blk W0 (w.heap.size+1) 29 #[.int .i64 Ku,.string Xu,.int .i64 Zu,.slice Au mu cu]:=hW▸zae _ _ _ _ (alloc_at _ _ _ (by simp));have k6:Blk W0 (w.heap.size+2) 29 #[.int .i64 0,.string ⟨#[]⟩,.int .i64 0,.slice none 0 0]:=hW▸alloc_at _ _ _ (by simp);have hb0:Below w.heap.size w W0:=hW▸((((Below.refl _ w).alloc (Nat.le_refl _) _).alloc (by simp) _).alloc (by simp;omega) _);have hsz0:w.heap.size+2<W0.heap.size:=by rw[<-hW];simp
 have hv0:RdV S W0 t (.agg #[.int .i64 K,.string X,.int .i64 Z,.slice A m c]):=hv.keep (λ_ h=>h) (λg hg=>hb0.block g (hS g hg));have hu0:RdV Su W0 u (.agg #[.int .i64 Ku,.string Xu,.int .i64 Zu,.slice Au mu cu]):=hu.keep (λ_ h=>h) (λg hg=>hb0.block g (hSu g hg));have hS0:∀g,S g->g<W0.heap.size:=λg hg=>by have:=hS g hg;omega
 have hSu0:∀g,Su g->g<W0.heap.size:=λg hg=>by have:=hSu g hg;omega
 have F1:=hidE (λW (h:Below W0.heap.size W0 W)=>zbs u Su _ W (by omega) (hu0.keep (S':=Su) (λ_ h=>h) (λg hg=>h.block g (hSu0 g hg))) (λg hg=>by have:=hSu0 g hg;have:=h.size;omega));have F2:=hidE (λW (h:Below W0.heap.size W0 W)=>zbs t S _ W (by omega) (hv0.keep (S':=S) (λ_ h=>h) (λg hg=>h.block g (hS0 g hg))) (λg hg=>by have:=hS0 g hg;have:=h.size;omega));obtain⟨hk15,hbl⟩:=zsi Y t u hs hsu;have F3:=hidE (λW v' (h:Below W0.heap.size W0 W) (hr:RowV W v' (strV (butA Y t u)))=>(show Calls Tryz.prog 37 #[.agg #[.int .i64 K,.string X,.int .i64 Z,.slice A m c],.agg #[.slice none 0 0,.slice none 0 0],.string ⟨#[121]⟩,v',.int .i64 0] W (NPost (numb 121 (butA Y t u) [] [] t 0) W) from
  zhE 1000000 t S _ _ v' 121 (butA Y t u) [] [] 0 W (by omega) (hv0.keep (S':=S) (λ_ h=>h) (λg hg=>h.block g (hS0 g hg))) (λg hg=>by have:=hS0 g hg;have:=h.size;omega) ⟨_,_,rfl,RowN.nil W,RowN.nil W⟩ hr rfl (by show 0+t.size<=1000000;omega) hbl hk15))
 obtain⟨o,ho⟩:∃o,numb 121 (butA Y t u) [] [] t 0=o:=⟨_,rfl⟩;rw[ho]at F3 ⊢
 obtain⟨nu,hnu⟩:∃n,u.free.length=n:=⟨_,rfl⟩;obtain⟨nt,hnt⟩:∃n,t.free.length=n:=⟨_,rfl⟩;have hnu6:nu<=100000:=by have:=zaU u;omega
 have hnt6:nt<=400000:=by have:=zaU t;omega
 have HNU:Hid ((strV u.free).length=nu):=hidE (by rw[zaJ];exact hnu);have HNT:Hid ((strV t.free).length=nt):=hidE (by rw[zaJ];exact hnt);have HROW:Hid (([.string Y]++strV u.free)++strV t.free=strV (butA Y t u)):=hidE (by
  have e:([.string Y]:List Value)=strV [Y.data.toList]:=by simp[strV]
  rw[e,zd4,zd4];rfl)
 have SOF:Hid (∀W,Below W0.heap.size W0 W->(λW=>W.cell? ⟨w.heap.size,0,none⟩=some (.int .i64 K)/\W.cell? ⟨w.heap.size,1,none⟩=some (.string X)/\W.cell? ⟨w.heap.size,2,none⟩=some (.int .i64 Z)/\W.cell? ⟨w.heap.size,3,none⟩=some (.slice A m c)/\W.cell? ⟨w.heap.size+1,0,none⟩=some (.int .i64 Ku)/\W.cell? ⟨w.heap.size+1,1,none⟩=some (.string Xu)/\W.cell? ⟨w.heap.size+1,2,none⟩=some (.int .i64 Zu)/\W.cell? ⟨w.heap.size+1,3,none⟩=some (.slice Au mu cu)) W) :=
  hidE λW h=>by
   obtain⟨a0,a1,a2,a3,-,-,-,-,-⟩:=zaa (k3.below h (by omega));obtain⟨b0,b1,b2,b3,-,-,-,-,-⟩:=zaa (k4.below h (by omega));exact⟨a0,a1,a2,a3,b0,b1,b2,b3⟩
 have B0:Hid (Below W0.heap.size W0 W0.drew):=hidE (Below.refl _ W0).drew;have BA:Hid (Below W0.heap.size W0 (W0.alloc (.cells #[.string Y] 9)).drew):=hidE ((Below.refl _ W0).alloc (Nat.le_refl _) _).drew;have OA:Hid ((W0.alloc (.cells #[.string Y] 9)).drew.ownsRow W0.heap.size 9 1 (.slice (some ⟨W0.heap.size,0,none⟩) 1 1) 1 [.string Y]):=hidE (own_below (World.ownsRow_lit W0 #[.string Y] 1 (Nat.le_refl _) (by decide) rfl) (Below.refl _ _).drew);obtain⟨i0,hi0,hz0,hz1,hz2⟩:=info_parts zbi;have HB0:=hidE hb0;have K3:=hidE k3;have K6:=hidE k6;have HSZ:=hidE hsz0;clear hv hu hS hSu hs hsu k3 k4 k6 hb0 hsz0 hv0 hu0 hS0 hSu0 hk15 hbl ho hnu hnt;go_enter Tryz.func67,Tryz.ntmps67
 go_upto_region 1 with fail
 clear hW;go_cut [7] from 10 (λs7 wx=>Hid (RowV wx s7 (strV (butA Y t u))/\Below W0.heap.size W0 wx))
 case first =>
  go_region_held3 (λW=>W.cell? ⟨w.heap.size,0,none⟩=some (.int .i64 K)/\W.cell? ⟨w.heap.size,1,none⟩=some (.string X)/\W.cell? ⟨w.heap.size,2,none⟩=some (.int .i64 Z)/\W.cell? ⟨w.heap.size,3,none⟩=some (.slice A m c)/\W.cell? ⟨w.heap.size+1,0,none⟩=some (.int .i64 Ku)/\W.cell? ⟨w.heap.size+1,1,none⟩=some (.string Xu)/\W.cell? ⟨w.heap.size+1,2,none⟩=some (.int .i64 Zu)/\W.cell? ⟨w.heap.size+1,3,none⟩=some (.slice Au mu cu))
   (first|(with_reducible exact SOF.out _ B0.out)|(with_reducible exact SOF.out _ BA.out)|(with_reducible exact SOF.out _ B4.out)|(with_reducible exact SOF.out _ B3.out)|(with_reducible exact SOF.out _ B2.out)|(with_reducible exact SOF.out _ B1.out)|(with_reducible exact SOF.out _ (B1.out.alloc B1.out.size _))|(refine SOF.out _ ?_;repeat first|exact Below.refl _ _|(refine Below.alloc ?_ (by first|omega|(simp;done)|(simp;omega)) _)|(refine Below.drew ?_)))
   ((first
    |((with_reducible refine(F1.out _ B0.out).mono ?_);rintro e w1 ⟨v1,rfl,hr1,b1⟩;have R1:=hidE hr1;have B1:=hidE (zac B0.out b1);clear hr1 b1)
    |((with_reducible refine(F1.out _ BA.out).mono ?_);rintro e w1 ⟨v1,rfl,hr1,b1⟩;have R1:=hidE hr1;have O1:=hidE (own_below OA.out b1);have B1:=hidE (zac BA.out b1);clear hr1 b1)
    |((with_reducible refine(F2.out _ B2.out).mono ?_);rintro e w3 ⟨v3,rfl,hr3,b3⟩;have R3:=hidE hr3;have O3:=hidE (own_below O2.out b3);have B3:=hidE (zac B2.out b3);clear hr3 b3)
    |(refine zcW (by rfl) _ _ _ (by rfl) W0.heap.size 9 i0 _ 16 Tryz.underlying22 hi0 hz0 hz1 hz2 rfl _ _ 1 nu [.string Y] (strV u.free) (by rfl) (by rfl) O1.out R1.out HNU.out (zcg _) (by unfold maxLen;omega) (by omega) B1.out.size ?_;intro A2 c2 w2 ho2 hb2;have O2:=hidE ho2;have B2:=hidE (B1.out.trans hb2);clear ho2 hb2)
    |(refine zcW (by rfl) _ _ _ (by rfl) W0.heap.size 9 i0 _ 16 Tryz.underlying22 hi0 hz0 hz1 hz2 rfl _ _ 1 nu [.string Y] (strV u.free) (by rfl) (by rfl) (World.ownsRow_lit w1 #[.string Y] 1 B1.out.size (by decide) rfl) (R1.out.below ((Below.refl _ _).alloc (Nat.le_refl _) _)) HNU.out (zcg _) (by unfold maxLen;omega) (by omega) (by have:=B1.out.size;simp;omega) ?_;intro A2 c2 w2 ho2 hb2;have O2:=hidE ho2;have B2:=hidE ((B1.out.alloc B1.out.size _).trans hb2);clear ho2 hb2)
    |(refine zcW (by rfl) _ _ _ (by rfl) W0.heap.size 9 i0 _ 16 Tryz.underlying22 hi0 hz0 hz1 hz2 rfl _ _ (1+nu) nt ([.string Y]++strV u.free) (strV t.free) (by rfl) (by rfl) O3.out R3.out HNT.out (zcg _) (by unfold maxLen;omega) (by omega) B3.out.size ?_;intro A4 c4 w4 ho4 hb4;have O4:=hidE ho4;have B4:=hidE (B3.out.trans hb4);clear ho4 hb4)))
  all_goals
   go_wp2_with fail
   go_meet
   case rel=>exact hidE ⟨by have h:=RowV.of_own O4.out;rw[HROW.out]at h;exact h,B4.out⟩
 case rest =>
  obtain⟨hrow,hbx⟩:=hcut.out;obtain⟨A7,c7,hs7,-⟩:=id hrow;obtain⟨x0,x1,x2,x3,-,-,-,-,-⟩:=zaa (K3.out.below hbx (by have:=HSZ.out;omega));have HC:=hidE (F3.out wc _ hbx hrow);have HBX:=hidE hbx;clear hrow hbx hcut F1 F2 F3 SOF hs7;go_wp2_with fail
  refine HC.out.mono ?_;rintro e w5 ⟨b5,K2,X2,Z2,A2,m2,c2,rfl,hr5⟩;have HR5:=hidE hr5;have B5:=hidE (zac HBX.out b5);clear b5 hr5 HC x0 x1 x2 x3;go_upto_region 3 with fail
  obtain⟨V5,hV5⟩:∃V,w5.alloc (.cells #[.int .i64 K2,.string X2,.int .i64 Z2,.slice A2 m2 c2] 29)=V:=⟨_,rfl⟩;have hv8:Blk V5 w5.heap.size 29 #[.int .i64 K2,.string X2,.int .i64 Z2,.slice A2 m2 c2]:=hV5▸heap_alloc_new _ _;have hb8:Below W0.heap.size W0 V5:=hV5▸B5.out.alloc B5.out.size _;have hr8:RdV (λg=>wc.heap.size<=g/\g<w5.heap.size) V5 o.1 (.agg #[.int .i64 K2,.string X2,.int .i64 Z2,.slice A2 m2 c2]):=hV5▸HR5.out.keep (λ_ h=>h) (λg hg=>Below.heap_alloc _ _ _ hg.2);have hsz8:w5.heap.size<V5.heap.size:=by rw[<-hV5];simp
  rw[hV5]
  have hz6:=K6.out.below hb8 HSZ.out;have HZ6:=hidE hz6;have HR8:=hidE hr8;have HB8:=hidE hb8;have HS8:=hidE hsz8;obtain⟨y0,y1,y2,y3,y4,y5,y6,y7,y8⟩:=zaa hz6;obtain⟨q0,q1,q2,q3,-,-,-,-,-⟩:=zaa hv8;have hws:W0.heap.size<=wc.heap.size:=HBX.out.size;clear hz6 hv8 hb8 hr8 hV5 hsz8;go_wp2_with fail
  try simp only[Exit.inBlock,Exit.then]
  refine bodyPost_ret (results_cell_row rfl _ _ (w.heap.size+2) 29 _ (0,0) _ rfl (zad (.int .i64 K2) (.string X2) (.int .i64 Z2) (.slice A2 m2 c2) HZ6.out) Tryz.underlying29 rfl (by kernel_rfl)) rfl ?_;exact zqb (by have:=HSZ.out;omega) (HB0.out.trans (HB8.out.mono HB0.out.size)) (by have:=HSZ.out;omega) HS8.out HR8.out
set_option maxRecDepth 100000
theorem zry(Y:ByteArray):AtP 1 0 Y (isPV Y.data.toList):=by
 intro t;cases t with
 |var x =>
  show(((1:Nat):Int)==1 &&(⟨x.toArray⟩:ByteArray).toList==Y.toList &&((0:Nat):Int)==0)=(x==Y.data.toList);rw[Lib.toList_data,Lib.toList_data]
  simp
 |mt n=>rfl
 |con c l=>rfl
 |fn a b=>rfl
 |all x t=>rfl
theorem zqc {Su:Nat->Prop} {w V:World} {b n1 n2:Nat} {t:Ty} {K Z:Int} {X:ByteArray} {A:Option Addr} {m c:Nat}(hSu:∀g,Su g->g<w.heap.size)(hb:w.heap.size<=b)(h:Below w.heap.size w V)(h1:b<n1)(h2:n2<=V.heap.size)(hr:RdV (λg=>Su g\/n1<=g/\g<n2) V t (.agg #[.int .i64 K,.string X,.int .i64 Z,.slice A m c])):zmK Su w t (.returned (.agg #[.int .i64 K,.string X,.int .i64 Z,.slice A m c])) ((((V.setCell ⟨b,0,none⟩ (.int .i64 K)).setCell ⟨b,1,none⟩ (.string X)).setCell ⟨b,2,none⟩ (.int .i64 Z)).setCell ⟨b,3,none⟩ (.slice A m c)) :=
 ⟨zaf h _ _ _ _ hb,K,X,Z,A,m,c,rfl,hr.keep (λg hg=>hg.elim .inl (λhg=>.inr ⟨by omega,by simp;omega⟩)) (λg hg=>zaj _ _ _ _ _ _ _ (by rcases hg with hg|hg;(have:=hSu g hg;omega);omega))⟩
set_option maxRecDepth 2000 in
theorem zfg(t u:Ty)(S Su:Nat->Prop)(Y:ByteArray)(v uv:Value)(w:World)(hs:t.size<=400000)(hsu:u.size<=100000)(hv:RdV S w t v)(hS:∀g,S g->g<w.heap.size)(hu:RdV Su w u uv)(hSu:∀g,Su g->g<w.heap.size):Calls Tryz.prog 43 #[v,.string Y,uv] w (zmK Su w (raw (isPV Y.data.toList) u (numb 121 (butA Y t u) [] [] t 0).1)):=by
 obtain⟨K,X,Z,A,m,c,rfl,-,-,-,-,-⟩:=hv.parts;obtain⟨Ku,Xu,Zu,Au,mu,cu,rfl,-,-,-,-,-⟩:=hu.parts;obtain⟨W0,hW⟩:∃W,((w.alloc (.cells #[.int .i64 K,.string X,.int .i64 Z,.slice A m c] 29)).alloc (.cells #[.int .i64 Ku,.string Xu,.int .i64 Zu,.slice Au mu cu] 29)).alloc (.cells #[.int .i64 0,.string ⟨#[]⟩,.int .i64 0,.slice none 0 0] 29)=W:=⟨_,rfl⟩;have k3:Blk W0 w.heap.size 29 #[.int .i64 K,.string X,.int .i64 Z,.slice A m c]:=hW▸zae _ _ _ _ (zae _ _ _ _ (heap_alloc_new _ _));have k4:Blk W0 (w.heap.size+1) 29 #[.int .i64 Ku,.string Xu,.int .i64 Zu,.slice Au mu cu]:=hW▸zae _ _ _ _ (alloc_at _ _ _ (by simp));have k6:Blk W0 (w.heap.size+2) 29 #[.int .i64 0,.string ⟨#[]⟩,.int .i64 0,.slice none 0 0]:=hW▸alloc_at _ _ _ (by simp);have hb0:Below w.heap.size w W0:=hW▸((((Below.refl _ w).alloc (Nat.le_refl _) _).alloc (by simp) _).alloc (by simp;omega) _);have hsz0:w.heap.size+2<W0.heap.size:=by rw[<-hW];simp
 have hv0:RdV S W0 t (.agg #[.int .i64 K,.string X,.int .i64 Z,.slice A m c]):=hv.keep (λ_ h=>h) (λg hg=>hb0.block g (hS g hg));have hu0:RdV Su W0 u (.agg #[.int .i64 Ku,.string Xu,.int .i64 Zu,.slice Au mu cu]):=hu.keep (λ_ h=>h) (λg hg=>hb0.block g (hSu g hg));have hS0:∀g,S g->g<W0.heap.size:=λg hg=>by have:=hS g hg;omega
 have hSu0:∀g,Su g->g<W0.heap.size:=λg hg=>by have:=hSu g hg;omega
 have F1:=hidE (λW (h:Below W0.heap.size W0 W)=>zmM t u S Su Y _ _ W hs hsu (hv0.keep (S':=S) (λ_ h=>h) (λg hg=>h.block g (hS0 g hg))) (λg hg=>by have:=hS0 g hg;have:=h.size;omega)
  (hu0.keep (S':=Su) (λ_ h=>h) (λg hg=>h.block g (hSu0 g hg))) (λg hg=>by have:=hSu0 g hg;have:=h.size;omega))
 obtain⟨o,ho⟩:∃o,(numb 121 (butA Y t u) [] [] t 0).1=o:=⟨_,rfl⟩;have hos:o.size=t.size:=by rw[<-ho];exact zbP _ _ t _ _ _
 rw[ho]at F1 ⊢
 have F2:=hidE (λW V (S':Nat->Prop) (h:Below W0.heap.size W0 W) (hr:RdV S' W o V) (hS':∀g,S' g->g<W.heap.size)=>zom 1 0 Y (isPV Y.data.toList) (zry Y) u 400000 (by omega) o S' Su V Ku Xu Zu Au mu cu W (by omega) hr hS'
  (hu0.keep (S':=Su) (λ_ h=>h) (λg hg=>h.block g (hSu0 g hg))) (λg hg=>by have:=hSu0 g hg;have:=h.size;omega))
 obtain⟨r,hr⟩:∃r,raw (isPV Y.data.toList) u o=r:=⟨_,rfl⟩;rw[hr]at F2 ⊢
 have SOF:Hid (∀W,Below W0.heap.size W0 W->(λW=>W.cell? ⟨w.heap.size,0,none⟩=some (.int .i64 K)/\W.cell? ⟨w.heap.size,1,none⟩=some (.string X)/\W.cell? ⟨w.heap.size,2,none⟩=some (.int .i64 Z)/\W.cell? ⟨w.heap.size,3,none⟩=some (.slice A m c)/\W.cell? ⟨w.heap.size+1,0,none⟩=some (.int .i64 Ku)/\W.cell? ⟨w.heap.size+1,1,none⟩=some (.string Xu)/\W.cell? ⟨w.heap.size+1,2,none⟩=some (.int .i64 Zu)/\W.cell? ⟨w.heap.size+1,3,none⟩=some (.slice Au mu cu)) W) :=
  hidE λW h=>by
   obtain⟨a0,a1,a2,a3,-,-,-,-,-⟩:=zaa (k3.below h (by omega));obtain⟨b0,b1,b2,b3,-,-,-,-,-⟩:=zaa (k4.below h (by omega));exact⟨a0,a1,a2,a3,b0,b1,b2,b3⟩
 have SOT:Hid (∀W,Below W0.heap.size W0 W->∀x0 x1 x2 x3,(λW=>W.cell? ⟨w.heap.size,0,none⟩=some (.int .i64 K)/\W.cell? ⟨w.heap.size,1,none⟩=some (.string X)/\W.cell? ⟨w.heap.size,2,none⟩=some (.int .i64 Z)/\W.cell? ⟨w.heap.size,3,none⟩=some (.slice A m c)/\W.cell? ⟨w.heap.size+1,0,none⟩=some (.int .i64 Ku)/\W.cell? ⟨w.heap.size+1,1,none⟩=some (.string Xu)/\W.cell? ⟨w.heap.size+1,2,none⟩=some (.int .i64 Zu)/\W.cell? ⟨w.heap.size+1,3,none⟩=some (.slice Au mu cu)) ((((W.setCell ⟨w.heap.size+2,0,none⟩ x0).setCell ⟨w.heap.size+2,1,none⟩ x1).setCell ⟨w.heap.size+2,2,none⟩ x2).setCell ⟨w.heap.size+2,3,none⟩ x3)) :=
  hidE λW h x0 x1 x2 x3=>by
   have e3:Blk W _ _ _:=k3.below h (by omega);have e4:Blk W _ _ _:=k4.below h (by omega);have f3:Blk ((((W.setCell ⟨w.heap.size+2,0,none⟩ x0).setCell ⟨w.heap.size+2,1,none⟩ x1).setCell ⟨w.heap.size+2,2,none⟩ x2).setCell ⟨w.heap.size+2,3,none⟩ x3) _ _ _:=(zaj W (w.heap.size+2) x0 x1 x2 x3 w.heap.size (by omega)).trans e3;have f4:Blk ((((W.setCell ⟨w.heap.size+2,0,none⟩ x0).setCell ⟨w.heap.size+2,1,none⟩ x1).setCell ⟨w.heap.size+2,2,none⟩ x2).setCell ⟨w.heap.size+2,3,none⟩ x3) _ _ _:=(zaj W (w.heap.size+2) x0 x1 x2 x3 (w.heap.size+1) (by omega)).trans e4;obtain⟨a0,a1,a2,a3,-,-,-,-,-⟩:=zaa f3;obtain⟨b0,b1,b2,b3,-,-,-,-,-⟩:=zaa f4;exact⟨a0,a1,a2,a3,b0,b1,b2,b3⟩
 have B0:Hid (Below W0.heap.size W0 W0.drew):=hidE (Below.refl _ W0).drew;have HB0:=hidE hb0;have K6:=hidE k6;have HSZ:=hidE hsz0;have HSU:=hidE hSu;clear hv hu hS hSu hs hsu k3 k4 k6 hb0 hsz0 hv0 hu0 hS0 hSu0 ho hos hr;go_enter Tryz.func43,Tryz.ntmps43
 go_upto_region 1 with fail
 clear hW;go_region_held3 (λW=>W.cell? ⟨w.heap.size,0,none⟩=some (.int .i64 K)/\W.cell? ⟨w.heap.size,1,none⟩=some (.string X)/\W.cell? ⟨w.heap.size,2,none⟩=some (.int .i64 Z)/\W.cell? ⟨w.heap.size,3,none⟩=some (.slice A m c)/\W.cell? ⟨w.heap.size+1,0,none⟩=some (.int .i64 Ku)/\W.cell? ⟨w.heap.size+1,1,none⟩=some (.string Xu)/\W.cell? ⟨w.heap.size+1,2,none⟩=some (.int .i64 Zu)/\W.cell? ⟨w.heap.size+1,3,none⟩=some (.slice Au mu cu))
  (first|(with_reducible exact SOF.out _ B0.out)|(with_reducible exact SOF.out _ B2.out)|(with_reducible exact SOF.out _ B1.out)|(exact SOT.out _ B2.out _ _ _ _))
  ((first
   |((with_reducible refine(F1.out _ B0.out).mono ?_);rintro e w1 ⟨b1,K1,X1,Z1,A1,m1,c1,rfl,hr1⟩;have R1:=hidE hr1;have B1:=hidE (zac B0.out b1);clear hr1 b1)
   |((with_reducible refine(F2.out _ _ _ B1.out R1.out (λ_ h=>h.2)).mono ?_);rintro e w2 ⟨b2,K2,X2,Z2,A2,m2,c2,rfl,hr2⟩;have R2:=hidE hr2;have B2:=hidE (zac B1.out b2);have hz6:=K6.out.below B2.out HSZ.out;obtain⟨y0,y1,y2,y3,y4,y5,y6,y7,y8⟩:=zaa hz6;have HZ6:=hidE hz6;clear hr2 b2 hz6)))
 all_goals
  go_wp2_with fail
  try simp only[Exit.inBlock,Exit.then]
  refine bodyPost_ret (results_cell_row rfl _ _ (w.heap.size+2) 29 _ (0,0) _ rfl (zad (.int .i64 K2) (.string X2) (.int .i64 Z2) (.slice A2 m2 c2) HZ6.out) Tryz.underlying29 rfl (by kernel_rfl)) rfl ?_;exact zqc HSU.out (by omega) (HB0.out.trans (B2.out.mono HB0.out.size)) (by have:=HSZ.out;have:=B1.out.size;omega) (Nat.le_refl _) R2.out
end Go.Proofs.YtaomnlcplmkokaaGreatDoor
