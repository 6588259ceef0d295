import Derived.Test.YtfafilmklhnngaaGreatDoorBkW
import Derived.Test.YtfafilmklhnngaaGreatDoorBkAB
set_option maxHeartbeats 12800000
namespace Go.Proofs.YtfafilmklhnngaaGreatDoor
open Go.RowKit Lx Tx Go.Maps Go.WideMaps
set_option maxRecDepth 100000
theorem zdZ {w:World} {B:Nat} {e:TypeId} {n:Nat} {v:Value} {l:List Nat}(h:w.ownsRow B e 1 v n (l.map PK))(hn:n≠0):∃g cap cur,v=.slice (some ⟨g,0,none⟩) n cap/\B<=g/\w.heap[g]?=some (.cells cur e (0,0))/\∀(j q:Nat),l[j]?=some q->cur[j]?=some (PK q):=by
 rcases h.2 with⟨_,h0⟩|⟨g,cap,cur,hv,hg,hb,_,_,_,ht⟩
 ·exact absurd h0 hn
 ·refine⟨g,cap,cur,hv,hg,hb,λj q hq=>?_⟩
  have hj:j<n:=by
   have h1:=h.1;rw[AR,CH]at h1
   have:=(Aw.1 hq).1;omega
  have:=Az (λm=>m[j]?) ht;simp only[CH,List.getElem?_take,hj,CA,AY,hq,BG,BC]at this;exact this
theorem HeadI.app {mv mu pb:Nat} {t:Ty} {A:Option Addr} {m c:Nat} {w w3:World} {G:Nat->Option Nd} {D:Nat->Dy} {V:Name->Option Nat} {U:Nat->Option Nat} {v:Value} {ids:List Nat} {aN:List (List Nat)} {K Z:Int} {X:ByteArray}
  {G':Nat->Option Nd} {D':Nat->Dy} {V':Name->Option Nat} {U':Nat->Option Nat} {wr:World} (h:HeadI mv mu pb (kids t) K X Z (.slice A m c) (.pointer none) w3 G D V U m v ids aN G' D' V' U' wr)
  (hK:K=(kd t:Nat))(hX:X=nmB t)(hZ:Z=(nn t:Nat))(ed:(kids t).length=m)(ht:kd t=3\/kd t=4)(hb:Below w.heap.size w w3)(mH:w.heap.size<=pb)(fu:pb<w3.heap.size)(hG:∀q x,G q=some x->q<w.heap.size):PartPost mv mu G D V U t w (.returned (.pointer (some ⟨pb,0,none⟩))) wr:=by
 subst hK hX hZ;have cY:=hb.size;have fO:=h.chg.size;have gI:nn t=0:=by cases t <;> first|rfl|(simp[kd]at ht)
 have tq:G' pb=none:=by
  rw[(h.ext.old pb fu).1]
  cases hq:G pb with
  |none=>rfl
  |some x=>have:=hG pb x hq;omega
 have af:∀q x,G' q=some x->q≠pb:=λq x hx e=>by rw[e,tq]at hx;cases hx
 refine⟨pb,pb::aN.flatten,upn G' pb (some ⟨kd t,nmB t,0,ids,none,false⟩),upn D' pb ⟨.slice A m c,false,0,v.ownBlock.getD 0⟩,V',U',rfl,⟨h.lays.ms,h.lays.mi,λq x hx=>?_,λy q hy=>?_,λn q hn=>?_,λq x hx=>?_⟩,⟨λq hq=>?_,λq x hx jf=>?_,h.ext.vx,h.ext.ux,λy q hy=>?_⟩,?_,?_,λq hq=>?_,?_⟩
 ·by_cases hqp:q=pb
  ·subst hqp
   rw[zal]at hx ⊢
   injection hx with hx;subst hx;obtain⟨A',c',hv⟩:=zam h.own;refine⟨A',c',?_,λhk=>?_⟩
   ·have:=h.blk
    rw[hv]at this
    simp only[h.li];rw[gI]at this
    exact this
   ·have sN:m≠0:=λe=>hk (by
     have h1:ids.length=0:=by rw[h.li,e]
     exact AD h1)
    obtain⟨g,cap,cur,kC,hg,aa,aJ⟩:=zdZ h.own sN;rw[kC]at hv
    injection hv with dm _ _;refine⟨?_,cur,?_,aJ⟩
    ·rw[<-dm,kC];rfl
    ·rw[kC];exact aa
  ·rw[zac _ _ _ _ hqp]at hx ⊢
   exact h.lays.pd q x hx
 ·obtain⟨nw,h1⟩:=h.lays.vn y q hy
  exact⟨nw,by rw[zac _ _ _ _ (af q _ h1)];exact h1⟩
 ·have h1:=h.lays.un n q hn
  rw[zac _ _ _ _ (af q _ h1)];exact h1
 ·by_cases hqp:q=pb
  ·rw[hqp,zal];exact⟨rfl,rfl,_,_,_,rfl⟩
  ·rw[zac _ _ _ _ hqp]at hx ⊢;exact h.lays.dn q x hx
 ·have:q≠pb:=by omega
  rw[zac _ _ _ _ this,zac _ _ _ _ this]
  exact h.ext.old q (by omega)
 ·by_cases hqp:q=pb
  ·subst hqp
   rw[zal]at hx ⊢
   injection hx with hx;subst hx;refine⟨by omega,λhk=>?_⟩;have sN:m≠0:=λe=>hk (by
    have h1:ids.length=0:=by rw[h.li,e]
    exact AD h1)
   obtain⟨g,cap,cur,kC,hg,-,-⟩:=zdZ h.own sN;rw[kC]
   show w.heap.size<=g;omega
  ·rw[zac _ _ _ _ hqp]at hx ⊢
   by_cases sx:q<w3.heap.size
   ·rw[(h.ext.old q sx).1]at hx
    have:=hG q x hx;omega
   ·obtain⟨a,b⟩:=h.ext.new q x hx (by omega)
    exact⟨a,λhk=>by have:=b hk;omega⟩
 ·rcases h.ext.vn y q hy with h1|⟨h1,h2⟩
  ·exact .inl h1
  ·exact .inr ⟨h1,by rw[zac _ _ _ _ (af q _ h2)];exact h2⟩
 ·exact .app _ _ _ ids aN ht (zal _ _ _) (by rw[h.li,ed]) (by rw[h.ln,ed]) λi q u ns h1 h2 h3=>(h.kid i q u ns h1 h2 h3).more (λq x hx=>by rw[zac _ _ _ _ (af q x hx)];exact hx) (λ_ _ h=>h) (λ_ _ h=>h)
 ·rw[A6]
  exact⟨λhm=>by have:=h.rg pb hm;omega,h.nd⟩
 ·rcases An.1 hq with e|e
  ·rw[e];omega
  ·have:=h.rg q e;omega
 ·exact(Chg.of_below hb).trans' h.chg (λk hk e=>by
   rcases e with e|e|e
   ·exact .inl e
   ·exact .inr e
   ·omega)
def zoM(mv mu pb m:Nat)(kl:List Ty)(K:Int)(X:ByteArray)(Z:Int)(TA con:Value)(w3:World)(G1:Nat->Option Nd)(D1:Nat->Dy)(V1:Name->Option Nat)(U1:Nat->Option Nat)(gg:Nat)(vi:Value)(wr:World):Prop :=
 ∃(i:Nat) (v:Value) (ids:List Nat) (aN:List (List Nat)) (G':Nat->Option Nd) (D':Nat->Dy) (V':Name->Option Nat) (U':Nat->Option Nat),gg=m-i/\vi=.int .i64 i/\i<=m/\HeadI mv mu pb kl K X Z TA con w3 G1 D1 V1 U1 i v ids aN G' D' V' U' wr
theorem infoPtr:(Tryz.prog.info? 75).map (λi=>(i.zero,i.size,i.bytes))=some (some (.pointer none),1,8):=by kernel_rfl
theorem zgi(n b mv mu:Nat)(S:Nat->Prop)(HT:ziR n b mv mu S)(t:Ty)(v:Value)(w:World)(sl mk sr:Value)(G:Nat->Option Nd)(D:Nat->Dy)(V:Name->Option Nat)(U:Nat->Option Nat)(hn:t.size<=n+1)(jl:kd t=3\/kd t=4)
  (hb:Blk w b 85 #[sl,.map (some mv),.map (some mu),mk,sr])(hl:Lays w mv mu G D V U)(af:mv≠mu)(hv:RdV S w t v)(hS:∀g,S g->g<w.heap.size/\g≠mv/\g≠mu)(az:Nm t)(aD:t.size<=1000000):Calls Tryz.prog 33 #[.pointer (some ⟨b,0,none⟩),v] w (PartPost mv mu G D V U t w):=by
 obtain⟨K,X,Z,A,m,c,rfl,hK,hX,hZ,ed,ha⟩:=hv.parts;have hlen:=zbw t;have fU:m<1000000:=by omega
 have d1:((K:Int)==1)=false:=by rw[hK];rcases jl with e|e <;> rw[e] <;> rfl
 have d2:((K:Int)==2)=false:=by rw[hK];rcases jl with e|e <;> rw[e] <;> rfl
 have d5:((K:Int)==5)=false:=by rw[hK];rcases jl with e|e <;> rw[e] <;> rfl
 have xh:mv<w.heap.size:=MapK.lt hl.ms;have hmu:mu<w.heap.size:=MapK.lt hl.mi;have xY:b≠mv:=λe=>MapK.no hl.ms (e▸hb);have hbu:b≠mu:=λe=>MapK.no hl.mi (e▸hb);have bJ:=hb.lt;have lE:∀q x,G q=some x->q<w.heap.size:=λq x hx=>hl.lt hx;obtain⟨i0,bm,bO,bD,bj⟩:=info_parts infoPtr;obtain⟨w3,kA⟩:∃w3,(w.alloc (.cells #[.int .i64 K,.string X,.int .i64 Z,.slice A m c] 37)).alloc (.cells #[.int .i64 K,.string X,.int .i64 Z,.slice A m c,.slice none 0 0,.pointer none,.bool false,.bool false,.int .i64 0] 132)=w3:=⟨_,rfl⟩;have nI:Below w.heap.size w w3:=by rw[<-kA];exact((Below.refl _ w).alloc (Ai _) _).alloc (by simp) _
 have cY:w3.heap.size=w.heap.size+2:=by rw[<-kA];simp
 have lC:Blk w3 w.heap.size 37 #[.int .i64 K,.string X,.int .i64 Z,.slice A m c]:=by rw[<-kA];exact Blk.alloc (heap_alloc_new w _) _
 have yw:Blk w3 (w.heap.size+1) 132 #[.int .i64 K,.string X,.int .i64 Z,.slice A m c,.slice none 0 0,.pointer none,.bool false,.bool false,.int .i64 0]:=by
  rw[<-kA]
  have:=heap_alloc_new (w.alloc (.cells #[.int .i64 K,.string X,.int .i64 Z,.slice A m c] 37)) (.cells #[.int .i64 K,.string X,.int .i64 Z,.slice A m c,.slice none 0 0,.pointer none,.bool false,.bool false,.int .i64 0] 132);rw[show(w.alloc (.cells #[.int .i64 K,.string X,.int .i64 Z,.slice A m c] 37)).heap.size=w.heap.size+1 by simp]at this
  exact this
 have fH:Lays w3 mv mu G D V U:=hl.keep λk hk=>nI.block k hk;have j8:G (w.heap.size+1)=none:=by
  cases hq:G (w.heap.size+1) with
  |none=>rfl
  |some x=>have:=lE _ x hq;omega
 have H0:=CS (HeadI.zero (kl:=kids t) yw fH);have HB:=CS hb;have gb:=CS nI;have l9:=CS cY;have eR:=CS lC;have HA:=CS ha;have HS:=CS hS;have mc:Hid (∀i (hi:i<(kids t).length),Nm (kids t)[i]):=CS λi hi=>zcH az i hi;have iC:=CS ed;have HK:=CS hK;have HX:=CS hX;have HZ:=CS hZ;have HN:=CS hn;have HGL:=CS lE;have oT:=CS j8;have za:=CS kA;clear hv hb hl hS az hK hX hZ ed ha hn lE nI cY lC yw fH j8 kA aD hlen;go_enter_defers Tryz.func33,Tryz.ntmps33
 go_wp2_with fail
 rw[za.out]
 clear za;go_loopg [58] m (λgg vi wr=>zoM mv mu (w.heap.size+1) m (kids t) K X Z (.slice A m c) (.pointer none) w3 G D V U gg vi wr)
 case atStart=>exact⟨0,_,_,_,_,_,_,_,rfl,rfl,by omega,H0.out⟩
 case round =>
  obtain⟨i,v,ids,aN,G',D',V',U',rfl,rfl,hi,hh⟩:=hrel;have fO:=hh.chg.size;have cY:=l9.out;by_cases ah:i<m
  ·have ic:∀g,S g->wr.heap[g]?=w.heap[g]?:=λg hg=>(hh.chg.block g (by have:=(HS.out g hg).1;omega) (λh=>by
    rcases h with h|h|h
    ·exact(HS.out g hg).2.1 h
    ·exact(HS.out g hg).2.2 h
    ·have:=(HS.out g hg).1;omega)).trans (gb.out.block g (HS.out g hg).1)
   obtain⟨g,u,K1,X1,Z1,A1,n1,c1,rfl,hg,e0,e1,e2,e3,hu,aK,aD,-,-⟩:=zce (w':=wr) HA.out iC.out ah ic;have ik:=zbV e0;have ei:u.size<=n:=by have:=HN.out;omega
   have cK:Nm u:=by obtain⟨fx,rfl⟩:=hu;exact mc.out i fx
   have wq:(kids t)[i]?=some u:=by obtain⟨fx,rfl⟩:=hu;exact Ak fx
   have cD:Blk wr b 85 #[sl,.map (some mv),.map (some mu),mk,sr]:=Blk.chg (HB.out.below gb.out bJ) hh.chg (λh=>by rcases h with h|h|h;exact xY h;exact hbu h;omega);obtain⟨wa,mq⟩:∃wa,(wr.alloc (.cells #[.int .i64 K1,.string X1,.int .i64 Z1,.slice A1 n1 c1] 37)).drew=wa:=⟨_,rfl⟩;have iM:Below wr.heap.size wr wa:=by rw[<-mq];exact((Below.refl _ wr).alloc (Ai _) _).drew
   have qM:wa.heap.size=wr.heap.size+1:=by rw[<-mq];show(wr.alloc _).heap.size=_;simp
   have aq:=HT u (.agg #[.int .i64 K1,.string X1,.int .i64 Z1,.slice A1 n1 c1]) wa sl mk sr G' D' V' U' ei (cD.below iM cD.lt) (hh.lays.keep λk hk=>iM.block k hk) af
    (aK.keep (λ_ h=>h) (λg hg=>iM.block g (by have:=(HS.out g hg).1;omega))) (λg hg=>⟨by have:=(HS.out g hg).1;omega,(HS.out g hg).2⟩) cK
   rw[<-mq]at aq
   have av:=CS aq;have oV:=CS iM;have HH:=CS hh;have HUI:=CS wq;have HWA:=CS mq;have zj:=CS qM;have q4:wr.cell? ⟨w.heap.size+1,4,none⟩=some v:=hh.blk.cell 4;have cS:w.heap.size+1<wr.heap.size:=by omega
   have wY:∀k,v.ownBlock=some k->w3.heap.size<=k/\k<wr.heap.size:=λk hk=>⟨(zab hh.own k hk).1,(zab hh.own k hk).2.1⟩;have qp:=CS wY;clear aK hu cK aq iM hh wq cD mq qM wY;go_upto_region 13 with fail
   refine wp_region_noPanic ?_;go_region_law (first
    |(go_simp;(with_reducible refine av.out.mono ?_);rintro e w5 cZ;obtain⟨p,oD,fR⟩:=cZ.split;subst oD;rw[HWA.out]at fR;have br:=fR.chg;have ej:=br.size;rw[zj.out]at ej;have eo:Blk w5 (w.heap.size+1) 132 _:=Blk.chg (HH.out.blk.below oV.out HH.out.blk.lt) br (λh=>by rcases h with h|h <;> omega);have z4:w5.cell? ⟨w.heap.size+1,4,none⟩=some v:=eo.cell 4;have y4:(w5.alloc (.cells #[.pointer (some ⟨p,0,none⟩)] 75)).cell? ⟨w.heap.size+1,4,none⟩=some v:=(Blk.alloc eo _).cell 4;have cz:w5.ownsRow w3.heap.size 75 1 v i (ids.map PK):=zan HH.out.own (λk hk=>(br.block k (by rw[zj.out];have:=qp.out k hk;omega) (λh=>by have:=qp.out k hk;rcases h with h|h <;> omega)).trans (oV.out.block k (qp.out k hk).2));have oa:Hid ((w5.alloc (.cells #[.pointer (some ⟨p,0,none⟩)] 75)).ownsRow w3.heap.size 75 1 v i (ids.map PK)):=CS (cz.alloc _);have dz:Hid (∀j u,[Value.pointer (some ⟨p,0,none⟩)][j]?=some u->(w5.alloc (.cells #[.pointer (some ⟨p,0,none⟩)] 75)).cell? ((⟨w5.heap.size,0,none⟩:Addr).add j)=some u):=CS (zas _ _ _ _ rfl);have j9:=CS fR;have tX:=CS eo;clear fR br eo cz)
    |(refine step_append_lies _ (by rfl) _ _ _ (by rfl) w3.heap.size 75 i0 _ 1 8 Tryz.underlying130 bm bO bD bj rfl (by decide) _ i (ids.map PK) (by rfl) oa.out ⟨w5.heap.size,0,none⟩ 1 1 [.pointer (some ⟨p,0,none⟩)] rfl rfl dz.out (by intro u hu;simp at hu;subst hu;rfl) (by omega) (by unfold maxLen;omega) (by omega) (by simp;omega) _ rfl ?_;intro g6 c6 w6 dh ae bF sS;have eY:Blk w6 (w.heap.size+1) 132 _:=(Blk.alloc tX.out (.cells #[.pointer (some ⟨p,0,none⟩)] 75)).grown ae (λe=>by have:=qp.out _ e.symm;omega);have v4:w6.cell? ⟨w.heap.size+1,4,none⟩=some v:=eY.cell 4;have f4:=eY.frozen 4;have l6:=eY.lt;have oe:=CS dh;have uo:=CS ae;have fq:=CS bF;clear dh ae bF eY))
   all_goals
    refine NoPanic.normal ?_;go_wp2_with fail
    go_roundg (m-(i+1))
    case measure=>omega
    case rel =>
     obtain⟨mj,dN,G2,D2,V2,U2,hh2⟩:=HH.out.next (by omega) (by omega) (by omega) (by omega) (by omega) oT.out HUI.out oV.out j9.out oe.out uo.out (by have:=fq.out;simp at this;exact this);exact⟨i+1,_,mj,dN,G2,D2,V2,U2,rfl,by go_num,by omega,hh2⟩
  ·have dD:i=m:=by omega
   subst dD;have HH:=CS hh;clear hh;go_wp2_with fail
   exact⟨_,results_tmp (show Tryz.f33.results=#[.tmp 4] from rfl) _ _ _,HH.out.app HK.out HX.out HZ.out iC.out jl gb.out (by omega) (by omega) HGL.out⟩
set_option maxRecDepth 100000
theorem HeadI.all {mv mu pb cb:Nat} {x:Name} {t:Ty} {A:Option Addr} {m c:Nat} {w w3:World} {G:Nat->Option Nd} {D:Nat->Dy} {V:Name->Option Nat} {U:Nat->Option Nat} {v:Value} {ids:List Nat} {aN:List (List Nat)} {K Z:Int} {X:ByteArray} {dc:Dy}
  {G':Nat->Option Nd} {D':Nat->Dy} {V':Name->Option Nat} {U':Nat->Option Nat} {wr w7:World}
  (h:HeadI mv mu pb [t] K X Z (.slice A m c) (.pointer (some ⟨cb,0,none⟩)) w3 (upn G cb (some ⟨1,⟨x.toArray⟩,0,[],none,true⟩)) (upn D cb dc) (upn V x (some cb)) U m v ids aN G' D' V' U' wr)
  (hK:K=(5:Nat))(hX:X=⟨x.toArray⟩)(hZ:Z=(0:Nat))(ed:1=m)(hl:Lays w mv mu G D V U)(af:mv≠mu)(hb:Chg (only mv) w w3)(mH:w.heap.size<=pb)(fu:pb<w3.heap.size)(bc:w.heap.size<=cb)(cw:cb<w3.heap.size)(hpc:pb≠cb)
  (qW:MapS w7 mv (λy=>if y=x then V x else V' y))(vc:Chg (only mv) wr w7):PartPost mv mu G D V U (.all x t) w (.returned (.pointer (some ⟨pb,0,none⟩))) w7:=by
 subst hK hX hZ ed;have hG:∀q x,G q=some x->q<w.heap.size:=λq x hx=>hl.lt hx;have cY:=hb.size;have fO:=h.chg.size;have kG:=vc.size;have tq:G' pb=none:=by
  rw[(h.ext.old pb fu).1,zac _ _ _ _ hpc]
  cases hq:G pb with
  |none=>rfl
  |some x=>have:=hG pb x hq;omega
 have hcb:G' cb=some ⟨1,⟨x.toArray⟩,0,[],none,true⟩:=by rw[(h.ext.old cb cw).1,zal]
 have pJ:∀q x,G' q=some x->q≠pb:=λq x hx e=>by rw[e,tq]at hx;cases hx
 have hG'G:∀q y,q<w.heap.size->G' q=some y->G q=some y:=λq y hq hy=>by
  rw[(h.ext.old q (by omega)).1,zac _ _ _ _ (by omega)]at hy;exact hy
 have hVx:V' x=some cb:=h.ext.vx x cb (zal _ _ _);have hV':∀y p,V' y=some p->y≠x->V y=some p\/V y=none/\G' p=some ⟨1,⟨y.toArray⟩,0,[],none,false⟩:=λy p hy bR=>by
  rcases h.ext.vn y p hy with h1|⟨h1,h2⟩
  ·rw[zac _ _ _ _ bR]at h1;exact .inl h1
  ·rw[zac _ _ _ _ bR]at h1;exact .inr ⟨h1,h2⟩
 obtain⟨q1,na⟩:∃q1,ids=[q1]:=by
  have:=h.li;match ids,this with
  |[q1],_=>exact⟨q1,rfl⟩
 obtain⟨n1,hnss⟩:∃n1,aN=[n1]:=by
  have:=h.ln;match aN,this with
  |[n1],_=>exact⟨n1,rfl⟩
 subst na hnss;have hpd7:=h.lays.pd.chg1 h.lays.ms vc;have sK:MapI w7 mu U':=MapK.keep h.lays.mi (vc.block _ (MapK.lt h.lays.mi) (λe=>af (show mu=mv from e).symm)) (λ_ h=>h);refine⟨pb,pb::cb::n1,upn G' pb (some ⟨5,⟨x.toArray⟩,0,[q1],some cb,false⟩),upn D' pb ⟨.slice A 1 c,false,0,v.ownBlock.getD 0⟩,(λy=>if y=x then V x else V' y),U',rfl,⟨qW,sK,λq y hy=>?_,λy q hy=>?_,λn q hn=>?_,λq y hy=>?_⟩,⟨λq hq=>?_,λq y hy jf=>?_,λy q hy=>?_,h.ext.ux,λy q hy=>?_⟩,?_,?_,λq hq=>?_,?_⟩
 ·by_cases hqp:q=pb
  ·subst hqp
   rw[zal]at hy ⊢
   injection hy with hy;subst hy;obtain⟨g,cap,cur,kC,hg,aa,aJ⟩:=zdZ h.own (by omega);have hqm:q≠mv:=λe=>by
    have hb:=h.blk;rw[e]at hb
    exact MapK.no h.lays.ms hb
   have ef:Blk w7 q 132 _:=Blk.chg h.blk vc hqm;refine⟨some ⟨g,0,none⟩,cap,?_,λ_=>⟨by rw[kC];rfl,cur,?_,aJ⟩⟩
   ·rw[kC]at ef;exact ef
   ·rw[kC]
    refine(vc.block g (Aj.1 aa).1 (λe=>?_)).trans aa;have e:g=mv:=e;rw[e]at aa
    exact MapK.no h.lays.ms aa
  ·rw[zac _ _ _ _ hqp]at hy ⊢
   exact hpd7 q y hy
 ·by_cases bR:y=x
  ·rw[Aq bR]at hy
   obtain⟨nw,h1⟩:=hl.vn x q hy;have hq:=hG q _ h1;refine⟨nw,?_⟩;rw[zac _ _ _ _ (by omega),(h.ext.old q (by omega)).1,zac _ _ _ _ (by omega),bR]
   exact h1
  ·rw[Am bR]at hy
   obtain⟨nw,h1⟩:=h.lays.vn y q hy;exact⟨nw,by rw[zac _ _ _ _ (pJ q _ h1)];exact h1⟩
 ·have h1:=h.lays.un n q hn
  rw[zac _ _ _ _ (pJ q _ h1)];exact h1
 ·by_cases hqp:q=pb
  ·rw[hqp,zal];exact⟨rfl,rfl,_,_,_,rfl⟩
  ·rw[zac _ _ _ _ hqp]at hy ⊢;exact h.lays.dn q y hy
 ·have h1:q≠pb:=by omega
  have h2:q≠cb:=by omega
  have:=h.ext.old q (by omega);rw[zac _ _ _ _ h2,zac _ _ _ _ h2]at this
  rw[zac _ _ _ _ h1,zac _ _ _ _ h1]
  exact this
 ·by_cases hqp:q=pb
  ·subst hqp
   rw[zal]at hy ⊢
   injection hy with hy;subst hy;refine⟨by omega,λ_=>?_⟩;obtain⟨g,cap,cur,kC,hg,-,-⟩:=zdZ h.own (by omega);rw[kC]
   show w.heap.size<=g;omega
  ·rw[zac _ _ _ _ hqp]at hy ⊢
   by_cases sx:q<w3.heap.size
   ·have h4:=h.ext.old q sx
    rw[h4.1]at hy
    by_cases hqc:q=cb
    ·rw[hqc,zal]at hy
     injection hy with hy;subst hy;exact⟨by omega,λhk=>absurd rfl hk⟩
    ·rw[zac _ _ _ _ hqc]at hy
     have:=hG q y hy;omega
   ·obtain⟨a,b⟩:=h.ext.new q y hy (by omega)
    exact⟨by omega,λhk=>by have:=b hk;omega⟩
 ·show(if y=x then V x else V' y)=some q
  by_cases bR:y=x
  ·rw[Aq bR,<-bR];exact hy
  ·rw[Am bR]
   exact h.ext.vx y q (by rw[zac _ _ _ _ bR];exact hy)
 ·by_cases bR:y=x
  ·rw[Aq bR]at hy
   rw[bR];exact .inl hy
  ·rw[Am bR]at hy
   rcases hV' y q hy bR with h1|⟨h1,h2⟩
   ·exact .inl h1
   ·exact .inr ⟨h1,by rw[zac _ _ _ _ (pJ q _ h2)];exact h2⟩
 ·refine .all _ _ _ _ q1 cb n1 (zal _ _ _) (by rw[zac _ _ _ _ (λe=>hpc e.symm)];exact hcb) ?_
  refine(h.kid 0 q1 t n1 rfl rfl rfl).more (λq y hy=>by rw[zac _ _ _ _ (pJ q y hy)];exact hy) (λ_ _ h=>h) (λy q hy=>?_);by_cases bR:y=x
  ·rw[bR,zal,<-hVx,<-bR];exact hy
  ·rw[zac _ _ _ _ bR,Am bR];exact hy
 ·have pC:=h.rg
  have dQ:=h.nd;simp at pC dQ;rw[A6,A6]
  refine⟨λhm=>?_,λhm=>by have:=pC cb hm;omega,dQ⟩;rcases An.1 hm with e|e
  ·exact hpc e
  ·have:=pC pb e;omega
 ·have pC:=h.rg
  simp at pC;rcases An.1 hq with e|e
  ·rw[e];omega
  ·rcases An.1 e with e|e
   ·rw[e];omega
   ·have:=pC q e;omega
 ·refine((hb.mono (M1:=λg=>g=mv\/g=mu) (λk _ e=>.inl e)).trans' h.chg (λk hk e=>?_)).trans' vc (λk _ e=>.inl e)
  rcases e with e|e|e
  ·exact .inl e
  ·exact .inr e
  ·omega
theorem zkY(n b mv mu:Nat)(S:Nat->Prop)(HT:ziR n b mv mu S)(x:Name)(t:Ty)(v:Value)(w:World)(sl mk sr:Value)(G:Nat->Option Nd)(D:Nat->Dy)(V:Name->Option Nat)(U:Nat->Option Nat)(hn:(Ty.all x t).size<=n+1)
  (hb:Blk w b 85 #[sl,.map (some mv),.map (some mu),mk,sr])(hl:Lays w mv mu G D V U)(af:mv≠mu)(hv:RdV S w (.all x t) v)(hS:∀g,S g->g<w.heap.size/\g≠mv/\g≠mu)(az:Nm (.all x t)):Calls Tryz.prog 33 #[.pointer (some ⟨b,0,none⟩),v] w (PartPost mv mu G D V U (.all x t) w):=by
 obtain⟨K,X,Z,A,m,c,rfl,hK,hX,hZ,ed,ha⟩:=hv.parts;replace hK:K=5:=hK;replace hX:X=⟨x.toArray⟩:=hX;replace hZ:Z=0:=hZ;replace ed:1=m:=ed;subst hK hX hZ ed;have xh:mv<w.heap.size:=MapK.lt hl.ms;have hmu:mu<w.heap.size:=MapK.lt hl.mi;have xY:b≠mv:=λe=>MapK.no hl.ms (e▸hb);have hbu:b≠mu:=λe=>MapK.no hl.mi (e▸hb);have bJ:=hb.lt;obtain⟨i0,bm,bO,bD,bj⟩:=info_parts infoPtr;obtain⟨k1,k2,k3,iH,cL⟩:=zcw w (.cells #[.int .i64 5,.string ⟨x.toArray⟩,.int .i64 0,.slice A 1 c] 37) (.cells #[.int .i64 5,.string ⟨x.toArray⟩,.int .i64 0,.slice A 1 c,.slice none 0 0,.pointer (some ⟨w.heap.size+1+1,0,none⟩),.bool false,.bool false,.int .i64 0] 132) (.cells #[.int .i64 1,.string ⟨x.toArray⟩,.int .i64 0,.slice none 0 0,.slice none 0 0,.pointer none,.bool true,.bool false,.int .i64 0] 132);obtain⟨wb,hwb⟩:∃wb,((w.alloc (.cells #[.int .i64 5,.string ⟨x.toArray⟩,.int .i64 0,.slice A 1 c] 37)).alloc (.cells #[.int .i64 5,.string ⟨x.toArray⟩,.int .i64 0,.slice A 1 c,.slice none 0 0,.pointer (some ⟨w.heap.size+1+1,0,none⟩),.bool false,.bool false,.int .i64 0] 132)).alloc (.cells #[.int .i64 1,.string ⟨x.toArray⟩,.int .i64 0,.slice none 0 0,.slice none 0 0,.pointer none,.bool true,.bool false,.int .i64 0] 132)=wb:=⟨_,rfl⟩;rw[hwb]at k1 k2 k3 iH cL
 have xw:Lays wb mv mu G D V U:=hl.keep λk hk=>cL.block k hk;have qg:Blk wb b 85 #[sl,.map (some mv),.map (some mu),mk,sr]:=hb.below cL bJ;have zS:Hid (Calls Tryz.prog 69 #[.map (some mv),.string ⟨x.toArray⟩,.pointer (some ⟨w.heap.size+1+1,0,none⟩)] wb.drew λe w'=>e=.returned (ziQ wb.heap.size)/\CovP w' wb.heap.size mv x (V x)/\MapS w' mv (upn V x (some (w.heap.size+1+1)))/\Chg (only mv) wb w'):=CS (by
  refine(zn4 mv V x (w.heap.size+1+1) wb.drew (MapK.keep xw.ms rfl (λ_ h=>h))).mono ?_;rintro e w' ⟨h1,h2,h3,h4⟩;exact⟨h1,h2,h3,⟨h4.os,h4.tape,h4.output,h4.size,h4.block⟩⟩)
 have q1:wb.cell? ⟨w.heap.size,1,none⟩=some (.string ⟨x.toArray⟩):=Blk.cell k1 1;have q2:wb.cell? ⟨b,1,none⟩=some (.map (some mv)):=qg.cell 1;have q3:wb.cell? ⟨w.heap.size+1,5,none⟩=some (.pointer (some ⟨w.heap.size+1+1,0,none⟩)):=Blk.cell k2 5;have ck:Hid (∀W:World,Chg (only mv) wb W->W.cell? ⟨w.heap.size,1,none⟩=some (.string ⟨x.toArray⟩)/\W.cell? ⟨b,1,none⟩=some (.map (some mv))/\W.cell? ⟨w.heap.size+1,5,none⟩=some (.pointer (some ⟨w.heap.size+1+1,0,none⟩))):=CS λW hc=>by
  have j1:=Blk.chg k1 hc (by unfold only;omega);have j2:=Blk.chg qg hc xY;have j3:=Blk.chg k2 hc (by unfold only;omega);exact⟨j1.cell 1,j2.cell 1,j3.cell 5⟩
 have HB:=CS hb;have HA:=CS ha;have HS:=CS hS;have mc:Hid (Nm t):=CS (zcH az 0 (by show 0<1;omega));have HN:=CS hn;have HL:=CS hl;have HLB:=CS xw;have qD:=CS cL;have HSB:=CS iH;have K1:=CS k1;have K2:=CS k2;have K3:=CS k3;have HWB:=CS hwb;clear hv hb hl hS az ha hn k1 k2 k3 iH cL hwb xw qg;go_enter_defers Tryz.func33,Tryz.ntmps33
 go_upto_region 9 with fail
 rw[HWB.out]
 clear HWB;go_region_held3 (λW:World=>W.cell? ⟨w.heap.size,1,none⟩=some (.string ⟨x.toArray⟩)/\W.cell? ⟨b,1,none⟩=some (.map (some mv))/\W.cell? ⟨w.heap.size+1,5,none⟩=some (.pointer (some ⟨w.heap.size+1+1,0,none⟩))) (first|(exact⟨q1,q2,q3⟩)|(exact ck.out _ C5.out))
  (((with_reducible refine zS.out.mono ?_);rintro e w3 ⟨rfl,oO,qF,c5⟩;unfold ziQ;have r6:=CS oO;have yT:=CS qF;have C5:=CS c5;clear oO qF c5))
 all_goals
  clear ck q1 q2 q3 zS;have cY:=C5.out.size;have iH:=HSB.out;have ko:Hid (Chg (only mv) w w3):=CS ((Chg.of_below qD.out).trans' C5.out (λ_ _ h=>h));have lC:Blk w3 w.heap.size 37 #[.int .i64 5,.string ⟨x.toArray⟩,.int .i64 0,.slice A 1 c]:=Blk.chg K1.out C5.out (by unfold only;omega);have yw:Blk w3 (w.heap.size+1) 132 #[.int .i64 5,.string ⟨x.toArray⟩,.int .i64 0,.slice A 1 c,.slice none 0 0,.pointer (some ⟨w.heap.size+1+1,0,none⟩),.bool false,.bool false,.int .i64 0]:=Blk.chg K2.out C5.out (by unfold only;omega);have hC3:Blk w3 (w.heap.size+1+1) 132 #[.int .i64 1,.string ⟨x.toArray⟩,.int .i64 0,.slice none 0 0,.slice none 0 0,.pointer none,.bool true,.bool false,.int .i64 0]:=Blk.chg K3.out C5.out (by unfold only;omega);have lE:∀q y,G q=some y->q<w.heap.size:=λq y hy=>HL.out.lt hy;have fH:Lays w3 mv mu (upn G (w.heap.size+1+1) (some ⟨1,⟨x.toArray⟩,0,[],none,true⟩)) (upn D (w.heap.size+1+1) ⟨.slice none 0 0,false,0,0⟩) (upn V x (some (w.heap.size+1+1))) U:=by
   have bB:=HLB.out.pd.chg1 HLB.out.ms C5.out;refine⟨yT.out,MapK.keep HLB.out.mi (C5.out.block _ (MapK.lt HLB.out.mi) (λe=>af (show mu=mv from e).symm)) (λ_ h=>h),λq y hy=>?_,λy q hy=>?_,λk q hq=>?_,λq y hy=>?_⟩
   ·by_cases hq:q=w.heap.size+1+1
    ·subst hq
     rw[zal]at hy ⊢
     injection hy with hy;subst hy;exact⟨none,0,hC3,λhk=>absurd rfl hk⟩
    ·rw[zac _ _ _ _ hq]at hy ⊢
     exact bB q y hy
   ·by_cases bR:y=x
    ·rw[bR,zal]at hy
     injection hy with hy;subst hy;exact⟨true,by rw[zal,bR]⟩
    ·rw[zac _ _ _ _ bR]at hy
     obtain⟨nw,h1⟩:=HL.out.vn y q hy;have:=lE q _ h1;exact⟨nw,by rw[zac _ _ _ _ (by omega)];exact h1⟩
   ·have h1:=HL.out.un k q hq
    have:=lE q _ h1;rw[zac _ _ _ _ (by omega)];exact h1
   ·by_cases hq:q=w.heap.size+1+1
    ·rw[hq,zal];exact⟨rfl,rfl,_,_,_,rfl⟩
    ·rw[zac _ _ _ _ hq]at hy ⊢;exact HL.out.dn q y hy
  have j8:upn G (w.heap.size+1+1) (some ⟨1,⟨x.toArray⟩,0,[],none,true⟩) (w.heap.size+1)=none:=by
   rw[zac _ _ _ _ (by omega)]
   cases hq:G (w.heap.size+1) with
   |none=>rfl
   |some y=>have:=lE _ y hq;omega
  have H0:=CS (HeadI.zero (kl:=[t]) yw fH);have yb:=HB.out;have hB3:Blk w3 b 85 #[sl,.map (some mv),.map (some mu),mk,sr]:=Blk.chg yb ko.out xY;have gb:=CS hB3;have l9:=CS cY;have eR:=CS lC;have oT:=CS j8;obtain⟨t0,t1,t2,t3,-,-,-,-,-⟩:=zaa lC;have hsb1:w.heap.size+3<=wb.heap.size:=by omega
  clear cY lC yw hC3 fH j8 yb hB3 lE K1 K2 K3 iH;go_wp2_with fail
  go_loopg [58] 1 (λgg vi wr=>zoM mv mu (w.heap.size+1) 1 [t] 5 ⟨x.toArray⟩ 0 (.slice A 1 c) (.pointer (some ⟨w.heap.size+1+1,0,none⟩)) w3 (upn G (w.heap.size+1+1) (some ⟨1,⟨x.toArray⟩,0,[],none,true⟩)) (upn D (w.heap.size+1+1) ⟨.slice none 0 0,false,0,0⟩) (upn V x (some (w.heap.size+1+1))) U gg vi wr)
  case atStart=>exact⟨0,_,_,_,_,_,_,_,rfl,rfl,by omega,H0.out⟩
  case round =>
   obtain⟨i,v,ids,aN,G',D',V',U',rfl,rfl,hi,hh⟩:=hrel;have fO:=hh.chg.size;have cY:=l9.out;by_cases ah:i<1
   ·have ic:∀g,S g->wr.heap[g]?=w.heap[g]?:=λg hg=>(hh.chg.block g (by have:=(HS.out g hg).1;omega) (λh=>by
     rcases h with h|h|h
     ·exact(HS.out g hg).2.1 h
     ·exact(HS.out g hg).2.2 h
     ·have:=(HS.out g hg).1;omega)).trans (ko.out.block g (HS.out g hg).1 (HS.out g hg).2.1)
    obtain⟨g,u,K1,X1,Z1,A1,n1,c1,rfl,hg,e0,e1,e2,e3,hu,aK,aD,-,-⟩:=zce (w':=wr) HA.out (show(kids (Ty.all x t)).length=1 from rfl) ah ic;have ik:=zbV e0;have ei:u.size<=n:=by have:=HN.out;omega
    have hut:u=t:=by
     obtain⟨fx,e⟩:=hu;have h0:i=0:=by omega
     subst h0;exact e.symm
    have cK:Nm u:=by rw[hut];exact mc.out
    have wq:[t][i]?=some u:=by
     have h0:i=0:=by omega
     rw[h0,hut];rfl
    have cD:Blk wr b 85 #[sl,.map (some mv),.map (some mu),mk,sr]:=Blk.chg gb.out hh.chg (λh=>by rcases h with h|h|h;exact xY h;exact hbu h;omega);obtain⟨wa,mq⟩:∃wa,(wr.alloc (.cells #[.int .i64 K1,.string X1,.int .i64 Z1,.slice A1 n1 c1] 37)).drew=wa:=⟨_,rfl⟩;have iM:Below wr.heap.size wr wa:=by rw[<-mq];exact((Below.refl _ wr).alloc (Ai _) _).drew
    have qM:wa.heap.size=wr.heap.size+1:=by rw[<-mq];show(wr.alloc _).heap.size=_;simp
    have aq:=HT u (.agg #[.int .i64 K1,.string X1,.int .i64 Z1,.slice A1 n1 c1]) wa sl mk sr G' D' V' U' ei (cD.below iM cD.lt) (hh.lays.keep λk hk=>iM.block k hk) af
     (aK.keep (λ_ h=>h) (λg hg=>iM.block g (by have:=(HS.out g hg).1;omega))) (λg hg=>⟨by have:=(HS.out g hg).1;omega,(HS.out g hg).2⟩) cK
    rw[<-mq]at aq
    have av:=CS aq;have oV:=CS iM;have HH:=CS hh;have HUI:=CS wq;have HWA:=CS mq;have zj:=CS qM;have q4:wr.cell? ⟨w.heap.size+1,4,none⟩=some v:=hh.blk.cell 4;have cS:w.heap.size+1<wr.heap.size:=by omega
    have wY:∀k,v.ownBlock=some k->w3.heap.size<=k/\k<wr.heap.size:=λk hk=>⟨(zab hh.own k hk).1,(zab hh.own k hk).2.1⟩;have qp:=CS wY;clear aK hu hut cK aq iM hh wq cD mq qM wY;go_upto_region 13 with fail
    refine wp_region_noPanic ?_;go_region_law (first
     |(go_simp;(with_reducible refine av.out.mono ?_);rintro e w5 cZ;obtain⟨p,oD,fR⟩:=cZ.split;subst oD;rw[HWA.out]at fR;have br:=fR.chg;have ej:=br.size;rw[zj.out]at ej;have eo:Blk w5 (w.heap.size+1) 132 _:=Blk.chg (HH.out.blk.below oV.out HH.out.blk.lt) br (λh=>by rcases h with h|h <;> omega);have z4:w5.cell? ⟨w.heap.size+1,4,none⟩=some v:=eo.cell 4;have y4:(w5.alloc (.cells #[.pointer (some ⟨p,0,none⟩)] 75)).cell? ⟨w.heap.size+1,4,none⟩=some v:=(Blk.alloc eo _).cell 4;have cz:w5.ownsRow w3.heap.size 75 1 v i (ids.map PK):=zan HH.out.own (λk hk=>(br.block k (by rw[zj.out];have:=qp.out k hk;omega) (λh=>by have:=qp.out k hk;rcases h with h|h <;> omega)).trans (oV.out.block k (qp.out k hk).2));have oa:Hid ((w5.alloc (.cells #[.pointer (some ⟨p,0,none⟩)] 75)).ownsRow w3.heap.size 75 1 v i (ids.map PK)):=CS (cz.alloc _);have dz:Hid (∀j u,[Value.pointer (some ⟨p,0,none⟩)][j]?=some u->(w5.alloc (.cells #[.pointer (some ⟨p,0,none⟩)] 75)).cell? ((⟨w5.heap.size,0,none⟩:Addr).add j)=some u):=CS (zas _ _ _ _ rfl);have j9:=CS fR;have tX:=CS eo;clear fR br eo cz)
     |(refine step_append_lies _ (by rfl) _ _ _ (by rfl) w3.heap.size 75 i0 _ 1 8 Tryz.underlying130 bm bO bD bj rfl (by decide) _ i (ids.map PK) (by rfl) oa.out ⟨w5.heap.size,0,none⟩ 1 1 [.pointer (some ⟨p,0,none⟩)] rfl rfl dz.out (by intro u hu;simp at hu;subst hu;rfl) (by omega) (by unfold maxLen;omega) (by omega) (by simp;omega) _ rfl ?_;intro g6 c6 w6 dh ae bF sS;have eY:Blk w6 (w.heap.size+1) 132 _:=(Blk.alloc tX.out (.cells #[.pointer (some ⟨p,0,none⟩)] 75)).grown ae (λe=>by have:=qp.out _ e.symm;omega);have v4:w6.cell? ⟨w.heap.size+1,4,none⟩=some v:=eY.cell 4;have f4:=eY.frozen 4;have l6:=eY.lt;have oe:=CS dh;have uo:=CS ae;have fq:=CS bF;clear dh ae bF eY))
    all_goals
     refine NoPanic.normal ?_;go_wp2_with fail
     go_roundg (1-(i+1))
     case measure=>omega
     case rel =>
      obtain⟨mj,dN,G2,D2,V2,U2,hh2⟩:=HH.out.next (by omega) (by omega) (by omega) (by omega) (by omega) oT.out HUI.out oV.out j9.out oe.out uo.out (by have:=fq.out;simp at this;exact this);exact⟨i+1,_,mj,dN,G2,D2,V2,U2,rfl,by go_num,by omega,hh2⟩
   ·have dD:i=1:=by omega
    subst dD;have HH:=CS hh;clear hh;go_wp2_with fail
    have hkc:∀k,wb.heap.size<=k->k<=wb.heap.size+3->wr.heap[k]?=w3.heap[k]?:=λk h1 h2=>HH.out.chg.block k (by have:=r6.out.2.2.2.lt;omega) (λh=>by rcases h with h|h|h <;> omega);refine leaves_cons (f:=116) (args:=#[.pointer (some ⟨wb.heap.size+3,0,none⟩),.pointer (some ⟨wb.heap.size+2,0,none⟩),.pointer (some ⟨wb.heap.size,0,none⟩),.pointer (some ⟨wb.heap.size+1,0,none⟩)]) (by simp) (by simp[go_sem]) ?_;refine(zkW wb.heap.size mv V' x (V x) .returning wr (r6.out.keep hkc) HH.out.lays.ms).mono ?_;rintro e u' w7 ⟨rfl,rfl,m7,c7⟩;exact⟨_,results_tmp (show Tryz.f33.results=#[.tmp 4] from rfl) _ _ _,HeadI.all HH.out rfl rfl rfl rfl HL.out af ko.out (by omega) (by omega) (by omega) (by omega) (by omega) m7 c7⟩
theorem zms(b mv mu:Nat)(S:Nat->Prop)(n:Nat)(hn:n<=1000000):ziR n b mv mu S:=by
 induction n with
 |zero=>intro t v w sl mk sr G D V U h;rw[zaj]at h;omega
 |succ n ih =>
  have HT:=ih (by omega);intro t v w sl mk sr G D V U aD hb hl af hv hS az;cases t with
  |var x =>
   obtain⟨A,c,rfl,_⟩:=hv;exact zkX b mv mu x A 0 c w sl mk sr G D V U hb hl af
  |mt k =>
   obtain⟨A,c,rfl,_⟩:=hv;exact zmr b mv mu k A 0 c w sl mk sr G D V U hb hl af
  |con d l=>exact zgi n b mv mu S HT _ v w sl mk sr G D V U aD (.inl rfl) hb hl af hv hS az (by omega)
  |fn a d=>exact zgi n b mv mu S HT _ v w sl mk sr G D V U aD (.inr rfl) hb hl af hv hS az (by omega)
  |all x t=>exact zkY n b mv mu S HT x t v w sl mk sr G D V U aD hb hl af hv hS az
end Go.Proofs.YtfafilmklhnngaaGreatDoor
namespace Go.Proofs.YtfafilmklhnngaaGreatDoor
open Go.RowKit Lx Tx Go.Maps Go.WideMaps
set_option maxRecDepth 100000
inductive Root (K:Nat->Option Nat):Nat->Nat->Nat->Prop
 |nil (p:Nat):K p=none->Root K p 0 p
 |step (p q n r:Nat):K p=some q->Root K q n r->Root K p (n+1) r
theorem Root.det {K:Nat->Option Nat} {p n r m s:Nat}(h:Root K p n r)(k:Root K p m s):n=m/\r=s:=by
 induction h generalizing m s with
 |nil p hp =>
  cases k with
  |nil _ _=>exact⟨rfl,rfl⟩
  |step _ q n _ hq _=>rw[hp]at hq;cases hq
 |step p q n r hp _ ih =>
  cases k with
  |nil _ h=>rw[hp]at h;cases h
  |step _ q' n' _ eV hr =>
   rw[hp]at eV
   injection eV with eV;subst eV;obtain⟨a,b⟩:=ih hr;exact⟨by rw[a],b⟩
theorem Root.end {K:Nat->Option Nat} {p n r:Nat}(h:Root K p n r):K r=none:=by
 induction h with
 |nil p h=>exact h
 |step _ _ _ _ _ _ ih=>exact ih
theorem Root.short {K:Nat->Option Nat} {p q f:Nat}(hp:K p=some q)(hq:K q=some f)(n:Nat):∀x m r,m<=n->Root K x m r->∃m',m'<=m/\Root (upn K p (some f)) x m' r:=by
 induction n with
 |zero =>
  intro x m r hm h;cases h with
  |nil _ h =>
   refine⟨0,Ai _,.nil _ ?_⟩;rw[zac _ _ _ _ (λe=>by rw[e,hp]at h;cases h)];exact h
  |step _ _ _ _ _ _=>omega
 |succ n ih =>
  intro x m r hm h;cases h with
  |nil _ h =>
   refine⟨0,Ai _,.nil _ ?_⟩;rw[zac _ _ _ _ (λe=>by rw[e,hp]at h;cases h)];exact h
  |step _ y k _ hy hr =>
   by_cases oZ:x=p
   ·subst oZ
    rw[hp]at hy
    injection hy with hy;subst hy;cases hr with
    |nil _ h=>rw[hq]at h;cases h
    |step _ z j _ hz hr =>
     rw[hq]at hz
     injection hz with hz;subst hz;obtain⟨j',hj,kJ⟩:=ih f j r (by omega) hr;exact⟨j'+1,by omega,.step _ f _ _ (zal _ _ _) kJ⟩
   ·obtain⟨j',hj,kJ⟩:=ih y k r (by omega) hr
    exact⟨j'+1,by omega,.step _ y _ _ (by rw[zac _ _ _ _ oZ];exact hy) kJ⟩
structure Knw (w:World) (mk:Nat) (K:Nat->Option Nat) (hd:Nat->Nat):Prop where
 mp:MapQ w mk K
 rep:∀p,∃n,Root K p n (hd p)
 laid:∀x y,K x=some y->LaidQ w x/\LaidQ w y
theorem Knw.none_iff {w:World} {mk:Nat} {K:Nat->Option Nat} {hd:Nat->Nat}(h:Knw w mk K hd)(p:Nat):K p=none↔hd p=p:=by
 obtain⟨n,hn⟩:=h.rep p;constructor
 ·intro hp
  exact((Root.nil (K:=K) p hp).det hn).2.symm
 ·intro hp
  rw[hp]at hn
  exact hn.end
theorem Knw.idem {w:World} {mk:Nat} {K:Nat->Option Nat} {hd:Nat->Nat}(h:Knw w mk K hd)(p:Nat):hd (hd p)=hd p:=by
 obtain⟨n,hn⟩:=h.rep p;exact(h.none_iff _).1 hn.end
theorem Knw.keep {w w':World} {mk:Nat} {K:Nat->Option Nat} {hd:Nat->Nat}(h:Knw w mk K hd)(hb:w'.heap[mk]?=w.heap[mk]?)(hk:∀x,LaidQ w x->LaidQ w' x):Knw w' mk K hd :=
 ⟨MapK.keep h.mp hb hk,h.rep,λx y hx=>⟨hk _ (h.laid x y hx).1,hk _ (h.laid x y hx).2⟩⟩
theorem LaidQ.chg {w w':World} {mk x:Nat} {K:Nat->Option Nat}(h:LaidQ w x)(hm:MapQ w mk K)(hc:Chg (only mk) w w'):LaidQ w' x:=by
 obtain⟨cs,hx⟩:=h;exact⟨cs,(hc.block x (Aj.1 hx).1 (λe=>by
  have e:x=mk:=e;rw[e]at hx
  exact MapK.no hm hx)).trans hx⟩
def HeadPost(mk:Nat)(hd:Nat->Nat)(p:Nat)(w:World)(e:Ending)(w':World):Prop :=
 e=.returned (.pointer (some ⟨hd p,0,none⟩))/\∃K',Knw w' mk K' hd/\Chg (only mk) w w'/\w'.heap.size=w.heap.size/\LaidQ w' (hd p)
def OptS(o:Option Nat)(v5 v6:Value):Prop:=(o=none/\v5=.pointer none/\v6=.bool false)\/∃q,o=some q/\v5=.pointer (some ⟨q,0,none⟩)/\v6=.bool true
theorem optS(o:Option Nat):OptS o (optV o) (.bool o.isSome):=by
 cases o with
 |none=>exact .inl ⟨rfl,rfl,rfl⟩
 |some q=>exact .inr ⟨q,rfl,rfl,rfl⟩
def zql(mk:Nat)(hd:Nat->Nat)(p:Nat)(w:World)(gg:Nat)(v1 v5 v6:Value)(wr:World):Prop :=
 ∃(p' n:Nat) (K':Nat->Option Nat),gg=n/\v1=.pointer (some ⟨p',0,none⟩)/\OptS (K' p') v5 v6/\Knw wr mk K' hd/\Root K' p' n (hd p)/\LaidQ wr p'/\Chg (only mk) w wr/\wr.heap.size=w.heap.size
theorem zfe(b mk:Nat)(K:Nat->Option Nat)(hd:Nat->Nat)(p:Nat)(w:World)(c0 c1 c2 c4:Value)(hb:Blk w b 85 #[c0,c1,c2,.map (some mk),c4])(hk:Knw w mk K hd)(hp:LaidQ w p):Calls Tryz.prog 71 #[.pointer (some ⟨b,0,none⟩),.pointer (some ⟨p,0,none⟩)] w (HeadPost mk hd p w):=by
 obtain⟨n0,gI⟩:=hk.rep p;have bV:(Instr.lookup 83 (.map (some mk)) (.pointer (some ⟨p,0,none⟩)) true).run Tryz.prog w=.ok (.tuple #[optV (K p),.bool (K p).isSome]) w :=
  MapK.look hk.mp keyQ Tryz.underlying83 (zfd _) p hp
 have q3:w.cell? ⟨b,3,none⟩=some (.map (some mk)):=hb.cell 3;have rC:b≠mk:=λe=>by rw[e]at hb;exact MapK.no hk.mp hb
 have HB:=CS hb;have HK:=CS hk;have HP:=CS hp;have HN0:=CS gI;obtain⟨o5,gW⟩:∃o,optV (K p)=o:=⟨_,rfl⟩;obtain⟨o6,mN⟩:∃o,(K p).isSome=o:=⟨_,rfl⟩;rw[gW,mN]at bV
 have ke:=CS gW;have oe:=CS mN;clear hb hk hp gI gW mN;go_enter Tryz.func71,Tryz.ntmps71
 go_wp2_with fail
 go_loopg [1,5,6] n0 (λgg v1 v5 v6 wr=>zql mk hd p w gg v1 v5 v6 wr)
 case atStart=>exact⟨p,n0,K,rfl,rfl,by have:=optS (K p);rw[ke.out,oe.out]at this;exact this,HK.out,HN0.out,HP.out,Chg.refl _ _,rfl⟩
 case round =>
  obtain⟨p',n,K',kY,rfl,hos,fV,hr,df,hc,hs⟩:=hrel;clear bV q3;have cD:=Blk.chg HB.out hc rC;have q3:wr.cell? ⟨b,3,none⟩=some (.map (some mk)):=cD.cell 3;rcases hos with⟨hq,rfl,rfl⟩|⟨q,hq,rfl,rfl⟩
  ·skip
   have HR:Hid (p'=hd p):=CS ((Root.nil (K:=K') p' hq).det hr).2;have HK':=CS fV;have HP':=CS df;have HC:=CS hc;have HS:=CS hs;clear hq hr fV df hc hs kY cD;go_wp2_with fail
   go_ret
   exact⟨by rw[HR.out];rfl,K',HK'.out,HC.out,HS.out,by rw[<-HR.out];exact HP'.out⟩
  ·skip
   obtain⟨-,jf⟩:=fV.laid p' q hq;have kU:(Instr.lookup 83 (.map (some mk)) (.pointer (some ⟨q,0,none⟩)) true).run Tryz.prog wr=.ok (.tuple #[optV (K' q),.bool (K' q).isSome]) wr :=
    MapK.look fV.mp keyQ Tryz.underlying83 (zfd _) q jf
   obtain⟨n',eu,hrq⟩:∃n',n=n'+1/\Root K' q n' (hd p):=by
    cases hr with
    |nil _ h=>rw[hq]at h;cases h
    |step _ q' n' _ eV kJ =>
     rw[hq]at eV
     injection eV with eV;subst eV;exact⟨n',rfl,kJ⟩
   cases hf:K' q with
   |none =>
    rw[hf]at kU
    replace kU:(Instr.lookup 83 (.map (some mk)) (.pointer (some ⟨q,0,none⟩)) true).run Tryz.prog wr=.ok (.tuple #[.pointer none,.bool false]) wr:=kU;have HK':=CS fV;have zF:=CS jf;have HC:=CS hc;have HS:=CS hs;have HRQ:=CS hrq;have HF:=CS hf;have ui:Hid (n'<gk):=CS (by omega);clear hq hr fV df hc hs cD jf hrq hf kY eu;go_wp2_with fail
    go_roundg n'
    case measure=>exact ui.out
    case rel=>exact⟨q,n',K',rfl,rfl,.inl ⟨HF.out,rfl,rfl⟩,HK'.out,HRQ.out,zF.out,HC.out,HS.out⟩
   |some f =>
    rw[hf]at kU
    replace kU:(Instr.lookup 83 (.map (some mk)) (.pointer (some ⟨q,0,none⟩)) true).run Tryz.prog wr=.ok (.tuple #[.pointer (some ⟨f,0,none⟩),.bool true]) wr:=kU;obtain⟨w1,aA,aX,aY,iS⟩:=MapK.store fV.mp keyQ Tryz.underlying83 p' f df;have eD:(Instr.mapUpdate 83 (.map (some mk)) (.pointer (some ⟨p',0,none⟩)) (.pointer (some ⟨f,0,none⟩))).run Tryz.prog wr=.ok () w1:=aA;have bc:Chg (only mk) wr w1:=(Chg.refl _ wr).grown aY (λk hk=>.inr (by injection hk with hk;exact hk.symm));have bC:∀x,LaidQ wr x->LaidQ w1 x:=λx hx=>hx.chg fV.mp bc;have bI:Knw w1 mk (upn K' p' (some f)) hd:=⟨aX,λx=>by
     obtain⟨m,hm⟩:=fV.rep x;obtain⟨m',_,kJ⟩:=Root.short hq hf m x m _ (Ai _) hm;exact⟨m',kJ⟩,λx y hx=>by
     by_cases oZ:x=p'
     ·rw[oZ,zal]at hx
      injection hx with hx;rw[oZ,<-hx]
      exact⟨bC _ df,bC _ (fV.laid q f hf).2⟩
     ·rw[zac _ _ _ _ oZ]at hx
      exact⟨bC _ (fV.laid x y hx).1,bC _ (fV.laid x y hx).2⟩⟩
    obtain⟨m',dC,wI⟩:=Root.short hq hf n' q n' _ (Ai _) hrq;have hlk3:(Instr.lookup 83 (.map (some mk)) (.pointer (some ⟨q,0,none⟩)) true).run Tryz.prog w1=.ok (.tuple #[optV (upn K' p' (some f) q),.bool (upn K' p' (some f) q).isSome]) w1 :=
     MapK.look bI.mp keyQ Tryz.underlying83 (zfd _) q (bC _ jf)
    obtain⟨o5,gW⟩:∃o,optV (upn K' p' (some f) q)=o:=⟨_,rfl⟩;obtain⟨o6,mN⟩:∃o,(upn K' p' (some f) q).isSome=o:=⟨_,rfl⟩;rw[gW,mN]at hlk3
    have aw:=Blk.chg cD bc rC;have r3:w1.cell? ⟨b,3,none⟩=some (.map (some mk)):=aw.cell 3;have ke:=CS gW;have oe:=CS mN;have oj:=CS bI;have zF:=CS (bC _ jf);have HC:=CS (hc.trans bc);have HS:Hid (w1.heap.size=w.heap.size):=CS (by omega);have HRQ:=CS wI;have ui:Hid (m'<gk):=CS (by omega);clear hq hr fV df hc hs cD jf hrq hf kY eu aA aX aY iS bc bC bI dC wI gW mN aw;go_wp2_with fail
    go_roundg m'
    case measure=>exact ui.out
    case rel=>exact⟨q,m',_,rfl,rfl,by have:=optS (upn K' p' (some f) q);rw[ke.out,oe.out]at this;exact this,oj.out,HRQ.out,zF.out,HC.out,HS.out⟩
def fitB(x y:Nd):Bool :=
 x.kd==y.kd&&x.kids.length==y.kids.length&&x.kd != 1 &&(x.kd != 3||decide (x.nm=y.nm))
theorem PartC.facts {w:World} {p:Nat} {x:Nd} {d:Dy}(h:PartC w p x d):∃A c,w.cell? ⟨p,0,none⟩=some (.int .i64 (x.kd:Nat))/\w.cell? ⟨p,1,none⟩=some (.string x.nm)/\w.cell? ⟨p,2,none⟩=some (.int .i64 (x.n:Nat))/\w.cell? ⟨p,4,none⟩=some (.slice A x.kids.length c)/\w.cell? ⟨p,5,none⟩=some (optV x.con)/\w.cell? ⟨p,6,none⟩=some (.bool x.new) /\
  (x.kids≠[]->A=some ⟨d.row,0,none⟩/\∃cur,w.heap[d.row]?=some (.cells cur 75 (0,0))/\∀(j q:Nat),x.kids[j]?=some q->cur[j]?=some (PK q)):=by
 obtain⟨A,c,hb,hr⟩:=h;exact⟨A,c,hb.cell 0,hb.cell 1,hb.cell 2,hb.cell 4,hb.cell 5,hb.cell 6,hr⟩
theorem zgP(p q:Nat)(x y:Nd)(d e:Dy)(w:World)(hp:PartC w p x d)(hq:PartC w q y e):Calls Tryz.prog 73 #[.pointer (some ⟨p,0,none⟩),.pointer (some ⟨q,0,none⟩)] w λr w'=>r=.returned (.bool (fitB x y))/\Below w.heap.size w w'/\w'.heap.size=w.heap.size:=by
 obtain⟨A,c,p0,p1,-,p4,-,-,-⟩:=hp.facts;obtain⟨B,c',q0,q1,-,q4,-,-,-⟩:=hq.facts;have cS:=hp.lt;have iW:=hq.lt;obtain⟨kx,nx,zx,lx,cx,wx⟩:=x;obtain⟨ky,ny,zy,ly,cy,wy⟩:=y;simp only at p0 p1 p4 q0 q1 q4;clear hp hq;obtain⟨m,hm⟩:∃m,lx.length=m:=⟨_,rfl⟩;obtain⟨m',dC⟩:∃m,ly.length=m:=⟨_,rfl⟩;rw[hm]at p4
 rw[dC]at q4
 by_cases hk:kx=ky
 ·subst hk
  by_cases hl:m=m'
  ·subst hl
   by_cases h1:kx=1
   ·have e1:((kx:Int)==1)=true:=by simp[h1]
    have hv:fitB ⟨kx,nx,zx,lx,cx,wx⟩ ⟨kx,ny,zy,ly,cy,wy⟩=false:=by simp[fitB,h1]
    rw[hv]
    clear h1 hv hm dC;go_enter Tryz.func73,Tryz.ntmps73
    go_wp2_with fail
    go_quiet (fail)
    go_wp2_with fail
    go_ret
    exact⟨rfl,below_drewN' (Below.refl _ w) _,rfl⟩
   ·have e1:((kx:Int)==1)=false:=by rw[AG];intro e;simp at e;omega
    by_cases h3:kx=3
    ·have e3:((kx:Int)==3)=true:=by simp[h3]
     obtain⟨b,hb⟩:∃b,(nx.toList==ny.toList)=b:=⟨_,rfl⟩;have hv:fitB ⟨kx,nx,zx,lx,cx,wx⟩ ⟨kx,ny,zy,ly,cy,wy⟩=b:=by
      rw[<-hb]
      have hx:(nx.toList==ny.toList)=decide (nx=ny):=by
       rw[Lib.toList_data,Lib.toList_data]
       refine BV.2 ?_;rw[CF,Cr]
       exact⟨λh=>by cases nx;cases ny;simp only[ByteArray.mk.injEq];exact Array.toList_inj.1 h,λh=>by rw[h]⟩
      rw[hx]
      simp[fitB,h3,hm,dC]
     rw[hv]
     clear h1 h3 hv hm dC;go_enter Tryz.func73,Tryz.ntmps73
     go_wp2_with fail
     go_quiet (fail)
     have p1':(w.drewN nq).cell? ⟨p,1,none⟩=some (.string nx):=p1;have q1':(w.drewN nq).cell? ⟨q,1,none⟩=some (.string ny):=q1;have p0':(w.drewN nq).cell? ⟨p,0,none⟩=some (.int .i64 (kx:Nat)):=p0;have HBQ:Hid (Below w.heap.size w (w.drewN nq)/\(w.drewN nq).heap.size=w.heap.size):=CS ⟨below_drewN' (Below.refl _ w) nq,rfl⟩;have pF:p<(w.drewN nq).heap.size:=cS;have hqq:q<(w.drewN nq).heap.size:=iW;clear p0 p1 p4 q0 q1 q4 cS iW;generalize w.drewN nq=W at *;go_wp2_with fail
     go_region
     all_goals
      go_wp2_with fail
      go_ret
      exact⟨rfl,HBQ.out.1.drew,HBQ.out.2⟩
    ·have e3:((kx:Int)==3)=false:=by rw[AG];intro e;simp at e;omega
     have hv:fitB ⟨kx,nx,zx,lx,cx,wx⟩ ⟨kx,ny,zy,ly,cy,wy⟩=true:=by simp[fitB,h1,h3,hm,dC]
     rw[hv]
     clear h1 h3 hv hm dC;go_enter Tryz.func73,Tryz.ntmps73
     go_wp2_with fail
     go_quiet (fail)
     go_wp2_with fail
     go_ret
     exact⟨rfl,below_drewN' (Below.refl _ w) _,rfl⟩
  ·have e1:((m:Int) ==(m':Int))=false:=by rw[AG];intro e;simp at e;omega
   have hv:fitB ⟨kx,nx,zx,lx,cx,wx⟩ ⟨kx,ny,zy,ly,cy,wy⟩=false:=by simp[fitB,hm,dC,hl]
   rw[hv]
   clear hl hv hm dC;go_enter Tryz.func73,Tryz.ntmps73
   go_wp2_with fail
   go_quiet (fail)
   go_wp2_with fail
   go_ret
   exact⟨rfl,below_drewN' (Below.refl _ w) _,rfl⟩
 ·have e1:((kx:Int) !=(ky:Int))=true:=by rw[bne_iff_ne];omega
  have hv:fitB ⟨kx,nx,zx,lx,cx,wx⟩ ⟨ky,ny,zy,ly,cy,wy⟩=false:=by simp[fitB,hk]
  rw[hv]
  clear hk hv hm dC;go_enter Tryz.func73,Tryz.ntmps73
  go_wp2_with fail
  go_quiet (fail)
  go_wp2_with fail
  go_ret
  exact⟨rfl,below_drewN' (Below.refl _ w) _,rfl⟩
end Go.Proofs.YtfafilmklhnngaaGreatDoor
namespace Go.Proofs.YtfafilmklhnngaaGreatDoor
open Go.RowKit Lx Tx Go.Maps Go.WideMaps
set_option maxRecDepth 100000
theorem zct {w:World} {q u:Nat}(hq:LaidQ w q)(hu:LaidQ w u):(binOp BinOp.eql 75 (.pointer (some ⟨q,0,none⟩)) (.pointer (some ⟨u,0,none⟩))).run Tryz.prog w=.ok (.bool (decide (q=u))) w:=by
 obtain⟨j,hj,hs⟩:∃j,Tryz.prog.info? 132=some j/\j.size≠0:=by
  cases h:Tryz.prog.info? 132 with
  |none=>have:=infoPart;rw[h]at this;cases this
  |some j=>have:=infoPart;rw[h]at this;exact⟨j,rfl,by simp at this;omega⟩
 by_cases h:q=u
 ·subst h
  rw[AN rfl]
  exact run_eql_ptr_same w _ Tryz.underlying75 hj
 ·obtain⟨c1,h1⟩:=hq
  obtain⟨c2,h2⟩:=hu;rw[AQ h]
  exact run_eql_ptr_other w Tryz.underlying75 hj hs (λe=>h (by injection e)) h1 h2
structure Notes (w:World) (bo bu ba bn u:Nat) (o a n:Bool):Prop where
 o:Blk w bo 4 #[.bool o]
 u:Blk w bu 75 #[.pointer (some ⟨u,0,none⟩)]
 a:Blk w ba 4 #[.bool a]
 n:Blk w bn 4 #[.bool n]
theorem Notes.keep {w w':World} {bo bu ba bn u:Nat} {o a n:Bool}(h:Notes w bo bu ba bn u o a n)(h1:w'.heap[bo]?=w.heap[bo]?)(h2:w'.heap[bu]?=w.heap[bu]?)(h3:w'.heap[ba]?=w.heap[ba]?)(h4:w'.heap[bn]?=w.heap[bn]?):Notes w' bo bu ba bn u o a n :=
 ⟨h.o.same h1,h.u.same h2,h.a.same h3,h.n.same h4⟩
theorem zpv(bo bu ba bn u q:Nat)(o a n:Bool)(x:Nd)(d:Dy)(w:World)(hN:Notes w bo bu ba bn u o a n)(hx:PartC w q x d)(hu:LaidQ w u)(h1:bo≠ba)(h2:bo≠bn)(h3:ba≠bn):Calls Tryz.prog 158 #[.pointer (some ⟨q,0,none⟩),.pointer (some ⟨bo,0,none⟩),.pointer (some ⟨bu,0,none⟩),.pointer (some ⟨ba,0,none⟩),.pointer (some ⟨bn,0,none⟩)] w λe w'=>(∃v,e=.returned v) /\
   Notes w' bo bu ba bn u (o||decide (q=u)) (a||decide (x.kd=5)) (n||x.new)/\Chg (λg=>g=bo\/g=ba\/g=bn) w w'/\w'.heap.size=w.heap.size:=by
 obtain⟨A,c,p0,-,-,-,-,p6,-⟩:=hx.facts;obtain⟨kx,nx,zx,lx,cx,wx⟩:=x;simp only at p0 p6 ⊢;have iW:=hx.lt;have hqo:q≠bo:=by obtain⟨_,_,hb,_⟩:=hx;exact Blk.ne_ hb hN.o (by decide)
 have qS:q≠ba:=by obtain⟨_,_,hb,_⟩:=hx;exact Blk.ne_ hb hN.a (by decide)
 have hbo:bu≠bo:=Blk.ne_ hN.u hN.o (by decide);have iM:bu≠ba:=Blk.ne_ hN.u hN.a (by decide);have lv:bu≠bn:=Blk.ne_ hN.u hN.n (by decide);obtain⟨o',et⟩:∃o',(o||decide (q=u))=o':=⟨_,rfl⟩;obtain⟨a',bP⟩:∃a',(a||decide (kx=5))=a':=⟨_,rfl⟩;obtain⟨n',eu⟩:∃n',(n||wx)=n':=⟨_,rfl⟩;obtain⟨w1,bU⟩:∃w1,w.setCell ⟨bo,0,none⟩ (.bool o')=w1:=⟨_,rfl⟩;obtain⟨w2,dJ⟩:∃w2,w1.setCell ⟨ba,0,none⟩ (.bool a')=w2:=⟨_,rfl⟩;obtain⟨w3,kA⟩:∃w3,w2.setCell ⟨bn,0,none⟩ (.bool n')=w3:=⟨_,rfl⟩;have k1:∀g,g≠bo->w1.heap[g]?=w.heap[g]?:=λg hg=>by rw[<-bU];exact Below.heap_setCell _ _ _ _ hg
 have k2:∀g,g≠ba->w2.heap[g]?=w1.heap[g]?:=λg hg=>by rw[<-dJ];exact Below.heap_setCell _ _ _ _ hg
 have k3:∀g,g≠bn->w3.heap[g]?=w2.heap[g]?:=λg hg=>by rw[<-kA];exact Below.heap_setCell _ _ _ _ hg
 have a1:=hN.a.same (k1 ba h1.symm);have n2:=(hN.n.same (k1 bn h2.symm)).same (k2 bn h3.symm);have o1:Blk w1 bo 4 #[.bool o']:=by rw[<-bU];exact heap_setCell_same w bo 0 _ _ _ hN.o
 have a2:Blk w2 ba 4 #[.bool a']:=by rw[<-dJ];exact heap_setCell_same w1 ba 0 _ _ _ a1
 have n3:Blk w3 bn 4 #[.bool n']:=by rw[<-kA];exact heap_setCell_same w2 bn 0 _ _ _ n2
 have s1:w1.heap.size=w.heap.size:=by rw[<-bU];exact World.size_setCell _ _ _
 have s2:w2.heap.size=w1.heap.size:=by rw[<-dJ];exact World.size_setCell _ _ _
 have s3:w3.heap.size=w2.heap.size:=by rw[<-kA];exact World.size_setCell _ _ _
 have oh:Hid (Notes w3 bo bu ba bn u o' a' n'):=CS ⟨(o1.same (k2 bo h1)).same (k3 bo h2),((hN.u.same (k1 bu hbo)).same (k2 bu iM)).same (k3 bu lv),a2.same (k3 ba h3),n3⟩;have ko:Hid (Chg (λg=>g=bo\/g=ba\/g=bn) w w3):=CS (by
  rw[<-kA,<-dJ,<-bU]
  exact(((Chg.refl _ w).setCell (p:=⟨bo,0,none⟩) (.inr (.inl rfl)) _).setCell (p:=⟨ba,0,none⟩) (.inr (.inr (.inl rfl))) _).setCell (p:=⟨bn,0,none⟩) (.inr (.inr (.inr rfl))) _)
 have l9:Hid (w3.heap.size=w.heap.size):=CS (by omega);have c0:w.cell? ⟨bo,0,none⟩=some (.bool o):=hN.o.cell 0;have c1:w.cell? ⟨bu,0,none⟩=some (.pointer (some ⟨u,0,none⟩)):=hN.u.cell 0;have c2:w1.cell? ⟨ba,0,none⟩=some (.bool a):=a1.cell 0;have c3:w2.cell? ⟨bn,0,none⟩=some (.bool n):=n2.cell 0;have f0:=hN.o.frozen 0;have f2:=a1.frozen 0;have f3:=n2.frozen 0;have l0:=hN.o.lt;have l1:=hN.u.lt;have l2:ba<w1.heap.size:=a1.lt;have l3:bn<w2.heap.size:=n2.lt;have lq1:q<w1.heap.size:=by omega
 have lq2:q<w2.heap.size:=by omega
 have x0:w1.cell? ⟨q,0,none⟩=some (.int .i64 (kx:Nat)):=(World.cell?_of_block (w:=w) (a:=⟨q,0,none⟩) (k1 q hqo)).trans p0;have x6:w2.cell? ⟨q,6,none⟩=some (.bool wx):=(World.cell?_of_block (w:=w) (a:=⟨q,6,none⟩) ((k2 q qS).trans (k1 q hqo))).trans p6;have W1:=CS bU;have W2:=CS dJ;have W3:=CS kA;have hD:(decide (kx=5))=((kx:Int)==5):=by rw[BV];simp;omega
 have hD':=hD;rw[hD]at bP
 obtain⟨b5,aP⟩:∃b,((kx:Int)==5)=b:=⟨_,rfl⟩;rw[aP]at bP
 obtain⟨bq,gL⟩:∃b,decide (q=u)=b:=⟨_,rfl⟩;have heq:=zct hx.laid hu;rw[gL]at heq
 rw[gL]at et
 have HQ:=CS gL;have H5:Hid (decide (kx=5)=b5):=CS (hD'.trans aP);clear hD' hN hx k1 k2 k3 a1 n2 o1 a2 n3 bU dJ kA hD h1 h2 h3 hqo qS hbo iM lv p0 p6 s1 s2 s3;cases o
 ·cases a
  ·cases n
   ·go_enter Tryz.func158,Tryz.ntmps158
    go_upto_region 1 with fail
    rw[BF]at et
    subst et;rw[W1.out]
    go_upto_region 2 with fail
    rw[BF]at bP
    subst bP;rw[W2.out]
    go_wp2_with fail
    rw[BF]at eu
    subst eu;rw[W3.out]
    go_end0
    exact⟨⟨_,rfl⟩,by rw[HQ.out,H5.out];exact oh.out,ko.out,l9.out⟩
   ·go_enter Tryz.func158,Tryz.ntmps158
    go_upto_region 1 with fail
    rw[BF]at et
    subst et;rw[W1.out]
    go_upto_region 2 with fail
    rw[BF]at bP
    subst bP;rw[W2.out]
    go_wp2_with fail
    rw[BS]at eu
    subst eu;rw[W3.out]
    go_end0
    exact⟨⟨_,rfl⟩,by rw[HQ.out,H5.out];exact oh.out,ko.out,l9.out⟩
  ·cases n
   ·go_enter Tryz.func158,Tryz.ntmps158
    go_upto_region 1 with fail
    rw[BF]at et
    subst et;rw[W1.out]
    go_upto_region 2 with fail
    rw[BS]at bP
    subst bP;rw[W2.out]
    go_wp2_with fail
    rw[BF]at eu
    subst eu;rw[W3.out]
    go_end0
    exact⟨⟨_,rfl⟩,by rw[HQ.out,H5.out];exact oh.out,ko.out,l9.out⟩
   ·go_enter Tryz.func158,Tryz.ntmps158
    go_upto_region 1 with fail
    rw[BF]at et
    subst et;rw[W1.out]
    go_upto_region 2 with fail
    rw[BS]at bP
    subst bP;rw[W2.out]
    go_wp2_with fail
    rw[BS]at eu
    subst eu;rw[W3.out]
    go_end0
    exact⟨⟨_,rfl⟩,by rw[HQ.out,H5.out];exact oh.out,ko.out,l9.out⟩
 ·cases a
  ·cases n
   ·go_enter Tryz.func158,Tryz.ntmps158
    go_upto_region 1 with fail
    rw[BS]at et
    subst et;rw[W1.out]
    go_upto_region 2 with fail
    rw[BF]at bP
    subst bP;rw[W2.out]
    go_wp2_with fail
    rw[BF]at eu
    subst eu;rw[W3.out]
    go_end0
    exact⟨⟨_,rfl⟩,by rw[HQ.out,H5.out];exact oh.out,ko.out,l9.out⟩
   ·go_enter Tryz.func158,Tryz.ntmps158
    go_upto_region 1 with fail
    rw[BS]at et
    subst et;rw[W1.out]
    go_upto_region 2 with fail
    rw[BF]at bP
    subst bP;rw[W2.out]
    go_wp2_with fail
    rw[BS]at eu
    subst eu;rw[W3.out]
    go_end0
    exact⟨⟨_,rfl⟩,by rw[HQ.out,H5.out];exact oh.out,ko.out,l9.out⟩
  ·cases n
   ·go_enter Tryz.func158,Tryz.ntmps158
    go_upto_region 1 with fail
    rw[BS]at et
    subst et;rw[W1.out]
    go_upto_region 2 with fail
    rw[BS]at bP
    subst bP;rw[W2.out]
    go_wp2_with fail
    rw[BF]at eu
    subst eu;rw[W3.out]
    go_end0
    exact⟨⟨_,rfl⟩,by rw[HQ.out,H5.out];exact oh.out,ko.out,l9.out⟩
   ·go_enter Tryz.func158,Tryz.ntmps158
    go_upto_region 1 with fail
    rw[BS]at et
    subst et;rw[W1.out]
    go_upto_region 2 with fail
    rw[BS]at bP
    subst bP;rw[W2.out]
    go_wp2_with fail
    rw[BS]at eu
    subst eu;rw[W3.out]
    go_end0
    exact⟨⟨_,rfl⟩,by rw[HQ.out,H5.out];exact oh.out,ko.out,l9.out⟩
end Go.Proofs.YtfafilmklhnngaaGreatDoor
namespace Go.Proofs.YtfafilmklhnngaaGreatDoor
open Go.RowKit Lx Tx Go.Maps Go.WideMaps
set_option maxRecDepth 100000
def NewPost(w:World)(e:Ending)(w':World):Prop :=
 ∃b mv mu mk,e=.returned (.pointer (some ⟨b,0,none⟩))/\Blk w' b 85 #[.slice none 0 0,.map (some mv),.map (some mu),.map (some mk),.int .i64 0] /\
  MapS w' mv (λ_=>none)/\MapI w' mu (λ_=>none)/\Knw w' mk (λ_=>none) (λp=>p)/\mv≠mu/\mv≠mk/\mu≠mk/\Below w.heap.size w w'/\w.heap.size<=mv/\w.heap.size<=mu/\w.heap.size<=mk/\w.heap.size<=b
theorem zp0(w:World):Calls Tryz.prog 32 #[] w (NewPost w):=by
 have aX:∀w,(Instr.makeMap 81 none).run Tryz.prog w=.ok (.map (some w.heap.size)) (w.alloc (.map #[] 0)):=λ_=>rfl;have cB:∀w,(Instr.makeMap 82 none).run Tryz.prog w=.ok (.map (some w.heap.size)) (w.alloc (.map #[] 0)):=λ_=>rfl;have hm3:∀w,(Instr.makeMap 83 none).run Tryz.prog w=.ok (.map (some w.heap.size)) (w.alloc (.map #[] 0)):=λ_=>rfl;obtain⟨l0,l1,l2,l3,en,cT⟩:=zcU w (.map #[] 0) (.map #[] 0) (.map #[] 0) (.cells #[.slice none 0 0,.map (some w.heap.size),.map (some (w.heap.size+1)),.map (some (w.heap.size+1+1)),.int .i64 0] 85);have mk0:∀ {κ:Type} [DecidableEq κ] (kv:κ->Value) (ok:World->κ->Prop) (W:World) (g:Nat),W.heap[g]?=some (.map #[] 0)->MapK kv ok W g (λ_=>none):=λkv ok W g h =>
  ⟨#[],0,[],h,rfl,Bw,(λ_ h=>by cases h),(λ_=>rfl),(λ_ h=>by cases h),Bw⟩
 obtain⟨w4,gi⟩:∃W,(((w.alloc (.map #[] 0)).alloc (.map #[] 0)).alloc (.map #[] 0)).alloc (.cells #[.slice none 0 0,.map (some w.heap.size),.map (some (w.heap.size+1)),.map (some (w.heap.size+1+1)),.int .i64 0] 85)=W:=⟨_,rfl⟩;rw[gi]at l0 l1 l2 l3 en cT
 have aQ:Hid (Blk w4 (w.heap.size+1+1+1) 85 #[.slice none 0 0,.map (some w.heap.size),.map (some (w.heap.size+1)),.map (some (w.heap.size+1+1)),.int .i64 0]/\MapS w4 w.heap.size (λ_=>none)/\MapI w4 (w.heap.size+1) (λ_=>none)/\Knw w4 (w.heap.size+1+1) (λ_=>none) (λp=>p)/\Below w.heap.size w w4):=CS
  ⟨l3,mk0 _ _ _ _ l0,mk0 _ _ _ _ l1,⟨mk0 _ _ _ _ l2,λp=>⟨0,.nil p rfl⟩,λ_ _ h=>by cases h⟩,cT⟩
 have nT:=CS gi;clear l0 l1 l2 l3 en cT gi mk0;go_enter Tryz.func32,Tryz.ntmps32
 go_wp2_with fail
 rw[nT.out]
 go_ret
 exact⟨w.heap.size+1+1+1,w.heap.size,w.heap.size+1,w.heap.size+1+1,rfl,aQ.out.1,aQ.out.2.1,aQ.out.2.2.1,aQ.out.2.2.2.1,by omega,by omega,by omega,aQ.out.2.2.2.2,by omega,by omega,by omega,by omega⟩
structure UfC (b mv mu mk:Nat) (w0:World) (G:Nat->Option Nd) (D:Nat->Dy) (V:Name->Option Nat) (U:Nat->Option Nat) (W:World):Prop where
 sb:Blk W b 85 #[.slice none 0 0,.map (some mv),.map (some mu),.map (some mk),.int .i64 0]
 lays:Lays W mv mu G D V U
 vf:∀x p,V x=some p->G p=some ⟨1,⟨x.toArray⟩,0,[],none,false⟩
 kn:Knw W mk (λ_=>none) (λp=>p)
 ch:Chg (λg=>g=mv\/g=mu) w0 W
 lo:∀q x,G q=some x->w0.heap.size<=q
theorem UfC.keep {b mv mu mk:Nat} {w0:World} {G:Nat->Option Nd} {D:Nat->Dy} {V:Name->Option Nat} {U:Nat->Option Nat} {W W':World}(h:UfC b mv mu mk w0 G D V U W)(hb:Below W.heap.size W W'):UfC b mv mu mk w0 G D V U W' :=
 ⟨h.sb.below hb h.sb.lt,h.lays.keep hb.block,h.vf,h.kn.keep (hb.block _ (MapK.lt h.kn.mp)) (λx ⟨cs,hx⟩=>⟨cs,(hb.block x (Aj.1 hx).1).trans hx⟩),h.ch.below hb,h.lo⟩
def UfP(b mv mu mk:Nat)(w0:World)(G:Nat->Option Nd)(D:Nat->Dy)(V:Name->Option Nat)(U:Nat->Option Nat)(W:World)(t:Ty)(p:Nat)(W':World):Prop :=
 ∃nl G' D' V' U',UfC b mv mu mk w0 G' D' V' U' W'/\LExt W.heap.size W'.heap.size G G' D D' V V' U U'/\LayT G' U' V' p t nl/\nl.Nodup/\(∀q∈nl,W.heap.size<=q/\q<W'.heap.size)/\Chg (λg=>g=mv\/g=mu) W W'
def UfT(b mv mu mk:Nat)(w0:World)(G:Nat->Option Nd)(D:Nat->Dy)(V:Name->Option Nat)(U:Nat->Option Nat)(W:World)(t u:Ty)(p q:Nat)(W':World):Prop :=
 ∃nl nr G' D' V' U',UfC b mv mu mk w0 G' D' V' U' W'/\LExt W.heap.size W'.heap.size G G' D D' V V' U U'/\LayT G' U' V' p t nl/\LayT G' U' V' q u nr/\(nl++nr).Nodup/\(∀x∈nl++nr,W.heap.size<=x/\x<W'.heap.size)/\Chg (λg=>g=mv\/g=mu) W W'
section
variable {b mv mu mk:Nat} {w0:World} {G:Nat->Option Nd} {D:Nat->Dy} {V:Name->Option Nat} {U:Nat->Option Nat} {W:World} {S:Nat->Prop}
theorem zj0(h:UfC b mv mu mk w0 G D V U W)(af:mv≠mu/\mk≠mv/\mk≠mu) {t:Ty} {v:Value}(aD:t.size<=1000000)(hv:RdV S W t v)(hS:∀g,S g->g<W.heap.size/\g≠mv/\g≠mu)(az:Nm t):Calls Tryz.prog 33 #[.pointer (some ⟨b,0,none⟩),v] W λe W'=>∃p,e=.returned (.pointer (some ⟨p,0,none⟩))/\UfP b mv mu mk w0 G D V U W t p W':=by
 refine(zms b mv mu S 1000000 (Ai _) t v W _ _ _ G D V U aD h.sb h.lays af.1 hv hS az).mono ?_;rintro e W' ⟨p,ns,G',D',V',U',rfl,h1,h2,h3,h4,h5,h6⟩;have cf:∀(g:Nat) (cs:Array Value) (t:TypeId),W.heap[g]?=some (.cells cs t (0,0))->W'.heap[g]?=W.heap[g]?:=λg cs t hg=>h6.block g (Aj.1 hg).1 (by
  rintro(e|e)
  ·rw[e]at hg;exact MapK.no h.lays.ms hg
  ·rw[e]at hg;exact MapK.no h.lays.mi hg)
 refine⟨p,rfl,ns,G',D',V',U',⟨h.sb.same (cf _ _ _ h.sb),h1,λx q hx=>?_,h.kn.keep (h6.block _ (MapK.lt h.kn.mp) (by rintro(e|e);exact af.2.1 e;exact af.2.2 e)) (λx ⟨cs,hx⟩=>⟨cs,(cf x cs _ hx).trans hx⟩),h.ch.trans h6,λq x hx=>?_⟩,h2,h3,h4,h5,h6⟩;rotate_left
 ·by_cases e:q<W.heap.size
  ·rw[(h2.old q e).1]at hx;exact h.lo q x hx
  ·have:=h.ch.size;omega
 rcases h2.vn x q hx with h7|⟨_,h7⟩
 ·have h8:=h.vf x q h7
  rw[(h2.old q (h.lays.lt h8)).1];exact h8
 ·exact h7
theorem UfP.two {W1 W2:World} {t u:Ty} {p q:Nat} {nl:List Nat} {G1:Nat->Option Nd} {D1:Nat->Dy} {V1:Name->Option Nat} {U1:Nat->Option Nat}
  (h:UfC b mv mu mk w0 G1 D1 V1 U1 W1/\LExt W.heap.size W1.heap.size G G1 D D1 V V1 U U1/\LayT G1 U1 V1 p t nl/\nl.Nodup/\(∀q∈nl,W.heap.size<=q/\q<W1.heap.size)/\Chg (λg=>g=mv\/g=mu) W W1)
  (k:UfP b mv mu mk w0 G1 D1 V1 U1 W1 u q W2):UfT b mv mu mk w0 G D V U W t u p q W2:=by
 obtain⟨h1,h2,h3,h4,h5,h6⟩:=h;obtain⟨nr,G2,D2,V2,U2,k1,k2,k3,k4,k5,k6⟩:=k;have s1:=h6.size;have s2:=k6.size;refine⟨nl,nr,G2,D2,V2,U2,k1,h2.trans k2 s1 s2 (λx p hx=>h1.lays.lt (h1.vf x p hx)),h3.more (k2.gx λq x hx=>h1.lays.lt hx) k2.ux k2.vx,k3,BL.2 ⟨h4,k4,λa ha b hb e=>?_⟩,λx hx=>?_,h6.trans k6⟩
 ·have:=h5 a ha;have:=k5 b hb;omega
 ·rcases AA.1 hx with hx|hx
  ·have:=h5 x hx;omega
  ·have:=k5 x hx;omega
theorem UfP.next(af:mv≠mu/\mk≠mv/\mk≠mu) {W1:World} {t u:Ty} {p:Nat}(h:UfP b mv mu mk w0 G D V U W t p W1) {v:Value}(aD:u.size<=1000000)(hv:RdV S W u v)(hS:∀g,S g->g<W.heap.size/\g≠mv/\g≠mu)(az:Nm u):Calls Tryz.prog 33 #[.pointer (some ⟨b,0,none⟩),v] W1 λe W'=>∃q,e=.returned (.pointer (some ⟨q,0,none⟩))/\UfT b mv mu mk w0 G D V U W t u p q W':=by
 obtain⟨nl,G1,D1,V1,U1,h1,h2,h3,h4,h5,h6⟩:=h;have s1:=h6.size;refine(zj0 h1 af aD (hv.keep (λ_ h=>h) (λg hg=>h6.block g (hS g hg).1 (by rintro(e|e);exact(hS g hg).2.1 e;exact(hS g hg).2.2 e))) (λg hg=>by have:=hS g hg;exact⟨by omega,this.2⟩) az).mono ?_;rintro e W2 ⟨q,rfl,hk⟩;exact⟨q,rfl,UfP.two ⟨h1,h2,h3,h4,h5,h6⟩ hk⟩
end
end Go.Proofs.YtfafilmklhnngaaGreatDoor
