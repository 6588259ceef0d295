import Derived.Test.YtfafilmklhnngaaGreatDoorBsV
import Derived.Test.YtfafilmklhnngaaGreatDoorBsAA
set_option maxHeartbeats 12800000
set_option maxRecDepth 100000
namespace Go.Proofs.YtfafilmklhnngaaGreatDoor
open Tryz
section
open Go.RowKit Lx Tx Go.Maps Go.WideMaps
set_option maxRecDepth 100000
theorem Qp {w:World} {B:Nat} {e:TypeId} {n:Nat} {v:Value} {l:List Nat}(h:w.ownsRow B e 1 v n (l.map PK))(hn:n≠0):∃g cap cur,v=.slice (some ⟨g,0,none⟩) n cap/\B<=g/\w.heap[g]?=some (.cells cur e (0,0))/\∀(j q:Nat),l[j]?=some q->cur[j]?=some (PK q):=by
 rcases h.2 with⟨_,h0⟩|⟨g,cap,cur,hv,hg,hb,_,_,_,ht⟩
 ·exact absurd h0 hn
 ·refine⟨g,cap,cur,hv,hg,hb,λj q hq=>?_⟩
  have hj:j<n:=by
   have h1:=h.1;rw[CE,Nat.mul_one]at h1;have:=(Cj.1 hq).1;omega
  have:=Cp (λm=>m[j]?) ht;simp only[Nat.mul_one,List.getElem?_take,hj,Ez,CT,hq,DJ,DG]at this;exact this
theorem GO.app {mv mu pb:Nat} {t:Ty} {A:Option Addr} {m c:Nat} {w w3:World} {G:Nat->Option Nd} {D:Nat->Dy} {V:Name->Option Nat} {U:Nat->Option Nat} {v:Value} {ids:List Nat} {aP:List (List Nat)} {K Z:Int} {X:ByteArray}
  {G':Nat->Option Nd} {D':Nat->Dy} {V':Name->Option Nat} {U':Nat->Option Nat} {wr:World} (h:GO mv mu pb (kids t) K X Z (.slice A m c) (.pointer none) w3 G D V U m v ids aP G' D' V' U' wr)
  (hK:K=(kd t:Nat))(hX:X=ER t)(hZ:Z=(nn t:Nat))(cG:(kids t).length=m)(ht:kd t=3\/kd t=4)(hb:Below w.heap.size w w3)(jr:w.heap.size<=pb)(dj:pb<w3.heap.size)(hG:∀q x,G q=some x->q<w.heap.size):EV mv mu G D V U t w (.returned (.pointer (some ⟨pb,0,none⟩))) wr:=by
 subst hK hX hZ;have dy:=hb.size;have fI:=h.iF.size;have fy:nn t=0:=by cases t <;> first|rfl|(simp[kd]at ht)
 have uY:G' pb=none:=by
  rw[(h.ext.GD pb dj).1];cases hq:G pb with
  |none=>rfl
  |some x=>have:=hG pb x hq;omega
 have ai:∀q x,G' q=some x->q≠pb:=λq x hx e=>by rw[e,uY]at hx;cases hx
 refine⟨pb,pb::aP.flatten,Gn G' pb (some ⟨kd t,ER t,0,ids,none,false⟩),Gn D' pb ⟨.slice A m c,false,0,v.ownBlock.getD 0⟩,V',U',rfl,⟨h.ES.ms,h.ES.mi,λq x hx=>?_,λy q hy=>?_,λn q hn=>?_,λq x hx=>?_⟩,⟨λq hq=>?_,λq x hx ku=>?_,h.ext.vx,h.ext.ux,λy q hy=>?_⟩,?_,?_,λq hq=>?_,?_⟩
 ·by_cases G_:q=pb
  ·subst G_
   rw[Gm]at hx ⊢;injection hx with hx;subst hx;obtain⟨A',c',hv⟩:=GS h.own;refine⟨A',c',?_,λhk=>?_⟩
   ·have:=h.Jm
    rw[hv]at this;simp only[h.li];rw[fy]at this;exact this
   ·have oL:m≠0:=λe=>hk (by
     have h1:ids.length=0:=by rw[h.li,e]
     exact Cn h1)
    obtain⟨g,cap,cur,jK,hg,aa,aE⟩:=Qp h.own oL;rw[jK]at hv;injection hv with di _ _;refine⟨?_,cur,?_,aE⟩
    ·rw[<-di,jK];rfl
    ·rw[jK];exact aa
  ·rw[Fk _ _ _ _ G_]at hx ⊢
   exact h.ES.pd q x hx
 ·obtain⟨nw,h1⟩:=h.ES.vn y q hy
  exact⟨nw,by rw[Fk _ _ _ _ (ai q _ h1)];exact h1⟩
 ·have h1:=h.ES.un n q hn
  rw[Fk _ _ _ _ (ai q _ h1)];exact h1
 ·by_cases G_:q=pb
  ·rw[G_,Gm];exact⟨rfl,rfl,_,_,_,rfl⟩
  ·rw[Fk _ _ _ _ G_]at hx ⊢;exact h.ES.dn q x hx
 ·have:q≠pb:=by omega
  rw[Fk _ _ _ _ this,Fk _ _ _ _ this];exact h.ext.GD q (by omega)
 ·by_cases G_:q=pb
  ·subst G_
   rw[Gm]at hx ⊢;injection hx with hx;subst hx;refine⟨by omega,λhk=>?_⟩;have oL:m≠0:=λe=>hk (by
    have h1:ids.length=0:=by rw[h.li,e]
    exact Cn h1)
   obtain⟨g,cap,cur,jK,hg,-,-⟩:=Qp h.own oL;rw[jK];show w.heap.size<=g;omega
  ·rw[Fk _ _ _ _ G_]at hx ⊢
   by_cases tU:q<w3.heap.size
   ·rw[(h.ext.GD q tU).1]at hx
    have:=hG q x hx;omega
   ·obtain⟨a,b⟩:=h.ext.new q x hx (by omega)
    exact⟨a,λhk=>by have:=b hk;omega⟩
 ·rcases h.ext.vn y q hy with h1|⟨h1,h2⟩
  ·exact .inl h1
  ·exact .inr ⟨h1,by rw[Fk _ _ _ _ (ai q _ h2)];exact h2⟩
 ·exact .app _ _ _ ids aP ht (Gm _ _ _) (by rw[h.li,cG]) (by rw[h.ln,cG]) λi q u ns h1 h2 h3=>(h.Hm i q u ns h1 h2 h3).more (λq x hx=>by rw[Fk _ _ _ _ (ai q x hx)];exact hx) (λ_ _ h=>h) (λ_ _ h=>h)
 ·rw[CO]
  exact⟨λhm=>by have:=h.rg pb hm;omega,h.nd⟩
 ·rcases Cd.1 hq with e|e
  ·rw[e];omega
  ·have:=h.rg q e;omega
 ·exact(b_.c_ hb).trans' h.iF (λk hk e=>by
   rcases e with e|e|e
   ·exact .inl e
   ·exact .inr e
   ·omega)
def zqk(mv mu pb m:Nat)(kl:List Ty)(K:Int)(X:ByteArray)(Z:Int)(TA h_:Value)(w3:World)(G1:Nat->Option Nd)(D1:Nat->Dy)(V1:Name->Option Nat)(U1:Nat->Option Nat)(gg:Nat)(vi:Value)(wr:World):Prop :=
 ∃(i:Nat) (v:Value) (ids:List Nat) (aP:List (List Nat)) (G':Nat->Option Nd) (D':Nat->Dy) (V':Name->Option Nat) (U':Nat->Option Nat),gg=m-i/\vi=.int .i64 i/\i<=m/\GO mv mu pb kl K X Z TA h_ w3 G1 D1 V1 U1 i v ids aP G' D' V' U' wr
theorem Ir:(prog.info? 75).map (λi=>(i.zero,i.size,i.bytes))=some (some (.pointer none),1,8):=by kernel_rfl
theorem zg4(n b mv mu:Nat)(S:Nat->Prop)(HT:UX n b mv mu S)(t:Ty)(v:Value)(w:World)(sl mk sr:Value)(G:Nat->Option Nd)(D:Nat->Dy)(V:Name->Option Nat)(U:Nat->Option Nat)(hn:t.size<=n+1)(gL:kd t=3\/kd t=4)
  (hb:ar w b 85 #[sl,.map (some mv),.map (some mu),mk,sr])(hl:Lays w mv mu G D V U)(ai:mv≠mu)(hv:nc S w t v)(hS:∀g,S g->g<w.heap.size/\g≠mv/\g≠mu)(aw:Nm t)(aA:t.size<=2000000000000):Calls prog 33 #[.pointer (some ⟨b,0,none⟩),v] w (EV mv mu G D V U t w):=by
 obtain⟨K,X,Z,A,m,c,rfl,hK,hX,hZ,cG,ha⟩:=hv.parts;have hlen:=LF t;have ie:m<2000000000000:=by omega
 have d1:((K:Int)==1)=false:=by rw[hK];rcases gL with e|e <;> rw[e] <;> rfl
 have d2:((K:Int)==2)=false:=by rw[hK];rcases gL with e|e <;> rw[e] <;> rfl
 have d5:((K:Int)==5)=false:=by rw[hK];rcases gL with e|e <;> rw[e] <;> rfl
 have yO:mv<w.heap.size:=d_.lt hl.ms;have WY:mu<w.heap.size:=d_.lt hl.mi;have zN:b≠mv:=λe=>d_.no hl.ms (e▸hb);have Xq:b≠mu:=λe=>d_.no hl.mi (e▸hb);have a8:=hb.lt;have mZ:∀q x,G q=some x->q<w.heap.size:=λq x hx=>hl.lt hx;obtain⟨i0,bK,cj,bS,bC⟩:=Dx Ir;obtain⟨w3,mx⟩:∃w3,(w.alloc (.cells #[.int .i64 K,.string X,.int .i64 Z,.slice A m c] 37)).alloc (.cells #[.int .i64 K,.string X,.int .i64 Z,.slice A m c,.slice none 0 0,.pointer none,.bool false,.bool false,.int .i64 0] 132)=w3:=⟨_,rfl⟩;have jA:Below w.heap.size w w3:=by rw[<-mx];exact((Cc _ w).alloc (BU _) _).alloc (by simp) _
 have dy:w3.heap.size=w.heap.size+2:=by rw[<-mx];simp
 have mX:ar w3 w.heap.size 37 #[.int .i64 K,.string X,.int .i64 Z,.slice A m c]:=by rw[<-mx];exact ar.alloc (BZ w _) _
 have Af:ar w3 (w.heap.size+1) 132 #[.int .i64 K,.string X,.int .i64 Z,.slice A m c,.slice none 0 0,.pointer none,.bool false,.bool false,.int .i64 0]:=by
  rw[<-mx];have:=BZ (w.alloc (.cells #[.int .i64 K,.string X,.int .i64 Z,.slice A m c] 37)) (.cells #[.int .i64 K,.string X,.int .i64 Z,.slice A m c,.slice none 0 0,.pointer none,.bool false,.bool false,.int .i64 0] 132);rw[show(w.alloc (.cells #[.int .i64 K,.string X,.int .i64 Z,.slice A m c] 37)).heap.size=w.heap.size+1 by simp]at this;exact this
 have iH:Lays w3 mv mu G D V U:=hl.al λk hk=>jA.block k hk;have lX:G (w.heap.size+1)=none:=by
  cases hq:G (w.heap.size+1) with
  |none=>rfl
  |some x=>have:=mZ _ x hq;omega
 have H0:=EP (GO.zero (kl:=kids t) Af iH);have HB:=EP hb;have gF:=EP jA;have nS:=EP dy;have gu:=EP mX;have HA:=EP ha;have HS:=EP hS;have ej:Hid (∀i (hi:i<(kids t).length),Nm (kids t)[i]):=EP λi hi=>Mc aw i hi;have eT:=EP cG;have HK:=EP hK;have HX:=EP hX;have HZ:=EP hZ;have HN:=EP hn;have HGL:=EP mZ;have mh:=EP lX;have AP:=EP mx;clear hv hb hl hS aw hK hX hZ cG ha hn mZ jA dy mX Af iH lX mx aA hlen;go_enter_defers func33,ntmps33
 go_wp2_with fail;rw[AP.o];clear AP;go_loopg [58] m (λgg vi wr=>zqk mv mu (w.heap.size+1) m (kids t) K X Z (.slice A m c) (.pointer none) w3 G D V U gg vi wr);case atStart=>exact⟨0,_,_,_,_,_,_,_,rfl,rfl,by omega,H0.o⟩
 case round =>
  obtain⟨i,v,ids,aP,G',D',V',U',rfl,rfl,hi,hh⟩:=hrel;have fI:=hh.iF.size;have dy:=nS.o;by_cases af:i<m
  ·have ig:∀g,S g->wr.heap[g]?=w.heap[g]?:=λg hg=>(hh.iF.block g (by have:=(HS.o g hg).1;omega) (λh=>by
    rcases h with h|h|h
    ·exact(HS.o g hg).2.1 h
    ·exact(HS.o g hg).2.2 h
    ·have:=(HS.o g hg).1;omega)).trans (gF.o.block g (HS.o g hg).1)
   obtain⟨g,u,K1,X1,Z1,A1,n1,c1,rfl,hg,e0,e1,e2,e3,hu,aG,aA,-,-⟩:=QJ (w':=wr) HA.o eT.o af ig;have kK:=M7 e0;have dD:u.size<=n:=by have:=HN.o;omega
   have bT:Nm u:=by obtain⟨fB,rfl⟩:=hu;exact ej.o i fB
   have xV:(kids t)[i]?=some u:=by obtain⟨fB,rfl⟩:=hu;exact BY fB
   have cI:ar wr b 85 #[sl,.map (some mv),.map (some mu),mk,sr]:=ar.iF (HB.o.below gF.o a8) hh.iF (λh=>by rcases h with h|h|h;exact zN h;exact Xq h;omega);obtain⟨wa,oa⟩:∃wa,(wr.alloc (.cells #[.int .i64 K1,.string X1,.int .i64 Z1,.slice A1 n1 c1] 37)).drew=wa:=⟨_,rfl⟩;have jP:Below wr.heap.size wr wa:=by rw[<-oa];exact((Cc _ wr).alloc (BU _) _).drew
   have sn:wa.heap.size=wr.heap.size+1:=by rw[<-oa];show(wr.alloc _).heap.size=_;simp
   have ah:=HT u (.agg #[.int .i64 K1,.string X1,.int .i64 Z1,.slice A1 n1 c1]) wa sl mk sr G' D' V' U' dD (cI.below jP cI.lt) (hh.ES.al λk hk=>jP.block k hk) ai
    (aG.al (λ_ h=>h) (λg hg=>jP.block g (by have:=(HS.o g hg).1;omega))) (λg hg=>⟨by have:=(HS.o g hg).1;omega,(HS.o g hg).2⟩) bT
   rw[<-oa]at ah;have ak:=EP ah;have qB:=EP jP;have HH:=EP hh;have Ye:=EP xV;have X8:=EP oa;have A6:=EP sn;have q4:wr.cell? ⟨w.heap.size+1,4,none⟩=some v:=hh.Jm.cell 4;have cL:w.heap.size+1<wr.heap.size:=by omega
   have yI:∀k,v.ownBlock=some k->w3.heap.size<=k/\k<wr.heap.size:=λk hk=>⟨(s_ hh.own k hk).1,(s_ hh.own k hk).2.1⟩;have rQ:=EP yI;clear aG hu bT ah jP hh xV cI oa sn yI;go_upto_region 13 with fail
   refine wp_region_noPanic ?_;go_region_law (first
    |(go_simp;(with_reducible refine ak.o.mono ?_);rintro e w5 dE;obtain⟨p,tX,ia⟩:=dE.split;subst tX;rw[X8.o]at ia;have bE:=ia.iF;have eI:=bE.size;rw[A6.o]at eI;have eV:ar w5 (w.heap.size+1) 132 _:=ar.iF (HH.o.Jm.below qB.o HH.o.Jm.lt) bE (λh=>by rcases h with h|h <;> omega);have z4:w5.cell? ⟨w.heap.size+1,4,none⟩=some v:=eV.cell 4;have y4:(w5.alloc (.cells #[.pointer (some ⟨p,0,none⟩)] 75)).cell? ⟨w.heap.size+1,4,none⟩=some v:=(ar.alloc eV _).cell 4;have eO:w5.ownsRow w3.heap.size 75 1 v i (ids.map PK):=GF HH.o.own (λk hk=>(bE.block k (by rw[A6.o];have:=rQ.o k hk;omega) (λh=>by have:=rQ.o k hk;rcases h with h|h <;> omega)).trans (qB.o.block k (rQ.o k hk).2));have pO:Hid ((w5.alloc (.cells #[.pointer (some ⟨p,0,none⟩)] 75)).ownsRow w3.heap.size 75 1 v i (ids.map PK)):=EP (eO.alloc _);have dJ:Hid (∀j u,[Value.pointer (some ⟨p,0,none⟩)][j]?=some u->(w5.alloc (.cells #[.pointer (some ⟨p,0,none⟩)] 75)).cell? ((⟨w5.heap.size,0,none⟩:Addr).add j)=some u):=EP (Iz _ _ _ _ rfl);have nT:=EP ia;have vE:=EP eV;clear ia bE eV eO)
    |(refine step_append_lies _ (by rfl) _ _ _ (by rfl) w3.heap.size 75 i0 _ 1 8 underlying130 bK cj bS bC rfl (by decide) _ i (ids.map PK) (by rfl) pO.o ⟨w5.heap.size,0,none⟩ 1 1 [.pointer (some ⟨p,0,none⟩)] rfl rfl dJ.o (by intro u hu;simp at hu;subst hu;rfl) (by omega) (by unfold maxLen;omega) (by omega) (by simp;omega) _ rfl ?_;intro g6 c6 w6 dF ae bz uw;have ew:ar w6 (w.heap.size+1) 132 _:=(ar.alloc vE.o (.cells #[.pointer (some ⟨p,0,none⟩)] 75)).grown ae (λe=>by have:=rQ.o _ e.symm;omega);have v4:w6.cell? ⟨w.heap.size+1,4,none⟩=some v:=ew.cell 4;have f4:=ew.frozen 4;have l6:=ew.lt;have pQ:=EP dF;have vP:=EP ae;have gG:=EP bz;clear dF ae bz ew))
   all_goals
    refine NoPanic.normal ?_;go_wp2_with fail;go_roundg (m-(i+1))
    case measure=>omega
    case rel =>
     obtain⟨nY,eM,G2,D2,V2,U2,Xd⟩:=HH.o.next (by omega) (by omega) (by omega) (by omega) (by omega) mh.o Ye.o qB.o nT.o pQ.o vP.o (by have:=gG.o;simp at this;exact this);exact⟨i+1,_,nY,eM,G2,D2,V2,U2,rfl,by go_num,by omega,Xd⟩
  ·have eB:i=m:=by omega
   subst eB;have HH:=EP hh;clear hh;go_wp2_with fail;exact⟨_,results_tmp (show Tryz.f33.results=#[.tmp 4] from rfl) _ _ _,HH.o.app HK.o HX.o HZ.o eT.o gL gF.o (by omega) (by omega) HGL.o⟩
set_option maxRecDepth 100000
theorem GO.all {mv mu pb cb:Nat} {x:Name} {t:Ty} {A:Option Addr} {m c:Nat} {w w3:World} {G:Nat->Option Nd} {D:Nat->Dy} {V:Name->Option Nat} {U:Nat->Option Nat} {v:Value} {ids:List Nat} {aP:List (List Nat)} {K Z:Int} {X:ByteArray} {dc:Dy}
  {G':Nat->Option Nd} {D':Nat->Dy} {V':Name->Option Nat} {U':Nat->Option Nat} {wr w7:World}
  (h:GO mv mu pb [t] K X Z (.slice A m c) (.pointer (some ⟨cb,0,none⟩)) w3 (Gn G cb (some ⟨1,⟨x.toArray⟩,0,[],none,true⟩)) (Gn D cb dc) (Gn V x (some cb)) U m v ids aP G' D' V' U' wr)
  (hK:K=(5:Nat))(hX:X=⟨x.toArray⟩)(hZ:Z=(0:Nat))(cG:1=m)(hl:Lays w mv mu G D V U)(ai:mv≠mu)(hb:b_ (only mv) w w3)(jr:w.heap.size<=pb)(dj:pb<w3.heap.size)(bj:w.heap.size<=cb)(cH:cb<w3.heap.size)(WW:pb≠cb)
  (sC:Jc w7 mv (λy=>if y=x then V x else V' y))(kP:b_ (only mv) wr w7):EV mv mu G D V U (.all x t) w (.returned (.pointer (some ⟨pb,0,none⟩))) w7:=by
 subst hK hX hZ cG;have hG:∀q x,G q=some x->q<w.heap.size:=λq x hx=>hl.lt hx;have dy:=hb.size;have fI:=h.iF.size;have jL:=kP.size;have uY:G' pb=none:=by
  rw[(h.ext.GD pb dj).1,Fk _ _ _ _ WW];cases hq:G pb with
  |none=>rfl
  |some x=>have:=hG pb x hq;omega
 have hcb:G' cb=some ⟨1,⟨x.toArray⟩,0,[],none,true⟩:=by rw[(h.ext.GD cb cH).1,Gm]
 have qX:∀q x,G' q=some x->q≠pb:=λq x hx e=>by rw[e,uY]at hx;cases hx
 have ar7:∀q y,q<w.heap.size->G' q=some y->G q=some y:=λq y hq hy=>by
  rw[(h.ext.GD q (by omega)).1,Fk _ _ _ _ (by omega)]at hy;exact hy
 have hVx:V' x=some cb:=h.ext.vx x cb (Gm _ _ _);have hV':∀y p,V' y=some p->y≠x->V y=some p\/V y=none/\G' p=some ⟨1,⟨y.toArray⟩,0,[],none,false⟩:=λy p hy bU=>by
  rcases h.ext.vn y p hy with h1|⟨h1,h2⟩
  ·rw[Fk _ _ _ _ bU]at h1;exact .inl h1
  ·rw[Fk _ _ _ _ bU]at h1;exact .inr ⟨h1,h2⟩
 obtain⟨q1,oS⟩:∃q1,ids=[q1]:=by
  have:=h.li;match ids,this with
  |[q1],_=>exact⟨q1,rfl⟩
 obtain⟨n1,Y9⟩:∃n1,aP=[n1]:=by
  have:=h.ln;match aP,this with
  |[n1],_=>exact⟨n1,rfl⟩
 subst oS Y9;have Y7:=h.ES.pd.Nl h.ES.ms kP;have ui:Ku w7 mu U':=d_.al h.ES.mi (kP.block _ (d_.lt h.ES.mi) (λe=>ai (show mu=mv from e).symm)) (λ_ h=>h);refine⟨pb,pb::cb::n1,Gn G' pb (some ⟨5,⟨x.toArray⟩,0,[q1],some cb,false⟩),Gn D' pb ⟨.slice A 1 c,false,0,v.ownBlock.getD 0⟩,(λy=>if y=x then V x else V' y),U',rfl,⟨sC,ui,λq y hy=>?_,λy q hy=>?_,λn q hn=>?_,λq y hy=>?_⟩,⟨λq hq=>?_,λq y hy ku=>?_,λy q hy=>?_,h.ext.ux,λy q hy=>?_⟩,?_,?_,λq hq=>?_,?_⟩
 ·by_cases G_:q=pb
  ·subst G_
   rw[Gm]at hy ⊢;injection hy with hy;subst hy;obtain⟨g,cap,cur,jK,hg,aa,aE⟩:=Qp h.own (by omega);have WT:q≠mv:=λe=>by
    have hb:=h.Jm;rw[e]at hb;exact d_.no h.ES.ms hb
   have fk:ar w7 q 132 _:=ar.iF h.Jm kP WT;refine⟨some ⟨g,0,none⟩,cap,?_,λ_=>⟨by rw[jK];rfl,cur,?_,aE⟩⟩
   ·rw[jK]at fk;exact fk
   ·rw[jK]
    refine(kP.block g (BV.1 aa).1 (λe=>?_)).trans aa;have e:g=mv:=e;rw[e]at aa;exact d_.no h.ES.ms aa
  ·rw[Fk _ _ _ _ G_]at hy ⊢
   exact Y7 q y hy
 ·by_cases bU:y=x
  ·rw[Ch bU]at hy
   obtain⟨nw,h1⟩:=hl.vn x q hy;have hq:=hG q _ h1;refine⟨nw,?_⟩;rw[Fk _ _ _ _ (by omega),(h.ext.GD q (by omega)).1,Fk _ _ _ _ (by omega),bU];exact h1
  ·rw[Cg bU]at hy
   obtain⟨nw,h1⟩:=h.ES.vn y q hy;exact⟨nw,by rw[Fk _ _ _ _ (qX q _ h1)];exact h1⟩
 ·have h1:=h.ES.un n q hn
  rw[Fk _ _ _ _ (qX q _ h1)];exact h1
 ·by_cases G_:q=pb
  ·rw[G_,Gm];exact⟨rfl,rfl,_,_,_,rfl⟩
  ·rw[Fk _ _ _ _ G_]at hy ⊢;exact h.ES.dn q y hy
 ·have h1:q≠pb:=by omega
  have h2:q≠cb:=by omega
  have:=h.ext.GD q (by omega);rw[Fk _ _ _ _ h2,Fk _ _ _ _ h2]at this;rw[Fk _ _ _ _ h1,Fk _ _ _ _ h1];exact this
 ·by_cases G_:q=pb
  ·subst G_
   rw[Gm]at hy ⊢;injection hy with hy;subst hy;refine⟨by omega,λ_=>?_⟩;obtain⟨g,cap,cur,jK,hg,-,-⟩:=Qp h.own (by omega);rw[jK]
   show w.heap.size<=g;omega
  ·rw[Fk _ _ _ _ G_]at hy ⊢
   by_cases tU:q<w3.heap.size
   ·have h4:=h.ext.GD q tU
    rw[h4.1]at hy;by_cases tT:q=cb
    ·rw[tT,Gm]at hy
     injection hy with hy;subst hy;exact⟨by omega,λhk=>absurd rfl hk⟩
    ·rw[Fk _ _ _ _ tT]at hy
     have:=hG q y hy;omega
   ·obtain⟨a,b⟩:=h.ext.new q y hy (by omega)
    exact⟨by omega,λhk=>by have:=b hk;omega⟩
 ·show(if y=x then V x else V' y)=some q
  by_cases bU:y=x
  ·rw[Ch bU,<-bU];exact hy
  ·rw[Cg bU]
   exact h.ext.vx y q (by rw[Fk _ _ _ _ bU];exact hy)
 ·by_cases bU:y=x
  ·rw[Ch bU]at hy
   rw[bU];exact .inl hy
  ·rw[Cg bU]at hy
   rcases hV' y q hy bU with h1|⟨h1,h2⟩
   ·exact .inl h1
   ·exact .inr ⟨h1,by rw[Fk _ _ _ _ (qX q _ h2)];exact h2⟩
 ·refine .all _ _ _ _ q1 cb n1 (Gm _ _ _) (by rw[Fk _ _ _ _ (λe=>WW e.symm)];exact hcb) ?_
  refine(h.Hm 0 q1 t n1 rfl rfl rfl).more (λq y hy=>by rw[Fk _ _ _ _ (qX q y hy)];exact hy) (λ_ _ h=>h) (λy q hy=>?_);by_cases bU:y=x
  ·rw[bU,Gm,<-hVx,<-bU];exact hy
  ·rw[Fk _ _ _ _ bU,Cg bU];exact hy
 ·have nH:=h.rg
  have eJ:=h.nd;simp at nH eJ;rw[CO,CO];refine⟨λhm=>?_,λhm=>by have:=nH cb hm;omega,eJ⟩;rcases Cd.1 hm with e|e
  ·exact WW e
  ·have:=nH pb e;omega
 ·have nH:=h.rg
  simp at nH;rcases Cd.1 hq with e|e
  ·rw[e];omega
  ·rcases Cd.1 e with e|e
   ·rw[e];omega
   ·have:=nH q e;omega
 ·refine((hb.mono (M1:=λg=>g=mv\/g=mu) (λk _ e=>.inl e)).trans' h.iF (λk hk e=>?_)).trans' kP (λk _ e=>.inl e)
  rcases e with e|e|e
  ·exact .inl e
  ·exact .inr e
  ·omega
theorem zlV(n b mv mu:Nat)(S:Nat->Prop)(HT:UX n b mv mu S)(x:Name)(t:Ty)(v:Value)(w:World)(sl mk sr:Value)(G:Nat->Option Nd)(D:Nat->Dy)(V:Name->Option Nat)(U:Nat->Option Nat)(hn:(Ty.all x t).size<=n+1)
  (hb:ar w b 85 #[sl,.map (some mv),.map (some mu),mk,sr])(hl:Lays w mv mu G D V U)(ai:mv≠mu)(hv:nc S w (.all x t) v)(hS:∀g,S g->g<w.heap.size/\g≠mv/\g≠mu)(aw:Nm (.all x t)):Calls prog 33 #[.pointer (some ⟨b,0,none⟩),v] w (EV mv mu G D V U (.all x t) w):=by
 obtain⟨K,X,Z,A,m,c,rfl,hK,hX,hZ,cG,ha⟩:=hv.parts;replace hK:K=5:=hK;replace hX:X=⟨x.toArray⟩:=hX;replace hZ:Z=0:=hZ;replace cG:1=m:=cG;subst hK hX hZ cG;have yO:mv<w.heap.size:=d_.lt hl.ms;have WY:mu<w.heap.size:=d_.lt hl.mi;have zN:b≠mv:=λe=>d_.no hl.ms (e▸hb);have Xq:b≠mu:=λe=>d_.no hl.mi (e▸hb);have a8:=hb.lt;obtain⟨i0,bK,cj,bS,bC⟩:=Dx Ir;obtain⟨k1,k2,k3,jm,cJ⟩:=MU w (.cells #[.int .i64 5,.string ⟨x.toArray⟩,.int .i64 0,.slice A 1 c] 37) (.cells #[.int .i64 5,.string ⟨x.toArray⟩,.int .i64 0,.slice A 1 c,.slice none 0 0,.pointer (some ⟨w.heap.size+1+1,0,none⟩),.bool false,.bool false,.int .i64 0] 132) (.cells #[.int .i64 1,.string ⟨x.toArray⟩,.int .i64 0,.slice none 0 0,.slice none 0 0,.pointer none,.bool true,.bool false,.int .i64 0] 132);obtain⟨wb,WE⟩:∃wb,((w.alloc (.cells #[.int .i64 5,.string ⟨x.toArray⟩,.int .i64 0,.slice A 1 c] 37)).alloc (.cells #[.int .i64 5,.string ⟨x.toArray⟩,.int .i64 0,.slice A 1 c,.slice none 0 0,.pointer (some ⟨w.heap.size+1+1,0,none⟩),.bool false,.bool false,.int .i64 0] 132)).alloc (.cells #[.int .i64 1,.string ⟨x.toArray⟩,.int .i64 0,.slice none 0 0,.slice none 0 0,.pointer none,.bool true,.bool false,.int .i64 0] 132)=wb:=⟨_,rfl⟩;rw[WE]at k1 k2 k3 jm cJ
 have yZ:Lays wb mv mu G D V U:=hl.al λk hk=>cJ.block k hk;have rF:ar wb b 85 #[sl,.map (some mv),.map (some mu),mk,sr]:=hb.below cJ a8;have vR:Hid (Calls prog 69 #[.map (some mv),.string ⟨x.toArray⟩,.pointer (some ⟨w.heap.size+1+1,0,none⟩)] wb.drew λe w'=>e=.returned (UP wb.heap.size)/\Lb w' wb.heap.size mv x (V x)/\Jc w' mv (Gn V x (some (w.heap.size+1+1)))/\b_ (only mv) wb w'):=EP (by
  refine(zpp mv V x (w.heap.size+1+1) wb.drew (d_.al yZ.ms rfl (λ_ h=>h))).mono ?_;rintro e w' ⟨h1,h2,h3,h4⟩;exact⟨h1,h2,h3,⟨h4.os,h4.tape,h4.output,h4.size,h4.block⟩⟩)
 have q1:wb.cell? ⟨w.heap.size,1,none⟩=some (.string ⟨x.toArray⟩):=ar.cell k1 1;have q2:wb.cell? ⟨b,1,none⟩=some (.map (some mv)):=rF.cell 1;have q3:wb.cell? ⟨w.heap.size+1,5,none⟩=some (.pointer (some ⟨w.heap.size+1+1,0,none⟩)):=ar.cell k2 5;have bh:Hid (∀W:World,b_ (only mv) wb W->W.cell? ⟨w.heap.size,1,none⟩=some (.string ⟨x.toArray⟩)/\W.cell? ⟨b,1,none⟩=some (.map (some mv))/\W.cell? ⟨w.heap.size+1,5,none⟩=some (.pointer (some ⟨w.heap.size+1+1,0,none⟩))):=EP λW hc=>by
  have j1:=ar.iF k1 hc (by unfold only;omega);have j2:=ar.iF rF hc zN;have j3:=ar.iF k2 hc (by unfold only;omega);exact⟨j1.cell 1,j2.cell 1,j3.cell 5⟩
 have HB:=EP hb;have HA:=EP ha;have HS:=EP hS;have ej:Hid (Nm t):=EP (Mc aw 0 (by show 0<1;omega));have HN:=EP hn;have HL:=EP hl;have Ur:=EP yZ;have sd:=EP cJ;have jT:=EP jm;have K1:=EP k1;have K2:=EP k2;have K3:=EP k3;have HWB:=EP WE;clear hv hb hl hS aw ha hn k1 k2 k3 jm cJ WE yZ rF;go_enter_defers func33,ntmps33;go_upto_region 9 with fail;rw[HWB.o];clear HWB;go_region_held3 (λW:World=>W.cell? ⟨w.heap.size,1,none⟩=some (.string ⟨x.toArray⟩)/\W.cell? ⟨b,1,none⟩=some (.map (some mv))/\W.cell? ⟨w.heap.size+1,5,none⟩=some (.pointer (some ⟨w.heap.size+1+1,0,none⟩))) (first|(exact⟨q1,q2,q3⟩)|(exact bh.o _ C5.o))
  (((with_reducible refine vR.o.mono ?_);rintro e w3 ⟨rfl,ni,nX,c5⟩;unfold UP;have nW:=EP ni;have vh:=EP nX;have C5:=EP c5;clear ni nX c5))
 all_goals
  clear bh q1 q2 q3 vR;have dy:=C5.o.size;have jm:=jT.o;have jW:Hid (b_ (only mv) w w3):=EP ((b_.c_ sd.o).trans' C5.o (λ_ _ h=>h));have mX:ar w3 w.heap.size 37 #[.int .i64 5,.string ⟨x.toArray⟩,.int .i64 0,.slice A 1 c]:=ar.iF K1.o C5.o (by unfold only;omega);have Af:ar w3 (w.heap.size+1) 132 #[.int .i64 5,.string ⟨x.toArray⟩,.int .i64 0,.slice A 1 c,.slice none 0 0,.pointer (some ⟨w.heap.size+1+1,0,none⟩),.bool false,.bool false,.int .i64 0]:=ar.iF K2.o C5.o (by unfold only;omega);have hC3:ar w3 (w.heap.size+1+1) 132 #[.int .i64 1,.string ⟨x.toArray⟩,.int .i64 0,.slice none 0 0,.slice none 0 0,.pointer none,.bool true,.bool false,.int .i64 0]:=ar.iF K3.o C5.o (by unfold only;omega);have mZ:∀q y,G q=some y->q<w.heap.size:=λq y hy=>HL.o.lt hy;have iH:Lays w3 mv mu (Gn G (w.heap.size+1+1) (some ⟨1,⟨x.toArray⟩,0,[],none,true⟩)) (Gn D (w.heap.size+1+1) ⟨.slice none 0 0,false,0,0⟩) (Gn V x (some (w.heap.size+1+1))) U:=by
   have bH:=Ur.o.pd.Nl Ur.o.ms C5.o;refine⟨vh.o,d_.al Ur.o.mi (C5.o.block _ (d_.lt Ur.o.mi) (λe=>ai (show mu=mv from e).symm)) (λ_ h=>h),λq y hy=>?_,λy q hy=>?_,λk q hq=>?_,λq y hy=>?_⟩
   ·by_cases hq:q=w.heap.size+1+1
    ·subst hq
     rw[Gm]at hy ⊢;injection hy with hy;subst hy;exact⟨none,0,hC3,λhk=>absurd rfl hk⟩
    ·rw[Fk _ _ _ _ hq]at hy ⊢
     exact bH q y hy
   ·by_cases bU:y=x
    ·rw[bU,Gm]at hy
     injection hy with hy;subst hy;exact⟨true,by rw[Gm,bU]⟩
    ·rw[Fk _ _ _ _ bU]at hy
     obtain⟨nw,h1⟩:=HL.o.vn y q hy;have:=mZ q _ h1;exact⟨nw,by rw[Fk _ _ _ _ (by omega)];exact h1⟩
   ·have h1:=HL.o.un k q hq
    have:=mZ q _ h1;rw[Fk _ _ _ _ (by omega)];exact h1
   ·by_cases hq:q=w.heap.size+1+1
    ·rw[hq,Gm];exact⟨rfl,rfl,_,_,_,rfl⟩
    ·rw[Fk _ _ _ _ hq]at hy ⊢;exact HL.o.dn q y hy
  have lX:Gn G (w.heap.size+1+1) (some ⟨1,⟨x.toArray⟩,0,[],none,true⟩) (w.heap.size+1)=none:=by
   rw[Fk _ _ _ _ (by omega)];cases hq:G (w.heap.size+1) with
   |none=>rfl
   |some y=>have:=mZ _ y hq;omega
  have H0:=EP (GO.zero (kl:=[t]) Af iH);have zQ:=HB.o;have Aw:ar w3 b 85 #[sl,.map (some mv),.map (some mu),mk,sr]:=ar.iF zQ jW.o zN;have gF:=EP Aw;have nS:=EP dy;have gu:=EP mX;have mh:=EP lX;obtain⟨t0,t1,t2,t3,-,-,-,-,-⟩:=n_ mX;have arA:w.heap.size+3<=wb.heap.size:=by omega
  clear dy mX Af hC3 iH lX zQ Aw mZ K1 K2 K3 jm;go_wp2_with fail;go_loopg [58] 1 (λgg vi wr=>zqk mv mu (w.heap.size+1) 1 [t] 5 ⟨x.toArray⟩ 0 (.slice A 1 c) (.pointer (some ⟨w.heap.size+1+1,0,none⟩)) w3 (Gn G (w.heap.size+1+1) (some ⟨1,⟨x.toArray⟩,0,[],none,true⟩)) (Gn D (w.heap.size+1+1) ⟨.slice none 0 0,false,0,0⟩) (Gn V x (some (w.heap.size+1+1))) U gg vi wr)
  case atStart=>exact⟨0,_,_,_,_,_,_,_,rfl,rfl,by omega,H0.o⟩
  case round =>
   obtain⟨i,v,ids,aP,G',D',V',U',rfl,rfl,hi,hh⟩:=hrel;have fI:=hh.iF.size;have dy:=nS.o;by_cases af:i<1
   ·have ig:∀g,S g->wr.heap[g]?=w.heap[g]?:=λg hg=>(hh.iF.block g (by have:=(HS.o g hg).1;omega) (λh=>by
     rcases h with h|h|h
     ·exact(HS.o g hg).2.1 h
     ·exact(HS.o g hg).2.2 h
     ·have:=(HS.o g hg).1;omega)).trans (jW.o.block g (HS.o g hg).1 (HS.o g hg).2.1)
    obtain⟨g,u,K1,X1,Z1,A1,n1,c1,rfl,hg,e0,e1,e2,e3,hu,aG,aA,-,-⟩:=QJ (w':=wr) HA.o (show(kids (Ty.all x t)).length=1 from rfl) af ig;have kK:=M7 e0;have dD:u.size<=n:=by have:=HN.o;omega
    have WH:u=t:=by
     obtain⟨fB,e⟩:=hu;have h0:i=0:=by omega
     subst h0;exact e.symm
    have bT:Nm u:=by rw[WH];exact ej.o
    have xV:[t][i]?=some u:=by
     have h0:i=0:=by omega
     rw[h0,WH];rfl
    have cI:ar wr b 85 #[sl,.map (some mv),.map (some mu),mk,sr]:=ar.iF gF.o hh.iF (λh=>by rcases h with h|h|h;exact zN h;exact Xq h;omega);obtain⟨wa,oa⟩:∃wa,(wr.alloc (.cells #[.int .i64 K1,.string X1,.int .i64 Z1,.slice A1 n1 c1] 37)).drew=wa:=⟨_,rfl⟩;have jP:Below wr.heap.size wr wa:=by rw[<-oa];exact((Cc _ wr).alloc (BU _) _).drew
    have sn:wa.heap.size=wr.heap.size+1:=by rw[<-oa];show(wr.alloc _).heap.size=_;simp
    have ah:=HT u (.agg #[.int .i64 K1,.string X1,.int .i64 Z1,.slice A1 n1 c1]) wa sl mk sr G' D' V' U' dD (cI.below jP cI.lt) (hh.ES.al λk hk=>jP.block k hk) ai
     (aG.al (λ_ h=>h) (λg hg=>jP.block g (by have:=(HS.o g hg).1;omega))) (λg hg=>⟨by have:=(HS.o g hg).1;omega,(HS.o g hg).2⟩) bT
    rw[<-oa]at ah;have ak:=EP ah;have qB:=EP jP;have HH:=EP hh;have Ye:=EP xV;have X8:=EP oa;have A6:=EP sn;have q4:wr.cell? ⟨w.heap.size+1,4,none⟩=some v:=hh.Jm.cell 4;have cL:w.heap.size+1<wr.heap.size:=by omega
    have yI:∀k,v.ownBlock=some k->w3.heap.size<=k/\k<wr.heap.size:=λk hk=>⟨(s_ hh.own k hk).1,(s_ hh.own k hk).2.1⟩;have rQ:=EP yI;clear aG hu WH bT ah jP hh xV cI oa sn yI;go_upto_region 13 with fail
    refine wp_region_noPanic ?_;go_region_law (first
     |(go_simp;(with_reducible refine ak.o.mono ?_);rintro e w5 dE;obtain⟨p,tX,ia⟩:=dE.split;subst tX;rw[X8.o]at ia;have bE:=ia.iF;have eI:=bE.size;rw[A6.o]at eI;have eV:ar w5 (w.heap.size+1) 132 _:=ar.iF (HH.o.Jm.below qB.o HH.o.Jm.lt) bE (λh=>by rcases h with h|h <;> omega);have z4:w5.cell? ⟨w.heap.size+1,4,none⟩=some v:=eV.cell 4;have y4:(w5.alloc (.cells #[.pointer (some ⟨p,0,none⟩)] 75)).cell? ⟨w.heap.size+1,4,none⟩=some v:=(ar.alloc eV _).cell 4;have eO:w5.ownsRow w3.heap.size 75 1 v i (ids.map PK):=GF HH.o.own (λk hk=>(bE.block k (by rw[A6.o];have:=rQ.o k hk;omega) (λh=>by have:=rQ.o k hk;rcases h with h|h <;> omega)).trans (qB.o.block k (rQ.o k hk).2));have pO:Hid ((w5.alloc (.cells #[.pointer (some ⟨p,0,none⟩)] 75)).ownsRow w3.heap.size 75 1 v i (ids.map PK)):=EP (eO.alloc _);have dJ:Hid (∀j u,[Value.pointer (some ⟨p,0,none⟩)][j]?=some u->(w5.alloc (.cells #[.pointer (some ⟨p,0,none⟩)] 75)).cell? ((⟨w5.heap.size,0,none⟩:Addr).add j)=some u):=EP (Iz _ _ _ _ rfl);have nT:=EP ia;have vE:=EP eV;clear ia bE eV eO)
     |(refine step_append_lies _ (by rfl) _ _ _ (by rfl) w3.heap.size 75 i0 _ 1 8 underlying130 bK cj bS bC rfl (by decide) _ i (ids.map PK) (by rfl) pO.o ⟨w5.heap.size,0,none⟩ 1 1 [.pointer (some ⟨p,0,none⟩)] rfl rfl dJ.o (by intro u hu;simp at hu;subst hu;rfl) (by omega) (by unfold maxLen;omega) (by omega) (by simp;omega) _ rfl ?_;intro g6 c6 w6 dF ae bz uw;have ew:ar w6 (w.heap.size+1) 132 _:=(ar.alloc vE.o (.cells #[.pointer (some ⟨p,0,none⟩)] 75)).grown ae (λe=>by have:=rQ.o _ e.symm;omega);have v4:w6.cell? ⟨w.heap.size+1,4,none⟩=some v:=ew.cell 4;have f4:=ew.frozen 4;have l6:=ew.lt;have pQ:=EP dF;have vP:=EP ae;have gG:=EP bz;clear dF ae bz ew))
    all_goals
     refine NoPanic.normal ?_;go_wp2_with fail;go_roundg (1-(i+1))
     case measure=>omega
     case rel =>
      obtain⟨nY,eM,G2,D2,V2,U2,Xd⟩:=HH.o.next (by omega) (by omega) (by omega) (by omega) (by omega) mh.o Ye.o qB.o nT.o pQ.o vP.o (by have:=gG.o;simp at this;exact this);exact⟨i+1,_,nY,eM,G2,D2,V2,U2,rfl,by go_num,by omega,Xd⟩
   ·have eB:i=1:=by omega
    subst eB;have HH:=EP hh;clear hh;go_wp2_with fail;have W8:∀k,wb.heap.size<=k->k<=wb.heap.size+3->wr.heap[k]?=w3.heap[k]?:=λk h1 h2=>HH.o.iF.block k (by have:=nW.o.2.2.2.lt;omega) (λh=>by rcases h with h|h|h <;> omega);refine leaves_cons (f:=116) (args:=#[.pointer (some ⟨wb.heap.size+3,0,none⟩),.pointer (some ⟨wb.heap.size+2,0,none⟩),.pointer (some ⟨wb.heap.size,0,none⟩),.pointer (some ⟨wb.heap.size+1,0,none⟩)]) (by simp) (by simp[go_sem]) ?_;refine(zlT wb.heap.size mv V' x (V x) .returning wr (nW.o.al W8) HH.o.ES.ms).mono ?_;rintro e u' w7 ⟨rfl,rfl,m7,c7⟩;exact⟨_,results_tmp (show Tryz.f33.results=#[.tmp 4] from rfl) _ _ _,GO.all HH.o rfl rfl rfl rfl HL.o ai jW.o (by omega) (by omega) (by omega) (by omega) (by omega) m7 c7⟩
theorem znt(b mv mu:Nat)(S:Nat->Prop)(n:Nat)(hn:n<=2000000000000):UX n b mv mu S:=by
 induction n with
 |zero=>intro t v w sl mk sr G D V U h;rw[Gv]at h;omega
 |succ n ih =>
  have HT:=ih (by omega);intro t v w sl mk sr G D V U aA hb hl ai hv hS aw;cases t with
  |var x =>
   obtain⟨A,c,rfl,_⟩:=hv;exact zlU b mv mu x A 0 c w sl mk sr G D V U hb hl ai
  |mt k =>
   obtain⟨A,c,rfl,_⟩:=hv;exact zns b mv mu k A 0 c w sl mk sr G D V U hb hl ai
  |h_ d l=>exact zg4 n b mv mu S HT _ v w sl mk sr G D V U aA (.inl rfl) hb hl ai hv hS aw (by omega)
  |fn a d=>exact zg4 n b mv mu S HT _ v w sl mk sr G D V U aA (.inr rfl) hb hl ai hv hS aw (by omega)
  |all x t=>exact zlV n b mv mu S HT x t v w sl mk sr G D V U aA hb hl ai hv hS aw
end
section
open Go.RowKit Lx Tx Go.Maps Go.WideMaps
inductive Gi (K:Nat->Option Nat):Nat->Nat->Nat->Prop
 |nil (p:Nat):K p=none->Gi K p 0 p
 |step (p q n r:Nat):K p=some q->Gi K q n r->Gi K p (n+1) r
theorem Gi.M9 {K:Nat->Option Nat} {p n r m s:Nat}(h:Gi K p n r)(k:Gi K p m s):n=m/\r=s:=by
 induction h generalizing m s with
 |nil p hp =>
  cases k with
  |nil _ _=>exact⟨rfl,rfl⟩
  |step _ q n _ hq _=>rw[hp]at hq;cases hq
 |step p q n r hp _ ih =>
  cases k with
  |nil _ h=>rw[hp]at h;cases h
  |step _ q' n' _ fx hr =>
   rw[hp]at fx;injection fx with fx;subst fx;obtain⟨a,b⟩:=ih hr;exact⟨by rw[a],b⟩
theorem Gi.end {K:Nat->Option Nat} {p n r:Nat}(h:Gi K p n r):K r=none:=by
 induction h with
 |nil p h=>exact h
 |step _ _ _ _ _ _ ih=>exact ih
theorem Gi.short {K:Nat->Option Nat} {p q f:Nat}(hp:K p=some q)(hq:K q=some f)(n:Nat):∀x m r,m<=n->Gi K x m r->∃m',m'<=m/\Gi (Gn K p (some f)) x m' r:=by
 induction n with
 |zero =>
  intro x m r hm h;cases h with
  |nil _ h =>
   refine⟨0,BU _,.nil _ ?_⟩;rw[Fk _ _ _ _ (λe=>by rw[e,hp]at h;cases h)];exact h
  |step _ _ _ _ _ _=>omega
 |succ n ih =>
  intro x m r hm h;cases h with
  |nil _ h =>
   refine⟨0,BU _,.nil _ ?_⟩;rw[Fk _ _ _ _ (λe=>by rw[e,hp]at h;cases h)];exact h
  |step _ y k _ hy hr =>
   by_cases qF:x=p
   ·subst qF
    rw[hp]at hy;injection hy with hy;subst hy;cases hr with
    |nil _ h=>rw[hq]at h;cases h
    |step _ z j _ hz hr =>
     rw[hq]at hz;injection hz with hz;subst hz;obtain⟨j',hj,mC⟩:=ih f j r (by omega) hr;exact⟨j'+1,by omega,.step _ f _ _ (Gm _ _ _) mC⟩
   ·obtain⟨j',hj,mC⟩:=ih y k r (by omega) hr
    exact⟨j'+1,by omega,.step _ y _ _ (by rw[Fk _ _ _ _ qF];exact hy) mC⟩
structure Gl (w:World) (mk:Nat) (K:Nat->Option Nat) (hd:Nat->Nat):Prop where
 mp:Ms w mk K
 rep:∀p,∃n,Gi K p n (hd p)
 laid:∀x y,K x=some y->e_ w x/\e_ w y
theorem Gl.JC {w:World} {mk:Nat} {K:Nat->Option Nat} {hd:Nat->Nat}(h:Gl w mk K hd)(p:Nat):K p=none↔hd p=p:=by
 obtain⟨n,hn⟩:=h.rep p;constructor
 ·intro hp
  exact((Gi.nil (K:=K) p hp).M9 hn).2.symm
 ·intro hp
  rw[hp]at hn;exact hn.end
theorem Gl.idem {w:World} {mk:Nat} {K:Nat->Option Nat} {hd:Nat->Nat}(h:Gl w mk K hd)(p:Nat):hd (hd p)=hd p:=by
 obtain⟨n,hn⟩:=h.rep p;exact(h.JC _).1 hn.end
theorem Gl.al {w w':World} {mk:Nat} {K:Nat->Option Nat} {hd:Nat->Nat}(h:Gl w mk K hd)(hb:w'.heap[mk]?=w.heap[mk]?)(hk:∀x,e_ w x->e_ w' x):Gl w' mk K hd :=
 ⟨d_.al h.mp hb hk,h.rep,λx y hx=>⟨hk _ (h.laid x y hx).1,hk _ (h.laid x y hx).2⟩⟩
theorem e_.iF {w w':World} {mk x:Nat} {K:Nat->Option Nat}(h:e_ w x)(hm:Ms w mk K)(hc:b_ (only mk) w w'):e_ w' x:=by
 obtain⟨cs,hx⟩:=h;exact⟨cs,(hc.block x (BV.1 hx).1 (λe=>by
  have e:x=mk:=e;rw[e]at hx;exact d_.no hm hx)).trans hx⟩
def MB(mk:Nat)(hd:Nat->Nat)(p:Nat)(w:World)(e:Ending)(w':World):Prop :=
 e=.returned (.pointer (some ⟨hd p,0,none⟩))/\∃K',Gl w' mk K' hd/\b_ (only mk) w w'/\w'.heap.size=w.heap.size/\e_ w' (hd p)
def Rt(o:Option Nat)(v5 v6:Value):Prop:=(o=none/\v5=.pointer none/\v6=.bool false)\/∃q,o=some q/\v5=.pointer (some ⟨q,0,none⟩)/\v6=.bool true
theorem Rp(o:Option Nat):Rt o (Hc o) (.bool o.isSome):=by
 cases o with
 |none=>exact .inl ⟨rfl,rfl,rfl⟩
 |some q=>exact .inr ⟨q,rfl,rfl,rfl⟩
def zrU(mk:Nat)(hd:Nat->Nat)(p:Nat)(w:World)(gg:Nat)(v1 v5 v6:Value)(wr:World):Prop :=
 ∃(p' n:Nat) (K':Nat->Option Nat),gg=n/\v1=.pointer (some ⟨p',0,none⟩)/\Rt (K' p') v5 v6/\Gl wr mk K' hd/\Gi K' p' n (hd p)/\e_ wr p'/\b_ (only mk) w wr/\wr.heap.size=w.heap.size
theorem R9(b mk:Nat)(K:Nat->Option Nat)(hd:Nat->Nat)(p:Nat)(w:World)(c0 c1 c2 c4:Value)(hb:ar w b 85 #[c0,c1,c2,.map (some mk),c4])(hk:Gl w mk K hd)(hp:e_ w p):Calls prog 71 #[.pointer (some ⟨b,0,none⟩),.pointer (some ⟨p,0,none⟩)] w (MB mk hd p w):=by
 obtain⟨n0,fy⟩:=hk.rep p;have bw:(Instr.lookup 83 (.map (some mk)) (.pointer (some ⟨p,0,none⟩)) true).run prog w=.ok (.tuple #[Hc (K p),.bool (K p).isSome]) w :=
  d_.look hk.mp JN underlying83 (Pp _) p hp
 have q3:w.cell? ⟨b,3,none⟩=some (.map (some mk)):=hb.cell 3;have pj:b≠mk:=λe=>by rw[e]at hb;exact d_.no hk.mp hb
 have HB:=EP hb;have HK:=EP hk;have HP:=EP hp;have Yu:=EP fy;obtain⟨o5,ic⟩:∃o,Hc (K p)=o:=⟨_,rfl⟩;obtain⟨o6,oF⟩:∃o,(K p).isSome=o:=⟨_,rfl⟩;rw[ic,oF]at bw;have pR:=EP ic;have pQ:=EP oF;clear hb hk hp fy ic oF;go_in;go_wp2_with fail;go_loopg [1,5,6] n0 (λgg v1 v5 v6 wr=>zrU mk hd p w gg v1 v5 v6 wr)
 case atStart=>exact⟨p,n0,K,rfl,rfl,by have:=Rp (K p);rw[pR.o,pQ.o]at this;exact this,HK.o,Yu.o,HP.o,b_.refl _ _,rfl⟩
 case round =>
  obtain⟨p',n,K',lS,rfl,hos,fj,hr,bY,hc,hs⟩:=hrel;clear bw q3;have cI:=ar.iF HB.o hc pj;have q3:wr.cell? ⟨b,3,none⟩=some (.map (some mk)):=cI.cell 3;rcases hos with⟨hq,rfl,rfl⟩|⟨q,hq,rfl,rfl⟩
  ·skip
   have HR:Hid (p'=hd p):=EP ((Gi.nil (K:=K') p' hq).M9 hr).2;have Bs:=EP fj;have HP':=EP bY;have HC:=EP hc;have HS:=EP hs;clear hq hr fj bY hc hs lS cI;go_wp2_with fail;go_ret
   exact⟨by rw[HR.o];rfl,K',Bs.o,HC.o,HS.o,by rw[<-HR.o];exact HP'.o⟩
  ·skip
   obtain⟨-,ku⟩:=fj.laid p' q hq;have mN:(Instr.lookup 83 (.map (some mk)) (.pointer (some ⟨q,0,none⟩)) true).run prog wr=.ok (.tuple #[Hc (K' q),.bool (K' q).isSome]) wr :=
    d_.look fj.mp JN underlying83 (Pp _) q ku
   obtain⟨n',eX,To⟩:∃n',n=n'+1/\Gi K' q n' (hd p):=by
    cases hr with
    |nil _ h=>rw[hq]at h;cases h
    |step _ q' n' _ fx mC =>
     rw[hq]at fx;injection fx with fx;subst fx;exact⟨n',rfl,mC⟩
   cases hf:K' q with
   |none =>
    rw[hf]at mN;replace mN:(Instr.lookup 83 (.map (some mk)) (.pointer (some ⟨q,0,none⟩)) true).run prog wr=.ok (.tuple #[.pointer none,.bool false]) wr:=mN;have Bs:=EP fj;have Bl:=EP ku;have HC:=EP hc;have HS:=EP hs;have Yi:=EP To;have HF:=EP hf;have vJ:Hid (n'<gk):=EP (by omega);clear hq hr fj bY hc hs cI ku To hf lS eX;go_wp2_with fail;go_roundg n'
    case measure=>exact vJ.o
    case rel=>exact⟨q,n',K',rfl,rfl,.inl ⟨HF.o,rfl,rfl⟩,Bs.o,Yi.o,Bl.o,HC.o,HS.o⟩
   |some f =>
    rw[hf]at mN;replace mN:(Instr.lookup 83 (.map (some mk)) (.pointer (some ⟨q,0,none⟩)) true).run prog wr=.ok (.tuple #[.pointer (some ⟨f,0,none⟩),.bool true]) wr:=mN;obtain⟨w1,aC,aT,aS,j5⟩:=d_.store fj.mp JN underlying83 p' f bY;have fe:(Instr.mapUpdate 83 (.map (some mk)) (.pointer (some ⟨p',0,none⟩)) (.pointer (some ⟨f,0,none⟩))).run prog wr=.ok () w1:=aC;have bj:b_ (only mk) wr w1:=(b_.refl _ wr).grown aS (λk hk=>.inr (by injection hk with hk;exact hk.symm));have bD:∀x,e_ wr x->e_ w1 x:=λx hx=>hx.iF fj.mp bj;have aU:Gl w1 mk (Gn K' p' (some f)) hd:=⟨aT,λx=>by
     obtain⟨m,hm⟩:=fj.rep x;obtain⟨m',_,mC⟩:=Gi.short hq hf m x m _ (BU _) hm;exact⟨m',mC⟩,λx y hx=>by
     by_cases qF:x=p'
     ·rw[qF,Gm]at hx
      injection hx with hx;rw[qF,<-hx]
      exact⟨bD _ bY,bD _ (fj.laid q f hf).2⟩
     ·rw[Fk _ _ _ _ qF]at hx
      exact⟨bD _ (fj.laid x y hx).1,bD _ (fj.laid x y hx).2⟩⟩
    obtain⟨m',cQ,yi⟩:=Gi.short hq hf n' q n' _ (BU _) To;have Zd:(Instr.lookup 83 (.map (some mk)) (.pointer (some ⟨q,0,none⟩)) true).run prog w1=.ok (.tuple #[Hc (Gn K' p' (some f) q),.bool (Gn K' p' (some f) q).isSome]) w1 :=
     d_.look aU.mp JN underlying83 (Pp _) q (bD _ ku)
    obtain⟨o5,ic⟩:∃o,Hc (Gn K' p' (some f) q)=o:=⟨_,rfl⟩;obtain⟨o6,oF⟩:∃o,(Gn K' p' (some f) q).isSome=o:=⟨_,rfl⟩;rw[ic,oF]at Zd;have av:=ar.iF cI bj pj;have r3:w1.cell? ⟨b,3,none⟩=some (.map (some mk)):=av.cell 3;have pR:=EP ic;have pQ:=EP oF;have me:=EP aU;have Bl:=EP (bD _ ku);have HC:=EP (hc.trans bj);have HS:Hid (w1.heap.size=w.heap.size):=EP (by omega);have Yi:=EP yi;have vJ:Hid (m'<gk):=EP (by omega);clear hq hr fj bY hc hs cI ku To hf lS eX aC aT aS j5 bj bD aU cQ yi ic oF av;go_wp2_with fail;go_roundg m'
    case measure=>exact vJ.o
    case rel=>exact⟨q,m',_,rfl,rfl,by have:=Rp (Gn K' p' (some f) q);rw[pR.o,pQ.o]at this;exact this,me.o,Yi.o,Bl.o,HC.o,HS.o⟩
def F_(x y:Nd):Bool :=
 x.kd==y.kd&&x.kids.length==y.kids.length&&x.kd != 1 &&(x.kd != 3||decide (x.nm=y.nm))
theorem tR.facts {w:World} {p:Nat} {x:Nd} {d:Dy}(h:tR w p x d):∃A c,w.cell? ⟨p,0,none⟩=some (.int .i64 (x.kd:Nat))/\w.cell? ⟨p,1,none⟩=some (.string x.nm)/\w.cell? ⟨p,2,none⟩=some (.int .i64 (x.n:Nat))/\w.cell? ⟨p,4,none⟩=some (.slice A x.kids.length c)/\w.cell? ⟨p,5,none⟩=some (Hc x.h_)/\w.cell? ⟨p,6,none⟩=some (.bool x.new) /\
  (x.kids≠[]->A=some ⟨d.row,0,none⟩/\∃cur,w.heap[d.row]?=some (.cells cur 75 (0,0))/\∀(j q:Nat),x.kids[j]?=some q->cur[j]?=some (PK q)):=by
 obtain⟨A,c,hb,hr⟩:=h;exact⟨A,c,hb.cell 0,hb.cell 1,hb.cell 2,hb.cell 4,hb.cell 5,hb.cell 6,hr⟩
theorem U3(p q:Nat)(x y:Nd)(d e:Dy)(w:World)(hp:tR w p x d)(hq:tR w q y e):Calls prog 73 #[.pointer (some ⟨p,0,none⟩),.pointer (some ⟨q,0,none⟩)] w λr w'=>r=.returned (.bool (F_ x y))/\Below w.heap.size w w'/\w'.heap.size=w.heap.size:=by
 obtain⟨A,c,p0,p1,-,p4,-,-,-⟩:=hp.facts;obtain⟨B,c',q0,q1,-,q4,-,-,-⟩:=hq.facts;have cL:=hp.lt;have iU:=hq.lt;obtain⟨kx,nx,zx,lx,cx,wx⟩:=x;obtain⟨ky,ny,zy,ly,cy,wy⟩:=y;simp only at p0 p1 p4 q0 q1 q4;clear hp hq;obtain⟨m,hm⟩:∃m,lx.length=m:=⟨_,rfl⟩;obtain⟨m',cQ⟩:∃m,ly.length=m:=⟨_,rfl⟩;rw[hm]at p4;rw[cQ]at q4;by_cases hk:kx=ky
 ·subst hk
  by_cases hl:m=m'
  ·subst hl
   by_cases h1:kx=1
   ·have e1:((kx:Int)==1)=true:=by simp[h1]
    have hv:F_ ⟨kx,nx,zx,lx,cx,wx⟩ ⟨kx,ny,zy,ly,cy,wy⟩=false:=by simp[F_,h1]
    rw[hv];clear h1 hv hm cQ;go_in;go_wp2_with fail;go_quiet (fail)
    go_wp2_with fail;go_ret
    exact⟨rfl,EW (Cc _ w) _,rfl⟩
   ·have e1:((kx:Int)==1)=false:=by rw[Cz];intro e;simp at e;omega
    by_cases h3:kx=3
    ·have e3:((kx:Int)==3)=true:=by simp[h3]
     obtain⟨b,hb⟩:∃b,(nx.toList==ny.toList)=b:=⟨_,rfl⟩;have hv:F_ ⟨kx,nx,zx,lx,cx,wx⟩ ⟨kx,ny,zy,ly,cy,wy⟩=b:=by
      rw[<-hb];have hx:(nx.toList==ny.toList)=decide (nx=ny):=by
       rw[CL,CL];refine DM.2 ?_;rw[ED,EM];exact⟨λh=>by cases nx;cases ny;simp only[ByteArray.mk.injEq];exact Array.toList_inj.1 h,λh=>by rw[h]⟩
      rw[hx];simp[F_,h3,hm,cQ]
     rw[hv];clear h1 h3 hv hm cQ;go_in;go_wp2_with fail;go_quiet (fail)
     have p1':(w.drewN nq).cell? ⟨p,1,none⟩=some (.string nx):=p1;have q1':(w.drewN nq).cell? ⟨q,1,none⟩=some (.string ny):=q1;have p0':(w.drewN nq).cell? ⟨p,0,none⟩=some (.int .i64 (kx:Nat)):=p0;have HBQ:Hid (Below w.heap.size w (w.drewN nq)/\(w.drewN nq).heap.size=w.heap.size):=EP ⟨EW (Cc _ w) nq,rfl⟩;have qT:p<(w.drewN nq).heap.size:=cL;have hqq:q<(w.drewN nq).heap.size:=iU;clear p0 p1 p4 q0 q1 q4 cL iU;generalize w.drewN nq=W at *;go_wp2_with fail;go_region
     all_goals
      go_wp2_with fail;go_ret
      exact⟨rfl,HBQ.o.1.drew,HBQ.o.2⟩
    ·have e3:((kx:Int)==3)=false:=by rw[Cz];intro e;simp at e;omega
     have hv:F_ ⟨kx,nx,zx,lx,cx,wx⟩ ⟨kx,ny,zy,ly,cy,wy⟩=true:=by simp[F_,h1,h3,hm,cQ]
     rw[hv];clear h1 h3 hv hm cQ;go_in;go_wp2_with fail;go_quiet (fail)
     go_wp2_with fail;go_ret
     exact⟨rfl,EW (Cc _ w) _,rfl⟩
  ·have e1:((m:Int) ==(m':Int))=false:=by rw[Cz];intro e;simp at e;omega
   have hv:F_ ⟨kx,nx,zx,lx,cx,wx⟩ ⟨kx,ny,zy,ly,cy,wy⟩=false:=by simp[F_,hm,cQ,hl]
   rw[hv];clear hl hv hm cQ;go_in;go_wp2_with fail;go_quiet (fail)
   go_wp2_with fail;go_ret
   exact⟨rfl,EW (Cc _ w) _,rfl⟩
 ·have e1:((kx:Int) !=(ky:Int))=true:=by rw[bne_iff_ne];omega
  have hv:F_ ⟨kx,nx,zx,lx,cx,wx⟩ ⟨ky,ny,zy,ly,cy,wy⟩=false:=by simp[F_,hk]
  rw[hv];clear hk hv hm cQ;go_in;go_wp2_with fail;go_quiet (fail)
  go_wp2_with fail;go_ret
  exact⟨rfl,EW (Cc _ w) _,rfl⟩
end
section
open Go.RowKit Lx Tx Go.Maps Go.WideMaps
set_option maxRecDepth 100000
theorem Ow {w:World} {q u:Nat}(hq:e_ w q)(hu:e_ w u):(binOp BinOp.eql 75 (.pointer (some ⟨q,0,none⟩)) (.pointer (some ⟨u,0,none⟩))).run prog w=.ok (.bool (decide (q=u))) w:=by
 obtain⟨j,hj,hs⟩:∃j,prog.info? 132=some j/\j.size≠0:=by
  cases h:prog.info? 132 with
  |none=>have:=GQ;rw[h]at this;cases this
  |some j=>have:=GQ;rw[h]at this;exact⟨j,rfl,by simp at this;omega⟩
 by_cases h:q=u
 ·subst h
  rw[CD rfl];exact run_eql_ptr_same w _ underlying75 hj
 ·obtain⟨c1,h1⟩:=hq
  obtain⟨c2,h2⟩:=hu;rw[CF h];exact run_eql_ptr_other w underlying75 hj hs (λe=>h (by injection e)) h1 h2
structure Il (w:World) (bo bu ba bn u:Nat) (o a n:Bool):Prop where
 o:ar w bo 4 #[.bool o]
 u:ar w bu 75 #[.pointer (some ⟨u,0,none⟩)]
 a:ar w ba 4 #[.bool a]
 n:ar w bn 4 #[.bool n]
theorem Il.al {w w':World} {bo bu ba bn u:Nat} {o a n:Bool}(h:Il w bo bu ba bn u o a n)(h1:w'.heap[bo]?=w.heap[bo]?)(h2:w'.heap[bu]?=w.heap[bu]?)(h3:w'.heap[ba]?=w.heap[ba]?)(h4:w'.heap[bn]?=w.heap[bn]?):Il w' bo bu ba bn u o a n :=
 ⟨h.o.same h1,h.u.same h2,h.a.same h3,h.n.same h4⟩
theorem zq3(bo bu ba bn u q:Nat)(o a n:Bool)(x:Nd)(d:Dy)(w:World)(hN:Il w bo bu ba bn u o a n)(hx:tR w q x d)(hu:e_ w u)(h1:bo≠ba)(h2:bo≠bn)(h3:ba≠bn):Calls prog 158 #[.pointer (some ⟨q,0,none⟩),.pointer (some ⟨bo,0,none⟩),.pointer (some ⟨bu,0,none⟩),.pointer (some ⟨ba,0,none⟩),.pointer (some ⟨bn,0,none⟩)] w λe w'=>(∃v,e=.returned v) /\
   Il w' bo bu ba bn u (o||decide (q=u)) (a||decide (x.kd=5)) (n||x.new)/\b_ (λg=>g=bo\/g=ba\/g=bn) w w'/\w'.heap.size=w.heap.size:=by
 obtain⟨A,c,p0,-,-,-,-,p6,-⟩:=hx.facts;obtain⟨kx,nx,zx,lx,cx,wx⟩:=x;simp only at p0 p6 ⊢;have iU:=hx.lt;have WS:q≠bo:=by obtain⟨_,_,hb,_⟩:=hx;exact ar.Gw hb hN.o (by decide)
 have Tp:q≠ba:=by obtain⟨_,_,hb,_⟩:=hx;exact ar.Gw hb hN.a (by decide)
 have TF:bu≠bo:=ar.Gw hN.u hN.o (by decide);have jP:bu≠ba:=ar.Gw hN.u hN.a (by decide);have mV:bu≠bn:=ar.Gw hN.u hN.n (by decide);obtain⟨o',eW⟩:∃o',(o||decide (q=u))=o':=⟨_,rfl⟩;obtain⟨a',cB⟩:∃a',(a||decide (kx=5))=a':=⟨_,rfl⟩;obtain⟨n',eX⟩:∃n',(n||wx)=n':=⟨_,rfl⟩;obtain⟨w1,bX⟩:∃w1,w.setCell ⟨bo,0,none⟩ (.bool o')=w1:=⟨_,rfl⟩;obtain⟨w2,dw⟩:∃w2,w1.setCell ⟨ba,0,none⟩ (.bool a')=w2:=⟨_,rfl⟩;obtain⟨w3,mx⟩:∃w3,w2.setCell ⟨bn,0,none⟩ (.bool n')=w3:=⟨_,rfl⟩;have k1:∀g,g≠bo->w1.heap[g]?=w.heap[g]?:=λg hg=>by rw[<-bX];exact B8 _ _ _ _ hg
 have k2:∀g,g≠ba->w2.heap[g]?=w1.heap[g]?:=λg hg=>by rw[<-dw];exact B8 _ _ _ _ hg
 have k3:∀g,g≠bn->w3.heap[g]?=w2.heap[g]?:=λg hg=>by rw[<-mx];exact B8 _ _ _ _ hg
 have a1:=hN.a.same (k1 ba h1.symm);have n2:=(hN.n.same (k1 bn h2.symm)).same (k2 bn h3.symm);have o1:ar w1 bo 4 #[.bool o']:=by rw[<-bX];exact Cl w bo 0 _ _ _ hN.o
 have a2:ar w2 ba 4 #[.bool a']:=by rw[<-dw];exact Cl w1 ba 0 _ _ _ a1
 have n3:ar w3 bn 4 #[.bool n']:=by rw[<-mx];exact Cl w2 bn 0 _ _ _ n2
 have s1:w1.heap.size=w.heap.size:=by rw[<-bX];exact World.size_setCell _ _ _
 have s2:w2.heap.size=w1.heap.size:=by rw[<-dw];exact World.size_setCell _ _ _
 have s3:w3.heap.size=w2.heap.size:=by rw[<-mx];exact World.size_setCell _ _ _
 have pU:Hid (Il w3 bo bu ba bn u o' a' n'):=EP ⟨(o1.same (k2 bo h1)).same (k3 bo h2),((hN.u.same (k1 bu TF)).same (k2 bu jP)).same (k3 bu mV),a2.same (k3 ba h3),n3⟩;have jW:Hid (b_ (λg=>g=bo\/g=ba\/g=bn) w w3):=EP (by
  rw[<-mx,<-dw,<-bX];exact(((b_.refl _ w).setCell (p:=⟨bo,0,none⟩) (.inr (.inl rfl)) _).setCell (p:=⟨ba,0,none⟩) (.inr (.inr (.inl rfl))) _).setCell (p:=⟨bn,0,none⟩) (.inr (.inr (.inr rfl))) _)
 have nS:Hid (w3.heap.size=w.heap.size):=EP (by omega);have c0:w.cell? ⟨bo,0,none⟩=some (.bool o):=hN.o.cell 0;have c1:w.cell? ⟨bu,0,none⟩=some (.pointer (some ⟨u,0,none⟩)):=hN.u.cell 0;have c2:w1.cell? ⟨ba,0,none⟩=some (.bool a):=a1.cell 0;have c3:w2.cell? ⟨bn,0,none⟩=some (.bool n):=n2.cell 0;have f0:=hN.o.frozen 0;have f2:=a1.frozen 0;have f3:=n2.frozen 0;have l0:=hN.o.lt;have l1:=hN.u.lt;have l2:ba<w1.heap.size:=a1.lt;have l3:bn<w2.heap.size:=n2.lt;have lq1:q<w1.heap.size:=by omega
 have lq2:q<w2.heap.size:=by omega
 have x0:w1.cell? ⟨q,0,none⟩=some (.int .i64 (kx:Nat)):=(Ck (w:=w) (a:=⟨q,0,none⟩) (k1 q WS)).trans p0;have x6:w2.cell? ⟨q,6,none⟩=some (.bool wx):=(Ck (w:=w) (a:=⟨q,6,none⟩) ((k2 q Tp).trans (k1 q WS))).trans p6;have W1:=EP bX;have W2:=EP dw;have W3:=EP mx;have hD:(decide (kx=5))=((kx:Int)==5):=by rw[DM];simp;omega
 have u4:=hD;rw[hD]at cB;obtain⟨b5,aQ⟩:∃b,((kx:Int)==5)=b:=⟨_,rfl⟩;rw[aQ]at cB;obtain⟨bq,ja⟩:∃b,decide (q=u)=b:=⟨_,rfl⟩;have heq:=Ow hx.laid hu;rw[ja]at heq;rw[ja]at eW;have HQ:=EP ja;have H5:Hid (decide (kx=5)=b5):=EP (u4.trans aQ);clear u4 hN hx k1 k2 k3 a1 n2 o1 a2 n3 bX dw mx hD h1 h2 h3 WS Tp TF jP mV p0 p6 s1 s2 s3;cases o
 ·cases a
  ·cases n
   ·go_in
    go_upto_region 1 with fail;rw[DI]at eW;subst eW;rw[W1.o];go_upto_region 2 with fail;rw[DI]at cB;subst cB;rw[W2.o];go_wp2_with fail;rw[DI]at eX;subst eX;rw[W3.o];go_end0
    exact⟨⟨_,rfl⟩,by rw[HQ.o,H5.o];exact pU.o,jW.o,nS.o⟩
   ·go_in
    go_upto_region 1 with fail;rw[DI]at eW;subst eW;rw[W1.o];go_upto_region 2 with fail;rw[DI]at cB;subst cB;rw[W2.o];go_wp2_with fail;rw[DX]at eX;subst eX;rw[W3.o];go_end0
    exact⟨⟨_,rfl⟩,by rw[HQ.o,H5.o];exact pU.o,jW.o,nS.o⟩
  ·cases n
   ·go_in
    go_upto_region 1 with fail;rw[DI]at eW;subst eW;rw[W1.o];go_upto_region 2 with fail;rw[DX]at cB;subst cB;rw[W2.o];go_wp2_with fail;rw[DI]at eX;subst eX;rw[W3.o];go_end0
    exact⟨⟨_,rfl⟩,by rw[HQ.o,H5.o];exact pU.o,jW.o,nS.o⟩
   ·go_in
    go_upto_region 1 with fail;rw[DI]at eW;subst eW;rw[W1.o];go_upto_region 2 with fail;rw[DX]at cB;subst cB;rw[W2.o];go_wp2_with fail;rw[DX]at eX;subst eX;rw[W3.o];go_end0
    exact⟨⟨_,rfl⟩,by rw[HQ.o,H5.o];exact pU.o,jW.o,nS.o⟩
 ·cases a
  ·cases n
   ·go_in
    go_upto_region 1 with fail;rw[DX]at eW;subst eW;rw[W1.o];go_upto_region 2 with fail;rw[DI]at cB;subst cB;rw[W2.o];go_wp2_with fail;rw[DI]at eX;subst eX;rw[W3.o];go_end0
    exact⟨⟨_,rfl⟩,by rw[HQ.o,H5.o];exact pU.o,jW.o,nS.o⟩
   ·go_in
    go_upto_region 1 with fail;rw[DX]at eW;subst eW;rw[W1.o];go_upto_region 2 with fail;rw[DI]at cB;subst cB;rw[W2.o];go_wp2_with fail;rw[DX]at eX;subst eX;rw[W3.o];go_end0
    exact⟨⟨_,rfl⟩,by rw[HQ.o,H5.o];exact pU.o,jW.o,nS.o⟩
  ·cases n
   ·go_in
    go_upto_region 1 with fail;rw[DX]at eW;subst eW;rw[W1.o];go_upto_region 2 with fail;rw[DX]at cB;subst cB;rw[W2.o];go_wp2_with fail;rw[DI]at eX;subst eX;rw[W3.o];go_end0
    exact⟨⟨_,rfl⟩,by rw[HQ.o,H5.o];exact pU.o,jW.o,nS.o⟩
   ·go_in
    go_upto_region 1 with fail;rw[DX]at eW;subst eW;rw[W1.o];go_upto_region 2 with fail;rw[DX]at cB;subst cB;rw[W2.o];go_wp2_with fail;rw[DX]at eX;subst eX;rw[W3.o];go_end0
    exact⟨⟨_,rfl⟩,by rw[HQ.o,H5.o];exact pU.o,jW.o,nS.o⟩
end
section
open Go.RowKit Lx Tx Go.Maps Go.WideMaps
def NB(w:World)(e:Ending)(w':World):Prop :=
 ∃b mv mu mk,e=.returned (.pointer (some ⟨b,0,none⟩))/\ar w' b 85 #[.slice none 0 0,.map (some mv),.map (some mu),.map (some mk),.int .i64 0] /\
  Jc w' mv (λ_=>none)/\Ku w' mu (λ_=>none)/\Gl w' mk (λ_=>none) (λp=>p)/\mv≠mu/\mv≠mk/\mu≠mk/\Below w.heap.size w w'/\w.heap.size<=mv/\w.heap.size<=mu/\w.heap.size<=mk/\w.heap.size<=b
theorem zrz(w:World):Calls prog 32 #[] w (NB w):=by
 have aT:∀w,(Instr.makeMap 81 none).run prog w=.ok (.map (some w.heap.size)) (w.alloc (.map #[] 0)):=λ_=>rfl;have bL:∀w,(Instr.makeMap 82 none).run prog w=.ok (.map (some w.heap.size)) (w.alloc (.map #[] 0)):=λ_=>rfl;have wF:∀w,(Instr.makeMap 83 none).run prog w=.ok (.map (some w.heap.size)) (w.alloc (.map #[] 0)):=λ_=>rfl;obtain⟨l0,l1,l2,l3,dz,dW⟩:=MS w (.map #[] 0) (.map #[] 0) (.map #[] 0) (.cells #[.slice none 0 0,.map (some w.heap.size),.map (some (w.heap.size+1)),.map (some (w.heap.size+1+1)),.int .i64 0] 85);have Tg:∀ {κ:Type} [DecidableEq κ] (kv:κ->Value) (ok:World->κ->Prop) (W:World) (g:Nat),W.heap[g]?=some (.map #[] 0)->d_ kv ok W g (λ_=>none):=λkv ok W g h =>
  ⟨#[],0,[],h,rfl,Dr,(λ_ h=>by cases h),(λ_=>rfl),(λ_ h=>by cases h),Dr⟩
 obtain⟨w4,fp⟩:∃W,(((w.alloc (.map #[] 0)).alloc (.map #[] 0)).alloc (.map #[] 0)).alloc (.cells #[.slice none 0 0,.map (some w.heap.size),.map (some (w.heap.size+1)),.map (some (w.heap.size+1+1)),.int .i64 0] 85)=W:=⟨_,rfl⟩;rw[fp]at l0 l1 l2 l3 dz dW;have aR:Hid (ar w4 (w.heap.size+1+1+1) 85 #[.slice none 0 0,.map (some w.heap.size),.map (some (w.heap.size+1)),.map (some (w.heap.size+1+1)),.int .i64 0]/\Jc w4 w.heap.size (λ_=>none)/\Ku w4 (w.heap.size+1) (λ_=>none)/\Gl w4 (w.heap.size+1+1) (λ_=>none) (λp=>p)/\Below w.heap.size w w4):=EP
  ⟨l3,Tg _ _ _ _ l0,Tg _ _ _ _ l1,⟨Tg _ _ _ _ l2,λp=>⟨0,.nil p rfl⟩,λ_ _ h=>by cases h⟩,dW⟩
 have jf:=EP fp;clear l0 l1 l2 l3 dz dW fp Tg;go_in;go_wp2_with fail;rw[jf.o];go_ret
 exact⟨w.heap.size+1+1+1,w.heap.size,w.heap.size+1,w.heap.size+1+1,rfl,aR.o.1,aR.o.2.1,aR.o.2.2.1,aR.o.2.2.2.1,by omega,by omega,by omega,aR.o.2.2.2.2,by omega,by omega,by omega,by omega⟩
structure Lt (b mv mu mk:Nat) (w0:World) (G:Nat->Option Nd) (D:Nat->Dy) (V:Name->Option Nat) (U:Nat->Option Nat) (W:World):Prop where
 sb:ar W b 85 #[.slice none 0 0,.map (some mv),.map (some mu),.map (some mk),.int .i64 0]
 ES:Lays W mv mu G D V U
 vf:∀x p,V x=some p->G p=some ⟨1,⟨x.toArray⟩,0,[],none,false⟩
 kn:Gl W mk (λ_=>none) (λp=>p)
 ch:b_ (λg=>g=mv\/g=mu) w0 W
 lo:∀q x,G q=some x->w0.heap.size<=q
theorem Lt.al {b mv mu mk:Nat} {w0:World} {G:Nat->Option Nd} {D:Nat->Dy} {V:Name->Option Nat} {U:Nat->Option Nat} {W W':World}(h:Lt b mv mu mk w0 G D V U W)(hb:Below W.heap.size W W'):Lt b mv mu mk w0 G D V U W' :=
 ⟨h.sb.below hb h.sb.lt,h.ES.al hb.block,h.vf,h.kn.al (hb.block _ (d_.lt h.kn.mp)) (λx ⟨cs,hx⟩=>⟨cs,(hb.block x (BV.1 hx).1).trans hx⟩),h.ch.below hb,h.lo⟩
def Ob(b mv mu mk:Nat)(w0:World)(G:Nat->Option Nd)(D:Nat->Dy)(V:Name->Option Nat)(U:Nat->Option Nat)(W:World)(t:Ty)(p:Nat)(W':World):Prop :=
 ∃nl G' D' V' U',Lt b mv mu mk w0 G' D' V' U' W'/\G6 W.heap.size W'.heap.size G G' D D' V V' U U'/\FF G' U' V' p t nl/\nl.Nodup/\(∀q∈nl,W.heap.size<=q/\q<W'.heap.size)/\b_ (λg=>g=mv\/g=mu) W W'
def Rk(b mv mu mk:Nat)(w0:World)(G:Nat->Option Nd)(D:Nat->Dy)(V:Name->Option Nat)(U:Nat->Option Nat)(W:World)(t u:Ty)(p q:Nat)(W':World):Prop :=
 ∃nl nr G' D' V' U',Lt b mv mu mk w0 G' D' V' U' W'/\G6 W.heap.size W'.heap.size G G' D D' V V' U U'/\FF G' U' V' p t nl/\FF G' U' V' q u nr/\(nl++nr).Nodup/\(∀x∈nl++nr,W.heap.size<=x/\x<W'.heap.size)/\b_ (λg=>g=mv\/g=mu) W W'
section
variable {b mv mu mk:Nat} {w0:World} {G:Nat->Option Nd} {D:Nat->Dy} {V:Name->Option Nat} {U:Nat->Option Nat} {W:World} {S:Nat->Prop}
theorem zkN(h:Lt b mv mu mk w0 G D V U W)(ai:mv≠mu/\mk≠mv/\mk≠mu) {t:Ty} {v:Value}(aA:t.size<=2000000000000)(hv:nc S W t v)(hS:∀g,S g->g<W.heap.size/\g≠mv/\g≠mu)(aw:Nm t):Calls prog 33 #[.pointer (some ⟨b,0,none⟩),v] W λe W'=>∃p,e=.returned (.pointer (some ⟨p,0,none⟩))/\Ob b mv mu mk w0 G D V U W t p W':=by
 refine(znt b mv mu S 2000000000000 (BU _) t v W _ _ _ G D V U aA h.sb h.ES ai.1 hv hS aw).mono ?_;rintro e W' ⟨p,ns,G',D',V',U',rfl,h1,h2,h3,h4,h5,h6⟩;have bN:∀(g:Nat) (cs:Array Value) (t:TypeId),W.heap[g]?=some (.cells cs t (0,0))->W'.heap[g]?=W.heap[g]?:=λg cs t hg=>h6.block g (BV.1 hg).1 (by
  rintro(e|e)
  ·rw[e]at hg;exact d_.no h.ES.ms hg
  ·rw[e]at hg;exact d_.no h.ES.mi hg)
 refine⟨p,rfl,ns,G',D',V',U',⟨h.sb.same (bN _ _ _ h.sb),h1,λx q hx=>?_,h.kn.al (h6.block _ (d_.lt h.kn.mp) (by rintro(e|e);exact ai.2.1 e;exact ai.2.2 e)) (λx ⟨cs,hx⟩=>⟨cs,(bN x cs _ hx).trans hx⟩),h.ch.trans h6,λq x hx=>?_⟩,h2,h3,h4,h5,h6⟩;rotate_left
 ·by_cases e:q<W.heap.size
  ·rw[(h2.GD q e).1]at hx;exact h.lo q x hx
  ·have:=h.ch.size;omega
 rcases h2.vn x q hx with h7|⟨_,h7⟩
 ·have h8:=h.vf x q h7
  rw[(h2.GD q (h.ES.lt h8)).1];exact h8
 ·exact h7
theorem Ob.two {W1 W2:World} {t u:Ty} {p q:Nat} {nl:List Nat} {G1:Nat->Option Nd} {D1:Nat->Dy} {V1:Name->Option Nat} {U1:Nat->Option Nat}
  (h:Lt b mv mu mk w0 G1 D1 V1 U1 W1/\G6 W.heap.size W1.heap.size G G1 D D1 V V1 U U1/\FF G1 U1 V1 p t nl/\nl.Nodup/\(∀q∈nl,W.heap.size<=q/\q<W1.heap.size)/\b_ (λg=>g=mv\/g=mu) W W1)
  (k:Ob b mv mu mk w0 G1 D1 V1 U1 W1 u q W2):Rk b mv mu mk w0 G D V U W t u p q W2:=by
 obtain⟨h1,h2,h3,h4,h5,h6⟩:=h;obtain⟨nr,G2,D2,V2,U2,k1,k2,k3,k4,k5,k6⟩:=k;have s1:=h6.size;have s2:=k6.size;refine⟨nl,nr,G2,D2,V2,U2,k1,h2.trans k2 s1 s2 (λx p hx=>h1.ES.lt (h1.vf x p hx)),h3.more (k2.gx λq x hx=>h1.ES.lt hx) k2.ux k2.vx,k3,DP.2 ⟨h4,k4,λa ha b hb e=>?_⟩,λx hx=>?_,h6.trans k6⟩
 ·have:=h5 a ha;have:=k5 b hb;omega
 ·rcases Cr.1 hx with hx|hx
  ·have:=h5 x hx;omega
  ·have:=k5 x hx;omega
theorem Ob.next(ai:mv≠mu/\mk≠mv/\mk≠mu) {W1:World} {t u:Ty} {p:Nat}(h:Ob b mv mu mk w0 G D V U W t p W1) {v:Value}(aA:u.size<=2000000000000)(hv:nc S W u v)(hS:∀g,S g->g<W.heap.size/\g≠mv/\g≠mu)(aw:Nm u):Calls prog 33 #[.pointer (some ⟨b,0,none⟩),v] W1 λe W'=>∃q,e=.returned (.pointer (some ⟨q,0,none⟩))/\Rk b mv mu mk w0 G D V U W t u p q W':=by
 obtain⟨nl,G1,D1,V1,U1,h1,h2,h3,h4,h5,h6⟩:=h;have s1:=h6.size;refine(zkN h1 ai aA (hv.al (λ_ h=>h) (λg hg=>h6.block g (hS g hg).1 (by rintro(e|e);exact(hS g hg).2.1 e;exact(hS g hg).2.2 e))) (λg hg=>by have:=hS g hg;exact⟨by omega,this.2⟩) aw).mono ?_;rintro e W2 ⟨q,rfl,hk⟩;exact⟨q,rfl,Ob.two ⟨h1,h2,h3,h4,h5,h6⟩ hk⟩
end
end
end Go.Proofs.YtfafilmklhnngaaGreatDoor
