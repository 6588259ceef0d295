import Derived.Test.YtfafilmklhnngaaGreatDoorBiW
import Derived.Test.YtfafilmklhnngaaGreatDoorBiAB
set_option maxHeartbeats 12800000
namespace Go.Proofs.YtfafilmklhnngaaGreatDoor
open Go.RowKit Lx Tx Go.Maps Go.WideMaps
set_option maxRecDepth 100000
theorem zdA {w:World} {B:Nat} {e:TypeId} {n:Nat} {v:Value} {l:List Nat}(h:w.ownsRow B e 1 v n (l.map PK))(hn:n≠0):∃g cap cur,v=.slice (some ⟨g,0,none⟩) n cap/\B<=g/\w.heap[g]?=some (.cells cur e (0,0))/\∀(j q:Nat),l[j]?=some q->cur[j]?=some (PK q):=by
 rcases h.2 with⟨_,h0⟩|⟨g,cap,cur,hv,hg,hb,_,_,_,ht⟩
 ·exact absurd h0 hn
 ·refine⟨g,cap,cur,hv,hg,hb,λj q hq=>?_⟩
  have hj:j<n:=by
   have h1:=h.1;rw[List.length_map,Nat.mul_one]at h1
   have:=(List.getElem?_eq_some_iff.1 hq).1;omega
  have:=congrArg (λm=>m[j]?) ht;simp only[Nat.mul_one,List.getElem?_take,hj,if_true,List.getElem?_map,hq,Option.map_some,Array.getElem?_toList]at this;exact this
theorem HeadI.app {mv mu pb:Nat} {t:Ty} {A:Option Addr} {m c:Nat} {w w3:World} {G:Nat->Option Nd} {D:Nat->Dy} {V:Name->Option Nat} {U:Nat->Option Nat} {v:Value} {ids:List Nat} {nss:List (List Nat)} {K Z:Int} {X:ByteArray}
  {G':Nat->Option Nd} {D':Nat->Dy} {V':Name->Option Nat} {U':Nat->Option Nat} {wr:World} (h:HeadI mv mu pb (kids t) K X Z (.slice A m c) (.pointer none) w3 G D V U m v ids nss G' D' V' U' wr)
  (hK:K=(kd t:Nat))(hX:X=nmB t)(hZ:Z=(nn t:Nat))(hkm:(kids t).length=m)(ht:kd t=3\/kd t=4)(hb:Below w.heap.size w w3)(hp1:w.heap.size<=pb)(hp2:pb<w3.heap.size)(hG:∀q x,G q=some x->q<w.heap.size):PartPost mv mu G D V U t w (.returned (.pointer (some ⟨pb,0,none⟩))) wr:=by
 subst hK hX hZ;have hs3:=hb.size;have hsr:=h.chg.size;have hn0:nn t=0:=by cases t <;> first|rfl|(simp[kd]at ht)
 have hGpb:G' pb=none:=by
  rw[(h.ext.old pb hp2).1]
  cases hq:G pb with
  |none=>rfl
  |some x=>have:=hG pb x hq;omega
 have hne:∀q x,G' q=some x->q≠pb:=λq x hx e=>by rw[e,hGpb]at hx;cases hx
 refine⟨pb,pb::nss.flatten,upn G' pb (some ⟨kd t,nmB t,0,ids,none,false⟩),upn D' pb ⟨.slice A m c,false,0,v.ownBlock.getD 0⟩,V',U',rfl,⟨h.lays.ms,h.lays.mi,λq x hx=>?_,λy q hy=>?_,λn q hn=>?_,λq x hx=>?_⟩,⟨λq hq=>?_,λq x hx hlq=>?_,h.ext.vx,h.ext.ux,λy q hy=>?_⟩,?_,?_,λq hq=>?_,?_⟩
 ·by_cases hqp:q=pb
  ·subst hqp
   rw[zak]at hx ⊢
   injection hx with hx;subst hx;obtain⟨A',c',hv⟩:=zao h.own;refine⟨A',c',?_,λhk=>?_⟩
   ·have:=h.blk
    rw[hv]at this
    simp only[h.li];rw[hn0]at this
    exact this
   ·have hm0:m≠0:=λe=>hk (by
     have h1:ids.length=0:=by rw[h.li,e]
     exact List.eq_nil_of_length_eq_zero h1)
    obtain⟨g,cap,cur,hv',hg,hcur,hrow⟩:=zdA h.own hm0;rw[hv']at hv
    injection hv with hv1 _ _;refine⟨?_,cur,?_,hrow⟩
    ·rw[<-hv1,hv'];rfl
    ·rw[hv'];exact hcur
  ·rw[zac _ _ _ _ hqp]at hx ⊢
   exact h.lays.pd q x hx
 ·obtain⟨nw,h1⟩:=h.lays.vn y q hy
  exact⟨nw,by rw[zac _ _ _ _ (hne q _ h1)];exact h1⟩
 ·have h1:=h.lays.un n q hn
  rw[zac _ _ _ _ (hne q _ h1)];exact h1
 ·by_cases hqp:q=pb
  ·rw[hqp,zak];exact⟨rfl,rfl,_,_,_,rfl⟩
  ·rw[zac _ _ _ _ hqp]at hx ⊢;exact h.lays.dn q x hx
 ·have:q≠pb:=by omega
  rw[zac _ _ _ _ this,zac _ _ _ _ this]
  exact h.ext.old q (by omega)
 ·by_cases hqp:q=pb
  ·subst hqp
   rw[zak]at hx ⊢
   injection hx with hx;subst hx;refine⟨by omega,λhk=>?_⟩;have hm0:m≠0:=λe=>hk (by
    have h1:ids.length=0:=by rw[h.li,e]
    exact List.eq_nil_of_length_eq_zero h1)
   obtain⟨g,cap,cur,hv',hg,-,-⟩:=zdA h.own hm0;rw[hv']
   show w.heap.size<=g;omega
  ·rw[zac _ _ _ _ hqp]at hx ⊢
   by_cases hq3:q<w3.heap.size
   ·rw[(h.ext.old q hq3).1]at hx
    have:=hG q x hx;omega
   ·obtain⟨a,b⟩:=h.ext.new q x hx (by omega)
    exact⟨a,λhk=>by have:=b hk;omega⟩
 ·rcases h.ext.vn y q hy with h1|⟨h1,h2⟩
  ·exact .inl h1
  ·exact .inr ⟨h1,by rw[zac _ _ _ _ (hne q _ h2)];exact h2⟩
 ·exact .app _ _ _ ids nss ht (zak _ _ _) (by rw[h.li,hkm]) (by rw[h.ln,hkm]) λi q u ns h1 h2 h3=>(h.kid i q u ns h1 h2 h3).more (λq x hx=>by rw[zac _ _ _ _ (hne q x hx)];exact hx) (λ_ _ h=>h) (λ_ _ h=>h)
 ·rw[List.nodup_cons]
  exact⟨λhm=>by have:=h.rg pb hm;omega,h.nd⟩
 ·rcases List.mem_cons.1 hq with e|e
  ·rw[e];omega
  ·have:=h.rg q e;omega
 ·exact(Chg.of_below hb).trans' h.chg (λk hk e=>by
   rcases e with e|e|e
   ·exact .inl e
   ·exact .inr e
   ·omega)
def znA(mv mu pb m:Nat)(kl:List Ty)(K:Int)(X:ByteArray)(Z:Int)(TA con:Value)(w3:World)(G1:Nat->Option Nd)(D1:Nat->Dy)(V1:Name->Option Nat)(U1:Nat->Option Nat)(gg:Nat)(vi:Value)(wr:World):Prop :=
 ∃(i:Nat) (v:Value) (ids:List Nat) (nss:List (List Nat)) (G':Nat->Option Nd) (D':Nat->Dy) (V':Name->Option Nat) (U':Nat->Option Nat),gg=m-i/\vi=.int .i64 i/\i<=m/\HeadI mv mu pb kl K X Z TA con w3 G1 D1 V1 U1 i v ids nss G' D' V' U' wr
theorem infoPtr:(Tryz.prog.info? 75).map (λi=>(i.zero,i.size,i.bytes))=some (some (.pointer none),1,8):=by kernel_rfl
theorem zfI(n b mv mu:Nat)(S:Nat->Prop)(HT:zhM n b mv mu S)(t:Ty)(v:Value)(w:World)(sl mk sr:Value)(G:Nat->Option Nd)(D:Nat->Dy)(V:Name->Option Nat)(U:Nat->Option Nat)(hn:t.size<=n+1)(hk34:kd t=3\/kd t=4)
  (hb:Blk w b 85 #[sl,.map (some mv),.map (some mu),mk,sr])(hl:Lays w mv mu G D V U)(hne:mv≠mu)(hv:RdV S w t v)(hS:∀g,S g->g<w.heap.size/\g≠mv/\g≠mu)(hnm:Nm t)(hsz:t.size<=1000000):Calls Tryz.prog 33 #[.pointer (some ⟨b,0,none⟩),v] w (PartPost mv mu G D V U t w):=by
 obtain⟨K,X,Z,A,m,c,rfl,hK,hX,hZ,hkm,ha⟩:=hv.parts;have hlen:=zbk t;have hmt:m<1000000:=by omega
 have d1:((K:Int)==1)=false:=by rw[hK];rcases hk34 with e|e <;> rw[e] <;> rfl
 have d2:((K:Int)==2)=false:=by rw[hK];rcases hk34 with e|e <;> rw[e] <;> rfl
 have d5:((K:Int)==5)=false:=by rw[hK];rcases hk34 with e|e <;> rw[e] <;> rfl
 have hmv:mv<w.heap.size:=MapK.lt hl.ms;have hmu:mu<w.heap.size:=MapK.lt hl.mi;have hbv:b≠mv:=λe=>MapK.no hl.ms (e▸hb);have hbu:b≠mu:=λe=>MapK.no hl.mi (e▸hb);have hbl:=hb.lt;have hGl:∀q x,G q=some x->q<w.heap.size:=λq x hx=>hl.lt hx;obtain⟨i0,hi0,hz0,hz1,hz2⟩:=info_parts infoPtr;obtain⟨w3,hw3⟩:∃w3,(w.alloc (.cells #[.int .i64 K,.string X,.int .i64 Z,.slice A m c] 37)).alloc (.cells #[.int .i64 K,.string X,.int .i64 Z,.slice A m c,.slice none 0 0,.pointer none,.bool false,.bool false,.int .i64 0] 132)=w3:=⟨_,rfl⟩;have hb3:Below w.heap.size w w3:=by rw[<-hw3];exact((Below.refl _ w).alloc (Nat.le_refl _) _).alloc (by simp) _
 have hs3:w3.heap.size=w.heap.size+2:=by rw[<-hw3];simp
 have hT3:Blk w3 w.heap.size 37 #[.int .i64 K,.string X,.int .i64 Z,.slice A m c]:=by rw[<-hw3];exact Blk.alloc (heap_alloc_new w _) _
 have hP3:Blk w3 (w.heap.size+1) 132 #[.int .i64 K,.string X,.int .i64 Z,.slice A m c,.slice none 0 0,.pointer none,.bool false,.bool false,.int .i64 0]:=by
  rw[<-hw3]
  have:=heap_alloc_new (w.alloc (.cells #[.int .i64 K,.string X,.int .i64 Z,.slice A m c] 37)) (.cells #[.int .i64 K,.string X,.int .i64 Z,.slice A m c,.slice none 0 0,.pointer none,.bool false,.bool false,.int .i64 0] 132);rw[show(w.alloc (.cells #[.int .i64 K,.string X,.int .i64 Z,.slice A m c] 37)).heap.size=w.heap.size+1 by simp]at this
  exact this
 have hl3:Lays w3 mv mu G D V U:=hl.keep λk hk=>hb3.block k hk;have hG1:G (w.heap.size+1)=none:=by
  cases hq:G (w.heap.size+1) with
  |none=>rfl
  |some x=>have:=hGl _ x hq;omega
 have H0:=hidE (HeadI.zero (kl:=kids t) hP3 hl3);have HB:=hidE hb;have HB3:=hidE hb3;have HS3:=hidE hs3;have HT3:=hidE hT3;have HA:=hidE ha;have HS:=hidE hS;have HNK:Hid (∀i (hi:i<(kids t).length),Nm (kids t)[i]):=hidE λi hi=>zco hnm i hi;have HKM:=hidE hkm;have HK:=hidE hK;have HX:=hidE hX;have HZ:=hidE hZ;have HN:=hidE hn;have HGL:=hidE hGl;have HG1:=hidE hG1;have HW3:=hidE hw3;clear hv hb hl hS hnm hK hX hZ hkm ha hn hGl hb3 hs3 hT3 hP3 hl3 hG1 hw3 hsz hlen;go_enter_defers Tryz.func33,Tryz.ntmps33
 go_wp2_with fail
 rw[HW3.out]
 clear HW3;go_loopg [58] m (λgg vi wr=>znA mv mu (w.heap.size+1) m (kids t) K X Z (.slice A m c) (.pointer none) w3 G D V U gg vi wr)
 case atStart=>exact⟨0,_,_,_,_,_,_,_,rfl,rfl,by omega,H0.out⟩
 case round =>
  obtain⟨i,v,ids,nss,G',D',V',U',rfl,rfl,hi,hh⟩:=hrel;have hsr:=hh.chg.size;have hs3:=HS3.out;by_cases hlt:i<m
  ·have hkk:∀g,S g->wr.heap[g]?=w.heap[g]?:=λg hg=>(hh.chg.block g (by have:=(HS.out g hg).1;omega) (λh=>by
    rcases h with h|h|h
    ·exact(HS.out g hg).2.1 h
    ·exact(HS.out g hg).2.2 h
    ·have:=(HS.out g hg).1;omega)).trans (HB3.out.block g (HS.out g hg).1)
   obtain⟨g,u,K1,X1,Z1,A1,n1,c1,rfl,hg,e0,e1,e2,e3,hu,hrd,hsz,-,-⟩:=zb3 (w':=wr) HA.out HKM.out hlt hkk;have hgl:=zbI e0;have hszu:u.size<=n:=by have:=HN.out;omega
   have hnu:Nm u:=by obtain⟨hi',rfl⟩:=hu;exact HNK.out i hi'
   have hui:(kids t)[i]?=some u:=by obtain⟨hi',rfl⟩:=hu;exact List.getElem?_eq_getElem hi'
   have hbr:Blk wr b 85 #[sl,.map (some mv),.map (some mu),mk,sr]:=Blk.chg (HB.out.below HB3.out hbl) hh.chg (λh=>by rcases h with h|h|h;exact hbv h;exact hbu h;omega);obtain⟨wa,hwa⟩:∃wa,(wr.alloc (.cells #[.int .i64 K1,.string X1,.int .i64 Z1,.slice A1 n1 c1] 37)).drew=wa:=⟨_,rfl⟩;have hba:Below wr.heap.size wr wa:=by rw[<-hwa];exact((Below.refl _ wr).alloc (Nat.le_refl _) _).drew
   have hsa:wa.heap.size=wr.heap.size+1:=by rw[<-hwa];show(wr.alloc _).heap.size=_;simp
   have hcall:=HT u (.agg #[.int .i64 K1,.string X1,.int .i64 Z1,.slice A1 n1 c1]) wa sl mk sr G' D' V' U' hszu (hbr.below hba hbr.lt) (hh.lays.keep λk hk=>hba.block k hk) hne
    (hrd.keep (λ_ h=>h) (λg hg=>hba.block g (by have:=(HS.out g hg).1;omega))) (λg hg=>⟨by have:=(HS.out g hg).1;omega,(HS.out g hg).2⟩) hnu
   rw[<-hwa]at hcall
   have HCALL:=hidE hcall;have HBA:=hidE hba;have HH:=hidE hh;have HUI:=hidE hui;have HWA:=hidE hwa;have HSA:=hidE hsa;have q4:wr.cell? ⟨w.heap.size+1,4,none⟩=some v:=hh.blk.cell 4;have hpl:w.heap.size+1<wr.heap.size:=by omega
   have hol:∀k,v.ownBlock=some k->w3.heap.size<=k/\k<wr.heap.size:=λk hk=>⟨(zab hh.own k hk).1,(zab hh.own k hk).2.1⟩;have HOL:=hidE hol;clear hrd hu hnu hcall hba hh hui hbr hwa hsa hol;go_upto_region 13 with fail
   refine wp_region_noPanic ?_;go_region_law (first
    |(go_simp;(with_reducible refine HCALL.out.mono ?_);rintro e w5 hpost;obtain⟨p,hpe,hpp⟩:=hpost.split;subst hpe;rw[HWA.out]at hpp;have hc5:=hpp.chg;have hs5:=hc5.size;rw[HSA.out]at hs5;have hpb5:Blk w5 (w.heap.size+1) 132 _:=Blk.chg (HH.out.blk.below HBA.out HH.out.blk.lt) hc5 (λh=>by rcases h with h|h <;> omega);have z4:w5.cell? ⟨w.heap.size+1,4,none⟩=some v:=hpb5.cell 4;have y4:(w5.alloc (.cells #[.pointer (some ⟨p,0,none⟩)] 75)).cell? ⟨w.heap.size+1,4,none⟩=some v:=(Blk.alloc hpb5 _).cell 4;have hown5:w5.ownsRow w3.heap.size 75 1 v i (ids.map PK):=zal HH.out.own (λk hk=>(hc5.block k (by rw[HSA.out];have:=HOL.out k hk;omega) (λh=>by have:=HOL.out k hk;rcases h with h|h <;> omega)).trans (HBA.out.block k (HOL.out k hk).2));have HOWN5:Hid ((w5.alloc (.cells #[.pointer (some ⟨p,0,none⟩)] 75)).ownsRow w3.heap.size 75 1 v i (ids.map PK)):=hidE (hown5.alloc _);have HNEW:Hid (∀j u,[Value.pointer (some ⟨p,0,none⟩)][j]?=some u->(w5.alloc (.cells #[.pointer (some ⟨p,0,none⟩)] 75)).cell? ((⟨w5.heap.size,0,none⟩:Addr).add j)=some u):=hidE (zar _ _ _ _ rfl);have HPP:=hidE hpp;have HPB5:=hidE hpb5;clear hpp hc5 hpb5 hown5)
    |(refine step_append_lies _ (by rfl) _ _ _ (by rfl) w3.heap.size 75 i0 _ 1 8 Tryz.underlying130 hi0 hz0 hz1 hz2 rfl (by decide) _ i (ids.map PK) (by rfl) HOWN5.out ⟨w5.heap.size,0,none⟩ 1 1 [.pointer (some ⟨p,0,none⟩)] rfl rfl HNEW.out (by intro u hu;simp at hu;subst hu;rfl) (by omega) (by unfold maxLen;omega) (by omega) (by simp;omega) _ rfl ?_;intro g6 c6 w6 hown6 hgrow hat hlt6;have hpb6:Blk w6 (w.heap.size+1) 132 _:=(Blk.alloc HPB5.out (.cells #[.pointer (some ⟨p,0,none⟩)] 75)).grown hgrow (λe=>by have:=HOL.out _ e.symm;omega);have v4:w6.cell? ⟨w.heap.size+1,4,none⟩=some v:=hpb6.cell 4;have f4:=hpb6.frozen 4;have l6:=hpb6.lt;have HO6:=hidE hown6;have HG6:=hidE hgrow;have HAT:=hidE hat;clear hown6 hgrow hat hpb6))
   all_goals
    refine NoPanic.normal ?_;go_wp2_with fail
    go_roundg (m-(i+1))
    case measure=>omega
    case rel =>
     obtain⟨ids',nss',G2,D2,V2,U2,hh2⟩:=HH.out.next (by omega) (by omega) (by omega) (by omega) (by omega) HG1.out HUI.out HBA.out HPP.out HO6.out HG6.out (by have:=HAT.out;simp at this;exact this);exact⟨i+1,_,ids',nss',G2,D2,V2,U2,rfl,by go_num,by omega,hh2⟩
  ·have him:i=m:=by omega
   subst him;have HH:=hidE hh;clear hh;go_wp2_with fail
   exact⟨_,results_tmp (show Tryz.f33.results=#[.tmp 4] from rfl) _ _ _,HH.out.app HK.out HX.out HZ.out HKM.out hk34 HB3.out (by omega) (by omega) HGL.out⟩
set_option maxRecDepth 100000
theorem HeadI.all {mv mu pb cb:Nat} {x:Name} {t:Ty} {A:Option Addr} {m c:Nat} {w w3:World} {G:Nat->Option Nd} {D:Nat->Dy} {V:Name->Option Nat} {U:Nat->Option Nat} {v:Value} {ids:List Nat} {nss:List (List Nat)} {K Z:Int} {X:ByteArray} {dc:Dy}
  {G':Nat->Option Nd} {D':Nat->Dy} {V':Name->Option Nat} {U':Nat->Option Nat} {wr w7:World}
  (h:HeadI mv mu pb [t] K X Z (.slice A m c) (.pointer (some ⟨cb,0,none⟩)) w3 (upn G cb (some ⟨1,⟨x.toArray⟩,0,[],none,true⟩)) (upn D cb dc) (upn V x (some cb)) U m v ids nss G' D' V' U' wr)
  (hK:K=(5:Nat))(hX:X=⟨x.toArray⟩)(hZ:Z=(0:Nat))(hkm:1=m)(hl:Lays w mv mu G D V U)(hne:mv≠mu)(hb:Chg (only mv) w w3)(hp1:w.heap.size<=pb)(hp2:pb<w3.heap.size)(hc1:w.heap.size<=cb)(hc2:cb<w3.heap.size)(hpc:pb≠cb)
  (hms:MapS w7 mv (λy=>if y=x then V x else V' y))(hc7:Chg (only mv) wr w7):PartPost mv mu G D V U (.all x t) w (.returned (.pointer (some ⟨pb,0,none⟩))) w7:=by
 subst hK hX hZ hkm;have hG:∀q x,G q=some x->q<w.heap.size:=λq x hx=>hl.lt hx;have hs3:=hb.size;have hsr:=h.chg.size;have hs7:=hc7.size;have hGpb:G' pb=none:=by
  rw[(h.ext.old pb hp2).1,zac _ _ _ _ hpc]
  cases hq:G pb with
  |none=>rfl
  |some x=>have:=hG pb x hq;omega
 have hcb:G' cb=some ⟨1,⟨x.toArray⟩,0,[],none,true⟩:=by rw[(h.ext.old cb hc2).1,zak]
 have hne':∀q x,G' q=some x->q≠pb:=λq x hx e=>by rw[e,hGpb]at hx;cases hx
 have hG'G:∀q y,q<w.heap.size->G' q=some y->G q=some y:=λq y hq hy=>by
  rw[(h.ext.old q (by omega)).1,zac _ _ _ _ (by omega)]at hy;exact hy
 have hVx:V' x=some cb:=h.ext.vx x cb (zak _ _ _);have hV':∀y p,V' y=some p->y≠x->V y=some p\/V y=none/\G' p=some ⟨1,⟨y.toArray⟩,0,[],none,false⟩:=λy p hy hyx=>by
  rcases h.ext.vn y p hy with h1|⟨h1,h2⟩
  ·rw[zac _ _ _ _ hyx]at h1;exact .inl h1
  ·rw[zac _ _ _ _ hyx]at h1;exact .inr ⟨h1,h2⟩
 obtain⟨q1,hids⟩:∃q1,ids=[q1]:=by
  have:=h.li;match ids,this with
  |[q1],_=>exact⟨q1,rfl⟩
 obtain⟨n1,hnss⟩:∃n1,nss=[n1]:=by
  have:=h.ln;match nss,this with
  |[n1],_=>exact⟨n1,rfl⟩
 subst hids hnss;have hpd7:=h.lays.pd.chg1 h.lays.ms hc7;have hmi7:MapI w7 mu U':=MapK.keep h.lays.mi (hc7.block _ (MapK.lt h.lays.mi) (λe=>hne (show mu=mv from e).symm)) (λ_ h=>h);refine⟨pb,pb::cb::n1,upn G' pb (some ⟨5,⟨x.toArray⟩,0,[q1],some cb,false⟩),upn D' pb ⟨.slice A 1 c,false,0,v.ownBlock.getD 0⟩,(λy=>if y=x then V x else V' y),U',rfl,⟨hms,hmi7,λq y hy=>?_,λy q hy=>?_,λn q hn=>?_,λq y hy=>?_⟩,⟨λq hq=>?_,λq y hy hlq=>?_,λy q hy=>?_,h.ext.ux,λy q hy=>?_⟩,?_,?_,λq hq=>?_,?_⟩
 ·by_cases hqp:q=pb
  ·subst hqp
   rw[zak]at hy ⊢
   injection hy with hy;subst hy;obtain⟨g,cap,cur,hv',hg,hcur,hrow⟩:=zdA h.own (by omega);have hqm:q≠mv:=λe=>by
    have hb:=h.blk;rw[e]at hb
    exact MapK.no h.lays.ms hb
   have hb7:Blk w7 q 132 _:=Blk.chg h.blk hc7 hqm;refine⟨some ⟨g,0,none⟩,cap,?_,λ_=>⟨by rw[hv'];rfl,cur,?_,hrow⟩⟩
   ·rw[hv']at hb7;exact hb7
   ·rw[hv']
    refine(hc7.block g (Array.getElem?_eq_some_iff.1 hcur).1 (λe=>?_)).trans hcur;have e:g=mv:=e;rw[e]at hcur
    exact MapK.no h.lays.ms hcur
  ·rw[zac _ _ _ _ hqp]at hy ⊢
   exact hpd7 q y hy
 ·by_cases hyx:y=x
  ·rw[if_pos hyx]at hy
   obtain⟨nw,h1⟩:=hl.vn x q hy;have hq:=hG q _ h1;refine⟨nw,?_⟩;rw[zac _ _ _ _ (by omega),(h.ext.old q (by omega)).1,zac _ _ _ _ (by omega),hyx]
   exact h1
  ·rw[if_neg hyx]at hy
   obtain⟨nw,h1⟩:=h.lays.vn y q hy;exact⟨nw,by rw[zac _ _ _ _ (hne' q _ h1)];exact h1⟩
 ·have h1:=h.lays.un n q hn
  rw[zac _ _ _ _ (hne' q _ h1)];exact h1
 ·by_cases hqp:q=pb
  ·rw[hqp,zak];exact⟨rfl,rfl,_,_,_,rfl⟩
  ·rw[zac _ _ _ _ hqp]at hy ⊢;exact h.lays.dn q y hy
 ·have h1:q≠pb:=by omega
  have h2:q≠cb:=by omega
  have:=h.ext.old q (by omega);rw[zac _ _ _ _ h2,zac _ _ _ _ h2]at this
  rw[zac _ _ _ _ h1,zac _ _ _ _ h1]
  exact this
 ·by_cases hqp:q=pb
  ·subst hqp
   rw[zak]at hy ⊢
   injection hy with hy;subst hy;refine⟨by omega,λ_=>?_⟩;obtain⟨g,cap,cur,hv',hg,-,-⟩:=zdA h.own (by omega);rw[hv']
   show w.heap.size<=g;omega
  ·rw[zac _ _ _ _ hqp]at hy ⊢
   by_cases hq3:q<w3.heap.size
   ·have h4:=h.ext.old q hq3
    rw[h4.1]at hy
    by_cases hqc:q=cb
    ·rw[hqc,zak]at hy
     injection hy with hy;subst hy;exact⟨by omega,λhk=>absurd rfl hk⟩
    ·rw[zac _ _ _ _ hqc]at hy
     have:=hG q y hy;omega
   ·obtain⟨a,b⟩:=h.ext.new q y hy (by omega)
    exact⟨by omega,λhk=>by have:=b hk;omega⟩
 ·show(if y=x then V x else V' y)=some q
  by_cases hyx:y=x
  ·rw[if_pos hyx,<-hyx];exact hy
  ·rw[if_neg hyx]
   exact h.ext.vx y q (by rw[zac _ _ _ _ hyx];exact hy)
 ·by_cases hyx:y=x
  ·rw[if_pos hyx]at hy
   rw[hyx];exact .inl hy
  ·rw[if_neg hyx]at hy
   rcases hV' y q hy hyx with h1|⟨h1,h2⟩
   ·exact .inl h1
   ·exact .inr ⟨h1,by rw[zac _ _ _ _ (hne' q _ h2)];exact h2⟩
 ·refine .all _ _ _ _ q1 cb n1 (zak _ _ _) (by rw[zac _ _ _ _ (λe=>hpc e.symm)];exact hcb) ?_
  refine(h.kid 0 q1 t n1 rfl rfl rfl).more (λq y hy=>by rw[zac _ _ _ _ (hne' q y hy)];exact hy) (λ_ _ h=>h) (λy q hy=>?_);by_cases hyx:y=x
  ·rw[hyx,zak,<-hVx,<-hyx];exact hy
  ·rw[zac _ _ _ _ hyx,if_neg hyx];exact hy
 ·have hrg:=h.rg
  have hnd:=h.nd;simp at hrg hnd;rw[List.nodup_cons,List.nodup_cons]
  refine⟨λhm=>?_,λhm=>by have:=hrg cb hm;omega,hnd⟩;rcases List.mem_cons.1 hm with e|e
  ·exact hpc e
  ·have:=hrg pb e;omega
 ·have hrg:=h.rg
  simp at hrg;rcases List.mem_cons.1 hq with e|e
  ·rw[e];omega
  ·rcases List.mem_cons.1 e with e|e
   ·rw[e];omega
   ·have:=hrg q e;omega
 ·refine((hb.mono (M1:=λg=>g=mv\/g=mu) (λk _ e=>.inl e)).trans' h.chg (λk hk e=>?_)).trans' hc7 (λk _ e=>.inl e)
  rcases e with e|e|e
  ·exact .inl e
  ·exact .inr e
  ·omega
theorem zjV(n b mv mu:Nat)(S:Nat->Prop)(HT:zhM n b mv mu S)(x:Name)(t:Ty)(v:Value)(w:World)(sl mk sr:Value)(G:Nat->Option Nd)(D:Nat->Dy)(V:Name->Option Nat)(U:Nat->Option Nat)(hn:(Ty.all x t).size<=n+1)
  (hb:Blk w b 85 #[sl,.map (some mv),.map (some mu),mk,sr])(hl:Lays w mv mu G D V U)(hne:mv≠mu)(hv:RdV S w (.all x t) v)(hS:∀g,S g->g<w.heap.size/\g≠mv/\g≠mu)(hnm:Nm (.all x t)):Calls Tryz.prog 33 #[.pointer (some ⟨b,0,none⟩),v] w (PartPost mv mu G D V U (.all x t) w):=by
 obtain⟨K,X,Z,A,m,c,rfl,hK,hX,hZ,hkm,ha⟩:=hv.parts;replace hK:K=5:=hK;replace hX:X=⟨x.toArray⟩:=hX;replace hZ:Z=0:=hZ;replace hkm:1=m:=hkm;subst hK hX hZ hkm;have hmv:mv<w.heap.size:=MapK.lt hl.ms;have hmu:mu<w.heap.size:=MapK.lt hl.mi;have hbv:b≠mv:=λe=>MapK.no hl.ms (e▸hb);have hbu:b≠mu:=λe=>MapK.no hl.mi (e▸hb);have hbl:=hb.lt;obtain⟨i0,hi0,hz0,hz1,hz2⟩:=info_parts infoPtr;obtain⟨k1,k2,k3,hsb,hbb⟩:=zcE w (.cells #[.int .i64 5,.string ⟨x.toArray⟩,.int .i64 0,.slice A 1 c] 37) (.cells #[.int .i64 5,.string ⟨x.toArray⟩,.int .i64 0,.slice A 1 c,.slice none 0 0,.pointer (some ⟨w.heap.size+1+1,0,none⟩),.bool false,.bool false,.int .i64 0] 132) (.cells #[.int .i64 1,.string ⟨x.toArray⟩,.int .i64 0,.slice none 0 0,.slice none 0 0,.pointer none,.bool true,.bool false,.int .i64 0] 132);obtain⟨wb,hwb⟩:∃wb,((w.alloc (.cells #[.int .i64 5,.string ⟨x.toArray⟩,.int .i64 0,.slice A 1 c] 37)).alloc (.cells #[.int .i64 5,.string ⟨x.toArray⟩,.int .i64 0,.slice A 1 c,.slice none 0 0,.pointer (some ⟨w.heap.size+1+1,0,none⟩),.bool false,.bool false,.int .i64 0] 132)).alloc (.cells #[.int .i64 1,.string ⟨x.toArray⟩,.int .i64 0,.slice none 0 0,.slice none 0 0,.pointer none,.bool true,.bool false,.int .i64 0] 132)=wb:=⟨_,rfl⟩;rw[hwb]at k1 k2 k3 hsb hbb
 have hlb:Lays wb mv mu G D V U:=hl.keep λk hk=>hbb.block k hk;have hBb:Blk wb b 85 #[sl,.map (some mv),.map (some mu),mk,sr]:=hb.below hbb hbl;have HCV:Hid (Calls Tryz.prog 69 #[.map (some mv),.string ⟨x.toArray⟩,.pointer (some ⟨w.heap.size+1+1,0,none⟩)] wb.drew λe w'=>e=.returned (zhL wb.heap.size)/\CovP w' wb.heap.size mv x (V x)/\MapS w' mv (upn V x (some (w.heap.size+1+1)))/\Chg (only mv) wb w'):=hidE (by
  refine(zmW mv V x (w.heap.size+1+1) wb.drew (MapK.keep hlb.ms rfl (λ_ h=>h))).mono ?_;rintro e w' ⟨h1,h2,h3,h4⟩;exact⟨h1,h2,h3,⟨h4.os,h4.tape,h4.output,h4.size,h4.block⟩⟩)
 have q1:wb.cell? ⟨w.heap.size,1,none⟩=some (.string ⟨x.toArray⟩):=Blk.cell k1 1;have q2:wb.cell? ⟨b,1,none⟩=some (.map (some mv)):=hBb.cell 1;have q3:wb.cell? ⟨w.heap.size+1,5,none⟩=some (.pointer (some ⟨w.heap.size+1+1,0,none⟩)):=Blk.cell k2 5;have SOF:Hid (∀W:World,Chg (only mv) wb W->W.cell? ⟨w.heap.size,1,none⟩=some (.string ⟨x.toArray⟩)/\W.cell? ⟨b,1,none⟩=some (.map (some mv))/\W.cell? ⟨w.heap.size+1,5,none⟩=some (.pointer (some ⟨w.heap.size+1+1,0,none⟩))):=hidE λW hc=>by
  have j1:=Blk.chg k1 hc (by unfold only;omega);have j2:=Blk.chg hBb hc hbv;have j3:=Blk.chg k2 hc (by unfold only;omega);exact⟨j1.cell 1,j2.cell 1,j3.cell 5⟩
 have HB:=hidE hb;have HA:=hidE ha;have HS:=hidE hS;have HNK:Hid (Nm t):=hidE (zco hnm 0 (by show 0<1;omega));have HN:=hidE hn;have HL:=hidE hl;have HLB:=hidE hlb;have HBB:=hidE hbb;have HSB:=hidE hsb;have K1:=hidE k1;have K2:=hidE k2;have K3:=hidE k3;have HWB:=hidE hwb;clear hv hb hl hS hnm ha hn k1 k2 k3 hsb hbb hwb hlb hBb;go_enter_defers Tryz.func33,Tryz.ntmps33
 go_upto_region 9 with fail
 rw[HWB.out]
 clear HWB;go_region_held3 (λW:World=>W.cell? ⟨w.heap.size,1,none⟩=some (.string ⟨x.toArray⟩)/\W.cell? ⟨b,1,none⟩=some (.map (some mv))/\W.cell? ⟨w.heap.size+1,5,none⟩=some (.pointer (some ⟨w.heap.size+1+1,0,none⟩))) (first|(exact⟨q1,q2,q3⟩)|(exact SOF.out _ C5.out))
  (((with_reducible refine HCV.out.mono ?_);rintro e w3 ⟨rfl,cov,mp5,c5⟩;unfold zhL;have COV:=hidE cov;have MP5:=hidE mp5;have C5:=hidE c5;clear cov mp5 c5))
 all_goals
  clear SOF q1 q2 q3 HCV;have hs3:=C5.out.size;have hsb:=HSB.out;have HC3:Hid (Chg (only mv) w w3):=hidE ((Chg.of_below HBB.out).trans' C5.out (λ_ _ h=>h));have hT3:Blk w3 w.heap.size 37 #[.int .i64 5,.string ⟨x.toArray⟩,.int .i64 0,.slice A 1 c]:=Blk.chg K1.out C5.out (by unfold only;omega);have hP3:Blk w3 (w.heap.size+1) 132 #[.int .i64 5,.string ⟨x.toArray⟩,.int .i64 0,.slice A 1 c,.slice none 0 0,.pointer (some ⟨w.heap.size+1+1,0,none⟩),.bool false,.bool false,.int .i64 0]:=Blk.chg K2.out C5.out (by unfold only;omega);have hC3:Blk w3 (w.heap.size+1+1) 132 #[.int .i64 1,.string ⟨x.toArray⟩,.int .i64 0,.slice none 0 0,.slice none 0 0,.pointer none,.bool true,.bool false,.int .i64 0]:=Blk.chg K3.out C5.out (by unfold only;omega);have hGl:∀q y,G q=some y->q<w.heap.size:=λq y hy=>HL.out.lt hy;have hl3:Lays w3 mv mu (upn G (w.heap.size+1+1) (some ⟨1,⟨x.toArray⟩,0,[],none,true⟩)) (upn D (w.heap.size+1+1) ⟨.slice none 0 0,false,0,0⟩) (upn V x (some (w.heap.size+1+1))) U:=by
   have hpd:=HLB.out.pd.chg1 HLB.out.ms C5.out;refine⟨MP5.out,MapK.keep HLB.out.mi (C5.out.block _ (MapK.lt HLB.out.mi) (λe=>hne (show mu=mv from e).symm)) (λ_ h=>h),λq y hy=>?_,λy q hy=>?_,λk q hq=>?_,λq y hy=>?_⟩
   ·by_cases hq:q=w.heap.size+1+1
    ·subst hq
     rw[zak]at hy ⊢
     injection hy with hy;subst hy;exact⟨none,0,hC3,λhk=>absurd rfl hk⟩
    ·rw[zac _ _ _ _ hq]at hy ⊢
     exact hpd q y hy
   ·by_cases hyx:y=x
    ·rw[hyx,zak]at hy
     injection hy with hy;subst hy;exact⟨true,by rw[zak,hyx]⟩
    ·rw[zac _ _ _ _ hyx]at hy
     obtain⟨nw,h1⟩:=HL.out.vn y q hy;have:=hGl q _ h1;exact⟨nw,by rw[zac _ _ _ _ (by omega)];exact h1⟩
   ·have h1:=HL.out.un k q hq
    have:=hGl q _ h1;rw[zac _ _ _ _ (by omega)];exact h1
   ·by_cases hq:q=w.heap.size+1+1
    ·rw[hq,zak];exact⟨rfl,rfl,_,_,_,rfl⟩
    ·rw[zac _ _ _ _ hq]at hy ⊢;exact HL.out.dn q y hy
  have hG1:upn G (w.heap.size+1+1) (some ⟨1,⟨x.toArray⟩,0,[],none,true⟩) (w.heap.size+1)=none:=by
   rw[zac _ _ _ _ (by omega)]
   cases hq:G (w.heap.size+1) with
   |none=>rfl
   |some y=>have:=hGl _ y hq;omega
  have H0:=hidE (HeadI.zero (kl:=[t]) hP3 hl3);have hbl3:=HB.out;have hB3:Blk w3 b 85 #[sl,.map (some mv),.map (some mu),mk,sr]:=Blk.chg hbl3 HC3.out hbv;have HB3:=hidE hB3;have HS3:=hidE hs3;have HT3:=hidE hT3;have HG1:=hidE hG1;obtain⟨t0,t1,t2,t3,-,-,-,-,-⟩:=zaa hT3;have hsb1:w.heap.size+3<=wb.heap.size:=by omega
  clear hs3 hT3 hP3 hC3 hl3 hG1 hbl3 hB3 hGl K1 K2 K3 hsb;go_wp2_with fail
  go_loopg [58] 1 (λgg vi wr=>znA mv mu (w.heap.size+1) 1 [t] 5 ⟨x.toArray⟩ 0 (.slice A 1 c) (.pointer (some ⟨w.heap.size+1+1,0,none⟩)) w3 (upn G (w.heap.size+1+1) (some ⟨1,⟨x.toArray⟩,0,[],none,true⟩)) (upn D (w.heap.size+1+1) ⟨.slice none 0 0,false,0,0⟩) (upn V x (some (w.heap.size+1+1))) U gg vi wr)
  case atStart=>exact⟨0,_,_,_,_,_,_,_,rfl,rfl,by omega,H0.out⟩
  case round =>
   obtain⟨i,v,ids,nss,G',D',V',U',rfl,rfl,hi,hh⟩:=hrel;have hsr:=hh.chg.size;have hs3:=HS3.out;by_cases hlt:i<1
   ·have hkk:∀g,S g->wr.heap[g]?=w.heap[g]?:=λg hg=>(hh.chg.block g (by have:=(HS.out g hg).1;omega) (λh=>by
     rcases h with h|h|h
     ·exact(HS.out g hg).2.1 h
     ·exact(HS.out g hg).2.2 h
     ·have:=(HS.out g hg).1;omega)).trans (HC3.out.block g (HS.out g hg).1 (HS.out g hg).2.1)
    obtain⟨g,u,K1,X1,Z1,A1,n1,c1,rfl,hg,e0,e1,e2,e3,hu,hrd,hsz,-,-⟩:=zb3 (w':=wr) HA.out (show(kids (Ty.all x t)).length=1 from rfl) hlt hkk;have hgl:=zbI e0;have hszu:u.size<=n:=by have:=HN.out;omega
    have hut:u=t:=by
     obtain⟨hi',e⟩:=hu;have h0:i=0:=by omega
     subst h0;exact e.symm
    have hnu:Nm u:=by rw[hut];exact HNK.out
    have hui:[t][i]?=some u:=by
     have h0:i=0:=by omega
     rw[h0,hut];rfl
    have hbr:Blk wr b 85 #[sl,.map (some mv),.map (some mu),mk,sr]:=Blk.chg HB3.out hh.chg (λh=>by rcases h with h|h|h;exact hbv h;exact hbu h;omega);obtain⟨wa,hwa⟩:∃wa,(wr.alloc (.cells #[.int .i64 K1,.string X1,.int .i64 Z1,.slice A1 n1 c1] 37)).drew=wa:=⟨_,rfl⟩;have hba:Below wr.heap.size wr wa:=by rw[<-hwa];exact((Below.refl _ wr).alloc (Nat.le_refl _) _).drew
    have hsa:wa.heap.size=wr.heap.size+1:=by rw[<-hwa];show(wr.alloc _).heap.size=_;simp
    have hcall:=HT u (.agg #[.int .i64 K1,.string X1,.int .i64 Z1,.slice A1 n1 c1]) wa sl mk sr G' D' V' U' hszu (hbr.below hba hbr.lt) (hh.lays.keep λk hk=>hba.block k hk) hne
     (hrd.keep (λ_ h=>h) (λg hg=>hba.block g (by have:=(HS.out g hg).1;omega))) (λg hg=>⟨by have:=(HS.out g hg).1;omega,(HS.out g hg).2⟩) hnu
    rw[<-hwa]at hcall
    have HCALL:=hidE hcall;have HBA:=hidE hba;have HH:=hidE hh;have HUI:=hidE hui;have HWA:=hidE hwa;have HSA:=hidE hsa;have q4:wr.cell? ⟨w.heap.size+1,4,none⟩=some v:=hh.blk.cell 4;have hpl:w.heap.size+1<wr.heap.size:=by omega
    have hol:∀k,v.ownBlock=some k->w3.heap.size<=k/\k<wr.heap.size:=λk hk=>⟨(zab hh.own k hk).1,(zab hh.own k hk).2.1⟩;have HOL:=hidE hol;clear hrd hu hut hnu hcall hba hh hui hbr hwa hsa hol;go_upto_region 13 with fail
    refine wp_region_noPanic ?_;go_region_law (first
     |(go_simp;(with_reducible refine HCALL.out.mono ?_);rintro e w5 hpost;obtain⟨p,hpe,hpp⟩:=hpost.split;subst hpe;rw[HWA.out]at hpp;have hc5:=hpp.chg;have hs5:=hc5.size;rw[HSA.out]at hs5;have hpb5:Blk w5 (w.heap.size+1) 132 _:=Blk.chg (HH.out.blk.below HBA.out HH.out.blk.lt) hc5 (λh=>by rcases h with h|h <;> omega);have z4:w5.cell? ⟨w.heap.size+1,4,none⟩=some v:=hpb5.cell 4;have y4:(w5.alloc (.cells #[.pointer (some ⟨p,0,none⟩)] 75)).cell? ⟨w.heap.size+1,4,none⟩=some v:=(Blk.alloc hpb5 _).cell 4;have hown5:w5.ownsRow w3.heap.size 75 1 v i (ids.map PK):=zal HH.out.own (λk hk=>(hc5.block k (by rw[HSA.out];have:=HOL.out k hk;omega) (λh=>by have:=HOL.out k hk;rcases h with h|h <;> omega)).trans (HBA.out.block k (HOL.out k hk).2));have HOWN5:Hid ((w5.alloc (.cells #[.pointer (some ⟨p,0,none⟩)] 75)).ownsRow w3.heap.size 75 1 v i (ids.map PK)):=hidE (hown5.alloc _);have HNEW:Hid (∀j u,[Value.pointer (some ⟨p,0,none⟩)][j]?=some u->(w5.alloc (.cells #[.pointer (some ⟨p,0,none⟩)] 75)).cell? ((⟨w5.heap.size,0,none⟩:Addr).add j)=some u):=hidE (zar _ _ _ _ rfl);have HPP:=hidE hpp;have HPB5:=hidE hpb5;clear hpp hc5 hpb5 hown5)
     |(refine step_append_lies _ (by rfl) _ _ _ (by rfl) w3.heap.size 75 i0 _ 1 8 Tryz.underlying130 hi0 hz0 hz1 hz2 rfl (by decide) _ i (ids.map PK) (by rfl) HOWN5.out ⟨w5.heap.size,0,none⟩ 1 1 [.pointer (some ⟨p,0,none⟩)] rfl rfl HNEW.out (by intro u hu;simp at hu;subst hu;rfl) (by omega) (by unfold maxLen;omega) (by omega) (by simp;omega) _ rfl ?_;intro g6 c6 w6 hown6 hgrow hat hlt6;have hpb6:Blk w6 (w.heap.size+1) 132 _:=(Blk.alloc HPB5.out (.cells #[.pointer (some ⟨p,0,none⟩)] 75)).grown hgrow (λe=>by have:=HOL.out _ e.symm;omega);have v4:w6.cell? ⟨w.heap.size+1,4,none⟩=some v:=hpb6.cell 4;have f4:=hpb6.frozen 4;have l6:=hpb6.lt;have HO6:=hidE hown6;have HG6:=hidE hgrow;have HAT:=hidE hat;clear hown6 hgrow hat hpb6))
    all_goals
     refine NoPanic.normal ?_;go_wp2_with fail
     go_roundg (1-(i+1))
     case measure=>omega
     case rel =>
      obtain⟨ids',nss',G2,D2,V2,U2,hh2⟩:=HH.out.next (by omega) (by omega) (by omega) (by omega) (by omega) HG1.out HUI.out HBA.out HPP.out HO6.out HG6.out (by have:=HAT.out;simp at this;exact this);exact⟨i+1,_,ids',nss',G2,D2,V2,U2,rfl,by go_num,by omega,hh2⟩
   ·have him:i=1:=by omega
    subst him;have HH:=hidE hh;clear hh;go_wp2_with fail
    have hkc:∀k,wb.heap.size<=k->k<=wb.heap.size+3->wr.heap[k]?=w3.heap[k]?:=λk h1 h2=>HH.out.chg.block k (by have:=COV.out.2.2.2.lt;omega) (λh=>by rcases h with h|h|h <;> omega);refine leaves_cons (f:=116) (args:=#[.pointer (some ⟨wb.heap.size+3,0,none⟩),.pointer (some ⟨wb.heap.size+2,0,none⟩),.pointer (some ⟨wb.heap.size,0,none⟩),.pointer (some ⟨wb.heap.size+1,0,none⟩)]) (by simp) (by simp[go_sem]) ?_;refine(zjT wb.heap.size mv V' x (V x) .returning wr (COV.out.keep hkc) HH.out.lays.ms).mono ?_;rintro e u' w7 ⟨rfl,rfl,m7,c7⟩;exact⟨_,results_tmp (show Tryz.f33.results=#[.tmp 4] from rfl) _ _ _,HeadI.all HH.out rfl rfl rfl rfl HL.out hne HC3.out (by omega) (by omega) (by omega) (by omega) (by omega) m7 c7⟩
theorem zlh(b mv mu:Nat)(S:Nat->Prop)(n:Nat)(hn:n<=1000000):zhM n b mv mu S:=by
 induction n with
 |zero=>intro t v w sl mk sr G D V U h;rw[zas]at h;omega
 |succ n ih =>
  have HT:=ih (by omega);intro t v w sl mk sr G D V U hsz hb hl hne hv hS hnm;cases t with
  |var x =>
   obtain⟨A,c,rfl,_⟩:=hv;exact zjU b mv mu x A 0 c w sl mk sr G D V U hb hl hne
  |mt k =>
   obtain⟨A,c,rfl,_⟩:=hv;exact zlg b mv mu k A 0 c w sl mk sr G D V U hb hl hne
  |con d l=>exact zfI n b mv mu S HT _ v w sl mk sr G D V U hsz (.inl rfl) hb hl hne hv hS hnm (by omega)
  |fn a d=>exact zfI n b mv mu S HT _ v w sl mk sr G D V U hsz (.inr rfl) hb hl hne hv hS hnm (by omega)
  |all x t=>exact zjV n b mv mu S HT x t v w sl mk sr G D V U hsz hb hl hne hv hS hnm
end Go.Proofs.YtfafilmklhnngaaGreatDoor
namespace Go.Proofs.YtfafilmklhnngaaGreatDoor
open Go.RowKit Lx Tx Go.Maps Go.WideMaps
set_option maxRecDepth 100000
inductive Root (K:Nat->Option Nat):Nat->Nat->Nat->Prop
 |nil (p:Nat):K p=none->Root K p 0 p
 |step (p q n r:Nat):K p=some q->Root K q n r->Root K p (n+1) r
theorem Root.det {K:Nat->Option Nat} {p n r m s:Nat}(h:Root K p n r)(k:Root K p m s):n=m/\r=s:=by
 induction h generalizing m s with
 |nil p hp =>
  cases k with
  |nil _ _=>exact⟨rfl,rfl⟩
  |step _ q n _ hq _=>rw[hp]at hq;cases hq
 |step p q n r hp _ ih =>
  cases k with
  |nil _ h=>rw[hp]at h;cases h
  |step _ q' n' _ hq' hr =>
   rw[hp]at hq'
   injection hq' with hq';subst hq';obtain⟨a,b⟩:=ih hr;exact⟨by rw[a],b⟩
theorem Root.end {K:Nat->Option Nat} {p n r:Nat}(h:Root K p n r):K r=none:=by
 induction h with
 |nil p h=>exact h
 |step _ _ _ _ _ _ ih=>exact ih
theorem Root.short {K:Nat->Option Nat} {p q f:Nat}(hp:K p=some q)(hq:K q=some f)(n:Nat):∀x m r,m<=n->Root K x m r->∃m',m'<=m/\Root (upn K p (some f)) x m' r:=by
 induction n with
 |zero =>
  intro x m r hm h;cases h with
  |nil _ h =>
   refine⟨0,Nat.le_refl _,.nil _ ?_⟩;rw[zac _ _ _ _ (λe=>by rw[e,hp]at h;cases h)];exact h
  |step _ _ _ _ _ _=>omega
 |succ n ih =>
  intro x m r hm h;cases h with
  |nil _ h =>
   refine⟨0,Nat.le_refl _,.nil _ ?_⟩;rw[zac _ _ _ _ (λe=>by rw[e,hp]at h;cases h)];exact h
  |step _ y k _ hy hr =>
   by_cases hxp:x=p
   ·subst hxp
    rw[hp]at hy
    injection hy with hy;subst hy;cases hr with
    |nil _ h=>rw[hq]at h;cases h
    |step _ z j _ hz hr =>
     rw[hq]at hz
     injection hz with hz;subst hz;obtain⟨j',hj,hr'⟩:=ih f j r (by omega) hr;exact⟨j'+1,by omega,.step _ f _ _ (zak _ _ _) hr'⟩
   ·obtain⟨j',hj,hr'⟩:=ih y k r (by omega) hr
    exact⟨j'+1,by omega,.step _ y _ _ (by rw[zac _ _ _ _ hxp];exact hy) hr'⟩
structure Knw (w:World) (mk:Nat) (K:Nat->Option Nat) (hd:Nat->Nat):Prop where
 mp:MapQ w mk K
 rep:∀p,∃n,Root K p n (hd p)
 laid:∀x y,K x=some y->LaidQ w x/\LaidQ w y
theorem Knw.none_iff {w:World} {mk:Nat} {K:Nat->Option Nat} {hd:Nat->Nat}(h:Knw w mk K hd)(p:Nat):K p=none↔hd p=p:=by
 obtain⟨n,hn⟩:=h.rep p;constructor
 ·intro hp
  exact((Root.nil (K:=K) p hp).det hn).2.symm
 ·intro hp
  rw[hp]at hn
  exact hn.end
theorem Knw.idem {w:World} {mk:Nat} {K:Nat->Option Nat} {hd:Nat->Nat}(h:Knw w mk K hd)(p:Nat):hd (hd p)=hd p:=by
 obtain⟨n,hn⟩:=h.rep p;exact(h.none_iff _).1 hn.end
theorem Knw.keep {w w':World} {mk:Nat} {K:Nat->Option Nat} {hd:Nat->Nat}(h:Knw w mk K hd)(hb:w'.heap[mk]?=w.heap[mk]?)(hk:∀x,LaidQ w x->LaidQ w' x):Knw w' mk K hd :=
 ⟨MapK.keep h.mp hb hk,h.rep,λx y hx=>⟨hk _ (h.laid x y hx).1,hk _ (h.laid x y hx).2⟩⟩
theorem LaidQ.chg {w w':World} {mk x:Nat} {K:Nat->Option Nat}(h:LaidQ w x)(hm:MapQ w mk K)(hc:Chg (only mk) w w'):LaidQ w' x:=by
 obtain⟨cs,hx⟩:=h;exact⟨cs,(hc.block x (Array.getElem?_eq_some_iff.1 hx).1 (λe=>by
  have e:x=mk:=e;rw[e]at hx
  exact MapK.no hm hx)).trans hx⟩
def HeadPost(mk:Nat)(hd:Nat->Nat)(p:Nat)(w:World)(e:Ending)(w':World):Prop :=
 e=.returned (.pointer (some ⟨hd p,0,none⟩))/\∃K',Knw w' mk K' hd/\Chg (only mk) w w'/\w'.heap.size=w.heap.size/\LaidQ w' (hd p)
def OptS(o:Option Nat)(v5 v6:Value):Prop:=(o=none/\v5=.pointer none/\v6=.bool false)\/∃q,o=some q/\v5=.pointer (some ⟨q,0,none⟩)/\v6=.bool true
theorem optS(o:Option Nat):OptS o (optV o) (.bool o.isSome):=by
 cases o with
 |none=>exact .inl ⟨rfl,rfl,rfl⟩
 |some q=>exact .inr ⟨q,rfl,rfl,rfl⟩
def zo7(mk:Nat)(hd:Nat->Nat)(p:Nat)(w:World)(gg:Nat)(v1 v5 v6:Value)(wr:World):Prop :=
 ∃(p' n:Nat) (K':Nat->Option Nat),gg=n/\v1=.pointer (some ⟨p',0,none⟩)/\OptS (K' p') v5 v6/\Knw wr mk K' hd/\Root K' p' n (hd p)/\LaidQ wr p'/\Chg (only mk) w wr/\wr.heap.size=w.heap.size
theorem zeI(b mk:Nat)(K:Nat->Option Nat)(hd:Nat->Nat)(p:Nat)(w:World)(c0 c1 c2 c4:Value)(hb:Blk w b 85 #[c0,c1,c2,.map (some mk),c4])(hk:Knw w mk K hd)(hp:LaidQ w p):Calls Tryz.prog 71 #[.pointer (some ⟨b,0,none⟩),.pointer (some ⟨p,0,none⟩)] w (HeadPost mk hd p w):=by
 obtain⟨n0,hn0⟩:=hk.rep p;have hlk:(Instr.lookup 83 (.map (some mk)) (.pointer (some ⟨p,0,none⟩)) true).run Tryz.prog w=.ok (.tuple #[optV (K p),.bool (K p).isSome]) w :=
  MapK.look hk.mp keyQ Tryz.underlying83 (zeH _) p hp
 have q3:w.cell? ⟨b,3,none⟩=some (.map (some mk)):=hb.cell 3;have hbm:b≠mk:=λe=>by rw[e]at hb;exact MapK.no hk.mp hb
 have HB:=hidE hb;have HK:=hidE hk;have HP:=hidE hp;have HN0:=hidE hn0;obtain⟨o5,ho5⟩:∃o,optV (K p)=o:=⟨_,rfl⟩;obtain⟨o6,ho6⟩:∃o,(K p).isSome=o:=⟨_,rfl⟩;rw[ho5,ho6]at hlk
 have HO5:=hidE ho5;have HO6:=hidE ho6;clear hb hk hp hn0 ho5 ho6;go_enter Tryz.func71,Tryz.ntmps71
 go_wp2_with fail
 go_loopg [1,5,6] n0 (λgg v1 v5 v6 wr=>zo7 mk hd p w gg v1 v5 v6 wr)
 case atStart=>exact⟨p,n0,K,rfl,rfl,by have:=optS (K p);rw[HO5.out,HO6.out]at this;exact this,HK.out,HN0.out,HP.out,Chg.refl _ _,rfl⟩
 case round =>
  obtain⟨p',n,K',hgg,rfl,hos,hk',hr,hp',hc,hs⟩:=hrel;clear hlk q3;have hbr:=Blk.chg HB.out hc hbm;have q3:wr.cell? ⟨b,3,none⟩=some (.map (some mk)):=hbr.cell 3;rcases hos with⟨hq,rfl,rfl⟩|⟨q,hq,rfl,rfl⟩
  ·skip
   have HR:Hid (p'=hd p):=hidE ((Root.nil (K:=K') p' hq).det hr).2;have HK':=hidE hk';have HP':=hidE hp';have HC:=hidE hc;have HS:=hidE hs;clear hq hr hk' hp' hc hs hgg hbr;go_wp2_with fail
   go_ret
   exact⟨by rw[HR.out];rfl,K',HK'.out,HC.out,HS.out,by rw[<-HR.out];exact HP'.out⟩
  ·skip
   obtain⟨-,hlq⟩:=hk'.laid p' q hq;have hlk2:(Instr.lookup 83 (.map (some mk)) (.pointer (some ⟨q,0,none⟩)) true).run Tryz.prog wr=.ok (.tuple #[optV (K' q),.bool (K' q).isSome]) wr :=
    MapK.look hk'.mp keyQ Tryz.underlying83 (zeH _) q hlq
   obtain⟨n',hn',hrq⟩:∃n',n=n'+1/\Root K' q n' (hd p):=by
    cases hr with
    |nil _ h=>rw[hq]at h;cases h
    |step _ q' n' _ hq' hr' =>
     rw[hq]at hq'
     injection hq' with hq';subst hq';exact⟨n',rfl,hr'⟩
   cases hf:K' q with
   |none =>
    rw[hf]at hlk2
    replace hlk2:(Instr.lookup 83 (.map (some mk)) (.pointer (some ⟨q,0,none⟩)) true).run Tryz.prog wr=.ok (.tuple #[.pointer none,.bool false]) wr:=hlk2;have HK':=hidE hk';have HLQ:=hidE hlq;have HC:=hidE hc;have HS:=hidE hs;have HRQ:=hidE hrq;have HF:=hidE hf;have HLE:Hid (n'<gk):=hidE (by omega);clear hq hr hk' hp' hc hs hbr hlq hrq hf hgg hn';go_wp2_with fail
    go_roundg n'
    case measure=>exact HLE.out
    case rel=>exact⟨q,n',K',rfl,rfl,.inl ⟨HF.out,rfl,rfl⟩,HK'.out,HRQ.out,HLQ.out,HC.out,HS.out⟩
   |some f =>
    rw[hf]at hlk2
    replace hlk2:(Instr.lookup 83 (.map (some mk)) (.pointer (some ⟨q,0,none⟩)) true).run Tryz.prog wr=.ok (.tuple #[.pointer (some ⟨f,0,none⟩),.bool true]) wr:=hlk2;obtain⟨w1,hrun,hm1,hg1,hsz1⟩:=MapK.store hk'.mp keyQ Tryz.underlying83 p' f hp';have HRUN:(Instr.mapUpdate 83 (.map (some mk)) (.pointer (some ⟨p',0,none⟩)) (.pointer (some ⟨f,0,none⟩))).run Tryz.prog wr=.ok () w1:=hrun;have hc1:Chg (only mk) wr w1:=(Chg.refl _ wr).grown hg1 (λk hk=>.inr (by injection hk with hk;exact hk.symm));have hla:∀x,LaidQ wr x->LaidQ w1 x:=λx hx=>hx.chg hk'.mp hc1;have hk1:Knw w1 mk (upn K' p' (some f)) hd:=⟨hm1,λx=>by
     obtain⟨m,hm⟩:=hk'.rep x;obtain⟨m',_,hr'⟩:=Root.short hq hf m x m _ (Nat.le_refl _) hm;exact⟨m',hr'⟩,λx y hx=>by
     by_cases hxp:x=p'
     ·rw[hxp,zak]at hx
      injection hx with hx;rw[hxp,<-hx]
      exact⟨hla _ hp',hla _ (hk'.laid q f hf).2⟩
     ·rw[zac _ _ _ _ hxp]at hx
      exact⟨hla _ (hk'.laid x y hx).1,hla _ (hk'.laid x y hx).2⟩⟩
    obtain⟨m',hm',hrq'⟩:=Root.short hq hf n' q n' _ (Nat.le_refl _) hrq;have hlk3:(Instr.lookup 83 (.map (some mk)) (.pointer (some ⟨q,0,none⟩)) true).run Tryz.prog w1=.ok (.tuple #[optV (upn K' p' (some f) q),.bool (upn K' p' (some f) q).isSome]) w1 :=
     MapK.look hk1.mp keyQ Tryz.underlying83 (zeH _) q (hla _ hlq)
    obtain⟨o5,ho5⟩:∃o,optV (upn K' p' (some f) q)=o:=⟨_,rfl⟩;obtain⟨o6,ho6⟩:∃o,(upn K' p' (some f) q).isSome=o:=⟨_,rfl⟩;rw[ho5,ho6]at hlk3
    have hb1:=Blk.chg hbr hc1 hbm;have r3:w1.cell? ⟨b,3,none⟩=some (.map (some mk)):=hb1.cell 3;have HO5:=hidE ho5;have HO6:=hidE ho6;have HK1:=hidE hk1;have HLQ:=hidE (hla _ hlq);have HC:=hidE (hc.trans hc1);have HS:Hid (w1.heap.size=w.heap.size):=hidE (by omega);have HRQ:=hidE hrq';have HLE:Hid (m'<gk):=hidE (by omega);clear hq hr hk' hp' hc hs hbr hlq hrq hf hgg hn' hrun hm1 hg1 hsz1 hc1 hla hk1 hm' hrq' ho5 ho6 hb1;go_wp2_with fail
    go_roundg m'
    case measure=>exact HLE.out
    case rel=>exact⟨q,m',_,rfl,rfl,by have:=optS (upn K' p' (some f) q);rw[HO5.out,HO6.out]at this;exact this,HK1.out,HRQ.out,HLQ.out,HC.out,HS.out⟩
def fitB(x y:Nd):Bool :=
 x.kd==y.kd&&x.kids.length==y.kids.length&&x.kd != 1 &&(x.kd != 3||decide (x.nm=y.nm))
theorem PartC.facts {w:World} {p:Nat} {x:Nd} {d:Dy}(h:PartC w p x d):∃A c,w.cell? ⟨p,0,none⟩=some (.int .i64 (x.kd:Nat))/\w.cell? ⟨p,1,none⟩=some (.string x.nm)/\w.cell? ⟨p,2,none⟩=some (.int .i64 (x.n:Nat))/\w.cell? ⟨p,4,none⟩=some (.slice A x.kids.length c)/\w.cell? ⟨p,5,none⟩=some (optV x.con)/\w.cell? ⟨p,6,none⟩=some (.bool x.new) /\
  (x.kids≠[]->A=some ⟨d.row,0,none⟩/\∃cur,w.heap[d.row]?=some (.cells cur 75 (0,0))/\∀(j q:Nat),x.kids[j]?=some q->cur[j]?=some (PK q)):=by
 obtain⟨A,c,hb,hr⟩:=h;exact⟨A,c,hb.cell 0,hb.cell 1,hb.cell 2,hb.cell 4,hb.cell 5,hb.cell 6,hr⟩
theorem zgb(p q:Nat)(x y:Nd)(d e:Dy)(w:World)(hp:PartC w p x d)(hq:PartC w q y e):Calls Tryz.prog 73 #[.pointer (some ⟨p,0,none⟩),.pointer (some ⟨q,0,none⟩)] w λr w'=>r=.returned (.bool (fitB x y))/\Below w.heap.size w w'/\w'.heap.size=w.heap.size:=by
 obtain⟨A,c,p0,p1,-,p4,-,-,-⟩:=hp.facts;obtain⟨B,c',q0,q1,-,q4,-,-,-⟩:=hq.facts;have hpl:=hp.lt;have hql:=hq.lt;obtain⟨kx,nx,zx,lx,cx,wx⟩:=x;obtain⟨ky,ny,zy,ly,cy,wy⟩:=y;simp only at p0 p1 p4 q0 q1 q4;clear hp hq;obtain⟨m,hm⟩:∃m,lx.length=m:=⟨_,rfl⟩;obtain⟨m',hm'⟩:∃m,ly.length=m:=⟨_,rfl⟩;rw[hm]at p4
 rw[hm']at q4
 by_cases hk:kx=ky
 ·subst hk
  by_cases hl:m=m'
  ·subst hl
   by_cases h1:kx=1
   ·have e1:((kx:Int)==1)=true:=by simp[h1]
    have hv:fitB ⟨kx,nx,zx,lx,cx,wx⟩ ⟨kx,ny,zy,ly,cy,wy⟩=false:=by simp[fitB,h1]
    rw[hv]
    clear h1 hv hm hm';go_enter Tryz.func73,Tryz.ntmps73
    go_wp2_with fail
    go_quiet (fail)
    go_wp2_with fail
    go_ret
    exact⟨rfl,below_drewN' (Below.refl _ w) _,rfl⟩
   ·have e1:((kx:Int)==1)=false:=by rw[Bool.eq_false_iff];intro e;simp at e;omega
    by_cases h3:kx=3
    ·have e3:((kx:Int)==3)=true:=by simp[h3]
     obtain⟨b,hb⟩:∃b,(nx.toList==ny.toList)=b:=⟨_,rfl⟩;have hv:fitB ⟨kx,nx,zx,lx,cx,wx⟩ ⟨kx,ny,zy,ly,cy,wy⟩=b:=by
      rw[<-hb]
      have hx:(nx.toList==ny.toList)=decide (nx=ny):=by
       rw[Lib.toList_data,Lib.toList_data]
       refine Bool.eq_iff_iff.2 ?_;rw[beq_iff_eq,decide_eq_true_iff]
       exact⟨λh=>by cases nx;cases ny;simp only[ByteArray.mk.injEq];exact Array.toList_inj.1 h,λh=>by rw[h]⟩
      rw[hx]
      simp[fitB,h3,hm,hm']
     rw[hv]
     clear h1 h3 hv hm hm';go_enter Tryz.func73,Tryz.ntmps73
     go_wp2_with fail
     go_quiet (fail)
     have p1':(w.drewN nq).cell? ⟨p,1,none⟩=some (.string nx):=p1;have q1':(w.drewN nq).cell? ⟨q,1,none⟩=some (.string ny):=q1;have p0':(w.drewN nq).cell? ⟨p,0,none⟩=some (.int .i64 (kx:Nat)):=p0;have HBQ:Hid (Below w.heap.size w (w.drewN nq)/\(w.drewN nq).heap.size=w.heap.size):=hidE ⟨below_drewN' (Below.refl _ w) nq,rfl⟩;have hpq:p<(w.drewN nq).heap.size:=hpl;have hqq:q<(w.drewN nq).heap.size:=hql;clear p0 p1 p4 q0 q1 q4 hpl hql;generalize w.drewN nq=W at *;go_wp2_with fail
     go_region
     all_goals
      go_wp2_with fail
      go_ret
      exact⟨rfl,HBQ.out.1.drew,HBQ.out.2⟩
    ·have e3:((kx:Int)==3)=false:=by rw[Bool.eq_false_iff];intro e;simp at e;omega
     have hv:fitB ⟨kx,nx,zx,lx,cx,wx⟩ ⟨kx,ny,zy,ly,cy,wy⟩=true:=by simp[fitB,h1,h3,hm,hm']
     rw[hv]
     clear h1 h3 hv hm hm';go_enter Tryz.func73,Tryz.ntmps73
     go_wp2_with fail
     go_quiet (fail)
     go_wp2_with fail
     go_ret
     exact⟨rfl,below_drewN' (Below.refl _ w) _,rfl⟩
  ·have e1:((m:Int) ==(m':Int))=false:=by rw[Bool.eq_false_iff];intro e;simp at e;omega
   have hv:fitB ⟨kx,nx,zx,lx,cx,wx⟩ ⟨kx,ny,zy,ly,cy,wy⟩=false:=by simp[fitB,hm,hm',hl]
   rw[hv]
   clear hl hv hm hm';go_enter Tryz.func73,Tryz.ntmps73
   go_wp2_with fail
   go_quiet (fail)
   go_wp2_with fail
   go_ret
   exact⟨rfl,below_drewN' (Below.refl _ w) _,rfl⟩
 ·have e1:((kx:Int) !=(ky:Int))=true:=by rw[bne_iff_ne];omega
  have hv:fitB ⟨kx,nx,zx,lx,cx,wx⟩ ⟨ky,ny,zy,ly,cy,wy⟩=false:=by simp[fitB,hk]
  rw[hv]
  clear hk hv hm hm';go_enter Tryz.func73,Tryz.ntmps73
  go_wp2_with fail
  go_quiet (fail)
  go_wp2_with fail
  go_ret
  exact⟨rfl,below_drewN' (Below.refl _ w) _,rfl⟩
end Go.Proofs.YtfafilmklhnngaaGreatDoor
namespace Go.Proofs.YtfafilmklhnngaaGreatDoor
open Go.RowKit Lx Tx Go.Maps Go.WideMaps
set_option maxRecDepth 100000
theorem zcf {w:World} {q u:Nat}(hq:LaidQ w q)(hu:LaidQ w u):(binOp BinOp.eql 75 (.pointer (some ⟨q,0,none⟩)) (.pointer (some ⟨u,0,none⟩))).run Tryz.prog w=.ok (.bool (decide (q=u))) w:=by
 obtain⟨j,hj,hs⟩:∃j,Tryz.prog.info? 132=some j/\j.size≠0:=by
  cases h:Tryz.prog.info? 132 with
  |none=>have:=infoPart;rw[h]at this;cases this
  |some j=>have:=infoPart;rw[h]at this;exact⟨j,rfl,by simp at this;omega⟩
 by_cases h:q=u
 ·subst h
  rw[decide_eq_true rfl]
  exact run_eql_ptr_same w _ Tryz.underlying75 hj
 ·obtain⟨c1,h1⟩:=hq
  obtain⟨c2,h2⟩:=hu;rw[decide_eq_false h]
  exact run_eql_ptr_other w Tryz.underlying75 hj hs (λe=>h (by injection e)) h1 h2
structure Notes (w:World) (bo bu ba bn u:Nat) (o a n:Bool):Prop where
 o:Blk w bo 4 #[.bool o]
 u:Blk w bu 75 #[.pointer (some ⟨u,0,none⟩)]
 a:Blk w ba 4 #[.bool a]
 n:Blk w bn 4 #[.bool n]
theorem Notes.keep {w w':World} {bo bu ba bn u:Nat} {o a n:Bool}(h:Notes w bo bu ba bn u o a n)(h1:w'.heap[bo]?=w.heap[bo]?)(h2:w'.heap[bu]?=w.heap[bu]?)(h3:w'.heap[ba]?=w.heap[ba]?)(h4:w'.heap[bn]?=w.heap[bn]?):Notes w' bo bu ba bn u o a n :=
 ⟨h.o.same h1,h.u.same h2,h.a.same h3,h.n.same h4⟩
theorem zoe(bo bu ba bn u q:Nat)(o a n:Bool)(x:Nd)(d:Dy)(w:World)(hN:Notes w bo bu ba bn u o a n)(hx:PartC w q x d)(hu:LaidQ w u)(h1:bo≠ba)(h2:bo≠bn)(h3:ba≠bn):Calls Tryz.prog 158 #[.pointer (some ⟨q,0,none⟩),.pointer (some ⟨bo,0,none⟩),.pointer (some ⟨bu,0,none⟩),.pointer (some ⟨ba,0,none⟩),.pointer (some ⟨bn,0,none⟩)] w λe w'=>(∃v,e=.returned v) /\
   Notes w' bo bu ba bn u (o||decide (q=u)) (a||decide (x.kd=5)) (n||x.new)/\Chg (λg=>g=bo\/g=ba\/g=bn) w w'/\w'.heap.size=w.heap.size:=by
 obtain⟨A,c,p0,-,-,-,-,p6,-⟩:=hx.facts;obtain⟨kx,nx,zx,lx,cx,wx⟩:=x;simp only at p0 p6 ⊢;have hql:=hx.lt;have hqo:q≠bo:=by obtain⟨_,_,hb,_⟩:=hx;exact Blk.ne_ hb hN.o (by decide)
 have hqa:q≠ba:=by obtain⟨_,_,hb,_⟩:=hx;exact Blk.ne_ hb hN.a (by decide)
 have hbo:bu≠bo:=Blk.ne_ hN.u hN.o (by decide);have hba:bu≠ba:=Blk.ne_ hN.u hN.a (by decide);have hbn:bu≠bn:=Blk.ne_ hN.u hN.n (by decide);obtain⟨o',ho'⟩:∃o',(o||decide (q=u))=o':=⟨_,rfl⟩;obtain⟨a',ha'⟩:∃a',(a||decide (kx=5))=a':=⟨_,rfl⟩;obtain⟨n',hn'⟩:∃n',(n||wx)=n':=⟨_,rfl⟩;obtain⟨w1,hw1⟩:∃w1,w.setCell ⟨bo,0,none⟩ (.bool o')=w1:=⟨_,rfl⟩;obtain⟨w2,hw2⟩:∃w2,w1.setCell ⟨ba,0,none⟩ (.bool a')=w2:=⟨_,rfl⟩;obtain⟨w3,hw3⟩:∃w3,w2.setCell ⟨bn,0,none⟩ (.bool n')=w3:=⟨_,rfl⟩;have k1:∀g,g≠bo->w1.heap[g]?=w.heap[g]?:=λg hg=>by rw[<-hw1];exact Below.heap_setCell _ _ _ _ hg
 have k2:∀g,g≠ba->w2.heap[g]?=w1.heap[g]?:=λg hg=>by rw[<-hw2];exact Below.heap_setCell _ _ _ _ hg
 have k3:∀g,g≠bn->w3.heap[g]?=w2.heap[g]?:=λg hg=>by rw[<-hw3];exact Below.heap_setCell _ _ _ _ hg
 have a1:=hN.a.same (k1 ba h1.symm);have n2:=(hN.n.same (k1 bn h2.symm)).same (k2 bn h3.symm);have o1:Blk w1 bo 4 #[.bool o']:=by rw[<-hw1];exact heap_setCell_same w bo 0 _ _ _ hN.o
 have a2:Blk w2 ba 4 #[.bool a']:=by rw[<-hw2];exact heap_setCell_same w1 ba 0 _ _ _ a1
 have n3:Blk w3 bn 4 #[.bool n']:=by rw[<-hw3];exact heap_setCell_same w2 bn 0 _ _ _ n2
 have s1:w1.heap.size=w.heap.size:=by rw[<-hw1];exact World.size_setCell _ _ _
 have s2:w2.heap.size=w1.heap.size:=by rw[<-hw2];exact World.size_setCell _ _ _
 have s3:w3.heap.size=w2.heap.size:=by rw[<-hw3];exact World.size_setCell _ _ _
 have HN3:Hid (Notes w3 bo bu ba bn u o' a' n'):=hidE ⟨(o1.same (k2 bo h1)).same (k3 bo h2),((hN.u.same (k1 bu hbo)).same (k2 bu hba)).same (k3 bu hbn),a2.same (k3 ba h3),n3⟩;have HC3:Hid (Chg (λg=>g=bo\/g=ba\/g=bn) w w3):=hidE (by
  rw[<-hw3,<-hw2,<-hw1]
  exact(((Chg.refl _ w).setCell (p:=⟨bo,0,none⟩) (.inr (.inl rfl)) _).setCell (p:=⟨ba,0,none⟩) (.inr (.inr (.inl rfl))) _).setCell (p:=⟨bn,0,none⟩) (.inr (.inr (.inr rfl))) _)
 have HS3:Hid (w3.heap.size=w.heap.size):=hidE (by omega);have c0:w.cell? ⟨bo,0,none⟩=some (.bool o):=hN.o.cell 0;have c1:w.cell? ⟨bu,0,none⟩=some (.pointer (some ⟨u,0,none⟩)):=hN.u.cell 0;have c2:w1.cell? ⟨ba,0,none⟩=some (.bool a):=a1.cell 0;have c3:w2.cell? ⟨bn,0,none⟩=some (.bool n):=n2.cell 0;have f0:=hN.o.frozen 0;have f2:=a1.frozen 0;have f3:=n2.frozen 0;have l0:=hN.o.lt;have l1:=hN.u.lt;have l2:ba<w1.heap.size:=a1.lt;have l3:bn<w2.heap.size:=n2.lt;have lq1:q<w1.heap.size:=by omega
 have lq2:q<w2.heap.size:=by omega
 have x0:w1.cell? ⟨q,0,none⟩=some (.int .i64 (kx:Nat)):=(World.cell?_of_block (w:=w) (a:=⟨q,0,none⟩) (k1 q hqo)).trans p0;have x6:w2.cell? ⟨q,6,none⟩=some (.bool wx):=(World.cell?_of_block (w:=w) (a:=⟨q,6,none⟩) ((k2 q hqa).trans (k1 q hqo))).trans p6;have W1:=hidE hw1;have W2:=hidE hw2;have W3:=hidE hw3;have hD:(decide (kx=5))=((kx:Int)==5):=by rw[Bool.eq_iff_iff];simp;omega
 have hD':=hD;rw[hD]at ha'
 obtain⟨b5,hb5⟩:∃b,((kx:Int)==5)=b:=⟨_,rfl⟩;rw[hb5]at ha'
 obtain⟨bq,hbq⟩:∃b,decide (q=u)=b:=⟨_,rfl⟩;have heq:=zcf hx.laid hu;rw[hbq]at heq
 rw[hbq]at ho'
 have HQ:=hidE hbq;have H5:Hid (decide (kx=5)=b5):=hidE (hD'.trans hb5);clear hD' hN hx k1 k2 k3 a1 n2 o1 a2 n3 hw1 hw2 hw3 hD h1 h2 h3 hqo hqa hbo hba hbn p0 p6 s1 s2 s3;cases o
 ·cases a
  ·cases n
   ·go_enter Tryz.func158,Tryz.ntmps158
    go_upto_region 1 with fail
    rw[Bool.false_or]at ho'
    subst ho';rw[W1.out]
    go_upto_region 2 with fail
    rw[Bool.false_or]at ha'
    subst ha';rw[W2.out]
    go_wp2_with fail
    rw[Bool.false_or]at hn'
    subst hn';rw[W3.out]
    go_end0
    exact⟨⟨_,rfl⟩,by rw[HQ.out,H5.out];exact HN3.out,HC3.out,HS3.out⟩
   ·go_enter Tryz.func158,Tryz.ntmps158
    go_upto_region 1 with fail
    rw[Bool.false_or]at ho'
    subst ho';rw[W1.out]
    go_upto_region 2 with fail
    rw[Bool.false_or]at ha'
    subst ha';rw[W2.out]
    go_wp2_with fail
    rw[Bool.true_or]at hn'
    subst hn';rw[W3.out]
    go_end0
    exact⟨⟨_,rfl⟩,by rw[HQ.out,H5.out];exact HN3.out,HC3.out,HS3.out⟩
  ·cases n
   ·go_enter Tryz.func158,Tryz.ntmps158
    go_upto_region 1 with fail
    rw[Bool.false_or]at ho'
    subst ho';rw[W1.out]
    go_upto_region 2 with fail
    rw[Bool.true_or]at ha'
    subst ha';rw[W2.out]
    go_wp2_with fail
    rw[Bool.false_or]at hn'
    subst hn';rw[W3.out]
    go_end0
    exact⟨⟨_,rfl⟩,by rw[HQ.out,H5.out];exact HN3.out,HC3.out,HS3.out⟩
   ·go_enter Tryz.func158,Tryz.ntmps158
    go_upto_region 1 with fail
    rw[Bool.false_or]at ho'
    subst ho';rw[W1.out]
    go_upto_region 2 with fail
    rw[Bool.true_or]at ha'
    subst ha';rw[W2.out]
    go_wp2_with fail
    rw[Bool.true_or]at hn'
    subst hn';rw[W3.out]
    go_end0
    exact⟨⟨_,rfl⟩,by rw[HQ.out,H5.out];exact HN3.out,HC3.out,HS3.out⟩
 ·cases a
  ·cases n
   ·go_enter Tryz.func158,Tryz.ntmps158
    go_upto_region 1 with fail
    rw[Bool.true_or]at ho'
    subst ho';rw[W1.out]
    go_upto_region 2 with fail
    rw[Bool.false_or]at ha'
    subst ha';rw[W2.out]
    go_wp2_with fail
    rw[Bool.false_or]at hn'
    subst hn';rw[W3.out]
    go_end0
    exact⟨⟨_,rfl⟩,by rw[HQ.out,H5.out];exact HN3.out,HC3.out,HS3.out⟩
   ·go_enter Tryz.func158,Tryz.ntmps158
    go_upto_region 1 with fail
    rw[Bool.true_or]at ho'
    subst ho';rw[W1.out]
    go_upto_region 2 with fail
    rw[Bool.false_or]at ha'
    subst ha';rw[W2.out]
    go_wp2_with fail
    rw[Bool.true_or]at hn'
    subst hn';rw[W3.out]
    go_end0
    exact⟨⟨_,rfl⟩,by rw[HQ.out,H5.out];exact HN3.out,HC3.out,HS3.out⟩
  ·cases n
   ·go_enter Tryz.func158,Tryz.ntmps158
    go_upto_region 1 with fail
    rw[Bool.true_or]at ho'
    subst ho';rw[W1.out]
    go_upto_region 2 with fail
    rw[Bool.true_or]at ha'
    subst ha';rw[W2.out]
    go_wp2_with fail
    rw[Bool.false_or]at hn'
    subst hn';rw[W3.out]
    go_end0
    exact⟨⟨_,rfl⟩,by rw[HQ.out,H5.out];exact HN3.out,HC3.out,HS3.out⟩
   ·go_enter Tryz.func158,Tryz.ntmps158
    go_upto_region 1 with fail
    rw[Bool.true_or]at ho'
    subst ho';rw[W1.out]
    go_upto_region 2 with fail
    rw[Bool.true_or]at ha'
    subst ha';rw[W2.out]
    go_wp2_with fail
    rw[Bool.true_or]at hn'
    subst hn';rw[W3.out]
    go_end0
    exact⟨⟨_,rfl⟩,by rw[HQ.out,H5.out];exact HN3.out,HC3.out,HS3.out⟩
end Go.Proofs.YtfafilmklhnngaaGreatDoor
namespace Go.Proofs.YtfafilmklhnngaaGreatDoor
open Go.RowKit Lx Tx Go.Maps Go.WideMaps
set_option maxRecDepth 100000
def NewPost(w:World)(e:Ending)(w':World):Prop :=
 ∃b mv mu mk,e=.returned (.pointer (some ⟨b,0,none⟩))/\Blk w' b 85 #[.slice none 0 0,.map (some mv),.map (some mu),.map (some mk),.int .i64 0] /\
  MapS w' mv (λ_=>none)/\MapI w' mu (λ_=>none)/\Knw w' mk (λ_=>none) (λp=>p)/\mv≠mu/\mv≠mk/\mu≠mk/\Below w.heap.size w w'/\w.heap.size<=mv/\w.heap.size<=mu/\w.heap.size<=mk/\w.heap.size<=b
theorem zoO(w:World):Calls Tryz.prog 32 #[] w (NewPost w):=by
 have hm1:∀w,(Instr.makeMap 81 none).run Tryz.prog w=.ok (.map (some w.heap.size)) (w.alloc (.map #[] 0)):=λ_=>rfl;have hm2:∀w,(Instr.makeMap 82 none).run Tryz.prog w=.ok (.map (some w.heap.size)) (w.alloc (.map #[] 0)):=λ_=>rfl;have hm3:∀w,(Instr.makeMap 83 none).run Tryz.prog w=.ok (.map (some w.heap.size)) (w.alloc (.map #[] 0)):=λ_=>rfl;obtain⟨l0,l1,l2,l3,hs4,hb4⟩:=zeG w (.map #[] 0) (.map #[] 0) (.map #[] 0) (.cells #[.slice none 0 0,.map (some w.heap.size),.map (some (w.heap.size+1)),.map (some (w.heap.size+1+1)),.int .i64 0] 85);have mk0:∀ {κ:Type} [DecidableEq κ] (kv:κ->Value) (ok:World->κ->Prop) (W:World) (g:Nat),W.heap[g]?=some (.map #[] 0)->MapK kv ok W g (λ_=>none):=λkv ok W g h =>
  ⟨#[],0,[],h,rfl,List.nodup_nil,(λ_ h=>by cases h),(λ_=>rfl),(λ_ h=>by cases h),List.nodup_nil⟩
 obtain⟨w4,hw4⟩:∃W,(((w.alloc (.map #[] 0)).alloc (.map #[] 0)).alloc (.map #[] 0)).alloc (.cells #[.slice none 0 0,.map (some w.heap.size),.map (some (w.heap.size+1)),.map (some (w.heap.size+1+1)),.int .i64 0] 85)=W:=⟨_,rfl⟩;rw[hw4]at l0 l1 l2 l3 hs4 hb4
 have HEND:Hid (Blk w4 (w.heap.size+1+1+1) 85 #[.slice none 0 0,.map (some w.heap.size),.map (some (w.heap.size+1)),.map (some (w.heap.size+1+1)),.int .i64 0]/\MapS w4 w.heap.size (λ_=>none)/\MapI w4 (w.heap.size+1) (λ_=>none)/\Knw w4 (w.heap.size+1+1) (λ_=>none) (λp=>p)/\Below w.heap.size w w4):=hidE
  ⟨l3,mk0 _ _ _ _ l0,mk0 _ _ _ _ l1,⟨mk0 _ _ _ _ l2,λp=>⟨0,.nil p rfl⟩,λ_ _ h=>by cases h⟩,hb4⟩
 have HW4:=hidE hw4;clear l0 l1 l2 l3 hs4 hb4 hw4 mk0;go_enter Tryz.func32,Tryz.ntmps32
 go_wp2_with fail
 rw[HW4.out]
 go_ret
 exact⟨w.heap.size+1+1+1,w.heap.size,w.heap.size+1,w.heap.size+1+1,rfl,HEND.out.1,HEND.out.2.1,HEND.out.2.2.1,HEND.out.2.2.2.1,by omega,by omega,by omega,HEND.out.2.2.2.2,by omega,by omega,by omega,by omega⟩
structure UfC (b mv mu mk:Nat) (w0:World) (G:Nat->Option Nd) (D:Nat->Dy) (V:Name->Option Nat) (U:Nat->Option Nat) (W:World):Prop where
 sb:Blk W b 85 #[.slice none 0 0,.map (some mv),.map (some mu),.map (some mk),.int .i64 0]
 lays:Lays W mv mu G D V U
 vf:∀x p,V x=some p->G p=some ⟨1,⟨x.toArray⟩,0,[],none,false⟩
 kn:Knw W mk (λ_=>none) (λp=>p)
 ch:Chg (λg=>g=mv\/g=mu) w0 W
 lo:∀q x,G q=some x->w0.heap.size<=q
theorem UfC.keep {b mv mu mk:Nat} {w0:World} {G:Nat->Option Nd} {D:Nat->Dy} {V:Name->Option Nat} {U:Nat->Option Nat} {W W':World}(h:UfC b mv mu mk w0 G D V U W)(hb:Below W.heap.size W W'):UfC b mv mu mk w0 G D V U W' :=
 ⟨h.sb.below hb h.sb.lt,h.lays.keep hb.block,h.vf,h.kn.keep (hb.block _ (MapK.lt h.kn.mp)) (λx ⟨cs,hx⟩=>⟨cs,(hb.block x (Array.getElem?_eq_some_iff.1 hx).1).trans hx⟩),h.ch.below hb,h.lo⟩
def UfP(b mv mu mk:Nat)(w0:World)(G:Nat->Option Nd)(D:Nat->Dy)(V:Name->Option Nat)(U:Nat->Option Nat)(W:World)(t:Ty)(p:Nat)(W':World):Prop :=
 ∃nl G' D' V' U',UfC b mv mu mk w0 G' D' V' U' W'/\LExt W.heap.size W'.heap.size G G' D D' V V' U U'/\LayT G' U' V' p t nl/\nl.Nodup/\(∀q∈nl,W.heap.size<=q/\q<W'.heap.size)/\Chg (λg=>g=mv\/g=mu) W W'
def UfT(b mv mu mk:Nat)(w0:World)(G:Nat->Option Nd)(D:Nat->Dy)(V:Name->Option Nat)(U:Nat->Option Nat)(W:World)(t u:Ty)(p q:Nat)(W':World):Prop :=
 ∃nl nr G' D' V' U',UfC b mv mu mk w0 G' D' V' U' W'/\LExt W.heap.size W'.heap.size G G' D D' V V' U U'/\LayT G' U' V' p t nl/\LayT G' U' V' q u nr/\(nl++nr).Nodup/\(∀x∈nl++nr,W.heap.size<=x/\x<W'.heap.size)/\Chg (λg=>g=mv\/g=mu) W W'
section
variable {b mv mu mk:Nat} {w0:World} {G:Nat->Option Nd} {D:Nat->Dy} {V:Name->Option Nat} {U:Nat->Option Nat} {W:World} {S:Nat->Prop}
theorem ziW(h:UfC b mv mu mk w0 G D V U W)(hne:mv≠mu/\mk≠mv/\mk≠mu) {t:Ty} {v:Value}(hsz:t.size<=1000000)(hv:RdV S W t v)(hS:∀g,S g->g<W.heap.size/\g≠mv/\g≠mu)(hnm:Nm t):Calls Tryz.prog 33 #[.pointer (some ⟨b,0,none⟩),v] W λe W'=>∃p,e=.returned (.pointer (some ⟨p,0,none⟩))/\UfP b mv mu mk w0 G D V U W t p W':=by
 refine(zlh b mv mu S 1000000 (Nat.le_refl _) t v W _ _ _ G D V U hsz h.sb h.lays hne.1 hv hS hnm).mono ?_;rintro e W' ⟨p,ns,G',D',V',U',rfl,h1,h2,h3,h4,h5,h6⟩;have hno:∀(g:Nat) (cs:Array Value) (t:TypeId),W.heap[g]?=some (.cells cs t (0,0))->W'.heap[g]?=W.heap[g]?:=λg cs t hg=>h6.block g (Array.getElem?_eq_some_iff.1 hg).1 (by
  rintro(e|e)
  ·rw[e]at hg;exact MapK.no h.lays.ms hg
  ·rw[e]at hg;exact MapK.no h.lays.mi hg)
 refine⟨p,rfl,ns,G',D',V',U',⟨h.sb.same (hno _ _ _ h.sb),h1,λx q hx=>?_,h.kn.keep (h6.block _ (MapK.lt h.kn.mp) (by rintro(e|e);exact hne.2.1 e;exact hne.2.2 e)) (λx ⟨cs,hx⟩=>⟨cs,(hno x cs _ hx).trans hx⟩),h.ch.trans h6,λq x hx=>?_⟩,h2,h3,h4,h5,h6⟩;rotate_left
 ·by_cases e:q<W.heap.size
  ·rw[(h2.old q e).1]at hx;exact h.lo q x hx
  ·have:=h.ch.size;omega
 rcases h2.vn x q hx with h7|⟨_,h7⟩
 ·have h8:=h.vf x q h7
  rw[(h2.old q (h.lays.lt h8)).1];exact h8
 ·exact h7
theorem UfP.two {W1 W2:World} {t u:Ty} {p q:Nat} {nl:List Nat} {G1:Nat->Option Nd} {D1:Nat->Dy} {V1:Name->Option Nat} {U1:Nat->Option Nat}
  (h:UfC b mv mu mk w0 G1 D1 V1 U1 W1/\LExt W.heap.size W1.heap.size G G1 D D1 V V1 U U1/\LayT G1 U1 V1 p t nl/\nl.Nodup/\(∀q∈nl,W.heap.size<=q/\q<W1.heap.size)/\Chg (λg=>g=mv\/g=mu) W W1)
  (k:UfP b mv mu mk w0 G1 D1 V1 U1 W1 u q W2):UfT b mv mu mk w0 G D V U W t u p q W2:=by
 obtain⟨h1,h2,h3,h4,h5,h6⟩:=h;obtain⟨nr,G2,D2,V2,U2,k1,k2,k3,k4,k5,k6⟩:=k;have s1:=h6.size;have s2:=k6.size;refine⟨nl,nr,G2,D2,V2,U2,k1,h2.trans k2 s1 s2 (λx p hx=>h1.lays.lt (h1.vf x p hx)),h3.more (k2.gx λq x hx=>h1.lays.lt hx) k2.ux k2.vx,k3,List.nodup_append.2 ⟨h4,k4,λa ha b hb e=>?_⟩,λx hx=>?_,h6.trans k6⟩
 ·have:=h5 a ha;have:=k5 b hb;omega
 ·rcases List.mem_append.1 hx with hx|hx
  ·have:=h5 x hx;omega
  ·have:=k5 x hx;omega
theorem UfP.next(hne:mv≠mu/\mk≠mv/\mk≠mu) {W1:World} {t u:Ty} {p:Nat}(h:UfP b mv mu mk w0 G D V U W t p W1) {v:Value}(hsz:u.size<=1000000)(hv:RdV S W u v)(hS:∀g,S g->g<W.heap.size/\g≠mv/\g≠mu)(hnm:Nm u):Calls Tryz.prog 33 #[.pointer (some ⟨b,0,none⟩),v] W1 λe W'=>∃q,e=.returned (.pointer (some ⟨q,0,none⟩))/\UfT b mv mu mk w0 G D V U W t u p q W':=by
 obtain⟨nl,G1,D1,V1,U1,h1,h2,h3,h4,h5,h6⟩:=h;have s1:=h6.size;refine(ziW h1 hne hsz (hv.keep (λ_ h=>h) (λg hg=>h6.block g (hS g hg).1 (by rintro(e|e);exact(hS g hg).2.1 e;exact(hS g hg).2.2 e))) (λg hg=>by have:=hS g hg;exact⟨by omega,this.2⟩) hnm).mono ?_;rintro e W2 ⟨q,rfl,hk⟩;exact⟨q,rfl,UfP.two ⟨h1,h2,h3,h4,h5,h6⟩ hk⟩
end
end Go.Proofs.YtfafilmklhnngaaGreatDoor
