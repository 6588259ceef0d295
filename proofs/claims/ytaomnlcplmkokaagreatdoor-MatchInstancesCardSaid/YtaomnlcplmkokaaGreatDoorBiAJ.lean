import Derived.Test.YtaomnlcplmkokaaGreatDoorBiAC
import Derived.Test.YtaomnlcplmkokaaGreatDoorBiAI
set_option maxHeartbeats 12800000
namespace Go.Proofs.YtaomnlcplmkokaaGreatDoor
open Go.RowKit Lx Tx Go.Maps Go.WideMaps Go.Shelf
set_option maxRecDepth 100000
def RowB(w:World)(v:Value)(l:List (Name × Ty)):Prop :=
 ∃q,RelV (λg=>g<w.heap.size) w l q/\(∃A c,v=.slice A l.length c/\(0<l.length->∃g,A=some ⟨g,0,none⟩/\g<w.heap.size/\∀j u,(za2 q)[j]?=some u->w.cell? ⟨g,j,none⟩=some u))/\(l=[]->v=.slice none 0 0)
theorem RowB.nil(w:World):RowB w (.slice none 0 0) []:=⟨[],trivial,⟨none,0,rfl,λh=>by cases h⟩,λ_=>rfl⟩
theorem RowB.below {w w':World} {v:Value} {l:List (Name × Ty)}(h:RowB w v l)(hb:Below w.heap.size w w'):RowB w' v l:=by
 obtain⟨q,h1,⟨A,c,hv,hc⟩,h3⟩:=h;refine⟨q,RelV.keep (λg hg=>Nat.lt_of_lt_of_le hg hb.size) (λg hg=>hb.block g hg) _ _ h1,⟨A,c,hv,λh0=>?_⟩,h3⟩;obtain⟨g,e,hg,hj⟩:=hc h0;exact⟨g,e,Nat.lt_of_lt_of_le hg hb.size,λj u hu=>(hb.cell (p:=⟨g,j,none⟩) hg).trans (hj j u hu)⟩
theorem RowB.at {w:World} {v:Value} {l:List (Name × Ty)}(h:RowB w v l)(i:Nat)(hi:i<l.length):∃g c k x z a m p,v=.slice (some ⟨g,0,none⟩) l.length c/\g<w.heap.size/\w.cell? ⟨g,i*5,none⟩=some (.string ⟨l[i].1.toArray⟩)/\w.cell? ⟨g,i*5+1,none⟩=some (.int .i64 k)/\w.cell? ⟨g,i*5+2,none⟩=some (.string x) /\
   w.cell? ⟨g,i*5+3,none⟩=some (.int .i64 z)/\w.cell? ⟨g,i*5+4,none⟩=some (.slice a m p)/\RdN w l[i].2 (.agg #[.int .i64 k,.string x,.int .i64 z,.slice a m p]):=by
 obtain⟨q,h1,⟨A,c,rfl,hc⟩,-⟩:=h;obtain⟨g,rfl,hg,hj⟩:=hc (by omega);have hq:i<q.length:=by rw[<-RelV.len l q h1];exact hi
 obtain⟨c0,c1,c2,c3,c4⟩:=zke q i hq;obtain⟨hx,hrd⟩:=RelV.at l q i hi hq h1;rw[<-hx]at c0
 exact⟨g,c,q[i].2.k,q[i].2.x,q[i].2.z,q[i].2.a,q[i].2.m,q[i].2.p,rfl,hg,hj _ _ c0,hj _ _ c1,hj _ _ c2,hj _ _ c3,hj _ _ c4,hrd⟩
theorem zot(x:Name)(l:List (Name × Ty))(i:Nat)(hi:i<l.length):look x (l.drop i)=if l[i].1=x then some l[i].2 else look x (l.drop (i+1)):=by
 rw[List.drop_eq_getElem_cons hi,look]
def HeadFi(X:ByteArray)(l:List (Name × Ty))(n:Nat)(W0:World)(gg:Nat)(vi:Value)(wr:World):Prop :=
 ∃i:Nat,gg=n-i/\vi=.int .i64 (i:Nat)/\i<=n/\wr=W0/\Hid (look X.data.toList (l.drop i)=look X.data.toList l)
theorem zrD(l:List (Name × Ty))(v:Value)(X:ByteArray)(w:World)(h:RowB w v l)(hl:l.length<=1000000):Calls Tryz.prog 64 #[v,.string X] w λe w'=>(∃K Y Z A m c,e=.returned (.tuple #[.agg #[.int .i64 K,.string Y,.int .i64 Z,.slice A m c],.bool (look X.data.toList l).isSome]))/\Below w.heap.size w w':=by
 obtain⟨A,n,c,rfl,hn⟩:∃A n c,v=.slice A n c/\l.length=n:=by obtain⟨_,_,⟨A,c,h,_⟩,_⟩:=h;exact⟨A,_,c,h,rfl⟩
 obtain⟨R,hR⟩:∃R,(look X.data.toList l).isSome=R:=⟨_,rfl⟩;rw[hR]
 rw[hn]at hl
 obtain⟨W0,hW⟩:∃W,w.alloc (.cells #[.int .i64 0,.string ⟨#[]⟩,.int .i64 0,.slice none 0 0] 29)=W:=⟨_,rfl⟩;have k4:Blk W0 w.heap.size 29 #[.int .i64 0,.string ⟨#[]⟩,.int .i64 0,.slice none 0 0]:=hW▸heap_alloc_new _ _;have hb0:Below w.heap.size w W0:=hW▸(Below.refl _ w).alloc (Nat.le_refl _) _;have H0:=hidE (h.below hb0);have HN:=hidE hn;have HR:=hidE hR;have HB:=hidE hb0;have K4:=hidE k4;obtain⟨z0,z1,z2,z3,z4,z5,z6,z7,zl⟩:=zaa k4;clear h hn hR hb0 k4;go_enter Tryz.func64,Tryz.ntmps64
 go_upto_region 1 with fail
 try rw[hW]
 clear hW;go_wp2_with fail
 go_loopg [6] n (λgg vi wr=>HeadFi X l n W0 gg vi wr)
 case atStart=>exact⟨0,rfl,rfl,Nat.zero_le _,rfl,hidE (by rw[List.drop_zero])⟩
 case round =>
  obtain⟨i,rfl,rfl,hin,rfl,hk⟩:=hrel;by_cases hlt:i<n
  ·have hil:i<l.length:=by rw[HN.out];exact hlt
   obtain⟨g,c',k,x,z,a,m,p,hv,hg,c0,c1,c2,c3,c4,-⟩:=H0.out.at i hil;injection hv with e1 e2 e3;subst e1;have hld:=zot X.data.toList l i hil;obtain⟨PX,hPX⟩:∃PX:ByteArray,(⟨l[i].1.toArray⟩:ByteArray)=PX:=⟨_,rfl⟩;rw[hPX]at c0
   clear e2 e3;by_cases he:PX=X
   ·have hr:R=true:=by
     rw[<-HR.out,<-hk.out,hld,if_pos (by rw[<-he,<-hPX])];rfl
    have HR2:=hidE hr;have dq:=strT PX X he;clear he hr hld hPX hil;go_wp2_with fail
    try simp only[Exit.inBlock,Exit.then]
    refine bodyPost_ret (zah rfl _ _ w.heap.size 29 _ (0,0) _ rfl (zad (.int .i64 k) (.string x) (.int .i64 z) (.slice a m p) K4.out) Tryz.underlying29 rfl (by kernel_rfl)) rfl ?_;exact⟨⟨k,x,z,a,m,p,by rw[HR2.out];rfl⟩,zaf HB.out _ _ _ _ (Nat.le_refl _)⟩
   ·have hnx:=hidE (show look X.data.toList (l.drop (i+1))=look X.data.toList l by
     rw[<-hk.out,hld,if_neg]
     intro e;exact he (by rw[<-hPX,e]))
    have dq:=strF PX X he;clear he hld hPX hil;go_wp2_with fail
    go_roundg (n-(i+1))
    case measure=>omega
    case rel=>exact⟨i+1,rfl,by go_num,by omega,rfl,hnx⟩
  ·have hr:R=false:=by
    rw[<-HR.out,<-hk.out,List.drop_eq_nil_of_le (by rw[HN.out];omega)];rfl
   have HR2:=hidE hr;clear hr;go_wp2_with fail
   try simp only[Exit.inBlock,Exit.then]
   refine bodyPost_ret (zah rfl _ _ w.heap.size 29 _ (0,0) _ rfl (zad (.int .i64 0) (.string ⟨#[]⟩) (.int .i64 0) (.slice none 0 0) K4.out) Tryz.underlying29 rfl (by kernel_rfl)) rfl ?_;exact⟨⟨0,⟨#[]⟩,0,none,0,0,by rw[HR2.out];rfl⟩,zaf HB.out _ _ _ _ (Nat.le_refl _)⟩
def zmS(n:Nat):Prop:=∀(t:Ty)(v vbut:Value)(but:List (List UInt8))(k:Nat)(w:World),t.size<=n->RdN w t v->RowV w vbut (strV but)->but.length<=1000000->k+t.size*(but.length+2)<=10 ^ 15 ->
 Calls Tryz.prog 32 #[v,vbut,.int .i64 k] w (NPost (numb 122 but [] [] t k) w)
theorem ziX(but:List Name)(t:Ty)(k:Nat):(renO but t k).size<=t.size:=by
 cases t with
 |all x u =>
  have:=zfb ⟨x.toArray⟩ u (.var (nm 122 (zal 122 but k)));rw[renO,Ty.size,Ty.size]
  rw[Ty.size,Nat.mul_one]at this
  omega
 |var x=>exact Nat.le_refl _
 |mt n=>exact Nat.le_refl _
 |con d l=>exact Nat.le_refl _
 |fn a b=>exact Nat.le_refl _
theorem zmT(but:List Name)(t:Ty)(k:Nat)(h:k+t.size*(but.length+2)<=10 ^ 15):renK but t k+zab (kids (renO but t k))*(but.length+2)<=10 ^ 15:=by
 have h1:=ziX but t k;have h2:=zak (renO but t k);have h3:(zab (kids (renO but t k))+1)*(but.length+2)<=t.size*(but.length+2):=Nat.mul_le_mul_right _ (by omega);rw[Nat.add_mul,Nat.one_mul]at h3
 have h4:renK but t k<=k+but.length+2:=by
  cases t with
  |all x u =>
   have:=(zfB 122 but (but.length+1) k).2;show zbm 122 but (but.length+1) k+1<=_;omega
  |var x=>show k<=_;omega
  |mt n=>show k<=_;omega
  |con d l=>show k<=_;omega
  |fn a b=>show k<=_;omega
 omega
def MidR(o:Ty)(w wx:World):Prop :=
 ∃K X Z A m c,Blk wx (w.heap.size+2) 29 #[.int .i64 K,.string X,.int .i64 Z,.slice A m c]/\RdN wx o (.agg #[.int .i64 K,.string X,.int .i64 Z,.slice A m c]) /\
  Blk wx (w.heap.size+1) 29 #[.int .i64 0,.string ⟨#[]⟩,.int .i64 0,.slice none 0 0]/\Below w.heap.size w wx/\w.heap.size+2<wx.heap.size
theorem zib {w:World}(x:Name)(X:ByteArray)(h:(⟨x.toArray⟩:ByteArray)=X):RdV (λ_=>False) w (.var x) (.agg #[.int .i64 1,.string X,.int .i64 0,.slice none 0 0]):=by
 subst h;exact⟨none,0,rfl,by rw[Args];trivial⟩
theorem zrE {w w9 W:World} {P:Ty} {k1:Int} {x1:ByteArray} {z1:Int} {a1:Option Addr} {m1 p1:Nat} {N:Name} {Y:ByteArray}(hY:(⟨N.toArray⟩:ByteArray)=Y)(hs:w.heap.size+2<w9.heap.size)
  (hb:Below w.heap.size w W)(hW:W.heap.size=w9.heap.size+1)(hk:∀g,g≠w.heap.size+2->g<w9.heap.size->W.heap[g]?=w9.heap[g]?)
  (hn:Blk W w9.heap.size 29 #[.int .i64 k1,.string x1,.int .i64 z1,.slice a1 m1 p1])(h8:Blk W (w.heap.size+2) 29 #[.int .i64 5,.string Y,.int .i64 0,.slice (some ⟨w9.heap.size,0,none⟩) 1 1])
  (k6:Blk w9 (w.heap.size+1) 29 #[.int .i64 0,.string ⟨#[]⟩,.int .i64 0,.slice none 0 0])
  (S:Nat->Prop)(hS:∀g,S g->g<w9.heap.size/\g≠w.heap.size+2)(hr:RdV S w9 P (.agg #[.int .i64 k1,.string x1,.int .i64 z1,.slice a1 m1 p1])):MidR (.all N P) w W:=by
 subst hY;obtain⟨A',c',he,ha⟩:=hr;refine⟨5,⟨N.toArray⟩,0,some ⟨w9.heap.size,0,none⟩,1,1,h8,⟨some ⟨w9.heap.size,0,none⟩,1,rfl,?_⟩,k6.same (hk _ (by omega) (by omega)),hb,by omega⟩;rw[Args]
 injection he with he;have he:=congrArg Array.toList he;simp at he;obtain⟨e1,e2,e3,e4,e5,e6⟩:=he;subst e4 e6;refine⟨w9.heap.size,rfl,by omega,a1,p1,⟨?_,?_,?_,?_⟩,ha.keep (λg hg=>by have:=(hS g hg).1;omega) (λg hg=>hk g (hS g hg).2 (hS g hg).1)⟩
 ·rw[<-e1];exact hn.cell 0
 ·rw[<-e2];exact hn.cell 1
 ·rw[<-e3];exact hn.cell 2
 ·rw[<-e5];exact hn.cell 3
set_option maxRecDepth 2000 in
theorem zlm(n:Nat)(h6:n+1<=400000)(IH:zmS n):zmS (n+1):=by
 intro t v vbut but k w hn hv hbut hbl hk;obtain⟨K,X,Z,A,m,c,rfl,hK,hX,hZ,hm,ha⟩:=hv.parts;obtain⟨O,hO⟩:∃O,numb 122 but [] [] t k=O:=⟨_,rfl⟩;have hsome:=zpX but t k (by omega);rw[hO]at hsome ⊢
 obtain⟨q1,q2,q3,q4,q5⟩:=hsome;have hren:=zmT but t k hk;have hrsz:=ziX but t k;obtain⟨W0,hW⟩:∃W,((w.alloc (.cells #[.int .i64 K,.string X,.int .i64 Z,.slice A m c] 29)).alloc (.cells #[.int .i64 0,.string ⟨#[]⟩,.int .i64 0,.slice none 0 0] 29)).alloc (.cells #[.int .i64 K,.string X,.int .i64 Z,.slice A m c] 29)=W:=⟨_,rfl⟩;have k3:Blk W0 w.heap.size 29 #[.int .i64 K,.string X,.int .i64 Z,.slice A m c]:=hW▸zae _ _ _ _ (zae _ _ _ _ (heap_alloc_new _ _));have k6:Blk W0 (w.heap.size+1) 29 #[.int .i64 0,.string ⟨#[]⟩,.int .i64 0,.slice none 0 0]:=hW▸zae _ _ _ _ (alloc_at _ _ _ (by simp));have k8:Blk W0 (w.heap.size+2) 29 #[.int .i64 K,.string X,.int .i64 Z,.slice A m c]:=hW▸alloc_at _ _ _ (by simp);have kb:Below w.heap.size w W0:=hW▸((((Below.refl _ w).alloc (Nat.le_refl _) _).alloc (by simp) _).alloc (by simp;omega) _);have HSZ:Hid (w.heap.size+2<W0.heap.size):=hidE (by rw[<-hW];simp);have hA0:W0.cell? ⟨w.heap.size,0,none⟩=some (.int .i64 K):=k3.cell 0;have K3:=hidE k3;have K6:=hidE k6;have K8:=hidE k8;have KB:=hidE kb;have HV:=hidE hv;have HM:=hidE hm;have HK:=hidE hK;have HX:=hidE hX;have HA:=hidE ha;have HIH:=hidE IH;have HN:=hidE hn;have HBUT:=hidE hbut;have HBL:=hidE hbl;have HK0:=hidE hk;have HQ1:=hidE q1;have HQ2:=hidE q2;have HQ3:=hidE q3;have HQ4:=hidE q4;have HQ5:=hidE q5;have HREN:=hidE hren;have HRSZ:=hidE hrsz;obtain⟨q,hq⟩:∃q,isAll t=q:=⟨_,rfl⟩;have d5:((K:Int)==5)=q:=by
  rw[hK,<-hq]
  cases t <;> rfl
 have HQ:=hidE hq;clear k3 k6 k8 kb hv hm hK hX hZ ha IH hn hbut hbl hk q1 q2 q3 q4 q5 hren hrsz hq hO;go_enter Tryz.func32,Tryz.ntmps32
 go_upto_if 18 with fail
 try rw[hW]
 clear hW;go_cut [2,9,10] from 19 to 48 (λs2 _ _ wx=>s2=.int .i64 (renK but t k:Nat)/\Hid (MidR (renO but t k) w wx))
 case first =>
  cases q with
  |false =>
   go_wp2_with fail
   go_meet
   case rel =>
    have hq:=HQ.out;have e1:renO but t k=t/\renK but t k=k:=by
     cases t with
     |all x u=>cases hq
     |var x=>exact⟨rfl,rfl⟩
     |mt n=>exact⟨rfl,rfl⟩
     |con d l=>exact⟨rfl,rfl⟩
     |fn a b=>exact⟨rfl,rfl⟩
    rw[e1.1,e1.2]
    exact⟨rfl,hidE ⟨K,X,Z,A,m,c,K8.out,HV.out.below KB.out,K6.out,KB.out,HSZ.out⟩⟩
  |true =>
   obtain⟨x,t0,rfl⟩:=zf2 HQ.out;obtain⟨N,hN⟩:∃N,zal 122 but k=N:=⟨_,rfl⟩;have hN1:k<=N/\N<=k+but.length:=by have:=zaw 122 but k (by have:=zdt HK0.out;omega);omega
   have hb15:k+but.length+2<=10 ^ 15:=zdt HK0.out;have hcat:∀j,j<=N->¬9223372036854775807<1+(dec j).length:=λj hj=>by have:=zbK 20 20 j (by omega) (by omega);have h:(dec j).length<=20:=this;omega
   have HCAT:=hidE hcat;have hc0:=hcat k hN1.1;have HNN:=hidE hN;clear hcat;go_wp2_with fail
   refine(zbo k W0 (by omega)).mono ?_;rintro e w1 ⟨rfl,b1⟩;have B1:=hidE b1;clear b1;go_wp2_with fail
   refine(zdu vbut but 122 k w1 (HBUT.out.below (zac KB.out B1.out)) HBL.out).mono ?_;rintro e w2 ⟨rfl,rfl⟩;go_wp2_with fail
   go_loopg [2,9] (N-k) (λgg vk vi wr=>∃j:Nat,gg=N-j/\vk=.int .i64 (j:Nat)/\vi=.bool (decide (nm 122 j∈but))/\k<=j/\j<=N/\Hid (zbm 122 but (but.length+1-(j-k)) j=N)/\Hid (Below W0.heap.size W0 wr))
   case atStart=>exact⟨k,rfl,rfl,rfl,Nat.le_refl _,hN1.1,hidE (by rw[Nat.sub_self];exact hN),B1⟩
   case round =>
    obtain⟨j,rfl,rfl,rfl,hkj,hjN,hf,hb⟩:=hrel;by_cases hin:nm 122 j∈but
    ·rw[decide_eq_true hin]
     have hne:j≠N:=λe=>by
      have:=(zaw 122 but k (by omega)).1;rw[HNN.out,<-e]at this
      exact this hin
     have hc1:=HCAT.out (j+1) (by omega);have hf2:=hidE (zeb 122 but _ j _ hf.out (by omega) hin);clear hin;go_wp2_with fail
     refine(zbo (j+1) wr (by omega)).mono ?_;rintro e w3 ⟨rfl,b3⟩;have B3:=hidE (zac hb.out b3);clear b3;go_wp2_with fail
     refine(zdu vbut but 122 (j+1) w3 (HBUT.out.below (zac KB.out B3.out)) HBL.out).mono ?_;rintro e w4 ⟨rfl,rfl⟩;go_wp2_with fail
     go_roundg (N-(j+1))
     case measure=>omega
     case rel =>
      refine⟨j+1,rfl,by go_num,rfl,by omega,by omega,hidE ?_,B3⟩;rw[show but.length+1-(j+1-k)=but.length+1-(j-k)-1 by omega]
      exact hf2.out
    ·rw[decide_eq_false hin]
     have hc1:=HCAT.out j hjN;have hNj:=zdz 122 but _ j _ hf.out hin;subst hNj;clear hin hf;go_wp2_with fail
     refine(zbo N wr (by omega)).mono ?_;rintro e w3 ⟨rfl,b3⟩;have hb3:=zac hb.out b3;have HB3:=hidE hb3;clear b3 hb;obtain⟨g,u,K1,X1,Z1,A1,n1,c1,rfl,hg,e0,e1,e2,e3,hu,hrd,hsz⟩:=zaP (i:=0) (w':=w3) HA.out HM.out (by rw[<-HM.out];exact Nat.one_pos) (λg hg=>((hb3.block g (Nat.lt_of_lt_of_le hg KB.out.size)).trans (KB.out.block g hg)));obtain rfl:t0=u:=by simpa[kids] using hu
     obtain⟨Y,hY⟩:∃Y:ByteArray,(({ data:=#[122] } : ByteArray)++{ data:=(dec N).toArray })=Y:=⟨_,rfl⟩;have hYN:(⟨(nm 122 N).toArray⟩:ByteArray)=Y:=by rw[<-hY];rfl
     have hXx:X=⟨x.toArray⟩:=HX.out;have hg3:g<w3.heap.size:=Nat.lt_of_lt_of_le (Nat.lt_of_lt_of_le hg KB.out.size) hb3.size;have F1:=hidE (λW (h:Below w3.heap.size w3 W)=>(zfg t0 (.var (nm 122 N)) (λg=>g<w.heap.size) (λ_=>False) X _ _ W (by have:=HN.out;rw[Ty.size]at this;omega) (by rw[Ty.size];omega)
      (hrd.keep (S':=λg=>g<w.heap.size) (λ_ h=>h) (λg hg=>h.block g (Nat.lt_of_lt_of_le (Nat.lt_of_lt_of_le hg KB.out.size) hb3.size))) (λg hg=>Nat.lt_of_lt_of_le (Nat.lt_of_lt_of_le (Nat.lt_of_lt_of_le hg KB.out.size) hb3.size) h.size) (zib (nm 122 N) Y hYN) (λ_ h=>h.elim)))
     have hput:raw (isPV X.data.toList) (.var (nm 122 N)) (numb 121 (butA X t0 (.var (nm 122 N))) [] [] t0 0).1=putRf ⟨x.toArray⟩ t0 (.var (nm 122 N)):=by rw[hXx];rfl
     rw[hput]at F1
     obtain⟨P,hP⟩:∃P,putRf ⟨x.toArray⟩ t0 (.var (nm 122 N))=P:=⟨_,rfl⟩;rw[hP]at F1
     have hro:renO but (.all x t0) k=.all (nm 122 N) P:=by rw[renO,HNN.out,hP]
     have hrk:renK but (.all x t0) k=N+1:=by rw[renK,HNN.out]
     have HRO:=hidE hro;have HRK:=hidE hrk;have HYN:=hidE hYN;have L3:=HSZ.out;have hs3:=hb3.size;have k3:=K3.out.below hb3 (by omega);have k8:=K8.out.below hb3 (by omega);have k6:=K6.out.below hb3 (by omega);obtain⟨y0,y1,y2,y3,-,-,-,-,-⟩:=zaa k3;obtain⟨v0,v1,v2,v3,v4,v5,v6,v7,v8⟩:=zaa k8;have B0:Hid (Below w3.heap.size w3 w3.drew):=hidE (Below.refl _ w3).drew;have HG:=hidE hg;have HW3:=hidE (zac KB.out hb3);have J8:=hidE k8;have J6:=hidE k6;have hm1:0<m:=by rw[<-HM.out];exact Nat.one_pos
     clear hrd hu hb3 hput hP hYN hro hrk hsz k3 k8 k6 hXx;go_upto_region 9 with fail
     try rw[hY]
     clear hY;go_region_law (go_simp;(with_reducible refine(F1.out _ B0.out).mono ?_);rintro e w9 ⟨b9,k9,x9,z9,a9,m9,p9,rfl,hr9⟩;have HR9:=hidE hr9;have B9:=hidE (zac B0.out b9);have hj8:=J8.out.below B9.out (by have:=HSZ.out;have:=HW3.out.size;omega);obtain⟨v0,v1,v2,v3,v4,v5,v6,v7,v8⟩:=zaa hj8;clear b9 hr9 hj8)
     all_goals
      have hs9:=B9.out.size;go_wp2_with fail
      go_meet
      case rel =>
       refine⟨by rw[HRK.out];go_num,?_⟩;rw[HRO.out]
       refine hidE (zrE (w9:=w9) HYN.out (by omega) ((zaf (zac HW3.out B9.out) _ _ _ _ (by omega)).alloc (by simp;omega) _) (by simp) (λg h1 h2=>(Below.heap_alloc _ _ _ (by simp;exact h2)).trans (zaj _ _ _ _ _ _ _ h1)) (alloc_at _ _ _ (by simp)) (zae _ _ _ _ (zad _ _ _ _ (J8.out.below B9.out (by omega)))) (J6.out.below B9.out (by omega)) _ ?_ HR9.out);intro g hg;rcases hg with hg|hg
       ·exact hg.elim
       ·have h1:w3.heap.size<=g:=hg.1
        exact⟨hg.2,by omega⟩
 case rest =>
  rename World=>V0;obtain⟨rfl,hcx⟩:=hcut;obtain⟨K4,X4,Z4,A4,m4,c4,j8,hrd,j6,jb,jsz⟩:=hcx.out;obtain⟨K5,X5,Z5,A5,m5,c5,he,hK5,hX5,hZ5,hm5,ha5⟩:=hrd.parts;have he:=congrArg (λv=>match v with|.agg a=>a.toList|_=>[]) he;simp at he;obtain⟨rfl,rfl,rfl,rfl,rfl,rfl⟩:=he;obtain⟨o,ho⟩:∃o,renO but t k=o:=⟨_,rfl⟩;obtain⟨k1,hk1⟩:∃k1,renK but t k=k1:=⟨_,rfl⟩;rw[ho,hk1]at HQ1 HQ5 HREN
  rw[ho]at HQ2 HQ3 HQ4 HRSZ hK5 hX5 hZ5 hm5 ha5
  rw[hk1]
  obtain⟨v0,v1,v2,v3,-,-,-,-,-⟩:=zaa j8;obtain⟨W1,hW1⟩:∃W,V0.alloc (.cells #[.int .i64 K4,.string X4,.int .i64 Z4,.slice none 0 0] 29)=W:=⟨_,rfl⟩;have i8:Blk W1 (w.heap.size+2) 29 #[.int .i64 K4,.string X4,.int .i64 Z4,.slice A4 m4 c4]:=hW1▸zae _ _ _ _ j8;have i6:Blk W1 (w.heap.size+1) 29 #[.int .i64 0,.string ⟨#[]⟩,.int .i64 0,.slice none 0 0]:=hW1▸zae _ _ _ _ j6;have i11:Blk W1 V0.heap.size 29 #[.int .i64 K4,.string X4,.int .i64 Z4,.slice none 0 0]:=hW1▸heap_alloc_new _ _;have ib:Below w.heap.size w W1:=hW1▸jb.alloc jb.size _;have isz:W1.heap.size=V0.heap.size+1:=by rw[<-hW1];simp
  have ik:∀g,g<V0.heap.size->W1.heap[g]?=V0.heap[g]?:=λg hg=>hW1▸Below.heap_alloc _ _ _ hg;have HM5:=hidE hm5;have HA5:=hidE ha5;have HK5:=hidE hK5;have HX5:=hidE hX5;have HZ5:=hidE hZ5;have I8:=hidE i8;have I6:=hidE i6;have I11:=hidE i11;have IB:=hidE ib;have ISZ:=hidE isz;have IK:=hidE ik;have JSZ:=hidE jsz;have hA3:W1.cell? ⟨w.heap.size+2,3,none⟩=some (.slice A4 m4 c4):=i8.cell 3;have hm6:m4<=1000000:=by have:=zaW o;have:=HRSZ.out;have:=HN.out;omega
  clear hcx hrd ho hk1 j8 j6 jb jsz i8 i6 i11 ib isz ik hK5 hX5 hZ5 hm5 ha5 HV HM HK HX HA K3 K6 K8 KB HSZ hA0 d5;obtain⟨i0,hi0,hz0,hz1,hz2⟩:=info_parts zeo;have HW1:=hidE hW1;clear hW1;go_upto_region 11 with fail
  rw[HW1.out]
  clear HW1 v0 v1 v2 v3;go_wp2_with fail
  go_loopg [2,12] m4 (λgg vk vi wr=>HeadNumb o 122 but [] [] k1 m4 (V0.heap.size+1) V0.heap.size K4 X4 Z4 w W1 gg vk vi wr)
  case atStart=>exact⟨0,k1,[],.slice none 0 0,rfl,rfl,rfl,Nat.zero_le _,hidE (by simp[zat]),rfl,Built.nil _ _ _ _,I11.out,by rw[ISZ.out];exact Nat.le_refl _,λ_ _ _=>rfl,IB.out⟩
  case round =>
   obtain⟨i,kk,done,v',rfl,rfl,rfl,hi,hnb,hdl,hbuilt,hb12,hB,hkeep,hbel⟩:=hrel;obtain⟨vs,hown,hrow⟩:=hbuilt;obtain⟨A',c',rfl⟩:=zaz hown;have c3:wr.cell? ⟨w.heap.size+2,3,none⟩=some (.slice A4 m4 c4):=(World.cell?_of_block (w:=W1) (a:=⟨w.heap.size+2,3,none⟩) (hkeep (w.heap.size+2) (by have:=JSZ.out;omega) (by have:=JSZ.out;omega))).trans hA3;have hb6:Blk wr (w.heap.size+1) 29 #[.int .i64 0,.string ⟨#[]⟩,.int .i64 0,.slice none 0 0]:=(hkeep _ (by have:=JSZ.out;omega) (by have:=JSZ.out;omega)).trans I6.out;have HOWN:=hidE hown;have HROW:=hidE hrow;have HB12:=hidE hb12;have HB6:=hidE hb6;have HKEEP:=hidE hkeep;have HBEL:=hidE hbel;have HB:=hidE hB;have HDL:=hidE hdl;have HLT:=hidE hown.lt;by_cases hlt:i<m4
   ·obtain⟨g,u,K1,X1,Z1,A1,n1,c1,rfl,hg,e0,e1,e2,e3,hu,hrd,hsz⟩:=zaP (w':=wr) HA5.out HM5.out hlt (λg hg=>(hkeep g (by omega) (by omega)).trans (IK.out g hg))
    have hgw:g<wr.heap.size:=by omega
    have hkb:=zgG 122 but [] [] o u i k1 kk done hu hnb HREN.out;have F1:=hidE (HIH.out u _ vbut but kk wr (by have:=HN.out;have:=HRSZ.out;omega) (hrd.keep (S':=λg=>g<wr.heap.size) (λg hg=>by omega) (λg hg=>rfl)) (HBUT.out.below HBEL.out) HBL.out hkb);obtain⟨R,hR⟩:∃R,numb 122 but [] [] u kk=R:=⟨_,rfl⟩;have hnx:=hidE (zhC 122 but [] [] (kids o) i k1 u done kk hnb hu);rw[hR]at F1 hnx
    clear hnb hkb hrd hu hR hsz hown hrow hbel hb12 hb6 hkeep hdl;go_wp2_with fail
    refine F1.out.mono ?_;rintro e w1 ⟨b1,K2,X2,Z2,A2,m2,c2,rfl,hr2⟩;obtain⟨V,hV⟩:∃V,w1.alloc (.cells #[.int .i64 K2,.string X2,.int .i64 Z2,.slice A2 m2 c2] 29)=V:=⟨_,rfl⟩;have hbk:Blk V w1.heap.size 29 #[.int .i64 K2,.string X2,.int .i64 Z2,.slice A2 m2 c2]:=hV▸heap_alloc_new _ _;have hb2:Below wr.heap.size wr V:=hV▸b1.alloc b1.size _;have hr3:RdV (λg=>wr.heap.size<=g/\g<V.heap.size) V R.1 (.agg #[.int .i64 K2,.string X2,.int .i64 Z2,.slice A2 m2 c2]):=hV▸hr2.keep (λg hg=>by simp;omega) (λg hg=>Below.heap_alloc _ _ _ hg.2);obtain⟨p0,p1,p2,p3,p4,p5,p6,p7,p8⟩:=zaa hbk;have hx12:=HB12.out.below hb2 (by have:=HB.out;omega);obtain⟨y0,y1,y2,y3,y4,y5,y6,y7,y8⟩:=zaa hx12;have HX12:=hidE hx12;have HR2:=hidE hr3;have HB2:=hidE hb2;have hown2:=hidE ((own_below HOWN.out hb2).alloc (.cells #[.int .i64 K2,.string X2,.int .i64 Z2,.slice A2 m2 c2] 29));have hdl6:done.length<=1000000:=by have:=HDL.out;omega
    clear b1 hr2 hbk hb2 hr3 hx12 F1;go_upto_region 15 with fail
    try rw[hV]
    clear hV;go_wp2_with (at_builtin;refine wpList_append_own_at _ rfl (.tmp 76) (.tmp 78) 27 rfl (V0.heap.size+1) 29 i0 _ 4 56 Tryz.underlying27 hi0 hz0 hz1 hz2 rfl (by decide) _ done.length vs rfl hown2.out ⟨V.heap.size,0,none⟩ 1 1 [.int .i64 K2,.string X2,.int .i64 Z2,.slice A2 m2 c2] rfl rfl (zaK _ _ _ _ (by simp)) (by intro u hu;simp at hu;rcases hu with rfl|rfl|rfl|rfl <;> rfl) (by unfold maxLen;omega) (by omega) (by have:=HB2.out.size;have:=HB.out;simp;omega) ?_;intro v2 w3 hown3 hgrow _ hat3;obtain⟨A3,c5,rfl⟩:=zaz hown3;have HO3:=hidE hown3;have HG3:=hidE hgrow;have HT3:=hidE hat3;clear hown3 hgrow hat3;have hc1:=(HX12.out.alloc _).grown HG3.out (λe=>by have:=HLT.out _ e.symm;omega);obtain⟨x0,x1,x2,x3,z0,z1,z2,z3,hly⟩:=zaa hc1;have HD1:=hidE hc1;clear hc1)
    go_roundg (m4-(i+1))
    case measure=>omega
    case rel =>
     have hsz3:=HBEL.out.size;have hsz2:=HB2.out.size;have hszb:=HB.out;have hszv:=JSZ.out;have hb:=Built.next (w:=wr) (w1:=V) (λ_ h=>h.elim) HB.out HOWN.out HROW.out HB2.out (HR2.out.keep (λ_ h=>.inr h) (λ_ _=>rfl)) ((Below.refl _ V).alloc (Nat.le_refl _) _) HO3.out HG3.out HT3.out;have hbl:Below w.heap.size w w3:=(((HBEL.out.trans (HB2.out.mono hsz3)).alloc (by omega) _).grown HG3.out (by simp;omega) (λj hj=>by have:=HLT.out _ hj;omega));refine⟨i+1,R.2,done++[R.1],_,rfl,rfl,by go_num,by omega,hnx,by rw[List.length_append,HDL.out];rfl,hb.setCell (p:=⟨V0.heap.size,3,none⟩) _ (by show V0.heap.size<_;omega) (λh=>h),heap_setCell_same _ _ 3 _ _ _ HD1.out,?_,λg hg hne=>?_,hbl.setCell (p:=⟨V0.heap.size,3,none⟩) (by show w.heap.size<=V0.heap.size;omega) _⟩
     ·have:=HG3.out.size
      simp at this ⊢;omega
     ·rw[Below.heap_setCell _ _ _ _ hne,HG3.out.block g (by simp;omega) (λe=>by have:=HLT.out g e.symm;omega),Below.heap_alloc _ _ _ (by omega),HB2.out.block g (by omega)]
      exact HKEEP.out g hg hne
   ·have himn:i=m4:=by omega
    have hnm:Hid (zat 122 but [] [] (kids o) k1=(done,kk)):=hidE (by
     have:=hnb.out;rwa [List.take_of_length_le (by rw[HM5.out];omega)]at this)
    have hq1:O.2=kk:=by rw[HQ1.out,hnm.out]
    have hq5:kids O.1=done:=by rw[HQ5.out,hnm.out]
    have hargs:=Built.args (t:=O.1) (show Built (λ_=>False) (V0.heap.size+1) 29 wr (kids O.1) (.slice A' done.length c') from by rw[hq5];exact⟨vs,HOWN.out,HROW.out⟩);have HARG:=hidE hargs.2;have HLEN:=hidE hargs.1;have HQQ:=hidE hq1;obtain⟨y0,y1,y2,y3,y4,y5,y6,y7,y8⟩:=zaa hb12;obtain⟨z0,z1,z2,z3,z4,z5,z6,z7,z8⟩:=zaa hb6;clear hnb hown hrow hbel hb12 hb6 hkeep hdl hargs hq1 hq5 hnm;go_wp2_with fail
    try simp only[Exit.inBlock,Exit.then]
    refine bodyPost_ret (zah rfl _ _ (w.heap.size+1) 29 _ (0,0) _ rfl (zad _ _ _ _ HB6.out) Tryz.underlying29 rfl (by kernel_rfl)) rfl ?_;refine⟨zaf HBEL.out _ _ _ _ (by omega),K4,X4,Z4,A',done.length,c',by rw[HQQ.out];rfl,ziU (by rw[HQ2.out];exact HK5.out) (by rw[HQ3.out];exact HX5.out) (by rw[HQ4.out];exact HZ5.out) HLEN.out ?_⟩;refine Args.keep (λg hg=>?_) (λg hg=>zaj _ _ _ _ _ _ _ ?_) _ _ HARG.out
    ·have:=JSZ.out
     rcases hg with hg|hg
     ·exact hg.elim
     ·simp;omega
    ·have:=JSZ.out
     rcases hg with hg|hg
     ·exact hg.elim
     ·omega
theorem zou(n:Nat)(h6:n<=400000):zmS n:=by
 induction n with
 |zero=>intro t v vbut but k w h;have:=zak t;omega
 |succ n ih=>exact zlm n h6 (ih (by omega))
mutual
theorem zdX(own:List Name):(p:Ty)->∀(t:Ty)(out o:List (Name × Ty)),colT own p t out=some o->o.length<=out.length+p.size
 |.var x,t,out,o,h=>by
  rw[colT]at h
  rw[Ty.size]
  by_cases hx:x∈own
  ·rw[if_pos hx]at h
   injection h with h;subst h;split
   ·omega
   ·simp
  ·rw[if_neg hx]at h
   split at h
   ·injection h with h;subst h;omega
   ·cases h
 |.mt n,t,out,o,h=>by
  rw[colT]at h
  split at h
  ·injection h with h;subst h;omega
  ·cases h
 |.con c l,t,out,o,h=>by
  rw[colT]at h
  rw[Ty.size]
  split at h
  ·have:=zkx own l _ out o h;omega
  ·cases h
 |.fn a b,t,out,o,h=>by
  rw[colT]at h
  rw[Ty.size]
  split at h
  ·rcases hk:kids t with - |⟨u,- |⟨v,l⟩⟩
   ·rw[hk]at h;cases h
   ·rw[hk]at h;cases h
   ·rw[hk]at h
    have h:(match colT own a u out with|some o=>colT own b v o|none=>none)=some o:=h;cases h1:colT own a u out with
    |none=>rw[h1]at h;cases h
    |some o1=>rw[h1]at h;have:=zdX own b v o1 o h;have:=zdX own a u out o1 h1;omega
  ·cases h
 |.all x p,t,out,o,h=>by
  rw[colT]at h
  rw[Ty.size]
  split at h
  ·rcases hk:kids t with - |⟨u,l⟩
   ·rw[hk]at h;cases h
   ·rw[hk]at h;have:=zdX own p u out o h;omega
  ·cases h
theorem zkx(own:List Name):(p:List Ty)->∀(t:List Ty)(out o:List (Name × Ty)),colL own p t out=some o->o.length<=out.length+zab p
 |[],t,out,o,h=>by rw[colL]at h;injection h with h;subst h;omega
 |p::l,[],out,o,h=>by rw[colL]at h;cases h
 |p::l,u::m,out,o,h=>by
  rw[colL]at h
  rw[zab]
  cases h1:colT own p u out with
  |none=>rw[h1]at h;cases h
  |some o1=>rw[h1]at h;have:=zkx own l m o1 o h;have:=zdX own p u out o1 h1;omega
end
theorem zov(q:List (Name × TV)):∀u∈za2 q,u.oneCell'=true:=by
 intro u hu;unfold za2 at hu;obtain⟨p,-,hp⟩:=List.mem_flatMap.1 hu;simp at hp;rcases hp with rfl|rfl|rfl|rfl|rfl <;> rfl
theorem zmU(q:List (Name × TV)):(za2 q).length=q.length*5:=by
 induction q with
 |nil=>rfl
 |cons e q ih =>
  have hb:za2 (e::q)=.string ⟨e.1.toArray⟩::.int .i64 e.2.k::.string e.2.x::.int .i64 e.2.z::.slice e.2.a e.2.m e.2.p::za2 q:=rfl;rw[hb]
  simp only[List.length_cons,ih];omega
theorem zgH {w:World} {base b:Nat} {e:TypeId}(h:w.heap[b]?=some (.cells #[] e (0,0)))(hb:base<=b):w.ownsRow base e 5 (.slice (some ⟨b,0,none⟩) 0 0) 0 [] :=
 ⟨rfl,.inr ⟨b,0,#[],rfl,hb,h,Nat.le_refl _,by unfold maxLen;omega,rfl,rfl⟩⟩
theorem zrF:(Tryz.prog.info? 40).map (λi=>(i.zero,i.size,i.bytes))=some (some (.agg #[.string ⟨#[]⟩,.int .i64 0,.string ⟨#[]⟩,.int .i64 0,.slice none 0 0]),5,72):=by kernel_rfl
theorem zql {w:World} {B n:Nat} {v:Value} {l:List (Name × Ty)} {q:List (Name × TV)}(hr:RelV (λg=>g<w.heap.size) w l q)(h:w.ownsRow B 40 5 v n (za2 q))(hq:q.length=n)(hl:l≠[]):RowB w v l:=by
 have hln:=RelV.len l q hr;have hlt:=h.lt;have hc:=λg hg=>h.cells (g:=g) hg;rcases h.2 with⟨h0,h1⟩|⟨g,cap,cur,hv,hB,_⟩
 ·have:0<l.length:=List.length_pos_iff.2 hl
  omega
 ·subst hv
  refine⟨q,hr,⟨some ⟨g,0,none⟩,cap,by rw[hln,hq],λ_=>⟨g,rfl,(hlt g rfl).2,λj u hu=>?_⟩⟩,λe=>absurd e hl⟩;have:=hc g rfl j u hu;rwa [zaQ]at this
def ColP(o:Option (List (Name × Ty)))(w:World)(e:Ending)(w':World):Prop :=
 Below w.heap.size w w'/\∃v q,e=.returned (.tuple #[v,.bool q])/\(q=false->o=none/\v=.slice none 0 0)/\(q=true->∃l,o=some l/\RowB w' v l)
def zmV(n:Nat):Prop:=∀(p t:Ty)(vp vt vown vout:Value)(own:List Name)(out:List (Name × Ty))(w:World),p.size<=n->RdN w p vp->RdN w t vt->RowV w vown (strV own)->own.length<=1000000->RowB w vout out->out.length+p.size<=900000 ->
 Calls Tryz.prog 33 #[vp,vt,vown,vout] w (ColP (colT own p t out) w)
def nxt(own:List Name)(l m:List Ty):Option (List (Name × Ty))->Option (List (Name × Ty))
 |some o=>colL own l m o
 |none=>none
theorem zrG(own:List Name)(l m:List Ty)(i:Nat)(u v:Ty)(out:List (Name × Ty))(hu:l[i]?=some u)(hv:m[i]?=some v):colL own (l.drop i) (m.drop i) out=nxt own (l.drop (i+1)) (m.drop (i+1)) (colT own u v out):=by
 obtain⟨hi,e⟩:=List.getElem?_eq_some_iff.1 hu;obtain⟨hj,f⟩:=List.getElem?_eq_some_iff.1 hv;rw[List.drop_eq_getElem_cons hi,List.drop_eq_getElem_cons hj,colL,e,f]
 cases colT own u v out <;> rfl
theorem zmW(l:List Ty)(i:Nat)(u:Ty)(hu:l[i]?=some u):zab (l.drop i)=u.size+zab (l.drop (i+1)):=by
 obtain⟨hi,e⟩:=List.getElem?_eq_some_iff.1 hu;rw[List.drop_eq_getElem_cons hi,zab,e]
theorem zqm(own:List Name)(l m:List Ty)(i:Nat)(out:List (Name × Ty))(h:l.length<=i):colL own (l.drop i) m out=some out:=by
 rw[List.drop_eq_nil_of_le h,colL]
theorem RowB.shape {w:World} {v:Value} {l:List (Name × Ty)}(h:RowB w v l):∃A n c,v=.slice A n c:=by
 obtain⟨_,_,⟨A,c,h,_⟩,_⟩:=h;exact⟨A,_,c,h⟩
theorem ziY {V W:World} {B n:Nat} {v:Value} {l:List (Name × Ty)} {q:List (Name × TV)} {x:Name} {X:ByteArray} {t:Ty} {k z:Int} {y:ByteArray} {a:Option Addr} {m p:Nat}(hX:(⟨x.toArray⟩:ByteArray)=X)
  (hr:RelV (λg=>g<V.heap.size) V l q)(hb:Below V.heap.size V W)(ht:RdN V t (.agg #[.int .i64 k,.string y,.int .i64 z,.slice a m p]))(hq:q.length=n)
  (h:W.ownsRow B 40 5 v (n+1) (za2 q++[.string X,.int .i64 k,.string y,.int .i64 z,.slice a m p])):RowB W v (l++[(x,t)]):=by
 subst hX;have e:za2 q++[.string ⟨x.toArray⟩,.int .i64 k,.string y,.int .i64 z,.slice a m p]=za2 (q++[(x,⟨k,y,z,a,m,p⟩)]):=(zho q x ⟨k,y,z,a,m,p⟩).symm;rw[e]at h
 refine zql (RelV.snoc (v:=⟨k,y,z,a,m,p⟩) (RdN.below ht hb) l q (RelV.keep (λg hg=>Nat.lt_of_lt_of_le hg hb.size) (λg hg=>hb.block g hg) _ _ hr)) h (by simp[hq]) (by simp)
set_option maxRecDepth 2000 in
theorem zmX(x:Name)(t:Ty)(vp vt vown vout:Value)(own:List Name)(out:List (Name × Ty))(w:World)(hp:RdN w (.var x) vp)(ht:RdN w t vt)(hown:RowV w vown (strV own))(hol:own.length<=1000000)(hout:RowB w vout out)(hlen:out.length+1<=900000)(hx:x∈own):Calls Tryz.prog 33 #[vp,vt,vown,vout] w (ColP (colT own (.var x) t out) w):=by
 obtain⟨K,X,Z,A,m,c,rfl,hK,hX,-,-,-⟩:=hp.parts;obtain⟨K2,X2,Z2,A2,m2,c2,rfl,-,-,-,-,-⟩:=ht.parts;have hK1:K=1:=hK;subst hK1;have hXx:X.data.toList=x:=by rw[hX];rfl
 have hX':(⟨x.toArray⟩:ByteArray)=X:=hX.symm;obtain⟨W0,hW⟩:∃W,(w.alloc (.cells #[.int .i64 1,.string X,.int .i64 Z,.slice A m c] 29)).alloc (.cells #[.int .i64 K2,.string X2,.int .i64 Z2,.slice A2 m2 c2] 29)=W:=⟨_,rfl⟩;have k1:Blk W0 w.heap.size 29 #[.int .i64 1,.string X,.int .i64 Z,.slice A m c]:=hW▸zae _ _ _ _ (heap_alloc_new _ _);have k2:Blk W0 (w.heap.size+1) 29 #[.int .i64 K2,.string X2,.int .i64 Z2,.slice A2 m2 c2]:=hW▸alloc_at _ _ _ (by simp);have kb:Below w.heap.size w W0:=hW▸(((Below.refl _ w).alloc (Nat.le_refl _) _).alloc (by simp) _);have hHas:=zdc vown own X W0 (hown.below kb) hol;rw[hXx,decide_eq_true hx]at hHas
 have hFi:=zrD out vout X W0 (hout.below kb) (by omega);rw[hXx]at hFi
 obtain⟨q,hq⟩:∃q,(look x out).isSome=q:=⟨_,rfl⟩;rw[hq]at hFi
 obtain⟨O,hO⟩:∃O,colT own (.var x) t out=O:=⟨_,rfl⟩;have hO2:O=some (if q=true then out else out++[(x,t)]):=by rw[<-hO,colT,if_pos hx,hq]
 rw[hO]
 have K1:=hidE k1;have K2':=hidE k2;have KB:=hidE kb;have HT:=hidE ht;have HOUT:=hidE hout;have HO:=hidE hO2;have HX:=hidE hX';have HFI:=hidE hFi;obtain⟨x0,x1,x2,x3,-,-,-,-,-⟩:=zaa k1;clear k1 k2 kb hp ht hown hout hK hX hXx hX' hq hO hO2 hx hFi;go_enter Tryz.func33,Tryz.ntmps33
 go_upto_if 18 with fail
 try rw[hW]
 clear hW;go_wp2_with fail
 refine hHas.mono ?_;rintro e w1 ⟨rfl,rfl⟩;go_wp2_with fail
 refine HFI.out.mono ?_;rintro e w2 ⟨⟨K5,X5,Z5,A5,m5,c5,rfl⟩,b2⟩;obtain⟨V,hV⟩:∃V,w2.alloc (.cells #[.int .i64 K5,.string X5,.int .i64 Z5,.slice A5 m5 c5] 29)=V:=⟨_,rfl⟩;have bv:Below W0.heap.size W0 V:=hV▸b2.alloc b2.size _;have KBV:=hidE (zac KB.out bv);have k1:=K1.out.below bv K1.out.lt;have k2:=K2'.out.below bv K2'.out.lt;have hl1:=k1.lt;have hl2:=k2.lt;have J1:=hidE k1;have J2:=hidE k2;clear x0 x1 x2 x3;obtain⟨x0,x1,x2,x3,-,-,-,-,-⟩:=zaa k1;obtain⟨y0,y1,y2,y3,-,-,-,-,-⟩:=zaa k2;have HV:=hidE hV;clear b2 bv k1 k2 HFI hHas hV;go_upto_if 32 with fail
 rw[HV.out]
 clear HV;cases q with
 |true =>
  go_wp2_with fail
  go_ret2
  exact⟨KBV.out,vout,true,rfl,(λh=>by cases h),λ_=>⟨out,HO.out,HOUT.out.below KBV.out⟩⟩
 |false =>
  obtain⟨i0,hi0,hz0,hz1,hz2⟩:=info_parts zrF;obtain⟨qs,hrel,⟨Ao,co,rfl,hcl⟩,hnil⟩:=HOUT.out.below KBV.out;have HREL:=hidE hrel;have HLQ:=hidE (RelV.len _ _ hrel);have HTV:=hidE (HT.out.below KBV.out);have SOF:Hid (∀W,Below V.heap.size V W->(λW:World=>W.cell? ⟨w.heap.size,1,none⟩=some (.string X)/\W.cell? ⟨w.heap.size+1,0,none⟩=some (.int .i64 K2)/\W.cell? ⟨w.heap.size+1,1,none⟩=some (.string X2)/\W.cell? ⟨w.heap.size+1,2,none⟩=some (.int .i64 Z2)/\W.cell? ⟨w.heap.size+1,3,none⟩=some (.slice A2 m2 c2)) W):=hidE λW h =>
   ⟨(h.cell (p:=⟨w.heap.size,1,none⟩) hl1).trans x1,(h.cell (p:=⟨w.heap.size+1,0,none⟩) hl2).trans y0,(h.cell (p:=⟨w.heap.size+1,1,none⟩) hl2).trans y1,(h.cell (p:=⟨w.heap.size+1,2,none⟩) hl2).trans y2,(h.cell (p:=⟨w.heap.size+1,3,none⟩) hl2).trans y3⟩
  by_cases hz:out=[]
  ·have HZ:=hidE hz
   have hnl:=hnil hz;injection hnl with e1 e2 e3;have hqz:Hid (za2 qs=[]/\qs.length=0):=hidE (by
    have h0:qs.length=0:=by rw[<-HLQ.out,hz];rfl
    exact⟨by rw[List.length_eq_zero_iff.1 h0];rfl,h0⟩)
   rw[e2]
   subst e1 e3;clear e2 hrel hcl hnil hz;go_upto_region 6 with fail
   go_region_held3 (λW:World=>W.cell? ⟨w.heap.size,1,none⟩=some (.string X)/\W.cell? ⟨w.heap.size+1,0,none⟩=some (.int .i64 K2)/\W.cell? ⟨w.heap.size+1,1,none⟩=some (.string X2)/\W.cell? ⟨w.heap.size+1,2,none⟩=some (.int .i64 Z2)/\W.cell? ⟨w.heap.size+1,3,none⟩=some (.slice A2 m2 c2))
    (first|(with_reducible exact SOF.out _ B2.out)|(refine SOF.out _ ?_;repeat first|exact Below.refl _ _|exact B2.out|(refine Below.alloc ?_ (by first|omega|(simp;done)|(simp;omega)) _)|(refine Below.drew ?_))|go_keep)
    (((refine step_append_lies _ (by rfl) _ _ _ (by rfl) V.heap.size 40 i0 _ 5 72 Tryz.underlying35 hi0 hz0 hz1 hz2 rfl (by omega) _ 0 [] (by rfl) (zgH (by first|exact alloc_at _ _ _ (by simp)|exact zae _ _ _ _ (alloc_at _ _ _ (by simp))) (by first|omega|(simp;done)|(simp;omega))) _ 1 1 [.string X,.int .i64 K2,.string X2,.int .i64 Z2,.slice A2 m2 c2] (by rfl) (by rfl) (World.news_of_block (cs:=#[.string X,.int .i64 K2,.string X2,.int .i64 Z2,.slice A2 m2 c2]) (t:=40) (fr:=(0,0)) (by first|exact alloc_at _ _ _ (by simp)|exact zae _ _ _ _ (alloc_at _ _ _ (by simp)))) (by simp[Value.oneCell']) (by omega) (by unfold maxLen;omega) (by omega) (by first|omega|(simp;done)|(simp;omega)) _ rfl ?_);intro gg cap w9 hown1 hgrow hat hlt;have B2:Hid (Below V.heap.size V w9):=hidE (Below.grown (by repeat first|exact Below.refl _ _|(refine Below.alloc ?_ (by first|omega|(simp;done)|(simp;omega)) _)|(refine Below.drew ?_)) hgrow (by first|omega|(simp;done)|(simp;omega)) (by intro k hk;simp[Value.ownBlock]at hk;omega));have HW2:=hidE hown1;clear hat hown1 hgrow))
   all_goals
    go_wp2_with fail
    go_ret2
    have hw:=HW2.out;refine⟨zac KBV.out B2.out,_,true,rfl,(λh=>by cases h),λ_=>⟨out++[(x,t)],HO.out,ziY (q:=qs) (n:=0) HX.out HREL.out B2.out HTV.out hqz.out.2 (by rw[hqz.out.1];exact hw)⟩⟩
  ·obtain⟨k,hk⟩:∃k,out.length=k:=⟨_,rfl⟩
   have hk0:0<k:=by rw[<-hk];exact List.length_pos_iff.2 hz
   rw[hk]at hlen hcl ⊢
   obtain⟨g0,rfl,hg0,hcells⟩:=hcl hk0;have hkq:qs.length=k:=by rw[<-HLQ.out,hk]
   have HKQ:=hidE hkq;have HSL:Hid ((za2 qs).length=k*5):=hidE (by rw[zmU,hkq]);have HCELLS:Hid (∀W':World,Below V.heap.size V W'->∀j u,(za2 qs)[j]?=some u->W'.cell? ((⟨g0,0,none⟩:Addr).add j)=some u):=hidE λW' hb j u hu=>by
    rw[zaQ,hb.cell (p:=⟨g0,j,none⟩) hg0];exact hcells j u hu
   clear hz hcl hcells hk hkq hrel hnil;go_upto_region 6 with fail
   go_region_held3 (λW:World=>W.cell? ⟨w.heap.size,1,none⟩=some (.string X)/\W.cell? ⟨w.heap.size+1,0,none⟩=some (.int .i64 K2)/\W.cell? ⟨w.heap.size+1,1,none⟩=some (.string X2)/\W.cell? ⟨w.heap.size+1,2,none⟩=some (.int .i64 Z2)/\W.cell? ⟨w.heap.size+1,3,none⟩=some (.slice A2 m2 c2))
    (first|(with_reducible exact SOF.out _ B2.out)|(refine SOF.out _ ?_;repeat first|exact Below.refl _ _|exact B2.out|exact B1.out|(refine Below.alloc ?_ (by first|omega|(simp;done)|(simp;omega)) _)|(refine Below.drew ?_))|go_keep)
    (first|((refine step_append_lies _ (by rfl) _ _ _ (by rfl) V.heap.size 40 i0 _ 5 72 Tryz.underlying35 hi0 hz0 hz1 hz2 rfl (by omega) _ 0 [] (by rfl) (zgH (by first|exact alloc_at _ _ _ (by simp)|exact zae _ _ _ _ (alloc_at _ _ _ (by simp))) (by first|omega|(simp;done)|(simp;omega))) ⟨g0,0,none⟩ k co (za2 qs) (by rfl) HSL.out (HCELLS.out _ (by repeat first|exact Below.refl _ _|exact B1.out|(refine Below.alloc ?_ (by first|omega|(simp;done)|(simp;omega)) _)|(refine Below.drew ?_))) (zov qs) hk0 (by unfold maxLen;omega) (by omega) (by first|omega|(simp;done)|(simp;omega)) _ rfl ?_);intro gg cap w8 hown1 hgrow hat hlt;simp only[Nat.zero_add,List.nil_append]at hown1 ⊢;have B1:Hid (Below V.heap.size V w8):=hidE (Below.grown (by repeat first|exact Below.refl _ _|(refine Below.alloc ?_ (by first|omega|(simp;done)|(simp;omega)) _)|(refine Below.drew ?_)) hgrow (by first|omega|(simp;done)|(simp;omega)) (by intro k hk;simp[Value.ownBlock]at hk;omega));have HW1:=hidE hown1;have HGE:V.heap.size<=gg:=(hown1.lt gg rfl).1;first|(have HXB:Hid (w8.heap[V.heap.size+1]?=some (.cells #[.string X,.int .i64 K2,.string X2,.int .i64 Z2,.slice A2 m2 c2] 40 (0,0))):=hidE ((hgrow.block _ (by first|omega|(simp;done)|(simp;omega)) (by simp[Value.ownBlock])).trans (alloc_at _ _ _ (by simp))))|(have HXB:Hid (w8.heap[V.heap.size]?=some (.cells #[.string X,.int .i64 K2,.string X2,.int .i64 Z2,.slice A2 m2 c2] 40 (0,0))):=hidE ((hgrow.block _ (by first|omega|(simp;done)|(simp;omega)) (by simp[Value.ownBlock])).trans (zae _ _ _ _ (alloc_at _ _ _ (by simp)))))|skip;clear hat hown1 hgrow)|((refine step_append_lies _ (by rfl) _ _ _ (by rfl) V.heap.size 40 i0 _ 5 72 Tryz.underlying35 hi0 hz0 hz1 hz2 rfl (by omega) _ k (za2 qs) (by rfl) (by first|exact HW1.out|exact HW1.out.alloc _) _ 1 1 [.string X,.int .i64 K2,.string X2,.int .i64 Z2,.slice A2 m2 c2] (by rfl) (by rfl) (World.news_of_block (cs:=#[.string X,.int .i64 K2,.string X2,.int .i64 Z2,.slice A2 m2 c2]) (t:=40) (fr:=(0,0)) (by first|exact HXB.out|exact alloc_at _ _ _ (by simp))) (by simp[Value.oneCell']) (by omega) (by unfold maxLen;omega) (by omega) (by first|omega|(simp;done)|(simp;omega)) _ rfl ?_);intro gg2 cap2 w9 hown2 hgrow2' hat2 hlt2;have hgrow2:World.grownBy _ w9 (some gg):=hgrow2';clear hgrow2';have B2:Hid (Below V.heap.size V w9):=hidE (Below.grown (by repeat first|exact Below.refl _ _|exact B1.out|(refine Below.alloc ?_ (by first|omega|(simp;done)|(simp;omega)) _)|(refine Below.drew ?_)) hgrow2 (by first|omega|(simp;done)|(simp;omega)) (by intro k hk;injection hk with hk;omega));have HW2:=hidE hown2;clear hat2 hown2 hgrow2))
   all_goals
    go_wp2_with fail
    go_ret2
    have hw:=HW2.out;exact⟨zac KBV.out B2.out,_,true,rfl,(λh=>by cases h),λ_=>⟨out++[(x,t)],HO.out,ziY (q:=qs) (n:=k) HX.out HREL.out B2.out HTV.out HKQ.out hw⟩⟩
end Go.Proofs.YtaomnlcplmkokaaGreatDoor
namespace Go.Proofs.YtaomnlcplmkokaaGreatDoor
open Go.RowKit Lx Tx Go.Maps Go.WideMaps Go.Shelf
set_option maxRecDepth 100000
theorem zrH {p t:Ty}(h:¬kd p=kd t\/¬nn p=nn t\/¬(kids p).length=(kids t).length\/(kd p=3/\¬nmB p=nmB t)):zbM p t=false:=by
 unfold zbM;rcases h with h|h|h|⟨h1,h2⟩
 ·simp[h]
 ·simp[h]
 ·simp[h]
 ·have:((nmB p).toList ==(nmB t).toList)=false:=strF _ _ h2
  simp[h1,this]
def HeadCol(own:List Name)(p t:Ty)(out:List (Name × Ty))(m:Nat)(W0:World)(gg:Nat)(vo vi:Value)(wr:World):Prop :=
 ∃(i:Nat) (o:List (Name × Ty)) (Av:Option Addr) (nv cv:Nat),gg=m-i/\vo=.slice Av nv cv/\vi=.int .i64 (i:Nat)/\i<=m/\RowB wr (.slice Av nv cv) o/\o.length+zab ((kids p).drop i)<=out.length+zab (kids p)/\Hid (colL own (kids p) (kids t) out=colL own ((kids p).drop i) ((kids t).drop i) o)/\Below W0.heap.size W0 wr
set_option maxRecDepth 2000 in
theorem zln(n:Nat)(IH:zmV n):zmV (n+1):=by
 intro p t vp vt vown vout own out w hn hp ht hown hol hout hlen;by_cases hv:∃x,p=.var x/\x∈own
 ·obtain⟨x,rfl,hx⟩:=hv
  rw[Ty.size]at hlen
  exact zmX x t vp vt vown vout own out w hp ht hown hol hout hlen hx
 ·have hck:=zpY own p t out (λx e hx=>hv ⟨x,e,hx⟩)
  obtain⟨Ao,no,co,rfl⟩:=hout.shape;obtain⟨K,X,Z,A,m,c,rfl,hK,hX,hZ,hm,ha⟩:=hp.parts;obtain⟨K2,X2,Z2,A2,m2,c2,rfl,hK2,hX2,hZ2,hm2,ha2⟩:=ht.parts;obtain⟨O,hO⟩:∃O,colT own p t out=O:=⟨_,rfl⟩;rw[hO]at hck ⊢
  obtain⟨W0,hW⟩:∃W,(w.alloc (.cells #[.int .i64 K,.string X,.int .i64 Z,.slice A m c] 29)).alloc (.cells #[.int .i64 K2,.string X2,.int .i64 Z2,.slice A2 m2 c2] 29)=W:=⟨_,rfl⟩;have k1:Blk W0 w.heap.size 29 #[.int .i64 K,.string X,.int .i64 Z,.slice A m c]:=hW▸zae _ _ _ _ (heap_alloc_new _ _);have k2:Blk W0 (w.heap.size+1) 29 #[.int .i64 K2,.string X2,.int .i64 Z2,.slice A2 m2 c2]:=hW▸alloc_at _ _ _ (by simp);have kb:Below w.heap.size w W0:=hW▸(((Below.refl _ w).alloc (Nat.le_refl _) _).alloc (by simp) _);have HHAS:Hid (K=1->Calls Tryz.prog 24 #[vown,.string X] W0 λe w'=>e=.returned (.bool false)/\W0=w'):=hidE λhk1=>by
   have h:=zdc vown own X W0 (hown.below kb) hol;have hno:X.data.toList∉own:=by
    cases p with
    |var x=>rw[hX];exact λhx=>hv ⟨x,rfl,hx⟩
    |mt n=>rw[hK]at hk1;exact absurd hk1 (by show ¬((2:Nat):Int)=1;decide)
    |con c l=>rw[hK]at hk1;exact absurd hk1 (by show ¬((3:Nat):Int)=1;decide)
    |fn a b=>rw[hK]at hk1;exact absurd hk1 (by show ¬((4:Nat):Int)=1;decide)
    |all x u=>rw[hK]at hk1;exact absurd hk1 (by show ¬((5:Nat):Int)=1;decide)
   rw[decide_eq_false hno]at h
   exact h
  obtain⟨L,hL⟩:∃L,zbM p t=L:=⟨_,rfl⟩;have LNO:Hid ((¬K=K2\/¬Z=Z2\/¬m=m2\/(K=3/\¬X=X2))->L=false):=hidE λh=>by
   rw[<-hL]
   refine zrH ?_;rcases h with h|h|h|⟨h1,h2⟩
   ·exact .inl λe=>h (by rw[hK,hK2,e])
   ·exact .inr (.inl λe=>h (by rw[hZ,hZ2,e]))
   ·exact .inr (.inr (.inl λe=>h (by rw[<-hm,<-hm2,e])))
   ·exact .inr (.inr (.inr ⟨by rw[hK]at h1;omega,λe=>h2 (by rw[hX,hX2,e])⟩))
  have LYES:Hid (K=K2->Z=Z2->m=m2->(K=3->X=X2)->L=true):=hidE λh1 h2 h3 h4=>by
   rw[<-hL]
   exact zcf p t (by rw[hK,hK2]at h1;omega) (by rw[hZ,hZ2]at h2;omega) (by rw[hm,hm2,h3]) (λh=>by rw[<-hX,<-hX2];exact h4 (by rw[hK,h];rfl))
  rw[hL]at hck
  have hszk:=zak p;have hmb:=zaW p;have KB:=hidE kb;have K1:=hidE k1;have K2':=hidE k2;have HCK:=hidE hck;have HA:=hidE (ha.keep (S':=λg=>g<W0.heap.size) (w':=W0) (λg hg=>Nat.lt_of_lt_of_le hg kb.size) (λg hg=>kb.block g hg));have HA2:=hidE (ha2.keep (S':=λg=>g<W0.heap.size) (w':=W0) (λg hg=>Nat.lt_of_lt_of_le hg kb.size) (λg hg=>kb.block g hg));have HM:=hidE hm;have HM2:=hidE hm2;have HOWN:=hidE hown;have HOUT:=hidE hout;have HIH:=hidE IH;have HSZ:Hid (out.length+zab (kids p)+1<=900000/\zab (kids p)<=n/\own.length<=1000000):=hidE ⟨by omega,by omega,hol⟩;have hm6:m<=900000:=by omega
  have hl1:=k1.lt;have hl2:=k2.lt;obtain⟨x0,x1,x2,x3,-,-,-,-,-⟩:=zaa k1;obtain⟨y0,y1,y2,y3,-,-,-,-,-⟩:=zaa k2;clear k1 k2 kb hp ht hown hout hK hX hZ hm ha hK2 hX2 hZ2 hm2 ha2 hO hL hck hv hn hlen hol IH hszk hmb;go_enter Tryz.func33,Tryz.ntmps33
  go_upto_if 18 with fail
  try rw[hW]
  clear hW;go_cut [3] from 19 to 42 (λs3 wx=>s3=.slice Ao no co/\wx=W0)
  case first =>
   by_cases hk1:K=1
   ·have hHas:=HHAS.out hk1
    subst hk1;go_wp2_with fail
    refine hHas.mono ?_;rintro e w1 ⟨rfl,rfl⟩;go_wp2_with fail
    go_meet
    case rel=>exact⟨rfl,rfl⟩
   ·have d1:(K==1)=false:=by rw[Bool.eq_false_iff];intro e;exact hk1 (by simpa using e)
    go_wp2_with fail
    go_meet
    case rel=>exact⟨rfl,rfl⟩
  case rest =>
   rename World=>V0;obtain⟨rfl,hcw⟩:=hcut;subst hcw;go_upto_region 8 with fail
   go_cut [75] from 43 to 74 (λs75 wx=>s75=.bool (!L)/\wx=V0)
   case first =>
    by_cases e1:K=K2
    ·subst e1
     have b1:(K==K)=true:=by simp
     have b1':(K != K)=false:=by simp
     by_cases e2:Z=Z2
     ·subst e2
      have b2:(Z==Z)=true:=by simp
      have b2':(Z != Z)=false:=by simp
      by_cases e3:m=m2
      ·subst e3
       have b3:((m:Int) ==(m:Int))=true:=by simp
       have b3':((m:Int) !=(m:Int))=false:=by simp
       by_cases e4:K=3
       ·subst e4
        by_cases e5:X=X2
        ·have hL:=LYES.out rfl rfl rfl (λ_=>e5)
         have b5:=strT _ _ e5;have b5':(X.toList != X2.toList)=false:=by simp only[bne,b5,Bool.not_true]
         subst hL;clear LNO LYES e5;go_wp2_with fail
         go_meet
         case rel=>exact⟨rfl,rfl⟩
        ·have hL:=LNO.out (.inr (.inr (.inr ⟨rfl,e5⟩)))
         have b5:=strF _ _ e5;have b5':(X.toList != X2.toList)=true:=by simp only[bne,b5,Bool.not_false]
         subst hL;clear LNO LYES e5;go_wp2_with fail
         go_meet
         case rel=>exact⟨rfl,rfl⟩
       ·have hL:=LYES.out rfl rfl rfl (λh=>absurd h e4)
        have b4:(K==3)=false:=by rw[Bool.eq_false_iff];intro e;exact e4 (by simpa using e)
        subst hL;clear LNO LYES;go_wp2_with fail
        go_meet
        case rel=>exact⟨rfl,rfl⟩
      ·have hL:=LNO.out (.inr (.inr (.inl e3)))
       have b3:((m:Int) ==(m2:Int))=false:=kF m m2 e3;have b3':((m:Int) !=(m2:Int))=true:=by simp only[bne,b3,Bool.not_false]
       subst hL;clear LNO LYES;go_wp2_with fail
       go_meet
       case rel=>exact⟨rfl,rfl⟩
     ·have hL:=LNO.out (.inr (.inl e2))
      have b2:(Z==Z2)=false:=by rw[Bool.eq_false_iff];intro e;exact e2 (by simpa using e)
      have b2':(Z != Z2)=true:=by simp only[bne,b2,Bool.not_false]
      subst hL;clear LNO LYES;go_wp2_with fail
      go_meet
      case rel=>exact⟨rfl,rfl⟩
    ·have hL:=LNO.out (.inl e1)
     have b1:(K==K2)=false:=by rw[Bool.eq_false_iff];intro e;exact e1 (by simpa using e)
     have b1':(K != K2)=true:=by simp only[bne,b1,Bool.not_false]
     subst hL;clear LNO LYES;go_wp2_with fail
     go_meet
     case rel=>exact⟨rfl,rfl⟩
   case rest =>
    rename World=>V1;obtain⟨rfl,hcw⟩:=hcut;subst hcw;cases L with
    |false =>
     have hO:=HCK.out;rw[if_neg (by decide)]at hO
     have HO:=hidE hO;clear hO;go_wp2_with fail
     go_ret2
     exact⟨KB.out,.slice none 0 0,false,rfl,λ_=>⟨HO.out,rfl⟩,(λh=>by cases h)⟩
    |true =>
     have hO:=HCK.out;rw[if_pos rfl]at hO
     have HO:=hidE hO;have hmm:m2=m:=by
      rcases Nat.decEq m m2 with h|h
      ·exact absurd (LNO.out (.inr (.inr (.inl h)))) (by decide)
      ·exact h.symm
     subst hmm;clear hO HCK LNO LYES HHAS;go_wp2_with fail
     go_loopg [3,13] m2 (λgg vo vi wr=>HeadCol own p t out m2 V1 gg vo vi wr)
     case atStart=>exact⟨0,out,Ao,no,co,rfl,rfl,rfl,Nat.zero_le _,HOUT.out.below KB.out,by simp,hidE (by rw[List.drop_zero,List.drop_zero]),Below.refl _ _⟩
     case round =>
      obtain⟨i,o,Av,nv,cv,rfl,rfl,rfl,hi,hrow,hsz,hcol,hbw⟩:=hrel;have HROW:=hidE hrow;have HBW:=hidE hbw;have q1:=K1.out.below hbw hl1;have q2:=K2'.out.below hbw hl2;have hwl:=hbw.size;clear x0 x1 x2 x3 y0 y1 y2 y3;obtain⟨x0,x1,x2,x3,-,-,-,-,-⟩:=zaa q1;obtain⟨y0,y1,y2,y3,-,-,-,-,-⟩:=zaa q2;clear q1 q2 hrow;by_cases hlt:i<m2
      ·obtain⟨g,u,Ka,Xa,Za,Aa,na,ca,rfl,hg,a0,a1,a2,a3,hu,hrd,hsu⟩:=zaP (w':=wr) HA.out HM.out hlt (λg hg=>HBW.out.block g hg)
       obtain⟨g2,v,Kb,Xb,Zb,Ab,nb,cb,rfl,hg2,e0,e1,e2,e3,hv,hrd2,-⟩:=zaP (w':=wr) HA2.out HM2.out hlt (λg hg=>HBW.out.block g hg);have hszd:=zmW (kids p) i u hu;have hle1:=hsz;rw[hszd]at hle1
       have husz:u.size<=n:=by
        obtain⟨hi2,e⟩:=List.getElem?_eq_some_iff.1 hu;have:=zfo (kids p) i hi2;rw[e]at this
        have:=HSZ.out.2.1;omega
       have hgl:g<wr.heap.size:=Nat.lt_of_lt_of_le hg hwl;have hgl2:g2<wr.heap.size:=Nat.lt_of_lt_of_le hg2 hwl;have F1:Hid (∀W,Below wr.heap.size wr W->Calls Tryz.prog 33 #[.agg #[.int .i64 Ka,.string Xa,.int .i64 Za,.slice Aa na ca],.agg #[.int .i64 Kb,.string Xb,.int .i64 Zb,.slice Ab nb cb],vown,.slice Av nv cv] W (ColP (colT own u v o) W)):=hidE λW h =>
        HIH.out u v _ _ vown _ own o W husz (RdN.below (hrd.keep (λg hg=>Nat.lt_of_lt_of_le hg hwl) (λ_ _=>rfl)) h) (RdN.below (hrd2.keep (λg hg=>Nat.lt_of_lt_of_le hg hwl) (λ_ _=>rfl)) h) ((HOWN.out.below (zac KB.out HBW.out)).below h) HSZ.out.2.2 (HROW.out.below h) (by have:=HSZ.out.1;omega)
       have hnext:=zrG own (kids p) (kids t) i u v o hu hv;obtain⟨R,hR⟩:∃R,colT own u v o=R:=⟨_,rfl⟩;have HLEN:Hid (∀l,R=some l->l.length<=o.length+u.size):=hidE λl h=>zdX own u v o l (hR.trans h);rw[hR]at F1 hnext
       have HNX:Hid (O=nxt own ((kids p).drop (i+1)) ((kids t).drop (i+1)) R):=hidE (by rw[HO.out,hcol.out,hnext]);have HCOL:Hid (colL own (kids p) (kids t) out=nxt own ((kids p).drop (i+1)) ((kids t).drop (i+1)) R):=hidE (by rw[hcol.out,hnext]);have HSZD:=hidE (show o.length+u.size+zab ((kids p).drop (i+1))<=out.length+zab (kids p) by omega);have SOF:Hid (∀W,Below wr.heap.size wr W->(λW:World=>W.cell? ⟨w.heap.size,3,none⟩=some (.slice (some ⟨g,0,none⟩) m2 c)/\W.cell? ⟨w.heap.size+1,3,none⟩=some (.slice (some ⟨g2,0,none⟩) m2 c2)/\W.cell? ⟨g,i*4,none⟩=some (.int .i64 Ka)/\W.cell? ⟨g,i*4+1,none⟩=some (.string Xa)/\W.cell? ⟨g,i*4+2,none⟩=some (.int .i64 Za)/\W.cell? ⟨g,i*4+3,none⟩=some (.slice Aa na ca)/\W.cell? ⟨g2,i*4,none⟩=some (.int .i64 Kb)/\W.cell? ⟨g2,i*4+1,none⟩=some (.string Xb)/\W.cell? ⟨g2,i*4+2,none⟩=some (.int .i64 Zb)/\W.cell? ⟨g2,i*4+3,none⟩=some (.slice Ab nb cb)) W):=hidE λW h =>
        ⟨(h.cell (p:=⟨w.heap.size,3,none⟩) (by show w.heap.size<_;omega)).trans x3,(h.cell (p:=⟨w.heap.size+1,3,none⟩) (by show w.heap.size+1<_;omega)).trans y3,(h.cell (p:=⟨g,i*4,none⟩) hgl).trans a0,(h.cell (p:=⟨g,i*4+1,none⟩) hgl).trans a1,(h.cell (p:=⟨g,i*4+2,none⟩) hgl).trans a2,(h.cell (p:=⟨g,i*4+3,none⟩) hgl).trans a3,
         (h.cell (p:=⟨g2,i*4,none⟩) hgl2).trans e0,(h.cell (p:=⟨g2,i*4+1,none⟩) hgl2).trans e1,(h.cell (p:=⟨g2,i*4+2,none⟩) hgl2).trans e2,(h.cell (p:=⟨g2,i*4+3,none⟩) hgl2).trans e3⟩
       have B0:Hid (Below wr.heap.size wr wr.drew):=hidE (Below.refl _ wr).drew;clear hu hv hrd hrd2 hsu hszd hle1 husz hnext hR hcol hsz hbw;go_upto_region 13 with fail
       go_region_held3 (λW:World=>W.cell? ⟨w.heap.size,3,none⟩=some (.slice (some ⟨g,0,none⟩) m2 c)/\W.cell? ⟨w.heap.size+1,3,none⟩=some (.slice (some ⟨g2,0,none⟩) m2 c2)/\W.cell? ⟨g,i*4,none⟩=some (.int .i64 Ka)/\W.cell? ⟨g,i*4+1,none⟩=some (.string Xa)/\W.cell? ⟨g,i*4+2,none⟩=some (.int .i64 Za)/\W.cell? ⟨g,i*4+3,none⟩=some (.slice Aa na ca)/\W.cell? ⟨g2,i*4,none⟩=some (.int .i64 Kb)/\W.cell? ⟨g2,i*4+1,none⟩=some (.string Xb)/\W.cell? ⟨g2,i*4+2,none⟩=some (.int .i64 Zb)/\W.cell? ⟨g2,i*4+3,none⟩=some (.slice Ab nb cb))
        (first|(with_reducible exact SOF.out _ B0.out)|(with_reducible exact SOF.out _ B9.out))
        (((with_reducible refine(F1.out _ B0.out).mono ?_);rintro e w9 ⟨b9,v9,q9,rfl,hno,hyes⟩;have B9:=hidE (zac B0.out b9);have HNO:=hidE hno;have HYES:=hidE hyes;clear b9 hno hyes))
       all_goals
        cases q9 with
        |false =>
         obtain⟨hno,hv9⟩:=HNO.out rfl;subst hno hv9;have HON:Hid (O=none):=HNX;clear HNO HYES;go_wp2_with fail
         go_ret2
         exact⟨zac (zac KB.out HBW.out) B9.out,.slice none 0 0,false,rfl,λ_=>⟨HON.out,rfl⟩,(λh=>by cases h)⟩
        |true =>
         obtain⟨l9,hl9,hr9⟩:=HYES.out rfl;subst hl9;obtain⟨A9,n9,c9,rfl⟩:=hr9.shape;have HR9:=hidE hr9;have hlen9:=HLEN.out l9 rfl;have HSZN:=hidE (show l9.length+zab ((kids p).drop (i+1))<=out.length+zab (kids p) by have:=HSZD.out;omega);clear HNO HYES hr9 hlen9;go_wp2_with fail
         go_roundg (m2-(i+1))
         case measure=>omega
         case rel=>exact⟨i+1,l9,A9,n9,c9,rfl,rfl,by go_num,by omega,HR9.out,HSZN.out,hidE HCOL.out,zac HBW.out B9.out⟩
      ·have hon:O=some o:=by rw[HO.out,hcol.out,zqm own (kids p) _ i o (by rw[HM.out];omega)]
       have HON:=hidE hon;clear hcol hsz hon hbw;go_wp2_with fail
       go_ret2
       exact⟨zac KB.out HBW.out,_,true,rfl,(λh=>by cases h),λ_=>⟨o,HON.out,HROW.out⟩⟩
theorem zsl(n:Nat):zmV n:=by
 induction n with
 |zero=>intro p t vp vt vown vout own out w h;have:=zak p;omega
 |succ n ih=>exact zln n ih
set_option maxRecDepth 100000
theorem zky {w:World} {B e size n:Nat} {v:Value} {xs:List Value}(h:w.ownsRow B e size v n xs) {g:Nat}(hg:g<B)(b0 b1 b2 b3:Value):((((w.setCell ⟨g,0,none⟩ b0).setCell ⟨g,1,none⟩ b1).setCell ⟨g,2,none⟩ b2).setCell ⟨g,3,none⟩ b3).ownsRow B e size v n xs:=by
 have hne:v.ownBlock≠some g:=λe=>by have:=h.lt g e;omega
 exact ownsRow_setCell_other (a:=⟨g,3,none⟩) (ownsRow_setCell_other (a:=⟨g,2,none⟩) (ownsRow_setCell_other (a:=⟨g,1,none⟩) (ownsRow_setCell_other (a:=⟨g,0,none⟩) h hne b0) hne b1) hne b2) hne b3
def RPl(S:Nat->Prop)(c:UInt8)(but:List Name)(t:Ty)(w:World)(e:Ending)(w':World):Prop :=
 Below w.heap.size w w'/\∃vn K X Z A m p cur,e=.returned (.tuple #[vn,.agg #[.int .i64 K,.string X,.int .i64 Z,.slice A m p]])/\RowV w' vn (strV (zaG c but t 0))/\RdV (λg=>S g\/w.heap.size<=g/\g<w'.heap.size) w' cur (.agg #[.int .i64 K,.string X,.int .i64 Z,.slice A m p])/\cur.size<=t.size /\
  db [] cur=inst (fvs (newY c but t)) 0 (core t)/\(zaG c but t 0).length<=t.size/\∀g,vn.ownBlock=some g->w.heap.size<=g
def NotBox(w:World)(vn:Value)(W:World):Nat->Prop:=λg=>g<W.heap.size/\g≠w.heap.size/\g≠w.heap.size+1/\some g≠vn.ownBlock
def zgp(S:Nat->Prop)(w:World)(vn:Value)(W:World):Nat->Prop:=λg=>NotBox w vn W g/\(S g\/w.heap.size<=g)
def HeadPl(S:Nat->Prop)(c:UInt8)(but:List Name)(t:Ty)(w:World)(gg:Nat)(vn vk:Value)(wr:World):Prop :=
 ∃names k cur K X Z A m p,gg=cur.size/\vk=.int .i64 (k:Nat)/\Hid (PeelI c but t names k cur)/\Blk wr w.heap.size 29 #[.int .i64 K,.string X,.int .i64 Z,.slice A m p]/\RdV (zgp S w vn wr) wr cur (.agg #[.int .i64 K,.string X,.int .i64 Z,.slice A m p]) /\
  Blk wr (w.heap.size+1) 29 #[.int .i64 0,.string ⟨#[]⟩,.int .i64 0,.slice none 0 0]/\wr.ownsRow (w.heap.size+2) 9 1 vn names.length (strV names)/\names.length+cur.size<=t.size/\k+cur.size*(but.length+2)<=10 ^ 15/\Below w.heap.size w wr/\w.heap.size+2<=wr.heap.size
theorem zl0 {S:Nat->Prop} {c:UInt8} {but:List Name} {t cur:Ty} {names:List Name} {k n:Nat} {w wr:World} {vn:Value} {K Z:Int} {X:ByteArray} {A:Option Addr} {m p:Nat}(hp:PeelI c but t names k cur)(hk:kd cur≠5)(hr:RdV (zgp S w vn wr) wr cur (.agg #[.int .i64 K,.string X,.int .i64 Z,.slice A m p]))(hn:names.length=n)
  (ho:wr.ownsRow (w.heap.size+2) 9 1 vn n (strV names))(hs:names.length+cur.size<=t.size)(hb:Below w.heap.size w wr):RPl S c but t w (.returned (.tuple #[vn,.agg #[.int .i64 K,.string X,.int .i64 Z,.slice A m p]])) ((((wr.setCell ⟨w.heap.size+1,0,none⟩ (.int .i64 K)).setCell ⟨w.heap.size+1,1,none⟩ (.string X)).setCell ⟨w.heap.size+1,2,none⟩ (.int .i64 Z)).setCell ⟨w.heap.size+1,3,none⟩ (.slice A m p)):=by
 obtain⟨h1,h2⟩:=zn2 hp hk;refine⟨zaf hb _ _ _ _ (by omega),vn,K,X,Z,A,m,p,cur,rfl,?_,?_,by omega,h2,by rw[<-h1];omega,λg hg=>by have:=ho.lt g hg;omega⟩
 ·rw[<-h1]
  have hv:=RowV.of_own ho;obtain⟨A',c',hv',hc⟩:=hv;refine⟨A',c',hv',λh0=>?_⟩;obtain⟨g,hA,hg,hcc⟩:=hc h0;have hge:w.heap.size+2<=g:=by
   have h1:vn.ownBlock=some g:=by rw[hv',hA];rfl
   exact(ho.lt g h1).1
  exact⟨g,hA,by rw[za3];exact hg,λj u hu=>by rw[World.cell?_of_block (w:=wr) (zaj _ _ _ _ _ _ _ (by show g≠_;omega))];exact hcc j u hu⟩
 ·exact hr.keep (λg hg=>hg.2.elim .inl (λh=>.inr ⟨h,by rw[za3];exact hg.1.1⟩)) (λg hg=>zaj _ _ _ _ _ _ _ hg.1.2.2.1)
theorem zsm {t:Ty}(h:isAll t=false):kd t≠5:=by
 cases t with
 |all x u=>cases h
 |var x=>exact λh=>by cases h
 |mt n=>exact λh=>by cases h
 |con d l=>exact λh=>by cases h
 |fn a b=>exact λh=>by cases h
set_option maxRecDepth 2000 in
theorem zic(c:UInt8)(t:Ty)(S:Nat->Prop)(v vbut:Value)(but:List Name)(w:World)(hv:RdV S w t v)(hS:∀g,S g->g<w.heap.size)(hbut:RowV w vbut (strV but))(hbl:but.length<=1000000)(hsz:t.size<=100000):Calls Tryz.prog 17 #[v,.string ⟨#[c]⟩,vbut] w (RPl S c but t w):=by
 obtain⟨K,X,Z,A,m,p,rfl,-,-,-,-,-⟩:=hv.parts;obtain⟨W0,hW⟩:∃W,(w.alloc (.cells #[.int .i64 K,.string X,.int .i64 Z,.slice A m p] 29)).alloc (.cells #[.int .i64 0,.string ⟨#[]⟩,.int .i64 0,.slice none 0 0] 29)=W:=⟨_,rfl⟩;have k1:Blk W0 w.heap.size 29 #[.int .i64 K,.string X,.int .i64 Z,.slice A m p]:=hW▸zae _ _ _ _ (heap_alloc_new _ _);have k2:Blk W0 (w.heap.size+1) 29 #[.int .i64 0,.string ⟨#[]⟩,.int .i64 0,.slice none 0 0]:=hW▸alloc_at _ _ _ (by simp);have kb:Below w.heap.size w W0:=hW▸(((Below.refl _ w).alloc (Nat.le_refl _) _).alloc (by simp) _);have hs0:W0.heap.size=w.heap.size+2:=by rw[<-hW];simp
 have hroom:0+t.size*(but.length+2)<=10 ^ 15:=by
  have:=Nat.mul_le_mul hsz (show but.length+2<=1000002 by omega);omega
 have HH:Hid (HeadPl S c but t w t.size (.slice none 0 0) (.int .i64 (0:Nat)) W0):=hidE ⟨[],0,t,K,X,Z,A,m,p,rfl,rfl,hidE (PeelI.start c but t),k1,hv.keep (λg hg=>⟨⟨by have:=hS g hg;omega,by have:=hS g hg;omega,by have:=hS g hg;omega,λh=>by cases h⟩,.inl hg⟩) (λg hg=>kb.block g (hS g hg)),k2,World.ownsRow_nil _ _ _ _,by simp,hroom,kb,Nat.le_of_eq hs0.symm⟩;obtain⟨i0,hi0,hz0,hz1,hz2⟩:=info_parts zbi;have HBUT:=hidE hbut;have HBL:=hidE hbl;have HSZ:=hidE hsz;clear k1 k2 kb hs0 hroom hv hbut hbl hsz hS;go_enter Tryz.func17,Tryz.ntmps17
 go_upto_region 1 with fail
 try rw[hW]
 clear hW;go_wp2_with fail
 go_loopg [8,9] t.size (λgg vn vk wr=>HeadPl S c but t w gg vn vk wr)
 case atStart=>exact HH.out
 case round =>
  obtain⟨names,k,cur,K,X,Z,A,m,p,rfl,rfl,hpl,hb0,hrd,hb1,hown,hnl,hk15,hbw,hw2⟩:=hrel;obtain⟨An,cn,rfl⟩:=zaz hown;have HPL:=hidE hpl.out;have HRD:=hidE hrd;have HB0:=hidE hb0;have HB1:=hidE hb1;have HOWN:=hidE hown;have HBW:=hidE hbw;have HNL:=hidE hnl;have HK:=hidE hk15;have hlw0:=hb0.lt;have hlw1:=hb1.lt;obtain⟨x0,x1,x2,x3,x4,x5,x6,x7,-⟩:=zaa hb0;obtain⟨y0,y1,y2,y3,y4,y5,y6,y7,-⟩:=zaa hb1;obtain⟨K',X',Z',A',m',p',he,hK,hX,hZ,hm,ha⟩:=hrd.parts;have he:=congrArg (λv=>match v with|.agg a=>a.toList|_=>[]) he;simp at he;obtain⟨rfl,rfl,rfl,rfl,rfl,rfl⟩:=he;obtain⟨n,hn⟩:∃n,names.length=n:=⟨_,rfl⟩;have HN:=hidE hn;have HLT:=hidE hown.lt;rw[hn]at hnl HOWN HRD HLT ha ⊢
  cases hq:isAll cur with
  |false =>
   have HKD:=hidE (zsm hq);have d5:(K==5)=false:=by
    rw[hK,Bool.eq_false_iff]
    intro e;exact HKD.out (by simp at e;omega)
   clear hpl hb0 hrd hb1 hown hbw hk15 hK hX hZ hm ha hq hn HH;go_wp2_with fail
   go_region
   all_goals
    go_wp2_with fail
    try simp only[Exit.inBlock,Exit.then]
    first
     |(refine bodyPost_ret (zdF rfl _ _ (w.heap.size+1) 29 _ (0,0) _ rfl (zad (.int .i64 K) (.string X) (.int .i64 Z) (.slice A m p) HB1.out) Tryz.underlying29 rfl (by kernel_rfl)) rfl ?_;exact zl0 (vn:=.slice An n cn) HPL.out HKD.out HRD.out HN.out HOWN.out HNL.out HBW.out)
     |(refine bodyPost_ret (zdF rfl _ _ (w.heap.size+1) 29 _ (0,0) _ rfl (zad (.int .i64 K) (.string X) (.int .i64 Z) (.slice A m p) (show Blk wr.drew _ _ _ from HB1.out)) Tryz.underlying29 rfl (by kernel_rfl)) rfl ?_;exact zl0 (wr:=wr.drew) (vn:=.slice An n cn) HPL.out HKD.out (HRD.out.keep (λ_ h=>h) (λ_ _=>rfl)) HN.out HOWN.out HNL.out HBW.out.drew)
  |true =>
   obtain⟨z,b,rfl⟩:=zf2 hq;obtain rfl:K=5:=hK;have hXz:X=⟨z.toArray⟩:=hX;obtain⟨N,hN⟩:∃N,zal c but k=N:=⟨_,rfl⟩;have hb15:k+but.length+2<=10 ^ 15:=zdt hk15;have hN1:k<=N/\N<=k+but.length:=by have:=zaw c but k (by omega);omega
   have HCAT:Hid (∀j,j<=N->¬9223372036854775807<1+(dec j).length):=hidE λj hj=>by have:=zbK 20 20 j (by omega) (by omega);have h:(dec j).length<=20:=this;omega
   have hc0:=HCAT.out k hN1.1;have HNN:=hidE hN;have HA:=hidE ha;have HM:=hidE hm;have HXZ:=hidE hXz;clear hpl hb0 hrd hb1 hown hbw hX hZ hm ha hq hXz HH hn;go_wp2_with fail
   refine(zbo k wr (by omega)).mono ?_;rintro e w1 ⟨rfl,b1⟩;have B1:=hidE b1;clear b1;go_wp2_with fail
   refine(zdu vbut but c k w1 (HBUT.out.below (zac HBW.out B1.out)) HBL.out).mono ?_;rintro e w2 ⟨rfl,rfl⟩;go_wp2_with fail
   go_loopg [9,10] (N-k) (λgg vk vi ws=>∃j:Nat,gg=N-j/\vk=.int .i64 (j:Nat)/\vi=.bool (decide (nm c j∈but))/\k<=j/\j<=N/\Hid (zbm c but (but.length+1-(j-k)) j=N)/\Hid (Below wr.heap.size wr ws))
   case atStart=>exact⟨k,rfl,rfl,rfl,Nat.le_refl _,hN1.1,hidE (by rw[Nat.sub_self];exact hN),B1⟩
   case round =>
    rename World=>ws;obtain⟨j,rfl,rfl,rfl,hkj,hjN,hf,hb⟩:=hrel;by_cases hin:nm c j∈but
    ·rw[decide_eq_true hin]
     have hne:j≠N:=λe=>by
      have:=(zaw c but k (by omega)).1;rw[HNN.out,<-e]at this
      exact this hin
     have hc1:=HCAT.out (j+1) (by omega);have hf2:=hidE (zeb c but _ j _ hf.out (by omega) hin);clear hin;go_wp2_with fail
     refine(zbo (j+1) ws (by omega)).mono ?_;rintro e w3 ⟨rfl,b3⟩;have B3:=hidE (zac hb.out b3);clear b3;go_wp2_with fail
     refine(zdu vbut but c (j+1) w3 (HBUT.out.below (zac HBW.out B3.out)) HBL.out).mono ?_;rintro e w4 ⟨rfl,rfl⟩;go_wp2_with fail
     go_roundg (N-(j+1))
     case measure=>omega
     case rel =>
      refine⟨j+1,rfl,by go_num,rfl,by omega,by omega,hidE ?_,B3⟩;rw[show but.length+1-(j+1-k)=but.length+1-(j-k)-1 by omega]
      exact hf2.out
    ·rw[decide_eq_false hin]
     have hc1:=HCAT.out j hjN;have hNj:=zdz c but _ j _ hf.out hin;subst hNj;clear hin hf;go_wp2_with fail
     refine(zbo N ws (by omega)).mono ?_;rintro e w3 ⟨rfl,b3⟩;have hb3:=zac hb.out b3;obtain⟨Y,hY⟩:∃Y:ByteArray,(({ data:=#[c] } : ByteArray)++{ data:=(dec N).toArray })=Y:=⟨_,rfl⟩;have hYN:(⟨(nm c N).toArray⟩:ByteArray)=Y:=by rw[<-hY];rfl
     have HYN:=hidE hYN;have hs3:=hb3.size;have BW3:=hidE hb3;have HOWN3:=hidE ((own_below HOWN.out hb3).alloc (.cells #[.string Y] 9));clear b3 hb hb3 hYN x0 x1 x2 x3 x4 x5 x6 x7 y0 y1 y2 y3 y4 y5 y6 y7;have hn6:n<=200000:=by have:=HSZ.out;omega
     go_upto_region 10 with fail
     try rw[hY]
     clear hY;go_wp2_with (at_builtin;refine wpList_append_own_at _ rfl (.tmp 36) (.tmp 38) 22 rfl (w.heap.size+2) 9 i0 _ 1 16 Tryz.underlying22 hi0 hz0 hz1 hz2 rfl (by decide) _ n (strV names) rfl HOWN3.out ⟨w3.heap.size,0,none⟩ 1 1 [.string Y] rfl rfl (zaK _ _ _ _ rfl) (by intro u hu;simp at hu;subst hu;rfl) (by unfold maxLen;omega) (by omega) (by simp;omega) ?_;intro v2 w5 hown3 hgrow _ hat3;obtain⟨A2,c2,rfl⟩:=zaz hown3;have HO5:=hidE hown3;have HG5:=hidE hgrow;clear hown3 hgrow hat3)
     have hs5:=HG5.out.size;simp at hs5;have HK5:Hid (∀g,g<wr.heap.size->some g≠(Value.slice An n cn).ownBlock->w5.heap[g]?=wr.heap[g]?):=hidE λg hg hne =>
      (HG5.out.block g (by simp;omega) hne).trans ((Below.heap_alloc _ _ _ (by omega)).trans (BW3.out.block g hg))
     have hne0:∀g,g<w.heap.size+2->some g≠(Value.slice An n cn).ownBlock:=λg hg e=>by have:=HLT.out g e.symm;omega
     have HLT5:=hidE HO5.out.lt;have k0:Blk w5 w.heap.size 29 #[.int .i64 5,.string X,.int .i64 Z,.slice A m p]:=HB0.out.same (HK5.out _ hlw0 (hne0 _ (by omega)));have k1:Blk w5 (w.heap.size+1) 29 #[.int .i64 0,.string ⟨#[]⟩,.int .i64 0,.slice none 0 0]:=HB1.out.same (HK5.out _ hlw1 (hne0 _ (by omega)));obtain⟨g,u,K1,X1,Z1,A1,n1,c1,rfl,hg,e0,e1,e2,e3,hu,hrd,hsz⟩:=zaP (i:=0) (w':=w5) HA.out HM.out (by rw[<-HM.out];exact Nat.one_pos) (λg hg=>HK5.out g hg.1.1 hg.1.2.2.2);obtain rfl:b=u:=by simpa[kids] using hu
     have hg5:g<w5.heap.size:=Nat.lt_of_lt_of_le hg.1.1 (by omega);have hgw:g≠w.heap.size:=hg.1.2.1;have hbs:b.size+1=(Ty.all z b).size:=by rw[Ty.size]
     have hb1':b.size<=400000:=by have:=HNL.out;have:=HSZ.out;omega
     have F1:=hidE (λW (h:Below w5.heap.size w5 W)=>(zfg b (.var (nm c N)) (zgp S w (.slice An n cn) wr) (λ_=>False) X _ _ W hb1' (by rw[Ty.size];omega)
      (hrd.keep (S':=zgp S w (.slice An n cn) wr) (λ_ h=>h) (λg hg=>h.block g (Nat.lt_of_lt_of_le hg.1.1 (by omega)))) (λg hg=>Nat.lt_of_lt_of_le (Nat.lt_of_lt_of_le hg.1.1 (by omega)) h.size) (zib (nm c N) Y HYN.out) (λ_ h=>h.elim)))
     have hput:raw (isPV X.data.toList) (.var (nm c N)) (numb 121 (butA X b (.var (nm c N))) [] [] b 0).1=putRf ⟨z.toArray⟩ b (.var (nm c N)):=by rw[HXZ.out];rfl
     rw[hput]at F1
     have hpd:=zfa ⟨z.toArray⟩ b (.var (nm c N)) hb1' (by rw[Ty.size];omega);have hps:=zfb ⟨z.toArray⟩ b (.var (nm c N));obtain⟨P,hP⟩:∃P,putRf ⟨z.toArray⟩ b (.var (nm c N))=P:=⟨_,rfl⟩;rw[hP]at F1 hpd hps
     rw[Ty.size,Nat.mul_one]at hps
     have HPD:Hid (db [] P=subD z (.fv (nm c N)) (db [] b)):=hidE hpd;have HPS:=hidE hps;have HBS:=hidE hbs;have J0:=hidE k0;have J1:=hidE k1;obtain⟨x0,x1,x2,x3,x4,x5,x6,x7,-⟩:=zaa k0;have B0:Hid (Below w5.heap.size w5 w5.drew):=hidE (Below.refl _ w5).drew;have hm1:0<m:=by rw[<-HM.out];exact Nat.one_pos
     have hw5:w.heap.size+2<=w5.heap.size:=by omega
     clear hput hP hpd hps hu hrd hsz k0 k1 hbs hg HA;go_upto_region 11 with fail
     go_region_law (go_simp;(with_reducible refine(F1.out _ B0.out).mono ?_);rintro e w9 ⟨b9,k9,x9,z9,a9,m9,p9,rfl,hr9⟩;have HR9:=hidE hr9;have B9:=hidE (zac B0.out b9);have hj0:=J0.out.below B9.out (by omega);obtain⟨v0,v1,v2,v3,v4,v5,v6,v7,v8⟩:=zaa hj0;have HJ0:=hidE hj0;clear b9 hr9 hj0)
     all_goals
      have hs9:=B9.out.size;go_wp2_with fail
      go_roundg P.size
      case measure=>have:=HPS.out;have:=HBS.out;omega
      case rel =>
       have hps:=HPS.out;have hbs:=HBS.out;have hnl:=HNL.out;have hnn:=HN.out;have hbel:Below w.heap.size w w9:=by
        have h3:=(zac HBW.out BW3.out).alloc (by omega) (.cells #[.string Y] 9);have h5:=h3.grown HG5.out (by simp;omega) (λj hj=>by have:=HLT.out _ hj;omega);exact h5.trans (B9.out.mono (by omega))
       refine⟨names++[nm c N],N+1,P,k9,x9,z9,a9,m9,p9,rfl,by go_num,hidE (by have:=PeelI.step (names:=names) HPL.out (by rw[HNN.out];exact HPD.out);rwa [HNN.out]at this),zad _ _ _ _ HJ0.out,?_,(zaj _ _ _ _ _ _ _ (by omega)).trans (J1.out.below B9.out (by omega)),?_,by rw[List.length_append,List.length_singleton];omega,?_,zaf hbel _ _ _ _ (Nat.le_refl _),by rw[za3];omega⟩
       ·refine HR9.out.keep (λq hq=>?_) (λq hq=>zaj _ _ _ _ _ _ _ ?_)
        ·rcases hq with hq|hq
         ·exact hq.elim
         ·have h1:w5.heap.size<=q:=hq.1
          exact⟨⟨by rw[za3];exact hq.2,by omega,by omega,λe=>by have:=HLT5.out q e.symm;omega⟩,.inr (by omega)⟩
        ·rcases hq with hq|hq
         ·exact hq.elim
         ·have h1:w5.heap.size<=q:=hq.1
          omega
       ·rw[List.length_append,List.length_singleton,hnn,zet,HYN.out]
        have ho9:=own_below HO5.out B9.out;exact zky ho9 (by omega) _ _ _ _
       ·have h2:(b.size+1)*(but.length+2)=b.size*(but.length+2)+(but.length+2):=by rw[Nat.add_mul,Nat.one_mul]
        have h3:=Nat.mul_le_mul_right (but.length+2) hps;have h4:=HK.out;rw[<-hbs,h2]at h4
        omega
set_option maxRecDepth 100000
theorem zow(v:Value)(l:List Name)(s:ByteArray)(w:World)(h:RowA w v (strV l))(hl:l.length<=1000000):Calls Tryz.prog 24 #[v,.string s] w λe w'=>e=.returned (.bool (decide (s.data.toList∈l)))/\w=w':=by
 obtain⟨A,c,rfl,hp⟩:=h;rw[zaJ]at *
 obtain⟨n,hn⟩:∃n,l.length=n:=⟨_,rfl⟩;rw[hn]at hl hp ⊢
 have HP:=hidE hp;obtain⟨R,hR⟩:∃R,decide (s.data.toList∈l)=R:=⟨_,rfl⟩;have HR:=hidE hR;have HN:=hidE hn;rw[hR]
 clear hp hR hn;go_enter Tryz.func24,Tryz.ntmps24
 go_wp2
 go_loopg [5] n (λgg v wr=>∃k:Nat,gg=n-k/\v=.int .i64 k/\wr=w/\k<=n/\Hid (s.data.toList∉l.take k))
 case atStart=>exact⟨0,rfl,rfl,rfl,by omega,hidE (by simp)⟩
 case round =>
  obtain⟨k,rfl,rfl,rfl,hk,hn⟩:=hrel;by_cases hlt:k<n
  ·obtain⟨a,rfl,_,hc⟩:=HP.out (by omega)
   have hck:=hc k _ (zcq l k (by rw[HN.out];exact hlt));clear hc;obtain⟨X,hX⟩:∃X:ByteArray,⟨(l[k]'(by rw[HN.out];exact hlt)).toArray⟩=X:=⟨_,rfl⟩;rw[hX]at hck
   have HX:=hidE hX;have hk1:a.add (k*1)=a.add k:=by rw[Nat.mul_one]
   clear hX;by_cases he:X=s
   ·have hr:=hidE (show R=true by rw[<-HR.out,<-he,<-HX.out];simp)
    have dq:=strT X s he;clear he;go_wp2
    go_ret
    exact⟨zav hr.out.symm,rfl⟩
   ·have hr:=hidE (zfm _ l k (by rw[HN.out];exact hlt) hn (λe=>he (by rw[<-HX.out,e])))
    have dq:=strF X s he;clear he;go_wp2
    go_roundg (n-(k+1))
    case measure=>omega
    case rel=>exact⟨k+1,rfl,by go_num,rfl,by omega,hr⟩
  ·have hr:=hidE (show R=false by rw[<-HR.out];rw[List.take_of_length_le (by rw[HN.out];omega)]at hn;exact decide_eq_false hn.out)
   go_wp2
   go_ret
   exact⟨zav hr.out.symm,rfl⟩
theorem zhI {P:Program} {w:World}(base:Nat)(t ty e:TypeId)(i:TypeInfo)(size:Nat)(ht:P.underlying t=some (.slice e))(hi:P.info? e=some i)(v:Value)(n:Nat)(xs:List Value)(hown:w.ownsRow base e size v n xs)(c:Nat):(Builtin.append_ #[t,t] ty #[v,.slice none 0 c]).run P w=.ok v w:=by
 rcases hown.2 with⟨rfl,rfl⟩|⟨g,cap,cur,rfl,_,_,hnc,_⟩
 ·simp[Builtin.append_,run_underlying ht,sizeOf,typeInfo,hi,Builtin.lenOf,Builtin.firstCells]
 ·simp[Builtin.append_,run_underlying ht,sizeOf,typeInfo,hi,Builtin.lenOf,Builtin.firstCells,hnc,storeCells]
theorem zep {P:Program} {w:World}(base:Nat)(t ty e:TypeId)(i:TypeInfo)(z:Value)(ht:P.underlying t=some (.slice e))(hi:P.info? e=some i)(hz:i.zero=some z)(hsize:i.size=1)(hby:i.bytes=16)(hzs:z.cells.size=1)
  (v u:Value)(n:Nat)(xs:List Value)(l:List Name)(hown:w.ownsRow base e 1 v n xs)(hu:RowA w u (strV l))(h63:n+l.length<=100000000)(hbase:base<=w.heap.size):∃A c w',(Builtin.append_ #[t,t] ty #[v,u]).run P w=.ok (.slice A (n+l.length) c) w'/\w'.ownsRow base e 1 (.slice A (n+l.length) c) (n+l.length) (xs++strV l)/\Below base w w':=by
 obtain⟨A,c,rfl,hc⟩:=hu;rw[zaJ]at hc ⊢
 have key:∀ad,A=some ad->(∀j u,(strV l)[j]?=some u->w.cell? (ad.add j)=some u)->∃A' c' w',(Builtin.append_ #[t,t] ty #[v,.slice A l.length c]).run P w=.ok (.slice A' (n+l.length) c') w'/\w'.ownsRow base e 1 (.slice A' (n+l.length) c') (n+l.length) (xs++strV l)/\Below base w w':=by
  rintro ad rfl hcell;obtain⟨v',w',hr,h2,h3,-,-⟩:=run_append_own_at (P:=P) (w:=w) base t ty e i z 1 16 ht hi hz hsize hby hzs (by omega) v n xs hown ad l.length c (strV l) (by rw[zaJ,Nat.mul_one]) hcell (zcg l) (by unfold maxLen;omega) (by omega) hbase;obtain⟨A',c',rfl⟩:=zaz h2;exact⟨A',c',w',hr,h2,Below.grown (Below.refl _ w) h3 hbase (λk hk=>(hown.lt k hk).1)⟩
 cases A with
 |some ad =>
  by_cases h0:l=[]
  ·subst h0
   exact key ad rfl (λj u hu=>by simp[strV]at hu)
  ·obtain⟨a,e,-,hcell⟩:=hc (List.length_pos_iff.2 h0)
   injection e with e;subst e;exact key ad rfl hcell
 |none =>
  have h0:l=[]:=by
   rcases Nat.eq_zero_or_pos l.length with h|h
   ·exact List.length_eq_zero_iff.1 h
   ·obtain⟨a,e,-⟩:=hc h;cases e
  subst h0;obtain⟨A',c',rfl⟩:=zaz hown;exact⟨A',c',w,zhI base t ty e i 1 ht hi _ n xs hown c,by simpa[strV] using hown,Below.refl _ _⟩
theorem zdw {P:Program} {ops:Array Oper} {rest:List Oper} {o:Oper} {a:Act} {w:World} {Q:Exit->Act->World->Prop}(hgd:o.guard=none)(s x:Operand)(t:TypeId)(ho:o.op=.call { callee:=.builtin .append,args:=#[s,x],argTypes:=#[t,t] })
  (base:Nat)(e:TypeId)(i:TypeInfo)(z:Value)(ht:P.underlying t=some (.slice e))(hi:P.info? e=some i)(hz:i.zero=some z)(hsize:i.size=1)(hby:i.bytes=16)(hzs:z.cells.size=1)
  (v u:Value)(n:Nat)(xs:List Value)(l:List Name)(hs:a.eval s=v)(hx:a.eval x=u)(hown:w.ownsRow base e 1 v n xs)(hu:RowA w u (strV l))(h63:n+l.length<=100000000)(hbase:base<=w.heap.size)
  (h:∀A c w',w'.ownsRow base e 1 (.slice A (n+l.length) c) (n+l.length) (xs++strV l)->Below base w w'->wpList P ops Q rest (a.put o.dst (.slice A (n+l.length) c)) w'):wpList P ops Q (o::rest) a w:=by
 refine wpList_plain hgd λK hK=>?_;obtain⟨A,c,w',hr,h2,h3⟩:=zep (P:=P) (w:=w) base t o.type e i z ht hi hz hsize hby hzs v u n xs l hown hu h63 hbase;unfold Oper.wp execOp;simp only[ho,resolve,invoke,builtin,Sem.run_bind,Sem.run_pure,Result.andThen_ok,List.map_toArray,List.map_cons,List.map_nil,hs,hx,hr];exact hK _ _ (h A c w' h2 h3)
theorem zbp {P:Program} {ops:Array Oper} {o:Oper} {a:Act} {K:Act->World->Prop} {Q:Exit->Act->World->Prop} {E:Prop} {w:World}(hgd:o.guard=none)(s x:Operand)(t:TypeId)
  (ho:o.op=.call { callee:=.builtin .append,args:=#[s,x],argTypes:=#[t,t] })(base:Nat)(e:TypeId)(i:TypeInfo)(z:Value)(ht:P.underlying t=some (.slice e))(hi:P.info? e=some i)(hz:i.zero=some z)(hsize:i.size=1)(hby:i.bytes=16)(hzs:z.cells.size=1)
  (v u:Value)(n:Nat)(xs:List Value)(l:List Name)(hs:a.eval s=v)(hx:a.eval x=u)(hown:w.ownsRow base e 1 v n xs)(hu:RowA w u (strV l))(h63:n+l.length<=100000000)(hbase:base<=w.heap.size)
  (h:∀A c w',w'.ownsRow base e 1 (.slice A (n+l.length) c) (n+l.length) (xs++strV l)->Below base w w'->K (a.put o.dst (.slice A (n+l.length) c)) w'):if Region.wanted o (yielded ops a.tmps)=true then Oper.wp P o a w K Q else E:=by
 have hw:Region.wanted o (yielded ops a.tmps)=true:=by simp[Region.wanted,hgd]
 rw[if_pos hw]
 obtain⟨A,c,w',hr,h2,h3⟩:=zep (P:=P) (w:=w) base t o.type e i z ht hi hz hsize hby hzs v u n xs l hown hu h63 hbase;unfold Oper.wp execOp;simp only[ho,resolve,invoke,builtin,Sem.run_bind,Sem.run_pure,Result.andThen_ok,List.map_toArray,List.map_cons,List.map_nil,hs,hx,hr];exact h A c w' h2 h3
mutual
def dsz:Dt->Nat
 |.fv _=>1
 |.bv _=>1
 |.mt _=>1
 |.con _ l=>dszL l+1
 |.fn a b=>dsz a+dsz b+1
 |.all t=>dsz t+1
def dszL:List Dt->Nat
 |[]=>0
 |t::r=>dsz t+dszL r
end
mutual
theorem zcE:(t:Ty)->∀env,t.size=dsz (db env t)
 |.var x,env=>by
  rw[db,Ty.size]
  cases idx x env <;> rfl
 |.mt n,env=>by rw[db,Ty.size,dsz]
 |.con c l,env=>by rw[db,Ty.size,dsz,ziZ l env]
 |.fn a b,env=>by rw[db,Ty.size,dsz,zcE a env,zcE b env]
 |.all x t,env=>by rw[db,Ty.size,dsz,zcE t (x::env)]
theorem ziZ:(l:List Ty)->∀env,zab l=dszL (dbL env l)
 |[],env=>by rw[dbL,zab,dszL]
 |t::r,env=>by rw[dbL,zab,dszL,zcE t env,ziZ r env]
end
mutual
theorem zeT(f:Name->Dt)(B:Nat)(hB:1<=B)(hf:∀x,dsz (f x)<=B):(d:Dt)->dsz (repD f .mt d)<=dsz d*B
 |.fv x=>by rw[repD,dsz,Nat.one_mul];exact hf x
 |.bv i=>by rw[repD,dsz,Nat.one_mul];exact hB
 |.mt n=>by rw[repD];show 1<=1*B;omega
 |.con c l=>by have:=zkz f B hB hf l;rw[repD,dsz,dsz,Nat.add_mul,Nat.one_mul];omega
 |.fn a b=>by have:=zeT f B hB hf a;have:=zeT f B hB hf b;rw[repD,dsz,dsz,Nat.add_mul,Nat.add_mul,Nat.one_mul];omega
 |.all t=>by have:=zeT f B hB hf t;rw[repD,dsz,dsz,Nat.add_mul,Nat.one_mul];omega
theorem zkz(f:Name->Dt)(B:Nat)(hB:1<=B)(hf:∀x,dsz (f x)<=B):(l:List Dt)->dszL (zax f .mt l)<=dszL l*B
 |[]=>by rw[zax,dszL];omega
 |t::r=>by have:=zeT f B hB hf t;have:=zkz f B hB hf r;rw[zax,dszL,dszL,Nat.add_mul];omega
end
end Go.Proofs.YtaomnlcplmkokaaGreatDoor
namespace Go.Proofs.YtaomnlcplmkokaaGreatDoor
open Go.RowKit Lx Tx Go.Maps Go.WideMaps Go.Shelf
set_option maxRecDepth 100000
def zar(t:Ty)(l:List (Name × Ty)):List Name:=t.free++l.flatMap λe=>e.2.free++[e.1]
theorem zmY(t:Ty)(l:List (Name × Ty))(i:Nat)(hi:i<l.length):zar t (l.take (i+1))=(zar t (l.take i)++l[i].2.free)++[l[i].1]:=by
 unfold zar;rw[List.take_succ_eq_append_getElem hi,List.flatMap_append]
 simp
theorem zf5(t:Ty)(ht:t.size<=400):(l:List (Name × Ty))->(∀e∈l,e.2.size<=400)->(zar t l).length<=400+401*l.length
 |[],_=>by unfold zar;have:=zaU t;simp;omega
 |e::r,h=>by
  have h1:=zf5 t ht r (λe he=>h e (List.mem_cons_of_mem _ he));have h2:=h e List.mem_cons_self;have h3:=zaU e.2;unfold zar at h1 ⊢;simp only[List.flatMap_cons,List.length_append,List.length_cons,List.length_nil]at h1 ⊢;omega
theorem zox {t:Ty} {l:List (Name × Ty)} {x:Name} {u:Ty}(h:(x,u)∈l):x∈zar t l:=by
 unfold zar;exact List.mem_append_right _ (List.mem_flatMap.2 ⟨(x,u),h,by simp⟩)
theorem zmZ {t:Ty} {l:List (Name × Ty)} {x z:Name} {u:Ty}(h:(x,u)∈l)(hz:z∈u.free):z∈zar t l:=by
 unfold zar;exact List.mem_append_right _ (List.mem_flatMap.2 ⟨(x,u),h,by simp[hz]⟩)
theorem zoy(l:List (Name × Ty))(i:Nat)(hi:i<l.length):keysOf (l.take (i+1))=keysOf (l.take i)++[l[i].1]:=by
 unfold keysOf;rw[List.take_succ_eq_append_getElem hi,List.map_append]
 rfl
theorem zkA(l:List (Name × Ty)):(keysOf l).length=l.length:=by unfold keysOf;simp
structure MidI (t:Ty) (l:List (Name × Ty)) (i k:Nat) (W:List Name) (cur:Ty):Prop where
 len:W.length=i
 given:Given 119 (zar t l) W.reverse k
 eqdb:db [] cur=repD (fstF (keysOf (l.take i)) W) .mt (db [] t)
 sz:cur.size<=t.size
 room:k<=i*((zar t l).length+1)
theorem MidI.start(t:Ty)(l:List (Name × Ty)):MidI t l 0 0 [] t:=by
 refine⟨rfl,Given.nil _ _,?_,Nat.le_refl _,Nat.zero_le _⟩;rw[List.take_zero]
 exact(zdZ _ _ _ (λ_ _=>rfl) (λ_ _=>rfl)).symm
theorem MidI.next {t:Ty} {l:List (Name × Ty)} {i k:Nat} {W:List Name} {cur P:Ty}(h:MidI t l i k W cur)(hi:i<l.length)(ht:t.size<=400)(hb:k+(zar t l).length+1<10 ^ 20)(hP:P=putRf ⟨l[i].1.toArray⟩ cur (.var (nm 119 (zal 119 (zar t l) k)))):MidI t l (i+1) (zal 119 (zar t l) k+1) (W++[nm 119 (zal 119 (zar t l) k)]) P:=by
 have hs:=h.sz;have hg:=h.given.next (by omega);refine⟨by rw[List.length_append,h.len];rfl,by rw[List.reverse_append];exact hg,?_,?_,?_⟩
 ·rw[hP,zfa _ _ _ (by omega) (by rw[Ty.size];omega),h.eqdb,zoy l i hi]
  have e:db [] (.var (nm 119 (zal 119 (zar t l) k)))=.fv (nm 119 (zal 119 (zar t l) k)):=rfl;rw[e]
  refine zpZ _ _ _ _ _ (by rw[zkA,List.length_take,h.len];omega) (λy hy e=>?_);have hn:=h.given.apart y (List.mem_reverse.2 hy);rw[e]at hn
  exact hn (zox (u:=l[i].2) (List.getElem_mem hi))
 ·have:=zfb ⟨l[i].1.toArray⟩ cur (.var (nm 119 (zal 119 (zar t l) k)))
  rw[Ty.size,Nat.mul_one]at this
  rw[hP]
  omega
 ·have h1:=(zaw 119 (zar t l) k hb).2.2
  have h2:=h.room;have h3:(i+1)*((zar t l).length+1)=i*((zar t l).length+1)+((zar t l).length+1):=by rw[Nat.add_mul,Nat.one_mul]
  omega
structure EndI (t:Ty) (l:List (Name × Ty)) (W:List Name) (i:Nat) (cur:Ty):Prop where
 len:W.length=l.length
 nodup:W.Nodup
 out:∀z∈W,z∉zar t l
 eqdb:db [] cur=repD (sndF (keysOf l) W ((l.take i).map Prod.snd)) .mt (db [] t)
 sz:cur.size<=160000
theorem MidI.done {t:Ty} {l:List (Name × Ty)} {k:Nat} {W:List Name} {cur:Ty}(h:MidI t l l.length k W cur)(ht:t.size<=400):EndI t l W 0 cur:=by
 refine⟨h.len,(List.pairwise_reverse.1 h.given.nodup).imp (λh=>Ne.symm h),λz hz=>h.given.apart z (List.mem_reverse.2 hz),?_,by have:=h.sz;omega⟩;have:=h.eqdb;rw[List.take_length]at this
 rw[List.take_zero,List.map_nil,zrs]
 exact this
theorem zqn(K W:List Name)(T:List Ty)(h:∀u∈T,u.size<=400)(x:Name):dsz (sndF K W T x)<=400:=by
 unfold sndF;split
 ·split
  ·rename_i u hu
   rw[<-zcE]
   exact h u (List.mem_of_getElem? hu)
  ·rw[dsz];omega
 ·rw[dsz];omega
theorem EndI.next {t:Ty} {l:List (Name × Ty)} {W:List Name} {i:Nat} {cur P:Ty}(h:EndI t l W i cur)(hi:i<l.length)(ht:t.size<=400)(hl:∀e∈l,e.2.size<=400)(hP:P=putRf ⟨(W.getD i []).toArray⟩ cur l[i].2):EndI t l W (i+1) P:=by
 have hs:=h.sz;have hT:((l.take i).map Prod.snd).length=i:=by rw[List.length_map,List.length_take];omega
 have hmem:W.getD i []∈W:=zbT W i (by rw[h.len];exact hi);have hli:=hl l[i] (List.getElem_mem hi);have hdb:db [] P=repD (sndF (keysOf l) W ((l.take (i+1)).map Prod.snd)) .mt (db [] t):=by
  rw[hP,zfa _ _ _ (by omega) (by omega),h.eqdb]
  have hst:=zp0 (keysOf l) W ((l.take i).map Prod.snd) l[i].2 (db [] t) (by rw[zkA,h.len]) h.nodup (by rw[hT,h.len];exact hi) (λv hv=>by
   rw[hT]
   intro ho;obtain⟨e,he,rfl⟩:=List.mem_map.1 hv;exact h.out _ hmem (zmZ (x:=e.1) (u:=e.2) (List.mem_of_mem_take he) ((zcD _ _).2 ho))) (by
   rw[hT]
   intro ho;refine h.out _ hmem ?_;unfold zar;exact List.mem_append_left _ ((zcD _ _).2 ho))
  rw[hT]at hst
  rw[List.take_succ_eq_append_getElem hi,List.map_append]
  exact hst
 refine⟨h.len,h.nodup,h.out,hdb,?_⟩;rw[zcE P [],hdb]
 have h1:=zeT (sndF (keysOf l) W ((l.take (i+1)).map Prod.snd)) 400 (by omega) (zqn _ _ _ (λu hu=>by
  obtain⟨e,he,rfl⟩:=List.mem_map.1 hu;exact hl e (List.mem_of_mem_take he))) (db [] t)
 rw[<-zcE]at h1
 omega
theorem EndI.all {t:Ty} {l:List (Name × Ty)} {W:List Name} {cur:Ty}(h:EndI t l W l.length cur):db [] cur=repD (sig l) .mt (db [] t):=by
 have:=h.eqdb;rw[List.take_length,zrt]at this
 exact this
def BoxT(w wr:World)(vn:Value)(cur:Ty)(K:Int)(X:ByteArray)(Z:Int)(A:Option Addr)(m p:Nat):Prop :=
 Blk wr w.heap.size 29 #[.int .i64 K,.string X,.int .i64 Z,.slice A m p]/\RdV (NotBox w vn wr) wr cur (.agg #[.int .i64 K,.string X,.int .i64 Z,.slice A m p]) /\
  Blk wr (w.heap.size+1) 29 #[.int .i64 0,.string ⟨#[]⟩,.int .i64 0,.slice none 0 0]/\Below w.heap.size w wr/\w.heap.size+2<=wr.heap.size
theorem BoxT.below {w wr W:World} {vn:Value} {cur:Ty} {K:Int} {X:ByteArray} {Z:Int} {A:Option Addr} {m p:Nat}(h:BoxT w wr vn cur K X Z A m p)(hb:Below wr.heap.size wr W):BoxT w W vn cur K X Z A m p:=by
 obtain⟨h1,h2,h3,h4,h5⟩:=h;have hs:=hb.size;exact⟨h1.below hb h1.lt,h2.keep (λg hg=>⟨by have:=hg.1;omega,hg.2⟩) (λg hg=>hb.block g hg.1),h3.below hb h3.lt,h4.trans (hb.mono (by omega)),by omega⟩
theorem BoxT.grown {w wr W:World} {vn vn':Value} {cur:Ty} {K:Int} {X:ByteArray} {Z:Int} {A:Option Addr} {m p:Nat} {e:TypeId} {B size n:Nat} {xs:List Value}(h:BoxT w wr vn cur K X Z A m p)(hB:w.heap.size+2<=B)(ho:wr.ownsRow B e size vn n xs)(hg:wr.grownBy W vn.ownBlock)
  (hv:vn'.ownBlock=vn.ownBlock\/vn'.ownBlock=some wr.heap.size):BoxT w W vn' cur K X Z A m p:=by
 obtain⟨h1,h2,h3,h4,h5⟩:=h;have hs:=hg.size;have hlt:=ho.lt;refine⟨h1.same (hg.block _ h1.lt (λe=>by have:=hlt _ e.symm;omega)),h2.keep (λg hh=>⟨by have:=hh.1;omega,hh.2.1,hh.2.2.1,λe=>?_⟩) (λg hh=>hg.block g hh.1 hh.2.2.2),h3.same (hg.block _ h3.lt (λe=>by have:=hlt _ e.symm;omega)),h4.grown hg (by omega) (λk hk=>by have:=hlt k hk;omega),by omega⟩;rcases hv with hv|hv
 ·exact hh.2.2.2 (by rw[<-hv];exact e)
 ·rw[hv]at e
  injection e with e;have:=hh.1;omega
theorem BoxT.set {w wr w9:World} {vn:Value} {cur P:Ty} {K K9:Int} {X X9:ByteArray} {Z Z9:Int} {A A9:Option Addr} {m p m9 p9:Nat}(h:BoxT w wr vn cur K X Z A m p)(hb:Below wr.heap.size wr w9)(hn:∀g,vn.ownBlock=some g->w.heap.size+2<=g/\g<wr.heap.size)
  (hr:RdV (λg=>g<w.heap.size\/wr.heap.size<=g/\g<w9.heap.size) w9 P (.agg #[.int .i64 K9,.string X9,.int .i64 Z9,.slice A9 m9 p9])):BoxT w ((((w9.setCell ⟨w.heap.size,0,none⟩ (.int .i64 K9)).setCell ⟨w.heap.size,1,none⟩ (.string X9)).setCell ⟨w.heap.size,2,none⟩ (.int .i64 Z9)).setCell ⟨w.heap.size,3,none⟩ (.slice A9 m9 p9)) vn P K9 X9 Z9 A9 m9 p9:=by
 obtain⟨h1,h2,h3,h4,h5⟩:=h;have hs:=hb.size;refine⟨zad _ _ _ _ (h1.below hb h1.lt),hr.keep (λg hg=>?_) (λg hg=>zaj _ _ _ _ _ _ _ ?_),(zaj _ _ _ _ _ _ _ (by omega)).trans (h3.below hb h3.lt),zaf (h4.trans (hb.mono (by omega))) _ _ _ _ (Nat.le_refl _),by rw[za3];omega⟩
 ·refine⟨by rw[za3];omega,by omega,by omega,λe=>?_⟩
  have:=hn g e.symm;omega
 ·omega
def HeadAv(t:Ty)(l:List (Name × Ty))(n:Nat)(w W0:World)(gg:Nat)(va vi:Value)(wr:World):Prop :=
 ∃(i na:Nat) (Aa:Option Addr) (ca:Nat),gg=n-i/\vi=.int .i64 (i:Nat)/\i<=n/\va=.slice Aa na ca/\Hid ((zar t (l.take i)).length=na)/\na<=200000/\wr.ownsRow (w.heap.size+2) 9 1 (.slice Aa na ca) na (strV (zar t (l.take i)))/\Below W0.heap.size W0 wr
def HeadMi(t:Ty)(l:List (Name × Ty))(n:Nat)(w wa:World)(gg:Nat)(vm vk vi:Value)(wr:World):Prop :=
 ∃(i k:Nat) (Am:Option Addr) (cm:Nat) (W:List Name) (cur:Ty) (K:Int) (X:ByteArray) (Z:Int) (A:Option Addr) (m p:Nat),gg=n-i/\vm=.slice Am i cm/\vk=.int .i64 (k:Nat)/\vi=.int .i64 (i:Nat)/\i<=n/\Hid (MidI t l i k W cur)/\wr.ownsRow wa.heap.size 9 1 (.slice Am i cm) i (strV W) /\
  BoxT w wr (.slice Am i cm) cur K X Z A m p/\wa.heap.size<=wr.heap.size/\(∀g,w.heap.size+2<=g->g<wa.heap.size->wr.heap[g]?=wa.heap[g]?)
theorem zoz {w wa wr:World} {va:Value} {e:TypeId} {n:Nat} {L:List Name}(ho:wa.ownsRow (w.heap.size+2) e 1 va n (strV L))(hs:wa.heap.size<=wr.heap.size)(hk:∀g,w.heap.size+2<=g->g<wa.heap.size->wr.heap[g]?=wa.heap[g]?):RowV wr va (strV L):=by
 obtain⟨A,c,hv,hc⟩:=RowV.of_own ho;refine⟨A,c,hv,λh0=>?_⟩;obtain⟨g,hA,hg,hcc⟩:=hc h0;have hge:w.heap.size+2<=g:=by
  have h1:va.ownBlock=some g:=by rw[hv,hA];rfl
  exact(ho.lt g h1).1
 exact⟨g,hA,by omega,λj u hu=>by rw[World.cell?_of_block (w:=wa) (hk g hge hg)];exact hcc j u hu⟩
def HeadTy(t:Ty)(l:List (Name × Ty))(n:Nat)(W:List Name)(vm:Value)(w:World)(gg:Nat)(vi:Value)(wr:World):Prop :=
 ∃(i:Nat) (cur:Ty) (K:Int) (X:ByteArray) (Z:Int) (A:Option Addr) (m p:Nat),gg=n-i/\vi=.int .i64 (i:Nat)/\i<=n/\Hid (EndI t l W i cur)/\BoxT w wr vm cur K X Z A m p/\RowV wr vm (strV W)/\(∀g,vm.ownBlock=some g->w.heap.size+2<=g/\g<wr.heap.size)
def PAPst(t:Ty)(l:List (Name × Ty))(w:World)(e:Ending)(w':World):Prop :=
 Below w.heap.size w w'/\∃K X Z A m p r,e=.returned (.agg #[.int .i64 K,.string X,.int .i64 Z,.slice A m p])/\RdN w' r (.agg #[.int .i64 K,.string X,.int .i64 Z,.slice A m p])/\db [] r=repD (sig l) .mt (db [] t)/\r.size<=160000
theorem zoA {t cur:Ty} {l:List (Name × Ty)} {W:List Name} {w wr:World} {vm:Value} {K Z:Int} {X:ByteArray} {A:Option Addr} {m p:Nat}(h:EndI t l W l.length cur)(hb:BoxT w wr vm cur K X Z A m p):PAPst t l w (.returned (.agg #[.int .i64 K,.string X,.int .i64 Z,.slice A m p])) ((((wr.setCell ⟨w.heap.size+1,0,none⟩ (.int .i64 K)).setCell ⟨w.heap.size+1,1,none⟩ (.string X)).setCell ⟨w.heap.size+1,2,none⟩ (.int .i64 Z)).setCell ⟨w.heap.size+1,3,none⟩ (.slice A m p)):=by
 obtain⟨h1,h2,h3,h4,h5⟩:=hb;exact⟨zaf h4 _ _ _ _ (by omega),K,X,Z,A,m,p,cur,rfl,h2.keep (λg hg=>by rw[za3];exact hg.1) (λg hg=>zaj _ _ _ _ _ _ _ hg.2.2.1),h.all,h.sz⟩
set_option maxRecDepth 2000 in
theorem zoB(t:Ty)(l:List (Name × Ty))(v vl:Value)(w:World)(hv:RdN w t v)(hl:RowB w vl l)(ht:t.size<=400)(hls:∀e∈l,e.2.size<=400)(hll:l.length<=400):Calls Tryz.prog 35 #[v,vl] w (PAPst t l w):=by
 obtain⟨K,X,Z,A,m,p,rfl,-,-,-,-,-⟩:=hv.parts;obtain⟨Al,n,cl,rfl,hn⟩:∃A n c,vl=.slice A n c/\l.length=n:=by obtain⟨_,_,⟨A,c,h,_⟩,_⟩:=hl;exact⟨A,_,c,h,rfl⟩
 obtain⟨W0,hW⟩:∃W,(w.alloc (.cells #[.int .i64 K,.string X,.int .i64 Z,.slice A m p] 29)).alloc (.cells #[.int .i64 0,.string ⟨#[]⟩,.int .i64 0,.slice none 0 0] 29)=W:=⟨_,rfl⟩;have k1:Blk W0 w.heap.size 29 #[.int .i64 K,.string X,.int .i64 Z,.slice A m p]:=hW▸zae _ _ _ _ (heap_alloc_new _ _);have k2:Blk W0 (w.heap.size+1) 29 #[.int .i64 0,.string ⟨#[]⟩,.int .i64 0,.slice none 0 0]:=hW▸alloc_at _ _ _ (by simp);have kb:Below w.heap.size w W0:=hW▸(((Below.refl _ w).alloc (Nat.le_refl _) _).alloc (by simp) _);have hs0:W0.heap.size=w.heap.size+2:=by rw[<-hW];simp
 have BX:Hid (BoxT w W0 (.slice none 0 0) t K X Z A m p):=hidE ⟨k1,hv.keep (λg hg=>⟨by omega,by omega,by omega,λh=>by cases h⟩) (λg hg=>kb.block g hg),k2,kb,Nat.le_of_eq hs0.symm⟩;have HFR:=hidE (zbs t (λg=>g<w.heap.size) _ W0 (by omega) (hv.keep (λ_ h=>h) (λg hg=>kb.block g hg)) (λg hg=>Nat.lt_of_lt_of_le hg kb.size));have hft:=zaU t;obtain⟨x0,x1,x2,x3,-,-,-,-,-⟩:=zaa k1;obtain⟨i0,hi0,hz0,hz1,hz2⟩:=info_parts zbi;have HL:=hidE hl;have HN:=hidE hn;have HLS:=hidE hls;have HT:=hidE ht;have KB:=hidE kb;have hn4:n<=400:=by omega
 have hal:(zar t []).length=t.free.length:=by unfold zar;simp
 clear k1 k2 kb hv hl hls hn;go_enter Tryz.func35,Tryz.ntmps35
 go_upto_region 3 with fail
 try rw[hW]
 clear hW;go_wp2_with fail
 refine HFR.out.mono ?_;rintro e w1 ⟨vf,rfl,hrf,b1⟩;have hs1:=b1.size;have B1:=hidE b1;have HRF:=hidE hrf.1.toA;clear b1 hrf HFR x0 x1 x2 x3;go_wp2_with (at_builtin;refine zdw rfl (.tmp 12) (.tmp 14) 22 rfl (w.heap.size+2) 9 i0 _ Tryz.underlying22 hi0 hz0 hz1 hz2 rfl (.slice none 0 0) vf 0 [] t.free rfl rfl (World.ownsRow_nil _ _ _ _) HRF.out (by omega) (by omega) ?_;intro Aa ca w2 hown b2;simp only[Nat.zero_add,List.nil_append]at hown ⊢;have HOWN:=hidE hown;have B2:=hidE b2;clear hown b2)
 obtain⟨na0,hna0⟩:∃na0,t.free.length=na0:=⟨_,rfl⟩;rw[hna0]at HOWN hft hal ⊢
 have HA0:=hidE hal;clear hna0 hal;go_loopg [6,7] n (λgg va vi wr=>HeadAv t l n w W0 gg va vi wr)
 case atStart=>exact⟨0,na0,Aa,ca,rfl,rfl,Nat.zero_le _,rfl,hidE (by rw[List.take_zero];exact HA0.out),by omega,by rw[List.take_zero];unfold zar;simpa using HOWN.out,B1.out.trans (B2.out.mono (by omega))⟩
 case round =>
  obtain⟨i,na,Aa,ca,rfl,rfl,hi,rfl,hal,hna,hown,hbw⟩:=hrel;have HOWN:=hidE hown;have HBW:=hidE hbw;have hsw:=hbw.size;have hbw0:Below w.heap.size w wr:=KB.out.trans (hbw.mono KB.out.size);have HB0:=hidE hbw0;by_cases hlt:i<n
  ·have hil:i<l.length:=by rw[HN.out];exact hlt
   obtain⟨g,c',k5,x5,z5,a5,m5,p5,hv5,hg5,c0,c1,c2,c3,c4,hrd⟩:=HL.out.at i hil;injection hv5 with e1 e2 e3;subst e1;have hls:=HLS.out _ (List.getElem_mem hil);have HF:=hidE (zbs l[i].2 _ _ wr (by omega) (RdN.below hrd hbw0) (λg hg=>hg));have hff:l[i].2.free.length<=400:=by have:=zaU l[i].2;omega
   have hst:=zmY t l i hil;have hlen:=zf5 t HT.out (l.take (i+1)) (λe he=>HLS.out e (List.mem_of_mem_take he));rw[List.length_take]at hlen
   obtain⟨PX,hPX⟩:∃PX:ByteArray,(⟨l[i].1.toArray⟩:ByteArray)=PX:=⟨_,rfl⟩;have C0:Hid (∀W,Below w.heap.size w W->W.cell? ⟨g,i*5,none⟩=some (.string PX)):=hidE λW h=>(h.cell (p:=⟨g,i*5,none⟩) hg5).trans (by rw[c0,hPX]);have HST:Hid (strV (zar t (l.take (i+1)))=(strV (zar t (l.take i))++strV l[i].2.free)++[.string PX]):=hidE (by rw[hst];simp[strV,<-hPX]);have HLE:Hid ((zar t (l.take (i+1))).length=na+l[i].2.free.length+1):=hidE (by rw[hst,List.length_append,List.length_append,hal.out];rfl);have hnb:na+l[i].2.free.length+1<=160800:=by rw[<-HLE.out];omega
   obtain⟨F,hF⟩:∃F,l[i].2.free=F:=⟨_,rfl⟩;rw[hF]at HF HST HLE hff hnb
   obtain⟨nf,hnf⟩:∃nf,F.length=nf:=⟨_,rfl⟩;have HNF:=hidE hnf;rw[hnf]at HLE hff hnb
   have d1:=(hbw0.cell (p:=⟨g,i*5+1,none⟩) hg5).trans c1;have d2:=(hbw0.cell (p:=⟨g,i*5+2,none⟩) hg5).trans c2;have d3:=(hbw0.cell (p:=⟨g,i*5+3,none⟩) hg5).trans c3;have d4:=(hbw0.cell (p:=⟨g,i*5+4,none⟩) hg5).trans c4;clear e2 e3 c0 c1 c2 c3 c4 hrd hst hlen hPX hF hil hal hown hbw hbw0 hls hnf;go_wp2_with fail
   refine HF.out.mono ?_;rintro e w3 ⟨vf,rfl,hrf,b3⟩;have hs3:=b3.size;have HB3:=hidE (zac HB0.out b3);have HW3:=hidE (zac HBW.out b3);have HOWN3:=hidE (own_below HOWN.out b3);have HRF:=hidE hrf.1.toA;clear b3 hrf HF d1 d2 d3 d4;go_upto_region 8 with(at_builtin;refine zdw rfl (.tmp 22) (.tmp 28) 22 rfl (w.heap.size+2) 9 i0 _ Tryz.underlying22 hi0 hz0 hz1 hz2 rfl (.slice Aa na ca) vf na _ F rfl rfl HOWN3.out HRF.out (by rw[HNF.out];omega) (by omega) ?_;intro Ab cb w4 hown b4;rw[HNF.out]at hown;simp only[HNF.out];have HOWN4:=hidE hown;have hs4:=b4.size;have HW4:=hidE (HW3.out.trans (b4.mono (by omega)));have HB4:=hidE (HB3.out.trans (b4.mono (by omega)));clear hown b4)
   have q0:=C0.out w4 HB4.out;have HOWN5:=hidE (HOWN4.out.alloc (.cells #[.string PX] 9));go_wp2_with (at_builtin;refine wpList_append_own_at _ rfl (.tmp 30) (.tmp 36) 22 rfl (w.heap.size+2) 9 i0 _ 1 16 Tryz.underlying22 hi0 hz0 hz1 hz2 rfl (by decide) _ (na+nf) _ rfl HOWN5.out ⟨w4.heap.size,0,none⟩ 1 1 [.string PX] rfl rfl (zaK _ _ _ _ rfl) (by intro u hu;simp at hu;subst hu;rfl) (by unfold maxLen;omega) (by omega) (by simp;omega) ?_;intro v2 w5 hown3 hgrow _ _;obtain⟨A2,c2,rfl⟩:=zaz hown3;have HO3:=hidE hown3;have HG3:=hidE hgrow;clear hown3 hgrow)
   go_roundg (n-(i+1))
   case measure=>omega
   case rel =>
    refine⟨i+1,na+nf+1,A2,c2,rfl,by go_num,by omega,rfl,hidE HLE.out,by omega,by rw[HST.out];exact HO3.out,?_⟩;exact((HW4.out.alloc (by omega) _).grown HG3.out (by simp;omega) (λj hj=>by have:=HOWN4.out.lt j hj;omega))
  ·have hin:i=l.length:=by rw[HN.out];omega
   have HAV:Hid (wr.ownsRow (w.heap.size+2) 9 1 (.slice Aa na ca) na (strV (zar t l))):=hidE (by have:=hown;rwa [hin,List.take_length]at this);have hlen:=zf5 t HT.out l HLS.out;have HLE:Hid ((zar t l).length=na):=hidE (by have:=hal.out;rwa [hin,List.take_length]at this);have hna6:na<=160800:=by rw[<-HLE.out];rw[HN.out]at hlen;omega
   have HH:Hid (HeadMi t l n w wr n (.slice none 0 0) (.int .i64 (0:Nat)) (.int .i64 (0:Nat)) wr):=hidE ⟨0,0,none,0,[],t,K,X,Z,A,m,p,rfl,rfl,rfl,rfl,Nat.zero_le _,hidE (MidI.start t l),World.ownsRow_nil _ _ _ _,BX.out.below hbw,Nat.le_refl _,λ_ _ _=>rfl⟩;have hwa:w.heap.size+2<=wr.heap.size:=by omega
   clear hal hown hbw hbw0 hlen HOWN hin;go_wp2_with fail
   go_loopg [5,8,9] n (λgg vm vk vi ws=>HeadMi t l n w wr gg vm vk vi ws)
   case atStart=>exact HH.out
   case round =>
    rename World=>ws;obtain⟨i,k,Am,cm,W,cur,K,X,Z,A,m,p,rfl,rfl,rfl,rfl,hi,hmid,hown,hbox,hle,hkp⟩:=hrel;have HMID:=hidE hmid.out;have HOWN:=hidE hown;have HBOX:=hidE hbox;have HKP:=hidE hkp;have HAVR:=hidE (zoz HAV.out hle hkp);have hroom:=hmid.out.room;have hWl:=hmid.out.len;have hb2:ws.heap.size≥w.heap.size+2:=hbox.2.2.2.2;by_cases hlt:i<n
    ·have hil:i<l.length:=by rw[HN.out];exact hlt
     have hk8:k+(zar t l).length+2<=10 ^ 15:=by
      have:=Nat.mul_le_mul (show i<=400 by omega) (show(zar t l).length+1<=160801 by rw[HLE.out];omega);rw[HLE.out]at hroom this ⊢
      omega
     obtain⟨N,hNe⟩:∃N,zal 119 (zar t l) k=N:=⟨_,rfl⟩;have hN1:k<=N/\N<=k+(zar t l).length:=by have:=zaw 119 (zar t l) k (by omega);omega
     have hab:(zar t l).length<=1000000:=by rw[HLE.out];omega
     have HCAT:Hid (∀j,j<=N->¬9223372036854775807<1+(dec j).length):=hidE λj hj=>by have:=zbK 20 20 j (by omega) (by omega);have h:(dec j).length<=20:=this;omega
     have hc0:=HCAT.out k hN1.1;have HNN:=hidE hNe;have HK8:=hidE hk8;have HAB:=hidE hab;have HN1:=hidE hN1;obtain⟨La,hLa⟩:∃La,(zar t l).length=La:=⟨_,rfl⟩;rw[hLa]at hN1 hk8
     clear hmid hown hbox hkp hroom hWl hab hNe;go_wp2_with fail
     refine(zbo k ws (by omega)).mono ?_;rintro e w3 ⟨rfl,b3⟩;have B3:=hidE b3;clear b3;go_wp2_with fail
     refine(zdu (.slice Aa na ca) (zar t l) 119 k w3 (HAVR.out.below B3.out) HAB.out).mono ?_;rintro e w4 ⟨rfl,rfl⟩;go_wp2_with fail
     go_loopg [8,10] (N-k) (λgg vk vi wt=>∃j:Nat,gg=N-j/\vk=.int .i64 (j:Nat)/\vi=.bool (decide (nm 119 j∈zar t l))/\k<=j/\j<=N/\Hid (zbm 119 (zar t l) ((zar t l).length+1-(j-k)) j=N)/\Hid (Below ws.heap.size ws wt))
     case atStart=>exact⟨k,rfl,rfl,rfl,Nat.le_refl _,hN1.1,hidE (by rw[Nat.sub_self];exact HNN.out),B3⟩
     case round =>
      rename World=>wt;obtain⟨j,rfl,rfl,rfl,hkj,hjN,hf,hb⟩:=hrel;by_cases hin:nm 119 j∈zar t l
      ·rw[decide_eq_true hin]
       have hne:j≠N:=λe=>by
        have:=(zaw 119 (zar t l) k (by have:=HK8.out;omega)).1;rw[HNN.out,<-e]at this
        exact this hin
       have hc1:=HCAT.out (j+1) (by omega);have hf2:=hidE (zeb 119 (zar t l) _ j _ hf.out (by omega) hin);clear hin;go_wp2_with fail
       refine(zbo (j+1) wt (by omega)).mono ?_;rintro e w5 ⟨rfl,b5⟩;have B5:=hidE (zac hb.out b5);clear b5;go_wp2_with fail
       refine(zdu (.slice Aa na ca) (zar t l) 119 (j+1) w5 (HAVR.out.below B5.out) HAB.out).mono ?_;rintro e w6 ⟨rfl,rfl⟩;go_wp2_with fail
       go_roundg (N-(j+1))
       case measure=>omega
       case rel =>
        refine⟨j+1,rfl,by go_num,rfl,by omega,by omega,hidE ?_,B5⟩;rw[show(zar t l).length+1-(j+1-k)=(zar t l).length+1-(j-k)-1 by omega]
        exact hf2.out
      ·rw[decide_eq_false hin]
       have hc1:=HCAT.out j hjN;have hNj:=zdz 119 (zar t l) _ j _ hf.out hin;subst hNj;clear hin hf;go_wp2_with fail
       refine(zbo N wt (by omega)).mono ?_;rintro e w3 ⟨rfl,b3⟩;have hb3:=zac hb.out b3;obtain⟨Y,hY⟩:∃Y:ByteArray,(({ data:=#[119] } : ByteArray)++{ data:=(dec N).toArray })=Y:=⟨_,rfl⟩;have hYN:(⟨(nm 119 N).toArray⟩:ByteArray)=Y:=by rw[<-hY];rfl
       have HYN:=hidE hYN;have hs3:=hb3.size;have HB3:=hidE hb3;have HOWN3:=hidE ((own_below HOWN.out hb3).alloc (.cells #[.string Y] 9));have HBX3:=hidE ((HBOX.out.below hb3).below ((Below.refl _ w3).alloc (Nat.le_refl _) (.cells #[.string Y] 9)));clear b3 hb hb3 hYN;go_upto_region 18 with(at_builtin;refine wpList_append_own_at _ rfl (.tmp 57) (.tmp 61) 22 rfl wr.heap.size 9 i0 _ 1 16 Tryz.underlying22 hi0 hz0 hz1 hz2 rfl (by decide) _ i (strV W) rfl HOWN3.out ⟨w3.heap.size,0,none⟩ 1 1 [.string Y] rfl rfl (zaK _ _ _ _ rfl) (by intro u hu;simp at hu;subst hu;rfl) (by unfold maxLen;omega) (by omega) (by simp;omega) ?_;intro v2 w5 hown3 hgrow _ hat3;obtain⟨A2,c2,rfl⟩:=zaz hown3;have HO5:=hidE hown3;have HG5:=hidE hgrow;have HT5:=hidE hat3;clear hown3 hgrow hat3)
       clear hY;have hs5:=HG5.out.size;simp at hs5;have HW5:=hidE (HBX3.out.grown hwa HOWN3.out HG5.out HT5.out);have HLT3:=hidE HOWN3.out.lt;have HLT5:=hidE HO5.out.lt;have HKP5:Hid (∀q,w.heap.size+2<=q->q<wr.heap.size->w5.heap[q]?=wr.heap[q]?):=hidE λq h1 h2 =>
        (HG5.out.block q (by simp;omega) (λe=>by have:=HLT3.out q e.symm;omega)).trans ((Below.heap_alloc _ _ _ (by omega)).trans ((HB3.out.block q (by omega)).trans (HKP.out q h1 h2)))
       obtain⟨gm,hgm⟩:∃gm,A2=some ⟨gm,0,none⟩:=by
        rcases HO5.out.2 with⟨_,h0⟩|⟨g,cap,cu,e,_⟩
        ·omega
        ·injection e with e;exact⟨g,e⟩
       subst hgm;obtain⟨hm1,hm2⟩:=HLT5.out gm rfl;have cm1:w5.cell? ⟨gm,i,none⟩=some (.string Y):=by
        have:=HO5.out.cells (g:=gm) rfl i (.string Y) (by rw[List.getElem?_append_right (by rw[zaJ,HMID.out.len];exact Nat.le_refl _),zaJ,HMID.out.len,Nat.sub_self];rfl);rwa [zaQ]at this
       obtain⟨gl,c',k5,x5,z5,a5,m5,p5,hv5,hg5,c0,-,-,-,-,-⟩:=HL.out.at i hil;injection hv5 with e1 e2 e3;subst e1;obtain⟨PX,hPX⟩:∃PX:ByteArray,(⟨l[i].1.toArray⟩:ByteArray)=PX:=⟨_,rfl⟩;have hbw5:=HW5.out.2.2.2.1;have q0:w5.cell? ⟨gl,i*5,none⟩=some (.string PX):=(hbw5.cell (p:=⟨gl,i*5,none⟩) hg5).trans (by rw[c0,hPX]);have hcs:=HMID.out.sz;have hcs4:cur.size<=400:=by have:=HT.out;omega
       have hbx5:=HW5.out;obtain⟨y0,y1,y2,y3,-,-,-,-,-⟩:=zaa hbx5.1;have F1:=hidE (λU (h:Below w5.heap.size w5 U)=>(zfg cur (.var (nm 119 N)) (λg=>g<w5.heap.size) (λ_=>False) PX _ _ U (by omega) (by rw[Ty.size];omega)
        (hbx5.2.1.keep (S':=λg=>g<w5.heap.size) (λg hg=>hg.1) (λg hg=>h.block g hg.1)) (λg hg=>Nat.lt_of_lt_of_le hg h.size) (zib (nm 119 N) Y HYN.out) (λ_ h=>h.elim)))
       have hput:raw (isPV PX.data.toList) (.var (nm 119 N)) (numb 121 (butA PX cur (.var (nm 119 N))) [] [] cur 0).1=putRf ⟨l[i].1.toArray⟩ cur (.var (nm 119 N)):=by rw[<-hPX];rfl
       rw[hput]at F1
       obtain⟨P,hP⟩:∃P,putRf ⟨l[i].1.toArray⟩ cur (.var (nm 119 N))=P:=⟨_,rfl⟩;rw[hP]at F1
       have HNEXT:Hid (MidI t l (i+1) (N+1) (W++[nm 119 N]) P):=hidE (by
        have:=HMID.out.next (P:=P) hil HT.out (by have:=HK8.out;omega) (by rw[HNN.out];exact hP.symm);rwa [HNN.out]at this)
       have B0:Hid (Below w5.heap.size w5 w5.drew):=hidE (Below.refl _ w5).drew;have J0:=hidE hbx5.1;have hlw5:=hbx5.1.lt;have hii:(i:Int)<(i:Int)+1:=by omega
       have hsz5:w.heap.size+2<=w5.heap.size:=hbx5.2.2.2.2;clear hput hP hPX e2 e3 c0 hcs hbx5 hil hm1 hm2 hbw5;go_region_law (go_simp;(with_reducible refine(F1.out _ B0.out).mono ?_);rintro e w9 ⟨b9,k9,x9,z9,a9,m9,p9,rfl,hr9⟩;have HR9:=hidE hr9;have B9:=hidE (zac B0.out b9);have hj0:=J0.out.below B9.out hlw5;obtain⟨v0,v1,v2,v3,v4,v5,v6,v7,v8⟩:=zaa hj0;clear b9 hr9 hj0)
       all_goals
        have hs9:=B9.out.size;go_wp2_with fail
        go_roundg (n-(i+1))
        case measure=>omega
        case rel =>
         refine⟨i+1,N+1,some ⟨gm,0,none⟩,c2,W++[nm 119 N],P,k9,x9,z9,a9,m9,p9,rfl,rfl,by go_num,by go_num,by omega,hidE HNEXT.out,?_,?_,by rw[za3];omega,λq h1 h2=>?_⟩
         ·rw[zet,HYN.out]
          exact zky (own_below HO5.out B9.out) (by omega) _ _ _ _
         ·refine HW5.out.set B9.out (λg hg=>by have:=HLT5.out g hg;omega) (HR9.out.keep (λg hg=>?_) (λ_ _=>rfl))
          rcases hg with hg|hg
          ·exact hg.elim
          ·exact .inr hg
         ·rw[zaj _ _ _ _ _ _ _ (by omega),B9.out.block q (by omega)]
          exact HKP5.out q h1 h2
    ·have hin:i=l.length:=by rw[HN.out];omega
     have hend:=hidE (MidI.done (cur:=cur) (k:=k) (W:=W) (by have:=hmid.out;rwa [hin]at this) HT.out);have HI2:Hid (i=n):=hidE (by rw[hin];exact HN.out);have HWL:Hid (W.length=n):=hidE (by rw[hWl,hin];exact HN.out);have HH:Hid (HeadTy t l n W (.slice Am i cm) w n (.int .i64 (0:Nat)) ws):=hidE ⟨0,cur,K,X,Z,A,m,p,rfl,rfl,Nat.zero_le _,hidE hend.out,hbox,RowV.of_own hown,λg hg=>by have:=hown.lt g hg;omega⟩;clear hmid hown hbox hkp hroom hWl hin HOWN HBOX HAVR;go_wp2_with fail
     go_loopg [11] n (λgg vi wt=>HeadTy t l n W (.slice Am i cm) w gg vi wt)
     case atStart=>exact HH.out
     case round =>
      rename World=>wt;obtain⟨j,cur,K,X,Z,A,m,p,rfl,rfl,hj,hendj,hbox,hrow,hob⟩:=hrel;have HEND:=hidE hendj.out;have HBOX:=hidE hbox;have HROW:=hidE hrow;have HOB:=hidE hob;have hszt:w.heap.size+2<=wt.heap.size:=hbox.2.2.2.2;obtain⟨y0,y1,y2,y3,y4,y5,y6,y7,hlt0⟩:=zaa hbox.1;obtain⟨z0,z1,z2,z3,z4,z5,z6,z7,-⟩:=zaa hbox.2.2.1;by_cases hjn:j<n
      ·have hjl:j<l.length:=by rw[HN.out];exact hjn
       have hjw:j<W.length:=by rw[HWL.out];exact hjn
       have hji:j<i:=by rw[HI2.out];exact hjn
       obtain⟨gl,c',k5,x5,z5',a5,m5,p5,hv5,hg5,c0,c1,c2,c3,c4,hrd⟩:=HL.out.at j hjl;injection hv5 with e1 e2 e3;subst e1;obtain⟨Ar,cr,hvr,hcr⟩:=hrow;rw[zaJ]at hcr
       injection hvr with f1 f2 f3;obtain⟨gm,hgm,hgmw,hcell⟩:=hcr (by omega);rw[hgm]at f1
       subst f1;have cm1:=hcell j _ (zcq W j hjw);obtain⟨PY,hPY⟩:∃PY:ByteArray,(⟨W[j].toArray⟩:ByteArray)=PY:=⟨_,rfl⟩;rw[hPY]at cm1
       have hbw5:=hbox.2.2.2.1;have d1:=(hbw5.cell (p:=⟨gl,j*5+1,none⟩) hg5).trans c1;have d2:=(hbw5.cell (p:=⟨gl,j*5+2,none⟩) hg5).trans c2;have d3:=(hbw5.cell (p:=⟨gl,j*5+3,none⟩) hg5).trans c3;have d4:=(hbw5.cell (p:=⟨gl,j*5+4,none⟩) hg5).trans c4;have hls:=HLS.out _ (List.getElem_mem hjl);have hcs:=hendj.out.sz;have F1:=hidE (λU (h:Below wt.heap.size wt U)=>(zfg cur l[j].2 (λg=>g<wt.heap.size) (λg=>g<w.heap.size) PY _ _ U (by omega) (by omega)
        (hbox.2.1.keep (S':=λg=>g<wt.heap.size) (λg hg=>hg.1) (λg hg=>h.block g hg.1)) (λg hg=>Nat.lt_of_lt_of_le hg h.size)
        (RdV.keep (S':=λg=>g<w.heap.size) hrd (λ_ h=>h) (λg hg=>(h.block g (by omega)).trans (hbw5.block g hg))) (λg hg=>by have:=h.size;omega)))
       have hput:raw (isPV PY.data.toList) l[j].2 (numb 121 (butA PY cur l[j].2) [] [] cur 0).1=putRf ⟨(W.getD j []).toArray⟩ cur l[j].2:=by rw[List.getD_eq_getElem?_getD,List.getElem?_eq_getElem hjw,<-hPY];rfl
       rw[hput]at F1
       obtain⟨P,hP⟩:∃P,putRf ⟨(W.getD j []).toArray⟩ cur l[j].2=P:=⟨_,rfl⟩;rw[hP]at F1
       have HNEXT:Hid (EndI t l W (j+1) P):=hidE (hendj.out.next hjl HT.out HLS.out hP.symm);have B0:Hid (Below wt.heap.size wt wt.drew):=hidE (Below.refl _ wt).drew;have J0:=hidE hbox.1;clear hput hP hPY e2 e3 c0 c1 c2 c3 c4 hrd f2 f3 hgm hcr hcell hbw5 hls hcs hendj hbox hob hjl hjw z0 z1 z2 z3 z4 z5 z6 z7 y4 y5 y6 y7;go_upto_region 23 with fail
       go_region_law (go_simp;(with_reducible refine(F1.out _ B0.out).mono ?_);rintro e w9 ⟨b9,k9,x9,z9,a9,m9,p9,rfl,hr9⟩;have HR9:=hidE hr9;have B9:=hidE (zac B0.out b9);have hj0:=J0.out.below B9.out hlt0;obtain⟨v0,v1,v2,v3,v4,v5,v6,v7,v8⟩:=zaa hj0;clear b9 hr9 hj0)
       all_goals
        have hs9:=B9.out.size;go_wp2_with fail
        go_roundg (n-(j+1))
        case measure=>omega
        case rel =>
         refine⟨j+1,P,k9,x9,z9,a9,m9,p9,rfl,by go_num,by omega,hidE HNEXT.out,?_,?_,λg hg=>by have:=HOB.out g hg;rw[za3];omega⟩
         ·refine HBOX.out.set B9.out HOB.out (HR9.out.keep (λg hg=>hg) (λ_ _=>rfl))
         ·obtain⟨Ar,cr,hvr,hcr⟩:=HROW.out
          refine⟨Ar,cr,hvr,λh0=>?_⟩;obtain⟨gq,hA,hg,hcc⟩:=hcr h0;have hge:w.heap.size+2<=gq:=by
           have h1:(Value.slice (some ⟨gm,0,none⟩) i cm).ownBlock=some gq:=by rw[hvr,hA];rfl
           exact(HOB.out gq h1).1
          exact⟨gq,hA,by rw[za3];omega,λq u hu=>by rw[World.cell?_of_block (w:=wt) ((zaj _ _ _ _ _ _ _ (by show gq≠_;omega)).trans (B9.out.block gq hg))];exact hcc q u hu⟩
      ·have hjl:j=l.length:=by rw[HN.out];omega
       have HEA:Hid (EndI t l W l.length cur):=hidE (by have:=hendj.out;rwa [hjl]at this);have HZ:=hidE hbox.2.2.1;clear hendj hbox hrow hob hjl;go_wp2_with fail
       try simp only[Exit.inBlock,Exit.then]
       refine bodyPost_ret (results_cell_row rfl _ _ (w.heap.size+1) 29 _ (0,0) _ rfl (zad (.int .i64 K) (.string X) (.int .i64 Z) (.slice A m p) HZ.out) Tryz.underlying29 rfl (by kernel_rfl)) rfl ?_;exact zoA HEA.out HBOX.out
end Go.Proofs.YtaomnlcplmkokaaGreatDoor
namespace Go.Proofs.YtaomnlcplmkokaaGreatDoor
open Go.RowKit Lx Tx Go.Maps Go.WideMaps Go.Shelf
set_option maxRecDepth 100000
theorem zsn(k:Nat)(h:k<10 ^ 15):Gd 1 (nm 122 k):=by
 have hl:(dec k).length<=15:=zbK 20 15 k h (by omega);have hd:∀d∈(122:UInt8)::dec k,inW d=true:=by
  intro d hd;rcases List.mem_cons.1 hd with rfl|hd
  ·decide
  ·simp[inW,zfF 20 k d hd]
 have hsp:=ze6 inW _ hd;refine⟨by simp[nm],?_,by omega⟩;unfold nm;rw[first,if_pos (by decide),word,hsp,if_neg (by simp;omega),List.take_length]
 have hk:wordKind (122::dec k)=1:=by
  unfold wordKind;rw[if_neg (by simp[keys]),if_neg (by simp only[List.headD_cons];decide)]
 rw[hk]
mutual
theorem zd7(but:List Name):(d:Dt)->∀ys k,NmD d->Clo ys.length d->(∀y∈ys,Gd 1 y)->k+(zai d+1)*(but.length+1)<10 ^ 15->Nm (zan 122 but ys d k).1
 |.fv x,ys,k,h,_,_,_=>by rw[zan];rw[NmD]at h;exact .var x h
 |.bv i,ys,k,_,hc,hy,_=>by
  rw[zan]
  rw[Clo]at hc
  exact .var _ (hy _ (zbT ys i hc))
 |.mt n,ys,k,h,_,_,_=>by rw[zan];rw[NmD]at h;exact .mt n h
 |.con c l,ys,k,h,hc,hy,hb=>by
  rw[zan]
  rw[NmD]at h
  rw[Clo]at hc
  rw[zai]at hb
  exact .con c _ h.1 (zi0 but l ys k h.2 hc hy hb)
 |.fn a b,ys,k,h,hc,hy,hb=>by
  rw[zan]
  rw[NmD]at h
  rw[Clo]at hc
  rw[zai]at hb
  have e:(zai a+zai b+1)*(but.length+1)=zai a*(but.length+1)+(zai b+1)*(but.length+1):=by rw[<-Nat.add_mul,Nat.add_assoc]
  have e3:(zai b+1)*(but.length+1)=zai b*(but.length+1)+(but.length+1):=by rw[Nat.add_mul,Nat.one_mul]
  have e4:(zai a+1)*(but.length+1)=zai a*(but.length+1)+(but.length+1):=by rw[Nat.add_mul,Nat.one_mul]
  obtain⟨a1,a2⟩:=zbz 122 but a ys k (by omega);exact .fn _ _ (zd7 but a ys k h.1 hc.1 hy (by omega)) (zd7 but b ys _ h.2 hc.2 hy (by omega))
 |.all t,ys,k,h,hc,hy,hb=>by
  rw[zan]
  rw[NmD]at h
  rw[Clo]at hc
  rw[zai]at hb
  have e4:(zai t+1+1)*(but.length+1)=zai t*(but.length+1)+(but.length+1)+(but.length+1):=by rw[Nat.add_mul,Nat.add_mul,Nat.one_mul]
  have e5:(zai t+1)*(but.length+1)=zai t*(but.length+1)+(but.length+1):=by rw[Nat.add_mul,Nat.one_mul]
  obtain⟨_,n1,n2⟩:=zaw 122 but k (by omega);have hg:=zsn (zal 122 but k) (by omega);refine .all _ _ hg (zd7 but t _ _ h hc (λy hy2=>?_) (by omega));rcases List.mem_cons.1 hy2 with rfl|hy2
  ·exact hg
  ·exact hy y hy2
theorem zi0(but:List Name):(l:List Dt)->∀ys k,NmDL l->CloL ys.length l->(∀y∈ys,Gd 1 y)->k+(zaF l+1)*(but.length+1)<10 ^ 15->∀t∈(zaC 122 but ys l k).1,Nm t
 |[],ys,k,_,_,_,_=>by rw[zaC];intro t ht;cases ht
 |t::r,ys,k,h,hc,hy,hb=>by
  rw[zaC]
  rw[NmDL]at h
  rw[CloL]at hc
  rw[zaF]at hb
  have e:(zai t+zaF r+1)*(but.length+1)=zai t*(but.length+1)+(zaF r+1)*(but.length+1):=by rw[<-Nat.add_mul,Nat.add_assoc]
  have e3:(zaF r+1)*(but.length+1)=zaF r*(but.length+1)+(but.length+1):=by rw[Nat.add_mul,Nat.one_mul]
  have e4:(zai t+1)*(but.length+1)=zai t*(but.length+1)+(but.length+1):=by rw[Nat.add_mul,Nat.one_mul]
  obtain⟨a1,a2⟩:=zbz 122 but t ys k (by omega);intro u hu;rcases List.mem_cons.1 hu with rfl|hu
  ·exact zd7 but t ys k h.1 hc.1 hy (by omega)
  ·exact zi0 but r ys _ h.2 hc.2 hy (by omega) u hu
end
theorem zoC(but:List Name)(t:Ty)(h:NmD (db [] t))(ht:t.size<=1000)(hb:but.length<=1000000):Nm (numb 122 but [] [] t 0).1:=by
 rw[zbY]
 have h1:=zbv [] t;have h2:=Nat.mul_le_mul (show zai (db [] t)+1<=1001 by omega) (show but.length+1<=1000001 by omega);exact zd7 but (db [] t) [] 0 h (zbI [] t) (λ_ h=>(List.not_mem_nil h).elim) (by omega)
mutual
theorem zeU(own:List Name)(B:Nat):(p:Ty)->∀(t:Ty)(out o:List (Name × Ty)),Nm t->t.size<=B->zdl B out->colT own p t out=some o->zdl B o
 |.var x,t,out,o,hn,hs,h,hc=>by
  rw[colT]at hc
  by_cases hx:x∈own
  ·rw[if_pos hx]at hc
   injection hc with hc;subst hc;split
   ·exact h
   ·intro e he
    rcases List.mem_append.1 he with he|he
    ·exact h e he
    ·rw[List.mem_singleton.1 he];exact⟨hn,hs⟩
  ·rw[if_neg hx]at hc
   split at hc
   ·injection hc with hc;subst hc;exact h
   ·cases hc
 |.mt n,t,out,o,hn,hs,h,hc=>by
  rw[colT]at hc
  split at hc
  ·injection hc with hc;subst hc;exact h
  ·cases hc
 |.con c l,t,out,o,hn,hs,h,hc=>by
  rw[colT]at hc
  split at hc
  ·exact zkB own B l (kids t) out o (zda hn hs) h hc
  ·cases hc
 |.fn a b,t,out,o,hn,hs,h,hc=>by
  have hk:=zda hn hs;rw[colT]at hc
  split at hc
  ·generalize kids t=L at hk hc
   rcases L with - |⟨u,- |⟨v,l⟩⟩
   ·cases hc
   ·cases hc
   ·have hc:(match colT own a u out with|some o=>colT own b v o|none=>none)=some o:=hc
    cases h1:colT own a u out with
    |none=>rw[h1]at hc;cases hc
    |some o1 =>
     rw[h1]at hc
     have k1:=hk u List.mem_cons_self;have k2:=hk v (List.mem_cons_of_mem _ List.mem_cons_self);exact zeU own B b v o1 o k2.1 k2.2 (zeU own B a u out o1 k1.1 k1.2 h h1) hc
  ·cases hc
 |.all x p,t,out,o,hn,hs,h,hc=>by
  have hk:=zda hn hs;rw[colT]at hc
  split at hc
  ·generalize kids t=L at hk hc
   rcases L with - |⟨u,l⟩
   ·cases hc
   ·exact zeU own B p u out o (hk u List.mem_cons_self).1 (hk u List.mem_cons_self).2 h hc
  ·cases hc
theorem zkB(own:List Name)(B:Nat):(p:List Ty)->∀(t:List Ty)(out o:List (Name × Ty)),(∀u∈t,Nm u/\u.size<=B)->zdl B out->colL own p t out=some o->zdl B o
 |[],t,out,o,hk,h,hc=>by rw[colL]at hc;injection hc with hc;subst hc;exact h
 |p::l,[],out,o,hk,h,hc=>by rw[colL]at hc;cases hc
 |p::l,u::m,out,o,hk,h,hc=>by
  rw[colL]at hc
  cases h1:colT own p u out with
  |none=>rw[h1]at hc;cases hc
  |some o1 =>
   rw[h1]at hc
   exact zkB own B l m o1 o (λv hv=>hk v (List.mem_cons_of_mem _ hv)) (zeU own B p u out o1 (hk u List.mem_cons_self).1 (hk u List.mem_cons_self).2 h h1) hc
end
mutual
theorem zeV(f:Name->Dt)(hf:∀x,Gd 1 x->NmD (f x)):(d:Dt)->NmD d->NmD (repD f .mt d)
 |.fv x,h=>by rw[NmD]at h;rw[repD];exact hf x h
 |.bv i,h=>by rw[repD,NmD];trivial
 |.mt n,h=>by rw[repD];exact h
 |.con c l,h=>by rw[NmD]at h;rw[repD,NmD];exact⟨h.1,zkC f hf l h.2⟩
 |.fn a b,h=>by rw[NmD]at h;rw[repD,NmD];exact⟨zeV f hf a h.1,zeV f hf b h.2⟩
 |.all t,h=>by rw[NmD]at h;rw[repD,NmD];exact zeV f hf t h
theorem zkC(f:Name->Dt)(hf:∀x,Gd 1 x->NmD (f x)):(l:List Dt)->NmDL l->NmDL (zax f .mt l)
 |[],h=>by rw[zax,NmDL];trivial
 |t::r,h=>by rw[NmDL]at h;rw[zax,NmDL];exact⟨zeV f hf t h.1,zkC f hf r h.2⟩
end
theorem zrI(l:List (Name × Ty))(h:∀e∈l,Nm e.2)(x:Name)(hx:Gd 1 x):NmD (sig l x):=by
 unfold sig;cases hl:look x l with
 |none=>show NmD (.fv x);rw[NmD];exact hx
 |some u=>exact zc0 [] u (h _ (zbF x u l hl))
theorem zfi(t:Ty)(h:NmD (db [] t))(hs:t.size<=1000000):Nm t.canonT:=by
 rw[zci]
 exact zeC _ h (zbI [] t) (zdk t hs)
theorem zm0(t u:Ty)(ht:NmD (db [] t))(hu:NmD (db [] u))(hs:t.size<=1000000)(hsu:u.size<=1000000):t.canonT.print=u.canonT.print↔db [] t=db [] u:=by
 rw[zci,zci]
 constructor
 ·intro h
  have e:=zpq _ _ (zeC _ ht (zbI [] t) (zdk t hs)) (zeC _ hu (zbI [] u) (zdk u hsu)) h;rw[<-zjr _ (zbI [] t) (zdk t hs),e,zjr _ (zbI [] u) (zdk u hsu)]
 ·intro h;rw[h]
theorem zrJ(t u:Ty)(v uv:Value)(w:World)(hv:RdN w t v)(hu:RdN w u uv)(ht:NmD (db [] t))(hnu:NmD (db [] u))(hs:t.size<=1000000)(hsu:u.size<=1000000):Calls Tryz.prog 36 #[v,uv] w λe w'=>(∃q,e=.returned (.bool q)/\(q=true↔db [] t=db [] u))/\Below w.heap.size w w':=by
 obtain⟨K,X,Z,A,m,c,rfl,-,-,-,-,-⟩:=hv.parts;obtain⟨K2,X2,Z2,A2,m2,c2,rfl,-,-,-,-,-⟩:=hu.parts;obtain⟨W0,hW⟩:∃W,(w.alloc (.cells #[.int .i64 K,.string X,.int .i64 Z,.slice A m c] 29)).alloc (.cells #[.int .i64 K2,.string X2,.int .i64 Z2,.slice A2 m2 c2] 29)=W:=⟨_,rfl⟩;have k1:Blk W0 w.heap.size 29 #[.int .i64 K,.string X,.int .i64 Z,.slice A m c]:=hW▸zae _ _ _ _ (heap_alloc_new _ _);have k2:Blk W0 (w.heap.size+1) 29 #[.int .i64 K2,.string X2,.int .i64 Z2,.slice A2 m2 c2]:=hW▸alloc_at _ _ _ (by simp);have kb:Below w.heap.size w W0:=hW▸(((Below.refl _ w).alloc (Nat.le_refl _) _).alloc (by simp) _);have C1:=hidE (zdL t _ _ W0 hs (zfi t ht hs) (RdN.below hv kb) (λg hg=>hg));have C2:=hidE (λW (h:Below W0.heap.size W0 W)=>zdL u _ _ W hsu (zfi u hnu hsu) (RdN.below (RdN.below hu kb) h) (λg hg=>hg));obtain⟨R,hR⟩:∃R,(t.canonT.print==u.canonT.print)=R:=⟨_,rfl⟩;have hci:=zm0 t u ht hnu hs hsu;obtain⟨PA,hPA⟩:∃PA:ByteArray,(⟨t.canonT.print.toArray⟩:ByteArray)=PA:=⟨_,rfl⟩;obtain⟨PB,hPB⟩:∃PB:ByteArray,(⟨u.canonT.print.toArray⟩:ByteArray)=PB:=⟨_,rfl⟩;have dq:(PA.toList==PB.toList)=R:=by
  rw[<-hPA,<-hPB,Lib.toList_data,Lib.toList_data,<-hR]
 have HR:Hid (R=true↔db [] t=db [] u):=hidE (by rw[<-hR,beq_iff_eq];exact hci);rw[hPA]at C1
 rw[hPB]at C2
 have K1:=hidE k1;have K2':=hidE k2;have KB:=hidE kb;obtain⟨x0,x1,x2,x3,-,-,-,-,hl1⟩:=zaa k1;have hl2:=k2.lt;clear k1 k2 kb hv hu ht hnu hci hPA hPB hR;go_enter Tryz.func36,Tryz.ntmps36
 go_upto_region 1 with fail
 try rw[hW]
 clear hW;go_wp2_with fail
 refine C1.out.mono ?_;rintro e w1 ⟨rfl,b1⟩;obtain⟨y0,y1,y2,y3,-,-,-,-,-⟩:=zaa (K2'.out.below b1 hl2);have B1:=hidE b1;clear b1 x0 x1 x2 x3 C1;go_wp2_with fail
 refine(C2.out _ B1.out).mono ?_;rintro e w2 ⟨rfl,b2⟩;have B2:=hidE (zac B1.out b2);clear b2 y0 y1 y2 y3 C2;cases R
 all_goals
  go_wp2_with fail
  go_ret
  exact⟨⟨_,rfl,by first|exact HR.out|simpa using HR.out⟩,zac KB.out B2.out⟩
end Go.Proofs.YtaomnlcplmkokaaGreatDoor
namespace Go.Proofs.YtaomnlcplmkokaaGreatDoor
open Go.RowKit Lx Tx Go.Maps Go.WideMaps Go.Shelf
set_option maxRecDepth 100000
def RMPst(vars:List Name)(p t:Ty)(w:World)(e:Ending)(w':World):Prop :=
 Below w.heap.size w w'/\∃v q,e=.returned (.tuple #[v,.bool q])/\(q=false->(∀l,¬zbU vars p t l)/\v=.slice none 0 0)/\(q=true->∃l,zbU vars p t l/\RowB w' v l/\zdl 400 l)
def HeadOw(vars fr:List Name)(nf:Nat)(W1:World)(gg:Nat)(vo vi:Value)(wr:World):Prop :=
 ∃(i n:Nat) (Ao:Option Addr) (co:Nat),gg=nf-i/\vo=.slice Ao n co/\vi=.int .i64 (i:Nat)/\i<=nf/\Hid (((fr.take i).filter λx=>decide (x∈vars)).length=n)/\n<=i/\wr.ownsRow W1.heap.size 9 1 (.slice Ao n co) n (strV ((fr.take i).filter λx=>decide (x∈vars)))/\Below W1.heap.size W1 wr
def HeadGd(t:Ty)(l:List (Name × Ty))(n:Nat)(W1:World)(gg:Nat)(vi:Value)(wr:World):Prop :=
 ∃i:Nat,gg=n-i/\vi=.int .i64 (i:Nat)/\i<=n/\Hid (∀e∈l.take i,e.2.poly=false/\∀z∈e.2.free,z∈t.free)/\Below W1.heap.size W1 wr
def HeadNm(t:Ty)(ns:List Name)(n:Nat)(W1:World)(gg:Nat)(vi:Value)(wr:World):Prop :=
 ∃i:Nat,gg=n-i/\vi=.int .i64 (i:Nat)/\i<=n/\Hid (∀z∈ns.take i,z∈t.free)/\Below W1.heap.size W1 wr
theorem RowV.shape {w:World} {v:Value} {l:List Value}(h:RowV w v l):∃A n c,v=.slice A n c:=by
 obtain⟨A,c,h,_⟩:=h;exact⟨A,_,c,h⟩
theorem RowV.nth {w:World} {l:List Name} {A:Option Addr} {n c:Nat}(h:RowV w (.slice A n c) (strV l))(i:Nat)(hi:i<l.length):∃g,A=some ⟨g,0,none⟩/\g<w.heap.size/\w.cell? ⟨g,i,none⟩=some (.string ⟨l[i].toArray⟩):=by
 obtain⟨A',c',hv,hc⟩:=h;injection hv with e1 e2 e3;subst e1;rw[zaJ]at hc
 obtain⟨g,hA,hg,hcc⟩:=hc (by omega);exact⟨g,hA,hg,hcc i _ (zcq l i hi)⟩
theorem zlo(vars fr:List Name)(i:Nat)(hi:i<fr.length):(fr.take (i+1)).filter (λx=>decide (x∈vars))=(fr.take i).filter (λx=>decide (x∈vars))++(if fr[i]∈vars then[fr[i]] else[]):=by
 rw[List.take_succ_eq_append_getElem hi,List.filter_append]
 congr 1
 by_cases h:fr[i]∈vars
 ·rw[if_pos h];simp[h]
 ·rw[if_neg h];simp[h]
theorem zg5(vars:List Name)(p t:Ty)(hv:vars.length<=500)(hp:p.size<=400)(ht:t.size<=400):(butM vars p t).length<=1300:=by
 have h1:=zaU p;have h2:=zaU t;unfold butM;simp only[List.length_append];omega
theorem zm1 {vars:List Name} {p t:Ty}(h:colT (ownN vars p) (numb 122 (butM vars p t) [] [] p 0).1 (numb 122 (butM vars p t) [] [] t 0).1 []=none)(l:List (Name × Ty)):¬zbU vars p t l:=λhr=>by rw[hr.1]at h;cases h
theorem zoD {vars:List Name} {p t:Ty} {l:List (Name × Ty)}(h:colT (ownN vars p) (numb 122 (butM vars p t) [] [] p 0).1 (numb 122 (butM vars p t) [] [] t 0).1 []=some l) {e:Name × Ty}(he:e∈l)(hb:¬(e.2.poly=false/\∀z∈e.2.free,z∈t.free))(l':List (Name × Ty)):¬zbU vars p t l':=λhr=>by
 have h2:=hr.1;rw[h]at h2
 injection h2 with h2;subst h2;exact hb (hr.2.1 e he)
theorem zlp {vars:List Name} {p t:Ty} {l:List (Name × Ty)}(h:colT (ownN vars p) (numb 122 (butM vars p t) [] [] p 0).1 (numb 122 (butM vars p t) [] [] t 0).1 []=some l)(hb:¬repD (sig l) .mt (db [] p)=db [] t)(l':List (Name × Ty)):¬zbU vars p t l':=λhr=>by
 have h2:=hr.1;rw[h]at h2
 injection h2 with h2;subst h2;exact hb hr.2.2
set_option maxRecDepth 2000 in
theorem zkD(p t:Ty)(vars:List Name)(vp vt vv:Value)(w:World)(hp:RdN w p vp)(ht:RdN w t vt)(hvs:RowA w vv (strV vars))(hnp:NmD (db [] p))(hnt:NmD (db [] t))(hps:p.size<=400)(hts:t.size<=400)(hvl:vars.length<=500):Calls Tryz.prog 12 #[vp,vt,vv] w (RMPst vars p t w):=by
 obtain⟨K,X,Z,A,m,c,rfl,-,-,-,-,-⟩:=hp.parts;obtain⟨K2,X2,Z2,A2,m2,c2,rfl,-,-,-,-,-⟩:=ht.parts;obtain⟨W0,hW⟩:∃W,(w.alloc (.cells #[.int .i64 K,.string X,.int .i64 Z,.slice A m c] 29)).alloc (.cells #[.int .i64 K2,.string X2,.int .i64 Z2,.slice A2 m2 c2] 29)=W:=⟨_,rfl⟩;have k1:Blk W0 w.heap.size 29 #[.int .i64 K,.string X,.int .i64 Z,.slice A m c]:=hW▸zae _ _ _ _ (heap_alloc_new _ _);have k2:Blk W0 (w.heap.size+1) 29 #[.int .i64 K2,.string X2,.int .i64 Z2,.slice A2 m2 c2]:=hW▸alloc_at _ _ _ (by simp);have kb:Below w.heap.size w W0:=hW▸(((Below.refl _ w).alloc (Nat.le_refl _) _).alloc (by simp) _);have hp0:=RdN.below hp kb;have ht0:=RdN.below ht kb;have F1:=hidE (λW (h:Below W0.heap.size W0 W)=>zbs p _ _ W (by omega) (RdN.below hp0 h) (λg hg=>hg));have F2:=hidE (λW (h:Below W0.heap.size W0 W)=>zbs t _ _ W (by omega) (RdN.below ht0 h) (λg hg=>hg));have HVS:=hidE (hvs.below kb);have hfp:p.free.length<=400:=by have:=zaU p;omega
 have hft:t.free.length<=400:=by have:=zaU t;omega
 have hbl:=zg5 vars p t hvl hps hts;have HROW:Hid ((strV vars++strV p.free)++strV t.free=strV (butM vars p t)):=hidE (by rw[zd4,zd4];rfl);have hl1:=k1.lt;have hl2:=k2.lt;have SOF:Hid (∀W,Below W0.heap.size W0 W->(λW:World=>W.cell? ⟨w.heap.size,0,none⟩=some (.int .i64 K)/\W.cell? ⟨w.heap.size,1,none⟩=some (.string X)/\W.cell? ⟨w.heap.size,2,none⟩=some (.int .i64 Z)/\W.cell? ⟨w.heap.size,3,none⟩=some (.slice A m c)/\W.cell? ⟨w.heap.size+1,0,none⟩=some (.int .i64 K2)/\W.cell? ⟨w.heap.size+1,1,none⟩=some (.string X2)/\W.cell? ⟨w.heap.size+1,2,none⟩=some (.int .i64 Z2)/\W.cell? ⟨w.heap.size+1,3,none⟩=some (.slice A2 m2 c2)) W) :=
  hidE λW h=>by
   obtain⟨a0,a1,a2,a3,-,-,-,-,-⟩:=zaa (k1.below h hl1);obtain⟨b0,b1,b2,b3,-,-,-,-,-⟩:=zaa (k2.below h hl2);exact⟨a0,a1,a2,a3,b0,b1,b2,b3⟩
 obtain⟨nv,hnv⟩:∃nv,vars.length=nv:=⟨_,rfl⟩;obtain⟨np,hnp'⟩:∃np,p.free.length=np:=⟨_,rfl⟩;obtain⟨nt,hnt'⟩:∃nt,t.free.length=nt:=⟨_,rfl⟩;have HNV:=hidE hnv;have HNP:=hidE hnp';have HNT:=hidE hnt';have hvl':nv<=500:=by omega
 have hfp':np<=400:=by omega
 have hft':nt<=400:=by omega
 obtain⟨i0,hi0,hz0,hz1,hz2⟩:=info_parts zbi;have KB:=hidE kb;have HP0:=hidE hp0;have HT0:=hidE ht0;have HNMP:=hidE hnp;have HNMT:=hidE hnt;have HPS:=hidE hps;have HTS:=hidE hts;have HBL:=hidE hbl;clear k1 k2 kb hp ht hvs hnp hnt hp0 ht0 hnv hnp' hnt' hfp hft hvl hps hts hbl;go_enter Tryz.func12,Tryz.ntmps12
 go_upto_region 1 with fail
 try rw[hW]
 clear hW;go_cut [8] from 25 to 33 (λs8 wx=>Hid (RowV wx s8 (strV (butM vars p t))/\Below W0.heap.size W0 wx))
 case first =>
  go_region_held3 (λW:World=>W.cell? ⟨w.heap.size,0,none⟩=some (.int .i64 K)/\W.cell? ⟨w.heap.size,1,none⟩=some (.string X)/\W.cell? ⟨w.heap.size,2,none⟩=some (.int .i64 Z)/\W.cell? ⟨w.heap.size,3,none⟩=some (.slice A m c)/\W.cell? ⟨w.heap.size+1,0,none⟩=some (.int .i64 K2)/\W.cell? ⟨w.heap.size+1,1,none⟩=some (.string X2)/\W.cell? ⟨w.heap.size+1,2,none⟩=some (.int .i64 Z2)/\W.cell? ⟨w.heap.size+1,3,none⟩=some (.slice A2 m2 c2))
   (first|(with_reducible exact SOF.out _ B5.out)|(with_reducible exact SOF.out _ B4.out)|(with_reducible exact SOF.out _ B3.out)|(with_reducible exact SOF.out _ B2.out)|(with_reducible exact SOF.out _ B1.out)|(refine SOF.out _ ?_;repeat first|exact Below.refl _ _|(refine Below.alloc ?_ (by first|omega|(simp;done)|(simp;omega)) _)|(refine Below.drew ?_)))
   ((first
    |((with_reducible refine(F2.out _ B3.out).mono ?_);rintro e w4 ⟨v4,rfl,hr4,b4⟩;have R4:=hidE hr4.1.toA;have O4:=hidE (own_below O3.out b4);have B4:=hidE (zac B3.out b4);clear hr4 b4)
    |((with_reducible refine(F1.out _ B1.out).mono ?_);rintro e w2 ⟨v2,rfl,hr2,b2⟩;have R2:=hidE hr2.1.toA;have O2:=hidE (own_below O1.out b2);have B2:=hidE (zac B1.out b2);clear hr2 b2)
    |(refine zbp (by rfl) _ _ _ (by rfl) W0.heap.size 9 i0 _ Tryz.underlying22 hi0 hz0 hz1 hz2 rfl _ _ (nv+np) _ t.free (by rfl) (by rfl) O4.out R4.out (by rw[HNT.out];omega) B4.out.size ?_;intro A5 c5 w5 ho5 hb5;rw[HNT.out]at ho5;simp only[HNT.out];have O5:=hidE ho5;have B5:=hidE (B4.out.trans hb5);clear ho5 hb5)
    |(refine zbp (by rfl) _ _ _ (by rfl) W0.heap.size 9 i0 _ Tryz.underlying22 hi0 hz0 hz1 hz2 rfl _ _ nv _ p.free (by rfl) (by rfl) O2.out R2.out (by rw[HNP.out];omega) B2.out.size ?_;intro A3 c3 w3 ho3 hb3;rw[HNP.out]at ho3;simp only[HNP.out];have O3:=hidE ho3;have B3:=hidE (B2.out.trans hb3);clear ho3 hb3)
    |(refine zbp (by rfl) _ _ _ (by rfl) W0.heap.size 9 i0 _ Tryz.underlying22 hi0 hz0 hz1 hz2 rfl _ _ 0 [] vars (by rfl) (by rfl) (zba (by first|exact alloc_at _ _ _ (by simp)|exact zae _ _ _ _ (alloc_at _ _ _ (by simp))) (by first|omega|(simp;done)|(simp;omega))) (HVS.out.below (by repeat first|exact Below.refl _ _|(refine Below.alloc ?_ (by first|omega|(simp;done)|(simp;omega)) _)|(refine Below.drew ?_))) (by rw[HNV.out];omega) (by first|omega|(simp;done)|(simp;omega)) ?_;intro A1 c1 w1 ho1 hb1;rw[HNV.out,Nat.zero_add,List.nil_append]at ho1;simp only[HNV.out,Nat.zero_add];have O1:=hidE ho1;have B1:Hid (Below W0.heap.size W0 w1):=hidE (Below.trans (by repeat first|exact Below.refl _ _|(refine Below.alloc ?_ (by first|omega|(simp;done)|(simp;omega)) _)|(refine Below.drew ?_)) hb1);clear ho1 hb1)))
  all_goals
   go_wp2_with fail
   go_meet
   case rel=>exact hidE ⟨by rw[<-HROW.out];exact RowV.of_own O5.out,B5.out⟩
 case rest =>
  rename World=>V0;obtain⟨hbut,hbv⟩:=hcut.out;obtain⟨Ab,nb,cb,hsh⟩:=hbut.shape;subst hsh;obtain⟨x0,x1,x2,x3,x4,x5,x6,x7⟩:=SOF.out _ hbv;have HBUT:=hidE hbut;have HBV:=hidE hbv;clear hbut hbv hcut;go_wp2_with fail
  refine(F1.out _ HBV.out).mono ?_;rintro e w2 ⟨vf,rfl,hrf,b2⟩;have HB2:=hidE (zac HBV.out b2);have HBUT2:=hidE (HBUT.out.below b2);have hrv:=hrf.1;obtain⟨Af,cf,hvf,-⟩:=hrf.1;rw[zaJ,HNP.out]at hvf
  subst hvf;have HRF:=hidE hrv;clear hrf hrv b2 x0 x1 x2 x3 x4 x5 x6 x7;go_wp2_with fail
  go_loopg [10,11] np (λgg vo vi wr=>HeadOw vars p.free np w2 gg vo vi wr)
  case atStart=>exact⟨0,0,none,0,rfl,rfl,rfl,Nat.zero_le _,hidE (by rw[List.take_zero];rfl),Nat.zero_le _,by rw[List.take_zero];exact World.ownsRow_nil _ _ _ _,Below.refl _ _⟩
  case round =>
   obtain⟨i,n,Ao,co,rfl,rfl,rfl,hi,hln,hni,hown,hbw⟩:=hrel;have HOWN:=hidE hown;have HBW:=hidE hbw;have HLN:=hidE hln.out;by_cases hlt:i<np
   ·have hil:i<p.free.length:=by rw[HNP.out];exact hlt
    obtain⟨g,rfl,hg,hc⟩:=HRF.out.nth i hil;have hft:=zlo vars p.free i hil;obtain⟨PX,hPX⟩:∃PX:ByteArray,(⟨p.free[i].toArray⟩:ByteArray)=PX:=⟨_,rfl⟩;have hPXl:PX.data.toList=p.free[i]:=by rw[<-hPX]
    have C0:Hid (∀W,Below w2.heap.size w2 W->W.cell? ⟨g,i,none⟩=some (.string PX)):=hidE λW h=>(h.cell (p:=⟨g,i,none⟩) hg).trans (by rw[hc,hPX]);have hh:=zow vv vars PX wr (HVS.out.below (zac HB2.out hbw)) (by rw[HNV.out];omega);obtain⟨F,hF⟩:∃F,p.free[i]=F:=⟨_,rfl⟩;rw[hPXl,hF]at hh
    rw[hF]at hft hPXl
    have HFT:Hid ((p.free.take (i+1)).filter (λx=>decide (x∈vars))=(p.free.take i).filter (λx=>decide (x∈vars))++(if F∈vars then[PX.data.toList] else[])):=hidE (by rw[hft,hPXl]);obtain⟨q,hq⟩:∃q,decide (F∈vars)=q:=⟨_,rfl⟩;rw[hq]at hh
    have HQ:=hidE hq;have hc0:=C0.out wr hbw;have HH:=hidE hh;clear hc hft hPX hPXl hF hh hq hown hbw hln hil;go_wp2_with fail
    refine HH.out.mono ?_;rintro e w3 ⟨rfl,rfl⟩;cases q with
    |false =>
     have HF2:Hid ((p.free.take (i+1)).filter (λx=>decide (x∈vars))=(p.free.take i).filter (λx=>decide (x∈vars))):=hidE (by rw[HFT.out,if_neg (of_decide_eq_false HQ.out),List.append_nil]);clear HH;go_wp2_with fail
     go_roundg (np-(i+1))
     case measure=>omega
     case rel=>exact⟨i+1,n,Ao,co,rfl,rfl,by go_num,by omega,hidE (by rw[HF2.out];exact HLN.out),by omega,by rw[HF2.out];exact HOWN.out,HBW.out⟩
    |true =>
     have HF2:Hid ((p.free.take (i+1)).filter (λx=>decide (x∈vars))=(p.free.take i).filter (λx=>decide (x∈vars))++[PX.data.toList]):=hidE (by rw[HFT.out,if_pos (of_decide_eq_true HQ.out)]);have HOWN2:=hidE (HOWN.out.alloc (.cells #[.string PX] 9));have hsw:=HBW.out.size;clear HH;go_wp2_with (at_builtin;refine wpList_append_own_at _ rfl (.tmp 49) (.tmp 54) 22 rfl w2.heap.size 9 i0 _ 1 16 Tryz.underlying22 hi0 hz0 hz1 hz2 rfl (by decide) _ n _ rfl HOWN2.out ⟨wr.heap.size,0,none⟩ 1 1 [.string PX] rfl rfl (zaK _ _ _ _ rfl) (by intro u hu;simp at hu;subst hu;rfl) (by unfold maxLen;omega) (by omega) (by simp;omega) ?_;intro v2 w5 hown3 hgrow _ _;obtain⟨A2,c2,rfl⟩:=zaz hown3;have HO3:=hidE hown3;have HG3:=hidE hgrow;clear hown3 hgrow)
     go_roundg (np-(i+1))
     case measure=>omega
     case rel =>
      refine⟨i+1,n+1,A2,c2,rfl,rfl,by go_num,by omega,hidE (by rw[HF2.out,List.length_append,HLN.out];rfl),by omega,?_,((HBW.out.alloc (by omega) _).grown HG3.out (by simp;omega) (λj hj=>by have:=HOWN.out.lt j hj;omega))⟩;rw[HF2.out,zet]
      exact HO3.out
   ·have hin:i=p.free.length:=by rw[HNP.out];omega
    have HOW:Hid (RowV wr (.slice Ao n co) (strV (ownN vars p))):=hidE (by have:=RowV.of_own hown;rwa [hin,List.take_length]at this);have hol:(ownN vars p).length<=400:=by
     have:=hln.out;rw[hin,List.take_length]at this
     show(p.free.filter λx=>decide (x∈vars)).length<=400;omega
    have HOL:=hidE hol;have hbw0:=zac HB2.out hbw;have HB0:=hidE hbw0;have R1:=hidE (zou 400 (by omega) p _ (.slice Ab nb cb) (butM vars p t) 0 wr HPS.out (RdN.below HP0.out hbw0) (HBUT2.out.below hbw) (by have:=HBL.out;omega) (by have:=Nat.mul_le_mul HPS.out (show(butM vars p t).length+2<=1302 by have:=HBL.out;omega);omega));have hnr:=zoC (butM vars p t) p HNMP.out (by have:=HPS.out;omega) (by have:=HBL.out;omega);have hnr2:=zoC (butM vars p t) t HNMT.out (by have:=HTS.out;omega) (by have:=HBL.out;omega);have hsr:(numb 122 (butM vars p t) [] [] p 0).1.size<=400:=by rw[zbP];exact HPS.out
    have hsr2:(numb 122 (butM vars p t) [] [] t 0).1.size<=400:=by rw[zbP];exact HTS.out
    obtain⟨x0,x1,x2,x3,x4,x5,x6,x7⟩:=SOF.out _ hbw0;have HOKN:=hidE (λh l=>zm1 (vars:=vars) (p:=p) (t:=t) h l);have HOKB:=hidE (λl h e he hb l'=>zoD (vars:=vars) (p:=p) (t:=t) (l:=l) h (e:=e) he hb l');have HOKA:=hidE (λl h hb l'=>zlp (vars:=vars) (p:=p) (t:=t) (l:=l) h hb l');have HOKY:Hid (∀l,colT (ownN vars p) (numb 122 (butM vars p t) [] [] p 0).1 (numb 122 (butM vars p t) [] [] t 0).1 []=some l->(∀e∈l,e.2.poly=false/\∀z∈e.2.free,z∈t.free)->repD (sig l) .mt (db [] p)=db [] t->zbU vars p t l):=hidE λl h1 h2 h3=>⟨h1,h2,h3⟩;have R2:=hidE (λW (h:Below wr.heap.size wr W)=>zou 400 (by omega) t _ (.slice Ab nb cb) (butM vars p t) 0 W HTS.out (RdN.below HT0.out (zac hbw0 h)) ((HBUT2.out.below hbw).below h) (by have:=HBL.out;omega) (by have:=Nat.mul_le_mul HTS.out (show(butM vars p t).length+2<=1302 by have:=HBL.out;omega);omega));obtain⟨Q1,hQ1⟩:∃Q,numb 122 (butM vars p t) [] [] p 0=Q:=⟨_,rfl⟩;obtain⟨Q2,hQ2⟩:∃Q,numb 122 (butM vars p t) [] [] t 0=Q:=⟨_,rfl⟩;rw[hQ1]at R1 hnr hsr HOKN HOKB HOKA HOKY
    rw[hQ2]at R2 hnr2 hsr2 HOKN HOKB HOKA HOKY
    have HNR2:=hidE hnr2;have HSR:=hidE hsr;have HSR2:=hidE hsr2;clear hnr hnr2 hsr hsr2 hQ1 hQ2 hol hin hown hbw hln hbw0 HOWN HLN;go_wp2_with fail
    refine R1.out.mono ?_;rintro e w4 ⟨b4,K4,X4,Z4,A4,m4,c4,rfl,hr4⟩;obtain⟨V4,hV4⟩:∃V,w4.alloc (.cells #[.int .i64 K4,.string X4,.int .i64 Z4,.slice A4 m4 c4] 29)=V:=⟨_,rfl⟩;have hx4:Blk V4 w4.heap.size 29 #[.int .i64 K4,.string X4,.int .i64 Z4,.slice A4 m4 c4]:=hV4▸heap_alloc_new _ _;have hb4:Below wr.heap.size wr V4:=hV4▸b4.alloc b4.size _;have hr4':RdN V4 Q1.1 (.agg #[.int .i64 K4,.string X4,.int .i64 Z4,.slice A4 m4 c4]):=hV4▸RdV.keep hr4 (λg hg=>by simp;omega) (λg hg=>Below.heap_alloc _ _ _ (by omega));have HX4:=hidE hx4;have HB4:=hidE hb4;have HR4:=hidE hr4';have HV4:=hidE hV4;have HB40:=hidE (zac HB0.out hb4);clear b4 hr4 hV4 hx4 hb4 hr4' R1 x0 x1 x2 x3 x4 x5 x6 x7;go_upto_region 11 with fail
    rw[HV4.out]
    clear HV4;obtain⟨x0,x1,x2,x3,x4,x5,x6,x7⟩:=SOF.out _ HB40.out;go_wp2_with fail
    refine(R2.out _ HB4.out).mono ?_;rintro e w5 ⟨b5,K5,X5,Z5,A5,m5,c5,rfl,hr5⟩;obtain⟨V5,hV5⟩:∃V,w5.alloc (.cells #[.int .i64 K5,.string X5,.int .i64 Z5,.slice A5 m5 c5] 29)=V:=⟨_,rfl⟩;have hx5:Blk V5 w5.heap.size 29 #[.int .i64 K5,.string X5,.int .i64 Z5,.slice A5 m5 c5]:=hV5▸heap_alloc_new _ _;have hb5:Below V4.heap.size V4 V5:=hV5▸b5.alloc b5.size _;have hr5':RdN V5 Q2.1 (.agg #[.int .i64 K5,.string X5,.int .i64 Z5,.slice A5 m5 c5]):=hV5▸RdV.keep hr5 (λg hg=>by simp;omega) (λg hg=>Below.heap_alloc _ _ _ (by omega));have HR45:=hidE (RdN.below HR4.out hb5);have hx45:=HX4.out.below hb5 HX4.out.lt;have HB50:=hidE (zac HB40.out hb5);have HOW5:=hidE ((HOW.out.below HB4.out).below hb5);have HR5:=hidE hr5';have HV5:=hidE hV5;obtain⟨y0,y1,y2,y3,-,-,-,-,-⟩:=zaa hx45;obtain⟨z0,z1,z2,z3,-,-,-,-,-⟩:=zaa hx5;have HCO:=hidE (zsl 400 Q1.1 Q2.1 _ _ (.slice Ao n co) (.slice none 0 0) (ownN vars p) [] V5 HSR.out HR45.out HR5.out HOW5.out (by have:=HOL.out;omega) (RowB.nil V5) (by have:=HSR.out;simp;omega));clear b5 hr5 hV5 hx5 hb5 hr5' hx45 R2 x0 x1 x2 x3 x4 x5 x6 x7;go_upto_region 12 with fail
    rw[HV5.out]
    clear HV5;go_wp2_with fail
    refine HCO.out.mono ?_;rintro e w6 ⟨b6,v6,q6,rfl,hno6,hyes6⟩;have HB60:=hidE (zac HB50.out b6);have HNO6:=hidE hno6;have HYES6:=hidE hyes6;clear b6 hno6 hyes6 HCO y0 y1 y2 y3 z0 z1 z2 z3;cases q6 with
    |false =>
     obtain⟨hn6,rfl⟩:=HNO6.out rfl;have HN6:=hidE hn6;clear hn6 HNO6 HYES6;go_wp2_with fail
     go_ret2
     exact⟨zac KB.out HB60.out,.slice none 0 0,false,rfl,λ_=>⟨HOKN.out HN6.out,rfl⟩,(λh=>by cases h)⟩
    |true =>
     obtain⟨l,hl6,hrow6⟩:=HYES6.out rfl;obtain⟨A6,n6,c6,hv6,hn6⟩:∃A n c,v6=.slice A n c/\l.length=n:=by obtain⟨_,_,⟨A,c,h,_⟩,_⟩:=hrow6;exact⟨A,_,c,h,rfl⟩
     subst hv6;have hsub:=zeU (ownN vars p) 400 Q1.1 Q2.1 [] l HNR2.out HSR2.out (λ_ h=>(List.not_mem_nil h).elim) hl6;have hll:=zdX (ownN vars p) Q1.1 Q2.1 [] l hl6;have HL6:=hidE hl6;have HROW6:=hidE hrow6;have HN6:=hidE hn6;have HSUB:=hidE hsub;have hn400:n6<=400:=by rw[<-hn6];have:=HSR.out;simp at hll;omega
     clear hl6 hrow6 hn6 hsub hll HNO6 HYES6;go_wp2_with fail
     go_loopg [19] n6 (λgg vi wt=>HeadGd t l n6 w6 gg vi wt)
     case atStart=>exact⟨0,rfl,rfl,Nat.zero_le _,hidE (λe he=>by rw[List.take_zero]at he;cases he),Below.refl _ _⟩
     case round =>
      rename World=>wt;obtain⟨j,rfl,rfl,hj,hgood,hbw⟩:=hrel;have HGOOD:=hidE hgood.out;have HBW:=hidE hbw;have HB0:=hidE (zac HB60.out hbw);by_cases hjn:j<n6
      ·have hjl:j<l.length:=by rw[HN6.out];exact hjn
       obtain⟨g,c',k7,x7,z7,a7,m7,p7,hv7,hg7,-,d1,d2,d3,d4,hrd⟩:=(HROW6.out.below hbw).at j hjl;injection hv7 with e1 e2 e3;subst e1;have hts:=(HSUB.out _ (List.getElem_mem hjl)).2;obtain⟨Tj,hTj⟩:∃Tj,l[j].2=Tj:=⟨_,rfl⟩;have HTJ:Hid (∃x,(x,Tj)∈l):=hidE ⟨l[j].1,by rw[<-hTj];exact List.getElem_mem hjl⟩;have HTK:Hid (∀e∈l.take (j+1),e∈l.take j\/e.2=Tj):=hidE λe he=>by
        rw[List.take_succ_eq_append_getElem hjl]at he
        rcases List.mem_append.1 he with he|he
        ·exact .inl he
        ·right;rw[List.mem_singleton.1 he];exact hTj
       rw[hTj]at hrd hts
       have P1:=hidE (zog 1000000 Tj _ _ wt (by omega) (Nat.le_refl _) hrd (λg hg=>hg));have P2:=hidE (λW (h:Below wt.heap.size wt W)=>zbs Tj _ _ W (by omega) (RdN.below hrd h) (λg hg=>hg));have C0:Hid (∀W,Below wt.heap.size wt W->W.cell? ⟨g,j*5+1,none⟩=some (.int .i64 k7)/\W.cell? ⟨g,j*5+2,none⟩=some (.string x7)/\W.cell? ⟨g,j*5+3,none⟩=some (.int .i64 z7)/\W.cell? ⟨g,j*5+4,none⟩=some (.slice a7 m7 p7)):=hidE λW h =>
        ⟨(h.cell (p:=⟨g,j*5+1,none⟩) hg7).trans d1,(h.cell (p:=⟨g,j*5+2,none⟩) hg7).trans d2,(h.cell (p:=⟨g,j*5+3,none⟩) hg7).trans d3,(h.cell (p:=⟨g,j*5+4,none⟩) hg7).trans d4⟩
       obtain⟨qp,hqp⟩:∃q,Tj.poly=q:=⟨_,rfl⟩;rw[hqp]at P1
       have HQP:=hidE hqp;have hfn:Tj.free.length<=400:=by have:=zaU Tj;omega
       obtain⟨NS,hNS⟩:∃NS,Tj.free=NS:=⟨_,rfl⟩;rw[hNS]at P2 hfn
       have HNS:=hidE hNS;clear e2 e3 hTj hrd hts hqp hNS hjl hgood hbw;go_wp2_with fail
       refine P1.out.mono ?_;rintro e w7 ⟨rfl,b7⟩;have HB7:=hidE b7;have HB70:=hidE (zac HB0.out b7);clear b7 d1 d2 d3 d4 P1;cases qp with
       |true =>
        have HBAD:Hid (∀l',¬zbU vars p t l'):=hidE λl'=>by
         obtain⟨x,hx⟩:=HTJ.out;refine HOKB.out l HL6.out (x,Tj) hx (λh=>?_) l';have h1:=h.1;rw[show(x,Tj).2.poly=true from HQP.out]at h1
         cases h1
        go_wp2_with fail
        go_ret2
        exact⟨zac KB.out HB70.out,.slice none 0 0,false,rfl,λ_=>⟨HBAD.out,rfl⟩,(λh=>by cases h)⟩
       |false =>
        obtain⟨d1,d2,d3,d4⟩:=C0.out _ HB7.out;go_wp2_with fail
        refine(P2.out _ HB7.out).mono ?_;rintro e w8 ⟨v8,rfl,hr8,b8⟩;have HB8:=hidE (zac HB7.out b8);have HB80:=hidE (zac HB70.out b8);have hrv8:=hr8.1;obtain⟨An,cn,hvn,-⟩:=hr8.1;obtain⟨nn,hnn⟩:∃nn,NS.length=nn:=⟨_,rfl⟩;rw[zaJ,hnn]at hvn
        subst hvn;rw[hnn]at hfn
        have HNN:=hidE hnn;have HR8:=hidE hrv8;clear hr8 hrv8 hnn b8 d1 d2 d3 d4 P2;go_wp2_with fail
        go_loopg [22] nn (λgg vi wu=>HeadNm t NS nn w8 gg vi wu)
        case atStart=>exact⟨0,rfl,rfl,Nat.zero_le _,hidE (λz hz=>by rw[List.take_zero]at hz;cases hz),Below.refl _ _⟩
        case round =>
         rename World=>wu;obtain⟨k,rfl,rfl,hk,hin,hbu⟩:=hrel;have HIN:=hidE hin.out;have HBU:=hidE hbu;have HBU0:=hidE (zac HB80.out hbu);by_cases hkn:k<nn
         ·have hkl:k<NS.length:=by rw[HNN.out];exact hkn
          obtain⟨gn,rfl,hgn,hcn⟩:=HR8.out.nth k hkl;obtain⟨PY,hPY⟩:∃PY:ByteArray,(⟨NS[k].toArray⟩:ByteArray)=PY:=⟨_,rfl⟩;have hPYl:PY.data.toList=NS[k]:=by rw[<-hPY]
          have HMK:Hid (PY.data.toList∈NS):=hidE (by rw[hPYl];exact List.getElem_mem hkl);have HTK2:Hid (∀z∈NS.take (k+1),z∈NS.take k\/z=PY.data.toList):=hidE λz hz=>by
           rw[List.take_succ_eq_append_getElem hkl]at hz
           rcases List.mem_append.1 hz with hz|hz
           ·exact .inl hz
           ·right;rw[List.mem_singleton.1 hz,hPYl]
          rw[hPY]at hcn
          have SOQ:Hid (∀W,Below wu.heap.size wu W->(λW:World=>W.cell? ⟨w.heap.size+1,0,none⟩=some (.int .i64 K2)/\W.cell? ⟨w.heap.size+1,1,none⟩=some (.string X2)/\W.cell? ⟨w.heap.size+1,2,none⟩=some (.int .i64 Z2)/\W.cell? ⟨w.heap.size+1,3,none⟩=some (.slice A2 m2 c2)/\W.cell? ⟨gn,k,none⟩=some (.string PY)) W):=hidE λW h=>by
           obtain⟨-,-,-,-,s4,s5,s6,s7⟩:=SOF.out W (zac HBU0.out h);exact⟨s4,s5,s6,s7,((zac HBU.out h).cell (p:=⟨gn,k,none⟩) hgn).trans hcn⟩
          have G1:=hidE (λW (h:Below wu.heap.size wu W)=>F2.out W (zac HBU0.out h));have G2:=hidE (λW v' (h:RowV W v' (strV t.free))=>zdc v' t.free PY W h (by rw[HNT.out];omega));obtain⟨qh,hqh⟩:∃q,decide (PY.data.toList∈t.free)=q:=⟨_,rfl⟩;rw[hqh]at G2
          have HQH:=hidE hqh;have B0:Hid (Below wu.heap.size wu wu.drew):=hidE (Below.refl _ wu).drew;obtain⟨y0,y1,y2,y3,y4⟩:=SOQ.out wu (Below.refl _ _);clear hcn hPY hPYl hqh hkl hin hbu;go_upto_region 25 with fail
          go_region_held3 (λW:World=>W.cell? ⟨w.heap.size+1,0,none⟩=some (.int .i64 K2)/\W.cell? ⟨w.heap.size+1,1,none⟩=some (.string X2)/\W.cell? ⟨w.heap.size+1,2,none⟩=some (.int .i64 Z2)/\W.cell? ⟨w.heap.size+1,3,none⟩=some (.slice A2 m2 c2)/\W.cell? ⟨gn,k,none⟩=some (.string PY))
           (first|(with_reducible exact SOQ.out _ B0.out)|(with_reducible exact SOQ.out _ B9.out))
           ((first
            |((with_reducible refine(G1.out _ B0.out).mono ?_);rintro e w9 ⟨v9,rfl,hr9,b9⟩;have HR9:=hidE hr9.1;have B9:=hidE (zac B0.out b9);clear hr9 b9)
            |((with_reducible refine(G2.out _ _ HR9.out).mono ?_);rintro e w10 ⟨rfl,rfl⟩)))
          all_goals
           cases qh with
           |false =>
            have HBAD:Hid (∀l',¬zbU vars p t l'):=hidE λl'=>by
             obtain⟨x,hx⟩:=HTJ.out;exact HOKB.out l HL6.out (x,Tj) hx (λh=>of_decide_eq_false HQH.out (h.2 _ (by show _∈Tj.free;rw[HNS.out];exact HMK.out))) l'
            go_wp2_with fail
            go_ret2
            exact⟨zac KB.out (zac HBU0.out B9.out),.slice none 0 0,false,rfl,λ_=>⟨HBAD.out,rfl⟩,(λh=>by cases h)⟩
           |true =>
            go_wp2_with fail
            go_roundg (nn-(k+1))
            case measure=>omega
            case rel =>
             refine⟨k+1,rfl,by go_num,by omega,hidE (λz hz=>?_),zac HBU.out B9.out⟩;rcases HTK2.out z hz with hz|hz
             ·exact HIN.out z hz
             ·rw[hz];exact of_decide_eq_true HQH.out
         ·have HALL:Hid (∀z∈Tj.free,z∈t.free):=hidE (by
           rw[HNS.out]
           have:=hin.out;rwa [List.take_of_length_le (by rw[HNN.out];omega)]at this)
          clear hin hbu;go_wp2_with fail
          go_roundg (n6-(j+1))
          case measure=>omega
          case rel =>
           refine⟨j+1,rfl,by go_num,by omega,hidE (λe he=>?_),((HBW.out.trans (HB8.out.mono HBW.out.size)).trans (HBU.out.mono (by have:=HB8.out.size;have:=HBW.out.size;omega)))⟩;rcases HTK.out e he with he|he
           ·exact HGOOD.out e he
           ·rw[he];exact⟨HQP.out,HALL.out⟩
      ·have HGA:Hid (∀e∈l,e.2.poly=false/\∀z∈e.2.free,z∈t.free):=hidE (by have:=hgood.out;rwa [List.take_of_length_le (by rw[HN6.out];omega)]at this)
       have hsw:=zac HB60.out hbw;have HROWT:=hidE (HROW6.out.below hbw);have FPA:=hidE (λW (h:Below wt.heap.size wt W)=>zoB p l _ _ W (RdN.below HP0.out (zac HB0.out h)) (HROWT.out.below h) HPS.out (λe he=>(HSUB.out e he).2) (by rw[HN6.out];exact hn400));have FSM:=hidE (λr v W (h:Below wt.heap.size wt W) (hr:RdN W r v) (hd:db [] r=repD (sig l) .mt (db [] p)) (hs:r.size<=160000)=>zrJ r t v _ W hr (RdN.below HT0.out (zac HB0.out h)) (by rw[hd];exact zeV _ (zrI l (λe he=>(HSUB.out e he).1)) _ HNMP.out) HNMT.out (by omega) (by have:=HTS.out;omega));have SOQ:Hid (∀W,Below wt.heap.size wt W->(λW:World=>W.cell? ⟨w.heap.size,0,none⟩=some (.int .i64 K)/\W.cell? ⟨w.heap.size,1,none⟩=some (.string X)/\W.cell? ⟨w.heap.size,2,none⟩=some (.int .i64 Z)/\W.cell? ⟨w.heap.size,3,none⟩=some (.slice A m c)/\W.cell? ⟨w.heap.size+1,0,none⟩=some (.int .i64 K2)/\W.cell? ⟨w.heap.size+1,1,none⟩=some (.string X2)/\W.cell? ⟨w.heap.size+1,2,none⟩=some (.int .i64 Z2)/\W.cell? ⟨w.heap.size+1,3,none⟩=some (.slice A2 m2 c2)) W):=hidE λW h=>SOF.out W (zac HB0.out h);have B0:Hid (Below wt.heap.size wt wt.drew):=hidE (Below.refl _ wt).drew;obtain⟨x0,x1,x2,x3,x4,x5,x6,x7⟩:=SOQ.out wt (Below.refl _ _);clear hgood hbw hsw;go_upto_region 28 with fail
       go_region_held3 (λW:World=>W.cell? ⟨w.heap.size,0,none⟩=some (.int .i64 K)/\W.cell? ⟨w.heap.size,1,none⟩=some (.string X)/\W.cell? ⟨w.heap.size,2,none⟩=some (.int .i64 Z)/\W.cell? ⟨w.heap.size,3,none⟩=some (.slice A m c)/\W.cell? ⟨w.heap.size+1,0,none⟩=some (.int .i64 K2)/\W.cell? ⟨w.heap.size+1,1,none⟩=some (.string X2)/\W.cell? ⟨w.heap.size+1,2,none⟩=some (.int .i64 Z2)/\W.cell? ⟨w.heap.size+1,3,none⟩=some (.slice A2 m2 c2))
        (first|(with_reducible exact SOQ.out _ B0.out)|(with_reducible exact SOQ.out _ B10.out)|(with_reducible exact SOQ.out _ B9.out))
        ((first
         |((with_reducible refine(FPA.out _ B0.out).mono ?_);rintro e w9 ⟨b9,K9,X9,Z9,A9,m9,p9,r9,rfl,hr9,hd9,hs9⟩;have HR9:=hidE hr9;have HD9:=hidE hd9;have HS9:=hidE hs9;have B9:=hidE (zac B0.out b9);clear b9 hr9 hd9 hs9)
         |((with_reducible refine(FSM.out r9 _ _ B9.out HR9.out HD9.out HS9.out).mono ?_);rintro e w10 ⟨⟨q10,rfl,hq10⟩,b10⟩;have HQ10:=hidE hq10;have B10:=hidE (zac B9.out b10);clear hq10 b10)))
       all_goals
        cases q10 with
        |false =>
         have HBAD:Hid (∀l',¬zbU vars p t l'):=hidE λl'=>HOKA.out l HL6.out (λh=>by
          have h2:=HQ10.out.2 (by rw[HD9.out];exact h);cases h2) l'
         clear HQ10;go_wp2_with fail
         go_ret2
         exact⟨zac KB.out (zac HB0.out B10.out),.slice none 0 0,false,rfl,λ_=>⟨HBAD.out,rfl⟩,(λh=>by cases h)⟩
        |true =>
         have HGD:Hid (zbU vars p t l):=hidE (HOKY.out l HL6.out HGA.out (by rw[<-HD9.out];exact HQ10.out.1 rfl));clear HQ10;go_wp2_with fail
         go_ret2
         exact⟨zac KB.out (zac HB0.out B10.out),_,true,rfl,(λh=>by cases h),λ_=>⟨l,HGD.out,HROWT.out.below B10.out,HSUB.out⟩⟩
end Go.Proofs.YtaomnlcplmkokaaGreatDoor
namespace Go.Proofs.YtaomnlcplmkokaaGreatDoor
open Go.RowKit Lx Tx Go.Maps Go.WideMaps Go.Shelf
set_option maxRecDepth 100000
theorem zm2 {vars:List Name} {p p' t t':Ty}(hp:db [] p=db [] p')(ht:db [] t=db [] t'):zco vars p t↔zco vars p' t':=by
 unfold zco;rw[hp,ht]
theorem zgI {vars:List Name} {p t:Ty}(hv:vars.length<=500)(hp:p.size<=400)(ht:t.size<=400):(∃l,zbU vars p t l)↔zco vars p t:=by
 constructor
 ·rintro⟨l,h⟩;exact zgC h
 ·rintro⟨s,h1,h2⟩
  have:=Nat.mul_le_mul (show p.size+1<=401 by omega) (show(butM vars p t).length+1<=1301 by have:=zg5 vars p t hv hp ht;omega);exact⟨_,zgD vars p t s h1 h2 (by omega)⟩
set_option maxRecDepth 2000 in
theorem zlq(g s:Ty)(vg vs:Value)(w:World)(hg:RdN w g vg)(hs:RdN w s vs)(hng:Nm g)(hns:Nm s)(hgs:g.size<=400)(hss:s.size<=400):Calls Tryz.prog 20 #[vg,vs] w λe w'=>(∃q:Bool,e=.returned (.bool q)/\(q=true↔zdH g s))/\Below w.heap.size w w':=by
 obtain⟨K,X,Z,A,m,c,rfl,-,-,-,-,-⟩:=hg.parts;obtain⟨K2,X2,Z2,A2,m2,c2,rfl,-,-,-,-,-⟩:=hs.parts;obtain⟨W0,hW⟩:∃W,(w.alloc (.cells #[.int .i64 K,.string X,.int .i64 Z,.slice A m c] 29)).alloc (.cells #[.int .i64 K2,.string X2,.int .i64 Z2,.slice A2 m2 c2] 29)=W:=⟨_,rfl⟩;have k1:Blk W0 w.heap.size 29 #[.int .i64 K,.string X,.int .i64 Z,.slice A m c]:=hW▸zae _ _ _ _ (heap_alloc_new _ _);have k2:Blk W0 (w.heap.size+1) 29 #[.int .i64 K2,.string X2,.int .i64 Z2,.slice A2 m2 c2]:=hW▸alloc_at _ _ _ (by simp);have kb:Below w.heap.size w W0:=hW▸(((Below.refl _ w).alloc (Nat.le_refl _) _).alloc (by simp) _);have hg0:=RdN.below hg kb;have hs0:=RdN.below hs kb;have F1:=hidE (λW (h:Below W0.heap.size W0 W)=>zbs g _ _ W (by omega) (RdN.below hg0 h) (λg hg=>hg));have F2:=hidE (λW (h:Below W0.heap.size W0 W)=>zbs s _ _ W (by omega) (RdN.below hs0 h) (λg hg=>hg));have hfg:g.free.length<=400:=by have:=zaU g;omega
 have hfs:s.free.length<=400:=by have:=zaU s;omega
 obtain⟨tk,htk⟩:∃tk,g.free++s.free=tk:=⟨_,rfl⟩;have htkI:zaE g s=tk:=by rw[<-htk];unfold zaE;rw[zbH,zbH]
 have htl:tk.length<=800:=by rw[<-htk,List.length_append];omega
 have r1:Room tk g:=zcJ (by omega) (by omega);have r2:Room tk s:=zcJ (by omega) (by omega);have HI:Hid (zdH g s↔zco (zaG 113 tk g 0) (zaV 113 tk g 0) (zaV 112 tk s 0)):=hidE (by
  rw[ziT g s hns (by omega) (by omega),htkI]
  exact(zj6 tk g s r1 r2 (λx hx=>by rw[<-htkI];exact List.mem_append_left _ hx)).symm)
 have HNQ:Hid (NmD (inst (fvs (newY 113 tk g)) 0 (core g))):=hidE (by rw[<-zb3 113 (.inr rfl) tk g r1];exact zc0 [] _ (zcC 113 (.inr rfl) tk g r1.1 r1.2 hng));have HNP:Hid (NmD (inst (fvs (newY 112 tk s)) 0 (core s))):=hidE (by rw[<-zb3 112 (.inl rfl) tk s r2];exact zc0 [] _ (zcC 112 (.inl rfl) tk s r2.1 r2.2 hns));have HDQ:=hidE (zb3 113 (.inr rfl) tk g r1);have HDP:=hidE (zb3 112 (.inl rfl) tk s r2);have HROW:Hid (strV g.free++strV s.free=strV tk):=hidE (by rw[<-htk,zd4]);have hl1:=k1.lt;have hl2:=k2.lt;have SOF:Hid (∀W,Below W0.heap.size W0 W->(λW:World=>W.cell? ⟨w.heap.size,0,none⟩=some (.int .i64 K)/\W.cell? ⟨w.heap.size,1,none⟩=some (.string X)/\W.cell? ⟨w.heap.size,2,none⟩=some (.int .i64 Z)/\W.cell? ⟨w.heap.size,3,none⟩=some (.slice A m c)/\W.cell? ⟨w.heap.size+1,0,none⟩=some (.int .i64 K2)/\W.cell? ⟨w.heap.size+1,1,none⟩=some (.string X2)/\W.cell? ⟨w.heap.size+1,2,none⟩=some (.int .i64 Z2)/\W.cell? ⟨w.heap.size+1,3,none⟩=some (.slice A2 m2 c2)) W) :=
  hidE λW h=>by
   obtain⟨a0,a1,a2,a3,-,-,-,-,-⟩:=zaa (k1.below h hl1);obtain⟨b0,b1,b2,b3,-,-,-,-,-⟩:=zaa (k2.below h hl2);exact⟨a0,a1,a2,a3,b0,b1,b2,b3⟩
 obtain⟨ng,hng'⟩:∃n,g.free.length=n:=⟨_,rfl⟩;obtain⟨ns,hns'⟩:∃n,s.free.length=n:=⟨_,rfl⟩;have HNG:=hidE hng';have HNS:=hidE hns';have hfg':ng<=400:=by omega
 have hfs':ns<=400:=by omega
 have B0:Hid (Below W0.heap.size W0 W0.drew):=hidE (Below.refl _ W0).drew;have BA:Hid (Below W0.heap.size W0 (W0.alloc (.cells #[] 9)).drew):=hidE ((Below.refl _ W0).alloc (Nat.le_refl _) _).drew;have OA:Hid ((W0.alloc (.cells #[] 9)).drew.ownsRow W0.heap.size 9 1 (.slice (some ⟨W0.heap.size,0,none⟩) 0 0) 0 []):=hidE (own_below (zba (heap_alloc_new _ _) (Nat.le_refl _)) (Below.refl _ _).drew);obtain⟨i0,hi0,hz0,hz1,hz2⟩:=info_parts zbi;have KB:=hidE kb;have HG0:=hidE hg0;have HS0:=hidE hs0;have HTL:=hidE htl;have HGS:=hidE hgs;have HSS:=hidE hss;clear k1 k2 kb hg hs hg0 hs0 htk htkI r1 r2 hng hns hng' hns' hfg hfs htl;go_enter Tryz.func20,Tryz.ntmps20
 go_upto_region 1 with fail
 try rw[hW]
 clear hW;go_cut [5] from 12 to 18 (λs5 wx=>Hid (RowV wx s5 (strV tk)/\Below W0.heap.size W0 wx))
 case first =>
  go_region_held3 (λW:World=>W.cell? ⟨w.heap.size,0,none⟩=some (.int .i64 K)/\W.cell? ⟨w.heap.size,1,none⟩=some (.string X)/\W.cell? ⟨w.heap.size,2,none⟩=some (.int .i64 Z)/\W.cell? ⟨w.heap.size,3,none⟩=some (.slice A m c)/\W.cell? ⟨w.heap.size+1,0,none⟩=some (.int .i64 K2)/\W.cell? ⟨w.heap.size+1,1,none⟩=some (.string X2)/\W.cell? ⟨w.heap.size+1,2,none⟩=some (.int .i64 Z2)/\W.cell? ⟨w.heap.size+1,3,none⟩=some (.slice A2 m2 c2))
   (first|(with_reducible exact SOF.out _ B0.out)|(with_reducible exact SOF.out _ BA.out)|(with_reducible exact SOF.out _ B4.out)|(with_reducible exact SOF.out _ B3.out)|(with_reducible exact SOF.out _ B2.out)|(with_reducible exact SOF.out _ B1.out)|(with_reducible exact SOF.out _ (B1.out.alloc B1.out.size _))|(refine SOF.out _ ?_;repeat first|exact Below.refl _ _|(refine Below.alloc ?_ (by first|omega|(simp;done)|(simp;omega)) _)|(refine Below.drew ?_)))
   ((first
    |((with_reducible refine(F1.out _ B0.out).mono ?_);rintro e w1 ⟨v1,rfl,hr1,b1⟩;have R1:=hidE hr1.1.toA;have B1:=hidE (zac B0.out b1);clear hr1 b1)
    |((with_reducible refine(F1.out _ BA.out).mono ?_);rintro e w1 ⟨v1,rfl,hr1,b1⟩;have R1:=hidE hr1.1.toA;have O1:=hidE (own_below OA.out b1);have B1:=hidE (zac BA.out b1);clear hr1 b1)
    |((with_reducible refine(F2.out _ B2.out).mono ?_);rintro e w3 ⟨v3,rfl,hr3,b3⟩;have R3:=hidE hr3.1.toA;have O3:=hidE (own_below O2.out b3);have B3:=hidE (zac B2.out b3);clear hr3 b3)
    |(refine zbp (by rfl) _ _ _ (by rfl) W0.heap.size 9 i0 _ Tryz.underlying22 hi0 hz0 hz1 hz2 rfl _ _ 0 [] g.free (by rfl) (by rfl) O1.out R1.out (by rw[HNG.out];omega) B1.out.size ?_;intro A2 c2 w2 ho2 hb2;rw[HNG.out,Nat.zero_add,List.nil_append]at ho2;simp only[HNG.out,Nat.zero_add];have O2:=hidE ho2;have B2:=hidE (B1.out.trans hb2);clear ho2 hb2)
    |(refine zbp (by rfl) _ _ _ (by rfl) W0.heap.size 9 i0 _ Tryz.underlying22 hi0 hz0 hz1 hz2 rfl _ _ 0 [] g.free (by rfl) (by rfl) (zba (alloc_at _ _ _ (by simp)) B1.out.size) (R1.out.below ((Below.refl _ _).alloc (Nat.le_refl _) _)) (by rw[HNG.out];omega) (by have:=B1.out.size;simp;omega) ?_;intro A2 c2 w2 ho2 hb2;rw[HNG.out,Nat.zero_add,List.nil_append]at ho2;simp only[HNG.out,Nat.zero_add];have O2:=hidE ho2;have B2:=hidE ((B1.out.alloc B1.out.size _).trans hb2);clear ho2 hb2)
    |(refine zbp (by rfl) _ _ _ (by rfl) W0.heap.size 9 i0 _ Tryz.underlying22 hi0 hz0 hz1 hz2 rfl _ _ ng _ s.free (by rfl) (by rfl) O3.out R3.out (by rw[HNS.out];omega) B3.out.size ?_;intro A4 c4 w4 ho4 hb4;rw[HNS.out]at ho4;simp only[HNS.out];have O4:=hidE ho4;have B4:=hidE (B3.out.trans hb4);clear ho4 hb4)))
  all_goals
   go_wp2_with fail
   go_meet
   case rel=>exact hidE ⟨by rw[<-HROW.out];exact RowV.of_own O4.out,B4.out⟩
 case rest =>
  rename World=>V0;obtain⟨hbut,hbv⟩:=hcut.out;obtain⟨Ab,nb,cb,hsh⟩:=hbut.shape;subst hsh;obtain⟨x0,x1,x2,x3,x4,x5,x6,x7⟩:=SOF.out _ hbv;have HBUT:=hidE hbut;have HBV:=hidE hbv;have P1:=hidE (zic 113 g _ _ (.slice Ab nb cb) tk V0 (RdN.below HG0.out hbv) (λ_ h=>h) hbut (by have:=HTL.out;omega) (by have:=HGS.out;omega));clear hbut hbv hcut;go_wp2_with fail
  refine P1.out.mono ?_;rintro e w4 ⟨b4,vn,K4,X4,Z4,A4,m4,c4,P,rfl,hrow4,hr4,hz4,hd4,hl4,-⟩;replace hr4:RdN w4 P _:=RdV.keep hr4 (λg hg=>by have:=b4.size;rcases hg with hg|hg;(have hg:g<V0.heap.size:=hg;omega);exact hg.2) (λ_ _=>rfl);obtain⟨An,nn,cn,hsn⟩:=hrow4.shape;subst hsn;obtain⟨V4,hV4⟩:∃V,w4.alloc (.cells #[.int .i64 K4,.string X4,.int .i64 Z4,.slice A4 m4 c4] 29)=V:=⟨_,rfl⟩;have hx4:Blk V4 w4.heap.size 29 #[.int .i64 K4,.string X4,.int .i64 Z4,.slice A4 m4 c4]:=hV4▸heap_alloc_new _ _;have hba:Below w4.heap.size w4 V4:=hV4▸(Below.refl _ w4).alloc (Nat.le_refl _) _;have hb4:Below V0.heap.size V0 V4:=b4.trans (hba.mono b4.size);have HX4:=hidE hx4;have HB4:=hidE hb4;have HB40:=hidE (zac HBV.out hb4);have HR4:=hidE (RdN.below hr4 hba);have HRW4:=hidE (hrow4.below hba);have HZ4:=hidE (Nat.le_trans hz4 HGS.out);have HD4:=hidE hd4;have HL4:=hidE (Nat.le_trans hl4 HGS.out);have HV4:=hidE hV4;have P2:=hidE (zic 112 s _ _ (.slice Ab nb cb) tk V4 (RdN.below HS0.out HB40.out) (λ_ h=>h) (HBUT.out.below hb4) (by have:=HTL.out;omega) (by have:=HSS.out;omega));clear b4 hrow4 hr4 hz4 hd4 hl4 hV4 hx4 hba hb4 P1 x0 x1 x2 x3 x4 x5 x6 x7;go_upto_region 3 with fail
  rw[HV4.out]
  clear HV4;obtain⟨x0,x1,x2,x3,x4,x5,x6,x7⟩:=SOF.out _ HB40.out;go_wp2_with fail
  refine P2.out.mono ?_;rintro e w5 ⟨b5,vn5,K5,X5,Z5,A5,m5,c5,T,rfl,-,hr5,hz5,hd5,-,-⟩;replace hr5:RdN w5 T _:=RdV.keep hr5 (λg hg=>by have:=b5.size;rcases hg with hg|hg;(have hg:g<V4.heap.size:=hg;omega);exact hg.2) (λ_ _=>rfl);obtain⟨V5,hV5⟩:∃V,w5.alloc (.cells #[.int .i64 K5,.string X5,.int .i64 Z5,.slice A5 m5 c5] 29)=V:=⟨_,rfl⟩;have hx5:Blk V5 w5.heap.size 29 #[.int .i64 K5,.string X5,.int .i64 Z5,.slice A5 m5 c5]:=hV5▸heap_alloc_new _ _;have hba:Below w5.heap.size w5 V5:=hV5▸(Below.refl _ w5).alloc (Nat.le_refl _) _;have hb5:Below V4.heap.size V4 V5:=b5.trans (hba.mono b5.size);have hx45:=HX4.out.below hb5 HX4.out.lt;have HB50:=hidE (zac HB40.out hb5);have HZ5:=hidE (Nat.le_trans hz5 HSS.out);have HD5:=hidE hd5;have HV5:=hidE hV5;obtain⟨y0,y1,y2,y3,-,-,-,-,-⟩:=zaa hx45;obtain⟨z0,z1,z2,z3,-,-,-,-,-⟩:=zaa hx5;have HMT:=hidE (zkD P T (zaG 113 tk g 0) _ _ (.slice An nn cn) V5 (RdN.below HR4.out hb5) (RdN.below hr5 hba) (HRW4.out.below hb5).toA (by rw[HD4.out];exact HNQ.out) (by rw[HD5.out];exact HNP.out) HZ4.out HZ5.out (by have:=HL4.out;omega));clear b5 hr5 hz5 hd5 hV5 hx5 hba hb5 hx45 P2 x0 x1 x2 x3 x4 x5 x6 x7;go_upto_region 4 with fail
  rw[HV5.out]
  clear HV5;go_wp2_with fail
  refine HMT.out.mono ?_;rintro e w6 ⟨b6,v6,q6,rfl,hno6,hyes6⟩;have hfin:q6=true↔zdH g s:=by
   rw[HI.out,<-zm2 (HD4.out.trans HDQ.out.symm) (HD5.out.trans HDP.out.symm),<-zgI (by have:=HL4.out;omega) HZ4.out HZ5.out]
   constructor
   ·intro h;obtain⟨l,h1,-⟩:=hyes6 h;exact⟨l,h1⟩
   ·rintro⟨l,h1⟩
    cases q6 with
    |true=>rfl
    |false=>exact absurd h1 ((hno6 rfl).1 l)
  have HFIN:=hidE hfin;have HB60:=hidE (zac HB50.out b6);clear hfin b6 hno6 hyes6 HMT y0 y1 y2 y3 z0 z1 z2 z3;go_wp2_with fail
  go_ret
  exact⟨⟨q6,rfl,HFIN.out⟩,zac KB.out HB60.out⟩
end Go.Proofs.YtaomnlcplmkokaaGreatDoor
