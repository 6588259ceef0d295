import Derived.Test.YtfafilmklhnngaaGreatDoorBkAL
import Derived.Test.YtfafilmklhnngaaGreatDoorBkAO
set_option maxHeartbeats 12800000
namespace Go.Proofs.YtfafilmklhnngaaGreatDoor
open Go.RowKit Lx Tx Go.Maps Go.WideMaps Go.Shelf
set_option maxRecDepth 100000
def EqOK(ts:List (Ty × Ty)):Prop:=∀t u,(t,u)∈ts->Nm t/\Nm u/\t.size<=120/\u.size<=120
theorem zfz:(ls:List (ByteArray × ByteArray))->∀ {o:Option (List (Ty × Ty) × Nat)} {ts:List (Ty × Ty)} {c:Nat},ls.foldl zcB o=some (ts,c)->∃uC c0,o=some (uC,c0)/\ts.length=uC.length+ls.length/\(EqOK uC->EqOK ts)
 |[],o,ts,c,h=>⟨ts,c,h,rfl,id⟩
 |p::r,o,ts,c,h=>by
  rw[CL]at h
  obtain⟨ts1,c1,h1,h2,h3⟩:=zfz r h;unfold zcB at h1;split at h1
  ·rename_i uC c0 t u ht hu
   split at h1
   ·cases h1
   ·rename_i hn
    injection h1 with h1;injection h1 with h1 _;refine⟨uC,c0,rfl,?_,λh0=>h3 λa b du=>?_⟩
    ·rw[h2,<-h1,Ap,Ao,Ao,Be];omega
    ·rw[<-h1]at du
     rcases AA.1 du with du|du
     ·exact h0 a b du
     ·rw[AJ]at du
      injection du with e1 e2;subst e1 e2;obtain⟨n1,-,s1,-⟩:=zen _ _ ht;obtain⟨n2,-,s2,-⟩:=zen _ _ hu;have l1:p.1.data.toList.length=p.1.size:=CN;have l2:p.2.data.toList.length=p.2.size:=CN;exact⟨n1,n2,by omega,by omega⟩
  ·cases h1
theorem zfA {ls:List (ByteArray × ByteArray)} {ts:List (Ty × Ty)}(h:zby ls=some ts):ts.length=ls.length/\ls.length<=8/\EqOK ts:=by
 unfold zby at h;split at h
 ·cases h
 ·rename_i h8
  cases hr:runR ls with
  |none=>rw[hr]at h;cases h
  |some p =>
   rw[hr]at h
   injection h with h;obtain⟨ts1,c⟩:=p;have h:ts1=ts:=h;subst h;obtain⟨uC,c0,h1,h2,h3⟩:=zfz ls hr;injection h1 with h1;injection h1 with h1 _;subst h1;exact⟨by simpa using h2,by omega,h3 λ_ _ h=>by cases h⟩
theorem zi1:(ts:List (Ty × Ty))->EqOK ts->szQ ts<=240*ts.length
 |[],_=>AV _
 |(t,u)::r,h=>by
  have h1:=h t u (by simp);have h2:=zi1 r λa b du=>h a b (by simp[du]);rw[Ao,szQ]
  omega
theorem zol {B:Nat} {S:Nat->Prop} {ts:List (Ty × Ty)} {A:Option Addr} {m c:Nat} {v2:Value} {w:World}(h:EqsV B S w ts (.slice A m c) v2)(fT:EqOK ts)(hl:ts.length<=8):Calls Tryz.prog 14 #[.slice A m c] w (UnPost ts w):=by
 obtain⟨h1,rfl⟩:=h.eqsAt;have hS:∀g,S g->g<w.heap.size:=by
  obtain⟨_,_,_,_,_,_,h5⟩:=h;exact λg hg=>(h5 g hg).2.1
 exact ziU S ts A c w h1 hS (λt u ht=>by obtain⟨a,b,d,e⟩:=fT t u ht;exact⟨a,b,by omega,by omega⟩) (by omega) (by have:=zi1 ts fT;omega) zhD
end Go.Proofs.YtfafilmklhnngaaGreatDoor
namespace Go.Proofs.YtfafilmklhnngaaGreatDoor
open Go.RowKit Lx Tx Go.Maps Go.WideMaps Go.Shelf
set_option maxRecDepth 100000
theorem KnRow.at {S:Nat->Prop} {w:World} : {l:List (Nat × Ty)}->{vs:List Value}->KnRow S w l vs->∀(j n:Nat)(t:Ty),l[j]?=some (n,t)->∃A c,Args S w t A/\∀k,k<5->vs[j*5+k]? =(knV n t A c)[k]?
 |[],_,_,j,n,t,h=>by simp at h
 |x::r,vs,h,0,n,t,hj=>by
  simp at hj;subst hj;rw[KnRow]at h
  obtain⟨A,c,rest,rfl,h2,-⟩:=h;refine⟨A,c,h2,λk hk=>?_⟩;rw[Nat.zero_mul,Bo,Bm (show k<5 from hk)]
 |x::r,vs,h,j+1,n,t,hj=>by
  obtain⟨n0,t0⟩:=x;rw[KnRow]at h
  obtain⟨A,c,rest,rfl,-,h3⟩:=h;obtain⟨A',c',h4,h5⟩:=KnRow.at h3 j n t (by simpa using hj);refine⟨A',c',h4,λk hk=>?_⟩;have e:(j+1)*5+k=5+(j*5+k):=by omega
  rw[e,AW (show 5<=5+(j*5+k) by omega)]
  show rest[5+(j*5+k)-5]?=_;rw[Br]
  exact h5 k hk
theorem KnsV.cells {S:Nat->Prop} {B:Nat} {w:World} {l:List (Nat × Ty)} {A:Option Addr} {m c:Nat}(h:KnsV S B w l (.slice A m c)):m=l.length/\∀(i n:Nat) (t:Ty),l[i]?=some (n,t)->∃g At ct,A=some ⟨g,0,none⟩/\B<=g/\g<w.heap.size/\Args S w t At /\
   w.cell? ⟨g,i*5,none⟩=some (.int .i64 (n:Nat))/\w.cell? ⟨g,i*5+1,none⟩=some (.int .i64 (kd t:Nat))/\w.cell? ⟨g,i*5+2,none⟩=some (.string (nmB t))/\w.cell? ⟨g,i*5+3,none⟩=some (.int .i64 (nn t:Nat))/\w.cell? ⟨g,i*5+4,none⟩=some (.slice At (kids t).length ct):=by
 obtain⟨vs,h1,h2⟩:=h;have hm:m=l.length:=by
  obtain⟨a,q,e⟩:=zam h1;injection e
 refine⟨hm,λi n t hi=>?_⟩;obtain⟨At,ct,g1,g2⟩:=h2.at i n t hi;rcases h1.2 with⟨-,h0⟩|⟨g,cap,cur,e,hB,hg,-⟩
 ·rw[AD h0]at hi
  cases hi
 ·injection e with e1 _ _
  subst e1;have hc:∀(j:Nat) (x:Value),vs[j]?=some x->w.cell? ⟨g,j,none⟩=some x:=λj x hx=>by
   have au:=h1.cells (g:=g) rfl j x hx;have aW:(⟨g,0,none⟩:Addr).add j=⟨g,j,none⟩:=by unfold Addr.add;split <;> simp_all
   rwa [aW]at au
  exact⟨g,At,ct,rfl,hB,(Aj.1 hg).1,g1,hc _ _ (g2 0 (by omega)),hc _ _ (g2 1 (by omega)),hc _ _ (g2 2 (by omega)),hc _ _ (g2 3 (by omega)),hc _ _ (g2 4 (by omega))⟩
def zoO(l:List (Nat × Ty)):Prop:=l.length<=1000/\∀e∈l,e.1<=999999/\Nm e.2/\e.2.size<=1000000
theorem zfh(n:Nat)(h:n<=999999):(dec n).length<=6:=zdj 20 6 n (by omega) (by omega)
theorem zmI(l:List (Nat × Ty))(h:∀e∈l,e.1<=999999/\Nm e.2/\e.2.size<=1000000):(zbe l).length<=41000000*l.length:=by
 induction l with
 |nil=>simp[zbe]
 |cons e l ih =>
  obtain⟨x,t⟩:=e;obtain⟨h1,h2,h3⟩:=h _ Ay;have h1:x<=999999:=h1;have h2:Nm t:=h2;have h3:t.size<=1000000:=h3;have h0:=zfh x h1;have h4:=ih (λe he=>h e (Ar _ he));have h5:=(zbP t.canonT (zdA t h2 (by omega))).1;have h6:t.canonT.size=t.size:=by rw[<-zcJ];exact zbO _ _ _ _
  rw[zbe]
  simp only[Ao,Ap];omega
def zqm(m:Nat)(l:List (Nat × Ty))(n:Nat)(w0:World)(gg:Nat)(vs vi:Value)(wr:World):Prop :=
 ∃i,gg=n-i/\vi=.int .i64 (i:Nat)/\i<=n/\vs=.string ⟨(dec m++zbe (l.take i)).toArray⟩/\Below w0.heap.size w0 wr
theorem zpC(m:Nat)(l:List (Nat × Ty))(S:Nat->Prop)(B:Nat)(v:Value)(w:World)(ht:Tab w)(hv:KnsV S B w l v)(hS:∀g,S g->g<w.heap.size)(hl:zoO l)(hm:m<=100):Calls Tryz.prog 24 #[v,.int .i64 (m:Nat)] w λe w'=>e=.returned (.string ⟨(dec m++zbe l).toArray⟩)/\Below w.heap.size w w':=by
 obtain⟨A,n,cp,rfl⟩:∃A n cp,v=.slice A n cp:=by
  obtain⟨vs,h1,-⟩:=hv;obtain⟨a,q,e⟩:=zam h1;exact⟨_,_,_,e⟩
 obtain⟨kS,nF⟩:=hv.cells;obtain⟨cg,dw⟩:=hl;have gE:=CS nF;have HS:=CS hS;have HL:=CS dw;have lK:=CS kS;have HT:=CS ht;have HD:=CS (λ(k:Nat) (hk:k<=999999) (W:World)=>zh6 k W (by omega));have hn6:n<=1000:=by omega
 clear nF hS dw kS ht hv cg;go_enter Tryz.func24,Tryz.ntmps24
 go_wp2_with fail
 refine(HD.out m (by omega) _).mono ?_;rintro e w1 ⟨rfl,b1⟩;have sN:=zfh m (by omega);go_wp2_with fail
 go_loopg [5,6] n (λgg vs vi wr=>zqm m l n w gg vs vi wr)
 case atStart=>exact⟨0,rfl,rfl,AV _,by rw[Ba,zbe,AU],b1⟩
 case round =>
  obtain⟨i,rfl,rfl,hin,rfl,dM⟩:=hrel;have mg:=CS dM;have hszr:=dM.size;clear dM b1;by_cases ah:i<n
  ·have ey:i<l.length:=by rw[<-lK.out];exact ah
   obtain⟨⟨x,t⟩,he⟩:∃e,l[i]?=some e:=⟨_,Ak ey⟩;obtain⟨g,At,ct,rfl,-,hg,ha,c0,c1,c2,c3,c4⟩:=gE.out i x t he;obtain⟨hx,lR,aI⟩:=HL.out _ (AX he);have hx:x<=999999:=hx;have lR:Nm t:=lR;have aI:t.size<=1000000:=aI;have gm:zbe (l.take (i+1))=zbe (l.take i)++(59::(dec x++61::t.canonT.print)):=by
    rw[B8,he]
    exact zgu x t (l.take i)
   have hlen:=zmI (l.take i) (λe he=>HL.out e (List.mem_of_mem_take he));rw[Bc]at hlen
   have fX:=(zbP t.canonT (zdA _ lR (by omega))).1;have gA:t.canonT.size=t.size:=by rw[<-zcJ];exact zbO _ _ _ _
   have hdx:=zfh x hx;have aK:RdV S w t (.agg #[.int .i64 (kd t:Nat),.string (nmB t),.int .i64 (nn t:Nat),.slice At (kids t).length ct]):=⟨At,ct,rfl,ha⟩;obtain⟨k5,aO⟩:∃k:Int,((kd t:Nat):Int)=k:=⟨_,rfl⟩;obtain⟨x5,gh⟩:∃k:ByteArray,nmB t=k:=⟨_,rfl⟩;obtain⟨z5,hz5⟩:∃k:Int,((nn t:Nat):Int)=k:=⟨_,rfl⟩;obtain⟨m5,iJ⟩:∃k,(kids t).length=k:=⟨_,rfl⟩;rw[aO]at c1 aK
   rw[gh]at c2 aK
   rw[hz5]at c3 aK
   rw[iJ]at c4 aK
   have HC:=CS (λ(W:World) (hW:Below w.heap.size w W)=>znT t S _ W (aK.keep (S':=S) (w':=W) (λ_ h=>h) (λg hg=>hW.block g (HS.out g hg))) (λg hg=>by have:=HS.out g hg;have:=hW.size;omega) lR (by omega) (HT.out.below hW));have HX:=CS (HD.out x hx);obtain⟨PS,hPS⟩:∃PS:ByteArray,(⟨(dec m++zbe (l.take i)).toArray⟩:ByteArray)=PS:=⟨_,rfl⟩;obtain⟨PX,qd⟩:∃PX:ByteArray,(⟨(dec x).toArray⟩:ByteArray)=PX:=⟨_,rfl⟩;obtain⟨PC,hPC⟩:∃PC:ByteArray,(⟨t.canonT.print.toArray⟩:ByteArray)=PC:=⟨_,rfl⟩;have hPSs:PS.size<=50000000000:=by
    rw[<-hPS];show((dec m++zbe (l.take i)).toArray).size<=_
    rw[Bf,Ap]
    have:min i l.length<=1000:=by omega
    omega
   have yv:PX.size<=24:=by rw[<-qd];show(dec x).toArray.size<=_;rw[Bf];omega
   have hPCs:PC.size<=50000000:=by rw[<-hPC];show t.canonT.print.toArray.size<=_;rw[Bf];omega
   have ck:Hid (∀W:World,Below w.heap.size w W->(λW:World=>W.cell? ⟨g,i*5,none⟩=some (.int .i64 (x:Nat))/\W.cell? ⟨g,i*5+1,none⟩=some (.int .i64 k5)/\W.cell? ⟨g,i*5+2,none⟩=some (.string x5)/\W.cell? ⟨g,i*5+3,none⟩=some (.int .i64 z5)/\W.cell? ⟨g,i*5+4,none⟩=some (.slice At m5 ct)) W):=CS λW hW=>by
    have hc:∀j u,w.cell? ⟨g,j,none⟩=some u->W.cell? ⟨g,j,none⟩=some u:=λj u h=>(hW.cell (p:=⟨g,j,none⟩) hg).trans h;exact⟨hc _ _ c0,hc _ _ c1,hc _ _ c2,hc _ _ c3,hc _ _ c4⟩
   have zv:Hid ((⟨(dec m++zbe (l.take (i+1))).toArray⟩:ByteArray)=(((PS++⟨#[59]⟩)++PX)++⟨#[61]⟩)++PC):=CS (by
    rw[gm,<-hPS,<-qd,<-hPC]
    simp[ByteArray.ext_iff])
   rw[hPC]at HC
   rw[qd]at HX
   rw[hPS]
   have B0:Hid (Below w.heap.size w wr.drew):=CS mg.out.drew;have aw:¬9223372036854775807<PS.size+1:=by omega
   have aT:¬9223372036854775807<PS.size+1+PX.size:=by omega
   have nI:¬9223372036854775807<PS.size+1+PX.size+1:=by omega
   have cT:¬9223372036854775807<PS.size+1+PX.size+1+PC.size:=by omega
   clear hx lR aI gm hlen fX gA hdx aK c0 c1 c2 c3 c4 he ha aO gh hz5 iJ hPS qd hPC ey hg;go_upto_region 5 with fail
   go_region_held3 (λW:World=>W.cell? ⟨g,i*5,none⟩=some (.int .i64 (x:Nat))/\W.cell? ⟨g,i*5+1,none⟩=some (.int .i64 k5)/\W.cell? ⟨g,i*5+2,none⟩=some (.string x5)/\W.cell? ⟨g,i*5+3,none⟩=some (.int .i64 z5)/\W.cell? ⟨g,i*5+4,none⟩=some (.slice At m5 ct)) (first|(with_reducible exact ck.out _ B0.out))
    ((first
     |((with_reducible refine(HC.out _ B0.out).mono ?_);rintro e w5 ⟨rfl,b5⟩;replace B0:=CS (B0.out.trans (b5.mono B0.out.size));clear b5)
     |((with_reducible refine(HX.out _).mono ?_);rintro e w5 ⟨rfl,b5⟩;replace B0:=CS (B0.out.trans (b5.mono B0.out.size));clear b5)))
   all_goals
    go_wp2_with fail
    go_roundg (n-(i+1))
    case measure=>omega
    case rel=>exact⟨i+1,rfl,by go_num,by omega,by rw[zv.out],B0.out⟩
  ·have aU:l.take i=l:=AK (by rw[<-lK.out];omega)
   have HE:=CS aU;clear aU;go_wp2_with fail
   go_ret
   rw[HE.out]
   exact⟨rfl,mg.out⟩
set_option maxRecDepth 100000
theorem KnsV.nil(B:Nat)(w:World):KnsV (λ_=>False) B w [] (.slice none 0 0):=⟨[],World.ownsRow_nil _ _ _ _,by rw[KnRow]⟩
theorem UnPost.one {t u:Ty} {o:List UInt8} {w:World} {e:Ending} {w':World}(ho:OneAns t u o)(hn:Nm t/\Nm u)(h:UnPost [(t,u)] w e w'):∃m l T v,e=.returned (.tuple #[v,.int .i64 (m:Nat)])/\KnsV T w.heap.size w' l v/\(∀g,T g->g<w'.heap.size)/\zoO l/\m<=100/\o=dec m++zbe l/\Below w.heap.size w w':=by
 obtain⟨f,o1,hf,hb,⟨m,rfl,-,rfl⟩|⟨k,v,l,T,rfl,rfl,hK,hT,hTb⟩⟩:=h
 ·refine⟨m,[],λ_=>False,_,rfl,KnsV.nil _ _,λ_ h=>h.elim,⟨AV _,λe he=>by cases he⟩,by have:=zpF f _ _ _ hf;omega,?_,hb⟩
  rw[zbe,AU]
  rcases ho with⟨g,n,h1,rfl⟩|⟨g,k,l,h1,-⟩
  ·have:=zfj hf h1;injection this with e;rw[e]
  ·have:=zfj hf h1;cases this
 ·rcases ho with⟨g,n,h1,-⟩|⟨g,k',l',h1,h2,h3,h4,rfl⟩
  ·have:=zfj hf h1;cases this
  ·have:=zfj hf h1
   injection this with e;subst e;obtain rfl:=hT.uniq h2;refine⟨0,l,T,v,rfl,hK,λg hg=>(hTb g hg).2,⟨by omega,λe he=>?_⟩,by omega,rfl,hb⟩;obtain⟨n,x⟩:=e;obtain⟨a,b,-⟩:=zk6 hf hT (λt' u' hm=>by simp at hm;rw[hm.1,hm.2];exact hn) n x he;exact⟨a,b,by have:=h4 _ he;omega⟩
theorem EqsV.shape {B:Nat} {S:Nat->Prop} {w:World} {ts:List (Ty × Ty)} {v1 v2:Value}(h:EqsV B S w ts v1 v2):∃A c,v1=.slice A ts.length c:=by
 obtain⟨jI,kr,h1,-⟩:=h;obtain⟨a,q,e⟩:=zam h1;exact⟨a,q,e⟩
theorem zp5(l r:ByteArray)(t u:Ty)(o:List UInt8)(R:ByteArray)(w:World)(ht:Tab w)(hr:zby [(l,r)]=some [(t,u)])(ho:OneAns t u o)(hR:R=⟨o.toArray⟩)(hl:l.size<=maxLen/\r.size<=maxLen):Calls Tryz.prog 30 #[.string l,.string r] w λe w'=>e=.returned (.string R)/\Below w.heap.size w w':=by
 obtain⟨W1,lU⟩:∃W,w.alloc (.cells #[.string l,.string r] 70)=W:=⟨_,rfl⟩;have lF:Below w.heap.size w (w.alloc (.cells #[.string l,.string r] 70)):=(Below.refl _ _).alloc (Ai _) _;have bC:LinesAt (w.alloc (.cells #[.string l,.string r] 70)) [(l,r)] (some ⟨w.heap.size,0,none⟩):=by
  intro i p hi;cases i with
  |zero =>
   simp at hi;subst hi;exact⟨⟨w.heap.size,0,none⟩,rfl,by simp,cell_of_row _ _ _ _ _ _ (heap_alloc_new _ _),cell_of_row _ _ _ _ _ _ (heap_alloc_new _ _)⟩
  |succ i=>simp at hi
 rw[lU]at lF bC
 have cF:=CS (zj1 [(l,r)] _ 1 W1 bC (by intro p hp;simp at hp;rw[hp];exact hl));have B1:=CS lF;have HW:=CS lU;have HT:=CS ht;have HR:=CS hr;have HO:=CS ho;have tP:=CS hR;clear ht hr ho hR hl bC lF lU;go_enter Tryz.func30,Tryz.ntmps30
 go_wp2_with fail
 rw[HW.out]
 refine cF.out.mono ?_;rintro e w1 ⟨b1,⟨h0,-⟩|⟨ts,v1,v2,S,pk,rfl,hE⟩⟩
 ·rw[HR.out]at h0;cases h0
 rw[HR.out]at pk
 injection pk with pk;subst pk;obtain⟨A,c,rfl⟩:=hE.shape;have hrf:=zfA HR.out;have HS:=CS (zol hE hrf.2.2 (by simp));have vz:=CS (hrf.2.2 t u (by simp));have B2:Hid (Below w.heap.size w w1):=CS (B1.out.trans (b1.mono B1.out.size));clear b1 hE hrf cF HW B1;go_wp2_with fail
 refine HS.out.mono ?_;rintro e w2 h2;obtain⟨m,l,T,v,rfl,hK,hTb,yp,hm,ho,b2⟩:=h2.one HO.out ⟨vz.out.1,vz.out.2.1⟩;have B3:Hid (Below w.heap.size w w2):=CS (B2.out.trans (b2.mono B2.out.size));have HTD:=CS (zpC m l T _ v w2 (HT.out.below B3.out) hK hTb yp hm);have cG:=CS ho;clear h2 hK hTb yp ho b2 HS HO B2;go_wp2_with fail
 refine HTD.out.mono ?_;rintro e w3 ⟨rfl,b3⟩;go_wp2_with fail
 go_ret
 rw[tP.out,cG.out]
 exact⟨rfl,B3.out.trans (b3.mono B3.out.size)⟩
end Go.Proofs.YtfafilmklhnngaaGreatDoor
namespace Go.Proofs.YtfafilmklhnngaaGreatDoor
open Go.RowKit Lx Tx Go.Maps Go.WideMaps Go.Shelf
set_option maxRecDepth 100000
def zk7(L R:ByteArray):Bool:=decide (L.size<=120)&&decide (R.size<=120)&&match parse L.data.toList,parse R.data.toList with
 |.ok t,.ok u=>decide (cntN t+cntN u<=24)
 |_,_=>false
theorem zmJ {L R:ByteArray} {t u:Ty}(hb:zk7 L R=true)(h1:parse L.data.toList=.ok t)(h2:parse R.data.toList=.ok u):zby [(L,R)]=some [(t,u)]/\L.size<=120/\R.size<=120:=by
 unfold zk7 at hb;rw[h1,h2]at hb
 simp only[CE,decide_eq_true_eq]at hb;obtain⟨⟨h3,h4⟩,h5⟩:=hb;refine⟨?_,h3,h4⟩;have:runR [(L,R)]=some ([(t,u)],0+cntN t+cntN u):=by
  unfold runR;rw[CL,List.foldl_nil,ziY (p:=(L,R)) h1 h2 (show ¬120<L.size by omega) (show ¬120<R.size by omega),Am (by omega)]
  rfl
 unfold zby;rw[Am (by simp),this]
 rfl
theorem zet(L R O:ByteArray)(f:Nat)(ns:List Nat)(h:oneG f ns L.data.toList R.data.toList=some O.data.toList)(hn:ns.Pairwise (· < ·))(hb:zk7 L R=true)(w:World)(ht:Tab w):Calls Tryz.prog 30 #[.string L,.string R] w λe w'=>e=.returned (.string O)/\Below w.heap.size w w':=by
 obtain⟨t,u,h1,h2,ho⟩:=zoo h hn;obtain⟨h3,h4,h5⟩:=zmJ hb h1 h2;exact zp5 L R t u _ O w ht h3 ho (by simp) ⟨by unfold maxLen;omega,by unfold maxLen;omega⟩
theorem zop(w:World)(ht:Tab w):Calls Tryz.prog 12 #[] w λe w'=>e=.returned (.bool true)/\Below w.heap.size w w':=by
 have HT:=CS ht;have H1:=CS (λw ht=>zet { data:=#[63,49,32,45,62,32,63,50] } { data:=#[73,110,116,32,45,62,32,63,49] } { data:=#[48,59,49,61,73,110,116,59,50,61,73,110,116] } 20 [1,2] (by decide +kernel) (by decide) (by decide +kernel) w ht);have H2:=CS (λw ht=>zet { data:=#[63,50] } { data:=#[63,49] } { data:=#[48,59,50,61,63,49] } 20 [1,2] (by decide +kernel) (by decide) (by decide +kernel) w ht);have H3:=CS (λw ht=>zet { data:=#[63,49] } { data:=#[84,32,63,49] } { data:=#[52,49] } 20 [1] (by decide +kernel) (by decide) (by decide +kernel) w ht);have H4:=CS (λw ht=>zet { data:=#[63,49] } { data:=#[102,111,114,97,108,108,32,97,46,32,97] } { data:=#[52,50] } 20 [1] (by decide +kernel) (by decide) (by decide +kernel) w ht);have H5:=CS (λw ht=>zet { data:=#[97] } { data:=#[98] } { data:=#[52,48] } 20 [] (by decide +kernel) (by decide) (by decide +kernel) w ht);have H6:=CS (λw ht=>zet { data:=#[102,111,114,97,108,108,32,97,46,32,97,32,45,62,32,63,49] } { data:=#[102,111,114,97,108,108,32,98,46,32,98,32,45,62,32,98] } { data:=#[52,51] } 20 [1] (by decide +kernel) (by decide) (by decide +kernel) w ht);have H7:=CS (λw ht=>zet { data:=#[102,111,114,97,108,108,32,97,46,32,63,49,32,45,62,32,97] } { data:=#[102,111,114,97,108,108,32,98,46,32,73,110,116,32,45,62,32,98] } { data:=#[48,59,49,61,73,110,116] } 20 [1] (by decide +kernel) (by decide) (by decide +kernel) w ht);clear ht;go_enter Tryz.func12,Tryz.ntmps12
 go_wp2_with fail
 refine(H1.out _ HT.out).mono ?_;rintro e w1 ⟨rfl,b1⟩;have B1:Hid (Below w.heap.size w w1):=CS b1;clear b1 H1;go_wp2_with fail
 refine(H2.out _ (HT.out.below B1.out)).mono ?_;rintro e w2 ⟨rfl,b2⟩;have B2:Hid (Below w.heap.size w w2):=CS (B1.out.trans (b2.mono B1.out.size));clear b2 H2;go_wp2_with fail
 refine(H3.out _ (HT.out.below B2.out)).mono ?_;rintro e w3 ⟨rfl,b3⟩;have B3:Hid (Below w.heap.size w w3):=CS (B2.out.trans (b3.mono B2.out.size));clear b3 H3;go_wp2_with fail
 refine(H4.out _ (HT.out.below B3.out)).mono ?_;rintro e w4 ⟨rfl,b4⟩;have B4:Hid (Below w.heap.size w w4):=CS (B3.out.trans (b4.mono B3.out.size));clear b4 H4;go_wp2_with fail
 refine(H5.out _ (HT.out.below B4.out)).mono ?_;rintro e w5 ⟨rfl,b5⟩;have B5:Hid (Below w.heap.size w w5):=CS (B4.out.trans (b5.mono B4.out.size));clear b5 H5;go_wp2_with fail
 refine(H6.out _ (HT.out.below B5.out)).mono ?_;rintro e w6 ⟨rfl,b6⟩;have B6:Hid (Below w.heap.size w w6):=CS (B5.out.trans (b6.mono B5.out.size));clear b6 H6;go_wp2_with fail
 refine(H7.out _ (HT.out.below B6.out)).mono ?_;rintro e w7 ⟨rfl,b7⟩;have B7:Hid (Below w.heap.size w w7):=CS (B6.out.trans (b7.mono B6.out.size));clear b7 H7;go_wp2_with fail
 go_ret
 exact⟨rfl,B7.out⟩
end Go.Proofs.YtfafilmklhnngaaGreatDoor
