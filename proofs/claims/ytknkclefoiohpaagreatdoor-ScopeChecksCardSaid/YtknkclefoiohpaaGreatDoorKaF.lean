import Derived.Test.YtknkclefoiohpaaGreatDoorKaD
import Derived.Deep.LoopGhost
import Derived.Deep.DeepFit
set_option maxHeartbeats 12800000
namespace Go.Proofs.YtknkclefoiohpaaGreatDoor
open Go.RowKit Lx
set_option maxRecDepth 100000
theorem zec(w:World)(cs:Array Value)(t:TypeId):∀j u,cs.toList[j]?=some u->(w.alloc (.cells cs t)).cell? ((⟨w.heap.size,0,none⟩:Addr).add j)=some u:=by
 intro j u hu;have dS:(⟨w.heap.size,0,none⟩:Addr).add j=⟨w.heap.size,j,none⟩:=by unfold Addr.add;split <;> simp_all
 rw[dS,cell_of_row _ _ _ cs t (0,0) (tW _ _)]
 simpa using hu
theorem zgR:(Tryz.prog.info? 152).map (λi=>(i.zero,i.size,i.bytes))=some (some (.agg #[.int .i64 0,.string ⟨#[]⟩,.int .i64 0]),3,32):=by kernel_rfl
def Head(s:ByteArray)(N g:Nat)(w:World)(v pt:Value)(wr:World):Prop :=
 ∃i p q k ts bt,g=s.size-i/\Step s i p q k/\Known s i ts/\pt=.pointer (some ⟨bt,0,none⟩)/\Blk wr bt 152 #[.int .i64 (k:Nat),.string (s.extract p q),.int .i64 (p:Nat)] /\
  Blk wr N 9 #[.string s]/\Blk wr (N+1) 3 #[.int .i64 (q:Nat)]/\wr.ownsRow N 152 3 v ts.length (zbc ts)/\some bt≠v.ownBlock/\Below N w wr
theorem zji(s:ByteArray)(w w1:World)(p q k:Nat)(st:Step s 0 p q k)
  (hg:((w.alloc (.cells #[.string s] 9)).alloc (.cells #[.int .i64 0] 3)).grownBy w1 (some (w.heap.size+1)))(hh:w1.heap[w.heap.size+1]?=some (.cells #[.int .i64 (q:Nat)] 3 (0,0))):Head s w.heap.size s.size w (.slice none 0 0) (.pointer (some ⟨w1.heap.size,0,none⟩)) (w1.alloc (.cells #[.int .i64 (k:Nat),.string (s.extract p q),.int .i64 (p:Nat)] 152)):=by
 have hN:Blk w1 w.heap.size 9 #[.string s]:=Blk.grown (w:=(w.alloc (.cells #[.string s] 9)).alloc (.cells #[.int .i64 0] 3)) (heap_alloc2_old _ _ _) hg (by simp);have hb:Below w.heap.size w w1:=(((ua _ w).alloc (tV _) _).alloc (by simp) _).grown hg (by simp;omega) (λk hk=>by injection hk;omega);refine⟨0,p,q,k,[],w1.heap.size,by omega,st,zeE s,rfl,tW _ _,hN.alloc _,Blk.alloc hh _,uZ _ _ _ _,by simp[Value.ownBlock],hb.alloc hb.size _⟩
theorem zkl(s:ByteArray)(w wr w2 w3:World)(u2 v':Value)(q p2 q2 k2 k p:Nat)(ts:List Tok)(x0 x1 x2:Value)
  (ST2:Step s q p2 q2 k2)(KN2:Known s q (ts++[⟨k,(s.data.toList.drop p).take (q-p),p⟩]))(aW:Below w.heap.size w wr)
  (aM:wr.ownsRow w.heap.size 152 3 u2 ts.length (zbc ts))
  (jb:(wr.alloc (.cells #[.int .i64 (k:Nat),.string (s.extract p q),.int .i64 (p:Nat)] 152)).grownBy w2 u2.ownBlock)
  (jQ:w2.ownsRow w.heap.size 152 3 v' (ts.length+1) (zbc ts++[.int .i64 (k:Nat),.string (s.extract p q),.int .i64 (p:Nat)]))
  (N1:Blk w2 w.heap.size 9 #[.string s])(A1:Blk w2 (w.heap.size+1) 3 #[.int .i64 (q:Nat)])
  (bw:(w2.alloc (.cells #[x0,x1,x2] 152)).grownBy w3 (some (w.heap.size+1)))
  (HH3:w3.heap[w.heap.size+1]?=some (.cells #[.int .i64 (q2:Nat)] 3 (0,0))):Head s w.heap.size (s.size-q) w v' (.pointer (some ⟨w2.heap.size,0,none⟩))
   (((w3.setCell ⟨w2.heap.size,0,none⟩ (.int .i64 (k2:Nat))).setCell ⟨w2.heap.size,1,none⟩ (.string (s.extract p2 q2))).setCell ⟨w2.heap.size,2,none⟩ (.int .i64 (p2:Nat))):=by
 have hA:=A1.lt;have hN:=N1.lt;have b0:Blk w3 w2.heap.size 152 #[x0,x1,x2]:=Blk.grown (w:=w2.alloc (.cells #[x0,x1,x2] 152)) (tW _ _) bw (by simp;omega);have b1:=uk _ w2.heap.size 0 _ 152 (.int .i64 (k2:Nat)) b0;have b2:=uk _ w2.heap.size 1 _ 152 (.string (s.extract p2 q2)) b1;have b3:=uk _ w2.heap.size 2 _ 152 (.int .i64 (p2:Nat)) b2;have n0:Blk w3 w.heap.size 9 #[.string s]:=(N1.alloc _).grown bw (by simp);have ah:=jQ.lt;have bf:v'.ownBlock≠some w2.heap.size:=λe=>by have:=(ah _ e).2;omega
 have o1:=(jQ.alloc (.cells #[x0,x1,x2] 152)).kept bw (.inr (λe=>zdH jQ A1 (by decide) e.symm));have bl:Below w.heap.size w w2:=(aW.alloc aW.size _).grown jb (by have:=aW.size;simp;omega) (λm hm=>(aM.lt m hm).1);have bl3:Below w.heap.size w w3:=(bl.alloc bl.size _).grown bw (by have:=bl.size;simp;omega) (λm hm=>by injection hm;omega);refine⟨q,p2,q2,k2,ts++[⟨k,(s.data.toList.drop p).take (q-p),p⟩],w2.heap.size,rfl,ST2,KN2,rfl,b3,?_,?_,?_,λe=>bf e.symm,?_⟩
 ·exact((n0.far (p:=⟨w2.heap.size,0,none⟩) (by simp;omega) _).far (p:=⟨w2.heap.size,1,none⟩) (by simp;omega) _).far (p:=⟨w2.heap.size,2,none⟩) (by simp;omega) _
 ·exact((Blk.far (p:=⟨w2.heap.size,0,none⟩) HH3 (by simp;omega) _).far (p:=⟨w2.heap.size,1,none⟩) (by simp;omega) _).far (p:=⟨w2.heap.size,2,none⟩) (by simp;omega) _
 ·have o2:=ownsRow_setCell_other (a:=⟨w2.heap.size,2,none⟩) (ownsRow_setCell_other (a:=⟨w2.heap.size,1,none⟩) (ownsRow_setCell_other (a:=⟨w2.heap.size,0,none⟩) o1 bf (.int .i64 (k2:Nat))) bf (.string (s.extract p2 q2))) bf (.int .i64 (p2:Nat))
  rw[zff,zed,uf]
  exact o2
 ·exact((bl3.setCell (p:=⟨w2.heap.size,0,none⟩) (by simp;omega) _).setCell (p:=⟨w2.heap.size,1,none⟩) (by simp;omega) _).setCell (p:=⟨w2.heap.size,2,none⟩) (by simp;omega) _
theorem below_drewN' {B:Nat} {a w:World}(h:Below B a w)(n:Nat):Below B a (w.drewN n):=⟨h.os,h.tape,h.output,h.size,h.block⟩
theorem ziz(s:ByteArray)(ts:List Tok)(hl:s.size<=4000)(h:lex s.data.toList=.ok ts):zaX s.data.toList=(ts,0,0):=by
 unfold zaX;rw[ue (by rw[<-vf];omega),h]
theorem zgS(s:ByteArray)(p:Nat)(hl:s.size<=4000)(h:lex s.data.toList=.error p):zaX s.data.toList=([],p,10):=by
 unfold zaX;rw[ue (by rw[<-vf];omega),h]
def ScanPost(s:ByteArray)(w:World)(e:Ending)(w':World):Prop :=
 Below w.heap.size w w'/\∃v ts at_ er,zaX s.data.toList=(ts,at_,er)/\e=.returned (.tuple #[v,.int .i64 (at_:Nat),.int .i64 (er:Nat)])/\w'.ownsRow w.heap.size 152 3 v ts.length (zbc ts)
theorem zkm(s:ByteArray)(w:World)(hs:s.size<=maxLen)(hl:4000<s.size):Calls Tryz.prog 72 #[.string s] w (ScanPost s w):=by
 have HS:Hid (zaX s.data.toList=([],0,2)):=by
  refine wJ ?_;unfold zaX;rw[ud (by rw[<-vf];exact hl)]
 unfold maxLen at hs;go_enter Tryz.func72,Tryz.ntmps72
 go_wp2
 go_ret3
 exact⟨ua _ _,_,[],0,2,HS.out,rfl,uZ _ _ _ _⟩
theorem zjj(s:ByteArray)(w:World)(hl:s.size<=4000):Calls Tryz.prog 72 #[.string s] w (ScanPost s w):=by
 have hm:s.size<=maxLen:=by unfold maxLen;omega
 obtain⟨i0,bJ,bO,bz,bE⟩:=vz zgR;obtain⟨p0,q0,k0,rD⟩:=zfI s 0 (vK _);have ST0:=wJ rD;clear rD;go_enter Tryz.func72,Tryz.ntmps72
 go_wp2_with (first
  |(go_at_call 124;refine(zjf _ _).mono ?_;rintro e w' ⟨rfl,rfl⟩)
  |(go_at_call 157;refine(zf1 s 0 p0 q0 k0 (w.heap.size+1) w.heap.size _ hm ST0.out (by omega) (heap_alloc2_new _ _ _) (heap_alloc2_old _ _ _)).mono ?_;rintro e w1 ⟨rfl,hg1,hh1⟩))
 have be:=zji s w w1 p0 q0 k0 ST0.out hg1 hh1;clear hg1 hh1 ST0;go_loopg [2,6] s.size (λg v pt wr=>Head s w.heap.size g w v pt wr)
 case atStart=>exact be
 case round =>
  clear be;obtain⟨i,p,q,k,ts,bt,rfl,st,kn,rfl,eM,hbN,kb,ae,bf,bp⟩:=hrel;have ST:=wJ st;have KN:=wJ kn;have c0:=eM.cell 0;have c1:=eM.cell 1;have c2:=eM.cell 2;simp at c0 c1 c2;have jd:p<=s.size:=by have:=st.2.1;have:=st.2.2.1;omega
  clear st kn;have nW:=wJ eM;have HBN:=wJ hbN;have fU:=wJ kb;have aM:=wJ ae;have HNE:=wJ bf;have aW:=wJ bp;clear eM hbN kb ae bf bp;by_cases ah:p<s.size
  ·by_cases hk:k=0
   ·have hkb:((k:Int)==0)=true:=by rw[hk];rfl
    have HK:=wJ hk;clear hk;go_wp2_with fail
    go_quiet (fail)
    go_wp2_with fail
    go_ret3
    exact⟨below_drewN' aW.out _,_,[],p,10,zgS s p hl (zf0 s i p q ts KN.out (HK.out▸ST.out) ah),rfl,uZ _ _ _ _⟩
   ·have hkb:((k:Int)==0)=false:=by rw[uY];intro h;simp at h;omega
    obtain⟨hiq,kn'⟩:=zfh s i p q k ts KN.out ST.out ah hk;have j5:=ST.out.2.2.1;obtain⟨p2,q2,k2,st2⟩:=zfI s q j5;have ST2:=wJ st2;have KN2:=wJ kn';have ru:=KN.out.2;clear hk st2 kn' ST KN;go_wp2_with (first
     |(at_builtin;refine wpList_append_own _ rfl (.tmp 26) (.tmp 28) 76 rfl w.heap.size 152 i0 _ 3 32 Tryz.underlying76 bJ bO bz bE rfl (by decide) u2 ts.length (zbc ts) rfl (aM.out.alloc _) ⟨wr.heap.size,0,none⟩ 1 1 [.int .i64 (k:Nat),.string (s.extract p q),.int .i64 (p:Nat)] rfl rfl (zec wr #[.int .i64 (k:Nat),.string (s.extract p q),.int .i64 (p:Nat)] _) (by intro u hu;simp at hu;rcases hu with rfl|rfl|rfl <;> rfl) (by unfold maxLen;omega) (by omega) (by have:=aW.out.size;simp;omega) ?_;intro v' w2 iO ab _;have B1:=(nW.out.alloc _).grown ab HNE.out;have d0:=B1.cell 0;have d1:=B1.cell 1;have d2:=B1.cell 2;have aJ:=wJ B1;clear B1;simp at d0 d1 d2;have jb:=wJ ab;have jQ:=wJ iO;clear iO ab;have N1:=wJ ((HBN.out.alloc _).grown jb.out (zdH aM.out HBN.out (by decide)));have A1:=wJ ((fU.out.alloc _).grown jb.out (zdH aM.out fU.out (by decide))))
     |(go_at_call 157;refine(zf1 s q p2 q2 k2 (w.heap.size+1) w.heap.size _ hm ST2.out (by omega) (A1.out.alloc _) (N1.out.alloc _)).mono ?_;rintro e w3 ⟨rfl,eP,hh3⟩;have bw:=wJ eP;have HH3:=wJ hh3;clear eP hh3;have hAl:=A1.out.lt;have B3:Blk w3 w2.heap.size 152 #[.int .i64 (k:Nat),.string (s.extract p q),.int .i64 (p:Nat)]:=Blk.grown (tW _ _) bw.out (by simp;omega);have e0:=B3.cell 0;have e1:=B3.cell 1;have e2:=B3.cell 2;have f0:=B3.frozen 0;have f1:=B3.frozen 1;have f2:=B3.frozen 2;clear B3;simp at e0 e1 e2))
    go_roundg (s.size-q)
    case measure=>omega
    case rel=>exact zkl s w wr w2 w3 u2 v' q p2 q2 k2 k p ts _ _ _ ST2.out KN2.out aW.out aM.out jb.out jQ.out N1.out A1.out bw.out HH3.out
  ·go_wp2_with fail
   go_ret3
   exact⟨aW.out,_,ts,0,0,ziz s ts hl (zfg s i p q k ts KN.out ST.out ah),rfl,aM.out⟩
theorem zgT(s:ByteArray)(w:World)(hs:s.size<=maxLen):Calls Tryz.prog 72 #[.string s] w (ScanPost s w):=by
 by_cases h:4000<s.size
 ·exact zkm s w hs h
 ·exact zjj s w (by omega)
set_option maxRecDepth 100000
theorem zam(c:UInt8)(w:World):Calls Tryz.prog 130 #[.int .u8 c.toNat] w λe w'=>e=.returned (.bool (isLet c))/\w=w':=by
 rcases(show(c.toNat<=64)\/(65<=c.toNat/\c.toNat<=90)\/(91<=c.toNat/\c.toNat<=96)\/(97<=c.toNat/\c.toNat<=122)\/(123<=c.toNat) by omega) with h0|h1|h2|h3|h4
 ·have d97:decide ((97:Int)<=(c.toNat:Int))=false:=ux (by omega)
  have d122:decide ((c.toNat:Int)<=122)=true:=uB (by omega);have d65:decide ((65:Int)<=(c.toNat:Int))=false:=ux (by omega);have d90:decide ((c.toNat:Int)<=90)=true:=uB (by omega);have hr:isLet c=false:=by simp[isLet,isUp];omega
  go_enter Tryz.func130,Tryz.ntmps130
  go_wp2
  go_ret
  exact⟨zar hr.symm,rfl⟩
 ·have d97:decide ((97:Int)<=(c.toNat:Int))=false:=ux (by omega)
  have d122:decide ((c.toNat:Int)<=122)=true:=uB (by omega);have d65:decide ((65:Int)<=(c.toNat:Int))=true:=uB (by omega);have d90:decide ((c.toNat:Int)<=90)=true:=uB (by omega);have hr:isLet c=true:=by simp[isLet,isUp];omega
  go_enter Tryz.func130,Tryz.ntmps130
  go_wp2
  go_ret
  exact⟨zar hr.symm,rfl⟩
 ·have d97:decide ((97:Int)<=(c.toNat:Int))=false:=ux (by omega)
  have d122:decide ((c.toNat:Int)<=122)=true:=uB (by omega);have d65:decide ((65:Int)<=(c.toNat:Int))=true:=uB (by omega);have d90:decide ((c.toNat:Int)<=90)=false:=ux (by omega);have hr:isLet c=false:=by simp[isLet,isUp];omega
  go_enter Tryz.func130,Tryz.ntmps130
  go_wp2
  go_ret
  exact⟨zar hr.symm,rfl⟩
 ·have d97:decide ((97:Int)<=(c.toNat:Int))=true:=uB (by omega)
  have d122:decide ((c.toNat:Int)<=122)=true:=uB (by omega);have d65:decide ((65:Int)<=(c.toNat:Int))=true:=uB (by omega);have d90:decide ((c.toNat:Int)<=90)=false:=ux (by omega);have hr:isLet c=true:=by simp[isLet,isUp];omega
  go_enter Tryz.func130,Tryz.ntmps130
  go_wp2
  go_ret
  exact⟨zar hr.symm,rfl⟩
 ·have d97:decide ((97:Int)<=(c.toNat:Int))=true:=uB (by omega)
  have d122:decide ((c.toNat:Int)<=122)=false:=ux (by omega);have d65:decide ((65:Int)<=(c.toNat:Int))=true:=uB (by omega);have d90:decide ((c.toNat:Int)<=90)=false:=ux (by omega);have hr:isLet c=false:=by simp[isLet,isUp];omega
  go_enter Tryz.func130,Tryz.ntmps130
  go_wp2
  go_ret
  exact⟨zar hr.symm,rfl⟩
theorem zal(c:UInt8)(w:World):Calls Tryz.prog 131 #[.int .u8 c.toNat] w λe w'=>e=.returned (.bool (isDig c))/\w=w':=by
 rcases(show(c.toNat<=47)\/(48<=c.toNat/\c.toNat<=57)\/(58<=c.toNat) by omega) with h0|h1|h2
 ·have d48:decide ((48:Int)<=(c.toNat:Int))=false:=ux (by omega)
  have d57:decide ((c.toNat:Int)<=57)=true:=uB (by omega);have hr:isDig c=false:=by simp[isDig];omega
  go_enter Tryz.func131,Tryz.ntmps131
  go_wp2
  go_ret
  exact⟨zar hr.symm,rfl⟩
 ·have d48:decide ((48:Int)<=(c.toNat:Int))=true:=uB (by omega)
  have d57:decide ((c.toNat:Int)<=57)=true:=uB (by omega);have hr:isDig c=true:=by simp[isDig];omega
  go_enter Tryz.func131,Tryz.ntmps131
  go_wp2
  go_ret
  exact⟨zar hr.symm,rfl⟩
 ·have d48:decide ((48:Int)<=(c.toNat:Int))=true:=uB (by omega)
  have d57:decide ((c.toNat:Int)<=57)=false:=ux (by omega);have hr:isDig c=false:=by simp[isDig];omega
  go_enter Tryz.func131,Tryz.ntmps131
  go_wp2
  go_ret
  exact⟨zar hr.symm,rfl⟩
theorem zew(s:ByteArray)(i:Nat)(hb:badNum (s.data.toList.drop i)=true):i=i+(number (s.data.toList.drop i)).2:=by
 rw[zbJ _ hb];rfl
theorem zdJ(s:ByteArray)(i k:Nat)(h:Hid (k=i+span isDig (s.data.toList.drop i)))(hb:badNum (s.data.toList.drop i)=false):k=i+(number (s.data.toList.drop i)).2:=by
 rw[zcp _ _ hb (wJ rfl)];exact h.out
theorem zgU(s:ByteArray)(i k:Nat)(h:Hid (k=i+span isDig (s.data.toList.drop i)))(hk:k=i):k=i+(number (s.data.toList.drop i)).2:=by
 have h0:span isDig (s.data.toList.drop i)=0:=by have:=h.out;omega
 rw[zbJ _ (by unfold badNum;rw[h0];simp)];exact hk
theorem head_drop(s:ByteArray)(i:Nat)(h:i<s.size):(s.data.toList.drop i).headD 0=s[i]:=by rw[drop_at s i h];rfl
theorem zbA(s:ByteArray)(i k:Nat)(hi:i<s.size)(h:Hid (k=i+span isDig (s.data.toList.drop i))):badNum (s.data.toList.drop i)=decide (k-i=0\/6<k-i\/(1<k-i/\s[i]=48)):=by
 unfold badNum;rw[head_drop s i hi,show span isDig (s.data.toList.drop i)=k-i by have:=h.out;omega]
theorem zcU(p:UInt8->Bool)(s:ByteArray)(i:Nat)(hi:i<=s.size):i+span p (s.data.toList.drop i)<=s.size:=by
 have:=zdv p (s.data.toList.drop i);rw[uR,<-vf]at this
 omega
theorem zfi(s:ByteArray)(i:Nat)(w:World)(hs:s.size<=4000)(hi:i<=s.size):Calls Tryz.prog 132 #[.string s,.int .i64 i] w λe w'=>e=.returned (.int .i64 ((i+(number (s.data.toList.drop i)).2:Nat):Int))/\w=w':=by
 obtain⟨N,hN⟩:∃N,N=i+span isDig (s.data.toList.drop i):=⟨_,rfl⟩;obtain⟨R,hR⟩:∃R,R=i+(number (s.data.toList.drop i)).2:=⟨_,rfl⟩;have hNs:N<=s.size:=by rw[hN];exact zcU _ _ _ hi
 have HN:=wJ hN;have HR:=wJ hR;rw[<-hR]
 clear hN hR;go_enter Tryz.func132,Tryz.ntmps132
 go_wp2
 go_loopg [5] (s.size-i) (λgg v wr=>∃k:Nat,gg=s.size-k/\v=.int .i64 k/\wr=w/\i<=k/\k<=s.size/\k+span isDig (s.data.toList.drop k)=N)
 case atStart=>exact⟨i,rfl,rfl,rfl,by omega,hi,HN.out.symm⟩
 case round =>
  obtain⟨k,rfl,rfl,rfl,jg,hk,hn⟩:=hrel;by_cases ah:k<s.size
  ·by_cases hp:isDig s[k]=true
   ·have HS:=wJ (zda _ s k _ ah hn hp)
    clear hn;go_wp2_with (go_at_call 131;refine(zal _ _).mono ?_;rintro e w' ⟨rfl,rfl⟩)
    go_roundg (s.size-(k+1))
    case measure=>omega
    case rel=>exact⟨k+1,rfl,by go_num,rfl,by omega,by omega,HS.out⟩
   ·have hp:isDig s[k]=false:=by simpa using hp
    obtain rfl:k=N:=zdb _ s k _ ah hn hp;clear hn;by_cases h6:6<k-i
    ·have d6:decide ((6:Int)<(k:Int)-(i:Int))=true:=uB (by omega)
     have hr:=wJ (zew s i (by rw[zbA s i k (by omega) HN];simp;omega));go_wp2_with (go_at_call 131;refine(zal _ _).mono ?_;rintro e w' ⟨rfl,rfl⟩)
     go_ret
     exact⟨zaK (by rw[HR.out,<-hr.out]),rfl⟩
    ·have d6:decide ((6:Int)<(k:Int)-(i:Int))=false:=ux (by omega)
     by_cases h1:1<k-i
     ·have d1:decide ((1:Int)<(k:Int)-(i:Int))=true:=uB (by omega)
      have his:i<s.size:=by omega
      by_cases hd:s[i]=48
      ·have d48:((s[i].toNat:Int)==48)=true:=u8t _ 48 hd
       have hr:=wJ (zew s i (by rw[zbA s i k (by omega) HN];simp[h1,hd]));clear hd;go_wp2_with (go_at_call 131;refine(zal _ _).mono ?_;rintro e w' ⟨rfl,rfl⟩)
       go_ret
       exact⟨zaK (by rw[HR.out,<-hr.out]),rfl⟩
      ·have d48:((s[i].toNat:Int)==48)=false:=u8f _ 48 hd
       have hr:=wJ (zdJ s i k HN (by rw[zbA s i k (by omega) HN];simp[hd];omega));clear hd;go_wp2_with (go_at_call 131;refine(zal _ _).mono ?_;rintro e w' ⟨rfl,rfl⟩)
       go_ret
       exact⟨zaK (by rw[HR.out,<-hr.out]),rfl⟩
     ·have d1:decide ((1:Int)<(k:Int)-(i:Int))=false:=ux (by omega)
      have hr:Hid (k=i+(number (s.data.toList.drop i)).2):=by
       by_cases he:k=i
       ·exact wJ (zgU s i k HN he)
       ·exact wJ (zdJ s i k HN (by rw[zbA s i k (by omega) HN];simp;omega))
      go_wp2_with (go_at_call 131;refine(zal _ _).mono ?_;rintro e w' ⟨rfl,rfl⟩)
      go_ret
      exact⟨zaK (by rw[HR.out,<-hr.out]),rfl⟩
  ·obtain rfl:k=N:=zdE _ s k _ (by omega) hn
   clear hn;by_cases h6:6<k-i
   ·have d6:decide ((6:Int)<(k:Int)-(i:Int))=true:=uB (by omega)
    have hr:=wJ (zew s i (by rw[zbA s i k (by omega) HN];simp;omega));go_wp2_with fail
    go_ret
    exact⟨zaK (by rw[HR.out,<-hr.out]),rfl⟩
   ·have d6:decide ((6:Int)<(k:Int)-(i:Int))=false:=ux (by omega)
    by_cases h1:1<k-i
    ·have d1:decide ((1:Int)<(k:Int)-(i:Int))=true:=uB (by omega)
     have his:i<s.size:=by omega
     by_cases hd:s[i]=48
     ·have d48:((s[i].toNat:Int)==48)=true:=u8t _ 48 hd
      have hr:=wJ (zew s i (by rw[zbA s i k (by omega) HN];simp[h1,hd]));clear hd;go_wp2_with fail
      go_ret
      exact⟨zaK (by rw[HR.out,<-hr.out]),rfl⟩
     ·have d48:((s[i].toNat:Int)==48)=false:=u8f _ 48 hd
      have hr:=wJ (zdJ s i k HN (by rw[zbA s i k (by omega) HN];simp[hd];omega));clear hd;go_wp2_with fail
      go_ret
      exact⟨zaK (by rw[HR.out,<-hr.out]),rfl⟩
    ·have d1:decide ((1:Int)<(k:Int)-(i:Int))=false:=ux (by omega)
     have hr:Hid (k=i+(number (s.data.toList.drop i)).2):=by
      by_cases he:k=i
      ·exact wJ (zgU s i k HN he)
      ·exact wJ (zdJ s i k HN (by rw[zbA s i k (by omega) HN];simp;omega))
     go_wp2_with fail
     go_ret
     exact⟨zaK (by rw[HR.out,<-hr.out]),rfl⟩
set_option maxRecDepth 100000
theorem zcV(s:ByteArray)(i:Nat)(hi:i<s.size):first (s.data.toList.drop i)=if isLet s[i] then word (s.data.toList.drop i) else if isDig s[i] then number (s.data.toList.drop i) else if s[i]=63 then zbf (s.data.toList.drop i) else sign (s.data.toList.drop i):=by
 rw[drop_at s i hi];rfl
theorem zl8(s:ByteArray)(i k:Nat)(hi:i<s.size)(hl:isLet s[i]=true)(h:Hid (k=i+span inW (s.data.toList.drop i)))(hk:16<k-i):first (s.data.toList.drop i)=(0,0):=by
 rw[zcV s i hi,ud hl,word,show span inW (s.data.toList.drop i)=k-i by have:=h.out;omega,ud hk]
theorem zl9(s:ByteArray)(i k:Nat)(hi:i<s.size)(hl:isLet s[i]=true)(h:Hid (k=i+span inW (s.data.toList.drop i)))(hk:¬16<k-i):first (s.data.toList.drop i)=(wordKind (s.extract i k).data.toList,k-i):=by
 rw[zcV s i hi,ud hl,word,show span inW (s.data.toList.drop i)=k-i by have:=h.out;omega,ue hk,Lib.extract_data]
theorem zma(s:ByteArray)(i k:Nat)(hi:i<s.size)(jg:i<k):(s.extract i k).data.toList.headD 0=s[i]:=by
 rw[Lib.extract_data,drop_at s i hi,show k-i=(k-i-1)+1 by omega,vO];rfl
theorem zo8(l:List UInt8)(W:ByteArray)(hW:W.data.toList=l)(h:W.toList∈keys):wordKind l=3:=by
 rw[uK,hW]at h
 simp[wordKind,h]
theorem zpL(l:List UInt8)(W:ByteArray)(hW:W.data.toList=l)(h:W.toList∉keys)(hu:isUp (l.headD 0)=true):wordKind l=2:=by
 rw[uK,hW]at h
 unfold wordKind;rw[ue h,ud hu]
theorem zo9(l:List UInt8)(W:ByteArray)(hW:W.data.toList=l)(h:W.toList∉keys)(hu:isUp (l.headD 0)=false):wordKind l=1:=by
 rw[uK,hW]at h
 unfold wordKind;rw[ue h,hu];rfl
theorem zjk(s:ByteArray)(i:Nat)(w:World)(hs:s.size<=4000)(hi:i<s.size)(hl:isLet s[i]=true):Calls Tryz.prog 80 #[.string s,.int .i64 i] w λe w'=>e=.returned (.tuple #[.int .i64 ((first (s.data.toList.drop i)).1:Nat),.int .i64 ((i+(first (s.data.toList.drop i)).2:Nat):Int)])/\w=w':=by
 obtain⟨N,hN⟩:∃N,N=i+span inW (s.data.toList.drop i):=⟨_,rfl⟩;obtain⟨K,hK⟩:∃K,K=(first (s.data.toList.drop i)).1:=⟨_,rfl⟩;obtain⟨E,hE⟩:∃E,E=i+(first (s.data.toList.drop i)).2:=⟨_,rfl⟩;have hNs:N<=s.size:=by rw[hN];exact zcU _ _ _ (by omega)
 have hiN:i<N:=by
  have:1<=span inW (s.data.toList.drop i):=by rw[drop_at s i hi];exact zdG _ _ hl
  omega
 have je:=zkj s[i] hl;have HN:=wJ hN;have HK:=wJ hK;have HE:=wJ hE;rw[<-hK,<-hE]
 clear hN hK hE;go_enter Tryz.func80,Tryz.ntmps80
 go_wp2_with (go_at_call 130;refine(zam _ _).mono ?_;rintro e w' ⟨rfl,rfl⟩)
 go_loopg [7] (s.size-i) (λgg v wr=>∃k:Nat,gg=s.size-k/\v=.int .i64 k/\wr=w/\i<=k/\k<=s.size/\k+span inW (s.data.toList.drop k)=N)
 case atStart=>exact⟨i,rfl,rfl,rfl,by omega,by omega,HN.out.symm⟩
 case round =>
  obtain⟨k,rfl,rfl,rfl,jg,hk,hn⟩:=hrel;by_cases hgo:∃h:k<s.size,inW s[k]=true
  ·obtain⟨ah,hp⟩:=hgo
   have HS:=wJ (zda _ s k _ ah hn hp);clear hn;by_cases lE:isLet s[k]=true
   ·go_wp2_with (first|(go_at_call 130;refine(zam _ _).mono ?_;rintro e w' ⟨rfl,rfl⟩)|(go_at_call 131;refine(zal _ _).mono ?_;rintro e w' ⟨rfl,rfl⟩))
    go_roundg (s.size-(k+1))
    case measure=>omega
    case rel=>exact⟨k+1,rfl,by go_num,rfl,by omega,by omega,HS.out⟩
   ·have lE:isLet s[k]=false:=by simpa using lE
    by_cases hdk:isDig s[k]=true
    ·go_wp2_with (first|(go_at_call 130;refine(zam _ _).mono ?_;rintro e w' ⟨rfl,rfl⟩)|(go_at_call 131;refine(zal _ _).mono ?_;rintro e w' ⟨rfl,rfl⟩))
     go_roundg (s.size-(k+1))
     case measure=>omega
     case rel=>exact⟨k+1,rfl,by go_num,rfl,by omega,by omega,HS.out⟩
    ·have hdk:isDig s[k]=false:=by simpa using hdk
     have e95:s[k]=95:=by simpa[inW,lE,hdk] using hp
     have d95:((s[k].toNat:Int)==95)=true:=u8t _ 95 e95;clear e95 hp;go_wp2_with (first|(go_at_call 130;refine(zam _ _).mono ?_;rintro e w' ⟨rfl,rfl⟩)|(go_at_call 131;refine(zal _ _).mono ?_;rintro e w' ⟨rfl,rfl⟩))
     go_roundg (s.size-(k+1))
     case measure=>omega
     case rel=>exact⟨k+1,rfl,by go_num,rfl,by omega,by omega,HS.out⟩
  ·have hkN:k=N:=by
    by_cases ah:k<s.size
    ·exact zdb _ s k _ ah hn (by simpa using λh=>hgo ⟨ah,h⟩)
    ·exact zdE _ s k _ (by omega) hn
   obtain rfl:=hkN;clear hn;have od:k<s.size->∃h:k<s.size,isLet s[k]=false/\isDig s[k]=false/\((s[k].toNat:Int)==95)=false:=λh=>by
    have hp:inW s[k]=false:=by simpa using λe=>hgo ⟨h,e⟩
    simp[inW]at hp
    exact⟨h,hp.1.1,hp.1.2,u8f _ 95 hp.2⟩
   have ey:=wJ od;clear hgo od;by_cases h16:16<k-i
   ·have d16:decide ((16:Int)<(k:Int)-(i:Int))=true:=uB (by omega)
    have hf:=zl8 s i k hi hl HN h16;have H1:=wJ (show K=0/\E=i by rw[HK.out,HE.out,hf];exact⟨rfl,rfl⟩);clear hf;by_cases ah:k<s.size
    ·obtain⟨_,f1,f2,f3⟩:=ey.out ah
     go_wp2_with (first|(go_at_call 130;refine(zam _ _).mono ?_;rintro e w' ⟨rfl,rfl⟩)|(go_at_call 131;refine(zal _ _).mono ?_;rintro e w' ⟨rfl,rfl⟩))
     go_ret2
     exact⟨zau (by rw[H1.out.1];rfl) (by rw[H1.out.2]),rfl⟩
    ·go_wp2_with (first|(go_at_call 130;refine(zam _ _).mono ?_;rintro e w' ⟨rfl,rfl⟩)|(go_at_call 131;refine(zal _ _).mono ?_;rintro e w' ⟨rfl,rfl⟩))
     go_ret2
     exact⟨zau (by rw[H1.out.1];rfl) (by rw[H1.out.2]),rfl⟩
   ·have d16:decide ((16:Int)<(k:Int)-(i:Int))=false:=ux (by omega)
    have hf:=zl9 s i k hi hl HN h16;have lH:=zma s i k hi hiN;obtain⟨W,hW⟩:∃W,s.extract i k=W:=⟨_,rfl⟩;rw[hW]at hf lH
    have H1:=wJ (show K=wordKind W.data.toList/\E=k by rw[HK.out,HE.out,hf];exact⟨rfl,by simp;omega⟩);clear hf;by_cases hm:W.toList∈keys
    ·have my:=zo8 _ W rfl hm
     simp only[keys,uT,u9,vY]at hm;rcases hm with hm|hm|hm|hm|hm|hm
     ·have e0:(W.toList==[100,97,116,97])=true:=by rw[hm];rfl
      have H2:=wJ (H1.out.1.trans (my));clear hm lH;by_cases ah:k<s.size
      ·obtain⟨_,f1,f2,f3⟩:=ey.out ah
       go_wp2_with (first|(go_at_call 130;refine(zam _ _).mono ?_;rintro e w' ⟨rfl,rfl⟩)|(go_at_call 131;refine(zal _ _).mono ?_;rintro e w' ⟨rfl,rfl⟩))
       go_ret2
       exact⟨zau (by rw[H2.out];rfl) (by rw[H1.out.2]),rfl⟩
      ·go_wp2_with (first|(go_at_call 130;refine(zam _ _).mono ?_;rintro e w' ⟨rfl,rfl⟩)|(go_at_call 131;refine(zal _ _).mono ?_;rintro e w' ⟨rfl,rfl⟩))
       go_ret2
       exact⟨zau (by rw[H2.out];rfl) (by rw[H1.out.2]),rfl⟩
     ·have e0:(W.toList==[100,97,116,97])=false:=by rw[hm];rfl
      have e1:(W.toList==[108,101,116])=true:=by rw[hm];rfl
      have H2:=wJ (H1.out.1.trans (my));clear hm lH;by_cases ah:k<s.size
      ·obtain⟨_,f1,f2,f3⟩:=ey.out ah
       go_wp2_with (first|(go_at_call 130;refine(zam _ _).mono ?_;rintro e w' ⟨rfl,rfl⟩)|(go_at_call 131;refine(zal _ _).mono ?_;rintro e w' ⟨rfl,rfl⟩))
       go_ret2
       exact⟨zau (by rw[H2.out];rfl) (by rw[H1.out.2]),rfl⟩
      ·go_wp2_with (first|(go_at_call 130;refine(zam _ _).mono ?_;rintro e w' ⟨rfl,rfl⟩)|(go_at_call 131;refine(zal _ _).mono ?_;rintro e w' ⟨rfl,rfl⟩))
       go_ret2
       exact⟨zau (by rw[H2.out];rfl) (by rw[H1.out.2]),rfl⟩
     ·have e0:(W.toList==[100,97,116,97])=false:=by rw[hm];rfl
      have e1:(W.toList==[108,101,116])=false:=by rw[hm];rfl
      have e2:(W.toList==[105,110])=true:=by rw[hm];rfl
      have H2:=wJ (H1.out.1.trans (my));clear hm lH;by_cases ah:k<s.size
      ·obtain⟨_,f1,f2,f3⟩:=ey.out ah
       go_wp2_with (first|(go_at_call 130;refine(zam _ _).mono ?_;rintro e w' ⟨rfl,rfl⟩)|(go_at_call 131;refine(zal _ _).mono ?_;rintro e w' ⟨rfl,rfl⟩))
       go_ret2
       exact⟨zau (by rw[H2.out];rfl) (by rw[H1.out.2]),rfl⟩
      ·go_wp2_with (first|(go_at_call 130;refine(zam _ _).mono ?_;rintro e w' ⟨rfl,rfl⟩)|(go_at_call 131;refine(zal _ _).mono ?_;rintro e w' ⟨rfl,rfl⟩))
       go_ret2
       exact⟨zau (by rw[H2.out];rfl) (by rw[H1.out.2]),rfl⟩
     ·have e0:(W.toList==[100,97,116,97])=false:=by rw[hm];rfl
      have e1:(W.toList==[108,101,116])=false:=by rw[hm];rfl
      have e2:(W.toList==[105,110])=false:=by rw[hm];rfl
      have e3:(W.toList==[99,97,115,101])=true:=by rw[hm];rfl
      have H2:=wJ (H1.out.1.trans (my));clear hm lH;by_cases ah:k<s.size
      ·obtain⟨_,f1,f2,f3⟩:=ey.out ah
       go_wp2_with (first|(go_at_call 130;refine(zam _ _).mono ?_;rintro e w' ⟨rfl,rfl⟩)|(go_at_call 131;refine(zal _ _).mono ?_;rintro e w' ⟨rfl,rfl⟩))
       go_ret2
       exact⟨zau (by rw[H2.out];rfl) (by rw[H1.out.2]),rfl⟩
      ·go_wp2_with (first|(go_at_call 130;refine(zam _ _).mono ?_;rintro e w' ⟨rfl,rfl⟩)|(go_at_call 131;refine(zal _ _).mono ?_;rintro e w' ⟨rfl,rfl⟩))
       go_ret2
       exact⟨zau (by rw[H2.out];rfl) (by rw[H1.out.2]),rfl⟩
     ·have e0:(W.toList==[100,97,116,97])=false:=by rw[hm];rfl
      have e1:(W.toList==[108,101,116])=false:=by rw[hm];rfl
      have e2:(W.toList==[105,110])=false:=by rw[hm];rfl
      have e3:(W.toList==[99,97,115,101])=false:=by rw[hm];rfl
      have e4:(W.toList==[111,102])=true:=by rw[hm];rfl
      have H2:=wJ (H1.out.1.trans (my));clear hm lH;by_cases ah:k<s.size
      ·obtain⟨_,f1,f2,f3⟩:=ey.out ah
       go_wp2_with (first|(go_at_call 130;refine(zam _ _).mono ?_;rintro e w' ⟨rfl,rfl⟩)|(go_at_call 131;refine(zal _ _).mono ?_;rintro e w' ⟨rfl,rfl⟩))
       go_ret2
       exact⟨zau (by rw[H2.out];rfl) (by rw[H1.out.2]),rfl⟩
      ·go_wp2_with (first|(go_at_call 130;refine(zam _ _).mono ?_;rintro e w' ⟨rfl,rfl⟩)|(go_at_call 131;refine(zal _ _).mono ?_;rintro e w' ⟨rfl,rfl⟩))
       go_ret2
       exact⟨zau (by rw[H2.out];rfl) (by rw[H1.out.2]),rfl⟩
     ·have e0:(W.toList==[100,97,116,97])=false:=by rw[hm];rfl
      have e1:(W.toList==[108,101,116])=false:=by rw[hm];rfl
      have e2:(W.toList==[105,110])=false:=by rw[hm];rfl
      have e3:(W.toList==[99,97,115,101])=false:=by rw[hm];rfl
      have e4:(W.toList==[111,102])=false:=by rw[hm];rfl
      have e5:(W.toList==[102,111,114,97,108,108])=true:=by rw[hm];rfl
      have H2:=wJ (H1.out.1.trans (my));clear hm lH;by_cases ah:k<s.size
      ·obtain⟨_,f1,f2,f3⟩:=ey.out ah
       go_wp2_with (first|(go_at_call 130;refine(zam _ _).mono ?_;rintro e w' ⟨rfl,rfl⟩)|(go_at_call 131;refine(zal _ _).mono ?_;rintro e w' ⟨rfl,rfl⟩))
       go_ret2
       exact⟨zau (by rw[H2.out];rfl) (by rw[H1.out.2]),rfl⟩
      ·go_wp2_with (first|(go_at_call 130;refine(zam _ _).mono ?_;rintro e w' ⟨rfl,rfl⟩)|(go_at_call 131;refine(zal _ _).mono ?_;rintro e w' ⟨rfl,rfl⟩))
       go_ret2
       exact⟨zau (by rw[H2.out];rfl) (by rw[H1.out.2]),rfl⟩
    ·have e0:(W.toList==[100,97,116,97])=false:=by rw[uo];intro e;exact hm (by rw[e];decide)
     have e1:(W.toList==[108,101,116])=false:=by rw[uo];intro e;exact hm (by rw[e];decide)
     have e2:(W.toList==[105,110])=false:=by rw[uo];intro e;exact hm (by rw[e];decide)
     have e3:(W.toList==[99,97,115,101])=false:=by rw[uo];intro e;exact hm (by rw[e];decide)
     have e4:(W.toList==[111,102])=false:=by rw[uo];intro e;exact hm (by rw[e];decide)
     have e5:(W.toList==[102,111,114,97,108,108])=false:=by rw[uo];intro e;exact hm (by rw[e];decide)
     by_cases hup:s[i].toNat<=90
     ·have d90:decide ((s[i].toNat:Int)<=90)=true:=uB (by omega)
      have my:=zpL _ W rfl hm (by rw[lH];simp[isUp];omega);have H2:=wJ (H1.out.1.trans (my));clear hm lH;by_cases ah:k<s.size
      ·obtain⟨_,f1,f2,f3⟩:=ey.out ah
       go_wp2_with (first|(go_at_call 130;refine(zam _ _).mono ?_;rintro e w' ⟨rfl,rfl⟩)|(go_at_call 131;refine(zal _ _).mono ?_;rintro e w' ⟨rfl,rfl⟩))
       go_ret2
       exact⟨zau (by rw[H2.out];rfl) (by rw[H1.out.2]),rfl⟩
      ·go_wp2_with (first|(go_at_call 130;refine(zam _ _).mono ?_;rintro e w' ⟨rfl,rfl⟩)|(go_at_call 131;refine(zal _ _).mono ?_;rintro e w' ⟨rfl,rfl⟩))
       go_ret2
       exact⟨zau (by rw[H2.out];rfl) (by rw[H1.out.2]),rfl⟩
     ·have d90:decide ((s[i].toNat:Int)<=90)=false:=ux (by omega)
      have my:=zo9 _ W rfl hm (by rw[lH];simp[isUp];omega);have H2:=wJ (H1.out.1.trans (my));clear hm lH;by_cases ah:k<s.size
      ·obtain⟨_,f1,f2,f3⟩:=ey.out ah
       go_wp2_with (first|(go_at_call 130;refine(zam _ _).mono ?_;rintro e w' ⟨rfl,rfl⟩)|(go_at_call 131;refine(zal _ _).mono ?_;rintro e w' ⟨rfl,rfl⟩))
       go_ret2
       exact⟨zau (by rw[H2.out];rfl) (by rw[H1.out.2]),rfl⟩
      ·go_wp2_with (first|(go_at_call 130;refine(zam _ _).mono ?_;rintro e w' ⟨rfl,rfl⟩)|(go_at_call 131;refine(zal _ _).mono ?_;rintro e w' ⟨rfl,rfl⟩))
       go_ret2
       exact⟨zau (by rw[H2.out];rfl) (by rw[H1.out.2]),rfl⟩
set_option maxRecDepth 100000
theorem znV(s:ByteArray)(i:Nat)(hi:i<s.size)(hl:isLet s[i]=false)(hd:isDig s[i]=true):first (s.data.toList.drop i)=number (s.data.toList.drop i):=by
 rw[zcV s i hi,hl,ue (by simp),ud hd]
theorem zmb(s:ByteArray)(i:Nat)(hi:i<s.size)(hl:isLet s[i]=false)(hd:isDig s[i]=false)(hq:s[i]=63):first (s.data.toList.drop i)=zbf (s.data.toList.drop i):=by
 rw[zcV s i hi,hl,hd,ue (by simp),ue (by simp),ud hq]
theorem zgV(s:ByteArray)(i:Nat)(hi:i<s.size)(hl:isLet s[i]=false)(hd:isDig s[i]=false)(hq:¬s[i]=63):first (s.data.toList.drop i)=sign (s.data.toList.drop i):=by
 rw[zcV s i hi,hl,hd,ue (by simp),ue (by simp),ue hq]
theorem zmc(l:List UInt8)(h:(number l).2=0):number l=(0,0):=by
 rcases zaD l with e|⟨e,h1,_⟩
 ·exact e
 ·rw[e]at h;simp at h;omega
theorem znW(l:List UInt8)(n:Nat)(h:(number l).2=n)(h0:n≠0):number l=(4,n):=by
 rcases zaD l with e|⟨e,h1,_⟩
 ·rw[e]at h;exact absurd h.symm h0
 ·rw[e]at h ⊢;exact uC (Prod.mk 4) h
theorem zgW(s:ByteArray)(i:Nat)(hi:i<=s.size):i+(number (s.data.toList.drop i)).2<=s.size:=by
 have h1:=zcU isDig s i hi;rcases zaD (s.data.toList.drop i) with e|⟨e,_,_⟩
 ·rw[e];exact hi
 ·rw[e];exact h1
theorem zks(s:ByteArray)(i:Nat)(w:World)(hs:s.size<=4000)(hi:i<s.size)(hl:isLet s[i]=false)(hd:isDig s[i]=true):Calls Tryz.prog 80 #[.string s,.int .i64 i] w λe w'=>e=.returned (.tuple #[.int .i64 ((first (s.data.toList.drop i)).1:Nat),.int .i64 ((i+(first (s.data.toList.drop i)).2:Nat):Int)])/\w=w':=by
 obtain⟨K,hK⟩:∃K,K=(first (s.data.toList.drop i)).1:=⟨_,rfl⟩;obtain⟨E,hE⟩:∃E,E=i+(first (s.data.toList.drop i)).2:=⟨_,rfl⟩;have HK:=wJ hK;have HE:=wJ hE;rw[<-hK,<-hE]
 clear hK hE;have hns:=zgW s i (by omega);have RN:=zfi s i w hs (by omega);obtain⟨n,hn⟩:∃n,(number (s.data.toList.drop i)).2=n:=⟨_,rfl⟩;obtain⟨k,hk⟩:∃k,i+n=k:=⟨_,rfl⟩;rw[hn,hk]at RN hns
 have hf:=znV s i hi hl hd;by_cases h0:n=0
 ·have H1:=wJ (show K=0/\E=i by rw[HK.out,HE.out,hf,zmc _ (hn.trans h0)];exact⟨rfl,rfl⟩)
  have dk:((k:Int) ==(i:Int))=true:=by simp;omega
  clear hn hk h0 hf;go_enter Tryz.func80,Tryz.ntmps80
  go_wp2_with (first|(go_at_call 130;refine(zam _ _).mono ?_;rintro e w' ⟨rfl,rfl⟩)|(go_at_call 131;refine(zal _ _).mono ?_;rintro e w' ⟨rfl,rfl⟩)|(go_at_call 132;refine RN.mono ?_;rintro e w' ⟨rfl,rfl⟩))
  go_ret2
  exact⟨zau (by rw[H1.out.1];rfl) (by rw[H1.out.2]),rfl⟩
 ·have H1:=wJ (show K=4/\E=k by rw[HK.out,HE.out,hf,znW _ n hn h0];exact⟨rfl,hk⟩)
  have dk:((k:Int) ==(i:Int))=false:=by rw[uY];intro h;simp at h;omega
  clear hn hk h0 hf;go_enter Tryz.func80,Tryz.ntmps80
  go_wp2_with (first|(go_at_call 130;refine(zam _ _).mono ?_;rintro e w' ⟨rfl,rfl⟩)|(go_at_call 131;refine(zal _ _).mono ?_;rintro e w' ⟨rfl,rfl⟩)|(go_at_call 132;refine RN.mono ?_;rintro e w' ⟨rfl,rfl⟩))
  go_ret2
  exact⟨zau (by rw[H1.out.1];rfl) (by rw[H1.out.2]),rfl⟩
theorem zkt(s:ByteArray)(i:Nat)(w:World)(hs:s.size<=4000)(hi:i<s.size)(hl:isLet s[i]=false)(hd:isDig s[i]=false)(hq:s[i]=63):Calls Tryz.prog 80 #[.string s,.int .i64 i] w λe w'=>e=.returned (.tuple #[.int .i64 ((first (s.data.toList.drop i)).1:Nat),.int .i64 ((i+(first (s.data.toList.drop i)).2:Nat):Int)])/\w=w':=by
 obtain⟨K,hK⟩:∃K,K=(first (s.data.toList.drop i)).1:=⟨_,rfl⟩;obtain⟨E,hE⟩:∃E,E=i+(first (s.data.toList.drop i)).2:=⟨_,rfl⟩;have HK:=wJ hK;have HE:=wJ hE;rw[<-hK,<-hE]
 clear hK hE;have hns:=zgW s (i+1) (by omega);have RN:=zfi s (i+1) w hs (by omega);obtain⟨n,hn⟩:∃n,(number (s.data.toList.drop (i+1))).2=n:=⟨_,rfl⟩;obtain⟨k,hk⟩:∃k,i+1+n=k:=⟨_,rfl⟩;rw[hn,hk]at RN hns
 have RN:Calls Tryz.prog 132 #[.string s,.int .i64 ((i:Int)+1)] w λe w'=>e=.returned (.int .i64 (k:Nat))/\w=w':=RN;have hf:=zmb s i hi hl hd hq;have q1:((s[i].toNat:Int)==63)=true:=u8t _ 63 hq;have hdd:(s.data.toList.drop i).drop 1=s.data.toList.drop (i+1):=by rw[vX]
 by_cases h0:n=0
 ·have H1:=wJ (show K=0/\E=i by rw[HK.out,HE.out,hf,zbf,hdd,ud (hn.trans h0)];exact⟨rfl,rfl⟩)
  have dk:((k:Int) ==(i:Int)+1)=true:=by simp;omega
  clear hn hk h0 hf hq hdd;go_enter Tryz.func80,Tryz.ntmps80
  go_wp2_with (first|(go_at_call 130;refine(zam _ _).mono ?_;rintro e w' ⟨rfl,rfl⟩)|(go_at_call 131;refine(zal _ _).mono ?_;rintro e w' ⟨rfl,rfl⟩)|(go_at_call 132;refine RN.mono ?_;rintro e w' ⟨rfl,rfl⟩))
  go_ret2
  exact⟨zau (by rw[H1.out.1];rfl) (by rw[H1.out.2]),rfl⟩
 ·have H1:=wJ (show K=5/\E=k by rw[HK.out,HE.out,hf,zbf,hdd,ue (by rw[hn];exact h0),hn];exact⟨rfl,by simp;omega⟩)
  have dk:((k:Int) ==(i:Int)+1)=false:=by rw[uY];intro h;simp at h;omega
  clear hn hk h0 hf hq hdd;go_enter Tryz.func80,Tryz.ntmps80
  go_wp2_with (first|(go_at_call 130;refine(zam _ _).mono ?_;rintro e w' ⟨rfl,rfl⟩)|(go_at_call 131;refine(zal _ _).mono ?_;rintro e w' ⟨rfl,rfl⟩)|(go_at_call 132;refine RN.mono ?_;rintro e w' ⟨rfl,rfl⟩))
  go_ret2
  exact⟨zau (by rw[H1.out.1];rfl) (by rw[H1.out.2]),rfl⟩
theorem zfj(s:ByteArray)(i:Nat)(a:UInt8)(hi:i<s.size):pre [a,62] (s.data.toList.drop i)=(a==s[i] &&(if h:i+1<s.size then(62:UInt8)==s[i+1] else false)):=by
 rw[drop_at s i hi]
 by_cases h:i+1<s.size
 ·rw[dif_pos h,drop_at s (i+1) h]
  simp[pre,List.isPrefixOf]
 ·rw[dif_neg h,uD (by rw[<-vf];omega)]
  simp[pre,List.isPrefixOf]
theorem zjl(s:ByteArray)(i:Nat)(hi:i<s.size)(h1:i+1<s.size)(iF:s[i+1]=62)(h:s[i]=45\/s[i]=124):sign (s.data.toList.drop i)=(6,2):=by
 refine zeW _ ?_;rw[zfj s i 45 hi,zfj s i 124 hi,dif_pos h1,iF]
 rcases h with h|h <;> rw[h] <;> decide
theorem zmd(s:ByteArray)(i:Nat)(hi:i<s.size)(h:∀h1:i+1<s.size,s[i+1]=62->¬(s[i]=45\/s[i]=124)):pre [45,62] (s.data.toList.drop i)=false/\pre [124,62] (s.data.toList.drop i)=false:=by
 rw[zfj s i 45 hi,zfj s i 124 hi]
 by_cases h1:i+1<s.size
 ·rw[dif_pos h1]
  by_cases iF:s[i+1]=62
  ·have:=h h1 iF
   constructor <;> rw[Bool.and_eq_false_iff] <;> left <;> rw[uo] <;> intro e <;> exact this (by simp[<-e])
  ·have e:((62:UInt8)==s[i+1])=false:=by rw[uo];exact λe=>iF e.symm
   rw[e];simp
 ·rw[dif_neg h1];simp
def SG:ByteArray:=⟨#[92,58,61,59,123,125,40,41,46,126,64,60,62,44,91,93,33]⟩
theorem zcM:SG.size=17:=rfl
theorem zdw(c:UInt8):c∈signs↔∃(k:Nat)(h:k<SG.size),SG[k]=c:=by
 rw[show signs=SG.data.toList from rfl]
 constructor
 ·intro h
  obtain⟨k,hk,e⟩:=List.getElem_of_mem h;exact⟨k,by simpa using hk,by rw[<-e];rfl⟩
 ·rintro⟨k,hk,e⟩
  rw[<-e]
  exact List.mem_iff_getElem.2 ⟨k,by simpa using hk,rfl⟩
theorem zku(s:ByteArray)(i:Nat)(w:World)(hs:s.size<=4000)(hi:i<s.size)(hl:isLet s[i]=false)(hd:isDig s[i]=false)(hq:¬s[i]=63)(h1:i+1<s.size)(iF:s[i+1]=62)(h:s[i]=45\/s[i]=124):Calls Tryz.prog 80 #[.string s,.int .i64 i] w λe w'=>e=.returned (.tuple #[.int .i64 ((first (s.data.toList.drop i)).1:Nat),.int .i64 ((i+(first (s.data.toList.drop i)).2:Nat):Int)])/\w=w':=by
 obtain⟨K,hK⟩:∃K,K=(first (s.data.toList.drop i)).1:=⟨_,rfl⟩;obtain⟨E,hE⟩:∃E,E=i+(first (s.data.toList.drop i)).2:=⟨_,rfl⟩;have HK:=wJ hK;have HE:=wJ hE;rw[<-hK,<-hE]
 clear hK hE;have hf:=zgV s i hi hl hd hq;have H1:=wJ (show K=6/\E=i+2 by rw[HK.out,HE.out,hf,zjl s i hi h1 iF h];exact⟨rfl,rfl⟩);have q1:((s[i].toNat:Int)==63)=false:=u8f _ 63 hq;have q2:((s[i+1].toNat:Int)==62)=true:=u8t _ 62 iF;clear hf hq iF;rcases h with h|h
 ·have q3:((s[i].toNat:Int)==45)=true:=u8t _ 45 h
  clear h;go_enter Tryz.func80,Tryz.ntmps80
  go_wp2_with (first|(go_at_call 130;refine(zam _ _).mono ?_;rintro e w' ⟨rfl,rfl⟩)|(go_at_call 131;refine(zal _ _).mono ?_;rintro e w' ⟨rfl,rfl⟩))
  go_ret2
  exact⟨zau (by rw[H1.out.1];rfl) (by rw[H1.out.2];simp),rfl⟩
 ·have q3:((s[i].toNat:Int)==45)=false:=u8f _ 45 (by rw[h];decide)
  have q4:((s[i].toNat:Int)==124)=true:=u8t _ 124 h;clear h;go_enter Tryz.func80,Tryz.ntmps80
  go_wp2_with (first|(go_at_call 130;refine(zam _ _).mono ?_;rintro e w' ⟨rfl,rfl⟩)|(go_at_call 131;refine(zal _ _).mono ?_;rintro e w' ⟨rfl,rfl⟩))
  go_ret2
  exact⟨zau (by rw[H1.out.1];rfl) (by rw[H1.out.2];simp),rfl⟩
theorem zkv(s:ByteArray)(i:Nat)(w:World)(hs:s.size<=4000)(hi:i<s.size)(hl:isLet s[i]=false)(hd:isDig s[i]=false)(hq:¬s[i]=63)(bk:∀h1:i+1<s.size,s[i+1]=62->¬(s[i]=45\/s[i]=124)):Calls Tryz.prog 80 #[.string s,.int .i64 i] w λe w'=>e=.returned (.tuple #[.int .i64 ((first (s.data.toList.drop i)).1:Nat),.int .i64 ((i+(first (s.data.toList.drop i)).2:Nat):Int)])/\∃n,w'=w.drewN n:=by
 obtain⟨K,hK⟩:∃K,K=(first (s.data.toList.drop i)).1:=⟨_,rfl⟩;obtain⟨E,hE⟩:∃E,E=i+(first (s.data.toList.drop i)).2:=⟨_,rfl⟩;have HK:=wJ hK;have HE:=wJ hE;rw[<-hK,<-hE]
 clear hK hE;have hf:=zgV s i hi hl hd hq;have gr:=zmd s i hi bk;obtain⟨G,hG⟩:∃G,(⟨#[92,58,61,59,123,125,40,41,46,126,64,60,62,44,91,93,33]⟩:ByteArray)=G:=⟨_,rfl⟩;have q1:((s[i].toNat:Int)==63)=false:=u8f _ 63 hq;clear hq;by_cases h1:i+1<s.size
 ·by_cases iF:s[i+1]=62
  ·have fj:=bk h1 iF
   have q2:((s[i+1].toNat:Int)==62)=true:=u8t _ 62 iF;have q3:((s[i].toNat:Int)==45)=false:=u8f _ 45 (λe=>fj (.inl e));have q4:((s[i].toNat:Int)==124)=false:=u8f _ 124 (λe=>fj (.inr e));clear bk fj iF;go_enter Tryz.func80,Tryz.ntmps80
   go_wp2_with (first|(go_at_call 130;refine(zam _ _).mono ?_;rintro e w' ⟨rfl,rfl⟩)|(go_at_call 131;refine(zal _ _).mono ?_;rintro e w' ⟨rfl,rfl⟩))
   go_loopg [12] 17 (λgg v wr=>∃k m:Nat,gg=17-k/\v=.int .i64 k/\wr=w.drewN m/\k<=17/\∀j (hj:j<SG.size),j<k->SG[j]≠s[i])
   case atStart=>exact⟨0,0,rfl,rfl,rfl,by omega,λj _ h=>absurd h (by omega)⟩
   case round =>
    obtain⟨k,m,rfl,rfl,rfl,hk,hn⟩:=hrel;have bP:=wJ hn;clear hn;have hz:G.size<=17/\17<=G.size:=by rw[<-hG];exact⟨tV _,tV _⟩
    obtain⟨bz,bE⟩:=hz;by_cases ah:k<G.size
    ·have cg:k<SG.size:=by rw[zcM];omega
     have kg:G[k]=SG[k]:=by simp only[<-hG];rfl
     by_cases he:SG[k]=s[i]
     ·have q9:((G[k].toNat:Int) ==(s[i].toNat:Int))=true:=u8t _ _ (kg.trans he)
      have H1:=wJ (show K=6/\E=i+1 by rw[HK.out,HE.out,hf,zdF _ gr.1 gr.2 (by rw[head_drop s i hi];exact(zdw _).2 ⟨k,cg,he⟩)];exact⟨rfl,rfl⟩);clear hf gr kg he;go_wp2_with fail
      go_quiet (fail)
      go_wp2_with fail
      go_ret2
      exact⟨zau (by rw[H1.out.1];rfl) (by rw[H1.out.2];simp),_,rfl⟩
     ·have q9:((G[k].toNat:Int) ==(s[i].toNat:Int))=false:=u8f _ _ (λe=>he (kg.symm.trans e))
      have HS:Hid (∀j (hj:j<SG.size),j<k+1->SG[j]≠s[i]):=by
       intro j hj hjk;by_cases e:j=k
       ·subst e;exact he
       ·exact bP.out j hj (by omega)
      clear hf gr kg he;go_wp2_with fail
      go_quiet (fail)
      go_wp2_with fail
      go_roundg (17-(k+1))
      case measure=>omega
      case rel=>exact⟨k+1,_,rfl,by go_num,rfl,by omega,HS.out⟩
    ·have H1:=wJ (show K=0/\E=i by
      rw[HK.out,HE.out,hf,zdc _ gr.1 gr.2 (by
       rw[head_drop s i hi]
       intro hm;obtain⟨j,hj,e⟩:=(zdw _).1 hm;exact bP.out j hj (by rw[zcM]at hj;omega) e)]
      exact⟨rfl,rfl⟩)
     clear hf gr;go_wp2_with fail
     go_ret2
     exact⟨zau (by rw[H1.out.1];rfl) (by rw[H1.out.2]),_,rfl⟩
  ·have q2:((s[i+1].toNat:Int)==62)=false:=u8f _ 62 iF
   clear bk iF;go_enter Tryz.func80,Tryz.ntmps80
   go_wp2_with (first|(go_at_call 130;refine(zam _ _).mono ?_;rintro e w' ⟨rfl,rfl⟩)|(go_at_call 131;refine(zal _ _).mono ?_;rintro e w' ⟨rfl,rfl⟩))
   go_loopg [12] 17 (λgg v wr=>∃k m:Nat,gg=17-k/\v=.int .i64 k/\wr=w.drewN m/\k<=17/\∀j (hj:j<SG.size),j<k->SG[j]≠s[i])
   case atStart=>exact⟨0,0,rfl,rfl,rfl,by omega,λj _ h=>absurd h (by omega)⟩
   case round =>
    obtain⟨k,m,rfl,rfl,rfl,hk,hn⟩:=hrel;have bP:=wJ hn;clear hn;have hz:G.size<=17/\17<=G.size:=by rw[<-hG];exact⟨tV _,tV _⟩
    obtain⟨bz,bE⟩:=hz;by_cases ah:k<G.size
    ·have cg:k<SG.size:=by rw[zcM];omega
     have kg:G[k]=SG[k]:=by simp only[<-hG];rfl
     by_cases he:SG[k]=s[i]
     ·have q9:((G[k].toNat:Int) ==(s[i].toNat:Int))=true:=u8t _ _ (kg.trans he)
      have H1:=wJ (show K=6/\E=i+1 by rw[HK.out,HE.out,hf,zdF _ gr.1 gr.2 (by rw[head_drop s i hi];exact(zdw _).2 ⟨k,cg,he⟩)];exact⟨rfl,rfl⟩);clear hf gr kg he;go_wp2_with fail
      go_quiet (fail)
      go_wp2_with fail
      go_ret2
      exact⟨zau (by rw[H1.out.1];rfl) (by rw[H1.out.2];simp),_,rfl⟩
     ·have q9:((G[k].toNat:Int) ==(s[i].toNat:Int))=false:=u8f _ _ (λe=>he (kg.symm.trans e))
      have HS:Hid (∀j (hj:j<SG.size),j<k+1->SG[j]≠s[i]):=by
       intro j hj hjk;by_cases e:j=k
       ·subst e;exact he
       ·exact bP.out j hj (by omega)
      clear hf gr kg he;go_wp2_with fail
      go_quiet (fail)
      go_wp2_with fail
      go_roundg (17-(k+1))
      case measure=>omega
      case rel=>exact⟨k+1,_,rfl,by go_num,rfl,by omega,HS.out⟩
    ·have H1:=wJ (show K=0/\E=i by
      rw[HK.out,HE.out,hf,zdc _ gr.1 gr.2 (by
       rw[head_drop s i hi]
       intro hm;obtain⟨j,hj,e⟩:=(zdw _).1 hm;exact bP.out j hj (by rw[zcM]at hj;omega) e)]
      exact⟨rfl,rfl⟩)
     clear hf gr;go_wp2_with fail
     go_ret2
     exact⟨zau (by rw[H1.out.1];rfl) (by rw[H1.out.2]),_,rfl⟩
 ·clear bk
  go_enter Tryz.func80,Tryz.ntmps80
  go_wp2_with (first|(go_at_call 130;refine(zam _ _).mono ?_;rintro e w' ⟨rfl,rfl⟩)|(go_at_call 131;refine(zal _ _).mono ?_;rintro e w' ⟨rfl,rfl⟩))
  go_loopg [12] 17 (λgg v wr=>∃k m:Nat,gg=17-k/\v=.int .i64 k/\wr=w.drewN m/\k<=17/\∀j (hj:j<SG.size),j<k->SG[j]≠s[i])
  case atStart=>exact⟨0,0,rfl,rfl,rfl,by omega,λj _ h=>absurd h (by omega)⟩
  case round =>
   obtain⟨k,m,rfl,rfl,rfl,hk,hn⟩:=hrel;have bP:=wJ hn;clear hn;have hz:G.size<=17/\17<=G.size:=by rw[<-hG];exact⟨tV _,tV _⟩
   obtain⟨bz,bE⟩:=hz;by_cases ah:k<G.size
   ·have cg:k<SG.size:=by rw[zcM];omega
    have kg:G[k]=SG[k]:=by simp only[<-hG];rfl
    by_cases he:SG[k]=s[i]
    ·have q9:((G[k].toNat:Int) ==(s[i].toNat:Int))=true:=u8t _ _ (kg.trans he)
     have H1:=wJ (show K=6/\E=i+1 by rw[HK.out,HE.out,hf,zdF _ gr.1 gr.2 (by rw[head_drop s i hi];exact(zdw _).2 ⟨k,cg,he⟩)];exact⟨rfl,rfl⟩);clear hf gr kg he;go_wp2_with fail
     go_quiet (fail)
     go_wp2_with fail
     go_ret2
     exact⟨zau (by rw[H1.out.1];rfl) (by rw[H1.out.2];simp),_,rfl⟩
    ·have q9:((G[k].toNat:Int) ==(s[i].toNat:Int))=false:=u8f _ _ (λe=>he (kg.symm.trans e))
     have HS:Hid (∀j (hj:j<SG.size),j<k+1->SG[j]≠s[i]):=by
      intro j hj hjk;by_cases e:j=k
      ·subst e;exact he
      ·exact bP.out j hj (by omega)
     clear hf gr kg he;go_wp2_with fail
     go_quiet (fail)
     go_wp2_with fail
     go_roundg (17-(k+1))
     case measure=>omega
     case rel=>exact⟨k+1,_,rfl,by go_num,rfl,by omega,HS.out⟩
   ·have H1:=wJ (show K=0/\E=i by
     rw[HK.out,HE.out,hf,zdc _ gr.1 gr.2 (by
      rw[head_drop s i hi]
      intro hm;obtain⟨j,hj,e⟩:=(zdw _).1 hm;exact bP.out j hj (by rw[zcM]at hj;omega) e)]
     exact⟨rfl,rfl⟩)
    clear hf gr;go_wp2_with fail
    go_ret2
    exact⟨zau (by rw[H1.out.1];rfl) (by rw[H1.out.2]),_,rfl⟩
theorem znX(s:ByteArray)(i:Nat)(w:World)(hs:s.size<=4000)(hi:i<s.size):Calls Tryz.prog 80 #[.string s,.int .i64 i] w λe w'=>e=.returned (.tuple #[.int .i64 ((first (s.data.toList.drop i)).1:Nat),.int .i64 ((i+(first (s.data.toList.drop i)).2:Nat):Int)])/\∃n,w'=w.drewN n:=by
 by_cases hl:isLet s[i]=true
 ·exact(zjk s i w hs hi hl).mono λe w' h=>⟨h.1,0,h.2.symm⟩
 ·have hl:isLet s[i]=false:=by simpa using hl
  by_cases hd:isDig s[i]=true
  ·exact(zks s i w hs hi hl hd).mono λe w' h=>⟨h.1,0,h.2.symm⟩
  ·have hd:isDig s[i]=false:=by simpa using hd
   by_cases hq:s[i]=63
   ·exact(zkt s i w hs hi hl hd hq).mono λe w' h=>⟨h.1,0,h.2.symm⟩
   ·by_cases h:∃h1:i+1<s.size,s[i+1]=62/\(s[i]=45\/s[i]=124)
    ·obtain⟨h1,iF,ha⟩:=h
     exact(zku s i w hs hi hl hd hq h1 iF ha).mono λe w' h=>⟨h.1,0,h.2.symm⟩
    ·exact zkv s i w hs hi hl hd hq (λh1 iF ha=>h ⟨h1,iF,ha⟩)
end Go.Proofs.YtknkclefoiohpaaGreatDoor
namespace Go.Proofs.YtknkclefoiohpaaGreatDoor
open Go.RowKit Lx
set_option maxRecDepth 100000
def scM(m:Bool)(i:Nat)(l:List UInt8):Except Nat (List Tok) :=
 if l.drop (btw m l)=[] then .ok []
 else if(first (l.drop (btw m l))).1=0 then .error (i+btw m l)
 else(sc (i+btw m l+(first (l.drop (btw m l))).2) ((l.drop (btw m l)).drop (first (l.drop (btw m l))).2)).map (⟨(first (l.drop (btw m l))).1,(l.drop (btw m l)).take (first (l.drop (btw m l))).2,i+btw m l⟩::·)
theorem zee(i:Nat)(l:List UInt8):sc i l=scM false i l:=zb7 i l
theorem zf2(m m':Bool)(i:Nat)(c:UInt8)(r:List UInt8)(h:btw m (c::r)=btw m' r+1):scM m i (c::r)=scM m' (i+1) r:=by
 unfold scM;rw[h,List.drop_succ_cons,show i+(btw m' r+1)=i+1+btw m' r by omega]
theorem zgX(m m':Bool)(i:Nat)(l:List UInt8)(h:btw m l=btw m' l):scM m i l=scM m' i l:=by
 unfold scM;rw[h]
def zdx(s:ByteArray)(k:Nat)(ts:List Tok):Prop:=lex s.data.toList=(scM true k (s.data.toList.drop k)).map (ts++·)/\ts.length<=k
theorem zh3(s:ByteArray)(i:Nat)(ts:List Tok)(hk:Known s i ts)(hi:i<s.size)(hb:s[i]=32\/s[i]=9\/s[i]=10):Known s (i+1) ts:=by
 refine⟨?_,by have:=hk.2;omega⟩;rw[hk.1,drop_at s i hi,zee,zf2 false false i _ _ (by rw[btw,ud hb]),zee]
theorem zjm(s:ByteArray)(i:Nat)(ts:List Tok)(hk:Known s i ts)(hi:i<s.size)(ei:s[i]=35):zdx s i ts:=by
 refine⟨?_,hk.2⟩;rw[hk.1,zee,zgX false true i _ (zea s i hi ei)]
theorem zh4(s:ByteArray)(k:Nat)(ts:List Tok)(hk:zdx s k ts)(hi:k<s.size)(h:¬s[k]=10):zdx s (k+1) ts:=by
 refine⟨?_,by have:=hk.2;omega⟩;have hb:(s[k] != 10)=true:=by simpa using h
 rw[hk.1,drop_at s k hi,zf2 true true k _ _ (by rw[btw,hb])]
theorem zkw(s:ByteArray)(k:Nat)(ts:List Tok)(hk:zdx s k ts)(hi:k<s.size)(h:s[k]=10):Known s k ts:=by
 refine⟨?_,hk.2⟩;rw[hk.1,zee,drop_at s k hi,h,zgX true false k _ (by simp[btw])]
theorem zjn(s:ByteArray)(k:Nat)(ts:List Tok)(hk:zdx s k ts)(hi:s.size<=k):Known s k ts:=by
 refine⟨?_,hk.2⟩;rw[hk.1,zee,uD (by rw[<-vf];exact hi)]
 rfl
theorem zme(s:ByteArray)(i:Nat)(hi:i<s.size)(hb:¬(s[i]=32\/s[i]=9\/s[i]=10))(ei:¬s[i]=35):Step s i i (i+(first (s.data.toList.drop i)).2) (first (s.data.toList.drop i)).1:=by
 have h2:=zgP (s.data.toList.drop i);rw[uR,<-vf]at h2
 refine⟨tV _,by omega,by omega,?_,by rw[vt]⟩;rw[drop_at s i hi,btw,ue hb,ue ei]
 omega
def RHead(s:ByteArray)(g:Nat)(w:World)(v x:Value)(wr:World):Prop :=
 ∃i ts,g=s.size-i/\i<=s.size/\x=.int .i64 (i:Nat)/\Known s i ts/\wr.ownsRow w.heap.size 152 3 v ts.length (zbc ts)/\Below w.heap.size w wr
theorem zgF {w:World} {base:Nat} {e:TypeId} {v:Value} {n:Nat} {xs:List Value}(h:w.ownsRow base e 3 v n xs)(k:Nat):(w.drewN k).ownsRow base e 3 v n xs:=h
theorem zjo(s:ByteArray)(w wr w2:World)(v v':Value)(i q k:Nat)(ts:List Tok)
  (st:Step s i i q k)(kn:Known s i ts)(hi:i<s.size)(h0:k≠0)(bp:Below w.heap.size w wr)
  (ae:wr.ownsRow w.heap.size 152 3 v ts.length (zbc ts))
  (hgr:(wr.alloc (.cells #[.int .i64 (k:Nat),.string (s.extract i q),.int .i64 (i:Nat)] 152)).grownBy w2 v.ownBlock)
  (how:w2.ownsRow w.heap.size 152 3 v' (ts.length+1) (zbc ts++[.int .i64 (k:Nat),.string (s.extract i q),.int .i64 (i:Nat)])):i<q/\RHead s (s.size-q) w v' (.int .i64 (q:Nat)) w2:=by
 obtain⟨hq,kn'⟩:=zfh s i i q k ts kn st hi h0;refine⟨hq,q,_,rfl,st.2.2.1,rfl,kn',?_,?_⟩
 ·rw[zff,zed,uf]
  exact how
 ·exact(bp.alloc bp.size _).grown hgr (by have:=bp.size;simp;omega) (λm hm=>(ae.lt m hm).1)
theorem zmf(s:ByteArray)(w:World)(hs:s.size<=maxLen)(hl:4000<s.size):Calls Tryz.prog 32 #[.string s] w (ScanPost s w):=by
 have HS:Hid (zaX s.data.toList=([],0,2)):=by
  refine wJ ?_;unfold zaX;rw[ud (by rw[<-vf];exact hl)]
 unfold maxLen at hs;go_enter Tryz.func32,Tryz.ntmps32
 go_wp2
 go_ret3
 exact⟨ua _ _,_,[],0,2,HS.out,rfl,uZ _ _ _ _⟩
theorem zkx(s:ByteArray)(w:World)(hl:s.size<=4000):Calls Tryz.prog 32 #[.string s] w (ScanPost s w):=by
 obtain⟨i0,bJ,bO,bz,bE⟩:=vz zgR;go_enter Tryz.func32,Tryz.ntmps32
 go_wp2_with fail
 go_loopg [5,6] s.size (λg v x wr=>RHead s g w v x wr)
 case atStart=>exact⟨0,[],rfl,vK _,rfl,zeE s,uZ _ _ _ _,ua _ _⟩
 case round =>
  obtain⟨i,ts,rfl,hi,rfl,kn,ae,bp⟩:=hrel;have KN:=wJ kn;have aM:=wJ ae;have aW:=wJ bp;clear kn ae bp;by_cases ah:i<s.size
  ·by_cases hb:s[i]=32\/s[i]=9\/s[i]=10
   ·have HK:=wJ (zh3 s i ts KN.out ah hb)
    have bb:(((s[i].toNat:Int)==32)=true)\/(((s[i].toNat:Int)==32)=false/\((s[i].toNat:Int)==9)=true)\/(((s[i].toNat:Int)==32)=false/\((s[i].toNat:Int)==9)=false/\((s[i].toNat:Int)==10)=true):=by
     rcases hb with h|h|h
     ·exact .inl (u8t _ 32 h)
     ·exact .inr (.inl ⟨u8f _ 32 (by rw[h];decide),u8t _ 9 h⟩)
     ·exact .inr (.inr ⟨u8f _ 32 (by rw[h];decide),u8f _ 9 (by rw[h];decide),u8t _ 10 h⟩)
    clear hb;rcases bb with b1|⟨b1,b2⟩|⟨b1,b2,b3⟩;all_goals
     go_wp2_with fail
     go_roundg (s.size-(i+1))
     case measure=>omega
     case rel=>exact⟨i+1,ts,rfl,by omega,by go_num,HK.out,aM.out,aW.out⟩
   ·have b1:((s[i].toNat:Int)==32)=false:=u8f _ 32 (λe=>hb (.inl e))
    have b2:((s[i].toNat:Int)==9)=false:=u8f _ 9 (λe=>hb (.inr (.inl e)));have b3:((s[i].toNat:Int)==10)=false:=u8f _ 10 (λe=>hb (.inr (.inr e)));by_cases ei:s[i]=35
    ·have b4:((s[i].toNat:Int)==35)=true:=u8t _ 35 ei
     have HT:=wJ (zjm s i ts KN.out ah ei);have H35:=wJ ei;clear hb ei;go_wp2_with fail
     obtain⟨wo,hwo⟩:∃wo:World,wo=wr:=⟨_,rfl⟩;have HWO:=wJ hwo;clear hwo;go_loopg [6] (s.size-i) (λg x wi=>∃k:Nat,g=s.size-k/\x=.int .i64 k/\wi=wr/\i<=k/\k<=s.size/\zdx s k ts)
     case atStart=>exact⟨i,rfl,rfl,rfl,tV _,by omega,HT.out⟩
     case round =>
      obtain⟨k,rfl,rfl,rfl,jg,hk,kt⟩:=hrel;have KT:=wJ kt;clear kt;by_cases iy:k<s.size
      ·by_cases gu:s[k]=10
       ·have b5:((s[k].toNat:Int) != 10)=false:=by rw[gu];rfl
        have fG:=wJ (zkw s k ts KT.out iy gu);have bf:i<k:=by
         rcases Nat.lt_or_ge i k with h|h
         ·exact h
         ·have e:i=k:=by omega
          have h35':=H35.out;subst e;rw[h35']at gu
          exact absurd gu (by decide)
        clear gu;go_wp2_with fail
        go_roundg (s.size-k)
        case measure=>omega
        case rel=>exact⟨k,ts,rfl,hk,rfl,fG.out,aM.out,aW.out⟩
       ·have b5:((s[k].toNat:Int) != 10)=true:=by
         have h10f:((s[k].toNat:Int)==10)=false:=u8f _ 10 gu;rw[bne,h10f];rfl
        have HKT:=wJ (zh4 s k ts KT.out iy gu);clear gu;go_wp2_with fail
        go_roundg (s.size-(k+1))
        case measure=>omega
        case rel=>exact⟨k+1,rfl,by go_num,rfl,by omega,by omega,HKT.out⟩
      ·have fG:=wJ (zjn s k ts KT.out (by omega))
       go_wp2_with fail
       go_roundg (s.size-k)
       case measure=>omega
       case rel=>exact⟨k,ts,rfl,hk,rfl,fG.out,aM.out,aW.out⟩
    ·have b4:((s[i].toNat:Int)==35)=false:=u8f _ 35 ei
     have be:=zme s i ah hb ei;have RO:=λw=>znX s i w hl ah;obtain⟨k,hk⟩:∃k,(first (s.data.toList.drop i)).1=k:=⟨_,rfl⟩;obtain⟨q,hq⟩:∃q,i+(first (s.data.toList.drop i)).2=q:=⟨_,rfl⟩;rw[hk,hq]at be RO
     have ST:=wJ be;have ru:=KN.out.2;have j5:=be.2.2.1;have hiq:=be.2.1;clear be hk hq hb ei;by_cases h0:k=0
     ·have hkb:((k:Int)==0)=true:=by rw[h0];rfl
      have H0:=wJ h0;clear h0;go_wp2_with (go_at_call 80;refine(RO _).mono ?_;rintro e w' ⟨rfl,m,rfl⟩)
      go_ret3
      exact⟨below_drewN' aW.out _,_,[],i,10,zgS s i hl (zf0 s i i q ts KN.out (H0.out▸ST.out) ah),rfl,uZ _ _ _ _⟩
     ·have hkb:((k:Int)==0)=false:=by rw[uY];intro h;simp at h;omega
      have H0:=wJ h0;clear h0;go_wp2_with (first
       |(go_at_call 80;refine(RO _).mono ?_;rintro e w' ⟨rfl,m,rfl⟩)
       |(at_builtin;refine wpList_append_own _ rfl (.tmp 59) (.tmp 67) 76 rfl w.heap.size 152 i0 _ 3 32 Tryz.underlying76 bJ bO bz bE rfl (by decide) u5 ts.length (zbc ts) rfl (zgF (aM.out.alloc _) m) ⟨wr.heap.size,0,none⟩ 1 1 [.int .i64 (k:Nat),.string (s.extract i q),.int .i64 (i:Nat)] rfl rfl (zec wr #[.int .i64 (k:Nat),.string (s.extract i q),.int .i64 (i:Nat)] _) (by intro u hu;simp at hu;rcases hu with rfl|rfl|rfl <;> rfl) (by unfold maxLen;omega) (by omega) (by have:=aW.out.size;simp;omega) ?_;intro v' w2 iO ab _;have jb:=wJ ab;have jQ:=wJ iO;clear iO ab))
      have hH:=zjo s w wr w2 u5 v' i q k ts ST.out KN.out ah H0.out aW.out aM.out ⟨jb.out.os,jb.out.tape,jb.out.output,jb.out.size,jb.out.block⟩ jQ.out;go_roundg (s.size-q)
      case measure=>have:=hH.1;omega
      case rel=>exact hH.2
  ·go_wp2_with fail
   go_ret3
   have aG:i=s.size:=by omega
   obtain⟨p',q',k',st⟩:=zfI s i hi;exact⟨aW.out,_,ts,0,0,ziz s ts hl (zfg s i p' q' k' ts KN.out st (by have:=st.1;omega)),rfl,aM.out⟩
theorem znY(s:ByteArray)(w:World)(hs:s.size<=maxLen):Calls Tryz.prog 32 #[.string s] w (ScanPost s w):=by
 by_cases h:4000<s.size
 ·exact zmf s w hs h
 ·exact zkx s w (by omega)
end Go.Proofs.YtknkclefoiohpaaGreatDoor
