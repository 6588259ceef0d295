import Derived.Test.YtfafilmklhnngaaGreatDoorBsJ
import Derived.Deep.LoopGhost
import Derived.Deep.DeepFit
set_option maxHeartbeats 12800000
set_option maxRecDepth 100000
namespace Go.Proofs.YtfafilmklhnngaaGreatDoor
open Tryz
section
open Go.RowKit Lx
set_option maxRecDepth 100000
theorem VG(w:World)(cs:Array Value)(t:TypeId):∀j u,cs.toList[j]?=some u->(w.alloc (.cells cs t)).cell? ((⟨w.heap.size,0,none⟩:Addr).add j)=some u:=by
 intro j u hu;have aN:(⟨w.heap.size,0,none⟩:Addr).add j=⟨w.heap.size,j,none⟩:=by unfold Addr.add;split <;> simp_all
 rw[aN,cell_of_row _ _ _ cs t (0,0) (BZ _ _)];simpa using hu
theorem ziP:(prog.info? 176).map (λi=>(i.zero,i.size,i.bytes))=some (some (.agg #[.int .i64 0,.string ⟨#[]⟩,.int .i64 0]),3,32):=by kernel_rfl
def Head(s:ByteArray)(N g:Nat)(w:World)(v pt:Value)(wr:World):Prop :=
 ∃i p q k ts bt,g=s.size-i/\Step s i p q k/\Gz s i ts/\pt=.pointer (some ⟨bt,0,none⟩)/\ar wr bt 176 #[.int .i64 (k:Nat),.string (s.extract p q),.int .i64 (p:Nat)] /\
  ar wr N 9 #[.string s]/\ar wr (N+1) 3 #[.int .i64 (q:Nat)]/\wr.ownsRow N 176 3 v ts.length (JR ts)/\some bt≠v.ownBlock/\Below N w wr
theorem zla(s:ByteArray)(w w1:World)(p q k:Nat)(st:Step s 0 p q k)
  (hg:((w.alloc (.cells #[.string s] 9)).alloc (.cells #[.int .i64 0] 3)).grownBy w1 (some (w.heap.size+1)))(hh:w1.heap[w.heap.size+1]?=some (.cells #[.int .i64 (q:Nat)] 3 (0,0))):Head s w.heap.size s.size w (.slice none 0 0) (.pointer (some ⟨w1.heap.size,0,none⟩)) (w1.alloc (.cells #[.int .i64 (k:Nat),.string (s.extract p q),.int .i64 (p:Nat)] 176)):=by
 have hN:ar w1 w.heap.size 9 #[.string s]:=ar.grown (w:=(w.alloc (.cells #[.string s] 9)).alloc (.cells #[.int .i64 0] 3)) (heap_alloc2_old _ _ _) hg (by simp);have hb:Below w.heap.size w w1:=(((Cc _ w).alloc (BU _) _).alloc (by simp) _).grown hg (by simp;omega) (λk hk=>by injection hk;omega);refine⟨0,p,q,k,[],w1.heap.size,by omega,st,zfZ s,rfl,BZ _ _,hN.alloc _,ar.alloc hh _,CM _ _ _ _,by simp[Value.ownBlock],hb.alloc hb.size _⟩
theorem zmm(s:ByteArray)(w wr w2 w3:World)(u2 v':Value)(q p2 q2 k2 k p:Nat)(ts:List Tok)(x0 x1 x2:Value)
  (Uf:Step s q p2 q2 k2)(XY:Gz s q (ts++[⟨k,(s.data.toList.drop p).take (q-p),p⟩]))(aF:Below w.heap.size w wr)
  (az:wr.ownsRow w.heap.size 176 3 u2 ts.length (JR ts))
  (nC:(wr.alloc (.cells #[.int .i64 (k:Nat),.string (s.extract p q),.int .i64 (p:Nat)] 176)).grownBy w2 u2.ownBlock)
  (lu:w2.ownsRow w.heap.size 176 3 v' (ts.length+1) (JR ts++[.int .i64 (k:Nat),.string (s.extract p q),.int .i64 (p:Nat)]))
  (N1:ar w2 w.heap.size 9 #[.string s])(A1:ar w2 (w.heap.size+1) 3 #[.int .i64 (q:Nat)])
  (bk:(w2.alloc (.cells #[x0,x1,x2] 176)).grownBy w3 (some (w.heap.size+1)))
  (YI:w3.heap[w.heap.size+1]?=some (.cells #[.int .i64 (q2:Nat)] 3 (0,0))):Head s w.heap.size (s.size-q) w v' (.pointer (some ⟨w2.heap.size,0,none⟩))
   (((w3.setCell ⟨w2.heap.size,0,none⟩ (.int .i64 (k2:Nat))).setCell ⟨w2.heap.size,1,none⟩ (.string (s.extract p2 q2))).setCell ⟨w2.heap.size,2,none⟩ (.int .i64 (p2:Nat))):=by
 have hA:=A1.lt;have hN:=N1.lt;have b0:ar w3 w2.heap.size 176 #[x0,x1,x2]:=ar.grown (w:=w2.alloc (.cells #[x0,x1,x2] 176)) (BZ _ _) bk (by simp;omega);have b1:=Cl _ w2.heap.size 0 _ 176 (.int .i64 (k2:Nat)) b0;have b2:=Cl _ w2.heap.size 1 _ 176 (.string (s.extract p2 q2)) b1;have b3:=Cl _ w2.heap.size 2 _ 176 (.int .i64 (p2:Nat)) b2;have n0:ar w3 w.heap.size 9 #[.string s]:=(N1.alloc _).grown bk (by simp);have af:=lu.lt;have ai:v'.ownBlock≠some w2.heap.size:=λe=>by have:=(af _ e).2;omega
 have o1:=(lu.alloc (.cells #[x0,x1,x2] 176)).kept bk (.inr (λe=>VT lu A1 (by decide) e.symm));have bl:Below w.heap.size w w2:=(aF.alloc aF.size _).grown nC (by have:=aF.size;simp;omega) (λm hm=>(az.lt m hm).1);have bl3:Below w.heap.size w w3:=(bl.alloc bl.size _).grown bk (by have:=bl.size;simp;omega) (λm hm=>by injection hm;omega);refine⟨q,p2,q2,k2,ts++[⟨k,(s.data.toList.drop p).take (q-p),p⟩],w2.heap.size,rfl,Uf,XY,rfl,b3,?_,?_,?_,λe=>ai e.symm,?_⟩
 ·exact((n0.I8 (p:=⟨w2.heap.size,0,none⟩) (by simp;omega) _).I8 (p:=⟨w2.heap.size,1,none⟩) (by simp;omega) _).I8 (p:=⟨w2.heap.size,2,none⟩) (by simp;omega) _
 ·exact((ar.I8 (p:=⟨w2.heap.size,0,none⟩) YI (by simp;omega) _).I8 (p:=⟨w2.heap.size,1,none⟩) (by simp;omega) _).I8 (p:=⟨w2.heap.size,2,none⟩) (by simp;omega) _
 ·have o2:=ownsRow_setCell_other (a:=⟨w2.heap.size,2,none⟩) (ownsRow_setCell_other (a:=⟨w2.heap.size,1,none⟩) (ownsRow_setCell_other (a:=⟨w2.heap.size,0,none⟩) o1 ai (.int .i64 (k2:Nat))) ai (.string (s.extract p2 q2))) ai (.int .i64 (p2:Nat))
  rw[zgF,zfj,Cb];exact o2
 ·exact((bl3.setCell (p:=⟨w2.heap.size,0,none⟩) (by simp;omega) _).setCell (p:=⟨w2.heap.size,1,none⟩) (by simp;omega) _).setCell (p:=⟨w2.heap.size,2,none⟩) (by simp;omega) _
theorem EW {B:Nat} {a w:World}(h:Below B a w)(n:Nat):Below B a (w.drewN n):=⟨h.os,h.tape,h.output,h.size,h.block⟩
theorem zkr(s:ByteArray)(ts:List Tok)(hl:s.size<=4000)(h:lex s.data.toList=.ok ts):JY s.data.toList=(ts,0,0):=by
 unfold JY;rw[Cg (by rw[<-Dc];omega),h]
theorem ziQ(s:ByteArray)(p:Nat)(hl:s.size<=4000)(h:lex s.data.toList=.error p):JY s.data.toList=([],p,10):=by
 unfold JY;rw[Cg (by rw[<-Dc];omega),h]
def GR(s:ByteArray)(w:World)(e:Ending)(w':World):Prop :=
 Below w.heap.size w w'/\∃v ts at_ er,JY s.data.toList=(ts,at_,er)/\e=.returned (.tuple #[v,.int .i64 (at_:Nat),.int .i64 (er:Nat)])/\w'.ownsRow w.heap.size 176 3 v ts.length (JR ts)
theorem zmn(s:ByteArray)(w:World)(hs:s.size<=maxLen)(hl:4000<s.size):Calls prog 94 #[.string s] w (GR s w):=by
 have HS:Hid (JY s.data.toList=([],0,2)):=by
  refine EP ?_;unfold JY;rw[Ch (by rw[<-Dc];exact hl)]
 unfold maxLen at hs;go_in;go_wp2
 go_ret3
 exact⟨Cc _ _,_,[],0,2,HS.o,rfl,CM _ _ _ _⟩
theorem zlb(s:ByteArray)(w:World)(hl:s.size<=4000):Calls prog 94 #[.string s] w (GR s w):=by
 have hm:s.size<=maxLen:=by unfold maxLen;omega
 obtain⟨i0,bK,cj,bS,bC⟩:=Dx ziP;obtain⟨p0,q0,k0,eN⟩:=U9 s 0 (Cw _);have XL:=EP eN;clear eN;go_in;go_wp2_with (first
  |(go_at_call 139;refine(zk7 _ _).mono ?_;rintro e w' ⟨rfl,rfl⟩)
  |(go_at_call 176;refine(zhJ s 0 p0 q0 k0 (w.heap.size+1) w.heap.size _ hm XL.o (by omega) (heap_alloc2_new _ _ _) (heap_alloc2_old _ _ _)).mono ?_;rintro e w1 ⟨rfl,aS,hh1⟩))
 have aW:=zla s w w1 p0 q0 k0 XL.o aS hh1;clear aS hh1 XL;go_loopg [2,6] s.size (λg v pt wr=>Head s w.heap.size g w v pt wr);case atStart=>exact aW
 case round =>
  clear aW;obtain⟨i,p,q,k,ts,bt,rfl,st,kn,rfl,iK,hbN,hbA,aj,ai,aI⟩:=hrel;have ST:=EP st;have KN:=EP kn;have c0:=iK.cell 0;have c1:=iK.cell 1;have c2:=iK.cell 2;simp at c0 c1 c2;have hps:p<=s.size:=by have:=st.2.1;have:=st.2.2.1;omega
  clear st kn;have BI:=EP iK;have HBN:=EP hbN;have qB:=EP hbA;have az:=EP aj;have eH:=EP ai;have aF:=EP aI;clear iK hbN hbA aj ai aI;by_cases af:p<s.size
  ·by_cases hk:k=0
   ·have jM:((k:Int)==0)=true:=by rw[hk];rfl
    have HK:=EP hk;clear hk;go_wp2_with fail;go_quiet (fail)
    go_wp2_with fail;go_ret3
    exact⟨EW aF.o _,_,[],p,10,ziQ s p hl (zhI s i p q ts KN.o (HK.o▸ST.o) af),rfl,CM _ _ _ _⟩
   ·have jM:((k:Int)==0)=false:=by rw[Cz];intro h;simp at h;omega
    obtain⟨hiq,Ti⟩:=zgH s i p q k ts KN.o ST.o af hk;have tS:=ST.o.2.2.1;obtain⟨p2,q2,k2,st2⟩:=U9 s q tS;have Uf:=EP st2;have XY:=EP Ti;have tI:=KN.o.2;clear hk st2 Ti ST KN;go_wp2_with (first
     |(at_builtin;refine wpList_append_own _ rfl (.tmp 26) (.tmp 28) 105 rfl w.heap.size 176 i0 _ 3 32 underlying105 bK cj bS bC rfl (by decide) u2 ts.length (JR ts) rfl (az.o.alloc _) ⟨wr.heap.size,0,none⟩ 1 1 [.int .i64 (k:Nat),.string (s.extract p q),.int .i64 (p:Nat)] rfl rfl (VG wr #[.int .i64 (k:Nat),.string (s.extract p q),.int .i64 (p:Nat)] _) (by intro u hu;simp at hu;rcases hu with rfl|rfl|rfl <;> rfl) (by unfold maxLen;omega) (by omega) (by have:=aF.o.size;simp;omega) ?_;intro v' w2 dG ae _;have B1:=(BI.o.alloc _).grown ae eH.o;have d0:=B1.cell 0;have d1:=B1.cell 1;have d2:=B1.cell 2;have bc:=EP B1;clear B1;simp at d0 d1 d2;have nC:=EP ae;have lu:=EP dG;clear dG ae;have N1:=EP ((HBN.o.alloc _).grown nC.o (VT az.o HBN.o (by decide)));have A1:=EP ((qB.o.alloc _).grown nC.o (VT az.o qB.o (by decide))))
     |(go_at_call 176;refine(zhJ s q p2 q2 k2 (w.heap.size+1) w.heap.size _ hm Uf.o (by omega) (A1.o.alloc _) (N1.o.alloc _)).mono ?_;rintro e w3 ⟨rfl,fL,hh3⟩;have bk:=EP fL;have YI:=EP hh3;clear fL hh3;have hAl:=A1.o.lt;have B3:ar w3 w2.heap.size 176 #[.int .i64 (k:Nat),.string (s.extract p q),.int .i64 (p:Nat)]:=ar.grown (BZ _ _) bk.o (by simp;omega);have e0:=B3.cell 0;have e1:=B3.cell 1;have e2:=B3.cell 2;have f0:=B3.frozen 0;have f1:=B3.frozen 1;have f2:=B3.frozen 2;clear B3;simp at e0 e1 e2))
    go_roundg (s.size-q)
    case measure=>omega
    case rel=>exact zmm s w wr w2 w3 u2 v' q p2 q2 k2 k p ts _ _ _ Uf.o XY.o aF.o az.o nC.o lu.o N1.o A1.o bk.o YI.o
  ·go_wp2_with fail
   go_ret3
   exact⟨aF.o,_,ts,0,0,zkr s ts hl (zgG s i p q k ts KN.o ST.o af),rfl,az.o⟩
theorem zok(s:ByteArray)(w:World)(hs:s.size<=maxLen):Calls prog 94 #[.string s] w (GR s w):=by
 by_cases h:4000<s.size
 ·exact zmn s w hs h
 ·exact zlb s w (by omega)
set_option maxRecDepth 100000
theorem Hw(c:UInt8)(w:World):Calls prog 143 #[.int .u8 c.toNat] w λe w'=>e=.returned (.bool (isLet c))/\w=w':=by
 rcases(show(c.toNat<=64)\/(65<=c.toNat/\c.toNat<=90)\/(91<=c.toNat/\c.toNat<=96)\/(97<=c.toNat/\c.toNat<=122)\/(123<=c.toNat) by omega) with h0|h1|h2|h3|h4
 ·have d97:decide ((97:Int)<=(c.toNat:Int))=false:=CF (by omega)
  have d122:decide ((c.toNat:Int)<=122)=true:=CD (by omega);have d65:decide ((65:Int)<=(c.toNat:Int))=false:=CF (by omega);have d90:decide ((c.toNat:Int)<=90)=true:=CD (by omega);have hr:isLet c=false:=by simp[isLet,GK];omega
  go_in;go_wp2
  go_ret
  exact⟨Iy hr.symm,rfl⟩
 ·have d97:decide ((97:Int)<=(c.toNat:Int))=false:=CF (by omega)
  have d122:decide ((c.toNat:Int)<=122)=true:=CD (by omega);have d65:decide ((65:Int)<=(c.toNat:Int))=true:=CD (by omega);have d90:decide ((c.toNat:Int)<=90)=true:=CD (by omega);have hr:isLet c=true:=by simp[isLet,GK];omega
  go_in;go_wp2
  go_ret
  exact⟨Iy hr.symm,rfl⟩
 ·have d97:decide ((97:Int)<=(c.toNat:Int))=false:=CF (by omega)
  have d122:decide ((c.toNat:Int)<=122)=true:=CD (by omega);have d65:decide ((65:Int)<=(c.toNat:Int))=true:=CD (by omega);have d90:decide ((c.toNat:Int)<=90)=false:=CF (by omega);have hr:isLet c=false:=by simp[isLet,GK];omega
  go_in;go_wp2
  go_ret
  exact⟨Iy hr.symm,rfl⟩
 ·have d97:decide ((97:Int)<=(c.toNat:Int))=true:=CD (by omega)
  have d122:decide ((c.toNat:Int)<=122)=true:=CD (by omega);have d65:decide ((65:Int)<=(c.toNat:Int))=true:=CD (by omega);have d90:decide ((c.toNat:Int)<=90)=false:=CF (by omega);have hr:isLet c=true:=by simp[isLet,GK];omega
  go_in;go_wp2
  go_ret
  exact⟨Iy hr.symm,rfl⟩
 ·have d97:decide ((97:Int)<=(c.toNat:Int))=true:=CD (by omega)
  have d122:decide ((c.toNat:Int)<=122)=false:=CF (by omega);have d65:decide ((65:Int)<=(c.toNat:Int))=true:=CD (by omega);have d90:decide ((c.toNat:Int)<=90)=false:=CF (by omega);have hr:isLet c=false:=by simp[isLet,GK];omega
  go_in;go_wp2
  go_ret
  exact⟨Iy hr.symm,rfl⟩
theorem G8(c:UInt8)(w:World):Calls prog 144 #[.int .u8 c.toNat] w λe w'=>e=.returned (.bool (f_ c))/\w=w':=by
 rcases(show(c.toNat<=47)\/(48<=c.toNat/\c.toNat<=57)\/(58<=c.toNat) by omega) with h0|h1|h2
 ·have d48:decide ((48:Int)<=(c.toNat:Int))=false:=CF (by omega)
  have d57:decide ((c.toNat:Int)<=57)=true:=CD (by omega);have hr:f_ c=false:=by simp[f_];omega
  go_in;go_wp2
  go_ret
  exact⟨Iy hr.symm,rfl⟩
 ·have d48:decide ((48:Int)<=(c.toNat:Int))=true:=CD (by omega)
  have d57:decide ((c.toNat:Int)<=57)=true:=CD (by omega);have hr:f_ c=true:=by simp[f_];omega
  go_in;go_wp2
  go_ret
  exact⟨Iy hr.symm,rfl⟩
 ·have d48:decide ((48:Int)<=(c.toNat:Int))=true:=CD (by omega)
  have d57:decide ((c.toNat:Int)<=57)=false:=CF (by omega);have hr:f_ c=false:=by simp[f_];omega
  go_in;go_wp2
  go_ret
  exact⟨Iy hr.symm,rfl⟩
theorem Sc(s:ByteArray)(i:Nat)(hb:Fe (s.data.toList.drop i)=true):i=i+(number (s.data.toList.drop i)).2:=by
 rw[Ra _ hb];rfl
theorem Sd(s:ByteArray)(i k:Nat)(h:Hid (k=i+span f_ (s.data.toList.drop i)))(hb:Fe (s.data.toList.drop i)=false):k=i+(number (s.data.toList.drop i)).2:=by
 rw[Wt _ _ hb (EP rfl)];exact h.o
theorem ziZ(s:ByteArray)(i k:Nat)(h:Hid (k=i+span f_ (s.data.toList.drop i)))(hk:k=i):k=i+(number (s.data.toList.drop i)).2:=by
 have h0:span f_ (s.data.toList.drop i)=0:=by have:=h.o;omega
 rw[Ra _ (by unfold Fe;rw[h0];simp)];exact hk
theorem head_drop(s:ByteArray)(i:Nat)(h:i<s.size):(s.data.toList.drop i).headD 0=s[i]:=by rw[w_ s i h];rfl
theorem N3(s:ByteArray)(i k:Nat)(hi:i<s.size)(h:Hid (k=i+span f_ (s.data.toList.drop i))):Fe (s.data.toList.drop i)=decide (k-i=0\/6<k-i\/(1<k-i/\s[i]=48)):=by
 unfold Fe;rw[head_drop s i hi,show span f_ (s.data.toList.drop i)=k-i by have:=h.o;omega]
theorem We(p:UInt8->Bool)(s:ByteArray)(i:Nat)(hi:i<=s.size):i+span p (s.data.toList.drop i)<=s.size:=by
 have:=Qx p (s.data.toList.drop i);rw[Dk,<-Dc]at this;omega
theorem zgJ(s:ByteArray)(i:Nat)(w:World)(hs:s.size<=4000)(hi:i<=s.size):Calls prog 145 #[.string s,.int .i64 i] w λe w'=>e=.returned (.int .i64 ((i+(number (s.data.toList.drop i)).2:Nat):Int))/\w=w':=by
 obtain⟨N,hN⟩:∃N,N=i+span f_ (s.data.toList.drop i):=⟨_,rfl⟩;obtain⟨R,hR⟩:∃R,R=i+(number (s.data.toList.drop i)).2:=⟨_,rfl⟩;have Xy:N<=s.size:=by rw[hN];exact We _ _ _ hi
 have HN:=EP hN;have HR:=EP hR;rw[<-hR];clear hN hR;go_in;go_wp2
 go_loopg [5] (s.size-i) (λgg v wr=>∃k:Nat,gg=s.size-k/\v=.int .i64 k/\wr=w/\i<=k/\k<=s.size/\k+span f_ (s.data.toList.drop k)=N)
 case atStart=>exact⟨i,rfl,rfl,rfl,by omega,hi,HN.o.symm⟩
 case round =>
  obtain⟨k,rfl,rfl,rfl,qk,hk,hn⟩:=hrel;by_cases af:k<s.size
  ·by_cases hp:f_ s[k]=true
   ·have HS:=EP (S7 _ s k _ af hn hp)
    clear hn;go_wp2_with (go_at_call 144;refine(G8 _ _).mono ?_;rintro e w' ⟨rfl,rfl⟩);go_roundg (s.size-(k+1))
    case measure=>omega
    case rel=>exact⟨k+1,rfl,by go_num,rfl,by omega,by omega,HS.o⟩
   ·have hp:f_ s[k]=false:=by simpa using hp
    obtain rfl:k=N:=SZ _ s k _ af hn hp;clear hn;by_cases h6:6<k-i
    ·have d6:decide ((6:Int)<(k:Int)-(i:Int))=true:=CD (by omega)
     have hr:=EP (Sc s i (by rw[N3 s i k (by omega) HN];simp;omega));go_wp2_with (go_at_call 144;refine(G8 _ _).mono ?_;rintro e w' ⟨rfl,rfl⟩);go_ret
     exact⟨JS (by rw[HR.o,<-hr.o]),rfl⟩
    ·have d6:decide ((6:Int)<(k:Int)-(i:Int))=false:=CF (by omega)
     by_cases h1:1<k-i
     ·have d1:decide ((1:Int)<(k:Int)-(i:Int))=true:=CD (by omega)
      have his:i<s.size:=by omega
      by_cases hd:s[i]=48
      ·have d48:((s[i].toNat:Int)==48)=true:=JT _ 48 hd
       have hr:=EP (Sc s i (by rw[N3 s i k (by omega) HN];simp[h1,hd]));clear hd;go_wp2_with (go_at_call 144;refine(G8 _ _).mono ?_;rintro e w' ⟨rfl,rfl⟩);go_ret
       exact⟨JS (by rw[HR.o,<-hr.o]),rfl⟩
      ·have d48:((s[i].toNat:Int)==48)=false:=Ix _ 48 hd
       have hr:=EP (Sd s i k HN (by rw[N3 s i k (by omega) HN];simp[hd];omega));clear hd;go_wp2_with (go_at_call 144;refine(G8 _ _).mono ?_;rintro e w' ⟨rfl,rfl⟩);go_ret
       exact⟨JS (by rw[HR.o,<-hr.o]),rfl⟩
     ·have d1:decide ((1:Int)<(k:Int)-(i:Int))=false:=CF (by omega)
      have hr:Hid (k=i+(number (s.data.toList.drop i)).2):=by
       by_cases he:k=i
       ·exact EP (ziZ s i k HN he)
       ·exact EP (Sd s i k HN (by rw[N3 s i k (by omega) HN];simp;omega))
      go_wp2_with (go_at_call 144;refine(G8 _ _).mono ?_;rintro e w' ⟨rfl,rfl⟩);go_ret
      exact⟨JS (by rw[HR.o,<-hr.o]),rfl⟩
  ·obtain rfl:k=N:=Sf _ s k _ (by omega) hn
   clear hn;by_cases h6:6<k-i
   ·have d6:decide ((6:Int)<(k:Int)-(i:Int))=true:=CD (by omega)
    have hr:=EP (Sc s i (by rw[N3 s i k (by omega) HN];simp;omega));go_wp2_with fail;go_ret
    exact⟨JS (by rw[HR.o,<-hr.o]),rfl⟩
   ·have d6:decide ((6:Int)<(k:Int)-(i:Int))=false:=CF (by omega)
    by_cases h1:1<k-i
    ·have d1:decide ((1:Int)<(k:Int)-(i:Int))=true:=CD (by omega)
     have his:i<s.size:=by omega
     by_cases hd:s[i]=48
     ·have d48:((s[i].toNat:Int)==48)=true:=JT _ 48 hd
      have hr:=EP (Sc s i (by rw[N3 s i k (by omega) HN];simp[h1,hd]));clear hd;go_wp2_with fail;go_ret
      exact⟨JS (by rw[HR.o,<-hr.o]),rfl⟩
     ·have d48:((s[i].toNat:Int)==48)=false:=Ix _ 48 hd
      have hr:=EP (Sd s i k HN (by rw[N3 s i k (by omega) HN];simp[hd];omega));clear hd;go_wp2_with fail;go_ret
      exact⟨JS (by rw[HR.o,<-hr.o]),rfl⟩
    ·have d1:decide ((1:Int)<(k:Int)-(i:Int))=false:=CF (by omega)
     have hr:Hid (k=i+(number (s.data.toList.drop i)).2):=by
      by_cases he:k=i
      ·exact EP (ziZ s i k HN he)
      ·exact EP (Sd s i k HN (by rw[N3 s i k (by omega) HN];simp;omega))
     go_wp2_with fail;go_ret
     exact⟨JS (by rw[HR.o,<-hr.o]),rfl⟩
set_option maxRecDepth 100000
theorem QD(s:ByteArray)(i:Nat)(hi:i<s.size):first (s.data.toList.drop i)=if isLet s[i] then word (s.data.toList.drop i) else if f_ s[i] then number (s.data.toList.drop i) else if s[i]=63 then JZ (s.data.toList.drop i) else sign (s.data.toList.drop i):=by
 rw[w_ s i hi];rfl
theorem zoz(s:ByteArray)(i k:Nat)(hi:i<s.size)(hl:isLet s[i]=true)(h:Hid (k=i+span G7 (s.data.toList.drop i)))(hk:16<k-i):first (s.data.toList.drop i)=(0,0):=by
 rw[QD s i hi,Ch hl,word,show span G7 (s.data.toList.drop i)=k-i by have:=h.o;omega,Ch hk]
theorem zoA(s:ByteArray)(i k:Nat)(hi:i<s.size)(hl:isLet s[i]=true)(h:Hid (k=i+span G7 (s.data.toList.drop i)))(hk:¬16<k-i):first (s.data.toList.drop i)=(o_ (s.extract i k).data.toList,k-i):=by
 rw[QD s i hi,Ch hl,word,show span G7 (s.data.toList.drop i)=k-i by have:=h.o;omega,Cg hk,Lib.extract_data]
theorem zoB(s:ByteArray)(i k:Nat)(hi:i<s.size)(qk:i<k):(s.extract i k).data.toList.headD 0=s[i]:=by
 rw[Lib.extract_data,w_ s i hi,show k-i=(k-i-1)+1 by omega,CX];rfl
theorem zrm(l:List UInt8)(W:ByteArray)(hW:W.data.toList=l)(h:W.toList∈keys):o_ l=3:=by
 rw[CL,hW]at h;simp[o_,h]
theorem zrL(l:List UInt8)(W:ByteArray)(hW:W.data.toList=l)(h:W.toList∉keys)(hu:GK (l.headD 0)=true):o_ l=2:=by
 rw[CL,hW]at h;unfold o_;rw[Cg h,Ch hu]
theorem zrn(l:List UInt8)(W:ByteArray)(hW:W.data.toList=l)(h:W.toList∉keys)(hu:GK (l.headD 0)=false):o_ l=1:=by
 rw[CL,hW]at h;unfold o_;rw[Cg h,hu];rfl
theorem zli(s:ByteArray)(i:Nat)(w:World)(hs:s.size<=4000)(hi:i<s.size)(hl:isLet s[i]=true):Calls prog 96 #[.string s,.int .i64 i] w λe w'=>e=.returned (.tuple #[.int .i64 ((first (s.data.toList.drop i)).1:Nat),.int .i64 ((i+(first (s.data.toList.drop i)).2:Nat):Int)])/\w=w':=by
 obtain⟨N,hN⟩:∃N,N=i+span G7 (s.data.toList.drop i):=⟨_,rfl⟩;obtain⟨K,hK⟩:∃K,K=(first (s.data.toList.drop i)).1:=⟨_,rfl⟩;obtain⟨E,hE⟩:∃E,E=i+(first (s.data.toList.drop i)).2:=⟨_,rfl⟩;have Xy:N<=s.size:=by rw[hN];exact We _ _ _ (by omega)
 have wI:i<N:=by
  have:1<=span G7 (s.data.toList.drop i):=by rw[w_ s i hi];exact VU _ _ hl
  omega
 have gz:=zmk s[i] hl;have HN:=EP hN;have HK:=EP hK;have HE:=EP hE;rw[<-hK,<-hE];clear hN hK hE;go_in;go_wp2_with (go_at_call 143;refine(Hw _ _).mono ?_;rintro e w' ⟨rfl,rfl⟩);go_loopg [7] (s.size-i) (λgg v wr=>∃k:Nat,gg=s.size-k/\v=.int .i64 k/\wr=w/\i<=k/\k<=s.size/\k+span G7 (s.data.toList.drop k)=N)
 case atStart=>exact⟨i,rfl,rfl,rfl,by omega,by omega,HN.o.symm⟩
 case round =>
  obtain⟨k,rfl,rfl,rfl,qk,hk,hn⟩:=hrel;by_cases Tz:∃h:k<s.size,G7 s[k]=true
  ·obtain⟨af,hp⟩:=Tz
   have HS:=EP (S7 _ s k _ af hn hp);clear hn;by_cases bw:isLet s[k]=true
   ·go_wp2_with (first|(go_at_call 143;refine(Hw _ _).mono ?_;rintro e w' ⟨rfl,rfl⟩)|(go_at_call 144;refine(G8 _ _).mono ?_;rintro e w' ⟨rfl,rfl⟩))
    go_roundg (s.size-(k+1))
    case measure=>omega
    case rel=>exact⟨k+1,rfl,by go_num,rfl,by omega,by omega,HS.o⟩
   ·have bw:isLet s[k]=false:=by simpa using bw
    by_cases Xj:f_ s[k]=true
    ·go_wp2_with (first|(go_at_call 143;refine(Hw _ _).mono ?_;rintro e w' ⟨rfl,rfl⟩)|(go_at_call 144;refine(G8 _ _).mono ?_;rintro e w' ⟨rfl,rfl⟩))
     go_roundg (s.size-(k+1))
     case measure=>omega
     case rel=>exact⟨k+1,rfl,by go_num,rfl,by omega,by omega,HS.o⟩
    ·have Xj:f_ s[k]=false:=by simpa using Xj
     have e95:s[k]=95:=by simpa[G7,bw,Xj] using hp
     have d95:((s[k].toNat:Int)==95)=true:=JT _ 95 e95;clear e95 hp;go_wp2_with (first|(go_at_call 143;refine(Hw _ _).mono ?_;rintro e w' ⟨rfl,rfl⟩)|(go_at_call 144;refine(G8 _ _).mono ?_;rintro e w' ⟨rfl,rfl⟩));go_roundg (s.size-(k+1))
     case measure=>omega
     case rel=>exact⟨k+1,rfl,by go_num,rfl,by omega,by omega,HS.o⟩
  ·have W_:k=N:=by
    by_cases af:k<s.size
    ·exact SZ _ s k _ af hn (by simpa using λh=>Tz ⟨af,h⟩)
    ·exact Sf _ s k _ (by omega) hn
   obtain rfl:=W_;clear hn;have lH:k<s.size->∃h:k<s.size,isLet s[k]=false/\f_ s[k]=false/\((s[k].toNat:Int)==95)=false:=λh=>by
    have hp:G7 s[k]=false:=by simpa using λe=>Tz ⟨h,e⟩
    simp[G7]at hp;exact⟨h,hp.1.1,hp.1.2,Ix _ 95 hp.2⟩
   have dv:=EP lH;clear Tz lH;by_cases h16:16<k-i
   ·have d16:decide ((16:Int)<(k:Int)-(i:Int))=true:=CD (by omega)
    have hf:=zoz s i k hi hl HN h16;have H1:=EP (show K=0/\E=i by rw[HK.o,HE.o,hf];exact⟨rfl,rfl⟩);clear hf;by_cases af:k<s.size
    ·obtain⟨_,f1,f2,f3⟩:=dv.o af
     go_wp2_with (first|(go_at_call 143;refine(Hw _ _).mono ?_;rintro e w' ⟨rfl,rfl⟩)|(go_at_call 144;refine(G8 _ _).mono ?_;rintro e w' ⟨rfl,rfl⟩));go_ret2
     exact⟨Gu (by rw[H1.o.1];rfl) (by rw[H1.o.2]),rfl⟩
    ·go_wp2_with (first|(go_at_call 143;refine(Hw _ _).mono ?_;rintro e w' ⟨rfl,rfl⟩)|(go_at_call 144;refine(G8 _ _).mono ?_;rintro e w' ⟨rfl,rfl⟩))
     go_ret2
     exact⟨Gu (by rw[H1.o.1];rfl) (by rw[H1.o.2]),rfl⟩
   ·have d16:decide ((16:Int)<(k:Int)-(i:Int))=false:=CF (by omega)
    have hf:=zoA s i k hi hl HN h16;have oT:=zoB s i k hi wI;obtain⟨W,hW⟩:∃W,s.extract i k=W:=⟨_,rfl⟩;rw[hW]at hf oT;have H1:=EP (show K=o_ W.data.toList/\E=k by rw[HK.o,HE.o,hf];exact⟨rfl,by simp;omega⟩);clear hf;by_cases hm:W.toList∈keys
    ·have qe:=zrm _ W rfl hm
     simp only[keys,Cd,CI,or_false]at hm;rcases hm with hm|hm|hm|hm|hm|hm
     ·have e0:(W.toList==[100,97,116,97])=true:=by rw[hm];rfl
      have H2:=EP (H1.o.1.trans (qe));clear hm oT;by_cases af:k<s.size
      ·obtain⟨_,f1,f2,f3⟩:=dv.o af
       go_wp2_with (first|(go_at_call 143;refine(Hw _ _).mono ?_;rintro e w' ⟨rfl,rfl⟩)|(go_at_call 144;refine(G8 _ _).mono ?_;rintro e w' ⟨rfl,rfl⟩));go_ret2
       exact⟨Gu (by rw[H2.o];rfl) (by rw[H1.o.2]),rfl⟩
      ·go_wp2_with (first|(go_at_call 143;refine(Hw _ _).mono ?_;rintro e w' ⟨rfl,rfl⟩)|(go_at_call 144;refine(G8 _ _).mono ?_;rintro e w' ⟨rfl,rfl⟩))
       go_ret2
       exact⟨Gu (by rw[H2.o];rfl) (by rw[H1.o.2]),rfl⟩
     ·have e0:(W.toList==[100,97,116,97])=false:=by rw[hm];rfl
      have e1:(W.toList==[108,101,116])=true:=by rw[hm];rfl
      have H2:=EP (H1.o.1.trans (qe));clear hm oT;by_cases af:k<s.size
      ·obtain⟨_,f1,f2,f3⟩:=dv.o af
       go_wp2_with (first|(go_at_call 143;refine(Hw _ _).mono ?_;rintro e w' ⟨rfl,rfl⟩)|(go_at_call 144;refine(G8 _ _).mono ?_;rintro e w' ⟨rfl,rfl⟩));go_ret2
       exact⟨Gu (by rw[H2.o];rfl) (by rw[H1.o.2]),rfl⟩
      ·go_wp2_with (first|(go_at_call 143;refine(Hw _ _).mono ?_;rintro e w' ⟨rfl,rfl⟩)|(go_at_call 144;refine(G8 _ _).mono ?_;rintro e w' ⟨rfl,rfl⟩))
       go_ret2
       exact⟨Gu (by rw[H2.o];rfl) (by rw[H1.o.2]),rfl⟩
     ·have e0:(W.toList==[100,97,116,97])=false:=by rw[hm];rfl
      have e1:(W.toList==[108,101,116])=false:=by rw[hm];rfl
      have e2:(W.toList==[105,110])=true:=by rw[hm];rfl
      have H2:=EP (H1.o.1.trans (qe));clear hm oT;by_cases af:k<s.size
      ·obtain⟨_,f1,f2,f3⟩:=dv.o af
       go_wp2_with (first|(go_at_call 143;refine(Hw _ _).mono ?_;rintro e w' ⟨rfl,rfl⟩)|(go_at_call 144;refine(G8 _ _).mono ?_;rintro e w' ⟨rfl,rfl⟩));go_ret2
       exact⟨Gu (by rw[H2.o];rfl) (by rw[H1.o.2]),rfl⟩
      ·go_wp2_with (first|(go_at_call 143;refine(Hw _ _).mono ?_;rintro e w' ⟨rfl,rfl⟩)|(go_at_call 144;refine(G8 _ _).mono ?_;rintro e w' ⟨rfl,rfl⟩))
       go_ret2
       exact⟨Gu (by rw[H2.o];rfl) (by rw[H1.o.2]),rfl⟩
     ·have e0:(W.toList==[100,97,116,97])=false:=by rw[hm];rfl
      have e1:(W.toList==[108,101,116])=false:=by rw[hm];rfl
      have e2:(W.toList==[105,110])=false:=by rw[hm];rfl
      have e3:(W.toList==[99,97,115,101])=true:=by rw[hm];rfl
      have H2:=EP (H1.o.1.trans (qe));clear hm oT;by_cases af:k<s.size
      ·obtain⟨_,f1,f2,f3⟩:=dv.o af
       go_wp2_with (first|(go_at_call 143;refine(Hw _ _).mono ?_;rintro e w' ⟨rfl,rfl⟩)|(go_at_call 144;refine(G8 _ _).mono ?_;rintro e w' ⟨rfl,rfl⟩));go_ret2
       exact⟨Gu (by rw[H2.o];rfl) (by rw[H1.o.2]),rfl⟩
      ·go_wp2_with (first|(go_at_call 143;refine(Hw _ _).mono ?_;rintro e w' ⟨rfl,rfl⟩)|(go_at_call 144;refine(G8 _ _).mono ?_;rintro e w' ⟨rfl,rfl⟩))
       go_ret2
       exact⟨Gu (by rw[H2.o];rfl) (by rw[H1.o.2]),rfl⟩
     ·have e0:(W.toList==[100,97,116,97])=false:=by rw[hm];rfl
      have e1:(W.toList==[108,101,116])=false:=by rw[hm];rfl
      have e2:(W.toList==[105,110])=false:=by rw[hm];rfl
      have e3:(W.toList==[99,97,115,101])=false:=by rw[hm];rfl
      have e4:(W.toList==[111,102])=true:=by rw[hm];rfl
      have H2:=EP (H1.o.1.trans (qe));clear hm oT;by_cases af:k<s.size
      ·obtain⟨_,f1,f2,f3⟩:=dv.o af
       go_wp2_with (first|(go_at_call 143;refine(Hw _ _).mono ?_;rintro e w' ⟨rfl,rfl⟩)|(go_at_call 144;refine(G8 _ _).mono ?_;rintro e w' ⟨rfl,rfl⟩));go_ret2
       exact⟨Gu (by rw[H2.o];rfl) (by rw[H1.o.2]),rfl⟩
      ·go_wp2_with (first|(go_at_call 143;refine(Hw _ _).mono ?_;rintro e w' ⟨rfl,rfl⟩)|(go_at_call 144;refine(G8 _ _).mono ?_;rintro e w' ⟨rfl,rfl⟩))
       go_ret2
       exact⟨Gu (by rw[H2.o];rfl) (by rw[H1.o.2]),rfl⟩
     ·have e0:(W.toList==[100,97,116,97])=false:=by rw[hm];rfl
      have e1:(W.toList==[108,101,116])=false:=by rw[hm];rfl
      have e2:(W.toList==[105,110])=false:=by rw[hm];rfl
      have e3:(W.toList==[99,97,115,101])=false:=by rw[hm];rfl
      have e4:(W.toList==[111,102])=false:=by rw[hm];rfl
      have e5:(W.toList==[102,111,114,97,108,108])=true:=by rw[hm];rfl
      have H2:=EP (H1.o.1.trans (qe));clear hm oT;by_cases af:k<s.size
      ·obtain⟨_,f1,f2,f3⟩:=dv.o af
       go_wp2_with (first|(go_at_call 143;refine(Hw _ _).mono ?_;rintro e w' ⟨rfl,rfl⟩)|(go_at_call 144;refine(G8 _ _).mono ?_;rintro e w' ⟨rfl,rfl⟩));go_ret2
       exact⟨Gu (by rw[H2.o];rfl) (by rw[H1.o.2]),rfl⟩
      ·go_wp2_with (first|(go_at_call 143;refine(Hw _ _).mono ?_;rintro e w' ⟨rfl,rfl⟩)|(go_at_call 144;refine(G8 _ _).mono ?_;rintro e w' ⟨rfl,rfl⟩))
       go_ret2
       exact⟨Gu (by rw[H2.o];rfl) (by rw[H1.o.2]),rfl⟩
    ·have e0:(W.toList==[100,97,116,97])=false:=by rw[Cv];intro e;exact hm (by rw[e];decide)
     have e1:(W.toList==[108,101,116])=false:=by rw[Cv];intro e;exact hm (by rw[e];decide)
     have e2:(W.toList==[105,110])=false:=by rw[Cv];intro e;exact hm (by rw[e];decide)
     have e3:(W.toList==[99,97,115,101])=false:=by rw[Cv];intro e;exact hm (by rw[e];decide)
     have e4:(W.toList==[111,102])=false:=by rw[Cv];intro e;exact hm (by rw[e];decide)
     have e5:(W.toList==[102,111,114,97,108,108])=false:=by rw[Cv];intro e;exact hm (by rw[e];decide)
     by_cases oi:s[i].toNat<=90
     ·have d90:decide ((s[i].toNat:Int)<=90)=true:=CD (by omega)
      have qe:=zrL _ W rfl hm (by rw[oT];simp[GK];omega);have H2:=EP (H1.o.1.trans (qe));clear hm oT;by_cases af:k<s.size
      ·obtain⟨_,f1,f2,f3⟩:=dv.o af
       go_wp2_with (first|(go_at_call 143;refine(Hw _ _).mono ?_;rintro e w' ⟨rfl,rfl⟩)|(go_at_call 144;refine(G8 _ _).mono ?_;rintro e w' ⟨rfl,rfl⟩));go_ret2
       exact⟨Gu (by rw[H2.o];rfl) (by rw[H1.o.2]),rfl⟩
      ·go_wp2_with (first|(go_at_call 143;refine(Hw _ _).mono ?_;rintro e w' ⟨rfl,rfl⟩)|(go_at_call 144;refine(G8 _ _).mono ?_;rintro e w' ⟨rfl,rfl⟩))
       go_ret2
       exact⟨Gu (by rw[H2.o];rfl) (by rw[H1.o.2]),rfl⟩
     ·have d90:decide ((s[i].toNat:Int)<=90)=false:=CF (by omega)
      have qe:=zrn _ W rfl hm (by rw[oT];simp[GK];omega);have H2:=EP (H1.o.1.trans (qe));clear hm oT;by_cases af:k<s.size
      ·obtain⟨_,f1,f2,f3⟩:=dv.o af
       go_wp2_with (first|(go_at_call 143;refine(Hw _ _).mono ?_;rintro e w' ⟨rfl,rfl⟩)|(go_at_call 144;refine(G8 _ _).mono ?_;rintro e w' ⟨rfl,rfl⟩));go_ret2
       exact⟨Gu (by rw[H2.o];rfl) (by rw[H1.o.2]),rfl⟩
      ·go_wp2_with (first|(go_at_call 143;refine(Hw _ _).mono ?_;rintro e w' ⟨rfl,rfl⟩)|(go_at_call 144;refine(G8 _ _).mono ?_;rintro e w' ⟨rfl,rfl⟩))
       go_ret2
       exact⟨Gu (by rw[H2.o];rfl) (by rw[H1.o.2]),rfl⟩
set_option maxRecDepth 100000
theorem zqy(s:ByteArray)(i:Nat)(hi:i<s.size)(hl:isLet s[i]=false)(hd:f_ s[i]=true):first (s.data.toList.drop i)=number (s.data.toList.drop i):=by
 rw[QD s i hi,hl,Cg (by simp),Ch hd]
theorem zoC(s:ByteArray)(i:Nat)(hi:i<s.size)(hl:isLet s[i]=false)(hd:f_ s[i]=false)(hq:s[i]=63):first (s.data.toList.drop i)=JZ (s.data.toList.drop i):=by
 rw[QD s i hi,hl,hd,Cg (by simp),Cg (by simp),Ch hq]
theorem zi0(s:ByteArray)(i:Nat)(hi:i<s.size)(hl:isLet s[i]=false)(hd:f_ s[i]=false)(hq:¬s[i]=63):first (s.data.toList.drop i)=sign (s.data.toList.drop i):=by
 rw[QD s i hi,hl,hd,Cg (by simp),Cg (by simp),Cg hq]
theorem zoD(l:List UInt8)(h:(number l).2=0):number l=(0,0):=by
 rcases KV l with e|⟨e,h1,_⟩
 ·exact e
 ·rw[e]at h;simp at h;omega
theorem zqz(l:List UInt8)(n:Nat)(h:(number l).2=n)(h0:n≠0):number l=(4,n):=by
 rcases KV l with e|⟨e,h1,_⟩
 ·rw[e]at h;exact absurd h.symm h0
 ·rw[e]at h ⊢;exact Cp (Prod.mk 4) h
theorem zi1(s:ByteArray)(i:Nat)(hi:i<=s.size):i+(number (s.data.toList.drop i)).2<=s.size:=by
 have h1:=We f_ s i hi;rcases KV (s.data.toList.drop i) with e|⟨e,_,_⟩
 ·rw[e];exact hi
 ·rw[e];exact h1
theorem zmD(s:ByteArray)(i:Nat)(w:World)(hs:s.size<=4000)(hi:i<s.size)(hl:isLet s[i]=false)(hd:f_ s[i]=true):Calls prog 96 #[.string s,.int .i64 i] w λe w'=>e=.returned (.tuple #[.int .i64 ((first (s.data.toList.drop i)).1:Nat),.int .i64 ((i+(first (s.data.toList.drop i)).2:Nat):Int)])/\w=w':=by
 obtain⟨K,hK⟩:∃K,K=(first (s.data.toList.drop i)).1:=⟨_,rfl⟩;obtain⟨E,hE⟩:∃E,E=i+(first (s.data.toList.drop i)).2:=⟨_,rfl⟩;have HK:=EP hK;have HE:=EP hE;rw[<-hK,<-hE];clear hK hE;have iX:=zi1 s i (by omega);have RN:=zgJ s i w hs (by omega);obtain⟨n,hn⟩:∃n,(number (s.data.toList.drop i)).2=n:=⟨_,rfl⟩;obtain⟨k,hk⟩:∃k,i+n=k:=⟨_,rfl⟩;rw[hn,hk]at RN iX;have hf:=zqy s i hi hl hd;by_cases h0:n=0
 ·have H1:=EP (show K=0/\E=i by rw[HK.o,HE.o,hf,zoD _ (hn.trans h0)];exact⟨rfl,rfl⟩)
  have dk:((k:Int) ==(i:Int))=true:=by simp;omega
  clear hn hk h0 hf;go_in;go_wp2_with (first|(go_at_call 143;refine(Hw _ _).mono ?_;rintro e w' ⟨rfl,rfl⟩)|(go_at_call 144;refine(G8 _ _).mono ?_;rintro e w' ⟨rfl,rfl⟩)|(go_at_call 145;refine RN.mono ?_;rintro e w' ⟨rfl,rfl⟩));go_ret2
  exact⟨Gu (by rw[H1.o.1];rfl) (by rw[H1.o.2]),rfl⟩
 ·have H1:=EP (show K=4/\E=k by rw[HK.o,HE.o,hf,zqz _ n hn h0];exact⟨rfl,hk⟩)
  have dk:((k:Int) ==(i:Int))=false:=by rw[Cz];intro h;simp at h;omega
  clear hn hk h0 hf;go_in;go_wp2_with (first|(go_at_call 143;refine(Hw _ _).mono ?_;rintro e w' ⟨rfl,rfl⟩)|(go_at_call 144;refine(G8 _ _).mono ?_;rintro e w' ⟨rfl,rfl⟩)|(go_at_call 145;refine RN.mono ?_;rintro e w' ⟨rfl,rfl⟩));go_ret2
  exact⟨Gu (by rw[H1.o.1];rfl) (by rw[H1.o.2]),rfl⟩
theorem zmE(s:ByteArray)(i:Nat)(w:World)(hs:s.size<=4000)(hi:i<s.size)(hl:isLet s[i]=false)(hd:f_ s[i]=false)(hq:s[i]=63):Calls prog 96 #[.string s,.int .i64 i] w λe w'=>e=.returned (.tuple #[.int .i64 ((first (s.data.toList.drop i)).1:Nat),.int .i64 ((i+(first (s.data.toList.drop i)).2:Nat):Int)])/\w=w':=by
 obtain⟨K,hK⟩:∃K,K=(first (s.data.toList.drop i)).1:=⟨_,rfl⟩;obtain⟨E,hE⟩:∃E,E=i+(first (s.data.toList.drop i)).2:=⟨_,rfl⟩;have HK:=EP hK;have HE:=EP hE;rw[<-hK,<-hE];clear hK hE;have iX:=zi1 s (i+1) (by omega);have RN:=zgJ s (i+1) w hs (by omega);obtain⟨n,hn⟩:∃n,(number (s.data.toList.drop (i+1))).2=n:=⟨_,rfl⟩;obtain⟨k,hk⟩:∃k,i+1+n=k:=⟨_,rfl⟩;rw[hn,hk]at RN iX;have RN:Calls prog 145 #[.string s,.int .i64 ((i:Int)+1)] w λe w'=>e=.returned (.int .i64 (k:Nat))/\w=w':=RN;have hf:=zoC s i hi hl hd hq;have q1:((s[i].toNat:Int)==63)=true:=JT _ 63 hq;have wO:(s.data.toList.drop i).drop 1=s.data.toList.drop (i+1):=by rw[Ef]
 by_cases h0:n=0
 ·have H1:=EP (show K=0/\E=i by rw[HK.o,HE.o,hf,JZ,wO,Ch (hn.trans h0)];exact⟨rfl,rfl⟩)
  have dk:((k:Int) ==(i:Int)+1)=true:=by simp;omega
  clear hn hk h0 hf hq wO;go_in;go_wp2_with (first|(go_at_call 143;refine(Hw _ _).mono ?_;rintro e w' ⟨rfl,rfl⟩)|(go_at_call 144;refine(G8 _ _).mono ?_;rintro e w' ⟨rfl,rfl⟩)|(go_at_call 145;refine RN.mono ?_;rintro e w' ⟨rfl,rfl⟩));go_ret2
  exact⟨Gu (by rw[H1.o.1];rfl) (by rw[H1.o.2]),rfl⟩
 ·have H1:=EP (show K=5/\E=k by rw[HK.o,HE.o,hf,JZ,wO,Cg (by rw[hn];exact h0),hn];exact⟨rfl,by simp;omega⟩)
  have dk:((k:Int) ==(i:Int)+1)=false:=by rw[Cz];intro h;simp at h;omega
  clear hn hk h0 hf hq wO;go_in;go_wp2_with (first|(go_at_call 143;refine(Hw _ _).mono ?_;rintro e w' ⟨rfl,rfl⟩)|(go_at_call 144;refine(G8 _ _).mono ?_;rintro e w' ⟨rfl,rfl⟩)|(go_at_call 145;refine RN.mono ?_;rintro e w' ⟨rfl,rfl⟩));go_ret2
  exact⟨Gu (by rw[H1.o.1];rfl) (by rw[H1.o.2]),rfl⟩
theorem RU(s:ByteArray)(i:Nat)(a:UInt8)(hi:i<s.size):pre [a,62] (s.data.toList.drop i)=(a==s[i] &&(if h:i+1<s.size then(62:UInt8)==s[i+1] else false)):=by
 rw[w_ s i hi];by_cases h:i+1<s.size
 ·rw[dif_pos h,w_ s (i+1) h]
  simp[pre,List.isPrefixOf]
 ·rw[dif_neg h,CH (by rw[<-Dc];omega)]
  simp[pre,List.isPrefixOf]
theorem zlj(s:ByteArray)(i:Nat)(hi:i<s.size)(h1:i+1<s.size)(je:s[i+1]=62)(h:s[i]=45\/s[i]=124):sign (s.data.toList.drop i)=(6,2):=by
 refine Vy _ ?_;rw[RU s i 45 hi,RU s i 124 hi,dif_pos h1,je];rcases h with h|h <;> rw[h] <;> decide
theorem zoE(s:ByteArray)(i:Nat)(hi:i<s.size)(h:∀h1:i+1<s.size,s[i+1]=62->¬(s[i]=45\/s[i]=124)):pre [45,62] (s.data.toList.drop i)=false/\pre [124,62] (s.data.toList.drop i)=false:=by
 rw[RU s i 45 hi,RU s i 124 hi];by_cases h1:i+1<s.size
 ·rw[dif_pos h1]
  by_cases je:s[i+1]=62
  ·have:=h h1 je
   constructor <;> rw[Bool.and_eq_false_iff] <;> left <;> rw[Cv] <;> intro e <;> exact this (by simp[<-e])
  ·have e:((62:UInt8)==s[i+1])=false:=by rw[Cv];exact λe=>je e.symm
   rw[e];simp
 ·rw[dif_neg h1];simp
def SG:ByteArray:=⟨#[92,58,61,59,123,125,40,41,46,126,64,60,62,44,91,93,33]⟩
theorem PG:SG.size=17:=rfl
theorem Pz(c:UInt8):c∈Ik↔∃(k:Nat)(h:k<SG.size),SG[k]=c:=by
 rw[show Ik=SG.data.toList from rfl];constructor
 ·intro h
  obtain⟨k,hk,e⟩:=List.getElem_of_mem h;exact⟨k,by simpa using hk,by rw[<-e];rfl⟩
 ·rintro⟨k,hk,e⟩
  rw[<-e];exact CN.2 ⟨k,by simpa using hk,rfl⟩
theorem zmF(s:ByteArray)(i:Nat)(w:World)(hs:s.size<=4000)(hi:i<s.size)(hl:isLet s[i]=false)(hd:f_ s[i]=false)(hq:¬s[i]=63)(h1:i+1<s.size)(je:s[i+1]=62)(h:s[i]=45\/s[i]=124):Calls prog 96 #[.string s,.int .i64 i] w λe w'=>e=.returned (.tuple #[.int .i64 ((first (s.data.toList.drop i)).1:Nat),.int .i64 ((i+(first (s.data.toList.drop i)).2:Nat):Int)])/\w=w':=by
 obtain⟨K,hK⟩:∃K,K=(first (s.data.toList.drop i)).1:=⟨_,rfl⟩;obtain⟨E,hE⟩:∃E,E=i+(first (s.data.toList.drop i)).2:=⟨_,rfl⟩;have HK:=EP hK;have HE:=EP hE;rw[<-hK,<-hE];clear hK hE;have hf:=zi0 s i hi hl hd hq;have H1:=EP (show K=6/\E=i+2 by rw[HK.o,HE.o,hf,zlj s i hi h1 je h];exact⟨rfl,rfl⟩);have q1:((s[i].toNat:Int)==63)=false:=Ix _ 63 hq;have q2:((s[i+1].toNat:Int)==62)=true:=JT _ 62 je;clear hf hq je;rcases h with h|h
 ·have q3:((s[i].toNat:Int)==45)=true:=JT _ 45 h
  clear h;go_in;go_wp2_with (first|(go_at_call 143;refine(Hw _ _).mono ?_;rintro e w' ⟨rfl,rfl⟩)|(go_at_call 144;refine(G8 _ _).mono ?_;rintro e w' ⟨rfl,rfl⟩));go_ret2
  exact⟨Gu (by rw[H1.o.1];rfl) (by rw[H1.o.2];simp),rfl⟩
 ·have q3:((s[i].toNat:Int)==45)=false:=Ix _ 45 (by rw[h];decide)
  have q4:((s[i].toNat:Int)==124)=true:=JT _ 124 h;clear h;go_in;go_wp2_with (first|(go_at_call 143;refine(Hw _ _).mono ?_;rintro e w' ⟨rfl,rfl⟩)|(go_at_call 144;refine(G8 _ _).mono ?_;rintro e w' ⟨rfl,rfl⟩));go_ret2
  exact⟨Gu (by rw[H1.o.1];rfl) (by rw[H1.o.2];simp),rfl⟩
theorem zmG(s:ByteArray)(i:Nat)(w:World)(hs:s.size<=4000)(hi:i<s.size)(hl:isLet s[i]=false)(hd:f_ s[i]=false)(hq:¬s[i]=63)(bN:∀h1:i+1<s.size,s[i+1]=62->¬(s[i]=45\/s[i]=124)):Calls prog 96 #[.string s,.int .i64 i] w λe w'=>e=.returned (.tuple #[.int .i64 ((first (s.data.toList.drop i)).1:Nat),.int .i64 ((i+(first (s.data.toList.drop i)).2:Nat):Int)])/\∃n,w'=w.drewN n:=by
 obtain⟨K,hK⟩:∃K,K=(first (s.data.toList.drop i)).1:=⟨_,rfl⟩;obtain⟨E,hE⟩:∃E,E=i+(first (s.data.toList.drop i)).2:=⟨_,rfl⟩;have HK:=EP hK;have HE:=EP hE;rw[<-hK,<-hE];clear hK hE;have hf:=zi0 s i hi hl hd hq;have fJ:=zoE s i hi bN;obtain⟨G,hG⟩:∃G,(⟨#[92,58,61,59,123,125,40,41,46,126,64,60,62,44,91,93,33]⟩:ByteArray)=G:=⟨_,rfl⟩;have q1:((s[i].toNat:Int)==63)=false:=Ix _ 63 hq;clear hq;by_cases h1:i+1<s.size
 ·by_cases je:s[i+1]=62
  ·have lM:=bN h1 je
   have q2:((s[i+1].toNat:Int)==62)=true:=JT _ 62 je;have q3:((s[i].toNat:Int)==45)=false:=Ix _ 45 (λe=>lM (.inl e));have q4:((s[i].toNat:Int)==124)=false:=Ix _ 124 (λe=>lM (.inr e));clear bN lM je;go_in;go_wp2_with (first|(go_at_call 143;refine(Hw _ _).mono ?_;rintro e w' ⟨rfl,rfl⟩)|(go_at_call 144;refine(G8 _ _).mono ?_;rintro e w' ⟨rfl,rfl⟩));go_loopg [12] 17 (λgg v wr=>∃k m:Nat,gg=17-k/\v=.int .i64 k/\wr=w.drewN m/\k<=17/\∀j (hj:j<SG.size),j<k->SG[j]≠s[i])
   case atStart=>exact⟨0,0,rfl,rfl,rfl,by omega,λj _ h=>absurd h (by omega)⟩
   case round =>
    obtain⟨k,m,rfl,rfl,rfl,hk,hn⟩:=hrel;have gw:=EP hn;clear hn;have hz:G.size<=17/\17<=G.size:=by rw[<-hG];exact⟨BU _,BU _⟩
    obtain⟨bS,bC⟩:=hz;by_cases af:k<G.size
    ·have cO:k<SG.size:=by rw[PG];omega
     have gC:G[k]=SG[k]:=by simp only[<-hG];rfl
     by_cases he:SG[k]=s[i]
     ·have q9:((G[k].toNat:Int) ==(s[i].toNat:Int))=true:=JT _ _ (gC.trans he)
      have H1:=EP (show K=6/\E=i+1 by rw[HK.o,HE.o,hf,Se _ fJ.1 fJ.2 (by rw[head_drop s i hi];exact(Pz _).2 ⟨k,cO,he⟩)];exact⟨rfl,rfl⟩);clear hf fJ gC he;go_wp2_with fail;go_quiet (fail)
      go_wp2_with fail;go_ret2
      exact⟨Gu (by rw[H1.o.1];rfl) (by rw[H1.o.2];simp),_,rfl⟩
     ·have q9:((G[k].toNat:Int) ==(s[i].toNat:Int))=false:=Ix _ _ (λe=>he (gC.symm.trans e))
      have HS:Hid (∀j (hj:j<SG.size),j<k+1->SG[j]≠s[i]):=by
       intro j hj zg;by_cases e:j=k
       ·subst e;exact he
       ·exact gw.o j hj (by omega)
      clear hf fJ gC he;go_wp2_with fail;go_quiet (fail)
      go_wp2_with fail;go_roundg (17-(k+1))
      case measure=>omega
      case rel=>exact⟨k+1,_,rfl,by go_num,rfl,by omega,HS.o⟩
    ·have H1:=EP (show K=0/\E=i by
      rw[HK.o,HE.o,hf,SY _ fJ.1 fJ.2 (by
       rw[head_drop s i hi];intro hm;obtain⟨j,hj,e⟩:=(Pz _).1 hm;exact gw.o j hj (by rw[PG]at hj;omega) e)]
      exact⟨rfl,rfl⟩)
     clear hf fJ;go_wp2_with fail;go_ret2
     exact⟨Gu (by rw[H1.o.1];rfl) (by rw[H1.o.2]),_,rfl⟩
  ·have q2:((s[i+1].toNat:Int)==62)=false:=Ix _ 62 je
   clear bN je;go_in;go_wp2_with (first|(go_at_call 143;refine(Hw _ _).mono ?_;rintro e w' ⟨rfl,rfl⟩)|(go_at_call 144;refine(G8 _ _).mono ?_;rintro e w' ⟨rfl,rfl⟩));go_loopg [12] 17 (λgg v wr=>∃k m:Nat,gg=17-k/\v=.int .i64 k/\wr=w.drewN m/\k<=17/\∀j (hj:j<SG.size),j<k->SG[j]≠s[i])
   case atStart=>exact⟨0,0,rfl,rfl,rfl,by omega,λj _ h=>absurd h (by omega)⟩
   case round =>
    obtain⟨k,m,rfl,rfl,rfl,hk,hn⟩:=hrel;have gw:=EP hn;clear hn;have hz:G.size<=17/\17<=G.size:=by rw[<-hG];exact⟨BU _,BU _⟩
    obtain⟨bS,bC⟩:=hz;by_cases af:k<G.size
    ·have cO:k<SG.size:=by rw[PG];omega
     have gC:G[k]=SG[k]:=by simp only[<-hG];rfl
     by_cases he:SG[k]=s[i]
     ·have q9:((G[k].toNat:Int) ==(s[i].toNat:Int))=true:=JT _ _ (gC.trans he)
      have H1:=EP (show K=6/\E=i+1 by rw[HK.o,HE.o,hf,Se _ fJ.1 fJ.2 (by rw[head_drop s i hi];exact(Pz _).2 ⟨k,cO,he⟩)];exact⟨rfl,rfl⟩);clear hf fJ gC he;go_wp2_with fail;go_quiet (fail)
      go_wp2_with fail;go_ret2
      exact⟨Gu (by rw[H1.o.1];rfl) (by rw[H1.o.2];simp),_,rfl⟩
     ·have q9:((G[k].toNat:Int) ==(s[i].toNat:Int))=false:=Ix _ _ (λe=>he (gC.symm.trans e))
      have HS:Hid (∀j (hj:j<SG.size),j<k+1->SG[j]≠s[i]):=by
       intro j hj zg;by_cases e:j=k
       ·subst e;exact he
       ·exact gw.o j hj (by omega)
      clear hf fJ gC he;go_wp2_with fail;go_quiet (fail)
      go_wp2_with fail;go_roundg (17-(k+1))
      case measure=>omega
      case rel=>exact⟨k+1,_,rfl,by go_num,rfl,by omega,HS.o⟩
    ·have H1:=EP (show K=0/\E=i by
      rw[HK.o,HE.o,hf,SY _ fJ.1 fJ.2 (by
       rw[head_drop s i hi];intro hm;obtain⟨j,hj,e⟩:=(Pz _).1 hm;exact gw.o j hj (by rw[PG]at hj;omega) e)]
      exact⟨rfl,rfl⟩)
     clear hf fJ;go_wp2_with fail;go_ret2
     exact⟨Gu (by rw[H1.o.1];rfl) (by rw[H1.o.2]),_,rfl⟩
 ·clear bN
  go_in;go_wp2_with (first|(go_at_call 143;refine(Hw _ _).mono ?_;rintro e w' ⟨rfl,rfl⟩)|(go_at_call 144;refine(G8 _ _).mono ?_;rintro e w' ⟨rfl,rfl⟩));go_loopg [12] 17 (λgg v wr=>∃k m:Nat,gg=17-k/\v=.int .i64 k/\wr=w.drewN m/\k<=17/\∀j (hj:j<SG.size),j<k->SG[j]≠s[i])
  case atStart=>exact⟨0,0,rfl,rfl,rfl,by omega,λj _ h=>absurd h (by omega)⟩
  case round =>
   obtain⟨k,m,rfl,rfl,rfl,hk,hn⟩:=hrel;have gw:=EP hn;clear hn;have hz:G.size<=17/\17<=G.size:=by rw[<-hG];exact⟨BU _,BU _⟩
   obtain⟨bS,bC⟩:=hz;by_cases af:k<G.size
   ·have cO:k<SG.size:=by rw[PG];omega
    have gC:G[k]=SG[k]:=by simp only[<-hG];rfl
    by_cases he:SG[k]=s[i]
    ·have q9:((G[k].toNat:Int) ==(s[i].toNat:Int))=true:=JT _ _ (gC.trans he)
     have H1:=EP (show K=6/\E=i+1 by rw[HK.o,HE.o,hf,Se _ fJ.1 fJ.2 (by rw[head_drop s i hi];exact(Pz _).2 ⟨k,cO,he⟩)];exact⟨rfl,rfl⟩);clear hf fJ gC he;go_wp2_with fail;go_quiet (fail)
     go_wp2_with fail;go_ret2
     exact⟨Gu (by rw[H1.o.1];rfl) (by rw[H1.o.2];simp),_,rfl⟩
    ·have q9:((G[k].toNat:Int) ==(s[i].toNat:Int))=false:=Ix _ _ (λe=>he (gC.symm.trans e))
     have HS:Hid (∀j (hj:j<SG.size),j<k+1->SG[j]≠s[i]):=by
      intro j hj zg;by_cases e:j=k
      ·subst e;exact he
      ·exact gw.o j hj (by omega)
     clear hf fJ gC he;go_wp2_with fail;go_quiet (fail)
     go_wp2_with fail;go_roundg (17-(k+1))
     case measure=>omega
     case rel=>exact⟨k+1,_,rfl,by go_num,rfl,by omega,HS.o⟩
   ·have H1:=EP (show K=0/\E=i by
     rw[HK.o,HE.o,hf,SY _ fJ.1 fJ.2 (by
      rw[head_drop s i hi];intro hm;obtain⟨j,hj,e⟩:=(Pz _).1 hm;exact gw.o j hj (by rw[PG]at hj;omega) e)]
     exact⟨rfl,rfl⟩)
    clear hf fJ;go_wp2_with fail;go_ret2
    exact⟨Gu (by rw[H1.o.1];rfl) (by rw[H1.o.2]),_,rfl⟩
theorem zqA(s:ByteArray)(i:Nat)(w:World)(hs:s.size<=4000)(hi:i<s.size):Calls prog 96 #[.string s,.int .i64 i] w λe w'=>e=.returned (.tuple #[.int .i64 ((first (s.data.toList.drop i)).1:Nat),.int .i64 ((i+(first (s.data.toList.drop i)).2:Nat):Int)])/\∃n,w'=w.drewN n:=by
 by_cases hl:isLet s[i]=true
 ·exact(zli s i w hs hi hl).mono λe w' h=>⟨h.1,0,h.2.symm⟩
 ·have hl:isLet s[i]=false:=by simpa using hl
  by_cases hd:f_ s[i]=true
  ·exact(zmD s i w hs hi hl hd).mono λe w' h=>⟨h.1,0,h.2.symm⟩
  ·have hd:f_ s[i]=false:=by simpa using hd
   by_cases hq:s[i]=63
   ·exact(zmE s i w hs hi hl hd hq).mono λe w' h=>⟨h.1,0,h.2.symm⟩
   ·by_cases h:∃h1:i+1<s.size,s[i+1]=62/\(s[i]=45\/s[i]=124)
    ·obtain⟨h1,je,ha⟩:=h
     exact(zmF s i w hs hi hl hd hq h1 je ha).mono λe w' h=>⟨h.1,0,h.2.symm⟩
    ·exact zmG s i w hs hi hl hd hq (λh1 je ha=>h ⟨h1,je,ha⟩)
end
section
open Go.RowKit Lx
def N8(m:Bool)(i:Nat)(l:List UInt8):Except Nat (List Tok) :=
 if l.drop (A_ m l)=[] then .ok []
 else if(first (l.drop (A_ m l))).1=0 then .error (i+A_ m l)
 else(sc (i+A_ m l+(first (l.drop (A_ m l))).2) ((l.drop (A_ m l)).drop (first (l.drop (A_ m l))).2)).map (⟨(first (l.drop (A_ m l))).1,(l.drop (A_ m l)).take (first (l.drop (A_ m l))).2,i+A_ m l⟩::·)
theorem Ql(i:Nat)(l:List UInt8):sc i l=N8 false i l:=PT i l
theorem zhO(m m':Bool)(i:Nat)(c:UInt8)(r:List UInt8)(h:A_ m (c::r)=A_ m' r+1):N8 m i (c::r)=N8 m' (i+1) r:=by
 unfold N8;rw[h,EH,show i+(A_ m' r+1)=i+1+A_ m' r by omega]
theorem zi2(m m':Bool)(i:Nat)(l:List UInt8)(h:A_ m l=A_ m' l):N8 m i l=N8 m' i l:=by
 unfold N8;rw[h]
def Py(s:ByteArray)(k:Nat)(ts:List Tok):Prop:=lex s.data.toList=(N8 true k (s.data.toList.drop k)).map (ts++·)/\ts.length<=k
theorem zj6(s:ByteArray)(i:Nat)(ts:List Tok)(hk:Gz s i ts)(hi:i<s.size)(hb:s[i]=32\/s[i]=9\/s[i]=10):Gz s (i+1) ts:=by
 refine⟨?_,by have:=hk.2;omega⟩;rw[hk.1,w_ s i hi,Ql,zhO false false i _ _ (by rw[A_,Ch hb]),Ql]
theorem zlk(s:ByteArray)(i:Nat)(ts:List Tok)(hk:Gz s i ts)(hi:i<s.size)(eh:s[i]=35):Py s i ts:=by
 refine⟨?_,hk.2⟩;rw[hk.1,Ql,zi2 false true i _ (VI s i hi eh)]
theorem zj7(s:ByteArray)(k:Nat)(ts:List Tok)(hk:Py s k ts)(hi:k<s.size)(h:¬s[k]=10):Py s (k+1) ts:=by
 refine⟨?_,by have:=hk.2;omega⟩;have hb:(s[k] != 10)=true:=by simpa using h
 rw[hk.1,w_ s k hi,zhO true true k _ _ (by rw[A_,hb])]
theorem zmH(s:ByteArray)(k:Nat)(ts:List Tok)(hk:Py s k ts)(hi:k<s.size)(h:s[k]=10):Gz s k ts:=by
 refine⟨?_,hk.2⟩;rw[hk.1,Ql,w_ s k hi,h,zi2 true false k _ (by simp[A_])]
theorem zll(s:ByteArray)(k:Nat)(ts:List Tok)(hk:Py s k ts)(hi:s.size<=k):Gz s k ts:=by
 refine⟨?_,hk.2⟩;rw[hk.1,Ql,CH (by rw[<-Dc];exact hi)];rfl
theorem zoF(s:ByteArray)(i:Nat)(hi:i<s.size)(hb:¬(s[i]=32\/s[i]=9\/s[i]=10))(eh:¬s[i]=35):Step s i i (i+(first (s.data.toList.drop i)).2) (first (s.data.toList.drop i)).1:=by
 have h2:=ziN (s.data.toList.drop i);rw[Dk,<-Dc]at h2;refine⟨BU _,by omega,by omega,?_,by rw[Dv]⟩;rw[w_ s i hi,A_,Cg hb,Cg eh];omega
def Oh(s:ByteArray)(g:Nat)(w:World)(v x:Value)(wr:World):Prop :=
 ∃i ts,g=s.size-i/\i<=s.size/\x=.int .i64 (i:Nat)/\Gz s i ts/\wr.ownsRow w.heap.size 176 3 v ts.length (JR ts)/\Below w.heap.size w wr
theorem ziF {w:World} {base:Nat} {e:TypeId} {v:Value} {n:Nat} {xs:List Value}(h:w.ownsRow base e 3 v n xs)(k:Nat):(w.drewN k).ownsRow base e 3 v n xs:=h
theorem zlm(s:ByteArray)(w wr w2:World)(v v':Value)(i q k:Nat)(ts:List Tok)
  (st:Step s i i q k)(kn:Gz s i ts)(hi:i<s.size)(h0:k≠0)(aI:Below w.heap.size w wr)
  (aj:wr.ownsRow w.heap.size 176 3 v ts.length (JR ts))
  (sI:(wr.alloc (.cells #[.int .i64 (k:Nat),.string (s.extract i q),.int .i64 (i:Nat)] 176)).grownBy w2 v.ownBlock)
  (how:w2.ownsRow w.heap.size 176 3 v' (ts.length+1) (JR ts++[.int .i64 (k:Nat),.string (s.extract i q),.int .i64 (i:Nat)])):i<q/\Oh s (s.size-q) w v' (.int .i64 (q:Nat)) w2:=by
 obtain⟨hq,Ti⟩:=zgH s i i q k ts kn st hi h0;refine⟨hq,q,_,rfl,st.2.2.1,rfl,Ti,?_,?_⟩
 ·rw[zgF,zfj,Cb]
  exact how
 ·exact(aI.alloc aI.size _).grown sI (by have:=aI.size;simp;omega) (λm hm=>(aj.lt m hm).1)
theorem zoG(s:ByteArray)(w:World)(hs:s.size<=maxLen)(hl:4000<s.size):Calls prog 53 #[.string s] w (GR s w):=by
 have HS:Hid (JY s.data.toList=([],0,2)):=by
  refine EP ?_;unfold JY;rw[Ch (by rw[<-Dc];exact hl)]
 unfold maxLen at hs;go_in;go_wp2
 go_ret3
 exact⟨Cc _ _,_,[],0,2,HS.o,rfl,CM _ _ _ _⟩
theorem zmI(s:ByteArray)(w:World)(hl:s.size<=4000):Calls prog 53 #[.string s] w (GR s w):=by
 obtain⟨i0,bK,cj,bS,bC⟩:=Dx ziP;go_in;go_wp2_with fail;go_loopg [5,6] s.size (λg v x wr=>Oh s g w v x wr)
 case atStart=>exact⟨0,[],rfl,Cw _,rfl,zfZ s,CM _ _ _ _,Cc _ _⟩
 case round =>
  obtain⟨i,ts,rfl,hi,rfl,kn,aj,aI⟩:=hrel;have KN:=EP kn;have az:=EP aj;have aF:=EP aI;clear kn aj aI;by_cases af:i<s.size
  ·by_cases hb:s[i]=32\/s[i]=9\/s[i]=10
   ·have HK:=EP (zj6 s i ts KN.o af hb)
    have bb:(((s[i].toNat:Int)==32)=true)\/(((s[i].toNat:Int)==32)=false/\((s[i].toNat:Int)==9)=true)\/(((s[i].toNat:Int)==32)=false/\((s[i].toNat:Int)==9)=false/\((s[i].toNat:Int)==10)=true):=by
     rcases hb with h|h|h
     ·exact .inl (JT _ 32 h)
     ·exact .inr (.inl ⟨Ix _ 32 (by rw[h];decide),JT _ 9 h⟩)
     ·exact .inr (.inr ⟨Ix _ 32 (by rw[h];decide),Ix _ 9 (by rw[h];decide),JT _ 10 h⟩)
    clear hb;rcases bb with b1|⟨b1,b2⟩|⟨b1,b2,b3⟩;all_goals
     go_wp2_with fail;go_roundg (s.size-(i+1))
     case measure=>omega
     case rel=>exact⟨i+1,ts,rfl,by omega,by go_num,HK.o,az.o,aF.o⟩
   ·have b1:((s[i].toNat:Int)==32)=false:=Ix _ 32 (λe=>hb (.inl e))
    have b2:((s[i].toNat:Int)==9)=false:=Ix _ 9 (λe=>hb (.inr (.inl e)));have b3:((s[i].toNat:Int)==10)=false:=Ix _ 10 (λe=>hb (.inr (.inr e)));by_cases eh:s[i]=35
    ·have b4:((s[i].toNat:Int)==35)=true:=JT _ 35 eh
     have HT:=EP (zlk s i ts KN.o af eh);have H35:=EP eh;clear hb eh;go_wp2_with fail;obtain⟨wo,bR⟩:∃wo:World,wo=wr:=⟨_,rfl⟩;have jS:=EP bR;clear bR;go_loopg [6] (s.size-i) (λg x wi=>∃k:Nat,g=s.size-k/\x=.int .i64 k/\wi=wr/\i<=k/\k<=s.size/\Py s k ts);case atStart=>exact⟨i,rfl,rfl,rfl,BU _,by omega,HT.o⟩
     case round =>
      obtain⟨k,rfl,rfl,rfl,qk,hk,kt⟩:=hrel;have KT:=EP kt;clear kt;by_cases kE:k<s.size
      ·by_cases fF:s[k]=10
       ·have b5:((s[k].toNat:Int) != 10)=false:=by rw[fF];rfl
        have rY:=EP (zmH s k ts KT.o kE fF);have ai:i<k:=by
         rcases Eb i k with h|h
         ·exact h
         ·have e:i=k:=by omega
          have ZC:=H35.o;subst e;rw[ZC]at fF;exact absurd fF (by decide)
        clear fF;go_wp2_with fail;go_roundg (s.size-k)
        case measure=>omega
        case rel=>exact⟨k,ts,rfl,hk,rfl,rY.o,az.o,aF.o⟩
       ·have b5:((s[k].toNat:Int) != 10)=true:=by
         have ZD:((s[k].toNat:Int)==10)=false:=Ix _ 10 fF;rw[bne,ZD];rfl
        have HKT:=EP (zj7 s k ts KT.o kE fF);clear fF;go_wp2_with fail;go_roundg (s.size-(k+1))
        case measure=>omega
        case rel=>exact⟨k+1,rfl,by go_num,rfl,by omega,by omega,HKT.o⟩
      ·have rY:=EP (zll s k ts KT.o (by omega))
       go_wp2_with fail;go_roundg (s.size-k)
       case measure=>omega
       case rel=>exact⟨k,ts,rfl,hk,rfl,rY.o,az.o,aF.o⟩
    ·have b4:((s[i].toNat:Int)==35)=false:=Ix _ 35 eh
     have aW:=zoF s i af hb eh;have RO:=λw=>zqA s i w hl af;obtain⟨k,hk⟩:∃k,(first (s.data.toList.drop i)).1=k:=⟨_,rfl⟩;obtain⟨q,hq⟩:∃q,i+(first (s.data.toList.drop i)).2=q:=⟨_,rfl⟩;rw[hk,hq]at aW RO
     have ST:=EP aW;have tI:=KN.o.2;have tS:=aW.2.2.1;have hiq:=aW.2.1;clear aW hk hq hb eh;by_cases h0:k=0
     ·have jM:((k:Int)==0)=true:=by rw[h0];rfl
      have H0:=EP h0;clear h0;go_wp2_with (go_at_call 96;refine(RO _).mono ?_;rintro e w' ⟨rfl,m,rfl⟩);go_ret3
      exact⟨EW aF.o _,_,[],i,10,ziQ s i hl (zhI s i i q ts KN.o (H0.o▸ST.o) af),rfl,CM _ _ _ _⟩
     ·have jM:((k:Int)==0)=false:=by rw[Cz];intro h;simp at h;omega
      have H0:=EP h0;clear h0;go_wp2_with (first
       |(go_at_call 96;refine(RO _).mono ?_;rintro e w' ⟨rfl,m,rfl⟩)
       |(at_builtin;refine wpList_append_own _ rfl (.tmp 59) (.tmp 67) 105 rfl w.heap.size 176 i0 _ 3 32 underlying105 bK cj bS bC rfl (by decide) u5 ts.length (JR ts) rfl (ziF (az.o.alloc _) m) ⟨wr.heap.size,0,none⟩ 1 1 [.int .i64 (k:Nat),.string (s.extract i q),.int .i64 (i:Nat)] rfl rfl (VG wr #[.int .i64 (k:Nat),.string (s.extract i q),.int .i64 (i:Nat)] _) (by intro u hu;simp at hu;rcases hu with rfl|rfl|rfl <;> rfl) (by unfold maxLen;omega) (by omega) (by have:=aF.o.size;simp;omega) ?_;intro v' w2 dG ae _;have nC:=EP ae;have lu:=EP dG;clear dG ae))
      have lL:=zlm s w wr w2 u5 v' i q k ts ST.o KN.o af H0.o aF.o az.o ⟨nC.o.os,nC.o.tape,nC.o.output,nC.o.size,nC.o.block⟩ lu.o;go_roundg (s.size-q);case measure=>have:=lL.1;omega
      case rel=>exact lL.2
  ·go_wp2_with fail
   go_ret3
   have aA:i=s.size:=by omega
   obtain⟨p',q',k',st⟩:=U9 s i hi;exact⟨aF.o,_,ts,0,0,zkr s ts hl (zgG s i p' q' k' ts KN.o st (by have:=st.1;omega)),rfl,az.o⟩
theorem zqB(s:ByteArray)(w:World)(hs:s.size<=maxLen):Calls prog 53 #[.string s] w (GR s w):=by
 by_cases h:4000<s.size
 ·exact zoG s w hs h
 ·exact zmI s w (by omega)
end
end Go.Proofs.YtfafilmklhnngaaGreatDoor
