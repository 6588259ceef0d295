import Derived.Test.YtfafilmklhnngaaGreatDoorBkJ
import Derived.Deep.LoopGhost
import Derived.Deep.DeepFit
set_option maxHeartbeats 12800000
namespace Go.Proofs.YtfafilmklhnngaaGreatDoor
open Go.RowKit Lx
set_option maxRecDepth 100000
theorem zeI(w:World)(cs:Array Value)(t:TypeId):∀j u,cs.toList[j]?=some u->(w.alloc (.cells cs t)).cell? ((⟨w.heap.size,0,none⟩:Addr).add j)=some u:=by
 intro j u hu;have aW:(⟨w.heap.size,0,none⟩:Addr).add j=⟨w.heap.size,j,none⟩:=by unfold Addr.add;split <;> simp_all
 rw[aW,cell_of_row _ _ _ cs t (0,0) (heap_alloc_new _ _)]
 simpa using hu
theorem zh4:(Tryz.prog.info? 176).map (λi=>(i.zero,i.size,i.bytes))=some (some (.agg #[.int .i64 0,.string ⟨#[]⟩,.int .i64 0]),3,32):=by kernel_rfl
def Head(s:ByteArray)(N g:Nat)(w:World)(v pt:Value)(wr:World):Prop :=
 ∃i p q k ts bt,g=s.size-i/\Step s i p q k/\Known s i ts/\pt=.pointer (some ⟨bt,0,none⟩)/\Blk wr bt 176 #[.int .i64 (k:Nat),.string (s.extract p q),.int .i64 (p:Nat)] /\
  Blk wr N 9 #[.string s]/\Blk wr (N+1) 3 #[.int .i64 (q:Nat)]/\wr.ownsRow N 176 3 v ts.length (zbf ts)/\some bt≠v.ownBlock/\Below N w wr
theorem zkk(s:ByteArray)(w w1:World)(p q k:Nat)(st:Step s 0 p q k)
  (hg:((w.alloc (.cells #[.string s] 9)).alloc (.cells #[.int .i64 0] 3)).grownBy w1 (some (w.heap.size+1)))(hh:w1.heap[w.heap.size+1]?=some (.cells #[.int .i64 (q:Nat)] 3 (0,0))):Head s w.heap.size s.size w (.slice none 0 0) (.pointer (some ⟨w1.heap.size,0,none⟩)) (w1.alloc (.cells #[.int .i64 (k:Nat),.string (s.extract p q),.int .i64 (p:Nat)] 176)):=by
 have hN:Blk w1 w.heap.size 9 #[.string s]:=Blk.grown (w:=(w.alloc (.cells #[.string s] 9)).alloc (.cells #[.int .i64 0] 3)) (heap_alloc2_old _ _ _) hg (by simp);have hb:Below w.heap.size w w1:=(((Below.refl _ w).alloc (Ai _) _).alloc (by simp) _).grown hg (by simp;omega) (λk hk=>by injection hk;omega);refine⟨0,p,q,k,[],w1.heap.size,by omega,st,zfo s,rfl,heap_alloc_new _ _,hN.alloc _,Blk.alloc hh _,World.ownsRow_nil _ _ _ _,by simp[Value.ownBlock],hb.alloc hb.size _⟩
theorem zlo(s:ByteArray)(w wr w2 w3:World)(u2 v':Value)(q p2 q2 k2 k p:Nat)(ts:List Tok)(x0 x1 x2:Value)
  (ST2:Step s q p2 q2 k2)(KN2:Known s q (ts++[⟨k,(s.data.toList.drop p).take (q-p),p⟩]))(aG:Below w.heap.size w wr)
  (ay:wr.ownsRow w.heap.size 176 3 u2 ts.length (zbf ts))
  (lL:(wr.alloc (.cells #[.int .i64 (k:Nat),.string (s.extract p q),.int .i64 (p:Nat)] 176)).grownBy w2 u2.ownBlock)
  (jD:w2.ownsRow w.heap.size 176 3 v' (ts.length+1) (zbf ts++[.int .i64 (k:Nat),.string (s.extract p q),.int .i64 (p:Nat)]))
  (N1:Blk w2 w.heap.size 9 #[.string s])(A1:Blk w2 (w.heap.size+1) 3 #[.int .i64 (q:Nat)])
  (bg:(w2.alloc (.cells #[x0,x1,x2] 176)).grownBy w3 (some (w.heap.size+1)))
  (HH3:w3.heap[w.heap.size+1]?=some (.cells #[.int .i64 (q2:Nat)] 3 (0,0))):Head s w.heap.size (s.size-q) w v' (.pointer (some ⟨w2.heap.size,0,none⟩))
   (((w3.setCell ⟨w2.heap.size,0,none⟩ (.int .i64 (k2:Nat))).setCell ⟨w2.heap.size,1,none⟩ (.string (s.extract p2 q2))).setCell ⟨w2.heap.size,2,none⟩ (.int .i64 (p2:Nat))):=by
 have hA:=A1.lt;have hN:=N1.lt;have b0:Blk w3 w2.heap.size 176 #[x0,x1,x2]:=Blk.grown (w:=w2.alloc (.cells #[x0,x1,x2] 176)) (heap_alloc_new _ _) bg (by simp;omega);have b1:=heap_setCell_same _ w2.heap.size 0 _ 176 (.int .i64 (k2:Nat)) b0;have b2:=heap_setCell_same _ w2.heap.size 1 _ 176 (.string (s.extract p2 q2)) b1;have b3:=heap_setCell_same _ w2.heap.size 2 _ 176 (.int .i64 (p2:Nat)) b2;have n0:Blk w3 w.heap.size 9 #[.string s]:=(N1.alloc _).grown bg (by simp);have ah:=jD.lt;have af:v'.ownBlock≠some w2.heap.size:=λe=>by have:=(ah _ e).2;omega
 have o1:=(jD.alloc (.cells #[x0,x1,x2] 176)).kept bg (.inr (λe=>zd6 jD A1 (by decide) e.symm));have bl:Below w.heap.size w w2:=(aG.alloc aG.size _).grown lL (by have:=aG.size;simp;omega) (λm hm=>(ay.lt m hm).1);have bl3:Below w.heap.size w w3:=(bl.alloc bl.size _).grown bg (by have:=bl.size;simp;omega) (λm hm=>by injection hm;omega);refine⟨q,p2,q2,k2,ts++[⟨k,(s.data.toList.drop p).take (q-p),p⟩],w2.heap.size,rfl,ST2,KN2,rfl,b3,?_,?_,?_,λe=>af e.symm,?_⟩
 ·exact((n0.far (p:=⟨w2.heap.size,0,none⟩) (by simp;omega) _).far (p:=⟨w2.heap.size,1,none⟩) (by simp;omega) _).far (p:=⟨w2.heap.size,2,none⟩) (by simp;omega) _
 ·exact((Blk.far (p:=⟨w2.heap.size,0,none⟩) HH3 (by simp;omega) _).far (p:=⟨w2.heap.size,1,none⟩) (by simp;omega) _).far (p:=⟨w2.heap.size,2,none⟩) (by simp;omega) _
 ·have o2:=ownsRow_setCell_other (a:=⟨w2.heap.size,2,none⟩) (ownsRow_setCell_other (a:=⟨w2.heap.size,1,none⟩) (ownsRow_setCell_other (a:=⟨w2.heap.size,0,none⟩) o1 af (.int .i64 (k2:Nat))) af (.string (s.extract p2 q2))) af (.int .i64 (p2:Nat))
  rw[zfT,zeJ,Ap]
  exact o2
 ·exact((bl3.setCell (p:=⟨w2.heap.size,0,none⟩) (by simp;omega) _).setCell (p:=⟨w2.heap.size,1,none⟩) (by simp;omega) _).setCell (p:=⟨w2.heap.size,2,none⟩) (by simp;omega) _
theorem below_drewN' {B:Nat} {a w:World}(h:Below B a w)(n:Nat):Below B a (w.drewN n):=⟨h.os,h.tape,h.output,h.size,h.block⟩
theorem zjI(s:ByteArray)(ts:List Tok)(hl:s.size<=4000)(h:lex s.data.toList=.ok ts):zbk s.data.toList=(ts,0,0):=by
 unfold zbk;rw[Am (by rw[<-Lib.size_eq];omega),h]
theorem zh5(s:ByteArray)(p:Nat)(hl:s.size<=4000)(h:lex s.data.toList=.error p):zbk s.data.toList=([],p,10):=by
 unfold zbk;rw[Am (by rw[<-Lib.size_eq];omega),h]
def ScanPost(s:ByteArray)(w:World)(e:Ending)(w':World):Prop :=
 Below w.heap.size w w'/\∃v ts at_ er,zbk s.data.toList=(ts,at_,er)/\e=.returned (.tuple #[v,.int .i64 (at_:Nat),.int .i64 (er:Nat)])/\w'.ownsRow w.heap.size 176 3 v ts.length (zbf ts)
theorem zlp(s:ByteArray)(w:World)(hs:s.size<=maxLen)(hl:4000<s.size):Calls Tryz.prog 94 #[.string s] w (ScanPost s w):=by
 have HS:Hid (zbk s.data.toList=([],0,2)):=by
  refine CS ?_;unfold zbk;rw[Aq (by rw[<-Lib.size_eq];exact hl)]
 unfold maxLen at hs;go_enter Tryz.func94,Tryz.ntmps94
 go_wp2
 go_ret3
 exact⟨Below.refl _ _,_,[],0,2,HS.out,rfl,World.ownsRow_nil _ _ _ _⟩
theorem zkl(s:ByteArray)(w:World)(hl:s.size<=4000):Calls Tryz.prog 94 #[.string s] w (ScanPost s w):=by
 have hm:s.size<=maxLen:=by unfold maxLen;omega
 obtain⟨i0,bm,bO,bD,bj⟩:=info_parts zh4;obtain⟨p0,q0,k0,gT⟩:=zgB s 0 (AV _);have ST0:=CS gT;clear gT;go_enter Tryz.func94,Tryz.ntmps94
 go_wp2_with (first
  |(go_at_call 139;refine(zkh _ _).mono ?_;rintro e w' ⟨rfl,rfl⟩)
  |(go_at_call 176;refine(zg3 s 0 p0 q0 k0 (w.heap.size+1) w.heap.size _ hm ST0.out (by omega) (heap_alloc2_new _ _ _) (heap_alloc2_old _ _ _)).mono ?_;rintro e w1 ⟨rfl,aY,hh1⟩))
 have aI:=zkk s w w1 p0 q0 k0 ST0.out aY hh1;clear aY hh1 ST0;go_loopg [2,6] s.size (λg v pt wr=>Head s w.heap.size g w v pt wr)
 case atStart=>exact aI
 case round =>
  clear aI;obtain⟨i,p,q,k,ts,bt,rfl,st,kn,rfl,gB,hbN,hbA,ai,af,aH⟩:=hrel;have ST:=CS st;have KN:=CS kn;have c0:=gB.cell 0;have c1:=gB.cell 1;have c2:=gB.cell 2;simp at c0 c1 c2;have hps:p<=s.size:=by have:=st.2.1;have:=st.2.2.1;omega
  clear st kn;have zW:=CS gB;have HBN:=CS hbN;have oV:=CS hbA;have ay:=CS ai;have cH:=CS af;have aG:=CS aH;clear gB hbN hbA ai af aH;by_cases ah:p<s.size
  ·by_cases hk:k=0
   ·have xC:((k:Int)==0)=true:=by rw[hk];rfl
    have HK:=CS hk;clear hk;go_wp2_with fail
    go_quiet (fail)
    go_wp2_with fail
    go_ret3
    exact⟨below_drewN' aG.out _,_,[],p,10,zh5 s p hl (zg2 s i p q ts KN.out (HK.out▸ST.out) ah),rfl,World.ownsRow_nil _ _ _ _⟩
   ·have xC:((k:Int)==0)=false:=by rw[AG];intro h;simp at h;omega
    obtain⟨hiq,kn'⟩:=zfV s i p q k ts KN.out ST.out ah hk;have qR:=ST.out.2.2.1;obtain⟨p2,q2,k2,st2⟩:=zgB s q qR;have ST2:=CS st2;have KN2:=CS kn';have pq:=KN.out.2;clear hk st2 kn' ST KN;go_wp2_with (first
     |(at_builtin;refine wpList_append_own _ rfl (.tmp 26) (.tmp 28) 105 rfl w.heap.size 176 i0 _ 3 32 Tryz.underlying105 bm bO bD bj rfl (by decide) u2 ts.length (zbf ts) rfl (ay.out.alloc _) ⟨wr.heap.size,0,none⟩ 1 1 [.int .i64 (k:Nat),.string (s.extract p q),.int .i64 (p:Nat)] rfl rfl (zeI wr #[.int .i64 (k:Nat),.string (s.extract p q),.int .i64 (p:Nat)] _) (by intro u hu;simp at hu;rcases hu with rfl|rfl|rfl <;> rfl) (by unfold maxLen;omega) (by omega) (by have:=aG.out.size;simp;omega) ?_;intro v' w2 bH ae _;have B1:=(zW.out.alloc _).grown ae cH.out;have d0:=B1.cell 0;have d1:=B1.cell 1;have d2:=B1.cell 2;have bN:=CS B1;clear B1;simp at d0 d1 d2;have lL:=CS ae;have jD:=CS bH;clear bH ae;have N1:=CS ((HBN.out.alloc _).grown lL.out (zd6 ay.out HBN.out (by decide)));have A1:=CS ((oV.out.alloc _).grown lL.out (zd6 ay.out oV.out (by decide))))
     |(go_at_call 176;refine(zg3 s q p2 q2 k2 (w.heap.size+1) w.heap.size _ hm ST2.out (by omega) (A1.out.alloc _) (N1.out.alloc _)).mono ?_;rintro e w3 ⟨rfl,im,hh3⟩;have bg:=CS im;have HH3:=CS hh3;clear im hh3;have hAl:=A1.out.lt;have B3:Blk w3 w2.heap.size 176 #[.int .i64 (k:Nat),.string (s.extract p q),.int .i64 (p:Nat)]:=Blk.grown (heap_alloc_new _ _) bg.out (by simp;omega);have e0:=B3.cell 0;have e1:=B3.cell 1;have e2:=B3.cell 2;have f0:=B3.frozen 0;have f1:=B3.frozen 1;have f2:=B3.frozen 2;clear B3;simp at e0 e1 e2))
    go_roundg (s.size-q)
    case measure=>omega
    case rel=>exact zlo s w wr w2 w3 u2 v' q p2 q2 k2 k p ts _ _ _ ST2.out KN2.out aG.out ay.out lL.out jD.out N1.out A1.out bg.out HH3.out
  ·go_wp2_with fail
   go_ret3
   exact⟨aG.out,_,ts,0,0,zjI s ts hl (zfU s i p q k ts KN.out ST.out ah),rfl,ay.out⟩
theorem zm7(s:ByteArray)(w:World)(hs:s.size<=maxLen):Calls Tryz.prog 94 #[.string s] w (ScanPost s w):=by
 by_cases h:4000<s.size
 ·exact zlp s w hs h
 ·exact zkl s w (by omega)
set_option maxRecDepth 100000
theorem zar(c:UInt8)(w:World):Calls Tryz.prog 143 #[.int .u8 c.toNat] w λe w'=>e=.returned (.bool (isLet c))/\w=w':=by
 rcases(show(c.toNat<=64)\/(65<=c.toNat/\c.toNat<=90)\/(91<=c.toNat/\c.toNat<=96)\/(97<=c.toNat/\c.toNat<=122)\/(123<=c.toNat) by omega) with h0|h1|h2|h3|h4
 ·have d97:decide ((97:Int)<=(c.toNat:Int))=false:=AQ (by omega)
  have d122:decide ((c.toNat:Int)<=122)=true:=AN (by omega);have d65:decide ((65:Int)<=(c.toNat:Int))=false:=AQ (by omega);have d90:decide ((c.toNat:Int)<=90)=true:=AN (by omega);have hr:isLet c=false:=by simp[isLet,isUp];omega
  go_enter Tryz.func143,Tryz.ntmps143
  go_wp2
  go_ret
  exact⟨zax hr.symm,rfl⟩
 ·have d97:decide ((97:Int)<=(c.toNat:Int))=false:=AQ (by omega)
  have d122:decide ((c.toNat:Int)<=122)=true:=AN (by omega);have d65:decide ((65:Int)<=(c.toNat:Int))=true:=AN (by omega);have d90:decide ((c.toNat:Int)<=90)=true:=AN (by omega);have hr:isLet c=true:=by simp[isLet,isUp];omega
  go_enter Tryz.func143,Tryz.ntmps143
  go_wp2
  go_ret
  exact⟨zax hr.symm,rfl⟩
 ·have d97:decide ((97:Int)<=(c.toNat:Int))=false:=AQ (by omega)
  have d122:decide ((c.toNat:Int)<=122)=true:=AN (by omega);have d65:decide ((65:Int)<=(c.toNat:Int))=true:=AN (by omega);have d90:decide ((c.toNat:Int)<=90)=false:=AQ (by omega);have hr:isLet c=false:=by simp[isLet,isUp];omega
  go_enter Tryz.func143,Tryz.ntmps143
  go_wp2
  go_ret
  exact⟨zax hr.symm,rfl⟩
 ·have d97:decide ((97:Int)<=(c.toNat:Int))=true:=AN (by omega)
  have d122:decide ((c.toNat:Int)<=122)=true:=AN (by omega);have d65:decide ((65:Int)<=(c.toNat:Int))=true:=AN (by omega);have d90:decide ((c.toNat:Int)<=90)=false:=AQ (by omega);have hr:isLet c=true:=by simp[isLet,isUp];omega
  go_enter Tryz.func143,Tryz.ntmps143
  go_wp2
  go_ret
  exact⟨zax hr.symm,rfl⟩
 ·have d97:decide ((97:Int)<=(c.toNat:Int))=true:=AN (by omega)
  have d122:decide ((c.toNat:Int)<=122)=false:=AQ (by omega);have d65:decide ((65:Int)<=(c.toNat:Int))=true:=AN (by omega);have d90:decide ((c.toNat:Int)<=90)=false:=AQ (by omega);have hr:isLet c=false:=by simp[isLet,isUp];omega
  go_enter Tryz.func143,Tryz.ntmps143
  go_wp2
  go_ret
  exact⟨zax hr.symm,rfl⟩
theorem zaq(c:UInt8)(w:World):Calls Tryz.prog 144 #[.int .u8 c.toNat] w λe w'=>e=.returned (.bool (isDig c))/\w=w':=by
 rcases(show(c.toNat<=47)\/(48<=c.toNat/\c.toNat<=57)\/(58<=c.toNat) by omega) with h0|h1|h2
 ·have d48:decide ((48:Int)<=(c.toNat:Int))=false:=AQ (by omega)
  have d57:decide ((c.toNat:Int)<=57)=true:=AN (by omega);have hr:isDig c=false:=by simp[isDig];omega
  go_enter Tryz.func144,Tryz.ntmps144
  go_wp2
  go_ret
  exact⟨zax hr.symm,rfl⟩
 ·have d48:decide ((48:Int)<=(c.toNat:Int))=true:=AN (by omega)
  have d57:decide ((c.toNat:Int)<=57)=true:=AN (by omega);have hr:isDig c=true:=by simp[isDig];omega
  go_enter Tryz.func144,Tryz.ntmps144
  go_wp2
  go_ret
  exact⟨zax hr.symm,rfl⟩
 ·have d48:decide ((48:Int)<=(c.toNat:Int))=true:=AN (by omega)
  have d57:decide ((c.toNat:Int)<=57)=false:=AQ (by omega);have hr:isDig c=false:=by simp[isDig];omega
  go_enter Tryz.func144,Tryz.ntmps144
  go_wp2
  go_ret
  exact⟨zax hr.symm,rfl⟩
theorem ze7(s:ByteArray)(i:Nat)(hb:badNum (s.data.toList.drop i)=true):i=i+(number (s.data.toList.drop i)).2:=by
 rw[zbE _ hb];rfl
theorem zd7(s:ByteArray)(i k:Nat)(h:Hid (k=i+span isDig (s.data.toList.drop i)))(hb:badNum (s.data.toList.drop i)=false):k=i+(number (s.data.toList.drop i)).2:=by
 rw[zcm _ _ hb (CS rfl)];exact h.out
theorem zh7(s:ByteArray)(i k:Nat)(h:Hid (k=i+span isDig (s.data.toList.drop i)))(hk:k=i):k=i+(number (s.data.toList.drop i)).2:=by
 have h0:span isDig (s.data.toList.drop i)=0:=by have:=h.out;omega
 rw[zbE _ (by unfold badNum;rw[h0];simp)];exact hk
theorem head_drop(s:ByteArray)(i:Nat)(h:i<s.size):(s.data.toList.drop i).headD 0=s[i]:=by rw[drop_at s i h];rfl
theorem zbv(s:ByteArray)(i k:Nat)(hi:i<s.size)(h:Hid (k=i+span isDig (s.data.toList.drop i))):badNum (s.data.toList.drop i)=decide (k-i=0\/6<k-i\/(1<k-i/\s[i]=48)):=by
 unfold badNum;rw[head_drop s i hi,show span isDig (s.data.toList.drop i)=k-i by have:=h.out;omega]
theorem zc7(p:UInt8->Bool)(s:ByteArray)(i:Nat)(hi:i<=s.size):i+span p (s.data.toList.drop i)<=s.size:=by
 have:=zdO p (s.data.toList.drop i);rw[Bk,<-Lib.size_eq]at this
 omega
theorem zfW(s:ByteArray)(i:Nat)(w:World)(hs:s.size<=4000)(hi:i<=s.size):Calls Tryz.prog 145 #[.string s,.int .i64 i] w λe w'=>e=.returned (.int .i64 ((i+(number (s.data.toList.drop i)).2:Nat):Int))/\w=w':=by
 obtain⟨N,hN⟩:∃N,N=i+span isDig (s.data.toList.drop i):=⟨_,rfl⟩;obtain⟨R,hR⟩:∃R,R=i+(number (s.data.toList.drop i)).2:=⟨_,rfl⟩;have hNs:N<=s.size:=by rw[hN];exact zc7 _ _ _ hi
 have HN:=CS hN;have HR:=CS hR;rw[<-hR]
 clear hN hR;go_enter Tryz.func145,Tryz.ntmps145
 go_wp2
 go_loopg [5] (s.size-i) (λgg v wr=>∃k:Nat,gg=s.size-k/\v=.int .i64 k/\wr=w/\i<=k/\k<=s.size/\k+span isDig (s.data.toList.drop k)=N)
 case atStart=>exact⟨i,rfl,rfl,rfl,by omega,hi,HN.out.symm⟩
 case round =>
  obtain⟨k,rfl,rfl,rfl,oG,hk,hn⟩:=hrel;by_cases ah:k<s.size
  ·by_cases hp:isDig s[k]=true
   ·have HS:=CS (zdq _ s k _ ah hn hp)
    clear hn;go_wp2_with (go_at_call 144;refine(zaq _ _).mono ?_;rintro e w' ⟨rfl,rfl⟩)
    go_roundg (s.size-(k+1))
    case measure=>omega
    case rel=>exact⟨k+1,rfl,by go_num,rfl,by omega,by omega,HS.out⟩
   ·have hp:isDig s[k]=false:=by simpa using hp
    obtain rfl:k=N:=zdr _ s k _ ah hn hp;clear hn;by_cases h6:6<k-i
    ·have d6:decide ((6:Int)<(k:Int)-(i:Int))=true:=AN (by omega)
     have hr:=CS (ze7 s i (by rw[zbv s i k (by omega) HN];simp;omega));go_wp2_with (go_at_call 144;refine(zaq _ _).mono ?_;rintro e w' ⟨rfl,rfl⟩)
     go_ret
     exact⟨zaQ (by rw[HR.out,<-hr.out]),rfl⟩
    ·have d6:decide ((6:Int)<(k:Int)-(i:Int))=false:=AQ (by omega)
     by_cases h1:1<k-i
     ·have d1:decide ((1:Int)<(k:Int)-(i:Int))=true:=AN (by omega)
      have his:i<s.size:=by omega
      by_cases hd:s[i]=48
      ·have d48:((s[i].toNat:Int)==48)=true:=u8t _ 48 hd
       have hr:=CS (ze7 s i (by rw[zbv s i k (by omega) HN];simp[h1,hd]));clear hd;go_wp2_with (go_at_call 144;refine(zaq _ _).mono ?_;rintro e w' ⟨rfl,rfl⟩)
       go_ret
       exact⟨zaQ (by rw[HR.out,<-hr.out]),rfl⟩
      ·have d48:((s[i].toNat:Int)==48)=false:=u8f _ 48 hd
       have hr:=CS (zd7 s i k HN (by rw[zbv s i k (by omega) HN];simp[hd];omega));clear hd;go_wp2_with (go_at_call 144;refine(zaq _ _).mono ?_;rintro e w' ⟨rfl,rfl⟩)
       go_ret
       exact⟨zaQ (by rw[HR.out,<-hr.out]),rfl⟩
     ·have d1:decide ((1:Int)<(k:Int)-(i:Int))=false:=AQ (by omega)
      have hr:Hid (k=i+(number (s.data.toList.drop i)).2):=by
       by_cases he:k=i
       ·exact CS (zh7 s i k HN he)
       ·exact CS (zd7 s i k HN (by rw[zbv s i k (by omega) HN];simp;omega))
      go_wp2_with (go_at_call 144;refine(zaq _ _).mono ?_;rintro e w' ⟨rfl,rfl⟩)
      go_ret
      exact⟨zaQ (by rw[HR.out,<-hr.out]),rfl⟩
  ·obtain rfl:k=N:=zd3 _ s k _ (by omega) hn
   clear hn;by_cases h6:6<k-i
   ·have d6:decide ((6:Int)<(k:Int)-(i:Int))=true:=AN (by omega)
    have hr:=CS (ze7 s i (by rw[zbv s i k (by omega) HN];simp;omega));go_wp2_with fail
    go_ret
    exact⟨zaQ (by rw[HR.out,<-hr.out]),rfl⟩
   ·have d6:decide ((6:Int)<(k:Int)-(i:Int))=false:=AQ (by omega)
    by_cases h1:1<k-i
    ·have d1:decide ((1:Int)<(k:Int)-(i:Int))=true:=AN (by omega)
     have his:i<s.size:=by omega
     by_cases hd:s[i]=48
     ·have d48:((s[i].toNat:Int)==48)=true:=u8t _ 48 hd
      have hr:=CS (ze7 s i (by rw[zbv s i k (by omega) HN];simp[h1,hd]));clear hd;go_wp2_with fail
      go_ret
      exact⟨zaQ (by rw[HR.out,<-hr.out]),rfl⟩
     ·have d48:((s[i].toNat:Int)==48)=false:=u8f _ 48 hd
      have hr:=CS (zd7 s i k HN (by rw[zbv s i k (by omega) HN];simp[hd];omega));clear hd;go_wp2_with fail
      go_ret
      exact⟨zaQ (by rw[HR.out,<-hr.out]),rfl⟩
    ·have d1:decide ((1:Int)<(k:Int)-(i:Int))=false:=AQ (by omega)
     have hr:Hid (k=i+(number (s.data.toList.drop i)).2):=by
      by_cases he:k=i
      ·exact CS (zh7 s i k HN he)
      ·exact CS (zd7 s i k HN (by rw[zbv s i k (by omega) HN];simp;omega))
     go_wp2_with fail
     go_ret
     exact⟨zaQ (by rw[HR.out,<-hr.out]),rfl⟩
set_option maxRecDepth 100000
theorem zc8(s:ByteArray)(i:Nat)(hi:i<s.size):first (s.data.toList.drop i)=if isLet s[i] then word (s.data.toList.drop i) else if isDig s[i] then number (s.data.toList.drop i) else if s[i]=63 then zbj (s.data.toList.drop i) else sign (s.data.toList.drop i):=by
 rw[drop_at s i hi];rfl
theorem zna(s:ByteArray)(i k:Nat)(hi:i<s.size)(hl:isLet s[i]=true)(h:Hid (k=i+span inW (s.data.toList.drop i)))(hk:16<k-i):first (s.data.toList.drop i)=(0,0):=by
 rw[zc8 s i hi,Aq hl,word,show span inW (s.data.toList.drop i)=k-i by have:=h.out;omega,Aq hk]
theorem znb(s:ByteArray)(i k:Nat)(hi:i<s.size)(hl:isLet s[i]=true)(h:Hid (k=i+span inW (s.data.toList.drop i)))(hk:¬16<k-i):first (s.data.toList.drop i)=(wordKind (s.extract i k).data.toList,k-i):=by
 rw[zc8 s i hi,Aq hl,word,show span inW (s.data.toList.drop i)=k-i by have:=h.out;omega,Am hk,Lib.extract_data]
theorem znc(s:ByteArray)(i k:Nat)(hi:i<s.size)(oG:i<k):(s.extract i k).data.toList.headD 0=s[i]:=by
 rw[Lib.extract_data,drop_at s i hi,show k-i=(k-i-1)+1 by omega,AZ];rfl
theorem zpN(l:List UInt8)(W:ByteArray)(hW:W.data.toList=l)(h:W.toList∈keys):wordKind l=3:=by
 rw[Lib.toList_data,hW]at h
 simp[wordKind,h]
theorem zqb(l:List UInt8)(W:ByteArray)(hW:W.data.toList=l)(h:W.toList∉keys)(hu:isUp (l.headD 0)=true):wordKind l=2:=by
 rw[Lib.toList_data,hW]at h
 unfold wordKind;rw[Am h,Aq hu]
theorem zpO(l:List UInt8)(W:ByteArray)(hW:W.data.toList=l)(h:W.toList∉keys)(hu:isUp (l.headD 0)=false):wordKind l=1:=by
 rw[Lib.toList_data,hW]at h
 unfold wordKind;rw[Am h,hu];rfl
theorem zko(s:ByteArray)(i:Nat)(w:World)(hs:s.size<=4000)(hi:i<s.size)(hl:isLet s[i]=true):Calls Tryz.prog 96 #[.string s,.int .i64 i] w λe w'=>e=.returned (.tuple #[.int .i64 ((first (s.data.toList.drop i)).1:Nat),.int .i64 ((i+(first (s.data.toList.drop i)).2:Nat):Int)])/\w=w':=by
 obtain⟨N,hN⟩:∃N,N=i+span inW (s.data.toList.drop i):=⟨_,rfl⟩;obtain⟨K,hK⟩:∃K,K=(first (s.data.toList.drop i)).1:=⟨_,rfl⟩;obtain⟨E,hE⟩:∃E,E=i+(first (s.data.toList.drop i)).2:=⟨_,rfl⟩;have hNs:N<=s.size:=by rw[hN];exact zc7 _ _ _ (by omega)
 have hiN:i<N:=by
  have:1<=span inW (s.data.toList.drop i):=by rw[drop_at s i hi];exact zd5 _ _ hl
  omega
 have gJ:=zlm s[i] hl;have HN:=CS hN;have HK:=CS hK;have HE:=CS hE;rw[<-hK,<-hE]
 clear hN hK hE;go_enter Tryz.func96,Tryz.ntmps96
 go_wp2_with (go_at_call 143;refine(zar _ _).mono ?_;rintro e w' ⟨rfl,rfl⟩)
 go_loopg [7] (s.size-i) (λgg v wr=>∃k:Nat,gg=s.size-k/\v=.int .i64 k/\wr=w/\i<=k/\k<=s.size/\k+span inW (s.data.toList.drop k)=N)
 case atStart=>exact⟨i,rfl,rfl,rfl,by omega,by omega,HN.out.symm⟩
 case round =>
  obtain⟨k,rfl,rfl,rfl,oG,hk,hn⟩:=hrel;by_cases hgo:∃h:k<s.size,inW s[k]=true
  ·obtain⟨ah,hp⟩:=hgo
   have HS:=CS (zdq _ s k _ ah hn hp);clear hn;by_cases bV:isLet s[k]=true
   ·go_wp2_with (first|(go_at_call 143;refine(zar _ _).mono ?_;rintro e w' ⟨rfl,rfl⟩)|(go_at_call 144;refine(zaq _ _).mono ?_;rintro e w' ⟨rfl,rfl⟩))
    go_roundg (s.size-(k+1))
    case measure=>omega
    case rel=>exact⟨k+1,rfl,by go_num,rfl,by omega,by omega,HS.out⟩
   ·have bV:isLet s[k]=false:=by simpa using bV
    by_cases hdk:isDig s[k]=true
    ·go_wp2_with (first|(go_at_call 143;refine(zar _ _).mono ?_;rintro e w' ⟨rfl,rfl⟩)|(go_at_call 144;refine(zaq _ _).mono ?_;rintro e w' ⟨rfl,rfl⟩))
     go_roundg (s.size-(k+1))
     case measure=>omega
     case rel=>exact⟨k+1,rfl,by go_num,rfl,by omega,by omega,HS.out⟩
    ·have hdk:isDig s[k]=false:=by simpa using hdk
     have e95:s[k]=95:=by simpa[inW,bV,hdk] using hp
     have d95:((s[k].toNat:Int)==95)=true:=u8t _ 95 e95;clear e95 hp;go_wp2_with (first|(go_at_call 143;refine(zar _ _).mono ?_;rintro e w' ⟨rfl,rfl⟩)|(go_at_call 144;refine(zaq _ _).mono ?_;rintro e w' ⟨rfl,rfl⟩))
     go_roundg (s.size-(k+1))
     case measure=>omega
     case rel=>exact⟨k+1,rfl,by go_num,rfl,by omega,by omega,HS.out⟩
  ·have hkN:k=N:=by
    by_cases ah:k<s.size
    ·exact zdr _ s k _ ah hn (by simpa using λh=>hgo ⟨ah,h⟩)
    ·exact zd3 _ s k _ (by omega) hn
   obtain rfl:=hkN;clear hn;have jN:k<s.size->∃h:k<s.size,isLet s[k]=false/\isDig s[k]=false/\((s[k].toNat:Int)==95)=false:=λh=>by
    have hp:inW s[k]=false:=by simpa using λe=>hgo ⟨h,e⟩
    simp[inW]at hp
    exact⟨h,hp.1.1,hp.1.2,u8f _ 95 hp.2⟩
   have dS:=CS jN;clear hgo jN;by_cases h16:16<k-i
   ·have d16:decide ((16:Int)<(k:Int)-(i:Int))=true:=AN (by omega)
    have hf:=zna s i k hi hl HN h16;have H1:=CS (show K=0/\E=i by rw[HK.out,HE.out,hf];exact⟨rfl,rfl⟩);clear hf;by_cases ah:k<s.size
    ·obtain⟨_,f1,f2,f3⟩:=dS.out ah
     go_wp2_with (first|(go_at_call 143;refine(zar _ _).mono ?_;rintro e w' ⟨rfl,rfl⟩)|(go_at_call 144;refine(zaq _ _).mono ?_;rintro e w' ⟨rfl,rfl⟩))
     go_ret2
     exact⟨zaw (by rw[H1.out.1];rfl) (by rw[H1.out.2]),rfl⟩
    ·go_wp2_with (first|(go_at_call 143;refine(zar _ _).mono ?_;rintro e w' ⟨rfl,rfl⟩)|(go_at_call 144;refine(zaq _ _).mono ?_;rintro e w' ⟨rfl,rfl⟩))
     go_ret2
     exact⟨zaw (by rw[H1.out.1];rfl) (by rw[H1.out.2]),rfl⟩
   ·have d16:decide ((16:Int)<(k:Int)-(i:Int))=false:=AQ (by omega)
    have hf:=znb s i k hi hl HN h16;have nf:=znc s i k hi hiN;obtain⟨W,hW⟩:∃W,s.extract i k=W:=⟨_,rfl⟩;rw[hW]at hf nf
    have H1:=CS (show K=wordKind W.data.toList/\E=k by rw[HK.out,HE.out,hf];exact⟨rfl,by simp;omega⟩);clear hf;by_cases hm:W.toList∈keys
    ·have oA:=zpN _ W rfl hm
     simp only[keys,An,AT,or_false]at hm;rcases hm with hm|hm|hm|hm|hm|hm
     ·have e0:(W.toList==[100,97,116,97])=true:=by rw[hm];rfl
      have H2:=CS (H1.out.1.trans (oA));clear hm nf;by_cases ah:k<s.size
      ·obtain⟨_,f1,f2,f3⟩:=dS.out ah
       go_wp2_with (first|(go_at_call 143;refine(zar _ _).mono ?_;rintro e w' ⟨rfl,rfl⟩)|(go_at_call 144;refine(zaq _ _).mono ?_;rintro e w' ⟨rfl,rfl⟩))
       go_ret2
       exact⟨zaw (by rw[H2.out];rfl) (by rw[H1.out.2]),rfl⟩
      ·go_wp2_with (first|(go_at_call 143;refine(zar _ _).mono ?_;rintro e w' ⟨rfl,rfl⟩)|(go_at_call 144;refine(zaq _ _).mono ?_;rintro e w' ⟨rfl,rfl⟩))
       go_ret2
       exact⟨zaw (by rw[H2.out];rfl) (by rw[H1.out.2]),rfl⟩
     ·have e0:(W.toList==[100,97,116,97])=false:=by rw[hm];rfl
      have e1:(W.toList==[108,101,116])=true:=by rw[hm];rfl
      have H2:=CS (H1.out.1.trans (oA));clear hm nf;by_cases ah:k<s.size
      ·obtain⟨_,f1,f2,f3⟩:=dS.out ah
       go_wp2_with (first|(go_at_call 143;refine(zar _ _).mono ?_;rintro e w' ⟨rfl,rfl⟩)|(go_at_call 144;refine(zaq _ _).mono ?_;rintro e w' ⟨rfl,rfl⟩))
       go_ret2
       exact⟨zaw (by rw[H2.out];rfl) (by rw[H1.out.2]),rfl⟩
      ·go_wp2_with (first|(go_at_call 143;refine(zar _ _).mono ?_;rintro e w' ⟨rfl,rfl⟩)|(go_at_call 144;refine(zaq _ _).mono ?_;rintro e w' ⟨rfl,rfl⟩))
       go_ret2
       exact⟨zaw (by rw[H2.out];rfl) (by rw[H1.out.2]),rfl⟩
     ·have e0:(W.toList==[100,97,116,97])=false:=by rw[hm];rfl
      have e1:(W.toList==[108,101,116])=false:=by rw[hm];rfl
      have e2:(W.toList==[105,110])=true:=by rw[hm];rfl
      have H2:=CS (H1.out.1.trans (oA));clear hm nf;by_cases ah:k<s.size
      ·obtain⟨_,f1,f2,f3⟩:=dS.out ah
       go_wp2_with (first|(go_at_call 143;refine(zar _ _).mono ?_;rintro e w' ⟨rfl,rfl⟩)|(go_at_call 144;refine(zaq _ _).mono ?_;rintro e w' ⟨rfl,rfl⟩))
       go_ret2
       exact⟨zaw (by rw[H2.out];rfl) (by rw[H1.out.2]),rfl⟩
      ·go_wp2_with (first|(go_at_call 143;refine(zar _ _).mono ?_;rintro e w' ⟨rfl,rfl⟩)|(go_at_call 144;refine(zaq _ _).mono ?_;rintro e w' ⟨rfl,rfl⟩))
       go_ret2
       exact⟨zaw (by rw[H2.out];rfl) (by rw[H1.out.2]),rfl⟩
     ·have e0:(W.toList==[100,97,116,97])=false:=by rw[hm];rfl
      have e1:(W.toList==[108,101,116])=false:=by rw[hm];rfl
      have e2:(W.toList==[105,110])=false:=by rw[hm];rfl
      have e3:(W.toList==[99,97,115,101])=true:=by rw[hm];rfl
      have H2:=CS (H1.out.1.trans (oA));clear hm nf;by_cases ah:k<s.size
      ·obtain⟨_,f1,f2,f3⟩:=dS.out ah
       go_wp2_with (first|(go_at_call 143;refine(zar _ _).mono ?_;rintro e w' ⟨rfl,rfl⟩)|(go_at_call 144;refine(zaq _ _).mono ?_;rintro e w' ⟨rfl,rfl⟩))
       go_ret2
       exact⟨zaw (by rw[H2.out];rfl) (by rw[H1.out.2]),rfl⟩
      ·go_wp2_with (first|(go_at_call 143;refine(zar _ _).mono ?_;rintro e w' ⟨rfl,rfl⟩)|(go_at_call 144;refine(zaq _ _).mono ?_;rintro e w' ⟨rfl,rfl⟩))
       go_ret2
       exact⟨zaw (by rw[H2.out];rfl) (by rw[H1.out.2]),rfl⟩
     ·have e0:(W.toList==[100,97,116,97])=false:=by rw[hm];rfl
      have e1:(W.toList==[108,101,116])=false:=by rw[hm];rfl
      have e2:(W.toList==[105,110])=false:=by rw[hm];rfl
      have e3:(W.toList==[99,97,115,101])=false:=by rw[hm];rfl
      have e4:(W.toList==[111,102])=true:=by rw[hm];rfl
      have H2:=CS (H1.out.1.trans (oA));clear hm nf;by_cases ah:k<s.size
      ·obtain⟨_,f1,f2,f3⟩:=dS.out ah
       go_wp2_with (first|(go_at_call 143;refine(zar _ _).mono ?_;rintro e w' ⟨rfl,rfl⟩)|(go_at_call 144;refine(zaq _ _).mono ?_;rintro e w' ⟨rfl,rfl⟩))
       go_ret2
       exact⟨zaw (by rw[H2.out];rfl) (by rw[H1.out.2]),rfl⟩
      ·go_wp2_with (first|(go_at_call 143;refine(zar _ _).mono ?_;rintro e w' ⟨rfl,rfl⟩)|(go_at_call 144;refine(zaq _ _).mono ?_;rintro e w' ⟨rfl,rfl⟩))
       go_ret2
       exact⟨zaw (by rw[H2.out];rfl) (by rw[H1.out.2]),rfl⟩
     ·have e0:(W.toList==[100,97,116,97])=false:=by rw[hm];rfl
      have e1:(W.toList==[108,101,116])=false:=by rw[hm];rfl
      have e2:(W.toList==[105,110])=false:=by rw[hm];rfl
      have e3:(W.toList==[99,97,115,101])=false:=by rw[hm];rfl
      have e4:(W.toList==[111,102])=false:=by rw[hm];rfl
      have e5:(W.toList==[102,111,114,97,108,108])=true:=by rw[hm];rfl
      have H2:=CS (H1.out.1.trans (oA));clear hm nf;by_cases ah:k<s.size
      ·obtain⟨_,f1,f2,f3⟩:=dS.out ah
       go_wp2_with (first|(go_at_call 143;refine(zar _ _).mono ?_;rintro e w' ⟨rfl,rfl⟩)|(go_at_call 144;refine(zaq _ _).mono ?_;rintro e w' ⟨rfl,rfl⟩))
       go_ret2
       exact⟨zaw (by rw[H2.out];rfl) (by rw[H1.out.2]),rfl⟩
      ·go_wp2_with (first|(go_at_call 143;refine(zar _ _).mono ?_;rintro e w' ⟨rfl,rfl⟩)|(go_at_call 144;refine(zaq _ _).mono ?_;rintro e w' ⟨rfl,rfl⟩))
       go_ret2
       exact⟨zaw (by rw[H2.out];rfl) (by rw[H1.out.2]),rfl⟩
    ·have e0:(W.toList==[100,97,116,97])=false:=by rw[AF];intro e;exact hm (by rw[e];decide)
     have e1:(W.toList==[108,101,116])=false:=by rw[AF];intro e;exact hm (by rw[e];decide)
     have e2:(W.toList==[105,110])=false:=by rw[AF];intro e;exact hm (by rw[e];decide)
     have e3:(W.toList==[99,97,115,101])=false:=by rw[AF];intro e;exact hm (by rw[e];decide)
     have e4:(W.toList==[111,102])=false:=by rw[AF];intro e;exact hm (by rw[e];decide)
     have e5:(W.toList==[102,111,114,97,108,108])=false:=by rw[AF];intro e;exact hm (by rw[e];decide)
     by_cases qJ:s[i].toNat<=90
     ·have d90:decide ((s[i].toNat:Int)<=90)=true:=AN (by omega)
      have oA:=zqb _ W rfl hm (by rw[nf];simp[isUp];omega);have H2:=CS (H1.out.1.trans (oA));clear hm nf;by_cases ah:k<s.size
      ·obtain⟨_,f1,f2,f3⟩:=dS.out ah
       go_wp2_with (first|(go_at_call 143;refine(zar _ _).mono ?_;rintro e w' ⟨rfl,rfl⟩)|(go_at_call 144;refine(zaq _ _).mono ?_;rintro e w' ⟨rfl,rfl⟩))
       go_ret2
       exact⟨zaw (by rw[H2.out];rfl) (by rw[H1.out.2]),rfl⟩
      ·go_wp2_with (first|(go_at_call 143;refine(zar _ _).mono ?_;rintro e w' ⟨rfl,rfl⟩)|(go_at_call 144;refine(zaq _ _).mono ?_;rintro e w' ⟨rfl,rfl⟩))
       go_ret2
       exact⟨zaw (by rw[H2.out];rfl) (by rw[H1.out.2]),rfl⟩
     ·have d90:decide ((s[i].toNat:Int)<=90)=false:=AQ (by omega)
      have oA:=zpO _ W rfl hm (by rw[nf];simp[isUp];omega);have H2:=CS (H1.out.1.trans (oA));clear hm nf;by_cases ah:k<s.size
      ·obtain⟨_,f1,f2,f3⟩:=dS.out ah
       go_wp2_with (first|(go_at_call 143;refine(zar _ _).mono ?_;rintro e w' ⟨rfl,rfl⟩)|(go_at_call 144;refine(zaq _ _).mono ?_;rintro e w' ⟨rfl,rfl⟩))
       go_ret2
       exact⟨zaw (by rw[H2.out];rfl) (by rw[H1.out.2]),rfl⟩
      ·go_wp2_with (first|(go_at_call 143;refine(zar _ _).mono ?_;rintro e w' ⟨rfl,rfl⟩)|(go_at_call 144;refine(zaq _ _).mono ?_;rintro e w' ⟨rfl,rfl⟩))
       go_ret2
       exact⟨zaw (by rw[H2.out];rfl) (by rw[H1.out.2]),rfl⟩
set_option maxRecDepth 100000
theorem zoT(s:ByteArray)(i:Nat)(hi:i<s.size)(hl:isLet s[i]=false)(hd:isDig s[i]=true):first (s.data.toList.drop i)=number (s.data.toList.drop i):=by
 rw[zc8 s i hi,hl,Am (by simp),Aq hd]
theorem znd(s:ByteArray)(i:Nat)(hi:i<s.size)(hl:isLet s[i]=false)(hd:isDig s[i]=false)(hq:s[i]=63):first (s.data.toList.drop i)=zbj (s.data.toList.drop i):=by
 rw[zc8 s i hi,hl,hd,Am (by simp),Am (by simp),Aq hq]
theorem zh8(s:ByteArray)(i:Nat)(hi:i<s.size)(hl:isLet s[i]=false)(hd:isDig s[i]=false)(hq:¬s[i]=63):first (s.data.toList.drop i)=sign (s.data.toList.drop i):=by
 rw[zc8 s i hi,hl,hd,Am (by simp),Am (by simp),Am hq]
theorem zne(l:List UInt8)(h:(number l).2=0):number l=(0,0):=by
 rcases zaB l with e|⟨e,h1,_⟩
 ·exact e
 ·rw[e]at h;simp at h;omega
theorem zoU(l:List UInt8)(n:Nat)(h:(number l).2=n)(h0:n≠0):number l=(4,n):=by
 rcases zaB l with e|⟨e,h1,_⟩
 ·rw[e]at h;exact absurd h.symm h0
 ·rw[e]at h ⊢;exact Az (Prod.mk 4) h
theorem zh9(s:ByteArray)(i:Nat)(hi:i<=s.size):i+(number (s.data.toList.drop i)).2<=s.size:=by
 have h1:=zc7 isDig s i hi;rcases zaB (s.data.toList.drop i) with e|⟨e,_,_⟩
 ·rw[e];exact hi
 ·rw[e];exact h1
theorem zlw(s:ByteArray)(i:Nat)(w:World)(hs:s.size<=4000)(hi:i<s.size)(hl:isLet s[i]=false)(hd:isDig s[i]=true):Calls Tryz.prog 96 #[.string s,.int .i64 i] w λe w'=>e=.returned (.tuple #[.int .i64 ((first (s.data.toList.drop i)).1:Nat),.int .i64 ((i+(first (s.data.toList.drop i)).2:Nat):Int)])/\w=w':=by
 obtain⟨K,hK⟩:∃K,K=(first (s.data.toList.drop i)).1:=⟨_,rfl⟩;obtain⟨E,hE⟩:∃E,E=i+(first (s.data.toList.drop i)).2:=⟨_,rfl⟩;have HK:=CS hK;have HE:=CS hE;rw[<-hK,<-hE]
 clear hK hE;have kN:=zh9 s i (by omega);have RN:=zfW s i w hs (by omega);obtain⟨n,hn⟩:∃n,(number (s.data.toList.drop i)).2=n:=⟨_,rfl⟩;obtain⟨k,hk⟩:∃k,i+n=k:=⟨_,rfl⟩;rw[hn,hk]at RN kN
 have hf:=zoT s i hi hl hd;by_cases h0:n=0
 ·have H1:=CS (show K=0/\E=i by rw[HK.out,HE.out,hf,zne _ (hn.trans h0)];exact⟨rfl,rfl⟩)
  have dk:((k:Int) ==(i:Int))=true:=by simp;omega
  clear hn hk h0 hf;go_enter Tryz.func96,Tryz.ntmps96
  go_wp2_with (first|(go_at_call 143;refine(zar _ _).mono ?_;rintro e w' ⟨rfl,rfl⟩)|(go_at_call 144;refine(zaq _ _).mono ?_;rintro e w' ⟨rfl,rfl⟩)|(go_at_call 145;refine RN.mono ?_;rintro e w' ⟨rfl,rfl⟩))
  go_ret2
  exact⟨zaw (by rw[H1.out.1];rfl) (by rw[H1.out.2]),rfl⟩
 ·have H1:=CS (show K=4/\E=k by rw[HK.out,HE.out,hf,zoU _ n hn h0];exact⟨rfl,hk⟩)
  have dk:((k:Int) ==(i:Int))=false:=by rw[AG];intro h;simp at h;omega
  clear hn hk h0 hf;go_enter Tryz.func96,Tryz.ntmps96
  go_wp2_with (first|(go_at_call 143;refine(zar _ _).mono ?_;rintro e w' ⟨rfl,rfl⟩)|(go_at_call 144;refine(zaq _ _).mono ?_;rintro e w' ⟨rfl,rfl⟩)|(go_at_call 145;refine RN.mono ?_;rintro e w' ⟨rfl,rfl⟩))
  go_ret2
  exact⟨zaw (by rw[H1.out.1];rfl) (by rw[H1.out.2]),rfl⟩
theorem zlx(s:ByteArray)(i:Nat)(w:World)(hs:s.size<=4000)(hi:i<s.size)(hl:isLet s[i]=false)(hd:isDig s[i]=false)(hq:s[i]=63):Calls Tryz.prog 96 #[.string s,.int .i64 i] w λe w'=>e=.returned (.tuple #[.int .i64 ((first (s.data.toList.drop i)).1:Nat),.int .i64 ((i+(first (s.data.toList.drop i)).2:Nat):Int)])/\w=w':=by
 obtain⟨K,hK⟩:∃K,K=(first (s.data.toList.drop i)).1:=⟨_,rfl⟩;obtain⟨E,hE⟩:∃E,E=i+(first (s.data.toList.drop i)).2:=⟨_,rfl⟩;have HK:=CS hK;have HE:=CS hE;rw[<-hK,<-hE]
 clear hK hE;have kN:=zh9 s (i+1) (by omega);have RN:=zfW s (i+1) w hs (by omega);obtain⟨n,hn⟩:∃n,(number (s.data.toList.drop (i+1))).2=n:=⟨_,rfl⟩;obtain⟨k,hk⟩:∃k,i+1+n=k:=⟨_,rfl⟩;rw[hn,hk]at RN kN
 have RN:Calls Tryz.prog 145 #[.string s,.int .i64 ((i:Int)+1)] w λe w'=>e=.returned (.int .i64 (k:Nat))/\w=w':=RN;have hf:=znd s i hi hl hd hq;have q1:((s[i].toNat:Int)==63)=true:=u8t _ 63 hq;have u9:(s.data.toList.drop i).drop 1=s.data.toList.drop (i+1):=by rw[Cf]
 by_cases h0:n=0
 ·have H1:=CS (show K=0/\E=i by rw[HK.out,HE.out,hf,zbj,u9,Aq (hn.trans h0)];exact⟨rfl,rfl⟩)
  have dk:((k:Int) ==(i:Int)+1)=true:=by simp;omega
  clear hn hk h0 hf hq u9;go_enter Tryz.func96,Tryz.ntmps96
  go_wp2_with (first|(go_at_call 143;refine(zar _ _).mono ?_;rintro e w' ⟨rfl,rfl⟩)|(go_at_call 144;refine(zaq _ _).mono ?_;rintro e w' ⟨rfl,rfl⟩)|(go_at_call 145;refine RN.mono ?_;rintro e w' ⟨rfl,rfl⟩))
  go_ret2
  exact⟨zaw (by rw[H1.out.1];rfl) (by rw[H1.out.2]),rfl⟩
 ·have H1:=CS (show K=5/\E=k by rw[HK.out,HE.out,hf,zbj,u9,Am (by rw[hn];exact h0),hn];exact⟨rfl,by simp;omega⟩)
  have dk:((k:Int) ==(i:Int)+1)=false:=by rw[AG];intro h;simp at h;omega
  clear hn hk h0 hf hq u9;go_enter Tryz.func96,Tryz.ntmps96
  go_wp2_with (first|(go_at_call 143;refine(zar _ _).mono ?_;rintro e w' ⟨rfl,rfl⟩)|(go_at_call 144;refine(zaq _ _).mono ?_;rintro e w' ⟨rfl,rfl⟩)|(go_at_call 145;refine RN.mono ?_;rintro e w' ⟨rfl,rfl⟩))
  go_ret2
  exact⟨zaw (by rw[H1.out.1];rfl) (by rw[H1.out.2]),rfl⟩
theorem zfX(s:ByteArray)(i:Nat)(a:UInt8)(hi:i<s.size):pre [a,62] (s.data.toList.drop i)=(a==s[i] &&(if h:i+1<s.size then(62:UInt8)==s[i+1] else false)):=by
 rw[drop_at s i hi]
 by_cases h:i+1<s.size
 ·rw[dif_pos h,drop_at s (i+1) h]
  simp[pre,List.isPrefixOf]
 ·rw[dif_neg h,AP (by rw[<-Lib.size_eq];omega)]
  simp[pre,List.isPrefixOf]
theorem zkp(s:ByteArray)(i:Nat)(hi:i<s.size)(h1:i+1<s.size)(gQ:s[i+1]=62)(h:s[i]=45\/s[i]=124):sign (s.data.toList.drop i)=(6,2):=by
 refine zfB _ ?_;rw[zfX s i 45 hi,zfX s i 124 hi,dif_pos h1,gQ]
 rcases h with h|h <;> rw[h] <;> decide
theorem znf(s:ByteArray)(i:Nat)(hi:i<s.size)(h:∀h1:i+1<s.size,s[i+1]=62->¬(s[i]=45\/s[i]=124)):pre [45,62] (s.data.toList.drop i)=false/\pre [124,62] (s.data.toList.drop i)=false:=by
 rw[zfX s i 45 hi,zfX s i 124 hi]
 by_cases h1:i+1<s.size
 ·rw[dif_pos h1]
  by_cases gQ:s[i+1]=62
  ·have:=h h1 gQ
   constructor <;> rw[Bool.and_eq_false_iff] <;> left <;> rw[AF] <;> intro e <;> exact this (by simp[<-e])
  ·have e:((62:UInt8)==s[i+1])=false:=by rw[AF];exact λe=>gQ e.symm
   rw[e];simp
 ·rw[dif_neg h1];simp
def SG:ByteArray:=⟨#[92,58,61,59,123,125,40,41,46,126,64,60,62,44,91,93,33]⟩
theorem zc2:SG.size=17:=rfl
theorem zdP(c:UInt8):c∈signs↔∃(k:Nat)(h:k<SG.size),SG[k]=c:=by
 rw[show signs=SG.data.toList from rfl]
 constructor
 ·intro h
  obtain⟨k,hk,e⟩:=List.getElem_of_mem h;exact⟨k,by simpa using hk,by rw[<-e];rfl⟩
 ·rintro⟨k,hk,e⟩
  rw[<-e]
  exact AS.2 ⟨k,by simpa using hk,rfl⟩
theorem zly(s:ByteArray)(i:Nat)(w:World)(hs:s.size<=4000)(hi:i<s.size)(hl:isLet s[i]=false)(hd:isDig s[i]=false)(hq:¬s[i]=63)(h1:i+1<s.size)(gQ:s[i+1]=62)(h:s[i]=45\/s[i]=124):Calls Tryz.prog 96 #[.string s,.int .i64 i] w λe w'=>e=.returned (.tuple #[.int .i64 ((first (s.data.toList.drop i)).1:Nat),.int .i64 ((i+(first (s.data.toList.drop i)).2:Nat):Int)])/\w=w':=by
 obtain⟨K,hK⟩:∃K,K=(first (s.data.toList.drop i)).1:=⟨_,rfl⟩;obtain⟨E,hE⟩:∃E,E=i+(first (s.data.toList.drop i)).2:=⟨_,rfl⟩;have HK:=CS hK;have HE:=CS hE;rw[<-hK,<-hE]
 clear hK hE;have hf:=zh8 s i hi hl hd hq;have H1:=CS (show K=6/\E=i+2 by rw[HK.out,HE.out,hf,zkp s i hi h1 gQ h];exact⟨rfl,rfl⟩);have q1:((s[i].toNat:Int)==63)=false:=u8f _ 63 hq;have q2:((s[i+1].toNat:Int)==62)=true:=u8t _ 62 gQ;clear hf hq gQ;rcases h with h|h
 ·have q3:((s[i].toNat:Int)==45)=true:=u8t _ 45 h
  clear h;go_enter Tryz.func96,Tryz.ntmps96
  go_wp2_with (first|(go_at_call 143;refine(zar _ _).mono ?_;rintro e w' ⟨rfl,rfl⟩)|(go_at_call 144;refine(zaq _ _).mono ?_;rintro e w' ⟨rfl,rfl⟩))
  go_ret2
  exact⟨zaw (by rw[H1.out.1];rfl) (by rw[H1.out.2];simp),rfl⟩
 ·have q3:((s[i].toNat:Int)==45)=false:=u8f _ 45 (by rw[h];decide)
  have q4:((s[i].toNat:Int)==124)=true:=u8t _ 124 h;clear h;go_enter Tryz.func96,Tryz.ntmps96
  go_wp2_with (first|(go_at_call 143;refine(zar _ _).mono ?_;rintro e w' ⟨rfl,rfl⟩)|(go_at_call 144;refine(zaq _ _).mono ?_;rintro e w' ⟨rfl,rfl⟩))
  go_ret2
  exact⟨zaw (by rw[H1.out.1];rfl) (by rw[H1.out.2];simp),rfl⟩
theorem zlz(s:ByteArray)(i:Nat)(w:World)(hs:s.size<=4000)(hi:i<s.size)(hl:isLet s[i]=false)(hd:isDig s[i]=false)(hq:¬s[i]=63)(cf:∀h1:i+1<s.size,s[i+1]=62->¬(s[i]=45\/s[i]=124)):Calls Tryz.prog 96 #[.string s,.int .i64 i] w λe w'=>e=.returned (.tuple #[.int .i64 ((first (s.data.toList.drop i)).1:Nat),.int .i64 ((i+(first (s.data.toList.drop i)).2:Nat):Int)])/\∃n,w'=w.drewN n:=by
 obtain⟨K,hK⟩:∃K,K=(first (s.data.toList.drop i)).1:=⟨_,rfl⟩;obtain⟨E,hE⟩:∃E,E=i+(first (s.data.toList.drop i)).2:=⟨_,rfl⟩;have HK:=CS hK;have HE:=CS hE;rw[<-hK,<-hE]
 clear hK hE;have hf:=zh8 s i hi hl hd hq;have eS:=znf s i hi cf;obtain⟨G,hG⟩:∃G,(⟨#[92,58,61,59,123,125,40,41,46,126,64,60,62,44,91,93,33]⟩:ByteArray)=G:=⟨_,rfl⟩;have q1:((s[i].toNat:Int)==63)=false:=u8f _ 63 hq;clear hq;by_cases h1:i+1<s.size
 ·by_cases gQ:s[i+1]=62
  ·have fw:=cf h1 gQ
   have q2:((s[i+1].toNat:Int)==62)=true:=u8t _ 62 gQ;have q3:((s[i].toNat:Int)==45)=false:=u8f _ 45 (λe=>fw (.inl e));have q4:((s[i].toNat:Int)==124)=false:=u8f _ 124 (λe=>fw (.inr e));clear cf fw gQ;go_enter Tryz.func96,Tryz.ntmps96
   go_wp2_with (first|(go_at_call 143;refine(zar _ _).mono ?_;rintro e w' ⟨rfl,rfl⟩)|(go_at_call 144;refine(zaq _ _).mono ?_;rintro e w' ⟨rfl,rfl⟩))
   go_loopg [12] 17 (λgg v wr=>∃k m:Nat,gg=17-k/\v=.int .i64 k/\wr=w.drewN m/\k<=17/\∀j (hj:j<SG.size),j<k->SG[j]≠s[i])
   case atStart=>exact⟨0,0,rfl,rfl,rfl,by omega,λj _ h=>absurd h (by omega)⟩
   case round =>
    obtain⟨k,m,rfl,rfl,rfl,hk,hn⟩:=hrel;have fo:=CS hn;clear hn;have hz:G.size<=17/\17<=G.size:=by rw[<-hG];exact⟨Ai _,Ai _⟩
    obtain⟨bD,bj⟩:=hz;by_cases ah:k<G.size
    ·have fG:k<SG.size:=by rw[zc2];omega
     have j7:G[k]=SG[k]:=by simp only[<-hG];rfl
     by_cases he:SG[k]=s[i]
     ·have q9:((G[k].toNat:Int) ==(s[i].toNat:Int))=true:=u8t _ _ (j7.trans he)
      have H1:=CS (show K=6/\E=i+1 by rw[HK.out,HE.out,hf,zd4 _ eS.1 eS.2 (by rw[head_drop s i hi];exact(zdP _).2 ⟨k,fG,he⟩)];exact⟨rfl,rfl⟩);clear hf eS j7 he;go_wp2_with fail
      go_quiet (fail)
      go_wp2_with fail
      go_ret2
      exact⟨zaw (by rw[H1.out.1];rfl) (by rw[H1.out.2];simp),_,rfl⟩
     ·have q9:((G[k].toNat:Int) ==(s[i].toNat:Int))=false:=u8f _ _ (λe=>he (j7.symm.trans e))
      have HS:Hid (∀j (hj:j<SG.size),j<k+1->SG[j]≠s[i]):=by
       intro j hj hjk;by_cases e:j=k
       ·subst e;exact he
       ·exact fo.out j hj (by omega)
      clear hf eS j7 he;go_wp2_with fail
      go_quiet (fail)
      go_wp2_with fail
      go_roundg (17-(k+1))
      case measure=>omega
      case rel=>exact⟨k+1,_,rfl,by go_num,rfl,by omega,HS.out⟩
    ·have H1:=CS (show K=0/\E=i by
      rw[HK.out,HE.out,hf,zds _ eS.1 eS.2 (by
       rw[head_drop s i hi]
       intro hm;obtain⟨j,hj,e⟩:=(zdP _).1 hm;exact fo.out j hj (by rw[zc2]at hj;omega) e)]
      exact⟨rfl,rfl⟩)
     clear hf eS;go_wp2_with fail
     go_ret2
     exact⟨zaw (by rw[H1.out.1];rfl) (by rw[H1.out.2]),_,rfl⟩
  ·have q2:((s[i+1].toNat:Int)==62)=false:=u8f _ 62 gQ
   clear cf gQ;go_enter Tryz.func96,Tryz.ntmps96
   go_wp2_with (first|(go_at_call 143;refine(zar _ _).mono ?_;rintro e w' ⟨rfl,rfl⟩)|(go_at_call 144;refine(zaq _ _).mono ?_;rintro e w' ⟨rfl,rfl⟩))
   go_loopg [12] 17 (λgg v wr=>∃k m:Nat,gg=17-k/\v=.int .i64 k/\wr=w.drewN m/\k<=17/\∀j (hj:j<SG.size),j<k->SG[j]≠s[i])
   case atStart=>exact⟨0,0,rfl,rfl,rfl,by omega,λj _ h=>absurd h (by omega)⟩
   case round =>
    obtain⟨k,m,rfl,rfl,rfl,hk,hn⟩:=hrel;have fo:=CS hn;clear hn;have hz:G.size<=17/\17<=G.size:=by rw[<-hG];exact⟨Ai _,Ai _⟩
    obtain⟨bD,bj⟩:=hz;by_cases ah:k<G.size
    ·have fG:k<SG.size:=by rw[zc2];omega
     have j7:G[k]=SG[k]:=by simp only[<-hG];rfl
     by_cases he:SG[k]=s[i]
     ·have q9:((G[k].toNat:Int) ==(s[i].toNat:Int))=true:=u8t _ _ (j7.trans he)
      have H1:=CS (show K=6/\E=i+1 by rw[HK.out,HE.out,hf,zd4 _ eS.1 eS.2 (by rw[head_drop s i hi];exact(zdP _).2 ⟨k,fG,he⟩)];exact⟨rfl,rfl⟩);clear hf eS j7 he;go_wp2_with fail
      go_quiet (fail)
      go_wp2_with fail
      go_ret2
      exact⟨zaw (by rw[H1.out.1];rfl) (by rw[H1.out.2];simp),_,rfl⟩
     ·have q9:((G[k].toNat:Int) ==(s[i].toNat:Int))=false:=u8f _ _ (λe=>he (j7.symm.trans e))
      have HS:Hid (∀j (hj:j<SG.size),j<k+1->SG[j]≠s[i]):=by
       intro j hj hjk;by_cases e:j=k
       ·subst e;exact he
       ·exact fo.out j hj (by omega)
      clear hf eS j7 he;go_wp2_with fail
      go_quiet (fail)
      go_wp2_with fail
      go_roundg (17-(k+1))
      case measure=>omega
      case rel=>exact⟨k+1,_,rfl,by go_num,rfl,by omega,HS.out⟩
    ·have H1:=CS (show K=0/\E=i by
      rw[HK.out,HE.out,hf,zds _ eS.1 eS.2 (by
       rw[head_drop s i hi]
       intro hm;obtain⟨j,hj,e⟩:=(zdP _).1 hm;exact fo.out j hj (by rw[zc2]at hj;omega) e)]
      exact⟨rfl,rfl⟩)
     clear hf eS;go_wp2_with fail
     go_ret2
     exact⟨zaw (by rw[H1.out.1];rfl) (by rw[H1.out.2]),_,rfl⟩
 ·clear cf
  go_enter Tryz.func96,Tryz.ntmps96
  go_wp2_with (first|(go_at_call 143;refine(zar _ _).mono ?_;rintro e w' ⟨rfl,rfl⟩)|(go_at_call 144;refine(zaq _ _).mono ?_;rintro e w' ⟨rfl,rfl⟩))
  go_loopg [12] 17 (λgg v wr=>∃k m:Nat,gg=17-k/\v=.int .i64 k/\wr=w.drewN m/\k<=17/\∀j (hj:j<SG.size),j<k->SG[j]≠s[i])
  case atStart=>exact⟨0,0,rfl,rfl,rfl,by omega,λj _ h=>absurd h (by omega)⟩
  case round =>
   obtain⟨k,m,rfl,rfl,rfl,hk,hn⟩:=hrel;have fo:=CS hn;clear hn;have hz:G.size<=17/\17<=G.size:=by rw[<-hG];exact⟨Ai _,Ai _⟩
   obtain⟨bD,bj⟩:=hz;by_cases ah:k<G.size
   ·have fG:k<SG.size:=by rw[zc2];omega
    have j7:G[k]=SG[k]:=by simp only[<-hG];rfl
    by_cases he:SG[k]=s[i]
    ·have q9:((G[k].toNat:Int) ==(s[i].toNat:Int))=true:=u8t _ _ (j7.trans he)
     have H1:=CS (show K=6/\E=i+1 by rw[HK.out,HE.out,hf,zd4 _ eS.1 eS.2 (by rw[head_drop s i hi];exact(zdP _).2 ⟨k,fG,he⟩)];exact⟨rfl,rfl⟩);clear hf eS j7 he;go_wp2_with fail
     go_quiet (fail)
     go_wp2_with fail
     go_ret2
     exact⟨zaw (by rw[H1.out.1];rfl) (by rw[H1.out.2];simp),_,rfl⟩
    ·have q9:((G[k].toNat:Int) ==(s[i].toNat:Int))=false:=u8f _ _ (λe=>he (j7.symm.trans e))
     have HS:Hid (∀j (hj:j<SG.size),j<k+1->SG[j]≠s[i]):=by
      intro j hj hjk;by_cases e:j=k
      ·subst e;exact he
      ·exact fo.out j hj (by omega)
     clear hf eS j7 he;go_wp2_with fail
     go_quiet (fail)
     go_wp2_with fail
     go_roundg (17-(k+1))
     case measure=>omega
     case rel=>exact⟨k+1,_,rfl,by go_num,rfl,by omega,HS.out⟩
   ·have H1:=CS (show K=0/\E=i by
     rw[HK.out,HE.out,hf,zds _ eS.1 eS.2 (by
      rw[head_drop s i hi]
      intro hm;obtain⟨j,hj,e⟩:=(zdP _).1 hm;exact fo.out j hj (by rw[zc2]at hj;omega) e)]
     exact⟨rfl,rfl⟩)
    clear hf eS;go_wp2_with fail
    go_ret2
    exact⟨zaw (by rw[H1.out.1];rfl) (by rw[H1.out.2]),_,rfl⟩
theorem zoV(s:ByteArray)(i:Nat)(w:World)(hs:s.size<=4000)(hi:i<s.size):Calls Tryz.prog 96 #[.string s,.int .i64 i] w λe w'=>e=.returned (.tuple #[.int .i64 ((first (s.data.toList.drop i)).1:Nat),.int .i64 ((i+(first (s.data.toList.drop i)).2:Nat):Int)])/\∃n,w'=w.drewN n:=by
 by_cases hl:isLet s[i]=true
 ·exact(zko s i w hs hi hl).mono λe w' h=>⟨h.1,0,h.2.symm⟩
 ·have hl:isLet s[i]=false:=by simpa using hl
  by_cases hd:isDig s[i]=true
  ·exact(zlw s i w hs hi hl hd).mono λe w' h=>⟨h.1,0,h.2.symm⟩
  ·have hd:isDig s[i]=false:=by simpa using hd
   by_cases hq:s[i]=63
   ·exact(zlx s i w hs hi hl hd hq).mono λe w' h=>⟨h.1,0,h.2.symm⟩
   ·by_cases h:∃h1:i+1<s.size,s[i+1]=62/\(s[i]=45\/s[i]=124)
    ·obtain⟨h1,gQ,ha⟩:=h
     exact(zly s i w hs hi hl hd hq h1 gQ ha).mono λe w' h=>⟨h.1,0,h.2.symm⟩
    ·exact zlz s i w hs hi hl hd hq (λh1 gQ ha=>h ⟨h1,gQ,ha⟩)
end Go.Proofs.YtfafilmklhnngaaGreatDoor
namespace Go.Proofs.YtfafilmklhnngaaGreatDoor
open Go.RowKit Lx
set_option maxRecDepth 100000
def scM(m:Bool)(i:Nat)(l:List UInt8):Except Nat (List Tok) :=
 if l.drop (btw m l)=[] then .ok []
 else if(first (l.drop (btw m l))).1=0 then .error (i+btw m l)
 else(sc (i+btw m l+(first (l.drop (btw m l))).2) ((l.drop (btw m l)).drop (first (l.drop (btw m l))).2)).map (⟨(first (l.drop (btw m l))).1,(l.drop (btw m l)).take (first (l.drop (btw m l))).2,i+btw m l⟩::·)
theorem zeK(i:Nat)(l:List UInt8):sc i l=scM false i l:=zb4 i l
theorem zg4(m m':Bool)(i:Nat)(c:UInt8)(r:List UInt8)(h:btw m (c::r)=btw m' r+1):scM m i (c::r)=scM m' (i+1) r:=by
 unfold scM;rw[h,List.drop_succ_cons,show i+(btw m' r+1)=i+1+btw m' r by omega]
theorem zia(m m':Bool)(i:Nat)(l:List UInt8)(h:btw m l=btw m' l):scM m i l=scM m' i l:=by
 unfold scM;rw[h]
def zdQ(s:ByteArray)(k:Nat)(ts:List Tok):Prop:=lex s.data.toList=(scM true k (s.data.toList.drop k)).map (ts++·)/\ts.length<=k
theorem zjj(s:ByteArray)(i:Nat)(ts:List Tok)(hk:Known s i ts)(hi:i<s.size)(hb:s[i]=32\/s[i]=9\/s[i]=10):Known s (i+1) ts:=by
 refine⟨?_,by have:=hk.2;omega⟩;rw[hk.1,drop_at s i hi,zeK,zg4 false false i _ _ (by rw[btw,Aq hb]),zeK]
theorem zkq(s:ByteArray)(i:Nat)(ts:List Tok)(hk:Known s i ts)(hi:i<s.size)(cU:s[i]=35):zdQ s i ts:=by
 refine⟨?_,hk.2⟩;rw[hk.1,zeK,zia false true i _ (zeG s i hi cU)]
theorem zjk(s:ByteArray)(k:Nat)(ts:List Tok)(hk:zdQ s k ts)(hi:k<s.size)(h:¬s[k]=10):zdQ s (k+1) ts:=by
 refine⟨?_,by have:=hk.2;omega⟩;have hb:(s[k] != 10)=true:=by simpa using h
 rw[hk.1,drop_at s k hi,zg4 true true k _ _ (by rw[btw,hb])]
theorem zlA(s:ByteArray)(k:Nat)(ts:List Tok)(hk:zdQ s k ts)(hi:k<s.size)(h:s[k]=10):Known s k ts:=by
 refine⟨?_,hk.2⟩;rw[hk.1,zeK,drop_at s k hi,h,zia true false k _ (by simp[btw])]
theorem zkr(s:ByteArray)(k:Nat)(ts:List Tok)(hk:zdQ s k ts)(hi:s.size<=k):Known s k ts:=by
 refine⟨?_,hk.2⟩;rw[hk.1,zeK,AP (by rw[<-Lib.size_eq];exact hi)]
 rfl
theorem zng(s:ByteArray)(i:Nat)(hi:i<s.size)(hb:¬(s[i]=32\/s[i]=9\/s[i]=10))(cU:¬s[i]=35):Step s i i (i+(first (s.data.toList.drop i)).2) (first (s.data.toList.drop i)).1:=by
 have h2:=zh1 (s.data.toList.drop i);rw[Bk,<-Lib.size_eq]at h2
 refine⟨Ai _,by omega,by omega,?_,by rw[Br]⟩;rw[drop_at s i hi,btw,Am hb,Am cU]
 omega
def RHead(s:ByteArray)(g:Nat)(w:World)(v x:Value)(wr:World):Prop :=
 ∃i ts,g=s.size-i/\i<=s.size/\x=.int .i64 (i:Nat)/\Known s i ts/\wr.ownsRow w.heap.size 176 3 v ts.length (zbf ts)/\Below w.heap.size w wr
theorem zhS {w:World} {base:Nat} {e:TypeId} {v:Value} {n:Nat} {xs:List Value}(h:w.ownsRow base e 3 v n xs)(k:Nat):(w.drewN k).ownsRow base e 3 v n xs:=h
theorem zks(s:ByteArray)(w wr w2:World)(v v':Value)(i q k:Nat)(ts:List Tok)
  (st:Step s i i q k)(kn:Known s i ts)(hi:i<s.size)(h0:k≠0)(aH:Below w.heap.size w wr)
  (ai:wr.ownsRow w.heap.size 176 3 v ts.length (zbf ts))
  (hgr:(wr.alloc (.cells #[.int .i64 (k:Nat),.string (s.extract i q),.int .i64 (i:Nat)] 176)).grownBy w2 v.ownBlock)
  (how:w2.ownsRow w.heap.size 176 3 v' (ts.length+1) (zbf ts++[.int .i64 (k:Nat),.string (s.extract i q),.int .i64 (i:Nat)])):i<q/\RHead s (s.size-q) w v' (.int .i64 (q:Nat)) w2:=by
 obtain⟨hq,kn'⟩:=zfV s i i q k ts kn st hi h0;refine⟨hq,q,_,rfl,st.2.2.1,rfl,kn',?_,?_⟩
 ·rw[zfT,zeJ,Ap]
  exact how
 ·exact(aH.alloc aH.size _).grown hgr (by have:=aH.size;simp;omega) (λm hm=>(ai.lt m hm).1)
theorem znh(s:ByteArray)(w:World)(hs:s.size<=maxLen)(hl:4000<s.size):Calls Tryz.prog 53 #[.string s] w (ScanPost s w):=by
 have HS:Hid (zbk s.data.toList=([],0,2)):=by
  refine CS ?_;unfold zbk;rw[Aq (by rw[<-Lib.size_eq];exact hl)]
 unfold maxLen at hs;go_enter Tryz.func53,Tryz.ntmps53
 go_wp2
 go_ret3
 exact⟨Below.refl _ _,_,[],0,2,HS.out,rfl,World.ownsRow_nil _ _ _ _⟩
theorem zlB(s:ByteArray)(w:World)(hl:s.size<=4000):Calls Tryz.prog 53 #[.string s] w (ScanPost s w):=by
 obtain⟨i0,bm,bO,bD,bj⟩:=info_parts zh4;go_enter Tryz.func53,Tryz.ntmps53
 go_wp2_with fail
 go_loopg [5,6] s.size (λg v x wr=>RHead s g w v x wr)
 case atStart=>exact⟨0,[],rfl,AV _,rfl,zfo s,World.ownsRow_nil _ _ _ _,Below.refl _ _⟩
 case round =>
  obtain⟨i,ts,rfl,hi,rfl,kn,ai,aH⟩:=hrel;have KN:=CS kn;have ay:=CS ai;have aG:=CS aH;clear kn ai aH;by_cases ah:i<s.size
  ·by_cases hb:s[i]=32\/s[i]=9\/s[i]=10
   ·have HK:=CS (zjj s i ts KN.out ah hb)
    have bb:(((s[i].toNat:Int)==32)=true)\/(((s[i].toNat:Int)==32)=false/\((s[i].toNat:Int)==9)=true)\/(((s[i].toNat:Int)==32)=false/\((s[i].toNat:Int)==9)=false/\((s[i].toNat:Int)==10)=true):=by
     rcases hb with h|h|h
     ·exact .inl (u8t _ 32 h)
     ·exact .inr (.inl ⟨u8f _ 32 (by rw[h];decide),u8t _ 9 h⟩)
     ·exact .inr (.inr ⟨u8f _ 32 (by rw[h];decide),u8f _ 9 (by rw[h];decide),u8t _ 10 h⟩)
    clear hb;rcases bb with b1|⟨b1,b2⟩|⟨b1,b2,b3⟩;all_goals
     go_wp2_with fail
     go_roundg (s.size-(i+1))
     case measure=>omega
     case rel=>exact⟨i+1,ts,rfl,by omega,by go_num,HK.out,ay.out,aG.out⟩
   ·have b1:((s[i].toNat:Int)==32)=false:=u8f _ 32 (λe=>hb (.inl e))
    have b2:((s[i].toNat:Int)==9)=false:=u8f _ 9 (λe=>hb (.inr (.inl e)));have b3:((s[i].toNat:Int)==10)=false:=u8f _ 10 (λe=>hb (.inr (.inr e)));by_cases cU:s[i]=35
    ·have b4:((s[i].toNat:Int)==35)=true:=u8t _ 35 cU
     have HT:=CS (zkq s i ts KN.out ah cU);have H35:=CS cU;clear hb cU;go_wp2_with fail
     obtain⟨wo,bh⟩:∃wo:World,wo=wr:=⟨_,rfl⟩;have fB:=CS bh;clear bh;go_loopg [6] (s.size-i) (λg x wi=>∃k:Nat,g=s.size-k/\x=.int .i64 k/\wi=wr/\i<=k/\k<=s.size/\zdQ s k ts)
     case atStart=>exact⟨i,rfl,rfl,rfl,Ai _,by omega,HT.out⟩
     case round =>
      obtain⟨k,rfl,rfl,rfl,oG,hk,kt⟩:=hrel;have KT:=CS kt;clear kt;by_cases gK:k<s.size
      ·by_cases eP:s[k]=10
       ·have b5:((s[k].toNat:Int) != 10)=false:=by rw[eP];rfl
        have qx:=CS (zlA s k ts KT.out gK eP);have af:i<k:=by
         rcases Ch i k with h|h
         ·exact h
         ·have e:i=k:=by omega
          have h35':=H35.out;subst e;rw[h35']at eP
          exact absurd eP (by decide)
        clear eP;go_wp2_with fail
        go_roundg (s.size-k)
        case measure=>omega
        case rel=>exact⟨k,ts,rfl,hk,rfl,qx.out,ay.out,aG.out⟩
       ·have b5:((s[k].toNat:Int) != 10)=true:=by
         have h10f:((s[k].toNat:Int)==10)=false:=u8f _ 10 eP;rw[bne,h10f];rfl
        have HKT:=CS (zjk s k ts KT.out gK eP);clear eP;go_wp2_with fail
        go_roundg (s.size-(k+1))
        case measure=>omega
        case rel=>exact⟨k+1,rfl,by go_num,rfl,by omega,by omega,HKT.out⟩
      ·have qx:=CS (zkr s k ts KT.out (by omega))
       go_wp2_with fail
       go_roundg (s.size-k)
       case measure=>omega
       case rel=>exact⟨k,ts,rfl,hk,rfl,qx.out,ay.out,aG.out⟩
    ·have b4:((s[i].toNat:Int)==35)=false:=u8f _ 35 cU
     have aI:=zng s i ah hb cU;have RO:=λw=>zoV s i w hl ah;obtain⟨k,hk⟩:∃k,(first (s.data.toList.drop i)).1=k:=⟨_,rfl⟩;obtain⟨q,hq⟩:∃q,i+(first (s.data.toList.drop i)).2=q:=⟨_,rfl⟩;rw[hk,hq]at aI RO
     have ST:=CS aI;have pq:=KN.out.2;have qR:=aI.2.2.1;have hiq:=aI.2.1;clear aI hk hq hb cU;by_cases h0:k=0
     ·have xC:((k:Int)==0)=true:=by rw[h0];rfl
      have H0:=CS h0;clear h0;go_wp2_with (go_at_call 96;refine(RO _).mono ?_;rintro e w' ⟨rfl,m,rfl⟩)
      go_ret3
      exact⟨below_drewN' aG.out _,_,[],i,10,zh5 s i hl (zg2 s i i q ts KN.out (H0.out▸ST.out) ah),rfl,World.ownsRow_nil _ _ _ _⟩
     ·have xC:((k:Int)==0)=false:=by rw[AG];intro h;simp at h;omega
      have H0:=CS h0;clear h0;go_wp2_with (first
       |(go_at_call 96;refine(RO _).mono ?_;rintro e w' ⟨rfl,m,rfl⟩)
       |(at_builtin;refine wpList_append_own _ rfl (.tmp 59) (.tmp 67) 105 rfl w.heap.size 176 i0 _ 3 32 Tryz.underlying105 bm bO bD bj rfl (by decide) u5 ts.length (zbf ts) rfl (zhS (ay.out.alloc _) m) ⟨wr.heap.size,0,none⟩ 1 1 [.int .i64 (k:Nat),.string (s.extract i q),.int .i64 (i:Nat)] rfl rfl (zeI wr #[.int .i64 (k:Nat),.string (s.extract i q),.int .i64 (i:Nat)] _) (by intro u hu;simp at hu;rcases hu with rfl|rfl|rfl <;> rfl) (by unfold maxLen;omega) (by omega) (by have:=aG.out.size;simp;omega) ?_;intro v' w2 bH ae _;have lL:=CS ae;have jD:=CS bH;clear bH ae))
      have xa:=zks s w wr w2 u5 v' i q k ts ST.out KN.out ah H0.out aG.out ay.out ⟨lL.out.os,lL.out.tape,lL.out.output,lL.out.size,lL.out.block⟩ jD.out;go_roundg (s.size-q)
      case measure=>have:=xa.1;omega
      case rel=>exact xa.2
  ·go_wp2_with fail
   go_ret3
   have aD:i=s.size:=by omega
   obtain⟨p',q',k',st⟩:=zgB s i hi;exact⟨aG.out,_,ts,0,0,zjI s ts hl (zfU s i p' q' k' ts KN.out st (by have:=st.1;omega)),rfl,ay.out⟩
theorem zoW(s:ByteArray)(w:World)(hs:s.size<=maxLen):Calls Tryz.prog 53 #[.string s] w (ScanPost s w):=by
 by_cases h:4000<s.size
 ·exact znh s w hs h
 ·exact zlB s w (by omega)
end Go.Proofs.YtfafilmklhnngaaGreatDoor
