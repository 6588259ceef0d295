import Derived.Test.YtfafilmklhnngaaGreatDoorBsAH
import Derived.Test.YtfafilmklhnngaaGreatDoorBsAJ
set_option maxHeartbeats 12800000
set_option maxRecDepth 100000
namespace Go.Proofs.YtfafilmklhnngaaGreatDoor
open Tryz
section
open Go.RowKit Go.Shelf Lx Tx
attribute [local go_sem] Oper.semAt_some
theorem zpZ(F:Fence)(n:Nat)(hF:F.fn 99)(jo:F.round=none)(hn:1<=n)(l bx:Nat)(ids:List (Nat × TV))(A:Option Addr)(c:Nat)(J:Nat->World->Prop)(hm:ids.length<=100000000000000)
  (hb:∀k W,J k W->W.cell? ⟨bx,0,none⟩=some (.slice A ids.length c))
  (hc:∀k W,J k W->∀(j:Nat)(q:Nat × TV),ids[j]?=some q->∃g,A=some ⟨g,0,none⟩/\W.cell? ⟨g,j*5,none⟩=some (.int .i64 (q.1:Nat))/\W.cell? ⟨g,j*5+1,none⟩=some (.int .i64 q.2.k)/\W.cell? ⟨g,j*5+2,none⟩=some (.string q.2.x)/\W.cell? ⟨g,j*5+3,none⟩=some (.int .i64 q.2.z)/\W.cell? ⟨g,j*5+4,none⟩=some (.slice q.2.a q.2.m q.2.p))
  (hY:∀(k:Nat)(q:Nat × TV)(W:World),J (k+1) W->ids[k]?=some q->YieldAt F (n-1) prog l #[.int .i64 (k:Nat),.agg #[.int .i64 (q.1:Nat),.int .i64 q.2.k,.string q.2.x,.int .i64 q.2.z,.slice q.2.a q.2.m q.2.p]] W λe W'=>e=.returned (.bool true)/\J k W')
  (W:World)(h0:J ids.length W):CallsIn F n prog 99 #[.func (.yield l) #[] #[],.pointer (some ⟨bx,0,none⟩)] W λe W'=>(∃v,e=.returned v)/\J 0 W':=by
 obtain⟨m,dU⟩:∃m,ids.length=m:=⟨_,rfl⟩;have aB:=hb _ _ h0;rw[dU]at aB h0 hm;have jg:=EP dU;have HB:=EP hb;have HC:=EP hc;have HY:=EP hY;have HJ:=EP h0;clear hb hc hY h0 dU;refine callsIn_of_wp func99 rfl hF ?_ jo;simp only[ntmps99,CY,Ca,CR,Nat.reduceAdd,Nat.reduceSub,Df,De,Dl,Dh,Cu,Co];gi_wp2;gi_loopw [3] (λi wr=>∃(k:Nat) (z:Int),z=(k:Int)-1/\i=.int .i64 z/\k<=m/\Hid (J k wr)) (λi _=>(intOf i+1).toNat)
 case atStart=>exact⟨m,(m:Int)-1,rfl,rfl,BU _,HJ⟩
 case round =>
  obtain⟨k,z,hz,rfl,hk,hj⟩:=hrel;clear HJ aB;cases k with
  |zero =>
   obtain rfl:z = -1:=by omega
   have Bw:=hj;clear hz hj;gi_wp2;go_end0
   exact⟨⟨_,rfl⟩,Bw.o⟩
  |succ k =>
   obtain rfl:z=(k:Int):=by omega
   obtain⟨q,hq⟩:∃q,ids[k]?=some q:=⟨_,BY (by rw[jg.o];omega)⟩;obtain⟨g,rfl,eL,bj,cH,kQ,Xp⟩:=HC.o _ _ hj.o k q hq;have cI:=HB.o _ _ hj.o;rw[jg.o]at cI;obtain⟨fn,tmps,assign,body,hy,hR⟩:=HY.o k q wr hj.o hq;have HR:=EP hR;have cG:k<m:=by omega
   clear hz hj hq hR;gi_wp2;refine HR.o.mono ?_;rintro e W3 ⟨rfl,sY⟩;have Bv:=EP sY;clear sY;gi_wp2;go_roundw
   case rel=>exact⟨k,(k:Int)-1,rfl,rfl,by omega,Bv⟩
   case measure=>simp[intOf]
theorem zp0(F:Fence)(n:Nat)(hF:F.fn 56)(jo:F.round=none)(a:Option Addr)(len cap:Nat)(w:World):CallsIn F n prog 56 #[.slice a len cap] w λe w'=>e=.returned (.func (.func 99) #[] #[.pointer (some ⟨w.heap.size,0,none⟩)])/\w'=w.alloc (.cells #[.slice a len cap] 28):=by
 have iZ:∀(fn:Fn) (first cap:Array Value) (w:World),(Instr.makeFunc fn first cap).run prog w=.ok (.func fn first cap) w:=λ_ _ _ _=>rfl;refine callsIn_of_wp func56 rfl hF ?_ jo;simp only[ntmps56,CY,Ca,CR,Nat.reduceAdd,Nat.reduceSub,Df,De,Dl,Dh,Cu,Co];gi_wp2
 go_ret
 exact⟨rfl,rfl⟩
end
end Go.Proofs.YtfafilmklhnngaaGreatDoor
