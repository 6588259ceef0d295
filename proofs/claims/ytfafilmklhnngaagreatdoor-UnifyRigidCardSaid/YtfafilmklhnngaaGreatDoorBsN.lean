import Derived.Test.YtfafilmklhnngaaGreatDoorBsM
import Derived.Deep.RegionWith
set_option maxHeartbeats 12800000
set_option maxRecDepth 100000
namespace Go.Proofs.YtfafilmklhnngaaGreatDoor
open Tryz
section
open Go.RowKit Lx Tx
set_option maxRecDepth 100000
theorem zoR(n:Nat):∀(t:Ty)(S:Nat->Prop)(v:Value)(w:World),t.size<=n->n<=1000000->nc S w t v->(∀g,S g->g<w.heap.size) ->
  Calls prog 52 #[v] w λe w'=>e=.returned (.int .i64 (t.depth:Nat))/\Below w.heap.size w w':=by
 induction n with
 |zero=>intro t S v w h;rw[Gv]at h;omega
 |succ n ih =>
  intro t S v w hn h5 hv hS;obtain⟨K,X,Z,A,m,c,rfl,-,-,-,hm,ha⟩:=hv.parts;obtain⟨R,hR⟩:∃R,t.depth=R:=⟨_,rfl⟩;have sW:Kl (kids t)+1=R:=by rw[<-zgM];exact hR
  have dI:m<=n:=by have:=LF t;omega
  have hR6:R<=n+1:=by have:=P6 t;omega
  have HM:=EP hm;have HA:=EP ha;have IH:=EP ih;have HS:=EP hS;have HN:=EP hn;have bW:=EP sW;rw[hR];clear hm hR ha ih hS hn sW hv;go_in;go_wp2
  go_loopg [3,9] m (λgg va vi wr=>∃i a:Nat,gg=m-i/\va=.int .i64 a/\vi=.int .i64 i/\i<=m/\Hid (Kl ((kids t).take i)=a)/\Below (w.heap.size+1) (w.alloc (.cells #[.int .i64 K,.string X,.int .i64 Z,.slice A m c] 37)) wr)
  case atStart=>exact⟨0,0,rfl,rfl,rfl,by omega,EP rfl,Cc _ _⟩
  case round =>
   obtain⟨i,a,rfl,rfl,rfl,hi,hd,hb⟩:=hrel;have HB:=EP hb;clear hb;by_cases af:i<m
   ·obtain⟨g,u,K1,X1,Z1,A1,n1,c1,rfl,hg,e0,e1,e2,e3,hu,aG,aA⟩:=OB (w':=wr) HA.o HM.o af (λg hg=>by rw[HB.o.block g (by have:=HS.o g hg;omega),BX _ _ _ (HS.o g hg)])
    have kK:=M7 e0;have rr:=HB.o.size;simp at rr;have ah:=IH.o u S _ (wr.alloc (.cells #[.int .i64 K1,.string X1,.int .i64 Z1,.slice A1 n1 c1] 37)) (by have:=HN.o;omega) (by omega) (aG.al (λ_ h=>h) (λg hg=>BX _ _ _ (by have:=HS.o g hg;omega))) (λg hg=>by have:=HS.o g hg;simp;omega);have sB:=EP (zgN _ _ _ _ hd hu);obtain⟨D,hD⟩:∃D,u.depth=D:=⟨_,rfl⟩;rw[hD]at sB ah;clear aG hu hD;go_wp2_with fail;refine ah.mono ?_;rintro e w1 ⟨rfl,b1⟩;have cC:=EP ((HB.o.alloc (by omega) _).trans (b1.mono (by simp;omega)));clear b1 ah;go_wp2_with fail;all_goals
     go_roundg (m-(i+1))
     case measure=>omega
     case rel=>exact⟨i+1,_,rfl,rfl,by go_num,by omega,EP (by rw[sB.o];omega),cC.o⟩
   ·have hr:=EP (show a+1=R by rw[Cq (by rw[HM.o];omega)]at hd;rw[hd.o]at bW;exact bW.o)
    have ha6:a<1000001:=by have:=hr.o;omega
    go_wp2_with fail;go_ret
    exact⟨JS (by rw[<-hr.o];simp;omega),((Cc _ w).alloc (BU _) _).trans (HB.o.mono (by omega))⟩
theorem zmO(K Z:Int)(X:ByteArray)(A:Option Addr)(c:Nat)(w:World):Calls prog 52 #[.agg #[.int .i64 K,.string X,.int .i64 Z,.slice A 0 c]] w λe w'=>e=.returned (.int .i64 1)/\Below w.heap.size w w':=by
 go_in;go_wp2
 go_loopg [3,9] 0 (λgg va vi wr=>gg=0/\va=.int .i64 0/\vi=.int .i64 0/\Below (w.heap.size+1) (w.alloc (.cells #[.int .i64 K,.string X,.int .i64 Z,.slice A 0 c] 37)) wr)
 case atStart=>exact⟨rfl,rfl,rfl,Cc _ _⟩
 case round =>
  obtain⟨rfl,rfl,rfl,hb⟩:=hrel;have HB:=EP hb;clear hb;go_wp2_with fail;go_ret
  exact⟨rfl,((Cc _ w).alloc (BU _) _).trans (HB.o.mono (by omega))⟩
end
end Go.Proofs.YtfafilmklhnngaaGreatDoor
