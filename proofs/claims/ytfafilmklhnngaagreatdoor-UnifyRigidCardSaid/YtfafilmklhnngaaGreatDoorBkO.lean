import Derived.Test.YtfafilmklhnngaaGreatDoorBkN
import Derived.Deep.RegionWith
set_option maxHeartbeats 12800000
namespace Go.Proofs.YtfafilmklhnngaaGreatDoor
open Go.RowKit Lx Tx
set_option maxRecDepth 100000
theorem zns(n:Nat):∀(t:Ty)(S:Nat->Prop)(v:Value)(w:World),t.size<=n->n<=1000000->RdV S w t v->(∀g,S g->g<w.heap.size) ->
  Calls Tryz.prog 52 #[v] w λe w'=>e=.returned (.int .i64 (t.depth:Nat))/\Below w.heap.size w w':=by
 induction n with
 |zero=>intro t S v w h;rw[zaj]at h;omega
 |succ n ih =>
  intro t S v w hn h5 hv hS;obtain⟨K,X,Z,A,m,c,rfl,-,-,-,hm,ha⟩:=hv.parts;obtain⟨R,hR⟩:∃R,t.depth=R:=⟨_,rfl⟩;have rG:za8 (kids t)+1=R:=by rw[<-zfZ];exact hR
  have dZ:m<=n:=by have:=zbw t;omega
  have hR6:R<=n+1:=by have:=zbW t;omega
  have HM:=CS hm;have HA:=CS ha;have IH:=CS ih;have HS:=CS hS;have HN:=CS hn;have bY:=CS rG;rw[hR]
  clear hm hR ha ih hS hn rG hv;go_enter Tryz.func52,Tryz.ntmps52
  go_wp2
  go_loopg [3,9] m (λgg va vi wr=>∃i a:Nat,gg=m-i/\va=.int .i64 a/\vi=.int .i64 i/\i<=m/\Hid (za8 ((kids t).take i)=a)/\Below (w.heap.size+1) (w.alloc (.cells #[.int .i64 K,.string X,.int .i64 Z,.slice A m c] 37)) wr)
  case atStart=>exact⟨0,0,rfl,rfl,rfl,by omega,CS rfl,Below.refl _ _⟩
  case round =>
   obtain⟨i,a,rfl,rfl,rfl,hi,hd,hb⟩:=hrel;have HB:=CS hb;clear hb;by_cases ah:i<m
   ·obtain⟨g,u,K1,X1,Z1,A1,n1,c1,rfl,hg,e0,e1,e2,e3,hu,aK,aD⟩:=zcG (w':=wr) HA.out HM.out ah (λg hg=>by rw[HB.out.block g (by have:=HS.out g hg;omega),Below.heap_alloc _ _ _ (HS.out g hg)])
    have ik:=zbV e0;have hbs:=HB.out.size;simp at hbs;have aq:=IH.out u S _ (wr.alloc (.cells #[.int .i64 K1,.string X1,.int .i64 Z1,.slice A1 n1 c1] 37)) (by have:=HN.out;omega) (by omega) (aK.keep (λ_ h=>h) (λg hg=>Below.heap_alloc _ _ _ (by have:=HS.out g hg;omega))) (λg hg=>by have:=HS.out g hg;simp;omega);have sG:=CS (zf0 _ _ _ _ hd hu);obtain⟨D,hD⟩:∃D,u.depth=D:=⟨_,rfl⟩;rw[hD]at sG aq
    clear aK hu hD;go_wp2_with fail
    refine aq.mono ?_;rintro e w1 ⟨rfl,b1⟩;have bQ:=CS ((HB.out.alloc (by omega) _).trans (b1.mono (by simp;omega)));clear b1 aq;go_wp2_with fail
    all_goals
     go_roundg (m-(i+1))
     case measure=>omega
     case rel=>exact⟨i+1,_,rfl,rfl,by go_num,by omega,CS (by rw[sG.out];omega),bQ.out⟩
   ·have hr:=CS (show a+1=R by rw[AK (by rw[HM.out];omega)]at hd;rw[hd.out]at bY;exact bY.out)
    have ha6:a<1000001:=by have:=hr.out;omega
    go_wp2_with fail
    go_ret
    exact⟨zaQ (by rw[<-hr.out];simp;omega),((Below.refl _ w).alloc (Ai _) _).trans (HB.out.mono (by omega))⟩
theorem zlH(K Z:Int)(X:ByteArray)(A:Option Addr)(c:Nat)(w:World):Calls Tryz.prog 52 #[.agg #[.int .i64 K,.string X,.int .i64 Z,.slice A 0 c]] w λe w'=>e=.returned (.int .i64 1)/\Below w.heap.size w w':=by
 go_enter Tryz.func52,Tryz.ntmps52
 go_wp2
 go_loopg [3,9] 0 (λgg va vi wr=>gg=0/\va=.int .i64 0/\vi=.int .i64 0/\Below (w.heap.size+1) (w.alloc (.cells #[.int .i64 K,.string X,.int .i64 Z,.slice A 0 c] 37)) wr)
 case atStart=>exact⟨rfl,rfl,rfl,Below.refl _ _⟩
 case round =>
  obtain⟨rfl,rfl,rfl,hb⟩:=hrel;have HB:=CS hb;clear hb;go_wp2_with fail
  go_ret
  exact⟨rfl,((Below.refl _ w).alloc (Ai _) _).trans (HB.out.mono (by omega))⟩
end Go.Proofs.YtfafilmklhnngaaGreatDoor
