import Derived.Test.YtfafilmklhnngaaGreatDoorBiN
import Derived.Deep.RegionWith
set_option maxHeartbeats 12800000
namespace Go.Proofs.YtfafilmklhnngaaGreatDoor
open Go.RowKit Lx Tx
set_option maxRecDepth 100000
theorem zmh(n:Nat):∀(t:Ty)(S:Nat->Prop)(v:Value)(w:World),t.size<=n->n<=1000000->RdV S w t v->(∀g,S g->g<w.heap.size) ->
  Calls Tryz.prog 52 #[v] w λe w'=>e=.returned (.int .i64 (t.depth:Nat))/\Below w.heap.size w w':=by
 induction n with
 |zero=>intro t S v w h;rw[zas]at h;omega
 |succ n ih =>
  intro t S v w hn h5 hv hS;obtain⟨K,X,Z,A,m,c,rfl,-,-,-,hm,ha⟩:=hv.parts;obtain⟨R,hR⟩:∃R,t.depth=R:=⟨_,rfl⟩;have hR1:zaY (kids t)+1=R:=by rw[<-zfo];exact hR
  have hm6:m<=n:=by have:=zbk t;omega
  have hR6:R<=n+1:=by have:=zbJ t;omega
  have HM:=hidE hm;have HA:=hidE ha;have IH:=hidE ih;have HS:=hidE hS;have HN:=hidE hn;have HR1:=hidE hR1;rw[hR]
  clear hm hR ha ih hS hn hR1 hv;go_enter Tryz.func52,Tryz.ntmps52
  go_wp2
  go_loopg [3,9] m (λgg va vi wr=>∃i a:Nat,gg=m-i/\va=.int .i64 a/\vi=.int .i64 i/\i<=m/\Hid (zaY ((kids t).take i)=a)/\Below (w.heap.size+1) (w.alloc (.cells #[.int .i64 K,.string X,.int .i64 Z,.slice A m c] 37)) wr)
  case atStart=>exact⟨0,0,rfl,rfl,rfl,by omega,hidE rfl,Below.refl _ _⟩
  case round =>
   obtain⟨i,a,rfl,rfl,rfl,hi,hd,hb⟩:=hrel;have HB:=hidE hb;clear hb;by_cases hlt:i<m
   ·obtain⟨g,u,K1,X1,Z1,A1,n1,c1,rfl,hg,e0,e1,e2,e3,hu,hrd,hsz⟩:=zbT (w':=wr) HA.out HM.out hlt (λg hg=>by rw[HB.out.block g (by have:=HS.out g hg;omega),Below.heap_alloc _ _ _ (HS.out g hg)])
    have hgl:=zbI e0;have hbs:=HB.out.size;simp at hbs;have hcall:=IH.out u S _ (wr.alloc (.cells #[.int .i64 K1,.string X1,.int .i64 Z1,.slice A1 n1 c1] 37)) (by have:=HN.out;omega) (by omega) (hrd.keep (λ_ h=>h) (λg hg=>Below.heap_alloc _ _ _ (by have:=HS.out g hg;omega))) (λg hg=>by have:=HS.out g hg;simp;omega);have hmx:=hidE (zfp _ _ _ _ hd hu);obtain⟨D,hD⟩:∃D,u.depth=D:=⟨_,rfl⟩;rw[hD]at hmx hcall
    clear hrd hu hD;go_wp2_with fail
    refine hcall.mono ?_;rintro e w1 ⟨rfl,b1⟩;have HB2:=hidE ((HB.out.alloc (by omega) _).trans (b1.mono (by simp;omega)));clear b1 hcall;go_wp2_with fail
    all_goals
     go_roundg (m-(i+1))
     case measure=>omega
     case rel=>exact⟨i+1,_,rfl,rfl,by go_num,by omega,hidE (by rw[hmx.out];omega),HB2.out⟩
   ·have hr:=hidE (show a+1=R by rw[List.take_of_length_le (by rw[HM.out];omega)]at hd;rw[hd.out]at HR1;exact HR1.out)
    have ha6:a<1000001:=by have:=hr.out;omega
    go_wp2_with fail
    go_ret
    exact⟨zaL (by rw[<-hr.out];simp;omega),((Below.refl _ w).alloc (Nat.le_refl _) _).trans (HB.out.mono (by omega))⟩
theorem zkD(K Z:Int)(X:ByteArray)(A:Option Addr)(c:Nat)(w:World):Calls Tryz.prog 52 #[.agg #[.int .i64 K,.string X,.int .i64 Z,.slice A 0 c]] w λe w'=>e=.returned (.int .i64 1)/\Below w.heap.size w w':=by
 go_enter Tryz.func52,Tryz.ntmps52
 go_wp2
 go_loopg [3,9] 0 (λgg va vi wr=>gg=0/\va=.int .i64 0/\vi=.int .i64 0/\Below (w.heap.size+1) (w.alloc (.cells #[.int .i64 K,.string X,.int .i64 Z,.slice A 0 c] 37)) wr)
 case atStart=>exact⟨rfl,rfl,rfl,Below.refl _ _⟩
 case round =>
  obtain⟨rfl,rfl,rfl,hb⟩:=hrel;have HB:=hidE hb;clear hb;go_wp2_with fail
  go_ret
  exact⟨rfl,((Below.refl _ w).alloc (Nat.le_refl _) _).trans (HB.out.mono (by omega))⟩
end Go.Proofs.YtfafilmklhnngaaGreatDoor
