import Derived.Test.YtfafilmklhnngaaGreatDoorBsE
import Derived.Test.YtfafilmklhnngaaGreatDoorBsAD
import Derived.Shelf.RegionOpen
import Derived.OwnWalkIn
import Derived.TacticsInMore
import Derived.LoopNIn
import Derived.LoopIn
set_option maxHeartbeats 12800000
set_option maxRecDepth 100000
namespace Go.Proofs.YtfafilmklhnngaaGreatDoor
open Tryz
section
open Go.RowKit Go.Shelf Lx Tx
attribute [local go_sem] Oper.semAt_some
structure tL where
 l:Nat
 r:Nat
 d:Bool
def g_:List tL->List Value
 |[]=>[]
 |q::r=>.pointer (some ⟨q.l,0,none⟩)::.pointer (some ⟨q.r,0,none⟩)::.bool q.d::g_ r
theorem Ta:(l:List tL)->(g_ l).length=l.length*3
 |[]=>rfl
 |q::r=>by rw[g_];simp[Ta r];omega
theorem PZ:(l r:List tL)->g_ (l++r)=g_ l++g_ r
 |[],r=>rfl
 |q::l,r=>by rw[Co,g_,g_,PZ l r];rfl
theorem zg5:(l:List tL)->(i:Nat)->(q:tL)->l[i]?=some q->(g_ l)[i*3]?=some (.pointer (some ⟨q.l,0,none⟩))/\(g_ l)[i*3+1]?=some (.pointer (some ⟨q.r,0,none⟩))/\(g_ l)[i*3+2]?=some (.bool q.d)
 |[],i,q,h=>by simp at h
 |a::r,0,q,h=>by
  simp at h;subst h;exact⟨rfl,rfl,rfl⟩
 |a::r,i+1,q,h=>by
  have:=zg5 r i q (by simpa using h);rw[g_,show(i+1)*3=i*3+3 by omega];exact this
theorem zpr(F:Fence)(n:Nat)(hF:F.fn 184)(jo:F.round=none)(hn:1<=n)(l bx:Nat)(ids:List Nat)(A:Option Addr)(c:Nat)(J:Nat->World->Prop)(hm:ids.length<=5000000000000)
  (hb:∀k W,J k W->W.cell? ⟨bx,0,none⟩=some (.slice A ids.length c))
  (hc:∀k W,J k W->∀(j q:Nat),ids[j]?=some q->∃g,A=some ⟨g,0,none⟩/\W.cell? ⟨g,j,none⟩=some (.pointer (some ⟨q,0,none⟩)))
  (hY:∀(k q:Nat)(W:World),J (k+1) W->ids[k]?=some q->YieldAt F (n-1) prog l #[.int .i64 (k:Nat),.pointer (some ⟨q,0,none⟩)] W λe W'=>e=.returned (.bool true)/\J k W')
  (W:World)(h0:J ids.length W):CallsIn F n prog 184 #[.func (.yield l) #[] #[],.pointer (some ⟨bx,0,none⟩)] W λe W'=>(∃v,e=.returned v)/\J 0 W':=by
 obtain⟨m,dU⟩:∃m,ids.length=m:=⟨_,rfl⟩;have aB:=hb _ _ h0;rw[dU]at aB h0 hm;have jg:=EP dU;have HB:=EP hb;have HC:=EP hc;have HY:=EP hY;have HJ:=EP h0;clear hb hc hY h0 dU;refine callsIn_of_wp func184 rfl hF ?_ jo;simp only[ntmps184,CY,Ca,CR,Nat.reduceAdd,Nat.reduceSub,Df,De,Dl,Dh,Cu,Co];gi_wp2;gi_loopw [3] (λi wr=>∃(k:Nat) (z:Int),z=(k:Int)-1/\i=.int .i64 z/\k<=m/\Hid (J k wr)) (λi _=>(intOf i+1).toNat)
 case atStart=>exact⟨m,(m:Int)-1,rfl,rfl,BU _,HJ⟩
 case round =>
  obtain⟨k,z,hz,rfl,hk,hj⟩:=hrel;clear HJ aB;cases k with
  |zero =>
   obtain rfl:z = -1:=by omega
   have Bw:=hj;clear hz hj;gi_wp2;go_end0
   exact⟨⟨_,rfl⟩,Bw.o⟩
  |succ k =>
   obtain rfl:z=(k:Int):=by omega
   obtain⟨q,hq⟩:∃q,ids[k]?=some q:=⟨_,BY (by rw[jg.o];omega)⟩;obtain⟨g,rfl,ay⟩:=HC.o _ _ hj.o k q hq;have cI:=HB.o _ _ hj.o;rw[jg.o]at cI;obtain⟨fn,tmps,assign,body,hy,hR⟩:=HY.o k q wr hj.o hq;have HR:=EP hR;have cG:k<m:=by omega
   clear hz hj hq hR;gi_wp2;refine HR.o.mono ?_;rintro e W3 ⟨rfl,sY⟩;have Bv:=EP sY;clear sY;gi_wp2;go_roundw
   case rel=>exact⟨k,(k:Int)-1,rfl,rfl,by omega,Bv⟩
   case measure=>simp[intOf]
theorem zps(F:Fence)(n:Nat)(hF:F.fn 117)(jo:F.round=none)(hn:1<=n)(l bx:Nat)(ids:List tL)(A:Option Addr)(c:Nat)(J:Nat->World->Prop)(hm:ids.length<=5000000000000)
  (hb:∀k W,J k W->W.cell? ⟨bx,0,none⟩=some (.slice A ids.length c))
  (hc:∀k W,J k W->∀(j:Nat)(q:tL),ids[j]?=some q->∃g,A=some ⟨g,0,none⟩/\W.cell? ⟨g,j*3,none⟩=some (.pointer (some ⟨q.l,0,none⟩))/\W.cell? ⟨g,j*3+1,none⟩=some (.pointer (some ⟨q.r,0,none⟩))/\W.cell? ⟨g,j*3+2,none⟩=some (.bool q.d))
  (hY:∀(k:Nat)(q:tL)(W:World),J (k+1) W->ids[k]?=some q->YieldAt F (n-1) prog l #[.int .i64 (k:Nat),.agg #[.pointer (some ⟨q.l,0,none⟩),.pointer (some ⟨q.r,0,none⟩),.bool q.d]] W λe W'=>e=.returned (.bool true)/\J k W')
  (W:World)(h0:J ids.length W):CallsIn F n prog 117 #[.func (.yield l) #[] #[],.pointer (some ⟨bx,0,none⟩)] W λe W'=>(∃v,e=.returned v)/\J 0 W':=by
 obtain⟨m,dU⟩:∃m,ids.length=m:=⟨_,rfl⟩;have aB:=hb _ _ h0;rw[dU]at aB h0 hm;have jg:=EP dU;have HB:=EP hb;have HC:=EP hc;have HY:=EP hY;have HJ:=EP h0;clear hb hc hY h0 dU;refine callsIn_of_wp func117 rfl hF ?_ jo;simp only[ntmps117,CY,Ca,CR,Nat.reduceAdd,Nat.reduceSub,Df,De,Dl,Dh,Cu,Co];gi_wp2;gi_loopw [3] (λi wr=>∃(k:Nat) (z:Int),z=(k:Int)-1/\i=.int .i64 z/\k<=m/\Hid (J k wr)) (λi _=>(intOf i+1).toNat)
 case atStart=>exact⟨m,(m:Int)-1,rfl,rfl,BU _,HJ⟩
 case round =>
  obtain⟨k,z,hz,rfl,hk,hj⟩:=hrel;clear HJ aB;cases k with
  |zero =>
   obtain rfl:z = -1:=by omega
   have Bw:=hj;clear hz hj;gi_wp2;go_end0
   exact⟨⟨_,rfl⟩,Bw.o⟩
  |succ k =>
   obtain rfl:z=(k:Int):=by omega
   obtain⟨q,hq⟩:∃q,ids[k]?=some q:=⟨_,BY (by rw[jg.o];omega)⟩;obtain⟨g,rfl,eL,bj,cH⟩:=HC.o _ _ hj.o k q hq;have cI:=HB.o _ _ hj.o;rw[jg.o]at cI;obtain⟨fn,tmps,assign,body,hy,hR⟩:=HY.o k q wr hj.o hq;have HR:=EP hR;have cG:k<m:=by omega
   clear hz hj hq hR;gi_wp2;refine HR.o.mono ?_;rintro e W3 ⟨rfl,sY⟩;have Bv:=EP sY;clear sY;gi_wp2;go_roundw
   case rel=>exact⟨k,(k:Int)-1,rfl,rfl,by omega,Bv⟩
   case measure=>simp[intOf]
theorem zpt(F:Fence)(n:Nat)(hF:F.fn 159)(jo:F.round=none)(a:Option Addr)(len cap:Nat)(w:World):CallsIn F n prog 159 #[.slice a len cap] w λe w'=>e=.returned (.func (.func 184) #[] #[.pointer (some ⟨w.heap.size,0,none⟩)])/\w'=w.alloc (.cells #[.slice a len cap] 130):=by
 have iZ:∀(fn:Fn) (first cap:Array Value) (w:World),(Instr.makeFunc fn first cap).run prog w=.ok (.func fn first cap) w:=λ_ _ _ _=>rfl;refine callsIn_of_wp func159 rfl hF ?_ jo;simp only[ntmps159,CY,Ca,CR,Nat.reduceAdd,Nat.reduceSub,Df,De,Dl,Dh,Cu,Co];gi_wp2
 go_ret
 exact⟨rfl,rfl⟩
theorem zpu(F:Fence)(n:Nat)(hF:F.fn 70)(jo:F.round=none)(a:Option Addr)(len cap:Nat)(w:World):CallsIn F n prog 70 #[.slice a len cap] w λe w'=>e=.returned (.func (.func 117) #[] #[.pointer (some ⟨w.heap.size,0,none⟩)])/\w'=w.alloc (.cells #[.slice a len cap] 74):=by
 have iZ:∀(fn:Fn) (first cap:Array Value) (w:World),(Instr.makeFunc fn first cap).run prog w=.ok (.func fn first cap) w:=λ_ _ _ _=>rfl;refine callsIn_of_wp func70 rfl hF ?_ jo;simp only[ntmps70,CY,Ca,CR,Nat.reduceAdd,Nat.reduceSub,Df,De,Dl,Dh,Cu,Co];gi_wp2
 go_ret
 exact⟨rfl,rfl⟩
attribute [local go_sem] Oper.semAt_some
theorem zpv {C:Nat->Prop}(n:Nat)(h:C n):∃m,C m/\∀k,C k->m<=k:=by
 induction n using Nat.strongRecOn with
 |_ n ih =>
  by_cases hx:∃k,k<n/\C k
  ·obtain⟨k,hk,hc⟩:=hx
   exact ih k hk hc
  ·exact⟨n,h,λk hk=>Nat.le_of_not_lt λhl=>hx ⟨k,hl,hk⟩⟩
noncomputable def Pv {α:Type}(J:Nat->α->World->Prop)(W:World):Nat:=by
 classical exact if h:∃m,(∃l,J m l W)/\∀k,(∃l,J k l W)->m<=k then Classical.choose h else 0
theorem S_ {α:Type} {J:Nat->α->World->Prop} {W:World} {N:Nat} {l:α}(h:J N l W):Pv J W<=N/\∃l',J (Pv J W) l' W:=by
 classical
 have hx:∃m,(∃l,J m l W)/\∀k,(∃l,J k l W)->m<=k:=zpv (C:=λm=>∃l,J m l W) N ⟨l,h⟩;have e:Pv J W=Classical.choose hx:=by unfold Pv;rw[dif_pos hx]
 rw[e];exact⟨(Classical.choose_spec hx).2 N ⟨l,h⟩,(Classical.choose_spec hx).1⟩
def OY(W:World)(b:Nat)(l:List Nat)(A:Option Addr)(c:Nat):Prop :=
 W.cell? ⟨b,0,none⟩=some (.slice A l.length c)/\W.frozen? ⟨b,0,none⟩=false/\b<W.heap.size/\l.length<=c/\l.length<=5000000000000/\(l≠[]->∃g,A=some ⟨g,0,none⟩/\∀(j q:Nat),l[j]?=some q->W.cell? ⟨g,j,none⟩=some (.pointer (some ⟨q,0,none⟩)))
theorem zij(F:Fence)(n:Nat)(hF:F.fn 120)(jo:F.round=none)(hn:1<=n)(lp b:Nat)(J:Nat->List Nat->World->Prop)(Jp:Nat->Nat->List Nat->World->Prop)(Jx:World->Prop)
  (aW:∀N l W,J N l W->∃A c,OY W b l A c/\∀x l',l=l'++[x]->Jp N x l' (W.setCell ⟨b,0,none⟩ (.slice A l'.length c)))
  (hY:∀(N x:Nat)(l:List Nat)(W:World),Jp N x l W->YieldAt F (n-1) prog lp #[.pointer (some ⟨x,0,none⟩)] W λe W'=>(e=.returned (.bool true)/\∃N' l',N'<N/\J N' l' W')\/(e=.returned (.bool false)/\Jx W'))
  (W:World)(N0:Nat)(l0:List Nat)(h0:J N0 l0 W):CallsIn F n prog 120 #[.pointer (some ⟨b,0,none⟩),.func (.yield lp) #[] #[]] W λe W'=>(∃v,e=.returned v)/\((∃N,J N [] W')\/Jx W'):=by
 have dv:=EP aW;have HY:=EP hY;have HJ:=EP h0;clear aW hY h0;refine callsIn_of_wp func120 rfl hF ?_ jo;simp only[ntmps120,CY,Ca,CR,Nat.reduceAdd,Nat.reduceSub,Df,De,Dl,Dh,Cu,Co];gi_wp2;gi_loopw [] (λwr=>∃(N:Nat) (l:List Nat),Hid (J N l wr)) (λwr=>Pv J wr)
 case atStart=>exact⟨N0,l0,HJ⟩
 case round =>
  obtain⟨N1,l1,wH⟩:=hrel;clear HJ;obtain⟨-,l,hj⟩:=S_ wH.o;clear wH;obtain⟨A,c,⟨h1,h2,h3,h4,h5,h6⟩,hp⟩:=dv.o _ _ _ hj;obtain⟨m,hm⟩:∃m,l.length=m:=⟨_,rfl⟩;rw[hm]at h1 h4 h5;have HJ:=EP hj;cases m with
  |zero =>
   have hl:l=[]:=Cn hm;have HL:=EP hl;clear hj h6 hp hm hl;gi_wp2;go_end0
   exact⟨⟨_,rfl⟩,.inl ⟨_,by have:=HJ.o;rw[HL.o]at this;exact this⟩⟩
  |succ m =>
   obtain⟨l',x,rfl⟩:∃l' x,l=l'++[x]:=by
    rcases List.eq_nil_or_concat l with e|⟨l',x,e⟩
    ·rw[e]at hm;cases hm
    ·exact⟨l',x,by rw[e,List.concat_eq_append]⟩
   have fZ:l'.length=m:=by simpa using hm
   obtain⟨g,rfl,ay⟩:=h6 (by simp);have hx:wr.cell? ⟨g,m,none⟩=some (.pointer (some ⟨x,0,none⟩)):=ay m x (by rw[Db (by omega),fZ];simp);have uB:=hp x l' rfl;rw[fZ]at uB;obtain⟨fn,tmps,assign,body,hy,hR⟩:=HY.o _ x l' _ uB;have HR:=EP hR;have oL:((m+1:Nat):Int)-1=(m:Int):=by omega
   have hmc:m<=c:=by omega
   have eL:¬c=0:=by omega
   clear hj h6 hp hm ay uB hR fZ;gi_wp2;refine HR.o.mono ?_;rintro e W3 (⟨rfl,N',l2,af,rj⟩|⟨rfl,qG⟩)
   ·have hle:=(S_ rj).1
    have YF:=EP rj;clear rj;gi_wp2;go_roundw
    case rel=>exact⟨N',l2,YF⟩
    case measure=>omega
   ·have AO:=EP qG
    clear qG;gi_wp2;refine Ce (CQ rfl _ _ _) rfl ?_;exact⟨⟨_,rfl⟩,.inr AO.o⟩
def OZ(W:World)(b:Nat)(l:List tL)(A:Option Addr)(c:Nat):Prop :=
 W.cell? ⟨b,0,none⟩=some (.slice A l.length c)/\W.frozen? ⟨b,0,none⟩=false/\b<W.heap.size/\l.length<=c/\l.length<=5000000000000/\(l≠[]->∃g,A=some ⟨g,0,none⟩/\∀(j:Nat) (q:tL),l[j]?=some q->W.cell? ⟨g,j*3,none⟩=some (.pointer (some ⟨q.l,0,none⟩))/\W.cell? ⟨g,j*3+1,none⟩=some (.pointer (some ⟨q.r,0,none⟩))/\W.cell? ⟨g,j*3+2,none⟩=some (.bool q.d))
theorem znu(F:Fence)(n:Nat)(hF:F.fn 35)(jo:F.round=none)(hn:1<=n)(lp b:Nat)(J:Nat->List tL->World->Prop)(Jp:Nat->tL->List tL->World->Prop)(Jx:World->Prop)
  (aW:∀N l W,J N l W->∃A c,OZ W b l A c/\∀x l',l=l'++[x]->Jp N x l' ((W.setCell ⟨b,0,none⟩ (.slice A l'.length c)).alloc (.cells #[.pointer (some ⟨x.l,0,none⟩),.pointer (some ⟨x.r,0,none⟩),.bool x.d] 78)))
  (hY:∀(N:Nat)(x:tL)(l:List tL)(W:World),Jp N x l W->YieldAt F (n-1) prog lp #[.agg #[.pointer (some ⟨x.l,0,none⟩),.pointer (some ⟨x.r,0,none⟩),.bool x.d]] W λe W'=>(e=.returned (.bool true)/\∃N' l',N'<N/\J N' l' W')\/(e=.returned (.bool false)/\Jx W'))
  (W:World)(N0:Nat)(l0:List tL)(h0:J N0 l0 W):CallsIn F n prog 35 #[.pointer (some ⟨b,0,none⟩),.func (.yield lp) #[] #[]] W λe W'=>(∃v,e=.returned v)/\((∃N,J N [] W')\/Jx W'):=by
 have dv:=EP aW;have HY:=EP hY;have HJ:=EP h0;clear aW hY h0;refine callsIn_of_wp func35 rfl hF ?_ jo;simp only[ntmps35,CY,Ca,CR,Nat.reduceAdd,Nat.reduceSub,Df,De,Dl,Dh,Cu,Co];gi_wp2;gi_loopw [] (λwr=>∃(N:Nat) (l:List tL),Hid (J N l wr)) (λwr=>Pv J wr)
 case atStart=>exact⟨N0,l0,HJ⟩
 case round =>
  obtain⟨N1,l1,wH⟩:=hrel;clear HJ;obtain⟨-,l,hj⟩:=S_ wH.o;clear wH;obtain⟨A,c,⟨h1,h2,h3,h4,h5,h6⟩,hp⟩:=dv.o _ _ _ hj;obtain⟨m,hm⟩:∃m,l.length=m:=⟨_,rfl⟩;rw[hm]at h1 h4 h5;have HJ:=EP hj;cases m with
  |zero =>
   have hl:l=[]:=Cn hm;have HL:=EP hl;clear hj h6 hp hm hl;gi_wp2;go_end0
   exact⟨⟨_,rfl⟩,.inl ⟨_,by have:=HJ.o;rw[HL.o]at this;exact this⟩⟩
  |succ m =>
   obtain⟨l',x,rfl⟩:∃l' x,l=l'++[x]:=by
    rcases List.eq_nil_or_concat l with e|⟨l',x,e⟩
    ·rw[e]at hm;cases hm
    ·exact⟨l',x,by rw[e,List.concat_eq_append]⟩
   have fZ:l'.length=m:=by simpa using hm
   obtain⟨g,rfl,ay⟩:=h6 (by simp);obtain⟨hx0,wq,qG⟩:=ay m x (by rw[Db (by omega),fZ];simp);have uB:=hp x l' rfl;rw[fZ]at uB;obtain⟨fn,tmps,assign,body,hy,hR⟩:=HY.o _ x l' _ uB;have HR:=EP hR;have oL:((m+1:Nat):Int)-1=(m:Int):=by omega
   have hmc:m<=c:=by omega
   have eL:¬c=0:=by omega
   clear hj h6 hp hm ay uB hR fZ;gi_wp2;refine HR.o.mono ?_;rintro e W3 (⟨rfl,N',l2,af,rj⟩|⟨rfl,xP⟩)
   ·have hle:=(S_ rj).1
    have YF:=EP rj;clear rj;gi_wp2;go_roundw
    case rel=>exact⟨N',l2,YF⟩
    case measure=>omega
   ·have AO:=EP xP
    clear xP;gi_wp2;refine Ce (CQ rfl _ _ _) rfl ?_;exact⟨⟨_,rfl⟩,.inr AO.o⟩
end
end Go.Proofs.YtfafilmklhnngaaGreatDoor
