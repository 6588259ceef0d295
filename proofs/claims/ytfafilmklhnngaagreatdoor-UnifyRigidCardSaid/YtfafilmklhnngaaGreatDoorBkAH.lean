import Derived.Test.YtfafilmklhnngaaGreatDoorBkE
import Derived.Test.YtfafilmklhnngaaGreatDoorBkAE
import Derived.Shelf.RegionOpen
import Derived.OwnWalkIn
import Derived.TacticsInMore
import Derived.LoopNIn
import Derived.LoopIn
set_option maxHeartbeats 12800000
namespace Go.Proofs.YtfafilmklhnngaaGreatDoor
open Go.RowKit Go.Shelf Lx Tx
set_option maxRecDepth 100000
attribute [local go_sem] Oper.semAt_some
structure Eqn where
 l:Nat
 r:Nat
 d:Bool
def eqCells:List Eqn->List Value
 |[]=>[]
 |q::r=>.pointer (some ⟨q.l,0,none⟩)::.pointer (some ⟨q.r,0,none⟩)::.bool q.d::eqCells r
theorem zcz:(l:List Eqn)->(eqCells l).length=l.length*3
 |[]=>rfl
 |q::r=>by rw[eqCells];simp[zcz r];omega
theorem zbH:(l r:List Eqn)->eqCells (l++r)=eqCells l++eqCells r
 |[],r=>rfl
 |q::l,r=>by rw[AE,eqCells,eqCells,zbH l r];rfl
theorem zgj:(l:List Eqn)->(i:Nat)->(q:Eqn)->l[i]?=some q->(eqCells l)[i*3]?=some (.pointer (some ⟨q.l,0,none⟩))/\(eqCells l)[i*3+1]?=some (.pointer (some ⟨q.r,0,none⟩))/\(eqCells l)[i*3+2]?=some (.bool q.d)
 |[],i,q,h=>by simp at h
 |a::r,0,q,h=>by
  simp at h;subst h;exact⟨rfl,rfl,rfl⟩
 |a::r,i+1,q,h=>by
  have:=zgj r i q (by simpa using h);rw[eqCells,show(i+1)*3=i*3+3 by omega]
  exact this
theorem zn6(F:Fence)(n:Nat)(hF:F.fn 184)(kH:F.round=none)(hn:1<=n)(l bx:Nat)(ids:List Nat)(A:Option Addr)(c:Nat)(J:Nat->World->Prop)(hm:ids.length<=1000000000)
  (hb:∀k W,J k W->W.cell? ⟨bx,0,none⟩=some (.slice A ids.length c))
  (hc:∀k W,J k W->∀(j q:Nat),ids[j]?=some q->∃g,A=some ⟨g,0,none⟩/\W.cell? ⟨g,j,none⟩=some (.pointer (some ⟨q,0,none⟩)))
  (hY:∀(k q:Nat)(W:World),J (k+1) W->ids[k]?=some q->YieldAt F (n-1) Tryz.prog l #[.int .i64 (k:Nat),.pointer (some ⟨q,0,none⟩)] W λe W'=>e=.returned (.bool true)/\J k W')
  (W:World)(h0:J ids.length W):CallsIn F n Tryz.prog 184 #[.func (.yield l) #[] #[],.pointer (some ⟨bx,0,none⟩)] W λe W'=>(∃v,e=.returned v)/\J 0 W':=by
 obtain⟨m,dY⟩:∃m,ids.length=m:=⟨_,rfl⟩;have aE:=hb _ _ h0;rw[dY]at aE h0 hm
 have jE:=CS dY;have HB:=CS hb;have HC:=CS hc;have HY:=CS hY;have HJ:=CS h0;clear hb hc hY h0 dY;refine callsIn_of_wp Tryz.func184 rfl hF ?_ kH;simp only[Tryz.ntmps184,Bf,Ao,Be,Nat.reduceAdd,Nat.reduceSub,Bq,Bp,BD,Bu,AL,AE];gi_wp2
 gi_loopw [3] (λi wr=>∃(k:Nat) (z:Int),z=(k:Int)-1/\i=.int .i64 z/\k<=m/\Hid (J k wr)) (λi _=>(intOf i+1).toNat)
 case atStart=>exact⟨m,(m:Int)-1,rfl,rfl,Ai _,HJ⟩
 case round =>
  obtain⟨k,z,hz,rfl,hk,hj⟩:=hrel;clear HJ aE;cases k with
  |zero =>
   obtain rfl:z = -1:=by omega
   have HJ0:=hj;clear hz hj;gi_wp2
   go_end0
   exact⟨⟨_,rfl⟩,HJ0.out⟩
  |succ k =>
   obtain rfl:z=(k:Int):=by omega
   obtain⟨q,hq⟩:∃q,ids[k]?=some q:=⟨_,Ak (by rw[jE.out];omega)⟩;obtain⟨g,rfl,au⟩:=HC.out _ _ hj.out k q hq;have cD:=HB.out _ _ hj.out;rw[jE.out]at cD
   obtain⟨fn,tmps,assign,body,hy,hR⟩:=HY.out k q wr hj.out hq;have HR:=CS hR;have ed:k<m:=by omega
   clear hz hj hq hR;gi_wp2
   refine HR.out.mono ?_;rintro e W3 ⟨rfl,yA⟩;have HJ3:=CS yA;clear yA;gi_wp2
   go_roundw
   case rel=>exact⟨k,(k:Int)-1,rfl,rfl,by omega,HJ3⟩
   case measure=>simp[intOf]
theorem zn7(F:Fence)(n:Nat)(hF:F.fn 117)(kH:F.round=none)(hn:1<=n)(l bx:Nat)(ids:List Eqn)(A:Option Addr)(c:Nat)(J:Nat->World->Prop)(hm:ids.length<=1000000000)
  (hb:∀k W,J k W->W.cell? ⟨bx,0,none⟩=some (.slice A ids.length c))
  (hc:∀k W,J k W->∀(j:Nat)(q:Eqn),ids[j]?=some q->∃g,A=some ⟨g,0,none⟩/\W.cell? ⟨g,j*3,none⟩=some (.pointer (some ⟨q.l,0,none⟩))/\W.cell? ⟨g,j*3+1,none⟩=some (.pointer (some ⟨q.r,0,none⟩))/\W.cell? ⟨g,j*3+2,none⟩=some (.bool q.d))
  (hY:∀(k:Nat)(q:Eqn)(W:World),J (k+1) W->ids[k]?=some q->YieldAt F (n-1) Tryz.prog l #[.int .i64 (k:Nat),.agg #[.pointer (some ⟨q.l,0,none⟩),.pointer (some ⟨q.r,0,none⟩),.bool q.d]] W λe W'=>e=.returned (.bool true)/\J k W')
  (W:World)(h0:J ids.length W):CallsIn F n Tryz.prog 117 #[.func (.yield l) #[] #[],.pointer (some ⟨bx,0,none⟩)] W λe W'=>(∃v,e=.returned v)/\J 0 W':=by
 obtain⟨m,dY⟩:∃m,ids.length=m:=⟨_,rfl⟩;have aE:=hb _ _ h0;rw[dY]at aE h0 hm
 have jE:=CS dY;have HB:=CS hb;have HC:=CS hc;have HY:=CS hY;have HJ:=CS h0;clear hb hc hY h0 dY;refine callsIn_of_wp Tryz.func117 rfl hF ?_ kH;simp only[Tryz.ntmps117,Bf,Ao,Be,Nat.reduceAdd,Nat.reduceSub,Bq,Bp,BD,Bu,AL,AE];gi_wp2
 gi_loopw [3] (λi wr=>∃(k:Nat) (z:Int),z=(k:Int)-1/\i=.int .i64 z/\k<=m/\Hid (J k wr)) (λi _=>(intOf i+1).toNat)
 case atStart=>exact⟨m,(m:Int)-1,rfl,rfl,Ai _,HJ⟩
 case round =>
  obtain⟨k,z,hz,rfl,hk,hj⟩:=hrel;clear HJ aE;cases k with
  |zero =>
   obtain rfl:z = -1:=by omega
   have HJ0:=hj;clear hz hj;gi_wp2
   go_end0
   exact⟨⟨_,rfl⟩,HJ0.out⟩
  |succ k =>
   obtain rfl:z=(k:Int):=by omega
   obtain⟨q,hq⟩:∃q,ids[k]?=some q:=⟨_,Ak (by rw[jE.out];omega)⟩;obtain⟨g,rfl,eO,bc,cw⟩:=HC.out _ _ hj.out k q hq;have cD:=HB.out _ _ hj.out;rw[jE.out]at cD
   obtain⟨fn,tmps,assign,body,hy,hR⟩:=HY.out k q wr hj.out hq;have HR:=CS hR;have ed:k<m:=by omega
   clear hz hj hq hR;gi_wp2
   refine HR.out.mono ?_;rintro e W3 ⟨rfl,yA⟩;have HJ3:=CS yA;clear yA;gi_wp2
   go_roundw
   case rel=>exact⟨k,(k:Int)-1,rfl,rfl,by omega,HJ3⟩
   case measure=>simp[intOf]
theorem zn8(F:Fence)(n:Nat)(hF:F.fn 159)(kH:F.round=none)(a:Option Addr)(len cap:Nat)(w:World):CallsIn F n Tryz.prog 159 #[.slice a len cap] w λe w'=>e=.returned (.func (.func 184) #[] #[.pointer (some ⟨w.heap.size,0,none⟩)])/\w'=w.alloc (.cells #[.slice a len cap] 130):=by
 have iI:∀(fn:Fn) (first cap:Array Value) (w:World),(Instr.makeFunc fn first cap).run Tryz.prog w=.ok (.func fn first cap) w:=λ_ _ _ _=>rfl;refine callsIn_of_wp Tryz.func159 rfl hF ?_ kH;simp only[Tryz.ntmps159,Bf,Ao,Be,Nat.reduceAdd,Nat.reduceSub,Bq,Bp,BD,Bu,AL,AE];gi_wp2
 go_ret
 exact⟨rfl,rfl⟩
theorem zn9(F:Fence)(n:Nat)(hF:F.fn 70)(kH:F.round=none)(a:Option Addr)(len cap:Nat)(w:World):CallsIn F n Tryz.prog 70 #[.slice a len cap] w λe w'=>e=.returned (.func (.func 117) #[] #[.pointer (some ⟨w.heap.size,0,none⟩)])/\w'=w.alloc (.cells #[.slice a len cap] 74):=by
 have iI:∀(fn:Fn) (first cap:Array Value) (w:World),(Instr.makeFunc fn first cap).run Tryz.prog w=.ok (.func fn first cap) w:=λ_ _ _ _=>rfl;refine callsIn_of_wp Tryz.func70 rfl hF ?_ kH;simp only[Tryz.ntmps70,Bf,Ao,Be,Nat.reduceAdd,Nat.reduceSub,Bq,Bp,BD,Bu,AL,AE];gi_wp2
 go_ret
 exact⟨rfl,rfl⟩
attribute [local go_sem] Oper.semAt_some
theorem zoa {C:Nat->Prop}(n:Nat)(h:C n):∃m,C m/\∀k,C k->m<=k:=by
 induction n using Nat.strongRecOn with
 |_ n ih =>
  by_cases hx:∃k,k<n/\C k
  ·obtain⟨k,hk,hc⟩:=hx
   exact ih k hk hc
  ·exact⟨n,h,λk hk=>Nat.le_of_not_lt λhl=>hx ⟨k,hl,hk⟩⟩
noncomputable def zd0 {α:Type}(J:Nat->α->World->Prop)(W:World):Nat:=by
 classical exact if h:∃m,(∃l,J m l W)/\∀k,(∃l,J k l W)->m<=k then Classical.choose h else 0
theorem zcA {α:Type} {J:Nat->α->World->Prop} {W:World} {N:Nat} {l:α}(h:J N l W):zd0 J W<=N/\∃l',J (zd0 J W) l' W:=by
 classical
 have hx:∃m,(∃l,J m l W)/\∀k,(∃l,J k l W)->m<=k:=zoa (C:=λm=>∃l,J m l W) N ⟨l,h⟩;have e:zd0 J W=Classical.choose hx:=by unfold zd0;rw[dif_pos hx]
 rw[e]
 exact⟨(Classical.choose_spec hx).2 N ⟨l,h⟩,(Classical.choose_spec hx).1⟩
def StkP(W:World)(b:Nat)(l:List Nat)(A:Option Addr)(c:Nat):Prop :=
 W.cell? ⟨b,0,none⟩=some (.slice A l.length c)/\W.frozen? ⟨b,0,none⟩=false/\b<W.heap.size/\l.length<=c/\l.length<=1000000000/\(l≠[]->∃g,A=some ⟨g,0,none⟩/\∀(j q:Nat),l[j]?=some q->W.cell? ⟨g,j,none⟩=some (.pointer (some ⟨q,0,none⟩)))
theorem zhB(F:Fence)(n:Nat)(hF:F.fn 120)(kH:F.round=none)(hn:1<=n)(lp b:Nat)(J:Nat->List Nat->World->Prop)(Jp:Nat->Nat->List Nat->World->Prop)(Jx:World->Prop)
  (aI:∀N l W,J N l W->∃A c,StkP W b l A c/\∀x l',l=l'++[x]->Jp N x l' (W.setCell ⟨b,0,none⟩ (.slice A l'.length c)))
  (hY:∀(N x:Nat)(l:List Nat)(W:World),Jp N x l W->YieldAt F (n-1) Tryz.prog lp #[.pointer (some ⟨x,0,none⟩)] W λe W'=>(e=.returned (.bool true)/\∃N' l',N'<N/\J N' l' W')\/(e=.returned (.bool false)/\Jx W'))
  (W:World)(N0:Nat)(l0:List Nat)(h0:J N0 l0 W):CallsIn F n Tryz.prog 120 #[.pointer (some ⟨b,0,none⟩),.func (.yield lp) #[] #[]] W λe W'=>(∃v,e=.returned v)/\((∃N,J N [] W')\/Jx W'):=by
 have dS:=CS aI;have HY:=CS hY;have HJ:=CS h0;clear aI hY h0;refine callsIn_of_wp Tryz.func120 rfl hF ?_ kH;simp only[Tryz.ntmps120,Bf,Ao,Be,Nat.reduceAdd,Nat.reduceSub,Bq,Bp,BD,Bu,AL,AE];gi_wp2
 gi_loopw [] (λwr=>∃(N:Nat) (l:List Nat),Hid (J N l wr)) (λwr=>zd0 J wr)
 case atStart=>exact⟨N0,l0,HJ⟩
 case round =>
  obtain⟨N1,l1,xD⟩:=hrel;clear HJ;obtain⟨-,l,hj⟩:=zcA xD.out;clear xD;obtain⟨A,c,⟨h1,h2,h3,h4,h5,h6⟩,hp⟩:=dS.out _ _ _ hj;obtain⟨m,hm⟩:∃m,l.length=m:=⟨_,rfl⟩;rw[hm]at h1 h4 h5
  have HJ:=CS hj;cases m with
  |zero =>
   have hl:l=[]:=AD hm;have HL:=CS hl;clear hj h6 hp hm hl;gi_wp2
   go_end0
   exact⟨⟨_,rfl⟩,.inl ⟨_,by have:=HJ.out;rw[HL.out]at this;exact this⟩⟩
  |succ m =>
   obtain⟨l',x,rfl⟩:∃l' x,l=l'++[x]:=by
    rcases List.eq_nil_or_concat l with e|⟨l',x,e⟩
    ·rw[e]at hm;cases hm
    ·exact⟨l',x,by rw[e,List.concat_eq_append]⟩
   have e9:l'.length=m:=by simpa using hm
   obtain⟨g,rfl,au⟩:=h6 (by simp);have hx:wr.cell? ⟨g,m,none⟩=some (.pointer (some ⟨x,0,none⟩)):=au m x (by rw[AW (by omega),e9];simp);have sW:=hp x l' rfl;rw[e9]at sW
   obtain⟨fn,tmps,assign,body,hy,hR⟩:=HY.out _ x l' _ sW;have HR:=CS hR;have sN:((m+1:Nat):Int)-1=(m:Int):=by omega
   have hmc:m<=c:=by omega
   have eO:¬c=0:=by omega
   clear hj h6 hp hm au sW hR e9;gi_wp2
   refine HR.out.mono ?_;rintro e W3 (⟨rfl,N',l2,ah,sY⟩|⟨rfl,o7⟩)
   ·have hle:=(zcA sY).1
    have HJ2:=CS sY;clear sY;gi_wp2
    go_roundw
    case rel=>exact⟨N',l2,HJ2⟩
    case measure=>omega
   ·have yZ:=CS o7
    clear o7;gi_wp2
    refine bodyPost_ret (results_none rfl _ _ _) rfl ?_;exact⟨⟨_,rfl⟩,.inr yZ.out⟩
def StkE(W:World)(b:Nat)(l:List Eqn)(A:Option Addr)(c:Nat):Prop :=
 W.cell? ⟨b,0,none⟩=some (.slice A l.length c)/\W.frozen? ⟨b,0,none⟩=false/\b<W.heap.size/\l.length<=c/\l.length<=1000000000/\(l≠[]->∃g,A=some ⟨g,0,none⟩/\∀(j:Nat) (q:Eqn),l[j]?=some q->W.cell? ⟨g,j*3,none⟩=some (.pointer (some ⟨q.l,0,none⟩))/\W.cell? ⟨g,j*3+1,none⟩=some (.pointer (some ⟨q.r,0,none⟩))/\W.cell? ⟨g,j*3+2,none⟩=some (.bool q.d))
theorem zmt(F:Fence)(n:Nat)(hF:F.fn 35)(kH:F.round=none)(hn:1<=n)(lp b:Nat)(J:Nat->List Eqn->World->Prop)(Jp:Nat->Eqn->List Eqn->World->Prop)(Jx:World->Prop)
  (aI:∀N l W,J N l W->∃A c,StkE W b l A c/\∀x l',l=l'++[x]->Jp N x l' ((W.setCell ⟨b,0,none⟩ (.slice A l'.length c)).alloc (.cells #[.pointer (some ⟨x.l,0,none⟩),.pointer (some ⟨x.r,0,none⟩),.bool x.d] 78)))
  (hY:∀(N:Nat)(x:Eqn)(l:List Eqn)(W:World),Jp N x l W->YieldAt F (n-1) Tryz.prog lp #[.agg #[.pointer (some ⟨x.l,0,none⟩),.pointer (some ⟨x.r,0,none⟩),.bool x.d]] W λe W'=>(e=.returned (.bool true)/\∃N' l',N'<N/\J N' l' W')\/(e=.returned (.bool false)/\Jx W'))
  (W:World)(N0:Nat)(l0:List Eqn)(h0:J N0 l0 W):CallsIn F n Tryz.prog 35 #[.pointer (some ⟨b,0,none⟩),.func (.yield lp) #[] #[]] W λe W'=>(∃v,e=.returned v)/\((∃N,J N [] W')\/Jx W'):=by
 have dS:=CS aI;have HY:=CS hY;have HJ:=CS h0;clear aI hY h0;refine callsIn_of_wp Tryz.func35 rfl hF ?_ kH;simp only[Tryz.ntmps35,Bf,Ao,Be,Nat.reduceAdd,Nat.reduceSub,Bq,Bp,BD,Bu,AL,AE];gi_wp2
 gi_loopw [] (λwr=>∃(N:Nat) (l:List Eqn),Hid (J N l wr)) (λwr=>zd0 J wr)
 case atStart=>exact⟨N0,l0,HJ⟩
 case round =>
  obtain⟨N1,l1,xD⟩:=hrel;clear HJ;obtain⟨-,l,hj⟩:=zcA xD.out;clear xD;obtain⟨A,c,⟨h1,h2,h3,h4,h5,h6⟩,hp⟩:=dS.out _ _ _ hj;obtain⟨m,hm⟩:∃m,l.length=m:=⟨_,rfl⟩;rw[hm]at h1 h4 h5
  have HJ:=CS hj;cases m with
  |zero =>
   have hl:l=[]:=AD hm;have HL:=CS hl;clear hj h6 hp hm hl;gi_wp2
   go_end0
   exact⟨⟨_,rfl⟩,.inl ⟨_,by have:=HJ.out;rw[HL.out]at this;exact this⟩⟩
  |succ m =>
   obtain⟨l',x,rfl⟩:∃l' x,l=l'++[x]:=by
    rcases List.eq_nil_or_concat l with e|⟨l',x,e⟩
    ·rw[e]at hm;cases hm
    ·exact⟨l',x,by rw[e,List.concat_eq_append]⟩
   have e9:l'.length=m:=by simpa using hm
   obtain⟨g,rfl,au⟩:=h6 (by simp);obtain⟨hx0,uO,o7⟩:=au m x (by rw[AW (by omega),e9];simp);have sW:=hp x l' rfl;rw[e9]at sW
   obtain⟨fn,tmps,assign,body,hy,hR⟩:=HY.out _ x l' _ sW;have HR:=CS hR;have sN:((m+1:Nat):Int)-1=(m:Int):=by omega
   have hmc:m<=c:=by omega
   have eO:¬c=0:=by omega
   clear hj h6 hp hm au sW hR e9;gi_wp2
   refine HR.out.mono ?_;rintro e W3 (⟨rfl,N',l2,ah,sY⟩|⟨rfl,vU⟩)
   ·have hle:=(zcA sY).1
    have HJ2:=CS sY;clear sY;gi_wp2
    go_roundw
    case rel=>exact⟨N',l2,HJ2⟩
    case measure=>omega
   ·have yZ:=CS vU
    clear vU;gi_wp2
    refine bodyPost_ret (results_none rfl _ _ _) rfl ?_;exact⟨⟨_,rfl⟩,.inr yZ.out⟩
end Go.Proofs.YtfafilmklhnngaaGreatDoor
