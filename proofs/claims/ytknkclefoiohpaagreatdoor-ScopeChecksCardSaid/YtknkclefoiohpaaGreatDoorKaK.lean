import Derived.Test.YtknkclefoiohpaaGreatDoorKaJ
import Derived.Laws.OwnMore
set_option maxHeartbeats 12800000
namespace Go.Proofs.YtknkclefoiohpaaGreatDoor
open Go.RowKit Lx Tx
set_option maxRecDepth 100000
theorem zb1:(Tryz.prog.info? 9).map (λi=>(i.zero,i.size,i.bytes))=some (some (.string ⟨#[]⟩),1,16):=by kernel_rfl
theorem zdz {P:Program} {w:World}(base:Nat)(t ty e:TypeId)(i:TypeInfo)(size:Nat)(ht:P.underlying t=some (.slice e))(hi:P.info? e=some i)(v:Value)(n:Nat)(xs:List Value)(ae:w.ownsRow base e size v n xs)(c:Nat):(Builtin.append_ #[t,t] ty #[v,.slice none 0 c]).run P w=.ok v w:=by
 rcases ae.2 with⟨rfl,rfl⟩|⟨g,cap,cur,rfl,_,_,hnc,_⟩
 ·simp[Builtin.append_,run_underlying ht,sizeOf,typeInfo,hi,Builtin.lenOf,Builtin.firstCells]
 ·simp[Builtin.append_,run_underlying ht,sizeOf,typeInfo,hi,Builtin.lenOf,Builtin.firstCells,hnc,storeCells]
theorem zdd {P:Program} {w:World}(base:Nat)(t ty e:TypeId)(i:TypeInfo)(z:Value)(ht:P.underlying t=some (.slice e))(hi:P.info? e=some i)(hz:i.zero=some z)(eH:i.size=1)(la:i.bytes=16)(gW:z.cells.size=1)
  (v u:Value)(n:Nat)(xs:List Value)(l:List (List UInt8))(ae:w.ownsRow base e 1 v n xs)(hu:RowV w u (strV l))(oO:n+l.length<=100000000)(dR:base<=w.heap.size):∃A c w',(Builtin.append_ #[t,t] ty #[v,u]).run P w=.ok (.slice A (n+l.length) c) w'/\w'.ownsRow base e 1 (.slice A (n+l.length) c) (n+l.length) (xs++strV l)/\Below base w w'/\w.grownBy w' v.ownBlock:=by
 obtain⟨A,c,rfl,hc⟩:=hu;rw[zaR]at hc ⊢
 have key:∀ad,A=some ad->(∀j u,(strV l)[j]?=some u->w.cell? (ad.add j)=some u)->∃A' c' w',(Builtin.append_ #[t,t] ty #[v,.slice A l.length c]).run P w=.ok (.slice A' (n+l.length) c') w'/\w'.ownsRow base e 1 (.slice A' (n+l.length) c') (n+l.length) (xs++strV l)/\Below base w w'/\w.grownBy w' v.ownBlock:=by
  rintro ad rfl aZ;obtain⟨v',w',hr,h2,h3,-,-⟩:=run_append_own_at (P:=P) (w:=w) base t ty e i z 1 16 ht hi hz eH la gW (by omega) v n xs ae ad l.length c (strV l) (by rw[zaR,Nat.mul_one]) aZ (znE l) (by unfold maxLen;omega) (by omega) dR;obtain⟨A',c',rfl⟩:=zat h2;exact⟨A',c',w',hr,h2,Below.grown (ua _ w) h3 dR (λk hk=>(ae.lt k hk).1),h3⟩
 cases A with
 |some ad =>
  by_cases h0:l=[]
  ·subst h0
   exact key ad rfl (λj u hu=>by simp[strV]at hu)
  ·obtain⟨a,e,-,aZ⟩:=hc (wF.2 h0)
   injection e with e;subst e;exact key _ rfl (λj u hu=>by rw[zbs];exact aZ j u hu)
 |none =>
  have h0:l=[]:=by
   rcases Nat.eq_zero_or_pos l.length with h|h
   ·exact vw.1 h
   ·obtain⟨a,e,-⟩:=hc h;cases e
  subst h0;obtain⟨A',c',rfl⟩:=zat ae;exact⟨A',c',w,zdz base t ty e i 1 ht hi _ n xs ae c,by simpa[strV] using ae,ua _ _,⟨rfl,rfl,rfl,tV _,λ_ _ _=>rfl⟩⟩
theorem zcA {P:Program} {ops:Array Oper} {rest:List Oper} {o:Oper} {a:Act} {w:World} {Q:Exit->Act->World->Prop}(fu:o.guard=none)(s x:Operand)(t:TypeId)(ho:o.op=.call { callee:=.builtin .append,args:=#[s,x],argTypes:=#[t,t] })
  (base:Nat)(e:TypeId)(i:TypeInfo)(z:Value)(ht:P.underlying t=some (.slice e))(hi:P.info? e=some i)(hz:i.zero=some z)(eH:i.size=1)(la:i.bytes=16)(gW:z.cells.size=1)
  (v u:Value)(n:Nat)(xs:List Value)(l:List (List UInt8))(hs:a.eval s=v)(hx:a.eval x=u)(ae:w.ownsRow base e 1 v n xs)(hu:RowV w u (strV l))(oO:n+l.length<=100000000)(dR:base<=w.heap.size)(m:Nat)(hm:n+l.length=m)(L:List (List UInt8))(hL:xs++strV l=strV L)
  (h:∀A c w',w'.ownsRow base e 1 (.slice A m c) m (strV L)->Below base w w'->w.grownBy w' v.ownBlock->wpList P ops Q rest (a.put o.dst (.slice A m c)) w'):wpList P ops Q (o::rest) a w:=by
 subst hm;rw[<-hL]at h
 refine wpList_plain fu λK hK=>?_;obtain⟨A,c,w',hr,h2,h3,h4⟩:=zdd (P:=P) (w:=w) base t o.type e i z ht hi hz eH la gW v u n xs l ae hu oO dR;unfold Oper.wp execOp;simp only[ho,resolve,invoke,builtin,Sem.run_bind,Sem.run_pure,Result.andThen_ok,List.map_toArray,vI,wh,hs,hx,hr];exact hK _ _ (h A c w' h2 h3 h4)
theorem za4 {P:Program} {ops:Array Oper} {o:Oper} {a:Act} {K:Act->World->Prop} {Q:Exit->Act->World->Prop} {E:Prop} {w:World}(fu:o.guard=none)(s x:Operand)(t:TypeId)
  (ho:o.op=.call { callee:=.builtin .append,args:=#[s,x],argTypes:=#[t,t] })(base:Nat)(e:TypeId)(i:TypeInfo)(z:Value)(ht:P.underlying t=some (.slice e))(hi:P.info? e=some i)(hz:i.zero=some z)(eH:i.size=1)(la:i.bytes=16)(gW:z.cells.size=1)
  (v u:Value)(n:Nat)(xs:List Value)(l:List (List UInt8))(hs:a.eval s=v)(hx:a.eval x=u)(ae:w.ownsRow base e 1 v n xs)(hu:RowV w u (strV l))(oO:n+l.length<=100000000)(dR:base<=w.heap.size)(m:Nat)(hm:n+l.length=m)(L:List (List UInt8))(hL:xs++strV l=strV L)
  (h:∀A c w',w'.ownsRow base e 1 (.slice A m c) m (strV L)->Below base w w'->w.grownBy w' v.ownBlock->K (a.put o.dst (.slice A m c)) w'):if Region.wanted o (yielded ops a.tmps)=true then Oper.wp P o a w K Q else E:=by
 subst hm;rw[<-hL]at h
 have hw:Region.wanted o (yielded ops a.tmps)=true:=by simp[Region.wanted,fu]
 rw[ud hw]
 obtain⟨A,c,w',hr,h2,h3,h4⟩:=zdd (P:=P) (w:=w) base t o.type e i z ht hi hz eH la gW v u n xs l ae hu oO dR;unfold Oper.wp execOp;simp only[ho,resolve,invoke,builtin,Sem.run_bind,Sem.run_pure,Result.andThen_ok,List.map_toArray,vI,wh,hs,hx,hr];exact h A c w' h2 h3 h4
theorem zdK(a b:List (List UInt8)):strV (a++b)=strV a++strV b:=by simp[strV]
theorem RowV.own {w:World} {base m c:Nat} {A:Option Addr} {L:List (List UInt8)} {e:TypeId}(h:w.ownsRow base e 1 (.slice A m c) m (strV L)):RowV w (.slice A m c) (strV L):=RowV.of_own h
theorem RowV.one {w:World} {g:Nat} {X:ByteArray} {fr:Nat × Nat}(h:w.heap[g]?=some (.cells #[.string X] 9 fr)):RowV w (.slice (some ⟨g,0,none⟩) 1 1) (strV [X.data.toList]):=by
 refine⟨some ⟨g,0,none⟩,1,rfl,λ_=>⟨g,rfl,(Array.getElem?_eq_some_iff.1 h).1,λj u hj=>?_⟩⟩;match j,hj with
 |0,hj=>simp[strV]at hj;subst hj;exact cell_of_row _ _ _ _ _ _ h
 |j+1,hj=>simp[strV]at hj
set_option maxRecDepth 100000
theorem zeg(v:Value)(l:List (List UInt8))(X:ByteArray)(w:World)(h:RowV w v (strV l))(hl:l.length<=1000000):Calls Tryz.prog 156 #[v,.string X] w λe w'=>∃v',e=.returned v'/\RowV w' v' (strV (Sx.add1 l X.data.toList))/\Below w.heap.size w w':=by
 obtain⟨i0,bJ,bO,bz,bE⟩:=vz zb1;have gW:(Value.string ⟨#[]⟩).cells.size=1:=rfl;have HH:=wJ (zbE v l X w h hl);obtain⟨q,hq⟩:∃q,decide (X.data.toList∈l)=q:=⟨_,rfl⟩;rw[hq]at HH
 have HV:=wJ h;obtain⟨L,hL⟩:∃L,Sx.add1 l X.data.toList=L:=⟨_,rfl⟩;rw[hL]
 have HL:Hid (L=if q=true then l else l++[X.data.toList]):=wJ (by rw[<-hL,Sx.add1,<-hq];simp);have HN:=wJ hl;clear h hL hq hl;cases q with
 |true =>
  go_enter Tryz.func156,Tryz.ntmps156
  go_wp2_with fail
  refine HH.out.mono ?_;rintro e w1 ⟨rfl,rfl⟩;go_wp2_with fail
  go_ret
  exact⟨_,rfl,by rw[HL.out];exact HV.out,ua _ _⟩
 |false =>
  go_enter Tryz.func156,Tryz.ntmps156
  go_wp2_with fail
  refine HH.out.mono ?_;rintro e w1 ⟨rfl,rfl⟩;go_wp2_with (first
   |(at_builtin;(with_reducible refine zcA rfl (.tmp 11) (.tmp 12) 56 ?_ w.heap.size 9 i0 _ Tryz.underlying56 bJ bO bz bE gW _ v 0 [] l ?_ ?_ (zcK (tW w (.cells #[] 9)) (tV _)) (HV.out.below ((ua _ w).alloc (tV _) _)) (by have:=HN.out;omega) (by simp) l.length (by omega) l (by simp) ?_);(exact rfl);(exact rfl);(exact rfl);intro A2 c2 w2 aY aA _;have cj:=wJ aY;have ar:=wJ (((ua _ w).alloc (tV _) _).trans (aA.mono (by simp)));clear aY aA)
   |(at_builtin;(with_reducible refine zcA rfl (.tmp 13) (.tmp 15) 56 ?_ w.heap.size 9 i0 _ Tryz.underlying56 bJ bO bz bE gW _ _ l.length (strV l) [X.data.toList] ?_ ?_ (cj.out.alloc _) (RowV.one (tW w2 (.cells #[.string X] 9))) (by have:=HN.out;simp;omega) (by have:=ar.out.size;simp;omega) (l.length+1) (by simp) (l++[X.data.toList]) (by rw[zdK]) ?_);(exact rfl);(exact rfl);(exact rfl);intro A3 c3 w3 aj eS _;have dN:=wJ aj;have bU:=wJ ((ar.out.alloc ar.out.size _).trans (eS.mono (by omega)));clear aj eS))
  go_ret
  exact⟨_,rfl,by rw[HL.out];exact RowV.own dN.out,bU.out⟩
end Go.Proofs.YtknkclefoiohpaaGreatDoor
