/-
  Contracts of the code's functions, part 13.
-/
import Derived.Test.YtmbmjneibkihkaaGreatDoorDaL
import Derived.Test.YtmbmjneibkihkaaGreatDoorDaF
import Derived.Laws.OwnMore
import Derived.Maps.AppendAt
import Derived.Deep.AppendLies
namespace Go.Proofs.YtmbmjneibkihkaaGreatDoor
open Go.RowKit Lx Tx
set_option maxRecDepth 100000
theorem rg_str_info:(Tryz.prog.info? 9).map (λi=>(i.zero,i.size,i.bytes))=some (some (.string ⟨#[]⟩),1,16):=by kernel_rfl
theorem rg_append_none {P:Program} {w:World}(base:Nat)(t ty e:TypeId)(i:TypeInfo)(size:Nat)(ht:P.underlying t=some (.slice e))(hi:P.info? e=some i)(v:Value)(n:Nat)(xs:List Value)(hown:w.ownsRow base e size v n xs)(c:Nat) :
  (Builtin.append_ #[t,t] ty #[v,.slice none 0 c]).run P w=.ok v w:=by
 rcases hown.2 with⟨rfl,rfl⟩|⟨g,cap,cur,rfl,_,_,hnc,_⟩
 ·simp[Builtin.append_,run_underlying ht,sizeOf,typeInfo,hi,Builtin.lenOf,Builtin.firstCells]
 ·simp[Builtin.append_,run_underlying ht,sizeOf,typeInfo,hi,Builtin.lenOf,Builtin.firstCells,hnc,storeCells]
theorem run_append_rowV {P:Program} {w:World}(base:Nat)(t ty e:TypeId)(i:TypeInfo)(z:Value)(ht:P.underlying t=some (.slice e))(hi:P.info? e=some i)(hz:i.zero=some z)(hsize:i.size=1)(hby:i.bytes=16)(hzs:z.cells.size=1)
  (v u:Value)(n:Nat)(xs:List Value)(l:List (List UInt8))(hown:w.ownsRow base e 1 v n xs)(hu:RowV w u (strV l))(h63:n+l.length<=100000000)(hbase:base<=w.heap.size) :
  ∃A c w',(Builtin.append_ #[t,t] ty #[v,u]).run P w=.ok (.slice A (n+l.length) c) w'/\w'.ownsRow base e 1 (.slice A (n+l.length) c) (n+l.length) (xs++strV l)/\Below base w w'/\w.grownBy w' v.ownBlock:=by
 obtain⟨A,c,rfl,hc⟩:=hu
 rw[strV_len]at hc ⊢
 have key:∀ad,A=some ad->(∀j u,(strV l)[j]? = some u->w.cell? (ad.add j)=some u)->∃A' c' w',(Builtin.append_ #[t,t] ty #[v,.slice A l.length c]).run P w=.ok (.slice A' (n+l.length) c') w'/\w'.ownsRow base e 1 (.slice A' (n+l.length) c') (n+l.length) (xs++strV l)/\Below base w w'/\w.grownBy w' v.ownBlock:=by
  rintro ad rfl hcell
  obtain⟨v',w',hr,h2,h3,-,-⟩:=run_append_own_at (P:=P) (w:=w) base t ty e i z 1 16 ht hi hz hsize hby hzs (by omega) v n xs hown ad l.length c (strV l) (by rw[strV_len,Nat.mul_one]) hcell (one_strV l) (by unfold maxLen;omega) (by omega) hbase
  obtain⟨A',c',rfl⟩:=own_shape h2
  exact⟨A',c',w',hr,h2,Below.grown (Below.refl _ w) h3 hbase (λk hk=>(hown.lt k hk).1),h3⟩
 cases A with
 | some ad =>
  by_cases h0:l=[]
  ·subst h0
   exact key ad rfl (λj u hu=>by simp[strV]at hu)
  ·obtain⟨a,e,-,hcell⟩:=hc (List.length_pos_iff.2 h0)
   injection e with e
   subst e
   exact key _ rfl (λj u hu=>by rw[add_zero_addr];exact hcell j u hu)
 | none =>
  have h0:l=[]:=by
   rcases Nat.eq_zero_or_pos l.length with h|h
   ·exact List.length_eq_zero_iff.1 h
   ·obtain⟨a,e,-⟩:=hc h;cases e
  subst h0
  obtain⟨A',c',rfl⟩:=own_shape hown
  exact⟨A',c',w,rg_append_none base t ty e i 1 ht hi _ n xs hown c,by simpa[strV] using hown,Below.refl _ _,⟨rfl,rfl,rfl,Nat.le_refl _,λ_ _ _=>rfl⟩⟩
theorem wpList_append_rowV {P:Program} {ops:Array Oper} {rest:List Oper} {o:Oper} {a:Act} {w:World} {Q:Exit->Act->World->Prop}(hgd:o.guard=none)(s x:Operand)(t:TypeId)(ho:o.op=.call { callee:=.builtin .append,args:=#[s,x],argTypes:=#[t,t] })
  (base:Nat)(e:TypeId)(i:TypeInfo)(z:Value)(ht:P.underlying t=some (.slice e))(hi:P.info? e=some i)(hz:i.zero=some z)(hsize:i.size=1)(hby:i.bytes=16)(hzs:z.cells.size=1)
  (v u:Value)(n:Nat)(xs:List Value)(l:List (List UInt8))(hs:a.eval s=v)(hx:a.eval x=u)(hown:w.ownsRow base e 1 v n xs)(hu:RowV w u (strV l))(h63:n+l.length<=100000000)(hbase:base<=w.heap.size)(m:Nat)(hm:n+l.length=m)(L:List (List UInt8))(hL:xs++strV l=strV L)
  (h:∀A c w',w'.ownsRow base e 1 (.slice A m c) m (strV L)->Below base w w'->w.grownBy w' v.ownBlock->wpList P ops Q rest (a.put o.dst (.slice A m c)) w'):wpList P ops Q (o::rest) a w:=by
 subst hm
 rw[<-hL]at h
 refine wpList_plain hgd λK hK=>?_
 obtain⟨A,c,w',hr,h2,h3,h4⟩:=run_append_rowV (P:=P) (w:=w) base t o.type e i z ht hi hz hsize hby hzs v u n xs l hown hu h63 hbase
 unfold Oper.wp execOp
 simp only[ho,resolve,invoke,builtin,Sem.run_bind,Sem.run_pure,Result.andThen_ok,List.map_toArray,List.map_cons,List.map_nil,hs,hx,hr]
 exact hK _ _ (h A c w' h2 h3 h4)
theorem step_append_rowV {P:Program} {ops:Array Oper} {o:Oper} {a:Act} {K:Act->World->Prop} {Q:Exit->Act->World->Prop} {E:Prop} {w:World}(hgd:o.guard=none)(s x:Operand)(t:TypeId)
  (ho:o.op=.call { callee:=.builtin .append,args:=#[s,x],argTypes:=#[t,t] })(base:Nat)(e:TypeId)(i:TypeInfo)(z:Value)(ht:P.underlying t=some (.slice e))(hi:P.info? e=some i)(hz:i.zero=some z)(hsize:i.size=1)(hby:i.bytes=16)(hzs:z.cells.size=1)
  (v u:Value)(n:Nat)(xs:List Value)(l:List (List UInt8))(hs:a.eval s=v)(hx:a.eval x=u)(hown:w.ownsRow base e 1 v n xs)(hu:RowV w u (strV l))(h63:n+l.length<=100000000)(hbase:base<=w.heap.size)(m:Nat)(hm:n+l.length=m)(L:List (List UInt8))(hL:xs++strV l=strV L)
  (h:∀A c w',w'.ownsRow base e 1 (.slice A m c) m (strV L)->Below base w w'->w.grownBy w' v.ownBlock->K (a.put o.dst (.slice A m c)) w') :
  if Region.wanted o (yielded ops a.tmps)=true then Oper.wp P o a w K Q else E:=by
 subst hm
 rw[<-hL]at h
 have hw:Region.wanted o (yielded ops a.tmps)=true:=by simp[Region.wanted,hgd]
 rw[if_pos hw]
 obtain⟨A,c,w',hr,h2,h3,h4⟩:=run_append_rowV (P:=P) (w:=w) base t o.type e i z ht hi hz hsize hby hzs v u n xs l hown hu h63 hbase
 unfold Oper.wp execOp
 simp only[ho,resolve,invoke,builtin,Sem.run_bind,Sem.run_pure,Result.andThen_ok,List.map_toArray,List.map_cons,List.map_nil,hs,hx,hr]
 exact h A c w' h2 h3 h4
theorem strV_app(a b:List (List UInt8)):strV (a++b)=strV a++strV b:=by simp[strV]
theorem RowV.own {w:World} {base m c:Nat} {A:Option Addr} {L:List (List UInt8)} {e:TypeId}(h:w.ownsRow base e 1 (.slice A m c) m (strV L)):RowV w (.slice A m c) (strV L):=RowV.of_own h
theorem RowV.one {w:World} {g:Nat} {X:ByteArray} {fr:Nat × Nat}(h:w.heap[g]? = some (.cells #[.string X] 9 fr)):RowV w (.slice (some ⟨g,0,none⟩) 1 1) (strV [X.data.toList]):=by
 refine⟨some ⟨g,0,none⟩,1,rfl,λ_=>⟨g,rfl,(Array.getElem?_eq_some_iff.1 h).1,λj u hj=>?_⟩⟩
 match j,hj with
 | 0,hj=>simp[strV]at hj;subst hj;exact cell_of_row _ _ _ _ _ _ h
 | j+1,hj=>simp[strV]at hj
end Go.Proofs.YtmbmjneibkihkaaGreatDoor

namespace Go.Proofs.YtmbmjneibkihkaaGreatDoor
open Go.RowKit Lx Tx
set_option maxRecDepth 100000
set_option maxHeartbeats 1600000 in
theorem d9_add(v:Value)(l:List (List UInt8))(X:ByteArray)(w:World)(h:RowV w v (strV l))(hl:l.length<=1000000) :
  Calls Tryz.prog 120 #[v,.string X] w λe w'=>∃v',e=.returned v'/\RowV w' v' (strV (Sx.add1 l X.data.toList))/\Below w.heap.size w w':=by
 obtain⟨i0,hi0,hz0,hz1,hz2⟩:=info_parts rg_str_info
 have hzs:(Value.string ⟨#[]⟩).cells.size=1:=rfl
 have HH:=hidE (ref2_has v l X w h hl)
 obtain⟨q,hq⟩:∃q,decide (X.data.toList∈l)=q:=⟨_,rfl⟩
 rw[hq]at HH
 have HV:=hidE h
 obtain⟨L,hL⟩:∃L,Sx.add1 l X.data.toList=L:=⟨_,rfl⟩
 rw[hL]
 have HL:Hid (L=if q=true then l else l++[X.data.toList]):=hidE (by rw[<-hL,Sx.add1,<-hq];simp)
 have HN:=hidE hl
 clear h hL hq hl
 cases q with
 | true =>
  go_enter Tryz.func120,Tryz.ntmps120
  go_wp2_with fail
  refine HH.out.mono ?_
  rintro e w1 ⟨rfl,rfl⟩
  go_wp2_with fail
  go_ret
  exact⟨_,rfl,by rw[HL.out];exact HV.out,Below.refl _ _⟩
 | false =>
  go_enter Tryz.func120,Tryz.ntmps120
  go_wp2_with fail
  refine HH.out.mono ?_
  rintro e w1 ⟨rfl,rfl⟩
  go_wp2_with (first
   |(at_builtin;(with_reducible refine wpList_append_rowV rfl (.tmp 11) (.tmp 12) 56 ?_ w.heap.size 9 i0 _ Tryz.underlying56 hi0 hz0 hz1 hz2 hzs _ v 0 [] l ?_ ?_ (owns_empty (heap_alloc_new w (.cells #[] 9)) (Nat.le_refl _)) (HV.out.below ((Below.refl _ w).alloc (Nat.le_refl _) _)) (by have:=HN.out;omega) (by simp) l.length (by omega) l (by simp) ?_);(exact rfl);(exact rfl);(exact rfl);intro A2 c2 w2 hown2 hb2 _;have HO2:=hidE hown2;have HB2:=hidE (((Below.refl _ w).alloc (Nat.le_refl _) _).trans (hb2.mono (by simp)));clear hown2 hb2)
   |(at_builtin;(with_reducible refine wpList_append_rowV rfl (.tmp 13) (.tmp 15) 56 ?_ w.heap.size 9 i0 _ Tryz.underlying56 hi0 hz0 hz1 hz2 hzs _ _ l.length (strV l) [X.data.toList] ?_ ?_ (HO2.out.alloc _) (RowV.one (heap_alloc_new w2 (.cells #[.string X] 9))) (by have:=HN.out;simp;omega) (by have:=HB2.out.size;simp;omega) (l.length+1) (by simp) (l++[X.data.toList]) (by rw[strV_app]) ?_);(exact rfl);(exact rfl);(exact rfl);intro A3 c3 w3 hown3 hb3 _;have HO3:=hidE hown3;have HB3:=hidE ((HB2.out.alloc HB2.out.size _).trans (hb3.mono (by omega)));clear hown3 hb3))
  go_ret
  exact⟨_,rfl,by rw[HL.out];exact RowV.own HO3.out,HB3.out⟩
end Go.Proofs.YtmbmjneibkihkaaGreatDoor
